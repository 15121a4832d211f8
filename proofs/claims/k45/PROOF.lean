import PyProof.Rows.All
import Wide.All
import OpenK.AllK
import Wide.FinOn
import Lean
import PyProof.EqAt
import PyProof.EqKinds
import PyProof.TupleCall
import PyProof.NeData
import PyProof.P3In
import PyProof.ListRange
import PyProof.TupleOfStr
import PyProof.Rows.SumAny
import PyProof.Rows.Range3
import PyProof.StrCalls
import PyProof.Rows.SetFrom
import PyProof.WalksMore
import PyProof.TupleOfSeq
import KE.KRevSl
import KE.KLam
import KE.KSortKey
import KE.KNestM
import OpenK.KOwn
import KE.KIsNot
import KE.KTryMore
import PyProof.DictTable
import PyProof.Rows.TupDisplay
import PyProof.ReprLen
import PyProof.ReprRoads
import KE.KDictOf
import PyProof.AttrMissHeap
import PyProof.NeKinds
import PyProof.ZipIter
import PyProof.DictCompW
import PyProof.DictItems
import PyProof.DictWalks
import PyProof.DictDisplay
import PyProof.ExcAttrAll.ValueError
import PyProof.TupleKey
import PyProof.IsRules
import KE.KDictList
import KE.KDictSum
import PyProof.FactsAll.set_1
import PyProof.FactsAll.set_2
import PySem.Challenge.RW_cellships_k45_the_number_of_a_picture
open PySem.W renaming Frag → Ho, nsIn → Ib, kitOne → IN, mg_of → IS, kia_one → Je, fnOf → JP, keepIn → KE, excIn → Lq, codeIn → Ml, exmOne → Ms, kitAny → Mt, methodObj → Mu, kitx_list → Mx, kitx_dict → Mz, cellsFrom_some → MW, instObj → M6, OpenLaw → Na, lookIn → NK, kitx_tuple → N6, callWith_K → N8, looks_findIn → OL
open PySem renaming wpAny_bind → Hq, Value → Ht, Shared → Hv, wpAny_pure → Hw, starEach → HN, mainGlobals → HW, foldedSetIterable → HY, wpAny_mono → Ih, sizeLine → Ii, Program → Ip, model → IB, mem_of_lookup → II, wpAny → IJ, sizeLine_eq → IL, wpAny_newObj_type → IU, bootBuiltins → IZ, wpAny_holding → Jc, wpAny_standAt → Jd, World → Ji, Around → Js, wpAny_call_entry → Jx, compareOp → JB, NameKind → JF, attributeBase → JN, wpAny_comprehension_free → JT, Scope → JX, wpAny_dictEntries → J3, backTo → J9, wpAny_rule → Kc, swapsWith → Ke, tupleKind_room_in1 → Kh, wpAny_setField_rec → Kj, compEnvC → Kn, wpAny_truthy_bool → Ko, assignEach → Kp, wpAny_passesOwn → Kq, binaryOp → Kw, FuncData → Kx, wpAny_callSpecial?_slot → Kz, sysModules → KD, codeAny → KG, letOwnedTupleGo → KJ, DictEntry → KM, theTreesLotGoes → KO, wpAny_dictEpoch → KP, wpAny_attempt → KW, wpAny_newFunctionEnv → K2, codeAny_loop → Lb, standAt → Le, holding → Lg, behindInMarks → Li, wpAny_Call_Name_kw → Lj, cLine → Ls, wpAny_Call_method_late → Lu, codeAny_compStart_list → Lv, wpAny_isOneOf_itemiter → Lx, keywordEach → LA, Keyword → LB, call_meets → LC, list_append → LD, wpAny_noted → LF, IsItemIter → LI, compTurn → LJ, tupleKind → LM, assign → LO, wpAny_notOrdered_dict → LR, wpAny_execs_nil → L5, again → Mf, codeAny_mono → Mi, wpAny_fieldsOf → Mq, firstArgMember → Mr, wpAny_assign_Name → Mw, wpAny_pyIter_slot → MJ, swapsWithSole → MK, swappedStores → ML, wpAny_Call_method0_late → MN, wpAny_newList → MQ, wpAny_execs_cons → MS, pyNext → MT, wpAny_askSetting → MU, codeAny_compStart_dict → MZ, noteFrame → Nb, exec_Assign_Name_used → Nd, codeAny_builtin → Nf, codeAny_of_tree → Ng, wpAny_isOneOf_keyiter → Nk, bindArgs → Nu, backToKw → Nv, wpAny_loadName_local → Ny, codeAny_call_builtin → NC, wpAny_bindName → NI, pyIter → NJ, wpAny_newTuple → NL, wpAny_loadName_cell → NS, evalArgs_none → NU, relabel → NV, wpAny_field → N1, wpAny_raiseNew_none → N3, assignInOrder → N5, compPost → N9, comprehension → Oa, wpAny_dictSet_heap → Ob, wpAny_notedAt → Od, BindsTo → On, wpAny_call → Oo, callerA → Os, arm_eval_DictComp → Ox, wpAny_pyIter_enum → OA, isTrue → OF, concat_meets → OG, seqIndex_neg → OH, atKey → OQ, Operator → OR, bindName → OS, setItem → OV, PassesOwn → OW, seqIndex_of → OX, ItemsOf → O0, Model → O4, Paired → O5, builtinsNs → O6, wpAny_Name → O7, typeIs_int → O8, call → Pd, hashInt → Pe, intKind → Pf, bindL → Pg, bindC → Ph
open List renaming mem_append_right → Hr, getElem?_eq_getElem → Hu, mem_cons_self → Hx, length_map → Hz, size_toArray → HD, range → HF, replicate → HH, map_cons → HJ, length_append → HK, getElem?_map → HQ, mem_append_left → HR, append_assoc → HU, getElem?_append_right → HV, map_append → HX, getElem?_set_ne → Ia, mem_cons_of_mem → Ic, getElem?_append_left → Ie, set_cons_zero → Ig, getD_eq_getElem?_getD → Im, map_map → Iq, cons_append → Iu, getElem?_set_self → Iw, set_cons_succ → Iy, map_nil → Iz, nil_append → IA, take_append_drop → IC, length_range → ID, length_cons → IM, append_nil → IV, map_congr_left → IW, take_length → I0, replicate_succ → Jk, eq_nil_of_length_eq_zero → Jn, mem_of_getElem? → Jp, filter_append → Jr, find?_cons → Jw, filter_congr → Jy, mem_singleton → Jz, drop_eq_getElem_cons → JC, mem_append → JD, flatMap_cons → JE, getElem?_cons_succ → JH, flatMap_append → JL, mem_cons → JO, perm_append_comm → JR, length_filter_le → JS, length_take → JU, mem_of_mem_take → JW, flatten_cons → JZ, length_nil → J5, drop_eq_nil_of_le → J8, length_replicate → Kf, length_singleton → Kg, getElem?_eq_none → Ki, length → Kk, filter_map → Ku, getElem?_replicate → Ky, lookup_cons → KA, take_of_length_le → KH, range_succ → KS, ext_getElem? → KY, perm_ext_iff_of_nodup → K0, mem_of_mem_drop → K3, all_eq_true → K6, getD_cons_zero → K8, getD_cons_succ → K9, getElem?_range → La, foldl_cons → Lk, mem_filter → Lp, filter_filter → Lr, pairwise_map → LH, flatMap_nil → LW, filterMap_cons → L4, forIn_cons → L6, length_flatMap → Mc, extract_eq_take_drop → Mn, pairwise_iff_getElem → Mp, eq_of_mem_replicate → MD, eraseIdx_cons_succ → MO, map_flatMap → MV, of_mem_zip → M8, mem_map → Nm, sum_append → Nt, pairwise_append → ND, getElem?_append → NG, nodup_nil → NO, drop_zero → NQ, getElem_of_mem → NX, map_id → N0, map_eq_flatMap → N4, sum_cons → Oe, getElem_range → Of, take_add_one → Ov, getElem?_set → Oz, count_append → OB, nodup_append → OC, flatMap → OO, map → OT, idxOf? → OY, foldl → O9
open PySem.Heap renaming get?_push_of_some → Hs, lt_size → HM, get?_push_size → HP, get?_update_other → JA, size_push → Kl, get?_update_self → M9, SameBut → OE
open Bool renaming false_ne_true → Hy, and_eq_true → Ik, false_eq_true → Jq, eq_iff_iff → Ju, true_and → KZ, false_and → K4, not_eq_true' → Ow, eq_false_iff → OD
open Nat renaming le_refl → HA, lt_of_lt_of_le → HS, le_of_ble_eq_true → Ir, ne_of_lt → IE, lt_irrefl → Jb, le_trans → Jf, pow_le_pow_right → Jg, zero_le → JV, lt_succ_self → KB, succ_mul → KL, le_succ → KN, zero_add → Lc, mul_le_mul → LL, le_of_lt → LN, le_of_eq → LP, mul_le_mul_right → LX, add_assoc → LZ, div_div_eq_div_mul → M5, ne_of_gt → M7, min_eq_left → Nh, pow_succ → Np, two_pow_pos → Nr, mul_comm → OI, sub_self → OM, add_zero → ON, ble → OZ, pow_add → O3
open PyProof.Rows renaming wpS_bind → HB, arrOf → HE, wpS_pure → HG, Keyed → HZ, pendingOf → Il, wpS_forRange → IR, wpS_modify → Jo, reverseSlice'_eq → JI, wpS_mono → JJ, SortSt → JK, callWith_type1 → J4, mirror → KC, failedOf → KI, SortKind → LK, seqObj → LQ, wpS_get → LV, AllBare → L3, envOfC → L7, assignInOrder_cons → Mh, setArr → Mj, KeyOrd → MC, listUpdate_at → MP, wpS_lift → MR, subscriptTail_builtinR → MY, seqEpoch_at → NW, getElem?_mirror_all → NY, assignInOrder_nil → Ol, IntsAre → Oq, setPending → Oy
open Or renaming inl → HC, inr → Jm
open Option.some renaming inj → Ij
open PySem.NameKind renaming free → Io, cell → Jl
open PyProof.Rows.KeyOrd renaming kle_trans → IF, kle_of_klt → Ja, kle_refl → Ks, klt_of_kle_of_klt → MG
open PySem.Value renaming ref → IG, none → IP, int → L1, isInt → NR, bool → Oi, type → Oj, str → OU
open Array renaming length_toList → IK, toList_append → IQ, getElem?_toList → Jj, getElem?_eq_getElem → Km, getElem?_eq_none → Ly, toList_push → LG, getElem?_setIfInBounds → L0, getD_eq_getD_getElem? → Ma, reverse_reverse → Ni, toArray_toList → NA, reverse_append → NF
open Classical renaming byContradiction → IT
open PySem.PassesOwn renaming never → IY
open Int renaming toNat_natCast → Jh, natCast_pow → Kt, ediv_nonneg → KR, zero_add → LS, natCast_add → Md, fdiv_eq_ediv_of_nonneg → Mg, emod_lt_of_pos → Mk, emod_nonneg → Nl, pow_succ → Nn, ediv_lt_of_lt_mul → Nq, le_of_lt → OP, one_mul → O1, pow_add → O2
open PySem.Obj renaming mapSeq → Jt, data_mapDictKeys → NH
open ForInStep renaming yield → JG
open PySem.Paired renaming length → JM
open List.Perm renaming append_left → JQ, append_right → Lw
open PySem.Builtin.Dict_items renaming ownsTuple → JY, ownedTupleFields → K7
open PySem.PyData renaming eqv → J1, eqvAll → LY, depthAll → L8, canLayAll0 → ME, canLay0 → NN, depth → OJ
open PySem.Heap.SameBut renaming update → J6
open PySem.Calls renaming callWith_builtin → J7, evalArgs_plain → K1, Name_function_global → Me, call_function_entry → Mm, spliced_cons → N7, spliced_nil → Om
open Ne renaming symm → Ka
open PySem.F renaming excBase_ValueError → Kb, plainAttrs_list → Ll, plainAttrs_dict → Lo, args_tuple_add_2 → MA, entry_tuple_add → MM, slot_tuple_add → MX
open PySem.Builtin.List renaming listTooLong → Kr
open PySem.Builtin.Range renaming rangeSize → Kv, small → L9
open PySem.Builtin.Dict renaming showsAll → KQ
open False renaming elim → KU
open PySem.Builtin renaming bitAnd → K5
open List.Pairwise renaming imp_of_mem → Ld, nil → Ot
open PySem.Data renaming cell → Lh, seq → Nw, fields → NT
open Function renaming comp → Lm, comp_def → MB
open List.cons renaming injEq → Ln, inj → Oc
open True renaming intro → Lz
open PySem.IsL renaming update → LU
open Array.Perm renaming refl → Mb
open Option renaming isSome_map → MF
open PySem.Str renaming ofString → Nj
open PySem.Around renaming under_plainId → Nz
open Prod.mk renaming inj → NZ
open Sum renaming inl → Og, inr → Oh
open PyProof.Rows.SortSt renaming mk' → Ou
set_option Elab.async false
set_option linter.all false
set_option bootstrap.genMatcherCode false
set_option genSizeOf false
set_option maxRecDepth 100000
set_option maxHeartbeats 4000000
namespace L2
open PySem PySem.Spec PyProof.Rows
abbrev Key:=Sum Int Str
def zk:Key->Ht->Bool
 | .inl k,v=>NR k v
 | .inr x,v=>Value.isStrOf x v
def GZ (w:Ji):Key->Int
 | .inl k=>Pe k
 | .inr x=>hashStr w x
theorem bE:∀{k:Key} {v:Ht},zk k v=true->(∃i t,k=Og i/\v=L1 i t)\/(∃x t,k=Oh x/\v=OU x t)
 | .inl i,v,h=>by
  obtain ⟨t,e⟩:=Value.isInt_shape (k:=i) (v:=v) h
  exact .inl ⟨i,t,rfl,e⟩
 | .inr x,v,h=>by
  obtain ⟨t,e⟩:=Value.isStrOf_shape (x:=x) (v:=v) h
  exact .inr ⟨x,t,rfl,e⟩
theorem A1 (a b:Int):decide ((Og a:Key)=Og b)=(a==b):=by
 by_cases e:a=b
 ·subst e;simp
 ·have h:¬ (Og a:Key)=Og b:=λq=>e (Sum.inl.inj q)
  rw[decide_eq_false h]
  exact (beq_eq_false_iff_ne.mpr e).symm
theorem A3 (a b:Str):decide ((Oh a:Key)=Oh b)=decide (a=b):=by
 by_cases e:a=b
 ·subst e;simp
 ·have h:¬ (Oh a:Key)=Oh b:=λq=>e (Sum.inr.inj q)
  rw[decide_eq_false h,decide_eq_false e]
theorem A4 (a:Int) (b:Str):decide ((Og a:Key)=Oh b)=false:=decide_eq_false (λq=>nomatch q)
theorem A5 (a:Str) (b:Int):decide ((Oh a:Key)=Og b)=false:=decide_eq_false (λq=>nomatch q)
def kn (prog:Ip) (w:Ji):PySem.KeyKind prog w Key where
 is:=zk
 hash:=GZ w
 inj:=λv a b ha hb=>by
  rcases bE ha with ⟨i,t,rfl,rfl⟩ | ⟨x,t,rfl,rfl⟩
  ·rcases bE hb with ⟨j,u,rfl,e⟩ | ⟨y,u,rfl,e⟩
   ·injection e with e1 _;rw[e1]
   ·exact nomatch e
  ·rcases bE hb with ⟨j,u,rfl,e⟩ | ⟨y,u,rfl,e⟩
   ·exact nomatch e
   ·injection e with e1 _;rw[e1]
 byValue:=λk v h=>by
  rcases bE h with ⟨i,t,rfl,rfl⟩ | ⟨x,t,rfl,rfl⟩ <;> rfl
 pyHash:=λhv h=>by
  rcases bE hv with ⟨i,t,rfl,rfl⟩ | ⟨x,t,rfl,rfl⟩
  ·exact wpAny_pyHash_int h
  ·exact wpAny_pyHash_str h
 eqBool:=λhu hv h=>by
  rcases bE hu with ⟨i,t,rfl,rfl⟩ | ⟨x,t,rfl,rfl⟩
  ·rcases bE hv with ⟨j,u,rfl,rfl⟩ | ⟨y,u,rfl,rfl⟩
   ·rw[A1] at h;exact wpAny_eqBool_int h
   ·rw[A4] at h;exact SeqAt.EqAt.int_str i t y u _ _ _ _ h
  ·rcases bE hv with ⟨j,u,rfl,rfl⟩ | ⟨y,u,rfl,rfl⟩
   ·rw[A5] at h;exact SeqAt.EqAt.str_int x t j u _ _ _ _ h
   ·rw[A3] at h;exact wpAny_eqBool_str h
 «strs»:=λk x t v h=>by
  rcases bE h with ⟨i,u,rfl,e⟩ | ⟨y,u,rfl,e⟩
  ·exact nomatch e
  ·injection e with e1 _
   subst e1
   cases v <;> rfl
end L2
namespace L2
open PySem PySem.Spec PyProof.Rows
inductive V where
 | non | bl (b:Bool) | int (i:Int) | str (x:Str) | byt (b:Array UInt8) | flt (b:UInt64) | ref (a:Addr) | ty (n:String)
 deriving DecidableEq
def RelV:V->Ht->Prop
 | .non,u=>u=IP
 | .bl b,u=>u=Oi b
 | .int i,u=>∃t,u=L1 i t
 | .str x,u=>∃t,u=OU x t
 | .byt b,u=>∃t,u=Value.bytes b t
 | .flt b,u=>∃t,u=Value.float b t
 | .ref a,u=>u=IG a
 | .ty n,u=>u=Oj n
abbrev Pm:List V->List Ht->Prop:=O5 RelV
theorem Pm.length {xs:List V} {us:List Ht} (r:Pm xs us):xs.length=us.length:=JM r
theorem Pm.get:∀{xs:List V} {us:List Ht} {i:Nat} {x:V},Pm xs us->xs[i]?=some x->∃u,us[i]?=some u/\RelV x u
 | _,_,_,_,.nil,e=>by simp at e
 | _,_,0,_,.cons r _,e=>by simp at e;subst e;exact ⟨_,rfl,r⟩
 | _,_,i+1,x,.cons _ t,e=>by
  obtain ⟨u,h1,h2⟩:=Pm.get (i:=i) (x:=x) t (by simpa using e)
  exact ⟨u,by simpa using h1,h2⟩
theorem Pm.set {x:V} {u:Ht} (r:RelV x u):∀{xs:List V} {us:List Ht} (i:Nat),Pm xs us->Pm (xs.set i x) (us.set i u)
 | _,_,_,.nil=>.nil
 | _,_,0,.cons _ t=>.cons r t
 | _,_,i+1,.cons q t=>.cons q (Pm.set r i t)
theorem Pm.append:∀{xs ys:List V} {us ws:List Ht},Pm xs us->Pm ys ws->Pm (xs++ys) (us++ws)
 | _,_,_,_,.nil,s=>s
 | _,_,_,_,.cons r t,s=>.cons r (Pm.append t s)
theorem Pm.take:∀{xs:List V} {us:List Ht} (n:Nat),Pm xs us->Pm (xs.take n) (us.take n)
 | _,_,0,_=>.nil
 | _,_,_+1,.nil=>.nil
 | _,_,n+1,.cons r t=>.cons r (Pm.take n t)
theorem Pm.drop:∀{xs:List V} {us:List Ht} (n:Nat),Pm xs us->Pm (xs.drop n) (us.drop n)
 | _,_,0,r=>r
 | _,_,_+1,.nil=>.nil
 | _,_,n+1,.cons _ t=>Pm.drop n t
def Sv:Option V->Option Ht->Prop
 | some v,some u=>RelV v u
 | none,none=>True
 | _,_=>False
def KV {κ:Type}:List (κ×V)->List (κ×Ht)->Prop:=O5 λ(p:κ×V) (q:κ×Ht)=>p.1=q.1/\RelV p.2 q.2
def kV:Key->V
 | .inl i=>.int i
 | .inr x=>.str x
inductive HO where
 /-- a list -/
 | lst (xs:List V)
 /-- a tuple (never changes) -/
 | tup (xs:List V)
 /-- a dict whose keys are ints and texts;one whose keys are tuples of ints and texts (QG empty one is both) -/
 | dK (kvs:List (Key×V)) | dT (kvs:List (List Key×V))
 /-- a set of ints: its members,its size -/
 | set (S:Int->Bool) (n:Nat)
 /-- an instance of QG class at C,its dict at dx,its attributes -/
 | ins (C dx:Addr) (fs:List (Str×V))
 /-- QG dict of QG instance at x -/
 | own (x:Addr)
 /-- QG dict of an exception -/
 | xd (fs:List (Str×V))
 /-- a bound method,f of x -/
 | met (f x:Addr)
 /-- a range object lo,lo+1,.. below hi -/
 | rng (lo hi:Int)
 /-- a thing that is known to QG object (QG script;a dict while a loop walks it): read,never written while it is so -/
 | frz (o:Obj) (u:HO)
 /-- a code object's table -/
 | tbl (ps:Array Ht)
 /-- any other thing,by Ub is true of its one object (a def of one's own: SetO a S n:=HO.ext λh=>..) -/
 | ext (φ:Heap->Prop)
abbrev Hp:=Addr->Option HO
def upd (H:Hp) (a:Addr) (o:HO):Hp:=λb=>if b=a then some o else H b
theorem aw {H:Hp} {a:Addr} {o:HO}:upd H a o a=some o:=by unfold upd;rw[if_pos rfl]
theorem ay {H:Hp} {a b:Addr} {o:HO} (h:b≠a):upd H a o b=H b:=by unfold upd;rw[if_neg h]
theorem aY {H:Hp} {a b:Addr} {o:HO} (h:H a=some o) (h':H b=none):a≠b:=by
 intro e;subst e;rw[h] at h';cases h'
section
variable (P:Ip) (w:Ji)
def bA (H:Hp) (h:Heap) (a:Addr):HO->Prop
 | .lst xs=>xs.length<=Ii/\∃(its:List Ht) (n:Nat),Pm xs its/\h.get? a=some { cls:=.type "list",data:=.seq its.toArray n }
 | .tup xs=>xs.length<=Ii/\∃its:List Ht,Pm xs its/\IsTup h a its.toArray
 | .dK kvs=>kvs.length<=Ii/\(a==KD)=false/\∃vs,KV kvs vs/\h.DictOf (kn P w) a vs
 | .dT kvs=>kvs.length<=Ii/\(a==KD)=false/\∃xs:List (List Key×Addr×Ht),
   O5 (λ(p:List Key×V) (q:List Key×Addr×Ht)=>p.1=q.1/\H q.2.1=some (.tup (p.1.map kV))/\RelV p.2 q.2.2) kvs xs /\
   ∃o es ep,h.get? a=some o/\o.ExactDict/\o.data=.dict es ep/\es.toList=xs.map (entryOfKey (LM (kn P w)))/\(xs.map (·.1)).Nodup
 | .set S n=>h.SetOf (Pf P w) a S n
 | .ins C dx fs=>H dx=some (.own a)/\fs.length<=1000/\dx≠a/\h.get? a=some (M6 C dx) /\
   ∃mA,h.Ns1 dx mA/\(∀f,Sv (fs.lookup f) (mA f))/\PySem.Within mA (fs.map (·.1))
 | .own _=>∃o,h.get? a=some o
 | .xd fs=>∃mA,h.Ns1 a mA/\∀f,Sv (fs.lookup f) (mA f)
 | .rng lo hi=>∃t u v,h.get? a=some { cls:=.type "range",data:=.fields #[.int lo t,.int hi u,.int 1 v] }
 | .frz o u=>h.get? a=some o/\bA H h a u
 | .tbl ps=>∃qs,h.get? a=some { cls:=.none,data:=.fields qs }/\TriplesOk qs.toList/\∀pos cv,codeAmong pos qs.toList=some cv->∃c q t,cv=.ref c/\H c=some (.own a)/\ps[0]?=some (.str q t)/\h.CodeRec cv q
 | .met f x=>h.get? a=some (Mu (.ref f) (.ref x))
 | .ext φ=>φ h/\(∃o,h.get? a=some o)/\∀h1 h2:Heap,φ h1->(∀o,h1.get? a=some o->h2.get? a=some o)->φ h2
def QP (H:Hp) (h:Heap):Prop:=∀a o,H a=some o->bA P w H h a o
end
section
variable {P:Ip} {w:Ji} {H H':Hp} {h h':Heap} {a:Addr} {o:HO}
theorem bA.lt (x:bA P w H h a o):a<h.objs.size:=by
 cases o with
 | lst xs=>obtain ⟨_,_,_,_,e⟩:=x;exact HM e
 | tup xs=>obtain ⟨_,_,_,p⟩:=x;exact p.lt
 | dK kvs=>obtain ⟨_,_,_,_,o,_,_,e,_⟩:=x;exact HM e
 | dT kvs=>obtain ⟨_,_,_,_,o,_,_,e,_⟩:=x;exact HM e
 | set S n=>obtain ⟨o,_,_,_,e,_⟩:=x;exact HM e
 | ins C dx fs=>obtain ⟨_,_,_,e,_⟩:=x;exact HM e
 | own y=>obtain ⟨_,e⟩:=x;exact HM e
 | xd fs=>obtain ⟨_,⟨_,_,_,e,_⟩,_⟩:=x;exact HM e
 | rng lo hi=>obtain ⟨_,_,_,e⟩:=x;exact HM e
 | frz ob u=>obtain ⟨e,_⟩:=x;exact HM e
 | tbl ps=>obtain ⟨_,e,_⟩:=x;exact HM e
 | met f y=>exact HM (show h.get? a=some _ from x)
 | ext φ=>obtain ⟨_,⟨_,e⟩,_⟩:=x;exact HM e
theorem Paired.mapP {α β:Type} {F G:α->β->Prop}:∀{l₁:List α} {l₂:List β},O5 F l₁ l₂->(∀a b,F a b->G a b)->O5 G l₁ l₂
 | _,_,.nil,_=>.nil
 | _,_,.cons r t,f=>.cons (f _ _ r) (Paired.mapP t f)
theorem bA.stay (x:bA P w H h a o) (k:∀b u,(b=a\/H b=some (.own a))->h.get? b=some u->h'.get? b=some u)
  (ho:∀b,H b=some (.own a)->H' b=some (.own a)) (ht:∀b xs,H b=some (.tup xs)->H' b=some (.tup xs)):bA P w H' h' a o:=by
 induction o with
 | lst xs=>obtain ⟨z,its,n,r,e⟩:=x;exact ⟨z,its,n,r,k _ _ (.inl rfl) e⟩
 | tup xs=>obtain ⟨z,its,r,ob,e,c⟩:=x;exact ⟨z,its,r,ob,k _ _ (.inl rfl) e,c⟩
 | dK kvs=>obtain ⟨z,y,vs,r,ob,es,ep,e,c⟩:=x;exact ⟨z,y,vs,r,ob,es,ep,k _ _ (.inl rfl) e,c⟩
 | dT kvs=>
  obtain ⟨z,y,xs,r,ob,es,ep,e,c⟩:=x
  exact ⟨z,y,xs,Paired.mapP r λp q z=>⟨z.1,ht _ _ z.2.1,z.2.2⟩,ob,es,ep,k _ _ (.inl rfl) e,c⟩
 | set S n=>obtain ⟨ob,es,ep,t,e,c⟩:=x;exact ⟨ob,es,ep,t,k _ _ (.inl rfl) e,c⟩
 | ins C dx fs=>
  obtain ⟨d,z,ne,e,mA,⟨od,es,ep,e2,c⟩,r⟩:=x
  exact ⟨ho _ d,z,ne,k _ _ (.inl rfl) e,mA,⟨od,es,ep,k _ _ (.inr d) e2,c⟩,r⟩
 | own y=>obtain ⟨ob,e⟩:=x;exact ⟨ob,k _ _ (.inl rfl) e⟩
 | xd fs=>obtain ⟨mA,⟨od,es,ep,e,c⟩,r⟩:=x;exact ⟨mA,⟨od,es,ep,k _ _ (.inl rfl) e,c⟩,r⟩
 | rng lo hi=>obtain ⟨t,u,v,e⟩:=x;exact ⟨t,u,v,k _ _ (.inl rfl) e⟩
 | frz ob u ih=>obtain ⟨e,q⟩:=x;exact ⟨k _ _ (.inl rfl) e,ih q⟩
 | tbl ps=>
  obtain ⟨qs,e,t,f⟩:=x
  refine ⟨qs,k _ _ (.inl rfl) e,t,λpos cv hc=>?_⟩
  obtain ⟨c,q,tk,rfl,RC,hq,c2,oc,vs,tq,ec,e1,r⟩:=f pos cv hc
  cases ec
  exact ⟨c,q,tk,rfl,ho _ RC,hq,c,oc,vs,tq,rfl,k _ _ (.inr RC) e1,r⟩
 | met f y=>
  have e:h.get? a=some (Mu (.ref f) (.ref y)):=x
  show h'.get? a=some (Mu (.ref f) (.ref y))
  exact k a _ (.inl rfl) e
 | ext φ=>obtain ⟨p,⟨o,e⟩,st⟩:=x;exact ⟨st _ _ p λo q=>k _ _ (.inl rfl) q,⟨o,k _ _ (.inl rfl) e⟩,st⟩
theorem QP.lt (x:QP P w H h) (e:H a=some o):a<h.objs.size:=(x a o e).lt
theorem QP.fresh (x:QP P w H h) (e:h.objs.size<=a):H a=none:=by
 cases q:H a with
 | none=>rfl
 | some u=>exact absurd (HS (x.lt q) e) (Jb _)
theorem QP.kept (x:QP P w H h) (k:∀b u,h.get? b=some u->h'.get? b=some u):QP P w H h':=λa o e=>
 (x a o e).stay (λb u _ q=>k b u q) (λ_ q=>q) λ_ _ q=>q
theorem QP.laid (x:QP P w H h) (k:∀b u,h.get? b=some u->h'.get? b=some u) (hp:h.objs.size<=a) (new:bA P w (upd H a o) h' a o):QP P w (upd H a o) h':=λb u e=>by
 have hn:=x.fresh hp
 by_cases hb:b=a
 ·subst hb;rw[aw] at e;cases e;exact new
 ·rw[ay hb] at e
  exact (x b u e).stay (λc v _ q=>k c v q) (λc q=>by rw[ay (aY q hn)];exact q) λc xs q=>by rw[ay (aY q hn)];exact q
end
def Rd (H:Hp) (a:Addr) (u:HO):Prop:=H a=some u\/∃o,H a=some (.frz o u)
theorem Rd.ok {P:Ip} {w:Ji} {H:Hp} {h:Heap} {a:Addr} {u:HO} (r:Rd H a u) (x:QP P w H h):bA P w H h a u:=by
 rcases r with r | ⟨o,r⟩
 ·exact x a u r
 ·obtain ⟨_,q⟩:=x a _ r
  exact q
def We:Option HO->Prop
 | some (.lst _)=>True
 | some (.dK _)=>True
 | some (.dT _)=>True
 | some (.set _ _)=>True
 | some (.ins _ _ _)=>True
 | some (.ext _)=>True
 | _=>False
section
variable {P:Ip} {w:Ji} {H:Hp} {h h':Heap} {x e:Addr} {o':HO}
theorem QP.write (ok:QP P w H h) (mu:We (H x)) (he:e=x\/H e=some (.own x)) (k:∀b u,b≠e->h.get? b=some u->h'.get? b=some u) (UY:∃u,h'.get? e=some u)
  (new:bA P w (upd H x o') h' x o'):QP P w (upd H x o') h':=λb u q=>by
 have nown:∀c y,H c=some (.own y)->c≠x:=λc y r z=>by subst z;rw[r] at mu;exact mu
 have ntup:∀c xs,H c=some (.tup xs)->c≠x:=λc xs r z=>by subst z;rw[r] at mu;exact mu
 by_cases hb:b=x
 ·subst hb;rw[aw] at q;cases q;exact new
 ·rw[ay hb] at q
  by_cases Uc:b=e
  ·have q':H b=some (.own x):=by
    rcases he with z | z
    ·exact absurd (Uc.trans z) hb
    ·rw[Uc];exact z
   rw[q] at q';cases q'
   obtain ⟨v,hv⟩:=UY
   exact ⟨v,by rw[Uc];exact hv⟩
  ·refine (ok b u q).stay (λc v hc r=>k c v ?_ r) (λc r=>by rw[ay (nown c b r)];exact r) λc xs r=>by rw[ay (ntup c xs r)];exact r
   rcases hc with rfl | hc
   ·exact Uc
   ·rintro rfl
    rcases he with z | z
    ·exact nown c b hc z
    ·rw[hc] at z;cases z;exact hb rfl
end
structure Un (fs ex:List Addr) (H H':Hp) (h h':Heap):Prop where
 keep:∀b o,h.get? b=some o->H b=none->b∉fs->b∉ex->h'.get? b=some o
 slot:∀b o,h.get? b=some o->H b=none->b∈fs->b∉ex->∃sl,h'.get? b=some { o with slots:=sl }
 free:∀b o,h.get? b=some o->H b=none->b∉ex->H' b=none
 there:∀b o,h.get? b=some o->b∉ex->∃o',h'.get? b=some o'
 tups:∀b xs,H b=some (.tup xs)->H' b=some (.tup xs)
 frzs:∀b o u,H b=some (.frz o u)->H' b=some (.frz o u)
 tbls:∀b ps,H b=some (.tbl ps)->∃more,H' b=some (.tbl (ps++more))
section
variable {fs fs' ex ex':List Addr} {H H1 H2:Hp} {h h1 h2 h':Heap} {a x e:Addr} {o:HO}
theorem Un.any (u:Un fs ex H H1 h h1) {b:Addr} {ob:Obj} (q:h.get? b=some ob) (n:H b=none) (hx:b∉ex):∃sl,h1.get? b=some { ob with slots:=sl }:=by
 by_cases hb:b∈fs
 ·exact u.slot b ob q n hb hx
 ·exact ⟨ob.slots,u.keep b ob q n hb hx⟩
theorem Un.kept (k:∀b u,h.get? b=some u->h'.get? b=some u):Un fs ex H H h h':=
 ⟨λb ob q _ _ _=>k b ob q,λb ob q _ _ _=>⟨ob.slots,k b ob q⟩,λ_ _ _ n _=>n,λb ob q _=>⟨ob,k b ob q⟩,λ_ _ q=>q,λ_ _ _ q=>q,λ_ ps q=>⟨#[],by rw[q];simp⟩⟩
theorem Un.refl:Un fs ex H H h h:=Un.kept λ_ _ q=>q
theorem Un.laid (k:∀b u,h.get? b=some u->h'.get? b=some u) (hp:h.objs.size<=a) (hn:H a=none):Un fs ex H (upd H a o) h h' where
 keep:=λb u q _ _ _=>k b u q
 slot:=λb u q _ _ _=>⟨u.slots,k b u q⟩
 free:=λb u q n _=>by rw[ay (IE (HS (HM q) hp))];exact n
 there:=λb u q _=>⟨u,k b u q⟩
 tups:=λb xs q=>by rw[ay (aY q hn)];exact q
 frzs:=λb u xs q=>by rw[ay (aY q hn)];exact q
 tbls:=λb ps q=>⟨#[],by rw[ay (aY q hn),q];simp⟩
theorem Un.write (mu:We (H x)) (he:e=x\/H e=some (.own x)) (k:∀b u,b≠e->h.get? b=some u->h'.get? b=some u) (UY:∃u,h'.get? e=some u):Un fs ex H (upd H x o) h h':=by
 have hx:∀b,H b=none->b≠x:=λb n z=>by subst z;rw[n] at mu;exact mu
 have hb:∀b,H b=none->b≠e:=λb n z=>by
  subst z
  rcases he with r | r
  ·exact hx b n r
  ·rw[n] at r;cases r
 have hm:∀b u,H b=some u->¬ We (some u)->b≠x:=λb u q nm z=>by subst z;rw[q] at mu;exact nm mu
 refine ⟨λb u q n _ _=>k b u (hb b n) q,λb u q n _ _=>⟨u.slots,k b u (hb b n) q⟩,λb u q n _=>by rw[ay (hx b n)];exact n,λb u q _=>?_,
  λb xs q=>by rw[ay (hm b _ q λz=>z)];exact q,λb u xs q=>by rw[ay (hm b _ q λz=>z)];exact q,λb ps q=>⟨#[],by rw[ay (hm b _ q λz=>z),q];simp⟩⟩
 by_cases Uc:b=e
 ·subst Uc;exact UY
 ·exact ⟨u,k b u Uc q⟩
end
def Wf (h:Heap) (H:Hp):List Addr:=(HF h.objs.size).filter λa=>(H a).isSome
def ko (h:Heap) (H:Hp):Heap:=PySem.W.hideAll h (Wf h H)
theorem qr (h:Heap) (H:Hp):(ko h H).objs.size=h.objs.size:=PySem.W.hideAll_size _ _
theorem rR {h:Heap} {H:Hp} {b:Addr} {o:Obj} (e:h.get? b=some o) (n:H b=none):(ko h H).get? b=some o:=
 PySem.W.hideAll_get _ e λhm=>by
  have q:(H b).isSome=true:=(List.mem_filter.mp hm).2
  rw[n] at q;simp at q
theorem wC {h:Heap} {H:Hp} {b:Addr} {o:Obj} (e:(ko h H).get? b=some o):h.get? b=some o/\H b=none:=by
 have e':h.get? b=some o:=PySem.W.of_hideAll (Wf h H) e
 refine ⟨e',?_⟩
 cases q:H b with
 | none=>rfl
 | some x=>
  have hm:b∈Wf h H:=List.mem_filter.mpr ⟨List.mem_range.mpr (HM e'),by simp[q]⟩
  have z:(ko h H).get? b=none:=PySem.W.hideAll_none (Wf h H) hm
  rw[z] at e;cases e
def fS (g h:Heap) (L:Addr):List (Addr×Obj):=(HF h.objs.size).filterMap λa=>if a=L\/(g.get? a).isSome=true then none else (h.get? a).map λo=>(a,o)
theorem lT {g h:Heap} {L a:Addr} {o:Obj} (h1:a≠L) (h2:g.get? a=none) (h3:h.get? a=some o):(a,o)∈fS g h L:=
 List.mem_filterMap.mpr ⟨a,List.mem_range.mpr (HM h3),by simp[h1,h2,h3]⟩
theorem iB {g h:Heap} {L:Addr} {p:Addr×Obj} (hp:p∈fS g h L):p.1≠L/\g.get? p.1=none/\h.get? p.1=some p.2:=by
 obtain ⟨b,_,e⟩:=List.mem_filterMap.mp hp
 split at e
 ·cases e
 ·rename_i hn
  cases q:h.get? b with
  | none=>rw[q] at e;simp at e
  | some u=>
   rw[q] at e
   simp only[Option.map_some,Option.some.injEq] at e
   subst e
   refine ⟨λz=>hn (.inl z),?_,q⟩
   show g.get? b=none
   cases r:g.get? b with
   | none=>rfl
   | some v=>exact (hn (.inr (by simp[r]))).elim
theorem rS {g h:Heap} {L:Addr}:News g L h (fS g h L):=λp hp=>let ⟨a,b,c⟩:=iB hp;⟨c,a,b⟩
end L2
namespace L2
open PySem PySem.Spec PyProof.Rows
structure Mod (K:Ho) (mg:Str->Option Ht) (base:Heap):Prop where
 kin:K.In base
 glob:base.Ns HW mg
 blt:∃mb,base.Ns O6 mb/\∀x:Str,x≠"__name__"->mb x=IZ x
 nolimit:base.NoLimit
structure Cx where
 prog:Ip
 w:Ji
 K:Ho
 mg:Str->Option Ht
 base:Heap
 A:Js
 N:List Str
 s₀:Hv
 H₀:Hp
 env:Env
 outer:List Env
 stack:List Env
 ex:List Addr
 fn:Str->Bool
 calm:Bool
 pn:List (Addr×Obj)
 xe:Ht->Hv->Prop
def QS (l:List Env):List Addr:=l.filterMap (·.frame)
abbrev Cx.fs (X:Cx):List Addr:=QS X.outer
def UZ (sc:JX) (x:Str):Prop:=sc.names.lookup x=some .local\/sc.names.lookup x=some .cell\/sc.names.lookup x=some .free
def Loc (sc:JX) (x:Str):Prop:=sc.names.lookup x=some .local\/sc.names.lookup x=some .cell
def Look (env:Env) (h:Heap) (m:Str->Option Ht) (x:Str) (u:Ht):Prop:=
 (env.kindOf x=some .local/\m x=some u)\/((env.kindOf x=some .cell\/env.kindOf x=some .free)/\∃c,env.cells.lookup x=some c/\h.IsCell c (some u))
structure Cx.Ok (X:Cx):Prop where
 mod:Mod X.K X.mg X.base
 kind:X.env.scope.kind=.function
 glob:X.env.globals=HW
 blt:X.env.builtins=O6
 above:X.s₀.heap.objs.size<=X.env.locals
 inj:∀x y c,X.env.cells.lookup x=some c->X.env.cells.lookup y=some c->x=y
 has:∀x,(X.env.kindOf x=some .cell\/X.env.kindOf x=some .free)->∃c,X.env.cells.lookup x=some c
 cab:∀x c,X.fn x=true->X.env.cells.lookup x=some c->X.s₀.heap.objs.size<=c
 hd:X.calm=true->X.A.handled=none
 frames:X.A.frames=some X.stack
 stk:X.stack=X.outer\/(X.stack=X.env::X.outer/\X.env.frame=some X.env.locals)
 exf:∀b∈X.ex,b≠X.env.locals/\∀x c,X.env.cells.lookup x=some c->c≠b
 bs:∀b o,X.base.get? b=some o->X.s₀.heap.get? b=some o/\X.H₀ b=none
 bsz:X.base.objs.size<=X.s₀.heap.objs.size
 noex:∀b o,X.base.get? b=some o->b∉X.ex
 exfs:∀b∈X.ex,b∉X.fs
 funs:X.s₀.heap.FunFrames X.base X.outer
 frf:∀b∈X.fs,X.H₀ b=none
structure Inv (X:Cx) (pins:List (Addr×Obj)) (σ:List (Option V)) (H:Hp) (s:Hv):Prop where
 ok:X.Ok
 os:s.os=X.s₀.os
 bare:L3 s.gens
 base:Un X.fs X.ex X.H₀ H X.s₀.heap s.heap
 loc:∃m,s.heap.Ns X.env.locals m/\∀(i:Nat) (x:Str) (v:V),X.N[i]?=some x->σ[i]?=some (some v)->UZ X.env.scope x->∃u,RelV v u/\Look X.env s.heap m x u
 cell:∀x c,X.env.cells.lookup x=some c->∃v,s.heap.IsCell c v
 free:H X.env.locals=none
 freeC:∀x c,X.env.cells.lookup x=some c->H c=none
 pin:∀p∈X.pn++pins,s.heap.get? p.1=some p.2/\H p.1=none/\p.1≠X.env.locals/\p.1∉X.fs/\∀v,p.2.data≠.cell v
 hok:QP X.prog X.w H s.heap
 len:σ.length=X.N.length
section
variable {X:Cx} {pins:List (Addr×Obj)} {σ:List (Option V)} {H H':Hp} {s:Hv} {h':Heap}
theorem Cx.Ok.nofr (ok:X.Ok) {b:Addr} {o:Obj} (e:X.base.get? b=some o):b∉X.fs:=λhb=>by
 have:=(ok.funs.mem hb).1
 rw[e] at this;cases this
theorem Inv.bs (I:Inv X pins σ H s):∀b o,X.base.get? b=some o->s.heap.get? b=some o/\H b=none:=λb o e=>
 ⟨I.base.keep b o (I.ok.bs b o e).1 (I.ok.bs b o e).2 (I.ok.nofr e) (I.ok.noex b o e),I.base.free b o (I.ok.bs b o e).1 (I.ok.bs b o e).2 (I.ok.noex b o e)⟩
theorem Inv.bk (I:Inv X pins σ H s):∀b o,X.base.get? b=some o->s.heap.get? b=some o:=λb o e=>(I.bs b o e).1
theorem Inv.mod (I:Inv X pins σ H s):Mod X.K X.mg X.base:=I.ok.mod
theorem Inv.kIn (I:Inv X pins σ H s):X.K.In s.heap:=I.ok.mod.kin.keeps I.bk
theorem Inv.fr (I:Inv X pins σ H s):∃m,Fr X.base X.env.locals s.heap m:=
 let ⟨m,hn,_⟩:=I.loc
 ⟨m,hn,I.bk,Jf I.ok.bsz I.ok.above⟩
theorem Inv.lt (I:Inv X pins σ H s):X.env.locals<s.heap.objs.size:=let ⟨_,hn,_⟩:=I.loc;hn.lt
theorem Inv.sz (I:Inv X pins σ H s):X.s₀.heap.objs.size<=s.heap.objs.size:=Jf I.ok.above (LN I.lt)
theorem Inv.nofs (I:Inv X pins σ H s) {a:Addr} (h:s.heap.objs.size<=a):a∉X.fs:=λhb=>by
 obtain ⟨_,o,ho,_⟩:=I.ok.funs.mem hb
 exact absurd (HS (HM ho) (Jf I.sz h)) (Jb _)
theorem Inv.cne (I:Inv X pins σ H s):∀x c,X.env.cells.lookup x=some c->c≠X.env.locals:=λx c e z=>by
 obtain ⟨v,o,ho,hd⟩:=I.cell x c e
 obtain ⟨m,⟨o',es,ep,RC,hd',_⟩,_⟩:=I.loc
 rw[z,RC] at ho;cases ho;rw[hd'] at hd;cases hd
theorem Inv.funs (I:Inv X pins σ H s):s.heap.FunFrames X.base X.outer:=by
 have all:∀(l:List Env),(∀b∈QS l,b∈X.fs)->X.s₀.heap.FunFrames X.base l->s.heap.FunFrames X.base l:=by
  intro l
  induction l with
  | nil=>intro _ _;trivial
  | cons env r ih=>
   intro hs hl
   obtain ⟨hk,⟨L,o,hf,hn,ho,hd⟩,hr⟩:=hl
   have hL:L∈X.fs:=hs L (by unfold QS;rw[L4,hf];exact Hx)
   obtain ⟨sl,e⟩:=I.base.slot L o ho (I.ok.frf L hL) hL λz=>I.ok.exfs L z hL
   exact ⟨hk,⟨L,_,hf,hn,e,hd⟩,ih (λb hb=>hs b (by unfold QS;rw[L4,hf];exact Ic _ hb)) hr⟩
 exact all X.outer (λ_ hb=>hb) I.ok.funs
theorem Inv.stack (I:Inv X pins σ H s):s.heap.FunFrames X.base X.stack:=by
 rcases I.ok.stk with e | ⟨e,hf⟩
 ·rw[e];exact I.funs
 ·rw[e]
  obtain ⟨m,hn,_⟩:=I.loc
  refine .cons (by rw[I.ok.kind];decide) hf hn ?_ I.funs
  exact Heap.get?_none_of_le (Jf I.ok.bsz I.ok.above)
theorem Inv.stkSub (I:Inv X pins σ H s):∀b∈QS X.stack,b∈X.env.locals::X.fs:=λb hb=>by
 rcases I.ok.stk with e | ⟨e,hf⟩
 ·rw[e] at hb;exact Ic _ hb
 ·rw[e] at hb
  unfold QS at hb
  rw[L4,hf] at hb
  exact hb
theorem Inv.stkFree (I:Inv X pins σ H s):∀b∈QS X.stack,H b=none:=λb hb=>by
 rcases List.mem_cons.mp (I.stkSub b hb) with e | hb
 ·rw[e];exact I.free
 ·obtain ⟨_,o,ho,_⟩:=I.ok.funs.mem hb
  exact I.base.free b o ho (I.ok.frf b hb) λz=>I.ok.exfs b z hb
theorem Inv.step {g':Array GenState} {t':Nat} {d':Drawn} {ch:List Addr} (I:Inv X pins σ H s)
  (hch:∀b∈ch,(b∈X.ex\/X.s₀.heap.objs.size<=b)/\b≠X.env.locals/\(∀x c,X.env.cells.lookup x=some c->c≠b)/\∀p∈X.pn++pins,p.1≠b)
  (keep:∀b o,b≠X.env.locals->b∉X.fs->b∉ch->s.heap.get? b=some o->H b=none->h'.get? b=some o)
  (slot:∀b o,b≠X.env.locals->b∈X.fs->b∉ch->s.heap.get? b=some o->H b=none->∃sl,h'.get? b=some { o with slots:=sl }) (free:∀b o,b∉ch->s.heap.get? b=some o->H b=none->H' b=none)
  (there:∀b o,b∉ch->s.heap.get? b=some o->∃o',h'.get? b=some o')
  (tups:∀b xs,H b=some (.tup xs)->H' b=some (.tup xs)) (frzs:∀b o u,H b=some (.frz o u)->H' b=some (.frz o u)) (tbls:∀b ps,H b=some (.tbl ps)->∃more,H' b=some (.tbl (ps++more)))
  (ns:∀m,s.heap.Ns X.env.locals m->h'.Ns X.env.locals m) (hok:QP X.prog X.w H' h') (hg:L3 g') :
  Inv X pins σ H' { s with heap:=h',gens:=g',drawn:=d',toks:=t' }:=by
 have neL:∀b o,X.s₀.heap.get? b=some o->b≠X.env.locals:=λb o e=>IE (HS (HM e) I.ok.above)
 have Wg:∀b o,X.s₀.heap.get? b=some o->b∉X.ex->b∉ch:=λb o e hx hb=>by
  rcases (hch b hb).1 with z | z
  ·exact hx z
  ·exact absurd (HS (HM e) z) (Jb _)
 have cellK:∀x c,X.env.cells.lookup x=some c->∀v,s.heap.IsCell c v->h'.IsCell c v:=λx c e v ⟨o,ho,hd⟩=>by
  have Vt:c∉ch:=λz=>(hch c z).2.2.1 x c e rfl
  by_cases hc:c∈X.fs
  ·obtain ⟨sl,q⟩:=slot c o (I.cne x c e) hc Vt ho (I.freeC x c e)
   exact ⟨_,q,hd⟩
  ·exact ⟨o,keep c o (I.cne x c e) hc Vt ho (I.freeC x c e),hd⟩
 refine ⟨I.ok,I.os,hg,⟨λb o e n hb hx=>?_,λb o e n hb hx=>?_,λb o e n hx=>?_,λb o e hx=>?_,λb xs e=>tups b xs (I.base.tups b xs e),λb o xs e=>frzs b o xs (I.base.frzs b o xs e),λb ps e=>?_⟩,?_,λx c e=>?_,?_,λx c e=>?_,λp hp=>?_,hok,I.len⟩
 ·exact keep b o (neL b o e) hb (Wg b o e hx) (I.base.keep b o e n hb hx) (I.base.free b o e n hx)
 ·obtain ⟨sl,e1⟩:=I.base.slot b o e n hb hx
  obtain ⟨Vu,e2⟩:=slot b _ (neL b o e) hb (Wg b o e hx) e1 (I.base.free b o e n hx)
  exact ⟨Vu,e2⟩
 ·obtain ⟨o',e1⟩:=I.base.there b o e hx
  exact free b o' (Wg b o e hx) e1 (I.base.free b o e n hx)
 ·obtain ⟨o',e1⟩:=I.base.there b o e hx
  exact there b o' (Wg b o e hx) e1
 ·obtain ⟨m1,e1⟩:=I.base.tbls b ps e
  obtain ⟨m2,e2⟩:=tbls b _ e1
  exact ⟨m1++m2,by rw[e2,Array.append_assoc]⟩
 ·obtain ⟨m,hn,hl⟩:=I.loc
  refine ⟨m,ns m hn,λi x v e1 e2 e3=>?_⟩
  obtain ⟨u,r,l⟩:=hl i x v e1 e2 e3
  refine ⟨u,r,?_⟩
  rcases l with l | ⟨k,c,e,z⟩
  ·exact .inl l
  ·exact .inr ⟨k,c,e,cellK x c e _ z⟩
 ·obtain ⟨v,z⟩:=I.cell x c e
  exact ⟨v,cellK x c e v z⟩
 ·obtain ⟨m,⟨o,_,_,ho,_⟩,_⟩:=I.loc
  exact free _ o (λz=>(hch _ z).2.1 rfl) ho I.free
 ·obtain ⟨v,o,ho,hd⟩:=I.cell x c e
  exact free c o (λz=>(hch c z).2.2.1 x c e rfl) ho (I.freeC x c e)
 ·obtain ⟨e,n,ne,nf,d⟩:=I.pin p hp
  have Vt:p.1∉ch:=λz=>(hch p.1 z).2.2.2 p hp rfl
  exact ⟨keep p.1 p.2 ne nf Vt e n,free p.1 p.2 Vt e n,ne,nf,d⟩
theorem Inv.un {t':Nat} (I:Inv X pins σ H s) (u:Un X.fs [] H H' s.heap h') (hok:QP X.prog X.w H' h'):Inv X pins σ H' { s with heap:=h',toks:=t' }:=by
 obtain ⟨m,⟨o,es,ep,ho,r⟩,_⟩:=id I.loc
 obtain ⟨sl,hL⟩:=u.any ho I.free (by simp)
 exact I.step (g':=s.gens) (d':=s.drawn) (ch:=[]) (λ_ z=>nomatch z) (λb o _ hb _ e n=>u.keep b o e n hb (by simp)) (λb o _ hb _ e n=>u.slot b o e n hb (by simp)) (λb o _ e n=>u.free b o e n (by simp)) (λb o _ e=>u.there b o e (by simp)) u.tups u.frzs u.tbls (λm' hm=>by
  obtain ⟨o',es',Ud,RC,r'⟩:=hm
  rw[ho] at RC;cases RC
  exact ⟨_,es',Ud,hL,r'⟩) hok I.bare
theorem Inv.call {g':Array GenState} {t':Nat} {d':Drawn} {ch:List Addr} (I:Inv X pins σ H s) (u:Un (QS X.stack) ch H H' s.heap h') (hok:QP X.prog X.w H' h') (hg:L3 g')
  (hch:∀b∈ch,(b∈X.ex\/X.s₀.heap.objs.size<=b)/\b≠X.env.locals/\(∀x c,X.env.cells.lookup x=some c->c≠b)/\∀p∈X.pn++pins,p.1≠b) :
  Inv X pins σ H' { s with heap:=h',gens:=g',drawn:=d',toks:=t' }:=by
 obtain ⟨m,⟨o,es,ep,ho,r⟩,_⟩:=id I.loc
 obtain ⟨sl,hL⟩:=u.any ho I.free λz=>(hch _ z).2.1 rfl
 exact I.step (ch:=ch) hch (λb o hL hb hc e n=>u.keep b o e n (λz=>(List.mem_cons.mp (I.stkSub b z)).elim hL hb) hc) (λb o _ _ hc e n=>u.any e n hc) (λb o hc e n=>u.free b o e n hc) (λb o hc e=>u.there b o e hc) u.tups u.frzs u.tbls (λm' hm=>by
  obtain ⟨o',es',Ud,RC,r'⟩:=hm
  rw[ho] at RC;cases RC
  exact ⟨_,es',Ud,hL,r'⟩) hok hg
theorem Inv.turned {t':Nat} {it:Addr} (I:Inv X pins σ H s) (k:∀b o,b≠it->s.heap.get? b=some o->h'.get? b=some o) (hn:H it=none) (hL:it≠X.env.locals)
  (h1:it∈X.ex\/X.s₀.heap.objs.size<=it) (h2:∀x c,X.env.cells.lookup x=some c->c≠it) (h3:∀p∈X.pn++pins,p.1≠it):Inv X pins σ H { s with heap:=h',toks:=t' }:=by
 have Vv:∀b u,H b=some u->b≠it:=λb u e z=>by rw[z,hn] at e;cases e
 refine I.step (g':=s.gens) (d':=s.drawn) (ch:=[it]) (λb hb=>?_) (λb o _ _ hc e _=>k b o (λz=>hc (by simp[z])) e) (λb o _ _ hc e _=>⟨o.slots,k b o (λz=>hc (by simp[z])) e⟩) (λ_ _ _ _ n=>n)
  (λb o hc e=>⟨o,k b o (λz=>hc (by simp[z])) e⟩) (λ_ _ e=>e) (λ_ _ _ e=>e) (λb ps e=>⟨#[],by rw[e];simp⟩) (λm hm=>?_) (λb u e=>?_) I.bare
 ·have e:b=it:=by simpa using hb
  subst e
  exact ⟨h1,hL,h2,h3⟩
 ·obtain ⟨o,es,ep,ho,r⟩:=hm
  exact ⟨o,es,ep,k _ o (Ka hL) ho,r⟩
 ·refine (I.hok b u e).stay (λc v hc q=>k c v ?_ q) (λ_ q=>q) λ_ _ q=>q
  rcases hc with z | z
  ·rw[z];exact Vv b u e
  ·exact Vv c _ z
theorem Inv.tok (I:Inv X pins σ H s) (t:Nat):Inv X pins σ H { s with toks:=t }:=I.un (h':=s.heap) (t':=t) Un.refl I.hok
theorem Inv.kept {t':Nat} (I:Inv X pins σ H s) (k:∀b u,s.heap.get? b=some u->h'.get? b=some u):Inv X pins σ H { s with heap:=h',toks:=t' }:=I.un (Un.kept k) (I.hok.kept k)
theorem Inv.laid {a:Addr} {o:HO} {t':Nat} (I:Inv X pins σ H s) (k:∀b u,s.heap.get? b=some u->h'.get? b=some u) (hp:s.heap.objs.size<=a) (new:bA X.prog X.w (upd H a o) h' a o) :
  Inv X pins σ (upd H a o) { s with heap:=h',toks:=t' }:=I.un (Un.laid k hp (I.hok.fresh hp)) (I.hok.laid k hp new)
theorem Inv.write {x e:Addr} {o:HO} {t':Nat} (I:Inv X pins σ H s) (mu:We (H x)) (he:e=x\/H e=some (.own x)) (k:∀b u,b≠e->s.heap.get? b=some u->h'.get? b=some u) (UY:∃u,h'.get? e=some u)
  (new:bA X.prog X.w (upd H x o) h' x o):Inv X pins σ (upd H x o) { s with heap:=h',toks:=t' }:=I.un (Un.write mu he k UY) (I.hok.write mu he k UY new)
theorem Inv.weak {σ':List (Option V)} (I:Inv X pins σ H s) (hl:σ'.length=σ.length) (w:∀(i:Nat) v,σ'[i]?=some (some v)->σ[i]?=some (some v)):Inv X pins σ' H s:=
 ⟨I.ok,I.os,I.bare,I.base,let ⟨m,hn,hl'⟩:=I.loc;⟨m,hn,λi x v e1 e2 e3=>hl' i x v e1 (w i v e2) e3⟩,I.cell,I.free,I.freeC,I.pin,I.hok,hl.trans I.len⟩
theorem Inv.pins_of {pins':List (Addr×Obj)} (I:Inv X pins σ H s) (h:∀p∈pins',s.heap.get? p.1=some p.2/\H p.1=none/\p.1≠X.env.locals/\p.1∉X.fs/\∀v,p.2.data≠.cell v):Inv X pins' σ H s:=
 ⟨I.ok,I.os,I.bare,I.base,I.loc,I.cell,I.free,I.freeC,λp hp=>(List.mem_append.mp hp).elim (λz=>I.pin p (HR _ z)) (h p),I.hok,I.len⟩
theorem iC {N:List Str} (hN:N.Nodup) {i j:Nat} {x:Str} (a:N[i]?=some x) (b:N[j]?=some x):i=j:=by
 obtain ⟨h1,e1⟩:=List.getElem?_eq_some_iff.mp a
 obtain ⟨h2,e2⟩:=List.getElem?_eq_some_iff.mp b
 exact (List.getElem_inj hN).mp (e1.trans e2.symm)
theorem gw {M:O4} {A:Js} {E:Ht->Hv->Prop} {i:Nat} {x:Str} {v:V} {u:Ht} {Q:Unit->Hv->Prop} (I:Inv X pins σ H s) (hN:X.N.Nodup) (hi:X.N[i]?=some x) (hx:Loc X.env.scope x) (r:RelV v u)
  (h:∀s',Inv X pins (σ.set i (some v)) H s'->(∃a,OE a s.heap s'.heap/\(a=X.env.locals\/X.env.cells.lookup x=some a))->Q () s') (hf:X.fn x=true\/X.env.scope.names.lookup x=some .local:=by first | exact .inl rfl | exact .inr rfl | assumption):IJ M A (storeName X.env x u) Q E s:=by
 obtain ⟨m,hn,hl⟩:=id I.loc
 have hcls:(X.env.scope.kind==.class||(X.env.scope.kind==.module&&X.env.locals != X.env.globals))=false:=by rw[I.ok.kind];rfl
 have Wh:i < σ.length:=by rw[I.len];exact (List.getElem?_eq_some_iff.mp hi).1
 have cne:=I.cne
 have tracked:∀{a:Addr} {h':Heap},(∃o,s.heap.get? a=some o/\H a=none)->OE a s.heap h'->QP X.prog X.w H h':=λ{a h'} ha hs b ob e=>by
  obtain ⟨_,_,hfree⟩:=ha
  refine (I.hok b ob e).stay (λc w' hc q=>(hs.2 c ?_).trans q) (λ_ q=>q) λ_ _ q=>q
  rintro rfl
  rcases hc with rfl | hc
  ·rw[hfree] at e;cases e
  ·rw[hfree] at hc;cases hc
 rcases hx with hk | hk
 ·refine wpAny_storeName_local hk hn (λh' hn' hs=>?_) hcls
  obtain ⟨oL,_,_,hoL,_⟩:=id hn
  refine h _ ⟨I.ok,I.os,I.bare,⟨λb o e n hb hx=>?_,λb o e n hb hx=>?_,I.base.free,λb o e hx=>?_,I.base.tups,I.base.frzs,I.base.tbls⟩,⟨_,hn',λj y v' e1 e2 e3=>?_⟩,λy c e=>?_,I.free,I.freeC,λp hp=>?_,tracked ⟨oL,hoL,I.free⟩ hs,by simpa using I.len⟩ ⟨_,hs,.inl rfl⟩
  ·exact (hs.2 b (IE (HS (HM e) I.ok.above))).trans (I.base.keep b o e n hb hx)
  ·obtain ⟨sl,e1⟩:=I.base.slot b o e n hb hx
   exact ⟨sl,(hs.2 b (IE (HS (HM e) I.ok.above))).trans e1⟩
  ·obtain ⟨o',e1⟩:=I.base.there b o e hx
   exact ⟨o',(hs.2 b (IE (HS (HM e) I.ok.above))).trans e1⟩
  ·by_cases hj:j=i
   ·subst hj
    rw[hi] at e1;cases e1
    rw[Iw Wh] at e2
    cases e2
    exact ⟨u,r,.inl ⟨hk,by simp⟩⟩
   ·rw[Ia (Ka hj)] at e2
    obtain ⟨u',r',q⟩:=hl j y v' e1 e2 e3
    refine ⟨u',r',?_⟩
    rcases q with ⟨k,e⟩ | ⟨k,c,e,z⟩
    ·refine .inl ⟨k,?_⟩
     have:y≠x:=λe=>hj (iC hN e1 (e▸hi))
     simp[this,e]
    ·exact .inr ⟨k,c,e,z.sameBut hs (cne y c e)⟩
  ·obtain ⟨w',z⟩:=I.cell y c e
   exact ⟨w',z.sameBut hs (cne y c e)⟩
  ·obtain ⟨e,n,ne,nf,d⟩:=I.pin p hp
   exact ⟨(hs.2 p.1 ne).trans e,n,ne,nf,d⟩
 ·have hfn:X.fn x=true:=by
   rcases hf with z | z
   ·exact z
   ·rw[z] at hk;cases hk
  obtain ⟨c,hc⟩:=I.ok.has x (.inl hk)
  obtain ⟨w',z⟩:=I.cell x c hc
  refine wpAny_storeName_cell I.ok.kind hk hc z (λh' hc' hs=>?_)
  obtain ⟨oc,hoc,hocd⟩:=id z
  refine h { s with heap:=h' } ⟨I.ok,I.os,I.bare,⟨λb o e n hb hx=>?_,λb o e n hb hx=>?_,I.base.free,λb o e hx=>?_,I.base.tups,I.base.frzs,I.base.tbls⟩,⟨m,hn.sameBut hs (Ka (cne x c hc)),λj y v' e1 e2 e3=>?_⟩,λy c' e=>?_,I.free,I.freeC,λp hp=>?_,tracked ⟨oc,hoc,I.freeC x c hc⟩ hs,by simpa using I.len⟩ ⟨c,hs,.inr hc⟩
  ·exact (hs.2 b (IE (HS (HM e) (I.ok.cab x c hfn hc)))).trans (I.base.keep b o e n hb hx)
  ·obtain ⟨sl,e1⟩:=I.base.slot b o e n hb hx
   exact ⟨sl,(hs.2 b (IE (HS (HM e) (I.ok.cab x c hfn hc)))).trans e1⟩
  ·obtain ⟨o',e1⟩:=I.base.there b o e hx
   exact ⟨o',(hs.2 b (IE (HS (HM e) (I.ok.cab x c hfn hc)))).trans e1⟩
  ·by_cases hj:j=i
   ·subst hj
    rw[hi] at e1;cases e1
    rw[Iw Wh] at e2
    cases e2
    exact ⟨u,r,.inr ⟨.inl hk,c,hc,hc'⟩⟩
   ·rw[Ia (Ka hj)] at e2
    obtain ⟨u',r',q⟩:=hl j y v' e1 e2 e3
    refine ⟨u',r',?_⟩
    rcases q with q | ⟨k,c',e,z'⟩
    ·exact .inl q
    ·refine .inr ⟨k,c',e,z'.sameBut hs ?_⟩
     rintro rfl
     exact hj (iC hN e1 (I.ok.inj _ _ _ e hc▸hi))
  ·by_cases SJ:c'=c
   ·subst SJ;exact ⟨_,hc'⟩
   ·obtain ⟨w2,z2⟩:=I.cell y c' e
    exact ⟨w2,z2.sameBut hs SJ⟩
  ·obtain ⟨e,n,ne,nf,d⟩:=I.pin p hp
   refine ⟨(hs.2 p.1 ?_).trans e,n,ne,nf,d⟩
   intro q
   rw[q,hoc] at e
   have q':oc=p.2:=Ij e
   exact d w' (by rw[<- q'];exact hocd)
theorem dj {M:O4} {A:Js} {E:Ht->Hv->Prop} {i:Nat} {x:Str} {v:V} {u:Ht} {Q:Unit->Hv->Prop} (I:Inv X pins σ H s) (hN:X.N.Nodup) (hi:X.N[i]?=some x) (hx:Loc X.env.scope x) (r:RelV v u)
  (h:∀s',Inv X pins (σ.set i (some v)) H s'->Q () s') (hf:X.fn x=true\/X.env.scope.names.lookup x=some .local:=by first | exact .inl rfl | exact .inr rfl | assumption):IJ M A (storeName X.env x u) Q E s:=
 gw I hN hi hx r (λs' I' _=>h s' I') hf
theorem Inv.call' {s':Hv} {ch:List Addr} (I:Inv X pins σ H s) (ho:s'.os=s.os) (u:Un (QS X.stack) ch H H' s.heap s'.heap) (hok:QP X.prog X.w H' s'.heap) (hg:L3 s'.gens)
  (hch:∀b∈ch,(b∈X.ex\/X.s₀.heap.objs.size<=b)/\b≠X.env.locals/\(∀x c,X.env.cells.lookup x=some c->c≠b)/\∀p∈X.pn++pins,p.1≠b):Inv X pins σ H' s':=by
 obtain ⟨h',g',d',t',o'⟩:=s'
 have e:o'=s.os:=ho
 subst e
 exact I.call (g':=g') (t':=t') (d':=d') u hok hg hch
end
abbrev XK:=Ht->Option Addr->Hp->Prop
abbrev St:=List (Option V)
abbrev VK:=V->Hp->Prop
abbrev TE:=St->Hp->VK->Prop
abbrev TT:=St->Hp->(Bool->Hp->Prop)->Prop
abbrev TA:=St->Hp->(List V->Hp->Prop)->Prop
structure Ends where
 nx:St->Hp->Prop
 rt:VK
 bk:St->Hp->Prop:=λ_ _=>False
 ct:St->Hp->Prop:=λ_ _=>False
abbrev TS:=Ends->St->Hp->Prop
def EP (X:Cx) (pins:List (Addr×Obj)) (σ:St) (Q:VK) (u:Ht) (s':Hv):Prop:=∃v H',Inv X pins σ H' s'/\RelV v u/\Q v H'
def TP (X:Cx) (pins:List (Addr×Obj)) (σ:St) (Q:Bool->Hp->Prop) (b:Bool) (s':Hv):Prop:=∃H',Inv X pins σ H' s'/\Q b H'
def AP (X:Cx) (pins:List (Addr×Obj)) (σ:St) (Q:List V->Hp->Prop) (us:List Ht) (s':Hv):Prop:=∃vs H',Inv X pins σ H' s'/\Pm vs us/\Q vs H'
def SP (X:Cx) (pins:List (Addr×Obj)) (D:Ends) (f:Flow) (s':Hv):Prop:=
 match f with
 | .next=>∃ σ' H',Inv X pins σ' H' s'/\D.nx σ' H'
 | .brk=>∃ σ' H',Inv X pins σ' H' s'/\D.bk σ' H'
 | .cont=>∃ σ' H',Inv X pins σ' H' s'/\D.ct σ' H'
 | .ret u=>∃v σ' H',Inv X pins σ' H' s'/\RelV v u/\D.rt v H'
def PE (X:Cx) (e:Expr) (t:TE):Prop:=
 ∀(pins:List (Addr×Obj)) (s:Hv) (σ:St) (H:Hp) (Q:VK),Inv X pins σ H s->t σ H Q->IJ (IB X.prog X.w) X.A (eval e X.env) (EP X pins σ Q) X.xe s
def PT (X:Cx) (e:Expr) (t:TT):Prop:=
 ∀(pins:List (Addr×Obj)) (s:Hv) (σ:St) (H:Hp) (Q:Bool->Hp->Prop),Inv X pins σ H s->t σ H Q->IJ (IB X.prog X.w) X.A (OF e X.env (eval e X.env)) (TP X pins σ Q) X.xe s
def PW (X:Cx) (e:Expr) (t:TT):Prop:=
 ∀(whole:Sem Ht) (pins:List (Addr×Obj)) (s:Hv) (σ:St) (H:Hp) (Q:Bool->Hp->Prop),Inv X pins σ H s->t σ H Q->IJ (IB X.prog X.w) X.A (OF e X.env whole) (TP X pins σ Q) X.xe s
theorem PW.pt {X:Cx} {e:Expr} {t:TT} (h:PW X e t):PT X e t:=h _
def PA (X:Cx) (es:List Expr) (t:TA):Prop:=
 ∀(pos:Pos) (pins:List (Addr×Obj)) (s:Hv) (σ:St) (H:Hp) (Q:List V->Hp->Prop),Inv X pins σ H s->t σ H Q->IJ (IB X.prog X.w) X.A (spliced (J9 pos (HN es X.env))) (AP X pins σ Q) X.xe s
def PS (X:Cx) (st:Stmt) (t:TS):Prop:=
 ∀(pins:List (Addr×Obj)) (s:Hv) (σ:St) (H:Hp) (D:Ends),Inv X pins σ H s->t D σ H->IJ (IB X.prog X.w) X.A (exec st X.env) (SP X pins D) X.xe s
def Rt (X:Cx) (st:List Stmt) (t:TS):Prop:=
 ∀(pins:List (Addr×Obj)) (s:Hv) (σ:St) (H:Hp) (D:Ends),Inv X pins σ H s->t D σ H->IJ (IB X.prog X.w) X.A (execs st X.env) (SP X pins D) X.xe s
theorem PF {α:Type} {t:Sem α} {Q Q':α->Hv->Prop} {M:O4} {A:Js} {E:Ht->Hv->Prop} {s:Hv} (h:IJ M A t Q E s) (hQ:∀a s,Q a s->Q' a s):IJ M A t Q' E s:=Ih h hQ λ_ _ x=>x
end L2
namespace L2
open PySem PySem.Spec PyProof.Rows
section
variable {X:Cx}
def cF (i:Nat):TE:=fun σ H Q=>∃v,σ[i]?=some (some v)/\Q v H
def tC (v:V):TE:=λ_ H Q=>Q v H
theorem nq {i:Nat} {x:Str} {pos:Pos} (hN:X.N[i]?=some x) (hv:UZ X.env.scope x) (hd:(x==("__debug__":Str))=false:=by decide) (hcd:(x==("__classdict__":Str))=false:=by decide):PE X (.Name x pos) (cF i):=by
 intro pins s σ H Q I h
 obtain ⟨v,e,h⟩:=h
 obtain ⟨m,hn,hl⟩:=I.loc
 obtain ⟨u,r,l⟩:=hl i x v hN e hv
 have fin:EP X pins σ Q u s:=⟨v,H,I,r,h⟩
 rcases l with ⟨hk,hm⟩ | ⟨hk,c,hc,hcell⟩
 ·exact O7 (Ny I.ok.kind hk hn hm fin) hd
 ·rcases hk with hk | hk
  ·exact O7 (NS I.ok.kind hk hc hcell fin) hd
  ·exact O7 (wpAny_loadName_free I.ok.kind hk hc hcell fin hcd) hd
theorem nu {i j pos}:PE X (.Constant (.int i) j pos) (tC (.int i)):=λ_ _ _ H _ I h=>wpAny_Constant_int ⟨.int i,H,I.tok _,⟨_,rfl⟩,h⟩
theorem Ed {b j pos}:PE X (.Constant (.bool b) j pos) (tC (.bl b)):=λ_ _ _ H _ I h=>Constant_bool ⟨.bl b,H,I,rfl,h⟩
theorem A6 {j pos}:PE X (.Constant .none j pos) (tC .non):=λ_ _ _ H _ I h=>Constant_none ⟨.non,H,I,rfl,h⟩
def Gl (X:Cx) (x:Str):Prop:=X.env.kindOf x=some .globalImplicit
theorem fT {E:Ht->Hv->Prop} {pins:List (Addr×Obj)} {s:Hv} {σ:St} {H:Hp} {x:Str} {u:Ht} {pos:Pos} {Q:Ht->Hv->Prop} (I:Inv X pins σ H s) (hg:Gl X x) (hm:X.mg x=some u) (h:Q u s)
  (hd:(x==("__debug__":Str))=false:=by decide):IJ (IB X.prog X.w) X.A (eval (.Name x pos) X.env) Q E s:=
 Me I.ok.kind hg (Calls.loadGlobal_global (by rw[I.ok.glob];exact I.mod.glob.keeps I.bk) hm h) hd
theorem gx {E:Ht->Hv->Prop} {pins:List (Addr×Obj)} {s:Hv} {σ:St} {H:Hp} {x:Str} {u:Ht} {pos:Pos} {Q:Ht->Hv->Prop} (I:Inv X pins σ H s) (hg:Gl X x) (hm:X.mg x=none) (hv:IZ x=some u) (h:Q u s)
  (hn:x≠"__name__":=by decide) (hd:(x==("__debug__":Str))=false:=by decide):IJ (IB X.prog X.w) X.A (eval (.Name x pos) X.env) Q E s:=by
 obtain ⟨mb,h1,h2⟩:=I.mod.blt
 exact Me I.ok.kind hg (Calls.loadGlobal_builtin (by rw[I.ok.glob];exact I.mod.glob.keeps I.bk) hm (by rw[I.ok.blt];exact h1.keeps I.bk) ((h2 x hn).trans hv) h) hd
theorem eu {x:Str} {v:V} {u:Ht} {pos:Pos} (hg:Gl X x) (hm:X.mg x=some u) (r:RelV v u) (hd:(x==("__debug__":Str))=false:=by decide):PE X (.Name x pos) (tC v):=
 λ_ _ _ H _ I h=>fT I hg hm ⟨v,H,I,r,h⟩ hd
theorem fv {x:Str} {v:V} {u:Ht} {pos:Pos} (hg:Gl X x) (hm:X.mg x=none) (hv:IZ x=some u) (r:RelV v u) (hn:x≠"__name__":=by decide) (hd:(x==("__debug__":Str))=false:=by decide):PE X (.Name x pos) (tC v):=
 λ_ _ _ H _ I h=>gx I hg hm hv ⟨v,H,I,r,h⟩ hn hd
variable {a b:Expr} {ta tb:TE} {pos:Pos}
def tB (t:TE):TT:=fun σ H Q=>t σ H λx H1=>∃c,x=.bl c/\Q c H1
theorem A7 {e:Expr} {t:TE} (h:PE X e t) (he:∀whole,OF e X.env whole=(do let v <- whole;Le e.pos;Lg [v] (truthy v)):=by intro _;rfl):PT X e (tB t):=by
 intro pins s σ H Q I hw
 refine isTrue_plain (PF (h pins s σ H _ I hw) λv s1 Pk=>?_) (he _)
 obtain ⟨x,H1,I1,r1,q1⟩:=Pk
 obtain ⟨d,rfl,q⟩:=q1
 cases r1
 exact Ko ⟨H1,I1,q⟩
variable {tA Vw:TT} {rest:List Expr}
def tOr (t u:TT):TT:=fun σ H Q=>t σ H λc H1=>if c=true then Q true H1 else u σ H1 Q
def Ee (t:TT):TT:=fun σ H Q=>t σ H λc H1=>Q (!c) H1
theorem A8 (ha:PT X a tA):PW X (.BoolOp .Or [a] pos) tA:=by
 intro wh pins s σ H Q I h
 refine isTrue_or (PF (ha pins s σ H Q I h) λc s1 e=>?_)
 cases c with
 | false=>exact isTrue_or_nil e
 | true=>exact e
theorem Ef (ha:PT X a tA) (hb:PW X (.BoolOp .Or (b::rest) pos) Vw):PW X (.BoolOp .Or (a::b::rest) pos) (tOr tA Vw):=by
 intro wh pins s σ H Q I h
 refine isTrue_or (PF (ha pins s σ H _ I h) λc s1 Pk=>?_)
 obtain ⟨H1,I1,q1⟩:=Pk
 cases c with
 | true=>exact ⟨H1,I1,q1⟩
 | false=>exact hb wh pins s1 σ H1 Q I1 q1
theorem A9 (ha:PT X a tA):PT X (.UnaryOp .Not a pos) (Ee tA):=by
 intro pins s σ H Q I h
 exact isTrue_not (ha pins s σ H (λc H1=>Q (!c) H1) I h)
def zm (ta tb:TE):TE:=fun σ H Q=>ta σ H λx H1=>∃c,x=.bl c/\if c=true then tb σ H1 Q else Q (.bl false) H1
def zo (ta:TE):TE:=fun σ H Q=>ta σ H λx H1=>∃c,x=.bl c/\Q (.bl (!c)) H1
theorem Ba {op} {t:TE} (h:PE X a t):PE X (.BoolOp op [a] pos) t:=λpins s σ H Q I hw=>BoolOp_one (h pins s σ H Q I hw)
theorem Bb (ha:PE X a ta) (hb:PE X (.BoolOp .And (b::rest) pos) tb):PE X (.BoolOp .And (a::b::rest) pos) (zm ta tb):=by
 intro pins s σ H Q I h
 refine BoolOp_and (PF (ha pins s σ H _ I h) λv s1 Pk=>?_)
 obtain ⟨x,H1,I1,r1,q1⟩:=Pk
 obtain ⟨c,rfl,q1⟩:=q1
 cases r1
 refine Ko ?_
 cases c with
 | true=>exact hb pins s1 σ H1 Q I1 q1
 | false=>exact ⟨.bl false,H1,I1,rfl,q1⟩
theorem Bc (ha:PE X a ta):PE X (.UnaryOp .Not a pos) (zo ta):=by
 intro pins s σ H Q I h
 refine UnaryOp_ (PF (ha pins s σ H _ I h) λv s1 Pk=>?_)
 obtain ⟨x,H1,I1,r1,q1⟩:=Pk
 obtain ⟨c,rfl,q1⟩:=q1
 cases r1
 exact not_of (Ko ⟨.bl (!c),H1,I1,rfl,q1⟩)
def tIf (t:TT) (ta tb:TE):TE:=fun σ H Q=>t σ H λc H1=>if c=true then ta σ H1 Q else tb σ H1 Q
theorem rT {c:Expr} (hc:PT X c tA) (ha:PE X a ta) (hb:PE X b tb):PE X (.IfExp c a b pos) (tIf tA ta tb):=by
 intro pins s σ H Q I h
 refine wpAny_IfExp (PF (hc pins s σ H _ I h) λd s1 Pk=>?_)
 obtain ⟨H1,I1,q1⟩:=Pk
 cases d with
 | true=>exact ha pins s1 σ H1 Q I1 q1
 | false=>exact hb pins s1 σ H1 Q I1 q1
end
end L2
namespace L2
open PySem PySem.Spec PyProof.Rows
def Qz (K:Ho) (H:Hp) (a:Addr) (xs:List V):Prop:=
 Rd H a (.lst xs) \/
  ∃(o:Obj) (its:Array Ht) (n:Nat),K.lookup a=some o/\o.cls=.type "list"/\o.dict=none/\o.data=.seq its n/\its.size<=Ii/\Pm xs its.toList
def Qq (K:Ho) (H:Hp) (a:Addr) (xs:List V):Prop:=
 Rd H a (.tup xs) \/
  ∃(o:Obj) (its:Array Ht) (n:Nat),K.lookup a=some o/\o.cls=.type "tuple"/\o.data=.seq its n/\its.size<=Ii/\Pm xs its.toList
def G0:Ht->Option V
 | .none=>some .non
 | .bool b=>some (.bl b)
 | .int i _=>some (.int i)
 | .str x _=>some (.str x)
 | .bytes b _=>some (.byt b)
 | .float b _=>some (.flt b)
 | .ref a=>some (.ref a)
 | .type n=>some (.ty n)
 | _=>none
theorem RelV.abs {x:V} {u:Ht} (r:RelV x u):G0 u=some x:=by
 cases x with
 | non=>cases r;rfl
 | bl _=>cases r;rfl
 | int _=>obtain ⟨t,rfl⟩:=r;rfl
 | str _=>obtain ⟨t,rfl⟩:=r;rfl
 | byt _=>obtain ⟨t,rfl⟩:=r;rfl
 | flt _=>obtain ⟨t,rfl⟩:=r;rfl
 | ref _=>cases r;rfl
 | ty _=>cases r;rfl
theorem RelV.inj {x y:V} {u:Ht} (r:RelV x u) (q:RelV y u):x=y:=Ij (r.abs.symm.trans q.abs)
theorem Pm.inj:∀{xs ys:List V} {us:List Ht},Pm xs us->Pm ys us->xs=ys
 | _,_,_,.nil,.nil=>rfl
 | _,_,_,.cons r t,.cons r' t'=>by rw[r.inj r',Pm.inj t t']
section
variable {X:Cx} {pins:List (Addr×Obj)} {σ:St} {H:Hp} {s:Hv} {a:Addr} {xs ys:List V}
theorem Inv.list (I:Inv X pins σ H s) (h:Qz X.K H a xs):∃its:List Ht,Pm xs its/\PlainL s.heap a its.toArray/\xs.length<=Ii:=by
 rcases h with h | ⟨o,its,n,hk,hc,hd,hs,hz,r⟩
 ·obtain ⟨z,its,n,r,e⟩:=h.ok I.hok
  exact ⟨its,r,⟨_,n,e,rfl,rfl,rfl⟩,z⟩
 ·refine ⟨its.toList,r,⟨o,n,I.kIn a o hk,hc,hd,by simpa using hs⟩,?_⟩
  have e:=r.length
  simp only[IK] at e
  omega
theorem Inv.tuple (I:Inv X pins σ H s) (h:Qq X.K H a xs):∃its:List Ht,Pm xs its/\IsTup s.heap a its.toArray/\xs.length<=Ii:=by
 rcases h with h | ⟨o,its,n,hk,hc,hs,hz,r⟩
 ·obtain ⟨z,its,r,p⟩:=h.ok I.hok
  exact ⟨its,r,p,z⟩
 ·refine ⟨its.toList,r,⟨o,I.kIn a o hk,hc,n,by simpa using hs⟩,?_⟩
  have e:=r.length
  simp only[IK] at e
  omega
theorem Inv.list_inj (I:Inv X pins σ H s) (h:Qz X.K H a xs) (h':Qz X.K H a ys):xs=ys:=by
 obtain ⟨its,r,⟨o,n,e,_,_,d⟩,_⟩:=I.list h
 obtain ⟨its',r',⟨o',n',e',_,_,d'⟩,_⟩:=I.list h'
 rw[e] at e';cases e'
 rw[d] at d'
 injection d' with d1 _
 have:its=its':=by simpa using congrArg Array.toList d1
 subst this
 exact r.inj r'
theorem Inv.tuple_inj (I:Inv X pins σ H s) (h:Qq X.K H a xs) (h':Qq X.K H a ys):xs=ys:=by
 obtain ⟨its,r,⟨o,e,_,n,d⟩,_⟩:=I.tuple h
 obtain ⟨its',r',⟨o',e',_,n',d'⟩,_⟩:=I.tuple h'
 rw[e] at e';cases e'
 rw[d] at d'
 injection d' with d1 _
 have:its=its':=by simpa using congrArg Array.toList d1
 subst this
 exact r.inj r'
end
abbrev Cx.wish (X:Cx) (E:Ht->Hv->Prop):Cx:={ X with xe:=E }
abbrev Cx.nox (X:Cx):Cx:=X.wish λ_ _=>False
theorem Cx.Ok.wish {X:Cx} (ok:X.Ok) (E:Ht->Hv->Prop):(X.wish E).Ok:=
 ⟨ok.mod,ok.kind,ok.glob,ok.blt,ok.above,ok.inj,ok.has,ok.cab,ok.hd,ok.frames,ok.stk,ok.exf,ok.bs,ok.bsz,ok.noex,ok.exfs,ok.funs,ok.frf⟩
theorem Cx.Ok.unwish {X:Cx} {E:Ht->Hv->Prop} (ok:(X.wish E).Ok):X.Ok:=
 ⟨ok.mod,ok.kind,ok.glob,ok.blt,ok.above,ok.inj,ok.has,ok.cab,ok.hd,ok.frames,ok.stk,ok.exf,ok.bs,ok.bsz,ok.noex,ok.exfs,ok.funs,ok.frf⟩
section
variable {X:Cx} {pins:List (Addr×Obj)} {σ:St} {H:Hp} {s:Hv} {E:Ht->Hv->Prop}
theorem Inv.wish (I:Inv X pins σ H s) (E:Ht->Hv->Prop):Inv (X.wish E) pins σ H s:=⟨I.ok.wish E,I.os,I.bare,I.base,I.loc,I.cell,I.free,I.freeC,I.pin,I.hok,I.len⟩
theorem Inv.unwish (I:Inv (X.wish E) pins σ H s):Inv X pins σ H s:=⟨I.ok.unwish,I.os,I.bare,I.base,I.loc,I.cell,I.free,I.freeC,I.pin,I.hok,I.len⟩
theorem SP.unwish {D:Ends} {f:Flow} {s':Hv} (h:SP (X.wish E) pins D f s'):SP X pins D f s':=by
 cases f with
 | next=>obtain ⟨σ',H',I,q⟩:=h;exact ⟨σ',H',I.unwish,q⟩
 | brk=>obtain ⟨σ',H',I,q⟩:=h;exact ⟨σ',H',I.unwish,q⟩
 | cont=>obtain ⟨σ',H',I,q⟩:=h;exact ⟨σ',H',I.unwish,q⟩
 | ret u=>obtain ⟨v,σ',H',I,r,q⟩:=h;exact ⟨v,σ',H',I.unwish,r,q⟩
theorem Rt.nox {st:List Stmt} {t:TS} (h:Rt X.nox st t):Rt X st t:=λpins s σ H D I hw=>
 Ih (h pins s σ H D (I.wish _) hw) (λ_ _ q=>q.unwish) λ_ _ z=>KU z
end
section
variable {X:Cx} {st:Stmt} {rest:List Stmt} {t u:TS} {e:Expr} {te:TE} {pos:Pos}
def rV:TS:=λD σ H=>D.nx σ H
def rW (t u:TS):TS:=λD σ H=>t { D with nx:=u D } σ H
theorem oG:Rt X [] rV:=λ_ _ σ H _ I h=>L5 ⟨σ,H,I,h⟩
theorem fU (h1:PS X st t) (h2:Rt X rest u):Rt X (st::rest) (rW t u):=by
 intro pins s σ H D I h
 refine MS (PF (h1 pins s σ H { D with nx:=u D } I h) λf s1 q=>?_)
 cases f with
 | next=>
  obtain ⟨σ',H',I',q⟩:=q
  exact h2 pins s1 σ' H' D I' q
 | ret v=>exact q
 | brk=>exact q
 | cont=>exact q
theorem oH (h1:PS X st t):Rt X [st] t:=by
 intro pins s σ H D I h
 refine MS (PF (h1 pins s σ H D I h) λf s1 q=>?_)
 cases f with
 | next=>exact L5 q
 | ret v=>exact q
 | brk=>exact q
 | cont=>exact q
theorem Inv.quiet {pins:List (Addr×Obj)} {σ:St} {H:Hp} {s:Hv} (I:Inv X pins σ H s):interactive X.env=false:=by simp[interactive,I.ok.kind]
def rX (te:TE):TS:=λD σ H=>te σ H λ_ H1=>D.nx σ H1
theorem oI (he:PE X e te) (hs:Ke e none pos.line X.env=pure false:=by rfl):PS X (.Expr e pos) (rX te):=by
 intro pins s σ H D I h
 exact wpAny_Expr_any (PF (he pins s σ H _ I h) λv s1 PH=>by obtain ⟨x,H1,I1,r1,q1⟩:=PH;exact ⟨σ,H1,I1,q1⟩) I.quiet hs
def Eg (te:TE):TS:=λD σ H=>te σ H D.rt
theorem Bd (he:PE X e te):PS X (.Return (some e) pos) (Eg te):=by
 intro pins s σ H D I h
 exact wpAny_Return_some (PF (he pins s σ H _ I h) λv s1 PH=>by obtain ⟨x,H1,I1,r1,q1⟩:=PH;exact ⟨x,σ,H1,I1,r1,q1⟩)
def Be (c:TT) (t u:TS):TS:=λD σ H=>c σ H λb H1=>if b=true then t D σ H1 else u D σ H1
theorem zp {c:Expr} {a b:List Stmt} {tc:TT} (hc:PT X c tc) (ha:Rt X a t) (hb:Rt X b u):PS X (.If c a b pos) (Be tc t u):=by
 intro pins s σ H D I h
 refine wpAny_If (PF (hc pins s σ H _ I h) λd s1 Pk=>?_)
 obtain ⟨H1,I1,q1⟩:=Pk
 cases d with
 | true=>exact ha pins s1 σ H1 D I1 q1
 | false=>exact hb pins s1 σ H1 D I1 q1
def iD:TS:=λ_ _ _=>False
theorem rY:PS X st iD:=λ_ _ _ _ _ _ h=>h.elim
theorem jB {SX:List Stmt}:Rt X SX iD:=λ_ _ _ _ _ _ h=>h.elim
end
abbrev TG:=V->St->Hp->(St->Hp->Prop)->Prop
abbrev Sk:=List V->St->Hp->(St->Hp->Prop)->Prop
def PG (X:Cx) (target:Expr) (t:TG):Prop:=
 ∀(pins:List (Addr×Obj)) (s:Hv) (σ:St) (H:Hp) (v:V) (u:Ht) (Q:St->Hp->Prop),Inv X pins σ H s->RelV v u->t v σ H Q ->
  IJ (IB X.prog X.w) X.A (LO target X.env u) (λ_ s'=>∃ σ' H',Inv X pins σ' H' s'/\Q σ' H') X.xe s
def Vx (X:Cx) (ts:List Expr) (t:Sk):Prop:=
 ∀(pins:List (Addr×Obj)) (s:Hv) (σ:St) (H:Hp) (vs:List V) (us:List Ht) (Q:St->Hp->Prop),Inv X pins σ H s->Pm vs us->t vs σ H Q ->
  IJ (IB X.prog X.w) X.A (N5 ((Kp ts X.env).map (·.2)) us) (λ_ s'=>∃ σ' H',Inv X pins σ' H' s'/\Q σ' H') X.xe s
abbrev rZ:=V->V->V->Hp->(Hp->Prop)->Prop
def Bf (X:Cx) (t:rZ):Prop:=
 ∀(pins:List (Addr×Obj)) (s:Hv) (σ:St) (H:Hp) (o i v:V) (ov iv u:Ht) (Q:Hp->Prop),Inv X pins σ H s->RelV o ov->RelV i iv->RelV v u->t o i v H Q ->
  IJ (IB X.prog X.w) X.A (OV ov iv u) (λ_ s'=>∃H',Inv X pins σ H' s'/\Q H') X.xe s
abbrev U0:=V->V->Hp->VK->Prop
def WV (X:Cx) (op:OR) (t:U0):Prop:=
 ∀(pins:List (Addr×Obj)) (s:Hv) (σ:St) (H:Hp) (x y:V) (v u:Ht) (Q:VK),Inv X pins σ H s->RelV x v->RelV y u->t x y H Q ->
  IJ (IB X.prog X.w) X.A (inplaceOp op v u) (EP X pins σ Q) X.xe s
section
variable {X:Cx} {pos:Pos}
def bB (i:Nat):TG:=λv σ H Q=>Q (σ.set i (some v)) H
theorem aq {i:Nat} {x:Str} (hN:X.N.Nodup) (hi:X.N[i]?=some x) (hx:Loc X.env.scope x) (hf:X.fn x=true\/X.env.scope.names.lookup x=some .local:=by first | exact .inl rfl | exact .inr rfl | assumption):PG X (.Name x pos) (bB i):=by
 intro pins s σ H v u Q I r h
 exact Mw (dj I hN hi hx r (λs' I'=>⟨_,H,I',h⟩) hf)
def Bg:Sk:=λvs σ H Q=>vs=[]/\Q σ H
def oJ (t:TG) (u:Sk):Sk:=λvs σ H Q=>∃v r,vs=v::r/\t v σ H fun σ' H'=>u r σ' H' Q
theorem wD:Vx X [] Bg:=by
 intro pins s σ H vs us Q I r h
 obtain ⟨e,h⟩:=h
 subst e
 cases r
 exact Ol ⟨σ,H,I,h⟩
theorem sd {e:Expr} {es:List Expr} {t:TG} {u:Sk} (h1:PG X e t) (h2:Vx X es u)
  (hs:(Kp (e::es) X.env).map (·.2)=LO e X.env::(Kp es X.env).map (·.2):=by rfl):Vx X (e::es) (oJ t u):=by
 intro pins s σ H vs us Q I r h
 obtain ⟨v,vr,e1,h⟩:=h
 subst e1
 cases r with
 | cons r rr=>
  rw[hs]
  refine Mh (PF (h1 pins s σ H _ _ _ I r h) λ_ s1 Pk=>?_)
  obtain ⟨σ1,H1,I1,q1⟩:=Pk
  exact h2 pins s1 σ1 H1 _ _ Q I1 rr q1
def Bh (K:Ho) (n:Nat) (t:Sk):TG:=λv σ H Q=>∃a xs,v=.ref a/\Qq K H a xs/\xs.length=n/\t xs σ H Q
theorem Bi {es:List Expr} {k:Nat} {t:Sk} {n:Nat} (hc:X.calm=true) (h:Vx X es t)
  (hn:(Kp es X.env).length=n:=by rfl) (hst:(Kp es X.env).findIdx? (·.1)=none:=by rfl):PG X (.Tuple es k pos) (Bh X.K n t):=by
 intro pins s σ H v u Q I r hw
 obtain ⟨a,xs,e1,hq,hl,hw⟩:=hw
 subst e1
 cases r
 obtain ⟨its,rv,ht,hz⟩:=I.tuple hq
 refine assign_Tuple_tuple (I.ok.hd hc) ht (by simp[hn,<- hl,rv.length]) hst λh' hx=>?_
 have I1:Inv X pins σ H { s with heap:=h' }:=I.kept (t':=s.toks) λb o e=>hx b o (IE (HM e)) e
 exact h pins _ σ H xs _ Q I1 (by simpa using rv) hw
def Bj (to ti:TE) (t:rZ):TG:=λv σ H Q=>to σ H λo H1=>ti σ H1 λi H2=>t o i v H2 λH3=>Q σ H3
theorem Bk {o i:Expr} {to ti:TE} {t:rZ} (ho:PE X o to) (hi:PE X i ti) (hs:Bf X t)
  (ha:∀v,LO (.Subscript o i pos) X.env v=(do
   let ov <- Lg [v] (eval o X.env)
   let iv <- Lg [v,ov] (eval i X.env)
   Le pos
   Lg [v,ov,iv] (OV ov iv v)
   release [v,ov,iv] []):=by intro _;rfl):PG X (.Subscript o i pos) (Bj to ti t):=by
 intro pins s σ H v u Q I r h
 rw[ha]
 refine Hq (Jc (PF (ho pins s σ H _ I h) λov s1 Pk=>?_))
 obtain ⟨x,H1,I1,r1,q1⟩:=Pk
 refine Hq (Jc (PF (hi pins s1 σ H1 _ I1 q1) λiv s2 Pk=>?_))
 obtain ⟨y,H2,I2,r2,q2⟩:=Pk
 refine Hq (Jd (Hq (Jc (PF (hs pins s2 σ H2 x y v ov iv u _ I2 r1 r2 r q2) λ_ s3 Pk=>?_))))
 obtain ⟨H3,I3,q3⟩:=Pk
 exact wpAny_release ⟨σ,H3,I3,q3⟩
def dY (te:TE) (g:TG):TS:=λD σ H=>te σ H λx H1=>g x σ H1 D.nx
theorem sj {tg e:Expr} {te:TE} {g:TG} (he:PE X e te) (hg:PG X tg g) (hs:MK [tg] e pos.line X.env=pure false:=by rfl) (hw:ML [tg] e X.env=pure none:=by rfl)
  (h1:(Kp [tg] X.env).map (·.2)=[LO tg X.env]:=by rfl):PS X (.Assign [tg] e pos) (dY te g):=by
 intro pins s σ H D I h
 refine wpAny_Assign_stores (PF (he pins s σ H _ I h) λv s1 Pk=>?_) hs hw
 obtain ⟨x,H1,I1,r1,q1⟩:=Pk
 rw[h1]
 exact PF (hg pins s1 σ H1 x v _ I1 r1 q1) λ_ s2 q=>q
theorem bN {i:Nat} {x:Str} {e:Expr} {te:TE} {pos':Pos} (hN:X.N.Nodup) (hi:X.N[i]?=some x) (hx:Loc X.env.scope x) (he:PE X e te) (hs:Ke e (some (.Name x pos')) pos.line X.env=pure false:=by rfl) (hf:X.fn x=true\/X.env.scope.names.lookup x=some .local:=by first | exact .inl rfl | exact .inr rfl | assumption) :
  PS X (.Assign [.Name x pos'] e pos) (dY te (bB i)):=by
 intro pins s σ H D I h
 refine wpAny_Assign_Name (PF (he pins s σ H _ I h) λv s1 Pk=>?_) hs
 obtain ⟨y,H1,I1,r1,q1⟩:=Pk
 exact dj I1 hN hi hx r1 (λs2 I2=>⟨_,H1,I2,q1⟩) hf
def sm (i j:Nat) (ta:TA):TS:=λD σ H=>ta σ H λvs H1=>∃v w,vs=[v,w]/\D.nx ((σ.set i (some v)).set j (some w)) H1
theorem Bl {i j:Nat} {x y:Str} {a b:Expr} {ta:TA} {px py pt:Pos} {kt k2 WW} (hc:X.calm=true) (hN:X.N.Nodup) (hi:X.N[i]?=some x) (hj:X.N[j]?=some y) (SY:i≠j)
  (hx:X.env.scope.names.lookup x=some .local) (hy:X.env.scope.names.lookup y=some .local) (ha:PA X [a,b] ta)
  (hw:ML [.Tuple [.Name x px,.Name y py] kt pt] (.Tuple [a,b] k2 WW) X.env=pure (some [x,y]))
  (hs:MK [.Tuple [.Name x px,.Name y py] kt pt] (.Tuple [a,b] k2 WW) pos.line X.env=pure false:=by rfl) :
  PS X (.Assign [.Tuple [.Name x px,.Name y py] kt pt] (.Tuple [a,b] k2 WW) pos) (sm i j ta):=by
 intro pins s σ H D I h
 rw[exec_Assign_arm]
 refine Hq (Jd ?_)
 rw[hs]
 refine Hq (Hw ?_)
 rw[if_neg (by decide)]
 refine Hq (Tuple_ (PF (ha _ pins s σ H _ I h) λus s1 Pk=>?_))
 obtain ⟨vs,H1,I1,r1,q1⟩:=Pk
 obtain ⟨v,w,e1,q1⟩:=q1
 subst e1
 obtain ⟨u1,u2,rfl,rv,Rj⟩:∃u1 u2,us=[u1,u2]/\RelV v u1/\RelV w u2:=by
  cases r1 with
  | cons p q=>
   cases q with
   | cons p' q'=>
    cases q'
    exact ⟨_,_,rfl,p,p'⟩
 refine IU ?_ (by show 2<=Ii;decide)
 have I2:Inv X pins σ H1 { s1 with heap:=s1.heap.push { cls:=.type "tuple",data:=.seq [u1,u2].toArray } }:=I1.kept (t':=s1.toks) λb o e=>Hs _ e
 rw[hw]
 refine Hq (Hw ?_)
 show IJ (IB X.prog X.w) X.A (do rule "assign.swapped-stores";let items <- unpackItems (.ref s1.heap.objs.size) 2 none;N5 [λv=>OS X.env y v,λv=>OS X.env x v] items.reverse;pure Flow.next) _ _ _
 refine Hq (Kc (Hq (unpackItems_tuple (items:=#[u1,u2]) (I.ok.hd hc) (IsTup.new s1.heap _) λh' hx'=>?_)))
 have I3:=I2.kept (h':=h') (t':=s1.toks) λb o e=>hx' b o (IE (HM e)) e
 show IJ _ _ (N5 [λv=>OS X.env y v,λv=>OS X.env x v] [u2,u1] >>= λ_=>pure Flow.next) _ _ _
 refine Hq (Mh (NI (dj I3 hN hj (.inl hy) Rj (λs2 I4=>?_) (.inr hy))))
 refine Mh (NI (dj I4 hN hi (.inl hx) rv (λs3 I5=>Ol (Hw ?_)) (.inr hx)))
 rw[List.set_comm _ _ (Ka SY)] at I5
 exact ⟨_,H1,I5,q1⟩
def Eh (i:Nat) (te:TE) (ti:U0):TS:=λD σ H=>∃x,σ[i]?=some (some x)/\te σ H λy H1=>ti x y H1 λz H2=>D.nx (σ.set i (some z)) H2
theorem Bm {i:Nat} {x:Str} {e:Expr} {te:TE} {op:OR} {ti:U0} {pos':Pos} (hN:X.N.Nodup) (hi:X.N[i]?=some x) (hx:Loc X.env.scope x) (he:PE X e te) (ho:WV X op ti) (hf:X.fn x=true\/X.env.scope.names.lookup x=some .local:=by first | exact .inl rfl | exact .inr rfl | assumption) :
  PS X (.AugAssign (.Name x pos') op e pos) (Eh i te ti):=by
 intro pins s σ H D I h
 obtain ⟨v,e1,h⟩:=h
 obtain ⟨m,hn,hl⟩:=I.loc
 have vis:UZ X.env.scope x:=by rcases hx with k | k;exact .inl k;exact .inr (.inl k)
 obtain ⟨u,r,l⟩:=hl i x v hi e1 vis
 refine wpAny_AugAssign_Name ?_
 have go:IJ (IB X.prog X.w) X.A (eval e X.env) (λw s₂=>IJ (IB X.prog X.w) X.A (inplaceOp op u w) (λr s₃=>IJ (IB X.prog X.w) X.A (storeName X.env x r) (λ_=>SP X pins D .next) X.xe s₃) X.xe s₂) X.xe s:=by
  refine PF (he pins s σ H _ I h) λw s1 Pk=>?_
  obtain ⟨y,H1,I1,r1,q1⟩:=Pk
  refine PF (ho pins s1 σ H1 v y u w _ I1 r r1 q1) λz s2 Pk=>?_
  obtain ⟨zv,H2,I2,r2,q2⟩:=Pk
  exact dj I2 hN hi hx r2 (λs3 I3=>⟨_,H2,I3,q2⟩) hf
 rcases l with ⟨hk,hm⟩ | ⟨hk,c,hc,hcell⟩
 ·exact Ny I.ok.kind hk hn hm go
 ·rcases hk with hk | hk
  ·exact NS I.ok.kind hk hc hcell go
  ·rcases hx with k | k
   ·have:X.env.scope.names.lookup x=some .free:=hk
    rw[k] at this;cases this
   ·have:X.env.scope.names.lookup x=some .free:=hk
    rw[k] at this;cases this
def zr (to ti te:TE) (SZ:V->V->Hp->VK->Prop) (Wi:U0) (Ta:rZ):TS:=λD σ H=>to σ H λo H1=>ti σ H1 λi H2=>SZ o i H2 λx H3=>te σ H3 λy H4=>Wi x y H4 λz H5=>Ta o i z H5 λH6=>D.nx σ H6
def Bn (X:Cx) (t:V->V->Hp->VK->Prop):Prop:=
 ∀(pins:List (Addr×Obj)) (s:Hv) (σ:St) (H:Hp) (o i:V) (ov iv:Ht) (Q:VK),Inv X pins σ H s->RelV o ov->RelV i iv->t o i H Q ->
  IJ (IB X.prog X.w) X.A (getItem ov iv) (EP X pins σ Q) X.xe s
theorem wF {o i e:Expr} {to ti te:TE} {SZ:V->V->Hp->VK->Prop} {Wi:U0} {Ta:rZ} {op:OR} {tpos:Pos} (ho:PE X o to) (hi:PE X i ti) (hg:Bn X SZ) (he:PE X e te) (hp:WV X op Wi) (hs:Bf X Ta)
  (ha:∀ov iv new,augStore i ov iv new=(do Lg [new,ov,iv] (OV ov iv new);release [new,ov,iv] [];pure .next):=by intros;rfl):PS X (.AugAssign (.Subscript o i tpos) op e pos) (zr to ti te SZ Wi Ta):=by
 intro pins s σ H D I h
 refine wpAny_AugAssign_SubscriptAny (PF (ho pins s σ H _ I h) λov s1 Pk=>?_) ha
 obtain ⟨x1,H1,I1,r1,q1⟩:=Pk
 refine PF (hi pins s1 σ H1 _ I1 q1) λiv s2 Pk=>?_
 obtain ⟨x2,H2,I2,r2,q2⟩:=Pk
 refine PF (hg pins s2 σ H2 x1 x2 ov iv _ I2 r1 r2 q2) λold s3 Pk=>?_
 obtain ⟨x3,H3,I3,r3,q3⟩:=Pk
 refine PF (he pins s3 σ H3 _ I3 q3) λv s4 Pk=>?_
 obtain ⟨x4,H4,I4,r4,q4⟩:=Pk
 refine PF (hp pins s4 σ H4 x3 x4 old v _ I4 r3 r4 q4) λnew s5 Pk=>?_
 obtain ⟨x5,H5,I5,r5,q5⟩:=Pk
 exact PF (hs pins s5 σ H5 x1 x2 x5 ov iv new _ I5 r1 r2 r5 q5) λ_ s6 PH=>by obtain ⟨H6,I6,q6⟩:=PH;exact ⟨σ,H6,I6,q6⟩
def WX (f:Int->Int->Int):U0:=λx y H Q=>∃i j,x=.int i/\y=.int j/\Q (.int (f i j)) H
theorem su:WV X .Add (WX λi j=>i+j):=by
 intro pins s σ H x y v u Q I r1 r2 h
 obtain ⟨i,j,e1,e2,q⟩:=h
 subst e1;subst e2
 obtain ⟨t,rfl⟩:=r1
 obtain ⟨t',rfl⟩:=r2
 exact iadd_int ⟨.int _,H,I.tok _,⟨_,rfl⟩,q⟩
end
section
variable {X:Cx} {pos:Pos}
def sC (c:TT) (tb:TS):TS:=λD σ H=>∃W:Nat->St->Hp->Prop,(∃m,W m σ H)/\∀m σ H,W m σ H ->
 c σ H λb H1=>if b=true then ∃N:St->Hp->Prop,(∀ σ' H',N σ' H'->∃m',m'<m/\W m' σ' H')/\tb { D with nx:=N,ct:=N,bk:=D.nx } σ H1 else D.nx σ H1
theorem sE {c:Expr} {body:List Stmt} {tc:TT} {tb:TS} (hp:OW (IB X.prog X.w) X.A X.env X.xe) (hc:PT X c tc) (hb:Rt X body tb):PS X (.While c body [] pos) (sC tc tb):=by
 intro pins s σ H D I h
 obtain ⟨W,⟨m0,w0⟩,turn⟩:=h
 refine wpAny_While (codeAny_whileLoop (λn s'=>∃ σ' H',Inv X pins σ' H' s'/\W n σ' H') ?_ m0 ⟨σ,H,I,w0⟩)
 rintro n s1 ⟨σ1,H1,I1,w1⟩
 refine Kq hp (PF (hc pins s1 σ1 H1 _ I1 (turn n σ1 H1 w1)) λb s2 Pk=>?_)
 obtain ⟨H2,I2,q2⟩:=Pk
 cases b with
 | true=>
  obtain ⟨N,hN,q2⟩:=q2
  rw[if_pos rfl]
  refine Kq hp (PF (hb pins s2 σ1 H2 _ I2 q2) λf s3 q3=>?_)
  cases f with
  | next=>
   obtain ⟨σ3,H3,I3,n3⟩:=q3
   obtain ⟨m',hm,w3⟩:=hN σ3 H3 n3
   exact ⟨m',hm,σ3,H3,I3,w3⟩
  | cont=>
   obtain ⟨σ3,H3,I3,n3⟩:=q3
   obtain ⟨m',hm,w3⟩:=hN σ3 H3 n3
   exact ⟨m',hm,σ3,H3,I3,w3⟩
  | brk=>exact q3
  | ret v=>exact q3
 | false=>
  rw[if_neg Hy]
  exact L5 ⟨σ1,H2,I2,q2⟩
end
structure It where
 go:Nat->Hp->Prop
 yld:Nat->Hp->V->Hp->Prop
 stop:Nat->Hp->Prop
def eU (X:Cx) (pins:List (Addr×Obj)) (H:Hp) (b:Addr):Prop:=
 H b=none/\b≠X.env.locals/\b∉X.fs/\(b∈X.ex\/X.s₀.heap.objs.size<=b)/\(∀x c,X.env.cells.lookup x=some c->c≠b)/\∀p∈X.pn++pins,p.1≠b
theorem Inv.fpOk {X:Cx} {pins:List (Addr×Obj)} {σ:St} {H H':Hp} {s:Hv} {b:Addr} (I:Inv X pins σ H s) (hb:s.heap.objs.size<=b) (hn:H' b=none):eU X pins H' b:=by
 refine ⟨hn,M7 (HS I.lt hb),I.nofs hb,.inr (Jf I.sz hb),λx c e z=>?_,λp hp z=>?_⟩
 ·obtain ⟨v,q⟩:=I.cell x c e
  exact absurd (HS q.lt (by rw[z];exact hb)) (Jb _)
 ·exact absurd (HS (HM (I.pin p hp).1) (by rw[z];exact hb)) (Jb _)
structure Turn (P:Ip) (w:Ji) (K:Ho) (tg:Expr) (J:It) (fp:List Addr) (it:Addr) (tn:Nat->Heap->Prop):Prop where
 mem:it∈fp
 obj:∀i h,tn i h->∀b∈fp,∃o,h.get? b=some o/\∀v,o.data≠.cell v
 keep:∀i h h',tn i h->(∀b∈fp,∀o,h.get? b=some o->h'.get? b=some o)->tn i h'
 item:∀(X:Cx),X.prog=P->X.w=w->X.K=K->X.calm=true->∀(i:Nat) (pins:List (Addr×Obj)) (s:Hv) (σ:St) (H:Hp) (E:Ht->Hv->Prop),Inv X pins σ H s->(∀b∈fp,eU X pins H b)->tn i s.heap->J.go i H ->
  IJ (IB P w) X.A (MT (.ref it)) (λr s1=>∃u,r=some u /\
   IJ (IB P w) X.A (KJ tg (.ref it) u) (λ_ s2=>∃x H',Inv X pins σ H' s2/\RelV x u/\J.yld i H x H'/\tn (i+1) s2.heap/\∀b∈fp,H' b=none) E s1) E s
 done:∀(X:Cx),X.prog=P->X.w=w->X.K=K->X.calm=true->∀(i:Nat) (pins:List (Addr×Obj)) (s:Hv) (σ:St) (H:Hp) (E:Ht->Hv->Prop),Inv X pins σ H s->(∀b∈fp,eU X pins H b)->tn i s.heap->J.stop i H ->
  IJ (IB P w) X.A (MT (.ref it)) (λr s1=>r=none/\Inv X pins σ H s1) E s
 self:∀(A:Js) (i:Nat) (s:Hv) (Q:Ht->Hv->Prop) (E:Ht->Hv->Prop),tn i s.heap->Q (.ref it) s->IJ (IB P w) A (NJ (.ref it)) Q E s
abbrev TI:=St->Hp->(It->Hp->Prop)->Prop
def PIE (X:Cx) (pins:List (Addr×Obj)) (σ:St) (tg:Expr) (R:It->Hp->Prop) (Tb:Ht) (s2:Hv):Prop:=
 ∃(it:Addr) (fp:List Addr) (tn:Nat->Heap->Prop) (J:It) (H':Hp),Tb=.ref it/\Inv X pins σ H' s2/\Turn X.prog X.w X.K tg J fp it tn/\tn 0 s2.heap/\(∀b∈fp,eU X pins H' b)/\R J H'
def PI (X:Cx) (tg iter:Expr) (wi:TI):Prop:=
 ∀(pins:List (Addr×Obj)) (s:Hv) (σ:St) (H:Hp) (R:It->Hp->Prop),Inv X pins σ H s->wi σ H R ->
  IJ (IB X.prog X.w) X.A (eval iter X.env) (λv s1=>IJ (IB X.prog X.w) X.A (NJ v) (PIE X pins σ tg R) X.xe s1) X.xe s
theorem oK {M:O4} {A:Js} {E:Ht->Hv->Prop} {s:Hv} {tg:Expr} {it:Addr} {u:Ht} {o:Obj} {n:String} {vs:Array Ht} {Q:Unit->Hv->Prop} (ho:s.heap.get? it=some o) (hc:o.cls=.type n) (hd:o.data=.fields vs)
    (hn:["enumerate","zip","dict_itemiterator","dict_reverseitemiterator","odict_iterator","itertools.zip_longest","itertools.pairwise"].contains n=false) (hQ:Q () s):IJ M A (KJ tg (.ref it) u) Q E s:=by
  unfold KJ
  cases tg <;> first
    | exact Hw hQ
    | (cases u <;> first
        | exact Hw hQ
        | (refine Hq (wpAny_load ho ?_)
           rw[hc,hd]
           show IJ M A (if (["enumerate","zip","dict_itemiterator","dict_reverseitemiterator","odict_iterator","itertools.zip_longest","itertools.pairwise"].contains n&&vs[0]?==some (rawInt _))=true then _ else _) Q E s
           rw[if_neg (by intro h;rw[hn,K4] at h;cases h)]
           exact Hw hQ))
def Itl (K:Ho) (a:Addr):It:=
 ⟨λi H=>∃xs x,Qz K H a xs/\xs[i]?=some x,λi H x H'=>H'=H/\∀xs,Qz K H a xs->xs[i]?=some x,λi H=>∃xs,Qz K H a xs/\xs.length<=i⟩
def Itt (K:Ho) (a:Addr):It:=
 ⟨λi H=>∃xs x,Qq K H a xs/\xs[i]?=some x,λi H x H'=>H'=H/\∀xs,Qq K H a xs->xs[i]?=some x,λi H=>∃xs,Qq K H a xs/\xs.length<=i⟩
def Vy (lo:Int) (n:Nat):It:=⟨λi _=>i<n,λi H x H'=>H'=H/\x=.int (lo+i),λi _=>n<=i⟩
theorem qt {P:Ip} {w:Ji} {K:Ho} {tg:Expr} (a it:Addr):Turn P w K tg (Itl K a) [it] it (λi h=>h.IsListIter it a i) where
 mem:=by simp
 obj:=λi h st b hb=>by
  have e:b=it:=by simpa using hb
  subst e
  obtain ⟨o,e,c,d⟩:=st
  exact ⟨o,e,λv z=>by rw[d] at z;cases z⟩
 keep:=λi h h' st k=>st.at λo e=>k it (by simp) o e
 item:=by
  intro X hP hw hK hc i pins s σ H E I hf st hg
  subst hP hw hK
  obtain ⟨xs,x,hq,hx⟩:=hg
  obtain ⟨its,rv,p,hz⟩:=I.list hq
  obtain ⟨u,hu,ru⟩:=rv.get hx
  obtain ⟨f0,f1,f2,f3,f4,f5⟩:=hf it (by simp)
  refine wpAny_pyNext_list_item st p.isList (x:=u) (by simpa using hu) λh' Pt sb=>?_
  have I1:Inv X pins σ H { s with heap:=h' }:=I.turned (t':=s.toks) (λb o hb e=>(sb.2 b hb).trans e) f0 f1 f3 f4 f5
  obtain ⟨o,e,c,d⟩:=id Pt
  exact ⟨u,rfl,oK (s:={ s with heap:=h' }) e c d (by decide) ⟨x,H,I1,ru,⟨rfl,λys hy=>by rw[I.list_inj hy hq];exact hx⟩,Pt,λb hb=>(hf b hb).1⟩⟩
 done:=by
  intro X hP hw hK hc i pins s σ H E I hf st hg
  subst hP hw hK
  obtain ⟨xs,hq,hx⟩:=hg
  obtain ⟨its,rv,p,hz⟩:=I.list hq
  obtain ⟨f0,f1,f2,f3,f4,f5⟩:=hf it (by simp)
  have hl:=rv.length
  exact wpAny_pyNext_list_end (I.ok.hd hc) st p.isList (by simp;omega) λh' eb=>⟨rfl,I.turned (t':=s.toks) (λb o hb e=>eb b o hb e) f0 f1 f3 f4 f5⟩
 self:=λ_ _ _ _ _ st h=>wpAny_pyIter_listiter st h
theorem nv {P:Ip} {w:Ji} {K:Ho} {tg:Expr} (a it:Addr):Turn P w K tg (Itt K a) [it] it (λi h=>h.IsTupleIter it a i) where
 mem:=by simp
 obj:=λi h st b hb=>by
  have e:b=it:=by simpa using hb
  subst e
  obtain ⟨o,e,c,d⟩:=st
  exact ⟨o,e,λv z=>by rw[d] at z;cases z⟩
 keep:=λi h h' st k=>st.at λo e=>k it (by simp) o e
 item:=by
  intro X hP hw hK hc i pins s σ H E I hf st hg
  subst hP hw hK
  obtain ⟨xs,x,hq,hx⟩:=hg
  obtain ⟨its,rv,p,hz⟩:=I.tuple hq
  obtain ⟨u,hu,ru⟩:=rv.get hx
  obtain ⟨f0,f1,f2,f3,f4,f5⟩:=hf it (by simp)
  refine wpAny_pyNext_tuple_item st (show s.heap.IsTuple a its.toArray from p) (x:=u) (by simpa using hu) λh' Pt sb=>?_
  have I1:Inv X pins σ H { s with heap:=h' }:=I.turned (t':=s.toks) (λb o hb e=>(sb.2 b hb).trans e) f0 f1 f3 f4 f5
  obtain ⟨o,e,c,d⟩:=id Pt
  exact ⟨u,rfl,oK (s:={ s with heap:=h' }) e c d (by decide) ⟨x,H,I1,ru,⟨rfl,λys hy=>by rw[I.tuple_inj hy hq];exact hx⟩,Pt,λb hb=>(hf b hb).1⟩⟩
 done:=by
  intro X hP hw hK hc i pins s σ H E I hf st hg
  subst hP hw hK
  obtain ⟨xs,hq,hx⟩:=hg
  obtain ⟨its,rv,p,hz⟩:=I.tuple hq
  obtain ⟨f0,f1,f2,f3,f4,f5⟩:=hf it (by simp)
  have hl:=rv.length
  exact wpAny_pyNext_tuple_end (I.ok.hd hc) st (show s.heap.IsTuple a its.toArray from p) (by simp;omega) λh' eb=>⟨rfl,I.turned (t':=s.toks) (λb o hb e=>eb b o hb e) f0 f1 f3 f4 f5⟩
 self:=λ_ _ _ _ _ st h=>wpAny_pyIter_tupleiter st h
theorem ny {P:Ip} {w:Ji} {K:Ho} {tg:Expr} (it:Addr) (lo:Int) (n:Nat):Turn P w K tg (Vy lo n) [it] it (λi h=>IsRangeIter h it (lo+(i:Nat)*1) ((n:Int)-(i:Nat)) 1) where
 mem:=by simp
 obj:=λi h st b hb=>by
  have e:b=it:=by simpa using hb
  subst e
  exact ⟨_,st,λv z=>by
   have z':NT _=Lh v:=z
   cases z'⟩
 keep:=λi h h' st k=>k it (by simp) _ st
 item:=by
  intro X hP hw hK hc i pins s σ H E I hf st hg
  subst hP hw hK
  obtain ⟨f0,f1,f2,f3,f4,f5⟩:=hf it (by simp)
  have W:=Walks.range (prog:=X.prog) (w:=X.w) (I.ok.hd hc) it lo 1 n
  refine W.item i s _ _ hg st λv h' tk hv Pt kk=>?_
  obtain ⟨t,rfl⟩:=hv
  have I1:Inv X pins σ H { s with heap:=h',toks:=tk }:=I.turned (λb o hb e=>kk b o (by simpa using hb) e) f0 f1 f3 f4 f5
  refine ⟨_,rfl,oK (s:={ s with heap:=h',toks:=tk }) (n:="range_iterator") Pt rfl rfl (by decide) ⟨.int (lo+i),H,I1,⟨t,?_⟩,⟨rfl,rfl⟩,Pt,λb hb=>(hf b hb).1⟩⟩
  rw[Int.mul_one]
 done:=by
  intro X hP hw hK hc i pins s σ H E I hf st hg
  subst hP hw hK
  obtain ⟨f0,f1,f2,f3,f4,f5⟩:=hf it (by simp)
  exact wpAny_pyNext_range_end (I.ok.hd hc) st (by have:n<=i:=hg;omega) λh' eb=>⟨rfl,I.turned (t':=s.toks) (λb o hb e=>eb b o hb e) f0 f1 f3 f4 f5⟩
 self:=λ_ _ _ _ _ st h=>wpAny_pyIter_rangeiter st h
end L2
namespace L2
open PySem PySem.Spec PyProof.Rows
section
variable {X:Cx} {tg:Expr}
def zt (K:Ho) (tl:TE):TI:=fun σ H R=>tl σ H λx H1=>∃a,x=.ref a/\(∃xs,Qz K H1 a xs)/\R (Itl K a) H1
def Ei (K:Ho) (tl:TE):TI:=fun σ H R=>tl σ H λx H1=>∃a,x=.ref a/\(∃xs,Qq K H1 a xs)/\R (Itt K a) H1
theorem wG {l:Expr} {tl:TE} (hl:PE X l tl):PI X tg l (zt X.K tl):=by
 intro pins s σ H R I h
 refine PF (hl pins s σ H _ I h) λv s1 Pk=>?_
 obtain ⟨x,H1,I1,r1,q1⟩:=Pk
 obtain ⟨a,e,⟨xs,hq⟩,q⟩:=q1
 subst e
 cases r1
 obtain ⟨its,rv,p,hz⟩:=I1.list hq
 refine wpAny_pyIter_list p.isList ?_
 refine ⟨s1.heap.objs.size,[s1.heap.objs.size],_,_,H1,rfl,I1.kept (t':=s1.toks) λb o e=>Hs _ e,qt a _,⟨_,HP _ rfl,rfl,rfl⟩,λb hb=>?_,q⟩
 have e:b=s1.heap.objs.size:=by simpa using hb
 subst e
 exact I1.fpOk (HA _) (I1.hok.fresh (HA _))
theorem Bo {l:Expr} {tl:TE} (hl:PE X l tl):PI X tg l (Ei X.K tl):=by
 intro pins s σ H R I h
 refine PF (hl pins s σ H _ I h) λv s1 Pk=>?_
 obtain ⟨x,H1,I1,r1,q1⟩:=Pk
 obtain ⟨a,e,⟨xs,hq⟩,q⟩:=q1
 subst e
 cases r1
 obtain ⟨its,rv,p,hz⟩:=I1.tuple hq
 refine wpAny_pyIter_tuple (show s1.heap.IsTuple a its.toArray from p) ?_
 refine ⟨s1.heap.objs.size,[s1.heap.objs.size],_,_,H1,rfl,I1.kept (t':=s1.toks) λb o e=>Hs _ e,nv a _,⟨_,HP _ rfl,rfl,rfl⟩,λb hb=>?_,q⟩
 have e:b=s1.heap.objs.size:=by simpa using hb
 subst e
 exact I1.fpOk (HA _) (I1.hok.fresh (HA _))
theorem lU {pins:List (Addr×Obj)} {σ:St} {H:Hp} {s:Hv} {R:It->Hp->Prop} {E:Ht->Hv->Prop} {lo hi:Int} {t u v:Tok} {tk:Nat} (I:Inv X pins σ H s) (h1:-(2 ^ 62)<=lo) (h2:lo<2 ^ 62) (h3:-(2 ^ 62)<=hi) (h4:hi<2 ^ 62)
  (q:R (Vy lo (hi-lo).toNat) H):IJ (IB X.prog X.w) X.A (NJ (.ref s.heap.objs.size)) (PIE X pins σ tg R) E { s with heap:=s.heap.push { cls:=.type "range",data:=.fields #[.int lo t,.int hi u,.int 1 v] },toks:=tk }:=by
 refine wpAny_pyIter_range (IsRange.new ..) (small_one h1 h2 h3 h4) ?_
 have I1:Inv X pins σ H { s with heap:=s.heap.push { cls:=.type "range",data:=.fields #[.int lo t,.int hi u,.int 1 v] },toks:=tk }:=I.kept λb o e=>Hs _ e
 refine ⟨(s.heap.push { cls:=.type "range",data:=.fields #[.int lo t,.int hi u,.int 1 v] }).objs.size,[(s.heap.push { cls:=.type "range",data:=.fields #[.int lo t,.int hi u,.int 1 v] }).objs.size],_,_,H,rfl,
  I1.kept (t':=tk) λb o e=>Hs _ e,ny _ lo (hi-lo).toNat,?_,λb hb=>?_,q⟩
 ·have e1:lo+((0:Nat):Int)*1=lo:=by simp
  have e2:(((hi-lo).toNat:Nat):Int)-((0:Nat):Int)=Kv lo hi 1:=by rw[rangeSize_one];split <;> omega
  show IsRangeIter _ _ (lo+((0:Nat):Int)*1) ((((hi-lo).toNat:Nat):Int)-((0:Nat):Int)) 1
  rw[e1,e2]
  exact HP _ rfl
 ·have e:b=(s.heap.push { cls:=.type "range",data:=.fields #[.int lo t,.int hi u,.int 1 v] }).objs.size:=by simpa using hb
  subst e
  exact I1.fpOk (HA _) (I1.hok.fresh (HA _))
def zu (ta:TA):TI:=fun σ H R=>ta σ H λvs H1=>∃j:Int,vs=[.int j]/\-(2 ^ 62)<=j/\j<2 ^ 62/\R (Vy 0 j.toNat) H1
def zw (ta:TA):TI:=fun σ H R=>ta σ H λvs H1=>∃i j:Int,vs=[.int i,.int j]/\(-(2 ^ 62)<=i/\i<2 ^ 62/\-(2 ^ 62)<=j/\j<2 ^ 62)/\R (Vy i (j-i).toNat) H1
theorem qu {a:Expr} {ta:TA} {p pos:Pos} (hg:Gl X "range") (hm:X.mg "range"=none) (ha:PA X [a] ta) (hs:HN [a] X.env=[(false,eval a X.env)]:=by rfl):PI X tg (.Call (.Name "range" p) [a] [] pos) (zu ta):=by
 intro pins s σ H R I h
 refine Call_ (gx I hg hm boot_range (J4 (PF (ha pos pins s σ H _ I h) λus s1 Pk=>?_) hs rfl))
 obtain ⟨vs,H1,I1,r1,q1⟩:=Pk
 obtain ⟨j,e,q1,q2,q⟩:=q1
 subst e
 cases r1 with
 | cons r rr=>
  cases rr
  obtain ⟨t,rfl⟩:=r
  exact call_range_1 (lU I1 (by omega) (by omega) q1 q2 (by simpa using q))
theorem qv {a b:Expr} {ta:TA} {p pos:Pos} (hg:Gl X "range") (hm:X.mg "range"=none) (ha:PA X [a,b] ta) (hs:HN [a,b] X.env=[(false,eval a X.env),(false,eval b X.env)]:=by rfl) (RU:HN [b] X.env=[(false,eval b X.env)]:=by rfl) :
  PI X tg (.Call (.Name "range" p) [a,b] [] pos) (zw ta):=by
 intro pins s σ H R I h
 refine Call_ (gx I hg hm boot_range (J4 (PF (ha pos pins s σ H _ I h) λus s1 ⟨vs,H1,I1,r1,q1⟩=>?_) (by rw[hs,RU]) (by rw[RU];rfl)))
 obtain ⟨i,j,e,⟨q1,q2,q3,q4⟩,q⟩:=q1
 subst e
 cases r1 with
 | cons r rr=>
  cases rr with
  | cons r' rr=>
   cases rr
   obtain ⟨t,rfl⟩:=r
   obtain ⟨t',rfl⟩:=r'
   exact call_range_2 (lU I1 q1 q2 q3 q4 q)
def Ej (wi:TI) (g:TG) (tb:TS):TS:=λD σ H=>wi σ H λJ H1=>∃W:Nat->Nat->St->Hp->Prop,(∃m,W 0 m σ H1)/\∀i m σ H,W i m σ H ->
 (J.stop i H/\D.nx σ H)\/(J.go i H/\∃N:St->Hp->Prop,(∀ σ' H',N σ' H'->∃m',m'<m/\W (i+1) m' σ' H')/\∀x H',J.yld i H x H'->g x σ H' fun σ2 H2=>tb { D with nx:=N,ct:=N,bk:=D.nx } σ2 H2)
def cw (fp:List Addr) (h:Heap):List (Addr×Obj):=fp.filterMap λb=>(h.get? b).map λo=>(b,o)
theorem aQ {fp:List Addr} {h:Heap} {b:Addr} {o:Obj} (hb:b∈fp) (e:h.get? b=some o):(b,o)∈cw fp h:=List.mem_filterMap.mpr ⟨b,hb,by rw[e];rfl⟩
theorem fw {fp:List Addr} {h:Heap} {p:Addr×Obj} (hp:p∈cw fp h):p.1∈fp/\h.get? p.1=some p.2:=by
 obtain ⟨b,hb,e⟩:=List.mem_filterMap.mp hp
 cases q:h.get? b with
 | none=>rw[q] at e;cases e
 | some o=>
  rw[q] at e
  have e':(b,o)=p:=Ij e
  subst e'
  exact ⟨hb,q⟩
theorem Inv.pinned {pins:List (Addr×Obj)} {σ:St} {H:Hp} {s:Hv} {fp:List Addr} (I:Inv X pins σ H s) (hf:∀b∈fp,eU X pins H b) (ho:∀b∈fp,∃o,s.heap.get? b=some o/\∀v,o.data≠.cell v):Inv X (pins++cw fp s.heap) σ H s:=
 I.pins_of λp hp=>(List.mem_append.mp hp).elim (λz=>I.pin p (Hr _ z)) λz=>by
  obtain ⟨hb,e⟩:=fw z
  obtain ⟨f0,f1,f2,_⟩:=hf p.1 hb
  obtain ⟨o,e',d⟩:=ho p.1 hb
  rw[e] at e';cases e'
  exact ⟨e,f0,f1,f2,d⟩
theorem Inv.unpinned {pins pl:List (Addr×Obj)} {σ:St} {H:Hp} {s:Hv} (I:Inv X (pins++pl) σ H s):Inv X pins σ H s:=I.pins_of λp hp=>I.pin p (Hr _ (HR _ hp))
theorem Bp {iter:Expr} {body:List Stmt} {wi:TI} {g:TG} {tb:TS} {pos:Pos} (hp:OW (IB X.prog X.w) X.A X.env X.xe) (hc:X.calm=true) (hi:PI X tg iter wi) (hg:PG X tg g) (hb:Rt X body tb)
  (hs:∀x,HY iter X.env x=pure x:=by intro _;rfl):PS X (.For tg iter body [] pos) (Ej wi g tb):=by
 intro pins s σ H D I h
 refine wpAny_For (PF (hi pins s σ H _ I h) λv s1 h1=>PF h1 λTb s2 h2=>?_) hs
 obtain ⟨it,fp,tn,J,H2,e,I2,T,Pj,f2,W,⟨m0,w0⟩,turn⟩:=h2
 subst e
 -- Ub stays true of QG iterator's objects through QG loop
 have Q7:∀{H':Hp},(∀b∈fp,H' b=none)->∀b∈fp,eU X pins H' b:=λhn b hb=>⟨hn b hb,(f2 b hb).2⟩
 refine codeAny_forLoop_any (λn s'=>∃i σ' H',Inv X pins σ' H' s'/\tn i s'.heap/\(∀b∈fp,H' b=none)/\W i n σ' H') ?_ m0 ⟨0,σ,H2,I2,Pj,λb hb=>(f2 b hb).1,w0⟩
 rintro n s3 ⟨i,σ3,H3,I3,Qi,fr3,w3⟩
 rcases turn i n σ3 H3 w3 with ⟨stop,qn⟩ | ⟨go,N,hN,step⟩
 ·refine Kq hp (PF (T.done X rfl rfl rfl hc i pins s3 σ3 H3 X.xe I3 (Q7 fr3) Qi stop) λr s4 Pk=>?_)
  obtain ⟨hr,I4⟩:=Pk
  subst hr
  exact L5 ⟨σ3,H3,I4,qn⟩
 ·refine Kq hp (PF (T.item X rfl rfl rfl hc i pins s3 σ3 H3 X.xe I3 (Q7 fr3) Qi go) λr s4 Pk=>?_)
  obtain ⟨u,hr,h4⟩:=Pk
  subst hr
  refine Kq hp (PF h4 λ_ s5 Pk=>?_)
  obtain ⟨x,H5,I5,r5,y5,Py,Ra⟩:=Pk
  have I5':=I5.pinned (Q7 Ra) (T.obj _ _ Py)
  refine Kq hp (PF (hg _ s5 σ3 H5 x u _ I5' r5 (step x H5 y5)) λ_ s6 Pk=>?_)
  obtain ⟨σ6,H6,I6,q6⟩:=Pk
  refine Kq hp (PF (hb _ s6 σ6 H6 _ I6 q6) λf s7 q7=>?_)
  have Mf:∀{σ7:St} {H7:Hp},Inv X (pins++cw fp s5.heap) σ7 H7 s7->N σ7 H7->∃m,m<n/\∃i σ' H',Inv X pins σ' H' s7/\tn i s7.heap/\(∀b∈fp,H' b=none)/\W i m σ' H':=λ{σ7 H7} I7 n7=>by
   obtain ⟨m',hm,w7⟩:=hN σ7 H7 n7
   refine ⟨m',hm,i+1,σ7,H7,I7.unpinned,T.keep _ _ _ Py λb hb o e=>(I7.pin (b,o) (Hr _ (Hr _ (aQ hb e)))).1,λb hb=>?_,w7⟩
   obtain ⟨o,e,d⟩:=T.obj _ _ Py b hb
   exact (I7.pin (b,o) (Hr _ (Hr _ (aQ hb e)))).2.1
  cases f with
  | next=>obtain ⟨σ7,H7,I7,n7⟩:=q7;exact Mf I7 n7
  | cont=>obtain ⟨σ7,H7,I7,n7⟩:=q7;exact Mf I7 n7
  | brk=>obtain ⟨σ7,H7,I7,q7⟩:=q7;exact ⟨σ7,H7,I7.unpinned,q7⟩
  | ret v=>obtain ⟨x7,σ7,H7,I7,r7,q7⟩:=q7;exact ⟨x7,σ7,H7,I7.unpinned,r7,q7⟩
end
end L2
namespace L2
open PySem PySem.Spec PyProof.Rows
abbrev R2:=V->V->Hp->VK->Prop
def Qt (X:Cx) (f:Ht->Ht->Sem Ht) (r:R2):Prop:=
 ∀(pins:List (Addr×Obj)) (s:Hv) (σ:St) (H:Hp) (x y:V) (v u:Ht) (Q:VK),Inv X pins σ H s->RelV x v->RelV y u->r x y H Q ->
  IJ (IB X.prog X.w) X.A (f v u) (EP X pins σ Q) X.xe s
def Wj (X:Cx) (f:Ht->Sem Ht) (r:V->Hp->VK->Prop):Prop:=
 ∀(pins:List (Addr×Obj)) (s:Hv) (σ:St) (H:Hp) (x:V) (v:Ht) (Q:VK),Inv X pins σ H s->RelV x v->r x H Q ->
  IJ (IB X.prog X.w) X.A (f v) (EP X pins σ Q) X.xe s
def cS (X:Cx) (f:Ht) (r:List V->Hp->VK->Prop):Prop:=
 ∀(pins:List (Addr×Obj)) (s:Hv) (σ:St) (H:Hp) (xs:List V) (us:List Ht) (Q:VK),Inv X pins σ H s->Pm xs us->r xs H Q ->
  IJ (IB X.prog X.w) X.A (call f us) (EP X pins σ Q) X.xe s
def G1 (X:Cx) (r:V->Hp->(Bool->Hp->Prop)->Prop):Prop:=
 ∀(pins:List (Addr×Obj)) (s:Hv) (σ:St) (H:Hp) (x:V) (v:Ht) (Q:Bool->Hp->Prop),Inv X pins σ H s->RelV x v->r x H Q ->
  IJ (IB X.prog X.w) X.A (truthy v) (TP X pins σ Q) X.xe s
def Rw (r:R2) (ta tb:TE):TE:=fun σ H Q=>ta σ H λx H1=>tb σ H1 λy H2=>r x y H2 Q
def tUn (r:V->Hp->VK->Prop) (ta:TE):TE:=fun σ H Q=>ta σ H λx H1=>r x H1 Q
def rI (C:Int->Int->Prop) (g:Int->Int->V):R2:=λx y H Q=>∃i j,x=.int i/\y=.int j/\C i j/\Q (g i j) H
def SK (g:Int->Int->V):R2:=λx y H Q=>∃i j,x=.int i/\y=.int j/\Q (g i j) H
def rU (g:Int->V):V->Hp->VK->Prop:=λx H Q=>∃i,x=.int i/\Q (g i) H
section
variable {X:Cx} {a b c:Expr} {ta tb tc:TE} {pos:Pos}
theorem Bq (ha:PE X a ta) (hb:PE X b tb) {pins:List (Addr×Obj)} {s:Hv} {σ:St} {H:Hp} {R:V->V->Hp->Prop} (I:Inv X pins σ H s)
  (h:ta σ H λx H1=>tb σ H1 λy H2=>R x y H2) {Q:Ht->Hv->Prop} {f:Ht->Ht->Sem Ht}
  (hf:∀v u s2 x y H2,Inv X pins σ H2 s2->RelV x v->RelV y u->R x y H2->IJ (IB X.prog X.w) X.A (f v u) Q X.xe s2) :
  IJ (IB X.prog X.w) X.A (eval a X.env) (λv s₁=>IJ (IB X.prog X.w) X.A (eval b X.env) (λu s₂=>IJ (IB X.prog X.w) X.A (f v u) Q X.xe s₂) X.xe s₁) X.xe s:=by
 refine PF (ha pins s σ H _ I h) λv s1 Pk=>?_
 obtain ⟨x,H1,I1,r1,q1⟩:=Pk
 refine PF (hb pins s1 σ H1 _ I1 q1) λu s2 Pk=>?_
 obtain ⟨y,H2,I2,r2,q2⟩:=Pk
 exact hf v u s2 x y H2 I2 r1 r2 q2
theorem jC {op:OR} {r:R2} (ho:Qt X (Kw op) r) (ha:PE X a ta) (hb:PE X b tb):PE X (.BinOp a op b pos) (Rw r ta tb):=by
 intro pins s σ H Q I h
 exact wpAny_BinOp (Bq ha hb I h λv u s2 x y H2 I2 rx ry q=>ho pins s2 σ H2 x y v u Q I2 rx ry q)
theorem Ek {op:UnaryOp} {r:V->Hp->VK->Prop} (ho:Wj X (unaryOp op) r) (ha:PE X a ta):PE X (.UnaryOp op a pos) (tUn r ta):=by
 intro pins s σ H Q I h
 exact UnaryOp_ (PF (ha pins s σ H _ I h) λv s1 PH=>by obtain ⟨x,H1,I1,r1,q1⟩:=PH;exact ho pins s1 σ H1 x v Q I1 r1 q1)
theorem U1 {f:Ht->Ht->Sem Ht} {C:Int->Int->Prop} {g:Int->Int->Int}
  (rule:∀(i j:Int) (t u:Tok) (s:Hv) (Q:Ht->Hv->Prop) (E:Ht->Hv->Prop),C i j->Q (.int (g i j) s.toks) { s with toks:=s.toks+1 }->IJ (IB X.prog X.w) X.A (f (.int i t) (.int j u)) Q E s) :
  Qt X f (rI C λi j=>.int (g i j)):=by
 intro pins s σ H x y v u Q I rx ry h
 obtain ⟨i,j,rfl,rfl,hc,q⟩:=h
 obtain ⟨t,rfl⟩:=rx
 obtain ⟨t',rfl⟩:=ry
 exact rule i j t t' s _ _ hc ⟨.int (g i j),H,I.tok _,⟨_,rfl⟩,q⟩
theorem Br {f:Ht->Ht->Sem Ht} {g:Int->Int->Int}
  (rule:∀(i j:Int) (t u:Tok) (s:Hv) (Q:Ht->Hv->Prop) (E:Ht->Hv->Prop),Q (.int (g i j) s.toks) { s with toks:=s.toks+1 }->IJ (IB X.prog X.w) X.A (f (.int i t) (.int j u)) Q E s) :
  Qt X f (SK λi j=>.int (g i j)):=by
 intro pins s σ H x y v u Q I rx ry h
 obtain ⟨i,j,rfl,rfl,q⟩:=h
 obtain ⟨t,rfl⟩:=rx
 obtain ⟨t',rfl⟩:=ry
 exact rule i j t t' s _ _ ⟨.int (g i j),H,I.tok _,⟨_,rfl⟩,q⟩
theorem wH {f:Ht->Ht->Sem Ht} {g:Int->Int->Bool}
  (rule:∀(i j:Int) (t u:Tok) (s:Hv) (Q:Ht->Hv->Prop) (E:Ht->Hv->Prop),Q (.bool (g i j)) s->IJ (IB X.prog X.w) X.A (f (.int i t) (.int j u)) Q E s) :
  Qt X f (SK λi j=>.bl (g i j)):=by
 intro pins s σ H x y v u Q I rx ry h
 obtain ⟨i,j,rfl,rfl,q⟩:=h
 obtain ⟨t,rfl⟩:=rx
 obtain ⟨t',rfl⟩:=ry
 exact rule i j t t' s _ _ ⟨.bl (g i j),H,I,rfl,q⟩
def G2 (i j:Int):Prop:=0<j/\j<1073741824
def El (i j:Int):Prop:=0<=j/\j<=1000000/\i.natAbs<2 ^ 64
def Bs (i j:Int):Prop:=(-(2 ^ 64)<i/\i<2 ^ 64)\/(-(2 ^ 64)<j/\j<2 ^ 64)
theorem Bs.ok {i j:Int} (h:Bs i j):IntMulOk i j:=by
 rcases h with ⟨h1,h2⟩ | ⟨h1,h2⟩
 ·exact .of_left (intBits_le_64 h1 h2)
 ·exact .of_right (intBits_le_64 h1 h2)
theorem two_pow_nn (k:Nat):(0:Int)<=2 ^ k:=by
 rw[two_pow_cast]
 exact Int.natCast_nonneg _
theorem aZ:Qt X (Kw .Add) (SK λi j=>.int (i+j)):=Br λ_ _ _ _ _ _ _ q=>add_int q
theorem eW:Qt X (Kw .Sub) (SK λi j=>.int (i-j)):=Br λ_ _ _ _ _ _ _ q=>sub_int q
theorem gA:Qt X (Kw .Mult) (rI Bs λi j=>.int (i*j)):=U1 λ_ _ _ _ _ _ _ hc q=>mul_int q hc.ok
theorem hZ:Qt X (Kw .FloorDiv) (rI G2 λi j=>.int (i / j)):=U1 λi j _ _ _ _ _ hc q=>by
 have h1:(0:Int)<j:=hc.1
 have h2:j<1073741824:=hc.2
 exact floordiv_int (by omega) (by rw[Mg i (by omega)];exact q) (.inl (PyProof.noPylong_small (by omega)))
theorem ez:Qt X (Kw .Mod) (rI (λ_ j=>0<j) λi j=>.int (i%j)):=U1 λi j _ _ _ _ _ hc q=>by
 have h1:(0:Int)<j:=hc
 exact mod_int' (by omega) (by rw[Int.fmod_eq_emod_of_nonneg i (by omega)];exact q)
theorem nA:Qt X (Kw .Pow) (rI El λi j=>.int (i ^ j.toNat)):=U1 λ_ _ _ _ _ _ _ hc q=>pow_int_small hc.1 hc.2.1 hc.2.2 q
theorem iE:Qt X (Kw .LShift) (rI El λi j=>.int (i*2 ^ j.toNat)):=U1 λ_ _ _ _ _ _ _ hc q=>lshift_int_small hc.1 hc.2.1 hc.2.2 q
theorem eX:Qt X (Kw .RShift) (rI (λ_ j=>0<=j) λi j=>.int (i / 2 ^ j.toNat)):=U1 λi j _ _ _ _ _ hc q=>
 rshift_int hc (by rw[Mg i (two_pow_nn _)];exact q)
theorem gB:Qt X (Kw .BitAnd) (SK λi j=>.int (K5 i j)):=Br λ_ _ _ _ _ _ _ q=>and_int q
theorem unI {f:Ht->Sem Ht} {g:Int->Int}
  (rule:∀(i:Int) (t:Tok) (s:Hv) (Q:Ht->Hv->Prop) (E:Ht->Hv->Prop),Q (.int (g i) s.toks) { s with toks:=s.toks+1 }->IJ (IB X.prog X.w) X.A (f (.int i t)) Q E s) :
  Wj X f (rU λi=>.int (g i)):=by
 intro pins s σ H x v Q I rx h
 obtain ⟨i,rfl,q⟩:=h
 obtain ⟨t,rfl⟩:=rx
 exact rule i t s _ _ ⟨.int (g i),H,I.tok _,⟨_,rfl⟩,q⟩
theorem dR:Wj X (unaryOp .USub) (rU λi=>.int (-i)):=unI λ_ _ _ _ _ q=>neg_int q
end
def wJ:V->V->Bool
 | .non,.non=>true | .non,.int _=>true | .int _,.non=>true | .non,.bl _=>true | .bl _,.non=>true | .non,.str _=>true | .str _,.non=>true
 | .int _,.int _=>true | .bl _,.bl _=>true | .str _,.str _=>true | .byt _,.byt _=>true
 | .int _,.str _=>true | .str _,.int _=>true | .bl _,.str _=>true | .str _,.bl _=>true
 | _,_=>false
def rEq:R2:=λx y H Q=>wJ x y=true/\Q (.bl (decide (x=y))) H
def rNe:R2:=λx y H Q=>wJ x y=true/\Q (.bl (!decide (x=y))) H
theorem oM {i j:Int}:decide (V.int i=V.int j)=(i==j):=by
 rw[Ju]
 simp
theorem sF {i j:Bool}:decide (V.bl i=V.bl j)=(i==j):=by
 rw[Ju]
 simp
theorem oN {i j:Str}:decide (V.str i=V.str j)=(i==j):=by
 rw[Ju]
 simp
theorem oO {i j:Array UInt8}:decide (V.byt i=V.byt j)=(i.toList==j.toList):=by
 rw[Ju]
 cases i
 cases j
 simp
section
variable {X:Cx} {a b c:Expr} {ta tb tc:TE} {pos:Pos}
theorem aR {pins:List (Addr×Obj)} {σ:St} {H:Hp} {s:Hv} {Q:VK} {k k':Bool} (I:Inv X pins σ H s) (q:Q (.bl k) H) (e:k=k'):EP X pins σ Q (.bool k') s:=by
 subst e
 exact ⟨.bl k,H,I,rfl,q⟩
theorem iF:Qt X (JB .Eq) rEq:=by
 intro pins s σ H x y v u Q I rx ry h
 obtain ⟨hs,q⟩:=h
 cases x with
 | non=>
  cases rx
  cases y with
  | non=>cases ry;exact PySem.EqNone.eq_none_none (aR I q (by simp))
  | bl j=>cases ry;exact PySem.EqNone.eq_none_bool (aR I q (by simp))
  | int j=>obtain ⟨t',rfl⟩:=ry;exact PySem.EqNone.eq_none_int (aR I q (by simp))
  | str j=>obtain ⟨t',rfl⟩:=ry;exact PySem.EqNone.eq_none_str (aR I q (by simp))
  | _=>exact absurd (show false=true from hs) Hy
 | bl i=>
  cases rx
  cases y with
  | non=>cases ry;exact PySem.EqNone.eq_bool_none (aR I q (by simp))
  | bl j=>cases ry;exact eq_bool (aR I q sF)
  | str j=>obtain ⟨t',rfl⟩:=ry;exact PySem.EqMixed.eq_bool_str (aR I q (by simp))
  | _=>exact absurd (show false=true from hs) Hy
 | int i=>
  obtain ⟨t,rfl⟩:=rx
  cases y with
  | non=>cases ry;exact PySem.EqNone.eq_int_none (aR I q (by simp))
  | int j=>obtain ⟨t',rfl⟩:=ry;exact eq_int (aR I q oM)
  | str j=>obtain ⟨t',rfl⟩:=ry;exact PySem.EqMixed.eq_int_str (aR I q (by simp))
  | _=>exact absurd (show false=true from hs) Hy
 | str i=>
  obtain ⟨t,rfl⟩:=rx
  cases y with
  | non=>cases ry;exact PySem.EqNone.eq_str_none (aR I q (by simp))
  | bl j=>cases ry;exact PySem.EqMixed.eq_str_bool (aR I q (by simp))
  | int j=>obtain ⟨t',rfl⟩:=ry;exact PySem.EqMixed.eq_str_int (aR I q (by simp))
  | str j=>obtain ⟨t',rfl⟩:=ry;exact eq_str (aR I q oN)
  | _=>exact absurd (show false=true from hs) Hy
 | byt i=>
  obtain ⟨t,rfl⟩:=rx
  cases y with
  | byt j=>obtain ⟨t',rfl⟩:=ry;exact PySem.W.eq_bytes (aR I q oO)
  | _=>exact absurd (show false=true from hs) Hy
 | _=>cases y <;> exact absurd (show false=true from hs) Hy
theorem zx:Qt X (JB .NotEq) rNe:=by
 intro pins s σ H x y v u Q I rx ry h
 obtain ⟨hs,q⟩:=h
 cases x with
 | non=>
  cases rx
  cases y with
  | non=>cases ry;exact PySem.EqNone.ne_none_none (aR I q (by simp))
  | bl j=>cases ry;exact PySem.EqNone.ne_none_bool (aR I q (by simp))
  | int j=>obtain ⟨t',rfl⟩:=ry;exact PySem.EqNone.ne_none_int (aR I q (by simp))
  | str j=>obtain ⟨t',rfl⟩:=ry;exact PySem.EqNone.ne_none_str (aR I q (by simp))
  | _=>exact absurd (show false=true from hs) Hy
 | bl i=>
  cases rx
  cases y with
  | non=>cases ry;exact PySem.EqNone.ne_bool_none (aR I q (by simp))
  | bl j=>cases ry;exact ne_bool (aR I q (congrArg not sF))
  | str j=>obtain ⟨t',rfl⟩:=ry;exact PySem.EqMixed.ne_bool_str (aR I q (by simp))
  | _=>exact absurd (show false=true from hs) Hy
 | int i=>
  obtain ⟨t,rfl⟩:=rx
  cases y with
  | non=>cases ry;exact PySem.EqNone.ne_int_none (aR I q (by simp))
  | int j=>obtain ⟨t',rfl⟩:=ry;exact ne_int (aR I q (congrArg not oM))
  | str j=>obtain ⟨t',rfl⟩:=ry;exact PySem.EqMixed.ne_int_str (aR I q (by simp))
  | _=>exact absurd (show false=true from hs) Hy
 | str i=>
  obtain ⟨t,rfl⟩:=rx
  cases y with
  | non=>cases ry;exact PySem.EqNone.ne_str_none (aR I q (by simp))
  | bl j=>cases ry;exact PySem.EqMixed.ne_str_bool (aR I q (by simp))
  | int j=>obtain ⟨t',rfl⟩:=ry;exact PySem.EqMixed.ne_str_int (aR I q (by simp))
  | str j=>obtain ⟨t',rfl⟩:=ry;exact ne_str (aR I q (congrArg not oN))
  | _=>exact absurd (show false=true from hs) Hy
 | byt i=>
  obtain ⟨t,rfl⟩:=rx
  cases y with
  | byt j=>obtain ⟨t',rfl⟩:=ry;exact PySem.W.ne_bytes (aR I q (congrArg not oO))
  | _=>exact absurd (show false=true from hs) Hy
 | _=>cases y <;> exact absurd (show false=true from hs) Hy
theorem jD:Qt X (JB .Lt) (SK λi j=>.bl (decide (i<j))):=wH λ_ _ _ _ _ _ _ q=>lt_int q
theorem gX:Qt X (JB .LtE) (SK λi j=>.bl (decide (i<=j))):=wH λ_ _ _ _ _ _ _ q=>le_int q
theorem oP:Qt X (JB .Gt) (SK λi j=>.bl (decide (j<i))):=wH λ_ _ _ _ _ _ _ q=>gt_int q
theorem zy:Qt X (JB .GtE) (SK λi j=>.bl (decide (j<=i))):=wH λ_ _ _ _ _ _ _ q=>ge_int q
theorem br (b:Expr) {op:CmpOp} (h:op≠.In:=by decide) (h2:op≠.NotIn:=by decide):Li op b=false:=by
 have e1:(op==CmpOp.In)=false:=by cases op <;> first | rfl | exact absurd rfl h
 have e2:(op==CmpOp.NotIn)=false:=by cases op <;> first | rfl | exact absurd rfl h2
 cases b <;> simp[Li,e1,e2]
theorem wK {op:CmpOp} {r:R2} (ho:Qt X (JB op) r) (ha:PE X a ta) (hb:PE X b tb) (hm:Li op b=false):PE X (.Compare a [op] [b] pos) (Rw r ta tb):=by
 intro pins s σ H Q I h
 exact wpAny_Compare1 (Bq ha hb I h λv u s2 x y H2 I2 rx ry q=>ho pins s2 σ H2 x y v u Q I2 rx ry q) hm
def sG (t:TE):TT:=fun σ H Q=>t σ H λx H'=>∃k,x=.bl k/\Q k H'
theorem wL {op:CmpOp} {r:R2} (ho:Qt X (JB op) r) (ha:PE X a ta) (hb:PE X b tb) (hm:Li op b=false):PT X (.Compare a [op] [b] pos) (sG (Rw r ta tb)):=by
 intro pins s σ H Q I h
 refine wpAny_isTrue_Compare1 (PF (ha pins s σ H _ I h) λv s1 ⟨x,H1,I1,r1,q1⟩=>PF (hb pins s1 σ H1 _ I1 q1) λu s2 ⟨y,H2,I2,r2,q2⟩=>
  PF (ho pins s2 σ H2 x y v u _ I2 r1 r2 q2) λc s3 ⟨z,H3,I3,r3,k,e,q3⟩=>?_) hm
 subst e
 cases r3
 exact Ko ⟨H3,I3,q3⟩
def nB (r r':R2) (ta tb tc:TE):TE:=fun σ H Q=>ta σ H λx H1=>tb σ H1 λy H2=>r x y H2 λz H3=>∃k,z=.bl k /\
 (if k=true then tc σ H3 λw' H4=>r' y w' H4 Q else Q (.bl false) H3)
theorem sH {op Ue:CmpOp} {r r':R2} (ho:Qt X (JB op) r) (RC:Qt X (JB Ue) r') (ha:PE X a ta) (hb:PE X b tb) (hc:PE X c tc)
  (hm:lastMarks [op,Ue] [b,c]=false:=by with_unfolding_all rfl):PE X (.Compare a [op,Ue] [b,c] pos) (nB r r' ta tb tc):=by
 intro pins s σ H Q I h
 refine Compare_chain (PF (ha pins s σ H _ I h) λv s1 ⟨x,H1,I1,r1,q1⟩=>chain_link (PF (hb pins s1 σ H1 _ I1 q1) λu s2 ⟨y,H2,I2,r2,q2⟩=>
  PF (ho pins s2 σ H2 x y v u _ I2 r1 r2 q2) λd s3 ⟨z,H3,I3,r3,k,e,q3⟩=>?_)) hm
 subst e
 cases r3
 refine Ko ?_
 cases k with
 | false=>exact ite_ff ⟨.bl false,H3,I3,rfl,q3⟩
 | true=>exact ite_tt (chain_last (PF (hc pins s3 σ H3 _ I3 q3) λw' s4 PH=>by obtain ⟨z',H4,I4,r4,q4⟩:=PH;exact RC pins s4 σ H4 y z' u w' Q I4 r2 r4 q4))
def Ug (K:Ho) (x:V) (H:Hp) (k:Bool):Prop:=
 match x with
 | .non=>k=false
 | .bl b=>k=b
 | .int i=>k=(i != 0)
 | .str y=>y.length<=Ii/\k=((y.length:Int) != 0)
 | .byt y=>y.size<=Ii/\k=((y.size:Int) != 0)
 | .ref p=>(∃xs,Qz K H p xs/\k=!xs.isEmpty)\/(∃xs,Qq K H p xs/\k=!xs.isEmpty)\/∃kvs,H p=some (.dK kvs)/\k=!kvs.isEmpty
 | _=>False
theorem nE {κ:Type} {kvs:List (κ×V)} {vs:List (κ×Ht)} (r:KV kvs vs):(!vs.isEmpty)=!kvs.isEmpty:=by
 cases r <;> rfl
theorem iG {xs:List V} {its:List Ht} (r:Pm xs its):(!its.toArray.isEmpty)=!xs.isEmpty:=by
 cases r <;> simp
theorem fL:(Ii:Nat)<2 ^ 63:=by rw[IL];decide
theorem Bt:G1 X (λx H Q=>∃k,Ug X.K x H k/\Q k H):=by
 intro pins s σ H x v Q I rx h
 obtain ⟨k,e,q⟩:=h
 have hl:=fL
 have hs:Ii=16777216:=IL
 cases x with
 | non=>
  cases rx
  have e':k=false:=e
  subst e'
  exact truthy_none ⟨H,I,q⟩
 | bl b=>
  cases rx
  have e':k=b:=e
  subst e'
  exact Ko ⟨H,I,q⟩
 | int i=>
  obtain ⟨t,rfl⟩:=rx
  have e':k=(i != 0):=e
  subst e'
  exact PySem.P.truthy_int ⟨H,I,q⟩
 | str y=>
  obtain ⟨t,rfl⟩:=rx
  obtain ⟨hy,e'⟩:y.length<=Ii/\k=((y.length:Int) != 0):=e
  subst e'
  exact PySem.P.truthy_str (by omega) ⟨H,I.tok _,q⟩
 | byt y=>
  obtain ⟨t,rfl⟩:=rx
  obtain ⟨hy,e'⟩:y.size<=Ii/\k=((y.size:Int) != 0):=e
  subst e'
  exact PySem.W.truthy_bytes (by omega) ⟨H,I.tok _,q⟩
 | ref p=>
  cases rx
  have e':(∃xs,Qz X.K H p xs/\k=!xs.isEmpty)\/(∃xs,Qq X.K H p xs/\k=!xs.isEmpty)\/∃kvs,H p=some (.dK kvs)/\k=!kvs.isEmpty:=e
  rcases e' with ⟨xs,hx,e'⟩ | ⟨xs,hx,e'⟩ | ⟨kvs,hx,e'⟩
  ·subst e'
   obtain ⟨its,r,pl,hz⟩:=I.list hx
   have hlen:=r.length
   exact wpAny_truthy_list pl.isList (by simp only[HD];omega) ⟨H,I.tok _,by rw[iG r];exact q⟩
  ·subst e'
   obtain ⟨its,r,pl,hz⟩:=I.tuple hx
   have hlen:=r.length
   exact truthy_tuple pl (by simp only[HD];omega) ⟨H,I.tok _,by rw[iG r];exact q⟩
  ·subst e'
   obtain ⟨hz,hS,vs,r,m⟩:kvs.length<=Ii/\(p==KD)=false/\∃vs,KV kvs vs/\s.heap.DictOf (kn X.prog X.w) p vs:=I.hok p _ hx
   have hlen:kvs.length=vs.length:=JM r
   exact wpAny_truthy_dict hS m (by omega) ⟨H,I.tok _,by rw[nE r];exact q⟩
 | _=>exact (show False from e).elim
theorem sI (ha:PE X a ta) (he:∀whole,OF a X.env whole=(do let v <- whole;Le a.pos;Lg [v] (truthy v))) :
  PT X a (fun σ H Q=>ta σ H λx H'=>∃k,Ug X.K x H' k/\Q k H'):=by
 intro pins s σ H Q I h
 exact isTrue_plain (PF (ha pins s σ H _ I h) λv s1 PH=>by obtain ⟨x,H1,I1,r1,q1⟩:=PH;exact Bt pins s1 σ H1 x v Q I1 r1 q1) (he _)
theorem vals1 {x:V} {us:List Ht} (r:Pm [x] us):∃u,us=[u]/\RelV x u:=by
 cases r with
 | cons r1 r2=>cases r2;exact ⟨_,rfl,r1⟩
theorem vals2 {x y:V} {us:List Ht} (r:Pm [x,y] us):∃u w',us=[u,w']/\RelV x u/\RelV y w':=by
 cases r with
 | cons r1 r2=>
  cases r2 with
  | cons r3 r4=>cases r4;exact ⟨_,_,rfl,r1,r3⟩
theorem qw (hc:X.calm=true):cS X (.builtin "max") (λxs H Q=>∃i j,xs=[.int i,.int j]/\Q (.int (if j>i then j else i)) H):=by
 intro pins s σ H xs us Q I r h
 obtain ⟨i,j,rfl,q⟩:=h
 obtain ⟨u,w',rfl,⟨t,rfl⟩,⟨t',rfl⟩⟩:=vals2 r
 refine max_two_ints (I.ok.hd hc) λh' tk k=>⟨_,H,I.kept k,?_,q⟩
 by_cases hj:j>i
 ·rw[if_pos hj,if_pos hj];exact ⟨_,rfl⟩
 ·rw[if_neg hj,if_neg hj];exact ⟨_,rfl⟩
theorem qx (hc:X.calm=true):cS X (.builtin "min") (λxs H Q=>∃i j,xs=[.int i,.int j]/\Q (.int (if j<i then j else i)) H):=by
 intro pins s σ H xs us Q I r h
 obtain ⟨i,j,rfl,q⟩:=h
 obtain ⟨u,w',rfl,⟨t,rfl⟩,⟨t',rfl⟩⟩:=vals2 r
 refine min_two_ints (I.ok.hd hc) λh' tk k=>⟨_,H,I.kept k,?_,q⟩
 by_cases hj:j<i
 ·rw[if_pos hj,if_pos hj];exact ⟨_,rfl⟩
 ·rw[if_neg hj,if_neg hj];exact ⟨_,rfl⟩
end
end L2
namespace L2
open PySem PySem.Spec PyProof.Rows
structure Uh (h:Heap) (x dx C:Addr) (mA:Str->Option Ht):Prop where
 obj:h.get? x=some (M6 C dx)
 ns:h.Ns1 dx mA
 ne:dx≠x
theorem qy {h:Heap} {dx:Addr} {mA:Str->Option Ht} (n:h.Ns1 dx mA):∃od,h.get? dx=some od/\∀name,NK name od=some (mA name):=by
 obtain ⟨o,es,ep,ho,hd,hk,_,hm⟩:=n
 refine ⟨o,ho,λname=>?_⟩
 have e:=hm name
 unfold nsFind findBy at e
 rw[<- Array.find?_toList] at e
 unfold NK
 rw[hd]
 dsimp only
 split
 ·rename_i y q
  rw[q] at e
  exact congrArg some e
 ·rename_i q
  rw[q] at e
  have a:es.toList.any (·.refKey)=false:=by
   rw[List.any_eq_false]
   intro y hy
   obtain ⟨z,t,hkey⟩:=hk y (Array.mem_toList_iff.mp hy)
   simp[DictEntry.refKey,hkey]
  have a':¬ es.toList.any (·.refKey)=true:=by rw[a];exact Hy
  rw[if_neg a']
  exact congrArg some e
theorem Uh.look {h:Heap} {x dx C:Addr} {mA:Str->Option Ht} (I:Uh h x dx C mA):∃od,PySem.W.InstAt h x (M6 C dx) C (some od)/\∀name,NK name od=some (mA name):=
 let ⟨od,ho,hl⟩:=qy I.ns
 ⟨od,⟨I.obj,rfl,rfl,ho⟩,hl⟩
section
variable {P:Ip} {w:Ji} {H H':Hp} {h h':Heap} {a C dx:Addr} {fs fs':List (Str×V)}
theorem wM (hok:QP P w H h) (e:H a=some (.ins C dx fs)):∃mA,Uh h a dx C mA/\(∀f,Sv (fs.lookup f) (mA f))/\PySem.Within mA (fs.map (·.1))/\fs.length<=1000/\H dx=some (.own a):=by
 obtain ⟨d,z,ne,ob,mA,n,r,q⟩:=(show bA P w H h a (.ins C dx fs) from hok a _ e)
 exact ⟨mA,⟨ob,n,ne⟩,r,q,z,d⟩
end
structure WY (K:Ho) (C:Addr):Prop where
 pg:PySem.W.plainGet K C Str.empty=true
 hd:PySem.W.hasDictIn K C=true
 po:PySem.W.plainOver K C=true
 sa:PySem.W.findIn K (.ref C) "__setattr__"=some (some (.builtin "object.__setattr__"))
theorem WY.get {K:Ho} {C:Addr} (c:WY K C) (f:Str):PySem.W.plainGet K C f=true:=c.pg
section
variable {X:Cx} {pins:List (Addr×Obj)} {σ:St} {H:Hp} {s:Hv} {A:Js} {E:Ht->Hv->Prop} {Q:Ht->Hv->Prop} {c:Ht} {b:Bool}
inductive g8 (K:Ho) (H:Hp):V->Ht->Prop where
 | non:g8 K H .non (.type "NoneType")
 | bl (x:Bool):g8 K H (.bl x) (.type "bool")
 | int (i:Int):g8 K H (.int i) (.type "int")
 | str (x:Str):g8 K H (.str x) (.type "str")
 | flt (x:UInt64):g8 K H (.flt x) (.type "float")
 | lst {a:Addr} {xs:List V} (e:H a=some (.lst xs)):g8 K H (.ref a) (.type "list")
 | frz {a:Addr} {o:Obj} {xs:List V} (e:H a=some (.frz o (.lst xs))):g8 K H (.ref a) (.type "list")
 | tup {a:Addr} {xs:List V} (e:H a=some (.tup xs)):g8 K H (.ref a) (.type "tuple")
 | dK {a:Addr} {kvs:List (Key×V)} (e:H a=some (.dK kvs)):g8 K H (.ref a) (.type "dict")
 | dT {a:Addr} {kvs:List (List Key×V)} (e:H a=some (.dT kvs)):g8 K H (.ref a) (.type "dict")
 | ins {a C dx:Addr} {fs:List (Str×V)} (e:H a=some (.ins C dx fs)) (cl:WY K C) (ha:PySem.W.findIn K (.ref C) "__class__"=some (some (.builtin "object.__class__")))
   (hn:PySem.W.specialIn K (.builtin "object.__class__") "__get__"=some (some (.builtin "getset_descriptor.__get__"))) (htk:PySem.W.takesIn K (.builtin "object.__class__")=some true)
   (hm:PySem.W.mroIn K C (.type "object")=some true):g8 K H (.ref a) (.ref C)
theorem di {x:V} {u t:Ht} (I:Inv X pins σ H s) (rx:RelV x u) (ty:g8 X.K H x t) (e:IN X.K t c=some b) (h:∀tk,Q (.bool b) { s with toks:=tk }) :
  IJ (IB X.prog X.w) A (call (.builtin "isinstance") [u,c]) Q E s:=by
 cases ty with
 | non=>cases (show u=IP from rx);exact Je PySem.W.kitx_none I.kIn Lz e (λz=>nomatch z) h
 | bl y=>cases (show u=Oi y from rx);exact Je PySem.W.kitx_bool I.kIn Lz e (λz=>nomatch z) h
 | int i=>obtain ⟨t,q⟩:=(show ∃t,u=L1 i t from rx);cases q;exact Je PySem.W.kitx_int I.kIn Lz e (λz=>nomatch z) h
 | str y=>obtain ⟨t,q⟩:=(show ∃t,u=OU y t from rx);cases q;exact Je PySem.W.kitx_str I.kIn Lz e (λz=>nomatch z) h
 | flt y=>obtain ⟨t,q⟩:=(show ∃t,u=Value.float y t from rx);cases q;exact Je PySem.W.kitx_float I.kIn Lz e (λz=>nomatch z) h
 | @lst a xs ea=>
  cases (show u=IG a from rx)
  obtain ⟨_,_,n,_,h1⟩:=(show bA X.prog X.w H s.heap a (.lst xs) from I.hok a _ ea)
  exact Je Mx I.kIn ⟨_,h1,rfl⟩ e (λz=>nomatch z) h
 | @frz a ob xs ea=>
  cases (show u=IG a from rx)
  obtain ⟨_,_,_,n,_,h1⟩:=(show bA X.prog X.w H s.heap a (.frz ob (.lst xs)) from I.hok a _ ea)
  exact Je Mx I.kIn ⟨_,h1,rfl⟩ e (λz=>nomatch z) h
 | @tup a xs ea=>
  cases (show u=IG a from rx)
  obtain ⟨_,_,_,p⟩:=(show bA X.prog X.w H s.heap a (.tup xs) from I.hok a _ ea)
  obtain ⟨o,h1,h2,_⟩:=p
  exact Je N6 I.kIn ⟨o,h1,h2⟩ e (λz=>nomatch z) h
 | @dK a kvs ea=>
  cases (show u=IG a from rx)
  obtain ⟨_,_,vs,_,p⟩:=(show bA X.prog X.w H s.heap a (.dK kvs) from I.hok a _ ea)
  obtain ⟨o,es,ep,h1,h2,_⟩:=p
  exact Je Mz I.kIn ⟨o,h1,h2.1⟩ e (λz=>nomatch z) h
 | @dT a kvs ea=>
  cases (show u=IG a from rx)
  obtain ⟨_,_,xs,_,o,es,ep,h1,h2,_⟩:=(show bA X.prog X.w H s.heap a (.dT kvs) from I.hok a _ ea)
  exact Je Mz I.kIn ⟨o,h1,h2.1⟩ e (λz=>nomatch z) h
 | @ins a C dx fs ea cl ha hn htk hm=>
  cases (show u=IG a from rx)
  obtain ⟨mA,O,_⟩:=wM I.hok ea
  obtain ⟨od,J,_⟩:=O.look
  exact Je (PySem.W.kitx_own (cl.get _) cl.hd ha hn htk hm) I.kIn J e (λz=>nomatch z) h
end
end L2
namespace L2
open PySem PySem.Spec PyProof.Rows
structure cy (k:Nat) (A:Js):Prop where
 hd:A.handled=none
 dp:A.depth+3*k+5<recursionLimit
 un:A.units+16*k+200<Ls
 gd:A.guards=some []
theorem cy.mono {j k:Nat} {A:Js} (r:cy k A) (h:j<=k):cy j A:=⟨r.hd,by have:=r.dp;omega,by have:=r.un;omega,r.gd⟩
theorem cy.deeper {k:Nat} {A:Js} (r:cy (k+1) A) (env:Env):cy k (A.deeper env):=
 ⟨r.hd,by have:=r.dp;show A.depth+1+3*k+5<_;omega,by have:=r.un;show A.units+3+16*k+200<_;omega,r.gd⟩
theorem cy.depth {k:Nat} {A:Js} (r:cy k A):A.depth<recursionLimit:=by have:=r.dp;omega
theorem cy.units {k:Nat} {A:Js} (r:cy k A):A.units+64<Ls:=by have:=r.un;omega
def jw:TA:=λ_ H Q=>Q [] H
def eQ (ta:TE) (tr:TA):TA:=fun σ H Q=>ta σ H λx H1=>tr σ H1 λxs H2=>Q (x::xs) H2
section
variable {X:Cx} {e:Expr} {es:List Expr} {te:TE} {t:TA} {pos:Pos}
theorem eE:PA X [] jw:=λ_ _ _ _ H Q I h=>Om ⟨[],H,I,.nil,h⟩
theorem bZ (ha:PE X e te) (hr:PA X es t) (hs:HN (e::es) X.env=(false,eval e X.env)::HN es X.env:=by rfl):PA X (e::es) (eQ te t):=by
 intro pos pins s σ H Q I h
 rw[hs]
 show IJ _ _ (spliced ((false,eval e X.env)::J9 pos (HN es X.env))) _ _ s
 refine N7 (PF (ha pins s σ H _ I h) λu s1 Pk=>?_)
 obtain ⟨x,H1,I1,r1,q1⟩:=Pk
 exact PF (hr pos pins s1 σ H1 _ I1 q1) λus s2 PH=>by obtain ⟨xs,H2,I2,r2,q2⟩:=PH;exact ⟨x::xs,H2,I2,.cons r1 r2,q2⟩
def Bu (t:TA):TE:=fun σ H Q=>t σ H λxs H1=>xs.length<=Ii/\∀p,H1 p=none->Q (.ref p) (upd H1 p (.tup xs))
def Bv (t:TA):TE:=fun σ H Q=>t σ H λxs H1=>xs.length<=Ii/\∀p,H1 p=none->Q (.ref p) (upd H1 p (.lst xs))
theorem sJ {x1} (h:PA X es t):PE X (.Tuple es x1 pos) (Bu t):=by
 intro pins s σ H Q I hq
 refine wpAny_Tuple_spliced (PF (h pos pins s σ H _ I hq) λus s1 ⟨xs,H1,I1,r,z,q⟩=>⟨by rw[<- r.length];exact z,?_⟩)
 have hf:H1 s1.heap.objs.size=none:=I1.hok.fresh (HA _)
 refine ⟨.ref s1.heap.objs.size,upd H1 s1.heap.objs.size (.tup xs),I1.laid (t':=s1.toks) (λb u e=>Hs _ e) (HA _) ?_,rfl,q _ hf⟩
 exact ⟨z,us,r,⟨_,HP _ rfl,rfl,_,rfl⟩⟩
theorem sL (h:PA X es t):PE X (.List es pos) (Bv t):=by
 intro pins s σ H Q I hq
 refine wpAny_List_spliced (PF (h pos pins s σ H _ I hq) λus s1 ⟨xs,H1,I1,r,z,q⟩=>⟨by rw[<- r.length];exact z,?_⟩)
 have hf:H1 s1.heap.objs.size=none:=I1.hok.fresh (HA _)
 refine ⟨.ref s1.heap.objs.size,upd H1 s1.heap.objs.size (.lst xs),I1.laid (t':=s1.toks) (λb u e=>Hs _ e) (HA _) ?_,rfl,q _ hf⟩
 exact ⟨z,us,0,r,HP _ rfl⟩
end
abbrev Sp:=List V->Hp->VK->XK->Prop
abbrev Sw:=List Env->Hp->Hv->XK->Ht->Hv->Prop
structure Tc (P:Ip) (w:Ji) (K:Ho) (mg:Str->Option Ht) (base:Heap) (A:Js) (outer:List Env) (s:Hv) (H:Hp):Prop where
 frames:A.frames=some outer
 mod:Mod K mg base
 bs:∀b o,base.get? b=some o->s.heap.get? b=some o/\H b=none
 bsz:base.objs.size<=s.heap.objs.size
 funs:s.heap.FunFrames base outer
 frf:∀b∈QS outer,H b=none
 hok:QP P w H s.heap
 bare:L3 s.gens
def CE (outer:List Env) (P:Ip) (w:Ji) (H:Hp) (s:Hv) (Q:VK) (u:Ht) (s':Hv):Prop:=
 ∃v H',s'.os=s.os/\L3 s'.gens/\Un (QS outer) [] H H' s.heap s'.heap/\QP P w H' s'.heap/\RelV v u/\Q v H'
def CR (CX:Sw) (outer:List Env) (P:Ip) (w:Ji) (H:Hp) (s:Hv) (Q:VK) (E:XK) (r:Result) (s':Hv):Prop:=
 match r with
 | .ok (.ret u)=>CE outer P w H s Q u s'
 | .ok _=>False
 | .error e=>CX outer H s E e s'
structure g9 (P:Ip) (w:Ji) (K:Ho) (mg:Str->Option Ht) (base:Heap) (CX:Sw) (k:Nat) (f:Addr) (fd:Kx) (ps:List Str) (sp:Sp):Prop where
 len:∀vs H Q E,sp vs H Q E->vs.length=ps.length
 run:∀(A:Js) (outer:List Env) (s:Hv) (H:Hp) (args:Args) (us:List Ht) (vs:List V) (Q:VK) (E:XK),cy k A->Tc P w K mg base A outer s H->On s fd args (ps.zip us)->Pm vs us->sp vs H Q E ->
  KG (IB P w) A (.call (.ref f) args) (CR CX outer P w H s Q E) s
section
variable {X:Cx} {pins:List (Addr×Obj)} {σ:St} {H:Hp} {s s':Hv}
theorem Inv.env0 (I:Inv X pins σ H s):Tc X.prog X.w X.K X.mg X.base X.A X.stack s H:=
 ⟨I.ok.frames,I.ok.mod,I.bs,Jf I.ok.bsz I.sz,I.stack,I.stkFree,I.hok,I.bare⟩
theorem Inv.after {Q:VK} {u:Ht} (I:Inv X pins σ H s) (h:CE X.stack X.prog X.w H s Q u s'):EP X pins σ Q u s':=by
 obtain ⟨v,H',os,bare,un,hok,r,q⟩:=h
 obtain ⟨hh,g,d,t,os'⟩:=s'
 obtain rfl:os'=s.os:=os
 exact ⟨v,H',I.call (h':=hh) (g':=g) (d':=d) (t':=t) (ch:=[]) un hok bare (λb z=>absurd z (by simp)),r,q⟩
end
def iH (sp:Sp) (TQ:List V) (E:XK) (t:TA):TE:=fun σ H Q=>t σ H λvs H1=>sp (vs++TQ) H1 Q E
def Binds (K:Ho) (fd:Kx) (ps:List Str) (ds:List Ht):Prop:=
 ∀(s:Hv) (us:List Ht),K.In s.heap->(us++ds).length=ps.length->On s fd ⟨us,[]⟩ (ps.zip (us++ds))
theorem Binds.all {K:Ho} {fd:Kx} {ps:List Str} (h:∀us:List Ht,us.length=ps.length->Nu fd ⟨us,[]⟩=pure (ps.zip us)):Binds K fd ps []:=λs us _ hl=>by
 rw[IV] at hl ⊢
 exact .of_eq (h us hl)
def nF (CX:Sw) (X:Cx) (E:XK):Prop:=∀(pins:List (Addr×Obj)) (σ:St) (H:Hp) (s:Hv) (e:Ht) (s':Hv),Inv X pins σ H s->CX X.stack H s E e s'->X.xe e s'
section
variable {X:Cx} {CX:Sw} {k:Nat} {f C:Addr} {fd:Kx} {ps:List Str} {sp:Sp} {TQ:List V} {ds:List Ht} {E:XK} {x m:Str} {p pos PO:Pos} {e o:Expr} {es:List Expr} {ta:TE} {t:TA}
theorem Bw {pins:List (Addr×Obj)} {σ:St} {H:Hp} {s:Hv} {Q:VK} {us:List Ht} {vs:List V} (F:g9 X.prog X.w X.K X.mg X.base CX k f fd ps sp) (hr:cy k X.A) (hb:Binds X.K fd ps ds) (hd:Pm TQ ds) (hx:nF CX X E)
  (I:Inv X pins σ H s) (r:Pm vs us) (h:sp (vs++TQ) H Q E):IJ (IB X.prog X.w) X.A (call (.ref f) us) (EP X pins σ Q) X.xe s:=by
 have r2:Pm (vs++TQ) (us++ds):=r.append hd
 have hl:(us++ds).length=ps.length:=by rw[<- r2.length];exact F.len _ _ _ _ h
 refine Oo (Mi (F.run X.A X.stack s H ⟨us,[]⟩ (us++ds) (vs++TQ) Q E hr I.env0 (hb s us I.kIn hl) r2 h) λr s' hq=>?_)
 cases r with
 | error e=>exact hx pins σ H s e s' I hq
 | ok fl=>
  cases fl with
  | ret u=>exact I.after hq
  | next=>exact KU hq
  | brk=>exact KU hq
  | cont=>exact KU hq
theorem oQ (F:g9 X.prog X.w X.K X.mg X.base CX k f fd ps sp) (hr:cy k X.A) (hg:Gl X x) (hm:X.mg x=some (.ref f)) (hk:KE X.K (.ref f)=true) (hb:Binds X.K fd ps ds) (hd:Pm TQ ds) (hx:nF CX X E)
  (ha:PA X (e::es) t) (Rm:(x==("__debug__":Str))=false:=by decide) (he:HN (e::es) X.env=(false,eval e X.env)::HN es X.env:=by rfl) (hpl:(J9 pos (HN es X.env)).any (·.1)=false:=by rfl) :
  PE X (.Call (.Name x p) (e::es) [] pos) (iH sp TQ E t):=by
 intro pins s σ H Q I h
 refine Lj (fT I hg hm ?_ Rm)
 refine N8 (h₀:=X.base) I.ok.mod.kin hk (PF (ha pos pins s σ H _ I h) λus s1 ⟨vs,H1,I1,r,q⟩=>⟨I1.kIn,?_⟩) he hpl
 exact Bw F hr hb hd hx I1 r q
end
structure aD (N P:List Str) (sc:JX):Prop where
 kind:sc.kind=.function
 co:sc.isCoroutine=false
 gen:sc.isGenerator=false
 nd:N.Nodup
 pre:N.take P.length=P
 par:∀x∈P,sc.names.lookup x=some .local\/sc.names.lookup x=some .cell
 nofree:∀y∈sc.names,y.2≠.free
theorem jE {kindOf:Str->Option JF} {x:Str}:∀{binds:List (Str×Ht)} {m:Str->Option Ht},(∀v,(x,v)∉binds)->Pg kindOf binds m x=m x
 | [],_,_=>rfl
 | (n,v)::r,m,h=>by
  unfold Pg
  rw[jE λw hw=>h w (Ic _ hw)]
  split
  ·have:x≠n:=by rintro rfl;exact h v Hx
   simp[this]
  ·rfl
theorem jF {kindOf:Str->Option JF} {x:Str}:∀{binds:List (Str×Ht)} {m:Str->Option Ht},(∀v,(x,v)∉binds)->Ph kindOf binds m x=m x
 | [],_,_=>rfl
 | (n,v)::r,m,h=>by
  unfold Ph
  rw[jF λw hw=>h w (Ic _ hw)]
  split
  ·rfl
  ·have:x≠n:=by rintro rfl;exact h v Hx
   simp[this]
theorem jG {kindOf:Str->Option JF} {x:Str} {v:Ht}:∀{P:List Str} {vs:List Ht} {i:Nat} {m:Str->Option Ht},P.Nodup->P[i]?=some x->vs[i]?=some v->kindOf x=some .local ->
  Pg kindOf (P.zip vs) m x=some v
 | [],_,_,_,_,h,_,_=>by simp at h
 | _::_,[],_,_,_,_,h,_=>by simp at h
 | p::P,w::vs,0,m,nd,h1,h2,hk=>by
  simp at h1 h2;subst h1;subst h2
  show Pg kindOf ((p,w)::P.zip vs) m p=_
  unfold Pg
  rw[jE λv hv=>(List.nodup_cons.mp nd).1 (M8 hv).1,if_pos hk]
  simp
 | p::P,w::vs,i+1,m,nd,h1,h2,hk=>by
  show Pg kindOf ((p,w)::P.zip vs) m x=_
  unfold Pg
  exact jG (i:=i) (List.nodup_cons.mp nd).2 (by simpa using h1) (by simpa using h2) hk
theorem jH {kindOf:Str->Option JF} {x:Str} {v:Ht}:∀{P:List Str} {vs:List Ht} {i:Nat} {m:Str->Option Ht},P.Nodup->P[i]?=some x->vs[i]?=some v->kindOf x≠some .local ->
  Ph kindOf (P.zip vs) m x=some v
 | [],_,_,_,_,h,_,_=>by simp at h
 | _::_,[],_,_,_,_,h,_=>by simp at h
 | p::P,w::vs,0,m,nd,h1,h2,hk=>by
  simp at h1 h2;subst h1;subst h2
  show Ph kindOf ((p,w)::P.zip vs) m p=_
  unfold Ph
  rw[jF λv hv=>(List.nodup_cons.mp nd).1 (M8 hv).1,if_neg hk]
  simp
 | p::P,w::vs,i+1,m,nd,h1,h2,hk=>by
  show Ph kindOf ((p,w)::P.zip vs) m x=_
  unfold Ph
  exact jH (i:=i) (List.nodup_cons.mp nd).2 (by simpa using h1) (by simpa using h2) hk
def start (N:List Str) (vs:List V):St:=vs.map some++HH (N.length-vs.length) none
def hV (CX:Sw) (P:Ip) (w:Ji) (K:Ho) (mg:Str->Option Ht) (base:Heap) (N:List Str) (qual:Str) (scope:JX) (f:Addr) (cd:Ht) (A:Js) (outer:List Env) (s:Hv) (H:Hp) (E:XK):Cx where
 prog:=P
 w:=w
 K:=K
 mg:=mg
 base:=base
 A:=A.deeper (envOfC qual scope s.heap.objs.size f cd)
 N:=N
 s₀:=s
 H₀:=H
 env:=envOfC qual scope s.heap.objs.size f cd
 outer:=outer
 stack:=envOfC qual scope s.heap.objs.size f cd::outer
 ex:=[]
 calm:=true
 fn:=λ_=>true
 pn:=[]
 xe:=λe s'=>IJ (IB P w) (A.deeper (envOfC qual scope s.heap.objs.size f cd)) (leaving (envOfC qual scope s.heap.objs.size f cd) e) (λ_ s''=>CX outer H s E e s'') (λe' s''=>CX outer H s E e' s'') s'
theorem lV {sc:JX} {n:Nat} {x:Str} (h:sc.names.lookup x=some .cell):∃c,(cellsFrom n sc.names []).lookup x=some c:=by
 have q:=MW sc.names n [] (.inl h)
 exact Option.isSome_iff_exists.mp q
theorem qz {CX:Sw} {P:Ip} {w:Ji} {K:Ho} {mg:Str->Option Ht} {base:Heap} {N ps:List Str} {qual:Str} {scope:JX} {f:Addr} {cd:Ht} {A:Js} {outer:List Env} {s s1:Hv} {H:Hp} {E:XK} {us:List Ht} {vs:List V}
  (S:aD N ps scope) (hd:A.handled=none) (e0:Tc P w K mg base A outer s H) (hl:vs.length=ps.length) (r:Pm vs us)
  (x:InCallC s s.heap.objs.size (Pg (envOfC qual scope s.heap.objs.size f cd).kindOf (ps.zip us) λ_=>none) (cellsFrom (s.heap.objs.size+1) scope.names []) (Ph (envOfC qual scope s.heap.objs.size f cd).kindOf (ps.zip us) λ_=>none) s1) :
  Inv (hV CX P w K mg base N qual scope f cd A outer s H E) [] (start N vs) H s1:=by
 have hpl:ps.length<=N.length:=by have:=congrArg Kk S.pre;rw[JU] at this;omega
 obtain ⟨h1,tk,rfl,hk⟩:=x.done
 have Vz:∀b:Addr,b∉(hV CX P w K mg base N qual scope f cd A outer s H E).ex:=λb z=>absurd (show b∈([]:List Addr) from z) (by simp)
 refine ⟨⟨e0.mod,S.kind,rfl,rfl,HA _,λy z c h1 h2=>?_,λy hy=>?_,λy c _ h=>?_,λ_=>hd,Around.frames_deeper e0.frames,.inr ⟨rfl,rfl⟩,λb z=>absurd z (Vz b),e0.bs,e0.bsz,λb _ _=>Vz b,λb z=>absurd z (Vz b),e0.funs,e0.frf⟩,
  rfl,e0.bare,Un.kept hk,⟨_,x.toInCall.ns,λi y v h1 h2 h3=>?_⟩,λy c h=>⟨_,x.cell y c h⟩,e0.hok.fresh (HA _),λy c h=>?_,λp hp=>absurd (show p∈([]:List (Addr×Obj)) from hp) (by simp),e0.hok.kept hk,?_⟩
 ·exact name_of_addr x.apart (II h1) (II h2)
 ·have hy:scope.names.lookup y=some .cell\/scope.names.lookup y=some .free:=hy
  rcases hy with hy | hy
  ·exact lV hy
  ·exact absurd rfl (S.nofree _ (II hy))
 ·exact LN (x.above y c (II h))
 ·have hi:i<vs.length:=by
   unfold start at h2
   by_cases hi:i<vs.length
   ·exact hi
   ·rw[HV (by simpa using hi)] at h2
    rw[Ky] at h2
    split at h2 <;> cases h2
  have ha:vs[i]?=some v:=by
   unfold start at h2
   rw[Ie (by simpa using hi),HQ] at h2
   cases e:vs[i]? with
   | none=>rw[e] at h2;cases h2
   | some a=>rw[e] at h2;cases h2;rfl
  obtain ⟨u,hu,rv⟩:=r.get ha
  have hp:ps[i]?=some y:=by
   rw[<- S.pre,List.getElem?_take_of_lt (by omega)];exact h1
  have ndP:ps.Nodup:=by rw[<- S.pre];exact S.nd.sublist (List.take_sublist _ _)
  refine ⟨u,rv,?_⟩
  rcases S.par y (Jp hp) with k | k
  ·exact .inl ⟨k,jG ndP hp hu k⟩
  ·obtain ⟨c,e⟩:=lV (n:=s.heap.objs.size+1) k
   refine .inr ⟨.inl k,c,e,?_⟩
   have q:=x.cell y c e
   rw[jH ndP hp hu (by show scope.names.lookup y≠_;rw[k];decide)] at q
   exact q
 ·exact e0.hok.fresh (LN (x.above y c (II h)))
 ·unfold start
  show _=N.length
  rw[HK,Hz,Kf]
  omega
theorem zA {CX:Sw} {P:Ip} {w:Ji} {K:Ho} {mg:Str->Option Ht} {base:Heap} {k:Nat} {f:Addr} {name qual:Str} {params:Arguments} {body:List Stmt} {scope:JX} {dV kV doc pm PC ct oc:Ht} {an od:Option Addr}
  {Rx:Array (Option Ht)} {N ps:List Str} {sp:Sp} (lk:K.lookup f=some ⟨oc,od,.func (JP name qual params body scope dV kV doc pm an PC ct),Rx⟩) (hcd:Ml K PC qual=true) (S:aD N ps scope)
  (len:∀vs H Q E,sp vs H Q E->vs.length=ps.length)
  (hbody:∀(A:Js) (outer:List Env) (s:Hv) (H:Hp) (vs:List V) (Q:VK) (E:XK),cy k (A.deeper (envOfC qual scope s.heap.objs.size f PC))->sp vs H Q E ->
   ∃t,Rt (hV CX P w K mg base N qual scope f PC A outer s H E) body t/\t { nx:=λ_ H'=>Q .non H',rt:=Q } (start N vs) H) :
  g9 P w K mg base CX (k+1) f (JP name qual params body scope dV kV doc pm an PC ct) ps sp:=by
 refine ⟨len,λA outer s H args us vs Q E hr e0 hb r TR=>?_⟩
 have hl:=len _ _ _ _ TR
 have KX:K.In s.heap:=e0.mod.kin.keeps λb o e=>(e0.bs b o e).1
 have lim:s.heap.NoLimit:=e0.mod.nolimit.keeps λb o e=>(e0.bs b o e).1
 have hkind:∀y∈ps.zip us,scope.names.lookup y.1=some .local\/(scope.names.lookup y.1=some .cell/\((cellsFrom (s.heap.objs.size+1) scope.names []).lookup y.1).isSome=true):=λ⟨n,v⟩ hy=>by
  rcases S.par n (M8 hy).1 with q | q
  ·exact .inl q
  ·exact .inr ⟨q,MW _ _ _ (.inl q)⟩
 refine codeAny_call_function hr.depth (KX _ _ lk) rfl S.co S.gen rfl (PySem.W.codeRec_of KX hcd) (hb _ _ _ _ ?_)
 refine wpAny_newFunctionEnv_cells S.kind hkind λenv he s1 x=>?_
 subst he
 refine ⟨lim.keeps x.toInCall.keep,codeAny_func ?_⟩
 obtain ⟨t,ht,hq⟩:=hbody A outer s H vs Q E (hr.deeper _) TR
 have I:Inv (hV CX P w K mg base N qual scope f PC A outer s H E) [] (start N vs) H s1:=qz S hr.hd e0 hl r x
 refine Ih (ht [] s1 (start N vs) H _ I hq) (λfl s' hs=>?_) λe s' hs=>hs
 have fin:∀{σ':St} {H':Hp} {v:V} {u:Ht},Inv (hV CX P w K mg base N qual scope f PC A outer s H E) [] σ' H' s'->RelV v u->Q v H'->CE outer P w H s Q u s':=
  λ{σ' H' v u} J rv q=>⟨v,H',J.os,J.bare,J.base,J.hok,rv,q⟩
 cases fl with
 | ret u=>
  obtain ⟨v,σ',H',J,rv,q⟩:=hs
  exact fin J rv q
 | next=>
  obtain ⟨σ',H',J,q⟩:=hs
  exact fin (v:=V.non) (u:=IP) J rfl q
 | brk=>
  obtain ⟨_,_,_,q⟩:=hs
  exact KU q
 | cont=>
  obtain ⟨_,_,_,q⟩:=hs
  exact KU q
end L2
namespace L2
open PySem PySem.Spec PyProof.Rows
section
variable {X:Cx} {x:Str} {p pos:Pos} {e:Expr} {es:List Expr} {t:TA} {id T:String} {r:List V->Hp->VK->Prop}
def Sm (r:List V->Hp->VK->Prop) (t:TA):TE:=fun σ H Q=>t σ H λvs H1=>r vs H1 Q
theorem eY (hc:cS X (.builtin id) r) (hg:Gl X x) (hm:X.mg x=none) (hv:IZ x=some (.builtin id)) (ha:PA X (e::es) t) (hn:x≠"__name__":=by decide) (Rm:(x==("__debug__":Str))=false:=by decide)
  (he:HN (e::es) X.env=(false,eval e X.env)::HN es X.env:=by rfl) (hpl:(J9 pos (HN es X.env)).any (·.1)=false:=by rfl):PE X (.Call (.Name x p) (e::es) [] pos) (Sm r t):=by
 intro pins s σ H Q I h
 refine Lj (gx I hg hm hv ?_ hn Rm)
 exact PyProof.Rows.callWith_builtin1 (PF (ha pos pins s σ H _ I h) λus s1 PH=>by obtain ⟨vs,H1,I1,r1,q1⟩:=PH;exact hc pins s1 σ H1 vs us Q I1 r1 q1) he hpl
theorem fx (hc:cS X (.type T) r) (hg:Gl X x) (hm:X.mg x=none) (hv:IZ x=some (.type T)) (ha:PA X (e::es) t) (hn:x≠"__name__":=by decide) (Rm:(x==("__debug__":Str))=false:=by decide)
  (he:HN (e::es) X.env=(false,eval e X.env)::HN es X.env:=by rfl) (hpl:(J9 pos (HN es X.env)).any (·.1)=false:=by rfl):PE X (.Call (.Name x p) (e::es) [] pos) (Sm r t):=by
 intro pins s σ H Q I h
 refine Lj (gx I hg hm hv ?_ hn Rm)
 exact J4 (PF (ha pos pins s σ H _ I h) λus s1 PH=>by obtain ⟨vs,H1,I1,r1,q1⟩:=PH;exact hc pins s1 σ H1 vs us Q I1 r1 q1) he hpl
end
end L2
namespace HT
open PySem PyProof.Rows
def lexLt:List Int->List Int->Bool
 | [],[]=>false
 | [],_::_=>true
 | _::_,[]=>false
 | x::xs,y::ys=>if x=y then lexLt xs ys else decide (x<y)
theorem eF (x y:Int) (xs ys:List Int):lexLt (x::xs) (y::ys)=if x=y then lexLt xs ys else decide (x<y):=rfl
section
variable {prog:Ip} {w:Ji} {A:Js} {E:Ht->Hv->Prop} {s:Hv}
theorem wN {t b:Addr} {vs ws:List Ht} {Q:Ht->Hv->Prop} (ht:IsTup s.heap t vs.toArray) (hb:IsTup s.heap b ws.toArray) (hv:vs≠[])
  (h1:ws=[]->Q (.ref t) s) (h2:ws≠[]->Q (.ref s.heap.objs.size) { s with heap:=s.heap.push { cls:=.type "tuple",data:=.seq (vs++ws).toArray } })
  (hsz:vs.length+ws.length<=Ii):IJ (IB prog w) A (Kw .Add (.ref t) (.ref b)) Q E s:=by
 obtain ⟨⟨cls,dd,data,sl⟩,ho,hc,n,hd⟩:=id ht
 obtain ⟨⟨cls2,dd2,data2,Wl⟩,RH,hc2,n2,hd2⟩:=id hb
 simp only at hc hd hc2 hd2
 subst hc hd hc2 hd2
 have e:vs.toArray++ws.toArray=(vs++ws).toArray:=by simp
 by_cases hw:ws=[]
 ·exact OG ⟨_,ho,rfl⟩ ⟨_,RH,rfl⟩ noFill_tuple_add seq_tuple_add MX MM (MA _ _)
   (tuple_addW1 t b vs.toArray ws.toArray n n2 dd dd2 sl Wl (by simpa using hv) (by simp[hw])) ⟨ho,RH,h1 hw⟩
 ·refine OG ⟨_,ho,rfl⟩ ⟨_,RH,rfl⟩ noFill_tuple_add seq_tuple_add MX MM (MA _ _)
   (tuple_addW2 t b vs.toArray ws.toArray n n2 dd dd2 sl Wl (by simpa using hv) (by simpa using hw) (by rw[HD,HD];exact hsz)) ⟨ho,RH,?_⟩
  rw[e]
  exact h2 hw
end
end HT
namespace L2
open PySem PySem.Spec PyProof.Rows
theorem intsAre_of {ns:List Int}:∀{us:List Ht},Pm (ns.map V.int) us->Oq us ns:=by
 induction ns with
 | nil=>intro us r;rw[Iz] at r;cases r;exact .nil
 | cons n ns ih=>
  intro us r
  rw[HJ] at r
  cases r with
  | cons r1 r2=>
   obtain ⟨t,e⟩:=r1
   subst e
   exact .cons n t (ih r2)
section
variable {X:Cx} {e:Expr} {te:TE} {lo hi:Option Expr} {tl th:TO} {pos p2:Pos}
def zB (K:Ho):R2:=λx y H Q=>∃a b xs ys,x=.ref a/\y=.ref b/\Qq K H a xs/\Qq K H b ys/\xs≠[]/\xs.length+ys.length<=Ii /\
 (ys=[]->Q (.ref a) H)/\(ys≠[]->∀p,H p=none->Q (.ref p) (upd H p (.tup (xs++ys))))
theorem Pm.nil_iff {xs:List V} {us:List Ht} (r:Pm xs us):us=[]↔xs=[]:=by
 cases r with
 | nil=>simp
 | cons _ _=>simp
theorem wO:Qt X (Kw .Add) (zB X.K):=by
 intro pins s σ H x y v u Q I rx ry h
 obtain ⟨a,b,xs,ys,rfl,rfl,ha,hb,hx,hz,q1,q2⟩:=h
 cases rx
 cases ry
 obtain ⟨its,r1,p1,_⟩:=I.tuple ha
 obtain ⟨Rn,r2,p2,_⟩:=I.tuple hb
 refine HT.wN p1 p2 (λz=>hx (r1.nil_iff.mp z)) (λz=>⟨.ref a,H,I,rfl,q1 (r2.nil_iff.mp z)⟩) (λz=>?_) (by rw[<- r1.length,<- r2.length];exact hz)
 refine ⟨.ref s.heap.objs.size,_,I.laid (t':=s.toks) (o:=.tup (xs++ys)) (λb ob q=>Hs _ q) (HA _) ?_,rfl,q2 (λw=>z (r2.nil_iff.mpr w)) _ (I.hok.fresh (HA _))⟩
 exact ⟨by rw[HK];exact hz,_,r1.append r2,IsTup.new _ _⟩
end
end L2
namespace L2
open PySem PySem.Spec PyProof.Rows
def Ru (n:Nat) (i:Int):Option Nat:=if 0<=i then (if i<n then some i.toNat else none) else if -(n:Int)<=i then some (i+n).toNat else none
def QY {α:Type} (xs:List α) (i:Int):Option α:=(Ru xs.length i).bind λj=>xs[j]?
theorem oR {n:Nat} {i:Int} {j:Nat} (h:Ru n i=some j):seqIndex? i n=some j/\j<n/\-(n:Int)<=i/\i<n:=by
 unfold Ru at h
 by_cases h0:0<=i
 ·rw[if_pos h0] at h
  by_cases h1:i<n
  ·rw[if_pos h1] at h
   have e:i.toNat=j:=Ij h
   exact ⟨by rw[OX h0 h1,e],by omega,by omega,h1⟩
  ·rw[if_neg h1] at h;cases h
 ·rw[if_neg h0] at h
  by_cases h1:-(n:Int)<=i
  ·rw[if_pos h1] at h
   have e:(i+n).toNat=j:=Ij h
   exact ⟨by rw[OH (by omega) h1,e],by omega,h1,by omega⟩
  ·rw[if_neg h1] at h;cases h
theorem kq {α:Type} {xs:List α} {i:Int} {v:α} (h:QY xs i=some v):∃j,seqIndex? i xs.length=some j/\xs[j]?=some v/\j<xs.length/\-(xs.length:Int)<=i/\i<xs.length:=by
 unfold QY at h
 cases e:Ru xs.length i with
 | none=>rw[e] at h;cases h
 | some j=>
  rw[e] at h
  obtain ⟨h1,h2,h3,h4⟩:=oR e
  exact ⟨j,h1,h,h2,h3,h4⟩
theorem kr {α:Type} {xs:List α} {j:Nat} {v:α} (h:xs[j]?=some v):QY xs (j:Int)=some v:=by
 have hj:j<xs.length:=(List.getElem?_eq_some_iff.mp h).1
 have e:Ru xs.length (j:Int)=some j:=by
  unfold Ru
  rw[if_pos (by omega),if_pos (by omega)];simp
 unfold QY;rw[e];exact h
def fV (b:Expr):Prop:=∀o i,subscripted b false o i=operate [o,i] (getItem o i)
def Sx (X:Cx) (r:R2):Prop:=
 ∀(value slice:Expr) (pins:List (Addr×Obj)) (s:Hv) (σ:St) (H:Hp) (x y:V) (v u:Ht) (Q:VK),Inv X pins σ H s->RelV x v->RelV y u->r x y H Q ->
  subscripted slice false v u=operate [v,u] (getItem v u)->IJ (IB X.prog X.w) X.A (subscriptTail value slice v u) (EP X pins σ Q) X.xe s
def MtR (X:Cx) (id:String) (r:V->List V->Hp->VK->Prop):Prop:=
 ∀(pins:List (Addr×Obj)) (s:Hv) (σ:St) (H:Hp) (x:V) (xs:List V) (v:Ht) (us:List Ht) (Q:VK),Inv X pins σ H s->RelV x v->Pm xs us->r x xs H Q ->
  IJ (IB X.prog X.w) X.A (call (.builtin id) (v::us)) (EP X pins σ Q) X.xe s
section
variable {X:Cx} {a b:Expr} {ta tb:TE} {pos:Pos}
theorem Sx.or {r r':R2} (h:Sx X r) (h':Sx X r'):Sx X (λx y H Q=>r x y H Q\/r' x y H Q):=by
 intro value slice pins s σ H x y v u Q I rx ry q hs
 rcases q with q | q
 ·exact h value slice pins s σ H x y v u Q I rx ry q hs
 ·exact h' value slice pins s σ H x y v u Q I rx ry q hs
theorem oS {r:R2} (hr:Sx X r) (ha:PE X a ta) (hb:PE X b tb) (hs:fV b):PE X (.Subscript a b pos) (Rw r ta tb):=by
 intro pins s σ H Q I h
 exact Subscript_ (Bq ha hb I h λv u s2 x y H2 I2 rx ry q=>hr a b pins s2 σ H2 x y v u Q I2 rx ry q (hs _ _))
def Em (K:Ho):R2:=λx y H Q=>∃p xs i v,x=.ref p/\y=.int i/\Qz K H p xs/\QY xs i=some v/\Q v H
def En (K:Ho):R2:=λx y H Q=>∃p xs i v,x=.ref p/\y=.int i/\Qq K H p xs/\QY xs i=some v/\Q v H
def Eo:R2:=λx y H Q=>∃z i c,x=.str z/\y=.int i/\z.length<=Ii/\QY z.cps.toList i=some c/\Q (.str ⟨#[c]⟩) H
theorem wQ:Sx X (Em X.K):=by
 intro value slice pins s σ H x y v u Q I rx ry h hs
 obtain ⟨p,xs,i,z,rfl,rfl,hq,he,q⟩:=h
 cases rx
 obtain ⟨t,rfl⟩:=ry
 obtain ⟨its,r,pl,hz⟩:=I.list hq
 obtain ⟨j,h1,h2,h3,h4,h5⟩:=kq he
 obtain ⟨w,ew,Rj⟩:=r.get h2
 have hl:=r.length
 have hn:=fL
 have fin:EP X pins σ Q w s:=⟨z,H,I,Rj,q⟩
 by_cases h0:0<=i
 ·have hj:i.toNat=j:=by
   rw[OX h0 h5] at h1
   exact Ij h1
  exact item_listR pl.isList h0 (by omega) (by rw[hj];simpa using ew) fin hs
 ·have hj:(i+(its.toArray.size:Int)).toNat=j:=by
   rw[OH (by omega) h4] at h1
   rw[HD,<- hl]
   exact Ij h1
  exact MY (x:=w) pl.isList.typeIs slot_list_getitem.lookup
   (wpAny_getItem_list_neg (Q:=λr s'=>r=w/\EP X pins σ Q r s') pl.isList (by omega) (by rw[HD] <;> omega) (by omega) (by rw[hj];simpa using ew) ⟨rfl,fin⟩) hs
theorem By:Sx X (En X.K):=by
 intro value slice pins s σ H x y v u Q I rx ry h hs
 obtain ⟨p,xs,i,z,rfl,rfl,hq,he,q⟩:=h
 cases rx
 obtain ⟨t,rfl⟩:=ry
 obtain ⟨its,r,pl,hz⟩:=I.tuple hq
 obtain ⟨j,h1,h2,h3,h4,h5⟩:=kq he
 obtain ⟨w,ew,Rj⟩:=r.get h2
 have hl:=r.length
 have hn:=fL
 have fin:EP X pins σ Q w s:=⟨z,H,I,Rj,q⟩
 exact MY (x:=w) pl.typeIs slot_tuple_getitem.lookup
  (getItem_tuple (j:=j) (Q:=λr s'=>r=w/\EP X pins σ Q r s') pl (by omega) (by omega) (by rw[HD,<- hl];exact h1) (by simpa using ew) ⟨rfl,fin⟩) hs
theorem BA:Sx X Eo:=by
 intro value slice pins s σ H x y v u Q I rx ry h hs
 obtain ⟨z,i,c,rfl,rfl,hz,he,q⟩:=h
 obtain ⟨t,rfl⟩:=rx
 obtain ⟨t',rfl⟩:=ry
 obtain ⟨j,h1,h2,h3,h4,h5⟩:=kq he
 have hl:z.cps.toList.length=z.length:=by simp[Str.length]
 rw[hl] at h1 h4 h5
 have hn:=fL
 exact tail_any (typeIs_str s z t) slot_str_getitem.lookup (getItem_str (c:=c) (by
  have e1:decide (i < -(2 ^ 63:Int))=false:=decide_eq_false (by omega)
  have e2:decide (i >= 2 ^ 63)=false:=decide_eq_false (by omega)
  rw[e1,e2,Bool.or_false]) (by rw[h1];simpa using h2) ⟨.str ⟨#[c]⟩,H,I.tok _,⟨_,rfl⟩,q⟩) hs
def rIx (K:Ho):R2:=λx y H Q=>Em K x y H Q\/En K x y H Q\/Eo x y H Q
theorem BB:Sx X (rIx X.K):=wQ.or (By.or BA)
theorem nG (its:List Ht) (n j:Nat) (u:Ht):Jt (·.setIfInBounds j u) { cls:=.type "list",data:=.seq its.toArray n }={ cls:=.type "list",data:=.seq (its.set j u).toArray n }:=by
 simp[Jt]
theorem Inv.lst {pins:List (Addr×Obj)} {σ:St} {H:Hp} {s:Hv} {p:Addr} {xs:List V} (I:Inv X pins σ H s) (h:H p=some (.lst xs)) :
  ∃(its:List Ht) (n:Nat),Pm xs its/\s.heap.get? p=some { cls:=.type "list",data:=.seq its.toArray n }/\xs.length<=Ii:=by
 obtain ⟨z,its,n,r,e⟩:=I.hok p _ h
 exact ⟨its,n,r,e,z⟩
theorem Inv.lstUpd {pins:List (Addr×Obj)} {σ:St} {H:Hp} {s:Hv} {p:Addr} {xs ys:List V} {its its':List Ht} {n n':Nat} {f:Obj->Obj} (I:Inv X pins σ H s) (h:H p=some (.lst xs))
  (ho:s.heap.get? p=some { cls:=.type "list",data:=.seq its.toArray n }) (hf:f { cls:=.type "list",data:=.seq its.toArray n }={ cls:=.type "list",data:=.seq its'.toArray n' }) (r:Pm ys its') (hz:ys.length<=Ii) (t:Nat) :
  Inv X pins σ (upd H p (.lst ys)) { s with heap:=s.heap.update p f,toks:=t }:=by
 have e:(s.heap.update p f).get? p=some { cls:=.type "list",data:=.seq its'.toArray n' }:=by
  rw[M9 f ho (by rw[hf] <;> rfl),hf]
 refine I.write (x:=p) (e:=p) (by rw[h];trivial) (.inl rfl) (λb u hb q=>(JA _ _ (Ka hb)).trans q) ⟨_,e⟩ ?_
 exact ⟨hz,its',n',r,e⟩
def oT:V->V->V->Hp->(Hp->Prop)->Prop:=λo i v H Q=>∃p xs k j,o=.ref p/\i=.int k/\H p=some (.lst xs)/\Ru xs.length k=some j/\Q (upd H p (.lst (xs.set j v)))
theorem set_list:Bf X oT:=by
 intro pins s σ H o i v ov iv u Q I ro ri rv h
 obtain ⟨p,xs,k,j,rfl,rfl,hp,hj,q⟩:=h
 cases ro
 obtain ⟨t,rfl⟩:=ri
 obtain ⟨its,n,r,ho,hz⟩:=I.lst hp
 obtain ⟨h1,h2,h3,h4⟩:=oR hj
 have hl:=r.length
 have hn:=fL
 have I':Inv X pins σ (upd H p (.lst (xs.set j v))) { s with heap:=s.heap.update p (Jt (·.setIfInBounds j u)) }:=
  I.lstUpd hp ho (nG its n j u) (r.set rv j) (by rw[List.length_set];exact hz) s.toks
 by_cases h0:0<=k
 ·have hk:k.toNat=j:=by
   rw[OX h0 h4] at h1
   exact Ij h1
  exact PySem.W.ki_setAt ho h0 (by omega) (by rw[HD,<- hl];exact h4) (by rw[hk];exact ⟨_,I',q⟩)
 ·have hk:(k+(its.toArray.size:Int)).toNat=j:=by
   rw[OH (by omega) h3] at h1
   rw[HD,<- hl]
   exact Ij h1
  exact PySem.W.ki_setBack ho (by omega) (by rw[HD,<- hl];exact h3) (by omega) (by rw[hk];exact ⟨_,I',q⟩)
theorem ku:cS X (.builtin "len") (λxs H Q=>∃p ys,xs=[.ref p]/\(Qz X.K H p ys\/Qq X.K H p ys)/\Q (.int ys.length) H):=by
 intro pins s σ H xs us Q I r h
 obtain ⟨p,ys,rfl,hq,q⟩:=h
 obtain ⟨u,rfl,rx⟩:=vals1 r
 cases rx
 have hn:=fL
 rcases hq with hq | hq
 ·obtain ⟨its,r',pl,hz⟩:=I.list hq
  have hlen:=r'.length
  exact Calls.call_len_list pl.isList (by simp only[HD] <;> omega) ⟨.int ys.length,H,I.tok _,⟨s.toks+1,by rw[HD,hlen]⟩,q⟩
 ·obtain ⟨its,r',pl,hz⟩:=I.tuple hq
  have hlen:=r'.length
  exact len_tuple pl (by simp only[HD] <;> omega) ⟨.int ys.length,H,I.tok _,⟨s.toks+1,by rw[HD,hlen]⟩,q⟩
theorem kz:cS X (.type "list") (λxs H Q=>∃p ys,xs=[.ref p]/\(Qz X.K H p ys\/Qq X.K H p ys)/\∀l,H l=none->Q (.ref l) (upd H l (.lst ys))):=by
 intro pins s σ H xs us Q I r h
 obtain ⟨p,ys,rfl,hq,q⟩:=h
 obtain ⟨u,rfl,rx⟩:=vals1 r
 cases rx
 have fin:∀(its:List Ht),Pm ys its->ys.length<=Ii->∀(h':Heap) (c':Nat),(∀b o',s.heap.get? b=some o'->h'.get? b=some o') ->
   h'.get? s.heap.objs.size=some { cls:=.type "list",dict:=none,data:=.seq its.toArray c',slots:=#[] }->EP X pins σ Q (.ref s.heap.objs.size) { s with heap:=h' }:=λits r' hz h' c' kp e=>
  ⟨.ref s.heap.objs.size,_,I.laid (t':=s.toks) kp (HA _) (show bA X.prog X.w _ h' _ (.lst ys) from ⟨hz,its,c',r',e⟩),rfl,q _ (I.hok.fresh (HA _))⟩
 rcases hq with hq | hq
 ·obtain ⟨its,r',pl,hz⟩:=I.list hq
  have hlen:=r'.length
  obtain ⟨o,ho,hc,n,hd⟩:=pl.isList
  exact call_list_seq p (.inl rfl) ho hc hd (λh' c' kp e=>fin its r' hz h' c' kp e) (by simp only[HD] <;> omega)
 ·obtain ⟨its,r',pl,hz⟩:=I.tuple hq
  have hlen:=r'.length
  obtain ⟨o,ho,hc,n,hd⟩:=pl
  exact call_list_seq p (.inr rfl) ho hc hd (λh' c' kp e=>fin its r' hz h' c' kp e) (by simp only[HD] <;> omega)
theorem jx:cS X (.type "tuple") (λxs H Q=>∃p ys,xs=[.ref p]/\((Qz X.K H p ys/\∀l,H l=none->Q (.ref l) (upd H l (.tup ys)))\/(Qq X.K H p ys/\Q (.ref p) H))):=by
 intro pins s σ H xs us Q I r h
 obtain ⟨p,ys,rfl,h⟩:=h
 obtain ⟨u,rfl,rx⟩:=vals1 r
 cases rx
 rcases h with ⟨hq,q⟩ | ⟨hq,q⟩
 ·obtain ⟨its,r',pl,hz⟩:=I.list hq
  have hlen:=r'.length
  refine call_tuple_list pl.isList (λh' kp=>?_) (by simp only[HD] <;> omega)
  have I1:Inv X pins σ H { s with heap:=h' }:=I.kept (t':=s.toks) kp
  have I2:Inv X pins σ (upd H h'.objs.size (.tup ys)) { s with heap:=h'.push { cls:=.type "tuple",data:=.seq its.toArray } }:=
   I1.laid (t':=s.toks) (λb o e=>Hs _ e) (HA _) (show bA X.prog X.w _ _ _ (.tup ys) from ⟨hz,its,r',IsTup.new _ _⟩)
  exact ⟨.ref h'.objs.size,_,I2,rfl,q _ (I1.hok.fresh (HA _))⟩
 ·obtain ⟨its,r',pl,hz⟩:=I.tuple hq
  exact call_tuple_same pl ⟨.ref p,H,I,rfl,q⟩
def WZ (K:Ho) (T:String) (x:V) (H:Hp):Prop:=match x with
 | .str _=>T="str"
 | .int _=>T="int"
 | .ref p=>(T="list"/\∃xs,Qz K H p xs)\/(T="tuple"/\∃o,K.lookup p=some o/\o.cls=.type "tuple"/\o.dict=none) \/
   (T="dict"/\((∃kvs,H p=some (.dK kvs))\/∃kvs,H p=some (.dT kvs)))\/(T="set"/\∃S n,H p=some (.set S n))
 | _=>False
theorem sM {pins:List (Addr×Obj)} {σ:St} {H:Hp} {s:Hv} {T:String} {x:V} {v:Ht} (I:Inv X pins σ H s) (r:RelV x v) (ty:WZ X.K T x H) :
  s.TypeIs v T/\∀a,v=.ref a->∃ob,s.heap.get? a=some ob/\ob.dict=none:=by
 cases x with
 | str z=>
  obtain ⟨t,rfl⟩:=r
  cases (show T="str" from ty)
  exact ⟨typeIs_str s z t,λ_ e=>nomatch e⟩
 | int i=>
  obtain ⟨t,rfl⟩:=r
  cases (show T="int" from ty)
  exact ⟨O8 s i t,λ_ e=>nomatch e⟩
 | ref p=>
  cases r
  rcases ty with ⟨rfl,xs,hq⟩ | ⟨rfl,o,hk,hc,hd⟩ | ⟨rfl,hk⟩ | ⟨rfl,S,n,hk⟩
  ·obtain ⟨its,_,pl,_⟩:=I.list hq
   refine ⟨pl.isList.typeIs,λa e=>?_⟩
   cases e
   obtain ⟨o,n,e,c,hd,_⟩:=pl
   exact ⟨o,e,hd⟩
  ·refine ⟨⟨o,I.kIn p o hk,hc⟩,λa e=>?_⟩
   cases e
   exact ⟨o,I.kIn _ o hk,hd⟩
  ·have z:∃o,s.heap.get? p=some o/\o.ExactDict:=by
    rcases hk with ⟨kvs,hk⟩ | ⟨kvs,hk⟩
    ·obtain ⟨_,_,_,_,o,_,_,e,ex,_⟩:=I.hok p _ hk
     exact ⟨o,e,ex⟩
    ·obtain ⟨_,_,_,_,o,_,_,e,ex,_⟩:=I.hok p _ hk
     exact ⟨o,e,ex⟩
   obtain ⟨o,e,ex⟩:=z
   refine ⟨⟨o,e,ex.1⟩,λa e2=>?_⟩
   cases e2
   exact ⟨o,e,ex.2.1⟩
  ·obtain ⟨o,_,_,_,e,ex,_⟩:=I.hok p _ hk
   refine ⟨⟨o,e,ex.1⟩,λa e2=>?_⟩
   cases e2
   exact ⟨o,e,ex.2.1⟩
 | _=>exact KU ty
def Ep (K:Ho) (T:String) (r:V->List V->Hp->VK->Prop) (to:TE):TE:=fun σ H Q=>to σ H λx H1=>WZ K T x H1/\r x [] H1 Q
def VB (K:Ho) (T:String) (r:V->List V->Hp->VK->Prop) (to:TE) (t:TA):TE:=fun σ H Q=>to σ H λx H1=>WZ K T x H1/\t σ H1 λxs H2=>r x xs H2 Q
variable {o e:Expr} {es:List Expr} {to:TE} {t:TA} {name:Str} {PO PP:Pos} {T id:String} {r:V->List V->Hp->VK->Prop}
theorem BC (pa:PlainAttrs T) (slot:Slot T name id) (hty:typeOf (.builtin id)=pure (.type "method_descriptor")) (hm:MtR X id r) (ho:PE X o to)
  (hbase:JN o name X.env (eval o X.env)=eval o X.env:=by rfl) (hline:(PO.endLine==PP.line)=true:=by rfl):PE X (.Call (.Attribute o name PO) [] [] PP) (Ep X.K T r to):=by
 intro pins s σ H Q I h
 refine MN hbase hline (PF (ho pins s σ H _ I h) λv s1 Pk=>?_)
 obtain ⟨x,H1,I1,r1,ty,q1⟩:=Pk
 obtain ⟨h1,h2⟩:=sM I1 r1 ty
 exact ⟨T,id,pa,slot,hty,h1,h2,J7 rfl (NU (hm pins s1 σ H1 x [] v [] Q I1 r1 .nil q1))⟩
theorem zC (pa:PlainAttrs T) (slot:Slot T name id) (hty:typeOf (.builtin id)=pure (.type "method_descriptor")) (hm:MtR X id r) (ho:PE X o to) (ha:PA X (e::es) t)
  (hbase:JN o name X.env (eval o X.env)=eval o X.env:=by rfl)
  (hfew:((J9 PP (HN (e::es) X.env)).all (λx=>!x.1)&&(Nv PP (LA [] X.env)).all (λx=>x.1.isSome)
   && decide ((e::es).length+([]:List LB).length+(if ([]:List LB).isEmpty then 0 else 1)<30))=true:=by rfl)
  (hline:(PO.endLine==PP.line)=true:=by rfl) (hs:HN (e::es) X.env=(false,eval e X.env)::HN es X.env:=by rfl) (hplain:(J9 PP (HN es X.env)).any (·.1)=false:=by rfl) :
  PE X (.Call (.Attribute o name PO) (e::es) [] PP) (VB X.K T r to t):=by
 intro pins s σ H Q I h
 refine Lu hbase hfew hline rfl (PF (ho pins s σ H _ I h) λv s1 Pk=>?_)
 obtain ⟨x,H1,I1,r1,ty,q1⟩:=Pk
 obtain ⟨h1,h2⟩:=sM I1 r1 ty
 refine ⟨T,id,pa,slot,hty,h1,h2,?_⟩
 have hA:=ha PP pins s1 σ H1 _ I1 q1
 rw[hs] at hA ⊢
 refine J7 (by show (false||(J9 PP (HN es X.env)).any (·.1))=false;rw[hplain] <;> rfl) (K1 ?_)
 exact PF hA λus s2 PH=>by obtain ⟨vs,H2,I2,r2,q2⟩:=PH;exact hm pins s2 σ H2 x vs v us Q I2 r1 r2 q2
end
end L2
namespace L2
open PySem PySem.Spec PyProof.Rows
def W0 (X:Cx) (id:String) (r:V->List V->Hp->VK->Prop):Prop:=
 ∀(pins:List (Addr×Obj)) (s:Hv) (σ:St) (H:Hp) (x:V) (xs:List V) (v:Ht) (us:List Ht) (Q:VK),Inv X pins σ H s->RelV x v->Pm xs us->r x xs H Q ->
  IJ (IB X.prog X.w) X.A (call (.builtin id) (v::us)) (EP X pins σ Q) X.xe s
theorem Pm.one:∀{x:V} {us:List Ht},Pm [x] us->∃u,us=[u]/\RelV x u:=by
 intro x us h
 cases h with
 | cons r h=>cases h;exact ⟨_,rfl,r⟩
theorem Pm.two:∀{x y:V} {us:List Ht},Pm [x,y] us->∃u v,us=[u,v]/\RelV x u/\RelV y v:=by
 intro x y us h
 cases h with
 | cons r h=>
  cases h with
  | cons q h=>cases h;exact ⟨_,_,rfl,r,q⟩
theorem Pm.zero:∀{us:List Ht},Pm [] us->us=[]
 | _,.nil=>rfl
theorem Pm.dropLast {xs:List V} {us:List Ht} (h:Pm xs us):Pm xs.dropLast us.dropLast:=by
 induction h with
 | nil=>exact .nil
 | cons r t ih=>
  cases t with
  | nil=>exact .nil
  | cons q t'=>exact .cons r ih
theorem Pm.rep {xs:List V} {us:List Ht} (h:Pm xs us):∀k:Nat,Pm (HH k xs).flatten (HH k us).flatten
 | 0=>.nil
 | k+1=>by
  rw[Jk,Jk,JZ,JZ]
  exact Pm.append h (Pm.rep h k)
theorem nH {α:Type} (l:List α):l.eraseIdx (l.length-1)=l.dropLast:=by
 induction l with
 | nil=>rfl
 | cons a r ih=>
  cases r with
  | nil=>rfl
  | cons b r=>
   have e:(a::b::r).length-1=((b::r).length-1)+1:=by
    have h1:(a::b::r).length=r.length+2:=rfl
    have h2:(b::r).length=r.length+1:=rfl
    omega
   rw[e,MO,ih]
   all_goals rfl
theorem foldl_rep (its:List Ht):∀(k:Nat) (acc:List Ht),
  O9 (λx1 x2=>x1++x2) acc.toArray (HH k its.toArray)=(acc++(HH k its).flatten).toArray
 | 0,acc=>by simp
 | k+1,acc=>by
  have e:acc.toArray++its.toArray=(acc++its).toArray:=by simp
  have e2:(acc++its)++(HH k its).flatten=acc++(HH (k+1) its).flatten:=by
   rw[Jk,JZ,HU]
  rw[<- e2,<- foldl_rep its k (acc++its),<- e,Jk,Lk]
section
variable {X:Cx} {pins:List (Addr×Obj)} {σ:St} {H:Hp} {s:Hv} {l b:Addr} {xs ys zs:List V}
theorem Inv.lset {its its':List Ht} {n:Nat} {f:Array Ht->Array Ht} {t':Nat} (I:Inv X pins σ H s) (hH:H l=some (.lst xs))
  (e:s.heap.get? l=some { cls:=.type "list",data:=.seq its.toArray n }) (hf:f its.toArray=its'.toArray) (hv:Pm ys its') (hz:ys.length<=Ii) :
  Inv X pins σ (upd H l (.lst ys)) { s with heap:=s.heap.update l (Jt f),toks:=t' }:=by
 have q:=LU e f
 rw[hf] at q
 refine I.write (x:=l) (e:=l) (by rw[hH];exact trivial) (.inl rfl) (λb' u hb hu=>(JA s.heap (Jt f) (Ka hb)).trans hu) ⟨_,q⟩ ?_
 exact ⟨hz,its',_,hv,q⟩
theorem Inv.lnew {its:List Ht} {t':Nat} (I:Inv X pins σ H s) (hv:Pm ys its) (hz:ys.length<=Ii) :
  Inv X pins σ (upd H s.heap.objs.size (.lst ys)) { s with heap:=s.heap.push { cls:=.type "list",data:=.seq its.toArray },toks:=t' }:=
 I.laid (λ_ _ q=>Hs _ q) (HA _) ⟨hz,its,0,hv,HP _ rfl⟩
theorem Inv.fresh (I:Inv X pins σ H s):H s.heap.objs.size=none:=I.hok.fresh (HA _)
theorem Inv.lstM (I:Inv X pins σ H s) (hH:H l=some (.lst xs)):xs.length<=Ii/\∃(its:List Ht) (n:Nat),Pm xs its/\xs.length=its.length/\s.heap.get? l=some { cls:=.type "list",data:=.seq its.toArray n }:=by
 obtain ⟨z,its,n,r,e⟩:=I.hok l _ hH
 exact ⟨z,its,n,r,r.length,e⟩
theorem lW {n:Nat} (h:n<=Ii):Kr n=false:=by
 unfold Kr
 exact decide_eq_false (by omega)
end
section
variable {X:Cx}
def ig:V->List V->Hp->VK->Prop:=λx vs H Q=>∃l xs y,x=.ref l/\vs=[y]/\H l=some (.lst xs)/\xs.length<Ii/\Q .non (upd H l (.lst (xs++[y])))
theorem qA:W0 X "list.append" ig:=by
 intro pins s σ H x vs v us Q I rx rv h
 obtain ⟨l,xs,y,rfl,rfl,hH,hz,q⟩:=h
 cases rx
 obtain ⟨u,rfl,ru⟩:=rv.one
 obtain ⟨z,its,n,r,hl,e⟩:=I.lstM hH
 refine LC F.slot_list_append ⟨_,e,rfl⟩ F.entry_list_append (F.args_list_append_2 _ _) (LD l its.toArray n u (by rw[HD];omega)) ⟨e,?_⟩
 refine ⟨.non,_,I.lset (its':=its++[u]) hH e (by simp) (r.append (.cons ru .nil)) ?_,rfl,q⟩
 rw[HK,Kg]
 omega
def oU:V->List V->Hp->VK->Prop:=λx vs H Q=>∃l b xs zs,x=.ref l/\vs=[.ref b]/\H l=some (.lst xs)/\H b=some (.lst zs)/\xs.length+zs.length<=Ii/\Q .non (upd H l (.lst (xs++zs)))
theorem qB:W0 X "list.extend" oU:=by
 intro pins s σ H x vs v us Q I rx rv h
 obtain ⟨l,b,xs,zs,rfl,rfl,hH,hB,hz,q⟩:=h
 cases rx
 obtain ⟨u,rfl,ru⟩:=rv.one
 cases ru
 obtain ⟨z,its,n,r,hl,e⟩:=I.lstM hH
 obtain ⟨z2,Rn,n2,r2,U2,e2⟩:=I.lstM hB
 have hsz:its.toArray.size+Rn.toArray.size<=Ii:=by rw[HD,HD];omega
 have Sy:¬ (!its.toArray.isEmpty&&Kr (its.toArray.size+Rn.toArray.size))=true:=by
  rw[lW hsz,Bool.and_false]
  exact Hy
 refine LC F.slot_list_extend ⟨_,e,rfl⟩ F.entry_list_extend (F.args_list_extend_2 _ _)
  (AutoSeq1.list_extend_list_list_0 l its.toArray n b Rn.toArray n2 Sy (by rw[HD];omega) (by omega)) ⟨e,e2,?_⟩
 refine ⟨.non,_,I.lset (its':=its++Rn) hH e (by simp) (r.append r2) ?_,rfl,q⟩
 rw[HK]
 omega
def Er:V->List V->Hp->VK->Prop:=λx vs H Q=>∃l xs y,x=.ref l/\vs=[]/\H l=some (.lst xs)/\xs[xs.length-1]?=some y/\Q y (upd H l (.lst xs.dropLast))
theorem BD:W0 X "list.pop" Er:=by
 intro pins s σ H x vs v us Q I rx rv h
 obtain ⟨l,xs,y,rfl,rfl,hH,hy,q⟩:=h
 cases rx
 have hus:=rv.zero
 subst hus
 obtain ⟨z,its,n,r,hl,e⟩:=I.lstM hH
 obtain ⟨u,hu,ru⟩:=r.get hy
 have hy':its.toArray[its.toArray.size-1]?=some u:=by
  show its.toArray[its.length-1]?=some u
  rw[<- Jj,<- hl]
  exact hu
 refine LC F.slot_list_pop ⟨_,e,rfl⟩ F.entry_list_pop (F.args_list_pop_1 _) (MeetsSeq.list_pop_last l its.toArray n u hy' (by rw[HD];omega)) ⟨e,?_⟩
 refine ⟨y,_,I.lset (its':=its.dropLast) hH e ?_ r.dropLast ?_,ru,q⟩
 ·show its.toArray.eraseIdxIfInBounds (its.toArray.size-1)=its.dropLast.toArray
  rw[HD,List.eraseIdxIfInBounds_toArray,nH]
 ·rw[List.length_dropLast]
  omega
def BE:R2:=λx y H Q=>∃l b xs zs,x=.ref l/\y=.ref b/\H l=some (.lst xs)/\H b=some (.lst zs)/\xs.length+zs.length<=Ii/\∀p,H p=none->Q (.ref p) (upd H p (.lst (xs++zs)))
theorem sN:Qt X (Kw .Add) BE:=by
 intro pins s σ H x y v u Q I rx ry h
 obtain ⟨l,b,xs,zs,rfl,rfl,hH,hB,hz,q⟩:=h
 cases rx
 cases ry
 obtain ⟨z,its,n,r,hl,e⟩:=I.lstM hH
 obtain ⟨z2,Rn,n2,r2,U2,e2⟩:=I.lstM hB
 refine PySem.P.add_list e e2 ?_ (by rw[HD,HD];omega)
 have ea:its.toArray++Rn.toArray=(its++Rn).toArray:=by simp
 rw[ea]
 exact ⟨.ref _,_,I.lnew (t':=s.toks) (r.append r2) (by rw[HK];omega),rfl,q _ I.fresh⟩
def Es:R2:=λx y H Q=>∃l k xs,x=.ref l/\y=.int k/\H l=some (.lst xs)/\-(2 ^ 63)<=k/\k<2 ^ 63/\xs.length*k.toNat<=Ii /\
 ∀p,H p=none->Q (.ref p) (upd H p (.lst (HH k.toNat xs).flatten))
theorem len_rep {α:Type} (xs:List α) (k:Nat):(HH k xs).flatten.length=k*xs.length:=by
 induction k with
 | zero=>simp
 | succ k ih=>rw[Jk,JZ,HK,ih,KL,Nat.add_comm]
theorem BF:Qt X (Kw .Mult) Es:=by
 intro pins s σ H x y v u Q I rx ry h
 obtain ⟨l,k,xs,rfl,rfl,hH,h1,h2,hz,q⟩:=h
 cases rx
 obtain ⟨t,rfl⟩:=ry
 obtain ⟨z,its,n,r,hl,e⟩:=I.lstM hH
 have hlen:its.toArray.size*k.toNat<=Ii:=by rw[HD,<- hl];exact hz
 have hcap:¬ its.toArray.size*k.toNat>(2 ^ 63-1) / 8:=by
  have:(Ii:Nat)<=(2 ^ 63-1) / 8:=by decide
  omega
 have hfit:¬ (!Builtin.List.listFitsIndex k)=true:=by
  rw[fitsIndex_both h1 h2]
  exact Hy
 have Sy:¬ Kr (its.toArray.size*k.toNat)=true:=by
  rw[lW hlen]
  exact Hy
 have hnew:O9 (λx1 x2=>x1++x2) #[] (HH (if its.toArray.isEmpty=true then 0 else k.toNat) its.toArray)=(HH k.toNat its).flatten.toArray:=by
  have f0:∀m:Nat,O9 (λx1 x2=>x1++x2) #[] (HH m its.toArray)=(HH m its).flatten.toArray:=λm=>by
   have:=foldl_rep its m []
   rw[IA] at this
   exact this
  rw[f0]
  cases its with
  | nil=>simp
  | cons a r'=>rw[if_neg (by simp)]
 refine wpAny_binaryOp_repeat_ref (T:="list") (U:="int") (by decide) ⟨_,e,rfl⟩ (λs'=>O8 s' k t) noFill_list_mul F.fills_int_mul F.slot_int_rmul repeat_list F.slot_int_index.lookup
  (LC F.slot_int_rmul (O8 s k t) F.entry_int_rmul (F.args_int_rmul_2 _ _) (int___rmul___int_list k t l its.toArray n)
   ⟨e,rfl,⟨_,e,rfl⟩,LC F.slot_list_mul ⟨_,e,rfl⟩ F.entry_list_mul (F.args_list_mul_2 _ _) (AutoListH.list___mul___list_int_3 l its.toArray n k t hfit hcap Sy) ⟨e,?_⟩⟩)
 rw[hnew]
 exact ⟨.ref _,_,I.lnew (t':=s.toks) (r.rep k.toNat) (by rw[len_rep,OI];exact hz),rfl,q _ I.fresh⟩
end
end L2
namespace Att
open PySem PySem.W PySem.Calls PyProof.Rows
theorem hW {P:Params} {h:Heap}:∀(ns:List Int) (vs:List Ht),WellAll P h vs (ns.map WData.int)->Oq vs ns:=by
 intro ns
 induction ns with
 | nil=>
  intro vs w
  rw[Iz] at w
  cases w
  exact .nil
 | cons n ns ih=>
  intro vs w
  rw[HJ] at w
  cases w with
  | cons a b=>
   cases a
   exact .cons _ _ (ih _ b)
theorem qC {l:OpenLaw} {n:Nat} (hn:l.most=some n) {P:Params} {h:Heap} {args:List WData} {vals:List Ht}
  (hpre:l.row.toRowW.claim.pre args=true) (W1:WellAll P h vals args) :
  ∃a vs ns,vals=[IG a]/\args=[WData.list (ns.map WData.int)]/\h.get? a=some { cls:=.type "list",data:=.seq vs.toArray }/\Oq vs ns/\ns.length<=n:=by
 have hsh:WShape.hasAll [] args [.list .int]=true:=(pre_splitW hpre).1
 have hc:l.pre.holds [] { args:=args }=true:=(pre_splitW hpre).2
 obtain ⟨d,r,rfl,h1,h2⟩:=hasAllW_cons hsh
 obtain rfl:=hasAllW_nil h2
 obtain ⟨xs,rfl,h3⟩:=hasW_list h1
 obtain ⟨ns,rfl⟩:=items_int h3
 have hlen:ns.length<=n:=by
  unfold OpenLaw.pre at hc
  have h4:(WTm.not (.lt (.lit (.int (n:Int))) (.len (.arg 0)))).holds [] { args:=[.list (ns.map .int)] }=true:=by
   have h4:=(holds_andW hc).1
   rw[hn] at h4
   exact h4
  have h5:=condW_of h4 (w_not (w_lt w_lit (w_len_list (w_arg rfl))))
  rw[Hz] at h5
  refine Nat.le_of_not_lt λq=>?_
  have q':(n:Int)<((ns.length:Nat):Int):=by omega
  first
   | (rw[decide_eq_true q'] at h5;exact absurd h5 (by decide))
   | (simp at h5;omega)
 cases W1 with
 | cons w1 w2=>
  cases w2
  cases w1 with
  | list ho hall=>exact ⟨_,_,ns,rfl,rfl,ho,hW ns _ hall,hlen⟩
theorem qD (l:OpenLaw) (args:List WData):l.row.toRowW.claim.post args (.bool true) args=true:=
 postW_of (r:=l.row.toRowW) (X:=(true==true))
  (show WShape.has [] (.bool true) .bool=true by first | rfl | decide | simp[WShape.has,WShape.arms,WShape.armsAll])
  (show (WTm.eq .res (.lit (.bool true))).value [] { args:=args,res:=some (.bool true),after:=args }=some (.bool (true==true)) from w_eq_bool (w_res rfl) w_lit) rfl
theorem lX {l:OpenLaw} {n:Nat} {q:Ip} {loose:List Str} {XP:(Str->Option Ht)->Heap->Prop} {YP:Ji->Heap->Prop} {d:DefRec}
  (hn:l.most=some n) (VC:d.params.defaults=[])
  (call:∀(w:Ji) (s₀ s₁:Hv) (mg mb:Str->Option Ht) (fa:Addr) (o:Obj) (pm cd doc:Ht) (a:Addr) (vs:List Ht) (ns:List Int),
   Ground q loose [] XP w s₀ mg mb s₁.heap->YP w s₁.heap ->
   s₁.heap.get? fa=some o->o.data=.func (docDef d.name d.params d.body d.scope pm cd doc)->s₁.heap.CodeRec cd d.name->mg d.name=some (.ref fa) ->
   s₁.heap.get? a=some { cls:=.type "list",data:=.seq vs.toArray }->Oq vs ns->ns.length<=n->s₁.gens=#[] ->
   KG (IB l.prog w) Os (.call (.ref fa) ⟨[.ref a],[]⟩) (λr s'=>r=.ok (.ret (.bool true))/\OldK s₁.heap s'.heap/\s'.os=s₁.os/\L3 s'.gens) s₁) :
  WalkO q loose XP YP l.row.toRowW d [] (λf vs=>Pd f vs):=by
 intro w s₀ s₁ mg mb G Y fa o pm cd doc dV kV ho hd hcd hD hmg hg args vals as hpre hlay hrd W1 hlo
 obtain rfl:dV=.none:=Dflts.none hD VC
 obtain rfl:kV=.none:=Dflts.noKw hD
 obtain ⟨a,vs,ns,rfl,rfl,hobj,hints,hlen⟩:=qC hn hpre W1
 refine enter_call (Mi (call w s₀ s₁ mg mb fa o pm cd doc a vs ns G Y ho (fd_plain hd) hcd hmg hobj hints hlen hg) λr s' hq=>?_)
 obtain ⟨rfl,h2,h3,h4⟩:=hq
 exact ⟨.inl ⟨.bool true,.bool true,[],rfl,λ_=>rfl,.bool true,qD l _,λ_=>⟨Ot,λ_ hm=>(nomatch hm)⟩⟩,h2,h3,h4⟩
end Att
namespace L2
open PySem PySem.Spec PyProof.Rows
theorem jI:∀{vs:List Ht} {ns:List Int},Oq vs ns->Pm (ns.map V.int) vs
 | _,_,.nil=>.nil
 | _,_,.cons n t h=>.cons ⟨t,rfl⟩ (jI h)
def Ui (H:Hp):Prop:=∀b,H b=none\/∃o xs,H b=some (.frz o (.lst xs))
theorem sO {P:Ip} {w:Ji} {K:Ho} {mg mb:Str->Option Ht} {CX:Sw} {k:Nat} {fa a:Addr} {fd:Kx} {x:Str} {sp:Sp} {s₁:Hv} {vs:List Ht} {ns:List Int}
  (KX:K.In s₁.heap) (hns:s₁.heap.Ns HW mg) (hb:s₁.heap.Ns O6 mb) (hbb:∀x:Str,x≠"__name__"->mb x=IZ x) (hlim:s₁.heap.NoLimit) (hg:s₁.gens=#[])
  (ha:s₁.heap.get? a=some { cls:=.type "list",data:=.seq vs.toArray }) (hi:Oq vs ns) (hl:ns.length<=Ii) (hr:cy k Os)
  (F:∀base:Heap,K.In base->base.Ns HW mg->g9 P w K mg base CX k fa fd [x] sp) (hbind:∀(s:Hv) (u:Ht),On s fd ⟨[u],[]⟩ [(x,u)])
  (TR:∀H:Hp,Ui H->Qz K H a (ns.map V.int)->sp [.ref a] H (λv _=>v=.bl true) λ_ _ _=>False)
  (W2:∀H e s',CX [] H s₁ (λ_ _ _=>False) e s'->False) :
  KG (IB P w) Os (.call (.ref fa) ⟨[.ref a],[]⟩) (λr s'=>r=.ok (.ret (.bool true))/\OldK s₁.heap s'.heap/\s'.os=s₁.os/\L3 s'.gens) s₁:=by
 have rv:=jI hi
 have lenV:=hi.length
 -- from an abstract heap in which nothing but QG script may be tracked
 have core:∀H:Hp,Ui H->Qz K H a (ns.map V.int)->QP P w H s₁.heap->(∀b,H b≠none->b=a)->(H a≠none->K.lookup a=none) ->
   KG (IB P w) Os (.call (.ref fa) ⟨[.ref a],[]⟩) (λr s'=>r=.ok (.ret (.bool true))/\OldK s₁.heap s'.heap/\s'.os=s₁.os/\L3 s'.gens) s₁:=by
  intro H hO hS hok hA hK
  have base_of:∀{b:Addr} {o:Obj},s₁.heap.get? b=some o->H b=none->(ko s₁.heap H).get? b=some o:=λe n=>rR e n
  have Vz:∀{b:Addr} {o:Obj} {es:Array KM} {ep:Nat},s₁.heap.get? b=some o->o.data=.dict es ep->H b=none:=λ{b o es ep} e d=>by
   cases q:H b with
   | none=>rfl
   | some u=>
    have e':b=a:=hA b (by rw[q];simp)
    subst e'
    rw[ha] at e;cases e
    have d':Nw vs.toArray _=Data.dict es ep:=d
    cases d'
  have Wm:∀{b:Addr} {m:Str->Option Ht},s₁.heap.Ns b m->(ko s₁.heap H).Ns b m:=λ{b m} PH=>by obtain ⟨o,es,ep,e,d,r⟩:=PH;exact ⟨o,es,ep,base_of e (Vz e d),d,r⟩
  have hKb:K.In (ko s₁.heap H):=λb o e=>base_of (KX b o e) (by
   cases q:H b with
   | none=>rfl
   | some u=>
    have e':b=a:=hA b (by rw[q];simp)
    subst e'
    rw[hK (by rw[q];simp)] at e;cases e)
  have hM:Mod K mg (ko s₁.heap H):=⟨hKb,Wm hns,⟨mb,Wm hb,hbb⟩,let ⟨mc,h1,h2⟩:=hlim;⟨mc,Wm h1,h2⟩⟩
  have e0:Tc P w K mg (ko s₁.heap H) Os [] s₁ H:=⟨rfl,hM,λb o e=>wC e,LP (qr _ _),trivial,λb hb=>absurd (show b∈([]:List Addr) from hb) (by simp),hok,.of_eq hg⟩
  refine Mi ((F _ hKb (Wm hns)).run Os [] s₁ H ⟨[.ref a],[]⟩ [.ref a] [.ref a] _ _ hr e0 (hbind s₁ (.ref a)) (.cons rfl .nil) (TR H hO hS)) λr s' h=>?_
  cases r with
  | error e=>exact (W2 H e s' h).elim
  | ok fl=>
   cases fl with
   | next=>exact KU h
   | brk=>exact KU h
   | cont=>exact KU h
   | ret u=>
    obtain ⟨v,H',os,bare,un,hok',r',q⟩:=h
    have q':v=.bl true:=q
    subst q'
    obtain rfl:u=Oi true:=r'
    refine ⟨rfl,OldK.of_keep λb o e=>?_,os,bare⟩
    cases q:H b with
    | none=>exact un.keep b o e q (by intro z;exact absurd (show b∈([]:List Addr) from z) (by simp)) (by simp)
    | some u=>
     rcases hO b with z | ⟨ob,xs,z⟩
     ·rw[q] at z;cases z
     ·have z2:=un.frzs b ob _ z
      obtain ⟨e1,_⟩:=hok b _ z
      obtain ⟨e2,_⟩:=hok' b _ z2
      rw[e] at e1;cases e1
      exact e2
 cases hk:K.lookup a with
 | some o=>
  -- QG script is one of QG module's own objects
  have e:=KX a o hk
  rw[ha] at e
  cases e
  refine core (λ_=>none) (λ_=>.inl rfl) (.inr ⟨_,vs.toArray,_,hk,rfl,rfl,rfl,by rw[HD,lenV];exact hl,by simpa using rv⟩) (λb u z=>by have z':(none:Option HO)=some u:=z;cases z') (λb z=>absurd rfl z) λz=>absurd rfl z
 | none=>
  refine core (λb=>if b=a then some (.frz { cls:=.type "list",data:=.seq vs.toArray } (.lst (ns.map V.int))) else none) (λb=>?_) (.inl (.inr ⟨{ cls:=.type "list",data:=.seq vs.toArray },if_pos rfl⟩)) (λb u z=>?_) (λb z=>?_) λ_=>hk
  ·by_cases hb:b=a
   ·exact .inr ⟨_,_,if_pos hb⟩
   ·exact .inl (if_neg hb)
  ·by_cases hb:b=a
   ·have z':=(if_pos hb).symm.trans z
    cases z'
    subst hb
    exact ⟨ha,by rw[Hz];exact hl,vs,_,rv,ha⟩
   ·have z':=(if_neg hb).symm.trans z
    cases z'
  ·by_cases hb:b=a
   ·exact hb
   ·exact absurd (if_neg hb) z
end L2
namespace L2
open PySem PySem.Spec PyProof.Rows
theorem wR {l:Na} {n k:Nat} {q:Ip} {loose:List Str} {XP:(Str->Option Ht)->Heap->Prop} {YP:Ji->Heap->Prop} {d:DefRec} {K:Params->Ho} {CX:Ji->Sw} {sp:Ji->Sp} {x:Str}
  (hn:l.most=some n) (hn2:n<=Ii) (VC:d.params.defaults=[]) (hr:cy k Os)
  (hY:∀(w:Ji) (h:Heap),YP w h->(K w.params).In h)
  (F:∀(w:Ji) (mg:Str->Option Ht) (fa:Addr) (h:Heap),(K w.params).In h->h.Ns HW mg->mg d.name=some (.ref fa) ->
   ∃fd:Kx,(∀(s:Hv) (u:Ht),On s fd ⟨[u],[]⟩ [(x,u)]) /\
    ∀base:Heap,(K w.params).In base->base.Ns HW mg->g9 l.prog w (K w.params) mg base (CX w) k fa fd [x] (sp w))
  (TR:∀(w:Ji) (H:Hp) (a:Addr) (ns:List Int),ns.length<=n->Ui H->Qz (K w.params) H a (ns.map V.int)->sp w [.ref a] H (λv _=>v=.bl true) λ_ _ _=>False)
  (W2:∀(w:Ji) (H:Hp) (s:Hv) (e:Ht) (s':Hv),CX w [] H s (λ_ _ _=>False) e s'->False) :
  PySem.W.WalkO q loose XP YP l.row.toRowW d [] (λf vs=>Pd f vs):=by
 refine Att.lX hn VC λw s₀ s₁ mg mb fa o pm cd doc a vs ns G Y ho hd hcd hmg hobj hints hlen hg=>?_
 have KX:=hY w _ Y
 obtain ⟨fd,hb,hF⟩:=F w mg fa _ KX G.T.g hmg
 exact sO KX G.T.g G.T.b G.T.builtins G.T.nolimit hg hobj hints (Jf hlen hn2) hr hF hb (λH hO hS=>TR w H a ns hlen hO hS) λH e s'=>W2 w H s₁ e s'
end L2
namespace L2
open PySem PySem.Spec PyProof.Rows
def cO (s:Stmt):Arguments:=match s with
 | .FunctionDef _ a _ _ _ _ _ _ _ _=>a
 | _=>{ posonlyargs:=[],args:=[],vararg:=none,kwonlyargs:=[],kw_defaults:=[],kwarg:=none,defaults:=[] }
def bJ (s:Stmt):List Stmt:=match s with
 | .FunctionDef _ _ b _ _ _ _ _ _ _=>b
 | _=>[]
def aj (s:Stmt):JX:=match s with
 | .FunctionDef _ _ _ _ _ _ sc _ _ _=>sc
 | _=>{ kind:=.function,names:=[],isGenerator:=false,isCoroutine:=false }
abbrev Sz:Sw:=λ_ _ _ _ _ _=>False
abbrev E0:XK:=λ_ _ _=>False
theorem Et {X:Cx}:nF Sz X E0:=λ_ _ _ _ _ _ _ h=>h.elim
structure U3 (K:Ho) (x qual:Str) (st:Stmt) (f:Addr) (fd:Kx):Prop where
 ex:∃(oc:Ht) (od:Option Addr) (kV doc pm:Ht) (an:Option Addr) (PC ct:Ht) (Rx:Array (Option Ht)),
  fd=JP x qual (cO st) (bJ st) (aj st) .none kV doc pm an PC ct/\K.lookup f=some ⟨oc,od,.func fd,Rx⟩/\Ml K PC qual=true
 kp:KE K (.ref f)=true
section
variable {P:Ip} {w:Ji} {K:Ho} {mg:Str->Option Ht} {base:Heap}
theorem U3.ok {x qual:Str} {st:Stmt} {f:Addr} {fd:Kx} {N ps:List Str} {k:Nat} {sp:Sp} (F:U3 K x qual st f fd) (S:aD N ps (aj st)) (len:∀vs H Q E,sp vs H Q E->vs.length=ps.length)
  (hbody:∀(PC:Ht) (A:Js) (outer:List Env) (s:Hv) (H:Hp) (vs:List V) (Q:VK) (E:XK),cy k (A.deeper (envOfC qual (aj st) s.heap.objs.size f PC))->sp vs H Q E ->
   ∃t,Rt (hV Sz P w K mg base N qual (aj st) f PC A outer s H E).nox (bJ st) t/\t { nx:=λ_ H'=>Q .non H',rt:=Q } (start N vs) H):g9 P w K mg base Sz (k+1) f fd ps sp:=by
 obtain ⟨oc,od,kV,doc,pm,an,PC,ct,Rx,rfl,lk,hcd⟩:=F.ex
 refine zA lk hcd S len λA outer s H vs Q E hr TR=>?_
 obtain ⟨t,h,q⟩:=hbody PC A outer s H vs Q E hr TR
 exact ⟨t,h.nox,q⟩
theorem U3.binds {x qual:Str} {st:Stmt} {f:Addr} {fd:Kx} {ps:List Str} (F:U3 K x qual st f fd)
  (h:∀(kV doc pm:Ht) (an:Option Addr) (PC ct:Ht) (us:List Ht),us.length=ps.length->Nu (JP x qual (cO st) (bJ st) (aj st) .none kV doc pm an PC ct) ⟨us,[]⟩=pure (ps.zip us)):Binds K fd ps []:=by
 obtain ⟨oc,od,kV,doc,pm,an,PC,ct,Rx,rfl,lk,hcd⟩:=F.ex
 exact .all (h kV doc pm an PC ct)
theorem BG {x qual:Str} {st:Stmt} {f:Addr} {oc:Ht} {od an:Option Addr} {Rx:Array (Option Ht)} {kV doc pm PC ct:Ht} (l:K.lookup f=some ⟨oc,od,.func (JP x qual (cO st) (bJ st) (aj st) .none kV doc pm an PC ct),Rx⟩)
  (c:Ml K PC qual=true) (k:KE K (.ref f)=true):U3 K x qual st f (JP x qual (cO st) (bJ st) (aj st) .none kV doc pm an PC ct):=⟨⟨oc,od,kV,doc,pm,an,PC,ct,Rx,rfl,l,c⟩,k⟩
end
section
variable {X:Cx}
theorem pv (i:Nat) {x:Str} {pos:Pos} (hN:X.N[i]?=some x:=by rfl) (hv:UZ X.env.scope x:=by first | exact HC rfl | exact Jm (HC rfl) | exact Jm (Jm rfl)) (hd:(x==("__debug__":Str))=false:=by decide)
  (hcd:(x==("__classdict__":Str))=false:=by decide):PE X (.Name x pos) (cF i):=nq hN hv hd hcd
end
end L2
section
namespace L2
open PySem PySem.Spec PyProof.Rows
theorem sP:IZ "int"=some (.type "int"):=by decide +kernel
theorem oV:IZ "bool"=some (.type "bool"):=by decide +kernel
theorem wU:IZ "list"=some (.type "list"):=by decide +kernel
theorem iI:IZ "tuple"=some (.type "tuple"):=by decide +kernel
theorem fM:IZ "len"=some (.builtin "len"):=by decide +kernel
theorem bG:IZ "isinstance"=some (.builtin "isinstance"):=by decide +kernel
def PK (P:Ip) (w:Ji) (K:Ho) (mg:Str->Option Ht) (base:Heap) (k:Nat) (x:Str) (ps:List Str) (sp:Sp):Prop:=
 ∃(f:Addr) (fd:Kx),g9 P w K mg base Sz k f fd ps sp/\mg x=some (.ref f)/\KE K (.ref f)=true/\Binds K fd ps []/\∃(oc:Ht) (od:Option Addr) (Rx:Array (Option Ht)),K.lookup f=some ⟨oc,od,.func fd,Rx⟩
theorem oW {X:Cx} {j k:Nat} {x:Str} {ps:List Str} {sp:Sp} {e:Expr} {es:List Expr} {t:TA} {p pos:Pos} (E:PK X.prog X.w X.K X.mg X.base k x ps sp) (hr:cy j X.A) (ha:PA X (e::es) t)
  (hk:k<=j:=by decide) (hg:Gl X x:=by rfl) (Rm:(x==("__debug__":Str))=false:=by decide) (he:HN (e::es) X.env=(false,eval e X.env)::HN es X.env:=by rfl)
  (hpl:(J9 pos (HN es X.env)).any (·.1)=false:=by rfl):PE X (.Call (.Name x p) (e::es) [] pos) (iH sp [] E0 t):=by
 obtain ⟨f,fd,F,hm,kp,hb,_⟩:=E
 exact oQ F (hr.mono hk) hg hm kp hb .nil Et ha Rm he hpl
def Src (K:Ho) (mg:Str->Option Ht) (x:Str) (st:Stmt):Prop:=∃(f:Addr) (fd:Kx),U3 K x x st f fd/\mg x=some (.ref f)
theorem Src.has {P:Ip} {w:Ji} {K:Ho} {mg:Str->Option Ht} {base:Heap} {x:Str} {st:Stmt} {N ps:List Str} {k:Nat} {sp:Sp} (S:Src K mg x st) (sc:aD N ps (aj st))
  (hb:∀(kV doc pm:Ht) (an:Option Addr) (PC ct:Ht) (us:List Ht),us.length=ps.length->Nu (JP x x (cO st) (bJ st) (aj st) .none kV doc pm an PC ct) ⟨us,[]⟩=pure (ps.zip us))
  (len:∀vs H Q E,sp vs H Q E->vs.length=ps.length)
  (hbody:∀(f:Addr) (PC:Ht) (A:Js) (outer:List Env) (s:Hv) (H:Hp) (vs:List V) (Q:VK) (E:XK),cy k (A.deeper (envOfC x (aj st) s.heap.objs.size f PC))->sp vs H Q E ->
   ∃t,Rt (hV Sz P w K mg base N x (aj st) f PC A outer s H E).nox (bJ st) t/\t { nx:=λ_ H'=>Q .non H',rt:=Q } (start N vs) H):PK P w K mg base (k+1) x ps sp:=by
 obtain ⟨f,fd,F,hm⟩:=S
 exact ⟨f,fd,F.ok sc len λPC A outer s H vs Q E hr h=>hbody f PC A outer s H vs Q E hr h,hm,F.kp,F.binds hb,by obtain ⟨oc,od,kV,doc,pm,an,PC,ct,Rx,_,lk,_⟩:=F.ex;exact ⟨oc,od,Rx,lk⟩⟩
theorem aM {K:Ho} {h:Heap} {mg:Str->Option Ht} {x:Str} {st:Stmt} {f:Addr} {oc:Ht} {od an:Option Addr} {Rx:Array (Option Ht)} {kV doc pm PC ct:Ht} (X:K.In h) (G:h.Ns HW mg)
  (a:Ib K HW x=some (some (.ref f))) (l:K.lookup f=some ⟨oc,od,.func (JP x x (cO st) (bJ st) (aj st) .none kV doc pm an PC ct),Rx⟩)
  (c:Ml K PC x=true) (k:KE K (.ref f)=true):Src K mg x st:=⟨f,_,BG l c k,IS X G a⟩
theorem wV {P:Ip} {w:Ji} {K:Ho} {mg:Str->Option Ht} {k:Nat} {st:Stmt} {fa:Addr} {x:Str} {sp:Sp} (S:Src K mg "law" st) (W3:mg "law"=some (.ref fa))
  (hb:∀(kV doc pm:Ht) (an:Option Addr) (PC ct:Ht) (v:Ht),Nu (JP "law" "law" (cO st) (bJ st) (aj st) .none kV doc pm an PC ct) ⟨[v],[]⟩=pure [(x,v)])
  (all:∀base:Heap,PK P w K mg base k "law" [x] sp) :
  ∃fd:Kx,(∀(s:Hv) (v:Ht),On s fd ⟨[v],[]⟩ [(x,v)])/\∀base:Heap,K.In base->base.Ns HW mg->g9 P w K mg base Sz k fa fd [x] sp:=by
 obtain ⟨f,fd,F,hm⟩:=S
 have e:=W3.symm.trans hm
 cases e
 obtain ⟨oc,od,kV,doc,pm,an,PC,ct,Rx,rfl,lk,_⟩:=F.ex
 refine ⟨_,λs v=>.of_eq (hb kV doc pm an PC ct v),λbase _ _=>?_⟩
 obtain ⟨f',fd',G',hm',_,_,oc',od',osl',lk'⟩:=all base
 have e:=hm.symm.trans hm'
 cases e
 rw[lk] at lk'
 injection lk' with e1
 injection e1 with _ _ e2 _
 injection e2 with e3
 rw[e3]
 exact G'
def tH (ms:List Int):Int:=reduceHash (Builtin.Tuple.tupleHashOf (ms.map Pe))
def sQ (x:List Int×Addr×Ht):KM:=⟨tH x.1,.ref x.2.1,x.2.2⟩
abbrev EV:List (List Int×Addr×V)->List (List Int×Addr×Ht)->Prop:=O5 λp q=>p.1=q.1/\p.2.1=q.2.1/\RelV p.2.2 q.2.2
def Qe (a:Addr) (es:List (List Int×Addr×V)) (h:Heap):Prop:=
 es.length<=Ii/\(a==KD)=false/\(es.map (·.1)).Nodup/\∃xs,EV es xs/\∃o ds ep,h.get? a=some o/\o.ExactDict/\o.data=.dict ds ep/\ds.toList=xs.map sQ
def bM (a:Addr) (ob:Obj) (es:List (List Int×Addr×V)):HO:=.ext λh=>Qe a es h/\h.get? a=some ob
theorem Qe.ok {P:Ip} {w:Ji} {H:Hp} {h:Heap} {a:Addr} {ob:Obj} {es:List (List Int×Addr×V)} (d:Qe a es h) (q:h.get? a=some ob):bA P w H h a (bM a ob es):=
 ⟨⟨d,q⟩,⟨ob,q⟩,λ_ _ PH k=>by obtain ⟨⟨z,m,nd,xs,ev,o,ds,ep,e,r⟩,q⟩:=PH;exact ⟨⟨z,m,nd,xs,ev,o,ds,ep,k o e,r⟩,k ob q⟩⟩
theorem eG {X:Cx} {pins:List (Addr×Obj)} {σ:St} {H:Hp} {s:Hv} {a:Addr} {ob:Obj} {es:List (List Int×Addr×V)} (I:Inv X pins σ H s) (e:H a=some (bM a ob es)):Qe a es s.heap/\s.heap.get? a=some ob:=
 (show bA X.prog X.w H s.heap a (.ext λh=>Qe a es h/\h.get? a=some ob) from I.hok a _ e).1
theorem fW {X:Cx} {pins:List (Addr×Obj)} {σ:St} {H:Hp} {s:Hv} {a:Addr} {ob:Obj} {es:List (List Int×Addr×V)} (I:Inv X pins σ H s) (e:H a=some (bM a ob es)):Qe a es s.heap:=(eG I e).1
inductive SL (K:Ho) (H:Hp):V->String->Prop where
 | non:SL K H .non "NoneType"
 | bl (x:Bool):SL K H (.bl x) "bool"
 | int (i:Int):SL K H (.int i) "int"
 | str (x:Str):SL K H (.str x) "str"
 | lst {a:Addr} {xs:List V} (e:Qz K H a xs):SL K H (.ref a) "list"
 | tup {a:Addr} {xs:List V} (e:Qq K H a xs):SL K H (.ref a) "tuple"
 | dK {a:Addr} {kvs:List (Key×V)} (e:H a=some (.dK kvs)):SL K H (.ref a) "dict"
 | dT {a:Addr} {kvs:List (List Key×V)} (e:H a=some (.dT kvs)):SL K H (.ref a) "dict"
 | dE {a:Addr} {ob:Obj} {es:List (List Int×Addr×V)} (e:H a=some (bM a ob es)):SL K H (.ref a) "dict"
def qE (t c:String):Option Bool:=IN [] (.type t) (.type c)
theorem sR {K:Ho} {t c:String}:IN K (.type t) (.type c)=qE t c:=rfl
theorem kA:qE "int" "int"=some true:=by decide +kernel
theorem jy:qE "int" "bool"=some false:=by decide +kernel
def BH (K:Ho):List V->Hp->VK->Prop:=λxs H Q=>∃x t c b,xs=[x,.ty c]/\SL K H x t/\qE t c=some b/\Q (.bl b) H
theorem sS {X:Cx}:cS X (.builtin "isinstance") (BH X.K):=by
 intro pins s σ H xs us Q I r h
 obtain ⟨x,t,c,b,rfl,ty,e,q⟩:=h
 obtain ⟨u,w',rfl,rx,rc⟩:=vals2 r
 obtain rfl:w'=Oj c:=rc
 have e':IN X.K (.type t) (.type c)=some b:=by rw[sR];exact e
 have fin:∀tk,EP X pins σ Q (.bool b) { s with toks:=tk }:=λtk=>⟨.bl b,H,I.tok tk,rfl,q⟩
 cases ty with
 | non=>exact di I rx (.non) e' fin
 | bl y=>exact di I rx (.bl y) e' fin
 | int i=>exact di I rx (.int i) e' fin
 | str y=>exact di I rx (.str y) e' fin
 | dK ea=>exact di I rx (.dK ea) e' fin
 | dT ea=>exact di I rx (.dT ea) e' fin
 | @dE a ob es ea=>
  cases rx
  obtain ⟨_,_,_,_,_,o,_,_,h1,h2,_⟩:=fW I ea
  exact Je Mz I.kIn ⟨o,h1,h2.1⟩ e' (λz=>nomatch z) fin
 | lst ea=>
  cases rx
  obtain ⟨its,_,pl,_⟩:=I.list ea
  obtain ⟨o,h1,h2,_⟩:=pl.isList
  exact Je Mx I.kIn ⟨o,h1,h2⟩ e' (λz=>nomatch z) fin
 | tup ea=>
  cases rx
  obtain ⟨its,_,p,_⟩:=I.tuple ea
  obtain ⟨o,h1,h2,_⟩:=p
  exact Je N6 I.kIn ⟨o,h1,h2⟩ e' (λz=>nomatch z) fin
section
variable {X:Cx}
def iJ (K:Ho) (H:Hp) (ps:List Addr) (mss:List (List Int)):Prop:=O5 (λp ms=>Qq K H p (OT V.int ms)) ps mss
end
def oX:List Ht->Option (List Int)
 | []=>some []
 | .int i _::r=>(oX r).map (i::·)
 | _::_=>none
theorem lY:∀{us:List Ht} {ns:List Int},oX us=some ns->Pm (ns.map V.int) us
 | [],ns,e=>by cases e;exact .nil
 | u::r,ns,e=>by
  cases u with
  | int i t=>
   obtain ⟨ms,h1,rfl⟩:=Option.map_eq_some_iff.mp (show (oX r).map (i::·)=some ns from e)
   exact .cons ⟨t,rfl⟩ (lY h1)
  | _=>cases e
def nI (K:Ho) (a:Addr):Option (List Ht):=match K.lookup a with
 | some ⟨.type "tuple",_,.seq its _,_⟩=>if its.toList.length<=1000 then some its.toList else none
 | _=>none
theorem oY {K:Ho} {H:Hp} {a:Addr} {us:List Ht} {xs:List V} (e:nI K a=some us) (r:Pm xs us):Qq K H a xs:=by
  unfold nI at e
  split at e
  · rename_i c its n sl lk
    split at e
    · rename_i hz
      cases e
      have hs:Ii=16777216:=IL
      exact .inr ⟨_, its, n, lk, rfl, rfl, by have : its.toList.length = its.size := by simp
                                              lia,r⟩
    · cases e
  · cases e
def W4 (K:Ho) (v:Ht) (ns:List Int):Bool:=match v with
 | .ref a=>(match nI K a with | some us=>decide (oX us=some ns) | none=>false)
 | _=>false
theorem BI {K:Ho} {H:Hp} {v:Ht} {ns:List Int} (e:W4 K v ns=true):∃a,v=.ref a/\Qq K H a (ns.map V.int):=by
 unfold W4 at e
 split at e
 ·rename_i a
  split at e
  ·rename_i us h
   exact ⟨a,rfl,oY h (lY (of_decide_eq_true e))⟩
  ·cases e
 ·cases e
def wW (K:Ho):List Ht->List (List Int)->Bool
 | [],[]=>true
 | v::r,ns::s=>W4 K v ns&&wW K r s
 | _,_=>false
theorem kB {K:Ho} {H:Hp}:∀{us:List Ht} {nss:List (List Int)},wW K us nss=true->∃ps,Pm (ps.map V.ref) us/\iJ K H ps nss
 | [],[],_=>⟨[],.nil,.nil⟩
 | u::r,ns::s,e=>by
  rw[wW,Ik] at e
  obtain ⟨a,rfl,h⟩:=BI (H:=H) e.1
  obtain ⟨ps,h1,h2⟩:=kB e.2
  exact ⟨a::ps,.cons rfl h1,.cons h h2⟩
 | [],_::_,e=>by cases e
 | _::_,[],e=>by cases e
def wX (K:Ho) (v:Ht) (nss:List (List Int)):Bool:=match v with
 | .ref a=>(match nI K a with | some us=>wW K us nss | none=>false)
 | _=>false
def TTup (K:Ho) (v:V) (nss:List (List Int)):Prop:=∃a ps,v=.ref a/\∀H:Hp,Qq K H a (ps.map V.ref)/\iJ K H ps nss
theorem wY {K:Ho} {v:Ht} {nss:List (List Int)} (e:wX K v nss=true):∃x,RelV x v/\TTup K x nss:=by
 unfold wX at e
 split at e
 ·rename_i a
  split at e
  ·rename_i us h
   obtain ⟨ps,h1,h2⟩:=kB (H:=λ_=>none) e
   refine ⟨.ref a,rfl,a,ps,rfl,λH=>⟨oY h h1,?_⟩⟩
   obtain ⟨U4,Td,R3⟩:=kB (H:=H) e
   have:=h1.inj Td
   have e2:ps=U4:=by
    have:=congrArg (OT (λv=>match v with | V.ref i=>i | _=>0)) this
    simpa [Iq,MB] using this
   rw[e2]
   exact R3
  ·cases e
 ·cases e
def wZ (K:Ho):List KM->List (Int×List (List Int))->Bool
 | [],[]=>true
 | e::r,p::s=>NR p.1 e.key&&decide (e.hash=Pe p.1)&&wX K e.val p.2&&wZ K r s
 | _,_=>false
def VD (K:Ho) (d:Addr) (rows:List (Int×List (List Int))):Bool:=match K.lookup d with
 | some ⟨.type "dict",none,.dict es _,sl⟩=>sl.size==0&&wZ K es.toList rows&&decide (rows.map (·.1)).Nodup
 | _=>false
theorem oZ {P:Ip} {w:Ji} {K:Ho}:∀{es:List KM} {rows:List (Int×List (List Int))},wZ K es rows=true ->
  ∃kvs:List (Int×Ht),Pairs (Pf P w) es kvs/\(∀e∈es,∃k,(Pf P w).is k e.key=true/\e.hash=(Pf P w).hash k)/\kvs.map (·.1)=rows.map (·.1) /\
   ∀k nss,(k,nss)∈rows->(rows.map (·.1)).Nodup->∃v,valueAt kvs k=some v/\wX K v nss=true
 | [],[],_=>⟨[],.nil,(λ_ h=>nomatch h),rfl,(λ_ _ h=>nomatch h)⟩
 | e::r,p::s,h=>by
  rw[wZ,Ik,Ik,Ik] at h
  obtain ⟨⟨⟨h1,h2⟩,h3⟩,h4⟩:=h
  obtain ⟨kvs,g1,g2,g3,g4⟩:=oZ (P:=P) (w:=w) h4
  refine ⟨(p.1,e.val)::kvs,.cons h1 rfl g1,λx hx=>?_,by simp[g3],λk nss hk nd=>?_⟩
  ·rcases List.mem_cons.mp hx with rfl | hx
   ·exact ⟨p.1,h1,of_decide_eq_true h2⟩
   ·exact g2 x hx
  ·rw[HJ,List.nodup_cons] at nd
   rcases List.mem_cons.mp hk with rfl | hk
   ·exact ⟨e.val,by simp[valueAt],h3⟩
   ·obtain ⟨v,e1,e2⟩:=g4 k nss hk nd.2
    refine ⟨v,?_,e2⟩
    have ne:¬ p.1=k:=λz=>nd.1 (List.mem_map.mpr ⟨(k,nss),hk,z.symm⟩)
    unfold valueAt at e1 ⊢
    rw[List.find?_cons_of_neg (by simpa using ne)]
    exact e1
 | [],_::_,h=>by cases h
 | _::_,[],h=>by cases h
def Eu (K:Ho) (rows:List (Int×List (List Int))):R2:=λx y H Q=>∃d k nss,x=.ref d/\y=.int k/\VD K d rows=true/\(k,nss)∈rows/\∀v,TTup K v nss->Q v H
theorem w4 {X:Cx} {rows:List (Int×List (List Int))}:Sx X (Eu X.K rows):=by
 intro value slice pins s σ H x y v u Q I rx ry h hs
 obtain ⟨d,k,nss,rfl,rfl,hd,hk,q⟩:=h
 cases rx
 obtain ⟨t,rfl⟩:=ry
 unfold VD at hd
 split at hd
 ·rename_i es n sl lk
  rw[Ik,Ik] at hd
  obtain ⟨⟨h1,h2⟩,h3⟩:=hd
  obtain ⟨kvs,g1,g2,g3,g4⟩:=oZ (P:=X.prog) (w:=X.w) h2
  have nd:=of_decide_eq_true h3
  obtain ⟨v,e1,e2⟩:=g4 k nss hk nd
  have sl0:sl=#[]:=by
   have:sl.size=0:=by simpa using h1
   exact Array.eq_empty_of_size_eq_zero this
  have D:s.heap.DictOf (Pf X.prog X.w) d kvs:=⟨_,es,n,I.kIn d _ lk,⟨rfl,rfl,sl0⟩,rfl,λe he=>g2 e (by simpa using he),g1,by rw[g3];exact nd⟩
  obtain ⟨x,rx,tt⟩:=wY e2
  exact tail_any D.typeIs slot_dict_getitem.lookup (wpAny_getItem_of (k:=k) (by show NR k (.int k t)=true;simp[NR]) D.mapOf e1 ⟨x,H,I.tok _,rx,q x tt⟩) hs
 ·cases hd
end L2
end
variable {H:L2.Hp} {vs:List L2.V} {es:List (List Int×PySem.Addr×L2.V)} {σ:L2.St} {pins:List (PySem.Addr×PySem.Obj)} {ix:List Nat} {v:L2.V} {K:Ho} {ns:List Int} {ms:List Int} {mss:List (List Int)} {tg:List PySem.Str} {cs:List PySem.Str} {bo:List Int}
section
namespace L2
open PySem PySem.Spec PyProof.Rows
def bu (env:Env):List (Str×JF)->List (Str×Addr)->List (Str×Addr)
 | [],acc=>acc
 | (n,k)::r,acc=>bu env r (if (k==Io)=true then (match env.cells.lookup n with | some c=>(n,c)::acc | none=>acc) else acc)
theorem cT {env:Env}:∀{l:List (Str×JF)} {acc:List (Str×Addr)} {n:Str} {c:Addr},(n,c)∈bu env l acc->(n,c)∈acc\/env.cells.lookup n=some c
 | [],_,_,_,h=>.inl h
 | (m,k)::r,acc,n,c,h=>by
  unfold bu at h
  rcases cT h with h | h
  ·split at h
   ·split at h
    ·rename_i c' e
     rcases List.mem_cons.mp h with h | h
     ·cases h;exact .inr e
     ·exact .inl h
    ·exact .inl h
   ·exact .inl h
  ·exact .inr h
theorem jJ {env:Env}:∀{l:List (Str×JF)} {acc:List (Str×Addr)} {p:Str×Addr},p∈acc->p∈bu env l acc
 | [],_,_,h=>h
 | (m,k)::r,acc,p,h=>by
  unfold bu
  refine jJ ?_
  split
  ·split
   ·exact Ic _ h
   ·exact h
  ·exact h
theorem iK {env:Env}:∀{l:List (Str×JF)} {acc:List (Str×Addr)} {n:Str} {c:Addr},(n,Io)∈l->env.cells.lookup n=some c->(n,c)∈bu env l acc
 | (m,k)::r,acc,n,c,h,e=>by
  unfold bu
  rcases List.mem_cons.mp h with h | h
  ·cases h
   refine jJ ?_
   rw[if_pos (show (Io==Io)=true from rfl),e]
   exact Hx
  ·exact iK h e
theorem cellOf_eq {env:Env} {n:Str} {c:Addr} (h:env.cells.lookup n=some c):cellOf env n=pure c:=by
 unfold cellOf
 rw[h]
theorem dm {env:Env} {scope:JX} (h:∀n,(n,Io)∈scope.names->∃c,env.cells.lookup n=some c):closureFor scope env=pure (bu env scope.names []):=by
 have all:∀(l:List (Str×JF)) (acc:List (Str×Addr)),(∀n,(n,Io)∈l->∃c,env.cells.lookup n=some c) ->
   (forIn l acc λ(x:Str×JF) (cs:List (Str×Addr))=>(if (x.2==Io)=true then (do let c <- cellOf env x.1;pure (JG ((x.1,c)::cs))) else pure (JG cs):Sem (ForInStep (List (Str×Addr)))))=pure (bu env l acc):=by
  intro l
  induction l with
  | nil=>intro acc _;rfl
  | cons x r ih=>
   intro acc hl
   obtain ⟨n,k⟩:=x
   rw[L6]
   unfold bu
   cases hk:(k==Io) with
   | true=>
    have TU:k=Io:=by simpa using hk
    subst TU
    obtain ⟨c,e⟩:=hl n Hx
    simp only[if_true,cellOf_eq e,pure_bind,e]
    exact ih _ λm hm=>hl m (Ic _ hm)
   | false=>
    simp only[Jq,if_false,pure_bind]
    exact ih _ λm hm=>hl m (Ic _ hm)
 have q:=all scope.names [] h
 unfold closureFor
 first
  | (simp only[bind_pure_comp,map_pure] at q ⊢;rw[q];rfl)
  | (rw[q];rfl)
  | exact q
def ak (X:Cx) (scope:JX) (N:List Str) (C:Addr) (fp:List Addr) (s₀:Hv) (H₀:Hp):Cx:=
 { X with N:=N,s₀:=s₀,H₀:=H₀,env:=Kn scope (bu X.env scope.names []) C X.env,outer:=X.stack,stack:=X.stack,ex:=fp,fn:=λ_=>false,pn:=[],xe:=λ_ _=>False }
def capt (n:Nat) (ix:List Nat) (σ:St):St:=HH n none++ix.map λi=>(σ[i]?).getD none
structure aV (X:Cx) (scope:JX) (tg cs:List Str) (ix:List Nat):Prop where
 kind:scope.kind=.function
 nocell:∀y∈scope.names,y.2≠.cell
 names:∀y∈scope.names,y.2=.local->scope.names.lookup y.1=some .local
 nd:(tg++cs).Nodup
 at_:ix.map (λi=>X.N[i]?)=cs.map some
 free:∀x∈cs,(x,Io)∈scope.names/\scope.names.lookup x=some .free
 out:∀x,(x,Io)∈scope.names->X.env.scope.names.lookup x=some .cell\/X.env.scope.names.lookup x=some .free
theorem fX {f:Str×JF->Str×JF} (hf:∀p,(f p).1=p.1):∀(names:List (Str×JF)) (x:Str),(names.map f).lookup x=(names.lookup x).map λk=>(f (x,k)).2
 | [],_=>rfl
 | p::r,x=>by
  have e:f p=(p.1,(f p).2):=by rw[<- hf p]
  rw[HJ,e,KA,KA,fX hf r x]
  cases q:x==p.1 with
  | false=>rfl
  | true=>
   have z:x=p.1:=by simpa using q
   subst z
   rfl
def freed (env:Env) (p:Str×JF):Bool:=p.2==Io&&env.scope.kind==.function&&env.kindOf p.1==some .cell
theorem df {env:Env} {names:List (Str×JF)} {x:Str} :
  (names.map λ(n,k)=>if (k==Io&&env.scope.kind==.function&&env.kindOf n==some .cell) then (n,Jl) else (n,k)).lookup x=(names.lookup x).map λk=>if freed env (x,k)=true then .cell else k:=by
 refine (fX (λp=>?_) names x).trans ?_
 ·dsimp only
  split <;> rfl
 ·congr 1
  funext k
  unfold freed
  dsimp only
  split <;> rfl
theorem cZ {env:Env} {names:List (Str×JF)} {x:Str} {k:JF}
  (h:(names.map λ(n,k)=>if (k==Io&&env.scope.kind==.function&&env.kindOf n==some .cell) then (n,Jl) else (n,k)).lookup x=some k) (hk:k=.cell\/k=.free) (nc:∀y∈names,y.2≠.cell):(x,Io)∈names:=by
 rw[df] at h
 cases q:names.lookup x with
 | none=>rw[q] at h;cases h
 | some k0=>
  have hm:=II q
  suffices z:k0=.free by rw[<- z];exact hm
  rw[q] at h
  by_cases c:freed env (x,k0)=true
  ·unfold freed at c
   simp only[Ik,beq_iff_eq] at c
   exact c.1.1
  ·have h2:k0=k:=by simpa [c] using h
   rcases hk with e | e
   ·exact absurd (h2.trans e) (nc _ hm)
   ·exact h2.trans e
theorem b9 {env:Env} {names:List (Str×JF)} {x:Str} (h:names.lookup x=some .free) :
  (names.map λ(n,k)=>if (k==Io&&env.scope.kind==.function&&env.kindOf n==some .cell) then (n,Jl) else (n,k)).lookup x=some .cell \/
  (names.map λ(n,k)=>if (k==Io&&env.scope.kind==.function&&env.kindOf n==some .cell) then (n,Jl) else (n,k)).lookup x=some .free:=by
 rw[df,h]
 by_cases c:freed env (x,.free)=true
 ·exact .inl (by simp[c])
 ·exact .inr (by simp[c])
section
variable {X:Cx} {pins:List (Addr×Obj)} {σ:St} {H H1:Hp} {s:Hv}
theorem Inv.track {D:Addr} {o:HO} (I:Inv X pins σ H s) (hn:H D=none) (hs:X.s₀.heap.objs.size<=D) (hL:D≠X.env.locals) (hc:∀x c,X.env.cells.lookup x=some c->c≠D) (hp:∀p∈X.pn++pins,p.1≠D)
  (new:bA X.prog X.w (upd H D o) s.heap D o):Inv X pins σ (upd H D o) s:=by
 have nb:∀b ob,X.s₀.heap.get? b=some ob->b≠D:=λb ob e z=>by subst z;exact absurd (HS (HM e) hs) (Jb _)
 refine ⟨I.ok,I.os,I.bare,⟨I.base.keep,I.base.slot,λb ob e n hx=>?_,I.base.there,λb xs e=>?_,λb ob u e=>?_,λb ps e=>?_⟩,I.loc,I.cell,?_,λx c e=>?_,λp VF=>?_,λb u e=>?_,I.len⟩
 ·rw[ay (nb b ob e)];exact I.base.free b ob e n hx
 ·have q:=I.base.tups b xs e
  rw[ay (aY q hn)];exact q
 ·have q:=I.base.frzs b ob u e
  rw[ay (aY q hn)];exact q
 ·obtain ⟨more,q⟩:=I.base.tbls b ps e
  exact ⟨more,by rw[ay (aY q hn)];exact q⟩
 ·rw[ay hL.symm];exact I.free
 ·rw[ay (hc x c e)];exact I.freeC x c e
 ·obtain ⟨a,b,c,d,e⟩:=I.pin p VF
  exact ⟨a,by rw[ay (hp p VF)];exact b,c,d,e⟩
 ·by_cases hb:b=D
  ·subst hb;rw[aw] at e;cases e;exact new
  ·rw[ay hb] at e
   exact (I.hok b u e).stay (λ_ _ _ q=>q) (λc q=>by rw[ay (aY q hn)];exact q) λc xs q=>by rw[ay (aY q hn)];exact q
theorem dq {X:Cx} {tg cs:List Str} (hat:ix.map (λi=>X.N[i]?)=cs.map some) {i:Nat} {x:Str} (h1:(tg++cs)[i]?=some x) (h2:(capt tg.length ix σ)[i]?=some (some v)) :
  x∈cs/\∃k:Nat,X.N[k]?=some x/\σ[k]?=some (some v):=by
 unfold capt at h2
 by_cases hi:i<tg.length
 ·rw[Ie (by simpa using hi),Ky,if_pos hi] at h2
  cases h2
 ·rw[HV (by simpa using hi),Kf,HQ] at h2
  rw[HV (by lia)] at h1
  cases e:ix[i-tg.length]? with
  | none=>rw[e] at h2;cases h2
  | some k=>
   rw[e] at h2
   have h2:(σ[k]?).getD none=some v:=Ij h2
   have q:=congrArg (λl=>l[i-tg.length]?) hat
   simp only[HQ,e,h1,Option.map_some] at q
   refine ⟨Jp h1,k,Ij q,?_⟩
   cases z:σ[k]? with
   | none=>rw[z] at h2;cases h2
   | some y=>rw[z] at h2;exact congrArg some h2
end
def SA (X:Cx) (ifs:List Expr) (t:TT):Prop:=
 ∀(pins:List (Addr×Obj)) (s:Hv) (σ:St) (H:Hp) (Q:Bool->Hp->Prop),Inv X pins σ H s->t σ H Q ->
  IJ (IB X.prog X.w) X.A (forIn ifs true λc r=>if r=true then do let ok <- OF c X.env (eval c X.env);pure (JG ok) else pure (JG r)) (TP X pins σ Q) X.xe s
def zD:TT:=λ_ H Q=>Q true H
theorem w6 {X:Cx}:SA X [] zD:=λ_ _ _ H _ I h=>wpAny_tests_nil ⟨H,I,h⟩
theorem w9 {X:Cx} {c:Expr} {t:TT} (h:PT X c t):SA X [c] t:=λpins s σ H Q I hw=>wpAny_tests_one (h pins s σ H Q I hw)
def cG (n:Nat) (ix:List Nat) (g:TG):Prop:=∀x σ H Q,g x (capt n ix σ) H Q->g x (capt n ix σ) H fun σ2 H2=>(σ2.length=(capt n ix σ).length/\∀(i:Nat) (v:V),(capt n ix σ)[i]?=some (some v)->σ2[i]?=some (some v))/\Q σ2 H2
theorem ck {n:Nat} {j:Nat} (h:j<n) (e:(capt n ix σ)[j]?=some (some v)):False:=by
 unfold capt at e
 rw[Ie (by simpa using h),Ky,if_pos h] at e
 cases e
theorem aO {n:Nat} {j:Nat} (h:j<n):cG n ix (bB j):=λx σ H Q q=>⟨⟨by simp,λi v e=>by
 by_cases hi:j=i
 ·subst hi;exact (ck h e).elim
 ·rw[Ia hi];exact e⟩,q⟩
theorem fy {n:Nat} {m j k:Nat} (h:j<n) (h':k<n):cG n ix (Bh K m (oJ (bB j) (oJ (bB k) Bg))):=λx σ H Q q=>by
 obtain ⟨a,xs,e1,hq,hl,v,r,e2,v',r',e3,e4,q⟩:=q
 refine ⟨a,xs,e1,hq,hl,v,r,e2,v',r',e3,e4,⟨by simp,λi v e=>?_⟩,q⟩
 by_cases hi:j=i
 ·subst hi;exact (ck h e).elim
 ·by_cases hk:k=i
  ·subst hk;exact (ck h' e).elim
  ·rw[Ia hk,Ia hi];exact e
def iL (wi:TI) (n:Nat) (ix:List Nat) (g:TG) (tc:TT) (te:TE):TE:=fun σ H Q=>wi σ H λJ H1=>∃W:Nat->Nat->List V->Hp->Prop,(∃m,W 0 m [] H1)/\∀i m ys H2,W i m ys H2 ->
 (J.stop i H2/\ys.length<=Ii/\∀D,H2 D=none->Q (.ref D) (upd H2 D (.lst ys))) \/
 (J.go i H2/\ys.length<Ii/\∃Nx:List V->Hp->Prop,(∀Qj H',Nx Qj H'->∃m',m'<m/\W (i+1) m' Qj H') /\
  ∀x H3,J.yld i H2 x H3->g x (capt n ix σ) H3 fun σ2 H4=>tc σ2 H4 λb H5=>if b=true then te σ2 H5 λv H6=>Nx (ys++[v]) H6 else Nx ys H5)
section
variable {X:Cx} {pins:List (Addr×Obj)} {σ:St} {H H1:Hp} {s:Hv}
theorem fY {scope:JX} {tg cs:List Str} {fp:List Addr} {s4:Hv} (S:aV X scope tg cs ix) (I:Inv X pins σ H s) (hf:∀b∈fp,eU X pins H b) (ho:∀b∈fp,∃o,s.heap.get? b=some o) {C:Addr} (hC:s.heap.objs.size<=C)
  (hk:∀b o,s.heap.get? b=some o->s4.heap.get? b=some o) (hns:s4.heap.Ns C λ_=>none) (os:s4.os=s.os) (bare:L3 s4.gens) (hn:H C=none) :
  Inv (ak X scope (tg++cs) C fp s H) [] (capt tg.length ix σ) H s4:=by
 have RI:∀x c,(bu X.env scope.names []).lookup x=some c->X.env.cells.lookup x=some c:=λx c e=>by
  rcases cT (II e) with h | h
  ·cases h
  ·exact h
 have R4:∀x,(x,Io)∈scope.names->∃c,(bu X.env scope.names []).lookup x=some c:=λx hx=>by
  obtain ⟨c,e⟩:=I.ok.has x (S.out x hx)
  have m:=iK (acc:=[]) hx e
  cases q:(bu X.env scope.names []).lookup x with
  | some c'=>exact ⟨c',rfl⟩
  | none=>
   have:=List.lookup_eq_none_iff.mp q (x,c) m
   simp at this
 refine ⟨⟨I.ok.mod,?_,I.ok.glob,I.ok.blt,hC,λx y c e1 e2=>I.ok.inj x y c (RI x c e1) (RI y c e2),λx hx=>?_,λx c h=>?_,I.ok.hd,I.ok.frames,.inl rfl,λb hb=>⟨?_,λx c e=>?_⟩,I.bs,Jf I.ok.bsz I.sz,λb o e hb=>?_,λb hb hx=>?_,I.stack,I.stkFree⟩,
  os,bare,Un.kept hk,⟨_,hns,λi x v e1 e2 e3=>?_⟩,λx c e=>?_,hn,λx c e=>I.freeC x c (RI x c e),λp hp=>(by cases hp),I.hok.kept hk,?_⟩
 ·show (NV scope X.env).kind=.function
  exact S.kind
 ·have hx':(NV scope X.env).names.lookup x=some .cell\/(NV scope X.env).names.lookup x=some .free:=hx
  rcases hx' with h | h
  ·exact R4 x (cZ h (.inl rfl) S.nocell)
  ·exact R4 x (cZ h (.inr rfl) S.nocell)
 ·cases h
 ·obtain ⟨o,e⟩:=ho b hb
  exact IE (HS (HM e) hC)
 ·exact (hf b hb).2.2.2.2.1 x c (RI x c e)
 ·obtain ⟨_,_,_,h,_⟩:=hf b hb
  rcases h with h | h
  ·exact I.ok.noex b o e h
  ·exact absurd (HS (HM (I.ok.bs b o e).1) h) (Jb _)
 ·have hx:b∈QS X.stack:=hx
  obtain ⟨_,h1,h2,_⟩:=hf b hb
  rcases List.mem_cons.mp (I.stkSub b hx) with h | h
  ·exact h1 h
  ·exact h2 h
 ·obtain ⟨hx,k,h1,h2⟩:=dq (X:=X) S.at_ e1 e2
  obtain ⟨R5,RV⟩:=S.free x hx
  obtain ⟨m,hnm,hl⟩:=I.loc
  have ov:=S.out x R5
  obtain ⟨u,r,l⟩:=hl k x v h1 h2 (by rcases ov with z | z;exact .inr (.inl z);exact .inr (.inr z))
  refine ⟨u,r,?_⟩
  rcases l with ⟨l,_⟩ | ⟨_,c,lc,ic⟩
  ·have l:X.env.scope.names.lookup x=some .local:=l
   rcases ov with z | z <;> rw[z] at l <;> cases l
  ·obtain ⟨c',e'⟩:=R4 x R5
   have:=(RI x c' e').symm.trans lc
   cases this
   refine .inr ⟨b9 RV,c,e',?_⟩
   obtain ⟨o,Uj,RH⟩:=ic
   exact ⟨o,hk c o Uj,RH⟩
 ·obtain ⟨v,o,Uj,RH⟩:=I.cell x c (RI x c e)
  exact ⟨v,o,hk c o Uj,RH⟩
 ·show (capt tg.length ix σ).length=(tg++cs).length
  have:=congrArg Kk S.at_
  simp only[Hz] at this
  unfold capt
  simp[this]
theorem jK {use:Option (Ht->Sem Unit)} {Qc:Ht->Hv->Prop} {pos':Pos} {elt target iter:Expr} {ifs:List Expr} {scope:JX} {pos:Pos} {tg cs:List Str} {wi:TI} {g:TG} {tc:TT} {te:TE} (S:aV X scope tg cs ix) (Pv:X.calm=true) (kg:cG tg.length ix g) {Φ:Hp->Prop} (hΦ:∀pins σ H s,Inv X pins σ H s->Φ H)
    (hi:PI X target iter wi) (hg:∀C fp s H,PG (ak X scope (tg++cs) C fp s H) target g) (hc:∀C fp s H,Φ H->SA (ak X scope (tg++cs) C fp s H) ifs tc) (he:∀C fp s H,Φ H->PE (ak X scope (tg++cs) C fp s H) elt te)
    (hs:∀x,HY iter X.env x=pure x) {pins:List (Addr×Obj)} {s:Hv} {σ:St} {H:Hp} {Q:VK} (I:Inv X pins σ H s) (h:iL wi tg.length ix g tc te σ H Q)
    (fin:∀D C H' s' v,Inv X pins σ H' s'->Q (.ref D) H'->eU X pins H' C->(∃m,s'.heap.Ns C m)->N9 (IB X.prog X.w) X.A X.xe use Qc (.ref D) C (.ok v) s') :
    IJ (IB X.prog X.w) X.A (Oa (.ListComp elt [⟨target,iter,ifs,0⟩] scope pos) scope X.env pos' (newList []) false (eval iter X.env) use) Qc X.xe s:=by
  refine JT (use:=use) (cl:=bu X.env scope.names []) rfl hs (dm λn hn=>I.ok.has n (S.out n hn)) S.kind S.names ?_
  refine Ih (hi pins s σ H _ I h) (λv s1 h1=>Ih h1 (λTb s2 h2=>?_) λ_ _ e=>e) λ_ _ e=>e
  obtain ⟨it,fp,tn,J,H2,rfl,I2,T,Pj,f2,W,⟨m0,w0⟩,turn⟩:=h2
  refine IU (K2 S.nocell (by intro y hy;simp at hy) (λh1 QB Qx=>?_) S.kind)
  dsimp only at QB Qx ⊢
  generalize hP:s2.heap.push { cls:=.type "list",dict:=none,data:=.seq ([]:List Ht).toArray }=P2 at QB Qx ⊢
  have RW:P2.objs.size=s2.heap.objs.size+1:=by rw[<- hP,Kl]
  have hDC:s2.heap.objs.size≠P2.objs.size:=by rw[RW];exact IE (KB _)
  have Qf:s2.heap.objs.size<=P2.objs.size:=by rw[RW];exact KN _
  generalize Wn:P2.objs.size=C at *
  have old:∀b o,s2.heap.get? b=some o->h1.get? b=some o:=λb o e=>Qx.extBut b o (IE (HS (HM e) Qf)) (Hs _ (hP▸Hs _ e))
  generalize PU:s2.heap.objs.size=D at *
  have SB:h1.get? D=some { cls:=.type "list",data:=.seq ([]:List Ht).toArray 0 }:=Qx.extBut _ _ hDC (Hs _ (hP▸PU▸HP _ rfl))
  have nC:H2 C=none:=I2.hok.fresh (by rw[PU];exact Qf)
  have nD:H2 D=none:=I2.hok.fresh (by rw[PU];exact HA _)
  have fo:∀b∈fp,∃o,s2.heap.get? b=some o:=λb hb=>let ⟨o,e,_⟩:=T.obj _ _ Pj b hb;⟨o,e⟩
  have Rk:D∉fp:=λz=>by
    obtain ⟨o,e⟩:=fo D z
    have:=HM e
    rw[PU] at this
    exact absurd this (Jb _)
  have R6:D∉QS X.stack:=λz=>by
    rcases List.mem_cons.mp (I2.stkSub D z) with e | e
    · have:=I2.lt
      rw[<- e,PU] at this
      exact absurd this (Jb _)
    · exact I2.nofs (by rw[PU];exact HA _) e
  have SC:∀x c,(bu X.env scope.names []).lookup x=some c->c≠D:=λx c e=>by
    rcases cT (II e) with h | h
    · cases h
    · exact (I2.fpOk (H':=H2) (b:=D) (by rw[PU];exact HA _) nD).2.2.2.2.1 x c h
  -- QG QZ context
  have Te:∀s4:Hv,s4={ s2 with heap:=h1,toks:=s2.toks+([]:List (Str×Ht)).length }->Inv (ak X scope (tg++cs) C fp s2 H2) [] (capt tg.length ix σ) H2 s4:=by
    rintro s4 rfl
    exact fY S I2 f2 fo (by rw[PU];exact Qf) old (by simpa using QB) rfl I2.bare nC
  -- QG loop
  have loop:∀s4:Hv,s4={ s2 with heap:=h1,toks:=s2.toks+([]:List (Str×Ht)).length } ->
      KG (IB X.prog X.w) X.A (.compLoop (.ListComp elt [⟨target,iter,ifs,0⟩] scope pos) 0 (.ref it) (.ref D) (Kn scope (bu X.env scope.names []) C X.env)) (N9 (IB X.prog X.w) X.A X.xe use Qc (.ref D) C) s4:=by
    intro s4 e4
    refine Lb rfl (λn s'=>∃i ys its k H',Inv (ak X scope (tg++cs) C fp s2 H2) [] (capt tg.length ix σ) H' s'/\tn i s'.heap/\(∀b∈fp,H' b=none)/\H' D=none/\s'.heap.get? D=some { cls:=.type "list",data:=.seq (its:List Ht).toArray k }/\Pm ys its/\W i n ys H')
      ?_ m0 ⟨0,[],[],0,H2,Te s4 e4,?_,λb hb=>(f2 b hb).1,nD,by rw[e4];exact SB,.nil,w0⟩
    · rintro n s5 ⟨i,ys,its,k,H5,I5,Py,Ra,d5,o5,v5,w5⟩
      show IJ _ X.A ((LJ (.ListComp elt [⟨target,iter,ifs,0⟩] scope pos) 0 (.ref it) (.ref D) (Kn scope (bu X.env scope.names []) C X.env)).onRaise (λx=>do Nb x (Kn scope (bu X.env scope.names []) C X.env);KO x)) _ _ s5
      refine LF ?_
      rw[compTurn_list]
      have Qr:Inv (ak X scope (tg++cs) C fp s2 H2) [(D,{ cls:=.type "list",data:=.seq its.toArray k })] (capt tg.length ix σ) H5 s5:=I5.pins_of λp hp=>by
        have e:p=(D,{ cls:=.type "list",data:=.seq its.toArray k }):=by simpa using hp
        subst e
        exact ⟨o5,d5,hDC,R6,λv z=>by have z':Nw _ _=Lh v:=z;cases z'⟩
      have Ro:∀{H':Hp},(∀b∈fp,H' b=none)->∀b∈fp,eU (ak X scope (tg++cs) C fp s2 H2) [(D,{ cls:=.type "list",data:=.seq its.toArray k })] H' b:=λhn b hb=>
        ⟨hn b hb,(I5.ok.exf b hb).1,λz=>I5.ok.exfs b hb z,.inl hb,(I5.ok.exf b hb).2,λp hp z=>by
          have hp:p∈([]:List (Addr×Obj))++[(D,{ cls:=.type "list",data:=.seq its.toArray k })]:=hp
          have e:p=(D,{ cls:=.type "list",data:=.seq its.toArray k }):=by simpa using hp
          subst e
          have z:D=b:=z
          exact Rk (z▸hb)⟩
      refine Hq (Jd (Hq ?_))
      rcases turn i n ys H5 w5 with ⟨stop,hz,qn⟩ | ⟨go,hz,Nx,hN,step⟩
      · refine PF (T.done (ak X scope (tg++cs) C fp s2 H2) rfl rfl rfl Pv i _ s5 _ H5 _ Qr (Ro Ra) Py stop) λr s6 Pk=>?_
        obtain ⟨hr,I6⟩:=Pk
        subst hr
        refine Hw ?_
        obtain ⟨mC,Rp,_⟩:=id I6.loc
        have IX:Inv X pins σ H5 s6:=I2.call' (ch:=fp) I6.os I6.base I6.hok I6.bare λb hb=>let ⟨_,a1,_,a3,a4,a5⟩:=f2 b hb;⟨a3,a1,a4,a5⟩
        obtain ⟨_,b1,_,b3,b4,b5⟩:=I2.fpOk (H':=H5) (b:=D) (by rw[PU];exact HA _) d5
        obtain ⟨_,c1,c2,c3,c4,c5⟩:=I2.fpOk (H':=H5) (b:=C) (by rw[PU];exact Qf) I6.free
        have gD:s6.heap.get? D=some { cls:=.type "list",data:=.seq its.toArray k }:=(I6.pin (D,{ cls:=.type "list",data:=.seq its.toArray k }) (Hr _ Hx)).1
        have W5:Inv X pins σ (upd H5 D (.lst ys)) s6:=IX.track d5 (by rw[<- PU];exact I2.sz) b1 b4 b5 ⟨hz,its,k,v5,gD⟩
        exact fin D C _ s6 _ W5 (qn D d5) ⟨by rw[ay (Ka hDC)];exact I6.free,c1,c2,c3,c4,c5⟩ ⟨mC,Rp⟩
      · refine PF (T.item (ak X scope (tg++cs) C fp s2 H2) rfl rfl rfl Pv i _ s5 _ H5 _ Qr (Ro Ra) Py go) λr s6 Pk=>?_
        obtain ⟨u,hr,h6⟩:=Pk
        subst hr
        refine Hq (PF h6 λ_ s7 Pk=>?_)
        obtain ⟨x,H7,I7,r7,y7,Qk,R7⟩:=Pk
        have R8:=I7.pinned (Ro R7) (T.obj _ _ Qk)
        -- QG next turn
        have Mf:∀{σ2:St} {H8:Hp} {s8:Hv} {Qj:List V} {its':List Ht} {k':Nat} , Inv (ak X scope (tg++cs) C fp s2 H2) [] σ2 H8 s8->(σ2.length=(capt tg.length ix σ).length/\∀(i:Nat) (v:V),(capt tg.length ix σ)[i]?=some (some v)->σ2[i]?=some (some v)) ->
            (∀b∈fp,∀o,s7.heap.get? b=some o->s8.heap.get? b=some o)->(∀b∈fp,H8 b=none)->H8 D=none->s8.heap.get? D=some { cls:=.type "list",data:=.seq its'.toArray k' }->Pm Qj its'->Nx Qj H8 ->
            ∃m,m<n/\∃i ys its k H',Inv (ak X scope (tg++cs) C fp s2 H2) [] (capt tg.length ix σ) H' s8/\tn i s8.heap/\(∀b∈fp,H' b=none)/\H' D=none/\s8.heap.get? D=some { cls:=.type "list",data:=.seq (its:List Ht).toArray k }/\Pm ys its/\W i m ys H':=by
          intro σ2 H8 s8 Qj its' k' I8 kp fk fn dn dg vv nx
          obtain ⟨m',hm,w8⟩:=hN Qj H8 nx
          exact ⟨m',hm,i+1,Qj,its',k',H8,I8.weak kp.1.symm kp.2,T.keep _ _ _ Qk fk,fn,dn,dg,vv,w8⟩
        refine Hq (Ih (hg C fp s2 H2 _ s7 _ H7 x u _ R8 r7 (kg x σ H7 _ (step x H7 y7))) (λ_ s8 Pk=>?_) λ_ _ z=>z.elim)
        obtain ⟨σ8,H8,I8,RX,q8⟩:=Pk
        refine Hq (Ih (hc C fp s2 H2 (hΦ _ _ _ _ I2) _ s8 σ8 H8 _ I8 q8) (λok s9 Pk=>?_) λ_ _ z=>z.elim)
        obtain ⟨H9,I9,q9⟩:=Pk
        have P4:∀{σ':St} {H':Hp} {s':Hv},Inv (ak X scope (tg++cs) C fp s2 H2) ([(D,{ cls:=.type "list",data:=.seq its.toArray k })]++cw fp s7.heap) σ' H' s' ->
            (∀b∈fp,∀o,s7.heap.get? b=some o->s'.heap.get? b=some o)/\(∀b∈fp,H' b=none)/\H' D=none/\s'.heap.get? D=some { cls:=.type "list",data:=.seq its.toArray k }:=by
          intro σ' H' s' I'
          refine ⟨λb hb o e=>(I'.pin (b,o) (Hr _ (Hr _ (aQ hb e)))).1,λb hb=>?_,(I'.pin (D,{ cls:=.type "list",data:=.seq its.toArray k }) (Hr _ (HR _ Hx))).2.1,(I'.pin (D,{ cls:=.type "list",data:=.seq its.toArray k }) (Hr _ (HR _ Hx))).1⟩
          obtain ⟨o,e,d⟩:=T.obj _ _ Qk b hb
          exact (I'.pin (b,o) (Hr _ (Hr _ (aQ hb e)))).2.1
        cases ok with
        | false=>
          obtain ⟨p1,p2,p3,p4⟩:=P4 I9
          exact Hw ⟨rfl,Mf (I9.pins_of λp hp=>nomatch hp) RX p1 p2 p3 p4 v5 q9⟩
        | true=>
          have q9:te σ8 H9 λv H6=>Nx (ys++[v]) H6:=q9
          refine Hq (Hq (Ih (he C fp s2 H2 (hΦ _ _ _ _ I2) _ s9 σ8 H9 _ I9 q9) (λy Qu Pk=>?_) λ_ _ z=>z.elim))
          obtain ⟨v,RD,Ry,rv,nx⟩:=Pk
          obtain ⟨p1,p2,p3,p4⟩:=P4 Ry
          have VH:=v5.length
          refine Hq (LC F.slot_list_append ⟨_,p4,rfl⟩ F.entry_list_append (F.args_list_append_2 _ _) (LD D its.toArray k y (by rw[HD];lia)) ⟨p4,?_⟩)
          have SM:=LU p4 (·.push y)
          rw[show its.toArray.push y=(its++[y]).toArray by simp] at SM
          have RY:Inv (ak X scope (tg++cs) C fp s2 H2) [] σ8 RD Qu:=Ry.pins_of λp hp=>nomatch hp
          have RJ:Inv (ak X scope (tg++cs) C fp s2 H2) [] σ8 RD { Qu with heap:=Qu.heap.update D (Jt (·.push y)) }:=
            RY.turned (t':=Qu.toks) (λb o hb e=>(JA Qu.heap (Jt (·.push y)) (Ka hb)).trans e) p3 hDC (.inr (by show s2.heap.objs.size<=D;rw[PU];exact HA _)) SC (λp hp=>nomatch hp)
          refine Hw (Hw ⟨rfl,Mf (its':=its++[y]) RJ RX (λb hb o e=>?_) p2 p3 SM (v5.append (.cons rv .nil)) nx⟩)
          exact (JA Qu.heap (Jt (·.push y)) (λz:D=b=>Rk (z▸hb))).trans (p1 b hb o e)
    · rw[e4];exact T.keep _ _ _ Pj λb _ o e=>old b o e
  exact Lv (loop _ rfl) (T.self _ 0 _ _ _ (T.keep _ _ _ Pj λb _ o e=>old b o e) (loop _ rfl))
theorem sT {elt target iter:Expr} {ifs:List Expr} {scope:JX} {pos:Pos} {tg cs:List Str} {wi:TI} {g:TG} {tc:TT} {te:TE} (S:aV X scope tg cs ix) (Pv:X.calm=true) (kg:cG tg.length ix g) {Φ:Hp->Prop} (hΦ:∀pins σ H s,Inv X pins σ H s->Φ H)
  (hi:PI X target iter wi) (hg:∀C fp s H,PG (ak X scope (tg++cs) C fp s H) target g) (hc:∀C fp s H,Φ H->SA (ak X scope (tg++cs) C fp s H) ifs tc) (he:∀C fp s H,Φ H->PE (ak X scope (tg++cs) C fp s H) elt te)
  (hs:∀x,HY iter X.env x=pure x:=by intro _;rfl):PE X (.ListComp elt [⟨target,iter,ifs,0⟩] scope pos) (iL wi tg.length ix g tc te):=by
 intro pins s σ H Q I h
 rw[eval_ListComp]
 refine jK S Pv kg hΦ hi hg hc he hs I h λD C H' s' v I' q fp z=>?_
 obtain ⟨f0,c1,_,c3,c4,c5⟩:=fp
 obtain ⟨m,hm⟩:=z
 exact ⟨m,hm,λh' sb=>⟨.ref D,H',I'.turned (t':=s'.toks) (λb o hb e=>(sb.2 b hb).trans e) f0 c1 c3 c4 c5,rfl,q⟩⟩
end
end L2
end
section
namespace L2
open PySem PySem.Spec PyProof.Rows
theorem lex_irrefl:∀a:List Int,HT.lexLt a a=false
 | []=>rfl
 | x::r=>by rw[HT.eF,if_pos rfl];exact lex_irrefl r
theorem lex_trans:∀a b c:List Int,HT.lexLt a b=true->HT.lexLt b c=true->HT.lexLt a c=true
 | [],_,[],h1,h2=>by
  rename_i b
  cases b with
  | nil=>exact h1
  | cons y r=>cases h2
 | [],_,_::_,_,_=>rfl
 | x::r,[],_,h1,_=>by cases h1
 | x::r,y::t,[],_,h2=>by cases h2
 | x::r,y::t,z::u,h1,h2=>by
  rw[HT.eF] at *
  by_cases e1:x=y
  ·rw[if_pos e1] at h1
   by_cases e2:y=z
   ·rw[if_pos e2] at h2
    rw[if_pos (e1.trans e2)]
    exact lex_trans r t u h1 h2
   ·rw[if_neg e2] at h2
    rw[if_neg (by lia)]
    rw[e1];exact h2
  ·rw[if_neg e1] at h1
   have h1:=of_decide_eq_true h1
   by_cases e2:y=z
   ·rw[if_neg (by lia)]
    exact decide_eq_true (by lia)
   ·rw[if_neg e2] at h2
    have h2:=of_decide_eq_true h2
    rw[if_neg (by lia)]
    exact decide_eq_true (by lia)
theorem fA:∀a b:List Int,HT.lexLt a b=false->HT.lexLt b a=false->a=b
 | [],[],_,_=>rfl
 | [],_::_,h,_=>by cases h
 | _::_,[],_,h=>by cases h
 | x::r,y::t,h1,h2=>by
  rw[HT.eF] at *
  by_cases e:x=y
  ·rw[if_pos e] at h1
   rw[if_pos e.symm] at h2
   rw[e,fA r t h1 h2]
  ·rw[if_neg e] at h1
   rw[if_neg (Ka e)] at h2
   have h1:=of_decide_eq_false h1
   have h2:=of_decide_eq_false h2
   lia
theorem fZ:∀a b c:List Int,HT.lexLt a c=true->HT.lexLt a b=true\/HT.lexLt b c=true:=λa b c h=>by
 cases h1:HT.lexLt a b with
 | true=>exact .inl rfl
 | false=>
  right
  cases h2:HT.lexLt b a with
  | true=>exact lex_trans b a c h2 h
  | false=>rw[<- fA a b h1 h2];exact h
def lexOrd:MC:=⟨List Int,HT.lexLt,lex_irrefl,lex_trans,fZ,fA⟩
def lexLe (a b:List Int):Bool:=!HT.lexLt b a
theorem lZ (a b c:List Int) (h1:lexLe a b=true) (h2:lexLe b c=true):lexLe a c=true:=by
 unfold lexLe at *
 cases h:HT.lexLt c a with
 | false=>rfl
 | true=>
  rcases fZ c b a h with z | z
  ·rw[z] at h2;cases h2
  ·rw[z] at h1;cases h1
theorem md (a b:List Int):(lexLe a b||lexLe b a)=true:=by
 unfold lexLe
 cases h:HT.lexLt b a with
 | false=>rfl
 | true=>
  cases h':HT.lexLt a b with
  | false=>rfl
  | true=>have:=lex_trans a b a h' h;rw[lex_irrefl] at this;cases this
theorem nJ (a b:List Int) (h1:lexLe a b=true) (h2:lexLe b a=true):a=b:=by
 unfold lexLe at *
 exact fA a b (by simpa using h2) (by simpa using h1)
def srt (l:List (List Int)):List (List Int):=l.mergeSort lexLe
theorem bT (l:List (List Int)):(srt l).Perm l:=List.mergeSort_perm l lexLe
theorem iM (l:List (List Int)):(srt l).Pairwise (λa b=>lexLe a b=true):=List.pairwise_mergeSort (le:=lexLe) lZ md l
theorem fI:∀{a b:List (List Int)},a.Perm b->a.Pairwise (λa b=>lexLe a b=true)->b.Pairwise (λa b=>lexLe a b=true)->a=b
 | [],b,p,_,_=>(List.perm_nil.mp p.symm).symm
 | x::r,[],p,_,_=>by have:=p.length_eq;simp at this
 | x::r,y::t,p,ha,hb=>by
  rw[List.pairwise_cons] at ha hb
  have e:x=y:=by
   have hx:x∈y::t:=p.mem_iff.mp Hx
   have hy:y∈x::r:=p.mem_iff.mpr Hx
   rcases List.mem_cons.mp hx with h | h
   ·exact h
   ·rcases List.mem_cons.mp hy with h' | h'
    ·exact h'.symm
    ·exact nJ x y (ha.1 y h') (hb.1 x h)
  subst e
  rw[fI (List.Perm.cons_inv p) ha.2 hb.2]
theorem nK {a l:List (List Int)} (p:a.Perm l) (h:a.Pairwise (λa b=>lexLe a b=true)):a=srt l:=fI (p.trans (bT l).symm) h (iM l)
section
variable {X:Cx} {pins:List (Addr×Obj)} {σ:St} {H:Hp} {s:Hv}
theorem Inv.kept_led {h':Heap} {m:Str->Option Ht} (I:Inv X pins σ H s) (F':Fr X.base X.env.locals h' m) (N':News X.base X.env.locals h' (fS X.base s.heap X.env.locals)):∀b o,b≠X.env.locals->s.heap.get? b=some o->h'.get? b=some o:=λb o hb e=>by
 cases q:X.base.get? b with
 | some u=>
  have:=I.bk b u q
  rw[e] at this;cases this
  exact F'.keep b _ q
 | none=>exact (N' (b,o) (lT hb q e)).1
theorem Inv.led {h':Heap} {m:Str->Option Ht} {t':Nat} (I:Inv X pins σ H s) (hm:s.heap.Ns X.env.locals m) (F':Fr X.base X.env.locals h' m) (N':News X.base X.env.locals h' (fS X.base s.heap X.env.locals)) :
  Inv X pins σ H { s with heap:=h',toks:=t' }:=by
 have k:=I.kept_led F' N'
 refine I.step (g':=s.gens) (d':=s.drawn) (ch:=[]) (λ_ z=>nomatch z) (λb o hb _ _ e _=>k b o hb e) (λb o hb _ _ e _=>⟨o.slots,k b o hb e⟩) (λ_ _ _ _ n=>n) (λb o _ e=>?_) (λ_ _ e=>e) (λ_ _ _ e=>e) (λb ps e=>⟨#[],by rw[e];simp⟩) (λm' hm'=>?_) (λb u e=>?_) I.bare
 ·by_cases hb:b=X.env.locals
  ·obtain ⟨o',_,_,ho,_⟩:=F'.ns
   exact ⟨o',by rw[hb];exact ho⟩
  ·exact ⟨o,k b o hb e⟩
 ·have em:m'=m:=by
   obtain ⟨o,es,ep,ho,hd,_,hf⟩:=hm
   obtain ⟨o2,es2,ep2,RH,hd2,_,hf2⟩:=hm'
   rw[ho] at RH;cases RH
   rw[hd] at hd2;cases hd2
   funext x
   rw[<- hf x,<- hf2 x]
  rw[em];exact F'.ns
 ·refine (I.hok b u e).stay (λc v hc q=>k c v ?_ q) (λ_ q=>q) λ_ _ q=>q
  rcases hc with z | z
  ·rw[z];exact aY e I.free
  ·exact aY z I.free
end
section
variable {prog:Ip} {w:Ji} {A:Js} {E:Ht->Hv->Prop} {s:Hv}
theorem sU {a:Addr} {vs:List Ht} {n:Nat} {R:PySem.Fin->Hv->Prop} (ho:s.heap.get? a=some (LQ "list" vs.toArray n)) (hf:vs.length<2)
  (h:R (.done (.ret .none)) { s with heap:=sortedHeap s.heap a vs vs.toArray }):IJ (IB prog w) A (Builtin.«list.sort» ⟨[.ref a],[]⟩) R E s:=by
 have hlt:a<s.heap.objs.size:=HM ho
 have few:vs.toArray.size<2:=by rw[HD];exact hf
 have hz:vs.length<=Ii:=by rw[IL];lia
 obtain ⟨e,he⟩:∃e,(s.heap.update a (Jt λ_=>#[])).get? a=some (LQ "list" #[] e):=⟨_,get?_update_seq ho (λ_=>#[])⟩
 rw[list_sort_plain]
 refine Hq (listItems_at ho rfl (Hq (MP ho rfl (Hq (NW he rfl (Hq (NL (Hq (MQ (Jc ?_))) (hsz:=hz))))) (by rw[HD];lia))))
 have VJ:(((s.heap.update a (Jt λ_=>#[])).push (LQ "tuple" vs.toArray 0)).push (LQ "list" #[] 0)).get? a=some (LQ "list" #[] e):=Hs _ (Hs _ he)
 dsimp only
 rw[if_pos few,if_pos few]
 refine Hq (Hw ?_);rw[StateT.run_pure];refine Hq (Hw ?_);dsimp only
 have em:Array.map (λx:Ht×Ht=>x.2) (HE (Ou general' (vs.toArray.zip vs.toArray) #[] 7 none))=vs.toArray:=by
  show Array.map (λx:Ht×Ht=>x.2) (vs.toArray.zip vs.toArray)=vs.toArray
  apply Array.ext <;> simp
 refine Hq (NW VJ rfl (Hq (MP VJ rfl ?_ (hsz2:=by rw[em,HD];lia))))
 rw[em]
 simp only[bne_self_eq_false,Jq,if_false]
 exact Hw h
theorem nL {l:Addr} {vs:List Ht} {Q:Ht->Hv->Prop} (hl:s.heap.IsList l vs.toArray) (hf:vs.length<2) (h:Q (.ref (s.heap.objs.size+1)) { s with heap:=sortedAll s.heap vs vs.toArray }):IJ (IB prog w) A (call (.builtin "sorted") [.ref l]) Q E s:=by
 have hz:vs.length<=Ii:=by rw[IL];lia
 have z1:((s.heap.push (LQ "list" #[] 0)).update s.heap.objs.size (Jt (·++vs.toArray))).objs.size=s.heap.objs.size+1:=by rw[Heap.size_update,size_push']
 have z2:(((s.heap.push (LQ "list" #[] 0)).update s.heap.objs.size (Jt (·++vs.toArray))).push (LQ "list" vs.toArray 0)).get? (s.heap.objs.size+1)=some (LQ "list" vs.toArray 0):=z1▸HP _ rfl
 have col:=λR r=>collect_list (prog:=prog) (w:=w) (A:=A.in1) (E:=E) (Q:=R) hl r hz
 refine Mm kind_sorted plain_sorted entry_sorted (args_sorted1 _) (Hq (m:=checkCount "sorted" 1 1 _) (Hw (Hq (m:=collect (.ref l)) (col _ (Hq (MQ ?_ (hsz:=hz)))))))
 dsimp only
 rw[z1]
 refine Hq (Jc (Jx slot_list_sort ⟨_,z2,rfl⟩ entry_list_sort (sU z2 hf ⟨_,rfl,Hw ⟨_,rfl,h⟩⟩) (args_list_sort _)))
end
section
variable {X:Cx} {pins:List (Addr×Obj)} {σ:St} {H:Hp} {s:Hv}
theorem Inv.trackN {D:Addr} {o:HO} (I:Inv X pins σ H s) (hn:H D=none) (hs:X.s₀.heap.get? D=none) (hL:D≠X.env.locals) (hc:∀x c,X.env.cells.lookup x=some c->c≠D) (hp:∀p∈X.pn++pins,p.1≠D)
  (new:bA X.prog X.w (upd H D o) s.heap D o):Inv X pins σ (upd H D o) s:=by
 have nb:∀b ob,X.s₀.heap.get? b=some ob->b≠D:=λb ob e z=>by subst z;rw[hs] at e;cases e
 have nt:∀b u,H b=some u->b≠D:=λb u e=>aY e hn
 refine ⟨I.ok,I.os,I.bare,⟨I.base.keep,I.base.slot,λb ob e n hx=>by rw[ay (nb b ob e)];exact I.base.free b ob e n hx,I.base.there,λb xs e=>?_,λb ob u e=>?_,λb ps e=>?_⟩,I.loc,I.cell,by rw[ay hL.symm];exact I.free,λx c e=>by rw[ay (hc x c e)];exact I.freeC x c e,λp VF=>?_,λb u e=>?_,I.len⟩
 ·have q:=I.base.tups b xs e
  rw[ay (nt b _ q)];exact q
 ·have q:=I.base.frzs b ob u e
  rw[ay (nt b _ q)];exact q
 ·obtain ⟨more,q⟩:=I.base.tbls b ps e
  exact ⟨more,by rw[ay (nt b _ q)];exact q⟩
 ·obtain ⟨a,b,c,d,e⟩:=I.pin p VF
  exact ⟨a,by rw[ay (hp p VF)];exact b,c,d,e⟩
 ·by_cases hb:b=D
  ·subst hb;rw[aw] at e;cases e;exact new
  ·rw[ay hb] at e
   exact (I.hok b u e).stay (λ_ _ _ q=>q) (λc q=>by rw[ay (nt c _ q)];exact q) λc xs q=>by rw[ay (nt c _ q)];exact q
theorem xb {prog:Ip} {w:Ji} {A:Js} {Q:Bool->Hv->Prop}:∀(ns ms:List Int) {us vs:List Ht} (i:Nat) {fin:Bool},Pm (ns.map V.int) us->Pm (ms.map V.int) vs->fin=decide (us.length<vs.length)->Q (HT.lexLt ns ms) s ->
  PySem.W.KatLex prog w A true fin Q (us.zip vs) i s:=by
 intro ns
 induction ns with
 | nil=>
  intro ms us vs i fin r r' hf h
  have r:Pm [] us:=r
  cases r
  cases ms with
  | nil=>
   have r':Pm [] vs:=r'
   cases r'
   subst hf
   exact h
  | cons m ms=>
   have r':Pm (V.int m::ms.map V.int) vs:=r'
   cases r' with
   | cons a b=>
    subst hf
    exact h
 | cons n ns ih=>
  intro ms us vs i fin r r' hf h
  have r:Pm (V.int n::ns.map V.int) us:=r
  cases r with
  | cons q1 t=>
   cases ms with
   | nil=>
    have r':Pm [] vs:=r'
    cases r'
    subst hf
    exact h
   | cons m ms=>
    have r':Pm (V.int m::ms.map V.int) vs:=r'
    cases r' with
    | cons q2 t'=>
     obtain ⟨tk,rfl⟩:=q1
     obtain ⟨tk',rfl⟩:=q2
     rw[HT.eF] at h
     rw[List.zip_cons_cons]
     refine PySem.W.kat_cons (SeqAt.EqAt.int_int n tk m tk' prog w _ _ ?_)
     by_cases e:n=m
     ·rw[if_pos e] at h
      rw[show (n==m)=true by simpa using e]
      refine PySem.W.kat_yes (ih ms (i+1) t t' ?_ h)
      rw[hf]
      simp
     ·rw[if_neg e] at h
      rw[show (n==m)=false by simpa using e]
      refine PySem.W.kat_no ?_
      by_cases hi:i=0
      ·subst hi
       exact oneLt_int h
      ·rw[show (true&&i==0)=false by simp[hi]]
       exact PySem.W.kat_one _ _ (lt_int (show PySem.W.BoolBack _ (Oi _) _ from h))
theorem sV {h:Heap} {p:Addr} {its:List Ht} (hne:ms≠[]) (r:Pm (ms.map V.int) its) (ht:IsTup h p its.toArray):∃(f:Ht) (o:Obj) (n:Nat),(∃i t,f=L1 i t)/\h.get? p=some o/\o.cls=.type "tuple"/\o.data=.seq its.toArray n/\its.toArray[0]?=some f:=by
 obtain ⟨o,ho,hc,n,hd⟩:=ht
 cases ms with
 | nil=>exact absurd rfl hne
 | cons m ms=>
  have r:Pm (V.int m::ms.map V.int) its:=r
  cases r with
  | cons r1 r2=>
   obtain ⟨t,rfl⟩:=r1
   exact ⟨_,o,n,⟨m,t,rfl⟩,ho,hc,hd,by simp⟩
theorem nM {h:Heap} (hT:∀a xs,Qq X.K H a xs->∃its:List Ht,Pm xs its/\IsTup h a its.toArray) {ps:List Addr} (ht:iJ X.K H ps mss):(∀ms∈mss,ms≠[]) ->
  ∃fs:List Ht,PySem.W.KatTups h (ps.map IG) fs/\fs.length=ps.length/\∀v∈fs,∃i t,v=L1 i t:=by
 unfold iJ at ht
 induction ht with
 | nil=>exact λ_=>⟨[],trivial,rfl,(λ_ h=>nomatch h)⟩
 | cons hp t ih=>
  intro hne
  obtain ⟨fs,h1,h2,h3⟩:=ih λm hm=>hne m (Ic _ hm)
  obtain ⟨its,r,tt⟩:=hT _ _ hp
  obtain ⟨f,o,n,hi,ho,hc,hd,h0⟩:=sV (hne _ Hx) r tt
  refine ⟨f::fs,PySem.W.KatTups.cons ho hc hd h0 h1,by simp[h2],λv hv=>?_⟩
  rcases List.mem_cons.mp hv with rfl | hv
  ·exact hi
  ·exact h3 v hv
theorem jL:∀{ps:List Addr} {us:List Ht},Pm (ps.map V.ref) us->us=ps.map IG
 | [],_,.nil=>rfl
 | p::ps,_,.cons r t=>by
  rw[jL t]
  cases r
  rfl
theorem jM:∀(ps:List Addr),Pm (ps.map V.ref) (ps.map IG)
 | []=>.nil
 | p::ps=>.cons rfl (jM ps)
end
end L2
end
section
namespace L2
open PySem PySem.Spec PyProof.Rows
theorem bA.there {P:Ip} {w:Ji} {h:Heap} {a:Addr} {o:HO} (x:bA P w H h a o):∃ob,h.get? a=some ob:=by
 cases o with
 | lst xs=>obtain ⟨_,_,_,_,e⟩:=x;exact ⟨_,e⟩
 | tup xs=>obtain ⟨_,_,_,ob,e,_⟩:=x;exact ⟨_,e⟩
 | dK kvs=>obtain ⟨_,_,_,_,o,_,_,e,_⟩:=x;exact ⟨_,e⟩
 | dT kvs=>obtain ⟨_,_,_,_,o,_,_,e,_⟩:=x;exact ⟨_,e⟩
 | set S n=>obtain ⟨o,_,_,_,e,_⟩:=x;exact ⟨_,e⟩
 | ins C dx fs=>obtain ⟨_,_,_,e,_⟩:=x;exact ⟨_,e⟩
 | own y=>exact x
 | xd fs=>obtain ⟨_,⟨_,_,_,e,_⟩,_⟩:=x;exact ⟨_,e⟩
 | rng lo hi=>obtain ⟨_,_,_,e⟩:=x;exact ⟨_,e⟩
 | frz ob u=>obtain ⟨e,_⟩:=x;exact ⟨_,e⟩
 | tbl ps=>obtain ⟨_,e,_⟩:=x;exact ⟨_,e⟩
 | met f y=>exact ⟨_,x⟩
 | ext φ=>exact x.2.1
end L2
end
section
namespace L2
open PySem PySem.Spec PyProof.Rows
def kC (scope Rl:JX) (N tg cs:List Str) (ix:List Nat):Prop:=
 (∀y∈scope.names,y.2≠.cell)/\(∀y∈scope.names,y.2=.local->scope.names.lookup y.1=some .local)/\(tg++cs).Nodup/\ix.map (λi=>N[i]?)=cs.map some /\
 (∀x∈cs,(x,Io)∈scope.names/\scope.names.lookup x=some .free)/\∀y∈scope.names,y.2=.free->Rl.names.lookup y.1=some .cell\/Rl.names.lookup y.1=some .free
instance (scope Rl:JX) (N tg cs:List Str) (ix:List Nat):Decidable (kC scope Rl N tg cs ix):=by unfold kC;infer_instance
theorem aI {X:Cx} {scope:JX} {tg cs:List Str} (Rl:JX) (N:List Str) (h:kC scope Rl N tg cs ix) (hk:scope.kind=.function:=by rfl) (ho:X.env.scope=Rl:=by rfl) (hN:X.N=N:=by rfl):aV X scope tg cs ix:=by
 obtain ⟨h1,h2,h3,h4,h5,h6⟩:=h
 exact ⟨hk,h1,h2,h3,by rw[hN];exact h4,h5,λx hx=>by rw[ho];exact h6 (x,.free) hx rfl⟩
end L2
end
section
namespace L2
open PySem PySem.Spec PyProof.Rows
section
variable {X:Cx} {pins:List (Addr×Obj)} {σ:St} {H H1:Hp} {s:Hv}
theorem me {elt target iter:Expr} {ifs:List Expr} {scope:JX} {pos QL py:Pos} {yy:Str} {ii:Nat} {tg cs:List Str} {wi:TI} {g:TG} {tc:TT} {te:TE} (Tf:X.N.Nodup) (Tg:X.N[ii]?=some yy) (Ti:Loc X.env.scope yy)
  (S:aV X scope tg cs ix) (Pv:X.calm=true) (kg:cG tg.length ix g)
  (hi:PI X target iter wi) (hg:∀C fp s H,PG (ak X scope (tg++cs) C fp s H) target g) (hc:∀C fp s H,SA (ak X scope (tg++cs) C fp s H) ifs tc) (he:∀C fp s H,PE (ak X scope (tg++cs) C fp s H) elt te)
  (SN:X.fn yy=true\/X.env.scope.names.lookup yy=some .local)
  (hsw:Ke (.ListComp elt [⟨target,iter,ifs,0⟩] scope pos) (some (.Name yy py)) QL.line X.env=pure true)
  (hs:∀x,HY iter X.env x=pure x:=by intro _;rfl):PS X (.Assign [.Name yy py] (.ListComp elt [⟨target,iter,ifs,0⟩] scope pos) QL) (dY (iL wi tg.length ix g tc te) (bB ii)):=by
 intro pins s σ H Dn I h
 rw[Nd _ _ _ _ hsw]
 refine Hq (Jd (Hq ?_))
 show IJ _ X.A (do let _ <- Oa (.ListComp elt [⟨target,iter,ifs,0⟩] scope pos) scope X.env _ (newList []) false (eval iter X.env) (some (LO (.Name yy py) X.env))) _ _ s
 refine Hq (Ih (jK (use:=some (LO (.Name yy py) X.env)) (Qc:=λ_ s'=>SP X pins Dn .next s') S Pv kg (Φ:=λ_=>True) (λ_ _ _ _ _=>trivial) hi hg (λC fp s H _=>hc C fp s H) (λC fp s H _=>he C fp s H) hs I h λD C H' s' v I' q fp z=>?_) (λ_ s' hq=>Hw (Hw hq)) λ_ _ e=>e)
 obtain ⟨f0,c1,_,c3,c4,c5⟩:=fp
 obtain ⟨m,hm⟩:=z
 show IJ _ X.A (LO (.Name yy py) X.env (.ref D)) _ _ s'
 refine Mw (gw (v:=.ref D) I' Tf Tg Ti rfl (λs'' W6 zq=>?_) SN)
 obtain ⟨a,sb,ha⟩:=zq
 have W7:C≠a:=by
  rcases ha with rfl | ha
  ·exact c1
  ·exact (c4 _ _ ha).symm
 exact ⟨m,hm.sameBut sb W7,λh' W8=>⟨_,_,W6.turned (t':=s''.toks) (it:=C) (λb o hb e=>(W8.2 b hb).trans e) f0 c1 c3 c4 c5,q⟩⟩
end
end L2
end
section
namespace VL
open PySem L2
def RZ:Option HO->Prop
 | some (.lst _)=>True
 | some (.ext _)=>True
 | _=>False
theorem RZ.ne {o:Option HO} (h:RZ o):o≠none:=by rintro rfl;exact h
abbrev AP:=Addr->Prop
abbrev FP:=Option Addr->Prop
structure Ew where
 ok:Ho->AP->FP->Hp->Addr->Prop
 mono:∀{K:Ho} {N N':AP} {F F':FP} {H H':Hp} {v:Addr},(∀a,N a->H a≠none->N' a/\H' a=H a)->(∀o,F o->F' o)->ok K N F H v->ok K N' F' H' v
 avoid:∀{K:Ho} {N N':AP} {F:FP} {H:Hp} {v:Addr},(∀a,¬N' a->RZ (H a))->(∀a,F (some a)->N' a)->ok K N F H v->ok K N' F H v
 both:∀{K:Ho} {N:AP} {F F':FP} {H:Hp} {v:Addr},(∀a,N a->RZ (H a)->F (some a)->F' (some a))->(F none->F' none)->ok K N F H v->ok K N F' H v
 reN:∀{K:Ho} {N N':AP} {F:FP} {H:Hp} {v:Addr},(∀a,RZ (H a)->N' a)->ok K N F H v->ok K N' F H v
inductive D where
 | int (i:Int) | bl (b:Bool) | non | str (x:Str) | ty (n:String) | tup (ds:List D) | lst (ds:List D) | dic (ks:List (List Int)) (vs:List D) | exc (c:Ht) | dib (VM:List D) (vs:List D) | oth (k:Ew)
def kT (ms:List Int):D:=.tup (ms.map .int)
def G3:D->Int
 | .int i=>i
 | .bl b=>if b then 1 else 0
 | _=>0
def BJ:D->Bool
 | .int _=>true
 | .bl _=>true
 | _=>false
def kN:D->List Int
 | .tup ds=>ds.map G3
 | _=>[]
def G4:D->Bool
 | .tup ds=>ds.all BJ
 | _=>false
def Any:AP:=λ_=>True
def Pz:FP:=λ_=>True
def Fr (H0:Hp):FP:=λo=>∃a,o=some a/\H0 a=none
mutual
inductive Rep (K:Ho) (N:AP) (F:FP) (H:Hp):V->D->Prop where
 | int (i:Int):Rep K N F H (.int i) (.int i)
 | bl (b:Bool):Rep K N F H (.bl b) (.bl b)
 | non:Rep K N F H .non .non
 | str (x:Str):Rep K N F H (.str x) (.str x)
 | ty (x:String):Rep K N F H (.ty x) (.ty x)
 | tup {a:Addr} {vs:List V} {ds:List D} (n:N a) (h:Rd H a (.tup vs)) (r:Pi K N F H vs ds):Rep K N F H (.ref a) (.tup ds)
 | tupK {a:Addr} {vs:List V} {ds:List D} (h:Qq K (λ_=>none) a vs) (r:Pi K N F H vs ds):Rep K N F H (.ref a) (.tup ds)
 | lst {a:Addr} {vs:List V} {ds:List D} (n:N a) (f:F (some a)) (h:H a=some (.lst vs)) (r:Pi K N F H vs ds):Rep K N F H (.ref a) (.lst ds)
 | lstF {a:Addr} {vs:List V} {ds:List D} {o:Obj} (n:N a) (f:F none) (h:H a=some (.frz o (.lst vs))) (r:Pi K N F H vs ds):Rep K N F H (.ref a) (.lst ds)
 | lstK {a:Addr} {vs:List V} {ds:List D} (f:F none) (h:Qz K (λ_=>none) a vs) (r:Pi K N F H vs ds):Rep K N F H (.ref a) (.lst ds)
 | dic {a:Addr} {ob:Obj} {es:List (List Int×Addr×V)} {ks:List (List Int)} {ds:List D} (n:N a) (f:F (some a)) (h:H a=some (bM a ob es)) (e:es.map (·.1)=ks) (rk:Pi K N F H (es.map λx=>.ref x.2.1) (ks.map kT)) (r:Pi K N F H (es.map (·.2.2)) ds):Rep K N F H (.ref a) (.dic ks ds)
 | exc {x:Addr} {c:Ht} {o:Obj} (n:N x) (h:H x=some (.frz o (.own x))) (e:o.cls=c):Rep K N F H (.ref x) (.exc c)
 | dib {a:Addr} {ob:Obj} {es:List (List Int×Addr×V)} {VM:List D} {ds:List D} (n:N a) (f:F (some a)) (h:H a=some (bM a ob es)) (e:es.map (·.1)=VM.map kN) (g:VM.all G4=true) (rk:Pi K N F H (es.map λx=>.ref x.2.1) VM) (r:Pi K N F H (es.map (·.2.2)) ds):Rep K N F H (.ref a) (.dib VM ds)
 | oth {a:Addr} {k:Ew} (h:k.ok K N F H a):Rep K N F H (.ref a) (.oth k)
inductive Pi (K:Ho) (N:AP) (F:FP) (H:Hp):List V->List D->Prop where
 | nil:Pi K N F H [] []
 | cons {v:V} {d:D} {vs:List V} {ds:List D} (h:Rep K N F H v d) (t:Pi K N F H vs ds):Pi K N F H (v::vs) (d::ds)
end
section
variable {K:Ho} {N N':AP} {F F':FP} {H H' H0:Hp}
theorem Rd.there {a:Addr} {u:HO} (h:Rd H a u):H a≠none:=by rcases h with h | ⟨o,h⟩ <;> simp[h]
theorem Rd.keep {a:Addr} {u:HO} (h:Rd H a u) (e:H' a=H a):Rd H' a u:=by
 rcases h with h | ⟨o,h⟩
 ·exact .inl (e.trans h)
 ·exact .inr ⟨o,e.trans h⟩
mutual
theorem Rep.mono (hN:∀a,N a->H a≠none->N' a/\H' a=H a) (hF:∀o,F o->F' o) {v:V} {d:D}:Rep K N F H v d->Rep K N' F' H' v d
 | .int i=>.int i
 | .bl i=>.bl i
 | .non=>.non
 | .str i=>.str i
 | .ty i=>.ty i
 | .tup n h r=>.tup (hN _ n (Rd.there h)).1 (Rd.keep h (hN _ n (Rd.there h)).2) (Pi.mono hN hF r)
 | .tupK h r=>.tupK h (Pi.mono hN hF r)
 | .lst n f h r=>.lst (hN _ n (by simp[h])).1 (hF _ f) ((hN _ n (by simp[h])).2.trans h) (Pi.mono hN hF r)
 | .lstF n f h r=>.lstF (hN _ n (by simp[h])).1 (hF _ f) ((hN _ n (by simp[h])).2.trans h) (Pi.mono hN hF r)
 | .lstK f h r=>.lstK (hF _ f) h (Pi.mono hN hF r)
 | .dic n f h e rk r=>.dic (hN _ n (by simp[h])).1 (hF _ f) ((hN _ n (by simp[h])).2.trans h) e (Pi.mono hN hF rk) (Pi.mono hN hF r)
 | .exc n h e=>.exc (hN _ n (by simp[h])).1 ((hN _ n (by simp[h])).2.trans h) e
 | .dib n f h e g rk r=>.dib (hN _ n (by simp[h])).1 (hF _ f) ((hN _ n (by simp[h])).2.trans h) e g (Pi.mono hN hF rk) (Pi.mono hN hF r)
 | .oth (k:=k) h=>.oth (k.mono hN hF h)
theorem Pi.mono (hN:∀a,N a->H a≠none->N' a/\H' a=H a) (hF:∀o,F o->F' o) {vs:List V} {ds:List D}:Pi K N F H vs ds->Pi K N' F' H' vs ds
 | .nil=>.nil
 | .cons h t=>.cons (Rep.mono hN hF h) (Pi.mono hN hF t)
end
theorem Rep.any {d:D} (h:Rep K N F H v d):Rep K Any Pz H v d:=h.mono (λ_ _ _=>⟨trivial,rfl⟩) (λ_ _=>trivial)
theorem Pi.any {ds:List D} (h:Pi K N F H vs ds):Pi K Any Pz H vs ds:=h.mono (λ_ _ _=>⟨trivial,rfl⟩) (λ_ _=>trivial)
mutual
theorem Rep.avoid (h1:∀a,¬N' a->RZ (H a)) (h2:∀a,F (some a)->N' a) {v:V} {d:D}:Rep K N F H v d->Rep K N' F H v d
 | .int i=>.int i
 | .bl i=>.bl i
 | .non=>.non
 | .str i=>.str i
 | .ty i=>.ty i
 | .tup (a:=a) n h r=>.tup (IT λz=>by
   have e:=h1 a z
   rcases h with h | ⟨o,h⟩ <;> rw[h] at e <;> exact e) h (Pi.avoid h1 h2 r)
 | .tupK h r=>.tupK h (Pi.avoid h1 h2 r)
 | .lst n f h r=>.lst (h2 _ f) f h (Pi.avoid h1 h2 r)
 | .lstF (a:=a) n f h r=>.lstF (IT λz=>by
   have e:=h1 a z
   rw[h] at e;exact e) f h (Pi.avoid h1 h2 r)
 | .lstK f h r=>.lstK f h (Pi.avoid h1 h2 r)
 | .dic n f h e rk r=>.dic (h2 _ f) f h e (Pi.avoid h1 h2 rk) (Pi.avoid h1 h2 r)
 | .exc (x:=a) n h e=>.exc (IT λz=>by
   have e:=h1 a z
   rw[h] at e;exact e) h e
 | .dib n f h e g rk r=>.dib (h2 _ f) f h e g (Pi.avoid h1 h2 rk) (Pi.avoid h1 h2 r)
 | .oth (k:=k) h=>.oth (k.avoid h1 h2 h)
theorem Pi.avoid (h1:∀a,¬N' a->RZ (H a)) (h2:∀a,F (some a)->N' a) {vs:List V} {ds:List D}:Pi K N F H vs ds->Pi K N' F H vs ds
 | .nil=>.nil
 | .cons h t=>.cons (Rep.avoid h1 h2 h) (Pi.avoid h1 h2 t)
end
mutual
def flat:D->Bool
 | .lst _=>false
 | .dic _ _=>false
 | .dib _ _=>false
 | .oth _=>false
 | .tup ds=>flats ds
 | _=>true
def flats:List D->Bool
 | []=>true
 | d::r=>flat d&&flats r
end
theorem gY:∀ms:List Int,flats (ms.map D.int)=true
 | []=>rfl
 | _::r=>by simp[flats,flat,gY r]
theorem f7:∀ks:List (List Int),flats (ks.map kT)=true
 | []=>rfl
 | _::r=>by simp[flats,kT,flat,gY,f7 r]
mutual
theorem Rep.flat {v:V} {d:D}:Rep K N F H v d->VL.flat d=true->Rep K N F' H v d:=λhh ee=>by
 cases hh with
 | int i=>exact .int i
 | bl i=>exact .bl i
 | non=>exact .non
 | str i=>exact .str i
 | ty i=>exact .ty i
 | tup n h r=>have e:=ee;exact .tup n h (Pi.flat r (by simpa [VL.flat] using e))
 | tupK h r=>have e:=ee;exact .tupK h (Pi.flat r (by simpa [VL.flat] using e))
 | lst n f h r=>have e:=ee;simp[VL.flat] at e
 | lstF n f h r=>have e:=ee;simp[VL.flat] at e
 | lstK f h r=>have e:=ee;simp[VL.flat] at e
 | dic n f h _ _ r=>have e:=ee;simp[VL.flat] at e
 | exc n h e0=>exact .exc n h e0
 | dib n f h _ _ _ r=>have e:=ee;simp[VL.flat] at e
 | oth h=>have e:=ee;simp[VL.flat] at e
theorem Pi.flat {vs:List V} {ds:List D}:Pi K N F H vs ds->flats ds=true->Pi K N F' H vs ds:=λhh ee=>by
 cases hh with
 | nil=>exact .nil
 | cons h t=>
  have e:=ee
  simp only[flats,Ik] at e
  exact .cons (Rep.flat h e.1) (Pi.flat t e.2)
end
theorem Pi.length:∀{vs:List V} {ds:List D},Pi K N F H vs ds->vs.length=ds.length
 | _,_,.nil=>rfl
 | _,_,.cons _ t=>by simp[Pi.length t]
theorem Pi.get:∀{vs:List V} {ds:List D} {i:Nat} {v:V},Pi K N F H vs ds->vs[i]?=some v->∃d,ds[i]?=some d/\Rep K N F H v d
 | _,_,0,_,.cons h _,e=>by simp at e;subst e;exact ⟨_,rfl,h⟩
 | _,_,i+1,v,.cons _ t,e=>by
  obtain ⟨d,h1,h2⟩:=Pi.get (i:=i) (v:=v) t (by simpa using e)
  exact ⟨d,by simpa using h1,h2⟩
 | _,_,_,_,.nil,e=>by simp at e
theorem Pi.getD:∀{vs:List V} {ds:List D} {i:Nat} {d:D},Pi K N F H vs ds->ds[i]?=some d->∃v,vs[i]?=some v/\Rep K N F H v d
 | _,_,0,_,.cons h _,e=>by simp at e;subst e;exact ⟨_,rfl,h⟩
 | _,_,i+1,v,.cons _ t,e=>by
  obtain ⟨d,h1,h2⟩:=Pi.getD (i:=i) (d:=v) t (by simpa using e)
  exact ⟨d,by simpa using h1,h2⟩
 | _,_,_,_,.nil,e=>by simp at e
theorem Pi.append:∀{vs ws:List V} {ds es:List D},Pi K N F H vs ds->Pi K N F H ws es->Pi K N F H (vs++ws) (ds++es)
 | _,_,_,_,.nil,s=>s
 | _,_,_,_,.cons h t,s=>.cons h (Pi.append t s)
theorem Pi.set {d:D} (h:Rep K N F H v d):∀{vs:List V} {ds:List D} (i:Nat),Pi K N F H vs ds->Pi K N F H (vs.set i v) (ds.set i d)
 | _,_,_,.nil=>by simpa using .nil
 | _,_,0,.cons _ t=>by simpa using .cons h t
 | _,_,i+1,.cons q t=>by simpa using .cons q (Pi.set h i t)
theorem Pi.ints:∀{ns:List Int},Pi K N F H (ns.map V.int) (ns.map D.int)
 | []=>.nil
 | _::r=>.cons (.int _) (Pi.ints (ns:=r))
theorem Pi.toInts:∀{vs:List V} {ns:List Int},Pi K N F H vs (ns.map D.int)->vs=ns.map V.int
 | _,[],.nil=>rfl
 | _,n::ns,.cons h t=>by cases h;rw[Pi.toInts t];rfl
theorem f9 {a:Addr} (h:Qq K (λ_=>none) a vs):Qq K H a vs:=by
 rcases h with (h | ⟨o,h⟩) | h
 ·cases h
 ·cases h
 ·exact .inr h
theorem iN {a:Addr} (h:Qz K (λ_=>none) a vs):Qz K H a vs:=by
 rcases h with (h | ⟨o,h⟩) | h
 ·cases h
 ·cases h
 ·exact .inr h
theorem Rep.sqT {ds:List D} (h:Rep K N F H v (.tup ds)):∃a vs,v=.ref a/\Qq K H a vs/\Pi K N F H vs ds:=by
 cases h with
 | tup n h r=>exact ⟨_,_,rfl,.inl h,r⟩
 | tupK h r=>exact ⟨_,_,rfl,f9 h,r⟩
theorem Rep.sqL {ds:List D} (h:Rep K N F H v (.lst ds)):∃a vs,v=.ref a/\Qz K H a vs/\Pi K N F H vs ds:=by
 cases h with
 | lst n f h r=>exact ⟨_,_,rfl,.inl (.inl h),r⟩
 | lstF n f h r=>exact ⟨_,_,rfl,.inl (.inr ⟨_,h⟩),r⟩
 | lstK f h r=>exact ⟨_,_,rfl,iN h,r⟩
theorem Rep.of_sqL {a:Addr} {ds:List D} (h:Qz K H a vs) (n:N a) (f:∀o,F o) (r:Pi K N F H vs ds):Rep K N F H (.ref a) (.lst ds):=by
 rcases h with (h | ⟨o,h⟩) | h
 ·exact .lst n (f _) h r
 ·exact .lstF n (f _) h r
 ·exact .lstK (f _) (.inr h) r
end
structure G5 where
 ok:Ho->Hp->AP->Hp->Addr->Prop
 ism:∀{K:Ho} {H0:Hp} {N:AP} {H:Hp} {a:Addr},ok K H0 N H a->RZ (H a)
 mono:∀{K:Ho} {H0:Hp} {N N':AP} {H H':Hp} {a:Addr},(∀b,N b->H b≠none->N' b/\H' b=H b)->H' a=H a->ok K H0 N H a->ok K H0 N' H' a
inductive Sl where
 | no | val (d:D) | fre (d:D) | own (ds:List D) | pen (ad:Option Addr) (ns:List Int) | odi (ks:List (List Int)) (vs:List D) | obj (k:G5)
def Sl.mut:Sl->Bool
 | .own _=>true
 | .pen _ _=>true
 | .odi _ _=>true
 | .obj _=>true
 | _=>false
def Mo (Z:AP) (σ:St) (S:List Sl) (a:Addr):Prop:=(∃(i:Nat) (s:Sl),S[i]?=some s/\s.mut=true/\σ[i]?=some (some (V.ref a)))\/Z a
abbrev NM (Z:AP) (σ:St) (S:List Sl):AP:=λa=>¬Mo Z σ S a
def qF (K:Ho) (H0:Hp) (N:AP) (H:Hp) (o:Option V):Sl->Prop
 | .no=>True
 | .val d=>∃v,o=some v/\Rep K N Pz H v d
 | .fre d=>∃v,o=some v/\Rep K N (Fr H0) H v d
 | .own ds=>∃a vs,o=some (.ref a)/\H a=some (.lst vs)/\H0 a=none/\Pi K N (Fr H0) H vs ds
 | .pen ad ns=>∃a,o=some (.ref a)/\(∀b,ad=some b->a=b)/\H a=some (.lst (ns.map .int))
 | .odi ks ds=>∃a es,o=some (.ref a)/\(∃ob,H a=some (bM a ob es))/\H0 a=none/\(es.map (·.1)=ks/\Pi K N Pz H (es.map λx=>V.ref x.2.1) (ks.map kT))/\Pi K N (Fr H0) H (es.map (·.2.2)) ds
 | .obj k=>∃a,o=some (.ref a)/\H0 a=none/\k.ok K H0 N H a
structure OK (K:Ho) (H0:Hp) (Z:AP) (σ:St) (H:Hp) (S:List Sl):Prop where
 len:σ.length=S.length
 at_:∀(i:Nat) (o:Option V) (s:Sl),σ[i]?=some o->S[i]?=some s->qF K H0 (NM Z σ S) H o s
 inj:∀(i j:Nat) (a:Addr) (s t:Sl),S[i]?=some s->S[j]?=some t->s.mut=true->t.mut=true->σ[i]?=some (some (V.ref a))->σ[j]?=some (some (V.ref a))->i=j
 dom:∀a,H a=none->H0 a=none
 zl:∀a,Z a->RZ (H a)
 nz:∀(i:Nat) (s:Sl) (a:Addr),S[i]?=some s->s.mut=true->σ[i]?=some (some (V.ref a))->¬Z a
def Step (Z:AP) (σ:St) (S:List Sl) (H:Hp) (σ':St) (S':List Sl) (H':Hp):Prop:=(∀a,NM Z σ S a->H a≠none->H' a=H a/\NM Z σ' S' a)/\(∀a,H' a=none->H a=none)/\∀a,Z a->H a≠none->H' a=H a
section
variable {K:Ho} {N N':AP} {F F':FP} {H H' Wo H0:Hp} {Z:AP} {σ σ' Wp:St} {S S' Sn:List Sl}
theorem Step.refl:Step Z σ S H σ S H:=⟨λ_ n _=>⟨rfl,n⟩,λ_ h=>h,λ_ _ _=>rfl⟩
theorem Step.trans (a:Step Z σ S H σ' S' H') (b:Step Z σ' S' H' Wp Sn Wo):Step Z σ S H Wp Sn Wo:=
 ⟨λx n h=>by
  obtain ⟨e1,n1⟩:=a.1 x n h
  obtain ⟨e2,n2⟩:=b.1 x n1 (by rw[e1];exact h)
  exact ⟨e2.trans e1,n2⟩,λx h=>a.2.1 x (b.2.1 x h),λx z h=>by
  have e1:=a.2.2 x z h
  exact (b.2.2 x z (by rw[e1];exact h)).trans e1⟩
theorem Rep.step {d:D} (h:Rep K (NM Z σ S) F H v d) (st:Step Z σ S H σ' S' H'):Rep K (NM Z σ' S') F H' v d:=h.mono (λa n e=>⟨(st.1 a n e).2,(st.1 a n e).1⟩) λ_ x=>x
theorem Pi.step {ds:List D} (h:Pi K (NM Z σ S) F H vs ds) (st:Step Z σ S H σ' S' H'):Pi K (NM Z σ' S') F H' vs ds:=h.mono (λa n e=>⟨(st.1 a n e).2,(st.1 a n e).1⟩) λ_ x=>x
theorem Rep.stp {d:D} (h:Rep K (NM Z σ S) F H v d) (st:∀a,NM Z σ S a->H a≠none->H' a=H a/\NM Z σ' S' a):Rep K (NM Z σ' S') F H' v d:=h.mono (λa n e=>⟨(st a n e).2,(st a n e).1⟩) λ_ x=>x
theorem Pi.stp {ds:List D} (h:Pi K (NM Z σ S) F H vs ds) (st:∀a,NM Z σ S a->H a≠none->H' a=H a/\NM Z σ' S' a):Pi K (NM Z σ' S') F H' vs ds:=h.mono (λa n e=>⟨(st a n e).2,(st a n e).1⟩) λ_ x=>x
theorem OK.mo (k:OK K H0 Z σ H S) {a:Addr} (h:Mo Z σ S a):RZ (H a):=by
 rcases h with ⟨i,s,e1,e2,e3⟩ | h
 case inr=>exact k.zl a h
 have q:=k.at_ i _ s e3 e1
 cases s with
 | no=>cases e2
 | val d=>cases e2
 | fre d=>cases e2
 | own ds=>obtain ⟨b,vs,h1,h2,_⟩:=q;cases h1;rw[h2];trivial
 | pen ad ns=>obtain ⟨b,h1,_,h2⟩:=q;cases h1;rw[h2];trivial
 | odi ks ds=>obtain ⟨b,kvs,h1,⟨ob,h2⟩,_⟩:=q;cases h1;rw[h2];trivial
 | obj k=>obtain ⟨b,h1,_,h2⟩:=q;cases h1;exact k.ism h2
theorem OK.grow (k:OK K H0 Z σ H S) (h:∀a,H a≠none->H' a=H a):OK K H0 Z σ H' S where
 len:=k.len
 inj:=k.inj
 nz:=k.nz
 zl:=λa z=>by
  have e:=k.zl a z
  rw[h a e.ne];exact e
 dom:=λa e=>k.dom a (IT λz=>by rw[h a z] at e;exact z e)
 at_:=λi o s e1 e2=>by
  have q:=k.at_ i o s e1 e2
  have hm:∀a,NM Z σ S a->H a≠none->NM Z σ S a/\H' a=H a:=λa n e=>⟨n,h a e⟩
  cases s with
  | no=>trivial
  | val d=>obtain ⟨v,e,r⟩:=q;exact ⟨v,e,r.mono hm λ_ x=>x⟩
  | fre d=>obtain ⟨v,e,r⟩:=q;exact ⟨v,e,r.mono hm λ_ x=>x⟩
  | own ds=>obtain ⟨a,vs,e,e',e0,r⟩:=q;exact ⟨a,vs,e,by rw[h a (by simp[e'])];exact e',e0,r.mono hm λ_ x=>x⟩
  | pen ad ns=>obtain ⟨a,e,e1,e'⟩:=q;exact ⟨a,e,e1,by rw[h a (by simp[e'])];exact e'⟩
  | odi ks ds=>obtain ⟨a,vs,e,⟨ob,e'⟩,e0,ek,r⟩:=q;exact ⟨a,vs,e,⟨ob,by rw[h a (by simp[e'])];exact e'⟩,e0,⟨ek.1,ek.2.mono hm λ_ x=>x⟩,r.mono hm λ_ x=>x⟩
  | obj k=>obtain ⟨a,e,e0,r⟩:=q;exact ⟨a,e,e0,k.mono hm (h a (k.ism r).ne) r⟩
theorem Step.grow (h:∀a,H a≠none->H' a=H a):Step Z σ S H σ S H':=⟨λa n e=>⟨h a e,n⟩,λa e=>IT λz=>by rw[h a z] at e;exact z e,λa _ e=>h a e⟩
theorem aG {p:Addr} {o:HO} (hp:H p=none):∀a,H a≠none->upd H p o a=H a:=λa e=>ay λz=>e (by rw[z];exact hp)
end
inductive VR where
 | d (x:D) | own (i:Nat)
def RK:Option Sl->Option D
 | some (.own ds)=>some (.lst ds)
 | some (.pen _ ns)=>some (.lst (ns.map .int))
 | some (.odi ks vs)=>some (.dic ks vs)
 | _=>none
def get (S:List Sl):VR->Option D
 | .d x=>some x
 | .own i=>RK S[i]?
def eV (K:Ho) (F:FP) (Z:AP) (σ:St) (S:List Sl) (H:Hp) (v:V):VR->Prop
 | .d x=>Rep K (NM Z σ S) F H v x
 | .own i=>σ[i]?=some (some v)
section
variable {K:Ho} {N N':AP} {F F':FP} {H H' Wo H0:Hp} {Z:AP} {σ σ' Wp:St} {S S' Sn:List Sl}
theorem eV.step {r:VR} (h:eV K F Z σ S H v r) (st:Step Z σ S H σ S' H'):eV K F Z σ S' H' v r:=by
 cases r with
 | d x=>exact Rep.step h st
 | own i=>exact h
theorem eV.get {r:VR} {x:D} (h:eV K F Z σ S H v r) (k:OK K H0 Z σ H S) (e:get S r=some x):Rep K Any Pz H v x:=by
 cases r with
 | d y=>cases e;exact Rep.any h
 | own i=>
  have h:σ[i]?=some (some v):=h
  have e:RK S[i]?=some x:=e
  cases es:S[i]? with
  | none=>rw[es] at e;cases e
  | some s=>
   rw[es] at e
   cases s with
   | no=>cases e
   | val d=>cases e
   | fre d=>cases e
   | own ds=>
    cases e
    obtain ⟨a,vs,h1,h2,h3,h4⟩:=k.at_ i _ _ h es
    cases h1
    exact .lst trivial trivial h2 h4.any
   | pen ad ns=>
    cases e
    obtain ⟨a,h1,_,h2⟩:=k.at_ i _ _ h es
    cases h1
    exact .lst trivial trivial h2 Pi.ints
   | odi ks ds=>
    cases e
    obtain ⟨a,kvs,h1,⟨ob,h2⟩,h3,h4,h5⟩:=k.at_ i _ _ h es
    cases h1
    exact .dic trivial trivial h2 h4.1 h4.2.any h5.any
   | obj k=>cases e
end
abbrev VT:=List Sl->(VR->List Sl->Prop)->Prop
abbrev Qo:=List Sl->(Bool->List Sl->Prop)->Prop
abbrev Qv:=List Sl->(List VR->List Sl->Prop)->Prop
abbrev PQ:=List Sl->(List D->List Sl->Prop)->Prop
def FM (H0:Hp) (m:Bool):FP:=λo=>m=true->Fr H0 o
def Qm (K:Ho) (m:Bool) (te:TE) (t:VT):Prop:=∀H0 Z σ H S Q C,OK K H0 Z σ H S->t S Q->(∀v H' r S',OK K H0 Z σ H' S'->Step Z σ S H σ S' H'->eV K (FM H0 m) Z σ S' H' v r->Q r S'->C v H')->te σ H C
def Rg (K:Ho) (te:TT) (t:Qo):Prop:=∀H0 Z σ H S Q C,OK K H0 Z σ H S->t S Q->(∀b H' S',OK K H0 Z σ H' S'->Step Z σ S H σ S' H'->Q b S'->C b H')->te σ H C
inductive de (K:Ho) (F:FP) (Z:AP) (σ:St) (S:List Sl) (H:Hp):List V->List VR->Prop where
 | nil:de K F Z σ S H [] []
 | cons {v:V} {r:VR} {vs:List V} {rs:List VR} (h:eV K F Z σ S H v r) (t:de K F Z σ S H vs rs):de K F Z σ S H (v::vs) (r::rs)
def gets (S:List Sl):List VR->Option (List D)
 | []=>some []
 | r::rs=>match get S r,gets S rs with
  | some d,some ds=>some (d::ds)
  | _,_=>none
def BK (K:Ho) (m:Bool) (te:TA) (t:Qv):Prop:=∀H0 Z σ H S Q C,OK K H0 Z σ H S->t S Q->(∀vs H' rs S',OK K H0 Z σ H' S'->Step Z σ S H σ S' H'->de K (FM H0 m) Z σ S' H' vs rs->Q rs S'->C vs H')->te σ H C
def Tj (K:Ho) (te:TE) (t:PQ):Prop:=∀H0 Z σ H S Q C,OK K H0 Z σ H S->t S Q->(∀a vs ds H1 H' S',OK K H0 Z σ H1 S'->Step Z σ S H σ S' H1->H1 a=none->(∀b,H1 b≠none->H' b=H1 b)->H' a=some (.lst vs) ->
 Pi K (λb=>NM Z σ S' b/\b≠a) (Fr H0) H' vs ds->Q ds S'->C (.ref a) H')->te σ H C
structure VE (K:Ho) (X:Cx) (m:Bool) (e:Expr) (te:TE) (t:VT):Prop where
 pe:PE X e te
 snd:Qm K m te t
structure R9 (K:Ho) (X:Cx) (e:Expr) (te:TT) (t:Qo):Prop where
 pe:PT X e te
 snd:Rg K te t
structure Wq (K:Ho) (X:Cx) (e:Expr) (te:TT) (t:Qo):Prop where
 pe:PW X e te
 snd:Rg K te t
structure VA (K:Ho) (X:Cx) (m:Bool) (es:List Expr) (te:TA) (t:Qv):Prop where
 pe:PA X es te
 snd:BK K m te t
structure VN (K:Ho) (X:Cx) (e:Expr) (te:TE) (t:PQ):Prop where
 pe:PE X e te
 snd:Tj K te t
section
variable {K:Ho} {N N':AP} {F F':FP} {H H' Wo H0:Hp} {Z:AP} {σ σ' Wp:St} {S S' Sn:List Sl}
theorem de.gets {rs:List VR} {ds:List D} (h:de K F Z σ S H vs rs) (k:OK K H0 Z σ H S) (e:gets S rs=some ds):Pi K Any Pz H vs ds:=by
 induction h generalizing ds with
 | nil=>cases e;exact .nil
 | cons h t ih=>
  unfold VL.gets at e
  split at e
  ·rename_i d es h1 h2
   cases e
   exact .cons (h.get k h1) (ih h2)
  ·cases e
end
end VL
end
variable {kvs:List (List Int×VL.D)} {ds:List VL.D} {S:List VL.Sl} {d:VL.D} {r:VL.VR} {F:VL.FP} {Z:VL.AP} {H0:L2.Hp} {rs:List VL.VR} {q:VL.D->Prop} {p:List VL.D->(VL.D->Prop)->Prop}
section
namespace VL
open PySem L2
section
variable {K:Ho} {X:Cx} {m:Bool} {e a b c:Expr} {ta tb tc te:TE} {va vb vc:VT} {pos:Pos}
theorem FM.any {a:Option Addr}:FM H0 false a:=λz=>nomatch z
def vC (d:D):VT:=λS Q=>Q (.d d) S
theorem af {i j}:VE K X m (.Constant (.int i) j pos) (tC (.int i)) (vC (.int i)):=⟨nu,λ_ _ _ _ _ _ _ k h q=>q _ _ (.d (.int i)) _ k .refl (Rep.int i) h⟩
theorem aX {i j}:VE K X m (.Constant (.bool i) j pos) (tC (.bl i)) (vC (.bl i)):=⟨Ed,λ_ _ _ _ _ _ _ k h q=>q _ _ (.d (.bl i)) _ k .refl (Rep.bl i) h⟩
theorem BL {j}:VE K X m (.Constant .none j pos) (tC .non) (vC .non):=⟨A6,λ_ _ _ _ _ _ _ k h q=>q _ _ (.d .non) _ k .refl Rep.non h⟩
theorem iO (h:PE X e (tC v)) (r:∀N H,Rep K N Pz H v d):VE K X false e (tC v) (vC d):=⟨h,λ_ _ _ _ _ _ _ k h q=>q _ _ (.d d) _ k .refl (show Rep K _ _ _ v d from (r _ _).mono (λ_ n _=>⟨n,rfl⟩) (λ_ _=>FM.any)) h⟩
def W9 (i:Nat):Option Sl->Option VR
 | some (.val d)=>some (.d d)
 | some (.fre d)=>some (.d d)
 | some (.own _)=>some (.own i)
 | some (.pen _ _)=>some (.own i)
 | some (.odi _ _)=>some (.own i)
 | some (.obj _)=>some (.own i)
 | _=>none
def sW (i:Nat):VT:=λS Q=>∃r,W9 i S[i]?=some r/\Q r S
theorem OK.var {H0 H:Hp} (k:OK K H0 Z σ H S) {i:Nat} (h:W9 i S[i]?=some r):∃v,σ[i]?=some (some v)/\eV K (FM H0 false) Z σ S H v r:=by
 have hl:=k.len
 cases es:S[i]? with
 | none=>rw[es] at h;cases h
 | some s=>
  have hi:i < σ.length:=by rw[hl];exact (List.getElem?_eq_some_iff.mp es).1
  have q:=k.at_ i _ s (Hu hi) es
  rw[es] at h
  cases s with
  | no=>cases h
  | val d=>obtain ⟨v,e,r'⟩:=q;cases h;exact ⟨v,by rw[Hu hi,e],r'.mono (λ_ n _=>⟨n,rfl⟩) λ_ _=>FM.any⟩
  | fre d=>obtain ⟨v,e,r'⟩:=q;cases h;exact ⟨v,by rw[Hu hi,e],r'.mono (λ_ n _=>⟨n,rfl⟩) λ_ x _=>x⟩
  | own ds=>obtain ⟨a,vs,e,_⟩:=q;cases h;exact ⟨.ref a,by rw[Hu hi,e],by show σ[i]?=_;rw[Hu hi,e]⟩
  | pen ad ds=>obtain ⟨a,e,_⟩:=q;cases h;exact ⟨.ref a,by rw[Hu hi,e],by show σ[i]?=_;rw[Hu hi,e]⟩
  | odi ks ds=>obtain ⟨a,_,e,_⟩:=q;cases h;exact ⟨.ref a,by rw[Hu hi,e],by show σ[i]?=_;rw[Hu hi,e]⟩
  | obj k=>obtain ⟨a,e,_⟩:=q;cases h;exact ⟨.ref a,by rw[Hu hi,e],by show σ[i]?=_;rw[Hu hi,e]⟩
theorem ae (i:Nat) (h:PE X e (cF i)):VE K X false e (cF i) (sW i):=⟨h,λH0 Z σ H S Q C k Px hc=>by
 obtain ⟨r,h,q⟩:=Px
 obtain ⟨v,e,rr⟩:=k.var h
 exact ⟨v,e,hc _ _ _ _ k .refl rr q⟩⟩
def sX (t:VT):VT:=λS Q=>t S λr S'=>(match r with | .d d=>flat d=true | .own _=>True)/\Q r S'
theorem aL (h:VE K X false e te va):VE K X m e te (sX va):=⟨h.pe,λH0 Z σ H S Q C k t hc=>h.snd H0 Z σ H S _ C k t λv H' r S' k' st rr ⟨f,q⟩=>hc v H' r S' k' st (by
 cases r with
 | d x=>exact Rep.flat rr f
 | own i=>exact rr) q⟩
def v2 (w:D->D->(D->Prop)->Prop) (va vb:VT):VT:=λS Q=>va S λra S1=>vb S1 λrb S2=>∃d1 d2,get S2 ra=some d1/\get S2 rb=some d2/\w d1 d2 λd=>Q (.d d) S2
def dr (K:Ho) (r:R2) (w:D->D->(D->Prop)->Prop):Prop:=∀(x y:V) (H:Hp) (d1 d2:D) (q:D->Prop) (C:VK),Rep K Any Pz H x d1->Rep K Any Pz H y d2->w d1 d2 q->(∀z dz,q dz->(∀N F,Rep K N F H z dz)->C z H)->r x y H C
theorem BM {r:R2} {w:D->D->(D->Prop)->Prop} (L:dr K r w) (ha:Qm K false ta va) (hb:Qm K false tb vb):Qm K m (Rw r ta tb) (v2 w va vb):=by
 intro H0 Z σ H S Q C k t hc
 refine ha H0 Z σ H S _ _ k t λx H1 ra S1 k1 Pq r1 t1=>?_
 refine hb H0 Z σ H1 S1 _ _ k1 t1 λy H2 rb S2 k2 Pj r2 Pk=>?_
 obtain ⟨d1,d2,e1,e2,t2⟩:=Pk
 exact L x y H2 d1 d2 _ _ ((r1.step Pj).get k2 e1) (r2.get k2 e2) t2 λz dz q rz=>hc z H2 (.d dz) S2 k2 (Pq.trans Pj) (rz _ _) q
theorem aA {op:OR} {r:R2} {w:D->D->(D->Prop)->Prop} (ho:Qt X (Kw op) r) (L:dr K r w) (ha:VE K X false a ta va) (hb:VE K X false b tb vb):VE K X m (.BinOp a op b pos) (Rw r ta tb) (v2 w va vb):=⟨jC ho ha.pe hb.pe,BM L ha.snd hb.snd⟩
@[reducible] def R0:V->D
 | .int i=>.int i
 | .bl b=>.bl b
 | .str x=>.str x
 | .ty x=>.ty x
 | _=>.non
def Wr:V->Bool
 | .int _=>true | .bl _=>true | .str _=>true | .non=>true | .ty _=>true | _=>false
theorem nN (h:Wr v=true) {N:AP}:Rep K N F H v (R0 v):=by
 cases v <;> first | exact .int _ | exact .bl _ | exact .str _ | exact .non | exact .ty _ | cases h
def wI (C:Int->Int->Prop) (g:Int->Int->V):D->D->(D->Prop)->Prop:=λd1 d2 q=>∃i j,d1=.int i/\d2=.int j/\C i j/\q (R0 (g i j))
def Ws (g:Int->Int->V):D->D->(D->Prop)->Prop:=λd1 d2 q=>∃i j,d1=.int i/\d2=.int j/\q (R0 (g i j))
theorem bU {C:Int->Int->Prop} {g:Int->Int->V} (hg:∀i j,Wr (g i j)=true:=by intro _ _;rfl):dr K (rI C g) (wI C g):=by
 rintro x y H d1 d2 q Cc r1 r2 ⟨i,j,rfl,rfl,c,h⟩ hc
 cases r1;cases r2
 exact ⟨i,j,rfl,rfl,c,hc _ _ h λ_ _=>nN (hg i j)⟩
theorem aE {g:Int->Int->V} (hg:∀i j,Wr (g i j)=true:=by intro _ _;rfl):dr K (SK g) (Ws g):=by
 rintro x y H d1 d2 q Cc r1 r2 ⟨i,j,rfl,rfl,h⟩ hc
 cases r1;cases r2
 exact ⟨i,j,rfl,rfl,hc _ _ h λ_ _=>nN (hg i j)⟩
def toV:D->Option V
 | .int i=>some (.int i)
 | .bl b=>some (.bl b)
 | .str x=>some (.str x)
 | .non=>some .non
 | _=>none
theorem ij {u:V} {N:AP} (h:Rep K N F H v d) (e:toV d=some u):v=u:=by
 cases h <;> cases e <;> rfl
def Xa:D->D->(D->Prop)->Prop:=λd1 d2 q=>∃x y,toV d1=some x/\toV d2=some y/\wJ x y=true/\q (.bl (decide (x=y)))
def Xb:D->D->(D->Prop)->Prop:=λd1 d2 q=>∃x y,toV d1=some x/\toV d2=some y/\wJ x y=true/\q (.bl (!decide (x=y)))
theorem nO:dr K rEq Xa:=by
 rintro x y H d1 d2 q C r1 r2 ⟨x',y',e1,e2,s,h⟩ hc
 obtain rfl:=ij r1 e1
 obtain rfl:=ij r2 e2
 exact ⟨s,hc _ _ h λ_ _=>.bl _⟩
theorem Ex:dr K rNe Xb:=by
 rintro x y H d1 d2 q C r1 r2 ⟨x',y',e1,e2,s,h⟩ hc
 obtain rfl:=ij r1 e1
 obtain rfl:=ij r2 e2
 exact ⟨s,hc _ _ h λ_ _=>.bl _⟩
def jN (t:VT):Qo:=λS Q=>t S λr S'=>∃k,r=.d (.bl k)/\Q k S'
theorem xf (h:Qm K m te va):Rg K (sG te) (jN va):=λH0 Z σ H S Q C k t hc=>h H0 Z σ H S _ _ k t λv H' r S' k' st rr Px=>by
 obtain ⟨b,e,q⟩:=Px
 subst e
 cases (show Rep K _ _ H' v (.bl b) from rr)
 exact ⟨b,rfl,hc b H' S' k' st q⟩
theorem G6 (h:Qm K m te va):Rg K (tB te) (jN va):=λH0 Z σ H S Q C k t hc=>h H0 Z σ H S _ _ k t λv H' r S' k' st rr Px=>by
 obtain ⟨b,e,q⟩:=Px
 subst e
 cases (show Rep K _ _ H' v (.bl b) from rr)
 exact ⟨b,rfl,hc b H' S' k' st q⟩
theorem bw {op:CmpOp} {r:R2} {w:D->D->(D->Prop)->Prop} (ho:Qt X (JB op) r) (L:dr K r w) (ha:VE K X false a ta va) (hb:VE K X false b tb vb) (hm:Li op b=false):R9 K X (.Compare a [op] [b] pos) (sG (Rw r ta tb)) (jN (v2 w va vb)):=
 ⟨wL ho ha.pe hb.pe hm,xf (m:=false) (BM L ha.snd hb.snd)⟩
theorem dt {op:CmpOp} {r:R2} {w:D->D->(D->Prop)->Prop} (ho:Qt X (JB op) r) (L:dr K r w) (ha:VE K X false a ta va) (hb:VE K X false b tb vb) (hm:Li op b=false):VE K X m (.Compare a [op] [b] pos) (Rw r ta tb) (v2 w va vb):=
 ⟨wK ho ha.pe hb.pe hm,BM L ha.snd hb.snd⟩
theorem cH (h:VE K X false e te va) (he:∀whole,OF e X.env whole=(do let v <- whole;Le e.pos;Lg [v] (truthy v)):=by intro _;rfl):R9 K X e (tB te) (jN va):=⟨A7 h.pe he,G6 h.snd⟩
def Xc:D->Option Bool
 | .bl b=>some b
 | .int i=>some (i != 0)
 | .non=>some false
 | .lst ds=>some !ds.isEmpty
 | .tup ds=>some !ds.isEmpty
 | _=>none
section
variable {tA Vw:TT} {wA wB:Qo} {rest:List Expr}
def vOr (t u:Qo):Qo:=λS Q=>t S λc S1=>if c=true then Q true S1 else u S1 Q
def Ey (t:Qo):Qo:=λS Q=>t S λc S1=>Q (!c) S1
theorem BN (h:R9 K X a tA wA):Wq K X (.BoolOp .Or [a] pos) tA wA:=⟨A8 h.pe,h.snd⟩
theorem Ez (ha:R9 K X a tA wA) (hb:Wq K X (.BoolOp .Or (b::rest) pos) Vw wB):Wq K X (.BoolOp .Or (a::b::rest) pos) (tOr tA Vw) (vOr wA wB):=⟨Ef ha.pe hb.pe,λH0 Z σ H S Q C k t hc=>
 ha.snd H0 Z σ H S _ _ k t λc H1 S1 k1 Pq q=>by
  cases c with
  | false=>rw[if_neg Hy] at q ⊢;exact hb.snd H0 Z σ H1 S1 _ _ k1 q λc2 H2 S2 k2 Pj q2=>hc c2 H2 S2 k2 (Pq.trans Pj) q2
  | true=>rw[if_pos rfl] at q ⊢;exact hc true H1 S1 k1 Pq q⟩
theorem EA (h:Wq K X e tA wA):R9 K X e tA wA:=⟨h.pe.pt,h.snd⟩
theorem fN (h:R9 K X a tA wA):R9 K X (.UnaryOp .Not a pos) (Ee tA) (Ey wA):=⟨A9 h.pe,λH0 Z σ H S Q C k t hc=>h.snd H0 Z σ H S _ _ k t λc H1 S1 k1 Pq q=>hc (!c) H1 S1 k1 Pq q⟩
def zE (ta tb:VT):VT:=λS Q=>ta S λr S1=>∃c,r=.d (.bl c)/\if c=true then tb S1 Q else Q (.d (.bl false)) S1
def zF (ta:VT):VT:=λS Q=>ta S λr S1=>∃c,r=.d (.bl c)/\Q (.d (.bl (!c))) S1
theorem fO {op} (h:VE K X m a ta va):VE K X m (.BoolOp op [a] pos) ta va:=⟨Ba h.pe,h.snd⟩
theorem dU (ha:VE K X m a ta va) (hb:VE K X m (.BoolOp .And (b::rest) pos) tb vb):VE K X m (.BoolOp .And (a::b::rest) pos) (zm ta tb) (zE va vb):=⟨Bb ha.pe hb.pe,λH0 Z σ H S Q C k t hc=>
 ha.snd H0 Z σ H S _ _ k t λv H1 r S1 k1 Pq rr Px=>by
  obtain ⟨c,e,q⟩:=Px
  subst e
  cases (show Rep K _ _ H1 v (.bl c) from rr)
  refine ⟨c,rfl,?_⟩
  cases c with
  | true=>rw[if_pos rfl] at q ⊢;exact hb.snd H0 Z σ H1 S1 _ _ k1 q λv2 H2 r2 S2 k2 Pj Rz q2=>hc v2 H2 r2 S2 k2 (Pq.trans Pj) Rz q2
  | false=>rw[if_neg Hy] at q ⊢;exact hc _ H1 (.d (.bl false)) S1 k1 Pq (Rep.bl false) q⟩
theorem sY (ha:VE K X m a ta va):VE K X m (.UnaryOp .Not a pos) (zo ta) (zF va):=⟨Bc ha.pe,λH0 Z σ H S Q C k t hc=>
 ha.snd H0 Z σ H S _ _ k t λv H1 r S1 k1 Pq rr Px=>by
  obtain ⟨c,e,q⟩:=Px
  subst e
  cases (show Rep K _ _ H1 v (.bl c) from rr)
  exact ⟨c,rfl,hc _ H1 (.d (.bl (!c))) S1 k1 Pq (Rep.bl _) q⟩⟩
def vIf (t:Qo) (ta tb:VT):VT:=λS Q=>t S λc S1=>if c=true then ta S1 Q else tb S1 Q
theorem iP (hc:R9 K X c tA wA) (ha:VE K X m a ta va) (hb:VE K X m b tb vb):VE K X m (.IfExp c a b pos) (tIf tA ta tb) (vIf wA va vb):=⟨rT hc.pe ha.pe hb.pe,λH0 Z σ H S Q C k t hq=>
 hc.snd H0 Z σ H S _ _ k t λc H1 S1 k1 Pq q=>by
  cases c with
  | true=>rw[if_pos rfl] at q ⊢;exact ha.snd H0 Z σ H1 S1 _ _ k1 q λv2 H2 r2 S2 k2 Pj Rz q2=>hq v2 H2 r2 S2 k2 (Pq.trans Pj) Rz q2
  | false=>rw[if_neg Hy] at q ⊢;exact hb.snd H0 Z σ H1 S1 _ _ k1 q λv2 H2 r2 S2 k2 Pj Rz q2=>hq v2 H2 r2 S2 k2 (Pq.trans Pj) Rz q2⟩
end
def vUn (g:Int->V) (va:VT):VT:=λS Q=>va S λr S1=>∃i,get S1 r=some (.int i)/\Q (.d (R0 (g i))) S1
theorem fJ {op:UnaryOp} {g:Int->V} (ho:Wj X (unaryOp op) (rU g)) (ha:VE K X false a ta va) (hg:∀i,Wr (g i)=true:=by intro _;rfl):VE K X m (.UnaryOp op a pos) (tUn (rU g) ta) (vUn g va):=⟨Ek ho ha.pe,λH0 Z σ H S Q C k t hc=>
 ha.snd H0 Z σ H S _ _ k t λv H1 r S1 k1 Pq rr Px=>by
  obtain ⟨i,e,q⟩:=Px
  cases rr.get k1 e
  exact ⟨i,rfl,hc _ H1 (.d (R0 (g i))) S1 k1 Pq (nN (hg i)) q⟩⟩
section
variable {es:List Expr} {tr:TA} {vr:Qv}
def BO:Qv:=λS Q=>Q [] S
def o8 (va:VT) (vr:Qv):Qv:=λS Q=>va S λr S1=>vr S1 λrs S2=>Q (r::rs) S2
theorem ah:VA K X m [] jw BO:=⟨eE,λ_ _ _ _ _ _ _ k h q=>q _ _ _ _ k .refl .nil h⟩
theorem aa (ha:VE K X m e te va) (hr:VA K X m es tr vr) (hs:HN (e::es) X.env=(false,eval e X.env)::HN es X.env:=by rfl):VA K X m (e::es) (eQ te tr) (o8 va vr):=⟨bZ ha.pe hr.pe hs,λH0 Z σ H S Q C k t hc=>
 ha.snd H0 Z σ H S _ _ k t λv H1 r S1 k1 Pq rr q=>hr.snd H0 Z σ H1 S1 _ _ k1 q λvs H2 rs S2 k2 Pj Qp q2=>hc (v::vs) H2 (r::rs) S2 k2 (Pq.trans Pj) (.cons (rr.step Pj) Qp) q2⟩
def allD:List VR->Option (List D)
 | []=>some []
 | .d x::r=>(allD r).map (x::·)
 | _::_=>none
theorem de.allD (h:de K F Z σ S H vs rs) (e:VL.allD rs=some ds):Pi K (NM Z σ S) F H vs ds:=by
 induction h generalizing ds with
 | nil=>cases e;exact .nil
 | @cons v r vs rs h t ih=>
  cases r with
  | d x=>
   obtain ⟨es,h1,rfl⟩:=Option.map_eq_some_iff.mp (show (VL.allD rs).map (x::·)=some ds from e)
   exact .cons h (ih h1)
  | own i=>cases e
theorem de.length (h:de K F Z σ S H vs rs):vs.length=rs.length:=by
 induction h with
 | nil=>rfl
 | cons h t ih=>simp[ih]
theorem dH:∀{rs:List VR} {ds:List D},allD rs=some ds->ds.length=rs.length
 | [],_,e=>by cases e;rfl
 | .d x::r,ds,e=>by
  obtain ⟨es,h1,rfl⟩:=Option.map_eq_some_iff.mp (show (VL.allD r).map (x::·)=some ds from e)
  simp[dH h1]
 | .own _::_,_,e=>by cases e
def EB (vr:Qv):VT:=λS Q=>vr S λrs S1=>∃ds,allD rs=some ds/\ds.length<=1000/\Q (.d (.tup ds)) S1
theorem small {n:Nat} (h:n<=1000):n<=Ii:=by rw[IL];lia
theorem OK.nm {H0 H:Hp} (k:OK K H0 Z σ H S) {p:Addr} (hp:H p=none):NM Z σ S p:=λz=>by
 have e:=k.mo z
 rw[hp] at e;exact e
theorem aB {x1} (h:VA K X m es tr vr):VE K X m (.Tuple es x1 pos) (Bu tr) (EB vr):=⟨sJ h.pe,λH0 Z σ H S Q C k t hc=>
 h.snd H0 Z σ H S _ _ k t λvs H1 rs S1 k1 Pq Qp ⟨ds,e,hl,q⟩=>⟨small (by rw[Qp.length,<- dH e];exact hl),λp hp=>by
  have g:=aG (o:=.tup vs) hp
  exact hc _ _ (.d (.tup ds)) S1 (k1.grow g) (Pq.trans (.grow g)) (Rep.tup (k1.nm hp) (.inl aw) ((Qp.allD e).mono (λa n e=>⟨n,g a e⟩) λ_ x=>x)) q⟩⟩
def BP (vr:Qv):PQ:=λS Q=>vr S λrs S1=>∃ds,allD rs=some ds/\ds.length<=1000/\Q ds S1
theorem bC {H0 H:Hp} {p:Addr} {o:HO} (hp:H p=none) (h:Pi K (NM Z σ S) (FM H0 true) H vs ds):Pi K (λb=>NM Z σ S b/\b≠p) (Fr H0) (upd H p o) vs ds:=
 h.mono (λa n e=>⟨⟨n,λz=>e (by rw[z];exact hp)⟩,aG hp a e⟩) λ_ x=>x rfl
theorem aP (h:VA K X true es tr vr):VN K X (.List es pos) (Bv tr) (BP vr):=⟨sL h.pe,λH0 Z σ H S Q C k t hc=>
 h.snd H0 Z σ H S _ _ k t λvs H1 rs S1 k1 Pq Qp ⟨ds,e,hl,q⟩=>⟨small (by rw[Qp.length,<- dH e];exact hl),λp hp=>
  hc p vs ds H1 _ S1 k1 Pq hp (aG hp) aw (bC hp (Qp.allD e)) q⟩⟩
def qG (t:PQ):VT:=λS Q=>t S λds S1=>Q (.d (.lst ds)) S1
theorem aH {t:PQ} (h:VN K X e te t):VE K X m e te (qG t):=⟨h.pe,λH0 Z σ H S Q C k t hc=>h.snd H0 Z σ H S _ _ k t λa vs ds H1 H' S1 k1 Pq ha hg hl rr q=>by
 refine hc _ H' (.d (.lst ds)) S1 (k1.grow hg) (Pq.trans (.grow hg)) (Rep.lst (k1.nm ha) (λ_=>⟨a,rfl,k1.dom a ha⟩) hl (rr.mono (λb n e=>⟨n.1,rfl⟩) λ_ x _=>x)) q⟩
end
theorem eV.elems {H0 H:Hp} (h:eV K F Z σ S H v r) (k:OK K H0 Z σ H S) (e:VL.get S r=some (.lst ds)):∃a vs,v=.ref a/\Qz K H a vs/\Pi K (NM Z σ S) Pz H vs ds:=by
 cases r with
 | d y=>
  cases e
  obtain ⟨a,vs,rfl,hq,rr⟩:=Rep.sqL h
  exact ⟨a,vs,rfl,hq,rr.mono (λ_ n _=>⟨n,rfl⟩) λ_ _=>trivial⟩
 | own i=>
  have h:σ[i]?=some (some v):=h
  have e:RK S[i]?=some (.lst ds):=e
  cases es:S[i]? with
  | none=>rw[es] at e;cases e
  | some s=>
   rw[es] at e
   cases s with
   | no=>cases e
   | val d=>cases e
   | fre d=>cases e
   | own ds=>
    cases e
    obtain ⟨a,vs,h1,h2,h3,h4⟩:=k.at_ i _ _ h es
    cases h1
    exact ⟨a,vs,rfl,.inl (.inl h2),h4.mono (λ_ n _=>⟨n,rfl⟩) λ_ _=>trivial⟩
   | pen ad ns=>
    cases e
    obtain ⟨a,h1,_,h2⟩:=k.at_ i _ _ h es
    cases h1
    exact ⟨a,_,rfl,.inl (.inl h2),Pi.ints⟩
   | odi ks ds=>cases e
   | obj k=>cases e
theorem eV.elemsT {H0 H:Hp} (h:eV K F Z σ S H v r) (k:OK K H0 Z σ H S) (e:VL.get S r=some (.tup ds)):∃a vs,v=.ref a/\Qq K H a vs/\Pi K (NM Z σ S) Pz H vs ds:=by
 cases r with
 | d y=>
  cases e
  cases (show Rep K (NM Z σ S) F H v (.tup ds) from h) with
  | tup n h2 r2=>exact ⟨_,_,rfl,.inl h2,r2.mono (λ_ n _=>⟨n,rfl⟩) λ_ _=>trivial⟩
  | tupK h2 r2=>exact ⟨_,_,rfl,f9 h2,r2.mono (λ_ n _=>⟨n,rfl⟩) λ_ _=>trivial⟩
 | own i=>
  have e:RK S[i]?=some (.tup ds):=e
  cases es:S[i]? with
  | none=>rw[es] at e;cases e
  | some s=>rw[es] at e;cases s <;> cases e
end
end VL
end
section
namespace VL
open PySem L2
section
variable {K:Ho} {X:Cx} {m:Bool} {e a b c:Expr} {ta tb tc te:TE} {va vb vc:VT} {pos:Pos}
theorem mh {N:AP} {i:Int} (r:Pi K N F H vs ds) (h:QY ds i=some d):∃v,QY vs i=some v/\Rep K N F H v d:=by
 unfold QY at h ⊢
 rw[r.length]
 cases e:Ru ds.length i with
 | none=>rw[e] at h;cases h
 | some j=>
  rw[e] at h
  exact r.getD h
def vIx (va vb:VT):VT:=λS Q=>va S λra S1=>vb S1 λrb S2=>∃ds i d,(get S2 ra=some (.lst ds)\/get S2 ra=some (.tup ds))/\get S2 rb=some (.int i)/\QY ds i=some d/\Q (.d d) S2
theorem aK (hK:X.K=K) (ha:VE K X false a ta va) (hb:VE K X false b tb vb) (hs:fV b):VE K X false (.Subscript a b pos) (Rw (rIx K) ta tb) (vIx va vb):=⟨by subst hK;exact oS BB ha.pe hb.pe hs,λH0 Z σ H S Q C k t hc=>
 ha.snd H0 Z σ H S _ _ k t λx H1 ra S1 k1 Pq r1 t1=>hb.snd H0 Z σ H1 S1 _ _ k1 t1 λy H2 rb S2 k2 Pj r2 Px=>by
  obtain ⟨ds,i,d,e1,e2,e3,q⟩:=Px
  cases r2.get k2 e2
  have fin:∀v,Rep K (NM Z σ S2) Pz H2 v d->C v H2:=λv rv=>hc v H2 (.d d) S2 k2 (Pq.trans Pj) (show Rep K _ _ H2 v d from rv.mono (λ_ n _=>⟨n,rfl⟩) λ_ _=>FM.any) q
  rcases e1 with e1 | e1
  ·obtain ⟨p,vs,rfl,hq,rr⟩:=(r1.step Pj).elems k2 e1
   obtain ⟨v,h1,h2⟩:=mh rr e3
   exact .inl ⟨p,vs,i,v,rfl,rfl,hq,h1,fin v h2⟩
  ·obtain ⟨p,vs,rfl,hq,rr⟩:=(r1.step Pj).elemsT k2 e1
   obtain ⟨v,h1,h2⟩:=mh rr e3
   exact .inr (.inl ⟨p,vs,i,v,rfl,rfl,hq,h1,fin v h2⟩)⟩
section
variable {es:List Expr} {tr:TA} {vr:Qv} {x:Str} {p:Pos} {id T:String} {r:List V->Hp->VK->Prop}
def Xd (w:List D->(D->Prop)->Prop) (vr:Qv):VT:=λS Q=>vr S λrs S1=>∃ds,gets S1 rs=some ds/\w ds λd=>Q (.d d) S1
def iQ (K:Ho) (r:List V->Hp->VK->Prop) (w:List D->(D->Prop)->Prop):Prop:=∀(xs:List V) (H:Hp) (ds:List D) (q:D->Prop) (C:VK),Pi K Any Pz H xs ds->w ds q->(∀z dz,q dz->(∀N F,Rep K N F H z dz)->C z H)->r xs H C
theorem G7 {w:List D->(D->Prop)->Prop} (L:iQ K r w) (ha:BK K false tr vr):Qm K m (Sm r tr) (Xd w vr):=λH0 Z σ H S Q C k t hc=>
 ha H0 Z σ H S _ _ k t λvs H1 rs S1 k1 Pq Qp PH=>by obtain ⟨ds,e,q⟩:=PH;exact L vs H1 ds _ _ (Qp.gets k1 e) q λz dz q rz=>hc z H1 (.d dz) S1 k1 Pq (rz _ _) q
theorem aT {w:List D->(D->Prop)->Prop} (hc:cS X (.builtin id) r) (L:iQ K r w) (hg:Gl X x) (hm:X.mg x=none) (hv:IZ x=some (.builtin id)) (ha:VA K X false (e::es) tr vr) (hn:x≠"__name__":=by decide) (Rm:(x==("__debug__":Str))=false:=by decide)
  (he:HN (e::es) X.env=(false,eval e X.env)::HN es X.env:=by rfl) (hpl:(J9 pos (HN es X.env)).any (·.1)=false:=by rfl):VE K X m (.Call (.Name x p) (e::es) [] pos) (Sm r tr) (Xd w vr):=⟨eY hc hg hm hv ha.pe hn Rm he hpl,G7 L ha.snd⟩
theorem rep1 {N:AP} {xs:List V} (h:Pi K N F H xs [d]):∃v,xs=[v]/\Rep K N F H v d:=by
 cases h with | cons h t=>cases t;exact ⟨_,rfl,h⟩
theorem rep2 {N:AP} {xs:List V} {d d':D} (h:Pi K N F H xs [d,d']):∃v u,xs=[v,u]/\Rep K N F H v d/\Rep K N F H u d':=by
 cases h with | cons h t=>cases t with | cons h' t=>cases t;exact ⟨_,_,rfl,h,h'⟩
def BQ:List D->(D->Prop)->Prop:=λds q=>∃es,(ds=[.lst es]\/ds=[.tup es])/\q (.int es.length)
theorem iR:iQ K (λxs H Q=>∃p ys,xs=[.ref p]/\(Qz K H p ys\/Qq K H p ys)/\Q (.int ys.length) H) BQ:=by
 rintro xs H ds q C r ⟨es,rfl | rfl,h⟩ hc
 ·obtain ⟨v,rfl,rv⟩:=rep1 r
  obtain ⟨a,vs,rfl,hq,rr⟩:=rv.sqL
  exact ⟨a,vs,rfl,.inl hq,by rw[rr.length];exact hc _ _ h λ_ _=>.int _⟩
 ·obtain ⟨v,rfl,rv⟩:=rep1 r
  obtain ⟨a,vs,rfl,hq,rr⟩:=rv.sqT
  exact ⟨a,vs,rfl,.inr hq,by rw[rr.length];exact hc _ _ h λ_ _=>.int _⟩
def wMM (g:Int->Int->Int):List D->(D->Prop)->Prop:=λds q=>∃i j,ds=[.int i,.int j]/\q (.int (g i j))
theorem EC {g:Int->Int->Int}:iQ K (λxs H Q=>∃i j,xs=[.int i,.int j]/\Q (.int (g i j)) H) (wMM g):=by
 rintro xs H ds q C r ⟨i,j,rfl,h⟩ hc
 obtain ⟨v,u,rfl,rv,ru⟩:=rep2 r
 cases rv;cases ru
 exact ⟨i,j,rfl,hc _ _ h λ_ _=>.int _⟩
def Xe:D->String
 | .int _=>"int" | .bl _=>"bool" | .non=>"NoneType" | .str _=>"str" | .tup _=>"tuple" | .lst _=>"list" | .ty _=>"type" | .dic _ _=>"dict" | .exc _=>"" | .dib _ _=>"dict" | .oth _=>""
def isE:D->Bool
 | .exc _=>true
 | .oth _=>true
 | _=>false
def ED:List D->(D->Prop)->Prop:=λds q=>∃x c b,ds=[x,.ty c]/\(∀n,x≠.ty n)/\isE x=false/\qE (Xe x) c=some b/\q (.bl b)
theorem mi:iQ K (BH K) ED:=by
 rintro xs H ds q C r ⟨x,c,b,rfl,hn,hE,e,h⟩ hc
 obtain ⟨v,u,rfl,rv,ru⟩:=rep2 r
 cases ru
 refine ⟨v,Xe x,c,b,rfl,?_,e,hc _ _ h λ_ _=>.bl _⟩
 cases rv with
 | int i=>exact .int i
 | bl i=>exact .bl i
 | non=>exact .non
 | str i=>exact .str i
 | ty i=>exact (hn _ rfl).elim
 | tup n h r=>exact .tup (.inl h)
 | tupK h r=>exact .tup (f9 h)
 | lst n f h r=>exact .lst (.inl (.inl h))
 | lstF n f h r=>exact .lst (.inl (.inr ⟨_,h⟩))
 | lstK f h r=>exact .lst (iN h)
 | dic n f h e _ r=>exact .dE h
 | exc n h e=>cases hE
 | oth h=>cases hE
 | dib n f h e _ _ r=>exact .dE h
theorem de.one {r:VR} (h:de K F Z σ S H vs [r]):∃v,vs=[v]/\eV K F Z σ S H v r:=by
 cases h with | cons h t=>cases t;exact ⟨_,rfl,h⟩
def o9 (vr:Qv):PQ:=λS Q=>vr S λrs S1=>∃r ds,rs=[r]/\(get S1 r=some (.lst ds)\/get S1 r=some (.tup ds))/\flats ds=true/\Q ds S1
theorem gC {H0 H:Hp} {p:Addr} {o:HO} (hp:H p=none) (h:Pi K (NM Z σ S) F H vs ds) (f:flats ds=true):Pi K (λb=>NM Z σ S b/\b≠p) (Fr H0) (upd H p o) vs ds:=
 bC hp (Pi.flat h f)
theorem ph (hK:X.K=K) (hg:Gl X "list") (hm:X.mg "list"=none) (ha:VA K X false [e] tr vr) (he:HN [e] X.env=[(false,eval e X.env)]:=by rfl) :
  VN K X (.Call (.Name "list" p) [e] [] pos) (Sm (λxs H Q=>∃p ys,xs=[.ref p]/\(Qz K H p ys\/Qq K H p ys)/\∀l,H l=none->Q (.ref l) (upd H l (.lst ys))) tr) (o9 vr):=
 ⟨by subst hK;exact fx kz hg hm wU ha.pe (by decide) (by decide) he rfl,λH0 Z σ H S Q C k t hc=>ha.snd H0 Z σ H S _ _ k t λvs H1 rs S1 k1 Pq Qp Px=>by
  obtain ⟨r,ds,e1,e2,f,q⟩:=Px
  subst e1
  obtain ⟨v,rfl,rv⟩:=Qp.one
  rcases e2 with e2 | e2
  ·obtain ⟨a,ys,rfl,hq,rr⟩:=rv.elems k1 e2
   exact ⟨a,ys,rfl,.inl hq,λl hl=>hc l ys ds H1 _ S1 k1 Pq hl (aG hl) aw (gC hl rr f) q⟩
  ·obtain ⟨a,ys,rfl,hq,rr⟩:=rv.elemsT k1 e2
   exact ⟨a,ys,rfl,.inr hq,λl hl=>hc l ys ds H1 _ S1 k1 Pq hl (aG hl) aw (gC hl rr f) q⟩⟩
def sZ (vr:Qv):VT:=λS Q=>vr S λrs S1=>∃r ds,rs=[r]/\(get S1 r=some (.lst ds)\/r=.d (.tup ds))/\flats ds=true/\Q (.d (.tup ds)) S1
theorem iS (hK:X.K=K) (hg:Gl X "tuple") (hm:X.mg "tuple"=none) (ha:VA K X false [e] tr vr) (he:HN [e] X.env=[(false,eval e X.env)]:=by rfl) :
  VE K X m (.Call (.Name "tuple" p) [e] [] pos) (Sm (λxs H Q=>∃p ys,xs=[.ref p]/\((Qz K H p ys/\∀l,H l=none->Q (.ref l) (upd H l (.tup ys)))\/(Qq K H p ys/\Q (.ref p) H))) tr) (sZ vr):=
 ⟨by subst hK;exact fx jx hg hm iI ha.pe (by decide) (by decide) he rfl,λH0 Z σ H S Q C k t hc=>ha.snd H0 Z σ H S _ _ k t λvs H1 rs S1 k1 Pq Qp Px=>by
  obtain ⟨r,ds,e1,e2,f,q⟩:=Px
  subst e1
  obtain ⟨v,rfl,rv⟩:=Qp.one
  rcases e2 with e2 | e2
  ·obtain ⟨a,ys,rfl,hq,rr⟩:=rv.elems k1 e2
   refine ⟨a,ys,rfl,.inl ⟨hq,λl hl=>?_⟩⟩
   have g:=aG (o:=.tup ys) hl
   exact hc _ _ (.d (.tup ds)) S1 (k1.grow g) (Pq.trans (.grow g)) (Rep.tup (k1.nm hl) (.inl aw) ((Pi.flat rr f).mono (λa n e=>⟨n,g a e⟩) λ_ x=>x)) q
  ·subst e2
   obtain ⟨a,ys,rfl,hq,rr⟩:=Rep.sqT (show Rep K _ _ H1 v (.tup ds) from rv)
   refine ⟨a,ys,rfl,.inr ⟨hq,hc _ _ (.d (.tup ds)) S1 k1 Pq ?_ q⟩⟩
   exact Rep.flat (show Rep K _ _ H1 _ (.tup ds) from rv) (by simpa [flat] using f)⟩
@[reducible] def eT (ms:List Int):D:=.tup (ms.map .int)
@[reducible] def eL (mss:List (List Int)):D:=.lst (mss.map eT)
theorem cI:∀ms:List Int,flats (ms.map D.int)=true
 | []=>rfl
 | _::r=>by simp[flats,flat,cI r]
theorem dZ:∀mss:List (List Int),flats (mss.map eT)=true
 | []=>rfl
 | _::r=>by simp[flats,eT,flat,cI,dZ r]
theorem gE {N:AP}:∀{vs:List V} {mss:List (List Int)},Pi K N F H vs (mss.map eT)->∃ps,vs=ps.map V.ref/\iJ K H ps mss/\(∀p∈ps,H p=none->N p->False\/True)
 | _,[],.nil=>⟨[],rfl,.nil,λ_ h=>nomatch h⟩
 | _,ms::r,.cons h t=>by
  obtain ⟨ps,rfl,h1,h2⟩:=gE t
  obtain ⟨a,vs,rfl,hq,rr⟩:=Rep.sqT h
  cases Pi.toInts rr
  exact ⟨a::ps,rfl,.cons hq h1,λ_ _ _ _=>.inr trivial⟩
theorem eH {N:AP} (hN:∀p vs,Rd H p (.tup vs)->N p):∀{ps:List Addr} {mss:List (List Int)},iJ K H ps mss->Pi K N F H (ps.map V.ref) (mss.map eT)
 | _,_,.nil=>.nil
 | _,_,.cons h t=>by
  refine .cons ?_ (eH hN t)
  rcases h with h | h
  ·exact .tup (hN _ _ h) h Pi.ints
  ·exact .tupK (.inr h) Pi.ints
theorem OK.tupN {H0 H:Hp} (k:OK K H0 Z σ H S):∀p vs,Rd H p (.tup vs)->NM Z σ S p:=λp vs h z=>by
 have e:=k.mo z
 rcases h with h | ⟨o,h⟩ <;> rw[h] at e <;> exact e
end
def PM (K:Ho) (p:List D->(D->Prop)->Prop):Sp:=λvs H Q _=>∃ds R,Pi K Any Pz H vs ds/\p ds R/\∀d v H',R d->(∀a,H a≠none->H' a=H a)->Rep K Any (Fr H) H' v d->Q v H'
def SD (K:Ho) (j:Nat) (p:List Int->List D->(D->List Int->Prop)->Prop):Sp:=λvs H Q _=>∃a ws us ns ds es R,vs=ws++.ref a::us/\ws.length=j/\H a=some (.lst (ns.map .int))/\Pi K (·≠a) Pz H ws ds/\Pi K (·≠a) Pz H us es/\p ns (ds++es) R /\
 ∀d ns' v H',R d ns'->(∀b,b≠a->H b≠none->H' b=H b)->H' a=some (.lst (ns'.map .int))->Rep K (·≠a) (Fr H) H' v d->Q v H'
section
variable {es:List Expr} {tr:TA} {vr:Qv} {x:Str} {p0:Pos} {j k:Nat} {ps:List Str}
def vFn (p:List D->(D->Prop)->Prop) (vr:Qv):VT:=λS Q=>vr S λrs S1=>∃ds,gets S1 rs=some ds/\p ds λd=>Q (.d d) S1
def EE (p:List D->(D->Prop)->Prop) (vr:Qv):PQ:=λS Q=>vr S λrs S1=>∃ds,gets S1 rs=some ds/\p ds λd=>∃es,d=.lst es/\flats es=true/\Q es S1
theorem aW (E:PK X.prog X.w X.K X.mg X.base k x ps (PM K p)) (hr:cy j X.A) (ha:VA K X false (e::es) tr vr)
  (hk:k<=j:=by decide) (hg:Gl X x:=by rfl) (Rm:(x==("__debug__":Str))=false:=by decide) (he:HN (e::es) X.env=(false,eval e X.env)::HN es X.env:=by rfl)
  (hpl:(J9 pos (HN es X.env)).any (·.1)=false:=by rfl):VE K X m (.Call (.Name x p0) (e::es) [] pos) (iH (PM K p) [] E0 tr) (vFn p vr):=⟨oW E hr ha.pe hk hg Rm he hpl,λH0 Z σ H S Q C k t hc=>
 ha.snd H0 Z σ H S _ _ k t λvs H1 rs S1 k1 Pq Qp Px=>by
  obtain ⟨ds,e,q⟩:=Px
  refine ⟨ds,_,by rw[IV];exact Qp.gets k1 e,q,λd v H' q g r=>?_⟩
  refine hc v H' (.d d) S1 (k1.grow g) (Pq.trans (.grow g)) (show Rep K _ _ H' v d from ?_) q
  refine (Rep.avoid (N':=NM Z σ S1) (λa z=>?_) (λa Px=>by obtain ⟨b,e,f⟩:=Px;cases e;exact k1.nm f) r).mono (λ_ n _=>⟨n,rfl⟩) (λo PH _=>by obtain ⟨b,e,f⟩:=PH;exact ⟨b,e,k1.dom b f⟩)
  have e:=k1.mo (Classical.not_not.mp z)
  rw[g a e.ne];exact e⟩
theorem zG (E:PK X.prog X.w X.K X.mg X.base k x ps (PM K p)) (hr:cy j X.A) (ha:VA K X false (e::es) tr vr)
  (hk:k<=j:=by decide) (hg:Gl X x:=by rfl) (Rm:(x==("__debug__":Str))=false:=by decide) (he:HN (e::es) X.env=(false,eval e X.env)::HN es X.env:=by rfl)
  (hpl:(J9 pos (HN es X.env)).any (·.1)=false:=by rfl):VN K X (.Call (.Name x p0) (e::es) [] pos) (iH (PM K p) [] E0 tr) (EE p vr):=⟨oW E hr ha.pe hk hg Rm he hpl,λH0 Z σ H S Q C k t hc=>
 ha.snd H0 Z σ H S _ _ k t λvs H1 rs S1 k1 Pq Qp Px=>by
  obtain ⟨ds,e,q⟩:=Px
  refine ⟨ds,_,by rw[IV];exact Qp.gets k1 e,q,λd v H' ⟨es,ed,hf,q⟩ g r=>?_⟩
  subst ed
  have r2:=Rep.avoid (N':=NM Z σ S1) (λa z=>by
   have e:=k1.mo (Classical.not_not.mp z)
   rw[g a e.ne];exact e) (λa Px=>by obtain ⟨b,e,f⟩:=Px;cases e;exact k1.nm f) r
  cases r2 with
  | @lst a ws _ n f h rs=>
   obtain ⟨b,e,f⟩:=f
   cases e
   refine hc a ws es H1 H' S1 k1 Pq f g h ?_ q
   refine (Pi.avoid (N':=λb=>NM Z σ S1 b/\b≠a) (λb z=>?_) (λb fb=>fb.elim) (Pi.flat (F':=λ_=>False) rs hf)).mono (λ_ n _=>⟨n,rfl⟩) (λo f=>f.elim)
   by_cases hb:b=a
   ·subst hb;rw[h];trivial
   ·have e:=k1.mo (IT λy=>z ⟨y,hb⟩)
    rw[g b e.ne];exact e
  | lstF n f h rs=>obtain ⟨b,e,f⟩:=f;cases e
  | lstK f h rs=>obtain ⟨b,e,f⟩:=f;cases e⟩
end
end
end VL
end
section
namespace VL
open PySem L2
section
variable {K:Ho} {H H' H0:Hp} {Z:AP} {σ:St} {S:List Sl}
theorem OK.put (k:OK K H0 Z σ H S) {i:Nat} {o:Option V} {s:Sl} (hi:i<S.length)
  (hN:∀a,NM Z σ S a->H a≠none->NM Z (σ.set i o) (S.set i s) a/\H' a=H a)
  (hM:∀j s',j≠i->S[j]?=some s'->s'.mut=true->∀a,σ[j]?=some (some (V.ref a))->H' a=H a)
  (hs:qF K H0 (NM Z (σ.set i o) (S.set i s)) H' o s)
  (hj:∀j a t,j≠i->S[j]?=some t->t.mut=true->s.mut=true->o=some (V.ref a)->σ[j]?≠some (some (V.ref a)))
  (hd:∀a,H' a=none->H a=none) (hz:∀a,Z a->RZ (H' a)) (hnz:∀a,s.mut=true->o=some (V.ref a)->¬Z a):OK K H0 Z (σ.set i o) H' (S.set i s) where
 len:=by simp[k.len]
 dom:=λa e=>k.dom a (hd a e)
 zl:=hz
 nz:=λj t a h1 h2 h3=>by
  have hi':i < σ.length:=by rw[k.len];exact hi
  by_cases So:i=j
  ·subst So
   rw[Iw hi] at h1
   rw[Iw hi'] at h3
   cases h1
   exact hnz a h2 (Ij h3)
  ·rw[Ia So] at h1 h3
   exact k.nz j t a h1 h2 h3
 inj:=λa b c t u h1 h2 m1 m2 h3 h4=>by
  have hi':i < σ.length:=by rw[k.len];exact hi
  by_cases ha:i=a
  ·by_cases hb:i=b
   ·lia
   ·subst ha
    rw[Iw hi] at h1
    rw[Iw hi'] at h3
    rw[Ia hb] at h2 h4
    cases h1
    exact (hj b c u (λz=>hb z.symm) h2 m2 m1 (Ij h3) h4).elim
  ·by_cases hb:i=b
   ·subst hb
    rw[Iw hi] at h2
    rw[Iw hi'] at h4
    rw[Ia ha] at h1 h3
    cases h2
    exact (hj a c t (λz=>ha z.symm) h1 m1 m2 (Ij h4) h3).elim
   ·rw[Ia ha] at h1 h3
    rw[Ia hb] at h2 h4
    exact k.inj a b c t u h1 h2 m1 m2 h3 h4
 at_:=λj o' s' h1 h2=>by
  have hi':i < σ.length:=by rw[k.len];exact hi
  by_cases So:i=j
  ·subst So
   rw[Iw hi'] at h1
   rw[Iw hi] at h2
   cases h1;cases h2
   exact hs
  ·rw[Ia So] at h1 h2
   have q:=k.at_ j o' s' h1 h2
   cases s' with
   | no=>trivial
   | val d=>obtain ⟨v,e,r⟩:=q;exact ⟨v,e,r.mono hN λ_ x=>x⟩
   | fre d=>obtain ⟨v,e,r⟩:=q;exact ⟨v,e,r.mono hN λ_ x=>x⟩
   | own ds=>
    obtain ⟨a,vs,e,e',e0,r⟩:=q
    exact ⟨a,vs,e,by rw[hM j _ (λz=>So z.symm) h2 rfl a (by rw[h1,e])];exact e',e0,r.mono hN λ_ x=>x⟩
   | pen ad ns=>
    obtain ⟨a,e,e1,e'⟩:=q
    exact ⟨a,e,e1,by rw[hM j _ (λz=>So z.symm) h2 rfl a (by rw[h1,e])];exact e'⟩
   | odi ks ds=>
    obtain ⟨a,vs,e,e',e0,ek,r⟩:=q
    exact ⟨a,vs,e,by rw[hM j _ (λz=>So z.symm) h2 rfl a (by rw[h1,e])];exact e',e0,⟨ek.1,ek.2.mono hN λ_ x=>x⟩,r.mono hN λ_ x=>x⟩
   | obj k=>
    obtain ⟨a,e,e0,r⟩:=q
    exact ⟨a,e,e0,k.mono hN (hM j _ (λz=>So z.symm) h2 rfl a (by rw[h1,e])) r⟩
theorem iT {i:Nat} {o:Option V} {s:Sl} {a:Addr} (h:Mo Z (σ.set i o) (S.set i s) a):Mo Z σ S a\/(s.mut=true/\o=some (V.ref a)):=by
 rcases h with ⟨j,t,h1,h2,h3⟩ | h
 ·by_cases So:i=j
  ·subst So
   have l1:=(List.getElem?_eq_some_iff.mp h1).1
   have l2:=(List.getElem?_eq_some_iff.mp h3).1
   rw[List.length_set] at l1 l2
   rw[Iw l1] at h1
   rw[Iw l2] at h3
   cases h1
   exact .inr ⟨h2,Ij h3⟩
  ·rw[Ia So] at h1 h3
   exact .inl (.inl ⟨j,t,h1,h2,h3⟩)
 ·exact .inl (.inr h)
theorem OK.setVal (k:OK K H0 Z σ H S) {i:Nat} (hi:i<S.length) (h:Rep K (NM Z σ S) Pz H v d):OK K H0 Z (σ.set i (some v)) H (S.set i (.val d))/\Step Z σ S H (σ.set i (some v)) (S.set i (.val d)) H:=by
 have n:∀a,NM Z σ S a->NM Z (σ.set i (some v)) (S.set i (.val d)) a:=λa x z=>by
  rcases iT z with z | ⟨z,_⟩
  ·exact x z
  ·cases z
 exact ⟨k.put hi (λa x _=>⟨n a x,rfl⟩) (λ_ _ _ _ _ _ _=>rfl) ⟨v,rfl,h.mono (λa x _=>⟨n a x,rfl⟩) λ_ x=>x⟩ (λ_ _ _ _ _ _ z=>nomatch z) (λ_ e=>e) k.zl (λ_ z=>nomatch z),λa x _=>⟨rfl,n a x⟩,λ_ e=>e,λ_ _ _=>rfl⟩
theorem OK.setNew (k:OK K H0 Z σ H S) {i:Nat} {a:Addr} {s:Sl} (hi:i<S.length) (ha:H a=none) (hg:∀b,H b≠none->H' b=H b) (hs:qF K H0 (λb=>NM Z σ S b/\b≠a) H' (some (.ref a)) s) (hm:s.mut=true) :
  OK K H0 Z (σ.set i (some (.ref a))) H' (S.set i s)/\Step Z σ S H (σ.set i (some (.ref a))) (S.set i s) H':=by
 have n:∀b,NM Z σ S b/\b≠a->NM Z (σ.set i (some (.ref a))) (S.set i s) b:=λb x z=>by
  rcases iT z with z | ⟨_,z⟩
  ·exact x.1 z
  ·cases z;exact x.2 rfl
 have n':∀b,NM Z σ S b->H b≠none->NM Z (σ.set i (some (.ref a))) (S.set i s) b:=λb x e=>n b ⟨x,λz=>e (by rw[z];exact ha)⟩
 refine ⟨k.put hi (λb x e=>⟨n' b x e,hg b e⟩) (λj s' hj h1 h2 b h3=>?_) ?_ (λj b t hj h1 h2 h3 h4 h5=>?_) (λb e=>IT λz=>by rw[hg b z] at e;exact z e) (λb z=>?_) (λb h1 h2 z=>?_),λb x e=>⟨hg b e,n' b x e⟩,λb e=>IT λz=>by rw[hg b z] at e;exact z e,λb z e=>hg b e⟩
 ·have e:=k.mo (.inl ⟨j,s',h1,h2,h3⟩)
  exact hg b e.ne
 ·cases s with
  | no=>trivial
  | val d=>cases hm
  | fre d=>cases hm
  | own ds=>obtain ⟨b,vs,e,e',e0,r⟩:=hs;exact ⟨b,vs,e,e',e0,r.mono (λc x _=>⟨n c x,rfl⟩) λ_ x=>x⟩
  | pen ad ns=>exact hs
  | obj k=>obtain ⟨b,e,e0,r⟩:=hs;exact ⟨b,e,e0,k.mono (λc x _=>⟨n c x,rfl⟩) rfl r⟩
  | odi ks ds=>obtain ⟨b,vs,e,e',e0,ek,r⟩:=hs;exact ⟨b,vs,e,e',e0,⟨ek.1,ek.2.mono (λc x _=>⟨n c x,rfl⟩) λ_ x=>x⟩,r.mono (λc x _=>⟨n c x,rfl⟩) λ_ x=>x⟩
 ·cases h4
  have e:=k.mo (.inl ⟨j,t,h1,h2,h5⟩)
  rw[ha] at e;exact e
 ·have e:=k.zl b z
  rw[hg b e.ne];exact e
 ·cases h2
  have e:=k.zl _ z
  rw[ha] at e;exact e
theorem tf {α:Type} {l:List α} {i:Nat} {o:α} (h:l[i]?=some o):l.set i o=l:=by
 obtain ⟨h1,rfl⟩:=List.getElem?_eq_some_iff.mp h
 exact List.set_getElem_self h1
theorem OK.chgD (k:OK K H0 Z σ H S) {i:Nat} {a:Addr} {s₀ s:Sl} {o:HO} (h1:S[i]?=some s₀) (h2:s₀.mut=true) (h3:σ[i]?=some (some (.ref a))) (hm:s.mut=true) (hs:qF K H0 (NM Z σ S) (upd H a o) (some (.ref a)) s) :
  OK K H0 Z σ (upd H a o) (S.set i s)/\Step Z σ S H σ (S.set i s) (upd H a o):=by
 have hi:i<S.length:=(List.getElem?_eq_some_iff.mp h1).1
 have ma:Mo Z σ S a:=.inl ⟨i,s₀,h1,h2,h3⟩
 have ea:=k.mo ma
 have Xf:¬Z a:=k.nz i s₀ a h1 h2 h3
 have e3:=tf h3
 have n:∀b,NM Z σ S b->NM Z σ (S.set i s) b:=λb x z=>by
  rw[<- e3] at z
  rcases iT z with z | ⟨_,z⟩
  ·exact x z
  ·cases z;exact x ma
 have ne:∀b,NM Z σ S b->b≠a:=λb x z=>x (by rw[z];exact ma)
 have q:=k.put (H':=upd H a o) (i:=i) (o:=some (.ref a)) (s:=s) hi (λb x e=>⟨by rw[e3];exact n b x,ay (ne b x)⟩) (λj s' hj g1 g2 b g3=>ay λz=>hj (by subst z;exact k.inj j i b s' s₀ g1 h1 g2 h2 g3 h3)) (by
  rw[e3]
  cases s with
  | no=>trivial
  | val d=>cases hm
  | fre d=>cases hm
  | own ds=>obtain ⟨b,vs,e,e',e0,r⟩:=hs;exact ⟨b,vs,e,e',e0,r.mono (λc x _=>⟨n c x,rfl⟩) λ_ x=>x⟩
  | pen ad ns=>exact hs
  | obj k=>obtain ⟨b,e,e0,r⟩:=hs;exact ⟨b,e,e0,k.mono (λc x _=>⟨n c x,rfl⟩) rfl r⟩
  | odi ks ds=>obtain ⟨b,vs,e,e',e0,ek,r⟩:=hs;exact ⟨b,vs,e,e',e0,⟨ek.1,ek.2.mono (λc x _=>⟨n c x,rfl⟩) λ_ x=>x⟩,r.mono (λc x _=>⟨n c x,rfl⟩) λ_ x=>x⟩) (λj b t hj g1 g2 g3 g4 g5=>by
   cases g4
   exact hj (k.inj j i a t s₀ g1 h1 g2 h2 g5 h3)) (λb e=>by
   by_cases hb:b=a
   ·subst hb;rw[aw] at e;cases e
   ·rw[ay hb] at e;exact e) (λb z=>by
   by_cases hb:b=a
   ·subst hb;exact (Xf z).elim
   ·have e:=k.zl b z
    rw[ay hb];exact e) (λb _ e=>by cases e;exact Xf)
 rw[e3] at q
 refine ⟨q,λb x e=>⟨ay (ne b x),n b x⟩,λb e=>?_,λb z e=>ay λy=>Xf (by rw[<- y];exact z)⟩
 by_cases hb:b=a
 ·subst hb;rw[aw] at e;cases e
 ·rw[ay hb] at e;exact e
theorem OK.chg (k:OK K H0 Z σ H S) {i:Nat} {a:Addr} {s₀ s:Sl} {o:HO} (h1:S[i]?=some s₀) (h2:s₀.mut=true) (h3:σ[i]?=some (some (.ref a))) (ho:∃us,o=.lst us) (hm:s.mut=true) (hs:qF K H0 (NM Z σ S) (upd H a o) (some (.ref a)) s) :
  OK K H0 Z σ (upd H a o) (S.set i s)/\Step Z σ S H σ (S.set i s) (upd H a o):=k.chgD h1 h2 h3 hm hs
end
structure bh where
 nx:List Sl->Prop
 rt:D->List Sl->Prop
 bk:List Sl->Prop:=λ_=>False
 ct:List Sl->Prop:=λ_=>False
abbrev P5:=bh->List Sl->Prop
def NP (σ:St) (S:List Sl):AP:=λa=>∀(i:Nat) (ad:Option Addr) (ns:List Int),S[i]?=some (.pen ad ns)->σ[i]?≠some (some (V.ref a))
structure Lf (K:Ho) (H0:Hp) (Z:AP) (σ:St) (S:List Sl) (H:Hp) (V:bh) (E:Ends):Prop where
 nx:∀ σ' H' S',OK K H0 Z σ' H' S'->Step Z σ S H σ' S' H'->V.nx S'->E.nx σ' H'
 bk:∀ σ' H' S',OK K H0 Z σ' H' S'->Step Z σ S H σ' S' H'->V.bk S'->E.bk σ' H'
 ct:∀ σ' H' S',OK K H0 Z σ' H' S'->Step Z σ S H σ' S' H'->V.ct S'->E.ct σ' H'
 rt:∀v d σ' H' S',OK K H0 Z σ' H' S'->Step Z σ S H σ' S' H'->Rep K (NP σ' S') (Fr H0) H' v d->V.rt d S'->E.rt v H'
theorem Lf.step {H0 H H1:Hp} {σ σ1:St} {S S1:List Sl} {V:bh} {E:Ends} (l:Lf K H0 Z σ S H V E) (st:Step Z σ S H σ1 S1 H1):Lf K H0 Z σ1 S1 H1 V E:=
 ⟨λ_ _ _ k s=>l.nx _ _ _ k (st.trans s),λ_ _ _ k s=>l.bk _ _ _ k (st.trans s),λ_ _ _ k s=>l.ct _ _ _ k (st.trans s),λ_ _ _ _ _ k s=>l.rt _ _ _ _ _ k (st.trans s)⟩
def BR (K:Ho) (ts:TS) (t:P5):Prop:=∀H0 Z σ H S V E,OK K H0 Z σ H S->t V S->Lf K H0 Z σ S H V E->ts E σ H
structure VS (K:Ho) (X:Cx) (st:Stmt) (ts:TS) (t:P5):Prop where
 ps:PS X st ts
 snd:BR K ts t
structure SE (K:Ho) (X:Cx) (st:List Stmt) (ts:TS) (t:P5):Prop where
 ps:Rt X st ts
 snd:BR K ts t
inductive Wk:List Sl->List Sl->Prop where
 | nil:Wk [] []
 | keep {s:Sl} {S S':List Sl}:Wk S S'->Wk (s::S) (s::S')
 | fz {ds:List D} {S S':List Sl}:Wk S S'->Wk (.own ds::S) (.val (.lst ds)::S')
 | fd {ks:List (List Int)} {ds:List D} {S S':List Sl}:Wk S S'->Wk (.odi ks ds::S) (.val (.dic ks ds)::S')
 | drop {s:Sl} {S S':List Sl}:Wk S S'->Wk (s::S) (.no::S')
theorem Wk.refl:∀S,Wk S S
 | []=>.nil
 | _::r=>.keep (Wk.refl r)
theorem Wk.len {S S':List Sl} (h:Wk S S'):S.length=S'.length:=by induction h <;> simp_all
theorem Wk.at_ {S S':List Sl} (h:Wk S S'):∀{i:Nat} {s:Sl},S'[i]?=some s->∃s₀,S[i]?=some s₀/\(s=s₀\/s=.no\/(∃ds,s₀=.own ds/\s=.val (.lst ds))\/∃ks ds,s₀=.odi ks ds/\s=.val (.dic ks ds)):=by
 induction h with
 | nil=>intro i s h;simp at h
 | keep h ih=>
  intro i s e
  cases i with
  | zero=>simp at e;subst e;exact ⟨_,rfl,.inl rfl⟩
  | succ i=>simpa using ih (i:=i) (by simpa using e)
 | fz h ih=>
  intro i s e
  cases i with
  | zero=>simp at e;subst e;exact ⟨_,rfl,.inr (.inr (.inl ⟨_,rfl,rfl⟩))⟩
  | succ i=>simpa using ih (i:=i) (by simpa using e)
 | fd h ih=>
  intro i s e
  cases i with
  | zero=>simp at e;subst e;exact ⟨_,rfl,.inr (.inr (.inr ⟨_,_,rfl,rfl⟩))⟩
  | succ i=>simpa using ih (i:=i) (by simpa using e)
 | drop h ih=>
  intro i s e
  cases i with
  | zero=>simp at e;subst e;exact ⟨_,rfl,.inr (.inl rfl)⟩
  | succ i=>simpa using ih (i:=i) (by simpa using e)
theorem Wk.mut {S S':List Sl} (h:Wk S S') {i:Nat} {s:Sl} (e:S'[i]?=some s) (m:s.mut=true):S[i]?=some s:=by
 obtain ⟨s₀,h1,rfl | rfl | ⟨ds,rfl,rfl⟩ | ⟨ks,ds,rfl,rfl⟩⟩:=h.at_ e
 ·exact h1
 ·cases m
 ·cases m
 ·cases m
theorem OK.wk {H H0:Hp} {S S':List Sl} (k:OK K H0 Z σ H S) (w:Wk S S'):OK K H0 Z σ H S'/\Step Z σ S H σ S' H:=by
 have n:∀a,NM Z σ S a->NM Z σ S' a:=λa x z=>by
  rcases z with ⟨i,s,h1,h2,h3⟩ | z
  ·exact x (.inl ⟨i,s,w.mut h1 h2,h2,h3⟩)
  ·exact x (.inr z)
 refine ⟨⟨by rw[k.len,w.len],λi o s h1 h2=>?_,λi j a s t h1 h2 m1 m2 h3 h4=>k.inj i j a s t (w.mut h1 m1) (w.mut h2 m2) m1 m2 h3 h4,k.dom,k.zl,λi s a h1 m h3=>k.nz i s a (w.mut h1 m) m h3⟩,λa x _=>⟨rfl,n a x⟩,λ_ e=>e,λ_ _ _=>rfl⟩
 obtain ⟨s₀,e,rfl | rfl | ⟨ds,rfl,rfl⟩ | ⟨ks,ds,rfl,rfl⟩⟩:=w.at_ h2
 ·have q:=k.at_ i o s h1 e
  cases s with
  | no=>trivial
  | val d=>obtain ⟨v,e,r⟩:=q;exact ⟨v,e,r.mono (λa x _=>⟨n a x,rfl⟩) λ_ x=>x⟩
  | fre d=>obtain ⟨v,e,r⟩:=q;exact ⟨v,e,r.mono (λa x _=>⟨n a x,rfl⟩) λ_ x=>x⟩
  | own ds=>obtain ⟨a,vs,e,e',e0,r⟩:=q;exact ⟨a,vs,e,e',e0,r.mono (λa x _=>⟨n a x,rfl⟩) λ_ x=>x⟩
  | pen ad ns=>exact q
  | odi ks ds=>obtain ⟨a,vs,e,e',e0,ek,r⟩:=q;exact ⟨a,vs,e,e',e0,⟨ek.1,ek.2.mono (λa x _=>⟨n a x,rfl⟩) λ_ x=>x⟩,r.mono (λa x _=>⟨n a x,rfl⟩) λ_ x=>x⟩
  | obj k=>obtain ⟨a,e,e0,r⟩:=q;exact ⟨a,e,e0,k.mono (λa x _=>⟨n a x,rfl⟩) rfl r⟩
 ·trivial
 ·obtain ⟨a,vs,e1,e2,e3,r⟩:=k.at_ i o _ h1 e
  subst e1
  refine ⟨.ref a,rfl,.lst ?_ trivial e2 (r.mono (λa x _=>⟨n a x,rfl⟩) λ_ _=>trivial)⟩
  intro z
  rcases z with ⟨j,s,g1,g2,g3⟩ | z
  ·have:=k.inj i j a _ s e (w.mut g1 g2) rfl g2 h1 g3
   subst this
   rw[h2] at g1;cases g1;cases g2
  ·exact k.nz i _ a e rfl h1 z
 ·obtain ⟨a,vs,e1,⟨ob,e2⟩,e3,ek,r⟩:=k.at_ i o _ h1 e
  subst e1
  refine ⟨.ref a,rfl,.dic ?_ trivial e2 ek.1 (ek.2.mono (λa x _=>⟨n a x,rfl⟩) λ_ _=>trivial) (r.mono (λa x _=>⟨n a x,rfl⟩) λ_ _=>trivial)⟩
  intro z
  rcases z with ⟨j,s,g1,g2,g3⟩ | z
  ·have:=k.inj i j a _ s e (w.mut g1 g2) rfl g2 h1 g3
   subst this
   rw[h2] at g1;cases g1;cases g2
  ·exact k.nz i _ a e rfl h1 z
section
variable {K:Ho} {X:Cx} {m:Bool} {e a b c:Expr} {ta tb tc te:TE} {va vb vc:VT} {pos:Pos} {st:Stmt} {rest:List Stmt} {t u:TS} {v w:P5}
def zH:P5:=λV S=>V.nx S
def EF (t u:P5):P5:=λV S=>t { V with nx:=λS'=>∃Sn,Wk S' Sn/\u V Sn } S
theorem bg:SE K X [] rV zH:=⟨oG,λH0 Z σ H S V E k h l=>l.nx σ H S k .refl h⟩
theorem ao (h:VS K X st t v):SE K X [st] t v:=⟨oH h.ps,h.snd⟩
theorem ai (h1:VS K X st t v) (h2:SE K X rest u w):SE K X (st::rest) (rW t u) (EF v w):=⟨fU h1.ps h2.ps,λH0 Z σ H S V E k h l=>
 h1.snd H0 Z σ H S _ _ k h ⟨fun σ' H' S' k' st PH=>by obtain ⟨Sn,wk,q⟩:=PH;exact h2.snd H0 Z σ' H' Sn V E (k'.wk wk).1 q (l.step (st.trans (k'.wk wk).2)),l.bk,l.ct,l.rt⟩⟩
def BS:P5:=λ_ _=>False
theorem gb:VS K X st iD BS:=⟨rY,λ_ _ _ _ _ _ _ _ h _=>h.elim⟩
def zI (va:VT):P5:=λV S=>va S λ_ S1=>V.nx S1
theorem cz (h:VE K X false e te va) (hs:Ke e none pos.line X.env=pure false:=by rfl):VS K X (.Expr e pos) (rX te) (zI va):=⟨oI h.pe hs,λH0 Z σ H S V E k t l=>h.snd H0 Z σ H S _ _ k t λv H' r S' k' st _ q=>l.nx σ H' S' k' st q⟩
def retO:Option Sl->Option D
 | some (.own ds)=>some (.lst ds)
 | some (.odi ks ds)=>some (.dic ks ds)
 | _=>none
def Tn (S:List Sl):VR->Option D
 | .d x=>some x
 | .own i=>retO S[i]?
def EG (va:VT):P5:=λV S=>va S λr S1=>∃d,Tn S1 r=some d/\V.rt d S1
theorem OK.ret {H0 H:Hp} {v:V} (k:OK K H0 Z σ H S) (h:eV K (FM H0 true) Z σ S H v r) (e:Tn S r=some d):Rep K (NP σ S) (Fr H0) H v d:=by
 have np:∀a,NM Z σ S a->NP σ S a:=λa n i ad ns h1 h2=>n (.inl ⟨i,_,h1,rfl,h2⟩)
 cases r with
 | d x=>cases e;exact Rep.mono (λa n _=>⟨np a n,rfl⟩) (λ_ x=>x rfl) h
 | own i=>
  have h:σ[i]?=some (some v):=h
  have e:retO S[i]?=some d:=e
  cases es:S[i]? with
  | none=>rw[es] at e;cases e
  | some s=>
   rw[es] at e
   cases s with
   | fre d=>cases e
   | own ds=>
    cases e
    obtain ⟨a,vs,h1,h2,h3,h4⟩:=k.at_ _ _ _ h es
    cases h1
    refine .lst (λi2 ad ns g1 g2=>?_) ⟨a,rfl,h3⟩ h2 (h4.mono (λa n _=>⟨np a n,rfl⟩) λ_ x=>x)
    have:=k.inj _ _ a _ _ es g1 rfl rfl h g2
    subst this
    rw[es] at g1;cases g1
   | odi ks ds=>
    cases e
    obtain ⟨a,vs,h1,⟨ob,h2⟩,h3,hk,h4⟩:=k.at_ _ _ _ h es
    cases h1
    refine .dic (λi2 ad ns g1 g2=>?_) ⟨a,rfl,h3⟩ h2 hk.1 (Pi.flat (hk.2.mono (λa n _=>⟨np a n,rfl⟩) λ_ x=>x) (f7 _)) (h4.mono (λa n _=>⟨np a n,rfl⟩) λ_ x=>x)
    have:=k.inj _ _ a _ _ es g1 rfl rfl h g2
    subst this
    rw[es] at g1;cases g1
   | no=>cases e
   | val x=>cases e
   | pen a b=>cases e
   | obj k=>cases e
theorem aJ (h:VE K X true e te va):VS K X (.Return (some e) pos) (Eg te) (EG va):=⟨Bd h.pe,λH0 Z σ H S V E k t l=>h.snd H0 Z σ H S _ _ k t λv H' r S' k' st rr PH=>by obtain ⟨d,e,q⟩:=PH;exact l.rt v d σ H' S' k' st (k'.ret rr e) q⟩
def EH (c:Qo) (t u:P5):P5:=λV S=>c S λb S1=>if b=true then t V S1 else u V S1
theorem b8 {A B:List Stmt} {tA:TT} {wA:Qo} (hc:R9 K X c tA wA) (ha:SE K X A t v) (hb:SE K X B u w):VS K X (.If c A B pos) (Be tA t u) (EH wA v w):=⟨zp hc.pe ha.ps hb.ps,λH0 Z σ H S V E k t l=>
 hc.snd H0 Z σ H S _ _ k t λb H1 S1 k1 Pq q=>by
  cases b with
  | true=>rw[if_pos rfl] at q ⊢;exact ha.snd H0 Z σ H1 S1 V E k1 q (l.step Pq)
  | false=>rw[if_neg Hy] at q ⊢;exact hb.snd H0 Z σ H1 S1 V E k1 q (l.step Pq)⟩
abbrev VG:=D->List Sl->(List Sl->Prop)->Prop
def RL (K:Ho) (g:TG) (vg:VG):Prop:=∀H0 Z σ H S v d Q C,OK K H0 Z σ H S->Rep K (NM Z σ S) Pz H v d->vg d S Q->(∀ σ' H' S',OK K H0 Z σ' H' S'->Step Z σ S H σ' S' H'->Q S'->C σ' H')->g v σ H C
def EI (g:TG):Prop:=∀x σ H Q1 Q2,(∀ σ H,Q1 σ H->Q2 σ H)->g x σ H Q1->g x σ H Q2
def BU (g:Sk):Prop:=∀x σ H Q1 Q2,(∀ σ H,Q1 σ H->Q2 σ H)->g x σ H Q1->g x σ H Q2
structure Sa (K:Ho) (X:Cx) (e:Expr) (g:TG) (vg:VG):Prop where
 pg:PG X e g
 snd:RL K g vg
 mono:EI g
def Uk (i:Nat):VG:=λd S Q=>i<S.length/\Q (S.set i (.val d))
theorem au {i:Nat} (h:PG X e (bB i)):Sa K X e (bB i) (Uk i):=⟨h,λH0 Z σ H S v d Q C k r PH hc=>by obtain ⟨hi,q⟩:=PH;exact hc _ _ _ (k.setVal hi r).1 (k.setVal hi r).2 q,λ_ _ _ _ _ h q=>h _ _ q⟩
def EJ (K:Ho) (g:Sk) (vg:List D->List Sl->(List Sl->Prop)->Prop):Prop:=∀H0 Z σ H S vs ds Q C,OK K H0 Z σ H S->Pi K (NM Z σ S) Pz H vs ds->vg ds S Q->(∀ σ' H' S',OK K H0 Z σ' H' S'->Step Z σ S H σ' S' H'->Q S'->C σ' H')->g vs σ H C
structure Wu (K:Ho) (X:Cx) (es:List Expr) (g:Sk) (vg:List D->List Sl->(List Sl->Prop)->Prop):Prop where
 pg:Vx X es g
 snd:EJ K g vg
 mono:BU g
def zJ:List D->List Sl->(List Sl->Prop)->Prop:=λds S Q=>ds=[]/\Q S
def tj (t:VG) (u:List D->List Sl->(List Sl->Prop)->Prop):List D->List Sl->(List Sl->Prop)->Prop:=λds S Q=>∃d r,ds=d::r/\t d S λS1=>u r S1 Q
theorem bD:Wu K X [] Bg zJ:=⟨wD,λH0 Z σ H S vs ds Q C k r Px hc=>by obtain ⟨e,q⟩:=Px;subst e;cases r;exact ⟨rfl,hc _ _ _ k .refl q⟩,λ_ _ _ _ _ h q=>⟨q.1,h _ _ q.2⟩⟩
theorem az {es:List Expr} {g:TG} {gs:Sk} {vg:VG} {VP:List D->List Sl->(List Sl->Prop)->Prop} (h1:Sa K X e g vg) (h2:Wu K X es gs VP) (hs:(Kp (e::es) X.env).map (·.2)=LO e X.env::(Kp es X.env).map (·.2):=by rfl) :
  Wu K X (e::es) (oJ g gs) (tj vg VP):=⟨sd h1.pg h2.pg hs,λH0 Z σ H S vs ds Q C k r Px hc=>by
 obtain ⟨d,rd,e,q⟩:=Px
 subst e
 cases r with
 | cons rv rr=>exact ⟨_,_,rfl,h1.snd H0 Z σ H S _ _ _ _ k rv q fun σ1 H1 S1 k1 Pq q1=>h2.snd H0 Z σ1 H1 S1 _ _ _ _ k1 (rr.step Pq) q1 fun σ2 H2 S2 k2 Pj q2=>hc _ _ _ k2 (Pq.trans Pj) q2⟩,λx σ H Q1 Q2 h PH=>by obtain ⟨v,r,e,q⟩:=PH;exact ⟨v,r,e,h1.mono _ _ _ _ _ (fun σ' H' q'=>h2.mono _ _ _ _ _ h q') q⟩⟩
def VQ (n:Nat) (u:List D->List Sl->(List Sl->Prop)->Prop):VG:=λd S Q=>∃ds,d=.tup ds/\ds.length=n/\u ds S Q
theorem bO {es:List Expr} {kk:Nat} {gs:Sk} {VP:List D->List Sl->(List Sl->Prop)->Prop} {n:Nat} (hK:X.K=K) (hc:X.calm=true) (h:Wu K X es gs VP) (hn:(Kp es X.env).length=n:=by rfl) (hst:(Kp es X.env).findIdx? (·.1)=none:=by rfl) :
  Sa K X (.Tuple es kk pos) (Bh K n gs) (VQ n VP):=⟨by subst hK;exact Bi hc h.pg hn hst,λH0 Z σ H S v d Q C k r Px SJ=>by
 obtain ⟨ds,e,hl,q⟩:=Px
 subst e
 obtain ⟨a,vs,rfl,hq,rr⟩:=r.sqT
 exact ⟨a,vs,rfl,hq,by rw[rr.length];exact hl,h.snd H0 Z σ H S _ _ _ _ k rr q SJ⟩,λx σ H Q1 Q2 hh PH=>by obtain ⟨a,xs,e1,e2,e3,q⟩:=PH;exact ⟨a,xs,e1,e2,e3,h.mono _ _ _ _ _ hh q⟩⟩
def nP (va:VT) (g:VG):P5:=λV S=>va S λr S1=>∃d,r=.d d/\g d S1 V.nx
theorem kE {g:TG} {vg:VG} (ha:Qm K m te va) (hg:RL K g vg):BR K (dY te g) (nP va vg):=λH0 Z σ H S V E k t l=>ha H0 Z σ H S _ _ k t λv H1 r S1 k1 Pq rr Px=>by
 obtain ⟨d,e,q⟩:=Px
 subst e
 exact hg H0 Z σ H1 S1 v d _ _ k1 (Rep.mono (λ_ n _=>⟨n,rfl⟩) (λ_ _=>trivial) rr) q fun σ2 H2 S2 k2 Pj q2=>l.nx σ2 H2 S2 k2 (Pq.trans Pj) q2
theorem BV {i:Nat} {x:Str} {pos':Pos} (ps:∀te,PE X e te->PS X (.Assign [.Name x pos'] e pos) (dY te (bB i))) (h:VE K X false e te va):VS K X (.Assign [.Name x pos'] e pos) (dY te (bB i)) (nP va (Uk i)):=
 ⟨ps te h.pe,kE h.snd λH0 Z σ H S v d Q C k r PH hc=>by obtain ⟨hi,q⟩:=PH;exact hc _ _ _ (k.setVal hi r).1 (k.setVal hi r).2 q⟩
theorem gF {tg:Expr} {g:TG} {vg:VG} (h:VE K X false e te va) (hg:Sa K X tg g vg) (hs:MK [tg] e pos.line X.env=pure false:=by rfl) (hw:ML [tg] e X.env=pure none:=by rfl)
  (h1:(Kp [tg] X.env).map (·.2)=[LO tg X.env]:=by rfl):VS K X (.Assign [tg] e pos) (dY te g) (nP va vg):=⟨sj h.pe hg.pg hs hw h1,kE h.snd hg.snd⟩
def tm (i:Nat) (t:PQ):P5:=λV S=>t S λds S1=>i<S1.length/\V.nx (S1.set i (.own ds))
theorem dI {i:Nat} {x:Str} {pos':Pos} {tn:PQ} (ps:∀te,PE X e te->PS X (.Assign [.Name x pos'] e pos) (dY te (bB i))) (h:VN K X e te tn):VS K X (.Assign [.Name x pos'] e pos) (dY te (bB i)) (tm i tn):=
 ⟨ps te h.pe,λH0 Z σ H S V E k t l=>h.snd H0 Z σ H S _ _ k t λa vs ds H1 H' S' k1 Pq ha hg hl rr Px=>by
  obtain ⟨hi,q⟩:=Px
  obtain ⟨k2,Pj⟩:=k1.setNew (s:=.own ds) hi ha hg ⟨a,vs,rfl,hl,k1.dom a ha,rr⟩ rfl
  exact l.nx _ _ _ k2 (Pq.trans Pj) q⟩
def zK (i:Nat) (t:PQ):P5:=λV S=>t S λds S1=>∃ns:List Int,ds=ns.map .int/\i<S1.length/\V.nx (S1.set i (.pen none ns))
theorem pq {i:Nat} {x:Str} {pos':Pos} {tn:PQ} (ps:∀te,PE X e te->PS X (.Assign [.Name x pos'] e pos) (dY te (bB i))) (h:VN K X e te tn):VS K X (.Assign [.Name x pos'] e pos) (dY te (bB i)) (zK i tn):=
 ⟨ps te h.pe,λH0 Z σ H S V E k t l=>h.snd H0 Z σ H S _ _ k t λa vs ds H1 H' S' k1 Pq ha hg hl rr Px=>by
  obtain ⟨ns,e,hi,q⟩:=Px
  subst e
  obtain ⟨k2,Pj⟩:=k1.setNew (s:=.pen none ns) hi ha hg ⟨a,rfl,(λ_ z=>nomatch z),by rw[<- Pi.toInts rr];exact hl⟩ rfl
  exact l.nx _ _ _ k2 (Pq.trans Pj) q⟩
end
end VL
end
section
namespace VL
open PySem L2
section
variable {K:Ho} {X:Cx} {m:Bool} {e a b c:Expr} {ta tb tc te ti:TE} {va vb vc vi:VT} {pos:Pos} {st:Stmt} {rest:List Stmt} {t u:TS} {v w:P5}
theorem OK.ownAt {H0 H:Hp} (k:OK K H0 Z σ H S) {i:Nat} {s:Sl} (e:S[i]?=some s):∃o,σ[i]?=some o/\qF K H0 (NM Z σ S) H o s:=by
 have hi:i < σ.length:=by rw[k.len];exact (List.getElem?_eq_some_iff.mp e).1
 exact ⟨_,Hu hi,k.at_ i _ s (Hu hi) e⟩
def BW (i:Nat) (ve:VT):VT:=λS Q=>(∃ds,S[i]?=some (.own ds))/\ve S λr S1=>∃d ds,r=.d d/\S1[i]?=some (.own ds)/\ds.length<=1000000/\Q (.d .non) (S1.set i (.own (ds++[d])))
theorem BX {PO:Pos} {o:Expr} (i:Nat) (hK:X.K=K) (ho:PE X o (cF i)) (h:VE K X true e te va) (pe:∀te,PE X e te->PE X (.Call (.Attribute o "append" PO) [e] [] pos) (VB X.K "list" ig (cF i) (eQ te jw))) :
  VE K X m (.Call (.Attribute o "append" PO) [e] [] pos) (VB K "list" ig (cF i) (eQ te jw)) (BW i va):=⟨by subst hK;exact pe te h.pe,λH0 Z σ H S Q C k Px hc=>by
 obtain ⟨⟨Xg,e0⟩,t⟩:=Px
 obtain ⟨o,h1,a,vs,rfl,h2,h3,h4⟩:=k.ownAt e0
 refine ⟨.ref a,h1,.inl ⟨rfl,vs,.inl (.inl h2)⟩,?_⟩
 refine h.snd H0 Z σ H S _ _ k t λx H1 r S1 k1 Pq rr Pk=>?_
 obtain ⟨d,ds,er,e1,hl,q⟩:=Pk
 subst er
 obtain ⟨o',g1,a',Q0,rfl,g2,g3,g4⟩:=k1.ownAt e1
 rw[h1] at g1;cases g1
 refine ⟨a,Q0,x,rfl,rfl,g2,by rw[g4.length,IL];lia,?_⟩
 have na:NM Z σ S1 a->False:=λn=>n (.inl ⟨i,_,e1,rfl,h1⟩)
 have hm:∀b,NM Z σ S1 b->H1 b≠none->NM Z σ S1 b/\upd H1 a (.lst (Q0++[x])) b=H1 b:=λb n _=>⟨n,ay λz=>na (by rw[<- z];exact n)⟩
 obtain ⟨k2,Pj⟩:=k1.chg (s:=.own (ds++[d])) (o:=.lst (Q0++[x])) e1 rfl h1 ⟨_,rfl⟩ rfl ⟨a,_,rfl,aw,g3,Pi.append (g4.mono hm λ_ x=>x) (.cons (Rep.mono hm (λ_ x=>x rfl) rr) .nil)⟩
 exact hc .non _ (.d .non) _ k2 (Pq.trans Pj) Rep.non q⟩
theorem nQ {PO:Pos} {o:Expr} (i:Nat) (hK:X.K=K) (ho:PE X o (cF i)) (h:VE K X true e te va) (hbase:JN o "append" X.env (eval o X.env)=eval o X.env:=by rfl)
  (hfew:((J9 pos (HN (e::[]) X.env)).all (λx=>!x.1)&&(Nv pos (LA [] X.env)).all (λx=>x.1.isSome)
   && decide ((e::[]).length+([]:List LB).length+(if ([]:List LB).isEmpty then 0 else 1)<30))=true:=by rfl)
  (hline:(PO.endLine==pos.line)=true:=by rfl) (hs:HN (e::[]) X.env=(false,eval e X.env)::HN [] X.env:=by rfl) (hplain:(J9 pos (HN [] X.env)).any (·.1)=false:=by rfl) :
  VE K X m (.Call (.Attribute o "append" PO) [e] [] pos) (VB K "list" ig (cF i) (eQ te jw)) (BW i va):=
 BX i hK ho h λte hp=>zC Ll PySem.F.slot_list_append PySem.F.type_list_append qA ho (bZ hp eE hs) hbase hfew hline hs hplain
def tu (i:Nat) (ve vi:VT):P5:=λV S=>ve S λr S1=>(∃s,S1[i]?=some s/\s.mut=true)/\vi S1 λri S2=>∃j,get S2 ri=some (.int j) /\
  ((∃ad ns k n,S2[i]?=some (.pen ad ns)/\Ru ns.length j=some k/\r=.d (.int n)/\V.nx (S2.set i (.pen ad (ns.set k n)))) \/
   (∃ds k d,S2[i]?=some (.own ds)/\Ru ds.length j=some k/\r=.d d/\V.nx (S2.set i (.own (ds.set k d)))))
theorem mj {o ie:Expr} {QX:Pos} (i:Nat) (ho:PE X o (cF i)) (h:VE K X true e te va) (hi:VE K X false ie ti vi)
  (ha:∀v,LO (.Subscript o ie QX) X.env v=(do
   let ov <- Lg [v] (eval o X.env)
   let iv <- Lg [v,ov] (eval ie X.env)
   Le QX
   Lg [v,ov,iv] (OV ov iv v)
   release [v,ov,iv] []):=by intro _;rfl)
  (hs:MK [.Subscript o ie QX] e pos.line X.env=pure false:=by rfl) (hw:ML [.Subscript o ie QX] e X.env=pure none:=by rfl)
  (h1:(Kp [.Subscript o ie QX] X.env).map (·.2)=[LO (.Subscript o ie QX) X.env]:=by rfl) :
  VS K X (.Assign [.Subscript o ie QX] e pos) (dY te (Bj (cF i) ti oT)) (tu i va vi):=⟨sj h.pe (Bk ho hi.pe set_list ha) hs hw h1,λH0 Z σ H S V E k t l=>by
 refine h.snd H0 Z σ H S _ _ k t λx H1 r S1 k1 Pq rr Pk=>?_
 obtain ⟨⟨s1,em,Wv⟩,q⟩:=Pk
 -- QG slot's address stays: σ is one
 have fin:∀(p:Addr),σ[i]?=some (some (.ref p))->Bj (cF i) ti oT x σ H1 E.nx:=λp hp=>by
  refine ⟨.ref p,hp,hi.snd H0 Z σ H1 S1 _ _ k1 q λy H2 ri S2 k2 Pj r2 Pk=>?_⟩
  obtain ⟨j,ej,q2⟩:=Pk
  cases r2.get k2 ej
  have Rz:=rr.step Pj
  rcases q2 with ⟨ad,ns,kk,n,e1,e2,er,q2⟩ | ⟨ds,kk,d,e1,e2,er,q2⟩
  ·subst er
   cases (show Rep K _ _ H2 x (.int n) from Rz)
   obtain ⟨o',g1,a',rfl,g2,g3⟩:=k2.ownAt e1
   rw[hp] at g1;cases g1
   refine ⟨p,_,j,kk,rfl,rfl,g3,by rw[Hz];exact e2,?_⟩
   obtain ⟨k3,Qi⟩:=k2.chg (s:=.pen ad (ns.set kk n)) (o:=.lst ((ns.map L2.V.int).set kk (.int n))) e1 rfl hp ⟨_,rfl⟩ rfl ⟨p,rfl,g2,by rw[aw,List.map_set]⟩
   exact l.nx _ _ _ k3 ((Pq.trans Pj).trans Qi) q2
  ·subst er
   obtain ⟨o',g1,a',vs,rfl,g2,g3,g4⟩:=k2.ownAt e1
   rw[hp] at g1;cases g1
   refine ⟨p,_,j,kk,rfl,rfl,g2,by rw[g4.length];exact e2,?_⟩
   have na:NM Z σ S2 p->False:=λn=>n (.inl ⟨i,_,e1,rfl,hp⟩)
   have hm:∀b,NM Z σ S2 b->H2 b≠none->NM Z σ S2 b/\upd H2 p (.lst (vs.set kk x)) b=H2 b:=λb n _=>⟨n,ay λz=>na (by rw[<- z];exact n)⟩
   obtain ⟨k3,Qi⟩:=k2.chg (s:=.own (ds.set kk d)) (o:=.lst (vs.set kk x)) e1 rfl hp ⟨_,rfl⟩ rfl ⟨p,_,rfl,aw,g3,Pi.set (Rep.mono hm (λ_ x=>x rfl) Rz) kk (g4.mono hm λ_ x=>x)⟩
   exact l.nx _ _ _ k3 ((Pq.trans Pj).trans Qi) q2
 -- which address it is: look once
 obtain ⟨o1,g1,g2⟩:=k1.ownAt em
 cases s1 with
 | no=>cases Wv
 | val d=>cases Wv
 | fre d=>cases Wv
 | own ds=>obtain ⟨p,_,rfl,_⟩:=g2;exact fin p g1
 | pen ad ns=>obtain ⟨p,rfl,_⟩:=g2;exact fin p g1
 | odi ks ds=>obtain ⟨p,_,rfl,_⟩:=g2;exact fin p g1
 | obj k=>obtain ⟨p,rfl,_⟩:=g2;exact fin p g1⟩
def pick:List VR->Nat->Option (Nat×List VR)
 | .own i::r,0=>some (i,r)
 | x::r,j+1=>(pick r j).map λp=>(p.1,x::p.2)
 | _,_=>none
def BY (j:Nat) (p:List Int->List D->(D->List Int->Prop)->Prop) (vr:Qv):VT:=λS Q=>vr S λrs S1=>∃i RE ad ns ds,pick rs j=some (i,RE)/\S1[i]?=some (.pen ad ns)/\allD RE=some ds/\p ns ds λd ns'=>Q (.d d) (S1.set i (.pen ad ns'))
theorem de.pick:∀{j:Nat} {vs:List V} {rs:List VR} {i:Nat} {RE:List VR},de K F Z σ S H vs rs->VL.pick rs j=some (i,RE)->∃v ws us,vs=ws++v::us/\ws.length=j/\σ[i]?=some (some v)/\de K F Z σ S H (ws++us) RE/\ws.length<=(ws++us).length
 | 0,_,_,i,RE,.cons (r:=r) h t,e=>by
  cases r with
  | d x=>cases e
  | own k=>cases e;exact ⟨_,[],_,rfl,rfl,h,t,by simp⟩
 | j+1,_,_,i,RE,.cons (r:=r) (rs:=rs) h t,e=>by
  have e':(VL.pick rs j).map (λp=>(p.1,r::p.2))=some (i,RE):=by cases r <;> exact e
  obtain ⟨⟨i',q⟩,h1,h2⟩:=Option.map_eq_some_iff.mp e'
  cases h2
  obtain ⟨v,ws,us,rfl,hl,hs,rr,_⟩:=de.pick t h1
  exact ⟨v,_::ws,us,rfl,by simp[hl],hs,.cons h rr,by simp⟩
 | _,_,_,_,_,.nil,e=>by cases e
theorem Pi.splitAt {N:AP}:∀{ws us:List V} {ds:List D},Pi K N F H (ws++us) ds->∃d1 d2,ds=d1++d2/\Pi K N F H ws d1/\Pi K N F H us d2
 | [],us,ds,h=>⟨[],ds,rfl,.nil,h⟩
 | w::ws,us,_,.cons h t=>by
  obtain ⟨d1,d2,rfl,h1,h2⟩:=Pi.splitAt (ws:=ws) t
  exact ⟨_::d1,d2,rfl,.cons h h1,h2⟩
section
variable {es:List Expr} {tr:TA} {vr:Qv} {x:Str} {p0:Pos} {j k:Nat} {ps:List Str}
theorem bP {jj:Nat} {p:List Int->List D->(D->List Int->Prop)->Prop} (E:PK X.prog X.w X.K X.mg X.base k x ps (SD K jj p)) (hr:cy j X.A) (ha:VA K X false (e::es) tr vr)
  (hk:k<=j:=by decide) (hg:Gl X x:=by rfl) (Rm:(x==("__debug__":Str))=false:=by decide) (he:HN (e::es) X.env=(false,eval e X.env)::HN es X.env:=by rfl)
  (hpl:(J9 pos (HN es X.env)).any (·.1)=false:=by rfl):VE K X m (.Call (.Name x p0) (e::es) [] pos) (iH (SD K jj p) [] E0 tr) (BY jj p vr):=⟨oW E hr ha.pe hk hg Rm he hpl,λH0 Z σ H S Q C k t hc=>
 ha.snd H0 Z σ H S _ _ k t λvs H1 rs S1 k1 Pq Qp Px=>by
  obtain ⟨i,RE,ad,ns,ds,e1,e2,e3,q⟩:=Px
  obtain ⟨v,ws,us,rfl,hl,hs,rr,_⟩:=Qp.pick e1
  obtain ⟨o,g1,a,rfl,g2,g3⟩:=k1.ownAt e2
  rw[hs] at g1;cases g1
  have ma:Mo Z σ S1 a:=.inl ⟨i,_,e2,rfl,hs⟩
  obtain ⟨d1,d2,rfl,r1,r2⟩:=Pi.splitAt (rr.allD e3)
  have hm:∀b,NM Z σ S1 b->H1 b≠none->b≠a/\H1 b=H1 b:=λb n _=>⟨λz=>n (by rw[z];exact ma),rfl⟩
  refine ⟨a,ws,us,ns,d1,d2,_,by rw[IV],hl,g3,r1.mono hm λ_ _=>trivial,r2.mono hm λ_ _=>trivial,q,λd ns' v H' q g ga rv=>?_⟩
  -- QG pen changed,and QG heap grown
  have hG:∀b,upd H1 a (.lst (ns'.map V.int)) b≠none->H' b=upd H1 a (.lst (ns'.map V.int)) b:=λb hb=>by
   by_cases hba:b=a
   ·subst hba;rw[aw];exact ga
   ·rw[ay hba] at hb ⊢;exact g b hba hb
  obtain ⟨k2,Pj⟩:=k1.chg (s:=.pen ad ns') (o:=.lst (ns'.map V.int)) e2 rfl hs ⟨_,rfl⟩ rfl ⟨a,rfl,g2,aw⟩
  have k3:=k2.grow hG
  refine hc v H' (.d d) _ k3 ((Pq.trans Pj).trans (.grow hG)) (show Rep K _ _ H' v d from ?_) q
  refine (Rep.avoid (N':=NM Z σ (S1.set i (.pen ad ns'))) (λb z=>k3.mo (Classical.not_not.mp z)) (λb Pk=>?_) rv).mono (λ_ n _=>⟨n,rfl⟩) (λo PH _=>by obtain ⟨c,ec,f⟩:=PH;exact ⟨c,ec,k1.dom c f⟩)
  obtain ⟨c,ec,f⟩:=Pk
  cases ec
  refine k2.nm ?_
  rw[ay]
  ·exact f
  ·intro z;subst z;rw[g3] at f;cases f⟩
end
end
end VL
end
section
namespace VL
open PySem L2
def Gd (K:Ho) (Z:AP) (J:It) (ds:List D) (σ:St) (S:List Sl) (H:Hp):Prop:=∀ σ2 S2 H2,(∀p,H2 p=none->NM Z σ2 S2 p)->(∀a,NM Z σ S a->H a≠none->H2 a=H a/\NM Z σ2 S2 a)->∀i,(i<ds.length->J.go i H2)/\(∀x H3,J.yld i H2 x H3->i<ds.length->(∀a,H2 a≠none->H3 a=H2 a)/\∃d,ds[i]?=some d/\Rep K (NM Z σ2 S2) Pz H3 x d)/\(i=ds.length->J.stop i H2)
def Sb (K:Ho) (wi:TI) (vi:PQ):Prop:=∀H0 Z σ H S Q C,OK K H0 Z σ H S->vi S Q->(∀J ds H' S',OK K H0 Z σ H' S'->Step Z σ S H σ S' H'->Gd K Z J ds σ S' H'->Q ds S'->C J H')->wi σ H C
structure VI (K:Ho) (X:Cx) (tg e:Expr) (wi:TI) (vi:PQ):Prop where
 pi:PI X tg e wi
 snd:Sb K wi vi
section
variable {K:Ho} {X:Cx} {m:Bool} {e a b c tg:Expr} {ta tb tc te ti:TE} {va vb vc:VT} {pos:Pos} {st:Stmt} {rest:List Stmt} {t u:TS} {v w:P5}
def EK (va:VT):PQ:=λS Q=>va S λr S1=>∃ds,r=.d (.lst ds)/\Q ds S1
def EL (va:VT):PQ:=λS Q=>va S λr S1=>∃ds,r=.d (.tup ds)/\Q ds S1
theorem ba (hK:X.K=K) (h:VE K X false e te va):VI K X tg e (zt K te) (EK va):=⟨by subst hK;exact wG h.pe,λH0 Z σ H S Q C k t hc=>h.snd H0 Z σ H S _ _ k t λv H1 r S1 k1 Pq rr Px=>by
 obtain ⟨ds,e,q⟩:=Px
 subst e
 have rr:Rep K _ _ H1 v (.lst ds):=rr
 obtain ⟨a,vs,rfl,hq,_⟩:=rr.sqL
 refine ⟨a,rfl,⟨vs,hq⟩,hc _ ds H1 S1 k1 Pq (fun σ2 S2 H2 _ Pj i=>?_) q⟩
 obtain ⟨a',Q0,e,hq2,r2⟩:=(rr.stp Pj).sqL
 cases e
 refine ⟨λhi=>?_,λx H3 hy hi=>?_,λhi=>⟨Q0,hq2,by rw[r2.length];lia⟩⟩
 ·obtain ⟨v,h1,_⟩:=r2.getD (Hu hi)
  exact ⟨Q0,v,hq2,h1⟩
 ·obtain ⟨e,h2⟩:=hy
  obtain ⟨d,h3,h4⟩:=r2.get (h2 Q0 hq2)
  exact ⟨λ_ _=>by rw[e],d,h3,h4.mono (λ_ n _=>⟨n,by rw[e]⟩) λ_ _=>trivial⟩⟩
theorem BZ (hK:X.K=K) (h:VE K X false e te va):VI K X tg e (Ei K te) (EL va):=⟨by subst hK;exact Bo h.pe,λH0 Z σ H S Q C k t hc=>h.snd H0 Z σ H S _ _ k t λv H1 r S1 k1 Pq rr Px=>by
 obtain ⟨ds,e,q⟩:=Px
 subst e
 have rr:Rep K _ _ H1 v (.tup ds):=rr
 obtain ⟨a,vs,rfl,hq,_⟩:=rr.sqT
 refine ⟨a,rfl,⟨vs,hq⟩,hc _ ds H1 S1 k1 Pq (fun σ2 S2 H2 _ Pj i=>?_) q⟩
 obtain ⟨a',Q0,e,hq2,r2⟩:=(rr.stp Pj).sqT
 cases e
 refine ⟨λhi=>?_,λx H3 hy hi=>?_,λhi=>⟨Q0,hq2,by rw[r2.length];lia⟩⟩
 ·obtain ⟨v,h1,_⟩:=r2.getD (Hu hi)
  exact ⟨Q0,v,hq2,h1⟩
 ·obtain ⟨e,h2⟩:=hy
  obtain ⟨d,h3,h4⟩:=r2.get (h2 Q0 hq2)
  exact ⟨λ_ _=>by rw[e],d,h3,h4.mono (λ_ n _=>⟨n,by rw[e]⟩) λ_ _=>trivial⟩⟩
def rg (lo:Int) (n:Nat):List D:=(HF n).map λ(i:Nat)=>D.int (lo+(i:Int))
theorem gG (lo:Int) (n:Nat):(rg lo n).length=n:=by simp[rg]
theorem tw {lo:Int} {n i:Nat} (h:i<n):(rg lo n)[i]?=some (.int (lo+(i:Int))):=by simp[rg,h]
theorem tx {lo:Int} {n:Nat}:Gd K Z (Vy lo n) (rg lo n) σ S H:=fun σ2 S2 H2 _ Pj i=>by
 rw[gG]
 refine ⟨λh=>h,λx H3 PH hi=>by obtain ⟨e,hx⟩:=PH;exact ⟨λ_ _=>by rw[e],_,tw hi,by rw[hx];exact .int _⟩,λh=>by rw[h];exact HA _⟩
section
variable {tr:TA} {vr:Qv} {p:Pos}
def EM (vr:Qv):PQ:=λS Q=>vr S λrs S1=>∃j:Int,rs=[.d (.int j)]/\-(2 ^ 62)<=j/\j<2 ^ 62/\Q (rg 0 j.toNat) S1
def EN (vr:Qv):PQ:=λS Q=>vr S λrs S1=>∃i j:Int,rs=[.d (.int i),.d (.int j)]/\(-(2 ^ 62)<=i/\i<2 ^ 62/\-(2 ^ 62)<=j/\j<2 ^ 62)/\Q (rg i (j-i).toNat) S1
theorem b6 (hg:Gl X "range") (hm:X.mg "range"=none) (ha:VA K X false [a] tr vr) (hs:HN [a] X.env=[(false,eval a X.env)]:=by rfl):VI K X tg (.Call (.Name "range" p) [a] [] pos) (zu tr) (EM vr):=⟨qu hg hm ha.pe hs,λH0 Z σ H S Q C k t hc=>
 ha.snd H0 Z σ H S _ _ k t λvs H1 rs S1 k1 Pq Qp Px=>by
  obtain ⟨j,e,h1,h2,q⟩:=Px
  subst e
  cases Qp with
  | cons r t=>
   cases t
   cases (show Rep K _ _ H1 _ (.int j) from r)
   exact ⟨j,rfl,h1,h2,hc _ _ H1 S1 k1 Pq tx q⟩⟩
theorem jO (hg:Gl X "range") (hm:X.mg "range"=none) (ha:VA K X false [a,b] tr vr) (hs:HN [a,b] X.env=[(false,eval a X.env),(false,eval b X.env)]:=by rfl) (RU:HN [b] X.env=[(false,eval b X.env)]:=by rfl):VI K X tg (.Call (.Name "range" p) [a,b] [] pos) (zw tr) (EN vr):=⟨qv hg hm ha.pe hs RU,λH0 Z σ H S Q C k t hc=>
 ha.snd H0 Z σ H S _ _ k t λvs H1 rs S1 k1 Pq Qp Px=>by
  obtain ⟨i,j,e,h1,q⟩:=Px
  subst e
  cases Qp with
  | cons r t=>
   cases t with
   | cons r' t=>
    cases t
    cases (show Rep K _ _ H1 _ (.int i) from r)
    cases (show Rep K _ _ H1 _ (.int j) from r')
    exact ⟨i,j,rfl,h1,hc _ _ H1 S1 k1 Pq tx q⟩⟩
end
def runFor (vg:VG) (vb:P5) (V:bh):List D->List Sl->Prop
 | []=>V.nx
 | d::r=>λS=>vg d S λS3=>vb ⟨runFor vg vb V r,V.rt,V.nx,runFor vg vb V r⟩ S3
def EO (vi:PQ) (vg:VG) (vb:P5):P5:=λV S=>vi S λds S1=>runFor vg vb V ds S1\/∃Iv:Nat->List Sl->Prop,Iv 0 S1/\(∀i d S2,ds[i]?=some d->Iv i S2->vg d S2 λS3=>vb { V with nx:=Iv (i+1),ct:=Iv (i+1),bk:=V.nx } S3)/\∀S2,Iv ds.length S2->V.nx S2
theorem cj {body:List Stmt} {wi:TI} {vi:PQ} {g:TG} {vg:VG} (hp:OW (IB X.prog X.w) X.A X.env X.xe) (hc:X.calm=true) (hi:VI K X tg e wi vi) (hg:Sa K X tg g vg) (hb:SE K X body t v) (hs:∀x,HY e X.env x=pure x:=by intro _;rfl) :
  VS K X (.For tg e body [] pos) (Ej wi g t) (EO vi vg v):=⟨Bp hp hc hi.pi hg.pg hb.ps hs,λH0 Z σ H S V E k t l=>hi.snd H0 Z σ H S _ _ k t λJ ds H1 S1 k1 Pq gd hh=>by
 rcases hh with hr | ⟨Iv,i0,hs,hd⟩
 ·refine ⟨λi m σ H=>m=ds.length-i/\i<=ds.length/\∃S2,OK K H0 Z σ H S2/\Step Z _ S1 H1 σ S2 H/\runFor vg v V (ds.drop i) S2,⟨ds.length,by simp,JV _,S1,k1,.refl,by simpa using hr⟩,?_⟩
  rintro i m σ2 H2 ⟨rfl,hi,S2,k2,Pj,p⟩
  obtain ⟨g1,g2,g3⟩:=gd σ2 S2 H2 (λ_=>k2.nm) Pj.1 i
  by_cases hlt:i<ds.length
  ·rw[JC hlt] at p
   refine .inr ⟨g1 hlt,fun σ' H'=>∃S',OK K H0 Z σ' H' S'/\Step Z σ S1 H1 σ' S' H'/\runFor vg v V (ds.drop (i+1)) S',fun σ' H' p'=>⟨ds.length-(i+1),by lia,rfl,hlt,p'⟩,λx H3 y=>?_⟩
   obtain ⟨hgr,d,hd',rd⟩:=g2 x H3 y hlt
   replace k2:=k2.grow hgr
   replace Pj:=Pj.trans (.grow hgr)
   rw[Hu hlt] at hd'
   cases hd'
   refine hg.snd H0 Z σ2 H3 S2 x _ _ _ k2 rd p fun σ4 H4 S4 k4 PZ q4=>?_
   refine hb.snd H0 Z σ4 H4 S4 _ _ k4 q4 ⟨fun σ' H' S' k' s' q'=>⟨S',k',(Pj.trans PZ).trans s',q'⟩,fun σ' H' S' k' s' q'=>l.nx σ' H' S' k' (((Pq.trans Pj).trans PZ).trans s') q',fun σ' H' S' k' s' q'=>⟨S',k',(Pj.trans PZ).trans s',q'⟩,λv d σ' H' S' k' s' r' q'=>l.rt v d σ' H' S' k' (((Pq.trans Pj).trans PZ).trans s') r' q'⟩
  ·have e:i=ds.length:=by lia
   rw[e,List.drop_length] at p
   exact .inl ⟨g3 e,l.nx _ _ _ k2 (Pq.trans Pj) p⟩
 refine ⟨λi m σ H=>m=ds.length-i/\i<=ds.length/\∃S2,OK K H0 Z σ H S2/\Step Z _ S1 H1 σ S2 H/\Iv i S2,⟨ds.length,by simp,JV _,S1,k1,.refl,i0⟩,?_⟩
 rintro i m σ2 H2 ⟨rfl,hi,S2,k2,Pj,p⟩
 obtain ⟨g1,g2,g3⟩:=gd σ2 S2 H2 (λ_=>k2.nm) Pj.1 i
 by_cases hlt:i<ds.length
 ·refine .inr ⟨g1 hlt,fun σ' H'=>∃S',OK K H0 Z σ' H' S'/\Step Z σ S1 H1 σ' S' H'/\Iv (i+1) S',fun σ' H' p'=>⟨ds.length-(i+1),by lia,rfl,hlt,p'⟩,λx H3 y=>?_⟩
  obtain ⟨hgr,d,hd',rd⟩:=g2 x H3 y hlt
  replace k2:=k2.grow hgr
  replace Pj:=Pj.trans (.grow hgr)
  refine hg.snd H0 Z σ2 H3 S2 x d _ _ k2 rd (hs i d S2 hd' p) fun σ4 H4 S4 k4 PZ q4=>?_
  refine hb.snd H0 Z σ4 H4 S4 _ _ k4 q4 ⟨fun σ' H' S' k' s' q'=>⟨S',k',(Pj.trans PZ).trans s',q'⟩,fun σ' H' S' k' s' q'=>l.nx σ' H' S' k' (((Pq.trans Pj).trans PZ).trans s') q',fun σ' H' S' k' s' q'=>⟨S',k',(Pj.trans PZ).trans s',q'⟩,λv d σ' H' S' k' s' r' q'=>l.rt v d σ' H' S' k' (((Pq.trans Pj).trans PZ).trans s') r' q'⟩
 ·have e:i=ds.length:=by lia
  exact .inl ⟨g3 e,l.nx _ _ _ k2 (Pq.trans Pj) (hd S2 (by rw[<- e];exact p))⟩⟩
end
def aS (n:Nat) (ix:List Nat) (S:List Sl):List Sl:=HH n .no++ix.map λi=>(S[i]?).getD .no
def ml (s t:Sl):Sl:=if s.mut then (if t.mut then t else .no) else s
def cg (n:Nat) (ix:List Nat) (T:List Sl):Nat->List Sl->List Sl
 | _,[]=>[]
 | k,s::r=>(match ix.idxOf? k with | some j=>ml s ((T[n+j]?).getD .no) | none=>s)::cg n ix T (k+1) r
def Pu (n:Nat) (ix:List Nat) (S T:List Sl):List Sl:=cg n ix T 0 S
def QJ (Z:AP) (ix:List Nat) (σ:St) (S:List Sl):AP:=λa=>Z a\/∃(i:Nat) (s:Sl),i∉ix/\S[i]?=some s/\s.mut=true/\σ[i]?=some (some (V.ref a))
section
variable {K:Ho} {H H' H0:Hp} {Z:AP} {σ σ':St} {S T:List Sl} {n:Nat} {ix:List Nat}
theorem iU (k:Nat):(cg n ix T k S).length=S.length:=by
 induction S generalizing k with
 | nil=>rfl
 | cons s r ih=>simp[cg,ih]
theorem xg (k:Nat) {i:Nat} {s:Sl} (h:S[i]?=some s):(cg n ix T k S)[i]?=some (match ix.idxOf? (k+i) with | some j=>ml s ((T[n+j]?).getD .no) | none=>s):=by
 induction S generalizing k i with
 | nil=>simp at h
 | cons s' r ih=>
  cases i with
  | zero=>simp at h;subst h;rfl
  | succ i=>
   simp at h
   simp only[cg,JH]
   rw[ih (k+1) h,show k+1+i=k+(i+1) by lia]
theorem kF {j:Nat} {s:Sl} (h:(aS n ix S)[j]?=some s) (m:s.mut=true):∃k i,j=n+k/\ix[k]?=some i/\S[i]?=some s:=by
 unfold aS at h
 by_cases hj:j<n
 ·rw[Ie (by simpa using hj)] at h
  simp[hj] at h
  subst h;cases m
 ·rw[HV (by simp;lia)] at h
  simp only[Kf,HQ] at h
  cases hk:ix[j-n]? with
  | none=>rw[hk] at h;cases h
  | some i=>
   rw[hk] at h
   simp at h
   refine ⟨j-n,i,by lia,hk,?_⟩
   cases hs:S[i]? with
   | none=>rw[hs] at h;simp at h;subst h;cases m
   | some s'=>rw[hs] at h;simp at h;subst h;rfl
theorem xh {j:Nat} {s:Sl} (h:(aS n ix S)[j]?=some s):s=.no\/∃k i,j=n+k/\ix[k]?=some i/\S[i]?=some s:=by
 unfold aS at h
 by_cases hj:j<n
 ·rw[Ie (by simpa using hj)] at h
  simp[hj] at h
  exact .inl h.symm
 ·rw[HV (by simp;lia)] at h
  simp only[Kf,HQ] at h
  cases hk:ix[j-n]? with
  | none=>rw[hk] at h;cases h
  | some i=>
   rw[hk] at h
   simp at h
   cases hs:S[i]? with
   | none=>rw[hs] at h;simp at h;exact .inl h.symm
   | some s'=>rw[hs] at h;simp at h;subst h;exact .inr ⟨j-n,i,by lia,hk,hs⟩
theorem gc {k i:Nat} (h:ix[k]?=some i):(capt n ix σ)[n+k]?=some ((σ[i]?).getD none):=by
 unfold capt
 rw[HV (by simp)]
 simp[h]
theorem xi {k i:Nat} (h:ix[k]?=some i):(aS n ix S)[n+k]?=some ((S[i]?).getD .no):=by
 unfold aS
 rw[HV (by simp)]
 simp[h]
theorem dq {k i:Nat} (h:ix[k]?=some i) (e:(capt n ix σ)[n+k]?=some (some v)):σ[i]?=some (some v):=by
 rw[gc h] at e
 cases hs:σ[i]? with
 | none=>rw[hs] at e;cases e
 | some o=>rw[hs] at e;simp at e;rw[e]
theorem eI {a:Addr}:Mo (QJ Z ix σ S) (capt n ix σ) (aS n ix S) a↔Mo Z σ S a:=by
 constructor
 ·rintro (⟨j,s,h1,h2,h3⟩ | h | ⟨i,s,_,h1,h2,h3⟩)
  ·obtain ⟨k,i,rfl,hk,hs⟩:=kF h1 h2
   exact .inl ⟨i,s,hs,h2,dq hk h3⟩
  ·exact .inr h
  ·exact .inl ⟨i,s,h1,h2,h3⟩
 ·rintro (⟨i,s,h1,h2,h3⟩ | h)
  ·by_cases hi:i∈ix
   ·obtain ⟨k,hk⟩:=List.getElem?_of_mem hi
    refine .inl ⟨n+k,s,?_,h2,?_⟩
    ·rw[xi hk,h1];rfl
    ·rw[gc hk,h3];rfl
   ·exact .inr (.inr ⟨i,s,hi,h1,h2,h3⟩)
  ·exact .inr (.inl h)
theorem qH {l:List Nat} (h:l.Nodup):∀{i j x:Nat},l[i]?=some x->l[j]?=some x->i=j:=λ{i j x} h1 h2=>by
 obtain ⟨a,e1⟩:=List.getElem?_eq_some_iff.mp h1
 obtain ⟨b,e2⟩:=List.getElem?_eq_some_iff.mp h2
 have hp:=List.pairwise_iff_getElem.mp h
 rcases Nat.lt_trichotomy i j with c | c | c
 ·exact (hp i j a b c (by rw[e1,e2])).elim
 ·exact c
 ·exact (hp j i b a c (by rw[e1,e2])).elim
theorem OK.capt (k:OK K H0 Z σ H S) (hn:ix.Nodup):OK K H0 (QJ Z ix σ S) (L2.capt n ix σ) H (aS n ix S) where
 len:=by simp[L2.capt,aS]
 dom:=k.dom
 zl:=λa z=>by
  rcases z with z | ⟨i,s,_,h1,h2,h3⟩
  ·exact k.zl a z
  ·exact k.mo (.inl ⟨i,s,h1,h2,h3⟩)
 nz:=λj s a h1 h2 h3 z=>by
  obtain ⟨q,i,rfl,hk,hs⟩:=kF h1 h2
  have e:=dq hk h3
  rcases z with z | ⟨i',s',hi',g1,g2,g3⟩
  ·exact k.nz i s a hs h2 e z
  ·have:=k.inj i i' a s s' hs g1 h2 g2 e g3
   subst this
   exact hi' (Jp hk)
 inj:=λj j' a s s' h1 h2 m1 m2 h3 h4=>by
  obtain ⟨q,i,rfl,hk,hs⟩:=kF h1 m1
  obtain ⟨q',i',rfl,TU,hs'⟩:=kF h2 m2
  have:=k.inj i i' a s s' hs hs' m1 m2 (dq hk h3) (dq TU h4)
  subst this
  rw[qH hn hk TU]
 at_:=λj o s h1 h2=>by
  have hN:∀a,NM Z σ S a->NM (QJ Z ix σ S) (L2.capt n ix σ) (aS n ix S) a:=λa x z=>x (eI.mp z)
  rcases xh h2 with rfl | ⟨q,i,rfl,hk,hs⟩
  ·trivial
  ·rw[gc hk] at h1
   obtain ⟨o',e1,sl⟩:=k.ownAt hs
   rw[e1] at h1
   simp at h1
   subst h1
   cases s with
   | no=>trivial
   | val d=>obtain ⟨v,e,r⟩:=sl;exact ⟨v,e,r.mono (λa x _=>⟨hN a x,rfl⟩) λ_ x=>x⟩
   | fre d=>obtain ⟨v,e,r⟩:=sl;exact ⟨v,e,r.mono (λa x _=>⟨hN a x,rfl⟩) λ_ x=>x⟩
   | own ds=>obtain ⟨a,vs,e,e',e0,r⟩:=sl;exact ⟨a,vs,e,e',e0,r.mono (λa x _=>⟨hN a x,rfl⟩) λ_ x=>x⟩
   | pen ad ns=>exact sl
   | odi ks ds=>obtain ⟨a,vs,e,e',e0,ek,r⟩:=sl;exact ⟨a,vs,e,e',e0,⟨ek.1,ek.2.mono (λa x _=>⟨hN a x,rfl⟩) λ_ x=>x⟩,r.mono (λa x _=>⟨hN a x,rfl⟩) λ_ x=>x⟩
   | obj k=>obtain ⟨a,e,e0,r⟩:=sl;exact ⟨a,e,e0,k.mono (λa x _=>⟨hN a x,rfl⟩) rfl r⟩
theorem tD {i j:Nat} (h:ix.idxOf? i=some j):ix[j]?=some i:=by
 unfold OY at h
 obtain ⟨h1,h2,_⟩:=List.findIdx?_eq_some_iff_getElem.mp h
 rw[Hu h1]
 simpa using h2
theorem tE {i:Nat} (h:ix.idxOf? i=none):i∉ix:=by
 unfold OY at h
 intro hm
 have:=List.findIdx?_eq_none_iff.mp h i hm
 simp at this
theorem mm {i:Nat} {s:Sl} (h:S[i]?=some s):(Pu n ix S T)[i]?=some (match ix.idxOf? i with | some j=>ml s ((T[n+j]?).getD .no) | none=>s):=by
 have:=xg (n:=n) (ix:=ix) (T:=T) 0 h
 rwa [Lc] at this
theorem d0 {i:Nat} {s':Sl} (h:(Pu n ix S T)[i]?=some s') (m:s'.mut=true):∃s,S[i]?=some s/\s.mut=true/\((∃j,ix[j]?=some i/\T[n+j]?=some s')\/(i∉ix/\s=s')):=by
 have hl:i<S.length:=by
  have:=(List.getElem?_eq_some_iff.mp h).1
  rwa [show (Pu n ix S T).length=S.length from iU 0] at this
 have e:=mm (n:=n) (ix:=ix) (T:=T) (Hu hl)
 rw[h] at e
 have e:=Ij e
 refine ⟨_,Hu hl,?_⟩
 cases hx:ix.idxOf? i with
 | none=>
  rw[hx] at e
  have e:s'=S[i]:=e
  exact ⟨by rw[<- e];exact m,.inr ⟨tE hx,e.symm⟩⟩
 | some j=>
  rw[hx] at e
  simp only[ml] at e
  by_cases hm:(S[i]).mut=true
  ·rw[if_pos hm] at e
   refine ⟨hm,.inl ⟨j,tD hx,?_⟩⟩
   cases ht:T[n+j]? with
   | none=>rw[ht] at e;simp[Sl.mut] at e;subst e;cases m
   | some t=>
    rw[ht] at e
    simp only[Option.getD_some] at e
    by_cases U5:t.mut=true
    ·rw[if_pos U5] at e;rw[e]
    ·rw[if_neg U5] at e;subst e;cases m
  ·rw[if_neg hm] at e;subst e;exact (hm m).elim
theorem qI {i:Nat} {s':Sl} (h:(Pu n ix S T)[i]?=some s') (m:s'.mut=false):s'=.no\/S[i]?=some s':=by
 have hl:i<S.length:=by
  have:=(List.getElem?_eq_some_iff.mp h).1
  rwa [show (Pu n ix S T).length=S.length from iU 0] at this
 have e:=mm (n:=n) (ix:=ix) (T:=T) (Hu hl)
 rw[h] at e
 have e:=Ij e
 cases hx:ix.idxOf? i with
 | none=>rw[hx] at e;exact .inr (by rw[Hu hl,e])
 | some j=>
  rw[hx] at e
  simp only[ml] at e
  by_cases hm:(S[i]).mut=true
  ·rw[if_pos hm] at e
   by_cases U5:((T[n+j]?).getD .no).mut=true
   ·rw[if_pos U5] at e;rw[e,U5] at m;cases m
   ·rw[if_neg U5] at e;exact .inl e
  ·rw[if_neg hm] at e;exact .inr (by rw[Hu hl,e])
theorem OK.back (k:OK K H0 Z σ H S) (k':OK K H0 (QJ Z ix σ S) σ' H' T) (st:Step (QJ Z ix σ S) (L2.capt n ix σ) (aS n ix S) H σ' T H') (hσ:∀(i:Nat) (v:V),(L2.capt n ix σ)[i]?=some (some v)->σ'[i]?=some (some v)) :
  OK K H0 Z σ H' (Pu n ix S T)/\Step Z σ S H σ (Pu n ix S T) H'/\∀a,NM (QJ Z ix σ S) σ' T a->NM Z σ (Pu n ix S T) a:=by
 have mo':∀a,Mo Z σ (Pu n ix S T) a->Mo (QJ Z ix σ S) σ' T a:=λa z=>by
  rcases z with ⟨i,s',h1,h2,h3⟩ | z
  ·obtain ⟨s,e,em,⟨j,hj,ht⟩ | ⟨hi,rfl⟩⟩:=d0 h1 h2
   ·exact .inl ⟨n+j,s',ht,h2,hσ _ _ (by rw[gc hj,h3];rfl)⟩
   ·exact .inr (.inr ⟨i,s,hi,e,em,h3⟩)
  ·exact .inr (.inl z)
 have U6:∀a,NM (QJ Z ix σ S) σ' T a->NM Z σ (Pu n ix S T) a:=λa x z=>x (mo' a z)
 have nm0:∀a,NM Z σ S a->NM (QJ Z ix σ S) (L2.capt n ix σ) (aS n ix S) a:=λa x z=>x (eI.mp z)
 have old:∀a,NM Z σ S a->H a≠none->NM Z σ (Pu n ix S T) a/\H' a=H a:=λa x e=>⟨U6 a (st.1 a (nm0 a x) e).2,(st.1 a (nm0 a x) e).1⟩
 refine ⟨⟨by rw[show (Pu n ix S T).length=S.length from iU 0];exact k.len,λi o s' h1 h2=>?_,λi j a s t h1 h2 m1 m2 h3 h4=>?_,λa e=>k'.dom a e,λa z=>k'.zl a (.inl z),λi s a h1 m h3 z=>?_⟩,⟨λa x e=>⟨(old a x e).2,(old a x e).1⟩,st.2.1,λa z e=>st.2.2 a (.inl z) e⟩,U6⟩
 ·cases hm:s'.mut with
  | true=>
   obtain ⟨s,e,em,⟨j,hj,ht⟩ | ⟨hi,rfl⟩⟩:=d0 h2 hm
   ·have eo:∃v,o=some v:=by
     obtain ⟨o',e1,q⟩:=k.ownAt e
     rw[h1] at e1;cases e1
     cases s with
     | no=>cases em
     | val d=>cases em
     | fre d=>cases em
     | own ds=>obtain ⟨a,_,e,_⟩:=q;exact ⟨_,e⟩
     | pen ad ns=>obtain ⟨a,e,_⟩:=q;exact ⟨_,e⟩
     | odi ks ds=>obtain ⟨a,_,e,_⟩:=q;exact ⟨_,e⟩
     | obj k=>obtain ⟨a,e,_⟩:=q;exact ⟨_,e⟩
    obtain ⟨v,rfl⟩:=eo
    have q:=k'.at_ (n+j) (some v) s' (hσ _ _ (by rw[gc hj,h1];rfl)) ht
    cases s' with
    | no=>cases hm
    | val d=>cases hm
    | fre d=>cases hm
    | own ds=>obtain ⟨a,vs,e,e',e0,r⟩:=q;exact ⟨a,vs,e,e',e0,r.mono (λa x _=>⟨U6 a x,rfl⟩) λ_ x=>x⟩
    | pen ad ns=>exact q
    | odi ks ds=>obtain ⟨a,vs,e,e',e0,ek,r⟩:=q;exact ⟨a,vs,e,e',e0,⟨ek.1,ek.2.mono (λa x _=>⟨U6 a x,rfl⟩) λ_ x=>x⟩,r.mono (λa x _=>⟨U6 a x,rfl⟩) λ_ x=>x⟩
    | obj k=>obtain ⟨a,e,e0,r⟩:=q;exact ⟨a,e,e0,k.mono (λa x _=>⟨U6 a x,rfl⟩) rfl r⟩
   ·obtain ⟨o',e1,q⟩:=k.ownAt e
    rw[h1] at e1;cases e1
    have hz:∀a us,o=some (V.ref a)->H a=some us->H' a=H a:=λa us eo ea=>st.2.2 a (.inr ⟨i,s,hi,e,em,by rw[h1,eo]⟩) (by simp[ea])
    cases s with
    | no=>cases hm
    | val d=>cases hm
    | fre d=>cases hm
    | own ds=>obtain ⟨a,vs,e,e',e0,r⟩:=q;exact ⟨a,vs,e,(hz a _ e e').trans e',e0,r.mono old λ_ x=>x⟩
    | pen ad ns=>obtain ⟨a,e,e1,e'⟩:=q;exact ⟨a,e,e1,(hz a _ e e').trans e'⟩
    | odi ks ds=>obtain ⟨a,vs,e,⟨ob,e'⟩,e0,ek,r⟩:=q;exact ⟨a,vs,e,⟨ob,(hz a _ e e').trans e'⟩,e0,⟨ek.1,ek.2.mono old λ_ x=>x⟩,r.mono old λ_ x=>x⟩
    | obj k=>obtain ⟨a,e,e0,r⟩:=q;exact ⟨a,e,e0,k.mono old (hz a _ e (Option.ne_none_iff_exists'.mp (k.ism r).ne).choose_spec) r⟩
  | false=>
   rcases qI h2 hm with rfl | e
   ·trivial
   ·have q:=k.at_ i o s' h1 e
    cases s' with
    | no=>trivial
    | val d=>obtain ⟨v,e,r⟩:=q;exact ⟨v,e,r.mono old λ_ x=>x⟩
    | fre d=>obtain ⟨v,e,r⟩:=q;exact ⟨v,e,r.mono old λ_ x=>x⟩
    | own ds=>cases hm
    | pen ad ns=>cases hm
    | odi ks ds=>cases hm
    | obj k=>cases hm
 ·obtain ⟨s0,e0,Xh,c1⟩:=d0 h1 m1
  obtain ⟨t0,f0,fm0,c2⟩:=d0 h2 m2
  exact k.inj i j a s0 t0 e0 f0 Xh fm0 h3 h4
 ·obtain ⟨s0,e0,Xh,c1⟩:=d0 h1 m
  exact k.nz i s0 a e0 Xh h3 z
end
section
variable {K:Ho} {X:Cx} {e a b c tg elt iter:Expr} {te:TE} {va:VT} {pos:Pos}
structure SO (K:Ho) (X:Cx) (ifs:List Expr) (te:TT) (t:Qo):Prop where
 pe:SA X ifs te
 snd:Rg K te t
def zL:Qo:=λS Q=>Q true S
theorem bQ:SO K X [] zD zL:=⟨w6,λ_ _ _ _ _ _ _ k h q=>q _ _ _ k .refl h⟩
theorem eJ {tA:TT} {wA:Qo} (h:R9 K X c tA wA):SO K X [c] tA wA:=⟨w9 h.pe,h.snd⟩
def mn (vi:PQ) (n:Nat) (ix:List Nat) (vg:VG) (vt:Qo) (ve:VT):PQ:=λS Q=>vi S λds S1=>ds.length<=1000000/\∃Iv:Nat->List D->List Sl->Prop,Iv 0 [] S1 /\
 (∀i d ys S2,ds[i]?=some d->Iv i ys S2->vg d (aS n ix S2) λS3=>vt S3 λb S4=>if b=true then ve S4 λr S5=>∃x,r=.d x/\Iv (i+1) (ys++[x]) (Pu n ix S2 S5) else Iv (i+1) ys (Pu n ix S2 S4)) /\
 ∀ys S2,Iv ds.length ys S2->Q ys S2
theorem tF {ifs:List Expr} {scope:JX} {tg cs:List Str} {target:Expr} {wi:TI} {vi:PQ} {g:TG} {vg:VG} {tc:TT} {vt:Qo} {te:TE} {ve:VT} (Sc:aV X scope tg cs ix) (Pv:X.calm=true) (kg:cG tg.length ix g) (hnd:ix.Nodup) {Φ:Hp->Prop} (hΦ:∀pins σ H s,Inv X pins σ H s->Φ H) (h0:Φ X.H₀)
  (hi:VI K X target iter wi vi) (hg:∀C fp s H,Sa K (ak X scope (tg++cs) C fp s H) target g vg) (hc:∀C fp s H,Φ H->SO K (ak X scope (tg++cs) C fp s H) ifs tc vt) (he:∀C fp s H,Φ H->VE K (ak X scope (tg++cs) C fp s H) true elt te ve)
  (hs:∀x,HY iter X.env x=pure x:=by intro _;rfl):VN K X (.ListComp elt [⟨target,iter,ifs,0⟩] scope pos) (iL wi tg.length ix g tc te) (mn vi tg.length ix vg vt ve):=by
 have sg:RL K g vg:=(hg 0 [] X.s₀ (λ_=>none)).snd
 have sc:Rg K tc vt:=(hc 0 [] X.s₀ X.H₀ h0).snd
 have se:Qm K true te ve:=(he 0 [] X.s₀ X.H₀ h0).snd
 refine ⟨sT Sc Pv kg hΦ hi.pi (λC fp s H=>(hg C fp s H).pg) (λC fp s H z=>(hc C fp s H z).pe) (λC fp s H z=>(he C fp s H z).pe) hs,λH0 Z σ H S Q C k t hq=>?_⟩
 refine hi.snd H0 Z σ H S _ _ k t λJ ds H1 S1 k1 Pq gd Pk=>?_
 obtain ⟨hl,Iv,i0,hs,hd⟩:=Pk
 refine ⟨λi m ys H=>m=ds.length-i/\i<=ds.length/\ys.length<=i/\∃S2 zs,OK K H0 Z σ H S2/\Step Z σ S1 H1 σ S2 H/\Pi K (NM Z σ S2) (Fr H0) H ys zs/\Iv i zs S2,⟨ds.length,by simp,JV _,HA _,S1,[],k1,.refl,.nil,i0⟩,?_⟩
 rintro i m ys H2 ⟨rfl,hi,hy,S2,zs,k2,Pj,rz,p⟩
 obtain ⟨g1,g2,g3⟩:=gd σ S2 H2 (λ_=>k2.nm) Pj.1 i
 have hsz:(1000000:Nat)<Ii:=by rw[IL];lia
 by_cases hlt:i<ds.length
 ·refine .inr ⟨g1 hlt,by lia,λQj H'=>Qj.length<=i+1/\∃S' QQ,OK K H0 Z σ H' S'/\Step Z σ S1 H1 σ S' H'/\Pi K (NM Z σ S') (Fr H0) H' Qj QQ/\Iv (i+1) QQ S',λQj H' PH=>by obtain ⟨p1,p2⟩:=PH;exact ⟨ds.length-(i+1),by lia,rfl,hlt,p1,p2⟩,λx H3 y=>?_⟩
  obtain ⟨hgr,d,hd',rd⟩:=g2 x H3 y hlt
  replace k2:=k2.grow hgr
  replace Pj:=Pj.trans (.grow hgr)
  replace rz:=rz.step (.grow hgr)
  have kc:=k2.capt (n:=tg.length) hnd
  have To:Rep K (NM (QJ Z ix σ S2) (L2.capt tg.length ix σ) (aS tg.length ix S2)) Pz H3 x d:=rd.mono (λa n _=>⟨λz=>n (eI.mp z),rfl⟩) λ_ x=>x
  -- QG target leaves Ub QG block took over
  have h1:=sg H0 _ _ H3 _ x d _ (fun σ4 H4=>∃S4,OK K H0 (QJ Z ix σ S2) σ4 H4 S4/\Step (QJ Z ix σ S2) (L2.capt tg.length ix σ) (aS tg.length ix S2) H3 σ4 S4 H4/\vt S4 λb S5=>if b=true then ve S5 λr S6=>∃x,r=.d x/\Iv (i+1) (zs++[x]) (Pu tg.length ix S2 S6) else Iv (i+1) zs (Pu tg.length ix S2 S5)) kc To (hs i d zs S2 hd' p) (fun σ4 H4 S4 k4 PZ q4=>⟨S4,k4,PZ,q4⟩)
  have h2:=kg x σ H3 _ h1
  refine (hg 0 [] X.s₀ (λ_=>none)).mono _ _ _ _ _ ?_ h2
  rintro σ4 H4 ⟨⟨Xi,SF⟩,S4,k4,PZ,q4⟩
  refine sc H0 _ σ4 H4 S4 _ _ k4 q4 λbb H5 S5 k5 Py q5=>?_
  cases bb with
  | false=>
   rw[if_neg Hy] at q5 ⊢
   obtain ⟨kb,sb,nb⟩:=k2.back k5 (PZ.trans Py) SF
   exact ⟨by lia,_,zs,kb,Pj.trans sb,rz.step sb,q5⟩
  | true=>
   rw[if_pos rfl] at q5 ⊢
   refine se H0 _ σ4 H5 S5 _ _ k5 q5 λvv H6 r S6 k6 Sq rr Pk=>?_
   obtain ⟨xx,er,q6⟩:=Pk
   subst er
   obtain ⟨kb,sb,nb⟩:=k2.back k6 ((PZ.trans Py).trans Sq) SF
   refine ⟨by simp;lia,_,zs++[xx],kb,Pj.trans sb,Pi.append (rz.step sb) (.cons (Rep.mono (λa n _=>⟨nb a n,rfl⟩) (λ_ x=>x rfl) rr) .nil),q6⟩
 ·have e:i=ds.length:=by lia
  refine .inl ⟨g3 e,by lia,λl hp=>?_⟩
  exact hq l ys zs H2 _ S2 k2 (Pq.trans Pj) hp (aG hp) aw (bC hp (rz.mono (λ_ n _=>⟨n,rfl⟩) λ_ x _=>x)) (hd zs S2 (by rw[<- e];exact p))
theorem bR {ifs:List Expr} {scope:JX} {tg cs:List Str} {target:Expr} {wi:TI} {vi:PQ} {g:TG} {vg:VG} {tc:TT} {vt:Qo} {te:TE} {ve:VT} (Sc:aV X scope tg cs ix) (Pv:X.calm=true) (kg:cG tg.length ix g) (hnd:ix.Nodup)
  (hi:VI K X target iter wi vi) (hg:∀C fp s H,Sa K (ak X scope (tg++cs) C fp s H) target g vg) (hc:∀C fp s H,SO K (ak X scope (tg++cs) C fp s H) ifs tc vt) (he:∀C fp s H,VE K (ak X scope (tg++cs) C fp s H) true elt te ve)
  (hs:∀x,HY iter X.env x=pure x:=by intro _;rfl):VN K X (.ListComp elt [⟨target,iter,ifs,0⟩] scope pos) (iL wi tg.length ix g tc te) (mn vi tg.length ix vg vt ve):=
 tF Sc Pv kg hnd (Φ:=λ_=>True) (λ_ _ _ _ _=>trivial) trivial hi hg (λC fp s H _=>hc C fp s H) (λC fp s H _=>he C fp s H) hs
theorem tG {elt iter:Expr} {pos QL py:Pos} {yy:Str} {ii:Nat} {ifs:List Expr} {scope:JX} {tg cs:List Str} {target:Expr} {wi:TI} {vi:PQ} {g:TG} {vg:VG} {tc:TT} {vt:Qo} {te:TE} {ve:VT} (Tf:X.N.Nodup) (Tg:X.N[ii]?=some yy) (Ti:Loc X.env.scope yy) (SN:X.fn yy=true\/X.env.scope.names.lookup yy=some .local)
  (Sc:aV X scope tg cs ix) (Pv:X.calm=true) (kg:cG tg.length ix g) (hnd:ix.Nodup)
  (hi:VI K X target iter wi vi) (hg:∀C fp s H,Sa K (ak X scope (tg++cs) C fp s H) target g vg) (hc:∀C fp s H,SO K (ak X scope (tg++cs) C fp s H) ifs tc vt) (he:∀C fp s H,VE K (ak X scope (tg++cs) C fp s H) true elt te ve)
  (hsw:Ke (.ListComp elt [⟨target,iter,ifs,0⟩] scope pos) (some (.Name yy py)) QL.line X.env=pure true:=by rfl) (hs:∀x,HY iter X.env x=pure x:=by intro _;rfl):VS K X (.Assign [.Name yy py] (.ListComp elt [⟨target,iter,ifs,0⟩] scope pos) QL) (dY (iL wi tg.length ix g tc te) (bB ii)) (tm ii (mn vi tg.length ix vg vt ve)):=by
 have h:=bR (pos:=pos) Sc Pv kg hnd hi hg hc he hs
 refine ⟨me Tf Tg Ti Sc Pv kg hi.pi (λC fp s H=>(hg C fp s H).pg) (λC fp s H=>(hc C fp s H).pe) (λC fp s H=>(he C fp s H).pe) SN hsw hs,λH0 Z σ H S V E k t l=>h.snd H0 Z σ H S _ _ k t λa vs ds H1 H' S' k1 Pq ha hg hl rr Pk=>?_⟩
 obtain ⟨hi,q⟩:=Pk
 obtain ⟨k2,Pj⟩:=k1.setNew (s:=.own ds) hi ha hg ⟨a,vs,rfl,hl,k1.dom a ha,rr⟩ rfl
 exact l.nx _ _ _ k2 (Pq.trans Pj) q
theorem mq {elt iter:Expr} {pos QL py:Pos} {yy:Str} {ii:Nat} {ifs:List Expr} {scope:JX} {tg cs:List Str} {target:Expr} {wi:TI} {vi:PQ} {g:TG} {vg:VG} {tc:TT} {vt:Qo} {te:TE} {ve:VT} (Tf:X.N.Nodup) (Tg:X.N[ii]?=some yy) (Ti:Loc X.env.scope yy) (SN:X.fn yy=true\/X.env.scope.names.lookup yy=some .local)
  (Sc:aV X scope tg cs ix) (Pv:X.calm=true) (kg:cG tg.length ix g) (hnd:ix.Nodup)
  (hi:VI K X target iter wi vi) (hg:∀C fp s H,Sa K (ak X scope (tg++cs) C fp s H) target g vg) (hc:∀C fp s H,SO K (ak X scope (tg++cs) C fp s H) ifs tc vt) (he:∀C fp s H,VE K (ak X scope (tg++cs) C fp s H) true elt te ve)
  (hsw:Ke (.ListComp elt [⟨target,iter,ifs,0⟩] scope pos) (some (.Name yy py)) QL.line X.env=pure true:=by rfl) (hs:∀x,HY iter X.env x=pure x:=by intro _;rfl):VS K X (.Assign [.Name yy py] (.ListComp elt [⟨target,iter,ifs,0⟩] scope pos) QL) (dY (iL wi tg.length ix g tc te) (bB ii)) (nP (qG (mn vi tg.length ix vg vt ve)) (Uk ii)):=by
 have h:=bR (pos:=pos) Sc Pv kg hnd hi hg hc he hs
 refine ⟨me Tf Tg Ti Sc Pv kg hi.pi (λC fp s H=>(hg C fp s H).pg) (λC fp s H=>(hc C fp s H).pe) (λC fp s H=>(he C fp s H).pe) SN hsw hs,kE (aH (m:=false) h).snd λH0 Z σ H S v d Q C k r PH hc=>by obtain ⟨hi,q⟩:=PH;exact hc _ _ _ (k.setVal hi r).1 (k.setVal hi r).2 q⟩
end
end VL
end
section
namespace VL
open PySem L2
section
variable {P:Ip} {w:Ji} {K:Ho} {mg:Str->Option Ht} {base:Heap}
def slots (n:Nat) (ds:List D):List Sl:=ds.map .val++HH (n-ds.length) .no
theorem iV {N:List Str} {i:Nat} (h:vs[i]?=some v):(start N vs)[i]?=some (some v):=by
 unfold L2.start
 have hi:=(List.getElem?_eq_some_iff.mp h).1
 rw[Ie (by simpa using hi)]
 simp[h]
theorem mr {n:Nat} {i:Nat} {s:Sl} (h:(slots n ds)[i]?=some s):s=.no\/∃d,s=.val d/\ds[i]?=some d:=by
 unfold slots at h
 by_cases hi:i<ds.length
 ·rw[Ie (by simpa using hi)] at h
  simp[hi] at h
  subst h
  exact .inr ⟨_,rfl,by simp[hi]⟩
 ·rw[HV (by simpa using hi)] at h
  have:=Jp h
  exact .inl (MD this)
theorem cU {n:Nat} {i:Nat} {s:Sl} (h:(slots n ds)[i]?=some s):s.mut=false:=by
 rcases mr h with rfl | ⟨d,rfl,_⟩ <;> rfl
theorem mw {N:List Str} (r:Pi K Any Pz H vs ds):OK K H (λ_=>False) (start N vs) H (slots N.length ds) where
 len:=by simp[L2.start,slots,r.length]
 dom:=λ_ e=>e
 zl:=λ_ z=>z.elim
 nz:=λi s a h m _=>by rw[cU h] at m;cases m
 inj:=λi j a s t h1 h2 m1=>by rw[cU h1] at m1;cases m1
 at_:=λi o s h1 h2=>by
  rcases mr h2 with rfl | ⟨d,rfl,e⟩
  ·trivial
  ·obtain ⟨v,e1,e2⟩:=r.getD e
   rw[iV e1] at h1
   cases h1
   refine ⟨v,rfl,e2.mono (λa _ _=>⟨?_,rfl⟩) λ_ x=>x⟩
   rintro (⟨j,s,g1,g2,_⟩ | z)
   ·rw[cU g1] at g2;cases g2
   ·exact z
theorem bF {x:Str} {st:Stmt} {N ps:List Str} {k:Nat} (S:Src K mg x st) (sc:aD N ps (aj st))
  (hb:∀(kV doc pm:Ht) (an:Option Addr) (PC ct:Ht) (us:List Ht),us.length=ps.length->Nu (JP x x (cO st) (bJ st) (aj st) .none kV doc pm an PC ct) ⟨us,[]⟩=pure (ps.zip us))
  (len:∀ds R,p ds R->ds.length=ps.length)
  (hbody:∀(f:Addr) (PC:Ht) (A:Js) (outer:List Env) (s:Hv) (H:Hp) (E:XK),cy k (A.deeper (L7 x (aj st) s.heap.objs.size f PC)) ->
   ∃ts t,SE K (hV Sz P w K mg base N x (aj st) f PC A outer s H E).nox (bJ st) ts t/\∀ds R,p ds R->t { nx:=λ_=>R .non,rt:=λd _=>R d } (slots N.length ds)):PK P w K mg base (k+1) x ps (PM K p):=by
 refine S.has sc hb (λvs H Q E Px=>by obtain ⟨ds,R,r,h,_⟩:=Px;rw[r.length];exact len ds R h) λf PC A outer s H vs Q E hr ⟨ds,R,r,h,fin⟩=>?_
 obtain ⟨ts,t,Q0,q⟩:=hbody f PC A outer s H E hr
 have k0:=mw (N:=N) r
 have VU:∀{σ' S' H'},Step (λ_=>False) (start N vs) (slots N.length ds) H σ' S' H'->∀a,H a≠none->H' a=H a:=λst a e=>(st.1 a (by
  rintro (⟨j,s,g1,g2,_⟩ | z)
  ·rw[cU g1] at g2;cases g2
  ·exact z) e).1
 refine ⟨ts,Q0.ps,Q0.snd H _ _ H _ _ _ k0 (q ds R h) ⟨fun σ' H' S' k' st q=>fin .non .non H' q (VU st) .non,fun σ' H' S' k' st q=>q.elim,fun σ' H' S' k' st q=>q.elim,λv d σ' H' S' k' st rr q=>fin d v H' q (VU st) (rr.mono (λ_ _ _=>⟨trivial,rfl⟩) λ_ x=>x)⟩⟩
def eK (n:Nat) (a:Addr) (ns:List Int) (ds es:List D):List Sl:=ds.map .val++.pen (some a) ns::(es.map .val++HH (n-(ds.length+1+es.length)) .no)
theorem jP {n:Nat} {a:Addr} {ds es:List D} {i:Nat} {s:Sl} (h:(eK n a ns ds es)[i]?=some s):s=.no\/(∃d,s=.val d/\(ds++.non::es)[i]?=some d/\i≠ds.length)\/(i=ds.length/\s=.pen (some a) ns):=by
 unfold eK at h
 by_cases hi:i<ds.length
 ·rw[Ie (by simpa using hi)] at h
  simp[hi] at h
  subst h
  exact .inr (.inl ⟨_,rfl,by rw[Ie hi];simp[hi],by lia⟩)
 ·by_cases RM:i=ds.length
  ·subst RM
   rw[HV (by simp)] at h
   simp at h
   exact .inr (.inr ⟨rfl,h.symm⟩)
  ·rw[HV (by simp;lia)] at h
   rw[Hz] at h
   obtain ⟨j,hj⟩:∃j,i-ds.length=j+1:=⟨i-ds.length-1,by lia⟩
   rw[hj,JH] at h
   by_cases Ww:j<es.length
   ·rw[Ie (by simpa using Ww)] at h
    simp[Ww] at h
    subst h
    refine .inr (.inl ⟨_,rfl,?_,RM⟩)
    rw[HV (by lia),hj,JH]
    simp[Ww]
   ·rw[HV (by simpa using Ww)] at h
    exact .inl (MD (Jp h))
theorem tI {x:Str} {st:Stmt} {N ps:List Str} {k:Nat} (j:Nat) {p:List Int->List D->(D->List Int->Prop)->Prop} (S:Src K mg x st) (sc:aD N ps (aj st))
  (hb:∀(kV doc pm:Ht) (an:Option Addr) (PC ct:Ht) (us:List Ht),us.length=ps.length->Nu (JP x x (cO st) (bJ st) (aj st) .none kV doc pm an PC ct) ⟨us,[]⟩=pure (ps.zip us))
  (len:∀ns ds R,p ns ds R->ds.length+1=ps.length)
  (hbody:∀(f:Addr) (PC:Ht) (A:Js) (outer:List Env) (s:Hv) (H:Hp) (E:XK),cy k (A.deeper (L7 x (aj st) s.heap.objs.size f PC)) ->
   ∃ts t,SE K (hV Sz P w K mg base N x (aj st) f PC A outer s H E).nox (bJ st) ts t/\∀a ns ds es R,ds.length=j->p ns (ds++es) R->t { nx:=λS'=>∃ns',S'[j]?=some (.pen (some a) ns')/\R .non ns',rt:=λd S'=>∃ns',S'[j]?=some (.pen (some a) ns')/\R d ns' } (eK N.length a ns ds es)) :
  PK P w K mg base (k+1) x ps (SD K j p):=by
 refine S.has sc hb (λvs H Q E Px=>by
  obtain ⟨a,ws,us,ns,ds,es,R,e,hl,hp,r1,r2,h,_⟩:=Px
  have:=len _ _ _ h
  rw[e,HK,IM,r1.length,r2.length]
  rw[HK] at this
  lia) λf PC A outer s H vs Q E hr Pk=>?_
 obtain ⟨a,ws,us,ns,ds,es,R,e,hl,hp,r1,r2,h,fin⟩:=Pk
 subst e
 obtain ⟨ts,t,Q0,q⟩:=hbody f PC A outer s H E hr
 have hdl:ds.length=j:=by rw[<- r1.length];exact hl
 subst hdl
 have hmut:∀{i:Nat} {s:Sl},(eK N.length a ns ds es)[i]?=some s->s.mut=true->i=ds.length/\s=.pen (some a) ns:=λ{i s} h m=>by
  rcases jP h with rfl | ⟨d,rfl,_⟩ | h
  ·cases m
  ·cases m
  ·exact h
 have hpen:(start N (ws++.ref a::us))[ds.length]?=some (some (V.ref a)):=iV (by rw[<- hl];simp)
 have hmo:∀b,Mo (λ_=>False) (start N (ws++.ref a::us)) (eK N.length a ns ds es) b->b=a:=λb z=>by
  rcases z with ⟨i,s,g1,g2,g3⟩ | z
  ·obtain ⟨rfl,_⟩:=hmut g1 g2
   rw[hpen] at g3;cases g3;rfl
  ·exact z.elim
 have hll:N.length-(ws.length+(us.length+1))=N.length-(ds.length+1+es.length):=by rw[r1.length,r2.length];lia
 have k0:OK K H (λ_=>False) (start N (ws++.ref a::us)) H (eK N.length a ns ds es):={
  len:=by simp[L2.start,eK,r1.length,r2.length];lia
  dom:=λ_ e=>e
  zl:=λ_ z=>z.elim
  nz:=λ_ _ _ _ _ _ z=>z
  inj:=λi j a s t h1 h2 m1 m2 _ _=>by rw[(hmut h1 m1).1,(hmut h2 m2).1]
  at_:=λi o s h1 h2=>by
   rcases jP h2 with rfl | ⟨d,rfl,e,hi⟩ | ⟨rfl,rfl⟩
   ·trivial
   ·have rr:∃v,(ws++.ref a::us)[i]?=some v/\Rep K (·≠a) Pz H v d:=by
     by_cases RM:i<ds.length
     ·rw[Ie RM] at e
      obtain ⟨v,e1,e2⟩:=r1.getD e
      exact ⟨v,by rw[Ie (by rw[r1.length];exact RM)];exact e1,e2⟩
     ·rw[HV (by lia)] at e
      obtain ⟨j,hj⟩:∃j,i-ds.length=j+1:=⟨i-ds.length-1,by lia⟩
      rw[hj,JH] at e
      obtain ⟨v,e1,e2⟩:=r2.getD e
      exact ⟨v,by rw[HV (by rw[r1.length];lia),r1.length,hj,JH];exact e1,e2⟩
    obtain ⟨v,e1,e2⟩:=rr
    rw[iV e1] at h1
    cases h1
    exact ⟨v,rfl,e2.mono (λb n _=>⟨λz=>n (hmo b z),rfl⟩) λ_ x=>x⟩
   ·rw[hpen] at h1
    cases h1
    exact ⟨a,rfl,λb z=>by cases z;rfl,hp⟩ }
 have VU:∀{σ' S' H'},Step (λ_=>False) (start N (ws++.ref a::us)) (eK N.length a ns ds es) H σ' S' H'->∀b,b≠a->H b≠none->H' b=H b:=λst b n e=>(st.1 b (λz=>n (hmo b z)) e).1
 have pn:∀{σ' S' H' ns'},OK K H (λ_=>False) σ' H' S'->S'[ds.length]?=some (.pen (some a) ns')->σ'[ds.length]?=some (some (V.ref a))/\H' a=some (.lst (ns'.map .int)):=λk' e=>by
  obtain ⟨o,e1,b,rfl,e2,e3⟩:=k'.ownAt e
  obtain rfl:=e2 a rfl
  exact ⟨e1,e3⟩
 refine ⟨ts,Q0.ps,Q0.snd H _ _ H _ _ _ k0 (q a ns ds es R rfl h) ⟨fun σ' H' S' k' st PH=>by obtain ⟨ns',e,q⟩:=PH;exact fin .non ns' .non H' q (VU st) (pn k' e).2 .non,fun σ' H' S' k' st q=>q.elim,fun σ' H' S' k' st q=>q.elim,λv d σ' H' S' k' st rr ⟨ns',e,q⟩=>fin d ns' v H' q (VU st) (pn k' e).2 (rr.mono (λb n _=>⟨λz=>?_,rfl⟩) λ_ x=>x)⟩⟩
 subst z
 exact n _ _ _ e (pn k' e).1
end
end VL
end
section
namespace VL
open PySem L2
mutual
def pd:D->PyData
 | .int i=>.int i
 | .bl b=>.bool b
 | .non=>.none
 | .str x=>.str x
 | .ty _=>.none
 | .dic _ _=>.none
 | .exc _=>.none
 | .oth _=>.none
 | .dib _ _=>.none
 | .tup ds=>.tuple (Sd ds)
 | .lst ds=>.list (Sd ds)
def Sd:List D->List PyData
 | []=>[]
 | d::r=>pd d::Sd r
end
mutual
def QC:D->Bool
 | .ty _=>false
 | .dic _ _=>false
 | .exc _=>false
 | .oth _=>false
 | .dib _ _=>false
 | .tup ds=>iW ds
 | .lst ds=>iW ds
 | _=>true
def iW:List D->Bool
 | []=>true
 | d::r=>QC d&&iW r
end
section
variable {K:Ho} {X:Cx} {pins:List (Addr×Obj)} {σ:St} {H:Hp} {s:Hv} {N:AP} {F:FP}
mutual
theorem bK (I:Inv X pins σ H s) (hK:X.K=K) {v:V} {d:D} {u:Ht}:Rep K N F H v d->QC d=true->RelV v u->∃as,Reads s.heap u (pd d) as:=λhh ee rr=>by
 cases hh with
 | int i=>have r:=rr;obtain ⟨t,rfl⟩:=r;exact ⟨_,.int i t⟩
 | bl b=>have r:=rr;cases r;exact ⟨_,.bool b⟩
 | non=>have r:=rr;cases r;exact ⟨_,.none⟩
 | str x=>have r:=rr;obtain ⟨t,rfl⟩:=r;exact ⟨_,.str x t⟩
 | ty x=>have e:=ee;cases e
 | dic n f h _ _ rs=>have e:=ee;simp[QC] at e
 | exc n h _=>have e:=ee;simp[QC] at e
 | oth h=>have e:=ee;simp[QC] at e
 | dib n f h _ _ _ rs=>have e:=ee;simp[QC] at e
 | tup n h rs=>
  have e:=ee
  have r:=rr
  cases r
  obtain ⟨its,rv,⟨o,ho,hc,n,hd⟩,_⟩:=I.tuple (xs:=_) (.inl h)
  obtain ⟨as,ra⟩:=cJ I hK rs (by simpa [QC] using e) rv
  exact ⟨as,.tuple ho hc hd (by simpa using ra)⟩
 | tupK h rs=>
  have e:=ee
  have r:=rr
  cases r
  obtain ⟨its,rv,⟨o,ho,hc,n,hd⟩,_⟩:=I.tuple (xs:=_) (by rw[hK];exact f9 h)
  obtain ⟨as,ra⟩:=cJ I hK rs (by simpa [QC] using e) rv
  exact ⟨as,.tuple ho hc hd (by simpa using ra)⟩
 | lst n f h rs=>
  have e:=ee
  have r:=rr
  cases r
  obtain ⟨its,rv,pl,_⟩:=I.list (xs:=_) (.inl (.inl h))
  obtain ⟨o,ho,hc,n,hd⟩:=pl.isList
  obtain ⟨as,ra⟩:=cJ I hK rs (by simpa [QC] using e) rv
  exact ⟨_,.list ho hc hd (by simpa using ra)⟩
 | lstF n f h rs=>
  have e:=ee
  have r:=rr
  cases r
  obtain ⟨its,rv,pl,_⟩:=I.list (xs:=_) (.inl (.inr ⟨_,h⟩))
  obtain ⟨o,ho,hc,n,hd⟩:=pl.isList
  obtain ⟨as,ra⟩:=cJ I hK rs (by simpa [QC] using e) rv
  exact ⟨_,.list ho hc hd (by simpa using ra)⟩
 | lstK f h rs=>
  have e:=ee
  have r:=rr
  cases r
  obtain ⟨its,rv,pl,_⟩:=I.list (xs:=_) (by rw[hK];exact iN h)
  obtain ⟨o,ho,hc,n,hd⟩:=pl.isList
  obtain ⟨as,ra⟩:=cJ I hK rs (by simpa [QC] using e) rv
  exact ⟨_,.list ho hc hd (by simpa using ra)⟩
theorem cJ (I:Inv X pins σ H s) (hK:X.K=K) {vs:List V} {ds:List D} {us:List Ht}:Pi K N F H vs ds->iW ds=true->Pm vs us->∃as,ReadsAll s.heap us (Sd ds) as:=λhh ee rr=>by
 cases hh with
 | nil=>have r:=rr;cases r;exact ⟨_,.nil⟩
 | cons h t=>
  have e:=ee
  have r:=rr
  simp only[iW,Ik] at e
  cases r with
  | cons r1 r2=>
   obtain ⟨as,ra⟩:=bK I hK h e.1 r1
   obtain ⟨bs,rb⟩:=cJ I hK t e.2 r2
   exact ⟨_,.cons ra rb⟩
end
end
structure SQ (d:D):Prop where
 ty:QC d=true
 lay:(pd d).canLay0=true
 dep:(pd d).depth<=40
def B0 (K:Ho) (neg:Bool):R2:=λx y H Q=>∃d1 d2,Rep K Any Pz H x d1/\Rep K Any Pz H y d2/\SQ d1/\SQ d2/\Q (.bl (if neg then !PyData.eqv (pd d1) (pd d2) else J1 (pd d1) (pd d2))) H
def xj (neg:Bool):D->D->(D->Prop)->Prop:=λd1 d2 q=>SQ d1/\SQ d2/\q (.bl (if neg then !PyData.eqv (pd d1) (pd d2) else J1 (pd d1) (pd d2)))
def B1 (K:Ho) (neg:Bool):R2:=λx y H Q=>∃d ds,Rep K Any Pz H x d/\(Rep K Any Pz H y (.lst ds)\/Rep K Any Pz H y (.tup ds))/\SQ d/\SQ (.lst ds)/\Q (.bl (if neg then !(Sd ds).any (λy=>J1 y (pd d)) else (Sd ds).any (λy=>J1 y (pd d)))) H
def jz (neg:Bool):D->D->(D->Prop)->Prop:=λd d2 q=>∃ds,(d2=.lst ds\/d2=.tup ds)/\SQ d/\SQ (.lst ds)/\q (.bl (if neg then !(Sd ds).any (λy=>J1 y (pd d)) else (Sd ds).any (λy=>J1 y (pd d))))
section
variable {K:Ho} {X:Cx}
theorem B4 (hK:X.K=K) (hu:X.A.units+64<Ls):Qt X (JB .Eq) (B0 K false):=by
 rintro pins s σ H x y v u Q I rx ry ⟨d1,d2,r1,r2,o1,o2,q⟩
 obtain ⟨as,ra⟩:=bK I hK r1 o1.ty rx
 obtain ⟨bs,rb⟩:=bK I hK r2 o2.ty ry
 exact SeqAt.compareEq_reads ra rb o1.lay o2.lay (by have:=o1.dep;lia) ⟨.bl _,H,I,rfl,q⟩
theorem gH (hK:X.K=K) (hu:X.A.units+64<Ls):Qt X (JB .NotEq) (B0 K true):=by
 rintro pins s σ H x y v u Q I rx ry ⟨d1,d2,r1,r2,o1,o2,q⟩
 obtain ⟨as,ra⟩:=bK I hK r1 o1.ty rx
 obtain ⟨bs,rb⟩:=bK I hK r2 o2.ty ry
 exact SeqAt.compareNe_reads ra rb o1.lay o2.lay (by have:=o1.dep;lia) ⟨.bl _,H,I,rfl,q⟩
theorem jQ (o:SQ (.lst ds)):ME (Sd ds)=true/\L8 (Sd ds)<=40/\QC (.tup ds)=true:=by
 refine ⟨by simpa [pd,NN] using o.lay,?_,by simpa [QC] using o.ty⟩
 have:=o.dep
 simp only[pd,OJ] at this
 lia
theorem iX (hK:X.K=K) (hu:X.A.units+64<Ls):Qt X (JB .In) (B1 K false):=by
 rintro pins s σ H x y v u Q I rx ry ⟨d,ds,r1,r2,o1,o2,q⟩
 obtain ⟨as,ra⟩:=bK I hK r1 o1.ty rx
 obtain ⟨h1,h2,h3⟩:=jQ o2
 rcases r2 with r2 | r2
 ·obtain ⟨bs,rb⟩:=bK I hK r2 o2.ty ry
  exact SeqAt.in_list_reads (by simpa [pd] using rb) ra h1 o1.lay (by lia) ⟨.bl _,H,I,rfl,q⟩
 ·obtain ⟨bs,rb⟩:=bK I hK r2 h3 ry
  exact SeqAt.in_tuple_reads (by simpa [pd] using rb) ra h1 o1.lay (by lia) ⟨.bl _,H,I,rfl,q⟩
theorem qJ (hK:X.K=K) (hu:X.A.units+64<Ls):Qt X (JB .NotIn) (B1 K true):=by
 rintro pins s σ H x y v u Q I rx ry ⟨d,ds,r1,r2,o1,o2,q⟩
 obtain ⟨as,ra⟩:=bK I hK r1 o1.ty rx
 obtain ⟨h1,h2,h3⟩:=jQ o2
 rcases r2 with r2 | r2
 ·obtain ⟨bs,rb⟩:=bK I hK r2 o2.ty ry
  exact SeqAt.notIn_list_reads (by simpa [pd] using rb) ra h1 o1.lay (by lia) ⟨.bl _,H,I,rfl,q⟩
 ·obtain ⟨bs,rb⟩:=bK I hK r2 h3 ry
  exact SeqAt.notIn_tuple_reads (by simpa [pd] using rb) ra h1 o1.lay (by lia) ⟨.bl _,H,I,rfl,q⟩
theorem iY {neg:Bool}:dr K (B0 K neg) (xj neg):=λx y H d1 d2 q C r1 r2 PH hc=>by obtain ⟨o1,o2,h⟩:=PH;exact ⟨d1,d2,r1,r2,o1,o2,hc _ _ h λ_ _=>.bl _⟩
theorem jR {neg:Bool}:dr K (B1 K neg) (jz neg):=λx y H d1 d2 q C r1 r2 PH hc=>by obtain ⟨ds,e,o1,o2,h⟩:=PH;exact ⟨d1,ds,r1,e.imp (λe=>by rw[<- e];exact r2) (λe=>by rw[<- e];exact r2),o1,o2,hc _ _ h λ_ _=>.bl _⟩
end
theorem dJ {α:Type} (f:α->D):∀l:List α,Sd (l.map f)=l.map λx=>pd (f x)
 | []=>rfl
 | _::r=>by simp[Sd,dJ f r]
theorem gI {α:Type} {f:α->D} (h:∀x,QC (f x)=true):∀l:List α,iW (l.map f)=true
 | []=>rfl
 | _::r=>by simp[iW,h,gI h r]
theorem iZ {α:Type} {f:α->PyData} (h:∀x,(f x).canLay0=true):∀l:List α,ME (l.map f)=true
 | []=>rfl
 | _::r=>by simp[ME,h,iZ h r]
theorem i6 {α:Type} {f:α->PyData} {n:Nat} (h:∀x,(f x).depth<=n):∀l:List α,L8 (l.map f)<=n
 | []=>by simp[L8]
 | x::r=>by simp only[HJ,L8];exact Nat.max_le.mpr ⟨h x,i6 h r⟩
structure Enc {α:Type} (n:Nat) (f:α->D):Prop where
 ty:∀x,QC (f x)=true
 lay:∀x,(pd (f x)).canLay0=true
 dep:∀x,(pd (f x)).depth<=n
 eq:∀x y,J1 (pd (f x)) (pd (f y))=true↔x=y
theorem fP {α:Type} {f:α->PyData} (h:∀x y,J1 (f x) (f y)=true↔x=y):∀l m:List α,LY (l.map f) (m.map f)=true↔l=m
 | [],[]=>by simp[LY]
 | [],_::_=>by simp[LY]
 | _::_,[]=>by simp[LY]
 | x::r,y::t=>by simp[LY,h,fP h r t]
theorem cA:Enc 0 D.int:=⟨λ_=>rfl,λ_=>rfl,λ_=>HA _,λx y=>by simp[pd,J1]⟩
theorem B5:Enc 0 D.bl:=⟨λ_=>rfl,λ_=>rfl,λ_=>HA _,λx y=>by simp[pd,J1]⟩
theorem Enc.tup {α:Type} {n:Nat} {f:α->D} (e:Enc n f):Enc (n+1) (λl:List α=>D.tup (l.map f)) where
 ty:=λl=>by simp only[QC];exact gI e.ty l
 lay:=λl=>by simp only[pd,NN,dJ];exact iZ e.lay l
 dep:=λl=>by simp only[pd,OJ,dJ];exact Nat.succ_le_succ (i6 e.dep l)
 eq:=λl m=>by simp only[pd,J1,dJ];exact fP e.eq l m
theorem Enc.lst {α:Type} {n:Nat} {f:α->D} (e:Enc n f):Enc (n+1) (λl:List α=>D.lst (l.map f)) where
 ty:=λl=>by simp only[QC];exact gI e.ty l
 lay:=λl=>by simp only[pd,NN,dJ];exact iZ e.lay l
 dep:=λl=>by simp only[pd,OJ,dJ];exact Nat.succ_le_succ (i6 e.dep l)
 eq:=λl m=>by simp only[pd,J1,dJ];exact fP e.eq l m
theorem kG:Enc 1 eT:=cA.tup
theorem Enc.okd {α:Type} {n:Nat} {f:α->D} (e:Enc n f) (hn:n<=40) (x:α):SQ (f x):=⟨e.ty x,e.lay x,Jf (e.dep x) hn⟩
theorem Enc.eqv {α:Type} [DecidableEq α] {n:Nat} {f:α->D} (e:Enc n f) (x y:α):J1 (pd (f x)) (pd (f y))=decide (x=y):=by
 rw[Ju,e.eq,decide_eq_true_iff]
theorem Enc.any {α:Type} [DecidableEq α] {n:Nat} {f:α->D} (e:Enc n f) (x:α) (l:List α):(Sd (l.map f)).any (λy=>J1 y (pd (f x)))=decide (x∈l):=by
 rw[dJ,List.any_map]
 induction l with
 | nil=>simp
 | cons a r ih=>
  rw[List.any_cons,ih]
  simp only[Lm,e.eqv]
  rw[Ju]
  simp only[Bool.or_eq_true,decide_eq_true_eq,JO]
  exact ⟨λz=>z.elim (λz=>.inl z.symm) .inr,λz=>z.elim (λz=>.inl z.symm) .inr⟩
theorem ER {α:Type} [DecidableEq α] {n:Nat} {f:α->D} (e:Enc n f) {x y:α} (h:q (.bl (decide (x=y)))) (hn:n<=40:=by decide):xj false (f x) (f y) q:=⟨e.okd hn x,e.okd hn y,by simpa [e.eqv] using h⟩
theorem zM {α:Type} [DecidableEq α] {n:Nat} {f:α->D} (e:Enc n f) {x y:α} (h:q (.bl (!decide (x=y)))) (hn:n<=40:=by decide):xj true (f x) (f y) q:=⟨e.okd hn x,e.okd hn y,by simpa [e.eqv] using h⟩
theorem zN {α:Type} [DecidableEq α] {n:Nat} {f:α->D} (e:Enc n f) {x:α} {l:List α} (h:q (.bl (decide (x∈l)))) (hn:n+1<=40:=by decide):jz false (f x) (.lst (l.map f)) q:=⟨_,.inl rfl,e.okd (by lia) x,e.lst.okd hn l,by simpa only [e.any,Jq,if_false] using h⟩
theorem mx {α:Type} [DecidableEq α] {n:Nat} {f:α->D} (e:Enc n f) {x:α} {l:List α} (h:q (.bl (!decide (x∈l)))) (hn:n+1<=40:=by decide):jz true (f x) (.lst (l.map f)) q:=⟨_,.inl rfl,e.okd (by lia) x,e.lst.okd hn l,by simpa only [e.any,if_true] using h⟩
end VL
namespace VL
open PySem L2
section
variable {K:Ho} {X:Cx}
theorem i7 (hK:X.K=K):cS X (.builtin "len") (λxs H Q=>∃p ys,xs=[.ref p]/\(Qz K H p ys\/Qq K H p ys)/\Q (.int ys.length) H):=by subst hK;exact ku
theorem my (hK:X.K=K):cS X (.builtin "isinstance") (BH K):=by subst hK;exact sS
theorem gJ:IZ "sorted"=some (.builtin "sorted"):=by decide +kernel
theorem B6:IZ "max"=some (.builtin "max"):=by decide +kernel
theorem B7:IZ "min"=some (.builtin "min"):=by decide +kernel
theorem tJ:IZ "all"=some (.builtin "all"):=by decide +kernel
end
end VL
end
section
namespace VL
open PySem L2
section
variable {S S1:List Sl} {Q:VR->List Sl->Prop} {QT:Bool->List Sl->Prop} {QN:List D->List Sl->Prop} {QA:List VR->List Sl->Prop} {W:bh} {va vb:VT} {vr:Qv} {vt vu:Qo} {vn:PQ} {s t:P5} {g:VG}
def ES (u:P5) (W:bh):List Sl->Prop:=λS'=>∃Sn,Wk S' Sn/\u W Sn
theorem ET {u:P5} (h:t ⟨ES u W,W.rt,W.bk,W.ct⟩ S):EF t u W S:=h
theorem B8 {u:P5} (h:u W S):ES u W S:=⟨S,Wk.refl S,h⟩
def EU (g:VG) (W:bh):VR->List Sl->Prop:=λr S1=>∃d,r=.d d/\g d S1 W.nx
theorem EW (h:va S (EU g W)):nP va g W S:=h
theorem B9 (h:g d S W.nx):EU g W (.d d) S:=⟨d,rfl,h⟩
theorem G8 {i:Nat} {q:List Sl->Prop} (e:OZ (i+1) S.length=true) (h:q (S.set i (.val d))):Uk i d S q:=⟨Ir e,h⟩
theorem G9 {n:Nat} {u:List D->List Sl->(List Sl->Prop)->Prop} {q:List Sl->Prop} (e:ds.length=n) (h:u ds S q):VQ n u (.tup ds) S q:=⟨ds,rfl,e,h⟩
theorem Ca {q:List Sl->Prop} (h:q S):zJ [] S q:=⟨rfl,h⟩
theorem xk {r:List D} {u:List D->List Sl->(List Sl->Prop)->Prop} {q:List Sl->Prop} (h:g d S λS1=>u r S1 q):tj g u (d::r) S q:=⟨d,r,rfl,h⟩
def zO (i:Nat) (W:bh):List D->List Sl->Prop:=λds S1=>i<S1.length/\W.nx (S1.set i (.own ds))
theorem Cb {i:Nat} (h:vn S (zO i W)):tm i vn W S:=h
theorem xl {i:Nat} (e:OZ (i+1) S.length=true) (h:W.nx (S.set i (.own ds))):zO i W ds S:=⟨Ir e,h⟩
def zP (i:Nat) (W:bh):List D->List Sl->Prop:=λds S1=>∃ns:List Int,ds=ns.map .int/\i<S1.length/\W.nx (S1.set i (.pen none ns))
theorem Cd {i:Nat} (h:vn S (zP i W)):zK i vn W S:=h
theorem kH {i:Nat} (e:OZ (i+1) S.length=true) (h:W.nx (S.set i (.pen none ns))):zP i W (ns.map .int) S:=⟨ns,rfl,Ir e,h⟩
def EX (W:bh):VR->List Sl->Prop:=λr S1=>∃d,Tn S1 r=some d/\W.rt d S1
theorem EY (h:va S (EX W)):EG va W S:=h
theorem Ce (e:Tn S r=some d) (h:W.rt d S):EX W r S:=⟨d,e,h⟩
def Tq (t u:P5) (W:bh):Bool->List Sl->Prop:=λb S1=>if b=true then t W S1 else u W S1
theorem EZ {u:P5} (h:vt S (Tq t u W)):EH vt t u W S:=h
theorem tK {u:P5} {b:Bool} (h1:b=true->t W S) (h2:b=false->u W S):Tq t u W b S:=by
 cases b with
 | true=>show (if true=true then _ else _);rw[if_pos rfl];exact h1 rfl
 | false=>show (if false=true then _ else _);rw[if_neg Hy];exact h2 rfl
theorem tL {u:P5} (h:t W S):Tq t u W true S:=by show (if true=true then _ else _);rw[if_pos rfl];exact h
theorem tM {u:P5} (h:u W S):Tq t u W false S:=by show (if false=true then _ else _);rw[if_neg Hy];exact h
theorem eZ {u:P5} {p:Prop} [Decidable p] (h1:p->t W S) (h2:¬p->u W S):Tq t u W (decide p) S:=tK (λe=>h1 (of_decide_eq_true e)) (λe=>h2 (of_decide_eq_false e))
theorem tN {u:P5} {p:Prop} [Decidable p] (h1:¬p->t W S) (h2:p->u W S):Tq t u W (!decide p) S:=tK (λe=>h1 (by simpa using e)) (λe=>h2 (by simpa using e))
def zQ (W:bh):VR->List Sl->Prop:=λ_ S1=>W.nx S1
theorem Cf (h:va S (zQ W)):zI va W S:=h
theorem xm (h:W.nx S):zQ W r S:=h
theorem Cg (h:W.nx S):zH W S:=h
theorem j_c (h:Q (.d d) S):vC d S Q:=h
theorem gg {i:Nat} (e:W9 i S[i]?=some r) (h:Q r S):sW i S Q:=⟨r,e,h⟩
def tO (Q:VR->List Sl->Prop):VR->List Sl->Prop:=λr S'=>(match r with | .d d=>flat d=true | .own _=>True)/\Q r S'
theorem Ci (h:va S (tO Q)):sX va S Q:=h
theorem pz (e:flat d=true) (h:Q (.d d) S):tO Q (.d d) S:=⟨e,h⟩
theorem tP {i:Nat} (h:Q (.own i) S):tO Q (.own i) S:=⟨trivial,h⟩
def k2a (w:D->D->(D->Prop)->Prop) (vb:VT) (Q:VR->List Sl->Prop):VR->List Sl->Prop:=λra S1=>vb S1 λrb S2=>∃d1 d2,get S2 ra=some d1/\get S2 rb=some d2/\w d1 d2 λd=>Q (.d d) S2
def k2b (w:D->D->(D->Prop)->Prop) (Q:VR->List Sl->Prop) (ra:VR):VR->List Sl->Prop:=λrb S2=>∃d1 d2,get S2 ra=some d1/\get S2 rb=some d2/\w d1 d2 λd=>Q (.d d) S2
theorem j_2 {w:D->D->(D->Prop)->Prop} (h:va S (k2a w vb Q)):v2 w va vb S Q:=h
theorem Ha {w:D->D->(D->Prop)->Prop} {ra:VR} (h:vb S (k2b w Q ra)):k2a w vb Q ra S:=h
theorem Hb {w:D->D->(D->Prop)->Prop} {ra rb:VR} {d1 d2:D} (e1:get S ra=some d1) (e2:get S rb=some d2) (h:w d1 d2 λd=>Q (.d d) S):k2b w Q ra rb S:=⟨d1,d2,e1,e2,h⟩
theorem E1 {f:Int->Int->L2.V} {i j:Int} (h:q (R0 (f i j))):Ws f (.int i) (.int j) q:=⟨i,j,rfl,rfl,h⟩
theorem E2 {C:Int->Int->Prop} {f:Int->Int->L2.V} {i j:Int} (c:C i j) (h:q (R0 (f i j))):wI C f (.int i) (.int j) q:=⟨i,j,rfl,rfl,c,h⟩
def E3 (vb:VT) (Q:VR->List Sl->Prop):VR->List Sl->Prop:=λra S1=>vb S1 λrb S2=>∃ds i d,(get S2 ra=some (.lst ds)\/get S2 ra=some (.tup ds))/\get S2 rb=some (.int i)/\QY ds i=some d/\Q (.d d) S2
def Cj (Q:VR->List Sl->Prop) (ra:VR):VR->List Sl->Prop:=λrb S2=>∃ds i d,(get S2 ra=some (.lst ds)\/get S2 ra=some (.tup ds))/\get S2 rb=some (.int i)/\QY ds i=some d/\Q (.d d) S2
theorem Hd (h:va S (E3 vb Q)):vIx va vb S Q:=h
theorem E4 {ra:VR} (h:vb S (Cj Q ra)):E3 vb Q ra S:=h
theorem dM {ra rb:VR} {i:Int} (e1:get S ra=some (.lst ds)) (e2:get S rb=some (.int i)) (e3:QY ds i=some d) (h:Q (.d d) S):Cj Q ra rb S:=⟨ds,i,d,.inl e1,e2,e3,h⟩
theorem E5 {ra rb:VR} {i:Int} (e1:get S ra=some (.tup ds)) (e2:get S rb=some (.int i)) (e3:QY ds i=some d) (h:Q (.d d) S):Cj Q ra rb S:=⟨ds,i,d,.inr e1,e2,e3,h⟩
def kUn (f:Int->L2.V) (Q:VR->List Sl->Prop):VR->List Sl->Prop:=λr S1=>∃i,get S1 r=some (.int i)/\Q (.d (R0 (f i))) S1
theorem He {f:Int->L2.V} (h:va S (kUn f Q)):vUn f va S Q:=h
theorem E6 {f:Int->L2.V} {i:Int} (e:get S r=some (.int i)) (h:Q (.d (R0 (f i))) S):kUn f Q r S:=⟨i,e,h⟩
def tQ (QT:Bool->List Sl->Prop):VR->List Sl->Prop:=λr S'=>∃k,r=.d (.bl k)/\QT k S'
theorem Ck (h:va S (tQ QT)):jN va S QT:=h
theorem xn {k:Bool} (h:QT k S):tQ QT (.d (.bl k)) S:=⟨k,rfl,h⟩
def Wx (u:Qo) (QT:Bool->List Sl->Prop):Bool->List Sl->Prop:=λc S1=>if c=true then QT true S1 else u S1 QT
def E7 (QT:Bool->List Sl->Prop):Bool->List Sl->Prop:=λc S1=>QT (!c) S1
theorem Hf (h:vt S (Wx vu QT)):vOr vt vu S QT:=h
theorem E8 (h:vt S (E7 QT)):Ey vt S QT:=h
theorem Cm {b:Bool} (h:QT (!b) S):E7 QT b S:=h
theorem E9 {b:Bool} (h1:b=true->QT true S) (h2:b=false->vu S QT):Wx vu QT b S:=by
 cases b with
 | true=>show (if true=true then _ else _);rw[if_pos rfl];exact h1 rfl
 | false=>show (if false=true then _ else _);rw[if_neg Hy];exact h2 rfl
theorem Co (h:vu S QT):Wx vu QT false S:=E9 (λe=>nomatch e) λ_=>h
def pA (vb:VT) (Q:VR->List Sl->Prop):VR->List Sl->Prop:=λr S1=>∃c,r=.d (.bl c)/\if c=true then vb S1 Q else Q (.d (.bl false)) S1
def zR (Q:VR->List Sl->Prop):VR->List Sl->Prop:=λr S1=>∃c,r=.d (.bl c)/\Q (.d (.bl (!c))) S1
theorem Cp (h:va S (pA vb Q)):zE va vb S Q:=h
theorem Cq (h:va S (zR Q)):zF va S Q:=h
theorem xo {c:Bool} (h:Q (.d (.bl (!c))) S):zR Q (.d (.bl c)) S:=⟨c,rfl,h⟩
theorem pB {c:Bool} (h1:c=true->vb S Q) (h2:c=false->Q (.d (.bl false)) S):pA vb Q (.d (.bl c)) S:=⟨c,rfl,by
 cases c with
 | true=>rw[if_pos rfl];exact h1 rfl
 | false=>rw[if_neg Hy];exact h2 rfl⟩
def xp (va vb:VT) (Q:VR->List Sl->Prop):Bool->List Sl->Prop:=λc S1=>if c=true then va S1 Q else vb S1 Q
theorem Fb (h:vt S (xp va vb Q)):vIf vt va vb S Q:=h
theorem kI {b:Bool} (h1:b=true->va S Q) (h2:b=false->vb S Q):xp va vb Q b S:=by
 cases b with
 | true=>show (if true=true then _ else _);rw[if_pos rfl];exact h1 rfl
 | false=>show (if false=true then _ else _);rw[if_neg Hy];exact h2 rfl
theorem Fc (h:QA [] S):BO S QA:=h
def tR (vr:Qv) (QA:List VR->List Sl->Prop):VR->List Sl->Prop:=λr S1=>vr S1 λrs S2=>QA (r::rs) S2
theorem Cr (h:va S (tR vr QA)):o8 va vr S QA:=h
theorem xq (h:vr S λrs S2=>QA (r::rs) S2):tR vr QA r S:=h
def nI (Q:VR->List Sl->Prop):List VR->List Sl->Prop:=λrs S1=>∃ds,allD rs=some ds/\ds.length<=1000/\Q (.d (.tup ds)) S1
theorem Fd (h:vr S (nI Q)):EB vr S Q:=h
theorem Cs (e:allD rs=some ds) (e2:OZ ds.length 1000=true) (h:Q (.d (.tup ds)) S):nI Q rs S:=⟨ds,e,Ir e2,h⟩
def Fe (QN:List D->List Sl->Prop):List VR->List Sl->Prop:=λrs S1=>∃ds,allD rs=some ds/\ds.length<=1000/\QN ds S1
theorem Ff (h:vr S (Fe QN)):BP vr S QN:=h
theorem Ct (e:allD rs=some ds) (e2:OZ ds.length 1000=true) (h:QN ds S):Fe QN rs S:=⟨ds,e,Ir e2,h⟩
def Fg (Q:VR->List Sl->Prop):List D->List Sl->Prop:=λds S1=>Q (.d (.lst ds)) S1
theorem Fh (h:vn S (Fg Q)):qG vn S Q:=h
theorem Cu (h:Q (.d (.lst ds)) S):Fg Q ds S:=h
def Xj (w:List D->(D->Prop)->Prop) (Q:VR->List Sl->Prop):List VR->List Sl->Prop:=λrs S1=>∃ds,gets S1 rs=some ds/\w ds λd=>Q (.d d) S1
theorem Hg {w:List D->(D->Prop)->Prop} (h:vr S (Xj w Q)):Xd w vr S Q:=h
theorem Fi {w:List D->(D->Prop)->Prop} (e:gets S rs=some ds) (h:w ds λd=>Q (.d d) S):Xj w Q rs S:=⟨ds,e,h⟩
theorem Cv {es:List D} (h:q (.int es.length)):BQ [.lst es] q:=⟨es,.inl rfl,h⟩
theorem Cw {es:List D} (h:q (.int es.length)):BQ [.tup es] q:=⟨es,.inr rfl,h⟩
theorem Hh {f:Int->Int->Int} {i j:Int} (h:q (.int (f i j))):wMM f [.int i,.int j] q:=⟨i,j,rfl,h⟩
theorem Hi (h:vr S (Xj p Q)):vFn p vr S Q:=h
def Fj (p:List D->(D->Prop)->Prop) (QN:List D->List Sl->Prop):List VR->List Sl->Prop:=λrs S1=>∃ds,gets S1 rs=some ds/\p ds λd=>∃es,d=.lst es/\flats es=true/\QN es S1
theorem Fk (h:vr S (Fj p QN)):EE p vr S QN:=h
theorem Cy (e:gets S rs=some ds) (h:p ds λd=>∃es,d=.lst es/\flats es=true/\QN es S):Fj p QN rs S:=⟨ds,e,h⟩
def Fp (j:Nat) (p:List Int->List D->(D->List Int->Prop)->Prop) (Q:VR->List Sl->Prop):List VR->List Sl->Prop:=λrs S1=>∃i RE ad ns ds,pick rs j=some (i,RE)/\S1[i]?=some (.pen ad ns)/\allD RE=some ds/\p ns ds λd ns'=>Q (.d d) (S1.set i (.pen ad ns'))
theorem Fq {j:Nat} {p:List Int->List D->(D->List Int->Prop)->Prop} (h:vr S (Fp j p Q)):BY j p vr S Q:=h
theorem Cz {j:Nat} {p:List Int->List D->(D->List Int->Prop)->Prop} {rs RE:List VR} {i:Nat} {ad:Option Addr} (e1:pick rs j=some (i,RE)) (e2:S[i]?=some (.pen ad ns)) (e3:allD RE=some ds) (h:p ns ds λd ns'=>Q (.d d) (S.set i (.pen ad ns'))):Fp j p Q rs S:=⟨i,RE,ad,ns,ds,e1,e2,e3,h⟩
def kJ (QN:List D->List Sl->Prop):List VR->List Sl->Prop:=λrs S1=>∃r ds,rs=[r]/\(get S1 r=some (.lst ds)\/get S1 r=some (.tup ds))/\flats ds=true/\QN ds S1
theorem tS (h:vr S (kJ QN)):o9 vr S QN:=h
theorem tT (e:get S r=some (.lst ds)) (f:flats ds=true) (h:QN ds S):kJ QN [r] S:=⟨r,ds,rfl,.inl e,f,h⟩
theorem tU (e:get S r=some (.tup ds)) (f:flats ds=true) (h:QN ds S):kJ QN [r] S:=⟨r,ds,rfl,.inr e,f,h⟩
def tV (Q:VR->List Sl->Prop):List VR->List Sl->Prop:=λrs S1=>∃r ds,rs=[r]/\(get S1 r=some (.lst ds)\/r=.d (.tup ds))/\flats ds=true/\Q (.d (.tup ds)) S1
theorem xr (h:vr S (tV Q)):sZ vr S Q:=h
theorem pC (e:get S r=some (.lst ds)) (f:flats ds=true) (h:Q (.d (.tup ds)) S):tV Q [r] S:=⟨r,ds,rfl,.inl e,f,h⟩
def Fs (i:Nat) (Q:VR->List Sl->Prop):VR->List Sl->Prop:=λr S1=>∃d ds,r=.d d/\S1[i]?=some (.own ds)/\ds.length<=1000000/\Q (.d .non) (S1.set i (.own (ds++[d])))
theorem Ft {i:Nat} (e:S[i]?=some (.own ds)) (h:va S (Fs i Q)):BW i va S Q:=⟨⟨ds,e⟩,h⟩
theorem nR {i:Nat} (e:S[i]?=some (.own ds)) (e2:ds.length<=1000000) (h:Q (.d .non) (S.set i (.own (ds++[d])))):Fs i Q (.d d) S:=⟨d,ds,rfl,e,e2,h⟩
def pD (i:Nat) (vi:VT) (W:bh):VR->List Sl->Prop:=λr S1=>(∃s,S1[i]?=some s/\s.mut=true)/\vi S1 λri S2=>∃j,get S2 ri=some (.int j) /\
  ((∃ad ns k n,S2[i]?=some (.pen ad ns)/\Ru ns.length j=some k/\r=.d (.int n)/\W.nx (S2.set i (.pen ad (ns.set k n)))) \/
   (∃ds k d,S2[i]?=some (.own ds)/\Ru ds.length j=some k/\r=.d d/\W.nx (S2.set i (.own (ds.set k d)))))
def pE (i:Nat) (W:bh) (r:VR):VR->List Sl->Prop:=λri S2=>∃j,get S2 ri=some (.int j) /\
  ((∃ad ns k n,S2[i]?=some (.pen ad ns)/\Ru ns.length j=some k/\r=.d (.int n)/\W.nx (S2.set i (.pen ad (ns.set k n)))) \/
   (∃ds k d,S2[i]?=some (.own ds)/\Ru ds.length j=some k/\r=.d d/\W.nx (S2.set i (.own (ds.set k d)))))
theorem xt {i:Nat} (h:va S (pD i vb W)):tu i va vb W S:=h
theorem tW {i:Nat} {s:Sl} (e:S[i]?=some s) (m:s.mut=true) (h:vb S (pE i W r)):pD i vb W r S:=⟨⟨s,e,m⟩,h⟩
theorem qK {i:Nat} {ri:VR} {j n:Int} {ad:Option Addr} {k:Nat} (e1:get S ri=some (.int j)) (e2:S[i]?=some (.pen ad ns)) (e3:Ru ns.length j=some k) (h:W.nx (S.set i (.pen ad (ns.set k n)))):pE i W (.d (.int n)) ri S:=⟨j,e1,.inl ⟨ad,ns,k,n,e2,e3,rfl,h⟩⟩
def kFor (g:VG) (b:P5) (W:bh):List D->List Sl->Prop:=λds S1=>runFor g b W ds S1\/∃Iv:Nat->List Sl->Prop,Iv 0 S1/\(∀i d S2,ds[i]?=some d->Iv i S2->g d S2 λS3=>b { W with nx:=Iv (i+1),ct:=Iv (i+1),bk:=W.nx } S3)/\∀S2,Iv ds.length S2->W.nx S2
theorem Fv {b:P5} (h:vn S (kFor g b W)):EO vn g b W S:=h
theorem du {b:P5} (Iv:Nat->List Sl->Prop) (h0:Iv 0 S) (h1:∀i d S2,ds[i]?=some d->Iv i S2->g d S2 λS3=>b ⟨Iv (i+1),W.rt,W.nx,Iv (i+1)⟩ S3) (h2:∀S2,Iv ds.length S2->W.nx S2):kFor g b W ds S:=.inr ⟨Iv,h0,h1,h2⟩
theorem ik {b:P5} {lo:Int} {n:Nat} (Iv:Nat->List Sl->Prop) (h0:Iv 0 S) (h1:∀i S2,i<n->Iv i S2->g (.int (lo+(i:Int))) S2 λS3=>b ⟨Iv (i+1),W.rt,W.nx,Iv (i+1)⟩ S3) (h2:∀S2,Iv n S2->W.nx S2):kFor g b W (rg lo n) S:=
 .inr ⟨Iv,h0,λi d S2 e p=>by
  have hi:i<n:=by have:=(List.getElem?_eq_some_iff.mp e).1;rwa [gG] at this
  rw[tw hi] at e
  cases e
  exact h1 i S2 hi p,λS2 p=>h2 S2 (by rwa [gG] at p)⟩
def Fw (QN:List D->List Sl->Prop):VR->List Sl->Prop:=λr S1=>∃ds,r=.d (.lst ds)/\QN ds S1
def Fx (QN:List D->List Sl->Prop):VR->List Sl->Prop:=λr S1=>∃ds,r=.d (.tup ds)/\QN ds S1
theorem Fy (h:va S (Fw QN)):EK va S QN:=h
theorem FA (h:va S (Fx QN)):EL va S QN:=h
theorem CA (h:QN ds S):Fw QN (.d (.lst ds)) S:=⟨ds,rfl,h⟩
theorem CC (h:QN ds S):Fx QN (.d (.tup ds)) S:=⟨ds,rfl,h⟩
def FC (QN:List D->List Sl->Prop):List VR->List Sl->Prop:=λrs S1=>∃j:Int,rs=[.d (.int j)]/\-(2 ^ 62)<=j/\j<2 ^ 62/\QN (rg 0 j.toNat) S1
def FD (QN:List D->List Sl->Prop):List VR->List Sl->Prop:=λrs S1=>∃i j:Int,rs=[.d (.int i),.d (.int j)]/\(-(2 ^ 62)<=i/\i<2 ^ 62/\-(2 ^ 62)<=j/\j<2 ^ 62)/\QN (rg i (j-i).toNat) S1
theorem FE (h:vr S (FC QN)):EM vr S QN:=h
theorem FF (h:vr S (FD QN)):EN vr S QN:=h
theorem tX {j:Int} (h1:0<=j/\j<1000000) (h:QN (rg 0 j.toNat) S):FC QN [.d (.int j)] S:=⟨j,rfl,by lia,by lia,h⟩
theorem CD {i j:Int} (h1:-1000000<=i/\i<1000000/\-1000000<=j/\j<1000000) (h:QN (rg i (j-i).toNat) S):FD QN [.d (.int i),.d (.int j)] S:=⟨i,j,rfl,⟨by lia,by lia,by lia,by lia⟩,h⟩
def jS (n:Nat) (ix:List Nat) (g:VG) (vt:Qo) (ve:VT) (QN:List D->List Sl->Prop):List D->List Sl->Prop:=λds S1=>ds.length<=1000000/\∃Iv:Nat->List D->List Sl->Prop,Iv 0 [] S1 /\
 (∀i d ys S2,ds[i]?=some d->Iv i ys S2->g d (aS n ix S2) λS3=>vt S3 λb S4=>if b=true then ve S4 λr S5=>∃x,r=.d x/\Iv (i+1) (ys++[x]) (Pu n ix S2 S5) else Iv (i+1) ys (Pu n ix S2 S4)) /\
 ∀ys S2,Iv ds.length ys S2->QN ys S2
theorem CF {n:Nat} {ve:VT} (h:vn S (jS n ix g vt ve QN)):mn vn n ix g vt ve S QN:=h
def eM (ve:VT) (A:D->List Sl->Prop) (B:List Sl->Prop):Bool->List Sl->Prop:=λb S4=>if b=true then ve S4 λr S5=>∃x,r=.d x/\A x S5 else B S4
def nS (A:D->List Sl->Prop):VR->List Sl->Prop:=λr S5=>∃x,r=.d x/\A x S5
theorem xu {n:Nat} {ve:VT} (Iv:Nat->List D->List Sl->Prop) (hl:ds.length<=1000000) (h0:Iv 0 [] S)
  (h1:∀i d ys S2,ds[i]?=some d->Iv i ys S2->g d (aS n ix S2) λS3=>vt S3 (eM ve (λx S5=>Iv (i+1) (ys++[x]) (Pu n ix S2 S5)) (λS4=>Iv (i+1) ys (Pu n ix S2 S4)))) (h2:∀ys S2,Iv ds.length ys S2->QN ys S2):jS n ix g vt ve QN ds S:=⟨hl,Iv,h0,h1,h2⟩
theorem tY {n:Nat} {ve:VT} {lo:Int} {m:Nat} (Iv:Nat->List D->List Sl->Prop) (hl:m<=1000000) (h0:Iv 0 [] S)
  (h1:∀i ys S2,i<m->Iv i ys S2->g (.int (lo+(i:Int))) (aS n ix S2) λS3=>vt S3 (eM ve (λx S5=>Iv (i+1) (ys++[x]) (Pu n ix S2 S5)) (λS4=>Iv (i+1) ys (Pu n ix S2 S4)))) (h2:∀ys S2,Iv m ys S2->QN ys S2):jS n ix g vt ve QN (rg lo m) S:=
 ⟨by rw[gG];exact hl,Iv,h0,λi d ys S2 e p=>by
  have hi:i<m:=by have:=(List.getElem?_eq_some_iff.mp e).1;rwa [gG] at this
  rw[tw hi] at e
  cases e
  exact h1 i ys S2 hi p,λys S2 p=>h2 ys S2 (by rwa [gG] at p)⟩
theorem CG (h:QT true S):zL S QT:=h
theorem dw {ve:VT} {A:D->List Sl->Prop} {B:List Sl->Prop} {b:Bool} (h1:b=true->ve S (nS A)) (h2:b=false->B S):eM ve A B b S:=by
 cases b with
 | true=>show (if true=true then _ else _);rw[if_pos rfl];exact h1 rfl
 | false=>show (if false=true then _ else _);rw[if_neg Hy];exact h2 rfl
theorem qM {ve:VT} {A:D->List Sl->Prop} {B:List Sl->Prop} (h:ve S (nS A)):eM ve A B true S:=dw (λ_=>h) λe=>nomatch e
theorem mz {A:D->List Sl->Prop} {x:D} (h:A x S):nS A (.d x) S:=⟨x,rfl,h⟩
theorem FG {i j:Int} (h:q (.bl (decide (i=j)))):Xa (.int i) (.int j) q:=⟨.int i,.int j,rfl,rfl,rfl,by simpa using h⟩
theorem FH {i j:Int} (h:q (.bl (!decide (i=j)))):Xb (.int i) (.int j) q:=⟨.int i,.int j,rfl,rfl,rfl,by simpa using h⟩
theorem FI {i j:Bool} (h:q (.bl (!decide (i=j)))):Xb (.bl i) (.bl j) q:=⟨.bl i,.bl j,rfl,rfl,rfl,by simpa using h⟩
theorem FJ {c:String} {b:Bool} (hn:∀n,d≠.ty n) (e:qE (Xe d) c=some b) (h:q (.bl b)) (hE:isE d=false:=by with_unfolding_all rfl):ED [d,.ty c] q:=⟨d,c,b,rfl,hn,hE,e,h⟩
end
end VL
end
section
namespace VL
open PySem L2
section
variable {K:Ho} {X:Cx} {m:Bool} {e a b c o:Expr} {ta tb tc te:TE} {va vb vc:VT} {pos:Pos}
def kK (w w':D->D->(D->Prop)->Prop) (va vb vc:VT):VT:=λS Q=>va S λra S1=>vb S1 λrb S2=>∃d1 d2,get S2 ra=some d1/\get S2 rb=some d2/\w d1 d2 λd=>∃k,d=.bl k /\
 if k=true then vc S2 λrc S3=>∃Wy d3,get S3 rb=some Wy/\get S3 rc=some d3/\w' Wy d3 λd=>Q (.d d) S3 else Q (.d (.bl false)) S2
theorem tZ {r r':R2} {w w':D->D->(D->Prop)->Prop} (L:dr K r w) (L':dr K r' w') (ha:Qm K false ta va) (hb:Qm K false tb vb) (hc:Qm K false tc vc):Qm K m (nB r r' ta tb tc) (kK w w' va vb vc):=by
 intro H0 Z σ H S Q C k t hq
 refine ha H0 Z σ H S _ _ k t λx H1 ra S1 k1 Pq r1 t1=>?_
 refine hb H0 Z σ H1 S1 _ _ k1 t1 λy H2 rb S2 k2 Pj r2 Pk=>?_
 obtain ⟨d1,d2,e1,e2,t2⟩:=Pk
 refine L x y H2 d1 d2 _ _ ((r1.step Pj).get k2 e1) (r2.get k2 e2) t2 λz dz Pk rz=>?_
 obtain ⟨b,eb,q⟩:=Pk
 subst eb
 cases rz Any Pz
 refine ⟨b,rfl,?_⟩
 cases b with
 | false=>rw[if_neg Hy] at q ⊢;exact hq _ H2 (.d (.bl false)) S2 k2 (Pq.trans Pj) (Rep.bl false) q
 | true=>
  rw[if_pos rfl] at q ⊢
  refine hc H0 Z σ H2 S2 _ _ k2 q λu H3 rc S3 k3 Qi r3 Pk=>?_
  obtain ⟨Wy,d3,g1,g2,t3⟩:=Pk
  exact L' y u H3 Wy d3 _ _ ((r2.step Qi).get k3 g1) (r3.get k3 g2) t3 λz dz q rz=>hq z H3 (.d dz) S3 k3 ((Pq.trans Pj).trans Qi) (rz _ _) q
theorem d7 {op Ue:CmpOp} {r r':R2} {w w':D->D->(D->Prop)->Prop} (ho:Qt X (JB op) r) (L:dr K r w) (RC:Qt X (JB Ue) r') (L':dr K r' w') (ha:VE K X false a ta va) (hb:VE K X false b tb vb) (hc:VE K X false c tc vc)
  (hm:lastMarks [op,Ue] [b,c]=false:=by with_unfolding_all rfl):VE K X m (.Compare a [op,Ue] [b,c] pos) (nB r r' ta tb tc) (kK w w' va vb vc):=⟨sH ho RC ha.pe hb.pe hc.pe hm,tZ L L' ha.snd hb.snd hc.snd⟩
theorem pF:∀{ps:List Addr} {nss:List (List Int)} {N:AP} {F:FP} {H:Hp},iJ K (λ_=>none) ps nss->Pi K N F H (ps.map V.ref) (nss.map eT)
 | _,_,_,_,_,.nil=>.nil
 | _,_,_,_,_,.cons h t=>.cons (.tupK h Pi.ints) (pF t)
end
section
variable {S:List Sl} {Q:VR->List Sl->Prop} {QT:Bool->List Sl->Prop} {W:bh} {va vb:VT} {vt vu:Qo} {t u:P5} {b:Bool}
theorem FL (e:b=false) (h:vu S QT):Wx vu QT b S:=by subst e;exact Co h
theorem FN (e:b=true) (h:t W S):Tq t u W b S:=by subst e;exact tL h
theorem FO (e:b=false) (h:u W S):Tq t u W b S:=by subst e;exact tM h
theorem Hj (e:b=true) (h:va S Q):xp va vb Q b S:=by subst e;exact kI (λ_=>h) λe=>nomatch e
theorem Hk (e:b=false) (h:vb S Q):xp va vb Q b S:=by subst e;exact kI (λe=>nomatch e) λ_=>h
theorem FQ {c:Bool} (e:c=true) (h:vb S Q):pA vb Q (.d (.bl c)) S:=by subst e;exact pB (λ_=>h) λe=>nomatch e
theorem FR {c:Bool} (e:c=false) (h:Q (.d (.bl false)) S):pA vb Q (.d (.bl c)) S:=by subst e;exact pB (λe=>nomatch e) λ_=>h
end
section
variable {α:Type} {S:List Sl} {QN:List D->List Sl->Prop} {g:VG} {vt:Qo} {ve:VT} {n:Nat} {ix:List Nat}
theorem aF {β:Type} {xs:List α} {en:α->β} {i:Nat} {d:β} (h:(xs.map en)[i]?=some d):∃x,xs[i]?=some x/\d=en x/\x∈xs/\xs.take (i+1)=xs.take i++[x]:=by
 rw[HQ] at h
 obtain ⟨x,h1,h2⟩:=Option.map_eq_some_iff.mp h
 refine ⟨x,h1,h2.symm,Jp h1,?_⟩
 rw[Ov,h1]
 rfl
theorem cq {xs:List α} {en f:α->D} {p:α->Bool} (hl:xs.length<=1000000)
  (h:∀x∈xs,∀(A:D->List Sl->Prop) (B:List Sl->Prop),(∀S5,Pu n ix S S5=S->p x=true->A (f x) S5)->(∀S5,Pu n ix S S5=S->p x=false->B S5)->g (en x) (aS n ix S) λS3=>vt S3 (eM ve A B))
  (h2:QN ((xs.filter p).map f) S):jS n ix g vt ve QN (xs.map en) S:=by
 refine xu (λi ys S'=>S'=S/\ys=((xs.take i).filter p).map f) (by simpa using hl) ⟨rfl,by simp⟩ ?_ ?_
 ·rintro i d ys S2 e ⟨rfl,rfl⟩
  obtain ⟨x,h1,rfl,hm,ht⟩:=aF e
  refine h x hm _ _ (λS5 e5 hp=>⟨e5,?_⟩) (λS5 e5 hp=>⟨e5,?_⟩)
  ·rw[ht,Jr,HX]
   simp[hp]
  ·rw[ht,Jr,HX]
   simp[hp]
 ·rintro ys S2 ⟨rfl,rfl⟩
  rw[Hz,I0]
  exact h2
theorem comp_map {xs:List α} {en f:α->D} (hl:xs.length<=1000000)
  (h:∀x∈xs,∀(A:D->List Sl->Prop) (B:List Sl->Prop),(∀S5,Pu n ix S S5=S->A (f x) S5)->g (en x) (aS n ix S) λS3=>vt S3 (eM ve A B))
  (h2:QN (xs.map f) S):jS n ix g vt ve QN (xs.map en) S:=by
 refine cq (p:=λ_=>true) hl (λx hx A B hA _=>h x hx A B λS5 e=>hA S5 e rfl) ?_
 rwa [List.filter_eq_self.mpr (by intros;rfl)]
end
section
variable {α:Type} [DecidableEq α] {n:Nat} {f:α->D} {x y:α} {l:List α} {q:D->Prop}
theorem zS (e:Enc n f) (hx:x∈l) (h:q (.bl true)) (hn:n+1<=40:=by decide):jz false (f x) (.lst (l.map f)) q:=zN e (by rw[decide_eq_true hx];exact h) hn
theorem zT (e:Enc n f) (hx:x∉l) (h:q (.bl false)) (hn:n+1<=40:=by decide):jz false (f x) (.lst (l.map f)) q:=zN e (by rw[decide_eq_false hx];exact h) hn
theorem FS (e:Enc n f) (hx:x∉l) (h:q (.bl true)) (hn:n+1<=40:=by decide):jz true (f x) (.lst (l.map f)) q:=mx e (by rw[decide_eq_false hx];exact h) hn
theorem FT (e:Enc n f) (hx:x∈l) (h:q (.bl false)) (hn:n+1<=40:=by decide):jz true (f x) (.lst (l.map f)) q:=mx e (by rw[decide_eq_true hx];exact h) hn
theorem jT (e:Enc n f) (hx:x=y) (h:q (.bl false)) (hn:n<=40:=by decide):xj true (f x) (f y) q:=zM e (by rw[decide_eq_true hx];exact h) hn
end
theorem t4:∀{S:List Sl} {i:Nat} {ds:List D},S[i]?=some (.own ds)->Wk S (S.set i (.val (.lst ds)))
 | [],_,_,h=>by simp at h
 | s::r,0,ds,h=>by simp at h;subst h;exact .fz (Wk.refl r)
 | s::r,i+1,ds,h=>by simpa using Wk.keep (s:=s) (t4 (i:=i) (by simpa using h))
theorem d9 {α:Type} {l:List α} {f:α->D} {r:Int} (h0:0<=r) (h1:r<l.length):∃t,t∈l/\l[r.toNat]?=some t/\QY (l.map f) r=some (f t):=by
 have hr:r.toNat<l.length:=by lia
 refine ⟨l[r.toNat],List.getElem_mem hr,Hu hr,?_⟩
 obtain ⟨m,rfl⟩:∃m:Nat,r=m:=⟨r.toNat,by lia⟩
 have hr:m<l.length:=by lia
 exact kr (by rw[HQ,Hu hr];rfl)
end VL
end
section
namespace VL
open PySem L2 PySem.SeqAt PySem.Spec PyProof.Rows
section
variable {X:Cx} {pins:List (Addr×Obj)} {σ:L2.St} {H:Hp} {s:Hv} {K:Ho}
def FU (K:Ho) (g:List Bool->Bool):List V->Hp->VK->Prop:=λxs H Q=>∃(l:Addr) (bs:List Bool),xs=[.ref l]/\Qz K H l (bs.map V.bl)/\Q (.bl (g bs)) H
theorem mB:∀{bs:List Bool} {us:List Ht},Pm (bs.map V.bl) us->PyProof.Rows.LSm.BoolsAre us bs
 | [],_,.nil=>.nil
 | _::r,_,.cons h t=>by cases h;exact .cons _ (mB (bs:=r) t)
theorem zU (hK:X.K=K) (hc:X.calm=true):cS X (.builtin "all") (FU K (·.all id)):=by
 rintro pins s σ H xs us Q I r ⟨l,bs,e,hq,q⟩
 subst e hK
 obtain ⟨u,rfl,rx⟩:=Pm.one r
 cases rx
 obtain ⟨vs,rv,pl,_⟩:=I.list hq
 obtain ⟨m,F⟩:=I.fr
 exact PyProof.Rows.LSm.all_bools F rS (I.ok.hd hc) pl.isList (mB rv) λh' tk F' N'=>⟨.bl _,H,I.led (t':=tk) F.ns F' N',rfl,q⟩
theorem mD {N:AP} {H:Hp}:∀{vs:List V} {bs:List Bool},Pi K N F H vs (bs.map D.bl)->vs=bs.map V.bl
 | _,[],.nil=>rfl
 | _,b::bs,.cons h t=>by cases h;rw[mD t];rfl
def FV (g:List Bool->Bool):List D->(D->Prop)->Prop:=λds q=>∃bs:List Bool,ds=[.lst (bs.map .bl)]/\q (.bl (g bs))
theorem zV {g:List Bool->Bool}:iQ K (FU K g) (FV g):=by
 rintro xs H ds q C r ⟨bs,rfl,h⟩ hc
 obtain ⟨v,rfl,rv⟩:=rep1 r
 obtain ⟨a,vs,rfl,hq,rr⟩:=rv.sqL
 cases mD rr
 exact ⟨a,bs,rfl,hq,hc _ _ h λ_ _=>.bl _⟩
end
section
variable {K:Ho} {X:Cx} {m:Bool} {e a b:Expr} {ta tb te:TE} {va vb:VT} {tr:TA} {vr:Qv} {pos p:Pos}
def FW (va:VT):Qo:=λS Q=>va S λr S1=>∃d b,get S1 r=some d/\Xc d=some b/\Q b S1
theorem CH (hK:X.K=K) (h:VE K X false e te va) (he:∀whole,OF e X.env whole=(do let v <- whole;Le e.pos;Lg [v] (truthy v)):=by intro _;rfl):R9 K X e (fun σ H Q=>te σ H λx H'=>∃k,Ug K x H' k/\Q k H') (FW va):=
 ⟨by subst hK;exact sI h.pe he,λH0 Z σ H S Q C k t hc=>h.snd H0 Z σ H S _ _ k t λv H1 r S1 k1 Pq rr Px=>by
  obtain ⟨d,b,e1,e2,q⟩:=Px
  refine ⟨b,?_,hc b H1 S1 k1 Pq q⟩
  have r1:=rr.get k1 e1
  cases d with
  | int i=>cases r1;cases e2;rfl
  | bl i=>cases r1;cases e2;rfl
  | non=>cases r1;cases e2;rfl
  | str i=>cases e2
  | ty i=>cases e2
  | dic ks i=>cases e2
  | exc i=>cases e2
  | oth i=>cases e2
  | dib i j=>cases e2
  | tup ds=>obtain ⟨a,vs,rfl,hq,U7⟩:=r1.sqT;cases e2;exact .inr (.inl ⟨vs,hq,by cases U7 <;> rfl⟩)
  | lst ds=>obtain ⟨a,vs,rfl,hq,U7⟩:=r1.sqL;cases e2;exact .inl ⟨vs,hq,by cases U7 <;> rfl⟩⟩
def CI (i j:Nat) (vr:Qv):P5:=λW S=>vr S λrs S1=>∃d1 d2,rs=[.d d1,.d d2]/\i<S1.length/\j<S1.length/\W.nx ((S1.set i (.val d1)).set j (.val d2))
theorem CJ {i j:Nat} {SG:Stmt} (hp:PS X SG (sm i j tr)) (ha:BK K false tr vr):VS K X SG (sm i j tr) (CI i j vr):=⟨hp,λH0 Z σ H S W E k t l=>ha H0 Z σ H S _ _ k t λvs H1 rs S1 k1 Pq Qp Px=>by
 obtain ⟨d1,d2,e,hi,hj,q⟩:=Px
 subst e
 cases Qp with
 | cons r1 t1=>
  cases t1 with
  | cons r2 t2=>
   cases t2
   have r1:Rep K (NM Z σ S1) Pz H1 _ d1:=Rep.mono (λ_ n _=>⟨n,rfl⟩) (λ_ _=>trivial) r1
   have r2:Rep K (NM Z σ S1) Pz H1 _ d2:=Rep.mono (λ_ n _=>⟨n,rfl⟩) (λ_ _=>trivial) r2
   obtain ⟨k2,Pj⟩:=k1.setVal hi r1
   obtain ⟨k3,Qi⟩:=k2.setVal (i:=j) (by simpa using hj) (r2.step Pj)
   exact ⟨_,_,rfl,l.nx _ _ _ k3 ((Pq.trans Pj).trans Qi) q⟩⟩
def FX (i:Nat) (t:PQ):PQ:=λS Q=>(∃ds,S[i]?=some (.own ds))/\t S λes S1=>∃ds,S1[i]?=some (.own ds)/\ds.length+es.length<=1000000/\Q (ds++es) S1
theorem t5 {t:PQ} (i:Nat) (ho:PE X a (cF i)) (h:VN K X b tb t):VN K X (.BinOp a .Add b pos) (Rw BE (cF i) tb) (FX i t):=⟨jC sN ho h.pe,λH0 Z σ H S Q C k Px hc=>by
 obtain ⟨⟨Xg,e0⟩,t⟩:=Px
 obtain ⟨o,g1,c,us,rfl,g2,g3,g4⟩:=k.ownAt e0
 refine ⟨.ref c,g1,h.snd H0 Z σ H S _ _ k t λa' vs es H1 H' S1 k1 Pq ha hg hl rr Pk=>?_⟩
 obtain ⟨ds,e1,hlen,q⟩:=Pk
 obtain ⟨o',g1',c',SR,rfl,U8,g3',g4'⟩:=k1.ownAt e1
 rw[g1] at g1';cases g1'
 have k2:=k1.grow hg
 have g2'':H' c=some (.lst SR):=by rw[hg c (by simp[U8])];exact U8
 refine ⟨c,a',SR,vs,rfl,rfl,g2'',hl,by rw[g4'.length,rr.length,IL];lia,λp hp=>?_⟩
 refine hc p _ _ H' _ S1 k2 (Pq.trans (.grow hg)) hp (aG hp) aw (Pi.append ?_ ?_) q
 ·exact bC hp ((g4'.mono (λb n e=>⟨n,hg b e⟩) λ_ x=>x).mono (λ_ n _=>⟨n,rfl⟩) λ_ x _=>x)
 ·exact bC hp (rr.mono (λ_ n _=>⟨n.1,rfl⟩) λ_ x _=>x)⟩
end
end VL
end
section
namespace VL
open PySem L2
theorem xw {X:Cx} {i j:Nat} {SG:Stmt} {a b:Expr} {tr:TA} {vr:Qv} (hp:∀tr,PA X [a,b] tr->PS X SG (sm i j tr)) (ha:VA K X false [a,b] tr vr):VS K X SG (sm i j tr) (CI i j vr):=CJ (hp _ ha.pe) ha.snd
section
variable {S:List Sl} {Q:VR->List Sl->Prop} {QT:Bool->List Sl->Prop} {QN:List D->List Sl->Prop} {W:bh} {va vb:VT} {vr:Qv} {vn:PQ} {vl vh:VO}
@[irreducible] def xy (i:Nat) (QN:List D->List Sl->Prop):List D->List Sl->Prop:=λes S1=>∃ds,S1[i]?=some (.own ds)/\ds.length+es.length<=1000000/\QN (ds++es) S1
theorem FY {i:Nat} (e:S[i]?=some (.own ds)) (h:vn S (xy i QN)):FX i vn S QN:=by unfold xy at h;exact ⟨⟨ds,e⟩,h⟩
theorem CK {i:Nat} {es ds:List D} (e:S[i]?=some (.own ds)) (hl:ds.length+es.length<=1000000) (h:QN (ds++es) S):xy i QN es S:=by unfold xy;exact ⟨ds,e,hl,h⟩
@[irreducible] def xA (QT:Bool->List Sl->Prop):VR->List Sl->Prop:=λr S1=>∃d b,get S1 r=some d/\Xc d=some b/\QT b S1
theorem FZ (h:va S (xA QT)):FW va S QT:=by unfold xA at h;exact h
theorem t6 {b:Bool} (e:get S r=some d) (e2:Xc d=some b) (h:QT b S):xA QT r S:=by unfold xA;exact ⟨d,b,e,e2,h⟩
@[irreducible] def xB (i j:Nat) (W:bh):List VR->List Sl->Prop:=λrs S1=>∃d1 d2,rs=[.d d1,.d d2]/\i<S1.length/\j<S1.length/\W.nx ((S1.set i (.val d1)).set j (.val d2))
theorem F0 {i j:Nat} (h:vr S (xB i j W)):CI i j vr W S:=by unfold xB at h;exact h
theorem CL {i j:Nat} {d1 d2:D} (h1:i<S.length) (h2:j<S.length) (h:W.nx ((S.set i (.val d1)).set j (.val d2))):xB i j W [.d d1,.d d2] S:=by unfold xB;exact ⟨d1,d2,rfl,h1,h2,h⟩
variable {QO:Option Int->List Sl->Prop}
end
end VL
end
section
namespace VL
open PySem L2
section
variable {K:Ho} {X:Cx} {m:Bool} {e a b:Expr} {es:List Expr} {ta tb te:TE} {va vb:VT} {tr:TA} {vr:Qv} {pos p:Pos} {SG:Stmt} {ts:TS} {t:P5}
def F4 (i:Nat) (t:P5):P5:=λV S=>∃ds,S[i]?=some (.own ds)/\t V (S.set i (.val (.lst ds)))
theorem CM (i:Nat) (h:VS K X SG ts t):VS K X SG ts (F4 i t):=⟨h.ps,λH0 Z σ H S V E k Px l=>by
 obtain ⟨ds,e,t⟩:=Px
 obtain ⟨k',st⟩:=k.wk (t4 e)
 exact h.snd H0 Z σ H _ V E k' t (l.step st)⟩
theorem F7 {i:Nat} {V:bh} (e:S[i]?=some (.own ds)) (h:t V (S.set i (.val (.lst ds)))):F4 i t V S:=⟨ds,e,h⟩
theorem xC (h:VA K X false es tr vr):VE K X false (.List es pos) (Bv tr) (qG (BP vr)):=⟨sL h.pe,λH0 Z σ H S Q C k t hc=>
 h.snd H0 Z σ H S _ _ k t λvs H1 rs S1 k1 Pq Qp ⟨ds,e,hl,q⟩=>⟨small (by rw[Qp.length,<- dH e];exact hl),λp hp=>
  hc (.ref p) _ (.d (.lst ds)) S1 (k1.grow (aG hp)) (Pq.trans (.grow (aG hp))) (Rep.lst (k1.nm hp) (λz=>nomatch z) aw ((Qp.allD e).mono (λb n x=>⟨n,aG hp b x⟩) λ_ x=>x)) q⟩⟩
end
end VL
end
section
namespace VL
open PySem L2
section
variable {K:Ho} {X:Cx} {m:Bool} {e o:Expr} {te:TE} {vb:VT} {pos:Pos}
def F8 (rows:List (Int×List (List Int))) (vb:VT):VT:=λS Q=>vb S λrb S1=>∃k nss,get S1 rb=some (.int k)/\(k,nss)∈rows/\Q (.d (.tup (nss.map eT))) S1
theorem CN {a:Addr} {rows:List (Int×List (List Int))} (hK:X.K=K) (hd:VD K a rows=true) (ho:PE X o (tC (.ref a))) (h:VE K X false e te vb) (hs:fV e):VE K X m (.Subscript o e pos) (Rw (Eu K rows) (tC (.ref a)) te) (F8 rows vb):=
 ⟨by subst hK;exact oS w4 ho h.pe hs,λH0 Z σ H S Q C k t hc=>h.snd H0 Z σ H S _ _ k t λv H1 r S1 k1 Pq rr Px=>by
  obtain ⟨i,nss,e1,hi,q⟩:=Px
  cases rr.get k1 e1
  refine ⟨a,i,nss,rfl,rfl,hd,hi,λv tt=>?_⟩
  obtain ⟨a',ps,rfl,h⟩:=tt
  obtain ⟨h1,h2⟩:=h λ_=>none
  exact hc _ H1 (.d (.tup (nss.map eT))) S1 k1 Pq (show Rep K _ _ H1 (.ref a') (.tup (nss.map eT)) from .tupK h1 (pF h2)) q⟩
end
section
variable {S:List Sl} {Q:VR->List Sl->Prop} {vb:VT}
@[irreducible] def xD (rows:List (Int×List (List Int))) (Q:VR->List Sl->Prop):VR->List Sl->Prop:=λrb S1=>∃k nss,get S1 rb=some (.int k)/\(k,nss)∈rows/\Q (.d (.tup (nss.map eT))) S1
theorem F9 {rows:List (Int×List (List Int))} (h:vb S (xD rows Q)):F8 rows vb S Q:=by unfold xD at h;exact h
theorem CO {rows:List (Int×List (List Int))} {k:Int} {nss:List (List Int)} (e:get S r=some (.int k)) (hm:(k,nss)∈rows) (h:Q (.d (.tup (nss.map eT))) S):xD rows Q r S:=by unfold xD;exact ⟨k,nss,e,hm,h⟩
end
end VL
end
section
namespace KT
open PySem PySem.Spec L2 SeqAt PySem.W
def isNum:Int->Ht->Bool
 | k,.int j _=>decide (j=k)
 | k,.bool b=>decide ((if b then (1:Int) else 0)=k)
 | _,_=>false
theorem bV {k:Int} {v:Ht} (h:isNum k v=true):(∃t,v=.int k t)\/∃b,v=.bool b/\(if b then (1:Int) else 0)=k:=by
 cases v <;> simp[isNum] at h
 ·exact .inr ⟨_,rfl,h⟩
 ·exact .inl ⟨_,by rw[h]⟩
section
variable {prog:Ip} {w:Ji}
theorem qO {A:Js} {E:Ht->Hv->Prop} {s:Hv} {b:Bool} {Q:Int->Hv->Prop} (h:Q (Pe (if b then (1:Int) else 0)) { s with toks:=s.toks+1 }):IJ (IB prog w) A (pyHash (.bool b)) Q E s:=by
 refine pyHash_slot (T:="bool") rfl F.slot_bool_hash entry_int_hash (args_int_hash _) (beq_builtin_none _) (.inl rfl) ?_
 cases b
 ·exact (show IJ _ _ (do ret (<- mkInt 0)) _ _ s from Hq (wpAny_mkInt (Hw ⟨_,_,rfl,h⟩)))
 ·exact (show IJ _ _ (do ret (<- mkInt 1)) _ _ s from Hq (wpAny_mkInt (Hw ⟨_,_,rfl,h⟩)))
def numKind (prog:Ip) (w:Ji):KeyKind prog w Int where
 is:=isNum
 hash:=Pe
 inj:=λv a b x y=>by
  rcases bV x with ⟨t,rfl⟩ | ⟨c,rfl,rfl⟩
  ·rcases bV y with ⟨u,e⟩ | ⟨d,e,_⟩ <;> cases e;rfl
  ·rcases bV y with ⟨u,e⟩ | ⟨d,e,rfl⟩ <;> cases e;rfl
 byValue:=λk v h=>by rcases bV h with ⟨t,rfl⟩ | ⟨c,rfl,_⟩ <;> rfl
 pyHash:=λhv h=>by
  rcases bV hv with ⟨t,rfl⟩ | ⟨c,rfl,rfl⟩
  ·exact wpAny_pyHash_int h
  ·exact qO h
 eqBool:=λ{A E s a b u v Q} hu hv h=>by
  have z:∀c d:Int,decide (c=d)=(c==d):=λc d=>by rw[Ju];simp
  rw[z] at h
  rcases bV hu with ⟨t,rfl⟩ | ⟨c,rfl,rfl⟩ <;> rcases bV hv with ⟨r,rfl⟩ | ⟨d,rfl,rfl⟩
  ·exact wpAny_eqBool_int h
  ·exact EqAt.int_bool _ _ _ prog w E Q h
  ·exact EqAt.bool_int _ _ _ prog w E Q h
  ·refine EqAt.bool_bool _ _ prog w E Q ?_
   have e:(c==d)=((if c then (1:Int) else 0)==(if d then 1 else 0)):=by cases c <;> cases d <;> rfl
   rw[e];exact h
 «strs»:=λk x t v h=>by simp[isNum] at h
end
end KT
end
section
namespace L2
open PySem PySem.Spec PyProof.Rows
section
variable {X:Cx} {pins:List (Addr×Obj)} {σ:St} {H:Hp} {s:Hv}
inductive NumV:List Int->List V->Prop where
 | nil:NumV [] []
 | int (i:Int) {ms:List Int} {vs:List V} (t:NumV ms vs):NumV (i::ms) (.int i::vs)
 | bl (b:Bool) {ms:List Int} {vs:List V} (t:NumV ms vs):NumV ((if b then (1:Int) else 0)::ms) (.bl b::vs)
theorem NumV.ints:∀ms:List Int,NumV ms (ms.map V.int)
 | []=>.nil
 | i::r=>.int i (NumV.ints r)
def Rb (K:Ho) (H:Hp) (b:Addr) (ms:List Int):Prop:=∃vs,Qq K H b vs/\NumV ms vs
theorem Rb.of {b:Addr} (h:Qq K H b (ms.map V.int)):Rb K H b ms:=⟨_,h,NumV.ints ms⟩
theorem fQ {P:Ip} {w:Ji}:∀{ms:List Int} {vs:List V} {us:List Ht},NumV ms vs->Pm vs us->ItemsAre (KT.numKind P w) ms us
 | _,_,_,.nil,r=>by cases r;exact .nil
 | _,_,_,.int i t,r=>by
  cases r with
  | cons h u=>obtain ⟨tk,rfl⟩:=h;exact .cons (by simp[KT.numKind,KT.isNum]) (fQ t u)
 | _,_,_,.bl b t,r=>by
  cases r with
  | cons h u=>cases h;exact .cons (by simp[KT.numKind,KT.isNum]) (fQ t u)
theorem cP {b:Addr} (I:Inv X pins σ H s) (h:Rb X.K H b ms):(LM (KT.numKind X.prog X.w)).is s.heap ms b:=by
 obtain ⟨vs,h,hn⟩:=h
 obtain ⟨its,r,⟨o,h1,h2,n,h3⟩,_⟩:=I.tuple h
 exact ⟨o,its.toArray,n,h1,h2,h3,by simpa using fQ hn r⟩
def cf (K:Ho) (H:Hp) (es:List (List Int×Addr×V)):Prop:=∀x∈es,Rb K H x.2.1 x.1
theorem EV.keys {xs:List (List Int×Addr×Ht)} (r:EV es xs):es.map (·.1)=xs.map (·.1):=by
 induction r with
 | nil=>rfl
 | cons h t ih=>rw[HJ,HJ,ih,h.1]
theorem EV.mem {xs:List (List Int×Addr×Ht)} (r:EV es xs):∀x∈xs,∃e∈es,e.1=x.1/\e.2.1=x.2.1:=by
 induction r with
 | nil=>intro x h;exact nomatch h
 | @cons p q ps qs h t ih=>
  intro x hx
  rcases List.mem_cons.mp hx with rfl | hx
  ·exact ⟨p,Hx,h.1,h.2.1⟩
  ·obtain ⟨e,h1,h2⟩:=ih x hx
   exact ⟨e,Ic _ h1,h2⟩
theorem fB {a:Addr} {ob:Obj} (I:Inv X pins σ H s) (e:H a=some (bM a ob es)) (k:cf X.K H es):es.length<=Ii/\(a==KD)=false/\(es.map (·.1)).Nodup /\
  ∃xs,EV es xs/\s.heap.DictOfH (LM (KT.numKind X.prog X.w)) a xs:=by
 obtain ⟨z,m,nd,xs,ev,o,ds,ep,h1,h2,h3,h4⟩:=fW I e
 refine ⟨z,m,nd,xs,ev,o,ds,ep,h1,h2,h3,h4,λx hx=>?_,by rw[<- ev.keys];exact nd⟩
 obtain ⟨e,he,e1,e2⟩:=ev.mem x hx
 rw[<- e1,<- e2]
 exact cP I (k e he)
def Q3 (es:List (List Int×Addr×V)) (k:List Int):Option V:=(es.find? λx=>decide (x.1=k)).map (·.2.2)
theorem EV.at_ {xs:List (List Int×Addr×Ht)} (r:EV es xs) (k:List Int):Sv (Q3 es k) ((OQ xs k).map (·.2)):=by
 induction r with
 | nil=>exact Lz
 | @cons p q ps qs h t ih=>
  obtain ⟨h1,_,h2⟩:=h
  by_cases e:p.1=k
  ·have e':q.1=k:=h1.symm.trans e
   have a:Q3 (p::ps) k=some p.2.2:=by simp[Q3,Jw,e]
   have b:OQ (q::qs) k=some q.2:=by simp[OQ,Jw,e']
   rw[a,b];exact h2
  ·have e':¬ q.1=k:=λz=>e (h1.trans z)
   have a:Q3 (p::ps) k=Q3 ps k:=by simp[Q3,Jw,e]
   have b:OQ (q::qs) k=OQ qs k:=by simp[OQ,Jw,e']
   rw[a,b];exact ih
theorem gK:∀{o:Option V} {u:Option Ht},Sv o u->o.isSome=u.isSome
 | some _,some _,_=>rfl
 | none,none,_=>rfl
 | some _,none,h=>h.elim
 | none,some _,h=>h.elim
theorem e6 {k:List Int}:(Q3 es k).isSome=decide (k∈es.map (·.1)):=by
 induction es with
 | nil=>rfl
 | cons p ps ih=>
  by_cases e:p.1=k
  ·simp[Q3,Jw,e]
  ·have a:Q3 (p::ps) k=Q3 ps k:=by simp[Q3,Jw,e]
   rw[a,ih]
   have:¬ k=p.1:=λz=>e z.symm
   simp[this]
def t7 (K:Ho) (neg:Bool):R2:=λy x H Q=>∃b a ms es,y=.ref b/\x=.ref a/\Rb K H b ms/\(∃ob,H a=some (bM a ob es))/\cf K H es/\Q (.bl (if neg then !decide (ms∈es.map (·.1)) else decide (ms∈es.map (·.1)))) H
end
section
variable {X:Cx}
theorem CP (hu:X.A.units+64<Ls):Qt X (JB .In) (t7 X.K false):=by
 rintro pins s σ H x y v u Q I rx ry ⟨b,a,ms,es,e1,e2,h1,⟨ob,h2⟩,h3,q⟩
 subst e1;subst e2
 cases rx;cases ry
 obtain ⟨z,m,nd,xs,ev,dd⟩:=fB I h2 h3
 refine wpAny_in_heap (Kh (by lia)) (cP I h1) m dd ?_
 have e:=gK (ev.at_ ms)
 rw[MF,e6] at e
 rw[<- e]
 exact ⟨.bl _,H,I.tok _,rfl,q⟩
theorem qP (hu:X.A.units+64<Ls):Qt X (JB .NotIn) (t7 X.K true):=by
 rintro pins s σ H x y v u Q I rx ry ⟨b,a,ms,es,e1,e2,h1,⟨ob,h2⟩,h3,q⟩
 subst e1;subst e2
 cases rx;cases ry
 obtain ⟨z,m,nd,xs,ev,dd⟩:=fB I h2 h3
 refine wpAny_notIn_heap (Kh (by lia)) (cP I h1) m dd ?_
 have e:=gK (ev.at_ ms)
 rw[MF,e6] at e
 rw[<- e]
 exact ⟨.bl _,H,I.tok _,rfl,q⟩
end
end L2
namespace L2
open PySem PySem.Spec PyProof.Rows
def fH (es:List (List Int×Addr×V)) (k:List Int) (b:Addr) (v:V):List (List Int×Addr×V):=if k∈es.map (·.1) then es.map (λx=>if x.1=k then (x.1,x.2.1,v) else x) else es++[(k,b,v)]
theorem e7 (es:List (List Int×Addr×V)) (k:List Int) (b:Addr) (v:V):(fH es k b v).length<=es.length+1:=by
 unfold fH;split <;> simp
theorem EV.repl {xs:List (List Int×Addr×Ht)} (r:EV es xs) (k:List Int) {u:Ht} (rv:RelV v u):EV (es.map λx=>if x.1=k then (x.1,x.2.1,v) else x) (xs.map (putAt k u)):=by
 induction r with
 | nil=>exact .nil
 | @cons p q ps qs h t ih=>
  rw[HJ,HJ]
  refine .cons ?_ ih
  obtain ⟨h1,h2,h3⟩:=h
  unfold putAt
  by_cases e:p.1=k
  ·rw[if_pos e,if_pos (h1.symm.trans e)];exact ⟨h1,h2,rv⟩
  ·rw[if_neg e,if_neg (λz=>e (h1.trans z))];exact ⟨h1,h2,h3⟩
theorem EV.put {xs:List (List Int×Addr×Ht)} (r:EV es xs) (k:List Int) {b:Addr} {u:Ht} (rv:RelV v u):EV (fH es k b v) (storedH xs k b u):=by
 have e:decide (k∈es.map (·.1))=(OQ xs k).isSome:=by
  have:=gK (r.at_ k)
  rw[MF,e6] at this
  exact this
 unfold fH storedH
 by_cases q:(OQ xs k).isSome=true
 ·rw[if_pos q,if_pos (of_decide_eq_true (e.trans q))];exact r.repl k rv
 ·rw[if_neg q,if_neg (λz=>q (e.symm.trans (decide_eq_true z)))];exact Paired.snoc r ⟨rfl,rfl,rv⟩
section
variable {X:Cx} {o i value:Expr} {pos pos':Pos} {td ty tv:TE}
def zW (K:Ho) (td ty tv:TE):TS:=λD σ H=>tv σ H λv H1=>td σ H1 λx H2=>ty σ H2 λy H3=>∃a b ms es,x=.ref a/\y=.ref b/\Rb K H3 b ms/\(∃ob,H3 a=some (bM a ob es))/\cf K H3 es/\es.length<Ii /\
 ∀ob,D.nx σ (upd H3 a (bM a ob (fH es ms b v)))
theorem CQ {s:Hv} {a b:Addr} {ob:Obj} {r:Ht} {A:Js} {E:Ht->Hv->Prop} {Q:Unit->Hv->Prop} (hu:A.units+1<Ls) (I:Inv X pins σ H s) (h1:Rb X.K H b ms) (h2:H a=some (bM a ob es)) (h3:cf X.K H es) (hl:es.length<Ii) (rv:RelV v r)
  (h:∀ob s',Inv X pins σ (upd H a (bM a ob (fH es ms b v))) s'->Q () s'):IJ (IB X.prog X.w) A (OV (.ref a) (.ref b) r) Q E s:=by
 obtain ⟨z,m,nd,xs,ev,dd⟩:=fB I h2 h3
 refine wpAny_setItem_heap (hsz:=by rw[<- JM ev];exact z) (Kh hu) (cP I h1) dd λh' Ul hs=>?_
 obtain ⟨q,ds,ep,hq,g2,g3,g4,_,g5⟩:=Ul
 refine h q _ (I.write (x:=a) (e:=a) (by rw[h2];exact Lz) (.inl rfl) (λb q hb z=>(hs.2 b hb).trans z) ⟨q,hq⟩ (Qe.ok ⟨?_,m,?_,_,ev.put ms rv,q,ds,ep,hq,g2,g3,g4⟩ hq))
 ·have:=e7 es ms b v;lia
 ·rw[(ev.put ms rv).keys];exact g5
theorem xE (hu:X.A.units+64<Ls) (ho:PE X o td) (hi:PE X i ty) (hv:PE X value tv) (hs:Ke value (some (.Subscript o i pos')) pos.line X.env=pure false) :
  PS X (.Assign [.Subscript o i pos'] value pos) (zW X.K td ty tv):=by
 intro pins s σ H D I h
 refine wpAny_Assign_Subscript (PF (hv pins s σ H _ I h) λr s1 ⟨v,H1,I1,rv,q1⟩=>PF (ho pins s1 σ H1 _ I1 q1) λu s2 ⟨x,H2,I2,rx,q2⟩=>PF (hi pins s2 σ H2 _ I2 q2) λiv s3 Pk=>?_) hs
 obtain ⟨y,H3,I3,ry,a,b,ms,es,ex,ey,h1,⟨ob,h2⟩,h3,hl,q3⟩:=Pk
 subst ex;subst ey
 obtain rfl:u=IG a:=rx
 obtain rfl:iv=IG b:=ry
 exact CQ (by lia) I3 h1 h2 h3 hl rv λob s4 I4=>⟨σ,_,I4,q3 ob⟩
theorem nT {s:Hv} (I:Inv X pins σ H s):KD<s.heap.objs.size:=by
 have h:HW<s.heap.objs.size:=(I.mod.glob.keeps I.bk).lt
 exact Nat.lt_trans (by decide) h
def zX:TE:=λ_ H Q=>∀p ob,H p=none->Q (.ref p) (upd H p (bM p ob []))
theorem xF:PE X (.Dict [] [] pos) zX:=λpins s σ H Q I h=>
 wpAny_Dict_empty ⟨.ref s.heap.objs.size,_,I.laid (a:=s.heap.objs.size) (o:=bM s.heap.objs.size _ []) (t':=s.toks) (λ_ _ q=>Hs _ q) (HA _)
  (Qe.ok ⟨JV _,beq_eq_false_iff_ne.mpr (Ka (IE (nT I))),NO,[],.nil,_,#[],0,HP _ rfl,⟨rfl,rfl,rfl⟩,rfl,rfl⟩ (HP _ rfl)),rfl,h _ _ (I.hok.fresh (HA _))⟩
end
end L2
namespace VL
open PySem L2
def dc (kvs:List (List Int×D)):D:=.dic (kvs.map (·.1)) (kvs.map (·.2))
def od (kvs:List (List Int×D)):Sl:=.odi (kvs.map (·.1)) (kvs.map (·.2))
def PN (kvs:List (List Int×D)) (k:List Int) (d:D):List (List Int×D):=if k∈kvs.map (·.1) then kvs.map (λx=>if x.1=k then (x.1,d) else x) else kvs++[(k,d)]
def PJ (kvs:List (List Int×D)) (k:List Int):Option D:=(kvs.find? λx=>decide (x.1=k)).map (·.2)
section
variable {K:Ho} {N:AP} {F:FP} {H:Hp}
theorem cK:∀{es:List (List Int×Addr×V)},Pi K N F H (es.map λx=>.ref x.2.1) ((es.map (·.1)).map kT)->cf K H es
 | [],_=>λ_ h=>nomatch h
 | e::es,r=>by
  cases r with
  | cons h t=>
   intro x hx
   rcases List.mem_cons.mp hx with rfl | hx
   ·obtain ⟨a,vs,e1,hq,rr⟩:=Rep.sqT (show Rep K N F H _ (.tup (x.1.map D.int)) from h)
    cases e1
    cases Pi.toInts rr
    exact Rb.of hq
   ·exact cK t x hx
theorem Rep.dct {ks:List (List Int)} (h:Rep K N F H v (.dic ks ds)):∃a es,v=.ref a/\N a/\F (some a)/\(∃ob,H a=some (bM a ob es))/\es.map (·.1)=ks/\cf K H es/\Pi K N F H (es.map λx=>.ref x.2.1) (ks.map kT)/\Pi K N F H (es.map (·.2.2)) ds:=by
 cases h with
 | dic n f h e rk r=>subst e;exact ⟨_,_,rfl,n,f,⟨_,h⟩,rfl,cK rk,rk,r⟩
theorem jU {k:List Int} (hv:Rep K N F H v d):∀{es:List (List Int×Addr×V)} {kvs:List (List Int×D)},es.map (·.1)=kvs.map (·.1)->Pi K N F H (es.map (·.2.2)) (kvs.map (·.2)) ->
  Pi K N F H ((es.map λx=>if x.1=k then (x.1,x.2.1,v) else x).map (·.2.2)) ((kvs.map λx=>if x.1=k then (x.1,d) else x).map (·.2))
 | [],[],_,_=>.nil
 | e::es,p::kvs,ek,r=>by
  simp only[HJ,Ln] at ek
  cases r with
  | cons h t=>
   simp only[HJ]
   refine .cons ?_ (jU hv ek.2 t)
   by_cases hk:e.1=k
   ·rw[if_pos hk,if_pos (ek.1.symm.trans hk)];exact hv
   ·rw[if_neg hk,if_neg (λz=>hk (ek.1.trans z))];exact h
 | [],_::_,ek,_=>by simp at ek
 | _::_,[],ek,_=>by simp at ek
theorem nU (es:List (List Int×Addr×V)) (k:List Int) (v:V):(es.map λx=>if x.1=k then (x.1,x.2.1,v) else x).map (·.1)=es.map (·.1):=by
 rw[Iq]
 refine IW λx _=>?_
 simp only[Lm];split <;> rfl
theorem nV (es:List (List Int×Addr×V)) (k:List Int) (v:V):(es.map λx=>if x.1=k then (x.1,x.2.1,v) else x).map (λx=>V.ref x.2.1)=es.map λx=>V.ref x.2.1:=by
 rw[Iq]
 refine IW λx _=>?_
 simp only[Lm];split <;> rfl
theorem fR (kvs:List (List Int×D)) (k:List Int) (d:D):(kvs.map λx=>if x.1=k then (x.1,d) else x).map (·.1)=kvs.map (·.1):=by
 rw[Iq]
 refine IW λx _=>?_
 simp only[Lm];split <;> rfl
theorem kL {k:List Int} {b:Addr} (hv:Rep K N F H v d) {F':FP} (hb:Rep K N F' H (.ref b) (kT k)) (ek:es.map (·.1)=kvs.map (·.1))
  (rk:Pi K N F' H (es.map λx=>V.ref x.2.1) ((kvs.map (·.1)).map kT)) (r:Pi K N F H (es.map (·.2.2)) (kvs.map (·.2))) :
  (fH es k b v).map (·.1)=(PN kvs k d).map (·.1)/\Pi K N F' H ((fH es k b v).map λx=>V.ref x.2.1) (((PN kvs k d).map (·.1)).map kT)/\Pi K N F H ((fH es k b v).map (·.2.2)) ((PN kvs k d).map (·.2)):=by
 unfold fH PN
 by_cases hk:k∈es.map (·.1)
 ·rw[if_pos hk,if_pos (by rw[<- ek];exact hk),nU,fR,nV]
  exact ⟨ek,rk,jU hv ek r⟩
 ·rw[if_neg hk,if_neg (by rw[<- ek];exact hk)]
  simp only[HX,HJ,Iz]
  exact ⟨by rw[ek],Pi.append rk (.cons hb .nil),Pi.append r (.cons hv .nil)⟩
end
section
variable {K:Ho} {X:Cx} {m:Bool} {e o ie:Expr} {te ti:TE} {va vi:VT} {pos QX:Pos}
def Ga (neg:Bool):D->D->(D->Prop)->Prop:=λd1 d2 q=>∃ms kvs,d1=kT ms/\d2=dc kvs/\q (.bl (if neg then !decide (ms∈kvs.map (·.1)) else decide (ms∈kvs.map (·.1))))
theorem mE {neg:Bool}:dr K (t7 K neg) (Ga neg):=by
 rintro x y H d1 d2 q C r1 r2 ⟨ms,kvs,rfl,rfl,h⟩ hc
 obtain ⟨b,vs,rfl,hq,rr⟩:=Rep.sqT (show Rep K _ _ H x (.tup (ms.map D.int)) from r1)
 cases Pi.toInts rr
 obtain ⟨a,es,rfl,_,_,ha,ek,hk,_,_⟩:=Rep.dct (show Rep K _ _ H y (.dic _ _) from r2)
 refine ⟨b,a,ms,es,rfl,rfl,Rb.of hq,ha,hk,?_⟩
 rw[ek]
 exact hc _ _ h λ_ _=>.bl _
theorem pG (hK:X.K=K) (hu:X.A.units+64<Ls):Qt X (JB .In) (t7 K false):=by subst hK;exact CP hu
theorem t8 (hK:X.K=K) (hu:X.A.units+64<Ls):Qt X (JB .NotIn) (t7 K true):=by subst hK;exact qP hu
abbrev SS:=List Sl->(List (List Int×D)->List Sl->Prop)->Prop
def Hl (K:Ho) (te:TE) (t:SS):Prop:=∀H0 Z σ H S Q C,OK K H0 Z σ H S->t S Q->(∀a es kvs H1 H' S',OK K H0 Z σ H1 S'->Step Z σ S H σ S' H1->H1 a=none->(∀b,H1 b≠none->H' b=H1 b)->(∃ob,H' a=some (bM a ob es)) ->
 es.map (·.1)=kvs.map (·.1)->Pi K (λb=>NM Z σ S' b/\b≠a) Pz H' (es.map λx=>V.ref x.2.1) ((kvs.map (·.1)).map kT)->Pi K (λb=>NM Z σ S' b/\b≠a) (Fr H0) H' (es.map (·.2.2)) (kvs.map (·.2))->Q kvs S'->C (.ref a) H')->te σ H C
structure U9 (K:Ho) (X:Cx) (e:Expr) (te:TE) (t:SS):Prop where
 pe:PE X e te
 snd:Hl K te t
def zY:SS:=λS Q=>Q [] S
theorem kM:U9 K X (.Dict [] [] pos) zX zY:=⟨xF,λH0 Z σ H S Q C k t hc=>λp ob hp=>hc p [] [] H _ S k .refl hp (aG hp) ⟨ob,aw⟩ rfl .nil .nil t⟩
def zZ (t:SS):VT:=λS Q=>t S λkvs S1=>Q (.d (dc kvs)) S1
theorem kO {t:SS} (h:U9 K X e te t):VE K X m e te (zZ t):=⟨h.pe,λH0 Z σ H S Q C k t hc=>h.snd H0 Z σ H S _ _ k t λa es kvs H1 H' S1 k1 Pq ha hg Px ek rk rr q=>by
 obtain ⟨ob,hl⟩:=Px
 refine hc _ H' (.d (dc kvs)) S1 (k1.grow hg) (Pq.trans (.grow hg)) (Rep.dic (k1.nm ha) (λ_=>⟨a,rfl,k1.dom a ha⟩) hl ek (Pi.flat (rk.mono (λb n e=>⟨n.1,rfl⟩) λ_ x=>x) (f7 _)) (rr.mono (λb n e=>⟨n.1,rfl⟩) λ_ x _=>x)) q⟩
def Aa (i:Nat) (t:SS):P5:=λV S=>t S λkvs S1=>i<S1.length/\V.nx (S1.set i (od kvs))
theorem fC {i:Nat} {x:Str} {pos':Pos} {tn:SS} (ps:∀te,PE X e te->PS X (.Assign [.Name x pos'] e pos) (dY te (bB i))) (h:U9 K X e te tn):VS K X (.Assign [.Name x pos'] e pos) (dY te (bB i)) (Aa i tn):=
 ⟨ps te h.pe,λH0 Z σ H S V E k t l=>h.snd H0 Z σ H S _ _ k t λa es kvs H1 H' S' k1 Pq ha hg hl ek rk rr Px=>by
  obtain ⟨hi,q⟩:=Px
  obtain ⟨k2,Pj⟩:=k1.setNew (s:=od kvs) hi ha hg ⟨a,es,rfl,hl,k1.dom a ha,⟨ek,rk⟩,rr⟩ rfl
  exact l.nx _ _ _ k2 (Pq.trans Pj) q⟩
def Ab (i:Nat) (ve vi:VT):P5:=λV S=>ve S λr S1=>(∃kvs,S1[i]?=some (od kvs))/\vi S1 λri S2=>∃d ms kvs,r=.d d/\get S2 ri=some (kT ms)/\S2[i]?=some (od kvs)/\kvs.length<=1000000/\V.nx (S2.set i (od (PN kvs ms d)))
theorem gh (i:Nat) (hK:X.K=K) (hu:X.A.units+64<Ls) (ho:PE X o (cF i)) (h:VE K X true e te va) (hi:VE K X false ie ti vi) (hs:Ke e (some (.Subscript o ie QX)) pos.line X.env=pure false:=by rfl) :
  VS K X (.Assign [.Subscript o ie QX] e pos) (zW K (cF i) ti te) (Ab i va vi):=⟨by subst hK;exact xE hu ho hi.pe h.pe hs,λH0 Z σ H S V E k t l=>by
 refine h.snd H0 Z σ H S _ _ k t λx H1 r S1 k1 Pq rr Pk=>?_
 obtain ⟨⟨kvs0,e0⟩,q⟩:=Pk
 obtain ⟨o1,g1,p,Wz,rfl,_⟩:=k1.ownAt e0
 refine ⟨.ref p,g1,hi.snd H0 Z σ H1 S1 _ _ k1 q λy H2 ri S2 k2 Pj Rz Pk=>?_⟩
 obtain ⟨d,ms,kvs,er,ek,e1,hl,q2⟩:=Pk
 subst er
 obtain ⟨o2,g2,p',es,e2,h2,h3,⟨h4,h5⟩,h6⟩:=k2.ownAt e1
 rw[g1] at g2;cases g2;cases e2
 have rx:Rep K (NM Z σ S2) (FM H0 true) H2 x d:=Rep.step (show Rep K (NM Z σ S1) (FM H0 true) H1 x d from rr) Pj
 have ry:∃b,y=.ref b/\Qq K H2 b (ms.map L2.V.int)/\Rep K (NM Z σ S2) Pz H2 (.ref b) (kT ms):=by
  cases ri with
  | d z=>
   cases ek
   obtain ⟨b,vs,rfl,hq,rr⟩:=Rep.sqT (show Rep K _ _ H2 y (.tup (ms.map D.int)) from Rz)
   cases Pi.toInts rr
   exact ⟨b,rfl,hq,Rep.mono (λ_ n _=>⟨n,rfl⟩) (λ_ _=>trivial) Rz⟩
  | own j=>
   have ek:RK S2[j]?=some (kT ms):=ek
   cases es:S2[j]? with
   | none=>rw[es] at ek;cases ek
   | some s=>rw[es] at ek;cases s <;> cases ek
 obtain ⟨b,rfl,hq,rb⟩:=ry
 have hk:cf K H2 es:=cK (by rw[h4];exact h5)
 refine ⟨p,b,ms,es,rfl,rfl,Rb.of hq,h2,hk,?_,?_⟩
 ·have:es.length=kvs.length:=by have:=congrArg Kk h4;simpa using this
  rw[IL];lia
 ·intro TV
  have na:NM Z σ S2 p->False:=λn=>n (.inl ⟨i,_,e1,rfl,g1⟩)
  have hm:∀b,NM Z σ S2 b->H2 b≠none->NM Z σ S2 b/\upd H2 p (bM p TV (fH es ms b x)) b=H2 b:=λb n _=>⟨n,ay λz=>na (by rw[<- z];exact n)⟩
  have hm':∀c,NM Z σ S2 c->H2 c≠none->NM Z σ S2 c/\upd H2 p (bM p TV (fH es ms b x)) c=H2 c:=λc n _=>⟨n,ay λz=>na (by rw[<- z];exact n)⟩
  obtain ⟨z1,z2,z3⟩:=kL (k:=ms) (b:=b) (Rep.mono hm' (λ_ x=>x rfl) rx) (Rep.mono hm' (λ_ x=>x) rb) h4 (h5.mono hm' λ_ x=>x) (h6.mono hm' λ_ x=>x)
  obtain ⟨k3,Qi⟩:=k2.chgD (s:=od (PN kvs ms d)) (o:=bM p TV (fH es ms b x)) e1 rfl g1 rfl ⟨p,_,rfl,⟨TV,aw⟩,h3,⟨z1,z2⟩,z3⟩
  exact l.nx _ _ _ k3 ((Pq.trans Pj).trans Qi) q2⟩
end
end VL
end
section
namespace L2
open PySem PySem.Spec PyProof.Rows
section
variable {prog:Ip} {w:Ji} {A:Js} {E:Ht->Hv->Prop} {s:Hv}
theorem t9 {c:Code} {Q:Ht->Hv->Prop} {R:Result->Hv->Prop} (h:KG (IB prog w) A c (wants Q E) s) (ok:∀v s',Q v s'->R (.ok (.ret v)) s') (no:∀e s',E e s'->R (.error e) s'):KG (IB prog w) A c R s:=
 Mi h λr s' z=>match r,z with
  | .error e,z=>no e s' z
  | .ok (.ret v),z=>ok v s' z
theorem mF {r:Addr} {a b c:Int} {t u v:Tok} {n:Nat} {Q:List Ht->Hv->Prop} (hh:A.handled=none) (hr:IsRange s.heap r a b c t u v) (hs:L9 a b c=true) (hn:Kv a b c=n) (hl:n<=2 ^ 24)
    (h:∀(h':Heap) (tk:Nat) (acc:Array Ht),(∀b o,s.heap.get? b=some o->h'.get? b=some o)->O0 (λi v=>∃t,v=.int (a+i*c) t) acc n->Q acc.toList { s with heap:=h',toks:=tk }) :
    IJ (IB prog w) A (collect (.ref r)) Q E s:=by
  have e0:(s.heap.push { cls:=.type "list",data:=.seq ([]:List Ht).toArray }).get? s.heap.objs.size=some { cls:=.type "list",data:=.seq #[] 0 }:=HP _ rfl
  have ext:=wpAny_extend_range (prog:=prog) (w:=w) (A:=A) (s:={ s with heap:=s.heap.push { cls:=.type "list",data:=.seq ([]:List Ht).toArray } })
    (R:=wants (λv s'=>v=.ref s.heap.objs.size/\∃(h':Heap) (tk:Nat) (acc:Array Ht) (k:Nat),s'={ s with heap:=h',toks:=tk }/\(∀b o,s.heap.get? b=some o->h'.get? b=some o) /\
      h'.get? s.heap.objs.size=some { cls:=.type "list",dict:=none,data:=.seq acc k,slots:=#[] }/\O0 (λi v=>∃t,v=.int (a+i*c) t) acc n) E)
    hh (Hs _ hr) hs hn hl s.heap.objs.size (.ref s.heap.objs.size) 0 e0 λh' tk acc k old new its=>
      ⟨rfl,h',tk,acc,k,rfl,λb o e=>old b o (IE (HM e)) (Hs _ e),new,its⟩
  apply Hq
  apply wpAny_runValue
  refine t9 (Q:=λv s'=>v=.ref s.heap.objs.size/\∃(h':Heap) (tk:Nat) (acc:Array Ht) (k:Nat),s'={ s with heap:=h',toks:=tk }/\(∀b o,s.heap.get? b=some o->h'.get? b=some o) /\
      h'.get? s.heap.objs.size=some { cls:=.type "list",dict:=none,data:=.seq acc k,slots:=#[] }/\O0 (λi v=>∃t,v=.int (a+i*c) t) acc n) ?_ (λv s' z=>?_) λ_ _ e=>e
  · apply Nf F.entry_proto_collect
    rw[Nz F.plain_proto_collect]
    wp_walk
    constructor
    · exact plainId_quiet F.plain_list_iadd _
    apply Nf F.entry_list_iadd
    rw[Nz F.plain_list_iadd]
    exact ext
  · obtain ⟨rfl,h',tk,acc,k,rfl,old,new,its⟩:=z
    wp_walk
    exact h h' tk acc old its
theorem qQ {r:Addr} {a b c:Int} {t u v:Tok} {n:Nat} {Q:Ht->Hv->Prop} (hh:A.handled=none) (hr:IsRange s.heap r a b c t u v) (hs:L9 a b c=true) (hn:Kv a b c=n) (hl:n<=2 ^ 24)
  (h:∀(h':Heap) (tk:Nat) (acc:Array Ht),(∀b o,s.heap.get? b=some o->h'.get? b=some o)->O0 (λi v=>∃t,v=.int (a+i*c) t) acc n ->
   Q (.ref h'.objs.size) { s with heap:=h'.push { cls:=.type "tuple",data:=.seq acc },toks:=tk }) :
  IJ (IB prog w) A (call (.type "tuple") [.ref r]) Q E s:=by
 have meets:MeetsIn prog w (Builtin.«tuple.__new__» ⟨[.type "tuple",.ref r],[]⟩) λA R s=>A.handled=none/\IsRange s.heap r a b c t u v/\∀(h':Heap) (tk:Nat) (acc:Array Ht),(∀b o,s.heap.get? b=some o->h'.get? b=some o) ->
   O0 (λi v=>∃t,v=.int (a+i*c) t) acc n->R (.ok (.ret (.ref h'.objs.size))) { s with heap:=h'.push { cls:=.type "tuple",data:=.seq acc },toks:=tk }:=
  .of_wp λA R s Px=>by
   obtain ⟨hh,hr,h⟩:=Px
   have i1:=sub_tuple_self
   have i2:=init_tuple_lookup
   have i3:=madeHere_tuple
   have ty:s.TypeIs (.ref r) "range":=⟨_,hr,rfl⟩
   wp_walk using mF (A:=A.in1) hh hr hs hn hl
   intro h' tk acc old its
   have z:acc.toList.toArray.size<=Ii:=by rw[NA,its.1,IL];lia
   refine Hq (Hw ?_)
   show IJ _ _ (Builtin.Tuple.tupleExact acc.toList.toArray >>= ret) _ _ _
   refine Hq (IU (T:="tuple") (data:=.seq acc.toList.toArray) (hd:=z) (Hw ⟨_,rfl,?_⟩))
   rw[NA]
   exact h h' tk acc old its
 exact callType_newIn F.called_tuple (by decide) (F.typeCall_tuple_1 _) (F.newCall_tuple_1 _) (λ_=>F.args_object_init_2 _ _) F.entry_tuple_new meets
  ⟨hh,hr,λh' tk acc old its=>⟨⟨_,HP _ rfl,rfl⟩,h h' tk acc old its⟩⟩
end
end L2
end
section
namespace L2
open PySem PySem.Spec PyProof.Rows
def SU (lo:Int) (n:Nat):List Int:=(HF n).map λ(i:Nat)=>lo+(i:Int)
theorem nW {lo:Int} {n:Nat} {acc:Array Ht} (h:O0 (λi v=>∃t,v=.int (lo+i*1) t) acc n):Pm ((SU lo n).map V.int) acc.toList:=by
 have hl:acc.toList.length=n:=by simpa using h.1
 have key:∀(k:Nat) (l:List Ht) (j:Nat),l.length=k->(∀i v,l[i]?=some v->∃t,v=L1 (lo+((j+i:Nat):Int)) t)->Pm ((List.range' j k).map λ(i:Nat)=>V.int (lo+(i:Int))) l:=by
  intro k
  induction k with
  | zero=>intro l j e _;rw[Jn e];exact .nil
  | succ k ih=>
   intro l j e hv
   match l,e with
   | v::l,e=>
    rw[List.range'_succ,HJ]
    obtain ⟨t,rfl⟩:=hv 0 v rfl
    refine .cons ⟨t,by simp⟩ (ih l (j+1) (by simpa using e) λi u hu=>?_)
    obtain ⟨t',e'⟩:=hv (i+1) u (by simpa using hu)
    exact ⟨t',by rw[e'];simp only[Value.int.injEq,and_true];lia⟩
 unfold SU
 rw[Iq,List.range_eq_range']
 refine key n acc.toList 0 hl λi v hv=>?_
 obtain ⟨t,e⟩:=h.2 i v (by simpa using hv)
 exact ⟨t,by rw[e];simp only[Value.int.injEq,and_true];lia⟩
section
variable {X:Cx} {p pr pos Tr:Pos} {e:Expr} {tr:TA}
theorem ua {n:Int} (hc:X.calm=true) (h1:-(2 ^ 62)<=n) (h2:n<=1000000):L9 0 n 1=true/\Kv 0 n 1=(n.toNat:Int)/\n.toNat<=2 ^ 24:=by
 refine ⟨small_one (by decide) (by decide) h1 (by lia),?_,by lia⟩
 rw[rangeSize_one]
 split <;> lia
def Gb:List V->Hp->VK->Prop:=λxs H Q=>∃n:Int,xs=[.int n]/\∀r,H r=none->Q (.ref r) (upd H r (.rng 0 n))
theorem ub:cS X (.type "range") Gb:=by
 rintro pins s σ H xs us Q I r ⟨n,e,q⟩
 subst e
 obtain ⟨u,rfl,rx⟩:=vals1 r
 obtain ⟨t,rfl⟩:=rx
 refine call_range_1 ⟨.ref s.heap.objs.size,_,I.laid (a:=s.heap.objs.size) (o:=.rng 0 n) (λ_ _ q=>Hs _ q) (HA _) ⟨_,_,_,HP _ rfl⟩,rfl,q _ (I.hok.fresh (HA _))⟩
def rLR (mk:List V->HO):List V->Hp->VK->Prop:=λxs H Q=>∃(r:Addr) (n:Int),xs=[.ref r]/\H r=some (.rng 0 n)/\-(2 ^ 62)<=n/\n<=1000000/\∀l,H l=none->Q (.ref l) (upd H l (mk ((SU 0 n.toNat).map V.int)))
theorem mG (hc:X.calm=true):cS X (.type "tuple") (rLR .tup):=by
 rintro pins s σ H xs us Q I rr ⟨r,n,e,hr,h1,h2,q⟩
 subst e
 obtain ⟨u,rfl,rx⟩:=vals1 rr
 cases rx
 obtain ⟨t,u,v,ho⟩:=(show bA X.prog X.w H s.heap r (.rng 0 n) from I.hok r _ hr)
 obtain ⟨g1,g2,g3⟩:=ua (X:=X) hc h1 h2
 refine qQ (I.ok.hd hc) ho g1 g2 g3 λh' tk acc old its=>?_
 have I2:Inv X pins σ H { s with heap:=h',toks:=tk }:=I.kept old
 refine ⟨.ref h'.objs.size,_,I2.laid (t':=tk) (λ_ _ z=>Hs _ z) (HA _) (show bA X.prog X.w _ _ _ (.tup ((SU 0 n.toNat).map V.int)) from ⟨?_,acc.toList,nW its,_,HP _ rfl,rfl,0,by simp⟩),rfl,q _ (I2.hok.fresh (HA _))⟩
 simp only[Hz,SU,ID,IL]
 lia
def Gc (K:Ho):List V->Hp->VK->Prop:=λxs H Q=>∃(l:Addr) (ns:List Int),xs=[.ref l]/\Qz K H l (ns.map V.int)/\Q (.int ns.sum) H
theorem uc (hK:X.K=K) (hc:X.calm=true):cS X (.builtin "sum") (Gc K):=by
 rintro pins s σ H xs us Q I r ⟨l,ns,e,hq,q⟩
 subst e hK
 obtain ⟨u,rfl,rx⟩:=vals1 r
 cases rx
 obtain ⟨vs,rv,pl,_⟩:=I.list hq
 have hi:Oq vs ns:=intsAre_of rv
 obtain ⟨xs,ex⟩:=hi.allInts.items
 have hl:=pl.isList
 rw[ex] at hl
 refine PySem.sum_intListG (I.ok.hd hc) hl λh' tk t' hk=>⟨.int ns.sum,H,I.kept hk,⟨t',?_⟩,q⟩
 have e1:=hi.numsOf
 have e2:numsOf vs.toArray.toList=numsOf (intItems xs).toList:=by rw[ex]
 rw[show vs.toArray.toList=vs by simp] at e2
 rw[e1,nums_intItems] at e2
 rw[preSum_eq,KH (by simp),e2]
theorem nX:IZ "sum"=some (.builtin "sum"):=by decide +kernel
theorem ud:IZ "range"=some (.type "range"):=by decide +kernel
end
end L2
end
section
namespace VL
open PySem L2
section
variable {K:Ho} {X:Cx} {m:Bool} {e:Expr} {te:TE} {va vb:VT} {tr:TA} {vr:Qv} {pos p pr Tr:Pos}
def Ge:List D->(D->Prop)->Prop:=λds q=>∃ns:List Int,ds=[.lst (ns.map .int)]/\q (.int ns.sum)
theorem ue:iQ K (Gc K) Ge:=by
 rintro xs H ds q C r ⟨ns,rfl,h⟩ hc
 obtain ⟨v,rfl,rv⟩:=rep1 r
 obtain ⟨a,vs,rfl,hq,rr⟩:=rv.sqL
 cases Pi.toInts rr
 exact ⟨a,ns,rfl,hq,hc _ _ h λ_ _=>.int _⟩
theorem uf (lo:Int) (n:Nat):rg lo n=(SU lo n).map D.int:=by unfold rg SU;rw[Iq];rfl
def vTR (vr:Qv):VT:=λS Q=>vr S λrs S1=>∃n:Int,rs=[.d (.int n)]/\-(2 ^ 62)<=n/\n<=1000000/\Q (.d (.tup (rg 0 n.toNat))) S1
theorem xG (hc:X.calm=true) (hg:Gl X "tuple") (hm:X.mg "tuple"=none) (hgr:Gl X "range") (hmr:X.mg "range"=none) (ha:VA K X false [e] tr vr) (he:HN [e] X.env=[(false,eval e X.env)]:=by rfl)
  (hs:HN [.Call (.Name "range" pr) [e] [] Tr] X.env=[(false,eval (.Call (.Name "range" pr) [e] [] Tr) X.env)]:=by rfl) :
  VE K X m (.Call (.Name "tuple" p) [.Call (.Name "range" pr) [e] [] Tr] [] pos) (Sm (rLR .tup) (eQ (Sm Gb tr) jw)) (vTR vr):=
 ⟨fx (mG hc) hg hm iI (bZ (fx ub hgr hmr ud ha.pe (by decide) (by decide) he rfl) eE hs) (by decide) (by decide) hs rfl,λH0 Z σ H S Q C k t SJ=>ha.snd H0 Z σ H S _ _ k t λvs H1 rs S1 k1 Pq Qp Px=>by
  obtain ⟨n,e1,h1,h2,q⟩:=Px
  subst e1
  obtain ⟨v,rfl,rv⟩:=Qp.one
  cases (show Rep K _ _ H1 v (.int n) from rv)
  refine ⟨n,rfl,λr hr=>?_⟩
  refine ⟨r,n,rfl,aw,h1,h2,λl hl=>?_⟩
  have g:=aG (o:=.rng 0 n) hr
  have g2:=aG (o:=.tup ((SU 0 n.toNat).map V.int)) hl
  refine SJ (.ref l) _ (.d (.tup (rg 0 n.toNat))) S1 ((k1.grow g).grow g2) ((Pq.trans (.grow g)).trans (.grow g2)) (show Rep K _ _ _ _ _ from Rep.tup ((k1.grow g).nm hl) (.inl aw) ?_) q
  rw[uf]
  exact Pi.ints⟩
end
section
variable {S:List Sl} {Q:VR->List Sl->Prop} {QN:List D->List Sl->Prop} {QD:List (List Int×D)->List Sl->Prop} {W:bh} {va vb:VT} {vr:Qv} {vd:SS}
@[irreducible] def WA (Q:VR->List Sl->Prop):List VR->List Sl->Prop:=λrs S1=>∃n:Int,rs=[.d (.int n)]/\-(2 ^ 62)<=n/\n<=1000000/\Q (.d (.tup (rg 0 n.toNat))) S1
theorem Hm (h:vr S (WA Q)):vTR vr S Q:=by unfold WA at h;exact h
theorem Gf {n:Int} (h:-(2 ^ 62)<=n/\n<=1000000) (q:Q (.d (.tup (rg 0 n.toNat))) S):WA Q [.d (.int n)] S:=by unfold WA;exact ⟨n,rfl,h.1,h.2,q⟩
theorem ug (h:q (.int ns.sum)):Ge [.lst (ns.map .int)] q:=⟨ns,rfl,h⟩
theorem CS (h:QD [] S):zY S QD:=h
@[irreducible] def pH (Q:VR->List Sl->Prop):List (List Int×D)->List Sl->Prop:=λkvs S1=>Q (.d (dc kvs)) S1
theorem CT (h:vd S (pH Q)):zZ vd S Q:=by unfold pH at h;exact h
theorem xH (h:Q (.d (dc kvs)) S):pH Q kvs S:=by unfold pH;exact h
@[irreducible] def pI (i:Nat) (W:bh):List (List Int×D)->List Sl->Prop:=λkvs S1=>i<S1.length/\W.nx (S1.set i (od kvs))
theorem CU {i:Nat} (h:vd S (pI i W)):Aa i vd W S:=by unfold pI at h;exact h
theorem xJ {i:Nat} (e:OZ (i+1) S.length=true) (h:W.nx (S.set i (od kvs))):pI i W kvs S:=by unfold pI;exact ⟨Ir e,h⟩
@[irreducible] def pJ (i:Nat) (vi:VT) (W:bh):VR->List Sl->Prop:=λr S1=>(∃kvs,S1[i]?=some (od kvs))/\vi S1 λri S2=>∃d ms kvs,r=.d d/\get S2 ri=some (kT ms)/\S2[i]?=some (od kvs)/\kvs.length<=1000000/\W.nx (S2.set i (od (PN kvs ms d)))
@[irreducible] def kP (i:Nat) (r:VR) (W:bh):VR->List Sl->Prop:=λri S2=>∃d ms kvs,r=.d d/\get S2 ri=some (kT ms)/\S2[i]?=some (od kvs)/\kvs.length<=1000000/\W.nx (S2.set i (od (PN kvs ms d)))
theorem CV {i:Nat} {vi:VT} (h:va S (pJ i vi W)):Ab i va vi W S:=by unfold pJ at h;exact h
theorem xK {i:Nat} {vi:VT} (e:S[i]?=some (od kvs)) (h:vi S (kP i r W)):pJ i vi W r S:=by unfold pJ;unfold kP at h;exact ⟨⟨kvs,e⟩,h⟩
theorem e9 {i:Nat} {ri:VR} (e1:get S ri=some (kT ms)) (e2:S[i]?=some (od kvs)) (hl:kvs.length<=1000000) (h:W.nx (S.set i (od (PN kvs ms d)))):kP i (.d d) W ri S:=by unfold kP;exact ⟨d,ms,kvs,rfl,e1,e2,hl,h⟩
theorem i8 {neg:Bool} {d1 d2:D} (e1:d1=kT ms) (e2:d2=dc kvs) (h:q (.bl (if neg then !decide (ms∈kvs.map (·.1)) else decide (ms∈kvs.map (·.1))))):Ga neg d1 d2 q:=⟨ms,kvs,e1,e2,h⟩
end
theorem kQ {α:Type} [DecidableEq α] {n:Nat} {f:α->D} (e:Enc n f) {x:α} {l:List α} (h:q (.bl (decide (x∈l)))) (hn:n+1<=40:=by decide):jz false (f x) (.tup (l.map f)) q:=⟨_,.inr rfl,e.okd (by lia) x,e.lst.okd hn l,by simpa only [e.any,Jq,if_false] using h⟩
theorem qS {ve:VT} {A:D->List Sl->Prop} {B:List Sl->Prop} (h:B S):eM ve A B false S:=dw (λe=>nomatch e) λ_=>h
section
variable {K:Ho} {X:Cx} {e:Expr} {te:TE} {va:VT} {pos pos':Pos} {x:Str}
theorem aC {i:Nat} (hN:X.N.Nodup) (hi:X.N[i]?=some x) (hx:Loc X.env.scope x) (h:VE K X false e te va) (hs:Ke e (some (.Name x pos')) pos.line X.env=pure false:=by rfl)
  (hf:X.fn x=true\/X.env.scope.names.lookup x=some .local:=by first | exact .inl rfl | exact .inr rfl | assumption):VS K X (.Assign [.Name x pos'] e pos) (dY te (bB i)) (nP va (Uk i)):=BV (λ_ h=>bN hN hi hx h hs hf) h
end
end VL
end
section
namespace L2
open PySem PySem.Spec PyProof.Rows PySem.W
structure Qs (P:Ip) (w:Ji) (outer:List Env) (H:Hp) (s:Hv) (x:Addr) (cls a0:Ht) (B:Heap) (H':Hp) (s':Hv):Prop where
 os:s'.os=s.os
 bare:L3 s'.gens
 fly:Heap.FlyingW B outer x cls a0 s'.heap
 frm:∀b∈QS outer,∀o,s.heap.get? b=some o->∃sl,s'.heap.get? b=some { o with slots:=sl }
 hok:QP P w H' B
 cov:∀b o,s.heap.get? b=some o->H b=none->b∉QS outer->B.get? b=some o
 same:∀b,H b≠none->H' b=H b
 free:∀b o,s.heap.get? b=some o->H b=none->H' b=none
 new:s.heap.get? x=none
def Va (P:Ip) (w:Ji):Sw:=λouter H s E e s'=>∃x cls a0 B H',e=.ref x/\Qs P w outer H s x cls a0 B H' s'/\E cls none H'
section
variable {P:Ip} {w:Ji} {outer:List Env} {H H':Hp} {s s':Hv} {x:Addr} {cls a0:Ht} {B:Heap}
theorem Qs.hok' (f:Qs P w outer H s x cls a0 B H' s'):QP P w H' s'.heap:=f.hok.kept f.fly.1
theorem Qs.un (f:Qs P w outer H s x cls a0 B H' s'):Un (QS outer) [] H H' s.heap s'.heap where
 keep:=λb o e n nb _=>f.fly.1 b o (f.cov b o e n nb)
 slot:=λb o e _ hb _=>f.frm b hb o e
 free:=λb o e n _=>f.free b o e n
 there:=λb o e _=>by
  cases n:H b with
  | none=>
   by_cases hb:b∈QS outer
   ·obtain ⟨sl,q⟩:=f.frm b hb o e
    exact ⟨_,q⟩
   ·exact ⟨o,f.fly.1 b o (f.cov b o e n hb)⟩
  | some u=>exact bA.there (f.hok' b u (by rw[f.same b (by rw[n];simp)];exact n))
 tups:=λb xs e=>by rw[f.same b (by rw[e];simp)];exact e
 frzs:=λb o u e=>by rw[f.same b (by rw[e];simp)];exact e
 tbls:=λb ps e=>⟨#[],by rw[f.same b (by rw[e];simp),e];simp⟩
theorem Qs.noX (f:Qs P w outer H s x cls a0 B H' s'):H' x=none:=by
 cases n:H' x with
 | none=>rfl
 | some u=>
  obtain ⟨o,e⟩:=bA.there (f.hok x u n)
  rw[f.fly.2.1] at e
  cases e
theorem uh {h:Heap} {as:List Addr} (k:QP P w H h) (hf:∀a∈as,H a=none):QP P w H (hideAll h as):=λb u e=>by
 have nb:∀c v,H c=some v->c∉as:=λc v q z=>by rw[hf c z] at q;cases q
 refine (k b u e).stay (λc v hc q=>hideAll_get _ q ?_) (λc q=>q) λc xs q=>q
 rcases hc with rfl | hc
 ·exact nb c u e
 ·exact nb c _ hc
end
structure fc (X:Cx) (Qw:Hp) (E:XK):Prop where
 first:∀pins σ H s h1 x cls args,Inv X pins σ H s->Heap.MadeExcOf s.heap h1 x cls args->(∀b,Qw b≠none->H b=Qw b)->E cls none H->∀tk,X.xe (.ref x) { s with heap:=h1,toks:=tk }
 next:∀pins σ H s e s',Inv X pins σ H s->Va X.prog X.w X.stack H s (λc _ H'=>(∀b,Qw b≠none->H' b=Qw b)/\E c none H') e s'->X.xe e s'
section
variable {P:Ip} {w:Ji} {K:Ho} {mg:Str->Option Ht} {base:Heap} {N:List Str} {qual:Str} {scope:JX} {f:Addr} {cd:Ht} {A:Js} {outer:List Env} {s:Hv} {H:Hp} {E:XK}
theorem qT:fc (hV (Va P w) P w K mg base N qual scope f cd A outer s H E) H E where
 first:=λpins σ Hc sr h1 x cls args I hx fr he tk=>by
  have nf:∀b∈QS outer,∀o,s.heap.get? b=some o->∀vs,o.data≠.fields vs:=λb hb o e=>by
   obtain ⟨_,o',e',n⟩:=I.ok.funs.mem hb
   have e':s.heap.get? b=some o':=e'
   rw[e] at e';cases e'
   exact n
  refine wpAny_leaves_madeW (base:=hideAll sr.heap (QS (envOfC qual scope s.heap.objs.size f cd::outer))) I.ok.frames rfl (λb o q=>of_hideAll _ q) (funFrames_hide I.stack λenv he a ha=>List.mem_filterMap.mpr ⟨env,he,ha⟩) hx λh' t fl _ _ up=>?_
  refine ⟨x,cls,.ref t,_,Hc,rfl,⟨I.os,I.bare,fl,λb hb o e=>?_,uh I.hok I.stkFree,λb o e n nb=>?_,fr,λb o e n=>?_,?_⟩,he⟩
  ·obtain ⟨sl,q⟩:=I.base.slot b o e (I.ok.frf b hb) hb (by intro z;cases z)
   obtain ⟨Vu,q'⟩:=up b _ (hx.keeps _ _ q) (nf b hb o e)
   exact ⟨Vu,q'⟩
  ·refine hideAll_get _ (I.base.keep b o e n nb (by intro z;cases z)) λz=>?_
   rcases List.mem_cons.mp (I.stkSub b z) with e' | z
   ·have lt:=HM e
    have ab:s.heap.objs.size<=b:=e'▸I.ok.above
    exact absurd lt (Nat.not_lt.mpr ab)
   ·exact nb z
  ·exact I.base.free b o e n (by intro z;cases z)
  ·cases q:s.heap.get? x with
   | none=>rfl
   | some o=>
    obtain ⟨o',e'⟩:=I.base.there x o q (by intro z;cases z)
    rw[hx.new] at e'
    cases e'
 next:=λpins σ Hc sr e s' I h=>by
  obtain ⟨x,cls,a0,B,H',rfl,F,fr,he⟩:=h
  have nf:∀b∈QS outer,∀o,s.heap.get? b=some o->∀vs,o.data≠.fields vs:=λb hb o e=>by
   obtain ⟨_,o',e',n⟩:=I.ok.funs.mem hb
   have e':s.heap.get? b=some o':=e'
   rw[e] at e';cases e'
   exact n
  refine wpAny_leaves_onW I.ok.frames rfl F.fly λh' fl up=>?_
  have sub:∀b∈QS outer,b∈QS (envOfC qual scope s.heap.objs.size f cd::outer):=λb hb=>by
   obtain ⟨env,h1,h2⟩:=List.mem_filterMap.mp hb
   exact List.mem_filterMap.mpr ⟨env,Ic _ h1,h2⟩
  refine ⟨x,cls,a0,B,H',rfl,⟨F.os.trans I.os,F.bare,fl,λb hb o e=>?_,F.hok,λb o e n nb=>?_,fr,λb o e n=>?_,?_⟩,he⟩
  ·obtain ⟨sl,q⟩:=I.base.slot b o e (I.ok.frf b hb) hb (by intro z;cases z)
   obtain ⟨sl1,q1⟩:=F.frm b (sub b hb) _ q
   obtain ⟨Wl,q2⟩:=up b _ q1 (nf b hb o e)
   exact ⟨Wl,q2⟩
  ·refine F.cov b o (I.base.keep b o e n nb (by intro z;cases z)) (I.base.free b o e n (by intro z;cases z)) λz=>?_
   rcases List.mem_cons.mp (I.stkSub b z) with e' | z
   ·have lt:=HM e
    have ab:s.heap.objs.size<=b:=e'▸I.ok.above
    exact absurd lt (Nat.not_lt.mpr ab)
   ·exact nb z
  ·obtain ⟨o',e'⟩:=I.base.there b o e (by intro z;cases z)
   exact F.free b o' e' (I.base.free b o e n (by intro z;cases z))
  ·cases q:s.heap.get? x with
   | none=>rfl
   | some o=>
    obtain ⟨o',e'⟩:=I.base.there x o q (by intro z;cases z)
    rw[F.new] at e'
    cases e'
end
theorem CW {K:Frag} {h:Heap} {mg:Str->Option Ht} {x:Str} {C:Addr} {Ts:List Ht} {newId:String} (X:K.In h) (hm:mg x=some (.ref C)) (q:excIn K C Ts newId=true):OwnCls x C Ts newId mg h:=by
 unfold excIn at q
 cases hl:K.lookup C with
 | none=>rw[hl] at q;cases q
 | some o=>
  rw[hl] at q
  split at q
  case h_2=>cases q
  case h_1 dd cd sl e=>
  cases e
  split at q
  case h_2=>cases q
  case h_1 C' bm k0 k1 k2 k3 n k5 hm' hs=>
  have hh:=X _ _ hl
  simp only[Ik,beq_iff_eq,Ow] at q
  obtain ⟨⟨⟨⟨⟨q1,q2⟩,q3⟩,q4⟩,q5⟩,q6⟩:=q
  cases cd
  cases q1;cases q2
  simp only at hm' q3 q5 q6
  cases hm';cases q3
  rw[show sl=#[k0,k1,k2,k3,some (.builtin _),k5] from Array.toList_inj.mp hs] at hh
  exact ⟨hm,_,_,_,_,_,_,_,_,_,_,_,_,_,_,_,_,_,hh,.of_isNs (isNs_of_in X q5),nsMap_none_of_in X q5 q6,tail_of_in X q4⟩
section
variable {X:Cx} {Qw:Hp} {E:XK} {C:Addr} {Ts:List Ht} {B newId RN:String} {x:Str} {z:Str} {j:Nat} {np p PP pos:Pos}
def ui (Qw:Hp) (E:XK) (C:Addr):TS:=λ_ _ H=>(∀b,Qw b≠none->H b=Qw b)/\E (.ref C) none H
theorem uj (T:fc X Qw E) (FB:ExcBaseFacts B newId RN Ts) (ec:excIn X.K C Ts newId=true) (hm:X.mg x=some (.ref C)) (hc:X.calm=true) (hg:Gl X x:=by rfl) (hd:(x==("__debug__":Str))=false:=by decide)
  (he:HN [.Constant (.str z) j p] X.env=[(false,eval (.Constant (.str z) j p) X.env)]:=by rfl) :
  PS X (.Raise (some (.Call (.Name x np) [.Constant (.str z) j p] [] PP)) none pos) (ui Qw E C):=by
 rintro pins s σ H D I ⟨fr,VV⟩
 have O:OwnCls x C Ts newId X.mg s.heap:=CW I.kIn hm ec
 obtain ⟨tl,N,nm,q,bs,hdct,sn,sub,ab,col,dd,k0,k1,k2,k3,k5,mN,hC,hN,hni,TL⟩:=O.obj
 refine wpAny_Raise_call_subT (mN:=mN) (nm:=nm) (q:=q) (C:=C) (N:=N) (bs:=bs) (bm:=tl) (hdct:=hdct) (sn:=sn) (sub:=sub) (ab:=ab) (col:=col) (dd:=dd) (k0:=k0) (k1:=k1) (k2:=k2) (k3:=k3) (k5:=k5) FB (TL.hasType FB.hasBase) (I.ok.hd hc) (by rw[he];rfl) hni (fT I hg hm ⟨rfl,?_⟩ hd)
 rw[he]
 refine K1 ?_
 refine N7 (Calls.Constant_str (k:=j) (pos:=p) (Om ⟨rfl,?_,hC,hN,TL,λh' e mk=>?_⟩))
 ·show 1<=Ii
  rw[IL];lia
 ·exact T.first pins σ H s h' e (.ref C) _ I mk fr VV _
end
section
open Builtin Builtin.ObjectAttr Builtin.Getset_descriptor
def il (K:Frag) (C:Addr):Bool:=(findIn K (.ref C) "__getattribute__"==some (some (.builtin "BaseException.__getattribute__")))&&(findIn K (.ref C) "__getattr__"==some none)&&(findIn K (.ref C) "__class__"==some (some (.builtin "object.__class__"))) &&
 (specialIn K (.builtin "object.__class__") "__get__"==some (some (.builtin "getset_descriptor.__get__")))&&(takesIn K (.builtin "object.__class__")==some true)&&(mroIn K C (.type "object")==some true)&&(mroIn K C (.type "BaseException")==some true)
section
variable {prog:Ip} {w:Ji} {A:Js} {E:Ht->Hv->Prop} {s:Hv} {K:Frag} {x C:Addr} {o:Obj}
theorem nY {Q:Option Ht->Hv->Prop} (X:K.In s.heap) (ho:s.heap.get? x=some o) (hc:o.cls=.ref C) (ok:il K C=true) (h:Q (some (.ref C)) { s with toks:=s.toks+1 }):IJ (IB prog w) A (getAttr? (.ref x) "__class__") Q E s:=by
 obtain ⟨hp,g,d,tk,os⟩:=s
 simp only[il,Ik,beq_iff_eq] at ok
 obtain ⟨⟨⟨⟨⟨⟨o1,o2⟩,o3⟩,o4⟩,o5⟩,o6⟩,o7⟩:=ok
 have T0:Looks (IB prog w) hp (typeOf (.ref x)) (.ref C):=hc▸(Looks.ld ho).andThen .now
 have T1:=OL (M:=IB prog w) X o1
 have T2:=OL (M:=IB prog w) X o2
 have T3:Looks (IB prog w) hp (find (.ref x) (.ref C) "__class__") (.bind (.builtin "getset_descriptor.__get__") (.builtin "object.__class__")):=
  (OL X o3).andThen ((show Looks (IB prog w) hp (getOf (some (.builtin "object.__class__"))) _ from looks_specialIn X o4).andThen
   ((show Looks (IB prog w) hp (dataDescriptor? (some (.builtin "object.__class__")) (some (.builtin "getset_descriptor.__get__"))) (some (.builtin "getset_descriptor.__get__",.builtin "object.__class__")) from (looks_takesIn X o5).andThen .now).andThen (Looks.tag .now)))
 have T6:=looks_mroIn (M:=IB prog w) X o6
 have T7:Looks (IB prog w) hp (isInstance (.ref x) (.type "BaseException")) true:=T0.andThen (looks_mroIn X o7)
 have gets:∀(A:Js) (tk:Nat),IJ (IB prog w) A (call (.builtin "getset_descriptor.__get__") [.builtin "object.__class__",.ref x,.ref C]) (λv s'=>v=.ref C/\s'=⟨hp,g,d,tk,os⟩) (λ_ _=>False) ⟨hp,g,d,tk,os⟩:=λA tk=>by
  refine Oo (NC KF.slot_gs.plain KF.entry_gs (KF.slot_gs.check _ _ _ _ _ _ _ _ KF.type_class (KF.args_gs _ _ _) ?_))
  simp only[Builtin.«getset_descriptor.__get__»,descrGet,dga_obj]
  refine Hq (Hw ?_)
  simp only[descrGetter,descrCheckInstance,descrNameAndClass,isInstance,KF.owner_class]
  repeat lk
  exact ⟨Code.quiet_builtin _ (by decide +kernel),Nf KF.entry_class (by simp only[Builtin.«object.__class__»,shownTypeOf];(repeat lk);exact ⟨rfl,rfl⟩)⟩
 have asks:∀(A:Js) (tk:Nat) (nt:Tok),IJ (IB prog w) A (call (.builtin "BaseException.__getattribute__") [.ref x,.str "__class__" nt]) (λv s'=>v=.ref C/\s'=⟨hp,g,d,tk,os⟩) (λ_ _=>False) ⟨hp,g,d,tk,os⟩:=λA tk nt=>by
  have kd:builtinKind "BaseException.__getattribute__"=some .slot:=by decide +kernel
  have sp:splitId "BaseException.__getattribute__"=some ("BaseException","__getattribute__"):=by decide +kernel
  refine Oo (NC (by decide +kernel) F.entry_bexc_ga ?_)
  simp only[checkBuiltinCall,kd,sp]
  refine Hq (T7.at ?_)
  have fits:(match Manifest.signature? "BaseException.__getattribute__" with
   | some sig=>Bind.checkArgs "BaseException.__getattribute__" sig { pos:=[IG x,OU "__class__" nt] }
   | _=>pure ())=pure ():=F.args_bexc_ga (.ref x) (.str "__class__" nt)
  simp only[Bool.not_true,Jq,if_false]
  refine (show _=_ from fits)▸Hw ?_
  refine Hq (Hw (Hq (Hw (Hq (T0.at (Hq (T3.at ?_)))))))
  exact Hq (Ih (gets _ tk) (λv s' PH=>by obtain ⟨a,b⟩:=PH;exact Hw ⟨a,b⟩) λ_ _ z=>z.elim)
 have no:(Value.builtin "BaseException.__getattribute__"==Value.builtin "object.__getattribute__")=false:=by decide +kernel
 simp only[getAttr?,getAttrBy?,getAttrBy]
 refine Hq (wpAny_mkText (Hq (KW (Jc (Hq (T0.at (Hq (T1.at ?_))))))))
 simp only[no,Bool.and_false,Jq,if_false,getAttrByItsOwn,hookBefore,onTheHeap,if_true]
 refine Hq (T2.at (Hq (KW (Jc ?_))))
 simp only[callGetattribute,K4,Jq,if_false,boundAndCalled,F.attr_ValueError.ga.bind]
 refine Hq (Hw (Ih (asks A (tk+1) tk) (λv s' Pk=>?_) λ_ _ z=>z.elim))
 obtain ⟨a,b⟩:=Pk
 subst a b
 exact handed_on rfl (Hw h)
def ExcAt (x C:Addr) (h:Heap):Prop:=∃o,h.get? x=some o/\o.cls=.ref C
theorem xM {cd:ClassData} (e:clsIn K C=some cd):∃o,K.lookup C=some o/\o.data=.cls cd:=by
 unfold clsIn at e
 split at e
 ·next c d cd' sl q=>cases e;exact ⟨_,q,rfl⟩
 ·cases e
theorem uk (hk:kitCls K (.ref C) (.ref C)=some true) (ok:il K C=true) (hc:(clsIn K C).isSome=true):KitX K (.ref x) (.ref C) (ExcAt x C) where
 ty:=λM h _ PH=>by obtain ⟨o,e,c⟩:=PH;exact c▸(Looks.ld e).andThen .now
 it:=λM h X _=>(kit_cls X hk).2.1
 ne:=λh tp dd its n sl X htp=>by
  obtain ⟨cd,hcd⟩:=Option.isSome_iff_exists.mp hc
  obtain ⟨o,e,d⟩:=xM hcd
  refine Bool.eq_false_iff.mpr λq=>?_
  cases beq_iff_eq.mp q
  have z:=X _ _ e
  rw[htp] at z
  cases z
  cases d
 ca:=λX PH k=>by obtain ⟨o,e,c⟩:=PH;exact nY X e c ok k
end
end
section
variable {X:Cx} {pins:List (Addr×Obj)} {σ:St} {H H':Hp} {s s':Hv} {x:Addr} {cls a0:Ht} {B:Heap}
theorem Qs.on {h':Heap} {tk:Nat} (I:Inv X pins σ H s) (f:Qs X.prog X.w X.stack H s x cls a0 B H' s') (fl:Heap.FlyingW B X.stack x cls a0 h') (up:s'.heap.UpToSlots h'):Qs X.prog X.w X.stack H s x cls a0 B H' { s' with heap:=h',toks:=tk } where
 os:=f.os
 bare:=f.bare
 fly:=fl
 frm:=λb hb o e=>by
  obtain ⟨sl,q⟩:=f.frm b hb o e
  obtain ⟨_,o',e',n⟩:=I.stack.mem hb
  rw[e] at e';cases e'
  obtain ⟨Vu,q'⟩:=up b _ q n
  exact ⟨Vu,q'⟩
 hok:=f.hok
 cov:=f.cov
 same:=f.same
 free:=f.free
 new:=f.new
theorem Inv.lands (I:Inv X pins σ H s) (f:Qs X.prog X.w X.stack H s x cls a0 B H' s'):Inv X pins σ H' s':=
 I.call' (ch:=[]) f.os f.un f.hok' f.bare λb z=>by cases z
abbrev Cx.caught (X:Cx) (x:Addr):Cx:={ X with A:=X.A.mark (some (.ref x)),calm:=false }
theorem Inv.caught (I:Inv X pins σ H s) (x:Addr):Inv (X.caught x) pins σ H s:=
 ⟨⟨I.ok.mod,I.ok.kind,I.ok.glob,I.ok.blt,I.ok.above,I.ok.inj,I.ok.has,I.ok.cab,λz=>Bool.noConfusion z,I.ok.frames,I.ok.stk,I.ok.exf,I.ok.bs,I.ok.bsz,I.ok.noex,I.ok.exfs,I.ok.funs,I.ok.frf⟩,I.os,I.bare,I.base,I.loc,I.cell,I.free,I.freeC,I.pin,I.hok,I.len⟩
theorem Inv.uncaught {x:Addr} (J:Inv (X.caught x) pins σ H s) (ok:X.Ok):Inv X pins σ H s:=⟨ok,J.os,J.bare,J.base,J.loc,J.cell,J.free,J.freeC,J.pin,J.hok,J.len⟩
theorem xN {M:O4} {A:Js} {E:Ht->Hv->Prop} {i:Nat} {n:Str} {Q:Unit->Hv->Prop} (I:Inv X pins σ H s) (hN:X.N.Nodup) (hi:X.N[i]?=some n) (hk:X.env.scope.names.lookup n=some .local) (hv:σ[i]?=some (some v))
  (h:∀s',Inv X pins (σ.set i none) H s'->Q () s'):IJ M A (unbindName X.env n) Q E s:=by
 obtain ⟨m,hn,hl⟩:=id I.loc
 obtain ⟨u,_,q⟩:=hl i n v hi hv (.inl hk)
 have hm:m n=some u:=by
  rcases q with ⟨_,e⟩ | ⟨z,_⟩
  ·exact e
  ·have TU:X.env.kindOf n=some .local:=hk
   rw[TU] at z
   rcases z with z | z <;> cases z
 have hcls:(X.env.scope.kind==.class||(X.env.scope.kind==.module&&X.env.locals != X.env.globals))=false:=by rw[I.ok.kind];rfl
 have Wh:i < σ.length:=by rw[I.len];exact (List.getElem?_eq_some_iff.mp hi).1
 refine wpAny_unbindName_local hk hn hm hcls λh' u' hn' hs=>?_
 have far:∀b o,X.s₀.heap.get? b=some o->b≠X.env.locals:=λb o e=>IE (HS (HM e) I.ok.above)
 refine h _ ⟨I.ok,I.os,I.bare,⟨λb o e n hb hx=>(hs.2 b (far b o e)).trans (I.base.keep b o e n hb hx),λb o e n hb hx=>?_,I.base.free,λb o e hx=>?_,I.base.tups,I.base.frzs,I.base.tbls⟩,⟨_,hn',λj y v' e1 e2 e3=>?_⟩,λy c e=>?_,I.free,I.freeC,λp hp=>?_,λb ob e=>?_,by simpa using I.len⟩
 ·obtain ⟨sl,q⟩:=I.base.slot b o e n hb hx
  exact ⟨sl,(hs.2 b (far b o e)).trans q⟩
 ·obtain ⟨o',q⟩:=I.base.there b o e hx
  exact ⟨o',(hs.2 b (far b o e)).trans q⟩
 ·have hj:j≠i:=λz=>by
   rw[z,Iw Wh] at e2
   cases e2
  rw[Ia (Ka hj)] at e2
  obtain ⟨w',r',q⟩:=hl j y v' e1 e2 e3
  refine ⟨w',r',?_⟩
  rcases q with ⟨k,e⟩ | ⟨k,c,e,z⟩
  ·have:y≠n:=λe=>hj (iC hN e1 (e▸hi))
   exact .inl ⟨k,by simp[this,e]⟩
  ·exact .inr ⟨k,c,e,z.sameBut hs (I.cne y c e)⟩
 ·obtain ⟨w',z⟩:=I.cell y c e
  exact ⟨w',z.sameBut hs (I.cne y c e)⟩
 ·obtain ⟨e,n,ne,nf,d⟩:=I.pin p hp
  exact ⟨(hs.2 p.1 ne).trans e,n,ne,nf,d⟩
 ·refine (I.hok b ob e).stay (λc w' hc q=>(hs.2 c ?_).trans q) (λ_ q=>q) λ_ _ q=>q
  rintro rfl
  rcases hc with rfl | hc
  ·rw[I.free] at e;cases e
  ·rw[I.free] at hc;cases hc
end
section
variable {X:Cx} {k i:Nat} {f CB:Addr} {fd:Kx} {ps:List Str} {sp:Sp} {e0:Expr} {es:List Expr} {ta:TA} {x cb en:Str} {b0:Stmt} {suite:List Stmt} {th:TS} {p pos pe np hp tp:Pos}
def Xk (D:Ends) (i:Nat):Ends:={ nx:=fun σ H=>D.nx (σ.set i none) H,rt:=D.rt,bk:=fun σ H=>D.bk (σ.set i none) H,ct:=fun σ H=>D.ct (σ.set i none) H }
def Gg (K:Frag) (CB:Addr) (sp:Sp) (ta:TA) (i:Nat) (th:TS):TS:=λD σ H=>ta σ H λvs H1=>sp vs H1 (λ_ _=>False) λc _ H'=>∃C,c=.ref C/\exmOne K (.ref C) (.ref CB)=some true /\
 ∀y o,H' y=none->o.cls=.ref C->th (Xk D i) (σ.set i (some (.ref y))) (upd H' y (.frz o (.own y)))
theorem CY (F:g9 X.prog X.w X.K X.mg X.base (Va X.prog X.w) k f fd ps sp) (hr:cy k X.A) (hm:X.mg x=some (.ref f)) (hk:KE X.K (.ref f)=true) (hb:Binds X.K fd ps []) (ha:PA X (e0::es) ta) (hcb:X.mg cb=some (.ref CB))
  (hs:∀y,Rt (X.caught y) (b0::suite) th) (RF:∀e s,¬X.xe e s) (Um:X.ex=[]) (hst:X.stack=X.env::X.outer) (hfr:X.env.frame=some X.env.locals) (hN:X.N.Nodup) (hi:X.N[i]?=some en) (hloc:X.env.scope.names.lookup en=some .local)
  (hg:Gl X x:=by rfl) (Xl:Gl X cb:=by rfl) (hd:(x==("__debug__":Str))=false:=by decide) (hdc:(cb==("__debug__":Str))=false:=by decide) (he:HN (e0::es) X.env=(false,eval e0 X.env)::HN es X.env:=by rfl) (hpl:(J9 pos (HN es X.env)).any (·.1)=false:=by rfl)
  (hsw:Ke (.Call (.Name x p) (e0::es) [] pos) none pe.line X.env=pure false:=by rfl) :
  PS X (.Try [.Expr (.Call (.Name x p) (e0::es) [] pos) pe] [.ExceptHandler (some (.Name cb np)) (some en) (b0::suite) hp] [] [] tp) (Gg X.K CB sp ta i th):=by
 intro pins s σ H D I h
 refine wpAny_Try_except (MS (wpAny_Expr_any ?_ I.quiet hsw))
 refine Lj (fT I hg hm ?_ hd)
 refine N8 (h₀:=X.base) I.ok.mod.kin hk (Ih (ha pos pins s σ H _ I h) (λus s1 ⟨vs,H1,I1,r,q⟩=>⟨I1.kIn,?_⟩) λe s z=>(RF e s z).elim) he hpl
 have hl:us.length=ps.length:=by rw[<- r.length];exact F.len _ _ _ _ q
 have WB:=hb s1 us I1.kIn (by rw[IV];exact hl)
 rw[IV] at WB
 refine Oo (Mi (F.run X.A X.stack s1 H1 ⟨us,[]⟩ us vs _ _ hr I1.env0 WB r q) λres s' hq=>?_)
 match res,hq with
 | .ok (.ret u),hq=>obtain ⟨_,_,_,_,_,_,_,z⟩:=hq;exact z.elim
 | .error e,hq=>
  obtain ⟨y,cls,a0,B,H',rfl,Fl,C,rfl,hex,fin⟩:=hq
  have fr:X.A.frames=some (X.env::X.outer):=hst▸I.ok.frames
  have fly0:=Fl.fly
  rw[hst] at fly0
  refine wpAny_looks_onW fr hfr fly0 λh4 held up4=>?_
  refine wpAny_landsW held λh5 Uo up5=>?_
  have F5:Qs X.prog X.w X.stack H1 s1 y (.ref C) a0 B H' { s' with heap:=h5,toks:=s'.toks }:=Fl.on I1 (by rw[hst];exact Uo) (up4.trans up5)
  have I5:=I1.lands F5
  obtain ⟨o5,ho5,hc5⟩:=Uo.there
  refine wpAny_handleBy_cons (codeAny_handlers_test (fT (I5.caught y) Xl hcb ?_ hdc)) (by intro q;cases q)
  refine exm_one (h:=h5) I5.kIn (hc5▸(Looks.ld ho5).andThen .now) hex _ _ _ _ (λ_ _ e=>e) ?_
  refine codeAny_handlers_suite_as ?_
  refine lands_againW Uo λh6 fly6 up6=>?_
  have F6:Qs X.prog X.w X.stack H1 s1 y (.ref C) a0 B H' { s' with heap:=h6,toks:=s'.toks }:=Fl.on I1 (by rw[hst];exact fly6) ((up4.trans up5).trans up6)
  have I6:=I1.lands F6
  obtain ⟨o6,ho6,hc6⟩:=fly6.there
  have here:∀b o,s1.heap.get? b=some o->b≠y:=λb o e z=>by rw[z,Fl.new] at e;cases e
  have I7:Inv (X.caught y) pins σ (upd H' y (.frz o6 (.own y))) { s' with heap:=h6,toks:=s'.toks }:=by
   refine (I6.caught y).trackN F6.noX ?_ ?_ ?_ ?_ ⟨ho6,o6,ho6⟩
   ·cases z:X.s₀.heap.get? y with
    | none=>rfl
    | some o=>
     obtain ⟨o',e'⟩:=I1.base.there y o z (by rw[Um];intro q;cases q)
     exact absurd rfl (here y o' e')
   ·obtain ⟨m,⟨o,es,ep,e,_⟩,_⟩:=I1.loc
    exact (here _ o e).symm
   ·intro n c e
    obtain ⟨v,o,e',_⟩:=I1.cell n c e
    exact here c o e'
   ·intro p hp
    exact here p.1 p.2 (I1.pin p hp).1
  refine dj (X:=X.caught y) I7 hN hi (.inl hloc) (show RelV (.ref y) (.ref y) from rfl) (λs8 I8=>?_) (.inr hloc)
  refine Ih (hs y pins s8 _ _ (Xk D i) I8 (fin y o6 F6.noX hc6)) (λfl s9 q9=>?_) λe s z=>(RF e s z).elim
  have Rq:∀{σ':St} {H9:Hp} {R:Unit->Hv->Prop},Inv (X.caught y) pins σ' H9 s9->(∀s',Inv X pins (σ'.set i none) H9 s'->R () s')->IJ (IB X.prog X.w) X.A (do OS X.env en .none;unbindBehindTheSuite X.env en hp) R X.xe s9:=λ{σ' H9 R} J g=>by
   have J0:=J.uncaught I.ok
   refine Hq (NI (dj J0 hN hi (.inl hloc) (show RelV .non .none from rfl) (λQu Ry=>?_) (.inr hloc)))
   refine wpAny_onRaise (xN Ry hN hi hloc (Iw (by rw[J0.len];exact (List.getElem?_eq_some_iff.mp hi).1)) λQ4 RY=>?_)
   rw[List.set_set] at RY
   exact g Q4 RY
  cases fl with
  | next=>obtain ⟨σ',H9,J,q⟩:=q9;exact Rq J λs' I'=>⟨_,_,I',q⟩
  | brk=>obtain ⟨σ',H9,J,q⟩:=q9;exact Rq J λs' I'=>⟨_,_,I',q⟩
  | cont=>obtain ⟨σ',H9,J,q⟩:=q9;exact Rq J λs' I'=>⟨_,_,I',q⟩
  | ret u=>obtain ⟨v,σ',H9,J,r,q⟩:=q9;exact Rq J λs' I'=>⟨v,_,_,I',r,q⟩
end
def dN (K:Frag) (C:Addr):Bool:=(kitCls K (.ref C) (.ref C)==some true)&&il K C&&(clsIn K C).isSome
theorem dN.kit {K:Frag} {x C:Addr} (h:dN K C=true):KitX K (.ref x) (.ref C) (ExcAt x C):=by
 simp only[dN,Ik,beq_iff_eq] at h
 exact uk h.1.1 h.1.2 h.2
def qU:Ht->V
 | .ref C=>.ref C
 | .type T=>.ty T
 | _=>.non
def Vb:Ht->Bool
 | .ref _=>true
 | .type _=>true
 | _=>false
theorem mH {c u:Ht} (h:Vb c=true) (r:RelV (qU c) u):u=c:=by
 match c,h,r with
 | .ref _,_,r=>exact r
 | .type _,_,r=>exact r
theorem jV:∀{cs us:List Ht},cs.all Vb=true->Pm (cs.map qU) us->us=cs
 | [],_,_,.nil=>rfl
 | c::cs,_,h,.cons r t=>by
  simp only[List.all_cons,Ik] at h
  rw[mH h.1 r,jV h.2 t]
def um (K:Ho):List V->Hp->VK->Prop:=λxs H Q=>∃y o C c b,xs=[.ref y,c]/\H y=some (.frz o (.own y))/\o.cls=.ref C/\dN K C=true /\
 ((∃cv,c=qU cv/\Vb cv=true/\kitOne K (.ref C) cv=some b)\/(∃t cs,c=.ref t/\Qq K H t (cs.map qU)/\cs.all Vb=true/\kitAny K (.ref C) cs=some b))/\Q (.bl b) H
theorem jW {X:Cx}:cS X (.builtin "isinstance") (um X.K):=by
 rintro pins s σ H xs us Q I r ⟨y,o,C,c,b,e,hy,hc,ok,h,q⟩
 subst e
 obtain ⟨u,w',rfl,rx,rc⟩:=vals2 r
 cases rx
 have at_:ExcAt y C s.heap:=⟨o,(show bA X.prog X.w H s.heap y (.frz o (.own y)) from I.hok y _ hy).1,hc⟩
 have fin:∀tk,EP X pins σ Q (.bool b) { s with toks:=tk }:=λtk=>⟨.bl b,H,I.tok tk,rfl,q⟩
 rcases h with ⟨cv,rfl,hi,e⟩ | ⟨t,cs,rfl,hq,hi,e⟩
 ·rw[mH hi rc]
  exact Je (dN.kit ok) I.kIn at_ e (λz=>nomatch z) fin
 ·cases rc
  obtain ⟨its,r2,tp,_⟩:=I.tuple hq
  cases jV hi r2
  obtain ⟨o2,h1,h2,n,h3⟩:=tp
  obtain ⟨oc,od,odt,Rx⟩:=o2
  simp only at h2 h3
  subst h2;subst h3
  exact PySem.W.kia_tup (dN.kit ok) I.kIn at_ h1 e (λz=>nomatch z) fin
def i9:List Addr->TA
 | []=>jw
 | c::r=>eQ (tC (.ref c)) (i9 r)
theorem mI:∀{cs:List Addr} {Q:List V->Hp->Prop},Q (cs.map V.ref) H->i9 cs σ H Q
 | [],_,h=>h
 | _::cs,_,h=>mI (cs:=cs) h
theorem uo {X:Cx}:PA X [] (i9 []):=eE
theorem dh {X:Cx} {n:Str} {p:Pos} {c:Addr} {es:List Expr} {cs:List Addr} (hm:X.mg n=some (.ref c)) (hr:PA X es (i9 cs)) (hg:Gl X n:=by rfl) (hd:(n==("__debug__":Str))=false:=by decide)
  (hs:HN (.Name n p::es) X.env=(false,eval (.Name n p) X.env)::HN es X.env:=by rfl):PA X (.Name n p::es) (i9 (c::cs)):=bZ (eu hg hm rfl hd) hr hs
end L2
namespace VL
open PySem L2 PySem.W
section
variable {K:Ho} {X:Cx} {m:Bool} {i:Nat} {en cn:Str} {p1 p2 p3 p4 pos:Pos} {es:List Expr} {cs:List Addr} {c:Ht}
theorem Gh {H0 H:Hp} {C:Addr} (k:OK K H0 Z σ H S) (h:S[i]?=some (.val (.exc (.ref C)))):∃y o,σ[i]?=some (some (.ref y))/\H y=some (.frz o (.own y))/\o.cls=.ref C:=by
 obtain ⟨o,e,v,rfl,r⟩:=k.ownAt h
 cases r with | exc n hh hc=>exact ⟨_,_,e,hh,hc⟩
def Ac (K:Frag) (i:Nat) (c:Ht):VT:=λS Q=>∃C b,S[i]?=some (.val (.exc (.ref C)))/\dN K C=true/\kitOne K (.ref C) c=some b/\Q (.d (.bl b)) S
theorem ip (hK:X.K=K) (hc:Vb c=true) (hcn:PE X (.Name cn p3) (tC (qU c))) (hi:X.N[i]?=some en) (hv:UZ X.env.scope en) (hg:Gl X "isinstance") (hm:X.mg "isinstance"=none) (hd:(en==("__debug__":Str))=false:=by decide) (hcd:(en==("__classdict__":Str))=false:=by decide)
  (he:HN [.Name en p2,.Name cn p3] X.env=[(false,eval (.Name en p2) X.env),(false,eval (.Name cn p3) X.env)]:=by rfl) :
  VE K X m (.Call (.Name "isinstance" p1) [.Name en p2,.Name cn p3] [] pos) (Sm (um K) (eQ (cF i) (eQ (tC (qU c)) jw))) (Ac K i c):=
 ⟨by subst hK;exact eY jW hg hm bG (bZ (nq hi hv hd hcd) (bZ hcn eE)),λH0 Z σ H S Q C k t SJ=>by
  obtain ⟨C0,b,h1,h2,h3,q⟩:=t
  obtain ⟨y,o,e1,e2,e3⟩:=Gh k h1
  exact ⟨_,e1,y,o,C0,_,b,rfl,e2,e3,h2,.inl ⟨c,rfl,hc,h3⟩,SJ _ _ (.d (.bl b)) S k .refl (Rep.bl b) q⟩⟩
def Ad (K:Frag) (i:Nat) (cs:List Addr):VT:=λS Q=>∃C b,S[i]?=some (.val (.exc (.ref C)))/\dN K C=true/\kitAny K (.ref C) (cs.map IG)=some b/\Q (.d (.bl b)) S
theorem xO {x1} (hK:X.K=K) (hcs:PA X es (i9 cs)) (hz:cs.length<100) (hi:X.N[i]?=some en) (hv:UZ X.env.scope en) (hg:Gl X "isinstance") (hm:X.mg "isinstance"=none) (hd:(en==("__debug__":Str))=false:=by decide) (hcd:(en==("__classdict__":Str))=false:=by decide)
  (he:HN [.Name en p2,.Tuple es x1 p3] X.env=[(false,eval (.Name en p2) X.env),(false,eval (.Tuple es x1 p3) X.env)]:=by rfl) :
  VE K X m (.Call (.Name "isinstance" p1) [.Name en p2,.Tuple es x1 p3] [] pos) (Sm (um K) (eQ (cF i) (eQ (Bu (i9 cs)) jw))) (Ad K i cs):=
 ⟨by subst hK;exact eY jW hg hm bG (bZ (nq hi hv hd hcd) (bZ (sJ hcs) eE)),λH0 Z σ H S Q C k t SJ=>by
  obtain ⟨C0,b,h1,h2,h3,q⟩:=t
  obtain ⟨y,o,e1,e2,e3⟩:=Gh k h1
  refine ⟨_,e1,mI ⟨by rw[Hz,IL];lia,λp hp=>?_⟩⟩
  have g:=aG (o:=.tup (cs.map V.ref)) hp
  refine ⟨y,o,C0,_,b,rfl,by rw[g y (by rw[e2];simp)];exact e2,e3,h2,.inr ⟨p,cs.map IG,rfl,.inl (.inl ?_),by simp[Vb],h3⟩,SJ _ _ (.d (.bl b)) S (k.grow g) (.grow g) (Rep.bl b) q⟩
  rw[aw,Iq]
  rfl⟩
end
end VL
namespace VL
open PySem L2 PySem.W
def Xm (K:Ho) (bad:List D->Addr->Prop):Sp:=λvs H _ E=>∃ds C,Pi K Any Pz H vs ds/\bad ds C/\∀H',(∀a,H a≠none->H' a=H a)->E (.ref C) none H'
def ja (P:Ip) (w:Ji) (K:Ho) (mg:Str->Option Ht) (base:Heap) (k:Nat) (x:Str) (ps:List Str) (bad:List D->Addr->Prop):Prop:=
 ∃(f:Addr) (fd:Kx),g9 P w K mg base (Va P w) k f fd ps (Xm K bad)/\mg x=some (.ref f)/\KE K (.ref f)=true/\Binds K fd ps []
def Fz (Qw:Hp) (Z:AP) (σ:St) (S:List Sl) (H:Hp):Prop:=∀a,Qw a≠none->H a=Qw a/\NM Z σ S a
theorem Fz.step {Qw H H':Hp} {σ σ':St} {S S':List Sl} (f:Fz Qw Z σ S H) (st:Step Z σ S H σ' S' H'):Fz Qw Z σ' S' H':=λa e=>by
 obtain ⟨e1,n⟩:=f a e
 obtain ⟨e2,n2⟩:=st.1 a n (by rw[e1];exact e)
 exact ⟨e2.trans e1,n2⟩
structure Sr (K:Ho) (X:Cx) (Qw:Hp) (E:XK) (SX:List Stmt) (ts:TS) (t:(Addr->Prop)->List Sl->Prop):Prop where
 ps:Rt X SX ts
 snd:∀Wc:Addr->Prop,(∀C,Wc C->∀H',(∀a,Qw a≠none->H' a=Qw a)->E (.ref C) none H')->∀H0 Z σ H S D,OK K H0 Z σ H S->Fz Qw Z σ S H->t Wc S->ts D σ H
section
variable {K:Ho} {X:Cx} {Qw:Hp} {E:XK} {SX rest A:List Stmt} {st:Stmt} {ts us:TS} {t u:(Addr->Prop)->List Sl->Prop} {v:P5} {pos:Pos}
theorem jb:Sr K X Qw E SX iD (λ_ _=>False):=⟨jB,λ_ _ _ _ _ _ _ _ _ _ h=>h.elim⟩
theorem gi {C:Addr} {Ts:List Ht} {B newId RN:String} {x z:Str} {j:Nat} {np p PP pos:Pos} (T:fc X Qw E) (FB:ExcBaseFacts B newId RN Ts) (ec:excIn X.K C Ts newId=true) (hm:X.mg x=some (.ref C)) (hc:X.calm=true) (hg:Gl X x:=by rfl) (hd:(x==("__debug__":Str))=false:=by decide)
  (he:HN [.Constant (.str z) j p] X.env=[(false,eval (.Constant (.str z) j p) X.env)]:=by rfl) :
  Sr K X Qw E [.Raise (some (.Call (.Name x np) [.Constant (.str z) j p] [] PP)) none pos] (ui Qw E C) (λWc _=>Wc C):=
 ⟨oH (uj T FB ec hm hc hg hd he),λWc hE H0 Z σ H S D k f h=>⟨λb e=>(f b e).1,hE C h H λb e=>(f b e).1⟩⟩
theorem nZ (h1:VS K X st ts v) (h2:Sr K X Qw E rest us u):Sr K X Qw E (st::rest) (rW ts us) (λWc S=>v { nx:=u Wc,rt:=λ_ _=>False } S):=
 ⟨fU h1.ps h2.ps,λWc hE H0 Z σ H S D k f h=>h1.snd H0 Z σ H S _ _ k h ⟨fun σ' H' S' k' st q=>h2.snd Wc hE H0 Z σ' H' S' D k' (f.step st) q,λ_ _ _ _ _ q=>q.elim,λ_ _ _ _ _ q=>q.elim,λ_ _ _ _ _ _ _ _ q=>q.elim⟩⟩
theorem pK {c:Expr} {tc:TT} {wc:Qo} (hc:R9 K X c tc wc) (ha:Sr K X Qw E A ts t) (hr:Sr K X Qw E rest us u):Sr K X Qw E (.If c A [] pos::rest) (rW (Be tc ts rV) us) (λWc S=>wc S λb S1=>if b=true then t Wc S1 else u Wc S1):=
 ⟨fU (zp hc.pe ha.ps oG) hr.ps,λWc hE H0 Z σ H S D k f h=>hc.snd H0 Z σ H S _ _ k h λb H1 S1 k1 Pq q=>by
  cases b with
  | true=>rw[if_pos rfl] at q ⊢;exact ha.snd Wc hE H0 Z σ H1 S1 _ k1 (f.step Pq) q
  | false=>rw[if_neg Hy] at q ⊢;exact hr.snd Wc hE H0 Z σ H1 S1 D k1 (f.step Pq) q⟩
theorem kR {k j:Nat} {x:Str} {ps:List Str} {bad:List D->Addr->Prop} {e:Expr} {es:List Expr} {tr:TA} {vr:Qv} {p0 PP:Pos} (T:fc X Qw E) (F:ja X.prog X.w X.K X.mg X.base k x ps bad) (hK:X.K=K) (hr:cy j X.A) (ha:VA K X false (e::es) tr vr)
  (hk:k<=j:=by decide) (hg:Gl X x:=by rfl) (Rm:(x==("__debug__":Str))=false:=by decide) (he:HN (e::es) X.env=(false,eval e X.env)::HN es X.env:=by rfl)
  (hpl:(J9 PP (HN es X.env)).any (·.1)=false:=by rfl) (hs:Ke (.Call (.Name x p0) (e::es) [] PP) none pos.line X.env=pure false:=by rfl) :
  Sr K X Qw E (.Expr (.Call (.Name x p0) (e::es) [] PP) pos::rest) (rW (rX (iH (Xm K bad) [] (λc _ H'=>(∀b,Qw b≠none->H' b=Qw b)/\E c none H') tr)) iD) (λWc S=>vr S λrs S1=>∃ds C,gets S1 rs=some ds/\bad ds C/\Wc C):=by
 subst hK
 obtain ⟨f,fd,F,hm,kp,hb⟩:=F
 refine ⟨fU (oI (oQ F (hr.mono hk) hg hm kp hb .nil (λpins σ H s e s' I h=>T.next pins σ H s e s' I h) ha.pe Rm he hpl) hs) jB,λWc hE H0 Z σ H S D k f h=>?_⟩
 refine ha.snd H0 Z σ H S _ _ k h λvs H1 rs S1 k1 Pq Qp Pk=>?_
 obtain ⟨ds,C,e,hb,hw⟩:=Pk
 have f1:=f.step Pq
 refine ⟨ds,C,by rw[IV];exact Qp.gets k1 e,hb,λH' g=>?_⟩
 have fr:∀b,Qw b≠none->H' b=Qw b:=λb e=>by
  have q:=(f1 b e).1
  rw[<- q]
  exact g b (by rw[q];exact e)
 exact ⟨fr,hE C hw H' fr⟩
theorem pL {P:Ip} {w:Ji} {mg:Str->Option Ht} {base:Heap} {x:Str} {st:Stmt} {N ps:List Str} {k:Nat} {bad:List D->Addr->Prop} (S:Src K mg x st) (sc:aD N ps (aj st))
  (hb:∀(kV doc pm:Ht) (an:Option Addr) (PC ct:Ht) (us:List Ht),us.length=ps.length->Nu (JP x x (cO st) (bJ st) (aj st) .none kV doc pm an PC ct) ⟨us,[]⟩=pure (ps.zip us))
  (len:∀ds C,bad ds C->ds.length=ps.length)
  (hbody:∀(f:Addr) (PC:Ht) (A:Js) (outer:List Env) (s:Hv) (H:Hp) (E:XK),cy k (A.deeper (L7 x (aj st) s.heap.objs.size f PC))->fc (hV (Va P w) P w K mg base N x (aj st) f PC A outer s H E) H E ->
   ∃ts t,Sr K (hV (Va P w) P w K mg base N x (aj st) f PC A outer s H E) H E (bJ st) ts t/\∀ds C,bad ds C->t (·=C) (slots N.length ds)):ja P w K mg base (k+1) x ps bad:=by
 obtain ⟨f,fd,F,hm⟩:=S
 obtain ⟨oc,od,kV,doc,pm,an,PC,ct,Rx,rfl,lk,hcd⟩:=F.ex
 refine ⟨f,_,zA lk hcd sc (λvs H Q E Px=>by obtain ⟨ds,C,r,h,_⟩:=Px;rw[r.length];exact len ds C h) λA outer s H vs Q E hr ⟨ds,C,r,h,fin⟩=>?_,hm,F.kp,F.binds hb⟩
 obtain ⟨ts,t,vx,q⟩:=hbody f PC A outer s H E hr qT
 refine ⟨ts,vx.ps,vx.snd (·=C) (λC' e H' g=>by subst e;exact fin H' g) H _ _ H _ _ (mw (N:=N) r) (λa e=>⟨rfl,?_⟩) (q ds C h)⟩
 rintro (⟨j,s,g1,g2,_⟩ | z)
 ·rw[cU g1] at g2;cases g2
 ·exact z
end
end VL
namespace VL
open PySem L2 PySem.W
section
variable {K:Ho} {H H0:Hp} {Z:AP} {σ:St} {S:List Sl} {i:Nat}
theorem OK.letGo (k:OK K H0 Z σ H S) (hi:i<S.length):OK K H0 Z (σ.set i none) H (S.set i .no)/\Step Z σ S H (σ.set i none) (S.set i .no) H:=by
 have n:∀a,NM Z σ S a->NM Z (σ.set i none) (S.set i .no) a:=λa x z=>by
  rcases iT z with z | ⟨z,_⟩
  ·exact x z
  ·cases z
 exact ⟨k.put hi (λa x _=>⟨n a x,rfl⟩) (λ_ _ _ _ _ _ _=>rfl) trivial (λ_ _ _ _ _ _ z=>nomatch z) (λ_ e=>e) k.zl (λ_ z=>nomatch z),λa x _=>⟨rfl,n a x⟩,λ_ e=>e,λ_ _ _=>rfl⟩
theorem NP.letGo {a:Addr} (h:NP σ S a):NP (σ.set i none) (S.set i .no) a:=λj ad ns g1 g2=>by
 by_cases hj:i=j
 ·subst hj
  by_cases hl:i<S.length
  ·rw[Iw hl] at g1;cases g1
  ·rw[Ki (by simpa using hl)] at g1;cases g1
 ·rw[Ia hj] at g1 g2
  exact h j ad ns g1 g2
def unV (V:bh) (i:Nat):bh:={ nx:=λS=>i<S.length/\V.nx (S.set i .no),rt:=λd S=>i<S.length/\V.rt d (S.set i .no),bk:=λS=>i<S.length/\V.bk (S.set i .no),ct:=λS=>i<S.length/\V.ct (S.set i .no) }
theorem Lf.letGo {V:bh} {E:Ends} (l:Lf K H0 Z σ S H V E):Lf K H0 Z σ S H (unV V i) (Xk E i) where
 nx:=fun σ' H' S' k st PH=>by obtain ⟨hi,q⟩:=PH;exact l.nx _ _ _ (k.letGo hi).1 (st.trans (k.letGo hi).2) q
 bk:=fun σ' H' S' k st PH=>by obtain ⟨hi,q⟩:=PH;exact l.bk _ _ _ (k.letGo hi).1 (st.trans (k.letGo hi).2) q
 ct:=fun σ' H' S' k st PH=>by obtain ⟨hi,q⟩:=PH;exact l.ct _ _ _ (k.letGo hi).1 (st.trans (k.letGo hi).2) q
 rt:=λv d σ' H' S' k st r PH=>by obtain ⟨hi,q⟩:=PH;exact l.rt v d _ _ _ (k.letGo hi).1 (st.trans (k.letGo hi).2) (r.mono (λa n _=>⟨NP.letGo n,rfl⟩) λ_ x=>x) q
end
section
variable {K:Ho} {X:Cx} {k j i:Nat} {CB:Addr} {ps:List Str} {bad:List D->Addr->Prop} {e0:Expr} {es:List Expr} {tr:TA} {vr:Qv} {x cb en:Str} {b0:Stmt} {suite:List Stmt} {th:TS} {vh:P5} {p pos pe np hp tp:Pos}
def Gi (K:Frag) (CB:Addr) (bad:List D->Addr->Prop) (vr:Qv) (i:Nat) (vh:P5):P5:=λV S=>vr S λrs S1=>i<S1.length/\∃ds C,gets S1 rs=some ds/\bad ds C/\exmOne K (.ref C) (.ref CB)=some true/\vh (unV V i) (S1.set i (.val (.exc (.ref C))))
theorem CZ (F:ja X.prog X.w X.K X.mg X.base k x ps bad) (hK:X.K=K) (hr:cy j X.A) (ha:VA K X false (e0::es) tr vr) (hcb:X.mg cb=some (.ref CB)) (hs:∀y,SE K (X.caught y) (b0::suite) th vh) (RF:∀e s,¬X.xe e s) (Um:X.ex=[])
  (hst:X.stack=X.env::X.outer) (hfr:X.env.frame=some X.env.locals) (hN:X.N.Nodup) (hi:X.N[i]?=some en) (hloc:X.env.scope.names.lookup en=some .local) (hk:k<=j:=by decide)
  (hg:Gl X x:=by rfl) (Xl:Gl X cb:=by rfl) (hd:(x==("__debug__":Str))=false:=by decide) (hdc:(cb==("__debug__":Str))=false:=by decide) (he:HN (e0::es) X.env=(false,eval e0 X.env)::HN es X.env:=by rfl) (hpl:(J9 pos (HN es X.env)).any (·.1)=false:=by rfl)
  (hsw:Ke (.Call (.Name x p) (e0::es) [] pos) none pe.line X.env=pure false:=by rfl) :
  VS K X (.Try [.Expr (.Call (.Name x p) (e0::es) [] pos) pe] [.ExceptHandler (some (.Name cb np)) (some en) (b0::suite) hp] [] [] tp) (Gg K CB (Xm K bad) tr i th) (Gi K CB bad vr i vh):=by
 subst hK
 obtain ⟨f,fd,F,hm,kp,hb⟩:=F
 refine ⟨CY F (hr.mono hk) hm kp hb ha.pe hcb (λy=>(hs y).ps) RF Um hst hfr hN hi hloc hg Xl hd hdc he hpl hsw,λH0 Z σ H S V D k t l=>?_⟩
 refine ha.snd H0 Z σ H S _ _ k t λvs H1 rs S1 k1 Pq Qp ⟨hl,ds,C,e,WB,hex,q⟩=>⟨ds,C,Qp.gets k1 e,WB,λH' g=>⟨C,rfl,hex,λy o hy hc=>?_⟩⟩
 have g2:=aG (o:=.frz o (.own y)) hy
 have k2:=(k1.grow g).grow g2
 have Pj:Step Z σ S H σ S1 (upd H' y (.frz o (.own y))):=(Pq.trans (.grow g)).trans (.grow g2)
 obtain ⟨k3,Qi⟩:=k2.setVal hl (Rep.exc (c:=.ref C) ((k1.grow g).nm hy) aw hc)
 exact (hs 0).snd H0 Z _ _ _ _ _ k3 q ((l.step (Pj.trans Qi)).letGo)
end
end VL
end
section
namespace VL
open PySem L2 PySem.W
section
variable {K:Ho} {X:Cx} {m:Bool} {e c:Expr} {te:TE} {va:VT} {pos:Pos} {i:Nat} {tc:TT} {wc:Qo} {t:TS} {v:P5} {body:List Stmt}
def C1 (wc:Qo) (vb:P5):P5:=λV S=>∃Iv:Nat->List Sl->Prop,(∃n,Iv n S)/\∀n S,Iv n S->wc S λb S1=>if b=true then vb { nx:=λS2=>∃n',n'<n/\Iv n' S2,ct:=λS2=>∃n',n'<n/\Iv n' S2,bk:=V.nx,rt:=V.rt } S1 else V.nx S1
theorem uq (hp:OW (IB X.prog X.w) X.A X.env X.xe) (hc:R9 K X c tc wc) (hb:SE K X body t v):VS K X (.While c body [] pos) (sC tc t) (C1 wc v):=
 ⟨sE hp hc.pe hb.ps,λH0 Z σ H S V E k Px l=>by
  obtain ⟨Iv,⟨n0,i0⟩,h⟩:=Px
  refine ⟨λn σ' H'=>∃S',OK K H0 Z σ' H' S'/\Step Z σ S H σ' S' H'/\Iv n S',⟨n0,S,k,.refl,i0⟩,?_⟩
  rintro n σ1 H1 ⟨S1,k1,Pq,i1⟩
  refine hc.snd H0 Z σ1 H1 S1 _ _ k1 (h n S1 i1) λb H2 S2 k2 Pj q=>?_
  cases b with
  | false=>rw[if_neg Hy] at q ⊢;exact l.nx _ _ _ k2 (Pq.trans Pj) q
  | true=>
   rw[if_pos rfl] at q ⊢
   refine ⟨fun σ' H'=>∃n',n'<n/\∃S',OK K H0 Z σ' H' S'/\Step Z σ S H σ' S' H'/\Iv n' S',fun σ' H' PH=>by obtain ⟨n',hn,z⟩:=PH;exact ⟨n',hn,z⟩,?_⟩
   have st:=Pq.trans Pj
   exact hb.snd H0 Z σ1 H2 S2 _ _ k2 q ⟨fun σ' H' S' k' s' PH=>by obtain ⟨n',hn,q'⟩:=PH;exact ⟨n',hn,S',k',st.trans s',q'⟩,fun σ' H' S' k' s' q'=>l.nx _ _ _ k' (st.trans s') q',fun σ' H' S' k' s' PH=>by obtain ⟨n',hn,q'⟩:=PH;exact ⟨n',hn,S',k',st.trans s',q'⟩,λv d σ' H' S' k' s' r q'=>l.rt v d _ _ _ k' (st.trans s') r q'⟩⟩
end
end VL
namespace VL
open PySem L2 PySem.W
section
variable {i:Nat} {va:VT} {vr:Qv} {S:List Sl} {Q:VR->List Sl->Prop} {q:D->Prop}
theorem kS {K:Frag} {c:Ht} {C:Addr} {b:Bool} (e:S[i]?=some (.val (.exc (.ref C)))) (ok:dN K C=true) (hk:kitOne K (.ref C) c=some b) (h:Q (.d (.bl b)) S):Ac K i c S Q:=⟨C,b,e,ok,hk,h⟩
theorem C2 {K:Frag} {cs:List Addr} {C:Addr} {b:Bool} (e:S[i]?=some (.val (.exc (.ref C)))) (ok:dN K C=true) (hk:kitAny K (.ref C) (cs.map IG)=some b) (h:Q (.d (.bl b)) S):Ad K i cs S Q:=⟨C,b,e,ok,hk,h⟩
end
end VL
namespace VL
open PySem L2 PySem.W
section
variable {K:Ho} {X:Cx} {m:Bool} {e:Expr} {te:TE} {va:VT} {pos pos':Pos} {i:Nat} {x:Str}
theorem OK.setFre {H H0:Hp} (k:OK K H0 Z σ H S) (hi:i<S.length) (h:Rep K (NM Z σ S) (Fr H0) H v d):OK K H0 Z (σ.set i (some v)) H (S.set i (.fre d))/\Step Z σ S H (σ.set i (some v)) (S.set i (.fre d)) H:=by
 have n:∀a,NM Z σ S a->NM Z (σ.set i (some v)) (S.set i (.fre d)) a:=λa x z=>by
  rcases iT z with z | ⟨z,_⟩
  ·exact x z
  ·cases z
 exact ⟨k.put hi (λa x _=>⟨n a x,rfl⟩) (λ_ _ _ _ _ _ _=>rfl) ⟨v,rfl,h.mono (λa x _=>⟨n a x,rfl⟩) λ_ x=>x⟩ (λ_ _ _ _ _ _ z=>nomatch z) (λ_ e=>e) k.zl (λ_ z=>nomatch z),λa x _=>⟨rfl,n a x⟩,λ_ e=>e,λ_ _ _=>rfl⟩
@[irreducible] def mJ (i:Nat) (V:bh):VR->List Sl->Prop:=λr S1=>∃d,r=.d d/\i<S1.length/\V.nx (S1.set i (.fre d))
def Ae (i:Nat) (va:VT):P5:=λV S=>va S (mJ i V)
theorem C3 {V:bh} (h:va S (mJ i V)):Ae i va V S:=h
theorem kU {V:bh} (hi:i<S.length) (h:V.nx (S.set i (.fre d))):mJ i V (.d d) S:=by unfold mJ;exact ⟨d,rfl,hi,h⟩
theorem kW (hN:X.N.Nodup) (hi:X.N[i]?=some x) (hx:Loc X.env.scope x) (h:VE K X true e te va) (hs:Ke e (some (.Name x pos')) pos.line X.env=pure false:=by rfl)
  (hf:X.fn x=true\/X.env.scope.names.lookup x=some .local:=by first | exact .inl rfl | exact .inr rfl | assumption):VS K X (.Assign [.Name x pos'] e pos) (dY te (bB i)) (Ae i va):=
 ⟨bN hN hi hx h.pe hs hf,λH0 Z σ H S V E k t l=>h.snd H0 Z σ H S _ _ k t λv H' r S' k' st rr q=>by
  unfold mJ at q
  obtain ⟨d,e,hi,q⟩:=q
  subst e
  have r:Rep K (NM Z σ S') (Fr H0) H' v d:=(show Rep K (NM Z σ S') (FM H0 true) H' v d from rr).mono (λ_ n _=>⟨n,rfl⟩) λ_ x=>x rfl
  exact l.nx _ _ _ (k'.setFre hi r).1 (st.trans (k'.setFre hi r).2) q⟩
def Af (i:Nat):VT:=λS Q=>∃d,(S[i]?=some (.fre d)\/S[i]?=some (.val d)/\flat d=true)/\Q (.d d) S
theorem xP (i:Nat) (h:PE X e (cF i)):VE K X m e (cF i) (Af i):=⟨h,λH0 Z σ H S Q C k Px hc=>by
 obtain ⟨d,h,q⟩:=Px
 rcases h with h | ⟨h,hf⟩
 ·obtain ⟨o,h1,v,rfl,r⟩:=k.ownAt h
  exact ⟨v,h1,hc _ _ (.d d) _ k .refl (show Rep K _ _ _ _ _ from r.mono (λ_ n _=>⟨n,rfl⟩) λ_ x _=>x) q⟩
 ·obtain ⟨o,h1,v,rfl,r⟩:=k.ownAt h
  exact ⟨v,h1,hc _ _ (.d d) _ k .refl (show Rep K _ _ _ _ _ from Rep.flat r hf) q⟩⟩
theorem C4 {Q:VR->List Sl->Prop} (h:S[i]?=some (.fre d)\/S[i]?=some (.val d)/\flat d=true) (q:Q (.d d) S):Af i S Q:=⟨d,h,q⟩
end
end VL
namespace VL
open PySem L2 PySem.W
section
variable {K:Ho} {X:Cx} {a b:Expr} {ta tb:TE} {pos:Pos}
def Ag (t u:PQ):PQ:=λS Q=>t S λds S1=>u S1 λes S2=>ds.length+es.length<=1000000/\Q (ds++es) S2
theorem pM {t u:PQ} (h1:VN K X a ta t) (h2:VN K X b tb u):VN K X (.BinOp a .Add b pos) (Rw BE ta tb) (Ag t u):=⟨jC sN h1.pe h2.pe,λH0 Z σ H S Q C k t hc=>
 h1.snd H0 Z σ H S _ _ k t λc us ds H1 Xn S1 k1 Pq ha1 VW hl1 VX t1=>h2.snd H0 Z σ Xn S1 _ _ (k1.grow VW) t1 λa' vs es H2 H' S2 k2 Pj ha hg hl rr Px=>by
  obtain ⟨hlen,q⟩:=Px
  obtain ⟨ec,nc2⟩:=Pj.1 c (k1.nm ha1) (by simp[hl1])
  have VV:H' c=some (.lst us):=by rw[hg c (by rw[ec,hl1];simp),ec,hl1]
  have r1:Pi K (NM Z σ S2) (Fr H0) H' us ds:=((VX.mono (N':=NM Z σ S1) (λb n e=>⟨n.1,rfl⟩) (λ_ x=>x)).step Pj).mono (λb n e=>⟨n,hg b e⟩) λ_ x=>x
  refine ⟨c,a',us,vs,rfl,rfl,VV,hl,by rw[VX.length,rr.length,IL];lia,λp hp=>?_⟩
  refine hc p _ _ H' _ S2 (k2.grow hg) ((Pq.trans (.grow VW)).trans (Pj.trans (.grow hg))) hp (aG hp) aw (Pi.append ?_ ?_) q
  ·exact bC hp (r1.mono (λ_ n _=>⟨n,rfl⟩) λ_ x _=>x)
  ·exact bC hp (rr.mono (λ_ n _=>⟨n.1,rfl⟩) λ_ x _=>x)⟩
@[irreducible] def WC (u:PQ) (Q:List D->List Sl->Prop):List D->List Sl->Prop:=λds S1=>u S1 λes S2=>ds.length+es.length<=1000000/\Q (ds++es) S2
@[irreducible] def WD (ds:List D) (Q:List D->List Sl->Prop):List D->List Sl->Prop:=λes S2=>ds.length+es.length<=1000000/\Q (ds++es) S2
theorem C5 {t u:PQ} {Q:List D->List Sl->Prop} (h:t S (WC u Q)):Ag t u S Q:=by unfold WC at h;exact h
theorem Gj {u:PQ} {Q:List D->List Sl->Prop} (h:u S (WD ds Q)):WC u Q ds S:=by unfold WC;unfold WD at h;exact h
theorem Ah {ds es:List D} {Q:List D->List Sl->Prop} (hl:ds.length+es.length<=1000000) (h:Q (ds++es) S):WD ds Q es S:=by unfold WD;exact ⟨hl,h⟩
end
end VL
end
section
namespace L2
open PySem PySem.Spec PyProof.Rows PySem.W
section
variable {X:Cx}
def ur (K:Ho) (n:Int):R2:=λx y H Q=>∃b a ms es i,y=.ref b/\x=.ref a/\Rb K H b ms/\(∃ob,H a=some (bM a ob es))/\cf K H es/\(Q3 es ms).getD (.int n)=.int i/\Q (.int i) H
def Ai (K:Ho) (n:Int) (to ti:TE):TE:=fun σ H Q=>to σ H λx H1=>(∃a es ob,x=.ref a/\H1 a=some (bM a ob es))/\ti σ H1 λy H2=>ur K n x y H2 Q
theorem qV {s:Hv} {x y:V} {v u:Ht} {n:Int} {t:Tok} {Q:VK} (hu:X.A.units+64<Ls) (I:Inv X pins σ H s) (rx:RelV x v) (ry:RelV y u) (h:ur X.K n x y H Q) :
  IJ (IB X.prog X.w) X.A (call (.builtin "dict.get") [v,u,.int n t]) (EP X pins σ Q) X.xe s:=by
 obtain ⟨b,a,ms,es,i,rfl,rfl,h1,⟨ob,h2⟩,h3,hi,q⟩:=h
 cases rx;cases ry
 obtain ⟨z,m,nd,xs,ev,dd⟩:=fB I h2 h3
 refine call_meetsIn F.slot_dict_get dd.typeIs F.entry_dict_get (F.args_dict_get_3 _ _ _) (meetsH_dict_get_default (LM (KT.numKind X.prog X.w)) a b m (.int n t)) ⟨Kh (by lia),ms,xs,cP I h1,dd,?_⟩
 have r:=ev.at_ ms
 refine ⟨.int i,H,I.tok _,?_,q⟩
 cases h4:Q3 es ms with
 | none=>
  rw[h4] at r hi
  cases h5:(OQ xs ms).map (·.2) with
  | none=>cases hi;exact ⟨t,rfl⟩
  | some w=>rw[h5] at r;exact r.elim
 | some w=>
  rw[h4] at r hi
  cases h5:(OQ xs ms).map (·.2) with
  | none=>rw[h5] at r;exact r.elim
  | some w'=>rw[h5] at r;cases (show w=.int i from hi);exact r
def two (K:Ho) (x:V) (Q:VK):List V->Hp->Prop
 | [y,.int k],H=>ur K k x y H Q
 | _,_=>False
theorem xQ {o ie:Expr} {to ti:TE} {n:Int} {j:Nat} {pc PO PP:Pos} (hu:X.A.units+64<Ls) (ho:PE X o to) (hi:PE X ie ti) (hbase:JN o "get" X.env (eval o X.env)=eval o X.env:=by rfl)
  (hfew:((J9 PP (HN [ie,.Constant (.int n) j pc] X.env)).all (λx=>!x.1)&&(Nv PP (LA [] X.env)).all (λx=>x.1.isSome)
   && decide (([ie,.Constant (.int n) j pc]:List Expr).length+([]:List LB).length+(if ([]:List LB).isEmpty then 0 else 1)<30))=true:=by rfl)
  (hline:(PO.endLine==PP.line)=true:=by rfl) (hs:HN [ie,.Constant (.int n) j pc] X.env=(false,eval ie X.env)::HN [.Constant (.int n) j pc] X.env:=by rfl) (hplain:(J9 PP (HN [.Constant (.int n) j pc] X.env)).any (·.1)=false:=by rfl) :
  PE X (.Call (.Attribute o "get" PO) [ie,.Constant (.int n) j pc] [] PP) (Ai X.K n to ti):=by
 intro pins s σ H Q I h
 refine Lu hbase hfew hline rfl (PF (ho pins s σ H _ I h) λv s1 Pk=>?_)
 obtain ⟨x,H1,I1,r1,⟨a,es,ob,hx,ha⟩,q1⟩:=Pk
 subst hx
 cases r1
 obtain ⟨_,_,_,_,_,ob,_,_,z1,z2,_⟩:=fW I1 ha
 refine ⟨"dict","dict.get",Lo,PySem.F.slot_dict_get,PySem.F.type_dict_get,⟨_,z1,z2.1⟩,λb e=>by cases e;exact ⟨_,z1,z2.2.1⟩,?_⟩
 have hA:=bZ hi (bZ (nu (i:=n)) eE rfl) hs PP pins s1 σ H1 (two X.K (.ref a) Q) I1 q1
 rw[hs] at hA ⊢
 refine J7 (by show (false||(J9 PP (HN [.Constant (.int n) j pc] X.env)).any (·.1))=false;rw[hplain] <;> rfl) (K1 ?_)
 refine PF hA λus s2 Pk=>?_
 obtain ⟨vs,H2,I2,r2,q2⟩:=Pk
 match vs,r2,q2 with
 | [y,.int k],r2,q2=>
  obtain ⟨u,w,rfl,ru,t,rfl⟩:=r2.two
  exact qV hu I2 (show RelV (.ref a) (.ref a) from rfl) ru q2
end
section
variable {X:Cx}
theorem Qe.at {D:Addr} {h h':Heap} (d:Qe D es h) (e:h'.get? D=h.get? D):Qe D es h':=
 let ⟨z,m,nd,xs,ev,o,ds,ep,q,r⟩:=d;⟨z,m,nd,xs,ev,o,ds,ep,e.trans q,r⟩
theorem Qe.nocell {D:Addr} {h:Heap} {o:Obj} (d:Qe D es h) (e:h.get? D=some o):∀v,o.data≠.cell v:=λv z=>by
 obtain ⟨_,_,_,_,_,o',ds,ep,q,_,hd,_⟩:=d
 rw[e] at q;cases q
 rw[hd] at z;cases z
theorem pN {D:Addr} {h:Heap} (e:h.get? D=some { cls:=.type "dict",data:=.dict #[] }) (hb:KD<D):Qe D [] h:=
 ⟨JV _,beq_eq_false_iff_ne.mpr (Ka (IE hb)),NO,[],.nil,_,#[],0,e,⟨rfl,rfl,rfl⟩,rfl,rfl⟩
theorem pO {s:Hv} {a:Addr} (I:Inv X pins σ H s) (d:Qe a es s.heap) (k:cf X.K H es):es.length<=Ii/\(a==KD)=false/\(es.map (·.1)).Nodup /\
  ∃xs,EV es xs/\s.heap.DictOfH (LM (KT.numKind X.prog X.w)) a xs:=by
 obtain ⟨z,m,nd,xs,ev,o,ds,ep,h1,h2,h3,h4⟩:=d
 refine ⟨z,m,nd,xs,ev,o,ds,ep,h1,h2,h3,h4,λx hx=>?_,ev.keys▸nd⟩
 obtain ⟨e,he,e1,e2⟩:=ev.mem x hx
 exact e1▸e2▸cP I (k e he)
def kX (K:Ho) (wi:TI) (n:Nat) (ix:List Nat) (g:TG) (tc:TT) (tk tv:TE):TE:=fun σ H Q=>wi σ H λJ H1=>∃W:Nat->Nat->List (List Int×Addr×V)->Hp->Prop,(∃m,W 0 m [] H1)/\∀i m es H2,W i m es H2 ->
 (J.stop i H2/\∀D ob,H2 D=none->Q (.ref D) (upd H2 D (bM D ob es))) \/
 (J.go i H2/\es.length<Ii/\∃Nx:List (List Int×Addr×V)->Hp->Prop,(∀es' H',Nx es' H'->∃m',m'<m/\W (i+1) m' es' H') /\
  ∀x H3,J.yld i H2 x H3->g x (capt n ix σ) H3 fun σ2 H4=>tc σ2 H4 λb H5=>if b=true then tk σ2 H5 λy H6=>tv σ2 H6 λv H7=>∃b ms,y=.ref b/\Rb K H7 b ms/\cf K H7 es/\Nx (fH es ms b v) H7 else Nx es H5)
theorem uu {kx vx target iter:Expr} {ifs:List Expr} {scope:JX} {pos:Pos} {tg cs:List Str} {wi:TI} {g:TG} {tc:TT} {tk tv:TE} (hu:X.A.units+64<Ls) (S:aV X scope tg cs ix) (Pv:X.calm=true) (kg:cG tg.length ix g)
    (hi:PI X target iter wi) (hg:∀C fp s H,PG (ak X scope (tg++cs) C fp s H) target g) (hc:∀C fp s H,SA (ak X scope (tg++cs) C fp s H) ifs tc) (hk:∀C fp s H,PE (ak X scope (tg++cs) C fp s H) kx tk) (hv:∀C fp s H,PE (ak X scope (tg++cs) C fp s H) vx tv)
    (hs:∀x,HY iter X.env x=pure x:=by intro _;rfl):PE X (.DictComp kx vx [⟨target,iter,ifs,0⟩] scope pos) (kX X.K wi tg.length ix g tc tk tv):=by
  intro pins s σ H Q I h
  rw[Ox]
  refine JT (use:=none) (cl:=bu X.env scope.names []) rfl hs (dm λn hn=>I.ok.has n (S.out n hn)) S.kind S.names ?_
  refine Ih (hi pins s σ H _ I h) (λv s1 h1=>Ih h1 (λTb s2 h2=>?_) λ_ _ e=>e) λ_ _ e=>e
  obtain ⟨it,fp,tn,J,H2,rfl,I2,T,Pj,f2,W,⟨m0,w0⟩,turn⟩:=h2
  refine IU (K2 S.nocell (by intro y hy;simp at hy) (λh1 QB Qx=>?_) S.kind)
  dsimp only at QB Qx ⊢
  generalize hP:s2.heap.push { cls:=.type "dict",dict:=none,data:=.dict #[] }=P2 at QB Qx ⊢
  have RW:P2.objs.size=s2.heap.objs.size+1:=by rw[<- hP,Kl]
  have hDC:s2.heap.objs.size≠P2.objs.size:=by rw[RW];exact IE (KB _)
  have Qf:s2.heap.objs.size<=P2.objs.size:=by rw[RW];exact KN _
  generalize Wn:P2.objs.size=C at *
  have old:∀b o,s2.heap.get? b=some o->h1.get? b=some o:=λb o e=>Qx.extBut b o (IE (HS (HM e) Qf)) (Hs _ (hP▸Hs _ e))
  generalize PU:s2.heap.objs.size=D at *
  have SB:h1.get? D=some { cls:=.type "dict",data:=.dict #[] }:=Qx.extBut _ _ hDC (Hs _ (hP▸PU▸HP _ rfl))
  have nC:H2 C=none:=I2.hok.fresh (by rw[PU];exact Qf)
  have nD:H2 D=none:=I2.hok.fresh (by rw[PU];exact HA _)
  have fo:∀b∈fp,∃o,s2.heap.get? b=some o:=λb hb=>let ⟨o,e,_⟩:=T.obj _ _ Pj b hb;⟨o,e⟩
  have Rk:D∉fp:=λz=>by
    obtain ⟨o,e⟩:=fo D z
    have:=HM e
    rw[PU] at this
    exact absurd this (Jb _)
  have R6:D∉QS X.stack:=λz=>by
    rcases List.mem_cons.mp (I2.stkSub D z) with e | e
    · have:=I2.lt
      rw[<- e,PU] at this
      exact absurd this (Jb _)
    · exact I2.nofs (by rw[PU];exact HA _) e
  have SC:∀x c,(bu X.env scope.names []).lookup x=some c->c≠D:=λx c e=>by
    rcases cT (II e) with h | h
    · cases h
    · exact (I2.fpOk (H':=H2) (b:=D) (by rw[PU];exact HA _) nD).2.2.2.2.1 x c h
  -- QG QZ context
  have Te:∀s4:Hv,s4={ s2 with heap:=h1,toks:=s2.toks+([]:List (Str×Ht)).length }->Inv (ak X scope (tg++cs) C fp s2 H2) [] (capt tg.length ix σ) H2 s4:=by
    rintro s4 rfl
    exact fY S I2 f2 fo (by rw[PU];exact Qf) old (by simpa using QB) rfl I2.bare nC
  -- QG loop
  have loop:∀s4:Hv,s4={ s2 with heap:=h1,toks:=s2.toks+([]:List (Str×Ht)).length } ->
      KG (IB X.prog X.w) X.A (.compLoop (.DictComp kx vx [⟨target,iter,ifs,0⟩] scope pos) 0 (.ref it) (.ref D) (Kn scope (bu X.env scope.names []) C X.env)) (N9 (IB X.prog X.w) X.A X.xe none (EP X pins σ Q) (.ref D) C) s4:=by
    intro s4 e4
    refine Lb rfl (λn s'=>∃i es o H',Inv (ak X scope (tg++cs) C fp s2 H2) [] (capt tg.length ix σ) H' s'/\tn i s'.heap/\(∀b∈fp,H' b=none)/\H' D=none/\s'.heap.get? D=some o/\Qe D es s'.heap/\W i n es H')
      ?_ m0 ⟨0,[],_,H2,Te s4 e4,?_,λb hb=>(f2 b hb).1,nD,by rw[e4];exact SB,pN (by rw[e4];exact SB) (by rw[<- PU];exact nT I2),w0⟩
    · rintro n s5 ⟨i,es,o,H5,I5,Py,Ra,d5,o5,v5,w5⟩
      show IJ _ X.A ((LJ (.DictComp kx vx [⟨target,iter,ifs,0⟩] scope pos) 0 (.ref it) (.ref D) (Kn scope (bu X.env scope.names []) C X.env)).onRaise (λx=>do Nb x (Kn scope (bu X.env scope.names []) C X.env);KO x)) _ _ s5
      refine LF ?_
      rw[compTurn_dict]
      have Qr:Inv (ak X scope (tg++cs) C fp s2 H2) [(D,o)] (capt tg.length ix σ) H5 s5:=I5.pins_of λp hp=>by
        have e:p=(D,o):=by simpa using hp
        subst e
        exact ⟨o5,d5,hDC,R6,v5.nocell o5⟩
      have Ro:∀{H':Hp},(∀b∈fp,H' b=none)->∀b∈fp,eU (ak X scope (tg++cs) C fp s2 H2) [(D,o)] H' b:=λhn b hb=>
        ⟨hn b hb,(I5.ok.exf b hb).1,λz=>I5.ok.exfs b hb z,.inl hb,(I5.ok.exf b hb).2,λp hp z=>by
          have hp:p∈([]:List (Addr×Obj))++[(D,o)]:=hp
          have e:p=(D,o):=by simpa using hp
          subst e
          have z:D=b:=z
          exact Rk (z▸hb)⟩
      refine Hq (Jd (Hq ?_))
      rcases turn i n es H5 w5 with ⟨stop,qn⟩ | ⟨go,hz,Nx,hN,step⟩
      · refine PF (T.done (ak X scope (tg++cs) C fp s2 H2) rfl rfl rfl Pv i _ s5 _ H5 _ Qr (Ro Ra) Py stop) λr s6 Pk=>?_
        obtain ⟨hr,I6⟩:=Pk
        subst hr
        refine Hw ?_
        obtain ⟨mC,Rp,_⟩:=id I6.loc
        refine ⟨mC,Rp,λh' sb=>?_⟩
        have IX:Inv X pins σ H5 s6:=I2.call' (ch:=fp) I6.os I6.base I6.hok I6.bare λb hb=>let ⟨_,a1,_,a3,a4,a5⟩:=f2 b hb;⟨a3,a1,a4,a5⟩
        obtain ⟨_,c1,_,c3,c4,c5⟩:=I2.fpOk (H':=H5) (b:=C) (by rw[PU];exact Qf) I6.free
        have VY:Inv X pins σ H5 { s6 with heap:=h' }:=IX.turned (t':=s6.toks) (λb o hb e=>(sb.2 b hb).trans e) I6.free c1 c3 c4 c5
        obtain ⟨_,b1,_,b3,b4,b5⟩:=I2.fpOk (H':=H5) (b:=D) (by rw[PU];exact HA _) d5
        have gD:h'.get? D=some o:=(sb.2 D hDC).trans (I6.pin (D,o) (Hr _ Hx)).1
        exact ⟨.ref D,upd H5 D (bM D o es),VY.track d5 (by rw[<- PU];exact I2.sz) b1 b4 b5 ((v5.at (gD.trans o5.symm)).ok gD),rfl,qn D o d5⟩
      · refine PF (T.item (ak X scope (tg++cs) C fp s2 H2) rfl rfl rfl Pv i _ s5 _ H5 _ Qr (Ro Ra) Py go) λr s6 Pk=>?_
        obtain ⟨u,hr,h6⟩:=Pk
        subst hr
        refine Hq (PF h6 λ_ s7 Pk=>?_)
        obtain ⟨x,H7,I7,r7,y7,Qk,R7⟩:=Pk
        have R8:=I7.pinned (Ro R7) (T.obj _ _ Qk)
        -- QG next turn
        have Mf:∀{σ2:St} {H8:Hp} {s8:Hv} {es':List (List Int×Addr×V)} {o':Obj},Inv (ak X scope (tg++cs) C fp s2 H2) [] σ2 H8 s8->(σ2.length=(capt tg.length ix σ).length/\∀(i:Nat) (v:V),(capt tg.length ix σ)[i]?=some (some v)->σ2[i]?=some (some v)) ->
            (∀b∈fp,∀o,s7.heap.get? b=some o->s8.heap.get? b=some o)->(∀b∈fp,H8 b=none)->H8 D=none->s8.heap.get? D=some o'->Qe D es' s8.heap->Nx es' H8 ->
            ∃m,m<n/\∃i es o H',Inv (ak X scope (tg++cs) C fp s2 H2) [] (capt tg.length ix σ) H' s8/\tn i s8.heap/\(∀b∈fp,H' b=none)/\H' D=none/\s8.heap.get? D=some o/\Qe D es s8.heap/\W i m es H':=by
          intro σ2 H8 s8 es' o' I8 kp fk fn dn dg vv nx
          obtain ⟨m',hm,w8⟩:=hN es' H8 nx
          exact ⟨m',hm,i+1,es',o',H8,I8.weak kp.1.symm kp.2,T.keep _ _ _ Qk fk,fn,dn,dg,vv,w8⟩
        refine Hq (Ih (hg C fp s2 H2 _ s7 _ H7 x u _ R8 r7 (kg x σ H7 _ (step x H7 y7))) (λ_ s8 Pk=>?_) λ_ _ z=>z.elim)
        obtain ⟨σ8,H8,I8,RX,q8⟩:=Pk
        refine Hq (Ih (hc C fp s2 H2 _ s8 σ8 H8 _ I8 q8) (λok s9 Pk=>?_) λ_ _ z=>z.elim)
        obtain ⟨H9,I9,q9⟩:=Pk
        have P4:∀{σ':St} {H':Hp} {s':Hv},Inv (ak X scope (tg++cs) C fp s2 H2) ([(D,o)]++cw fp s7.heap) σ' H' s' ->
            (∀b∈fp,∀o,s7.heap.get? b=some o->s'.heap.get? b=some o)/\(∀b∈fp,H' b=none)/\H' D=none/\s'.heap.get? D=some o:=by
          intro σ' H' s' I'
          refine ⟨λb hb o e=>(I'.pin (b,o) (Hr _ (Hr _ (aQ hb e)))).1,λb hb=>?_,(I'.pin (D,o) (Hr _ (HR _ Hx))).2.1,(I'.pin (D,o) (Hr _ (HR _ Hx))).1⟩
          obtain ⟨o,e,d⟩:=T.obj _ _ Qk b hb
          exact (I'.pin (b,o) (Hr _ (Hr _ (aQ hb e)))).2.1
        cases ok with
        | false=>
          obtain ⟨p1,p2,p3,p4⟩:=P4 I9
          exact Hw ⟨rfl,Mf (I9.pins_of λp hp=>nomatch hp) RX p1 p2 p3 p4 (v5.at (p4.trans o5.symm)) q9⟩
        | true=>
          have q9:tk σ8 H9 λy H6=>tv σ8 H6 λv H7=>∃b ms,y=.ref b/\Rb X.K H7 b ms/\cf X.K H7 es/\Nx (fH es ms b v) H7:=q9
          refine Hq (Hq (Ih (hk C fp s2 H2 _ s9 σ8 H9 _ I9 q9) (λkv Qu Pk=>?_) λ_ _ z=>z.elim))
          obtain ⟨y,RD,Ry,ry,TX⟩:=Pk
          refine Hq (Jc (Ih (hv C fp s2 H2 _ Qu σ8 RD _ Ry TX) (λvv Q4 Pk=>?_) λ_ _ z=>z.elim))
          obtain ⟨v,Vc,RY,rv,b,ms,ey,sq,ka,nx⟩:=Pk
          subst ey
          cases ry
          obtain ⟨p1,p2,p3,p4⟩:=P4 RY
          have Xo:Qe D es Q4.heap:=v5.at (p4.trans o5.symm)
          obtain ⟨z,m,nd,xs,ev,dd⟩:=pO RY Xo ka
          refine Hq (Jd (Jc (Ob (hsz:=by rw[<- JM ev];exact z) (show (LM (KT.numKind X.prog X.w)).room X.A from by show X.A.units<Ls;lia) (cP (X:=ak X scope (tg++cs) C fp s2 H2) RY sq) dd λh' Ul hs'=>?_)))
          have RJ:Inv (ak X scope (tg++cs) C fp s2 H2) [] σ8 Vc Q4:=RY.pins_of λp hp=>nomatch hp
          have Xp:Inv (ak X scope (tg++cs) C fp s2 H2) [] σ8 Vc { Q4 with heap:=h',toks:=Q4.toks+(LM (KT.numKind X.prog X.w)).draws ms }:=
            RJ.turned (λb o hb e=>(hs'.2 b hb).trans e) p3 hDC (.inr (by show s2.heap.objs.size<=D;rw[PU];exact HA _)) SC (λp hp=>nomatch hp)
          obtain ⟨qo,qd,qe,VZ,Xq,Xs,Xt,_,Xu⟩:=Ul
          refine Hw ⟨rfl,Mf Xp RX (λb hb o e=>(hs'.2 b (λz:b=D=>Rk (z▸hb))).trans (p1 b hb o e)) p2 p3 VZ ⟨?_,m,?_,_,ev.put ms rv,qo,qd,qe,VZ,Xq,Xs,Xt⟩ nx⟩
          · have:=e7 es ms b v;lia
          · rw[(ev.put ms rv).keys];exact Xu
    · rw[e4];exact T.keep _ _ _ Pj λb _ o e=>old b o e
  exact MZ (loop _ rfl) (T.self _ 0 _ _ _ (T.keep _ _ _ Pj λb _ o e=>old b o e) (loop _ rfl))
end
end L2
namespace VL
open PySem L2 PySem.W
section
variable {X:Cx} {K:Ho} {m:Bool} {e:Expr} {te:TE} {va:VT} {pos:Pos}
theorem fD {N:AP} {k:List Int}:∀{es:List (List Int×Addr×V)} {kvs:List (List Int×D)},es.map (·.1)=kvs.map (·.1)->Pi K N F H (es.map (·.2.2)) (kvs.map (·.2)) ->
  (Q3 es k=none/\PJ kvs k=none)\/∃v d,Q3 es k=some v/\PJ kvs k=some d/\Rep K N F H v d
 | [],[],_,_=>.inl ⟨rfl,rfl⟩
 | [],_::_,h,_=>by cases h
 | _::_,[],h,_=>by cases h
 | e::es,p::ps,h,.cons r t=>by
  have h1:e.1=p.1:=(Oc h).1
  by_cases z:p.1=k
  ·exact .inr ⟨e.2.2,p.2,by simp[Q3,h1,z],by simp[PJ,z],r⟩
  ·rcases fD (k:=k) (Oc h).2 t with ⟨a,b⟩ | ⟨v,d,a,b,r⟩
   ·exact .inl ⟨by simpa [Q3,Jw,h1,z] using a,by simpa [PJ,Jw,z] using b⟩
   ·exact .inr ⟨v,d,by simpa [Q3,Jw,h1,z] using a,by simpa [PJ,Jw,z] using b,r⟩
def Aj (n:Int) (va vb:VT):VT:=λS Q=>va S λra S1=>(∃kvs,get S1 ra=some (dc kvs))/\vb S1 λrb S2=>∃kvs ms i,get S2 ra=some (dc kvs)/\get S2 rb=some (kT ms)/\(PJ kvs ms).getD (.int n)=.int i/\Q (.d (.int i)) S2
theorem xR {o ie:Expr} {to ti:TE} {vo vi:VT} {n:Int} {j:Nat} {pc PO:Pos} (hK:X.K=K) (hu:X.A.units+64<Ls) (ho:VE K X false o to vo) (hi:VE K X false ie ti vi) (hbase:JN o "get" X.env (eval o X.env)=eval o X.env:=by rfl)
  (hfew:((J9 pos (HN [ie,.Constant (.int n) j pc] X.env)).all (λx=>!x.1)&&(Nv pos (LA [] X.env)).all (λx=>x.1.isSome)
   && decide (([ie,.Constant (.int n) j pc]:List Expr).length+([]:List LB).length+(if ([]:List LB).isEmpty then 0 else 1)<30))=true:=by rfl)
  (hline:(PO.endLine==pos.line)=true:=by rfl) (hs:HN [ie,.Constant (.int n) j pc] X.env=(false,eval ie X.env)::HN [.Constant (.int n) j pc] X.env:=by rfl) (hplain:(J9 pos (HN [.Constant (.int n) j pc] X.env)).any (·.1)=false:=by rfl) :
  VE K X m (.Call (.Attribute o "get" PO) [ie,.Constant (.int n) j pc] [] pos) (Ai K n to ti) (Aj n vo vi):=
 ⟨by subst hK;exact xQ hu ho.pe hi.pe hbase hfew hline hs hplain,λH0 Z σ H S Q C k t hc=>by
  refine ho.snd H0 Z σ H S _ _ k t λx H1 ra S1 k1 Pq r1 Pk=>?_
  obtain ⟨⟨kvs0,e0⟩,t1⟩:=Pk
  obtain ⟨a,Wz,rfl,_,_,⟨Xv,ha⟩,_⟩:=Rep.dct (show Rep K _ _ H1 x (.dic _ _) from r1.get k1 e0)
  refine ⟨⟨a,Wz,Xv,rfl,ha⟩,?_⟩
  refine hi.snd H0 Z σ H1 S1 _ _ k1 t1 λy H2 rb S2 k2 Pj r2 Pk=>?_
  obtain ⟨kvs,ms,i,e1,e2,ei,q⟩:=Pk
  obtain ⟨b,vs,rfl,hq,rr⟩:=Rep.sqT (show Rep K _ _ H2 y (.tup (ms.map D.int)) from r2.get k2 e2)
  cases Pi.toInts rr
  obtain ⟨a',es,ea,_,_,ha',ek,hk,_,rv⟩:=Rep.dct (show Rep K _ _ H2 (.ref a) (.dic _ _) from (r1.step Pj).get k2 e1)
  cases ea
  refine ⟨b,a,ms,es,i,rfl,rfl,Rb.of hq,ha',hk,?_,hc _ H2 (.d (.int i)) S2 k2 (Pq.trans Pj) (Rep.int i) q⟩
  rcases fD (k:=ms) ek rv with ⟨z1,z2⟩ | ⟨v,d,z1,z2,r⟩
  ·rw[z2] at ei;rw[z1];cases ei;rfl
  ·rw[z2] at ei;rw[z1]
   cases (show d=.int i from ei)
   cases r
   rfl⟩
def Gk (i:Nat) (vn:PQ):VT:=λS Q=>(∃ds,S[i]?=some (.own ds))/\vn S λSH S1=>∃ds,S1[i]?=some (.own ds)/\ds.length+SH.length<=1000000/\Q (.d .non) (S1.set i (.own (ds++SH)))
theorem C6 {PO:Pos} {o:Expr} {vn:PQ} (i:Nat) (hK:X.K=K) (ho:PE X o (cF i)) (h:VN K X e te vn) (hbase:JN o "extend" X.env (eval o X.env)=eval o X.env:=by rfl)
  (hfew:((J9 pos (HN (e::[]) X.env)).all (λx=>!x.1)&&(Nv pos (LA [] X.env)).all (λx=>x.1.isSome)
   && decide ((e::[]).length+([]:List LB).length+(if ([]:List LB).isEmpty then 0 else 1)<30))=true:=by rfl)
  (hline:(PO.endLine==pos.line)=true:=by rfl) (hs:HN (e::[]) X.env=(false,eval e X.env)::HN [] X.env:=by rfl) (hplain:(J9 pos (HN [] X.env)).any (·.1)=false:=by rfl) :
  VE K X m (.Call (.Attribute o "extend" PO) [e] [] pos) (VB K "list" oU (cF i) (eQ te jw)) (Gk i vn):=
 ⟨by subst hK;exact zC Ll PySem.F.slot_list_extend PySem.F.type_list_extend qB ho (bZ h.pe eE hs) hbase hfew hline hs hplain,λH0 Z σ H S Q C k Px hc=>by
  obtain ⟨⟨Xg,e0⟩,t⟩:=Px
  obtain ⟨o,h1,a,vs,rfl,h2,h3,h4⟩:=k.ownAt e0
  refine ⟨.ref a,h1,.inl ⟨rfl,vs,.inl (.inl h2)⟩,?_⟩
  refine h.snd H0 Z σ H S _ _ k t λb us SH H1 H' S1 k1 Pq hb hg hl rr Pk=>?_
  obtain ⟨ds,e1,hlen,q⟩:=Pk
  have k':=k1.grow hg
  obtain ⟨o',g1,a',Q0,rfl,g2,g3,g4⟩:=k'.ownAt e1
  rw[h1] at g1;cases g1
  have l1:=g4.length
  have l2:=rr.length
  refine ⟨a,b,Q0,us,rfl,rfl,g2,hl,by rw[IL];lia,?_⟩
  have na:NM Z σ S1 a->False:=λn=>n (.inl ⟨i,_,e1,rfl,h1⟩)
  have hm:∀c,NM Z σ S1 c->H' c≠none->NM Z σ S1 c/\upd H' a (.lst (Q0++us)) c=H' c:=λc n _=>⟨n,ay λz=>na (by rw[<- z];exact n)⟩
  obtain ⟨k2,Pj⟩:=k'.chg (s:=.own (ds++SH)) (o:=.lst (Q0++us)) e1 rfl h1 ⟨_,rfl⟩ rfl ⟨a,_,rfl,aw,g3,Pi.append (g4.mono hm λ_ x=>x) (rr.mono (λc n z=>hm c n.1 z) λ_ x=>x)⟩
  exact hc .non _ (.d .non) _ k2 ((Pq.trans (.grow hg)).trans Pj) Rep.non q⟩
end
section
variable {K:Ho} {X:Cx} {kx vx iter:Expr} {pos:Pos}
theorem n5 {H0 H:Hp} {y:V} {ri:VR} {m:Bool} (rr:eV K (FM H0 m) Z σ S H y ri) (ek:get S ri=some (kT ms)):∃b,y=.ref b/\Qq K H b (ms.map L2.V.int)/\Rep K (NM Z σ S) Pz H (.ref b) (kT ms):=by
 cases ri with
 | d z=>
  cases ek
  obtain ⟨b,vs,rfl,hq,r2⟩:=Rep.sqT (show Rep K _ _ H y (.tup (ms.map D.int)) from rr)
  cases Pi.toInts r2
  exact ⟨b,rfl,hq,Rep.mono (λ_ n _=>⟨n,rfl⟩) (λ_ _=>trivial) rr⟩
 | own j=>
  have ek:RK S[j]?=some (kT ms):=ek
  cases e:S[j]? with
  | none=>rw[e] at ek;cases ek
  | some s=>rw[e] at ek;cases s <;> cases ek
def n6 (vi:PQ) (n:Nat) (ix:List Nat) (vg:VG) (vt:Qo) (vk vv:VT):SS:=λS Q=>vi S λds S1=>ds.length<=1000000/\∃Iv:Nat->List (List Int×D)->List Sl->Prop,Iv 0 [] S1 /\
 (∀i d kvs S2,ds[i]?=some d->Iv i kvs S2->vg d (aS n ix S2) λS3=>vt S3 λb S4=>if b=true then vk S4 λrk S5=>vv S5 λrv S6=>∃ms x,get S6 rk=some (kT ms)/\rv=.d x/\Iv (i+1) (PN kvs ms x) (Pu n ix S2 S6) else Iv (i+1) kvs (Pu n ix S2 S4)) /\
 ∀kvs S2,Iv ds.length kvs S2->Q kvs S2
theorem kY {ifs:List Expr} {scope:JX} {tg cs:List Str} {target:Expr} {wi:TI} {vi:PQ} {g:TG} {vg:VG} {tc:TT} {vt:Qo} {tk tv:TE} {vk vv:VT} (hK:X.K=K) (hu:X.A.units+64<Ls) (Sc:aV X scope tg cs ix) (Pv:X.calm=true) (kg:cG tg.length ix g) (hnd:ix.Nodup)
    (hi:VI K X target iter wi vi) (hg:∀C fp s H,Sa K (ak X scope (tg++cs) C fp s H) target g vg) (hc:∀C fp s H,SO K (ak X scope (tg++cs) C fp s H) ifs tc vt) (hk:∀C fp s H,VE K (ak X scope (tg++cs) C fp s H) false kx tk vk) (hv:∀C fp s H,VE K (ak X scope (tg++cs) C fp s H) true vx tv vv)
    (hs:∀x,HY iter X.env x=pure x:=by intro _;rfl):U9 K X (.DictComp kx vx [⟨target,iter,ifs,0⟩] scope pos) (kX K wi tg.length ix g tc tk tv) (n6 vi tg.length ix vg vt vk vv):=by
  have sg:RL K g vg:=(hg 0 [] X.s₀ (λ_=>none)).snd
  have sc:Rg K tc vt:=(hc 0 [] X.s₀ (λ_=>none)).snd
  have sk:Qm K false tk vk:=(hk 0 [] X.s₀ (λ_=>none)).snd
  have sv:Qm K true tv vv:=(hv 0 [] X.s₀ (λ_=>none)).snd
  refine ⟨by subst hK;exact uu hu Sc Pv kg hi.pi (λC fp s H=>(hg C fp s H).pg) (λC fp s H=>(hc C fp s H).pe) (λC fp s H=>(hk C fp s H).pe) (λC fp s H=>(hv C fp s H).pe) hs,λH0 Z σ H S Q C k t hq=>?_⟩
  refine hi.snd H0 Z σ H S _ _ k t λJ ds H1 S1 k1 Pq gd Pk=>?_
  obtain ⟨hl,Iv,i0,hs,hd⟩:=Pk
  refine ⟨λi m es H=>m=ds.length-i/\i<=ds.length/\es.length<=i/\∃S2 kvs,OK K H0 Z σ H S2/\Step Z σ S1 H1 σ S2 H/\es.map (·.1)=kvs.map (·.1)/\Pi K (NM Z σ S2) Pz H (es.map λx=>V.ref x.2.1) ((kvs.map (·.1)).map kT)/\Pi K (NM Z σ S2) (Fr H0) H (es.map (·.2.2)) (kvs.map (·.2))/\Iv i kvs S2,
    ⟨ds.length,by simp,JV _,HA _,S1,[],k1,.refl,rfl,.nil,.nil,i0⟩,?_⟩
  rintro i m es H2 ⟨rfl,hi,hy,S2,kvs,k2,Pj,ek,rk,rz,p⟩
  obtain ⟨g1,g2,g3⟩:=gd σ S2 H2 (λ_=>k2.nm) Pj.1 i
  have hsz:(1000000:Nat)<Ii:=by rw[IL];lia
  by_cases hlt:i<ds.length
  · refine .inr ⟨g1 hlt,by lia,λes' H'=>es'.length<=i+1/\∃S' Rr,OK K H0 Z σ H' S'/\Step Z σ S1 H1 σ S' H'/\es'.map (·.1)=Rr.map (·.1)/\Pi K (NM Z σ S') Pz H' (es'.map λx=>V.ref x.2.1) ((Rr.map (·.1)).map kT)/\Pi K (NM Z σ S') (Fr H0) H' (es'.map (·.2.2)) (Rr.map (·.2))/\Iv (i+1) Rr S',
      λes' H' PH=>by obtain ⟨p1,p2⟩:=PH;exact ⟨ds.length-(i+1),by lia,rfl,hlt,p1,p2⟩,λx H3 y=>?_⟩
    obtain ⟨hgr,d,hd',rd⟩:=g2 x H3 y hlt
    replace k2:=k2.grow hgr
    replace Pj:=Pj.trans (.grow hgr)
    replace rk:=rk.step (.grow hgr)
    replace rz:=rz.step (.grow hgr)
    have kc:=k2.capt (n:=tg.length) hnd
    have To:Rep K (NM (QJ Z ix σ S2) (L2.capt tg.length ix σ) (aS tg.length ix S2)) Pz H3 x d:=rd.mono (λa n _=>⟨λz=>n (eI.mp z),rfl⟩) λ_ x=>x
    have h1:=sg H0 _ _ H3 _ x d _ (fun σ4 H4=>∃S4,OK K H0 (QJ Z ix σ S2) σ4 H4 S4/\Step (QJ Z ix σ S2) (L2.capt tg.length ix σ) (aS tg.length ix S2) H3 σ4 S4 H4/\vt S4 λb S5=>if b=true then vk S5 λrk S6=>vv S6 λrv S7=>∃ms x,get S7 rk=some (kT ms)/\rv=.d x/\Iv (i+1) (PN kvs ms x) (Pu tg.length ix S2 S7) else Iv (i+1) kvs (Pu tg.length ix S2 S5)) kc To (hs i d kvs S2 hd' p) (fun σ4 H4 S4 k4 PZ q4=>⟨S4,k4,PZ,q4⟩)
    have h2:=kg x σ H3 _ h1
    refine (hg 0 [] X.s₀ (λ_=>none)).mono _ _ _ _ _ ?_ h2
    rintro σ4 H4 ⟨⟨Xi,SF⟩,S4,k4,PZ,q4⟩
    refine sc H0 _ σ4 H4 S4 _ _ k4 q4 λbb H5 S5 k5 Py q5=>?_
    cases bb with
    | false=>
      rw[if_neg Hy] at q5 ⊢
      obtain ⟨kb,sb,nb⟩:=k2.back k5 (PZ.trans Py) SF
      exact ⟨by lia,_,kvs,kb,Pj.trans sb,ek,rk.step sb,rz.step sb,q5⟩
    | true=>
      rw[if_pos rfl] at q5 ⊢
      refine sk H0 _ σ4 H5 S5 _ _ k5 q5 λyy H6 ry S6 k6 Sq Xw q6=>?_
      refine sv H0 _ σ4 H6 S6 _ _ k6 q6 λV0 H7 rv S7 k7 Qk Xx Pk=>?_
      obtain ⟨ms,xx,e1,er,q7⟩:=Pk
      subst er
      obtain ⟨b,rfl,sq,rb⟩:=n5 (Xw.step Qk) e1
      obtain ⟨kb,sb,nb⟩:=k2.back k7 (((PZ.trans Py).trans Sq).trans Qk) SF
      have V1:=rk.step sb
      have Xy:=rz.step sb
      obtain ⟨z1,z2,z3⟩:=kL (k:=ms) (b:=b) (v:=V0) (d:=xx) (F:=Fr H0) (F':=Pz) (Rep.mono (λa n _=>⟨nb a n,rfl⟩) (λ_ x=>x rfl) Xx) (Rep.mono (λa n _=>⟨nb a n,rfl⟩) (λ_ x=>x) rb) ek V1 Xy
      refine ⟨b,ms,rfl,Rb.of sq,cK (by rw[ek];exact V1),?_,_,PN kvs ms xx,kb,Pj.trans sb,z1,z2,z3,q7⟩
      have:=e7 es ms b V0
      lia
  · have e:i=ds.length:=by lia
    refine .inl ⟨g3 e,λl ob hp=>?_⟩
    exact hq l es kvs H2 _ S2 k2 (Pq.trans Pj) hp (aG hp) ⟨ob,aw⟩ ek (rk.mono (λa n e=>⟨⟨n,λz=>e (z▸hp)⟩,ay λz=>e (z▸hp)⟩) λ_ x=>x) (bC hp (rz.mono (λ_ n _=>⟨n,rfl⟩) λ_ x _=>x)) (hd kvs S2 (by rw[<- e];exact p))
end
end VL
end
section
namespace L2
open PySem PySem.Spec PyProof.Rows PySem.W
abbrev P6 (its:List Ht) (k:Nat):Obj:={ cls:=.type "list",data:=.seq its.toArray k }
abbrev two_of (elt t1 i1 t2 i2:Expr) (f1 f2:List Expr) (scope:JX) (pos:Pos):Expr:=.ListComp elt [⟨t1,i1,f1,0⟩,⟨t2,i2,f2,0⟩] scope pos
section
variable {elt t1 i1 t2 i2:Expr} {f1 f2:List Expr} {scope:JX} {pos:Pos}
theorem xS (it acc:Ht) (env:Env):LJ (two_of elt t1 i1 t2 i2 f1 f2 scope pos) 1 it acc env=(do { Le i2.pos;match <- MT it with | none=>pure (.done .next) | some v=>(do { KJ t2 it v;LO t2 env v;let mut ok:=true;for c in f2 do { if ok then { ok <- OF c env (eval c env) } };if ok then { (do { let _ <- call (.builtin "list.append") [acc,<- eval elt env] }) };Mf (.compLoop (two_of elt t1 i1 t2 i2 f1 f2 scope pos) 1 it acc env) }) }):=by rfl
theorem uv (it acc:Ht) (env:Env):LJ (two_of elt t1 i1 t2 i2 f1 f2 scope pos) 0 it acc env=(do { Le i1.pos;match <- MT it with | none=>pure (.done .next) | some v=>(do { KJ t1 it v;LO t1 env v;let mut ok:=true;for c in f1 do { if ok then { ok <- OF c env (eval c env) } };if ok then { let x <- eval i2 env;Le i2.pos;let x <- HY i2 env x;let _ <- runOwn (.compStart (two_of elt t1 i1 t2 i2 f1 f2 scope pos) 1 (<- Lg [x] (NJ x)) acc env) env };Mf (.compLoop (two_of elt t1 i1 t2 i2 f1 f2 scope pos) 0 it acc env) }) }):=by rfl
theorem uw {P:Ip} {w:Ji} {A:Js} {R:Result->Hv->Prop} {s:Hv} {it acc:Ht} {env:Env} (h0:KG (IB P w) A (.compLoop (two_of elt t1 i1 t2 i2 f1 f2 scope pos) 1 it acc env) R s)
  (h:IJ (IB P w) A (NJ it) (λy s'=>KG (IB P w) A (.compLoop (two_of elt t1 i1 t2 i2 f1 f2 scope pos) 1 y acc env) R s') (notedBy (IB P w) A env λx s'=>R (.error x) s') s) :
  KG (IB P w) A (.compStart (two_of elt t1 i1 t2 i2 f1 f2 scope pos) 1 it acc env) R s:=by
 refine Ng (Od (m:=compStart (two_of elt t1 i1 t2 i2 f1 f2 scope pos) 1 it acc env) ?_)
 unfold compStart
 refine (show IJ _ _ (ask >>= _) _ _ s from Hq (MU (wpAny_ite ?_)))
 split
 ·exact Hw ⟨rfl,h0⟩
 ·exact Hq (Kc (Hq (m:=Le i2.pos) (Jd (Hq (Ih h (λy s' q=>Hw ⟨rfl,q⟩) λ_ _ x=>x)))))
def Xz (wi:TI) (g:TG) (tc:TT) (te:TE) (σ:St) (ys:List V) (Nx:List V->Hp->Prop) (H:Hp):Prop:=wi σ H λJ H1=>∃W:Nat->Nat->List V->Hp->Prop,(∃m,W 0 m ys H1)/\∀j m zs H2,W j m zs H2 ->
 (J.stop j H2/\Nx zs H2)\/(J.go j H2/\zs.length<Ii/\∃N2:List V->Hp->Prop,(∀QQ H',N2 QQ H'->∃m',m'<m/\W (j+1) m' QQ H') /\
  ∀x H3,J.yld j H2 x H3->g x σ H3 fun σ4 H4=>tc σ4 H4 λb H5=>if b=true then te σ4 H5 λv H6=>N2 (zs++[v]) H6 else N2 zs H5)
def ux (σ:St) (g:TG):Prop:=∀x H Q,g x σ H Q->g x σ H fun σ2 H2=>(σ2.length=σ.length/\∀(i:Nat) (v:V),σ[i]?=some (some v)->σ2[i]?=some (some v))/\Q σ2 H2
theorem xT {Y:Cx} {wi:TI} {g:TG} {tc:TT} {te:TE} {s:Hv} {D:Addr} {ys:List V} {its:List Ht} {k:Nat} {Nx:List V->Hp->Prop} (Pv:Y.calm=true) (RF:∀e s,¬Y.xe e s)
  (hi:PI Y t2 i2 wi) (hg:PG Y t2 g) (hc:SA Y f2 tc) (he:PE Y elt te) (kg:ux σ g) (I:Inv Y pins σ H s) (dL:D≠Y.env.locals) (dF:D∉Y.fs) (dS:Y.s₀.heap.objs.size<=D) (dC:∀x c,Y.env.cells.lookup x=some c->c≠D)
  (dP:∀p∈Y.pn++pins,p.1≠D) (dn:H D=none) (dg:s.heap.get? D=some (P6 its k)) (vy:Pm ys its) (h:Xz wi g tc te σ ys Nx H) (hs:∀x,HY i2 Y.env x=pure x) {α:Type} {r:Sem α} {Q:α->Hv->Prop} {E:Ht->Hv->Prop}
  (fin:∀s' Qj its' k' H',Inv Y pins σ H' s'->H' D=none->s'.heap.get? D=some (P6 its' k')->Pm Qj its'->Nx Qj H'->IJ (IB Y.prog Y.w) Y.A r Q E s') :
  IJ (IB Y.prog Y.w) Y.A (do { let x <- eval i2 Y.env;Le i2.pos;let x <- HY i2 Y.env x;let _ <- runOwn (.compStart (two_of elt t1 i1 t2 i2 f1 f2 scope pos) 1 (<- Lg [x] (NJ x)) (.ref D) Y.env) Y.env;r }) Q E s:=by
 have nc:∀(its:List Ht) (k:Nat) v,(P6 its k).data≠.cell v:=λits k v z=>by have z':Nw _ _=Lh v:=z;cases z'
 have RO:∀{H':Hp} {s':Hv} {its':List Ht} {k':Nat},Inv Y pins σ H' s'->H' D=none->s'.heap.get? D=some (P6 its' k')->Inv Y (pins++[(D,P6 its' k')]) σ H' s':=λI' n' g'=>I'.pins_of λp hp=>by
  rcases List.mem_append.mp hp with hp | hp
  ·exact I'.pin p (Hr _ hp)
  ·rw[List.mem_singleton.mp hp];exact ⟨g',n',dL,dF,nc _ _⟩
 refine Hq (Ih (hi _ s σ H _ (RO I dn dg) h) (λv s1 h1=>?_) λe s z=>(RF e s z).elim)
 refine Hq (Jd ?_)
 rw[hs]
 refine Hq (Hw (Hq (Jc (Ih h1 (λTb s2 h2=>?_) λe s z=>(RF e s z).elim))))
 obtain ⟨it,fp,tn,J,H2,rfl,I2,T,Pj,Up,W,⟨m0,w0⟩,turn⟩:=h2
 have Rk:D∉fp:=λz=>(Up D z).2.2.2.2.2 (D,P6 its k) (Hr _ (Hr _ Hx)) rfl
 have Q7:∀{H':Hp} {its':List Ht} {k':Nat},(∀b∈fp,H' b=none)->∀b∈fp,eU Y (pins++[(D,P6 its' k')]) H' b:=λhn b hb=>by
  obtain ⟨_,a1,a2,a3,a4,a5⟩:=Up b hb
  refine ⟨hn b hb,a1,a2,a3,a4,λp hp z=>?_⟩
  rcases List.mem_append.mp hp with hp | hp
  ·exact a5 p (HR _ hp) z
  ·rcases List.mem_append.mp hp with hp | hp
   ·exact a5 p (Hr _ (HR _ hp)) z
   ·rw[List.mem_singleton.mp hp] at z;have z:D=b:=z;exact Rk (z▸hb)
 have d2:=I2.pin (D,P6 its k) (Hr _ (Hr _ Hx))
 have loop:KG (IB Y.prog Y.w) Y.A (.compLoop (two_of elt t1 i1 t2 i2 f1 f2 scope pos) 1 (.ref it) (.ref D) Y.env) (λres s'=>match res with | .ok _=>IJ (IB Y.prog Y.w) Y.A r Q E s' | .error e=>cameBackBy (IB Y.prog Y.w) Y.A Y.env E e s') s2:=by
  refine Lb rfl (λn s'=>∃j zs its k H',Inv Y pins σ H' s'/\tn j s'.heap/\(∀b∈fp,H' b=none)/\H' D=none/\s'.heap.get? D=some (P6 its k)/\Pm zs its/\W j n zs H') ?_ m0 ⟨0,ys,its,k,H2,I2.unpinned,Pj,λb hb=>(Up b hb).1,d2.2.1,d2.1,vy,w0⟩
  rintro n s5 ⟨j,zs,QU,k5,H5,I5,Py,Ra,d5,o5,v5,w5⟩
  refine LF (m:=LJ (two_of elt t1 i1 t2 i2 f1 f2 scope pos) 1 (.ref it) (.ref D) Y.env) ?_
  rw[xS]
  have Qr:=RO I5 d5 o5
  refine Hq (Jd (Hq ?_))
  rcases turn j n zs H5 w5 with ⟨stop,qn⟩ | ⟨go,hz,N2,hN,step⟩
  ·refine PF (T.done Y rfl rfl rfl Pv j _ s5 _ H5 _ Qr (Q7 Ra) Py stop) λr s6 Pk=>?_
   obtain ⟨hr,I6⟩:=Pk
   subst hr
   have d6:=I6.pin (D,P6 QU k5) (Hr _ (Hr _ Hx))
   exact Hw (fin s6 zs QU k5 H5 I6.unpinned d5 d6.1 v5 qn)
  ·refine PF (T.item Y rfl rfl rfl Pv j _ s5 _ H5 _ Qr (Q7 Ra) Py go) λr s6 Pk=>?_
   obtain ⟨u,hr,h6⟩:=Pk
   subst hr
   refine Hq (PF h6 λ_ s7 Pk=>?_)
   obtain ⟨x,H7,I7,r7,y7,Qk,R7⟩:=Pk
   have R8:=I7.pinned (Q7 R7) (T.obj _ _ Qk)
   have P4:∀{σ':St} {H':Hp} {s':Hv},Inv Y ((pins++[(D,P6 QU k5)])++cw fp s7.heap) σ' H' s' ->
     (∀b∈fp,∀o,s7.heap.get? b=some o->s'.heap.get? b=some o)/\(∀b∈fp,H' b=none)/\H' D=none/\s'.heap.get? D=some (P6 QU k5):=by
    intro σ' H' s' I'
    have dd:=I'.pin (D,P6 QU k5) (Hr _ (HR _ (Hr _ Hx)))
    refine ⟨λb hb o e=>(I'.pin (b,o) (Hr _ (Hr _ (aQ hb e)))).1,λb hb=>?_,dd.2.1,dd.1⟩
    obtain ⟨o,e,d⟩:=T.obj _ _ Qk b hb
    exact (I'.pin (b,o) (Hr _ (Hr _ (aQ hb e)))).2.1
   have Mf:∀{σ2:St} {H8:Hp} {s8:Hv} {QQ:List V} {its':List Ht} {k':Nat},Inv Y pins σ2 H8 s8->(σ2.length=σ.length/\∀(i:Nat) (v:V),σ[i]?=some (some v)->σ2[i]?=some (some v))->(∀b∈fp,∀o,s7.heap.get? b=some o->s8.heap.get? b=some o)->(∀b∈fp,H8 b=none) ->
     H8 D=none->s8.heap.get? D=some (P6 its' k')->Pm QQ its'->N2 QQ H8->∃m,m<n/\∃j zs its k H',Inv Y pins σ H' s8/\tn j s8.heap/\(∀b∈fp,H' b=none)/\H' D=none/\s8.heap.get? D=some (P6 its k)/\Pm zs its/\W j m zs H':=by
    intro σ2 H8 s8 QQ its' k' I8 kp fk fn dn' dg' vv nx
    obtain ⟨m',hm,w8⟩:=hN QQ H8 nx
    exact ⟨m',hm,j+1,QQ,its',k',H8,I8.weak kp.1.symm kp.2,T.keep _ _ _ Qk fk,fn,dn',dg',vv,w8⟩
   refine Hq (Ih (hg _ s7 _ H7 x u _ R8 r7 (kg x H7 _ (step x H7 y7))) (λ_ s8 Pk=>?_) λe s z=>(RF e s z).elim)
   obtain ⟨σ8,H8,I8,RX,q8⟩:=Pk
   refine Hq (Ih (hc _ s8 σ8 H8 _ I8 q8) (λok s9 Pk=>?_) λe s z=>(RF e s z).elim)
   obtain ⟨H9,I9,q9⟩:=Pk
   cases ok with
   | false=>
    obtain ⟨p1,p2,p3,p4⟩:=P4 I9
    exact Hw ⟨rfl,Mf I9.unpinned.unpinned RX p1 p2 p3 p4 v5 q9⟩
   | true=>
    have q9:te σ8 H9 λv H6=>N2 (zs++[v]) H6:=q9
    refine Hq (Hq (Ih (he _ s9 σ8 H9 _ I9 q9) (λy Qu Pk=>?_) λe s z=>(RF e s z).elim))
    obtain ⟨v,RD,Ry,rv,nx⟩:=Pk
    obtain ⟨p1,p2,p3,p4⟩:=P4 Ry
    have VH:=v5.length
    refine Hq (LC F.slot_list_append ⟨_,p4,rfl⟩ F.entry_list_append (F.args_list_append_2 _ _) (LD D QU.toArray k5 y (by rw[HD];lia)) ⟨p4,?_⟩)
    have SM:=LU p4 (·.push y)
    rw[show QU.toArray.push y=(QU++[y]).toArray by simp] at SM
    have RJ:Inv Y pins σ8 RD { Qu with heap:=Qu.heap.update D (Jt (·.push y)) }:=
     Ry.unpinned.unpinned.turned (t':=Qu.toks) (λb o hb e=>(JA Qu.heap (Jt (·.push y)) (Ka hb)).trans e) p3 dL (.inr dS) dC dP
    refine Hw (Hw ⟨rfl,Mf (its':=QU++[y]) RJ RX (λb hb o e=>?_) p2 p3 SM (v5.append (.cons rv .nil)) nx⟩)
    exact (JA Qu.heap (Jt (·.push y)) (λz:D=b=>Rk (z▸hb))).trans (p1 b hb o e)
 refine Hq (wpAny_runOwn (uw (A:=Y.A) loop (T.self _ 0 _ _ _ Pj loop)))
end
section
variable {X:Cx}
def uy (wi:TI) (n:Nat) (ix:List Nat) (g:TG) (tc:TT) (RA:TI) (g2:TG) (Tt:TT) (te:TE):TE:=fun σ H Q=>wi σ H λJ H1=>∃W:Nat->Nat->List V->Hp->Prop,(∃m,W 0 m [] H1)/\∀i m ys H2,W i m ys H2 ->
 (J.stop i H2/\ys.length<=Ii/\∀D,H2 D=none->Q (.ref D) (upd H2 D (.lst ys))) \/
 (J.go i H2/\∃Nx:List V->Hp->Prop,(∀Qj H',Nx Qj H'->∃m',m'<m/\W (i+1) m' Qj H') /\
  ∀x H3,J.yld i H2 x H3->g x (capt n ix σ) H3 fun σ2 H4=>tc σ2 H4 λb H5=>if b=true then Xz RA g2 Tt te σ2 ys Nx H5 else Nx ys H5)
def n8 (n:Nat) (ix:List Nat) (g g2:TG):Prop:=∀x σ H Q,g x (capt n ix σ) H Q->g x (capt n ix σ) H fun σ2 H2=>((σ2.length=(capt n ix σ).length/\∀(i:Nat) (v:V),(capt n ix σ)[i]?=some (some v)->σ2[i]?=some (some v))/\ux σ2 g2)/\Q σ2 H2
theorem kZ {n:Nat} {a b:Nat} (ha:a<n) (hb:b<n) (hab:a≠b):n8 n ix (bB a) (bB b):=λx σ H Q q=>by
 obtain ⟨kp,q⟩:=aO ha x σ H Q q
 refine ⟨⟨kp,λy H' Q' q'=>⟨⟨by simp,λi v e=>?_⟩,q'⟩⟩,q⟩
 by_cases hi:b=i
 ·subst hi
  rw[Ia hab] at e
  exact (ck hb e).elim
 ·rw[Ia hi];exact e
theorem uz {elt t1 i1 t2 i2:Expr} {f1 f2:List Expr} {scope:JX} {pos:Pos} {tg cs:List Str} {wi RA:TI} {g g2:TG} {tc Tt:TT} {te:TE} (S:aV X scope tg cs ix) (Pv:X.calm=true) (kg:n8 tg.length ix g g2)
    (hi:PI X t1 i1 wi) (hg:∀C fp s H,PG (ak X scope (tg++cs) C fp s H) t1 g) (hc:∀C fp s H,SA (ak X scope (tg++cs) C fp s H) f1 tc) (RM:∀C fp s H,PI (ak X scope (tg++cs) C fp s H) t2 i2 RA) (Tu:∀C fp s H,PG (ak X scope (tg++cs) C fp s H) t2 g2) (hc2:∀C fp s H,SA (ak X scope (tg++cs) C fp s H) f2 Tt) (he:∀C fp s H,PE (ak X scope (tg++cs) C fp s H) elt te)
    (hs:∀x,HY i1 X.env x=pure x:=by intro _;rfl) (RU:∀(e:Env) x,HY i2 e x=pure x:=by intro _ _;rfl):PE X (two_of elt t1 i1 t2 i2 f1 f2 scope pos) (uy wi tg.length ix g tc RA g2 Tt te):=by
  intro pins s σ H Q I h
  rw[eval_ListComp]
  refine JT (use:=none) (cl:=bu X.env scope.names []) rfl hs (dm λn hn=>I.ok.has n (S.out n hn)) S.kind S.names ?_
  refine Ih (hi pins s σ H _ I h) (λv s1 h1=>Ih h1 (λTb s2 h2=>?_) λ_ _ e=>e) λ_ _ e=>e
  obtain ⟨it,fp,tn,J,H2,rfl,I2,T,Pj,Uq,W,⟨m0,w0⟩,turn⟩:=h2
  refine IU (K2 S.nocell (by intro y hy;simp at hy) (λh1 QB Qx=>?_) S.kind)
  dsimp only at QB Qx ⊢
  generalize hP:s2.heap.push { cls:=.type "list",dict:=none,data:=.seq ([]:List Ht).toArray }=P2 at QB Qx ⊢
  have RW:P2.objs.size=s2.heap.objs.size+1:=by rw[<- hP,Kl]
  have hDC:s2.heap.objs.size≠P2.objs.size:=by rw[RW];exact IE (KB _)
  have Qf:s2.heap.objs.size<=P2.objs.size:=by rw[RW];exact KN _
  generalize Wn:P2.objs.size=C at *
  have old:∀b o,s2.heap.get? b=some o->h1.get? b=some o:=λb o e=>Qx.extBut b o (IE (HS (HM e) Qf)) (Hs _ (hP▸Hs _ e))
  generalize PU:s2.heap.objs.size=D at *
  have SB:h1.get? D=some { cls:=.type "list",data:=.seq ([]:List Ht).toArray 0 }:=Qx.extBut _ _ hDC (Hs _ (hP▸PU▸HP _ rfl))
  have nC:H2 C=none:=I2.hok.fresh (by rw[PU];exact Qf)
  have nD:H2 D=none:=I2.hok.fresh (by rw[PU];exact HA _)
  have fo:∀b∈fp,∃o,s2.heap.get? b=some o:=λb hb=>let ⟨o,e,_⟩:=T.obj _ _ Pj b hb;⟨o,e⟩
  have Rk:D∉fp:=λz=>by
    obtain ⟨o,e⟩:=fo D z
    have:=HM e
    rw[PU] at this
    exact absurd this (Jb _)
  have R6:D∉QS X.stack:=λz=>by
    rcases List.mem_cons.mp (I2.stkSub D z) with e | e
    · have:=I2.lt
      rw[<- e,PU] at this
      exact absurd this (Jb _)
    · exact I2.nofs (by rw[PU];exact HA _) e
  have SC:∀x c,(bu X.env scope.names []).lookup x=some c->c≠D:=λx c e=>by
    rcases cT (II e) with h | h
    · cases h
    · exact (I2.fpOk (H':=H2) (b:=D) (by rw[PU];exact HA _) nD).2.2.2.2.1 x c h
  -- QG QZ context
  have Te:∀s4:Hv,s4={ s2 with heap:=h1,toks:=s2.toks+([]:List (Str×Ht)).length }->Inv (ak X scope (tg++cs) C fp s2 H2) [] (capt tg.length ix σ) H2 s4:=by
    rintro s4 rfl
    exact fY S I2 Uq fo (by rw[PU];exact Qf) old (by simpa using QB) rfl I2.bare nC
  -- QG loop
  have loop:∀s4:Hv,s4={ s2 with heap:=h1,toks:=s2.toks+([]:List (Str×Ht)).length } ->
      KG (IB X.prog X.w) X.A (.compLoop (two_of elt t1 i1 t2 i2 f1 f2 scope pos) 0 (.ref it) (.ref D) (Kn scope (bu X.env scope.names []) C X.env)) (N9 (IB X.prog X.w) X.A X.xe none (EP X pins σ Q) (.ref D) C) s4:=by
    intro s4 e4
    refine Lb rfl (λn s'=>∃i ys its k H',Inv (ak X scope (tg++cs) C fp s2 H2) [] (capt tg.length ix σ) H' s'/\tn i s'.heap/\(∀b∈fp,H' b=none)/\H' D=none/\s'.heap.get? D=some (P6 its k)/\Pm ys its/\W i n ys H')
      ?_ m0 ⟨0,[],[],0,H2,Te s4 e4,?_,λb hb=>(Uq b hb).1,nD,by rw[e4];exact SB,.nil,w0⟩
    · rintro n s5 ⟨i,ys,its,k,H5,I5,Py,Ra,d5,o5,v5,w5⟩
      show IJ _ X.A ((LJ (two_of elt t1 i1 t2 i2 f1 f2 scope pos) 0 (.ref it) (.ref D) (Kn scope (bu X.env scope.names []) C X.env)).onRaise (λx=>do Nb x (Kn scope (bu X.env scope.names []) C X.env);KO x)) _ _ s5
      refine LF ?_
      rw[uv]
      have Qr:Inv (ak X scope (tg++cs) C fp s2 H2) [(D,(P6 its k))] (capt tg.length ix σ) H5 s5:=I5.pins_of λp hp=>by
        have e:p=(D,(P6 its k)):=by simpa using hp
        subst e
        exact ⟨o5,d5,hDC,R6,λv z=>by have z':Nw _ _=Lh v:=z;cases z'⟩
      have Ro:∀{H':Hp},(∀b∈fp,H' b=none)->∀b∈fp,eU (ak X scope (tg++cs) C fp s2 H2) [(D,(P6 its k))] H' b:=λhn b hb=>
        ⟨hn b hb,(I5.ok.exf b hb).1,λz=>I5.ok.exfs b hb z,.inl hb,(I5.ok.exf b hb).2,λp hp z=>by
          have hp:p∈([]:List (Addr×Obj))++[(D,(P6 its k))]:=hp
          have e:p=(D,(P6 its k)):=by simpa using hp
          subst e
          have z:D=b:=z
          exact Rk (z▸hb)⟩
      refine Hq (Jd (Hq ?_))
      rcases turn i n ys H5 w5 with ⟨stop,hz,qn⟩ | ⟨go,Nx,hN,step⟩
      · refine PF (T.done (ak X scope (tg++cs) C fp s2 H2) rfl rfl rfl Pv i _ s5 _ H5 _ Qr (Ro Ra) Py stop) λr s6 Pk=>?_
        obtain ⟨hr,I6⟩:=Pk
        subst hr
        refine Hw ?_
        obtain ⟨mC,Rp,_⟩:=id I6.loc
        refine ⟨mC,Rp,λh' sb=>?_⟩
        have IX:Inv X pins σ H5 s6:=I2.call' (ch:=fp) I6.os I6.base I6.hok I6.bare λb hb=>let ⟨_,a1,_,a3,a4,a5⟩:=Uq b hb;⟨a3,a1,a4,a5⟩
        obtain ⟨_,c1,_,c3,c4,c5⟩:=I2.fpOk (H':=H5) (b:=C) (by rw[PU];exact Qf) I6.free
        have VY:Inv X pins σ H5 { s6 with heap:=h' }:=IX.turned (t':=s6.toks) (λb o hb e=>(sb.2 b hb).trans e) I6.free c1 c3 c4 c5
        obtain ⟨_,b1,_,b3,b4,b5⟩:=I2.fpOk (H':=H5) (b:=D) (by rw[PU];exact HA _) d5
        have gD:h'.get? D=some (P6 its k):=(sb.2 D hDC).trans (I6.pin (D,(P6 its k)) (Hr _ Hx)).1
        exact ⟨.ref D,upd H5 D (.lst ys),VY.track d5 (by rw[<- PU];exact I2.sz) b1 b4 b5 ⟨hz,its,k,v5,gD⟩,rfl,qn D d5⟩
      · refine PF (T.item (ak X scope (tg++cs) C fp s2 H2) rfl rfl rfl Pv i _ s5 _ H5 _ Qr (Ro Ra) Py go) λr s6 Pk=>?_
        obtain ⟨u,hr,h6⟩:=Pk
        subst hr
        refine Hq (PF h6 λ_ s7 Pk=>?_)
        obtain ⟨x,H7,I7,r7,y7,Qk,R7⟩:=Pk
        have R8:=I7.pinned (Ro R7) (T.obj _ _ Qk)
        -- QG next turn
        have Mf:∀{σ2:St} {H8:Hp} {s8:Hv} {Qj:List V} {its':List Ht} {k':Nat} , Inv (ak X scope (tg++cs) C fp s2 H2) [] σ2 H8 s8->(σ2.length=(capt tg.length ix σ).length/\∀(i:Nat) (v:V),(capt tg.length ix σ)[i]?=some (some v)->σ2[i]?=some (some v)) ->
            (∀b∈fp,∀o,s7.heap.get? b=some o->s8.heap.get? b=some o)->(∀b∈fp,H8 b=none)->H8 D=none->s8.heap.get? D=some (P6 its' k')->Pm Qj its'->Nx Qj H8 ->
            ∃m,m<n/\∃i ys its k H',Inv (ak X scope (tg++cs) C fp s2 H2) [] (capt tg.length ix σ) H' s8/\tn i s8.heap/\(∀b∈fp,H' b=none)/\H' D=none/\s8.heap.get? D=some (P6 its k)/\Pm ys its/\W i m ys H':=by
          intro σ2 H8 s8 Qj its' k' I8 kp fk fn dn dg vv nx
          obtain ⟨m',hm,w8⟩:=hN Qj H8 nx
          exact ⟨m',hm,i+1,Qj,its',k',H8,I8.weak kp.1.symm kp.2,T.keep _ _ _ Qk fk,fn,dn,dg,vv,w8⟩
        refine Hq (Ih (hg C fp s2 H2 _ s7 _ H7 x u _ R8 r7 (kg x σ H7 _ (step x H7 y7))) (λ_ s8 Pk=>?_) λ_ _ z=>z.elim)
        obtain ⟨σ8,H8,I8,⟨RX,kb8⟩,q8⟩:=Pk
        refine Hq (Ih (hc C fp s2 H2 _ s8 σ8 H8 _ I8 q8) (λok s9 Pk=>?_) λ_ _ z=>z.elim)
        obtain ⟨H9,I9,q9⟩:=Pk
        have P4:∀{σ':St} {H':Hp} {s':Hv},Inv (ak X scope (tg++cs) C fp s2 H2) ([(D,(P6 its k))]++cw fp s7.heap) σ' H' s' ->
            (∀b∈fp,∀o,s7.heap.get? b=some o->s'.heap.get? b=some o)/\(∀b∈fp,H' b=none)/\H' D=none/\s'.heap.get? D=some (P6 its k):=by
          intro σ' H' s' I'
          refine ⟨λb hb o e=>(I'.pin (b,o) (Hr _ (Hr _ (aQ hb e)))).1,λb hb=>?_,(I'.pin (D,(P6 its k)) (Hr _ (HR _ Hx))).2.1,(I'.pin (D,(P6 its k)) (Hr _ (HR _ Hx))).1⟩
          obtain ⟨o,e,d⟩:=T.obj _ _ Qk b hb
          exact (I'.pin (b,o) (Hr _ (Hr _ (aQ hb e)))).2.1
        cases ok with
        | false=>
          obtain ⟨p1,p2,p3,p4⟩:=P4 I9
          exact Hw ⟨rfl,Mf (I9.pins_of λp hp=>nomatch hp) RX p1 p2 p3 p4 v5 q9⟩
        | true=>
          have q9:Xz RA g2 Tt te σ8 ys Nx H9:=q9
          obtain ⟨p1,p2,p3,p4⟩:=P4 I9
          have XA:Inv (ak X scope (tg++cs) C fp s2 H2) (cw fp s7.heap) σ8 H9 s9:=I9.pins_of λp hp=>I9.pin p (Hr _ (Hr _ hp))
          refine xT (Y:=ak X scope (tg++cs) C fp s2 H2) Pv (λ_ _ z=>z) (RM C fp s2 H2) (Tu C fp s2 H2) (hc2 C fp s2 H2) (he C fp s2 H2) kb8 XA hDC R6 (by show s2.heap.objs.size<=D;rw[PU];exact HA _) SC (λp hp z=>?_) p3 p4 v5 q9 (RU _) λV2 zs its' k' H12 RJ XB XC XD XE=>?_
          · have hp:p∈cw fp s7.heap:=hp
            exact Rk (z▸(fw hp).1)
          · have pn:=λ(b:Addr) (hb:b∈fp) (o:Obj) (e:s7.heap.get? b=some o)=>RJ.pin (b,o) (Hr _ (aQ hb e))
            refine Hw ⟨rfl,Mf (its':=its') (RJ.pins_of λp hp=>nomatch hp) RX (λb hb o e=>(pn b hb o e).1) (λb hb=>?_) XB XC XD XE⟩
            obtain ⟨o,e,_⟩:=T.obj _ _ Qk b hb
            exact (pn b hb o e).2.1
    · rw[e4];exact T.keep _ _ _ Pj λb _ o e=>old b o e
  exact Lv (loop _ rfl) (T.self _ 0 _ _ _ (T.keep _ _ _ Pj λb _ o e=>old b o e) (loop _ rfl))
end
end L2
namespace VL
open PySem L2 PySem.W
section
variable {K:Ho} {H H4 H0:Hp} {Z:AP} {σ σ4 σ5:St} {S S4:List Sl}
def Hn:Sl->Sl->Sl
 | .no,_=>.no
 | _,b=>b
def Rh (S4 S:List Sl):List Sl:=List.zipWith Hn S4 S
theorem jc {i:Nat} {s:Sl} (h:(Rh S4 S)[i]?=some s):s=.no\/S[i]?=some s/\∃t,S4[i]?=some t/\t≠.no:=by
 unfold Rh at h
 rw[List.getElem?_zipWith] at h
 cases h1:S4[i]? with
 | none=>rw[h1] at h;cases h
 | some t=>
  cases h2:S[i]? with
  | none=>rw[h1,h2] at h;cases h
  | some u=>
   rw[h1,h2] at h
   cases t with
   | no=>cases h;exact .inl rfl
   | val _ | fre _ | own _ | pen _ _ | odi _ _ | obj _=>cases h;exact .inr ⟨rfl,_,rfl,λz=>nomatch z⟩
theorem OK.forget (k4:OK K H0 Z σ4 H4 S4) (k:OK K H0 Z σ5 H S) (st:Step Z σ4 S4 H4 σ5 S H) (hl:σ5.length=σ4.length) (hσ:∀(i:Nat) (v:V),σ4[i]?=some (some v)->σ5[i]?=some (some v)) :
  OK K H0 Z σ4 H (Rh S4 S)/\Step Z σ4 S4 H4 σ4 (Rh S4 S) H/\∀a,NM Z σ5 S a->NM Z σ4 (Rh S4 S) a:=by
 have at4:∀{i:Nat} {t:Sl},S4[i]?=some t->t≠.no->∃v,σ4[i]?=some (some v):=λ{i t} e hn=>by
  obtain ⟨o,h1,q⟩:=k4.ownAt e
  cases t with
  | no=>exact absurd rfl hn
  | val _=>obtain ⟨v,rfl,_⟩:=q;exact ⟨v,h1⟩
  | fre _=>obtain ⟨v,rfl,_⟩:=q;exact ⟨v,h1⟩
  | own _=>obtain ⟨a,_,rfl,_⟩:=q;exact ⟨_,h1⟩
  | pen _ _=>obtain ⟨a,rfl,_⟩:=q;exact ⟨_,h1⟩
  | odi _ _=>obtain ⟨a,_,rfl,_⟩:=q;exact ⟨_,h1⟩
  | obj _=>obtain ⟨a,rfl,_⟩:=q;exact ⟨_,h1⟩
 have mo:∀a,Mo Z σ4 (Rh S4 S) a->Mo Z σ5 S a:=λa z=>by
  rcases z with ⟨i,s,h1,h2,h3⟩ | z
  ·rcases jc h1 with rfl | ⟨h4,_⟩
   ·cases h2
   ·exact .inl ⟨i,s,h4,h2,hσ i _ h3⟩
  ·exact .inr z
 have nm:∀a,NM Z σ5 S a->NM Z σ4 (Rh S4 S) a:=λa n z=>n (mo a z)
 have hm:∀a,NM Z σ5 S a->H a≠none->NM Z σ4 (Rh S4 S) a/\H a=H a:=λa n _=>⟨nm a n,rfl⟩
 refine ⟨⟨?_,λi o s h1 h2=>?_,λi j a s t h1 h2 m1 m2 h3 h4=>?_,k.dom,k.zl,λi s a h1 h2 h3=>?_⟩,⟨λa n e=>⟨(st.1 a n e).1,nm a (st.1 a n e).2⟩,st.2.1,st.2.2⟩,nm⟩
 ·have:=k4.len;have:=k.len
  unfold Rh
  rw[List.length_zipWith];lia
 ·rcases jc h2 with rfl | ⟨h4,t,h5,h6⟩
  ·trivial
  ·obtain ⟨v,e⟩:=at4 h5 h6
   rw[e] at h1;cases h1
   have q:=k.at_ i _ s (hσ i v e) h4
   cases s with
   | no=>trivial
   | val d=>obtain ⟨v,e,r⟩:=q;exact ⟨v,e,r.mono hm λ_ x=>x⟩
   | fre d=>obtain ⟨v,e,r⟩:=q;exact ⟨v,e,r.mono hm λ_ x=>x⟩
   | own ds=>obtain ⟨a,vs,e,e',e0,r⟩:=q;exact ⟨a,vs,e,e',e0,r.mono hm λ_ x=>x⟩
   | pen ad ns=>exact q
   | odi ks ds=>obtain ⟨a,vs,e,e',e0,ek,r⟩:=q;exact ⟨a,vs,e,e',e0,⟨ek.1,ek.2.mono hm λ_ x=>x⟩,r.mono hm λ_ x=>x⟩
   | obj k=>obtain ⟨a,e,e0,r⟩:=q;exact ⟨a,e,e0,k.mono hm rfl r⟩
 ·rcases jc h1 with rfl | ⟨h1,_⟩
  ·cases m1
  ·rcases jc h2 with rfl | ⟨h2,_⟩
   ·cases m2
   ·exact k.inj i j a s t h1 h2 m1 m2 (hσ i _ h3) (hσ j _ h4)
 ·rcases jc h1 with rfl | ⟨h1,_⟩
  ·cases h2
  ·exact k.nz i s a h1 h2 (hσ i _ h3)
end
section
variable {K:Ho} {X:Cx} {elt t1 i1 t2 i2:Expr} {f1 f2:List Expr} {scope:JX} {pos:Pos}
def uA (vi:PQ) (n:Nat) (ix:List Nat) (vg:VG) (vt:Qo) (Rc:PQ) (Ss:VG) (Re:Qo) (ve:VT):PQ:=λS Q=>vi S λds S1=>ds.length<=1000/\∃Iv:Nat->List D->List Sl->Prop,Iv 0 [] S1 /\
 (∀i d ys S2,ds[i]?=some d->Iv i ys S2->vg d (aS n ix S2) λS3=>vt S3 λb S4=>if b=true then (Rc S4 λes S5=>es.length<=1000/\∃Jv:Nat->List D->List Sl->Prop,Jv 0 ys S5 /\
  (∀j e zs S6,es[j]?=some e->Jv j zs S6->Ss e S6 λS7=>Re S7 λb2 S8=>if b2=true then ve S8 λr S9=>∃x,r=.d x/\Jv (j+1) (zs++[x]) (Rh S6 S9) else Jv (j+1) zs (Rh S6 S8))/\∀zs S6,Jv es.length zs S6->Iv (i+1) zs (Pu n ix S2 S6))
  else Iv (i+1) ys (Pu n ix S2 S4)) /\
 ∀ys S2,Iv ds.length ys S2->Q ys S2
theorem uB {tg cs:List Str} {wi RA:TI} {vi Rc:PQ} {g g2:TG} {vg Ss:VG} {tc Tt:TT} {vt Re:Qo} {te:TE} {ve:VT} (Sc:aV X scope tg cs ix) (Pv:X.calm=true) (kg:n8 tg.length ix g g2) (hnd:ix.Nodup)
  (hi:VI K X t1 i1 wi vi) (hg:∀C fp s H,Sa K (ak X scope (tg++cs) C fp s H) t1 g vg) (hc:∀C fp s H,SO K (ak X scope (tg++cs) C fp s H) f1 tc vt) (RM:∀C fp s H,VI K (ak X scope (tg++cs) C fp s H) t2 i2 RA Rc)
  (Tu:∀C fp s H,Sa K (ak X scope (tg++cs) C fp s H) t2 g2 Ss) (hc2:∀C fp s H,SO K (ak X scope (tg++cs) C fp s H) f2 Tt Re) (he:∀C fp s H,VE K (ak X scope (tg++cs) C fp s H) true elt te ve)
  (hs:∀x,HY i1 X.env x=pure x:=by intro _;rfl) (RU:∀(e:Env) x,HY i2 e x=pure x:=by intro _ _;rfl):VN K X (two_of elt t1 i1 t2 i2 f1 f2 scope pos) (uy wi tg.length ix g tc RA g2 Tt te) (uA vi tg.length ix vg vt Rc Ss Re ve):=by
 have sg:RL K g vg:=(hg 0 [] X.s₀ (λ_=>none)).snd
 have sc:Rg K tc vt:=(hc 0 [] X.s₀ (λ_=>none)).snd
 have XF:Sb K RA Rc:=(RM 0 [] X.s₀ (λ_=>none)).snd
 have sg2:RL K g2 Ss:=(Tu 0 [] X.s₀ (λ_=>none)).snd
 have sc2:Rg K Tt Re:=(hc2 0 [] X.s₀ (λ_=>none)).snd
 have se:Qm K true te ve:=(he 0 [] X.s₀ (λ_=>none)).snd
 have hsz:=IL
 refine ⟨uz Sc Pv kg hi.pi (λC fp s H=>(hg C fp s H).pg) (λC fp s H=>(hc C fp s H).pe) (λC fp s H=>(RM C fp s H).pi) (λC fp s H=>(Tu C fp s H).pg) (λC fp s H=>(hc2 C fp s H).pe) (λC fp s H=>(he C fp s H).pe) hs RU,λH0 Z σ H S Q C k t hq=>?_⟩
 refine hi.snd H0 Z σ H S _ _ k t λJ ds H1 S1 k1 Pq gd Pk=>?_
 obtain ⟨hl,Iv,i0,hs,hd⟩:=Pk
 refine ⟨λi m ys H=>m=ds.length-i/\i<=ds.length/\ys.length<=1000*i/\∃S2 zs,OK K H0 Z σ H S2/\Step Z σ S1 H1 σ S2 H/\Pi K (NM Z σ S2) (Fr H0) H ys zs/\Iv i zs S2,⟨ds.length,by simp,JV _,HA _,S1,[],k1,.refl,.nil,i0⟩,?_⟩
 rintro i m ys H2 ⟨rfl,hi,hy,S2,zs,k2,Pj,rz,p⟩
 obtain ⟨g1,U8,g3⟩:=gd σ S2 H2 (λ_=>k2.nm) Pj.1 i
 by_cases hlt:i<ds.length
 ·refine .inr ⟨g1 hlt,λQj H'=>Qj.length<=1000*(i+1)/\∃S' QQ,OK K H0 Z σ H' S'/\Step Z σ S1 H1 σ S' H'/\Pi K (NM Z σ S') (Fr H0) H' Qj QQ/\Iv (i+1) QQ S',λQj H' PH=>by obtain ⟨p1,p2⟩:=PH;exact ⟨ds.length-(i+1),by lia,rfl,hlt,p1,p2⟩,λx H3 y=>?_⟩
  obtain ⟨hgr,d,hd',rd⟩:=U8 x H3 y hlt
  replace k2:=k2.grow hgr
  replace Pj:=Pj.trans (.grow hgr)
  replace rz:=rz.step (.grow hgr)
  have kc:=k2.capt (n:=tg.length) hnd
  have To:Rep K (NM (QJ Z ix σ S2) (L2.capt tg.length ix σ) (aS tg.length ix S2)) Pz H3 x d:=rd.mono (λa n _=>⟨λz=>n (eI.mp z),rfl⟩) λ_ x=>x
  have XG:Pi K (NM (QJ Z ix σ S2) (L2.capt tg.length ix σ) (aS tg.length ix S2)) (Fr H0) H3 ys zs:=rz.mono (λa n _=>⟨λz=>n (eI.mp z),rfl⟩) λ_ x=>x
  have h1:=sg H0 _ _ H3 _ x d _ (fun σ4 H4=>∃S4,OK K H0 (QJ Z ix σ S2) σ4 H4 S4/\Step (QJ Z ix σ S2) (L2.capt tg.length ix σ) (aS tg.length ix S2) H3 σ4 S4 H4/\vt S4 λb S5=>if b=true then (Rc S5 λes S5=>es.length<=1000/\∃Jv:Nat->List D->List Sl->Prop,Jv 0 zs S5 /\
   (∀j e zs S6,es[j]?=some e->Jv j zs S6->Ss e S6 λS7=>Re S7 λb2 S8=>if b2=true then ve S8 λr S9=>∃x,r=.d x/\Jv (j+1) (zs++[x]) (Rh S6 S9) else Jv (j+1) zs (Rh S6 S8))/\∀zs S6,Jv es.length zs S6->Iv (i+1) zs (Pu tg.length ix S2 S6)) else Iv (i+1) zs (Pu tg.length ix S2 S5)) kc To (hs i d zs S2 hd' p) (fun σ4 H4 S4 k4 PZ q4=>⟨S4,k4,PZ,q4⟩)
  have h2:=kg x σ H3 _ h1
  refine (hg 0 [] X.s₀ (λ_=>none)).mono _ _ _ _ _ ?_ h2
  rintro σ4 H4 ⟨⟨⟨Xi,SF⟩,kb⟩,S4,k4,PZ,q4⟩
  refine sc H0 _ σ4 H4 S4 _ _ k4 q4 λbb H5 S5 k5 Py q5=>?_
  cases bb with
  | false=>
   rw[if_neg Hy] at q5 ⊢
   obtain ⟨XH,sb,nb⟩:=k2.back k5 (PZ.trans Py) SF
   exact ⟨by lia,_,zs,XH,Pj.trans sb,rz.step sb,q5⟩
  | true=>
   rw[if_pos rfl] at q5 ⊢
   refine XF H0 _ σ4 H5 S5 _ _ k5 q5 λJ2 es H6 S6 k6 Sq gd2 Pk=>?_
   obtain ⟨U2,Jv,j0,hj,hd2⟩:=Pk
   have stA:=(PZ.trans Py).trans Sq
   refine ⟨λj m us H=>m=es.length-j/\j<=es.length/\us.length<=1000*i+j/\∃S7 ws,OK K H0 (QJ Z ix σ S2) σ4 H S7/\Step (QJ Z ix σ S2) σ4 S6 H6 σ4 S7 H/\Pi K (NM (QJ Z ix σ S2) σ4 S7) (Fr H0) H us ws/\Jv j ws S7,⟨es.length,by simp,JV _,by lia,S6,zs,k6,.refl,XG.step stA,j0⟩,?_⟩
   rintro j m us H7 ⟨rfl,hjl,hul,S7,ws,k7,Qk,SV,p7⟩
   obtain ⟨a1,a2,a3⟩:=gd2 σ4 S7 H7 (λ_=>k7.nm) Qk.1 j
   by_cases Ur:j<es.length
   ·refine .inr ⟨a1 Ur,by lia,λSR H'=>SR.length<=1000*i+(j+1)/\∃S' ws',OK K H0 (QJ Z ix σ S2) σ4 H' S'/\Step (QJ Z ix σ S2) σ4 S6 H6 σ4 S' H'/\Pi K (NM (QJ Z ix σ S2) σ4 S') (Fr H0) H' SR ws'/\Jv (j+1) ws' S',λSR H' PH=>by obtain ⟨p1,p2⟩:=PH;exact ⟨es.length-(j+1),by lia,rfl,Ur,p1,p2⟩,λx2 H8 y2=>?_⟩
    obtain ⟨hgr,e,he',re⟩:=a2 x2 H8 y2 Ur
    replace k7:=k7.grow hgr
    replace Qk:=Qk.trans (.grow hgr)
    replace SV:=SV.step (.grow hgr)
    have h3:=sg2 H0 _ σ4 H8 S7 x2 e _ (fun σ5 H9=>∃S9,OK K H0 (QJ Z ix σ S2) σ5 H9 S9/\Step (QJ Z ix σ S2) σ4 S7 H8 σ5 S9 H9/\Re S9 λb2 S8=>if b2=true then ve S8 λr S9=>∃x,r=.d x/\Jv (j+1) (ws++[x]) (Rh S7 S9) else Jv (j+1) ws (Rh S7 S8)) k7 re (hj j e ws S7 he' p7) (fun σ5 H9 S9 k9 Vd q9=>⟨S9,k9,Vd,q9⟩)
    refine (Tu 0 [] X.s₀ (λ_=>none)).mono _ _ _ _ _ ?_ (kb x2 H8 _ h3)
    rintro σ5 H9 ⟨⟨VH,hσ5⟩,S9,k9,Vd,q9⟩
    refine sc2 H0 _ σ5 H9 S9 _ _ k9 q9 λb2 RD XI k10 st10 TX=>?_
    cases b2 with
    | false=>
     rw[if_neg Hy] at TX ⊢
     obtain ⟨kf,sf,nf⟩:=k7.forget k10 (Vd.trans st10) VH hσ5
     exact ⟨by lia,_,ws,kf,Qk.trans sf,SV.step sf,TX⟩
    | true=>
     rw[if_pos rfl] at TX ⊢
     refine se H0 _ σ5 RD XI _ _ k10 TX λvv Vc r S11 k11 st11 rr Pk=>?_
     obtain ⟨xx,er,q11⟩:=Pk
     subst er
     obtain ⟨kf,sf,nf⟩:=k7.forget k11 ((Vd.trans st10).trans st11) VH hσ5
     exact ⟨by simp;lia,_,ws++[xx],kf,Qk.trans sf,Pi.append (SV.step sf) (.cons (Rep.mono (λa n _=>⟨nf a n,rfl⟩) (λ_ x=>x rfl) rr) .nil),q11⟩
   ·have e:j=es.length:=by lia
    obtain ⟨XH,sb,nb⟩:=k2.back k7 (stA.trans Qk) SF
    exact .inl ⟨a3 e,by lia,_,ws,XH,Pj.trans sb,SV.mono (λa n _=>⟨nb a n,rfl⟩) λ_ x=>x,hd2 ws S7 (by rw[<- e];exact p7)⟩
 ·have e:i=ds.length:=by lia
  refine .inl ⟨g3 e,by lia,λl hp=>?_⟩
  exact hq l ys zs H2 _ S2 k2 (Pq.trans Pj) hp (aG hp) aw (bC hp (rz.mono (λ_ n _=>⟨n,rfl⟩) λ_ x _=>x)) (hd zs S2 (by rw[<- e];exact p))
end
end VL
end
section
namespace VL
open PySem L2 PySem.W
section
variable {va vb:VT} {vn:PQ} {S:List Sl} {Q:VR->List Sl->Prop} {i:Nat}
def C7 (n:Int) (ra:VR) (Q:VR->List Sl->Prop):VR->List Sl->Prop:=λrb S2=>∃kvs ms i,get S2 ra=some (dc kvs)/\get S2 rb=some (kT ms)/\(PJ kvs ms).getD (.int n)=.int i/\Q (.d (.int i)) S2
def Gm (n:Int) (vb:VT) (Q:VR->List Sl->Prop):VR->List Sl->Prop:=λra S1=>(∃kvs,get S1 ra=some (dc kvs))/\vb S1 (C7 n ra Q)
theorem C8 {n:Int} (h:va S (Gm n vb Q)):Aj n va vb S Q:=h
theorem C9 {n:Int} {ra:VR} (e:get S ra=some (dc kvs)) (h:vb S (C7 n ra Q)):Gm n vb Q ra S:=⟨⟨kvs,e⟩,h⟩
theorem Da {n:Int} {ra rb:VR} {i:Int} (e:get S ra=some (dc kvs)) (e2:get S rb=some (kT ms)) (e3:(PJ kvs ms).getD (.int n)=.int i) (h:Q (.d (.int i)) S):C7 n ra Q rb S:=⟨kvs,ms,i,e,e2,e3,h⟩
def Gn (i:Nat) (Q:VR->List Sl->Prop):List D->List Sl->Prop:=λSH S1=>∃ds,S1[i]?=some (.own ds)/\ds.length+SH.length<=1000000/\Q (.d .non) (S1.set i (.own (ds++SH)))
theorem Gp (e:S[i]?=some (.own ds)) (h:vn S (Gn i Q)):Gk i vn S Q:=⟨⟨ds,e⟩,h⟩
theorem Dc {ds SH:List D} (e:S[i]?=some (.own ds)) (e2:ds.length+SH.length<=1000000) (h:Q (.d .non) (S.set i (.own (ds++SH)))):Gn i Q SH S:=⟨ds,e,e2,h⟩
end
section
variable {α β:Type} {n:Nat} {ix:List Nat} {g g2:VG} {vt Re:Qo} {vi Rc:PQ} {ve vk vv:VT} {S:List Sl}
def Dd (rk:VR) (A:List Int->D->List Sl->Prop):VR->List Sl->Prop:=λrv S6=>∃ms x,get S6 rk=some (kT ms)/\rv=.d x/\A ms x S6
def De (vv:VT) (A:List Int->D->List Sl->Prop):VR->List Sl->Prop:=λrk S5=>vv S5 (Dd rk A)
def xU (vk vv:VT) (A:List Int->D->List Sl->Prop) (B:List Sl->Prop):Bool->List Sl->Prop:=λb S4=>if b=true then vk S4 (De vv A) else B S4
def uC (n:Nat) (ix:List Nat) (g:VG) (vt:Qo) (vk vv:VT) (Q:List (List Int×D)->List Sl->Prop):List D->List Sl->Prop:=λds S1=>ds.length<=1000000/\∃Iv:Nat->List (List Int×D)->List Sl->Prop,Iv 0 [] S1 /\
 (∀i d kvs S2,ds[i]?=some d->Iv i kvs S2->g d (aS n ix S2) λS3=>vt S3 (xU vk vv (λms x S6=>Iv (i+1) (PN kvs ms x) (Pu n ix S2 S6)) λS4=>Iv (i+1) kvs (Pu n ix S2 S4)))/\∀kvs S2,Iv ds.length kvs S2->Q kvs S2
theorem xV {Q:List (List Int×D)->List Sl->Prop} (h:vi S (uC n ix g vt vk vv Q)):n6 vi n ix g vt vk vv S Q:=h
theorem Df {A:List Int->D->List Sl->Prop} {B:List Sl->Prop} (h:vk S (De vv A)):xU vk vv A B true S:=by unfold xU;rw[if_pos rfl];exact h
theorem Dg {A:List Int->D->List Sl->Prop} {rk:VR} (h:vv S (Dd rk A)):De vv A rk S:=h
theorem Dh {A:List Int->D->List Sl->Prop} {rk:VR} {x:D} (e:get S rk=some (kT ms)) (h:A ms x S):Dd rk A (.d x) S:=⟨ms,x,e,rfl,h⟩
theorem fE {Q:List (List Int×D)->List Sl->Prop} {xs:List α} {en f:α->D} {ky:α->List Int} (hl:xs.length<=1000000)
  (h:∀x∈xs,∀(A:List Int->D->List Sl->Prop) (B:List Sl->Prop),(∀S5,Pu n ix S S5=S->A (ky x) (f x) S5)->g (en x) (aS n ix S) λS3=>vt S3 (xU vk vv A B))
  (h2:Q (xs.foldl (λkvs x=>PN kvs (ky x) (f x)) []) S):uC n ix g vt vk vv Q (xs.map en) S:=by
 refine ⟨by simpa using hl,λi kvs S'=>S'=S/\kvs=(xs.take i).foldl (λkvs x=>PN kvs (ky x) (f x)) [],⟨rfl,by simp⟩,?_,?_⟩
 ·rintro i d kvs S2 e ⟨rfl,rfl⟩
  obtain ⟨x,h1,rfl,hm,ht⟩:=aF e
  refine h x hm _ _ λS5 e5=>⟨e5,?_⟩
  rw[ht,List.foldl_append]
  rfl
 ·rintro kvs S2 ⟨rfl,rfl⟩
  rw[Hz,I0]
  exact h2
theorem bW {k c:List Int}:c∈(PN kvs k d).map (·.1)↔c=k\/c∈kvs.map (·.1):=by
 unfold PN
 split
 ·next h=>
  rw[show (kvs.map λx=>if x.1=k then (x.1,d) else x).map (·.1)=kvs.map (·.1) from fR kvs k d]
  exact ⟨.inr,λz=>z.elim (λe=>e▸h) id⟩
 ·simp[or_comm]
theorem jX {α:Type} {ky:α->List Int} {f:α->D} {c:List Int}:∀(xs:List α) (kvs:List (List Int×D)),c∈(xs.foldl (λkvs x=>PN kvs (ky x) (f x)) kvs).map (·.1)↔c∈xs.map ky\/c∈kvs.map (·.1)
 | [],kvs=>by simp
 | x::xs,kvs=>by
  rw[Lk,jX xs,bW,HJ,JO]
  exact ⟨λz=>z.elim (λh=>.inl (.inr h)) λz=>z.elim (λh=>.inl (.inl h)) .inr,λz=>z.elim (λz=>z.elim (λh=>.inr (.inl h)) .inl) λh=>.inr (.inr h)⟩
def Di (Ss:VG) (Re:Qo) (ve:VT) (ys:List D) (A:List D->List Sl->Prop):List D->List Sl->Prop:=λes S5=>es.length<=1000/\∃Jv:Nat->List D->List Sl->Prop,Jv 0 ys S5 /\
 (∀j e zs S6,es[j]?=some e->Jv j zs S6->Ss e S6 λS7=>Re S7 (eM ve (λx S9=>Jv (j+1) (zs++[x]) (Rh S6 S9)) λS8=>Jv (j+1) zs (Rh S6 S8)))/\∀zs S6,Jv es.length zs S6->A zs S6
def xW (Rc:PQ) (Ss:VG) (Re:Qo) (ve:VT) (ys:List D) (A:List D->List Sl->Prop) (B:List Sl->Prop):Bool->List Sl->Prop:=λb S4=>if b=true then Rc S4 (Di Ss Re ve ys A) else B S4
def uD (n:Nat) (ix:List Nat) (g:VG) (vt:Qo) (Rc:PQ) (Ss:VG) (Re:Qo) (ve:VT) (Q:List D->List Sl->Prop):List D->List Sl->Prop:=λds S1=>ds.length<=1000/\∃Iv:Nat->List D->List Sl->Prop,Iv 0 [] S1 /\
 (∀i d ys S2,ds[i]?=some d->Iv i ys S2->g d (aS n ix S2) λS3=>vt S3 (xW Rc Ss Re ve ys (λzs S6=>Iv (i+1) zs (Pu n ix S2 S6)) λS4=>Iv (i+1) ys (Pu n ix S2 S4)))/\∀ys S2,Iv ds.length ys S2->Q ys S2
theorem xX {Q:List D->List Sl->Prop} (h:vi S (uD n ix g vt Rc g2 Re ve Q)):uA vi n ix g vt Rc g2 Re ve S Q:=h
theorem Dj {ys:List D} {A:List D->List Sl->Prop} {B:List Sl->Prop} (h:Rc S (Di g2 Re ve ys A)):xW Rc g2 Re ve ys A B true S:=by unfold xW;rw[if_pos rfl];exact h
theorem Dk {xs:List β} {en f:β->D} {ys:List D} {A:List D->List Sl->Prop} (hl:xs.length<=1000)
  (h:∀x∈xs,∀(A:D->List Sl->Prop) (B:List Sl->Prop),(∀S5,Rh S S5=S->A (f x) S5)->g2 (en x) S λS3=>Re S3 (eM ve A B)) (h2:A (ys++xs.map f) S):Di g2 Re ve ys A (xs.map en) S:=by
 refine ⟨by simpa using hl,λj zs S'=>S'=S/\zs=ys++(xs.take j).map f,⟨rfl,by simp⟩,?_,?_⟩
 ·rintro i d zs S2 e ⟨rfl,rfl⟩
  obtain ⟨x,h1,rfl,hm,ht⟩:=aF e
  refine h x hm _ _ λS5 e5=>⟨e5,?_⟩
  rw[ht,HX,<- HU]
  rfl
 ·rintro zs S2 ⟨rfl,rfl⟩
  rw[Hz,I0]
  exact h2
theorem qW {Q:List D->List Sl->Prop} {xs:List α} {en:α->D} {r:α->List D} (hl:xs.length<=1000)
  (h:∀x∈xs,∀(ys:List D) (A:List D->List Sl->Prop) (B:List Sl->Prop),(∀S5,Pu n ix S S5=S->A (ys++r x) S5)->g (en x) (aS n ix S) λS3=>vt S3 (xW Rc g2 Re ve ys A B)) (h2:Q (xs.flatMap r) S):uD n ix g vt Rc g2 Re ve Q (xs.map en) S:=by
 refine ⟨by simpa using hl,λi ys S'=>S'=S/\ys=(xs.take i).flatMap r,⟨rfl,by simp⟩,?_,?_⟩
 ·rintro i d ys S2 e ⟨rfl,rfl⟩
  obtain ⟨x,h1,rfl,hm,ht⟩:=aF e
  refine h x hm _ _ _ λS5 e5=>⟨e5,?_⟩
  rw[ht,JL]
  simp
 ·rintro ys S2 ⟨rfl,rfl⟩
  rw[Hz,I0]
  exact h2
end
end VL
end
section
namespace L2
open PySem PySem.Spec PyProof.Rows PySem.W
section
variable {X:Cx}
def Ak (K:Ho):R2:=λx y H Q=>∃l b xs zs,x=.ref l/\y=.ref b/\Qz K H l xs/\H b=some (.lst zs)/\xs.length+zs.length<=Ii/\∀p,H p=none->Q (.ref p) (upd H p (.lst (xs++zs)))
theorem xY:Qt X (Kw .Add) (Ak X.K):=by
 rintro pins s σ H x y v u Q I rx ry ⟨l,b,xs,zs,e1,e2,hR,hB,hz,q⟩
 subst e1;subst e2
 cases rx;cases ry
 obtain ⟨its,r,⟨⟨cls,dd,data,sl⟩,n,e,hc,hd,hs⟩,z⟩:=I.list hR
 obtain ⟨z2,Rn,n2,r2,U2,e2⟩:=I.lstM hB
 have hl:=r.length
 cases (show cls=.type "list" from hc)
 cases (show data=.seq its.toArray n from hs)
 refine OG (T:="list") ⟨_,e,rfl⟩ ⟨_,e2,rfl⟩ noFill_list_add seq_list_add F.slot_list_add F.entry_list_add (F.args_list_add_2 _ _) (list_addW l b _ _ n n2 dd _ sl _ (by simp only[HD];lia)) ⟨e,e2,?_⟩
 rw[List.append_toArray]
 exact ⟨.ref _,_,I.lnew (t':=s.toks) (r.append r2) (by rw[HK];lia),rfl,q _ I.fresh⟩
end
end L2
namespace VL
open PySem L2 PySem.W
section
variable {K:Ho} {X:Cx} {a b:Expr} {ta tb:TE} {pos:Pos}
def Al (va:VT) (u:PQ):PQ:=λS Q=>va S λr S1=>u S1 λes S2=>∃ds,get S2 r=some (.lst ds)/\flats ds=true/\ds.length+es.length<=1000000/\Q (ds++es) S2
theorem pP {va:VT} {u:PQ} (hK:X.K=K) (h1:VE K X false a ta va) (h2:VN K X b tb u):VN K X (.BinOp a .Add b pos) (Rw (Ak K) ta tb) (Al va u):=⟨by subst hK;exact jC xY h1.pe h2.pe,λH0 Z σ H S Q C k t hc=>
 h1.snd H0 Z σ H S _ _ k t λx H1 r S1 k1 Pq r1 t1=>h2.snd H0 Z σ H1 S1 _ _ k1 t1 λa' vs es H2 H' S2 k2 Pj ha hg hl rr Px=>by
  obtain ⟨ds,e,f,hlen,q⟩:=Px
  obtain ⟨c,us,rfl,hR,r2⟩:=((r1.step Pj).step (.grow hg)).elems (k2.grow hg) e
  refine ⟨c,a',us,vs,rfl,rfl,hR,hl,by rw[r2.length,rr.length,IL];lia,λp hp=>?_⟩
  refine hc p _ _ H' _ S2 (k2.grow hg) (Pq.trans (Pj.trans (.grow hg))) hp (aG hp) aw (Pi.append ?_ ?_) q
  ·exact gC hp r2 f
  ·exact bC hp (rr.mono (λ_ n _=>⟨n.1,rfl⟩) λ_ x _=>x)⟩
def Gq (u:PQ) (Q:List D->List Sl->Prop):VR->List Sl->Prop:=λr S1=>u S1 λes S2=>∃ds,get S2 r=some (.lst ds)/\flats ds=true/\ds.length+es.length<=1000000/\Q (ds++es) S2
def Gr (r:VR) (Q:List D->List Sl->Prop):List D->List Sl->Prop:=λes S2=>∃ds,get S2 r=some (.lst ds)/\flats ds=true/\ds.length+es.length<=1000000/\Q (ds++es) S2
theorem Dl {va:VT} {u:PQ} {Q:List D->List Sl->Prop} (h:va S (Gq u Q)):Al va u S Q:=h
theorem Dm {u:PQ} {Q:List D->List Sl->Prop} (h:u S (Gr r Q)):Gq u Q r S:=h
theorem uE {ds es:List D} {Q:List D->List Sl->Prop} (e:get S r=some (.lst ds)) (f:flats ds=true) (hl:ds.length+es.length<=1000000) (h:Q (ds++es) S):Gr r Q es S:=⟨ds,e,f,hl,h⟩
end
end VL
end
section
namespace Tim
open PySem PyProof.Rows
def gal:Bool->HZ->Array HZ->Nat->Nat->Nat->StateT JK Sem (Option Nat):=sortPriv% PySem.Builtin.gallop
def at_ (arr:Array HZ) (i:Nat):HZ:=arr.getD i (IP,IP)
theorem pQ {arr:Array HZ} {i:Nat} (h:i<arr.size):arr[i]?=some (at_ arr i):=by
 unfold at_;simp[Array.getD,h]
theorem bj {a b:Array HZ} {i j:Nat} (h:a[i]?=b[j]?):at_ a i=at_ b j:=by
 unfold at_;rw[Ma,Ma,h]
def gL (prog:Ip) (w:Ji) (A:Js) (s:Hv) (κ:LK) (O:MC) (key:HZ->O.α) (P:HZ->Prop):Prop:=
 ∀(x y:HZ) (C:Bool->Hv->Prop),P x->P y->C (O.blt (key x) (key y)) s->IJ (IB prog w) A (keyLt' κ x.1 y.1) C (λ_ _=>False) s
def Ri {O:MC} (key:HZ->O.α) (left:Bool) (x y:HZ):Bool:=if left=true then O.blt (key y) (key x) else !O.blt (key x) (key y)
section
variable {prog:Ip} {w:Ji} {A:Js} {E:Ht->Hv->Prop} {s:Hv} {κ:LK} {O:MC} {key:HZ->O.α} {P:HZ->Prop}
theorem mK (C:gL prog w A s κ O key P) {x y:HZ} {st:JK} {Q:Option Bool->JK->Prop} (hx:P x) (hy:P y) (hk:kindOf st=κ) (h:Q (some (O.blt (key x) (key y))) st) :
  wpS (IB prog w) A E s (lt' x y) Q st:=by
 rw[lt'_eq]
 refine HB (LV ?_)
 rw[hk]
 refine HB (MR (KW (Ih (C x y (λb s'=>s'=s/\b=O.blt (key x) (key y)) hx hy ⟨rfl,rfl⟩) (λb s' z=>⟨z.1,?_⟩) λ_ _ z=>z.elim)))
 rw[z.2]
 exact HG h
theorem aU {arr:Array HZ} {i:Nat} {st:JK} {Q:HZ->JK->Prop} (e:i<arr.size) (h:Q (at_ arr i) st):wpS (IB prog w) A E s (elem' arr i) Q st:=by
 rw[elem'_eq,pQ e];exact HG h
theorem Do (C:gL prog w A s κ O key P) {left:Bool} {x:HZ} {arr:Array HZ} {i:Nat} {st:JK} {Q:Option Bool->JK->Prop} (e:i<arr.size) (hx:P x) (hy:P (at_ arr i)) (hk:kindOf st=κ)
  (h:Q (some (Ri key left x (at_ arr i))) st) :
  wpS (IB prog w) A E s (elem' arr i >>= λy=>if left=true then lt' y x else lt' x y >>= λr=>pure (Option.map (λz=>!z) r)) Q st:=by
 refine HB (aU e ?_)
 unfold Ri at h
 cases left with
 | true=>exact mK C hy hx hk h
 | false=>exact HB (mK C hx hy hk (HG h))
theorem gM (C:gL prog w A s κ O key P) {left:Bool} {x:HZ} {arr:Array HZ} {base n hint:Nat} {st:JK} {Q:Option Nat->JK->Prop} (hk:kindOf st=κ) (hh:hint<n) (hz:base+n<=arr.size)
  (hP:∀i,i<n->P (at_ arr (base+i))) (hx:P x) (mono:∀i j,i<=j->j<n->Ri key left x (at_ arr (base+j))=true->Ri key left x (at_ arr (base+i))=true)
  (h:∀k,k<=n->(∀i,i<k->Ri key left x (at_ arr (base+i))=true)->(∀i,k<=i->i<n->Ri key left x (at_ arr (base+i))=false)->Q (some k) st) :
  wpS (IB prog w) A E s (gal left x arr base n hint) Q st:=by
 have B:=λi (hi:i<n) (R:Option Bool->JK->Prop) (r:R (some (Ri key left x (at_ arr (base+i)))) st)=>Do (E:=E) C (left:=left) (show base+i<arr.size by lia) hx (hP i hi) hk r
 generalize eb:(λi=>Ri key left x (at_ arr (base+i)))=b at *
 have eb':∀i,Ri key left x (at_ arr (base+i))=b i:=λi=>by rw[<- eb]
 simp only[eb'] at *
 have anti:∀i j,i<=j->j<n->b i=false->b j=false:=λi j SY hj hi=>by
  cases V3:b j with
  | false=>rfl
  | true=>rw[mono i j SY hj V3] at hi;cases hi
 delta gal
 refine HB (B hint hh _ ?_)
 dsimp only
 cases hb:b hint with
 | true=>
  rw[if_pos rfl]
  refine HB (JJ (IR (I:=λk c Pt=>Pt=st/\∃ls os,c=(none,ls,os)/\ls<os/\k+1<=os/\hint+ls<n/\b (hint+ls)=true)
   (Q:=λc Pt=>Pt=st/\∃ls os,c=(none,ls,os)/\ls<os/\hint+ls<n/\b (hint+ls)=true/\(n-hint<=os\/b (hint+os)=false)) ?step ?fin ⟨rfl,0,1,rfl,by lia,by lia,by lia,hb⟩) ?post)
  case fin=>
   rintro c Pt ⟨rfl,ls,os,rfl,h1,h2,h3,h4⟩
   exact ⟨rfl,ls,os,rfl,h1,h3,h4,.inl (by lia)⟩
  case step=>
   rintro k c Pt _ TY ⟨rfl,ls,os,rfl,h1,h2,h3,h4⟩
   dsimp only
   by_cases hge:os >= n-hint
   ·rw[if_pos hge];exact HG ⟨rfl,ls,os,rfl,h1,h3,h4,.inl hge⟩
   ·rw[if_neg hge]
    refine HB (B (hint+os) (by lia) _ ?_)
    dsimp only
    cases ho:b (hint+os) with
    | true=>exact HG ⟨rfl,os,2*os+1,rfl,by lia,by lia,by lia,ho⟩
    | false=>exact HG ⟨rfl,ls,os,rfl,h1,h3,h4,.inr ho⟩
  case post=>
   rintro c Pt ⟨rfl,ls,os,rfl,h1,h3,h4,h5⟩
   dsimp only
   refine HB (JJ (IR (I:=λk c PD=>PD=Pt/\∃lo hi,c=(none,lo,hi)/\lo<=hi/\hi<=n/\hi-lo<=n-k/\(∀i,i<lo->b i=true)/\(∀i,hi<=i->i<n->b i=false))
    (Q:=λc PD=>PD=Pt/\∃k,c=(none,k,k)/\k<=n/\(∀i,i<k->b i=true)/\(∀i,k<=i->i<n->b i=false)) ?step ?fin ?init) ?post)
   case init=>
    refine ⟨rfl,_,_,rfl,by lia,by lia,by lia,λi hi=>mono i _ (by lia) h3 h4,λi hi hn=>?_⟩
    rcases h5 with h5 | h5
    ·lia
    ·by_cases hge:n-hint<=os
     ·lia
     ·exact anti _ i (by lia) hn h5
   case post=>
    rintro c PD ⟨rfl,k,rfl,z1,z2,z3⟩
    exact HG (h k z1 z2 z3)
   case fin=>
    rintro c PD ⟨rfl,lo,hi,rfl,a1,a2,a3,a4,a5⟩
    have:lo=hi:=by lia
    subst this
    exact ⟨rfl,lo,rfl,a2,a4,a5⟩
   case step=>
    rintro k c PD _ TY ⟨rfl,lo,hi,rfl,a1,a2,a3,a4,a5⟩
    dsimp only
    by_cases hge:lo >= hi
    ·rw[if_pos hge]
     have:lo=hi:=by lia
     subst this
     exact HG ⟨rfl,lo,rfl,a2,a4,a5⟩
    ·rw[if_neg hge]
     refine HB (B (lo+(hi-lo) / 2) (by lia) _ ?_)
     dsimp only
     cases ho:b (lo+(hi-lo) / 2) with
     | true=>exact HG ⟨rfl,_,_,rfl,by lia,a2,by lia,λi hi=>mono i _ (by lia) (by lia) ho,a5⟩
     | false=>exact HG ⟨rfl,_,_,rfl,by lia,by lia,by lia,a4,λi h1 h2=>anti _ i h1 h2 ho⟩
 | false=>
  rw[if_neg (by simp)]
  refine HB (JJ (IR (I:=λk c Pt=>Pt=st/\∃ls os,c=(none,ls,os)/\ls<os/\k+1<=os/\ls<=hint/\b (hint-ls)=false)
   (Q:=λc Pt=>Pt=st/\∃ls os,c=(none,ls,os)/\ls<os/\ls<=hint/\b (hint-ls)=false/\(hint+1<=os\/(os<=hint/\b (hint-os)=true))) ?step ?fin ⟨rfl,0,1,rfl,by lia,by lia,by lia,hb⟩) ?post)
  case fin=>
   rintro c Pt ⟨rfl,ls,os,rfl,h1,h2,h3,h4⟩
   exact ⟨rfl,ls,os,rfl,h1,h3,h4,.inl (by lia)⟩
  case step=>
   rintro k c Pt _ TY ⟨rfl,ls,os,rfl,h1,h2,h3,h4⟩
   dsimp only
   by_cases hge:os >= hint+1
   ·rw[if_pos hge];exact HG ⟨rfl,ls,os,rfl,h1,h3,h4,.inl hge⟩
   ·rw[if_neg hge]
    refine HB (B (hint-os) (by lia) _ ?_)
    dsimp only
    cases ho:b (hint-os) with
    | true=>exact HG ⟨rfl,ls,os,rfl,h1,h3,h4,.inr ⟨by lia,ho⟩⟩
    | false=>exact HG ⟨rfl,os,2*os+1,rfl,by lia,by lia,by lia,ho⟩
  case post=>
   rintro c Pt ⟨rfl,ls,os,rfl,h1,h3,h4,h5⟩
   dsimp only
   refine HB (JJ (IR (I:=λk c PD=>PD=Pt/\∃lo hi,c=(none,lo,hi)/\lo<=hi/\hi<=n/\hi-lo<=n-k/\(∀i,i<lo->b i=true)/\(∀i,hi<=i->i<n->b i=false))
    (Q:=λc PD=>PD=Pt/\∃k,c=(none,k,k)/\k<=n/\(∀i,i<k->b i=true)/\(∀i,k<=i->i<n->b i=false)) ?step ?fin ?init) ?post)
   case init=>
    refine ⟨rfl,_,_,rfl,by lia,by lia,by lia,λi hi=>?_,λi hi hn=>anti _ i hi hn h4⟩
    rcases h5 with h5 | h5
    ·lia
    ·exact mono i _ (by lia) (by lia) h5.2
   case post=>
    rintro c PD ⟨rfl,k,rfl,z1,z2,z3⟩
    exact HG (h k z1 z2 z3)
   case fin=>
    rintro c PD ⟨rfl,lo,hi,rfl,a1,a2,a3,a4,a5⟩
    have:lo=hi:=by lia
    subst this
    exact ⟨rfl,lo,rfl,a2,a4,a5⟩
   case step=>
    rintro k c PD _ TY ⟨rfl,lo,hi,rfl,a1,a2,a3,a4,a5⟩
    dsimp only
    by_cases hge:lo >= hi
    ·rw[if_pos hge]
     have:lo=hi:=by lia
     subst this
     exact HG ⟨rfl,lo,rfl,a2,a4,a5⟩
    ·rw[if_neg hge]
     refine HB (B (lo+(hi-lo) / 2) (by lia) _ ?_)
     dsimp only
     cases ho:b (lo+(hi-lo) / 2) with
     | true=>exact HG ⟨rfl,_,_,rfl,by lia,a2,by lia,λi hi=>mono i _ (by lia) (by lia) ho,a5⟩
     | false=>exact HG ⟨rfl,_,_,rfl,by lia,by lia,by lia,a4,λi h1 h2=>anti _ i h1 h2 ho⟩
end
end Tim
end
section
namespace Tim
open PySem PyProof.Rows
section
variable {α:Type} {le:α->α->Prop}
structure MI (le:α->α->Prop) (A B out:List α) (ia ib:Nat):Prop where
 perm:out.Perm (A.take ia++B.take ib)
 srt:out.Pairwise le
 la:∀x∈out,∀y∈A.drop ia,le x y
 lb:∀x∈out,∀y∈B.drop ib,le x y
def Res (le:α->α->Prop) (A B r:List α):Prop:=r.Perm (A++B)/\r.Pairwise le
theorem MI.pushA {A B out:List α} {ia ib k:Nat} (sA:A.Pairwise le) (M:MI le A B out ia ib) (h:∀x∈(A.drop ia).take k,∀y∈B.drop ib,le x y):MI le A B (out++(A.drop ia).take k) (ia+k) ib:=by
 have sD:((A.drop ia).take k++(A.drop ia).drop k).Pairwise le:=by rw[IC];exact sA.drop
 have eD:A.drop (ia+k)=(A.drop ia).drop k:=by rw[List.drop_drop]
 rw[ND] at sD
 refine ⟨?_,?_,?_,?_⟩
 ·rw[List.take_add,HU]
  refine (M.perm.append_right _).trans ?_
  rw[HU]
  exact JQ _ JR
 ·exact List.pairwise_append.mpr ⟨M.srt,sD.1,λx hx y hy=>M.la x hx y (JW hy)⟩
 ·intro x hx y hy
  rw[eD] at hy
  rcases List.mem_append.mp hx with hx | hx
  ·exact M.la x hx y (K3 hy)
  ·exact sD.2.2 x hx y hy
 ·intro x hx y hy
  rcases List.mem_append.mp hx with hx | hx
  ·exact M.lb x hx y hy
  ·exact h x hx y hy
theorem MI.swap {A B out:List α} {ia ib:Nat} (M:MI le A B out ia ib):MI le B A out ib ia:=⟨M.perm.trans JR,M.srt,M.lb,M.la⟩
theorem MI.pushB {A B out:List α} {ia ib k:Nat} (sB:B.Pairwise le) (M:MI le A B out ia ib) (h:∀x∈(B.drop ib).take k,∀y∈A.drop ia,le x y):MI le A B (out++(B.drop ib).take k) ia (ib+k):=
 (M.swap.pushA sB h).swap
theorem MI.done {A B out:List α} {ia ib:Nat} (sA:A.Pairwise le) (sB:B.Pairwise le) (M:MI le A B out ia ib) (h:A.drop ia=[]\/B.drop ib=[]):Res le A B (out++A.drop ia++B.drop ib):=by
 refine ⟨?_,?_⟩
 ·rw[HU]
  refine (M.perm.append_right _).trans ?_
  conv=>rhs;rw[<- IC ia A,<- IC ib B]
  rw[HU,HU]
  refine JQ _ ?_
  rw[<- HU,<- HU]
  exact Lw _ JR
 ·rw[HU]
  refine List.pairwise_append.mpr ⟨M.srt,?_,λx hx y hy=>?_⟩
  ·rcases h with h | h
   ·rw[h];exact sB.drop
   ·rw[h,IV];exact sA.drop
  ·rcases List.mem_append.mp hy with hy | hy
   ·exact M.la x hx y hy
   ·exact M.lb x hx y hy
theorem MI.last {A B out:List α} {ia ib:Nat} (sA:A.Pairwise le) (sB:B.Pairwise le) (M:MI le A B out ia ib) (h:∀x∈B,∀y∈A.drop ia,le x y):Res le A B (out++B.drop ib++A.drop ia):=by
 refine ⟨?_,?_⟩
 ·rw[HU]
  refine (M.perm.append_right _).trans ?_
  conv=>rhs;rw[<- IC ia A,<- IC ib B]
  rw[HU,HU]
  refine JQ _ ?_
  rw[<- HU]
  exact JR
 ·rw[HU]
  refine List.pairwise_append.mpr ⟨M.srt,List.pairwise_append.mpr ⟨sB.drop,sA.drop,λx hx y hy=>h x (K3 hx) y hy⟩,λx hx y hy=>?_⟩
  rcases List.mem_append.mp hy with hy | hy
  ·exact M.lb x hx y hy
  ·exact M.la x hx y hy
structure MH (le:α->α->Prop) (A B R:List α) (na nb:Nat):Prop where
 perm:R.Perm (A.drop na++B.drop nb)
 srt:R.Pairwise le
 la:∀x∈A.take na,∀y∈R,le x y
 lb:∀x∈B.take nb,∀y∈R,le x y
theorem MH.swap {A B R:List α} {na nb:Nat} (M:MH le A B R na nb):MH le B A R nb na:=⟨M.perm.trans JR,M.srt,M.lb,M.la⟩
theorem MH.pushA {A B R:List α} {na nb k:Nat} (sA:A.Pairwise le) (hk:k<=na) (M:MH le A B R na nb) (h:∀x∈B.take nb,∀y∈(A.take na).drop k,le x y):MH le A B ((A.take na).drop k++R) k nb:=by
 have sD:((A.take na).take k++(A.take na).drop k).Pairwise le:=by rw[IC];exact sA.take
 have eT:A.take k=(A.take na).take k:=by rw[List.take_take,Nh hk]
 have eD:A.drop k=(A.take na).drop k++A.drop na:=by
  conv=>lhs;rw[<- IC na A]
  rw[List.drop_append]
  by_cases hz:na<=A.length
  ·rw[show k-(A.take na).length=0 by rw[JU];lia];rfl
  ·rw[J8 (show A.length<=na by lia)];simp
 rw[ND] at sD
 refine ⟨?_,?_,?_,?_⟩
 ·rw[eD,HU]
  exact JQ _ M.perm
 ·exact List.pairwise_append.mpr ⟨sD.2.1,M.srt,λx hx y hy=>M.la x (K3 hx) y hy⟩
 ·intro x hx y hy
  rw[eT] at hx
  rcases List.mem_append.mp hy with hy | hy
  ·exact sD.2.2 x hx y hy
  ·exact M.la x (JW hx) y hy
 ·intro x hx y hy
  rcases List.mem_append.mp hy with hy | hy
  ·exact h x hx y hy
  ·exact M.lb x hx y hy
theorem MH.pushB {A B R:List α} {na nb k:Nat} (sB:B.Pairwise le) (hk:k<=nb) (M:MH le A B R na nb) (h:∀x∈A.take na,∀y∈(B.take nb).drop k,le x y):MH le A B ((B.take nb).drop k++R) na k:=
 (M.swap.pushA sB hk h).swap
theorem MH.done {A B R:List α} {na nb:Nat} (sA:A.Pairwise le) (sB:B.Pairwise le) (M:MH le A B R na nb) (h:A.take na=[]\/B.take nb=[]):Res le A B (A.take na++B.take nb++R):=by
 refine ⟨?_,?_⟩
 ·refine (M.perm.append_left _).trans ?_
  conv=>rhs;rw[<- IC na A,<- IC nb B]
  rw[HU,HU]
  refine JQ _ ?_
  rw[<- HU,<- HU]
  exact Lw _ JR
 ·refine List.pairwise_append.mpr ⟨?_,M.srt,λx hx y hy=>?_⟩
  ·rcases h with h | h
   ·rw[h];exact sB.take
   ·rw[h,IV];exact sA.take
  ·rcases List.mem_append.mp hx with hx | hx
   ·exact M.la x hx y hy
   ·exact M.lb x hx y hy
theorem MH.first {A B R:List α} {na nb:Nat} (sA:A.Pairwise le) (sB:B.Pairwise le) (M:MH le A B R na nb) (h:∀x∈B.take nb,∀y∈A,le x y):Res le A B (B.take nb++A.take na++R):=by
 refine ⟨?_,?_⟩
 ·refine (M.perm.append_left _).trans ?_
  conv=>rhs;rw[<- IC na A,<- IC nb B]
  rw[<- HU,<- HU]
  refine Lw _ ?_
  rw[HU,HU]
  exact List.perm_append_comm.trans (by rw[HU])
 ·refine List.pairwise_append.mpr ⟨List.pairwise_append.mpr ⟨sB.take,sA.take,λx hx y hy=>h x hx y (JW hy)⟩,M.srt,λx hx y hy=>?_⟩
  rcases List.mem_append.mp hx with hx | hx
  ·exact M.lb x hx y hy
  ·exact M.la x hx y hy
theorem dW {l:List α} {i:Nat} (d:α) (h:i<l.length):(l.drop i).take 1=[l.getD i d]:=by
 rw[JC h,List.take_succ_cons,List.take_zero,Im,Hu h];rfl
theorem dX {l:List α} {i:Nat} (d:α) (h:i<l.length):(l.take (i+1)).drop i=[l.getD i d]:=by
 rw[Ov,List.drop_append,J8 (by simp;lia)]
 simp[h,Nh (LN h)]
end
end Tim
end
section
namespace Tim
open PySem PyProof.Rows
def mlo:Array HZ->Array HZ->StateT JK Sem (Array HZ):=sortPriv% PySem.Builtin.mergeLo
def Ql (st Pt:JK):Prop:=kindOf Pt=kindOf st/\HE Pt=HE st/\Il Pt=Il st/\KI Pt=KI st
theorem Ql.rfl' {st:JK}:Ql st st:=⟨rfl,rfl,rfl,rfl⟩
theorem lg (a:Array HZ) (i:Nat):(a.extract i a.size).toList=a.toList.drop i:=by
 simp only[Array.toList_extract,Mn];exact KH (by simp)
theorem xZ (a:Array HZ) (i k:Nat):(a.extract i (i+k)).toList=(a.toList.drop i).take k:=by simp[Mn]
abbrev kl {O:MC} (key:HZ->O.α):HZ->HZ->Prop:=λx y=>O.kle (key x) (key y)
theorem cr {a:Array HZ} {i:Nat} (h:i<a.size):a.toList[i]?=some (at_ a i):=by rw[Jj];exact pQ h
theorem fh {a:Array HZ} {i:Nat} (h:i<a.size):at_ a i∈a.toList:=Jp (cr h)
theorem getD_at {a:Array HZ} {i:Nat} (h:i<a.size):a.toList.getD i (IP,IP)=at_ a i:=by rw[Im,cr h];rfl
theorem lh {a:Array HZ} {i k:Nat} {x:HZ} (h:x∈(a.toList.drop i).take k):∃j,j<k/\i+j<a.size/\x=at_ a (i+j):=by
 obtain ⟨j,hj,e⟩:=NX h
 have V3:j<k/\j<a.size-i:=by simpa [Nat.lt_min] using hj
 refine ⟨j,V3.1,by lia,?_⟩
 have e2:a.toList[i+j]?=some x:=by
  rw[<- e]
  simp only[List.getElem_take,List.getElem_drop]
  exact Hu _
 rw[cr (by lia)] at e2
 exact (Ij e2).symm
theorem mL {a:Array HZ} {i:Nat} {x:HZ} (h:x∈a.toList.drop i):∃j,i+j<a.size/\x=at_ a (i+j):=by
 obtain ⟨j,_,h2,h3⟩:=lh (k:=(a.toList.drop i).length) (by rw[I0];exact h)
 exact ⟨j,h2,h3⟩
section
variable {prog:Ip} {w:Ji} {A:Js} {E:Ht->Hv->Prop} {s:Hv} {κ:LK} {O:MC} {key:HZ->O.α} {P:HZ->Prop}
theorem fj {a:Array HZ} (h:a.toList.Pairwise (kl key)) {i j:Nat} (SY:i<=j) (hj:j<a.size):kl key (at_ a i) (at_ a j):=by
 by_cases e:i=j
 ·subst e;exact Ks _
 ·have q:=List.pairwise_iff_getElem.mp h i j (by simp;lia) (by simpa using hj) (by lia)
  have e1:a.toList[i]'(by simp;lia)=at_ a i:=by have:=cr (a:=a) (i:=i) (by lia);rw[Hu (by simp;lia)] at this;exact Ij this
  have e2:a.toList[j]'(by simpa using hj)=at_ a j:=by have:=cr (a:=a) (i:=j) hj;rw[Hu (by simpa using hj)] at this;exact Ij this
  rw[e1,e2] at q
  exact q
theorem gj {a:Array HZ} (h:a.toList.Pairwise (kl key)) {i:Nat} {y:HZ} (hy:y∈a.toList.drop i):kl key (at_ a i) y:=by
 obtain ⟨j,hj,rfl⟩:=mL hy
 exact fj h (by lia) hj
theorem mM {x y:HZ} (h:Ri key false x y=true):kl key y x:=by
 have:(!O.blt (key x) (key y))=true:=h
 show O.blt (key x) (key y)=false
 simpa using this
theorem uF {x y:HZ} (h:Ri key false x y=false):O.klt (key x) (key y):=by
 have:(!O.blt (key x) (key y))=false:=h
 show O.blt (key x) (key y)=true
 simpa using this
theorem mO {x y:HZ} (h:Ri key true x y=true):O.klt (key y) (key x):=h
theorem uG {x y:HZ} (h:Ri key true x y=false):kl key x y:=h
theorem pR {a:Array HZ} (h:a.toList.Pairwise (kl key)) {x:HZ} {base n:Nat} (hz:base+n<=a.size):∀i j,i<=j->j<n->Ri key false x (at_ a (base+j))=true->Ri key false x (at_ a (base+i))=true:=λi j SY hj q=>by
 have q:=mM q
 have:kl key (at_ a (base+i)) x:=IF (fj h (by lia) (by lia)) q
 show (!O.blt (key x) (key (at_ a (base+i))))=true
 rw[show O.blt (key x) (key (at_ a (base+i)))=false from this];rfl
theorem pS {a:Array HZ} (h:a.toList.Pairwise (kl key)) {x:HZ} {base n:Nat} (hz:base+n<=a.size):∀i j,i<=j->j<n->Ri key true x (at_ a (base+j))=true->Ri key true x (at_ a (base+i))=true:=λi j SY hj q=>
 MG (fj h (show base+i<=base+j by lia) (by lia)) (mO q)
theorem cB {σ α:Type} {M:O4} {c:Prop} [Decidable c] {t e:StateT σ Sem α} {Q:α->σ->Prop} {st:σ} (h1:c->wpS M A E s t Q st) (h2:¬c->wpS M A E s e Q st):wpS M A E s (if c then t else e) Q st:=by
 by_cases h:c
 ·rw[if_pos h];exact h1 h
 ·rw[if_neg h];exact h2 h
theorem An {σ α:Type} {M:O4} {c:Nat->Prop} [∀m,Decidable (c m)] {T F:Nat->StateT σ Sem α} {Q:α->σ->Prop} {st:σ} (h1:∀m,(∀m,wpS M A E s (F m) Q st)->wpS M A E s (T m) Q st) (key:∀m,wpS M A E s (F m) Q st):∀m,wpS M A E s (if c m then T m else F m) Q st:=λm=>cB (λ_=>h1 m key) λ_=>key m
theorem Ao {σ α:Type} {M:O4} {c:Prop} [Decidable c] {T:StateT σ Sem α} {F:PUnit->Array HZ->Nat->StateT σ Sem α} {o:Array HZ} {i:Nat} {Q:α->σ->Prop} {st:σ} (RP:Array HZ->Nat->Prop) (h1:c->(∀o i,RP o i->wpS M A E s (F ⟨⟩ o i) Q st)->wpS M A E s T Q st) (h2:¬c->RP o i) (key:∀o i,RP o i->wpS M A E s (F ⟨⟩ o i) Q st):wpS M A E s (if c then T else F ⟨⟩ o i) Q st:=cB (λh=>h1 h key) λh=>key _ _ (h2 h)
def X4 (P:Array HZ->Nat->Nat->Nat->Prop) (c:Option (Array HZ)×Array HZ×Nat×Nat×Nat):Prop:=∃o i j m,c=(none,o,i,j,m)/\P o i j m
def X5 (P:Array HZ->Nat->Nat->Prop) (c:Option (Array HZ)×Array HZ×Nat×Nat×Nat×Nat):Prop:=∃o i j m n,c=(none,o,i,j,m,n)/\P o i j
def X6 (P:Array HZ->Nat->Nat->Prop) (c:Option (Array HZ)×Array HZ×Nat×Nat×Nat×Nat×Nat):Prop:=∃o i j m n k,c=(none,o,i,j,m,n,k)/\P o i j
def Xr {τ:Type} (R:Array HZ->Prop) (c:Option (Array HZ)×τ):Prop:=∃r z,c=(some r,z)/\R r
@[elab_as_elim] theorem X4.el {P:Array HZ->Nat->Nat->Nat->Prop} {c:Option (Array HZ)×Array HZ×Nat×Nat×Nat} {C:Option (Array HZ)×Array HZ×Nat×Nat×Nat->Prop} (h:X4 P c) (f:∀o i j m,P o i j m->C (none,o,i,j,m)):C c:=by
 obtain ⟨o,i,j,m,rfl,p⟩:=h;exact f _ _ _ _ p
@[elab_as_elim] theorem X5.el {P:Array HZ->Nat->Nat->Prop} {c:Option (Array HZ)×Array HZ×Nat×Nat×Nat×Nat} {C:Option (Array HZ)×Array HZ×Nat×Nat×Nat×Nat->Prop} (h:X5 P c) (f:∀o i j m n,P o i j->C (none,o,i,j,m,n)):C c:=by
 obtain ⟨o,i,j,m,n,rfl,p⟩:=h;exact f _ _ _ _ _ p
@[elab_as_elim] theorem X6.el {P:Array HZ->Nat->Nat->Prop} {c:Option (Array HZ)×Array HZ×Nat×Nat×Nat×Nat×Nat} {C:Option (Array HZ)×Array HZ×Nat×Nat×Nat×Nat×Nat->Prop} (h:X6 P c) (f:∀o i j m n k,P o i j->C (none,o,i,j,m,n,k)):C c:=by
 obtain ⟨o,i,j,m,n,k,rfl,p⟩:=h;exact f _ _ _ _ _ _ p
@[elab_as_elim] theorem Xr.el {τ:Type} {R:Array HZ->Prop} {c:Option (Array HZ)×τ} {C:Option (Array HZ)×τ->Prop} {P:Prop} (h:Xr R c\/P) (f:∀r z,R r->C (some r,z)) (g:P->C c):C c:=by
 rcases h with ⟨r,z,rfl,p⟩ | p
 ·exact f _ _ p
 ·exact g p
theorem Dp (C:gL prog w A s κ O key P) {a b:Array HZ} {st:JK} {Q:Array HZ->JK->Prop} (hk:kindOf st=κ) (ha:0<a.size) (hb:0<b.size) (Pa:∀x∈a.toList,P x) (Pb:∀x∈b.toList,P x)
  (sA:a.toList.Pairwise (kl key)) (sB:b.toList.Pairwise (kl key)) (h0:∀y∈a.toList,kl key (at_ b 0) y) (hl:∀x∈b.toList,kl key x (at_ a (a.size-1)))
  (h:∀r Pt,Ql st Pt->Res (kl key) a.toList b.toList r.toList->Q r Pt):wpS (IB prog w) A E s (mlo a b) Q st:=by
 have pa:∀i,i<a.size->P (at_ a i):=λi hi=>Pa _ (fh hi)
 have pb:∀i,i<b.size->P (at_ b i):=λi hi=>Pb _ (fh hi)
 have M0:MI (kl key) a.toList b.toList (#[at_ b 0]:Array HZ).toList 0 1:=by
  refine ⟨?_,?_,?_,?_⟩
  ·have e:b.toList.take 1=[at_ b 0]:=by have:=dW (l:=b.toList) (i:=0) (IP,IP) (by simpa using hb);rw[NQ,getD_at hb] at this;exact this
   rw[e];simp
  ·simp
  ·intro x hx y hy
   have:x=at_ b 0:=by simpa using hx
   subst this;exact h0 y (K3 hy)
  ·intro x hx y hy
   have:x=at_ b 0:=by simpa using hx
   subst this
   obtain ⟨j,hj,rfl⟩:=mL hy
   exact fj sB (by lia) hj
 have dn:∀{out:Array HZ} {ia ib:Nat},MI (kl key) a.toList b.toList out.toList ia ib->(a.size<=ia\/b.size<=ib)->Res (kl key) a.toList b.toList (out++a.extract ia a.size++b.extract ib b.size).toList:=λM hh=>by
  rw[IQ,IQ,lg,lg]
  exact M.done sA sB (hh.imp (λz=>J8 (by simpa using z)) λz=>J8 (by simpa using z))
 have la:∀{out:Array HZ} {ia ib:Nat},MI (kl key) a.toList b.toList out.toList ia ib->ia+1=a.size->Res (kl key) a.toList b.toList (out++b.extract ib b.size++a.extract ia a.size).toList:=λ{out ia ib} M hh=>by
  rw[IQ,IQ,lg,lg]
  refine M.last sA sB λx hx y hy=>?_
  obtain ⟨j,hj,rfl⟩:=mL hy
  have:=hl x hx
  rwa [show a.size-1=ia+j by lia] at this
 have V4:∀{out:Array HZ} {ia ib:Nat},MI (kl key) a.toList b.toList out.toList ia ib->ia<a.size->(∀y∈b.toList.drop ib,kl key (at_ a ia) y)->MI (kl key) a.toList b.toList (out.push (at_ a ia)).toList (ia+1) ib:=λ{out ia ib} M hi q=>by
  have e:=dW (l:=a.toList) (i:=ia) (IP,IP) (by simpa using hi)
  rw[getD_at hi] at e
  have:=M.pushA (k:=1) sA (by rw[e];intro x hx y hy;rw[Jz] at hx;subst hx;exact q y hy)
  rw[e] at this
  rw[LG];exact this
 have V5:∀{out:Array HZ} {ia ib:Nat},MI (kl key) a.toList b.toList out.toList ia ib->ib<b.size->(∀y∈a.toList.drop ia,kl key (at_ b ib) y)->MI (kl key) a.toList b.toList (out.push (at_ b ib)).toList ia (ib+1):=λ{out ia ib} M hi q=>by
  have e:=dW (l:=b.toList) (i:=ib) (IP,IP) (by simpa using hi)
  rw[getD_at hi] at e
  have:=M.pushB (k:=1) sB (by rw[e];intro x hx y hy;rw[Jz] at hx;subst hx;exact q y hy)
  rw[e] at this
  rw[LG];exact this
 have XJ:∀{out:Array HZ} {ia ib k:Nat},MI (kl key) a.toList b.toList out.toList ia ib->(∀i,i<k->kl key (at_ a (ia+i)) (at_ b ib))->MI (kl key) a.toList b.toList (out++a.extract ia (ia+k)).toList (ia+k) ib:=λ{out ia ib k} M q=>by
  rw[IQ,xZ]
  refine M.pushA sA λx hx y hy=>?_
  obtain ⟨j,hj,_,rfl⟩:=lh hx
  exact IF (q j hj) (gj sB hy)
 have XM:∀{out:Array HZ} {ia ib k:Nat},MI (kl key) a.toList b.toList out.toList ia ib->(∀i,i<k->O.klt (key (at_ b (ib+i))) (key (at_ a ia)))->MI (kl key) a.toList b.toList (out++b.extract ib (ib+k)).toList ia (ib+k):=λ{out ia ib k} M q=>by
  rw[IQ,xZ]
  refine M.pushB sB λx hx y hy=>?_
  obtain ⟨j,hj,_,rfl⟩:=lh hx
  exact IF (Ja (q j hj)) (gj sA hy)
 delta mlo
 refine HB (MR (Kc ⟨rfl,?_⟩))
 refine HB (aU hb ?_)
 refine cB (λe1=>HG (h _ _ Ql.rfl' (dn M0 (.inr (by have z:1=b.size:=(by simpa using e1);exact LP z.symm))))) λe1=>?_
 refine cB (λe2=>HG (h _ _ Ql.rfl' (la M0 (by simpa using e2)))) λe2=>?_
 have e1:¬(1=b.size):=by simpa using e1
 have e2:¬(0+1=a.size):=by simpa using e2
 refine HB (LV ?_)
 refine HB (JJ (IR (I:=λx c Pt=>Ql st Pt/\X4 (λout ia ib _=>MI (kl key) a.toList b.toList out.toList ia ib/\ia+1<a.size/\ib<b.size/\x+1<=ia+ib) c)
  (Q:=λc Pt=>Ql st Pt/\Xr (λr=>Res (kl key) a.toList b.toList r.toList) c) ?step ?fin ⟨Ql.rfl',_,0,1,_,rfl,M0,by lia,by lia,by lia⟩) ?post)
 case post=>exact λc Pt q=>Xr.el (P:=False) (.inl q.2) (λr z R=>HG (h r Pt q.1 R)) λf=>f.elim
 case fin=>
  rintro c Pt ⟨S,out,ia,ib,mg,rfl,M,h1,h2,h3⟩
  lia
 case step=>
  intro x c Pt _ hx hI
  refine X4.el hI.2 λout ia ib mg hM=>?_
  have S:=hI.1
  refine HB (JJ (IR (I:=λy c PD=>Ql st PD/\X5 (λout QH QE=>MI (kl key) a.toList b.toList out.toList QH QE/\QH+1<a.size/\QE<b.size/\ia+ib+y<=QH+QE) c)
   (Q:=λc PD=>Ql st PD/\(Xr (λr=>Res (kl key) a.toList b.toList r.toList) c\/X5 (λout QH QE=>MI (kl key) a.toList b.toList out.toList QH QE/\QH+1<a.size/\QE<b.size/\ia+ib+1<=QH+QE) c)) ?s1 ?f1 ⟨S,out,ia,ib,0,0,rfl,hM.1,hM.2.1,hM.2.2.1,by lia⟩) ?p1)
  case f1=>
   rintro c Pj ⟨S,out,QH,QE,ac,bc,rfl,M,h1,h2,h3⟩
   exact ⟨S,.inr ⟨out,QH,QE,ac,bc,rfl,M,h1,h2,by lia⟩⟩
  case s1=>
   intro y c Pj _ hy hJ
   refine X5.el hJ.2 λout QH QE ac bc hM=>?_
   have S:=hJ.1
   have M:=hM.1
   have h1:=hM.2.1
   have h2:=hM.2.2.1
   have h3:=hM.2.2.2
   refine HB (aU h2 (HB (aU (show QH<a.size by lia) (HB (mK C (pb _ h2) (pa _ (by lia)) (S.1.trans hk) ?_)))))
   refine cB (c:=O.blt (key (at_ b QE)) (key (at_ a QH))=true) (λhc=>?_) λhc=>?_
   ·refine HB (aU h2 ?_)
    have M1:=V5 M h2 λy hy=>IF (Ja hc) (gj sA hy)
    refine cB (λe=>HG ⟨S,.inl ⟨_,_,rfl,dn M1 (.inr (by have z:QE+1=b.size:=(by simpa using e);exact LP z.symm))⟩⟩) λe=>?_
    have e:¬(QE+1=b.size):=by simpa using e
    exact cB (λ_=>HG ⟨S,.inr ⟨_,_,_,_,_,rfl,M1,h1,by lia,by lia⟩⟩) λ_=>HG ⟨S,_,_,_,_,_,rfl,M1,h1,by lia,by lia⟩
   ·have hc:O.blt (key (at_ b QE)) (key (at_ a QH))=false:=by simpa using hc
    refine HB (aU (show QH<a.size by lia) ?_)
    have M1:=V4 M (by lia) λy hy=>IF (show kl key (at_ a QH) (at_ b QE) from hc) (gj sB hy)
    refine cB (λe=>HG ⟨S,.inl ⟨_,_,rfl,la M1 (by simpa using e)⟩⟩) λe=>?_
    have e:¬(QH+1+1=a.size):=by simpa using e
    exact cB (λ_=>HG ⟨S,.inr ⟨_,_,_,_,_,rfl,M1,by lia,by lia,by lia⟩⟩) λ_=>HG ⟨S,_,_,_,_,_,rfl,M1,by lia,by lia,by lia⟩
  case p1=>
   intro c Pj q
   refine Xr.el q.2 (λr z R=>HG ⟨q.1,_,_,rfl,R⟩) λhX=>X5.el hX λout QH QE ac bc hM=>?_
   have S:=q.1
   refine HB (MR (Kc ⟨rfl,?_⟩))
   refine HB (JJ (IR (I:=λy c PD=>Ql st PD/\X6 (λout QH QE=>MI (kl key) a.toList b.toList out.toList QH QE/\QH+1<a.size/\QE<b.size/\ia+ib+1<=QH+QE) c)
    (Q:=λc PD=>Ql st PD/\(Xr (λr=>Res (kl key) a.toList b.toList r.toList) c\/X6 (λout QH QE=>MI (kl key) a.toList b.toList out.toList QH QE/\QH+1<a.size/\QE<b.size/\ia+ib+1<=QH+QE) c)) ?s2 ?f2 ⟨S,out,QH,QE,_,ac,bc,rfl,hM⟩) ?p2)
   case f2=>exact λc Qi q=>⟨q.1,.inr q.2⟩
   case p2=>exact λc Qi q=>Xr.el q.2 (λr z R=>HG ⟨q.1,_,_,rfl,R⟩) λhX=>X6.el hX λout QH QE mg ac bc hM=>HB (Jo (HG ⟨q.1,_,_,_,_,rfl,hM.1,hM.2.1,hM.2.2.1,by have:=hM.2.2.2;lia⟩))
   case s2=>
    intro y c Qi _ hy hJ
    refine X6.el hJ.2 λout QH QE mg ac bc hM=>?_
    have S:=hJ.1
    have M:=hM.1
    have h1:=hM.2.1
    have h2:=hM.2.2.1
    have h3:=hM.2.2.2
    revert mg
    refine An (c:=λmg=>mg>1) (λmg next=>?_) λmg'=>?_
    ·exact next _
    refine HB (Jo ?_)
    refine HB (aU h2 (HB (gM C (S.1.trans hk) (show 0<a.size-QH by lia) (by lia) (λi hi=>pa _ (by lia)) (pb _ h2) (pR sA (by lia)) λk z1 z2 z3=>?_)))
    have gt:∀y∈a.toList.drop (QH+k),kl key (at_ b QE) y:=λy hy=>by
     obtain ⟨j,hj,rfl⟩:=mL hy
     have:=uF (z3 (k+j) (by lia) (by lia))
     rw[<- LZ] at this
     exact Ja this
    dsimp -zeta only
    extract_lets +lift +onlyGivenNames u1 u2 jp u4 u5
    refine Ao (F:=jp) (c:=k>0) (λo i=>MI (kl key) a.toList b.toList o.toList i QE/\i+1<a.size/\QH<=i/\∀y∈a.toList.drop i,kl key (at_ b QE) y) (λTv next=>?_) (λTv=>⟨M,h1,HA _,by obtain rfl:k=0:=(by lia);exact gt⟩) λout Ve hC=>?_
    ·have M1:=XJ (k:=k) M λi hi=>mM (z2 i hi)
     refine cB (λe=>HG ⟨S,.inl ⟨_,_,rfl,la M1 (by simpa using e)⟩⟩) λe=>?_
     refine cB (λe'=>HG ⟨S,.inl ⟨_,_,rfl,dn M1 (.inl (by have z:QH+k=a.size:=(by simpa using e');exact LP z.symm))⟩⟩) λe'=>?_
     have e:¬(QH+k+1=a.size):=by simpa using e
     have e':¬(QH+k=a.size):=by simpa using e'
     exact next _ _ ⟨M1,by lia,by lia,gt⟩
    have i1:=hC.2.1
    have i2:=hC.2.2.1
    refine HB (aU h2 ?_)
    have M2:=V5 hC.1 h2 hC.2.2.2
    refine cB (λe3=>HG ⟨S,.inl ⟨_,_,rfl,dn M2 (.inr (by have z:QE+1=b.size:=(by simpa using e3);exact LP z.symm))⟩⟩) λe3=>?_
    have e3:¬(QE+1=b.size):=by simpa using e3
    refine HB (aU (show Ve<a.size by lia) (HB (gM C (S.1.trans hk) (show 0<b.size-(QE+1) by lia) (by lia) (λi hi=>pb _ (by lia)) (pa _ (by lia)) (pS sB (by lia)) λk2 y1 y2 y3=>?_)))
    have ge:∀y∈b.toList.drop (QE+1+k2),kl key (at_ a Ve) y:=λy hy=>by
     obtain ⟨j,hj,rfl⟩:=mL hy
     have:=uG (y3 (k2+j) (by lia) (by lia))
     rw[<- LZ] at this
     exact this
    dsimp -zeta only
    extract_lets +lift +onlyGivenNames v1 XN v3 v4
    refine Ao (F:=XN) (c:=k2>0) (λo i=>MI (kl key) a.toList b.toList o.toList Ve i/\i<b.size/\QE+1<=i/\∀y∈b.toList.drop i,kl key (at_ a Ve) y) (λQ5 next=>?_) (λQ5=>⟨M2,by lia,HA _,by obtain rfl:k2=0:=(by lia);exact ge⟩) λout ib2 hD=>?_
    ·have M3:=XM (k:=k2) M2 λi hi=>mO (y2 i hi)
     refine cB (λe4=>HG ⟨S,.inl ⟨_,_,rfl,dn M3 (.inr (by have z:QE+1+k2=b.size:=(by simpa using e4);exact LP z.symm))⟩⟩) λe4=>?_
     have e4:¬(QE+1+k2=b.size):=by simpa using e4
     exact next _ _ ⟨M3,by lia,by lia,ge⟩
    have j1:=hD.2.1
    have j2:=hD.2.2.1
    refine HB (aU (show Ve<a.size by lia) ?_)
    have M4:=V4 hD.1 (by lia) hD.2.2.2
    refine cB (λe5=>HG ⟨S,.inl ⟨_,_,rfl,la M4 (by simpa using e5)⟩⟩) λe5=>?_
    have e5:¬(Ve+1+1=a.size):=by simpa using e5
    exact cB (λ_=>HG ⟨S,.inr ⟨_,_,_,_,_,_,rfl,M4,by lia,by lia,by lia⟩⟩) λ_=>HG ⟨S,_,_,_,_,_,_,rfl,M4,by lia,by lia,by lia⟩
end
end Tim
end
section
namespace Tim
open PySem PyProof.Rows
def mhi:Array HZ->Array HZ->StateT JK Sem (Array HZ):=sortPriv% PySem.Builtin.mergeHi
theorem iq (a:Array HZ) (n:Nat):(a.extract 0 n).toList=a.toList.take n:=by
 have:=xZ a 0 n
 rw[Lc,NQ] at this;exact this
theorem n9 (a:Array HZ) (i n:Nat) (h:i<=n):(a.extract i n).toList=(a.toList.take n).drop i:=by
 have:=xZ a i (n-i)
 rw[show i+(n-i)=n by lia] at this
 rw[this,List.drop_take]
theorem jd {a:Array HZ} {i n:Nat} {x:HZ} (h:x∈(a.toList.take n).drop i):∃j,i<=j/\j<n/\j<a.size/\x=at_ a j:=by
 rw[List.drop_take] at h
 obtain ⟨j,h1,h2,h3⟩:=lh h
 exact ⟨i+j,by lia,by lia,h2,h3⟩
theorem jY {a:Array HZ} {n:Nat} {x:HZ} (h:x∈a.toList.take n):∃j,j<n/\j<a.size/\x=at_ a j:=by
 obtain ⟨j,_,h2,h3,h4⟩:=jd (i:=0) (by rw[NQ];exact h)
 exact ⟨j,h2,h3,h4⟩
section
variable {prog:Ip} {w:Ji} {A:Js} {E:Ht->Hv->Prop} {s:Hv} {κ:LK} {O:MC} {key:HZ->O.α} {P:HZ->Prop}
def Y4 (P:Nat->Nat->Array HZ->Nat->Prop) (c:Option (Array HZ)×Nat×Nat×Array HZ×Nat):Prop:=∃i j o m,c=(none,i,j,o,m)/\P i j o m
def Y5 (P:Nat->Nat->Array HZ->Prop) (c:Option (Array HZ)×Nat×Nat×Array HZ×Nat×Nat):Prop:=∃i j o m n,c=(none,i,j,o,m,n)/\P i j o
def Y6 (P:Nat->Nat->Array HZ->Prop) (c:Option (Array HZ)×Nat×Nat×Array HZ×Nat×Nat×Nat):Prop:=∃i j o m n k,c=(none,i,j,o,m,n,k)/\P i j o
@[elab_as_elim] theorem Y4.el {P:Nat->Nat->Array HZ->Nat->Prop} {c:Option (Array HZ)×Nat×Nat×Array HZ×Nat} {C:Option (Array HZ)×Nat×Nat×Array HZ×Nat->Prop} (h:Y4 P c) (f:∀i j o m,P i j o m->C (none,i,j,o,m)):C c:=by
 obtain ⟨o,i,j,m,rfl,p⟩:=h;exact f _ _ _ _ p
@[elab_as_elim] theorem Y5.el {P:Nat->Nat->Array HZ->Prop} {c:Option (Array HZ)×Nat×Nat×Array HZ×Nat×Nat} {C:Option (Array HZ)×Nat×Nat×Array HZ×Nat×Nat->Prop} (h:Y5 P c) (f:∀i j o m n,P i j o->C (none,i,j,o,m,n)):C c:=by
 obtain ⟨o,i,j,m,n,rfl,p⟩:=h;exact f _ _ _ _ _ p
@[elab_as_elim] theorem Y6.el {P:Nat->Nat->Array HZ->Prop} {c:Option (Array HZ)×Nat×Nat×Array HZ×Nat×Nat×Nat} {C:Option (Array HZ)×Nat×Nat×Array HZ×Nat×Nat×Nat->Prop} (h:Y6 P c) (f:∀i j o m n k,P i j o->C (none,i,j,o,m,n,k)):C c:=by
 obtain ⟨o,i,j,m,n,k,rfl,p⟩:=h;exact f _ _ _ _ _ _ p
theorem Ap {σ α:Type} {M:O4} {c:Prop} [Decidable c] {T:StateT σ Sem α} {F:PUnit->Nat->Array HZ->StateT σ Sem α} {o:Array HZ} {i:Nat} {Q:α->σ->Prop} {st:σ} (RP:Nat->Array HZ->Prop) (h1:c->(∀i o,RP i o->wpS M A E s (F ⟨⟩ i o) Q st)->wpS M A E s T Q st) (h2:¬c->RP i o) (key:∀i o,RP i o->wpS M A E s (F ⟨⟩ i o) Q st):wpS M A E s (if c then T else F ⟨⟩ i o) Q st:=cB (λh=>h1 h key) λh=>key _ _ (h2 h)
theorem Dq (C:gL prog w A s κ O key P) {a b:Array HZ} {st:JK} {Q:Array HZ->JK->Prop} (hk:kindOf st=κ) (ha:0<a.size) (hb:0<b.size) (Pa:∀x∈a.toList,P x) (Pb:∀x∈b.toList,P x)
  (sA:a.toList.Pairwise (kl key)) (sB:b.toList.Pairwise (kl key)) (h0:∀y∈a.toList,kl key (at_ b 0) y) (hl:∀x∈b.toList,kl key x (at_ a (a.size-1)))
  (h:∀r Pt,Ql st Pt->Res (kl key) a.toList b.toList r.toList->Q r Pt):wpS (IB prog w) A E s (mhi a b) Q st:=by
 have pa:∀i,i<a.size->P (at_ a i):=λi hi=>Pa _ (fh hi)
 have pb:∀i,i<b.size->P (at_ b i):=λi hi=>Pb _ (fh hi)
 have M0:MH (kl key) a.toList b.toList (#[at_ a (a.size-1)]:Array HZ).reverse.toList (a.size-1) b.size:=by
  have eR:(#[at_ a (a.size-1)]:Array HZ).reverse.toList=[at_ a (a.size-1)]:=rfl
  rw[eR]
  refine ⟨?_,List.pairwise_singleton _ _,?_,?_⟩
  ·have e:=dX (l:=a.toList) (i:=a.size-1) (IP,IP) (by simp;lia)
   rw[getD_at (by lia),show a.size-1+1=a.size by lia,show a.toList.take a.size=a.toList from KH (by simp)] at e
   rw[e,J8 (by simp)]
   exact List.Perm.refl _
  ·intro x hx y hy
   obtain ⟨j,h1,h2,rfl⟩:=jY hx
   rw[Jz] at hy;subst hy
   exact fj sA (by lia) (by lia)
  ·intro x hx y hy
   rw[Jz] at hy;subst hy
   exact hl x (JW hx)
 have dn:∀{out:Array HZ} {na nb:Nat},MH (kl key) a.toList b.toList out.reverse.toList na nb->(na=0\/nb=0)->Res (kl key) a.toList b.toList (a.extract 0 na++b.extract 0 nb++out.reverse).toList:=λM hh=>by
  rw[IQ,IQ,iq,iq]
  exact M.done sA sB (hh.imp (λz=>by rw[z];rfl) λz=>by rw[z];rfl)
 have fi:∀{out:Array HZ} {na nb:Nat},MH (kl key) a.toList b.toList out.reverse.toList na nb->nb=1->Res (kl key) a.toList b.toList (b.extract 0 nb++a.extract 0 na++out.reverse).toList:=λ{out na nb} M hh=>by
  rw[IQ,IQ,iq,iq]
  refine M.first sA sB λx hx y hy=>?_
  obtain ⟨j,h1,h2,rfl⟩:=jY hx
  rw[show j=0 by lia]
  exact h0 y hy
 have XJ:∀{out:Array HZ} {na nb k:Nat},MH (kl key) a.toList b.toList out.reverse.toList na nb->k<=na->(∀x∈b.toList.take nb,∀j,k<=j->j<na->kl key x (at_ a j))->MH (kl key) a.toList b.toList (out++(a.extract k na).reverse).reverse.toList k nb:=λ{out na nb k} M hi q=>by
  have e:(out++(a.extract k na).reverse).reverse.toList=(a.toList.take na).drop k++out.reverse.toList:=by
   rw[NF,Ni,IQ,n9 a k na hi]
  rw[e]
  refine M.pushA sA hi λx hx y hy=>?_
  obtain ⟨j,h1,h2,_,rfl⟩:=jd hy
  exact q x hx j h1 h2
 have XM:∀{out:Array HZ} {na nb k:Nat},MH (kl key) a.toList b.toList out.reverse.toList na nb->k<=nb->(∀x∈a.toList.take na,∀j,k<=j->j<nb->kl key x (at_ b j))->MH (kl key) a.toList b.toList (out++(b.extract k nb).reverse).reverse.toList na k:=λ{out na nb k} M hi q=>by
  have e:(out++(b.extract k nb).reverse).reverse.toList=(b.toList.take nb).drop k++out.reverse.toList:=by
   rw[NF,Ni,IQ,n9 b k nb hi]
  rw[e]
  refine M.pushB sB hi λx hx y hy=>?_
  obtain ⟨j,h1,h2,_,rfl⟩:=jd hy
  exact q x hx j h1 h2
 have V4:∀{out:Array HZ} {na nb:Nat},MH (kl key) a.toList b.toList out.reverse.toList na nb->0<na->na<=a.size->(∀x∈b.toList.take nb,kl key x (at_ a (na-1)))->MH (kl key) a.toList b.toList (out.push (at_ a (na-1))).reverse.toList (na-1) nb:=λ{out na nb} M h1 h2 q=>by
  have e:(out.push (at_ a (na-1))).reverse.toList=(a.toList.take na).drop (na-1)++out.reverse.toList:=by
   have z:=dX (l:=a.toList) (i:=na-1) (IP,IP) (by simp;lia)
   rw[show na-1+1=na by lia,getD_at (by lia)] at z
   rw[z];simp
  rw[e]
  refine M.pushA sA (by lia) λx hx y hy=>?_
  obtain ⟨j,g1,g2,_,rfl⟩:=jd hy
  rw[show j=na-1 by lia]
  exact q x hx
 have V5:∀{out:Array HZ} {na nb:Nat},MH (kl key) a.toList b.toList out.reverse.toList na nb->0<nb->nb<=b.size->(∀x∈a.toList.take na,kl key x (at_ b (nb-1)))->MH (kl key) a.toList b.toList (out.push (at_ b (nb-1))).reverse.toList na (nb-1):=λ{out na nb} M h1 h2 q=>by
  have e:(out.push (at_ b (nb-1))).reverse.toList=(b.toList.take nb).drop (nb-1)++out.reverse.toList:=by
   have z:=dX (l:=b.toList) (i:=nb-1) (IP,IP) (by simp;lia)
   rw[show nb-1+1=nb by lia,getD_at (by lia)] at z
   rw[z];simp
  rw[e]
  refine M.pushB sB (by lia) λx hx y hy=>?_
  obtain ⟨j,g1,g2,_,rfl⟩:=jd hy
  rw[show j=nb-1 by lia]
  exact q x hx
 have tA:∀{n:Nat} {x:HZ},n<=a.size->x∈a.toList.take n->kl key x (at_ a (n-1)):=λ{n x} hn hx=>by
  obtain ⟨j,h1,h2,rfl⟩:=jY hx
  exact fj sA (by lia) (by lia)
 have tB:∀{n:Nat} {x:HZ},n<=b.size->x∈b.toList.take n->kl key x (at_ b (n-1)):=λ{n x} hn hx=>by
  obtain ⟨j,h1,h2,rfl⟩:=jY hx
  exact fj sB (by lia) (by lia)
 delta mhi
 refine HB (MR (Kc ⟨rfl,?_⟩))
 refine HB (aU (show a.size-1<a.size by lia) ?_)
 refine cB (λe1=>HG (h _ _ Ql.rfl' (dn M0 (.inl (by simpa using e1))))) λe1=>?_
 refine cB (λe2=>HG (h _ _ Ql.rfl' (fi M0 (by simpa using e2)))) λe2=>?_
 have e1:¬(a.size-1=0):=by simpa using e1
 have e2:¬(b.size=1):=by simpa using e2
 refine HB (LV ?_)
 refine HB (JJ (IR (I:=λx c Pt=>Ql st Pt/\Y4 (λQn Qg out _=>(MH (kl key) a.toList b.toList out.reverse.toList Qn Qg/\0<Qn/\Qn<=a.size/\1<Qg/\Qg<=b.size)/\Qn+Qg+x+1<=a.size+b.size) c)
  (Q:=λc Pt=>Ql st Pt/\Xr (λr=>Res (kl key) a.toList b.toList r.toList) c) ?step ?fin ⟨Ql.rfl',_,_,_,_,rfl,⟨M0,by lia,by lia,by lia,by lia⟩,by lia⟩) ?post)
 case post=>exact λc Pt q=>Xr.el (P:=False) (.inl q.2) (λr z R=>HG (h r Pt q.1 R)) λf=>f.elim
 case fin=>
  rintro c Pt ⟨S,na,nb,out,mg,rfl,⟨M,h1,h2,h3,h4⟩,h5⟩
  lia
 case step=>
  intro x c Pt _ hx hI
  refine Y4.el hI.2 λna nb out mg hM=>?_
  have S:=hI.1
  refine HB (JJ (IR (I:=λy c PD=>Ql st PD/\Y5 (λQn Qg out=>(MH (kl key) a.toList b.toList out.reverse.toList Qn Qg/\0<Qn/\Qn<=a.size/\1<Qg/\Qg<=b.size)/\Qn+Qg+y<=na+nb) c)
   (Q:=λc PD=>Ql st PD/\(Xr (λr=>Res (kl key) a.toList b.toList r.toList) c\/Y5 (λQn Qg out=>(MH (kl key) a.toList b.toList out.reverse.toList Qn Qg/\0<Qn/\Qn<=a.size/\1<Qg/\Qg<=b.size)/\Qn+Qg+1<=na+nb) c)) ?s1 ?f1 ⟨S,na,nb,out,0,0,rfl,hM.1,by lia⟩) ?p1)
  case f1=>
   rintro c Pj ⟨S,Qn,Qg,out,ac,bc,rfl,⟨M,h1,Td,h2,R3⟩,h3⟩
   exact ⟨S,.inr ⟨Qn,Qg,out,ac,bc,rfl,⟨M,h1,Td,h2,R3⟩,by lia⟩⟩
  case s1=>
   intro y c Pj _ hy hJ
   refine Y5.el hJ.2 λQn Qg out ac bc hM=>?_
   have S:=hJ.1
   have M:=hM.1.1
   have h1:=hM.1.2.1
   have Td:=hM.1.2.2.1
   have h2:=hM.1.2.2.2.1
   have R3:=hM.1.2.2.2.2
   have h3:=hM.2
   refine HB (aU (show Qg-1<b.size by lia) (HB (aU (show Qn-1<a.size by lia) (HB (mK C (pb _ (by lia)) (pa _ (by lia)) (S.1.trans hk) ?_)))))
   refine cB (c:=O.blt (key (at_ b (Qg-1))) (key (at_ a (Qn-1)))=true) (λhc=>?_) λhc=>?_
   ·refine HB (aU (show Qn-1<a.size by lia) ?_)
    have M1:=V4 M h1 Td λx hx=>IF (tB R3 hx) (Ja hc)
    refine cB (λe=>HG ⟨S,.inl ⟨_,_,rfl,dn M1 (.inl (by simpa using e))⟩⟩) λe=>?_
    have e:¬(Qn-1=0):=by simpa using e
    exact cB (λ_=>HG ⟨S,.inr ⟨_,_,_,_,_,rfl,⟨M1,by lia,by lia,by lia,by lia⟩,by lia⟩⟩) λ_=>HG ⟨S,_,_,_,_,_,rfl,⟨M1,by lia,by lia,by lia,by lia⟩,by lia⟩
   ·have hc:O.blt (key (at_ b (Qg-1))) (key (at_ a (Qn-1)))=false:=by simpa using hc
    refine HB (aU (show Qg-1<b.size by lia) ?_)
    have M1:=V5 M (by lia) R3 λx hx=>IF (tA Td hx) (show kl key (at_ a (Qn-1)) (at_ b (Qg-1)) from hc)
    refine cB (λe=>HG ⟨S,.inl ⟨_,_,rfl,fi M1 (by simpa using e)⟩⟩) λe=>?_
    have e:¬(Qg-1=1):=by simpa using e
    exact cB (λ_=>HG ⟨S,.inr ⟨_,_,_,_,_,rfl,⟨M1,by lia,by lia,by lia,by lia⟩,by lia⟩⟩) λ_=>HG ⟨S,_,_,_,_,_,rfl,⟨M1,by lia,by lia,by lia,by lia⟩,by lia⟩
  case p1=>
   intro c Pj q
   refine Xr.el q.2 (λr z R=>HG ⟨q.1,_,_,rfl,R⟩) λhX=>Y5.el hX λQn Qg out ac bc hM=>?_
   have S:=q.1
   refine HB (MR (Kc ⟨rfl,?_⟩))
   refine HB (JJ (IR (I:=λy c PD=>Ql st PD/\Y6 (λQn Qg out=>(MH (kl key) a.toList b.toList out.reverse.toList Qn Qg/\0<Qn/\Qn<=a.size/\1<Qg/\Qg<=b.size)/\Qn+Qg+1<=na+nb) c)
    (Q:=λc PD=>Ql st PD/\(Xr (λr=>Res (kl key) a.toList b.toList r.toList) c\/Y6 (λQn Qg out=>(MH (kl key) a.toList b.toList out.reverse.toList Qn Qg/\0<Qn/\Qn<=a.size/\1<Qg/\Qg<=b.size)/\Qn+Qg+1<=na+nb) c)) ?s2 ?f2 ⟨S,Qn,Qg,out,_,ac,bc,rfl,hM⟩) ?p2)
   case f2=>exact λc Qi q=>⟨q.1,.inr q.2⟩
   case p2=>exact λc Qi q=>Xr.el q.2 (λr z R=>HG ⟨q.1,_,_,rfl,R⟩) λhX=>Y6.el hX λQn Qg out mg ac bc hM=>HB (Jo (HG ⟨q.1,_,_,_,_,rfl,hM.1,by have:=hM.2;lia⟩))
   case s2=>
    intro y c Qi _ hy hJ
    refine Y6.el hJ.2 λQn Qg out mg ac bc hM=>?_
    have S:=hJ.1
    have M:=hM.1.1
    have h1:=hM.1.2.1
    have Td:=hM.1.2.2.1
    have h2:=hM.1.2.2.2.1
    have R3:=hM.1.2.2.2.2
    have h3:=hM.2
    revert mg
    refine An (c:=λmg=>mg>1) (λmg next=>?_) λmg'=>?_
    ·exact next _
    refine HB (Jo ?_)
    refine HB (aU (show Qg-1<b.size by lia) (HB (gM C (S.1.trans hk) (show Qn-1<Qn by lia) (by lia) (λi hi=>pa _ (by lia)) (pb _ (by lia)) (pR sA (by lia)) λk z1 z2 z3=>?_)))
    simp only[Lc] at z2 z3
    dsimp -zeta only
    extract_lets +lift +onlyGivenNames u1 u2 u3 w1 w2 jp
    have le1:∀x∈a.toList.take k,kl key x (at_ b (Qg-1)):=λx hx=>by
     obtain ⟨j,g1,g2,rfl⟩:=jY hx
     exact mM (z2 j g1)
    have z1:k<=Qn:=z1
    have M1:=XJ (k:=k) M z1 λx hx j g1 g2=>IF (tB R3 hx) (Ja (uF (z3 j g1 g2)))
    refine Ap (F:=jp) (c:=u1>0) (λi o=>MH (kl key) a.toList b.toList o.reverse.toList i Qg/\0<i/\i<=Qn/\∀x∈a.toList.take i,kl key x (at_ b (Qg-1))) (λTv next=>?_) (λTv=>?_) λVf out2 hC=>?_
    ·refine cB (λe=>HG ⟨S,.inl ⟨_,_,rfl,dn M1 (.inl (beq_iff_eq.mp e))⟩⟩) λe=>?_
     have e:¬(k=0):=λz=>e (beq_iff_eq.mpr z)
     exact next _ _ ⟨M1,by lia,z1,le1⟩
    ·have Tv:¬(Qn-k>0):=Tv
     obtain rfl:k=Qn:=by lia
     exact ⟨M,h1,HA _,le1⟩
    have i1:=hC.2.1
    have i2:=hC.2.2.1
    refine HB (aU (show Qg-1<b.size by lia) ?_)
    have M2:=V5 hC.1 (by lia) R3 hC.2.2.2
    refine cB (λe3=>HG ⟨S,.inl ⟨_,_,rfl,fi M2 (beq_iff_eq.mp e3)⟩⟩) λe3=>?_
    have e3:¬(Qg-1=1):=λz=>e3 (beq_iff_eq.mpr z)
    refine HB (aU (show Vf-1<a.size by lia) (HB (gM C (S.1.trans hk) (show Qg-1-1<Qg-1 by lia) (by lia) (λi hi=>pb _ (by lia)) (pa _ (by lia)) (pS sB (by lia)) λk2 y1 y2 y3=>?_)))
    simp only[Lc] at y2 y3
    have XO:∀x∈b.toList.take k2,kl key x (at_ a (Vf-1)):=λx hx=>by
     obtain ⟨j,g1,g2,rfl⟩:=jY hx
     exact Ja (mO (y2 j g1))
    have y1:k2<=Qg-1:=y1
    have M3:=XM (k:=k2) M2 y1 λx hx j g1 g2=>IF (tA (by lia) hx) (uG (y3 j g1 g2))
    dsimp -zeta only
    extract_lets +lift +onlyGivenNames v1 v2 XN
    refine Ap (F:=XN) (c:=v1>0) (λi o=>MH (kl key) a.toList b.toList o.reverse.toList Vf i/\1<i/\i<=Qg-1/\∀x∈b.toList.take i,kl key x (at_ a (Vf-1))) (λTv next=>?_) (λTv=>?_) λnb2 out3 hD=>?_
    ·refine cB (λe=>HG ⟨S,.inl ⟨_,_,rfl,fi M3 (beq_iff_eq.mp e)⟩⟩) λe=>?_
     refine cB (λe'=>HG ⟨S,.inl ⟨_,_,rfl,dn M3 (.inr (beq_iff_eq.mp e'))⟩⟩) λe'=>?_
     have e:¬(k2=1):=λz=>e (beq_iff_eq.mpr z)
     have e':¬(k2=0):=λz=>e' (beq_iff_eq.mpr z)
     exact next _ _ ⟨M3,by lia,y1,XO⟩
    ·have Tv:¬(Qg-1-k2>0):=Tv
     have hz:k2=Qg-1:=by lia
     rw[hz] at XO
     exact ⟨M2,by lia,HA _,XO⟩
    have j1:=hD.2.1
    have j2:=hD.2.2.1
    refine HB (aU (show Vf-1<a.size by lia) ?_)
    have M4:=V4 hD.1 i1 (by lia) hD.2.2.2
    refine cB (λe5=>HG ⟨S,.inl ⟨_,_,rfl,dn M4 (.inl (beq_iff_eq.mp e5))⟩⟩) λe5=>?_
    have e5:¬(Vf-1=0):=λz=>e5 (beq_iff_eq.mpr z)
    exact cB (λ_=>HG ⟨S,.inr ⟨_,_,_,_,_,_,rfl,⟨M4,by lia,by lia,by lia,by lia⟩,by lia⟩⟩) λ_=>HG ⟨S,_,_,_,_,_,_,rfl,⟨M4,by lia,by lia,by lia,by lia⟩,by lia⟩
end
end Tim
end
section
namespace Tim
open PySem PyProof.Rows
section
variable {prog:Ip} {w:Ji} {A:Js} {E:Ht->Hv->Prop} {s:Hv} {κ:LK} {O:MC} {key:HZ->O.α} {P:HZ->Prop}
def Sg {O:MC} (key:HZ->O.α) (a:Array HZ) (lo hi:Nat):Prop:=∀i j,lo<=i->i<=j->j<hi->kl key (at_ a i) (at_ a j)
def Fl {O:MC} (key:HZ->O.α) (a:Array HZ) (lo hi:Nat):Prop:=∀i j,lo<=i->i<=j->j<hi->kl key (at_ a j) (at_ a i)
structure Mv (lo:Nat) (st Pt:JK):Prop where
 kind:kindOf Pt=kindOf st
 pend:Il Pt=Il st
 fail:KI Pt=KI st
 perm:(HE Pt).Perm (HE st)
 pre:∀i,i<lo->(HE Pt)[i]?=(HE st)[i]?
theorem Mv.rfl' {lo:Nat} {st:JK}:Mv lo st st:=⟨rfl,rfl,rfl,Mb _,λ_ _=>rfl⟩
theorem Mv.size {lo:Nat} {st Pt:JK} (h:Mv lo st Pt):(HE Pt).size=(HE st).size:=h.perm.size_eq
theorem Mv.all {lo:Nat} {st Pt:JK} (h:Mv lo st Pt) (hP:∀x∈(HE st).toList,P x):∀x∈(HE Pt).toList,P x:=λx hx=>hP x ((Array.perm_iff_toList_perm.mp h.perm).mem_iff.mp hx)
theorem b7 {xs:Array HZ} {i j:Nat} (hj:j<=xs.size) (k:Nat):at_ (KC xs i j ((j-i) / 2)) k=if i<=k/\k<j then at_ xs (i+j-1-k) else at_ xs k:=by
 have z:=NY (i:=i) hj k
 by_cases c:i<=k/\k<j
 ·rw[if_pos c] at z ⊢;exact bj z
 ·rw[if_neg c] at z ⊢;exact bj z
theorem dA {xs:Array HZ} {i j:Nat} (hj:j<=xs.size) (he:∀k,i<=k->k<j->key (at_ xs k)=key (at_ xs (j-1))) (k:Nat):key (at_ (KC xs i j ((j-i) / 2)) k)=key (at_ xs k):=by
 rw[b7 hj]
 split
 ·rename_i c;rw[he _ (by lia) (by lia),he k c.1 c.2]
 ·rfl
theorem Mv.rev {lo:Nat} {st Pt:JK} (h:Mv lo st Pt) {i j:Nat} (hi:lo<=i) (hj:j<=(HE Pt).size):Mv lo st (Mj Pt (KC (HE Pt) i j ((j-i) / 2))):=
 ⟨h.kind,h.pend,h.fail,(mirror_perm _ _ _ _).trans h.perm,λk hk=>by
  rw[<- h.pre k hk]
  show (KC (HE Pt) i j ((j-i) / 2))[k]?=_
  rw[NY hj,if_neg (by lia)]⟩
theorem cC (C:gL prog w A s κ O key P) {st:JK} {i j:Nat} {Q:Option Bool->JK->Prop} (hk:kindOf st=κ) (hP:∀x∈(HE st).toList,P x) (hi:i<(HE st).size) (hj:j<(HE st).size)
  (h:Q (some (O.blt (key (at_ (HE st) i)) (key (at_ (HE st) j)))) st):wpS (IB prog w) A E s (ltAt' i j) Q st:=by
 rw[ltAt'_eq]
 refine HB (LV (HB (aU hi (HB (aU hj (mK C (hP _ (fh hi)) (hP _ (fh hj)) hk h))))))
theorem Sg.one {a:Array HZ} {lo:Nat}:Sg key a lo (lo+1):=λi j h1 h2 h3=>by
 rw[show i=j by lia];exact Ks _
theorem Sg.more {a:Array HZ} {lo n:Nat} (h:Sg key a lo (lo+n)) (h1:1<=n) (q:kl key (at_ a (lo+n-1)) (at_ a (lo+n))):Sg key a lo (lo+(n+1)):=λi j z1 z2 z3=>by
 by_cases hj:j=lo+n
 ·subst hj
  by_cases hi:i=lo+n
  ·subst hi;exact Ks _
  ·exact IF (h i (lo+n-1) z1 (by lia) (by lia)) q
 ·exact h i j z1 z2 (by lia)
theorem Fl.more {a:Array HZ} {lo n:Nat} (h:Fl key a lo (lo+n)) (h1:1<=n) (q:kl key (at_ a (lo+n)) (at_ a (lo+n-1))):Fl key a lo (lo+(n+1)):=λi j z1 z2 z3=>by
 by_cases hj:j=lo+n
 ·subst hj
  by_cases hi:i=lo+n
  ·subst hi;exact Ks _
  ·exact IF q (h i (lo+n-1) z1 (by lia) (by lia))
 ·exact h i j z1 z2 (by lia)
theorem Fl.congr {a b:Array HZ} {lo hi:Nat} (h:Fl key a lo hi) (e:∀k,key (at_ b k)=key (at_ a k)):Fl key b lo hi:=λi j z1 z2 z3=>by
 show O.kle _ _
 rw[e,e];exact h i j z1 z2 z3
theorem Dr (C:gL prog w A s κ O key P) {st:JK} {lo PV:Nat} {Q:Option Nat->JK->Prop} (hk:kindOf st=κ) (hP:∀x∈(HE st).toList,P x) (hz:lo+PV<=(HE st).size) (h1:1<=PV)
  (h:∀n Pt,Mv lo st Pt->1<=n->n<=PV->Sg key (HE Pt) lo (lo+n)->Q (some n) Pt):wpS (IB prog w) A E s (countRun' lo PV) Q st:=by
 rw[countRun'_eq]
 refine HB (JJ (IR (I:=λk c Pt=>Pt=st/\c=(none,k)/\k<=PV/\1<=k/\Sg key (HE st) lo (lo+k))
  (Q:=λc Pt=>Pt=st/\∃n,c=(none,n)/\1<=n/\n<=PV/\Sg key (HE st) lo (lo+n)/\(n<PV->O.klt (key (at_ (HE st) (lo+n))) (key (at_ (HE st) (lo+n-1))))) ?step ?fin ⟨rfl,rfl,h1,by lia,Sg.one⟩) ?post)
 case fin=>
  rintro c Pt ⟨rfl,rfl,a1,a2,a3⟩
  exact ⟨rfl,_,rfl,by lia,by lia,a3,λz=>by lia⟩
 case step=>
  rintro k c Pt _ TY ⟨rfl,rfl,a1,a2,a3⟩
  dsimp only
  refine HB (cC C hk hP (by lia) (by lia) ?_)
  dsimp only
  cases hc:O.blt (key (at_ (HE Pt) (lo+k))) (key (at_ (HE Pt) (lo+k-1))) with
  | true=>rw[if_pos rfl];exact HG ⟨rfl,k,rfl,a2,a1,a3,λ_=>hc⟩
  | false=>rw[if_neg (by simp)];exact HG ⟨rfl,rfl,by lia,by lia,a3.more a2 hc⟩
 case post=>
  rintro c Pt ⟨rfl,n,rfl,n1,n2,n3,n4⟩
  dsimp only
  by_cases e:n=PV
  ·rw[if_pos (by simpa using e)]
   exact HG (h n Pt Mv.rfl' n1 n2 n3)
  rw[if_neg (by simpa using e)]
  have n4:=n4 (by lia)
  by_cases hn:n>1
  ·rw[if_pos hn]
   refine HB (cC C hk hP (by lia) (by lia) ?_)
   dsimp only
   cases hc:O.blt (key (at_ (HE Pt) lo)) (key (at_ (HE Pt) (lo+n-1))) with
   | true=>rw[if_pos rfl];exact HG (h n Pt Mv.rfl' n1 n2 n3)
   | false=>
    rw[if_neg (by simp),JI]
    have eq:∀k,lo<=k->k<lo+n->key (at_ (HE Pt) k)=key (at_ (HE Pt) (lo+n-1)):=λk k1 k2=>
     KeyOrd.kle_antisymm (n3 k (lo+n-1) k1 (by lia) (by lia)) (IF hc (n3 lo k (by lia) k1 (by lia)))
    have ek:=dA (key:=key) (xs:=HE Pt) (i:=lo) (j:=lo+n) (by lia) eq
    refine HB (Jo ?_)
    have M1:=(Mv.rfl' (lo:=lo) (st:=Pt)).rev (i:=lo) (j:=lo+n) (HA _) (by lia)
    have F1:Fl key (HE (Mj Pt (KC (HE Pt) lo (lo+n) ((lo+n-lo) / 2)))) lo (lo+(n+1)):=by
     refine Fl.congr (a:=HE Pt) (Fl.more (λi j z1 z2 z3=>?_) n1 (Ja n4)) ek
     show O.kle _ _
     rw[eq i z1 (by lia),eq j (by lia) z3];exact Ks _
    generalize Mj Pt (KC (HE Pt) lo (lo+n) ((lo+n-lo) / 2))=Pq at M1 F1 ⊢
    refine HB (MR (Kc ⟨rfl,?_⟩))
    refine HB (JJ (IR (I:=λk c Pj=>Mv lo Pt Pj/\∃q,c=(none,k,q)/\k<=PV/\q+1<=k/\Fl key (HE Pj) lo (lo+k)/\(∀i,lo+k-(q+1)<=i->i<lo+k->key (at_ (HE Pj) i)=key (at_ (HE Pj) (lo+k-1))))
     (Q:=λc Pj=>Mv lo Pt Pj/\∃k q,c=(none,k,q)/\k<=PV/\q+1<=k/\Fl key (HE Pj) lo (lo+k)/\(∀i,lo+k-(q+1)<=i->i<lo+k->key (at_ (HE Pj) i)=key (at_ (HE Pj) (lo+k-1)))) ?dstep ?dfin ⟨M1,0,rfl,by lia,by lia,F1,λi g1 g2=>by rw[show i=lo+(n+1)-1 by lia]⟩) ?dpost)
    case dfin=>
     rintro c Pj ⟨M2,q,rfl,a1,a2,a3,a4⟩
     exact ⟨M2,_,q,rfl,a1,a2,a3,a4⟩
    case dstep=>
     rintro k c Pj Us TY ⟨M2,q,rfl,a1,a2,a3,a4⟩
     have Ut:lo+PV<=(HE Pj).size:=by rw[M2.size];exact hz
     have Q5:kindOf Pj=κ:=M2.kind.trans hk
     have V6:=M2.all hP
     dsimp only
     refine HB (cC C Q5 V6 (by lia) (by lia) ?_)
     dsimp only
     cases hc:O.blt (key (at_ (HE Pj) (lo+k))) (key (at_ (HE Pj) (lo+k-1))) with
     | true=>
      rw[if_pos rfl]
      have F2:=a3.more (by lia) (Ja hc)
      by_cases hq:q>0
      ·rw[if_pos hq,JI]
       have ek:=dA (key:=key) (xs:=HE Pj) (i:=lo+k-(q+1)) (j:=lo+k) (by lia) a4
       refine HB (Jo (HG ⟨M2.rev (by lia) (by lia),0,rfl,by lia,by lia,F2.congr ek,λi g1 g2=>?_⟩))
       rw[show i=lo+(k+1)-1 by lia]
      ·rw[if_neg hq]
       exact HG ⟨M2,0,rfl,by lia,by lia,F2,λi g1 g2=>by rw[show i=lo+(k+1)-1 by lia]⟩
     | false=>
      rw[if_neg (by simp)]
      refine HB (cC C Q5 V6 (by lia) (by lia) ?_)
      dsimp only
      cases hd:O.blt (key (at_ (HE Pj) (lo+k-1))) (key (at_ (HE Pj) (lo+k))) with
      | true=>rw[if_pos rfl];exact HG ⟨M2,k,q,rfl,a1,a2,a3,a4⟩
      | false=>
       rw[if_neg (by simp)]
       have eq1:key (at_ (HE Pj) (lo+k))=key (at_ (HE Pj) (lo+k-1)):=O.total _ _ hc hd
       refine HG ⟨M2,q+1,rfl,by lia,by lia,a3.more (by lia) hd,λi g1 g2=>?_⟩
       rw[show lo+(k+1)-1=lo+k by lia]
       by_cases hi:i=lo+k
       ·rw[hi]
       ·rw[eq1];exact a4 i (by lia) (by lia)
    case dpost=>
     rintro c Pj ⟨M2,k,q,rfl,a1,a2,a3,a4⟩
     have Ut:lo+PV<=(HE Pj).size:=by rw[M2.size];exact hz
     dsimp only
     by_cases hq:q>0
     ·rw[if_pos hq,JI]
      have ek:=dA (key:=key) (xs:=HE Pj) (i:=lo+k-(q+1)) (j:=lo+k) (by lia) a4
      refine HB (Jo ?_)
      have M3:=M2.rev (i:=lo+k-(q+1)) (j:=lo+k) (by lia) (by lia)
      have F3:Fl key (HE (Mj Pj (KC (HE Pj) (lo+k-(q+1)) (lo+k) ((lo+k-(lo+k-(q+1))) / 2)))) lo (lo+k):=a3.congr ek
      generalize Mj Pj (KC (HE Pj) (lo+k-(q+1)) (lo+k) ((lo+k-(lo+k-(q+1))) / 2))=Qi at M3 F3 ⊢
      have V7:lo+PV<=(HE Qi).size:=by rw[M3.size];exact hz
      rw[JI]
      refine HB (Jo ?_)
      have M4:=M3.rev (i:=lo) (j:=lo+k) (HA _) (by lia)
      have S4:Sg key (HE (Mj Qi (KC (HE Qi) lo (lo+k) ((lo+k-lo) / 2)))) lo (lo+k):=λi j g1 g2 g3=>by
       show kl key (at_ (KC (HE Qi) lo (lo+k) ((lo+k-lo) / 2)) i) (at_ (KC (HE Qi) lo (lo+k) ((lo+k-lo) / 2)) j)
       rw[b7 (by lia),b7 (by lia),if_pos ⟨g1,by lia⟩,if_pos ⟨by lia,g3⟩]
       exact F3 _ _ (by lia) (by lia) (by lia)
      generalize Mj Qi (KC (HE Qi) lo (lo+k) ((lo+k-lo) / 2))=PZ at M4 S4 ⊢
      have XQ:lo+PV<=(HE PZ).size:=by rw[M4.size];exact hz
      have Uu:kindOf PZ=κ:=M4.kind.trans hk
      have Uv:=M4.all hP
      refine HB (JJ (IR (I:=λi c Py=>Py=PZ/\c=(none,i)/\i<=PV/\1<=i/\Sg key (HE PZ) lo (lo+i)) (Q:=λc Py=>Py=PZ/\∃i,c=(none,i)/\i<=PV/\1<=i/\Sg key (HE PZ) lo (lo+i)) ?tstep ?tfin ⟨rfl,rfl,a1,by lia,S4⟩) ?tpost)
      case tfin=>
       rintro c Py ⟨rfl,rfl,b1,b2,b3⟩
       exact ⟨rfl,_,rfl,b1,b2,b3⟩
      case tstep=>
       rintro i c Py _ hi ⟨rfl,rfl,b1,b2,b3⟩
       dsimp only
       refine HB (cC C Uu Uv (by lia) (by lia) ?_)
       dsimp only
       cases hc:O.blt (key (at_ (HE Py) (lo+i))) (key (at_ (HE Py) (lo+i-1))) with
       | true=>rw[if_pos rfl];exact HG ⟨rfl,i,rfl,b1,b2,b3⟩
       | false=>rw[if_neg (by simp)];exact HG ⟨rfl,rfl,by lia,by lia,b3.more b2 hc⟩
      case tpost=>
       rintro c Py ⟨rfl,i,rfl,b1,b2,b3⟩
       exact HG (h i Py M4 b2 b1 b3)
     ·rw[if_neg hq]
      have M3:=M2
      have F3:=a3
      have V7:lo+PV<=(HE Pj).size:=by rw[M3.size];exact hz
      rw[JI]
      refine HB (Jo ?_)
      have M4:=M3.rev (i:=lo) (j:=lo+k) (HA _) (by lia)
      have S4:Sg key (HE (Mj Pj (KC (HE Pj) lo (lo+k) ((lo+k-lo) / 2)))) lo (lo+k):=λi j g1 g2 g3=>by
       show kl key (at_ (KC (HE Pj) lo (lo+k) ((lo+k-lo) / 2)) i) (at_ (KC (HE Pj) lo (lo+k) ((lo+k-lo) / 2)) j)
       rw[b7 (by lia),b7 (by lia),if_pos ⟨g1,by lia⟩,if_pos ⟨by lia,g3⟩]
       exact F3 _ _ (by lia) (by lia) (by lia)
      generalize Mj Pj (KC (HE Pj) lo (lo+k) ((lo+k-lo) / 2))=PZ at M4 S4 ⊢
      have XQ:lo+PV<=(HE PZ).size:=by rw[M4.size];exact hz
      have Uu:kindOf PZ=κ:=M4.kind.trans hk
      have Uv:=M4.all hP
      refine HB (JJ (IR (I:=λi c Py=>Py=PZ/\c=(none,i)/\i<=PV/\1<=i/\Sg key (HE PZ) lo (lo+i)) (Q:=λc Py=>Py=PZ/\∃i,c=(none,i)/\i<=PV/\1<=i/\Sg key (HE PZ) lo (lo+i)) ?tstep ?tfin ⟨rfl,rfl,a1,by lia,S4⟩) ?tpost)
      case tfin=>
       rintro c Py ⟨rfl,rfl,b1,b2,b3⟩
       exact ⟨rfl,_,rfl,b1,b2,b3⟩
      case tstep=>
       rintro i c Py _ hi ⟨rfl,rfl,b1,b2,b3⟩
       dsimp only
       refine HB (cC C Uu Uv (by lia) (by lia) ?_)
       dsimp only
       cases hc:O.blt (key (at_ (HE Py) (lo+i))) (key (at_ (HE Py) (lo+i-1))) with
       | true=>rw[if_pos rfl];exact HG ⟨rfl,i,rfl,b1,b2,b3⟩
       | false=>rw[if_neg (by simp)];exact HG ⟨rfl,rfl,by lia,by lia,b3.more b2 hc⟩
      case tpost=>
       rintro c Py ⟨rfl,i,rfl,b1,b2,b3⟩
       exact HG (h i Py M4 b2 b1 b3)
  ·rw[if_neg hn]
   have XR:n=1:=by lia
   subst XR
   have M1:Mv lo Pt Pt:=Mv.rfl'
   have F1:Fl key (HE Pt) lo (lo+(1+1)):=Fl.more (λi j z1 z2 z3=>by rw[show i=j by lia];exact Ks _) (HA _) (Ja n4)
   refine HB (MR (Kc ⟨rfl,?_⟩))
   refine HB (JJ (IR (I:=λk c Pj=>Mv lo Pt Pj/\∃q,c=(none,k,q)/\k<=PV/\q+1<=k/\Fl key (HE Pj) lo (lo+k)/\(∀i,lo+k-(q+1)<=i->i<lo+k->key (at_ (HE Pj) i)=key (at_ (HE Pj) (lo+k-1))))
    (Q:=λc Pj=>Mv lo Pt Pj/\∃k q,c=(none,k,q)/\k<=PV/\q+1<=k/\Fl key (HE Pj) lo (lo+k)/\(∀i,lo+k-(q+1)<=i->i<lo+k->key (at_ (HE Pj) i)=key (at_ (HE Pj) (lo+k-1)))) ?dstep ?dfin ⟨M1,0,rfl,by lia,by lia,F1,λi g1 g2=>by rw[show i=lo+(1+1)-1 by lia]⟩) ?dpost)
   case dfin=>
    rintro c Pj ⟨M2,q,rfl,a1,a2,a3,a4⟩
    exact ⟨M2,_,q,rfl,a1,a2,a3,a4⟩
   case dstep=>
    rintro k c Pj Us TY ⟨M2,q,rfl,a1,a2,a3,a4⟩
    have Ut:lo+PV<=(HE Pj).size:=by rw[M2.size];exact hz
    have Q5:kindOf Pj=κ:=M2.kind.trans hk
    have V6:=M2.all hP
    dsimp only
    refine HB (cC C Q5 V6 (by lia) (by lia) ?_)
    dsimp only
    cases hc:O.blt (key (at_ (HE Pj) (lo+k))) (key (at_ (HE Pj) (lo+k-1))) with
    | true=>
     rw[if_pos rfl]
     have F2:=a3.more (by lia) (Ja hc)
     by_cases hq:q>0
     ·rw[if_pos hq,JI]
      have ek:=dA (key:=key) (xs:=HE Pj) (i:=lo+k-(q+1)) (j:=lo+k) (by lia) a4
      refine HB (Jo (HG ⟨M2.rev (by lia) (by lia),0,rfl,by lia,by lia,F2.congr ek,λi g1 g2=>?_⟩))
      rw[show i=lo+(k+1)-1 by lia]
     ·rw[if_neg hq]
      exact HG ⟨M2,0,rfl,by lia,by lia,F2,λi g1 g2=>by rw[show i=lo+(k+1)-1 by lia]⟩
    | false=>
     rw[if_neg (by simp)]
     refine HB (cC C Q5 V6 (by lia) (by lia) ?_)
     dsimp only
     cases hd:O.blt (key (at_ (HE Pj) (lo+k-1))) (key (at_ (HE Pj) (lo+k))) with
     | true=>rw[if_pos rfl];exact HG ⟨M2,k,q,rfl,a1,a2,a3,a4⟩
     | false=>
      rw[if_neg (by simp)]
      have eq1:key (at_ (HE Pj) (lo+k))=key (at_ (HE Pj) (lo+k-1)):=O.total _ _ hc hd
      refine HG ⟨M2,q+1,rfl,by lia,by lia,a3.more (by lia) hd,λi g1 g2=>?_⟩
      rw[show lo+(k+1)-1=lo+k by lia]
      by_cases hi:i=lo+k
      ·rw[hi]
      ·rw[eq1];exact a4 i (by lia) (by lia)
   case dpost=>
    rintro c Pj ⟨M2,k,q,rfl,a1,a2,a3,a4⟩
    have Ut:lo+PV<=(HE Pj).size:=by rw[M2.size];exact hz
    dsimp only
    by_cases hq:q>0
    ·rw[if_pos hq,JI]
     have ek:=dA (key:=key) (xs:=HE Pj) (i:=lo+k-(q+1)) (j:=lo+k) (by lia) a4
     refine HB (Jo ?_)
     have M3:=M2.rev (i:=lo+k-(q+1)) (j:=lo+k) (by lia) (by lia)
     have F3:Fl key (HE (Mj Pj (KC (HE Pj) (lo+k-(q+1)) (lo+k) ((lo+k-(lo+k-(q+1))) / 2)))) lo (lo+k):=a3.congr ek
     generalize Mj Pj (KC (HE Pj) (lo+k-(q+1)) (lo+k) ((lo+k-(lo+k-(q+1))) / 2))=Qi at M3 F3 ⊢
     have V7:lo+PV<=(HE Qi).size:=by rw[M3.size];exact hz
     rw[JI]
     refine HB (Jo ?_)
     have M4:=M3.rev (i:=lo) (j:=lo+k) (HA _) (by lia)
     have S4:Sg key (HE (Mj Qi (KC (HE Qi) lo (lo+k) ((lo+k-lo) / 2)))) lo (lo+k):=λi j g1 g2 g3=>by
      show kl key (at_ (KC (HE Qi) lo (lo+k) ((lo+k-lo) / 2)) i) (at_ (KC (HE Qi) lo (lo+k) ((lo+k-lo) / 2)) j)
      rw[b7 (by lia),b7 (by lia),if_pos ⟨g1,by lia⟩,if_pos ⟨by lia,g3⟩]
      exact F3 _ _ (by lia) (by lia) (by lia)
     generalize Mj Qi (KC (HE Qi) lo (lo+k) ((lo+k-lo) / 2))=PZ at M4 S4 ⊢
     have XQ:lo+PV<=(HE PZ).size:=by rw[M4.size];exact hz
     have Uu:kindOf PZ=κ:=M4.kind.trans hk
     have Uv:=M4.all hP
     refine HB (JJ (IR (I:=λi c Py=>Py=PZ/\c=(none,i)/\i<=PV/\1<=i/\Sg key (HE PZ) lo (lo+i)) (Q:=λc Py=>Py=PZ/\∃i,c=(none,i)/\i<=PV/\1<=i/\Sg key (HE PZ) lo (lo+i)) ?tstep ?tfin ⟨rfl,rfl,a1,by lia,S4⟩) ?tpost)
     case tfin=>
      rintro c Py ⟨rfl,rfl,b1,b2,b3⟩
      exact ⟨rfl,_,rfl,b1,b2,b3⟩
     case tstep=>
      rintro i c Py _ hi ⟨rfl,rfl,b1,b2,b3⟩
      dsimp only
      refine HB (cC C Uu Uv (by lia) (by lia) ?_)
      dsimp only
      cases hc:O.blt (key (at_ (HE Py) (lo+i))) (key (at_ (HE Py) (lo+i-1))) with
      | true=>rw[if_pos rfl];exact HG ⟨rfl,i,rfl,b1,b2,b3⟩
      | false=>rw[if_neg (by simp)];exact HG ⟨rfl,rfl,by lia,by lia,b3.more b2 hc⟩
     case tpost=>
      rintro c Py ⟨rfl,i,rfl,b1,b2,b3⟩
      exact HG (h i Py M4 b2 b1 b3)
    ·rw[if_neg hq]
     have M3:=M2
     have F3:=a3
     have V7:lo+PV<=(HE Pj).size:=by rw[M3.size];exact hz
     rw[JI]
     refine HB (Jo ?_)
     have M4:=M3.rev (i:=lo) (j:=lo+k) (HA _) (by lia)
     have S4:Sg key (HE (Mj Pj (KC (HE Pj) lo (lo+k) ((lo+k-lo) / 2)))) lo (lo+k):=λi j g1 g2 g3=>by
      show kl key (at_ (KC (HE Pj) lo (lo+k) ((lo+k-lo) / 2)) i) (at_ (KC (HE Pj) lo (lo+k) ((lo+k-lo) / 2)) j)
      rw[b7 (by lia),b7 (by lia),if_pos ⟨g1,by lia⟩,if_pos ⟨by lia,g3⟩]
      exact F3 _ _ (by lia) (by lia) (by lia)
     generalize Mj Pj (KC (HE Pj) lo (lo+k) ((lo+k-lo) / 2))=PZ at M4 S4 ⊢
     have XQ:lo+PV<=(HE PZ).size:=by rw[M4.size];exact hz
     have Uu:kindOf PZ=κ:=M4.kind.trans hk
     have Uv:=M4.all hP
     refine HB (JJ (IR (I:=λi c Py=>Py=PZ/\c=(none,i)/\i<=PV/\1<=i/\Sg key (HE PZ) lo (lo+i)) (Q:=λc Py=>Py=PZ/\∃i,c=(none,i)/\i<=PV/\1<=i/\Sg key (HE PZ) lo (lo+i)) ?tstep ?tfin ⟨rfl,rfl,a1,by lia,S4⟩) ?tpost)
     case tfin=>
      rintro c Py ⟨rfl,rfl,b1,b2,b3⟩
      exact ⟨rfl,_,rfl,b1,b2,b3⟩
     case tstep=>
      rintro i c Py _ hi ⟨rfl,rfl,b1,b2,b3⟩
      dsimp only
      refine HB (cC C Uu Uv (by lia) (by lia) ?_)
      dsimp only
      cases hc:O.blt (key (at_ (HE Py) (lo+i))) (key (at_ (HE Py) (lo+i-1))) with
      | true=>rw[if_pos rfl];exact HG ⟨rfl,i,rfl,b1,b2,b3⟩
      | false=>rw[if_neg (by simp)];exact HG ⟨rfl,rfl,by lia,by lia,b3.more b2 hc⟩
     case tpost=>
      rintro c Py ⟨rfl,i,rfl,b1,b2,b3⟩
      exact HG (h i Py M4 b2 b1 b3)
theorem Ds (C:gL prog w A s κ O key P) {st:JK} {lo n ok:Nat} {Q:Bool->JK->Prop} (hk:kindOf st=κ) (hP:∀x∈(HE st).toList,P x) (hz:lo+n<=(HE st).size) (ho:1<=ok) (hn:ok<=n) (hs:Sg key (HE st) lo (lo+ok))
  (h:∀Pt,Mv lo st Pt->Sg key (HE Pt) lo (lo+n)->Q true Pt):wpS (IB prog w) A E s (binarySort' lo n ok) Q st:=by
 rw[binarySort'_eq]
 refine HB (JJ (IR (I:=λk c Pt=>c=(none,())/\Mv lo st Pt/\k<=n/\Sg key (HE Pt) lo (lo+k)) (Q:=λc Pt=>c=(none,())/\Mv lo st Pt/\Sg key (HE Pt) lo (lo+n)) ?step ?fin ⟨rfl,Mv.rfl',by lia,by rw[show max ok 1=ok by lia];exact hs⟩) ?post)
 case post=>
  rintro c Pt ⟨rfl,M,S⟩
  exact HG (h Pt M S)
 case fin=>
  rintro c Pt ⟨hc,M,TY,S⟩
  rw[show max (max ok 1) n=n by lia] at S
  exact ⟨hc,M,S⟩
 case step=>
  rintro k c Pt hak TY ⟨rfl,M,_,S⟩
  have Vg:lo+n<=(HE Pt).size:=by rw[M.size];exact hz
  have TU:kindOf Pt=κ:=M.kind.trans hk
  have hP':=M.all hP
  dsimp only
  refine HB (JJ (IR (I:=λx c PD=>PD=Pt/\∃l r,c=(none,l,r)/\l<=r/\r<=k/\r-l<=k-x/\(∀i,i<l->kl key (at_ (HE Pt) (lo+i)) (at_ (HE Pt) (lo+k)))/\(∀i,r<=i->i<k->O.klt (key (at_ (HE Pt) (lo+k))) (key (at_ (HE Pt) (lo+i)))))
   (Q:=λc PD=>PD=Pt/\∃l r,c=(none,l,r)/\l<=k/\(∀i,i<l->kl key (at_ (HE Pt) (lo+i)) (at_ (HE Pt) (lo+k)))/\(∀i,l<=i->i<k->O.klt (key (at_ (HE Pt) (lo+k))) (key (at_ (HE Pt) (lo+i))))) ?s1 ?f1 ⟨rfl,0,k,rfl,by lia,by lia,by lia,λi hi=>by lia,λi h1 h2=>by lia⟩) ?p1)
  case f1=>
   rintro c PD ⟨rfl,l,r,rfl,z1,z2,z3,z4,z5⟩
   have:l=r:=by lia
   subst this
   exact ⟨rfl,l,l,rfl,z2,z4,z5⟩
  case s1=>
   rintro x c PD _ hx ⟨rfl,l,r,rfl,z1,z2,z3,z4,z5⟩
   dsimp only
   by_cases hge:l >= r
   ·rw[if_pos hge]
    have:l=r:=by lia
    subst this
    exact HG ⟨rfl,l,l,rfl,z2,z4,z5⟩
   rw[if_neg hge]
   refine HB (cC C TU hP' (by lia) (by lia) ?_)
   dsimp only
   cases hc:O.blt (key (at_ (HE PD) (lo+k))) (key (at_ (HE PD) (lo+(l+r) / 2))) with
   | true=>
    rw[if_pos rfl]
    exact HG ⟨rfl,l,(l+r) / 2,rfl,by lia,by lia,by lia,z4,λi g1 g2=>KeyOrd.klt_of_klt_of_kle hc (S (lo+(l+r) / 2) (lo+i) (by lia) (by lia) (by lia))⟩
   | false=>
    rw[if_neg (by simp)]
    exact HG ⟨rfl,(l+r) / 2+1,r,rfl,by lia,by lia,by lia,λi g1=>IF (S (lo+i) (lo+(l+r) / 2) (by lia) (by lia) (by lia)) hc,z5⟩
  case p1=>
   rintro c PD ⟨rfl,l,r,rfl,z1,z2,z3⟩
   dsimp only
   rw[moveDown'_eq]
   have eb:∀i,at_ (bubble (HE PD) (lo+k) (lo+k-(lo+l))) i=if i=lo+l then at_ (HE PD) (lo+k) else if lo+l<i/\i<=lo+k then at_ (HE PD) (i-1) else at_ (HE PD) i:=λi=>by
    have z:=getElem?_bubble (xs:=HE PD) (src:=lo+k) (by lia) (lo+k-(lo+l)) (by lia) i
    rw[show lo+k-(lo+k-(lo+l))=lo+l by lia] at z
    by_cases c1:i=lo+l
    ·rw[if_pos c1] at z ⊢;exact bj z
    ·rw[if_neg c1] at z ⊢
     by_cases c2:lo+l<i/\i<=lo+k
     ·rw[if_pos c2] at z ⊢;exact bj z
     ·rw[if_neg c2] at z ⊢;exact bj z
   refine HB (Jo (HG ⟨rfl,⟨M.kind,M.pend,M.fail,(bubble_perm _ _ _).trans M.perm,λi hi=>?_⟩,by lia,λi j g1 g2 g3=>?_⟩))
   ·rw[<- M.pre i hi]
    show (bubble (HE PD) (lo+k) (lo+k-(lo+l)))[i]?=_
    rw[getElem?_bubble (by lia) _ (by lia),if_neg (by lia),if_neg (by lia)]
   ·show kl key (at_ (bubble (HE PD) (lo+k) (lo+k-(lo+l))) i) (at_ (bubble (HE PD) (lo+k) (lo+k-(lo+l))) j)
    rw[eb,eb]
    by_cases c1:i=lo+l
    ·rw[if_pos c1]
     by_cases c2:j=lo+l
     ·rw[if_pos c2];exact Ks _
     ·rw[if_neg c2,if_pos ⟨by lia,by lia⟩]
      have:=z3 (j-1-lo) (by lia) (by lia)
      rw[show lo+(j-1-lo)=j-1 by lia] at this
      exact Ja this
    ·rw[if_neg c1]
     by_cases c3:lo+l<i
     ·rw[if_pos ⟨c3,by lia⟩,if_neg (by lia),if_pos ⟨by lia,by lia⟩]
      exact S _ _ (by lia) (by lia) (by lia)
     ·rw[if_neg (by lia)]
      by_cases c2:j=lo+l
      ·rw[if_pos c2]
       have:=z2 (i-lo) (by lia)
       rwa [show lo+(i-lo)=i by lia] at this
      ·rw[if_neg c2]
       by_cases c4:lo+l<j
       ·rw[if_pos ⟨c4,by lia⟩];exact S _ _ g1 (by lia) (by lia)
       ·rw[if_neg (by lia)];exact S _ _ g1 g2 (by lia)
end
end Tim
end
section
namespace Tim
open PySem PyProof.Rows
theorem mP:∀(l:List HZ) (a:Array HZ) (b j0:Nat),((l.zipIdx j0).foldl (λa x=>a.setIfInBounds (b+x.2) x.1) a).size=a.size
 | [],_,_,_=>rfl
 | x::l,a,b,j0=>by
  rw[List.zipIdx_cons,Lk,mP l]
  simp
theorem uH:∀(l:List HZ) (a:Array HZ) (b j0:Nat) (i:Nat),b+j0+l.length<=a.size->((l.zipIdx j0).foldl (λa x=>a.setIfInBounds (b+x.2) x.1) a)[i]?=if b+j0<=i/\i<b+j0+l.length then l[i-(b+j0)]? else a[i]?
 | [],a,b,j0,i,_=>by
  rw[if_neg (by simp only[J5];lia)];rfl
 | x::l,a,b,j0,i,h=>by
  have hl:(x::l).length=l.length+1:=rfl
  rw[hl] at h ⊢
  rw[List.zipIdx_cons,Lk,uH l _ b (j0+1) i (by simp;lia)]
  by_cases c:b+(j0+1)<=i/\i<b+(j0+1)+l.length
  ·rw[if_pos c,if_pos (by lia),show i-(b+j0)=(i-(b+(j0+1)))+1 by lia,JH]
  ·rw[if_neg c]
   by_cases e:i=b+j0
   ·subst e
    rw[if_pos (by lia),OM,List.getElem?_cons_zero]
    simp[L0];lia
   ·rw[if_neg (by lia)]
    simp[L0];lia
def QV:List (Nat×Nat×Nat)->Nat->Nat->Prop
 | [],f,t=>f=t
 | x::r,f,t=>x.1=f/\1<=x.2.1/\QV r (f+x.2.1) t
theorem QV.le:∀{l:List (Nat×Nat×Nat)} {f t:Nat},QV l f t->f+l.length<=t
 | [],_,_,h=>by cases h;exact HA _
 | x::r,f,t,⟨h1,h2,h3⟩=>by have:=QV.le h3;simp only[IM];lia
theorem QV.app:∀{l m:List (Nat×Nat×Nat)} {f t:Nat},QV (l++m) f t↔∃k,QV l f k/\QV m k t
 | [],m,f,t=>⟨λh=>⟨f,rfl,h⟩,λPx=>by obtain ⟨k,h1,h2⟩:=Px;cases h1;exact h2⟩
 | x::r,m,f,t=>⟨λ⟨h1,h2,h3⟩=>let ⟨k,k1,k2⟩:=QV.app.mp h3;⟨k,⟨h1,h2,k1⟩,k2⟩,λPH=>by obtain ⟨k,⟨h1,h2,k1⟩,k2⟩:=PH;exact ⟨h1,h2,QV.app.mpr ⟨k,k1,k2⟩⟩⟩
theorem QV.mem:∀{l:List (Nat×Nat×Nat)} {f t:Nat},QV l f t->∀x∈l,f<=x.1/\x.1+x.2.1<=t
 | x::r,f,t,⟨h1,h2,h3⟩,y,hy=>by
  have:=QV.le h3
  rcases List.mem_cons.mp hy with rfl | hy
  ·lia
  ·have:=QV.mem h3 y hy;lia
section
variable {prog:Ip} {w:Ji} {A:Js} {E:Ht->Hv->Prop} {s:Hv} {κ:LK} {O:MC} {key:HZ->O.α} {P:HZ->Prop}
theorem x6 {σ:Type} {M:O4} {x:σ} {Q:PUnit->σ->Prop} {st:σ} (h:Q ⟨⟩ x):wpS M A E s (set x:StateT σ Sem PUnit) Q st:=by
 unfold wpS;rw[StateT.run_set];exact Hw ⟨rfl,h⟩
structure G {O:MC} (κ:LK) (key:HZ->O.α) (a0:Array HZ) (st:JK) (lo:Nat):Prop where
 kind:kindOf st=κ
 fail:KI st=none
 perm:(HE st).Perm a0
 cov:QV (Il st).toList 0 lo
 srt:∀x∈(Il st).toList,Sg key (HE st) x.1 (x.1+x.2.1)
 le:lo<=a0.size
theorem uI {a:Array HZ} {x:HZ} {base n:Nat} (h:Sg key a base (base+n)):∀i j,i<=j->j<n->Ri key false x (at_ a (base+j))=true->Ri key false x (at_ a (base+i))=true:=λi j SY hj q=>by
 have:kl key (at_ a (base+i)) x:=IF (h _ _ (by lia) (by lia) (by lia)) (mM q)
 show (!O.blt (key x) (key (at_ a (base+i))))=true
 rw[show O.blt (key x) (key (at_ a (base+i)))=false from this];rfl
theorem uJ {a:Array HZ} {x:HZ} {base n:Nat} (h:Sg key a base (base+n)):∀i j,i<=j->j<n->Ri key true x (at_ a (base+j))=true->Ri key true x (at_ a (base+i))=true:=λi j SY hj q=>
 MG (h (base+i) (base+j) (by lia) (by lia) (by lia)) (mO q)
theorem mQ {a:Array HZ} {i n j:Nat} (h:n<=a.size) (hj:i+j<n):at_ (a.extract i n) j=at_ a (i+j):=by
 refine bj ?_
 rw[Array.getElem?_extract]
 rw[if_pos (by lia)]
theorem mR {a:Array HZ} {i n:Nat} (h:n<=a.size):(a.extract i n).size=n-i:=by
 rw[Array.size_extract];lia
theorem uK {a:Array HZ} {i n:Nat} (h:n<=a.size) (q:Sg key a i n):(a.extract i n).toList.Pairwise (kl key):=by
 rw[Mp]
 intro x y hx hy TZ
 have hz:=mR (a:=a) (i:=i) h
 have hx':x<(a.extract i n).size:=by rw[<- IK];exact hx
 have hy':y<(a.extract i n).size:=by rw[<- IK];exact hy
 have g:∀z (hz:z<(a.extract i n).toList.length),(a.extract i n).toList[z]=at_ (a.extract i n) z:=λz Vg=>by
  have e1:=cr (a:=a.extract i n) (i:=z) (by rw[<- IK];exact Vg)
  rw[Hu Vg] at e1
  exact Ij e1
 rw[g x hx,g y hy,mQ h (by lia),mQ h (by lia)]
 exact q _ _ (by lia) (by lia) (by lia)
theorem je {a:Array HZ} {i n:Nat} (h:n<=a.size) {x:HZ} (hx:x∈(a.extract i n).toList):∃j,i<=j/\j<n/\x=at_ a j:=by
 obtain ⟨j,hj,e⟩:=NX hx
 have V3:j<(a.extract i n).size:=by rw[<- IK];exact hj
 have hz:=mR (a:=a) (i:=i) h
 have e1:=cr (a:=a.extract i n) (i:=j) V3
 rw[Hu hj,e] at e1
 refine ⟨i+j,by lia,by lia,?_⟩
 rw[Ij e1,mQ h (by lia)]
theorem jZ {a:Array HZ} (hP:∀x∈a.toList,P x) {i:Nat} (h:i<a.size):P (at_ a i):=hP _ (fh h)
theorem x8 {a m:Array HZ} {lo hi:Nat} (h:hi<=a.size) (hl:lo<=hi) (hm:m.toList.Perm (a.extract lo hi).toList) :
  let a':=(m.toList.zipIdx).foldl (λa x=>a.setIfInBounds (lo+x.2) x.1) a
  a'.Perm a/\(∀i,(lo<=i/\i<hi->a'[i]?=m[i-lo]?)/\(¬ (lo<=i/\i<hi)->a'[i]?=a[i]?)):=by
 intro a'
 have hlen:m.toList.length=hi-lo:=by rw[hm.length_eq];simp;lia
 have g:∀i,a'[i]?=if lo+0<=i/\i<lo+0+m.toList.length then m.toList[i-(lo+0)]? else a[i]?:=λi=>uH m.toList a lo 0 i (by lia)
 rw[ON,hlen,show lo+(hi-lo)=hi by lia] at g
 have hz:a'.size=a.size:=mP _ _ _ _
 refine ⟨?_,λi=>⟨λc=>by rw[g,if_pos c,Jj],λc=>by rw[g,if_neg c]⟩⟩
 have e:a'.toList=a.toList.take lo++(m.toList++a.toList.drop hi):=by
  apply KY
  intro i
  rw[Jj,g,NG,NG]
  have hlt:(a.toList.take lo).length=lo:=by simp;lia
  rw[hlt,hlen]
  by_cases c1:i<lo
  ·rw[if_neg (by lia),if_pos c1,List.getElem?_take,if_pos c1,Jj]
  ·rw[if_neg c1]
   by_cases c2:i<hi
   ·rw[if_pos ⟨by lia,c2⟩,if_pos (by lia)]
   ·rw[if_neg (by lia),if_neg (by lia),List.getElem?_drop,Jj]
    congr 1;lia
 have e2:a.toList=a.toList.take lo++((a.extract lo hi).toList++a.toList.drop hi):=by
  rw[n9 a lo hi hl]
  conv=>lhs;rw[<- IC hi a.toList,<- IC lo (a.toList.take hi)]
  rw[List.take_take,Nh hl,HU]
 rw[Array.perm_iff_toList_perm,e]
 conv=>rhs;rw[e2]
 exact JQ _ (hm.append_right _)
theorem oa (C:gL prog w A s κ O key P) {a0:Array HZ} {st:JK} {lo i:Nat} {Q:Bool->JK->Prop} (hP:∀x∈a0.toList,P x) (g:G κ key a0 st lo) (hi:i+1<(Il st).size)
  (h:∀Pt,G κ key a0 Pt lo->(∀j,lo<=j->(HE Pt)[j]?=(HE st)[j]?)->(Il Pt).size+1=(Il st).size->Q true Pt):wpS (IB prog w) A E s (mergeAt' i) Q st:=by
 obtain ⟨sa,na,pw,eA⟩:∃sa na pw,(Il st)[i]?=some (sa,na,pw):=⟨_,_,_,getElem?_pos _ i (by lia)⟩
 obtain ⟨sb,nb,WE,eB⟩:∃sb nb WE,(Il st)[i+1]?=some (sb,nb,WE):=⟨_,_,_,getElem?_pos _ (i+1) hi⟩
 have eL:(Il st).toList=(Il st).toList.take i++(sa,na,pw)::(sb,nb,WE)::(Il st).toList.drop (i+2):=by
  conv=>lhs;rw[<- IC i (Il st).toList]
  congr 1
  rw[<- Jj] at eA eB
  obtain ⟨l1,q1⟩:=List.getElem?_eq_some_iff.mp eA
  obtain ⟨l2,q2⟩:=List.getElem?_eq_some_iff.mp eB
  rw[JC l1,q1,JC l2,q2]
 have hcov:=g.cov
 rw[eL] at hcov
 obtain ⟨k0,c1,c2,c3,c4,c5,c6⟩:=QV.app.mp hcov
 dsimp only at c2 c3 c4 c5 c6
 subst c2
 have hpost:=QV.le c6
 have hsz:(HE st).size=a0.size:=g.perm.size_eq
 have hle:=g.le
 have Tx:∀x∈(HE st).toList,P x:=λx hx=>hP x ((Array.perm_iff_toList_perm.mp g.perm).mem_iff.mp hx)
 have T4:Sg key (HE st) sa (sa+na):=g.srt (sa,na,pw) (by rw[eL];simp)
 have Tz:Sg key (HE st) (sa+na) (sa+na+nb):=by have:=g.srt (sb,nb,WE) (by rw[eL];simp);dsimp only at this;rwa [c4] at this
 -- QG pending runs afterwards
 have pn:(((Il st).setIfInBounds i (sa,na+nb,pw)).eraseIdxIfInBounds (i+1)).toList=(Il st).toList.take i++(sa,na+nb,pw)::(Il st).toList.drop (i+2):=by
  rw[Array.eraseIdxIfInBounds,dif_pos (by simp;lia),Array.toList_eraseIdx,Array.toList_setIfInBounds]
  conv=>lhs;rw[eL]
  have hl:((Il st).toList.take i).length=i:=by simp;lia
  rw[List.set_append_right _ _ (by lia),hl,OM,Ig,List.eraseIdx_append_of_length_le (by lia),hl,Nat.add_sub_cancel_left,MO,List.eraseIdx_cons_zero]
 have hps:(((Il st).setIfInBounds i (sa,na+nb,pw)).eraseIdxIfInBounds (i+1)).size+1=(Il st).size:=by
  rw[<- IK,pn];simp;lia
 -- Ub is wanted of a state with these runs
 have fin:∀Pt,kindOf Pt=κ->KI Pt=none->Il Pt=(((Il st).setIfInBounds i (sa,na+nb,pw)).eraseIdxIfInBounds (i+1))->(HE Pt).Perm (HE st)->(∀j,¬ (sa<=j/\j<sa+na+nb)->(HE Pt)[j]?=(HE st)[j]?) ->
   Sg key (HE Pt) sa (sa+na+nb)->Q true Pt:=λPt k1 k2 k3 k4 k5 k6=>by
  refine h Pt ⟨k1,k2,k4.trans g.perm,?_,?_,hle⟩ (λj hj=>k5 j (by lia)) (by rw[k3];exact hps)
  ·rw[k3,pn]
   refine QV.app.mpr ⟨sa,c1,rfl,by show 1<=na+nb;lia,?_⟩
   show QV _ (sa+(na+nb)) lo
   rw[<- LZ];exact c6
  ·intro x hx
   rw[k3,pn] at hx
   rcases List.mem_append.mp hx with hx | hx
   ·have q:=g.srt x (by rw[eL];exact HR _ hx)
    have r:=QV.mem c1 x hx
    intro i' j' z1 z2 z3
    show O.kle _ _
    rw[bj (k5 i' (by lia)),bj (k5 j' (by lia))]
    exact q i' j' z1 z2 z3
   ·rcases List.mem_cons.mp hx with rfl | hx
    ·show Sg key (HE Pt) sa (sa+(na+nb))
     rw[<- LZ];exact k6
    ·have q:=g.srt x (by rw[eL];exact Hr _ (Ic _ (Ic _ hx)))
     have r:=QV.mem c6 x hx
     intro i' j' z1 z2 z3
     show O.kle _ _
     rw[bj (k5 i' (by lia)),bj (k5 j' (by lia))]
     exact q i' j' z1 z2 z3
 subst c4
 delta mergeAt'
 refine HB (LV ?_)
 rw[eA,eB]
 dsimp only
 refine HB (x6 ?_)
 refine HB (aU (show sa+na<(HE st).size by lia) (HB (gM C g.kind (show 0<na by lia) (show sa+na<=(HE st).size by lia) (λj hj=>jZ Tx (by lia)) (jZ Tx (by lia)) (uI T4) λk z1 z2 z3=>?_)))
 dsimp only
 have low:∀j,sa<=j->j<sa+k->kl key (at_ (HE st) j) (at_ (HE st) (sa+na)):=λj j1 j2=>by
  have:=mM (z2 (j-sa) (by lia));rwa [show sa+(j-sa)=j by lia] at this
 have high:∀j,sa+k<=j->j<sa+na->O.klt (key (at_ (HE st) (sa+na))) (key (at_ (HE st) j)):=λj j1 j2=>by
  have:=uF (z3 (j-sa) (by lia) (by lia));rwa [show sa+(j-sa)=j by lia] at this
 by_cases e1:na-k=0
 ·rw[if_pos (by simpa using e1)]
  refine HG (fin _ g.kind g.fail rfl (Mb _) (λ_ _=>rfl) λi' j' y1 y2 y3=>?_)
  show kl key (at_ (HE st) i') (at_ (HE st) j')
  by_cases d1:j'<sa+na
  ·exact T4 i' j' y1 y2 d1
  ·by_cases d2:i'<sa+na
   ·exact IF (low i' y1 (by lia)) (Tz _ j' (HA _) (by lia) y3)
   ·exact Tz i' j' (by lia) y2 y3
 rw[if_neg (by simpa using e1)]
 have hlast:sa+k+(na-k)-1=sa+na-1:=by lia
 rw[hlast]
 refine HB (aU (show sa+na-1<(HE st).size by lia) (HB (gM C g.kind (show nb-1<nb by lia) (show sa+na+nb<=(HE st).size by lia) (λj hj=>jZ Tx (by lia)) (jZ Tx (by lia)) (uJ Tz) λm y1 y2 y3=>?_)))
 dsimp only
 have lowB:∀j,sa+na<=j->j<sa+na+m->O.klt (key (at_ (HE st) j)) (key (at_ (HE st) (sa+na-1))):=λj j1 j2=>by
  have:=mO (y2 (j-(sa+na)) (by lia));rwa [show sa+na+(j-(sa+na))=j by lia] at this
 have highB:∀j,sa+na+m<=j->j<sa+na+nb->kl key (at_ (HE st) (sa+na-1)) (at_ (HE st) j):=λj j1 j2=>by
  have:=uG (y3 (j-(sa+na)) (by lia) (by lia));rwa [show sa+na+(j-(sa+na))=j by lia] at this
 by_cases e2:m=0
 ·rw[if_pos (by simpa using e2)]
  refine HG (fin _ g.kind g.fail rfl (Mb _) (λ_ _=>rfl) λi' j' x1 x2 x3=>?_)
  show kl key (at_ (HE st) i') (at_ (HE st) j')
  by_cases d1:j'<sa+na
  ·exact T4 i' j' x1 x2 d1
  ·by_cases d2:i'<sa+na
   ·exact IF (T4 i' (sa+na-1) x1 (by lia) (by lia)) (highB j' (by lia) x3)
   ·exact Tz i' j' (by lia) x2 x3
 rw[if_neg (by simpa using e2)]
 have R5:sa+na<=(HE st).size:=by lia
 have RV:sa+na+m<=(HE st).size:=by lia
 have sx:=mR (a:=HE st) (i:=sa+k) R5
 have sy:=mR (a:=HE st) (i:=sa+na) RV
 have srX:=uK (key:=key) (i:=sa+k) R5 (λi' j' a1 a2 a3=>T4 i' j' (by lia) a2 a3)
 have srY:=uK (key:=key) (i:=sa+na) RV (λi' j' a1 a2 a3=>Tz i' j' a1 a2 (by lia))
 have PX:∀x∈((HE st).extract (sa+k) (sa+na)).toList,P x:=λx hx=>by obtain ⟨j,j1,j2,rfl⟩:=je R5 hx;exact jZ Tx (by lia)
 have PY:∀x∈((HE st).extract (sa+na) (sa+na+m)).toList,P x:=λx hx=>by obtain ⟨j,j1,j2,rfl⟩:=je RV hx;exact jZ Tx (by lia)
 have H0:∀y∈((HE st).extract (sa+k) (sa+na)).toList,kl key (at_ ((HE st).extract (sa+na) (sa+na+m)) 0) y:=λy hy=>by
  obtain ⟨j,j1,j2,rfl⟩:=je R5 hy
  rw[mQ RV (by lia),ON]
  exact Ja (high j j1 j2)
 have HL:∀x∈((HE st).extract (sa+na) (sa+na+m)).toList,kl key x (at_ ((HE st).extract (sa+k) (sa+na)) (((HE st).extract (sa+k) (sa+na)).size-1)):=λx hx=>by
  obtain ⟨j,j1,j2,rfl⟩:=je RV hx
  rw[sx,mQ R5 (by lia),show sa+k+(sa+na-(sa+k)-1)=sa+na-1 by lia]
  exact Ja (lowB j j1 j2)
 have eXY:((HE st).extract (sa+k) (sa+na+m)).toList=((HE st).extract (sa+k) (sa+na)).toList++((HE st).extract (sa+na) (sa+na+m)).toList:=by
  rw[<- IQ,Array.extract_append_extract]
  congr 2 <;> lia
 -- QG end,by either way
 have done:∀(r:Array HZ) (Pq:JK),kindOf Pq=κ->KI Pq=none->Il Pq=(((Il st).setIfInBounds i (sa,na+nb,pw)).eraseIdxIfInBounds (i+1))->HE Pq=HE st ->
   Res (kl key) ((HE st).extract (sa+k) (sa+na)).toList ((HE st).extract (sa+na) (sa+na+m)).toList r.toList ->
   Q true (Ou (kindOf Pq) ((r.toList.zipIdx).foldl (λa x=>a.setIfInBounds (sa+k+x.2) x.1) (HE Pq)) (Il Pq) (gallopOf Pq) (KI Pq)):=λr Pq k1 k2 k3 k4 R=>by
  rw[k4]
  obtain ⟨R1,R2⟩:=R
  rw[<- eXY] at R1
  obtain ⟨b1,b2⟩:=x8 (a:=HE st) (m:=r) (lo:=sa+k) (hi:=sa+na+m) RV (by lia) R1
  generalize (r.toList.zipIdx).foldl (λa x=>a.setIfInBounds (sa+k+x.2) x.1) (HE st)=a' at b1 b2 ⊢
  have hrl:r.size=sa+na+m-(sa+k):=by have:=R1.length_eq;rw[IK,IK,mR RV] at this;exact this
  have mid:∀j,sa+k<=j->j<sa+na+m->at_ a' j=at_ r (j-(sa+k)):=λj j1 j2=>bj ((b2 j).1 ⟨j1,j2⟩)
  have out:∀j,¬ (sa+k<=j/\j<sa+na+m)->at_ a' j=at_ (HE st) j:=λj hj=>bj ((b2 j).2 hj)
  have midv:∀j,sa+k<=j->j<sa+na+m->∃t,sa+k<=t/\t<sa+na+m/\at_ a' j=at_ (HE st) t:=λj j1 j2=>by
   have hm:at_ r (j-(sa+k))∈r.toList:=fh (by lia)
   obtain ⟨t,t1,t2,t3⟩:=je RV (R1.mem_iff.mp hm)
   exact ⟨t,t1,t2,by rw[mid j j1 j2,t3]⟩
  refine fin _ k1 k2 k3 b1 (λj hj=>(b2 j).2 (by lia)) λi' j' x1 x2 x3=>?_
  show kl key (at_ a' i') (at_ a' j')
  by_cases d1:i'<sa+k
  ·rw[out i' (by lia)]
   by_cases d2:j'<sa+k
   ·rw[out j' (by lia)];exact T4 i' j' x1 x2 (by lia)
   ·by_cases d3:j'<sa+na+m
    ·obtain ⟨t,t1,t2,t3⟩:=midv j' (by lia) d3
     rw[t3]
     by_cases d4:t<sa+na
     ·exact T4 i' t x1 (by lia) d4
     ·exact IF (low i' x1 d1) (Tz _ t (HA _) (by lia) (by lia))
    ·rw[out j' (by lia)]
     exact IF (low i' x1 d1) (Tz _ j' (HA _) (by lia) x3)
  ·by_cases d2:i'<sa+na+m
   ·by_cases d3:j'<sa+na+m
    ·rw[mid i' (by lia) d2,mid j' (by lia) d3]
     exact fj R2 (by lia) (by lia)
    ·obtain ⟨t,t1,t2,t3⟩:=midv i' (by lia) d2
     rw[t3,out j' (by lia)]
     by_cases d4:t<sa+na
     ·exact IF (T4 t (sa+na-1) (by lia) (by lia) (by lia)) (highB j' (by lia) x3)
     ·exact Tz t j' (by lia) (by lia) x3
   ·rw[out i' (by lia),out j' (by lia)]
    exact Tz i' j' (by lia) x2 x3
 by_cases hcase:na-k<=m
 ·rw[if_pos hcase]
  refine HB (Dp C g.kind (show 0<((HE st).extract (sa+k) (sa+na)).size by rw[sx];lia) (show 0<((HE st).extract (sa+na) (sa+na+m)).size by rw[sy];lia) PX PY srX srY H0 HL λr Pq S R=>?_)
  refine HB (Jo (HB (LV ?_)))
  have hf:KI Pq=none:=S.2.2.2.trans g.fail
  show wpS _ _ _ _ (pure (KI Pq).isNone) _ _
  rw[hf]
  exact HG (done r Pq (S.1.trans g.kind) hf S.2.2.1 S.2.1 R)
 ·rw[if_neg hcase]
  refine HB (Dq C g.kind (show 0<((HE st).extract (sa+k) (sa+na)).size by rw[sx];lia) (show 0<((HE st).extract (sa+na) (sa+na+m)).size by rw[sy];lia) PX PY srX srY H0 HL λr Pq S R=>?_)
  refine HB (Jo (HB (LV ?_)))
  have hf:KI Pq=none:=S.2.2.2.trans g.fail
  show wpS _ _ _ _ (pure (KI Pq).isNone) _ _
  rw[hf]
  exact HG (done r Pq (S.1.trans g.kind) hf S.2.2.1 S.2.1 R)
end
end Tim
end
section
namespace Tim
open PySem PyProof.Rows
def bare (x:Nat×Nat×Nat):Nat×Nat:=(x.1,x.2.1)
theorem QV.bare:∀{l m:List (Nat×Nat×Nat)} {f t:Nat},l.map bare=m.map bare->QV l f t->QV m f t
 | [],[],_,_,_,h=>h
 | [],_::_,_,_,e,_=>by cases e
 | _::_,[],_,_,e,_=>by cases e
 | x::l,y::m,f,t,e,⟨h1,h2,h3⟩=>by
  have e':=Oc e
  have e1:x.1=y.1:=(NZ e'.1).1
  have e2:x.2.1=y.2.1:=(NZ e'.1).2
  exact ⟨e1▸h1,e2▸h2,e2▸QV.bare e'.2 h3⟩
theorem uL (l:List (Nat×Nat×Nat)) (i pw:Nat):(l.modify i λx=>(x.1,x.2.1,pw)).map bare=l.map bare:=by
 apply KY
 intro j
 rw[HQ,HQ,List.getElem?_modify]
 cases l[j]? with
 | none=>rfl
 | some x=>by_cases h:i=j <;> simp[h,bare]
section
variable {prog:Ip} {w:Ji} {A:Js} {E:Ht->Hv->Prop} {s:Hv} {κ:LK} {O:MC} {key:HZ->O.α} {P:HZ->Prop}
theorem G.push {a0:Array HZ} {st:JK} {lo n:Nat} (g:G κ key a0 st lo) (S:Sg key (HE st) lo (lo+n)) (h1:1<=n) (h2:lo+n<=a0.size):G κ key a0 (Oy st ((Il st).push (lo,n,0))) (lo+n):=by
 have e:(Il (Oy st ((Il st).push (lo,n,0)))).toList=(Il st).toList++[(lo,n,0)]:=LG ..
 refine ⟨g.kind,g.fail,g.perm,?_,λx hx=>?_,h2⟩
 ·rw[e];exact QV.app.mpr ⟨lo,g.cov,rfl,h1,rfl⟩
 ·rw[e] at hx
  rcases List.mem_append.mp hx with hx | hx
  ·exact g.srt x hx
  ·rw[Jz] at hx;subst hx;exact S
theorem G.pow {a0:Array HZ} {st:JK} {lo:Nat} (g:G κ key a0 st lo) (i pw:Nat):G κ key a0 (Oy st ((Il st).modify i λx=>(x.1,x.2.1,pw))) lo:=by
 have e:(Il (Oy st ((Il st).modify i λx=>(x.1,x.2.1,pw)))).toList=(Il st).toList.modify i λx=>(x.1,x.2.1,pw):=Array.toList_modify ..
 have b:=uL (Il st).toList i pw
 refine ⟨g.kind,g.fail,g.perm,?_,λx hx=>?_,g.le⟩
 ·rw[e];exact QV.bare b.symm g.cov
 ·rw[e] at hx
  have hb:bare x∈((Il st).toList.map bare):=by rw[<- b];exact List.mem_map_of_mem hx
  obtain ⟨y,hy,ey⟩:=List.mem_map.mp hb
  have q:=g.srt y hy
  have e1:y.1=x.1:=(NZ ey).1
  have e2:y.2.1=x.2.1:=(NZ ey).2
  rw[e1,e2] at q
  exact q
theorem Sg.keep {a b:Array HZ} {lo hi:Nat} (h:Sg key a lo hi) (e:∀j,lo<=j->b[j]?=a[j]?):Sg key b lo hi:=λi j z1 z2 z3=>by
 rw[bj (e i z1),bj (e j (by lia))];exact h i j z1 z2 z3
theorem x9 (C:gL prog w A s κ O key P) {st:JK} {Q:Unit->JK->Prop} (hP:∀x∈(HE st).toList,P x) (hk:kindOf st=κ) (hf:KI st=none) (hp:Il st=#[]) (h1:1<=(HE st).size)
  (h:∀Pt,(HE Pt).Perm (HE st)->KI Pt=none->(HE Pt).toList.Pairwise (kl key)->Q () Pt):wpS (IB prog w) A E s sortRuns' Q st:=by
 have g0:G κ key (HE st) st 0:=⟨hk,hf,Mb _,by rw[hp];rfl,(λx hx=>by rw[hp] at hx;cases hx),JV _⟩
 rw[sortRuns'_eq]
 refine HB (LV ?_)
 dsimp only
 refine HB (JJ (IR (I:=λx c Pq=>∃lo,c=(none,lo)/\x<=lo/\G κ key (HE st) Pq lo) (Q:=λc Pq=>c=(none,(HE st).size)/\G κ key (HE st) Pq (HE st).size) ?step ?fin ⟨0,rfl,HA _,g0⟩) ?post)
 case fin=>
  rintro c Pq ⟨lo,rfl,hx,g⟩
  have:=g.le
  have e:lo=(HE st).size:=by lia
  subst e;exact ⟨rfl,g⟩
 case post=>
  rintro c Pq ⟨rfl,g⟩
  dsimp only
  refine HB (JJ (IR (I:=λx c Pj=>c=(none,())/\(Il Pj).size+x<=(HE st).size/\G κ key (HE st) Pj (HE st).size) (Q:=λc Pj=>c=(none,())/\(Il Pj).size<=1/\G κ key (HE st) Pj (HE st).size) ?ls ?lf ⟨rfl,by have:=g.cov.le;rw[IK] at this;lia,g⟩) ?lp)
  case lf=>
   rintro c Pj ⟨rfl,b1,g2⟩
   exact ⟨rfl,by lia,g2⟩
  case ls=>
   rintro x c Pj _ hx ⟨rfl,b1,g2⟩
   refine HB (LV ?_)
   by_cases V8:(Il Pj).size<=1
   ·rw[if_pos V8];exact HG ⟨rfl,V8,g2⟩
   rw[if_neg V8]
   have hi:∀b:Bool,(if b=true then (Il Pj).size-2-1 else (Il Pj).size-2)+1<(Il Pj).size:=λb=>by
    cases b with
    | true=>rw[if_pos rfl];lia
    | false=>rw[if_neg (by simp)];lia
   refine HB (oa C hP g2 (hi _) λQi g3 _ b3=>?_)
   rw[if_neg (by simp)]
   exact HG ⟨rfl,by lia,g3⟩
  case lp=>
   rintro c Pj ⟨rfl,b1,g2⟩
   refine HG (h Pj g2.perm g2.fail ?_)
   have hz:(HE Pj).size=(HE st).size:=g2.perm.size_eq
   have S:Sg key (HE Pj) 0 (HE st).size:=by
    have c:=g2.cov
    have q:=g2.srt
    rw[<- IK] at b1
    match hl:(Il Pj).toList,b1 with
    | [],_=>rw[hl] at c;have c:0=(HE st).size:=c;lia
    | [x],_=>
     rw[hl] at c q
     obtain ⟨c1,_,c3⟩:=c
     have:=q x Hx
     have c3:0+x.2.1=(HE st).size:=c3
     rwa [c1,c3] at this
    | _::_::_,b1=>simp only[IM] at b1;lia
   rw[Mp]
   intro i j hi hj SY
   have gt:∀z (hz:z<(HE Pj).toList.length),(HE Pj).toList[z]=at_ (HE Pj) z:=λz Vg=>by
    have e1:=cr (a:=HE Pj) (i:=z) (by rw[<- IK];exact Vg)
    rw[Hu Vg] at e1
    exact Ij e1
   rw[gt i hi,gt j hj]
   rw[IK] at hi hj
   exact S i j (JV _) (by lia) (by lia)
 case step=>
  rintro x c Pq _ hx ⟨lo,rfl,hxl,g⟩
  have hle:=g.le
  have hsz:(HE Pq).size=(HE st).size:=g.perm.size_eq
  dsimp only
  by_cases hge:lo >= (HE st).size
  ·rw[if_pos hge]
   have e:lo=(HE st).size:=by lia
   subst e;exact HG ⟨rfl,g⟩
  rw[if_neg hge]
  have Tx:∀x∈(HE Pq).toList,P x:=λx hx=>hP x ((Array.perm_iff_toList_perm.mp g.perm).mem_iff.mp hx)
  have step:∀{Pj:JK},Mv lo Pq Pj->G κ key (HE st) Pj lo:=λ{Pj} M=>by
   refine ⟨M.kind.trans g.kind,M.fail.trans g.fail,M.perm.trans g.perm,by rw[M.pend];exact g.cov,λx hx=>?_,hle⟩
   rw[M.pend] at hx
   have q:=g.srt x hx
   have r:=g.cov.mem x hx
   intro i j z1 z2 z3
   rw[bj (M.pre i (by lia)),bj (M.pre j (by lia))]
   exact q i j z1 z2 z3
  refine HB (Dr C g.kind Tx (by lia) (by lia) λn Pj M2 n1 n2 S2=>?_)
  dsimp only
  by_cases hm:n<minRun' (HE st).size (HE st).size 0
  ·rw[if_pos hm]
   refine HB (MR (Kc ⟨rfl,?_⟩))
   have Ut:(HE Pj).size=(HE st).size:=M2.size.trans hsz
   refine HB (Ds C (M2.kind.trans g.kind) (M2.all Tx) (by rw[Ut];lia) n1 (by lia) S2 λQi M3 S3=>?_)
   rw[if_neg (by simp)]
   have M4:Mv lo Pq Qi:=⟨M3.kind.trans M2.kind,M3.pend.trans M2.pend,M3.fail.trans M2.fail,M3.perm.trans M2.perm,λi hi=>(M3.pre i hi).trans (M2.pre i hi)⟩
   have g4:=step M4
   have n3:1<=min ((HE st).size-lo) (minRun' (HE st).size (HE st).size 0):=by lia
   have n4:lo+min ((HE st).size-lo) (minRun' (HE st).size (HE st).size 0)<=(HE st).size:=by lia
   generalize min ((HE st).size-lo) (minRun' (HE st).size (HE st).size 0)=N at S3 n3 n4 ⊢
   refine HB (LV ?_)
   cases hb:(Il Qi).back? with
   | none=>
    dsimp only
    exact HB (Jo (HG ⟨_,rfl,by lia,g4.push S3 n3 n4⟩))
   | some z=>
    obtain ⟨s1,l1,p1⟩:=z
    dsimp only
    refine HB (JJ (IR (I:=λ_ c Py=>c=(none,())/\G κ key (HE st) Py lo/\Sg key (HE Py) lo (lo+N)) (Q:=λc Py=>c=(none,())/\G κ key (HE st) Py lo/\Sg key (HE Py) lo (lo+N)) ?ms ?mf ⟨rfl,g4,S3⟩) ?mp)
    case mf=>rintro c Py z;exact z
    case ms=>
     rintro y c Py _ hy ⟨rfl,g5,S5⟩
     refine HB (LV ?_)
     by_cases Uw:(Il Py).size>1
     ·rw[if_pos Uw]
      obtain ⟨u1,u2,u3,hu⟩:∃u1 u2 u3,(Il Py)[(Il Py).size-2]?=some (u1,u2,u3):=⟨_,_,_,getElem?_pos _ _ (by lia)⟩
      rw[hu]
      dsimp only
      split
      ·exact HG ⟨rfl,g5,S5⟩
      ·refine HB (oa C hP g5 (by lia) λSq g6 k6 _=>?_)
       rw[if_neg (by simp)]
       exact HG ⟨rfl,g6,S5.keep k6⟩
     ·rw[if_neg Uw]
      exact HG ⟨rfl,g5,S5⟩
    case mp=>
     rintro c Py ⟨rfl,g5,S5⟩
     dsimp only
     exact HB (Jo (HB (Jo (HG ⟨_,rfl,by lia,(g5.pow _ _).push S5 n3 n4⟩))))
  ·rw[if_neg hm]
   have g4:=step M2
   have n4:lo+n<=(HE st).size:=by lia
   refine HB (LV ?_)
   cases hb:(Il Pj).back? with
   | none=>
    dsimp only
    exact HB (Jo (HG ⟨_,rfl,by lia,g4.push S2 n1 n4⟩))
   | some z=>
    obtain ⟨s1,l1,p1⟩:=z
    dsimp only
    refine HB (JJ (IR (I:=λ_ c Py=>c=(none,())/\G κ key (HE st) Py lo/\Sg key (HE Py) lo (lo+n)) (Q:=λc Py=>c=(none,())/\G κ key (HE st) Py lo/\Sg key (HE Py) lo (lo+n)) ?ms ?mf ⟨rfl,g4,S2⟩) ?mp)
    case mf=>rintro c Py z;exact z
    case ms=>
     rintro y c Py _ hy ⟨rfl,g5,S5⟩
     refine HB (LV ?_)
     by_cases Uw:(Il Py).size>1
     ·rw[if_pos Uw]
      obtain ⟨u1,u2,u3,hu⟩:∃u1 u2 u3,(Il Py)[(Il Py).size-2]?=some (u1,u2,u3):=⟨_,_,_,getElem?_pos _ _ (by lia)⟩
      rw[hu]
      dsimp only
      split
      ·exact HG ⟨rfl,g5,S5⟩
      ·refine HB (oa C hP g5 (by lia) λSq g6 k6 _=>?_)
       rw[if_neg (by simp)]
       exact HG ⟨rfl,g6,S5.keep k6⟩
     ·rw[if_neg Uw]
      exact HG ⟨rfl,g5,S5⟩
    case mp=>
     rintro c Py ⟨rfl,g5,S5⟩
     dsimp only
     exact HB (Jo (HB (Jo (HG ⟨_,rfl,by lia,(g5.pow _ _).push S5 n1 n4⟩))))
end
end Tim
end
section
namespace Tim
open PySem PyProof.Rows L2
section
variable {prog:Ip} {w:Ji} {A:Js} {E:Ht->Hv->Prop} {s:Hv} {κ:LK} {O:MC} {key:HZ->O.α} {P:HZ->Prop}
def bS (h:Heap) (a:Addr) (vs:List Ht):Heap:=((h.update a (Jt λ_=>#[])).push (LQ "tuple" vs.toArray 0)).push (LQ "list" #[] 0)
theorem ya {h:Heap} {a b:Addr} {vs:List Ht} {o:Obj} (hb:b≠a) (e:h.get? b=some o):(bS h a vs).get? b=some o:=
 Hs _ (Hs _ (((J6 h a _).2 b hb).trans e))
theorem uM (vs:List Ht):(vs.toArray.zip vs.toArray).toList=vs.map λv=>(v,v):=by
 apply List.ext_getElem <;> simp
theorem uN {a:Addr} {vs:List Ht} {n:Nat} {R:PySem.Fin->Hv->Prop} (ho:s.heap.get? a=some (LQ "list" vs.toArray n)) (h2:2<=vs.length) (hz:vs.length<=Ii)
  (hk:∀Q':LK->Hv->Prop,Q' κ { s with heap:=bS s.heap a vs }->IJ (IB prog w) A (keyKind' vs.toArray) Q' E { s with heap:=bS s.heap a vs })
  (C:gL prog w A { s with heap:=bS s.heap a vs } κ O key P) (hP:∀v∈vs,P (v,v))
  (h:∀out:List Ht,out.Perm vs->out.Pairwise (λx y=>O.kle (key (x,x)) (key (y,y)))->R (.done (.ret .none)) { s with heap:=sortedHeap s.heap a vs out.toArray }) :
  IJ (IB prog w) A (Builtin.«list.sort» ⟨[.ref a],[]⟩) R E s:=by
 have many:¬ vs.toArray.size<2:=by rw[HD];lia
 obtain ⟨e,he⟩:∃e,(s.heap.update a (Jt λ_=>#[])).get? a=some (LQ "list" #[] e):=⟨_,get?_update_seq ho (λ_=>#[])⟩
 rw[list_sort_plain]
 refine Hq (listItems_at ho rfl (Hq (MP ho rfl (Hq (NW he rfl (Hq (NL (Hq (MQ (Jc ?_))) (hsz:=hz))))) (by rw[HD];lia))))
 have VJ:(bS s.heap a vs).get? a=some (LQ "list" #[] e):=Hs _ (Hs _ he)
 dsimp only
 rw[if_neg many,if_neg many]
 refine Hq (hk _ ?_)
 have Vh:(HE (Ou κ (vs.toArray.zip vs.toArray) #[] 7 none)).toList=vs.map λv=>(v,v):=uM vs
 refine Hq (Ih (x9 (E:=E) C (st:=Ou κ (vs.toArray.zip vs.toArray) #[] 7 none) (Q:=λ_ Pt=>(HE Pt).toList.Perm (vs.map λv=>(v,v))/\KI Pt=none/\(HE Pt).toList.Pairwise (kl key))
  (λx hx=>?_) rfl rfl rfl ?_ λPt q1 q2 q3=>⟨?_,q2,q3⟩) ?_ λ_ _ z=>z)
 ·rw[Vh] at hx
  obtain ⟨v,hv,rfl⟩:=List.mem_map.mp hx
  exact hP v hv
 ·rw[<- IK,Vh,Hz];lia
 ·rw[<- Vh];exact Array.perm_iff_toList_perm.mp q1
 rintro ⟨⟨⟩,Pt⟩ s' ⟨rfl,pm,hf,pw⟩
 dsimp only
 have same:∀x∈(HE Pt).toList,x=(x.2,x.2):=λx hx=>by
  obtain ⟨v,_,rfl⟩:=List.mem_map.mp (pm.mem_iff.mp hx);rfl
 have eo:(HE Pt).map (·.2)=((HE Pt).toList.map (·.2)).toArray:=by apply Array.ext' ; simp
 have p2:((HE Pt).toList.map (·.2)).Perm vs:=by have:=pm.map (·.2);rw[Iq] at this;simpa [MB] using this
 have w2:((HE Pt).toList.map (·.2)).Pairwise (λx y=>O.kle (key (x,x)) (key (y,y))):=by
  rw[LH]
  refine Ld (λ{x y} hx hy q=>?_) pw
  have q:O.kle (key x) (key y):=q
  rw[same x hx,same y hy] at q
  exact q
 refine Hq (NW VJ rfl (Hq (MP VJ rfl ?_ (hsz2:=by rw[eo,HD,p2.length_eq];lia))))
 rw[eo,hf]
 simp only[bne_self_eq_false,Jq,if_false]
 exact Hw (h _ p2 w2)
def cQ (h:Heap) (vs:List Ht):Heap:=((h.push (LQ "list" #[] 0)).update h.objs.size (Jt (·++vs.toArray))).push (LQ "list" vs.toArray 0)
theorem pre_size (h:Heap) (vs:List Ht):((h.push (LQ "list" #[] 0)).update h.objs.size (Jt (·++vs.toArray))).objs.size=h.objs.size+1:=by rw[Heap.size_update,size_push']
theorem pT {h:Heap} {b:Addr} {vs:List Ht} {o:Obj} (e:h.get? b=some o):(bS (cQ h vs) (h.objs.size+1) vs).get? b=some o:=by
 have hb:b<h.objs.size:=HM e
 refine ya (IE (Nat.lt_succ_of_lt hb)) (Hs _ (((J6 _ _ _).2 b (IE hb)).trans (Hs _ e)))
theorem oe {l:Addr} {vs:List Ht} {Q:Ht->Hv->Prop} (hl:s.heap.IsList l vs.toArray) (h2:2<=vs.length) (hz:vs.length<=Ii)
  (hk:∀Q':LK->Hv->Prop,Q' κ { s with heap:=bS (cQ s.heap vs) (s.heap.objs.size+1) vs }->IJ (IB prog w) A.in1.in1 (keyKind' vs.toArray) Q' E { s with heap:=bS (cQ s.heap vs) (s.heap.objs.size+1) vs })
  (C:gL prog w A.in1.in1 { s with heap:=bS (cQ s.heap vs) (s.heap.objs.size+1) vs } κ O key P) (hP:∀v∈vs,P (v,v))
  (h:∀out:List Ht,out.Perm vs->out.Pairwise (λx y=>O.kle (key (x,x)) (key (y,y)))->Q (.ref (s.heap.objs.size+1)) { s with heap:=sortedAll s.heap vs out.toArray }) :
  IJ (IB prog w) A (call (.builtin "sorted") [.ref l]) Q E s:=by
 have z1:=pre_size s.heap vs
 have z2:(cQ s.heap vs).get? (s.heap.objs.size+1)=some (LQ "list" vs.toArray 0):=z1▸HP _ rfl
 have col:=λR r=>collect_list (prog:=prog) (w:=w) (A:=A.in1) (E:=E) (Q:=R) hl r hz
 refine Mm kind_sorted plain_sorted entry_sorted (args_sorted1 _) (Hq (m:=checkCount "sorted" 1 1 _) (Hw (Hq (m:=collect (.ref l)) (col _ (Hq (MQ ?_ (hsz:=hz)))))))
 dsimp only
 rw[z1]
 refine Hq (Jc (Jx slot_list_sort ⟨_,z2,rfl⟩ entry_list_sort (uN (κ:=κ) (O:=O) (key:=key) (P:=P) z2 h2 hz hk C hP λout p q=>⟨_,rfl,Hw ⟨_,rfl,h out p q⟩⟩) (args_list_sort _)))
def dec (h:Heap):Ht->List Int
 | .ref p=>match h.get? p with
  | some o=>match o.data with
   | .seq xs _=>xs.toList.map numOf
   | _=>[]
  | none=>[]
 | _=>[]
def IsT (h:Heap) (v:Ht) (ns:List Int):Prop:=∃p its,v=.ref p/\IsTup h p (List.toArray its)/\Pm (ns.map V.int) its
theorem j4:∀{ns:List Int} {its:List Ht},Pm (ns.map V.int) its->its.map numOf=ns
 | [],its,h=>by have h:Pm [] its:=h;cases h;rfl
 | n::ns,its,h=>by
  have h:Pm (V.int n::ns.map V.int) its:=h
  cases h with
  | cons a b=>obtain ⟨t,rfl⟩:=a;rw[HJ,j4 b];rfl
theorem IsT.dec {h:Heap} {v:Ht} (q:IsT h v ns):dec h v=ns:=by
 obtain ⟨p,its,rfl,⟨o,ho,_,n,hd⟩,r⟩:=q
 unfold Tim.dec
 dsimp only
 rw[ho]
 dsimp only
 rw[hd]
 dsimp only
 exact j4 r
theorem qX {h:Heap}:gL prog w A { s with heap:=h } (tuples' true) lexOrd (λx=>dec h x.1) (λx=>∃ns,IsT h x.1 ns):=by
 intro x y C hx hy q
 obtain ⟨ns,hx⟩:=hx
 obtain ⟨ms,hy⟩:=hy
 have q:C (HT.lexLt (dec h x.1) (dec h y.1)) { s with heap:=h }:=q
 rw[hx.dec,hy.dec] at q
 obtain ⟨p,us,ex,⟨o,ho,_,n,hd⟩,r⟩:=hx
 obtain ⟨p',vs,ey,⟨o',RC,_,n',hd'⟩,r'⟩:=hy
 rw[ex,ey]
 exact PySem.W.kat_lt (s:={ s with heap:=h }) ho hd RC hd' (xb ns ms 0 r r' (by simp) q)
end
end Tim
namespace L2
open PySem PySem.Spec PyProof.Rows
def og (K:Ho):List V->Hp->VK->Prop:=λxs H Q=>∃(l:Addr) (ps:List Addr) (mss:List (List Int)),xs=[.ref l]/\Qz K H l (ps.map V.ref)/\iJ K H ps mss/\(∀ms∈mss,ms≠[]) /\
 ∀(D:Addr) (U4:List Addr),H D=none->iJ K H U4 (srt mss)->Q (.ref D) (upd H D (.lst (U4.map V.ref)))
def adr:Ht->Addr
 | .ref a=>a
 | _=>0
theorem pU (f:Addr->List Int):∀{ps:List Addr},(∀p∈ps,Qq K H p ((f p).map V.int))->iJ K H ps (ps.map f)
 | [],_=>.nil
 | p::ps,h=>.cons (h p Hx) (pU f λq hq=>h q (Ic _ hq))
theorem j5 (f:Addr->List Int):∀{ps:List Addr} {mss:List (List Int)},iJ K H ps mss->(∀p ms,Qq K H p (ms.map V.int)->f p=ms)->ps.map f=mss/\∀p∈ps,Qq K H p ((f p).map V.int)
 | _,_,.nil,_=>⟨rfl,λ_ h=>nomatch h⟩
 | _,_,.cons h t,hf=>by
  obtain ⟨e,q⟩:=j5 f t hf
  refine ⟨by rw[HJ,e,hf _ _ h],λp hp=>?_⟩
  rcases List.mem_cons.mp hp with rfl | hp
  ·rw[hf _ _ h];exact h
  ·exact q p hp
theorem jf {X:Cx}:cS X (.builtin "sorted") (og X.K):=by
 intro pins s σ H xs us Q I r h
 obtain ⟨l,ps,mss,rfl,hl,ht,hne,q⟩:=h
 obtain ⟨u,rfl,rx⟩:=vals1 r
 cases rx
 obtain ⟨vs,rv,pl,hz⟩:=I.list hl
 have hlen:ps.length=mss.length:=JM ht
 have evs:=jL rv
 subst evs
 rw[Hz] at hz
 by_cases h2:ps.length<2
 ·refine nL pl.isList (by simpa using h2) ?_
  obtain ⟨e,he⟩:=sortedAll_at s.heap (ps.map IG) (ps.map IG).toArray
  have es:srt mss=mss:=(nK (List.Perm.refl _) (by
   match mss,hlen with
   | [],_=>exact Ot
   | [_],_=>simp
   | _::_::_,hl=>simp at hl;lia)).symm
  exact ⟨.ref (s.heap.objs.size+1),_,I.laid (t':=s.toks) (o:=.lst (ps.map V.ref)) (λb o e=>sortedAll_old e) (KN _) ⟨by rw[Hz];exact hz,_,e,rv,he⟩,rfl,q _ ps (I.hok.fresh (KN _)) (by rw[es];exact ht)⟩
 ·have isT:∀p ms,Qq X.K H p (ms.map V.int)->Tim.IsT (Tim.bS (Tim.cQ s.heap (ps.map IG)) (s.heap.objs.size+1) (ps.map IG)) (.ref p) ms:=λp ms hp=>by
   obtain ⟨its,r1,⟨o,ho,hc,n,hd⟩,_⟩:=I.tuple hp
   exact ⟨p,its,rfl,⟨o,Tim.pT ho,hc,n,hd⟩,r1⟩
  have isT0:∀p ms,Qq X.K H p (ms.map V.int)->Tim.IsT s.heap (.ref p) ms:=λp ms hp=>by
   obtain ⟨its,r1,t1,_⟩:=I.tuple hp
   exact ⟨p,its,rfl,t1,r1⟩
  obtain ⟨em,each⟩:=j5 (λp=>Tim.dec s.heap (.ref p)) ht λp ms hp=>(isT0 p ms hp).dec
  have dd:∀p∈ps,Tim.dec (Tim.bS (Tim.cQ s.heap (ps.map IG)) (s.heap.objs.size+1) (ps.map IG)) (.ref p)=Tim.dec s.heap (.ref p):=λp hp=>(isT p _ (each p hp)).dec
  obtain ⟨fs,k1,k2,k3⟩:=nM (h:=Tim.bS (Tim.cQ s.heap (ps.map IG)) (s.heap.objs.size+1) (ps.map IG)) (λa xs hx=>let ⟨its,r1,⟨o,ho,hc,n,hd⟩,_⟩:=I.tuple hx;⟨its,r1,⟨o,Tim.pT ho,hc,n,hd⟩⟩) ht hne
  refine Tim.oe (κ:=tuples' true) (O:=lexOrd) (key:=λx=>Tim.dec (Tim.bS (Tim.cQ s.heap (ps.map IG)) (s.heap.objs.size+1) (ps.map IG)) x.1)
   (P:=λx=>∃ns,Tim.IsT (Tim.bS (Tim.cQ s.heap (ps.map IG)) (s.heap.objs.size+1) (ps.map IG)) x.1 ns) pl.isList (by simp;lia) (by simpa using hz) (λQ' hq=>?_) Tim.qX (λv hv=>?_) λout pm pw=>?_
  ·refine PySem.W.kat_kind (T:=.type "int") k1 (by lia) (λv hv=>?_) rfl ?_
   ·obtain ⟨i,t,rfl⟩:=k3 v hv
    exact PySem.W.Looks.of_pure rfl
   ·rw[show ((Oj "int") != Oj "tuple")=true by decide +kernel]
    exact hq
  ·obtain ⟨p,hp,rfl⟩:=List.mem_map.mp hv
   exact ⟨_,isT p _ (each p hp)⟩
  ·have pa:(out.map adr).Perm ps:=by
    have:=pm.map adr
    rw[Iq] at this
    simpa [adr,MB] using this
   have eo:out=(out.map adr).map IG:=by
    rw[Iq]
    conv=>lhs;rw[<- N0 out]
    refine IW λv hv=>?_
    obtain ⟨p,_,rfl⟩:=List.mem_map.mp (pm.mem_iff.mp hv)
    rfl
   have Se:∀p∈out.map adr,p∈ps:=λp hp=>pa.mem_iff.mp hp
   have es:(out.map adr).map (λp=>Tim.dec s.heap (.ref p))=srt mss:=by
    refine nK ?_ ?_
    ·rw[<- em];exact pa.map _
    ·rw[LH,LH]
     refine Ld (λ{x y} hx hy z=>?_) pw
     obtain ⟨p,hp,rfl⟩:=List.mem_map.mp (pm.mem_iff.mp hx)
     obtain ⟨p',hp',rfl⟩:=List.mem_map.mp (pm.mem_iff.mp hy)
     have z:HT.lexLt (Tim.dec _ (.ref p')) (Tim.dec _ (.ref p))=false:=z
     rw[dd p hp,dd p' hp'] at z
     show lexLe (Tim.dec s.heap (.ref p)) (Tim.dec s.heap (.ref p'))=true
     unfold lexLe
     rw[z];rfl
   obtain ⟨e,he⟩:=sortedAll_at s.heap (ps.map IG) out.toArray
   rw[eo] at he
   refine ⟨.ref (s.heap.objs.size+1),upd H (s.heap.objs.size+1) (.lst ((out.map adr).map V.ref)),I.laid (t':=s.toks) (o:=.lst ((out.map adr).map V.ref)) (λb o e=>sortedAll_old e) (KN _) ⟨by rw[Hz,pa.length_eq];exact hz,_,e,jM _,?_⟩,rfl,q _ _ (I.hok.fresh (KN _)) ?_⟩
   ·rw[<- eo] at he ⊢;exact he
   ·rw[<- es];exact pU _ λp hp=>each p (Se p hp)
end L2
end
section
namespace L2
open PySem PySem.Spec PyProof.Rows
section
variable {prog:Ip} {w:Ji} {A:Js} {E:Ht->Hv->Prop} {s:Hv}
theorem jg:JY "dict_itemiterator"=true:=by decide
theorem gk {it:Addr} {Q:Nat->Hv->Prop} (ty:s.TypeIs (.ref it) "dict_itemiterator") (h:Q 2 s) :
  IJ (IB prog w) A (typeNameOfWhole (.ref it) >>= λn=>pure (if JY n=true then 2 else 0)) Q E s:=
 Hq (wpAny_typeNameOfWhole_itemiter ty (Hw (by rw[jg];exact h)))
theorem uO {it d:Addr} {i n ep:Nat} {ok ov k v:Ht} {Q:Ht->Hv->Prop} (hit:LI s.heap it d i n ep ok ov)
  (hQ:∀h',IsItemIterOut h' it d i n ep k v s.heap.objs.size->h'.get? s.heap.objs.size=some { cls:=.type "tuple",data:=.seq #[k,v] }->h'.objs.size=s.heap.objs.size+1->(∀b u,b≠it->s.heap.get? b=some u->h'.get? b=some u)->Q (.ref s.heap.objs.size) { s with heap:=h' }) :
  IJ (IB prog w) A (Builtin.Dict_items.pairFromOwner (.ref it) 6 k v) Q E s:=by
 have hb:it≠s.heap.objs.size:=IE (HM hit)
 refine Hq (NL ?_)
 have e0:LI (s.heap.push { cls:=.type "tuple",data:=.seq #[k,v] }) it d i n ep ok ov:=Hs _ hit
 have t0:(s.heap.push { cls:=.type "tuple",data:=.seq #[k,v] }).get? s.heap.objs.size=some { cls:=.type "tuple",data:=.seq #[k,v] }:=HP _ rfl
 have z0:(s.heap.push { cls:=.type "tuple",data:=.seq #[k,v] }).objs.size=s.heap.objs.size+1:=Kl ..
 have q0:∀b u,s.heap.get? b=some u->(s.heap.push { cls:=.type "tuple",data:=.seq #[k,v] }).get? b=some u:=λb u e=>Hs _ e
 refine Hq (Hq (N1 e0 rfl (x:=.none) rfl (Hw ?_)))
 rw[if_pos rfl]
 refine Hq (N1 e0 rfl (x:=ok) rfl (Hq (N1 e0 rfl (x:=ov) rfl (Hq (Kj e0 (k:=6) (by simp) λg1 e1 b1=>?_)))))
 refine Hq (Kj e1 (k:=7) (by simp) λg2 e2 b2=>Hq (Kj e2 (k:=0) (by simp) λg3 e3 b3=>Hq (Kj e3 (k:=1) (by simp) λg4 e4 b4=>Hq (wpAny_letGo (Hw ?_)))))
 have all:∀b u,b≠it->(s.heap.push { cls:=.type "tuple",data:=.seq #[k,v] }).get? b=some u->g4.get? b=some u:=λb u hn e=>(b4.2 b hn).trans ((b3.2 b hn).trans ((b2.2 b hn).trans ((b1.2 b hn).trans e)))
 exact hQ g4 e4 (all _ _ hb.symm t0) (b4.1.trans (b3.1.trans (b2.1.trans (b1.1.trans z0)))) λb u hn e=>all b u hn (q0 b u e)
theorem uP {it d:Addr} {i ep:Nat} {o:Obj} {es:Array KM} {ok ov:Ht} {Q:Option Ht->Hv->Prop} (hit:LI s.heap it d i es.size ep ok ov) (ho:s.heap.get? d=some o) (hd:o.data=.dict es ep) (hi:i<es.size)
  (hQ:∀h',IsItemIterOut h' it d (i+1) es.size ep es[i].key es[i].val s.heap.objs.size->h'.get? s.heap.objs.size=some { cls:=.type "tuple",data:=.seq #[es[i].key,es[i].val] }->h'.objs.size=s.heap.objs.size+1->(∀b u,b≠it->s.heap.get? b=some u->h'.get? b=some u) ->
   Q (some (.ref s.heap.objs.size)) { s with heap:=h' }):IJ (IB prog w) A (MT (.ref it)) Q E s:=by
 have ty:s.TypeIs (.ref it) "dict_itemiterator":=⟨_,hit,rfl⟩
 unfold MT
 refine Hq (KW (Kz (name:=Nj "__next__") ty F.slot_dict_itemiterator_next (Jx F.slot_dict_itemiterator_next ty F.entry_dict_itemiterator_next ?_ (F.args_dict_itemiterator_next_1 _))))
 refine Hq (Hw (Hq (Hq (gk ty (Hq (Mq hit rfl ?_))))))
 show IJ _ _ (if (IG d==IP)=true then _ else _) _ _ s
 rw[if_neg (λz:(IG d==IP)=true=>Hy z)]
 refine Hq (Hw (Hq (J3 ho hd ?_)))
 rw[if_neg (by simp)]
 refine Hq (Hw (Hq (KP ho hd ?_)))
 rw[if_neg (by simp)]
 refine Hw ?_
 have hx:(if ((i:Nat):Int)<0 then none else es[((i:Nat):Int).toNat]?)=some es[i]:=by rw[if_neg (by lia),Jh];exact Km hi
 dsimp only
 rw[hx]
 refine Hq (gk ty (Hq (Lx ty (Hq (Kj hit (k:=3) (by simp) λg e b=>?_)))))
 have e':LI g it d (i+1) es.size ep ok ov:=by
  have z:((i+1:Nat):Int)=(i:Int)+1:=by lia
  unfold LI;rw[z];exact e
 have ty':Shared.TypeIs { s with heap:=g } (.ref it) "dict_itemiterator":=⟨_,e',rfl⟩
 refine Hq (Jc (Hq (Lx ty' (Hq (Lx ty' (uO (s:={ s with heap:=g }) e' λh' a1 a2 a3 a4=>?_))))))
 have gz:g.objs.size=s.heap.objs.size:=b.1
 rw[show ({ s with heap:=g }:Hv).heap.objs.size=s.heap.objs.size from gz] at a1 a2 a3 ⊢
 exact Hw ⟨_,rfl,Hw (hQ h' a1 a2 a3 λc u hn z=>a4 c u hn ((b.2 c hn).trans z))⟩
theorem yb {it d:Addr} {i ep:Nat} {o:Obj} {es:Array KM} {ok ov:Ht} {Q:Option Ht->Hv->Prop} (hh:A.handled=none) (hit:LI s.heap it d i es.size ep ok ov) (ho:s.heap.get? d=some o) (hd:o.data=.dict es ep) (hi:es.size<=i)
  (hQ:∀h',Heap.ExtBut it s.heap h'->Q none { s with heap:=h' }):IJ (IB prog w) A (MT (.ref it)) Q E s:=by
 have ty:s.TypeIs (.ref it) "dict_itemiterator":=⟨_,hit,rfl⟩
 unfold MT
 refine Hq (KW (Kz (name:=Nj "__next__") ty F.slot_dict_itemiterator_next (Jx F.slot_dict_itemiterator_next ty F.entry_dict_itemiterator_next ?_ (F.args_dict_itemiterator_next_1 _))))
 refine Hq (Hw (Hq (Hq (gk ty (Hq (Mq hit rfl ?_))))))
 show IJ _ _ (if (IG d==IP)=true then _ else _) _ _ s
 rw[if_neg (λz:(IG d==IP)=true=>Hy z)]
 refine Hq (Hw (Hq (J3 ho hd ?_)))
 rw[if_neg (by simp)]
 refine Hq (Hw (Hq (KP ho hd ?_)))
 rw[if_neg (by simp)]
 refine Hw ?_
 have hx:(if ((i:Nat):Int)<0 then none else es[((i:Nat):Int).toNat]?)=none:=by rw[if_neg (by lia),Jh];exact Ly hi
 dsimp only
 rw[hx]
 refine Hq (gk ty (Hq (wpAny_setField hit rfl (by simp) ?_)))
 unfold newExc newTuple
 refine Hq (Hq (IU (Hq (m:=Mr _ _) (wpAny_of_eq (a:=IP) (by first | rfl | (simp only[Mr];rfl)) (IU (N3 (show A.in1.handled=none from hh) ?_) (by size_fits)))) (by size_fits)))
 refine Hq (wpAny_isInstance (b:=true) (T:="StopIteration") ⟨_,HP _ rfl,rfl⟩ isSubtype_stop (Hw (hQ _ ?_)))
 intro b u hn e
 exact Hs _ (Hs _ (((J6 ..).2 b hn).trans e))
end
end L2
end
section
namespace L2
open PySem PySem.Spec PyProof.Rows
theorem jh:entryFor table "dict_itemiterator.__iter__"=some Builtin.«dict_keyiterator.__iter__»:=
 entryFor_alias (id':="dict_keyiterator.__iter__") (by kernel_rfl) rfl (by decide +kernel) (by kernel_rfl)
section
variable {prog:Ip} {w:Ji} {A:Js} {E:Ht->Hv->Prop} {s:Hv}
theorem uQ {d:Addr} {Q:Ht->Hv->Prop} (ty:s.TypeIs (.ref d) "dict") (hd:(d==KD)=false)
  (h:Q (.ref s.heap.objs.size) { s with heap:=s.heap.push { cls:=.type "dict_items",data:=.fields #[.ref d] } }):IJ (IB prog w) A (call (.builtin "dict.items") [.ref d]) Q E s:=by
 refine Jx F.slot_dict_items ty F.entry_dict_items (Hq (Hq (LR ty (Hw ?_)))) (F.args_dict_items_1 _)
 refine Hq (m:=KQ d) ?_
 unfold KQ
 rw[if_neg (by rw[hd];exact Hy)]
 exact Hw (Hq (IU (Hw ⟨_,rfl,h⟩)))
theorem uR {v d:Addr} {o:Obj} {es:Array KM} {ep:Nat} {Q:Ht->Hv->Prop} (hv:s.heap.IsItemsView v d) (ho:s.heap.get? d=some o) (hd:o.data=.dict es ep)
  (h:Q (.ref s.heap.objs.size) { s with heap:=s.heap.push { cls:=.type "dict_itemiterator",data:=.fields #[.none,.bool false,.ref d,.int 0 0,.int es.size 0,.int ep 0,.none,.none] } }):IJ (IB prog w) A (NJ (.ref v)) Q E s:=by
 obtain ⟨ov,g1,g2,g3⟩:=id hv
 refine MJ hv.typeIs F.slot_dict_items_iter (Jx F.slot_dict_items_iter hv.typeIs F.entry_dict_items_iter (Hq (Hw (Hq (Hq (N1 g1 g3 (x:=.ref d) rfl (Hw (Hq (Hq (J3 ho hd (Hq (KP ho hd ?_))))))))))) (F.args_dict_items_iter_1 _))
 simp only[jg,if_true]
 refine IU (Hw ⟨_,rfl,"dict_itemiterator",_,⟨_,HP _ rfl,rfl⟩,F.slot_dict_itemiterator_next.lookup,?_⟩) (by simp only[sizeOk,K7,HD,HK,IM,J5,IL];lia)
 simpa [rawInt,K7] using h
theorem uS {it d:Addr} {i n ep:Nat} {ok ov:Ht} {Q:Ht->Hv->Prop} (hit:LI s.heap it d i n ep ok ov) (h:Q (.ref it) s):IJ (IB prog w) A (NJ (.ref it)) Q E s:=
 have ty:s.TypeIs (.ref it) "dict_itemiterator":=⟨_,hit,rfl⟩
 MJ ty F.slot_dict_itemiterator_iter (Jx F.slot_dict_itemiterator_iter ty jh (show IJ _ _ (ret (.ref it)) _ _ s from Hw ⟨_,rfl,"dict_itemiterator",_,ty,F.slot_dict_itemiterator_next.lookup,h⟩) (F.args_dict_itemiterator_iter_1 _))
end
def Iti (d:Addr) (ob:Obj) (es:List (List Int×Addr×V)):It:=
 ⟨λi H=>H d=some (bM d ob es)/\i<es.length,λi H x H'=>∃p e,es[i]?=some e/\H p=none/\x=.ref p/\H'=upd H p (.tup [.ref e.2.1,e.2.2]),λi H=>H d=some (bM d ob es)/\es.length<=i⟩
theorem EV.pick {xs:List (List Int×Addr×Ht)} (r:EV es xs):∀{i:Nat} {e:List Int×Addr×V},es[i]?=some e->∃x,xs[i]?=some x/\e.2.1=x.2.1/\RelV e.2.2 x.2.2:=by
 induction r with
 | nil=>intro i e h;simp at h
 | @cons p q ps qs h t ih=>
  intro i e he
  cases i with
  | zero=>simp at he;subst he;exact ⟨q,rfl,h.2.1,h.2.2⟩
  | succ i=>simpa using ih (by simpa using he)
theorem oh {P:Ip} {w:Ji} {elts:List Expr} {x1} {tp:Pos} (it d:Addr) (ob:Obj) (es:List (List Int×Addr×V)) (ds:Array KM) (ep:Nat) (TB:ob.data=.dict ds ep) :
  Turn P w K (.Tuple elts x1 tp) (Iti d ob es) [it] it (λi h=>∃ok ov,LI h it d i ds.size ep ok ov) where
 mem:=by simp
 obj:=λi h Px b hb=>by
  obtain ⟨ok,ov,st⟩:=Px
  have e:b=it:=by simpa using hb
  subst e
  exact ⟨_,st,λv z=>by
   have z':NT _=Lh v:=z
   cases z'⟩
 keep:=λi h h' PH k=>by obtain ⟨ok,ov,st⟩:=PH;exact ⟨ok,ov,k it (by simp) _ st⟩
 item:=by
  rintro X hP hw hK hc i pins s σ H E I hf ⟨ok,ov,st⟩ ⟨hd,hi⟩
  subst hP hw hK
  obtain ⟨f0,f1,f2,f3,f4,f5⟩:=hf it (by simp)
  obtain ⟨⟨z,m,nd,xs,ev,o,WG,Ud,g1,g2,g3,g4⟩,g5⟩:=eG I hd
  rw[g5] at g1;cases g1
  rw[TB] at g3;cases g3
  obtain ⟨e,he⟩:∃e,es[i]?=some e:=⟨_,Hu hi⟩
  obtain ⟨x,hx,ek,rv⟩:=ev.pick he
  have hxl:i<xs.length:=by have:=JM ev;lia
  have XS:ds.size=xs.length:=by have:=congrArg Kk g4;simpa using this
  have Ux:ds[i]'(by lia)=sQ x:=by
   have h1:ds.toList[i]?=some (sQ x):=by rw[g4,HQ,hx];rfl
   rw[Jj,Km (by lia)] at h1
   exact Ij h1
  refine uP st g5 TB (by lia) λh' a1 a2 a3 a4=>⟨_,rfl,wpAny_letOwnedTupleGo_items (s:={ s with heap:=h' }) a1 λh2 b1 b2=>?_⟩
  have WH:∀b u,b≠it->h'.get? b=some u->h2.get? b=some u:=λb u hn q=>(b2.2 b hn).trans q
  have I2:Inv X pins σ H { s with heap:=h2 }:=I.turned (t':=s.toks) (λb o hb q=>WH b o hb (a4 b o hb q)) f0 f1 f3 f4 f5
  have np:H s.heap.objs.size=none:=I.hok.fresh (HA _)
  obtain ⟨_,p1,_,p3,p4,p5⟩:=I.fpOk (H':=H) (b:=s.heap.objs.size) (HA _) np
  have Vv:s.heap.objs.size≠it:=M7 (HM st)
  have tup:=WH _ _ Vv a2
  rw[Ux] at tup
  refine ⟨.ref s.heap.objs.size,upd H s.heap.objs.size (.tup [.ref e.2.1,e.2.2]),I2.track np I.sz p1 p4 p5 ⟨by rw[IL];exact Ir rfl,[.ref x.2.1,x.2.2],.cons (by rw[ek];rfl) (.cons rv .nil),⟨_,tup,rfl,_,rfl⟩⟩,rfl,⟨_,e,he,np,rfl,rfl⟩,⟨_,_,b1⟩,λb hb=>?_⟩
  have e':b=it:=by simpa using hb
  subst e'
  rw[ay Vv.symm];exact f0
 done:=by
  rintro X hP hw hK hc i pins s σ H E I hf ⟨ok,ov,st⟩ ⟨hd,hi⟩
  subst hP hw hK
  obtain ⟨f0,f1,f2,f3,f4,f5⟩:=hf it (by simp)
  obtain ⟨⟨z,m,nd,xs,ev,o,WG,Ud,g1,g2,g3,g4⟩,g5⟩:=eG I hd
  rw[g5] at g1;cases g1
  rw[TB] at g3;cases g3
  have XS:ds.size=xs.length:=by have:=congrArg Kk g4;simpa using this
  have:=JM ev
  exact yb (I.ok.hd hc) st g5 TB (by lia) λh' eb=>⟨rfl,I.turned (t':=s.toks) (λb o hb e=>eb b o hb e) f0 f1 f3 f4 f5⟩
 self:=λ_ _ _ _ _ PH h=>by obtain ⟨ok,ov,st⟩:=PH;exact uS st h
section
variable {X:Cx}
def uT (to:TE):TI:=fun σ H R=>to σ H λx H1=>∃d ob es,x=.ref d/\H1 d=some (bM d ob es)/\R (Iti d ob es) H1
theorem uU {o:Expr} {to:TE} {PO PP tp:Pos} {elts:List Expr} {x1} (ho:PE X o to) (hbase:JN o "items" X.env (eval o X.env)=eval o X.env:=by rfl)
  (hline:(PO.endLine==PP.line)=true:=by rfl):PI X (.Tuple elts x1 tp) (.Call (.Attribute o "items" PO) [] [] PP) (uT to):=by
 intro pins s σ H R I h
 refine MN hbase hline (PF (ho pins s σ H _ I h) λv s1 Pk=>?_)
 obtain ⟨x,H1,I1,r1,d,ob,es,hx,hd,q1⟩:=Pk
 subst hx
 cases r1
 obtain ⟨⟨z,m,nd,xs,ev,o',ds,ep,g1,g2,g3,g4⟩,g5⟩:=eG I1 hd
 rw[g5] at g1;cases g1
 refine ⟨"dict","dict.items",Lo,PySem.F.slot_dict_items,PySem.F.type_dict_items,⟨_,g5,g2.1⟩,λb e=>by cases e;exact ⟨_,g5,g2.2.1⟩,?_⟩
 refine J7 rfl (NU (uQ ⟨_,g5,g2.1⟩ m ?_))
 have I2:Inv X pins σ H1 { s1 with heap:=s1.heap.push { cls:=.type "dict_items",data:=.fields #[.ref d] } }:=I1.kept (t':=s1.toks) λb u q=>Hs _ q
 refine uR (s:={ s1 with heap:=s1.heap.push { cls:=.type "dict_items",data:=.fields #[.ref d] } }) ⟨_,HP _ rfl,rfl,rfl⟩ (Hs _ g5) g3 ?_
 refine ⟨(s1.heap.push { cls:=.type "dict_items",data:=.fields #[.ref d] }).objs.size,[(s1.heap.push { cls:=.type "dict_items",data:=.fields #[.ref d] }).objs.size],_,_,H1,rfl,I2.kept (t':=s1.toks) λb u q=>Hs _ q,oh _ d ob es ds ep g3,⟨_,_,HP _ rfl⟩,λb hb=>?_,q1⟩
 have e:b=(s1.heap.push { cls:=.type "dict_items",data:=.fields #[.ref d] }).objs.size:=by simpa using hb
 subst e
 exact I2.fpOk (HA _) (I2.hok.fresh (HA _))
end
end L2
namespace VL
open PySem L2
section
variable {K:Ho} {X:Cx} {e o:Expr} {te:TE} {va:VT} {pos PO tp:Pos}
def Uy (kvs:List (List Int×D)):List D:=kvs.map λx=>.tup [kT x.1,x.2]
def uV (va:VT):PQ:=λS Q=>va S λr S1=>∃kvs,r=.d (dc kvs)/\Q (Uy kvs) S1
theorem uW {elts:List Expr} {x1} (h:VE K X false o te va) (hbase:JN o "items" X.env (eval o X.env)=eval o X.env:=by rfl) (hline:(PO.endLine==pos.line)=true:=by rfl) :
  VI K X (.Tuple elts x1 tp) (.Call (.Attribute o "items" PO) [] [] pos) (uT te) (uV va):=⟨uU h.pe hbase hline,λH0 Z σ H S Q C k t hc=>h.snd H0 Z σ H S _ _ k t λv H1 r S1 k1 Pq rr Px=>by
 obtain ⟨kvs,er,q⟩:=Px
 subst er
 have rr:Rep K _ _ H1 v (.dic (kvs.map (·.1)) (kvs.map (·.2))):=rr
 cases rr with
 | @dic a ob es _ _ n f hh ek rk r=>
 refine ⟨a,ob,es,rfl,hh,hc _ (Uy kvs) H1 S1 k1 Pq (fun σ2 S2 H2 nm Pj i=>?_) q⟩
 obtain ⟨e1,n1⟩:=Pj a n (by rw[hh];exact λz=>nomatch z)
 have V9:H2 a=some (bM a ob es):=e1.trans hh
 have len:(Uy kvs).length=es.length:=by have:=congrArg Kk ek;simp[Uy] at this ⊢;lia
 rw[len]
 refine ⟨λhi=>⟨V9,hi⟩,λx H3 Pk hi=>?_,λhi=>⟨V9,by lia⟩⟩
 obtain ⟨p,en,he,hp,hx,hH⟩:=Pk
 subst hx;subst hH
 have hg:∀b,H2 b≠none->upd H2 p (.tup [.ref en.2.1,en.2.2]) b=H2 b:=aG hp
 have XT:=(rk.stp Pj).mono (N':=NM Z σ2 S2) (F':=Pz) (H':=upd H2 p (.tup [.ref en.2.1,en.2.2])) (λb n z=>⟨n,hg b z⟩) λ_ _=>trivial
 have r2:=(r.stp Pj).mono (N':=NM Z σ2 S2) (F':=Pz) (H':=upd H2 p (.tup [.ref en.2.1,en.2.2])) (λb n z=>⟨n,hg b z⟩) λ_ _=>trivial
 obtain ⟨dk,Us,Q5⟩:=XT.get (i:=i) (v:=.ref en.2.1) (by rw[HQ,he];rfl)
 obtain ⟨dv,hv1,hv2⟩:=r2.get (i:=i) (v:=en.2.2) (by rw[HQ,he];rfl)
 refine ⟨hg,.tup [dk,dv],?_,.tup ?_ (.inl aw) (.cons Q5 (.cons hv2 .nil))⟩
 ·rw[HQ,HQ] at Us
  rw[HQ] at hv1
  unfold Uy
  rw[HQ]
  cases hkv:kvs[i]? with
  | none=>rw[hkv] at hv1;cases hv1
  | some kv=>rw[hkv] at hv1 Us;cases hv1;cases Us;rfl
 ·exact nm p hp⟩
end
end VL
end
section
namespace L2
open PySem PySem.Spec PyProof.Rows
section
variable {prog:Ip} {w:Ji} {κ:Type} [DecidableEq κ] {knd:HeapKind prog w κ} {A:Js} {E:Ht->Hv->Prop} {s:Hv}
theorem qY {d a:Addr} {xs:List (κ×Addr×Ht)} {k:κ} {dv:Ht} {Q:Ht->Hv->Prop} (hu:knd.room A) (hkey:knd.is s.heap k a) (hm:s.heap.DictOfH knd d xs) (hz:xs.length<Ii)
  (old:∀p,OQ xs k=some p->Q p.2 { s with toks:=s.toks+knd.draws k })
  (new:OQ xs k=none->∀h',h'.DictOfH knd d (xs++[(k,a,dv)])->OE d s.heap h'->Q dv { s with heap:=h',toks:=s.toks+knd.draws k }) :
  IJ (IB prog w) A (dictSetDefault d (.ref a) dv) Q E s:=by
 obtain ⟨o,es,ep,g1,g2,g3,g4,g5,g6⟩:=hm
 have hes:=size_of_entries g4
 refine Jc (Hq (knd.pyHash hu hkey (Hq (wpAny_dictFind_heap (s:={ s with toks:=s.toks+knd.draws k }) hu hkey g1 g3 g4 g5 g6 (λno=>?_) λj p hj=>?_))))
 ·have nk:=not_mem_keys_of_get no
  have stay:∀{x:κ} {b:Addr},knd.is s.heap x b->knd.is (s.heap.update d (Obj.mapDictKeys λz=>z.push ⟨knd.hash k,.ref a,dv⟩)) x b:=λhx=>knd.keeps hx g1 g3 (J6 ..)
  refine Hq (Kc (Hq (wpAny_updateDictKeys (hz:=by lia) (s:={ s with toks:=s.toks+knd.draws k }) g1 g3 (Hw (new (atKey_none_of_get no) _ ⟨_,_,ep+1,M9 _ g1 (Obj.isFreed_of_dict (NH g3 _)),g2.mapDictKeys _,NH g3 _,?_,λx hx=>?_,?_⟩ (J6 ..))))))
  ·rw[LG,g4,HX];rfl
  ·rcases List.mem_append.mp hx with hx | hx
   ·exact stay (g5 x hx)
   ·cases List.mem_singleton.mp hx;exact stay hkey
  ·rw[HX]
   exact List.nodup_append.mpr ⟨g6,by simp,λx hx y hy z=>nk (by cases List.mem_singleton.mp hy;exact (show x=k from z)▸hx)⟩
 ·refine Hq (J3 (s:={ s with toks:=s.toks+knd.draws k }) g1 g3 ?_)
  rw[entry_at g4 j,hj]
  exact Hq (Kc (Hw (old p (atKey_of_get g6 hj))))
end
section
variable {X:Cx}
def uX (K:Ho) (n:Int):R2:=λx y H Q=>∃b a ms es,y=.ref b/\x=.ref a/\Rb K H b ms/\(∃ob,H a=some (bM a ob es))/\cf K H es/\es.length<Ii /\
 (∀v,Q3 es ms=some v->Q v H)/\(Q3 es ms=none->∀ob,Q (.int n) (upd H a (bM a ob (es++[(ms,b,.int n)]))))
def Aq (K:Ho) (n:Int) (to ti:TE):TE:=fun σ H Q=>to σ H λx H1=>(∃a es ob,x=.ref a/\H1 a=some (bM a ob es))/\ti σ H1 λy H2=>uX K n x y H2 Q
theorem uY {k:List Int} (h:Q3 es k=none):k∉es.map (·.1):=λz=>by
 have e:=e6 (es:=es) (k:=k)
 rw[h,decide_eq_true z] at e;cases e
theorem qZ {s:Hv} {x y:V} {v u:Ht} {n:Int} {t:Tok} {Q:VK} (hu:X.A.units+64<Ls) (I:Inv X pins σ H s) (rx:RelV x v) (ry:RelV y u) (h:uX X.K n x y H Q) :
  IJ (IB X.prog X.w) X.A (call (.builtin "dict.setdefault") [v,u,.int n t]) (EP X pins σ Q) X.xe s:=by
 obtain ⟨b,a,ms,es,rfl,rfl,h1,⟨ob,h2⟩,h3,hl,q1,q2⟩:=h
 cases rx;cases ry
 obtain ⟨z,m,nd,xs,ev,dd⟩:=fB I h2 h3
 have rel:=ev.at_ ms
 refine Jx F.slot_dict_setdefault dd.typeIs F.entry_dict_setdefault ?_ (F.args_dict_setdefault_3 _ _ _)
 unfold Builtin.«dict.setdefault» Builtin.Dict.keyAndDefault
 refine Hq (Hq (LR dd.typeIs (show IJ _ _ (pure (a,IG b,some (L1 n t))) _ _ s from Hw ?_)))
 show IJ _ _ (if (a==KD)=true then _ else (dictSetDefault a (.ref b) (.int n t) >>= _)) _ _ s
 rw[if_neg (by rw[m];exact Hy)]
 refine Hq (qY (Kh (by lia)) (cP I h1) dd (by rw[<- JM ev];exact hl) (λp hp=>?_) λhn h' Ul hs=>?_)
 ·rw[hp] at rel
  cases hv:Q3 es ms with
  | none=>rw[hv] at rel;exact rel.elim
  | some vv=>
   rw[hv] at rel
   exact Hw ⟨_,rfl,vv,H,I.tok _,rel,q1 vv hv⟩
 ·rw[hn] at rel
  cases hv:Q3 es ms with
  | some vv=>rw[hv] at rel;exact rel.elim
  | none=>
   obtain ⟨qo,qd,qe,f1,f2,f3,f4,_,f6⟩:=Ul
   have ev':EV (es++[(ms,b,V.int n)]) (xs++[(ms,b,L1 n t)]):=Paired.snoc ev ⟨rfl,rfl,t,rfl⟩
   refine Hw ⟨_,rfl,.int n,_,I.write (x:=a) (e:=a) (by rw[h2];exact Lz) (.inl rfl) (λc o hc q=>(hs.2 c hc).trans q) ⟨qo,f1⟩ (Qe.ok ⟨?_,m,?_,_,ev',qo,qd,qe,f1,f2,f3,f4⟩ f1),⟨t,rfl⟩,q2 hv qo⟩
   ·rw[HK];show es.length+1<=Ii;lia
   ·rw[ev'.keys];exact f6
def two' (K:Ho) (x:V) (Q:VK):List V->Hp->Prop
 | [y,.int k],H=>uX K k x y H Q
 | _,_=>False
theorem yd {o ie:Expr} {to ti:TE} {n:Int} {j:Nat} {pc PO PP:Pos} (hu:X.A.units+64<Ls) (ho:PE X o to) (hi:PE X ie ti) (hbase:JN o "setdefault" X.env (eval o X.env)=eval o X.env:=by rfl)
  (hfew:((J9 PP (HN [ie,.Constant (.int n) j pc] X.env)).all (λx=>!x.1)&&(Nv PP (LA [] X.env)).all (λx=>x.1.isSome)
   && decide (([ie,.Constant (.int n) j pc]:List Expr).length+([]:List LB).length+(if ([]:List LB).isEmpty then 0 else 1)<30))=true:=by rfl)
  (hline:(PO.endLine==PP.line)=true:=by rfl) (hs:HN [ie,.Constant (.int n) j pc] X.env=(false,eval ie X.env)::HN [.Constant (.int n) j pc] X.env:=by rfl) (hplain:(J9 PP (HN [.Constant (.int n) j pc] X.env)).any (·.1)=false:=by rfl) :
  PE X (.Call (.Attribute o "setdefault" PO) [ie,.Constant (.int n) j pc] [] PP) (Aq X.K n to ti):=by
 intro pins s σ H Q I h
 refine Lu hbase hfew hline rfl (PF (ho pins s σ H _ I h) λv s1 Pk=>?_)
 obtain ⟨x,H1,I1,r1,⟨a,es,ob,hx,ha⟩,q1⟩:=Pk
 subst hx
 cases r1
 obtain ⟨_,_,_,_,_,ob,_,_,z1,z2,_⟩:=fW I1 ha
 refine ⟨"dict","dict.setdefault",Lo,PySem.F.slot_dict_setdefault,PySem.F.type_dict_setdefault,⟨_,z1,z2.1⟩,λb e=>by cases e;exact ⟨_,z1,z2.2.1⟩,?_⟩
 have hA:=bZ hi (bZ (nu (i:=n)) eE rfl) hs PP pins s1 σ H1 (two' X.K (.ref a) Q) I1 q1
 rw[hs] at hA ⊢
 refine J7 (by show (false||(J9 PP (HN [.Constant (.int n) j pc] X.env)).any (·.1))=false;rw[hplain] <;> rfl) (K1 ?_)
 refine PF hA λus s2 Pk=>?_
 obtain ⟨vs,H2,I2,r2,q2⟩:=Pk
 match vs,r2,q2 with
 | [y,.int k],r2,q2=>
  obtain ⟨u,w,rfl,ru,t,rfl⟩:=r2.two
  exact qZ hu I2 (show RelV (.ref a) (.ref a) from rfl) ru q2
end
end L2
end
section
namespace VL
open PySem L2
section
variable {K:Ho} {X:Cx} {m:Bool} {e o ie e1 e2 e3:Expr} {te ti t1 t2 t3:TE} {va vi v1 v2 v3:VT} {pos dpos p1 p2 p3:Pos} {n1 n2 n3:Int} {j1 j2 j3:Nat} {S:List Sl} {Q:VR->List Sl->Prop}
def T5 (kvs:List (List Int×D)) (k:List Int) (n:Int):List (List Int×D):=if k∈kvs.map (·.1) then kvs else kvs++[(k,.int n)]
def Ar (i:Nat) (n:Int) (vk:VT):VT:=λS Q=>(∃kvs,S[i]?=some (od kvs))/\vk S λrk S1=>∃kvs ms j,S1[i]?=some (od kvs)/\get S1 rk=some (kT ms)/\kvs.length<=1000000/\(PJ kvs ms).getD (.int n)=.int j/\Q (.d (.int j)) (S1.set i (od (T5 kvs ms n)))
theorem rf {l:List Sl} {i:Nat} {s:Sl} (h:l[i]?=some s):l.set i s=l:=by
 apply KY
 intro j
 rw[Oz]
 by_cases e:i=j
 ·subst e
  rw[if_pos rfl]
  split
  ·exact h.symm
  ·rename_i z
   have:=(List.getElem?_eq_some_iff.mp h).1
   exact absurd this z
 ·rw[if_neg e]
theorem ye {PO pc:Pos} {n:Int} {j:Nat} (i:Nat) (hK:X.K=K) (hu:X.A.units+64<Ls) (ho:PE X o (cF i)) (hk:VE K X false ie ti vi) (hbase:JN o "setdefault" X.env (eval o X.env)=eval o X.env:=by rfl)
  (hfew:((J9 pos (HN [ie,.Constant (.int n) j pc] X.env)).all (λx=>!x.1)&&(Nv pos (LA [] X.env)).all (λx=>x.1.isSome)
   && decide (([ie,.Constant (.int n) j pc]:List Expr).length+([]:List LB).length+(if ([]:List LB).isEmpty then 0 else 1)<30))=true:=by rfl)
  (hline:(PO.endLine==pos.line)=true:=by rfl) (hs:HN [ie,.Constant (.int n) j pc] X.env=(false,eval ie X.env)::HN [.Constant (.int n) j pc] X.env:=by rfl) (hplain:(J9 pos (HN [.Constant (.int n) j pc] X.env)).any (·.1)=false:=by rfl) :
  VE K X m (.Call (.Attribute o "setdefault" PO) [ie,.Constant (.int n) j pc] [] pos) (Aq K n (cF i) ti) (Ar i n vi):=
 ⟨by subst hK;exact yd hu ho hk.pe hbase hfew hline hs hplain,λH0 Z σ H S Q C k Px hc=>by
  obtain ⟨⟨kvs0,e0⟩,t⟩:=Px
  obtain ⟨o1,g1,p,Wz,rfl,⟨Xv,ha0⟩,_⟩:=k.ownAt e0
  refine ⟨.ref p,g1,⟨p,Wz,Xv,rfl,ha0⟩,hk.snd H0 Z σ H S _ _ k t λy H2 rk S2 k2 Pj Rz Pk=>?_⟩
  obtain ⟨kvs,ms,jj,e1,ek,hl,ej,q⟩:=Pk
  obtain ⟨o2,g2,p',es,e2,⟨ob,h2⟩,h3,⟨h4,h5⟩,h6⟩:=k2.ownAt e1
  rw[g1] at g2;cases g2;cases e2
  obtain ⟨b,rfl,hq,rb⟩:=n5 Rz ek
  have hka:cf K H2 es:=cK (by rw[h4];exact h5)
  have hle:es.length=kvs.length:=by have:=congrArg Kk h4;simpa using this
  refine ⟨b,p,ms,es,rfl,rfl,Rb.of hq,⟨ob,h2⟩,hka,by rw[IL];lia,λv hv=>?_,λhv TV=>?_⟩
  ·rcases fD (k:=ms) h4 h6 with ⟨z1,_⟩ | ⟨v',d,z1,z2,r⟩
   ·rw[hv] at z1;cases z1
   ·rw[hv] at z1;cases z1
    rw[z2] at ej
    cases (show d=.int jj from ej)
    cases r
    have Se:ms∈kvs.map (·.1):=by
     have s1:=e6 (es:=es) (k:=ms)
     rw[hv,h4] at s1
     exact of_decide_eq_true s1.symm
    have es':S2.set i (od (T5 kvs ms n))=S2:=by unfold T5;rw[if_pos Se];exact rf e1
    rw[es'] at q
    exact hc _ H2 (.d (.int jj)) S2 k2 Pj (Rep.int jj) q
  ·have hnin:ms∉kvs.map (·.1):=by rw[<- h4];exact uY hv
   have na:NM Z σ S2 p->False:=λn=>n (.inl ⟨i,_,e1,rfl,g1⟩)
   have hm:∀c,NM Z σ S2 c->H2 c≠none->NM Z σ S2 c/\upd H2 p (bM p TV (es++[(ms,b,.int n)])) c=H2 c:=λc n _=>⟨n,ay λz=>na (by rw[<- z];exact n)⟩
   have hj:jj=n:=by
    rcases fD (k:=ms) h4 h6 with ⟨_,z2⟩ | ⟨v',d,z1,_⟩
    ·rw[z2] at ej;cases ej;rfl
    ·rw[hv] at z1;cases z1
   subst hj
   unfold T5 at q
   rw[if_neg hnin] at q
   obtain ⟨k3,Qi⟩:=k2.chgD (s:=od (kvs++[(ms,.int jj)])) (o:=bM p TV (es++[(ms,b,.int jj)])) e1 rfl g1 rfl ⟨p,es++[(ms,b,.int jj)],rfl,⟨TV,aw⟩,h3,⟨by rw[HX,HX,h4];rfl,by
    rw[HX,HX,HX]
    exact Pi.append (h5.mono hm λ_ x=>x) (.cons (rb.mono hm λ_ x=>x) .nil)⟩,by
    rw[HX,HX]
    exact Pi.append (h6.mono hm λ_ x=>x) (.cons (.int jj) .nil)⟩
   exact hc _ _ (.d (.int jj)) _ k3 (Pj.trans Qi) (Rep.int jj) q⟩
def As (i:Nat) (n:Int) (Q:VR->List Sl->Prop):VR->List Sl->Prop:=λrk S1=>∃kvs ms j,S1[i]?=some (od kvs)/\get S1 rk=some (kT ms)/\kvs.length<=1000000/\(PJ kvs ms).getD (.int n)=.int j/\Q (.d (.int j)) (S1.set i (od (T5 kvs ms n)))
theorem Dt {i:Nat} {n:Int} (e:S[i]?=some (od kvs)) (h:vi S (As i n Q)):Ar i n vi S Q:=⟨⟨kvs,e⟩,h⟩
theorem yf {i:Nat} {n j:Int} {rk:VR} (e:S[i]?=some (od kvs)) (ek:get S rk=some (kT ms)) (hl:kvs.length<=1000000) (ej:(PJ kvs ms).getD (.int n)=.int j) (h:Q (.d (.int j)) (S.set i (od (T5 kvs ms n)))):As i n Q rk S:=⟨kvs,ms,j,e,ek,hl,ej,h⟩
end
end VL
end
section
namespace VL
open PySem L2
section
variable {K:Ho} {X:Cx} {m:Bool} {e:Expr} {es:List Expr} {tr:TA} {vr:Qv} {x:Str} {p0 p pos:Pos} {j k:Nat} {ps:List Str} {S:List Sl} {QN:List D->List Sl->Prop}
def Gs (p:List D->(D->Prop)->Prop) (vr:Qv):SS:=λS Q=>vr S λrs S1=>∃ds,gets S1 rs=some ds/\p ds λd=>∃kvs,d=dc kvs/\flats (kvs.map (·.2))=true/\Q kvs S1
theorem Gu {p:List D->(D->Prop)->Prop} (E:PK X.prog X.w X.K X.mg X.base k x ps (PM K p)) (hr:cy j X.A) (ha:VA K X false (e::es) tr vr)
  (hk:k<=j:=by decide) (hg:Gl X x:=by rfl) (Rm:(x==("__debug__":Str))=false:=by decide) (he:HN (e::es) X.env=(false,eval e X.env)::HN es X.env:=by rfl)
  (hpl:(J9 pos (HN es X.env)).any (·.1)=false:=by rfl):U9 K X (.Call (.Name x p0) (e::es) [] pos) (iH (PM K p) [] E0 tr) (Gs p vr):=⟨oW E hr ha.pe hk hg Rm he hpl,λH0 Z σ H S Q C k t hc=>
 ha.snd H0 Z σ H S _ _ k t λvs H1 rs S1 k1 Pq Qp Px=>by
  obtain ⟨ds,e,q⟩:=Px
  refine ⟨ds,_,by rw[IV];exact Qp.gets k1 e,q,λd v H' ⟨kvs,ed,hf,q⟩ g r=>?_⟩
  subst ed
  have r2:=Rep.avoid (N':=NM Z σ S1) (λa z=>by
   have e:=k1.mo (Classical.not_not.mp z)
   rw[g a e.ne];exact e) (λa Px=>by obtain ⟨b,e,f⟩:=Px;cases e;exact k1.nm f) r
  cases r2 with
  | @dic a ob ws _ _ n f h ek rk rs=>
   obtain ⟨b,e,f⟩:=f
   cases e
   have hM:∀b,¬(NM Z σ S1 b/\b≠a)->RZ (H' b):=λb z=>by
    by_cases hb:b=a
    ·rw[hb,h];trivial
    ·have hmo:Mo Z σ S1 b:=IT λy=>z ⟨y,hb⟩
     have e:=k1.mo hmo
     rw[g b e.ne];exact e
   have sh:∀{us:List V} {ds:List D} {F:FP},Pi K (NM Z σ S1) F H' us ds->flats ds=true->∀F':FP,Pi K (λb=>NM Z σ S1 b/\b≠a) F' H' us ds:=λrr ff F'=>
    (Pi.avoid (N':=λb=>NM Z σ S1 b/\b≠a) hM (λb fb=>fb.elim) (Pi.flat (F':=λ_=>False) rr ff)).mono (λ_ n _=>⟨n,rfl⟩) (λo f=>f.elim)
   exact hc a ws kvs H1 H' S1 k1 Pq f g ⟨ob,h⟩ ek (sh rk (f7 _) _) (sh rs hf _) q⟩
def Gv (p:List D->(D->Prop)->Prop) (Q:List (List Int×D)->List Sl->Prop):List VR->List Sl->Prop:=λrs S1=>∃ds,gets S1 rs=some ds/\p ds λd=>∃kvs,d=dc kvs/\flats (kvs.map (·.2))=true/\Q kvs S1
theorem Gw {p:List D->(D->Prop)->Prop} {Q:List (List Int×D)->List Sl->Prop} (h:vr S (Gv p Q)):Gs p vr S Q:=h
theorem Du {p:List D->(D->Prop)->Prop} {Q:List (List Int×D)->List Sl->Prop} (e:gets S rs=some ds) (h:p ds λd=>∃kvs,d=dc kvs/\flats (kvs.map (·.2))=true/\Q kvs S):Gv p Q rs S:=⟨ds,e,h⟩
def oi (vr:Qv):PQ:=λS Q=>vr S λrs S1=>∃r mss,rs=[r]/\get S1 r=some (eL mss)/\(∀ms∈mss,ms≠[])/\Q ((srt mss).map eT) S1
theorem mS (hK:X.K=K) (hex:X.ex=[]) (hg:Gl X "sorted") (hm:X.mg "sorted"=none) (hb:IZ "sorted"=some (.builtin "sorted")) (ha:VA K X false [e] tr vr) (he:HN [e] X.env=[(false,eval e X.env)]:=by rfl) :
  VN K X (.Call (.Name "sorted" p) [e] [] pos) (Sm (og K) tr) (oi vr):=
 ⟨by subst hK;exact eY jf hg hm hb ha.pe (by decide) (by decide) he rfl,λH0 Z σ H S Q C k t hc=>ha.snd H0 Z σ H S _ _ k t λvs H1 rs S1 k1 Pq Qp Px=>by
  obtain ⟨r,mss,e1,e2,h1,q⟩:=Px
  subst e1
  obtain ⟨v,rfl,rv⟩:=Qp.one
  obtain ⟨a,ys,rfl,hq,rr⟩:=rv.elems k1 e2
  obtain ⟨ps,rfl,ht,_⟩:=gE rr
  exact ⟨a,ps,mss,rfl,hq,ht,h1,λl U4 hl ht'=>hc l _ _ H1 _ S1 k1 Pq hl (aG hl) aw (bC hl (eH k1.tupN ht')) q⟩⟩
def uZ (QN:List D->List Sl->Prop):List VR->List Sl->Prop:=λrs S1=>∃r mss,rs=[r]/\get S1 r=some (eL mss)/\(∀ms∈mss,ms≠[])/\QN ((srt mss).map eT) S1
theorem yg (h:vr S (uZ QN)):oi vr S QN:=h
theorem ji (e:get S r=some (eL mss)) (h1:∀ms∈mss,ms≠[]) (h:QN ((srt mss).map eT) S):uZ QN [r] S:=⟨r,mss,rfl,e,h1,h⟩
variable {va:VT}
def u0 (QN:List D->List Sl->Prop):VR->List Sl->Prop:=λr S1=>∃kvs,r=.d (dc kvs)/\QN (Uy kvs) S1
theorem yh (h:va S (u0 QN)):uV va S QN:=h
theorem u6 (h:QN (Uy kvs) S):u0 QN (.d (dc kvs)) S:=⟨kvs,rfl,h⟩
end
end VL
end
section
namespace L2
open PySem PySem.Spec PyProof.Rows
section
variable {prog:Ip} {w:Ji} {A:Js} {E:Ht->Hv->Prop} {s:Hv}
def Sf (h:Heap) (it d:Addr) (i n ep:Nat):Prop:=h.get? it=some { cls:=.type "dict_keyiterator",data:=.fields #[.ref d,.int i 0,.int n 0,.int ep 0] }
theorem rh:JY "dict_keyiterator"=false:=by decide
theorem ir {it:Addr} {Q:Nat->Hv->Prop} (ty:s.TypeIs (.ref it) "dict_keyiterator") (h:Q 0 s) :
  IJ (IB prog w) A (typeNameOfWhole (.ref it) >>= λn=>pure (if JY n=true then 2 else 0)) Q E s:=
 Hq (wpAny_typeNameOfWhole_keyiter ty (Hw (by rw[rh];exact h)))
theorem yi {it d:Addr} {i ep:Nat} {o:Obj} {es:Array KM} {Q:Option Ht->Hv->Prop} (hit:Sf s.heap it d i es.size ep) (ho:s.heap.get? d=some o) (hd:o.data=.dict es ep) (hi:i<es.size)
  (hQ:∀h',Sf h' it d (i+1) es.size ep->(∀b u,b≠it->s.heap.get? b=some u->h'.get? b=some u)->Q (some es[i].key) { s with heap:=h' }):IJ (IB prog w) A (MT (.ref it)) Q E s:=by
 have ty:s.TypeIs (.ref it) "dict_keyiterator":=⟨_,hit,rfl⟩
 unfold MT
 refine Hq (KW (Kz (name:=Nj "__next__") ty F.slot_dict_keyiterator_next (Jx F.slot_dict_keyiterator_next ty F.entry_dict_keyiterator_next ?_ (F.args_dict_keyiterator_next_1 _))))
 refine Hq (Hw (Hq (Hq (ir ty (Hq (Mq hit rfl ?_))))))
 show IJ _ _ (if (IG d==IP)=true then _ else _) _ _ s
 rw[if_neg (λz:(IG d==IP)=true=>Hy z)]
 refine Hq (Hw (Hq (J3 ho hd ?_)))
 rw[if_neg (by simp)]
 refine Hq (Hw (Hq (KP ho hd ?_)))
 rw[if_neg (by simp)]
 refine Hw ?_
 have hx:(if ((i:Nat):Int)<0 then none else es[((i:Nat):Int).toNat]?)=some es[i]:=by rw[if_neg (by lia),Jh];exact Km hi
 dsimp only
 rw[hx]
 refine Hq (ir ty (Hq (Nk ty (Hq (Kj hit (k:=1) (by simp) λg e b=>?_)))))
 have e':Sf g it d (i+1) es.size ep:=by
  have z:((i+1:Nat):Int)=(i:Int)+1:=by lia
  unfold Sf;rw[z];exact e
 refine Hq (Jc (Hq (Nk (s:={ s with heap:=g }) ⟨_,e',rfl⟩ ?_)))
 exact Hw (Hw ⟨_,rfl,Hw (hQ g e' λc u hn z=>(b.2 c hn).trans z)⟩)
theorem Dv {it d:Addr} {i ep:Nat} {o:Obj} {es:Array KM} {Q:Option Ht->Hv->Prop} (hh:A.handled=none) (hit:Sf s.heap it d i es.size ep) (ho:s.heap.get? d=some o) (hd:o.data=.dict es ep) (hi:es.size<=i)
  (hQ:∀h',Heap.ExtBut it s.heap h'->Q none { s with heap:=h' }):IJ (IB prog w) A (MT (.ref it)) Q E s:=by
 have ty:s.TypeIs (.ref it) "dict_keyiterator":=⟨_,hit,rfl⟩
 unfold MT
 refine Hq (KW (Kz (name:=Nj "__next__") ty F.slot_dict_keyiterator_next (Jx F.slot_dict_keyiterator_next ty F.entry_dict_keyiterator_next ?_ (F.args_dict_keyiterator_next_1 _))))
 refine Hq (Hw (Hq (Hq (ir ty (Hq (Mq hit rfl ?_))))))
 show IJ _ _ (if (IG d==IP)=true then _ else _) _ _ s
 rw[if_neg (λz:(IG d==IP)=true=>Hy z)]
 refine Hq (Hw (Hq (J3 ho hd ?_)))
 rw[if_neg (by simp)]
 refine Hq (Hw (Hq (KP ho hd ?_)))
 rw[if_neg (by simp)]
 refine Hw ?_
 have hx:(if ((i:Nat):Int)<0 then none else es[((i:Nat):Int).toNat]?)=none:=by rw[if_neg (by lia),Jh];exact Ly hi
 dsimp only
 rw[hx]
 refine Hq (ir ty (Hq (wpAny_setField hit rfl (by simp) ?_)))
 unfold newExc newTuple
 refine Hq (Hq (IU (Hq (m:=Mr _ _) (wpAny_of_eq (a:=IP) (by first | rfl | (simp only[Mr];rfl)) (IU (N3 (show A.in1.handled=none from hh) ?_) (by size_fits)))) (by size_fits)))
 refine Hq (wpAny_isInstance (b:=true) (T:="StopIteration") ⟨_,HP _ rfl,rfl⟩ isSubtype_stop (Hw (hQ _ ?_)))
 intro b u hn e
 exact Hs _ (Hs _ (((J6 ..).2 b hn).trans e))
theorem yj {d:Addr} {o:Obj} {es:Array KM} {ep:Nat} {Q:Ht->Hv->Prop} (ty:s.TypeIs (.ref d) "dict") (hs:(d==KD)=false) (ho:s.heap.get? d=some o) (hd:o.data=.dict es ep)
  (h:Q (.ref s.heap.objs.size) { s with heap:=s.heap.push { cls:=.type "dict_keyiterator",data:=.fields #[.ref d,.int 0 0,.int es.size 0,.int ep 0] } }):IJ (IB prog w) A (NJ (.ref d)) Q E s:=by
 refine MJ ty F.slot_dict_iter (Jx F.slot_dict_iter ty F.entry_dict_iter (Hq (Hq (LR ty (Hw ?_)))) (F.args_dict_iter_1 _))
 refine Hq (m:=KQ d) ?_
 unfold KQ
 rw[if_neg (by rw[hs];exact Hy)]
 refine Hw (Hq (J3 ho hd (Hq (KP ho hd (Hq (IU (Hw ⟨_,rfl,"dict_keyiterator",_,⟨_,HP _ rfl,rfl⟩,F.slot_dict_keyiterator_next.lookup,?_⟩)))))))
 simpa [rawInt] using h
end
def Itk (d:Addr) (ob:Obj) (es:List (List Int×Addr×V)):It:=
 ⟨λi H=>H d=some (bM d ob es)/\i<es.length,λi H x H'=>∃e,es[i]?=some e/\x=.ref e.2.1/\H'=H,λi H=>H d=some (bM d ob es)/\es.length<=i⟩
theorem rj {P:Ip} {w:Ji} {tg:Expr} (it d:Addr) (ob:Obj) (es:List (List Int×Addr×V)) (ds:Array KM) (ep:Nat) (TB:ob.data=.dict ds ep) :
  Turn P w K tg (Itk d ob es) [it] it (λi h=>Sf h it d i ds.size ep) where
 mem:=by simp
 obj:=λi h st b hb=>by
  have e:b=it:=by simpa using hb
  subst e
  exact ⟨_,st,λv z=>by
   have z':NT _=Lh v:=z
   cases z'⟩
 keep:=λi h h' st k=>k it (by simp) _ st
 item:=by
  rintro X hP hw hK hc i pins s σ H E I hf st ⟨hd,hi⟩
  subst hP hw hK
  obtain ⟨f0,f1,f2,f3,f4,f5⟩:=hf it (by simp)
  obtain ⟨⟨z,m,nd,xs,ev,o,WG,Ud,g1,g2,g3,g4⟩,g5⟩:=eG I hd
  rw[g5] at g1;cases g1
  rw[TB] at g3;cases g3
  obtain ⟨e,he⟩:∃e,es[i]?=some e:=⟨_,Hu hi⟩
  obtain ⟨x,hx,ek,rv⟩:=ev.pick he
  have hxl:i<xs.length:=by have:=JM ev;lia
  have XS:ds.size=xs.length:=by have:=congrArg Kk g4;simpa using this
  have Ux:ds[i]'(by lia)=sQ x:=by
   have h1:ds.toList[i]?=some (sQ x):=by rw[g4,HQ,hx];rfl
   rw[Jj,Km (by lia)] at h1
   exact Ij h1
  refine yi st g5 TB (by lia) λh' a1 a2=>⟨_,rfl,oK (s:={ s with heap:=h' }) a1 rfl rfl (by decide) ?_⟩
  refine ⟨.ref e.2.1,H,I.turned (t':=s.toks) (λb o hb q=>a2 b o hb q) f0 f1 f3 f4 f5,?_,⟨e,he,rfl,rfl⟩,a1,λb hb=>?_⟩
  ·rw[Ux,ek];rfl
  ·have e':b=it:=by simpa using hb
   subst e';exact f0
 done:=by
  rintro X hP hw hK hc i pins s σ H E I hf st ⟨hd,hi⟩
  subst hP hw hK
  obtain ⟨f0,f1,f2,f3,f4,f5⟩:=hf it (by simp)
  obtain ⟨⟨z,m,nd,xs,ev,o,WG,Ud,g1,g2,g3,g4⟩,g5⟩:=eG I hd
  rw[g5] at g1;cases g1
  rw[TB] at g3;cases g3
  have XS:ds.size=xs.length:=by have:=congrArg Kk g4;simpa using this
  have:=JM ev
  exact Dv (I.ok.hd hc) st g5 TB (by lia) λh' eb=>⟨rfl,I.turned (t':=s.toks) (λb o hb e=>eb b o hb e) f0 f1 f3 f4 f5⟩
 self:=λ_ _ _ _ _ st h=>wpAny_pyIter_keyiter ⟨_,st,rfl,rfl⟩ h
section
variable {X:Cx}
def Au (to:TE):TI:=fun σ H R=>to σ H λx H1=>∃d ob es,x=.ref d/\H1 d=some (bM d ob es)/\R (Itk d ob es) H1
theorem yk {tg o:Expr} {to:TE} (ho:PE X o to):PI X tg o (Au to):=by
 intro pins s σ H R I h
 refine PF (ho pins s σ H _ I h) λv s1 Pk=>?_
 obtain ⟨x,H1,I1,r1,d,ob,es,hx,hd,q1⟩:=Pk
 subst hx
 cases r1
 obtain ⟨⟨z,m,nd,xs,ev,o',ds,ep,g1,g2,g3,g4⟩,g5⟩:=eG I1 hd
 rw[g5] at g1;cases g1
 refine yj ⟨_,g5,g2.1⟩ m g5 g3 ⟨s1.heap.objs.size,[s1.heap.objs.size],_,_,H1,rfl,I1.kept (t':=s1.toks) λb u q=>Hs _ q,rj _ d ob es ds ep g3,HP _ rfl,λb hb=>?_,q1⟩
 have e:b=s1.heap.objs.size:=by simpa using hb
 subst e
 exact I1.fpOk (HA _) (I1.hok.fresh (HA _))
end
end L2
namespace VL
open PySem L2
section
variable {K:Ho} {X:Cx} {e o tg:Expr} {te:TE} {va:VT} {S:List Sl} {QN:List D->List Sl->Prop}
def Av (va:VT):PQ:=λS Q=>va S λr S1=>∃kvs,r=.d (dc kvs)/\Q ((kvs.map (·.1)).map kT) S1
theorem li (h:VE K X false o te va):VI K X tg o (Au te) (Av va):=⟨yk h.pe,λH0 Z σ H S Q C k t hc=>h.snd H0 Z σ H S _ _ k t λv H1 r S1 k1 Pq rr Px=>by
 obtain ⟨kvs,er,q⟩:=Px
 subst er
 have rr:Rep K _ _ H1 v (.dic (kvs.map (·.1)) (kvs.map (·.2))):=rr
 cases rr with
 | @dic a ob es _ _ n f hh ek rk r=>
 refine ⟨a,ob,es,rfl,hh,hc _ ((kvs.map (·.1)).map kT) H1 S1 k1 Pq (fun σ2 S2 H2 nm Pj i=>?_) q⟩
 obtain ⟨e1,n1⟩:=Pj a n (by rw[hh];exact λz=>nomatch z)
 have V9:H2 a=some (bM a ob es):=e1.trans hh
 have len:((kvs.map (·.1)).map kT).length=es.length:=by have:=congrArg Kk ek;simp at this ⊢;lia
 rw[len]
 refine ⟨λhi=>⟨V9,hi⟩,λx H3 Pk hi=>?_,λhi=>⟨V9,by lia⟩⟩
 obtain ⟨en,he,hx,hH⟩:=Pk
 subst hx;subst hH
 have XT:=(rk.stp Pj).mono (N':=NM Z σ2 S2) (F':=Pz) (H':=H3) (λb n z=>⟨n,rfl⟩) λ_ _=>trivial
 obtain ⟨dk,Us,Q5⟩:=XT.get (i:=i) (v:=.ref en.2.1) (by rw[HQ,he];rfl)
 exact ⟨λ_ _=>rfl,dk,Us,Q5⟩⟩
def Aw (QN:List D->List Sl->Prop):VR->List Sl->Prop:=λr S1=>∃kvs,r=.d (dc kvs)/\QN ((kvs.map (·.1)).map kT) S1
theorem Dw (h:va S (Aw QN)):Av va S QN:=h
theorem yl (h:QN ((kvs.map (·.1)).map kT) S):Aw QN (.d (dc kvs)) S:=⟨kvs,rfl,h⟩
end
end VL
end
section
namespace VL
open PySem L2
section
variable {K:Ho} {X:Cx} {SG:Stmt} {ts:TS} {t:P5}
theorem pV:∀{S:List Sl} {i:Nat} {ks:List (List Int)} {ds:List D},S[i]?=some (.odi ks ds)->Wk S (S.set i (.val (.dic ks ds)))
 | [],i,_,_,h=>by simp at h
 | s::r,0,ks,ds,h=>by
  have e:s=.odi ks ds:=by simpa using h
  subst e
  exact .fd (Wk.refl r)
 | s::r,i+1,ks,ds,h=>Wk.keep (pV (by simpa using h))
def Ax (i:Nat) (t:P5):P5:=λV S=>∃kvs,S[i]?=some (od kvs)/\t V (S.set i (.val (dc kvs)))
theorem ym (i:Nat) (h:VS K X SG ts t):VS K X SG ts (Ax i t):=⟨h.ps,λH0 Z σ H S V E k Px l=>by
 obtain ⟨kvs,e,t⟩:=Px
 obtain ⟨k',st⟩:=k.wk (pV e)
 exact h.snd H0 Z σ H _ V E k' t (l.step st)⟩
theorem Dy {i:Nat} {V:bh} (e:S[i]?=some (od kvs)) (h:t V (S.set i (.val (dc kvs)))):Ax i t V S:=⟨kvs,e,h⟩
end
end VL
end
section
namespace L2
open PySem PySem.Spec PyProof.Rows
section
variable {X:Cx}
def pW (K:Ho):V->V->Hp->VK->Prop:=λx y H Q=>∃b a ms es v,y=.ref b/\x=.ref a/\Rb K H b ms/\(∃ob,H a=some (bM a ob es))/\cf K H es/\Q3 es ms=some v/\Q v H
theorem yn (hu:X.A.units+64<Ls):Bn X (pW X.K):=by
 rintro pins s σ H o i ov iv Q I r1 r2 ⟨b,a,ms,es,v,ey,ex,h1,⟨ob,h2⟩,h3,hv,q⟩
 subst ex;subst ey
 cases r1;cases r2
 obtain ⟨z,m,nd,xs,ev,dd⟩:=fB I h2 h3
 have r:=ev.at_ ms
 rw[hv] at r
 cases h5:OQ xs ms with
 | none=>rw[h5] at r;exact r.elim
 | some p=>
  rw[h5] at r
  exact wpAny_getItem_heap (Kh (by lia)) (cP I h1) dd h5 ⟨v,H,I.tok _,r,q⟩
end
end L2
end
section
namespace VL
open PySem L2
section
variable {K:Ho} {N N':AP} {F:FP} {H H' H0:Hp} {Z P:AP} {σ σ':St} {S S':List Sl}
mutual
theorem Rep.mark {v:L2.V} {d:D}:Rep K N F H v d->Rep K N (λo=>F o/\∀a,o=some a->N a/\RZ (H a)) H v d
 | .int i=>.int i
 | .bl i=>.bl i
 | .non=>.non
 | .str i=>.str i
 | .ty i=>.ty i
 | .tup n h r=>.tup n h (Pi.mark r)
 | .tupK h r=>.tupK h (Pi.mark r)
 | .lst n f h r=>.lst n ⟨f,λa e=>by cases e;exact ⟨n,by rw[h];trivial⟩⟩ h (Pi.mark r)
 | .lstF n f h r=>.lstF n ⟨f,λa e=>nomatch e⟩ h (Pi.mark r)
 | .lstK f h r=>.lstK ⟨f,λa e=>nomatch e⟩ h (Pi.mark r)
 | .dic n f h e rk r=>.dic n ⟨f,λa e=>by cases e;exact ⟨n,by rw[h];trivial⟩⟩ h e (Pi.mark rk) (Pi.mark r)
 | .exc n h e=>.exc n h e
 | .oth (k:=k) h=>.oth (k.both (λa n m f=>⟨f,λb e=>by cases e;exact ⟨n,m⟩⟩) (λf=>⟨f,λa e=>nomatch e⟩) h)
 | .dib n f h e g rk r=>.dib n ⟨f,λa e=>by cases e;exact ⟨n,by rw[h];trivial⟩⟩ h e g (Pi.mark rk) (Pi.mark r)
theorem Pi.mark {vs:List L2.V} {ds:List D}:Pi K N F H vs ds->Pi K N (λo=>F o/\∀a,o=some a->N a/\RZ (H a)) H vs ds
 | .nil=>.nil
 | .cons h t=>.cons (Rep.mark h) (Pi.mark t)
end
end
end VL
end
section
namespace L2
open PySem PySem.Spec PyProof.Rows
theorem Inv.turned2 {X:Cx} {s:Hv} {h':Heap} {t':Nat} {e it:Addr} (I:Inv X pins σ H s) (k:∀b o,b≠e->b≠it->s.heap.get? b=some o->h'.get? b=some o) (fe:eU X pins H e) (fi:eU X pins H it) :
  Inv X pins σ H { s with heap:=h',toks:=t' }:=by
 obtain ⟨e0,e1,_,e3,e4,e5⟩:=fe
 obtain ⟨i0,i1,_,i3,i4,i5⟩:=fi
 have ne:∀b u,H b=some u->b≠e:=λb u q z=>by rw[z,e0] at q;cases q
 have ni:∀b u,H b=some u->b≠it:=λb u q z=>by rw[z,i0] at q;cases q
 have kk:∀b o,b∉[e,it]->s.heap.get? b=some o->h'.get? b=some o:=λb o hc q=>k b o (λz=>hc (by simp[z])) (λz=>hc (by simp[z])) q
 refine I.step (g':=s.gens) (d':=s.drawn) (ch:=[e,it]) (λb hb=>?_) (λb o _ _ hc q _=>kk b o hc q) (λb o _ _ hc q _=>⟨o.slots,kk b o hc q⟩) (λ_ _ _ _ n=>n)
  (λb o hc q=>⟨o,kk b o hc q⟩) (λ_ _ q=>q) (λ_ _ _ q=>q) (λb ps q=>⟨#[],by rw[q];simp⟩) (λm hm=>?_) (λb u q=>?_) I.bare
 ·rcases List.mem_cons.mp hb with rfl | hb
  ·exact ⟨e3,e1,e4,e5⟩
  ·obtain rfl:=List.mem_singleton.mp hb
   exact ⟨i3,i1,i4,i5⟩
 ·obtain ⟨o,es,ep,ho,r⟩:=hm
  exact ⟨o,es,ep,k _ o (Ka e1) (Ka i1) ho,r⟩
 ·refine (I.hok b u q).stay (λc v hc z=>k c v ?_ ?_ z) (λ_ z=>z) λ_ _ z=>z
  ·rcases hc with y | y
   ·rw[y];exact ne b u q
   ·exact ne c _ y
  ·rcases hc with y | y
   ·rw[y];exact ni b u q
   ·exact ni c _ y
def XU (K:Ho) (l:Addr):It:=
 ⟨λi H=>∃xs x,Qz K H l xs/\xs[i]?=some x,λi H x H'=>∃p,H p=none/\x=.ref p/\∀xs,Qz K H l xs->∃y,xs[i]?=some y/\H'=upd H p (.tup [.int i,y]),λi H=>∃xs,Qz K H l xs/\xs.length<=i⟩
theorem rm {P:Ip} {w:Ji} {elts:List Expr} {x1} {tp:Pos} (e it l:Addr) (hne:e≠it) :
  Turn P w K (.Tuple elts x1 tp) (XU K l) [e,it] e (λi h=>(∃old,IsEnum h e it i old)/\h.IsListIter it l i) where
 mem:=by simp
 obj:=λi h zq b hb=>by
  obtain ⟨⟨old,st⟩,sl⟩:=zq
  rcases List.mem_cons.mp hb with rfl | hb
  ·exact ⟨_,st,λv z=>by
    have z':NT _=Lh v:=z
    cases z'⟩
  ·obtain rfl:=List.mem_singleton.mp hb
   obtain ⟨o,q,c,d⟩:=sl
   exact ⟨o,q,λv z=>by rw[d] at z;cases z⟩
 keep:=λi h h' zq k=>by
  obtain ⟨⟨old,st⟩,sl⟩:=zq
  exact ⟨⟨old,k e (by simp) _ st⟩,sl.at λo q=>k it (by simp) o q⟩
 item:=by
  intro X hP hw hK hc i pins s σ H E I hf zq hg
  subst hP hw hK
  obtain ⟨⟨old,st⟩,sl⟩:=zq
  obtain ⟨xs,x,hq,hx⟩:=hg
  obtain ⟨its,rv,p,hz⟩:=I.list hq
  obtain ⟨u,hu,ru⟩:=rv.get hx
  have fe:=hf e (by simp)
  have fi:=hf it (by simp)
  refine wpAny_pyNext_enum_item st sl p.isList (x:=u) (by simpa using hu) hne λh' a1 a2 a3 a4 a5=>⟨_,rfl,wpAny_letOwnedTupleGo_enum (s:={ s with heap:=h',toks:=s.toks+1 }) a1 λh2 b1 b2=>?_⟩
  have kb:∀b o,b≠e->h'.get? b=some o->h2.get? b=some o:=λb o hb q=>(b2.2 b hb).trans q
  have I2:Inv X pins σ H { s with heap:=h2,toks:=s.toks+1 }:=I.turned2 (λb o n1 n2 q=>kb b o n1 (a5 b o n1 n2 q)) fe fi
  have np:H s.heap.objs.size=none:=I.hok.fresh (HA _)
  obtain ⟨_,p1,_,p3,p4,p5⟩:=I.fpOk (H':=H) (b:=s.heap.objs.size) (HA _) np
  have ns:s.heap.objs.size≠e:=M7 (HM st)
  have ni:s.heap.objs.size≠it:=by
   obtain ⟨o,q,_⟩:=id sl
   exact M7 (HM q)
  refine ⟨.ref s.heap.objs.size,upd H s.heap.objs.size (.tup [.int i,x]),I2.track np I.sz p1 p4 p5 ⟨by rw[IL];exact Ir rfl,[.int i s.toks,u],.cons ⟨_,rfl⟩ (.cons ru .nil),⟨_,kb _ _ ns a3,rfl,_,rfl⟩⟩,rfl,⟨_,np,rfl,λys hy=>⟨x,by rw[I.list_inj hy hq];exact hx,rfl⟩⟩,⟨⟨_,by simpa using b1⟩,a2.at λo q=>kb it o (Ka hne) q⟩,λb hb=>?_⟩
  rcases List.mem_cons.mp hb with rfl | hb
  ·rw[ay (Ka ns)];exact fe.1
  ·obtain rfl:=List.mem_singleton.mp hb
   rw[ay (Ka ni)];exact fi.1
 done:=by
  intro X hP hw hK hc i pins s σ H E I hf zq hg
  subst hP hw hK
  obtain ⟨⟨old,st⟩,sl⟩:=zq
  obtain ⟨xs,hq,hx⟩:=hg
  obtain ⟨its,rv,p,hz⟩:=I.list hq
  obtain ⟨f0,f1,f2,f3,f4,f5⟩:=hf it (by simp)
  have hl:=rv.length
  exact wpAny_pyNext_enum_end (I.ok.hd hc) st sl p.isList (Ly (by simp;lia)) λh' eb=>⟨rfl,I.turned (t':=s.toks) (λb o hb q=>eb b o hb q) f0 f1 f3 f4 f5⟩
 self:=λ_ _ _ _ _ zq h=>by
  obtain ⟨⟨old,st⟩,_⟩:=zq
  exact OA st h
section
variable {X:Cx}
def Ay (K:Ho) (ta:TA):TI:=fun σ H R=>ta σ H λvs H1=>∃l,vs=[.ref l]/\(∃xs,Qz K H1 l xs)/\R (XU K l) H1
theorem yo {a:Expr} {ta:TA} {p pos tp:Pos} {elts:List Expr} {x1} (hg:Gl X "enumerate") (hm:X.mg "enumerate"=none) (ha:PA X [a] ta) (hs:HN [a] X.env=[(false,eval a X.env)]:=by rfl):PI X (.Tuple elts x1 tp) (.Call (.Name "enumerate" p) [a] [] pos) (Ay X.K ta):=by
 intro pins s σ H R I h
 refine Call_ (gx I hg hm boot_enumerate (J4 (PF (ha pos pins s σ H _ I h) λus s1 Pk=>?_) hs rfl))
 obtain ⟨vs,H1,I1,r1,q1⟩:=Pk
 obtain ⟨l,e,⟨xs,hq⟩,q⟩:=q1
 subst e
 cases r1 with
 | cons r rr=>
  cases rr
  cases r
  obtain ⟨its,rv,pl,hz⟩:=I1.list hq
  refine call_enumerate_list pl.isList λh' g1 g2 g3 g4=>?_
  have I2:Inv X pins σ H1 { s1 with heap:=h' }:=I1.kept (t':=s1.toks) g4
  refine OA (s:={ s1 with heap:=h' }) g1 ⟨s1.heap.objs.size+1,[s1.heap.objs.size+1,s1.heap.objs.size],_,XU X.K l,H1,rfl,I2,rm _ _ l (by lia),⟨⟨_,g1⟩,g2⟩,λb hb=>?_,q⟩
  have hb':s1.heap.objs.size<=b:=by
   rcases List.mem_cons.mp hb with rfl | hb
   ·lia
   ·obtain rfl:=List.mem_singleton.mp hb
    exact HA _
  exact I1.fpOk hb' (I1.hok.fresh hb')
end
end L2
namespace VL
open PySem L2
section
variable {K:Ho} {X:Cx} {a:Expr} {tr:TA} {vr:Qv} {S:List Sl} {QN:List D->List Sl->Prop} {p pos tp:Pos}
def Su (ds:List D):List D:=(HF ds.length).map λ(i:Nat)=>.tup [.int i,ds.getD i .non]
theorem yp (ds:List D):(Su ds).length=ds.length:=by simp[Su]
theorem Dz {i:Nat} (h:ds[i]?=some d):(Su ds)[i]?=some (.tup [.int i,d]):=by
 obtain ⟨hi,e⟩:=List.getElem?_eq_some_iff.mp h
 simp[Su,hi,List.getD,e]
def Az (vr:Qv):PQ:=λS Q=>vr S λrs S1=>∃ds,rs=[.d (.lst ds)]/\Q (Su ds) S1
theorem pX {elts:List Expr} {x1} (hK:X.K=K) (hg:Gl X "enumerate") (hm:X.mg "enumerate"=none) (ha:VA K X false [a] tr vr) (hs:HN [a] X.env=[(false,eval a X.env)]:=by rfl) :
  VI K X (.Tuple elts x1 tp) (.Call (.Name "enumerate" p) [a] [] pos) (Ay K tr) (Az vr):=⟨by subst hK;exact yo hg hm ha.pe hs,λH0 Z σ H S Q C k t hc=>
 ha.snd H0 Z σ H S _ _ k t λvs H1 rs S1 k1 Pq Qp Px=>by
  obtain ⟨ds,e,q⟩:=Px
  subst e
  obtain ⟨v,rfl,rv⟩:=Qp.one
  have rv:Rep K _ _ H1 v (.lst ds):=rv
  obtain ⟨l,xs,rfl,hq,_⟩:=rv.sqL
  refine ⟨l,rfl,⟨xs,hq⟩,hc _ (Su ds) H1 S1 k1 Pq (fun σ2 S2 H2 nm Pj i=>?_) q⟩
  obtain ⟨l',xs',e,hq2,r2⟩:=(rv.stp Pj).sqL
  cases e
  rw[yp]
  refine ⟨λhi=>?_,λx H3 hy hi=>?_,λhi=>⟨xs',hq2,by rw[r2.length];lia⟩⟩
  ·obtain ⟨y,h1,_⟩:=r2.getD (Hu hi)
   exact ⟨xs',y,hq2,h1⟩
  ·obtain ⟨p,hp,rfl,hy⟩:=hy
   obtain ⟨y,h2,rfl⟩:=hy xs' hq2
   obtain ⟨d,h3,h4⟩:=r2.get h2
   have g:=aG (o:=.tup [.int i,y]) hp
   exact ⟨g,_,Dz h3,.tup (nm p hp) (.inl aw) (.cons (.int _) (.cons (h4.mono (λb n z=>⟨n,g b z⟩) λ_ _=>trivial) .nil))⟩⟩
def AA (QN:List D->List Sl->Prop):List VR->List Sl->Prop:=λrs S1=>∃ds,rs=[.d (.lst ds)]/\QN (Su ds) S1
theorem DA (h:vr S (AA QN)):Az vr S QN:=h
theorem yq (h:QN (Su ds) S):AA QN [.d (.lst ds)] S:=⟨ds,rfl,h⟩
end
end VL
end
section
namespace L2
open PySem PySem.Spec PyProof.Rows
def AB:V->V->Hp->VK->Prop:=λx y H Q=>∃p xs i v,x=.ref p/\y=.int (i:Nat)/\H p=some (.lst xs)/\xs[i]?=some v/\Q v H
theorem yr {X:Cx}:Bn X AB:=by
 rintro pins s σ H o i ov iv Q I r1 r2 ⟨p,xs,k,z,e1,e2,hp,hz,q⟩
 subst e1;subst e2
 cases r1
 obtain ⟨t,rfl⟩:=r2
 obtain ⟨its,r,pl,Vh⟩:=I.list (show Qz X.K H p xs from .inl (.inl hp))
 obtain ⟨u,hu,ru⟩:=r.get hz
 have hk:=(List.getElem?_eq_some_iff.mp hu).1
 have hn:=fL
 have hl:=r.length
 exact getItem_listL pl.isList (by lia) (by lia) (by simpa using hu) ⟨z,H,I,ru,q⟩
end L2
namespace VL
open PySem L2
section
variable {K:Ho} {X:Cx} {m:Bool} {o ie e:Expr} {ti te ta:TE} {vi va:VT} {pos QX PO:Pos} {S:List Sl}
def Gx (i:Nat) (vi va:VT):P5:=λV S=>vi S λri S1=>∃(ds:List D) (j:Nat) (x:Int),S1[i]?=some (.own ds)/\get S1 ri=some (.int j)/\ds[j]?=some (.int x)/\va S1 λr S2=>∃n,r=.d (.int n)/\S2[i]?=some (.own ds)/\V.nx (S2.set i (.own (ds.set j (.int (x+n)))))
theorem yt (i:Nat) (ho:PE X o (cF i)) (hi:VE K X false ie ti vi) (h:VE K X false e te va)
  (ha:∀ov iv new,augStore ie ov iv new=(do Lg [new,ov,iv] (OV ov iv new);release [new,ov,iv] [];pure .next):=by intros;rfl) :
  VS K X (.AugAssign (.Subscript o ie QX) .Add e pos) (zr (cF i) ti te AB (WX λi j=>i+j) oT) (λV S=>(∃ds,S[i]?=some (.own ds))/\Gx i vi va V S):=
 ⟨wF ho hi.pe yr h.pe su set_list ha,λH0 Z σ H S V E k zq l=>by
  obtain ⟨⟨Xg,e0⟩,zq⟩:=zq
  obtain ⟨o1,g1,p,vs0,rfl,_⟩:=k.ownAt e0
  refine ⟨.ref p,g1,hi.snd H0 Z σ H S _ _ k zq λy H2 ri S2 k2 Pj Rz Px=>?_⟩
  obtain ⟨ds,j,x,e1,ej,hx,t⟩:=Px
  obtain ⟨o2,g2,p',vs,e2,h2,h3,h4⟩:=k2.ownAt e1
  rw[g1] at g2;cases g2;cases e2
  cases Rz.get k2 ej
  obtain ⟨v,hv,rv⟩:=h4.getD hx
  cases rv
  refine ⟨p,vs,j,.int x,rfl,rfl,h2,hv,h.snd H0 Z σ H2 S2 _ _ k2 t λz H3 r S3 k3 Qi rr3 zq2=>?_⟩
  obtain ⟨n,er,e3,q⟩:=zq2
  subst er
  cases (show Rep K _ _ H3 z (.int n) from rr3)
  obtain ⟨o3,g3,p'',WI,e4,f2,f3,f4⟩:=k3.ownAt e3
  rw[g1] at g3;cases g3;cases e4
  have hj:j<WI.length:=by rw[f4.length];exact (List.getElem?_eq_some_iff.mp hx).1
  refine ⟨x,n,rfl,rfl,p,WI,j,j,rfl,rfl,f2,by simp only[Ru];rw[if_pos (by lia),if_pos (by lia)];simp,?_⟩
  have na:NM Z σ S3 p->False:=λn=>n (.inl ⟨i,_,e3,rfl,g1⟩)
  have hm:∀b,NM Z σ S3 b->H3 b≠none->NM Z σ S3 b/\upd H3 p (.lst (WI.set j (.int (x+n)))) b=H3 b:=λb n _=>⟨n,ay λz=>na (by rw[<- z];exact n)⟩
  obtain ⟨k4,PZ⟩:=k3.chg (s:=.own (ds.set j (.int (x+n)))) (o:=.lst (WI.set j (.int (x+n)))) e3 rfl g1 ⟨_,rfl⟩ rfl ⟨p,_,rfl,aw,f3,(f4.mono hm λ_ x=>x).set (.int _) j⟩
  exact l.nx _ _ _ k4 ((Pj.trans Qi).trans PZ) q⟩
end
end VL
end
section
namespace L2
open PySem PySem.Spec PyProof.Rows
theorem mT {X:Cx} (hu:X.A.units+64<Ls):Sx X (pW X.K):=by
 intro value slice pins s σ H x y v u Q I rx ry h hs
 have g:=yn hu pins s σ H x y v u Q I rx ry h
 obtain ⟨b,a,ms,es,z,ey,ex,h1,⟨ob,h2⟩,_⟩:=h
 subst ex
 cases rx
 obtain ⟨_,_,_,_,_,o,_,_,z1,z2,_⟩:=fW I h2
 exact tail_any ⟨_,z1,z2.1⟩ slot_dict_getitem.lookup g hs
end L2
namespace VL
open PySem L2
section
variable {K:Ho} {X:Cx} {m:Bool} {o ie:Expr} {to ti:TE} {vo vi:VT} {pos:Pos} {S:List Sl} {Q:VR->List Sl->Prop}
def Gy (vo vi:VT):VT:=λS Q=>vo S λr S1=>vi S1 λrk S2=>∃kvs ms i,get S2 r=some (dc kvs)/\get S2 rk=some (kT ms)/\PJ kvs ms=some (.int i)/\Q (.d (.int i)) S2
theorem om (hK:X.K=K) (hu:X.A.units+64<Ls) (ho:VE K X false o to vo) (hi:VE K X false ie ti vi) (hs:fV ie):VE K X m (.Subscript o ie pos) (Rw (pW K) to ti) (Gy vo vi):=
 ⟨by subst hK;exact oS (mT hu) ho.pe hi.pe hs,λH0 Z σ H S Q C k t hc=>by
  refine ho.snd H0 Z σ H S _ _ k t λx H1 ra S1 k1 Pq r1 t1=>?_
  refine hi.snd H0 Z σ H1 S1 _ _ k1 t1 λy H2 rb S2 k2 Pj r2 Pk=>?_
  obtain ⟨kvs,ms,i,e1,e2,ei,q⟩:=Pk
  obtain ⟨b,vs,rfl,hq,rr⟩:=Rep.sqT (show Rep K _ _ H2 y (.tup (ms.map D.int)) from r2.get k2 e2)
  cases Pi.toInts rr
  obtain ⟨a,es,rfl,_,_,ha,ek,hk,_,rv⟩:=Rep.dct (show Rep K _ _ H2 x (.dic _ _) from (r1.step Pj).get k2 e1)
  rcases fD (k:=ms) ek rv with ⟨z1,z2⟩ | ⟨v,d,z1,z2,r⟩
  ·rw[z2] at ei;cases ei
  ·rw[z2] at ei
   cases ei
   cases r
   exact ⟨b,a,ms,es,.int i,rfl,rfl,Rb.of hq,ha,hk,z1,hc _ H2 (.d (.int i)) S2 k2 (Pq.trans Pj) (Rep.int i) q⟩⟩
def AC (vi:VT) (Q:VR->List Sl->Prop):VR->List Sl->Prop:=λr S1=>vi S1 λrk S2=>∃kvs ms i,get S2 r=some (dc kvs)/\get S2 rk=some (kT ms)/\PJ kvs ms=some (.int i)/\Q (.d (.int i)) S2
def AD (r:VR) (Q:VR->List Sl->Prop):VR->List Sl->Prop:=λrk S2=>∃kvs ms i,get S2 r=some (dc kvs)/\get S2 rk=some (kT ms)/\PJ kvs ms=some (.int i)/\Q (.d (.int i)) S2
theorem Gz (h:vo S (AC vi Q)):Gy vo vi S Q:=h
theorem yu (h:vi S (AD r Q)):AC vi Q r S:=h
theorem lq {r rk:VR} {i:Int} (e1:get S r=some (dc kvs)) (e2:get S rk=some (kT ms)) (e3:PJ kvs ms=some (.int i)) (h:Q (.d (.int i)) S):AD r Q rk S:=⟨kvs,ms,i,e1,e2,e3,h⟩
end
end VL
namespace VL
open PySem L2
section
variable {K:Ho} {X:Cx} {m:Bool} {a b:Expr} {ta tb:TE} {va vb:VT} {pos:Pos} {S:List Sl} {Q:VR->List Sl->Prop}
def AE (va vb:VT):VT:=λS Q=>va S λra S1=>vb S1 λrb S2=>∃ds es,ra=.d (.tup ds)/\rb=.d (.tup es)/\ds≠[]/\ds.length+es.length<=1000/\Q (.d (.tup (ds++es))) S2
theorem yv (hK:X.K=K) (ha:VE K X m a ta va) (hb:VE K X m b tb vb):VE K X m (.BinOp a .Add b pos) (Rw (zB K) ta tb) (AE va vb):=⟨by subst hK;exact jC wO ha.pe hb.pe,λH0 Z σ H S Q C k t hc=>
 ha.snd H0 Z σ H S _ _ k t λx H1 ra S1 k1 Pq r1 t1=>hb.snd H0 Z σ H1 S1 _ _ k1 t1 λy H2 rb S2 k2 Pj r2 Px=>by
  obtain ⟨ds,es,e1,e2,n1,hl,q⟩:=Px
  subst e1;subst e2
  have rx:Rep K (NM Z σ S2) (FM H0 m) H2 x (.tup ds):=(show eV K _ Z σ S1 H1 x (.d (.tup ds)) from r1).step Pj
  obtain ⟨p,vs,rfl,hq,rr⟩:=rx.sqT
  obtain ⟨p',Q0,rfl,hq',U7⟩:=Rep.sqT (show Rep K _ _ H2 y (.tup es) from r2)
  have l1:=rr.length
  have l2:=U7.length
  refine ⟨p,p',vs,Q0,rfl,rfl,hq,hq',λz=>n1 (Jn (by rw[<- l1,z];rfl)),by rw[l1,l2,IL];lia,λz=>?_,λ_ l U2=>?_⟩
  ·obtain rfl:es=[]:=Jn (by rw[<- l2,z];rfl)
   rw[IV] at q
   exact hc _ _ (.d (.tup ds)) S2 k2 (Pq.trans Pj) rx q
  ·have g:=aG (o:=.tup (vs++Q0)) U2
   exact hc _ _ (.d (.tup (ds++es))) S2 (k2.grow g) ((Pq.trans Pj).trans (.grow g)) (show Rep K _ _ _ _ _ from Rep.tup (k2.nm U2) (.inl aw) ((Pi.append rr U7).mono (λa n e=>⟨n,g a e⟩) λ_ x=>x)) q⟩
def u7 (vb:VT) (Q:VR->List Sl->Prop):VR->List Sl->Prop:=λra S1=>vb S1 λrb S2=>∃ds es,ra=.d (.tup ds)/\rb=.d (.tup es)/\ds≠[]/\ds.length+es.length<=1000/\Q (.d (.tup (ds++es))) S2
def u9 (ra:VR) (Q:VR->List Sl->Prop):VR->List Sl->Prop:=λrb S2=>∃ds es,ra=.d (.tup ds)/\rb=.d (.tup es)/\ds≠[]/\ds.length+es.length<=1000/\Q (.d (.tup (ds++es))) S2
theorem DB (h:va S (u7 vb Q)):AE va vb S Q:=h
theorem vf {ra:VR} (h:vb S (u9 ra Q)):u7 vb Q ra S:=h
theorem vj {ds es:List D} (h1:ds≠[]) (hl:ds.length+es.length<=1000) (h:Q (.d (.tup (ds++es))) S):u9 (.d (.tup ds)) Q (.d (.tup es)) S:=⟨ds,es,rfl,rfl,h1,hl,h⟩
end
end VL
end
section
namespace VL
open PySem L2 PySem.W
section
variable {K:Ho} {X:Cx} {Qw:Hp} {E:XK} {A B:List Stmt} {ts us:TS} {t u:(Addr->Prop)->List Sl->Prop} {pos:Pos}
theorem vm {SX:List Stmt} (h1:Sr K X Qw E SX ts t) (h2:Sr K X Qw E SX us u):Sr K X Qw E SX (λD σ H=>ts D σ H\/us D σ H) (λWc S=>t Wc S\/u Wc S):=
 ⟨λpins s σ H D I h=>h.elim (h1.ps pins s σ H D I) (h2.ps pins s σ H D I),λWc hE H0 Z σ H S D k f zq=>zq.elim (λz=>.inl (h1.snd Wc hE H0 Z σ H S D k f z)) λz=>.inr (h2.snd Wc hE H0 Z σ H S D k f z)⟩
end
end VL
end
section
namespace VL
open PySem L2
section
variable {K:Ho} {X:Cx} {m:Bool} {e o a b:Expr} {te ta tb:TE} {va vb:VT} {pos PO:Pos} {S:List Sl} {Q:VR->List Sl->Prop} {QN:List D->List Sl->Prop} {t:PQ}
def AF (i:Nat):VT:=λS Q=>∃ds d,S[i]?=some (.own ds)/\ds[ds.length-1]?=some d/\Q (.d d) (S.set i (.own ds.dropLast))
theorem Pi.dropLast {N:AP}:∀{vs:List V} {ds:List D},Pi K N F H vs ds->Pi K N F H vs.dropLast ds.dropLast
 | _,_,.nil=>.nil
 | _,_,.cons h .nil=>.nil
 | _,_,.cons h (.cons h2 t)=>.cons h (Pi.dropLast (.cons h2 t))
theorem yw (i:Nat) (hK:X.K=K) (ho:PE X o (cF i)) (hbase:JN o "pop" X.env (eval o X.env)=eval o X.env:=by rfl) (hline:(PO.endLine==pos.line)=true:=by rfl) :
  VE K X m (.Call (.Attribute o "pop" PO) [] [] pos) (Ep K "list" Er (cF i)) (AF i):=⟨by subst hK;exact BC Ll PySem.F.slot_list_pop PySem.F.type_list_pop BD ho hbase hline,λH0 Z σ H S Q C k Px hc=>by
 obtain ⟨ds,d,e0,hd,q⟩:=Px
 obtain ⟨o,h1,a,vs,rfl,h2,h3,h4⟩:=k.ownAt e0
 have hz:=h4.length
 obtain ⟨y,hy,ry⟩:=h4.getD hd
 rw[<- hz] at hy
 refine ⟨.ref a,h1,.inl ⟨rfl,vs,.inl (.inl h2)⟩,a,vs,y,rfl,rfl,h2,hy,?_⟩
 have na:NM Z σ S a->False:=λn=>n (.inl ⟨i,_,e0,rfl,h1⟩)
 have hm:∀b,NM Z σ S b->H b≠none->NM Z σ S b/\upd H a (.lst vs.dropLast) b=H b:=λb n _=>⟨n,ay λz=>na (by rw[<- z];exact n)⟩
 obtain ⟨k2,Pj⟩:=k.chg (s:=.own ds.dropLast) (o:=.lst vs.dropLast) e0 rfl h1 ⟨_,rfl⟩ rfl ⟨a,_,rfl,aw,h3,(Pi.dropLast h4).mono hm λ_ x=>x⟩
 exact hc y _ (.d d) _ k2 Pj (show Rep K _ _ _ _ _ from (ry.mono (λb n e=>⟨(Pj.1 b n e).2,(Pj.1 b n e).1⟩) λ_ x _=>x)) q⟩
theorem DC {i:Nat} (e:S[i]?=some (.own ds)) (hd:ds[ds.length-1]?=some d) (h:Q (.d d) (S.set i (.own ds.dropLast))):AF i S Q:=⟨ds,d,e,hd,h⟩
end
end VL
end
section
namespace VL
open PySem L2 PySem.W
section
variable {K:Ho} {X:Cx} {a b:Expr} {ta tb:TE} {pos:Pos} {S:List Sl} {Q:List D->List Sl->Prop}
theorem Pi.rep {N:AP} (h:Pi K N F H vs ds):∀k:Nat,Pi K N F H (HH k vs).flatten (HH k ds).flatten
 | 0=>.nil
 | k+1=>by
  rw[Jk,JZ,Jk,JZ]
  exact Pi.append h (Pi.rep h k)
def GA (t:PQ) (vb:VT):PQ:=λS Q=>t S λds S1=>vb S1 λr S2=>∃k:Nat,r=.d (.int k)/\ds.length*k<=1000000/\k<=1000000/\Q (HH k ds).flatten S2
theorem DD {t:PQ} {vb:VT} (h1:VN K X a ta t) (h2:VE K X false b tb vb):VN K X (.BinOp a .Mult b pos) (Rw Es ta tb) (GA t vb):=⟨jC BF h1.pe h2.pe,λH0 Z σ H S Q C k t hc=>
 h1.snd H0 Z σ H S _ _ k t λc us ds H1 Xn S1 k1 Pq ha1 VW hl1 VX t1=>h2.snd H0 Z σ Xn S1 _ _ (k1.grow VW) t1 λy H2 r S2 k2 Pj r2 Px=>by
  obtain ⟨n,rfl,hlen,hn,q⟩:=Px
  obtain ⟨ec,nc2⟩:=Pj.1 c (k1.nm ha1) (by simp[hl1])
  have VV:H2 c=some (.lst us):=by rw[ec,hl1]
  have r1:Pi K (NM Z σ S2) (Fr H0) H2 us ds:=(VX.mono (N':=NM Z σ S1) (λb n e=>⟨n.1,rfl⟩) (λ_ x=>x)).step Pj
  cases r2
  refine ⟨c,(n:Int),us,rfl,rfl,VV,by lia,by lia,by rw[VX.length,IL,Jh];exact Jf hlen (by decide),λp hp=>?_⟩
  rw[Jh]
  exact hc p _ _ H2 _ S2 k2 ((Pq.trans (.grow VW)).trans Pj) hp (aG hp) aw (bC hp ((Pi.rep r1 n).mono (λ_ n _=>⟨n,rfl⟩) λ_ x _=>x)) q⟩
@[irreducible] def pY (vb:VT) (Q:List D->List Sl->Prop):List D->List Sl->Prop:=λds S1=>vb S1 λr S2=>∃k:Nat,r=.d (.int k)/\ds.length*k<=1000000/\k<=1000000/\Q (HH k ds).flatten S2
@[irreducible] def pZ (ds:List D) (Q:List D->List Sl->Prop):VR->List Sl->Prop:=λr S2=>∃k:Nat,r=.d (.int k)/\ds.length*k<=1000000/\k<=1000000/\Q (HH k ds).flatten S2
theorem GB {t:PQ} {vb:VT} (h:t S (pY vb Q)):GA t vb S Q:=by unfold pY at h;exact h
theorem yx {vb:VT} (h:vb S (pZ ds Q)):pY vb Q ds S:=by unfold pY;unfold pZ at h;exact h
theorem yz {k:Nat} (h1:ds.length*k<=1000000) (h2:k<=1000000) (h:Q (HH k ds).flatten S):pZ ds Q (.d (.int k)) S:=by unfold pZ;exact ⟨k,rfl,h1,h2,h⟩
variable {va vb:VT} {z:Str} {QR:VR->List Sl->Prop}
end
end VL
end
section
namespace L2
open PySem PySem.Spec PyProof.Rows
def layB:Str×JF->List (Str×Addr)->Sem (ForInStep (List (Str×Addr))):=λx cells=>
 if (x.2==Jl)=true then do let c <- alloc { cls:=.type "cell",data:=.cell none };pure (JG ((x.1,c)::cells)) else pure (JG cells)
theorem mU:∀(l:List (Str×JF)) (acc:List (Str×Addr)),(∀z∈l,z.2≠.cell)->forIn l acc layB=pure acc
 | [],_,_=>rfl
 | z::r,acc,h=>by
  have hz:(z.2==Jl)=false:=by simpa using h z Hx
  rw[L6]
  unfold layB
  rw[hz]
  simp only[Jq,if_false,pure_bind]
  exact mU r acc λy hy=>h y (Ic _ hy)
theorem p6 {y:Str} {post:List (Str×JF)} (hp:∀z∈post,z.2≠.cell):∀(pre:List (Str×JF)) (acc:List (Str×Addr)),(∀z∈pre,z.2≠.cell) ->
  forIn (pre++(y,Jl)::post) acc layB=(do let c <- alloc { cls:=.type "cell",data:=.cell none };pure ((y,c)::acc))
 | [],acc,_=>by
  rw[IA,L6]
  show (layB (y,Jl) acc >>= _)=_
  unfold layB
  rw[if_pos (show (Jl==Jl)=true from rfl)]
  simp only[bind_assoc,pure_bind]
  congr 1
  funext c
  exact mU post _ hp
 | z::r,acc,h=>by
  have hz:(z.2==Jl)=false:=by simpa using h z Hx
  rw[Iu,L6]
  show (layB z acc >>= _)=_
  unfold layB
  rw[hz]
  simp only[Jq,if_false,pure_bind]
  exact p6 hp r acc λy hy=>h y (Ic _ hy)
structure lr (scope:JX) (y:Str):Prop where
 at_:∃pre post,scope.names=pre++(y,Jl)::post/\(∀z∈pre,z.2≠.cell)/\∀z∈post,z.2≠.cell
theorem jA {M:O4} {A:Js} {E:Ht->Hv->Prop} {s:Hv} {scope:JX} {y:Str} {g:Addr} {cl:List (Str×Addr)} {qual:Str} {env:Env} {Q:Env->Hv->Prop} (h:lr scope y)
  (hQ:Q { scope:=scope,locals:=s.heap.objs.size,globals:=g,cells:=(y,s.heap.objs.size+1)::cl,qual:=qual,func:=none,code:=env.code,frame:=env.frame,builtins:=env.builtins }
   { s with heap:=(s.heap.push { cls:=.type "dict",data:=.dict #[] }).push { cls:=.type "cell",data:=.cell none } }) :
  IJ M A (newFunctionEnv scope g cl [] qual none IP (some env)) Q E s:=by
 obtain ⟨pre,post,e,h1,h2⟩:=h.at_
 have he:(forIn scope.names cl λ(x:Str×JF) (cells:List (Str×Addr))=>match x with
   | (name,kind)=>if (kind==Jl)=true then (do let c <- alloc { cls:=.type "cell",data:=.cell none };pure (JG ((name,c)::cells)):Sem (ForInStep (List (Str×Addr)))) else pure (JG cells))=(do let c <- alloc { cls:=.type "cell",data:=.cell none };pure ((y,c)::cl)):=by
  rw[e]
  exact p6 h2 pre cl h1
 simp only[newFunctionEnv,Option.isSome_some,if_true]
 refine Hq (wpAny_alloc ?_)
 refine Hq ?_
 show IJ M A (forIn scope.names cl λ(x:Str×JF) (cells:List (Str×Addr))=>match x with
   | (name,kind)=>if (kind==Jl)=true then (do let c <- alloc { cls:=.type "cell",data:=.cell none };pure (JG ((name,c)::cells)):Sem (ForInStep (List (Str×Addr)))) else pure (JG cells)) _ _ _
 rw[he]
 refine Hq (wpAny_alloc (Hw ?_))
 refine Hq ?_
 rw[List.forIn_nil]
 refine Hw (Hw ?_)
 have e2:(s.heap.push { cls:=.type "dict",data:=.dict #[] }).objs.size=s.heap.objs.size+1:=Kl ..
 rw[<- e2] at hQ
 exact hQ
def bf (X:Cx) (scope:JX) (N:List Str) (y:Str) (C:Addr) (fp:List Addr) (s₀:Hv) (H₀:Hp):Cx:=
 { X with N:=N,s₀:=s₀,H₀:=H₀,env:=Kn scope ((y,C+1)::bu X.env scope.names []) C X.env,outer:=X.stack,stack:=X.stack,ex:=fp,fn:=λx=>x==y,pn:=[],xe:=λ_ _=>False }
structure eN (X:Cx) (scope:JX) (y:Str) (tg cs:List Str) (ix:List Nat):Prop where
 kind:scope.kind=.function
 one:lr scope y
 look:scope.names.lookup y=some .cell
 names:∀z∈scope.names,z.2=.local->scope.names.lookup z.1=some .local
 nd:(tg++cs).Nodup
 at_:ix.map (λi=>X.N[i]?)=cs.map some
 free:∀x∈cs,(x,Io)∈scope.names/\scope.names.lookup x=some .free
 nofree:(y,Io)∉scope.names
 out:∀x,(x,Io)∈scope.names->X.env.scope.names.lookup x=some .cell\/X.env.scope.names.lookup x=some .free
theorem jk {env:Env} {scope:JX} {x:Str} {k:JF} (h:(NV scope env).names.lookup x=some k) (hk:k=.cell\/k=.free):scope.names.lookup x=some .cell\/(x,Io)∈scope.names:=by
 have h:(scope.names.map λ(n,k)=>if (k==Io&&env.scope.kind==.function&&env.kindOf n==some .cell) then (n,Jl) else (n,k)).lookup x=some k:=h
 rw[df] at h
 cases q:scope.names.lookup x with
 | none=>rw[q] at h;cases h
 | some k0=>
  have hm:=II q
  rw[q] at h
  by_cases c:freed env (x,k0)=true
  ·unfold freed at c
   simp only[Ik,beq_iff_eq] at c
   refine .inr ?_
   rw[<- c.1.1]
   exact hm
  ·have h2:k0=k:=by simpa [c] using h
   subst h2
   rcases hk with rfl | rfl
   ·exact .inl rfl
   ·exact .inr hm
theorem rn {scope:JX} {x y:Str} (h:lr scope y) (e:scope.names.lookup x=some .cell):x=y:=by
 obtain ⟨pre,post,en,h1,h2⟩:=h.at_
 have hm:=II e
 rw[en] at hm
 rcases List.mem_append.mp hm with z | z
 ·exact absurd rfl (h1 _ z)
 ·rcases List.mem_cons.mp z with z | z
  ·exact congrArg Prod.fst z
  ·exact absurd rfl (h2 _ z)
section
variable {X:Cx} {pins:List (Addr×Obj)} {σ:St} {H H1:Hp} {s:Hv}
theorem rp {scope:JX} {y:Str} {tg cs:List Str} {fp:List Addr} {s4:Hv} (S:eN X scope y tg cs ix) (I:Inv X pins σ H s) (hf:∀b∈fp,eU X pins H b) (ho:∀b∈fp,∃o,s.heap.get? b=some o) {C:Addr} (hC:s.heap.objs.size<=C)
  (hk:∀b o,s.heap.get? b=some o->s4.heap.get? b=some o) (hns:s4.heap.Ns C λ_=>none) (hcell:s4.heap.IsCell (C+1) none) (os:s4.os=s.os) (bare:L3 s4.gens) (hn:H C=none) (XR:H (C+1)=none) :
  Inv (bf X scope (tg++cs) y C fp s H) [] (capt tg.length ix σ) H s4:=by
 have RI:∀x c,(bu X.env scope.names []).lookup x=some c->X.env.cells.lookup x=some c:=λx c e=>by
  rcases cT (II e) with h | h
  ·cases h
  ·exact h
 -- a cell of QG block: its own or one of outside
 have Wa:∀x c,((y,C+1)::bu X.env scope.names []).lookup x=some c->(x=y/\c=C+1)\/(x≠y/\(bu X.env scope.names []).lookup x=some c):=λx c e=>by
  rw[KA] at e
  cases q:x==y with
  | true=>rw[q] at e;exact .inl ⟨by simpa using q,(Ij e).symm⟩
  | false=>rw[q] at e;exact .inr ⟨by simpa using q,e⟩
 have old:∀x c,X.env.cells.lookup x=some c->c<s.heap.objs.size:=λx c e=>by
  obtain ⟨v,o,h1,_⟩:=I.cell x c e
  exact HM h1
 have R4:∀x,(x,Io)∈scope.names->∃c,(bu X.env scope.names []).lookup x=some c:=λx hx=>by
  obtain ⟨c,e⟩:=I.ok.has x (S.out x hx)
  have m:=iK (acc:=[]) hx e
  cases q:(bu X.env scope.names []).lookup x with
  | some c'=>exact ⟨c',rfl⟩
  | none=>
   have:=List.lookup_eq_none_iff.mp q (x,c) m
   simp at this
 have hasY:∀x,x≠y->∀c,(bu X.env scope.names []).lookup x=some c->((y,C+1)::bu X.env scope.names []).lookup x=some c:=λx hx c e=>by
  rw[KA,show (x==y)=false by simpa using hx]
  exact e
 have atY:((y,C+1)::bu X.env scope.names []).lookup y=some (C+1):=by rw[KA,show (y==y)=true by simp]
 refine ⟨⟨I.ok.mod,?_,I.ok.glob,I.ok.blt,hC,λx z c e1 e2=>?_,λx hx=>?_,λx c h e=>?_,I.ok.hd,I.ok.frames,.inl rfl,λb hb=>⟨?_,λx c e=>?_⟩,I.bs,Jf I.ok.bsz I.sz,λb o e hb=>?_,λb hb hx=>?_,I.stack,I.stkFree⟩,
  os,bare,Un.kept hk,⟨_,hns,λi x v e1 e2 e3=>?_⟩,λx c e=>?_,hn,λx c e=>?_,λp hp=>(by cases hp),I.hok.kept hk,?_⟩
 ·show (NV scope X.env).kind=.function
  exact S.kind
 ·rcases Wa x c e1 with ⟨rfl,rfl⟩ | ⟨h1,q1⟩ <;> rcases Wa z _ e2 with ⟨rfl,h2⟩ | ⟨h2,q2⟩
  ·rfl
  ·have:=old _ _ (RI _ _ q2);lia
  ·have:=old _ _ (RI _ _ q1);lia
  ·exact I.ok.inj x z c (RI x c q1) (RI z c q2)
 ·have hx':(NV scope X.env).names.lookup x=some .cell\/(NV scope X.env).names.lookup x=some .free:=hx
  have RV:scope.names.lookup x=some .cell\/(x,Io)∈scope.names:=by
   rcases hx' with h | h
   ·exact jk h (.inl rfl)
   ·exact jk h (.inr rfl)
  by_cases TZ:x=y
  ·subst TZ;exact ⟨_,atY⟩
  ·rcases RV with h | h
   ·exact absurd (rn S.one h) TZ
   ·obtain ⟨c,e⟩:=R4 x h
    exact ⟨c,hasY x TZ c e⟩
 ·have h:(x==y)=true:=h
  obtain rfl:x=y:=by simpa using h
  have e:((x,C+1)::bu X.env scope.names []).lookup x=some c:=e
  rw[atY] at e
  cases e
  show s.heap.objs.size<=C+1
  lia
 ·obtain ⟨o,e⟩:=ho b hb
  exact IE (HS (HM e) hC)
 ·rcases Wa x c e with ⟨rfl,rfl⟩ | ⟨_,q⟩
  ·obtain ⟨o,e⟩:=ho b hb
   have:=HM e
   lia
  ·exact (hf b hb).2.2.2.2.1 x c (RI x c q)
 ·obtain ⟨_,_,_,h,_⟩:=hf b hb
  rcases h with h | h
  ·exact I.ok.noex b o e h
  ·exact absurd (HS (HM (I.ok.bs b o e).1) h) (Jb _)
 ·have hx:b∈QS X.stack:=hx
  obtain ⟨_,h1,h2,_⟩:=hf b hb
  rcases List.mem_cons.mp (I.stkSub b hx) with h | h
  ·exact h1 h
  ·exact h2 h
 ·obtain ⟨hx,k,h1,h2⟩:=dq (X:=X) S.at_ e1 e2
  obtain ⟨R5,RV⟩:=S.free x hx
  have TZ:x≠y:=λz=>S.nofree (z▸R5)
  obtain ⟨m,hnm,hl⟩:=I.loc
  have ov:=S.out x R5
  obtain ⟨u,r,l⟩:=hl k x v h1 h2 (by rcases ov with z | z;exact .inr (.inl z);exact .inr (.inr z))
  refine ⟨u,r,?_⟩
  rcases l with ⟨l,_⟩ | ⟨_,c,lc,ic⟩
  ·have l:X.env.scope.names.lookup x=some .local:=l
   rcases ov with z | z <;> rw[z] at l <;> cases l
  ·obtain ⟨c',e'⟩:=R4 x R5
   have:=(RI x c' e').symm.trans lc
   cases this
   refine .inr ⟨b9 RV,c,hasY x TZ c e',?_⟩
   obtain ⟨o,Uj,RH⟩:=ic
   exact ⟨o,hk c o Uj,RH⟩
 ·rcases Wa x c e with ⟨rfl,rfl⟩ | ⟨_,q⟩
  ·exact ⟨none,hcell⟩
  ·obtain ⟨v,o,Uj,RH⟩:=I.cell x c (RI x c q)
   exact ⟨v,o,hk c o Uj,RH⟩
 ·rcases Wa x c e with ⟨rfl,rfl⟩ | ⟨_,q⟩
  ·exact XR
  ·exact I.freeC x c (RI x c q)
 ·show (capt tg.length ix σ).length=(tg++cs).length
  have:=congrArg Kk S.at_
  simp only[Hz] at this
  unfold capt
  simp[this]
end
end L2
end
section
namespace L2
open PySem PySem.Spec PyProof.Rows
def lu (scope Rl:JX) (N:List Str) (y:Str) (tg cs:List Str) (ix:List Nat) (k:Nat):Prop:=
 scope.names[k]?=some (y,.cell)/\(∀z∈scope.names.take k,z.2≠.cell)/\(∀z∈scope.names.drop (k+1),z.2≠.cell)/\scope.names.lookup y=some .cell/\(∀z∈scope.names,z.2=.local->scope.names.lookup z.1=some .local)/\(tg++cs).Nodup/\ix.map (λi=>N[i]?)=cs.map some /\
 (∀x∈cs,(x,Io)∈scope.names/\scope.names.lookup x=some .free)/\(y,Io)∉scope.names/\∀z∈scope.names,z.2=.free->Rl.names.lookup z.1=some .cell\/Rl.names.lookup z.1=some .free
instance (scope Rl:JX) (N:List Str) (y:Str) (tg cs:List Str) (ix:List Nat) (k:Nat):Decidable (lu scope Rl N y tg cs ix k):=by unfold lu;infer_instance
theorem mV {X:Cx} {scope:JX} {y:Str} {tg cs:List Str} (Rl:JX) (N:List Str) (k:Nat) (h:lu scope Rl N y tg cs ix k) (hk:scope.kind=.function:=by rfl) (ho:X.env.scope=Rl:=by rfl) (hN:X.N=N:=by rfl):eN X scope y tg cs ix:=by
 obtain ⟨a1,a2,a3,h1,h2,h3,h4,h5,h6,h7⟩:=h
 have hlt:=(List.getElem?_eq_some_iff.mp a1).1
 refine ⟨hk,⟨scope.names.take k,scope.names.drop (k+1),?_,a2,a3⟩,h1,h2,h3,by rw[hN];exact h4,h5,h6,λx hx=>by rw[ho];exact h7 (x,.free) hx rfl⟩
 have e:scope.names[k]=(y,.cell):=(List.getElem?_eq_some_iff.mp a1).2
 rw[<- e,<- JC hlt,IC]
theorem lw {X:Cx} {env:Env} {scope:JX} {tg cs:List Str} (Rl:JX) (N:List Str) (h:kC scope Rl N tg cs ix) (ho:X.env.scope=NV Rl env:=by rfl) (hk:scope.kind=.function:=by rfl) (hN:X.N=N:=by rfl):aV X scope tg cs ix:=by
 obtain ⟨h1,h2,h3,h4,h5,h6⟩:=h
 refine ⟨hk,h1,h2,h3,by rw[hN];exact h4,h5,λx hx=>?_⟩
 rw[ho]
 rcases h6 (x,.free) hx rfl with e | e
 ·refine .inl ?_
  show (Rl.names.map λ(n,k)=>if (k==Io&&env.scope.kind==.function&&env.kindOf n==some .cell) then (n,Jl) else (n,k)).lookup x=_
  rw[df]
  have e:Rl.names.lookup x=some .cell:=e
  rw[e]
  rfl
 ·exact b9 e
end L2
end
section
namespace L2
open PySem PySem.Spec PyProof.Rows PySem.W
abbrev vp:=(α:Type)->Sem α->Sem α
abbrev ly:=St->List V->(List V->Hp->Prop)->Hp->Prop
abbrev goIn (c:Expr) (RB:Nat) (i:Expr) (acc:Ht) (env:Env):vp:=λ_ r=>do
 let x <- eval i env;Le i.pos;let x <- HY i env x;let _ <- runOwn (.compStart c RB (<- Lg [x] (NJ x)) acc env) env;r
abbrev AG (elt:Expr) (acc:Ht) (env:Env):vp:=λ_ r=>do { (do { let _ <- call (.builtin "list.append") [acc,<- eval elt env] });r }
def lz (c:Expr) (RB:Nat) (t i:Expr) (act:Ht->Env->vp):Prop:=(∀(it acc:Ht) (env:Env),LJ c RB it acc env=(do { Le i.pos;match <- MT it with | none=>pure (.done .next) | some v=>(do { KJ t it v;LO t env v;act acc env _ (Mf (.compLoop c RB it acc env)) }) }))/\(∀(P:Ip) (w:Ji) (it acc:Ht) (env:Env),(IB P w).den (.compLoop c RB it acc env)=(LJ c RB it acc env).onRaise (λx=>do Nb x env;KO x))/\∀(A:Js) (it acc:Ht) (env:Env),A.under (.compLoop c RB it acc env)=A
def lA (c:Expr) (RB:Nat):Prop:=∀{P:Ip} {w:Ji} {A:Js} {R:Result->Hv->Prop} {s:Hv} {it acc:Ht} {env:Env},KG (IB P w) A (.compLoop c RB it acc env) R s->IJ (IB P w) A (NJ it) (λy s'=>KG (IB P w) A (.compLoop c RB y acc env) R s') (notedBy (IB P w) A env λx s'=>R (.error x) s') s->KG (IB P w) A (.compStart c RB it acc env) R s
def DE (Y:Cx) (D:Addr) (act:vp) (ta:ly):Prop:=∀{pins:List (Addr×Obj)} {σ:St} {H:Hp} {s:Hv} {ys:List V} {its:List Ht} {k:Nat} {Nx:List V->Hp->Prop},Inv Y pins σ H s->(∀p∈Y.pn++pins,p.1≠D)->H D=none->s.heap.get? D=some (P6 its k)->Pm ys its->ta σ ys Nx H ->
 ∀{α:Type} {r:Sem α} {Q:α->Hv->Prop} {E:Ht->Hv->Prop},(∀s' Qj its' k' σ' H',Inv Y pins σ' H' s'->σ'=σ->H' D=none->s'.heap.get? D=some (P6 its' k')->Pm Qj its'->Nx Qj H'->IJ (IB Y.prog Y.w) Y.A r Q E s')->IJ (IB Y.prog Y.w) Y.A (act α r) Q E s
def jl (te:TE):ly:=fun σ ys Nx H=>ys.length<Ii/\te σ H λv H6=>Nx (ys++[v]) H6
theorem rq {Y:Cx} {elt:Expr} {te:TE} {D:Addr} (RF:∀e s,¬Y.xe e s) (he:PE Y elt te) (dL:D≠Y.env.locals) (dS:Y.s₀.heap.objs.size<=D) (dC:∀x c,Y.env.cells.lookup x=some c->c≠D) (dF:D∉Y.fs):DE Y D (AG elt (.ref D) Y.env) (jl te):=by
 rintro pins σ H s ys its k Nx I dP dn dg vy ⟨hz,h⟩ α r Q E fin
 have nc:∀v,(P6 its k).data≠.cell v:=λv z=>by have z':Nw _ _=Lh v:=z;cases z'
 have RO:Inv Y (pins++[(D,P6 its k)]) σ H s:=I.pins_of λp hp=>by
  rcases List.mem_append.mp hp with hp | hp
  ·exact I.pin p (Hr _ hp)
  ·rw[List.mem_singleton.mp hp];exact ⟨dg,dn,dL,dF,nc⟩
 refine Hq (Hq (Ih (he _ s σ H _ RO h) (λy Qu Pk=>?_) λe s z=>(RF e s z).elim))
 obtain ⟨v,RD,Ry,rv,nx⟩:=Pk
 have d6:=Ry.pin (D,P6 its k) (Hr _ (Hr _ Hx))
 have VH:=vy.length
 refine Hq (LC F.slot_list_append ⟨_,d6.1,rfl⟩ F.entry_list_append (F.args_list_append_2 _ _) (LD D its.toArray k y (by rw[HD];lia)) ⟨d6.1,?_⟩)
 have SM:=LU d6.1 (·.push y)
 rw[show its.toArray.push y=(its++[y]).toArray by simp] at SM
 have RJ:Inv Y pins σ RD { Qu with heap:=Qu.heap.update D (Jt (·.push y)) }:=
  Ry.unpinned.turned (t':=Qu.toks) (λb o hb e=>(JA Qu.heap (Jt (·.push y)) (Ka hb)).trans e) d6.2.1 dL (.inr dS) dC dP
 exact Hw (fin _ (ys++[v]) (its++[y]) _ σ RD RJ rfl d6.2.1 SM (vy.append (.cons rv .nil)) nx)
def mW (wi:TI) (a:Nat) (ta:ly):ly:=fun σ ys Nx H=>(∀v,σ[a]?≠some (some v))/\wi σ H λJ H1=>∃W:Nat->Nat->List V->Hp->Prop,(∃m,W 0 m ys H1)/\∀j m zs H2,W j m zs H2 ->
 (J.stop j H2/\Nx zs H2)\/(J.go j H2/\∃N2:List V->Hp->Prop,(∀QQ H',N2 QQ H'->∃m',m'<m/\W (j+1) m' QQ H')/\∀x H3,J.yld j H2 x H3->ta (σ.set a (some x)) zs N2 H3)
theorem p8 {Y:Cx} {c t i:Expr} {RB a:Nat} {act:Ht->Env->vp} {wi:TI} {ta:ly} {D:Addr} (hturn:lz c RB t i act) (hstart:lA c RB) (Pv:Y.calm=true) (RF:∀e s,¬Y.xe e s) (hi:PI Y t i wi) (hg:PG Y t (bB a)) (ha:DE Y D (act (.ref D) Y.env) ta)
  (dL:D≠Y.env.locals) (dS:Y.s₀.heap.objs.size<=D) (dC:∀x c,Y.env.cells.lookup x=some c->c≠D) (dF:D∉Y.fs) (hs:∀x,HY i Y.env x=pure x):DE Y D (goIn c RB i (.ref D) Y.env) (mW wi a ta):=by
 rintro pins σ H s ys its k Nx I dP dn dg vy ⟨hu,h⟩ α r Q E fin
 have nc:∀(its:List Ht) (k:Nat) v,(P6 its k).data≠.cell v:=λits k v z=>by have z':Nw _ _=Lh v:=z;cases z'
 have RO:∀{H':Hp} {s':Hv} {its':List Ht} {k':Nat},Inv Y pins σ H' s'->H' D=none->s'.heap.get? D=some (P6 its' k')->Inv Y (pins++[(D,P6 its' k')]) σ H' s':=λI' n' g'=>I'.pins_of λp hp=>by
  rcases List.mem_append.mp hp with hp | hp
  ·exact I'.pin p (Hr _ hp)
  ·rw[List.mem_singleton.mp hp];exact ⟨g',n',dL,dF,nc _ _⟩
 refine Hq (Ih (hi _ s σ H _ (RO I dn dg) h) (λv s1 h1=>?_) λe s z=>(RF e s z).elim)
 refine Hq (Jd ?_)
 rw[hs]
 refine Hq (Hw (Hq (Jc (Ih h1 (λTb s2 h2=>?_) λe s z=>(RF e s z).elim))))
 obtain ⟨it,fp,tn,J,H2,rfl,I2,T,Pj,Up,W,⟨m0,w0⟩,turn⟩:=h2
 have Rk:D∉fp:=λz=>(Up D z).2.2.2.2.2 (D,P6 its k) (Hr _ (Hr _ Hx)) rfl
 have Q7:∀{H':Hp} {its':List Ht} {k':Nat},(∀b∈fp,H' b=none)->∀b∈fp,eU Y (pins++[(D,P6 its' k')]) H' b:=λhn b hb=>by
  obtain ⟨_,a1,a2,a3,a4,a5⟩:=Up b hb
  refine ⟨hn b hb,a1,a2,a3,a4,λp hp z=>?_⟩
  rcases List.mem_append.mp hp with hp | hp
  ·exact a5 p (HR _ hp) z
  ·rcases List.mem_append.mp hp with hp | hp
   ·exact a5 p (Hr _ (HR _ hp)) z
   ·rw[List.mem_singleton.mp hp] at z;have z:D=b:=z;exact Rk (z▸hb)
 have d2:=I2.pin (D,P6 its k) (Hr _ (Hr _ Hx))
 have loop:KG (IB Y.prog Y.w) Y.A (.compLoop c RB (.ref it) (.ref D) Y.env) (λres s'=>match res with | .ok _=>IJ (IB Y.prog Y.w) Y.A r Q E s' | .error e=>cameBackBy (IB Y.prog Y.w) Y.A Y.env E e s') s2:=by
  refine Lb rfl (λn s'=>∃j zs its k H',Inv Y pins σ H' s'/\tn j s'.heap/\(∀b∈fp,H' b=none)/\H' D=none/\s'.heap.get? D=some (P6 its k)/\Pm zs its/\W j n zs H') ?_ m0 ⟨0,ys,its,k,H2,I2.unpinned,Pj,λb hb=>(Up b hb).1,d2.2.1,d2.1,vy,w0⟩
  rintro n s5 ⟨j,zs,QU,k5,H5,I5,Py,Ra,d5,o5,v5,w5⟩
  rw[hturn.2.1,hturn.2.2]
  refine LF (m:=LJ c RB (.ref it) (.ref D) Y.env) ?_
  rw[hturn.1]
  have Qr:=RO I5 d5 o5
  refine Hq (Jd (Hq ?_))
  rcases turn j n zs H5 w5 with ⟨stop,qn⟩ | ⟨go,N2,hN,step⟩
  ·refine PF (T.done Y rfl rfl rfl Pv j _ s5 _ H5 _ Qr (Q7 Ra) Py stop) λr s6 Pk=>?_
   obtain ⟨hr,I6⟩:=Pk
   subst hr
   have d6:=I6.pin (D,P6 QU k5) (Hr _ (Hr _ Hx))
   exact Hw (fin s6 zs QU k5 σ H5 I6.unpinned rfl d5 d6.1 v5 qn)
  ·refine PF (T.item Y rfl rfl rfl Pv j _ s5 _ H5 _ Qr (Q7 Ra) Py go) λr s6 Pk=>?_
   obtain ⟨u,hr,h6⟩:=Pk
   subst hr
   refine Hq (PF h6 λ_ s7 Pk=>?_)
   obtain ⟨x,H7,I7,r7,y7,Qk,R7⟩:=Pk
   have R8:=I7.pinned (Q7 R7) (T.obj _ _ Qk)
   refine Hq (Ih (hg _ s7 _ H7 x u (fun σ8 H8=>σ8=σ.set a (some x)/\H8=H7) R8 r7 ⟨rfl,rfl⟩) (λ_ s8 Pk=>?_) λe s z=>(RF e s z).elim)
   obtain ⟨σ8,H8,I8,e8,XW⟩:=Pk
   subst e8;subst XW
   have d8:=I8.pin (D,P6 QU k5) (Hr _ (HR _ (Hr _ Hx)))
   have I9:Inv Y (pins++cw fp s7.heap) (σ.set a (some x)) H8 s8:=I8.pins_of λp hp=>by
    rcases List.mem_append.mp hp with hp | hp
    ·exact I8.pin p (Hr _ (HR _ (HR _ hp)))
    ·exact I8.pin p (Hr _ (Hr _ hp))
   refine ha I9 (λp hp=>?_) d8.2.1 d8.1 v5 (step x H8 y7) λQu QQ its' k' σ' RD Ry e10 d10 SM v10 nx=>?_
   ·rcases List.mem_append.mp hp with hp | hp
    ·exact dP p (HR _ hp)
    ·rcases List.mem_append.mp hp with hp | hp
     ·exact dP p (Hr _ hp)
     ·exact λz=>Rk (z▸(fw hp).1)
   ·subst e10
    have pn:=λ(b:Addr) (hb:b∈fp) (o:Obj) (e:s7.heap.get? b=some o)=>Ry.pin (b,o) (Hr _ (Hr _ (aQ hb e)))
    obtain ⟨m',hm,w8⟩:=hN QQ RD nx
    refine Hw ⟨rfl,m',hm,j+1,QQ,its',k',RD,Ry.unpinned.weak (by simp) (λi v e=>?_),T.keep _ _ _ Qk λb hb o e=>(pn b hb o e).1,λb hb=>?_,d10,SM,v10,w8⟩
    ·by_cases T8:a=i
     ·subst T8;exact (hu v e).elim
     ·rw[Ia T8];exact e
    ·obtain ⟨o,e,_⟩:=T.obj _ _ Qk b hb
     exact (pn b hb o e).2.1
 exact Hq (wpAny_runOwn (hstart (A:=Y.A) loop (T.self _ 0 _ _ _ Pj loop)))
end L2
end
section
namespace L2
open PySem PySem.Spec PyProof.Rows PySem.W
section
variable {elt t1 i1 t2 i2 t3 i3:Expr} {scope:JX} {pos:Pos}
abbrev bp (elt t1 i1 t2 i2 t3 i3:Expr) (scope:JX) (pos:Pos):Expr:=.ListComp elt [⟨t1,i1,[],0⟩,⟨t2,i2,[],0⟩,⟨t3,i3,[],0⟩] scope pos
theorem yA:lz (bp elt t1 i1 t2 i2 t3 i3 scope pos) 0 t1 i1 (goIn (bp elt t1 i1 t2 i2 t3 i3 scope pos) 1 i2):=⟨λ_ _ _=>by rfl,λ_ _ _ _ _=>by rfl,λ_ _ _ _=>by rfl⟩
theorem yB:lz (bp elt t1 i1 t2 i2 t3 i3 scope pos) 1 t2 i2 (goIn (bp elt t1 i1 t2 i2 t3 i3 scope pos) 2 i3):=⟨λ_ _ _=>by rfl,λ_ _ _ _ _=>by rfl,λ_ _ _ _=>by rfl⟩
theorem yC:lz (bp elt t1 i1 t2 i2 t3 i3 scope pos) 2 t3 i3 (AG elt):=⟨λ_ _ _=>by rfl,λ_ _ _ _ _=>by rfl,λ_ _ _ _=>by rfl⟩
theorem vq:lA (bp elt t1 i1 t2 i2 t3 i3 scope pos) 1:=λ{P w A R s it acc env} h0 h=>by
 refine Ng (Od (m:=compStart (bp elt t1 i1 t2 i2 t3 i3 scope pos) 1 it acc env) ?_)
 unfold compStart
 refine (show IJ _ _ (ask >>= _) _ _ s from Hq (MU (wpAny_ite ?_)))
 split
 ·exact Hw ⟨rfl,h0⟩
 ·exact Hq (Kc (Hq (m:=Le i2.pos) (Jd (Hq (Ih h (λy s' q=>Hw ⟨rfl,q⟩) λ_ _ x=>x)))))
theorem vw:lA (bp elt t1 i1 t2 i2 t3 i3 scope pos) 2:=λ{P w A R s it acc env} h0 h=>by
 refine Ng (Od (m:=compStart (bp elt t1 i1 t2 i2 t3 i3 scope pos) 2 it acc env) ?_)
 unfold compStart
 refine (show IJ _ _ (ask >>= _) _ _ s from Hq (MU (wpAny_ite ?_)))
 split
 ·exact Hw ⟨rfl,h0⟩
 ·exact Hq (Kc (Hq (m:=Le i3.pos) (Jd (Hq (Ih h (λy s' q=>Hw ⟨rfl,q⟩) λ_ _ x=>x)))))
end
section
variable {X:Cx}
def lB (wi:TI) (n:Nat) (ix:List Nat) (ta:ly):TE:=fun σ H Q=>wi σ H λJ H1=>∃W:Nat->Nat->List V->Hp->Prop,(∃m,W 0 m [] H1)/\∀i m ys H2,W i m ys H2 ->
 (J.stop i H2/\ys.length<=Ii/\∀D,H2 D=none->Q (.ref D) (upd H2 D (.lst ys))) \/
 (J.go i H2/\∃Nx:List V->Hp->Prop,(∀Qj H',Nx Qj H'->∃m',m'<m/\W (i+1) m' Qj H')/\∀x H3,J.yld i H2 x H3->ta ((capt n ix σ).set 0 (some x)) ys Nx H3)
theorem rA {elt t1 i1 t2 i2 t3 i3:Expr} {scope:JX} {pos QL py:Pos} {yy:Str} {ii:Nat} {tg cs:List Str} {wi RA Uz:TI} {te:TE} (Tf:X.N.Nodup) (Tg:X.N[ii]?=some yy) (Ti:Loc X.env.scope yy)
    (S:aV X scope tg cs ix) (Pv:X.calm=true) (hn:2<tg.length)
    (hi:PI X t1 i1 wi) (hg:∀C fp s H,PG (ak X scope (tg++cs) C fp s H) t1 (bB 0)) (RM:∀C fp s H,PI (ak X scope (tg++cs) C fp s H) t2 i2 RA) (Tu:∀C fp s H,PG (ak X scope (tg++cs) C fp s H) t2 (bB 1)) (WJ:∀C fp s H,PI (ak X scope (tg++cs) C fp s H) t3 i3 Uz) (XX:∀C fp s H,PG (ak X scope (tg++cs) C fp s H) t3 (bB 2)) (he:∀C fp s H,PE (ak X scope (tg++cs) C fp s H) elt te)
    (SN:X.fn yy=true\/X.env.scope.names.lookup yy=some .local)
    (hsw:Ke (bp elt t1 i1 t2 i2 t3 i3 scope pos) (some (.Name yy py)) QL.line X.env=pure true)
    (hs:∀x,HY i1 X.env x=pure x:=by intro _;rfl) (RU:∀(e:Env) x,HY i2 e x=pure x:=by intro _ _;rfl) (XY:∀(e:Env) x,HY i3 e x=pure x:=by intro _ _;rfl):PS X (.Assign [.Name yy py] (bp elt t1 i1 t2 i2 t3 i3 scope pos) QL) (dY (lB wi tg.length ix (mW RA 1 (mW Uz 2 (jl te)))) (bB ii)):=by
  intro pins s σ H Dn I h
  rw[Nd _ _ _ _ hsw]
  refine Hq (Jd (Hq ?_))
  show IJ _ X.A (do let _ <- Oa (bp elt t1 i1 t2 i2 t3 i3 scope pos) scope X.env _ (newList []) false (eval i1 X.env) (some (LO (.Name yy py) X.env))) _ _ s
  refine Hq (Ih (JT (use:=some (LO (.Name yy py) X.env)) (Q:=λ_ s'=>SP X pins Dn .next s') (cl:=bu X.env scope.names []) rfl hs (dm λn hn=>I.ok.has n (S.out n hn)) S.kind S.names ?_) (λ_ s' hq=>Hw (Hw hq)) λ_ _ e=>e)
  refine Ih (hi pins s σ H _ I h) (λv s1 h1=>Ih h1 (λTb s2 h2=>?_) λ_ _ e=>e) λ_ _ e=>e
  obtain ⟨it,fp,tn,J,H2,rfl,I2,T,Pj,Uq,W,⟨m0,w0⟩,turn⟩:=h2
  refine IU (K2 S.nocell (by intro y hy;simp at hy) (λh1 QB Qx=>?_) S.kind)
  dsimp only at QB Qx ⊢
  generalize hP:s2.heap.push { cls:=.type "list",dict:=none,data:=.seq ([]:List Ht).toArray }=P2 at QB Qx ⊢
  have RW:P2.objs.size=s2.heap.objs.size+1:=by rw[<- hP,Kl]
  have hDC:s2.heap.objs.size≠P2.objs.size:=by rw[RW];exact IE (KB _)
  have Qf:s2.heap.objs.size<=P2.objs.size:=by rw[RW];exact KN _
  generalize Wn:P2.objs.size=C at *
  have old:∀b o,s2.heap.get? b=some o->h1.get? b=some o:=λb o e=>Qx.extBut b o (IE (HS (HM e) Qf)) (Hs _ (hP▸Hs _ e))
  generalize PU:s2.heap.objs.size=D at *
  have SB:h1.get? D=some { cls:=.type "list",data:=.seq ([]:List Ht).toArray 0 }:=Qx.extBut _ _ hDC (Hs _ (hP▸PU▸HP _ rfl))
  have nC:H2 C=none:=I2.hok.fresh (by rw[PU];exact Qf)
  have nD:H2 D=none:=I2.hok.fresh (by rw[PU];exact HA _)
  have fo:∀b∈fp,∃o,s2.heap.get? b=some o:=λb hb=>let ⟨o,e,_⟩:=T.obj _ _ Pj b hb;⟨o,e⟩
  have Rk:D∉fp:=λz=>by
    obtain ⟨o,e⟩:=fo D z
    have:=HM e
    rw[PU] at this
    exact absurd this (Jb _)
  have R6:D∉QS X.stack:=λz=>by
    rcases List.mem_cons.mp (I2.stkSub D z) with e | e
    · have:=I2.lt
      rw[<- e,PU] at this
      exact absurd this (Jb _)
    · exact I2.nofs (by rw[PU];exact HA _) e
  have SC:∀x c,(bu X.env scope.names []).lookup x=some c->c≠D:=λx c e=>by
    rcases cT (II e) with h | h
    · cases h
    · exact (I2.fpOk (H':=H2) (b:=D) (by rw[PU];exact HA _) nD).2.2.2.2.1 x c h
  -- QG QZ context
  have Te:∀s4:Hv,s4={ s2 with heap:=h1,toks:=s2.toks+([]:List (Str×Ht)).length }->Inv (ak X scope (tg++cs) C fp s2 H2) [] (capt tg.length ix σ) H2 s4:=by
    rintro s4 rfl
    exact fY S I2 Uq fo (by rw[PU];exact Qf) old (by simpa using QB) rfl I2.bare nC
  -- QG loop
  have loop:∀s4:Hv,s4={ s2 with heap:=h1,toks:=s2.toks+([]:List (Str×Ht)).length } ->
      KG (IB X.prog X.w) X.A (.compLoop (bp elt t1 i1 t2 i2 t3 i3 scope pos) 0 (.ref it) (.ref D) (Kn scope (bu X.env scope.names []) C X.env)) (N9 (IB X.prog X.w) X.A X.xe (some (LO (.Name yy py) X.env)) (λ_ s'=>SP X pins Dn .next s') (.ref D) C) s4:=by
    intro s4 e4
    refine Lb rfl (λn s'=>∃i ys its k H',Inv (ak X scope (tg++cs) C fp s2 H2) [] (capt tg.length ix σ) H' s'/\tn i s'.heap/\(∀b∈fp,H' b=none)/\H' D=none/\s'.heap.get? D=some (P6 its k)/\Pm ys its/\W i n ys H')
      ?_ m0 ⟨0,[],[],0,H2,Te s4 e4,?_,λb hb=>(Uq b hb).1,nD,by rw[e4];exact SB,.nil,w0⟩
    · rintro n s5 ⟨i,ys,its,k,H5,I5,Py,Ra,d5,o5,v5,w5⟩
      show IJ _ X.A ((LJ (bp elt t1 i1 t2 i2 t3 i3 scope pos) 0 (.ref it) (.ref D) (Kn scope (bu X.env scope.names []) C X.env)).onRaise (λx=>do Nb x (Kn scope (bu X.env scope.names []) C X.env);KO x)) _ _ s5
      refine LF ?_
      rw[(yA (elt:=elt) (t1:=t1) (i1:=i1) (t2:=t2) (i2:=i2) (t3:=t3) (i3:=i3) (scope:=scope) (pos:=pos)).1]
      have Qr:Inv (ak X scope (tg++cs) C fp s2 H2) [(D,(P6 its k))] (capt tg.length ix σ) H5 s5:=I5.pins_of λp hp=>by
        have e:p=(D,(P6 its k)):=by simpa using hp
        subst e
        exact ⟨o5,d5,hDC,R6,λv z=>by have z':Nw _ _=Lh v:=z;cases z'⟩
      have Ro:∀{H':Hp},(∀b∈fp,H' b=none)->∀b∈fp,eU (ak X scope (tg++cs) C fp s2 H2) [(D,(P6 its k))] H' b:=λhn b hb=>
        ⟨hn b hb,(I5.ok.exf b hb).1,λz=>I5.ok.exfs b hb z,.inl hb,(I5.ok.exf b hb).2,λp hp z=>by
          have hp:p∈([]:List (Addr×Obj))++[(D,(P6 its k))]:=hp
          have e:p=(D,(P6 its k)):=by simpa using hp
          subst e
          have z:D=b:=z
          exact Rk (z▸hb)⟩
      refine Hq (Jd (Hq ?_))
      rcases turn i n ys H5 w5 with ⟨stop,hz,qn⟩ | ⟨go,Nx,hN,step⟩
      · refine PF (T.done (ak X scope (tg++cs) C fp s2 H2) rfl rfl rfl Pv i _ s5 _ H5 _ Qr (Ro Ra) Py stop) λr s6 Pk=>?_
        obtain ⟨hr,I6⟩:=Pk
        subst hr
        refine Hw ?_
        obtain ⟨mC,Rp,_⟩:=id I6.loc
        have IX:Inv X pins σ H5 s6:=I2.call' (ch:=fp) I6.os I6.base I6.hok I6.bare λb hb=>let ⟨_,a1,_,a3,a4,a5⟩:=Uq b hb;⟨a3,a1,a4,a5⟩
        obtain ⟨_,b1,_,b3,b4,b5⟩:=I2.fpOk (H':=H5) (b:=D) (by rw[PU];exact HA _) d5
        obtain ⟨_,c1,_,c3,c4,c5⟩:=I2.fpOk (H':=H5) (b:=C) (by rw[PU];exact Qf) I6.free
        have gD:s6.heap.get? D=some (P6 its k):=(I6.pin (D,(P6 its k)) (Hr _ Hx)).1
        have W5:Inv X pins σ (upd H5 D (.lst ys)) s6:=IX.track d5 (by rw[<- PU];exact I2.sz) b1 b4 b5 ⟨hz,its,k,v5,gD⟩
        show IJ _ X.A (LO (.Name yy py) X.env (.ref D)) _ _ s6
        refine Mw (gw (v:=.ref D) W5 Tf Tg Ti rfl (λs'' W6 Pk=>?_) SN)
        obtain ⟨a,sb,ha⟩:=Pk
        have W7:C≠a:=by
          rcases ha with rfl | ha
          · exact c1
          · exact (c4 _ _ ha).symm
        refine ⟨mC,Rp.sameBut sb W7,λh' W8=>⟨_,_,W6.turned (t':=s''.toks) (it:=C) (λb o hb e=>(W8.2 b hb).trans e) (by rw[ay (Ka hDC)];exact I6.free) c1 c3 c4 c5,qn D d5⟩⟩
      · refine PF (T.item (ak X scope (tg++cs) C fp s2 H2) rfl rfl rfl Pv i _ s5 _ H5 _ Qr (Ro Ra) Py go) λr s6 Pk=>?_
        obtain ⟨u,hr,h6⟩:=Pk
        subst hr
        refine Hq (PF h6 λ_ s7 Pk=>?_)
        obtain ⟨x,H7,I7,r7,y7,Qk,R7⟩:=Pk
        have R8:=I7.pinned (Ro R7) (T.obj _ _ Qk)
        -- QG next turn
        have Mf:∀{σ2:St} {H8:Hp} {s8:Hv} {Qj:List V} {its':List Ht} {k':Nat} , Inv (ak X scope (tg++cs) C fp s2 H2) [] σ2 H8 s8->(σ2.length=(capt tg.length ix σ).length/\∀(i:Nat) (v:V),(capt tg.length ix σ)[i]?=some (some v)->σ2[i]?=some (some v)) ->
            (∀b∈fp,∀o,s7.heap.get? b=some o->s8.heap.get? b=some o)->(∀b∈fp,H8 b=none)->H8 D=none->s8.heap.get? D=some (P6 its' k')->Pm Qj its'->Nx Qj H8 ->
            ∃m,m<n/\∃i ys its k H',Inv (ak X scope (tg++cs) C fp s2 H2) [] (capt tg.length ix σ) H' s8/\tn i s8.heap/\(∀b∈fp,H' b=none)/\H' D=none/\s8.heap.get? D=some (P6 its k)/\Pm ys its/\W i m ys H':=by
          intro σ2 H8 s8 Qj its' k' I8 kp fk fn dn dg vv nx
          obtain ⟨m',hm,w8⟩:=hN Qj H8 nx
          exact ⟨m',hm,i+1,Qj,its',k',H8,I8.weak kp.1.symm kp.2,T.keep _ _ _ Qk fk,fn,dn,dg,vv,w8⟩
        refine Hq (Ih (hg C fp s2 H2 _ s7 _ H7 x u (fun σ8 H8=>σ8=(capt tg.length ix σ).set 0 (some x)/\H8=H7) R8 r7 ⟨rfl,rfl⟩) (λ_ s8 Pk=>?_) λ_ _ z=>z.elim)
        obtain ⟨σ8,H8,I8,e8,XW⟩:=Pk
        subst e8;subst XW
        have d8:=I8.pin (D,(P6 its k)) (Hr _ (HR _ Hx))
        have XA:Inv (ak X scope (tg++cs) C fp s2 H2) (cw fp s7.heap) ((capt tg.length ix σ).set 0 (some x)) H8 s8:=I8.pins_of λp hp=>I8.pin p (Hr _ (Hr _ hp))
        have hS:(ak X scope (tg++cs) C fp s2 H2).s₀.heap.objs.size<=D:=by show s2.heap.objs.size<=D;rw[PU];exact HA _
        refine p8 (Y:=ak X scope (tg++cs) C fp s2 H2) yB vq Pv (λ_ _ z=>z) (RM C fp s2 H2) (Tu C fp s2 H2) (p8 (Y:=ak X scope (tg++cs) C fp s2 H2) yC vw Pv (λ_ _ z=>z) (WJ C fp s2 H2) (XX C fp s2 H2) (rq (Y:=ak X scope (tg++cs) C fp s2 H2) (λ_ _ z=>z) (he C fp s2 H2) hDC hS SC R6) hDC hS SC R6 (XY _)) hDC hS SC R6 (RU _) XA (λp hp z=>?_) d8.2.1 d8.1 v5 (step x H8 y7) λV2 zs its' k' σ' H12 RJ e12 XB XC XD XE=>?_
        · have hp:p∈cw fp s7.heap:=hp
          exact Rk (z▸(fw hp).1)
        · subst e12
          have pn:=λ(b:Addr) (hb:b∈fp) (o:Obj) (e:s7.heap.get? b=some o)=>RJ.pin (b,o) (Hr _ (aQ hb e))
          refine Hw ⟨rfl,Mf (its':=its') (RJ.pins_of λp hp=>nomatch hp) ⟨by simp,λi v e=>?_⟩ (λb hb o e=>(pn b hb o e).1) (λb hb=>?_) XB XC XD XE⟩
          · by_cases h0:0=i
            · subst h0;exact (ck (by lia) e).elim
            · rw[Ia h0];exact e
          · obtain ⟨o,e,_⟩:=T.obj _ _ Qk b hb
            exact (pn b hb o e).2.1
    · rw[e4];exact T.keep _ _ _ Pj λb _ o e=>old b o e
  exact Lv (loop _ rfl) (T.self _ 0 _ _ _ (T.keep _ _ _ Pj λb _ o e=>old b o e) (loop _ rfl))
end
end L2
end
section
namespace VL
open PySem L2
abbrev gN:=List Sl->List D->(List D->List Sl->Prop)->Prop
def yD (K:Ho) (U:St->Prop) (ta:ly) (va:gN):Prop:=∀H0 Z σ H S ys zs A Nx,OK K H0 Z σ H S->U σ->Pi K (NM Z σ S) (Fr H0) H ys zs->va S zs A->(∀H' S' Qj QQ,OK K H0 Z σ H' S'->Step Z σ S H σ S' H'->Pi K (NM Z σ S') (Fr H0) H' Qj QQ->A QQ S'->Nx Qj H')->ta σ ys Nx H
def lC (ve:VT):gN:=λS zs A=>zs.length<1000000/\ve S λr S1=>∃x,r=.d x/\A (zs++[x]) S1
def rB (vi:PQ) (a:Nat) (va:gN):gN:=λS ys A=>vi S λes S5=>∃Jv:Nat->List D->List Sl->Prop,Jv 0 ys S5 /\
 (∀j e zs S6,es[j]?=some e->Jv j zs S6->a<S6.length/\va (S6.set a (.val e)) zs λws S9=>Jv (j+1) ws (Rh S6 S9))/\∀zs S6,Jv es.length zs S6->A zs S6
def XZ (a:Nat) (σ:St):Prop:=∀v,σ[a]?≠some (some v)
section
variable {K:Ho} {X:Cx}
theorem vz {te:TE} {ve:VT} (se:Qm K true te ve):yD K (λ_=>True) (jl te) (lC ve):=λH0 Z σ H S ys zs A Nx k _ rz ⟨hl,h⟩ fin=>by
 refine ⟨by rw[rz.length,IL];exact HS hl (by decide),se H0 _ σ H S _ _ k h λv H1 r S1 k1 Pq rr ⟨x,er,q⟩=>?_⟩
 subst er
 exact fin H1 S1 _ _ k1 Pq (Pi.append (rz.step Pq) (.cons (Rep.mono (λa n _=>⟨n,rfl⟩) (λ_ x=>x rfl) rr) .nil)) q
theorem vA {wi:TI} {vi:PQ} {a:Nat} {U:St->Prop} {ta:ly} {va:gN} (si:Sb K wi vi) (sa:yD K U ta va) (hU:∀ σ x,U σ->U (σ.set a (some x))):yD K (fun σ=>XZ a σ/\U σ) (mW wi a ta) (rB vi a va):=λH0 Z σ H S ys zs A Nx k ⟨hu,hu2⟩ rz h fin=>by
 refine ⟨hu,si H0 _ σ H S _ _ k h λJ es H6 S6 k6 Sq gd Pk=>?_⟩
 obtain ⟨Jv,j0,hj,hd⟩:=Pk
 refine ⟨λj m us H=>m=es.length-j/\j<=es.length/\∃S7 ws,OK K H0 Z σ H S7/\Step Z σ S6 H6 σ S7 H/\Pi K (NM Z σ S7) (Fr H0) H us ws/\Jv j ws S7,⟨es.length,by simp,JV _,S6,zs,k6,.refl,rz.step Sq,j0⟩,?_⟩
 rintro j m us H7 ⟨rfl,hjl,S7,ws,k7,Qk,SV,p7⟩
 obtain ⟨a1,a2,a3⟩:=gd σ S7 H7 (λ_=>k7.nm) Qk.1 j
 by_cases hlt:j<es.length
 ·refine .inr ⟨a1 hlt,λSR H'=>∃S' ws',OK K H0 Z σ H' S'/\Step Z σ S6 H6 σ S' H'/\Pi K (NM Z σ S') (Fr H0) H' SR ws'/\Jv (j+1) ws' S',λSR H' p=>⟨es.length-(j+1),by lia,rfl,hlt,p⟩,λx H8 y=>?_⟩
  obtain ⟨hgr,e,he,re⟩:=a2 x H8 y hlt
  replace k7:=k7.grow hgr
  replace Qk:=Qk.trans (.grow hgr)
  replace SV:=SV.step (.grow hgr)
  obtain ⟨X0,q⟩:=hj j e ws S7 he p7
  obtain ⟨k8,st8⟩:=k7.setVal X0 re
  refine sa H0 Z _ H8 _ us ws _ _ k8 (hU _ _ hu2) (SV.step st8) q λH9 S9 SR ws' k9 Vd rw9 q9=>?_
  obtain ⟨kf,sf,nf⟩:=k7.forget k9 (st8.trans Vd) (by simp) λi v ei=>by
   by_cases T8:a=i
   ·subst T8;exact (hu v ei).elim
   ·rw[Ia T8];exact ei
  exact ⟨_,ws',kf,Qk.trans sf,rw9.mono (λa n _=>⟨nf a n,rfl⟩) λ_ x=>x,q9⟩
 ·have e:j=es.length:=by lia
  exact .inl ⟨a3 e,fin H7 S7 us ws k7 (Sq.trans Qk) SV (hd ws S7 (by rw[<- e];exact p7))⟩
def lD (vi:PQ) (n:Nat) (ix:List Nat) (va:gN):PQ:=λS Q=>vi S λds S1=>∃Iv:Nat->List D->List Sl->Prop,Iv 0 [] S1 /\
 (∀i d ys S2,ds[i]?=some d->Iv i ys S2->va ((aS n ix S2).set 0 (.val d)) ys λzs S6=>Iv (i+1) zs (Pu n ix S2 S6))/\∀ys S2,Iv ds.length ys S2->ys.length<=1000000/\Q ys S2
theorem rC {wi:TI} {vi:PQ} {n:Nat} {ta:ly} {va:gN} {U:St->Prop} (hn:0<n) (hnd:ix.Nodup) (si:Sb K wi vi) (sa:yD K U ta va) (hU:∀ σ x,U ((L2.capt n ix σ).set 0 (some x))):Tj K (lB wi n ix ta) (lD vi n ix va):=λH0 Z σ H S Q C k t hq=>by
 refine si H0 Z σ H S _ _ k t λJ ds H1 S1 k1 Pq gd Pk=>?_
 obtain ⟨Iv,i0,hs,hd⟩:=Pk
 refine ⟨λi m ys H=>m=ds.length-i/\i<=ds.length/\∃S2 zs,OK K H0 Z σ H S2/\Step Z σ S1 H1 σ S2 H/\Pi K (NM Z σ S2) (Fr H0) H ys zs/\Iv i zs S2,⟨ds.length,by simp,JV _,S1,[],k1,.refl,.nil,i0⟩,?_⟩
 rintro i m ys H2 ⟨rfl,hi,S2,zs,k2,Pj,rz,p⟩
 obtain ⟨g1,U8,g3⟩:=gd σ S2 H2 (λ_=>k2.nm) Pj.1 i
 by_cases hlt:i<ds.length
 ·refine .inr ⟨g1 hlt,λQj H'=>∃S' QQ,OK K H0 Z σ H' S'/\Step Z σ S1 H1 σ S' H'/\Pi K (NM Z σ S') (Fr H0) H' Qj QQ/\Iv (i+1) QQ S',λQj H' p=>⟨ds.length-(i+1),by lia,rfl,hlt,p⟩,λx H3 y=>?_⟩
  obtain ⟨hgr,d,hd',rd⟩:=U8 x H3 y hlt
  replace k2:=k2.grow hgr
  replace Pj:=Pj.trans (.grow hgr)
  replace rz:=rz.step (.grow hgr)
  have kc:=k2.capt (n:=n) hnd
  have To:Rep K (NM (QJ Z ix σ S2) (L2.capt n ix σ) (aS n ix S2)) Pz H3 x d:=rd.mono (λa n _=>⟨λz=>n (eI.mp z),rfl⟩) λ_ x=>x
  have XG:Pi K (NM (QJ Z ix σ S2) (L2.capt n ix σ) (aS n ix S2)) (Fr H0) H3 ys zs:=rz.mono (λa n _=>⟨λz=>n (eI.mp z),rfl⟩) λ_ x=>x
  have Vh:0<(aS n ix S2).length:=by simp[aS];lia
  obtain ⟨k4,PZ⟩:=kc.setVal Vh To
  refine sa H0 _ _ H3 _ ys zs _ _ k4 (hU _ _) (XG.step PZ) (hs i d zs S2 hd' p) λH5 S5 Qj QQ k5 Py r5 q5=>?_
  obtain ⟨kb,sb,nb⟩:=k2.back k5 (PZ.trans Py) λi v ei=>by
   by_cases T8:0=i
   ·subst T8;exact (ck hn ei).elim
   ·rw[Ia T8];exact ei
  exact ⟨_,QQ,kb,Pj.trans sb,r5.mono (λa n _=>⟨nb a n,rfl⟩) λ_ x=>x,q5⟩
 ·have e:i=ds.length:=by lia
  obtain ⟨hz,q⟩:=hd zs S2 (by rw[<- e];exact p)
  refine .inl ⟨g3 e,by rw[rz.length,IL];exact Jf hz (by decide),λl hp=>?_⟩
  exact hq l ys zs H2 _ S2 k2 (Pq.trans Pj) hp (aG hp) aw (bC hp (rz.mono (λ_ n _=>⟨n,rfl⟩) λ_ x _=>x)) q
theorem yE {m:Bool} {te:TE} {t:PQ} (h:Tj K te t):Qm K m te (qG t):=λH0 Z σ H S Q C k t hc=>h H0 Z σ H S _ _ k t λa vs ds H1 H' S1 k1 Pq ha hg hl rr q=>
 hc _ H' (.d (.lst ds)) S1 (k1.grow hg) (Pq.trans (.grow hg)) (Rep.lst (k1.nm ha) (λ_=>⟨a,rfl,k1.dom a ha⟩) hl (rr.mono (λb n e=>⟨n.1,rfl⟩) λ_ x _=>x)) q
theorem rD {elt t1 i1 t2 i2 t3 i3:Expr} {scope:JX} {pos:Pos} {QL py:Pos} {yy:Str} {ii:Nat} {tg cs:List Str} {wi RA Uz:TI} {vi Rc WK:PQ} {te:TE} {ve:VT} (Tf:X.N.Nodup) (Tg:X.N[ii]?=some yy) (Ti:Loc X.env.scope yy) (SN:X.fn yy=true\/X.env.scope.names.lookup yy=some .local) (Sc:aV X scope tg cs ix) (Pv:X.calm=true) (hn:2<tg.length) (hnd:ix.Nodup)
  (hi:VI K X t1 i1 wi vi) (hg:∀C fp s H,PG (ak X scope (tg++cs) C fp s H) t1 (bB 0)) (RM:∀C fp s H,VI K (ak X scope (tg++cs) C fp s H) t2 i2 RA Rc) (Tu:∀C fp s H,PG (ak X scope (tg++cs) C fp s H) t2 (bB 1)) (WJ:∀C fp s H,VI K (ak X scope (tg++cs) C fp s H) t3 i3 Uz WK) (XX:∀C fp s H,PG (ak X scope (tg++cs) C fp s H) t3 (bB 2)) (he:∀C fp s H,VE K (ak X scope (tg++cs) C fp s H) true elt te ve)
  (hsw:Ke (bp elt t1 i1 t2 i2 t3 i3 scope pos) (some (.Name yy py)) QL.line X.env=pure true:=by rfl) (hs:∀x,HY i1 X.env x=pure x:=by intro _;rfl) (RU:∀(e:Env) x,HY i2 e x=pure x:=by intro _ _;rfl) (XY:∀(e:Env) x,HY i3 e x=pure x:=by intro _ _;rfl) :
  VS K X (.Assign [.Name yy py] (bp elt t1 i1 t2 i2 t3 i3 scope pos) QL) (dY (lB wi tg.length ix (mW RA 1 (mW Uz 2 (jl te)))) (bB ii)) (nP (qG (lD vi tg.length ix (rB Rc 1 (rB WK 2 (lC ve))))) (Uk ii)):=by
 have XF:Sb K RA Rc:=(RM 0 [] X.s₀ (λ_=>none)).snd
 have si3:Sb K Uz WK:=(WJ 0 [] X.s₀ (λ_=>none)).snd
 have se:Qm K true te ve:=(he 0 [] X.s₀ (λ_=>none)).snd
 have un:∀{a b:Nat} {σ:St} {x:V},a≠b->XZ b σ->XZ b (σ.set a (some x)):=λ{a b σ x} h q v e=>by rw[Ia h] at e;exact q v e
 have h:Tj K (lB wi tg.length ix (mW RA 1 (mW Uz 2 (jl te)))) (lD vi tg.length ix (rB Rc 1 (rB WK 2 (lC ve)))):=
  rC (by lia) hnd hi.snd (vA XF (vA si3 (vz se) λ_ _ _=>trivial) fun σ x q=>⟨un (by decide) q.1,trivial⟩) fun σ x=>⟨un (by decide) λv e=>ck (by lia) e,un (by decide) λv e=>ck hn e,trivial⟩
 exact ⟨rA Tf Tg Ti Sc Pv hn hi.pi hg (λC fp s H=>(RM C fp s H).pi) Tu (λC fp s H=>(WJ C fp s H).pi) XX (λC fp s H=>(he C fp s H).pe) SN hsw hs RU XY,kE (yE (m:=false) h) λH0 Z σ H S v d Q C k r PH hc=>by obtain ⟨hi,q⟩:=PH;exact hc _ _ _ (k.setVal hi r).1 (k.setVal hi r).2 q⟩
variable {S:List Sl} {β:Type}
def kIn (a:Nat) (va:gN) (ys:List D) (A:List D->List Sl->Prop):List D->List Sl->Prop:=λes S5=>∃Jv:Nat->List D->List Sl->Prop,Jv 0 ys S5 /\
 (∀j e zs S6,es[j]?=some e->Jv j zs S6->a<S6.length/\va (S6.set a (.val e)) zs λws S9=>Jv (j+1) ws (Rh S6 S9))/\∀zs S6,Jv es.length zs S6->A zs S6
theorem DF {vi:PQ} {a:Nat} {va:gN} {ys:List D} {A:List D->List Sl->Prop} (h:vi S (kIn a va ys A)):rB vi a va S ys A:=h
def AH (zs:List D) (A:List D->List Sl->Prop):VR->List Sl->Prop:=λr S1=>∃x,r=.d x/\A (zs++[x]) S1
theorem DG {ve:VT} {zs:List D} {A:List D->List Sl->Prop} (hl:zs.length<1000000) (h:ve S (AH zs A)):lC ve S zs A:=⟨hl,h⟩
theorem yF {zs:List D} {A:List D->List Sl->Prop} {x:D} (h:A (zs++[x]) S):AH zs A (.d x) S:=⟨x,rfl,h⟩
theorem p9 {xs:List β} {en:β->D} {r:β->List D} {a:Nat} {va:gN} {ys:List D} {A:List D->List Sl->Prop} (hi:a<S.length) (n:Nat) (hr:∀x∈xs,(r x).length<=n)
  (h:∀x∈xs,∀(zs:List D) (A:List D->List Sl->Prop),zs.length<=ys.length+xs.length*n->(∀S5,Rh S S5=S->A (zs++r x) S5)->va (S.set a (.val (en x))) zs A) (h2:A (ys++xs.flatMap r) S):kIn a va ys A (xs.map en) S:=by
 refine ⟨λj zs S'=>S'=S/\zs=ys++(xs.take j).flatMap r,⟨rfl,by simp⟩,?_,?_⟩
 ·rintro i d zs S2 e ⟨rfl,rfl⟩
  obtain ⟨x,h1,rfl,hm,ht⟩:=aF e
  refine ⟨hi,h x hm _ _ ?_ λS5 e5=>⟨e5,?_⟩⟩
  ·rw[HK,Mc]
   have:∀l:List β,(∀x∈l,(r x).length<=n)->(l.map λa=>(r a).length).sum<=l.length*n:=λl=>by
    induction l with
    | nil=>intro _;simp
    | cons y l ih=>
     intro hl
     have h1:=ih λx hx=>hl x (Ic _ hx)
     have h2:=hl y Hx
     rw[HJ,Oe,IM,KL]
     lia
   have h3:=this (xs.take i) λx hx=>hr x (JW hx)
   have h4:(xs.take i).length*n<=xs.length*n:=LX _ (by rw[JU];exact Nat.min_le_right _ _)
   lia
  ·rw[ht,JL,<- HU]
   simp
 ·rintro zs S2 ⟨rfl,rfl⟩
  rw[Hz,I0]
  exact h2
def vB (n:Nat) (ix:List Nat) (va:gN) (Q:List D->List Sl->Prop):List D->List Sl->Prop:=λds S1=>∃Iv:Nat->List D->List Sl->Prop,Iv 0 [] S1 /\
 (∀i d ys S2,ds[i]?=some d->Iv i ys S2->va ((aS n ix S2).set 0 (.val d)) ys λzs S6=>Iv (i+1) zs (Pu n ix S2 S6))/\∀ys S2,Iv ds.length ys S2->ys.length<=1000000/\Q ys S2
theorem yG {vi:PQ} {n:Nat} {va:gN} {Q:List D->List Sl->Prop} (h:vi S (vB n ix va Q)):lD vi n ix va S Q:=h
theorem rE {xs:List β} {en:β->D} {r:β->List D} {n:Nat} {va:gN} {Q:List D->List Sl->Prop} (m:Nat) (hr:∀x∈xs,(r x).length<=m) (hm:xs.length*m<=1000000)
  (h:∀x∈xs,∀(zs:List D) (A:List D->List Sl->Prop),zs.length<=xs.length*m->(∀S5,Pu n ix S S5=S->A (zs++r x) S5)->va ((aS n ix S).set 0 (.val (en x))) zs A) (h2:Q (xs.flatMap r) S):vB n ix va Q (xs.map en) S:=by
 have this:∀l:List β,(∀x∈l,(r x).length<=m)->(l.flatMap r).length<=l.length*m:=λl=>by
  induction l with
  | nil=>intro _;simp
  | cons y l ih=>
   intro hl
   have h1:=ih λx hx=>hl x (Ic _ hx)
   have h2:=hl y Hx
   rw[JE,HK,IM,KL]
   lia
 refine ⟨λj zs S'=>S'=S/\zs=(xs.take j).flatMap r,⟨rfl,by simp⟩,?_,?_⟩
 ·rintro i d zs S2 e ⟨rfl,rfl⟩
  obtain ⟨x,h1,rfl,hx,ht⟩:=aF e
  refine h x hx _ _ ?_ λS5 e5=>⟨e5,?_⟩
  ·have h3:=this (xs.take i) λx hx=>hr x (JW hx)
   have h4:(xs.take i).length*m<=xs.length*m:=LX _ (by rw[JU];exact Nat.min_le_right _ _)
   lia
  ·rw[ht,JL]
   simp
 ·rintro zs S2 ⟨rfl,rfl⟩
  rw[Hz,I0]
  have h3:=this xs hr
  exact ⟨by lia,h2⟩
end
end VL
end
section
namespace L2
open PySem PySem.Spec PyProof.Rows
section
variable {X:Cx}
theorem rF {yy:Str} {kx vx target iter:Expr} {ifs:List Expr} {scope:JX} {pos:Pos} {tg cs:List Str} {wi:TI} {g:TG} {tc:TT} {tk tv:TE} (hu:X.A.units+64<Ls) (S:eN X scope yy tg cs ix) (Pv:X.calm=true) (kg:cG tg.length ix g)
    (hi:PI X target iter wi) (hg:∀C fp s H,PG (bf X scope (tg++cs) yy C fp s H) target g) (hc:∀C fp s H,SA (bf X scope (tg++cs) yy C fp s H) ifs tc) (hk:∀C fp s H,PE (bf X scope (tg++cs) yy C fp s H) kx tk) (hv:∀C fp s H,PE (bf X scope (tg++cs) yy C fp s H) vx tv)
    (hs:∀x,HY iter X.env x=pure x:=by intro _;rfl):PE X (.DictComp kx vx [⟨target,iter,ifs,0⟩] scope pos) (kX X.K wi tg.length ix g tc tk tv):=by
  intro pins s σ H Q I h
  rw[Ox]
  refine JT (use:=none) (cl:=bu X.env scope.names []) rfl hs (dm λn hn=>I.ok.has n (S.out n hn)) S.kind S.names ?_
  refine Ih (hi pins s σ H _ I h) (λv s1 h1=>Ih h1 (λTb s2 h2=>?_) λ_ _ e=>e) λ_ _ e=>e
  obtain ⟨it,fp,tn,J,H2,rfl,I2,T,Pj,f2,W,⟨m0,w0⟩,turn⟩:=h2
  refine IU (jA S.one ?_)
  dsimp only
  generalize hP:s2.heap.push { cls:=.type "dict",dict:=none,data:=.dict #[] }=P2
  have RW:P2.objs.size=s2.heap.objs.size+1:=by rw[<- hP,Kl]
  have hsz1:(P2.push { cls:=.type "dict",data:=.dict #[] }).objs.size=P2.objs.size+1:=Kl ..
  have QB:((P2.push { cls:=.type "dict",data:=.dict #[] }).push { cls:=.type "cell",data:=.cell none }).Ns P2.objs.size λ_=>none:=(Heap.Ns.new P2 (.type "dict")).keeps λb o e=>Hs _ e
  have hcl1:((P2.push { cls:=.type "dict",data:=.dict #[] }).push { cls:=.type "cell",data:=.cell none }).IsCell (P2.objs.size+1) none:=⟨_,hsz1▸HP _ rfl,rfl⟩
  have UA:∀b o,P2.get? b=some o->((P2.push { cls:=.type "dict",data:=.dict #[] }).push { cls:=.type "cell",data:=.cell none }).get? b=some o:=λb o e=>Hs _ (Hs _ e)
  generalize hh1:(P2.push { cls:=.type "dict",data:=.dict #[] }).push { cls:=.type "cell",data:=.cell none }=h1 at QB hcl1 UA ⊢
  have hDC:s2.heap.objs.size≠P2.objs.size:=by rw[RW];exact IE (KB _)
  have Qf:s2.heap.objs.size<=P2.objs.size:=by rw[RW];exact KN _
  have SB:h1.get? s2.heap.objs.size=some { cls:=.type "dict",data:=.dict #[] }:=UA _ _ (hP▸HP _ rfl)
  have old:∀b o,s2.heap.get? b=some o->h1.get? b=some o:=λb o e=>UA b o (hP▸Hs _ e)
  generalize Wn:P2.objs.size=C at *
  generalize PU:s2.heap.objs.size=D at *
  have nC:H2 C=none:=I2.hok.fresh (by rw[PU];exact Qf)
  have nC1:H2 (C+1)=none:=I2.hok.fresh (by rw[PU];exact Nat.le_succ_of_le Qf)
  have nD:H2 D=none:=I2.hok.fresh (by rw[PU];exact HA _)
  have fo:∀b∈fp,∃o,s2.heap.get? b=some o:=λb hb=>let ⟨o,e,_⟩:=T.obj _ _ Pj b hb;⟨o,e⟩
  have Rk:D∉fp:=λz=>by
    obtain ⟨o,e⟩:=fo D z
    have:=HM e
    rw[PU] at this
    exact absurd this (Jb _)
  have R6:D∉QS X.stack:=λz=>by
    rcases List.mem_cons.mp (I2.stkSub D z) with e | e
    · have:=I2.lt
      rw[<- e,PU] at this
      exact absurd this (Jb _)
    · exact I2.nofs (by rw[PU];exact HA _) e
  have SC:∀x c,((yy,C+1)::bu X.env scope.names []).lookup x=some c->c≠D:=λx c e=>by
    rw[KA] at e
    cases q:x==yy with
    | true=>
      rw[q] at e
      cases e
      lia
    | false=>
      rw[q] at e
      rcases cT (II e) with h | h
      · cases h
      · exact (I2.fpOk (H':=H2) (b:=D) (by rw[PU];exact HA _) nD).2.2.2.2.1 x c h
  -- QG QZ context
  have Te:∀s4:Hv,s4={ s2 with heap:=h1 }->Inv (bf X scope (tg++cs) yy C fp s2 H2) [] (capt tg.length ix σ) H2 s4:=by
    rintro s4 rfl
    exact rp S I2 f2 fo (by rw[PU];exact Qf) old QB hcl1 rfl I2.bare nC nC1
  -- QG loop
  have loop:∀s4:Hv,s4={ s2 with heap:=h1 } ->
      KG (IB X.prog X.w) X.A (.compLoop (.DictComp kx vx [⟨target,iter,ifs,0⟩] scope pos) 0 (.ref it) (.ref D) (Kn scope ((yy,C+1)::bu X.env scope.names []) C X.env)) (N9 (IB X.prog X.w) X.A X.xe none (EP X pins σ Q) (.ref D) C) s4:=by
    intro s4 e4
    refine Lb rfl (λn s'=>∃i es o H',Inv (bf X scope (tg++cs) yy C fp s2 H2) [] (capt tg.length ix σ) H' s'/\tn i s'.heap/\(∀b∈fp,H' b=none)/\H' D=none/\s'.heap.get? D=some o/\Qe D es s'.heap/\W i n es H')
      ?_ m0 ⟨0,[],_,H2,Te s4 e4,?_,λb hb=>(f2 b hb).1,nD,by rw[e4];exact SB,pN (by rw[e4];exact SB) (by rw[<- PU];exact nT I2),w0⟩
    · rintro n s5 ⟨i,es,o,H5,I5,Py,Ra,d5,o5,v5,w5⟩
      show IJ _ X.A ((LJ (.DictComp kx vx [⟨target,iter,ifs,0⟩] scope pos) 0 (.ref it) (.ref D) (Kn scope ((yy,C+1)::bu X.env scope.names []) C X.env)).onRaise (λx=>do Nb x (Kn scope ((yy,C+1)::bu X.env scope.names []) C X.env);KO x)) _ _ s5
      refine LF ?_
      rw[compTurn_dict]
      have Qr:Inv (bf X scope (tg++cs) yy C fp s2 H2) [(D,o)] (capt tg.length ix σ) H5 s5:=I5.pins_of λp hp=>by
        have e:p=(D,o):=by simpa using hp
        subst e
        exact ⟨o5,d5,hDC,R6,v5.nocell o5⟩
      have Ro:∀{H':Hp},(∀b∈fp,H' b=none)->∀b∈fp,eU (bf X scope (tg++cs) yy C fp s2 H2) [(D,o)] H' b:=λhn b hb=>
        ⟨hn b hb,(I5.ok.exf b hb).1,λz=>I5.ok.exfs b hb z,.inl hb,(I5.ok.exf b hb).2,λp hp z=>by
          have hp:p∈([]:List (Addr×Obj))++[(D,o)]:=hp
          have e:p=(D,o):=by simpa using hp
          subst e
          have z:D=b:=z
          exact Rk (z▸hb)⟩
      refine Hq (Jd (Hq ?_))
      rcases turn i n es H5 w5 with ⟨stop,qn⟩ | ⟨go,hz,Nx,hN,step⟩
      · refine PF (T.done (bf X scope (tg++cs) yy C fp s2 H2) rfl rfl rfl Pv i _ s5 _ H5 _ Qr (Ro Ra) Py stop) λr s6 Pk=>?_
        obtain ⟨hr,I6⟩:=Pk
        subst hr
        refine Hw ?_
        obtain ⟨mC,Rp,_⟩:=id I6.loc
        refine ⟨mC,Rp,λh' sb=>?_⟩
        have IX:Inv X pins σ H5 s6:=I2.call' (ch:=fp) I6.os I6.base I6.hok I6.bare λb hb=>let ⟨_,a1,_,a3,a4,a5⟩:=f2 b hb;⟨a3,a1,a4,a5⟩
        obtain ⟨_,c1,_,c3,c4,c5⟩:=I2.fpOk (H':=H5) (b:=C) (by rw[PU];exact Qf) I6.free
        have VY:Inv X pins σ H5 { s6 with heap:=h' }:=IX.turned (t':=s6.toks) (λb o hb e=>(sb.2 b hb).trans e) I6.free c1 c3 c4 c5
        obtain ⟨_,b1,_,b3,b4,b5⟩:=I2.fpOk (H':=H5) (b:=D) (by rw[PU];exact HA _) d5
        have gD:h'.get? D=some o:=(sb.2 D hDC).trans (I6.pin (D,o) (Hr _ Hx)).1
        exact ⟨.ref D,upd H5 D (bM D o es),VY.track d5 (by rw[<- PU];exact I2.sz) b1 b4 b5 ((v5.at (gD.trans o5.symm)).ok gD),rfl,qn D o d5⟩
      · refine PF (T.item (bf X scope (tg++cs) yy C fp s2 H2) rfl rfl rfl Pv i _ s5 _ H5 _ Qr (Ro Ra) Py go) λr s6 Pk=>?_
        obtain ⟨u,hr,h6⟩:=Pk
        subst hr
        refine Hq (PF h6 λ_ s7 Pk=>?_)
        obtain ⟨x,H7,I7,r7,y7,Qk,R7⟩:=Pk
        have R8:=I7.pinned (Ro R7) (T.obj _ _ Qk)
        -- QG next turn
        have Mf:∀{σ2:St} {H8:Hp} {s8:Hv} {es':List (List Int×Addr×V)} {o':Obj},Inv (bf X scope (tg++cs) yy C fp s2 H2) [] σ2 H8 s8->(σ2.length=(capt tg.length ix σ).length/\∀(i:Nat) (v:V),(capt tg.length ix σ)[i]?=some (some v)->σ2[i]?=some (some v)) ->
            (∀b∈fp,∀o,s7.heap.get? b=some o->s8.heap.get? b=some o)->(∀b∈fp,H8 b=none)->H8 D=none->s8.heap.get? D=some o'->Qe D es' s8.heap->Nx es' H8 ->
            ∃m,m<n/\∃i es o H',Inv (bf X scope (tg++cs) yy C fp s2 H2) [] (capt tg.length ix σ) H' s8/\tn i s8.heap/\(∀b∈fp,H' b=none)/\H' D=none/\s8.heap.get? D=some o/\Qe D es s8.heap/\W i m es H':=by
          intro σ2 H8 s8 es' o' I8 kp fk fn dn dg vv nx
          obtain ⟨m',hm,w8⟩:=hN es' H8 nx
          exact ⟨m',hm,i+1,es',o',H8,I8.weak kp.1.symm kp.2,T.keep _ _ _ Qk fk,fn,dn,dg,vv,w8⟩
        refine Hq (Ih (hg C fp s2 H2 _ s7 _ H7 x u _ R8 r7 (kg x σ H7 _ (step x H7 y7))) (λ_ s8 Pk=>?_) λ_ _ z=>z.elim)
        obtain ⟨σ8,H8,I8,RX,q8⟩:=Pk
        refine Hq (Ih (hc C fp s2 H2 _ s8 σ8 H8 _ I8 q8) (λok s9 Pk=>?_) λ_ _ z=>z.elim)
        obtain ⟨H9,I9,q9⟩:=Pk
        have P4:∀{σ':St} {H':Hp} {s':Hv},Inv (bf X scope (tg++cs) yy C fp s2 H2) ([(D,o)]++cw fp s7.heap) σ' H' s' ->
            (∀b∈fp,∀o,s7.heap.get? b=some o->s'.heap.get? b=some o)/\(∀b∈fp,H' b=none)/\H' D=none/\s'.heap.get? D=some o:=by
          intro σ' H' s' I'
          refine ⟨λb hb o e=>(I'.pin (b,o) (Hr _ (Hr _ (aQ hb e)))).1,λb hb=>?_,(I'.pin (D,o) (Hr _ (HR _ Hx))).2.1,(I'.pin (D,o) (Hr _ (HR _ Hx))).1⟩
          obtain ⟨o,e,d⟩:=T.obj _ _ Qk b hb
          exact (I'.pin (b,o) (Hr _ (Hr _ (aQ hb e)))).2.1
        cases ok with
        | false=>
          obtain ⟨p1,p2,p3,p4⟩:=P4 I9
          exact Hw ⟨rfl,Mf (I9.pins_of λp hp=>nomatch hp) RX p1 p2 p3 p4 (v5.at (p4.trans o5.symm)) q9⟩
        | true=>
          have q9:tk σ8 H9 λy H6=>tv σ8 H6 λv H7=>∃b ms,y=.ref b/\Rb X.K H7 b ms/\cf X.K H7 es/\Nx (fH es ms b v) H7:=q9
          refine Hq (Hq (Ih (hk C fp s2 H2 _ s9 σ8 H9 _ I9 q9) (λkv Qu Pk=>?_) λ_ _ z=>z.elim))
          obtain ⟨y,RD,Ry,ry,TX⟩:=Pk
          refine Hq (Jc (Ih (hv C fp s2 H2 _ Qu σ8 RD _ Ry TX) (λvv Q4 Pk=>?_) λ_ _ z=>z.elim))
          obtain ⟨v,Vc,RY,rv,b,ms,ey,sq,ka,nx⟩:=Pk
          subst ey
          cases ry
          obtain ⟨p1,p2,p3,p4⟩:=P4 RY
          have Xo:Qe D es Q4.heap:=v5.at (p4.trans o5.symm)
          obtain ⟨z,m,nd,xs,ev,dd⟩:=pO RY Xo ka
          refine Hq (Jd (Jc (Ob (hsz:=by rw[<- JM ev];exact z) (show (LM (KT.numKind X.prog X.w)).room X.A from by show X.A.units<Ls;lia) (cP (X:=bf X scope (tg++cs) yy C fp s2 H2) RY sq) dd λh' Ul hs'=>?_)))
          have RJ:Inv (bf X scope (tg++cs) yy C fp s2 H2) [] σ8 Vc Q4:=RY.pins_of λp hp=>nomatch hp
          have Xp:Inv (bf X scope (tg++cs) yy C fp s2 H2) [] σ8 Vc { Q4 with heap:=h',toks:=Q4.toks+(LM (KT.numKind X.prog X.w)).draws ms }:=
            RJ.turned (λb o hb e=>(hs'.2 b hb).trans e) p3 hDC (.inr (by show s2.heap.objs.size<=D;rw[PU];exact HA _)) SC (λp hp=>nomatch hp)
          obtain ⟨qo,qd,qe,VZ,Xq,Xs,Xt,_,Xu⟩:=Ul
          refine Hw ⟨rfl,Mf Xp RX (λb hb o e=>(hs'.2 b (λz:b=D=>Rk (z▸hb))).trans (p1 b hb o e)) p2 p3 VZ ⟨?_,m,?_,_,ev.put ms rv,qo,qd,qe,VZ,Xq,Xs,Xt⟩ nx⟩
          · have:=e7 es ms b v;lia
          · rw[(ev.put ms rv).keys];exact Xu
    · rw[e4];exact T.keep _ _ _ Pj λb _ o e=>old b o e
  exact MZ (loop _ rfl) (T.self _ 0 _ _ _ (T.keep _ _ _ Pj λb _ o e=>old b o e) (loop _ rfl))
end
end L2
namespace VL
open PySem L2 PySem.W
section
variable {K:Ho} {X:Cx} {kx vx iter:Expr} {pos:Pos}
theorem vD {yc:Str} {ifs:List Expr} {scope:JX} {tg cs:List Str} {target:Expr} {wi:TI} {vi:PQ} {g:TG} {vg:VG} {tc:TT} {vt:Qo} {tk tv:TE} {vk vv:VT} (hK:X.K=K) (hu:X.A.units+64<Ls) (Sc:eN X scope yc tg cs ix) (Pv:X.calm=true) (kg:cG tg.length ix g) (hnd:ix.Nodup)
    (hi:VI K X target iter wi vi) (hg:∀C fp s H,Sa K (bf X scope (tg++cs) yc C fp s H) target g vg) (hc:∀C fp s H,SO K (bf X scope (tg++cs) yc C fp s H) ifs tc vt) (hk:∀C fp s H,VE K (bf X scope (tg++cs) yc C fp s H) false kx tk vk) (hv:∀C fp s H,VE K (bf X scope (tg++cs) yc C fp s H) true vx tv vv)
    (hs:∀x,HY iter X.env x=pure x:=by intro _;rfl):U9 K X (.DictComp kx vx [⟨target,iter,ifs,0⟩] scope pos) (kX K wi tg.length ix g tc tk tv) (n6 vi tg.length ix vg vt vk vv):=by
  have sg:RL K g vg:=(hg 0 [] X.s₀ (λ_=>none)).snd
  have sc:Rg K tc vt:=(hc 0 [] X.s₀ (λ_=>none)).snd
  have sk:Qm K false tk vk:=(hk 0 [] X.s₀ (λ_=>none)).snd
  have sv:Qm K true tv vv:=(hv 0 [] X.s₀ (λ_=>none)).snd
  refine ⟨by subst hK;exact rF hu Sc Pv kg hi.pi (λC fp s H=>(hg C fp s H).pg) (λC fp s H=>(hc C fp s H).pe) (λC fp s H=>(hk C fp s H).pe) (λC fp s H=>(hv C fp s H).pe) hs,λH0 Z σ H S Q C k t hq=>?_⟩
  refine hi.snd H0 Z σ H S _ _ k t λJ ds H1 S1 k1 Pq gd Pk=>?_
  obtain ⟨hl,Iv,i0,hs,hd⟩:=Pk
  refine ⟨λi m es H=>m=ds.length-i/\i<=ds.length/\es.length<=i/\∃S2 kvs,OK K H0 Z σ H S2/\Step Z σ S1 H1 σ S2 H/\es.map (·.1)=kvs.map (·.1)/\Pi K (NM Z σ S2) Pz H (es.map λx=>V.ref x.2.1) ((kvs.map (·.1)).map kT)/\Pi K (NM Z σ S2) (Fr H0) H (es.map (·.2.2)) (kvs.map (·.2))/\Iv i kvs S2,
    ⟨ds.length,by simp,JV _,HA _,S1,[],k1,.refl,rfl,.nil,.nil,i0⟩,?_⟩
  rintro i m es H2 ⟨rfl,hi,hy,S2,kvs,k2,Pj,ek,rk,rz,p⟩
  obtain ⟨g1,g2,g3⟩:=gd σ S2 H2 (λ_=>k2.nm) Pj.1 i
  have hsz:(1000000:Nat)<Ii:=by rw[IL];lia
  by_cases hlt:i<ds.length
  · refine .inr ⟨g1 hlt,by lia,λes' H'=>es'.length<=i+1/\∃S' Rr,OK K H0 Z σ H' S'/\Step Z σ S1 H1 σ S' H'/\es'.map (·.1)=Rr.map (·.1)/\Pi K (NM Z σ S') Pz H' (es'.map λx=>V.ref x.2.1) ((Rr.map (·.1)).map kT)/\Pi K (NM Z σ S') (Fr H0) H' (es'.map (·.2.2)) (Rr.map (·.2))/\Iv (i+1) Rr S',
      λes' H' PH=>by obtain ⟨p1,p2⟩:=PH;exact ⟨ds.length-(i+1),by lia,rfl,hlt,p1,p2⟩,λx H3 y=>?_⟩
    obtain ⟨hgr,d,hd',rd⟩:=g2 x H3 y hlt
    replace k2:=k2.grow hgr
    replace Pj:=Pj.trans (.grow hgr)
    replace rk:=rk.step (.grow hgr)
    replace rz:=rz.step (.grow hgr)
    have kc:=k2.capt (n:=tg.length) hnd
    have To:Rep K (NM (QJ Z ix σ S2) (L2.capt tg.length ix σ) (aS tg.length ix S2)) Pz H3 x d:=rd.mono (λa n _=>⟨λz=>n (eI.mp z),rfl⟩) λ_ x=>x
    have h1:=sg H0 _ _ H3 _ x d _ (fun σ4 H4=>∃S4,OK K H0 (QJ Z ix σ S2) σ4 H4 S4/\Step (QJ Z ix σ S2) (L2.capt tg.length ix σ) (aS tg.length ix S2) H3 σ4 S4 H4/\vt S4 λb S5=>if b=true then vk S5 λrk S6=>vv S6 λrv S7=>∃ms x,get S7 rk=some (kT ms)/\rv=.d x/\Iv (i+1) (PN kvs ms x) (Pu tg.length ix S2 S7) else Iv (i+1) kvs (Pu tg.length ix S2 S5)) kc To (hs i d kvs S2 hd' p) (fun σ4 H4 S4 k4 PZ q4=>⟨S4,k4,PZ,q4⟩)
    have h2:=kg x σ H3 _ h1
    refine (hg 0 [] X.s₀ (λ_=>none)).mono _ _ _ _ _ ?_ h2
    rintro σ4 H4 ⟨⟨Xi,SF⟩,S4,k4,PZ,q4⟩
    refine sc H0 _ σ4 H4 S4 _ _ k4 q4 λbb H5 S5 k5 Py q5=>?_
    cases bb with
    | false=>
      rw[if_neg Hy] at q5 ⊢
      obtain ⟨kb,sb,nb⟩:=k2.back k5 (PZ.trans Py) SF
      exact ⟨by lia,_,kvs,kb,Pj.trans sb,ek,rk.step sb,rz.step sb,q5⟩
    | true=>
      rw[if_pos rfl] at q5 ⊢
      refine sk H0 _ σ4 H5 S5 _ _ k5 q5 λyy H6 ry S6 k6 Sq Xw q6=>?_
      refine sv H0 _ σ4 H6 S6 _ _ k6 q6 λV0 H7 rv S7 k7 Qk Xx Pk=>?_
      obtain ⟨ms,xx,e1,er,q7⟩:=Pk
      subst er
      obtain ⟨b,rfl,sq,rb⟩:=n5 (Xw.step Qk) e1
      obtain ⟨kb,sb,nb⟩:=k2.back k7 (((PZ.trans Py).trans Sq).trans Qk) SF
      have V1:=rk.step sb
      have Xy:=rz.step sb
      obtain ⟨z1,z2,z3⟩:=kL (k:=ms) (b:=b) (v:=V0) (d:=xx) (F:=Fr H0) (F':=Pz) (Rep.mono (λa n _=>⟨nb a n,rfl⟩) (λ_ x=>x rfl) Xx) (Rep.mono (λa n _=>⟨nb a n,rfl⟩) (λ_ x=>x) rb) ek V1 Xy
      refine ⟨b,ms,rfl,Rb.of sq,cK (by rw[ek];exact V1),?_,_,PN kvs ms xx,kb,Pj.trans sb,z1,z2,z3,q7⟩
      have:=e7 es ms b V0
      lia
  · have e:i=ds.length:=by lia
    refine .inl ⟨g3 e,λl ob hp=>?_⟩
    exact hq l es kvs H2 _ S2 k2 (Pq.trans Pj) hp (aG hp) ⟨ob,aw⟩ ek (rk.mono (λa n e=>⟨⟨n,λz=>e (z▸hp)⟩,ay λz=>e (z▸hp)⟩) λ_ x=>x) (bC hp (rz.mono (λ_ n _=>⟨n,rfl⟩) λ_ x _=>x)) (hd kvs S2 (by rw[<- e];exact p))
end
section
variable {K:Ho} {X:Cx} {o ie:Expr} {to ti:TE} {vo vi:VT} {pos:Pos} {S:List Sl} {Q:VR->List Sl->Prop}
theorem eV.delems {H0 H:Hp} {S:List Sl} (h:eV K F Z σ S H v r) (k:OK K H0 Z σ H S) (e:VL.get S r=some (dc kvs)):∃a es,v=.ref a/\(∃ob,H a=some (bM a ob es))/\es.map (·.1)=kvs.map (·.1)/\cf K H es/\Pi K (NM Z σ S) Pz H (es.map (·.2.2)) (kvs.map (·.2)):=by
 cases r with
 | d y=>
  cases e
  obtain ⟨a,es,rfl,_,_,h1,h2,h3,_,h4⟩:=Rep.dct (show Rep K _ _ H v (.dic _ _) from h)
  exact ⟨a,es,rfl,h1,h2,h3,h4.mono (λ_ n _=>⟨n,rfl⟩) λ_ _=>trivial⟩
 | own i=>
  have h:σ[i]?=some (some v):=h
  have e:RK S[i]?=some (dc kvs):=e
  cases es:S[i]? with
  | none=>rw[es] at e;cases e
  | some s=>
   rw[es] at e
   cases s <;> first | (cases e;done) | skip
   case odi ks ds=>
    cases e
    obtain ⟨o,h1,a,es',rfl,h2,_,h3,h4⟩:=k.ownAt es
    rw[h] at h1
    cases h1
    exact ⟨a,es',rfl,h2,h3.1,cK (by rw[h3.1];exact h3.2),h4.mono (λ_ n _=>⟨n,rfl⟩) λ_ _=>trivial⟩
def AI (vo vi:VT):VT:=λS Q=>vo S λr S1=>vi S1 λrk S2=>∃kvs ms d,get S2 r=some (dc kvs)/\get S2 rk=some (kT ms)/\PJ kvs ms=some d/\Q (.d d) S2
theorem gm (hK:X.K=K) (hu:X.A.units+64<Ls) (ho:VE K X false o to vo) (hi:VE K X false ie ti vi) (hs:fV ie):VE K X false (.Subscript o ie pos) (Rw (pW K) to ti) (AI vo vi):=
 ⟨by subst hK;exact oS (mT hu) ho.pe hi.pe hs,λH0 Z σ H S Q C k t hc=>by
  refine ho.snd H0 Z σ H S _ _ k t λx H1 ra S1 k1 Pq r1 t1=>?_
  refine hi.snd H0 Z σ H1 S1 _ _ k1 t1 λy H2 rb S2 k2 Pj r2 Pk=>?_
  obtain ⟨kvs,ms,d,e1,e2,ei,q⟩:=Pk
  obtain ⟨b,vs,rfl,hq,rr⟩:=Rep.sqT (show Rep K _ _ H2 y (.tup (ms.map D.int)) from r2.get k2 e2)
  cases Pi.toInts rr
  obtain ⟨a,es,rfl,ha,ek,hk,rv⟩:=(r1.step Pj).delems k2 e1
  rcases fD (k:=ms) ek rv with ⟨z1,z2⟩ | ⟨v,d',z1,z2,r⟩
  ·rw[z2] at ei;cases ei
  ·rw[z2] at ei
   cases ei
   exact ⟨b,a,ms,es,v,rfl,rfl,Rb.of hq,ha,hk,z1,hc _ H2 (.d d) S2 k2 (Pq.trans Pj) (show Rep K _ _ _ v d from r.mono (λ_ n _=>⟨n,rfl⟩) λ_ _=>FM.any) q⟩⟩
def AJ (vi:VT) (Q:VR->List Sl->Prop):VR->List Sl->Prop:=λr S1=>vi S1 λrk S2=>∃kvs ms d,get S2 r=some (dc kvs)/\get S2 rk=some (kT ms)/\PJ kvs ms=some d/\Q (.d d) S2
def AK (r:VR) (Q:VR->List Sl->Prop):VR->List Sl->Prop:=λrk S2=>∃kvs ms d,get S2 r=some (dc kvs)/\get S2 rk=some (kT ms)/\PJ kvs ms=some d/\Q (.d d) S2
theorem DH (h:vo S (AJ vi Q)):AI vo vi S Q:=h
theorem yH (h:vi S (AK r Q)):AJ vi Q r S:=h
theorem gn {r rk:VR} (e1:get S r=some (dc kvs)) (e2:get S rk=some (kT ms)) (e3:PJ kvs ms=some d) (h:Q (.d d) S):AK r Q rk S:=⟨kvs,ms,d,e1,e2,e3,h⟩
end
end VL
end
section
namespace VL
open PySem L2
section
variable {K:Ho} {X:Cx} {m:Bool} {e:Expr} {te:TE} {va:VT} {pos pos':Pos} {S:List Sl} {V:bh} {x:Str} {i:Nat}
def AL (i:Nat) (va:VT):P5:=λV S=>(∃n,S[i]?=some (.val (.int n)))/\va S λr S1=>∃a n,S1[i]?=some (.val (.int a))/\r=.d (.int n)/\V.nx (S1.set i (.val (.int (a+n))))
theorem yI (hN:X.N.Nodup) (hi:X.N[i]?=some x) (hx:Loc X.env.scope x) (h:VE K X false e te va)
  (hf:X.fn x=true\/X.env.scope.names.lookup x=some .local:=by first | exact .inl rfl | exact .inr rfl | assumption) :
  VS K X (.AugAssign (.Name x pos') .Add e pos) (Eh i te (WX λa b=>a+b)) (AL i va):=
 ⟨Bm hN hi hx h.pe su hf,λH0 Z σ H S V E k zq l=>by
  obtain ⟨⟨n0,e0⟩,zq⟩:=zq
  obtain ⟨v0,g0,r0⟩:=k.var (i:=i) (r:=.d (.int n0)) (by rw[e0];rfl)
  cases (show Rep K _ _ H v0 (.int n0) from r0)
  refine ⟨.int n0,g0,h.snd H0 Z σ H S _ _ k zq λz H2 r S2 k2 Pj Rz Pk=>?_⟩
  obtain ⟨a,n,e1,er,q⟩:=Pk
  subst er
  obtain ⟨v1,g1,r1⟩:=k2.var (i:=i) (r:=.d (.int a)) (by rw[e1];rfl)
  cases (show Rep K _ _ H2 v1 (.int a) from r1)
  rw[g0] at g1;cases g1
  cases (show Rep K _ _ H2 z (.int n) from Rz)
  obtain ⟨k3,Qi⟩:=k2.setVal (i:=i) (List.getElem?_eq_some_iff.mp e1).1 (Rep.int (n0+n))
  exact ⟨n0,n,rfl,rfl,l.nx _ _ _ k3 (Pj.trans Qi) q⟩⟩
def AM (i:Nat) (V:bh):VR->List Sl->Prop:=λr S1=>∃a n,S1[i]?=some (.val (.int a))/\r=.d (.int n)/\V.nx (S1.set i (.val (.int (a+n))))
theorem DI {n:Int} (e:S[i]?=some (.val (.int n))) (h:va S (AM i V)):AL i va V S:=⟨⟨n,e⟩,h⟩
theorem yJ {a n:Int} (e:S[i]?=some (.val (.int a))) (h:V.nx (S.set i (.val (.int (a+n))))):AM i V (.d (.int n)) S:=⟨a,n,e,rfl,h⟩
end
end VL
end
section
namespace VL
open PySem L2
section
variable {K:Ho} {X:Cx} {m:Bool} {e:Expr} {es:List Expr} {tr:TA} {vr:Qv} {x:Str} {p0 p pos:Pos} {j k:Nat} {ps:List Str} {S:List Sl} {QN:List D->List Sl->Prop}
theorem rG (hK:X.K=K) (hg:Gl X "sorted") (hm:X.mg "sorted"=none) (hb:IZ "sorted"=some (.builtin "sorted")) (ha:VA K X false [e] tr vr) (he:HN [e] X.env=[(false,eval e X.env)]:=by rfl) :
  VN K X (.Call (.Name "sorted" p) [e] [] pos) (Sm (og K) tr) (oi vr):=
 ⟨by subst hK;exact eY jf hg hm hb ha.pe (by decide) (by decide) he rfl,λH0 Z σ H S Q C k t hc=>ha.snd H0 Z σ H S _ _ k t λvs H1 rs S1 k1 Pq Qp Px=>by
  obtain ⟨r,mss,e1,e2,h1,q⟩:=Px
  subst e1
  obtain ⟨v,rfl,rv⟩:=Qp.one
  obtain ⟨a,ys,rfl,hq,rr⟩:=rv.elems k1 e2
  obtain ⟨ps,rfl,ht,_⟩:=gE rr
  exact ⟨a,ps,mss,rfl,hq,ht,h1,λl U4 hl ht'=>hc l _ _ H1 _ S1 k1 Pq hl (aG hl) aw (bC hl (eH k1.tupN ht')) q⟩⟩
end
end VL
end
local macro_rules | `(tactic| walk_at "L") => `(tactic| (intros; rename_i z; repeat' (first | (obtain ⟨e, _⟩ := z; subst e; rfl) | (obtain ⟨_, z⟩ := z))))
local macro_rules | `(tactic| walk_at "s") => `(tactic| exact ⟨rfl, rfl, rfl, by decide +kernel, rfl, by decide +kernel, by decide +kernel⟩)
theorem My.len1 {α:Type} {l:List α} (h:l.length=1):∃a0,l=[a0]:=match l,h with|[a0],_=>⟨a0,rfl⟩
local macro_rules | `(tactic| walk_at "1") => `(tactic| exact (λ_ _ _ _ _ _ us hl => by obtain ⟨_,e⟩ := My.len1 hl; subst e; exact rfl))
theorem My.len2 {α:Type} {l:List α} (h:l.length=2):∃a0 a1,l=[a0,a1]:=match l,h with|[a0,a1],_=>⟨a0,a1,rfl⟩
local macro_rules | `(tactic| walk_at "2") => `(tactic| exact (λ_ _ _ _ _ _ us hl => by obtain ⟨_,_,e⟩ := My.len2 hl; subst e; exact rfl))
theorem My.len3 {α:Type} {l:List α} (h:l.length=3):∃a0 a1 a2,l=[a0,a1,a2]:=match l,h with|[a0,a1,a2],_=>⟨a0,a1,a2,rfl⟩
local macro_rules | `(tactic| walk_at "3") => `(tactic| exact (λ_ _ _ _ _ _ us hl => by obtain ⟨_,_,_,e⟩ := My.len3 hl; subst e; exact rfl))
local macro_rules | `(tactic| walk_at "l0") => `(tactic| first
 | with_reducible refine VL.Cr ?_
 | with_reducible refine VL.xq ?_
 | ((with_reducible refine' VL.gg ?h ?_);(case h=>exact rfl))
 | with_reducible refine VL.j_c ?_
 | with_reducible refine VL.Fc ?_
 | ((with_reducible refine' VL.Hb ?h1 ?h2 ?_);(case h1=>exact rfl);(case h2=>exact rfl))
 | with_reducible refine VL.Ha ?_
 | with_reducible refine VL.j_2 ?_
 | with_reducible refine VL.B8 ?_
 | with_reducible refine VL.ET ?_
 | ((with_reducible refine' VL.G8 ?h ?_);(case h=>exact rfl);(try dsimp only[Ig,Iy]))
 | ((with_reducible refine' VL.Fi ?h ?_);(case h=>exact rfl))
 | with_reducible refine VL.Fd ?_
 | ((with_reducible refine' VL.Cs ?h1 ?h2 ?_);(case h1=>exact rfl);(case h2=>exact rfl))
 | with_reducible refine VL.E1 ?_
 | ((with_reducible refine' VL.Ce ?h ?_);(case h=>exact rfl))
 | with_reducible refine VL.EY ?_
 | with_reducible refine VL.EW ?_
 | with_reducible refine VL.B9 ?_
 | with_reducible refine VL.Hd ?_
 | with_reducible refine VL.E4 ?_
 | with_reducible refine VL.xn ?_
 | with_reducible refine VL.Fh ?_
 | with_reducible refine VL.Cu ?_
 | ((with_reducible refine' VL.E2 ?h ?_);(case h=>first | exact (by decide) | exact .inl ⟨by decide,by decide⟩ | exact .inr ⟨by decide,by decide⟩ | (show (0:Int)<_;lia) | (show (0:Int)<=_;lia) | exact ⟨by decide,by decide,by decide⟩ | exact ⟨by lia,by lia,by lia⟩ | exact ⟨by lia,by lia⟩ | exact .inl ⟨by lia,by lia⟩ | exact .inr ⟨by lia,by lia⟩))
 | with_reducible refine VL.Ck ?_)
local macro_rules | `(tactic| walk_at "l1") => `(tactic| first
 | with_reducible refine VL.Ff ?_
 | ((with_reducible refine' VL.Ct ?h1 ?h2 ?_);(case h1=>exact rfl);(case h2=>exact rfl))
 | with_reducible refine VL.Hi ?_
 | with_reducible refine VL.xk ?_
 | with_reducible refine VL.Hg ?_
 | ((with_reducible refine' VL.E5 ?h1 ?h2 ?h3 ?_);(case h1=>exact rfl);(case h2=>exact rfl);(case h3=>first | exact rfl | exact VL.at_0))
 | with_reducible refine VL.Ci ?_
 | with_reducible refine VL.EZ ?_
 | with_reducible refine VL.Cp ?_
 | with_reducible refine VL.Cg ?_
 | ((with_reducible refine' VL.pz ?h ?_);(case h=>first | exact rfl | simp only[VL.flat,VL.flats,VL.cI,VL.eT,VL.dZ,Bool.and_self]))
 | with_reducible refine VL.Fy ?_
 | with_reducible refine VL.CA ?_
 | ((with_reducible refine' VL.dM ?h1 ?h2 ?h3 ?_);(case h1=>exact rfl);(case h2=>exact rfl);(case h3=>exact rfl))
 | with_reducible refine VL.mz ?_
 | ((with_reducible refine' VL.FJ ?h1 ?h2 ?_);(case h1=>(intro n z;cases z));(case h2=>first | exact L2.kA | exact L2.jy | exact L2.isiB_list_list | exact L2.isiB_tuple_tuple | exact L2.isiB_bool_bool | exact L2.isiB_f1 | exact L2.isiB_f2 | exact L2.isiB_f3 | exact L2.isiB_f4 | exact L2.isiB_f5 | exact L2.isiB_f6 | exact L2.isiB_g1 | exact L2.isiB_g2 | exact L2.isiB_g3 | exact L2.isiB_g4 | exact L2.isiB_g5 | exact L2.isiB_g6 | exact L2.isiB_h1 | exact L2.isiB_h2 | exact L2.isiB_h3 | exact L2.isiB_h4 | exact L2.isiB_h5 | exact L2.isiB_h6 | exact L2.isiB_h7))
 | with_reducible refine VL.Ca ?_
 | ((with_reducible refine' VL.G9 ?h ?_);(case h=>exact rfl);(try simp only[HJ,Iz]))
 | with_reducible refine VL.Fq ?_
 | ((with_reducible refine' VL.Cz ?h1 ?h2 ?h3 ?_);(case h1=>exact rfl);(case h2=>exact rfl);(case h3=>exact rfl))
 | with_reducible refine VL.He ?_
 | ((with_reducible refine' VL.E6 ?h ?_);(case h=>exact rfl))
 | with_reducible refine VL.Fv ?_
 | with_reducible refine VL.CF ?_
 | with_reducible refine VL.CG ?_
 | with_reducible refine VL.Cb ?_
 | ((with_reducible refine' VL.xl ?h ?_);(case h=>exact rfl);(try dsimp only[Ig,Iy]))
 | with_reducible refine VL.Cf ?_
 | with_reducible refine VL.xm ?_
 | with_reducible refine VL.qM ?_
 | with_reducible refine VL.FG ?_
 | with_reducible refine VL.tP ?_
 | with_reducible refine VL.FE ?_
 | ((with_reducible refine' VL.tX ?h ?_);(case h=>exact ⟨by lia,by lia⟩))
 | with_reducible refine VL.tM ?_
 | with_reducible refine VL.Cm ?_
 | with_reducible refine VL.E8 ?_
 | ((with_reducible refine' VL.Dh ?h ?_);(case h=>exact rfl))
 | with_reducible refine VL.Cv ?_
 | with_reducible refine VL.CU ?_
 | ((with_reducible refine' VL.xJ ?h ?_);(case h=>exact rfl);(try dsimp only[Ig,Iy]))
 | with_reducible refine VL.DH ?_
 | with_reducible refine VL.yH ?_
 | with_reducible refine VL.CV ?_
 | ((with_reducible refine' VL.xK ?h ?_);(case h=>exact rfl))
 | with_reducible refine VL.xV ?_
 | with_reducible refine VL.Df ?_
 | with_reducible refine VL.Dg ?_
 | with_reducible refine VL.Cw ?_
 | with_reducible refine VL.CS ?_)
local macro_rules | `(tactic| walk_at "l2") => `(tactic| first
 | with_reducible refine VL.yg ?_
 | with_reducible refine VL.Gz ?_
 | with_reducible refine VL.yu ?_
 | with_reducible refine VL.tL ?_
 | ((with_reducible refine' VL.Ft ?h ?_);(case h=>exact rfl))
 | ((with_reducible refine' VL.nR ?h1 ?h2 ?_);(case h1=>exact rfl);(case h2=>first | lia | (simp only[HK,IM,J5,Hz];lia) | exact Ir rfl);(try dsimp only[Ig,Iy]))
 | with_reducible refine VL.Cq ?_
 | with_reducible refine VL.xo ?_
 | with_reducible refine VL.Fb ?_
 | with_reducible refine VL.Dw ?_
 | with_reducible refine VL.yl ?_
 | ((with_reducible refine' VL.FY ?h ?_);(case h=>exact rfl))
 | with_reducible refine VL.CT ?_
 | with_reducible refine VL.xH ?_
 | with_reducible refine VL.C3 ?_
 | with_reducible refine VL.DF ?_
 | with_reducible refine VL.Dl ?_
 | with_reducible refine VL.Dm ?_
 | with_reducible refine VL.DA ?_
 | with_reducible refine VL.yq ?_
 | with_reducible refine VL.Hh ?_
 | with_reducible refine VL.Fk ?_
 | ((with_reducible refine' VL.Cy ?h ?_);(case h=>exact rfl))
 | with_reducible refine VL.Cd ?_
 | ((with_reducible refine' VL.kH ?h ?_);(case h=>exact rfl);(try dsimp only[Ig,Iy]))
 | with_reducible refine VL.xt ?_
 | ((with_reducible refine' VL.tW ?h1 ?h2 ?_);(case h1=>exact rfl);(case h2=>exact rfl))
 | ((with_reducible refine' VL.qK ?h1 ?h2 ?h3 ?_);(case h1=>exact rfl);(case h2=>exact rfl);(case h3=>exact rfl);(try dsimp only[Ig,Iy]))
 | with_reducible refine VL.FF ?_
 | ((with_reducible refine' VL.CD ?h ?_);(case h=>exact ⟨by lia,by lia,by lia,by lia⟩))
 | with_reducible refine VL.qS ?_
 | with_reducible refine VL.tS ?_
 | with_reducible refine VL.xr ?_
 | with_reducible refine VL.C5 ?_
 | with_reducible refine VL.Gj ?_
 | ((with_reducible refine' VL.DI ?h ?_);(case h=>exact rfl))
 | ((with_reducible refine' VL.yJ ?h ?_);(case h=>exact rfl);(try dsimp only[Ig,Iy]))
 | with_reducible refine VL.GB ?_
 | with_reducible refine VL.yx ?_
 | with_reducible refine VL.yG ?_
 | ((with_reducible refine' VL.Dt ?h ?_);(case h=>exact rfl))
 | with_reducible refine VL.Gw ?_
 | ((with_reducible refine' VL.Du ?h ?_);(case h=>exact rfl))
 | with_reducible refine VL.yh ?_
 | with_reducible refine VL.u6 ?_
 | with_reducible refine VL.C8 ?_
 | ((with_reducible refine' VL.C9 ?h ?_);(case h=>exact rfl))
 | with_reducible refine VL.xX ?_
 | with_reducible refine VL.Dj ?_
 | ((with_reducible refine' VL.Gp ?h ?_);(case h=>exact rfl))
 | with_reducible refine VL.DB ?_
 | with_reducible refine VL.vf ?_
 | ((with_reducible refine' VL.C4 ?h ?_);(case h=>exact HC rfl))
 | with_reducible refine VL.FH ?_
 | with_reducible refine VL.FA ?_
 | with_reducible refine VL.CC ?_
 | with_reducible refine VL.Hf ?_
 | ((with_reducible refine' VL.F7 ?h ?_);(case h=>exact rfl);(try dsimp only[Ig,Iy]))
 | ((with_reducible refine' VL.Dy ?h ?_);(case h=>exact rfl);(try dsimp only[Ig,Iy]))
 | with_reducible refine VL.FZ ?_
 | with_reducible refine VL.F0 ?_
 | ((with_reducible refine' VL.CL ?h1 ?h2 ?_);(case h1=>exact Ir rfl);(case h2=>exact Ir rfl);(try dsimp only[Ig,Iy]))
 | with_reducible refine VL.F9 ?_
 | with_reducible refine VL.Hm ?_
 | ((with_reducible refine' VL.Gf ?h ?_);(case h=>exact ⟨by lia,by lia⟩)))
local macro_rules | `(tactic| walk_at "rd1") => `(tactic| first
 | walk_at "l0"
 | walk_at "l1"
 | walk_at "l2")
local macro_rules | `(tactic| walk_at "rc1") => `(tactic| first
 | walk_at "rd1"
 | ((with_reducible refine' VL.FN ?h ?_);(case h=>exact rfl))
 | ((with_reducible refine' VL.FO ?h ?_);(case h=>exact rfl))
 | ((with_reducible refine' VL.FL ?h ?_);(case h=>exact rfl))
 | ((with_reducible refine' VL.Hj ?h ?_);(case h=>exact rfl))
 | ((with_reducible refine' VL.Hk ?h ?_);(case h=>exact rfl))
 | ((with_reducible refine' VL.FQ ?h ?_);(case h=>exact rfl))
 | ((with_reducible refine' VL.FR ?h ?_);(case h=>exact rfl)))
local macro_rules | `(tactic| walk_at "rc") => `(tactic| repeat walk_at "rc1")
local macro_rules | `(tactic| walk_at "rd") => `(tactic| repeat walk_at "rd1")
local macro_rules | `(tactic| walk_at "sl") => `(tactic| simp only[VL.slots, VL.eK, VL.eT, HJ, Iz, IM, J5, Iu, IA, Nat.reduceAdd, Nat.reduceSub, Lc, Jk, List.replicate_zero])
namespace My
open PySem L2 VL
def top (i:Nat):Stmt:=PySem.Challenge.pw_cellships_k45_the_number_of_a_picture.main.body.getD i (.Pass ⟨0,0,0,0⟩)
abbrev jm:Stmt:=top 1
theorem rH:aD ["thing"] ["thing"] (aj jm):=by walk_at "s"
abbrev lE:Stmt:=top 2
theorem vE:aD ["thing"] ["thing"] (aj lE):=by walk_at "s"
abbrev jn:Stmt:=top 19
theorem rJ:aD ["kind"] ["kind"] (aj jn):=by walk_at "s"
abbrev jo:Stmt:=top 21
theorem rK:aD ["rule"] ["rule"] (aj jo):=by walk_at "s"
abbrev cV:Stmt:=top 22
theorem gp:aD ["rule"] ["rule"] (aj cV):=by walk_at "s"
abbrev oo:Stmt:=top 23
theorem iu:aD ["rule","alive","count","kind","born","stay"] ["rule","alive","count"] (aj oo):=by walk_at "s"
abbrev lF:Stmt:=top 25
theorem cW:aD ["kind","picture","around","tally","x","y","dx","dy","cell"] ["kind","picture"] (aj lF):=by walk_at "s"
abbrev jq:Stmt:=top 26
theorem gO:aD ["kind","picture","tally","cell"] ["kind","picture"] (aj jq):=by walk_at "s"
abbrev cX:Stmt:=top 27
theorem gq:aD ["rule","picture","tally","living"] ["rule","picture","tally"] (aj cX):=by walk_at "s"
abbrev gP:Stmt:=top 28
theorem oq:aD ["rule","picture"] ["rule","picture"] (aj gP):=by walk_at "s"
abbrev iw:Stmt:=top 30
theorem eg:aD ["size","picture","wide","high","rows","x","y"] ["size","picture"] (aj iw):=by walk_at "s"
abbrev eO:Stmt:=top 31
theorem gZ:aD ["rule","lines","x","count"] ["rule","lines","x"] (aj eO):=by walk_at "s"
abbrev fq:Stmt:=top 32
theorem j6:aD ["rule","nines"] ["rule"] (aj fq):=by walk_at "s"
abbrev dB:Stmt:=top 33
theorem bz:aD ["amid","above","row","wanted","free","found","column","may_live","x","one","two","lives"] ["amid","above","row","wanted","free"] (aj dB):=by walk_at "s"
abbrev ft:Stmt:=top 37
theorem lG:aD ["thing"] ["thing"] (aj ft):=by walk_at "s"
abbrev bX:Stmt:=top 38
theorem eS:aD ["rule","size"] ["rule","size"] (aj bX):=by walk_at "s"
abbrev cD:Stmt:=top 39
theorem bH:aD ["rule","wide","amid","free","followers","waiting","pair","above","row"] ["rule","wide"] (aj cD):=by walk_at "s"
abbrev lH:Stmt:=top 40
theorem vF:aD ["followers","pair"] ["followers","pair"] (aj lH):=by walk_at "s"
abbrev cM:Stmt:=top 41
theorem dO:aD ["followers","high","ways","left","fewer"] ["followers","high"] (aj cM):=by walk_at "s"
abbrev bI:Stmt:=top 42
theorem bL:aD ["rule","size","picture","wide","high"] ["rule","size","picture"] (aj bI):=by walk_at "s"
abbrev cu:Stmt:=top 43
theorem aN:aD ["rule","size","picture","wide","high","followers","ways","number","pair","at","row","fewer"] ["rule","size","picture"] (aj cu):=by walk_at "s"
abbrev vG:Stmt:=top 45
theorem lI:aD ["_law_script","_law_k","_law_cell"] ["_law_script","_law_k"] (aj vG):=by walk_at "s"
abbrev ot:Stmt:=top 46
theorem gr:aD ["_law_pen_here","_law_many","_law_drawn","_law_number"] ["_law_pen_here","_law_many"] (aj ot):=by walk_at "s"
abbrev jr:Stmt:=top 47
theorem fF:aD ["_law_pen_here","_law_least","_law_kind","_law_born","_law_stay"] ["_law_pen_here","_law_least"] (aj jr):=by walk_at "s"
abbrev ou:Stmt:=top 48
theorem iy:aD ["_law_kind","_law_steps"] ["_law_kind"] (aj ou):=by walk_at "s"
abbrev iz:Stmt:=top 49
theorem mX:aD ["_law_code","_law_near_here","_law_live","_law_x","_law_y","_law_count"] ["_law_code","_law_near_here","_law_live","_law_x","_law_y"] (aj iz):=by walk_at "s"
abbrev lJ:Stmt:=top 50
theorem cE:aD ["_law_code","_law_near_here","_law_live","_law_alive","_law_looked","_law_x","_law_y","_law_dx","_law_dy"] ["_law_code","_law_near_here","_law_live"] (aj lJ):=by walk_at "s"
abbrev lK:Stmt:=top 51
theorem vH:aD ["_law_found"] ["_law_found"] (aj lK):=by walk_at "s"
abbrev dD:Stmt:=top 52
theorem bY:aD ["_law_size","_law_found","_law_y","_law_longer","_law_live","_law_number"] ["_law_size"] (aj dD):=by walk_at "s"
abbrev gQ:Stmt:=top 53
theorem eP:aD ["_law_code","_law_size","_law_live","_law_found","e"] ["_law_code","_law_size","_law_live"] (aj gQ):=by walk_at "s"
abbrev gR:Stmt:=top 54
theorem dG:aD ["_law_pen_here","_law_size","_law_far","_law_x","_law_y","_law_some"] ["_law_pen_here","_law_size"] (aj gR):=by walk_at "s"
abbrev DJ:Stmt:=top 55
theorem cY:aD ["_law_script","_law_pen_here","_law_code","_law_near_here","_law_wide","_law_size","_law_many","_law_pictures_here","_law_live","_law_handed","_law_found","_law_k","_law_other","_law_loud"] ["_law_script"] (aj DJ):=by walk_at "s"
structure QF (mg:Str->Option Ht):Prop where
 len_:mg "len"=none
 range:mg "range"=none
 abs_:mg "abs"=none
 isinstance_:mg "isinstance"=none
 int_:mg "int"=none
 bool_:mg "bool"=none
 list_:mg "list"=none
 tuple_:mg "tuple"=none
 sorted_:mg "sorted"=none
 max_:mg "max"=none
 min_:mg "min"=none
 all_:mg "all"=none
 any_:mg "any"=none
 set_:mg "set"=none
 sum_:mg "sum"=none
 str_:mg "str"=none
 dict_:mg "dict"=none
 zip_:mg "zip"=none
 enumerate_:mg "enumerate"=none
def Pn (b:Nat) (pn:List Int):Prop:=∃x y c:Int,pn=[x,y,c]/\0<=c/\c<=b
theorem Pn.le {b b':Nat} {pn:List Int} (h:Pn b pn) (e:b<=b'):Pn b' pn:=let ⟨x,y,c,h1,h2,h3⟩:=h;⟨x,y,c,h1,h2,by lia⟩
def GC:List D->(D->Prop)->Prop:=λds R=>∃(ns:List Int) (k:Nat),ds=[.lst (ns.map .int),.int k]/\k<=1000/\∀x y:Int,R (.lst ([x,y,0].map .int))
def yK:List D->(D->Prop)->Prop:=λds R=>∃ns:List Int,ds=[.lst (ns.map .int)]/\ns.length<=63/\R (.bl true)
def mY:List Int->List D->(D->List Int->Prop)->Prop:=λpn ds R=>∃(b:Nat) (m:Int),ds=[.int m]/\Pn b pn/\b<=1000000/\0<m/\m<1073741824/\∀(QW:List Int) (r:Int),Pn (b+1) QW->0<=r->r<m->R (.int r) QW
theorem mZ {j:Nat} (h:j<ns.length):QY (ns.map D.int) (j:Int)=some (.int (ns[j])):=by
 exact kr (by simp[h])
section
variable {P:Ip} {w:Ji} {K:Ho} {mg:Str->Option Ht} {base:Heap}
theorem DK (S:Src K mg "_law_pen" vG) (T:QF mg):PK P w K mg base 1 "_law_pen" ["_law_script","_law_k"] (PM K GC):=by
 refine bF S lI (by walk_at "2") (by walk_at "L") λf PC A outer s H E hr=>⟨_,_,(ai (aC (i:=2) lI.nd rfl (HC rfl) (aA aZ aE (aA gA bU af (ae 1 (pv 1))) af))
  (ai (b8 (bw jD aE (ae 1 (pv 1)) (aT (i7 (K:=K) rfl) iR (by rfl) T.len_ fM (aa (ae 0 (pv 0)) ah)) (br _)) (ao (aC (i:=2) lI.nd rfl (HC rfl) (aK rfl (ae 0 (pv 0)) (ae 1 (pv 1)) (λ_ _=>rfl)))) (ao (b8 (bw oP aE (aT (i7 (K:=K) rfl) iR (by rfl) T.len_ fM (aa (ae 0 (pv 0)) ah)) af (br _)) (ao (aC (i:=2) lI.nd rfl (HC rfl) (aA aZ aE (aA ez bU (aK rfl (ae 0 (pv 0)) (aA ez bU (ae 1 (pv 1)) (aT (i7 (K:=K) rfl) iR (by rfl) T.len_ fM (aa (ae 0 (pv 0)) ah))) (λ_ _=>rfl)) af) (aA gA bU af (ae 1 (pv 1)))))) bg)))
  (ai (b8 (bw zy aE (ae 2 (pv 2)) (aA nA bU af af) (br _)) (ao (aJ (aH (aP (aa (aA eW aE (ae 2 (pv 2)) (aA nA bU af af)) (aa (aA ez bU (ae 2 (pv 2)) af) (aa af ah))))))) bg)
  (ao (aJ (aH (aP (aa af (aa (aA ez bU (ae 2 (pv 2)) af) (aa af ah)))))))))),?_⟩
 rintro ds R ⟨ns,k,rfl,hk,q⟩
 have fin:∀(x y:Int),R (.lst [.int x,.int y,.int 0]):=λx y=>q x y
 walk_at "sl"
 walk_at "rd"
 rw[Hz]
 refine eZ (λh1=>?_) (λh1=>?_)
 ·have Td:k<ns.length:=by lia
  walk_at "rd"
  refine dM rfl rfl (mZ Td) ?_
  walk_at "rd"
  refine eZ (λh1=>?_) (λh1=>?_)
  all_goals (walk_at "rd";exact fin _ _)
 ·walk_at "rd"
  rw[Hz]
  refine eZ (λh2=>?_) (λh2=>?_)
  ·walk_at "rd"
   rw[Hz]
   have R3:0<ns.length:=by lia
   have e:((k:Int)%(ns.length:Int))=((k%ns.length:Nat):Int):=by lia
   refine E2 (by show (0:Int)<_;lia) ?_
   dsimp only[R0]
   rw[e]
   refine dM rfl rfl (mZ (Nat.mod_lt _ R3)) ?_
   walk_at "rd"
   refine eZ (λh1=>?_) (λh1=>?_)
   all_goals (walk_at "rd";exact fin _ _)
  ·walk_at "rd"
   refine eZ (λh1=>?_) (λh1=>?_)
   all_goals (walk_at "rd";exact fin _ _)
theorem yL (S:Src K mg "_law_draw" ot) (T:QF mg):PK P w K mg base 1 "_law_draw" ["_law_pen_here","_law_many"] (SD K 0 mY):=by
 refine tI 0 S gr (by walk_at "2") (by walk_at "L") λf PC A outer s H E hr=>⟨_,_,(ai (mj 0 (pv 0) (aA aZ aE (aK rfl (ae 0 (pv 0)) af (λ_ _=>rfl)) af) af)
  (ai (b8 (bw oP aE (aK rfl (ae 0 (pv 0)) af (λ_ _=>rfl)) af (br _)) (ai (aC (i:=2) gr.nd rfl (HC rfl) (aA ez bU (aK rfl (ae 0 (pv 0)) af (λ_ _=>rfl)) (ae 1 (pv 1))))
  (ai (mj 0 (pv 0) (aA hZ bU (aK rfl (ae 0 (pv 0)) af (λ_ _=>rfl)) (ae 1 (pv 1))) af)
  (ao (aJ (aL (ae 2 (pv 2))))))) bg)
  (ai (aC (i:=3) gr.nd rfl (HC rfl) (aA ez bU (aA aZ aE (aA aZ aE (aK rfl (ae 0 (pv 0)) af (λ_ _=>rfl)) (aA gA bU af (aK rfl (ae 0 (pv 0)) af (λ_ _=>rfl)))) af) af))
  (ai (aC (i:=3) gr.nd rfl (HC rfl) (aA aZ aE (aA ez bU (aA gA bU (ae 3 (pv 3)) (ae 3 (pv 3))) af) (aA gA bU af (aK rfl (ae 0 (pv 0)) af (λ_ _=>rfl)))))
  (ai (aC (i:=3) gr.nd rfl (HC rfl) (aA ez bU (aA gA bU (ae 3 (pv 3)) (ae 3 (pv 3))) af))
  (ao (aJ (aA ez bU (aA hZ bU (ae 3 (pv 3)) af) (ae 1 (pv 1)))))))))),?_⟩
 rintro a pn ds es R hl ⟨b,m,e,⟨x,y,c,rfl,hc0,hc1⟩,hb,hm0,Wv,q⟩
 obtain rfl:ds=[]:=Jn hl
 obtain rfl:es=[.int m]:=e
 walk_at "sl"
 walk_at "rd"
 refine eZ (λh1=>?_) (λh1=>?_)
 ·walk_at "rd"
  exact ⟨_,rfl,q _ _ ⟨_,_,_,rfl,by lia,by lia⟩ (Nl _ (by lia)) (Mk _ hm0)⟩
 ·walk_at "rd"
  exact ⟨_,rfl,q _ _ ⟨_,_,_,rfl,by lia,by lia⟩ (Nl _ (by lia)) (Mk _ hm0)⟩
end
end My
namespace My
open PySem L2 VL
def nr (k:Int):List (List Int):=if k=4 then [[-1,0],[0,-1],[0,1],[1,0]] else if k=6 then [[-1,-1],[-1,0],[0,-1],[0,1],[1,0],[1,1]] else [[-1,-1],[-1,0],[-1,1],[0,-1],[0,1],[1,-1],[1,0],[1,1]]
def rows:List (Int×List (List Int)):=[(4,nr 4),(6,nr 6),(8,nr 8)]
def Kd (k:Int):Prop:=k=4\/k=6\/k=8
theorem vI {k:Int} (hk:Kd k):(k,nr k)∈rows:=by rcases hk with rfl | rfl | rfl <;> simp[rows]
def Pr (ms:List Int):Prop:=∃x y,ms=[x,y]
theorem vJ {k:Int} (hk:Kd k) {m:List Int} (h:m∈nr k):∃x y,m=[x,y]/\-1<=x/\x<=1/\-1<=y/\y<=1:=by
 have:(nr k).all (λm=>match m with | [x,y]=>decide (-1<=x)&&decide (x<=1)&&decide (-1<=y)&&decide (y<=1) | _=>false)=true:=by rcases hk with rfl | rfl | rfl <;> decide +kernel
 have:=List.all_eq_true.mp this m h
 match m,this with
 | [x,y],h=>simp only[Ik,decide_eq_true_eq] at h;exact ⟨x,y,rfl,h.1.1.1,h.1.1.2,h.1.2,h.2⟩
theorem fK {k:Int} (hk:Kd k) {m:List Int} (h:m∈nr k):Pr m:=let ⟨x,y,e,_⟩:=vJ hk h;⟨x,y,e⟩
theorem ow {k:Int} (hk:Kd k):(nr k).length<=8:=by rcases hk with rfl | rfl | rfl <;> decide
def ad (p m:List Int):List Int:=match p,m with
 | [x,y],[dx,dy]=>[x+dx,y+dy]
 | _,_=>[]
def rl (k:Int) (b s:List Int):D:=.tup [.int k,.tup (b.map .int),.tup (s.map .int)]
def Q6 (k:Int) (xs:List (List Int)):List (List Int):=xs.flatMap λp=>(nr k).map (ad p)
theorem lL (k:Int):∀ys:List (List Int),(Q6 k ys).length=ys.length*(nr k).length:=λys=>by
 induction ys with
 | nil=>simp[Q6]
 | cons y ys ih=>simp only[Q6,JE,HK,Hz,IM] at ih ⊢;rw[ih,KL];lia
def UB:List (List Int)->List (List Int)
 | []=>[]
 | x::r=>if x∈r then UB r else x::UB r
theorem gu {c:List Int}:∀l,c∈UB l↔c∈l
 | []=>Iff.rfl
 | x::r=>by
  unfold UB
  split
  ·rename_i h
   rw[gu r,JO]
   exact ⟨.inr,λz=>z.elim (λe=>e▸h) id⟩
  ·rw[JO,JO,gu r]
theorem fG:∀l,(UB l).Nodup
 | []=>NO
 | x::r=>by
  unfold UB
  split
  ·exact fG r
  ·rename_i h
   exact List.nodup_cons.mpr ⟨λz=>h ((gu r).mp z),fG r⟩
def Sh (k:Int) (bo st:List Int) (xs:List (List Int)) (c:List Int):Bool:=decide ((((Q6 k xs).count c:Nat):Int)∈if decide (c∈xs)=true then st else bo)
def nx (k:Int) (bo st:List Int) (xs:List (List Int)):List (List Int):=srt ((UB (Q6 k xs++xs)).filter (Sh k bo st xs))
theorem gS {a b:List (List Int)} (h:a.Perm b):srt a=srt b:=nK ((bT a).trans h) (iM a)
theorem GD {k:Int} {bo st:List Int} {xs ys:List (List Int)} (nd:ys.Nodup) (hm:∀c,c∈ys↔(c∈Q6 k xs\/c∈xs)/\Sh k bo st xs c=true):srt ys=nx k bo st xs:=by
 refine gS ?_
 refine (K0 nd ((fG _).filter _)).mpr λc=>?_
 rw[hm,Lp,gu,JD]
theorem m3:∀{kvs:List (List Int×D)} {p:List Int×D},(kvs.map (·.1)).Nodup->p∈kvs->PJ kvs p.1=some p.2
 | [],_,_,h=>by cases h
 | q::ps,p,nd,h=>by
  rw[HJ,List.nodup_cons] at nd
  unfold PJ
  rcases List.mem_cons.mp h with rfl | h
  ·simp
  ·have:¬ q.1=p.1:=λz=>nd.1 (List.mem_map.mpr ⟨p,h,z.symm⟩)
   simp only[Jw,this,decide_false]
   exact m3 nd.2 h
theorem vK {c:List Int} (h:c∉kvs.map (·.1)):PJ kvs c=none:=by
 unfold PJ
 rw[List.find?_eq_none.mpr λx hx=>by
  have:¬ x.1=c:=λz=>h (List.mem_map.mpr ⟨x,hx,z⟩)
  simpa using this]
 rfl
structure Wt (l xs:List (List Int)) (kvs:List (List Int×D)):Prop where
 nd:(kvs.map (·.1)).Nodup
 keys:∀c,c∈kvs.map (·.1)↔c∈l\/c∈xs
 vals:∀p∈kvs,p.2=.int (l.count p.1)
 len:kvs.length<=l.length+xs.length
theorem Wt.get {l xs:List (List Int)} (h:Wt l xs kvs) (c:List Int):(PJ kvs c).getD (.int 0)=.int (l.count c):=by
 by_cases hc:c∈kvs.map (·.1)
 ·obtain ⟨p,hp,rfl⟩:=List.mem_map.mp hc
  rw[m3 h.nd hp,h.vals p hp];rfl
 ·rw[vK hc]
  have:c∉l:=λz=>hc ((h.keys c).mpr (.inl z))
  rw[List.count_eq_zero.mpr this];rfl
theorem Wt.put {l:List (List Int)} {m:List Int} (h:Wt l [] kvs):Wt (l++[m]) [] (PN kvs m (.int ((l.count m:Nat)+1:Int))):=by
 have cm:∀c,(l++[m]).count c=l.count c+if c=m then 1 else 0:=λc=>by
  rw[OB]
  by_cases e:c=m
  ·subst e;simp
  ·rw[if_neg e];simp[List.count_cons,Ka e]
 unfold PN
 by_cases hm:m∈kvs.map (·.1)
 ·rw[if_pos hm]
  have ek:(kvs.map λx=>if x.1=m then (x.1,D.int ((l.count m:Nat)+1:Int)) else x).map (·.1)=kvs.map (·.1):=fR kvs m _
  refine ⟨by rw[ek];exact h.nd,λc=>?_,λp hp=>?_,?_⟩
  ·rw[ek,h.keys c,JD,Jz]
   constructor
   ·rintro (z | z)
    ·exact .inl (.inl z)
    ·cases z
   ·rintro ((z | z) | z)
    ·exact .inl z
    ·subst z;exact (h.keys _).mp hm
    ·cases z
  ·obtain ⟨q,hq,rfl⟩:=List.mem_map.mp hp
   by_cases e:q.1=m
   ·rw[if_pos e]
    show D.int _=D.int _
    rw[cm,if_pos e,e];simp
   ·rw[if_neg e,cm,if_neg e,h.vals q hq];simp
  ·rw[Hz,HK];have:=h.len;simp at this ⊢;lia
 ·rw[if_neg hm]
  have nl:m∉l:=λz=>hm ((h.keys m).mpr (.inl z))
  refine ⟨?_,λc=>?_,λp hp=>?_,?_⟩
  ·rw[HX,OC]
   exact ⟨h.nd,by simp,λx hx y hy z=>hm (by cases List.mem_singleton.mp hy;exact (show x=m from z)▸hx)⟩
  ·rw[HX,JD,h.keys c,JD];simp
  ·rcases List.mem_append.mp hp with hp | hp
   ·have:p.1≠m:=λz=>hm (List.mem_map.mpr ⟨p,hp,z⟩)
    rw[cm,if_neg this,h.vals p hp];simp
   ·cases List.mem_singleton.mp hp
    show D.int _=D.int _
    rw[cm,if_pos rfl];simp
  ·rw[HK,HK];have:=h.len;simp at this ⊢;lia
theorem Wt.sdef {l ys:List (List Int)} {c:List Int} (h:Wt l ys kvs):Wt l (ys++[c]) (T5 kvs c 0):=by
 unfold T5
 by_cases hc:c∈kvs.map (·.1)
 ·rw[if_pos hc]
  refine ⟨h.nd,λd=>?_,h.vals,by have:=h.len;simp;lia⟩
  rw[h.keys d,JD,Jz]
  constructor
  ·rintro (z | z)
   ·exact .inl z
   ·exact .inr (.inl z)
  ·rintro (z | z | z)
   ·exact .inl z
   ·exact .inr z
   ·subst z;exact (h.keys _).mp hc
 ·rw[if_neg hc]
  have nl:c∉l:=λz=>hc ((h.keys c).mpr (.inl z))
  refine ⟨?_,λd=>?_,λp hp=>?_,by have:=h.len;simp;lia⟩
  ·rw[HX,OC]
   exact ⟨h.nd,by simp,λx hx y hy z=>hc (by cases List.mem_singleton.mp hy;exact (show x=c from z)▸hx)⟩
  ·rw[HX,JD,h.keys d,JD,or_assoc];simp
  ·rcases List.mem_append.mp hp with hp | hp
   ·exact h.vals p hp
   ·cases List.mem_singleton.mp hp
    rw[show l.count ((c,D.int 0):List Int×D).1=0 from List.count_eq_zero.mpr nl];rfl
theorem Wt.live {k:Int} {bo st:List Int} {xs:List (List Int)} (h:Wt (Q6 k xs) xs kvs):srt ((kvs.filter λp=>Sh k bo st xs p.1).map (·.1))=nx k bo st xs:=by
 refine GD ?_ λc=>?_
 ·exact List.Nodup.sublist (List.filter_sublist.map _) h.nd
 ·rw[Nm]
  constructor
  ·rintro ⟨p,hp,rfl⟩
   rw[Lp] at hp
   exact ⟨(h.keys _).mp (List.mem_map.mpr ⟨p,hp.1,rfl⟩),hp.2⟩
  ·rintro ⟨hc,hl⟩
   obtain ⟨p,hp,rfl⟩:=List.mem_map.mp ((h.keys c).mpr hc)
   exact ⟨p,List.mem_filter.mpr ⟨hp,hl⟩,rfl⟩
end My
namespace My
open PySem L2 VL
def Sp1 (m:List Int):Prop:=∃a b,m=[a,b]/\(-1<=a/\a<=1)/\(-1<=b/\b<=1)
theorem vL {k:Int} (hk:Kd k) {m:List Int} (h:m∈nr k):Sp1 m:=by
 have:(nr k).all (λm=>match m with | [a,b]=>decide ((-1<=a/\a<=1)/\(-1<=b/\b<=1)) | _=>false)=true:=by rcases hk with rfl | rfl | rfl <;> decide +kernel
 have:=List.all_eq_true.mp this m h
 split at this
 ·rename_i a b
  exact ⟨a,b,rfl,of_decide_eq_true this⟩
 ·cases this
def bt (n:Int) (j:Int):Int:=n / 2 ^ j.toNat%2
def ln3 (a b c:Int) (dy:Int):Int:=if dy=-1 then a else if dy=0 then b else c
def bq (a b c x:Int) (m:List Int):Int:=match m with
 | [dx,dy]=>bt (ln3 a b c dy) (x+dx)
 | _=>0
def DL (k a b c x:Int):Int:=((nr k).map (bq a b c x)).sum
def vM (k:Int) (bo st:List Int) (a b c x:Int):Bool:=decide (DL k a b c x∈(if bt b x=1 then st else bo))
theorem iA {i:Int} (h:0<=i):K5 i 1=i%2:=by
 unfold K5
 rw[decide_eq_true h]
 show ((i.toNat &&& (1:Int).toNat:Nat):Int)=_
 rw[show (1:Int).toNat=1 from rfl,Nat.and_one_is_mod]
 lia
theorem ox {n:Int} (h:0<=n) (j:Int):0<=n / 2 ^ j.toNat:=KR h (Int.pow_nonneg (by decide))
def AN:List D->(D->Prop)->Prop:=λds R=>∃k bo st a b c x,ds=[rl k bo st,.tup [.int a,.int b,.int c],.int x]/\Kd k/\0<=a/\0<=b/\0<=c/\1<=x/\R (.bl (vM k bo st a b c x))
def Th:D->Prop
 | .int _=>True
 | .bl _=>True
 | .non=>True
 | .str _=>True
 | .lst _=>True
 | .tup _=>True
 | _=>False
def WL:D->Bool
 | .int _=>true
 | _=>false
def Si:D->Bool
 | .tup [a,b]=>WL a&&WL b
 | _=>false
theorem yM (h:Si d=true):∃a b,d=.tup [.int a,.int b]:=by
 unfold Si at h
 split at h
 ·rename_i a b
  cases a <;> cases b <;> first | exact ⟨_,_,rfl⟩ | cases h
 ·cases h
def Vi (d:D):Prop:=Th d/\∀es,d=.tup es->∀e∈es,Th e
def pWh:List D->(D->Prop)->Prop:=λds R=>∃d,ds=[d]/\Th d/\R (.bl (WL d))
def pPair:List D->(D->Prop)->Prop:=λds R=>∃d,ds=[d]/\Vi d/\R (.bl (Si d))
theorem gT {f g:Int->Int->Bool} {va vb vc:VT} {a b c:Int} {Q:VR->List Sl->Prop} (ha:∀Q',Q' (.d (.int a)) S->va S Q') (hb:∀Q',Q' (.d (.int b)) S->vb S Q') (hc:∀Q',Q' (.d (.int c)) S->vc S Q') (h:Q (.d (.bl (f a b&&g b c))) S) :
  kK (Ws λi j=>V.bl (f i j)) (Ws λi j=>V.bl (g i j)) va vb vc S Q:=by
 unfold kK
 refine ha _ (hb _ ⟨.int a,.int b,rfl,rfl,a,b,rfl,rfl,_,rfl,?_⟩)
 cases h1:f a b with
 | true=>
  rw[if_pos rfl]
  refine hc _ ⟨.int b,.int c,rfl,rfl,b,c,rfl,rfl,?_⟩
  rw[h1,KZ] at h
  exact h
 | false=>
  rw[if_neg Hy]
  rw[h1,K4] at h
  exact h
def DM:List D->(D->Prop)->Prop:=λds R=>∃k,ds=[.int k]/\Kd k/\R (eL (nr k))
def oy:List D->(D->Prop)->Prop:=λds R=>∃k bo st al c,ds=[rl k bo st,.bl al,.int c]/\R (.bl (decide (c∈if al=true then st else bo)))
def oz:List D->(D->Prop)->Prop:=λds R=>∃k bo st,ds=[rl k bo st]/\R (.bl (decide (0∉bo)))
def qa:List D->(D->Prop)->Prop:=λds R=>∃k bo st,ds=[rl k bo st]/\0∉bo/\R .non
def GF (c:Addr) (ds:List D) (C:Addr):Prop:=C=c/\∃k bo st,ds=[rl k bo st]/\0∈bo
def qb:List D->(D->Prop)->Prop:=λds R=>∃k xs,ds=[.int k,eL xs]/\Kd k/\(∀p∈xs,Pr p)/\xs.length<=20000/\∀kvs,Wt (Q6 k xs) [] kvs->R (dc kvs)
def m4:List D->(D->Prop)->Prop:=λds R=>∃k xs,ds=[.int k,eL xs]/\Kd k/\(∀p∈xs,Pr p)/\xs.length<=20000/\∀kvs,Wt (Q6 k xs) xs kvs->R (dc kvs)
def GG:List D->(D->Prop)->Prop:=λds R=>∃k bo st xs kvs,ds=[rl k bo st,eL xs,dc kvs]/\Kd k/\(∀p∈xs,Pr p)/\xs.length<=20000/\Wt (Q6 k xs) xs kvs/\R (eL (nx k bo st xs))
def X1:List D->(D->Prop)->Prop:=λds R=>∃k bo st xs,ds=[rl k bo st,eL xs]/\Kd k/\0∉bo/\(∀p∈xs,Pr p)/\xs.length<=20000/\R (eL (nx k bo st xs))
theorem vN (ms:List Int):VL.flat (kT ms)=true:=cI ms
theorem m5 {neg:Bool}:jz neg d (.lst ds) q->jz neg d (.tup ds) q:=by
 rintro ⟨WG,h,r⟩
 rcases h with h | h
 ·cases h;exact ⟨_,.inr rfl,r⟩
 ·cases h
theorem Wt.flats {l xs:List (List Int)} (h:Wt l xs kvs):flats (kvs.map (·.2))=true:=by
 have:kvs.map (·.2)=(kvs.map λp=>((l.count p.1:Nat):Int)).map D.int:=by
  rw[Iq]
  exact IW λp hp=>h.vals p hp
 rw[this];exact cI _
theorem vO {k:Int} (hk:Kd k) {xs:List (List Int)} (hp:∀p∈xs,Pr p):∀c∈Q6 k xs,Pr c:=λc hc=>by
 obtain ⟨q,hq,hs⟩:=List.mem_flatMap.mp hc
 obtain ⟨s,RU,rfl⟩:=List.mem_map.mp hs
 obtain ⟨x,y,rfl⟩:=hp q hq
 obtain ⟨dx,dy,rfl⟩:=fK hk RU
 exact ⟨x+dx,y+dy,rfl⟩
def Q8:D->Bool
 | .tup [.int w,.int h]=>decide (1<=w)&&decide (w<=4)&&(decide (1<=h)&&decide (h<=60))
 | _=>false
theorem vP {w h:Int}:Vi (eT [w,h]):=⟨trivial,λes e x hx=>by
 cases e
 obtain ⟨n,_,rfl⟩:=List.mem_map.mp (show x∈[w,h].map D.int from hx)
 trivial⟩
def X2:List D->(D->Prop)->Prop:=λds R=>∃d,ds=[d]/\Vi d/\R (.bl (Q8 d))
def DN:List D->(D->Prop)->Prop:=λds R=>∃k bo st d,ds=[rl k bo st,d]/\0∉bo/\Vi d/\Q8 d=true/\R .non
def DO (cL cN:Addr) (ds:List D) (C:Addr):Prop:=∃k bo st d,ds=[rl k bo st,d]/\((C=cL/\0∈bo)\/(C=cN/\0∉bo/\Vi d/\Q8 d=false))
section
variable {P:Ip} {w:Ji} {K:Ho} {mg:Str->Option Ht} {base:Heap}
theorem DP {Qh:Addr} (S:Src K mg "offsets" jn) (T:QF mg) (hD:mg "OFFSETS"=some (.ref Qh)) (kD:VD K Qh rows=true):PK P w K mg base 1 "offsets" ["kind"] (PM K DM):=by
 refine bF S rJ (by walk_at "1") (by walk_at "L") λf PC A outer s H E hr=>⟨_,_,(ao (aJ (aH (ph rfl (by rfl) T.list_ (aa (CN (rows:=rows) rfl kD (eu (v:=.ref Qh) (by rfl) hD rfl) (ae 0 (pv 0)) (λ_ _=>rfl)) ah))))),?_⟩
 rintro ds R ⟨k,rfl,hk,q⟩
 walk_at "sl"
 walk_at "rd"
 refine CO rfl (vI hk) ?_
 walk_at "rd"
 exact tU rfl (dZ _) (by walk_at "rd";exact q)
theorem vQ (S:Src K mg "comes" oo) (T:QF mg):PK P w K mg base 1 "comes" ["rule","alive","count"] (PM K oy):=by
 refine bF S iu (by walk_at "3") (by walk_at "L") λf PC A outer s H E hr=>⟨_,_,(ai (gF (ae 0 (pv 0)) (bO (n:=3) rfl rfl (az (au (aq (i:=3) iu.nd rfl (HC rfl) (HC rfl))) (az (au (aq (i:=4) iu.nd rfl (HC rfl) (HC rfl))) (az (au (aq (i:=5) iu.nd rfl (HC rfl) (HC rfl))) bD)))))
  (ao (aJ (dt (iX (K:=K) rfl hr.units) jR (ae 2 (pv 2)) (iP (cH (ae 1 (pv 1))) (ae 5 (pv 5)) (ae 4 (pv 4))) (by with_unfolding_all rfl))))),?_⟩
 rintro ds R ⟨k,bo,st,al,c,rfl,q⟩
 walk_at "sl"
 unfold rl
 walk_at "rd"
 cases al with
 | true=>
  walk_at "rc"
  refine kQ (f:=D.int) cA ?_
  walk_at "rd"
  exact q
 | false=>
  walk_at "rc"
  refine kQ (f:=D.int) cA ?_
  walk_at "rd"
  exact q
theorem yN (S:Src K mg "comes_amid" eO) (T:QF mg) (Vj:PK P w K mg base 1 "offsets" ["kind"] (PM K DM)) (Vk:PK P w K mg base 1 "comes" ["rule","alive","count"] (PM K oy)):PK P w K mg base 2 "comes_amid" ["rule","lines","x"] (PM K AN):=by
 refine bF S gZ (by walk_at "3") (by walk_at "L") λf PC A outer s H E hr=>⟨_,_,(ai (aC (i:=3) gZ.nd rfl (HC rfl) (aT (uc (K:=K) rfl rfl) ue (by rfl) T.sum_ nX (aa (aH (bR (tg:=["dx","dy"]) (cs:=["lines","x"]) (ix:=[1,2]) (aI (aj eO) ["rule","lines","x","count"] (by decide +kernel)) rfl (fy (by decide) (by decide)) (by decide) (ba rfl (aW Vj hr (aa (aK rfl (ae 0 (pv 0)) af (λ_ _=>rfl)) ah))) (λ_ _ _ _=>(bO (n:=2) rfl rfl (az (au (aq (i:=0) (show (["dx","dy","lines","x"]:List Str).Nodup by decide +kernel) rfl (HC rfl) (by first | exact HC rfl | exact Jm rfl))) (az (au (aq (i:=1) (show (["dx","dy","lines","x"]:List Str).Nodup by decide +kernel) rfl (HC rfl) (by first | exact HC rfl | exact Jm rfl))) bD)))) (λ_ _ _ _=>bQ) (λ_ _ _ _=>(aA gB aE (aA eX bU (aK rfl (ae 2 (pv 2)) (aA aZ aE af (ae 1 (pv 1))) (λ_ _=>rfl)) (aA aZ aE (ae 3 (pv 3)) (ae 0 (pv 0)))) af)))) ah)))
  (ao (aJ (aW Vk hr (aa (ae 0 (pv 0)) (aa (dt iF nO (aA gB aE (aA eX bU (aK rfl (ae 1 (pv 1)) af (λ_ _=>rfl)) (ae 2 (pv 2))) af) af (br _)) (aa (ae 3 (pv 3)) ah))))))),?_⟩
 rintro ds R ⟨k,bo,st,a,b,c,x,rfl,hk,ha,hb,hc,hx,q⟩
 walk_at "sl"
 unfold rl
 walk_at "rd"
 refine ⟨k,rfl,hk,?_⟩
 walk_at "rd"
 have hl:(nr k).length<=8:=by rcases hk with rfl | rfl | rfl <;> decide
 refine comp_map (f:=λm=>.int (bq a b c x m)) (by lia) (λm hm A B hA=>?_) ?_
 ·obtain ⟨dx,dy,rfl,R5,hy1⟩:=vL hk hm
  dsimp only[aS,HH,HJ,Iz,Iu,IA]
  walk_at "rd"
  have hy2:dy=-1\/dy=0\/dy=1:=by lia
  rcases hy2 with rfl | rfl | rfl
  all_goals
   walk_at "rd"
   rw[iA (ox (by assumption) _)]
   exact hA _ rfl
 ·walk_at "rd"
  rw[show (nr k).map (λm=>D.int (bq a b c x m))=((nr k).map (bq a b c x)).map D.int by rw[Iq];rfl]
  refine ug ?_
  walk_at "rd"
  rw[iA (ox hb _)]
  walk_at "rd"
  refine ⟨k,bo,st,_,_,rfl,?_⟩
  walk_at "rd"
  unfold vM at q
  by_cases h1:bt b x=1
  ·rw[show decide (b / 2 ^ x.toNat%2=1)=true from decide_eq_true h1]
   rw[if_pos h1] at q
   exact q
  ·rw[show decide (b / 2 ^ x.toNat%2=1)=false from decide_eq_false h1]
   rw[if_neg h1] at q
   exact q
theorem GH (S:Src K mg "is_whole" jm) (T:QF mg):PK P w K mg base 1 "is_whole" ["thing"] (PM K pWh):=by
 refine bF S rH (by walk_at "1") (by walk_at "L") λf PC A outer s H E hr=>⟨_,_,(ao (aJ (dU (aT (my (K:=K) rfl) mi (by rfl) T.isinstance_ bG (aa (ae 0 (pv 0)) (aa (iO (fv (v:=.ty "int") (by rfl) T.int_ sP rfl) (λ_ _=>.ty _)) ah))) (fO (sY (aT (my (K:=K) rfl) mi (by rfl) T.isinstance_ bG (aa (ae 0 (pv 0)) (aa (iO (fv (v:=.ty "bool") (by rfl) T.bool_ oV rfl) (λ_ _=>.ty _)) ah)))))))),?_⟩
 rintro ds R ⟨d,rfl,hd,q⟩
 walk_at "sl"
 cases d with
 | int n=>walk_at "rc";exact q
 | bl b=>walk_at "rc";exact q
 | non=>walk_at "rc";exact q
 | str x=>walk_at "rc";exact q
 | lst x=>walk_at "rc";exact q
 | tup x=>walk_at "rc";exact q
 | _=>cases hd
theorem yO (S:Src K mg "is_pair" lE) (T:QF mg) (TC:PK P w K mg base 1 "is_whole" ["thing"] (PM K pWh)):PK P w K mg base 2 "is_pair" ["thing"] (PM K pPair):=by
 refine bF S vE (by walk_at "1") (by walk_at "L") λf PC A outer s H E hr=>⟨_,_,(ao (aJ (dU (aT (my (K:=K) rfl) mi (by rfl) T.isinstance_ bG (aa (ae 0 (pv 0)) (aa (iO (fv (v:=.ty "tuple") (by rfl) T.tuple_ iI rfl) (λ_ _=>.ty _)) ah))) (dU (dt iF nO (aT (i7 (K:=K) rfl) iR (by rfl) T.len_ fM (aa (ae 0 (pv 0)) ah)) af (br _)) (dU (aW TC hr (aa (aK rfl (ae 0 (pv 0)) af (λ_ _=>rfl)) ah)) (fO (aW TC hr (aa (aK rfl (ae 0 (pv 0)) af (λ_ _=>rfl)) ah)))))))),?_⟩
 rintro ds R ⟨d,rfl,⟨hd,ht⟩,q⟩
 walk_at "sl"
 cases d with
 | int n=>walk_at "rc";exact q
 | bl b=>walk_at "rc";exact q
 | non=>walk_at "rc";exact q
 | str x=>walk_at "rc";exact q
 | lst x=>walk_at "rc";exact q
 | tup x=>
  match x,ht with
  | [],_=>walk_at "rc";exact q
  | [a],_=>walk_at "rc";exact q
  | [a,b],ht=>
   walk_at "rc"
   refine ⟨a,rfl,ht _ rfl a (by simp),?_⟩
   cases ha:WL a with
   | false=>walk_at "rc";simp only[Si,ha,K4] at q;exact q
   | true=>
    walk_at "rc"
    refine ⟨b,rfl,ht _ rfl b (by simp),?_⟩
    walk_at "rc"
    simp only[Si,ha,KZ] at q
    exact q
  | a::b::c::r,_=>
   walk_at "rc"
   exact q
 | _=>cases hd
theorem vR (S:Src K mg "is_quiet" jo) (T:QF mg):PK P w K mg base 1 "is_quiet" ["rule"] (PM K oz):=by
 refine bF S rK (by walk_at "1") (by walk_at "L") λf PC A outer s H E hr=>⟨_,_,(ao (aJ (dt (qJ (K:=K) rfl hr.units) jR af (aK rfl (ae 0 (pv 0)) af (λ_ _=>rfl)) (by with_unfolding_all rfl)))),?_⟩
 rintro ds R ⟨k,bo,sy,rfl,q⟩
 unfold rl
 walk_at "sl"
 walk_at "rc"
 by_cases h:0∈bo
 ·refine m5 (FT (f:=D.int) (l:=bo) cA h ?_)
  walk_at "rc"
  rw[decide_eq_false (by simpa using h)] at q
  exact q
 ·refine m5 (FS (f:=D.int) (l:=bo) cA h ?_)
  walk_at "rc"
  rw[decide_eq_true h] at q
  exact q
theorem yP (S:Src K mg "refuse_loud" cV) (T:QF mg) (Vl:PK P w K mg base 1 "is_quiet" ["rule"] (PM K oz)):PK P w K mg base 2 "refuse_loud" ["rule"] (PM K qa):=by
 refine bF S gp (by walk_at "1") (by walk_at "L") λf PC A outer s H E hr=>⟨_,_,(ao (b8 (fN (cH (aW Vl hr (aa (ae 0 (pv 0)) ah)))) (ao gb) bg)),?_⟩
 rintro ds R ⟨k,bo,st,rfl,h0,q⟩
 walk_at "sl"
 walk_at "rd"
 refine ⟨k,bo,st,rfl,?_⟩
 rw[decide_eq_true h0]
 walk_at "rc"
 exact q
theorem vS {Pw:Addr} (S:Src K mg "refuse_loud" cV) (T:QF mg) (Vl:PK P w K mg base 1 "is_quiet" ["rule"] (PM K oz)) (RQ:mg "Loud"=some (.ref Pw))
  (x_Loud:Lq K Pw [.type "ValueError",.type "Exception",.type "BaseException",.type "object"] "ValueError.__new__"=true):ja P w K mg base 2 "refuse_loud" ["rule"] (GF Pw):=by
 refine pL S gp (by walk_at "1") (by walk_at "L") λf PC A outer s H E hr TH=>⟨_,_,(pK (fN (cH (aW Vl hr (aa (ae 0 (pv 0)) ah)))) (gi TH Kb x_Loud RQ rfl)
  jb),?_⟩
 rintro ds C ⟨rfl,k,bo,st,rfl,h0⟩
 walk_at "sl"
 walk_at "rd"
 refine ⟨k,bo,st,rfl,?_⟩
 rw[decide_eq_false (by simpa using h0)]
 walk_at "rc"
 exact if_pos rfl▸trivial
theorem rL (S:Src K mg "counts" lF) (T:QF mg) (Vj:PK P w K mg base 1 "offsets" ["kind"] (PM K DM)):PK P w K mg base 2 "counts" ["kind","picture"] (PM K qb):=by
 refine bF S cW (by walk_at "2") (by walk_at "L") λf PC A outer s H E hr=>⟨_,_,(ai (aC (i:=2) cW.nd rfl (HC rfl) (aW Vj hr (aa (ae 0 (pv 0)) ah)))
  (ai (fC (λ_ h=>bN (i:=3) cW.nd rfl (HC rfl) h) kM)
  (ai (cj IY rfl (ba rfl (ae 1 (pv 1))) (bO (n:=2) rfl rfl (az (au (aq (i:=4) cW.nd rfl (HC rfl) (HC rfl))) (az (au (aq (i:=5) cW.nd rfl (HC rfl) (HC rfl))) bD))) (ao (cj IY rfl (ba rfl (ae 2 (pv 2))) (bO (n:=2) rfl rfl (az (au (aq (i:=6) cW.nd rfl (HC rfl) (HC rfl))) (az (au (aq (i:=7) cW.nd rfl (HC rfl) (HC rfl))) bD))) (ai (aC (i:=8) cW.nd rfl (HC rfl) (aB (aa (aA aZ aE (ae 4 (pv 4)) (ae 6 (pv 6))) (aa (aA aZ aE (ae 5 (pv 5)) (ae 7 (pv 7))) ah))))
  (ao (gh 3 rfl hr.units (pv 3) (aA aZ aE (xR rfl hr.units (ae 3 (pv 3)) (ae 8 (pv 8))) af) (ae 8 (pv 8))))))))
  (ao (aJ (aL (ae 3 (pv 3)))))))),?_⟩
 rintro ds R ⟨k,xs,rfl,hk,hp,hl,q⟩
 walk_at "sl"
 walk_at "rd"
 refine ⟨k,rfl,hk,?_⟩
 walk_at "rd"
 have nl:=ow hk
 have bl:=lL k
 refine du (λi S=>∃kvs s4 s5 s6 s7 s8,Wt (Q6 k (xs.take i)) [] kvs/\S=[.val (.int k),.val (eL xs),.val (eL (nr k)),od kvs,s4,s5,s6,s7,s8]) ⟨[],_,_,_,_,_,⟨by simp,by simp[Q6],by simp,by simp⟩,rfl⟩ ?_ ?_
 ·rintro i d S2 e ⟨kvs,s4,s5,s6,s7,s8,tc,rfl⟩
  obtain ⟨p,h1,rfl,hm,ht⟩:=aF e
  have hi:i<xs.length:=(List.getElem?_eq_some_iff.mp h1).1
  obtain ⟨px,py,rfl⟩:=hp p hm
  show VQ 2 _ (.tup [.int px,.int py]) _ _
  walk_at "rd"
  refine du (λj S=>∃kvs s6 s7 s8,Wt (Q6 k (xs.take i)++((nr k).take j).map (ad [px,py])) [] kvs/\S=[.val (.int k),.val (eL xs),.val (eL (nr k)),od kvs,.val (.int px),.val (.int py),s6,s7,s8]) ⟨kvs,_,_,_,by simpa using tc,rfl⟩ ?_ ?_
  ·rintro j d S3 e' ⟨kvs,s6,s7,s8,tc,rfl⟩
   obtain ⟨m,h2,rfl,hm',ht'⟩:=aF e'
   obtain ⟨dx,dy,rfl⟩:=fK hk hm'
   show VQ 2 _ (.tup [.int dx,.int dy]) _ _
   walk_at "rd"
   refine Da (kvs:=kvs) (ms:=[px+dx,py+dy]) rfl rfl (tc.get _) ?_
   walk_at "rd"
   have t2:=tc.len
   have b1:=bl (xs.take i)
   have l1:(xs.take i).length<=20000:=by rw[JU];lia
   have l2:(xs.take i).length*(nr k).length<=20000*8:=LL l1 nl
   rw[HK,Hz,JU,J5] at t2
   refine e9 (kvs:=kvs) (ms:=[px+dx,py+dy]) rfl rfl (by lia) ?_
   refine ⟨_,_,_,_,?_,rfl⟩
   have:=tc.put (m:=ad [px,py] [dx,dy])
   rw[ht',HX,<- HU]
   exact this
  ·rintro S3 ⟨kvs,s6,s7,s8,tc,rfl⟩
   refine ⟨kvs,_,_,_,_,_,?_,rfl⟩
   rw[ht]
   simpa [Q6] using tc
 ·rintro S2 ⟨kvs,s4,s5,s6,s7,s8,tc,rfl⟩
  rw[Hz,I0] at tc
  walk_at "rd"
  exact q kvs tc
theorem oA (S:Src K mg "watched" jq) (T:QF mg) (UC:PK P w K mg base 2 "counts" ["kind","picture"] (PM K qb)):PK P w K mg base 3 "watched" ["kind","picture"] (PM K m4):=by
 refine bF S gO (by walk_at "2") (by walk_at "L") λf PC A outer s H E hr=>⟨_,_,(ai (fC (λ_ h=>bN (i:=2) gO.nd rfl (HC rfl) h) (Gu UC hr (aa (ae 0 (pv 0)) (aa (ae 1 (pv 1)) ah))))
  (ai (cj IY rfl (ba rfl (ae 1 (pv 1))) (au (aq (i:=3) gO.nd rfl (HC rfl) (HC rfl))) (ao (cz (ye 2 rfl hr.units (pv 2) (ae 3 (pv 3))))))
  (ao (aJ (aL (ae 2 (pv 2))))))),?_⟩
 rintro ds R ⟨k,xs,rfl,hk,hp,hl,q⟩
 walk_at "sl"
 walk_at "rd"
 refine ⟨k,xs,rfl,hk,hp,hl,λkvs tc=>⟨kvs,rfl,tc.flats,?_⟩⟩
 walk_at "rd"
 have nl:=ow hk
 have b1:=lL k xs
 have l2:xs.length*(nr k).length<=20000*8:=LL hl nl
 refine du (λi S=>∃kvs s3,Wt (Q6 k xs) (xs.take i) kvs/\S=[.val (.int k),.val (eL xs),od kvs,s3]) ⟨kvs,_,by simpa using tc,rfl⟩ ?_ ?_
 ·rintro i d S2 e ⟨kvs,s3,tc,rfl⟩
  obtain ⟨p,h1,rfl,hm,ht⟩:=aF e
  have hi:i<xs.length:=(List.getElem?_eq_some_iff.mp h1).1
  walk_at "rd"
  have t2:=tc.len
  rw[JU] at t2
  refine yf (kvs:=kvs) (ms:=p) rfl rfl (by lia) (tc.get _) ?_
  walk_at "rd"
  exact ⟨_,_,by rw[ht];exact tc.sdef,rfl⟩
 ·rintro S2 ⟨kvs,s3,tc,rfl⟩
  rw[Hz,I0] at tc
  walk_at "rd"
  exact q kvs tc
theorem GI (S:Src K mg "living_next" cX) (T:QF mg) (Vk:PK P w K mg base 1 "comes" ["rule","alive","count"] (PM K oy)):PK P w K mg base 2 "living_next" ["rule","picture","tally"] (PM K GG):=by
 refine bF S gq (by walk_at "3") (by walk_at "L") λf PC A outer s H E hr=>⟨_,_,(ai (fC (λ_ h=>bN (i:=3) gq.nd rfl (Jm rfl) h) (kY (tg:=["cell"]) (cs:=[]) (ix:=[]) rfl hr.units (aI (aj cX) ["rule","picture","tally","living"] (by decide +kernel)) rfl (aO (by decide)) (by decide) (ba rfl (ae 1 (pv 1))) (λ_ _ _ _=>(au (aq (i:=0) (show (["cell"]:List Str).Nodup by decide +kernel) rfl (HC rfl) (by first | exact HC rfl | exact Jm rfl)))) (λ_ _ _ _=>bQ) (λ_ _ _ _=>(ae 0 (pv 0))) (λ_ _ _ _=>aX)))
  (ao (aJ (aH (mS rfl rfl (by rfl) T.sorted_ gJ (aa (aH (bR (tg:=["cell","count"]) (cs:=["rule","living"]) (ix:=[0,3]) (aI (aj cX) ["rule","picture","tally","living"] (by decide +kernel)) rfl (fy (by decide) (by decide)) (by decide) (uW (ae 2 (pv 2))) (λ_ _ _ _=>(bO (n:=2) rfl rfl (az (au (aq (i:=0) (show (["cell","count","rule","living"]:List Str).Nodup by decide +kernel) rfl (HC rfl) (by first | exact HC rfl | exact Jm rfl))) (az (au (aq (i:=1) (show (["cell","count","rule","living"]:List Str).Nodup by decide +kernel) rfl (HC rfl) (by first | exact HC rfl | exact Jm rfl))) bD)))) (λ_ _ _ _=>(eJ (cH (aW Vk hr (aa (ae 2 (pv 2)) (aa (dt (pG (K:=K) rfl hr.units) mE (ae 0 (pv 0)) (ae 3 (pv 3)) (by with_unfolding_all rfl)) (aa (ae 1 (pv 1)) ah))))))) (λ_ _ _ _=>(aL (ae 0 (pv 0)))))) ah)))))),?_⟩
 rintro ds R ⟨k,bo,st,xs,kvs,rfl,hk,hp,hl,tc,q⟩
 walk_at "sl"
 walk_at "rd"
 have nl:=ow hk
 have b1:=lL k xs
 have l2:xs.length*(nr k).length<=20000*8:=LL hl nl
 have t2:=tc.len
 refine fE (xs:=xs) (en:=eT) (ky:=λp=>p) (f:=λ_=>.bl true) (by lia) (λp hp A B hA=>?_) ?_
 ·dsimp only[aS,HH,HJ,Iz,Iu,IA]
  walk_at "rc"
  exact hA _ rfl
 ·walk_at "rd"
  refine cq (xs:=kvs) (en:=λx=>.tup [kT x.1,x.2]) (f:=λx=>eT x.1) (p:=λx=>Sh k bo st xs x.1) (by lia) (λc hc A B hA hB=>?_) ?_
  ·dsimp only[aS,HH,HJ,Iz,Iu,IA]
   rw[tc.vals c hc]
   have X0:decide (c.1∈(xs.foldl (λkvs x=>PN kvs x (D.bl true)) []).map (·.1))=decide (c.1∈xs):=by
    congr 1
    exact propext ((jX (ky:=λp=>p) (f:=λ_=>D.bl true) xs []).trans (by simp))
   walk_at "rd"
   refine i8 (ms:=c.1) rfl rfl ?_
   walk_at "rd"
   refine ⟨k,bo,st,_,_,rfl,?_⟩
   rw[if_neg Hy,X0]
   change tQ _ (.d (.bl (Sh k bo st xs c.1))) _
   cases hv:Sh k bo st xs c.1 with
   | true=>walk_at "rc";refine pz (vN _) ?_;walk_at "rc";exact hA _ rfl hv
   | false=>walk_at "rc";exact hB _ rfl hv
  ·walk_at "rd"
   rw[show ((kvs.filter λx=>Sh k bo st xs x.1).map λx=>eT x.1)=((kvs.filter λx=>Sh k bo st xs x.1).map (·.1)).map eT by rw[Iq];rfl]
   walk_at "rd"
   refine ji (mss:=(kvs.filter λx=>Sh k bo st xs x.1).map (·.1)) rfl (λms hms=>?_) ?_
   ·obtain ⟨x,hx,rfl⟩:=List.mem_map.mp hms
    have Q5:=(tc.keys x.1).mp (List.mem_map.mpr ⟨x,(List.mem_filter.mp hx).1,rfl⟩)
    obtain ⟨a,b,e⟩:=Q5.elim (vO hk hp x.1) (hp x.1)
    rw[e];exact List.cons_ne_nil _ _
   ·rw[tc.live]
    walk_at "rd"
    exact q
theorem GJ (S:Src K mg "next_turn" gP) (T:QF mg) (TF:PK P w K mg base 2 "refuse_loud" ["rule"] (PM K qa)) (UD:PK P w K mg base 2 "living_next" ["rule","picture","tally"] (PM K GG)) (UE:PK P w K mg base 3 "watched" ["kind","picture"] (PM K m4)):PK P w K mg base 4 "next_turn" ["rule","picture"] (PM K X1):=by
 refine bF S oq (by walk_at "2") (by walk_at "L") λf PC A outer s H E hr=>⟨_,_,(ai (cz (aW TF hr (aa (ae 0 (pv 0)) ah)))
  (ao (aJ (aW UD hr (aa (ae 0 (pv 0)) (aa (ae 1 (pv 1)) (aa (aW UE hr (aa (aK rfl (ae 0 (pv 0)) af (λ_ _=>rfl)) (aa (ae 1 (pv 1)) ah))) ah))))))),?_⟩
 rintro ds R ⟨k,bo,st,xs,rfl,hk,h0,hp,hl,q⟩
 walk_at "sl"
 walk_at "rd"
 refine ⟨k,bo,st,rfl,h0,?_⟩
 unfold rl
 walk_at "rd"
 refine ⟨k,xs,rfl,hk,hp,hl,λkvs tc=>?_⟩
 walk_at "rd"
 refine ⟨k,bo,st,xs,kvs,rfl,hk,hp,hl,tc,?_⟩
 walk_at "rd"
 exact q
theorem GK (S:Src K mg "is_rest_size" ft) (T:QF mg) (UF:PK P w K mg base 2 "is_pair" ["thing"] (PM K pPair)) {t1 t2:Tok} (g_MOST_COLUMNS:mg "MOST_COLUMNS"=some (.int 4 t1)) (g_MOST_ROWS:mg "MOST_ROWS"=some (.int 60 t2)):PK P w K mg base 3 "is_rest_size" ["thing"] (PM K X2):=by
 refine bF S lG (by walk_at "1") (by walk_at "L") λf PC A outer s H E hr=>⟨_,_,(ao (aJ (dU (aW UF hr (aa (ae 0 (pv 0)) ah)) (dU (d7 gX aE gX aE af (aK rfl (ae 0 (pv 0)) af (λ_ _=>rfl)) (iO (eu (v:=.int 4) (by rfl) g_MOST_COLUMNS ⟨_,rfl⟩) (λ_ _=>.int _))) (fO (d7 gX aE gX aE af (aK rfl (ae 0 (pv 0)) af (λ_ _=>rfl)) (iO (eu (v:=.int 60) (by rfl) g_MOST_ROWS ⟨_,rfl⟩) (λ_ _=>.int _)))))))),?_⟩
 rintro ds R ⟨d,rfl,hd,q⟩
 walk_at "sl"
 walk_at "rd"
 refine ⟨d,rfl,hd,?_⟩
 cases hp:Si d with
 | false=>
  walk_at "rc"
  have e:Q8 d=false:=by
   unfold Q8
   split
   ·cases hp
   ·rfl
  rw[e] at q
  exact q
 | true=>
  obtain ⟨a,b,rfl⟩:=yM hp
  walk_at "rc"
  refine gT (λ_ q=>j_c q) (λ_ q=>by walk_at "rc";exact q) (λ_ q=>j_c q) ?_
  simp only[Q8] at q
  cases h1:(decide (1<=a)&&decide (a<=4)) with
  | false=>walk_at "rc";rw[h1,K4] at q;exact q
  | true=>
   rw[h1,KZ] at q
   walk_at "rc"
   refine gT (λ_ q=>j_c q) (λ_ q=>by walk_at "rc";exact q) (λ_ q=>j_c q) ?_
   walk_at "rc"
   exact q
theorem DQ (S:Src K mg "refuse_no_rests" bX) (T:QF mg) (TF:PK P w K mg base 2 "refuse_loud" ["rule"] (PM K qa)) (Vm:PK P w K mg base 3 "is_rest_size" ["thing"] (PM K X2)):PK P w K mg base 4 "refuse_no_rests" ["rule","size"] (PM K DN):=by
 refine bF S eS (by walk_at "2") (by walk_at "L") λf PC A outer s H E hr=>⟨_,_,(ai (cz (aW TF hr (aa (ae 0 (pv 0)) ah)))
  (ao (b8 (fN (cH (aW Vm hr (aa (ae 1 (pv 1)) ah)))) (ao gb) bg))),?_⟩
 rintro ds R ⟨k,bo,st,d,rfl,h0,hd,hs,q⟩
 walk_at "sl"
 walk_at "rd"
 refine ⟨k,bo,st,rfl,h0,?_⟩
 walk_at "rd"
 refine ⟨d,rfl,hd,?_⟩
 rw[hs]
 walk_at "rc"
 exact q
theorem yQ {Pw Pp:Addr} (S:Src K mg "refuse_no_rests" bX) (T:QF mg) (TF:PK P w K mg base 2 "refuse_loud" ["rule"] (PM K qa)) (EX_refuse_loud:ja P w K mg base 2 "refuse_loud" ["rule"] (GF Pw)) (Vm:PK P w K mg base 3 "is_rest_size" ["thing"] (PM K X2)) (Q9:mg "NoSize"=some (.ref Pp))
  (x_NoSize:Lq K Pp [.type "ValueError",.type "Exception",.type "BaseException",.type "object"] "ValueError.__new__"=true):ja P w K mg base 4 "refuse_no_rests" ["rule","size"] (DO Pw Pp):=by
 refine pL S eS (by walk_at "2") (by walk_at "L") λf PC A outer s H E hr TH=>⟨_,_,(vm (kR TH EX_refuse_loud rfl hr (aa (ae 0 (pv 0)) ah)) (nZ (cz (aW TF hr (aa (ae 0 (pv 0)) ah))) (pK (fN (cH (aW Vm hr (aa (ae 1 (pv 1)) ah)))) (gi TH Kb x_NoSize Q9 rfl)
  jb))),?_⟩
 rintro ds C ⟨k,bo,st,d,rfl,h | h⟩
 ·obtain ⟨rfl,h0⟩:=h
  walk_at "sl"
  refine .inl ?_
  walk_at "rd"
  exact ⟨_,_,rfl,⟨rfl,k,bo,st,rfl,h0⟩,rfl⟩
 ·obtain ⟨rfl,h0,hd,hs⟩:=h
  walk_at "sl"
  refine .inr ?_
  walk_at "rd"
  refine ⟨k,bo,st,rfl,h0,?_⟩
  walk_at "rd"
  refine ⟨d,rfl,hd,?_⟩
  rw[hs]
  walk_at "rc"
  exact if_pos rfl▸trivial
end
end My
namespace My
open PySem L2 VL
theorem et {p:List Int×D} {ps:List (List Int×D)} {c:List Int}:PJ (p::ps) c=if p.1=c then some p.2 else PJ ps c:=by
 unfold PJ
 by_cases h:p.1=c <;> simp[Jw,h]
theorem j7 {c m:List Int}:∀{kvs:List (List Int×D)},m∉kvs.map (·.1)->PJ (kvs++[(m,d)]) c=if c=m then some d else PJ kvs c
 | [],_=>by
  rw[IA,et]
  by_cases h:c=m
  ·subst h;simp
  ·have:¬ m=c:=λz=>h z.symm
   simp[h,this,PJ]
 | p::ps,h=>by
  have h1:m≠p.1:=λz=>h (by simp[z])
  rw[Iu,et,et,j7 (kvs:=ps) λz=>h (by simp at z ⊢;exact .inr z)]
  by_cases e:c=m
  ·subst e;simp[Ka h1]
  ·simp[e]
theorem j8 {c m:List Int}:∀{kvs:List (List Int×D)},PJ (kvs.map λx=>if x.1=m then (x.1,d) else x) c=if c=m/\m∈kvs.map (·.1) then some d else PJ kvs c
 | []=>by simp[PJ]
 | p::ps=>by
  rw[HJ,et,et,j8 (kvs:=ps)]
  by_cases e:p.1=m
  ·rw[if_pos e]
   by_cases h:c=m
   ·subst h;simp[e]
   ·have:¬ p.1=c:=λz=>h (z.symm.trans e)
    simp[h,this]
  ·rw[if_neg e]
   by_cases h:p.1=c
   ·have:¬ c=m:=λz=>e (h.trans z)
    simp[h,this]
   ·have e':¬ m=p.1:=λz=>e z.symm
    rw[if_neg h,if_neg h]
    simp only[HJ,JO,e',false_or]
theorem js {m c:List Int}:PJ (PN kvs m d) c=if c=m then some d else PJ kvs c:=by
 unfold PN
 split
 ·next h=>
  rw[j8]
  by_cases e:c=m <;> simp[e,h]
 ·next h=>exact j7 h
theorem gU {α:Type} {ky:α->List Int} {f:α->D} {c:List Int}:∀(xs:List α) (kvs:List (List Int×D)),(∀x∈xs,ky x=c->f x=d)->(c∈xs.map ky\/PJ kvs c=some d)->PJ (xs.foldl (λkvs x=>PN kvs (ky x) (f x)) kvs) c=some d
 | [],kvs,_,h=>by rcases h with h | h;exact (nomatch h);exact h
 | x::xs,kvs,hf,h=>by
  rw[Lk]
  refine gU xs _ (λy hy=>hf y (Ic _ hy)) ?_
  rw[js]
  by_cases e:c=ky x
  ·rw[if_pos e]
   exact .inr (congrArg some (hf x Hx e.symm))
  ·rw[if_neg e]
   rcases h with h | h
   ·rcases List.mem_cons.mp h with h | h
    ·exact (e h).elim
    ·exact .inl h
   ·exact .inr h
theorem lM {m:List Int}:(PN kvs m d).length<=kvs.length+1:=by
 unfold PN
 split <;> simp
def am (k:Int) (bo st:List Int) (a b c:Int):Int:=if vM k bo st a b c 1=true then 1 else 0
def UG:List (List Int):=(HF 8).flatMap λ(a:Nat)=>(HF 8).flatMap λ(b:Nat)=>(HF 8).map λ(c:Nat)=>[0+(a:Int),0+(b:Int),0+(c:Int)]
def am3 (k:Int) (bo st:List Int) (m:List Int):Int:=am k bo st (m.getD 0 0) (m.getD 1 0) (m.getD 2 0)
def Am (f:Int->Int->Int->Int) (kvs:List (List Int×D)):Prop:=∀a b c:Int,0<=a->a<8->0<=b->b<8->0<=c->c<8->PJ kvs [a,b,c]=some (.int (f a b c))
theorem yR {a b c:Int} (h1:0<=a) (h2:a<8) (h3:0<=b) (h4:b<8) (h5:0<=c) (h6:c<8):[a,b,c]∈UG:=
 List.mem_flatMap.mpr ⟨a.toNat,List.mem_range.mpr (by lia),List.mem_flatMap.mpr ⟨b.toNat,List.mem_range.mpr (by lia),List.mem_map.mpr ⟨c.toNat,List.mem_range.mpr (by lia),by
  rw[show (0:Int)+(a.toNat:Int)=a by lia,show (0:Int)+(b.toNat:Int)=b by lia,show (0:Int)+(c.toNat:Int)=c by lia]⟩⟩⟩
theorem DR {m:List Int} (h:m∈UG):∃a b c:Int,m=[a,b,c]/\0<=a/\a<8/\0<=b/\b<8/\0<=c/\c<8:=by
 obtain ⟨a,ha,h⟩:=List.mem_flatMap.mp h
 obtain ⟨b,hb,h⟩:=List.mem_flatMap.mp h
 obtain ⟨c,hc,rfl⟩:=List.mem_map.mp h
 have:=List.mem_range.mp ha
 have:=List.mem_range.mp hb
 have:=List.mem_range.mp hc
 exact ⟨_,_,_,rfl,by lia,by lia,by lia,by lia,by lia,by lia⟩
def AO:List D->(D->Prop)->Prop:=λds R=>∃k bo st,ds=[rl k bo st]/\Kd k/\∀kvs,Am (am k bo st) kvs->R (dc kvs)
def w3 (n:Int) (x:Nat):Int:=n / 2 ^ x%8
def fa (c:Nat) (b:Bool) (xs:List Int):List Int:=if b=true then [0,2 ^ c].flatMap λm=>xs.map λl=>l+m else xs
def fb (f:Int->Int->Int->Int) (ab ro wa:Int) (c:Nat) (xs:List Int):List Int:=if 2<=c then xs.filter λl=>decide (f (w3 ab (c-2)) (w3 ro (c-2)) (l / 2 ^ (c-2))=wa / 2 ^ (c-1)%2) else xs
def below (f:Int->Int->Int->Int) (ab ro wa:Int) (fr:List Bool):Nat->List Int
 | 0=>[0]
 | c+1=>fb f ab ro wa c (fa c (fr.getD c false) (below f ab ro wa fr c))
theorem two_pos (c:Nat):(0:Int)<2 ^ c:=Int.pow_pos (by decide)
theorem GL {c:Nat} {b:Bool} {xs:List Int} (h:∀l∈xs,0<=l/\l<2 ^ c):∀l∈fa c b xs,0<=l/\l<2 ^ (c+1):=λl hl=>by
 have:=two_pos c
 unfold fa at hl
 split at hl
 ·obtain ⟨m,hm,hl⟩:=List.mem_flatMap.mp hl
  obtain ⟨z,hz,rfl⟩:=List.mem_map.mp hl
  have:=h z hz
  have:m=0\/m=2 ^ c:=by simpa using hm
  rw[Nn]
  rcases this with rfl | rfl <;> lia
 ·have:=h l hl
  rw[Nn]
  lia
theorem vT {c:Nat} {b:Bool} {xs:List Int}:(fa c b xs).length<=2*xs.length:=by
 unfold fa
 split
 ·simp only[JE,LW,HK,Hz,J5];lia
 ·lia
theorem lN {f:Int->Int->Int->Int} {ab ro wa:Int} {fr:List Bool}:∀c,(∀l∈below f ab ro wa fr c,0<=l/\l<2 ^ c)/\(below f ab ro wa fr c).length<=2 ^ c
 | 0=>⟨λl hl=>by rw[List.mem_singleton.mp hl];decide,HA 1⟩
 | c+1=>by
  obtain ⟨h1,h2⟩:=lN (f:=f) (ab:=ab) (ro:=ro) (wa:=wa) (fr:=fr) c
  have h3:=vT (c:=c) (b:=fr.getD c false) (xs:=below f ab ro wa fr c)
  have h4:=GL (b:=fr.getD c false) h1
  unfold below fb
  split
  ·refine ⟨λl hl=>h4 l (List.mem_filter.mp hl).1,Jf (JS _ _) (Jf h3 ?_)⟩
   rw[Np];lia
  ·exact ⟨h4,Jf h3 (by rw[Np];lia)⟩
def GM:List D->(D->Prop)->Prop:=λds R=>∃(f:Int->Int->Int->Int) (kvs:List (List Int×D)) (ab ro wa:Int) (fr:List Bool),ds=[dc kvs,.int ab,.int ro,.int wa,.lst (fr.map D.bl)]/\Am f kvs/\0<=ab/\0<=ro/\0<=wa/\fr.length<=8/\R (.lst ((below f ab ro wa fr fr.length).map .int))
theorem yS (i:Nat) (xs:List Int):([0,1*2 ^ ((i:Int)).toNat].flatMap λm=>xs.map λl=>D.int (l+m))=(fa i true xs).map D.int:=by
 unfold fa
 rw[if_pos rfl,MV,O1,Jh]
 simp only[Iq]
 rfl
theorem DS (fr:List Bool):Su (fr.map D.bl)=(HF fr.length).map λ(i:Nat)=>D.tup [.int i,.bl (fr.getD i false)]:=by
 unfold Su
 rw[Hz]
 refine IW λi hi=>?_
 have:=List.mem_range.mp hi
 rw[Im,Im,HQ,Hu this]
 rfl
theorem yT {fr:List Bool} {i:Nat} (e:((HF fr.length).map λ(i:Nat)=>D.tup [.int i,.bl (fr.getD i false)])[i]?=some d):∃x,(i<fr.length/\fr.getD i false=x)/\d=.tup [.int i,.bl x]:=by
 rw[HQ] at e
 cases h:(HF fr.length)[i]? with
 | none=>rw[h] at e;cases e
 | some j=>
  rw[h] at e
  cases e
  obtain ⟨hi,h⟩:=List.getElem?_eq_some_iff.mp h
  rw[Of] at h
  subst h
  rw[ID] at hi
  exact ⟨_,⟨hi,rfl⟩,rfl⟩
theorem vU {b:Bool} {t u:P5} {W:bh} (P:List Sl->Prop) (fin:∀S',P S'->W.nx S') (h1:∀nx,(∀S',P S'->nx S')->b=true->t ⟨nx,W.rt,W.bk,W.ct⟩ S) (h2:∀nx,(∀S',P S'->nx S')->b=false->u ⟨nx,W.rt,W.bk,W.ct⟩ S):Tq t u W b S:=
 tK (λh=>h1 W.nx fin h) λh=>h2 W.nx fin h
theorem j9 {i:Int} (h:0<=i):K5 i 7=i%8:=by
 unfold K5
 rw[decide_eq_true h]
 show ((i.toNat &&& (7:Int).toNat:Nat):Int)=_
 rw[show (7:Int).toNat=2 ^ 3-1 from rfl,Nat.and_two_pow_sub_one_eq_mod]
 lia
section
variable {P:Ip} {w:Ji} {K:Ho} {mg:Str->Option Ht} {base:Heap}
theorem yU (S:Src K mg "centres" fq) (T:QF mg) (UH:PK P w K mg base 2 "comes_amid" ["rule","lines","x"] (PM K AN)):PK P w K mg base 3 "centres" ["rule"] (PM K AO):=by
 refine bF S j6 (by walk_at "1") (by walk_at "L") λf PC A outer s H E hr=>⟨_,_,(ai (rD (ii:=1) (tg:=["above","row","below"]) (cs:=[]) (ix:=[]) j6.nd rfl (HC rfl) (HC rfl) (aI (aj fq) ["rule","nines"] (by decide +kernel)) rfl (by decide) (by decide) (b6 rfl T.range (aa af ah)) (λ_ _ _ _=>(aq (i:=0) (show (["above","row","below"]:List Str).Nodup by decide +kernel) rfl (HC rfl) (by first | exact HC rfl | exact Jm rfl))) (λ_ _ _ _=>(b6 rfl T.range (aa af ah))) (λ_ _ _ _=>(aq (i:=1) (show (["above","row","below"]:List Str).Nodup by decide +kernel) rfl (HC rfl) (by first | exact HC rfl | exact Jm rfl))) (λ_ _ _ _=>(b6 rfl T.range (aa af ah))) (λ_ _ _ _=>(aq (i:=2) (show (["above","row","below"]:List Str).Nodup by decide +kernel) rfl (HC rfl) (by first | exact HC rfl | exact Jm rfl))) (λ_ _ _ _=>(aB (aa (aL (ae 0 (pv 0))) (aa (aL (ae 1 (pv 1))) (aa (aL (ae 2 (pv 2))) ah))))))
  (ao (aJ (kO (kY (tg:=["nine"]) (cs:=["rule"]) (ix:=[0]) rfl hr.units (aI (aj fq) ["rule","nines"] (by decide +kernel)) rfl (aO (by decide)) (by decide) (ba rfl (ae 1 (pv 1))) (λ_ _ _ _=>(au (aq (i:=0) (show (["nine","rule"]:List Str).Nodup by decide +kernel) rfl (HC rfl) (by first | exact HC rfl | exact Jm rfl)))) (λ_ _ _ _=>bQ) (λ_ _ _ _=>(ae 0 (pv 0))) (λ_ _ _ _=>(iP (cH (aW UH hr (aa (ae 1 (pv 1)) (aa (ae 0 (pv 0)) (aa af ah))))) af af))))))),?_⟩
 rintro ds R ⟨k,bo,st,rfl,hk,q⟩
 walk_at "sl"
 walk_at "rd"
 refine rE (xs:=HF 8) (en:=λ(i:Nat)=>.int (0+(i:Int))) (r:=λ(a:Nat)=>(HF 8).flatMap λ(b:Nat)=>(HF 8).map λ(c:Nat)=>eT [0+(a:Int),0+(b:Int),0+(c:Int)]) 64 (λa _=>by rw[Mc];simp;decide) (by simp) (λa ha zs B hz hB=>?_) ?_
 ·dsimp only[aS,HH,HJ,Iz,Iu,IA,Ig]
  rw[ID] at hz
  refine DF ?_
  walk_at "rd"
  refine p9 (xs:=HF 8) (en:=λ(i:Nat)=>.int (0+(i:Int))) (r:=λ(b:Nat)=>(HF 8).map λ(c:Nat)=>eT [0+(a:Int),0+(b:Int),0+(c:Int)]) (by simp) 8 (λb _=>by simp) (λb hb zs2 B2 Ut hB2=>?_) (hB _ rfl)
  rw[ID] at Ut
  refine DF ?_
  walk_at "rd"
  refine p9 (xs:=HF 8) (en:=λ(i:Nat)=>.int (0+(i:Int))) (r:=λ(c:Nat)=>[eT [0+(a:Int),0+(b:Int),0+(c:Int)]]) (by simp) 1 (λb _=>by simp) (λc hc zs3 B3 V7 hB3=>?_) ?_
  ·rw[ID] at V7
   refine DG (by lia) ?_
   walk_at "rd"
   exact yF (hB3 _ rfl)
  ·rw[<- N4]
   exact hB2 _ rfl
 ·rw[show (OO (λ(a:Nat)=>OO (λ(b:Nat)=>OT (λ(c:Nat)=>eT [0+(a:Int),0+(b:Int),0+(c:Int)]) (HF 8)) (HF 8)) (HF 8))=UG.map eT by unfold UG;simp only[MV,Iq];rfl]
  walk_at "rd"
  refine fE (xs:=UG) (ky:=id) (f:=λm=>.int (am3 k bo st m)) (by rw[show UG.length=512 by decide +kernel];decide) (λm hm A B hA=>?_) ?_
  ·obtain ⟨a,b,c,rfl,h1,h2,h3,h4,h5,h6⟩:=DR hm
   dsimp only[aS,HH,HJ,Iz,Iu,IA]
   walk_at "rd"
   refine ⟨k,bo,st,a,b,c,1,rfl,hk,h1,h3,h5,by decide,?_⟩
   walk_at "rd"
   have Wb:∀z,am3 k bo st [a,b,c]=z->∀S5,Pu 1 [0] _ S5=_->A [a,b,c] (.int z) S5:=λz e S5 h=>e▸hA S5 h
   refine kI (λe=>?_) (λe=>?_)
   ·walk_at "rd"
    exact Wb _ (if_pos e) _ rfl
   ·walk_at "rd"
    exact Wb _ (if_neg λz=>by rw[show vM k bo st a b c 1=true from z] at e;cases e) _ rfl
  ·walk_at "rd"
   refine q _ λa b c h1 h2 h3 h4 h5 h6=>gU (d:=.int (am k bo st a b c)) UG [] (λx hx e=>by rw[show x=[a,b,c] from e];rfl) (.inl ?_)
   rw[N0]
   exact yR h1 h2 h3 h4 h5 h6
theorem DT (S:Src K mg "rows_below" dB) (T:QF mg):PK P w K mg base 1 "rows_below" ["amid","above","row","wanted","free"] (PM K GM):=by
 refine bF S bz (λ_ _ _ _ _ _ us hl=>match us,hl with | [_,_,_,_,_],_=>rfl) (by walk_at "L") λf PC A outer s H E hr=>⟨_,_,(ai (kW (i:=5) bz.nd rfl (Jm rfl) (aH (aP (aa af ah))))
  (ai (cj IY rfl (pX rfl (by rfl) T.enumerate_ (aa (ae 4 (pv 4)) ah)) (bO (n:=2) rfl rfl (az (au (aq (i:=6) bz.nd rfl (HC rfl) (HC rfl))) (az (au (aq (i:=7) bz.nd rfl (HC rfl) (HC rfl))) bD))) (ai (b8 (cH (ae 7 (pv 7))) (ao (kW (i:=5) bz.nd rfl (Jm rfl) (aH (uB (tg:=["more","line"]) (cs:=["found"]) (ix:=[5]) (aI (aj dB) ["amid","above","row","wanted","free","found","column","may_live","x","one","two","lives"] (by decide +kernel)) rfl (kZ (by decide) (by decide) (by decide)) (by decide) (BZ rfl (aB (aa af (aa (aA iE bU af (ae 6 (pv 6))) ah)))) (λ_ _ _ _=>(au (aq (i:=0) (show (["more","line","found"]:List Str).Nodup by decide +kernel) rfl (HC rfl) (by first | exact HC rfl | exact Jm rfl)))) (λ_ _ _ _=>bQ) (λ_ _ _ _=>(ba rfl (ae 2 (pv 2)))) (λ_ _ _ _=>(au (aq (i:=1) (show (["more","line","found"]:List Str).Nodup by decide +kernel) rfl (HC rfl) (by first | exact HC rfl | exact Jm rfl)))) (λ_ _ _ _=>bQ) (λ_ _ _ _=>(aA aZ aE (ae 1 (pv 1)) (ae 0 (pv 0)))))))) bg)
  (ao (b8 (bw zy aE (ae 6 (pv 6)) af (br _)) (ai (aC (i:=8) bz.nd rfl (Jm rfl) (aA eW aE (ae 6 (pv 6)) af))
  (ai (gF (aB (aa (aA gB aE (aA eX bU (ae 1 (pv 1)) (ae 8 (pv 8))) af) (aa (aA gB aE (aA eX bU (ae 2 (pv 2)) (ae 8 (pv 8))) af) (aa (aA gB aE (aA eX bU (ae 3 (pv 3)) (aA aZ aE (ae 8 (pv 8)) af)) af) ah)))) (bO (n:=3) rfl rfl (az (au (aq (i:=9) bz.nd rfl (Jm rfl) (HC rfl))) (az (au (aq (i:=10) bz.nd rfl (Jm rfl) (HC rfl))) (az (au (aq (i:=11) bz.nd rfl (Jm rfl) (HC rfl))) bD)))))
  (ao (kW (i:=5) bz.nd rfl (Jm rfl) (aH (bR (tg:=["line"]) (cs:=["lives","amid","one","two","x"]) (ix:=[11,0,9,10,8]) (aI (aj dB) ["amid","above","row","wanted","free","found","column","may_live","x","one","two","lives"] (by decide +kernel)) rfl (aO (by decide)) (by decide) (ba rfl (ae 5 (pv 5))) (λ_ _ _ _=>(au (aq (i:=0) (show (["line","lives","amid","one","two","x"]:List Str).Nodup by decide +kernel) rfl (HC rfl) (by first | exact HC rfl | exact Jm rfl)))) (λ_ _ _ _=>(eJ (bw iF nO (om rfl hr.units (ae 2 (pv 2)) (aB (aa (ae 3 (pv 3)) (aa (ae 4 (pv 4)) (aa (aA eX bU (ae 0 (pv 0)) (ae 5 (pv 5))) ah)))) (λ_ _=>rfl)) (ae 1 (pv 1)) (br _)))) (λ_ _ _ _=>(aL (ae 0 (pv 0)))))))))) bg))))
  (ao (aJ (xP 5 (pv 5)))))),?_⟩
 rintro ds R ⟨g,kvs,ab,ro,wa,fr,rfl,X3,ha,hr',hw,hl,q⟩
 walk_at "sl"
 walk_at "rd"
 refine kU (Ir rfl) ?_
 walk_at "rd"
 rw[DS]
 refine du (λi S2=>∃s6 s7 s8 s9 Qu Q4,S2=[.val (dc kvs),.val (.int ab),.val (.int ro),.val (.int wa),.val (.lst (fr.map D.bl)),.fre (.lst ((below g ab ro wa fr i).map .int)),s6,s7,s8,s9,Qu,Q4]) ⟨_,_,_,_,_,_,rfl⟩ ?_ ?_
 ·rintro i d S2 e ⟨s6,s7,s8,s9,Qu,Q4,rfl⟩
  obtain ⟨x,h1,rfl⟩:=yT e
  obtain ⟨hb,WM⟩:=lN (f:=g) (ab:=ab) (ro:=ro) (wa:=wa) (fr:=fr) i
  have hi8:i<8:=by lia
  have hle:(below g ab ro wa fr i).length<=128:=Jf WM (show 2 ^ i<=2 ^ 7 from Jg (by decide) (by lia))
  walk_at "rd"
  refine vU (λS'=>S'=[.val (dc kvs),.val (.int ab),.val (.int ro),.val (.int wa),.val (.lst (fr.map D.bl)),.fre (.lst ((fa i x (below g ab ro wa fr i)).map .int)),.val (.int i),.val (.bl x),s8,s9,Qu,Q4]) ?_ ?_ ?_
  ·rintro S' rfl
   walk_at "rd"
   have hfb:=GL (b:=x) hb
   have hfl:=vT (c:=i) (b:=x) (xs:=below g ab ro wa fr i)
   refine eZ (λh2=>?_) (λh2=>?_)
   ·have R3:2<=i:=by lia
    have e1:((i:Int)-2).toNat=i-2:=by lia
    have e2:((i:Int)-2+1).toNat=i-1:=by lia
    have p1:∀n:Nat,(0:Int)<=2 ^ n:=λn=>OP (two_pos n)
    walk_at "rd"
    refine cq (xs:=fa i x (below g ab ro wa fr i)) (en:=D.int) (f:=D.int) (p:=λl=>decide (g (w3 ab (i-2)) (w3 ro (i-2)) (l / 2 ^ (i-2))=wa / 2 ^ (i-1)%2)) (by lia) (λl hm A B hA hB=>?_) ?_
    ·obtain ⟨l1,l2⟩:=hfb l hm
     have l3:l / 2 ^ (i-2)<8:=Nq (two_pos _) (by rw[show (8:Int)=2 ^ 3 from rfl,<- O2,show 3+(i-2)=i+1 by lia];exact l2)
     have w8:∀n x,0<=w3 n x/\w3 n x<8:=λn x=>⟨Nl _ (by decide),Mk _ (by decide)⟩
     dsimp only[aS,HH,HJ,Iz,Iu,IA]
     walk_at "rd"
     rw[j9 (KR ha (p1 _)),j9 (KR hr' (p1 _)),iA (KR hw (p1 _)),e1,e2]
     refine lq (kvs:=kvs) (ms:=[w3 ab (i-2),w3 ro (i-2),l / 2 ^ (i-2)]) rfl rfl (X3 _ _ _ (w8 _ _).1 (w8 _ _).2 (w8 _ _).1 (w8 _ _).2 (KR l1 (p1 _)) l3) ?_
     walk_at "rd"
     refine dw (λz=>?_) (λz=>?_)
     ·walk_at "rd"
      exact hA _ rfl z
     ·exact hB _ rfl z
    ·walk_at "rd"
     refine kU (Ir rfl) ?_
     walk_at "rd"
     have e3:below g ab ro wa fr (i+1)=(fa i x (below g ab ro wa fr i)).filter λl=>decide (g (w3 ab (i-2)) (w3 ro (i-2)) (l / 2 ^ (i-2))=wa / 2 ^ (i-1)%2):=by
      show fb g ab ro wa i (fa i (fr.getD i false) _)=_
      rw[h1.2];exact if_pos R3
     rw[e3]
     exact ⟨_,_,_,_,_,_,rfl⟩
   ·walk_at "rd"
    have e3:below g ab ro wa fr (i+1)=fa i x (below g ab ro wa fr i):=by
     show fb g ab ro wa i (fa i (fr.getD i false) _)=_
     rw[h1.2];exact if_neg (by lia)
    rw[e3]
    exact ⟨_,_,_,_,_,_,rfl⟩
  ·rintro nx fin rfl
   walk_at "rd"
   refine qW (xs:=[0,1*2 ^ ((i:Int)).toNat]) (en:=D.int) (r:=λm=>(below g ab ro wa fr i).map λl=>D.int (l+m)) (by simp) (λm hm ys A B hA=>?_) ?_
   ·dsimp only[aS,HH,HJ,Iz,Iu,IA]
    walk_at "rd"
    refine Dk (xs:=below g ab ro wa fr i) (en:=D.int) (f:=λl=>.int (l+m)) (by lia) (λl hm A2 B2 hA2=>?_) (hA _ rfl)
    walk_at "rd"
    exact hA2 _ rfl
   ·rw[yS]
    walk_at "rd"
    refine kU (Ir rfl) ?_
    walk_at "rd"
    exact fin _ rfl
  ·rintro nx fin rfl
   walk_at "rd"
   exact fin _ rfl
 ·rintro S2 ⟨s6,s7,s8,s9,Qu,Q4,rfl⟩
  walk_at "rd"
  rw[Hz,ID]
  exact q
end
end My
namespace My
open PySem L2 VL
def frees (w:Nat):List Bool:=[false,false]++HH w true++[false,false]
def cd (g:Int->Int->Int->Int) (a r:Int) (x b:Nat):Bool:=decide (g (w3 (a*4) x) (w3 (r*4) x) (w3 ((b:Int)*4) x)=r*4 / 2 ^ (x+1)%2)
def fo (g:Int->Int->Int->Int) (w:Nat) (a r:Int):List Nat:=(HF (2 ^ w)).filter λb=>(HF (w+2)).all λx=>cd g a r x b
theorem gV (w:Nat):(frees w).length=2+(w+2):=by unfold frees;simp;lia
theorem vV (w j:Nat):(frees w).getD (2+j) false=decide (j<w):=by
 unfold frees
 rw[Im,HU,HV (by simp),show 2+j-[false,false].length=j by simp]
 by_cases h:j<w
 ·rw[Ie (by simpa using h),Ky,if_pos h,decide_eq_true h];rfl
 ·rw[HV (by simp;lia),decide_eq_false h,Kf]
  generalize j-w=z
  match z with
  | 0=>rfl
  | 1=>rfl
  | z+2=>rfl
theorem DU (b:Nat) (x j:Nat) (h:x<j):w3 (((2 ^ j+b:Nat):Int)*4) x=w3 ((b:Int)*4) x:=by
 unfold w3
 have e:((2 ^ j+b:Nat):Int)*4=(b:Int)*4+2 ^ x*(8*2 ^ (j-1-x)):=by
  have:(2:Int) ^ j=2 ^ x*2 ^ (j-1-x)*2:=by rw[<- O2,<- Nn,show (x+(j-1-x)).succ=j by lia]
  rw[Md,Kt,show ((2:Nat):Int)=2 from rfl,this,Int.add_mul,Int.add_comm]
  congr 1
  rw[Int.mul_assoc,Int.mul_assoc,show (2:Int)*4=8 from rfl,Int.mul_comm (2 ^ (j-1-x)) 8]
 rw[e,Int.add_mul_ediv_left _ _ (Int.ne_of_gt (two_pos x)),Int.add_mul_emod_self_left]
theorem vW {g:Int->Int->Int->Int} {a r:Int} (b x j:Nat) (h:x<j):cd g a r x (2 ^ j+b)=cd g a r x b:=by unfold cd;rw[DU b x j h]
theorem vX {b j:Nat} (h:b<2 ^ (j+1)):w3 ((b:Int)*4) j=(b:Int)*4 / 2 ^ j:=by
 unfold w3
 have h2:(b:Int)<2 ^ (j+1):=by rw[<- show ((2 ^ (j+1):Nat):Int)=2 ^ (j+1) from Kt ..];exact Int.ofNat_lt.mpr h
 exact Int.emod_eq_of_lt (KR (by lia) (OP (two_pos _))) (Nq (two_pos _) (by rw[Nn] at h2;lia))
theorem m6 (g:Int->Int->Int->Int) (w:Nat) (a r:Int):∀j,below g (a*4) (r*4) (r*4) (frees w) (2+j)=((HF (2 ^ min j w)).filter λb=>(HF j).all λx=>cd g a r x b).map λ(b:Nat)=>(b:Int)*4
 | 0=>rfl
 | j+1=>by
  have step:∀(L:List Nat),(∀b∈L,b<2 ^ (j+1))->fb g (a*4) (r*4) (r*4) (2+j) (L.map λ(b:Nat)=>(b:Int)*4)=(L.filter λb=>cd g a r j b).map λ(b:Nat)=>(b:Int)*4:=λL hL=>by
   unfold fb
   rw[if_pos (by lia),Ku,show 2+j-2=j by lia,show 2+j-1=j+1 by lia]
   congr 1
   refine Jy λb hb=>?_
   unfold cd
   rw[vX (hL b hb)]
   rfl
  have all_s:∀b,((HF (j+1)).all λx=>cd g a r x b)=(((HF j).all λx=>cd g a r x b)&&cd g a r j b):=λb=>by rw[KS,List.all_append];simp
  show fb g (a*4) (r*4) (r*4) (2+j) (fa (2+j) ((frees w).getD (2+j) false) (below g (a*4) (r*4) (r*4) (frees w) (2+j)))=_
  rw[vV,m6 g w a r j]
  by_cases h:j<w
  ·rw[decide_eq_true h,show min j w=j by lia,show min (j+1) w=j+1 by lia]
   have e:fa (2+j) true (((HF (2 ^ j)).filter λb=>(HF j).all λx=>cd g a r x b).map λ(b:Nat)=>(b:Int)*4)=((HF (2 ^ (j+1))).filter λb=>(HF j).all λx=>cd g a r x b).map λ(b:Nat)=>(b:Int)*4:=by
    unfold fa
    rw[if_pos rfl,Np,Nat.mul_two,List.range_add,Jr,Ku,HX]
    simp only[JE,LW,IV,Iq]
    congr 1
    rw[show ((λb=>(HF j).all λx=>cd g a r x b) ∘ λx=>2 ^ j+x)=λb=>(HF j).all λx=>cd g a r x b by
     funext b
     show ((HF j).all λx=>cd g a r x (2 ^ j+b))=_
     rw[Ju,K6,K6]
     exact ⟨λz x hx=>by rw[<- vW b x j (List.mem_range.mp hx)];exact z x hx,λz x hx=>by rw[vW b x j (List.mem_range.mp hx)];exact z x hx⟩]
    refine IW λb _=>?_
    show (b:Int)*4+2 ^ (2+j)=((2 ^ j+b:Nat):Int)*4
    rw[Md,Kt,show ((2:Nat):Int)=2 from rfl,Int.add_mul,Nat.add_comm 2 j,O2]
    exact Int.add_comm _ _
   rw[e,step _ (λb hb=>List.mem_range.mp (List.mem_filter.mp hb).1),Lr]
   congr 1
   exact Jy λb _=>by rw[all_s,Bool.and_comm]
  ·rw[decide_eq_false h,show min j w=w by lia,show min (j+1) w=w by lia]
   rw[show ∀xs,fa (2+j) false xs=xs from λ_=>if_neg (by decide),step _ (λb hb=>HS (List.mem_range.mp (List.mem_filter.mp hb).1) (Jg (by decide) (by lia))),Lr]
   congr 1
   exact Jy λb _=>by rw[all_s,Bool.and_comm]
def Qy (g:Int->Int->Int->Int) (w:Nat) (a r:Int):List Int:=(fo g w a r).map λ(b:Nat)=>(b:Int)
theorem DV (g:Int->Int->Int->Int) (w:Nat) (a r:Int):(below g (a*4) (r*4) (r*4) (frees w) (frees w).length).map (λl=>l / 4)=Qy g w a r:=by
 unfold Qy fo
 rw[gV,m6,Iq,show min (w+2) w=w by lia]
 exact IW λb _=>Int.mul_ediv_cancel _ (by decide)
theorem GN {g:Int->Int->Int->Int} {w:Nat} {a r b:Int} (hw:w<=4) (h:b∈Qy g w a r):0<=b/\b<16:=by
 obtain ⟨n,hn,rfl⟩:=List.mem_map.mp h
 have h1:=List.mem_range.mp (List.mem_filter.mp hn).1
 have:2 ^ w<=2 ^ 4:=Jg (by decide) hw
 lia
theorem lO {g:Int->Int->Int->Int} {w:Nat} {a r:Int} (hw:w<=4):(Qy g w a r).length<=16:=by
 unfold Qy fo
 have:=JS (λb=>(HF (w+2)).all λx=>cd g a r x b) (HF (2 ^ w))
 have:2 ^ w<=2 ^ 4:=Jg (by decide) hw
 rw[Hz]
 rw[ID] at *
 lia
def m7:List (List Int):=(HF 16).flatMap λ(a:Nat)=>(HF 16).map λ(r:Nat)=>[(a:Int),(r:Int)]
theorem DW {a r:Int} (h1:0<=a) (h2:a<16) (h3:0<=r) (h4:r<16):[a,r]∈m7:=
 List.mem_flatMap.mpr ⟨a.toNat,List.mem_range.mpr (by lia),List.mem_map.mpr ⟨r.toNat,List.mem_range.mpr (by lia),by rw[show ((a.toNat:Nat):Int)=a by lia,show ((r.toNat:Nat):Int)=r by lia]⟩⟩
theorem qc {p:List Int} (h:p∈m7):∃a r:Int,p=[a,r]/\0<=a/\a<16/\0<=r/\r<16:=by
 obtain ⟨a,ha,h⟩:=List.mem_flatMap.mp h
 obtain ⟨b,hb,rfl⟩:=List.mem_map.mp h
 have:=List.mem_range.mp ha
 have:=List.mem_range.mp hb
 exact ⟨_,_,rfl,by lia,by lia,by lia,by lia⟩
def left (ks:List (List Int)):Nat:=(m7.filter λp=>decide (p∉ks)).length
theorem qf (ks:List (List Int)):left ks<=256:=Jf (JS _ _) (by decide +kernel)
theorem m8 {p:List Int} (hp:p∈m7) (hn:p∉kvs.map (·.1)):left ((PN kvs p d).map (·.1))+1<=left (kvs.map (·.1)):=by
 unfold left
 rw[show (m7.filter λq=>decide (q∉(PN kvs p d).map (·.1)))=(m7.filter λq=>decide (q∉kvs.map (·.1))).filter λq=>decide (q≠p) by
  rw[Lr]
  refine Jy λq _=>?_
  rw[Ju]
  simp only[decide_eq_true_eq,Ik,bW,not_or]]
 refine Nat.lt_of_le_of_ne (JS _ _) λe=>?_
 have:=List.length_filter_eq_length_iff.mp e p (List.mem_filter.mpr ⟨hp,by simpa using hn⟩)
 simp at this
theorem yV {p:List Int} (hn:p∉kvs.map (·.1)):(PN kvs p d).length=kvs.length+1:=by
 unfold PN
 rw[if_neg hn,HK];rfl
structure Fo (F:Int->Int->List Int) (kvs:List (List Int×D)) (wl:List (List Int)):Prop where
 nought:[0,0]∈kvs.map (·.1)\/[0,0]∈wl
 keys:∀p∈kvs.map (·.1),p∈m7
 wait:∀p∈wl,p∈m7
 val:∀a r,[a,r]∈kvs.map (·.1)->PJ kvs [a,r]=some (.lst ((F a r).map .int))/\∀b∈F a r,[r,b]∈kvs.map (·.1)\/[r,b]∈wl
 len:kvs.length+left (kvs.map (·.1))<=256
theorem Fo.pop {F:Int->Int->List Int} {wl:List (List Int)} {p:List Int} (h:Fo F kvs (wl++[p])) (hp:p∈kvs.map (·.1)):Fo F kvs wl where
 nought:=by
  rcases h.nought with z | z
  ·exact .inl z
  ·rcases List.mem_append.mp z with z | z
   ·exact .inr z
   ·exact .inl (List.mem_singleton.mp z▸hp)
 keys:=h.keys
 wait:=λq hq=>h.wait q (HR _ hq)
 val:=λa r ha=>⟨(h.val a r ha).1,λb hb=>by
  rcases (h.val a r ha).2 b hb with z | z
  ·exact .inl z
  ·rcases List.mem_append.mp z with z | z
   ·exact .inr z
   ·exact .inl (List.mem_singleton.mp z▸hp)⟩
 len:=h.len
theorem Fo.add {F:Int->Int->List Int} {wl:List (List Int)} {a r:Int} (h:Fo F kvs (wl++[[a,r]])) (hn:[a,r]∉kvs.map (·.1)) (hb:∀b∈F a r,0<=b/\b<16):Fo F (PN kvs [a,r] (.lst ((F a r).map .int))) (wl++(F a r).map λb=>[r,b]) where
 nought:=by
  rcases h.nought with z | z
  ·exact .inl (bW.mpr (.inr z))
  ·rcases List.mem_append.mp z with z | z
   ·exact .inr (HR _ z)
   ·exact .inl (bW.mpr (.inl (List.mem_singleton.mp z)))
 keys:=λp hp=>by
  rcases bW.mp hp with e | e
  ·exact e▸h.wait _ (Hr _ Hx)
  ·exact h.keys p e
 wait:=λp hp=>by
  rcases List.mem_append.mp hp with e | e
  ·exact h.wait p (HR _ e)
  ·obtain ⟨b,h1,rfl⟩:=List.mem_map.mp e
   obtain ⟨a',r',e',_,_,h3,h4⟩:=qc (h.wait _ (Hr _ Hx))
   cases e'
   exact DW h3 h4 (hb b h1).1 (hb b h1).2
 val:=λa' r' ha=>by
  rw[js]
  by_cases e:[a',r']=[a,r]
  ·cases e
   exact ⟨if_pos rfl,λb h1=>.inr (Hr _ (List.mem_map.mpr ⟨b,h1,rfl⟩))⟩
  ·have hk:[a',r']∈kvs.map (·.1):=(bW.mp ha).resolve_left e
   refine ⟨(if_neg e).trans (h.val a' r' hk).1,λb h1=>?_⟩
   rcases (h.val a' r' hk).2 b h1 with z | z
   ·exact .inl (bW.mpr (.inr z))
   ·rcases List.mem_append.mp z with z | z
    ·exact .inr (HR _ z)
    ·exact .inl (bW.mpr (.inl (List.mem_singleton.mp z)))
 len:=by
  have h1:=h.len
  have h2:=m8 (d:=.lst ((F a r).map .int)) (h.wait _ (Hr _ Hx)) hn
  rw[yV hn]
  lia
theorem vY (w:Nat):(HH w [D.bl true]).flatten=HH w (D.bl true):=by
 induction w with
 | zero=>rfl
 | succ w ih=>rw[Jk,Jk,JZ,ih];rfl
def GO:List D->(D->Prop)->Prop:=λds R=>∃(k:Int) (bo st:List Int) (w:Nat),ds=[rl k bo st,.int w]/\Kd k/\1<=w/\w<=4/\∀kvs,Fo (Qy (am k bo st) w) kvs []->R (dc kvs)
section
variable {P:Ip} {w:Ji} {K:Ho} {mg:Str->Option Ht} {base:Heap}
theorem DX (S:Src K mg "followers_of" cD) (T:QF mg) (UI:PK P w K mg base 3 "centres" ["rule"] (PM K AO)) (UJ:PK P w K mg base 1 "rows_below" ["amid","above","row","wanted","free"] (PM K GM)):PK P w K mg base 4 "followers_of" ["rule","wide"] (PM K GO):=by
 refine bF S bH (by walk_at "2") (by walk_at "L") λf PC A outer s H E hr=>⟨_,_,(ai (aC (i:=2) bH.nd rfl (HC rfl) (aW UI hr (aa (ae 0 (pv 0)) ah)))
  (ai (aC (i:=3) bH.nd rfl (HC rfl) (aH (pM (pM (aP (aa aX (aa aX ah))) (DD (aP (aa aX ah)) (ae 1 (pv 1)))) (aP (aa aX (aa aX ah))))))
  (ai (fC (λ_ h=>bN (i:=4) bH.nd rfl (HC rfl) h) kM)
  (ai (dI (λ_ h=>bN (i:=5) bH.nd rfl (HC rfl) h) (aP (aa (aB (aa af (aa af ah))) ah)))
  (ai (uq IY (CH rfl (ae 5 (pv 5))) (ai (aC (i:=6) bH.nd rfl (Jm rfl) (yw 5 rfl (pv 5)))
  (ao (b8 (bw (t8 (K:=K) rfl hr.units) mE (ae 6 (pv 6)) (ae 4 (pv 4)) (by with_unfolding_all rfl)) (ai (xw (λ_ h=>Bl (i:=7) (j:=8) rfl bH.nd rfl rfl (by decide) rfl rfl h rfl) (aa (aA iE bU (aK rfl (ae 6 (pv 6)) af (λ_ _=>rfl)) af) (aa (aA iE bU (aK rfl (ae 6 (pv 6)) af (λ_ _=>rfl)) af) ah)))
  (ai (gh 4 rfl hr.units (pv 4) (aH (bR (tg:=["below"]) (cs:=[]) (ix:=[]) (aI (aj cD) ["rule","wide","amid","free","followers","waiting","pair","above","row"] (by decide +kernel)) rfl (aO (by decide)) (by decide) (ba rfl (aW UJ hr (aa (ae 2 (pv 2)) (aa (ae 7 (pv 7)) (aa (ae 8 (pv 8)) (aa (ae 8 (pv 8)) (aa (ae 3 (pv 3)) ah))))))) (λ_ _ _ _=>(au (aq (i:=0) (show (["below"]:List Str).Nodup by decide +kernel) rfl (HC rfl) (by first | exact HC rfl | exact Jm rfl)))) (λ_ _ _ _=>bQ) (λ_ _ _ _=>(aA eX bU (ae 0 (pv 0)) af)))) (ae 6 (pv 6)))
  (ao (cz (C6 5 rfl (pv 5) (bR (tg:=["below"]) (cs:=["pair"]) (ix:=[6]) (aI (aj cD) ["rule","wide","amid","free","followers","waiting","pair","above","row"] (by decide +kernel)) rfl (aO (by decide)) (by decide) (ba rfl (gm rfl hr.units (ae 4 (pv 4)) (ae 6 (pv 6)) (λ_ _=>rfl))) (λ_ _ _ _=>(au (aq (i:=0) (show (["below","pair"]:List Str).Nodup by decide +kernel) rfl (HC rfl) (by first | exact HC rfl | exact Jm rfl)))) (λ_ _ _ _=>bQ) (λ_ _ _ _=>(aB (aa (aL (aK rfl (ae 1 (pv 1)) af (λ_ _=>rfl))) (aa (aL (ae 0 (pv 0))) ah)))))))))) bg))))
  (ao (aJ (aL (ae 4 (pv 4)))))))))),?_⟩
 rintro ds R ⟨k,bo,st,w,rfl,hk,w1,w2,q⟩
 walk_at "sl"
 walk_at "rd"
 refine ⟨k,bo,st,rfl,hk,λamd X3=>?_⟩
 walk_at "rd"
 refine yz (by simp;lia) (by lia) ?_
 rw[vY]
 refine Ah (by simp;lia) ?_
 walk_at "rd"
 refine Ah (by simp;lia) ?_
 walk_at "rd"
 rw[show [D.bl false,D.bl false]++HH w (D.bl true)++[D.bl false,D.bl false]=(frees w).map D.bl by unfold frees;rw[HX,HX,List.map_replicate];rfl]
 refine ⟨λn S=>∃kvs wl s6 s7 s8,S=[.val (rl k bo st),.val (.int w),.val (dc amd),.val (.lst ((frees w).map D.bl)),od kvs,.own (wl.map eT),s6,s7,s8]/\Fo (Qy (am k bo st) w) kvs wl/\n=wl.length+17*left (kvs.map (·.1))/\n<=4353,⟨_,[],[[0,0]],_,_,_,rfl,⟨.inr Hx,λp hp=>(nomatch hp),λp hp=>by rw[List.mem_singleton.mp hp];decide +kernel,λa r h=>(nomatch h),by show 0+left []<=256;rw[Lc];exact qf _⟩,rfl,by have:=qf (([]:List (List Int×D)).map (·.1));simp only[IM,J5];lia⟩,?_⟩
 rintro n S2 ⟨kvs,wl,s6,s7,s8,rfl,hF,rfl,hm⟩
 walk_at "rd"
 rcases List.eq_nil_or_concat wl with rfl | ⟨T9,p,e⟩
 ·refine t6 (d:=.lst ([].map eT)) (b:=false) rfl rfl ?_
  rw[if_neg Hy]
  walk_at "rd"
  exact q kvs hF
 rw[List.concat_eq_append] at e
 subst e
 refine t6 (d:=.lst ((T9++[p]).map eT)) (b:=true) rfl (by rw[HX];cases T9.map eT <;> rfl) ?_
 rw[if_pos rfl]
 walk_at "rd"
 refine DC (ds:=(T9++[p]).map eT) (d:=eT p) rfl (by simp) ?_
 dsimp only[Ig,Iy]
 rw[show ((T9++[p]).map eT).dropLast=T9.map eT by rw[HX];exact List.dropLast_concat ..]
 obtain ⟨a,r,rfl,a1,a2,r1,r2⟩:=qc (hF.wait _ (Hr _ Hx))
 walk_at "rd"
 refine i8 (ms:=[a,r]) (kvs:=kvs) rfl rfl ?_
 rw[if_pos rfl]
 rw[HK,Kg] at hm ⊢
 by_cases Se:[a,r]∈kvs.map (·.1)
 ·rw[decide_eq_true Se]
  walk_at "rd"
  exact ⟨_,Nat.add_lt_add_right (KB _) _,kvs,T9,_,_,_,rfl,hF.pop Se,rfl,by lia⟩
 ·rw[decide_eq_false Se,Bool.not_false]
  walk_at "rd"
  dsimp only[R0]
  rw[show (2:Int) ^ Int.toNat 2=4 from rfl]
  refine ⟨am k bo st,amd,a*4,r*4,r*4,frees w,rfl,X3,by lia,by lia,by lia,by rw[gV];lia,?_⟩
  walk_at "rd"
  have WM:=(lN (f:=am k bo st) (ab:=a*4) (ro:=r*4) (wa:=r*4) (fr:=frees w) (frees w).length).2
  have hb8:2 ^ (frees w).length<=2 ^ 8:=Jg (by decide) (by rw[gV];lia)
  refine comp_map (xs:=below (am k bo st) (a*4) (r*4) (r*4) (frees w) (frees w).length) (en:=D.int) (f:=λl=>.int (l / 4)) (by lia) (λl hl A B hA=>?_) ?_
  ·dsimp only[aS,HH,HJ,Iz,Iu,IA]
   walk_at "rd"
   exact hA _ rfl
  rw[show (below (am k bo st) (a*4) (r*4) (r*4) (frees w) (frees w).length).map (λl=>D.int (l / 4))=(Qy (am k bo st) w a r).map D.int by rw[<- DV,Iq];rfl]
  walk_at "rd"
  have hkl:=hF.len
  refine e9 (ms:=[a,r]) rfl rfl (by lia) ?_
  dsimp only[Ig,Iy]
  have hadd:=hF.add Se λb hb=>GN w2 hb
  have hlp:=m8 (d:=.lst ((Qy (am k bo st) w a r).map .int)) (hF.wait _ (Hr _ Hx)) Se
  have hfl:=lO (g:=am k bo st) (a:=a) (r:=r) w2
  have hget:PJ (PN kvs [a,r] (.lst ((Qy (am k bo st) w a r).map .int))) [a,r]=some (.lst ((Qy (am k bo st) w a r).map .int)):=by rw[js];exact if_pos rfl
  generalize PN kvs [a,r] (.lst ((Qy (am k bo st) w a r).map .int))=kvs2 at *
  walk_at "rd"
  refine gn (kvs:=kvs2) (ms:=[a,r]) rfl rfl hget ?_
  walk_at "rd"
  refine comp_map (xs:=Qy (am k bo st) w a r) (en:=D.int) (f:=λb=>eT [r,b]) (by lia) (λb hb A B hA=>?_) ?_
  ·dsimp only[aS,HH,HJ,Iz,Iu,IA]
   walk_at "rd"
   exact hA _ rfl
  rw[show (Qy (am k bo st) w a r).map (λb=>eT [r,b])=((Qy (am k bo st) w a r).map λb=>[r,b]).map eT by rw[Iq];rfl]
  refine Dc (ds:=T9.map eT) rfl (by simp only[Hz];lia) ?_
  dsimp only[Ig,Iy]
  rw[<- HX]
  walk_at "rd"
  refine ⟨_,?_,kvs2,T9++(Qy (am k bo st) w a r).map (λb=>[r,b]),_,_,_,rfl,hadd,rfl,?_⟩
  all_goals (rw[HK,Hz];lia)
end
end My
namespace My
open PySem L2 VL
def yW:Stmt->JX
 | .For _ _ (_::.Expr (.Call _ [.DictComp _ _ _ sc _] _ _) _::_) _ _=>sc
 | s=>aj s
def Vn (F:Int->Int->List Int) (a r:Int):Bool:=decide (0∈F a r)&&decide (0∈F r 0)
def Tw (F:Int->Int->List Int):Nat->Int->Int->Int
 | 0,a,r=>if Vn F a r=true then 1 else 0
 | j+1,a,r=>((F a r).map λb=>Tw F j r b).sum
def Tp (F:Int->Int->List Int) (j:Nat) (p:List Int):Int:=Tw F j (p.getD 0 0) (p.getD 1 0)
def wd (F:Int->Int->List Int) (kvs:List (List Int×D)) (j:Nat):List (List Int×D):=(kvs.map (·.1)).foldl (λm p=>PN m (id p) (.int (Tp F j p))) []
theorem AQ {F:Int->Int->List Int} {j:Nat} {a r:Int} (h:[a,r]∈kvs.map (·.1)):PJ (wd F kvs j) [a,r]=some (.int (Tw F j a r)):=
 gU (ky:=id) (d:=.int (Tw F j a r)) _ [] (λx _ e=>by rw[show x=[a,r] from e];rfl) (.inl (by rw[N0];exact h))
def SI (F:Int->Int->List Int) (kvs:List (List Int×D)) (n:Nat):List D:=(HF n).map λj=>dc (wd F kvs j)
def GP:List D->(D->Prop)->Prop:=λds R=>∃(F:Int->Int->List Int) (kvs:List (List Int×D)) (a r:Int),ds=[dc kvs,eT [a,r]]/\Fo F kvs []/\[a,r]∈kvs.map (·.1)/\R (.bl (Vn F a r))
theorem vZ {l:List D}:QY (l++[d]) (-1)=some d:=by
 unfold QY
 rw[show Ru (l++[d]).length (-1)=some l.length by
  unfold Ru
  rw[HK,Kg]
  split
  ·lia
  ·split
   ·congr 1;lia
   ·lia]
 show (l++[d])[l.length]?=some d
 rw[HV (HA _),OM]
 rfl
theorem m9 (F:Int->Int->List Int) (kvs:List (List Int×D)) (n:Nat):SI F kvs (n+1)=SI F kvs n++[dc (wd F kvs n)]:=by
 unfold SI
 rw[KS,HX];rfl
theorem v7 (F:Int->Int->List Int) (kvs:List (List Int×D)) (n:Nat):QY (SI F kvs (n+1)) (-1)=some (dc (wd F kvs n)):=by
 rw[m9];exact vZ
theorem yX (F:Int->Int->List Int) (kvs:List (List Int×D)) (n:Nat):(SI F kvs n).length=n:=by simp[SI]
def AR:List D->(D->Prop)->Prop:=λds R=>∃(F:Int->Int->List Int) (kvs:List (List Int×D)) (h:Nat),ds=[dc kvs,.int h]/\Fo F kvs []/\(∀a r,(F a r).length<=16)/\h<=60/\R (.lst (SI F kvs (h+1)))
section
variable {P:Ip} {w:Ji} {K:Ho} {mg:Str->Option Ht} {base:Heap}
theorem DY (S:Src K mg "may_end" lH) (T:QF mg):PK P w K mg base 1 "may_end" ["followers","pair"] (PM K GP):=by
 refine bF S vF (by walk_at "2") (by walk_at "L") λf PC A outer s H E hr=>⟨_,_,(ao (aJ (dU (dt (iX (K:=K) rfl hr.units) jR af (gm rfl hr.units (ae 0 (pv 0)) (ae 1 (pv 1)) (λ_ _=>rfl)) (by with_unfolding_all rfl)) (fO (dt (iX (K:=K) rfl hr.units) jR af (gm rfl hr.units (ae 0 (pv 0)) (aB (aa (aK rfl (ae 1 (pv 1)) af (λ_ _=>rfl)) (aa af ah))) (λ_ _=>rfl)) (by with_unfolding_all rfl)))))),?_⟩
 rintro ds R ⟨F,kvs,a,r,rfl,hF,hk,q⟩
 walk_at "sl"
 walk_at "rd"
 refine gn (kvs:=kvs) (ms:=[a,r]) rfl rfl (hF.val a r hk).1 ?_
 walk_at "rd"
 unfold Vn at q
 by_cases h:(0:Int)∈F a r
 ·refine zS (f:=D.int) cA h ?_
  rw[decide_eq_true h,KZ] at q
  walk_at "rc"
  have Q5:[r,0]∈kvs.map (·.1):=((hF.val a r hk).2 0 h).resolve_right (λz=>nomatch z)
  refine gn (kvs:=kvs) (ms:=[r,0]) rfl rfl (hF.val r 0 Q5).1 ?_
  walk_at "rd"
  by_cases h2:(0:Int)∈F r 0
  ·refine zS (f:=D.int) cA h2 ?_
   rw[decide_eq_true h2] at q
   walk_at "rc"
   exact q
  ·refine zT (f:=D.int) cA h2 ?_
   rw[decide_eq_false h2] at q
   walk_at "rc"
   exact q
 ·refine zT (f:=D.int) cA h ?_
  rw[decide_eq_false h,K4] at q
  walk_at "rc"
  exact q
theorem yY (S:Src K mg "ways_to_end" cM) (T:QF mg) (UK:PK P w K mg base 1 "may_end" ["followers","pair"] (PM K GP)):PK P w K mg base 2 "ways_to_end" ["followers","high"] (PM K AR):=by
 refine bF S dO (by walk_at "2") (by walk_at "L") λf PC A outer s H E hr=>⟨_,_,(ai (dI (λ_ h=>bN (i:=2) dO.nd rfl (HC rfl) h) (aP (aa (kO (kY (tg:=["pair"]) (cs:=["followers"]) (ix:=[0]) rfl hr.units (aI (aj cM) ["followers","high","ways","left","fewer"] (by decide +kernel)) rfl (aO (by decide)) (by decide) (li (ae 0 (pv 0))) (λ_ _ _ _=>(au (aq (i:=0) (show (["pair","followers"]:List Str).Nodup by decide +kernel) rfl (HC rfl) (by first | exact HC rfl | exact Jm rfl)))) (λ_ _ _ _=>bQ) (λ_ _ _ _=>(ae 0 (pv 0))) (λ_ _ _ _=>(iP (cH (aW UK hr (aa (ae 1 (pv 1)) (aa (ae 0 (pv 0)) ah)))) af af)))) ah)))
  (ai (cj IY rfl (b6 rfl T.range (aa (ae 1 (pv 1)) ah)) (au (aq (i:=3) dO.nd rfl (HC rfl) (HC rfl))) (ai (aC (i:=4) dO.nd rfl (Jm rfl) (aK rfl (ae 2 (pv 2)) (fJ dR af) (λ_ _=>rfl)))
  (ao (cz (nQ 2 rfl (pv 2) (kO (vD (yc:="pair") (tg:=["pair"]) (cs:=["fewer","followers"]) (ix:=[4,0]) rfl hr.units (mV (y:="pair") (aj cM) ["followers","high","ways","left","fewer"] 1 (by decide +kernel)) rfl (aO (by decide)) (by decide) (li (ae 0 (pv 0))) (λ_ _ _ _=>(au (aq (i:=0) (show (["pair","fewer","followers"]:List Str).Nodup by decide +kernel) rfl (Jm rfl) (by first | exact HC rfl | exact Jm rfl)))) (λ_ _ _ _=>bQ) (λ_ _ _ _=>(ae 0 (pv 0))) (λ_ _ _ _=>(aT (uc (K:=K) rfl rfl) ue (by rfl) T.sum_ nX (aa (aH (bR (tg:=["below"]) (cs:=["fewer","pair"]) (ix:=[1,0]) (lw (yW ((bJ cM).getD 1 (.Pass ⟨0,0,0,0⟩))) ["pair","fewer","followers"] (by decide +kernel)) rfl (aO (by decide)) (by decide) (ba rfl (gm rfl hr.units (ae 2 (pv 2)) (ae 0 (pv 0)) (λ_ _=>rfl))) (λ_ _ _ _=>(au (aq (i:=0) (show (["below","fewer","pair"]:List Str).Nodup by decide +kernel) rfl (HC rfl) (by first | exact HC rfl | exact Jm rfl)))) (λ_ _ _ _=>bQ) (λ_ _ _ _=>(om rfl hr.units (ae 1 (pv 1)) (aB (aa (aK rfl (ae 2 (pv 2)) af (λ_ _=>rfl)) (aa (ae 0 (pv 0)) ah))) (λ_ _=>rfl))))) ah))))))))))
  (ao (aJ (aL (ae 2 (pv 2))))))),?_⟩
 rintro ds R ⟨F,kvs,h,rfl,hF,hl,hh,q⟩
 have hkl:(kvs.map (·.1)).length<=256:=by have:=hF.len;rw[Hz];lia
 walk_at "sl"
 walk_at "rd"
 refine fE (xs:=kvs.map (·.1)) (ky:=id) (f:=λp=>.int (Tp F 0 p)) (by lia) (λp hp A B hA=>?_) ?_
 ·obtain ⟨a,r,rfl,_⟩:=qc (hF.keys p hp)
  dsimp only[aS,HH,HJ,Iz,Iu,IA]
  walk_at "rd"
  refine ⟨F,kvs,a,r,rfl,hF,hp,?_⟩
  walk_at "rd"
  have Wb:∀z,Tp F 0 [a,r]=z->∀S5,Pu 1 [0] _ S5=_->A [a,r] (.int z) S5:=λz e S5 h=>e▸hA S5 h
  refine kI (λe=>?_) (λe=>?_)
  ·walk_at "rd"
   exact Wb _ (if_pos e) _ rfl
  ·walk_at "rd"
   exact Wb _ (if_neg λz=>by rw[show Vn F a r=true from z] at e;cases e) _ rfl
 walk_at "rd"
 refine ik (λi S2=>∃s3 s4,S2=[.val (dc kvs),.val (.int h),.own (SI F kvs (i+1)),s3,s4]) ⟨_,_,rfl⟩ ?_ ?_
 ·rintro i S2 hi ⟨s3,s4,rfl⟩
  walk_at "rd"
  refine dM rfl rfl (v7 F kvs i) ?_
  walk_at "rd"
  refine fE (xs:=kvs.map (·.1)) (ky:=id) (f:=λp=>.int (Tp F (i+1) p)) (by lia) (λp hp A B hA=>?_) ?_
  ·obtain ⟨a,r,rfl,_⟩:=qc (hF.keys p hp)
   obtain ⟨v1,v2⟩:=hF.val a r hp
   dsimp only[aS,HH,HJ,Iz,Iu,IA]
   walk_at "rd"
   refine gn (kvs:=kvs) (ms:=[a,r]) rfl rfl v1 ?_
   walk_at "rd"
   have:=hl a r
   refine comp_map (xs:=F a r) (en:=D.int) (f:=λb=>.int (Tw F i r b)) (by lia) (λb hb A B hA=>?_) ?_
   ·dsimp only[aS,HH,HJ,Iz,Iu,IA]
    walk_at "rd"
    refine lq (kvs:=wd F kvs i) (ms:=[r,b]) rfl rfl (AQ ((v2 b hb).resolve_right λz=>nomatch z)) ?_
    walk_at "rd"
    exact hA _ rfl
   rw[show (F a r).map (λb=>D.int (Tw F i r b))=((F a r).map λb=>Tw F i r b).map D.int by rw[Iq];rfl]
   walk_at "rd"
   refine ug ?_
   walk_at "rd"
   exact hA _ rfl
  ·walk_at "rd"
   refine nR rfl (by rw[yX];lia) ?_
   dsimp only[Ig,Iy]
   walk_at "rd"
   exact ⟨_,_,by rw[m9 F kvs (i+1)];rfl⟩
 ·rintro S2 ⟨s3,s4,rfl⟩
  walk_at "rd"
  exact q
end
end My
namespace My
open PySem L2 VL
def fr (p:Nat->Bool) (w:Nat):List Nat:=(HF w).filter p
theorem qg (p:Nat->Bool) (w:Nat):fr p (w+1)=fr p w++if p w=true then [w] else []:=by
 unfold fr
 rw[KS,Jr]
 congr 1
 by_cases h:p w=true <;> simp[h]
def st (k:Int):List (List Int):=if k=4 then [[-1,0],[0,-1],[0,1],[1,0]] else if k=6 then [[-1,0],[0,-1],[0,1],[1,0],[-1,-1],[1,1]] else [[-1,0],[0,-1],[0,1],[1,0],[-1,-1],[1,1],[-1,1],[1,-1]]
theorem dQ {k:Int} (hk:Kd k):(st k).Perm (nr k):=by rcases hk with rfl | rfl | rfl <;> decide +kernel
def RS (x y:Int) (m:List Int):List Int:=match m with
 | [dx,dy]=>[x+dx,y+dy]
 | _=>[]
def lives (k:Int) (bo sy:List Int) (ks:List (List Int)) (x y:Int):Bool:=decide ((((st k).filter λm=>decide (RS x y m∈ks)).length:Int)∈(if [x,y]∈ks then sy else bo))
def AS:List Int->List D->(D->List Int->Prop)->Prop:=λpn ds R=>∃b:Nat,ds=[.int 1]/\Pn b pn/\b<=1000/\∀(k:Int) (bo sy:List Int) QW,Kd k->0∉bo->bo.length<=9->Pn (b+30) QW->R (rl k bo sy) QW
def AT:List D->(D->Prop)->Prop:=λds R=>∃k,ds=[.int k]/\Kd k/\R (eL (st k))
def v8:List D->(D->Prop)->Prop:=λds R=>∃k bo sy kvs x y,ds=[rl k bo sy,eL (st k),dc kvs,.int x,.int y]/\Kd k/\R (.bl (lives k bo sy (kvs.map (·.1)) x y))
theorem GQ {r:Int} (h0:0<=r) (h1:r<3):∃k,Kd k/\QY [D.int 8,.int 6,.int 4] r=some (.int k):=by
 have:r=0\/r=1\/r=2:=by lia
 rcases this with rfl | rfl | rfl
 ·exact ⟨8,.inr (.inr rfl),rfl⟩
 ·exact ⟨6,.inr (.inl rfl),rfl⟩
 ·exact ⟨4,.inl rfl,rfl⟩
theorem qh (l:List Nat) (lo:Int):(l.map λ(i:Nat)=>D.int (lo+(i:Int)))=(l.map λ(i:Nat)=>lo+(i:Int)).map D.int:=by rw[Iq];rfl
theorem ke (l:List Nat) (lo:Int):flats (l.map λ(i:Nat)=>D.int (lo+(i:Int)))=true:=by
 rw[show (l.map λ(i:Nat)=>D.int (lo+(i:Int)))=(l.map λ(i:Nat)=>lo+(i:Int)).map D.int by rw[Iq];rfl]
 exact cI _
theorem v9 (p:Nat->Bool) (b:Bool) (w:Nat):fr (λx=>if x=w then b else p x) (w+1)=fr p w++if b=true then [w] else []:=by
 rw[qg]
 congr 1
 ·unfold fr
  refine Jy λx hx=>?_
  have:=List.mem_range.mp hx
  rw[if_neg (by lia)]
 ·rw[if_pos rfl]
theorem g7 {T:List Sl}:∀(r:List Sl) (k:Nat),cg 1 [0] T (k+1) r=r
 | [],_=>rfl
 | s::r,k=>by
  have:([0]:List Nat).idxOf? (k+1)=none:=by simp[OY,List.findIdx?_cons]
  unfold cg
  rw[this,g7 r (k+1)]
theorem kh {ad:Option Addr} {pn RG:List Int} {rest:List Sl} {x:Sl}:Pu 1 [0] (.pen ad pn::rest) [x,.pen ad RG]=.pen ad RG::rest:=by
 show cg 1 [0] _ 0 _=_
 unfold cg
 rw[g7]
 rfl
theorem qj {ad:Option Addr} {pn:List Int} {rest:List Sl} {QN:List D->List Sl->Prop} {vt:Qo} {lo:Int} {n b:Nat} (hb:b+n<=1000000) (hp:Pn b pn)
  (WN:∀(b':Nat) (QW:List Int) (x:Int) (A:Bool->List Sl->Prop),Pn b' QW->b'<=1000000->(∀v RG,Pn (b'+1) RG->A v [.val (.int x),.pen ad RG])->vt [.val (.int x),.pen ad QW] A)
  (q:∀(p:Nat->Bool) QW,Pn (b+n) QW->QN ((fr p n).map λ(i:Nat)=>D.int (lo+(i:Int))) (.pen ad QW::rest)):jS 1 [0] (Uk 0) vt (sX (sW 0)) QN (rg lo n) (.pen ad pn::rest):=by
 refine tY (λi ys S2=>∃(p:Nat->Bool) (QW:List Int),Pn (b+i) QW/\ys=((fr p i).map λ(i:Nat)=>D.int (lo+(i:Int)))/\S2=.pen ad QW::rest) (by lia) ⟨λ_=>false,pn,hp,rfl,rfl⟩ ?_ ?_
 ·rintro i ys S2 hi ⟨p,QW,h1,rfl,rfl⟩
  refine ⟨(by show 0<_;simp[aS]),?_⟩
  show vt [.val (.int (lo+(i:Int))),.pen ad QW] _
  refine WN (b+i) QW _ _ h1 (by lia) λv RG h2=>?_
  cases v with
  | true=>
   refine dw (λ_=>?_) (λe=>nomatch e)
   refine ⟨.d (.int (lo+(i:Int))),rfl,rfl,?_⟩
   refine mz ?_
   rw[kh]
   exact ⟨λx=>if x=i then true else p x,RG,h2,by rw[v9,HX];rfl,rfl⟩
  | false=>
   refine dw (λe=>nomatch e) (λ_=>?_)
   rw[kh]
   exact ⟨λx=>if x=i then false else p x,RG,h2,by rw[v9,HX];simp,rfl⟩
 ·rintro ys S2 ⟨p,QW,h1,rfl,rfl⟩
  exact q p QW h1
theorem DZ (p:Nat->Bool) (n:Nat):(fr p n).length<=n:=by
 unfold fr
 have:=JS p (HF n)
 rwa [ID] at this
theorem nh {k:Int} {bo sy:List Int} {ks ys:List (List Int)} (h:∀c,c∈ks↔c∈ys) (x y:Int):lives k bo sy ks x y=lives k bo sy ys x y:=by
 unfold lives
 simp only[h]
def X7 (k:Int) (p:List Int):List (List Int):=p::(st k).map λm=>RS (p.getD 0 0) (p.getD 1 0) m
def lk (k:Int) (xs:List (List Int)):List (List Int):=xs.flatMap (X7 k)
def UL (k:Int) (bo sy:List Int) (xs:List (List Int)) (c:List Int):Bool:=decide (lives k bo sy xs (c.getD 0 0) (c.getD 1 0)=decide (c∈xs))
def rests (k:Int) (bo sy:List Int) (xs:List (List Int)):Bool:=(lk k xs).all (UL k bo sy xs)
def wb:List D->(D->Prop)->Prop:=λds R=>∃k bo sy xs,ds=[rl k bo sy,eL (st k),eL xs]/\Kd k/\(∀p∈xs,Pr p)/\xs.length<=8/\R (.bl (rests k bo sy xs))
def GR:List D->(D->Prop)->Prop:=λds R=>∃n:Int,ds=[.int n]/\R (.bl true)
theorem D0 {k:Int} (hk:Kd k):(st k).length<=8:=by rcases hk with rfl | rfl | rfl <;> decide
section
variable {P:Ip} {w:Ji} {K:Ho} {mg:Str->Option Ht} {base:Heap}
theorem yZ (S:Src K mg "_law_rule" jr) (T:QF mg) (Rf:PK P w K mg base 1 "_law_draw" ["_law_pen_here","_law_many"] (SD K 0 mY)):PK P w K mg base 2 "_law_rule" ["_law_pen_here","_law_least"] (SD K 0 AS):=by
 refine tI 0 S fF (by walk_at "2") (by walk_at "L") λf PC A outer s H E hr=>⟨_,_,(ai (aC (i:=2) fF.nd rfl (HC rfl) (aK rfl (aH (aP (aa af (aa af (aa af ah))))) (bP Rf hr (aa (ae 0 (pv 0)) (aa af ah))) (λ_ _=>rfl)))
  (ai (b8 (bw iF nO (bP Rf hr (aa (ae 0 (pv 0)) (aa af ah))) af (br _)) (ai (aC (i:=3) fF.nd rfl (HC rfl) (aK rfl (aK rfl (aH (aP (aa (aH (aP (aa (aB (aa af ah)) (aa (aB (aa af ah)) (aa (aB (aa af (aa af ah))) ah))))) (aa (aH (aP (aa (aB (aa af ah)) (aa (aB (aa af ah)) (aa (aB (aa af (aa af ah))) ah))))) (aa (aH (aP (aa (aB (aa af ah)) (aa (aB (aa af ah)) (aa (aB (aa af ah)) ah))))) ah))))) (aA hZ bU (aA eW aE af (ae 2 (pv 2))) af) (λ_ _=>rfl)) (bP Rf hr (aa (ae 0 (pv 0)) (aa af ah))) (λ_ _=>rfl)))
  (ai (aC (i:=4) fF.nd rfl (HC rfl) (aK rfl (aH (aP (aa (aB (aa af (aa af ah))) (aa (aB (aa af (aa af ah))) (aa (aB (aa af (aa af (aa af (aa af ah))))) (aa (xG rfl (by rfl) T.tuple_ (by rfl) T.range (aa (aA aZ aE (ae 2 (pv 2)) af) ah)) (aa (aB (aa af ah)) (aa (aB ah) ah)))))))) (bP Rf hr (aa (ae 0 (pv 0)) (aa af ah))) (λ_ _=>rfl)))
  (ao (aJ (aB (aa (aL (ae 2 (pv 2))) (aa (aL (ae 3 (pv 3))) (aa (aL (ae 4 (pv 4))) ah)))))))) bg)
  (ai (mq (ii:=3) (tg:=["_law_count"]) (cs:=["_law_pen_here"]) (ix:=[0]) fF.nd rfl (HC rfl) (HC rfl) (aI (aj jr) ["_law_pen_here","_law_least","_law_kind","_law_born","_law_stay"] (by decide +kernel)) rfl (aO (by decide)) (by decide) (jO rfl T.range (aa (ae 1 (pv 1)) (aa (aA aZ aE (ae 2 (pv 2)) af) ah))) (λ_ _ _ _=>(au (aq (i:=0) (show (["_law_count","_law_pen_here"]:List Str).Nodup by decide +kernel) rfl (HC rfl) (by first | exact HC rfl | exact Jm rfl)))) (λ_ _ _ _=>(eJ (bw iF nO (bP Rf hr (aa (ae 1 (pv 1)) (aa af ah))) af (br _)))) (λ_ _ _ _=>(aL (ae 0 (pv 0)))))
  (ai (mq (ii:=4) (tg:=["_law_count"]) (cs:=["_law_pen_here"]) (ix:=[0]) fF.nd rfl (HC rfl) (HC rfl) (aI (aj jr) ["_law_pen_here","_law_least","_law_kind","_law_born","_law_stay"] (by decide +kernel)) rfl (aO (by decide)) (by decide) (b6 rfl T.range (aa (aA aZ aE (ae 2 (pv 2)) af) ah)) (λ_ _ _ _=>(au (aq (i:=0) (show (["_law_count","_law_pen_here"]:List Str).Nodup by decide +kernel) rfl (HC rfl) (by first | exact HC rfl | exact Jm rfl)))) (λ_ _ _ _=>(eJ (bw iF nO (bP Rf hr (aa (ae 1 (pv 1)) (aa af ah))) af (br _)))) (λ_ _ _ _=>(aL (ae 0 (pv 0)))))
  (ao (aJ (aB (aa (aL (ae 2 (pv 2))) (aa (iS rfl (by rfl) T.tuple_ (aa (ae 3 (pv 3)) ah)) (aa (iS rfl (by rfl) T.tuple_ (aa (ae 4 (pv 4)) ah)) ah)))))))))),?_⟩
 rintro a pn ds es R hl ⟨b,e,X8,hb,q⟩
 obtain rfl:ds=[]:=Jn hl
 obtain rfl:es=[.int 1]:=e
 walk_at "sl"
 walk_at "rd"
 refine ⟨b,3,rfl,X8,by lia,by lia,by lia,λpn1 r1 h1 WO WQ=>?_⟩
 walk_at "rd"
 obtain ⟨k,hk,ek⟩:=GQ WO WQ
 have hkb:4<=k/\k<=8:=by rcases hk with rfl | rfl | rfl <;> lia
 refine dM rfl rfl ek ?_
 walk_at "rd"
 refine ⟨b+1,2,rfl,h1,by lia,by lia,by lia,λRG r2 h2 X9 r2b=>?_⟩
 walk_at "rd"
 refine eZ (λc1=>?_) (λc1=>?_)
 ·walk_at "rd"
  have WH:∃bl:List (List Int),(∀b∈bl,0∉b/\b.length<=9)/\bl.length=3/\QY [D.lst [.tup [.int 3],.tup [.int 2],.tup [.int 3,.int 6]],.lst [.tup [.int 2],.tup [.int 3],.tup [.int 2,.int 4]],.lst [.tup [.int 2],.tup [.int 1],.tup [.int 3]]] ((8-k) / 2)=some (.lst (bl.map eT)):=by
   rcases hk with rfl | rfl | rfl
   ·exact ⟨[[2],[1],[3]],by decide,rfl,rfl⟩
   ·exact ⟨[[2],[3],[2,4]],by decide,rfl,rfl⟩
   ·exact ⟨[[3],[2],[3,6]],by decide,rfl,rfl⟩
  obtain ⟨bl,hn0,WM,ebl⟩:=WH
  refine dM rfl rfl ebl ?_
  walk_at "rd"
  refine ⟨b+2,3,rfl,h2,by lia,by lia,by lia,λWd r3 h3 Ya r3b=>?_⟩
  walk_at "rd"
  obtain ⟨bo,hbo,_,e3⟩:=d9 (f:=eT) (l:=bl) Ya (by lia)
  refine dM rfl rfl e3 ?_
  walk_at "rd"
  refine ⟨b+3,6,rfl,h3,by lia,by lia,by lia,λYb r4 h4 r4a r4b=>?_⟩
  walk_at "rd"
  obtain ⟨sy,_,_,e4⟩:=d9 (f:=eT) (l:=[[2,3],[1,2],[0,1,2,3],SU 0 (k+1).toNat,[2],[]]) r4a r4b
  rw[show D.tup (rg 0 (k+1).toNat)=eT (SU 0 (k+1).toNat) by rw[uf]]
  refine dM rfl rfl e4 ?_
  walk_at "rd"
  exact ⟨_,rfl,q k bo sy _ hk (hn0 bo hbo).1 (hn0 bo hbo).2 (h4.le (by lia))⟩
 ·walk_at "rd"
  dsimp only[Ig]
  have WN:∀(b':Nat) (QW:List Int) (x:Int) (A:Bool->List Sl->Prop),Pn b' QW->b'<=1000000->(∀v RG,Pn (b'+1) RG->A v [.val (.int x),.pen (some a) RG])->(jN (v2 Xa (BY 0 mY (o8 (sW 1) (o8 (vC (D.int 2)) BO))) (vC (D.int 1)))) [.val (.int x),.pen (some a) QW] A:=by
   intro b' QW x A h1 h2 h3
   walk_at "rd"
   refine ⟨b',2,rfl,h1,by lia,by lia,by lia,λWd r3 h4 Ya r3b=>?_⟩
   walk_at "rd"
   exact h3 _ _ h4
  refine qj (b:=b+2) (by lia) h2 WN λp1 Wd h3=>?_
  walk_at "rd"
  refine qj (b:=b+2+(k+1-1).toNat) (by lia) h3 WN λp2 Yb h4=>?_
  walk_at "rd"
  refine pC rfl (ke _ _) ?_
  walk_at "rd"
  refine pC rfl (ke _ _) ?_
  walk_at "rd"
  rw[qh,qh]
  exact ⟨_,rfl,q k _ _ _ hk (λz=>by obtain ⟨i,_,e⟩:=List.mem_map.mp z;lia) (by rw[Hz];exact Jf (DZ _ _) (by lia)) (h4.le (by lia))⟩
theorem za (S:Src K mg "_law_near" ou) (T:QF mg):PK P w K mg base 1 "_law_near" ["_law_kind"] (PM K AT):=by
 refine bF S iy (by walk_at "1") (by walk_at "L") λf PC A outer s H E hr=>⟨_,_,(ai (dI (λ_ h=>bN (i:=1) iy.nd rfl (HC rfl) h) (aP (aa (aB (aa (fJ dR af) (aa af ah))) (aa (aB (aa af (aa (fJ dR af) ah))) (aa (aB (aa af (aa af ah))) (aa (aB (aa af (aa af ah))) ah))))))
  (ai (b8 (bw oP aE (ae 0 (pv 0)) af (br _)) (ao (dI (λ_ h=>bN (i:=1) iy.nd rfl (HC rfl) h) (t5 1 (pv 1) (aP (aa (aB (aa (fJ dR af) (aa (fJ dR af) ah))) (aa (aB (aa af (aa af ah))) ah)))))) bg)
  (ai (b8 (bw oP aE (ae 0 (pv 0)) af (br _)) (ao (dI (λ_ h=>bN (i:=1) iy.nd rfl (HC rfl) h) (t5 1 (pv 1) (aP (aa (aB (aa (fJ dR af) (aa af ah))) (aa (aB (aa af (aa (fJ dR af) ah))) ah)))))) bg)
  (ao (aJ (aL (ae 1 (pv 1)))))))),?_⟩
 rintro ds R ⟨k,rfl,hk,q⟩
 walk_at "sl"
 rcases hk with rfl | rfl | rfl
 all_goals
  repeat first
   | walk_at "rc1"
   | refine CK rfl (by decide) ?_
  exact q
theorem we (S:Src K mg "_law_lives" iz) (T:QF mg):PK P w K mg base 1 "_law_lives" ["_law_code","_law_near_here","_law_live","_law_x","_law_y"] (PM K v8):=by
 refine bF S mX (λ_ _ _ _ _ _ us hl=>match us,hl with | [_,_,_,_,_],_=>rfl) (by walk_at "L") λf PC A outer s H E hr=>⟨_,_,(ai (aC (i:=5) mX.nd rfl (HC rfl) (aT (i7 (K:=K) rfl) iR (by rfl) T.len_ fM (aa (aH (bR (tg:=["_law_step"]) (cs:=["_law_live","_law_x","_law_y"]) (ix:=[2,3,4]) (aI (aj iz) ["_law_code","_law_near_here","_law_live","_law_x","_law_y","_law_count"] (by decide +kernel)) rfl (aO (by decide)) (by decide) (ba rfl (ae 1 (pv 1))) (λ_ _ _ _=>(au (aq (i:=0) (show (["_law_step","_law_live","_law_x","_law_y"]:List Str).Nodup by decide +kernel) rfl (HC rfl) (by first | exact HC rfl | exact Jm rfl)))) (λ_ _ _ _=>(eJ (bw (pG (K:=K) rfl hr.units) mE (aB (aa (aA aZ aE (ae 2 (pv 2)) (aK rfl (ae 0 (pv 0)) af (λ_ _=>rfl))) (aa (aA aZ aE (ae 3 (pv 3)) (aK rfl (ae 0 (pv 0)) af (λ_ _=>rfl))) ah))) (ae 1 (pv 1)) (by with_unfolding_all rfl)))) (λ_ _ _ _=>(aL (ae 0 (pv 0)))))) ah)))
  (ai (b8 (bw (pG (K:=K) rfl hr.units) mE (aB (aa (ae 3 (pv 3)) (aa (ae 4 (pv 4)) ah))) (ae 2 (pv 2)) (by with_unfolding_all rfl)) (ao (aJ (dt (iX (K:=K) rfl hr.units) jR (ae 5 (pv 5)) (aK rfl (ae 0 (pv 0)) af (λ_ _=>rfl)) (by with_unfolding_all rfl)))) bg)
  (ao (aJ (dt (iX (K:=K) rfl hr.units) jR (ae 5 (pv 5)) (aK rfl (ae 0 (pv 0)) af (λ_ _=>rfl)) (by with_unfolding_all rfl)))))),?_⟩
 rintro ds R ⟨k,bo,sy,kvs,x,y,rfl,hk,q⟩
 walk_at "sl"
 unfold rl
 walk_at "rd"
 have hl:(st k).length<=8:=by rcases hk with rfl | rfl | rfl <;> decide
 refine cq (xs:=st k) (en:=eT) (f:=eT) (p:=λm=>decide (RS x y m∈kvs.map (·.1))) (by lia) (λm hm A B hA hB=>?_) ?_
 ·obtain ⟨dx,dy,rfl⟩:=fK hk ((dQ hk).mem_iff.mp hm)
  dsimp only[aS,HH,HJ,Iz,Iu,IA]
  walk_at "rd"
  refine i8 (ms:=[x+dx,y+dy]) (kvs:=kvs) rfl rfl ?_
  walk_at "rd"
  cases hp:decide (RS x y [dx,dy]∈kvs.map (·.1)) with
  | true=>
   rw[show (if false=true then !decide ([x+dx,y+dy]∈kvs.map (·.1)) else decide ([x+dx,y+dy]∈kvs.map (·.1)))=true from hp]
   walk_at "rd"
   exact hA _ rfl hp
  | false=>
   rw[show (if false=true then !decide ([x+dx,y+dy]∈kvs.map (·.1)) else decide ([x+dx,y+dy]∈kvs.map (·.1)))=false from hp]
   walk_at "rd"
   exact hB _ rfl hp
 ·walk_at "rd"
  rw[Hz]
  refine i8 (ms:=[x,y]) (kvs:=kvs) rfl rfl ?_
  walk_at "rd"
  unfold lives at q
  by_cases h:[x,y]∈kvs.map (·.1)
  ·rw[show (if false=true then !decide ([x,y]∈kvs.map (·.1)) else decide ([x,y]∈kvs.map (·.1)))=true from decide_eq_true h]
   rw[if_pos h] at q
   walk_at "rd"
   refine kQ (f:=D.int) cA ?_
   walk_at "rd"
   exact q
  ·rw[show (if false=true then !decide ([x,y]∈kvs.map (·.1)) else decide ([x,y]∈kvs.map (·.1)))=false from decide_eq_false h]
   rw[if_neg h] at q
   walk_at "rd"
   refine kQ (f:=D.int) cA ?_
   walk_at "rd"
   exact q
theorem D1 (S:Src K mg "_law_whole" lK) (T:QF mg):PK P w K mg base 1 "_law_whole" ["_law_found"] (PM K GR):=by
 refine bF S vH (by walk_at "1") (by walk_at "L") λf PC A outer s H E hr=>⟨_,_,(ao (aJ (dU (aT (my (K:=K) rfl) mi (by rfl) T.isinstance_ bG (aa (ae 0 (pv 0)) (aa (iO (fv (v:=.ty "int") (by rfl) T.int_ sP rfl) (λ_ _=>.ty _)) ah))) (fO (sY (aT (my (K:=K) rfl) mi (by rfl) T.isinstance_ bG (aa (ae 0 (pv 0)) (aa (iO (fv (v:=.ty "bool") (by rfl) T.bool_ oV rfl) (λ_ _=>.ty _)) ah)))))))),?_⟩
 rintro ds R ⟨n,rfl,q⟩
 walk_at "sl"
 walk_at "rc"
 exact q
theorem wg (S:Src K mg "_law_rests" lJ) (T:QF mg) (UM:PK P w K mg base 1 "_law_lives" ["_law_code","_law_near_here","_law_live","_law_x","_law_y"] (PM K v8)):PK P w K mg base 2 "_law_rests" ["_law_code","_law_near_here","_law_live"] (PM K wb):=by
 refine bF S cE (by walk_at "3") (by walk_at "L") λf PC A outer s H E hr=>⟨_,_,(ai (fC (λ_ h=>bN (i:=3) cE.nd rfl (HC rfl) h) kM)
  (ai (fC (λ_ h=>bN (i:=4) cE.nd rfl (HC rfl) h) kM)
  (ai (cj IY rfl (ba rfl (ae 2 (pv 2))) (bO (n:=2) rfl rfl (az (au (aq (i:=5) cE.nd rfl (HC rfl) (HC rfl))) (az (au (aq (i:=6) cE.nd rfl (HC rfl) (HC rfl))) bD))) (ai (gh 3 rfl hr.units (pv 3) aX (aB (aa (ae 5 (pv 5)) (aa (ae 6 (pv 6)) ah))))
  (ai (gh 4 rfl hr.units (pv 4) aX (aB (aa (ae 5 (pv 5)) (aa (ae 6 (pv 6)) ah))))
  (ao (cj IY rfl (ba rfl (ae 1 (pv 1))) (bO (n:=2) rfl rfl (az (au (aq (i:=7) cE.nd rfl (HC rfl) (HC rfl))) (az (au (aq (i:=8) cE.nd rfl (HC rfl) (HC rfl))) bD))) (ao (gh 4 rfl hr.units (pv 4) aX (aB (aa (aA aZ aE (ae 5 (pv 5)) (ae 7 (pv 7))) (aa (aA aZ aE (ae 6 (pv 6)) (ae 8 (pv 8))) ah))))))))))
  (ai (ym 4 (cj IY rfl (li (ae 4 (pv 4))) (bO (n:=2) rfl rfl (az (au (aq (i:=5) cE.nd rfl (HC rfl) (HC rfl))) (az (au (aq (i:=6) cE.nd rfl (HC rfl) (HC rfl))) bD))) (ao (b8 (bw zx Ex (aW UM hr (aa (ae 0 (pv 0)) (aa (ae 1 (pv 1)) (aa (ae 3 (pv 3)) (aa (ae 5 (pv 5)) (aa (ae 6 (pv 6)) ah)))))) (dt (pG (K:=K) rfl hr.units) mE (aB (aa (ae 5 (pv 5)) (aa (ae 6 (pv 6)) ah))) (ae 3 (pv 3)) (by with_unfolding_all rfl)) (br _)) (ao (aJ aX)) bg))))
  (ao (aJ aX)))))),?_⟩
 rintro ds R ⟨k,bo,sy,xs,rfl,hk,hp,hl,q⟩
 have hsl:=D0 hk
 walk_at "sl"
 walk_at "rd"
 refine du (λi S2=>∃ka kl s5 s6 s7 s8,S2=[.val (rl k bo sy),.val (eL (st k)),.val (eL xs),od ka,od kl,s5,s6,s7,s8]/\(∀c,c∈ka.map (·.1)↔c∈xs.take i)/\(∀c,c∈kl.map (·.1)↔c∈lk k (xs.take i))/\ka.length<=i/\kl.length<=9*i) ⟨[],[],_,_,_,_,rfl,λc=>by simp,λc=>by simp[lk],HA _,HA _⟩ ?_ ?_
 ·rintro i d S2 e ⟨ka,kl,s5,s6,s7,s8,rfl,ha,Vo,la,ll⟩
  have hi:i<xs.length:=by have:=(List.getElem?_eq_some_iff.mp e).1;rwa [Hz] at this
  obtain ⟨x,h1,rfl,hm,ht⟩:=aF e
  obtain ⟨a,b,rfl⟩:=hp x hm
  walk_at "rd"
  refine e9 (ms:=[a,b]) rfl rfl (by lia) ?_
  dsimp only[Ig,Iy]
  walk_at "rd"
  refine e9 (ms:=[a,b]) rfl rfl (by lia) ?_
  dsimp only[Ig,Iy]
  walk_at "rd"
  have l1:=lM (kvs:=ka) (m:=[a,b]) (d:=.bl true)
  have l2:=lM (kvs:=kl) (m:=[a,b]) (d:=.bl true)
  refine du (λj S2=>∃Vp s7 s8,S2=[.val (rl k bo sy),.val (eL (st k)),.val (eL xs),od (PN ka [a,b] (.bl true)),od Vp,.val (.int a),.val (.int b),s7,s8]/\(∀c,c∈Vp.map (·.1)↔(c=[a,b]\/c∈lk k (xs.take i))\/c∈((st k).take j).map λm=>RS a b m)/\Vp.length<=9*i+1+j) ⟨_,_,_,rfl,λc=>by rw[bW,Vo];simp,by lia⟩ ?_ ?_
  ·rintro j d S2 e ⟨Vp,s7,s8,rfl,Q5,lk2⟩
   have hj:j<(st k).length:=by have:=(List.getElem?_eq_some_iff.mp e).1;rwa [Hz] at this
   obtain ⟨m,h2,rfl,hm2,ht2⟩:=aF e
   obtain ⟨dx,dy,rfl⟩:=fK hk ((dQ hk).mem_iff.mp hm2)
   walk_at "rd"
   have l3:=lM (kvs:=Vp) (m:=[a+dx,b+dy]) (d:=.bl true)
   refine e9 (ms:=[a+dx,b+dy]) rfl rfl (by lia) ?_
   dsimp only[Ig,Iy]
   walk_at "rd"
   refine ⟨_,_,_,rfl,λc=>?_,by lia⟩
   rw[bW,Q5,ht2,HX,JD]
   simp only[HJ,Iz,Jz,RS]
   exact ⟨λz=>z.elim (λz=>.inr (.inr z)) λz=>z.elim .inl λz=>.inr (.inl z),λz=>z.elim (λz=>.inr (.inl z)) λz=>z.elim (λz=>.inr (.inr z)) .inl⟩
  ·rintro S2 ⟨Vp,s7,s8,rfl,Q5,lk2⟩
   rw[Hz] at Q5 lk2
   rw[I0] at Q5
   refine ⟨_,_,_,_,_,_,rfl,λc=>?_,λc=>?_,by lia,by lia⟩
   ·rw[bW,ha,ht,JD,Jz,or_comm]
   ·rw[Q5,ht]
    unfold lk
    rw[JL,JD]
    simp only[JE,LW,IV,X7,JO]
    exact ⟨λz=>z.elim (λz=>z.elim (λz=>.inr (.inl z)) .inl) λz=>.inr (.inr z),λz=>z.elim (λz=>.inl (.inr z)) λz=>z.elim (λz=>.inl (.inl z)) .inr⟩
 ·rintro S2 ⟨ka,kl,s5,s6,s7,s8,rfl,ha,Vo,la,ll⟩
  rw[Hz,I0] at ha Vo
  have WR:∀c∈lk k xs,Pr c:=λc hc=>by
   obtain ⟨p,h1,h2⟩:=List.mem_flatMap.mp hc
   rcases List.mem_cons.mp h2 with rfl | h2
   ·exact hp _ h1
   ·obtain ⟨m,h3,rfl⟩:=List.mem_map.mp h2
    obtain ⟨dx,dy,rfl⟩:=fK hk ((dQ hk).mem_iff.mp h3)
    exact ⟨_,_,rfl⟩
  walk_at "rd"
  refine du (λi S2=>∃s5 s6 s7 s8,S2=[.val (rl k bo sy),.val (eL (st k)),.val (eL xs),od ka,.val (dc kl),s5,s6,s7,s8]/\∀c∈(kl.map (·.1)).take i,UL k bo sy xs c=true) ⟨_,_,_,_,rfl,λc hc=>nomatch hc⟩ ?_ ?_
  ·rintro i d S2 e ⟨s5,s6,s7,s8,rfl,hok⟩
   obtain ⟨c,h1,rfl,hm,ht⟩:=aF e
   obtain ⟨a,b,rfl⟩:=WR c ((Vo c).mp hm)
   rw[show kT [a,b]=eT [a,b] from rfl]
   walk_at "rd"
   refine ⟨k,bo,sy,ka,a,b,rfl,hk,?_⟩
   walk_at "rd"
   refine i8 (ms:=[a,b]) (kvs:=ka) rfl rfl ?_
   rw[if_neg Hy,nh ha,show decide ([a,b]∈ka.map (·.1))=decide ([a,b]∈xs) from decide_eq_decide.mpr (ha _)]
   walk_at "rd"
   refine FI ?_
   walk_at "rd"
   refine tN (λh=>?_) (λh=>?_)
   ·rw[show rests k bo sy xs=false from Bool.eq_false_iff.mpr λz=>h (of_decide_eq_true (List.all_eq_true.mp z [a,b] ((Vo _).mp hm)))] at q
    walk_at "rd"
    exact q
   ·walk_at "rd"
    refine ⟨_,_,_,_,rfl,λc hc=>?_⟩
    rw[ht] at hc
    rcases List.mem_append.mp hc with hc | hc
    ·exact hok c hc
    ·rw[List.mem_singleton.mp hc]
     exact decide_eq_true h
  ·rintro S2 ⟨s5,s6,s7,s8,rfl,hok⟩
   rw[Hz,I0] at hok
   rw[show rests k bo sy xs=true from List.all_eq_true.mpr λc hc=>hok c ((Vo c).mpr hc)] at q
   walk_at "rd"
   exact q
end
end My
namespace My
open PySem L2 VL
section
variable (g:Int->Int->Int->Int) (w:Nat)
def Rv (a r b:Nat):Bool:=(HF (w+2)).all λx=>cd g (a:Int) (r:Int) x b
def ch:List Nat->Nat->Nat->Bool
 | [],a,r=>Rv g w a r 0&&Rv g w r 0 0
 | b::bs,a,r=>Rv g w a r b&&ch bs r b
def sq:Nat->List (List Nat)
 | 0=>[[]]
 | j+1=>(HF (2 ^ w)).flatMap λb=>(sq j).map λL=>b::L
theorem gW:∀j,∀L∈sq w j,L.length=j/\∀r∈L,r<2 ^ w
 | 0,L,h=>by rw[List.mem_singleton.mp h];exact ⟨rfl,λr hr=>nomatch hr⟩
 | j+1,L,h=>by
  obtain ⟨b,hb,h⟩:=List.mem_flatMap.mp h
  obtain ⟨L',h',rfl⟩:=List.mem_map.mp h
  obtain ⟨e,f⟩:=gW j L' h'
  refine ⟨by rw[IM,e],λr hr=>?_⟩
  rcases List.mem_cons.mp hr with rfl | hr
  ·exact List.mem_range.mp hb
  ·exact f r hr
theorem qk:∀j,sq w (j+1)=(sq w j).flatMap λL=>(HF (2 ^ w)).map λb=>L++[b]
 | 0=>by
  show ((HF (2 ^ w)).flatMap λb=>[[b]])=([[]]:List (List Nat)).flatMap λL=>(HF (2 ^ w)).map λb=>L++[b]
  rw[List.flatMap_singleton]
  simp[List.flatMap_singleton',N4]
 | j+1=>by
  show ((HF (2 ^ w)).flatMap λb=>(sq w (j+1)).map λL=>b::L)=((HF (2 ^ w)).flatMap λb=>(sq w j).map λL=>b::L).flatMap λL=>(HF (2 ^ w)).map λb=>L++[b]
  rw[List.flatMap_assoc]
  congr 1
  funext b
  rw[qk j,MV,List.flatMap_map]
  congr 1
  funext L
  rw[Iq]
  rfl
theorem fu:∀j,(sq w j).length=2 ^ (j*w)
 | 0=>by simp[sq]
 | j+1=>by
  show ((HF (2 ^ w)).flatMap λb=>(sq w j).map λL=>b::L).length=_
  rw[Mc]
  simp only[Hz,fu j]
  have:∀l:List Nat,(l.map λ_=>2 ^ (j*w)).sum=l.length*2 ^ (j*w):=λl=>by
   induction l with
   | nil=>simp
   | cons x l ih=>rw[HJ,Oe,ih,IM,KL];lia
  rw[this,ID,KL,O3,OI]
theorem jt (a r:Nat):(0∈Qy g w (a:Int) (r:Int))↔Rv g w a r 0=true:=by
 unfold Qy
 constructor
 ·intro h
  obtain ⟨b,hb,e⟩:=List.mem_map.mp h
  obtain rfl:b=0:=by lia
  exact (List.mem_filter.mp hb).2
 ·intro h
  exact List.mem_map.mpr ⟨0,List.mem_filter.mpr ⟨List.mem_range.mpr (Nr _),h⟩,rfl⟩
def Nc (j a r:Nat):Nat:=((sq w j).filter λL=>ch g w L a r).length
theorem sum_filter (p:Nat->Bool) (f:Nat->Nat):∀l:List Nat,((l.filter p).map f).sum=(l.map λi=>if p i=true then f i else 0).sum
 | []=>rfl
 | x::l=>by
  have:=sum_filter p f l
  cases h:p x <;> simp[h,this]
theorem ju (f:Nat->Nat):∀l:List Nat,(((l.map f).sum:Nat):Int)=(l.map λb=>((f b:Nat):Int)).sum
 | []=>rfl
 | x::l=>by simp[ju f l]
theorem jv (j a r:Nat) (l:List Nat):((l.flatMap λb=>(sq w j).map λL=>b::L).filter λL=>ch g w L a r).length=((l.filter λb=>Rv g w a r b).map λb=>Nc g w j r b).sum:=by
 rw[sum_filter]
 induction l with
 | nil=>rfl
 | cons b l ih=>
  rw[JE,Jr,HK,ih,HJ,Oe,Ku,Hz]
  congr 1
  show ((sq w j).filter λL=>Rv g w a r b&&ch g w L r b).length=_
  cases Rv g w a r b
  ·rw[if_neg Hy,List.filter_eq_nil_iff.mpr (λq _=>by simp)];rfl
  ·simp[Nc]
theorem wj:∀(j a r:Nat),Tw (Qy g w) j (a:Int) (r:Int)=(Nc g w j a r:Nat)
 | 0,a,r=>by
  unfold Tw
  have e0:Vn (Qy g w) (a:Int) (r:Int)=ch g w [] a r:=by
   unfold Vn ch
   rw[show decide (0∈Qy g w (a:Int) (r:Int))=Rv g w a r 0 from by rw[Ju,decide_eq_true_eq];exact jt g w a r,
    show decide (0∈Qy g w (r:Int) 0)=Rv g w r 0 0 from by rw[Ju,decide_eq_true_eq];exact jt g w r 0]
  rw[e0]
  show _=(((List.filter (λL=>ch g w L a r) [[]]).length:Nat):Int)
  cases h:ch g w [] a r <;> simp[h]
 | j+1,a,r=>by
  show ((Qy g w (a:Int) (r:Int)).map λb=>Tw (Qy g w) j (r:Int) b).sum=_
  rw[show Qy g w (a:Int) (r:Int)=((HF (2 ^ w)).filter λb=>Rv g w a r b).map (λ(b:Nat)=>(b:Int)) from rfl,Iq,show ((λb=>Tw (Qy g w) j (r:Int) b) ∘ λ(b:Nat)=>(b:Int))=λ(b:Nat)=>((Nc g w j r b:Nat):Int) from funext λb=>wj j r b,<- ju]
  congr 1
  exact (jv g w j a r _).symm
def Ua:List Nat->Nat->Nat->Nat
 | [],_,_=>0
 | x::L,a,r=>(((fo g w (a:Int) (r:Int)).filter λb=>decide (b<x)).map λb=>Nc g w L.length r b).sum+Ua L r x
theorem ql {β:Type} (f:Nat->List β) {y:β}:∀m i,((HF m).flatMap f)[i]?=some y->∃b i',b<m/\(f b)[i']?=some y/\((HF m).flatMap f).take i=(HF b).flatMap f++(f b).take i'
 | 0,i,h=>by simp at h
 | m+1,i,h=>by
  rw[KS,JL] at h ⊢
  have e1:OO f [m]=f m:=by simp
  rw[e1] at h ⊢
  by_cases hi:i<((HF m).flatMap f).length
  ·rw[Ie hi] at h
   obtain ⟨b,i',hb,h1,h2⟩:=ql f m i h
   refine ⟨b,i',by lia,h1,?_⟩
   rw[List.take_append_of_le_length (LN hi),h2]
  ·rw[HV (by lia)] at h
   refine ⟨m,_,by lia,h,?_⟩
   rw[List.take_append,KH (by lia)]
theorem wm:∀(j a r i:Nat) (L:List Nat),(sq w j)[i]?=some L->ch g w L a r=true->Ua g w L a r=(((sq w j).take i).filter λL=>ch g w L a r).length
 | 0,a,r,i,L,h,_=>by
  match i,h with
  | 0,h=>cases h;rfl
  | i+1,h=>simp[sq] at h
 | j+1,a,r,i,L,h,hc=>by
  obtain ⟨b,i',hb,h1,h2⟩:=ql (λb=>(sq w j).map λL=>b::L) (2 ^ w) i h
  rw[HQ] at h1
  obtain ⟨L',h3,rfl⟩:=Option.map_eq_some_iff.mp h1
  have hc:(Rv g w a r b&&ch g w L' r b)=true:=hc
  obtain ⟨c1,c2⟩:=Bool.and_eq_true_iff.mp hc
  have ih:=wm j r b i' L' h3 c2
  have hl:=(gW w j L' (Jp h3)).1
  rw[show (sq w (j+1)).take i=_ from h2,Jr,HK,jv,<- List.map_take,Ku,Hz]
  show (((fo g w (a:Int) (r:Int)).filter λx=>decide (x<b)).map λx=>Nc g w L'.length r x).sum+Ua g w L' r b=_
  rw[ih,hl]
  congr 1
  ·congr 2
   show ((HF (2 ^ w)).filter λx=>Rv g w a r x).filter (λx=>decide (x<b))=_
   rw[Lr,show 2 ^ w=b+(2 ^ w-b) by lia,List.range_add,Jr]
   have e2:((HF (2 ^ w-b)).map λx=>b+x).filter (λx=>decide (x<b)&&Rv g w a r x)=[]:=List.filter_eq_nil_iff.mpr λx hx z=>by
    obtain ⟨y,_,rfl⟩:=List.mem_map.mp hx
    have:=of_decide_eq_true (Bool.and_eq_true_iff.mp z).1
    lia
   rw[e2,IV]
   refine Jy λx hx=>?_
   rw[decide_eq_true (List.mem_range.mp hx),KZ]
  ·show _=(((sq w j).take i').filter λL=>Rv g w a r b&&ch g w L r b).length
   rw[c1]
   simp
theorem oB:∀(L:List Nat) (a r:Nat),ch g w L a r=true↔∀i<L.length+2,Rv g w ((a::r::L).getD i 0) ((a::r::L).getD (i+1) 0) ((a::r::L).getD (i+2) 0)=true
 | [],a,r=>by
  unfold ch
  rw[Ik]
  constructor
  ·rintro ⟨h1,h2⟩ i hi
   match i,hi with
   | 0,_=>exact h1
   | 1,_=>exact h2
  ·intro h
   exact ⟨h 0 (by simp),h 1 (by simp)⟩
 | b::L,a,r=>by
  unfold ch
  rw[Ik,oB L r b]
  constructor
  ·rintro ⟨h1,h2⟩ i hi
   match i,hi with
   | 0,_=>exact h1
   | i+1,hi=>exact h2 i (by simp only[IM] at hi;lia)
  ·intro h
   exact ⟨h 0 (by simp),λi hi=>h (i+1) (by simp only[IM];lia)⟩
end
theorem AU (R x j:Nat) (hj:j<3):bt (w3 ((R:Int)*4) x) (j:Int)=((R*4 / 2 ^ (x+j)%2:Nat):Int):=by
 unfold bt w3
 rw[Jh,O3,<- M5]
 have e:(R:Int)*4 / 2 ^ x=((R*4 / 2 ^ x:Nat):Int):=by
  rw[Int.natCast_ediv,Int.natCast_mul,Kt];rfl
 rw[e]
 generalize R*4 / 2 ^ x=M
 match j,hj with
 | 0,_=>simp only[Nat.pow_zero,Int.pow_zero];lia
 | 1,_=>simp only[Nat.pow_one,show (2:Int) ^ 1=2 from rfl];lia
 | 2,_=>simp only[show (2:Nat) ^ 2=4 from rfl,show (2:Int) ^ 2=4 from rfl];lia
theorem lens (p:List Int->Bool):∀l:List (List Int),(l.map λm=>if p m=true then (1:Int) else 0).sum=((l.filter p).length:Int)
 | []=>rfl
 | m::l=>by
  have:=lens p l
  cases h:p m
  ·simp[h,this]
  ·simp[h,this];lia
structure Pc (w h:Nat) (L:List Nat) (ks:List (List Int)):Prop where
 len:L.length=h
 lt:∀r∈L,r<2 ^ w
 pr:∀p∈ks,Pr p
 mem:∀X Y:Int,[X,Y]∈ks↔∃x y:Nat,X=x/\Y=y/\x<w/\y<h/\L.getD y 0 / 2 ^ x%2=1
def Qd (L:List Nat) (i:Nat):Nat:=(0::0::L).getD i 0
def bb (L:List Nat) (i c:Nat):Nat:=Qd L i*4 / 2 ^ c%2
theorem AV {L:List Nat} {i c:Nat}:bb L i c<2:=Nat.mod_lt _ (by decide)
theorem lP {L:List Nat} {i c:Nat}:bb L i (c+2)=Qd L i / 2 ^ c%2:=by
 unfold bb
 rw[O3,OI (2 ^ c),<- M5,show (2:Nat) ^ 2=4 from rfl,Nat.mul_div_cancel _ (by decide)]
section
variable {k:Int} {bo sy:List Int} {w h:Nat} {L:List Nat} {ks:List (List Int)}
theorem lQ (P:Pc w h L ks) (i:Nat):L.getD i 0<2 ^ w:=by
 rw[Im]
 cases e:L[i]? with
 | none=>exact Nr w
 | some r=>exact P.lt r (Jp e)
theorem oC (P:Pc w h L ks) {i c:Nat}:bb L i c=1↔[(c:Int)-2,(i:Int)-2]∈ks:=by
 rw[P.mem]
 constructor
 ·intro hb
  match c,i,hb with
  | 0,i,hb=>unfold bb at hb;lia
  | 1,i,hb=>unfold bb at hb;lia
  | c+2,0,hb=>rw[lP] at hb;simp[Qd] at hb
  | c+2,1,hb=>rw[lP] at hb;simp[Qd] at hb
  | c+2,i+2,hb=>
   rw[lP] at hb
   have hr:Qd L (i+2)=L.getD i 0:=rfl
   rw[hr] at hb
   have hc:c<w:=by
    refine Nat.lt_of_not_le λz=>?_
    rw[Nat.div_eq_of_lt (HS (lQ P i) (Jg (by decide) z))] at hb
    lia
   have hi:i<h:=by
    refine Nat.lt_of_not_le λz=>?_
    rw[Im,Ki (by rw[P.len];exact z)] at hb
    simp at hb
   exact ⟨c,i,by lia,by lia,hc,hi,hb⟩
 ·rintro ⟨x,y,e1,e2,hx,hy,hb⟩
  obtain rfl:c=x+2:=by lia
  obtain rfl:i=y+2:=by lia
  rw[lP]
  exact hb
theorem rM (hk:Kd k) (P:Pc w h L ks) (i x:Nat):DL k (w3 ((Qd L i:Int)*4) x) (w3 ((Qd L (i+1):Int)*4) x) (w3 ((Qd L (i+2):Int)*4) x) 1=((((st k).filter λm=>decide (RS ((x:Int)-1) ((i:Int)-1) m∈ks)).length:Nat):Int):=by
 rw[((dQ hk).filter _).length_eq,<- lens]
 unfold DL
 congr 1
 refine IW λm hm=>?_
 obtain ⟨dx,dy,rfl,hx,hy⟩:=vL hk hm
 obtain ⟨u,rfl⟩:∃u:Nat,dx=(u:Int)-1:=⟨(dx+1).toNat,by lia⟩
 obtain ⟨v,rfl⟩:∃v:Nat,dy=(v:Int)-1:=⟨(dy+1).toNat,by lia⟩
 have e1:(1:Int)+((u:Int)-1)=(u:Int):=by lia
 have e2:RS ((x:Int)-1) ((i:Int)-1) [(u:Int)-1,(v:Int)-1]=[((x+u:Nat):Int)-2,((i+v:Nat):Int)-2]:=by
  simp only[RS,Ln,and_true]
  lia
 show bt (ln3 _ _ _ ((v:Int)-1)) (1+((u:Int)-1))=_
 rw[e1,e2,show decide ([((x+u:Nat):Int)-2,((i+v:Nat):Int)-2]∈ks)=decide (bb L (i+v) (x+u)=1) from decide_eq_decide.mpr (oC P).symm]
 have hv:v=0\/v=1\/v=2:=by lia
 have hb:∀j:Nat,bt (w3 ((Qd L j:Int)*4) x) (u:Int)=if decide (bb L j (x+u)=1)=true then 1 else 0:=λj=>by
  rw[AU _ _ _ (by lia)]
  have h2:bb L j (x+u)<2:=AV
  show ((bb L j (x+u):Nat):Int)=_
  by_cases h1:bb L j (x+u)=1
  ·rw[h1];rfl
  ·rw[if_neg (by simpa using h1)];lia
 rcases hv with rfl | rfl | rfl
 ·exact hb i
 ·exact hb (i+1)
 ·exact hb (i+2)
theorem wo (hk:Kd k) (P:Pc w h L ks) (i x:Nat):am k bo sy (w3 ((Qd L i:Int)*4) x) (w3 ((Qd L (i+1):Int)*4) x) (w3 ((Qd L (i+2):Int)*4) x)=if lives k bo sy (ks) ((x:Int)-1) ((i:Int)-1)=true then 1 else 0:=by
 unfold am vM lives
 rw[rM hk P]
 have e2:bb L (i+1) (x+1)=1↔[(x:Int)-1,(i:Int)-1]∈ks:=by
  rw[(oC P),show ((x+1:Nat):Int)-2=(x:Int)-1 by lia,show ((i+1:Nat):Int)-2=(i:Int)-1 by lia]
 have hb:bt (w3 ((Qd L (i+1):Int)*4) x) 1=((bb L (i+1) (x+1):Nat):Int):=AU _ x 1 (by decide)
 rw[hb]
 have hif:(if ((bb L (i+1) (x+1):Nat):Int)=1 then sy else bo)=if [(x:Int)-1,(i:Int)-1]∈ks then sy else bo:=by
  by_cases hm:[(x:Int)-1,(i:Int)-1]∈ks
  ·rw[if_pos hm,e2.mpr hm];rfl
  ·rw[if_neg hm]
   refine if_neg λz=>hm (e2.mp ?_)
   lia
 rw[hif]
theorem wq (hk:Kd k) (P:Pc w h L ks) (i:Nat):Rv (am k bo sy) w (Qd L i) (Qd L (i+1)) (Qd L (i+2))=true↔∀x<w+2,UL k bo sy (ks) [(x:Int)-1,(i:Int)-1]=true:=by
 unfold Rv
 rw[K6]
 have e:∀x,cd (am k bo sy) (Qd L i:Int) (Qd L (i+1):Int) x (Qd L (i+2))=UL k bo sy (ks) [(x:Int)-1,(i:Int)-1]:=λx=>by
  unfold cd UL
  rw[wo hk P]
  have e1:(Qd L (i+1):Int)*4 / 2 ^ (x+1)%2=((bb L (i+1) (x+1):Nat):Int):=by
   unfold bb
   rw[Int.natCast_emod,Int.natCast_ediv,Int.natCast_mul,Kt];rfl
  have e2:bb L (i+1) (x+1)=1↔[(x:Int)-1,(i:Int)-1]∈ks:=by
   rw[(oC P),show ((x+1:Nat):Int)-2=(x:Int)-1 by lia,show ((i+1:Nat):Int)-2=(i:Int)-1 by lia]
  have h2:bb L (i+1) (x+1)<2:=AV
  rw[e1]
  show _=decide (lives k bo sy (ks) ((x:Int)-1) ((i:Int)-1)=decide ([(x:Int)-1,(i:Int)-1]∈ks))
  refine decide_eq_decide.mpr ?_
  by_cases hm:[(x:Int)-1,(i:Int)-1]∈ks
  ·rw[decide_eq_true hm,e2.mpr hm]
   cases lives k bo sy (ks) ((x:Int)-1) ((i:Int)-1) <;> simp
  ·rw[decide_eq_false hm,show bb L (i+1) (x+1)=0 from by have:¬ bb L (i+1) (x+1)=1:=λz=>hm (e2.mp z);lia]
   cases lives k bo sy (ks) ((x:Int)-1) ((i:Int)-1) <;> simp
 exact ⟨λz x hx=>(e x)▸z x (List.mem_range.mpr hx),λz x hx=>(e x).symm▸z x (List.mem_range.mp hx)⟩
theorem D2 (hk:Kd k) {dx dy:Int} (hm:[dx,dy]∈st k):[-dx,-dy]∈st k:=by
 have:(st k).all (λm=>match m with | [a,b]=>decide ([-a,-b]∈st k) | _=>true)=true:=by rcases hk with rfl | rfl | rfl <;> decide +kernel
 exact of_decide_eq_true (List.all_eq_true.mp this _ hm)
theorem nj (hk:Kd k) (P:Pc w h L ks) (h0:0∉bo):rests k bo sy (ks)=ch (am k bo sy) w (L) 0 0:=by
 rw[Ju,oB,P.len]
 have hc:(∀i<h+2,Rv (am k bo sy) w ((0::0::L).getD i 0) ((0::0::L).getD (i+1) 0) ((0::0::L).getD (i+2) 0)=true)↔∀i<h+2,∀x<w+2,UL k bo sy (ks) [(x:Int)-1,(i:Int)-1]=true:=
  ⟨λz i hi=>(wq hk P i).mp (z i hi),λz i hi=>(wq hk P i).mpr (z i hi)⟩
 rw[hc]
 unfold rests
 rw[K6]
 constructor
 ·intro z i hi x hx
  by_cases hl:[(x:Int)-1,(i:Int)-1]∈lk k (ks)
  ·exact z _ hl
  ·have hn:[(x:Int)-1,(i:Int)-1]∉ks:=λq=>hl (List.mem_flatMap.mpr ⟨_,q,Hx⟩)
   have hz:((st k).filter λm=>decide (RS ((x:Int)-1) ((i:Int)-1) m∈ks))=[]:=List.filter_eq_nil_iff.mpr λm hm q=>by
    obtain ⟨dx,dy,rfl⟩:=fK hk ((dQ hk).mem_iff.mp hm)
    refine hl (List.mem_flatMap.mpr ⟨_,of_decide_eq_true q,Ic _ (List.mem_map.mpr ⟨_,D2 hk hm,?_⟩)⟩)
    simp only[RS,K8,K9,Ln,and_true]
    lia
   show decide (lives k bo sy (ks) ((x:Int)-1) ((i:Int)-1)=decide ([(x:Int)-1,(i:Int)-1]∈ks))=true
   rw[decide_eq_false hn,decide_eq_true_eq]
   unfold lives
   rw[hz,if_neg hn]
   exact decide_eq_false h0
 ·intro z c hc
  obtain ⟨p,hp,hc⟩:=List.mem_flatMap.mp hc
  obtain ⟨px,py,rfl⟩:=P.pr p hp
  obtain ⟨x,y,rfl,rfl,hx,hy,_⟩:=(P.mem _ _).mp hp
  rcases List.mem_cons.mp hc with rfl | hc
  ·have:=z (y+1) (by lia) (x+1) (by lia)
   rwa [show ((x+1:Nat):Int)-1=(x:Int) by lia,show ((y+1:Nat):Int)-1=(y:Int) by lia] at this
  ·obtain ⟨m,hm,rfl⟩:=List.mem_map.mp hc
   obtain ⟨dx,dy,rfl,h1,h2⟩:=vL hk ((dQ hk).mem_iff.mp hm)
   obtain ⟨u,rfl⟩:∃u:Nat,dx=(u:Int)-1:=⟨(dx+1).toNat,by lia⟩
   obtain ⟨v,rfl⟩:∃v:Nat,dy=(v:Int)-1:=⟨(dy+1).toNat,by lia⟩
   have:=z (y+v) (by lia) (x+u) (by lia)
   rwa [show RS ([(x:Int),(y:Int)].getD 0 0) ([(x:Int),(y:Int)].getD 1 0) [(u:Int)-1,(v:Int)-1]=[((x+u:Nat):Int)-1,((y+v:Nat):Int)-1] by
    simp only[RS,K8,K9,Ln,and_true]
    lia]
end
end My
namespace My
open PySem L2 VL
def RT (p:Nat->Bool) (w:Nat):Nat:=((fr p w).map λx=>2 ^ x).sum
theorem rN (p:Nat->Bool) (w:Nat):RT p (w+1)=RT p w+if p w=true then 2 ^ w else 0:=by
 unfold RT
 rw[qg,HX,Nt]
 congr 1
 by_cases h:p w=true <;> simp[h]
def fs (ms:List Int):Int:=ms.getD 0 0
def sn (ms:List Int):Int:=ms.getD 1 0
structure Bx (w h:Nat) (xs:List (List Int)):Prop where
 nd:xs.Nodup
 at_:∀c∈xs,∃x y:Nat,c=[(x:Int),(y:Int)]/\x<w/\y<h
 so:srt xs=xs
 len:xs.length<=200
def Rj (xs:List (List Int)) (y:Nat):Nat:=((xs.filter λc=>decide (sn c=(y:Int))).map λc=>2 ^ (fs c).toNat).sum
theorem D3 {w h:Nat} {xs:List (List Int)} (b:Bx w h xs) (y:Nat):Rj xs y=RT (λx=>decide ([(x:Int),(y:Int)]∈xs)) w:=by
 unfold Rj RT
 rw[show (xs.filter λc=>decide (sn c=(y:Int))).map (λc=>2 ^ (fs c).toNat)=((xs.filter λc=>decide (sn c=(y:Int))).map λc=>(fs c).toNat).map λx=>2 ^ x by rw[Iq];rfl]
 refine (List.Perm.map _ ?_).sum_nat
 refine (K0 ?_ (List.nodup_range.filter _)).mpr λx=>?_
 ·unfold List.Nodup
  rw[LH]
  refine Ld (λ{c d} hc hd hcd e=>hcd ?_) (b.nd.filter _)
  obtain ⟨x1,y1,rfl,_,_⟩:=b.at_ c (List.mem_filter.mp hc).1
  obtain ⟨x2,y2,rfl,_,_⟩:=b.at_ d (List.mem_filter.mp hd).1
  have h1:=of_decide_eq_true (List.mem_filter.mp hc).2
  have h2:=of_decide_eq_true (List.mem_filter.mp hd).2
  simp only[fs,sn,K8,K9] at e h1 h2
  have e1:x1=x2:=by lia
  have e2:y1=y2:=by lia
  rw[e1,e2]
 ·rw[Nm]
  rw[Lp,List.mem_range]
  constructor
  ·rintro ⟨c,hc,e⟩
   obtain ⟨x1,y1,rfl,h1,h2⟩:=b.at_ c (List.mem_filter.mp hc).1
   have h3:=of_decide_eq_true (List.mem_filter.mp hc).2
   simp only[fs,sn,K8,K9] at e h3
   have e1:x1=x:=by lia
   have e2:y1=y:=by lia
   subst e1 e2
   exact ⟨h1,decide_eq_true (List.mem_filter.mp hc).1⟩
  ·rintro ⟨h1,h2⟩
   refine ⟨_,List.mem_filter.mpr ⟨of_decide_eq_true h2,?_⟩,?_⟩
   ·simp[sn]
   ·simp[fs]
def gv (xs:List (List Int)) (h:Nat):List Int:=(HF h).map λy=>((Rj xs y:Nat):Int)
def qm:List D->(D->Prop)->Prop:=λds R=>∃(w h:Nat) (xs:List (List Int)),ds=[eT [(w:Int),(h:Int)],eL xs]/\w<=60/\h<=60/\Bx w h xs/\R (.lst ((gv xs h).map .int))
theorem wt (h:Nat):gv [] h=(HF h).map λ_=>(0:Int):=rfl
theorem rO {xs:List (List Int)} {x y h:Nat} (hy:y<h):((gv xs h).map D.int).set y (.int (((Rj xs y:Nat):Int)+1*2 ^ x))=(gv (xs++[[(x:Int),(y:Int)]]) h).map .int:=by
 apply KY
 intro j
 rw[Oz]
 unfold gv
 rw[Iq,Iq,Hz,ID,HQ,HQ]
 by_cases hj:j<h
 ·rw[La hj]
  by_cases e:y=j
  ·subst e
   rw[if_pos rfl,if_pos hy]
   have:Rj (xs++[[(x:Int),(y:Int)]]) y=Rj xs y+2 ^ x:=by
    unfold Rj
    rw[Jr,HX,Nt]
    simp[sn,fs]
   show some (D.int _)=some (D.int ((Rj (xs++[[(x:Int),(y:Int)]]) y:Nat):Int))
   rw[this]
   push_cast
   rw[O1]
  ·rw[if_neg e]
   have:Rj (xs++[[(x:Int),(y:Int)]]) j=Rj xs j:=by
    unfold Rj
    rw[Jr,HX,Nt]
    have:¬ ((y:Int)=(j:Int)):=by lia
    simp[sn,this]
   show some (D.int _)=some (D.int ((Rj (xs++[[(x:Int),(y:Int)]]) j:Nat):Int))
   rw[this]
 ·rw[Ki (by rw[ID];lia)]
  have e:¬ y=j:=by lia
  rw[if_neg e]
  rfl
def QI (w h:Int) (p:List Int):Bool:=match p with
 | [x,y]=>decide (0<=x)&&decide (x<w)&&(decide (0<=y)&&decide (y<h))
 | _=>false
def GS:List D->(D->Prop)->Prop:=λds R=>∃(k:Int) (bo sy:List Int) (w h:Nat) (xs:List (List Int)),ds=[rl k bo sy,eT [(w:Int),(h:Int)],eL xs]/\Kd k/\0∉bo/\(∀p∈xs,Pr p)/\xs.length<=100/\(∀p∈xs,QI w h p=true)/\nx k bo sy xs=xs/\R .non
def D4 (cR:Addr) (ds:List D) (C:Addr):Prop:=C=cR/\∃(k:Int) (bo sy:List Int) (w h:Nat) (xs:List (List Int)),ds=[rl k bo sy,eT [(w:Int),(h:Int)],eL xs]/\Kd k/\0∉bo/\(∀p∈xs,Pr p)/\xs.length<=100/\((∃p∈xs,QI w h p=false)\/nx k bo sy xs≠xs)
def UN (cL cN cR:Addr) (ds:List D) (C:Addr):Prop:=∃r s p,ds=[r,s,p]/\(DO cL cN [r,s] C\/(D4 cR [r,s,p] C/\∃(w h:Nat),s=eT [(w:Int),(h:Int)]/\1<=w/\w<=4/\1<=h/\h<=60))
def pNum:List D->(D->Prop)->Prop:=λds R=>∃(k:Int) (bo sy:List Int) (w h:Nat) (xs:List (List Int)) (L:List Nat),ds=[rl k bo sy,eT [(w:Int),(h:Int)],eL xs]/\Kd k/\0∉bo/\1<=w/\w<=4/\1<=h/\h<=60/\Bx w h xs/\Pc w h L xs/\xs.length<=100/\nx k bo sy xs=xs/\ch (am k bo sy) w L 0 0=true/\R (.int (Ua (am k bo sy) w L 0 0:Nat))
theorem zb (L:List Nat):Su ((L.map λ(r:Nat)=>(r:Int)).map D.int)=(HF L.length).map λ(i:Nat)=>D.tup [.int i,.int ((L.getD i 0:Nat):Int)]:=by
 unfold Su
 rw[Hz,Hz]
 refine IW λi hi=>?_
 have:=List.mem_range.mp hi
 rw[Im,Im,HQ,HQ,Hu this]
 rfl
theorem oD {L:List Nat} {i:Nat} (e:((HF L.length).map λ(i:Nat)=>D.tup [.int i,.int ((L.getD i 0:Nat):Int)])[i]?=some d):∃x:Nat,(i<L.length/\L.getD i 0=x)/\d=.tup [.int i,.int (x:Int)]:=by
 rw[HQ] at e
 cases h:(HF L.length)[i]? with
 | none=>rw[h] at e;cases e
 | some j=>
  rw[h] at e
  cases e
  obtain ⟨hi,h⟩:=List.getElem?_eq_some_iff.mp h
  rw[Of] at h
  subst h
  rw[ID] at hi
  exact ⟨_,⟨hi,rfl⟩,rfl⟩
theorem D5 (F:Int->Int->List Int) (kvs:List (List Int×D)) {n j:Nat} (h:j<n):QY (SI F kvs n) (j:Int)=some (dc (wd F kvs j)):=kr (by unfold SI;rw[HQ,La h];rfl)
theorem zc (g:Int->Int->Int->Int) (w j:Nat) (a r:Int) (r' x:Nat):(((Qy g w a r).filter λb=>decide (b<(x:Int))).map λb=>Tw (Qy g w) j (r':Int) b).sum=(((((fo g w a r).filter λb=>decide (b<x)).map λb=>Nc g w j r' b).sum:Nat):Int):=by
 unfold Qy
 rw[Ku,Iq,ju]
 congr 1
 rw[show ((λb=>decide (b<(x:Int))) ∘ λ(b:Nat)=>(b:Int))=λb=>decide (b<x) from funext λb=>decide_eq_decide.mpr (by show ((b:Int)<(x:Int))↔_;lia)]
 exact IW λb _=>wj g w j r' b
theorem AW {α:Type} {xs:List α} {f:α->Bool} (h:q (.bl (xs.all f))):FV (λx=>x.all id) [.lst (xs.map λd=>D.bl (f d))] q:=
 ⟨xs.map f,by rw[Iq];rfl,by show q (.bl ((xs.map f).all id));rw[List.all_map];exact h⟩
theorem Bx.inb {w h:Nat} {xs:List (List Int)} (b:Bx w h xs):∀p∈xs,QI w h p=true:=λp hp=>by
 obtain ⟨x,y,rfl,hx,hy⟩:=b.at_ p hp
 simp only[QI,Ik,decide_eq_true_eq]
 lia
theorem Bx.pr {w h:Nat} {xs:List (List Int)} (b:Bx w h xs):∀p∈xs,Pr p:=λp hp=>by
 obtain ⟨x,y,rfl,hx,hy⟩:=b.at_ p hp
 exact ⟨_,_,rfl⟩
theorem ki (r:Nat):∀w,RT (λx=>decide (r / 2 ^ x%2=1)) w=r%2 ^ w
 | 0=>by rw[Nat.pow_zero,Nat.mod_one];rfl
 | w+1=>by
  rw[rN,ki r w,Np,Nat.mod_mul]
  by_cases h:r / 2 ^ w%2=1
  ·rw[if_pos (decide_eq_true h),h,Nat.mul_one]
  ·rw[if_neg (by simpa using h),show r / 2 ^ w%2=0 by lia,Nat.mul_zero]
theorem rP {w h:Nat} {xs:List (List Int)} {L:List Nat} (b:Bx w h xs) (P:Pc w h L xs):gv xs h=L.map λ(r:Nat)=>(r:Int):=by
 unfold gv
 apply KY
 intro y
 rw[HQ,HQ]
 by_cases hy:y<h
 ·rw[La hy,Hu (by rw[P.len];exact hy)]
  have hyl:y<L.length:=by rw[P.len];exact hy
  show some (((Rj xs y:Nat):Int))=some ((L[y]:Nat):Int)
  congr 2
  have hd:L.getD y 0=L[y]'(by rw[P.len];exact hy):=by rw[Im,Hu (by rw[P.len];exact hy)];rfl
  rw[D3 b y,<- hd,<- Nat.mod_eq_of_lt (lQ P y),<- ki (L.getD y 0) w]
  unfold RT
  congr 2
  unfold fr
  refine Jy λx hx=>?_
  refine decide_eq_decide.mpr ?_
  rw[P.mem]
  constructor
  ·rintro ⟨x',y',e1,e2,_,_,q⟩
   obtain rfl:x=x':=by lia
   obtain rfl:y=y':=by lia
   exact q
  ·exact λq=>⟨x,y,rfl,rfl,List.mem_range.mp hx,hy,q⟩
 ·rw[Ki (by rw[ID];lia),Ki (by rw[P.len];lia)]
  rfl
section
variable {P:Ip} {w:Ji} {K:Ho} {mg:Str->Option Ht} {base:Heap}
theorem zd (S:Src K mg "rows_of" iw) (T:QF mg):PK P w K mg base 1 "rows_of" ["size","picture"] (PM K qm):=by
 refine bF S eg (by walk_at "2") (by walk_at "L") λf PC A outer s H E hr=>⟨_,_,(ai (gF (ae 0 (pv 0)) (bO (n:=2) rfl rfl (az (au (aq (i:=2) eg.nd rfl (HC rfl) (HC rfl))) (az (au (aq (i:=3) eg.nd rfl (HC rfl) (HC rfl))) bD))))
  (ai (tG (ii:=4) (tg:=["y"]) (cs:=[]) (ix:=[]) eg.nd rfl (HC rfl) (HC rfl) (aI (aj iw) ["size","picture","wide","high","rows","x","y"] (by decide +kernel)) rfl (aO (by decide)) (by decide) (b6 rfl T.range (aa (ae 3 (pv 3)) ah)) (λ_ _ _ _=>(au (aq (i:=0) (show (["y"]:List Str).Nodup by decide +kernel) rfl (HC rfl) (by first | exact HC rfl | exact Jm rfl)))) (λ_ _ _ _=>bQ) (λ_ _ _ _=>af))
  (ai (cj IY rfl (ba rfl (ae 1 (pv 1))) (bO (n:=2) rfl rfl (az (au (aq (i:=5) eg.nd rfl (HC rfl) (HC rfl))) (az (au (aq (i:=6) eg.nd rfl (HC rfl) (HC rfl))) bD))) (ao (yt 4 (pv 4) (ae 6 (pv 6)) (aA iE bU af (ae 5 (pv 5))))))
  (ao (aJ (aL (ae 4 (pv 4)))))))),?_⟩
 rintro ds R ⟨w,h,xs,rfl,hw,hh,bx,q⟩
 walk_at "sl"
 walk_at "rd"
 rw[show ((h:Int)).toNat=h by lia]
 unfold rg
 refine comp_map (xs:=HF h) (en:=λ(i:Nat)=>D.int (0+(i:Int))) (f:=λ_=>D.int 0) (by rw[ID];lia) (λi hi A B hA=>?_) ?_
 ·dsimp only[aS,HH,HJ,Iz,Iu,IA]
  walk_at "rd"
  exact hA _ rfl
 walk_at "rd"
 have bl:=bx.len
 refine du (λi S=>∃v5 v6,S=[.val (eT [(w:Int),(h:Int)]),.val (eL xs),.val (.int w),.val (.int h),.own ((gv (xs.take i) h).map .int),v5,v6]) ⟨_,_,by rw[List.take_zero,wt,Iq];rfl⟩ ?_ ?_
 ·rintro i d S2 e ⟨v5,v6,rfl⟩
  obtain ⟨c,h1,rfl,hm,ht⟩:=aF e
  obtain ⟨x,y,rfl,hx,hy⟩:=bx.at_ c hm
  show VQ 2 _ (.tup [.int x,.int y]) _ _
  walk_at "rd"
  refine ⟨⟨_,rfl⟩,?_⟩
  show sW 6 _ _
  walk_at "rd"
  refine ⟨_,y,((Rj (xs.take i) y:Nat):Int),rfl,rfl,?_,?_⟩
  ·unfold gv
   rw[HQ,HQ,La hy]
   rfl
  walk_at "rd"
  refine ⟨_,rfl,rfl,?_⟩
  dsimp only[Ig,Iy]
  rw[ht,<- rO hy]
  exact ⟨_,_,rfl⟩
 ·rintro S2 ⟨v5,v6,rfl⟩
  rw[Hz,I0]
  walk_at "rd"
  exact q
theorem D6 (S:Src K mg "refuse_no_rest" bI) (T:QF mg) (Vq:PK P w K mg base 4 "next_turn" ["rule","picture"] (PM K X1)):PK P w K mg base 5 "refuse_no_rest" ["rule","size","picture"] (PM K GS):=by
 refine bF S bL (by walk_at "3") (by walk_at "L") λf PC A outer s H E hr=>⟨_,_,(ai (gF (ae 1 (pv 1)) (bO (n:=2) rfl rfl (az (au (aq (i:=3) bL.nd rfl (Jm rfl) (HC rfl))) (az (au (aq (i:=4) bL.nd rfl (Jm rfl) (HC rfl))) bD))))
  (ai (b8 (fN (cH (aT (zU (K:=K) rfl rfl) zV (by rfl) T.all_ tJ (aa (aH (bR (tg:=["x","y"]) (cs:=["wide","high"]) (ix:=[3,4]) (aI (aj bI) ["rule","size","picture","wide","high"] (by decide +kernel)) rfl (fy (by decide) (by decide)) (by decide) (ba rfl (ae 2 (pv 2))) (λ_ _ _ _=>(bO (n:=2) rfl rfl (az (au (aq (i:=0) (show (["x","y","wide","high"]:List Str).Nodup by decide +kernel) rfl (HC rfl) (by first | exact HC rfl | exact Jm rfl))) (az (au (aq (i:=1) (show (["x","y","wide","high"]:List Str).Nodup by decide +kernel) rfl (HC rfl) (by first | exact HC rfl | exact Jm rfl))) bD)))) (λ_ _ _ _=>bQ) (λ_ _ _ _=>(dU (d7 gX aE jD aE af (ae 0 (pv 0)) (ae 2 (pv 2))) (fO (d7 gX aE jD aE af (ae 1 (pv 1)) (ae 3 (pv 3)))))))) ah)))) (ao gb) bg)
  (ao (b8 (bw (gH (K:=K) rfl hr.units) iY (aW Vq hr (aa (ae 0 (pv 0)) (aa (ae 2 (pv 2)) ah))) (ae 2 (pv 2)) (br _)) (ao gb) bg)))),?_⟩
 rintro ds R ⟨k,bo,sy,w,h,xs,rfl,hk,h0,hp,hl,Se,TJ,q⟩
 walk_at "sl"
 walk_at "rd"
 refine comp_map (xs:=xs) (en:=eT) (f:=λp=>.bl (QI w h p)) (by lia) (λp Yc A B hA=>?_) ?_
 ·obtain ⟨x,y,rfl⟩:=hp p Yc
  dsimp only[aS,HH,HJ,Iz,Iu,IA]
  walk_at "rd"
  refine gT (λ_ q=>j_c q) (λ_ q=>gg rfl q) (λ_ q=>gg rfl q) ?_
  have hB:∀z,QI (w:Int) (h:Int) [x,y]=z->∀S5,Pu 2 [3,4] _ S5=_->A (.bl z) S5:=λz e S5 q=>e▸hA S5 q
  cases hz:(decide (0<=x)&&decide (x<(w:Int))) with
  | false=>
   walk_at "rc"
   exact hB _ (by simp only[QI];rw[hz];rfl) _ rfl
  | true=>
   walk_at "rc"
   refine gT (λ_ q=>j_c q) (λ_ q=>gg rfl q) (λ_ q=>gg rfl q) ?_
   walk_at "rc"
   exact hB _ (by simp only[QI];rw[hz,KZ]) _ rfl
 ·walk_at "rc"
  refine AW ?_
  rw[List.all_eq_true.mpr Se]
  walk_at "rc"
  refine ⟨k,bo,sy,xs,rfl,hk,h0,hp,by lia,?_⟩
  rw[TJ]
  walk_at "rd"
  refine jT (x:=xs) (y:=xs) (kG.lst) rfl ?_
  walk_at "rc"
  exact q
theorem D7 (S:Src K mg "rest_number" cu) (T:QF mg) (Vr:PK P w K mg base 4 "refuse_no_rests" ["rule","size"] (PM K DN)) (Yd:PK P w K mg base 5 "refuse_no_rest" ["rule","size","picture"] (PM K GS)) (UO:PK P w K mg base 4 "followers_of" ["rule","wide"] (PM K GO)) (UP:PK P w K mg base 2 "ways_to_end" ["followers","high"] (PM K AR)) (UQ:PK P w K mg base 1 "rows_of" ["size","picture"] (PM K qm)):PK P w K mg base 6 "rest_number" ["rule","size","picture"] (PM K pNum):=by
 refine bF S aN (by walk_at "3") (by walk_at "L") λf PC A outer s H E hr=>⟨_,_,(ai (cz (aW Vr hr (aa (ae 0 (pv 0)) (aa (ae 1 (pv 1)) ah))))
  (ai (cz (aW Yd hr (aa (ae 0 (pv 0)) (aa (ae 1 (pv 1)) (aa (ae 2 (pv 2)) ah)))))
  (ai (gF (ae 1 (pv 1)) (bO (n:=2) rfl rfl (az (au (aq (i:=3) aN.nd rfl (HC rfl) (HC rfl))) (az (au (aq (i:=4) aN.nd rfl (HC rfl) (HC rfl))) bD))))
  (ai (aC (i:=5) aN.nd rfl (HC rfl) (aW UO hr (aa (ae 0 (pv 0)) (aa (ae 3 (pv 3)) ah))))
  (ai (aC (i:=6) aN.nd rfl (HC rfl) (aW UP hr (aa (ae 5 (pv 5)) (aa (ae 4 (pv 4)) ah))))
  (ai (aC (i:=7) aN.nd rfl (HC rfl) af)
  (ai (aC (i:=8) aN.nd rfl (Jm rfl) (aB (aa af (aa af ah))))
  (ai (cj IY rfl (pX rfl (by rfl) T.enumerate_ (aa (aW UQ hr (aa (ae 1 (pv 1)) (aa (ae 2 (pv 2)) ah))) ah)) (bO (n:=2) rfl rfl (az (au (aq (i:=9) aN.nd rfl (HC rfl) (HC rfl))) (az (au (aq (i:=10) aN.nd rfl (Jm rfl) (HC rfl))) bD))) (ai (aC (i:=11) aN.nd rfl (Jm rfl) (aK rfl (ae 6 (pv 6)) (aA eW aE (aA eW aE (ae 4 (pv 4)) af) (ae 9 (pv 9))) (λ_ _=>rfl)))
  (ai (yI (i:=7) aN.nd rfl (HC rfl) (aT (uc (K:=K) rfl rfl) ue (by rfl) T.sum_ nX (aa (aH (bR (tg:=["below"]) (cs:=["fewer","pair","row"]) (ix:=[11,8,10]) (aI (aj cu) ["rule","size","picture","wide","high","followers","ways","number","pair","at","row","fewer"] (by decide +kernel)) rfl (aO (by decide)) (by decide) (ba rfl (gm rfl hr.units (ae 5 (pv 5)) (ae 8 (pv 8)) (λ_ _=>rfl))) (λ_ _ _ _=>(au (aq (i:=0) (show (["below","fewer","pair","row"]:List Str).Nodup by decide +kernel) rfl (HC rfl) (by first | exact HC rfl | exact Jm rfl)))) (λ_ _ _ _=>(eJ (bw jD aE (ae 0 (pv 0)) (ae 3 (pv 3)) (br _)))) (λ_ _ _ _=>(om rfl hr.units (ae 1 (pv 1)) (aB (aa (aK rfl (ae 2 (pv 2)) af (λ_ _=>rfl)) (aa (ae 0 (pv 0)) ah))) (λ_ _=>rfl))))) ah)))
  (ao (aC (i:=8) aN.nd rfl (Jm rfl) (aB (aa (aK rfl (ae 8 (pv 8)) af (λ_ _=>rfl)) (aa (ae 10 (pv 10)) ah))))))))
  (ao (aJ (aL (ae 7 (pv 7))))))))))))),?_⟩
 rintro ds R ⟨k,bo,sy,w,h,xs,L,rfl,hk,h0,w1,w2,h1,h2,WS,WT,hl,TJ,hch,q⟩
 walk_at "sl"
 unfold rl
 walk_at "rd"
 refine ⟨k,bo,sy,_,rfl,h0,vP,by simp only[eT,HJ,Iz,Q8,Ik,decide_eq_true_eq];lia,?_⟩
 walk_at "rd"
 refine ⟨k,bo,sy,w,h,xs,rfl,hk,h0,WS.pr,hl,WS.inb,TJ,?_⟩
 walk_at "rd"
 refine ⟨k,bo,sy,w,rfl,hk,w1,w2,λkvs hF=>?_⟩
 walk_at "rd"
 refine ⟨_,kvs,h,rfl,hF,λa r=>lO w2,h2,?_⟩
 walk_at "rd"
 refine ⟨w,h,xs,rfl,by lia,h2,WS,?_⟩
 walk_at "rd"
 rw[rP WS WT,zb]
 have hall:=(oB (am k bo sy) w L 0 0).mp hch
 have h00:[(0:Int),0]∈kvs.map (·.1):=hF.nought.resolve_right λz=>nomatch z
 refine du (λi S=>∃(n:Nat) (s9 Qu Q4:Sl),n+Ua (am k bo sy) w (L.drop i) (Qd L i) (Qd L (i+1))=Ua (am k bo sy) w L 0 0/\[(Qd L i:Int),(Qd L (i+1):Int)]∈kvs.map (·.1) /\
  S=[.val (rl k bo sy),.val (eT [(w:Int),(h:Int)]),.val (eL xs),.val (.int w),.val (.int h),.val (dc kvs),.val (.lst (SI (Qy (am k bo sy) w) kvs (h+1))),.val (.int n),.val (eT [(Qd L i:Int),(Qd L (i+1):Int)]),s9,Qu,Q4]) ⟨0,_,_,_,by rw[Lc];rfl,h00,rfl⟩ ?_ ?_
 ·rintro i d S2 e ⟨n,s9,Qu,Q4,hn,Q5,rfl⟩
  obtain ⟨x,hx,rfl⟩:=oD e
  obtain ⟨hi,hx⟩:=hx
  have hih:i<h:=by rw[<- WT.len];exact hi
  have WU:Qd L (i+2)=x:=hx
  obtain ⟨v1,v2⟩:=hF.val _ _ Q5
  walk_at "rd"
  rw[show (h:Int)-1-(i:Int)=((h-1-i:Nat):Int) by lia]
  refine dM rfl rfl (D5 _ _ (by lia)) ?_
  walk_at "rd"
  refine gn (kvs:=kvs) (ms:=[(Qd L i:Int),(Qd L (i+1):Int)]) rfl rfl v1 ?_
  walk_at "rd"
  have hl16:=lO (g:=am k bo sy) (a:=(Qd L i:Int)) (r:=(Qd L (i+1):Int)) w2
  refine cq (xs:=Qy (am k bo sy) w (Qd L i:Int) (Qd L (i+1):Int)) (en:=D.int) (f:=λb=>.int (Tw (Qy (am k bo sy) w) (h-1-i) (Qd L (i+1):Int) b)) (p:=λb=>decide (b<(x:Int))) (by lia) (λb hb A B hA hB=>?_) ?_
  ·dsimp only[aS,HH,HJ,Iz,Iu,IA]
   walk_at "rd"
   refine dw (λz=>?_) (λz=>?_)
   ·walk_at "rd"
    refine lq (kvs:=wd (Qy (am k bo sy) w) kvs (h-1-i)) (ms:=[(Qd L (i+1):Int),b]) rfl rfl (AQ ((v2 b hb).resolve_right λz=>nomatch z)) ?_
    walk_at "rd"
    exact hA _ rfl z
   ·exact hB _ rfl z
  rw[show ((Qy (am k bo sy) w (Qd L i:Int) (Qd L (i+1):Int)).filter λb=>decide (b<(x:Int))).map (λb=>D.int (Tw (Qy (am k bo sy) w) (h-1-i) (Qd L (i+1):Int) b))=(((Qy (am k bo sy) w (Qd L i:Int) (Qd L (i+1):Int)).filter λb=>decide (b<(x:Int))).map λb=>Tw (Qy (am k bo sy) w) (h-1-i) (Qd L (i+1):Int) b).map D.int by rw[Iq];rfl]
  walk_at "rd"
  refine ug ?_
  walk_at "rd"
  rw[zc]
  have hd:L.drop i=x::L.drop (i+1):=by
   rw[JC hi]
   congr 1
   rw[<- hx,Im,Hu hi];rfl
  have hlen:(L.drop (i+1)).length=h-1-i:=by rw[List.length_drop,WT.len];lia
  rw[hd] at hn
  have hn:n+((((fo (am k bo sy) w (Qd L i:Int) (Qd L (i+1):Int)).filter λb=>decide (b<x)).map λb=>Nc (am k bo sy) w (L.drop (i+1)).length (Qd L (i+1)) b).sum+Ua (am k bo sy) w (L.drop (i+1)) (Qd L (i+1)) x)=_:=hn
  rw[hlen] at hn
  refine ⟨n+(((fo (am k bo sy) w (Qd L i:Int) (Qd L (i+1):Int)).filter λb=>decide (b<x)).map λb=>Nc (am k bo sy) w (h-1-i) (Qd L (i+1)) b).sum,.val (.int i),.val (.int x),.val (dc (wd (Qy (am k bo sy) w) kvs (h-1-i))),?_,?_,?_⟩
  ·rw[show Qd L (i+1+1)=x from WU,LZ]
   exact hn
  ·rw[show Qd L (i+1+1)=x from WU]
   refine (v2 (x:Int) (List.mem_map.mpr ⟨x,List.mem_filter.mpr ⟨List.mem_range.mpr (hx▸lQ WT i),?_⟩,rfl⟩)).resolve_right λz=>nomatch z
   rw[<- WU]
   exact hall i (by lia)
  ·rw[show Qd L (i+1+1)=x from WU,Md]
   rfl
 ·rintro S2 ⟨n,s9,Qu,Q4,hn,Q5,rfl⟩
  rw[Hz,ID,List.drop_length] at hn
  walk_at "rd"
  rw[show n=Ua (am k bo sy) w L 0 0 from hn]
  exact q
end
end My
namespace My
open PySem L2 VL
section
variable {P:Ip} {w:Ji} {K:Ho} {mg:Str->Option Ht} {base:Heap}
theorem ze {Po:Addr} (S:Src K mg "refuse_no_rest" bI) (T:QF mg) (Vq:PK P w K mg base 4 "next_turn" ["rule","picture"] (PM K X1)) (QM:mg "NoRest"=some (.ref Po))
  (x_NoRest:Lq K Po [.type "ValueError",.type "Exception",.type "BaseException",.type "object"] "ValueError.__new__"=true):ja P w K mg base 5 "refuse_no_rest" ["rule","size","picture"] (D4 Po):=by
 refine pL S bL (by walk_at "3") (by walk_at "L") λf PC A outer s H E hr TH=>⟨_,_,(nZ (gF (ae 1 (pv 1)) (bO (n:=2) rfl rfl (az (au (aq (i:=3) bL.nd rfl (Jm rfl) (HC rfl))) (az (au (aq (i:=4) bL.nd rfl (Jm rfl) (HC rfl))) bD)))) (pK (fN (cH (aT (zU (K:=K) rfl rfl) zV (by rfl) T.all_ tJ (aa (aH (bR (tg:=["x","y"]) (cs:=["wide","high"]) (ix:=[3,4]) (aI (aj bI) ["rule","size","picture","wide","high"] (by decide +kernel)) rfl (fy (by decide) (by decide)) (by decide) (ba rfl (ae 2 (pv 2))) (λ_ _ _ _=>(bO (n:=2) rfl rfl (az (au (aq (i:=0) (show (["x","y","wide","high"]:List Str).Nodup by decide +kernel) rfl (HC rfl) (by first | exact HC rfl | exact Jm rfl))) (az (au (aq (i:=1) (show (["x","y","wide","high"]:List Str).Nodup by decide +kernel) rfl (HC rfl) (by first | exact HC rfl | exact Jm rfl))) bD)))) (λ_ _ _ _=>bQ) (λ_ _ _ _=>(dU (d7 gX aE jD aE af (ae 0 (pv 0)) (ae 2 (pv 2))) (fO (d7 gX aE jD aE af (ae 1 (pv 1)) (ae 3 (pv 3)))))))) ah)))) (gi TH Kb x_NoRest QM rfl)
  (pK (bw (gH (K:=K) rfl hr.units) iY (aW Vq hr (aa (ae 0 (pv 0)) (aa (ae 2 (pv 2)) ah))) (ae 2 (pv 2)) (br _)) (gi TH Kb x_NoRest QM rfl)
  jb))),?_⟩
 rintro ds C ⟨rfl,k,bo,sy,w,h,xs,rfl,hk,h0,hp,hl,hbad⟩
 walk_at "sl"
 walk_at "rd"
 refine comp_map (xs:=xs) (en:=eT) (f:=λp=>.bl (QI w h p)) (by lia) (λp Yc A B hA=>?_) ?_
 ·obtain ⟨x,y,rfl⟩:=hp p Yc
  dsimp only[aS,HH,HJ,Iz,Iu,IA]
  walk_at "rd"
  refine gT (λ_ q=>j_c q) (λ_ q=>gg rfl q) (λ_ q=>gg rfl q) ?_
  have hB:∀z,QI (w:Int) (h:Int) [x,y]=z->∀S5,Pu 2 [3,4] _ S5=_->A (.bl z) S5:=λz e S5 q=>e▸hA S5 q
  cases hz:(decide (0<=x)&&decide (x<(w:Int))) with
  | false=>
   walk_at "rc"
   exact hB _ (by simp only[QI];rw[hz];rfl) _ rfl
  | true=>
   walk_at "rc"
   refine gT (λ_ q=>j_c q) (λ_ q=>gg rfl q) (λ_ q=>gg rfl q) ?_
   walk_at "rc"
   exact hB _ (by simp only[QI];rw[hz,KZ]) _ rfl
 ·walk_at "rc"
  refine AW ?_
  cases ha:xs.all (QI w h) with
  | false=>
   walk_at "rc"
   exact if_pos rfl▸trivial
  | true=>
   walk_at "rc"
   rw[if_neg (by decide)]
   have TJ:nx k bo sy xs≠xs:=hbad.resolve_left λPx=>by
    obtain ⟨p,V8,Uw⟩:=Px
    have:=List.all_eq_true.mp ha p V8
    rw[Uw] at this;cases this
   walk_at "rd"
   refine ⟨k,bo,sy,xs,rfl,hk,h0,hp,by lia,?_⟩
   walk_at "rd"
   refine zM (x:=nx k bo sy xs) (y:=xs) (kG.lst) ?_
   rw[decide_eq_false TJ]
   walk_at "rc"
   exact if_pos rfl▸trivial
theorem zf {Pw Pp Po:Addr} (S:Src K mg "rest_number" cu) (T:QF mg) (Vr:PK P w K mg base 4 "refuse_no_rests" ["rule","size"] (PM K DN)) (EX_refuse_no_rests:ja P w K mg base 4 "refuse_no_rests" ["rule","size"] (DO Pw Pp)) (EX_refuse_no_rest:ja P w K mg base 5 "refuse_no_rest" ["rule","size","picture"] (D4 Po)):ja P w K mg base 6 "rest_number" ["rule","size","picture"] (UN Pw Pp Po):=by
 refine pL S aN (by walk_at "3") (by walk_at "L") λf PC A outer s H E hr TH=>⟨_,_,(vm (kR TH EX_refuse_no_rests rfl hr (aa (ae 0 (pv 0)) (aa (ae 1 (pv 1)) ah))) (nZ (cz (aW Vr hr (aa (ae 0 (pv 0)) (aa (ae 1 (pv 1)) ah)))) (kR TH EX_refuse_no_rest rfl hr (aa (ae 0 (pv 0)) (aa (ae 1 (pv 1)) (aa (ae 2 (pv 2)) ah)))))),?_⟩
 rintro ds C ⟨r,s,p,rfl,h | ⟨h,w,hh,rfl,w1,w2,h1,h2⟩⟩
 ·walk_at "sl"
  refine .inl ?_
  walk_at "rd"
  exact ⟨_,_,rfl,h,rfl⟩
 ·obtain ⟨e,k,bo,sy,w',h',xs,e2,hk,h0,r3⟩:=id h
  injection e2 with e2 e3
  subst e2
  walk_at "sl"
  refine .inr ?_
  walk_at "rd"
  refine ⟨k,bo,sy,_,rfl,h0,vP,by simp only[eT,HJ,Iz,Q8,Ik,decide_eq_true_eq];lia,?_⟩
  walk_at "rd"
  exact ⟨_,_,rfl,h,rfl⟩
end
end My
namespace My
open PySem L2 VL
def sb (x y:Int) (m:List Int):List Int:=match m with
 | [dx,dy]=>[x-dx,y-dy]
 | _=>[]
theorem kj {α:Type} {p q:α->Bool}:∀(l:List α),(∀a,p a=true->q a=true->False)->(l.filter λa=>p a||q a).length=(l.filter p).length+(l.filter q).length
 | [],_=>rfl
 | a::l,h=>by
  have ih:=kj l h
  cases hp:p a <;> cases hq:q a
  ·simp[hp,hq,ih]
  ·simp[hp,hq,ih];lia
  ·simp[hp,hq,ih];lia
  ·exact (h a hp hq).elim
theorem km {k:Int} (hk:Kd k) {x y:Int}:∀{ys:List (List Int)},ys.Nodup->(∀p∈ys,Pr p)->(Q6 k ys).count [x,y]=((nr k).filter λm=>decide (sb x y m∈ys)).length
 | [],_,_=>by
  rw[List.filter_eq_nil_iff.mpr λm _=>by simp]
  rfl
 | p::ys,hn,hp=>by
  have ih:=km hk (x:=x) (y:=y) (List.nodup_cons.mp hn).2 λq hq=>hp q (Ic _ hq)
  have e1:Q6 k (p::ys)=(nr k).map (ad p)++Q6 k ys:=by simp[Q6]
  rw[e1,OB,ih]
  have e2:((nr k).filter λm=>decide (sb x y m∈p::ys))=(nr k).filter λm=>decide (sb x y m=p)||decide (sb x y m∈ys):=by
   refine Jy λm _=>?_
   simp[JO]
  rw[e2,kj (nr k) λm h1 h2=>(List.nodup_cons.mp hn).1 (by rw[<- of_decide_eq_true h1];exact of_decide_eq_true h2)]
  congr 1
  rw[List.count_eq_length_filter,Ku,Hz]
  congr 1
  refine Jy λm hm=>?_
  obtain ⟨dx,dy,rfl⟩:=fK hk hm
  obtain ⟨px,py,rfl⟩:=hp p Hx
  simp only[Lm,ad,sb]
  refine Bool.eq_iff_iff.mpr ?_
  simp only[beq_iff_eq,decide_eq_true_eq,Ln,and_true]
  lia
def ng (m:List Int):List Int:=m.map λi=>-i
theorem GU {k:Int} (hk:Kd k):(st k).Perm ((nr k).map ng):=by rcases hk with rfl | rfl | rfl <;> decide +kernel
theorem rQ {k:Int} (hk:Kd k) {bo sy:List Int} {x y:Int} {ys:List (List Int)} (hn:ys.Nodup) (hp:∀p∈ys,Pr p):Sh k bo sy ys [x,y]=lives k bo sy ys x y:=by
 unfold Sh lives
 have e:((st k).filter λm=>decide (RS x y m∈ys)).length=(Q6 k ys).count [x,y]:=by
  rw[km hk hn hp,((GU hk).filter _).length_eq,Ku,Hz]
  congr 1
  refine Jy λm hm=>?_
  obtain ⟨dx,dy,rfl⟩:=fK hk hm
  simp only[Lm,ng,HJ,Iz,RS,sb]
  rfl
 rw[e]
 by_cases h:[x,y]∈ys <;> simp[h]
def SW (w n y:Nat):List (List Int):=((HF w).filter λx=>decide (n / 2 ^ x%2=1)).map λ(x:Nat)=>[0+(x:Int),0+(y:Int)]
def lv (w:Nat) (L:List Nat):List (List Int):=(HF L.length).flatMap λy=>SW w (L.getD y 0) y
theorem zg (w:Nat) (L:List Nat) (b:Nat):lv w (L++[b])=lv w L++SW w b L.length:=by
 unfold lv
 rw[HK,Kg,KS,JL]
 congr 1
 ·show (OT _ _).flatten=(OT _ _).flatten
  congr 1
  refine IW λy hy=>?_
  have:=List.mem_range.mp hy
  rw[Im,Ie this,<- Im]
 ·simp
theorem oE {w:Nat} {L:List Nat} {c:List Int}:c∈lv w L↔∃x y:Nat,c=[(x:Int),(y:Int)]/\x<w/\y<L.length/\L.getD y 0 / 2 ^ x%2=1:=by
 unfold lv SW
 simp only[List.mem_flatMap,Nm,Lp,List.mem_range,decide_eq_true_eq]
 constructor
 ·rintro ⟨y,hy,x,⟨hx,hb⟩,rfl⟩
  exact ⟨x,y,by rw[LS,LS],hx,hy,hb⟩
 ·rintro ⟨x,y,rfl,hx,hy,hb⟩
  exact ⟨y,hy,x,⟨hx,hb⟩,by rw[LS,LS]⟩
theorem qp (w n y:Nat):(SW w n y).length<=w:=by
 unfold SW
 rw[Hz]
 have:=JS (λx=>decide (n / 2 ^ x%2=1)) (HF w)
 rwa [ID] at this
theorem oF (w:Nat) (L:List Nat):(lv w L).length<=L.length*w:=by
 unfold lv
 have:∀l:List Nat,(l.flatMap λy=>SW w (L.getD y 0) y).length<=l.length*w:=λl=>by
  induction l with
  | nil=>simp
  | cons y l ih=>
   rw[JE,HK,IM,KL]
   have:=qp w (L.getD y 0) y
   lia
 have:=this (HF L.length)
 rwa [ID] at this
theorem wu (w:Nat) (L:List Nat):(lv w L).Nodup:=by
 unfold lv
 refine List.pairwise_flatMap.mpr ⟨λy _=>?_,?_⟩
 ·unfold SW
  refine List.pairwise_map.mpr ((List.nodup_range.filter _).imp λ{a b} z e=>z ?_)
  injection e with e _
  lia
 ·refine List.nodup_range.imp λ{y z} hyz a ha b hb e=>hyz ?_
  obtain ⟨x1,_,rfl⟩:=List.mem_map.mp ha
  obtain ⟨x2,_,rfl⟩:=List.mem_map.mp hb
  injection e with _ e
  injection e with e _
  lia
def QK (w:Nat) (L:List Nat):List (List Int):=srt (lv w L)
theorem AX {w h:Nat} {L:List Nat} (hL:L∈sq w h):Pc w h L (QK w L):=by
 obtain ⟨h1,h2⟩:=gW w h L hL
 have hm:∀c,c∈QK w L↔c∈lv w L:=λc=>(bT _).mem_iff
 refine ⟨h1,h2,λp hp=>?_,λX Y=>?_⟩
 ·obtain ⟨x,y,rfl,_⟩:=oE.mp ((hm p).mp hp)
  exact ⟨_,_,rfl⟩
 ·rw[hm,oE,h1]
  constructor
  ·rintro ⟨x,y,e,q⟩
   injection e with e1 e2
   injection e2 with e2 _
   exact ⟨x,y,e1,e2,q⟩
  ·rintro ⟨x,y,rfl,rfl,q⟩
   exact ⟨x,y,rfl,q⟩
theorem qq (l:List (List Int)):srt (srt l)=srt l:=gS (bT l)
theorem GV {w h:Nat} {L:List Nat} (hL:L∈sq w h) (hs:h*w<=200):Bx w h (QK w L):=by
 have P:=AX hL
 have h1:=(gW w h L hL).1
 refine ⟨(bT _).nodup_iff.mpr (wu w L),λc hc=>?_,qq _,?_⟩
 ·obtain ⟨x,y,e⟩:=P.pr c hc
  subst e
  obtain ⟨x',y',rfl,rfl,hx,hy,_⟩:=(P.mem _ _).mp hc
  exact ⟨x',y',rfl,hx,hy⟩
 ·unfold QK
  rw[(bT _).length_eq]
  have:=oF w L
  rw[h1] at this
  lia
theorem wy {k:Int} {bo sy:List Int} {ks:List (List Int)} {c:List Int}:c∈nx k bo sy ks↔(c∈Q6 k ks\/c∈ks)/\Sh k bo sy ks c=true:=by
 unfold nx
 rw[(bT _).mem_iff,Lp,gu,JD]
theorem lR {k:Int} (hk:Kd k) {ks:List (List Int)} (hp:∀p∈ks,Pr p) {c:List Int}:c∈lk k ks↔c∈Q6 k ks\/c∈ks:=by
 unfold lk Q6 X7
 simp only[List.mem_flatMap,JO,Nm]
 constructor
 ·rintro ⟨p,h1,rfl | ⟨m,h2,rfl⟩⟩
  ·exact .inr h1
  ·obtain ⟨px,py,rfl⟩:=hp p h1
   have hm:=(dQ hk).mem_iff.mp h2
   obtain ⟨dx,dy,rfl⟩:=fK hk hm
   exact .inl ⟨_,h1,_,hm,rfl⟩
 ·rintro (⟨p,h1,m,h2,rfl⟩ | h)
  ·obtain ⟨px,py,rfl⟩:=hp p h1
   obtain ⟨dx,dy,rfl⟩:=fK hk h2
   exact ⟨_,h1,.inr ⟨_,(dQ hk).mem_iff.mpr h2,rfl⟩⟩
  ·exact ⟨c,h,.inl rfl⟩
theorem wz {k:Int} {bo sy:List Int} {w h:Nat} {ks:List (List Int)} (hk:Kd k) (b:Bx w h ks):nx k bo sy ks=ks↔rests k bo sy ks=true:=by
 have hp:=b.pr
 have hl:∀c,c∈lk k ks->Sh k bo sy ks c=lives k bo sy ks (c.getD 0 0) (c.getD 1 0):=λc hc=>by
  have:Pr c:=by
   rcases (lR hk hp).mp hc with z | z
   ·exact vO hk hp c z
   ·exact hp c z
  obtain ⟨x,y,rfl⟩:=this
  exact rQ hk b.nd hp
 unfold rests
 rw[K6]
 constructor
 ·intro e c hc
  have h1:c∈nx k bo sy ks↔c∈ks:=by rw[e]
  rw[wy,<- lR hk hp] at h1
  unfold UL
  rw[<- hl c hc,decide_eq_true_eq]
  by_cases hm:c∈ks
  ·rw[decide_eq_true hm];exact (h1.mpr hm).2
  ·rw[decide_eq_false hm,OD];exact λz=>hm (h1.mp ⟨hc,z⟩)
 ·intro z
  have hm:∀c,c∈nx k bo sy ks↔c∈ks:=λc=>by
   rw[wy,<- lR hk hp]
   constructor
   ·rintro ⟨h1,h2⟩
    have:=of_decide_eq_true (z c h1)
    rw[<- hl c h1,h2] at this
    exact of_decide_eq_true this.symm
   ·intro h1
    have h2:c∈lk k ks:=(lR hk hp).mpr (.inr h1)
    have:=of_decide_eq_true (z c h2)
    rw[<- hl c h2,decide_eq_true h1] at this
    exact ⟨h2,this⟩
  have hn:(nx k bo sy ks).Nodup:=(bT _).nodup_iff.mpr ((fG _).filter _)
  have:=gS ((K0 hn b.nd).mpr hm)
  rw[b.so] at this
  exact (show srt (nx k bo sy ks)=nx k bo sy ks from qq _).symm.trans this
end My
namespace My
open PySem L2 VL
theorem zh (n x:Nat):decide (K5 ((0+(n:Int)) / 2 ^ (0+(x:Int)).toNat) 1=1)=decide (n / 2 ^ x%2=1):=by
 rw[iA (ox (by lia) _),LS,LS,Jh]
 refine decide_eq_decide.mpr ?_
 rw[show (2:Int) ^ x=((2 ^ x:Nat):Int) from (Kt 2 x).symm]
 lia
def AY:List D->(D->Prop)->Prop:=λds R=>∃(w h:Nat),ds=[eT [(w:Int),(h:Int)]]/\w<=4/\h<=6/\h*w<=6/\R (.lst ((sq w h).map λL=>eL (QK w L)))
structure KF (K:Ho) (c e f n o m u v b l t p q r:Addr) (b1 b2 b3:Bool):Prop where
 ex:Ms K (.ref c) (.ref e)=some true
 ok:dN K c=true
 k1:IN K (.ref c) (.ref r)=some b1
 k2:IN K (.ref c) (.ref n)=some b2
 k3:IN K (.ref c) (.ref l)=some b3
 kv:IN K (.ref c) (.type "ValueError")=some true
 ka:Mt K (.ref c) [.ref f,.ref o,.ref m,.ref u,.ref v,.ref b,.ref t,.ref p,.ref q]=some false
def AZ (Q:Addr->Bool->Bool->Bool->Prop) (cL cN cR:Addr):List D->(D->Prop)->Prop:=λds R=>∃c b1 b2 b3,UN cL cN cR ds c/\Q c b1 b2 b3/\R (.lst ([b1,b2,b3,true,false].map .bl))
def GW:List Int->List D->(D->List Int->Prop)->Prop:=λpn ds R=>∃(b w h:Nat),ds=[eT [(w:Int),(h:Int)]]/\1<=w/\w<=4/\1<=h/\h<=60/\Pn b pn/\b<=1000/\∀(x y:Int) QW,QI w h [x,y]=false->Pn (b+10) QW->R (eT [x,y]) QW
section
variable {P:Ip} {w:Ji} {K:Ho} {mg:Str->Option Ht} {base:Heap}
theorem zi (S:Src K mg "_law_pictures" dD) (T:QF mg):PK P w K mg base 1 "_law_pictures" ["_law_size"] (PM K AY):=by
 refine bF S bY (by walk_at "1") (by walk_at "L") λf PC A outer s H E hr=>⟨_,_,(ai (aC (i:=1) bY.nd rfl (HC rfl) (aH (aP (aa (aH (aP ah)) ah))))
  (ai (cj IY rfl (b6 rfl T.range (aa (aK rfl (ae 0 (pv 0)) af (λ_ _=>rfl)) ah)) (au (aq (i:=2) bY.nd rfl (Jm rfl) (HC rfl))) (ai (dI (λ_ h=>bN (i:=3) bY.nd rfl (HC rfl) h) (aP ah))
  (ai (cj IY rfl (ba rfl (ae 1 (pv 1))) (au (aq (i:=4) bY.nd rfl (HC rfl) (HC rfl))) (ao (cj IY rfl (b6 rfl T.range (aa (aA iE bU af (aK rfl (ae 0 (pv 0)) af (λ_ _=>rfl))) ah)) (au (aq (i:=5) bY.nd rfl (Jm rfl) (HC rfl))) (ao (cz (nQ 3 rfl (pv 3) (aH (pP rfl (ae 4 (pv 4)) (bR (tg:=["_law_x"]) (cs:=["_law_y","_law_number"]) (ix:=[2,5]) (aI (aj dD) ["_law_size","_law_found","_law_y","_law_longer","_law_live","_law_number"] (by decide +kernel)) rfl (aO (by decide)) (by decide) (b6 rfl T.range (aa (aK rfl (ae 0 (pv 0)) af (λ_ _=>rfl)) ah)) (λ_ _ _ _=>(au (aq (i:=0) (show (["_law_x","_law_y","_law_number"]:List Str).Nodup by decide +kernel) rfl (HC rfl) (by first | exact HC rfl | exact Jm rfl)))) (λ_ _ _ _=>(eJ (bw iF nO (aA gB aE (aA eX bU (ae 2 (pv 2)) (ae 0 (pv 0))) af) af (br _)))) (λ_ _ _ _=>(aB (aa (aL (ae 0 (pv 0))) (aa (aL (ae 1 (pv 1))) ah)))))))))))))
  (ao (CM 3 (aC (i:=1) bY.nd rfl (HC rfl) (ae 3 (pv 3))))))))
  (ao (aJ (aH (bR (tg:=["_law_live"]) (cs:=[]) (ix:=[]) (aI (aj dD) ["_law_size","_law_found","_law_y","_law_longer","_law_live","_law_number"] (by decide +kernel)) rfl (aO (by decide)) (by decide) (ba rfl (ae 1 (pv 1))) (λ_ _ _ _=>(au (aq (i:=0) (show (["_law_live"]:List Str).Nodup by decide +kernel) rfl (HC rfl) (by first | exact HC rfl | exact Jm rfl)))) (λ_ _ _ _=>bQ) (λ_ _ _ _=>(aH (rG rfl (by rfl) T.sorted_ gJ (aa (ae 0 (pv 0)) ah)))))))))),?_⟩
 rintro ds R ⟨w,h,rfl,hw,hh,hs,q⟩
 walk_at "sl"
 walk_at "rd"
 refine ik (λi S=>∃s2 s3 s4 s5,S=[.val (eT [(w:Int),(h:Int)]),.val (.lst ((sq w i).map λL=>eL (lv w L))),s2,s3,s4,s5]) ⟨_,_,_,_,rfl⟩ ?_ ?_
 ·rintro i S hi ⟨s2,s3,s4,s5,rfl⟩
  have hi':i<h:=by lia
  have h64:(sq w i).length<=64:=by
   rw[fu]
   have h1:i*w<=h*w:=LX _ (LN hi')
   exact show 2 ^ (i*w)<=2 ^ 6 from Jg (by decide) (by lia)
  have hww:2 ^ w<=2 ^ 4:=Jg (by decide) hw
  walk_at "rd"
  refine du (λj S=>∃s4 s5,S=[.val (eT [(w:Int),(h:Int)]),.val (.lst ((sq w i).map λL=>eL (lv w L))),.val (.int (0+(i:Int))),.own ((((sq w i).take j).flatMap λL=>(HF (2 ^ w)).map λb=>L++[b]).map λL=>eL (lv w L)),s4,s5]) ⟨_,_,rfl⟩ ?_ ?_
  ·rintro j d S e ⟨s4,s5,rfl⟩
   have hj:j<(sq w i).length:=by have:=(List.getElem?_eq_some_iff.mp e).1;rwa [Hz] at this
   obtain ⟨L,h1,rfl,hm,ht⟩:=aF e
   have hL:=(gW w i L hm).1
   have lj:(((sq w i).take j).flatMap λL=>(HF (2 ^ w)).map λb=>L++[b]).length<=1024:=by
    have:∀l:List (List Nat),(l.flatMap λL=>(HF (2 ^ w)).map λb=>L++[b]).length=l.length*2 ^ w:=λl=>by
     induction l with
     | nil=>simp
     | cons x l ih=>rw[JE,HK,ih,Hz,ID,IM,KL];lia
    rw[this,JU]
    have:min j (sq w i).length*2 ^ w<=64*16:=LL (by lia) hww
    lia
   walk_at "rd"
   have e1:(2:Int) ^ w=((2 ^ w:Nat):Int):=(Kt 2 w).symm
   dsimp only[R0]
   rw[O1,Jh,e1]
   refine tX ⟨by lia,by lia⟩ ?_
   rw[Jh]
   refine ik (λn S=>∃s5,S=[.val (eT [(w:Int),(h:Int)]),.val (.lst ((sq w i).map λL=>eL (lv w L))),.val (.int (0+(i:Int))),.own (((((sq w i).take j).flatMap λL=>(HF (2 ^ w)).map λb=>L++[b])++(HF n).map λb=>L++[b]).map λL=>eL (lv w L)),.val (eL (lv w L)),s5]) ⟨_,by rw[List.range_zero,Iz,IV]⟩ ?_ ?_
   ·rintro n S hn ⟨s5,rfl⟩
    have hll:=oF w L
    have hlw:L.length*w<=6*4:=LL (by lia) hw
    walk_at "rd"
    refine cq (xs:=HF w) (en:=λ(x:Nat)=>.int (0+(x:Int))) (f:=λ(x:Nat)=>eT [0+(x:Int),0+(i:Int)]) (p:=λ(x:Nat)=>decide (n / 2 ^ x%2=1)) (by simp;lia) (λx hx A B hA hB=>?_) ?_
    ·dsimp only[aS,HH,HJ,Iz,Iu,IA]
     walk_at "rd"
     rw[zh]
     refine dw (λz=>?_) (λz=>?_)
     ·walk_at "rd"
      exact hA _ rfl z
     ·exact hB _ rfl z
    rw[show ((HF w).filter λx=>decide (n / 2 ^ x%2=1)).map (λ(x:Nat)=>eT [0+(x:Int),0+(i:Int)])=(SW w n i).map eT by unfold SW;rw[Iq];rfl]
    have hrl:=qp w n i
    refine uE (ds:=(lv w L).map eT) rfl (dZ _) (by simp only[Hz];lia) ?_
    rw[<- HX,show lv w L++SW w n i=lv w (L++[n]) by rw[zg,hL]]
    walk_at "rd"
    refine nR rfl (by simp only[Hz,HK,ID] at lj ⊢;lia) ?_
    dsimp only[Ig,Iy]
    walk_at "rd"
    refine ⟨.val (.int (0+(n:Int))),?_⟩
    simp only[KS,HX,HJ,Iz,HU]
   ·rintro S ⟨s5,rfl⟩
    refine ⟨.val (eL (lv w L)),s5,?_⟩
    rw[ht,JL]
    simp only[JE,LW,IV]
  ·rintro S ⟨s4,s5,rfl⟩
   rw[Hz,I0,<- qk]
   walk_at "rd"
   exact ⟨_,_,_,_,rfl⟩
 ·rintro S ⟨s2,s3,s4,s5,rfl⟩
  rw[Jh]
  walk_at "rd"
  have h64:(sq w h).length<=64:=by
   rw[fu]
   exact show 2 ^ (h*w)<=2 ^ 6 from Jg (by decide) hs
  refine comp_map (xs:=sq w h) (en:=λL=>eL (lv w L)) (f:=λL=>eL (QK w L)) (by lia) (λL hL A B hA=>?_) ?_
  ·dsimp only[aS,HH,HJ,Iz,Iu,IA]
   walk_at "rd"
   refine ji (mss:=lv w L) rfl (λms hm=>?_) ?_
   ·obtain ⟨x,y,rfl,_⟩:=oE.mp hm
    simp
   walk_at "rd"
   exact hA _ rfl
  walk_at "rd"
  exact q
theorem zj {Q:Addr->Bool->Bool->Bool->Prop} {PL P7 Pw P8 P9 PR Po Qa Pp Qb P0 P1 P3:Addr} (S:Src K mg "_law_refused" gQ) (T:QF mg) (EX_rest_number:ja P w K mg base 6 "rest_number" ["rule","size","picture"] (UN Pw Pp Po))
  (g_CellError:mg "CellError"=some (.ref PL)) (g_ValueError:mg "ValueError"=none) (g_Folded:mg "Folded"=some (.ref P7)) (RQ:mg "Loud"=some (.ref Pw)) (g_NoLine:mg "NoLine"=some (.ref P8)) (g_NoName:mg "NoName"=some (.ref P9)) (g_NoNumber:mg "NoNumber"=some (.ref PR))
  (QM:mg "NoRest"=some (.ref Po)) (g_NoRule:mg "NoRule"=some (.ref Qa)) (Q9:mg "NoSize"=some (.ref Pp)) (g_NoText:mg "NoText"=some (.ref Qb)) (g_NoThing:mg "NoThing"=some (.ref P0)) (g_Outside:mg "Outside"=some (.ref P1)) (g_TooWide:mg "TooWide"=some (.ref P3))
  (hQ:∀c b1 b2 b3,Q c b1 b2 b3->KF K c PL P7 Pp P8 P9 PR Qa Qb Pw P0 P1 P3 Po b1 b2 b3):PK P w K mg base 7 "_law_refused" ["_law_code","_law_size","_law_live"] (PM K (AZ Q Pw Pp Po)):=by
 refine bF S eP (by walk_at "3") (λds R h=>by obtain ⟨_,_,_,_,⟨_,_,_,e,_⟩,_⟩:=h;rw[e];rfl) λf PC A outer s H E hr=>⟨_,_,(ai (dI (λ_ h=>bN (i:=3) eP.nd rfl (HC rfl) h) (aP ah))
  (ai (CZ (i:=4) EX_rest_number rfl hr (aa (ae 0 (pv 0)) (aa (ae 1 (pv 1)) (aa (ae 2 (pv 2)) ah))) g_CellError (λy=>(ai (dI (λ_ h=>bN (i:=3) eP.nd rfl (HC rfl) h) (aP (aa (ip (i:=4) (c:=.ref Po) rfl rfl (eu (by rfl) QM rfl) rfl (HC rfl) (by rfl) T.isinstance_) (aa (ip (i:=4) (c:=.ref Pp) rfl rfl (eu (by rfl) Q9 rfl) rfl (HC rfl) (by rfl) T.isinstance_) (aa (ip (i:=4) (c:=.ref Pw) rfl rfl (eu (by rfl) RQ rfl) rfl (HC rfl) (by rfl) T.isinstance_) (aa (ip (i:=4) (c:=.type "ValueError") rfl rfl (fv (by rfl) g_ValueError PyProof.Rows.Boot.«ValueError» rfl) rfl (HC rfl) (by rfl) T.isinstance_) ah))))))
  (ao (cz (nQ 3 rfl (pv 3) (xO (i:=4) rfl (dh g_Folded (dh g_NoLine (dh g_NoName (dh g_NoNumber (dh g_NoRule (dh g_NoText (dh g_NoThing (dh g_Outside (dh g_TooWide uo))))))))) (by simp) rfl (HC rfl) (by rfl) T.isinstance_)))))) (λ_ _ h=>h) rfl rfl rfl eP.nd rfl rfl)
  (ao (aJ (aL (ae 3 (pv 3))))))),?_⟩
 rintro ds R ⟨c,b1,b2,b3,hb,hq,q⟩
 have F:=hQ c b1 b2 b3 hq
 obtain ⟨r,si,p,rfl,h⟩:=id hb
 walk_at "sl"
 walk_at "rd"
 unfold Gi
 walk_at "rd"
 refine ⟨Ir rfl,[r,si,p],c,rfl,hb,F.ex,?_⟩
 dsimp only[List.set]
 walk_at "rd"
 refine kS rfl F.ok F.k1 ?_
 walk_at "rc"
 refine kS rfl F.ok F.k2 ?_
 walk_at "rc"
 refine kS rfl F.ok F.k3 ?_
 walk_at "rc"
 refine kS rfl F.ok F.kv ?_
 walk_at "rc"
 refine C2 rfl F.ok F.ka ?_
 walk_at "rc"
 refine ⟨Ir rfl,?_⟩
 dsimp only[List.set]
 walk_at "rc"
 exact q
theorem D8 (S:Src K mg "_law_outside" gR) (T:QF mg) (Rf:PK P w K mg base 1 "_law_draw" ["_law_pen_here","_law_many"] (SD K 0 mY)):PK P w K mg base 2 "_law_outside" ["_law_pen_here","_law_size"] (SD K 0 GW):=by
 refine tI 0 S dG (by walk_at "2") (by walk_at "L") λf PC A outer s H E hr=>⟨_,_,(ai (aC (i:=2) dG.nd rfl (HC rfl) (aA aZ aE (aK rfl (aH (aP (aa af (aa af (aa (aA nA bU af af) ah))))) (bP Rf hr (aa (ae 0 (pv 0)) (aa af ah))) (λ_ _=>rfl)) (bP Rf hr (aa (ae 0 (pv 0)) (aa af ah)))))
  (ai (aC (i:=3) dG.nd rfl (HC rfl) (bP Rf hr (aa (ae 0 (pv 0)) (aa (aK rfl (ae 1 (pv 1)) af (λ_ _=>rfl)) ah))))
  (ai (aC (i:=4) dG.nd rfl (HC rfl) (bP Rf hr (aa (ae 0 (pv 0)) (aa (aK rfl (ae 1 (pv 1)) af (λ_ _=>rfl)) ah))))
  (ai (aC (i:=5) dG.nd rfl (HC rfl) (aH (aP (aa (aB (aa (aA aZ aE (aK rfl (ae 1 (pv 1)) af (λ_ _=>rfl)) (ae 2 (pv 2))) (aa (aL (ae 4 (pv 4))) ah))) (aa (aB (aa (aA eW aE (fJ dR af) (ae 2 (pv 2))) (aa (aL (ae 4 (pv 4))) ah))) (aa (aB (aa (aL (ae 3 (pv 3))) (aa (aA aZ aE (aK rfl (ae 1 (pv 1)) af (λ_ _=>rfl)) (ae 2 (pv 2))) ah))) (aa (aB (aa (aL (ae 3 (pv 3))) (aa (aA eW aE (fJ dR af) (ae 2 (pv 2))) ah))) (aa (aB (aa (aA aZ aE (aK rfl (ae 1 (pv 1)) af (λ_ _=>rfl)) (ae 2 (pv 2))) (aa (aA eW aE (fJ dR af) (ae 2 (pv 2))) ah))) ah))))))))
  (ao (aJ (aL (aK rfl (ae 5 (pv 5)) (bP Rf hr (aa (ae 0 (pv 0)) (aa af ah))) (λ_ _=>rfl))))))))),?_⟩
 rintro a pn ds es R hl ⟨b,w,h,e,w1,w2,h1,h2,X8,hb,q⟩
 obtain rfl:ds=[]:=Jn hl
 obtain rfl:es=[eT [(w:Int),(h:Int)]]:=e
 walk_at "sl"
 walk_at "rd"
 refine ⟨b,3,rfl,X8,by lia,by lia,by lia,λpn1 r1 p1 WO WQ=>?_⟩
 walk_at "rd"
 obtain ⟨f1,hf,_,ef⟩:=d9 (f:=D.int) (l:=[0,1,10 ^ Int.toNat 59]) WO WQ
 refine dM rfl rfl ef ?_
 have SN:0<=f1:=by
  simp only[JO,List.not_mem_nil,or_false] at hf
  rcases hf with rfl | rfl | rfl
  ·decide
  ·decide
  ·exact OP (Int.pow_pos (by decide))
 walk_at "rd"
 refine ⟨b+1,3,rfl,p1,by lia,by lia,by lia,λRG r2 p2 X9 r2b=>?_⟩
 walk_at "rd"
 refine ⟨b+2,w,rfl,p2,by lia,by lia,by lia,λWd r3 p3 Ya r3b=>?_⟩
 walk_at "rd"
 refine ⟨b+3,h,rfl,p3,by lia,by lia,by lia,λYb r4 p4 r4a r4b=>?_⟩
 walk_at "rd"
 refine ⟨b+4,5,rfl,p4,by lia,by lia,by lia,λpn5 r5 p5 r5a r5b=>?_⟩
 walk_at "rd"
 have hout:∀x y:Int,(x<0\/(w:Int)<=x\/y<0\/(h:Int)<=y)->QI w h [x,y]=false:=λx y z=>by
  rw[OD]
  intro q
  simp only[QI,Ik,decide_eq_true_eq] at q
  lia
 obtain ⟨c,hc,_,ec⟩:=d9 (f:=eT) (l:=[[(w:Int)+(f1+r2),r4],[-1-(f1+r2),r4],[r3,(h:Int)+(f1+r2)],[r3,-1-(f1+r2)],[(w:Int)+(f1+r2),-1-(f1+r2)]]) r5a r5b
 refine dM rfl rfl ec ?_
 simp only[JO,List.not_mem_nil,or_false] at hc
 have hcx:∃x y:Int,c=[x,y]/\(x<0\/(w:Int)<=x\/y<0\/(h:Int)<=y):=by
  rcases hc with rfl | rfl | rfl | rfl | rfl
  ·exact ⟨_,_,rfl,by lia⟩
  ·exact ⟨_,_,rfl,by lia⟩
  ·exact ⟨_,_,rfl,by lia⟩
  ·exact ⟨_,_,rfl,by lia⟩
  ·exact ⟨_,_,rfl,by lia⟩
 obtain ⟨x,y,rfl,TZ⟩:=hcx
 walk_at "rd"
 exact ⟨_,rfl,q x y _ (hout x y TZ) (p5.le (by lia))⟩
end
end My
namespace My
open PySem L2 VL
def eB (bs:List Bool):D:=.lst (bs.map D.bl)
theorem lS:Enc 1 eB:=B5.lst
def Ye:D->Bool
 | .int _=>true
 | .bl _=>true
 | .non=>true
 | .str _=>true
 | .lst _=>true
 | .tup _=>true
 | _=>false
def GX:D->Bool
 | .tup es=>es.all Ye
 | d=>Ye d
theorem A0 (h:Ye d=true):Th d:=by cases d <;> first | trivial | cases h
theorem D9 (h:GX d=true):Vi d:=by
 cases d with
 | tup es=>exact ⟨trivial,λes' e x hx=>by cases e;exact A0 (List.all_eq_true.mp h x hx)⟩
 | _=>exact ⟨A0 h,λes' e=>nomatch e⟩
def b5:List D:=[.tup [.int 5,.int 1],.tup [.int 1,.int 61],.lst [.int 1,.int 1],.non,.tup [.int 1,.bl true]]
theorem Ea:b5.all (λd=>GX d&&!Q8 d)=true:=by decide +kernel
theorem GY (z:Int):((if (if 7<z then 7 else z)>2 then (if 7<z then 7 else z) else 2)-1).toNat<=6:=by
 by_cases h:7<z
 ·rw[if_pos h];decide
 ·rw[if_neg h]
  by_cases h2:z>2
  ·rw[if_pos h2];lia
  ·rw[if_neg h2];decide
section
variable {P:Ip} {w:Ji} {K:Ho} {mg:Str->Option Ht} {base:Heap}
theorem Eb {Q:Addr->Bool->Bool->Bool->Prop} {Pw Pp Po:Addr} (S:Src K mg "law" DJ) (T:QF mg) (TK:PK P w K mg base 1 "_law_pen" ["_law_script","_law_k"] (PM K GC)) (Rf:PK P w K mg base 1 "_law_draw" ["_law_pen_here","_law_many"] (SD K 0 mY)) (UR:PK P w K mg base 2 "_law_rule" ["_law_pen_here","_law_least"] (SD K 0 AS)) (US:PK P w K mg base 1 "_law_near" ["_law_kind"] (PM K AT)) (UT:PK P w K mg base 1 "_law_pictures" ["_law_size"] (PM K AY)) (UU:PK P w K mg base 2 "_law_rests" ["_law_code","_law_near_here","_law_live"] (PM K wb)) (UV:PK P w K mg base 6 "rest_number" ["rule","size","picture"] (PM K pNum)) (UW:PK P w K mg base 1 "_law_whole" ["_law_found"] (PM K GR)) (Vs:PK P w K mg base 7 "_law_refused" ["_law_code","_law_size","_law_live"] (PM K (AZ Q Pw Pp Po))) (UX:PK P w K mg base 2 "_law_outside" ["_law_pen_here","_law_size"] (SD K 0 GW))
  (qR:Q Po true false false) (qN:Q Pp false true false) (qL:Q Pw false false true):PK P w K mg base 8 "law" ["_law_script"] (PM K yK):=by
 refine bF S cY (by walk_at "1") (by walk_at "L") λf PC A outer s H E hr=>⟨_,_,(ai (pq (λ_ h=>bN (i:=1) cY.nd rfl (HC rfl) h) (zG TK hr (aa (ae 0 (pv 0)) (aa af ah))))
  (ai (aC (i:=2) cY.nd rfl (HC rfl) (bP UR hr (aa (ae 1 (pv 1)) (aa af ah))))
  (ai (aC (i:=3) cY.nd rfl (HC rfl) (aW US hr (aa (aK rfl (ae 2 (pv 2)) af (λ_ _=>rfl)) ah)))
  (ai (aC (i:=4) cY.nd rfl (HC rfl) (aA aZ aE af (bP Rf hr (aa (ae 1 (pv 1)) (aa af ah)))))
  (ai (aC (i:=5) cY.nd rfl (HC rfl) (aB (aa (ae 4 (pv 4)) (aa (aA aZ aE af (bP Rf hr (aa (ae 1 (pv 1)) (aa (aA hZ bU af (ae 4 (pv 4))) ah)))) ah))))
  (ai (aC (i:=6) cY.nd rfl (HC rfl) af)
  (ai (aC (i:=7) cY.nd rfl (HC rfl) (aW UT hr (aa (ae 5 (pv 5)) ah)))
  (ai (cj IY rfl (ba rfl (ae 7 (pv 7))) (au (aq (i:=8) cY.nd rfl (HC rfl) (HC rfl))) (ai (aC (i:=9) cY.nd rfl (HC rfl) (aH (ph rfl (by rfl) T.list_ (aa (ae 8 (pv 8)) ah))))
  (ai (b8 (cH (aW UU hr (aa (ae 2 (pv 2)) (aa (ae 3 (pv 3)) (aa (ae 8 (pv 8)) ah))))) (ai (aC (i:=10) cY.nd rfl (HC rfl) (aW UV hr (aa (ae 2 (pv 2)) (aa (ae 5 (pv 5)) (aa (ae 9 (pv 9)) ah)))))
  (ai (b8 (EA (Ez (fN (cH (aW UW hr (aa (ae 10 (pv 10)) ah)))) (BN (bw zx Ex (ae 10 (pv 10)) (ae 6 (pv 6)) (br _))))) (ao (aJ aX)) bg)
  (ao (aC (i:=6) cY.nd rfl (HC rfl) (aA aZ aE (ae 6 (pv 6)) af))))) (ao (b8 (bw (gH (K:=K) rfl hr.units) iY (aW Vs hr (aa (ae 2 (pv 2)) (aa (ae 5 (pv 5)) (aa (ae 9 (pv 9)) ah)))) (aH (aP (aa aX (aa aX (aa aX (aa aX (aa aX ah))))))) (br _)) (ao (aJ aX)) bg)))
  (ao (b8 (bw (gH (K:=K) rfl hr.units) iY (ae 9 (pv 9)) (ae 8 (pv 8)) (br _)) (ao (aJ aX)) bg)))))
  (ai (cj IY rfl (jO rfl T.range (aa af (aa (aT (qw rfl) EC (by rfl) T.max_ B6 (aa af (aa (aT (qx rfl) EC (by rfl) T.min_ B7 (aa (aT (i7 (K:=K) rfl) iR (by rfl) T.len_ fM (aa (ae 0 (pv 0)) ah)) (aa af ah))) ah))) ah))) (au (aq (i:=11) cY.nd rfl (HC rfl) (HC rfl))) (ai (pq (λ_ h=>bN (i:=12) cY.nd rfl (HC rfl) h) (zG TK hr (aa (ae 0 (pv 0)) (aa (ae 11 (pv 11)) ah))))
  (ai (aC (i:=8) cY.nd rfl (HC rfl) (aK rfl (ae 7 (pv 7)) (bP Rf hr (aa (ae 12 (pv 12)) (aa (aT (i7 (K:=K) rfl) iR (by rfl) T.len_ fM (aa (ae 7 (pv 7)) ah)) ah))) (λ_ _=>rfl)))
  (ai (aC (i:=9) cY.nd rfl (HC rfl) (aH (mS rfl rfl (by rfl) T.sorted_ gJ (aa (aH (pP rfl (ae 8 (pv 8)) (aP (aa (bP UX hr (aa (ae 12 (pv 12)) (aa (ae 5 (pv 5)) ah))) ah)))) ah))))
  (ai (b8 (bw (gH (K:=K) rfl hr.units) iY (aW Vs hr (aa (ae 2 (pv 2)) (aa (ae 5 (pv 5)) (aa (ae 9 (pv 9)) ah)))) (aH (aP (aa aX (aa aX (aa aX (aa aX (aa aX ah))))))) (br _)) (ao (aJ aX)) bg)
  (ao (b8 (bw (gH (K:=K) rfl hr.units) iY (aW Vs hr (aa (ae 2 (pv 2)) (aa (aK rfl (aH (aP (aa (aB (aa af (aa af ah))) (aa (aB (aa af (aa af ah))) (aa (aH (aP (aa af (aa af ah)))) (aa BL (aa (aB (aa af (aa aX ah))) ah))))))) (bP Rf hr (aa (ae 12 (pv 12)) (aa af ah))) (λ_ _=>rfl)) (aa (ae 8 (pv 8)) ah)))) (aH (aP (aa aX (aa aX (aa aX (aa aX (aa aX ah))))))) (br _)) (ao (aJ aX)) bg)))))))
  (ai (aC (i:=13) cY.nd rfl (HC rfl) (aB (aa (aK rfl (ae 2 (pv 2)) af (λ_ _=>rfl)) (aa (yv rfl (aB (aa af ah)) (aK rfl (ae 2 (pv 2)) af (λ_ _=>rfl))) (aa (aK rfl (ae 2 (pv 2)) af (λ_ _=>rfl)) ah)))))
  (ao (aJ (dt (B4 (K:=K) rfl hr.units) iY (aW Vs hr (aa (ae 13 (pv 13)) (aa (aK rfl (xC (aa (ae 5 (pv 5)) (aa (aB (aa af (aa af ah))) ah))) (bP Rf hr (aa (ae 1 (pv 1)) (aa af ah))) (λ_ _=>rfl)) (aa (aH (aP ah)) ah)))) (aH (aP (aa aX (aa aX (aa aX (aa aX (aa aX ah))))))) (br _)))))))))))))),?_⟩
 rintro ds R ⟨ns,rfl,hl,q⟩
 walk_at "sl"
 walk_at "rd"
 refine ⟨ns,0,rfl,by lia,λx y=>⟨_,rfl,rfl,?_⟩⟩
 refine kH (ns:=[x,y,0]) rfl ?_
 walk_at "rd"
 refine ⟨0,rfl,⟨x,y,0,rfl,by lia,by lia⟩,by lia,λk bo sy pn0 hk h0 WM p0=>?_⟩
 walk_at "rd"
 refine ⟨k,rfl,hk,?_⟩
 walk_at "rd"
 refine ⟨0+30,4,rfl,p0,by lia,by lia,by lia,λpn1 r1 p1 WO WQ=>?_⟩
 walk_at "rd"
 obtain ⟨w,⟨w1,w2⟩,ew⟩:∃w:Nat,(1<=w/\w<=4)/\1+r1=(w:Int):=⟨(1+r1).toNat,by lia,by lia⟩
 dsimp only[R0]
 rw[ew]
 have hd:0<(6:Int) / (w:Int)/\(6:Int) / (w:Int)<=6:=by
  rcases (by lia:w=1\/w=2\/w=3\/w=4) with rfl | rfl | rfl | rfl <;> decide
 refine ⟨0+30+1,(6:Int) / (w:Int),rfl,p1,by lia,hd.1,by lia,λRG r2 p2 X9 r2b=>?_⟩
 walk_at "rd"
 obtain ⟨h,⟨h1,Yf⟩,eh⟩:∃h:Nat,(1<=h/\h*w<=6)/\1+r2=(h:Int):=⟨(1+r2).toNat,by
  obtain ⟨v,rfl⟩:=Int.eq_ofNat_of_zero_le X9
  rw[show (1+(v:Int)).toNat=1+v by lia]
  rcases (by lia:w=1\/w=2\/w=3\/w=4) with rfl | rfl | rfl | rfl <;> lia,by lia⟩
 dsimp only[R0]
 rw[eh]
 have h6:h<=6:=Jf (Nat.le_mul_of_pos_right h w1) Yf
 have hsz:Q8 (eT [(w:Int),(h:Int)])=true:=by simp only[eT,HJ,Iz,Q8,Ik,decide_eq_true_eq];lia
 walk_at "rd"
 refine ⟨w,h,rfl,w2,h6,Yf,?_⟩
 walk_at "rd"
 have h64:(sq w h).length<=64:=by
  rw[fu]
  exact show 2 ^ (h*w)<=2 ^ 6 from Jg (by decide) Yf
 have hpos:0<(sq w h).length:=by rw[fu];exact Nr _
 have PB:∀L∈sq w h,Pc w h L (QK w L)/\Bx w h (QK w L)/\(QK w L).length<=6:=λL hL=>by
  refine ⟨AX hL,GV hL (by lia),?_⟩
  unfold QK
  rw[(bT _).length_eq]
  have:=oF w L
  rw[(gW w h L hL).1] at this
  lia
 refine du (λi S=>∃s8 s9 Qu,S=[.val (.lst (ns.map .int)),.pen none RG,.val (rl k bo sy),.val (eL (st k)),.val (.int w),.val (eT [(w:Int),(h:Int)]),.val (.int ((((sq w h).take i).filter λL=>ch (am k bo sy) w L 0 0).length:Nat)),.val (.lst ((sq w h).map λL=>eL (QK w L))),s8,s9,Qu,.no,.no,.no]) ⟨_,_,_,rfl⟩ ?_ ?_
 ·rintro i d S e ⟨s8,s9,Qu,rfl⟩
  obtain ⟨L,hLi,rfl,hm,ht⟩:=aF e
  obtain ⟨P,B,hlen⟩:=PB L hm
  have TN:(((sq w h).take (i+1)).filter λL=>ch (am k bo sy) w L 0 0).length=(((sq w h).take i).filter λL=>ch (am k bo sy) w L 0 0).length+if ch (am k bo sy) w L 0 0=true then 1 else 0:=by
   rw[ht,Jr,HK]
   congr 1
   cases hz:ch (am k bo sy) w L 0 0 <;> simp[hz]
  walk_at "rd"
  refine tT (ds:=(QK w L).map eT) rfl (dZ _) ?_
  walk_at "rd"
  refine ⟨k,bo,sy,QK w L,rfl,hk,P.pr,by lia,?_⟩
  rw[nj hk P h0]
  have TJ:=wz (k:=k) (bo:=bo) (sy:=sy) hk B
  rw[nj hk P h0] at TJ
  cases hc:ch (am k bo sy) w L 0 0 with
  | true=>
   rw[hc,if_pos rfl] at TN
   walk_at "rd"
   refine ⟨k,bo,sy,w,h,QK w L,L,rfl,hk,h0,w1,w2,h1,by lia,B,P,by lia,TJ.mpr hc,hc,?_⟩
   rw[wm (am k bo sy) w h 0 0 i L hLi hc]
   walk_at "rd"
   refine ⟨_,rfl,?_⟩
   walk_at "rc"
   refine tN (λz=>(z rfl).elim) (λ_=>?_)
   walk_at "rd"
   refine jT (x:=QK w L) (y:=QK w L) kG.lst rfl ?_
   walk_at "rc"
   exact ⟨_,_,_,by rw[TN,Md];rfl⟩
  | false=>
   rw[hc,if_neg Hy,ON] at TN
   walk_at "rd"
   refine ⟨Po,true,false,false,⟨_,_,_,rfl,.inr ⟨⟨rfl,k,bo,sy,w,h,QK w L,rfl,hk,h0,P.pr,by lia,.inr λz=>by rw[TJ.mp z] at hc;cases hc⟩,w,h,rfl,w1,w2,h1,by lia⟩⟩,qR,?_⟩
   walk_at "rd"
   refine jT (x:=[true,false,false,true,false]) (y:=[true,false,false,true,false]) lS rfl ?_
   walk_at "rc"
   refine jT (x:=QK w L) (y:=QK w L) kG.lst rfl ?_
   walk_at "rc"
   exact ⟨_,_,_,by rw[TN];rfl⟩
 ·rintro S ⟨s8,s9,Qu,rfl⟩
  generalize ((((sq w h).take ((sq w h).map λL=>eL (QK w L)).length).filter λL=>ch (am k bo sy) w L 0 0).length:Nat)=zz
  walk_at "rd"
  refine ik (λi S=>∃s8 s9 Qu Q4 V2,S=[.val (.lst (ns.map .int)),.pen none RG,.val (rl k bo sy),.val (eL (st k)),.val (.int w),.val (eT [(w:Int),(h:Int)]),.val (.int (zz:Nat)),.val (.lst ((sq w h).map λL=>eL (QK w L))),s8,s9,Qu,Q4,V2,.no]) ⟨_,_,_,_,_,rfl⟩ ?_ ?_
  ·rintro i S hi ⟨s8,s9,Qu,Q4,V2,rfl⟩
   have hi':i<6:=HS hi (GY _)
   walk_at "rd"
   rw[show (1:Int)+(i:Int)=((1+i:Nat):Int) by lia]
   refine ⟨ns,1+i,rfl,by lia,λx1 y1=>⟨_,rfl,rfl,?_⟩⟩
   refine kH (ns:=[x1,y1,0]) rfl ?_
   walk_at "rd"
   rw[Hz]
   refine ⟨0,((sq w h).length:Int),rfl,⟨x1,y1,0,rfl,by lia,by lia⟩,by lia,by lia,by lia,λWd r h3 r0 r1'=>?_⟩
   walk_at "rd"
   obtain ⟨L,hm,_,eLL⟩:=d9 (f:=λL=>eL (QK w L)) (l:=sq w h) r0 r1'
   obtain ⟨P,B,hlen⟩:=PB L hm
   refine dM rfl rfl eLL ?_
   walk_at "rd"
   refine ⟨0+1,w,h,rfl,w1,w2,h1,by lia,h3,by lia,λx y Yb Se h4=>?_⟩
   walk_at "rd"
   refine uE (ds:=(QK w L).map eT) rfl (dZ _) (by simp only[Hz,IM,J5];lia) ?_
   rw[show (QK w L).map eT++[eT [x,y]]=(QK w L++[[x,y]]).map eT by rw[HX];rfl]
   have WR:∀c∈QK w L++[[x,y]],Pr c:=λc hc=>by
    rcases List.mem_append.mp hc with hc | hc
    ·exact P.pr c hc
    ·rw[List.mem_singleton.mp hc];exact ⟨x,y,rfl⟩
   walk_at "rd"
   refine ji (mss:=QK w L++[[x,y]]) rfl (λms hms=>by obtain ⟨_,_,rfl⟩:=WR ms hms;simp) ?_
   have Yg:∀c,c∈srt (QK w L++[[x,y]])↔c∈QK w L++[[x,y]]:=λc=>(bT _).mem_iff
   have hle:(srt (QK w L++[[x,y]])).length<=7:=by rw[(bT _).length_eq,HK,Kg];lia
   generalize srt (QK w L++[[x,y]])=xs at Yg hle ⊢
   walk_at "rd"
   refine ⟨Po,true,false,false,⟨_,_,_,rfl,.inr ⟨⟨rfl,k,bo,sy,w,h,xs,rfl,hk,h0,λp hp=>WR p ((Yg p).mp hp),by lia,.inl ⟨[x,y],(Yg _).mpr (by simp),Se⟩⟩,w,h,rfl,w1,w2,h1,by lia⟩⟩,qR,?_⟩
   walk_at "rd"
   refine jT (x:=[true,false,false,true,false]) (y:=[true,false,false,true,false]) lS rfl ?_
   walk_at "rc"
   refine ⟨0+1+10,5,rfl,h4,by lia,by lia,by lia,λpn5 r5 h5 r50 r51=>?_⟩
   walk_at "rd"
   obtain ⟨d,hd,_,ed⟩:=d9 (f:=id) (l:=b5) r50 r51
   rw[N0] at ed
   have hb:=List.all_eq_true.mp Ea d hd
   simp only[Ik,Ow] at hb
   refine dM rfl rfl ed ?_
   walk_at "rd"
   refine ⟨Pp,false,true,false,⟨_,_,_,rfl,.inl ⟨k,bo,sy,d,rfl,.inr ⟨rfl,h0,D9 hb.1,hb.2⟩⟩⟩,qN,?_⟩
   walk_at "rd"
   refine jT (x:=[false,true,false,true,false]) (y:=[false,true,false,true,false]) lS rfl ?_
   walk_at "rc"
   exact ⟨_,_,_,_,_,rfl⟩
  ·rintro S ⟨s8,s9,Qu,Q4,V2,rfl⟩
   unfold rl
   walk_at "rd"
   refine vj (by simp) (by simp;lia) ?_
   walk_at "rd"
   refine ⟨0+30+1+1,2,rfl,p2,by lia,by lia,by lia,λWd r h3 r0 r1'=>?_⟩
   walk_at "rd"
   have hat:∃d,QY [eT [(w:Int),(h:Int)],eT [0,0]] r=some d:=by
    rcases (by lia:r=0\/r=1) with rfl | rfl
    ·exact ⟨_,rfl⟩
    ·exact ⟨_,rfl⟩
   obtain ⟨d,hd⟩:=hat
   refine dM rfl rfl hd ?_
   walk_at "rd"
   refine ⟨Pw,false,false,true,⟨_,_,_,rfl,.inl ⟨k,0::bo,sy,d,rfl,.inl ⟨rfl,Hx⟩⟩⟩,qL,?_⟩
   walk_at "rd"
   refine ER (x:=[false,false,true,true,false]) (y:=[false,false,true,true,false]) lS ?_
   rw[decide_eq_true rfl]
   walk_at "rc"
   exact q
end
end My
namespace My
open PySem L2 VL
theorem Ec {l:Na} {w:Ji} {h:Heap} {mg:Str->Option Ht} {fa:Addr} {Qh:Addr} {t_MOST_COLUMNS:Tok}  {t_MOST_ROWS:Tok} {PL:Addr}  {P7:Addr}  {Pp:Addr}  {P8:Addr}  {P9:Addr}  {PR:Addr}  {Qa:Addr}  {Qb:Addr}  {Pw:Addr}  {P0:Addr}  {P1:Addr}  {P3:Addr}  {Po:Addr} (X:K.In h) (G:h.Ns HW mg) (W3:mg "law"=some (.ref fa))
  (S0:Src K mg "_law_pen" vG) (S1:Src K mg "_law_draw" ot) (S2:Src K mg "is_whole" jm) (S3:Src K mg "is_pair" lE) (S4:Src K mg "offsets" jn) (S5:Src K mg "comes" oo) (S6:Src K mg "comes_amid" eO) (S7:Src K mg "is_quiet" jo) (S8:Src K mg "refuse_loud" cV) (S9:Src K mg "refuse_loud" cV) (XI:Src K mg "counts" lF) (S11:Src K mg "watched" jq) (S12:Src K mg "living_next" cX) (S13:Src K mg "next_turn" gP) (S14:Src K mg "is_rest_size" ft) (S15:Src K mg "refuse_no_rests" bX) (S16:Src K mg "refuse_no_rests" bX) (S17:Src K mg "centres" fq) (S18:Src K mg "rows_below" dB) (S19:Src K mg "followers_of" cD) (S20:Src K mg "may_end" lH) (S21:Src K mg "ways_to_end" cM) (S22:Src K mg "rows_of" iw) (S23:Src K mg "refuse_no_rest" bI) (S24:Src K mg "refuse_no_rest" bI) (S25:Src K mg "rest_number" cu) (S26:Src K mg "rest_number" cu) (S27:Src K mg "_law_rule" jr) (S28:Src K mg "_law_near" ou) (S29:Src K mg "_law_lives" iz) (S30:Src K mg "_law_whole" lK) (S31:Src K mg "_law_rests" lJ) (S32:Src K mg "_law_pictures" dD) (S33:Src K mg "_law_refused" gQ) (S34:Src K mg "_law_outside" gR) (S35:Src K mg "law" DJ)
  (n_OFFSETS:Ib K HW "OFFSETS"=some (some (.ref Qh))) (k_OFFSETS:VD K Qh rows=true) (i_MOST_COLUMNS:Ib K HW "MOST_COLUMNS"=some (some (.int 4 t_MOST_COLUMNS)))  (i_MOST_ROWS:Ib K HW "MOST_ROWS"=some (some (.int 60 t_MOST_ROWS))) (h_CellError:Ib K HW "CellError"=some (some (.ref PL)))  (h_Folded:Ib K HW "Folded"=some (some (.ref P7)))  (h_NoSize:Ib K HW "NoSize"=some (some (.ref Pp)))  (h_NoLine:Ib K HW "NoLine"=some (some (.ref P8)))  (h_NoName:Ib K HW "NoName"=some (some (.ref P9)))  (h_NoNumber:Ib K HW "NoNumber"=some (some (.ref PR)))  (h_NoRule:Ib K HW "NoRule"=some (some (.ref Qa)))  (h_NoText:Ib K HW "NoText"=some (some (.ref Qb)))  (h_Loud:Ib K HW "Loud"=some (some (.ref Pw)))  (h_NoThing:Ib K HW "NoThing"=some (some (.ref P0)))  (h_Outside:Ib K HW "Outside"=some (some (.ref P1)))  (h_TooWide:Ib K HW "TooWide"=some (some (.ref P3)))  (h_NoRest:Ib K HW "NoRest"=some (some (.ref Po))) (y0:Ib K HW "ValueError"=some none) (y1:Lq K Po [.type "ValueError",.type "Exception",.type "BaseException",.type "object"] "ValueError.__new__"=true) (y2:Ms K (.ref Po) (.ref PL)=some true) (y3:dN K Po=true) (y4:IN K (.ref Po) (.ref Po)=some true) (y5:IN K (.ref Po) (.ref Pp)=some false) (y6:IN K (.ref Po) (.ref Pw)=some false) (y7:IN K (.ref Po) (.type "ValueError")=some true) (y8:Mt K (.ref Po) [.ref P7,.ref P8,.ref P9,.ref PR,.ref Qa,.ref Qb,.ref P0,.ref P1,.ref P3]=some false) (y9:Lq K Pp [.type "ValueError",.type "Exception",.type "BaseException",.type "object"] "ValueError.__new__"=true) (y10:Ms K (.ref Pp) (.ref PL)=some true) (y11:dN K Pp=true) (y12:IN K (.ref Pp) (.ref Po)=some false) (y13:IN K (.ref Pp) (.ref Pp)=some true) (y14:IN K (.ref Pp) (.ref Pw)=some false) (y15:IN K (.ref Pp) (.type "ValueError")=some true) (y16:Mt K (.ref Pp) [.ref P7,.ref P8,.ref P9,.ref PR,.ref Qa,.ref Qb,.ref P0,.ref P1,.ref P3]=some false) (y17:Lq K Pw [.type "ValueError",.type "Exception",.type "BaseException",.type "object"] "ValueError.__new__"=true) (y18:Ms K (.ref Pw) (.ref PL)=some true) (y19:dN K Pw=true) (y20:IN K (.ref Pw) (.ref Po)=some false) (y21:IN K (.ref Pw) (.ref Pp)=some false) (y22:IN K (.ref Pw) (.ref Pw)=some true) (y23:IN K (.ref Pw) (.type "ValueError")=some true) (y24:Mt K (.ref Pw) [.ref P7,.ref P8,.ref P9,.ref PR,.ref Qa,.ref Qb,.ref P0,.ref P1,.ref P3]=some false)
  (z0:Ib K HW "len"=some none) (z1:Ib K HW "range"=some none) (z2:Ib K HW "abs"=some none) (z3:Ib K HW "isinstance"=some none) (z4:Ib K HW "int"=some none) (z5:Ib K HW "bool"=some none) (z6:Ib K HW "list"=some none) (z7:Ib K HW "tuple"=some none) (z8:Ib K HW "sorted"=some none) (z9:Ib K HW "max"=some none) (z10:Ib K HW "min"=some none) (z11:Ib K HW "all"=some none) (z12:Ib K HW "any"=some none) (z13:Ib K HW "set"=some none) (z14:Ib K HW "sum"=some none) (z15:Ib K HW "str"=some none) (z16:Ib K HW "dict"=some none) (z17:Ib K HW "zip"=some none) (z18:Ib K HW "enumerate"=some none) :
  ∃fd:Kx,(∀(s:Hv) (v:Ht),On s fd ⟨[v],[]⟩ [("_law_script",v)])/\∀base:Heap,K.In base->base.Ns HW mg->g9 l.prog w K mg base Sz 8 fa fd ["_law_script"] (PM K yK):=by
 have no:=λ{n:Str} (z:Ib K HW n=some none)=>PySem.W.mg_none_of X G z
 have T:QF mg:=⟨no z0,no z1,no z2,no z3,no z4,no z5,no z6,no z7,no z8,no z9,no z10,no z11,no z12,no z13,no z14,no z15,no z16,no z17,no z18⟩
 refine wV S35 W3 (λ_ _ _ _ _ _ _=>rfl) λbase=>?_
 have TK:=DK (P:=l.prog) (w:=w) (base:=base) S0 T
 have Rf:=yL (P:=l.prog) (w:=w) (base:=base) S1 T
 have TC:=GH (P:=l.prog) (w:=w) (base:=base) S2 T
 have UF:=yO (P:=l.prog) (w:=w) (base:=base) S3 T TC
 have Vj:=DP (P:=l.prog) (w:=w) (base:=base) S4 T  (IS X G n_OFFSETS) k_OFFSETS
 have Vk:=vQ (P:=l.prog) (w:=w) (base:=base) S5 T
 have UH:=yN (P:=l.prog) (w:=w) (base:=base) S6 T Vj Vk
 have Vl:=vR (P:=l.prog) (w:=w) (base:=base) S7 T
 have TF:=yP (P:=l.prog) (w:=w) (base:=base) S8 T Vl
 have e33_:=vS (P:=l.prog) (w:=w) (base:=base) S9 T Vl (IS X G h_Loud) y17
 have UC:=rL (P:=l.prog) (w:=w) (base:=base) XI T Vj
 have UE:=oA (P:=l.prog) (w:=w) (base:=base) S11 T UC
 have UD:=GI (P:=l.prog) (w:=w) (base:=base) S12 T Vk
 have Vq:=GJ (P:=l.prog) (w:=w) (base:=base) S13 T TF UD UE
 have Vm:=GK (P:=l.prog) (w:=w) (base:=base) S14 T UF (IS X G i_MOST_COLUMNS) (IS X G i_MOST_ROWS)
 have Vr:=DQ (P:=l.prog) (w:=w) (base:=base) S15 T TF Vm
 have e34_:=yQ (P:=l.prog) (w:=w) (base:=base) S16 T TF e33_ Vm (IS X G h_NoSize) y9
 have UI:=yU (P:=l.prog) (w:=w) (base:=base) S17 T UH
 have UJ:=DT (P:=l.prog) (w:=w) (base:=base) S18 T
 have UO:=DX (P:=l.prog) (w:=w) (base:=base) S19 T UI UJ
 have UK:=DY (P:=l.prog) (w:=w) (base:=base) S20 T
 have UP:=yY (P:=l.prog) (w:=w) (base:=base) S21 T UK
 have UQ:=zd (P:=l.prog) (w:=w) (base:=base) S22 T
 have Yd:=D6 (P:=l.prog) (w:=w) (base:=base) S23 T Vq
 have e32_:=ze (P:=l.prog) (w:=w) (base:=base) S24 T Vq (IS X G h_NoRest) y1
 have UV:=D7 (P:=l.prog) (w:=w) (base:=base) S25 T Vr Yd UO UP UQ
 have e31_:=zf (P:=l.prog) (w:=w) (base:=base) S26 T Vr e34_ e32_
 have UR:=yZ (P:=l.prog) (w:=w) (base:=base) S27 T Rf
 have US:=za (P:=l.prog) (w:=w) (base:=base) S28 T
 have UM:=we (P:=l.prog) (w:=w) (base:=base) S29 T
 have UW:=D1 (P:=l.prog) (w:=w) (base:=base) S30 T
 have UU:=wg (P:=l.prog) (w:=w) (base:=base) S31 T UM
 have UT:=zi (P:=l.prog) (w:=w) (base:=base) S32 T
 have Vs:=zj (Q:=λc b1 b2 b3=>KF K c PL P7 Pp P8 P9 PR Qa Qb Pw P0 P1 P3 Po b1 b2 b3) (P:=l.prog) (w:=w) (base:=base) S33 T e31_ (IS X G h_CellError) (no y0) (IS X G h_Folded) (IS X G h_Loud) (IS X G h_NoLine) (IS X G h_NoName) (IS X G h_NoNumber) (IS X G h_NoRest) (IS X G h_NoRule) (IS X G h_NoSize) (IS X G h_NoText) (IS X G h_NoThing) (IS X G h_Outside) (IS X G h_TooWide) (λ_ _ _ _ q=>q)
 have UX:=D8 (P:=l.prog) (w:=w) (base:=base) S34 T Rf
 exact Eb (P:=l.prog) (w:=w) (base:=base) S35 T TK Rf UR US UT UU UV UW Vs UX ⟨y2,y3,y4,y5,y6,y7,y8⟩ ⟨y10,y11,y12,y13,y14,y15,y16⟩ ⟨y18,y19,y20,y21,y22,y23,y24⟩
theorem walk {l:Na} {q:Ip} {loose:List Str} {XP:(Str->Option Ht)->Heap->Prop} {YP:Ji->Heap->Prop} {d:DefRec} {K:Params->Ho} (hn:l.most=some 63) (VC:d.params.defaults=[])
  (hY:∀(w:Ji) (h:Heap),YP w h->(K w.params).In h)
  (F:∀(w:Ji) (mg:Str->Option Ht) (fa:Addr) (h:Heap),(K w.params).In h->h.Ns HW mg->mg d.name=some (.ref fa) ->
   ∃fd:Kx,(∀(s:Hv) (u:Ht),On s fd ⟨[u],[]⟩ [("_law_script",u)])/\∀base:Heap,(K w.params).In base->base.Ns HW mg->g9 l.prog w (K w.params) mg base Sz 8 fa fd ["_law_script"] (PM (K w.params) yK)) :
  PySem.W.WalkO q loose XP YP l.row.toRowW d [] (λf vs=>Pd f vs):=
 L2.wR (n:=63) (k:=8) (x:="_law_script") (CX:=λ_=>Sz) (sp:=λw=>PM (K w.params) yK) hn (by decide) VC ⟨rfl,by decide,by decide,rfl⟩ hY F
  (λ_ _ a ns hl _ hS=>⟨_,λd=>d=.bl true,.cons (Rep.of_sqL hS trivial (λ_=>trivial) Pi.ints) .nil,⟨ns,rfl,hl,rfl⟩,λd v H' e _ r=>by subst e;cases r;rfl⟩) λ_ _ _ _ _ z=>z
end My
def PySem.W.Fast.tw6558794081650941360:Unit:=()
def PySem.W.Fast.tw14954929189839532631:Unit:=()
def PySem.W.Fast.tw9991758521080702018:Unit:=()
def PySem.W.Fast.tw16349227797011269074:Unit:=()
def PySem.W.Fast.tw9627372788544174361:Unit:=()
def PySem.W.Fast.tw8196702893933351514:Unit:=()
def PySem.W.Fast.tw14002426866604131167:Unit:=()
def PySem.W.Fast.tw15233200773344936871:Unit:=()
def PySem.W.Fast.tw14640158578491263111:Unit:=()
def PySem.W.Fast.tw8972967279865758545:Unit:=()
def PySem.W.Fast.tw362072612013306583:Unit:=()
def PySem.W.Fast.tw5249385154109631407:Unit:=()
def PySem.W.Fast.tw2079004630146187297:Unit:=()
def PySem.W.Fast.tw17816768003787234091:Unit:=()
def PySem.W.Fast.tw18334108232111518402:Unit:=()
def PySem.W.Fast.tw18157204319528692965:Unit:=()
def PySem.W.Fast.tw7024755236353407994:Unit:=()
def PySem.W.Fast.tw13885176014215946337:Unit:=()
def PySem.W.Fast.tw9731578866195459895:Unit:=()
def PySem.W.Fast.tw5789077690729162298:Unit:=()
def PySem.W.Fast.tw13559856630088050816:Unit:=()
def PySem.W.Fast.tw1228963846327603749:Unit:=()
def PySem.W.Fast.tw6774570442066494998:Unit:=()
def PySem.W.Fast.tw17437758187726907537:Unit:=()
def PySem.W.Fast.tw5301956512306253915:Unit:=()
def PySem.W.Fast.tw7266143422059202487:Unit:=()
def PySem.W.Fast.tw2057240286750285312:Unit:=()
def PySem.W.Fast.tw12386735633324161738:Unit:=()
def PySem.W.Fast.tw6291896014068360212:Unit:=()
def PySem.W.Fast.tw16396599191378405011:Unit:=()
def PySem.W.Fast.tw3366729776277632162:Unit:=()
def PySem.W.Fast.tw3251947532897781663:Unit:=()
def PySem.W.Fast.tw15969426701348203832:Unit:=()
def PySem.W.Fast.tw7271188620167326690:Unit:=()
def PySem.W.Fast.tw15017074336646678170:Unit:=()
def PySem.W.Fast.tw11516777820585367432:Unit:=()
def PySem.W.Fast.tw7007764866006887317:Unit:=()
def PySem.W.Fast.tw4042028527132434509:Unit:=()
def PySem.W.Fast.tw12817843379873117173:Unit:=()
def PySem.W.Fast.tw6226288676532667903:Unit:=()
def PySem.W.Fast.tw8575530557391606759:Unit:=()
def PySem.W.Fast.tw8830451588729832187:Unit:=()
def PySem.W.Fast.tw8567476123794067863:Unit:=()
def PySem.W.Fast.tw14409304478510415726:Unit:=()
def PySem.W.Fast.tw12881437831121304163:Unit:=()
def PySem.W.Fast.tw2431688031556659657:Unit:=()
def PySem.W.Fast.tw1218268519611526309:Unit:=()
def PySem.W.Fast.tw4988101940861171779:Unit:=()
def PySem.W.Fast.tw10239347498458228034:Unit:=()
def PySem.W.Fast.tw6255808738291250877:Unit:=()
def PySem.W.Fast.tw8157837571703447779:Unit:=()
def PySem.W.Fast.tw11231287333883169474:Unit:=()
def PySem.W.Fast.tw16683874129194290550:Unit:=()
def PySem.W.Fast.tw7258290591146732113:Unit:=()
def PySem.W.Fast.tw13183391401067458062:Unit:=()
def PySem.W.Fast.tw8194271761815955036:Unit:=()
def PySem.W.Fast.tw1224080412303954994:Unit:=()
def PySem.W.Fast.tw18294666670399337430:Unit:=()
def PySem.W.Fast.tw4865750768389586544:Unit:=()
def PySem.W.Fast.tw3675800909110308588:Unit:=()
def PySem.W.Fast.tw11417838404562476206:Unit:=()
def PySem.W.Fast.tw8668542975623599929:Unit:=()
def PySem.W.Fast.tw5727211927921927136:Unit:=()
def PySem.W.Fast.tw4290413697669425917:Unit:=()
def PySem.W.Fast.tw16834016549651842757:Unit:=()
def PySem.W.Fast.tw17765531522325727056:Unit:=()
def PySem.W.Fast.tw2561140486259134113:Unit:=()
def PySem.W.Fast.tw16070261712301806068:Unit:=()
def PySem.W.Fast.tw3314912564875546655:Unit:=()
def PySem.W.Fast.tw1270924330936612635:Unit:=()
def PySem.W.Fast.tw15616917479825234214:Unit:=()
def PySem.W.Fast.tw16086843788702346224:Unit:=()
def PySem.W.Fast.tw13535308230318733540:Unit:=()
def PySem.W.Fast.tw17753499083073872854:Unit:=()
def PySem.W.Fast.tw17919078025522242846:Unit:=()
def PySem.W.Fast.tw40721132799401968:Unit:=()
def PySem.W.Fast.tw7642125110981314887:Unit:=()
def PySem.W.Fast.tw3607200641713945818:Unit:=()
open PySem PySem.W PyProof.Rows
set_option maxRecDepth 100000 in
set_option maxHeartbeats 0 in
theorem PySem.Challenge.cw_cellships_k45_the_number_of_a_picture_holds : PySem.Challenge.rw_cellships_k45_the_number_of_a_picture.Holds := by
 w_on;o_law;k_head;(case hw=>w_witness2)
 k_fill
 refine My.walk (l:=PySem.Challenge.rw_cellships_k45_the_number_of_a_picture) rfl rfl (λw h Y=>PySem.W.kIn_of Y) ?F
 case F=>
  intro w mg fa h KX G hmg
  refine' My.Ec KX G hmg (L2.aM KX G ?a0 ?l0 ?c0 ?k0) (L2.aM KX G ?a1 ?l1 ?c1 ?k1) (L2.aM KX G ?a2 ?l2 ?c2 ?k2) (L2.aM KX G ?a3 ?l3 ?c3 ?k3) (L2.aM KX G ?a4 ?l4 ?c4 ?k4) (L2.aM KX G ?a5 ?l5 ?c5 ?k5) (L2.aM KX G ?a6 ?l6 ?c6 ?k6) (L2.aM KX G ?a7 ?l7 ?c7 ?k7) (L2.aM KX G ?a8 ?l8 ?c8 ?k8) (L2.aM KX G ?a9 ?l9 ?c9 ?k9) (L2.aM KX G ?a10 ?l10 ?c10 ?k10) (L2.aM KX G ?a11 ?l11 ?c11 ?k11) (L2.aM KX G ?a12 ?l12 ?c12 ?k12) (L2.aM KX G ?a13 ?l13 ?c13 ?k13) (L2.aM KX G ?a14 ?l14 ?c14 ?k14) (L2.aM KX G ?a15 ?l15 ?c15 ?k15) (L2.aM KX G ?a16 ?l16 ?c16 ?k16) (L2.aM KX G ?a17 ?l17 ?c17 ?k17) (L2.aM KX G ?a18 ?l18 ?c18 ?k18) (L2.aM KX G ?a19 ?l19 ?c19 ?k19) (L2.aM KX G ?a20 ?l20 ?c20 ?k20) (L2.aM KX G ?a21 ?l21 ?c21 ?k21) (L2.aM KX G ?a22 ?l22 ?c22 ?k22) (L2.aM KX G ?a23 ?l23 ?c23 ?k23) (L2.aM KX G ?a24 ?l24 ?c24 ?k24) (L2.aM KX G ?a25 ?l25 ?c25 ?k25) (L2.aM KX G ?a26 ?l26 ?c26 ?k26) (L2.aM KX G ?a27 ?l27 ?c27 ?k27) (L2.aM KX G ?a28 ?l28 ?c28 ?k28) (L2.aM KX G ?a29 ?l29 ?c29 ?k29) (L2.aM KX G ?a30 ?l30 ?c30 ?k30) (L2.aM KX G ?a31 ?l31 ?c31 ?k31) (L2.aM KX G ?a32 ?l32 ?c32 ?k32) (L2.aM KX G ?a33 ?l33 ?c33 ?k33) (L2.aM KX G ?a34 ?l34 ?c34 ?k34) (L2.aM KX G ?a35 ?l35 ?c35 ?k35) ?n0 ?m0 ?i0 ?i1 ?h0 ?h1 ?h2 ?h3 ?h4 ?h5 ?h6 ?h7 ?h8 ?h9 ?h10 ?h11 ?h12 ?y0 ?y1 ?y2 ?y3 ?y4 ?y5 ?y6 ?y7 ?y8 ?y9 ?y10 ?y11 ?y12 ?y13 ?y14 ?y15 ?y16 ?y17 ?y18 ?y19 ?y20 ?y21 ?y22 ?y23 ?y24 ?z0 ?z1 ?z2 ?z3 ?z4 ?z5 ?z6 ?z7 ?z8 ?z9 ?z10 ?z11 ?z12 ?z13 ?z14 ?z15 ?z16 ?z17 ?z18
  (case a0 | l0 | c0 | k0 | a1 | l1 | c1 | k1 | a2 | l2 | c2 | k2 | a3 | l3 | c3 | k3 | a4 | l4 | c4 | k4 | a5 | l5 | c5 | k5 | a6 | l6 | c6 | k6 | a7 | l7 | c7 | k7 | a8 | l8 | c8 | k8 | a9 | l9 | c9 | k9 | a10 | l10 | c10 | k10 | a11 | l11 | c11 | k11 | a12 | l12 | c12 | k12 | a13 | l13 | c13 | k13 | a14 | l14 | c14 | k14 | a15 | l15 | c15 | k15 | a16 | l16 | c16 | k16 | a17 | l17 | c17 | k17 | a18 | l18 | c18 | k18 | a19 | l19 | c19 | k19 | a20 | l20 | c20 | k20 | a21 | l21 | c21 | k21 | a22 | l22 | c22 | k22 | a23 | l23 | c23 | k23 | a24 | l24 | c24 | k24 | a25 | l25 | c25 | k25 | a26 | l26 | c26 | k26 | a27 | l27 | c27 | k27 | a28 | l28 | c28 | k28 | a29 | l29 | c29 | k29 | a30 | l30 | c30 | k30 | a31 | l31 | c31 | k31 | a32 | l32 | c32 | k32 | a33 | l33 | c33 | k33 | a34 | l34 | c34 | k34 | a35 | l35 | c35 | k35 | n0=>k_is)
  (case m0=>kernel_rfl)
  (case i0 | i1 | h0 | h1 | h2 | h3 | h4 | h5 | h6 | h7 | h8 | h9 | h10 | h11 | h12=>k_is)
  (case y0 | y1 | y2 | y3 | y4 | y5 | y6 | y7 | y8 | y9 | y10 | y11 | y12 | y13 | y14 | y15 | y16 | y17 | y18 | y19 | y20 | y21 | y22 | y23 | y24=>first | kernel_rfl | k_is)
  (case z0 | z1 | z2 | z3 | z4 | z5 | z6 | z7 | z8 | z9 | z10 | z11 | z12 | z13 | z14 | z15 | z16 | z17 | z18=>k_is)
#print axioms PySem.Challenge.cw_cellships_k45_the_number_of_a_picture_holds
