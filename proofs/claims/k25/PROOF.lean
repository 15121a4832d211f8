import PyProof.Rows.All
import Wide.All
import OpenK.AllK
import Wide.FinOn
import Lean
import PyProof.EqAt
import PyProof.EqKinds
import PyProof.TupleCall
import PyProof.NeData
import PyProof.P3In
import PyProof.ListRange
import PyProof.TupleOfStr
import PyProof.Rows.SumAny
import PyProof.Rows.Range3
import PyProof.StrCalls
import PyProof.Rows.SetFrom
import PyProof.WalksMore
import PyProof.TupleOfSeq
import KE.KRevSl
import KE.KLam
import KE.KSortKey
import KE.KNestM
import OpenK.KOwn
import KE.KIsNot
import KE.KTryMore
import PyProof.DictTable
import PyProof.Rows.TupDisplay
import PyProof.ReprLen
import PyProof.ReprRoads
import KE.KDictOf
import PyProof.AttrMissHeap
import PyProof.NeKinds
import PyProof.ZipIter
import PyProof.DictCompW
import PyProof.DictItems
import PyProof.DictWalks
import PyProof.DictDisplay
import PyProof.ExcAttrAll.ValueError
import PyProof.TupleKey
import PyProof.IsRules
import KE.KDictList
import KE.KDictSum
import PyProof.FactsAll.set_1
import PyProof.FactsAll.set_2
import PySem.Challenge.RW_cellships_k25_fates_on_rings
open PySem.W renaming Frag → Gn, nsIn → GV, kia_one → Hy, mg_of → HG, kitOne → Ik, fnOf → Iq, keepIn → Jw, codeIn → K0, methodObj → K9, kitx_list → Lb, kitx_dict → Lc, cellsFrom_some → LB, instObj → LH, OpenLaw → LM, lookIn → Md, exmOne → Mj, kitx_tuple → MA, looks_findIn → Nj
open PySem renaming wpAny_bind → Gp, Value → Gs, Shared → Gv, wpAny_pure → GA, mainGlobals → GK, starEach → GM, sizeLine → GZ, Program → G2, foldedSetIterable → G7, wpAny_mono → G9, model → Ha, wpAny → Hj, sizeLine_eq → Hv, wpAny_holding → Hx, wpAny_newObj_type → HE, mem_of_lookup → HF, World → HJ, bootBuiltins → HP, Around → HQ, compareOp → HS, wpAny_standAt → Il, wpAny_loadPart' → Io, wpAny_truthy_bool → IA, wpAny_call_entry → IF, swapsWith → IN, binaryOp → IP, NameKind → IQ, FuncData → IU, assignEach → IW, wpAny_setField_rec → Ji, holding → Jj, sysModules → Jo, behindInMarks → Jq, cLine → Jt, Scope → Jz, standAt → JA, codeAny → JB, backTo → JF, wpAny_comprehension_free → JI, letOwnedTupleGo → JL, wpAny_passesOwn → JM, wpAny_callSpecial?_slot → JP, tupleKind_room_in1 → JT, wpAny_isOneOf_itemiter → JZ, wpAny_field → J5, sliceBounds → J7, wpAny_rule → Ka, IsItemIter → Kc, assign → Kn, wpAny_newFunctionEnv → Ko, attributeBase → Kr, compEnvC → Ks, plainId_quiet → Kt, wpAny_attempt → Ku, tupleKind → KA, DictEntry → KC, argBest → KE, wpAny_Call_Name_kw → KR, concat_meets → KS, wpAny_tryCatch → K5, wpAny_assign_Name → La, call_meets → Ld, wpAny_dictEntries → Ll, bindArgs → Lo, wpAny_newList → Lr, wpAny_letGo → Lv, noFill_tuple_add → Ly, codeAny_compStart_dict → LF, wpAny_execs_nil → LJ, codeAny_loop → LN, theTreesLotGoes → LO, exec_Assign_Name_used → LP, codeAny_builtin → LQ, wpAny_updateSeq → LR, wpAny_dictEpoch → LV, codeAny_call_builtin → L5, pyNext → Ma, wpAny_newTuple → Me, wpAny_seqItems → Mf, evalPairs_cons → Mi, wpAny_noted → Ml, Paired → Mt, swapsWithSole → Mw, swappedStores → Mx, rawInt → Mz, seq_tuple_add → MC, comprehension → ME, compTurn → MF, wpAny_dictSet_heap → MG, intKind → MN, setItem → MO, wpAny_pyIter_list → MP, BindsTo → MR, list_append → MS, callerA → MT, valueAt → MU, wpAny_pyIter_slot → M5, intKind_is → M6, isTrue → Nd, codeAny_mono → Ng, seqIndex_neg → Ni, getItem → Nq, pyIter → Nr, IsPart → Nt, seqIndex_of → Nv, keywordEach → Nw, Keyword → Ny, noteFrame → Nz, Model → ND, builtinsNs → NF, wpAny_Name → NG, wpAny_call → NH, typeIs_int → NJ, call → NK, hashInt → NN, Operator → NO, release → NQ, compPost → NR, Result → NS, atKey → NT, bindL → NV, bindC → NW
open List renaming mem_append_right → Gq, getElem?_eq_getElem → Gr, length_map → Gx, size_toArray → GC, mem_cons_self → GG, getElem?_map → GH, append_assoc → GJ, getElem?_append_right → GN, map_cons → GO, mem_cons_of_mem → GU, take_append_drop → GX, getElem?_append_left → GY, getElem?_set_self → G0, range → G1, getElem?_set_ne → G3, length_append → G6, replicate → He, set_cons_zero → Hg, mem_append_left → Hh, set_cons_succ → Hk, eq_nil_of_length_eq_zero → Hm, cons_append → Hq, nil_append → Hr, map_nil → Hu, map_append → HA, map_map → HC, take_length → HK, drop_eq_getElem_cons → HM, mem_of_getElem? → HR, length_cons → HV, drop_eq_nil_of_le → HZ, append_nil → Ia, find?_cons → Ib, length_take → Ie, map_congr_left → Ih, getElem?_cons_succ → Im, mem_singleton → Ip, length_drop → Ir, getD_eq_getElem?_getD → Iy, getElem?_range → IC, perm_append_comm → IE, take_of_length_le → IL, length → IS, mem_of_mem_take → IV, length_nil → Jc, range_succ → Jd, length_range → Je, pairwise_lt_range → Jg, length_replicate → Jl, getElem?_eq_none → Jn, pairwise_map → Jr, mem_of_mem_drop → Ju, drop_zero → Jy, eq_of_mem_replicate → JJ, getElem?_replicate → JN, nodup_cons → JQ, filter_append → JS, mem_append → JW, take_sublist → J3, foldl_append → J9, ext_getElem? → Kb, filter_congr → Ke, nodup_nil → Kg, getElem?_append → Kq, filterMap_cons → KB, foldl_cons → KG, getElem_of_mem → KI, flatMap_append → KM, perm_ext_iff_of_nodup → KQ, getElem?_take → KY, extract_eq_take_drop → K6, pairwise_iff_getElem → K7, mem_cons → Lu, all_eq_true → LA, drop_of_length_le → LG, of_mem_zip → LK, length_singleton → LL, pairwise_flatMap → LX, filter_map → LY, pairwise_append → L6, append_toArray → Mn, filter_sublist → Mr, getElem?_drop → MK, take_add_one → MX, nodup_append → M7, flatMap_cons → M8, count_append → M9, mem_map → Nk, idxOf? → NA
open PySem.Heap renaming get?_push_of_some → Gu, lt_size → GI, get?_push_size → GQ, get?_update_other → HB, size_push → Kf, get?_update_self → Ki
open Bool renaming false_ne_true → Gw, and_eq_true → G5, false_eq_true → Hz, eq_iff_iff → IY, false_and → Mb
open PyProof.Rows renaming wpS_bind → Gy, arrOf → GD, wpS_pure → GF, Keyed → GL, pendingOf → GS, wpS_forRange → Ho, wpS_modify → HN, reverseSlice'_eq → Iu, wpS_mono → Iw, SortSt → Iz, mirror → Jf, failedOf → Jh, callWith_type1 → Jk, envOfC → JD, slot_tuple_getitem → J6, SortKind → Kh, seqObj → Kk, wpS_get → Km, setArr → KW, AllBare → KZ, KeyOrd → Lg, listUpdate_at → Lq, wpS_lift → Lw, subscriptTail_builtinR → LC, IntsAre → L8, seqEpoch_at → Mm, getElem?_mirror_all → Mp, subscriptTail → MD, setPending → MZ, tail_any → Nn, Subscript_ → NI, IsTup → NU
open Nat renaming le_refl → Gz, lt_of_lt_of_le → GR, le_of_ble_eq_true → GW, ne_of_lt → Hn, not_lt_zero → HU, le_trans → HY, lt_irrefl → Ic, lt_succ_self → Ig, zero_le → IG, le_succ → JC, min_eq_left → JV, le_of_eq → Kj, zero_add → KU, add_assoc → Lx, le_of_not_lt → Lz, le_of_lt → LI, add_zero → LU, ble → MW, lt_succ_of_lt → MY, ne_of_gt → Nf, pow_succ → Nl
open Or renaming inl → GB, inr → Ij
open Option.some renaming inj → GP
open Classical renaming byContradiction → G4
open PyProof.Rows.KeyOrd renaming kle_trans → G8, kle_of_klt → Hw, kle_refl → Jb, klt_of_kle_of_klt → Li
open Array renaming length_toList → Hb, toList_append → Hl, getElem?_toList → Ii, getElem?_setIfInBounds → Kv, getD_eq_getD_getElem? → KH, getElem?_eq_getElem → K8, toList_push → Lj, reverse_reverse → LS, reverse_append → L7
open Int renaming emod_lt_of_pos → Hd, emod_nonneg → Hs, eq_ofNat_of_zero_le → HH, emod_eq_of_lt → HX, toNat_of_nonneg → IK, zero_add → IR, add_mul_emod_self_left → Js, toNat_natCast → J4, emod_add_mul_ediv → Kl, fdiv_eq_ediv_of_nonneg → KO, neg_emod_eq_sub_emod → Ln, emod_emod_of_dvd → L9, add_emod_emod → Na, emod_sub_emod → Nc, add_zero → Nm, one_mul → NC
open PySem.Value renaming ref → Hf, none → HD, int → Kz, bool → LZ, type → L0, notImplemented → L4, isInt → Mk, str → Np
open PySem.PassesOwn renaming never → Hi
open PySem.NameKind renaming free → Ht, cell → Lp
open PySem.PyData renaming eqv → HW, eqvAll → II, canLay0 → IJ, canLayAll0 → Ja, depthAll → Jm, depth → JK, int → NL
open PySem.Obj renaming mapSeq → IB
open List.Perm renaming append_left → ID, append_right → JY, refl → Mh
open PySem.Paired renaming length → IM
open PySem.Builtin.Slice renaming slicePlaces → IT, sliceAdjust → Jx, sliceApplied → KP
open PySem.Builtin.Tuple renaming tupleExact → IZ
open False renaming elim → Jp
open PySem.Builtin.Dict_items renaming ownedTupleFields → JE, ownsTuple → Kw
open PySem.F renaming args_tuple_add_2 → JG, entry_tuple_add → JO, slot_tuple_add → JX, plainAttrs_list → Ls
open PySem.Builtin.List renaming listTooLong → JH
open Function renaming comp → JR, comp_def → J8
open List.cons renaming injEq → JU, inj → MJ
open Ne renaming symm → J1
open True renaming intro → Kx
open ForInStep renaming yield → KD
open Array.Perm renaming refl → KJ
open PySem.Heap.SameBut renaming update → KL
open PySem.Calls renaming Name_function_global → KN, call_function_entry → K4, callWith_builtin → LD, evalArgs_plain → L1, Constant_str → Mu, spliced_cons → MB, spliced_nil → MQ
open List.Pairwise renaming nil → Le, imp_of_mem → Lk
open Option renaming isSome_map → Lh
open PySem.Builtin.Dict renaming showsAll → LW
open PySem.Around renaming under_plainId → L3
open Prod.mk renaming inj → Mq
open Sum renaming inl → ML, inr → MM
open PyProof.Rows.SortSt renaming mk' → MV
open List.Sublist renaming refl → Nb
open PySem.Str renaming ofString → Nh
open PyProof.Rows.IsTup renaming new → Nu
set_option Elab.async false
set_option linter.all false
set_option bootstrap.genMatcherCode false
set_option genSizeOf false
set_option maxRecDepth 100000
set_option maxHeartbeats 4000000
namespace L2
open PySem PySem.Spec PyProof.Rows
noncomputable abbrev Key:=Sum Int Str
noncomputable def yD:Key->Gs->Bool
 | .inl k,v=>Mk k v
 | .inr x,v=>Value.isStrOf x v
noncomputable def FQ (w:HJ):Key->Int
 | .inl k=>NN k
 | .inr x=>hashStr w x
theorem bB:∀{k:Key} {v:Gs},yD k v=true->(∃i t,k=ML i/\v=Kz i t)\/(∃x t,k=MM x/\v=Np x t)
 | .inl i,v,h=>by
  obtain ⟨t,e⟩:=Value.isInt_shape (k:=i) (v:=v) h
  exact .inl ⟨i,t,rfl,e⟩
 | .inr x,v,h=>by
  obtain ⟨t,e⟩:=Value.isStrOf_shape (x:=x) (v:=v) h
  exact .inr ⟨x,t,rfl,e⟩
theorem zR (a b:Int):decide ((ML a:Key)=ML b)=(a==b):=by
 by_cases e:a=b
 ·subst e;simp
 ·have h:¬ (ML a:Key)=ML b:=fun q=>e (Sum.inl.inj q)
  rw [decide_eq_false h]
  exact (beq_eq_false_iff_ne.mpr e).symm
theorem zS (a b:Str):decide ((MM a:Key)=MM b)=decide (a=b):=by
 by_cases e:a=b
 ·subst e;simp
 ·have h:¬ (MM a:Key)=MM b:=fun q=>e (Sum.inr.inj q)
  rw [decide_eq_false h,decide_eq_false e]
theorem zT (a:Int) (b:Str):decide ((ML a:Key)=MM b)=false:=decide_eq_false (fun q=>nomatch q)
theorem zU (a:Str) (b:Int):decide ((MM a:Key)=ML b)=false:=decide_eq_false (fun q=>nomatch q)
noncomputable def jV (prog:G2) (w:HJ):PySem.KeyKind prog w Key where
 is:=yD
 hash:=FQ w
 inj:=fun v a b ha hb=>by
  rcases bB ha with ⟨i,t,rfl,rfl⟩ | ⟨x,t,rfl,rfl⟩
  ·rcases bB hb with ⟨j,u,rfl,e⟩ | ⟨y,u,rfl,e⟩
   ·injection e with e1 _;rw [e1]
   ·exact nomatch e
  ·rcases bB hb with ⟨j,u,rfl,e⟩ | ⟨y,u,rfl,e⟩
   ·exact nomatch e
   ·injection e with e1 _;rw [e1]
 byValue:=fun k v h=>by
  rcases bB h with ⟨i,t,rfl,rfl⟩ | ⟨x,t,rfl,rfl⟩ <;> rfl
 pyHash:=fun hv h=>by
  rcases bB hv with ⟨i,t,rfl,rfl⟩ | ⟨x,t,rfl,rfl⟩
  ·exact wpAny_pyHash_int h
  ·exact wpAny_pyHash_str h
 eqBool:=fun hu hv h=>by
  rcases bB hu with ⟨i,t,rfl,rfl⟩ | ⟨x,t,rfl,rfl⟩
  ·rcases bB hv with ⟨j,u,rfl,rfl⟩ | ⟨y,u,rfl,rfl⟩
   ·rw [zR] at h;exact wpAny_eqBool_int h
   ·rw [zT] at h;exact SeqAt.EqAt.int_str i t y u _ _ _ _ h
  ·rcases bB hv with ⟨j,u,rfl,rfl⟩ | ⟨y,u,rfl,rfl⟩
   ·rw [zU] at h;exact SeqAt.EqAt.str_int x t j u _ _ _ _ h
   ·rw [zS] at h;exact wpAny_eqBool_str h
 «strs»:=fun k x t v h=>by
  rcases bB h with ⟨i,u,rfl,e⟩ | ⟨y,u,rfl,e⟩
  ·exact nomatch e
  ·injection e with e1 _
   subst e1
   cases v <;> rfl
end L2
namespace L2
open PySem PySem.Spec PyProof.Rows
inductive V where
 | non | bl (b:Bool) | int (i:Int) | str (x:Str) | byt (b:Array UInt8) | flt (b:UInt64) | ref (a:Addr) | ty (n:String)
 deriving DecidableEq
noncomputable def RelV:V->Gs->Prop
 | .non,u=>u=HD
 | .bl b,u=>u=LZ b
 | .int i,u=>∃t,u=Kz i t
 | .str x,u=>∃t,u=Np x t
 | .byt b,u=>∃t,u=Value.bytes b t
 | .flt b,u=>∃t,u=Value.float b t
 | .ref a,u=>u=Hf a
 | .ty n,u=>u=L0 n
noncomputable abbrev Vals:List V->List Gs->Prop:=Mt RelV
theorem Vals.length {xs:List V} {us:List Gs} (r:Vals xs us):xs.length=us.length:=IM r
theorem Vals.get:∀{xs:List V} {us:List Gs} {i:Nat} {x:V},Vals xs us->xs[i]?=some x->∃u,us[i]?=some u/\RelV x u
 | _,_,_,_,.nil,e=>by simp at e
 | _,_,0,_,.cons r _,e=>by simp at e;subst e;exact ⟨_,rfl,r⟩
 | _,_,i+1,x,.cons _ t,e=>by
  obtain ⟨u,h1,h2⟩:=Vals.get (i:=i) (x:=x) t (by simpa using e)
  exact ⟨u,by simpa using h1,h2⟩
theorem Vals.set {x:V} {u:Gs} (r:RelV x u):∀{xs:List V} {us:List Gs} (i:Nat),Vals xs us->Vals (xs.set i x) (us.set i u)
 | _,_,_,.nil=>.nil
 | _,_,0,.cons _ t=>.cons r t
 | _,_,i+1,.cons q t=>.cons q (Vals.set r i t)
theorem Vals.append:∀{xs ys:List V} {us ws:List Gs},Vals xs us->Vals ys ws->Vals (xs++ys) (us++ws)
 | _,_,_,_,.nil,s=>s
 | _,_,_,_,.cons r t,s=>.cons r (Vals.append t s)
theorem Vals.take:∀{xs:List V} {us:List Gs} (n:Nat),Vals xs us->Vals (xs.take n) (us.take n)
 | _,_,0,_=>.nil
 | _,_,_+1,.nil=>.nil
 | _,_,n+1,.cons r t=>.cons r (Vals.take n t)
theorem Vals.drop:∀{xs:List V} {us:List Gs} (n:Nat),Vals xs us->Vals (xs.drop n) (us.drop n)
 | _,_,0,r=>r
 | _,_,_+1,.nil=>.nil
 | _,_,n+1,.cons _ t=>Vals.drop n t
noncomputable def RelO:Option V->Option Gs->Prop
 | some v,some u=>RelV v u
 | none,none=>True
 | _,_=>False
noncomputable def KV {κ:Type}:List (κ×V)->List (κ×Gs)->Prop:=Mt fun (p:κ×V) (q:κ×Gs)=>p.1=q.1/\RelV p.2 q.2
noncomputable def kV:Key->V
 | .inl i=>.int i
 | .inr x=>.str x
inductive HO where
 /-- a list -/
 | lst (xs:List V)
 /-- a tuple (never changes) -/
 | tup (xs:List V)
 /-- a dict whose keys are ints and texts;one whose keys are tuples of ints and texts (the empty one is both) -/
 | dK (kvs:List (Key×V)) | dT (kvs:List (List Key×V))
 /-- a set of ints: its members,its size -/
 | set (S:Int->Bool) (n:Nat)
 /-- an instance of the class at C,its dict at dx,its attributes -/
 | ins (C dx:Addr) (fs:List (Str×V))
 /-- the dict of the instance at x -/
 | own (x:Addr)
 /-- the dict of an exception -/
 | xd (fs:List (Str×V))
 /-- a bound method,f of x -/
 | met (f x:Addr)
 /-- a range object lo,lo+1,.. below hi -/
 | rng (lo hi:Int)
 /-- a thing that is known to the object (the script;a dict while a loop walks it): read,never written while it is so -/
 | frz (o:Obj) (u:HO)
 /-- a code object's table -/
 | tbl (ps:Array Gs)
 /-- any other thing,by what is true of its one object (a def of one's own: SetO a S n:=HO.ext fun h=>..) -/
 | ext (φ:Heap->Prop)
noncomputable abbrev Hp:=Addr->Option HO
noncomputable def upd (H:Hp) (a:Addr) (o:HO):Hp:=fun b=>if b=a then some o else H b
theorem ay {H:Hp} {a:Addr} {o:HO}:upd H a o a=some o:=by unfold upd;rw [if_pos rfl]
theorem aB {H:Hp} {a b:Addr} {o:HO} (h:b≠a):upd H a o b=H b:=by unfold upd;rw [if_neg h]
theorem bp {H:Hp} {a b:Addr} {o:HO} (h:H a=some o) (h':H b=none):a≠b:=by
 intro e;subst e;rw [h] at h';cases h'
section
variable (P:G2) (w:HJ)
noncomputable def bA (H:Hp) (h:Heap) (a:Addr):HO->Prop
 | .lst xs=>xs.length<=GZ/\∃(its:List Gs) (n:Nat),Vals xs its/\h.get? a=some { cls:=.type "list",data:=.seq its.toArray n }
 | .tup xs=>xs.length<=GZ/\∃its:List Gs,Vals xs its/\NU h a its.toArray
 | .dK kvs=>kvs.length<=GZ/\(a==Jo)=false/\∃vs,KV kvs vs/\h.DictOf (jV P w) a vs
 | .dT kvs=>kvs.length<=GZ/\(a==Jo)=false/\∃xs:List (List Key×Addr×Gs),
   Mt (fun (p:List Key×V) (q:List Key×Addr×Gs)=>p.1=q.1/\H q.2.1=some (.tup (p.1.map kV))/\RelV p.2 q.2.2) kvs xs /\
   ∃o es ep,h.get? a=some o/\o.ExactDict/\o.data=.dict es ep/\es.toList=xs.map (entryOfKey (KA (jV P w)))/\(xs.map (·.1)).Nodup
 | .set S n=>h.SetOf (MN P w) a S n
 | .ins C dx fs=>H dx=some (.own a)/\fs.length<=1000/\dx≠a/\h.get? a=some (LH C dx) /\
   ∃mA,h.Ns1 dx mA/\(∀f,RelO (fs.lookup f) (mA f))/\PySem.Within mA (fs.map (·.1))
 | .own _=>∃o,h.get? a=some o
 | .xd fs=>∃mA,h.Ns1 a mA/\∀f,RelO (fs.lookup f) (mA f)
 | .rng lo hi=>∃t u v,h.get? a=some { cls:=.type "range",data:=.fields #[.int lo t,.int hi u,.int 1 v] }
 | .frz o u=>h.get? a=some o/\bA H h a u
 | .tbl ps=>∃qs,h.get? a=some { cls:=.none,data:=.fields qs }/\TriplesOk qs.toList/\∀pos cv,codeAmong pos qs.toList=some cv->∃c q t,cv=.ref c/\H c=some (.own a)/\ps[0]?=some (.str q t)/\h.CodeRec cv q
 | .met f x=>h.get? a=some (K9 (.ref f) (.ref x))
 | .ext φ=>φ h/\(∃o,h.get? a=some o)/\∀h1 h2:Heap,φ h1->(∀o,h1.get? a=some o->h2.get? a=some o)->φ h2
noncomputable def HOk (H:Hp) (h:Heap):Prop:=∀a o,H a=some o->bA P w H h a o
end
section
variable {P:G2} {w:HJ} {H H':Hp} {h h':Heap} {a:Addr} {o:HO}
theorem bA.lt (x:bA P w H h a o):a < h.objs.size:=by
 cases o with
 | lst xs=>obtain ⟨_,_,_,_,e⟩:=x;exact GI e
 | tup xs=>obtain ⟨_,_,_,p⟩:=x;exact p.lt
 | dK kvs=>obtain ⟨_,_,_,_,o,_,_,e,_⟩:=x;exact GI e
 | dT kvs=>obtain ⟨_,_,_,_,o,_,_,e,_⟩:=x;exact GI e
 | set S n=>obtain ⟨o,_,_,_,e,_⟩:=x;exact GI e
 | ins C dx fs=>obtain ⟨_,_,_,e,_⟩:=x;exact GI e
 | own y=>obtain ⟨_,e⟩:=x;exact GI e
 | xd fs=>obtain ⟨_,⟨_,_,_,e,_⟩,_⟩:=x;exact GI e
 | rng lo hi=>obtain ⟨_,_,_,e⟩:=x;exact GI e
 | frz ob u=>obtain ⟨e,_⟩:=x;exact GI e
 | tbl ps=>obtain ⟨_,e,_⟩:=x;exact GI e
 | met f y=>exact GI (show h.get? a=some _ from x)
 | ext φ=>obtain ⟨_,⟨_,e⟩,_⟩:=x;exact GI e
theorem Paired.mapP {α β:Type} {F G:α->β->Prop}:∀{l₁:List α} {l₂:List β},Mt F l₁ l₂->(∀a b,F a b->G a b)->Mt G l₁ l₂
 | _,_,.nil,_=>.nil
 | _,_,.cons r t,f=>.cons (f _ _ r) (Paired.mapP t f)
theorem bA.stay (x:bA P w H h a o) (k:∀b u,(b=a\/H b=some (.own a))->h.get? b=some u->h'.get? b=some u)
  (ho:∀b,H b=some (.own a)->H' b=some (.own a)) (ht:∀b xs,H b=some (.tup xs)->H' b=some (.tup xs)):bA P w H' h' a o:=by
 induction o with
 | lst xs=>obtain ⟨z,its,n,r,e⟩:=x;exact ⟨z,its,n,r,k _ _ (.inl rfl) e⟩
 | tup xs=>obtain ⟨z,its,r,ob,e,c⟩:=x;exact ⟨z,its,r,ob,k _ _ (.inl rfl) e,c⟩
 | dK kvs=>obtain ⟨z,y,vs,r,ob,es,ep,e,c⟩:=x;exact ⟨z,y,vs,r,ob,es,ep,k _ _ (.inl rfl) e,c⟩
 | dT kvs=>
  obtain ⟨z,y,xs,r,ob,es,ep,e,c⟩:=x
  exact ⟨z,y,xs,Paired.mapP r fun p q z=>⟨z.1,ht _ _ z.2.1,z.2.2⟩,ob,es,ep,k _ _ (.inl rfl) e,c⟩
 | set S n=>obtain ⟨ob,es,ep,t,e,c⟩:=x;exact ⟨ob,es,ep,t,k _ _ (.inl rfl) e,c⟩
 | ins C dx fs=>
  obtain ⟨d,z,ne,e,mA,⟨od,es,ep,e2,c⟩,r⟩:=x
  exact ⟨ho _ d,z,ne,k _ _ (.inl rfl) e,mA,⟨od,es,ep,k _ _ (.inr d) e2,c⟩,r⟩
 | own y=>obtain ⟨ob,e⟩:=x;exact ⟨ob,k _ _ (.inl rfl) e⟩
 | xd fs=>obtain ⟨mA,⟨od,es,ep,e,c⟩,r⟩:=x;exact ⟨mA,⟨od,es,ep,k _ _ (.inl rfl) e,c⟩,r⟩
 | rng lo hi=>obtain ⟨t,u,v,e⟩:=x;exact ⟨t,u,v,k _ _ (.inl rfl) e⟩
 | frz ob u ih=>obtain ⟨e,q⟩:=x;exact ⟨k _ _ (.inl rfl) e,ih q⟩
 | tbl ps=>
  obtain ⟨qs,e,t,f⟩:=x
  refine ⟨qs,k _ _ (.inl rfl) e,t,fun pos cv hc=>?_⟩
  obtain ⟨c,q,tk,rfl,ho',hq,c2,oc,vs,tq,ec,e1,r⟩:=f pos cv hc
  cases ec
  exact ⟨c,q,tk,rfl,ho _ ho',hq,c,oc,vs,tq,rfl,k _ _ (.inr ho') e1,r⟩
 | met f y=>
  have e:h.get? a=some (K9 (.ref f) (.ref y)):=x
  show h'.get? a=some (K9 (.ref f) (.ref y))
  exact k a _ (.inl rfl) e
 | ext φ=>obtain ⟨p,⟨o,e⟩,st⟩:=x;exact ⟨st _ _ p fun o q=>k _ _ (.inl rfl) q,⟨o,k _ _ (.inl rfl) e⟩,st⟩
theorem HOk.lt (x:HOk P w H h) (e:H a=some o):a < h.objs.size:=(x a o e).lt
theorem HOk.fresh (x:HOk P w H h) (e:h.objs.size<=a):H a=none:=by
 cases q:H a with
 | none=>rfl
 | some u=>exact absurd (GR (x.lt q) e) (Ic _)
theorem HOk.kept (x:HOk P w H h) (k:∀b u,h.get? b=some u->h'.get? b=some u):HOk P w H h':=fun a o e=>
 (x a o e).stay (fun b u _ q=>k b u q) (fun _ q=>q) fun _ _ q=>q
theorem HOk.laid (x:HOk P w H h) (k:∀b u,h.get? b=some u->h'.get? b=some u) (hp:h.objs.size<=a) (new:bA P w (upd H a o) h' a o):HOk P w (upd H a o) h':=fun b u e=>by
 have hn:=x.fresh hp
 by_cases hb:b=a
 ·subst hb;rw [ay] at e;cases e;exact new
 ·rw [aB hb] at e
  exact (x b u e).stay (fun c v _ q=>k c v q) (fun c q=>by rw [aB (bp q hn)];exact q) fun c xs q=>by rw [aB (bp q hn)];exact q
end
noncomputable def Rd (H:Hp) (a:Addr) (u:HO):Prop:=H a=some u\/∃o,H a=some (.frz o u)
theorem Rd.ok {P:G2} {w:HJ} {H:Hp} {h:Heap} {a:Addr} {u:HO} (r:Rd H a u) (x:HOk P w H h):bA P w H h a u:=by
 rcases r with r | ⟨o,r⟩
 ·exact x a u r
 ·obtain ⟨_,q⟩:=x a _ r
  exact q
noncomputable def Mut:Option HO->Prop
 | some (.lst _)=>True
 | some (.dK _)=>True
 | some (.dT _)=>True
 | some (.set _ _)=>True
 | some (.ins _ _ _)=>True
 | some (.ext _)=>True
 | _=>False
section
variable {P:G2} {w:HJ} {H:Hp} {h h':Heap} {x e:Addr} {o':HO}
theorem HOk.write (ok:HOk P w H h) (mu:Mut (H x)) (he:e=x\/H e=some (.own x)) (k:∀b u,b≠e->h.get? b=some u->h'.get? b=some u) (heo:∃u,h'.get? e=some u)
  (new:bA P w (upd H x o') h' x o'):HOk P w (upd H x o') h':=fun b u q=>by
 have nown:∀c y,H c=some (.own y)->c≠x:=fun c y r z=>by subst z;rw [r] at mu;exact mu
 have ntup:∀c xs,H c=some (.tup xs)->c≠x:=fun c xs r z=>by subst z;rw [r] at mu;exact mu
 by_cases hb:b=x
 ·subst hb;rw [ay] at q;cases q;exact new
 ·rw [aB hb] at q
  by_cases hbe:b=e
  ·have q':H b=some (.own x):=by
    rcases he with z | z
    ·exact absurd (hbe.trans z) hb
    ·rw [hbe];exact z
   rw [q] at q';cases q'
   obtain ⟨v,hv⟩:=heo
   exact ⟨v,by rw [hbe];exact hv⟩
  ·refine (ok b u q).stay (fun c v hc r=>k c v ?_ r) (fun c r=>by rw [aB (nown c b r)];exact r) fun c xs r=>by rw [aB (ntup c xs r)];exact r
   rcases hc with rfl | hc
   ·exact hbe
   ·rintro rfl
    rcases he with z | z
    ·exact nown c b hc z
    ·rw [hc] at z;cases z;exact hb rfl
end
structure Un (fs ex:List Addr) (H H':Hp) (h h':Heap):Prop where
 keep:∀b o,h.get? b=some o->H b=none->b∉fs->b∉ex->h'.get? b=some o
 slot:∀b o,h.get? b=some o->H b=none->b∈fs->b∉ex->∃sl,h'.get? b=some { o with slots:=sl }
 free:∀b o,h.get? b=some o->H b=none->b∉ex->H' b=none
 there:∀b o,h.get? b=some o->b∉ex->∃o',h'.get? b=some o'
 tups:∀b xs,H b=some (.tup xs)->H' b=some (.tup xs)
 frzs:∀b o u,H b=some (.frz o u)->H' b=some (.frz o u)
 tbls:∀b ps,H b=some (.tbl ps)->∃more,H' b=some (.tbl (ps++more))
section
variable {fs fs' ex ex':List Addr} {H H1 H2:Hp} {h h1 h2 h':Heap} {a x e:Addr} {o:HO}
theorem Un.any (u:Un fs ex H H1 h h1) {b:Addr} {ob:Obj} (q:h.get? b=some ob) (n:H b=none) (hx:b∉ex):∃sl,h1.get? b=some { ob with slots:=sl }:=by
 by_cases hb:b∈fs
 ·exact u.slot b ob q n hb hx
 ·exact ⟨ob.slots,u.keep b ob q n hb hx⟩
theorem Un.kept (k:∀b u,h.get? b=some u->h'.get? b=some u):Un fs ex H H h h':=
 ⟨fun b ob q _ _ _=>k b ob q,fun b ob q _ _ _=>⟨ob.slots,k b ob q⟩,fun _ _ _ n _=>n,fun b ob q _=>⟨ob,k b ob q⟩,fun _ _ q=>q,fun _ _ _ q=>q,fun _ ps q=>⟨#[],by rw [q];simp⟩⟩
theorem Un.refl:Un fs ex H H h h:=Un.kept fun _ _ q=>q
theorem Un.laid (k:∀b u,h.get? b=some u->h'.get? b=some u) (hp:h.objs.size<=a) (hn:H a=none):Un fs ex H (upd H a o) h h' where
 keep:=fun b u q _ _ _=>k b u q
 slot:=fun b u q _ _ _=>⟨u.slots,k b u q⟩
 free:=fun b u q n _=>by rw [aB (Hn (GR (GI q) hp))];exact n
 there:=fun b u q _=>⟨u,k b u q⟩
 tups:=fun b xs q=>by rw [aB (bp q hn)];exact q
 frzs:=fun b u xs q=>by rw [aB (bp q hn)];exact q
 tbls:=fun b ps q=>⟨#[],by rw [aB (bp q hn),q];simp⟩
theorem Un.write (mu:Mut (H x)) (he:e=x\/H e=some (.own x)) (k:∀b u,b≠e->h.get? b=some u->h'.get? b=some u) (heo:∃u,h'.get? e=some u):Un fs ex H (upd H x o) h h':=by
 have hx:∀b,H b=none->b≠x:=fun b n z=>by subst z;rw [n] at mu;exact mu
 have hb:∀b,H b=none->b≠e:=fun b n z=>by
  subst z
  rcases he with r | r
  ·exact hx b n r
  ·rw [n] at r;cases r
 have hm:∀b u,H b=some u->¬ Mut (some u)->b≠x:=fun b u q nm z=>by subst z;rw [q] at mu;exact nm mu
 refine ⟨fun b u q n _ _=>k b u (hb b n) q,fun b u q n _ _=>⟨u.slots,k b u (hb b n) q⟩,fun b u q n _=>by rw [aB (hx b n)];exact n,fun b u q _=>?_,
  fun b xs q=>by rw [aB (hm b _ q fun z=>z)];exact q,fun b u xs q=>by rw [aB (hm b _ q fun z=>z)];exact q,fun b ps q=>⟨#[],by rw [aB (hm b _ q fun z=>z),q];simp⟩⟩
 by_cases hbe:b=e
 ·subst hbe;exact heo
 ·exact ⟨u,k b u hbe q⟩
end
noncomputable def trk (h:Heap) (H:Hp):List Addr:=(G1 h.objs.size).filter fun a=>(H a).isSome
noncomputable def jW (h:Heap) (H:Hp):Heap:=PySem.W.hideAll h (trk h H)
theorem pX (h:Heap) (H:Hp):(jW h H).objs.size=h.objs.size:=PySem.W.hideAll_size _ _
theorem qW {h:Heap} {H:Hp} {b:Addr} {o:Obj} (e:h.get? b=some o) (n:H b=none):(jW h H).get? b=some o:=
 PySem.W.hideAll_get _ e fun hm=>by
  have q:(H b).isSome=true:=(List.mem_filter.mp hm).2
  rw [n] at q;simp at q
theorem vO {h:Heap} {H:Hp} {b:Addr} {o:Obj} (e:(jW h H).get? b=some o):h.get? b=some o/\H b=none:=by
 have e':h.get? b=some o:=PySem.W.of_hideAll (trk h H) e
 refine ⟨e',?_⟩
 cases q:H b with
 | none=>rfl
 | some x=>
  have hm:b∈trk h H:=List.mem_filter.mpr ⟨List.mem_range.mpr (GI e'),by simp [q]⟩
  have z:(jW h H).get? b=none:=PySem.W.hideAll_none (trk h H) hm
  rw [z] at e;cases e
end L2
namespace L2
open PySem PySem.Spec PyProof.Rows
structure Mod (K:Gn) (mg:Str->Option Gs) (base:Heap):Prop where
 kin:K.In base
 glob:base.Ns GK mg
 blt:∃mb,base.Ns NF mb/\∀x:Str,x≠"__name__"->mb x=HP x
 nolimit:base.NoLimit
structure Cx where
 prog:G2
 w:HJ
 K:Gn
 mg:Str->Option Gs
 base:Heap
 A:HQ
 N:List Str
 s₀:Gv
 H₀:Hp
 env:Env
 outer:List Env
 stack:List Env
 ex:List Addr
 fn:Str->Bool
 calm:Bool
 pn:List (Addr×Obj)
 xe:Gs->Gv->Prop
noncomputable def frs (l:List Env):List Addr:=l.filterMap (·.frame)
noncomputable abbrev Cx.fs (X:Cx):List Addr:=frs X.outer
noncomputable def Vis (sc:Jz) (x:Str):Prop:=sc.names.lookup x=some .local\/sc.names.lookup x=some .cell\/sc.names.lookup x=some .free
noncomputable def Loc (sc:Jz) (x:Str):Prop:=sc.names.lookup x=some .local\/sc.names.lookup x=some .cell
noncomputable def Look (env:Env) (h:Heap) (m:Str->Option Gs) (x:Str) (u:Gs):Prop:=
 (env.kindOf x=some .local/\m x=some u)\/((env.kindOf x=some .cell\/env.kindOf x=some .free)/\∃c,env.cells.lookup x=some c/\h.IsCell c (some u))
structure Cx.Ok (X:Cx):Prop where
 mod:Mod X.K X.mg X.base
 kind:X.env.scope.kind=.function
 glob:X.env.globals=GK
 blt:X.env.builtins=NF
 above:X.s₀.heap.objs.size<=X.env.locals
 inj:∀x y c,X.env.cells.lookup x=some c->X.env.cells.lookup y=some c->x=y
 has:∀x,(X.env.kindOf x=some .cell\/X.env.kindOf x=some .free)->∃c,X.env.cells.lookup x=some c
 cab:∀x c,X.fn x=true->X.env.cells.lookup x=some c->X.s₀.heap.objs.size<=c
 hd:X.calm=true->X.A.handled=none
 frames:X.A.frames=some X.stack
 stk:X.stack=X.outer\/(X.stack=X.env::X.outer/\X.env.frame=some X.env.locals)
 exf:∀b∈X.ex,b≠X.env.locals/\∀x c,X.env.cells.lookup x=some c->c≠b
 bs:∀b o,X.base.get? b=some o->X.s₀.heap.get? b=some o/\X.H₀ b=none
 bsz:X.base.objs.size<=X.s₀.heap.objs.size
 noex:∀b o,X.base.get? b=some o->b∉X.ex
 exfs:∀b∈X.ex,b∉X.fs
 funs:X.s₀.heap.FunFrames X.base X.outer
 frf:∀b∈X.fs,X.H₀ b=none
structure Inv (X:Cx) (pins:List (Addr×Obj)) (σ:List (Option V)) (H:Hp) (s:Gv):Prop where
 ok:X.Ok
 os:s.os=X.s₀.os
 bare:KZ s.gens
 base:Un X.fs X.ex X.H₀ H X.s₀.heap s.heap
 loc:∃m,s.heap.Ns X.env.locals m/\∀(i:Nat) (x:Str) (v:V),X.N[i]?=some x->σ[i]?=some (some v)->Vis X.env.scope x->∃u,RelV v u/\Look X.env s.heap m x u
 cell:∀x c,X.env.cells.lookup x=some c->∃v,s.heap.IsCell c v
 free:H X.env.locals=none
 freeC:∀x c,X.env.cells.lookup x=some c->H c=none
 pin:∀p∈X.pn++pins,s.heap.get? p.1=some p.2/\H p.1=none/\p.1≠X.env.locals/\p.1∉X.fs/\∀v,p.2.data≠.cell v
 hok:HOk X.prog X.w H s.heap
 len:σ.length=X.N.length
section
variable {X:Cx} {pins:List (Addr×Obj)} {σ:List (Option V)} {H H':Hp} {s:Gv} {h':Heap}
theorem Cx.Ok.nofr (ok:X.Ok) {b:Addr} {o:Obj} (e:X.base.get? b=some o):b∉X.fs:=fun hb=>by
 have:=(ok.funs.mem hb).1
 rw [e] at this;cases this
theorem Inv.bs (I:Inv X pins σ H s):∀b o,X.base.get? b=some o->s.heap.get? b=some o/\H b=none:=fun b o e=>
 ⟨I.base.keep b o (I.ok.bs b o e).1 (I.ok.bs b o e).2 (I.ok.nofr e) (I.ok.noex b o e),I.base.free b o (I.ok.bs b o e).1 (I.ok.bs b o e).2 (I.ok.noex b o e)⟩
theorem Inv.bk (I:Inv X pins σ H s):∀b o,X.base.get? b=some o->s.heap.get? b=some o:=fun b o e=>(I.bs b o e).1
theorem Inv.mod (I:Inv X pins σ H s):Mod X.K X.mg X.base:=I.ok.mod
theorem Inv.kIn (I:Inv X pins σ H s):X.K.In s.heap:=I.ok.mod.kin.keeps I.bk
theorem Inv.fr (I:Inv X pins σ H s):∃m,Fr X.base X.env.locals s.heap m:=
 let ⟨m,hn,_⟩:=I.loc
 ⟨m,hn,I.bk,HY I.ok.bsz I.ok.above⟩
theorem Inv.lt (I:Inv X pins σ H s):X.env.locals < s.heap.objs.size:=let ⟨_,hn,_⟩:=I.loc;hn.lt
theorem Inv.sz (I:Inv X pins σ H s):X.s₀.heap.objs.size<=s.heap.objs.size:=HY I.ok.above (LI I.lt)
theorem Inv.nofs (I:Inv X pins σ H s) {a:Addr} (h:s.heap.objs.size<=a):a∉X.fs:=fun hb=>by
 obtain ⟨_,o,ho,_⟩:=I.ok.funs.mem hb
 exact absurd (GR (GI ho) (HY I.sz h)) (Ic _)
theorem Inv.cne (I:Inv X pins σ H s):∀x c,X.env.cells.lookup x=some c->c≠X.env.locals:=fun x c e z=>by
 obtain ⟨v,o,ho,hd⟩:=I.cell x c e
 obtain ⟨m,⟨o',es,ep,ho',hd',_⟩,_⟩:=I.loc
 rw [z,ho'] at ho;cases ho;rw [hd'] at hd;cases hd
theorem Inv.funs (I:Inv X pins σ H s):s.heap.FunFrames X.base X.outer:=by
 have all:∀(l:List Env),(∀b∈frs l,b∈X.fs)->X.s₀.heap.FunFrames X.base l->s.heap.FunFrames X.base l:=by
  intro l
  induction l with
  | nil=>intro _ _;trivial
  | cons env r ih=>
   intro hs hl
   obtain ⟨hk,⟨L,o,hf,hn,ho,hd⟩,hr⟩:=hl
   have hL:L∈X.fs:=hs L (by unfold frs;rw [KB,hf];exact GG)
   obtain ⟨sl,e⟩:=I.base.slot L o ho (I.ok.frf L hL) hL fun z=>I.ok.exfs L z hL
   exact ⟨hk,⟨L,_,hf,hn,e,hd⟩,ih (fun b hb=>hs b (by unfold frs;rw [KB,hf];exact GU _ hb)) hr⟩
 exact all X.outer (fun _ hb=>hb) I.ok.funs
theorem Inv.stack (I:Inv X pins σ H s):s.heap.FunFrames X.base X.stack:=by
 rcases I.ok.stk with e | ⟨e,hf⟩
 ·rw [e];exact I.funs
 ·rw [e]
  obtain ⟨m,hn,_⟩:=I.loc
  refine .cons (by rw [I.ok.kind];decide) hf hn ?_ I.funs
  exact Heap.get?_none_of_le (HY I.ok.bsz I.ok.above)
theorem Inv.stkSub (I:Inv X pins σ H s):∀b∈frs X.stack,b∈X.env.locals::X.fs:=fun b hb=>by
 rcases I.ok.stk with e | ⟨e,hf⟩
 ·rw [e] at hb;exact GU _ hb
 ·rw [e] at hb
  unfold frs at hb
  rw [KB,hf] at hb
  exact hb
theorem Inv.stkFree (I:Inv X pins σ H s):∀b∈frs X.stack,H b=none:=fun b hb=>by
 rcases List.mem_cons.mp (I.stkSub b hb) with e | hb
 ·rw [e];exact I.free
 ·obtain ⟨_,o,ho,_⟩:=I.ok.funs.mem hb
  exact I.base.free b o ho (I.ok.frf b hb) fun z=>I.ok.exfs b z hb
theorem Inv.step {g':Array GenState} {t':Nat} {d':Drawn} {ch:List Addr} (I:Inv X pins σ H s)
  (hch:∀b∈ch,(b∈X.ex\/X.s₀.heap.objs.size<=b)/\b≠X.env.locals/\(∀x c,X.env.cells.lookup x=some c->c≠b)/\∀p∈X.pn++pins,p.1≠b)
  (keep:∀b o,b≠X.env.locals->b∉X.fs->b∉ch->s.heap.get? b=some o->H b=none->h'.get? b=some o)
  (slot:∀b o,b≠X.env.locals->b∈X.fs->b∉ch->s.heap.get? b=some o->H b=none->∃sl,h'.get? b=some { o with slots:=sl }) (free:∀b o,b∉ch->s.heap.get? b=some o->H b=none->H' b=none)
  (there:∀b o,b∉ch->s.heap.get? b=some o->∃o',h'.get? b=some o')
  (tups:∀b xs,H b=some (.tup xs)->H' b=some (.tup xs)) (frzs:∀b o u,H b=some (.frz o u)->H' b=some (.frz o u)) (tbls:∀b ps,H b=some (.tbl ps)->∃more,H' b=some (.tbl (ps++more)))
  (ns:∀m,s.heap.Ns X.env.locals m->h'.Ns X.env.locals m) (hok:HOk X.prog X.w H' h') (hg:KZ g') :
  Inv X pins σ H' { s with heap:=h',gens:=g',drawn:=d',toks:=t' }:=by
 have neL:∀b o,X.s₀.heap.get? b=some o->b≠X.env.locals:=fun b o e=>Hn (GR (GI e) I.ok.above)
 have neC:∀b o,X.s₀.heap.get? b=some o->b∉X.ex->b∉ch:=fun b o e hx hb=>by
  rcases (hch b hb).1 with z | z
  ·exact hx z
  ·exact absurd (GR (GI e) z) (Ic _)
 have cellK:∀x c,X.env.cells.lookup x=some c->∀v,s.heap.IsCell c v->h'.IsCell c v:=fun x c e v ⟨o,ho,hd⟩=>by
  have nch:c∉ch:=fun z=>(hch c z).2.2.1 x c e rfl
  by_cases hc:c∈X.fs
  ·obtain ⟨sl,q⟩:=slot c o (I.cne x c e) hc nch ho (I.freeC x c e)
   exact ⟨_,q,hd⟩
  ·exact ⟨o,keep c o (I.cne x c e) hc nch ho (I.freeC x c e),hd⟩
 refine ⟨I.ok,I.os,hg,⟨fun b o e n hb hx=>?_,fun b o e n hb hx=>?_,fun b o e n hx=>?_,fun b o e hx=>?_,fun b xs e=>tups b xs (I.base.tups b xs e),fun b o xs e=>frzs b o xs (I.base.frzs b o xs e),fun b ps e=>?_⟩,?_,fun x c e=>?_,?_,fun x c e=>?_,fun p hp=>?_,hok,I.len⟩
 ·exact keep b o (neL b o e) hb (neC b o e hx) (I.base.keep b o e n hb hx) (I.base.free b o e n hx)
 ·obtain ⟨sl,e1⟩:=I.base.slot b o e n hb hx
  obtain ⟨sl',e2⟩:=slot b _ (neL b o e) hb (neC b o e hx) e1 (I.base.free b o e n hx)
  exact ⟨sl',e2⟩
 ·obtain ⟨o',e1⟩:=I.base.there b o e hx
  exact free b o' (neC b o e hx) e1 (I.base.free b o e n hx)
 ·obtain ⟨o',e1⟩:=I.base.there b o e hx
  exact there b o' (neC b o e hx) e1
 ·obtain ⟨m1,e1⟩:=I.base.tbls b ps e
  obtain ⟨m2,e2⟩:=tbls b _ e1
  exact ⟨m1++m2,by rw [e2,Array.append_assoc]⟩
 ·obtain ⟨m,hn,hl⟩:=I.loc
  refine ⟨m,ns m hn,fun i x v e1 e2 e3=>?_⟩
  obtain ⟨u,r,l⟩:=hl i x v e1 e2 e3
  refine ⟨u,r,?_⟩
  rcases l with l | ⟨k,c,e,z⟩
  ·exact .inl l
  ·exact .inr ⟨k,c,e,cellK x c e _ z⟩
 ·obtain ⟨v,z⟩:=I.cell x c e
  exact ⟨v,cellK x c e v z⟩
 ·obtain ⟨m,⟨o,_,_,ho,_⟩,_⟩:=I.loc
  exact free _ o (fun z=>(hch _ z).2.1 rfl) ho I.free
 ·obtain ⟨v,o,ho,hd⟩:=I.cell x c e
  exact free c o (fun z=>(hch c z).2.2.1 x c e rfl) ho (I.freeC x c e)
 ·obtain ⟨e,n,ne,nf,d⟩:=I.pin p hp
  have nch:p.1∉ch:=fun z=>(hch p.1 z).2.2.2 p hp rfl
  exact ⟨keep p.1 p.2 ne nf nch e n,free p.1 p.2 nch e n,ne,nf,d⟩
theorem Inv.un {t':Nat} (I:Inv X pins σ H s) (u:Un X.fs [] H H' s.heap h') (hok:HOk X.prog X.w H' h'):Inv X pins σ H' { s with heap:=h',toks:=t' }:=by
 obtain ⟨m,⟨o,es,ep,ho,r⟩,_⟩:=id I.loc
 obtain ⟨sl,hL⟩:=u.any ho I.free (by simp)
 exact I.step (g':=s.gens) (d':=s.drawn) (ch:=[]) (fun _ z=>nomatch z) (fun b o _ hb _ e n=>u.keep b o e n hb (by simp)) (fun b o _ hb _ e n=>u.slot b o e n hb (by simp)) (fun b o _ e n=>u.free b o e n (by simp)) (fun b o _ e=>u.there b o e (by simp)) u.tups u.frzs u.tbls (fun m' hm=>by
  obtain ⟨o',es',ep',ho',r'⟩:=hm
  rw [ho] at ho';cases ho'
  exact ⟨_,es',ep',hL,r'⟩) hok I.bare
theorem Inv.call {g':Array GenState} {t':Nat} {d':Drawn} {ch:List Addr} (I:Inv X pins σ H s) (u:Un (frs X.stack) ch H H' s.heap h') (hok:HOk X.prog X.w H' h') (hg:KZ g')
  (hch:∀b∈ch,(b∈X.ex\/X.s₀.heap.objs.size<=b)/\b≠X.env.locals/\(∀x c,X.env.cells.lookup x=some c->c≠b)/\∀p∈X.pn++pins,p.1≠b) :
  Inv X pins σ H' { s with heap:=h',gens:=g',drawn:=d',toks:=t' }:=by
 obtain ⟨m,⟨o,es,ep,ho,r⟩,_⟩:=id I.loc
 obtain ⟨sl,hL⟩:=u.any ho I.free fun z=>(hch _ z).2.1 rfl
 exact I.step (ch:=ch) hch (fun b o hL hb hc e n=>u.keep b o e n (fun z=>(List.mem_cons.mp (I.stkSub b z)).elim hL hb) hc) (fun b o _ _ hc e n=>u.any e n hc) (fun b o hc e n=>u.free b o e n hc) (fun b o hc e=>u.there b o e hc) u.tups u.frzs u.tbls (fun m' hm=>by
  obtain ⟨o',es',ep',ho',r'⟩:=hm
  rw [ho] at ho';cases ho'
  exact ⟨_,es',ep',hL,r'⟩) hok hg
theorem Inv.turned {t':Nat} {it:Addr} (I:Inv X pins σ H s) (k:∀b o,b≠it->s.heap.get? b=some o->h'.get? b=some o) (hn:H it=none) (hL:it≠X.env.locals)
  (h1:it∈X.ex\/X.s₀.heap.objs.size<=it) (h2:∀x c,X.env.cells.lookup x=some c->c≠it) (h3:∀p∈X.pn++pins,p.1≠it):Inv X pins σ H { s with heap:=h',toks:=t' }:=by
 have nit:∀b u,H b=some u->b≠it:=fun b u e z=>by rw [z,hn] at e;cases e
 refine I.step (g':=s.gens) (d':=s.drawn) (ch:=[it]) (fun b hb=>?_) (fun b o _ _ hc e _=>k b o (fun z=>hc (by simp [z])) e) (fun b o _ _ hc e _=>⟨o.slots,k b o (fun z=>hc (by simp [z])) e⟩) (fun _ _ _ _ n=>n)
  (fun b o hc e=>⟨o,k b o (fun z=>hc (by simp [z])) e⟩) (fun _ _ e=>e) (fun _ _ _ e=>e) (fun b ps e=>⟨#[],by rw [e];simp⟩) (fun m hm=>?_) (fun b u e=>?_) I.bare
 ·have e:b=it:=by simpa using hb
  subst e
  exact ⟨h1,hL,h2,h3⟩
 ·obtain ⟨o,es,ep,ho,r⟩:=hm
  exact ⟨o,es,ep,k _ o (J1 hL) ho,r⟩
 ·refine (I.hok b u e).stay (fun c v hc q=>k c v ?_ q) (fun _ q=>q) fun _ _ q=>q
  rcases hc with z | z
  ·rw [z];exact nit b u e
  ·exact nit c _ z
theorem Inv.tok (I:Inv X pins σ H s) (t:Nat):Inv X pins σ H { s with toks:=t }:=I.un (h':=s.heap) (t':=t) Un.refl I.hok
theorem Inv.kept {t':Nat} (I:Inv X pins σ H s) (k:∀b u,s.heap.get? b=some u->h'.get? b=some u):Inv X pins σ H { s with heap:=h',toks:=t' }:=I.un (Un.kept k) (I.hok.kept k)
theorem Inv.laid {a:Addr} {o:HO} {t':Nat} (I:Inv X pins σ H s) (k:∀b u,s.heap.get? b=some u->h'.get? b=some u) (hp:s.heap.objs.size<=a) (new:bA X.prog X.w (upd H a o) h' a o) :
  Inv X pins σ (upd H a o) { s with heap:=h',toks:=t' }:=I.un (Un.laid k hp (I.hok.fresh hp)) (I.hok.laid k hp new)
theorem Inv.write {x e:Addr} {o:HO} {t':Nat} (I:Inv X pins σ H s) (mu:Mut (H x)) (he:e=x\/H e=some (.own x)) (k:∀b u,b≠e->s.heap.get? b=some u->h'.get? b=some u) (heo:∃u,h'.get? e=some u)
  (new:bA X.prog X.w (upd H x o) h' x o):Inv X pins σ (upd H x o) { s with heap:=h',toks:=t' }:=I.un (Un.write mu he k heo) (I.hok.write mu he k heo new)
theorem Inv.weak {σ':List (Option V)} (I:Inv X pins σ H s) (hl:σ'.length=σ.length) (w:∀(i:Nat) v,σ'[i]?=some (some v)->σ[i]?=some (some v)):Inv X pins σ' H s:=
 ⟨I.ok,I.os,I.bare,I.base,let ⟨m,hn,hl'⟩:=I.loc;⟨m,hn,fun i x v e1 e2 e3=>hl' i x v e1 (w i v e2) e3⟩,I.cell,I.free,I.freeC,I.pin,I.hok,hl.trans I.len⟩
theorem Inv.pins_of {pins':List (Addr×Obj)} (I:Inv X pins σ H s) (h:∀p∈pins',s.heap.get? p.1=some p.2/\H p.1=none/\p.1≠X.env.locals/\p.1∉X.fs/\∀v,p.2.data≠.cell v):Inv X pins' σ H s:=
 ⟨I.ok,I.os,I.bare,I.base,I.loc,I.cell,I.free,I.freeC,fun p hp=>(List.mem_append.mp hp).elim (fun z=>I.pin p (Hh _ z)) (h p),I.hok,I.len⟩
theorem iD {N:List Str} (hN:N.Nodup) {i j:Nat} {x:Str} (a:N[i]?=some x) (b:N[j]?=some x):i=j:=by
 obtain ⟨h1,e1⟩:=List.getElem?_eq_some_iff.mp a
 obtain ⟨h2,e2⟩:=List.getElem?_eq_some_iff.mp b
 exact (List.getElem_inj hN).mp (e1.trans e2.symm)
theorem gv {M:ND} {A:HQ} {E:Gs->Gv->Prop} {i:Nat} {x:Str} {v:V} {u:Gs} {Q:Unit->Gv->Prop} (I:Inv X pins σ H s) (hN:X.N.Nodup) (hi:X.N[i]?=some x) (hx:Loc X.env.scope x) (r:RelV v u)
  (h:∀s',Inv X pins (σ.set i (some v)) H s'->(∃a,Heap.SameBut a s.heap s'.heap/\(a=X.env.locals\/X.env.cells.lookup x=some a))->Q () s') (hf:X.fn x=true\/X.env.scope.names.lookup x=some .local:=by first | exact .inl rfl | exact .inr rfl | assumption):Hj M A (storeName X.env x u) Q E s:=by
 obtain ⟨m,hn,hl⟩:=id I.loc
 have hcls:(X.env.scope.kind==.class||(X.env.scope.kind==.module&&X.env.locals != X.env.globals))=false:=by rw [I.ok.kind];rfl
 have hiσ:i < σ.length:=by rw [I.len];exact (List.getElem?_eq_some_iff.mp hi).1
 have cne:=I.cne
 have tracked:∀{a:Addr} {h':Heap},(∃o,s.heap.get? a=some o/\H a=none)->Heap.SameBut a s.heap h'->HOk X.prog X.w H h':=fun {a h'} ha hs b ob e=>by
  obtain ⟨_,_,hfree⟩:=ha
  refine (I.hok b ob e).stay (fun c w' hc q=>(hs.2 c ?_).trans q) (fun _ q=>q) fun _ _ q=>q
  rintro rfl
  rcases hc with rfl | hc
  ·rw [hfree] at e;cases e
  ·rw [hfree] at hc;cases hc
 rcases hx with hk | hk
 ·refine wpAny_storeName_local hk hn (fun h' hn' hs=>?_) hcls
  obtain ⟨oL,_,_,hoL,_⟩:=id hn
  refine h _ ⟨I.ok,I.os,I.bare,⟨fun b o e n hb hx=>?_,fun b o e n hb hx=>?_,I.base.free,fun b o e hx=>?_,I.base.tups,I.base.frzs,I.base.tbls⟩,⟨_,hn',fun j y v' e1 e2 e3=>?_⟩,fun y c e=>?_,I.free,I.freeC,fun p hp=>?_,tracked ⟨oL,hoL,I.free⟩ hs,by simpa using I.len⟩ ⟨_,hs,.inl rfl⟩
  ·exact (hs.2 b (Hn (GR (GI e) I.ok.above))).trans (I.base.keep b o e n hb hx)
  ·obtain ⟨sl,e1⟩:=I.base.slot b o e n hb hx
   exact ⟨sl,(hs.2 b (Hn (GR (GI e) I.ok.above))).trans e1⟩
  ·obtain ⟨o',e1⟩:=I.base.there b o e hx
   exact ⟨o',(hs.2 b (Hn (GR (GI e) I.ok.above))).trans e1⟩
  ·by_cases hj:j=i
   ·subst hj
    rw [hi] at e1;cases e1
    rw [G0 hiσ] at e2
    cases e2
    exact ⟨u,r,.inl ⟨hk,by simp⟩⟩
   ·rw [G3 (J1 hj)] at e2
    obtain ⟨u',r',q⟩:=hl j y v' e1 e2 e3
    refine ⟨u',r',?_⟩
    rcases q with ⟨k,e⟩ | ⟨k,c,e,z⟩
    ·refine .inl ⟨k,?_⟩
     have:y≠x:=fun e=>hj (iD hN e1 (e▸hi))
     simp [this,e]
    ·exact .inr ⟨k,c,e,z.sameBut hs (cne y c e)⟩
  ·obtain ⟨w',z⟩:=I.cell y c e
   exact ⟨w',z.sameBut hs (cne y c e)⟩
  ·obtain ⟨e,n,ne,nf,d⟩:=I.pin p hp
   exact ⟨(hs.2 p.1 ne).trans e,n,ne,nf,d⟩
 ·have hfn:X.fn x=true:=by
   rcases hf with z | z
   ·exact z
   ·rw [z] at hk;cases hk
  obtain ⟨c,hc⟩:=I.ok.has x (.inl hk)
  obtain ⟨w',z⟩:=I.cell x c hc
  refine wpAny_storeName_cell I.ok.kind hk hc z (fun h' hc' hs=>?_)
  obtain ⟨oc,hoc,hocd⟩:=id z
  refine h { s with heap:=h' } ⟨I.ok,I.os,I.bare,⟨fun b o e n hb hx=>?_,fun b o e n hb hx=>?_,I.base.free,fun b o e hx=>?_,I.base.tups,I.base.frzs,I.base.tbls⟩,⟨m,hn.sameBut hs (J1 (cne x c hc)),fun j y v' e1 e2 e3=>?_⟩,fun y c' e=>?_,I.free,I.freeC,fun p hp=>?_,tracked ⟨oc,hoc,I.freeC x c hc⟩ hs,by simpa using I.len⟩ ⟨c,hs,.inr hc⟩
  ·exact (hs.2 b (Hn (GR (GI e) (I.ok.cab x c hfn hc)))).trans (I.base.keep b o e n hb hx)
  ·obtain ⟨sl,e1⟩:=I.base.slot b o e n hb hx
   exact ⟨sl,(hs.2 b (Hn (GR (GI e) (I.ok.cab x c hfn hc)))).trans e1⟩
  ·obtain ⟨o',e1⟩:=I.base.there b o e hx
   exact ⟨o',(hs.2 b (Hn (GR (GI e) (I.ok.cab x c hfn hc)))).trans e1⟩
  ·by_cases hj:j=i
   ·subst hj
    rw [hi] at e1;cases e1
    rw [G0 hiσ] at e2
    cases e2
    exact ⟨u,r,.inr ⟨.inl hk,c,hc,hc'⟩⟩
   ·rw [G3 (J1 hj)] at e2
    obtain ⟨u',r',q⟩:=hl j y v' e1 e2 e3
    refine ⟨u',r',?_⟩
    rcases q with q | ⟨k,c',e,z'⟩
    ·exact .inl q
    ·refine .inr ⟨k,c',e,z'.sameBut hs ?_⟩
     rintro rfl
     exact hj (iD hN e1 (I.ok.inj _ _ _ e hc▸hi))
  ·by_cases hcc:c'=c
   ·subst hcc;exact ⟨_,hc'⟩
   ·obtain ⟨w2,z2⟩:=I.cell y c' e
    exact ⟨w2,z2.sameBut hs hcc⟩
  ·obtain ⟨e,n,ne,nf,d⟩:=I.pin p hp
   refine ⟨(hs.2 p.1 ?_).trans e,n,ne,nf,d⟩
   intro q
   rw [q,hoc] at e
   have q':oc=p.2:=GP e
   exact d w' (by rw [<- q'];exact hocd)
theorem fQ {M:ND} {A:HQ} {E:Gs->Gv->Prop} {i:Nat} {x:Str} {v:V} {u:Gs} {Q:Unit->Gv->Prop} (I:Inv X pins σ H s) (hN:X.N.Nodup) (hi:X.N[i]?=some x) (hx:Loc X.env.scope x) (r:RelV v u)
  (h:∀s',Inv X pins (σ.set i (some v)) H s'->Q () s') (hf:X.fn x=true\/X.env.scope.names.lookup x=some .local:=by first | exact .inl rfl | exact .inr rfl | assumption):Hj M A (storeName X.env x u) Q E s:=
 gv I hN hi hx r (fun s' I' _=>h s' I') hf
theorem Inv.call' {s':Gv} {ch:List Addr} (I:Inv X pins σ H s) (ho:s'.os=s.os) (u:Un (frs X.stack) ch H H' s.heap s'.heap) (hok:HOk X.prog X.w H' s'.heap) (hg:KZ s'.gens)
  (hch:∀b∈ch,(b∈X.ex\/X.s₀.heap.objs.size<=b)/\b≠X.env.locals/\(∀x c,X.env.cells.lookup x=some c->c≠b)/\∀p∈X.pn++pins,p.1≠b):Inv X pins σ H' s':=by
 obtain ⟨h',g',d',t',o'⟩:=s'
 have e:o'=s.os:=ho
 subst e
 exact I.call (g':=g') (t':=t') (d':=d') u hok hg hch
end
noncomputable abbrev XK:=Gs->Option Addr->Hp->Prop
noncomputable abbrev St:=List (Option V)
noncomputable abbrev VK:=V->Hp->Prop
noncomputable abbrev TE:=St->Hp->VK->Prop
noncomputable abbrev TT:=St->Hp->(Bool->Hp->Prop)->Prop
noncomputable abbrev TA:=St->Hp->(List V->Hp->Prop)->Prop
structure Ends where
 nx:St->Hp->Prop
 rt:VK
 bk:St->Hp->Prop:=fun _ _=>False
 ct:St->Hp->Prop:=fun _ _=>False
noncomputable abbrev TS:=Ends->St->Hp->Prop
noncomputable def EP (X:Cx) (pins:List (Addr×Obj)) (σ:St) (Q:VK) (u:Gs) (s':Gv):Prop:=∃v H',Inv X pins σ H' s'/\RelV v u/\Q v H'
noncomputable def TP (X:Cx) (pins:List (Addr×Obj)) (σ:St) (Q:Bool->Hp->Prop) (b:Bool) (s':Gv):Prop:=∃H',Inv X pins σ H' s'/\Q b H'
noncomputable def AP (X:Cx) (pins:List (Addr×Obj)) (σ:St) (Q:List V->Hp->Prop) (us:List Gs) (s':Gv):Prop:=∃vs H',Inv X pins σ H' s'/\Vals vs us/\Q vs H'
noncomputable def SP (X:Cx) (pins:List (Addr×Obj)) (D:Ends) (f:Flow) (s':Gv):Prop:=
 match f with
 | .next=>∃ σ' H',Inv X pins σ' H' s'/\D.nx σ' H'
 | .brk=>∃ σ' H',Inv X pins σ' H' s'/\D.bk σ' H'
 | .cont=>∃ σ' H',Inv X pins σ' H' s'/\D.ct σ' H'
 | .ret u=>∃v σ' H',Inv X pins σ' H' s'/\RelV v u/\D.rt v H'
noncomputable def PE (X:Cx) (e:Expr) (t:TE):Prop:=
 ∀(pins:List (Addr×Obj)) (s:Gv) (σ:St) (H:Hp) (Q:VK),Inv X pins σ H s->t σ H Q->Hj (Ha X.prog X.w) X.A (eval e X.env) (EP X pins σ Q) X.xe s
noncomputable def PT (X:Cx) (e:Expr) (t:TT):Prop:=
 ∀(pins:List (Addr×Obj)) (s:Gv) (σ:St) (H:Hp) (Q:Bool->Hp->Prop),Inv X pins σ H s->t σ H Q->Hj (Ha X.prog X.w) X.A (Nd e X.env (eval e X.env)) (TP X pins σ Q) X.xe s
noncomputable def PW (X:Cx) (e:Expr) (t:TT):Prop:=
 ∀(whole:Sem Gs) (pins:List (Addr×Obj)) (s:Gv) (σ:St) (H:Hp) (Q:Bool->Hp->Prop),Inv X pins σ H s->t σ H Q->Hj (Ha X.prog X.w) X.A (Nd e X.env whole) (TP X pins σ Q) X.xe s
theorem PW.pt {X:Cx} {e:Expr} {t:TT} (h:PW X e t):PT X e t:=h _
noncomputable def PA (X:Cx) (es:List Expr) (t:TA):Prop:=
 ∀(pos:Pos) (pins:List (Addr×Obj)) (s:Gv) (σ:St) (H:Hp) (Q:List V->Hp->Prop),Inv X pins σ H s->t σ H Q->Hj (Ha X.prog X.w) X.A (spliced (JF pos (GM es X.env))) (AP X pins σ Q) X.xe s
noncomputable def PS (X:Cx) (st:Stmt) (t:TS):Prop:=
 ∀(pins:List (Addr×Obj)) (s:Gv) (σ:St) (H:Hp) (D:Ends),Inv X pins σ H s->t D σ H->Hj (Ha X.prog X.w) X.A (exec st X.env) (SP X pins D) X.xe s
noncomputable def PSs (X:Cx) (st:List Stmt) (t:TS):Prop:=
 ∀(pins:List (Addr×Obj)) (s:Gv) (σ:St) (H:Hp) (D:Ends),Inv X pins σ H s->t D σ H->Hj (Ha X.prog X.w) X.A (execs st X.env) (SP X pins D) X.xe s
theorem thn {α:Type} {t:Sem α} {Q Q':α->Gv->Prop} {M:ND} {A:HQ} {E:Gs->Gv->Prop} {s:Gv} (h:Hj M A t Q E s) (hQ:∀a s,Q a s->Q' a s):Hj M A t Q' E s:=G9 h hQ fun _ _ x=>x
end L2
namespace L2
open PySem PySem.Spec PyProof.Rows
section
variable {X:Cx}
noncomputable def bZ (i:Nat):TE:=fun σ H Q=>∃v,σ[i]?=some (some v)/\Q v H
noncomputable def tC (v:V):TE:=fun _ H Q=>Q v H
theorem mG {i:Nat} {x:Str} {pos:Pos} (hN:X.N[i]?=some x) (hv:Vis X.env.scope x) (hd:(x==("__debug__":Str))=false:=by decide) (hcd:(x==("__classdict__":Str))=false:=by decide):PE X (.Name x pos) (bZ i):=by
 intro pins s σ H Q I h
 obtain ⟨v,e,h⟩:=h
 obtain ⟨m,hn,hl⟩:=I.loc
 obtain ⟨u,r,l⟩:=hl i x v hN e hv
 have fin:EP X pins σ Q u s:=⟨v,H,I,r,h⟩
 rcases l with ⟨hk,hm⟩ | ⟨hk,c,hc,hcell⟩
 ·exact NG (wpAny_loadName_local I.ok.kind hk hn hm fin) hd
 ·rcases hk with hk | hk
  ·exact NG (wpAny_loadName_cell I.ok.kind hk hc hcell fin) hd
  ·exact NG (wpAny_loadName_free I.ok.kind hk hc hcell fin hcd) hd
theorem iE {i j pos}:PE X (.Constant (.int i) j pos) (tC (.int i)):=fun _ _ _ H _ I h=>wpAny_Constant_int ⟨.int i,H,I.tok _,⟨_,rfl⟩,h⟩
theorem CZ {b j pos}:PE X (.Constant (.bool b) j pos) (tC (.bl b)):=fun _ _ _ H _ I h=>Constant_bool ⟨.bl b,H,I,rfl,h⟩
theorem zV {j pos}:PE X (.Constant .none j pos) (tC .non):=fun _ _ _ H _ I h=>Constant_none ⟨.non,H,I,rfl,h⟩
theorem zW {x j pos}:PE X (.Constant (.str x) j pos) (tC (.str x)):=fun _ _ _ H _ I h=>Mu ⟨.str x,H,I.tok _,⟨_,rfl⟩,h⟩
noncomputable def Gl (X:Cx) (x:Str):Prop:=X.env.kindOf x=some .globalImplicit
theorem hU {E:Gs->Gv->Prop} {pins:List (Addr×Obj)} {s:Gv} {σ:St} {H:Hp} {x:Str} {u:Gs} {pos:Pos} {Q:Gs->Gv->Prop} (I:Inv X pins σ H s) (hg:Gl X x) (hm:X.mg x=some u) (h:Q u s)
  (hd:(x==("__debug__":Str))=false:=by decide):Hj (Ha X.prog X.w) X.A (eval (.Name x pos) X.env) Q E s:=
 KN I.ok.kind hg (Calls.loadGlobal_global (by rw [I.ok.glob];exact I.mod.glob.keeps I.bk) hm h) hd
theorem iF {E:Gs->Gv->Prop} {pins:List (Addr×Obj)} {s:Gv} {σ:St} {H:Hp} {x:Str} {u:Gs} {pos:Pos} {Q:Gs->Gv->Prop} (I:Inv X pins σ H s) (hg:Gl X x) (hm:X.mg x=none) (hv:HP x=some u) (h:Q u s)
  (hn:x≠"__name__":=by decide) (hd:(x==("__debug__":Str))=false:=by decide):Hj (Ha X.prog X.w) X.A (eval (.Name x pos) X.env) Q E s:=by
 obtain ⟨mb,h1,h2⟩:=I.mod.blt
 exact KN I.ok.kind hg (Calls.loadGlobal_builtin (by rw [I.ok.glob];exact I.mod.glob.keeps I.bk) hm (by rw [I.ok.blt];exact h1.keeps I.bk) ((h2 x hn).trans hv) h) hd
theorem hV {x:Str} {v:V} {u:Gs} {pos:Pos} (hg:Gl X x) (hm:X.mg x=some u) (r:RelV v u) (hd:(x==("__debug__":Str))=false:=by decide):PE X (.Name x pos) (tC v):=
 fun _ _ _ H _ I h=>hU I hg hm ⟨v,H,I,r,h⟩ hd
theorem cY {x:Str} {v:V} {u:Gs} {pos:Pos} (hg:Gl X x) (hm:X.mg x=none) (hv:HP x=some u) (r:RelV v u) (hn:x≠"__name__":=by decide) (hd:(x==("__debug__":Str))=false:=by decide):PE X (.Name x pos) (tC v):=
 fun _ _ _ H _ I h=>iF I hg hm hv ⟨v,H,I,r,h⟩ hn hd
variable {a b:Expr} {ta tb:TE} {pos:Pos}
noncomputable def tB (t:TE):TT:=fun σ H Q=>t σ H fun x H1=>∃c,x=.bl c/\Q c H1
theorem zX {e:Expr} {t:TE} (h:PE X e t) (he:∀whole,Nd e X.env whole=(do let v <- whole;JA e.pos;Jj [v] (truthy v)):=by intro _;rfl):PT X e (tB t):=by
 intro pins s σ H Q I hw
 refine isTrue_plain (thn (h pins s σ H _ I hw) fun v s1 zr1=>?_) (he _)
 obtain ⟨x,H1,I1,r1,q1⟩:=zr1
 obtain ⟨d,rfl,q⟩:=q1
 cases r1
 exact IA ⟨H1,I1,q⟩
variable {tA tB':TT} {rest:List Expr}
noncomputable def C1 (t u:TT):TT:=fun σ H Q=>t σ H fun c H1=>if c=true then u σ H1 Q else Q false H1
noncomputable def tOr (t u:TT):TT:=fun σ H Q=>t σ H fun c H1=>if c=true then Q true H1 else u σ H1 Q
noncomputable def C2 (t:TT):TT:=fun σ H Q=>t σ H fun c H1=>Q (!c) H1
theorem vP (ha:PT X a tA):PW X (.BoolOp .And [a] pos) tA:=by
 intro wh pins s σ H Q I h
 refine isTrue_and (thn (ha pins s σ H Q I h) fun c s1 e=>?_)
 cases c with
 | true=>exact isTrue_and_nil e
 | false=>exact e
theorem zY (ha:PT X a tA):PW X (.BoolOp .Or [a] pos) tA:=by
 intro wh pins s σ H Q I h
 refine isTrue_or (thn (ha pins s σ H Q I h) fun c s1 e=>?_)
 cases c with
 | false=>exact isTrue_or_nil e
 | true=>exact e
theorem zZ (ha:PT X a tA) (hb:PW X (.BoolOp .And (b::rest) pos) tB'):PW X (.BoolOp .And (a::b::rest) pos) (C1 tA tB'):=by
 intro wh pins s σ H Q I h
 refine isTrue_and (thn (ha pins s σ H _ I h) fun c s1 zr1=>?_)
 obtain ⟨H1,I1,q1⟩:=zr1
 cases c with
 | true=>exact hb wh pins s1 σ H1 Q I1 q1
 | false=>exact ⟨H1,I1,q1⟩
theorem C3 (ha:PT X a tA) (hb:PW X (.BoolOp .Or (b::rest) pos) tB'):PW X (.BoolOp .Or (a::b::rest) pos) (tOr tA tB'):=by
 intro wh pins s σ H Q I h
 refine isTrue_or (thn (ha pins s σ H _ I h) fun c s1 zr1=>?_)
 obtain ⟨H1,I1,q1⟩:=zr1
 cases c with
 | true=>exact ⟨H1,I1,q1⟩
 | false=>exact hb wh pins s1 σ H1 Q I1 q1
theorem Aa (ha:PT X a tA):PT X (.UnaryOp .Not a pos) (C2 tA):=by
 intro pins s σ H Q I h
 exact isTrue_not (ha pins s σ H (fun c H1=>Q (!c) H1) I h)
noncomputable def yE (ta tb:TE):TE:=fun σ H Q=>ta σ H fun x H1=>∃c,x=.bl c/\if c=true then tb σ H1 Q else Q (.bl false) H1
noncomputable def C4 (ta tb:TE):TE:=fun σ H Q=>ta σ H fun x H1=>∃c,x=.bl c/\if c=true then Q (.bl true) H1 else tb σ H1 Q
noncomputable def yF (ta:TE):TE:=fun σ H Q=>ta σ H fun x H1=>∃c,x=.bl c/\Q (.bl (!c)) H1
theorem Ab {op} {t:TE} (h:PE X a t):PE X (.BoolOp op [a] pos) t:=fun pins s σ H Q I hw=>BoolOp_one (h pins s σ H Q I hw)
theorem Ac (ha:PE X a ta) (hb:PE X (.BoolOp .And (b::rest) pos) tb):PE X (.BoolOp .And (a::b::rest) pos) (yE ta tb):=by
 intro pins s σ H Q I h
 refine BoolOp_and (thn (ha pins s σ H _ I h) fun v s1 zr1=>?_)
 obtain ⟨x,H1,I1,r1,q1⟩:=zr1
 obtain ⟨c,rfl,q1⟩:=q1
 cases r1
 refine IA ?_
 cases c with
 | true=>exact hb pins s1 σ H1 Q I1 q1
 | false=>exact ⟨.bl false,H1,I1,rfl,q1⟩
theorem C5 (ha:PE X a ta) (hb:PE X (.BoolOp .Or (b::rest) pos) tb):PE X (.BoolOp .Or (a::b::rest) pos) (C4 ta tb):=by
 intro pins s σ H Q I h
 refine BoolOp_or (thn (ha pins s σ H _ I h) fun v s1 zr1=>?_)
 obtain ⟨x,H1,I1,r1,q1⟩:=zr1
 obtain ⟨c,rfl,q1⟩:=q1
 cases r1
 refine IA ?_
 cases c with
 | false=>exact hb pins s1 σ H1 Q I1 q1
 | true=>exact ⟨.bl true,H1,I1,rfl,q1⟩
theorem Ad (ha:PE X a ta):PE X (.UnaryOp .Not a pos) (yF ta):=by
 intro pins s σ H Q I h
 refine UnaryOp_ (thn (ha pins s σ H _ I h) fun v s1 zr1=>?_)
 obtain ⟨x,H1,I1,r1,q1⟩:=zr1
 obtain ⟨c,rfl,q1⟩:=q1
 cases r1
 exact not_of (IA ⟨.bl (!c),H1,I1,rfl,q1⟩)
noncomputable def tIf (t:TT) (ta tb:TE):TE:=fun σ H Q=>t σ H fun c H1=>if c=true then ta σ H1 Q else tb σ H1 Q
theorem qX {c:Expr} (hc:PT X c tA) (ha:PE X a ta) (hb:PE X b tb):PE X (.IfExp c a b pos) (tIf tA ta tb):=by
 intro pins s σ H Q I h
 refine wpAny_IfExp (thn (hc pins s σ H _ I h) fun d s1 zr1=>?_)
 obtain ⟨H1,I1,q1⟩:=zr1
 cases d with
 | true=>exact ha pins s1 σ H1 Q I1 q1
 | false=>exact hb pins s1 σ H1 Q I1 q1
end
end L2
namespace L2
open PySem PySem.Spec PyProof.Rows
noncomputable def SqL (K:Gn) (H:Hp) (a:Addr) (xs:List V):Prop:=
 Rd H a (.lst xs) \/
  ∃(o:Obj) (its:Array Gs) (n:Nat),K.lookup a=some o/\o.cls=.type "list"/\o.dict=none/\o.data=.seq its n/\its.size<=GZ/\Vals xs its.toList
noncomputable def SqT (K:Gn) (H:Hp) (a:Addr) (xs:List V):Prop:=
 Rd H a (.tup xs) \/
  ∃(o:Obj) (its:Array Gs) (n:Nat),K.lookup a=some o/\o.cls=.type "tuple"/\o.data=.seq its n/\its.size<=GZ/\Vals xs its.toList
noncomputable def FR:Gs->Option V
 | .none=>some .non
 | .bool b=>some (.bl b)
 | .int i _=>some (.int i)
 | .str x _=>some (.str x)
 | .bytes b _=>some (.byt b)
 | .float b _=>some (.flt b)
 | .ref a=>some (.ref a)
 | .type n=>some (.ty n)
 | _=>none
theorem RelV.abs {x:V} {u:Gs} (r:RelV x u):FR u=some x:=by
 cases x with
 | non=>cases r;rfl
 | bl _=>cases r;rfl
 | int _=>obtain ⟨t,rfl⟩:=r;rfl
 | str _=>obtain ⟨t,rfl⟩:=r;rfl
 | byt _=>obtain ⟨t,rfl⟩:=r;rfl
 | flt _=>obtain ⟨t,rfl⟩:=r;rfl
 | ref _=>cases r;rfl
 | ty _=>cases r;rfl
theorem RelV.inj {x y:V} {u:Gs} (r:RelV x u) (q:RelV y u):x=y:=GP (r.abs.symm.trans q.abs)
theorem Vals.inj:∀{xs ys:List V} {us:List Gs},Vals xs us->Vals ys us->xs=ys
 | _,_,_,.nil,.nil=>rfl
 | _,_,_,.cons r t,.cons r' t'=>by rw [r.inj r',Vals.inj t t']
section
variable {X:Cx} {pins:List (Addr×Obj)} {σ:St} {H:Hp} {s:Gv} {a:Addr} {xs ys:List V}
theorem Inv.list (I:Inv X pins σ H s) (h:SqL X.K H a xs):∃its:List Gs,Vals xs its/\PlainL s.heap a its.toArray/\xs.length<=GZ:=by
 rcases h with h | ⟨o,its,n,hk,hc,hd,hs,hz,r⟩
 ·obtain ⟨z,its,n,r,e⟩:=h.ok I.hok
  exact ⟨its,r,⟨_,n,e,rfl,rfl,rfl⟩,z⟩
 ·refine ⟨its.toList,r,⟨o,n,I.kIn a o hk,hc,hd,by simpa using hs⟩,?_⟩
  have e:=r.length
  simp only [Hb] at e
  omega
theorem Inv.tuple (I:Inv X pins σ H s) (h:SqT X.K H a xs):∃its:List Gs,Vals xs its/\NU s.heap a its.toArray/\xs.length<=GZ:=by
 rcases h with h | ⟨o,its,n,hk,hc,hs,hz,r⟩
 ·obtain ⟨z,its,r,p⟩:=h.ok I.hok
  exact ⟨its,r,p,z⟩
 ·refine ⟨its.toList,r,⟨o,I.kIn a o hk,hc,n,by simpa using hs⟩,?_⟩
  have e:=r.length
  simp only [Hb] at e
  omega
theorem Inv.list_inj (I:Inv X pins σ H s) (h:SqL X.K H a xs) (h':SqL X.K H a ys):xs=ys:=by
 obtain ⟨its,r,⟨o,n,e,_,_,d⟩,_⟩:=I.list h
 obtain ⟨its',r',⟨o',n',e',_,_,d'⟩,_⟩:=I.list h'
 rw [e] at e';cases e'
 rw [d] at d'
 injection d' with d1 _
 have:its=its':=by simpa using congrArg Array.toList d1
 subst this
 exact r.inj r'
end
noncomputable abbrev Cx.wish (X:Cx) (E:Gs->Gv->Prop):Cx:={ X with xe:=E }
noncomputable abbrev Cx.nox (X:Cx):Cx:=X.wish fun _ _=>False
theorem Cx.Ok.wish {X:Cx} (ok:X.Ok) (E:Gs->Gv->Prop):(X.wish E).Ok:=
 ⟨ok.mod,ok.kind,ok.glob,ok.blt,ok.above,ok.inj,ok.has,ok.cab,ok.hd,ok.frames,ok.stk,ok.exf,ok.bs,ok.bsz,ok.noex,ok.exfs,ok.funs,ok.frf⟩
theorem Cx.Ok.unwish {X:Cx} {E:Gs->Gv->Prop} (ok:(X.wish E).Ok):X.Ok:=
 ⟨ok.mod,ok.kind,ok.glob,ok.blt,ok.above,ok.inj,ok.has,ok.cab,ok.hd,ok.frames,ok.stk,ok.exf,ok.bs,ok.bsz,ok.noex,ok.exfs,ok.funs,ok.frf⟩
section
variable {X:Cx} {pins:List (Addr×Obj)} {σ:St} {H:Hp} {s:Gv} {E:Gs->Gv->Prop}
theorem Inv.wish (I:Inv X pins σ H s) (E:Gs->Gv->Prop):Inv (X.wish E) pins σ H s:=⟨I.ok.wish E,I.os,I.bare,I.base,I.loc,I.cell,I.free,I.freeC,I.pin,I.hok,I.len⟩
theorem Inv.unwish (I:Inv (X.wish E) pins σ H s):Inv X pins σ H s:=⟨I.ok.unwish,I.os,I.bare,I.base,I.loc,I.cell,I.free,I.freeC,I.pin,I.hok,I.len⟩
theorem SP.unwish {D:Ends} {f:Flow} {s':Gv} (h:SP (X.wish E) pins D f s'):SP X pins D f s':=by
 cases f with
 | next=>obtain ⟨σ',H',I,q⟩:=h;exact ⟨σ',H',I.unwish,q⟩
 | brk=>obtain ⟨σ',H',I,q⟩:=h;exact ⟨σ',H',I.unwish,q⟩
 | cont=>obtain ⟨σ',H',I,q⟩:=h;exact ⟨σ',H',I.unwish,q⟩
 | ret u=>obtain ⟨v,σ',H',I,r,q⟩:=h;exact ⟨v,σ',H',I.unwish,r,q⟩
theorem PSs.nox {st:List Stmt} {t:TS} (h:PSs X.nox st t):PSs X st t:=fun pins s σ H D I hw=>
 G9 (h pins s σ H D (I.wish _) hw) (fun _ _ q=>q.unwish) fun _ _ z=>Jp z
end
section
variable {X:Cx} {st:Stmt} {rest:List Stmt} {t u:TS} {e:Expr} {te:TE} {pos:Pos}
noncomputable def qY:TS:=fun D σ H=>D.nx σ H
noncomputable def qZ (t u:TS):TS:=fun D σ H=>t { D with nx:=u D } σ H
theorem jX:PSs X [] qY:=fun _ _ σ H _ I h=>LJ ⟨σ,H,I,h⟩
theorem fR (h1:PS X st t) (h2:PSs X rest u):PSs X (st::rest) (qZ t u):=by
 intro pins s σ H D I h
 refine wpAny_execs_cons (thn (h1 pins s σ H { D with nx:=u D } I h) fun f s1 q=>?_)
 cases f with
 | next=>
  obtain ⟨σ',H',I',q⟩:=q
  exact h2 pins s1 σ' H' D I' q
 | ret v=>exact q
 | brk=>exact q
 | cont=>exact q
theorem nV (h1:PS X st t):PSs X [st] t:=by
 intro pins s σ H D I h
 refine wpAny_execs_cons (thn (h1 pins s σ H D I h) fun f s1 q=>?_)
 cases f with
 | next=>exact LJ q
 | ret v=>exact q
 | brk=>exact q
 | cont=>exact q
theorem Inv.quiet {pins:List (Addr×Obj)} {σ:St} {H:Hp} {s:Gv} (I:Inv X pins σ H s):interactive X.env=false:=by simp [interactive,I.ok.kind]
noncomputable def nW (te:TE):TS:=fun D σ H=>te σ H fun _ H1=>D.nx σ H1
theorem jY (he:PE X e te) (hs:IN e none pos.line X.env=pure false:=by rfl):PS X (.Expr e pos) (nW te):=by
 intro pins s σ H D I h
 exact wpAny_Expr_any (thn (he pins s σ H _ I h) fun v s1 zt1=>by obtain ⟨x,H1,I1,r1,q1⟩:=zt1;exact ⟨σ,H1,I1,q1⟩) I.quiet hs
noncomputable def C6 (te:TE):TS:=fun D σ H=>te σ H D.rt
theorem Ae (he:PE X e te):PS X (.Return (some e) pos) (C6 te):=by
 intro pins s σ H D I h
 exact wpAny_Return_some (thn (he pins s σ H _ I h) fun v s1 zt1=>by obtain ⟨x,H1,I1,r1,q1⟩:=zt1;exact ⟨x,σ,H1,I1,r1,q1⟩)
noncomputable def Af (c:TT) (t u:TS):TS:=fun D σ H=>c σ H fun b H1=>if b=true then t D σ H1 else u D σ H1
theorem yG {c:Expr} {a b:List Stmt} {tc:TT} (hc:PT X c tc) (ha:PSs X a t) (hb:PSs X b u):PS X (.If c a b pos) (Af tc t u):=by
 intro pins s σ H D I h
 refine wpAny_If (thn (hc pins s σ H _ I h) fun d s1 zr1=>?_)
 obtain ⟨H1,I1,q1⟩:=zr1
 cases d with
 | true=>exact ha pins s1 σ H1 D I1 q1
 | false=>exact hb pins s1 σ H1 D I1 q1
noncomputable def fC:TS:=fun _ _ _=>False
theorem rf:PS X st fC:=fun _ _ _ _ _ _ h=>h.elim
theorem e7 {sts:List Stmt}:PSs X sts fC:=fun _ _ _ _ _ _ h=>h.elim
end
noncomputable abbrev TG:=V->St->Hp->(St->Hp->Prop)->Prop
noncomputable abbrev TGs:=List V->St->Hp->(St->Hp->Prop)->Prop
noncomputable def PG (X:Cx) (target:Expr) (t:TG):Prop:=
 ∀(pins:List (Addr×Obj)) (s:Gv) (σ:St) (H:Hp) (v:V) (u:Gs) (Q:St->Hp->Prop),Inv X pins σ H s->RelV v u->t v σ H Q ->
  Hj (Ha X.prog X.w) X.A (Kn target X.env u) (fun _ s'=>∃ σ' H',Inv X pins σ' H' s'/\Q σ' H') X.xe s
noncomputable def PGs (X:Cx) (ts:List Expr) (t:TGs):Prop:=
 ∀(pins:List (Addr×Obj)) (s:Gv) (σ:St) (H:Hp) (vs:List V) (us:List Gs) (Q:St->Hp->Prop),Inv X pins σ H s->Vals vs us->t vs σ H Q ->
  Hj (Ha X.prog X.w) X.A (assignInOrder ((IW ts X.env).map (·.2)) us) (fun _ s'=>∃ σ' H',Inv X pins σ' H' s'/\Q σ' H') X.xe s
noncomputable abbrev pY:=V->V->V->Hp->(Hp->Prop)->Prop
noncomputable def vQ (X:Cx) (t:pY):Prop:=
 ∀(pins:List (Addr×Obj)) (s:Gv) (σ:St) (H:Hp) (o i v:V) (ov iv u:Gs) (Q:Hp->Prop),Inv X pins σ H s->RelV o ov->RelV i iv->RelV v u->t o i v H Q ->
  Hj (Ha X.prog X.w) X.A (MO ov iv u) (fun _ s'=>∃H',Inv X pins σ H' s'/\Q H') X.xe s
noncomputable abbrev TIp:=V->V->Hp->VK->Prop
noncomputable def PIp (X:Cx) (op:NO) (t:TIp):Prop:=
 ∀(pins:List (Addr×Obj)) (s:Gv) (σ:St) (H:Hp) (x y:V) (v u:Gs) (Q:VK),Inv X pins σ H s->RelV x v->RelV y u->t x y H Q ->
  Hj (Ha X.prog X.w) X.A (inplaceOp op v u) (EP X pins σ Q) X.xe s
section
variable {X:Cx} {pos:Pos}
noncomputable def bF (i:Nat):TG:=fun v σ H Q=>Q (σ.set i (some v)) H
theorem aq {i:Nat} {x:Str} (hN:X.N.Nodup) (hi:X.N[i]?=some x) (hx:Loc X.env.scope x) (hf:X.fn x=true\/X.env.scope.names.lookup x=some .local:=by first | exact .inl rfl | exact .inr rfl | assumption):PG X (.Name x pos) (bF i):=by
 intro pins s σ H v u Q I r h
 exact La (fQ I hN hi hx r (fun s' I'=>⟨_,H,I',h⟩) hf)
noncomputable def Ag:TGs:=fun vs σ H Q=>vs=[]/\Q σ H
noncomputable def nX (t:TG) (u:TGs):TGs:=fun vs σ H Q=>∃v r,vs=v::r/\t v σ H fun σ' H'=>u r σ' H' Q
theorem vR:PGs X [] Ag:=by
 intro pins s σ H vs us Q I r h
 obtain ⟨e,h⟩:=h
 subst e
 cases r
 exact assignInOrder_nil ⟨σ,H,I,h⟩
theorem rh {e:Expr} {es:List Expr} {t:TG} {u:TGs} (h1:PG X e t) (h2:PGs X es u)
  (hs:(IW (e::es) X.env).map (·.2)=Kn e X.env::(IW es X.env).map (·.2):=by rfl):PGs X (e::es) (nX t u):=by
 intro pins s σ H vs us Q I r h
 obtain ⟨v,vr,e1,h⟩:=h
 subst e1
 cases r with
 | cons r rr=>
  rw [hs]
  refine assignInOrder_cons (thn (h1 pins s σ H _ _ _ I r h) fun _ s1 zr1=>?_)
  obtain ⟨σ1,H1,I1,q1⟩:=zr1
  exact h2 pins s1 σ1 H1 _ _ Q I1 rr q1
noncomputable def Ah (K:Gn) (n:Nat) (t:TGs):TG:=fun v σ H Q=>∃a xs,v=.ref a/\SqT K H a xs/\xs.length=n/\t xs σ H Q
theorem Ai {es:List Expr} {k:Nat} {t:TGs} {n:Nat} (hc:X.calm=true) (h:PGs X es t)
  (hn:(IW es X.env).length=n:=by rfl) (hst:(IW es X.env).findIdx? (·.1)=none:=by rfl):PG X (.Tuple es k pos) (Ah X.K n t):=by
 intro pins s σ H v u Q I r hw
 obtain ⟨a,xs,e1,hq,hl,hw⟩:=hw
 subst e1
 cases r
 obtain ⟨its,rv,ht,hz⟩:=I.tuple hq
 refine assign_Tuple_tuple (I.ok.hd hc) ht (by simp [hn,<- hl,rv.length]) hst fun h' hx=>?_
 have I1:Inv X pins σ H { s with heap:=h' }:=I.kept (t':=s.toks) fun b o e=>hx b o (Hn (GI e)) e
 exact h pins _ σ H xs _ Q I1 (by simpa using rv) hw
noncomputable def Aj (to ti:TE) (t:pY):TG:=fun v σ H Q=>to σ H fun o H1=>ti σ H1 fun i H2=>t o i v H2 fun H3=>Q σ H3
theorem Ak {o i:Expr} {to ti:TE} {t:pY} (ho:PE X o to) (hi:PE X i ti) (hs:vQ X t)
  (ha:∀v,Kn (.Subscript o i pos) X.env v=(do
   let ov <- Jj [v] (eval o X.env)
   let iv <- Jj [v,ov] (eval i X.env)
   JA pos
   Jj [v,ov,iv] (MO ov iv v)
   NQ [v,ov,iv] []):=by intro _;rfl):PG X (.Subscript o i pos) (Aj to ti t):=by
 intro pins s σ H v u Q I r h
 rw [ha]
 refine Gp (Hx (thn (ho pins s σ H _ I h) fun ov s1 zr1=>?_))
 obtain ⟨x,H1,I1,r1,q1⟩:=zr1
 refine Gp (Hx (thn (hi pins s1 σ H1 _ I1 q1) fun iv s2 zr1=>?_))
 obtain ⟨y,H2,I2,r2,q2⟩:=zr1
 refine Gp (Il (Gp (Hx (thn (hs pins s2 σ H2 x y v ov iv u _ I2 r1 r2 r q2) fun _ s3 zr1=>?_))))
 obtain ⟨H3,I3,q3⟩:=zr1
 exact wpAny_release ⟨σ,H3,I3,q3⟩
noncomputable def cW (te:TE) (g:TG):TS:=fun D σ H=>te σ H fun x H1=>g x σ H1 D.nx
theorem rj {tg e:Expr} {te:TE} {g:TG} (he:PE X e te) (hg:PG X tg g) (hs:Mw [tg] e pos.line X.env=pure false:=by rfl) (hw:Mx [tg] e X.env=pure none:=by rfl)
  (h1:(IW [tg] X.env).map (·.2)=[Kn tg X.env]:=by rfl):PS X (.Assign [tg] e pos) (cW te g):=by
 intro pins s σ H D I h
 refine wpAny_Assign_stores (thn (he pins s σ H _ I h) fun v s1 zr1=>?_) hs hw
 obtain ⟨x,H1,I1,r1,q1⟩:=zr1
 rw [h1]
 exact thn (hg pins s1 σ H1 x v _ I1 r1 q1) fun _ s2 q=>q
theorem cB {i:Nat} {x:Str} {e:Expr} {te:TE} {pos':Pos} (hN:X.N.Nodup) (hi:X.N[i]?=some x) (hx:Loc X.env.scope x) (he:PE X e te) (hs:IN e (some (.Name x pos')) pos.line X.env=pure false:=by rfl) (hf:X.fn x=true\/X.env.scope.names.lookup x=some .local:=by first | exact .inl rfl | exact .inr rfl | assumption) :
  PS X (.Assign [.Name x pos'] e pos) (cW te (bF i)):=by
 intro pins s σ H D I h
 refine wpAny_Assign_Name (thn (he pins s σ H _ I h) fun v s1 zr1=>?_) hs
 obtain ⟨y,H1,I1,r1,q1⟩:=zr1
 exact fQ I1 hN hi hx r1 (fun s2 I2=>⟨_,H1,I2,q1⟩) hf
noncomputable def rm (to ti te:TE) (tget:V->V->Hp->VK->Prop) (tip:TIp) (tset:pY):TS:=fun D σ H=>to σ H fun o H1=>ti σ H1 fun i H2=>tget o i H2 fun x H3=>te σ H3 fun y H4=>tip x y H4 fun z H5=>tset o i z H5 fun H6=>D.nx σ H6
noncomputable def Al (X:Cx) (t:V->V->Hp->VK->Prop):Prop:=
 ∀(pins:List (Addr×Obj)) (s:Gv) (σ:St) (H:Hp) (o i:V) (ov iv:Gs) (Q:VK),Inv X pins σ H s->RelV o ov->RelV i iv->t o i H Q ->
  Hj (Ha X.prog X.w) X.A (Nq ov iv) (EP X pins σ Q) X.xe s
theorem nY {o i e:Expr} {to ti te:TE} {tget:V->V->Hp->VK->Prop} {tip:TIp} {tset:pY} {op:NO} {tpos:Pos} (ho:PE X o to) (hi:PE X i ti) (hg:Al X tget) (he:PE X e te) (hp:PIp X op tip) (hs:vQ X tset)
  (ha:∀ov iv new,augStore i ov iv new=(do Jj [new,ov,iv] (MO ov iv new);NQ [new,ov,iv] [];pure .next):=by intros;rfl):PS X (.AugAssign (.Subscript o i tpos) op e pos) (rm to ti te tget tip tset):=by
 intro pins s σ H D I h
 refine wpAny_AugAssign_SubscriptAny (thn (ho pins s σ H _ I h) fun ov s1 zr1=>?_) ha
 obtain ⟨x1,H1,I1,r1,q1⟩:=zr1
 refine thn (hi pins s1 σ H1 _ I1 q1) fun iv s2 zr1=>?_
 obtain ⟨x2,H2,I2,r2,q2⟩:=zr1
 refine thn (hg pins s2 σ H2 x1 x2 ov iv _ I2 r1 r2 q2) fun old s3 zr1=>?_
 obtain ⟨x3,H3,I3,r3,q3⟩:=zr1
 refine thn (he pins s3 σ H3 _ I3 q3) fun v s4 zr1=>?_
 obtain ⟨x4,H4,I4,r4,q4⟩:=zr1
 refine thn (hp pins s4 σ H4 x3 x4 old v _ I4 r3 r4 q4) fun new s5 zr1=>?_
 obtain ⟨x5,H5,I5,r5,q5⟩:=zr1
 exact thn (hs pins s5 σ H5 x1 x2 x5 ov iv new _ I5 r1 r2 r5 q5) fun _ s6 zt1=>by obtain ⟨H6,I6,q6⟩:=zt1;exact ⟨σ,H6,I6,q6⟩
noncomputable def ipI (f:Int->Int->Int):TIp:=fun x y H Q=>∃i j,x=.int i/\y=.int j/\Q (.int (f i j)) H
theorem rn:PIp X .Add (ipI fun i j=>i+j):=by
 intro pins s σ H x y v u Q I r1 r2 h
 obtain ⟨i,j,e1,e2,q⟩:=h
 subst e1;subst e2
 obtain ⟨t,rfl⟩:=r1
 obtain ⟨t',rfl⟩:=r2
 exact iadd_int ⟨.int _,H,I.tok _,⟨_,rfl⟩,q⟩
end
structure It where
 go:Nat->Hp->Prop
 yld:Nat->Hp->V->Hp->Prop
 stop:Nat->Hp->Prop
noncomputable def gY (X:Cx) (pins:List (Addr×Obj)) (H:Hp) (b:Addr):Prop:=
 H b=none/\b≠X.env.locals/\b∉X.fs/\(b∈X.ex\/X.s₀.heap.objs.size<=b)/\(∀x c,X.env.cells.lookup x=some c->c≠b)/\∀p∈X.pn++pins,p.1≠b
theorem Inv.fpOk {X:Cx} {pins:List (Addr×Obj)} {σ:St} {H H':Hp} {s:Gv} {b:Addr} (I:Inv X pins σ H s) (hb:s.heap.objs.size<=b) (hn:H' b=none):gY X pins H' b:=by
 refine ⟨hn,Nf (GR I.lt hb),I.nofs hb,.inr (HY I.sz hb),fun x c e z=>?_,fun p hp z=>?_⟩
 ·obtain ⟨v,q⟩:=I.cell x c e
  exact absurd (GR q.lt (by rw [z];exact hb)) (Ic _)
 ·exact absurd (GR (GI (I.pin p hp).1) (by rw [z];exact hb)) (Ic _)
structure Turn (P:G2) (w:HJ) (K:Gn) (tg:Expr) (J:It) (fp:List Addr) (it:Addr) (tn:Nat->Heap->Prop):Prop where
 mem:it∈fp
 obj:∀i h,tn i h->∀b∈fp,∃o,h.get? b=some o/\∀v,o.data≠.cell v
 keep:∀i h h',tn i h->(∀b∈fp,∀o,h.get? b=some o->h'.get? b=some o)->tn i h'
 item:∀(X:Cx),X.prog=P->X.w=w->X.K=K->X.calm=true->∀(i:Nat) (pins:List (Addr×Obj)) (s:Gv) (σ:St) (H:Hp) (E:Gs->Gv->Prop),Inv X pins σ H s->(∀b∈fp,gY X pins H b)->tn i s.heap->J.go i H ->
  Hj (Ha P w) X.A (Ma (.ref it)) (fun r s1=>∃u,r=some u /\
   Hj (Ha P w) X.A (JL tg (.ref it) u) (fun _ s2=>∃x H',Inv X pins σ H' s2/\RelV x u/\J.yld i H x H'/\tn (i+1) s2.heap/\∀b∈fp,H' b=none) E s1) E s
 done:∀(X:Cx),X.prog=P->X.w=w->X.K=K->X.calm=true->∀(i:Nat) (pins:List (Addr×Obj)) (s:Gv) (σ:St) (H:Hp) (E:Gs->Gv->Prop),Inv X pins σ H s->(∀b∈fp,gY X pins H b)->tn i s.heap->J.stop i H ->
  Hj (Ha P w) X.A (Ma (.ref it)) (fun r s1=>r=none/\Inv X pins σ H s1) E s
 self:∀(A:HQ) (i:Nat) (s:Gv) (Q:Gs->Gv->Prop) (E:Gs->Gv->Prop),tn i s.heap->Q (.ref it) s->Hj (Ha P w) A (Nr (.ref it)) Q E s
noncomputable abbrev TI:=St->Hp->(It->Hp->Prop)->Prop
noncomputable def PIE (X:Cx) (pins:List (Addr×Obj)) (σ:St) (tg:Expr) (R:It->Hp->Prop) (itv:Gs) (s2:Gv):Prop:=
 ∃(it:Addr) (fp:List Addr) (tn:Nat->Heap->Prop) (J:It) (H':Hp),itv=.ref it/\Inv X pins σ H' s2/\Turn X.prog X.w X.K tg J fp it tn/\tn 0 s2.heap/\(∀b∈fp,gY X pins H' b)/\R J H'
noncomputable def PI (X:Cx) (tg iter:Expr) (wi:TI):Prop:=
 ∀(pins:List (Addr×Obj)) (s:Gv) (σ:St) (H:Hp) (R:It->Hp->Prop),Inv X pins σ H s->wi σ H R ->
  Hj (Ha X.prog X.w) X.A (eval iter X.env) (fun v s1=>Hj (Ha X.prog X.w) X.A (Nr v) (PIE X pins σ tg R) X.xe s1) X.xe s
theorem yH {M:ND} {A:HQ} {E:Gs->Gv->Prop} {s:Gv} {tg:Expr} {it:Addr} {u:Gs} {o:Obj} {n:String} {vs:Array Gs} {Q:Unit->Gv->Prop} (ho:s.heap.get? it=some o) (hc:o.cls=.type n) (hd:o.data=.fields vs)
    (hn:["enumerate","zip","dict_itemiterator","dict_reverseitemiterator","odict_iterator","itertools.zip_longest","itertools.pairwise"].contains n=false) (hQ:Q () s):Hj M A (JL tg (.ref it) u) Q E s:=by
  unfold JL
  cases tg <;> first
    | exact GA hQ
    | (cases u <;> first
        | exact GA hQ
        | (refine Gp (wpAny_load ho ?_)
           rw [hc,hd]
           show Hj M A (if (["enumerate","zip","dict_itemiterator","dict_reverseitemiterator","odict_iterator","itertools.zip_longest","itertools.pairwise"].contains n&&vs[0]?==some (Mz _))=true then _ else _) Q E s
           rw [if_neg (by intro h;rw [hn,Mb] at h;cases h)]
           exact GA hQ))
noncomputable def Itl (K:Gn) (a:Addr):It:=
 ⟨fun i H=>∃xs x,SqL K H a xs/\xs[i]?=some x,fun i H x H'=>H'=H/\∀xs,SqL K H a xs->xs[i]?=some x,fun i H=>∃xs,SqL K H a xs/\xs.length<=i⟩
noncomputable def Itr (lo:Int) (n:Nat):It:=⟨fun i _=>i < n,fun i H x H'=>H'=H/\x=.int (lo+i),fun i _=>n<=i⟩
theorem pZ {P:G2} {w:HJ} {K:Gn} {tg:Expr} (a it:Addr):Turn P w K tg (Itl K a) [it] it (fun i h=>h.IsListIter it a i) where
 mem:=by simp
 obj:=fun i h st b hb=>by
  have e:b=it:=by simpa using hb
  subst e
  obtain ⟨o,e,c,d⟩:=st
  exact ⟨o,e,fun v z=>by rw [d] at z;cases z⟩
 keep:=fun i h h' st k=>st.at fun o e=>k it (by simp) o e
 item:=by
  intro X hP hw hK hc i pins s σ H E I hf st hg
  subst hP hw hK
  obtain ⟨xs,x,hq,hx⟩:=hg
  obtain ⟨its,rv,p,hz⟩:=I.list hq
  obtain ⟨u,hu,ru⟩:=rv.get hx
  obtain ⟨f0,f1,f2,f3,f4,f5⟩:=hf it (by simp)
  refine wpAny_pyNext_list_item st p.isList (x:=u) (by simpa using hu) fun h' st' sb=>?_
  have I1:Inv X pins σ H { s with heap:=h' }:=I.turned (t':=s.toks) (fun b o hb e=>(sb.2 b hb).trans e) f0 f1 f3 f4 f5
  obtain ⟨o,e,c,d⟩:=id st'
  exact ⟨u,rfl,yH (s:={ s with heap:=h' }) e c d (by decide) ⟨x,H,I1,ru,⟨rfl,fun ys hy=>by rw [I.list_inj hy hq];exact hx⟩,st',fun b hb=>(hf b hb).1⟩⟩
 done:=by
  intro X hP hw hK hc i pins s σ H E I hf st hg
  subst hP hw hK
  obtain ⟨xs,hq,hx⟩:=hg
  obtain ⟨its,rv,p,hz⟩:=I.list hq
  obtain ⟨f0,f1,f2,f3,f4,f5⟩:=hf it (by simp)
  have hl:=rv.length
  exact wpAny_pyNext_list_end (I.ok.hd hc) st p.isList (by simp;omega) fun h' eb=>⟨rfl,I.turned (t':=s.toks) (fun b o hb e=>eb b o hb e) f0 f1 f3 f4 f5⟩
 self:=fun _ _ _ _ _ st h=>wpAny_pyIter_listiter st h
theorem mH {P:G2} {w:HJ} {K:Gn} {tg:Expr} (it:Addr) (lo:Int) (n:Nat):Turn P w K tg (Itr lo n) [it] it (fun i h=>IsRangeIter h it (lo+(i:Nat)*1) ((n:Int)-(i:Nat)) 1) where
 mem:=by simp
 obj:=fun i h st b hb=>by
  have e:b=it:=by simpa using hb
  subst e
  exact ⟨_,st,fun v z=>by
   have z':Data.fields _=Data.cell v:=z
   cases z'⟩
 keep:=fun i h h' st k=>k it (by simp) _ st
 item:=by
  intro X hP hw hK hc i pins s σ H E I hf st hg
  subst hP hw hK
  obtain ⟨f0,f1,f2,f3,f4,f5⟩:=hf it (by simp)
  have W:=Walks.range (prog:=X.prog) (w:=X.w) (I.ok.hd hc) it lo 1 n
  refine W.item i s _ _ hg st fun v h' tk hv st' kk=>?_
  obtain ⟨t,rfl⟩:=hv
  have I1:Inv X pins σ H { s with heap:=h',toks:=tk }:=I.turned (fun b o hb e=>kk b o (by simpa using hb) e) f0 f1 f3 f4 f5
  refine ⟨_,rfl,yH (s:={ s with heap:=h',toks:=tk }) (n:="range_iterator") st' rfl rfl (by decide) ⟨.int (lo+i),H,I1,⟨t,?_⟩,⟨rfl,rfl⟩,st',fun b hb=>(hf b hb).1⟩⟩
  rw [Int.mul_one]
 done:=by
  intro X hP hw hK hc i pins s σ H E I hf st hg
  subst hP hw hK
  obtain ⟨f0,f1,f2,f3,f4,f5⟩:=hf it (by simp)
  exact wpAny_pyNext_range_end (I.ok.hd hc) st (by have:n<=i:=hg;omega) fun h' eb=>⟨rfl,I.turned (t':=s.toks) (fun b o hb e=>eb b o hb e) f0 f1 f3 f4 f5⟩
 self:=fun _ _ _ _ _ st h=>wpAny_pyIter_rangeiter st h
end L2
namespace L2
open PySem PySem.Spec PyProof.Rows
section
variable {X:Cx} {tg:Expr}
noncomputable def yI (K:Gn) (tl:TE):TI:=fun σ H R=>tl σ H fun x H1=>∃a,x=.ref a/\(∃xs,SqL K H1 a xs)/\R (Itl K a) H1
theorem vS {l:Expr} {tl:TE} (hl:PE X l tl):PI X tg l (yI X.K tl):=by
 intro pins s σ H R I h
 refine thn (hl pins s σ H _ I h) fun v s1 zr1=>?_
 obtain ⟨x,H1,I1,r1,q1⟩:=zr1
 obtain ⟨a,e,⟨xs,hq⟩,q⟩:=q1
 subst e
 cases r1
 obtain ⟨its,rv,p,hz⟩:=I1.list hq
 refine MP p.isList ?_
 refine ⟨s1.heap.objs.size,[s1.heap.objs.size],_,_,H1,rfl,I1.kept (t':=s1.toks) fun b o e=>Gu _ e,pZ a _,⟨_,GQ _ rfl,rfl,rfl⟩,fun b hb=>?_,q⟩
 have e:b=s1.heap.objs.size:=by simpa using hb
 subst e
 exact I1.fpOk (Gz _) (I1.hok.fresh (Gz _))
theorem lj {pins:List (Addr×Obj)} {σ:St} {H:Hp} {s:Gv} {R:It->Hp->Prop} {E:Gs->Gv->Prop} {lo hi:Int} {t u v:Tok} {tk:Nat} (I:Inv X pins σ H s) (h1:-(2 ^ 62)<=lo) (h2:lo < 2 ^ 62) (h3:-(2 ^ 62)<=hi) (h4:hi < 2 ^ 62)
  (q:R (Itr lo (hi-lo).toNat) H):Hj (Ha X.prog X.w) X.A (Nr (.ref s.heap.objs.size)) (PIE X pins σ tg R) E { s with heap:=s.heap.push { cls:=.type "range",data:=.fields #[.int lo t,.int hi u,.int 1 v] },toks:=tk }:=by
 refine wpAny_pyIter_range (IsRange.new ..) (small_one h1 h2 h3 h4) ?_
 have I1:Inv X pins σ H { s with heap:=s.heap.push { cls:=.type "range",data:=.fields #[.int lo t,.int hi u,.int 1 v] },toks:=tk }:=I.kept fun b o e=>Gu _ e
 refine ⟨(s.heap.push { cls:=.type "range",data:=.fields #[.int lo t,.int hi u,.int 1 v] }).objs.size,[(s.heap.push { cls:=.type "range",data:=.fields #[.int lo t,.int hi u,.int 1 v] }).objs.size],_,_,H,rfl,
  I1.kept (t':=tk) fun b o e=>Gu _ e,mH _ lo (hi-lo).toNat,?_,fun b hb=>?_,q⟩
 ·have e1:lo+((0:Nat):Int)*1=lo:=by simp
  have e2:(((hi-lo).toNat:Nat):Int)-((0:Nat):Int)=Builtin.Range.rangeSize lo hi 1:=by rw [rangeSize_one];split <;> omega
  show IsRangeIter _ _ (lo+((0:Nat):Int)*1) ((((hi-lo).toNat:Nat):Int)-((0:Nat):Int)) 1
  rw [e1,e2]
  exact GQ _ rfl
 ·have e:b=(s.heap.push { cls:=.type "range",data:=.fields #[.int lo t,.int hi u,.int 1 v] }).objs.size:=by simpa using hb
  subst e
  exact I1.fpOk (Gz _) (I1.hok.fresh (Gz _))
noncomputable def yJ (ta:TA):TI:=fun σ H R=>ta σ H fun vs H1=>∃j:Int,vs=[.int j]/\-(2 ^ 62)<=j/\j < 2 ^ 62/\R (Itr 0 j.toNat) H1
noncomputable def yK (ta:TA):TI:=fun σ H R=>ta σ H fun vs H1=>∃i j:Int,vs=[.int i,.int j]/\(-(2 ^ 62)<=i/\i < 2 ^ 62/\-(2 ^ 62)<=j/\j < 2 ^ 62)/\R (Itr i (j-i).toNat) H1
theorem p6 {a:Expr} {ta:TA} {p pos:Pos} (hg:Gl X "range") (hm:X.mg "range"=none) (ha:PA X [a] ta) (hs:GM [a] X.env=[(false,eval a X.env)]:=by rfl):PI X tg (.Call (.Name "range" p) [a] [] pos) (yJ ta):=by
 intro pins s σ H R I h
 refine Call_ (iF I hg hm boot_range (Jk (thn (ha pos pins s σ H _ I h) fun us s1 zr1=>?_) hs rfl))
 obtain ⟨vs,H1,I1,r1,q1⟩:=zr1
 obtain ⟨j,e,q1,q2,q⟩:=q1
 subst e
 cases r1 with
 | cons r rr=>
  cases rr
  obtain ⟨t,rfl⟩:=r
  exact call_range_1 (lj I1 (by omega) (by omega) q1 q2 (by simpa using q))
theorem p8 {a b:Expr} {ta:TA} {p pos:Pos} (hg:Gl X "range") (hm:X.mg "range"=none) (ha:PA X [a,b] ta) (hs:GM [a,b] X.env=[(false,eval a X.env),(false,eval b X.env)]:=by rfl) (hs2:GM [b] X.env=[(false,eval b X.env)]:=by rfl) :
  PI X tg (.Call (.Name "range" p) [a,b] [] pos) (yK ta):=by
 intro pins s σ H R I h
 refine Call_ (iF I hg hm boot_range (Jk (thn (ha pos pins s σ H _ I h) fun us s1 ⟨vs,H1,I1,r1,q1⟩=>?_) (by rw [hs,hs2]) (by rw [hs2];rfl)))
 obtain ⟨i,j,e,⟨q1,q2,q3,q4⟩,q⟩:=q1
 subst e
 cases r1 with
 | cons r rr=>
  cases rr with
  | cons r' rr=>
   cases rr
   obtain ⟨t,rfl⟩:=r
   obtain ⟨t',rfl⟩:=r'
   exact call_range_2 (lj I1 q1 q2 q3 q4 q)
noncomputable def C7 (wi:TI) (g:TG) (tb:TS):TS:=fun D σ H=>wi σ H fun J H1=>∃W:Nat->Nat->St->Hp->Prop,(∃m,W 0 m σ H1)/\∀i m σ H,W i m σ H ->
 (J.stop i H/\D.nx σ H)\/(J.go i H/\∃N:St->Hp->Prop,(∀ σ' H',N σ' H'->∃m',m' < m/\W (i+1) m' σ' H')/\∀x H',J.yld i H x H'->g x σ H' fun σ2 H2=>tb { D with nx:=N,ct:=N,bk:=D.nx } σ2 H2)
noncomputable def dt (fp:List Addr) (h:Heap):List (Addr×Obj):=fp.filterMap fun b=>(h.get? b).map fun o=>(b,o)
theorem bq {fp:List Addr} {h:Heap} {b:Addr} {o:Obj} (hb:b∈fp) (e:h.get? b=some o):(b,o)∈dt fp h:=List.mem_filterMap.mpr ⟨b,hb,by rw [e];rfl⟩
theorem ju {fp:List Addr} {h:Heap} {p:Addr×Obj} (hp:p∈dt fp h):p.1∈fp/\h.get? p.1=some p.2:=by
 obtain ⟨b,hb,e⟩:=List.mem_filterMap.mp hp
 cases q:h.get? b with
 | none=>rw [q] at e;cases e
 | some o=>
  rw [q] at e
  have e':(b,o)=p:=GP e
  subst e'
  exact ⟨hb,q⟩
theorem Inv.pinned {pins:List (Addr×Obj)} {σ:St} {H:Hp} {s:Gv} {fp:List Addr} (I:Inv X pins σ H s) (hf:∀b∈fp,gY X pins H b) (ho:∀b∈fp,∃o,s.heap.get? b=some o/\∀v,o.data≠.cell v):Inv X (pins++dt fp s.heap) σ H s:=
 I.pins_of fun p hp=>(List.mem_append.mp hp).elim (fun z=>I.pin p (Gq _ z)) fun z=>by
  obtain ⟨hb,e⟩:=ju z
  obtain ⟨f0,f1,f2,_⟩:=hf p.1 hb
  obtain ⟨o,e',d⟩:=ho p.1 hb
  rw [e] at e';cases e'
  exact ⟨e,f0,f1,f2,d⟩
theorem Inv.unpinned {pins pl:List (Addr×Obj)} {σ:St} {H:Hp} {s:Gv} (I:Inv X (pins++pl) σ H s):Inv X pins σ H s:=I.pins_of fun p hp=>I.pin p (Gq _ (Hh _ hp))
theorem Am {iter:Expr} {body:List Stmt} {wi:TI} {g:TG} {tb:TS} {pos:Pos} (hp:PassesOwn (Ha X.prog X.w) X.A X.env X.xe) (hc:X.calm=true) (hi:PI X tg iter wi) (hg:PG X tg g) (hb:PSs X body tb)
  (hs:∀x,G7 iter X.env x=pure x:=by intro _;rfl):PS X (.For tg iter body [] pos) (C7 wi g tb):=by
 intro pins s σ H D I h
 refine wpAny_For (thn (hi pins s σ H _ I h) fun v s1 h1=>thn h1 fun itv s2 h2=>?_) hs
 obtain ⟨it,fp,tn,J,H2,e,I2,T,st2,f2,W,⟨m0,w0⟩,turn⟩:=h2
 subst e
 -- what stays true of the iterator's objects through the loop
 have stat:∀{H':Hp},(∀b∈fp,H' b=none)->∀b∈fp,gY X pins H' b:=fun hn b hb=>⟨hn b hb,(f2 b hb).2⟩
 refine codeAny_forLoop_any (fun n s'=>∃i σ' H',Inv X pins σ' H' s'/\tn i s'.heap/\(∀b∈fp,H' b=none)/\W i n σ' H') ?_ m0 ⟨0,σ,H2,I2,st2,fun b hb=>(f2 b hb).1,w0⟩
 rintro n s3 ⟨i,σ3,H3,I3,st3,fr3,w3⟩
 rcases turn i n σ3 H3 w3 with ⟨stop,qn⟩ | ⟨go,N,hN,step⟩
 ·refine JM hp (thn (T.done X rfl rfl rfl hc i pins s3 σ3 H3 X.xe I3 (stat fr3) st3 stop) fun r s4 zr1=>?_)
  obtain ⟨hr,I4⟩:=zr1
  subst hr
  exact LJ ⟨σ3,H3,I4,qn⟩
 ·refine JM hp (thn (T.item X rfl rfl rfl hc i pins s3 σ3 H3 X.xe I3 (stat fr3) st3 go) fun r s4 zr1=>?_)
  obtain ⟨u,hr,h4⟩:=zr1
  subst hr
  refine JM hp (thn h4 fun _ s5 zr1=>?_)
  obtain ⟨x,H5,I5,r5,y5,st5,fr5⟩:=zr1
  have I5':=I5.pinned (stat fr5) (T.obj _ _ st5)
  refine JM hp (thn (hg _ s5 σ3 H5 x u _ I5' r5 (step x H5 y5)) fun _ s6 zr1=>?_)
  obtain ⟨σ6,H6,I6,q6⟩:=zr1
  refine JM hp (thn (hb _ s6 σ6 H6 _ I6 q6) fun f s7 q7=>?_)
  have again:∀{σ7:St} {H7:Hp},Inv X (pins++dt fp s5.heap) σ7 H7 s7->N σ7 H7->∃m,m < n/\∃i σ' H',Inv X pins σ' H' s7/\tn i s7.heap/\(∀b∈fp,H' b=none)/\W i m σ' H':=fun {σ7 H7} I7 n7=>by
   obtain ⟨m',hm,w7⟩:=hN σ7 H7 n7
   refine ⟨m',hm,i+1,σ7,H7,I7.unpinned,T.keep _ _ _ st5 fun b hb o e=>(I7.pin (b,o) (Gq _ (Gq _ (bq hb e)))).1,fun b hb=>?_,w7⟩
   obtain ⟨o,e,d⟩:=T.obj _ _ st5 b hb
   exact (I7.pin (b,o) (Gq _ (Gq _ (bq hb e)))).2.1
  cases f with
  | next=>obtain ⟨σ7,H7,I7,n7⟩:=q7;exact again I7 n7
  | cont=>obtain ⟨σ7,H7,I7,n7⟩:=q7;exact again I7 n7
  | brk=>obtain ⟨σ7,H7,I7,q7⟩:=q7;exact ⟨σ7,H7,I7.unpinned,q7⟩
  | ret v=>obtain ⟨x7,σ7,H7,I7,r7,q7⟩:=q7;exact ⟨x7,σ7,H7,I7.unpinned,r7,q7⟩
end
end L2
namespace L2
open PySem PySem.Spec PyProof.Rows
noncomputable abbrev R2:=V->V->Hp->VK->Prop
noncomputable def OpR (X:Cx) (f:Gs->Gs->Sem Gs) (r:R2):Prop:=
 ∀(pins:List (Addr×Obj)) (s:Gv) (σ:St) (H:Hp) (x y:V) (v u:Gs) (Q:VK),Inv X pins σ H s->RelV x v->RelV y u->r x y H Q ->
  Hj (Ha X.prog X.w) X.A (f v u) (EP X pins σ Q) X.xe s
noncomputable def UnR (X:Cx) (f:Gs->Sem Gs) (r:V->Hp->VK->Prop):Prop:=
 ∀(pins:List (Addr×Obj)) (s:Gv) (σ:St) (H:Hp) (x:V) (v:Gs) (Q:VK),Inv X pins σ H s->RelV x v->r x H Q ->
  Hj (Ha X.prog X.w) X.A (f v) (EP X pins σ Q) X.xe s
noncomputable def cL (X:Cx) (f:Gs) (r:List V->Hp->VK->Prop):Prop:=
 ∀(pins:List (Addr×Obj)) (s:Gv) (σ:St) (H:Hp) (xs:List V) (us:List Gs) (Q:VK),Inv X pins σ H s->Vals xs us->r xs H Q ->
  Hj (Ha X.prog X.w) X.A (call f us) (EP X pins σ Q) X.xe s
noncomputable def FS (X:Cx) (r:V->Hp->(Bool->Hp->Prop)->Prop):Prop:=
 ∀(pins:List (Addr×Obj)) (s:Gv) (σ:St) (H:Hp) (x:V) (v:Gs) (Q:Bool->Hp->Prop),Inv X pins σ H s->RelV x v->r x H Q ->
  Hj (Ha X.prog X.w) X.A (truthy v) (TP X pins σ Q) X.xe s
noncomputable def tOp (r:R2) (ta tb:TE):TE:=fun σ H Q=>ta σ H fun x H1=>tb σ H1 fun y H2=>r x y H2 Q
noncomputable def tUn (r:V->Hp->VK->Prop) (ta:TE):TE:=fun σ H Q=>ta σ H fun x H1=>r x H1 Q
noncomputable def rI (C:Int->Int->Prop) (g:Int->Int->V):R2:=fun x y H Q=>∃i j,x=.int i/\y=.int j/\C i j/\Q (g i j) H
noncomputable def rI0 (g:Int->Int->V):R2:=fun x y H Q=>∃i j,x=.int i/\y=.int j/\Q (g i j) H
noncomputable def rU (g:Int->V):V->Hp->VK->Prop:=fun x H Q=>∃i,x=.int i/\Q (g i) H
section
variable {X:Cx} {a b c:Expr} {ta tb tc:TE} {pos:Pos}
theorem An (ha:PE X a ta) (hb:PE X b tb) {pins:List (Addr×Obj)} {s:Gv} {σ:St} {H:Hp} {R:V->V->Hp->Prop} (I:Inv X pins σ H s)
  (h:ta σ H fun x H1=>tb σ H1 fun y H2=>R x y H2) {Q:Gs->Gv->Prop} {f:Gs->Gs->Sem Gs}
  (hf:∀v u s2 x y H2,Inv X pins σ H2 s2->RelV x v->RelV y u->R x y H2->Hj (Ha X.prog X.w) X.A (f v u) Q X.xe s2) :
  Hj (Ha X.prog X.w) X.A (eval a X.env) (fun v s₁=>Hj (Ha X.prog X.w) X.A (eval b X.env) (fun u s₂=>Hj (Ha X.prog X.w) X.A (f v u) Q X.xe s₂) X.xe s₁) X.xe s:=by
 refine thn (ha pins s σ H _ I h) fun v s1 zr1=>?_
 obtain ⟨x,H1,I1,r1,q1⟩:=zr1
 refine thn (hb pins s1 σ H1 _ I1 q1) fun u s2 zr1=>?_
 obtain ⟨y,H2,I2,r2,q2⟩:=zr1
 exact hf v u s2 x y H2 I2 r1 r2 q2
theorem iG {op:NO} {r:R2} (ho:OpR X (IP op) r) (ha:PE X a ta) (hb:PE X b tb):PE X (.BinOp a op b pos) (tOp r ta tb):=by
 intro pins s σ H Q I h
 exact wpAny_BinOp (An ha hb I h fun v u s2 x y H2 I2 rx ry q=>ho pins s2 σ H2 x y v u Q I2 rx ry q)
theorem C8 {op:UnaryOp} {r:V->Hp->VK->Prop} (ho:UnR X (unaryOp op) r) (ha:PE X a ta):PE X (.UnaryOp op a pos) (tUn r ta):=by
 intro pins s σ H Q I h
 exact UnaryOp_ (thn (ha pins s σ H _ I h) fun v s1 zt1=>by obtain ⟨x,H1,I1,r1,q1⟩:=zt1;exact ho pins s1 σ H1 x v Q I1 r1 q1)
theorem opI {f:Gs->Gs->Sem Gs} {C:Int->Int->Prop} {g:Int->Int->Int}
  (rule:∀(i j:Int) (t u:Tok) (s:Gv) (Q:Gs->Gv->Prop) (E:Gs->Gv->Prop),C i j->Q (.int (g i j) s.toks) { s with toks:=s.toks+1 }->Hj (Ha X.prog X.w) X.A (f (.int i t) (.int j u)) Q E s) :
  OpR X f (rI C fun i j=>.int (g i j)):=by
 intro pins s σ H x y v u Q I rx ry h
 obtain ⟨i,j,rfl,rfl,hc,q⟩:=h
 obtain ⟨t,rfl⟩:=rx
 obtain ⟨t',rfl⟩:=ry
 exact rule i j t t' s _ _ hc ⟨.int (g i j),H,I.tok _,⟨_,rfl⟩,q⟩
theorem C9 {f:Gs->Gs->Sem Gs} {g:Int->Int->Int}
  (rule:∀(i j:Int) (t u:Tok) (s:Gv) (Q:Gs->Gv->Prop) (E:Gs->Gv->Prop),Q (.int (g i j) s.toks) { s with toks:=s.toks+1 }->Hj (Ha X.prog X.w) X.A (f (.int i t) (.int j u)) Q E s) :
  OpR X f (rI0 fun i j=>.int (g i j)):=by
 intro pins s σ H x y v u Q I rx ry h
 obtain ⟨i,j,rfl,rfl,q⟩:=h
 obtain ⟨t,rfl⟩:=rx
 obtain ⟨t',rfl⟩:=ry
 exact rule i j t t' s _ _ ⟨.int (g i j),H,I.tok _,⟨_,rfl⟩,q⟩
theorem vT {f:Gs->Gs->Sem Gs} {g:Int->Int->Bool}
  (rule:∀(i j:Int) (t u:Tok) (s:Gv) (Q:Gs->Gv->Prop) (E:Gs->Gv->Prop),Q (.bool (g i j)) s->Hj (Ha X.prog X.w) X.A (f (.int i t) (.int j u)) Q E s) :
  OpR X f (rI0 fun i j=>.bl (g i j)):=by
 intro pins s σ H x y v u Q I rx ry h
 obtain ⟨i,j,rfl,rfl,q⟩:=h
 obtain ⟨t,rfl⟩:=rx
 obtain ⟨t',rfl⟩:=ry
 exact rule i j t t' s _ _ ⟨.bl (g i j),H,I,rfl,q⟩
noncomputable def FT (i j:Int):Prop:=0 < j/\j < 1073741824
noncomputable def Da (i j:Int):Prop:=0<=j/\j<=1000000/\i.natAbs < 2 ^ 64
noncomputable def Ao (i j:Int):Prop:=(-(2 ^ 64) < i/\i < 2 ^ 64)\/(-(2 ^ 64) < j/\j < 2 ^ 64)
theorem Ao.ok {i j:Int} (h:Ao i j):IntMulOk i j:=by
 rcases h with ⟨h1,h2⟩ | ⟨h1,h2⟩
 ·exact .of_left (intBits_le_64 h1 h2)
 ·exact .of_right (intBits_le_64 h1 h2)
theorem two_pow_nn (k:Nat):(0:Int)<=2 ^ k:=by
 rw [two_pow_cast]
 exact Int.natCast_nonneg _
theorem aS:OpR X (IP .Add) (rI0 fun i j=>.int (i+j)):=C9 fun _ _ _ _ _ _ _ q=>add_int q
theorem et:OpR X (IP .Sub) (rI0 fun i j=>.int (i-j)):=C9 fun _ _ _ _ _ _ _ q=>sub_int q
theorem fD:OpR X (IP .Mult) (rI Ao fun i j=>.int (i*j)):=opI fun _ _ _ _ _ _ _ hc q=>mul_int q hc.ok
theorem nZ:OpR X (IP .FloorDiv) (rI FT fun i j=>.int (i / j)):=opI fun i j _ _ _ _ _ hc q=>by
 have h1:(0:Int) < j:=hc.1
 have h2:j < 1073741824:=hc.2
 exact floordiv_int (by omega) (by rw [KO i (by omega)];exact q) (.inl (PyProof.noPylong_small (by omega)))
theorem br:OpR X (IP .Mod) (rI (fun _ j=>0 < j) fun i j=>.int (i%j)):=opI fun i j _ _ _ _ _ hc q=>by
 have h1:(0:Int) < j:=hc
 exact mod_int' (by omega) (by rw [Int.fmod_eq_emod_of_nonneg i (by omega)];exact q)
theorem mI:OpR X (IP .Pow) (rI Da fun i j=>.int (i ^ j.toNat)):=opI fun _ _ _ _ _ _ _ hc q=>pow_int_small hc.1 hc.2.1 hc.2.2 q
theorem mJ:OpR X (IP .LShift) (rI Da fun i j=>.int (i*2 ^ j.toNat)):=opI fun _ _ _ _ _ _ _ hc q=>lshift_int_small hc.1 hc.2.1 hc.2.2 q
theorem Ap:OpR X (IP .RShift) (rI (fun _ j=>0<=j) fun i j=>.int (i / 2 ^ j.toNat)):=opI fun i j _ _ _ _ _ hc q=>
 rshift_int hc (by rw [KO i (two_pow_nn _)];exact q)
theorem unI {f:Gs->Sem Gs} {g:Int->Int}
  (rule:∀(i:Int) (t:Tok) (s:Gv) (Q:Gs->Gv->Prop) (E:Gs->Gv->Prop),Q (.int (g i) s.toks) { s with toks:=s.toks+1 }->Hj (Ha X.prog X.w) X.A (f (.int i t)) Q E s) :
  UnR X f (rU fun i=>.int (g i)):=by
 intro pins s σ H x v Q I rx h
 obtain ⟨i,rfl,q⟩:=h
 obtain ⟨t,rfl⟩:=rx
 exact rule i t s _ _ ⟨.int (g i),H,I.tok _,⟨_,rfl⟩,q⟩
theorem fF:UnR X (unaryOp .USub) (rU fun i=>.int (-i)):=unI fun _ _ _ _ _ q=>neg_int q
end
noncomputable def vU:V->V->Bool
 | .non,.non=>true | .non,.int _=>true | .int _,.non=>true | .non,.bl _=>true | .bl _,.non=>true | .non,.str _=>true | .str _,.non=>true
 | .int _,.int _=>true | .bl _,.bl _=>true | .str _,.str _=>true | .byt _,.byt _=>true
 | .int _,.str _=>true | .str _,.int _=>true | .bl _,.str _=>true | .str _,.bl _=>true
 | _,_=>false
noncomputable def rEq:R2:=fun x y H Q=>vU x y=true/\Q (.bl (decide (x=y))) H
noncomputable def rNe:R2:=fun x y H Q=>vU x y=true/\Q (.bl (!decide (x=y))) H
theorem n5 {i j:Int}:decide (V.int i=V.int j)=(i==j):=by
 rw [IY]
 simp
theorem rp {i j:Bool}:decide (V.bl i=V.bl j)=(i==j):=by
 rw [IY]
 simp
theorem n8 {i j:Str}:decide (V.str i=V.str j)=(i==j):=by
 rw [IY]
 simp
theorem n9 {i j:Array UInt8}:decide (V.byt i=V.byt j)=(i.toList==j.toList):=by
 rw [IY]
 cases i
 cases j
 simp
section
variable {X:Cx} {a b c:Expr} {ta tb tc:TE} {pos:Pos}
theorem aR {pins:List (Addr×Obj)} {σ:St} {H:Hp} {s:Gv} {Q:VK} {k k':Bool} (I:Inv X pins σ H s) (q:Q (.bl k) H) (e:k=k'):EP X pins σ Q (.bool k') s:=by
 subst e
 exact ⟨.bl k,H,I,rfl,q⟩
theorem eg:OpR X (HS .Eq) rEq:=by
 intro pins s σ H x y v u Q I rx ry h
 obtain ⟨hs,q⟩:=h
 cases x with
 | non=>
  cases rx
  cases y with
  | non=>cases ry;exact PySem.EqNone.eq_none_none (aR I q (by simp))
  | bl j=>cases ry;exact PySem.EqNone.eq_none_bool (aR I q (by simp))
  | int j=>obtain ⟨t',rfl⟩:=ry;exact PySem.EqNone.eq_none_int (aR I q (by simp))
  | str j=>obtain ⟨t',rfl⟩:=ry;exact PySem.EqNone.eq_none_str (aR I q (by simp))
  | _=>exact absurd (show false=true from hs) Gw
 | bl i=>
  cases rx
  cases y with
  | non=>cases ry;exact PySem.EqNone.eq_bool_none (aR I q (by simp))
  | bl j=>cases ry;exact eq_bool (aR I q rp)
  | str j=>obtain ⟨t',rfl⟩:=ry;exact PySem.EqMixed.eq_bool_str (aR I q (by simp))
  | _=>exact absurd (show false=true from hs) Gw
 | int i=>
  obtain ⟨t,rfl⟩:=rx
  cases y with
  | non=>cases ry;exact PySem.EqNone.eq_int_none (aR I q (by simp))
  | int j=>obtain ⟨t',rfl⟩:=ry;exact eq_int (aR I q n5)
  | str j=>obtain ⟨t',rfl⟩:=ry;exact PySem.EqMixed.eq_int_str (aR I q (by simp))
  | _=>exact absurd (show false=true from hs) Gw
 | str i=>
  obtain ⟨t,rfl⟩:=rx
  cases y with
  | non=>cases ry;exact PySem.EqNone.eq_str_none (aR I q (by simp))
  | bl j=>cases ry;exact PySem.EqMixed.eq_str_bool (aR I q (by simp))
  | int j=>obtain ⟨t',rfl⟩:=ry;exact PySem.EqMixed.eq_str_int (aR I q (by simp))
  | str j=>obtain ⟨t',rfl⟩:=ry;exact eq_str (aR I q n8)
  | _=>exact absurd (show false=true from hs) Gw
 | byt i=>
  obtain ⟨t,rfl⟩:=rx
  cases y with
  | byt j=>obtain ⟨t',rfl⟩:=ry;exact PySem.W.eq_bytes (aR I q n9)
  | _=>exact absurd (show false=true from hs) Gw
 | _=>cases y <;> exact absurd (show false=true from hs) Gw
theorem Dc:OpR X (HS .NotEq) rNe:=by
 intro pins s σ H x y v u Q I rx ry h
 obtain ⟨hs,q⟩:=h
 cases x with
 | non=>
  cases rx
  cases y with
  | non=>cases ry;exact PySem.EqNone.ne_none_none (aR I q (by simp))
  | bl j=>cases ry;exact PySem.EqNone.ne_none_bool (aR I q (by simp))
  | int j=>obtain ⟨t',rfl⟩:=ry;exact PySem.EqNone.ne_none_int (aR I q (by simp))
  | str j=>obtain ⟨t',rfl⟩:=ry;exact PySem.EqNone.ne_none_str (aR I q (by simp))
  | _=>exact absurd (show false=true from hs) Gw
 | bl i=>
  cases rx
  cases y with
  | non=>cases ry;exact PySem.EqNone.ne_bool_none (aR I q (by simp))
  | bl j=>cases ry;exact ne_bool (aR I q (congrArg not rp))
  | str j=>obtain ⟨t',rfl⟩:=ry;exact PySem.EqMixed.ne_bool_str (aR I q (by simp))
  | _=>exact absurd (show false=true from hs) Gw
 | int i=>
  obtain ⟨t,rfl⟩:=rx
  cases y with
  | non=>cases ry;exact PySem.EqNone.ne_int_none (aR I q (by simp))
  | int j=>obtain ⟨t',rfl⟩:=ry;exact ne_int (aR I q (congrArg not n5))
  | str j=>obtain ⟨t',rfl⟩:=ry;exact PySem.EqMixed.ne_int_str (aR I q (by simp))
  | _=>exact absurd (show false=true from hs) Gw
 | str i=>
  obtain ⟨t,rfl⟩:=rx
  cases y with
  | non=>cases ry;exact PySem.EqNone.ne_str_none (aR I q (by simp))
  | bl j=>cases ry;exact PySem.EqMixed.ne_str_bool (aR I q (by simp))
  | int j=>obtain ⟨t',rfl⟩:=ry;exact PySem.EqMixed.ne_str_int (aR I q (by simp))
  | str j=>obtain ⟨t',rfl⟩:=ry;exact ne_str (aR I q (congrArg not n8))
  | _=>exact absurd (show false=true from hs) Gw
 | byt i=>
  obtain ⟨t,rfl⟩:=rx
  cases y with
  | byt j=>obtain ⟨t',rfl⟩:=ry;exact PySem.W.ne_bytes (aR I q (congrArg not n9))
  | _=>exact absurd (show false=true from hs) Gw
 | _=>cases y <;> exact absurd (show false=true from hs) Gw
theorem lq:OpR X (HS .Lt) (rI0 fun i j=>.bl (decide (i < j))):=vT fun _ _ _ _ _ _ _ q=>lt_int q
theorem oa:OpR X (HS .LtE) (rI0 fun i j=>.bl (decide (i<=j))):=vT fun _ _ _ _ _ _ _ q=>le_int q
theorem lr:OpR X (HS .Gt) (rI0 fun i j=>.bl (decide (j < i))):=vT fun _ _ _ _ _ _ _ q=>gt_int q
theorem Dd:OpR X (HS .GtE) (rI0 fun i j=>.bl (decide (j<=i))):=vT fun _ _ _ _ _ _ _ q=>ge_int q
theorem vV:OpR X (HS .IsNot) (fun x y H Q=>y=.non/\Q (.bl (!decide (x=.non))) H):=by
 intro pins s σ H x y v u Q I rx ry h
 obtain ⟨rfl,q⟩:=h
 cases ry
 refine isnot_none_gen (aR I q ?_)
 cases x <;> first
  | (cases rx;rfl)
  | (obtain ⟨t,rfl⟩:=rx;rfl)
theorem aO (b:Expr) {op:CmpOp} (h:op≠.In:=by decide) (h2:op≠.NotIn:=by decide):Jq op b=false:=by
 have e1:(op==CmpOp.In)=false:=by cases op <;> first | rfl | exact absurd rfl h
 have e2:(op==CmpOp.NotIn)=false:=by cases op <;> first | rfl | exact absurd rfl h2
 cases b <;> simp [Jq,e1,e2]
theorem vW {op:CmpOp} {r:R2} (ho:OpR X (HS op) r) (ha:PE X a ta) (hb:PE X b tb) (hm:Jq op b=false):PE X (.Compare a [op] [b] pos) (tOp r ta tb):=by
 intro pins s σ H Q I h
 exact wpAny_Compare1 (An ha hb I h fun v u s2 x y H2 I2 rx ry q=>ho pins s2 σ H2 x y v u Q I2 rx ry q) hm
noncomputable def oe (t:TE):TT:=fun σ H Q=>t σ H fun x H'=>∃k,x=.bl k/\Q k H'
theorem og {op:CmpOp} {r:R2} (ho:OpR X (HS op) r) (ha:PE X a ta) (hb:PE X b tb) (hm:Jq op b=false):PT X (.Compare a [op] [b] pos) (oe (tOp r ta tb)):=by
 intro pins s σ H Q I h
 refine wpAny_isTrue_Compare1 (thn (ha pins s σ H _ I h) fun v s1 ⟨x,H1,I1,r1,q1⟩=>thn (hb pins s1 σ H1 _ I1 q1) fun u s2 ⟨y,H2,I2,r2,q2⟩=>
  thn (ho pins s2 σ H2 x y v u _ I2 r1 r2 q2) fun c s3 ⟨z,H3,I3,r3,k,e,q3⟩=>?_) hm
 subst e
 cases r3
 exact IA ⟨H3,I3,q3⟩
noncomputable def mK (r r':R2) (ta tb tc:TE):TE:=fun σ H Q=>ta σ H fun x H1=>tb σ H1 fun y H2=>r x y H2 fun z H3=>∃k,z=.bl k /\
 (if k=true then tc σ H3 fun w' H4=>r' y w' H4 Q else Q (.bl false) H3)
theorem rq {op op':CmpOp} {r r':R2} (ho:OpR X (HS op) r) (ho':OpR X (HS op') r') (ha:PE X a ta) (hb:PE X b tb) (hc:PE X c tc)
  (hm:lastMarks [op,op'] [b,c]=false:=by with_unfolding_all rfl):PE X (.Compare a [op,op'] [b,c] pos) (mK r r' ta tb tc):=by
 intro pins s σ H Q I h
 refine Compare_chain (thn (ha pins s σ H _ I h) fun v s1 ⟨x,H1,I1,r1,q1⟩=>chain_link (thn (hb pins s1 σ H1 _ I1 q1) fun u s2 ⟨y,H2,I2,r2,q2⟩=>
  thn (ho pins s2 σ H2 x y v u _ I2 r1 r2 q2) fun d s3 ⟨z,H3,I3,r3,k,e,q3⟩=>?_)) hm
 subst e
 cases r3
 refine IA ?_
 cases k with
 | false=>exact ite_ff ⟨.bl false,H3,I3,rfl,q3⟩
 | true=>exact ite_tt (chain_last (thn (hc pins s3 σ H3 _ I3 q3) fun w' s4 zt1=>by obtain ⟨z',H4,I4,r4,q4⟩:=zt1;exact ho' pins s4 σ H4 y z' u w' Q I4 r2 r4 q4))
noncomputable def TruV (K:Gn) (x:V) (H:Hp) (k:Bool):Prop:=
 match x with
 | .non=>k=false
 | .bl b=>k=b
 | .int i=>k=(i != 0)
 | .str y=>y.length<=GZ/\k=((y.length:Int) != 0)
 | .byt y=>y.size<=GZ/\k=((y.size:Int) != 0)
 | .ref p=>(∃xs,SqL K H p xs/\k=!xs.isEmpty)\/(∃xs,SqT K H p xs/\k=!xs.isEmpty)\/∃kvs,H p=some (.dK kvs)/\k=!kvs.isEmpty
 | _=>False
theorem mL {κ:Type} {kvs:List (κ×V)} {vs:List (κ×Gs)} (r:KV kvs vs):(!vs.isEmpty)=!kvs.isEmpty:=by
 cases r <;> rfl
theorem iH {xs:List V} {its:List Gs} (r:Vals xs its):(!its.toArray.isEmpty)=!xs.isEmpty:=by
 cases r <;> simp
theorem fG:(GZ:Nat) < 2 ^ 63:=by rw [Hv];decide
theorem Aq:FS X (fun x H Q=>∃k,TruV X.K x H k/\Q k H):=by
 intro pins s σ H x v Q I rx h
 obtain ⟨k,e,q⟩:=h
 have hl:=fG
 have hs:GZ=16777216:=Hv
 cases x with
 | non=>
  cases rx
  have e':k=false:=e
  subst e'
  exact truthy_none ⟨H,I,q⟩
 | bl b=>
  cases rx
  have e':k=b:=e
  subst e'
  exact IA ⟨H,I,q⟩
 | int i=>
  obtain ⟨t,rfl⟩:=rx
  have e':k=(i != 0):=e
  subst e'
  exact PySem.P.truthy_int ⟨H,I,q⟩
 | str y=>
  obtain ⟨t,rfl⟩:=rx
  obtain ⟨hy,e'⟩:y.length<=GZ/\k=((y.length:Int) != 0):=e
  subst e'
  exact PySem.P.truthy_str (by omega) ⟨H,I.tok _,q⟩
 | byt y=>
  obtain ⟨t,rfl⟩:=rx
  obtain ⟨hy,e'⟩:y.size<=GZ/\k=((y.size:Int) != 0):=e
  subst e'
  exact PySem.W.truthy_bytes (by omega) ⟨H,I.tok _,q⟩
 | ref p=>
  cases rx
  have e':(∃xs,SqL X.K H p xs/\k=!xs.isEmpty)\/(∃xs,SqT X.K H p xs/\k=!xs.isEmpty)\/∃kvs,H p=some (.dK kvs)/\k=!kvs.isEmpty:=e
  rcases e' with ⟨xs,hx,e'⟩ | ⟨xs,hx,e'⟩ | ⟨kvs,hx,e'⟩
  ·subst e'
   obtain ⟨its,r,pl,hz⟩:=I.list hx
   have hlen:=r.length
   exact wpAny_truthy_list pl.isList (by simp only [GC];omega) ⟨H,I.tok _,by rw [iH r];exact q⟩
  ·subst e'
   obtain ⟨its,r,pl,hz⟩:=I.tuple hx
   have hlen:=r.length
   exact truthy_tuple pl (by simp only [GC];omega) ⟨H,I.tok _,by rw [iH r];exact q⟩
  ·subst e'
   obtain ⟨hz,hS,vs,r,m⟩:kvs.length<=GZ/\(p==Jo)=false/\∃vs,KV kvs vs/\s.heap.DictOf (jV X.prog X.w) p vs:=I.hok p _ hx
   have hlen:kvs.length=vs.length:=IM r
   exact wpAny_truthy_dict hS m (by omega) ⟨H,I.tok _,by rw [mL r];exact q⟩
 | _=>exact (show False from e).elim
theorem rA (ha:PE X a ta) (he:∀whole,Nd a X.env whole=(do let v <- whole;JA a.pos;Jj [v] (truthy v))) :
  PT X a (fun σ H Q=>ta σ H fun x H'=>∃k,TruV X.K x H' k/\Q k H'):=by
 intro pins s σ H Q I h
 exact isTrue_plain (thn (ha pins s σ H _ I h) fun v s1 zt1=>by obtain ⟨x,H1,I1,r1,q1⟩:=zt1;exact Aq pins s1 σ H1 x v Q I1 r1 q1) (he _)
theorem vals1 {x:V} {us:List Gs} (r:Vals [x] us):∃u,us=[u]/\RelV x u:=by
 cases r with
 | cons r1 r2=>cases r2;exact ⟨_,rfl,r1⟩
theorem vals2 {x y:V} {us:List Gs} (r:Vals [x,y] us):∃u w',us=[u,w']/\RelV x u/\RelV y w':=by
 cases r with
 | cons r1 r2=>
  cases r2 with
  | cons r3 r4=>cases r4;exact ⟨_,_,rfl,r1,r3⟩
theorem gw:cL X (.type "int") (fun xs H Q=>(∃i,xs=[.int i]/\Q (.int i) H)\/∃k,xs=[.bl k]/\Q (.int (if k then 1 else 0)) H):=by
 intro pins s σ H xs us Q I r h
 rcases h with ⟨i,rfl,q⟩ | ⟨k,rfl,q⟩
 ·obtain ⟨u,rfl,t,rfl⟩:=vals1 r
  exact call_int_int ⟨.int i,H,I,⟨_,rfl⟩,q⟩
 ·obtain ⟨u,rfl,r1⟩:=vals1 r
  cases r1
  exact call_int_bool ⟨.int (if k then 1 else 0),H,I.tok _,⟨_,rfl⟩,q⟩
end
end L2
namespace L2
open PySem PySem.Spec PyProof.Rows
structure ObjM (h:Heap) (x dx C:Addr) (mA:Str->Option Gs):Prop where
 obj:h.get? x=some (LH C dx)
 ns:h.Ns1 dx mA
 ne:dx≠x
theorem p9 {h:Heap} {dx:Addr} {mA:Str->Option Gs} (n:h.Ns1 dx mA):∃od,h.get? dx=some od/\∀name,Md name od=some (mA name):=by
 obtain ⟨o,es,ep,ho,hd,hk,_,hm⟩:=n
 refine ⟨o,ho,fun name=>?_⟩
 have e:=hm name
 unfold nsFind findBy at e
 rw [<- Array.find?_toList] at e
 unfold Md
 rw [hd]
 dsimp only
 split
 ·rename_i y q
  rw [q] at e
  exact congrArg some e
 ·rename_i q
  rw [q] at e
  have a:es.toList.any (·.refKey)=false:=by
   rw [List.any_eq_false]
   intro y hy
   obtain ⟨z,t,hkey⟩:=hk y (Array.mem_toList_iff.mp hy)
   simp [DictEntry.refKey,hkey]
  have a':¬ es.toList.any (·.refKey)=true:=by rw [a];exact Gw
  rw [if_neg a']
  exact congrArg some e
theorem ObjM.look {h:Heap} {x dx C:Addr} {mA:Str->Option Gs} (I:ObjM h x dx C mA):∃od,PySem.W.InstAt h x (LH C dx) C (some od)/\∀name,Md name od=some (mA name):=
 let ⟨od,ho,hl⟩:=p9 I.ns
 ⟨od,⟨I.obj,rfl,rfl,ho⟩,hl⟩
section
variable {P:G2} {w:HJ} {H H':Hp} {h h':Heap} {a C dx:Addr} {fs fs':List (Str×V)}
theorem vX (hok:HOk P w H h) (e:H a=some (.ins C dx fs)):∃mA,ObjM h a dx C mA/\(∀f,RelO (fs.lookup f) (mA f))/\PySem.Within mA (fs.map (·.1))/\fs.length<=1000/\H dx=some (.own a):=by
 obtain ⟨d,z,ne,ob,mA,n,r,q⟩:=(show bA P w H h a (.ins C dx fs) from hok a _ e)
 exact ⟨mA,⟨ob,n,ne⟩,r,q,z,d⟩
end
structure Cls (K:Gn) (C:Addr):Prop where
 pg:PySem.W.plainGet K C Str.empty=true
 hd:PySem.W.hasDictIn K C=true
 po:PySem.W.plainOver K C=true
 sa:PySem.W.findIn K (.ref C) "__setattr__"=some (some (.builtin "object.__setattr__"))
theorem Cls.get {K:Gn} {C:Addr} (c:Cls K C) (f:Str):PySem.W.plainGet K C f=true:=c.pg
section
variable {X:Cx} {pins:List (Addr×Obj)} {σ:St} {H:Hp} {s:Gv} {A:HQ} {E:Gs->Gv->Prop} {Q:Gs->Gv->Prop} {c:Gs} {b:Bool}
inductive gZ (K:Gn) (H:Hp):V->Gs->Prop where
 | non:gZ K H .non (.type "NoneType")
 | bl (x:Bool):gZ K H (.bl x) (.type "bool")
 | int (i:Int):gZ K H (.int i) (.type "int")
 | str (x:Str):gZ K H (.str x) (.type "str")
 | flt (x:UInt64):gZ K H (.flt x) (.type "float")
 | lst {a:Addr} {xs:List V} (e:H a=some (.lst xs)):gZ K H (.ref a) (.type "list")
 | frz {a:Addr} {o:Obj} {xs:List V} (e:H a=some (.frz o (.lst xs))):gZ K H (.ref a) (.type "list")
 | tup {a:Addr} {xs:List V} (e:H a=some (.tup xs)):gZ K H (.ref a) (.type "tuple")
 | dK {a:Addr} {kvs:List (Key×V)} (e:H a=some (.dK kvs)):gZ K H (.ref a) (.type "dict")
 | dT {a:Addr} {kvs:List (List Key×V)} (e:H a=some (.dT kvs)):gZ K H (.ref a) (.type "dict")
 | ins {a C dx:Addr} {fs:List (Str×V)} (e:H a=some (.ins C dx fs)) (cl:Cls K C) (ha:PySem.W.findIn K (.ref C) "__class__"=some (some (.builtin "object.__class__")))
   (hn:PySem.W.specialIn K (.builtin "object.__class__") "__get__"=some (some (.builtin "getset_descriptor.__get__"))) (htk:PySem.W.takesIn K (.builtin "object.__class__")=some true)
   (hm:PySem.W.mroIn K C (.type "object")=some true):gZ K H (.ref a) (.ref C)
theorem cQ {x:V} {u t:Gs} (I:Inv X pins σ H s) (rx:RelV x u) (ty:gZ X.K H x t) (e:Ik X.K t c=some b) (h:∀tk,Q (.bool b) { s with toks:=tk }) :
  Hj (Ha X.prog X.w) A (call (.builtin "isinstance") [u,c]) Q E s:=by
 cases ty with
 | non=>cases (show u=HD from rx);exact Hy PySem.W.kitx_none I.kIn Kx e (fun z=>nomatch z) h
 | bl y=>cases (show u=LZ y from rx);exact Hy PySem.W.kitx_bool I.kIn Kx e (fun z=>nomatch z) h
 | int i=>obtain ⟨t,q⟩:=(show ∃t,u=Kz i t from rx);cases q;exact Hy PySem.W.kitx_int I.kIn Kx e (fun z=>nomatch z) h
 | str y=>obtain ⟨t,q⟩:=(show ∃t,u=Np y t from rx);cases q;exact Hy PySem.W.kitx_str I.kIn Kx e (fun z=>nomatch z) h
 | flt y=>obtain ⟨t,q⟩:=(show ∃t,u=Value.float y t from rx);cases q;exact Hy PySem.W.kitx_float I.kIn Kx e (fun z=>nomatch z) h
 | @lst a xs ea=>
  cases (show u=Hf a from rx)
  obtain ⟨_,_,n,_,h1⟩:=(show bA X.prog X.w H s.heap a (.lst xs) from I.hok a _ ea)
  exact Hy Lb I.kIn ⟨_,h1,rfl⟩ e (fun z=>nomatch z) h
 | @frz a ob xs ea=>
  cases (show u=Hf a from rx)
  obtain ⟨_,_,_,n,_,h1⟩:=(show bA X.prog X.w H s.heap a (.frz ob (.lst xs)) from I.hok a _ ea)
  exact Hy Lb I.kIn ⟨_,h1,rfl⟩ e (fun z=>nomatch z) h
 | @tup a xs ea=>
  cases (show u=Hf a from rx)
  obtain ⟨_,_,_,p⟩:=(show bA X.prog X.w H s.heap a (.tup xs) from I.hok a _ ea)
  obtain ⟨o,h1,h2,_⟩:=p
  exact Hy MA I.kIn ⟨o,h1,h2⟩ e (fun z=>nomatch z) h
 | @dK a kvs ea=>
  cases (show u=Hf a from rx)
  obtain ⟨_,_,vs,_,p⟩:=(show bA X.prog X.w H s.heap a (.dK kvs) from I.hok a _ ea)
  obtain ⟨o,es,ep,h1,h2,_⟩:=p
  exact Hy Lc I.kIn ⟨o,h1,h2.1⟩ e (fun z=>nomatch z) h
 | @dT a kvs ea=>
  cases (show u=Hf a from rx)
  obtain ⟨_,_,xs,_,o,es,ep,h1,h2,_⟩:=(show bA X.prog X.w H s.heap a (.dT kvs) from I.hok a _ ea)
  exact Hy Lc I.kIn ⟨o,h1,h2.1⟩ e (fun z=>nomatch z) h
 | @ins a C dx fs ea cl ha hn htk hm=>
  cases (show u=Hf a from rx)
  obtain ⟨mA,O,_⟩:=vX I.hok ea
  obtain ⟨od,J,_⟩:=O.look
  exact Hy (PySem.W.kitx_own (cl.get _) cl.hd ha hn htk hm) I.kIn J e (fun z=>nomatch z) h
end
end L2
namespace L2
open PySem PySem.Spec PyProof.Rows
structure ck (k:Nat) (A:HQ):Prop where
 hd:A.handled=none
 dp:A.depth+3*k+5 < recursionLimit
 un:A.units+16*k+200 < Jt
 gd:A.guards=some []
theorem ck.mono {j k:Nat} {A:HQ} (r:ck k A) (h:j<=k):ck j A:=⟨r.hd,by have:=r.dp;omega,by have:=r.un;omega,r.gd⟩
theorem ck.deeper {k:Nat} {A:HQ} (r:ck (k+1) A) (env:Env):ck k (A.deeper env):=
 ⟨r.hd,by have:=r.dp;show A.depth+1+3*k+5 < _;omega,by have:=r.un;show A.units+3+16*k+200 < _;omega,r.gd⟩
theorem ck.depth {k:Nat} {A:HQ} (r:ck k A):A.depth < recursionLimit:=by have:=r.dp;omega
theorem ck.units {k:Nat} {A:HQ} (r:ck k A):A.units+64 < Jt:=by have:=r.un;omega
noncomputable def jZ:TA:=fun _ H Q=>Q [] H
noncomputable def ez (ta:TE) (tr:TA):TA:=fun σ H Q=>ta σ H fun x H1=>tr σ H1 fun xs H2=>Q (x::xs) H2
section
variable {X:Cx} {e:Expr} {es:List Expr} {te:TE} {t:TA} {pos:Pos}
theorem gA:PA X [] jZ:=fun _ _ _ _ H Q I h=>MQ ⟨[],H,I,.nil,h⟩
theorem cZ (ha:PE X e te) (hr:PA X es t) (hs:GM (e::es) X.env=(false,eval e X.env)::GM es X.env:=by rfl):PA X (e::es) (ez te t):=by
 intro pos pins s σ H Q I h
 rw [hs]
 show Hj _ _ (spliced ((false,eval e X.env)::JF pos (GM es X.env))) _ _ s
 refine MB (thn (ha pins s σ H _ I h) fun u s1 zr1=>?_)
 obtain ⟨x,H1,I1,r1,q1⟩:=zr1
 exact thn (hr pos pins s1 σ H1 _ I1 q1) fun us s2 zt1=>by obtain ⟨xs,H2,I2,r2,q2⟩:=zt1;exact ⟨x::xs,H2,I2,.cons r1 r2,q2⟩
noncomputable def Ar (t:TA):TE:=fun σ H Q=>t σ H fun xs H1=>xs.length<=GZ/\∀p,H1 p=none->Q (.ref p) (upd H1 p (.tup xs))
noncomputable def As (t:TA):TE:=fun σ H Q=>t σ H fun xs H1=>xs.length<=GZ/\∀p,H1 p=none->Q (.ref p) (upd H1 p (.lst xs))
theorem rB {x1} (h:PA X es t):PE X (.Tuple es x1 pos) (Ar t):=by
 intro pins s σ H Q I hq
 refine wpAny_Tuple_spliced (thn (h pos pins s σ H _ I hq) fun us s1 ⟨xs,H1,I1,r,z,q⟩=>⟨by rw [<- r.length];exact z,?_⟩)
 have hf:H1 s1.heap.objs.size=none:=I1.hok.fresh (Gz _)
 refine ⟨.ref s1.heap.objs.size,upd H1 s1.heap.objs.size (.tup xs),I1.laid (t':=s1.toks) (fun b u e=>Gu _ e) (Gz _) ?_,rfl,q _ hf⟩
 exact ⟨z,us,r,⟨_,GQ _ rfl,rfl,_,rfl⟩⟩
theorem rC (h:PA X es t):PE X (.List es pos) (As t):=by
 intro pins s σ H Q I hq
 refine wpAny_List_spliced (thn (h pos pins s σ H _ I hq) fun us s1 ⟨xs,H1,I1,r,z,q⟩=>⟨by rw [<- r.length];exact z,?_⟩)
 have hf:H1 s1.heap.objs.size=none:=I1.hok.fresh (Gz _)
 refine ⟨.ref s1.heap.objs.size,upd H1 s1.heap.objs.size (.lst xs),I1.laid (t':=s1.toks) (fun b u e=>Gu _ e) (Gz _) ?_,rfl,q _ hf⟩
 exact ⟨z,us,0,r,GQ _ rfl⟩
end
noncomputable abbrev Sp:=List V->Hp->VK->XK->Prop
noncomputable abbrev CXT:=List Env->Hp->Gv->XK->Gs->Gv->Prop
structure Env0 (P:G2) (w:HJ) (K:Gn) (mg:Str->Option Gs) (base:Heap) (A:HQ) (outer:List Env) (s:Gv) (H:Hp):Prop where
 frames:A.frames=some outer
 mod:Mod K mg base
 bs:∀b o,base.get? b=some o->s.heap.get? b=some o/\H b=none
 bsz:base.objs.size<=s.heap.objs.size
 funs:s.heap.FunFrames base outer
 frf:∀b∈frs outer,H b=none
 hok:HOk P w H s.heap
 bare:KZ s.gens
noncomputable def CE (outer:List Env) (P:G2) (w:HJ) (H:Hp) (s:Gv) (Q:VK) (u:Gs) (s':Gv):Prop:=
 ∃v H',s'.os=s.os/\KZ s'.gens/\Un (frs outer) [] H H' s.heap s'.heap/\HOk P w H' s'.heap/\RelV v u/\Q v H'
noncomputable def CR (CX:CXT) (outer:List Env) (P:G2) (w:HJ) (H:Hp) (s:Gv) (Q:VK) (E:XK) (r:NS) (s':Gv):Prop:=
 match r with
 | .ok (.ret u)=>CE outer P w H s Q u s'
 | .ok _=>False
 | .error e=>CX outer H s E e s'
structure iI (P:G2) (w:HJ) (K:Gn) (mg:Str->Option Gs) (base:Heap) (CX:CXT) (k:Nat) (f:Addr) (fd:IU) (ps:List Str) (sp:Sp):Prop where
 len:∀vs H Q E,sp vs H Q E->vs.length=ps.length
 run:∀(A:HQ) (outer:List Env) (s:Gv) (H:Hp) (args:Args) (us:List Gs) (vs:List V) (Q:VK) (E:XK),ck k A->Env0 P w K mg base A outer s H->MR s fd args (ps.zip us)->Vals vs us->sp vs H Q E ->
  JB (Ha P w) A (.call (.ref f) args) (CR CX outer P w H s Q E) s
section
variable {X:Cx} {pins:List (Addr×Obj)} {σ:St} {H:Hp} {s s':Gv}
theorem Inv.env0 (I:Inv X pins σ H s):Env0 X.prog X.w X.K X.mg X.base X.A X.stack s H:=
 ⟨I.ok.frames,I.ok.mod,I.bs,HY I.ok.bsz I.sz,I.stack,I.stkFree,I.hok,I.bare⟩
theorem Inv.after {Q:VK} {u:Gs} (I:Inv X pins σ H s) (h:CE X.stack X.prog X.w H s Q u s'):EP X pins σ Q u s':=by
 obtain ⟨v,H',os,bare,un,hok,r,q⟩:=h
 obtain ⟨hh,g,d,t,os'⟩:=s'
 obtain rfl:os'=s.os:=os
 exact ⟨v,H',I.call (h':=hh) (g':=g) (d':=d) (t':=t) (ch:=[]) un hok bare (fun b z=>absurd z (by simp)),r,q⟩
end
noncomputable def gS (sp:Sp) (dvs:List V) (E:XK) (t:TA):TE:=fun σ H Q=>t σ H fun vs H1=>sp (vs++dvs) H1 Q E
noncomputable def Binds (K:Gn) (fd:IU) (ps:List Str) (ds:List Gs):Prop:=
 ∀(s:Gv) (us:List Gs),K.In s.heap->(us++ds).length=ps.length->MR s fd ⟨us,[]⟩ (ps.zip (us++ds))
theorem Binds.all {K:Gn} {fd:IU} {ps:List Str} (h:∀us:List Gs,us.length=ps.length->Lo fd ⟨us,[]⟩=pure (ps.zip us)):Binds K fd ps []:=fun s us _ hl=>by
 rw [Ia] at hl ⊢
 exact .of_eq (h us hl)
noncomputable def mM (CX:CXT) (X:Cx) (E:XK):Prop:=∀(pins:List (Addr×Obj)) (σ:St) (H:Hp) (s:Gv) (e:Gs) (s':Gv),Inv X pins σ H s->CX X.stack H s E e s'->X.xe e s'
section
variable {X:Cx} {CX:CXT} {k:Nat} {f C:Addr} {fd:IU} {ps:List Str} {sp:Sp} {dvs:List V} {ds:List Gs} {E:XK} {x m:Str} {p pos apos:Pos} {e o:Expr} {es:List Expr} {ta:TE} {t:TA}
theorem Au {pins:List (Addr×Obj)} {σ:St} {H:Hp} {s:Gv} {Q:VK} {us:List Gs} {vs:List V} (F:iI X.prog X.w X.K X.mg X.base CX k f fd ps sp) (hr:ck k X.A) (hb:Binds X.K fd ps ds) (hd:Vals dvs ds) (hx:mM CX X E)
  (I:Inv X pins σ H s) (r:Vals vs us) (h:sp (vs++dvs) H Q E):Hj (Ha X.prog X.w) X.A (call (.ref f) us) (EP X pins σ Q) X.xe s:=by
 have r2:Vals (vs++dvs) (us++ds):=r.append hd
 have hl:(us++ds).length=ps.length:=by rw [<- r2.length];exact F.len _ _ _ _ h
 refine NH (Ng (F.run X.A X.stack s H ⟨us,[]⟩ (us++ds) (vs++dvs) Q E hr I.env0 (hb s us I.kIn hl) r2 h) fun r s' hq=>?_)
 cases r with
 | error e=>exact hx pins σ H s e s' I hq
 | ok fl=>
  cases fl with
  | ret u=>exact I.after hq
  | next=>exact Jp hq
  | brk=>exact Jp hq
  | cont=>exact Jp hq
theorem j4 (F:iI X.prog X.w X.K X.mg X.base CX k f fd ps sp) (hr:ck k X.A) (hg:Gl X x) (hm:X.mg x=some (.ref f)) (hk:Jw X.K (.ref f)=true) (hb:Binds X.K fd ps ds) (hd:Vals dvs ds) (hx:mM CX X E)
  (ha:PA X (e::es) t) (hdb:(x==("__debug__":Str))=false:=by decide) (he:GM (e::es) X.env=(false,eval e X.env)::GM es X.env:=by rfl) (hpl:(JF pos (GM es X.env)).any (·.1)=false:=by rfl) :
  PE X (.Call (.Name x p) (e::es) [] pos) (gS sp dvs E t):=by
 intro pins s σ H Q I h
 refine KR (hU I hg hm ?_ hdb)
 refine PySem.W.callWith_K (h₀:=X.base) I.ok.mod.kin hk (thn (ha pos pins s σ H _ I h) fun us s1 ⟨vs,H1,I1,r,q⟩=>⟨I1.kIn,?_⟩) he hpl
 exact Au F hr hb hd hx I1 r q
end
structure aE (N P:List Str) (sc:Jz):Prop where
 kind:sc.kind=.function
 co:sc.isCoroutine=false
 gen:sc.isGenerator=false
 nd:N.Nodup
 pre:N.take P.length=P
 par:∀x∈P,sc.names.lookup x=some .local\/sc.names.lookup x=some .cell
 nofree:∀y∈sc.names,y.2≠.free
theorem jv {kindOf:Str->Option IQ} {x:Str}:∀{binds:List (Str×Gs)} {m:Str->Option Gs},(∀v,(x,v)∉binds)->NV kindOf binds m x=m x
 | [],_,_=>rfl
 | (n,v)::r,m,h=>by
  unfold NV
  rw [jv fun w hw=>h w (GU _ hw)]
  split
  ·have:x≠n:=by rintro rfl;exact h v GG
   simp [this]
  ·rfl
theorem jw {kindOf:Str->Option IQ} {x:Str}:∀{binds:List (Str×Gs)} {m:Str->Option Gs},(∀v,(x,v)∉binds)->NW kindOf binds m x=m x
 | [],_,_=>rfl
 | (n,v)::r,m,h=>by
  unfold NW
  rw [jw fun w hw=>h w (GU _ hw)]
  split
  ·rfl
  ·have:x≠n:=by rintro rfl;exact h v GG
   simp [this]
theorem jx {kindOf:Str->Option IQ} {x:Str} {v:Gs}:∀{P:List Str} {vs:List Gs} {i:Nat} {m:Str->Option Gs},P.Nodup->P[i]?=some x->vs[i]?=some v->kindOf x=some .local ->
  NV kindOf (P.zip vs) m x=some v
 | [],_,_,_,_,h,_,_=>by simp at h
 | _::_,[],_,_,_,_,h,_=>by simp at h
 | p::P,w::vs,0,m,nd,h1,h2,hk=>by
  simp at h1 h2;subst h1;subst h2
  show NV kindOf ((p,w)::P.zip vs) m p=_
  unfold NV
  rw [jv fun v hv=>(List.nodup_cons.mp nd).1 (LK hv).1,if_pos hk]
  simp
 | p::P,w::vs,i+1,m,nd,h1,h2,hk=>by
  show NV kindOf ((p,w)::P.zip vs) m x=_
  unfold NV
  exact jx (i:=i) (List.nodup_cons.mp nd).2 (by simpa using h1) (by simpa using h2) hk
theorem jy {kindOf:Str->Option IQ} {x:Str} {v:Gs}:∀{P:List Str} {vs:List Gs} {i:Nat} {m:Str->Option Gs},P.Nodup->P[i]?=some x->vs[i]?=some v->kindOf x≠some .local ->
  NW kindOf (P.zip vs) m x=some v
 | [],_,_,_,_,h,_,_=>by simp at h
 | _::_,[],_,_,_,_,h,_=>by simp at h
 | p::P,w::vs,0,m,nd,h1,h2,hk=>by
  simp at h1 h2;subst h1;subst h2
  show NW kindOf ((p,w)::P.zip vs) m p=_
  unfold NW
  rw [jw fun v hv=>(List.nodup_cons.mp nd).1 (LK hv).1,if_neg hk]
  simp
 | p::P,w::vs,i+1,m,nd,h1,h2,hk=>by
  show NW kindOf ((p,w)::P.zip vs) m x=_
  unfold NW
  exact jy (i:=i) (List.nodup_cons.mp nd).2 (by simpa using h1) (by simpa using h2) hk
noncomputable def start (N:List Str) (vs:List V):St:=vs.map some++He (N.length-vs.length) none
noncomputable def gB (CX:CXT) (P:G2) (w:HJ) (K:Gn) (mg:Str->Option Gs) (base:Heap) (N:List Str) (qual:Str) (scope:Jz) (f:Addr) (cd:Gs) (A:HQ) (outer:List Env) (s:Gv) (H:Hp) (E:XK):Cx where
 prog:=P
 w:=w
 K:=K
 mg:=mg
 base:=base
 A:=A.deeper (envOfC qual scope s.heap.objs.size f cd)
 N:=N
 s₀:=s
 H₀:=H
 env:=envOfC qual scope s.heap.objs.size f cd
 outer:=outer
 stack:=envOfC qual scope s.heap.objs.size f cd::outer
 ex:=[]
 calm:=true
 fn:=fun _=>true
 pn:=[]
 xe:=fun e s'=>Hj (Ha P w) (A.deeper (envOfC qual scope s.heap.objs.size f cd)) (leaving (envOfC qual scope s.heap.objs.size f cd) e) (fun _ s''=>CX outer H s E e s'') (fun e' s''=>CX outer H s E e' s'') s'
theorem lu {sc:Jz} {n:Nat} {x:Str} (h:sc.names.lookup x=some .cell):∃c,(cellsFrom n sc.names []).lookup x=some c:=by
 have q:=LB sc.names n [] (.inl h)
 exact Option.isSome_iff_exists.mp q
theorem qa {CX:CXT} {P:G2} {w:HJ} {K:Gn} {mg:Str->Option Gs} {base:Heap} {N ps:List Str} {qual:Str} {scope:Jz} {f:Addr} {cd:Gs} {A:HQ} {outer:List Env} {s s1:Gv} {H:Hp} {E:XK} {us:List Gs} {vs:List V}
  (S:aE N ps scope) (hd:A.handled=none) (e0:Env0 P w K mg base A outer s H) (hl:vs.length=ps.length) (r:Vals vs us)
  (x:InCallC s s.heap.objs.size (NV (envOfC qual scope s.heap.objs.size f cd).kindOf (ps.zip us) fun _=>none) (cellsFrom (s.heap.objs.size+1) scope.names []) (NW (envOfC qual scope s.heap.objs.size f cd).kindOf (ps.zip us) fun _=>none) s1) :
  Inv (gB CX P w K mg base N qual scope f cd A outer s H E) [] (start N vs) H s1:=by
 have hpl:ps.length<=N.length:=by have:=congrArg IS S.pre;rw [Ie] at this;omega
 obtain ⟨h1,tk,rfl,hk⟩:=x.done
 have noA:∀b:Addr,b∉(gB CX P w K mg base N qual scope f cd A outer s H E).ex:=fun b z=>absurd (show b∈([]:List Addr) from z) (by simp)
 refine ⟨⟨e0.mod,S.kind,rfl,rfl,Gz _,fun y z c h1 h2=>?_,fun y hy=>?_,fun y c _ h=>?_,fun _=>hd,Around.frames_deeper e0.frames,.inr ⟨rfl,rfl⟩,fun b z=>absurd z (noA b),e0.bs,e0.bsz,fun b _ _=>noA b,fun b z=>absurd z (noA b),e0.funs,e0.frf⟩,
  rfl,e0.bare,Un.kept hk,⟨_,x.toInCall.ns,fun i y v h1 h2 h3=>?_⟩,fun y c h=>⟨_,x.cell y c h⟩,e0.hok.fresh (Gz _),fun y c h=>?_,fun p hp=>absurd (show p∈([]:List (Addr×Obj)) from hp) (by simp),e0.hok.kept hk,?_⟩
 ·exact name_of_addr x.apart (HF h1) (HF h2)
 ·have hy:scope.names.lookup y=some .cell\/scope.names.lookup y=some .free:=hy
  rcases hy with hy | hy
  ·exact lu hy
  ·exact absurd rfl (S.nofree _ (HF hy))
 ·exact LI (x.above y c (HF h))
 ·have hi:i < vs.length:=by
   unfold start at h2
   by_cases hi:i < vs.length
   ·exact hi
   ·rw [GN (by simpa using hi)] at h2
    rw [JN] at h2
    split at h2 <;> cases h2
  have ha:vs[i]?=some v:=by
   unfold start at h2
   rw [GY (by simpa using hi),GH] at h2
   cases e:vs[i]? with
   | none=>rw [e] at h2;cases h2
   | some a=>rw [e] at h2;cases h2;rfl
  obtain ⟨u,hu,rv⟩:=r.get ha
  have hp:ps[i]?=some y:=by
   rw [<- S.pre,List.getElem?_take_of_lt (by omega)];exact h1
  have ndP:ps.Nodup:=by rw [<- S.pre];exact S.nd.sublist (J3 _ _)
  refine ⟨u,rv,?_⟩
  rcases S.par y (HR hp) with k | k
  ·exact .inl ⟨k,jx ndP hp hu k⟩
  ·obtain ⟨c,e⟩:=lu (n:=s.heap.objs.size+1) k
   refine .inr ⟨.inl k,c,e,?_⟩
   have q:=x.cell y c e
   rw [jy ndP hp hu (by show scope.names.lookup y≠_;rw [k];decide)] at q
   exact q
 ·exact e0.hok.fresh (LI (x.above y c (HF h)))
 ·unfold start
  show _=N.length
  rw [G6,Gx,Jl]
  omega
theorem yL {CX:CXT} {P:G2} {w:HJ} {K:Gn} {mg:Str->Option Gs} {base:Heap} {k:Nat} {f:Addr} {name qual:Str} {params:Arguments} {body:List Stmt} {scope:Jz} {dV kV doc pm cdv ct oc:Gs} {an od:Option Addr}
  {osl:Array (Option Gs)} {N ps:List Str} {sp:Sp} (lk:K.lookup f=some ⟨oc,od,.func (Iq name qual params body scope dV kV doc pm an cdv ct),osl⟩) (hcd:K0 K cdv qual=true) (S:aE N ps scope)
  (len:∀vs H Q E,sp vs H Q E->vs.length=ps.length)
  (hbody:∀(A:HQ) (outer:List Env) (s:Gv) (H:Hp) (vs:List V) (Q:VK) (E:XK),ck k (A.deeper (envOfC qual scope s.heap.objs.size f cdv))->sp vs H Q E ->
   ∃t,PSs (gB CX P w K mg base N qual scope f cdv A outer s H E) body t/\t { nx:=fun _ H'=>Q .non H',rt:=Q } (start N vs) H) :
  iI P w K mg base CX (k+1) f (Iq name qual params body scope dV kV doc pm an cdv ct) ps sp:=by
 refine ⟨len,fun A outer s H args us vs Q E hr e0 hb r hsp=>?_⟩
 have hl:=len _ _ _ _ hsp
 have KX:K.In s.heap:=e0.mod.kin.keeps fun b o e=>(e0.bs b o e).1
 have lim:s.heap.NoLimit:=e0.mod.nolimit.keeps fun b o e=>(e0.bs b o e).1
 have hkind:∀y∈ps.zip us,scope.names.lookup y.1=some .local\/(scope.names.lookup y.1=some .cell/\((cellsFrom (s.heap.objs.size+1) scope.names []).lookup y.1).isSome=true):=fun ⟨n,v⟩ hy=>by
  rcases S.par n (LK hy).1 with q | q
  ·exact .inl q
  ·exact .inr ⟨q,LB _ _ _ (.inl q)⟩
 refine codeAny_call_function hr.depth (KX _ _ lk) rfl S.co S.gen rfl (PySem.W.codeRec_of KX hcd) (hb _ _ _ _ ?_)
 refine wpAny_newFunctionEnv_cells S.kind hkind fun env he s1 x=>?_
 subst he
 refine ⟨lim.keeps x.toInCall.keep,codeAny_func ?_⟩
 obtain ⟨t,ht,hq⟩:=hbody A outer s H vs Q E (hr.deeper _) hsp
 have I:Inv (gB CX P w K mg base N qual scope f cdv A outer s H E) [] (start N vs) H s1:=qa S hr.hd e0 hl r x
 refine G9 (ht [] s1 (start N vs) H _ I hq) (fun fl s' hs=>?_) fun e s' hs=>hs
 have fin:∀{σ':St} {H':Hp} {v:V} {u:Gs},Inv (gB CX P w K mg base N qual scope f cdv A outer s H E) [] σ' H' s'->RelV v u->Q v H'->CE outer P w H s Q u s':=
  fun {σ' H' v u} J rv q=>⟨v,H',J.os,J.bare,J.base,J.hok,rv,q⟩
 cases fl with
 | ret u=>
  obtain ⟨v,σ',H',J,rv,q⟩:=hs
  exact fin J rv q
 | next=>
  obtain ⟨σ',H',J,q⟩:=hs
  exact fin (v:=V.non) (u:=HD) J rfl q
 | brk=>
  obtain ⟨_,_,_,q⟩:=hs
  exact Jp q
 | cont=>
  obtain ⟨_,_,_,q⟩:=hs
  exact Jp q
end L2
namespace L2
open PySem PySem.Spec PyProof.Rows
section
variable {X:Cx} {x:Str} {p pos:Pos} {e:Expr} {es:List Expr} {t:TA} {id T:String} {r:List V->Hp->VK->Prop}
noncomputable def tCB (r:List V->Hp->VK->Prop) (t:TA):TE:=fun σ H Q=>t σ H fun vs H1=>r vs H1 Q
theorem eE (hc:cL X (.builtin id) r) (hg:Gl X x) (hm:X.mg x=none) (hv:HP x=some (.builtin id)) (ha:PA X (e::es) t) (hn:x≠"__name__":=by decide) (hdb:(x==("__debug__":Str))=false:=by decide)
  (he:GM (e::es) X.env=(false,eval e X.env)::GM es X.env:=by rfl) (hpl:(JF pos (GM es X.env)).any (·.1)=false:=by rfl):PE X (.Call (.Name x p) (e::es) [] pos) (tCB r t):=by
 intro pins s σ H Q I h
 refine KR (iF I hg hm hv ?_ hn hdb)
 exact PyProof.Rows.callWith_builtin1 (thn (ha pos pins s σ H _ I h) fun us s1 zt1=>by obtain ⟨vs,H1,I1,r1,q1⟩:=zt1;exact hc pins s1 σ H1 vs us Q I1 r1 q1) he hpl
theorem gC (hc:cL X (.type T) r) (hg:Gl X x) (hm:X.mg x=none) (hv:HP x=some (.type T)) (ha:PA X (e::es) t) (hn:x≠"__name__":=by decide) (hdb:(x==("__debug__":Str))=false:=by decide)
  (he:GM (e::es) X.env=(false,eval e X.env)::GM es X.env:=by rfl) (hpl:(JF pos (GM es X.env)).any (·.1)=false:=by rfl):PE X (.Call (.Name x p) (e::es) [] pos) (tCB r t):=by
 intro pins s σ H Q I h
 refine KR (iF I hg hm hv ?_ hn hdb)
 exact Jk (thn (ha pos pins s σ H _ I h) fun us s1 zt1=>by obtain ⟨vs,H1,I1,r1,q1⟩:=zt1;exact hc pins s1 σ H1 vs us Q I1 r1 q1) he hpl
end
end L2
namespace HT
open PySem PyProof.Rows
noncomputable def lexLt:List Int->List Int->Bool
 | [],[]=>false
 | [],_::_=>true
 | _::_,[]=>false
 | x::xs,y::ys=>if x=y then lexLt xs ys else decide (x < y)
theorem bH (x y:Int) (xs ys:List Int):lexLt (x::xs) (y::ys)=if x=y then lexLt xs ys else decide (x < y):=rfl
section
variable {prog:G2} {w:HJ} {A:HQ} {E:Gs->Gv->Prop} {s:Gv}
theorem vY {t b:Addr} {vs ws:List Gs} {Q:Gs->Gv->Prop} (ht:NU s.heap t vs.toArray) (hb:NU s.heap b ws.toArray) (hv:vs≠[])
  (h1:ws=[]->Q (.ref t) s) (h2:ws≠[]->Q (.ref s.heap.objs.size) { s with heap:=s.heap.push { cls:=.type "tuple",data:=.seq (vs++ws).toArray } })
  (hsz:vs.length+ws.length<=GZ):Hj (Ha prog w) A (IP .Add (.ref t) (.ref b)) Q E s:=by
 obtain ⟨⟨cls,dd,data,sl⟩,ho,hc,n,hd⟩:=id ht
 obtain ⟨⟨cls2,dd2,data2,sl2⟩,ho2,hc2,n2,hd2⟩:=id hb
 simp only at hc hd hc2 hd2
 subst hc hd hc2 hd2
 have e:vs.toArray++ws.toArray=(vs++ws).toArray:=by simp
 by_cases hw:ws=[]
 ·exact KS ⟨_,ho,rfl⟩ ⟨_,ho2,rfl⟩ Ly MC JX JO (JG _ _)
   (tuple_addW1 t b vs.toArray ws.toArray n n2 dd dd2 sl sl2 (by simpa using hv) (by simp [hw])) ⟨ho,ho2,h1 hw⟩
 ·refine KS ⟨_,ho,rfl⟩ ⟨_,ho2,rfl⟩ Ly MC JX JO (JG _ _)
   (tuple_addW2 t b vs.toArray ws.toArray n n2 dd dd2 sl sl2 (by simpa using hv) (by simpa using hw) (by rw [GC,GC];exact hsz)) ⟨ho,ho2,?_⟩
  rw [e]
  exact h2 hw
noncomputable def sIx (n d:Nat):Option Int->Nat
 | none=>d
 | some v=>if v < 0 then (v+(n:Int)).toNat else min v.toNat n
theorem lw (n d:Nat):sIx n d none=d:=rfl
theorem oh (n d k:Nat):sIx n d (some (k:Int))=min k n:=by
 show (if (k:Int) < 0 then ((k:Int)+(n:Int)).toNat else min (k:Int).toNat n)=min k n
 rw [if_neg (by omega),J4]
theorem Av (n d:Nat) (hd:d<=n) (o:Option Int):sIx n d o<=n:=by
 cases o with
 | none=>exact hd
 | some v=>
  show (if v < 0 then (v+(n:Int)).toNat else min v.toNat n)<=n
  by_cases hv:v < 0
  ·rw [if_pos hv];omega
  ·rw [if_neg hv];exact Nat.min_le_right _ _
theorem oi (v:Int) (n d:Nat):(if v < 0 then max (v+(n:Int)) 0 else min v (n:Int))=((sIx n d (some v):Nat):Int):=by
 show (if v < 0 then max (v+(n:Int)) 0 else min v (n:Int))=(((if v < 0 then (v+(n:Int)).toNat else min v.toNat n):Nat):Int)
 by_cases hv:v < 0
 ·simp only [if_pos hv];omega
 ·simp only [if_neg hv];omega
theorem mO (lo hi:Option Int) (n:Nat):Jx lo hi 1 (n:Int)=(((sIx n 0 lo:Nat):Int),((sIx n n hi:Nat):Int)):=by
 have h1:¬ ((1:Int) < 0):=by omega
 unfold Jx
 simp only [h1,if_false]
 refine Prod.ext ?_ ?_
 ·cases lo with
  | none=>rfl
  | some v=>exact oi v n 0
 ·cases hi with
  | none=>rfl
  | some v=>exact oi v n n
theorem mP (i j:Nat):IT (i:Int) (j:Int) 1=j-i:=by
 unfold IT
 have h1:(1:Int) > 0:=by omega
 simp only [h1,if_true,Int.ediv_one]
 split <;> omega
theorem iJ {v:Gs} {o:Option Int} {Q:Option Int->Gv->Prop} (p:Nt v o) (h:Q o s):Hj (Ha prog w) A (Builtin.Slice.slicePartIndex v) Q E s:=by
 cases p with
 | none=>exact slicePart_none h
 | int i t=>exact slicePart_int h
theorem gE {sl:Addr} {vl vu:Gs} {lo hi:Option Int} {n:Nat} {Q:Int×Int×Nat->Gv->Prop} (hs:s.heap.IsSliceOf sl vl vu .none) (pl:Nt vl lo) (pu:Nt vu hi)
  (h:Q (((sIx n 0 lo:Nat):Int),1,sIx n n hi-sIx n 0 lo) s):Hj (Ha prog w) A (KP (.ref sl) (pure (n:Int))) Q E s:=by
 obtain ⟨os,hos,hcs,hds⟩:=id hs
 unfold KP Builtin.Slice.sliceFields
 refine Gp (Gp (J5 hos hds (x:=vl) rfl (Gp (J5 hos hds (x:=vu) rfl (Gp (J5 hos hds (x:=.none) rfl (GA ?_)))))))
 refine Gp (slicePart_none ?_)
 show Hj _ _ (if ((1:Int)==0)=true then _ else _) _ _ s
 rw [if_neg (by decide)]
 refine Gp (iJ pl (Gp (iJ pu (Gp (GA ?_)))))
 show Hj _ _ (match Jx lo hi 1 (n:Int) with | (lo,hi)=>pure (lo,(1:Int),IT lo hi 1)) _ _ s
 rw [mO lo hi n]
 show Hj _ _ (pure (((sIx n 0 lo:Nat):Int),(1:Int),IT ((sIx n 0 lo:Nat):Int) ((sIx n n hi:Nat):Int) 1)) _ _ s
 rw [mP]
 exact GA h
theorem rD (xs:Array Gs) (i k:Nat):((G1 k).filterMap fun (m:Nat)=>xs[((i:Int)+(m:Int)*1).toNat]?).toArray=((xs.toList.drop i).take k).toArray:=by
 have e:(fun (m:Nat)=>xs[((i:Int)+(m:Int)*1).toNat]?)=fun m=>xs[i+m]?:=by
  funext m
  have:((i:Int)+(m:Int)*1).toNat=i+m:=by omega
  rw [this]
 rw [e]
 have:=pick_run xs i k
 rw [List.filterMap_map] at this
 have e2:((fun x=>xs[x]?) ∘ fun x=>i+x)=fun m=>xs[i+m]?:=rfl
 rw [e2] at this
 rw [this]
theorem fS {t sl:Addr} {items:Array Gs} {vl vu:Gs} {lo hi:Option Int} {Q:Gs->Gv->Prop} (ht:NU s.heap t items) (hs:s.heap.IsSliceOf sl vl vu .none) (pl:Nt vl lo) (pu:Nt vu hi)
  (hw:¬ (sIx items.size 0 lo=0/\sIx items.size items.size hi=items.size))
  (h:Q (.ref s.heap.objs.size) { s with heap:=s.heap.push { cls:=.type "tuple",data:=.seq ((items.toList.drop (sIx items.size 0 lo)).take (sIx items.size items.size hi-sIx items.size 0 lo)).toArray } })
  (hsz:items.size<=GZ):Hj (Ha prog w) A (Nq (.ref t) (.ref sl)) Q E s:=by
 have htake:sizeOk (.seq ((items.toList.drop (sIx items.size 0 lo)).take (sIx items.size items.size hi-sIx items.size 0 lo)).toArray):=by
  show ((items.toList.drop (sIx items.size 0 lo)).take (sIx items.size items.size hi-sIx items.size 0 lo)).toArray.size<=GZ
  rw [GC,Ie,Ir,Hb]
  omega
 have hj:sIx items.size items.size hi<=items.size:=Av _ _ (Gz _) hi
 obtain ⟨os,hos,hcs,hds⟩:=id hs
 have hTs:s.TypeIs (.ref sl) "slice":=⟨os,hos,hcs⟩
 unfold Nq
 try with_reducible refine Hx ?_
 first | refine Gp (GA ?_) | skip
 refine Gp (wpAny_sequenceKey ht.typeIs (by decide) ?_)
 refine Gp (JP (name:=Nh "__getitem__") ht.typeIs J6
  (IF J6 ht.typeIs entry_tuple_getitem ?_ (args_tuple_getitem _ _)))
 show Hj _ _ (Builtin.Tuple.tupleItemsOf (.ref t) >>= _) _ _ s
 refine Gp (tupleItemsOf_ ht ?_)
 refine Gp (wpAny_typeOf hTs ?_)
 rw [if_pos (by decide)]
 refine Gp (gE hs pl pu ?_)
 have hno:¬ ((((sIx items.size 0 lo:Nat):Int)==0&&(1:Int)==1&&(sIx items.size items.size hi-sIx items.size 0 lo)==items.size)=true):=by
  intro q
  rw [G5,G5] at q
  have q1:((sIx items.size 0 lo:Nat):Int)=0:=eq_of_beq q.1.1
  have q2:sIx items.size items.size hi-sIx items.size 0 lo=items.size:=eq_of_beq q.2
  exact hw ⟨by omega,by omega⟩
 show Hj _ _ (if (((sIx items.size 0 lo:Nat):Int)==0&&(1:Int)==1&&(sIx items.size items.size hi-sIx items.size 0 lo)==items.size)=true then _ else _) _ _ s
 rw [if_neg hno,rD]
 first
  | exact Gp (m:=IZ _) (HE (GA ⟨_,rfl,GA h⟩) htake)
  | exact Gp (m:=IZ _) (HE (Gp (GA (GA ⟨_,rfl,GA h⟩))) htake)
  | exact Gp (Gp (m:=IZ _) (HE (GA (GA ⟨_,rfl,GA h⟩)) htake))
  | exact Gp (Gp (m:=IZ _) (HE (GA ⟨_,rfl,GA h⟩) htake))
end
end HT
namespace L2
open PySem PySem.Spec PyProof.Rows
noncomputable abbrev TO:=St->Hp->(Option Int->Hp->Prop)->Prop
noncomputable def PO (X:Cx) (e:Option Expr) (t:TO):Prop:=
 ∀(pins:List (Addr×Obj)) (s:Gv) (σ:St) (H:Hp) (Q:Option Int->Hp->Prop),Inv X pins σ H s->t σ H Q ->
  Hj (Ha X.prog X.w) X.A (evalPart e X.env) (fun u s'=>∃o H',Inv X pins σ H' s'/\Nt u o/\Q o H') X.xe s
noncomputable def om:TO:=fun _ H Q=>Q none H
noncomputable def yM (t:TE):TO:=fun σ H Q=>t σ H fun x H1=>∃i,x=.int i/\Q (some i) H1
theorem intsAre_of {ns:List Int}:∀{us:List Gs},Vals (ns.map V.int) us->IntsAre us ns:=by
 induction ns with
 | nil=>intro us r;rw [Hu] at r;cases r;exact .nil
 | cons n ns ih=>
  intro us r
  rw [GO] at r
  cases r with
  | cons r1 r2=>
   obtain ⟨t,e⟩:=r1
   subst e
   exact .cons n t (ih r2)
section
variable {X:Cx} {e:Expr} {te:TE} {lo hi:Option Expr} {tl th:TO} {pos p2:Pos}
theorem vZ:PO X none om:=by
 intro pins s σ H Q I h
 rw [evalPart_none]
 exact GA ⟨none,H,I,.none,h⟩
theorem wd (h:PE X e te):PO X (some e) (yM te):=by
 intro pins s σ H Q I hw
 rw [evalPart_some]
 refine thn (h pins s σ H _ I hw) fun u s1 zr1=>?_
 obtain ⟨x,H1,I1,r1,q1⟩:=zr1
 obtain ⟨i,rfl,q⟩:=q1
 obtain ⟨t,rfl⟩:=r1
 exact ⟨some i,H1,I1,.int i t,q⟩
noncomputable def SlR (X:Cx) (r:V->Option Int->Option Int->Hp->VK->Prop):Prop:=
 ∀(pins:List (Addr×Obj)) (s:Gv) (σ:St) (H:Hp) (x:V) (v vl vu:Gs) (lo hi:Option Int) (sl:Addr) (Q:VK),Inv X pins σ H s->RelV x v->s.heap.IsSliceOf sl vl vu .none->Nt vl lo->Nt vu hi->r x lo hi H Q ->
  ∃T id,typeLookup (.type T) "__getitem__"=pure (some (.builtin id))/\s.TypeIs v T/\Hj (Ha X.prog X.w) X.A (Nq v (.ref sl)) (EP X pins σ Q) X.xe s
noncomputable def tSl (r:V->Option Int->Option Int->Hp->VK->Prop) (te:TE) (tl th:TO):TE:=fun σ H Q=>te σ H fun x H1=>tl σ H1 fun l H2=>th σ H2 fun u H3=>r x l u H3 Q
theorem ly {r:V->Option Int->Option Int->Hp->VK->Prop} (hr:SlR X r) (he:PE X e te) (hl:PO X lo tl) (hu:PO X hi th):PE X (.Subscript e (.Slice lo hi none p2) pos) (tSl r te tl th):=by
 intro pins s σ H Q I h
 refine NI (thn (he pins s σ H _ I h) fun v s1 zr1=>?_)
 obtain ⟨x,H1,I1,r1,q1⟩:=zr1
 refine wpAny_Slice (thn (hl pins s1 σ H1 _ I1 q1) fun vl s2 ⟨l,H2,I2,pl,q2⟩=>thn (hu pins s2 σ H2 _ I2 q2) fun vu s3 zr1=>?_)
 obtain ⟨u,H3,I3,pu,q3⟩:=zr1
 rw [evalPart_none]
 refine GA ?_
 have I4:Inv X pins σ H3 { s3 with heap:=s3.heap.push { cls:=.type "slice",data:=.fields #[vl,vu,.none] } }:=I3.kept (t':=s3.toks) fun b ob q=>Gu _ q
 obtain ⟨T,id,hT,ht,hg⟩:=hr pins { s3 with heap:=s3.heap.push { cls:=.type "slice",data:=.fields #[vl,vu,.none] } } σ H3 x v vl vu l u s3.heap.objs.size Q I4 r1 (Heap.IsSliceOf.new ..) pl pu q3
 show Hj (Ha X.prog X.w) X.A (MD e (.Slice lo hi none p2) v (.ref s3.heap.objs.size)) (EP X pins σ Q) X.xe { s3 with heap:=s3.heap.push { cls:=.type "slice",data:=.fields #[vl,vu,.none] } }
 exact Nn (ops:=[.ref s3.heap.objs.size,v]) ht hT hg (by with_unfolding_all rfl)
noncomputable def j5 (xs:List V) (lo hi:Option Int):List V:=(xs.drop (HT.sIx xs.length 0 lo)).take (HT.sIx xs.length xs.length hi-HT.sIx xs.length 0 lo)
theorem gT (xs:List V) (lo hi:Option Int):(j5 xs lo hi).length<=xs.length:=by
 unfold j5
 rw [Ie,Ir]
 omega
noncomputable def De (K:Gn):V->Option Int->Option Int->Hp->VK->Prop:=fun x lo hi H Q=>∃a xs,x=.ref a/\SqT K H a xs /\
 ¬ (HT.sIx xs.length 0 lo=0/\HT.sIx xs.length xs.length hi=xs.length)/\∀p,H p=none->Q (.ref p) (upd H p (.tup (j5 xs lo hi)))
theorem Aw:SlR X (De X.K):=by
 intro pins s σ H x v vl vu lo hi sl Q I rx hs pl pu h
 obtain ⟨a,xs,rfl,hx,hw,q⟩:=h
 cases rx
 obtain ⟨its,r,ht,hz⟩:=I.tuple hx
 have hlen:its.toArray.size=xs.length:=by rw [GC];exact r.length.symm
 refine ⟨"tuple",_,PyProof.Rows.slot_tuple_getitem.lookup,ht.typeIs,?_⟩
 refine HT.fS ht hs pl pu (by rw [hlen];exact hw) ?_ (by rw [hlen];exact hz)
 rw [hlen]
 refine ⟨.ref s.heap.objs.size,_,I.laid (t':=s.toks) (o:=.tup (j5 xs lo hi)) (fun b ob q=>Gu _ q) (Gz _) ?_,rfl,q _ (I.hok.fresh (Gz _))⟩
 exact ⟨HY (gT xs lo hi) hz,_,(r.drop (HT.sIx xs.length 0 lo)).take (HT.sIx xs.length xs.length hi-HT.sIx xs.length 0 lo),Nu _ _⟩
noncomputable def yN (K:Gn):R2:=fun x y H Q=>∃a b xs ys,x=.ref a/\y=.ref b/\SqT K H a xs/\SqT K H b ys/\xs≠[]/\xs.length+ys.length<=GZ /\
 (ys=[]->Q (.ref a) H)/\(ys≠[]->∀p,H p=none->Q (.ref p) (upd H p (.tup (xs++ys))))
theorem Vals.nil_iff {xs:List V} {us:List Gs} (r:Vals xs us):us=[]↔xs=[]:=by
 cases r with
 | nil=>simp
 | cons _ _=>simp
theorem we:OpR X (IP .Add) (yN X.K):=by
 intro pins s σ H x y v u Q I rx ry h
 obtain ⟨a,b,xs,ys,rfl,rfl,ha,hb,hx,hz,q1,q2⟩:=h
 cases rx
 cases ry
 obtain ⟨its,r1,p1,_⟩:=I.tuple ha
 obtain ⟨its2,r2,p2,_⟩:=I.tuple hb
 refine HT.vY p1 p2 (fun z=>hx (r1.nil_iff.mp z)) (fun z=>⟨.ref a,H,I,rfl,q1 (r2.nil_iff.mp z)⟩) (fun z=>?_) (by rw [<- r1.length,<- r2.length];exact hz)
 refine ⟨.ref s.heap.objs.size,_,I.laid (t':=s.toks) (o:=.tup (xs++ys)) (fun b ob q=>Gu _ q) (Gz _) ?_,rfl,q2 (fun w=>z (r2.nil_iff.mpr w)) _ (I.hok.fresh (Gz _))⟩
 exact ⟨by rw [G6];exact hz,_,r1.append r2,Nu _ _⟩
end
end L2
namespace L2
open PySem PySem.Spec PyProof.Rows
noncomputable def ixN (n:Nat) (i:Int):Option Nat:=if 0<=i then (if i < n then some i.toNat else none) else if -(n:Int)<=i then some (i+n).toNat else none
noncomputable def atI {α:Type} (xs:List α) (i:Int):Option α:=(ixN xs.length i).bind fun j=>xs[j]?
theorem oo {n:Nat} {i:Int} {j:Nat} (h:ixN n i=some j):seqIndex? i n=some j/\j < n/\-(n:Int)<=i/\i < n:=by
 unfold ixN at h
 by_cases h0:0<=i
 ·rw [if_pos h0] at h
  by_cases h1:i < n
  ·rw [if_pos h1] at h
   have e:i.toNat=j:=GP h
   exact ⟨by rw [Nv h0 h1,e],by omega,by omega,h1⟩
  ·rw [if_neg h1] at h;cases h
 ·rw [if_neg h0] at h
  by_cases h1:-(n:Int)<=i
  ·rw [if_pos h1] at h
   have e:(i+n).toNat=j:=GP h
   exact ⟨by rw [Ni (by omega) h1,e],by omega,h1,by omega⟩
  ·rw [if_neg h1] at h;cases h
theorem j6 {α:Type} {xs:List α} {i:Int} {v:α} (h:atI xs i=some v):∃j,seqIndex? i xs.length=some j/\xs[j]?=some v/\j < xs.length/\-(xs.length:Int)<=i/\i < xs.length:=by
 unfold atI at h
 cases e:ixN xs.length i with
 | none=>rw [e] at h;cases h
 | some j=>
  rw [e] at h
  obtain ⟨h1,h2,h3,h4⟩:=oo e
  exact ⟨j,h1,h,h2,h3,h4⟩
theorem fT {α:Type} {xs:List α} {j:Nat} {v:α} (h:xs[j]?=some v):atI xs (j:Int)=some v:=by
 have hj:j < xs.length:=(List.getElem?_eq_some_iff.mp h).1
 have e:ixN xs.length (j:Int)=some j:=by
  unfold ixN
  rw [if_pos (by omega),if_pos (by omega)];simp
 unfold atI;rw [e];exact h
noncomputable def dR (b:Expr):Prop:=∀o i,subscripted b false o i=operate [o,i] (Nq o i)
noncomputable def IxR (X:Cx) (r:R2):Prop:=
 ∀(value slice:Expr) (pins:List (Addr×Obj)) (s:Gv) (σ:St) (H:Hp) (x y:V) (v u:Gs) (Q:VK),Inv X pins σ H s->RelV x v->RelV y u->r x y H Q ->
  subscripted slice false v u=operate [v,u] (Nq v u)->Hj (Ha X.prog X.w) X.A (MD value slice v u) (EP X pins σ Q) X.xe s
noncomputable def MtR (X:Cx) (id:String) (r:V->List V->Hp->VK->Prop):Prop:=
 ∀(pins:List (Addr×Obj)) (s:Gv) (σ:St) (H:Hp) (x:V) (xs:List V) (v:Gs) (us:List Gs) (Q:VK),Inv X pins σ H s->RelV x v->Vals xs us->r x xs H Q ->
  Hj (Ha X.prog X.w) X.A (call (.builtin id) (v::us)) (EP X pins σ Q) X.xe s
section
variable {X:Cx} {a b:Expr} {ta tb:TE} {pos:Pos}
theorem IxR.or {r r':R2} (h:IxR X r) (h':IxR X r'):IxR X (fun x y H Q=>r x y H Q\/r' x y H Q):=by
 intro value slice pins s σ H x y v u Q I rx ry q hs
 rcases q with q | q
 ·exact h value slice pins s σ H x y v u Q I rx ry q hs
 ·exact h' value slice pins s σ H x y v u Q I rx ry q hs
theorem oq {r:R2} (hr:IxR X r) (ha:PE X a ta) (hb:PE X b tb) (hs:dR b):PE X (.Subscript a b pos) (tOp r ta tb):=by
 intro pins s σ H Q I h
 exact NI (An ha hb I h fun v u s2 x y H2 I2 rx ry q=>hr a b pins s2 σ H2 x y v u Q I2 rx ry q (hs _ _))
noncomputable def Df (K:Gn):R2:=fun x y H Q=>∃p xs i v,x=.ref p/\y=.int i/\SqL K H p xs/\atI xs i=some v/\Q v H
noncomputable def Dg (K:Gn):R2:=fun x y H Q=>∃p xs i v,x=.ref p/\y=.int i/\SqT K H p xs/\atI xs i=some v/\Q v H
noncomputable def Dh:R2:=fun x y H Q=>∃z i c,x=.str z/\y=.int i/\z.length<=GZ/\atI z.cps.toList i=some c/\Q (.str ⟨#[c]⟩) H
theorem wg:IxR X (Df X.K):=by
 intro value slice pins s σ H x y v u Q I rx ry h hs
 obtain ⟨p,xs,i,z,rfl,rfl,hq,he,q⟩:=h
 cases rx
 obtain ⟨t,rfl⟩:=ry
 obtain ⟨its,r,pl,hz⟩:=I.list hq
 obtain ⟨j,h1,h2,h3,h4,h5⟩:=j6 he
 obtain ⟨w,ew,rw'⟩:=r.get h2
 have hl:=r.length
 have hn:=fG
 have fin:EP X pins σ Q w s:=⟨z,H,I,rw',q⟩
 by_cases h0:0<=i
 ·have hj:i.toNat=j:=by
   rw [Nv h0 h5] at h1
   exact GP h1
  exact item_listR pl.isList h0 (by omega) (by rw [hj];simpa using ew) fin hs
 ·have hj:(i+(its.toArray.size:Int)).toNat=j:=by
   rw [Ni (by omega) h4] at h1
   rw [GC,<- hl]
   exact GP h1
  exact LC (x:=w) pl.isList.typeIs slot_list_getitem.lookup
   (wpAny_getItem_list_neg (Q:=fun r s'=>r=w/\EP X pins σ Q r s') pl.isList (by omega) (by rw [GC] <;> omega) (by omega) (by rw [hj];simpa using ew) ⟨rfl,fin⟩) hs
theorem Ax:IxR X (Dg X.K):=by
 intro value slice pins s σ H x y v u Q I rx ry h hs
 obtain ⟨p,xs,i,z,rfl,rfl,hq,he,q⟩:=h
 cases rx
 obtain ⟨t,rfl⟩:=ry
 obtain ⟨its,r,pl,hz⟩:=I.tuple hq
 obtain ⟨j,h1,h2,h3,h4,h5⟩:=j6 he
 obtain ⟨w,ew,rw'⟩:=r.get h2
 have hl:=r.length
 have hn:=fG
 have fin:EP X pins σ Q w s:=⟨z,H,I,rw',q⟩
 exact LC (x:=w) pl.typeIs slot_tuple_getitem.lookup
  (getItem_tuple (j:=j) (Q:=fun r s'=>r=w/\EP X pins σ Q r s') pl (by omega) (by omega) (by rw [GC,<- hl];exact h1) (by simpa using ew) ⟨rfl,fin⟩) hs
theorem Ay:IxR X Dh:=by
 intro value slice pins s σ H x y v u Q I rx ry h hs
 obtain ⟨z,i,c,rfl,rfl,hz,he,q⟩:=h
 obtain ⟨t,rfl⟩:=rx
 obtain ⟨t',rfl⟩:=ry
 obtain ⟨j,h1,h2,h3,h4,h5⟩:=j6 he
 have hl:z.cps.toList.length=z.length:=by simp [Str.length]
 rw [hl] at h1 h4 h5
 have hn:=fG
 exact Nn (typeIs_str s z t) slot_str_getitem.lookup (getItem_str (c:=c) (by
  have e1:decide (i < -(2 ^ 63:Int))=false:=decide_eq_false (by omega)
  have e2:decide (i >= 2 ^ 63)=false:=decide_eq_false (by omega)
  rw [e1,e2,Bool.or_false]) (by rw [h1];simpa using h2) ⟨.str ⟨#[c]⟩,H,I.tok _,⟨_,rfl⟩,q⟩) hs
noncomputable def rIx (K:Gn):R2:=fun x y H Q=>Df K x y H Q\/Dg K x y H Q\/Dh x y H Q
theorem rE:IxR X (rIx X.K):=wg.or (Ax.or Ay)
theorem mQ (its:List Gs) (n j:Nat) (u:Gs):IB (·.setIfInBounds j u) { cls:=.type "list",data:=.seq its.toArray n }={ cls:=.type "list",data:=.seq (its.set j u).toArray n }:=by
 simp [IB]
theorem Inv.lst {pins:List (Addr×Obj)} {σ:St} {H:Hp} {s:Gv} {p:Addr} {xs:List V} (I:Inv X pins σ H s) (h:H p=some (.lst xs)) :
  ∃(its:List Gs) (n:Nat),Vals xs its/\s.heap.get? p=some { cls:=.type "list",data:=.seq its.toArray n }/\xs.length<=GZ:=by
 obtain ⟨z,its,n,r,e⟩:=I.hok p _ h
 exact ⟨its,n,r,e,z⟩
theorem Inv.lstUpd {pins:List (Addr×Obj)} {σ:St} {H:Hp} {s:Gv} {p:Addr} {xs ys:List V} {its its':List Gs} {n n':Nat} {f:Obj->Obj} (I:Inv X pins σ H s) (h:H p=some (.lst xs))
  (ho:s.heap.get? p=some { cls:=.type "list",data:=.seq its.toArray n }) (hf:f { cls:=.type "list",data:=.seq its.toArray n }={ cls:=.type "list",data:=.seq its'.toArray n' }) (r:Vals ys its') (hz:ys.length<=GZ) (t:Nat) :
  Inv X pins σ (upd H p (.lst ys)) { s with heap:=s.heap.update p f,toks:=t }:=by
 have e:(s.heap.update p f).get? p=some { cls:=.type "list",data:=.seq its'.toArray n' }:=by
  rw [Ki f ho (by rw [hf] <;> rfl),hf]
 refine I.write (x:=p) (e:=p) (by rw [h];trivial) (.inl rfl) (fun b u hb q=>(HB _ _ (J1 hb)).trans q) ⟨_,e⟩ ?_
 exact ⟨hz,its',n',r,e⟩
noncomputable def ot:V->V->V->Hp->(Hp->Prop)->Prop:=fun o i v H Q=>∃p xs k j,o=.ref p/\i=.int k/\H p=some (.lst xs)/\ixN xs.length k=some j/\Q (upd H p (.lst (xs.set j v)))
theorem set_list:vQ X ot:=by
 intro pins s σ H o i v ov iv u Q I ro ri rv h
 obtain ⟨p,xs,k,j,rfl,rfl,hp,hj,q⟩:=h
 cases ro
 obtain ⟨t,rfl⟩:=ri
 obtain ⟨its,n,r,ho,hz⟩:=I.lst hp
 obtain ⟨h1,h2,h3,h4⟩:=oo hj
 have hl:=r.length
 have hn:=fG
 have I':Inv X pins σ (upd H p (.lst (xs.set j v))) { s with heap:=s.heap.update p (IB (·.setIfInBounds j u)) }:=
  I.lstUpd hp ho (mQ its n j u) (r.set rv j) (by rw [List.length_set];exact hz) s.toks
 by_cases h0:0<=k
 ·have hk:k.toNat=j:=by
   rw [Nv h0 h4] at h1
   exact GP h1
  exact PySem.W.ki_setAt ho h0 (by omega) (by rw [GC,<- hl];exact h4) (by rw [hk];exact ⟨_,I',q⟩)
 ·have hk:(k+(its.toArray.size:Int)).toNat=j:=by
   rw [Ni (by omega) h3] at h1
   rw [GC,<- hl]
   exact GP h1
  exact PySem.W.ki_setBack ho (by omega) (by rw [GC,<- hl];exact h3) (by omega) (by rw [hk];exact ⟨_,I',q⟩)
theorem j7 (lo hi:Option Int) (n:Nat):(J7 lo hi none n).1=((HT.sIx n 0 lo:Nat):Int)/\(J7 lo hi none n).2.1=((HT.sIx n n hi:Nat):Int)/\(J7 lo hi none n).2.2=1:=by
 refine ⟨?_,?_,rfl⟩
 ·cases lo with
  | none=>simp [J7,HT.sIx]
  | some i=>
   simp only [J7,HT.sIx,Option.getD_none,show (1:Int) > 0 by decide,if_true]
   by_cases h:i < 0
   ·simp only [h,if_true] <;> omega
   ·simp only [h,if_false] <;> omega
 ·cases hi with
  | none=>simp [J7,HT.sIx]
  | some i=>
   simp only [J7,HT.sIx,Option.getD_none,show (1:Int) > 0 by decide,if_true]
   by_cases h:i < 0
   ·simp only [h,if_true] <;> omega
   ·simp only [h,if_false] <;> omega
theorem jq (its:List Gs) (lo hi:Option Int):slicePick its.toArray lo hi none=((its.drop (HT.sIx its.length 0 lo)).take (HT.sIx its.length its.length hi-HT.sIx its.length 0 lo)).toArray:=by
 obtain ⟨h1,h2,h3⟩:=j7 lo hi its.toArray.size
 unfold slicePick
 rw [h1,h2,h3]
 simp only [sliceRange_one,pick_run,GC] <;> rfl
noncomputable def Di (K:Gn):V->Option Int->Option Int->Hp->VK->Prop:=fun x lo hi H Q=>∃a xs,x=.ref a/\SqL K H a xs/\∀p,H p=none->Q (.ref p) (upd H p (.lst (j5 xs lo hi)))
theorem wj:SlR X (Di X.K):=by
 intro pins s σ H x v vl vu lo hi sl Q I rx hs pl pu h
 obtain ⟨a,xs,rfl,hx,q⟩:=h
 cases rx
 obtain ⟨its,r,ht,hz⟩:=I.list hx
 have hlen:=r.length
 refine ⟨"list",_,slot_list_getitem.lookup,ht.isList.typeIs,?_⟩
 refine wpAny_getItem_list_slice ht.isList hs pl pu .none (by simp) ?_ (by rw [GC] <;> omega)
 rw [jq,<- hlen]
 refine ⟨.ref s.heap.objs.size,_,I.laid (t':=s.toks) (o:=.lst (j5 xs lo hi)) (fun b ob q=>Gu _ q) (Gz _) ?_,rfl,q _ (I.hok.fresh (Gz _))⟩
 exact ⟨HY (gT xs lo hi) hz,_,0,(r.drop (HT.sIx xs.length 0 lo)).take (HT.sIx xs.length xs.length hi-HT.sIx xs.length 0 lo),GQ _ rfl⟩
theorem j8:cL X (.builtin "len") (fun xs H Q=>∃p ys,xs=[.ref p]/\(SqL X.K H p ys\/SqT X.K H p ys)/\Q (.int ys.length) H):=by
 intro pins s σ H xs us Q I r h
 obtain ⟨p,ys,rfl,hq,q⟩:=h
 obtain ⟨u,rfl,rx⟩:=vals1 r
 cases rx
 have hn:=fG
 rcases hq with hq | hq
 ·obtain ⟨its,r',pl,hz⟩:=I.list hq
  have hlen:=r'.length
  exact Calls.call_len_list pl.isList (by simp only [GC] <;> omega) ⟨.int ys.length,H,I.tok _,⟨s.toks+1,by rw [GC,hlen]⟩,q⟩
 ·obtain ⟨its,r',pl,hz⟩:=I.tuple hq
  have hlen:=r'.length
  exact len_tuple pl (by simp only [GC] <;> omega) ⟨.int ys.length,H,I.tok _,⟨s.toks+1,by rw [GC,hlen]⟩,q⟩
theorem j9:cL X (.type "list") (fun xs H Q=>∃p ys,xs=[.ref p]/\(SqL X.K H p ys\/SqT X.K H p ys)/\∀l,H l=none->Q (.ref l) (upd H l (.lst ys))):=by
 intro pins s σ H xs us Q I r h
 obtain ⟨p,ys,rfl,hq,q⟩:=h
 obtain ⟨u,rfl,rx⟩:=vals1 r
 cases rx
 have fin:∀(its:List Gs),Vals ys its->ys.length<=GZ->∀(h':Heap) (c':Nat),(∀b o',s.heap.get? b=some o'->h'.get? b=some o') ->
   h'.get? s.heap.objs.size=some { cls:=.type "list",dict:=none,data:=.seq its.toArray c',slots:=#[] }->EP X pins σ Q (.ref s.heap.objs.size) { s with heap:=h' }:=fun its r' hz h' c' kp e=>
  ⟨.ref s.heap.objs.size,_,I.laid (t':=s.toks) kp (Gz _) (show bA X.prog X.w _ h' _ (.lst ys) from ⟨hz,its,c',r',e⟩),rfl,q _ (I.hok.fresh (Gz _))⟩
 rcases hq with hq | hq
 ·obtain ⟨its,r',pl,hz⟩:=I.list hq
  have hlen:=r'.length
  obtain ⟨o,ho,hc,n,hd⟩:=pl.isList
  exact call_list_seq p (.inl rfl) ho hc hd (fun h' c' kp e=>fin its r' hz h' c' kp e) (by simp only [GC] <;> omega)
 ·obtain ⟨its,r',pl,hz⟩:=I.tuple hq
  have hlen:=r'.length
  obtain ⟨o,ho,hc,n,hd⟩:=pl
  exact call_list_seq p (.inr rfl) ho hc hd (fun h' c' kp e=>fin its r' hz h' c' kp e) (by simp only [GC] <;> omega)
theorem jr:cL X (.type "tuple") (fun xs H Q=>∃p ys,xs=[.ref p]/\((SqL X.K H p ys/\∀l,H l=none->Q (.ref l) (upd H l (.tup ys)))\/(SqT X.K H p ys/\Q (.ref p) H))):=by
 intro pins s σ H xs us Q I r h
 obtain ⟨p,ys,rfl,h⟩:=h
 obtain ⟨u,rfl,rx⟩:=vals1 r
 cases rx
 rcases h with ⟨hq,q⟩ | ⟨hq,q⟩
 ·obtain ⟨its,r',pl,hz⟩:=I.list hq
  have hlen:=r'.length
  refine call_tuple_list pl.isList (fun h' kp=>?_) (by simp only [GC] <;> omega)
  have I1:Inv X pins σ H { s with heap:=h' }:=I.kept (t':=s.toks) kp
  have I2:Inv X pins σ (upd H h'.objs.size (.tup ys)) { s with heap:=h'.push { cls:=.type "tuple",data:=.seq its.toArray } }:=
   I1.laid (t':=s.toks) (fun b o e=>Gu _ e) (Gz _) (show bA X.prog X.w _ _ _ (.tup ys) from ⟨hz,its,r',Nu _ _⟩)
  exact ⟨.ref h'.objs.size,_,I2,rfl,q _ (I1.hok.fresh (Gz _))⟩
 ·obtain ⟨its,r',pl,hz⟩:=I.tuple hq
  exact call_tuple_same pl ⟨.ref p,H,I,rfl,q⟩
noncomputable def tyV (K:Gn) (T:String) (x:V) (H:Hp):Prop:=match x with
 | .str _=>T="str"
 | .int _=>T="int"
 | .ref p=>(T="list"/\∃xs,SqL K H p xs)\/(T="tuple"/\∃o,K.lookup p=some o/\o.cls=.type "tuple"/\o.dict=none) \/
   (T="dict"/\((∃kvs,H p=some (.dK kvs))\/∃kvs,H p=some (.dT kvs)))\/(T="set"/\∃S n,H p=some (.set S n))
 | _=>False
theorem Az {pins:List (Addr×Obj)} {σ:St} {H:Hp} {s:Gv} {T:String} {x:V} {v:Gs} (I:Inv X pins σ H s) (r:RelV x v) (ty:tyV X.K T x H) :
  s.TypeIs v T/\∀a,v=.ref a->∃ob,s.heap.get? a=some ob/\ob.dict=none:=by
 cases x with
 | str z=>
  obtain ⟨t,rfl⟩:=r
  cases (show T="str" from ty)
  exact ⟨typeIs_str s z t,fun _ e=>nomatch e⟩
 | int i=>
  obtain ⟨t,rfl⟩:=r
  cases (show T="int" from ty)
  exact ⟨NJ s i t,fun _ e=>nomatch e⟩
 | ref p=>
  cases r
  rcases ty with ⟨rfl,xs,hq⟩ | ⟨rfl,o,hk,hc,hd⟩ | ⟨rfl,hk⟩ | ⟨rfl,S,n,hk⟩
  ·obtain ⟨its,_,pl,_⟩:=I.list hq
   refine ⟨pl.isList.typeIs,fun a e=>?_⟩
   cases e
   obtain ⟨o,n,e,c,hd,_⟩:=pl
   exact ⟨o,e,hd⟩
  ·refine ⟨⟨o,I.kIn p o hk,hc⟩,fun a e=>?_⟩
   cases e
   exact ⟨o,I.kIn _ o hk,hd⟩
  ·have z:∃o,s.heap.get? p=some o/\o.ExactDict:=by
    rcases hk with ⟨kvs,hk⟩ | ⟨kvs,hk⟩
    ·obtain ⟨_,_,_,_,o,_,_,e,ex,_⟩:=I.hok p _ hk
     exact ⟨o,e,ex⟩
    ·obtain ⟨_,_,_,_,o,_,_,e,ex,_⟩:=I.hok p _ hk
     exact ⟨o,e,ex⟩
   obtain ⟨o,e,ex⟩:=z
   refine ⟨⟨o,e,ex.1⟩,fun a e2=>?_⟩
   cases e2
   exact ⟨o,e,ex.2.1⟩
  ·obtain ⟨o,_,_,_,e,ex,_⟩:=I.hok p _ hk
   refine ⟨⟨o,e,ex.1⟩,fun a e2=>?_⟩
   cases e2
   exact ⟨o,e,ex.2.1⟩
 | _=>exact Jp ty
noncomputable def tBM (K:Gn) (T:String) (r:V->List V->Hp->VK->Prop) (to:TE) (t:TA):TE:=fun σ H Q=>to σ H fun x H1=>tyV K T x H1/\t σ H1 fun xs H2=>r x xs H2 Q
variable {o e:Expr} {es:List Expr} {to:TE} {t:TA} {name:Str} {apos cpos:Pos} {T id:String} {r:V->List V->Hp->VK->Prop}
theorem yO (pa:PlainAttrs T) (slot:Slot T name id) (hty:typeOf (.builtin id)=pure (.type "method_descriptor")) (hm:MtR X id r) (ho:PE X o to) (ha:PA X (e::es) t)
  (hbase:Kr o name X.env (eval o X.env)=eval o X.env:=by rfl)
  (hfew:((JF cpos (GM (e::es) X.env)).all (fun x=>!x.1)&&(backToKw cpos (Nw [] X.env)).all (fun x=>x.1.isSome)
   && decide ((e::es).length+([]:List Ny).length+(if ([]:List Ny).isEmpty then 0 else 1) < 30))=true:=by rfl)
  (hline:(apos.endLine==cpos.line)=true:=by rfl) (hs:GM (e::es) X.env=(false,eval e X.env)::GM es X.env:=by rfl) (hplain:(JF cpos (GM es X.env)).any (·.1)=false:=by rfl) :
  PE X (.Call (.Attribute o name apos) (e::es) [] cpos) (tBM X.K T r to t):=by
 intro pins s σ H Q I h
 refine wpAny_Call_method_late hbase hfew hline rfl (thn (ho pins s σ H _ I h) fun v s1 zr1=>?_)
 obtain ⟨x,H1,I1,r1,ty,q1⟩:=zr1
 obtain ⟨h1,h2⟩:=Az I1 r1 ty
 refine ⟨T,id,pa,slot,hty,h1,h2,?_⟩
 have hA:=ha cpos pins s1 σ H1 _ I1 q1
 rw [hs] at hA ⊢
 refine LD (by show (false||(JF cpos (GM es X.env)).any (·.1))=false;rw [hplain] <;> rfl) (L1 ?_)
 exact thn hA fun us s2 zt1=>by obtain ⟨vs,H2,I2,r2,q2⟩:=zt1;exact hm pins s2 σ H2 x vs v us Q I2 r1 r2 q2
end
end L2
namespace L2
open PySem PySem.Spec PyProof.Rows
noncomputable def MtM (X:Cx) (id:String) (r:V->List V->Hp->VK->Prop):Prop:=
 ∀(pins:List (Addr×Obj)) (s:Gv) (σ:St) (H:Hp) (x:V) (xs:List V) (v:Gs) (us:List Gs) (Q:VK),Inv X pins σ H s->RelV x v->Vals xs us->r x xs H Q ->
  Hj (Ha X.prog X.w) X.A (call (.builtin id) (v::us)) (EP X pins σ Q) X.xe s
theorem Vals.one:∀{x:V} {us:List Gs},Vals [x] us->∃u,us=[u]/\RelV x u:=by
 intro x us h
 cases h with
 | cons r h=>cases h;exact ⟨_,rfl,r⟩
section
variable {X:Cx} {pins:List (Addr×Obj)} {σ:St} {H:Hp} {s:Gv} {l b:Addr} {xs ys zs:List V}
theorem Inv.lset {its its':List Gs} {n:Nat} {f:Array Gs->Array Gs} {t':Nat} (I:Inv X pins σ H s) (hH:H l=some (.lst xs))
  (e:s.heap.get? l=some { cls:=.type "list",data:=.seq its.toArray n }) (hf:f its.toArray=its'.toArray) (hv:Vals ys its') (hz:ys.length<=GZ) :
  Inv X pins σ (upd H l (.lst ys)) { s with heap:=s.heap.update l (IB f),toks:=t' }:=by
 have q:=PySem.IsL.update e f
 rw [hf] at q
 refine I.write (x:=l) (e:=l) (by rw [hH];exact trivial) (.inl rfl) (fun b' u hb hu=>(HB s.heap (IB f) (J1 hb)).trans hu) ⟨_,q⟩ ?_
 exact ⟨hz,its',_,hv,q⟩
theorem Inv.lnew {its:List Gs} {t':Nat} (I:Inv X pins σ H s) (hv:Vals ys its) (hz:ys.length<=GZ) :
  Inv X pins σ (upd H s.heap.objs.size (.lst ys)) { s with heap:=s.heap.push { cls:=.type "list",data:=.seq its.toArray },toks:=t' }:=
 I.laid (fun _ _ q=>Gu _ q) (Gz _) ⟨hz,its,0,hv,GQ _ rfl⟩
theorem Inv.fresh (I:Inv X pins σ H s):H s.heap.objs.size=none:=I.hok.fresh (Gz _)
theorem Inv.lstM (I:Inv X pins σ H s) (hH:H l=some (.lst xs)):xs.length<=GZ/\∃(its:List Gs) (n:Nat),Vals xs its/\xs.length=its.length/\s.heap.get? l=some { cls:=.type "list",data:=.seq its.toArray n }:=by
 obtain ⟨z,its,n,r,e⟩:=I.hok l _ hH
 exact ⟨z,its,n,r,r.length,e⟩
theorem rF {n:Nat} (h:n<=GZ):JH n=false:=by
 unfold JH
 exact decide_eq_false (by omega)
end
section
variable {X:Cx}
noncomputable def hZ:V->List V->Hp->VK->Prop:=fun x vs H Q=>∃l xs y,x=.ref l/\vs=[y]/\H l=some (.lst xs)/\xs.length < GZ/\Q .non (upd H l (.lst (xs++[y])))
theorem qb:MtM X "list.append" hZ:=by
 intro pins s σ H x vs v us Q I rx rv h
 obtain ⟨l,xs,y,rfl,rfl,hH,hz,q⟩:=h
 cases rx
 obtain ⟨u,rfl,ru⟩:=rv.one
 obtain ⟨z,its,n,r,hl,e⟩:=I.lstM hH
 refine Ld F.slot_list_append ⟨_,e,rfl⟩ F.entry_list_append (F.args_list_append_2 _ _) (MS l its.toArray n u (by rw [GC];omega)) ⟨e,?_⟩
 refine ⟨.non,_,I.lset (its':=its++[u]) hH e (by simp) (r.append (.cons ru .nil)) ?_,rfl,q⟩
 rw [G6,LL]
 omega
noncomputable def ou:V->List V->Hp->VK->Prop:=fun x vs H Q=>∃l b xs zs,x=.ref l/\vs=[.ref b]/\H l=some (.lst xs)/\H b=some (.lst zs)/\xs.length+zs.length<=GZ/\Q .non (upd H l (.lst (xs++zs)))
theorem qc:MtM X "list.extend" ou:=by
 intro pins s σ H x vs v us Q I rx rv h
 obtain ⟨l,b,xs,zs,rfl,rfl,hH,hB,hz,q⟩:=h
 cases rx
 obtain ⟨u,rfl,ru⟩:=rv.one
 cases ru
 obtain ⟨z,its,n,r,hl,e⟩:=I.lstM hH
 obtain ⟨z2,its2,n2,r2,hl2,e2⟩:=I.lstM hB
 have hsz:its.toArray.size+its2.toArray.size<=GZ:=by rw [GC,GC];omega
 have hlong:¬ (!its.toArray.isEmpty&&JH (its.toArray.size+its2.toArray.size))=true:=by
  rw [rF hsz,Bool.and_false]
  exact Gw
 refine Ld F.slot_list_extend ⟨_,e,rfl⟩ F.entry_list_extend (F.args_list_extend_2 _ _)
  (AutoSeq1.list_extend_list_list_0 l its.toArray n b its2.toArray n2 hlong (by rw [GC];omega) (by omega)) ⟨e,e2,?_⟩
 refine ⟨.non,_,I.lset (its':=its++its2) hH e (by simp) (r.append r2) ?_,rfl,q⟩
 rw [G6]
 omega
noncomputable def AA:R2:=fun x y H Q=>∃l b xs zs,x=.ref l/\y=.ref b/\H l=some (.lst xs)/\H b=some (.lst zs)/\xs.length+zs.length<=GZ/\∀p,H p=none->Q (.ref p) (upd H p (.lst (xs++zs)))
theorem rG:OpR X (IP .Add) AA:=by
 intro pins s σ H x y v u Q I rx ry h
 obtain ⟨l,b,xs,zs,rfl,rfl,hH,hB,hz,q⟩:=h
 cases rx
 cases ry
 obtain ⟨z,its,n,r,hl,e⟩:=I.lstM hH
 obtain ⟨z2,its2,n2,r2,hl2,e2⟩:=I.lstM hB
 refine PySem.P.add_list e e2 ?_ (by rw [GC,GC];omega)
 have ea:its.toArray++its2.toArray=(its++its2).toArray:=by simp
 rw [ea]
 exact ⟨.ref _,_,I.lnew (t':=s.toks) (r.append r2) (by rw [G6];omega),rfl,q _ I.fresh⟩
end
end L2
namespace Att
open PySem PySem.W PySem.Calls PyProof.Rows
theorem g8 {P:Params} {h:Heap}:∀(ns:List Int) (vs:List Gs),WellAll P h vs (ns.map WData.int)->IntsAre vs ns:=by
 intro ns
 induction ns with
 | nil=>
  intro vs w
  rw [Hu] at w
  cases w
  exact .nil
 | cons n ns ih=>
  intro vs w
  rw [GO] at w
  cases w with
  | cons a b=>
   cases a
   exact .cons _ _ (ih _ b)
theorem qf {l:OpenLaw} {n:Nat} (hn:l.most=some n) {P:Params} {h:Heap} {args:List WData} {vals:List Gs}
  (hpre:l.row.toRowW.claim.pre args=true) (hwl:WellAll P h vals args) :
  ∃a vs ns,vals=[Hf a]/\args=[WData.list (ns.map WData.int)]/\h.get? a=some { cls:=.type "list",data:=.seq vs.toArray }/\IntsAre vs ns/\ns.length<=n:=by
 have hsh:WShape.hasAll [] args [.list .int]=true:=(pre_splitW hpre).1
 have hc:l.pre.holds [] { args:=args }=true:=(pre_splitW hpre).2
 obtain ⟨d,r,rfl,h1,h2⟩:=hasAllW_cons hsh
 obtain rfl:=hasAllW_nil h2
 obtain ⟨xs,rfl,h3⟩:=hasW_list h1
 obtain ⟨ns,rfl⟩:=items_int h3
 have hlen:ns.length<=n:=by
  unfold OpenLaw.pre at hc
  have h4:(WTm.not (.lt (.lit (.int (n:Int))) (.len (.arg 0)))).holds [] { args:=[.list (ns.map .int)] }=true:=by
   have h4:=(holds_andW hc).1
   rw [hn] at h4
   exact h4
  have h5:=condW_of h4 (w_not (w_lt w_lit (w_len_list (w_arg rfl))))
  rw [Gx] at h5
  refine Lz fun q=>?_
  have q':(n:Int) < ((ns.length:Nat):Int):=by omega
  first
   | (rw [decide_eq_true q'] at h5;exact absurd h5 (by decide))
   | (simp at h5;omega)
 cases hwl with
 | cons w1 w2=>
  cases w2
  cases w1 with
  | list ho hall=>exact ⟨_,_,ns,rfl,rfl,ho,g8 ns _ hall,hlen⟩
theorem qg (l:OpenLaw) (args:List WData):l.row.toRowW.claim.post args (.bool true) args=true:=
 postW_of (r:=l.row.toRowW) (X:=(true==true))
  (show WShape.has [] (.bool true) .bool=true by first | rfl | decide | simp [WShape.has,WShape.arms,WShape.armsAll])
  (show (WTm.eq .res (.lit (.bool true))).value [] { args:=args,res:=some (.bool true),after:=args }=some (.bool (true==true)) from w_eq_bool (w_res rfl) w_lit) rfl
theorem lz {l:OpenLaw} {n:Nat} {q:G2} {loose:List Str} {XP:(Str->Option Gs)->Heap->Prop} {YP:HJ->Heap->Prop} {d:DefRec}
  (hn:l.most=some n) (hdf:d.params.defaults=[])
  (call:∀(w:HJ) (s₀ s₁:Gv) (mg mb:Str->Option Gs) (fa:Addr) (o:Obj) (pm cd doc:Gs) (a:Addr) (vs:List Gs) (ns:List Int),
   Ground q loose [] XP w s₀ mg mb s₁.heap->YP w s₁.heap ->
   s₁.heap.get? fa=some o->o.data=.func (docDef d.name d.params d.body d.scope pm cd doc)->s₁.heap.CodeRec cd d.name->mg d.name=some (.ref fa) ->
   s₁.heap.get? a=some { cls:=.type "list",data:=.seq vs.toArray }->IntsAre vs ns->ns.length<=n->s₁.gens=#[] ->
   JB (Ha l.prog w) MT (.call (.ref fa) ⟨[.ref a],[]⟩) (fun r s'=>r=.ok (.ret (.bool true))/\OldK s₁.heap s'.heap/\s'.os=s₁.os/\KZ s'.gens) s₁) :
  WalkO q loose XP YP l.row.toRowW d [] (fun f vs=>NK f vs):=by
 intro w s₀ s₁ mg mb G Y fa o pm cd doc dV kV ho hd hcd hD hmg hg args vals as hpre hlay hrd hwl hlo
 obtain rfl:dV=.none:=Dflts.none hD hdf
 obtain rfl:kV=.none:=Dflts.noKw hD
 obtain ⟨a,vs,ns,rfl,rfl,hobj,hints,hlen⟩:=qf hn hpre hwl
 refine enter_call (Ng (call w s₀ s₁ mg mb fa o pm cd doc a vs ns G Y ho (fd_plain hd) hcd hmg hobj hints hlen hg) fun r s' hq=>?_)
 obtain ⟨rfl,h2,h3,h4⟩:=hq
 exact ⟨.inl ⟨.bool true,.bool true,[],rfl,fun _=>rfl,.bool true,qg l _,fun _=>⟨Le,fun _ hm=>(nomatch hm)⟩⟩,h2,h3,h4⟩
end Att
namespace L2
open PySem PySem.Spec PyProof.Rows
theorem jz:∀{vs:List Gs} {ns:List Int},IntsAre vs ns->Vals (ns.map V.int) vs
 | _,_,.nil=>.nil
 | _,_,.cons n t h=>.cons ⟨t,rfl⟩ (jz h)
noncomputable def Only (H:Hp):Prop:=∀b,H b=none\/∃o xs,H b=some (.frz o (.lst xs))
theorem rH {P:G2} {w:HJ} {K:Gn} {mg mb:Str->Option Gs} {CX:CXT} {k:Nat} {fa a:Addr} {fd:IU} {x:Str} {sp:Sp} {s₁:Gv} {vs:List Gs} {ns:List Int}
  (KX:K.In s₁.heap) (hns:s₁.heap.Ns GK mg) (hb:s₁.heap.Ns NF mb) (hbb:∀x:Str,x≠"__name__"->mb x=HP x) (hlim:s₁.heap.NoLimit) (hg:s₁.gens=#[])
  (ha:s₁.heap.get? a=some { cls:=.type "list",data:=.seq vs.toArray }) (hi:IntsAre vs ns) (hl:ns.length<=GZ) (hr:ck k MT)
  (F:∀base:Heap,K.In base->base.Ns GK mg->iI P w K mg base CX k fa fd [x] sp) (hbind:∀(s:Gv) (u:Gs),MR s fd ⟨[u],[]⟩ [(x,u)])
  (hsp:∀H:Hp,Only H->SqL K H a (ns.map V.int)->sp [.ref a] H (fun v _=>v=.bl true) fun _ _ _=>False)
  (hCX:∀H e s',CX [] H s₁ (fun _ _ _=>False) e s'->False) :
  JB (Ha P w) MT (.call (.ref fa) ⟨[.ref a],[]⟩) (fun r s'=>r=.ok (.ret (.bool true))/\OldK s₁.heap s'.heap/\s'.os=s₁.os/\KZ s'.gens) s₁:=by
 have rv:=jz hi
 have lenV:=hi.length
 -- from an abstract heap in which nothing but the script may be tracked
 have core:∀H:Hp,Only H->SqL K H a (ns.map V.int)->HOk P w H s₁.heap->(∀b,H b≠none->b=a)->(H a≠none->K.lookup a=none) ->
   JB (Ha P w) MT (.call (.ref fa) ⟨[.ref a],[]⟩) (fun r s'=>r=.ok (.ret (.bool true))/\OldK s₁.heap s'.heap/\s'.os=s₁.os/\KZ s'.gens) s₁:=by
  intro H hO hS hok hA hK
  have base_of:∀{b:Addr} {o:Obj},s₁.heap.get? b=some o->H b=none->(jW s₁.heap H).get? b=some o:=fun e n=>qW e n
  have noA:∀{b:Addr} {o:Obj} {es:Array KC} {ep:Nat},s₁.heap.get? b=some o->o.data=.dict es ep->H b=none:=fun {b o es ep} e d=>by
   cases q:H b with
   | none=>rfl
   | some u=>
    have e':b=a:=hA b (by rw [q];simp)
    subst e'
    rw [ha] at e;cases e
    have d':Data.seq vs.toArray _=Data.dict es ep:=d
    cases d'
  have nsK:∀{b:Addr} {m:Str->Option Gs},s₁.heap.Ns b m->(jW s₁.heap H).Ns b m:=fun {b m} zt1=>by obtain ⟨o,es,ep,e,d,r⟩:=zt1;exact ⟨o,es,ep,base_of e (noA e d),d,r⟩
  have hKb:K.In (jW s₁.heap H):=fun b o e=>base_of (KX b o e) (by
   cases q:H b with
   | none=>rfl
   | some u=>
    have e':b=a:=hA b (by rw [q];simp)
    subst e'
    rw [hK (by rw [q];simp)] at e;cases e)
  have hM:Mod K mg (jW s₁.heap H):=⟨hKb,nsK hns,⟨mb,nsK hb,hbb⟩,let ⟨mc,h1,h2⟩:=hlim;⟨mc,nsK h1,h2⟩⟩
  have e0:Env0 P w K mg (jW s₁.heap H) MT [] s₁ H:=⟨rfl,hM,fun b o e=>vO e,Kj (pX _ _),trivial,fun b hb=>absurd (show b∈([]:List Addr) from hb) (by simp),hok,.of_eq hg⟩
  refine Ng ((F _ hKb (nsK hns)).run MT [] s₁ H ⟨[.ref a],[]⟩ [.ref a] [.ref a] _ _ hr e0 (hbind s₁ (.ref a)) (.cons rfl .nil) (hsp H hO hS)) fun r s' h=>?_
  cases r with
  | error e=>exact (hCX H e s' h).elim
  | ok fl=>
   cases fl with
   | next=>exact Jp h
   | brk=>exact Jp h
   | cont=>exact Jp h
   | ret u=>
    obtain ⟨v,H',os,bare,un,hok',r',q⟩:=h
    have q':v=.bl true:=q
    subst q'
    obtain rfl:u=LZ true:=r'
    refine ⟨rfl,OldK.of_keep fun b o e=>?_,os,bare⟩
    cases q:H b with
    | none=>exact un.keep b o e q (by intro z;exact absurd (show b∈([]:List Addr) from z) (by simp)) (by simp)
    | some u=>
     rcases hO b with z | ⟨ob,xs,z⟩
     ·rw [q] at z;cases z
     ·have z2:=un.frzs b ob _ z
      obtain ⟨e1,_⟩:=hok b _ z
      obtain ⟨e2,_⟩:=hok' b _ z2
      rw [e] at e1;cases e1
      exact e2
 cases hk:K.lookup a with
 | some o=>
  -- the script is one of the module's own objects
  have e:=KX a o hk
  rw [ha] at e
  cases e
  refine core (fun _=>none) (fun _=>.inl rfl) (.inr ⟨_,vs.toArray,_,hk,rfl,rfl,rfl,by rw [GC,lenV];exact hl,by simpa using rv⟩) (fun b u z=>by have z':(none:Option HO)=some u:=z;cases z') (fun b z=>absurd rfl z) fun z=>absurd rfl z
 | none=>
  refine core (fun b=>if b=a then some (.frz { cls:=.type "list",data:=.seq vs.toArray } (.lst (ns.map V.int))) else none) (fun b=>?_) (.inl (.inr ⟨{ cls:=.type "list",data:=.seq vs.toArray },if_pos rfl⟩)) (fun b u z=>?_) (fun b z=>?_) fun _=>hk
  ·by_cases hb:b=a
   ·exact .inr ⟨_,_,if_pos hb⟩
   ·exact .inl (if_neg hb)
  ·by_cases hb:b=a
   ·have z':=(if_pos hb).symm.trans z
    cases z'
    subst hb
    exact ⟨ha,by rw [Gx];exact hl,vs,_,rv,ha⟩
   ·have z':=(if_neg hb).symm.trans z
    cases z'
  ·by_cases hb:b=a
   ·exact hb
   ·exact absurd (if_neg hb) z
end L2
namespace L2
open PySem PySem.Spec PyProof.Rows
theorem wm {l:LM} {n k:Nat} {q:G2} {loose:List Str} {XP:(Str->Option Gs)->Heap->Prop} {YP:HJ->Heap->Prop} {d:DefRec} {K:Params->Gn} {CX:HJ->CXT} {sp:HJ->Sp} {x:Str}
  (hn:l.most=some n) (hn2:n<=GZ) (hdf:d.params.defaults=[]) (hr:ck k MT)
  (hY:∀(w:HJ) (h:Heap),YP w h->(K w.params).In h)
  (F:∀(w:HJ) (mg:Str->Option Gs) (fa:Addr) (h:Heap),(K w.params).In h->h.Ns GK mg->mg d.name=some (.ref fa) ->
   ∃fd:IU,(∀(s:Gv) (u:Gs),MR s fd ⟨[u],[]⟩ [(x,u)]) /\
    ∀base:Heap,(K w.params).In base->base.Ns GK mg->iI l.prog w (K w.params) mg base (CX w) k fa fd [x] (sp w))
  (hsp:∀(w:HJ) (H:Hp) (a:Addr) (ns:List Int),ns.length<=n->Only H->SqL (K w.params) H a (ns.map V.int)->sp w [.ref a] H (fun v _=>v=.bl true) fun _ _ _=>False)
  (hCX:∀(w:HJ) (H:Hp) (s:Gv) (e:Gs) (s':Gv),CX w [] H s (fun _ _ _=>False) e s'->False) :
  PySem.W.WalkO q loose XP YP l.row.toRowW d [] (fun f vs=>NK f vs):=by
 refine Att.lz hn hdf fun w s₀ s₁ mg mb fa o pm cd doc a vs ns G Y ho hd hcd hmg hobj hints hlen hg=>?_
 have KX:=hY w _ Y
 obtain ⟨fd,hb,hF⟩:=F w mg fa _ KX G.T.g hmg
 exact rH KX G.T.g G.T.b G.T.builtins G.T.nolimit hg hobj hints (HY hlen hn2) hr hF hb (fun H hO hS=>hsp w H a ns hlen hO hS) fun H e s'=>hCX w H s₁ e s'
end L2
namespace L2
open PySem PySem.Spec PyProof.Rows
noncomputable def cq (s:Stmt):Arguments:=match s with
 | .FunctionDef _ a _ _ _ _ _ _ _ _=>a
 | _=>{ posonlyargs:=[],args:=[],vararg:=none,kwonlyargs:=[],kw_defaults:=[],kwarg:=none,defaults:=[] }
noncomputable def bC (s:Stmt):List Stmt:=match s with
 | .FunctionDef _ _ b _ _ _ _ _ _ _=>b
 | _=>[]
noncomputable def aj (s:Stmt):Jz:=match s with
 | .FunctionDef _ _ _ _ _ _ sc _ _ _=>sc
 | _=>{ kind:=.function,names:=[],isGenerator:=false,isCoroutine:=false }
noncomputable abbrev CX0:CXT:=fun _ _ _ _ _ _=>False
noncomputable abbrev E0:XK:=fun _ _ _=>False
theorem Dj {X:Cx}:mM CX0 X E0:=fun _ _ _ _ _ _ _ h=>h.elim
structure Fun (K:Gn) (x qual:Str) (st:Stmt) (f:Addr) (fd:IU):Prop where
 ex:∃(oc:Gs) (od:Option Addr) (kV doc pm:Gs) (an:Option Addr) (cdv ct:Gs) (osl:Array (Option Gs)),
  fd=Iq x qual (cq st) (bC st) (aj st) .none kV doc pm an cdv ct/\K.lookup f=some ⟨oc,od,.func fd,osl⟩/\K0 K cdv qual=true
 kp:Jw K (.ref f)=true
section
variable {P:G2} {w:HJ} {K:Gn} {mg:Str->Option Gs} {base:Heap}
theorem Fun.ok {x qual:Str} {st:Stmt} {f:Addr} {fd:IU} {N ps:List Str} {k:Nat} {sp:Sp} (F:Fun K x qual st f fd) (S:aE N ps (aj st)) (len:∀vs H Q E,sp vs H Q E->vs.length=ps.length)
  (hbody:∀(cdv:Gs) (A:HQ) (outer:List Env) (s:Gv) (H:Hp) (vs:List V) (Q:VK) (E:XK),ck k (A.deeper (envOfC qual (aj st) s.heap.objs.size f cdv))->sp vs H Q E ->
   ∃t,PSs (gB CX0 P w K mg base N qual (aj st) f cdv A outer s H E).nox (bC st) t/\t { nx:=fun _ H'=>Q .non H',rt:=Q } (start N vs) H):iI P w K mg base CX0 (k+1) f fd ps sp:=by
 obtain ⟨oc,od,kV,doc,pm,an,cdv,ct,osl,rfl,lk,hcd⟩:=F.ex
 refine yL lk hcd S len fun A outer s H vs Q E hr hsp=>?_
 obtain ⟨t,h,q⟩:=hbody cdv A outer s H vs Q E hr hsp
 exact ⟨t,h.nox,q⟩
theorem Fun.binds {x qual:Str} {st:Stmt} {f:Addr} {fd:IU} {ps:List Str} (F:Fun K x qual st f fd)
  (h:∀(kV doc pm:Gs) (an:Option Addr) (cdv ct:Gs) (us:List Gs),us.length=ps.length->Lo (Iq x qual (cq st) (bC st) (aj st) .none kV doc pm an cdv ct) ⟨us,[]⟩=pure (ps.zip us)):Binds K fd ps []:=by
 obtain ⟨oc,od,kV,doc,pm,an,cdv,ct,osl,rfl,lk,hcd⟩:=F.ex
 exact .all (h kV doc pm an cdv ct)
theorem AB {x qual:Str} {st:Stmt} {f:Addr} {oc:Gs} {od an:Option Addr} {osl:Array (Option Gs)} {kV doc pm cdv ct:Gs} (l:K.lookup f=some ⟨oc,od,.func (Iq x qual (cq st) (bC st) (aj st) .none kV doc pm an cdv ct),osl⟩)
  (c:K0 K cdv qual=true) (k:Jw K (.ref f)=true):Fun K x qual st f (Iq x qual (cq st) (bC st) (aj st) .none kV doc pm an cdv ct):=⟨⟨oc,od,kV,doc,pm,an,cdv,ct,osl,rfl,l,c⟩,k⟩
end
section
variable {X:Cx}
theorem pv (i:Nat) {x:Str} {pos:Pos} (hN:X.N[i]?=some x:=by rfl) (hv:Vis X.env.scope x:=by first | exact GB rfl | exact Ij (GB rfl) | exact Ij (Ij rfl)) (hd:(x==("__debug__":Str))=false:=by decide)
  (hcd:(x==("__classdict__":Str))=false:=by decide):PE X (.Name x pos) (bZ i):=mG hN hv hd hcd
end
end L2
section
namespace L2
open PySem PySem.Spec PyProof.Rows
theorem iK:HP "int"=some (.type "int"):=by decide +kernel
theorem ow:HP "bool"=some (.type "bool"):=by decide +kernel
theorem wo:HP "list"=some (.type "list"):=by decide +kernel
theorem fU:HP "tuple"=some (.type "tuple"):=by decide +kernel
theorem du:HP "len"=some (.builtin "len"):=by decide +kernel
theorem aY:HP "isinstance"=some (.builtin "isinstance"):=by decide +kernel
noncomputable def Has (P:G2) (w:HJ) (K:Gn) (mg:Str->Option Gs) (base:Heap) (k:Nat) (x:Str) (ps:List Str) (sp:Sp):Prop:=
 ∃(f:Addr) (fd:IU),iI P w K mg base CX0 k f fd ps sp/\mg x=some (.ref f)/\Jw K (.ref f)=true/\Binds K fd ps []/\∃(oc:Gs) (od:Option Addr) (osl:Array (Option Gs)),K.lookup f=some ⟨oc,od,.func fd,osl⟩
theorem ox {X:Cx} {j k:Nat} {x:Str} {ps:List Str} {sp:Sp} {e:Expr} {es:List Expr} {t:TA} {p pos:Pos} (E:Has X.prog X.w X.K X.mg X.base k x ps sp) (hr:ck j X.A) (ha:PA X (e::es) t)
  (hk:k<=j:=by decide) (hg:Gl X x:=by rfl) (hdb:(x==("__debug__":Str))=false:=by decide) (he:GM (e::es) X.env=(false,eval e X.env)::GM es X.env:=by rfl)
  (hpl:(JF pos (GM es X.env)).any (·.1)=false:=by rfl):PE X (.Call (.Name x p) (e::es) [] pos) (gS sp [] E0 t):=by
 obtain ⟨f,fd,F,hm,kp,hb,_⟩:=E
 exact j4 F (hr.mono hk) hg hm kp hb .nil Dj ha hdb he hpl
noncomputable def Src (K:Gn) (mg:Str->Option Gs) (x:Str) (st:Stmt):Prop:=∃(f:Addr) (fd:IU),Fun K x x st f fd/\mg x=some (.ref f)
theorem Src.has {P:G2} {w:HJ} {K:Gn} {mg:Str->Option Gs} {base:Heap} {x:Str} {st:Stmt} {N ps:List Str} {k:Nat} {sp:Sp} (S:Src K mg x st) (sc:aE N ps (aj st))
  (hb:∀(kV doc pm:Gs) (an:Option Addr) (cdv ct:Gs) (us:List Gs),us.length=ps.length->Lo (Iq x x (cq st) (bC st) (aj st) .none kV doc pm an cdv ct) ⟨us,[]⟩=pure (ps.zip us))
  (len:∀vs H Q E,sp vs H Q E->vs.length=ps.length)
  (hbody:∀(f:Addr) (cdv:Gs) (A:HQ) (outer:List Env) (s:Gv) (H:Hp) (vs:List V) (Q:VK) (E:XK),ck k (A.deeper (envOfC x (aj st) s.heap.objs.size f cdv))->sp vs H Q E ->
   ∃t,PSs (gB CX0 P w K mg base N x (aj st) f cdv A outer s H E).nox (bC st) t/\t { nx:=fun _ H'=>Q .non H',rt:=Q } (start N vs) H):Has P w K mg base (k+1) x ps sp:=by
 obtain ⟨f,fd,F,hm⟩:=S
 exact ⟨f,fd,F.ok sc len fun cdv A outer s H vs Q E hr h=>hbody f cdv A outer s H vs Q E hr h,hm,F.kp,F.binds hb,by obtain ⟨oc,od,kV,doc,pm,an,cdv,ct,osl,_,lk,_⟩:=F.ex;exact ⟨oc,od,osl,lk⟩⟩
theorem aP {K:Gn} {h:Heap} {mg:Str->Option Gs} {x:Str} {st:Stmt} {f:Addr} {oc:Gs} {od an:Option Addr} {osl:Array (Option Gs)} {kV doc pm cdv ct:Gs} (X:K.In h) (G:h.Ns GK mg)
  (a:GV K GK x=some (some (.ref f))) (l:K.lookup f=some ⟨oc,od,.func (Iq x x (cq st) (bC st) (aj st) .none kV doc pm an cdv ct),osl⟩)
  (c:K0 K cdv x=true) (k:Jw K (.ref f)=true):Src K mg x st:=⟨f,_,AB l c k,HG X G a⟩
theorem wq {P:G2} {w:HJ} {K:Gn} {mg:Str->Option Gs} {k:Nat} {st:Stmt} {fa:Addr} {x:Str} {sp:Sp} (S:Src K mg "law" st) (hfa:mg "law"=some (.ref fa))
  (hb:∀(kV doc pm:Gs) (an:Option Addr) (cdv ct:Gs) (v:Gs),Lo (Iq "law" "law" (cq st) (bC st) (aj st) .none kV doc pm an cdv ct) ⟨[v],[]⟩=pure [(x,v)])
  (all:∀base:Heap,Has P w K mg base k "law" [x] sp) :
  ∃fd:IU,(∀(s:Gv) (v:Gs),MR s fd ⟨[v],[]⟩ [(x,v)])/\∀base:Heap,K.In base->base.Ns GK mg->iI P w K mg base CX0 k fa fd [x] sp:=by
 obtain ⟨f,fd,F,hm⟩:=S
 have e:=hfa.symm.trans hm
 cases e
 obtain ⟨oc,od,kV,doc,pm,an,cdv,ct,osl,rfl,lk,_⟩:=F.ex
 refine ⟨_,fun s v=>.of_eq (hb kV doc pm an cdv ct v),fun base _ _=>?_⟩
 obtain ⟨f',fd',G',hm',_,_,oc',od',osl',lk'⟩:=all base
 have e:=hm.symm.trans hm'
 cases e
 rw [lk] at lk'
 injection lk' with e1
 injection e1 with _ _ e2 _
 injection e2 with e3
 rw [e3]
 exact G'
noncomputable def tH (ms:List Int):Int:=reduceHash (Builtin.Tuple.tupleHashOf (ms.map NN))
noncomputable def AC (x:List Int×Addr×Gs):KC:=⟨tH x.1,.ref x.2.1,x.2.2⟩
noncomputable abbrev EV:List (List Int×Addr×V)->List (List Int×Addr×Gs)->Prop:=Mt fun p q=>p.1=q.1/\p.2.1=q.2.1/\RelV p.2.2 q.2.2
noncomputable def DctP (a:Addr) (es:List (List Int×Addr×V)) (h:Heap):Prop:=
 es.length<=GZ/\(a==Jo)=false/\(es.map (·.1)).Nodup/\∃xs,EV es xs/\∃o ds ep,h.get? a=some o/\o.ExactDict/\o.data=.dict ds ep/\ds.toList=xs.map AC
noncomputable def bS (a:Addr) (ob:Obj) (es:List (List Int×Addr×V)):HO:=.ext fun h=>DctP a es h/\h.get? a=some ob
theorem DctP.ok {P:G2} {w:HJ} {H:Hp} {h:Heap} {a:Addr} {ob:Obj} {es:List (List Int×Addr×V)} (d:DctP a es h) (q:h.get? a=some ob):bA P w H h a (bS a ob es):=
 ⟨⟨d,q⟩,⟨ob,q⟩,fun _ _ zt1 k=>by obtain ⟨⟨z,m,nd,xs,ev,o,ds,ep,e,r⟩,q⟩:=zt1;exact ⟨⟨z,m,nd,xs,ev,o,ds,ep,k o e,r⟩,k ob q⟩⟩
theorem ig {X:Cx} {pins:List (Addr×Obj)} {σ:St} {H:Hp} {s:Gv} {a:Addr} {ob:Obj} {es:List (List Int×Addr×V)} (I:Inv X pins σ H s) (e:H a=some (bS a ob es)):DctP a es s.heap/\s.heap.get? a=some ob:=
 (show bA X.prog X.w H s.heap a (.ext fun h=>DctP a es h/\h.get? a=some ob) from I.hok a _ e).1
theorem ke {X:Cx} {pins:List (Addr×Obj)} {σ:St} {H:Hp} {s:Gv} {a:Addr} {ob:Obj} {es:List (List Int×Addr×V)} (I:Inv X pins σ H s) (e:H a=some (bS a ob es)):DctP a es s.heap:=(ig I e).1
inductive TyO (K:Gn) (H:Hp):V->String->Prop where
 | non:TyO K H .non "NoneType"
 | bl (x:Bool):TyO K H (.bl x) "bool"
 | int (i:Int):TyO K H (.int i) "int"
 | str (x:Str):TyO K H (.str x) "str"
 | lst {a:Addr} {xs:List V} (e:SqL K H a xs):TyO K H (.ref a) "list"
 | tup {a:Addr} {xs:List V} (e:SqT K H a xs):TyO K H (.ref a) "tuple"
 | dK {a:Addr} {kvs:List (Key×V)} (e:H a=some (.dK kvs)):TyO K H (.ref a) "dict"
 | dT {a:Addr} {kvs:List (List Key×V)} (e:H a=some (.dT kvs)):TyO K H (.ref a) "dict"
 | dE {a:Addr} {ob:Obj} {es:List (List Int×Addr×V)} (e:H a=some (bS a ob es)):TyO K H (.ref a) "dict"
noncomputable def qh (t c:String):Option Bool:=Ik [] (.type t) (.type c)
theorem lA {K:Gn} {t c:String}:Ik K (.type t) (.type c)=qh t c:=rfl
theorem kh:qh "int" "int"=some true:=by decide +kernel
theorem js:qh "int" "bool"=some false:=by decide +kernel
noncomputable def wu (K:Gn):List V->Hp->VK->Prop:=fun xs H Q=>∃x t c b,xs=[x,.ty c]/\TyO K H x t/\qh t c=some b/\Q (.bl b) H
theorem lB {X:Cx}:cL X (.builtin "isinstance") (wu X.K):=by
 intro pins s σ H xs us Q I r h
 obtain ⟨x,t,c,b,rfl,ty,e,q⟩:=h
 obtain ⟨u,w',rfl,rx,rc⟩:=vals2 r
 obtain rfl:w'=L0 c:=rc
 have e':Ik X.K (.type t) (.type c)=some b:=by rw [lA];exact e
 have fin:∀tk,EP X pins σ Q (.bool b) { s with toks:=tk }:=fun tk=>⟨.bl b,H,I.tok tk,rfl,q⟩
 cases ty with
 | non=>exact cQ I rx (.non) e' fin
 | bl y=>exact cQ I rx (.bl y) e' fin
 | int i=>exact cQ I rx (.int i) e' fin
 | str y=>exact cQ I rx (.str y) e' fin
 | dK ea=>exact cQ I rx (.dK ea) e' fin
 | dT ea=>exact cQ I rx (.dT ea) e' fin
 | @dE a ob es ea=>
  cases rx
  obtain ⟨_,_,_,_,_,o,_,_,h1,h2,_⟩:=ke I ea
  exact Hy Lc I.kIn ⟨o,h1,h2.1⟩ e' (fun z=>nomatch z) fin
 | lst ea=>
  cases rx
  obtain ⟨its,_,pl,_⟩:=I.list ea
  obtain ⟨o,h1,h2,_⟩:=pl.isList
  exact Hy Lb I.kIn ⟨o,h1,h2⟩ e' (fun z=>nomatch z) fin
 | tup ea=>
  cases rx
  obtain ⟨its,_,p,_⟩:=I.tuple ea
  obtain ⟨o,h1,h2,_⟩:=p
  exact Hy MA I.kIn ⟨o,h1,h2⟩ e' (fun z=>nomatch z) fin
section
variable {X:Cx}
noncomputable def iL (K:Gn) (H:Hp) (ps:List Addr) (mss:List (List Int)):Prop:=Mt (fun p ms=>SqT K H p (List.map V.int ms)) ps mss
end
noncomputable def oy:List Gs->Option (List Int)
 | []=>some []
 | .int i _::r=>(oy r).map (i::·)
 | _::_=>none
theorem lC:∀{us:List Gs} {ns:List Int},oy us=some ns->Vals (ns.map V.int) us
 | [],ns,e=>by cases e;exact .nil
 | u::r,ns,e=>by
  cases u with
  | int i t=>
   obtain ⟨ms,h1,rfl⟩:=Option.map_eq_some_iff.mp (show (oy r).map (i::·)=some ns from e)
   exact .cons ⟨t,rfl⟩ (lC h1)
  | _=>cases e
noncomputable def mR (K:Gn) (a:Addr):Option (List Gs):=match K.lookup a with
 | some ⟨.type "tuple",_,.seq its _,_⟩=>if its.toList.length<=1000 then some its.toList else none
 | _=>none
theorem oz {K:Gn} {H:Hp} {a:Addr} {us:List Gs} {xs:List V} (e:mR K a=some us) (r:Vals xs us):SqT K H a xs:=by
  unfold mR at e
  split at e
  · rename_i c its n sl lk
    split at e
    · rename_i hz
      cases e
      have hs:GZ=16777216:=Hv
      exact .inr ⟨_, its, n, lk, rfl, rfl, by have : its.toList.length = its.size := by simp
                                              lia,r⟩
    · cases e
  · cases e
noncomputable def okT (K:Gn) (v:Gs) (ns:List Int):Bool:=match v with
 | .ref a=>(match mR K a with | some us=>decide (oy us=some ns) | none=>false)
 | _=>false
theorem AD {K:Gn} {H:Hp} {v:Gs} {ns:List Int} (e:okT K v ns=true):∃a,v=.ref a/\SqT K H a (ns.map V.int):=by
 unfold okT at e
 split at e
 ·rename_i a
  split at e
  ·rename_i us h
   exact ⟨a,rfl,oz h (lC (of_decide_eq_true e))⟩
  ·cases e
 ·cases e
noncomputable def wy (K:Gn):List Gs->List (List Int)->Bool
 | [],[]=>true
 | v::r,ns::s=>okT K v ns&&wy K r s
 | _,_=>false
theorem ki {K:Gn} {H:Hp}:∀{us:List Gs} {nss:List (List Int)},wy K us nss=true->∃ps,Vals (ps.map V.ref) us/\iL K H ps nss
 | [],[],_=>⟨[],.nil,.nil⟩
 | u::r,ns::s,e=>by
  rw [wy,G5] at e
  obtain ⟨a,rfl,h⟩:=AD (H:=H) e.1
  obtain ⟨ps,h1,h2⟩:=ki e.2
  exact ⟨a::ps,.cons rfl h1,.cons h h2⟩
 | [],_::_,e=>by cases e
 | _::_,[],e=>by cases e
noncomputable def wz (K:Gn) (v:Gs) (nss:List (List Int)):Bool:=match v with
 | .ref a=>(match mR K a with | some us=>wy K us nss | none=>false)
 | _=>false
noncomputable def TTup (K:Gn) (v:V) (nss:List (List Int)):Prop:=∃a ps,v=.ref a/\∀H:Hp,SqT K H a (ps.map V.ref)/\iL K H ps nss
theorem wC {K:Gn} {v:Gs} {nss:List (List Int)} (e:wz K v nss=true):∃x,RelV x v/\TTup K x nss:=by
 unfold wz at e
 split at e
 ·rename_i a
  split at e
  ·rename_i us h
   obtain ⟨ps,h1,h2⟩:=ki (H:=fun _=>none) e
   refine ⟨.ref a,rfl,a,ps,rfl,fun H=>⟨oz h h1,?_⟩⟩
   obtain ⟨ps',h1',h2'⟩:=ki (H:=H) e
   have:=h1.inj h1'
   have e2:ps=ps':=by
    have:=congrArg (List.map (fun v=>match v with | V.ref i=>i | _=>0)) this
    simpa [HC,J8] using this
   rw [e2]
   exact h2'
  ·cases e
 ·cases e
noncomputable def wD (K:Gn):List KC->List (Int×List (List Int))->Bool
 | [],[]=>true
 | e::r,p::s=>Mk p.1 e.key&&decide (e.hash=NN p.1)&&wz K e.val p.2&&wD K r s
 | _,_=>false
noncomputable def okD (K:Gn) (d:Addr) (rows:List (Int×List (List Int))):Bool:=match K.lookup d with
 | some ⟨.type "dict",none,.dict es _,sl⟩=>sl.size==0&&wD K es.toList rows&&decide (rows.map (·.1)).Nodup
 | _=>false
theorem oA {P:G2} {w:HJ} {K:Gn}:∀{es:List KC} {rows:List (Int×List (List Int))},wD K es rows=true ->
  ∃kvs:List (Int×Gs),Pairs (MN P w) es kvs/\(∀e∈es,∃k,(MN P w).is k e.key=true/\e.hash=(MN P w).hash k)/\kvs.map (·.1)=rows.map (·.1) /\
   ∀k nss,(k,nss)∈rows->(rows.map (·.1)).Nodup->∃v,MU kvs k=some v/\wz K v nss=true
 | [],[],_=>⟨[],.nil,(fun _ h=>nomatch h),rfl,(fun _ _ h=>nomatch h)⟩
 | e::r,p::s,h=>by
  rw [wD,G5,G5,G5] at h
  obtain ⟨⟨⟨h1,h2⟩,h3⟩,h4⟩:=h
  obtain ⟨kvs,g1,g2,g3,g4⟩:=oA (P:=P) (w:=w) h4
  refine ⟨(p.1,e.val)::kvs,.cons h1 rfl g1,fun x hx=>?_,by simp [g3],fun k nss hk nd=>?_⟩
  ·rcases List.mem_cons.mp hx with rfl | hx
   ·exact ⟨p.1,h1,of_decide_eq_true h2⟩
   ·exact g2 x hx
  ·rw [GO,JQ] at nd
   rcases List.mem_cons.mp hk with rfl | hk
   ·exact ⟨e.val,by simp [MU],h3⟩
   ·obtain ⟨v,e1,e2⟩:=g4 k nss hk nd.2
    refine ⟨v,?_,e2⟩
    have ne:¬ p.1=k:=fun z=>nd.1 (List.mem_map.mpr ⟨(k,nss),hk,z.symm⟩)
    unfold MU at e1 ⊢
    rw [List.find?_cons_of_neg (by simpa using ne)]
    exact e1
 | [],_::_,h=>by cases h
 | _::_,[],h=>by cases h
noncomputable def Dk (K:Gn) (rows:List (Int×List (List Int))):R2:=fun x y H Q=>∃d k nss,x=.ref d/\y=.int k/\okD K d rows=true/\(k,nss)∈rows/\∀v,TTup K v nss->Q v H
theorem wF {X:Cx} {rows:List (Int×List (List Int))}:IxR X (Dk X.K rows):=by
 intro value slice pins s σ H x y v u Q I rx ry h hs
 obtain ⟨d,k,nss,rfl,rfl,hd,hk,q⟩:=h
 cases rx
 obtain ⟨t,rfl⟩:=ry
 unfold okD at hd
 split at hd
 ·rename_i es n sl lk
  rw [G5,G5] at hd
  obtain ⟨⟨h1,h2⟩,h3⟩:=hd
  obtain ⟨kvs,g1,g2,g3,g4⟩:=oA (P:=X.prog) (w:=X.w) h2
  have nd:=of_decide_eq_true h3
  obtain ⟨v,e1,e2⟩:=g4 k nss hk nd
  have sl0:sl=#[]:=by
   have:sl.size=0:=by simpa using h1
   exact Array.eq_empty_of_size_eq_zero this
  have D:s.heap.DictOf (MN X.prog X.w) d kvs:=⟨_,es,n,I.kIn d _ lk,⟨rfl,rfl,sl0⟩,rfl,fun e he=>g2 e (by simpa using he),g1,by rw [g3];exact nd⟩
  obtain ⟨x,rx,tt⟩:=wC e2
  exact Nn D.typeIs slot_dict_getitem.lookup (wpAny_getItem_of (k:=k) (by show Mk k (.int k t)=true;simp [Mk]) D.mapOf e1 ⟨x,H,I.tok _,rx,q x tt⟩) hs
 ·cases hd
end L2
end
variable {H:L2.Hp} {vs:List L2.V} {es:List (List Int×PySem.Addr×L2.V)} {σ:L2.St} {pins:List (PySem.Addr×PySem.Obj)} {ix:List Nat} {v:L2.V} {K:Gn} {ns:List Int} {ms:List Int} {mss:List (List Int)} {tg:List PySem.Str} {cs:List PySem.Str} {bo:List Int}
section
namespace L2
open PySem PySem.Spec PyProof.Rows
noncomputable def cr (env:Env):List (Str×IQ)->List (Str×Addr)->List (Str×Addr)
 | [],acc=>acc
 | (n,k)::r,acc=>cr env r (if (k==Ht)=true then (match env.cells.lookup n with | some c=>(n,c)::acc | none=>acc) else acc)
theorem eF {env:Env}:∀{l:List (Str×IQ)} {acc:List (Str×Addr)} {n:Str} {c:Addr},(n,c)∈cr env l acc->(n,c)∈acc\/env.cells.lookup n=some c
 | [],_,_,_,h=>.inl h
 | (m,k)::r,acc,n,c,h=>by
  unfold cr at h
  rcases eF h with h | h
  ·split at h
   ·split at h
    ·rename_i c' e
     rcases List.mem_cons.mp h with h | h
     ·cases h;exact .inr e
     ·exact .inl h
    ·exact .inl h
   ·exact .inl h
  ·exact .inr h
theorem jA {env:Env}:∀{l:List (Str×IQ)} {acc:List (Str×Addr)} {p:Str×Addr},p∈acc->p∈cr env l acc
 | [],_,_,h=>h
 | (m,k)::r,acc,p,h=>by
  unfold cr
  refine jA ?_
  split
  ·split
   ·exact GU _ h
   ·exact h
  ·exact h
theorem lD {env:Env}:∀{l:List (Str×IQ)} {acc:List (Str×Addr)} {n:Str} {c:Addr},(n,Ht)∈l->env.cells.lookup n=some c->(n,c)∈cr env l acc
 | (m,k)::r,acc,n,c,h,e=>by
  unfold cr
  rcases List.mem_cons.mp h with h | h
  ·cases h
   refine jA ?_
   rw [if_pos (show (Ht==Ht)=true from rfl),e]
   exact GG
  ·exact lD h e
theorem cellOf_eq {env:Env} {n:Str} {c:Addr} (h:env.cells.lookup n=some c):cellOf env n=pure c:=by
 unfold cellOf
 rw [h]
theorem fH {env:Env} {scope:Jz} (h:∀n,(n,Ht)∈scope.names->∃c,env.cells.lookup n=some c):closureFor scope env=pure (cr env scope.names []):=by
 have all:∀(l:List (Str×IQ)) (acc:List (Str×Addr)),(∀n,(n,Ht)∈l->∃c,env.cells.lookup n=some c) ->
   (forIn l acc fun (x:Str×IQ) (cs:List (Str×Addr))=>(if (x.2==Ht)=true then (do let c <- cellOf env x.1;pure (KD ((x.1,c)::cs))) else pure (KD cs):Sem (ForInStep (List (Str×Addr)))))=pure (cr env l acc):=by
  intro l
  induction l with
  | nil=>intro acc _;rfl
  | cons x r ih=>
   intro acc hl
   obtain ⟨n,k⟩:=x
   rw [List.forIn_cons]
   unfold cr
   cases hk:(k==Ht) with
   | true=>
    have hk':k=Ht:=by simpa using hk
    subst hk'
    obtain ⟨c,e⟩:=hl n GG
    simp only [if_true,cellOf_eq e,pure_bind,e]
    exact ih _ fun m hm=>hl m (GU _ hm)
   | false=>
    simp only [Hz,if_false,pure_bind]
    exact ih _ fun m hm=>hl m (GU _ hm)
 have q:=all scope.names [] h
 unfold closureFor
 first
  | (simp only [bind_pure_comp,map_pure] at q ⊢;rw [q];rfl)
  | (rw [q];rfl)
  | exact q
noncomputable def ao (X:Cx) (scope:Jz) (N:List Str) (C:Addr) (fp:List Addr) (s₀:Gv) (H₀:Hp):Cx:=
 { X with N:=N,s₀:=s₀,H₀:=H₀,env:=Ks scope (cr X.env scope.names []) C X.env,outer:=X.stack,stack:=X.stack,ex:=fp,fn:=fun _=>false,pn:=[],xe:=fun _ _=>False }
noncomputable def capt (n:Nat) (ix:List Nat) (σ:St):St:=He n none++ix.map fun i=>(σ[i]?).getD none
structure bf (X:Cx) (scope:Jz) (tg cs:List Str) (ix:List Nat):Prop where
 kind:scope.kind=.function
 nocell:∀y∈scope.names,y.2≠.cell
 names:∀y∈scope.names,y.2=.local->scope.names.lookup y.1=some .local
 nd:(tg++cs).Nodup
 at_:ix.map (fun i=>X.N[i]?)=cs.map some
 free:∀x∈cs,(x,Ht)∈scope.names/\scope.names.lookup x=some .free
 out:∀x,(x,Ht)∈scope.names->X.env.scope.names.lookup x=some .cell\/X.env.scope.names.lookup x=some .free
theorem fV {f:Str×IQ->Str×IQ} (hf:∀p,(f p).1=p.1):∀(names:List (Str×IQ)) (x:Str),(names.map f).lookup x=(names.lookup x).map fun k=>(f (x,k)).2
 | [],_=>rfl
 | p::r,x=>by
  have e:f p=(p.1,(f p).2):=by rw [<- hf p]
  rw [GO,e,List.lookup_cons,List.lookup_cons,fV hf r x]
  cases q:x==p.1 with
  | false=>rfl
  | true=>
   have z:x=p.1:=by simpa using q
   subst z
   rfl
noncomputable def freed (env:Env) (p:Str×IQ):Bool:=p.2==Ht&&env.scope.kind==.function&&env.kindOf p.1==some .cell
theorem fW {env:Env} {names:List (Str×IQ)} {x:Str} :
  (names.map fun (n,k)=>if (k==Ht&&env.scope.kind==.function&&env.kindOf n==some .cell) then (n,Lp) else (n,k)).lookup x=(names.lookup x).map fun k=>if freed env (x,k)=true then .cell else k:=by
 refine (fV (fun p=>?_) names x).trans ?_
 ·dsimp only
  split <;> rfl
 ·congr 1
  funext k
  unfold freed
  dsimp only
  split <;> rfl
theorem cM {env:Env} {names:List (Str×IQ)} {x:Str} {k:IQ}
  (h:(names.map fun (n,k)=>if (k==Ht&&env.scope.kind==.function&&env.kindOf n==some .cell) then (n,Lp) else (n,k)).lookup x=some k) (hk:k=.cell\/k=.free) (nc:∀y∈names,y.2≠.cell):(x,Ht)∈names:=by
 rw [fW] at h
 cases q:names.lookup x with
 | none=>rw [q] at h;cases h
 | some k0=>
  have hm:=HF q
  suffices z:k0=.free by rw [<- z];exact hm
  rw [q] at h
  by_cases c:freed env (x,k0)=true
  ·unfold freed at c
   simp only [G5,beq_iff_eq] at c
   exact c.1.1
  ·have h2:k0=k:=by simpa [c] using h
   rcases hk with e | e
   ·exact absurd (h2.trans e) (nc _ hm)
   ·exact h2.trans e
theorem fw {env:Env} {names:List (Str×IQ)} {x:Str} (h:names.lookup x=some .free) :
  (names.map fun (n,k)=>if (k==Ht&&env.scope.kind==.function&&env.kindOf n==some .cell) then (n,Lp) else (n,k)).lookup x=some .cell \/
  (names.map fun (n,k)=>if (k==Ht&&env.scope.kind==.function&&env.kindOf n==some .cell) then (n,Lp) else (n,k)).lookup x=some .free:=by
 rw [fW,h]
 by_cases c:freed env (x,.free)=true
 ·exact .inl (by simp [c])
 ·exact .inr (by simp [c])
section
variable {X:Cx} {pins:List (Addr×Obj)} {σ:St} {H H1:Hp} {s:Gv}
theorem Inv.track {D:Addr} {o:HO} (I:Inv X pins σ H s) (hn:H D=none) (hs:X.s₀.heap.objs.size<=D) (hL:D≠X.env.locals) (hc:∀x c,X.env.cells.lookup x=some c->c≠D) (hp:∀p∈X.pn++pins,p.1≠D)
  (new:bA X.prog X.w (upd H D o) s.heap D o):Inv X pins σ (upd H D o) s:=by
 have nb:∀b ob,X.s₀.heap.get? b=some ob->b≠D:=fun b ob e z=>by subst z;exact absurd (GR (GI e) hs) (Ic _)
 refine ⟨I.ok,I.os,I.bare,⟨I.base.keep,I.base.slot,fun b ob e n hx=>?_,I.base.there,fun b xs e=>?_,fun b ob u e=>?_,fun b ps e=>?_⟩,I.loc,I.cell,?_,fun x c e=>?_,fun p hpp=>?_,fun b u e=>?_,I.len⟩
 ·rw [aB (nb b ob e)];exact I.base.free b ob e n hx
 ·have q:=I.base.tups b xs e
  rw [aB (bp q hn)];exact q
 ·have q:=I.base.frzs b ob u e
  rw [aB (bp q hn)];exact q
 ·obtain ⟨more,q⟩:=I.base.tbls b ps e
  exact ⟨more,by rw [aB (bp q hn)];exact q⟩
 ·rw [aB hL.symm];exact I.free
 ·rw [aB (hc x c e)];exact I.freeC x c e
 ·obtain ⟨a,b,c,d,e⟩:=I.pin p hpp
  exact ⟨a,by rw [aB (hp p hpp)];exact b,c,d,e⟩
 ·by_cases hb:b=D
  ·subst hb;rw [ay] at e;cases e;exact new
  ·rw [aB hb] at e
   exact (I.hok b u e).stay (fun _ _ _ q=>q) (fun c q=>by rw [aB (bp q hn)];exact q) fun c xs q=>by rw [aB (bp q hn)];exact q
theorem dB {X:Cx} {tg cs:List Str} (hat:ix.map (fun i=>X.N[i]?)=cs.map some) {i:Nat} {x:Str} (h1:(tg++cs)[i]?=some x) (h2:(capt tg.length ix σ)[i]?=some (some v)) :
  x∈cs/\∃k:Nat,X.N[k]?=some x/\σ[k]?=some (some v):=by
 unfold capt at h2
 by_cases hi:i < tg.length
 ·rw [GY (by simpa using hi),JN,if_pos hi] at h2
  cases h2
 ·rw [GN (by simpa using hi),Jl,GH] at h2
  rw [GN (by lia)] at h1
  cases e:ix[i-tg.length]? with
  | none=>rw [e] at h2;cases h2
  | some k=>
   rw [e] at h2
   have h2:(σ[k]?).getD none=some v:=GP h2
   have q:=congrArg (fun l=>l[i-tg.length]?) hat
   simp only [GH,e,h1,Option.map_some] at q
   refine ⟨HR h1,k,GP q,?_⟩
   cases z:σ[k]? with
   | none=>rw [z] at h2;cases h2
   | some y=>rw [z] at h2;exact congrArg some h2
end
noncomputable def PTs (X:Cx) (ifs:List Expr) (t:TT):Prop:=
 ∀(pins:List (Addr×Obj)) (s:Gv) (σ:St) (H:Hp) (Q:Bool->Hp->Prop),Inv X pins σ H s->t σ H Q ->
  Hj (Ha X.prog X.w) X.A (forIn ifs true fun c r=>if r=true then do let ok <- Nd c X.env (eval c X.env);pure (KD ok) else pure (KD r)) (TP X pins σ Q) X.xe s
noncomputable def yP:TT:=fun _ H Q=>Q true H
theorem wG {X:Cx}:PTs X [] yP:=fun _ _ _ H _ I h=>wpAny_tests_nil ⟨H,I,h⟩
theorem wH {X:Cx} {c:Expr} {t:TT} (h:PT X c t):PTs X [c] t:=fun pins s σ H Q I hw=>wpAny_tests_one (h pins s σ H Q I hw)
noncomputable def cR (n:Nat) (ix:List Nat) (g:TG):Prop:=∀x σ H Q,g x (capt n ix σ) H Q->g x (capt n ix σ) H fun σ2 H2=>(σ2.length=(capt n ix σ).length/\∀(i:Nat) (v:V),(capt n ix σ)[i]?=some (some v)->σ2[i]?=some (some v))/\Q σ2 H2
theorem e8 {n:Nat} {j:Nat} (h:j < n) (e:(capt n ix σ)[j]?=some (some v)):False:=by
 unfold capt at e
 rw [GY (by simpa using h),JN,if_pos h] at e
 cases e
theorem bu {n:Nat} {j:Nat} (h:j < n):cR n ix (bF j):=fun x σ H Q q=>⟨⟨by simp,fun i v e=>by
 by_cases hi:j=i
 ·subst hi;exact (e8 h e).elim
 ·rw [G3 hi];exact e⟩,q⟩
theorem dD {n:Nat} {m j k:Nat} (h:j < n) (h':k < n):cR n ix (Ah K m (nX (bF j) (nX (bF k) Ag))):=fun x σ H Q q=>by
 obtain ⟨a,xs,e1,hq,hl,v,r,e2,v',r',e3,e4,q⟩:=q
 refine ⟨a,xs,e1,hq,hl,v,r,e2,v',r',e3,e4,⟨by simp,fun i v e=>?_⟩,q⟩
 by_cases hi:j=i
 ·subst hi;exact (e8 h e).elim
 ·by_cases hk:k=i
  ·subst hk;exact (e8 h' e).elim
  ·rw [G3 hk,G3 hi];exact e
noncomputable def iM (wi:TI) (n:Nat) (ix:List Nat) (g:TG) (tc:TT) (te:TE):TE:=fun σ H Q=>wi σ H fun J H1=>∃W:Nat->Nat->List V->Hp->Prop,(∃m,W 0 m [] H1)/\∀i m ys H2,W i m ys H2 ->
 (J.stop i H2/\ys.length<=GZ/\∀D,H2 D=none->Q (.ref D) (upd H2 D (.lst ys))) \/
 (J.go i H2/\ys.length < GZ/\∃Nx:List V->Hp->Prop,(∀ys' H',Nx ys' H'->∃m',m' < m/\W (i+1) m' ys' H') /\
  ∀x H3,J.yld i H2 x H3->g x (capt n ix σ) H3 fun σ2 H4=>tc σ2 H4 fun b H5=>if b=true then te σ2 H5 fun v H6=>Nx (ys++[v]) H6 else Nx ys H5)
section
variable {X:Cx} {pins:List (Addr×Obj)} {σ:St} {H H1:Hp} {s:Gv}
theorem iN {scope:Jz} {tg cs:List Str} {fp:List Addr} {s4:Gv} (S:bf X scope tg cs ix) (I:Inv X pins σ H s) (hf:∀b∈fp,gY X pins H b) (ho:∀b∈fp,∃o,s.heap.get? b=some o) {C:Addr} (hC:s.heap.objs.size<=C)
  (hk:∀b o,s.heap.get? b=some o->s4.heap.get? b=some o) (hns:s4.heap.Ns C fun _=>none) (os:s4.os=s.os) (bare:KZ s4.gens) (hn:H C=none) :
  Inv (ao X scope (tg++cs) C fp s H) [] (capt tg.length ix σ) H s4:=by
 have clX:∀x c,(cr X.env scope.names []).lookup x=some c->X.env.cells.lookup x=some c:=fun x c e=>by
  rcases eF (HF e) with h | h
  ·cases h
  ·exact h
 have hasC:∀x,(x,Ht)∈scope.names->∃c,(cr X.env scope.names []).lookup x=some c:=fun x hx=>by
  obtain ⟨c,e⟩:=I.ok.has x (S.out x hx)
  have m:=lD (acc:=[]) hx e
  cases q:(cr X.env scope.names []).lookup x with
  | some c'=>exact ⟨c',rfl⟩
  | none=>
   have:=List.lookup_eq_none_iff.mp q (x,c) m
   simp at this
 refine ⟨⟨I.ok.mod,?_,I.ok.glob,I.ok.blt,hC,fun x y c e1 e2=>I.ok.inj x y c (clX x c e1) (clX y c e2),fun x hx=>?_,fun x c h=>?_,I.ok.hd,I.ok.frames,.inl rfl,fun b hb=>⟨?_,fun x c e=>?_⟩,I.bs,HY I.ok.bsz I.sz,fun b o e hb=>?_,fun b hb hx=>?_,I.stack,I.stkFree⟩,
  os,bare,Un.kept hk,⟨_,hns,fun i x v e1 e2 e3=>?_⟩,fun x c e=>?_,hn,fun x c e=>I.freeC x c (clX x c e),fun p hp=>(by cases hp),I.hok.kept hk,?_⟩
 ·show (relabel scope X.env).kind=.function
  exact S.kind
 ·have hx':(relabel scope X.env).names.lookup x=some .cell\/(relabel scope X.env).names.lookup x=some .free:=hx
  rcases hx' with h | h
  ·exact hasC x (cM h (.inl rfl) S.nocell)
  ·exact hasC x (cM h (.inr rfl) S.nocell)
 ·cases h
 ·obtain ⟨o,e⟩:=ho b hb
  exact Hn (GR (GI e) hC)
 ·exact (hf b hb).2.2.2.2.1 x c (clX x c e)
 ·obtain ⟨_,_,_,h,_⟩:=hf b hb
  rcases h with h | h
  ·exact I.ok.noex b o e h
  ·exact absurd (GR (GI (I.ok.bs b o e).1) h) (Ic _)
 ·have hx:b∈frs X.stack:=hx
  obtain ⟨_,h1,h2,_⟩:=hf b hb
  rcases List.mem_cons.mp (I.stkSub b hx) with h | h
  ·exact h1 h
  ·exact h2 h
 ·obtain ⟨hx,k,h1,h2⟩:=dB (X:=X) S.at_ e1 e2
  obtain ⟨hx1,hx2⟩:=S.free x hx
  obtain ⟨m,hnm,hl⟩:=I.loc
  have ov:=S.out x hx1
  obtain ⟨u,r,l⟩:=hl k x v h1 h2 (by rcases ov with z | z;exact .inr (.inl z);exact .inr (.inr z))
  refine ⟨u,r,?_⟩
  rcases l with ⟨l,_⟩ | ⟨_,c,lc,ic⟩
  ·have l:X.env.scope.names.lookup x=some .local:=l
   rcases ov with z | z <;> rw [z] at l <;> cases l
  ·obtain ⟨c',e'⟩:=hasC x hx1
   have:=(clX x c' e').symm.trans lc
   cases this
   refine .inr ⟨fw hx2,c,e',?_⟩
   obtain ⟨o,ho1,ho2⟩:=ic
   exact ⟨o,hk c o ho1,ho2⟩
 ·obtain ⟨v,o,ho1,ho2⟩:=I.cell x c (clX x c e)
  exact ⟨v,o,hk c o ho1,ho2⟩
 ·show (capt tg.length ix σ).length=(tg++cs).length
  have:=congrArg IS S.at_
  simp only [Gx] at this
  unfold capt
  simp [this]
theorem jB {use:Option (Gs->Sem Unit)} {Qc:Gs->Gv->Prop} {pos':Pos} {elt target iter:Expr} {ifs:List Expr} {scope:Jz} {pos:Pos} {tg cs:List Str} {wi:TI} {g:TG} {tc:TT} {te:TE} (S:bf X scope tg cs ix) (hcalm:X.calm=true) (kg:cR tg.length ix g) {Φ:Hp->Prop} (hΦ:∀pins σ H s,Inv X pins σ H s->Φ H)
    (hi:PI X target iter wi) (hg:∀C fp s H,PG (ao X scope (tg++cs) C fp s H) target g) (hc:∀C fp s H,Φ H->PTs (ao X scope (tg++cs) C fp s H) ifs tc) (he:∀C fp s H,Φ H->PE (ao X scope (tg++cs) C fp s H) elt te)
    (hs:∀x,G7 iter X.env x=pure x) {pins:List (Addr×Obj)} {s:Gv} {σ:St} {H:Hp} {Q:VK} (I:Inv X pins σ H s) (h:iM wi tg.length ix g tc te σ H Q)
    (fin:∀D C H' s' v,Inv X pins σ H' s'->Q (.ref D) H'->gY X pins H' C->(∃m,s'.heap.Ns C m)->NR (Ha X.prog X.w) X.A X.xe use Qc (.ref D) C (.ok v) s') :
    Hj (Ha X.prog X.w) X.A (ME (.ListComp elt [⟨target,iter,ifs,0⟩] scope pos) scope X.env pos' (newList []) false (eval iter X.env) use) Qc X.xe s:=by
  refine JI (use:=use) (cl:=cr X.env scope.names []) rfl hs (fH fun n hn=>I.ok.has n (S.out n hn)) S.kind S.names ?_
  refine G9 (hi pins s σ H _ I h) (fun v s1 h1=>G9 h1 (fun itv s2 h2=>?_) fun _ _ e=>e) fun _ _ e=>e
  obtain ⟨it,fp,tn,J,H2,rfl,I2,T,st2,f2,W,⟨m0,w0⟩,turn⟩:=h2
  refine HE (Ko S.nocell (by intro y hy;simp at hy) (fun h1 hns1 hsb1=>?_) S.kind)
  dsimp only at hns1 hsb1 ⊢
  generalize hP:s2.heap.push { cls:=.type "list",dict:=none,data:=.seq ([]:List Gs).toArray }=P2 at hns1 hsb1 ⊢
  have hCs:P2.objs.size=s2.heap.objs.size+1:=by rw [<- hP,Kf]
  have hDC:s2.heap.objs.size≠P2.objs.size:=by rw [hCs];exact Hn (Ig _)
  have hCle:s2.heap.objs.size<=P2.objs.size:=by rw [hCs];exact JC _
  generalize hCg:P2.objs.size=C at *
  have old:∀b o,s2.heap.get? b=some o->h1.get? b=some o:=fun b o e=>hsb1.extBut b o (Hn (GR (GI e) hCle)) (Gu _ (hP▸Gu _ e))
  generalize hDg:s2.heap.objs.size=D at *
  have hD0:h1.get? D=some { cls:=.type "list",data:=.seq ([]:List Gs).toArray 0 }:=hsb1.extBut _ _ hDC (Gu _ (hP▸hDg▸GQ _ rfl))
  have nC:H2 C=none:=I2.hok.fresh (by rw [hDg];exact hCle)
  have nD:H2 D=none:=I2.hok.fresh (by rw [hDg];exact Gz _)
  have fo:∀b∈fp,∃o,s2.heap.get? b=some o:=fun b hb=>let ⟨o,e,_⟩:=T.obj _ _ st2 b hb;⟨o,e⟩
  have Dfp:D∉fp:=fun z=>by
    obtain ⟨o,e⟩:=fo D z
    have:=GI e
    rw [hDg] at this
    exact absurd this (Ic _)
  have Dfs:D∉frs X.stack:=fun z=>by
    rcases List.mem_cons.mp (I2.stkSub D z) with e | e
    · have:=I2.lt
      rw [<- e,hDg] at this
      exact absurd this (Ic _)
    · exact I2.nofs (by rw [hDg];exact Gz _) e
  have DcY:∀x c,(cr X.env scope.names []).lookup x=some c->c≠D:=fun x c e=>by
    rcases eF (HF e) with h | h
    · cases h
    · exact (I2.fpOk (H':=H2) (b:=D) (by rw [hDg];exact Gz _) nD).2.2.2.2.1 x c h
  -- the block's context
  have Yok:∀s4:Gv,s4={ s2 with heap:=h1,toks:=s2.toks+([]:List (Str×Gs)).length }->Inv (ao X scope (tg++cs) C fp s2 H2) [] (capt tg.length ix σ) H2 s4:=by
    rintro s4 rfl
    exact iN S I2 f2 fo (by rw [hDg];exact hCle) old (by simpa using hns1) rfl I2.bare nC
  -- the loop
  have loop:∀s4:Gv,s4={ s2 with heap:=h1,toks:=s2.toks+([]:List (Str×Gs)).length } ->
      JB (Ha X.prog X.w) X.A (.compLoop (.ListComp elt [⟨target,iter,ifs,0⟩] scope pos) 0 (.ref it) (.ref D) (Ks scope (cr X.env scope.names []) C X.env)) (NR (Ha X.prog X.w) X.A X.xe use Qc (.ref D) C) s4:=by
    intro s4 e4
    refine LN rfl (fun n s'=>∃i ys its k H',Inv (ao X scope (tg++cs) C fp s2 H2) [] (capt tg.length ix σ) H' s'/\tn i s'.heap/\(∀b∈fp,H' b=none)/\H' D=none/\s'.heap.get? D=some { cls:=.type "list",data:=.seq (its:List Gs).toArray k }/\Vals ys its/\W i n ys H')
      ?_ m0 ⟨0,[],[],0,H2,Yok s4 e4,?_,fun b hb=>(f2 b hb).1,nD,by rw [e4];exact hD0,.nil,w0⟩
    · rintro n s5 ⟨i,ys,its,k,H5,I5,st5,fr5,d5,o5,v5,w5⟩
      show Hj _ X.A ((MF (.ListComp elt [⟨target,iter,ifs,0⟩] scope pos) 0 (.ref it) (.ref D) (Ks scope (cr X.env scope.names []) C X.env)).onRaise (fun x=>do Nz x (Ks scope (cr X.env scope.names []) C X.env);LO x)) _ _ s5
      refine Ml ?_
      rw [compTurn_list]
      have pin0:Inv (ao X scope (tg++cs) C fp s2 H2) [(D,{ cls:=.type "list",data:=.seq its.toArray k })] (capt tg.length ix σ) H5 s5:=I5.pins_of fun p hp=>by
        have e:p=(D,{ cls:=.type "list",data:=.seq its.toArray k }):=by simpa using hp
        subst e
        exact ⟨o5,d5,hDC,Dfs,fun v z=>by have z':Data.seq _ _=Data.cell v:=z;cases z'⟩
      have fpY:∀{H':Hp},(∀b∈fp,H' b=none)->∀b∈fp,gY (ao X scope (tg++cs) C fp s2 H2) [(D,{ cls:=.type "list",data:=.seq its.toArray k })] H' b:=fun hn b hb=>
        ⟨hn b hb,(I5.ok.exf b hb).1,fun z=>I5.ok.exfs b hb z,.inl hb,(I5.ok.exf b hb).2,fun p hp z=>by
          have hp:p∈([]:List (Addr×Obj))++[(D,{ cls:=.type "list",data:=.seq its.toArray k })]:=hp
          have e:p=(D,{ cls:=.type "list",data:=.seq its.toArray k }):=by simpa using hp
          subst e
          have z:D=b:=z
          exact Dfp (z▸hb)⟩
      refine Gp (Il (Gp ?_))
      rcases turn i n ys H5 w5 with ⟨stop,hz,qn⟩ | ⟨go,hz,Nx,hN,step⟩
      · refine thn (T.done (ao X scope (tg++cs) C fp s2 H2) rfl rfl rfl hcalm i _ s5 _ H5 _ pin0 (fpY fr5) st5 stop) fun r s6 zr1=>?_
        obtain ⟨hr,I6⟩:=zr1
        subst hr
        refine GA ?_
        obtain ⟨mC,hnsC,_⟩:=id I6.loc
        have IX:Inv X pins σ H5 s6:=I2.call' (ch:=fp) I6.os I6.base I6.hok I6.bare fun b hb=>let ⟨_,a1,_,a3,a4,a5⟩:=f2 b hb;⟨a3,a1,a4,a5⟩
        obtain ⟨_,b1,_,b3,b4,b5⟩:=I2.fpOk (H':=H5) (b:=D) (by rw [hDg];exact Gz _) d5
        obtain ⟨_,c1,c2,c3,c4,c5⟩:=I2.fpOk (H':=H5) (b:=C) (by rw [hDg];exact hCle) I6.free
        have gD:s6.heap.get? D=some { cls:=.type "list",data:=.seq its.toArray k }:=(I6.pin (D,{ cls:=.type "list",data:=.seq its.toArray k }) (Gq _ GG)).1
        have IXD:Inv X pins σ (upd H5 D (.lst ys)) s6:=IX.track d5 (by rw [<- hDg];exact I2.sz) b1 b4 b5 ⟨hz,its,k,v5,gD⟩
        exact fin D C _ s6 _ IXD (qn D d5) ⟨by rw [aB (J1 hDC)];exact I6.free,c1,c2,c3,c4,c5⟩ ⟨mC,hnsC⟩
      · refine thn (T.item (ao X scope (tg++cs) C fp s2 H2) rfl rfl rfl hcalm i _ s5 _ H5 _ pin0 (fpY fr5) st5 go) fun r s6 zr1=>?_
        obtain ⟨u,hr,h6⟩:=zr1
        subst hr
        refine Gp (thn h6 fun _ s7 zr1=>?_)
        obtain ⟨x,H7,I7,r7,y7,st7,fr7⟩:=zr1
        have I7':=I7.pinned (fpY fr7) (T.obj _ _ st7)
        -- the next turn
        have again:∀{σ2:St} {H8:Hp} {s8:Gv} {ys':List V} {its':List Gs} {k':Nat} , Inv (ao X scope (tg++cs) C fp s2 H2) [] σ2 H8 s8->(σ2.length=(capt tg.length ix σ).length/\∀(i:Nat) (v:V),(capt tg.length ix σ)[i]?=some (some v)->σ2[i]?=some (some v)) ->
            (∀b∈fp,∀o,s7.heap.get? b=some o->s8.heap.get? b=some o)->(∀b∈fp,H8 b=none)->H8 D=none->s8.heap.get? D=some { cls:=.type "list",data:=.seq its'.toArray k' }->Vals ys' its'->Nx ys' H8 ->
            ∃m,m < n/\∃i ys its k H',Inv (ao X scope (tg++cs) C fp s2 H2) [] (capt tg.length ix σ) H' s8/\tn i s8.heap/\(∀b∈fp,H' b=none)/\H' D=none/\s8.heap.get? D=some { cls:=.type "list",data:=.seq (its:List Gs).toArray k }/\Vals ys its/\W i m ys H':=by
          intro σ2 H8 s8 ys' its' k' I8 kp fk fn dn dg vv nx
          obtain ⟨m',hm,w8⟩:=hN ys' H8 nx
          exact ⟨m',hm,i+1,ys',its',k',H8,I8.weak kp.1.symm kp.2,T.keep _ _ _ st7 fk,fn,dn,dg,vv,w8⟩
        refine Gp (G9 (hg C fp s2 H2 _ s7 _ H7 x u _ I7' r7 (kg x σ H7 _ (step x H7 y7))) (fun _ s8 zr1=>?_) fun _ _ z=>z.elim)
        obtain ⟨σ8,H8,I8,kp8,q8⟩:=zr1
        refine Gp (G9 (hc C fp s2 H2 (hΦ _ _ _ _ I2) _ s8 σ8 H8 _ I8 q8) (fun ok s9 zr1=>?_) fun _ _ z=>z.elim)
        obtain ⟨H9,I9,q9⟩:=zr1
        have pinsOf:∀{σ':St} {H':Hp} {s':Gv},Inv (ao X scope (tg++cs) C fp s2 H2) ([(D,{ cls:=.type "list",data:=.seq its.toArray k })]++dt fp s7.heap) σ' H' s' ->
            (∀b∈fp,∀o,s7.heap.get? b=some o->s'.heap.get? b=some o)/\(∀b∈fp,H' b=none)/\H' D=none/\s'.heap.get? D=some { cls:=.type "list",data:=.seq its.toArray k }:=by
          intro σ' H' s' I'
          refine ⟨fun b hb o e=>(I'.pin (b,o) (Gq _ (Gq _ (bq hb e)))).1,fun b hb=>?_,(I'.pin (D,{ cls:=.type "list",data:=.seq its.toArray k }) (Gq _ (Hh _ GG))).2.1,(I'.pin (D,{ cls:=.type "list",data:=.seq its.toArray k }) (Gq _ (Hh _ GG))).1⟩
          obtain ⟨o,e,d⟩:=T.obj _ _ st7 b hb
          exact (I'.pin (b,o) (Gq _ (Gq _ (bq hb e)))).2.1
        cases ok with
        | false=>
          obtain ⟨p1,p2,p3,p4⟩:=pinsOf I9
          exact GA ⟨rfl,again (I9.pins_of fun p hp=>nomatch hp) kp8 p1 p2 p3 p4 v5 q9⟩
        | true=>
          have q9:te σ8 H9 fun v H6=>Nx (ys++[v]) H6:=q9
          refine Gp (Gp (G9 (he C fp s2 H2 (hΦ _ _ _ _ I2) _ s9 σ8 H9 _ I9 q9) (fun y s10 zr1=>?_) fun _ _ z=>z.elim))
          obtain ⟨v,H10,I10,rv,nx⟩:=zr1
          obtain ⟨p1,p2,p3,p4⟩:=pinsOf I10
          have hl5:=v5.length
          refine Gp (Ld F.slot_list_append ⟨_,p4,rfl⟩ F.entry_list_append (F.args_list_append_2 _ _) (MS D its.toArray k y (by rw [GC];lia)) ⟨p4,?_⟩)
          have g10:=PySem.IsL.update p4 (·.push y)
          rw [show its.toArray.push y=(its++[y]).toArray by simp] at g10
          have I11:Inv (ao X scope (tg++cs) C fp s2 H2) [] σ8 H10 s10:=I10.pins_of fun p hp=>nomatch hp
          have I12:Inv (ao X scope (tg++cs) C fp s2 H2) [] σ8 H10 { s10 with heap:=s10.heap.update D (IB (·.push y)) }:=
            I11.turned (t':=s10.toks) (fun b o hb e=>(HB s10.heap (IB (·.push y)) (J1 hb)).trans e) p3 hDC (.inr (by show s2.heap.objs.size<=D;rw [hDg];exact Gz _)) DcY (fun p hp=>nomatch hp)
          refine GA (GA ⟨rfl,again (its':=its++[y]) I12 kp8 (fun b hb o e=>?_) p2 p3 g10 (v5.append (.cons rv .nil)) nx⟩)
          exact (HB s10.heap (IB (·.push y)) (fun z:D=b=>Dfp (z▸hb))).trans (p1 b hb o e)
    · rw [e4];exact T.keep _ _ _ st2 fun b _ o e=>old b o e
  exact codeAny_compStart_list (loop _ rfl) (T.self _ 0 _ _ _ (T.keep _ _ _ st2 fun b _ o e=>old b o e) (loop _ rfl))
theorem rJ {elt target iter:Expr} {ifs:List Expr} {scope:Jz} {pos:Pos} {tg cs:List Str} {wi:TI} {g:TG} {tc:TT} {te:TE} (S:bf X scope tg cs ix) (hcalm:X.calm=true) (kg:cR tg.length ix g) {Φ:Hp->Prop} (hΦ:∀pins σ H s,Inv X pins σ H s->Φ H)
  (hi:PI X target iter wi) (hg:∀C fp s H,PG (ao X scope (tg++cs) C fp s H) target g) (hc:∀C fp s H,Φ H->PTs (ao X scope (tg++cs) C fp s H) ifs tc) (he:∀C fp s H,Φ H->PE (ao X scope (tg++cs) C fp s H) elt te)
  (hs:∀x,G7 iter X.env x=pure x:=by intro _;rfl):PE X (.ListComp elt [⟨target,iter,ifs,0⟩] scope pos) (iM wi tg.length ix g tc te):=by
 intro pins s σ H Q I h
 rw [eval_ListComp]
 refine jB S hcalm kg hΦ hi hg hc he hs I h fun D C H' s' v I' q fp z=>?_
 obtain ⟨f0,c1,_,c3,c4,c5⟩:=fp
 obtain ⟨m,hm⟩:=z
 exact ⟨m,hm,fun h' sb=>⟨.ref D,H',I'.turned (t':=s'.toks) (fun b o hb e=>(sb.2 b hb).trans e) f0 c1 c3 c4 c5,rfl,q⟩⟩
end
end L2
end
section
namespace L2
open PySem PySem.Spec PyProof.Rows
theorem lex_irrefl:∀a:List Int,HT.lexLt a a=false
 | []=>rfl
 | x::r=>by rw [HT.bH,if_pos rfl];exact lex_irrefl r
theorem lex_trans:∀a b c:List Int,HT.lexLt a b=true->HT.lexLt b c=true->HT.lexLt a c=true
 | [],_,[],h1,h2=>by
  rename_i b
  cases b with
  | nil=>exact h1
  | cons y r=>cases h2
 | [],_,_::_,_,_=>rfl
 | x::r,[],_,h1,_=>by cases h1
 | x::r,y::t,[],_,h2=>by cases h2
 | x::r,y::t,z::u,h1,h2=>by
  rw [HT.bH] at *
  by_cases e1:x=y
  ·rw [if_pos e1] at h1
   by_cases e2:y=z
   ·rw [if_pos e2] at h2
    rw [if_pos (e1.trans e2)]
    exact lex_trans r t u h1 h2
   ·rw [if_neg e2] at h2
    rw [if_neg (by lia)]
    rw [e1];exact h2
  ·rw [if_neg e1] at h1
   have h1:=of_decide_eq_true h1
   by_cases e2:y=z
   ·rw [if_neg (by lia)]
    exact decide_eq_true (by lia)
   ·rw [if_neg e2] at h2
    have h2:=of_decide_eq_true h2
    rw [if_neg (by lia)]
    exact decide_eq_true (by lia)
theorem dG:∀a b:List Int,HT.lexLt a b=false->HT.lexLt b a=false->a=b
 | [],[],_,_=>rfl
 | [],_::_,h,_=>by cases h
 | _::_,[],_,h=>by cases h
 | x::r,y::t,h1,h2=>by
  rw [HT.bH] at *
  by_cases e:x=y
  ·rw [if_pos e] at h1
   rw [if_pos e.symm] at h2
   rw [e,dG r t h1 h2]
  ·rw [if_neg e] at h1
   rw [if_neg (J1 e)] at h2
   have h1:=of_decide_eq_false h1
   have h2:=of_decide_eq_false h2
   lia
theorem dU:∀a b c:List Int,HT.lexLt a c=true->HT.lexLt a b=true\/HT.lexLt b c=true:=fun a b c h=>by
 cases h1:HT.lexLt a b with
 | true=>exact .inl rfl
 | false=>
  right
  cases h2:HT.lexLt b a with
  | true=>exact lex_trans b a c h2 h
  | false=>rw [<- dG a b h1 h2];exact h
noncomputable def lexOrd:Lg:=⟨List Int,HT.lexLt,lex_irrefl,lex_trans,dU,dG⟩
noncomputable def lexLe (a b:List Int):Bool:=!HT.lexLt b a
theorem lE (a b c:List Int) (h1:lexLe a b=true) (h2:lexLe b c=true):lexLe a c=true:=by
 unfold lexLe at *
 cases h:HT.lexLt c a with
 | false=>rfl
 | true=>
  rcases dU c b a h with z | z
  ·rw [z] at h2;cases h2
  ·rw [z] at h1;cases h1
theorem lF (a b:List Int):(lexLe a b||lexLe b a)=true:=by
 unfold lexLe
 cases h:HT.lexLt b a with
 | false=>rfl
 | true=>
  cases h':HT.lexLt a b with
  | false=>rfl
  | true=>have:=lex_trans a b a h' h;rw [lex_irrefl] at this;cases this
theorem iO (a b:List Int) (h1:lexLe a b=true) (h2:lexLe b a=true):a=b:=by
 unfold lexLe at *
 exact dG a b (by simpa using h2) (by simpa using h1)
noncomputable def srt (l:List (List Int)):List (List Int):=l.mergeSort lexLe
theorem bK (l:List (List Int)):(srt l).Perm l:=List.mergeSort_perm l lexLe
theorem dW (l:List (List Int)):(srt l).Pairwise (fun a b=>lexLe a b=true):=List.pairwise_mergeSort (le:=lexLe) lE lF l
theorem fy:∀{a b:List (List Int)},a.Perm b->a.Pairwise (fun a b=>lexLe a b=true)->b.Pairwise (fun a b=>lexLe a b=true)->a=b
 | [],b,p,_,_=>(List.perm_nil.mp p.symm).symm
 | x::r,[],p,_,_=>by have:=p.length_eq;simp at this
 | x::r,y::t,p,ha,hb=>by
  rw [List.pairwise_cons] at ha hb
  have e:x=y:=by
   have hx:x∈y::t:=p.mem_iff.mp GG
   have hy:y∈x::r:=p.mem_iff.mpr GG
   rcases List.mem_cons.mp hx with h | h
   ·exact h
   ·rcases List.mem_cons.mp hy with h' | h'
    ·exact h'.symm
    ·exact iO x y (ha.1 y h') (hb.1 x h)
  subst e
  rw [fy (List.Perm.cons_inv p) ha.2 hb.2]
theorem iP {a l:List (List Int)} (p:a.Perm l) (h:a.Pairwise (fun a b=>lexLe a b=true)):a=srt l:=fy (p.trans (bK l).symm) h (dW l)
section
variable {prog:G2} {w:HJ} {A:HQ} {E:Gs->Gv->Prop} {s:Gv}
theorem rK {a:Addr} {vs:List Gs} {n:Nat} {R:PySem.Fin->Gv->Prop} (ho:s.heap.get? a=some (Kk "list" vs.toArray n)) (hf:vs.length < 2)
  (h:R (.done (.ret .none)) { s with heap:=sortedHeap s.heap a vs vs.toArray }):Hj (Ha prog w) A (Builtin.«list.sort» ⟨[.ref a],[]⟩) R E s:=by
 have hlt:a < s.heap.objs.size:=GI ho
 have few:vs.toArray.size < 2:=by rw [GC];exact hf
 have hz:vs.length<=GZ:=by rw [Hv];lia
 obtain ⟨e,he⟩:∃e,(s.heap.update a (IB fun _=>#[])).get? a=some (Kk "list" #[] e):=⟨_,get?_update_seq ho (fun _=>#[])⟩
 rw [list_sort_plain]
 refine Gp (listItems_at ho rfl (Gp (Lq ho rfl (Gp (Mm he rfl (Gp (Me (Gp (Lr (Hx ?_))) (hsz:=hz))))) (by rw [GC];lia))))
 have he2:(((s.heap.update a (IB fun _=>#[])).push (Kk "tuple" vs.toArray 0)).push (Kk "list" #[] 0)).get? a=some (Kk "list" #[] e):=Gu _ (Gu _ he)
 dsimp only
 rw [if_pos few,if_pos few]
 refine Gp (GA ?_);rw [StateT.run_pure];refine Gp (GA ?_);dsimp only
 have em:Array.map (fun x:Gs×Gs=>x.2) (GD (MV general' (vs.toArray.zip vs.toArray) #[] 7 none))=vs.toArray:=by
  show Array.map (fun x:Gs×Gs=>x.2) (vs.toArray.zip vs.toArray)=vs.toArray
  apply Array.ext <;> simp
 refine Gp (Mm he2 rfl (Gp (Lq he2 rfl ?_ (hsz2:=by rw [em,GC];lia))))
 rw [em]
 simp only [bne_self_eq_false,Hz,if_false]
 exact GA h
theorem mS {l:Addr} {vs:List Gs} {Q:Gs->Gv->Prop} (hl:s.heap.IsList l vs.toArray) (hf:vs.length < 2) (h:Q (.ref (s.heap.objs.size+1)) { s with heap:=sortedAll s.heap vs vs.toArray }):Hj (Ha prog w) A (call (.builtin "sorted") [.ref l]) Q E s:=by
 have hz:vs.length<=GZ:=by rw [Hv];lia
 have z1:((s.heap.push (Kk "list" #[] 0)).update s.heap.objs.size (IB (·++vs.toArray))).objs.size=s.heap.objs.size+1:=by rw [Heap.size_update,size_push']
 have z2:(((s.heap.push (Kk "list" #[] 0)).update s.heap.objs.size (IB (·++vs.toArray))).push (Kk "list" vs.toArray 0)).get? (s.heap.objs.size+1)=some (Kk "list" vs.toArray 0):=z1▸GQ _ rfl
 have col:=fun R r=>collect_list (prog:=prog) (w:=w) (A:=A.in1) (E:=E) (Q:=R) hl r hz
 refine K4 kind_sorted plain_sorted entry_sorted (args_sorted1 _) (Gp (m:=checkCount "sorted" 1 1 _) (GA (Gp (m:=collect (.ref l)) (col _ (Gp (Lr ?_ (hsz:=hz)))))))
 dsimp only
 rw [z1]
 refine Gp (Hx (IF slot_list_sort ⟨_,z2,rfl⟩ entry_list_sort (rK z2 hf ⟨_,rfl,GA ⟨_,rfl,h⟩⟩) (args_list_sort _)))
end
section
variable {X:Cx} {pins:List (Addr×Obj)} {σ:St} {H:Hp} {s:Gv}
theorem Inv.trackN {D:Addr} {o:HO} (I:Inv X pins σ H s) (hn:H D=none) (hs:X.s₀.heap.get? D=none) (hL:D≠X.env.locals) (hc:∀x c,X.env.cells.lookup x=some c->c≠D) (hp:∀p∈X.pn++pins,p.1≠D)
  (new:bA X.prog X.w (upd H D o) s.heap D o):Inv X pins σ (upd H D o) s:=by
 have nb:∀b ob,X.s₀.heap.get? b=some ob->b≠D:=fun b ob e z=>by subst z;rw [hs] at e;cases e
 have nt:∀b u,H b=some u->b≠D:=fun b u e=>bp e hn
 refine ⟨I.ok,I.os,I.bare,⟨I.base.keep,I.base.slot,fun b ob e n hx=>by rw [aB (nb b ob e)];exact I.base.free b ob e n hx,I.base.there,fun b xs e=>?_,fun b ob u e=>?_,fun b ps e=>?_⟩,I.loc,I.cell,by rw [aB hL.symm];exact I.free,fun x c e=>by rw [aB (hc x c e)];exact I.freeC x c e,fun p hpp=>?_,fun b u e=>?_,I.len⟩
 ·have q:=I.base.tups b xs e
  rw [aB (nt b _ q)];exact q
 ·have q:=I.base.frzs b ob u e
  rw [aB (nt b _ q)];exact q
 ·obtain ⟨more,q⟩:=I.base.tbls b ps e
  exact ⟨more,by rw [aB (nt b _ q)];exact q⟩
 ·obtain ⟨a,b,c,d,e⟩:=I.pin p hpp
  exact ⟨a,by rw [aB (hp p hpp)];exact b,c,d,e⟩
 ·by_cases hb:b=D
  ·subst hb;rw [ay] at e;cases e;exact new
  ·rw [aB hb] at e
   exact (I.hok b u e).stay (fun _ _ _ q=>q) (fun c q=>by rw [aB (nt c _ q)];exact q) fun c xs q=>by rw [aB (nt c _ q)];exact q
theorem wJ {prog:G2} {w:HJ} {A:HQ} {Q:Bool->Gv->Prop}:∀(ns ms:List Int) {us vs:List Gs} (i:Nat) {fin:Bool},Vals (ns.map V.int) us->Vals (ms.map V.int) vs->fin=decide (us.length < vs.length)->Q (HT.lexLt ns ms) s ->
  PySem.W.KatLex prog w A true fin Q (us.zip vs) i s:=by
 intro ns
 induction ns with
 | nil=>
  intro ms us vs i fin r r' hf h
  have r:Vals [] us:=r
  cases r
  cases ms with
  | nil=>
   have r':Vals [] vs:=r'
   cases r'
   subst hf
   exact h
  | cons m ms=>
   have r':Vals (V.int m::ms.map V.int) vs:=r'
   cases r' with
   | cons a b=>
    subst hf
    exact h
 | cons n ns ih=>
  intro ms us vs i fin r r' hf h
  have r:Vals (V.int n::ns.map V.int) us:=r
  cases r with
  | cons q1 t=>
   cases ms with
   | nil=>
    have r':Vals [] vs:=r'
    cases r'
    subst hf
    exact h
   | cons m ms=>
    have r':Vals (V.int m::ms.map V.int) vs:=r'
    cases r' with
    | cons q2 t'=>
     obtain ⟨tk,rfl⟩:=q1
     obtain ⟨tk',rfl⟩:=q2
     rw [HT.bH] at h
     rw [List.zip_cons_cons]
     refine PySem.W.kat_cons (SeqAt.EqAt.int_int n tk m tk' prog w _ _ ?_)
     by_cases e:n=m
     ·rw [if_pos e] at h
      rw [show (n==m)=true by simpa using e]
      refine PySem.W.kat_yes (ih ms (i+1) t t' ?_ h)
      rw [hf]
      simp
     ·rw [if_neg e] at h
      rw [show (n==m)=false by simpa using e]
      refine PySem.W.kat_no ?_
      by_cases hi:i=0
      ·subst hi
       exact oneLt_int h
      ·rw [show (true&&i==0)=false by simp [hi]]
       exact PySem.W.kat_one _ _ (lt_int (show PySem.W.BoolBack _ (LZ _) _ from h))
theorem rL {h:Heap} {p:Addr} {its:List Gs} (hne:ms≠[]) (r:Vals (ms.map V.int) its) (ht:NU h p its.toArray):∃(f:Gs) (o:Obj) (n:Nat),(∃i t,f=Kz i t)/\h.get? p=some o/\o.cls=.type "tuple"/\o.data=.seq its.toArray n/\its.toArray[0]?=some f:=by
 obtain ⟨o,ho,hc,n,hd⟩:=ht
 cases ms with
 | nil=>exact absurd rfl hne
 | cons m ms=>
  have r:Vals (V.int m::ms.map V.int) its:=r
  cases r with
  | cons r1 r2=>
   obtain ⟨t,rfl⟩:=r1
   exact ⟨_,o,n,⟨m,t,rfl⟩,ho,hc,hd,by simp⟩
theorem mT {h:Heap} (hT:∀a xs,SqT X.K H a xs->∃its:List Gs,Vals xs its/\NU h a its.toArray) {ps:List Addr} (ht:iL X.K H ps mss):(∀ms∈mss,ms≠[]) ->
  ∃fs:List Gs,PySem.W.KatTups h (ps.map Hf) fs/\fs.length=ps.length/\∀v∈fs,∃i t,v=Kz i t:=by
 unfold iL at ht
 induction ht with
 | nil=>exact fun _=>⟨[],trivial,rfl,(fun _ h=>nomatch h)⟩
 | cons hp t ih=>
  intro hne
  obtain ⟨fs,h1,h2,h3⟩:=ih fun m hm=>hne m (GU _ hm)
  obtain ⟨its,r,tt⟩:=hT _ _ hp
  obtain ⟨f,o,n,hi,ho,hc,hd,h0⟩:=rL (hne _ GG) r tt
  refine ⟨f::fs,PySem.W.KatTups.cons ho hc hd h0 h1,by simp [h2],fun v hv=>?_⟩
  rcases List.mem_cons.mp hv with rfl | hv
  ·exact hi
  ·exact h3 v hv
theorem gF:∀{ps:List Addr} {us:List Gs},Vals (ps.map V.ref) us->us=ps.map Hf
 | [],_,.nil=>rfl
 | p::ps,_,.cons r t=>by
  rw [gF t]
  cases r
  rfl
theorem jC:∀(ps:List Addr),Vals (ps.map V.ref) (ps.map Hf)
 | []=>.nil
 | p::ps=>.cons rfl (jC ps)
end
end L2
end
section
namespace L2
open PySem PySem.Spec PyProof.Rows
theorem bA.there {P:G2} {w:HJ} {h:Heap} {a:Addr} {o:HO} (x:bA P w H h a o):∃ob,h.get? a=some ob:=by
 cases o with
 | lst xs=>obtain ⟨_,_,_,_,e⟩:=x;exact ⟨_,e⟩
 | tup xs=>obtain ⟨_,_,_,ob,e,_⟩:=x;exact ⟨_,e⟩
 | dK kvs=>obtain ⟨_,_,_,_,o,_,_,e,_⟩:=x;exact ⟨_,e⟩
 | dT kvs=>obtain ⟨_,_,_,_,o,_,_,e,_⟩:=x;exact ⟨_,e⟩
 | set S n=>obtain ⟨o,_,_,_,e,_⟩:=x;exact ⟨_,e⟩
 | ins C dx fs=>obtain ⟨_,_,_,e,_⟩:=x;exact ⟨_,e⟩
 | own y=>exact x
 | xd fs=>obtain ⟨_,⟨_,_,_,e,_⟩,_⟩:=x;exact ⟨_,e⟩
 | rng lo hi=>obtain ⟨_,_,_,e⟩:=x;exact ⟨_,e⟩
 | frz ob u=>obtain ⟨e,_⟩:=x;exact ⟨_,e⟩
 | tbl ps=>obtain ⟨_,e,_⟩:=x;exact ⟨_,e⟩
 | met f y=>exact ⟨_,x⟩
 | ext φ=>exact x.2.1
end L2
end
section
namespace L2
open PySem PySem.Spec PyProof.Rows
noncomputable def mU (scope osc:Jz) (N tg cs:List Str) (ix:List Nat):Prop:=
 (∀y∈scope.names,y.2≠.cell)/\(∀y∈scope.names,y.2=.local->scope.names.lookup y.1=some .local)/\(tg++cs).Nodup/\ix.map (fun i=>N[i]?)=cs.map some /\
 (∀x∈cs,(x,Ht)∈scope.names/\scope.names.lookup x=some .free)/\∀y∈scope.names,y.2=.free->osc.names.lookup y.1=some .cell\/osc.names.lookup y.1=some .free
noncomputable instance (scope osc:Jz) (N tg cs:List Str) (ix:List Nat):Decidable (mU scope osc N tg cs ix):=by unfold mU;infer_instance
theorem aM {X:Cx} {scope:Jz} {tg cs:List Str} (osc:Jz) (N:List Str) (h:mU scope osc N tg cs ix) (hk:scope.kind=.function:=by rfl) (ho:X.env.scope=osc:=by rfl) (hN:X.N=N:=by rfl):bf X scope tg cs ix:=by
 obtain ⟨h1,h2,h3,h4,h5,h6⟩:=h
 exact ⟨hk,h1,h2,h3,by rw [hN];exact h4,h5,fun x hx=>by rw [ho];exact h6 (x,.free) hx rfl⟩
end L2
end
section
namespace L2
open PySem PySem.Spec PyProof.Rows
section
variable {X:Cx} {pins:List (Addr×Obj)} {σ:St} {H H1:Hp} {s:Gv}
theorem lG {elt target iter:Expr} {ifs:List Expr} {scope:Jz} {pos spos py:Pos} {yy:Str} {ii:Nat} {tg cs:List Str} {wi:TI} {g:TG} {tc:TT} {te:TE} (hN0:X.N.Nodup) (hi0:X.N[ii]?=some yy) (hx0:Loc X.env.scope yy)
  (S:bf X scope tg cs ix) (hcalm:X.calm=true) (kg:cR tg.length ix g)
  (hi:PI X target iter wi) (hg:∀C fp s H,PG (ao X scope (tg++cs) C fp s H) target g) (hc:∀C fp s H,PTs (ao X scope (tg++cs) C fp s H) ifs tc) (he:∀C fp s H,PE (ao X scope (tg++cs) C fp s H) elt te)
  (hf0:X.fn yy=true\/X.env.scope.names.lookup yy=some .local)
  (hsw:IN (.ListComp elt [⟨target,iter,ifs,0⟩] scope pos) (some (.Name yy py)) spos.line X.env=pure true)
  (hs:∀x,G7 iter X.env x=pure x:=by intro _;rfl):PS X (.Assign [.Name yy py] (.ListComp elt [⟨target,iter,ifs,0⟩] scope pos) spos) (cW (iM wi tg.length ix g tc te) (bF ii)):=by
 intro pins s σ H Dn I h
 rw [LP _ _ _ _ hsw]
 refine Gp (Il (Gp ?_))
 show Hj _ X.A (do let _ <- ME (.ListComp elt [⟨target,iter,ifs,0⟩] scope pos) scope X.env _ (newList []) false (eval iter X.env) (some (Kn (.Name yy py) X.env))) _ _ s
 refine Gp (G9 (jB (use:=some (Kn (.Name yy py) X.env)) (Qc:=fun _ s'=>SP X pins Dn .next s') S hcalm kg (Φ:=fun _=>True) (fun _ _ _ _ _=>trivial) hi hg (fun C fp s H _=>hc C fp s H) (fun C fp s H _=>he C fp s H) hs I h fun D C H' s' v I' q fp z=>?_) (fun _ s' hq=>GA (GA hq)) fun _ _ e=>e)
 obtain ⟨f0,c1,_,c3,c4,c5⟩:=fp
 obtain ⟨m,hm⟩:=z
 show Hj _ X.A (Kn (.Name yy py) X.env (.ref D)) _ _ s'
 refine La (gv (v:=.ref D) I' hN0 hi0 hx0 rfl (fun s'' I'' zq=>?_) hf0)
 obtain ⟨a,sb,ha⟩:=zq
 have hCa:C≠a:=by
  rcases ha with rfl | ha
  ·exact c1
  ·exact (c4 _ _ ha).symm
 exact ⟨m,hm.sameBut sb hCa,fun h' sb'=>⟨_,_,I''.turned (t':=s''.toks) (it:=C) (fun b o hb e=>(sb'.2 b hb).trans e) f0 c1 c3 c4 c5,q⟩⟩
end
end L2
end
section
namespace VL
open PySem L2
noncomputable def IsM:Option HO->Prop
 | some (.lst _)=>True
 | some (.ext _)=>True
 | _=>False
theorem IsM.ne {o:Option HO} (h:IsM o):o≠none:=by rintro rfl;exact h
noncomputable abbrev AP:=Addr->Prop
noncomputable abbrev FP:=Option Addr->Prop
structure Dl where
 ok:Gn->AP->FP->Hp->Addr->Prop
 mono:∀{K:Gn} {N N':AP} {F F':FP} {H H':Hp} {v:Addr},(∀a,N a->H a≠none->N' a/\H' a=H a)->(∀o,F o->F' o)->ok K N F H v->ok K N' F' H' v
 avoid:∀{K:Gn} {N N':AP} {F:FP} {H:Hp} {v:Addr},(∀a,¬N' a->IsM (H a))->(∀a,F (some a)->N' a)->ok K N F H v->ok K N' F H v
 both:∀{K:Gn} {N:AP} {F F':FP} {H:Hp} {v:Addr},(∀a,N a->IsM (H a)->F (some a)->F' (some a))->(F none->F' none)->ok K N F H v->ok K N F' H v
 reN:∀{K:Gn} {N N':AP} {F:FP} {H:Hp} {v:Addr},(∀a,IsM (H a)->N' a)->ok K N F H v->ok K N' F H v
inductive D where
 | int (i:Int) | bl (b:Bool) | non | str (x:Str) | ty (n:String) | tup (ds:List D) | lst (ds:List D) | dic (ks:List (List Int)) (vs:List D) | exc (c:Gs) | dib (kds:List D) (vs:List D) | oth (k:Dl)
noncomputable def kT (ms:List Int):D:=.tup (ms.map .int)
noncomputable def FU:D->Int
 | .int i=>i
 | .bl b=>if b then 1 else 0
 | _=>0
noncomputable def AE:D->Bool
 | .int _=>true
 | .bl _=>true
 | _=>false
noncomputable def kN:D->List Int
 | .tup ds=>ds.map FU
 | _=>[]
noncomputable def FV:D->Bool
 | .tup ds=>ds.all AE
 | _=>false
noncomputable def Any:AP:=fun _=>True
noncomputable def AnyF:FP:=fun _=>True
noncomputable def Fr (H0:Hp):FP:=fun o=>∃a,o=some a/\H0 a=none
mutual
inductive Rep (K:Gn) (N:AP) (F:FP) (H:Hp):V->D->Prop where
 | int (i:Int):Rep K N F H (.int i) (.int i)
 | bl (b:Bool):Rep K N F H (.bl b) (.bl b)
 | non:Rep K N F H .non .non
 | str (x:Str):Rep K N F H (.str x) (.str x)
 | ty (x:String):Rep K N F H (.ty x) (.ty x)
 | tup {a:Addr} {vs:List V} {ds:List D} (n:N a) (h:Rd H a (.tup vs)) (r:Reps K N F H vs ds):Rep K N F H (.ref a) (.tup ds)
 | tupK {a:Addr} {vs:List V} {ds:List D} (h:SqT K (fun _=>none) a vs) (r:Reps K N F H vs ds):Rep K N F H (.ref a) (.tup ds)
 | lst {a:Addr} {vs:List V} {ds:List D} (n:N a) (f:F (some a)) (h:H a=some (.lst vs)) (r:Reps K N F H vs ds):Rep K N F H (.ref a) (.lst ds)
 | lstF {a:Addr} {vs:List V} {ds:List D} {o:Obj} (n:N a) (f:F none) (h:H a=some (.frz o (.lst vs))) (r:Reps K N F H vs ds):Rep K N F H (.ref a) (.lst ds)
 | lstK {a:Addr} {vs:List V} {ds:List D} (f:F none) (h:SqL K (fun _=>none) a vs) (r:Reps K N F H vs ds):Rep K N F H (.ref a) (.lst ds)
 | dic {a:Addr} {ob:Obj} {es:List (List Int×Addr×V)} {ks:List (List Int)} {ds:List D} (n:N a) (f:F (some a)) (h:H a=some (bS a ob es)) (e:es.map (·.1)=ks) (rk:Reps K N F H (es.map fun x=>.ref x.2.1) (ks.map kT)) (r:Reps K N F H (es.map (·.2.2)) ds):Rep K N F H (.ref a) (.dic ks ds)
 | exc {x:Addr} {c:Gs} {o:Obj} (n:N x) (h:H x=some (.frz o (.own x))) (e:o.cls=c):Rep K N F H (.ref x) (.exc c)
 | dib {a:Addr} {ob:Obj} {es:List (List Int×Addr×V)} {kds:List D} {ds:List D} (n:N a) (f:F (some a)) (h:H a=some (bS a ob es)) (e:es.map (·.1)=kds.map kN) (g:kds.all FV=true) (rk:Reps K N F H (es.map fun x=>.ref x.2.1) kds) (r:Reps K N F H (es.map (·.2.2)) ds):Rep K N F H (.ref a) (.dib kds ds)
 | oth {a:Addr} {k:Dl} (h:k.ok K N F H a):Rep K N F H (.ref a) (.oth k)
inductive Reps (K:Gn) (N:AP) (F:FP) (H:Hp):List V->List D->Prop where
 | nil:Reps K N F H [] []
 | cons {v:V} {d:D} {vs:List V} {ds:List D} (h:Rep K N F H v d) (t:Reps K N F H vs ds):Reps K N F H (v::vs) (d::ds)
end
section
variable {K:Gn} {N N':AP} {F F':FP} {H H' H0:Hp}
theorem Rd.there {a:Addr} {u:HO} (h:Rd H a u):H a≠none:=by rcases h with h | ⟨o,h⟩ <;> simp [h]
theorem Rd.keep {a:Addr} {u:HO} (h:Rd H a u) (e:H' a=H a):Rd H' a u:=by
 rcases h with h | ⟨o,h⟩
 ·exact .inl (e.trans h)
 ·exact .inr ⟨o,e.trans h⟩
mutual
theorem Rep.mono (hN:∀a,N a->H a≠none->N' a/\H' a=H a) (hF:∀o,F o->F' o) {v:V} {d:D}:Rep K N F H v d->Rep K N' F' H' v d
 | .int i=>.int i
 | .bl i=>.bl i
 | .non=>.non
 | .str i=>.str i
 | .ty i=>.ty i
 | .tup n h r=>.tup (hN _ n (Rd.there h)).1 (Rd.keep h (hN _ n (Rd.there h)).2) (Reps.mono hN hF r)
 | .tupK h r=>.tupK h (Reps.mono hN hF r)
 | .lst n f h r=>.lst (hN _ n (by simp [h])).1 (hF _ f) ((hN _ n (by simp [h])).2.trans h) (Reps.mono hN hF r)
 | .lstF n f h r=>.lstF (hN _ n (by simp [h])).1 (hF _ f) ((hN _ n (by simp [h])).2.trans h) (Reps.mono hN hF r)
 | .lstK f h r=>.lstK (hF _ f) h (Reps.mono hN hF r)
 | .dic n f h e rk r=>.dic (hN _ n (by simp [h])).1 (hF _ f) ((hN _ n (by simp [h])).2.trans h) e (Reps.mono hN hF rk) (Reps.mono hN hF r)
 | .exc n h e=>.exc (hN _ n (by simp [h])).1 ((hN _ n (by simp [h])).2.trans h) e
 | .dib n f h e g rk r=>.dib (hN _ n (by simp [h])).1 (hF _ f) ((hN _ n (by simp [h])).2.trans h) e g (Reps.mono hN hF rk) (Reps.mono hN hF r)
 | .oth (k:=k) h=>.oth (k.mono hN hF h)
theorem Reps.mono (hN:∀a,N a->H a≠none->N' a/\H' a=H a) (hF:∀o,F o->F' o) {vs:List V} {ds:List D}:Reps K N F H vs ds->Reps K N' F' H' vs ds
 | .nil=>.nil
 | .cons h t=>.cons (Rep.mono hN hF h) (Reps.mono hN hF t)
end
theorem Rep.any {d:D} (h:Rep K N F H v d):Rep K Any AnyF H v d:=h.mono (fun _ _ _=>⟨trivial,rfl⟩) (fun _ _=>trivial)
theorem Reps.any {ds:List D} (h:Reps K N F H vs ds):Reps K Any AnyF H vs ds:=h.mono (fun _ _ _=>⟨trivial,rfl⟩) (fun _ _=>trivial)
mutual
theorem Rep.avoid (h1:∀a,¬N' a->IsM (H a)) (h2:∀a,F (some a)->N' a) {v:V} {d:D}:Rep K N F H v d->Rep K N' F H v d
 | .int i=>.int i
 | .bl i=>.bl i
 | .non=>.non
 | .str i=>.str i
 | .ty i=>.ty i
 | .tup (a:=a) n h r=>.tup (G4 fun z=>by
   have e:=h1 a z
   rcases h with h | ⟨o,h⟩ <;> rw [h] at e <;> exact e) h (Reps.avoid h1 h2 r)
 | .tupK h r=>.tupK h (Reps.avoid h1 h2 r)
 | .lst n f h r=>.lst (h2 _ f) f h (Reps.avoid h1 h2 r)
 | .lstF (a:=a) n f h r=>.lstF (G4 fun z=>by
   have e:=h1 a z
   rw [h] at e;exact e) f h (Reps.avoid h1 h2 r)
 | .lstK f h r=>.lstK f h (Reps.avoid h1 h2 r)
 | .dic n f h e rk r=>.dic (h2 _ f) f h e (Reps.avoid h1 h2 rk) (Reps.avoid h1 h2 r)
 | .exc (x:=a) n h e=>.exc (G4 fun z=>by
   have e:=h1 a z
   rw [h] at e;exact e) h e
 | .dib n f h e g rk r=>.dib (h2 _ f) f h e g (Reps.avoid h1 h2 rk) (Reps.avoid h1 h2 r)
 | .oth (k:=k) h=>.oth (k.avoid h1 h2 h)
theorem Reps.avoid (h1:∀a,¬N' a->IsM (H a)) (h2:∀a,F (some a)->N' a) {vs:List V} {ds:List D}:Reps K N F H vs ds->Reps K N' F H vs ds
 | .nil=>.nil
 | .cons h t=>.cons (Rep.avoid h1 h2 h) (Reps.avoid h1 h2 t)
end
mutual
noncomputable def flat:D->Bool
 | .lst _=>false
 | .dic _ _=>false
 | .dib _ _=>false
 | .oth _=>false
 | .tup ds=>flats ds
 | _=>true
noncomputable def flats:List D->Bool
 | []=>true
 | d::r=>flat d&&flats r
end
theorem gU:∀ms:List Int,flats (ms.map D.int)=true
 | []=>rfl
 | _::r=>by simp [flats,flat,gU r]
theorem lH:∀ks:List (List Int),flats (ks.map kT)=true
 | []=>rfl
 | _::r=>by simp [flats,kT,flat,gU,lH r]
mutual
theorem Rep.flat {v:V} {d:D}:Rep K N F H v d->VL.flat d=true->Rep K N F' H v d:=fun hh ee=>by
 cases hh with
 | int i=>exact .int i
 | bl i=>exact .bl i
 | non=>exact .non
 | str i=>exact .str i
 | ty i=>exact .ty i
 | tup n h r=>have e:=ee;exact .tup n h (Reps.flat r (by simpa [VL.flat] using e))
 | tupK h r=>have e:=ee;exact .tupK h (Reps.flat r (by simpa [VL.flat] using e))
 | lst n f h r=>have e:=ee;simp [VL.flat] at e
 | lstF n f h r=>have e:=ee;simp [VL.flat] at e
 | lstK f h r=>have e:=ee;simp [VL.flat] at e
 | dic n f h _ _ r=>have e:=ee;simp [VL.flat] at e
 | exc n h e0=>exact .exc n h e0
 | dib n f h _ _ _ r=>have e:=ee;simp [VL.flat] at e
 | oth h=>have e:=ee;simp [VL.flat] at e
theorem Reps.flat {vs:List V} {ds:List D}:Reps K N F H vs ds->flats ds=true->Reps K N F' H vs ds:=fun hh ee=>by
 cases hh with
 | nil=>exact .nil
 | cons h t=>
  have e:=ee
  simp only [flats,G5] at e
  exact .cons (Rep.flat h e.1) (Reps.flat t e.2)
end
theorem Reps.length:∀{vs:List V} {ds:List D},Reps K N F H vs ds->vs.length=ds.length
 | _,_,.nil=>rfl
 | _,_,.cons _ t=>by simp [Reps.length t]
theorem Reps.get:∀{vs:List V} {ds:List D} {i:Nat} {v:V},Reps K N F H vs ds->vs[i]?=some v->∃d,ds[i]?=some d/\Rep K N F H v d
 | _,_,0,_,.cons h _,e=>by simp at e;subst e;exact ⟨_,rfl,h⟩
 | _,_,i+1,v,.cons _ t,e=>by
  obtain ⟨d,h1,h2⟩:=Reps.get (i:=i) (v:=v) t (by simpa using e)
  exact ⟨d,by simpa using h1,h2⟩
 | _,_,_,_,.nil,e=>by simp at e
theorem Reps.getD:∀{vs:List V} {ds:List D} {i:Nat} {d:D},Reps K N F H vs ds->ds[i]?=some d->∃v,vs[i]?=some v/\Rep K N F H v d
 | _,_,0,_,.cons h _,e=>by simp at e;subst e;exact ⟨_,rfl,h⟩
 | _,_,i+1,v,.cons _ t,e=>by
  obtain ⟨d,h1,h2⟩:=Reps.getD (i:=i) (d:=v) t (by simpa using e)
  exact ⟨d,by simpa using h1,h2⟩
 | _,_,_,_,.nil,e=>by simp at e
theorem Reps.append:∀{vs ws:List V} {ds es:List D},Reps K N F H vs ds->Reps K N F H ws es->Reps K N F H (vs++ws) (ds++es)
 | _,_,_,_,.nil,s=>s
 | _,_,_,_,.cons h t,s=>.cons h (Reps.append t s)
theorem Reps.take:∀{vs:List V} {ds:List D} (n:Nat),Reps K N F H vs ds->Reps K N F H (vs.take n) (ds.take n)
 | _,_,0,_=>by simpa using .nil
 | _,_,_+1,.nil=>by simpa using .nil
 | _,_,n+1,.cons h t=>by simpa using .cons h (Reps.take n t)
theorem Reps.drop:∀{vs:List V} {ds:List D} (n:Nat),Reps K N F H vs ds->Reps K N F H (vs.drop n) (ds.drop n)
 | _,_,0,h=>by simpa using h
 | _,_,_+1,.nil=>by simpa using .nil
 | _,_,n+1,.cons h t=>by simpa using Reps.drop n t
theorem Reps.set {d:D} (h:Rep K N F H v d):∀{vs:List V} {ds:List D} (i:Nat),Reps K N F H vs ds->Reps K N F H (vs.set i v) (ds.set i d)
 | _,_,_,.nil=>by simpa using .nil
 | _,_,0,.cons _ t=>by simpa using .cons h t
 | _,_,i+1,.cons q t=>by simpa using .cons q (Reps.set h i t)
theorem Reps.ints:∀{ns:List Int},Reps K N F H (ns.map V.int) (ns.map D.int)
 | []=>.nil
 | _::r=>.cons (.int _) (Reps.ints (ns:=r))
theorem Reps.toInts:∀{vs:List V} {ns:List Int},Reps K N F H vs (ns.map D.int)->vs=ns.map V.int
 | _,[],.nil=>rfl
 | _,n::ns,.cons h t=>by cases h;rw [Reps.toInts t];rfl
theorem fX {a:Addr} (h:SqT K (fun _=>none) a vs):SqT K H a vs:=by
 rcases h with (h | ⟨o,h⟩) | h
 ·cases h
 ·cases h
 ·exact .inr h
theorem iQ {a:Addr} (h:SqL K (fun _=>none) a vs):SqL K H a vs:=by
 rcases h with (h | ⟨o,h⟩) | h
 ·cases h
 ·cases h
 ·exact .inr h
theorem Rep.sqT {ds:List D} (h:Rep K N F H v (.tup ds)):∃a vs,v=.ref a/\SqT K H a vs/\Reps K N F H vs ds:=by
 cases h with
 | tup n h r=>exact ⟨_,_,rfl,.inl h,r⟩
 | tupK h r=>exact ⟨_,_,rfl,fX h,r⟩
theorem Rep.sqL {ds:List D} (h:Rep K N F H v (.lst ds)):∃a vs,v=.ref a/\SqL K H a vs/\Reps K N F H vs ds:=by
 cases h with
 | lst n f h r=>exact ⟨_,_,rfl,.inl (.inl h),r⟩
 | lstF n f h r=>exact ⟨_,_,rfl,.inl (.inr ⟨_,h⟩),r⟩
 | lstK f h r=>exact ⟨_,_,rfl,iQ h,r⟩
theorem Rep.of_sqL {a:Addr} {ds:List D} (h:SqL K H a vs) (n:N a) (f:∀o,F o) (r:Reps K N F H vs ds):Rep K N F H (.ref a) (.lst ds):=by
 rcases h with (h | ⟨o,h⟩) | h
 ·exact .lst n (f _) h r
 ·exact .lstF n (f _) h r
 ·exact .lstK (f _) (.inr h) r
end
structure Dm where
 ok:Gn->Hp->AP->Hp->Addr->Prop
 ism:∀{K:Gn} {H0:Hp} {N:AP} {H:Hp} {a:Addr},ok K H0 N H a->IsM (H a)
 mono:∀{K:Gn} {H0:Hp} {N N':AP} {H H':Hp} {a:Addr},(∀b,N b->H b≠none->N' b/\H' b=H b)->H' a=H a->ok K H0 N H a->ok K H0 N' H' a
inductive Sl where
 | no | val (d:D) | fre (d:D) | own (ds:List D) | pen (ad:Option Addr) (ns:List Int) | odi (ks:List (List Int)) (vs:List D) | obj (k:Dm)
noncomputable def Sl.mut:Sl->Bool
 | .own _=>true
 | .pen _ _=>true
 | .odi _ _=>true
 | .obj _=>true
 | _=>false
noncomputable def Mo (Z:AP) (σ:St) (S:List Sl) (a:Addr):Prop:=(∃(i:Nat) (s:Sl),S[i]?=some s/\s.mut=true/\σ[i]?=some (some (V.ref a)))\/Z a
noncomputable abbrev NM (Z:AP) (σ:St) (S:List Sl):AP:=fun a=>¬Mo Z σ S a
noncomputable def qj (K:Gn) (H0:Hp) (N:AP) (H:Hp) (o:Option V):Sl->Prop
 | .no=>True
 | .val d=>∃v,o=some v/\Rep K N AnyF H v d
 | .fre d=>∃v,o=some v/\Rep K N (Fr H0) H v d
 | .own ds=>∃a vs,o=some (.ref a)/\H a=some (.lst vs)/\H0 a=none/\Reps K N (Fr H0) H vs ds
 | .pen ad ns=>∃a,o=some (.ref a)/\(∀b,ad=some b->a=b)/\H a=some (.lst (ns.map .int))
 | .odi ks ds=>∃a es,o=some (.ref a)/\(∃ob,H a=some (bS a ob es))/\H0 a=none/\(es.map (·.1)=ks/\Reps K N AnyF H (es.map fun x=>V.ref x.2.1) (ks.map kT))/\Reps K N (Fr H0) H (es.map (·.2.2)) ds
 | .obj k=>∃a,o=some (.ref a)/\H0 a=none/\k.ok K H0 N H a
structure OK (K:Gn) (H0:Hp) (Z:AP) (σ:St) (H:Hp) (S:List Sl):Prop where
 len:σ.length=S.length
 at_:∀(i:Nat) (o:Option V) (s:Sl),σ[i]?=some o->S[i]?=some s->qj K H0 (NM Z σ S) H o s
 inj:∀(i j:Nat) (a:Addr) (s t:Sl),S[i]?=some s->S[j]?=some t->s.mut=true->t.mut=true->σ[i]?=some (some (V.ref a))->σ[j]?=some (some (V.ref a))->i=j
 dom:∀a,H a=none->H0 a=none
 zl:∀a,Z a->IsM (H a)
 nz:∀(i:Nat) (s:Sl) (a:Addr),S[i]?=some s->s.mut=true->σ[i]?=some (some (V.ref a))->¬Z a
noncomputable def Step (Z:AP) (σ:St) (S:List Sl) (H:Hp) (σ':St) (S':List Sl) (H':Hp):Prop:=(∀a,NM Z σ S a->H a≠none->H' a=H a/\NM Z σ' S' a)/\(∀a,H' a=none->H a=none)/\∀a,Z a->H a≠none->H' a=H a
section
variable {K:Gn} {N N':AP} {F F':FP} {H H' H'' H0:Hp} {Z:AP} {σ σ' σ'':St} {S S' S'':List Sl}
theorem Step.refl:Step Z σ S H σ S H:=⟨fun _ n _=>⟨rfl,n⟩,fun _ h=>h,fun _ _ _=>rfl⟩
theorem Step.trans (a:Step Z σ S H σ' S' H') (b:Step Z σ' S' H' σ'' S'' H''):Step Z σ S H σ'' S'' H'':=
 ⟨fun x n h=>by
  obtain ⟨e1,n1⟩:=a.1 x n h
  obtain ⟨e2,n2⟩:=b.1 x n1 (by rw [e1];exact h)
  exact ⟨e2.trans e1,n2⟩,fun x h=>a.2.1 x (b.2.1 x h),fun x z h=>by
  have e1:=a.2.2 x z h
  exact (b.2.2 x z (by rw [e1];exact h)).trans e1⟩
theorem Rep.step {d:D} (h:Rep K (NM Z σ S) F H v d) (st:Step Z σ S H σ' S' H'):Rep K (NM Z σ' S') F H' v d:=h.mono (fun a n e=>⟨(st.1 a n e).2,(st.1 a n e).1⟩) fun _ x=>x
theorem Reps.step {ds:List D} (h:Reps K (NM Z σ S) F H vs ds) (st:Step Z σ S H σ' S' H'):Reps K (NM Z σ' S') F H' vs ds:=h.mono (fun a n e=>⟨(st.1 a n e).2,(st.1 a n e).1⟩) fun _ x=>x
theorem Rep.stp {d:D} (h:Rep K (NM Z σ S) F H v d) (st:∀a,NM Z σ S a->H a≠none->H' a=H a/\NM Z σ' S' a):Rep K (NM Z σ' S') F H' v d:=h.mono (fun a n e=>⟨(st a n e).2,(st a n e).1⟩) fun _ x=>x
theorem Reps.stp {ds:List D} (h:Reps K (NM Z σ S) F H vs ds) (st:∀a,NM Z σ S a->H a≠none->H' a=H a/\NM Z σ' S' a):Reps K (NM Z σ' S') F H' vs ds:=h.mono (fun a n e=>⟨(st a n e).2,(st a n e).1⟩) fun _ x=>x
theorem OK.mo (k:OK K H0 Z σ H S) {a:Addr} (h:Mo Z σ S a):IsM (H a):=by
 rcases h with ⟨i,s,e1,e2,e3⟩ | h
 case inr=>exact k.zl a h
 have q:=k.at_ i _ s e3 e1
 cases s with
 | no=>cases e2
 | val d=>cases e2
 | fre d=>cases e2
 | own ds=>obtain ⟨b,vs,h1,h2,_⟩:=q;cases h1;rw [h2];trivial
 | pen ad ns=>obtain ⟨b,h1,_,h2⟩:=q;cases h1;rw [h2];trivial
 | odi ks ds=>obtain ⟨b,kvs,h1,⟨ob,h2⟩,_⟩:=q;cases h1;rw [h2];trivial
 | obj k=>obtain ⟨b,h1,_,h2⟩:=q;cases h1;exact k.ism h2
theorem OK.grow (k:OK K H0 Z σ H S) (h:∀a,H a≠none->H' a=H a):OK K H0 Z σ H' S where
 len:=k.len
 inj:=k.inj
 nz:=k.nz
 zl:=fun a z=>by
  have e:=k.zl a z
  rw [h a e.ne];exact e
 dom:=fun a e=>k.dom a (G4 fun z=>by rw [h a z] at e;exact z e)
 at_:=fun i o s e1 e2=>by
  have q:=k.at_ i o s e1 e2
  have hm:∀a,NM Z σ S a->H a≠none->NM Z σ S a/\H' a=H a:=fun a n e=>⟨n,h a e⟩
  cases s with
  | no=>trivial
  | val d=>obtain ⟨v,e,r⟩:=q;exact ⟨v,e,r.mono hm fun _ x=>x⟩
  | fre d=>obtain ⟨v,e,r⟩:=q;exact ⟨v,e,r.mono hm fun _ x=>x⟩
  | own ds=>obtain ⟨a,vs,e,e',e0,r⟩:=q;exact ⟨a,vs,e,by rw [h a (by simp [e'])];exact e',e0,r.mono hm fun _ x=>x⟩
  | pen ad ns=>obtain ⟨a,e,e1,e'⟩:=q;exact ⟨a,e,e1,by rw [h a (by simp [e'])];exact e'⟩
  | odi ks ds=>obtain ⟨a,vs,e,⟨ob,e'⟩,e0,ek,r⟩:=q;exact ⟨a,vs,e,⟨ob,by rw [h a (by simp [e'])];exact e'⟩,e0,⟨ek.1,ek.2.mono hm fun _ x=>x⟩,r.mono hm fun _ x=>x⟩
  | obj k=>obtain ⟨a,e,e0,r⟩:=q;exact ⟨a,e,e0,k.mono hm (h a (k.ism r).ne) r⟩
theorem Step.grow (h:∀a,H a≠none->H' a=H a):Step Z σ S H σ S H':=⟨fun a n e=>⟨h a e,n⟩,fun a e=>G4 fun z=>by rw [h a z] at e;exact z e,fun a _ e=>h a e⟩
theorem aI {p:Addr} {o:HO} (hp:H p=none):∀a,H a≠none->upd H p o a=H a:=fun a e=>aB fun z=>e (by rw [z];exact hp)
end
inductive VR where
 | d (x:D) | own (i:Nat)
noncomputable def getO:Option Sl->Option D
 | some (.own ds)=>some (.lst ds)
 | some (.pen _ ns)=>some (.lst (ns.map .int))
 | some (.odi ks vs)=>some (.dic ks vs)
 | _=>none
noncomputable def get (S:List Sl):VR->Option D
 | .d x=>some x
 | .own i=>getO S[i]?
noncomputable def dX (K:Gn) (F:FP) (Z:AP) (σ:St) (S:List Sl) (H:Hp) (v:V):VR->Prop
 | .d x=>Rep K (NM Z σ S) F H v x
 | .own i=>σ[i]?=some (some v)
section
variable {K:Gn} {N N':AP} {F F':FP} {H H' H'' H0:Hp} {Z:AP} {σ σ' σ'':St} {S S' S'':List Sl}
theorem dX.step {r:VR} (h:dX K F Z σ S H v r) (st:Step Z σ S H σ S' H'):dX K F Z σ S' H' v r:=by
 cases r with
 | d x=>exact Rep.step h st
 | own i=>exact h
theorem dX.get {r:VR} {x:D} (h:dX K F Z σ S H v r) (k:OK K H0 Z σ H S) (e:get S r=some x):Rep K Any AnyF H v x:=by
 cases r with
 | d y=>cases e;exact Rep.any h
 | own i=>
  have h:σ[i]?=some (some v):=h
  have e:getO S[i]?=some x:=e
  cases es:S[i]? with
  | none=>rw [es] at e;cases e
  | some s=>
   rw [es] at e
   cases s with
   | no=>cases e
   | val d=>cases e
   | fre d=>cases e
   | own ds=>
    cases e
    obtain ⟨a,vs,h1,h2,h3,h4⟩:=k.at_ i _ _ h es
    cases h1
    exact .lst trivial trivial h2 h4.any
   | pen ad ns=>
    cases e
    obtain ⟨a,h1,_,h2⟩:=k.at_ i _ _ h es
    cases h1
    exact .lst trivial trivial h2 Reps.ints
   | odi ks ds=>
    cases e
    obtain ⟨a,kvs,h1,⟨ob,h2⟩,h3,h4,h5⟩:=k.at_ i _ _ h es
    cases h1
    exact .dic trivial trivial h2 h4.1 h4.2.any h5.any
   | obj k=>cases e
end
noncomputable abbrev VT:=List Sl->(VR->List Sl->Prop)->Prop
noncomputable abbrev VTT:=List Sl->(Bool->List Sl->Prop)->Prop
noncomputable abbrev VTA:=List Sl->(List VR->List Sl->Prop)->Prop
noncomputable abbrev VTN:=List Sl->(List D->List Sl->Prop)->Prop
noncomputable def FM (H0:Hp) (m:Bool):FP:=fun o=>m=true->Fr H0 o
noncomputable def SndE (K:Gn) (m:Bool) (te:TE) (t:VT):Prop:=∀H0 Z σ H S Q C,OK K H0 Z σ H S->t S Q->(∀v H' r S',OK K H0 Z σ H' S'->Step Z σ S H σ S' H'->dX K (FM H0 m) Z σ S' H' v r->Q r S'->C v H')->te σ H C
noncomputable def SndT (K:Gn) (te:TT) (t:VTT):Prop:=∀H0 Z σ H S Q C,OK K H0 Z σ H S->t S Q->(∀b H' S',OK K H0 Z σ H' S'->Step Z σ S H σ S' H'->Q b S'->C b H')->te σ H C
inductive cN (K:Gn) (F:FP) (Z:AP) (σ:St) (S:List Sl) (H:Hp):List V->List VR->Prop where
 | nil:cN K F Z σ S H [] []
 | cons {v:V} {r:VR} {vs:List V} {rs:List VR} (h:dX K F Z σ S H v r) (t:cN K F Z σ S H vs rs):cN K F Z σ S H (v::vs) (r::rs)
noncomputable def gets (S:List Sl):List VR->Option (List D)
 | []=>some []
 | r::rs=>match get S r,gets S rs with
  | some d,some ds=>some (d::ds)
  | _,_=>none
noncomputable def Do (K:Gn) (m:Bool) (te:TA) (t:VTA):Prop:=∀H0 Z σ H S Q C,OK K H0 Z σ H S->t S Q->(∀vs H' rs S',OK K H0 Z σ H' S'->Step Z σ S H σ S' H'->cN K (FM H0 m) Z σ S' H' vs rs->Q rs S'->C vs H')->te σ H C
noncomputable def FW (K:Gn) (te:TE) (t:VTN):Prop:=∀H0 Z σ H S Q C,OK K H0 Z σ H S->t S Q->(∀a vs ds H1 H' S',OK K H0 Z σ H1 S'->Step Z σ S H σ S' H1->H1 a=none->(∀b,H1 b≠none->H' b=H1 b)->H' a=some (.lst vs) ->
 Reps K (fun b=>NM Z σ S' b/\b≠a) (Fr H0) H' vs ds->Q ds S'->C (.ref a) H')->te σ H C
structure VE (K:Gn) (X:Cx) (m:Bool) (e:Expr) (te:TE) (t:VT):Prop where
 pe:PE X e te
 snd:SndE K m te t
structure VTe (K:Gn) (X:Cx) (e:Expr) (te:TT) (t:VTT):Prop where
 pe:PT X e te
 snd:SndT K te t
structure VWe (K:Gn) (X:Cx) (e:Expr) (te:TT) (t:VTT):Prop where
 pe:PW X e te
 snd:SndT K te t
structure VA (K:Gn) (X:Cx) (m:Bool) (es:List Expr) (te:TA) (t:VTA):Prop where
 pe:PA X es te
 snd:Do K m te t
structure VN (K:Gn) (X:Cx) (e:Expr) (te:TE) (t:VTN):Prop where
 pe:PE X e te
 snd:FW K te t
section
variable {K:Gn} {N N':AP} {F F':FP} {H H' H'' H0:Hp} {Z:AP} {σ σ' σ'':St} {S S' S'':List Sl}
theorem cN.gets {rs:List VR} {ds:List D} (h:cN K F Z σ S H vs rs) (k:OK K H0 Z σ H S) (e:gets S rs=some ds):Reps K Any AnyF H vs ds:=by
 induction h generalizing ds with
 | nil=>cases e;exact .nil
 | cons h t ih=>
  unfold VL.gets at e
  split at e
  ·rename_i d es h1 h2
   cases e
   exact .cons (h.get k h1) (ih h2)
  ·cases e
end
end VL
end
variable {kvs:List (List Int×VL.D)} {ds:List VL.D} {S:List VL.Sl} {d:VL.D} {r:VL.VR} {F:VL.FP} {Z:VL.AP} {H0:L2.Hp} {rs:List VL.VR} {q:VL.D->Prop} {p:List VL.D->(VL.D->Prop)->Prop}
section
namespace VL
open PySem L2
section
variable {K:Gn} {X:Cx} {m:Bool} {e a b c:Expr} {ta tb tc te:TE} {va vb vc:VT} {pos:Pos}
theorem FM.any {a:Option Addr}:FM H0 false a:=fun z=>nomatch z
noncomputable def vC (d:D):VT:=fun S Q=>Q (.d d) S
theorem af {i j}:VE K X m (.Constant (.int i) j pos) (tC (.int i)) (vC (.int i)):=⟨iE,fun _ _ _ _ _ _ _ k h q=>q _ _ (.d (.int i)) _ k .refl (Rep.int i) h⟩
theorem cO {i j}:VE K X m (.Constant (.bool i) j pos) (tC (.bl i)) (vC (.bl i)):=⟨CZ,fun _ _ _ _ _ _ _ k h q=>q _ _ (.d (.bl i)) _ k .refl (Rep.bl i) h⟩
theorem iR {j}:VE K X m (.Constant .none j pos) (tC .non) (vC .non):=⟨zV,fun _ _ _ _ _ _ _ k h q=>q _ _ (.d .non) _ k .refl Rep.non h⟩
theorem dY {i j}:VE K X m (.Constant (.str i) j pos) (tC (.str i)) (vC (.str i)):=⟨zW,fun _ _ _ _ _ _ _ k h q=>q _ _ (.d (.str i)) _ k .refl (Rep.str i) h⟩
theorem iS (h:PE X e (tC v)) (r:∀N H,Rep K N AnyF H v d):VE K X false e (tC v) (vC d):=⟨h,fun _ _ _ _ _ _ _ k h q=>q _ _ (.d d) _ k .refl (show Rep K _ _ _ v d from (r _ _).mono (fun _ n _=>⟨n,rfl⟩) (fun _ _=>FM.any)) h⟩
noncomputable def rdO (i:Nat):Option Sl->Option VR
 | some (.val d)=>some (.d d)
 | some (.fre d)=>some (.d d)
 | some (.own _)=>some (.own i)
 | some (.pen _ _)=>some (.own i)
 | some (.odi _ _)=>some (.own i)
 | some (.obj _)=>some (.own i)
 | _=>none
noncomputable def lJ (i:Nat):VT:=fun S Q=>∃r,rdO i S[i]?=some r/\Q r S
theorem OK.var {H0 H:Hp} (k:OK K H0 Z σ H S) {i:Nat} (h:rdO i S[i]?=some r):∃v,σ[i]?=some (some v)/\dX K (FM H0 false) Z σ S H v r:=by
 have hl:=k.len
 cases es:S[i]? with
 | none=>rw [es] at h;cases h
 | some s=>
  have hi:i < σ.length:=by rw [hl];exact (List.getElem?_eq_some_iff.mp es).1
  have q:=k.at_ i _ s (Gr hi) es
  rw [es] at h
  cases s with
  | no=>cases h
  | val d=>obtain ⟨v,e,r'⟩:=q;cases h;exact ⟨v,by rw [Gr hi,e],r'.mono (fun _ n _=>⟨n,rfl⟩) fun _ _=>FM.any⟩
  | fre d=>obtain ⟨v,e,r'⟩:=q;cases h;exact ⟨v,by rw [Gr hi,e],r'.mono (fun _ n _=>⟨n,rfl⟩) fun _ x _=>x⟩
  | own ds=>obtain ⟨a,vs,e,_⟩:=q;cases h;exact ⟨.ref a,by rw [Gr hi,e],by show σ[i]?=_;rw [Gr hi,e]⟩
  | pen ad ds=>obtain ⟨a,e,_⟩:=q;cases h;exact ⟨.ref a,by rw [Gr hi,e],by show σ[i]?=_;rw [Gr hi,e]⟩
  | odi ks ds=>obtain ⟨a,_,e,_⟩:=q;cases h;exact ⟨.ref a,by rw [Gr hi,e],by show σ[i]?=_;rw [Gr hi,e]⟩
  | obj k=>obtain ⟨a,e,_⟩:=q;cases h;exact ⟨.ref a,by rw [Gr hi,e],by show σ[i]?=_;rw [Gr hi,e]⟩
theorem ae (i:Nat) (h:PE X e (bZ i)):VE K X false e (bZ i) (lJ i):=⟨h,fun H0 Z σ H S Q C k zq1 hc=>by
 obtain ⟨r,h,q⟩:=zq1
 obtain ⟨v,e,rr⟩:=k.var h
 exact ⟨v,e,hc _ _ _ _ k .refl rr q⟩⟩
noncomputable def oB (t:VT):VT:=fun S Q=>t S fun r S'=>(match r with | .d d=>flat d=true | .own _=>True)/\Q r S'
theorem aF (h:VE K X false e te va):VE K X m e te (oB va):=⟨h.pe,fun H0 Z σ H S Q C k t hc=>h.snd H0 Z σ H S _ C k t fun v H' r S' k' st rr ⟨f,q⟩=>hc v H' r S' k' st (by
 cases r with
 | d x=>exact Rep.flat rr f
 | own i=>exact rr) q⟩
noncomputable def v2 (w:D->D->(D->Prop)->Prop) (va vb:VT):VT:=fun S Q=>va S fun ra S1=>vb S1 fun rb S2=>∃d1 d2,get S2 ra=some d1/\get S2 rb=some d2/\w d1 d2 fun d=>Q (.d d) S2
noncomputable def cP (K:Gn) (r:R2) (w:D->D->(D->Prop)->Prop):Prop:=∀(x y:V) (H:Hp) (d1 d2:D) (q:D->Prop) (C:VK),Rep K Any AnyF H x d1->Rep K Any AnyF H y d2->w d1 d2 q->(∀z dz,q dz->(∀N F,Rep K N F H z dz)->C z H)->r x y H C
theorem AF {r:R2} {w:D->D->(D->Prop)->Prop} (L:cP K r w) (ha:SndE K false ta va) (hb:SndE K false tb vb):SndE K m (tOp r ta tb) (v2 w va vb):=by
 intro H0 Z σ H S Q C k t hc
 refine ha H0 Z σ H S _ _ k t fun x H1 ra S1 k1 st1 r1 t1=>?_
 refine hb H0 Z σ H1 S1 _ _ k1 t1 fun y H2 rb S2 k2 st2 r2 zr1=>?_
 obtain ⟨d1,d2,e1,e2,t2⟩:=zr1
 exact L x y H2 d1 d2 _ _ ((r1.step st2).get k2 e1) (r2.get k2 e2) t2 fun z dz q rz=>hc z H2 (.d dz) S2 k2 (st1.trans st2) (rz _ _) q
theorem aA {op:NO} {r:R2} {w:D->D->(D->Prop)->Prop} (ho:OpR X (IP op) r) (L:cP K r w) (ha:VE K X false a ta va) (hb:VE K X false b tb vb):VE K X m (.BinOp a op b pos) (tOp r ta tb) (v2 w va vb):=⟨iG ho ha.pe hb.pe,AF L ha.snd hb.snd⟩
@[reducible] def ofV:V->D
 | .int i=>.int i
 | .bl b=>.bl b
 | .str x=>.str x
 | .ty x=>.ty x
 | _=>.non
noncomputable def scV:V->Bool
 | .int _=>true | .bl _=>true | .str _=>true | .non=>true | .ty _=>true | _=>false
theorem mV (h:scV v=true) {N:AP}:Rep K N F H v (ofV v):=by
 cases v <;> first | exact .int _ | exact .bl _ | exact .str _ | exact .non | exact .ty _ | cases h
noncomputable def wI (C:Int->Int->Prop) (g:Int->Int->V):D->D->(D->Prop)->Prop:=fun d1 d2 q=>∃i j,d1=.int i/\d2=.int j/\C i j/\q (ofV (g i j))
noncomputable def wI0 (g:Int->Int->V):D->D->(D->Prop)->Prop:=fun d1 d2 q=>∃i j,d1=.int i/\d2=.int j/\q (ofV (g i j))
theorem bI {C:Int->Int->Prop} {g:Int->Int->V} (hg:∀i j,scV (g i j)=true:=by intro _ _;rfl):cP K (rI C g) (wI C g):=by
 rintro x y H d1 d2 q Cc r1 r2 ⟨i,j,rfl,rfl,c,h⟩ hc
 cases r1;cases r2
 exact ⟨i,j,rfl,rfl,c,hc _ _ h fun _ _=>mV (hg i j)⟩
theorem aJ {g:Int->Int->V} (hg:∀i j,scV (g i j)=true:=by intro _ _;rfl):cP K (rI0 g) (wI0 g):=by
 rintro x y H d1 d2 q Cc r1 r2 ⟨i,j,rfl,rfl,h⟩ hc
 cases r1;cases r2
 exact ⟨i,j,rfl,rfl,hc _ _ h fun _ _=>mV (hg i j)⟩
noncomputable def toV:D->Option V
 | .int i=>some (.int i)
 | .bl b=>some (.bl b)
 | .str x=>some (.str x)
 | .non=>some .non
 | _=>none
theorem ij {u:V} {N:AP} (h:Rep K N F H v d) (e:toV d=some u):v=u:=by
 cases h <;> cases e <;> rfl
noncomputable def wEq:D->D->(D->Prop)->Prop:=fun d1 d2 q=>∃x y,toV d1=some x/\toV d2=some y/\vU x y=true/\q (.bl (decide (x=y)))
noncomputable def wNe:D->D->(D->Prop)->Prop:=fun d1 d2 q=>∃x y,toV d1=some x/\toV d2=some y/\vU x y=true/\q (.bl (!decide (x=y)))
theorem g9:cP K rEq wEq:=by
 rintro x y H d1 d2 q C r1 r2 ⟨x',y',e1,e2,s,h⟩ hc
 obtain rfl:=ij r1 e1
 obtain rfl:=ij r2 e2
 exact ⟨s,hc _ _ h fun _ _=>.bl _⟩
theorem FX:cP K rNe wNe:=by
 rintro x y H d1 d2 q C r1 r2 ⟨x',y',e1,e2,s,h⟩ hc
 obtain rfl:=ij r1 e1
 obtain rfl:=ij r2 e2
 exact ⟨s,hc _ _ h fun _ _=>.bl _⟩
noncomputable def rM:D->Bool
 | .non=>true
 | _=>false
theorem rN {N:AP} (h:Rep K N F H v d):decide (v=.non)=rM d:=by cases h <;> rfl
noncomputable def Dp (neg:Bool):D->D->(D->Prop)->Prop:=fun d1 d2 q=>d2=.non/\q (.bl (if neg then !rM d1 else rM d1))
theorem AG:cP K (fun x y H Q=>y=.non/\Q (.bl (!decide (x=.non))) H) (Dp true):=by
 rintro x y H d1 d2 q C r1 r2 ⟨rfl,h⟩ hc
 cases r2
 exact ⟨rfl,by rw [rN r1];exact hc _ _ h fun _ _=>.bl _⟩
noncomputable def gV (t:VT):VTT:=fun S Q=>t S fun r S'=>∃k,r=.d (.bl k)/\Q k S'
theorem wK (h:SndE K m te va):SndT K (oe te) (gV va):=fun H0 Z σ H S Q C k t hc=>h H0 Z σ H S _ _ k t fun v H' r S' k' st rr zq1=>by
 obtain ⟨b,e,q⟩:=zq1
 subst e
 cases (show Rep K _ _ H' v (.bl b) from rr)
 exact ⟨b,rfl,hc b H' S' k' st q⟩
theorem FY (h:SndE K m te va):SndT K (tB te) (gV va):=fun H0 Z σ H S Q C k t hc=>h H0 Z σ H S _ _ k t fun v H' r S' k' st rr zq1=>by
 obtain ⟨b,e,q⟩:=zq1
 subst e
 cases (show Rep K _ _ H' v (.bl b) from rr)
 exact ⟨b,rfl,hc b H' S' k' st q⟩
theorem aQ {op:CmpOp} {r:R2} {w:D->D->(D->Prop)->Prop} (ho:OpR X (HS op) r) (L:cP K r w) (ha:VE K X false a ta va) (hb:VE K X false b tb vb) (hm:Jq op b=false):VTe K X (.Compare a [op] [b] pos) (oe (tOp r ta tb)) (gV (v2 w va vb)):=
 ⟨og ho ha.pe hb.pe hm,wK (m:=false) (AF L ha.snd hb.snd)⟩
theorem eG {op:CmpOp} {r:R2} {w:D->D->(D->Prop)->Prop} (ho:OpR X (HS op) r) (L:cP K r w) (ha:VE K X false a ta va) (hb:VE K X false b tb vb) (hm:Jq op b=false):VE K X m (.Compare a [op] [b] pos) (tOp r ta tb) (v2 w va vb):=
 ⟨vW ho ha.pe hb.pe hm,AF L ha.snd hb.snd⟩
theorem cK (h:VE K X false e te va) (he:∀whole,Nd e X.env whole=(do let v <- whole;JA e.pos;Jj [v] (truthy v)):=by intro _;rfl):VTe K X e (tB te) (gV va):=⟨zX h.pe he,FY h.snd⟩
noncomputable def tru:D->Option Bool
 | .bl b=>some b
 | .int i=>some (i != 0)
 | .non=>some false
 | .lst ds=>some !ds.isEmpty
 | .tup ds=>some !ds.isEmpty
 | _=>none
section
variable {tA tB':TT} {wA wB:VTT} {rest:List Expr}
noncomputable def Dq (t u:VTT):VTT:=fun S Q=>t S fun c S1=>if c=true then u S1 Q else Q false S1
noncomputable def vOr (t u:VTT):VTT:=fun S Q=>t S fun c S1=>if c=true then Q true S1 else u S1 Q
noncomputable def AH (t:VTT):VTT:=fun S Q=>t S fun c S1=>Q (!c) S1
theorem kj (h:VTe K X a tA wA):VWe K X (.BoolOp .And [a] pos) tA wA:=⟨vP h.pe,h.snd⟩
theorem rO (h:VTe K X a tA wA):VWe K X (.BoolOp .Or [a] pos) tA wA:=⟨zY h.pe,h.snd⟩
theorem mW (ha:VTe K X a tA wA) (hb:VWe K X (.BoolOp .And (b::rest) pos) tB' wB):VWe K X (.BoolOp .And (a::b::rest) pos) (C1 tA tB') (Dq wA wB):=⟨zZ ha.pe hb.pe,fun H0 Z σ H S Q C k t hc=>
 ha.snd H0 Z σ H S _ _ k t fun c H1 S1 k1 st1 q=>by
  cases c with
  | true=>rw [if_pos rfl] at q ⊢;exact hb.snd H0 Z σ H1 S1 _ _ k1 q fun c2 H2 S2 k2 st2 q2=>hc c2 H2 S2 k2 (st1.trans st2) q2
  | false=>rw [if_neg Gw] at q ⊢;exact hc false H1 S1 k1 st1 q⟩
theorem rP (ha:VTe K X a tA wA) (hb:VWe K X (.BoolOp .Or (b::rest) pos) tB' wB):VWe K X (.BoolOp .Or (a::b::rest) pos) (tOr tA tB') (vOr wA wB):=⟨C3 ha.pe hb.pe,fun H0 Z σ H S Q C k t hc=>
 ha.snd H0 Z σ H S _ _ k t fun c H1 S1 k1 st1 q=>by
  cases c with
  | false=>rw [if_neg Gw] at q ⊢;exact hb.snd H0 Z σ H1 S1 _ _ k1 q fun c2 H2 S2 k2 st2 q2=>hc c2 H2 S2 k2 (st1.trans st2) q2
  | true=>rw [if_pos rfl] at q ⊢;exact hc true H1 S1 k1 st1 q⟩
theorem lK (h:VWe K X e tA wA):VTe K X e tA wA:=⟨h.pe.pt,h.snd⟩
theorem eH (h:VTe K X a tA wA):VTe K X (.UnaryOp .Not a pos) (C2 tA) (AH wA):=⟨Aa h.pe,fun H0 Z σ H S Q C k t hc=>h.snd H0 Z σ H S _ _ k t fun c H1 S1 k1 st1 q=>hc (!c) H1 S1 k1 st1 q⟩
noncomputable def yQ (ta tb:VT):VT:=fun S Q=>ta S fun r S1=>∃c,r=.d (.bl c)/\if c=true then tb S1 Q else Q (.d (.bl false)) S1
noncomputable def Dr (ta tb:VT):VT:=fun S Q=>ta S fun r S1=>∃c,r=.d (.bl c)/\if c=true then Q (.d (.bl true)) S1 else tb S1 Q
noncomputable def yR (ta:VT):VT:=fun S Q=>ta S fun r S1=>∃c,r=.d (.bl c)/\Q (.d (.bl (!c))) S1
theorem km {op} (h:VE K X m a ta va):VE K X m (.BoolOp op [a] pos) ta va:=⟨Ab h.pe,h.snd⟩
theorem gG (ha:VE K X m a ta va) (hb:VE K X m (.BoolOp .And (b::rest) pos) tb vb):VE K X m (.BoolOp .And (a::b::rest) pos) (yE ta tb) (yQ va vb):=⟨Ac ha.pe hb.pe,fun H0 Z σ H S Q C k t hc=>
 ha.snd H0 Z σ H S _ _ k t fun v H1 r S1 k1 st1 rr zq1=>by
  obtain ⟨c,e,q⟩:=zq1
  subst e
  cases (show Rep K _ _ H1 v (.bl c) from rr)
  refine ⟨c,rfl,?_⟩
  cases c with
  | true=>rw [if_pos rfl] at q ⊢;exact hb.snd H0 Z σ H1 S1 _ _ k1 q fun v2 H2 r2 S2 k2 st2 rr2 q2=>hc v2 H2 r2 S2 k2 (st1.trans st2) rr2 q2
  | false=>rw [if_neg Gw] at q ⊢;exact hc _ H1 (.d (.bl false)) S1 k1 st1 (Rep.bl false) q⟩
theorem Ds (ha:VE K X m a ta va) (hb:VE K X m (.BoolOp .Or (b::rest) pos) tb vb):VE K X m (.BoolOp .Or (a::b::rest) pos) (C4 ta tb) (Dr va vb):=⟨C5 ha.pe hb.pe,fun H0 Z σ H S Q C k t hc=>
 ha.snd H0 Z σ H S _ _ k t fun v H1 r S1 k1 st1 rr zq1=>by
  obtain ⟨c,e,q⟩:=zq1
  subst e
  cases (show Rep K _ _ H1 v (.bl c) from rr)
  refine ⟨c,rfl,?_⟩
  cases c with
  | false=>rw [if_neg Gw] at q ⊢;exact hb.snd H0 Z σ H1 S1 _ _ k1 q fun v2 H2 r2 S2 k2 st2 rr2 q2=>hc v2 H2 r2 S2 k2 (st1.trans st2) rr2 q2
  | true=>rw [if_pos rfl] at q ⊢;exact hc _ H1 (.d (.bl true)) S1 k1 st1 (Rep.bl true) q⟩
theorem AI (ha:VE K X m a ta va):VE K X m (.UnaryOp .Not a pos) (yF ta) (yR va):=⟨Ad ha.pe,fun H0 Z σ H S Q C k t hc=>
 ha.snd H0 Z σ H S _ _ k t fun v H1 r S1 k1 st1 rr zq1=>by
  obtain ⟨c,e,q⟩:=zq1
  subst e
  cases (show Rep K _ _ H1 v (.bl c) from rr)
  exact ⟨c,rfl,hc _ H1 (.d (.bl (!c))) S1 k1 st1 (Rep.bl _) q⟩⟩
noncomputable def vIf (t:VTT) (ta tb:VT):VT:=fun S Q=>t S fun c S1=>if c=true then ta S1 Q else tb S1 Q
theorem rQ (hc:VTe K X c tA wA) (ha:VE K X m a ta va) (hb:VE K X m b tb vb):VE K X m (.IfExp c a b pos) (tIf tA ta tb) (vIf wA va vb):=⟨qX hc.pe ha.pe hb.pe,fun H0 Z σ H S Q C k t hq=>
 hc.snd H0 Z σ H S _ _ k t fun c H1 S1 k1 st1 q=>by
  cases c with
  | true=>rw [if_pos rfl] at q ⊢;exact ha.snd H0 Z σ H1 S1 _ _ k1 q fun v2 H2 r2 S2 k2 st2 rr2 q2=>hq v2 H2 r2 S2 k2 (st1.trans st2) rr2 q2
  | false=>rw [if_neg Gw] at q ⊢;exact hb.snd H0 Z σ H1 S1 _ _ k1 q fun v2 H2 r2 S2 k2 st2 rr2 q2=>hq v2 H2 r2 S2 k2 (st1.trans st2) rr2 q2⟩
end
noncomputable def vUn (g:Int->V) (va:VT):VT:=fun S Q=>va S fun r S1=>∃i,get S1 r=some (.int i)/\Q (.d (ofV (g i))) S1
theorem iT {op:UnaryOp} {g:Int->V} (ho:UnR X (unaryOp op) (rU g)) (ha:VE K X false a ta va) (hg:∀i,scV (g i)=true:=by intro _;rfl):VE K X m (.UnaryOp op a pos) (tUn (rU g) ta) (vUn g va):=⟨C8 ho ha.pe,fun H0 Z σ H S Q C k t hc=>
 ha.snd H0 Z σ H S _ _ k t fun v H1 r S1 k1 st1 rr zq1=>by
  obtain ⟨i,e,q⟩:=zq1
  cases rr.get k1 e
  exact ⟨i,rfl,hc _ H1 (.d (ofV (g i))) S1 k1 st1 (mV (hg i)) q⟩⟩
section
variable {es:List Expr} {tr:TA} {vr:VTA}
noncomputable def qk:VTA:=fun S Q=>Q [] S
noncomputable def fY (va:VT) (vr:VTA):VTA:=fun S Q=>va S fun r S1=>vr S1 fun rs S2=>Q (r::rs) S2
theorem ah:VA K X m [] jZ qk:=⟨gA,fun _ _ _ _ _ _ _ k h q=>q _ _ _ _ k .refl .nil h⟩
theorem aa (ha:VE K X m e te va) (hr:VA K X m es tr vr) (hs:GM (e::es) X.env=(false,eval e X.env)::GM es X.env:=by rfl):VA K X m (e::es) (ez te tr) (fY va vr):=⟨cZ ha.pe hr.pe hs,fun H0 Z σ H S Q C k t hc=>
 ha.snd H0 Z σ H S _ _ k t fun v H1 r S1 k1 st1 rr q=>hr.snd H0 Z σ H1 S1 _ _ k1 q fun vs H2 rs S2 k2 st2 rrs q2=>hc (v::vs) H2 (r::rs) S2 k2 (st1.trans st2) (.cons (rr.step st2) rrs) q2⟩
noncomputable def allD:List VR->Option (List D)
 | []=>some []
 | .d x::r=>(allD r).map (x::·)
 | _::_=>none
theorem cN.allD (h:cN K F Z σ S H vs rs) (e:VL.allD rs=some ds):Reps K (NM Z σ S) F H vs ds:=by
 induction h generalizing ds with
 | nil=>cases e;exact .nil
 | @cons v r vs rs h t ih=>
  cases r with
  | d x=>
   obtain ⟨es,h1,rfl⟩:=Option.map_eq_some_iff.mp (show (VL.allD rs).map (x::·)=some ds from e)
   exact .cons h (ih h1)
  | own i=>cases e
theorem cN.length (h:cN K F Z σ S H vs rs):vs.length=rs.length:=by
 induction h with
 | nil=>rfl
 | cons h t ih=>simp [ih]
theorem de:∀{rs:List VR} {ds:List D},allD rs=some ds->ds.length=rs.length
 | [],_,e=>by cases e;rfl
 | .d x::r,ds,e=>by
  obtain ⟨es,h1,rfl⟩:=Option.map_eq_some_iff.mp (show (VL.allD r).map (x::·)=some ds from e)
  simp [de h1]
 | .own _::_,_,e=>by cases e
noncomputable def Dt (vr:VTA):VT:=fun S Q=>vr S fun rs S1=>∃ds,allD rs=some ds/\ds.length<=1000/\Q (.d (.tup ds)) S1
theorem small {n:Nat} (h:n<=1000):n<=GZ:=by rw [Hv];lia
theorem OK.nm {H0 H:Hp} (k:OK K H0 Z σ H S) {p:Addr} (hp:H p=none):NM Z σ S p:=fun z=>by
 have e:=k.mo z
 rw [hp] at e;exact e
theorem aw {x1} (h:VA K X m es tr vr):VE K X m (.Tuple es x1 pos) (Ar tr) (Dt vr):=⟨rB h.pe,fun H0 Z σ H S Q C k t hc=>
 h.snd H0 Z σ H S _ _ k t fun vs H1 rs S1 k1 st1 rrs ⟨ds,e,hl,q⟩=>⟨small (by rw [rrs.length,<- de e];exact hl),fun p hp=>by
  have g:=aI (o:=.tup vs) hp
  exact hc _ _ (.d (.tup ds)) S1 (k1.grow g) (st1.trans (.grow g)) (Rep.tup (k1.nm hp) (.inl ay) ((rrs.allD e).mono (fun a n e=>⟨n,g a e⟩) fun _ x=>x)) q⟩⟩
noncomputable def wL (vr:VTA):VTN:=fun S Q=>vr S fun rs S1=>∃ds,allD rs=some ds/\ds.length<=1000/\Q ds S1
theorem bT {H0 H:Hp} {p:Addr} {o:HO} (hp:H p=none) (h:Reps K (NM Z σ S) (FM H0 true) H vs ds):Reps K (fun b=>NM Z σ S b/\b≠p) (Fr H0) (upd H p o) vs ds:=
 h.mono (fun a n e=>⟨⟨n,fun z=>e (by rw [z];exact hp)⟩,aI hp a e⟩) fun _ x=>x rfl
theorem aV (h:VA K X true es tr vr):VN K X (.List es pos) (As tr) (wL vr):=⟨rC h.pe,fun H0 Z σ H S Q C k t hc=>
 h.snd H0 Z σ H S _ _ k t fun vs H1 rs S1 k1 st1 rrs ⟨ds,e,hl,q⟩=>⟨small (by rw [rrs.length,<- de e];exact hl),fun p hp=>
  hc p vs ds H1 _ S1 k1 st1 hp (aI hp) ay (bT hp (rrs.allD e)) q⟩⟩
noncomputable def rR (t:VTN):VT:=fun S Q=>t S fun ds S1=>Q (.d (.lst ds)) S1
theorem aG {t:VTN} (h:VN K X e te t):VE K X m e te (rR t):=⟨h.pe,fun H0 Z σ H S Q C k t hc=>h.snd H0 Z σ H S _ _ k t fun a vs ds H1 H' S1 k1 st1 ha hg hl rr q=>by
 refine hc _ H' (.d (.lst ds)) S1 (k1.grow hg) (st1.trans (.grow hg)) (Rep.lst (k1.nm ha) (fun _=>⟨a,rfl,k1.dom a ha⟩) hl (rr.mono (fun b n e=>⟨n.1,rfl⟩) fun _ x _=>x)) q⟩
end
theorem dX.elems {H0 H:Hp} (h:dX K F Z σ S H v r) (k:OK K H0 Z σ H S) (e:VL.get S r=some (.lst ds)):∃a vs,v=.ref a/\SqL K H a vs/\Reps K (NM Z σ S) AnyF H vs ds:=by
 cases r with
 | d y=>
  cases e
  obtain ⟨a,vs,rfl,hq,rr⟩:=Rep.sqL h
  exact ⟨a,vs,rfl,hq,rr.mono (fun _ n _=>⟨n,rfl⟩) fun _ _=>trivial⟩
 | own i=>
  have h:σ[i]?=some (some v):=h
  have e:getO S[i]?=some (.lst ds):=e
  cases es:S[i]? with
  | none=>rw [es] at e;cases e
  | some s=>
   rw [es] at e
   cases s with
   | no=>cases e
   | val d=>cases e
   | fre d=>cases e
   | own ds=>
    cases e
    obtain ⟨a,vs,h1,h2,h3,h4⟩:=k.at_ i _ _ h es
    cases h1
    exact ⟨a,vs,rfl,.inl (.inl h2),h4.mono (fun _ n _=>⟨n,rfl⟩) fun _ _=>trivial⟩
   | pen ad ns=>
    cases e
    obtain ⟨a,h1,_,h2⟩:=k.at_ i _ _ h es
    cases h1
    exact ⟨a,_,rfl,.inl (.inl h2),Reps.ints⟩
   | odi ks ds=>cases e
   | obj k=>cases e
theorem dX.elemsT {H0 H:Hp} (h:dX K F Z σ S H v r) (k:OK K H0 Z σ H S) (e:VL.get S r=some (.tup ds)):∃a vs,v=.ref a/\SqT K H a vs/\Reps K (NM Z σ S) AnyF H vs ds:=by
 cases r with
 | d y=>
  cases e
  cases (show Rep K (NM Z σ S) F H v (.tup ds) from h) with
  | tup n h2 r2=>exact ⟨_,_,rfl,.inl h2,r2.mono (fun _ n _=>⟨n,rfl⟩) fun _ _=>trivial⟩
  | tupK h2 r2=>exact ⟨_,_,rfl,fX h2,r2.mono (fun _ n _=>⟨n,rfl⟩) fun _ _=>trivial⟩
 | own i=>
  have e:getO S[i]?=some (.tup ds):=e
  cases es:S[i]? with
  | none=>rw [es] at e;cases e
  | some s=>rw [es] at e;cases s <;> cases e
end
end VL
end
section
namespace VL
open PySem L2
section
variable {K:Gn} {X:Cx} {m:Bool} {e a b c:Expr} {ta tb tc te:TE} {va vb vc:VT} {pos:Pos}
theorem iU {N:AP} {i:Int} (r:Reps K N F H vs ds) (h:atI ds i=some d):∃v,atI vs i=some v/\Rep K N F H v d:=by
 unfold atI at h ⊢
 rw [r.length]
 cases e:ixN ds.length i with
 | none=>rw [e] at h;cases h
 | some j=>
  rw [e] at h
  exact r.getD h
noncomputable def vIx (va vb:VT):VT:=fun S Q=>va S fun ra S1=>vb S1 fun rb S2=>∃ds i d,(get S2 ra=some (.lst ds)\/get S2 ra=some (.tup ds))/\get S2 rb=some (.int i)/\atI ds i=some d/\Q (.d d) S2
theorem aH (hK:X.K=K) (ha:VE K X false a ta va) (hb:VE K X false b tb vb) (hs:dR b):VE K X false (.Subscript a b pos) (tOp (rIx K) ta tb) (vIx va vb):=⟨by subst hK;exact oq rE ha.pe hb.pe hs,fun H0 Z σ H S Q C k t hc=>
 ha.snd H0 Z σ H S _ _ k t fun x H1 ra S1 k1 st1 r1 t1=>hb.snd H0 Z σ H1 S1 _ _ k1 t1 fun y H2 rb S2 k2 st2 r2 zq1=>by
  obtain ⟨ds,i,d,e1,e2,e3,q⟩:=zq1
  cases r2.get k2 e2
  have fin:∀v,Rep K (NM Z σ S2) AnyF H2 v d->C v H2:=fun v rv=>hc v H2 (.d d) S2 k2 (st1.trans st2) (show Rep K _ _ H2 v d from rv.mono (fun _ n _=>⟨n,rfl⟩) fun _ _=>FM.any) q
  rcases e1 with e1 | e1
  ·obtain ⟨p,vs,rfl,hq,rr⟩:=(r1.step st2).elems k2 e1
   obtain ⟨v,h1,h2⟩:=iU rr e3
   exact .inl ⟨p,vs,i,v,rfl,rfl,hq,h1,fin v h2⟩
  ·obtain ⟨p,vs,rfl,hq,rr⟩:=(r1.step st2).elemsT k2 e1
   obtain ⟨v,h1,h2⟩:=iU rr e3
   exact .inr (.inl ⟨p,vs,i,v,rfl,rfl,hq,h1,fin v h2⟩)⟩
section
variable {es:List Expr} {tr:TA} {vr:VTA} {x:Str} {p:Pos} {id T:String} {r:List V->Hp->VK->Prop}
noncomputable def vCB (w:List D->(D->Prop)->Prop) (vr:VTA):VT:=fun S Q=>vr S fun rs S1=>∃ds,gets S1 rs=some ds/\w ds fun d=>Q (.d d) S1
noncomputable def iV (K:Gn) (r:List V->Hp->VK->Prop) (w:List D->(D->Prop)->Prop):Prop:=∀(xs:List V) (H:Hp) (ds:List D) (q:D->Prop) (C:VK),Reps K Any AnyF H xs ds->w ds q->(∀z dz,q dz->(∀N F,Rep K N F H z dz)->C z H)->r xs H C
theorem Du {w:List D->(D->Prop)->Prop} (L:iV K r w) (ha:Do K false tr vr):SndE K m (tCB r tr) (vCB w vr):=fun H0 Z σ H S Q C k t hc=>
 ha H0 Z σ H S _ _ k t fun vs H1 rs S1 k1 st1 rrs zt1=>by obtain ⟨ds,e,q⟩:=zt1;exact L vs H1 ds _ _ (rrs.gets k1 e) q fun z dz q rz=>hc z H1 (.d dz) S1 k1 st1 (rz _ _) q
theorem aZ {w:List D->(D->Prop)->Prop} (hc:cL X (.builtin id) r) (L:iV K r w) (hg:Gl X x) (hm:X.mg x=none) (hv:HP x=some (.builtin id)) (ha:VA K X false (e::es) tr vr) (hn:x≠"__name__":=by decide) (hdb:(x==("__debug__":Str))=false:=by decide)
  (he:GM (e::es) X.env=(false,eval e X.env)::GM es X.env:=by rfl) (hpl:(JF pos (GM es X.env)).any (·.1)=false:=by rfl):VE K X m (.Call (.Name x p) (e::es) [] pos) (tCB r tr) (vCB w vr):=⟨eE hc hg hm hv ha.pe hn hdb he hpl,Du L ha.snd⟩
theorem gH {w:List D->(D->Prop)->Prop} (hc:cL X (.type T) r) (L:iV K r w) (hg:Gl X x) (hm:X.mg x=none) (hv:HP x=some (.type T)) (ha:VA K X false (e::es) tr vr) (hn:x≠"__name__":=by decide) (hdb:(x==("__debug__":Str))=false:=by decide)
  (he:GM (e::es) X.env=(false,eval e X.env)::GM es X.env:=by rfl) (hpl:(JF pos (GM es X.env)).any (·.1)=false:=by rfl):VE K X m (.Call (.Name x p) (e::es) [] pos) (tCB r tr) (vCB w vr):=⟨gC hc hg hm hv ha.pe hn hdb he hpl,Du L ha.snd⟩
theorem rep1 {N:AP} {xs:List V} (h:Reps K N F H xs [d]):∃v,xs=[v]/\Rep K N F H v d:=by
 cases h with | cons h t=>cases t;exact ⟨_,rfl,h⟩
theorem rep2 {N:AP} {xs:List V} {d d':D} (h:Reps K N F H xs [d,d']):∃v u,xs=[v,u]/\Rep K N F H v d/\Rep K N F H u d':=by
 cases h with | cons h t=>cases t with | cons h' t=>cases t;exact ⟨_,_,rfl,h,h'⟩
noncomputable def AJ:List D->(D->Prop)->Prop:=fun ds q=>∃es,(ds=[.lst es]\/ds=[.tup es])/\q (.int es.length)
theorem fA:iV K (fun xs H Q=>∃p ys,xs=[.ref p]/\(SqL K H p ys\/SqT K H p ys)/\Q (.int ys.length) H) AJ:=by
 rintro xs H ds q C r ⟨es,rfl | rfl,h⟩ hc
 ·obtain ⟨v,rfl,rv⟩:=rep1 r
  obtain ⟨a,vs,rfl,hq,rr⟩:=rv.sqL
  exact ⟨a,vs,rfl,.inl hq,by rw [rr.length];exact hc _ _ h fun _ _=>.int _⟩
 ·obtain ⟨v,rfl,rv⟩:=rep1 r
  obtain ⟨a,vs,rfl,hq,rr⟩:=rv.sqT
  exact ⟨a,vs,rfl,.inr hq,by rw [rr.length];exact hc _ _ h fun _ _=>.int _⟩
noncomputable def FZ:List D->(D->Prop)->Prop:=fun ds q=>(∃i,ds=[.int i]/\q (.int i))\/∃k:Bool,ds=[.bl k]/\q (.int (if k then 1 else 0))
theorem rS:iV K (fun xs H Q=>(∃i,xs=[.int i]/\Q (.int i) H)\/∃k,xs=[.bl k]/\Q (.int (if k then 1 else 0)) H) FZ:=by
 rintro xs H ds q C r (⟨i,rfl,h⟩ | ⟨i,rfl,h⟩) hc
 ·obtain ⟨v,rfl,rv⟩:=rep1 r
  cases rv
  exact .inl ⟨i,rfl,hc _ _ h fun _ _=>.int _⟩
 ·obtain ⟨v,rfl,rv⟩:=rep1 r
  cases rv
  exact .inr ⟨i,rfl,hc _ _ h fun _ _=>.int _⟩
noncomputable def tyD:D->String
 | .int _=>"int" | .bl _=>"bool" | .non=>"NoneType" | .str _=>"str" | .tup _=>"tuple" | .lst _=>"list" | .ty _=>"type" | .dic _ _=>"dict" | .exc _=>"" | .dib _ _=>"dict" | .oth _=>""
noncomputable def isE:D->Bool
 | .exc _=>true
 | .oth _=>true
 | _=>false
noncomputable def ql:List D->(D->Prop)->Prop:=fun ds q=>∃x c b,ds=[x,.ty c]/\(∀n,x≠.ty n)/\isE x=false/\qh (tyD x) c=some b/\q (.bl b)
theorem iW:iV K (wu K) ql:=by
 rintro xs H ds q C r ⟨x,c,b,rfl,hn,hE,e,h⟩ hc
 obtain ⟨v,u,rfl,rv,ru⟩:=rep2 r
 cases ru
 refine ⟨v,tyD x,c,b,rfl,?_,e,hc _ _ h fun _ _=>.bl _⟩
 cases rv with
 | int i=>exact .int i
 | bl i=>exact .bl i
 | non=>exact .non
 | str i=>exact .str i
 | ty i=>exact (hn _ rfl).elim
 | tup n h r=>exact .tup (.inl h)
 | tupK h r=>exact .tup (fX h)
 | lst n f h r=>exact .lst (.inl (.inl h))
 | lstF n f h r=>exact .lst (.inl (.inr ⟨_,h⟩))
 | lstK f h r=>exact .lst (iQ h)
 | dic n f h e _ r=>exact .dE h
 | exc n h e=>cases hE
 | oth h=>cases hE
 | dib n f h e _ _ r=>exact .dE h
theorem cN.one {r:VR} (h:cN K F Z σ S H vs [r]):∃v,vs=[v]/\dX K F Z σ S H v r:=by
 cases h with | cons h t=>cases t;exact ⟨_,rfl,h⟩
noncomputable def oC (vr:VTA):VTN:=fun S Q=>vr S fun rs S1=>∃r ds,rs=[r]/\(get S1 r=some (.lst ds)\/get S1 r=some (.tup ds))/\flats ds=true/\Q ds S1
theorem e9 {H0 H:Hp} {p:Addr} {o:HO} (hp:H p=none) (h:Reps K (NM Z σ S) F H vs ds) (f:flats ds=true):Reps K (fun b=>NM Z σ S b/\b≠p) (Fr H0) (upd H p o) vs ds:=
 bT hp (Reps.flat h f)
theorem ik (hK:X.K=K) (hg:Gl X "list") (hm:X.mg "list"=none) (ha:VA K X false [e] tr vr) (he:GM [e] X.env=[(false,eval e X.env)]:=by rfl) :
  VN K X (.Call (.Name "list" p) [e] [] pos) (tCB (fun xs H Q=>∃p ys,xs=[.ref p]/\(SqL K H p ys\/SqT K H p ys)/\∀l,H l=none->Q (.ref l) (upd H l (.lst ys))) tr) (oC vr):=
 ⟨by subst hK;exact gC j9 hg hm wo ha.pe (by decide) (by decide) he rfl,fun H0 Z σ H S Q C k t hc=>ha.snd H0 Z σ H S _ _ k t fun vs H1 rs S1 k1 st1 rrs zq1=>by
  obtain ⟨r,ds,e1,e2,f,q⟩:=zq1
  subst e1
  obtain ⟨v,rfl,rv⟩:=rrs.one
  rcases e2 with e2 | e2
  ·obtain ⟨a,ys,rfl,hq,rr⟩:=rv.elems k1 e2
   exact ⟨a,ys,rfl,.inl hq,fun l hl=>hc l ys ds H1 _ S1 k1 st1 hl (aI hl) ay (e9 hl rr f) q⟩
  ·obtain ⟨a,ys,rfl,hq,rr⟩:=rv.elemsT k1 e2
   exact ⟨a,ys,rfl,.inr hq,fun l hl=>hc l ys ds H1 _ S1 k1 st1 hl (aI hl) ay (e9 hl rr f) q⟩⟩
noncomputable def rT (vr:VTA):VT:=fun S Q=>vr S fun rs S1=>∃r ds,rs=[r]/\(get S1 r=some (.lst ds)\/r=.d (.tup ds))/\flats ds=true/\Q (.d (.tup ds)) S1
theorem fI (hK:X.K=K) (hg:Gl X "tuple") (hm:X.mg "tuple"=none) (ha:VA K X false [e] tr vr) (he:GM [e] X.env=[(false,eval e X.env)]:=by rfl) :
  VE K X m (.Call (.Name "tuple" p) [e] [] pos) (tCB (fun xs H Q=>∃p ys,xs=[.ref p]/\((SqL K H p ys/\∀l,H l=none->Q (.ref l) (upd H l (.tup ys)))\/(SqT K H p ys/\Q (.ref p) H))) tr) (rT vr):=
 ⟨by subst hK;exact gC jr hg hm fU ha.pe (by decide) (by decide) he rfl,fun H0 Z σ H S Q C k t hc=>ha.snd H0 Z σ H S _ _ k t fun vs H1 rs S1 k1 st1 rrs zq1=>by
  obtain ⟨r,ds,e1,e2,f,q⟩:=zq1
  subst e1
  obtain ⟨v,rfl,rv⟩:=rrs.one
  rcases e2 with e2 | e2
  ·obtain ⟨a,ys,rfl,hq,rr⟩:=rv.elems k1 e2
   refine ⟨a,ys,rfl,.inl ⟨hq,fun l hl=>?_⟩⟩
   have g:=aI (o:=.tup ys) hl
   exact hc _ _ (.d (.tup ds)) S1 (k1.grow g) (st1.trans (.grow g)) (Rep.tup (k1.nm hl) (.inl ay) ((Reps.flat rr f).mono (fun a n e=>⟨n,g a e⟩) fun _ x=>x)) q
  ·subst e2
   obtain ⟨a,ys,rfl,hq,rr⟩:=Rep.sqT (show Rep K _ _ H1 v (.tup ds) from rv)
   refine ⟨a,ys,rfl,.inr ⟨hq,hc _ _ (.d (.tup ds)) S1 k1 st1 ?_ q⟩⟩
   exact Rep.flat (show Rep K _ _ H1 _ (.tup ds) from rv) (by simpa [flat] using f)⟩
@[reducible] def eT (ms:List Int):D:=.tup (ms.map .int)
@[reducible] def eL (mss:List (List Int)):D:=.lst (mss.map eT)
theorem aN:∀ms:List Int,flats (ms.map D.int)=true
 | []=>rfl
 | _::r=>by simp [flats,flat,aN r]
theorem dH:∀mss:List (List Int),flats (mss.map eT)=true
 | []=>rfl
 | _::r=>by simp [flats,eT,flat,aN,dH r]
theorem jD {N:AP}:∀{vs:List V} {mss:List (List Int)},Reps K N F H vs (mss.map eT)->∃ps,vs=ps.map V.ref/\iL K H ps mss/\(∀p∈ps,H p=none->N p->False\/True)
 | _,[],.nil=>⟨[],rfl,.nil,fun _ h=>nomatch h⟩
 | _,ms::r,.cons h t=>by
  obtain ⟨ps,rfl,h1,h2⟩:=jD t
  obtain ⟨a,vs,rfl,hq,rr⟩:=Rep.sqT h
  cases Reps.toInts rr
  exact ⟨a::ps,rfl,.cons hq h1,fun _ _ _ _=>.inr trivial⟩
theorem fZ {N:AP} (hN:∀p vs,Rd H p (.tup vs)->N p):∀{ps:List Addr} {mss:List (List Int)},iL K H ps mss->Reps K N F H (ps.map V.ref) (mss.map eT)
 | _,_,.nil=>.nil
 | _,_,.cons h t=>by
  refine .cons ?_ (fZ hN t)
  rcases h with h | h
  ·exact .tup (hN _ _ h) h Reps.ints
  ·exact .tupK (.inr h) Reps.ints
theorem OK.tupN {H0 H:Hp} (k:OK K H0 Z σ H S):∀p vs,Rd H p (.tup vs)->NM Z σ S p:=fun p vs h z=>by
 have e:=k.mo z
 rcases h with h | ⟨o,h⟩ <;> rw [h] at e <;> exact e
end
noncomputable def spP (K:Gn) (p:List D->(D->Prop)->Prop):Sp:=fun vs H Q _=>∃ds R,Reps K Any AnyF H vs ds/\p ds R/\∀d v H',R d->(∀a,H a≠none->H' a=H a)->Rep K Any (Fr H) H' v d->Q v H'
noncomputable def spI (K:Gn) (j:Nat) (p:List Int->List D->(D->List Int->Prop)->Prop):Sp:=fun vs H Q _=>∃a ws us ns ds es R,vs=ws++.ref a::us/\ws.length=j/\H a=some (.lst (ns.map .int))/\Reps K (·≠a) AnyF H ws ds/\Reps K (·≠a) AnyF H us es/\p ns (ds++es) R /\
 ∀d ns' v H',R d ns'->(∀b,b≠a->H b≠none->H' b=H b)->H' a=some (.lst (ns'.map .int))->Rep K (·≠a) (Fr H) H' v d->Q v H'
section
variable {es:List Expr} {tr:TA} {vr:VTA} {x:Str} {p0:Pos} {j k:Nat} {ps:List Str}
noncomputable def vFn (p:List D->(D->Prop)->Prop) (vr:VTA):VT:=fun S Q=>vr S fun rs S1=>∃ds,gets S1 rs=some ds/\p ds fun d=>Q (.d d) S1
noncomputable def Dv (p:List D->(D->Prop)->Prop) (vr:VTA):VTN:=fun S Q=>vr S fun rs S1=>∃ds,gets S1 rs=some ds/\p ds fun d=>∃es,d=.lst es/\flats es=true/\Q es S1
theorem bD (E:Has X.prog X.w X.K X.mg X.base k x ps (spP K p)) (hr:ck j X.A) (ha:VA K X false (e::es) tr vr)
  (hk:k<=j:=by decide) (hg:Gl X x:=by rfl) (hdb:(x==("__debug__":Str))=false:=by decide) (he:GM (e::es) X.env=(false,eval e X.env)::GM es X.env:=by rfl)
  (hpl:(JF pos (GM es X.env)).any (·.1)=false:=by rfl):VE K X m (.Call (.Name x p0) (e::es) [] pos) (gS (spP K p) [] E0 tr) (vFn p vr):=⟨ox E hr ha.pe hk hg hdb he hpl,fun H0 Z σ H S Q C k t hc=>
 ha.snd H0 Z σ H S _ _ k t fun vs H1 rs S1 k1 st1 rrs zq1=>by
  obtain ⟨ds,e,q⟩:=zq1
  refine ⟨ds,_,by rw [Ia];exact rrs.gets k1 e,q,fun d v H' q g r=>?_⟩
  refine hc v H' (.d d) S1 (k1.grow g) (st1.trans (.grow g)) (show Rep K _ _ H' v d from ?_) q
  refine (Rep.avoid (N':=NM Z σ S1) (fun a z=>?_) (fun a zq1=>by obtain ⟨b,e,f⟩:=zq1;cases e;exact k1.nm f) r).mono (fun _ n _=>⟨n,rfl⟩) (fun o zt1 _=>by obtain ⟨b,e,f⟩:=zt1;exact ⟨b,e,k1.dom b f⟩)
  have e:=k1.mo (Classical.not_not.mp z)
  rw [g a e.ne];exact e⟩
theorem Dw (E:Has X.prog X.w X.K X.mg X.base k x ps (spP K p)) (hr:ck j X.A) (ha:VA K X false (e::es) tr vr)
  (hk:k<=j:=by decide) (hg:Gl X x:=by rfl) (hdb:(x==("__debug__":Str))=false:=by decide) (he:GM (e::es) X.env=(false,eval e X.env)::GM es X.env:=by rfl)
  (hpl:(JF pos (GM es X.env)).any (·.1)=false:=by rfl):VN K X (.Call (.Name x p0) (e::es) [] pos) (gS (spP K p) [] E0 tr) (Dv p vr):=⟨ox E hr ha.pe hk hg hdb he hpl,fun H0 Z σ H S Q C k t hc=>
 ha.snd H0 Z σ H S _ _ k t fun vs H1 rs S1 k1 st1 rrs zq1=>by
  obtain ⟨ds,e,q⟩:=zq1
  refine ⟨ds,_,by rw [Ia];exact rrs.gets k1 e,q,fun d v H' ⟨es,ed,hf,q⟩ g r=>?_⟩
  subst ed
  have r2:=Rep.avoid (N':=NM Z σ S1) (fun a z=>by
   have e:=k1.mo (Classical.not_not.mp z)
   rw [g a e.ne];exact e) (fun a zq1=>by obtain ⟨b,e,f⟩:=zq1;cases e;exact k1.nm f) r
  cases r2 with
  | @lst a ws _ n f h rs=>
   obtain ⟨b,e,f⟩:=f
   cases e
   refine hc a ws es H1 H' S1 k1 st1 f g h ?_ q
   refine (Reps.avoid (N':=fun b=>NM Z σ S1 b/\b≠a) (fun b z=>?_) (fun b fb=>fb.elim) (Reps.flat (F':=fun _=>False) rs hf)).mono (fun _ n _=>⟨n,rfl⟩) (fun o f=>f.elim)
   by_cases hb:b=a
   ·subst hb;rw [h];trivial
   ·have e:=k1.mo (G4 fun y=>z ⟨y,hb⟩)
    rw [g b e.ne];exact e
  | lstF n f h rs=>obtain ⟨b,e,f⟩:=f;cases e
  | lstK f h rs=>obtain ⟨b,e,f⟩:=f;cases e⟩
end
end
end VL
end
section
namespace VL
open PySem L2
section
variable {K:Gn} {H H' H0:Hp} {Z:AP} {σ:St} {S:List Sl}
theorem OK.put (k:OK K H0 Z σ H S) {i:Nat} {o:Option V} {s:Sl} (hi:i < S.length)
  (hN:∀a,NM Z σ S a->H a≠none->NM Z (σ.set i o) (S.set i s) a/\H' a=H a)
  (hM:∀j s',j≠i->S[j]?=some s'->s'.mut=true->∀a,σ[j]?=some (some (V.ref a))->H' a=H a)
  (hs:qj K H0 (NM Z (σ.set i o) (S.set i s)) H' o s)
  (hj:∀j a t,j≠i->S[j]?=some t->t.mut=true->s.mut=true->o=some (V.ref a)->σ[j]?≠some (some (V.ref a)))
  (hd:∀a,H' a=none->H a=none) (hz:∀a,Z a->IsM (H' a)) (hnz:∀a,s.mut=true->o=some (V.ref a)->¬Z a):OK K H0 Z (σ.set i o) H' (S.set i s) where
 len:=by simp [k.len]
 dom:=fun a e=>k.dom a (hd a e)
 zl:=hz
 nz:=fun j t a h1 h2 h3=>by
  have hi':i < σ.length:=by rw [k.len];exact hi
  by_cases hji:i=j
  ·subst hji
   rw [G0 hi] at h1
   rw [G0 hi'] at h3
   cases h1
   exact hnz a h2 (GP h3)
  ·rw [G3 hji] at h1 h3
   exact k.nz j t a h1 h2 h3
 inj:=fun a b c t u h1 h2 m1 m2 h3 h4=>by
  have hi':i < σ.length:=by rw [k.len];exact hi
  by_cases ha:i=a
  ·by_cases hb:i=b
   ·lia
   ·subst ha
    rw [G0 hi] at h1
    rw [G0 hi'] at h3
    rw [G3 hb] at h2 h4
    cases h1
    exact (hj b c u (fun z=>hb z.symm) h2 m2 m1 (GP h3) h4).elim
  ·by_cases hb:i=b
   ·subst hb
    rw [G0 hi] at h2
    rw [G0 hi'] at h4
    rw [G3 ha] at h1 h3
    cases h2
    exact (hj a c t (fun z=>ha z.symm) h1 m1 m2 (GP h4) h3).elim
   ·rw [G3 ha] at h1 h3
    rw [G3 hb] at h2 h4
    exact k.inj a b c t u h1 h2 m1 m2 h3 h4
 at_:=fun j o' s' h1 h2=>by
  have hi':i < σ.length:=by rw [k.len];exact hi
  by_cases hji:i=j
  ·subst hji
   rw [G0 hi'] at h1
   rw [G0 hi] at h2
   cases h1;cases h2
   exact hs
  ·rw [G3 hji] at h1 h2
   have q:=k.at_ j o' s' h1 h2
   cases s' with
   | no=>trivial
   | val d=>obtain ⟨v,e,r⟩:=q;exact ⟨v,e,r.mono hN fun _ x=>x⟩
   | fre d=>obtain ⟨v,e,r⟩:=q;exact ⟨v,e,r.mono hN fun _ x=>x⟩
   | own ds=>
    obtain ⟨a,vs,e,e',e0,r⟩:=q
    exact ⟨a,vs,e,by rw [hM j _ (fun z=>hji z.symm) h2 rfl a (by rw [h1,e])];exact e',e0,r.mono hN fun _ x=>x⟩
   | pen ad ns=>
    obtain ⟨a,e,e1,e'⟩:=q
    exact ⟨a,e,e1,by rw [hM j _ (fun z=>hji z.symm) h2 rfl a (by rw [h1,e])];exact e'⟩
   | odi ks ds=>
    obtain ⟨a,vs,e,e',e0,ek,r⟩:=q
    exact ⟨a,vs,e,by rw [hM j _ (fun z=>hji z.symm) h2 rfl a (by rw [h1,e])];exact e',e0,⟨ek.1,ek.2.mono hN fun _ x=>x⟩,r.mono hN fun _ x=>x⟩
   | obj k=>
    obtain ⟨a,e,e0,r⟩:=q
    exact ⟨a,e,e0,k.mono hN (hM j _ (fun z=>hji z.symm) h2 rfl a (by rw [h1,e])) r⟩
theorem iX {i:Nat} {o:Option V} {s:Sl} {a:Addr} (h:Mo Z (σ.set i o) (S.set i s) a):Mo Z σ S a\/(s.mut=true/\o=some (V.ref a)):=by
 rcases h with ⟨j,t,h1,h2,h3⟩ | h
 ·by_cases hji:i=j
  ·subst hji
   have l1:=(List.getElem?_eq_some_iff.mp h1).1
   have l2:=(List.getElem?_eq_some_iff.mp h3).1
   rw [List.length_set] at l1 l2
   rw [G0 l1] at h1
   rw [G0 l2] at h3
   cases h1
   exact .inr ⟨h2,GP h3⟩
  ·rw [G3 hji] at h1 h3
   exact .inl (.inl ⟨j,t,h1,h2,h3⟩)
 ·exact .inl (.inr h)
theorem OK.setVal (k:OK K H0 Z σ H S) {i:Nat} (hi:i < S.length) (h:Rep K (NM Z σ S) AnyF H v d):OK K H0 Z (σ.set i (some v)) H (S.set i (.val d))/\Step Z σ S H (σ.set i (some v)) (S.set i (.val d)) H:=by
 have n:∀a,NM Z σ S a->NM Z (σ.set i (some v)) (S.set i (.val d)) a:=fun a x z=>by
  rcases iX z with z | ⟨z,_⟩
  ·exact x z
  ·cases z
 exact ⟨k.put hi (fun a x _=>⟨n a x,rfl⟩) (fun _ _ _ _ _ _ _=>rfl) ⟨v,rfl,h.mono (fun a x _=>⟨n a x,rfl⟩) fun _ x=>x⟩ (fun _ _ _ _ _ _ z=>nomatch z) (fun _ e=>e) k.zl (fun _ z=>nomatch z),fun a x _=>⟨rfl,n a x⟩,fun _ e=>e,fun _ _ _=>rfl⟩
theorem OK.setNew (k:OK K H0 Z σ H S) {i:Nat} {a:Addr} {s:Sl} (hi:i < S.length) (ha:H a=none) (hg:∀b,H b≠none->H' b=H b) (hs:qj K H0 (fun b=>NM Z σ S b/\b≠a) H' (some (.ref a)) s) (hm:s.mut=true) :
  OK K H0 Z (σ.set i (some (.ref a))) H' (S.set i s)/\Step Z σ S H (σ.set i (some (.ref a))) (S.set i s) H':=by
 have n:∀b,NM Z σ S b/\b≠a->NM Z (σ.set i (some (.ref a))) (S.set i s) b:=fun b x z=>by
  rcases iX z with z | ⟨_,z⟩
  ·exact x.1 z
  ·cases z;exact x.2 rfl
 have n':∀b,NM Z σ S b->H b≠none->NM Z (σ.set i (some (.ref a))) (S.set i s) b:=fun b x e=>n b ⟨x,fun z=>e (by rw [z];exact ha)⟩
 refine ⟨k.put hi (fun b x e=>⟨n' b x e,hg b e⟩) (fun j s' hj h1 h2 b h3=>?_) ?_ (fun j b t hj h1 h2 h3 h4 h5=>?_) (fun b e=>G4 fun z=>by rw [hg b z] at e;exact z e) (fun b z=>?_) (fun b h1 h2 z=>?_),fun b x e=>⟨hg b e,n' b x e⟩,fun b e=>G4 fun z=>by rw [hg b z] at e;exact z e,fun b z e=>hg b e⟩
 ·have e:=k.mo (.inl ⟨j,s',h1,h2,h3⟩)
  exact hg b e.ne
 ·cases s with
  | no=>trivial
  | val d=>cases hm
  | fre d=>cases hm
  | own ds=>obtain ⟨b,vs,e,e',e0,r⟩:=hs;exact ⟨b,vs,e,e',e0,r.mono (fun c x _=>⟨n c x,rfl⟩) fun _ x=>x⟩
  | pen ad ns=>exact hs
  | obj k=>obtain ⟨b,e,e0,r⟩:=hs;exact ⟨b,e,e0,k.mono (fun c x _=>⟨n c x,rfl⟩) rfl r⟩
  | odi ks ds=>obtain ⟨b,vs,e,e',e0,ek,r⟩:=hs;exact ⟨b,vs,e,e',e0,⟨ek.1,ek.2.mono (fun c x _=>⟨n c x,rfl⟩) fun _ x=>x⟩,r.mono (fun c x _=>⟨n c x,rfl⟩) fun _ x=>x⟩
 ·cases h4
  have e:=k.mo (.inl ⟨j,t,h1,h2,h5⟩)
  rw [ha] at e;exact e
 ·have e:=k.zl b z
  rw [hg b e.ne];exact e
 ·cases h2
  have e:=k.zl _ z
  rw [ha] at e;exact e
theorem rV {α:Type} {l:List α} {i:Nat} {o:α} (h:l[i]?=some o):l.set i o=l:=by
 obtain ⟨h1,rfl⟩:=List.getElem?_eq_some_iff.mp h
 exact List.set_getElem_self h1
theorem OK.chgD (k:OK K H0 Z σ H S) {i:Nat} {a:Addr} {s₀ s:Sl} {o:HO} (h1:S[i]?=some s₀) (h2:s₀.mut=true) (h3:σ[i]?=some (some (.ref a))) (hm:s.mut=true) (hs:qj K H0 (NM Z σ S) (upd H a o) (some (.ref a)) s) :
  OK K H0 Z σ (upd H a o) (S.set i s)/\Step Z σ S H σ (S.set i s) (upd H a o):=by
 have hi:i < S.length:=(List.getElem?_eq_some_iff.mp h1).1
 have ma:Mo Z σ S a:=.inl ⟨i,s₀,h1,h2,h3⟩
 have ea:=k.mo ma
 have hza:¬Z a:=k.nz i s₀ a h1 h2 h3
 have e3:=rV h3
 have n:∀b,NM Z σ S b->NM Z σ (S.set i s) b:=fun b x z=>by
  rw [<- e3] at z
  rcases iX z with z | ⟨_,z⟩
  ·exact x z
  ·cases z;exact x ma
 have ne:∀b,NM Z σ S b->b≠a:=fun b x z=>x (by rw [z];exact ma)
 have q:=k.put (H':=upd H a o) (i:=i) (o:=some (.ref a)) (s:=s) hi (fun b x e=>⟨by rw [e3];exact n b x,aB (ne b x)⟩) (fun j s' hj g1 g2 b g3=>aB fun z=>hj (by subst z;exact k.inj j i b s' s₀ g1 h1 g2 h2 g3 h3)) (by
  rw [e3]
  cases s with
  | no=>trivial
  | val d=>cases hm
  | fre d=>cases hm
  | own ds=>obtain ⟨b,vs,e,e',e0,r⟩:=hs;exact ⟨b,vs,e,e',e0,r.mono (fun c x _=>⟨n c x,rfl⟩) fun _ x=>x⟩
  | pen ad ns=>exact hs
  | obj k=>obtain ⟨b,e,e0,r⟩:=hs;exact ⟨b,e,e0,k.mono (fun c x _=>⟨n c x,rfl⟩) rfl r⟩
  | odi ks ds=>obtain ⟨b,vs,e,e',e0,ek,r⟩:=hs;exact ⟨b,vs,e,e',e0,⟨ek.1,ek.2.mono (fun c x _=>⟨n c x,rfl⟩) fun _ x=>x⟩,r.mono (fun c x _=>⟨n c x,rfl⟩) fun _ x=>x⟩) (fun j b t hj g1 g2 g3 g4 g5=>by
   cases g4
   exact hj (k.inj j i a t s₀ g1 h1 g2 h2 g5 h3)) (fun b e=>by
   by_cases hb:b=a
   ·subst hb;rw [ay] at e;cases e
   ·rw [aB hb] at e;exact e) (fun b z=>by
   by_cases hb:b=a
   ·subst hb;exact (hza z).elim
   ·have e:=k.zl b z
    rw [aB hb];exact e) (fun b _ e=>by cases e;exact hza)
 rw [e3] at q
 refine ⟨q,fun b x e=>⟨aB (ne b x),n b x⟩,fun b e=>?_,fun b z e=>aB fun y=>hza (by rw [<- y];exact z)⟩
 by_cases hb:b=a
 ·subst hb;rw [ay] at e;cases e
 ·rw [aB hb] at e;exact e
theorem OK.chg (k:OK K H0 Z σ H S) {i:Nat} {a:Addr} {s₀ s:Sl} {o:HO} (h1:S[i]?=some s₀) (h2:s₀.mut=true) (h3:σ[i]?=some (some (.ref a))) (ho:∃us,o=.lst us) (hm:s.mut=true) (hs:qj K H0 (NM Z σ S) (upd H a o) (some (.ref a)) s) :
  OK K H0 Z σ (upd H a o) (S.set i s)/\Step Z σ S H σ (S.set i s) (upd H a o):=k.chgD h1 h2 h3 hm hs
end
structure aT where
 nx:List Sl->Prop
 rt:D->List Sl->Prop
 bk:List Sl->Prop:=fun _=>False
 ct:List Sl->Prop:=fun _=>False
noncomputable abbrev VTS:=aT->List Sl->Prop
noncomputable def NP (σ:St) (S:List Sl):AP:=fun a=>∀(i:Nat) (ad:Option Addr) (ns:List Int),S[i]?=some (.pen ad ns)->σ[i]?≠some (some (V.ref a))
structure Lf (K:Gn) (H0:Hp) (Z:AP) (σ:St) (S:List Sl) (H:Hp) (V:aT) (E:Ends):Prop where
 nx:∀ σ' H' S',OK K H0 Z σ' H' S'->Step Z σ S H σ' S' H'->V.nx S'->E.nx σ' H'
 bk:∀ σ' H' S',OK K H0 Z σ' H' S'->Step Z σ S H σ' S' H'->V.bk S'->E.bk σ' H'
 ct:∀ σ' H' S',OK K H0 Z σ' H' S'->Step Z σ S H σ' S' H'->V.ct S'->E.ct σ' H'
 rt:∀v d σ' H' S',OK K H0 Z σ' H' S'->Step Z σ S H σ' S' H'->Rep K (NP σ' S') (Fr H0) H' v d->V.rt d S'->E.rt v H'
theorem Lf.step {H0 H H1:Hp} {σ σ1:St} {S S1:List Sl} {V:aT} {E:Ends} (l:Lf K H0 Z σ S H V E) (st:Step Z σ S H σ1 S1 H1):Lf K H0 Z σ1 S1 H1 V E:=
 ⟨fun _ _ _ k s=>l.nx _ _ _ k (st.trans s),fun _ _ _ k s=>l.bk _ _ _ k (st.trans s),fun _ _ _ k s=>l.ct _ _ _ k (st.trans s),fun _ _ _ _ _ k s=>l.rt _ _ _ _ _ k (st.trans s)⟩
noncomputable def AK (K:Gn) (ts:TS) (t:VTS):Prop:=∀H0 Z σ H S V E,OK K H0 Z σ H S->t V S->Lf K H0 Z σ S H V E->ts E σ H
structure VS (K:Gn) (X:Cx) (st:Stmt) (ts:TS) (t:VTS):Prop where
 ps:PS X st ts
 snd:AK K ts t
structure VSs (K:Gn) (X:Cx) (st:List Stmt) (ts:TS) (t:VTS):Prop where
 ps:PSs X st ts
 snd:AK K ts t
inductive Wk:List Sl->List Sl->Prop where
 | nil:Wk [] []
 | keep {s:Sl} {S S':List Sl}:Wk S S'->Wk (s::S) (s::S')
 | fz {ds:List D} {S S':List Sl}:Wk S S'->Wk (.own ds::S) (.val (.lst ds)::S')
 | fd {ks:List (List Int)} {ds:List D} {S S':List Sl}:Wk S S'->Wk (.odi ks ds::S) (.val (.dic ks ds)::S')
 | drop {s:Sl} {S S':List Sl}:Wk S S'->Wk (s::S) (.no::S')
theorem Wk.refl:∀S,Wk S S
 | []=>.nil
 | _::r=>.keep (Wk.refl r)
theorem Wk.len {S S':List Sl} (h:Wk S S'):S.length=S'.length:=by induction h <;> simp_all
theorem Wk.at_ {S S':List Sl} (h:Wk S S'):∀{i:Nat} {s:Sl},S'[i]?=some s->∃s₀,S[i]?=some s₀/\(s=s₀\/s=.no\/(∃ds,s₀=.own ds/\s=.val (.lst ds))\/∃ks ds,s₀=.odi ks ds/\s=.val (.dic ks ds)):=by
 induction h with
 | nil=>intro i s h;simp at h
 | keep h ih=>
  intro i s e
  cases i with
  | zero=>simp at e;subst e;exact ⟨_,rfl,.inl rfl⟩
  | succ i=>simpa using ih (i:=i) (by simpa using e)
 | fz h ih=>
  intro i s e
  cases i with
  | zero=>simp at e;subst e;exact ⟨_,rfl,.inr (.inr (.inl ⟨_,rfl,rfl⟩))⟩
  | succ i=>simpa using ih (i:=i) (by simpa using e)
 | fd h ih=>
  intro i s e
  cases i with
  | zero=>simp at e;subst e;exact ⟨_,rfl,.inr (.inr (.inr ⟨_,_,rfl,rfl⟩))⟩
  | succ i=>simpa using ih (i:=i) (by simpa using e)
 | drop h ih=>
  intro i s e
  cases i with
  | zero=>simp at e;subst e;exact ⟨_,rfl,.inr (.inl rfl)⟩
  | succ i=>simpa using ih (i:=i) (by simpa using e)
theorem Wk.mut {S S':List Sl} (h:Wk S S') {i:Nat} {s:Sl} (e:S'[i]?=some s) (m:s.mut=true):S[i]?=some s:=by
 obtain ⟨s₀,h1,rfl | rfl | ⟨ds,rfl,rfl⟩ | ⟨ks,ds,rfl,rfl⟩⟩:=h.at_ e
 ·exact h1
 ·cases m
 ·cases m
 ·cases m
theorem OK.wk {H H0:Hp} {S S':List Sl} (k:OK K H0 Z σ H S) (w:Wk S S'):OK K H0 Z σ H S'/\Step Z σ S H σ S' H:=by
 have n:∀a,NM Z σ S a->NM Z σ S' a:=fun a x z=>by
  rcases z with ⟨i,s,h1,h2,h3⟩ | z
  ·exact x (.inl ⟨i,s,w.mut h1 h2,h2,h3⟩)
  ·exact x (.inr z)
 refine ⟨⟨by rw [k.len,w.len],fun i o s h1 h2=>?_,fun i j a s t h1 h2 m1 m2 h3 h4=>k.inj i j a s t (w.mut h1 m1) (w.mut h2 m2) m1 m2 h3 h4,k.dom,k.zl,fun i s a h1 m h3=>k.nz i s a (w.mut h1 m) m h3⟩,fun a x _=>⟨rfl,n a x⟩,fun _ e=>e,fun _ _ _=>rfl⟩
 obtain ⟨s₀,e,rfl | rfl | ⟨ds,rfl,rfl⟩ | ⟨ks,ds,rfl,rfl⟩⟩:=w.at_ h2
 ·have q:=k.at_ i o s h1 e
  cases s with
  | no=>trivial
  | val d=>obtain ⟨v,e,r⟩:=q;exact ⟨v,e,r.mono (fun a x _=>⟨n a x,rfl⟩) fun _ x=>x⟩
  | fre d=>obtain ⟨v,e,r⟩:=q;exact ⟨v,e,r.mono (fun a x _=>⟨n a x,rfl⟩) fun _ x=>x⟩
  | own ds=>obtain ⟨a,vs,e,e',e0,r⟩:=q;exact ⟨a,vs,e,e',e0,r.mono (fun a x _=>⟨n a x,rfl⟩) fun _ x=>x⟩
  | pen ad ns=>exact q
  | odi ks ds=>obtain ⟨a,vs,e,e',e0,ek,r⟩:=q;exact ⟨a,vs,e,e',e0,⟨ek.1,ek.2.mono (fun a x _=>⟨n a x,rfl⟩) fun _ x=>x⟩,r.mono (fun a x _=>⟨n a x,rfl⟩) fun _ x=>x⟩
  | obj k=>obtain ⟨a,e,e0,r⟩:=q;exact ⟨a,e,e0,k.mono (fun a x _=>⟨n a x,rfl⟩) rfl r⟩
 ·trivial
 ·obtain ⟨a,vs,e1,e2,e3,r⟩:=k.at_ i o _ h1 e
  subst e1
  refine ⟨.ref a,rfl,.lst ?_ trivial e2 (r.mono (fun a x _=>⟨n a x,rfl⟩) fun _ _=>trivial)⟩
  intro z
  rcases z with ⟨j,s,g1,g2,g3⟩ | z
  ·have:=k.inj i j a _ s e (w.mut g1 g2) rfl g2 h1 g3
   subst this
   rw [h2] at g1;cases g1;cases g2
  ·exact k.nz i _ a e rfl h1 z
 ·obtain ⟨a,vs,e1,⟨ob,e2⟩,e3,ek,r⟩:=k.at_ i o _ h1 e
  subst e1
  refine ⟨.ref a,rfl,.dic ?_ trivial e2 ek.1 (ek.2.mono (fun a x _=>⟨n a x,rfl⟩) fun _ _=>trivial) (r.mono (fun a x _=>⟨n a x,rfl⟩) fun _ _=>trivial)⟩
  intro z
  rcases z with ⟨j,s,g1,g2,g3⟩ | z
  ·have:=k.inj i j a _ s e (w.mut g1 g2) rfl g2 h1 g3
   subst this
   rw [h2] at g1;cases g1;cases g2
  ·exact k.nz i _ a e rfl h1 z
section
variable {K:Gn} {X:Cx} {m:Bool} {e a b c:Expr} {ta tb tc te:TE} {va vb vc:VT} {pos:Pos} {st:Stmt} {rest:List Stmt} {t u:TS} {v w:VTS}
noncomputable def yS:VTS:=fun V S=>V.nx S
noncomputable def rW (t u:VTS):VTS:=fun V S=>t { V with nx:=fun S'=>∃S'',Wk S' S''/\u V S'' } S
theorem aK:VSs K X [] qY yS:=⟨jX,fun H0 Z σ H S V E k h l=>l.nx σ H S k .refl h⟩
theorem ak (h:VS K X st t v):VSs K X [st] t v:=⟨nV h.ps,h.snd⟩
theorem ai (h1:VS K X st t v) (h2:VSs K X rest u w):VSs K X (st::rest) (qZ t u) (rW v w):=⟨fR h1.ps h2.ps,fun H0 Z σ H S V E k h l=>
 h1.snd H0 Z σ H S _ _ k h ⟨fun σ' H' S' k' st zt1=>by obtain ⟨S'',wk,q⟩:=zt1;exact h2.snd H0 Z σ' H' S'' V E (k'.wk wk).1 q (l.step (st.trans (k'.wk wk).2)),l.bk,l.ct,l.rt⟩⟩
noncomputable def rX:VTS:=fun _ _=>False
theorem rY:VS K X st fC rX:=⟨rf,fun _ _ _ _ _ _ _ _ h _=>h.elim⟩
theorem qm {sts:List Stmt}:VSs K X sts fC rX:=⟨e7,fun _ _ _ _ _ _ _ _ h _=>h.elim⟩
noncomputable def yT (va:VT):VTS:=fun V S=>va S fun _ S1=>V.nx S1
theorem fc (h:VE K X false e te va) (hs:IN e none pos.line X.env=pure false:=by rfl):VS K X (.Expr e pos) (nW te) (yT va):=⟨jY h.pe hs,fun H0 Z σ H S V E k t l=>h.snd H0 Z σ H S _ _ k t fun v H' r S' k' st _ q=>l.nx σ H' S' k' st q⟩
noncomputable def retO:Option Sl->Option D
 | some (.own ds)=>some (.lst ds)
 | some (.odi ks ds)=>some (.dic ks ds)
 | _=>none
noncomputable def retD (S:List Sl):VR->Option D
 | .d x=>some x
 | .own i=>retO S[i]?
noncomputable def Dy (va:VT):VTS:=fun V S=>va S fun r S1=>∃d,retD S1 r=some d/\V.rt d S1
theorem OK.ret {H0 H:Hp} {v:V} (k:OK K H0 Z σ H S) (h:dX K (FM H0 true) Z σ S H v r) (e:retD S r=some d):Rep K (NP σ S) (Fr H0) H v d:=by
 have np:∀a,NM Z σ S a->NP σ S a:=fun a n i ad ns h1 h2=>n (.inl ⟨i,_,h1,rfl,h2⟩)
 cases r with
 | d x=>cases e;exact Rep.mono (fun a n _=>⟨np a n,rfl⟩) (fun _ x=>x rfl) h
 | own i=>
  have h:σ[i]?=some (some v):=h
  have e:retO S[i]?=some d:=e
  cases es:S[i]? with
  | none=>rw [es] at e;cases e
  | some s=>
   rw [es] at e
   cases s with
   | fre d=>cases e
   | own ds=>
    cases e
    obtain ⟨a,vs,h1,h2,h3,h4⟩:=k.at_ _ _ _ h es
    cases h1
    refine .lst (fun i2 ad ns g1 g2=>?_) ⟨a,rfl,h3⟩ h2 (h4.mono (fun a n _=>⟨np a n,rfl⟩) fun _ x=>x)
    have:=k.inj _ _ a _ _ es g1 rfl rfl h g2
    subst this
    rw [es] at g1;cases g1
   | odi ks ds=>
    cases e
    obtain ⟨a,vs,h1,⟨ob,h2⟩,h3,hk,h4⟩:=k.at_ _ _ _ h es
    cases h1
    refine .dic (fun i2 ad ns g1 g2=>?_) ⟨a,rfl,h3⟩ h2 hk.1 (Reps.flat (hk.2.mono (fun a n _=>⟨np a n,rfl⟩) fun _ x=>x) (lH _)) (h4.mono (fun a n _=>⟨np a n,rfl⟩) fun _ x=>x)
    have:=k.inj _ _ a _ _ es g1 rfl rfl h g2
    subst this
    rw [es] at g1;cases g1
   | no=>cases e
   | val x=>cases e
   | pen a b=>cases e
   | obj k=>cases e
theorem aD (h:VE K X true e te va):VS K X (.Return (some e) pos) (C6 te) (Dy va):=⟨Ae h.pe,fun H0 Z σ H S V E k t l=>h.snd H0 Z σ H S _ _ k t fun v H' r S' k' st rr zt1=>by obtain ⟨d,e,q⟩:=zt1;exact l.rt v d σ H' S' k' st (k'.ret rr e) q⟩
noncomputable def Dz (c:VTT) (t u:VTS):VTS:=fun V S=>c S fun b S1=>if b=true then t V S1 else u V S1
theorem bj {A B:List Stmt} {tA:TT} {wA:VTT} (hc:VTe K X c tA wA) (ha:VSs K X A t v) (hb:VSs K X B u w):VS K X (.If c A B pos) (Af tA t u) (Dz wA v w):=⟨yG hc.pe ha.ps hb.ps,fun H0 Z σ H S V E k t l=>
 hc.snd H0 Z σ H S _ _ k t fun b H1 S1 k1 st1 q=>by
  cases b with
  | true=>rw [if_pos rfl] at q ⊢;exact ha.snd H0 Z σ H1 S1 V E k1 q (l.step st1)
  | false=>rw [if_neg Gw] at q ⊢;exact hb.snd H0 Z σ H1 S1 V E k1 q (l.step st1)⟩
noncomputable abbrev VG:=D->List Sl->(List Sl->Prop)->Prop
noncomputable def SndG (K:Gn) (g:TG) (vg:VG):Prop:=∀H0 Z σ H S v d Q C,OK K H0 Z σ H S->Rep K (NM Z σ S) AnyF H v d->vg d S Q->(∀ σ' H' S',OK K H0 Z σ' H' S'->Step Z σ S H σ' S' H'->Q S'->C σ' H')->g v σ H C
noncomputable def DA (g:TG):Prop:=∀x σ H Q1 Q2,(∀ σ H,Q1 σ H->Q2 σ H)->g x σ H Q1->g x σ H Q2
noncomputable def AL (g:TGs):Prop:=∀x σ H Q1 Q2,(∀ σ H,Q1 σ H->Q2 σ H)->g x σ H Q1->g x σ H Q2
structure VGe (K:Gn) (X:Cx) (e:Expr) (g:TG) (vg:VG):Prop where
 pg:PG X e g
 snd:SndG K g vg
 mono:DA g
noncomputable def vgN (i:Nat):VG:=fun d S Q=>i < S.length/\Q (S.set i (.val d))
theorem au {i:Nat} (h:PG X e (bF i)):VGe K X e (bF i) (vgN i):=⟨h,fun H0 Z σ H S v d Q C k r zt1 hc=>by obtain ⟨hi,q⟩:=zt1;exact hc _ _ _ (k.setVal hi r).1 (k.setVal hi r).2 q,fun _ _ _ _ _ h q=>h _ _ q⟩
noncomputable def DB (K:Gn) (g:TGs) (vg:List D->List Sl->(List Sl->Prop)->Prop):Prop:=∀H0 Z σ H S vs ds Q C,OK K H0 Z σ H S->Reps K (NM Z σ S) AnyF H vs ds->vg ds S Q->(∀ σ' H' S',OK K H0 Z σ' H' S'->Step Z σ S H σ' S' H'->Q S'->C σ' H')->g vs σ H C
structure VGs (K:Gn) (X:Cx) (es:List Expr) (g:TGs) (vg:List D->List Sl->(List Sl->Prop)->Prop):Prop where
 pg:PGs X es g
 snd:DB K g vg
 mono:AL g
noncomputable def yU:List D->List Sl->(List Sl->Prop)->Prop:=fun ds S Q=>ds=[]/\Q S
noncomputable def rZ (t:VG) (u:List D->List Sl->(List Sl->Prop)->Prop):List D->List Sl->(List Sl->Prop)->Prop:=fun ds S Q=>∃d r,ds=d::r/\t d S fun S1=>u r S1 Q
theorem bw:VGs K X [] Ag yU:=⟨vR,fun H0 Z σ H S vs ds Q C k r zq1 hc=>by obtain ⟨e,q⟩:=zq1;subst e;cases r;exact ⟨rfl,hc _ _ _ k .refl q⟩,fun _ _ _ _ _ h q=>⟨q.1,h _ _ q.2⟩⟩
theorem aC {es:List Expr} {g:TG} {gs:TGs} {vg:VG} {vgs:List D->List Sl->(List Sl->Prop)->Prop} (h1:VGe K X e g vg) (h2:VGs K X es gs vgs) (hs:(IW (e::es) X.env).map (·.2)=Kn e X.env::(IW es X.env).map (·.2):=by rfl) :
  VGs K X (e::es) (nX g gs) (rZ vg vgs):=⟨rh h1.pg h2.pg hs,fun H0 Z σ H S vs ds Q C k r zq1 hc=>by
 obtain ⟨d,rd,e,q⟩:=zq1
 subst e
 cases r with
 | cons rv rr=>exact ⟨_,_,rfl,h1.snd H0 Z σ H S _ _ _ _ k rv q fun σ1 H1 S1 k1 st1 q1=>h2.snd H0 Z σ1 H1 S1 _ _ _ _ k1 (rr.step st1) q1 fun σ2 H2 S2 k2 st2 q2=>hc _ _ _ k2 (st1.trans st2) q2⟩,fun x σ H Q1 Q2 h zt1=>by obtain ⟨v,r,e,q⟩:=zt1;exact ⟨v,r,e,h1.mono _ _ _ _ _ (fun σ' H' q'=>h2.mono _ _ _ _ _ h q') q⟩⟩
noncomputable def vgT (n:Nat) (u:List D->List Sl->(List Sl->Prop)->Prop):VG:=fun d S Q=>∃ds,d=.tup ds/\ds.length=n/\u ds S Q
theorem bM {es:List Expr} {kk:Nat} {gs:TGs} {vgs:List D->List Sl->(List Sl->Prop)->Prop} {n:Nat} (hK:X.K=K) (hc:X.calm=true) (h:VGs K X es gs vgs) (hn:(IW es X.env).length=n:=by rfl) (hst:(IW es X.env).findIdx? (·.1)=none:=by rfl) :
  VGe K X (.Tuple es kk pos) (Ah K n gs) (vgT n vgs):=⟨by subst hK;exact Ai hc h.pg hn hst,fun H0 Z σ H S v d Q C k r zq1 hcc=>by
 obtain ⟨ds,e,hl,q⟩:=zq1
 subst e
 obtain ⟨a,vs,rfl,hq,rr⟩:=r.sqT
 exact ⟨a,vs,rfl,hq,by rw [rr.length];exact hl,h.snd H0 Z σ H S _ _ _ _ k rr q hcc⟩,fun x σ H Q1 Q2 hh zt1=>by obtain ⟨a,xs,e1,e2,e3,q⟩:=zt1;exact ⟨a,xs,e1,e2,e3,h.mono _ _ _ _ _ hh q⟩⟩
noncomputable def qp (va:VT) (g:VG):VTS:=fun V S=>va S fun r S1=>∃d,r=.d d/\g d S1 V.nx
theorem mX {g:TG} {vg:VG} (ha:SndE K m te va) (hg:SndG K g vg):AK K (cW te g) (qp va vg):=fun H0 Z σ H S V E k t l=>ha H0 Z σ H S _ _ k t fun v H1 r S1 k1 st1 rr zq1=>by
 obtain ⟨d,e,q⟩:=zq1
 subst e
 exact hg H0 Z σ H1 S1 v d _ _ k1 (Rep.mono (fun _ n _=>⟨n,rfl⟩) (fun _ _=>trivial) rr) q fun σ2 H2 S2 k2 st2 q2=>l.nx σ2 H2 S2 k2 (st1.trans st2) q2
theorem AM {i:Nat} {x:Str} {pos':Pos} (ps:∀te,PE X e te->PS X (.Assign [.Name x pos'] e pos) (cW te (bF i))) (h:VE K X false e te va):VS K X (.Assign [.Name x pos'] e pos) (cW te (bF i)) (qp va (vgN i)):=
 ⟨ps te h.pe,mX h.snd fun H0 Z σ H S v d Q C k r zt1 hc=>by obtain ⟨hi,q⟩:=zt1;exact hc _ _ _ (k.setVal hi r).1 (k.setVal hi r).2 q⟩
theorem eI {tg:Expr} {g:TG} {vg:VG} (h:VE K X false e te va) (hg:VGe K X tg g vg) (hs:Mw [tg] e pos.line X.env=pure false:=by rfl) (hw:Mx [tg] e X.env=pure none:=by rfl)
  (h1:(IW [tg] X.env).map (·.2)=[Kn tg X.env]:=by rfl):VS K X (.Assign [tg] e pos) (cW te g) (qp va vg):=⟨rj h.pe hg.pg hs hw h1,mX h.snd hg.snd⟩
noncomputable def sd (i:Nat) (t:VTN):VTS:=fun V S=>t S fun ds S1=>i < S1.length/\V.nx (S1.set i (.own ds))
theorem fe {i:Nat} {x:Str} {pos':Pos} {tn:VTN} (ps:∀te,PE X e te->PS X (.Assign [.Name x pos'] e pos) (cW te (bF i))) (h:VN K X e te tn):VS K X (.Assign [.Name x pos'] e pos) (cW te (bF i)) (sd i tn):=
 ⟨ps te h.pe,fun H0 Z σ H S V E k t l=>h.snd H0 Z σ H S _ _ k t fun a vs ds H1 H' S' k1 st1 ha hg hl rr zq1=>by
  obtain ⟨hi,q⟩:=zq1
  obtain ⟨k2,st2⟩:=k1.setNew (s:=.own ds) hi ha hg ⟨a,vs,rfl,hl,k1.dom a ha,rr⟩ rfl
  exact l.nx _ _ _ k2 (st1.trans st2) q⟩
noncomputable def yV (i:Nat) (t:VTN):VTS:=fun V S=>t S fun ds S1=>∃ns:List Int,ds=ns.map .int/\i < S1.length/\V.nx (S1.set i (.pen none ns))
theorem wM {i:Nat} {x:Str} {pos':Pos} {tn:VTN} (ps:∀te,PE X e te->PS X (.Assign [.Name x pos'] e pos) (cW te (bF i))) (h:VN K X e te tn):VS K X (.Assign [.Name x pos'] e pos) (cW te (bF i)) (yV i tn):=
 ⟨ps te h.pe,fun H0 Z σ H S V E k t l=>h.snd H0 Z σ H S _ _ k t fun a vs ds H1 H' S' k1 st1 ha hg hl rr zq1=>by
  obtain ⟨ns,e,hi,q⟩:=zq1
  subst e
  obtain ⟨k2,st2⟩:=k1.setNew (s:=.pen none ns) hi ha hg ⟨a,rfl,(fun _ z=>nomatch z),by rw [<- Reps.toInts rr];exact hl⟩ rfl
  exact l.nx _ _ _ k2 (st1.trans st2) q⟩
end
end VL
end
section
namespace VL
open PySem L2
section
variable {K:Gn} {X:Cx} {m:Bool} {e a b c:Expr} {ta tb tc te ti:TE} {va vb vc vi:VT} {pos:Pos} {st:Stmt} {rest:List Stmt} {t u:TS} {v w:VTS}
theorem OK.ownAt {H0 H:Hp} (k:OK K H0 Z σ H S) {i:Nat} {s:Sl} (e:S[i]?=some s):∃o,σ[i]?=some o/\qj K H0 (NM Z σ S) H o s:=by
 have hi:i < σ.length:=by rw [k.len];exact (List.getElem?_eq_some_iff.mp e).1
 exact ⟨_,Gr hi,k.at_ i _ s (Gr hi) e⟩
noncomputable def AN (i:Nat) (ve:VT):VT:=fun S Q=>(∃ds,S[i]?=some (.own ds))/\ve S fun r S1=>∃d ds,r=.d d/\S1[i]?=some (.own ds)/\ds.length<=1000000/\Q (.d .non) (S1.set i (.own (ds++[d])))
theorem AO {apos:Pos} {o:Expr} (i:Nat) (hK:X.K=K) (ho:PE X o (bZ i)) (h:VE K X true e te va) (pe:∀te,PE X e te->PE X (.Call (.Attribute o "append" apos) [e] [] pos) (tBM X.K "list" hZ (bZ i) (ez te jZ))) :
  VE K X m (.Call (.Attribute o "append" apos) [e] [] pos) (tBM K "list" hZ (bZ i) (ez te jZ)) (AN i va):=⟨by subst hK;exact pe te h.pe,fun H0 Z σ H S Q C k zq1 hc=>by
 obtain ⟨⟨ds0,e0⟩,t⟩:=zq1
 obtain ⟨o,h1,a,vs,rfl,h2,h3,h4⟩:=k.ownAt e0
 refine ⟨.ref a,h1,.inl ⟨rfl,vs,.inl (.inl h2)⟩,?_⟩
 refine h.snd H0 Z σ H S _ _ k t fun x H1 r S1 k1 st1 rr zr1=>?_
 obtain ⟨d,ds,er,e1,hl,q⟩:=zr1
 subst er
 obtain ⟨o',g1,a',vs',rfl,g2,g3,g4⟩:=k1.ownAt e1
 rw [h1] at g1;cases g1
 refine ⟨a,vs',x,rfl,rfl,g2,by rw [g4.length,Hv];lia,?_⟩
 have na:NM Z σ S1 a->False:=fun n=>n (.inl ⟨i,_,e1,rfl,h1⟩)
 have hm:∀b,NM Z σ S1 b->H1 b≠none->NM Z σ S1 b/\upd H1 a (.lst (vs'++[x])) b=H1 b:=fun b n _=>⟨n,aB fun z=>na (by rw [<- z];exact n)⟩
 obtain ⟨k2,st2⟩:=k1.chg (s:=.own (ds++[d])) (o:=.lst (vs'++[x])) e1 rfl h1 ⟨_,rfl⟩ rfl ⟨a,_,rfl,ay,g3,Reps.append (g4.mono hm fun _ x=>x) (.cons (Rep.mono hm (fun _ x=>x rfl) rr) .nil)⟩
 exact hc .non _ (.d .non) _ k2 (st1.trans st2) Rep.non q⟩
theorem si {apos:Pos} {o:Expr} (i:Nat) (hK:X.K=K) (ho:PE X o (bZ i)) (h:VE K X true e te va) (hbase:Kr o "append" X.env (eval o X.env)=eval o X.env:=by rfl)
  (hfew:((JF pos (GM (e::[]) X.env)).all (fun x=>!x.1)&&(backToKw pos (Nw [] X.env)).all (fun x=>x.1.isSome)
   && decide ((e::[]).length+([]:List Ny).length+(if ([]:List Ny).isEmpty then 0 else 1) < 30))=true:=by rfl)
  (hline:(apos.endLine==pos.line)=true:=by rfl) (hs:GM (e::[]) X.env=(false,eval e X.env)::GM [] X.env:=by rfl) (hplain:(JF pos (GM [] X.env)).any (·.1)=false:=by rfl) :
  VE K X m (.Call (.Attribute o "append" apos) [e] [] pos) (tBM K "list" hZ (bZ i) (ez te jZ)) (AN i va):=
 AO i hK ho h fun te hp=>yO Ls PySem.F.slot_list_append PySem.F.type_list_append qb ho (cZ hp gA hs) hbase hfew hline hs hplain
noncomputable def sj (i:Nat) (ve vi:VT):VTS:=fun V S=>ve S fun r S1=>(∃s,S1[i]?=some s/\s.mut=true)/\vi S1 fun ri S2=>∃j,get S2 ri=some (.int j) /\
  ((∃ad ns k n,S2[i]?=some (.pen ad ns)/\ixN ns.length j=some k/\r=.d (.int n)/\V.nx (S2.set i (.pen ad (ns.set k n)))) \/
   (∃ds k d,S2[i]?=some (.own ds)/\ixN ds.length j=some k/\r=.d d/\V.nx (S2.set i (.own (ds.set k d)))))
theorem lL {o ie:Expr} {posS:Pos} (i:Nat) (ho:PE X o (bZ i)) (h:VE K X true e te va) (hi:VE K X false ie ti vi)
  (ha:∀v,Kn (.Subscript o ie posS) X.env v=(do
   let ov <- Jj [v] (eval o X.env)
   let iv <- Jj [v,ov] (eval ie X.env)
   JA posS
   Jj [v,ov,iv] (MO ov iv v)
   NQ [v,ov,iv] []):=by intro _;rfl)
  (hs:Mw [.Subscript o ie posS] e pos.line X.env=pure false:=by rfl) (hw:Mx [.Subscript o ie posS] e X.env=pure none:=by rfl)
  (h1:(IW [.Subscript o ie posS] X.env).map (·.2)=[Kn (.Subscript o ie posS) X.env]:=by rfl) :
  VS K X (.Assign [.Subscript o ie posS] e pos) (cW te (Aj (bZ i) ti ot)) (sj i va vi):=⟨rj h.pe (Ak ho hi.pe set_list ha) hs hw h1,fun H0 Z σ H S V E k t l=>by
 refine h.snd H0 Z σ H S _ _ k t fun x H1 r S1 k1 st1 rr zr1=>?_
 obtain ⟨⟨s1,em,hm1⟩,q⟩:=zr1
 -- the slot's address stays: σ is one
 have fin:∀(p:Addr),σ[i]?=some (some (.ref p))->Aj (bZ i) ti ot x σ H1 E.nx:=fun p hp=>by
  refine ⟨.ref p,hp,hi.snd H0 Z σ H1 S1 _ _ k1 q fun y H2 ri S2 k2 st2 r2 zr1=>?_⟩
  obtain ⟨j,ej,q2⟩:=zr1
  cases r2.get k2 ej
  have rr2:=rr.step st2
  rcases q2 with ⟨ad,ns,kk,n,e1,e2,er,q2⟩ | ⟨ds,kk,d,e1,e2,er,q2⟩
  ·subst er
   cases (show Rep K _ _ H2 x (.int n) from rr2)
   obtain ⟨o',g1,a',rfl,g2,g3⟩:=k2.ownAt e1
   rw [hp] at g1;cases g1
   refine ⟨p,_,j,kk,rfl,rfl,g3,by rw [Gx];exact e2,?_⟩
   obtain ⟨k3,st3⟩:=k2.chg (s:=.pen ad (ns.set kk n)) (o:=.lst ((ns.map L2.V.int).set kk (.int n))) e1 rfl hp ⟨_,rfl⟩ rfl ⟨p,rfl,g2,by rw [ay,List.map_set]⟩
   exact l.nx _ _ _ k3 ((st1.trans st2).trans st3) q2
  ·subst er
   obtain ⟨o',g1,a',vs,rfl,g2,g3,g4⟩:=k2.ownAt e1
   rw [hp] at g1;cases g1
   refine ⟨p,_,j,kk,rfl,rfl,g2,by rw [g4.length];exact e2,?_⟩
   have na:NM Z σ S2 p->False:=fun n=>n (.inl ⟨i,_,e1,rfl,hp⟩)
   have hm:∀b,NM Z σ S2 b->H2 b≠none->NM Z σ S2 b/\upd H2 p (.lst (vs.set kk x)) b=H2 b:=fun b n _=>⟨n,aB fun z=>na (by rw [<- z];exact n)⟩
   obtain ⟨k3,st3⟩:=k2.chg (s:=.own (ds.set kk d)) (o:=.lst (vs.set kk x)) e1 rfl hp ⟨_,rfl⟩ rfl ⟨p,_,rfl,ay,g3,Reps.set (Rep.mono hm (fun _ x=>x rfl) rr2) kk (g4.mono hm fun _ x=>x)⟩
   exact l.nx _ _ _ k3 ((st1.trans st2).trans st3) q2
 -- which address it is: look once
 obtain ⟨o1,g1,g2⟩:=k1.ownAt em
 cases s1 with
 | no=>cases hm1
 | val d=>cases hm1
 | fre d=>cases hm1
 | own ds=>obtain ⟨p,_,rfl,_⟩:=g2;exact fin p g1
 | pen ad ns=>obtain ⟨p,rfl,_⟩:=g2;exact fin p g1
 | odi ks ds=>obtain ⟨p,_,rfl,_⟩:=g2;exact fin p g1
 | obj k=>obtain ⟨p,rfl,_⟩:=g2;exact fin p g1⟩
noncomputable def pick:List VR->Nat->Option (Nat×List VR)
 | .own i::r,0=>some (i,r)
 | x::r,j+1=>(pick r j).map fun p=>(p.1,x::p.2)
 | _,_=>none
noncomputable def AQ (j:Nat) (p:List Int->List D->(D->List Int->Prop)->Prop) (vr:VTA):VT:=fun S Q=>vr S fun rs S1=>∃i rs' ad ns ds,pick rs j=some (i,rs')/\S1[i]?=some (.pen ad ns)/\allD rs'=some ds/\p ns ds fun d ns'=>Q (.d d) (S1.set i (.pen ad ns'))
theorem cN.pick:∀{j:Nat} {vs:List V} {rs:List VR} {i:Nat} {rs':List VR},cN K F Z σ S H vs rs->VL.pick rs j=some (i,rs')->∃v ws us,vs=ws++v::us/\ws.length=j/\σ[i]?=some (some v)/\cN K F Z σ S H (ws++us) rs'/\ws.length<=(ws++us).length
 | 0,_,_,i,rs',.cons (r:=r) h t,e=>by
  cases r with
  | d x=>cases e
  | own k=>cases e;exact ⟨_,[],_,rfl,rfl,h,t,by simp⟩
 | j+1,_,_,i,rs',.cons (r:=r) (rs:=rs) h t,e=>by
  have e':(VL.pick rs j).map (fun p=>(p.1,r::p.2))=some (i,rs'):=by cases r <;> exact e
  obtain ⟨⟨i',q⟩,h1,h2⟩:=Option.map_eq_some_iff.mp e'
  cases h2
  obtain ⟨v,ws,us,rfl,hl,hs,rr,_⟩:=cN.pick t h1
  exact ⟨v,_::ws,us,rfl,by simp [hl],hs,.cons h rr,by simp⟩
 | _,_,_,_,_,.nil,e=>by cases e
theorem Reps.splitAt {N:AP}:∀{ws us:List V} {ds:List D},Reps K N F H (ws++us) ds->∃d1 d2,ds=d1++d2/\Reps K N F H ws d1/\Reps K N F H us d2
 | [],us,ds,h=>⟨[],ds,rfl,.nil,h⟩
 | w::ws,us,_,.cons h t=>by
  obtain ⟨d1,d2,rfl,h1,h2⟩:=Reps.splitAt (ws:=ws) t
  exact ⟨_::d1,d2,rfl,.cons h h1,h2⟩
section
variable {es:List Expr} {tr:TA} {vr:VTA} {x:Str} {p0:Pos} {j k:Nat} {ps:List Str}
theorem aW {jj:Nat} {p:List Int->List D->(D->List Int->Prop)->Prop} (E:Has X.prog X.w X.K X.mg X.base k x ps (spI K jj p)) (hr:ck j X.A) (ha:VA K X false (e::es) tr vr)
  (hk:k<=j:=by decide) (hg:Gl X x:=by rfl) (hdb:(x==("__debug__":Str))=false:=by decide) (he:GM (e::es) X.env=(false,eval e X.env)::GM es X.env:=by rfl)
  (hpl:(JF pos (GM es X.env)).any (·.1)=false:=by rfl):VE K X m (.Call (.Name x p0) (e::es) [] pos) (gS (spI K jj p) [] E0 tr) (AQ jj p vr):=⟨ox E hr ha.pe hk hg hdb he hpl,fun H0 Z σ H S Q C k t hc=>
 ha.snd H0 Z σ H S _ _ k t fun vs H1 rs S1 k1 st1 rrs zq1=>by
  obtain ⟨i,rs',ad,ns,ds,e1,e2,e3,q⟩:=zq1
  obtain ⟨v,ws,us,rfl,hl,hs,rr,_⟩:=rrs.pick e1
  obtain ⟨o,g1,a,rfl,g2,g3⟩:=k1.ownAt e2
  rw [hs] at g1;cases g1
  have ma:Mo Z σ S1 a:=.inl ⟨i,_,e2,rfl,hs⟩
  obtain ⟨d1,d2,rfl,r1,r2⟩:=Reps.splitAt (rr.allD e3)
  have hm:∀b,NM Z σ S1 b->H1 b≠none->b≠a/\H1 b=H1 b:=fun b n _=>⟨fun z=>n (by rw [z];exact ma),rfl⟩
  refine ⟨a,ws,us,ns,d1,d2,_,by rw [Ia],hl,g3,r1.mono hm fun _ _=>trivial,r2.mono hm fun _ _=>trivial,q,fun d ns' v H' q g ga rv=>?_⟩
  -- the pen changed,and the heap grown
  have hG:∀b,upd H1 a (.lst (ns'.map V.int)) b≠none->H' b=upd H1 a (.lst (ns'.map V.int)) b:=fun b hb=>by
   by_cases hba:b=a
   ·subst hba;rw [ay];exact ga
   ·rw [aB hba] at hb ⊢;exact g b hba hb
  obtain ⟨k2,st2⟩:=k1.chg (s:=.pen ad ns') (o:=.lst (ns'.map V.int)) e2 rfl hs ⟨_,rfl⟩ rfl ⟨a,rfl,g2,ay⟩
  have k3:=k2.grow hG
  refine hc v H' (.d d) _ k3 ((st1.trans st2).trans (.grow hG)) (show Rep K _ _ H' v d from ?_) q
  refine (Rep.avoid (N':=NM Z σ (S1.set i (.pen ad ns'))) (fun b z=>k3.mo (Classical.not_not.mp z)) (fun b zr1=>?_) rv).mono (fun _ n _=>⟨n,rfl⟩) (fun o zt1 _=>by obtain ⟨c,ec,f⟩:=zt1;exact ⟨c,ec,k1.dom c f⟩)
  obtain ⟨c,ec,f⟩:=zr1
  cases ec
  refine k2.nm ?_
  rw [aB]
  ·exact f
  ·intro z;subst z;rw [g3] at f;cases f⟩
end
end
end VL
end
section
namespace VL
open PySem L2
noncomputable def Gd (K:Gn) (Z:AP) (J:It) (ds:List D) (σ:St) (S:List Sl) (H:Hp):Prop:=∀ σ2 S2 H2,(∀p,H2 p=none->NM Z σ2 S2 p)->(∀a,NM Z σ S a->H a≠none->H2 a=H a/\NM Z σ2 S2 a)->∀i,(i < ds.length->J.go i H2)/\(∀x H3,J.yld i H2 x H3->i < ds.length->(∀a,H2 a≠none->H3 a=H2 a)/\∃d,ds[i]?=some d/\Rep K (NM Z σ2 S2) AnyF H3 x d)/\(i=ds.length->J.stop i H2)
noncomputable def SndI (K:Gn) (wi:TI) (vi:VTN):Prop:=∀H0 Z σ H S Q C,OK K H0 Z σ H S->vi S Q->(∀J ds H' S',OK K H0 Z σ H' S'->Step Z σ S H σ S' H'->Gd K Z J ds σ S' H'->Q ds S'->C J H')->wi σ H C
structure VI (K:Gn) (X:Cx) (tg e:Expr) (wi:TI) (vi:VTN):Prop where
 pi:PI X tg e wi
 snd:SndI K wi vi
section
variable {K:Gn} {X:Cx} {m:Bool} {e a b c tg:Expr} {ta tb tc te ti:TE} {va vb vc:VT} {pos:Pos} {st:Stmt} {rest:List Stmt} {t u:TS} {v w:VTS}
noncomputable def DC (va:VT):VTN:=fun S Q=>va S fun r S1=>∃ds,r=.d (.lst ds)/\Q ds S1
theorem bx (hK:X.K=K) (h:VE K X false e te va):VI K X tg e (yI K te) (DC va):=⟨by subst hK;exact vS h.pe,fun H0 Z σ H S Q C k t hc=>h.snd H0 Z σ H S _ _ k t fun v H1 r S1 k1 st1 rr zq1=>by
 obtain ⟨ds,e,q⟩:=zq1
 subst e
 have rr:Rep K _ _ H1 v (.lst ds):=rr
 obtain ⟨a,vs,rfl,hq,_⟩:=rr.sqL
 refine ⟨a,rfl,⟨vs,hq⟩,hc _ ds H1 S1 k1 st1 (fun σ2 S2 H2 _ st2 i=>?_) q⟩
 obtain ⟨a',vs',e,hq2,r2⟩:=(rr.stp st2).sqL
 cases e
 refine ⟨fun hi=>?_,fun x H3 hy hi=>?_,fun hi=>⟨vs',hq2,by rw [r2.length];lia⟩⟩
 ·obtain ⟨v,h1,_⟩:=r2.getD (Gr hi)
  exact ⟨vs',v,hq2,h1⟩
 ·obtain ⟨e,h2⟩:=hy
  obtain ⟨d,h3,h4⟩:=r2.get (h2 vs' hq2)
  exact ⟨fun _ _=>by rw [e],d,h3,h4.mono (fun _ n _=>⟨n,by rw [e]⟩) fun _ _=>trivial⟩⟩
noncomputable def rg (lo:Int) (n:Nat):List D:=(G1 n).map fun (i:Nat)=>D.int (lo+(i:Int))
theorem gI (lo:Int) (n:Nat):(rg lo n).length=n:=by simp [rg]
theorem sm {lo:Int} {n i:Nat} (h:i < n):(rg lo n)[i]?=some (.int (lo+(i:Int))):=by simp [rg,h]
theorem su {lo:Int} {n:Nat}:Gd K Z (Itr lo n) (rg lo n) σ S H:=fun σ2 S2 H2 _ st2 i=>by
 rw [gI]
 refine ⟨fun h=>h,fun x H3 zt1 hi=>by obtain ⟨e,hx⟩:=zt1;exact ⟨fun _ _=>by rw [e],_,sm hi,by rw [hx];exact .int _⟩,fun h=>by rw [h];exact Gz _⟩
section
variable {tr:TA} {vr:VTA} {p:Pos}
noncomputable def DD (vr:VTA):VTN:=fun S Q=>vr S fun rs S1=>∃j:Int,rs=[.d (.int j)]/\-(2 ^ 62)<=j/\j < 2 ^ 62/\Q (rg 0 j.toNat) S1
noncomputable def DE (vr:VTA):VTN:=fun S Q=>vr S fun rs S1=>∃i j:Int,rs=[.d (.int i),.d (.int j)]/\(-(2 ^ 62)<=i/\i < 2 ^ 62/\-(2 ^ 62)<=j/\j < 2 ^ 62)/\Q (rg i (j-i).toNat) S1
theorem aX (hg:Gl X "range") (hm:X.mg "range"=none) (ha:VA K X false [a] tr vr) (hs:GM [a] X.env=[(false,eval a X.env)]:=by rfl):VI K X tg (.Call (.Name "range" p) [a] [] pos) (yJ tr) (DD vr):=⟨p6 hg hm ha.pe hs,fun H0 Z σ H S Q C k t hc=>
 ha.snd H0 Z σ H S _ _ k t fun vs H1 rs S1 k1 st1 rrs zq1=>by
  obtain ⟨j,e,h1,h2,q⟩:=zq1
  subst e
  cases rrs with
  | cons r t=>
   cases t
   cases (show Rep K _ _ H1 _ (.int j) from r)
   exact ⟨j,rfl,h1,h2,hc _ _ H1 S1 k1 st1 su q⟩⟩
theorem qq (hg:Gl X "range") (hm:X.mg "range"=none) (ha:VA K X false [a,b] tr vr) (hs:GM [a,b] X.env=[(false,eval a X.env),(false,eval b X.env)]:=by rfl) (hs2:GM [b] X.env=[(false,eval b X.env)]:=by rfl):VI K X tg (.Call (.Name "range" p) [a,b] [] pos) (yK tr) (DE vr):=⟨p8 hg hm ha.pe hs hs2,fun H0 Z σ H S Q C k t hc=>
 ha.snd H0 Z σ H S _ _ k t fun vs H1 rs S1 k1 st1 rrs zq1=>by
  obtain ⟨i,j,e,h1,q⟩:=zq1
  subst e
  cases rrs with
  | cons r t=>
   cases t with
   | cons r' t=>
    cases t
    cases (show Rep K _ _ H1 _ (.int i) from r)
    cases (show Rep K _ _ H1 _ (.int j) from r')
    exact ⟨i,j,rfl,h1,hc _ _ H1 S1 k1 st1 su q⟩⟩
end
noncomputable def runFor (vg:VG) (vb:VTS) (V:aT):List D->List Sl->Prop
 | []=>V.nx
 | d::r=>fun S=>vg d S fun S3=>vb ⟨runFor vg vb V r,V.rt,V.nx,runFor vg vb V r⟩ S3
noncomputable def DF (vi:VTN) (vg:VG) (vb:VTS):VTS:=fun V S=>vi S fun ds S1=>runFor vg vb V ds S1\/∃Iv:Nat->List Sl->Prop,Iv 0 S1/\(∀i d S2,ds[i]?=some d->Iv i S2->vg d S2 fun S3=>vb { V with nx:=Iv (i+1),ct:=Iv (i+1),bk:=V.nx } S3)/\∀S2,Iv ds.length S2->V.nx S2
theorem bN {body:List Stmt} {wi:TI} {vi:VTN} {g:TG} {vg:VG} (hp:PassesOwn (Ha X.prog X.w) X.A X.env X.xe) (hc:X.calm=true) (hi:VI K X tg e wi vi) (hg:VGe K X tg g vg) (hb:VSs K X body t v) (hs:∀x,G7 e X.env x=pure x:=by intro _;rfl) :
  VS K X (.For tg e body [] pos) (C7 wi g t) (DF vi vg v):=⟨Am hp hc hi.pi hg.pg hb.ps hs,fun H0 Z σ H S V E k t l=>hi.snd H0 Z σ H S _ _ k t fun J ds H1 S1 k1 st1 gd hh=>by
 rcases hh with hr | ⟨Iv,i0,hs,hd⟩
 ·refine ⟨fun i m σ H=>m=ds.length-i/\i<=ds.length/\∃S2,OK K H0 Z σ H S2/\Step Z _ S1 H1 σ S2 H/\runFor vg v V (ds.drop i) S2,⟨ds.length,by simp,IG _,S1,k1,.refl,by simpa using hr⟩,?_⟩
  rintro i m σ2 H2 ⟨rfl,hi,S2,k2,st2,p⟩
  obtain ⟨g1,g2,g3⟩:=gd σ2 S2 H2 (fun _=>k2.nm) st2.1 i
  by_cases hlt:i < ds.length
  ·rw [HM hlt] at p
   refine .inr ⟨g1 hlt,fun σ' H'=>∃S',OK K H0 Z σ' H' S'/\Step Z σ S1 H1 σ' S' H'/\runFor vg v V (ds.drop (i+1)) S',fun σ' H' p'=>⟨ds.length-(i+1),by lia,rfl,hlt,p'⟩,fun x H3 y=>?_⟩
   obtain ⟨hgr,d,hd',rd⟩:=g2 x H3 y hlt
   replace k2:=k2.grow hgr
   replace st2:=st2.trans (.grow hgr)
   rw [Gr hlt] at hd'
   cases hd'
   refine hg.snd H0 Z σ2 H3 S2 x _ _ _ k2 rd p fun σ4 H4 S4 k4 st4 q4=>?_
   refine hb.snd H0 Z σ4 H4 S4 _ _ k4 q4 ⟨fun σ' H' S' k' s' q'=>⟨S',k',(st2.trans st4).trans s',q'⟩,fun σ' H' S' k' s' q'=>l.nx σ' H' S' k' (((st1.trans st2).trans st4).trans s') q',fun σ' H' S' k' s' q'=>⟨S',k',(st2.trans st4).trans s',q'⟩,fun v d σ' H' S' k' s' r' q'=>l.rt v d σ' H' S' k' (((st1.trans st2).trans st4).trans s') r' q'⟩
  ·have e:i=ds.length:=by lia
   rw [e,List.drop_length] at p
   exact .inl ⟨g3 e,l.nx _ _ _ k2 (st1.trans st2) p⟩
 refine ⟨fun i m σ H=>m=ds.length-i/\i<=ds.length/\∃S2,OK K H0 Z σ H S2/\Step Z _ S1 H1 σ S2 H/\Iv i S2,⟨ds.length,by simp,IG _,S1,k1,.refl,i0⟩,?_⟩
 rintro i m σ2 H2 ⟨rfl,hi,S2,k2,st2,p⟩
 obtain ⟨g1,g2,g3⟩:=gd σ2 S2 H2 (fun _=>k2.nm) st2.1 i
 by_cases hlt:i < ds.length
 ·refine .inr ⟨g1 hlt,fun σ' H'=>∃S',OK K H0 Z σ' H' S'/\Step Z σ S1 H1 σ' S' H'/\Iv (i+1) S',fun σ' H' p'=>⟨ds.length-(i+1),by lia,rfl,hlt,p'⟩,fun x H3 y=>?_⟩
  obtain ⟨hgr,d,hd',rd⟩:=g2 x H3 y hlt
  replace k2:=k2.grow hgr
  replace st2:=st2.trans (.grow hgr)
  refine hg.snd H0 Z σ2 H3 S2 x d _ _ k2 rd (hs i d S2 hd' p) fun σ4 H4 S4 k4 st4 q4=>?_
  refine hb.snd H0 Z σ4 H4 S4 _ _ k4 q4 ⟨fun σ' H' S' k' s' q'=>⟨S',k',(st2.trans st4).trans s',q'⟩,fun σ' H' S' k' s' q'=>l.nx σ' H' S' k' (((st1.trans st2).trans st4).trans s') q',fun σ' H' S' k' s' q'=>⟨S',k',(st2.trans st4).trans s',q'⟩,fun v d σ' H' S' k' s' r' q'=>l.rt v d σ' H' S' k' (((st1.trans st2).trans st4).trans s') r' q'⟩
 ·have e:i=ds.length:=by lia
  exact .inl ⟨g3 e,l.nx _ _ _ k2 (st1.trans st2) (hd S2 (by rw [<- e];exact p))⟩⟩
end
noncomputable def bz (n:Nat) (ix:List Nat) (S:List Sl):List Sl:=He n .no++ix.map fun i=>(S[i]?).getD .no
noncomputable def lM (s t:Sl):Sl:=if s.mut then (if t.mut then t else .no) else s
noncomputable def b6 (n:Nat) (ix:List Nat) (T:List Sl):Nat->List Sl->List Sl
 | _,[]=>[]
 | k,s::r=>(match ix.idxOf? k with | some j=>lM s ((T[n+j]?).getD .no) | none=>s)::b6 n ix T (k+1) r
noncomputable def backS (n:Nat) (ix:List Nat) (S T:List Sl):List Sl:=b6 n ix T 0 S
noncomputable def Zin (Z:AP) (ix:List Nat) (σ:St) (S:List Sl):AP:=fun a=>Z a\/∃(i:Nat) (s:Sl),i∉ix/\S[i]?=some s/\s.mut=true/\σ[i]?=some (some (V.ref a))
section
variable {K:Gn} {H H' H0:Hp} {Z:AP} {σ σ':St} {S T:List Sl} {n:Nat} {ix:List Nat}
theorem iY (k:Nat):(b6 n ix T k S).length=S.length:=by
 induction S generalizing k with
 | nil=>rfl
 | cons s r ih=>simp [b6,ih]
theorem wN (k:Nat) {i:Nat} {s:Sl} (h:S[i]?=some s):(b6 n ix T k S)[i]?=some (match ix.idxOf? (k+i) with | some j=>lM s ((T[n+j]?).getD .no) | none=>s):=by
 induction S generalizing k i with
 | nil=>simp at h
 | cons s' r ih=>
  cases i with
  | zero=>simp at h;subst h;rfl
  | succ i=>
   simp at h
   simp only [b6,Im]
   rw [ih (k+1) h,show k+1+i=k+(i+1) by lia]
theorem kn {j:Nat} {s:Sl} (h:(bz n ix S)[j]?=some s) (m:s.mut=true):∃k i,j=n+k/\ix[k]?=some i/\S[i]?=some s:=by
 unfold bz at h
 by_cases hj:j < n
 ·rw [GY (by simpa using hj)] at h
  simp [hj] at h
  subst h;cases m
 ·rw [GN (by simp;lia)] at h
  simp only [Jl,GH] at h
  cases hk:ix[j-n]? with
  | none=>rw [hk] at h;cases h
  | some i=>
   rw [hk] at h
   simp at h
   refine ⟨j-n,i,by lia,hk,?_⟩
   cases hs:S[i]? with
   | none=>rw [hs] at h;simp at h;subst h;cases m
   | some s'=>rw [hs] at h;simp at h;subst h;rfl
theorem wO {j:Nat} {s:Sl} (h:(bz n ix S)[j]?=some s):s=.no\/∃k i,j=n+k/\ix[k]?=some i/\S[i]?=some s:=by
 unfold bz at h
 by_cases hj:j < n
 ·rw [GY (by simpa using hj)] at h
  simp [hj] at h
  exact .inl h.symm
 ·rw [GN (by simp;lia)] at h
  simp only [Jl,GH] at h
  cases hk:ix[j-n]? with
  | none=>rw [hk] at h;cases h
  | some i=>
   rw [hk] at h
   simp at h
   cases hs:S[i]? with
   | none=>rw [hs] at h;simp at h;exact .inl h.symm
   | some s'=>rw [hs] at h;simp at h;subst h;exact .inr ⟨j-n,i,by lia,hk,hs⟩
theorem f6 {k i:Nat} (h:ix[k]?=some i):(capt n ix σ)[n+k]?=some ((σ[i]?).getD none):=by
 unfold capt
 rw [GN (by simp)]
 simp [h]
theorem wQ {k i:Nat} (h:ix[k]?=some i):(bz n ix S)[n+k]?=some ((S[i]?).getD .no):=by
 unfold bz
 rw [GN (by simp)]
 simp [h]
theorem dB {k i:Nat} (h:ix[k]?=some i) (e:(capt n ix σ)[n+k]?=some (some v)):σ[i]?=some (some v):=by
 rw [f6 h] at e
 cases hs:σ[i]? with
 | none=>rw [hs] at e;cases e
 | some o=>rw [hs] at e;simp at e;rw [e]
theorem gJ {a:Addr}:Mo (Zin Z ix σ S) (capt n ix σ) (bz n ix S) a↔Mo Z σ S a:=by
 constructor
 ·rintro (⟨j,s,h1,h2,h3⟩ | h | ⟨i,s,_,h1,h2,h3⟩)
  ·obtain ⟨k,i,rfl,hk,hs⟩:=kn h1 h2
   exact .inl ⟨i,s,hs,h2,dB hk h3⟩
  ·exact .inr h
  ·exact .inl ⟨i,s,h1,h2,h3⟩
 ·rintro (⟨i,s,h1,h2,h3⟩ | h)
  ·by_cases hi:i∈ix
   ·obtain ⟨k,hk⟩:=List.getElem?_of_mem hi
    refine .inl ⟨n+k,s,?_,h2,?_⟩
    ·rw [wQ hk,h1];rfl
    ·rw [f6 hk,h3];rfl
   ·exact .inr (.inr ⟨i,s,hi,h1,h2,h3⟩)
  ·exact .inr (.inl h)
theorem qr {l:List Nat} (h:l.Nodup):∀{i j x:Nat},l[i]?=some x->l[j]?=some x->i=j:=fun {i j x} h1 h2=>by
 obtain ⟨a,e1⟩:=List.getElem?_eq_some_iff.mp h1
 obtain ⟨b,e2⟩:=List.getElem?_eq_some_iff.mp h2
 have hp:=List.pairwise_iff_getElem.mp h
 rcases Nat.lt_trichotomy i j with c | c | c
 ·exact (hp i j a b c (by rw [e1,e2])).elim
 ·exact c
 ·exact (hp j i b a c (by rw [e1,e2])).elim
theorem OK.capt (k:OK K H0 Z σ H S) (hn:ix.Nodup):OK K H0 (Zin Z ix σ S) (L2.capt n ix σ) H (bz n ix S) where
 len:=by simp [L2.capt,bz]
 dom:=k.dom
 zl:=fun a z=>by
  rcases z with z | ⟨i,s,_,h1,h2,h3⟩
  ·exact k.zl a z
  ·exact k.mo (.inl ⟨i,s,h1,h2,h3⟩)
 nz:=fun j s a h1 h2 h3 z=>by
  obtain ⟨q,i,rfl,hk,hs⟩:=kn h1 h2
  have e:=dB hk h3
  rcases z with z | ⟨i',s',hi',g1,g2,g3⟩
  ·exact k.nz i s a hs h2 e z
  ·have:=k.inj i i' a s s' hs g1 h2 g2 e g3
   subst this
   exact hi' (HR hk)
 inj:=fun j j' a s s' h1 h2 m1 m2 h3 h4=>by
  obtain ⟨q,i,rfl,hk,hs⟩:=kn h1 m1
  obtain ⟨q',i',rfl,hk',hs'⟩:=kn h2 m2
  have:=k.inj i i' a s s' hs hs' m1 m2 (dB hk h3) (dB hk' h4)
  subst this
  rw [qr hn hk hk']
 at_:=fun j o s h1 h2=>by
  have hN:∀a,NM Z σ S a->NM (Zin Z ix σ S) (L2.capt n ix σ) (bz n ix S) a:=fun a x z=>x (gJ.mp z)
  rcases wO h2 with rfl | ⟨q,i,rfl,hk,hs⟩
  ·trivial
  ·rw [f6 hk] at h1
   obtain ⟨o',e1,sl⟩:=k.ownAt hs
   rw [e1] at h1
   simp at h1
   subst h1
   cases s with
   | no=>trivial
   | val d=>obtain ⟨v,e,r⟩:=sl;exact ⟨v,e,r.mono (fun a x _=>⟨hN a x,rfl⟩) fun _ x=>x⟩
   | fre d=>obtain ⟨v,e,r⟩:=sl;exact ⟨v,e,r.mono (fun a x _=>⟨hN a x,rfl⟩) fun _ x=>x⟩
   | own ds=>obtain ⟨a,vs,e,e',e0,r⟩:=sl;exact ⟨a,vs,e,e',e0,r.mono (fun a x _=>⟨hN a x,rfl⟩) fun _ x=>x⟩
   | pen ad ns=>exact sl
   | odi ks ds=>obtain ⟨a,vs,e,e',e0,ek,r⟩:=sl;exact ⟨a,vs,e,e',e0,⟨ek.1,ek.2.mono (fun a x _=>⟨hN a x,rfl⟩) fun _ x=>x⟩,r.mono (fun a x _=>⟨hN a x,rfl⟩) fun _ x=>x⟩
   | obj k=>obtain ⟨a,e,e0,r⟩:=sl;exact ⟨a,e,e0,k.mono (fun a x _=>⟨hN a x,rfl⟩) rfl r⟩
theorem sC {i j:Nat} (h:ix.idxOf? i=some j):ix[j]?=some i:=by
 unfold NA at h
 obtain ⟨h1,h2,_⟩:=List.findIdx?_eq_some_iff_getElem.mp h
 rw [Gr h1]
 simpa using h2
theorem sE {i:Nat} (h:ix.idxOf? i=none):i∉ix:=by
 unfold NA at h
 intro hm
 have:=List.findIdx?_eq_none_iff.mp h i hm
 simp at this
theorem lN {i:Nat} {s:Sl} (h:S[i]?=some s):(backS n ix S T)[i]?=some (match ix.idxOf? i with | some j=>lM s ((T[n+j]?).getD .no) | none=>s):=by
 have:=wN (n:=n) (ix:=ix) (T:=T) 0 h
 rwa [KU] at this
theorem dI {i:Nat} {s':Sl} (h:(backS n ix S T)[i]?=some s') (m:s'.mut=true):∃s,S[i]?=some s/\s.mut=true/\((∃j,ix[j]?=some i/\T[n+j]?=some s')\/(i∉ix/\s=s')):=by
 have hl:i < S.length:=by
  have:=(List.getElem?_eq_some_iff.mp h).1
  rwa [show (backS n ix S T).length=S.length from iY 0] at this
 have e:=lN (n:=n) (ix:=ix) (T:=T) (Gr hl)
 rw [h] at e
 have e:=GP e
 refine ⟨_,Gr hl,?_⟩
 cases hx:ix.idxOf? i with
 | none=>
  rw [hx] at e
  have e:s'=S[i]:=e
  exact ⟨by rw [<- e];exact m,.inr ⟨sE hx,e.symm⟩⟩
 | some j=>
  rw [hx] at e
  simp only [lM] at e
  by_cases hm:(S[i]).mut=true
  ·rw [if_pos hm] at e
   refine ⟨hm,.inl ⟨j,sC hx,?_⟩⟩
   cases ht:T[n+j]? with
   | none=>rw [ht] at e;simp [Sl.mut] at e;subst e;cases m
   | some t=>
    rw [ht] at e
    simp only [Option.getD_some] at e
    by_cases htm:t.mut=true
    ·rw [if_pos htm] at e;rw [e]
    ·rw [if_neg htm] at e;subst e;cases m
  ·rw [if_neg hm] at e;subst e;exact (hm m).elim
theorem qt {i:Nat} {s':Sl} (h:(backS n ix S T)[i]?=some s') (m:s'.mut=false):s'=.no\/S[i]?=some s':=by
 have hl:i < S.length:=by
  have:=(List.getElem?_eq_some_iff.mp h).1
  rwa [show (backS n ix S T).length=S.length from iY 0] at this
 have e:=lN (n:=n) (ix:=ix) (T:=T) (Gr hl)
 rw [h] at e
 have e:=GP e
 cases hx:ix.idxOf? i with
 | none=>rw [hx] at e;exact .inr (by rw [Gr hl,e])
 | some j=>
  rw [hx] at e
  simp only [lM] at e
  by_cases hm:(S[i]).mut=true
  ·rw [if_pos hm] at e
   by_cases htm:((T[n+j]?).getD .no).mut=true
   ·rw [if_pos htm] at e;rw [e,htm] at m;cases m
   ·rw [if_neg htm] at e;exact .inl e
  ·rw [if_neg hm] at e;exact .inr (by rw [Gr hl,e])
theorem OK.back (k:OK K H0 Z σ H S) (k':OK K H0 (Zin Z ix σ S) σ' H' T) (st:Step (Zin Z ix σ S) (L2.capt n ix σ) (bz n ix S) H σ' T H') (hσ:∀(i:Nat) (v:V),(L2.capt n ix σ)[i]?=some (some v)->σ'[i]?=some (some v)) :
  OK K H0 Z σ H' (backS n ix S T)/\Step Z σ S H σ (backS n ix S T) H'/\∀a,NM (Zin Z ix σ S) σ' T a->NM Z σ (backS n ix S T) a:=by
 have mo':∀a,Mo Z σ (backS n ix S T) a->Mo (Zin Z ix σ S) σ' T a:=fun a z=>by
  rcases z with ⟨i,s',h1,h2,h3⟩ | z
  ·obtain ⟨s,e,em,⟨j,hj,ht⟩ | ⟨hi,rfl⟩⟩:=dI h1 h2
   ·exact .inl ⟨n+j,s',ht,h2,hσ _ _ (by rw [f6 hj,h3];rfl)⟩
   ·exact .inr (.inr ⟨i,s,hi,e,em,h3⟩)
  ·exact .inr (.inl z)
 have nm':∀a,NM (Zin Z ix σ S) σ' T a->NM Z σ (backS n ix S T) a:=fun a x z=>x (mo' a z)
 have nm0:∀a,NM Z σ S a->NM (Zin Z ix σ S) (L2.capt n ix σ) (bz n ix S) a:=fun a x z=>x (gJ.mp z)
 have old:∀a,NM Z σ S a->H a≠none->NM Z σ (backS n ix S T) a/\H' a=H a:=fun a x e=>⟨nm' a (st.1 a (nm0 a x) e).2,(st.1 a (nm0 a x) e).1⟩
 refine ⟨⟨by rw [show (backS n ix S T).length=S.length from iY 0];exact k.len,fun i o s' h1 h2=>?_,fun i j a s t h1 h2 m1 m2 h3 h4=>?_,fun a e=>k'.dom a e,fun a z=>k'.zl a (.inl z),fun i s a h1 m h3 z=>?_⟩,⟨fun a x e=>⟨(old a x e).2,(old a x e).1⟩,st.2.1,fun a z e=>st.2.2 a (.inl z) e⟩,nm'⟩
 ·cases hm:s'.mut with
  | true=>
   obtain ⟨s,e,em,⟨j,hj,ht⟩ | ⟨hi,rfl⟩⟩:=dI h2 hm
   ·have eo:∃v,o=some v:=by
     obtain ⟨o',e1,q⟩:=k.ownAt e
     rw [h1] at e1;cases e1
     cases s with
     | no=>cases em
     | val d=>cases em
     | fre d=>cases em
     | own ds=>obtain ⟨a,_,e,_⟩:=q;exact ⟨_,e⟩
     | pen ad ns=>obtain ⟨a,e,_⟩:=q;exact ⟨_,e⟩
     | odi ks ds=>obtain ⟨a,_,e,_⟩:=q;exact ⟨_,e⟩
     | obj k=>obtain ⟨a,e,_⟩:=q;exact ⟨_,e⟩
    obtain ⟨v,rfl⟩:=eo
    have q:=k'.at_ (n+j) (some v) s' (hσ _ _ (by rw [f6 hj,h1];rfl)) ht
    cases s' with
    | no=>cases hm
    | val d=>cases hm
    | fre d=>cases hm
    | own ds=>obtain ⟨a,vs,e,e',e0,r⟩:=q;exact ⟨a,vs,e,e',e0,r.mono (fun a x _=>⟨nm' a x,rfl⟩) fun _ x=>x⟩
    | pen ad ns=>exact q
    | odi ks ds=>obtain ⟨a,vs,e,e',e0,ek,r⟩:=q;exact ⟨a,vs,e,e',e0,⟨ek.1,ek.2.mono (fun a x _=>⟨nm' a x,rfl⟩) fun _ x=>x⟩,r.mono (fun a x _=>⟨nm' a x,rfl⟩) fun _ x=>x⟩
    | obj k=>obtain ⟨a,e,e0,r⟩:=q;exact ⟨a,e,e0,k.mono (fun a x _=>⟨nm' a x,rfl⟩) rfl r⟩
   ·obtain ⟨o',e1,q⟩:=k.ownAt e
    rw [h1] at e1;cases e1
    have hz:∀a us,o=some (V.ref a)->H a=some us->H' a=H a:=fun a us eo ea=>st.2.2 a (.inr ⟨i,s,hi,e,em,by rw [h1,eo]⟩) (by simp [ea])
    cases s with
    | no=>cases hm
    | val d=>cases hm
    | fre d=>cases hm
    | own ds=>obtain ⟨a,vs,e,e',e0,r⟩:=q;exact ⟨a,vs,e,(hz a _ e e').trans e',e0,r.mono old fun _ x=>x⟩
    | pen ad ns=>obtain ⟨a,e,e1,e'⟩:=q;exact ⟨a,e,e1,(hz a _ e e').trans e'⟩
    | odi ks ds=>obtain ⟨a,vs,e,⟨ob,e'⟩,e0,ek,r⟩:=q;exact ⟨a,vs,e,⟨ob,(hz a _ e e').trans e'⟩,e0,⟨ek.1,ek.2.mono old fun _ x=>x⟩,r.mono old fun _ x=>x⟩
    | obj k=>obtain ⟨a,e,e0,r⟩:=q;exact ⟨a,e,e0,k.mono old (hz a _ e (Option.ne_none_iff_exists'.mp (k.ism r).ne).choose_spec) r⟩
  | false=>
   rcases qt h2 hm with rfl | e
   ·trivial
   ·have q:=k.at_ i o s' h1 e
    cases s' with
    | no=>trivial
    | val d=>obtain ⟨v,e,r⟩:=q;exact ⟨v,e,r.mono old fun _ x=>x⟩
    | fre d=>obtain ⟨v,e,r⟩:=q;exact ⟨v,e,r.mono old fun _ x=>x⟩
    | own ds=>cases hm
    | pen ad ns=>cases hm
    | odi ks ds=>cases hm
    | obj k=>cases hm
 ·obtain ⟨s0,e0,em0,c1⟩:=dI h1 m1
  obtain ⟨t0,f0,fm0,c2⟩:=dI h2 m2
  exact k.inj i j a s0 t0 e0 f0 em0 fm0 h3 h4
 ·obtain ⟨s0,e0,em0,c1⟩:=dI h1 m
  exact k.nz i s0 a e0 em0 h3 z
end
section
variable {K:Gn} {X:Cx} {e a b c tg elt iter:Expr} {te:TE} {va:VT} {pos:Pos}
structure VTs (K:Gn) (X:Cx) (ifs:List Expr) (te:TT) (t:VTT):Prop where
 pe:PTs X ifs te
 snd:SndT K te t
noncomputable def yW:VTT:=fun S Q=>Q true S
theorem cu:VTs K X [] yP yW:=⟨wG,fun _ _ _ _ _ _ _ k h q=>q _ _ _ k .refl h⟩
theorem fh {tA:TT} {wA:VTT} (h:VTe K X c tA wA):VTs K X [c] tA wA:=⟨wH h.pe,h.snd⟩
noncomputable def lO (vi:VTN) (n:Nat) (ix:List Nat) (vg:VG) (vt:VTT) (ve:VT):VTN:=fun S Q=>vi S fun ds S1=>ds.length<=1000000/\∃Iv:Nat->List D->List Sl->Prop,Iv 0 [] S1 /\
 (∀i d ys S2,ds[i]?=some d->Iv i ys S2->vg d (bz n ix S2) fun S3=>vt S3 fun b S4=>if b=true then ve S4 fun r S5=>∃x,r=.d x/\Iv (i+1) (ys++[x]) (backS n ix S2 S5) else Iv (i+1) ys (backS n ix S2 S4)) /\
 ∀ys S2,Iv ds.length ys S2->Q ys S2
theorem sF {ifs:List Expr} {scope:Jz} {tg cs:List Str} {target:Expr} {wi:TI} {vi:VTN} {g:TG} {vg:VG} {tc:TT} {vt:VTT} {te:TE} {ve:VT} (Sc:bf X scope tg cs ix) (hcalm:X.calm=true) (kg:cR tg.length ix g) (hnd:ix.Nodup) {Φ:Hp->Prop} (hΦ:∀pins σ H s,Inv X pins σ H s->Φ H) (h0:Φ X.H₀)
  (hi:VI K X target iter wi vi) (hg:∀C fp s H,VGe K (ao X scope (tg++cs) C fp s H) target g vg) (hc:∀C fp s H,Φ H->VTs K (ao X scope (tg++cs) C fp s H) ifs tc vt) (he:∀C fp s H,Φ H->VE K (ao X scope (tg++cs) C fp s H) true elt te ve)
  (hs:∀x,G7 iter X.env x=pure x:=by intro _;rfl):VN K X (.ListComp elt [⟨target,iter,ifs,0⟩] scope pos) (iM wi tg.length ix g tc te) (lO vi tg.length ix vg vt ve):=by
 have sg:SndG K g vg:=(hg 0 [] X.s₀ (fun _=>none)).snd
 have sc:SndT K tc vt:=(hc 0 [] X.s₀ X.H₀ h0).snd
 have se:SndE K true te ve:=(he 0 [] X.s₀ X.H₀ h0).snd
 refine ⟨rJ Sc hcalm kg hΦ hi.pi (fun C fp s H=>(hg C fp s H).pg) (fun C fp s H z=>(hc C fp s H z).pe) (fun C fp s H z=>(he C fp s H z).pe) hs,fun H0 Z σ H S Q C k t hq=>?_⟩
 refine hi.snd H0 Z σ H S _ _ k t fun J ds H1 S1 k1 st1 gd zr1=>?_
 obtain ⟨hl,Iv,i0,hs,hd⟩:=zr1
 refine ⟨fun i m ys H=>m=ds.length-i/\i<=ds.length/\ys.length<=i/\∃S2 zs,OK K H0 Z σ H S2/\Step Z σ S1 H1 σ S2 H/\Reps K (NM Z σ S2) (Fr H0) H ys zs/\Iv i zs S2,⟨ds.length,by simp,IG _,Gz _,S1,[],k1,.refl,.nil,i0⟩,?_⟩
 rintro i m ys H2 ⟨rfl,hi,hy,S2,zs,k2,st2,rz,p⟩
 obtain ⟨g1,g2,g3⟩:=gd σ S2 H2 (fun _=>k2.nm) st2.1 i
 have hsz:(1000000:Nat) < GZ:=by rw [Hv];lia
 by_cases hlt:i < ds.length
 ·refine .inr ⟨g1 hlt,by lia,fun ys' H'=>ys'.length<=i+1/\∃S' zs',OK K H0 Z σ H' S'/\Step Z σ S1 H1 σ S' H'/\Reps K (NM Z σ S') (Fr H0) H' ys' zs'/\Iv (i+1) zs' S',fun ys' H' zt1=>by obtain ⟨p1,p2⟩:=zt1;exact ⟨ds.length-(i+1),by lia,rfl,hlt,p1,p2⟩,fun x H3 y=>?_⟩
  obtain ⟨hgr,d,hd',rd⟩:=g2 x H3 y hlt
  replace k2:=k2.grow hgr
  replace st2:=st2.trans (.grow hgr)
  replace rz:=rz.step (.grow hgr)
  have kc:=k2.capt (n:=tg.length) hnd
  have rd':Rep K (NM (Zin Z ix σ S2) (L2.capt tg.length ix σ) (bz tg.length ix S2)) AnyF H3 x d:=rd.mono (fun a n _=>⟨fun z=>n (gJ.mp z),rfl⟩) fun _ x=>x
  -- the target leaves what the block took over
  have h1:=sg H0 _ _ H3 _ x d _ (fun σ4 H4=>∃S4,OK K H0 (Zin Z ix σ S2) σ4 H4 S4/\Step (Zin Z ix σ S2) (L2.capt tg.length ix σ) (bz tg.length ix S2) H3 σ4 S4 H4/\vt S4 fun b S5=>if b=true then ve S5 fun r S6=>∃x,r=.d x/\Iv (i+1) (zs++[x]) (backS tg.length ix S2 S6) else Iv (i+1) zs (backS tg.length ix S2 S5)) kc rd' (hs i d zs S2 hd' p) (fun σ4 H4 S4 k4 st4 q4=>⟨S4,k4,st4,q4⟩)
  have h2:=kg x σ H3 _ h1
  refine (hg 0 [] X.s₀ (fun _=>none)).mono _ _ _ _ _ ?_ h2
  rintro σ4 H4 ⟨⟨hl4,hσ4⟩,S4,k4,st4,q4⟩
  refine sc H0 _ σ4 H4 S4 _ _ k4 q4 fun bb H5 S5 k5 st5 q5=>?_
  cases bb with
  | false=>
   rw [if_neg Gw] at q5 ⊢
   obtain ⟨kb,sb,nb⟩:=k2.back k5 (st4.trans st5) hσ4
   exact ⟨by lia,_,zs,kb,st2.trans sb,rz.step sb,q5⟩
  | true=>
   rw [if_pos rfl] at q5 ⊢
   refine se H0 _ σ4 H5 S5 _ _ k5 q5 fun vv H6 r S6 k6 st6 rr zr1=>?_
   obtain ⟨xx,er,q6⟩:=zr1
   subst er
   obtain ⟨kb,sb,nb⟩:=k2.back k6 ((st4.trans st5).trans st6) hσ4
   refine ⟨by simp;lia,_,zs++[xx],kb,st2.trans sb,Reps.append (rz.step sb) (.cons (Rep.mono (fun a n _=>⟨nb a n,rfl⟩) (fun _ x=>x rfl) rr) .nil),q6⟩
 ·have e:i=ds.length:=by lia
  refine .inl ⟨g3 e,by lia,fun l hp=>?_⟩
  exact hq l ys zs H2 _ S2 k2 (st1.trans st2) hp (aI hp) ay (bT hp (rz.mono (fun _ n _=>⟨n,rfl⟩) fun _ x _=>x)) (hd zs S2 (by rw [<- e];exact p))
theorem bO {ifs:List Expr} {scope:Jz} {tg cs:List Str} {target:Expr} {wi:TI} {vi:VTN} {g:TG} {vg:VG} {tc:TT} {vt:VTT} {te:TE} {ve:VT} (Sc:bf X scope tg cs ix) (hcalm:X.calm=true) (kg:cR tg.length ix g) (hnd:ix.Nodup)
  (hi:VI K X target iter wi vi) (hg:∀C fp s H,VGe K (ao X scope (tg++cs) C fp s H) target g vg) (hc:∀C fp s H,VTs K (ao X scope (tg++cs) C fp s H) ifs tc vt) (he:∀C fp s H,VE K (ao X scope (tg++cs) C fp s H) true elt te ve)
  (hs:∀x,G7 iter X.env x=pure x:=by intro _;rfl):VN K X (.ListComp elt [⟨target,iter,ifs,0⟩] scope pos) (iM wi tg.length ix g tc te) (lO vi tg.length ix vg vt ve):=
 sF Sc hcalm kg hnd (Φ:=fun _=>True) (fun _ _ _ _ _=>trivial) trivial hi hg (fun C fp s H _=>hc C fp s H) (fun C fp s H _=>he C fp s H) hs
theorem sG {elt iter:Expr} {pos spos py:Pos} {yy:Str} {ii:Nat} {ifs:List Expr} {scope:Jz} {tg cs:List Str} {target:Expr} {wi:TI} {vi:VTN} {g:TG} {vg:VG} {tc:TT} {vt:VTT} {te:TE} {ve:VT} (hN0:X.N.Nodup) (hi0:X.N[ii]?=some yy) (hx0:Loc X.env.scope yy) (hf0:X.fn yy=true\/X.env.scope.names.lookup yy=some .local)
  (Sc:bf X scope tg cs ix) (hcalm:X.calm=true) (kg:cR tg.length ix g) (hnd:ix.Nodup)
  (hi:VI K X target iter wi vi) (hg:∀C fp s H,VGe K (ao X scope (tg++cs) C fp s H) target g vg) (hc:∀C fp s H,VTs K (ao X scope (tg++cs) C fp s H) ifs tc vt) (he:∀C fp s H,VE K (ao X scope (tg++cs) C fp s H) true elt te ve)
  (hsw:IN (.ListComp elt [⟨target,iter,ifs,0⟩] scope pos) (some (.Name yy py)) spos.line X.env=pure true:=by rfl) (hs:∀x,G7 iter X.env x=pure x:=by intro _;rfl):VS K X (.Assign [.Name yy py] (.ListComp elt [⟨target,iter,ifs,0⟩] scope pos) spos) (cW (iM wi tg.length ix g tc te) (bF ii)) (sd ii (lO vi tg.length ix vg vt ve)):=by
 have h:=bO (pos:=pos) Sc hcalm kg hnd hi hg hc he hs
 refine ⟨lG hN0 hi0 hx0 Sc hcalm kg hi.pi (fun C fp s H=>(hg C fp s H).pg) (fun C fp s H=>(hc C fp s H).pe) (fun C fp s H=>(he C fp s H).pe) hf0 hsw hs,fun H0 Z σ H S V E k t l=>h.snd H0 Z σ H S _ _ k t fun a vs ds H1 H' S' k1 st1 ha hg hl rr zr1=>?_⟩
 obtain ⟨hi,q⟩:=zr1
 obtain ⟨k2,st2⟩:=k1.setNew (s:=.own ds) hi ha hg ⟨a,vs,rfl,hl,k1.dom a ha,rr⟩ rfl
 exact l.nx _ _ _ k2 (st1.trans st2) q
theorem sH {elt iter:Expr} {pos spos py:Pos} {yy:Str} {ii:Nat} {ifs:List Expr} {scope:Jz} {tg cs:List Str} {target:Expr} {wi:TI} {vi:VTN} {g:TG} {vg:VG} {tc:TT} {vt:VTT} {te:TE} {ve:VT} (hN0:X.N.Nodup) (hi0:X.N[ii]?=some yy) (hx0:Loc X.env.scope yy) (hf0:X.fn yy=true\/X.env.scope.names.lookup yy=some .local)
  (Sc:bf X scope tg cs ix) (hcalm:X.calm=true) (kg:cR tg.length ix g) (hnd:ix.Nodup)
  (hi:VI K X target iter wi vi) (hg:∀C fp s H,VGe K (ao X scope (tg++cs) C fp s H) target g vg) (hc:∀C fp s H,VTs K (ao X scope (tg++cs) C fp s H) ifs tc vt) (he:∀C fp s H,VE K (ao X scope (tg++cs) C fp s H) true elt te ve)
  (hsw:IN (.ListComp elt [⟨target,iter,ifs,0⟩] scope pos) (some (.Name yy py)) spos.line X.env=pure true:=by rfl) (hs:∀x,G7 iter X.env x=pure x:=by intro _;rfl):VS K X (.Assign [.Name yy py] (.ListComp elt [⟨target,iter,ifs,0⟩] scope pos) spos) (cW (iM wi tg.length ix g tc te) (bF ii)) (qp (rR (lO vi tg.length ix vg vt ve)) (vgN ii)):=by
 have h:=bO (pos:=pos) Sc hcalm kg hnd hi hg hc he hs
 refine ⟨lG hN0 hi0 hx0 Sc hcalm kg hi.pi (fun C fp s H=>(hg C fp s H).pg) (fun C fp s H=>(hc C fp s H).pe) (fun C fp s H=>(he C fp s H).pe) hf0 hsw hs,mX (aG (m:=false) h).snd fun H0 Z σ H S v d Q C k r zt1 hc=>by obtain ⟨hi,q⟩:=zt1;exact hc _ _ _ (k.setVal hi r).1 (k.setVal hi r).2 q⟩
end
end VL
end
section
namespace VL
open PySem L2
section
variable {P:G2} {w:HJ} {K:Gn} {mg:Str->Option Gs} {base:Heap}
noncomputable def slots (n:Nat) (ds:List D):List Sl:=ds.map .val++He (n-ds.length) .no
theorem f7 {N:List Str} {i:Nat} (h:vs[i]?=some v):(start N vs)[i]?=some (some v):=by
 unfold L2.start
 have hi:=(List.getElem?_eq_some_iff.mp h).1
 rw [GY (by simpa using hi)]
 simp [h]
theorem lP {n:Nat} {i:Nat} {s:Sl} (h:(slots n ds)[i]?=some s):s=.no\/∃d,s=.val d/\ds[i]?=some d:=by
 unfold slots at h
 by_cases hi:i < ds.length
 ·rw [GY (by simpa using hi)] at h
  simp [hi] at h
  subst h
  exact .inr ⟨_,rfl,by simp [hi]⟩
 ·rw [GN (by simpa using hi)] at h
  have:=HR h
  exact .inl (JJ this)
theorem cH {n:Nat} {i:Nat} {s:Sl} (h:(slots n ds)[i]?=some s):s.mut=false:=by
 rcases lP h with rfl | ⟨d,rfl,_⟩ <;> rfl
theorem lQ {N:List Str} (r:Reps K Any AnyF H vs ds):OK K H (fun _=>False) (start N vs) H (slots N.length ds) where
 len:=by simp [L2.start,slots,r.length]
 dom:=fun _ e=>e
 zl:=fun _ z=>z.elim
 nz:=fun i s a h m _=>by rw [cH h] at m;cases m
 inj:=fun i j a s t h1 h2 m1=>by rw [cH h1] at m1;cases m1
 at_:=fun i o s h1 h2=>by
  rcases lP h2 with rfl | ⟨d,rfl,e⟩
  ·trivial
  ·obtain ⟨v,e1,e2⟩:=r.getD e
   rw [f7 e1] at h1
   cases h1
   refine ⟨v,rfl,e2.mono (fun a _ _=>⟨?_,rfl⟩) fun _ x=>x⟩
   rintro (⟨j,s,g1,g2,_⟩ | z)
   ·rw [cH g1] at g2;cases g2
   ·exact z
theorem bP {x:Str} {st:Stmt} {N ps:List Str} {k:Nat} (S:Src K mg x st) (sc:aE N ps (aj st))
  (hb:∀(kV doc pm:Gs) (an:Option Addr) (cdv ct:Gs) (us:List Gs),us.length=ps.length->Lo (Iq x x (cq st) (bC st) (aj st) .none kV doc pm an cdv ct) ⟨us,[]⟩=pure (ps.zip us))
  (len:∀ds R,p ds R->ds.length=ps.length)
  (hbody:∀(f:Addr) (cdv:Gs) (A:HQ) (outer:List Env) (s:Gv) (H:Hp) (E:XK),ck k (A.deeper (JD x (aj st) s.heap.objs.size f cdv)) ->
   ∃ts t,VSs K (gB CX0 P w K mg base N x (aj st) f cdv A outer s H E).nox (bC st) ts t/\∀ds R,p ds R->t { nx:=fun _=>R .non,rt:=fun d _=>R d } (slots N.length ds)):Has P w K mg base (k+1) x ps (spP K p):=by
 refine S.has sc hb (fun vs H Q E zq1=>by obtain ⟨ds,R,r,h,_⟩:=zq1;rw [r.length];exact len ds R h) fun f cdv A outer s H vs Q E hr ⟨ds,R,r,h,fin⟩=>?_
 obtain ⟨ts,t,vs',q⟩:=hbody f cdv A outer s H E hr
 have k0:=lQ (N:=N) r
 have st0:∀{σ' S' H'},Step (fun _=>False) (start N vs) (slots N.length ds) H σ' S' H'->∀a,H a≠none->H' a=H a:=fun st a e=>(st.1 a (by
  rintro (⟨j,s,g1,g2,_⟩ | z)
  ·rw [cH g1] at g2;cases g2
  ·exact z) e).1
 refine ⟨ts,vs'.ps,vs'.snd H _ _ H _ _ _ k0 (q ds R h) ⟨fun σ' H' S' k' st q=>fin .non .non H' q (st0 st) .non,fun σ' H' S' k' st q=>q.elim,fun σ' H' S' k' st q=>q.elim,fun v d σ' H' S' k' st rr q=>fin d v H' q (st0 st) (rr.mono (fun _ _ _=>⟨trivial,rfl⟩) fun _ x=>x)⟩⟩
noncomputable def dZ (n:Nat) (a:Addr) (ns:List Int) (ds es:List D):List Sl:=ds.map .val++.pen (some a) ns::(es.map .val++He (n-(ds.length+1+es.length)) .no)
theorem jE {n:Nat} {a:Addr} {ds es:List D} {i:Nat} {s:Sl} (h:(dZ n a ns ds es)[i]?=some s):s=.no\/(∃d,s=.val d/\(ds++.non::es)[i]?=some d/\i≠ds.length)\/(i=ds.length/\s=.pen (some a) ns):=by
 unfold dZ at h
 by_cases hi:i < ds.length
 ·rw [GY (by simpa using hi)] at h
  simp [hi] at h
  subst h
  exact .inr (.inl ⟨_,rfl,by rw [GY hi];simp [hi],by lia⟩)
 ·by_cases hi2:i=ds.length
  ·subst hi2
   rw [GN (by simp)] at h
   simp at h
   exact .inr (.inr ⟨rfl,h.symm⟩)
  ·rw [GN (by simp;lia)] at h
   rw [Gx] at h
   obtain ⟨j,hj⟩:∃j,i-ds.length=j+1:=⟨i-ds.length-1,by lia⟩
   rw [hj,Im] at h
   by_cases hj2:j < es.length
   ·rw [GY (by simpa using hj2)] at h
    simp [hj2] at h
    subst h
    refine .inr (.inl ⟨_,rfl,?_,hi2⟩)
    rw [GN (by lia),hj,Im]
    simp [hj2]
   ·rw [GN (by simpa using hj2)] at h
    exact .inl (JJ (HR h))
theorem oD {x:Str} {st:Stmt} {N ps:List Str} {k:Nat} (j:Nat) {p:List Int->List D->(D->List Int->Prop)->Prop} (S:Src K mg x st) (sc:aE N ps (aj st))
  (hb:∀(kV doc pm:Gs) (an:Option Addr) (cdv ct:Gs) (us:List Gs),us.length=ps.length->Lo (Iq x x (cq st) (bC st) (aj st) .none kV doc pm an cdv ct) ⟨us,[]⟩=pure (ps.zip us))
  (len:∀ns ds R,p ns ds R->ds.length+1=ps.length)
  (hbody:∀(f:Addr) (cdv:Gs) (A:HQ) (outer:List Env) (s:Gv) (H:Hp) (E:XK),ck k (A.deeper (JD x (aj st) s.heap.objs.size f cdv)) ->
   ∃ts t,VSs K (gB CX0 P w K mg base N x (aj st) f cdv A outer s H E).nox (bC st) ts t/\∀a ns ds es R,ds.length=j->p ns (ds++es) R->t { nx:=fun S'=>∃ns',S'[j]?=some (.pen (some a) ns')/\R .non ns',rt:=fun d S'=>∃ns',S'[j]?=some (.pen (some a) ns')/\R d ns' } (dZ N.length a ns ds es)) :
  Has P w K mg base (k+1) x ps (spI K j p):=by
 refine S.has sc hb (fun vs H Q E zq1=>by
  obtain ⟨a,ws,us,ns,ds,es,R,e,hl,hp,r1,r2,h,_⟩:=zq1
  have:=len _ _ _ h
  rw [e,G6,HV,r1.length,r2.length]
  rw [G6] at this
  lia) fun f cdv A outer s H vs Q E hr zr1=>?_
 obtain ⟨a,ws,us,ns,ds,es,R,e,hl,hp,r1,r2,h,fin⟩:=zr1
 subst e
 obtain ⟨ts,t,vs',q⟩:=hbody f cdv A outer s H E hr
 have hdl:ds.length=j:=by rw [<- r1.length];exact hl
 subst hdl
 have hmut:∀{i:Nat} {s:Sl},(dZ N.length a ns ds es)[i]?=some s->s.mut=true->i=ds.length/\s=.pen (some a) ns:=fun {i s} h m=>by
  rcases jE h with rfl | ⟨d,rfl,_⟩ | h
  ·cases m
  ·cases m
  ·exact h
 have hpen:(start N (ws++.ref a::us))[ds.length]?=some (some (V.ref a)):=f7 (by rw [<- hl];simp)
 have hmo:∀b,Mo (fun _=>False) (start N (ws++.ref a::us)) (dZ N.length a ns ds es) b->b=a:=fun b z=>by
  rcases z with ⟨i,s,g1,g2,g3⟩ | z
  ·obtain ⟨rfl,_⟩:=hmut g1 g2
   rw [hpen] at g3;cases g3;rfl
  ·exact z.elim
 have hll:N.length-(ws.length+(us.length+1))=N.length-(ds.length+1+es.length):=by rw [r1.length,r2.length];lia
 have k0:OK K H (fun _=>False) (start N (ws++.ref a::us)) H (dZ N.length a ns ds es):={
  len:=by simp [L2.start,dZ,r1.length,r2.length];lia
  dom:=fun _ e=>e
  zl:=fun _ z=>z.elim
  nz:=fun _ _ _ _ _ _ z=>z
  inj:=fun i j a s t h1 h2 m1 m2 _ _=>by rw [(hmut h1 m1).1,(hmut h2 m2).1]
  at_:=fun i o s h1 h2=>by
   rcases jE h2 with rfl | ⟨d,rfl,e,hi⟩ | ⟨rfl,rfl⟩
   ·trivial
   ·have rr:∃v,(ws++.ref a::us)[i]?=some v/\Rep K (·≠a) AnyF H v d:=by
     by_cases hi2:i < ds.length
     ·rw [GY hi2] at e
      obtain ⟨v,e1,e2⟩:=r1.getD e
      exact ⟨v,by rw [GY (by rw [r1.length];exact hi2)];exact e1,e2⟩
     ·rw [GN (by lia)] at e
      obtain ⟨j,hj⟩:∃j,i-ds.length=j+1:=⟨i-ds.length-1,by lia⟩
      rw [hj,Im] at e
      obtain ⟨v,e1,e2⟩:=r2.getD e
      exact ⟨v,by rw [GN (by rw [r1.length];lia),r1.length,hj,Im];exact e1,e2⟩
    obtain ⟨v,e1,e2⟩:=rr
    rw [f7 e1] at h1
    cases h1
    exact ⟨v,rfl,e2.mono (fun b n _=>⟨fun z=>n (hmo b z),rfl⟩) fun _ x=>x⟩
   ·rw [hpen] at h1
    cases h1
    exact ⟨a,rfl,fun b z=>by cases z;rfl,hp⟩ }
 have st0:∀{σ' S' H'},Step (fun _=>False) (start N (ws++.ref a::us)) (dZ N.length a ns ds es) H σ' S' H'->∀b,b≠a->H b≠none->H' b=H b:=fun st b n e=>(st.1 b (fun z=>n (hmo b z)) e).1
 have pn:∀{σ' S' H' ns'},OK K H (fun _=>False) σ' H' S'->S'[ds.length]?=some (.pen (some a) ns')->σ'[ds.length]?=some (some (V.ref a))/\H' a=some (.lst (ns'.map .int)):=fun k' e=>by
  obtain ⟨o,e1,b,rfl,e2,e3⟩:=k'.ownAt e
  obtain rfl:=e2 a rfl
  exact ⟨e1,e3⟩
 refine ⟨ts,vs'.ps,vs'.snd H _ _ H _ _ _ k0 (q a ns ds es R rfl h) ⟨fun σ' H' S' k' st zt1=>by obtain ⟨ns',e,q⟩:=zt1;exact fin .non ns' .non H' q (st0 st) (pn k' e).2 .non,fun σ' H' S' k' st q=>q.elim,fun σ' H' S' k' st q=>q.elim,fun v d σ' H' S' k' st rr ⟨ns',e,q⟩=>fin d ns' v H' q (st0 st) (pn k' e).2 (rr.mono (fun b n _=>⟨fun z=>?_,rfl⟩) fun _ x=>x)⟩⟩
 subst z
 exact n _ _ _ e (pn k' e).1
end
end VL
end
section
namespace VL
open PySem L2
mutual
noncomputable def pd:D->PyData
 | .int i=>.int i
 | .bl b=>.bool b
 | .non=>.none
 | .str x=>.str x
 | .ty _=>.none
 | .dic _ _=>.none
 | .exc _=>.none
 | .oth _=>.none
 | .dib _ _=>.none
 | .tup ds=>.tuple (pds ds)
 | .lst ds=>.list (pds ds)
noncomputable def pds:List D->List PyData
 | []=>[]
 | d::r=>pd d::pds r
end
mutual
noncomputable def noTy:D->Bool
 | .ty _=>false
 | .dic _ _=>false
 | .exc _=>false
 | .oth _=>false
 | .dib _ _=>false
 | .tup ds=>iZ ds
 | .lst ds=>iZ ds
 | _=>true
noncomputable def iZ:List D->Bool
 | []=>true
 | d::r=>noTy d&&iZ r
end
section
variable {K:Gn} {X:Cx} {pins:List (Addr×Obj)} {σ:St} {H:Hp} {s:Gv} {N:AP} {F:FP}
mutual
theorem bE (I:Inv X pins σ H s) (hK:X.K=K) {v:V} {d:D} {u:Gs}:Rep K N F H v d->noTy d=true->RelV v u->∃as,Reads s.heap u (pd d) as:=fun hh ee rr=>by
 cases hh with
 | int i=>have r:=rr;obtain ⟨t,rfl⟩:=r;exact ⟨_,.int i t⟩
 | bl b=>have r:=rr;cases r;exact ⟨_,.bool b⟩
 | non=>have r:=rr;cases r;exact ⟨_,.none⟩
 | str x=>have r:=rr;obtain ⟨t,rfl⟩:=r;exact ⟨_,.str x t⟩
 | ty x=>have e:=ee;cases e
 | dic n f h _ _ rs=>have e:=ee;simp [noTy] at e
 | exc n h _=>have e:=ee;simp [noTy] at e
 | oth h=>have e:=ee;simp [noTy] at e
 | dib n f h _ _ _ rs=>have e:=ee;simp [noTy] at e
 | tup n h rs=>
  have e:=ee
  have r:=rr
  cases r
  obtain ⟨its,rv,⟨o,ho,hc,n,hd⟩,_⟩:=I.tuple (xs:=_) (.inl h)
  obtain ⟨as,ra⟩:=cC I hK rs (by simpa [noTy] using e) rv
  exact ⟨as,.tuple ho hc hd (by simpa using ra)⟩
 | tupK h rs=>
  have e:=ee
  have r:=rr
  cases r
  obtain ⟨its,rv,⟨o,ho,hc,n,hd⟩,_⟩:=I.tuple (xs:=_) (by rw [hK];exact fX h)
  obtain ⟨as,ra⟩:=cC I hK rs (by simpa [noTy] using e) rv
  exact ⟨as,.tuple ho hc hd (by simpa using ra)⟩
 | lst n f h rs=>
  have e:=ee
  have r:=rr
  cases r
  obtain ⟨its,rv,pl,_⟩:=I.list (xs:=_) (.inl (.inl h))
  obtain ⟨o,ho,hc,n,hd⟩:=pl.isList
  obtain ⟨as,ra⟩:=cC I hK rs (by simpa [noTy] using e) rv
  exact ⟨_,.list ho hc hd (by simpa using ra)⟩
 | lstF n f h rs=>
  have e:=ee
  have r:=rr
  cases r
  obtain ⟨its,rv,pl,_⟩:=I.list (xs:=_) (.inl (.inr ⟨_,h⟩))
  obtain ⟨o,ho,hc,n,hd⟩:=pl.isList
  obtain ⟨as,ra⟩:=cC I hK rs (by simpa [noTy] using e) rv
  exact ⟨_,.list ho hc hd (by simpa using ra)⟩
 | lstK f h rs=>
  have e:=ee
  have r:=rr
  cases r
  obtain ⟨its,rv,pl,_⟩:=I.list (xs:=_) (by rw [hK];exact iQ h)
  obtain ⟨o,ho,hc,n,hd⟩:=pl.isList
  obtain ⟨as,ra⟩:=cC I hK rs (by simpa [noTy] using e) rv
  exact ⟨_,.list ho hc hd (by simpa using ra)⟩
theorem cC (I:Inv X pins σ H s) (hK:X.K=K) {vs:List V} {ds:List D} {us:List Gs}:Reps K N F H vs ds->iZ ds=true->Vals vs us->∃as,ReadsAll s.heap us (pds ds) as:=fun hh ee rr=>by
 cases hh with
 | nil=>have r:=rr;cases r;exact ⟨_,.nil⟩
 | cons h t=>
  have e:=ee
  have r:=rr
  simp only [iZ,G5] at e
  cases r with
  | cons r1 r2=>
   obtain ⟨as,ra⟩:=bE I hK h e.1 r1
   obtain ⟨bs,rb⟩:=cC I hK t e.2 r2
   exact ⟨_,.cons ra rb⟩
end
end
structure Okd (d:D):Prop where
 ty:noTy d=true
 lay:(pd d).canLay0=true
 dep:(pd d).depth<=40
noncomputable def AR (K:Gn) (neg:Bool):R2:=fun x y H Q=>∃d1 d2,Rep K Any AnyF H x d1/\Rep K Any AnyF H y d2/\Okd d1/\Okd d2/\Q (.bl (if neg then !PyData.eqv (pd d1) (pd d2) else HW (pd d1) (pd d2))) H
noncomputable def jt (neg:Bool):D->D->(D->Prop)->Prop:=fun d1 d2 q=>Okd d1/\Okd d2/\q (.bl (if neg then !PyData.eqv (pd d1) (pd d2) else HW (pd d1) (pd d2)))
noncomputable def AS (K:Gn) (neg:Bool):R2:=fun x y H Q=>∃d ds,Rep K Any AnyF H x d/\(Rep K Any AnyF H y (.lst ds)\/Rep K Any AnyF H y (.tup ds))/\Okd d/\Okd (.lst ds)/\Q (.bl (if neg then !(pds ds).any (fun y=>HW y (pd d)) else (pds ds).any (fun y=>HW y (pd d)))) H
noncomputable def mY (neg:Bool):D->D->(D->Prop)->Prop:=fun d d2 q=>∃ds,(d2=.lst ds\/d2=.tup ds)/\Okd d/\Okd (.lst ds)/\q (.bl (if neg then !(pds ds).any (fun y=>HW y (pd d)) else (pds ds).any (fun y=>HW y (pd d))))
section
variable {K:Gn} {X:Cx}
theorem ko (hK:X.K=K) (hu:X.A.units+64 < Jt):OpR X (HS .Eq) (AR K false):=by
 rintro pins s σ H x y v u Q I rx ry ⟨d1,d2,r1,r2,o1,o2,q⟩
 obtain ⟨as,ra⟩:=bE I hK r1 o1.ty rx
 obtain ⟨bs,rb⟩:=bE I hK r2 o2.ty ry
 exact SeqAt.compareEq_reads ra rb o1.lay o2.lay (by have:=o1.dep;lia) ⟨.bl _,H,I,rfl,q⟩
theorem mZ (hK:X.K=K) (hu:X.A.units+64 < Jt):OpR X (HS .NotEq) (AR K true):=by
 rintro pins s σ H x y v u Q I rx ry ⟨d1,d2,r1,r2,o1,o2,q⟩
 obtain ⟨as,ra⟩:=bE I hK r1 o1.ty rx
 obtain ⟨bs,rb⟩:=bE I hK r2 o2.ty ry
 exact SeqAt.compareNe_reads ra rb o1.lay o2.lay (by have:=o1.dep;lia) ⟨.bl _,H,I,rfl,q⟩
theorem jF (o:Okd (.lst ds)):Ja (pds ds)=true/\Jm (pds ds)<=40/\noTy (.tup ds)=true:=by
 refine ⟨by simpa [pd,IJ] using o.lay,?_,by simpa [noTy] using o.ty⟩
 have:=o.dep
 simp only [pd,JK] at this
 lia
theorem sI (hK:X.K=K) (hu:X.A.units+64 < Jt):OpR X (HS .In) (AS K false):=by
 rintro pins s σ H x y v u Q I rx ry ⟨d,ds,r1,r2,o1,o2,q⟩
 obtain ⟨as,ra⟩:=bE I hK r1 o1.ty rx
 obtain ⟨h1,h2,h3⟩:=jF o2
 rcases r2 with r2 | r2
 ·obtain ⟨bs,rb⟩:=bE I hK r2 o2.ty ry
  exact SeqAt.in_list_reads (by simpa [pd] using rb) ra h1 o1.lay (by lia) ⟨.bl _,H,I,rfl,q⟩
 ·obtain ⟨bs,rb⟩:=bE I hK r2 h3 ry
  exact SeqAt.in_tuple_reads (by simpa [pd] using rb) ra h1 o1.lay (by lia) ⟨.bl _,H,I,rfl,q⟩
theorem jG (hK:X.K=K) (hu:X.A.units+64 < Jt):OpR X (HS .NotIn) (AS K true):=by
 rintro pins s σ H x y v u Q I rx ry ⟨d,ds,r1,r2,o1,o2,q⟩
 obtain ⟨as,ra⟩:=bE I hK r1 o1.ty rx
 obtain ⟨h1,h2,h3⟩:=jF o2
 rcases r2 with r2 | r2
 ·obtain ⟨bs,rb⟩:=bE I hK r2 o2.ty ry
  exact SeqAt.notIn_list_reads (by simpa [pd] using rb) ra h1 o1.lay (by lia) ⟨.bl _,H,I,rfl,q⟩
 ·obtain ⟨bs,rb⟩:=bE I hK r2 h3 ry
  exact SeqAt.notIn_tuple_reads (by simpa [pd] using rb) ra h1 o1.lay (by lia) ⟨.bl _,H,I,rfl,q⟩
theorem i3 {neg:Bool}:cP K (AR K neg) (jt neg):=fun x y H d1 d2 q C r1 r2 zt1 hc=>by obtain ⟨o1,o2,h⟩:=zt1;exact ⟨d1,d2,r1,r2,o1,o2,hc _ _ h fun _ _=>.bl _⟩
theorem oF {neg:Bool}:cP K (AS K neg) (mY neg):=fun x y H d1 d2 q C r1 r2 zt1 hc=>by obtain ⟨ds,e,o1,o2,h⟩:=zt1;exact ⟨d1,ds,r1,e.imp (fun e=>by rw [<- e];exact r2) (fun e=>by rw [<- e];exact r2),o1,o2,hc _ _ h fun _ _=>.bl _⟩
end
theorem df {α:Type} (f:α->D):∀l:List α,pds (l.map f)=l.map fun x=>pd (f x)
 | []=>rfl
 | _::r=>by simp [pds,df f r]
theorem gK {α:Type} {f:α->D} (h:∀x,noTy (f x)=true):∀l:List α,iZ (l.map f)=true
 | []=>rfl
 | _::r=>by simp [iZ,h,gK h r]
theorem i4 {α:Type} {f:α->PyData} (h:∀x,(f x).canLay0=true):∀l:List α,Ja (l.map f)=true
 | []=>rfl
 | _::r=>by simp [Ja,h,i4 h r]
theorem i5 {α:Type} {f:α->PyData} {n:Nat} (h:∀x,(f x).depth<=n):∀l:List α,Jm (l.map f)<=n
 | []=>by simp [Jm]
 | x::r=>by simp only [GO,Jm];exact Nat.max_le.mpr ⟨h x,i5 h r⟩
structure Enc {α:Type} (n:Nat) (f:α->D):Prop where
 ty:∀x,noTy (f x)=true
 lay:∀x,(pd (f x)).canLay0=true
 dep:∀x,(pd (f x)).depth<=n
 eq:∀x y,HW (pd (f x)) (pd (f y))=true↔x=y
theorem fJ {α:Type} {f:α->PyData} (h:∀x y,HW (f x) (f y)=true↔x=y):∀l m:List α,II (l.map f) (m.map f)=true↔l=m
 | [],[]=>by simp [II]
 | [],_::_=>by simp [II]
 | _::_,[]=>by simp [II]
 | x::r,y::t=>by simp [II,h,fJ h r t]
theorem b8:Enc 0 D.int:=⟨fun _=>rfl,fun _=>rfl,fun _=>Gz _,fun x y=>by simp [pd,HW]⟩
theorem AT:Enc 0 D.bl:=⟨fun _=>rfl,fun _=>rfl,fun _=>Gz _,fun x y=>by simp [pd,HW]⟩
theorem Enc.tup {α:Type} {n:Nat} {f:α->D} (e:Enc n f):Enc (n+1) (fun l:List α=>D.tup (l.map f)) where
 ty:=fun l=>by simp only [noTy];exact gK e.ty l
 lay:=fun l=>by simp only [pd,IJ,df];exact i4 e.lay l
 dep:=fun l=>by simp only [pd,JK,df];exact Nat.succ_le_succ (i5 e.dep l)
 eq:=fun l m=>by simp only [pd,HW,df];exact fJ e.eq l m
theorem Enc.lst {α:Type} {n:Nat} {f:α->D} (e:Enc n f):Enc (n+1) (fun l:List α=>D.lst (l.map f)) where
 ty:=fun l=>by simp only [noTy];exact gK e.ty l
 lay:=fun l=>by simp only [pd,IJ,df];exact i4 e.lay l
 dep:=fun l=>by simp only [pd,JK,df];exact Nat.succ_le_succ (i5 e.dep l)
 eq:=fun l m=>by simp only [pd,HW,df];exact fJ e.eq l m
theorem i6:Enc 1 eT:=b8.tup
theorem eJ:Enc 2 eL:=i6.lst
theorem Enc.okd {α:Type} {n:Nat} {f:α->D} (e:Enc n f) (hn:n<=40) (x:α):Okd (f x):=⟨e.ty x,e.lay x,HY (e.dep x) hn⟩
theorem Enc.eqv {α:Type} [DecidableEq α] {n:Nat} {f:α->D} (e:Enc n f) (x y:α):HW (pd (f x)) (pd (f y))=decide (x=y):=by
 rw [IY,e.eq,decide_eq_true_iff]
theorem Enc.any {α:Type} [DecidableEq α] {n:Nat} {f:α->D} (e:Enc n f) (x:α) (l:List α):(pds (l.map f)).any (fun y=>HW y (pd (f x)))=decide (x∈l):=by
 rw [df,List.any_map]
 induction l with
 | nil=>simp
 | cons a r ih=>
  rw [List.any_cons,ih]
  simp only [JR,e.eqv]
  rw [IY]
  simp only [Bool.or_eq_true,decide_eq_true_eq,Lu]
  exact ⟨fun z=>z.elim (fun z=>.inl z.symm) .inr,fun z=>z.elim (fun z=>.inl z.symm) .inr⟩
theorem yX {α:Type} [DecidableEq α] {n:Nat} {f:α->D} (e:Enc n f) {x y:α} (h:q (.bl (decide (x=y)))) (hn:n<=40:=by decide):jt false (f x) (f y) q:=⟨e.okd hn x,e.okd hn y,by simpa [e.eqv] using h⟩
theorem DG {α:Type} [DecidableEq α] {n:Nat} {f:α->D} (e:Enc n f) {x y:α} (h:q (.bl (!decide (x=y)))) (hn:n<=40:=by decide):jt true (f x) (f y) q:=⟨e.okd hn x,e.okd hn y,by simpa [e.eqv] using h⟩
theorem lR {α:Type} [DecidableEq α] {n:Nat} {f:α->D} (e:Enc n f) {x:α} {l:List α} (h:q (.bl (!decide (x∈l)))) (hn:n+1<=40:=by decide):mY true (f x) (.lst (l.map f)) q:=⟨_,.inl rfl,e.okd (by lia) x,e.lst.okd hn l,by simpa only [e.any,if_true] using h⟩
end VL
namespace VL
open PySem L2
section
variable {K:Gn} {X:Cx}
theorem fB (hK:X.K=K):cL X (.builtin "len") (fun xs H Q=>∃p ys,xs=[.ref p]/\(SqL K H p ys\/SqT K H p ys)/\Q (.int ys.length) H):=by subst hK;exact j8
theorem jH (hK:X.K=K):cL X (.builtin "isinstance") (wu K):=by subst hK;exact lB
theorem fj:HP "sorted"=some (.builtin "sorted"):=by decide +kernel
theorem AU:HP "min"=some (.builtin "min"):=by decide +kernel
end
end VL
end
section
namespace VL
open PySem L2
section
variable {S S1:List Sl} {Q:VR->List Sl->Prop} {QT:Bool->List Sl->Prop} {QN:List D->List Sl->Prop} {QA:List VR->List Sl->Prop} {W:aT} {va vb:VT} {vr:VTA} {vt vu:VTT} {vn:VTN} {s t:VTS} {g:VG}
noncomputable def DH (u:VTS) (W:aT):List Sl->Prop:=fun S'=>∃S'',Wk S' S''/\u W S''
theorem DI {u:VTS} (h:t ⟨DH u W,W.rt,W.bk,W.ct⟩ S):rW t u W S:=h
theorem AV {u:VTS} (h:u W S):DH u W S:=⟨S,Wk.refl S,h⟩
noncomputable def AW (g:VG) (W:aT):VR->List Sl->Prop:=fun r S1=>∃d,r=.d d/\g d S1 W.nx
theorem DJ (h:va S (AW g W)):qp va g W S:=h
theorem AX (h:g d S W.nx):AW g W (.d d) S:=⟨d,rfl,h⟩
theorem F4 {i:Nat} {q:List Sl->Prop} (e:MW (i+1) S.length=true) (h:q (S.set i (.val d))):vgN i d S q:=⟨GW e,h⟩
theorem F7 {n:Nat} {u:List D->List Sl->(List Sl->Prop)->Prop} {q:List Sl->Prop} (e:ds.length=n) (h:u ds S q):vgT n u (.tup ds) S q:=⟨ds,rfl,e,h⟩
theorem AY {q:List Sl->Prop} (h:q S):yU [] S q:=⟨rfl,h⟩
theorem wR {r:List D} {u:List D->List Sl->(List Sl->Prop)->Prop} {q:List Sl->Prop} (h:g d S fun S1=>u r S1 q):rZ g u (d::r) S q:=⟨d,r,rfl,h⟩
noncomputable def yY (i:Nat) (W:aT):List D->List Sl->Prop:=fun ds S1=>i < S1.length/\W.nx (S1.set i (.own ds))
theorem AZ {i:Nat} (h:vn S (yY i W)):sd i vn W S:=h
theorem wU {i:Nat} (e:MW (i+1) S.length=true) (h:W.nx (S.set i (.own ds))):yY i W ds S:=⟨GW e,h⟩
noncomputable def yZ (i:Nat) (W:aT):List D->List Sl->Prop:=fun ds S1=>∃ns:List Int,ds=ns.map .int/\i < S1.length/\W.nx (S1.set i (.pen none ns))
theorem A0 {i:Nat} (h:vn S (yZ i W)):yV i vn W S:=h
theorem oG {i:Nat} (e:MW (i+1) S.length=true) (h:W.nx (S.set i (.pen none ns))):yZ i W (ns.map .int) S:=⟨ns,rfl,GW e,h⟩
noncomputable def DK (W:aT):VR->List Sl->Prop:=fun r S1=>∃d,retD S1 r=some d/\W.rt d S1
theorem DL (h:va S (DK W)):Dy va W S:=h
theorem A1 (e:retD S r=some d) (h:W.rt d S):DK W r S:=⟨d,e,h⟩
noncomputable def kIf (t u:VTS) (W:aT):Bool->List Sl->Prop:=fun b S1=>if b=true then t W S1 else u W S1
theorem DM {u:VTS} (h:vt S (kIf t u W)):Dz vt t u W S:=h
theorem DN {u:VTS} {b:Bool} (h1:b=true->t W S) (h2:b=false->u W S):kIf t u W b S:=by
 cases b with
 | true=>show (if true=true then _ else _);rw [if_pos rfl];exact h1 rfl
 | false=>show (if false=true then _ else _);rw [if_neg Gw];exact h2 rfl
theorem sJ {u:VTS} (h:t W S):kIf t u W true S:=by show (if true=true then _ else _);rw [if_pos rfl];exact h
theorem sL {u:VTS} (h:u W S):kIf t u W false S:=by show (if false=true then _ else _);rw [if_neg Gw];exact h
theorem cw {u:VTS} {p:Prop} [Decidable p] (h1:p->t W S) (h2:¬p->u W S):kIf t u W (decide p) S:=DN (fun e=>h1 (of_decide_eq_true e)) (fun e=>h2 (of_decide_eq_false e))
noncomputable def y8 (W:aT):VR->List Sl->Prop:=fun _ S1=>W.nx S1
theorem A2 (h:va S (y8 W)):yT va W S:=h
theorem wV (h:W.nx S):y8 W r S:=h
theorem A3 (h:W.nx S):yS W S:=h
theorem j_c (h:Q (.d d) S):vC d S Q:=h
theorem DO {i:Nat} (e:rdO i S[i]?=some r) (h:Q r S):lJ i S Q:=⟨r,e,h⟩
noncomputable def sM (Q:VR->List Sl->Prop):VR->List Sl->Prop:=fun r S'=>(match r with | .d d=>flat d=true | .own _=>True)/\Q r S'
theorem A4 (h:va S (sM Q)):oB va S Q:=h
theorem cD (e:flat d=true) (h:Q (.d d) S):sM Q (.d d) S:=⟨e,h⟩
theorem sN {i:Nat} (h:Q (.own i) S):sM Q (.own i) S:=⟨trivial,h⟩
noncomputable def k2a (w:D->D->(D->Prop)->Prop) (vb:VT) (Q:VR->List Sl->Prop):VR->List Sl->Prop:=fun ra S1=>vb S1 fun rb S2=>∃d1 d2,get S2 ra=some d1/\get S2 rb=some d2/\w d1 d2 fun d=>Q (.d d) S2
noncomputable def k2b (w:D->D->(D->Prop)->Prop) (Q:VR->List Sl->Prop) (ra:VR):VR->List Sl->Prop:=fun rb S2=>∃d1 d2,get S2 ra=some d1/\get S2 rb=some d2/\w d1 d2 fun d=>Q (.d d) S2
theorem j_2 {w:D->D->(D->Prop)->Prop} (h:va S (k2a w vb Q)):v2 w va vb S Q:=h
theorem F8 {w:D->D->(D->Prop)->Prop} {ra:VR} (h:vb S (k2b w Q ra)):k2a w vb Q ra S:=h
theorem F9 {w:D->D->(D->Prop)->Prop} {ra rb:VR} {d1 d2:D} (e1:get S ra=some d1) (e2:get S rb=some d2) (h:w d1 d2 fun d=>Q (.d d) S):k2b w Q ra rb S:=⟨d1,d2,e1,e2,h⟩
theorem DP {f:Int->Int->L2.V} {i j:Int} (h:q (ofV (f i j))):wI0 f (.int i) (.int j) q:=⟨i,j,rfl,rfl,h⟩
theorem DQ {C:Int->Int->Prop} {f:Int->Int->L2.V} {i j:Int} (c:C i j) (h:q (ofV (f i j))):wI C f (.int i) (.int j) q:=⟨i,j,rfl,rfl,c,h⟩
theorem DR {neg:Bool} (h:q (.bl (if neg then !rM d else rM d))):Dp neg d .non q:=⟨rfl,h⟩
noncomputable def DS (vb:VT) (Q:VR->List Sl->Prop):VR->List Sl->Prop:=fun ra S1=>vb S1 fun rb S2=>∃ds i d,(get S2 ra=some (.lst ds)\/get S2 ra=some (.tup ds))/\get S2 rb=some (.int i)/\atI ds i=some d/\Q (.d d) S2
noncomputable def A5 (Q:VR->List Sl->Prop) (ra:VR):VR->List Sl->Prop:=fun rb S2=>∃ds i d,(get S2 ra=some (.lst ds)\/get S2 ra=some (.tup ds))/\get S2 rb=some (.int i)/\atI ds i=some d/\Q (.d d) S2
theorem Ga (h:va S (DS vb Q)):vIx va vb S Q:=h
theorem DT {ra:VR} (h:vb S (A5 Q ra)):DS vb Q ra S:=h
theorem bU {ra rb:VR} {i:Int} (e1:get S ra=some (.lst ds)) (e2:get S rb=some (.int i)) (e3:atI ds i=some d) (h:Q (.d d) S):A5 Q ra rb S:=⟨ds,i,d,.inl e1,e2,e3,h⟩
theorem y9 {ra rb:VR} {i:Int} (e1:get S ra=some (.tup ds)) (e2:get S rb=some (.int i)) (e3:atI ds i=some d) (h:Q (.d d) S):A5 Q ra rb S:=⟨ds,i,d,.inr e1,e2,e3,h⟩
noncomputable def kUn (f:Int->L2.V) (Q:VR->List Sl->Prop):VR->List Sl->Prop:=fun r S1=>∃i,get S1 r=some (.int i)/\Q (.d (ofV (f i))) S1
theorem Gb {f:Int->L2.V} (h:va S (kUn f Q)):vUn f va S Q:=h
theorem DU {f:Int->L2.V} {i:Int} (e:get S r=some (.int i)) (h:Q (.d (ofV (f i))) S):kUn f Q r S:=⟨i,e,h⟩
noncomputable def sO (QT:Bool->List Sl->Prop):VR->List Sl->Prop:=fun r S'=>∃k,r=.d (.bl k)/\QT k S'
theorem A6 (h:va S (sO QT)):gV va S QT:=h
theorem wW {k:Bool} (h:QT k S):sO QT (.d (.bl k)) S:=⟨k,rfl,h⟩
noncomputable def qu (u:VTT) (QT:Bool->List Sl->Prop):Bool->List Sl->Prop:=fun c S1=>if c=true then u S1 QT else QT false S1
noncomputable def kOr (u:VTT) (QT:Bool->List Sl->Prop):Bool->List Sl->Prop:=fun c S1=>if c=true then QT true S1 else u S1 QT
noncomputable def DV (QT:Bool->List Sl->Prop):Bool->List Sl->Prop:=fun c S1=>QT (!c) S1
theorem DW (h:vt S (qu vu QT)):Dq vt vu S QT:=h
theorem Gc (h:vt S (kOr vu QT)):vOr vt vu S QT:=h
theorem DX (h:vt S (DV QT)):AH vt S QT:=h
theorem A7 {b:Bool} (h:QT (!b) S):DV QT b S:=h
theorem m3 {b:Bool} (h1:b=true->vu S QT) (h2:b=false->QT false S):qu vu QT b S:=by
 cases b with
 | true=>show (if true=true then _ else _);rw [if_pos rfl];exact h1 rfl
 | false=>show (if false=true then _ else _);rw [if_neg Gw];exact h2 rfl
theorem DY {b:Bool} (h1:b=true->QT true S) (h2:b=false->vu S QT):kOr vu QT b S:=by
 cases b with
 | true=>show (if true=true then _ else _);rw [if_pos rfl];exact h1 rfl
 | false=>show (if false=true then _ else _);rw [if_neg Gw];exact h2 rfl
theorem sP (h:vu S QT):kOr vu QT false S:=DY (fun e=>nomatch e) fun _=>h
theorem oH (h:vu S QT):qu vu QT true S:=m3 (fun _=>h) fun e=>nomatch e
theorem oI (h:QT false S):qu vu QT false S:=m3 (fun e=>nomatch e) fun _=>h
noncomputable def oJ (vb:VT) (Q:VR->List Sl->Prop):VR->List Sl->Prop:=fun r S1=>∃c,r=.d (.bl c)/\if c=true then vb S1 Q else Q (.d (.bl false)) S1
noncomputable def A8 (vb:VT) (Q:VR->List Sl->Prop):VR->List Sl->Prop:=fun r S1=>∃c,r=.d (.bl c)/\if c=true then Q (.d (.bl true)) S1 else vb S1 Q
noncomputable def za (Q:VR->List Sl->Prop):VR->List Sl->Prop:=fun r S1=>∃c,r=.d (.bl c)/\Q (.d (.bl (!c))) S1
theorem A9 (h:va S (oJ vb Q)):yQ va vb S Q:=h
theorem DZ (h:va S (A8 vb Q)):Dr va vb S Q:=h
theorem Ba (h:va S (za Q)):yR va S Q:=h
theorem wX {c:Bool} (h:Q (.d (.bl (!c))) S):za Q (.d (.bl c)) S:=⟨c,rfl,h⟩
theorem oK {c:Bool} (h1:c=true->vb S Q) (h2:c=false->Q (.d (.bl false)) S):oJ vb Q (.d (.bl c)) S:=⟨c,rfl,by
 cases c with
 | true=>rw [if_pos rfl];exact h1 rfl
 | false=>rw [if_neg Gw];exact h2 rfl⟩
theorem Bb {c:Bool} (h1:c=true->Q (.d (.bl true)) S) (h2:c=false->vb S Q):A8 vb Q (.d (.bl c)) S:=⟨c,rfl,by
 cases c with
 | true=>rw [if_pos rfl];exact h1 rfl
 | false=>rw [if_neg Gw];exact h2 rfl⟩
noncomputable def wY (va vb:VT) (Q:VR->List Sl->Prop):Bool->List Sl->Prop:=fun c S1=>if c=true then va S1 Q else vb S1 Q
theorem D0 (h:vt S (wY va vb Q)):vIf vt va vb S Q:=h
theorem sQ {b:Bool} (h1:b=true->va S Q) (h2:b=false->vb S Q):wY va vb Q b S:=by
 cases b with
 | true=>show (if true=true then _ else _);rw [if_pos rfl];exact h1 rfl
 | false=>show (if false=true then _ else _);rw [if_neg Gw];exact h2 rfl
theorem D1 (h:QA [] S):qk S QA:=h
noncomputable def sR (vr:VTA) (QA:List VR->List Sl->Prop):VR->List Sl->Prop:=fun r S1=>vr S1 fun rs S2=>QA (r::rs) S2
theorem Bc (h:va S (sR vr QA)):fY va vr S QA:=h
theorem wZ (h:vr S fun rs S2=>QA (r::rs) S2):sR vr QA r S:=h
noncomputable def mR (Q:VR->List Sl->Prop):List VR->List Sl->Prop:=fun rs S1=>∃ds,allD rs=some ds/\ds.length<=1000/\Q (.d (.tup ds)) S1
theorem D2 (h:vr S (mR Q)):Dt vr S Q:=h
theorem Bd (e:allD rs=some ds) (e2:MW ds.length 1000=true) (h:Q (.d (.tup ds)) S):mR Q rs S:=⟨ds,e,GW e2,h⟩
noncomputable def D3 (QN:List D->List Sl->Prop):List VR->List Sl->Prop:=fun rs S1=>∃ds,allD rs=some ds/\ds.length<=1000/\QN ds S1
theorem D4 (h:vr S (D3 QN)):wL vr S QN:=h
theorem Be (e:allD rs=some ds) (e2:MW ds.length 1000=true) (h:QN ds S):D3 QN rs S:=⟨ds,e,GW e2,h⟩
noncomputable def Bf (Q:VR->List Sl->Prop):List D->List Sl->Prop:=fun ds S1=>Q (.d (.lst ds)) S1
theorem D5 (h:vn S (Bf Q)):rR vn S Q:=h
theorem Bg (h:Q (.d (.lst ds)) S):Bf Q ds S:=h
noncomputable def kCB (w:List D->(D->Prop)->Prop) (Q:VR->List Sl->Prop):List VR->List Sl->Prop:=fun rs S1=>∃ds,gets S1 rs=some ds/\w ds fun d=>Q (.d d) S1
theorem Ge {w:List D->(D->Prop)->Prop} (h:vr S (kCB w Q)):vCB w vr S Q:=h
theorem D6 {w:List D->(D->Prop)->Prop} (e:gets S rs=some ds) (h:w ds fun d=>Q (.d d) S):kCB w Q rs S:=⟨ds,e,h⟩
theorem Bh {es:List D} (h:q (.int es.length)):AJ [.lst es] q:=⟨es,.inl rfl,h⟩
theorem Bi {es:List D} (h:q (.int es.length)):AJ [.tup es] q:=⟨es,.inr rfl,h⟩
theorem Gf (h:vr S (kCB p Q)):vFn p vr S Q:=h
noncomputable def D8 (p:List D->(D->Prop)->Prop) (QN:List D->List Sl->Prop):List VR->List Sl->Prop:=fun rs S1=>∃ds,gets S1 rs=some ds/\p ds fun d=>∃es,d=.lst es/\flats es=true/\QN es S1
theorem D9 (h:vr S (D8 p QN)):Dv p vr S QN:=h
theorem Bj (e:gets S rs=some ds) (h:p ds fun d=>∃es,d=.lst es/\flats es=true/\QN es S):D8 p QN rs S:=⟨ds,e,h⟩
noncomputable def Ea (j:Nat) (p:List Int->List D->(D->List Int->Prop)->Prop) (Q:VR->List Sl->Prop):List VR->List Sl->Prop:=fun rs S1=>∃i rs' ad ns ds,pick rs j=some (i,rs')/\S1[i]?=some (.pen ad ns)/\allD rs'=some ds/\p ns ds fun d ns'=>Q (.d d) (S1.set i (.pen ad ns'))
theorem Eb {j:Nat} {p:List Int->List D->(D->List Int->Prop)->Prop} (h:vr S (Ea j p Q)):AQ j p vr S Q:=h
theorem Bk {j:Nat} {p:List Int->List D->(D->List Int->Prop)->Prop} {rs rs':List VR} {i:Nat} {ad:Option Addr} (e1:pick rs j=some (i,rs')) (e2:S[i]?=some (.pen ad ns)) (e3:allD rs'=some ds) (h:p ns ds fun d ns'=>Q (.d d) (S.set i (.pen ad ns'))):Ea j p Q rs S:=⟨i,rs',ad,ns,ds,e1,e2,e3,h⟩
noncomputable def kq (QN:List D->List Sl->Prop):List VR->List Sl->Prop:=fun rs S1=>∃r ds,rs=[r]/\(get S1 r=some (.lst ds)\/get S1 r=some (.tup ds))/\flats ds=true/\QN ds S1
theorem sS (h:vr S (kq QN)):oC vr S QN:=h
theorem sT (e:get S r=some (.lst ds)) (f:flats ds=true) (h:QN ds S):kq QN [r] S:=⟨r,ds,rfl,.inl e,f,h⟩
theorem eK (e:get S r=some (.tup ds)) (f:flats ds=true) (h:QN ds S):kq QN [r] S:=⟨r,ds,rfl,.inr e,f,h⟩
noncomputable def sU (Q:VR->List Sl->Prop):List VR->List Sl->Prop:=fun rs S1=>∃r ds,rs=[r]/\(get S1 r=some (.lst ds)\/r=.d (.tup ds))/\flats ds=true/\Q (.d (.tup ds)) S1
theorem w4 (h:vr S (sU Q)):rT vr S Q:=h
theorem kr (e:get S r=some (.lst ds)) (f:flats ds=true) (h:Q (.d (.tup ds)) S):sU Q [r] S:=⟨r,ds,rfl,.inl e,f,h⟩
noncomputable def Ec (i:Nat) (Q:VR->List Sl->Prop):VR->List Sl->Prop:=fun r S1=>∃d ds,r=.d d/\S1[i]?=some (.own ds)/\ds.length<=1000000/\Q (.d .non) (S1.set i (.own (ds++[d])))
theorem Ed {i:Nat} (e:S[i]?=some (.own ds)) (h:va S (Ec i Q)):AN i va S Q:=⟨⟨ds,e⟩,h⟩
theorem m4 {i:Nat} (e:S[i]?=some (.own ds)) (e2:ds.length<=1000000) (h:Q (.d .non) (S.set i (.own (ds++[d])))):Ec i Q (.d d) S:=⟨d,ds,rfl,e,e2,h⟩
noncomputable def oM (i:Nat) (vi:VT) (W:aT):VR->List Sl->Prop:=fun r S1=>(∃s,S1[i]?=some s/\s.mut=true)/\vi S1 fun ri S2=>∃j,get S2 ri=some (.int j) /\
  ((∃ad ns k n,S2[i]?=some (.pen ad ns)/\ixN ns.length j=some k/\r=.d (.int n)/\W.nx (S2.set i (.pen ad (ns.set k n)))) \/
   (∃ds k d,S2[i]?=some (.own ds)/\ixN ds.length j=some k/\r=.d d/\W.nx (S2.set i (.own (ds.set k d)))))
noncomputable def oN (i:Nat) (W:aT) (r:VR):VR->List Sl->Prop:=fun ri S2=>∃j,get S2 ri=some (.int j) /\
  ((∃ad ns k n,S2[i]?=some (.pen ad ns)/\ixN ns.length j=some k/\r=.d (.int n)/\W.nx (S2.set i (.pen ad (ns.set k n)))) \/
   (∃ds k d,S2[i]?=some (.own ds)/\ixN ds.length j=some k/\r=.d d/\W.nx (S2.set i (.own (ds.set k d)))))
theorem w6 {i:Nat} (h:va S (oM i vb W)):sj i va vb W S:=h
theorem sV {i:Nat} {s:Sl} (e:S[i]?=some s) (m:s.mut=true) (h:vb S (oN i W r)):oM i vb W r S:=⟨⟨s,e,m⟩,h⟩
theorem qv {i:Nat} {ri:VR} {j n:Int} {ad:Option Addr} {k:Nat} (e1:get S ri=some (.int j)) (e2:S[i]?=some (.pen ad ns)) (e3:ixN ns.length j=some k) (h:W.nx (S.set i (.pen ad (ns.set k n)))):oN i W (.d (.int n)) ri S:=⟨j,e1,.inl ⟨ad,ns,k,n,e2,e3,rfl,h⟩⟩
noncomputable def kFor (g:VG) (b:VTS) (W:aT):List D->List Sl->Prop:=fun ds S1=>runFor g b W ds S1\/∃Iv:Nat->List Sl->Prop,Iv 0 S1/\(∀i d S2,ds[i]?=some d->Iv i S2->g d S2 fun S3=>b { W with nx:=Iv (i+1),ct:=Iv (i+1),bk:=W.nx } S3)/\∀S2,Iv ds.length S2->W.nx S2
theorem Ee {b:VTS} (h:vn S (kFor g b W)):DF vn g b W S:=h
theorem eM {b:VTS} (Iv:Nat->List Sl->Prop) (h0:Iv 0 S) (h1:∀i d S2,ds[i]?=some d->Iv i S2->g d S2 fun S3=>b ⟨Iv (i+1),W.rt,W.nx,Iv (i+1)⟩ S3) (h2:∀S2,Iv ds.length S2->W.nx S2):kFor g b W ds S:=.inr ⟨Iv,h0,h1,h2⟩
theorem w9 {b:VTS} (h:runFor g b W ds S):kFor g b W ds S:=.inl h
theorem Bl {b:VTS} (h:W.nx S):runFor g b W [] S:=h
theorem Bm {b:VTS} {r:List D} (h:g d S fun S3=>b ⟨runFor g b W r,W.rt,W.nx,runFor g b W r⟩ S3):runFor g b W (d::r) S:=h
theorem cE {b:VTS} {lo:Int} {n:Nat} (Iv:Nat->List Sl->Prop) (h0:Iv 0 S) (h1:∀i S2,i < n->Iv i S2->g (.int (lo+(i:Int))) S2 fun S3=>b ⟨Iv (i+1),W.rt,W.nx,Iv (i+1)⟩ S3) (h2:∀S2,Iv n S2->W.nx S2):kFor g b W (rg lo n) S:=
 .inr ⟨Iv,h0,fun i d S2 e p=>by
  have hi:i < n:=by have:=(List.getElem?_eq_some_iff.mp e).1;rwa [gI] at this
  rw [sm hi] at e
  cases e
  exact h1 i S2 hi p,fun S2 p=>h2 S2 (by rwa [gI] at p)⟩
noncomputable def Ef (QN:List D->List Sl->Prop):VR->List Sl->Prop:=fun r S1=>∃ds,r=.d (.lst ds)/\QN ds S1
theorem Eg (h:va S (Ef QN)):DC va S QN:=h
theorem Bn (h:QN ds S):Ef QN (.d (.lst ds)) S:=⟨ds,rfl,h⟩
noncomputable def Eh (QN:List D->List Sl->Prop):List VR->List Sl->Prop:=fun rs S1=>∃j:Int,rs=[.d (.int j)]/\-(2 ^ 62)<=j/\j < 2 ^ 62/\QN (rg 0 j.toNat) S1
noncomputable def Ei (QN:List D->List Sl->Prop):List VR->List Sl->Prop:=fun rs S1=>∃i j:Int,rs=[.d (.int i),.d (.int j)]/\(-(2 ^ 62)<=i/\i < 2 ^ 62/\-(2 ^ 62)<=j/\j < 2 ^ 62)/\QN (rg i (j-i).toNat) S1
theorem Ej (h:vr S (Eh QN)):DD vr S QN:=h
theorem Ek (h:vr S (Ei QN)):DE vr S QN:=h
theorem Bo {j:Int} (h1:0<=j/\j < 1000000) (h:QN (rg 0 j.toNat) S):Eh QN [.d (.int j)] S:=⟨j,rfl,by lia,by lia,h⟩
theorem Bp {i j:Int} (h1:-1000000<=i/\i < 1000000/\-1000000<=j/\j < 1000000) (h:QN (rg i (j-i).toNat) S):Ei QN [.d (.int i),.d (.int j)] S:=⟨i,j,rfl,⟨by lia,by lia,by lia,by lia⟩,h⟩
noncomputable def i7 (n:Nat) (ix:List Nat) (g:VG) (vt:VTT) (ve:VT) (QN:List D->List Sl->Prop):List D->List Sl->Prop:=fun ds S1=>ds.length<=1000000/\∃Iv:Nat->List D->List Sl->Prop,Iv 0 [] S1 /\
 (∀i d ys S2,ds[i]?=some d->Iv i ys S2->g d (bz n ix S2) fun S3=>vt S3 fun b S4=>if b=true then ve S4 fun r S5=>∃x,r=.d x/\Iv (i+1) (ys++[x]) (backS n ix S2 S5) else Iv (i+1) ys (backS n ix S2 S4)) /\
 ∀ys S2,Iv ds.length ys S2->QN ys S2
theorem Bq {n:Nat} {ve:VT} (h:vn S (i7 n ix g vt ve QN)):lO vn n ix g vt ve S QN:=h
noncomputable def fK (ve:VT) (A:D->List Sl->Prop) (B:List Sl->Prop):Bool->List Sl->Prop:=fun b S4=>if b=true then ve S4 fun r S5=>∃x,r=.d x/\A x S5 else B S4
noncomputable def m5 (A:D->List Sl->Prop):VR->List Sl->Prop:=fun r S5=>∃x,r=.d x/\A x S5
theorem oO {n:Nat} {ve:VT} (Iv:Nat->List D->List Sl->Prop) (hl:ds.length<=1000000) (h0:Iv 0 [] S)
  (h1:∀i d ys S2,ds[i]?=some d->Iv i ys S2->g d (bz n ix S2) fun S3=>vt S3 (fK ve (fun x S5=>Iv (i+1) (ys++[x]) (backS n ix S2 S5)) (fun S4=>Iv (i+1) ys (backS n ix S2 S4)))) (h2:∀ys S2,Iv ds.length ys S2->QN ys S2):i7 n ix g vt ve QN ds S:=⟨hl,Iv,h0,h1,h2⟩
theorem sW {n:Nat} {ve:VT} {lo:Int} {m:Nat} (Iv:Nat->List D->List Sl->Prop) (hl:m<=1000000) (h0:Iv 0 [] S)
  (h1:∀i ys S2,i < m->Iv i ys S2->g (.int (lo+(i:Int))) (bz n ix S2) fun S3=>vt S3 (fK ve (fun x S5=>Iv (i+1) (ys++[x]) (backS n ix S2 S5)) (fun S4=>Iv (i+1) ys (backS n ix S2 S4)))) (h2:∀ys S2,Iv m ys S2->QN ys S2):i7 n ix g vt ve QN (rg lo m) S:=
 ⟨by rw [gI];exact hl,Iv,h0,fun i d ys S2 e p=>by
  have hi:i < m:=by have:=(List.getElem?_eq_some_iff.mp e).1;rwa [gI] at this
  rw [sm hi] at e
  cases e
  exact h1 i ys S2 hi p,fun ys S2 p=>h2 ys S2 (by rwa [gI] at p)⟩
theorem Br (h:QT true S):yW S QT:=h
theorem eN {ve:VT} {A:D->List Sl->Prop} {B:List Sl->Prop} {b:Bool} (h1:b=true->ve S (m5 A)) (h2:b=false->B S):fK ve A B b S:=by
 cases b with
 | true=>show (if true=true then _ else _);rw [if_pos rfl];exact h1 rfl
 | false=>show (if false=true then _ else _);rw [if_neg Gw];exact h2 rfl
theorem qw {ve:VT} {A:D->List Sl->Prop} {B:List Sl->Prop} (h:ve S (m5 A)):fK ve A B true S:=eN (fun _=>h) fun e=>nomatch e
theorem lS {A:D->List Sl->Prop} {x:D} (h:A x S):m5 A (.d x) S:=⟨x,rfl,h⟩
theorem El {i j:Int} (h:q (.bl (decide (i=j)))):wEq (.int i) (.int j) q:=⟨.int i,.int j,rfl,rfl,rfl,by simpa using h⟩
theorem Em {i j:Int} (h:q (.bl (!decide (i=j)))):wNe (.int i) (.int j) q:=⟨.int i,.int j,rfl,rfl,rfl,by simpa using h⟩
theorem zb {c:String} {b:Bool} (hn:∀n,d≠.ty n) (e:qh (tyD d) c=some b) (h:q (.bl b)) (hE:isE d=false:=by with_unfolding_all rfl):ql [d,.ty c] q:=⟨d,c,b,rfl,hn,hE,e,h⟩
end
end VL
end
section
namespace VL
open PySem L2
section
variable {K:Gn} {X:Cx} {m:Bool} {e a b c o:Expr} {ta tb tc te:TE} {va vb vc:VT} {pos:Pos}
noncomputable def ku (w w':D->D->(D->Prop)->Prop) (va vb vc:VT):VT:=fun S Q=>va S fun ra S1=>vb S1 fun rb S2=>∃d1 d2,get S2 ra=some d1/\get S2 rb=some d2/\w d1 d2 fun d=>∃k,d=.bl k /\
 if k=true then vc S2 fun rc S3=>∃d2' d3,get S3 rb=some d2'/\get S3 rc=some d3/\w' d2' d3 fun d=>Q (.d d) S3 else Q (.d (.bl false)) S2
theorem sX {r r':R2} {w w':D->D->(D->Prop)->Prop} (L:cP K r w) (L':cP K r' w') (ha:SndE K false ta va) (hb:SndE K false tb vb) (hc:SndE K false tc vc):SndE K m (mK r r' ta tb tc) (ku w w' va vb vc):=by
 intro H0 Z σ H S Q C k t hq
 refine ha H0 Z σ H S _ _ k t fun x H1 ra S1 k1 st1 r1 t1=>?_
 refine hb H0 Z σ H1 S1 _ _ k1 t1 fun y H2 rb S2 k2 st2 r2 zr1=>?_
 obtain ⟨d1,d2,e1,e2,t2⟩:=zr1
 refine L x y H2 d1 d2 _ _ ((r1.step st2).get k2 e1) (r2.get k2 e2) t2 fun z dz zr1 rz=>?_
 obtain ⟨b,eb,q⟩:=zr1
 subst eb
 cases rz Any AnyF
 refine ⟨b,rfl,?_⟩
 cases b with
 | false=>rw [if_neg Gw] at q ⊢;exact hq _ H2 (.d (.bl false)) S2 k2 (st1.trans st2) (Rep.bl false) q
 | true=>
  rw [if_pos rfl] at q ⊢
  refine hc H0 Z σ H2 S2 _ _ k2 q fun u H3 rc S3 k3 st3 r3 zr1=>?_
  obtain ⟨d2',d3,g1,g2,t3⟩:=zr1
  exact L' y u H3 d2' d3 _ _ ((r2.step st3).get k3 g1) (r3.get k3 g2) t3 fun z dz q rz=>hq z H3 (.d dz) S3 k3 ((st1.trans st2).trans st3) (rz _ _) q
theorem lT {op op':CmpOp} {r r':R2} {w w':D->D->(D->Prop)->Prop} (ho:OpR X (HS op) r) (L:cP K r w) (ho':OpR X (HS op') r') (L':cP K r' w') (ha:VE K X false a ta va) (hb:VE K X false b tb vb) (hc:VE K X false c tc vc)
  (hm:lastMarks [op,op'] [b,c]=false:=by with_unfolding_all rfl):VE K X m (.Compare a [op,op'] [b,c] pos) (mK r r' ta tb tc) (ku w w' va vb vc):=⟨rq ho ho' ha.pe hb.pe hc.pe hm,sX L L' ha.snd hb.snd hc.snd⟩
theorem oP:∀{ps:List Addr} {nss:List (List Int)} {N:AP} {F:FP} {H:Hp},iL K (fun _=>none) ps nss->Reps K N F H (ps.map V.ref) (nss.map eT)
 | _,_,_,_,_,.nil=>.nil
 | _,_,_,_,_,.cons h t=>.cons (.tupK h Reps.ints) (oP t)
end
section
variable {S:List Sl} {Q:VR->List Sl->Prop} {QT:Bool->List Sl->Prop} {W:aT} {va vb:VT} {vt vu:VTT} {t u:VTS} {b:Bool}
theorem Bs (e:b=true) (h:vu S QT):qu vu QT b S:=by subst e;exact oH h
theorem Bt (e:b=false) (h:QT false S):qu vu QT b S:=by subst e;exact oI h
theorem En (e:b=false) (h:vu S QT):kOr vu QT b S:=by subst e;exact sP h
theorem Eo (e:b=true) (h:t W S):kIf t u W b S:=by subst e;exact sJ h
theorem Ep (e:b=false) (h:u W S):kIf t u W b S:=by subst e;exact sL h
theorem Gg (e:b=true) (h:va S Q):wY va vb Q b S:=by subst e;exact sQ (fun _=>h) fun e=>nomatch e
theorem Gh (e:b=false) (h:vb S Q):wY va vb Q b S:=by subst e;exact sQ (fun e=>nomatch e) fun _=>h
theorem lU {c:Bool} (e:c=true) (h:vb S Q):oJ vb Q (.d (.bl c)) S:=by subst e;exact oK (fun _=>h) fun e=>nomatch e
theorem zc {c:Bool} (e:c=false) (h:Q (.d (.bl false)) S):oJ vb Q (.d (.bl c)) S:=by subst e;exact oK (fun e=>nomatch e) fun _=>h
theorem Er {c:Bool} (e:c=false) (h:vb S Q):A8 vb Q (.d (.bl c)) S:=by subst e;exact Bb (fun e=>nomatch e) fun _=>h
end
section
variable {α:Type} {S:List Sl} {QN:List D->List Sl->Prop} {g:VG} {vt:VTT} {ve:VT} {n:Nat} {ix:List Nat}
theorem aL {β:Type} {xs:List α} {en:α->β} {i:Nat} {d:β} (h:(xs.map en)[i]?=some d):∃x,xs[i]?=some x/\d=en x/\x∈xs/\xs.take (i+1)=xs.take i++[x]:=by
 rw [GH] at h
 obtain ⟨x,h1,h2⟩:=Option.map_eq_some_iff.mp h
 refine ⟨x,h1,h2.symm,HR h1,?_⟩
 rw [MX,h1]
 rfl
theorem dh {xs:List α} {en f:α->D} {p:α->Bool} (hl:xs.length<=1000000)
  (h:∀x∈xs,∀(A:D->List Sl->Prop) (B:List Sl->Prop),(∀S5,backS n ix S S5=S->p x=true->A (f x) S5)->(∀S5,backS n ix S S5=S->p x=false->B S5)->g (en x) (bz n ix S) fun S3=>vt S3 (fK ve A B))
  (h2:QN ((xs.filter p).map f) S):i7 n ix g vt ve QN (xs.map en) S:=by
 refine oO (fun i ys S'=>S'=S/\ys=((xs.take i).filter p).map f) (by simpa using hl) ⟨rfl,by simp⟩ ?_ ?_
 ·rintro i d ys S2 e ⟨rfl,rfl⟩
  obtain ⟨x,h1,rfl,hm,ht⟩:=aL e
  refine h x hm _ _ (fun S5 e5 hp=>⟨e5,?_⟩) (fun S5 e5 hp=>⟨e5,?_⟩)
  ·rw [ht,JS,HA]
   simp [hp]
  ·rw [ht,JS,HA]
   simp [hp]
 ·rintro ys S2 ⟨rfl,rfl⟩
  rw [Gx,HK]
  exact h2
theorem comp_map {xs:List α} {en f:α->D} (hl:xs.length<=1000000)
  (h:∀x∈xs,∀(A:D->List Sl->Prop) (B:List Sl->Prop),(∀S5,backS n ix S S5=S->A (f x) S5)->g (en x) (bz n ix S) fun S3=>vt S3 (fK ve A B))
  (h2:QN (xs.map f) S):i7 n ix g vt ve QN (xs.map en) S:=by
 refine dh (p:=fun _=>true) hl (fun x hx A B hA _=>h x hx A B fun S5 e=>hA S5 e rfl) ?_
 rwa [List.filter_eq_self.mpr (by intros;rfl)]
end
theorem xb {p:Prop} [Decidable p] {t u:VTS} {W:aT} (P:List Sl->Prop) (fin:∀S',P S'->W.nx S') (h1:∀nx,(∀S',P S'->nx S')->p->t ⟨nx,W.rt,W.bk,W.ct⟩ S) (h2:∀nx,(∀S',P S'->nx S')->¬p->u ⟨nx,W.rt,W.bk,W.ct⟩ S):kIf t u W (decide p) S:=
 cw (fun h=>h1 W.nx fin h) fun h=>h2 W.nx fin h
section
variable {α:Type} [DecidableEq α] {n:Nat} {f:α->D} {x y:α} {l:List α} {q:D->Prop}
theorem zd (e:Enc n f) (hx:x∉l) (h:q (.bl true)) (hn:n+1<=40:=by decide):mY true (f x) (.lst (l.map f)) q:=lR e (by rw [decide_eq_false hx];exact h) hn
theorem ze (e:Enc n f) (hx:x∈l) (h:q (.bl false)) (hn:n+1<=40:=by decide):mY true (f x) (.lst (l.map f)) q:=lR e (by rw [decide_eq_true hx];exact h) hn
theorem oQ (e:Enc n f) (hx:x=y) (h:q (.bl true)) (hn:n<=40:=by decide):jt false (f x) (f y) q:=yX e (by rw [decide_eq_true hx];exact h) hn
theorem sY (e:Enc n f) (hx:x≠y) (h:q (.bl false)) (hn:n<=40:=by decide):jt false (f x) (f y) q:=yX e (by rw [decide_eq_false hx];exact h) hn
theorem sZ (e:Enc n f) (hx:x=y) (h:q (.bl false)) (hn:n<=40:=by decide):jt true (f x) (f y) q:=DG e (by rw [decide_eq_true hx];exact h) hn
end
end VL
end
section
namespace L2
open PySem PySem.Spec PyProof.Rows
open PySem.SeqAt PySem.MeetsSeq PySem.MeetsSeq2 PySem.MeetsSeq3
open PySem.AutoSeq1 (wpAny_loadPart')
noncomputable def eO (e c:Nat->Bool) (m n:Nat):Nat->Nat->Bool
 | 0,_=>decide (m < n)
 | f+1,i=>if i < m/\i < n then (if e i=true then eO e c m n f (i+1) else c i) else decide (m < n)
noncomputable def m6 (A:HQ) (s:Gv) (y x:Gs) (b:Bool):Prop:=∀(prog:G2) (w:HJ) (E:Gs->Gv->Prop) (Q:Gs->Gv->Prop),Q (.bool b) s->Hj (Ha prog w) A (richCompare .Lt y x) Q E s
theorem oR {prog:G2} {w:HJ} {A:HQ} {R:NS->Gv->Prop} {s:Gv} {p q:Addr} {i k:Int} {S:PySem.Spec} (m:Meets (Builtin.«list.__eq__.loop» ⟨[.ref p,.ref q,Mz i,Mz k],[]⟩) S) (h:S A R s) :
  (Code.builtin "list.__eq__.loop" ⟨[.ref p,.ref q,Mz i,Mz k],[]⟩).quiet=true/\JB (Ha prog w) A (.builtin "list.__eq__.loop" ⟨[.ref p,.ref q,Mz i,Mz k],[]⟩) R s:=by
 refine ⟨Kt plain_eq_loop _,LQ entry_eq_loop ?_⟩
 have z:=m prog w A R s h
 rwa [L3 plain_eq_loop]
structure Pair2 (p q:Addr) (us vs:Array Gs) (e c:Nat->Bool) (A:HQ) (s:Gv):Prop where
 one:∃n d sl,s.heap.get? p=some { cls:=.type "list",dict:=d,data:=.seq us n,slots:=sl }
 two:∃n d sl,s.heap.get? q=some { cls:=.type "list",dict:=d,data:=.seq vs n,slots:=sl }
 place:∀j (g1:j < us.size) (g2:j < vs.size),EqAt A.in1 s us[j] vs[j] (e j)/\m6 A.in1 s us[j] vs[j] (c j)
theorem xf (p q:Addr) (us vs:Array Gs) (e c:Nat->Bool):∀f i:Nat,us.size-i<=f->i<=us.size ->
  Meets (Builtin.«list.__eq__.loop» ⟨[.ref p,.ref q,Mz i,Mz 0],[]⟩) (fun A R s=>Pair2 p q us vs e c A s/\R (.ok (.ret (.bool (eO e c us.size vs.size f i)))) s):=by
 intro f
 induction f using Nat.strongRecOn with
 | _ f IH=>
  rintro i hf hi prog w A R s ⟨P,h⟩
  obtain ⟨⟨n1,d1,s1,x1⟩,⟨n2,d2,s2,x2⟩,pl⟩:=P
  obtain ⟨hp,gn,dr,tk,os⟩:=s
  have P:Pair2 p q us vs e c A ⟨hp,gn,dr,tk,os⟩:=⟨⟨n1,d1,s1,x1⟩,⟨n2,d2,s2,x2⟩,pl⟩
  wp_walk using Io x1,Io x2
  by_cases g:i < us.size/\i < vs.size
  ·obtain ⟨g1,g2⟩:=g
   have y1:us[((i:Nat):Int).toNat]?=some us[i]:=by simp [g1]
   have y2:vs[((i:Nat):Int).toNat]?=some vs[i]:=by simp [g2]
   cases f with
   | zero=>lia
   | succ f=>
    rw [eO,if_pos ⟨g1,g2⟩] at h
    rw [y1,y2]
    refine Gp ((pl i g1 g2).1 prog w _ _ ?_)
    by_cases hb:e i=true
    ·rw [if_pos hb] at h
     rw [hb]
     wp_walk
     exact oR (IH f (Ig f) (i+1) (by lia) g1) ⟨P,h⟩
    ·rw [if_neg hb] at h
     rw [Bool.eq_false_iff.mpr hb]
     have less:=(pl i g1 g2).2 prog w
     wp_walk using Io x1,Io x2
     rw [y1,y2]
     wp_walk using less
     exact h
  ·have h:R (.ok (.ret (.bool (decide (us.size < vs.size))))) ⟨hp,gn,dr,tk,os⟩:=by
    cases f with
    | zero=>exact h
    | succ f=>rwa [eO,if_neg g] at h
   by_cases g1:i < us.size
   ·have y2:vs[((i:Nat):Int).toNat]?=none:=by simp;lia
    rw [y2]
    cases hu:us[((i:Nat):Int).toNat]? <;> (wp_walk using Io x1,Io x2;exact h)
   ·have y1:us[((i:Nat):Int).toNat]?=none:=by simp;lia
    rw [y1]
    wp_walk using Io x1,Io x2
    exact h
theorem xg (p q:Addr) (us vs:Array Gs) (e c:Nat->Bool) :
  Meets (Builtin.«list.__lt__» ⟨[.ref p,.ref q],[]⟩) (fun A R s=>Pair2 p q us vs e c A s/\R (.ok (.ret (.bool (eO e c us.size vs.size us.size 0)))) s)
 | prog,w,A,R,s,⟨P,h⟩=>by
  obtain ⟨⟨n1,d1,s1,x1⟩,⟨n2,d2,s2,x2⟩,pl⟩:=id P
  obtain ⟨hp,gn,dr,tk,os⟩:=s
  have kind:=AutoSeq1.sub_list_list
  wp_walk using Io x1,Io x2
  exact oR (xf p q us vs e c us.size 0 (Gz _) (IG _)) ⟨P,h⟩
theorem m7 {A:HQ} {s:Gv} {p q:Addr} {us vs:Array Gs} {e c:Nat->Bool} (hl:s.heap.IsList p us) (hb:s.heap.IsList q vs) (hu:A.units < Jt)
  (he:∀j (g1:j < us.size) (g2:j < vs.size),EqAt A.in1 s us[j] vs[j] (e j)/\m6 A.in1 s us[j] vs[j] (c j)):m6 A s (.ref p) (.ref q) (eO e c us.size vs.size us.size 0):=fun prog w E Q h=>by
 obtain ⟨⟨c1,d1,da1,s1⟩,o1,k1,n1,r1⟩:=id hl
 obtain ⟨⟨c2,d2,da2,s2⟩,o2,k2,n2,r2⟩:=id hb
 simp only at k1 r1 k2 r2
 subst k1 r1 k2 r2
 exact richCompare_meets_room (op:=.Lt) ⟨_,o1,rfl⟩ ⟨_,o2,rfl⟩ F.slot_list_lt F.entry_list_lt (F.args_list_lt_2 _ _) (xg p q us vs e c)
  ⟨⟨⟨_,_,_,o1⟩,⟨_,_,_,o2⟩,he⟩,show LZ _≠L4/\Q (.bool _) s from ⟨(fun x=>nomatch x),h⟩⟩ hu
section
variable {prog:G2} {w:HJ} {A:HQ} {E:Gs->Gv->Prop}
theorem i8 {s:Gv} {args:Args} {R:NS->Gv->Prop} (h:Hj (Ha prog w) A.in1 (Builtin.«min.loop» args) (fun fin s'=>match fin with | .done f=>R (.ok f) s' | .again c=>c.quiet=true/\JB (Ha prog w) A c R s') (fun x s'=>R (.error x) s') s) :
  JB (Ha prog w) A (.builtin "min.loop" args) R s:=
 LQ F.entry_min_loop (by rwa [L3 F.plain_min_loop])
theorem m8 {s₀:Gv} {us:Array Gs} {l I S:Addr} {bt:Nat->Nat->Bool} (hI:s₀.heap.objs.size<=I) (hS0:s₀.heap.objs.size<=S) (hSI:S≠I) (hSl:S≠l)
  (W:Walks prog w A.in1 I [I,l] [I] us.size (fun i v=>us[i]?=some v) (fun i h=>h.IsListIter I l i/\h.IsList l us))
  (cmp:∀(s':Gv),(∀b o,s₀.heap.get? b=some o->s'.heap.get? b=some o)->∀i j vi vj,us[i]?=some vi->us[j]?=some vj->m6 A.in1 s' vi vj (bt i j))
  {R:NS->Gv->Prop}:∀(k j:Nat) (s:Gv) (vb:Gs) (c:Nat),us.size-(j+1)=k->j+1<=us.size->(s.heap.IsListIter I l (j+1)/\s.heap.IsList l us)->us[KE bt j]?=some vb ->
  s.heap.get? S=some { cls:=.type "list",dict:=none,data:=.seq #[vb,vb] c,slots:=#[] }->(∀b o,s₀.heap.get? b=some o->s.heap.get? b=some o) ->
  (∀v s',us[KE bt (us.size-1)]?=some v->(∀b o,s₀.heap.get? b=some o->s'.heap.get? b=some o)->s'.os=s.os->s'.gens=s.gens->s'.drawn=s.drawn->R (.ok (.ret v)) s')->JB (Ha prog w) A (.builtin "min.loop" ⟨[.ref I,.none,.ref S],[]⟩) R s:=by
 have nm:(toString "min"++toString ".loop":String)="min.loop":=by decide
 have old:∀{b:Addr} {o:Obj},s₀.heap.get? b=some o->b≠I/\b≠S:=fun {b o} e=>⟨fun z=>absurd (z▸GI e) (Nat.not_lt.mpr hI),fun z=>absurd (z▸GI e) (Nat.not_lt.mpr hS0)⟩
 intro k
 induction k with
 | zero=>
  intro j s vb c hk hj hst hv hS hkeep hR
  have hin:j+1=us.size:=by lia
  apply i8
  refine Gp (m:=seqItems? (.ref S)) (Mf hS rfl ?_)
  refine Gp (m:=tryCatch (Ma (.ref I)) _) (K5 (W.done s _ _ (hin▸hst) fun h' tk kp=>?_))
  have hS':=kp S _ (by simpa using hSI) hS
  refine Gp (m:=updateSeq S (fun _=>#[])) (LR hS' rfl (Gp (Lv (GA ?_))))
  refine hR vb _ (by rw [<- hin];exact hv) (fun b o e=>?_) rfl rfl rfl
  exact (HB _ _ (old e).2.symm).trans (kp b o (by simpa using (old e).1) (hkeep b o e))
 | succ k ih=>
  intro j s vb c hk hj hst hv hS hkeep hR
  have hlt:j+1 < us.size:=by lia
  apply i8
  refine Gp (m:=seqItems? (.ref S)) (Mf hS rfl ?_)
  refine Gp (m:=tryCatch (Ma (.ref I)) _) (K5 (W.item (j+1) s _ _ hlt hst fun v h' tk hP hst' kp=>?_))
  have hS':=kp S _ (by simpa using hSI) hS
  have keep':∀b o,s₀.heap.get? b=some o->h'.get? b=some o:=fun b o e=>kp b o (by simpa using (old e).1) (hkeep b o e)
  refine Gp (m:=tryCatch (Jj [v,v] (richCompare .Lt v vb >>= _)) _) (K5 (Hx (Gp (cmp { s with heap:=h',toks:=tk } keep' (j+1) (KE bt j) v vb hP hv prog w _ _ ?_))))
  refine Gp (Hx (IA (Gp (Lv (GA ?_)))))
  cases hb:bt (j+1) (KE bt j) with
  | true=>
   simp only [if_true]
   refine Gp (LR hS' rfl (Gp (Lv ?_)))
   rw [nm]
   refine GA ⟨Kt F.plain_min_loop _,ih (j+1) _ v _ (by lia) hlt (W.frame _ _ _ hst' fun b hbf o e=>?_) (by simp only [KE,hb,if_true];exact hP) (Ki _ hS' rfl) (fun b o e=>?_) hR⟩
   ·refine (HB _ _ (fun z:S=b=>?_)).trans e
    subst z
    simp at hbf
    exact hbf.elim hSI hSl
   ·exact (HB _ _ (old e).2.symm).trans (keep' b o e)
  | false=>
   simp only [Hz,if_false]
   refine Gp (Lv ?_)
   rw [nm]
   exact GA ⟨Kt F.plain_min_loop _,ih (j+1) _ vb c (by lia) hlt hst' (by simp only [KE,hb,Hz,if_false];exact hv) hS' keep' hR⟩
theorem lV {s₀:Gv} {us:Array Gs} {l I S:Addr} {bt:Nat->Nat->Bool} (hI:s₀.heap.objs.size<=I) (hS0:s₀.heap.objs.size<=S) (hSI:S≠I) (hSl:S≠l) (hn:0 < us.size)
  (W:Walks prog w A.in1 I [I,l] [I] us.size (fun i v=>us[i]?=some v) (fun i h=>h.IsListIter I l i/\h.IsList l us))
  (cmp:∀(s':Gv),(∀b o,s₀.heap.get? b=some o->s'.heap.get? b=some o)->∀i j vi vj,us[i]?=some vi->us[j]?=some vj->m6 A.in1 s' vi vj (bt i j))
  {R:NS->Gv->Prop} {s:Gv} {c:Nat} (hst:s.heap.IsListIter I l 0/\s.heap.IsList l us) (hS:s.heap.get? S=some { cls:=.type "list",dict:=none,data:=.seq #[] c,slots:=#[] }) (hkeep:∀b o,s₀.heap.get? b=some o->s.heap.get? b=some o)
  (hR:∀v s',us[KE bt (us.size-1)]?=some v->(∀b o,s₀.heap.get? b=some o->s'.heap.get? b=some o)->s'.os=s.os->s'.gens=s.gens->s'.drawn=s.drawn->R (.ok (.ret v)) s'):JB (Ha prog w) A (.builtin "min.loop" ⟨[.ref I,.none,.ref S],[]⟩) R s:=by
 have nm:(toString "min"++toString ".loop":String)="min.loop":=by decide
 have old:∀{b:Addr} {o:Obj},s₀.heap.get? b=some o->b≠I/\b≠S:=fun {b o} e=>⟨fun z=>absurd (z▸GI e) (Nat.not_lt.mpr hI),fun z=>absurd (z▸GI e) (Nat.not_lt.mpr hS0)⟩
 apply i8
 refine Gp (m:=seqItems? (.ref S)) (Mf hS rfl ?_)
 refine Gp (m:=tryCatch (Ma (.ref I)) _) (K5 (W.item 0 s _ _ hn hst fun v h' tk hP hst' kp=>?_))
 have hS':=kp S _ (by simpa using hSI) hS
 refine Gp (m:=updateSeq S (fun _=>#[v,v])) (LR hS' rfl ?_)
 rw [nm]
 refine GA ⟨Kt F.plain_min_loop _,m8 hI hS0 hSI hSl W cmp _ 0 _ v _ rfl hn (W.frame _ _ _ hst' fun b hbf o e=>?_) hP (Ki _ hS' rfl) (fun b o e=>?_) hR⟩
 ·refine (HB _ _ (fun z:S=b=>?_)).trans e
  subst z
  simp at hbf
  exact hbf.elim hSI hSl
 ·exact (HB _ _ (old e).2.symm).trans (kp b o (by simpa using (old e).1) (hkeep b o e))
theorem tf {s:Gv} {us:Array Gs} {l:Addr} {bt:Nat->Nat->Bool} {Q:Gs->Gv->Prop} (hh:A.handled=none) (hl:s.heap.IsList l us) (hn:0 < us.size)
  (cmp:∀(s':Gv),(∀b o,s.heap.get? b=some o->s'.heap.get? b=some o)->∀i j vi vj,us[i]?=some vi->us[j]?=some vj->m6 A.in1 s' vi vj (bt i j))
  (h:∀v s',us[KE bt (us.size-1)]?=some v->(∀b o,s.heap.get? b=some o->s'.heap.get? b=some o)->s'.os=s.os->s'.gens=s.gens->s'.drawn=s.drawn->Q v s'):Hj (Ha prog w) A (call (.builtin "min") [.ref l]) Q E s:=by
 have nm:(toString "min"++toString ".loop":String)="min.loop":=by decide
 have hlt:l < s.heap.objs.size:=let ⟨_,e,_⟩:=hl;GI e
 refine call_function_tree F.kind_min F.plain_min F.entry_min (F.args_min1 _) (Gp (m:=Builtin.Builtins.bindParams "min" ["key","default"] 0 ⟨[],[]⟩) (wpAny_of_eq rfl ?_))
 refine Gp (GA (Gp (MP hl (Gp (HE ?_)))))
 rw [nm]
 generalize hP:s.heap.push { cls:=.type "list_iterator",data:=.fields #[.ref l,.int 0 0] }=P1
 have hz:P1.objs.size=s.heap.objs.size+1:=by rw [<- hP,Kf]
 have k1:∀b o,s.heap.get? b=some o->(P1.push { cls:=.type "list",dict:=none,data:=.seq #[] }).get? b=some o:=fun b o e=>Gu _ (hP▸Gu _ e)
 have it:(P1.push { cls:=.type "list",dict:=none,data:=.seq #[] }).IsListIter s.heap.objs.size l 0:=⟨_,Gu _ (hP▸GQ _ rfl),rfl,rfl⟩
 have hl1:(P1.push { cls:=.type "list",dict:=none,data:=.seq #[] }).IsList l us:=let ⟨o,e,r⟩:=hl;⟨o,k1 _ _ e,r⟩
 have ne1:P1.objs.size≠s.heap.objs.size:=by rw [hz];exact Nat.succ_ne_self _
 have ne2:P1.objs.size≠l:=by rw [hz];exact Nf (MY hlt)
 exact GA ⟨Kt F.plain_min_loop _,lV (s₀:=s) (I:=s.heap.objs.size) (S:=P1.objs.size) (Gz _) (by rw [hz];exact JC _) ne1 ne2 hn (Walks.list (A:=A.in1) hh _ l (Hn hlt) us) cmp ⟨it,hl1⟩ (GQ _ rfl) k1 h⟩
end
theorem oS {bt:Nat->Nat->Bool} (irr:∀i,bt i i=false) (tr:∀i j k,bt i j=true->bt j k=true->bt i k=true):∀k,KE bt k<=k/\∀j,j<=k->bt j (KE bt k)=false
  | 0 => ⟨Gz _, fun j hj => by (obtain rfl : j = 0 := by lia); exact irr 0⟩
  | k+1=>by
    obtain ⟨h1,h2⟩:=oS irr tr k
    rw [KE]
    cases hb:bt (k+1) (KE bt k) with
    | true=>
      rw [if_pos rfl]
      refine ⟨Gz _,fun j hj=>?_⟩
      by_cases e:j=k+1
      · subst e;exact irr _
      · cases hq:bt j (k+1) with
        | false=>rfl
        | true=>have:=tr j (k+1) _ hq hb;rw [h2 j (by lia)] at this;cases this
    | false=>
      rw [if_neg Gw]
      refine ⟨by lia,fun j hj=>?_⟩
      by_cases e:j=k+1
      · subst e;exact hb
      · exact h2 j (by lia)
end L2
end
section
namespace VL
open PySem L2 PySem.SeqAt PySem.Spec PyProof.Rows
theorem jI {α β:Type} {F:α->β->Prop}:∀{l:List α} {m:List β},Mt F l m->∀{j:Nat} {a:α} {b:β},l[j]?=some a->m[j]?=some b->F a b
 | _,_,.nil,_,_,_,h,_=>by simp at h
 | _,_,.cons h t,0,a,b,h1,h2=>by simp at h1 h2;subst h1 h2;exact h
 | _,_,.cons h t,j+1,a,b,h1,h2=>jI t (j:=j) (by simpa using h1) (by simpa using h2)
section
variable {K:Gn} {X:Cx} {m:Bool} {e a b:Expr} {ta tb te:TE} {va vb:VT} {tr:TA} {vr:VTA} {pos p:Pos}
noncomputable def Es (va:VT):VTT:=fun S Q=>va S fun r S1=>∃d b,get S1 r=some d/\tru d=some b/\Q b S1
theorem Bu (hK:X.K=K) (h:VE K X false e te va) (he:∀whole,Nd e X.env whole=(do let v <- whole;JA e.pos;Jj [v] (truthy v)):=by intro _;rfl):VTe K X e (fun σ H Q=>te σ H fun x H'=>∃k,TruV K x H' k/\Q k H') (Es va):=
 ⟨by subst hK;exact rA h.pe he,fun H0 Z σ H S Q C k t hc=>h.snd H0 Z σ H S _ _ k t fun v H1 r S1 k1 st1 rr zq1=>by
  obtain ⟨d,b,e1,e2,q⟩:=zq1
  refine ⟨b,?_,hc b H1 S1 k1 st1 q⟩
  have r1:=rr.get k1 e1
  cases d with
  | int i=>cases r1;cases e2;rfl
  | bl i=>cases r1;cases e2;rfl
  | non=>cases r1;cases e2;rfl
  | str i=>cases e2
  | ty i=>cases e2
  | dic ks i=>cases e2
  | exc i=>cases e2
  | oth i=>cases e2
  | dib i j=>cases e2
  | tup ds=>obtain ⟨a,vs,rfl,hq,rr'⟩:=r1.sqT;cases e2;exact .inr (.inl ⟨vs,hq,by cases rr' <;> rfl⟩)
  | lst ds=>obtain ⟨a,vs,rfl,hq,rr'⟩:=r1.sqL;cases e2;exact .inl ⟨vs,hq,by cases rr' <;> rfl⟩⟩
noncomputable def Et (i:Nat) (t:VTN):VTN:=fun S Q=>(∃ds,S[i]?=some (.own ds))/\t S fun es S1=>∃ds,S1[i]?=some (.own ds)/\ds.length+es.length<=1000000/\Q (ds++es) S1
theorem tj {t:VTN} (i:Nat) (ho:PE X a (bZ i)) (h:VN K X b tb t):VN K X (.BinOp a .Add b pos) (tOp AA (bZ i) tb) (Et i t):=⟨iG rG ho h.pe,fun H0 Z σ H S Q C k zq1 hc=>by
 obtain ⟨⟨ds0,e0⟩,t⟩:=zq1
 obtain ⟨o,g1,c,us,rfl,g2,g3,g4⟩:=k.ownAt e0
 refine ⟨.ref c,g1,h.snd H0 Z σ H S _ _ k t fun a' vs es H1 H' S1 k1 st1 ha hg hl rr zr1=>?_⟩
 obtain ⟨ds,e1,hlen,q⟩:=zr1
 obtain ⟨o',g1',c',us',rfl,g2',g3',g4'⟩:=k1.ownAt e1
 rw [g1] at g1';cases g1'
 have k2:=k1.grow hg
 have g2'':H' c=some (.lst us'):=by rw [hg c (by simp [g2'])];exact g2'
 refine ⟨c,a',us',vs,rfl,rfl,g2'',hl,by rw [g4'.length,rr.length,Hv];lia,fun p hp=>?_⟩
 refine hc p _ _ H' _ S1 k2 (st1.trans (.grow hg)) hp (aI hp) ay (Reps.append ?_ ?_) q
 ·exact bT hp ((g4'.mono (fun b n e=>⟨n,hg b e⟩) fun _ x=>x).mono (fun _ n _=>⟨n,rfl⟩) fun _ x _=>x)
 ·exact bT hp (rr.mono (fun _ n _=>⟨n.1,rfl⟩) fun _ x _=>x)⟩
noncomputable abbrev VO:=List Sl->(Option Int->List Sl->Prop)->Prop
noncomputable def Gi (K:Gn) (te:TO) (t:VO):Prop:=∀H0 Z σ H S Q C,OK K H0 Z σ H S->t S Q->(∀o H' S',OK K H0 Z σ H' S'->Step Z σ S H σ S' H'->Q o S'->C o H')->te σ H C
structure VOe (K:Gn) (X:Cx) (e:Option Expr) (te:TO) (t:VO):Prop where
 pe:PO X e te
 snd:Gi K te t
noncomputable def Eu:VO:=fun S Q=>Q none S
noncomputable def tu (va:VT):VO:=fun S Q=>va S fun r S1=>∃i,r=.d (.int i)/\Q (some i) S1
theorem iq:VOe K X none om Eu:=⟨vZ,fun _ _ _ _ _ _ _ k h q=>q _ _ _ k .refl h⟩
theorem fq (h:VE K X false e te va):VOe K X (some e) (yM te) (tu va):=⟨wd h.pe,fun H0 Z σ H S Q C k t hc=>h.snd H0 Z σ H S _ _ k t fun v H1 r S1 k1 st1 rr zq1=>by
 obtain ⟨i,e,q⟩:=zq1
 subst e
 cases (show Rep K _ _ H1 v (.int i) from rr)
 exact ⟨i,rfl,hc _ H1 S1 k1 st1 q⟩⟩
noncomputable def cutD (ds:List D) (lo hi:Option Int):List D:=(ds.drop (HT.sIx ds.length 0 lo)).take (HT.sIx ds.length ds.length hi-HT.sIx ds.length 0 lo)
theorem lW {N:AP} (r:Reps K N F H vs ds) (lo hi:Option Int):Reps K N F H (j5 vs lo hi) (cutD ds lo hi):=by
 unfold j5 cutD
 rw [r.length]
 exact (r.drop _).take _
noncomputable def vSl (va:VT) (vl vh:VO):VTN:=fun S Q=>va S fun r S1=>vl S1 fun lo S2=>vh S2 fun hi S3=>∃ds,get S3 r=some (.lst ds)/\flats ds=true/\Q (cutD ds lo hi) S3
theorem fL:∀{ds:List D} (n:Nat),flats ds=true->flats (ds.drop n)=true
 | _,0,h=>by simpa using h
 | [],_+1,h=>by simpa using h
 | d::r,n+1,h=>by simp only [flats,G5] at h;simpa using fL n h.2
theorem fM:∀{ds:List D} (n:Nat),flats ds=true->flats (ds.take n)=true
 | _,0,h=>by simp [flats]
 | [],_+1,h=>by simpa using h
 | d::r,n+1,h=>by simp only [flats,G5] at h;simp [flats,h.1,fM n h.2]
theorem oT {lo hi:Option Expr} {tl th:TO} {vl vh:VO} {p2:Pos} (hK:X.K=K) (h:VE K X false e te va) (hl:VOe K X lo tl vl) (hh:VOe K X hi th vh):VN K X (.Subscript e (.Slice lo hi none p2) pos) (tSl (Di K) te tl th) (vSl va vl vh):=
 ⟨by subst hK;exact ly wj h.pe hl.pe hh.pe,fun H0 Z σ H S Q C k t hc=>h.snd H0 Z σ H S _ _ k t fun v H1 r S1 k1 st1 rr t1=>hl.snd H0 Z σ H1 S1 _ _ k1 t1 fun lo H2 S2 k2 st2 t2=>hh.snd H0 Z σ H2 S2 _ _ k2 t2 fun hi H3 S3 k3 st3 zq1=>by
  obtain ⟨ds,e,f,q⟩:=zq1
  obtain ⟨a,vs,rfl,hq,rs⟩:=((rr.step st2).step st3).elems k3 e
  exact ⟨a,vs,rfl,hq,fun p hp=>hc p _ _ H3 _ S3 k3 ((st1.trans st2).trans st3) hp (aI hp) ay (e9 hp (lW rs lo hi) (by unfold cutD;exact fM _ (fL _ f))) q⟩⟩
end
end VL
end
section
namespace VL
open PySem L2
section
variable {S:List Sl} {Q:VR->List Sl->Prop} {QT:Bool->List Sl->Prop} {QN:List D->List Sl->Prop} {W:aT} {va vb:VT} {vr:VTA} {vn:VTN} {vl vh:VO}
@[irreducible] noncomputable def xh (i:Nat) (QN:List D->List Sl->Prop):List D->List Sl->Prop:=fun es S1=>∃ds,S1[i]?=some (.own ds)/\ds.length+es.length<=1000000/\QN (ds++es) S1
theorem Ew {i:Nat} (e:S[i]?=some (.own ds)) (h:vn S (xh i QN)):Et i vn S QN:=by unfold xh at h;exact ⟨⟨ds,e⟩,h⟩
theorem m9 {i:Nat} {es ds:List D} (e:S[i]?=some (.own ds)) (hl:ds.length+es.length<=1000000) (h:QN (ds++es) S):xh i QN es S:=by unfold xh;exact ⟨ds,e,hl,h⟩
@[irreducible] noncomputable def xi (QT:Bool->List Sl->Prop):VR->List Sl->Prop:=fun r S1=>∃d b,get S1 r=some d/\tru d=some b/\QT b S1
theorem Ex (h:va S (xi QT)):Es va S QT:=by unfold xi at h;exact h
theorem tw {b:Bool} (e:get S r=some d) (e2:tru d=some b) (h:QT b S):xi QT r S:=by unfold xi;exact ⟨d,b,e,e2,h⟩
@[irreducible] noncomputable def xj (vl vh:VO) (QN:List D->List Sl->Prop):VR->List Sl->Prop:=fun r S1=>vl S1 fun lo S2=>vh S2 fun hi S3=>∃ds,get S3 r=some (.lst ds)/\flats ds=true/\QN (cutD ds lo hi) S3
@[irreducible] noncomputable def xk (r:VR) (vh:VO) (QN:List D->List Sl->Prop):Option Int->List Sl->Prop:=fun lo S2=>vh S2 fun hi S3=>∃ds,get S3 r=some (.lst ds)/\flats ds=true/\QN (cutD ds lo hi) S3
@[irreducible] noncomputable def tx (r:VR) (lo:Option Int) (QN:List D->List Sl->Prop):Option Int->List Sl->Prop:=fun hi S3=>∃ds,get S3 r=some (.lst ds)/\flats ds=true/\QN (cutD ds lo hi) S3
theorem Gj (h:va S (xj vl vh QN)):vSl va vl vh S QN:=by unfold xj at h;exact h
theorem Bv (h:vl S (xk r vh QN)):xj vl vh QN r S:=by unfold xj;unfold xk at h;exact h
theorem Bw {lo:Option Int} (h:vh S (tx r lo QN)):xk r vh QN lo S:=by unfold xk;unfold tx at h;exact h
theorem Bx {lo hi:Option Int} (e:get S r=some (.lst ds)) (f:flats ds=true) (h:QN (cutD ds lo hi) S):tx r lo QN hi S:=by unfold tx;exact ⟨ds,e,f,h⟩
theorem ir {lo hi:Option Int} {ds es:List D} (e:get S r=some (.lst ds)) (f:flats ds=true) (e2:cutD ds lo hi=es) (h:QN es S):tx r lo QN hi S:=Bx e f (by rw [e2];exact h)
variable {QO:Option Int->List Sl->Prop}
theorem By (h:QO none S):Eu S QO:=h
@[irreducible] noncomputable def kVo (QO:Option Int->List Sl->Prop):VR->List Sl->Prop:=fun r S1=>∃i,r=.d (.int i)/\QO (some i) S1
theorem tD (h:va S (kVo QO)):tu va S QO:=by unfold kVo at h;exact h
theorem Ey {i:Int} (h:QO (some i) S):kVo QO (.d (.int i)) S:=by unfold kVo;exact ⟨i,rfl,h⟩
end
end VL
end
section
namespace VL
open PySem L2
section
variable {K:Gn} {X:Cx} {m:Bool} {e a b:Expr} {es:List Expr} {ta tb te:TE} {va vb:VT} {tr:TA} {vr:VTA} {pos p:Pos} {stm:Stmt} {ts:TS} {t:VTS}
theorem kz (h:VA K X false es tr vr):VE K X false (.List es pos) (As tr) (rR (wL vr)):=⟨rC h.pe,fun H0 Z σ H S Q C k t hc=>
 h.snd H0 Z σ H S _ _ k t fun vs H1 rs S1 k1 st1 rrs ⟨ds,e,hl,q⟩=>⟨small (by rw [rrs.length,<- de e];exact hl),fun p hp=>
  hc (.ref p) _ (.d (.lst ds)) S1 (k1.grow (aI hp)) (st1.trans (.grow (aI hp))) (Rep.lst (k1.nm hp) (fun z=>nomatch z) ay ((rrs.allD e).mono (fun b n x=>⟨n,aI hp b x⟩) fun _ x=>x)) q⟩⟩
end
end VL
end
section
namespace VL
open PySem L2
section
variable {K:Gn} {X:Cx} {m:Bool} {e o:Expr} {te:TE} {vb:VT} {pos:Pos}
noncomputable def Ez (rows:List (Int×List (List Int))) (vb:VT):VT:=fun S Q=>vb S fun rb S1=>∃k nss,get S1 rb=some (.int k)/\(k,nss)∈rows/\Q (.d (.tup (nss.map eT))) S1
theorem BA {a:Addr} {rows:List (Int×List (List Int))} (hK:X.K=K) (hd:okD K a rows=true) (ho:PE X o (tC (.ref a))) (h:VE K X false e te vb) (hs:dR e):VE K X m (.Subscript o e pos) (tOp (Dk K rows) (tC (.ref a)) te) (Ez rows vb):=
 ⟨by subst hK;exact oq wF ho h.pe hs,fun H0 Z σ H S Q C k t hc=>h.snd H0 Z σ H S _ _ k t fun v H1 r S1 k1 st1 rr zq1=>by
  obtain ⟨i,nss,e1,hi,q⟩:=zq1
  cases rr.get k1 e1
  refine ⟨a,i,nss,rfl,rfl,hd,hi,fun v tt=>?_⟩
  obtain ⟨a',ps,rfl,h⟩:=tt
  obtain ⟨h1,h2⟩:=h fun _=>none
  exact hc _ H1 (.d (.tup (nss.map eT))) S1 k1 st1 (show Rep K _ _ H1 (.ref a') (.tup (nss.map eT)) from .tupK h1 (oP h2)) q⟩
end
section
variable {S:List Sl} {Q:VR->List Sl->Prop} {vb:VT}
@[irreducible] noncomputable def xl (rows:List (Int×List (List Int))) (Q:VR->List Sl->Prop):VR->List Sl->Prop:=fun rb S1=>∃k nss,get S1 rb=some (.int k)/\(k,nss)∈rows/\Q (.d (.tup (nss.map eT))) S1
theorem EA {rows:List (Int×List (List Int))} (h:vb S (xl rows Q)):Ez rows vb S Q:=by unfold xl at h;exact h
theorem BB {rows:List (Int×List (List Int))} {k:Int} {nss:List (List Int)} (e:get S r=some (.int k)) (hm:(k,nss)∈rows) (h:Q (.d (.tup (nss.map eT))) S):xl rows Q r S:=by unfold xl;exact ⟨k,nss,e,hm,h⟩
end
end VL
end
section
namespace KT
open PySem PySem.Spec L2 SeqAt PySem.W
noncomputable def isNum:Int->Gs->Bool
 | k,.int j _=>decide (j=k)
 | k,.bool b=>decide ((if b then (1:Int) else 0)=k)
 | _,_=>false
theorem bV {k:Int} {v:Gs} (h:isNum k v=true):(∃t,v=.int k t)\/∃b,v=.bool b/\(if b then (1:Int) else 0)=k:=by
 cases v <;> simp [isNum] at h
 ·exact .inr ⟨_,rfl,h⟩
 ·exact .inl ⟨_,by rw [h]⟩
section
variable {prog:G2} {w:HJ}
theorem qx {A:HQ} {E:Gs->Gv->Prop} {s:Gv} {b:Bool} {Q:Int->Gv->Prop} (h:Q (NN (if b then (1:Int) else 0)) { s with toks:=s.toks+1 }):Hj (Ha prog w) A (pyHash (.bool b)) Q E s:=by
 refine pyHash_slot (T:="bool") rfl F.slot_bool_hash entry_int_hash (args_int_hash _) (beq_builtin_none _) (.inl rfl) ?_
 cases b
 ·exact (show Hj _ _ (do ret (<- mkInt 0)) _ _ s from Gp (wpAny_mkInt (GA ⟨_,_,rfl,h⟩)))
 ·exact (show Hj _ _ (do ret (<- mkInt 1)) _ _ s from Gp (wpAny_mkInt (GA ⟨_,_,rfl,h⟩)))
noncomputable def numKind (prog:G2) (w:HJ):KeyKind prog w Int where
 is:=isNum
 hash:=NN
 inj:=fun v a b x y=>by
  rcases bV x with ⟨t,rfl⟩ | ⟨c,rfl,rfl⟩
  ·rcases bV y with ⟨u,e⟩ | ⟨d,e,_⟩ <;> cases e;rfl
  ·rcases bV y with ⟨u,e⟩ | ⟨d,e,rfl⟩ <;> cases e;rfl
 byValue:=fun k v h=>by rcases bV h with ⟨t,rfl⟩ | ⟨c,rfl,_⟩ <;> rfl
 pyHash:=fun hv h=>by
  rcases bV hv with ⟨t,rfl⟩ | ⟨c,rfl,rfl⟩
  ·exact wpAny_pyHash_int h
  ·exact qx h
 eqBool:=fun {A E s a b u v Q} hu hv h=>by
  have z:∀c d:Int,decide (c=d)=(c==d):=fun c d=>by rw [IY];simp
  rw [z] at h
  rcases bV hu with ⟨t,rfl⟩ | ⟨c,rfl,rfl⟩ <;> rcases bV hv with ⟨r,rfl⟩ | ⟨d,rfl,rfl⟩
  ·exact wpAny_eqBool_int h
  ·exact EqAt.int_bool _ _ _ prog w E Q h
  ·exact EqAt.bool_int _ _ _ prog w E Q h
  ·refine EqAt.bool_bool _ _ prog w E Q ?_
   have e:(c==d)=((if c then (1:Int) else 0)==(if d then 1 else 0)):=by cases c <;> cases d <;> rfl
   rw [e];exact h
 «strs»:=fun k x t v h=>by simp [isNum] at h
end
end KT
end
section
namespace L2
open PySem PySem.Spec PyProof.Rows
section
variable {X:Cx} {pins:List (Addr×Obj)} {σ:St} {H:Hp} {s:Gv}
inductive NumV:List Int->List V->Prop where
 | nil:NumV [] []
 | int (i:Int) {ms:List Int} {vs:List V} (t:NumV ms vs):NumV (i::ms) (.int i::vs)
 | bl (b:Bool) {ms:List Int} {vs:List V} (t:NumV ms vs):NumV ((if b then (1:Int) else 0)::ms) (.bl b::vs)
theorem NumV.ints:∀ms:List Int,NumV ms (ms.map V.int)
 | []=>.nil
 | i::r=>.int i (NumV.ints r)
noncomputable def SqN (K:Gn) (H:Hp) (b:Addr) (ms:List Int):Prop:=∃vs,SqT K H b vs/\NumV ms vs
theorem SqN.of {b:Addr} (h:SqT K H b (ms.map V.int)):SqN K H b ms:=⟨_,h,NumV.ints ms⟩
theorem fN {P:G2} {w:HJ}:∀{ms:List Int} {vs:List V} {us:List Gs},NumV ms vs->Vals vs us->ItemsAre (KT.numKind P w) ms us
 | _,_,_,.nil,r=>by cases r;exact .nil
 | _,_,_,.int i t,r=>by
  cases r with
  | cons h u=>obtain ⟨tk,rfl⟩:=h;exact .cons (by simp [KT.numKind,KT.isNum]) (fN t u)
 | _,_,_,.bl b t,r=>by
  cases r with
  | cons h u=>cases h;exact .cons (by simp [KT.numKind,KT.isNum]) (fN t u)
theorem di {b:Addr} (I:Inv X pins σ H s) (h:SqN X.K H b ms):(KA (KT.numKind X.prog X.w)).is s.heap ms b:=by
 obtain ⟨vs,h,hn⟩:=h
 obtain ⟨its,r,⟨o,h1,h2,n,h3⟩,_⟩:=I.tuple h
 exact ⟨o,its.toArray,n,h1,h2,h3,by simpa using fN hn r⟩
noncomputable def b9 (K:Gn) (H:Hp) (es:List (List Int×Addr×V)):Prop:=∀x∈es,SqN K H x.2.1 x.1
theorem EV.keys {xs:List (List Int×Addr×Gs)} (r:EV es xs):es.map (·.1)=xs.map (·.1):=by
 induction r with
 | nil=>rfl
 | cons h t ih=>rw [GO,GO,ih,h.1]
theorem EV.mem {xs:List (List Int×Addr×Gs)} (r:EV es xs):∀x∈xs,∃e∈es,e.1=x.1/\e.2.1=x.2.1:=by
 induction r with
 | nil=>intro x h;exact nomatch h
 | @cons p q ps qs h t ih=>
  intro x hx
  rcases List.mem_cons.mp hx with rfl | hx
  ·exact ⟨p,GG,h.1,h.2.1⟩
  ·obtain ⟨e,h1,h2⟩:=ih x hx
   exact ⟨e,GU _ h1,h2⟩
theorem iu {a:Addr} {ob:Obj} (I:Inv X pins σ H s) (e:H a=some (bS a ob es)) (k:b9 X.K H es):es.length<=GZ/\(a==Jo)=false/\(es.map (·.1)).Nodup /\
  ∃xs,EV es xs/\s.heap.DictOfH (KA (KT.numKind X.prog X.w)) a xs:=by
 obtain ⟨z,m,nd,xs,ev,o,ds,ep,h1,h2,h3,h4⟩:=ke I e
 refine ⟨z,m,nd,xs,ev,o,ds,ep,h1,h2,h3,h4,fun x hx=>?_,by rw [<- ev.keys];exact nd⟩
 obtain ⟨e,he,e1,e2⟩:=ev.mem x hx
 rw [<- e1,<- e2]
 exact di I (k e he)
noncomputable def atE (es:List (List Int×Addr×V)) (k:List Int):Option V:=(es.find? fun x=>decide (x.1=k)).map (·.2.2)
theorem EV.at_ {xs:List (List Int×Addr×Gs)} (r:EV es xs) (k:List Int):RelO (atE es k) ((NT xs k).map (·.2)):=by
 induction r with
 | nil=>exact Kx
 | @cons p q ps qs h t ih=>
  obtain ⟨h1,_,h2⟩:=h
  by_cases e:p.1=k
  ·have e':q.1=k:=h1.symm.trans e
   have a:atE (p::ps) k=some p.2.2:=by simp [atE,Ib,e]
   have b:NT (q::qs) k=some q.2:=by simp [NT,Ib,e']
   rw [a,b];exact h2
  ·have e':¬ q.1=k:=fun z=>e (h1.trans z)
   have a:atE (p::ps) k=atE ps k:=by simp [atE,Ib,e]
   have b:NT (q::qs) k=NT qs k:=by simp [NT,Ib,e']
   rw [a,b];exact ih
theorem gL:∀{o:Option V} {u:Option Gs},RelO o u->o.isSome=u.isSome
 | some _,some _,_=>rfl
 | none,none,_=>rfl
 | some _,none,h=>h.elim
 | none,some _,h=>h.elim
theorem i9 {k:List Int}:(atE es k).isSome=decide (k∈es.map (·.1)):=by
 induction es with
 | nil=>rfl
 | cons p ps ih=>
  by_cases e:p.1=k
  ·simp [atE,Ib,e]
  ·have a:atE (p::ps) k=atE ps k:=by simp [atE,Ib,e]
   rw [a,ih]
   have:¬ k=p.1:=fun z=>e z.symm
   simp [this]
noncomputable def qy (K:Gn) (neg:Bool):R2:=fun y x H Q=>∃b a ms es,y=.ref b/\x=.ref a/\SqN K H b ms/\(∃ob,H a=some (bS a ob es))/\b9 K H es/\Q (.bl (if neg then !decide (ms∈es.map (·.1)) else decide (ms∈es.map (·.1)))) H
end
section
variable {X:Cx}
theorem tE (hu:X.A.units+64 < Jt):OpR X (HS .In) (qy X.K false):=by
 rintro pins s σ H x y v u Q I rx ry ⟨b,a,ms,es,e1,e2,h1,⟨ob,h2⟩,h3,q⟩
 subst e1;subst e2
 cases rx;cases ry
 obtain ⟨z,m,nd,xs,ev,dd⟩:=iu I h2 h3
 refine wpAny_in_heap (JT (by lia)) (di I h1) m dd ?_
 have e:=gL (ev.at_ ms)
 rw [Lh,i9] at e
 rw [<- e]
 exact ⟨.bl _,H,I.tok _,rfl,q⟩
theorem qz (hu:X.A.units+64 < Jt):OpR X (HS .NotIn) (qy X.K true):=by
 rintro pins s σ H x y v u Q I rx ry ⟨b,a,ms,es,e1,e2,h1,⟨ob,h2⟩,h3,q⟩
 subst e1;subst e2
 cases rx;cases ry
 obtain ⟨z,m,nd,xs,ev,dd⟩:=iu I h2 h3
 refine wpAny_notIn_heap (JT (by lia)) (di I h1) m dd ?_
 have e:=gL (ev.at_ ms)
 rw [Lh,i9] at e
 rw [<- e]
 exact ⟨.bl _,H,I.tok _,rfl,q⟩
end
end L2
namespace L2
open PySem PySem.Spec PyProof.Rows
noncomputable def cX (es:List (List Int×Addr×V)) (k:List Int) (b:Addr) (v:V):List (List Int×Addr×V):=if k∈es.map (·.1) then es.map (fun x=>if x.1=k then (x.1,x.2.1,v) else x) else es++[(k,b,v)]
theorem eP (es:List (List Int×Addr×V)) (k:List Int) (b:Addr) (v:V):(cX es k b v).length<=es.length+1:=by
 unfold cX;split <;> simp
theorem EV.repl {xs:List (List Int×Addr×Gs)} (r:EV es xs) (k:List Int) {u:Gs} (rv:RelV v u):EV (es.map fun x=>if x.1=k then (x.1,x.2.1,v) else x) (xs.map (putAt k u)):=by
 induction r with
 | nil=>exact .nil
 | @cons p q ps qs h t ih=>
  rw [GO,GO]
  refine .cons ?_ ih
  obtain ⟨h1,h2,h3⟩:=h
  unfold putAt
  by_cases e:p.1=k
  ·rw [if_pos e,if_pos (h1.symm.trans e)];exact ⟨h1,h2,rv⟩
  ·rw [if_neg e,if_neg (fun z=>e (h1.trans z))];exact ⟨h1,h2,h3⟩
theorem EV.put {xs:List (List Int×Addr×Gs)} (r:EV es xs) (k:List Int) {b:Addr} {u:Gs} (rv:RelV v u):EV (cX es k b v) (storedH xs k b u):=by
 have e:decide (k∈es.map (·.1))=(NT xs k).isSome:=by
  have:=gL (r.at_ k)
  rw [Lh,i9] at this
  exact this
 unfold cX storedH
 by_cases q:(NT xs k).isSome=true
 ·rw [if_pos q,if_pos (of_decide_eq_true (e.trans q))];exact r.repl k rv
 ·rw [if_neg q,if_neg (fun z=>q (e.symm.trans (decide_eq_true z)))];exact Paired.snoc r ⟨rfl,rfl,rv⟩
section
variable {X:Cx} {o i value:Expr} {pos pos':Pos} {td ty tv:TE}
noncomputable def tF (K:Gn) (td ty tv:TE):TS:=fun D σ H=>tv σ H fun v H1=>td σ H1 fun x H2=>ty σ H2 fun y H3=>∃a b ms es,x=.ref a/\y=.ref b/\SqN K H3 b ms/\(∃ob,H3 a=some (bS a ob es))/\b9 K H3 es/\es.length < GZ /\
 ∀ob,D.nx σ (upd H3 a (bS a ob (cX es ms b v)))
theorem tG {s:Gv} {a b:Addr} {ob:Obj} {r:Gs} {A:HQ} {E:Gs->Gv->Prop} {Q:Unit->Gv->Prop} (hu:A.units+1 < Jt) (I:Inv X pins σ H s) (h1:SqN X.K H b ms) (h2:H a=some (bS a ob es)) (h3:b9 X.K H es) (hl:es.length < GZ) (rv:RelV v r)
  (h:∀ob s',Inv X pins σ (upd H a (bS a ob (cX es ms b v))) s'->Q () s'):Hj (Ha X.prog X.w) A (MO (.ref a) (.ref b) r) Q E s:=by
 obtain ⟨z,m,nd,xs,ev,dd⟩:=iu I h2 h3
 refine wpAny_setItem_heap (hsz:=by rw [<- IM ev];exact z) (JT hu) (di I h1) dd fun h' dd' hs=>?_
 obtain ⟨q,ds,ep,hq,g2,g3,g4,_,g5⟩:=dd'
 refine h q _ (I.write (x:=a) (e:=a) (by rw [h2];exact Kx) (.inl rfl) (fun b q hb z=>(hs.2 b hb).trans z) ⟨q,hq⟩ (DctP.ok ⟨?_,m,?_,_,ev.put ms rv,q,ds,ep,hq,g2,g3,g4⟩ hq))
 ·have:=eP es ms b v;lia
 ·rw [(ev.put ms rv).keys];exact g5
theorem oU (hu:X.A.units+64 < Jt) (ho:PE X o td) (hi:PE X i ty) (hv:PE X value tv) (hs:IN value (some (.Subscript o i pos')) pos.line X.env=pure false) :
  PS X (.Assign [.Subscript o i pos'] value pos) (tF X.K td ty tv):=by
 intro pins s σ H D I h
 refine wpAny_Assign_Subscript (thn (hv pins s σ H _ I h) fun r s1 ⟨v,H1,I1,rv,q1⟩=>thn (ho pins s1 σ H1 _ I1 q1) fun u s2 ⟨x,H2,I2,rx,q2⟩=>thn (hi pins s2 σ H2 _ I2 q2) fun iv s3 zr1=>?_) hs
 obtain ⟨y,H3,I3,ry,a,b,ms,es,ex,ey,h1,⟨ob,h2⟩,h3,hl,q3⟩:=zr1
 subst ex;subst ey
 obtain rfl:u=Hf a:=rx
 obtain rfl:iv=Hf b:=ry
 exact tG (by lia) I3 h1 h2 h3 hl rv fun ob s4 I4=>⟨σ,_,I4,q3 ob⟩
theorem kA {s:Gv} (I:Inv X pins σ H s):Jo < s.heap.objs.size:=by
 have h:GK < s.heap.objs.size:=(I.mod.glob.keeps I.bk).lt
 exact Nat.lt_trans (by decide) h
noncomputable def tI:TE:=fun _ H Q=>∀p ob,H p=none->Q (.ref p) (upd H p (bS p ob []))
theorem oV:PE X (.Dict [] [] pos) tI:=fun pins s σ H Q I h=>
 wpAny_Dict_empty ⟨.ref s.heap.objs.size,_,I.laid (a:=s.heap.objs.size) (o:=bS s.heap.objs.size _ []) (t':=s.toks) (fun _ _ q=>Gu _ q) (Gz _)
  (DctP.ok ⟨IG _,beq_eq_false_iff_ne.mpr (J1 (Hn (kA I))),Kg,[],.nil,_,#[],0,GQ _ rfl,⟨rfl,rfl,rfl⟩,rfl,rfl⟩ (GQ _ rfl)),rfl,h _ _ (I.hok.fresh (Gz _))⟩
end
end L2
namespace VL
open PySem L2
noncomputable def dc (kvs:List (List Int×D)):D:=.dic (kvs.map (·.1)) (kvs.map (·.2))
noncomputable def od (kvs:List (List Int×D)):Sl:=.odi (kvs.map (·.1)) (kvs.map (·.2))
noncomputable def ba (kvs:List (List Int×D)) (k:List Int) (d:D):List (List Int×D):=if k∈kvs.map (·.1) then kvs.map (fun x=>if x.1=k then (x.1,d) else x) else kvs++[(k,d)]
noncomputable def fx (kvs:List (List Int×D)) (k:List Int):Option D:=(kvs.find? fun x=>decide (x.1=k)).map (·.2)
section
variable {K:Gn} {N:AP} {F:FP} {H:Hp}
theorem bX:∀{es:List (List Int×Addr×V)},Reps K N F H (es.map fun x=>.ref x.2.1) ((es.map (·.1)).map kT)->b9 K H es
 | [],_=>fun _ h=>nomatch h
 | e::es,r=>by
  cases r with
  | cons h t=>
   intro x hx
   rcases List.mem_cons.mp hx with rfl | hx
   ·obtain ⟨a,vs,e1,hq,rr⟩:=Rep.sqT (show Rep K N F H _ (.tup (x.1.map D.int)) from h)
    cases e1
    cases Reps.toInts rr
    exact SqN.of hq
   ·exact bX t x hx
theorem Rep.dct {ks:List (List Int)} (h:Rep K N F H v (.dic ks ds)):∃a es,v=.ref a/\N a/\F (some a)/\(∃ob,H a=some (bS a ob es))/\es.map (·.1)=ks/\b9 K H es/\Reps K N F H (es.map fun x=>.ref x.2.1) (ks.map kT)/\Reps K N F H (es.map (·.2.2)) ds:=by
 cases h with
 | dic n f h e rk r=>subst e;exact ⟨_,_,rfl,n,f,⟨_,h⟩,rfl,bX rk,rk,r⟩
theorem jJ {k:List Int} (hv:Rep K N F H v d):∀{es:List (List Int×Addr×V)} {kvs:List (List Int×D)},es.map (·.1)=kvs.map (·.1)->Reps K N F H (es.map (·.2.2)) (kvs.map (·.2)) ->
  Reps K N F H ((es.map fun x=>if x.1=k then (x.1,x.2.1,v) else x).map (·.2.2)) ((kvs.map fun x=>if x.1=k then (x.1,d) else x).map (·.2))
 | [],[],_,_=>.nil
 | e::es,p::kvs,ek,r=>by
  simp only [GO,JU] at ek
  cases r with
  | cons h t=>
   simp only [GO]
   refine .cons ?_ (jJ hv ek.2 t)
   by_cases hk:e.1=k
   ·rw [if_pos hk,if_pos (ek.1.symm.trans hk)];exact hv
   ·rw [if_neg hk,if_neg (fun z=>hk (ek.1.trans z))];exact h
 | [],_::_,ek,_=>by simp at ek
 | _::_,[],ek,_=>by simp at ek
theorem nh (es:List (List Int×Addr×V)) (k:List Int) (v:V):(es.map fun x=>if x.1=k then (x.1,x.2.1,v) else x).map (·.1)=es.map (·.1):=by
 rw [HC]
 refine Ih fun x _=>?_
 simp only [JR];split <;> rfl
theorem ni (es:List (List Int×Addr×V)) (k:List Int) (v:V):(es.map fun x=>if x.1=k then (x.1,x.2.1,v) else x).map (fun x=>V.ref x.2.1)=es.map fun x=>V.ref x.2.1:=by
 rw [HC]
 refine Ih fun x _=>?_
 simp only [JR];split <;> rfl
theorem d7 (kvs:List (List Int×D)) (k:List Int) (d:D):(kvs.map fun x=>if x.1=k then (x.1,d) else x).map (·.1)=kvs.map (·.1):=by
 rw [HC]
 refine Ih fun x _=>?_
 simp only [JR];split <;> rfl
theorem f9 {k:List Int} {b:Addr} (hv:Rep K N F H v d) {F':FP} (hb:Rep K N F' H (.ref b) (kT k)) (ek:es.map (·.1)=kvs.map (·.1))
  (rk:Reps K N F' H (es.map fun x=>V.ref x.2.1) ((kvs.map (·.1)).map kT)) (r:Reps K N F H (es.map (·.2.2)) (kvs.map (·.2))) :
  (cX es k b v).map (·.1)=(ba kvs k d).map (·.1)/\Reps K N F' H ((cX es k b v).map fun x=>V.ref x.2.1) (((ba kvs k d).map (·.1)).map kT)/\Reps K N F H ((cX es k b v).map (·.2.2)) ((ba kvs k d).map (·.2)):=by
 unfold cX ba
 by_cases hk:k∈es.map (·.1)
 ·rw [if_pos hk,if_pos (by rw [<- ek];exact hk),nh,d7,ni]
  exact ⟨ek,rk,jJ hv ek r⟩
 ·rw [if_neg hk,if_neg (by rw [<- ek];exact hk)]
  simp only [HA,GO,Hu]
  exact ⟨by rw [ek],Reps.append rk (.cons hb .nil),Reps.append r (.cons hv .nil)⟩
end
section
variable {K:Gn} {X:Cx} {m:Bool} {e o ie:Expr} {te ti:TE} {va vi:VT} {pos posS:Pos}
noncomputable def EB (neg:Bool):D->D->(D->Prop)->Prop:=fun d1 d2 q=>∃ms kvs,d1=kT ms/\d2=dc kvs/\q (.bl (if neg then !decide (ms∈kvs.map (·.1)) else decide (ms∈kvs.map (·.1))))
theorem oW {neg:Bool}:cP K (qy K neg) (EB neg):=by
 rintro x y H d1 d2 q C r1 r2 ⟨ms,kvs,rfl,rfl,h⟩ hc
 obtain ⟨b,vs,rfl,hq,rr⟩:=Rep.sqT (show Rep K _ _ H x (.tup (ms.map D.int)) from r1)
 cases Reps.toInts rr
 obtain ⟨a,es,rfl,_,_,ha,ek,hk,_,_⟩:=Rep.dct (show Rep K _ _ H y (.dic _ _) from r2)
 refine ⟨b,a,ms,es,rfl,rfl,SqN.of hq,ha,hk,?_⟩
 rw [ek]
 exact hc _ _ h fun _ _=>.bl _
theorem tJ (hK:X.K=K) (hu:X.A.units+64 < Jt):OpR X (HS .In) (qy K false):=by subst hK;exact tE hu
theorem tK (hK:X.K=K) (hu:X.A.units+64 < Jt):OpR X (HS .NotIn) (qy K true):=by subst hK;exact qz hu
noncomputable abbrev VTD:=List Sl->(List (List Int×D)->List Sl->Prop)->Prop
noncomputable def EC (K:Gn) (te:TE) (t:VTD):Prop:=∀H0 Z σ H S Q C,OK K H0 Z σ H S->t S Q->(∀a es kvs H1 H' S',OK K H0 Z σ H1 S'->Step Z σ S H σ S' H1->H1 a=none->(∀b,H1 b≠none->H' b=H1 b)->(∃ob,H' a=some (bS a ob es)) ->
 es.map (·.1)=kvs.map (·.1)->Reps K (fun b=>NM Z σ S' b/\b≠a) AnyF H' (es.map fun x=>V.ref x.2.1) ((kvs.map (·.1)).map kT)->Reps K (fun b=>NM Z σ S' b/\b≠a) (Fr H0) H' (es.map (·.2.2)) (kvs.map (·.2))->Q kvs S'->C (.ref a) H')->te σ H C
structure VDe (K:Gn) (X:Cx) (e:Expr) (te:TE) (t:VTD):Prop where
 pe:PE X e te
 snd:EC K te t
noncomputable def zf:VTD:=fun S Q=>Q [] S
theorem tL:VDe K X (.Dict [] [] pos) tI zf:=⟨oV,fun H0 Z σ H S Q C k t hc=>fun p ob hp=>hc p [] [] H _ S k .refl hp (aI hp) ⟨ob,ay⟩ rfl .nil .nil t⟩
noncomputable def tM (i:Nat) (t:VTD):VTS:=fun V S=>t S fun kvs S1=>i < S1.length/\V.nx (S1.set i (od kvs))
theorem kB {i:Nat} {x:Str} {pos':Pos} {tn:VTD} (ps:∀te,PE X e te->PS X (.Assign [.Name x pos'] e pos) (cW te (bF i))) (h:VDe K X e te tn):VS K X (.Assign [.Name x pos'] e pos) (cW te (bF i)) (tM i tn):=
 ⟨ps te h.pe,fun H0 Z σ H S V E k t l=>h.snd H0 Z σ H S _ _ k t fun a es kvs H1 H' S' k1 st1 ha hg hl ek rk rr zq1=>by
  obtain ⟨hi,q⟩:=zq1
  obtain ⟨k2,st2⟩:=k1.setNew (s:=od kvs) hi ha hg ⟨a,es,rfl,hl,k1.dom a ha,⟨ek,rk⟩,rr⟩ rfl
  exact l.nx _ _ _ k2 (st1.trans st2) q⟩
noncomputable def zg (i:Nat) (ve vi:VT):VTS:=fun V S=>ve S fun r S1=>(∃kvs,S1[i]?=some (od kvs))/\vi S1 fun ri S2=>∃d ms kvs,r=.d d/\get S2 ri=some (kT ms)/\S2[i]?=some (od kvs)/\kvs.length<=1000000/\V.nx (S2.set i (od (ba kvs ms d)))
theorem oX (i:Nat) (hK:X.K=K) (hu:X.A.units+64 < Jt) (ho:PE X o (bZ i)) (h:VE K X true e te va) (hi:VE K X false ie ti vi) (hs:IN e (some (.Subscript o ie posS)) pos.line X.env=pure false:=by rfl) :
  VS K X (.Assign [.Subscript o ie posS] e pos) (tF K (bZ i) ti te) (zg i va vi):=⟨by subst hK;exact oU hu ho hi.pe h.pe hs,fun H0 Z σ H S V E k t l=>by
 refine h.snd H0 Z σ H S _ _ k t fun x H1 r S1 k1 st1 rr zr1=>?_
 obtain ⟨⟨kvs0,e0⟩,q⟩:=zr1
 obtain ⟨o1,g1,p,es0,rfl,_⟩:=k1.ownAt e0
 refine ⟨.ref p,g1,hi.snd H0 Z σ H1 S1 _ _ k1 q fun y H2 ri S2 k2 st2 rr2 zr1=>?_⟩
 obtain ⟨d,ms,kvs,er,ek,e1,hl,q2⟩:=zr1
 subst er
 obtain ⟨o2,g2,p',es,e2,h2,h3,⟨h4,h5⟩,h6⟩:=k2.ownAt e1
 rw [g1] at g2;cases g2;cases e2
 have rx:Rep K (NM Z σ S2) (FM H0 true) H2 x d:=Rep.step (show Rep K (NM Z σ S1) (FM H0 true) H1 x d from rr) st2
 have ry:∃b,y=.ref b/\SqT K H2 b (ms.map L2.V.int)/\Rep K (NM Z σ S2) AnyF H2 (.ref b) (kT ms):=by
  cases ri with
  | d z=>
   cases ek
   obtain ⟨b,vs,rfl,hq,rr⟩:=Rep.sqT (show Rep K _ _ H2 y (.tup (ms.map D.int)) from rr2)
   cases Reps.toInts rr
   exact ⟨b,rfl,hq,Rep.mono (fun _ n _=>⟨n,rfl⟩) (fun _ _=>trivial) rr2⟩
  | own j=>
   have ek:getO S2[j]?=some (kT ms):=ek
   cases es:S2[j]? with
   | none=>rw [es] at ek;cases ek
   | some s=>rw [es] at ek;cases s <;> cases ek
 obtain ⟨b,rfl,hq,rb⟩:=ry
 have hk:b9 K H2 es:=bX (by rw [h4];exact h5)
 refine ⟨p,b,ms,es,rfl,rfl,SqN.of hq,h2,hk,?_,?_⟩
 ·have:es.length=kvs.length:=by have:=congrArg IS h4;simpa using this
  rw [Hv];lia
 ·intro obn
  have na:NM Z σ S2 p->False:=fun n=>n (.inl ⟨i,_,e1,rfl,g1⟩)
  have hm:∀b,NM Z σ S2 b->H2 b≠none->NM Z σ S2 b/\upd H2 p (bS p obn (cX es ms b x)) b=H2 b:=fun b n _=>⟨n,aB fun z=>na (by rw [<- z];exact n)⟩
  have hm':∀c,NM Z σ S2 c->H2 c≠none->NM Z σ S2 c/\upd H2 p (bS p obn (cX es ms b x)) c=H2 c:=fun c n _=>⟨n,aB fun z=>na (by rw [<- z];exact n)⟩
  obtain ⟨z1,z2,z3⟩:=f9 (k:=ms) (b:=b) (Rep.mono hm' (fun _ x=>x rfl) rx) (Rep.mono hm' (fun _ x=>x) rb) h4 (h5.mono hm' fun _ x=>x) (h6.mono hm' fun _ x=>x)
  obtain ⟨k3,st3⟩:=k2.chgD (s:=od (ba kvs ms d)) (o:=bS p obn (cX es ms b x)) e1 rfl g1 rfl ⟨p,_,rfl,⟨obn,ay⟩,h3,⟨z1,z2⟩,z3⟩
  exact l.nx _ _ _ k3 ((st1.trans st2).trans st3) q2⟩
end
end VL
end
section
namespace VL
open PySem L2
section
variable {S:List Sl} {Q:VR->List Sl->Prop} {QN:List D->List Sl->Prop} {QD:List (List Int×D)->List Sl->Prop} {W:aT} {va vb:VT} {vr:VTA} {vd:VTD}
theorem BC (h:QD [] S):zf S QD:=h
@[irreducible] noncomputable def oY (i:Nat) (W:aT):List (List Int×D)->List Sl->Prop:=fun kvs S1=>i < S1.length/\W.nx (S1.set i (od kvs))
theorem BD {i:Nat} (h:vd S (oY i W)):tM i vd W S:=by unfold oY at h;exact h
theorem xm {i:Nat} (e:MW (i+1) S.length=true) (h:W.nx (S.set i (od kvs))):oY i W kvs S:=by unfold oY;exact ⟨GW e,h⟩
@[irreducible] noncomputable def oZ (i:Nat) (vi:VT) (W:aT):VR->List Sl->Prop:=fun r S1=>(∃kvs,S1[i]?=some (od kvs))/\vi S1 fun ri S2=>∃d ms kvs,r=.d d/\get S2 ri=some (kT ms)/\S2[i]?=some (od kvs)/\kvs.length<=1000000/\W.nx (S2.set i (od (ba kvs ms d)))
@[irreducible] noncomputable def kC (i:Nat) (r:VR) (W:aT):VR->List Sl->Prop:=fun ri S2=>∃d ms kvs,r=.d d/\get S2 ri=some (kT ms)/\S2[i]?=some (od kvs)/\kvs.length<=1000000/\W.nx (S2.set i (od (ba kvs ms d)))
theorem BE {i:Nat} {vi:VT} (h:va S (oZ i vi W)):zg i va vi W S:=by unfold oZ at h;exact h
theorem xn {i:Nat} {vi:VT} (e:S[i]?=some (od kvs)) (h:vi S (kC i r W)):oZ i vi W r S:=by unfold oZ;unfold kC at h;exact ⟨⟨kvs,e⟩,h⟩
theorem lX {i:Nat} {ri:VR} (e1:get S ri=some (kT ms)) (e2:S[i]?=some (od kvs)) (hl:kvs.length<=1000000) (h:W.nx (S.set i (od (ba kvs ms d)))):kC i (.d d) W ri S:=by unfold kC;exact ⟨d,ms,kvs,rfl,e1,e2,hl,h⟩
theorem kE {neg:Bool} {d1 d2:D} (e1:d1=kT ms) (e2:d2=dc kvs) (h:q (.bl (if neg then !decide (ms∈kvs.map (·.1)) else decide (ms∈kvs.map (·.1))))):EB neg d1 d2 q:=⟨ms,kvs,e1,e2,h⟩
end
theorem nj {α:Type} [DecidableEq α] {n:Nat} {f:α->D} (e:Enc n f) {x:α} {l:List α} (h:q (.bl (decide (x∈l)))) (hn:n+1<=40:=by decide):mY false (f x) (.tup (l.map f)) q:=⟨_,.inr rfl,e.okd (by lia) x,e.lst.okd hn l,by simpa only [e.any,Hz,if_false] using h⟩
theorem qA {ve:VT} {A:D->List Sl->Prop} {B:List Sl->Prop} (h:B S):fK ve A B false S:=eN (fun e=>nomatch e) fun _=>h
section
variable {K:Gn} {X:Cx} {e:Expr} {te:TE} {va:VT} {pos pos':Pos} {x:Str}
theorem az {i:Nat} (hN:X.N.Nodup) (hi:X.N[i]?=some x) (hx:Loc X.env.scope x) (h:VE K X false e te va) (hs:IN e (some (.Name x pos')) pos.line X.env=pure false:=by rfl)
  (hf:X.fn x=true\/X.env.scope.names.lookup x=some .local:=by first | exact .inl rfl | exact .inr rfl | assumption):VS K X (.Assign [.Name x pos'] e pos) (cW te (bF i)) (qp va (vgN i)):=AM (fun _ h=>cB hN hi hx h hs hf) h
end
end VL
end
section
namespace VL
open PySem L2
section
variable {K:Gn} {X:Cx} {m:Bool} {e a b o:Expr} {te ta tb:TE} {va vb:VT} {pos apos:Pos}
noncomputable def ED (t:VTN) (vb:VT):VT:=fun S Q=>t S fun ds S1=>vb S1 fun rb S2=>∃j d,get S2 rb=some (.int j)/\atI ds j=some d/\Q (.d d) S2
theorem BF {t:VTN} (hK:X.K=K) (ha:VN K X a ta t) (hb:VE K X false b tb vb) (hs:dR b):VE K X m (.Subscript a b pos) (tOp (rIx K) ta tb) (ED t vb):=⟨by subst hK;exact oq rE ha.pe hb.pe hs,fun H0 Z σ H S Q C k t hc=>
 ha.snd H0 Z σ H S _ _ k t fun p vs ds H1 H' S1 k1 st1 hp hg hl rr t1=>by
  have k1':=k1.grow hg
  have rl:Rep K (NM Z σ S1) (FM H0 true) H' (.ref p) (.lst ds):=.lst (k1.nm hp) (fun _=>⟨p,rfl,k1.dom p hp⟩) hl (rr.mono (fun b n _=>⟨n.1,rfl⟩) fun _ x _=>x)
  refine hb.snd H0 Z σ H' S1 _ _ k1' t1 fun y H2 rb S2 k2 st2 r2 zr1=>?_
  obtain ⟨j,d,e2,e3,q⟩:=zr1
  cases r2.get k2 e2
  have rl2:=rl.step st2
  cases rl2 with
  | lst n f h r=>
   obtain ⟨v,h3,h4⟩:=iU r e3
   exact .inl ⟨p,_,j,v,rfl,rfl,.inl (.inl h),h3,hc v H2 (.d d) S2 k2 ((st1.trans (.grow hg)).trans st2) (show Rep K _ _ H2 v d from h4.mono (fun _ n _=>⟨n,rfl⟩) fun _ x _=>x rfl) q⟩
  | lstF n f h r=>obtain ⟨c,ec,_⟩:=f rfl;cases ec
  | lstK f h r=>obtain ⟨c,ec,_⟩:=f rfl;cases ec⟩
end
section
variable {S:List Sl} {Q:VR->List Sl->Prop} {va vb:VT} {vn:VTN}
@[irreducible] noncomputable def o8 (vb:VT) (Q:VR->List Sl->Prop):List D->List Sl->Prop:=fun ds S1=>vb S1 fun rb S2=>∃j d,get S2 rb=some (.int j)/\atI ds j=some d/\Q (.d d) S2
@[irreducible] noncomputable def o9 (ds:List D) (Q:VR->List Sl->Prop):VR->List Sl->Prop:=fun rb S2=>∃j d,get S2 rb=some (.int j)/\atI ds j=some d/\Q (.d d) S2
theorem EE (h:vn S (o8 vb Q)):ED vn vb S Q:=by unfold o8 at h;exact h
theorem xo (h:vb S (o9 ds Q)):o8 vb Q ds S:=by unfold o8;unfold o9 at h;exact h
theorem ph {j:Int} (e2:get S r=some (.int j)) (e3:atI ds j=some d) (h:Q (.d d) S):o9 ds Q r S:=by unfold o9;exact ⟨j,d,e2,e3,h⟩
theorem EF {x y:Str} (h:q (.bl (decide (x=y)))):wEq (.str x) (.str y) q:=⟨.str x,.str y,rfl,rfl,rfl,by simpa using h⟩
end
end VL
end
section
namespace L2
open PySem PySem.Spec PyProof.Rows PySem.W
structure Flies (P:G2) (w:HJ) (outer:List Env) (H:Hp) (s:Gv) (x:Addr) (cls a0:Gs) (B:Heap) (H':Hp) (s':Gv):Prop where
 os:s'.os=s.os
 bare:KZ s'.gens
 fly:Heap.FlyingW B outer x cls a0 s'.heap
 frm:∀b∈frs outer,∀o,s.heap.get? b=some o->∃sl,s'.heap.get? b=some { o with slots:=sl }
 hok:HOk P w H' B
 cov:∀b o,s.heap.get? b=some o->H b=none->b∉frs outer->B.get? b=some o
 same:∀b,H b≠none->H' b=H b
 free:∀b o,s.heap.get? b=some o->H b=none->H' b=none
 new:s.heap.get? x=none
noncomputable def CX1 (P:G2) (w:HJ):CXT:=fun outer H s E e s'=>∃x cls a0 B H',e=.ref x/\Flies P w outer H s x cls a0 B H' s'/\E cls none H'
section
variable {P:G2} {w:HJ} {outer:List Env} {H H':Hp} {s s':Gv} {x:Addr} {cls a0:Gs} {B:Heap}
theorem Flies.hok' (f:Flies P w outer H s x cls a0 B H' s'):HOk P w H' s'.heap:=f.hok.kept f.fly.1
theorem Flies.un (f:Flies P w outer H s x cls a0 B H' s'):Un (frs outer) [] H H' s.heap s'.heap where
 keep:=fun b o e n nb _=>f.fly.1 b o (f.cov b o e n nb)
 slot:=fun b o e _ hb _=>f.frm b hb o e
 free:=fun b o e n _=>f.free b o e n
 there:=fun b o e _=>by
  cases n:H b with
  | none=>
   by_cases hb:b∈frs outer
   ·obtain ⟨sl,q⟩:=f.frm b hb o e
    exact ⟨_,q⟩
   ·exact ⟨o,f.fly.1 b o (f.cov b o e n hb)⟩
  | some u=>exact bA.there (f.hok' b u (by rw [f.same b (by rw [n];simp)];exact n))
 tups:=fun b xs e=>by rw [f.same b (by rw [e];simp)];exact e
 frzs:=fun b o u e=>by rw [f.same b (by rw [e];simp)];exact e
 tbls:=fun b ps e=>⟨#[],by rw [f.same b (by rw [e];simp),e];simp⟩
theorem Flies.noX (f:Flies P w outer H s x cls a0 B H' s'):H' x=none:=by
 cases n:H' x with
 | none=>rfl
 | some u=>
  obtain ⟨o,e⟩:=bA.there (f.hok x u n)
  rw [f.fly.2.1] at e
  cases e
theorem tN {h:Heap} {as:List Addr} (k:HOk P w H h) (hf:∀a∈as,H a=none):HOk P w H (hideAll h as):=fun b u e=>by
 have nb:∀c v,H c=some v->c∉as:=fun c v q z=>by rw [hf c z] at q;cases q
 refine (k b u e).stay (fun c v hc q=>hideAll_get _ q ?_) (fun c q=>q) fun c xs q=>q
 rcases hc with rfl | hc
 ·exact nb c u e
 ·exact nb c _ hc
end
structure eQ (X:Cx) (Hin:Hp) (E:XK):Prop where
 first:∀pins σ H s h1 x cls args,Inv X pins σ H s->Heap.MadeExcOf s.heap h1 x cls args->(∀b,Hin b≠none->H b=Hin b)->E cls none H->∀tk,X.xe (.ref x) { s with heap:=h1,toks:=tk }
 next:∀pins σ H s e s',Inv X pins σ H s->CX1 X.prog X.w X.stack H s (fun c _ H'=>(∀b,Hin b≠none->H' b=Hin b)/\E c none H') e s'->X.xe e s'
section
variable {P:G2} {w:HJ} {K:Gn} {mg:Str->Option Gs} {base:Heap} {N:List Str} {qual:Str} {scope:Jz} {f:Addr} {cd:Gs} {A:HQ} {outer:List Env} {s:Gv} {H:Hp} {E:XK}
theorem qC:eQ (gB (CX1 P w) P w K mg base N qual scope f cd A outer s H E) H E where
 first:=fun pins σ Hc sr h1 x cls args I hx fr he tk=>by
  have nf:∀b∈frs outer,∀o,s.heap.get? b=some o->∀vs,o.data≠.fields vs:=fun b hb o e=>by
   obtain ⟨_,o',e',n⟩:=I.ok.funs.mem hb
   have e':s.heap.get? b=some o':=e'
   rw [e] at e';cases e'
   exact n
  refine wpAny_leaves_madeW (base:=hideAll sr.heap (frs (envOfC qual scope s.heap.objs.size f cd::outer))) I.ok.frames rfl (fun b o q=>of_hideAll _ q) (funFrames_hide I.stack fun env he a ha=>List.mem_filterMap.mpr ⟨env,he,ha⟩) hx fun h' t fl _ _ up=>?_
  refine ⟨x,cls,.ref t,_,Hc,rfl,⟨I.os,I.bare,fl,fun b hb o e=>?_,tN I.hok I.stkFree,fun b o e n nb=>?_,fr,fun b o e n=>?_,?_⟩,he⟩
  ·obtain ⟨sl,q⟩:=I.base.slot b o e (I.ok.frf b hb) hb (by intro z;cases z)
   obtain ⟨sl',q'⟩:=up b _ (hx.keeps _ _ q) (nf b hb o e)
   exact ⟨sl',q'⟩
  ·refine hideAll_get _ (I.base.keep b o e n nb (by intro z;cases z)) fun z=>?_
   rcases List.mem_cons.mp (I.stkSub b z) with e' | z
   ·have lt:=GI e
    have ab:s.heap.objs.size<=b:=e'▸I.ok.above
    exact absurd lt (Nat.not_lt.mpr ab)
   ·exact nb z
  ·exact I.base.free b o e n (by intro z;cases z)
  ·cases q:s.heap.get? x with
   | none=>rfl
   | some o=>
    obtain ⟨o',e'⟩:=I.base.there x o q (by intro z;cases z)
    rw [hx.new] at e'
    cases e'
 next:=fun pins σ Hc sr e s' I h=>by
  obtain ⟨x,cls,a0,B,H',rfl,F,fr,he⟩:=h
  have nf:∀b∈frs outer,∀o,s.heap.get? b=some o->∀vs,o.data≠.fields vs:=fun b hb o e=>by
   obtain ⟨_,o',e',n⟩:=I.ok.funs.mem hb
   have e':s.heap.get? b=some o':=e'
   rw [e] at e';cases e'
   exact n
  refine wpAny_leaves_onW I.ok.frames rfl F.fly fun h' fl up=>?_
  have sub:∀b∈frs outer,b∈frs (envOfC qual scope s.heap.objs.size f cd::outer):=fun b hb=>by
   obtain ⟨env,h1,h2⟩:=List.mem_filterMap.mp hb
   exact List.mem_filterMap.mpr ⟨env,GU _ h1,h2⟩
  refine ⟨x,cls,a0,B,H',rfl,⟨F.os.trans I.os,F.bare,fl,fun b hb o e=>?_,F.hok,fun b o e n nb=>?_,fr,fun b o e n=>?_,?_⟩,he⟩
  ·obtain ⟨sl,q⟩:=I.base.slot b o e (I.ok.frf b hb) hb (by intro z;cases z)
   obtain ⟨sl1,q1⟩:=F.frm b (sub b hb) _ q
   obtain ⟨sl2,q2⟩:=up b _ q1 (nf b hb o e)
   exact ⟨sl2,q2⟩
  ·refine F.cov b o (I.base.keep b o e n nb (by intro z;cases z)) (I.base.free b o e n (by intro z;cases z)) fun z=>?_
   rcases List.mem_cons.mp (I.stkSub b z) with e' | z
   ·have lt:=GI e
    have ab:s.heap.objs.size<=b:=e'▸I.ok.above
    exact absurd lt (Nat.not_lt.mpr ab)
   ·exact nb z
  ·obtain ⟨o',e'⟩:=I.base.there b o e (by intro z;cases z)
   exact F.free b o' e' (I.base.free b o e n (by intro z;cases z))
  ·cases q:s.heap.get? x with
   | none=>rfl
   | some o=>
    obtain ⟨o',e'⟩:=I.base.there x o q (by intro z;cases z)
    rw [F.new] at e'
    cases e'
end
theorem BG {K:Frag} {h:Heap} {mg:Str->Option Gs} {x:Str} {C:Addr} {bmB:List Gs} {newId:String} (X:K.In h) (hm:mg x=some (.ref C)) (q:excIn K C bmB newId=true):OwnCls x C bmB newId mg h:=by
 unfold excIn at q
 cases hl:K.lookup C with
 | none=>rw [hl] at q;cases q
 | some o=>
  rw [hl] at q
  split at q
  case h_2=>cases q
  case h_1 dd cd sl e=>
  cases e
  split at q
  case h_2=>cases q
  case h_1 C' bm k0 k1 k2 k3 n k5 hm' hs=>
  have hh:=X _ _ hl
  simp only [G5,beq_iff_eq,Bool.not_eq_true'] at q
  obtain ⟨⟨⟨⟨⟨q1,q2⟩,q3⟩,q4⟩,q5⟩,q6⟩:=q
  cases cd
  cases q1;cases q2
  simp only at hm' q3 q5 q6
  cases hm';cases q3
  rw [show sl=#[k0,k1,k2,k3,some (.builtin _),k5] from Array.toList_inj.mp hs] at hh
  exact ⟨hm,_,_,_,_,_,_,_,_,_,_,_,_,_,_,_,_,_,hh,.of_isNs (isNs_of_in X q5),nsMap_none_of_in X q5 q6,tail_of_in X q4⟩
section
variable {X:Cx} {Hin:Hp} {E:XK} {C:Addr} {bmB:List Gs} {B newId initId:String} {x:Str} {z:Str} {j:Nat} {np p cpos pos:Pos}
noncomputable def tO (Hin:Hp) (E:XK) (C:Addr):TS:=fun _ _ H=>(∀b,Hin b≠none->H b=Hin b)/\E (.ref C) none H
theorem tP (T:eQ X Hin E) (FB:ExcBaseFacts B newId initId bmB) (ec:excIn X.K C bmB newId=true) (hm:X.mg x=some (.ref C)) (hc:X.calm=true) (hg:Gl X x:=by rfl) (hd:(x==("__debug__":Str))=false:=by decide)
  (he:GM [.Constant (.str z) j p] X.env=[(false,eval (.Constant (.str z) j p) X.env)]:=by rfl) :
  PS X (.Raise (some (.Call (.Name x np) [.Constant (.str z) j p] [] cpos)) none pos) (tO Hin E C):=by
 rintro pins s σ H D I ⟨fr,ec'⟩
 have O:OwnCls x C bmB newId X.mg s.heap:=BG I.kIn hm ec
 obtain ⟨tl,N,nm,q,bs,hdct,sn,sub,ab,col,dd,k0,k1,k2,k3,k5,mN,hC,hN,hni,TL⟩:=O.obj
 refine wpAny_Raise_call_subT (mN:=mN) (nm:=nm) (q:=q) (C:=C) (N:=N) (bs:=bs) (bm:=tl) (hdct:=hdct) (sn:=sn) (sub:=sub) (ab:=ab) (col:=col) (dd:=dd) (k0:=k0) (k1:=k1) (k2:=k2) (k3:=k3) (k5:=k5) FB (TL.hasType FB.hasBase) (I.ok.hd hc) (by rw [he];rfl) hni (hU I hg hm ⟨rfl,?_⟩ hd)
 rw [he]
 refine L1 ?_
 refine MB (Mu (k:=j) (pos:=p) (MQ ⟨rfl,?_,hC,hN,TL,fun h' e mk=>?_⟩))
 ·show 1<=GZ
  rw [Hv];lia
 ·exact T.first pins σ H s h' e (.ref C) _ I mk fr ec' _
end
section
open Builtin Builtin.ObjectAttr Builtin.Getset_descriptor
noncomputable def iw (K:Frag) (C:Addr):Bool:=(findIn K (.ref C) "__getattribute__"==some (some (.builtin "BaseException.__getattribute__")))&&(findIn K (.ref C) "__getattr__"==some none)&&(findIn K (.ref C) "__class__"==some (some (.builtin "object.__class__"))) &&
 (specialIn K (.builtin "object.__class__") "__get__"==some (some (.builtin "getset_descriptor.__get__")))&&(takesIn K (.builtin "object.__class__")==some true)&&(mroIn K C (.type "object")==some true)&&(mroIn K C (.type "BaseException")==some true)
section
variable {prog:G2} {w:HJ} {A:HQ} {E:Gs->Gv->Prop} {s:Gv} {K:Frag} {x C:Addr} {o:Obj}
theorem nk {Q:Option Gs->Gv->Prop} (X:K.In s.heap) (ho:s.heap.get? x=some o) (hc:o.cls=.ref C) (ok:iw K C=true) (h:Q (some (.ref C)) { s with toks:=s.toks+1 }):Hj (Ha prog w) A (getAttr? (.ref x) "__class__") Q E s:=by
 obtain ⟨hp,g,d,tk,os⟩:=s
 simp only [iw,G5,beq_iff_eq] at ok
 obtain ⟨⟨⟨⟨⟨⟨o1,o2⟩,o3⟩,o4⟩,o5⟩,o6⟩,o7⟩:=ok
 have T0:Looks (Ha prog w) hp (typeOf (.ref x)) (.ref C):=hc▸(Looks.ld ho).andThen .now
 have T1:=Nj (M:=Ha prog w) X o1
 have T2:=Nj (M:=Ha prog w) X o2
 have T3:Looks (Ha prog w) hp (find (.ref x) (.ref C) "__class__") (.bind (.builtin "getset_descriptor.__get__") (.builtin "object.__class__")):=
  (Nj X o3).andThen ((show Looks (Ha prog w) hp (getOf (some (.builtin "object.__class__"))) _ from looks_specialIn X o4).andThen
   ((show Looks (Ha prog w) hp (dataDescriptor? (some (.builtin "object.__class__")) (some (.builtin "getset_descriptor.__get__"))) (some (.builtin "getset_descriptor.__get__",.builtin "object.__class__")) from (looks_takesIn X o5).andThen .now).andThen (Looks.tag .now)))
 have T6:=looks_mroIn (M:=Ha prog w) X o6
 have T7:Looks (Ha prog w) hp (isInstance (.ref x) (.type "BaseException")) true:=T0.andThen (looks_mroIn X o7)
 have gets:∀(A:HQ) (tk:Nat),Hj (Ha prog w) A (call (.builtin "getset_descriptor.__get__") [.builtin "object.__class__",.ref x,.ref C]) (fun v s'=>v=.ref C/\s'=⟨hp,g,d,tk,os⟩) (fun _ _=>False) ⟨hp,g,d,tk,os⟩:=fun A tk=>by
  refine NH (L5 KF.slot_gs.plain KF.entry_gs (KF.slot_gs.check _ _ _ _ _ _ _ _ KF.type_class (KF.args_gs _ _ _) ?_))
  simp only [Builtin.«getset_descriptor.__get__»,descrGet,dga_obj]
  refine Gp (GA ?_)
  simp only [descrGetter,descrCheckInstance,descrNameAndClass,isInstance,KF.owner_class]
  repeat lk
  exact ⟨Code.quiet_builtin _ (by decide +kernel),LQ KF.entry_class (by simp only [Builtin.«object.__class__»,shownTypeOf];(repeat lk);exact ⟨rfl,rfl⟩)⟩
 have asks:∀(A:HQ) (tk:Nat) (nt:Tok),Hj (Ha prog w) A (call (.builtin "BaseException.__getattribute__") [.ref x,.str "__class__" nt]) (fun v s'=>v=.ref C/\s'=⟨hp,g,d,tk,os⟩) (fun _ _=>False) ⟨hp,g,d,tk,os⟩:=fun A tk nt=>by
  have kd:builtinKind "BaseException.__getattribute__"=some .slot:=by decide +kernel
  have sp:splitId "BaseException.__getattribute__"=some ("BaseException","__getattribute__"):=by decide +kernel
  refine NH (L5 (by decide +kernel) F.entry_bexc_ga ?_)
  simp only [checkBuiltinCall,kd,sp]
  refine Gp (T7.at ?_)
  have fits:(match Manifest.signature? "BaseException.__getattribute__" with
   | some sig=>Bind.checkArgs "BaseException.__getattribute__" sig { pos:=[Hf x,Np "__class__" nt] }
   | _=>pure ())=pure ():=F.args_bexc_ga (.ref x) (.str "__class__" nt)
  simp only [Bool.not_true,Hz,if_false]
  refine (show _=_ from fits)▸GA ?_
  refine Gp (GA (Gp (GA (Gp (T0.at (Gp (T3.at ?_)))))))
  exact Gp (G9 (gets _ tk) (fun v s' zt1=>by obtain ⟨a,b⟩:=zt1;exact GA ⟨a,b⟩) fun _ _ z=>z.elim)
 have no:(Value.builtin "BaseException.__getattribute__"==Value.builtin "object.__getattribute__")=false:=by decide +kernel
 simp only [getAttr?,getAttrBy?,getAttrBy]
 refine Gp (wpAny_mkText (Gp (Ku (Hx (Gp (T0.at (Gp (T1.at ?_))))))))
 simp only [no,Bool.and_false,Hz,if_false,getAttrByItsOwn,hookBefore,onTheHeap,if_true]
 refine Gp (T2.at (Gp (Ku (Hx ?_))))
 simp only [callGetattribute,Mb,Hz,if_false,boundAndCalled,F.attr_ValueError.ga.bind]
 refine Gp (GA (G9 (asks A (tk+1) tk) (fun v s' zr1=>?_) fun _ _ z=>z.elim))
 obtain ⟨a,b⟩:=zr1
 subst a b
 exact handed_on rfl (GA h)
noncomputable def ExcAt (x C:Addr) (h:Heap):Prop:=∃o,h.get? x=some o/\o.cls=.ref C
theorem xp {cd:ClassData} (e:clsIn K C=some cd):∃o,K.lookup C=some o/\o.data=.cls cd:=by
 unfold clsIn at e
 split at e
 ·next c d cd' sl q=>cases e;exact ⟨_,q,rfl⟩
 ·cases e
theorem tQ (hk:kitCls K (.ref C) (.ref C)=some true) (ok:iw K C=true) (hc:(clsIn K C).isSome=true):KitX K (.ref x) (.ref C) (ExcAt x C) where
 ty:=fun M h _ zt1=>by obtain ⟨o,e,c⟩:=zt1;exact c▸(Looks.ld e).andThen .now
 it:=fun M h X _=>(kit_cls X hk).2.1
 ne:=fun h tp dd its n sl X htp=>by
  obtain ⟨cd,hcd⟩:=Option.isSome_iff_exists.mp hc
  obtain ⟨o,e,d⟩:=xp hcd
  refine Bool.eq_false_iff.mpr fun q=>?_
  cases beq_iff_eq.mp q
  have z:=X _ _ e
  rw [htp] at z
  cases z
  cases d
 ca:=fun X zt1 k=>by obtain ⟨o,e,c⟩:=zt1;exact nk X e c ok k
end
end
section
variable {X:Cx} {pins:List (Addr×Obj)} {σ:St} {H H':Hp} {s s':Gv} {x:Addr} {cls a0:Gs} {B:Heap}
theorem Flies.on {h':Heap} {tk:Nat} (I:Inv X pins σ H s) (f:Flies X.prog X.w X.stack H s x cls a0 B H' s') (fl:Heap.FlyingW B X.stack x cls a0 h') (up:s'.heap.UpToSlots h'):Flies X.prog X.w X.stack H s x cls a0 B H' { s' with heap:=h',toks:=tk } where
 os:=f.os
 bare:=f.bare
 fly:=fl
 frm:=fun b hb o e=>by
  obtain ⟨sl,q⟩:=f.frm b hb o e
  obtain ⟨_,o',e',n⟩:=I.stack.mem hb
  rw [e] at e';cases e'
  obtain ⟨sl',q'⟩:=up b _ q n
  exact ⟨sl',q'⟩
 hok:=f.hok
 cov:=f.cov
 same:=f.same
 free:=f.free
 new:=f.new
theorem Inv.lands (I:Inv X pins σ H s) (f:Flies X.prog X.w X.stack H s x cls a0 B H' s'):Inv X pins σ H' s':=
 I.call' (ch:=[]) f.os f.un f.hok' f.bare fun b z=>by cases z
noncomputable abbrev Cx.caught (X:Cx) (x:Addr):Cx:={ X with A:=X.A.mark (some (.ref x)),calm:=false }
theorem Inv.caught (I:Inv X pins σ H s) (x:Addr):Inv (X.caught x) pins σ H s:=
 ⟨⟨I.ok.mod,I.ok.kind,I.ok.glob,I.ok.blt,I.ok.above,I.ok.inj,I.ok.has,I.ok.cab,fun z=>Bool.noConfusion z,I.ok.frames,I.ok.stk,I.ok.exf,I.ok.bs,I.ok.bsz,I.ok.noex,I.ok.exfs,I.ok.funs,I.ok.frf⟩,I.os,I.bare,I.base,I.loc,I.cell,I.free,I.freeC,I.pin,I.hok,I.len⟩
theorem Inv.uncaught {x:Addr} (J:Inv (X.caught x) pins σ H s) (ok:X.Ok):Inv X pins σ H s:=⟨ok,J.os,J.bare,J.base,J.loc,J.cell,J.free,J.freeC,J.pin,J.hok,J.len⟩
theorem xq {M:ND} {A:HQ} {E:Gs->Gv->Prop} {i:Nat} {n:Str} {Q:Unit->Gv->Prop} (I:Inv X pins σ H s) (hN:X.N.Nodup) (hi:X.N[i]?=some n) (hk:X.env.scope.names.lookup n=some .local) (hv:σ[i]?=some (some v))
  (h:∀s',Inv X pins (σ.set i none) H s'->Q () s'):Hj M A (unbindName X.env n) Q E s:=by
 obtain ⟨m,hn,hl⟩:=id I.loc
 obtain ⟨u,_,q⟩:=hl i n v hi hv (.inl hk)
 have hm:m n=some u:=by
  rcases q with ⟨_,e⟩ | ⟨z,_⟩
  ·exact e
  ·have hk':X.env.kindOf n=some .local:=hk
   rw [hk'] at z
   rcases z with z | z <;> cases z
 have hcls:(X.env.scope.kind==.class||(X.env.scope.kind==.module&&X.env.locals != X.env.globals))=false:=by rw [I.ok.kind];rfl
 have hiσ:i < σ.length:=by rw [I.len];exact (List.getElem?_eq_some_iff.mp hi).1
 refine wpAny_unbindName_local hk hn hm hcls fun h' u' hn' hs=>?_
 have far:∀b o,X.s₀.heap.get? b=some o->b≠X.env.locals:=fun b o e=>Hn (GR (GI e) I.ok.above)
 refine h _ ⟨I.ok,I.os,I.bare,⟨fun b o e n hb hx=>(hs.2 b (far b o e)).trans (I.base.keep b o e n hb hx),fun b o e n hb hx=>?_,I.base.free,fun b o e hx=>?_,I.base.tups,I.base.frzs,I.base.tbls⟩,⟨_,hn',fun j y v' e1 e2 e3=>?_⟩,fun y c e=>?_,I.free,I.freeC,fun p hp=>?_,fun b ob e=>?_,by simpa using I.len⟩
 ·obtain ⟨sl,q⟩:=I.base.slot b o e n hb hx
  exact ⟨sl,(hs.2 b (far b o e)).trans q⟩
 ·obtain ⟨o',q⟩:=I.base.there b o e hx
  exact ⟨o',(hs.2 b (far b o e)).trans q⟩
 ·have hj:j≠i:=fun z=>by
   rw [z,G0 hiσ] at e2
   cases e2
  rw [G3 (J1 hj)] at e2
  obtain ⟨w',r',q⟩:=hl j y v' e1 e2 e3
  refine ⟨w',r',?_⟩
  rcases q with ⟨k,e⟩ | ⟨k,c,e,z⟩
  ·have:y≠n:=fun e=>hj (iD hN e1 (e▸hi))
   exact .inl ⟨k,by simp [this,e]⟩
  ·exact .inr ⟨k,c,e,z.sameBut hs (I.cne y c e)⟩
 ·obtain ⟨w',z⟩:=I.cell y c e
  exact ⟨w',z.sameBut hs (I.cne y c e)⟩
 ·obtain ⟨e,n,ne,nf,d⟩:=I.pin p hp
  exact ⟨(hs.2 p.1 ne).trans e,n,ne,nf,d⟩
 ·refine (I.hok b ob e).stay (fun c w' hc q=>(hs.2 c ?_).trans q) (fun _ q=>q) fun _ _ q=>q
  rintro rfl
  rcases hc with rfl | hc
  ·rw [I.free] at e;cases e
  ·rw [I.free] at hc;cases hc
end
section
variable {X:Cx} {k i:Nat} {f CB:Addr} {fd:IU} {ps:List Str} {sp:Sp} {e0:Expr} {es:List Expr} {ta:TA} {x cb en:Str} {b0:Stmt} {suite:List Stmt} {th:TS} {p pos pe np hp tp:Pos}
noncomputable def unE (D:Ends) (i:Nat):Ends:={ nx:=fun σ H=>D.nx (σ.set i none) H,rt:=D.rt,bk:=fun σ H=>D.bk (σ.set i none) H,ct:=fun σ H=>D.ct (σ.set i none) H }
end
noncomputable def eh (K:Frag) (C:Addr):Bool:=(kitCls K (.ref C) (.ref C)==some true)&&iw K C&&(clsIn K C).isSome
theorem eh.kit {K:Frag} {x C:Addr} (h:eh K C=true):KitX K (.ref x) (.ref C) (ExcAt x C):=by
 simp only [eh,G5,beq_iff_eq] at h
 exact tQ h.1.1 h.1.2 h.2
noncomputable def qD:Gs->V
 | .ref C=>.ref C
 | .type T=>.ty T
 | _=>.non
noncomputable def isC:Gs->Bool
 | .ref _=>true
 | .type _=>true
 | _=>false
theorem lY {c u:Gs} (h:isC c=true) (r:RelV (qD c) u):u=c:=by
 match c,h,r with
 | .ref _,_,r=>exact r
 | .type _,_,r=>exact r
theorem jK:∀{cs us:List Gs},cs.all isC=true->Vals (cs.map qD) us->us=cs
 | [],_,_,.nil=>rfl
 | c::cs,_,h,.cons r t=>by
  simp only [List.all_cons,G5] at h
  rw [lY h.1 r,jK h.2 t]
noncomputable def tR (K:Gn):List V->Hp->VK->Prop:=fun xs H Q=>∃y o C c b,xs=[.ref y,c]/\H y=some (.frz o (.own y))/\o.cls=.ref C/\eh K C=true /\
 ((∃cv,c=qD cv/\isC cv=true/\kitOne K (.ref C) cv=some b)\/(∃t cs,c=.ref t/\SqT K H t (cs.map qD)/\cs.all isC=true/\kitAny K (.ref C) cs=some b))/\Q (.bl b) H
theorem jL {X:Cx}:cL X (.builtin "isinstance") (tR X.K):=by
 rintro pins s σ H xs us Q I r ⟨y,o,C,c,b,e,hy,hc,ok,h,q⟩
 subst e
 obtain ⟨u,w',rfl,rx,rc⟩:=vals2 r
 cases rx
 have at_:ExcAt y C s.heap:=⟨o,(show bA X.prog X.w H s.heap y (.frz o (.own y)) from I.hok y _ hy).1,hc⟩
 have fin:∀tk,EP X pins σ Q (.bool b) { s with toks:=tk }:=fun tk=>⟨.bl b,H,I.tok tk,rfl,q⟩
 rcases h with ⟨cv,rfl,hi,e⟩ | ⟨t,cs,rfl,hq,hi,e⟩
 ·rw [lY hi rc]
  exact Hy (eh.kit ok) I.kIn at_ e (fun z=>nomatch z) fin
 ·cases rc
  obtain ⟨its,r2,tp,_⟩:=I.tuple hq
  cases jK hi r2
  obtain ⟨o2,h1,h2,n,h3⟩:=tp
  obtain ⟨oc,od,odt,osl⟩:=o2
  simp only at h2 h3
  subst h2;subst h3
  exact PySem.W.kia_tup (eh.kit ok) I.kIn at_ h1 e (fun z=>nomatch z) fin
noncomputable def ja:List Addr->TA
 | []=>jZ
 | c::r=>ez (tC (.ref c)) (ja r)
theorem lZ:∀{cs:List Addr} {Q:List V->Hp->Prop},Q (cs.map V.ref) H->ja cs σ H Q
 | [],_,h=>h
 | _::cs,_,h=>lZ (cs:=cs) h
theorem tS {X:Cx}:PA X [] (ja []):=gA
theorem cF {X:Cx} {n:Str} {p:Pos} {c:Addr} {es:List Expr} {cs:List Addr} (hm:X.mg n=some (.ref c)) (hr:PA X es (ja cs)) (hg:Gl X n:=by rfl) (hd:(n==("__debug__":Str))=false:=by decide)
  (hs:GM (.Name n p::es) X.env=(false,eval (.Name n p) X.env)::GM es X.env:=by rfl):PA X (.Name n p::es) (ja (c::cs)):=cZ (hV hg hm rfl hd) hr hs
end L2
namespace VL
open PySem L2 PySem.W
section
variable {K:Gn} {X:Cx} {m:Bool} {i:Nat} {en cn:Str} {p1 p2 p3 p4 pos:Pos} {es:List Expr} {cs:List Addr} {c:Gs}
theorem EG {H0 H:Hp} {C:Addr} (k:OK K H0 Z σ H S) (h:S[i]?=some (.val (.exc (.ref C)))):∃y o,σ[i]?=some (some (.ref y))/\H y=some (.frz o (.own y))/\o.cls=.ref C:=by
 obtain ⟨o,e,v,rfl,r⟩:=k.ownAt h
 cases r with | exc n hh hc=>exact ⟨_,_,e,hh,hc⟩
noncomputable def zh (K:Frag) (i:Nat) (c:Gs):VT:=fun S Q=>∃C b,S[i]?=some (.val (.exc (.ref C)))/\eh K C=true/\kitOne K (.ref C) c=some b/\Q (.d (.bl b)) S
theorem kF (hK:X.K=K) (hc:isC c=true) (hcn:PE X (.Name cn p3) (tC (qD c))) (hi:X.N[i]?=some en) (hv:Vis X.env.scope en) (hg:Gl X "isinstance") (hm:X.mg "isinstance"=none) (hd:(en==("__debug__":Str))=false:=by decide) (hcd:(en==("__classdict__":Str))=false:=by decide)
  (he:GM [.Name en p2,.Name cn p3] X.env=[(false,eval (.Name en p2) X.env),(false,eval (.Name cn p3) X.env)]:=by rfl) :
  VE K X m (.Call (.Name "isinstance" p1) [.Name en p2,.Name cn p3] [] pos) (tCB (tR K) (ez (bZ i) (ez (tC (qD c)) jZ))) (zh K i c):=
 ⟨by subst hK;exact eE jL hg hm aY (cZ (mG hi hv hd hcd) (cZ hcn gA)),fun H0 Z σ H S Q C k t hcc=>by
  obtain ⟨C0,b,h1,h2,h3,q⟩:=t
  obtain ⟨y,o,e1,e2,e3⟩:=EG k h1
  exact ⟨_,e1,y,o,C0,_,b,rfl,e2,e3,h2,.inl ⟨c,rfl,hc,h3⟩,hcc _ _ (.d (.bl b)) S k .refl (Rep.bl b) q⟩⟩
noncomputable def zi (K:Frag) (i:Nat) (cs:List Addr):VT:=fun S Q=>∃C b,S[i]?=some (.val (.exc (.ref C)))/\eh K C=true/\kitAny K (.ref C) (cs.map Hf)=some b/\Q (.d (.bl b)) S
theorem xr {x1} (hK:X.K=K) (hcs:PA X es (ja cs)) (hz:cs.length < 100) (hi:X.N[i]?=some en) (hv:Vis X.env.scope en) (hg:Gl X "isinstance") (hm:X.mg "isinstance"=none) (hd:(en==("__debug__":Str))=false:=by decide) (hcd:(en==("__classdict__":Str))=false:=by decide)
  (he:GM [.Name en p2,.Tuple es x1 p3] X.env=[(false,eval (.Name en p2) X.env),(false,eval (.Tuple es x1 p3) X.env)]:=by rfl) :
  VE K X m (.Call (.Name "isinstance" p1) [.Name en p2,.Tuple es x1 p3] [] pos) (tCB (tR K) (ez (bZ i) (ez (Ar (ja cs)) jZ))) (zi K i cs):=
 ⟨by subst hK;exact eE jL hg hm aY (cZ (mG hi hv hd hcd) (cZ (rB hcs) gA)),fun H0 Z σ H S Q C k t hcc=>by
  obtain ⟨C0,b,h1,h2,h3,q⟩:=t
  obtain ⟨y,o,e1,e2,e3⟩:=EG k h1
  refine ⟨_,e1,lZ ⟨by rw [Gx,Hv];lia,fun p hp=>?_⟩⟩
  have g:=aI (o:=.tup (cs.map V.ref)) hp
  refine ⟨y,o,C0,_,b,rfl,by rw [g y (by rw [e2];simp)];exact e2,e3,h2,.inr ⟨p,cs.map Hf,rfl,.inl (.inl ?_),by simp [isC],h3⟩,hcc _ _ (.d (.bl b)) S (k.grow g) (.grow g) (Rep.bl b) q⟩
  rw [ay,HC]
  rfl⟩
end
end VL
namespace VL
open PySem L2 PySem.W
noncomputable def spX (K:Gn) (bad:List D->Addr->Prop):Sp:=fun vs H _ E=>∃ds C,Reps K Any AnyF H vs ds/\bad ds C/\∀H',(∀a,H a≠none->H' a=H a)->E (.ref C) none H'
noncomputable def nq (P:G2) (w:HJ) (K:Gn) (mg:Str->Option Gs) (base:Heap) (k:Nat) (x:Str) (ps:List Str) (bad:List D->Addr->Prop):Prop:=
 ∃(f:Addr) (fd:IU),iI P w K mg base (CX1 P w) k f fd ps (spX K bad)/\mg x=some (.ref f)/\Jw K (.ref f)=true/\Binds K fd ps []
noncomputable def Fz (Hin:Hp) (Z:AP) (σ:St) (S:List Sl) (H:Hp):Prop:=∀a,Hin a≠none->H a=Hin a/\NM Z σ S a
theorem Fz.step {Hin H H':Hp} {σ σ':St} {S S':List Sl} (f:Fz Hin Z σ S H) (st:Step Z σ S H σ' S' H'):Fz Hin Z σ' S' H':=fun a e=>by
 obtain ⟨e1,n⟩:=f a e
 obtain ⟨e2,n2⟩:=st.1 a n (by rw [e1];exact e)
 exact ⟨e2.trans e1,n2⟩
structure VXs (K:Gn) (X:Cx) (Hin:Hp) (E:XK) (sts:List Stmt) (ts:TS) (t:(Addr->Prop)->List Sl->Prop):Prop where
 ps:PSs X sts ts
 snd:∀Wc:Addr->Prop,(∀C,Wc C->∀H',(∀a,Hin a≠none->H' a=Hin a)->E (.ref C) none H')->∀H0 Z σ H S D,OK K H0 Z σ H S->Fz Hin Z σ S H->t Wc S->ts D σ H
section
variable {K:Gn} {X:Cx} {Hin:Hp} {E:XK} {sts rest A:List Stmt} {st:Stmt} {ts us:TS} {t u:(Addr->Prop)->List Sl->Prop} {v:VTS} {pos:Pos}
theorem tT:VXs K X Hin E sts fC (fun _ _=>False):=⟨e7,fun _ _ _ _ _ _ _ _ _ _ h=>h.elim⟩
theorem tU {C:Addr} {bmB:List Gs} {B newId initId:String} {x z:Str} {j:Nat} {np p cpos pos:Pos} (T:eQ X Hin E) (FB:ExcBaseFacts B newId initId bmB) (ec:excIn X.K C bmB newId=true) (hm:X.mg x=some (.ref C)) (hc:X.calm=true) (hg:Gl X x:=by rfl) (hd:(x==("__debug__":Str))=false:=by decide)
  (he:GM [.Constant (.str z) j p] X.env=[(false,eval (.Constant (.str z) j p) X.env)]:=by rfl) :
  VXs K X Hin E [.Raise (some (.Call (.Name x np) [.Constant (.str z) j p] [] cpos)) none pos] (tO Hin E C) (fun Wc _=>Wc C):=
 ⟨nV (tP T FB ec hm hc hg hd he),fun Wc hE H0 Z σ H S D k f h=>⟨fun b e=>(f b e).1,hE C h H fun b e=>(f b e).1⟩⟩
theorem EH {c:Expr} {tc:TT} {wc:VTT} (hc:VTe K X c tc wc) (ha:VXs K X Hin E A ts t) (hr:VXs K X Hin E rest us u):VXs K X Hin E (.If c A [] pos::rest) (qZ (Af tc ts qY) us) (fun Wc S=>wc S fun b S1=>if b=true then t Wc S1 else u Wc S1):=
 ⟨fR (yG hc.pe ha.ps jX) hr.ps,fun Wc hE H0 Z σ H S D k f h=>hc.snd H0 Z σ H S _ _ k h fun b H1 S1 k1 st1 q=>by
  cases b with
  | true=>rw [if_pos rfl] at q ⊢;exact ha.snd Wc hE H0 Z σ H1 S1 _ k1 (f.step st1) q
  | false=>rw [if_neg Gw] at q ⊢;exact hr.snd Wc hE H0 Z σ H1 S1 D k1 (f.step st1) q⟩
theorem xt {k j:Nat} {x:Str} {ps:List Str} {bad:List D->Addr->Prop} {e:Expr} {es:List Expr} {tr:TA} {vr:VTA} {p0 cpos:Pos} (T:eQ X Hin E) (F:nq X.prog X.w X.K X.mg X.base k x ps bad) (hK:X.K=K) (hr:ck j X.A) (ha:VA K X false (e::es) tr vr)
  (hk:k<=j:=by decide) (hg:Gl X x:=by rfl) (hdb:(x==("__debug__":Str))=false:=by decide) (he:GM (e::es) X.env=(false,eval e X.env)::GM es X.env:=by rfl)
  (hpl:(JF cpos (GM es X.env)).any (·.1)=false:=by rfl) (hs:IN (.Call (.Name x p0) (e::es) [] cpos) none pos.line X.env=pure false:=by rfl) :
  VXs K X Hin E (.Expr (.Call (.Name x p0) (e::es) [] cpos) pos::rest) (qZ (nW (gS (spX K bad) [] (fun c _ H'=>(∀b,Hin b≠none->H' b=Hin b)/\E c none H') tr)) fC) (fun Wc S=>vr S fun rs S1=>∃ds C,gets S1 rs=some ds/\bad ds C/\Wc C):=by
 subst hK
 obtain ⟨f,fd,F,hm,kp,hb⟩:=F
 refine ⟨fR (jY (j4 F (hr.mono hk) hg hm kp hb .nil (fun pins σ H s e s' I h=>T.next pins σ H s e s' I h) ha.pe hdb he hpl) hs) e7,fun Wc hE H0 Z σ H S D k f h=>?_⟩
 refine ha.snd H0 Z σ H S _ _ k h fun vs H1 rs S1 k1 st1 rrs zr1=>?_
 obtain ⟨ds,C,e,hb,hw⟩:=zr1
 have f1:=f.step st1
 refine ⟨ds,C,by rw [Ia];exact rrs.gets k1 e,hb,fun H' g=>?_⟩
 have fr:∀b,Hin b≠none->H' b=Hin b:=fun b e=>by
  have q:=(f1 b e).1
  rw [<- q]
  exact g b (by rw [q];exact e)
 exact ⟨fr,hE C hw H' fr⟩
theorem zj {P:G2} {w:HJ} {mg:Str->Option Gs} {base:Heap} {x:Str} {st:Stmt} {N ps:List Str} {k:Nat} {bad:List D->Addr->Prop} (S:Src K mg x st) (sc:aE N ps (aj st))
  (hb:∀(kV doc pm:Gs) (an:Option Addr) (cdv ct:Gs) (us:List Gs),us.length=ps.length->Lo (Iq x x (cq st) (bC st) (aj st) .none kV doc pm an cdv ct) ⟨us,[]⟩=pure (ps.zip us))
  (len:∀ds C,bad ds C->ds.length=ps.length)
  (hbody:∀(f:Addr) (cdv:Gs) (A:HQ) (outer:List Env) (s:Gv) (H:Hp) (E:XK),ck k (A.deeper (JD x (aj st) s.heap.objs.size f cdv))->eQ (gB (CX1 P w) P w K mg base N x (aj st) f cdv A outer s H E) H E ->
   ∃ts t,VXs K (gB (CX1 P w) P w K mg base N x (aj st) f cdv A outer s H E) H E (bC st) ts t/\∀ds C,bad ds C->t (·=C) (slots N.length ds)):nq P w K mg base (k+1) x ps bad:=by
 obtain ⟨f,fd,F,hm⟩:=S
 obtain ⟨oc,od,kV,doc,pm,an,cdv,ct,osl,rfl,lk,hcd⟩:=F.ex
 refine ⟨f,_,yL lk hcd sc (fun vs H Q E zq1=>by obtain ⟨ds,C,r,h,_⟩:=zq1;rw [r.length];exact len ds C h) fun A outer s H vs Q E hr ⟨ds,C,r,h,fin⟩=>?_,hm,F.kp,F.binds hb⟩
 obtain ⟨ts,t,vx,q⟩:=hbody f cdv A outer s H E hr qC
 refine ⟨ts,vx.ps,vx.snd (·=C) (fun C' e H' g=>by subst e;exact fin H' g) H _ _ H _ _ (lQ (N:=N) r) (fun a e=>⟨rfl,?_⟩) (q ds C h)⟩
 rintro (⟨j,s,g1,g2,_⟩ | z)
 ·rw [cH g1] at g2;cases g2
 ·exact z
end
end VL
namespace VL
open PySem L2 PySem.W
section
variable {K:Gn} {H H0:Hp} {Z:AP} {σ:St} {S:List Sl} {i:Nat}
theorem OK.letGo (k:OK K H0 Z σ H S) (hi:i < S.length):OK K H0 Z (σ.set i none) H (S.set i .no)/\Step Z σ S H (σ.set i none) (S.set i .no) H:=by
 have n:∀a,NM Z σ S a->NM Z (σ.set i none) (S.set i .no) a:=fun a x z=>by
  rcases iX z with z | ⟨z,_⟩
  ·exact x z
  ·cases z
 exact ⟨k.put hi (fun a x _=>⟨n a x,rfl⟩) (fun _ _ _ _ _ _ _=>rfl) trivial (fun _ _ _ _ _ _ z=>nomatch z) (fun _ e=>e) k.zl (fun _ z=>nomatch z),fun a x _=>⟨rfl,n a x⟩,fun _ e=>e,fun _ _ _=>rfl⟩
theorem NP.letGo {a:Addr} (h:NP σ S a):NP (σ.set i none) (S.set i .no) a:=fun j ad ns g1 g2=>by
 by_cases hj:i=j
 ·subst hj
  by_cases hl:i < S.length
  ·rw [G0 hl] at g1;cases g1
  ·rw [Jn (by simpa using hl)] at g1;cases g1
 ·rw [G3 hj] at g1 g2
  exact h j ad ns g1 g2
noncomputable def unV (V:aT) (i:Nat):aT:={ nx:=fun S=>i < S.length/\V.nx (S.set i .no),rt:=fun d S=>i < S.length/\V.rt d (S.set i .no),bk:=fun S=>i < S.length/\V.bk (S.set i .no),ct:=fun S=>i < S.length/\V.ct (S.set i .no) }
theorem Lf.letGo {V:aT} {E:Ends} (l:Lf K H0 Z σ S H V E):Lf K H0 Z σ S H (unV V i) (unE E i) where
 nx:=fun σ' H' S' k st zt1=>by obtain ⟨hi,q⟩:=zt1;exact l.nx _ _ _ (k.letGo hi).1 (st.trans (k.letGo hi).2) q
 bk:=fun σ' H' S' k st zt1=>by obtain ⟨hi,q⟩:=zt1;exact l.bk _ _ _ (k.letGo hi).1 (st.trans (k.letGo hi).2) q
 ct:=fun σ' H' S' k st zt1=>by obtain ⟨hi,q⟩:=zt1;exact l.ct _ _ _ (k.letGo hi).1 (st.trans (k.letGo hi).2) q
 rt:=fun v d σ' H' S' k st r zt1=>by obtain ⟨hi,q⟩:=zt1;exact l.rt v d _ _ _ (k.letGo hi).1 (st.trans (k.letGo hi).2) (r.mono (fun a n _=>⟨NP.letGo n,rfl⟩) fun _ x=>x) q
end
end VL
end
section
namespace VL
open PySem L2 PySem.W
section
variable {i:Nat} {va:VT} {vr:VTA} {S:List Sl} {Q:VR->List Sl->Prop} {q:D->Prop}
theorem nu {K:Frag} {c:Gs} {C:Addr} {b:Bool} (e:S[i]?=some (.val (.exc (.ref C)))) (ok:eh K C=true) (hk:kitOne K (.ref C) c=some b) (h:Q (.d (.bl b)) S):zh K i c S Q:=⟨C,b,e,ok,hk,h⟩
theorem BH {K:Frag} {cs:List Addr} {C:Addr} {b:Bool} (e:S[i]?=some (.val (.exc (.ref C)))) (ok:eh K C=true) (hk:kitAny K (.ref C) (cs.map Hf)=some b) (h:Q (.d (.bl b)) S):zi K i cs S Q:=⟨C,b,e,ok,hk,h⟩
end
end VL
namespace VL
open PySem L2 PySem.W
section
variable {K:Gn} {X:Cx} {m:Bool} {e:Expr} {te:TE} {va:VT} {pos pos':Pos} {i:Nat} {x:Str}
theorem OK.setFre {H H0:Hp} (k:OK K H0 Z σ H S) (hi:i < S.length) (h:Rep K (NM Z σ S) (Fr H0) H v d):OK K H0 Z (σ.set i (some v)) H (S.set i (.fre d))/\Step Z σ S H (σ.set i (some v)) (S.set i (.fre d)) H:=by
 have n:∀a,NM Z σ S a->NM Z (σ.set i (some v)) (S.set i (.fre d)) a:=fun a x z=>by
  rcases iX z with z | ⟨z,_⟩
  ·exact x z
  ·cases z
 exact ⟨k.put hi (fun a x _=>⟨n a x,rfl⟩) (fun _ _ _ _ _ _ _=>rfl) ⟨v,rfl,h.mono (fun a x _=>⟨n a x,rfl⟩) fun _ x=>x⟩ (fun _ _ _ _ _ _ z=>nomatch z) (fun _ e=>e) k.zl (fun _ z=>nomatch z),fun a x _=>⟨rfl,n a x⟩,fun _ e=>e,fun _ _ _=>rfl⟩
@[irreducible] noncomputable def md (i:Nat) (V:aT):VR->List Sl->Prop:=fun r S1=>∃d,r=.d d/\i < S1.length/\V.nx (S1.set i (.fre d))
noncomputable def zk (i:Nat) (va:VT):VTS:=fun V S=>va S (md i V)
theorem BI {V:aT} (h:va S (md i V)):zk i va V S:=h
theorem xu {V:aT} (hi:i < S.length) (h:V.nx (S.set i (.fre d))):md i V (.d d) S:=by unfold md;exact ⟨d,rfl,hi,h⟩
theorem xw (hN:X.N.Nodup) (hi:X.N[i]?=some x) (hx:Loc X.env.scope x) (h:VE K X true e te va) (hs:IN e (some (.Name x pos')) pos.line X.env=pure false:=by rfl)
  (hf:X.fn x=true\/X.env.scope.names.lookup x=some .local:=by first | exact .inl rfl | exact .inr rfl | assumption):VS K X (.Assign [.Name x pos'] e pos) (cW te (bF i)) (zk i va):=
 ⟨cB hN hi hx h.pe hs hf,fun H0 Z σ H S V E k t l=>h.snd H0 Z σ H S _ _ k t fun v H' r S' k' st rr q=>by
  unfold md at q
  obtain ⟨d,e,hi,q⟩:=q
  subst e
  have r:Rep K (NM Z σ S') (Fr H0) H' v d:=(show Rep K (NM Z σ S') (FM H0 true) H' v d from rr).mono (fun _ n _=>⟨n,rfl⟩) fun _ x=>x rfl
  exact l.nx _ _ _ (k'.setFre hi r).1 (st.trans (k'.setFre hi r).2) q⟩
noncomputable def zm (i:Nat):VT:=fun S Q=>∃d,(S[i]?=some (.fre d)\/S[i]?=some (.val d)/\flat d=true)/\Q (.d d) S
theorem ft (i:Nat) (h:PE X e (bZ i)):VE K X m e (bZ i) (zm i):=⟨h,fun H0 Z σ H S Q C k zq1 hc=>by
 obtain ⟨d,h,q⟩:=zq1
 rcases h with h | ⟨h,hf⟩
 ·obtain ⟨o,h1,v,rfl,r⟩:=k.ownAt h
  exact ⟨v,h1,hc _ _ (.d d) _ k .refl (show Rep K _ _ _ _ _ from r.mono (fun _ n _=>⟨n,rfl⟩) fun _ x _=>x) q⟩
 ·obtain ⟨o,h1,v,rfl,r⟩:=k.ownAt h
  exact ⟨v,h1,hc _ _ (.d d) _ k .refl (show Rep K _ _ _ _ _ from Rep.flat r hf) q⟩⟩
theorem BJ {Q:VR->List Sl->Prop} (h:S[i]?=some (.fre d)\/S[i]?=some (.val d)/\flat d=true) (q:Q (.d d) S):zm i S Q:=⟨d,h,q⟩
end
end VL
namespace VL
open PySem L2 PySem.W
section
variable {K:Gn} {X:Cx} {a b:Expr} {ta tb:TE} {pos:Pos}
noncomputable def zo (t u:VTN):VTN:=fun S Q=>t S fun ds S1=>u S1 fun es S2=>ds.length+es.length<=1000000/\Q (ds++es) S2
theorem pq {t u:VTN} (h1:VN K X a ta t) (h2:VN K X b tb u):VN K X (.BinOp a .Add b pos) (tOp AA ta tb) (zo t u):=⟨iG rG h1.pe h2.pe,fun H0 Z σ H S Q C k t hc=>
 h1.snd H0 Z σ H S _ _ k t fun c us ds H1 H1' S1 k1 st1 ha1 hg1 hl1 rr1 t1=>h2.snd H0 Z σ H1' S1 _ _ (k1.grow hg1) t1 fun a' vs es H2 H' S2 k2 st2 ha hg hl rr zq1=>by
  obtain ⟨hlen,q⟩:=zq1
  obtain ⟨ec,nc2⟩:=st2.1 c (k1.nm ha1) (by simp [hl1])
  have ec':H' c=some (.lst us):=by rw [hg c (by rw [ec,hl1];simp),ec,hl1]
  have r1:Reps K (NM Z σ S2) (Fr H0) H' us ds:=((rr1.mono (N':=NM Z σ S1) (fun b n e=>⟨n.1,rfl⟩) (fun _ x=>x)).step st2).mono (fun b n e=>⟨n,hg b e⟩) fun _ x=>x
  refine ⟨c,a',us,vs,rfl,rfl,ec',hl,by rw [rr1.length,rr.length,Hv];lia,fun p hp=>?_⟩
  refine hc p _ _ H' _ S2 (k2.grow hg) ((st1.trans (.grow hg1)).trans (st2.trans (.grow hg))) hp (aI hp) ay (Reps.append ?_ ?_) q
  ·exact bT hp (r1.mono (fun _ n _=>⟨n,rfl⟩) fun _ x _=>x)
  ·exact bT hp (rr.mono (fun _ n _=>⟨n.1,rfl⟩) fun _ x _=>x)⟩
@[irreducible] noncomputable def kD1 (u:VTN) (Q:List D->List Sl->Prop):List D->List Sl->Prop:=fun ds S1=>u S1 fun es S2=>ds.length+es.length<=1000000/\Q (ds++es) S2
@[irreducible] noncomputable def kD2 (ds:List D) (Q:List D->List Sl->Prop):List D->List Sl->Prop:=fun es S2=>ds.length+es.length<=1000000/\Q (ds++es) S2
theorem BK {t u:VTN} {Q:List D->List Sl->Prop} (h:t S (kD1 u Q)):zo t u S Q:=by unfold kD1 at h;exact h
theorem EI {u:VTN} {Q:List D->List Sl->Prop} (h:u S (kD2 ds Q)):kD1 u Q ds S:=by unfold kD1;unfold kD2 at h;exact h
theorem zp {ds es:List D} {Q:List D->List Sl->Prop} (hl:ds.length+es.length<=1000000) (h:Q (ds++es) S):kD2 ds Q es S:=by unfold kD2;exact ⟨hl,h⟩
end
end VL
end
section
namespace L2
open PySem PySem.Spec PyProof.Rows PySem.W
section
variable {X:Cx}
theorem DctP.at {D:Addr} {h h':Heap} (d:DctP D es h) (e:h'.get? D=h.get? D):DctP D es h':=
 let ⟨z,m,nd,xs,ev,o,ds,ep,q,r⟩:=d;⟨z,m,nd,xs,ev,o,ds,ep,e.trans q,r⟩
theorem DctP.nocell {D:Addr} {h:Heap} {o:Obj} (d:DctP D es h) (e:h.get? D=some o):∀v,o.data≠.cell v:=fun v z=>by
 obtain ⟨_,_,_,_,_,o',ds,ep,q,_,hd,_⟩:=d
 rw [e] at q;cases q
 rw [hd] at z;cases z
theorem pz {D:Addr} {h:Heap} (e:h.get? D=some { cls:=.type "dict",data:=.dict #[] }) (hb:Jo < D):DctP D [] h:=
 ⟨IG _,beq_eq_false_iff_ne.mpr (J1 (Hn hb)),Kg,[],.nil,_,#[],0,e,⟨rfl,rfl,rfl⟩,rfl,rfl⟩
theorem pA {s:Gv} {a:Addr} (I:Inv X pins σ H s) (d:DctP a es s.heap) (k:b9 X.K H es):es.length<=GZ/\(a==Jo)=false/\(es.map (·.1)).Nodup /\
  ∃xs,EV es xs/\s.heap.DictOfH (KA (KT.numKind X.prog X.w)) a xs:=by
 obtain ⟨z,m,nd,xs,ev,o,ds,ep,h1,h2,h3,h4⟩:=d
 refine ⟨z,m,nd,xs,ev,o,ds,ep,h1,h2,h3,h4,fun x hx=>?_,ev.keys▸nd⟩
 obtain ⟨e,he,e1,e2⟩:=ev.mem x hx
 exact e1▸e2▸di I (k e he)
noncomputable def tV (K:Gn) (wi:TI) (n:Nat) (ix:List Nat) (g:TG) (tc:TT) (tk tv:TE):TE:=fun σ H Q=>wi σ H fun J H1=>∃W:Nat->Nat->List (List Int×Addr×V)->Hp->Prop,(∃m,W 0 m [] H1)/\∀i m es H2,W i m es H2 ->
 (J.stop i H2/\∀D ob,H2 D=none->Q (.ref D) (upd H2 D (bS D ob es))) \/
 (J.go i H2/\es.length < GZ/\∃Nx:List (List Int×Addr×V)->Hp->Prop,(∀es' H',Nx es' H'->∃m',m' < m/\W (i+1) m' es' H') /\
  ∀x H3,J.yld i H2 x H3->g x (capt n ix σ) H3 fun σ2 H4=>tc σ2 H4 fun b H5=>if b=true then tk σ2 H5 fun y H6=>tv σ2 H6 fun v H7=>∃b ms,y=.ref b/\SqN K H7 b ms/\b9 K H7 es/\Nx (cX es ms b v) H7 else Nx es H5)
theorem tW {kx vx target iter:Expr} {ifs:List Expr} {scope:Jz} {pos:Pos} {tg cs:List Str} {wi:TI} {g:TG} {tc:TT} {tk tv:TE} (hu:X.A.units+64 < Jt) (S:bf X scope tg cs ix) (hcalm:X.calm=true) (kg:cR tg.length ix g)
    (hi:PI X target iter wi) (hg:∀C fp s H,PG (ao X scope (tg++cs) C fp s H) target g) (hc:∀C fp s H,PTs (ao X scope (tg++cs) C fp s H) ifs tc) (hk:∀C fp s H,PE (ao X scope (tg++cs) C fp s H) kx tk) (hv:∀C fp s H,PE (ao X scope (tg++cs) C fp s H) vx tv)
    (hs:∀x,G7 iter X.env x=pure x:=by intro _;rfl):PE X (.DictComp kx vx [⟨target,iter,ifs,0⟩] scope pos) (tV X.K wi tg.length ix g tc tk tv):=by
  intro pins s σ H Q I h
  rw [arm_eval_DictComp]
  refine JI (use:=none) (cl:=cr X.env scope.names []) rfl hs (fH fun n hn=>I.ok.has n (S.out n hn)) S.kind S.names ?_
  refine G9 (hi pins s σ H _ I h) (fun v s1 h1=>G9 h1 (fun itv s2 h2=>?_) fun _ _ e=>e) fun _ _ e=>e
  obtain ⟨it,fp,tn,J,H2,rfl,I2,T,st2,f2,W,⟨m0,w0⟩,turn⟩:=h2
  refine HE (Ko S.nocell (by intro y hy;simp at hy) (fun h1 hns1 hsb1=>?_) S.kind)
  dsimp only at hns1 hsb1 ⊢
  generalize hP:s2.heap.push { cls:=.type "dict",dict:=none,data:=.dict #[] }=P2 at hns1 hsb1 ⊢
  have hCs:P2.objs.size=s2.heap.objs.size+1:=by rw [<- hP,Kf]
  have hDC:s2.heap.objs.size≠P2.objs.size:=by rw [hCs];exact Hn (Ig _)
  have hCle:s2.heap.objs.size<=P2.objs.size:=by rw [hCs];exact JC _
  generalize hCg:P2.objs.size=C at *
  have old:∀b o,s2.heap.get? b=some o->h1.get? b=some o:=fun b o e=>hsb1.extBut b o (Hn (GR (GI e) hCle)) (Gu _ (hP▸Gu _ e))
  generalize hDg:s2.heap.objs.size=D at *
  have hD0:h1.get? D=some { cls:=.type "dict",data:=.dict #[] }:=hsb1.extBut _ _ hDC (Gu _ (hP▸hDg▸GQ _ rfl))
  have nC:H2 C=none:=I2.hok.fresh (by rw [hDg];exact hCle)
  have nD:H2 D=none:=I2.hok.fresh (by rw [hDg];exact Gz _)
  have fo:∀b∈fp,∃o,s2.heap.get? b=some o:=fun b hb=>let ⟨o,e,_⟩:=T.obj _ _ st2 b hb;⟨o,e⟩
  have Dfp:D∉fp:=fun z=>by
    obtain ⟨o,e⟩:=fo D z
    have:=GI e
    rw [hDg] at this
    exact absurd this (Ic _)
  have Dfs:D∉frs X.stack:=fun z=>by
    rcases List.mem_cons.mp (I2.stkSub D z) with e | e
    · have:=I2.lt
      rw [<- e,hDg] at this
      exact absurd this (Ic _)
    · exact I2.nofs (by rw [hDg];exact Gz _) e
  have DcY:∀x c,(cr X.env scope.names []).lookup x=some c->c≠D:=fun x c e=>by
    rcases eF (HF e) with h | h
    · cases h
    · exact (I2.fpOk (H':=H2) (b:=D) (by rw [hDg];exact Gz _) nD).2.2.2.2.1 x c h
  -- the block's context
  have Yok:∀s4:Gv,s4={ s2 with heap:=h1,toks:=s2.toks+([]:List (Str×Gs)).length }->Inv (ao X scope (tg++cs) C fp s2 H2) [] (capt tg.length ix σ) H2 s4:=by
    rintro s4 rfl
    exact iN S I2 f2 fo (by rw [hDg];exact hCle) old (by simpa using hns1) rfl I2.bare nC
  -- the loop
  have loop:∀s4:Gv,s4={ s2 with heap:=h1,toks:=s2.toks+([]:List (Str×Gs)).length } ->
      JB (Ha X.prog X.w) X.A (.compLoop (.DictComp kx vx [⟨target,iter,ifs,0⟩] scope pos) 0 (.ref it) (.ref D) (Ks scope (cr X.env scope.names []) C X.env)) (NR (Ha X.prog X.w) X.A X.xe none (EP X pins σ Q) (.ref D) C) s4:=by
    intro s4 e4
    refine LN rfl (fun n s'=>∃i es o H',Inv (ao X scope (tg++cs) C fp s2 H2) [] (capt tg.length ix σ) H' s'/\tn i s'.heap/\(∀b∈fp,H' b=none)/\H' D=none/\s'.heap.get? D=some o/\DctP D es s'.heap/\W i n es H')
      ?_ m0 ⟨0,[],_,H2,Yok s4 e4,?_,fun b hb=>(f2 b hb).1,nD,by rw [e4];exact hD0,pz (by rw [e4];exact hD0) (by rw [<- hDg];exact kA I2),w0⟩
    · rintro n s5 ⟨i,es,o,H5,I5,st5,fr5,d5,o5,v5,w5⟩
      show Hj _ X.A ((MF (.DictComp kx vx [⟨target,iter,ifs,0⟩] scope pos) 0 (.ref it) (.ref D) (Ks scope (cr X.env scope.names []) C X.env)).onRaise (fun x=>do Nz x (Ks scope (cr X.env scope.names []) C X.env);LO x)) _ _ s5
      refine Ml ?_
      rw [compTurn_dict]
      have pin0:Inv (ao X scope (tg++cs) C fp s2 H2) [(D,o)] (capt tg.length ix σ) H5 s5:=I5.pins_of fun p hp=>by
        have e:p=(D,o):=by simpa using hp
        subst e
        exact ⟨o5,d5,hDC,Dfs,v5.nocell o5⟩
      have fpY:∀{H':Hp},(∀b∈fp,H' b=none)->∀b∈fp,gY (ao X scope (tg++cs) C fp s2 H2) [(D,o)] H' b:=fun hn b hb=>
        ⟨hn b hb,(I5.ok.exf b hb).1,fun z=>I5.ok.exfs b hb z,.inl hb,(I5.ok.exf b hb).2,fun p hp z=>by
          have hp:p∈([]:List (Addr×Obj))++[(D,o)]:=hp
          have e:p=(D,o):=by simpa using hp
          subst e
          have z:D=b:=z
          exact Dfp (z▸hb)⟩
      refine Gp (Il (Gp ?_))
      rcases turn i n es H5 w5 with ⟨stop,qn⟩ | ⟨go,hz,Nx,hN,step⟩
      · refine thn (T.done (ao X scope (tg++cs) C fp s2 H2) rfl rfl rfl hcalm i _ s5 _ H5 _ pin0 (fpY fr5) st5 stop) fun r s6 zr1=>?_
        obtain ⟨hr,I6⟩:=zr1
        subst hr
        refine GA ?_
        obtain ⟨mC,hnsC,_⟩:=id I6.loc
        refine ⟨mC,hnsC,fun h' sb=>?_⟩
        have IX:Inv X pins σ H5 s6:=I2.call' (ch:=fp) I6.os I6.base I6.hok I6.bare fun b hb=>let ⟨_,a1,_,a3,a4,a5⟩:=f2 b hb;⟨a3,a1,a4,a5⟩
        obtain ⟨_,c1,_,c3,c4,c5⟩:=I2.fpOk (H':=H5) (b:=C) (by rw [hDg];exact hCle) I6.free
        have IX2:Inv X pins σ H5 { s6 with heap:=h' }:=IX.turned (t':=s6.toks) (fun b o hb e=>(sb.2 b hb).trans e) I6.free c1 c3 c4 c5
        obtain ⟨_,b1,_,b3,b4,b5⟩:=I2.fpOk (H':=H5) (b:=D) (by rw [hDg];exact Gz _) d5
        have gD:h'.get? D=some o:=(sb.2 D hDC).trans (I6.pin (D,o) (Gq _ GG)).1
        exact ⟨.ref D,upd H5 D (bS D o es),IX2.track d5 (by rw [<- hDg];exact I2.sz) b1 b4 b5 ((v5.at (gD.trans o5.symm)).ok gD),rfl,qn D o d5⟩
      · refine thn (T.item (ao X scope (tg++cs) C fp s2 H2) rfl rfl rfl hcalm i _ s5 _ H5 _ pin0 (fpY fr5) st5 go) fun r s6 zr1=>?_
        obtain ⟨u,hr,h6⟩:=zr1
        subst hr
        refine Gp (thn h6 fun _ s7 zr1=>?_)
        obtain ⟨x,H7,I7,r7,y7,st7,fr7⟩:=zr1
        have I7':=I7.pinned (fpY fr7) (T.obj _ _ st7)
        -- the next turn
        have again:∀{σ2:St} {H8:Hp} {s8:Gv} {es':List (List Int×Addr×V)} {o':Obj},Inv (ao X scope (tg++cs) C fp s2 H2) [] σ2 H8 s8->(σ2.length=(capt tg.length ix σ).length/\∀(i:Nat) (v:V),(capt tg.length ix σ)[i]?=some (some v)->σ2[i]?=some (some v)) ->
            (∀b∈fp,∀o,s7.heap.get? b=some o->s8.heap.get? b=some o)->(∀b∈fp,H8 b=none)->H8 D=none->s8.heap.get? D=some o'->DctP D es' s8.heap->Nx es' H8 ->
            ∃m,m < n/\∃i es o H',Inv (ao X scope (tg++cs) C fp s2 H2) [] (capt tg.length ix σ) H' s8/\tn i s8.heap/\(∀b∈fp,H' b=none)/\H' D=none/\s8.heap.get? D=some o/\DctP D es s8.heap/\W i m es H':=by
          intro σ2 H8 s8 es' o' I8 kp fk fn dn dg vv nx
          obtain ⟨m',hm,w8⟩:=hN es' H8 nx
          exact ⟨m',hm,i+1,es',o',H8,I8.weak kp.1.symm kp.2,T.keep _ _ _ st7 fk,fn,dn,dg,vv,w8⟩
        refine Gp (G9 (hg C fp s2 H2 _ s7 _ H7 x u _ I7' r7 (kg x σ H7 _ (step x H7 y7))) (fun _ s8 zr1=>?_) fun _ _ z=>z.elim)
        obtain ⟨σ8,H8,I8,kp8,q8⟩:=zr1
        refine Gp (G9 (hc C fp s2 H2 _ s8 σ8 H8 _ I8 q8) (fun ok s9 zr1=>?_) fun _ _ z=>z.elim)
        obtain ⟨H9,I9,q9⟩:=zr1
        have pinsOf:∀{σ':St} {H':Hp} {s':Gv},Inv (ao X scope (tg++cs) C fp s2 H2) ([(D,o)]++dt fp s7.heap) σ' H' s' ->
            (∀b∈fp,∀o,s7.heap.get? b=some o->s'.heap.get? b=some o)/\(∀b∈fp,H' b=none)/\H' D=none/\s'.heap.get? D=some o:=by
          intro σ' H' s' I'
          refine ⟨fun b hb o e=>(I'.pin (b,o) (Gq _ (Gq _ (bq hb e)))).1,fun b hb=>?_,(I'.pin (D,o) (Gq _ (Hh _ GG))).2.1,(I'.pin (D,o) (Gq _ (Hh _ GG))).1⟩
          obtain ⟨o,e,d⟩:=T.obj _ _ st7 b hb
          exact (I'.pin (b,o) (Gq _ (Gq _ (bq hb e)))).2.1
        cases ok with
        | false=>
          obtain ⟨p1,p2,p3,p4⟩:=pinsOf I9
          exact GA ⟨rfl,again (I9.pins_of fun p hp=>nomatch hp) kp8 p1 p2 p3 p4 (v5.at (p4.trans o5.symm)) q9⟩
        | true=>
          have q9:tk σ8 H9 fun y H6=>tv σ8 H6 fun v H7=>∃b ms,y=.ref b/\SqN X.K H7 b ms/\b9 X.K H7 es/\Nx (cX es ms b v) H7:=q9
          refine Gp (Gp (G9 (hk C fp s2 H2 _ s9 σ8 H9 _ I9 q9) (fun kv s10 zr1=>?_) fun _ _ z=>z.elim))
          obtain ⟨y,H10,I10,ry,q10⟩:=zr1
          refine Gp (Hx (G9 (hv C fp s2 H2 _ s10 σ8 H10 _ I10 q10) (fun vv s11 zr1=>?_) fun _ _ z=>z.elim))
          obtain ⟨v,H11,I11,rv,b,ms,ey,sq,ka,nx⟩:=zr1
          subst ey
          cases ry
          obtain ⟨p1,p2,p3,p4⟩:=pinsOf I11
          have P11:DctP D es s11.heap:=v5.at (p4.trans o5.symm)
          obtain ⟨z,m,nd,xs,ev,dd⟩:=pA I11 P11 ka
          refine Gp (Il (Hx (MG (hsz:=by rw [<- IM ev];exact z) (show (KA (KT.numKind X.prog X.w)).room X.A from by show X.A.units < Jt;lia) (di (X:=ao X scope (tg++cs) C fp s2 H2) I11 sq) dd fun h' dd' hs'=>?_)))
          have I12:Inv (ao X scope (tg++cs) C fp s2 H2) [] σ8 H11 s11:=I11.pins_of fun p hp=>nomatch hp
          have I13:Inv (ao X scope (tg++cs) C fp s2 H2) [] σ8 H11 { s11 with heap:=h',toks:=s11.toks+(KA (KT.numKind X.prog X.w)).draws ms }:=
            I12.turned (fun b o hb e=>(hs'.2 b hb).trans e) p3 hDC (.inr (by show s2.heap.objs.size<=D;rw [hDg];exact Gz _)) DcY (fun p hp=>nomatch hp)
          obtain ⟨qo,qd,qe,h1q,h2q,h3q,h4q,_,h5q⟩:=dd'
          refine GA ⟨rfl,again I13 kp8 (fun b hb o e=>(hs'.2 b (fun z:b=D=>Dfp (z▸hb))).trans (p1 b hb o e)) p2 p3 h1q ⟨?_,m,?_,_,ev.put ms rv,qo,qd,qe,h1q,h2q,h3q,h4q⟩ nx⟩
          · have:=eP es ms b v;lia
          · rw [(ev.put ms rv).keys];exact h5q
    · rw [e4];exact T.keep _ _ _ st2 fun b _ o e=>old b o e
  exact LF (loop _ rfl) (T.self _ 0 _ _ _ (T.keep _ _ _ st2 fun b _ o e=>old b o e) (loop _ rfl))
end
end L2
namespace VL
open PySem L2 PySem.W
section
variable {X:Cx} {K:Gn} {m:Bool} {e:Expr} {te:TE} {va:VT} {pos:Pos}
theorem kG {N:AP} {k:List Int}:∀{es:List (List Int×Addr×V)} {kvs:List (List Int×D)},es.map (·.1)=kvs.map (·.1)->Reps K N F H (es.map (·.2.2)) (kvs.map (·.2)) ->
  (atE es k=none/\fx kvs k=none)\/∃v d,atE es k=some v/\fx kvs k=some d/\Rep K N F H v d
 | [],[],_,_=>.inl ⟨rfl,rfl⟩
 | [],_::_,h,_=>by cases h
 | _::_,[],h,_=>by cases h
 | e::es,p::ps,h,.cons r t=>by
  have h1:e.1=p.1:=(MJ h).1
  by_cases z:p.1=k
  ·exact .inr ⟨e.2.2,p.2,by simp [atE,h1,z],by simp [fx,z],r⟩
  ·rcases kG (k:=k) (MJ h).2 t with ⟨a,b⟩ | ⟨v,d,a,b,r⟩
   ·exact .inl ⟨by simpa [atE,Ib,h1,z] using a,by simpa [fx,Ib,z] using b⟩
   ·exact .inr ⟨v,d,by simpa [atE,Ib,h1,z] using a,by simpa [fx,Ib,z] using b,r⟩
noncomputable def EJ (i:Nat) (vn:VTN):VT:=fun S Q=>(∃ds,S[i]?=some (.own ds))/\vn S fun ds2 S1=>∃ds,S1[i]?=some (.own ds)/\ds.length+ds2.length<=1000000/\Q (.d .non) (S1.set i (.own (ds++ds2)))
theorem BL {apos:Pos} {o:Expr} {vn:VTN} (i:Nat) (hK:X.K=K) (ho:PE X o (bZ i)) (h:VN K X e te vn) (hbase:Kr o "extend" X.env (eval o X.env)=eval o X.env:=by rfl)
  (hfew:((JF pos (GM (e::[]) X.env)).all (fun x=>!x.1)&&(backToKw pos (Nw [] X.env)).all (fun x=>x.1.isSome)
   && decide ((e::[]).length+([]:List Ny).length+(if ([]:List Ny).isEmpty then 0 else 1) < 30))=true:=by rfl)
  (hline:(apos.endLine==pos.line)=true:=by rfl) (hs:GM (e::[]) X.env=(false,eval e X.env)::GM [] X.env:=by rfl) (hplain:(JF pos (GM [] X.env)).any (·.1)=false:=by rfl) :
  VE K X m (.Call (.Attribute o "extend" apos) [e] [] pos) (tBM K "list" ou (bZ i) (ez te jZ)) (EJ i vn):=
 ⟨by subst hK;exact yO Ls PySem.F.slot_list_extend PySem.F.type_list_extend qc ho (cZ h.pe gA hs) hbase hfew hline hs hplain,fun H0 Z σ H S Q C k zq1 hc=>by
  obtain ⟨⟨ds0,e0⟩,t⟩:=zq1
  obtain ⟨o,h1,a,vs,rfl,h2,h3,h4⟩:=k.ownAt e0
  refine ⟨.ref a,h1,.inl ⟨rfl,vs,.inl (.inl h2)⟩,?_⟩
  refine h.snd H0 Z σ H S _ _ k t fun b us ds2 H1 H' S1 k1 st1 hb hg hl rr zr1=>?_
  obtain ⟨ds,e1,hlen,q⟩:=zr1
  have k':=k1.grow hg
  obtain ⟨o',g1,a',vs',rfl,g2,g3,g4⟩:=k'.ownAt e1
  rw [h1] at g1;cases g1
  have l1:=g4.length
  have l2:=rr.length
  refine ⟨a,b,vs',us,rfl,rfl,g2,hl,by rw [Hv];lia,?_⟩
  have na:NM Z σ S1 a->False:=fun n=>n (.inl ⟨i,_,e1,rfl,h1⟩)
  have hm:∀c,NM Z σ S1 c->H' c≠none->NM Z σ S1 c/\upd H' a (.lst (vs'++us)) c=H' c:=fun c n _=>⟨n,aB fun z=>na (by rw [<- z];exact n)⟩
  obtain ⟨k2,st2⟩:=k'.chg (s:=.own (ds++ds2)) (o:=.lst (vs'++us)) e1 rfl h1 ⟨_,rfl⟩ rfl ⟨a,_,rfl,ay,g3,Reps.append (g4.mono hm fun _ x=>x) (rr.mono (fun c n z=>hm c n.1 z) fun _ x=>x)⟩
  exact hc .non _ (.d .non) _ k2 ((st1.trans (.grow hg)).trans st2) Rep.non q⟩
end
section
variable {K:Gn} {X:Cx} {kx vx iter:Expr} {pos:Pos}
theorem nv {H0 H:Hp} {y:V} {ri:VR} {m:Bool} (rr:dX K (FM H0 m) Z σ S H y ri) (ek:get S ri=some (kT ms)):∃b,y=.ref b/\SqT K H b (ms.map L2.V.int)/\Rep K (NM Z σ S) AnyF H (.ref b) (kT ms):=by
 cases ri with
 | d z=>
  cases ek
  obtain ⟨b,vs,rfl,hq,r2⟩:=Rep.sqT (show Rep K _ _ H y (.tup (ms.map D.int)) from rr)
  cases Reps.toInts r2
  exact ⟨b,rfl,hq,Rep.mono (fun _ n _=>⟨n,rfl⟩) (fun _ _=>trivial) rr⟩
 | own j=>
  have ek:getO S[j]?=some (kT ms):=ek
  cases e:S[j]? with
  | none=>rw [e] at ek;cases ek
  | some s=>rw [e] at ek;cases s <;> cases ek
noncomputable def tX (vi:VTN) (n:Nat) (ix:List Nat) (vg:VG) (vt:VTT) (vk vv:VT):VTD:=fun S Q=>vi S fun ds S1=>ds.length<=1000000/\∃Iv:Nat->List (List Int×D)->List Sl->Prop,Iv 0 [] S1 /\
 (∀i d kvs S2,ds[i]?=some d->Iv i kvs S2->vg d (bz n ix S2) fun S3=>vt S3 fun b S4=>if b=true then vk S4 fun rk S5=>vv S5 fun rv S6=>∃ms x,get S6 rk=some (kT ms)/\rv=.d x/\Iv (i+1) (ba kvs ms x) (backS n ix S2 S6) else Iv (i+1) kvs (backS n ix S2 S4)) /\
 ∀kvs S2,Iv ds.length kvs S2->Q kvs S2
theorem xy {ifs:List Expr} {scope:Jz} {tg cs:List Str} {target:Expr} {wi:TI} {vi:VTN} {g:TG} {vg:VG} {tc:TT} {vt:VTT} {tk tv:TE} {vk vv:VT} (hK:X.K=K) (hu:X.A.units+64 < Jt) (Sc:bf X scope tg cs ix) (hcalm:X.calm=true) (kg:cR tg.length ix g) (hnd:ix.Nodup)
    (hi:VI K X target iter wi vi) (hg:∀C fp s H,VGe K (ao X scope (tg++cs) C fp s H) target g vg) (hc:∀C fp s H,VTs K (ao X scope (tg++cs) C fp s H) ifs tc vt) (hk:∀C fp s H,VE K (ao X scope (tg++cs) C fp s H) false kx tk vk) (hv:∀C fp s H,VE K (ao X scope (tg++cs) C fp s H) true vx tv vv)
    (hs:∀x,G7 iter X.env x=pure x:=by intro _;rfl):VDe K X (.DictComp kx vx [⟨target,iter,ifs,0⟩] scope pos) (tV K wi tg.length ix g tc tk tv) (tX vi tg.length ix vg vt vk vv):=by
  have sg:SndG K g vg:=(hg 0 [] X.s₀ (fun _=>none)).snd
  have sc:SndT K tc vt:=(hc 0 [] X.s₀ (fun _=>none)).snd
  have sk:SndE K false tk vk:=(hk 0 [] X.s₀ (fun _=>none)).snd
  have sv:SndE K true tv vv:=(hv 0 [] X.s₀ (fun _=>none)).snd
  refine ⟨by subst hK;exact tW hu Sc hcalm kg hi.pi (fun C fp s H=>(hg C fp s H).pg) (fun C fp s H=>(hc C fp s H).pe) (fun C fp s H=>(hk C fp s H).pe) (fun C fp s H=>(hv C fp s H).pe) hs,fun H0 Z σ H S Q C k t hq=>?_⟩
  refine hi.snd H0 Z σ H S _ _ k t fun J ds H1 S1 k1 st1 gd zr1=>?_
  obtain ⟨hl,Iv,i0,hs,hd⟩:=zr1
  refine ⟨fun i m es H=>m=ds.length-i/\i<=ds.length/\es.length<=i/\∃S2 kvs,OK K H0 Z σ H S2/\Step Z σ S1 H1 σ S2 H/\es.map (·.1)=kvs.map (·.1)/\Reps K (NM Z σ S2) AnyF H (es.map fun x=>V.ref x.2.1) ((kvs.map (·.1)).map kT)/\Reps K (NM Z σ S2) (Fr H0) H (es.map (·.2.2)) (kvs.map (·.2))/\Iv i kvs S2,
    ⟨ds.length,by simp,IG _,Gz _,S1,[],k1,.refl,rfl,.nil,.nil,i0⟩,?_⟩
  rintro i m es H2 ⟨rfl,hi,hy,S2,kvs,k2,st2,ek,rk,rz,p⟩
  obtain ⟨g1,g2,g3⟩:=gd σ S2 H2 (fun _=>k2.nm) st2.1 i
  have hsz:(1000000:Nat) < GZ:=by rw [Hv];lia
  by_cases hlt:i < ds.length
  · refine .inr ⟨g1 hlt,by lia,fun es' H'=>es'.length<=i+1/\∃S' kvs',OK K H0 Z σ H' S'/\Step Z σ S1 H1 σ S' H'/\es'.map (·.1)=kvs'.map (·.1)/\Reps K (NM Z σ S') AnyF H' (es'.map fun x=>V.ref x.2.1) ((kvs'.map (·.1)).map kT)/\Reps K (NM Z σ S') (Fr H0) H' (es'.map (·.2.2)) (kvs'.map (·.2))/\Iv (i+1) kvs' S',
      fun es' H' zt1=>by obtain ⟨p1,p2⟩:=zt1;exact ⟨ds.length-(i+1),by lia,rfl,hlt,p1,p2⟩,fun x H3 y=>?_⟩
    obtain ⟨hgr,d,hd',rd⟩:=g2 x H3 y hlt
    replace k2:=k2.grow hgr
    replace st2:=st2.trans (.grow hgr)
    replace rk:=rk.step (.grow hgr)
    replace rz:=rz.step (.grow hgr)
    have kc:=k2.capt (n:=tg.length) hnd
    have rd':Rep K (NM (Zin Z ix σ S2) (L2.capt tg.length ix σ) (bz tg.length ix S2)) AnyF H3 x d:=rd.mono (fun a n _=>⟨fun z=>n (gJ.mp z),rfl⟩) fun _ x=>x
    have h1:=sg H0 _ _ H3 _ x d _ (fun σ4 H4=>∃S4,OK K H0 (Zin Z ix σ S2) σ4 H4 S4/\Step (Zin Z ix σ S2) (L2.capt tg.length ix σ) (bz tg.length ix S2) H3 σ4 S4 H4/\vt S4 fun b S5=>if b=true then vk S5 fun rk S6=>vv S6 fun rv S7=>∃ms x,get S7 rk=some (kT ms)/\rv=.d x/\Iv (i+1) (ba kvs ms x) (backS tg.length ix S2 S7) else Iv (i+1) kvs (backS tg.length ix S2 S5)) kc rd' (hs i d kvs S2 hd' p) (fun σ4 H4 S4 k4 st4 q4=>⟨S4,k4,st4,q4⟩)
    have h2:=kg x σ H3 _ h1
    refine (hg 0 [] X.s₀ (fun _=>none)).mono _ _ _ _ _ ?_ h2
    rintro σ4 H4 ⟨⟨hl4,hσ4⟩,S4,k4,st4,q4⟩
    refine sc H0 _ σ4 H4 S4 _ _ k4 q4 fun bb H5 S5 k5 st5 q5=>?_
    cases bb with
    | false=>
      rw [if_neg Gw] at q5 ⊢
      obtain ⟨kb,sb,nb⟩:=k2.back k5 (st4.trans st5) hσ4
      exact ⟨by lia,_,kvs,kb,st2.trans sb,ek,rk.step sb,rz.step sb,q5⟩
    | true=>
      rw [if_pos rfl] at q5 ⊢
      refine sk H0 _ σ4 H5 S5 _ _ k5 q5 fun yy H6 ry S6 k6 st6 rry q6=>?_
      refine sv H0 _ σ4 H6 S6 _ _ k6 q6 fun vv' H7 rv S7 k7 st7 rrv zr1=>?_
      obtain ⟨ms,xx,e1,er,q7⟩:=zr1
      subst er
      obtain ⟨b,rfl,sq,rb⟩:=nv (rry.step st7) e1
      obtain ⟨kb,sb,nb⟩:=k2.back k7 (((st4.trans st5).trans st6).trans st7) hσ4
      have rk':=rk.step sb
      have rz':=rz.step sb
      obtain ⟨z1,z2,z3⟩:=f9 (k:=ms) (b:=b) (v:=vv') (d:=xx) (F:=Fr H0) (F':=AnyF) (Rep.mono (fun a n _=>⟨nb a n,rfl⟩) (fun _ x=>x rfl) rrv) (Rep.mono (fun a n _=>⟨nb a n,rfl⟩) (fun _ x=>x) rb) ek rk' rz'
      refine ⟨b,ms,rfl,SqN.of sq,bX (by rw [ek];exact rk'),?_,_,ba kvs ms xx,kb,st2.trans sb,z1,z2,z3,q7⟩
      have:=eP es ms b vv'
      lia
  · have e:i=ds.length:=by lia
    refine .inl ⟨g3 e,fun l ob hp=>?_⟩
    exact hq l es kvs H2 _ S2 k2 (st1.trans st2) hp (aI hp) ⟨ob,ay⟩ ek (rk.mono (fun a n e=>⟨⟨n,fun z=>e (z▸hp)⟩,aB fun z=>e (z▸hp)⟩) fun _ x=>x) (bT hp (rz.mono (fun _ n _=>⟨n,rfl⟩) fun _ x _=>x)) (hd kvs S2 (by rw [<- e];exact p))
end
end VL
end
section
namespace L2
open PySem PySem.Spec PyProof.Rows PySem.W
section
variable {elt t1 i1 t2 i2:Expr} {f1 f2:List Expr} {scope:Jz} {pos:Pos}
noncomputable def tY (σ:St) (g:TG):Prop:=∀x H Q,g x σ H Q->g x σ H fun σ2 H2=>(σ2.length=σ.length/\∀(i:Nat) (v:V),σ[i]?=some (some v)->σ2[i]?=some (some v))/\Q σ2 H2
end
section
variable {X:Cx}
noncomputable def kH (n:Nat) (ix:List Nat) (g g2:TG):Prop:=∀x σ H Q,g x (capt n ix σ) H Q->g x (capt n ix σ) H fun σ2 H2=>((σ2.length=(capt n ix σ).length/\∀(i:Nat) (v:V),(capt n ix σ)[i]?=some (some v)->σ2[i]?=some (some v))/\tY σ2 g2)/\Q σ2 H2
theorem kI {n:Nat} {a b:Nat} (ha:a < n) (hb:b < n) (hab:a≠b):kH n ix (bF a) (bF b):=fun x σ H Q q=>by
 obtain ⟨kp,q⟩:=bu ha x σ H Q q
 refine ⟨⟨kp,fun y H' Q' q'=>⟨⟨by simp,fun i v e=>?_⟩,q'⟩⟩,q⟩
 by_cases hi:b=i
 ·subst hi
  rw [G3 hab] at e
  exact (e8 hb e).elim
 ·rw [G3 hi];exact e
end
end L2
namespace VL
open PySem L2 PySem.W
section
variable {K:Gn} {H H4 H0:Hp} {Z:AP} {σ σ4 σ5:St} {S S4:List Sl}
noncomputable def Gk:Sl->Sl->Sl
 | .no,_=>.no
 | _,b=>b
noncomputable def msk (S4 S:List Sl):List Sl:=List.zipWith Gk S4 S
theorem jb {i:Nat} {s:Sl} (h:(msk S4 S)[i]?=some s):s=.no\/S[i]?=some s/\∃t,S4[i]?=some t/\t≠.no:=by
 unfold msk at h
 rw [List.getElem?_zipWith] at h
 cases h1:S4[i]? with
 | none=>rw [h1] at h;cases h
 | some t=>
  cases h2:S[i]? with
  | none=>rw [h1,h2] at h;cases h
  | some u=>
   rw [h1,h2] at h
   cases t with
   | no=>cases h;exact .inl rfl
   | val _ | fre _ | own _ | pen _ _ | odi _ _ | obj _=>cases h;exact .inr ⟨rfl,_,rfl,fun z=>nomatch z⟩
theorem OK.forget (k4:OK K H0 Z σ4 H4 S4) (k:OK K H0 Z σ5 H S) (st:Step Z σ4 S4 H4 σ5 S H) (hl:σ5.length=σ4.length) (hσ:∀(i:Nat) (v:V),σ4[i]?=some (some v)->σ5[i]?=some (some v)) :
  OK K H0 Z σ4 H (msk S4 S)/\Step Z σ4 S4 H4 σ4 (msk S4 S) H/\∀a,NM Z σ5 S a->NM Z σ4 (msk S4 S) a:=by
 have at4:∀{i:Nat} {t:Sl},S4[i]?=some t->t≠.no->∃v,σ4[i]?=some (some v):=fun {i t} e hn=>by
  obtain ⟨o,h1,q⟩:=k4.ownAt e
  cases t with
  | no=>exact absurd rfl hn
  | val _=>obtain ⟨v,rfl,_⟩:=q;exact ⟨v,h1⟩
  | fre _=>obtain ⟨v,rfl,_⟩:=q;exact ⟨v,h1⟩
  | own _=>obtain ⟨a,_,rfl,_⟩:=q;exact ⟨_,h1⟩
  | pen _ _=>obtain ⟨a,rfl,_⟩:=q;exact ⟨_,h1⟩
  | odi _ _=>obtain ⟨a,_,rfl,_⟩:=q;exact ⟨_,h1⟩
  | obj _=>obtain ⟨a,rfl,_⟩:=q;exact ⟨_,h1⟩
 have mo:∀a,Mo Z σ4 (msk S4 S) a->Mo Z σ5 S a:=fun a z=>by
  rcases z with ⟨i,s,h1,h2,h3⟩ | z
  ·rcases jb h1 with rfl | ⟨h4,_⟩
   ·cases h2
   ·exact .inl ⟨i,s,h4,h2,hσ i _ h3⟩
  ·exact .inr z
 have nm:∀a,NM Z σ5 S a->NM Z σ4 (msk S4 S) a:=fun a n z=>n (mo a z)
 have hm:∀a,NM Z σ5 S a->H a≠none->NM Z σ4 (msk S4 S) a/\H a=H a:=fun a n _=>⟨nm a n,rfl⟩
 refine ⟨⟨?_,fun i o s h1 h2=>?_,fun i j a s t h1 h2 m1 m2 h3 h4=>?_,k.dom,k.zl,fun i s a h1 h2 h3=>?_⟩,⟨fun a n e=>⟨(st.1 a n e).1,nm a (st.1 a n e).2⟩,st.2.1,st.2.2⟩,nm⟩
 ·have:=k4.len;have:=k.len
  unfold msk
  rw [List.length_zipWith];lia
 ·rcases jb h2 with rfl | ⟨h4,t,h5,h6⟩
  ·trivial
  ·obtain ⟨v,e⟩:=at4 h5 h6
   rw [e] at h1;cases h1
   have q:=k.at_ i _ s (hσ i v e) h4
   cases s with
   | no=>trivial
   | val d=>obtain ⟨v,e,r⟩:=q;exact ⟨v,e,r.mono hm fun _ x=>x⟩
   | fre d=>obtain ⟨v,e,r⟩:=q;exact ⟨v,e,r.mono hm fun _ x=>x⟩
   | own ds=>obtain ⟨a,vs,e,e',e0,r⟩:=q;exact ⟨a,vs,e,e',e0,r.mono hm fun _ x=>x⟩
   | pen ad ns=>exact q
   | odi ks ds=>obtain ⟨a,vs,e,e',e0,ek,r⟩:=q;exact ⟨a,vs,e,e',e0,⟨ek.1,ek.2.mono hm fun _ x=>x⟩,r.mono hm fun _ x=>x⟩
   | obj k=>obtain ⟨a,e,e0,r⟩:=q;exact ⟨a,e,e0,k.mono hm rfl r⟩
 ·rcases jb h1 with rfl | ⟨h1,_⟩
  ·cases m1
  ·rcases jb h2 with rfl | ⟨h2,_⟩
   ·cases m2
   ·exact k.inj i j a s t h1 h2 m1 m2 (hσ i _ h3) (hσ j _ h4)
 ·rcases jb h1 with rfl | ⟨h1,_⟩
  ·cases h2
  ·exact k.nz i s a h1 h2 (hσ i _ h3)
end
end VL
end
section
namespace VL
open PySem L2 PySem.W
section
variable {va vb:VT} {vn:VTN} {S:List Sl} {Q:VR->List Sl->Prop} {i:Nat}
noncomputable def EK (i:Nat) (Q:VR->List Sl->Prop):List D->List Sl->Prop:=fun ds2 S1=>∃ds,S1[i]?=some (.own ds)/\ds.length+ds2.length<=1000000/\Q (.d .non) (S1.set i (.own (ds++ds2)))
theorem EL (e:S[i]?=some (.own ds)) (h:vn S (EK i Q)):EJ i vn S Q:=⟨⟨ds,e⟩,h⟩
theorem BM {ds ds2:List D} (e:S[i]?=some (.own ds)) (e2:ds.length+ds2.length<=1000000) (h:Q (.d .non) (S.set i (.own (ds++ds2)))):EK i Q ds2 S:=⟨ds,e,e2,h⟩
end
section
variable {α β:Type} {n:Nat} {ix:List Nat} {g g2:VG} {vt vt2:VTT} {vi vi2:VTN} {ve vk vv:VT} {S:List Sl}
noncomputable def BN (rk:VR) (A:List Int->D->List Sl->Prop):VR->List Sl->Prop:=fun rv S6=>∃ms x,get S6 rk=some (kT ms)/\rv=.d x/\A ms x S6
noncomputable def BO (vv:VT) (A:List Int->D->List Sl->Prop):VR->List Sl->Prop:=fun rk S5=>vv S5 (BN rk A)
noncomputable def qE (vk vv:VT) (A:List Int->D->List Sl->Prop) (B:List Sl->Prop):Bool->List Sl->Prop:=fun b S4=>if b=true then vk S4 (BO vv A) else B S4
noncomputable def tZ (n:Nat) (ix:List Nat) (g:VG) (vt:VTT) (vk vv:VT) (Q:List (List Int×D)->List Sl->Prop):List D->List Sl->Prop:=fun ds S1=>ds.length<=1000000/\∃Iv:Nat->List (List Int×D)->List Sl->Prop,Iv 0 [] S1 /\
 (∀i d kvs S2,ds[i]?=some d->Iv i kvs S2->g d (bz n ix S2) fun S3=>vt S3 (qE vk vv (fun ms x S6=>Iv (i+1) (ba kvs ms x) (backS n ix S2 S6)) fun S4=>Iv (i+1) kvs (backS n ix S2 S4)))/\∀kvs S2,Iv ds.length kvs S2->Q kvs S2
theorem xA {Q:List (List Int×D)->List Sl->Prop} (h:vi S (tZ n ix g vt vk vv Q)):tX vi n ix g vt vk vv S Q:=h
theorem BP {A:List Int->D->List Sl->Prop} {B:List Sl->Prop} (h:vk S (BO vv A)):qE vk vv A B true S:=by unfold qE;rw [if_pos rfl];exact h
theorem BQ {A:List Int->D->List Sl->Prop} {rk:VR} (h:vv S (BN rk A)):BO vv A rk S:=h
theorem t5 {A:List Int->D->List Sl->Prop} {rk:VR} {x:D} (e:get S rk=some (kT ms)) (h:A ms x S):BN rk A (.d x) S:=⟨ms,x,e,rfl,h⟩
theorem qF {Q:List (List Int×D)->List Sl->Prop} {xs:List α} {en f:α->D} {ky:α->List Int} (hl:xs.length<=1000000)
  (h:∀x∈xs,∀(A:List Int->D->List Sl->Prop) (B:List Sl->Prop),(∀S5,backS n ix S S5=S->A (ky x) (f x) S5)->g (en x) (bz n ix S) fun S3=>vt S3 (qE vk vv A B))
  (h2:Q (xs.foldl (fun kvs x=>ba kvs (ky x) (f x)) []) S):tZ n ix g vt vk vv Q (xs.map en) S:=by
 refine ⟨by simpa using hl,fun i kvs S'=>S'=S/\kvs=(xs.take i).foldl (fun kvs x=>ba kvs (ky x) (f x)) [],⟨rfl,by simp⟩,?_,?_⟩
 ·rintro i d kvs S2 e ⟨rfl,rfl⟩
  obtain ⟨x,h1,rfl,hm,ht⟩:=aL e
  refine h x hm _ _ fun S5 e5=>⟨e5,?_⟩
  rw [ht,J9]
  rfl
 ·rintro kvs S2 ⟨rfl,rfl⟩
  rw [Gx,HK]
  exact h2
theorem me {k c:List Int}:c∈(ba kvs k d).map (·.1)↔c=k\/c∈kvs.map (·.1):=by
 unfold ba
 split
 ·next h=>
  rw [show (kvs.map fun x=>if x.1=k then (x.1,d) else x).map (·.1)=kvs.map (·.1) from d7 kvs k d]
  exact ⟨.inr,fun z=>z.elim (fun e=>e▸h) id⟩
 ·simp [or_comm]
theorem gM {α:Type} {ky:α->List Int} {f:α->D} {c:List Int}:∀(xs:List α) (kvs:List (List Int×D)),c∈(xs.foldl (fun kvs x=>ba kvs (ky x) (f x)) kvs).map (·.1)↔c∈xs.map ky\/c∈kvs.map (·.1)
 | [],kvs=>by simp
 | x::xs,kvs=>by
  rw [KG,gM xs,me,GO,Lu]
  exact ⟨fun z=>z.elim (fun h=>.inl (.inr h)) fun z=>z.elim (fun h=>.inl (.inl h)) .inr,fun z=>z.elim (fun z=>z.elim (fun h=>.inr (.inl h)) .inl) fun h=>.inr (.inr h)⟩
end
end VL
end
section
namespace L2
open PySem PySem.Spec PyProof.Rows PySem.W
section
variable {X:Cx}
noncomputable def zr (K:Gn):R2:=fun x y H Q=>∃l b xs zs,x=.ref l/\y=.ref b/\SqL K H l xs/\H b=some (.lst zs)/\xs.length+zs.length<=GZ/\∀p,H p=none->Q (.ref p) (upd H p (.lst (xs++zs)))
theorem xB:OpR X (IP .Add) (zr X.K):=by
 rintro pins s σ H x y v u Q I rx ry ⟨l,b,xs,zs,e1,e2,hR,hB,hz,q⟩
 subst e1;subst e2
 cases rx;cases ry
 obtain ⟨its,r,⟨⟨cls,dd,data,sl⟩,n,e,hc,hd,hs⟩,z⟩:=I.list hR
 obtain ⟨z2,its2,n2,r2,hl2,e2⟩:=I.lstM hB
 have hl:=r.length
 cases (show cls=.type "list" from hc)
 cases (show data=.seq its.toArray n from hs)
 refine KS (T:="list") ⟨_,e,rfl⟩ ⟨_,e2,rfl⟩ noFill_list_add seq_list_add F.slot_list_add F.entry_list_add (F.args_list_add_2 _ _) (list_addW l b _ _ n n2 dd _ sl _ (by simp only [GC];lia)) ⟨e,e2,?_⟩
 rw [Mn]
 exact ⟨.ref _,_,I.lnew (t':=s.toks) (r.append r2) (by rw [G6];lia),rfl,q _ I.fresh⟩
end
end L2
namespace VL
open PySem L2 PySem.W
section
variable {K:Gn} {X:Cx} {a b:Expr} {ta tb:TE} {pos:Pos}
noncomputable def zt (va:VT) (u:VTN):VTN:=fun S Q=>va S fun r S1=>u S1 fun es S2=>∃ds,get S2 r=some (.lst ds)/\flats ds=true/\ds.length+es.length<=1000000/\Q (ds++es) S2
theorem xC {va:VT} {u:VTN} (hK:X.K=K) (h1:VE K X false a ta va) (h2:VN K X b tb u):VN K X (.BinOp a .Add b pos) (tOp (zr K) ta tb) (zt va u):=⟨by subst hK;exact iG xB h1.pe h2.pe,fun H0 Z σ H S Q C k t hc=>
 h1.snd H0 Z σ H S _ _ k t fun x H1 r S1 k1 st1 r1 t1=>h2.snd H0 Z σ H1 S1 _ _ k1 t1 fun a' vs es H2 H' S2 k2 st2 ha hg hl rr zq1=>by
  obtain ⟨ds,e,f,hlen,q⟩:=zq1
  obtain ⟨c,us,rfl,hR,r2⟩:=((r1.step st2).step (.grow hg)).elems (k2.grow hg) e
  refine ⟨c,a',us,vs,rfl,rfl,hR,hl,by rw [r2.length,rr.length,Hv];lia,fun p hp=>?_⟩
  refine hc p _ _ H' _ S2 (k2.grow hg) (st1.trans (st2.trans (.grow hg))) hp (aI hp) ay (Reps.append ?_ ?_) q
  ·exact e9 hp r2 f
  ·exact bT hp (rr.mono (fun _ n _=>⟨n.1,rfl⟩) fun _ x _=>x)⟩
noncomputable def EM (u:VTN) (Q:List D->List Sl->Prop):VR->List Sl->Prop:=fun r S1=>u S1 fun es S2=>∃ds,get S2 r=some (.lst ds)/\flats ds=true/\ds.length+es.length<=1000000/\Q (ds++es) S2
noncomputable def EN (r:VR) (Q:List D->List Sl->Prop):List D->List Sl->Prop:=fun es S2=>∃ds,get S2 r=some (.lst ds)/\flats ds=true/\ds.length+es.length<=1000000/\Q (ds++es) S2
theorem BR {va:VT} {u:VTN} {Q:List D->List Sl->Prop} (h:va S (EM u Q)):zt va u S Q:=h
theorem BS {u:VTN} {Q:List D->List Sl->Prop} (h:u S (EN r Q)):EM u Q r S:=h
theorem BU {ds es:List D} {Q:List D->List Sl->Prop} (e:get S r=some (.lst ds)) (f:flats ds=true) (hl:ds.length+es.length<=1000000) (h:Q (ds++es) S):EN r Q es S:=⟨ds,e,f,hl,h⟩
end
end VL
end
section
namespace Tim
open PySem PyProof.Rows
noncomputable def gal:Bool->GL->Array GL->Nat->Nat->Nat->StateT Iz Sem (Option Nat):=sortPriv% PySem.Builtin.gallop
noncomputable def at_ (arr:Array GL) (i:Nat):GL:=arr.getD i (HD,HD)
theorem pB {arr:Array GL} {i:Nat} (h:i < arr.size):arr[i]?=some (at_ arr i):=by
 unfold at_;simp [Array.getD,h]
theorem bg {a b:Array GL} {i j:Nat} (h:a[i]?=b[j]?):at_ a i=at_ b j:=by
 unfold at_;rw [KH,KH,h]
noncomputable def gN (prog:G2) (w:HJ) (A:HQ) (s:Gv) (κ:Kh) (O:Lg) (key:GL->O.α) (P:GL->Prop):Prop:=
 ∀(x y:GL) (C:Bool->Gv->Prop),P x->P y->C (O.blt (key x) (key y)) s->Hj (Ha prog w) A (keyLt' κ x.1 y.1) C (fun _ _=>False) s
noncomputable def bey {O:Lg} (key:GL->O.α) (left:Bool) (x y:GL):Bool:=if left=true then O.blt (key y) (key x) else !O.blt (key x) (key y)
section
variable {prog:G2} {w:HJ} {A:HQ} {E:Gs->Gv->Prop} {s:Gv} {κ:Kh} {O:Lg} {key:GL->O.α} {P:GL->Prop}
theorem mh (C:gN prog w A s κ O key P) {x y:GL} {st:Iz} {Q:Option Bool->Iz->Prop} (hx:P x) (hy:P y) (hk:kindOf st=κ) (h:Q (some (O.blt (key x) (key y))) st) :
  wpS (Ha prog w) A E s (lt' x y) Q st:=by
 rw [lt'_eq]
 refine Gy (Km ?_)
 rw [hk]
 refine Gy (Lw (Ku (G9 (C x y (fun b s'=>s'=s/\b=O.blt (key x) (key y)) hx hy ⟨rfl,rfl⟩) (fun b s' z=>⟨z.1,?_⟩) fun _ _ z=>z.elim)))
 rw [z.2]
 exact GF h
theorem aU {arr:Array GL} {i:Nat} {st:Iz} {Q:GL->Iz->Prop} (e:i < arr.size) (h:Q (at_ arr i) st):wpS (Ha prog w) A E s (elem' arr i) Q st:=by
 rw [elem'_eq,pB e];exact GF h
theorem BV (C:gN prog w A s κ O key P) {left:Bool} {x:GL} {arr:Array GL} {i:Nat} {st:Iz} {Q:Option Bool->Iz->Prop} (e:i < arr.size) (hx:P x) (hy:P (at_ arr i)) (hk:kindOf st=κ)
  (h:Q (some (bey key left x (at_ arr i))) st) :
  wpS (Ha prog w) A E s (elem' arr i >>= fun y=>if left=true then lt' y x else lt' x y >>= fun r=>pure (Option.map (fun z=>!z) r)) Q st:=by
 refine Gy (aU e ?_)
 unfold bey at h
 cases left with
 | true=>exact mh C hy hx hk h
 | false=>exact Gy (mh C hx hy hk (GF h))
theorem gO (C:gN prog w A s κ O key P) {left:Bool} {x:GL} {arr:Array GL} {base n hint:Nat} {st:Iz} {Q:Option Nat->Iz->Prop} (hk:kindOf st=κ) (hh:hint < n) (hz:base+n<=arr.size)
  (hP:∀i,i < n->P (at_ arr (base+i))) (hx:P x) (mono:∀i j,i<=j->j < n->bey key left x (at_ arr (base+j))=true->bey key left x (at_ arr (base+i))=true)
  (h:∀k,k<=n->(∀i,i < k->bey key left x (at_ arr (base+i))=true)->(∀i,k<=i->i < n->bey key left x (at_ arr (base+i))=false)->Q (some k) st) :
  wpS (Ha prog w) A E s (gal left x arr base n hint) Q st:=by
 have B:=fun i (hi:i < n) (R:Option Bool->Iz->Prop) (r:R (some (bey key left x (at_ arr (base+i)))) st)=>BV (E:=E) C (left:=left) (show base+i < arr.size by lia) hx (hP i hi) hk r
 generalize eb:(fun i=>bey key left x (at_ arr (base+i)))=b at *
 have eb':∀i,bey key left x (at_ arr (base+i))=b i:=fun i=>by rw [<- eb]
 simp only [eb'] at *
 have anti:∀i j,i<=j->j < n->b i=false->b j=false:=fun i j hij hj hi=>by
  cases hj':b j with
  | false=>rfl
  | true=>rw [mono i j hij hj hj'] at hi;cases hi
 delta gal
 refine Gy (B hint hh _ ?_)
 dsimp only
 cases hb:b hint with
 | true=>
  rw [if_pos rfl]
  refine Gy (Iw (Ho (I:=fun k c st'=>st'=st/\∃ls os,c=(none,ls,os)/\ls < os/\k+1<=os/\hint+ls < n/\b (hint+ls)=true)
   (Q:=fun c st'=>st'=st/\∃ls os,c=(none,ls,os)/\ls < os/\hint+ls < n/\b (hint+ls)=true/\(n-hint<=os\/b (hint+os)=false)) ?step ?fin ⟨rfl,0,1,rfl,by lia,by lia,by lia,hb⟩) ?post)
  case fin=>
   rintro c st' ⟨rfl,ls,os,rfl,h1,h2,h3,h4⟩
   exact ⟨rfl,ls,os,rfl,h1,h3,h4,.inl (by lia)⟩
  case step=>
   rintro k c st' _ hkn ⟨rfl,ls,os,rfl,h1,h2,h3,h4⟩
   dsimp only
   by_cases hge:os >= n-hint
   ·rw [if_pos hge];exact GF ⟨rfl,ls,os,rfl,h1,h3,h4,.inl hge⟩
   ·rw [if_neg hge]
    refine Gy (B (hint+os) (by lia) _ ?_)
    dsimp only
    cases ho:b (hint+os) with
    | true=>exact GF ⟨rfl,os,2*os+1,rfl,by lia,by lia,by lia,ho⟩
    | false=>exact GF ⟨rfl,ls,os,rfl,h1,h3,h4,.inr ho⟩
  case post=>
   rintro c st' ⟨rfl,ls,os,rfl,h1,h3,h4,h5⟩
   dsimp only
   refine Gy (Iw (Ho (I:=fun k c st''=>st''=st'/\∃lo hi,c=(none,lo,hi)/\lo<=hi/\hi<=n/\hi-lo<=n-k/\(∀i,i < lo->b i=true)/\(∀i,hi<=i->i < n->b i=false))
    (Q:=fun c st''=>st''=st'/\∃k,c=(none,k,k)/\k<=n/\(∀i,i < k->b i=true)/\(∀i,k<=i->i < n->b i=false)) ?step ?fin ?init) ?post)
   case init=>
    refine ⟨rfl,_,_,rfl,by lia,by lia,by lia,fun i hi=>mono i _ (by lia) h3 h4,fun i hi hn=>?_⟩
    rcases h5 with h5 | h5
    ·lia
    ·by_cases hge:n-hint<=os
     ·lia
     ·exact anti _ i (by lia) hn h5
   case post=>
    rintro c st'' ⟨rfl,k,rfl,z1,z2,z3⟩
    exact GF (h k z1 z2 z3)
   case fin=>
    rintro c st'' ⟨rfl,lo,hi,rfl,a1,a2,a3,a4,a5⟩
    have:lo=hi:=by lia
    subst this
    exact ⟨rfl,lo,rfl,a2,a4,a5⟩
   case step=>
    rintro k c st'' _ hkn ⟨rfl,lo,hi,rfl,a1,a2,a3,a4,a5⟩
    dsimp only
    by_cases hge:lo >= hi
    ·rw [if_pos hge]
     have:lo=hi:=by lia
     subst this
     exact GF ⟨rfl,lo,rfl,a2,a4,a5⟩
    ·rw [if_neg hge]
     refine Gy (B (lo+(hi-lo) / 2) (by lia) _ ?_)
     dsimp only
     cases ho:b (lo+(hi-lo) / 2) with
     | true=>exact GF ⟨rfl,_,_,rfl,by lia,a2,by lia,fun i hi=>mono i _ (by lia) (by lia) ho,a5⟩
     | false=>exact GF ⟨rfl,_,_,rfl,by lia,by lia,by lia,a4,fun i h1 h2=>anti _ i h1 h2 ho⟩
 | false=>
  rw [if_neg (by simp)]
  refine Gy (Iw (Ho (I:=fun k c st'=>st'=st/\∃ls os,c=(none,ls,os)/\ls < os/\k+1<=os/\ls<=hint/\b (hint-ls)=false)
   (Q:=fun c st'=>st'=st/\∃ls os,c=(none,ls,os)/\ls < os/\ls<=hint/\b (hint-ls)=false/\(hint+1<=os\/(os<=hint/\b (hint-os)=true))) ?step ?fin ⟨rfl,0,1,rfl,by lia,by lia,by lia,hb⟩) ?post)
  case fin=>
   rintro c st' ⟨rfl,ls,os,rfl,h1,h2,h3,h4⟩
   exact ⟨rfl,ls,os,rfl,h1,h3,h4,.inl (by lia)⟩
  case step=>
   rintro k c st' _ hkn ⟨rfl,ls,os,rfl,h1,h2,h3,h4⟩
   dsimp only
   by_cases hge:os >= hint+1
   ·rw [if_pos hge];exact GF ⟨rfl,ls,os,rfl,h1,h3,h4,.inl hge⟩
   ·rw [if_neg hge]
    refine Gy (B (hint-os) (by lia) _ ?_)
    dsimp only
    cases ho:b (hint-os) with
    | true=>exact GF ⟨rfl,ls,os,rfl,h1,h3,h4,.inr ⟨by lia,ho⟩⟩
    | false=>exact GF ⟨rfl,os,2*os+1,rfl,by lia,by lia,by lia,ho⟩
  case post=>
   rintro c st' ⟨rfl,ls,os,rfl,h1,h3,h4,h5⟩
   dsimp only
   refine Gy (Iw (Ho (I:=fun k c st''=>st''=st'/\∃lo hi,c=(none,lo,hi)/\lo<=hi/\hi<=n/\hi-lo<=n-k/\(∀i,i < lo->b i=true)/\(∀i,hi<=i->i < n->b i=false))
    (Q:=fun c st''=>st''=st'/\∃k,c=(none,k,k)/\k<=n/\(∀i,i < k->b i=true)/\(∀i,k<=i->i < n->b i=false)) ?step ?fin ?init) ?post)
   case init=>
    refine ⟨rfl,_,_,rfl,by lia,by lia,by lia,fun i hi=>?_,fun i hi hn=>anti _ i hi hn h4⟩
    rcases h5 with h5 | h5
    ·lia
    ·exact mono i _ (by lia) (by lia) h5.2
   case post=>
    rintro c st'' ⟨rfl,k,rfl,z1,z2,z3⟩
    exact GF (h k z1 z2 z3)
   case fin=>
    rintro c st'' ⟨rfl,lo,hi,rfl,a1,a2,a3,a4,a5⟩
    have:lo=hi:=by lia
    subst this
    exact ⟨rfl,lo,rfl,a2,a4,a5⟩
   case step=>
    rintro k c st'' _ hkn ⟨rfl,lo,hi,rfl,a1,a2,a3,a4,a5⟩
    dsimp only
    by_cases hge:lo >= hi
    ·rw [if_pos hge]
     have:lo=hi:=by lia
     subst this
     exact GF ⟨rfl,lo,rfl,a2,a4,a5⟩
    ·rw [if_neg hge]
     refine Gy (B (lo+(hi-lo) / 2) (by lia) _ ?_)
     dsimp only
     cases ho:b (lo+(hi-lo) / 2) with
     | true=>exact GF ⟨rfl,_,_,rfl,by lia,a2,by lia,fun i hi=>mono i _ (by lia) (by lia) ho,a5⟩
     | false=>exact GF ⟨rfl,_,_,rfl,by lia,by lia,by lia,a4,fun i h1 h2=>anti _ i h1 h2 ho⟩
end
end Tim
end
section
namespace Tim
open PySem PyProof.Rows
section
variable {α:Type} {le:α->α->Prop}
structure MI (le:α->α->Prop) (A B out:List α) (ia ib:Nat):Prop where
 perm:out.Perm (A.take ia++B.take ib)
 srt:out.Pairwise le
 la:∀x∈out,∀y∈A.drop ia,le x y
 lb:∀x∈out,∀y∈B.drop ib,le x y
noncomputable def Res (le:α->α->Prop) (A B r:List α):Prop:=r.Perm (A++B)/\r.Pairwise le
theorem MI.pushA {A B out:List α} {ia ib k:Nat} (sA:A.Pairwise le) (M:MI le A B out ia ib) (h:∀x∈(A.drop ia).take k,∀y∈B.drop ib,le x y):MI le A B (out++(A.drop ia).take k) (ia+k) ib:=by
 have sD:((A.drop ia).take k++(A.drop ia).drop k).Pairwise le:=by rw [GX];exact sA.drop
 have eD:A.drop (ia+k)=(A.drop ia).drop k:=by rw [List.drop_drop]
 rw [L6] at sD
 refine ⟨?_,?_,?_,?_⟩
 ·rw [List.take_add,GJ]
  refine (M.perm.append_right _).trans ?_
  rw [GJ]
  exact ID _ IE
 ·exact List.pairwise_append.mpr ⟨M.srt,sD.1,fun x hx y hy=>M.la x hx y (IV hy)⟩
 ·intro x hx y hy
  rw [eD] at hy
  rcases List.mem_append.mp hx with hx | hx
  ·exact M.la x hx y (Ju hy)
  ·exact sD.2.2 x hx y hy
 ·intro x hx y hy
  rcases List.mem_append.mp hx with hx | hx
  ·exact M.lb x hx y hy
  ·exact h x hx y hy
theorem MI.swap {A B out:List α} {ia ib:Nat} (M:MI le A B out ia ib):MI le B A out ib ia:=⟨M.perm.trans IE,M.srt,M.lb,M.la⟩
theorem MI.pushB {A B out:List α} {ia ib k:Nat} (sB:B.Pairwise le) (M:MI le A B out ia ib) (h:∀x∈(B.drop ib).take k,∀y∈A.drop ia,le x y):MI le A B (out++(B.drop ib).take k) ia (ib+k):=
 (M.swap.pushA sB h).swap
theorem MI.done {A B out:List α} {ia ib:Nat} (sA:A.Pairwise le) (sB:B.Pairwise le) (M:MI le A B out ia ib) (h:A.drop ia=[]\/B.drop ib=[]):Res le A B (out++A.drop ia++B.drop ib):=by
 refine ⟨?_,?_⟩
 ·rw [GJ]
  refine (M.perm.append_right _).trans ?_
  conv=>rhs;rw [<- GX ia A,<- GX ib B]
  rw [GJ,GJ]
  refine ID _ ?_
  rw [<- GJ,<- GJ]
  exact JY _ IE
 ·rw [GJ]
  refine List.pairwise_append.mpr ⟨M.srt,?_,fun x hx y hy=>?_⟩
  ·rcases h with h | h
   ·rw [h];exact sB.drop
   ·rw [h,Ia];exact sA.drop
  ·rcases List.mem_append.mp hy with hy | hy
   ·exact M.la x hx y hy
   ·exact M.lb x hx y hy
theorem MI.last {A B out:List α} {ia ib:Nat} (sA:A.Pairwise le) (sB:B.Pairwise le) (M:MI le A B out ia ib) (h:∀x∈B,∀y∈A.drop ia,le x y):Res le A B (out++B.drop ib++A.drop ia):=by
 refine ⟨?_,?_⟩
 ·rw [GJ]
  refine (M.perm.append_right _).trans ?_
  conv=>rhs;rw [<- GX ia A,<- GX ib B]
  rw [GJ,GJ]
  refine ID _ ?_
  rw [<- GJ]
  exact IE
 ·rw [GJ]
  refine List.pairwise_append.mpr ⟨M.srt,List.pairwise_append.mpr ⟨sB.drop,sA.drop,fun x hx y hy=>h x (Ju hx) y hy⟩,fun x hx y hy=>?_⟩
  rcases List.mem_append.mp hy with hy | hy
  ·exact M.lb x hx y hy
  ·exact M.la x hx y hy
structure MH (le:α->α->Prop) (A B R:List α) (na nb:Nat):Prop where
 perm:R.Perm (A.drop na++B.drop nb)
 srt:R.Pairwise le
 la:∀x∈A.take na,∀y∈R,le x y
 lb:∀x∈B.take nb,∀y∈R,le x y
theorem MH.swap {A B R:List α} {na nb:Nat} (M:MH le A B R na nb):MH le B A R nb na:=⟨M.perm.trans IE,M.srt,M.lb,M.la⟩
theorem MH.pushA {A B R:List α} {na nb k:Nat} (sA:A.Pairwise le) (hk:k<=na) (M:MH le A B R na nb) (h:∀x∈B.take nb,∀y∈(A.take na).drop k,le x y):MH le A B ((A.take na).drop k++R) k nb:=by
 have sD:((A.take na).take k++(A.take na).drop k).Pairwise le:=by rw [GX];exact sA.take
 have eT:A.take k=(A.take na).take k:=by rw [List.take_take,JV hk]
 have eD:A.drop k=(A.take na).drop k++A.drop na:=by
  conv=>lhs;rw [<- GX na A]
  rw [List.drop_append]
  by_cases hz:na<=A.length
  ·rw [show k-(A.take na).length=0 by rw [Ie];lia];rfl
  ·rw [HZ (show A.length<=na by lia)];simp
 rw [L6] at sD
 refine ⟨?_,?_,?_,?_⟩
 ·rw [eD,GJ]
  exact ID _ M.perm
 ·exact List.pairwise_append.mpr ⟨sD.2.1,M.srt,fun x hx y hy=>M.la x (Ju hx) y hy⟩
 ·intro x hx y hy
  rw [eT] at hx
  rcases List.mem_append.mp hy with hy | hy
  ·exact sD.2.2 x hx y hy
  ·exact M.la x (IV hx) y hy
 ·intro x hx y hy
  rcases List.mem_append.mp hy with hy | hy
  ·exact h x hx y hy
  ·exact M.lb x hx y hy
theorem MH.pushB {A B R:List α} {na nb k:Nat} (sB:B.Pairwise le) (hk:k<=nb) (M:MH le A B R na nb) (h:∀x∈A.take na,∀y∈(B.take nb).drop k,le x y):MH le A B ((B.take nb).drop k++R) na k:=
 (M.swap.pushA sB hk h).swap
theorem MH.done {A B R:List α} {na nb:Nat} (sA:A.Pairwise le) (sB:B.Pairwise le) (M:MH le A B R na nb) (h:A.take na=[]\/B.take nb=[]):Res le A B (A.take na++B.take nb++R):=by
 refine ⟨?_,?_⟩
 ·refine (M.perm.append_left _).trans ?_
  conv=>rhs;rw [<- GX na A,<- GX nb B]
  rw [GJ,GJ]
  refine ID _ ?_
  rw [<- GJ,<- GJ]
  exact JY _ IE
 ·refine List.pairwise_append.mpr ⟨?_,M.srt,fun x hx y hy=>?_⟩
  ·rcases h with h | h
   ·rw [h];exact sB.take
   ·rw [h,Ia];exact sA.take
  ·rcases List.mem_append.mp hx with hx | hx
   ·exact M.la x hx y hy
   ·exact M.lb x hx y hy
theorem MH.first {A B R:List α} {na nb:Nat} (sA:A.Pairwise le) (sB:B.Pairwise le) (M:MH le A B R na nb) (h:∀x∈B.take nb,∀y∈A,le x y):Res le A B (B.take nb++A.take na++R):=by
 refine ⟨?_,?_⟩
 ·refine (M.perm.append_left _).trans ?_
  conv=>rhs;rw [<- GX na A,<- GX nb B]
  rw [<- GJ,<- GJ]
  refine JY _ ?_
  rw [GJ,GJ]
  exact List.perm_append_comm.trans (by rw [GJ])
 ·refine List.pairwise_append.mpr ⟨List.pairwise_append.mpr ⟨sB.take,sA.take,fun x hx y hy=>h x hx y (IV hy)⟩,M.srt,fun x hx y hy=>?_⟩
  rcases List.mem_append.mp hx with hx | hx
  ·exact M.lb x hx y hy
  ·exact M.la x hx y hy
theorem dw {l:List α} {i:Nat} (d:α) (h:i < l.length):(l.drop i).take 1=[l.getD i d]:=by
 rw [HM h,List.take_succ_cons,List.take_zero,Iy,Gr h];rfl
theorem dA {l:List α} {i:Nat} (d:α) (h:i < l.length):(l.take (i+1)).drop i=[l.getD i d]:=by
 rw [MX,List.drop_append,HZ (by simp;lia)]
 simp [h,JV (LI h)]
end
end Tim
end
section
namespace Tim
open PySem PyProof.Rows
noncomputable def mlo:Array GL->Array GL->StateT Iz Sem (Array GL):=sortPriv% PySem.Builtin.mergeLo
noncomputable def Same (st st':Iz):Prop:=kindOf st'=kindOf st/\GD st'=GD st/\GS st'=GS st/\Jh st'=Jh st
theorem Same.rfl' {st:Iz}:Same st st:=⟨rfl,rfl,rfl,rfl⟩
theorem kJ (a:Array GL) (i:Nat):(a.extract i a.size).toList=a.toList.drop i:=by
 simp only [Array.toList_extract,K6];exact IL (by simp)
theorem xD (a:Array GL) (i k:Nat):(a.extract i (i+k)).toList=(a.toList.drop i).take k:=by simp [K6]
noncomputable abbrev kl {O:Lg} (key:GL->O.α):GL->GL->Prop:=fun x y=>O.kle (key x) (key y)
theorem cf {a:Array GL} {i:Nat} (h:i < a.size):a.toList[i]?=some (at_ a i):=by rw [Ii];exact pB h
theorem eS {a:Array GL} {i:Nat} (h:i < a.size):at_ a i∈a.toList:=HR (cf h)
theorem getD_at {a:Array GL} {i:Nat} (h:i < a.size):a.toList.getD i (HD,HD)=at_ a i:=by rw [Iy,cf h];rfl
theorem kK {a:Array GL} {i k:Nat} {x:GL} (h:x∈(a.toList.drop i).take k):∃j,j < k/\i+j < a.size/\x=at_ a (i+j):=by
 obtain ⟨j,hj,e⟩:=KI h
 have hj':j < k/\j < a.size-i:=by simpa [Nat.lt_min] using hj
 refine ⟨j,hj'.1,by lia,?_⟩
 have e2:a.toList[i+j]?=some x:=by
  rw [<- e]
  simp only [List.getElem_take,List.getElem_drop]
  exact Gr _
 rw [cf (by lia)] at e2
 exact (GP e2).symm
theorem mi {a:Array GL} {i:Nat} {x:GL} (h:x∈a.toList.drop i):∃j,i+j < a.size/\x=at_ a (i+j):=by
 obtain ⟨j,_,h2,h3⟩:=kK (k:=(a.toList.drop i).length) (by rw [HK];exact h)
 exact ⟨j,h2,h3⟩
section
variable {prog:G2} {w:HJ} {A:HQ} {E:Gs->Gv->Prop} {s:Gv} {κ:Kh} {O:Lg} {key:GL->O.α} {P:GL->Prop}
theorem eU {a:Array GL} (h:a.toList.Pairwise (kl key)) {i j:Nat} (hij:i<=j) (hj:j < a.size):kl key (at_ a i) (at_ a j):=by
 by_cases e:i=j
 ·subst e;exact Jb _
 ·have q:=List.pairwise_iff_getElem.mp h i j (by simp;lia) (by simpa using hj) (by lia)
  have e1:a.toList[i]'(by simp;lia)=at_ a i:=by have:=cf (a:=a) (i:=i) (by lia);rw [Gr (by simp;lia)] at this;exact GP this
  have e2:a.toList[j]'(by simpa using hj)=at_ a j:=by have:=cf (a:=a) (i:=j) hj;rw [Gr (by simpa using hj)] at this;exact GP this
  rw [e1,e2] at q
  exact q
theorem gb {a:Array GL} (h:a.toList.Pairwise (kl key)) {i:Nat} {y:GL} (hy:y∈a.toList.drop i):kl key (at_ a i) y:=by
 obtain ⟨j,hj,rfl⟩:=mi hy
 exact eU h (by lia) hj
theorem mj {x y:GL} (h:bey key false x y=true):kl key y x:=by
 have:(!O.blt (key x) (key y))=true:=h
 show O.blt (key x) (key y)=false
 simpa using this
theorem t6 {x y:GL} (h:bey key false x y=false):O.klt (key x) (key y):=by
 have:(!O.blt (key x) (key y))=false:=h
 show O.blt (key x) (key y)=true
 simpa using this
theorem ml {x y:GL} (h:bey key true x y=true):O.klt (key y) (key x):=h
theorem t7 {x y:GL} (h:bey key true x y=false):kl key x y:=h
theorem pC {a:Array GL} (h:a.toList.Pairwise (kl key)) {x:GL} {base n:Nat} (hz:base+n<=a.size):∀i j,i<=j->j < n->bey key false x (at_ a (base+j))=true->bey key false x (at_ a (base+i))=true:=fun i j hij hj q=>by
 have q:=mj q
 have:kl key (at_ a (base+i)) x:=G8 (eU h (by lia) (by lia)) q
 show (!O.blt (key x) (key (at_ a (base+i))))=true
 rw [show O.blt (key x) (key (at_ a (base+i)))=false from this];rfl
theorem pD {a:Array GL} (h:a.toList.Pairwise (kl key)) {x:GL} {base n:Nat} (hz:base+n<=a.size):∀i j,i<=j->j < n->bey key true x (at_ a (base+j))=true->bey key true x (at_ a (base+i))=true:=fun i j hij hj q=>
 Li (eU h (show base+i<=base+j by lia) (by lia)) (ml q)
theorem cy {σ α:Type} {M:ND} {c:Prop} [Decidable c] {t e:StateT σ Sem α} {Q:α->σ->Prop} {st:σ} (h1:c->wpS M A E s t Q st) (h2:¬c->wpS M A E s e Q st):wpS M A E s (if c then t else e) Q st:=by
 by_cases h:c
 ·rw [if_pos h];exact h1 h
 ·rw [if_neg h];exact h2 h
theorem zu {σ α:Type} {M:ND} {c:Nat->Prop} [∀m,Decidable (c m)] {T F:Nat->StateT σ Sem α} {Q:α->σ->Prop} {st:σ} (h1:∀m,(∀m,wpS M A E s (F m) Q st)->wpS M A E s (T m) Q st) (key:∀m,wpS M A E s (F m) Q st):∀m,wpS M A E s (if c m then T m else F m) Q st:=fun m=>cy (fun _=>h1 m key) fun _=>key m
theorem zv {σ α:Type} {M:ND} {c:Prop} [Decidable c] {T:StateT σ Sem α} {F:PUnit->Array GL->Nat->StateT σ Sem α} {o:Array GL} {i:Nat} {Q:α->σ->Prop} {st:σ} (Cond:Array GL->Nat->Prop) (h1:c->(∀o i,Cond o i->wpS M A E s (F ⟨⟩ o i) Q st)->wpS M A E s T Q st) (h2:¬c->Cond o i) (key:∀o i,Cond o i->wpS M A E s (F ⟨⟩ o i) Q st):wpS M A E s (if c then T else F ⟨⟩ o i) Q st:=cy (fun h=>h1 h key) fun h=>key _ _ (h2 h)
noncomputable def X4 (P:Array GL->Nat->Nat->Nat->Prop) (c:Option (Array GL)×Array GL×Nat×Nat×Nat):Prop:=∃o i j m,c=(none,o,i,j,m)/\P o i j m
noncomputable def X5 (P:Array GL->Nat->Nat->Prop) (c:Option (Array GL)×Array GL×Nat×Nat×Nat×Nat):Prop:=∃o i j m n,c=(none,o,i,j,m,n)/\P o i j
noncomputable def X6 (P:Array GL->Nat->Nat->Prop) (c:Option (Array GL)×Array GL×Nat×Nat×Nat×Nat×Nat):Prop:=∃o i j m n k,c=(none,o,i,j,m,n,k)/\P o i j
noncomputable def Xr {τ:Type} (R:Array GL->Prop) (c:Option (Array GL)×τ):Prop:=∃r z,c=(some r,z)/\R r
@[elab_as_elim] theorem X4.el {P:Array GL->Nat->Nat->Nat->Prop} {c:Option (Array GL)×Array GL×Nat×Nat×Nat} {C:Option (Array GL)×Array GL×Nat×Nat×Nat->Prop} (h:X4 P c) (f:∀o i j m,P o i j m->C (none,o,i,j,m)):C c:=by
 obtain ⟨o,i,j,m,rfl,p⟩:=h;exact f _ _ _ _ p
@[elab_as_elim] theorem X5.el {P:Array GL->Nat->Nat->Prop} {c:Option (Array GL)×Array GL×Nat×Nat×Nat×Nat} {C:Option (Array GL)×Array GL×Nat×Nat×Nat×Nat->Prop} (h:X5 P c) (f:∀o i j m n,P o i j->C (none,o,i,j,m,n)):C c:=by
 obtain ⟨o,i,j,m,n,rfl,p⟩:=h;exact f _ _ _ _ _ p
@[elab_as_elim] theorem X6.el {P:Array GL->Nat->Nat->Prop} {c:Option (Array GL)×Array GL×Nat×Nat×Nat×Nat×Nat} {C:Option (Array GL)×Array GL×Nat×Nat×Nat×Nat×Nat->Prop} (h:X6 P c) (f:∀o i j m n k,P o i j->C (none,o,i,j,m,n,k)):C c:=by
 obtain ⟨o,i,j,m,n,k,rfl,p⟩:=h;exact f _ _ _ _ _ _ p
@[elab_as_elim] theorem Xr.el {τ:Type} {R:Array GL->Prop} {c:Option (Array GL)×τ} {C:Option (Array GL)×τ->Prop} {P:Prop} (h:Xr R c\/P) (f:∀r z,R r->C (some r,z)) (g:P->C c):C c:=by
 rcases h with ⟨r,z,rfl,p⟩ | p
 ·exact f _ _ p
 ·exact g p
theorem BW (C:gN prog w A s κ O key P) {a b:Array GL} {st:Iz} {Q:Array GL->Iz->Prop} (hk:kindOf st=κ) (ha:0 < a.size) (hb:0 < b.size) (Pa:∀x∈a.toList,P x) (Pb:∀x∈b.toList,P x)
  (sA:a.toList.Pairwise (kl key)) (sB:b.toList.Pairwise (kl key)) (h0:∀y∈a.toList,kl key (at_ b 0) y) (hl:∀x∈b.toList,kl key x (at_ a (a.size-1)))
  (h:∀r st',Same st st'->Res (kl key) a.toList b.toList r.toList->Q r st'):wpS (Ha prog w) A E s (mlo a b) Q st:=by
 have pa:∀i,i < a.size->P (at_ a i):=fun i hi=>Pa _ (eS hi)
 have pb:∀i,i < b.size->P (at_ b i):=fun i hi=>Pb _ (eS hi)
 have M0:MI (kl key) a.toList b.toList (#[at_ b 0]:Array GL).toList 0 1:=by
  refine ⟨?_,?_,?_,?_⟩
  ·have e:b.toList.take 1=[at_ b 0]:=by have:=dw (l:=b.toList) (i:=0) (HD,HD) (by simpa using hb);rw [Jy,getD_at hb] at this;exact this
   rw [e];simp
  ·simp
  ·intro x hx y hy
   have:x=at_ b 0:=by simpa using hx
   subst this;exact h0 y (Ju hy)
  ·intro x hx y hy
   have:x=at_ b 0:=by simpa using hx
   subst this
   obtain ⟨j,hj,rfl⟩:=mi hy
   exact eU sB (by lia) hj
 have dn:∀{out:Array GL} {ia ib:Nat},MI (kl key) a.toList b.toList out.toList ia ib->(a.size<=ia\/b.size<=ib)->Res (kl key) a.toList b.toList (out++a.extract ia a.size++b.extract ib b.size).toList:=fun M hh=>by
  rw [Hl,Hl,kJ,kJ]
  exact M.done sA sB (hh.imp (fun z=>HZ (by simpa using z)) fun z=>HZ (by simpa using z))
 have la:∀{out:Array GL} {ia ib:Nat},MI (kl key) a.toList b.toList out.toList ia ib->ia+1=a.size->Res (kl key) a.toList b.toList (out++b.extract ib b.size++a.extract ia a.size).toList:=fun {out ia ib} M hh=>by
  rw [Hl,Hl,kJ,kJ]
  refine M.last sA sB fun x hx y hy=>?_
  obtain ⟨j,hj,rfl⟩:=mi hy
  have:=hl x hx
  rwa [show a.size-1=ia+j by lia] at this
 have p1A:∀{out:Array GL} {ia ib:Nat},MI (kl key) a.toList b.toList out.toList ia ib->ia < a.size->(∀y∈b.toList.drop ib,kl key (at_ a ia) y)->MI (kl key) a.toList b.toList (out.push (at_ a ia)).toList (ia+1) ib:=fun {out ia ib} M hi q=>by
  have e:=dw (l:=a.toList) (i:=ia) (HD,HD) (by simpa using hi)
  rw [getD_at hi] at e
  have:=M.pushA (k:=1) sA (by rw [e];intro x hx y hy;rw [Ip] at hx;subst hx;exact q y hy)
  rw [e] at this
  rw [Lj];exact this
 have p1B:∀{out:Array GL} {ia ib:Nat},MI (kl key) a.toList b.toList out.toList ia ib->ib < b.size->(∀y∈a.toList.drop ia,kl key (at_ b ib) y)->MI (kl key) a.toList b.toList (out.push (at_ b ib)).toList ia (ib+1):=fun {out ia ib} M hi q=>by
  have e:=dw (l:=b.toList) (i:=ib) (HD,HD) (by simpa using hi)
  rw [getD_at hi] at e
  have:=M.pushB (k:=1) sB (by rw [e];intro x hx y hy;rw [Ip] at hx;subst hx;exact q y hy)
  rw [e] at this
  rw [Lj];exact this
 have pkA:∀{out:Array GL} {ia ib k:Nat},MI (kl key) a.toList b.toList out.toList ia ib->(∀i,i < k->kl key (at_ a (ia+i)) (at_ b ib))->MI (kl key) a.toList b.toList (out++a.extract ia (ia+k)).toList (ia+k) ib:=fun {out ia ib k} M q=>by
  rw [Hl,xD]
  refine M.pushA sA fun x hx y hy=>?_
  obtain ⟨j,hj,_,rfl⟩:=kK hx
  exact G8 (q j hj) (gb sB hy)
 have pkB:∀{out:Array GL} {ia ib k:Nat},MI (kl key) a.toList b.toList out.toList ia ib->(∀i,i < k->O.klt (key (at_ b (ib+i))) (key (at_ a ia)))->MI (kl key) a.toList b.toList (out++b.extract ib (ib+k)).toList ia (ib+k):=fun {out ia ib k} M q=>by
  rw [Hl,xD]
  refine M.pushB sB fun x hx y hy=>?_
  obtain ⟨j,hj,_,rfl⟩:=kK hx
  exact G8 (Hw (q j hj)) (gb sA hy)
 delta mlo
 refine Gy (Lw (Ka ⟨rfl,?_⟩))
 refine Gy (aU hb ?_)
 refine cy (fun e1=>GF (h _ _ Same.rfl' (dn M0 (.inr (by have z:1=b.size:=(by simpa using e1);exact Kj z.symm))))) fun e1=>?_
 refine cy (fun e2=>GF (h _ _ Same.rfl' (la M0 (by simpa using e2)))) fun e2=>?_
 have e1:¬(1=b.size):=by simpa using e1
 have e2:¬(0+1=a.size):=by simpa using e2
 refine Gy (Km ?_)
 refine Gy (Iw (Ho (I:=fun x c st'=>Same st st'/\X4 (fun out ia ib _=>MI (kl key) a.toList b.toList out.toList ia ib/\ia+1 < a.size/\ib < b.size/\x+1<=ia+ib) c)
  (Q:=fun c st'=>Same st st'/\Xr (fun r=>Res (kl key) a.toList b.toList r.toList) c) ?step ?fin ⟨Same.rfl',_,0,1,_,rfl,M0,by lia,by lia,by lia⟩) ?post)
 case post=>exact fun c st' q=>Xr.el (P:=False) (.inl q.2) (fun r z R=>GF (h r st' q.1 R)) fun f=>f.elim
 case fin=>
  rintro c st' ⟨S,out,ia,ib,mg,rfl,M,h1,h2,h3⟩
  lia
 case step=>
  intro x c st' _ hx hI
  refine X4.el hI.2 fun out ia ib mg hM=>?_
  have S:=hI.1
  refine Gy (Iw (Ho (I:=fun y c st''=>Same st st''/\X5 (fun out ia' ib'=>MI (kl key) a.toList b.toList out.toList ia' ib'/\ia'+1 < a.size/\ib' < b.size/\ia+ib+y<=ia'+ib') c)
   (Q:=fun c st''=>Same st st''/\(Xr (fun r=>Res (kl key) a.toList b.toList r.toList) c\/X5 (fun out ia' ib'=>MI (kl key) a.toList b.toList out.toList ia' ib'/\ia'+1 < a.size/\ib' < b.size/\ia+ib+1<=ia'+ib') c)) ?s1 ?f1 ⟨S,out,ia,ib,0,0,rfl,hM.1,hM.2.1,hM.2.2.1,by lia⟩) ?p1)
  case f1=>
   rintro c st2 ⟨S,out,ia',ib',ac,bc,rfl,M,h1,h2,h3⟩
   exact ⟨S,.inr ⟨out,ia',ib',ac,bc,rfl,M,h1,h2,by lia⟩⟩
  case s1=>
   intro y c st2 _ hy hJ
   refine X5.el hJ.2 fun out ia' ib' ac bc hM=>?_
   have S:=hJ.1
   have M:=hM.1
   have h1:=hM.2.1
   have h2:=hM.2.2.1
   have h3:=hM.2.2.2
   refine Gy (aU h2 (Gy (aU (show ia' < a.size by lia) (Gy (mh C (pb _ h2) (pa _ (by lia)) (S.1.trans hk) ?_)))))
   refine cy (c:=O.blt (key (at_ b ib')) (key (at_ a ia'))=true) (fun hc=>?_) fun hc=>?_
   ·refine Gy (aU h2 ?_)
    have M1:=p1B M h2 fun y hy=>G8 (Hw hc) (gb sA hy)
    refine cy (fun e=>GF ⟨S,.inl ⟨_,_,rfl,dn M1 (.inr (by have z:ib'+1=b.size:=(by simpa using e);exact Kj z.symm))⟩⟩) fun e=>?_
    have e:¬(ib'+1=b.size):=by simpa using e
    exact cy (fun _=>GF ⟨S,.inr ⟨_,_,_,_,_,rfl,M1,h1,by lia,by lia⟩⟩) fun _=>GF ⟨S,_,_,_,_,_,rfl,M1,h1,by lia,by lia⟩
   ·have hc:O.blt (key (at_ b ib')) (key (at_ a ia'))=false:=by simpa using hc
    refine Gy (aU (show ia' < a.size by lia) ?_)
    have M1:=p1A M (by lia) fun y hy=>G8 (show kl key (at_ a ia') (at_ b ib') from hc) (gb sB hy)
    refine cy (fun e=>GF ⟨S,.inl ⟨_,_,rfl,la M1 (by simpa using e)⟩⟩) fun e=>?_
    have e:¬(ia'+1+1=a.size):=by simpa using e
    exact cy (fun _=>GF ⟨S,.inr ⟨_,_,_,_,_,rfl,M1,by lia,by lia,by lia⟩⟩) fun _=>GF ⟨S,_,_,_,_,_,rfl,M1,by lia,by lia,by lia⟩
  case p1=>
   intro c st2 q
   refine Xr.el q.2 (fun r z R=>GF ⟨q.1,_,_,rfl,R⟩) fun hX=>X5.el hX fun out ia' ib' ac bc hM=>?_
   have S:=q.1
   refine Gy (Lw (Ka ⟨rfl,?_⟩))
   refine Gy (Iw (Ho (I:=fun y c st''=>Same st st''/\X6 (fun out ia' ib'=>MI (kl key) a.toList b.toList out.toList ia' ib'/\ia'+1 < a.size/\ib' < b.size/\ia+ib+1<=ia'+ib') c)
    (Q:=fun c st''=>Same st st''/\(Xr (fun r=>Res (kl key) a.toList b.toList r.toList) c\/X6 (fun out ia' ib'=>MI (kl key) a.toList b.toList out.toList ia' ib'/\ia'+1 < a.size/\ib' < b.size/\ia+ib+1<=ia'+ib') c)) ?s2 ?f2 ⟨S,out,ia',ib',_,ac,bc,rfl,hM⟩) ?p2)
   case f2=>exact fun c st3 q=>⟨q.1,.inr q.2⟩
   case p2=>exact fun c st3 q=>Xr.el q.2 (fun r z R=>GF ⟨q.1,_,_,rfl,R⟩) fun hX=>X6.el hX fun out ia' ib' mg ac bc hM=>Gy (HN (GF ⟨q.1,_,_,_,_,rfl,hM.1,hM.2.1,hM.2.2.1,by have:=hM.2.2.2;lia⟩))
   case s2=>
    intro y c st3 _ hy hJ
    refine X6.el hJ.2 fun out ia' ib' mg ac bc hM=>?_
    have S:=hJ.1
    have M:=hM.1
    have h1:=hM.2.1
    have h2:=hM.2.2.1
    have h3:=hM.2.2.2
    revert mg
    refine zu (c:=fun mg=>mg > 1) (fun mg next=>?_) fun mg'=>?_
    ·exact next _
    refine Gy (HN ?_)
    refine Gy (aU h2 (Gy (gO C (S.1.trans hk) (show 0 < a.size-ia' by lia) (by lia) (fun i hi=>pa _ (by lia)) (pb _ h2) (pC sA (by lia)) fun k z1 z2 z3=>?_)))
    have gt:∀y∈a.toList.drop (ia'+k),kl key (at_ b ib') y:=fun y hy=>by
     obtain ⟨j,hj,rfl⟩:=mi hy
     have:=t6 (z3 (k+j) (by lia) (by lia))
     rw [<- Lx] at this
     exact Hw this
    dsimp -zeta only
    extract_lets +lift +onlyGivenNames u1 u2 jp u4 u5
    refine zv (F:=jp) (c:=k > 0) (fun o i=>MI (kl key) a.toList b.toList o.toList i ib'/\i+1 < a.size/\ia'<=i/\∀y∈a.toList.drop i,kl key (at_ b ib') y) (fun hk0 next=>?_) (fun hk0=>⟨M,h1,Gz _,by obtain rfl:k=0:=(by lia);exact gt⟩) fun out ia2 hC=>?_
    ·have M1:=pkA (k:=k) M fun i hi=>mj (z2 i hi)
     refine cy (fun e=>GF ⟨S,.inl ⟨_,_,rfl,la M1 (by simpa using e)⟩⟩) fun e=>?_
     refine cy (fun e'=>GF ⟨S,.inl ⟨_,_,rfl,dn M1 (.inl (by have z:ia'+k=a.size:=(by simpa using e');exact Kj z.symm))⟩⟩) fun e'=>?_
     have e:¬(ia'+k+1=a.size):=by simpa using e
     have e':¬(ia'+k=a.size):=by simpa using e'
     exact next _ _ ⟨M1,by lia,by lia,gt⟩
    have i1:=hC.2.1
    have i2:=hC.2.2.1
    refine Gy (aU h2 ?_)
    have M2:=p1B hC.1 h2 hC.2.2.2
    refine cy (fun e3=>GF ⟨S,.inl ⟨_,_,rfl,dn M2 (.inr (by have z:ib'+1=b.size:=(by simpa using e3);exact Kj z.symm))⟩⟩) fun e3=>?_
    have e3:¬(ib'+1=b.size):=by simpa using e3
    refine Gy (aU (show ia2 < a.size by lia) (Gy (gO C (S.1.trans hk) (show 0 < b.size-(ib'+1) by lia) (by lia) (fun i hi=>pb _ (by lia)) (pa _ (by lia)) (pD sB (by lia)) fun k2 y1 y2 y3=>?_)))
    have ge:∀y∈b.toList.drop (ib'+1+k2),kl key (at_ a ia2) y:=fun y hy=>by
     obtain ⟨j,hj,rfl⟩:=mi hy
     have:=t7 (y3 (k2+j) (by lia) (by lia))
     rw [<- Lx] at this
     exact this
    dsimp -zeta only
    extract_lets +lift +onlyGivenNames v1 jp2 v3 v4
    refine zv (F:=jp2) (c:=k2 > 0) (fun o i=>MI (kl key) a.toList b.toList o.toList ia2 i/\i < b.size/\ib'+1<=i/\∀y∈b.toList.drop i,kl key (at_ a ia2) y) (fun hk2 next=>?_) (fun hk2=>⟨M2,by lia,Gz _,by obtain rfl:k2=0:=(by lia);exact ge⟩) fun out ib2 hD=>?_
    ·have M3:=pkB (k:=k2) M2 fun i hi=>ml (y2 i hi)
     refine cy (fun e4=>GF ⟨S,.inl ⟨_,_,rfl,dn M3 (.inr (by have z:ib'+1+k2=b.size:=(by simpa using e4);exact Kj z.symm))⟩⟩) fun e4=>?_
     have e4:¬(ib'+1+k2=b.size):=by simpa using e4
     exact next _ _ ⟨M3,by lia,by lia,ge⟩
    have j1:=hD.2.1
    have j2:=hD.2.2.1
    refine Gy (aU (show ia2 < a.size by lia) ?_)
    have M4:=p1A hD.1 (by lia) hD.2.2.2
    refine cy (fun e5=>GF ⟨S,.inl ⟨_,_,rfl,la M4 (by simpa using e5)⟩⟩) fun e5=>?_
    have e5:¬(ia2+1+1=a.size):=by simpa using e5
    exact cy (fun _=>GF ⟨S,.inr ⟨_,_,_,_,_,_,rfl,M4,by lia,by lia,by lia⟩⟩) fun _=>GF ⟨S,_,_,_,_,_,_,rfl,M4,by lia,by lia,by lia⟩
end
end Tim
end
section
namespace Tim
open PySem PyProof.Rows
noncomputable def mhi:Array GL->Array GL->StateT Iz Sem (Array GL):=sortPriv% PySem.Builtin.mergeHi
theorem iy (a:Array GL) (n:Nat):(a.extract 0 n).toList=a.toList.take n:=by
 have:=xD a 0 n
 rw [KU,Jy] at this;exact this
theorem ny (a:Array GL) (i n:Nat) (h:i<=n):(a.extract i n).toList=(a.toList.take n).drop i:=by
 have:=xD a i (n-i)
 rw [show i+(n-i)=n by lia] at this
 rw [this,List.drop_take]
theorem jc {a:Array GL} {i n:Nat} {x:GL} (h:x∈(a.toList.take n).drop i):∃j,i<=j/\j < n/\j < a.size/\x=at_ a j:=by
 rw [List.drop_take] at h
 obtain ⟨j,h1,h2,h3⟩:=kK h
 exact ⟨i+j,by lia,by lia,h2,h3⟩
theorem jM {a:Array GL} {n:Nat} {x:GL} (h:x∈a.toList.take n):∃j,j < n/\j < a.size/\x=at_ a j:=by
 obtain ⟨j,_,h2,h3,h4⟩:=jc (i:=0) (by rw [Jy];exact h)
 exact ⟨j,h2,h3,h4⟩
section
variable {prog:G2} {w:HJ} {A:HQ} {E:Gs->Gv->Prop} {s:Gv} {κ:Kh} {O:Lg} {key:GL->O.α} {P:GL->Prop}
noncomputable def Y4 (P:Nat->Nat->Array GL->Nat->Prop) (c:Option (Array GL)×Nat×Nat×Array GL×Nat):Prop:=∃i j o m,c=(none,i,j,o,m)/\P i j o m
noncomputable def Y5 (P:Nat->Nat->Array GL->Prop) (c:Option (Array GL)×Nat×Nat×Array GL×Nat×Nat):Prop:=∃i j o m n,c=(none,i,j,o,m,n)/\P i j o
noncomputable def Y6 (P:Nat->Nat->Array GL->Prop) (c:Option (Array GL)×Nat×Nat×Array GL×Nat×Nat×Nat):Prop:=∃i j o m n k,c=(none,i,j,o,m,n,k)/\P i j o
@[elab_as_elim] theorem Y4.el {P:Nat->Nat->Array GL->Nat->Prop} {c:Option (Array GL)×Nat×Nat×Array GL×Nat} {C:Option (Array GL)×Nat×Nat×Array GL×Nat->Prop} (h:Y4 P c) (f:∀i j o m,P i j o m->C (none,i,j,o,m)):C c:=by
 obtain ⟨o,i,j,m,rfl,p⟩:=h;exact f _ _ _ _ p
@[elab_as_elim] theorem Y5.el {P:Nat->Nat->Array GL->Prop} {c:Option (Array GL)×Nat×Nat×Array GL×Nat×Nat} {C:Option (Array GL)×Nat×Nat×Array GL×Nat×Nat->Prop} (h:Y5 P c) (f:∀i j o m n,P i j o->C (none,i,j,o,m,n)):C c:=by
 obtain ⟨o,i,j,m,n,rfl,p⟩:=h;exact f _ _ _ _ _ p
@[elab_as_elim] theorem Y6.el {P:Nat->Nat->Array GL->Prop} {c:Option (Array GL)×Nat×Nat×Array GL×Nat×Nat×Nat} {C:Option (Array GL)×Nat×Nat×Array GL×Nat×Nat×Nat->Prop} (h:Y6 P c) (f:∀i j o m n k,P i j o->C (none,i,j,o,m,n,k)):C c:=by
 obtain ⟨o,i,j,m,n,k,rfl,p⟩:=h;exact f _ _ _ _ _ _ p
theorem zw {σ α:Type} {M:ND} {c:Prop} [Decidable c] {T:StateT σ Sem α} {F:PUnit->Nat->Array GL->StateT σ Sem α} {o:Array GL} {i:Nat} {Q:α->σ->Prop} {st:σ} (Cond:Nat->Array GL->Prop) (h1:c->(∀i o,Cond i o->wpS M A E s (F ⟨⟩ i o) Q st)->wpS M A E s T Q st) (h2:¬c->Cond i o) (key:∀i o,Cond i o->wpS M A E s (F ⟨⟩ i o) Q st):wpS M A E s (if c then T else F ⟨⟩ i o) Q st:=cy (fun h=>h1 h key) fun h=>key _ _ (h2 h)
theorem BX (C:gN prog w A s κ O key P) {a b:Array GL} {st:Iz} {Q:Array GL->Iz->Prop} (hk:kindOf st=κ) (ha:0 < a.size) (hb:0 < b.size) (Pa:∀x∈a.toList,P x) (Pb:∀x∈b.toList,P x)
  (sA:a.toList.Pairwise (kl key)) (sB:b.toList.Pairwise (kl key)) (h0:∀y∈a.toList,kl key (at_ b 0) y) (hl:∀x∈b.toList,kl key x (at_ a (a.size-1)))
  (h:∀r st',Same st st'->Res (kl key) a.toList b.toList r.toList->Q r st'):wpS (Ha prog w) A E s (mhi a b) Q st:=by
 have pa:∀i,i < a.size->P (at_ a i):=fun i hi=>Pa _ (eS hi)
 have pb:∀i,i < b.size->P (at_ b i):=fun i hi=>Pb _ (eS hi)
 have M0:MH (kl key) a.toList b.toList (#[at_ a (a.size-1)]:Array GL).reverse.toList (a.size-1) b.size:=by
  have eR:(#[at_ a (a.size-1)]:Array GL).reverse.toList=[at_ a (a.size-1)]:=rfl
  rw [eR]
  refine ⟨?_,List.pairwise_singleton _ _,?_,?_⟩
  ·have e:=dA (l:=a.toList) (i:=a.size-1) (HD,HD) (by simp;lia)
   rw [getD_at (by lia),show a.size-1+1=a.size by lia,show a.toList.take a.size=a.toList from IL (by simp)] at e
   rw [e,HZ (by simp)]
   exact Mh _
  ·intro x hx y hy
   obtain ⟨j,h1,h2,rfl⟩:=jM hx
   rw [Ip] at hy;subst hy
   exact eU sA (by lia) (by lia)
  ·intro x hx y hy
   rw [Ip] at hy;subst hy
   exact hl x (IV hx)
 have dn:∀{out:Array GL} {na nb:Nat},MH (kl key) a.toList b.toList out.reverse.toList na nb->(na=0\/nb=0)->Res (kl key) a.toList b.toList (a.extract 0 na++b.extract 0 nb++out.reverse).toList:=fun M hh=>by
  rw [Hl,Hl,iy,iy]
  exact M.done sA sB (hh.imp (fun z=>by rw [z];rfl) fun z=>by rw [z];rfl)
 have fi:∀{out:Array GL} {na nb:Nat},MH (kl key) a.toList b.toList out.reverse.toList na nb->nb=1->Res (kl key) a.toList b.toList (b.extract 0 nb++a.extract 0 na++out.reverse).toList:=fun {out na nb} M hh=>by
  rw [Hl,Hl,iy,iy]
  refine M.first sA sB fun x hx y hy=>?_
  obtain ⟨j,h1,h2,rfl⟩:=jM hx
  rw [show j=0 by lia]
  exact h0 y hy
 have pkA:∀{out:Array GL} {na nb k:Nat},MH (kl key) a.toList b.toList out.reverse.toList na nb->k<=na->(∀x∈b.toList.take nb,∀j,k<=j->j < na->kl key x (at_ a j))->MH (kl key) a.toList b.toList (out++(a.extract k na).reverse).reverse.toList k nb:=fun {out na nb k} M hi q=>by
  have e:(out++(a.extract k na).reverse).reverse.toList=(a.toList.take na).drop k++out.reverse.toList:=by
   rw [L7,LS,Hl,ny a k na hi]
  rw [e]
  refine M.pushA sA hi fun x hx y hy=>?_
  obtain ⟨j,h1,h2,_,rfl⟩:=jc hy
  exact q x hx j h1 h2
 have pkB:∀{out:Array GL} {na nb k:Nat},MH (kl key) a.toList b.toList out.reverse.toList na nb->k<=nb->(∀x∈a.toList.take na,∀j,k<=j->j < nb->kl key x (at_ b j))->MH (kl key) a.toList b.toList (out++(b.extract k nb).reverse).reverse.toList na k:=fun {out na nb k} M hi q=>by
  have e:(out++(b.extract k nb).reverse).reverse.toList=(b.toList.take nb).drop k++out.reverse.toList:=by
   rw [L7,LS,Hl,ny b k nb hi]
  rw [e]
  refine M.pushB sB hi fun x hx y hy=>?_
  obtain ⟨j,h1,h2,_,rfl⟩:=jc hy
  exact q x hx j h1 h2
 have p1A:∀{out:Array GL} {na nb:Nat},MH (kl key) a.toList b.toList out.reverse.toList na nb->0 < na->na<=a.size->(∀x∈b.toList.take nb,kl key x (at_ a (na-1)))->MH (kl key) a.toList b.toList (out.push (at_ a (na-1))).reverse.toList (na-1) nb:=fun {out na nb} M h1 h2 q=>by
  have e:(out.push (at_ a (na-1))).reverse.toList=(a.toList.take na).drop (na-1)++out.reverse.toList:=by
   have z:=dA (l:=a.toList) (i:=na-1) (HD,HD) (by simp;lia)
   rw [show na-1+1=na by lia,getD_at (by lia)] at z
   rw [z];simp
  rw [e]
  refine M.pushA sA (by lia) fun x hx y hy=>?_
  obtain ⟨j,g1,g2,_,rfl⟩:=jc hy
  rw [show j=na-1 by lia]
  exact q x hx
 have p1B:∀{out:Array GL} {na nb:Nat},MH (kl key) a.toList b.toList out.reverse.toList na nb->0 < nb->nb<=b.size->(∀x∈a.toList.take na,kl key x (at_ b (nb-1)))->MH (kl key) a.toList b.toList (out.push (at_ b (nb-1))).reverse.toList na (nb-1):=fun {out na nb} M h1 h2 q=>by
  have e:(out.push (at_ b (nb-1))).reverse.toList=(b.toList.take nb).drop (nb-1)++out.reverse.toList:=by
   have z:=dA (l:=b.toList) (i:=nb-1) (HD,HD) (by simp;lia)
   rw [show nb-1+1=nb by lia,getD_at (by lia)] at z
   rw [z];simp
  rw [e]
  refine M.pushB sB (by lia) fun x hx y hy=>?_
  obtain ⟨j,g1,g2,_,rfl⟩:=jc hy
  rw [show j=nb-1 by lia]
  exact q x hx
 have tA:∀{n:Nat} {x:GL},n<=a.size->x∈a.toList.take n->kl key x (at_ a (n-1)):=fun {n x} hn hx=>by
  obtain ⟨j,h1,h2,rfl⟩:=jM hx
  exact eU sA (by lia) (by lia)
 have tB:∀{n:Nat} {x:GL},n<=b.size->x∈b.toList.take n->kl key x (at_ b (n-1)):=fun {n x} hn hx=>by
  obtain ⟨j,h1,h2,rfl⟩:=jM hx
  exact eU sB (by lia) (by lia)
 delta mhi
 refine Gy (Lw (Ka ⟨rfl,?_⟩))
 refine Gy (aU (show a.size-1 < a.size by lia) ?_)
 refine cy (fun e1=>GF (h _ _ Same.rfl' (dn M0 (.inl (by simpa using e1))))) fun e1=>?_
 refine cy (fun e2=>GF (h _ _ Same.rfl' (fi M0 (by simpa using e2)))) fun e2=>?_
 have e1:¬(a.size-1=0):=by simpa using e1
 have e2:¬(b.size=1):=by simpa using e2
 refine Gy (Km ?_)
 refine Gy (Iw (Ho (I:=fun x c st'=>Same st st'/\Y4 (fun na' nb' out _=>(MH (kl key) a.toList b.toList out.reverse.toList na' nb'/\0 < na'/\na'<=a.size/\1 < nb'/\nb'<=b.size)/\na'+nb'+x+1<=a.size+b.size) c)
  (Q:=fun c st'=>Same st st'/\Xr (fun r=>Res (kl key) a.toList b.toList r.toList) c) ?step ?fin ⟨Same.rfl',_,_,_,_,rfl,⟨M0,by lia,by lia,by lia,by lia⟩,by lia⟩) ?post)
 case post=>exact fun c st' q=>Xr.el (P:=False) (.inl q.2) (fun r z R=>GF (h r st' q.1 R)) fun f=>f.elim
 case fin=>
  rintro c st' ⟨S,na,nb,out,mg,rfl,⟨M,h1,h2,h3,h4⟩,h5⟩
  lia
 case step=>
  intro x c st' _ hx hI
  refine Y4.el hI.2 fun na nb out mg hM=>?_
  have S:=hI.1
  refine Gy (Iw (Ho (I:=fun y c st''=>Same st st''/\Y5 (fun na' nb' out=>(MH (kl key) a.toList b.toList out.reverse.toList na' nb'/\0 < na'/\na'<=a.size/\1 < nb'/\nb'<=b.size)/\na'+nb'+y<=na+nb) c)
   (Q:=fun c st''=>Same st st''/\(Xr (fun r=>Res (kl key) a.toList b.toList r.toList) c\/Y5 (fun na' nb' out=>(MH (kl key) a.toList b.toList out.reverse.toList na' nb'/\0 < na'/\na'<=a.size/\1 < nb'/\nb'<=b.size)/\na'+nb'+1<=na+nb) c)) ?s1 ?f1 ⟨S,na,nb,out,0,0,rfl,hM.1,by lia⟩) ?p1)
  case f1=>
   rintro c st2 ⟨S,na',nb',out,ac,bc,rfl,⟨M,h1,h1',h2,h2'⟩,h3⟩
   exact ⟨S,.inr ⟨na',nb',out,ac,bc,rfl,⟨M,h1,h1',h2,h2'⟩,by lia⟩⟩
  case s1=>
   intro y c st2 _ hy hJ
   refine Y5.el hJ.2 fun na' nb' out ac bc hM=>?_
   have S:=hJ.1
   have M:=hM.1.1
   have h1:=hM.1.2.1
   have h1':=hM.1.2.2.1
   have h2:=hM.1.2.2.2.1
   have h2':=hM.1.2.2.2.2
   have h3:=hM.2
   refine Gy (aU (show nb'-1 < b.size by lia) (Gy (aU (show na'-1 < a.size by lia) (Gy (mh C (pb _ (by lia)) (pa _ (by lia)) (S.1.trans hk) ?_)))))
   refine cy (c:=O.blt (key (at_ b (nb'-1))) (key (at_ a (na'-1)))=true) (fun hc=>?_) fun hc=>?_
   ·refine Gy (aU (show na'-1 < a.size by lia) ?_)
    have M1:=p1A M h1 h1' fun x hx=>G8 (tB h2' hx) (Hw hc)
    refine cy (fun e=>GF ⟨S,.inl ⟨_,_,rfl,dn M1 (.inl (by simpa using e))⟩⟩) fun e=>?_
    have e:¬(na'-1=0):=by simpa using e
    exact cy (fun _=>GF ⟨S,.inr ⟨_,_,_,_,_,rfl,⟨M1,by lia,by lia,by lia,by lia⟩,by lia⟩⟩) fun _=>GF ⟨S,_,_,_,_,_,rfl,⟨M1,by lia,by lia,by lia,by lia⟩,by lia⟩
   ·have hc:O.blt (key (at_ b (nb'-1))) (key (at_ a (na'-1)))=false:=by simpa using hc
    refine Gy (aU (show nb'-1 < b.size by lia) ?_)
    have M1:=p1B M (by lia) h2' fun x hx=>G8 (tA h1' hx) (show kl key (at_ a (na'-1)) (at_ b (nb'-1)) from hc)
    refine cy (fun e=>GF ⟨S,.inl ⟨_,_,rfl,fi M1 (by simpa using e)⟩⟩) fun e=>?_
    have e:¬(nb'-1=1):=by simpa using e
    exact cy (fun _=>GF ⟨S,.inr ⟨_,_,_,_,_,rfl,⟨M1,by lia,by lia,by lia,by lia⟩,by lia⟩⟩) fun _=>GF ⟨S,_,_,_,_,_,rfl,⟨M1,by lia,by lia,by lia,by lia⟩,by lia⟩
  case p1=>
   intro c st2 q
   refine Xr.el q.2 (fun r z R=>GF ⟨q.1,_,_,rfl,R⟩) fun hX=>Y5.el hX fun na' nb' out ac bc hM=>?_
   have S:=q.1
   refine Gy (Lw (Ka ⟨rfl,?_⟩))
   refine Gy (Iw (Ho (I:=fun y c st''=>Same st st''/\Y6 (fun na' nb' out=>(MH (kl key) a.toList b.toList out.reverse.toList na' nb'/\0 < na'/\na'<=a.size/\1 < nb'/\nb'<=b.size)/\na'+nb'+1<=na+nb) c)
    (Q:=fun c st''=>Same st st''/\(Xr (fun r=>Res (kl key) a.toList b.toList r.toList) c\/Y6 (fun na' nb' out=>(MH (kl key) a.toList b.toList out.reverse.toList na' nb'/\0 < na'/\na'<=a.size/\1 < nb'/\nb'<=b.size)/\na'+nb'+1<=na+nb) c)) ?s2 ?f2 ⟨S,na',nb',out,_,ac,bc,rfl,hM⟩) ?p2)
   case f2=>exact fun c st3 q=>⟨q.1,.inr q.2⟩
   case p2=>exact fun c st3 q=>Xr.el q.2 (fun r z R=>GF ⟨q.1,_,_,rfl,R⟩) fun hX=>Y6.el hX fun na' nb' out mg ac bc hM=>Gy (HN (GF ⟨q.1,_,_,_,_,rfl,hM.1,by have:=hM.2;lia⟩))
   case s2=>
    intro y c st3 _ hy hJ
    refine Y6.el hJ.2 fun na' nb' out mg ac bc hM=>?_
    have S:=hJ.1
    have M:=hM.1.1
    have h1:=hM.1.2.1
    have h1':=hM.1.2.2.1
    have h2:=hM.1.2.2.2.1
    have h2':=hM.1.2.2.2.2
    have h3:=hM.2
    revert mg
    refine zu (c:=fun mg=>mg > 1) (fun mg next=>?_) fun mg'=>?_
    ·exact next _
    refine Gy (HN ?_)
    refine Gy (aU (show nb'-1 < b.size by lia) (Gy (gO C (S.1.trans hk) (show na'-1 < na' by lia) (by lia) (fun i hi=>pa _ (by lia)) (pb _ (by lia)) (pC sA (by lia)) fun k z1 z2 z3=>?_)))
    simp only [KU] at z2 z3
    dsimp -zeta only
    extract_lets +lift +onlyGivenNames u1 u2 u3 w1 w2 jp
    have le1:∀x∈a.toList.take k,kl key x (at_ b (nb'-1)):=fun x hx=>by
     obtain ⟨j,g1,g2,rfl⟩:=jM hx
     exact mj (z2 j g1)
    have z1:k<=na':=z1
    have M1:=pkA (k:=k) M z1 fun x hx j g1 g2=>G8 (tB h2' hx) (Hw (t6 (z3 j g1 g2)))
    refine zw (F:=jp) (c:=u1 > 0) (fun i o=>MH (kl key) a.toList b.toList o.reverse.toList i nb'/\0 < i/\i<=na'/\∀x∈a.toList.take i,kl key x (at_ b (nb'-1))) (fun hk0 next=>?_) (fun hk0=>?_) fun na2 out2 hC=>?_
    ·refine cy (fun e=>GF ⟨S,.inl ⟨_,_,rfl,dn M1 (.inl (beq_iff_eq.mp e))⟩⟩) fun e=>?_
     have e:¬(k=0):=fun z=>e (beq_iff_eq.mpr z)
     exact next _ _ ⟨M1,by lia,z1,le1⟩
    ·have hk0:¬(na'-k > 0):=hk0
     obtain rfl:k=na':=by lia
     exact ⟨M,h1,Gz _,le1⟩
    have i1:=hC.2.1
    have i2:=hC.2.2.1
    refine Gy (aU (show nb'-1 < b.size by lia) ?_)
    have M2:=p1B hC.1 (by lia) h2' hC.2.2.2
    refine cy (fun e3=>GF ⟨S,.inl ⟨_,_,rfl,fi M2 (beq_iff_eq.mp e3)⟩⟩) fun e3=>?_
    have e3:¬(nb'-1=1):=fun z=>e3 (beq_iff_eq.mpr z)
    refine Gy (aU (show na2-1 < a.size by lia) (Gy (gO C (S.1.trans hk) (show nb'-1-1 < nb'-1 by lia) (by lia) (fun i hi=>pb _ (by lia)) (pa _ (by lia)) (pD sB (by lia)) fun k2 y1 y2 y3=>?_)))
    simp only [KU] at y2 y3
    have lt2:∀x∈b.toList.take k2,kl key x (at_ a (na2-1)):=fun x hx=>by
     obtain ⟨j,g1,g2,rfl⟩:=jM hx
     exact Hw (ml (y2 j g1))
    have y1:k2<=nb'-1:=y1
    have M3:=pkB (k:=k2) M2 y1 fun x hx j g1 g2=>G8 (tA (by lia) hx) (t7 (y3 j g1 g2))
    dsimp -zeta only
    extract_lets +lift +onlyGivenNames v1 v2 jp2
    refine zw (F:=jp2) (c:=v1 > 0) (fun i o=>MH (kl key) a.toList b.toList o.reverse.toList na2 i/\1 < i/\i<=nb'-1/\∀x∈b.toList.take i,kl key x (at_ a (na2-1))) (fun hk0 next=>?_) (fun hk0=>?_) fun nb2 out3 hD=>?_
    ·refine cy (fun e=>GF ⟨S,.inl ⟨_,_,rfl,fi M3 (beq_iff_eq.mp e)⟩⟩) fun e=>?_
     refine cy (fun e'=>GF ⟨S,.inl ⟨_,_,rfl,dn M3 (.inr (beq_iff_eq.mp e'))⟩⟩) fun e'=>?_
     have e:¬(k2=1):=fun z=>e (beq_iff_eq.mpr z)
     have e':¬(k2=0):=fun z=>e' (beq_iff_eq.mpr z)
     exact next _ _ ⟨M3,by lia,y1,lt2⟩
    ·have hk0:¬(nb'-1-k2 > 0):=hk0
     have hz:k2=nb'-1:=by lia
     rw [hz] at lt2
     exact ⟨M2,by lia,Gz _,lt2⟩
    have j1:=hD.2.1
    have j2:=hD.2.2.1
    refine Gy (aU (show na2-1 < a.size by lia) ?_)
    have M4:=p1A hD.1 i1 (by lia) hD.2.2.2
    refine cy (fun e5=>GF ⟨S,.inl ⟨_,_,rfl,dn M4 (.inl (beq_iff_eq.mp e5))⟩⟩) fun e5=>?_
    have e5:¬(na2-1=0):=fun z=>e5 (beq_iff_eq.mpr z)
    exact cy (fun _=>GF ⟨S,.inr ⟨_,_,_,_,_,_,rfl,⟨M4,by lia,by lia,by lia,by lia⟩,by lia⟩⟩) fun _=>GF ⟨S,_,_,_,_,_,_,rfl,⟨M4,by lia,by lia,by lia,by lia⟩,by lia⟩
end
end Tim
end
section
namespace Tim
open PySem PyProof.Rows
section
variable {prog:G2} {w:HJ} {A:HQ} {E:Gs->Gv->Prop} {s:Gv} {κ:Kh} {O:Lg} {key:GL->O.α} {P:GL->Prop}
noncomputable def Sg {O:Lg} (key:GL->O.α) (a:Array GL) (lo hi:Nat):Prop:=∀i j,lo<=i->i<=j->j < hi->kl key (at_ a i) (at_ a j)
noncomputable def Fl {O:Lg} (key:GL->O.α) (a:Array GL) (lo hi:Nat):Prop:=∀i j,lo<=i->i<=j->j < hi->kl key (at_ a j) (at_ a i)
structure Mv (lo:Nat) (st st':Iz):Prop where
 kind:kindOf st'=kindOf st
 pend:GS st'=GS st
 fail:Jh st'=Jh st
 perm:(GD st').Perm (GD st)
 pre:∀i,i < lo->(GD st')[i]?=(GD st)[i]?
theorem Mv.rfl' {lo:Nat} {st:Iz}:Mv lo st st:=⟨rfl,rfl,rfl,KJ _,fun _ _=>rfl⟩
theorem Mv.size {lo:Nat} {st st':Iz} (h:Mv lo st st'):(GD st').size=(GD st).size:=h.perm.size_eq
theorem Mv.all {lo:Nat} {st st':Iz} (h:Mv lo st st') (hP:∀x∈(GD st).toList,P x):∀x∈(GD st').toList,P x:=fun x hx=>hP x ((Array.perm_iff_toList_perm.mp h.perm).mem_iff.mp hx)
theorem bY {xs:Array GL} {i j:Nat} (hj:j<=xs.size) (k:Nat):at_ (Jf xs i j ((j-i) / 2)) k=if i<=k/\k < j then at_ xs (i+j-1-k) else at_ xs k:=by
 have z:=Mp (i:=i) hj k
 by_cases c:i<=k/\k < j
 ·rw [if_pos c] at z ⊢;exact bg z
 ·rw [if_neg c] at z ⊢;exact bg z
theorem cS {xs:Array GL} {i j:Nat} (hj:j<=xs.size) (he:∀k,i<=k->k < j->key (at_ xs k)=key (at_ xs (j-1))) (k:Nat):key (at_ (Jf xs i j ((j-i) / 2)) k)=key (at_ xs k):=by
 rw [bY hj]
 split
 ·rename_i c;rw [he _ (by lia) (by lia),he k c.1 c.2]
 ·rfl
theorem Mv.rev {lo:Nat} {st st':Iz} (h:Mv lo st st') {i j:Nat} (hi:lo<=i) (hj:j<=(GD st').size):Mv lo st (KW st' (Jf (GD st') i j ((j-i) / 2))):=
 ⟨h.kind,h.pend,h.fail,(mirror_perm _ _ _ _).trans h.perm,fun k hk=>by
  rw [<- h.pre k hk]
  show (Jf (GD st') i j ((j-i) / 2))[k]?=_
  rw [Mp hj,if_neg (by lia)]⟩
theorem cz (C:gN prog w A s κ O key P) {st:Iz} {i j:Nat} {Q:Option Bool->Iz->Prop} (hk:kindOf st=κ) (hP:∀x∈(GD st).toList,P x) (hi:i < (GD st).size) (hj:j < (GD st).size)
  (h:Q (some (O.blt (key (at_ (GD st) i)) (key (at_ (GD st) j)))) st):wpS (Ha prog w) A E s (ltAt' i j) Q st:=by
 rw [ltAt'_eq]
 refine Gy (Km (Gy (aU hi (Gy (aU hj (mh C (hP _ (eS hi)) (hP _ (eS hj)) hk h))))))
theorem Sg.one {a:Array GL} {lo:Nat}:Sg key a lo (lo+1):=fun i j h1 h2 h3=>by
 rw [show i=j by lia];exact Jb _
theorem Sg.more {a:Array GL} {lo n:Nat} (h:Sg key a lo (lo+n)) (h1:1<=n) (q:kl key (at_ a (lo+n-1)) (at_ a (lo+n))):Sg key a lo (lo+(n+1)):=fun i j z1 z2 z3=>by
 by_cases hj:j=lo+n
 ·subst hj
  by_cases hi:i=lo+n
  ·subst hi;exact Jb _
  ·exact G8 (h i (lo+n-1) z1 (by lia) (by lia)) q
 ·exact h i j z1 z2 (by lia)
theorem Fl.more {a:Array GL} {lo n:Nat} (h:Fl key a lo (lo+n)) (h1:1<=n) (q:kl key (at_ a (lo+n)) (at_ a (lo+n-1))):Fl key a lo (lo+(n+1)):=fun i j z1 z2 z3=>by
 by_cases hj:j=lo+n
 ·subst hj
  by_cases hi:i=lo+n
  ·subst hi;exact Jb _
  ·exact G8 q (h i (lo+n-1) z1 (by lia) (by lia))
 ·exact h i j z1 z2 (by lia)
theorem Fl.congr {a b:Array GL} {lo hi:Nat} (h:Fl key a lo hi) (e:∀k,key (at_ b k)=key (at_ a k)):Fl key b lo hi:=fun i j z1 z2 z3=>by
 show O.kle _ _
 rw [e,e];exact h i j z1 z2 z3
theorem BY (C:gN prog w A s κ O key P) {st:Iz} {lo nrem:Nat} {Q:Option Nat->Iz->Prop} (hk:kindOf st=κ) (hP:∀x∈(GD st).toList,P x) (hz:lo+nrem<=(GD st).size) (h1:1<=nrem)
  (h:∀n st',Mv lo st st'->1<=n->n<=nrem->Sg key (GD st') lo (lo+n)->Q (some n) st'):wpS (Ha prog w) A E s (countRun' lo nrem) Q st:=by
 rw [countRun'_eq]
 refine Gy (Iw (Ho (I:=fun k c st'=>st'=st/\c=(none,k)/\k<=nrem/\1<=k/\Sg key (GD st) lo (lo+k))
  (Q:=fun c st'=>st'=st/\∃n,c=(none,n)/\1<=n/\n<=nrem/\Sg key (GD st) lo (lo+n)/\(n < nrem->O.klt (key (at_ (GD st) (lo+n))) (key (at_ (GD st) (lo+n-1))))) ?step ?fin ⟨rfl,rfl,h1,by lia,Sg.one⟩) ?post)
 case fin=>
  rintro c st' ⟨rfl,rfl,a1,a2,a3⟩
  exact ⟨rfl,_,rfl,by lia,by lia,a3,fun z=>by lia⟩
 case step=>
  rintro k c st' _ hkn ⟨rfl,rfl,a1,a2,a3⟩
  dsimp only
  refine Gy (cz C hk hP (by lia) (by lia) ?_)
  dsimp only
  cases hc:O.blt (key (at_ (GD st') (lo+k))) (key (at_ (GD st') (lo+k-1))) with
  | true=>rw [if_pos rfl];exact GF ⟨rfl,k,rfl,a2,a1,a3,fun _=>hc⟩
  | false=>rw [if_neg (by simp)];exact GF ⟨rfl,rfl,by lia,by lia,a3.more a2 hc⟩
 case post=>
  rintro c st' ⟨rfl,n,rfl,n1,n2,n3,n4⟩
  dsimp only
  by_cases e:n=nrem
  ·rw [if_pos (by simpa using e)]
   exact GF (h n st' Mv.rfl' n1 n2 n3)
  rw [if_neg (by simpa using e)]
  have n4:=n4 (by lia)
  by_cases hn:n > 1
  ·rw [if_pos hn]
   refine Gy (cz C hk hP (by lia) (by lia) ?_)
   dsimp only
   cases hc:O.blt (key (at_ (GD st') lo)) (key (at_ (GD st') (lo+n-1))) with
   | true=>rw [if_pos rfl];exact GF (h n st' Mv.rfl' n1 n2 n3)
   | false=>
    rw [if_neg (by simp),Iu]
    have eq:∀k,lo<=k->k < lo+n->key (at_ (GD st') k)=key (at_ (GD st') (lo+n-1)):=fun k k1 k2=>
     KeyOrd.kle_antisymm (n3 k (lo+n-1) k1 (by lia) (by lia)) (G8 hc (n3 lo k (by lia) k1 (by lia)))
    have ek:=cS (key:=key) (xs:=GD st') (i:=lo) (j:=lo+n) (by lia) eq
    refine Gy (HN ?_)
    have M1:=(Mv.rfl' (lo:=lo) (st:=st')).rev (i:=lo) (j:=lo+n) (Gz _) (by lia)
    have F1:Fl key (GD (KW st' (Jf (GD st') lo (lo+n) ((lo+n-lo) / 2)))) lo (lo+(n+1)):=by
     refine Fl.congr (a:=GD st') (Fl.more (fun i j z1 z2 z3=>?_) n1 (Hw n4)) ek
     show O.kle _ _
     rw [eq i z1 (by lia),eq j (by lia) z3];exact Jb _
    generalize KW st' (Jf (GD st') lo (lo+n) ((lo+n-lo) / 2))=st1 at M1 F1 ⊢
    refine Gy (Lw (Ka ⟨rfl,?_⟩))
    refine Gy (Iw (Ho (I:=fun k c st2=>Mv lo st' st2/\∃q,c=(none,k,q)/\k<=nrem/\q+1<=k/\Fl key (GD st2) lo (lo+k)/\(∀i,lo+k-(q+1)<=i->i < lo+k->key (at_ (GD st2) i)=key (at_ (GD st2) (lo+k-1))))
     (Q:=fun c st2=>Mv lo st' st2/\∃k q,c=(none,k,q)/\k<=nrem/\q+1<=k/\Fl key (GD st2) lo (lo+k)/\(∀i,lo+k-(q+1)<=i->i < lo+k->key (at_ (GD st2) i)=key (at_ (GD st2) (lo+k-1)))) ?dstep ?dfin ⟨M1,0,rfl,by lia,by lia,F1,fun i g1 g2=>by rw [show i=lo+(n+1)-1 by lia]⟩) ?dpost)
    case dfin=>
     rintro c st2 ⟨M2,q,rfl,a1,a2,a3,a4⟩
     exact ⟨M2,_,q,rfl,a1,a2,a3,a4⟩
    case dstep=>
     rintro k c st2 hk1 hkn ⟨M2,q,rfl,a1,a2,a3,a4⟩
     have hz2:lo+nrem<=(GD st2).size:=by rw [M2.size];exact hz
     have hk2:kindOf st2=κ:=M2.kind.trans hk
     have hP2:=M2.all hP
     dsimp only
     refine Gy (cz C hk2 hP2 (by lia) (by lia) ?_)
     dsimp only
     cases hc:O.blt (key (at_ (GD st2) (lo+k))) (key (at_ (GD st2) (lo+k-1))) with
     | true=>
      rw [if_pos rfl]
      have F2:=a3.more (by lia) (Hw hc)
      by_cases hq:q > 0
      ·rw [if_pos hq,Iu]
       have ek:=cS (key:=key) (xs:=GD st2) (i:=lo+k-(q+1)) (j:=lo+k) (by lia) a4
       refine Gy (HN (GF ⟨M2.rev (by lia) (by lia),0,rfl,by lia,by lia,F2.congr ek,fun i g1 g2=>?_⟩))
       rw [show i=lo+(k+1)-1 by lia]
      ·rw [if_neg hq]
       exact GF ⟨M2,0,rfl,by lia,by lia,F2,fun i g1 g2=>by rw [show i=lo+(k+1)-1 by lia]⟩
     | false=>
      rw [if_neg (by simp)]
      refine Gy (cz C hk2 hP2 (by lia) (by lia) ?_)
      dsimp only
      cases hd:O.blt (key (at_ (GD st2) (lo+k-1))) (key (at_ (GD st2) (lo+k))) with
      | true=>rw [if_pos rfl];exact GF ⟨M2,k,q,rfl,a1,a2,a3,a4⟩
      | false=>
       rw [if_neg (by simp)]
       have eq1:key (at_ (GD st2) (lo+k))=key (at_ (GD st2) (lo+k-1)):=O.total _ _ hc hd
       refine GF ⟨M2,q+1,rfl,by lia,by lia,a3.more (by lia) hd,fun i g1 g2=>?_⟩
       rw [show lo+(k+1)-1=lo+k by lia]
       by_cases hi:i=lo+k
       ·rw [hi]
       ·rw [eq1];exact a4 i (by lia) (by lia)
    case dpost=>
     rintro c st2 ⟨M2,k,q,rfl,a1,a2,a3,a4⟩
     have hz2:lo+nrem<=(GD st2).size:=by rw [M2.size];exact hz
     dsimp only
     by_cases hq:q > 0
     ·rw [if_pos hq,Iu]
      have ek:=cS (key:=key) (xs:=GD st2) (i:=lo+k-(q+1)) (j:=lo+k) (by lia) a4
      refine Gy (HN ?_)
      have M3:=M2.rev (i:=lo+k-(q+1)) (j:=lo+k) (by lia) (by lia)
      have F3:Fl key (GD (KW st2 (Jf (GD st2) (lo+k-(q+1)) (lo+k) ((lo+k-(lo+k-(q+1))) / 2)))) lo (lo+k):=a3.congr ek
      generalize KW st2 (Jf (GD st2) (lo+k-(q+1)) (lo+k) ((lo+k-(lo+k-(q+1))) / 2))=st3 at M3 F3 ⊢
      have hz3:lo+nrem<=(GD st3).size:=by rw [M3.size];exact hz
      rw [Iu]
      refine Gy (HN ?_)
      have M4:=M3.rev (i:=lo) (j:=lo+k) (Gz _) (by lia)
      have S4:Sg key (GD (KW st3 (Jf (GD st3) lo (lo+k) ((lo+k-lo) / 2)))) lo (lo+k):=fun i j g1 g2 g3=>by
       show kl key (at_ (Jf (GD st3) lo (lo+k) ((lo+k-lo) / 2)) i) (at_ (Jf (GD st3) lo (lo+k) ((lo+k-lo) / 2)) j)
       rw [bY (by lia),bY (by lia),if_pos ⟨g1,by lia⟩,if_pos ⟨by lia,g3⟩]
       exact F3 _ _ (by lia) (by lia) (by lia)
      generalize KW st3 (Jf (GD st3) lo (lo+k) ((lo+k-lo) / 2))=st4 at M4 S4 ⊢
      have hz4:lo+nrem<=(GD st4).size:=by rw [M4.size];exact hz
      have hk4:kindOf st4=κ:=M4.kind.trans hk
      have hP4:=M4.all hP
      refine Gy (Iw (Ho (I:=fun i c st5=>st5=st4/\c=(none,i)/\i<=nrem/\1<=i/\Sg key (GD st4) lo (lo+i)) (Q:=fun c st5=>st5=st4/\∃i,c=(none,i)/\i<=nrem/\1<=i/\Sg key (GD st4) lo (lo+i)) ?tstep ?tfin ⟨rfl,rfl,a1,by lia,S4⟩) ?tpost)
      case tfin=>
       rintro c st5 ⟨rfl,rfl,b1,b2,b3⟩
       exact ⟨rfl,_,rfl,b1,b2,b3⟩
      case tstep=>
       rintro i c st5 _ hi ⟨rfl,rfl,b1,b2,b3⟩
       dsimp only
       refine Gy (cz C hk4 hP4 (by lia) (by lia) ?_)
       dsimp only
       cases hc:O.blt (key (at_ (GD st5) (lo+i))) (key (at_ (GD st5) (lo+i-1))) with
       | true=>rw [if_pos rfl];exact GF ⟨rfl,i,rfl,b1,b2,b3⟩
       | false=>rw [if_neg (by simp)];exact GF ⟨rfl,rfl,by lia,by lia,b3.more b2 hc⟩
      case tpost=>
       rintro c st5 ⟨rfl,i,rfl,b1,b2,b3⟩
       exact GF (h i st5 M4 b2 b1 b3)
     ·rw [if_neg hq]
      have M3:=M2
      have F3:=a3
      have hz3:lo+nrem<=(GD st2).size:=by rw [M3.size];exact hz
      rw [Iu]
      refine Gy (HN ?_)
      have M4:=M3.rev (i:=lo) (j:=lo+k) (Gz _) (by lia)
      have S4:Sg key (GD (KW st2 (Jf (GD st2) lo (lo+k) ((lo+k-lo) / 2)))) lo (lo+k):=fun i j g1 g2 g3=>by
       show kl key (at_ (Jf (GD st2) lo (lo+k) ((lo+k-lo) / 2)) i) (at_ (Jf (GD st2) lo (lo+k) ((lo+k-lo) / 2)) j)
       rw [bY (by lia),bY (by lia),if_pos ⟨g1,by lia⟩,if_pos ⟨by lia,g3⟩]
       exact F3 _ _ (by lia) (by lia) (by lia)
      generalize KW st2 (Jf (GD st2) lo (lo+k) ((lo+k-lo) / 2))=st4 at M4 S4 ⊢
      have hz4:lo+nrem<=(GD st4).size:=by rw [M4.size];exact hz
      have hk4:kindOf st4=κ:=M4.kind.trans hk
      have hP4:=M4.all hP
      refine Gy (Iw (Ho (I:=fun i c st5=>st5=st4/\c=(none,i)/\i<=nrem/\1<=i/\Sg key (GD st4) lo (lo+i)) (Q:=fun c st5=>st5=st4/\∃i,c=(none,i)/\i<=nrem/\1<=i/\Sg key (GD st4) lo (lo+i)) ?tstep ?tfin ⟨rfl,rfl,a1,by lia,S4⟩) ?tpost)
      case tfin=>
       rintro c st5 ⟨rfl,rfl,b1,b2,b3⟩
       exact ⟨rfl,_,rfl,b1,b2,b3⟩
      case tstep=>
       rintro i c st5 _ hi ⟨rfl,rfl,b1,b2,b3⟩
       dsimp only
       refine Gy (cz C hk4 hP4 (by lia) (by lia) ?_)
       dsimp only
       cases hc:O.blt (key (at_ (GD st5) (lo+i))) (key (at_ (GD st5) (lo+i-1))) with
       | true=>rw [if_pos rfl];exact GF ⟨rfl,i,rfl,b1,b2,b3⟩
       | false=>rw [if_neg (by simp)];exact GF ⟨rfl,rfl,by lia,by lia,b3.more b2 hc⟩
      case tpost=>
       rintro c st5 ⟨rfl,i,rfl,b1,b2,b3⟩
       exact GF (h i st5 M4 b2 b1 b3)
  ·rw [if_neg hn]
   have hn1:n=1:=by lia
   subst hn1
   have M1:Mv lo st' st':=Mv.rfl'
   have F1:Fl key (GD st') lo (lo+(1+1)):=Fl.more (fun i j z1 z2 z3=>by rw [show i=j by lia];exact Jb _) (Gz _) (Hw n4)
   refine Gy (Lw (Ka ⟨rfl,?_⟩))
   refine Gy (Iw (Ho (I:=fun k c st2=>Mv lo st' st2/\∃q,c=(none,k,q)/\k<=nrem/\q+1<=k/\Fl key (GD st2) lo (lo+k)/\(∀i,lo+k-(q+1)<=i->i < lo+k->key (at_ (GD st2) i)=key (at_ (GD st2) (lo+k-1))))
    (Q:=fun c st2=>Mv lo st' st2/\∃k q,c=(none,k,q)/\k<=nrem/\q+1<=k/\Fl key (GD st2) lo (lo+k)/\(∀i,lo+k-(q+1)<=i->i < lo+k->key (at_ (GD st2) i)=key (at_ (GD st2) (lo+k-1)))) ?dstep ?dfin ⟨M1,0,rfl,by lia,by lia,F1,fun i g1 g2=>by rw [show i=lo+(1+1)-1 by lia]⟩) ?dpost)
   case dfin=>
    rintro c st2 ⟨M2,q,rfl,a1,a2,a3,a4⟩
    exact ⟨M2,_,q,rfl,a1,a2,a3,a4⟩
   case dstep=>
    rintro k c st2 hk1 hkn ⟨M2,q,rfl,a1,a2,a3,a4⟩
    have hz2:lo+nrem<=(GD st2).size:=by rw [M2.size];exact hz
    have hk2:kindOf st2=κ:=M2.kind.trans hk
    have hP2:=M2.all hP
    dsimp only
    refine Gy (cz C hk2 hP2 (by lia) (by lia) ?_)
    dsimp only
    cases hc:O.blt (key (at_ (GD st2) (lo+k))) (key (at_ (GD st2) (lo+k-1))) with
    | true=>
     rw [if_pos rfl]
     have F2:=a3.more (by lia) (Hw hc)
     by_cases hq:q > 0
     ·rw [if_pos hq,Iu]
      have ek:=cS (key:=key) (xs:=GD st2) (i:=lo+k-(q+1)) (j:=lo+k) (by lia) a4
      refine Gy (HN (GF ⟨M2.rev (by lia) (by lia),0,rfl,by lia,by lia,F2.congr ek,fun i g1 g2=>?_⟩))
      rw [show i=lo+(k+1)-1 by lia]
     ·rw [if_neg hq]
      exact GF ⟨M2,0,rfl,by lia,by lia,F2,fun i g1 g2=>by rw [show i=lo+(k+1)-1 by lia]⟩
    | false=>
     rw [if_neg (by simp)]
     refine Gy (cz C hk2 hP2 (by lia) (by lia) ?_)
     dsimp only
     cases hd:O.blt (key (at_ (GD st2) (lo+k-1))) (key (at_ (GD st2) (lo+k))) with
     | true=>rw [if_pos rfl];exact GF ⟨M2,k,q,rfl,a1,a2,a3,a4⟩
     | false=>
      rw [if_neg (by simp)]
      have eq1:key (at_ (GD st2) (lo+k))=key (at_ (GD st2) (lo+k-1)):=O.total _ _ hc hd
      refine GF ⟨M2,q+1,rfl,by lia,by lia,a3.more (by lia) hd,fun i g1 g2=>?_⟩
      rw [show lo+(k+1)-1=lo+k by lia]
      by_cases hi:i=lo+k
      ·rw [hi]
      ·rw [eq1];exact a4 i (by lia) (by lia)
   case dpost=>
    rintro c st2 ⟨M2,k,q,rfl,a1,a2,a3,a4⟩
    have hz2:lo+nrem<=(GD st2).size:=by rw [M2.size];exact hz
    dsimp only
    by_cases hq:q > 0
    ·rw [if_pos hq,Iu]
     have ek:=cS (key:=key) (xs:=GD st2) (i:=lo+k-(q+1)) (j:=lo+k) (by lia) a4
     refine Gy (HN ?_)
     have M3:=M2.rev (i:=lo+k-(q+1)) (j:=lo+k) (by lia) (by lia)
     have F3:Fl key (GD (KW st2 (Jf (GD st2) (lo+k-(q+1)) (lo+k) ((lo+k-(lo+k-(q+1))) / 2)))) lo (lo+k):=a3.congr ek
     generalize KW st2 (Jf (GD st2) (lo+k-(q+1)) (lo+k) ((lo+k-(lo+k-(q+1))) / 2))=st3 at M3 F3 ⊢
     have hz3:lo+nrem<=(GD st3).size:=by rw [M3.size];exact hz
     rw [Iu]
     refine Gy (HN ?_)
     have M4:=M3.rev (i:=lo) (j:=lo+k) (Gz _) (by lia)
     have S4:Sg key (GD (KW st3 (Jf (GD st3) lo (lo+k) ((lo+k-lo) / 2)))) lo (lo+k):=fun i j g1 g2 g3=>by
      show kl key (at_ (Jf (GD st3) lo (lo+k) ((lo+k-lo) / 2)) i) (at_ (Jf (GD st3) lo (lo+k) ((lo+k-lo) / 2)) j)
      rw [bY (by lia),bY (by lia),if_pos ⟨g1,by lia⟩,if_pos ⟨by lia,g3⟩]
      exact F3 _ _ (by lia) (by lia) (by lia)
     generalize KW st3 (Jf (GD st3) lo (lo+k) ((lo+k-lo) / 2))=st4 at M4 S4 ⊢
     have hz4:lo+nrem<=(GD st4).size:=by rw [M4.size];exact hz
     have hk4:kindOf st4=κ:=M4.kind.trans hk
     have hP4:=M4.all hP
     refine Gy (Iw (Ho (I:=fun i c st5=>st5=st4/\c=(none,i)/\i<=nrem/\1<=i/\Sg key (GD st4) lo (lo+i)) (Q:=fun c st5=>st5=st4/\∃i,c=(none,i)/\i<=nrem/\1<=i/\Sg key (GD st4) lo (lo+i)) ?tstep ?tfin ⟨rfl,rfl,a1,by lia,S4⟩) ?tpost)
     case tfin=>
      rintro c st5 ⟨rfl,rfl,b1,b2,b3⟩
      exact ⟨rfl,_,rfl,b1,b2,b3⟩
     case tstep=>
      rintro i c st5 _ hi ⟨rfl,rfl,b1,b2,b3⟩
      dsimp only
      refine Gy (cz C hk4 hP4 (by lia) (by lia) ?_)
      dsimp only
      cases hc:O.blt (key (at_ (GD st5) (lo+i))) (key (at_ (GD st5) (lo+i-1))) with
      | true=>rw [if_pos rfl];exact GF ⟨rfl,i,rfl,b1,b2,b3⟩
      | false=>rw [if_neg (by simp)];exact GF ⟨rfl,rfl,by lia,by lia,b3.more b2 hc⟩
     case tpost=>
      rintro c st5 ⟨rfl,i,rfl,b1,b2,b3⟩
      exact GF (h i st5 M4 b2 b1 b3)
    ·rw [if_neg hq]
     have M3:=M2
     have F3:=a3
     have hz3:lo+nrem<=(GD st2).size:=by rw [M3.size];exact hz
     rw [Iu]
     refine Gy (HN ?_)
     have M4:=M3.rev (i:=lo) (j:=lo+k) (Gz _) (by lia)
     have S4:Sg key (GD (KW st2 (Jf (GD st2) lo (lo+k) ((lo+k-lo) / 2)))) lo (lo+k):=fun i j g1 g2 g3=>by
      show kl key (at_ (Jf (GD st2) lo (lo+k) ((lo+k-lo) / 2)) i) (at_ (Jf (GD st2) lo (lo+k) ((lo+k-lo) / 2)) j)
      rw [bY (by lia),bY (by lia),if_pos ⟨g1,by lia⟩,if_pos ⟨by lia,g3⟩]
      exact F3 _ _ (by lia) (by lia) (by lia)
     generalize KW st2 (Jf (GD st2) lo (lo+k) ((lo+k-lo) / 2))=st4 at M4 S4 ⊢
     have hz4:lo+nrem<=(GD st4).size:=by rw [M4.size];exact hz
     have hk4:kindOf st4=κ:=M4.kind.trans hk
     have hP4:=M4.all hP
     refine Gy (Iw (Ho (I:=fun i c st5=>st5=st4/\c=(none,i)/\i<=nrem/\1<=i/\Sg key (GD st4) lo (lo+i)) (Q:=fun c st5=>st5=st4/\∃i,c=(none,i)/\i<=nrem/\1<=i/\Sg key (GD st4) lo (lo+i)) ?tstep ?tfin ⟨rfl,rfl,a1,by lia,S4⟩) ?tpost)
     case tfin=>
      rintro c st5 ⟨rfl,rfl,b1,b2,b3⟩
      exact ⟨rfl,_,rfl,b1,b2,b3⟩
     case tstep=>
      rintro i c st5 _ hi ⟨rfl,rfl,b1,b2,b3⟩
      dsimp only
      refine Gy (cz C hk4 hP4 (by lia) (by lia) ?_)
      dsimp only
      cases hc:O.blt (key (at_ (GD st5) (lo+i))) (key (at_ (GD st5) (lo+i-1))) with
      | true=>rw [if_pos rfl];exact GF ⟨rfl,i,rfl,b1,b2,b3⟩
      | false=>rw [if_neg (by simp)];exact GF ⟨rfl,rfl,by lia,by lia,b3.more b2 hc⟩
     case tpost=>
      rintro c st5 ⟨rfl,i,rfl,b1,b2,b3⟩
      exact GF (h i st5 M4 b2 b1 b3)
theorem BZ (C:gN prog w A s κ O key P) {st:Iz} {lo n ok:Nat} {Q:Bool->Iz->Prop} (hk:kindOf st=κ) (hP:∀x∈(GD st).toList,P x) (hz:lo+n<=(GD st).size) (ho:1<=ok) (hn:ok<=n) (hs:Sg key (GD st) lo (lo+ok))
  (h:∀st',Mv lo st st'->Sg key (GD st') lo (lo+n)->Q true st'):wpS (Ha prog w) A E s (binarySort' lo n ok) Q st:=by
 rw [binarySort'_eq]
 refine Gy (Iw (Ho (I:=fun k c st'=>c=(none,())/\Mv lo st st'/\k<=n/\Sg key (GD st') lo (lo+k)) (Q:=fun c st'=>c=(none,())/\Mv lo st st'/\Sg key (GD st') lo (lo+n)) ?step ?fin ⟨rfl,Mv.rfl',by lia,by rw [show max ok 1=ok by lia];exact hs⟩) ?post)
 case post=>
  rintro c st' ⟨rfl,M,S⟩
  exact GF (h st' M S)
 case fin=>
  rintro c st' ⟨hc,M,hkn,S⟩
  rw [show max (max ok 1) n=n by lia] at S
  exact ⟨hc,M,S⟩
 case step=>
  rintro k c st' hak hkn ⟨rfl,M,_,S⟩
  have hz':lo+n<=(GD st').size:=by rw [M.size];exact hz
  have hk':kindOf st'=κ:=M.kind.trans hk
  have hP':=M.all hP
  dsimp only
  refine Gy (Iw (Ho (I:=fun x c st''=>st''=st'/\∃l r,c=(none,l,r)/\l<=r/\r<=k/\r-l<=k-x/\(∀i,i < l->kl key (at_ (GD st') (lo+i)) (at_ (GD st') (lo+k)))/\(∀i,r<=i->i < k->O.klt (key (at_ (GD st') (lo+k))) (key (at_ (GD st') (lo+i)))))
   (Q:=fun c st''=>st''=st'/\∃l r,c=(none,l,r)/\l<=k/\(∀i,i < l->kl key (at_ (GD st') (lo+i)) (at_ (GD st') (lo+k)))/\(∀i,l<=i->i < k->O.klt (key (at_ (GD st') (lo+k))) (key (at_ (GD st') (lo+i))))) ?s1 ?f1 ⟨rfl,0,k,rfl,by lia,by lia,by lia,fun i hi=>by lia,fun i h1 h2=>by lia⟩) ?p1)
  case f1=>
   rintro c st'' ⟨rfl,l,r,rfl,z1,z2,z3,z4,z5⟩
   have:l=r:=by lia
   subst this
   exact ⟨rfl,l,l,rfl,z2,z4,z5⟩
  case s1=>
   rintro x c st'' _ hx ⟨rfl,l,r,rfl,z1,z2,z3,z4,z5⟩
   dsimp only
   by_cases hge:l >= r
   ·rw [if_pos hge]
    have:l=r:=by lia
    subst this
    exact GF ⟨rfl,l,l,rfl,z2,z4,z5⟩
   rw [if_neg hge]
   refine Gy (cz C hk' hP' (by lia) (by lia) ?_)
   dsimp only
   cases hc:O.blt (key (at_ (GD st'') (lo+k))) (key (at_ (GD st'') (lo+(l+r) / 2))) with
   | true=>
    rw [if_pos rfl]
    exact GF ⟨rfl,l,(l+r) / 2,rfl,by lia,by lia,by lia,z4,fun i g1 g2=>KeyOrd.klt_of_klt_of_kle hc (S (lo+(l+r) / 2) (lo+i) (by lia) (by lia) (by lia))⟩
   | false=>
    rw [if_neg (by simp)]
    exact GF ⟨rfl,(l+r) / 2+1,r,rfl,by lia,by lia,by lia,fun i g1=>G8 (S (lo+i) (lo+(l+r) / 2) (by lia) (by lia) (by lia)) hc,z5⟩
  case p1=>
   rintro c st'' ⟨rfl,l,r,rfl,z1,z2,z3⟩
   dsimp only
   rw [moveDown'_eq]
   have eb:∀i,at_ (bubble (GD st'') (lo+k) (lo+k-(lo+l))) i=if i=lo+l then at_ (GD st'') (lo+k) else if lo+l < i/\i<=lo+k then at_ (GD st'') (i-1) else at_ (GD st'') i:=fun i=>by
    have z:=getElem?_bubble (xs:=GD st'') (src:=lo+k) (by lia) (lo+k-(lo+l)) (by lia) i
    rw [show lo+k-(lo+k-(lo+l))=lo+l by lia] at z
    by_cases c1:i=lo+l
    ·rw [if_pos c1] at z ⊢;exact bg z
    ·rw [if_neg c1] at z ⊢
     by_cases c2:lo+l < i/\i<=lo+k
     ·rw [if_pos c2] at z ⊢;exact bg z
     ·rw [if_neg c2] at z ⊢;exact bg z
   refine Gy (HN (GF ⟨rfl,⟨M.kind,M.pend,M.fail,(bubble_perm _ _ _).trans M.perm,fun i hi=>?_⟩,by lia,fun i j g1 g2 g3=>?_⟩))
   ·rw [<- M.pre i hi]
    show (bubble (GD st'') (lo+k) (lo+k-(lo+l)))[i]?=_
    rw [getElem?_bubble (by lia) _ (by lia),if_neg (by lia),if_neg (by lia)]
   ·show kl key (at_ (bubble (GD st'') (lo+k) (lo+k-(lo+l))) i) (at_ (bubble (GD st'') (lo+k) (lo+k-(lo+l))) j)
    rw [eb,eb]
    by_cases c1:i=lo+l
    ·rw [if_pos c1]
     by_cases c2:j=lo+l
     ·rw [if_pos c2];exact Jb _
     ·rw [if_neg c2,if_pos ⟨by lia,by lia⟩]
      have:=z3 (j-1-lo) (by lia) (by lia)
      rw [show lo+(j-1-lo)=j-1 by lia] at this
      exact Hw this
    ·rw [if_neg c1]
     by_cases c3:lo+l < i
     ·rw [if_pos ⟨c3,by lia⟩,if_neg (by lia),if_pos ⟨by lia,by lia⟩]
      exact S _ _ (by lia) (by lia) (by lia)
     ·rw [if_neg (by lia)]
      by_cases c2:j=lo+l
      ·rw [if_pos c2]
       have:=z2 (i-lo) (by lia)
       rwa [show lo+(i-lo)=i by lia] at this
      ·rw [if_neg c2]
       by_cases c4:lo+l < j
       ·rw [if_pos ⟨c4,by lia⟩];exact S _ _ g1 (by lia) (by lia)
       ·rw [if_neg (by lia)];exact S _ _ g1 g2 (by lia)
end
end Tim
end
section
namespace Tim
open PySem PyProof.Rows
theorem mm:∀(l:List GL) (a:Array GL) (b j0:Nat),((l.zipIdx j0).foldl (fun a x=>a.setIfInBounds (b+x.2) x.1) a).size=a.size
 | [],_,_,_=>rfl
 | x::l,a,b,j0=>by
  rw [List.zipIdx_cons,KG,mm l]
  simp
theorem t8:∀(l:List GL) (a:Array GL) (b j0:Nat) (i:Nat),b+j0+l.length<=a.size->((l.zipIdx j0).foldl (fun a x=>a.setIfInBounds (b+x.2) x.1) a)[i]?=if b+j0<=i/\i < b+j0+l.length then l[i-(b+j0)]? else a[i]?
 | [],a,b,j0,i,_=>by
  rw [if_neg (by simp only [Jc];lia)];rfl
 | x::l,a,b,j0,i,h=>by
  have hl:(x::l).length=l.length+1:=rfl
  rw [hl] at h ⊢
  rw [List.zipIdx_cons,KG,t8 l _ b (j0+1) i (by simp;lia)]
  by_cases c:b+(j0+1)<=i/\i < b+(j0+1)+l.length
  ·rw [if_pos c,if_pos (by lia),show i-(b+j0)=(i-(b+(j0+1)))+1 by lia,Im]
  ·rw [if_neg c]
   by_cases e:i=b+j0
   ·subst e
    rw [if_pos (by lia),Nat.sub_self,List.getElem?_cons_zero]
    simp [Kv];lia
   ·rw [if_neg (by lia)]
    simp [Kv];lia
noncomputable def Cov:List (Nat×Nat×Nat)->Nat->Nat->Prop
 | [],f,t=>f=t
 | x::r,f,t=>x.1=f/\1<=x.2.1/\Cov r (f+x.2.1) t
theorem Cov.le:∀{l:List (Nat×Nat×Nat)} {f t:Nat},Cov l f t->f+l.length<=t
 | [],_,_,h=>by cases h;exact Gz _
 | x::r,f,t,⟨h1,h2,h3⟩=>by have:=Cov.le h3;simp only [HV];lia
theorem Cov.app:∀{l m:List (Nat×Nat×Nat)} {f t:Nat},Cov (l++m) f t↔∃k,Cov l f k/\Cov m k t
 | [],m,f,t=>⟨fun h=>⟨f,rfl,h⟩,fun zq1=>by obtain ⟨k,h1,h2⟩:=zq1;cases h1;exact h2⟩
 | x::r,m,f,t=>⟨fun ⟨h1,h2,h3⟩=>let ⟨k,k1,k2⟩:=Cov.app.mp h3;⟨k,⟨h1,h2,k1⟩,k2⟩,fun zt1=>by obtain ⟨k,⟨h1,h2,k1⟩,k2⟩:=zt1;exact ⟨h1,h2,Cov.app.mpr ⟨k,k1,k2⟩⟩⟩
theorem Cov.mem:∀{l:List (Nat×Nat×Nat)} {f t:Nat},Cov l f t->∀x∈l,f<=x.1/\x.1+x.2.1<=t
 | x::r,f,t,⟨h1,h2,h3⟩,y,hy=>by
  have:=Cov.le h3
  rcases List.mem_cons.mp hy with rfl | hy
  ·lia
  ·have:=Cov.mem h3 y hy;lia
section
variable {prog:G2} {w:HJ} {A:HQ} {E:Gs->Gv->Prop} {s:Gv} {κ:Kh} {O:Lg} {key:GL->O.α} {P:GL->Prop}
theorem xE {σ:Type} {M:ND} {x:σ} {Q:PUnit->σ->Prop} {st:σ} (h:Q ⟨⟩ x):wpS M A E s (set x:StateT σ Sem PUnit) Q st:=by
 unfold wpS;rw [StateT.run_set];exact GA ⟨rfl,h⟩
structure G {O:Lg} (κ:Kh) (key:GL->O.α) (a0:Array GL) (st:Iz) (lo:Nat):Prop where
 kind:kindOf st=κ
 fail:Jh st=none
 perm:(GD st).Perm a0
 cov:Cov (GS st).toList 0 lo
 srt:∀x∈(GS st).toList,Sg key (GD st) x.1 (x.1+x.2.1)
 le:lo<=a0.size
theorem t9 {a:Array GL} {x:GL} {base n:Nat} (h:Sg key a base (base+n)):∀i j,i<=j->j < n->bey key false x (at_ a (base+j))=true->bey key false x (at_ a (base+i))=true:=fun i j hij hj q=>by
 have:kl key (at_ a (base+i)) x:=G8 (h _ _ (by lia) (by lia) (by lia)) (mj q)
 show (!O.blt (key x) (key (at_ a (base+i))))=true
 rw [show O.blt (key x) (key (at_ a (base+i)))=false from this];rfl
theorem ua {a:Array GL} {x:GL} {base n:Nat} (h:Sg key a base (base+n)):∀i j,i<=j->j < n->bey key true x (at_ a (base+j))=true->bey key true x (at_ a (base+i))=true:=fun i j hij hj q=>
 Li (h (base+i) (base+j) (by lia) (by lia) (by lia)) (ml q)
theorem mq {a:Array GL} {i n j:Nat} (h:n<=a.size) (hj:i+j < n):at_ (a.extract i n) j=at_ a (i+j):=by
 refine bg ?_
 rw [Array.getElem?_extract]
 rw [if_pos (by lia)]
theorem mr {a:Array GL} {i n:Nat} (h:n<=a.size):(a.extract i n).size=n-i:=by
 rw [Array.size_extract];lia
theorem ub {a:Array GL} {i n:Nat} (h:n<=a.size) (q:Sg key a i n):(a.extract i n).toList.Pairwise (kl key):=by
 rw [K7]
 intro x y hx hy hxy
 have hz:=mr (a:=a) (i:=i) h
 have hx':x < (a.extract i n).size:=by rw [<- Hb];exact hx
 have hy':y < (a.extract i n).size:=by rw [<- Hb];exact hy
 have g:∀z (hz:z < (a.extract i n).toList.length),(a.extract i n).toList[z]=at_ (a.extract i n) z:=fun z hz'=>by
  have e1:=cf (a:=a.extract i n) (i:=z) (by rw [<- Hb];exact hz')
  rw [Gr hz'] at e1
  exact GP e1
 rw [g x hx,g y hy,mq h (by lia),mq h (by lia)]
 exact q _ _ (by lia) (by lia) (by lia)
theorem jd {a:Array GL} {i n:Nat} (h:n<=a.size) {x:GL} (hx:x∈(a.extract i n).toList):∃j,i<=j/\j < n/\x=at_ a j:=by
 obtain ⟨j,hj,e⟩:=KI hx
 have hj':j < (a.extract i n).size:=by rw [<- Hb];exact hj
 have hz:=mr (a:=a) (i:=i) h
 have e1:=cf (a:=a.extract i n) (i:=j) hj'
 rw [Gr hj,e] at e1
 refine ⟨i+j,by lia,by lia,?_⟩
 rw [GP e1,mq h (by lia)]
theorem jN {a:Array GL} (hP:∀x∈a.toList,P x) {i:Nat} (h:i < a.size):P (at_ a i):=hP _ (eS h)
theorem xF {a m:Array GL} {lo hi:Nat} (h:hi<=a.size) (hl:lo<=hi) (hm:m.toList.Perm (a.extract lo hi).toList) :
  let a':=(m.toList.zipIdx).foldl (fun a x=>a.setIfInBounds (lo+x.2) x.1) a
  a'.Perm a/\(∀i,(lo<=i/\i < hi->a'[i]?=m[i-lo]?)/\(¬ (lo<=i/\i < hi)->a'[i]?=a[i]?)):=by
 intro a'
 have hlen:m.toList.length=hi-lo:=by rw [hm.length_eq];simp;lia
 have g:∀i,a'[i]?=if lo+0<=i/\i < lo+0+m.toList.length then m.toList[i-(lo+0)]? else a[i]?:=fun i=>t8 m.toList a lo 0 i (by lia)
 rw [LU,hlen,show lo+(hi-lo)=hi by lia] at g
 have hz:a'.size=a.size:=mm _ _ _ _
 refine ⟨?_,fun i=>⟨fun c=>by rw [g,if_pos c,Ii],fun c=>by rw [g,if_neg c]⟩⟩
 have e:a'.toList=a.toList.take lo++(m.toList++a.toList.drop hi):=by
  apply Kb
  intro i
  rw [Ii,g,Kq,Kq]
  have hlt:(a.toList.take lo).length=lo:=by simp;lia
  rw [hlt,hlen]
  by_cases c1:i < lo
  ·rw [if_neg (by lia),if_pos c1,KY,if_pos c1,Ii]
  ·rw [if_neg c1]
   by_cases c2:i < hi
   ·rw [if_pos ⟨by lia,c2⟩,if_pos (by lia)]
   ·rw [if_neg (by lia),if_neg (by lia),MK,Ii]
    congr 1;lia
 have e2:a.toList=a.toList.take lo++((a.extract lo hi).toList++a.toList.drop hi):=by
  rw [ny a lo hi hl]
  conv=>lhs;rw [<- GX hi a.toList,<- GX lo (a.toList.take hi)]
  rw [List.take_take,JV hl,GJ]
 rw [Array.perm_iff_toList_perm,e]
 conv=>rhs;rw [e2]
 exact ID _ (hm.append_right _)
theorem nA (C:gN prog w A s κ O key P) {a0:Array GL} {st:Iz} {lo i:Nat} {Q:Bool->Iz->Prop} (hP:∀x∈a0.toList,P x) (g:G κ key a0 st lo) (hi:i+1 < (GS st).size)
  (h:∀st',G κ key a0 st' lo->(∀j,lo<=j->(GD st')[j]?=(GD st)[j]?)->(GS st').size+1=(GS st).size->Q true st'):wpS (Ha prog w) A E s (mergeAt' i) Q st:=by
 obtain ⟨sa,na,pw,eA⟩:∃sa na pw,(GS st)[i]?=some (sa,na,pw):=⟨_,_,_,getElem?_pos _ i (by lia)⟩
 obtain ⟨sb,nb,pw2,eB⟩:∃sb nb pw2,(GS st)[i+1]?=some (sb,nb,pw2):=⟨_,_,_,getElem?_pos _ (i+1) hi⟩
 have eL:(GS st).toList=(GS st).toList.take i++(sa,na,pw)::(sb,nb,pw2)::(GS st).toList.drop (i+2):=by
  conv=>lhs;rw [<- GX i (GS st).toList]
  congr 1
  rw [<- Ii] at eA eB
  obtain ⟨l1,q1⟩:=List.getElem?_eq_some_iff.mp eA
  obtain ⟨l2,q2⟩:=List.getElem?_eq_some_iff.mp eB
  rw [HM l1,q1,HM l2,q2]
 have hcov:=g.cov
 rw [eL] at hcov
 obtain ⟨k0,c1,c2,c3,c4,c5,c6⟩:=Cov.app.mp hcov
 dsimp only at c2 c3 c4 c5 c6
 subst c2
 have hpost:=Cov.le c6
 have hsz:(GD st).size=a0.size:=g.perm.size_eq
 have hle:=g.le
 have hPs:∀x∈(GD st).toList,P x:=fun x hx=>hP x ((Array.perm_iff_toList_perm.mp g.perm).mem_iff.mp hx)
 have sgA:Sg key (GD st) sa (sa+na):=g.srt (sa,na,pw) (by rw [eL];simp)
 have sgB:Sg key (GD st) (sa+na) (sa+na+nb):=by have:=g.srt (sb,nb,pw2) (by rw [eL];simp);dsimp only at this;rwa [c4] at this
 -- the pending runs afterwards
 have pn:(((GS st).setIfInBounds i (sa,na+nb,pw)).eraseIdxIfInBounds (i+1)).toList=(GS st).toList.take i++(sa,na+nb,pw)::(GS st).toList.drop (i+2):=by
  rw [Array.eraseIdxIfInBounds,dif_pos (by simp;lia),Array.toList_eraseIdx,Array.toList_setIfInBounds]
  conv=>lhs;rw [eL]
  have hl:((GS st).toList.take i).length=i:=by simp;lia
  rw [List.set_append_right _ _ (by lia),hl,Nat.sub_self,Hg,List.eraseIdx_append_of_length_le (by lia),hl,Nat.add_sub_cancel_left,List.eraseIdx_cons_succ,List.eraseIdx_cons_zero]
 have hps:(((GS st).setIfInBounds i (sa,na+nb,pw)).eraseIdxIfInBounds (i+1)).size+1=(GS st).size:=by
  rw [<- Hb,pn];simp;lia
 -- what is wanted of a state with these runs
 have fin:∀st',kindOf st'=κ->Jh st'=none->GS st'=(((GS st).setIfInBounds i (sa,na+nb,pw)).eraseIdxIfInBounds (i+1))->(GD st').Perm (GD st)->(∀j,¬ (sa<=j/\j < sa+na+nb)->(GD st')[j]?=(GD st)[j]?) ->
   Sg key (GD st') sa (sa+na+nb)->Q true st':=fun st' k1 k2 k3 k4 k5 k6=>by
  refine h st' ⟨k1,k2,k4.trans g.perm,?_,?_,hle⟩ (fun j hj=>k5 j (by lia)) (by rw [k3];exact hps)
  ·rw [k3,pn]
   refine Cov.app.mpr ⟨sa,c1,rfl,by show 1<=na+nb;lia,?_⟩
   show Cov _ (sa+(na+nb)) lo
   rw [<- Lx];exact c6
  ·intro x hx
   rw [k3,pn] at hx
   rcases List.mem_append.mp hx with hx | hx
   ·have q:=g.srt x (by rw [eL];exact Hh _ hx)
    have r:=Cov.mem c1 x hx
    intro i' j' z1 z2 z3
    show O.kle _ _
    rw [bg (k5 i' (by lia)),bg (k5 j' (by lia))]
    exact q i' j' z1 z2 z3
   ·rcases List.mem_cons.mp hx with rfl | hx
    ·show Sg key (GD st') sa (sa+(na+nb))
     rw [<- Lx];exact k6
    ·have q:=g.srt x (by rw [eL];exact Gq _ (GU _ (GU _ hx)))
     have r:=Cov.mem c6 x hx
     intro i' j' z1 z2 z3
     show O.kle _ _
     rw [bg (k5 i' (by lia)),bg (k5 j' (by lia))]
     exact q i' j' z1 z2 z3
 subst c4
 delta mergeAt'
 refine Gy (Km ?_)
 rw [eA,eB]
 dsimp only
 refine Gy (xE ?_)
 refine Gy (aU (show sa+na < (GD st).size by lia) (Gy (gO C g.kind (show 0 < na by lia) (show sa+na<=(GD st).size by lia) (fun j hj=>jN hPs (by lia)) (jN hPs (by lia)) (t9 sgA) fun k z1 z2 z3=>?_)))
 dsimp only
 have low:∀j,sa<=j->j < sa+k->kl key (at_ (GD st) j) (at_ (GD st) (sa+na)):=fun j j1 j2=>by
  have:=mj (z2 (j-sa) (by lia));rwa [show sa+(j-sa)=j by lia] at this
 have high:∀j,sa+k<=j->j < sa+na->O.klt (key (at_ (GD st) (sa+na))) (key (at_ (GD st) j)):=fun j j1 j2=>by
  have:=t6 (z3 (j-sa) (by lia) (by lia));rwa [show sa+(j-sa)=j by lia] at this
 by_cases e1:na-k=0
 ·rw [if_pos (by simpa using e1)]
  refine GF (fin _ g.kind g.fail rfl (KJ _) (fun _ _=>rfl) fun i' j' y1 y2 y3=>?_)
  show kl key (at_ (GD st) i') (at_ (GD st) j')
  by_cases d1:j' < sa+na
  ·exact sgA i' j' y1 y2 d1
  ·by_cases d2:i' < sa+na
   ·exact G8 (low i' y1 (by lia)) (sgB _ j' (Gz _) (by lia) y3)
   ·exact sgB i' j' (by lia) y2 y3
 rw [if_neg (by simpa using e1)]
 have hlast:sa+k+(na-k)-1=sa+na-1:=by lia
 rw [hlast]
 refine Gy (aU (show sa+na-1 < (GD st).size by lia) (Gy (gO C g.kind (show nb-1 < nb by lia) (show sa+na+nb<=(GD st).size by lia) (fun j hj=>jN hPs (by lia)) (jN hPs (by lia)) (ua sgB) fun m y1 y2 y3=>?_)))
 dsimp only
 have lowB:∀j,sa+na<=j->j < sa+na+m->O.klt (key (at_ (GD st) j)) (key (at_ (GD st) (sa+na-1))):=fun j j1 j2=>by
  have:=ml (y2 (j-(sa+na)) (by lia));rwa [show sa+na+(j-(sa+na))=j by lia] at this
 have highB:∀j,sa+na+m<=j->j < sa+na+nb->kl key (at_ (GD st) (sa+na-1)) (at_ (GD st) j):=fun j j1 j2=>by
  have:=t7 (y3 (j-(sa+na)) (by lia) (by lia));rwa [show sa+na+(j-(sa+na))=j by lia] at this
 by_cases e2:m=0
 ·rw [if_pos (by simpa using e2)]
  refine GF (fin _ g.kind g.fail rfl (KJ _) (fun _ _=>rfl) fun i' j' x1 x2 x3=>?_)
  show kl key (at_ (GD st) i') (at_ (GD st) j')
  by_cases d1:j' < sa+na
  ·exact sgA i' j' x1 x2 d1
  ·by_cases d2:i' < sa+na
   ·exact G8 (sgA i' (sa+na-1) x1 (by lia) (by lia)) (highB j' (by lia) x3)
   ·exact sgB i' j' (by lia) x2 x3
 rw [if_neg (by simpa using e2)]
 have hx1:sa+na<=(GD st).size:=by lia
 have hx2:sa+na+m<=(GD st).size:=by lia
 have sx:=mr (a:=GD st) (i:=sa+k) hx1
 have sy:=mr (a:=GD st) (i:=sa+na) hx2
 have srX:=ub (key:=key) (i:=sa+k) hx1 (fun i' j' a1 a2 a3=>sgA i' j' (by lia) a2 a3)
 have srY:=ub (key:=key) (i:=sa+na) hx2 (fun i' j' a1 a2 a3=>sgB i' j' a1 a2 (by lia))
 have PX:∀x∈((GD st).extract (sa+k) (sa+na)).toList,P x:=fun x hx=>by obtain ⟨j,j1,j2,rfl⟩:=jd hx1 hx;exact jN hPs (by lia)
 have PY:∀x∈((GD st).extract (sa+na) (sa+na+m)).toList,P x:=fun x hx=>by obtain ⟨j,j1,j2,rfl⟩:=jd hx2 hx;exact jN hPs (by lia)
 have H0:∀y∈((GD st).extract (sa+k) (sa+na)).toList,kl key (at_ ((GD st).extract (sa+na) (sa+na+m)) 0) y:=fun y hy=>by
  obtain ⟨j,j1,j2,rfl⟩:=jd hx1 hy
  rw [mq hx2 (by lia),LU]
  exact Hw (high j j1 j2)
 have HL:∀x∈((GD st).extract (sa+na) (sa+na+m)).toList,kl key x (at_ ((GD st).extract (sa+k) (sa+na)) (((GD st).extract (sa+k) (sa+na)).size-1)):=fun x hx=>by
  obtain ⟨j,j1,j2,rfl⟩:=jd hx2 hx
  rw [sx,mq hx1 (by lia),show sa+k+(sa+na-(sa+k)-1)=sa+na-1 by lia]
  exact Hw (lowB j j1 j2)
 have eXY:((GD st).extract (sa+k) (sa+na+m)).toList=((GD st).extract (sa+k) (sa+na)).toList++((GD st).extract (sa+na) (sa+na+m)).toList:=by
  rw [<- Hl,Array.extract_append_extract]
  congr 2 <;> lia
 -- the end,by either way
 have done:∀(r:Array GL) (st1:Iz),kindOf st1=κ->Jh st1=none->GS st1=(((GS st).setIfInBounds i (sa,na+nb,pw)).eraseIdxIfInBounds (i+1))->GD st1=GD st ->
   Res (kl key) ((GD st).extract (sa+k) (sa+na)).toList ((GD st).extract (sa+na) (sa+na+m)).toList r.toList ->
   Q true (MV (kindOf st1) ((r.toList.zipIdx).foldl (fun a x=>a.setIfInBounds (sa+k+x.2) x.1) (GD st1)) (GS st1) (gallopOf st1) (Jh st1)):=fun r st1 k1 k2 k3 k4 R=>by
  rw [k4]
  obtain ⟨R1,R2⟩:=R
  rw [<- eXY] at R1
  obtain ⟨b1,b2⟩:=xF (a:=GD st) (m:=r) (lo:=sa+k) (hi:=sa+na+m) hx2 (by lia) R1
  generalize (r.toList.zipIdx).foldl (fun a x=>a.setIfInBounds (sa+k+x.2) x.1) (GD st)=a' at b1 b2 ⊢
  have hrl:r.size=sa+na+m-(sa+k):=by have:=R1.length_eq;rw [Hb,Hb,mr hx2] at this;exact this
  have mid:∀j,sa+k<=j->j < sa+na+m->at_ a' j=at_ r (j-(sa+k)):=fun j j1 j2=>bg ((b2 j).1 ⟨j1,j2⟩)
  have out:∀j,¬ (sa+k<=j/\j < sa+na+m)->at_ a' j=at_ (GD st) j:=fun j hj=>bg ((b2 j).2 hj)
  have midv:∀j,sa+k<=j->j < sa+na+m->∃t,sa+k<=t/\t < sa+na+m/\at_ a' j=at_ (GD st) t:=fun j j1 j2=>by
   have hm:at_ r (j-(sa+k))∈r.toList:=eS (by lia)
   obtain ⟨t,t1,t2,t3⟩:=jd hx2 (R1.mem_iff.mp hm)
   exact ⟨t,t1,t2,by rw [mid j j1 j2,t3]⟩
  refine fin _ k1 k2 k3 b1 (fun j hj=>(b2 j).2 (by lia)) fun i' j' x1 x2 x3=>?_
  show kl key (at_ a' i') (at_ a' j')
  by_cases d1:i' < sa+k
  ·rw [out i' (by lia)]
   by_cases d2:j' < sa+k
   ·rw [out j' (by lia)];exact sgA i' j' x1 x2 (by lia)
   ·by_cases d3:j' < sa+na+m
    ·obtain ⟨t,t1,t2,t3⟩:=midv j' (by lia) d3
     rw [t3]
     by_cases d4:t < sa+na
     ·exact sgA i' t x1 (by lia) d4
     ·exact G8 (low i' x1 d1) (sgB _ t (Gz _) (by lia) (by lia))
    ·rw [out j' (by lia)]
     exact G8 (low i' x1 d1) (sgB _ j' (Gz _) (by lia) x3)
  ·by_cases d2:i' < sa+na+m
   ·by_cases d3:j' < sa+na+m
    ·rw [mid i' (by lia) d2,mid j' (by lia) d3]
     exact eU R2 (by lia) (by lia)
    ·obtain ⟨t,t1,t2,t3⟩:=midv i' (by lia) d2
     rw [t3,out j' (by lia)]
     by_cases d4:t < sa+na
     ·exact G8 (sgA t (sa+na-1) (by lia) (by lia) (by lia)) (highB j' (by lia) x3)
     ·exact sgB t j' (by lia) (by lia) x3
   ·rw [out i' (by lia),out j' (by lia)]
    exact sgB i' j' (by lia) x2 x3
 by_cases hcase:na-k<=m
 ·rw [if_pos hcase]
  refine Gy (BW C g.kind (show 0 < ((GD st).extract (sa+k) (sa+na)).size by rw [sx];lia) (show 0 < ((GD st).extract (sa+na) (sa+na+m)).size by rw [sy];lia) PX PY srX srY H0 HL fun r st1 S R=>?_)
  refine Gy (HN (Gy (Km ?_)))
  have hf:Jh st1=none:=S.2.2.2.trans g.fail
  show wpS _ _ _ _ (pure (Jh st1).isNone) _ _
  rw [hf]
  exact GF (done r st1 (S.1.trans g.kind) hf S.2.2.1 S.2.1 R)
 ·rw [if_neg hcase]
  refine Gy (BX C g.kind (show 0 < ((GD st).extract (sa+k) (sa+na)).size by rw [sx];lia) (show 0 < ((GD st).extract (sa+na) (sa+na+m)).size by rw [sy];lia) PX PY srX srY H0 HL fun r st1 S R=>?_)
  refine Gy (HN (Gy (Km ?_)))
  have hf:Jh st1=none:=S.2.2.2.trans g.fail
  show wpS _ _ _ _ (pure (Jh st1).isNone) _ _
  rw [hf]
  exact GF (done r st1 (S.1.trans g.kind) hf S.2.2.1 S.2.1 R)
end
end Tim
end
section
namespace Tim
open PySem PyProof.Rows
noncomputable def bare (x:Nat×Nat×Nat):Nat×Nat:=(x.1,x.2.1)
theorem Cov.bare:∀{l m:List (Nat×Nat×Nat)} {f t:Nat},l.map bare=m.map bare->Cov l f t->Cov m f t
 | [],[],_,_,_,h=>h
 | [],_::_,_,_,e,_=>by cases e
 | _::_,[],_,_,e,_=>by cases e
 | x::l,y::m,f,t,e,⟨h1,h2,h3⟩=>by
  have e':=MJ e
  have e1:x.1=y.1:=(Mq e'.1).1
  have e2:x.2.1=y.2.1:=(Mq e'.1).2
  exact ⟨e1▸h1,e2▸h2,e2▸Cov.bare e'.2 h3⟩
theorem uc (l:List (Nat×Nat×Nat)) (i pw:Nat):(l.modify i fun x=>(x.1,x.2.1,pw)).map bare=l.map bare:=by
 apply Kb
 intro j
 rw [GH,GH,List.getElem?_modify]
 cases l[j]? with
 | none=>rfl
 | some x=>by_cases h:i=j <;> simp [h,bare]
section
variable {prog:G2} {w:HJ} {A:HQ} {E:Gs->Gv->Prop} {s:Gv} {κ:Kh} {O:Lg} {key:GL->O.α} {P:GL->Prop}
theorem G.push {a0:Array GL} {st:Iz} {lo n:Nat} (g:G κ key a0 st lo) (S:Sg key (GD st) lo (lo+n)) (h1:1<=n) (h2:lo+n<=a0.size):G κ key a0 (MZ st ((GS st).push (lo,n,0))) (lo+n):=by
 have e:(GS (MZ st ((GS st).push (lo,n,0)))).toList=(GS st).toList++[(lo,n,0)]:=Lj ..
 refine ⟨g.kind,g.fail,g.perm,?_,fun x hx=>?_,h2⟩
 ·rw [e];exact Cov.app.mpr ⟨lo,g.cov,rfl,h1,rfl⟩
 ·rw [e] at hx
  rcases List.mem_append.mp hx with hx | hx
  ·exact g.srt x hx
  ·rw [Ip] at hx;subst hx;exact S
theorem G.pow {a0:Array GL} {st:Iz} {lo:Nat} (g:G κ key a0 st lo) (i pw:Nat):G κ key a0 (MZ st ((GS st).modify i fun x=>(x.1,x.2.1,pw))) lo:=by
 have e:(GS (MZ st ((GS st).modify i fun x=>(x.1,x.2.1,pw)))).toList=(GS st).toList.modify i fun x=>(x.1,x.2.1,pw):=Array.toList_modify ..
 have b:=uc (GS st).toList i pw
 refine ⟨g.kind,g.fail,g.perm,?_,fun x hx=>?_,g.le⟩
 ·rw [e];exact Cov.bare b.symm g.cov
 ·rw [e] at hx
  have hb:bare x∈((GS st).toList.map bare):=by rw [<- b];exact List.mem_map_of_mem hx
  obtain ⟨y,hy,ey⟩:=List.mem_map.mp hb
  have q:=g.srt y hy
  have e1:y.1=x.1:=(Mq ey).1
  have e2:y.2.1=x.2.1:=(Mq ey).2
  rw [e1,e2] at q
  exact q
theorem Sg.keep {a b:Array GL} {lo hi:Nat} (h:Sg key a lo hi) (e:∀j,lo<=j->b[j]?=a[j]?):Sg key b lo hi:=fun i j z1 z2 z3=>by
 rw [bg (e i z1),bg (e j (by lia))];exact h i j z1 z2 z3
theorem xG (C:gN prog w A s κ O key P) {st:Iz} {Q:Unit->Iz->Prop} (hP:∀x∈(GD st).toList,P x) (hk:kindOf st=κ) (hf:Jh st=none) (hp:GS st=#[]) (h1:1<=(GD st).size)
  (h:∀st',(GD st').Perm (GD st)->Jh st'=none->(GD st').toList.Pairwise (kl key)->Q () st'):wpS (Ha prog w) A E s sortRuns' Q st:=by
 have g0:G κ key (GD st) st 0:=⟨hk,hf,KJ _,by rw [hp];rfl,(fun x hx=>by rw [hp] at hx;cases hx),IG _⟩
 rw [sortRuns'_eq]
 refine Gy (Km ?_)
 dsimp only
 refine Gy (Iw (Ho (I:=fun x c st1=>∃lo,c=(none,lo)/\x<=lo/\G κ key (GD st) st1 lo) (Q:=fun c st1=>c=(none,(GD st).size)/\G κ key (GD st) st1 (GD st).size) ?step ?fin ⟨0,rfl,Gz _,g0⟩) ?post)
 case fin=>
  rintro c st1 ⟨lo,rfl,hx,g⟩
  have:=g.le
  have e:lo=(GD st).size:=by lia
  subst e;exact ⟨rfl,g⟩
 case post=>
  rintro c st1 ⟨rfl,g⟩
  dsimp only
  refine Gy (Iw (Ho (I:=fun x c st2=>c=(none,())/\(GS st2).size+x<=(GD st).size/\G κ key (GD st) st2 (GD st).size) (Q:=fun c st2=>c=(none,())/\(GS st2).size<=1/\G κ key (GD st) st2 (GD st).size) ?ls ?lf ⟨rfl,by have:=g.cov.le;rw [Hb] at this;lia,g⟩) ?lp)
  case lf=>
   rintro c st2 ⟨rfl,b1,g2⟩
   exact ⟨rfl,by lia,g2⟩
  case ls=>
   rintro x c st2 _ hx ⟨rfl,b1,g2⟩
   refine Gy (Km ?_)
   by_cases hp1:(GS st2).size<=1
   ·rw [if_pos hp1];exact GF ⟨rfl,hp1,g2⟩
   rw [if_neg hp1]
   have hi:∀b:Bool,(if b=true then (GS st2).size-2-1 else (GS st2).size-2)+1 < (GS st2).size:=fun b=>by
    cases b with
    | true=>rw [if_pos rfl];lia
    | false=>rw [if_neg (by simp)];lia
   refine Gy (nA C hP g2 (hi _) fun st3 g3 _ b3=>?_)
   rw [if_neg (by simp)]
   exact GF ⟨rfl,by lia,g3⟩
  case lp=>
   rintro c st2 ⟨rfl,b1,g2⟩
   refine GF (h st2 g2.perm g2.fail ?_)
   have hz:(GD st2).size=(GD st).size:=g2.perm.size_eq
   have S:Sg key (GD st2) 0 (GD st).size:=by
    have c:=g2.cov
    have q:=g2.srt
    rw [<- Hb] at b1
    match hl:(GS st2).toList,b1 with
    | [],_=>rw [hl] at c;have c:0=(GD st).size:=c;lia
    | [x],_=>
     rw [hl] at c q
     obtain ⟨c1,_,c3⟩:=c
     have:=q x GG
     have c3:0+x.2.1=(GD st).size:=c3
     rwa [c1,c3] at this
    | _::_::_,b1=>simp only [HV] at b1;lia
   rw [K7]
   intro i j hi hj hij
   have gt:∀z (hz:z < (GD st2).toList.length),(GD st2).toList[z]=at_ (GD st2) z:=fun z hz'=>by
    have e1:=cf (a:=GD st2) (i:=z) (by rw [<- Hb];exact hz')
    rw [Gr hz'] at e1
    exact GP e1
   rw [gt i hi,gt j hj]
   rw [Hb] at hi hj
   exact S i j (IG _) (by lia) (by lia)
 case step=>
  rintro x c st1 _ hx ⟨lo,rfl,hxl,g⟩
  have hle:=g.le
  have hsz:(GD st1).size=(GD st).size:=g.perm.size_eq
  dsimp only
  by_cases hge:lo >= (GD st).size
  ·rw [if_pos hge]
   have e:lo=(GD st).size:=by lia
   subst e;exact GF ⟨rfl,g⟩
  rw [if_neg hge]
  have hPs:∀x∈(GD st1).toList,P x:=fun x hx=>hP x ((Array.perm_iff_toList_perm.mp g.perm).mem_iff.mp hx)
  have step:∀{st2:Iz},Mv lo st1 st2->G κ key (GD st) st2 lo:=fun {st2} M=>by
   refine ⟨M.kind.trans g.kind,M.fail.trans g.fail,M.perm.trans g.perm,by rw [M.pend];exact g.cov,fun x hx=>?_,hle⟩
   rw [M.pend] at hx
   have q:=g.srt x hx
   have r:=g.cov.mem x hx
   intro i j z1 z2 z3
   rw [bg (M.pre i (by lia)),bg (M.pre j (by lia))]
   exact q i j z1 z2 z3
  refine Gy (BY C g.kind hPs (by lia) (by lia) fun n st2 M2 n1 n2 S2=>?_)
  dsimp only
  by_cases hm:n < minRun' (GD st).size (GD st).size 0
  ·rw [if_pos hm]
   refine Gy (Lw (Ka ⟨rfl,?_⟩))
   have hz2:(GD st2).size=(GD st).size:=M2.size.trans hsz
   refine Gy (BZ C (M2.kind.trans g.kind) (M2.all hPs) (by rw [hz2];lia) n1 (by lia) S2 fun st3 M3 S3=>?_)
   rw [if_neg (by simp)]
   have M4:Mv lo st1 st3:=⟨M3.kind.trans M2.kind,M3.pend.trans M2.pend,M3.fail.trans M2.fail,M3.perm.trans M2.perm,fun i hi=>(M3.pre i hi).trans (M2.pre i hi)⟩
   have g4:=step M4
   have n3:1<=min ((GD st).size-lo) (minRun' (GD st).size (GD st).size 0):=by lia
   have n4:lo+min ((GD st).size-lo) (minRun' (GD st).size (GD st).size 0)<=(GD st).size:=by lia
   generalize min ((GD st).size-lo) (minRun' (GD st).size (GD st).size 0)=N at S3 n3 n4 ⊢
   refine Gy (Km ?_)
   cases hb:(GS st3).back? with
   | none=>
    dsimp only
    exact Gy (HN (GF ⟨_,rfl,by lia,g4.push S3 n3 n4⟩))
   | some z=>
    obtain ⟨s1,l1,p1⟩:=z
    dsimp only
    refine Gy (Iw (Ho (I:=fun _ c st5=>c=(none,())/\G κ key (GD st) st5 lo/\Sg key (GD st5) lo (lo+N)) (Q:=fun c st5=>c=(none,())/\G κ key (GD st) st5 lo/\Sg key (GD st5) lo (lo+N)) ?ms ?mf ⟨rfl,g4,S3⟩) ?mp)
    case mf=>rintro c st5 z;exact z
    case ms=>
     rintro y c st5 _ hy ⟨rfl,g5,S5⟩
     refine Gy (Km ?_)
     by_cases hp2:(GS st5).size > 1
     ·rw [if_pos hp2]
      obtain ⟨u1,u2,u3,hu⟩:∃u1 u2 u3,(GS st5)[(GS st5).size-2]?=some (u1,u2,u3):=⟨_,_,_,getElem?_pos _ _ (by lia)⟩
      rw [hu]
      dsimp only
      split
      ·exact GF ⟨rfl,g5,S5⟩
      ·refine Gy (nA C hP g5 (by lia) fun st6 g6 k6 _=>?_)
       rw [if_neg (by simp)]
       exact GF ⟨rfl,g6,S5.keep k6⟩
     ·rw [if_neg hp2]
      exact GF ⟨rfl,g5,S5⟩
    case mp=>
     rintro c st5 ⟨rfl,g5,S5⟩
     dsimp only
     exact Gy (HN (Gy (HN (GF ⟨_,rfl,by lia,(g5.pow _ _).push S5 n3 n4⟩))))
  ·rw [if_neg hm]
   have g4:=step M2
   have n4:lo+n<=(GD st).size:=by lia
   refine Gy (Km ?_)
   cases hb:(GS st2).back? with
   | none=>
    dsimp only
    exact Gy (HN (GF ⟨_,rfl,by lia,g4.push S2 n1 n4⟩))
   | some z=>
    obtain ⟨s1,l1,p1⟩:=z
    dsimp only
    refine Gy (Iw (Ho (I:=fun _ c st5=>c=(none,())/\G κ key (GD st) st5 lo/\Sg key (GD st5) lo (lo+n)) (Q:=fun c st5=>c=(none,())/\G κ key (GD st) st5 lo/\Sg key (GD st5) lo (lo+n)) ?ms ?mf ⟨rfl,g4,S2⟩) ?mp)
    case mf=>rintro c st5 z;exact z
    case ms=>
     rintro y c st5 _ hy ⟨rfl,g5,S5⟩
     refine Gy (Km ?_)
     by_cases hp2:(GS st5).size > 1
     ·rw [if_pos hp2]
      obtain ⟨u1,u2,u3,hu⟩:∃u1 u2 u3,(GS st5)[(GS st5).size-2]?=some (u1,u2,u3):=⟨_,_,_,getElem?_pos _ _ (by lia)⟩
      rw [hu]
      dsimp only
      split
      ·exact GF ⟨rfl,g5,S5⟩
      ·refine Gy (nA C hP g5 (by lia) fun st6 g6 k6 _=>?_)
       rw [if_neg (by simp)]
       exact GF ⟨rfl,g6,S5.keep k6⟩
     ·rw [if_neg hp2]
      exact GF ⟨rfl,g5,S5⟩
    case mp=>
     rintro c st5 ⟨rfl,g5,S5⟩
     dsimp only
     exact Gy (HN (Gy (HN (GF ⟨_,rfl,by lia,(g5.pow _ _).push S5 n1 n4⟩))))
end
end Tim
end
section
namespace Tim
open PySem PyProof.Rows L2
section
variable {prog:G2} {w:HJ} {A:HQ} {E:Gs->Gv->Prop} {s:Gv} {κ:Kh} {O:Lg} {key:GL->O.α} {P:GL->Prop}
noncomputable def bQ (h:Heap) (a:Addr) (vs:List Gs):Heap:=((h.update a (IB fun _=>#[])).push (Kk "tuple" vs.toArray 0)).push (Kk "list" #[] 0)
theorem xH {h:Heap} {a b:Addr} {vs:List Gs} {o:Obj} (hb:b≠a) (e:h.get? b=some o):(bQ h a vs).get? b=some o:=
 Gu _ (Gu _ (((KL h a _).2 b hb).trans e))
theorem ud (vs:List Gs):(vs.toArray.zip vs.toArray).toList=vs.map fun v=>(v,v):=by
 apply List.ext_getElem <;> simp
theorem ue {a:Addr} {vs:List Gs} {n:Nat} {R:PySem.Fin->Gv->Prop} (ho:s.heap.get? a=some (Kk "list" vs.toArray n)) (h2:2<=vs.length) (hz:vs.length<=GZ)
  (hk:∀Q':Kh->Gv->Prop,Q' κ { s with heap:=bQ s.heap a vs }->Hj (Ha prog w) A (keyKind' vs.toArray) Q' E { s with heap:=bQ s.heap a vs })
  (C:gN prog w A { s with heap:=bQ s.heap a vs } κ O key P) (hP:∀v∈vs,P (v,v))
  (h:∀out:List Gs,out.Perm vs->out.Pairwise (fun x y=>O.kle (key (x,x)) (key (y,y)))->R (.done (.ret .none)) { s with heap:=sortedHeap s.heap a vs out.toArray }) :
  Hj (Ha prog w) A (Builtin.«list.sort» ⟨[.ref a],[]⟩) R E s:=by
 have many:¬ vs.toArray.size < 2:=by rw [GC];lia
 obtain ⟨e,he⟩:∃e,(s.heap.update a (IB fun _=>#[])).get? a=some (Kk "list" #[] e):=⟨_,get?_update_seq ho (fun _=>#[])⟩
 rw [list_sort_plain]
 refine Gp (listItems_at ho rfl (Gp (Lq ho rfl (Gp (Mm he rfl (Gp (Me (Gp (Lr (Hx ?_))) (hsz:=hz))))) (by rw [GC];lia))))
 have he2:(bQ s.heap a vs).get? a=some (Kk "list" #[] e):=Gu _ (Gu _ he)
 dsimp only
 rw [if_neg many,if_neg many]
 refine Gp (hk _ ?_)
 have hl0:(GD (MV κ (vs.toArray.zip vs.toArray) #[] 7 none)).toList=vs.map fun v=>(v,v):=ud vs
 refine Gp (G9 (xG (E:=E) C (st:=MV κ (vs.toArray.zip vs.toArray) #[] 7 none) (Q:=fun _ st'=>(GD st').toList.Perm (vs.map fun v=>(v,v))/\Jh st'=none/\(GD st').toList.Pairwise (kl key))
  (fun x hx=>?_) rfl rfl rfl ?_ fun st' q1 q2 q3=>⟨?_,q2,q3⟩) ?_ fun _ _ z=>z)
 ·rw [hl0] at hx
  obtain ⟨v,hv,rfl⟩:=List.mem_map.mp hx
  exact hP v hv
 ·rw [<- Hb,hl0,Gx];lia
 ·rw [<- hl0];exact Array.perm_iff_toList_perm.mp q1
 rintro ⟨⟨⟩,st'⟩ s' ⟨rfl,pm,hf,pw⟩
 dsimp only
 have same:∀x∈(GD st').toList,x=(x.2,x.2):=fun x hx=>by
  obtain ⟨v,_,rfl⟩:=List.mem_map.mp (pm.mem_iff.mp hx);rfl
 have eo:(GD st').map (·.2)=((GD st').toList.map (·.2)).toArray:=by apply Array.ext' ; simp
 have p2:((GD st').toList.map (·.2)).Perm vs:=by have:=pm.map (·.2);rw [HC] at this;simpa [J8] using this
 have w2:((GD st').toList.map (·.2)).Pairwise (fun x y=>O.kle (key (x,x)) (key (y,y))):=by
  rw [Jr]
  refine Lk (fun {x y} hx hy q=>?_) pw
  have q:O.kle (key x) (key y):=q
  rw [same x hx,same y hy] at q
  exact q
 refine Gp (Mm he2 rfl (Gp (Lq he2 rfl ?_ (hsz2:=by rw [eo,GC,p2.length_eq];lia))))
 rw [eo,hf]
 simp only [bne_self_eq_false,Hz,if_false]
 exact GA (h _ p2 w2)
noncomputable def cG (h:Heap) (vs:List Gs):Heap:=((h.push (Kk "list" #[] 0)).update h.objs.size (IB (·++vs.toArray))).push (Kk "list" vs.toArray 0)
theorem pre_size (h:Heap) (vs:List Gs):((h.push (Kk "list" #[] 0)).update h.objs.size (IB (·++vs.toArray))).objs.size=h.objs.size+1:=by rw [Heap.size_update,size_push']
theorem pE {h:Heap} {b:Addr} {vs:List Gs} {o:Obj} (e:h.get? b=some o):(bQ (cG h vs) (h.objs.size+1) vs).get? b=some o:=by
 have hb:b < h.objs.size:=GI e
 refine xH (Hn (MY hb)) (Gu _ (((KL _ _ _).2 b (Hn hb)).trans (Gu _ e)))
theorem nB {l:Addr} {vs:List Gs} {Q:Gs->Gv->Prop} (hl:s.heap.IsList l vs.toArray) (h2:2<=vs.length) (hz:vs.length<=GZ)
  (hk:∀Q':Kh->Gv->Prop,Q' κ { s with heap:=bQ (cG s.heap vs) (s.heap.objs.size+1) vs }->Hj (Ha prog w) A.in1.in1 (keyKind' vs.toArray) Q' E { s with heap:=bQ (cG s.heap vs) (s.heap.objs.size+1) vs })
  (C:gN prog w A.in1.in1 { s with heap:=bQ (cG s.heap vs) (s.heap.objs.size+1) vs } κ O key P) (hP:∀v∈vs,P (v,v))
  (h:∀out:List Gs,out.Perm vs->out.Pairwise (fun x y=>O.kle (key (x,x)) (key (y,y)))->Q (.ref (s.heap.objs.size+1)) { s with heap:=sortedAll s.heap vs out.toArray }) :
  Hj (Ha prog w) A (call (.builtin "sorted") [.ref l]) Q E s:=by
 have z1:=pre_size s.heap vs
 have z2:(cG s.heap vs).get? (s.heap.objs.size+1)=some (Kk "list" vs.toArray 0):=z1▸GQ _ rfl
 have col:=fun R r=>collect_list (prog:=prog) (w:=w) (A:=A.in1) (E:=E) (Q:=R) hl r hz
 refine K4 kind_sorted plain_sorted entry_sorted (args_sorted1 _) (Gp (m:=checkCount "sorted" 1 1 _) (GA (Gp (m:=collect (.ref l)) (col _ (Gp (Lr ?_ (hsz:=hz)))))))
 dsimp only
 rw [z1]
 refine Gp (Hx (IF slot_list_sort ⟨_,z2,rfl⟩ entry_list_sort (ue (κ:=κ) (O:=O) (key:=key) (P:=P) z2 h2 hz hk C hP fun out p q=>⟨_,rfl,GA ⟨_,rfl,h out p q⟩⟩) (args_list_sort _)))
noncomputable def dec (h:Heap):Gs->List Int
 | .ref p=>match h.get? p with
  | some o=>match o.data with
   | .seq xs _=>xs.toList.map numOf
   | _=>[]
  | none=>[]
 | _=>[]
noncomputable def IsT (h:Heap) (v:Gs) (ns:List Int):Prop:=∃p its,v=.ref p/\NU h p (List.toArray its)/\Vals (ns.map V.int) its
theorem jO:∀{ns:List Int} {its:List Gs},Vals (ns.map V.int) its->its.map numOf=ns
 | [],its,h=>by have h:Vals [] its:=h;cases h;rfl
 | n::ns,its,h=>by
  have h:Vals (V.int n::ns.map V.int) its:=h
  cases h with
  | cons a b=>obtain ⟨t,rfl⟩:=a;rw [GO,jO b];rfl
theorem IsT.dec {h:Heap} {v:Gs} (q:IsT h v ns):dec h v=ns:=by
 obtain ⟨p,its,rfl,⟨o,ho,_,n,hd⟩,r⟩:=q
 unfold Tim.dec
 dsimp only
 rw [ho]
 dsimp only
 rw [hd]
 dsimp only
 exact jO r
theorem qG {h:Heap}:gN prog w A { s with heap:=h } (tuples' true) lexOrd (fun x=>dec h x.1) (fun x=>∃ns,IsT h x.1 ns):=by
 intro x y C hx hy q
 obtain ⟨ns,hx⟩:=hx
 obtain ⟨ms,hy⟩:=hy
 have q:C (HT.lexLt (dec h x.1) (dec h y.1)) { s with heap:=h }:=q
 rw [hx.dec,hy.dec] at q
 obtain ⟨p,us,ex,⟨o,ho,_,n,hd⟩,r⟩:=hx
 obtain ⟨p',vs,ey,⟨o',ho',_,n',hd'⟩,r'⟩:=hy
 rw [ex,ey]
 exact PySem.W.kat_lt (s:={ s with heap:=h }) ho hd ho' hd' (wJ ns ms 0 r r' (by simp) q)
end
end Tim
namespace L2
open PySem PySem.Spec PyProof.Rows
noncomputable def uf (K:Gn):List V->Hp->VK->Prop:=fun xs H Q=>∃(l:Addr) (ps:List Addr) (mss:List (List Int)),xs=[.ref l]/\SqL K H l (ps.map V.ref)/\iL K H ps mss/\(∀ms∈mss,ms≠[]) /\
 ∀(D:Addr) (ps':List Addr),H D=none->iL K H ps' (srt mss)->Q (.ref D) (upd H D (.lst (ps'.map V.ref)))
noncomputable def adr:Gs->Addr
 | .ref a=>a
 | _=>0
theorem pF (f:Addr->List Int):∀{ps:List Addr},(∀p∈ps,SqT K H p ((f p).map V.int))->iL K H ps (ps.map f)
 | [],_=>.nil
 | p::ps,h=>.cons (h p GG) (pF f fun q hq=>h q (GU _ hq))
theorem jP (f:Addr->List Int):∀{ps:List Addr} {mss:List (List Int)},iL K H ps mss->(∀p ms,SqT K H p (ms.map V.int)->f p=ms)->ps.map f=mss/\∀p∈ps,SqT K H p ((f p).map V.int)
 | _,_,.nil,_=>⟨rfl,fun _ h=>nomatch h⟩
 | _,_,.cons h t,hf=>by
  obtain ⟨e,q⟩:=jP f t hf
  refine ⟨by rw [GO,e,hf _ _ h],fun p hp=>?_⟩
  rcases List.mem_cons.mp hp with rfl | hp
  ·rw [hf _ _ h];exact h
  ·exact q p hp
theorem nE {X:Cx}:cL X (.builtin "sorted") (uf X.K):=by
 intro pins s σ H xs us Q I r h
 obtain ⟨l,ps,mss,rfl,hl,ht,hne,q⟩:=h
 obtain ⟨u,rfl,rx⟩:=vals1 r
 cases rx
 obtain ⟨vs,rv,pl,hz⟩:=I.list hl
 have hlen:ps.length=mss.length:=IM ht
 have evs:=gF rv
 subst evs
 rw [Gx] at hz
 by_cases h2:ps.length < 2
 ·refine mS pl.isList (by simpa using h2) ?_
  obtain ⟨e,he⟩:=sortedAll_at s.heap (ps.map Hf) (ps.map Hf).toArray
  have es:srt mss=mss:=(iP (Mh _) (by
   match mss,hlen with
   | [],_=>exact Le
   | [_],_=>simp
   | _::_::_,hl=>simp at hl;lia)).symm
  exact ⟨.ref (s.heap.objs.size+1),_,I.laid (t':=s.toks) (o:=.lst (ps.map V.ref)) (fun b o e=>sortedAll_old e) (JC _) ⟨by rw [Gx];exact hz,_,e,rv,he⟩,rfl,q _ ps (I.hok.fresh (JC _)) (by rw [es];exact ht)⟩
 ·have isT:∀p ms,SqT X.K H p (ms.map V.int)->Tim.IsT (Tim.bQ (Tim.cG s.heap (ps.map Hf)) (s.heap.objs.size+1) (ps.map Hf)) (.ref p) ms:=fun p ms hp=>by
   obtain ⟨its,r1,⟨o,ho,hc,n,hd⟩,_⟩:=I.tuple hp
   exact ⟨p,its,rfl,⟨o,Tim.pE ho,hc,n,hd⟩,r1⟩
  have isT0:∀p ms,SqT X.K H p (ms.map V.int)->Tim.IsT s.heap (.ref p) ms:=fun p ms hp=>by
   obtain ⟨its,r1,t1,_⟩:=I.tuple hp
   exact ⟨p,its,rfl,t1,r1⟩
  obtain ⟨em,each⟩:=jP (fun p=>Tim.dec s.heap (.ref p)) ht fun p ms hp=>(isT0 p ms hp).dec
  have dd:∀p∈ps,Tim.dec (Tim.bQ (Tim.cG s.heap (ps.map Hf)) (s.heap.objs.size+1) (ps.map Hf)) (.ref p)=Tim.dec s.heap (.ref p):=fun p hp=>(isT p _ (each p hp)).dec
  obtain ⟨fs,k1,k2,k3⟩:=mT (h:=Tim.bQ (Tim.cG s.heap (ps.map Hf)) (s.heap.objs.size+1) (ps.map Hf)) (fun a xs hx=>let ⟨its,r1,⟨o,ho,hc,n,hd⟩,_⟩:=I.tuple hx;⟨its,r1,⟨o,Tim.pE ho,hc,n,hd⟩⟩) ht hne
  refine Tim.nB (κ:=tuples' true) (O:=lexOrd) (key:=fun x=>Tim.dec (Tim.bQ (Tim.cG s.heap (ps.map Hf)) (s.heap.objs.size+1) (ps.map Hf)) x.1)
   (P:=fun x=>∃ns,Tim.IsT (Tim.bQ (Tim.cG s.heap (ps.map Hf)) (s.heap.objs.size+1) (ps.map Hf)) x.1 ns) pl.isList (by simp;lia) (by simpa using hz) (fun Q' hq=>?_) Tim.qG (fun v hv=>?_) fun out pm pw=>?_
  ·refine PySem.W.kat_kind (T:=.type "int") k1 (by lia) (fun v hv=>?_) rfl ?_
   ·obtain ⟨i,t,rfl⟩:=k3 v hv
    exact PySem.W.Looks.of_pure rfl
   ·rw [show ((L0 "int") != L0 "tuple")=true by decide +kernel]
    exact hq
  ·obtain ⟨p,hp,rfl⟩:=List.mem_map.mp hv
   exact ⟨_,isT p _ (each p hp)⟩
  ·have pa:(out.map adr).Perm ps:=by
    have:=pm.map adr
    rw [HC] at this
    simpa [adr,J8] using this
   have eo:out=(out.map adr).map Hf:=by
    rw [HC]
    conv=>lhs;rw [<- List.map_id out]
    refine Ih fun v hv=>?_
    obtain ⟨p,_,rfl⟩:=List.mem_map.mp (pm.mem_iff.mp hv)
    rfl
   have hin:∀p∈out.map adr,p∈ps:=fun p hp=>pa.mem_iff.mp hp
   have es:(out.map adr).map (fun p=>Tim.dec s.heap (.ref p))=srt mss:=by
    refine iP ?_ ?_
    ·rw [<- em];exact pa.map _
    ·rw [Jr,Jr]
     refine Lk (fun {x y} hx hy z=>?_) pw
     obtain ⟨p,hp,rfl⟩:=List.mem_map.mp (pm.mem_iff.mp hx)
     obtain ⟨p',hp',rfl⟩:=List.mem_map.mp (pm.mem_iff.mp hy)
     have z:HT.lexLt (Tim.dec _ (.ref p')) (Tim.dec _ (.ref p))=false:=z
     rw [dd p hp,dd p' hp'] at z
     show lexLe (Tim.dec s.heap (.ref p)) (Tim.dec s.heap (.ref p'))=true
     unfold lexLe
     rw [z];rfl
   obtain ⟨e,he⟩:=sortedAll_at s.heap (ps.map Hf) out.toArray
   rw [eo] at he
   refine ⟨.ref (s.heap.objs.size+1),upd H (s.heap.objs.size+1) (.lst ((out.map adr).map V.ref)),I.laid (t':=s.toks) (o:=.lst ((out.map adr).map V.ref)) (fun b o e=>sortedAll_old e) (JC _) ⟨by rw [Gx,pa.length_eq];exact hz,_,e,jC _,?_⟩,rfl,q _ _ (I.hok.fresh (JC _)) ?_⟩
   ·rw [<- eo] at he ⊢;exact he
   ·rw [<- es];exact pF _ fun p hp=>each p (hin p hp)
end L2
end
section
namespace L2
open PySem PySem.Spec PyProof.Rows
section
variable {prog:G2} {w:HJ} {A:HQ} {E:Gs->Gv->Prop} {s:Gv}
theorem je:Kw "dict_itemiterator"=true:=by decide
theorem gc {it:Addr} {Q:Nat->Gv->Prop} (ty:s.TypeIs (.ref it) "dict_itemiterator") (h:Q 2 s) :
  Hj (Ha prog w) A (typeNameOfWhole (.ref it) >>= fun n=>pure (if Kw n=true then 2 else 0)) Q E s:=
 Gp (wpAny_typeNameOfWhole_itemiter ty (GA (by rw [je];exact h)))
theorem ug {it d:Addr} {i n ep:Nat} {ok ov k v:Gs} {Q:Gs->Gv->Prop} (hit:Kc s.heap it d i n ep ok ov)
  (hQ:∀h',IsItemIterOut h' it d i n ep k v s.heap.objs.size->h'.get? s.heap.objs.size=some { cls:=.type "tuple",data:=.seq #[k,v] }->h'.objs.size=s.heap.objs.size+1->(∀b u,b≠it->s.heap.get? b=some u->h'.get? b=some u)->Q (.ref s.heap.objs.size) { s with heap:=h' }) :
  Hj (Ha prog w) A (Builtin.Dict_items.pairFromOwner (.ref it) 6 k v) Q E s:=by
 have hb:it≠s.heap.objs.size:=Hn (GI hit)
 refine Gp (Me ?_)
 have e0:Kc (s.heap.push { cls:=.type "tuple",data:=.seq #[k,v] }) it d i n ep ok ov:=Gu _ hit
 have t0:(s.heap.push { cls:=.type "tuple",data:=.seq #[k,v] }).get? s.heap.objs.size=some { cls:=.type "tuple",data:=.seq #[k,v] }:=GQ _ rfl
 have z0:(s.heap.push { cls:=.type "tuple",data:=.seq #[k,v] }).objs.size=s.heap.objs.size+1:=Kf ..
 have q0:∀b u,s.heap.get? b=some u->(s.heap.push { cls:=.type "tuple",data:=.seq #[k,v] }).get? b=some u:=fun b u e=>Gu _ e
 refine Gp (Gp (J5 e0 rfl (x:=.none) rfl (GA ?_)))
 rw [if_pos rfl]
 refine Gp (J5 e0 rfl (x:=ok) rfl (Gp (J5 e0 rfl (x:=ov) rfl (Gp (Ji e0 (k:=6) (by simp) fun g1 e1 b1=>?_)))))
 refine Gp (Ji e1 (k:=7) (by simp) fun g2 e2 b2=>Gp (Ji e2 (k:=0) (by simp) fun g3 e3 b3=>Gp (Ji e3 (k:=1) (by simp) fun g4 e4 b4=>Gp (Lv (GA ?_)))))
 have all:∀b u,b≠it->(s.heap.push { cls:=.type "tuple",data:=.seq #[k,v] }).get? b=some u->g4.get? b=some u:=fun b u hn e=>(b4.2 b hn).trans ((b3.2 b hn).trans ((b2.2 b hn).trans ((b1.2 b hn).trans e)))
 exact hQ g4 e4 (all _ _ hb.symm t0) (b4.1.trans (b3.1.trans (b2.1.trans (b1.1.trans z0)))) fun b u hn e=>all b u hn (q0 b u e)
theorem uh {it d:Addr} {i ep:Nat} {o:Obj} {es:Array KC} {ok ov:Gs} {Q:Option Gs->Gv->Prop} (hit:Kc s.heap it d i es.size ep ok ov) (ho:s.heap.get? d=some o) (hd:o.data=.dict es ep) (hi:i < es.size)
  (hQ:∀h',IsItemIterOut h' it d (i+1) es.size ep es[i].key es[i].val s.heap.objs.size->h'.get? s.heap.objs.size=some { cls:=.type "tuple",data:=.seq #[es[i].key,es[i].val] }->h'.objs.size=s.heap.objs.size+1->(∀b u,b≠it->s.heap.get? b=some u->h'.get? b=some u) ->
   Q (some (.ref s.heap.objs.size)) { s with heap:=h' }):Hj (Ha prog w) A (Ma (.ref it)) Q E s:=by
 have ty:s.TypeIs (.ref it) "dict_itemiterator":=⟨_,hit,rfl⟩
 unfold Ma
 refine Gp (Ku (JP (name:=Nh "__next__") ty F.slot_dict_itemiterator_next (IF F.slot_dict_itemiterator_next ty F.entry_dict_itemiterator_next ?_ (F.args_dict_itemiterator_next_1 _))))
 refine Gp (GA (Gp (Gp (gc ty (Gp (wpAny_fieldsOf hit rfl ?_))))))
 show Hj _ _ (if (Hf d==HD)=true then _ else _) _ _ s
 rw [if_neg (fun z:(Hf d==HD)=true=>Gw z)]
 refine Gp (GA (Gp (Ll ho hd ?_)))
 rw [if_neg (by simp)]
 refine Gp (GA (Gp (LV ho hd ?_)))
 rw [if_neg (by simp)]
 refine GA ?_
 have hx:(if ((i:Nat):Int) < 0 then none else es[((i:Nat):Int).toNat]?)=some es[i]:=by rw [if_neg (by lia),J4];exact K8 hi
 dsimp only
 rw [hx]
 refine Gp (gc ty (Gp (JZ ty (Gp (Ji hit (k:=3) (by simp) fun g e b=>?_)))))
 have e':Kc g it d (i+1) es.size ep ok ov:=by
  have z:((i+1:Nat):Int)=(i:Int)+1:=by lia
  unfold Kc;rw [z];exact e
 have ty':Shared.TypeIs { s with heap:=g } (.ref it) "dict_itemiterator":=⟨_,e',rfl⟩
 refine Gp (Hx (Gp (JZ ty' (Gp (JZ ty' (ug (s:={ s with heap:=g }) e' fun h' a1 a2 a3 a4=>?_))))))
 have gz:g.objs.size=s.heap.objs.size:=b.1
 rw [show ({ s with heap:=g }:Gv).heap.objs.size=s.heap.objs.size from gz] at a1 a2 a3 ⊢
 exact GA ⟨_,rfl,GA (hQ h' a1 a2 a3 fun c u hn z=>a4 c u hn ((b.2 c hn).trans z))⟩
theorem xJ {it d:Addr} {i ep:Nat} {o:Obj} {es:Array KC} {ok ov:Gs} {Q:Option Gs->Gv->Prop} (hh:A.handled=none) (hit:Kc s.heap it d i es.size ep ok ov) (ho:s.heap.get? d=some o) (hd:o.data=.dict es ep) (hi:es.size<=i)
  (hQ:∀h',Heap.ExtBut it s.heap h'->Q none { s with heap:=h' }):Hj (Ha prog w) A (Ma (.ref it)) Q E s:=by
 have ty:s.TypeIs (.ref it) "dict_itemiterator":=⟨_,hit,rfl⟩
 unfold Ma
 refine Gp (Ku (JP (name:=Nh "__next__") ty F.slot_dict_itemiterator_next (IF F.slot_dict_itemiterator_next ty F.entry_dict_itemiterator_next ?_ (F.args_dict_itemiterator_next_1 _))))
 refine Gp (GA (Gp (Gp (gc ty (Gp (wpAny_fieldsOf hit rfl ?_))))))
 show Hj _ _ (if (Hf d==HD)=true then _ else _) _ _ s
 rw [if_neg (fun z:(Hf d==HD)=true=>Gw z)]
 refine Gp (GA (Gp (Ll ho hd ?_)))
 rw [if_neg (by simp)]
 refine Gp (GA (Gp (LV ho hd ?_)))
 rw [if_neg (by simp)]
 refine GA ?_
 have hx:(if ((i:Nat):Int) < 0 then none else es[((i:Nat):Int).toNat]?)=none:=by rw [if_neg (by lia),J4];exact Array.getElem?_eq_none hi
 dsimp only
 rw [hx]
 refine Gp (gc ty (Gp (wpAny_setField hit rfl (by simp) ?_)))
 unfold newExc newTuple
 refine Gp (Gp (HE (Gp (m:=firstArgMember _ _) (wpAny_of_eq (a:=HD) (by first | rfl | (simp only [firstArgMember];rfl)) (HE (wpAny_raiseNew_none (show A.in1.handled=none from hh) ?_) (by size_fits)))) (by size_fits)))
 refine Gp (wpAny_isInstance (b:=true) (T:="StopIteration") ⟨_,GQ _ rfl,rfl⟩ isSubtype_stop (GA (hQ _ ?_)))
 intro b u hn e
 exact Gu _ (Gu _ (((KL ..).2 b hn).trans e))
end
end L2
end
section
namespace L2
open PySem PySem.Spec PyProof.Rows
theorem jf:entryFor table "dict_itemiterator.__iter__"=some Builtin.«dict_keyiterator.__iter__»:=
 entryFor_alias (id':="dict_keyiterator.__iter__") (by kernel_rfl) rfl (by decide +kernel) (by kernel_rfl)
section
variable {prog:G2} {w:HJ} {A:HQ} {E:Gs->Gv->Prop} {s:Gv}
theorem ui {d:Addr} {Q:Gs->Gv->Prop} (ty:s.TypeIs (.ref d) "dict") (hd:(d==Jo)=false)
  (h:Q (.ref s.heap.objs.size) { s with heap:=s.heap.push { cls:=.type "dict_items",data:=.fields #[.ref d] } }):Hj (Ha prog w) A (call (.builtin "dict.items") [.ref d]) Q E s:=by
 refine IF F.slot_dict_items ty F.entry_dict_items (Gp (Gp (wpAny_notOrdered_dict ty (GA ?_)))) (F.args_dict_items_1 _)
 refine Gp (m:=LW d) ?_
 unfold LW
 rw [if_neg (by rw [hd];exact Gw)]
 exact GA (Gp (HE (GA ⟨_,rfl,h⟩)))
theorem uj {v d:Addr} {o:Obj} {es:Array KC} {ep:Nat} {Q:Gs->Gv->Prop} (hv:s.heap.IsItemsView v d) (ho:s.heap.get? d=some o) (hd:o.data=.dict es ep)
  (h:Q (.ref s.heap.objs.size) { s with heap:=s.heap.push { cls:=.type "dict_itemiterator",data:=.fields #[.none,.bool false,.ref d,.int 0 0,.int es.size 0,.int ep 0,.none,.none] } }):Hj (Ha prog w) A (Nr (.ref v)) Q E s:=by
 obtain ⟨ov,g1,g2,g3⟩:=id hv
 refine M5 hv.typeIs F.slot_dict_items_iter (IF F.slot_dict_items_iter hv.typeIs F.entry_dict_items_iter (Gp (GA (Gp (Gp (J5 g1 g3 (x:=.ref d) rfl (GA (Gp (Gp (Ll ho hd (Gp (LV ho hd ?_))))))))))) (F.args_dict_items_iter_1 _))
 simp only [je,if_true]
 refine HE (GA ⟨_,rfl,"dict_itemiterator",_,⟨_,GQ _ rfl,rfl⟩,F.slot_dict_itemiterator_next.lookup,?_⟩) (by simp only [sizeOk,JE,GC,G6,HV,Jc,Hv];lia)
 simpa [Mz,JE] using h
theorem uk {it d:Addr} {i n ep:Nat} {ok ov:Gs} {Q:Gs->Gv->Prop} (hit:Kc s.heap it d i n ep ok ov) (h:Q (.ref it) s):Hj (Ha prog w) A (Nr (.ref it)) Q E s:=
 have ty:s.TypeIs (.ref it) "dict_itemiterator":=⟨_,hit,rfl⟩
 M5 ty F.slot_dict_itemiterator_iter (IF F.slot_dict_itemiterator_iter ty jf (show Hj _ _ (ret (.ref it)) _ _ s from GA ⟨_,rfl,"dict_itemiterator",_,ty,F.slot_dict_itemiterator_next.lookup,h⟩) (F.args_dict_itemiterator_iter_1 _))
end
noncomputable def Iti (d:Addr) (ob:Obj) (es:List (List Int×Addr×V)):It:=
 ⟨fun i H=>H d=some (bS d ob es)/\i < es.length,fun i H x H'=>∃p e,es[i]?=some e/\H p=none/\x=.ref p/\H'=upd H p (.tup [.ref e.2.1,e.2.2]),fun i H=>H d=some (bS d ob es)/\es.length<=i⟩
theorem EV.pick {xs:List (List Int×Addr×Gs)} (r:EV es xs):∀{i:Nat} {e:List Int×Addr×V},es[i]?=some e->∃x,xs[i]?=some x/\e.2.1=x.2.1/\RelV e.2.2 x.2.2:=by
 induction r with
 | nil=>intro i e h;simp at h
 | @cons p q ps qs h t ih=>
  intro i e he
  cases i with
  | zero=>simp at he;subst he;exact ⟨q,rfl,h.2.1,h.2.2⟩
  | succ i=>simpa using ih (by simpa using he)
theorem nF {P:G2} {w:HJ} {elts:List Expr} {x1} {tp:Pos} (it d:Addr) (ob:Obj) (es:List (List Int×Addr×V)) (ds:Array KC) (ep:Nat) (hob:ob.data=.dict ds ep) :
  Turn P w K (.Tuple elts x1 tp) (Iti d ob es) [it] it (fun i h=>∃ok ov,Kc h it d i ds.size ep ok ov) where
 mem:=by simp
 obj:=fun i h zq1 b hb=>by
  obtain ⟨ok,ov,st⟩:=zq1
  have e:b=it:=by simpa using hb
  subst e
  exact ⟨_,st,fun v z=>by
   have z':Data.fields _=Data.cell v:=z
   cases z'⟩
 keep:=fun i h h' zt1 k=>by obtain ⟨ok,ov,st⟩:=zt1;exact ⟨ok,ov,k it (by simp) _ st⟩
 item:=by
  rintro X hP hw hK hc i pins s σ H E I hf ⟨ok,ov,st⟩ ⟨hd,hi⟩
  subst hP hw hK
  obtain ⟨f0,f1,f2,f3,f4,f5⟩:=hf it (by simp)
  obtain ⟨⟨z,m,nd,xs,ev,o,ds',ep',g1,g2,g3,g4⟩,g5⟩:=ig I hd
  rw [g5] at g1;cases g1
  rw [hob] at g3;cases g3
  obtain ⟨e,he⟩:∃e,es[i]?=some e:=⟨_,Gr hi⟩
  obtain ⟨x,hx,ek,rv⟩:=ev.pick he
  have hxl:i < xs.length:=by have:=IM ev;lia
  have hds:ds.size=xs.length:=by have:=congrArg IS g4;simpa using this
  have hent:ds[i]'(by lia)=AC x:=by
   have h1:ds.toList[i]?=some (AC x):=by rw [g4,GH,hx];rfl
   rw [Ii,K8 (by lia)] at h1
   exact GP h1
  refine uh st g5 hob (by lia) fun h' a1 a2 a3 a4=>⟨_,rfl,wpAny_letOwnedTupleGo_items (s:={ s with heap:=h' }) a1 fun h2 b1 b2=>?_⟩
  have hb2:∀b u,b≠it->h'.get? b=some u->h2.get? b=some u:=fun b u hn q=>(b2.2 b hn).trans q
  have I2:Inv X pins σ H { s with heap:=h2 }:=I.turned (t':=s.toks) (fun b o hb q=>hb2 b o hb (a4 b o hb q)) f0 f1 f3 f4 f5
  have np:H s.heap.objs.size=none:=I.hok.fresh (Gz _)
  obtain ⟨_,p1,_,p3,p4,p5⟩:=I.fpOk (H':=H) (b:=s.heap.objs.size) (Gz _) np
  have nit:s.heap.objs.size≠it:=Nf (GI st)
  have tup:=hb2 _ _ nit a2
  rw [hent] at tup
  refine ⟨.ref s.heap.objs.size,upd H s.heap.objs.size (.tup [.ref e.2.1,e.2.2]),I2.track np I.sz p1 p4 p5 ⟨by rw [Hv];exact GW rfl,[.ref x.2.1,x.2.2],.cons (by rw [ek];rfl) (.cons rv .nil),⟨_,tup,rfl,_,rfl⟩⟩,rfl,⟨_,e,he,np,rfl,rfl⟩,⟨_,_,b1⟩,fun b hb=>?_⟩
  have e':b=it:=by simpa using hb
  subst e'
  rw [aB nit.symm];exact f0
 done:=by
  rintro X hP hw hK hc i pins s σ H E I hf ⟨ok,ov,st⟩ ⟨hd,hi⟩
  subst hP hw hK
  obtain ⟨f0,f1,f2,f3,f4,f5⟩:=hf it (by simp)
  obtain ⟨⟨z,m,nd,xs,ev,o,ds',ep',g1,g2,g3,g4⟩,g5⟩:=ig I hd
  rw [g5] at g1;cases g1
  rw [hob] at g3;cases g3
  have hds:ds.size=xs.length:=by have:=congrArg IS g4;simpa using this
  have:=IM ev
  exact xJ (I.ok.hd hc) st g5 hob (by lia) fun h' eb=>⟨rfl,I.turned (t':=s.toks) (fun b o hb e=>eb b o hb e) f0 f1 f3 f4 f5⟩
 self:=fun _ _ _ _ _ zt1 h=>by obtain ⟨ok,ov,st⟩:=zt1;exact uk st h
section
variable {X:Cx}
noncomputable def um (to:TE):TI:=fun σ H R=>to σ H fun x H1=>∃d ob es,x=.ref d/\H1 d=some (bS d ob es)/\R (Iti d ob es) H1
theorem uo {o:Expr} {to:TE} {apos cpos tp:Pos} {elts:List Expr} {x1} (ho:PE X o to) (hbase:Kr o "items" X.env (eval o X.env)=eval o X.env:=by rfl)
  (hline:(apos.endLine==cpos.line)=true:=by rfl):PI X (.Tuple elts x1 tp) (.Call (.Attribute o "items" apos) [] [] cpos) (um to):=by
 intro pins s σ H R I h
 refine wpAny_Call_method0_late hbase hline (thn (ho pins s σ H _ I h) fun v s1 zr1=>?_)
 obtain ⟨x,H1,I1,r1,d,ob,es,hx,hd,q1⟩:=zr1
 subst hx
 cases r1
 obtain ⟨⟨z,m,nd,xs,ev,o',ds,ep,g1,g2,g3,g4⟩,g5⟩:=ig I1 hd
 rw [g5] at g1;cases g1
 refine ⟨"dict","dict.items",PySem.F.plainAttrs_dict,PySem.F.slot_dict_items,PySem.F.type_dict_items,⟨_,g5,g2.1⟩,fun b e=>by cases e;exact ⟨_,g5,g2.2.1⟩,?_⟩
 refine LD rfl (PySem.evalArgs_none (ui ⟨_,g5,g2.1⟩ m ?_))
 have I2:Inv X pins σ H1 { s1 with heap:=s1.heap.push { cls:=.type "dict_items",data:=.fields #[.ref d] } }:=I1.kept (t':=s1.toks) fun b u q=>Gu _ q
 refine uj (s:={ s1 with heap:=s1.heap.push { cls:=.type "dict_items",data:=.fields #[.ref d] } }) ⟨_,GQ _ rfl,rfl,rfl⟩ (Gu _ g5) g3 ?_
 refine ⟨(s1.heap.push { cls:=.type "dict_items",data:=.fields #[.ref d] }).objs.size,[(s1.heap.push { cls:=.type "dict_items",data:=.fields #[.ref d] }).objs.size],_,_,H1,rfl,I2.kept (t':=s1.toks) fun b u q=>Gu _ q,nF _ d ob es ds ep g3,⟨_,_,GQ _ rfl⟩,fun b hb=>?_,q1⟩
 have e:b=(s1.heap.push { cls:=.type "dict_items",data:=.fields #[.ref d] }).objs.size:=by simpa using hb
 subst e
 exact I2.fpOk (Gz _) (I2.hok.fresh (Gz _))
end
end L2
namespace VL
open PySem L2
section
variable {K:Gn} {X:Cx} {e o:Expr} {te:TE} {va:VT} {pos apos tp:Pos}
noncomputable def itD (kvs:List (List Int×D)):List D:=kvs.map fun x=>.tup [kT x.1,x.2]
noncomputable def uq (va:VT):VTN:=fun S Q=>va S fun r S1=>∃kvs,r=.d (dc kvs)/\Q (itD kvs) S1
theorem ur {elts:List Expr} {x1} (h:VE K X false o te va) (hbase:Kr o "items" X.env (eval o X.env)=eval o X.env:=by rfl) (hline:(apos.endLine==pos.line)=true:=by rfl) :
  VI K X (.Tuple elts x1 tp) (.Call (.Attribute o "items" apos) [] [] pos) (um te) (uq va):=⟨uo h.pe hbase hline,fun H0 Z σ H S Q C k t hc=>h.snd H0 Z σ H S _ _ k t fun v H1 r S1 k1 st1 rr zq1=>by
 obtain ⟨kvs,er,q⟩:=zq1
 subst er
 have rr:Rep K _ _ H1 v (.dic (kvs.map (·.1)) (kvs.map (·.2))):=rr
 cases rr with
 | @dic a ob es _ _ n f hh ek rk r=>
 refine ⟨a,ob,es,rfl,hh,hc _ (itD kvs) H1 S1 k1 st1 (fun σ2 S2 H2 nm st2 i=>?_) q⟩
 obtain ⟨e1,n1⟩:=st2 a n (by rw [hh];exact fun z=>nomatch z)
 have hh2:H2 a=some (bS a ob es):=e1.trans hh
 have len:(itD kvs).length=es.length:=by have:=congrArg IS ek;simp [itD] at this ⊢;lia
 rw [len]
 refine ⟨fun hi=>⟨hh2,hi⟩,fun x H3 zr1 hi=>?_,fun hi=>⟨hh2,by lia⟩⟩
 obtain ⟨p,en,he,hp,hx,hH⟩:=zr1
 subst hx;subst hH
 have hg:∀b,H2 b≠none->upd H2 p (.tup [.ref en.2.1,en.2.2]) b=H2 b:=aI hp
 have rk2:=(rk.stp st2).mono (N':=NM Z σ2 S2) (F':=AnyF) (H':=upd H2 p (.tup [.ref en.2.1,en.2.2])) (fun b n z=>⟨n,hg b z⟩) fun _ _=>trivial
 have r2:=(r.stp st2).mono (N':=NM Z σ2 S2) (F':=AnyF) (H':=upd H2 p (.tup [.ref en.2.1,en.2.2])) (fun b n z=>⟨n,hg b z⟩) fun _ _=>trivial
 obtain ⟨dk,hk1,hk2⟩:=rk2.get (i:=i) (v:=.ref en.2.1) (by rw [GH,he];rfl)
 obtain ⟨dv,hv1,hv2⟩:=r2.get (i:=i) (v:=en.2.2) (by rw [GH,he];rfl)
 refine ⟨hg,.tup [dk,dv],?_,.tup ?_ (.inl ay) (.cons hk2 (.cons hv2 .nil))⟩
 ·rw [GH,GH] at hk1
  rw [GH] at hv1
  unfold itD
  rw [GH]
  cases hkv:kvs[i]? with
  | none=>rw [hkv] at hv1;cases hv1
  | some kv=>rw [hkv] at hv1 hk1;cases hv1;cases hk1;rfl
 ·exact nm p hp⟩
end
end VL
end
section
namespace L2
open PySem PySem.Spec PyProof.Rows
section
variable {X:Cx} {k1 k2 k3 e1 e2 e3 ie:Expr} {t1 t2 t3 ti:TE} {n1 n2 n3:Int} {j1 j2 j3:Nat} {p1 p2 p3 dpos pos:Pos}
noncomputable def EO (n1 n2 n3:Int) (t1 t2 t3 ti:TE):TE:=fun σ H Q=>t1 σ H fun v1 H1=>t2 σ H1 fun v2 H2=>t3 σ H2 fun v3 H3=>ti σ H3 fun y H4=>(y=.int n1/\Q v1 H4)\/(y=.int n2/\Q v2 H4)\/(y=.int n3/\Q v3 H4)
theorem fO {M:ND} {A:HQ} {E:Gs->Gv->Prop} {s:Gv} {m:Sem Gs} {q:Pos} {Q:Gs->Gv->Prop} (h:Hj M A m Q E s):Hj M A (do let x <- m;JA q;pure x) Q E s:=
 Gp (G9 h (fun _ _ z=>Gp (Il (GA z))) fun _ _ z=>z)
theorem B0 (hd:n1≠n2/\n1≠n3/\n2≠n3) (h1:PE X e1 t1) (h2:PE X e2 t2) (h3:PE X e3 t3) (hi:PE X ie ti) (hs:dR ie) :
  PE X (.Subscript (.Dict [some (.Constant (.int n1) j1 p1),some (.Constant (.int n2) j2 p2),some (.Constant (.int n3) j3 p3)] [e1,e2,e3] dpos) ie pos) (EO n1 n2 n3 t1 t2 t3 ti):=by
 intro pins s σ H Q I h
 have hb:Jo < s.heap.objs.size:=kA I
 have np:H s.heap.objs.size=none:=I.hok.fresh (Gz _)
 have I0:Inv X pins σ H { s with heap:=s.heap.push { cls:=.type "dict",data:=.dict #[] } }:=I.kept (t':=s.toks) fun b u q=>Gu _ q
 obtain ⟨_,f1,f2,f3,f4,f5⟩:=I.fpOk (H':=H) (b:=s.heap.objs.size) (Gz _) np
 have pin0:∀(ob:Obj),(∀v,ob.data≠.cell v)->∀{s':Gv} {H':Hp},Inv X pins σ H' s'->s'.heap.get? s.heap.objs.size=some ob->H' s.heap.objs.size=none->Inv X (pins++[(s.heap.objs.size,ob)]) σ H' s':=fun ob oc s' H' I' g gn=>I'.pins_of fun p hp=>by
  rcases List.mem_append.mp hp with hp | hp
  ·exact I'.pin p (Gq _ hp)
  ·cases List.mem_singleton.mp hp
   exact ⟨g,gn,f1,f2,oc⟩
 have I1:=pin0 { cls:=.type "dict",data:=.dict #[] } (fun v z=>by cases z) I0 (GQ _ rfl) np
 refine NI (wpAny_Dict_pairs (knd:=MN X.prog X.w) (pairs:=[(eval (.Constant (.int n1) j1 p1) X.env,do let x <- eval e1 X.env;JA dpos;pure x),(eval (.Constant (.int n2) j2 p2) X.env,do let x <- eval e2 X.env;JA dpos;pure x),(eval (.Constant (.int n3) j3 p3) X.env,do let x <- eval e3 X.env;JA dpos;pure x)]) rfl (by simp) (by simp) ?_)
 refine Mi (thn (iE _ _ σ H (fun v H'=>v=.int n1/\H'=H) I1 ⟨rfl,rfl⟩) fun a1 s1 ⟨w1,K1,I2,r1,hw1,hK1⟩=>fO (thn (h1 _ s1 σ H _ (hK1▸I2) h) fun b1 s2 zr1=>?_))
 obtain ⟨v1,H1,I3,rv1,q1⟩:=zr1
 refine Mi (thn (iE _ _ σ H1 (fun v H'=>v=.int n2/\H'=H1) I3 ⟨rfl,rfl⟩) fun a2 s3 ⟨w2,K2,I4,r2,hw2,hK2⟩=>fO (thn (h2 _ s3 σ H1 _ (hK2▸I4) q1) fun b2 s4 zr1=>?_))
 obtain ⟨v2,H2,I5,rv2,q2⟩:=zr1
 refine Mi (thn (iE _ _ σ H2 (fun v H'=>v=.int n3/\H'=H2) I5 ⟨rfl,rfl⟩) fun a3 s5 ⟨w3,K3,I6,r3,hw3,hK3⟩=>fO (thn (h3 _ s5 σ H2 _ (hK3▸I6) q2) fun b3 s6 ⟨v3,H3,I7,rv3,q3⟩=>evalPairs_nil ?_))
 subst hw1;subst hw2;subst hw3
 obtain ⟨u1,rfl⟩:=r1
 obtain ⟨u2,rfl⟩:=r2
 obtain ⟨u3,rfl⟩:=r3
 obtain ⟨g7,gn7,_⟩:=I7.pin (s.heap.objs.size,_) (Gq _ (Gq _ GG))
 refine ⟨[(n1,b1),(n2,b2),(n3,b3)],⟨M6 _ _ _ _,rfl,M6 _ _ _ _,rfl,M6 _ _ _ _,rfl,trivial⟩,⟨_,#[],0,g7,⟨rfl,rfl,rfl⟩,rfl,fun e he=>by simp at he,.nil,Kg⟩,fun h' D sb=>?_⟩
 have em:merged [] [(n1,b1),(n2,b2),(n3,b3)]=[(n1,b1),(n2,b2),(n3,b3)]:=by
  obtain ⟨d1,d2,d3⟩:=hd
  simp [merged,stored,d1,d2,d3]
 rw [em] at D
 have I8:Inv X pins σ H3 s6:=I7.unpinned
 have I9:Inv X pins σ H3 { s6 with heap:=h',toks:=s6.toks+[(Kz n1 u1,b1),(Kz n2 u2,b2),(Kz n3 u3,b3)].length }:=I8.turned (fun b o hn e=>(sb.2 b hn).trans e) gn7 f1 f3 f4 f5
 obtain ⟨ob,es,ep,go,gx,gd,gk,gp,gnn⟩:=id D
 have I10:=pin0 ob (fun v z=>by rw [gd] at z;cases z) I9 go gn7
 refine thn (hi _ _ σ H3 _ I10 q3) fun iv s7 zr1=>?_
 obtain ⟨y,H4,I11,ry,q4⟩:=zr1
 obtain ⟨g11,_⟩:=I11.pin (s.heap.objs.size,ob) (Gq _ (Gq _ GG))
 have I12:Inv X pins σ H4 s7:=I11.unpinned
 have D7:s7.heap.DictOf (MN X.prog X.w) s.heap.objs.size [(n1,b1),(n2,b2),(n3,b3)]:=⟨ob,es,ep,g11,gx,gd,gk,gp,gnn⟩
 have fin:∀(ve:Expr) (n:Int) (b:Gs) (v:V),RelV v b->y=.int n->MU [(n1,b1),(n2,b2),(n3,b3)] n=some b->Q v H4->Hj (Ha X.prog X.w) X.A (MD ve ie (.ref s.heap.objs.size) iv) (EP X pins σ Q) X.xe s7:=fun ve n b v rv hy hm q=>by
  subst hy
  obtain ⟨t,rfl⟩:=ry
  exact Nn D7.typeIs slot_dict_getitem.lookup (wpAny_getItem_of (k:=n) (M6 _ _ _ _) D7.mapOf hm ⟨v,H4,I12.tok _,rv,q⟩) (hs _ _)
 obtain ⟨d1,d2,d3⟩:=hd
 rcases q4 with ⟨hy,q⟩ | ⟨hy,q⟩ | ⟨hy,q⟩
 ·exact fin _ n1 b1 v1 rv1 hy (by simp [MU]) q
 ·exact fin _ n2 b2 v2 rv2 hy (by simp [MU,d1]) q
 ·exact fin _ n3 b3 v3 rv3 hy (by simp [MU,d2,d3]) q
end
end L2
namespace VL
open PySem L2
section
variable {K:Gn} {X:Cx} {m:Bool} {e o ie e1 e2 e3:Expr} {te ti t1 t2 t3:TE} {va vi v1 v2 v3:VT} {pos dpos p1 p2 p3:Pos} {n1 n2 n3:Int} {j1 j2 j3:Nat} {S:List Sl} {Q:VR->List Sl->Prop}
noncomputable def ER (n1 n2 n3:Int) (v1 v2 v3 vi:VT):VT:=fun S Q=>v1 S fun r1 S1=>v2 S1 fun r2 S2=>v3 S2 fun r3 S3=>vi S3 fun ri S4=>(ri=.d (.int n1)/\Q r1 S4)\/(ri=.d (.int n2)/\Q r2 S4)\/(ri=.d (.int n3)/\Q r3 S4)
theorem uu (hd:n1≠n2/\n1≠n3/\n2≠n3) (h1:VE K X m e1 t1 v1) (h2:VE K X m e2 t2 v2) (h3:VE K X m e3 t3 v3) (hi:VE K X false ie ti vi) (hs:dR ie) :
  VE K X m (.Subscript (.Dict [some (.Constant (.int n1) j1 p1),some (.Constant (.int n2) j2 p2),some (.Constant (.int n3) j3 p3)] [e1,e2,e3] dpos) ie pos) (EO n1 n2 n3 t1 t2 t3 ti) (ER n1 n2 n3 v1 v2 v3 vi):=
 ⟨B0 hd h1.pe h2.pe h3.pe hi.pe hs,fun H0 Z σ H S Q C k t hc=>h1.snd H0 Z σ H S _ _ k t fun x1 H1 r1 S1 k1 st1 rr1 t1=>h2.snd H0 Z σ H1 S1 _ _ k1 t1 fun x2 H2 r2 S2 k2 st2 rr2 t2=>h3.snd H0 Z σ H2 S2 _ _ k2 t2 fun x3 H3 r3 S3 k3 st3 rr3 t3=>
  hi.snd H0 Z σ H3 S3 _ _ k3 t3 fun y H4 ri S4 k4 st4 rri q=>by
   have stA:=((st1.trans st2).trans st3).trans st4
   rcases q with ⟨er,q⟩ | ⟨er,q⟩ | ⟨er,q⟩
   ·subst er;cases (show Rep K _ _ H4 y (.int n1) from rri)
    exact .inl ⟨rfl,hc _ H4 r1 S4 k4 stA (rr1.step ((st2.trans st3).trans st4)) q⟩
   ·subst er;cases (show Rep K _ _ H4 y (.int n2) from rri)
    exact .inr (.inl ⟨rfl,hc _ H4 r2 S4 k4 stA (rr2.step (st3.trans st4)) q⟩)
   ·subst er;cases (show Rep K _ _ H4 y (.int n3) from rri)
    exact .inr (.inr ⟨rfl,hc _ H4 r3 S4 k4 stA (rr3.step st4) q⟩)⟩
noncomputable def k3i (n1 n2 n3:Int) (r1 r2 r3:VR) (Q:VR->List Sl->Prop):VR->List Sl->Prop:=fun ri S4=>(ri=.d (.int n1)/\Q r1 S4)\/(ri=.d (.int n2)/\Q r2 S4)\/(ri=.d (.int n3)/\Q r3 S4)
noncomputable def k3c (n1 n2 n3:Int) (r1 r2:VR) (vi:VT) (Q:VR->List Sl->Prop):VR->List Sl->Prop:=fun r3 S3=>vi S3 (k3i n1 n2 n3 r1 r2 r3 Q)
noncomputable def k3b (n1 n2 n3:Int) (r1:VR) (v3 vi:VT) (Q:VR->List Sl->Prop):VR->List Sl->Prop:=fun r2 S2=>v3 S2 (k3c n1 n2 n3 r1 r2 vi Q)
noncomputable def k3a (n1 n2 n3:Int) (v2 v3 vi:VT) (Q:VR->List Sl->Prop):VR->List Sl->Prop:=fun r1 S1=>v2 S1 (k3b n1 n2 n3 r1 v3 vi Q)
theorem ES (h:v1 S (k3a n1 n2 n3 v2 v3 vi Q)):ER n1 n2 n3 v1 v2 v3 vi S Q:=h
theorem ET (h:v2 S (k3b n1 n2 n3 r v3 vi Q)):k3a n1 n2 n3 v2 v3 vi Q r S:=h
theorem EU {r r':VR} (h:v3 S (k3c n1 n2 n3 r' r vi Q)):k3b n1 n2 n3 r' v3 vi Q r S:=h
theorem EW {r r' r'':VR} (h:vi S (k3i n1 n2 n3 r'' r' r Q)):k3c n1 n2 n3 r'' r' vi Q r S:=h
theorem uv {r1 r2 r3:VR} (h:Q r1 S):k3i n1 n2 n3 r1 r2 r3 Q (.d (.int n1)) S:=.inl ⟨rfl,h⟩
theorem uw {r1 r2 r3:VR} (h:Q r2 S):k3i n1 n2 n3 r1 r2 r3 Q (.d (.int n2)) S:=.inr (.inl ⟨rfl,h⟩)
theorem ux {r1 r2 r3:VR} (h:Q r3 S):k3i n1 n2 n3 r1 r2 r3 Q (.d (.int n3)) S:=.inr (.inr ⟨rfl,h⟩)
end
end VL
end
section
namespace VL
open PySem L2
section
variable {K:Gn} {X:Cx} {m:Bool} {e:Expr} {es:List Expr} {tr:TA} {vr:VTA} {x:Str} {p0 p pos:Pos} {j k:Nat} {ps:List Str} {S:List Sl} {QN:List D->List Sl->Prop}
noncomputable def uy (vr:VTA):VTN:=fun S Q=>vr S fun rs S1=>∃r mss,rs=[r]/\get S1 r=some (eL mss)/\(∀ms∈mss,ms≠[])/\Q ((srt mss).map eT) S1
theorem gg (hK:X.K=K) (hex:X.ex=[]) (hg:Gl X "sorted") (hm:X.mg "sorted"=none) (hb:HP "sorted"=some (.builtin "sorted")) (ha:VA K X false [e] tr vr) (he:GM [e] X.env=[(false,eval e X.env)]:=by rfl) :
  VN K X (.Call (.Name "sorted" p) [e] [] pos) (tCB (uf K) tr) (uy vr):=
 ⟨by subst hK;exact eE nE hg hm hb ha.pe (by decide) (by decide) he rfl,fun H0 Z σ H S Q C k t hc=>ha.snd H0 Z σ H S _ _ k t fun vs H1 rs S1 k1 st1 rrs zq1=>by
  obtain ⟨r,mss,e1,e2,h1,q⟩:=zq1
  subst e1
  obtain ⟨v,rfl,rv⟩:=rrs.one
  obtain ⟨a,ys,rfl,hq,rr⟩:=rv.elems k1 e2
  obtain ⟨ps,rfl,ht,_⟩:=jD rr
  exact ⟨a,ps,mss,rfl,hq,ht,h1,fun l ps' hl ht'=>hc l _ _ H1 _ S1 k1 st1 hl (aI hl) ay (bT hl (fZ k1.tupN ht')) q⟩⟩
noncomputable def uz (QN:List D->List Sl->Prop):List VR->List Sl->Prop:=fun rs S1=>∃r mss,rs=[r]/\get S1 r=some (eL mss)/\(∀ms∈mss,ms≠[])/\QN ((srt mss).map eT) S1
theorem xK (h:vr S (uz QN)):uy vr S QN:=h
theorem gh (e:get S r=some (eL mss)) (h1:∀ms∈mss,ms≠[]) (h:QN ((srt mss).map eT) S):uz QN [r] S:=⟨r,mss,rfl,e,h1,h⟩
variable {va:VT}
noncomputable def uA (QN:List D->List Sl->Prop):VR->List Sl->Prop:=fun r S1=>∃kvs,r=.d (dc kvs)/\QN (itD kvs) S1
theorem xM (h:va S (uA QN)):uq va S QN:=h
theorem uB (h:QN (itD kvs) S):uA QN (.d (dc kvs)) S:=⟨kvs,rfl,h⟩
end
end VL
end
section
namespace L2
open PySem PySem.Spec PyProof.Rows
section
variable {X:Cx}
noncomputable def pG (K:Gn):V->V->Hp->VK->Prop:=fun x y H Q=>∃b a ms es v,y=.ref b/\x=.ref a/\SqN K H b ms/\(∃ob,H a=some (bS a ob es))/\b9 K H es/\atE es ms=some v/\Q v H
theorem pH (hu:X.A.units+64 < Jt):Al X (pG X.K):=by
 rintro pins s σ H o i ov iv Q I r1 r2 ⟨b,a,ms,es,v,ey,ex,h1,⟨ob,h2⟩,h3,hv,q⟩
 subst ex;subst ey
 cases r1;cases r2
 obtain ⟨z,m,nd,xs,ev,dd⟩:=iu I h2 h3
 have r:=ev.at_ ms
 rw [hv] at r
 cases h5:NT xs ms with
 | none=>rw [h5] at r;exact r.elim
 | some p=>
  rw [h5] at r
  exact wpAny_getItem_heap (JT (by lia)) (di I h1) dd h5 ⟨v,H,I.tok _,r,q⟩
noncomputable def zx (K:Gn):pY:=fun x y v H Q=>∃a b ms es,x=.ref a/\y=.ref b/\SqN K H b ms/\(∃ob,H a=some (bS a ob es))/\b9 K H es/\es.length < GZ/\∀ob,Q (upd H a (bS a ob (cX es ms b v)))
theorem qH (hu:X.A.units+64 < Jt):vQ X (zx X.K):=by
 rintro pins s σ H o i v ov iv u Q I r1 r2 r3 ⟨a,b,ms,es,ex,ey,h1,⟨ob,h2⟩,h3,hl,q⟩
 subst ex;subst ey
 cases r1;cases r2
 exact tG (by lia) I h1 h2 h3 hl r3 fun ob s4 I4=>⟨_,I4,q ob⟩
end
end L2
namespace VL
open PySem L2
section
variable {K:Gn} {X:Cx} {o ie:Expr} {ti:TE} {vi:VT} {pos posS pc:Pos} {n:Int} {j:Nat}
noncomputable def zy (i:Nat) (n:Int) (vi:VT):VTS:=fun V S=>(∃kvs,S[i]?=some (od kvs))/\vi S fun rk S1=>∃kvs ms x,S1[i]?=some (od kvs)/\get S1 rk=some (kT ms)/\kvs.length<=1000000/\fx kvs ms=some (.int x)/\V.nx (S1.set i (od (ba kvs ms (.int (x+n)))))
theorem xN (i:Nat) (hK:X.K=K) (hu:X.A.units+64 < Jt) (ho:PE X o (bZ i)) (hi:VE K X false ie ti vi)
  (ha:∀ov iv new,augStore ie ov iv new=(do Jj [new,ov,iv] (MO ov iv new);NQ [new,ov,iv] [];pure .next):=by intros;rfl) :
  VS K X (.AugAssign (.Subscript o ie posS) .Add (.Constant (.int n) j pc) pos) (rm (bZ i) ti (tC (.int n)) (pG K) (ipI fun i j=>i+j) (zx K)) (zy i n vi):=
 ⟨by subst hK;exact nY ho hi.pe (pH hu) iE rn (qH hu) ha,fun H0 Z σ H S V E k zq1 l=>by
  obtain ⟨⟨kvs0,e0⟩,t⟩:=zq1
  obtain ⟨o1,g1,p,es0,rfl,⟨ob0,ha0⟩,_⟩:=k.ownAt e0
  refine ⟨.ref p,g1,hi.snd H0 Z σ H S _ _ k t fun y H2 rk S2 k2 st2 rr2 zr1=>?_⟩
  obtain ⟨kvs,ms,x,e1,ek,hl,ex,q⟩:=zr1
  obtain ⟨o2,g2,p',es,e2,⟨ob,h2⟩,h3,⟨h4,h5⟩,h6⟩:=k2.ownAt e1
  rw [g1] at g2;cases g2;cases e2
  obtain ⟨b,rfl,hq,rb⟩:=nv rr2 ek
  have hka:b9 K H2 es:=bX (by rw [h4];exact h5)
  have hle:es.length=kvs.length:=by have:=congrArg IS h4;simpa using this
  rcases kG (k:=ms) h4 h6 with ⟨_,z2⟩ | ⟨v',d,z1,z2,r⟩
  ·rw [ex] at z2;cases z2
  rw [ex] at z2;cases z2
  cases r
  refine ⟨b,p,ms,es,.int x,rfl,rfl,SqN.of hq,⟨ob,h2⟩,hka,z1,?_⟩
  refine ⟨x,n,rfl,rfl,p,b,ms,es,rfl,rfl,SqN.of hq,⟨ob,h2⟩,hka,by rw [Hv];lia,fun obn=>?_⟩
  have na:NM Z σ S2 p->False:=fun n=>n (.inl ⟨i,_,e1,rfl,g1⟩)
  have hm':∀c,NM Z σ S2 c->H2 c≠none->NM Z σ S2 c/\upd H2 p (bS p obn (cX es ms b (.int (x+n)))) c=H2 c:=fun c n _=>⟨n,aB fun z=>na (by rw [<- z];exact n)⟩
  obtain ⟨y1,y2,y3⟩:=f9 (k:=ms) (b:=b) (v:=.int (x+n)) (d:=.int (x+n)) (Rep.int _) (Rep.mono hm' (fun _ x=>x) rb) h4 (h5.mono hm' fun _ x=>x) (h6.mono hm' fun _ x=>x)
  obtain ⟨k3,st3⟩:=k2.chgD (s:=od (ba kvs ms (.int (x+n)))) (o:=bS p obn (cX es ms b (.int (x+n)))) e1 rfl g1 rfl ⟨p,_,rfl,⟨obn,ay⟩,h3,⟨y1,y2⟩,y3⟩
  exact l.nx _ _ _ k3 (st2.trans st3) q⟩
noncomputable def zz (i:Nat) (n:Int) (V:aT):VR->List Sl->Prop:=fun rk S1=>∃kvs ms x,S1[i]?=some (od kvs)/\get S1 rk=some (kT ms)/\kvs.length<=1000000/\fx kvs ms=some (.int x)/\V.nx (S1.set i (od (ba kvs ms (.int (x+n)))))
theorem B1 {i:Nat} {V:aT} (e:S[i]?=some (od kvs)) (h:vi S (zz i n V)):zy i n vi V S:=⟨⟨kvs,e⟩,h⟩
theorem xO {i:Nat} {V:aT} {rk:VR} {x:Int} (e:S[i]?=some (od kvs)) (ek:get S rk=some (kT ms)) (hl:kvs.length<=1000000) (ex:fx kvs ms=some (.int x)) (h:V.nx (S.set i (od (ba kvs ms (.int (x+n)))))):zz i n V rk S:=⟨kvs,ms,x,e,ek,hl,ex,h⟩
end
end VL
end
section
namespace L2
open PySem PySem.Spec PyProof.Rows PySem.W
noncomputable abbrev twoD (kx vx t1 i1 t2 i2:Expr) (f1 f2:List Expr) (scope:Jz) (pos:Pos):Expr:=.DictComp kx vx [⟨t1,i1,f1,0⟩,⟨t2,i2,f2,0⟩] scope pos
section
variable {kx vx t1 i1 t2 i2:Expr} {f1 f2:List Expr} {scope:Jz} {pos:Pos}
theorem uC (it:Gs) (D:Addr) (env:Env):MF (twoD kx vx t1 i1 t2 i2 f1 f2 scope pos) 1 it (.ref D) env=(do { JA i2.pos;match <- Ma it with | none=>pure (.done .next) | some v=>(do { JL t2 it v;Kn t2 env v;let mut ok:=true;for c in f2 do { if ok then { ok <- Nd c env (eval c env) } };if ok then { (do { let kv <- eval kx env;let vv <- Jj [kv] (eval vx env);JA { kx.pos with endLine:=vx.pos.endLine,endCol:=vx.pos.endCol };Jj [kv,vv] (dictSet D kv vv) }) };again (.compLoop (twoD kx vx t1 i1 t2 i2 f1 f2 scope pos) 1 it (.ref D) env) }) }):=by rfl
theorem qI (it acc:Gs) (env:Env):MF (twoD kx vx t1 i1 t2 i2 f1 f2 scope pos) 0 it acc env=(do { JA i1.pos;match <- Ma it with | none=>pure (.done .next) | some v=>(do { JL t1 it v;Kn t1 env v;let mut ok:=true;for c in f1 do { if ok then { ok <- Nd c env (eval c env) } };if ok then { let x <- eval i2 env;JA i2.pos;let x <- G7 i2 env x;let _ <- runOwn (.compStart (twoD kx vx t1 i1 t2 i2 f1 f2 scope pos) 1 (<- Jj [x] (Nr x)) acc env) env };again (.compLoop (twoD kx vx t1 i1 t2 i2 f1 f2 scope pos) 0 it acc env) }) }):=by rfl
theorem qJ {P:G2} {w:HJ} {A:HQ} {R:NS->Gv->Prop} {s:Gv} {it acc:Gs} {env:Env} (h0:JB (Ha P w) A (.compLoop (twoD kx vx t1 i1 t2 i2 f1 f2 scope pos) 1 it acc env) R s)
  (h:Hj (Ha P w) A (Nr it) (fun y s'=>JB (Ha P w) A (.compLoop (twoD kx vx t1 i1 t2 i2 f1 f2 scope pos) 1 y acc env) R s') (notedBy (Ha P w) A env fun x s'=>R (.error x) s') s) :
  JB (Ha P w) A (.compStart (twoD kx vx t1 i1 t2 i2 f1 f2 scope pos) 1 it acc env) R s:=by
 refine codeAny_of_tree (wpAny_notedAt (m:=compStart (twoD kx vx t1 i1 t2 i2 f1 f2 scope pos) 1 it acc env) ?_)
 unfold compStart
 refine (show Hj _ _ (ask >>= _) _ _ s from Gp (wpAny_askSetting (wpAny_ite ?_)))
 split
 ·exact GA ⟨rfl,h0⟩
 ·exact Gp (Ka (Gp (m:=JA i2.pos) (Il (Gp (G9 h (fun y s' q=>GA ⟨rfl,q⟩) fun _ _ x=>x)))))
noncomputable def tInD (K:Gn) (wi:TI) (g:TG) (tc:TT) (tk tv:TE) (σ:St) (es:List (List Int×Addr×V)) (Nx:List (List Int×Addr×V)->Hp->Prop) (H:Hp):Prop:=wi σ H fun J H1=>∃W:Nat->Nat->List (List Int×Addr×V)->Hp->Prop,(∃m,W 0 m es H1)/\∀j m zs H2,W j m zs H2 ->
 (J.stop j H2/\Nx zs H2)\/(J.go j H2/\zs.length < GZ/\∃N2:List (List Int×Addr×V)->Hp->Prop,(∀zs' H',N2 zs' H'->∃m',m' < m/\W (j+1) m' zs' H') /\
  ∀x H3,J.yld j H2 x H3->g x σ H3 fun σ4 H4=>tc σ4 H4 fun b H5=>if b=true then tk σ4 H5 fun y H6=>tv σ4 H6 fun v H7=>∃b ms,y=.ref b/\SqN K H7 b ms/\b9 K H7 zs/\N2 (cX zs ms b v) H7 else N2 zs H5)
theorem uD {Y:Cx} {wi:TI} {g:TG} {tc:TT} {tk tv:TE} {s:Gv} {D:Addr} {ob:Obj} {Nx:List (List Int×Addr×V)->Hp->Prop} (hu:Y.A.units+64 < Jt) (hcalm:Y.calm=true) (hxe:∀e s,¬Y.xe e s)
  (hi:PI Y t2 i2 wi) (hg:PG Y t2 g) (hc:PTs Y f2 tc) (hk:PE Y kx tk) (hv:PE Y vx tv) (kg:tY σ g) (I:Inv Y pins σ H s) (dL:D≠Y.env.locals) (dF:D∉Y.fs) (dS:Y.s₀.heap.objs.size<=D) (dC:∀x c,Y.env.cells.lookup x=some c->c≠D)
  (dP:∀p∈Y.pn++pins,p.1≠D) (dn:H D=none) (dg:s.heap.get? D=some ob) (vy:DctP D es s.heap) (h:tInD Y.K wi g tc tk tv σ es Nx H) (hs:∀x,G7 i2 Y.env x=pure x) {α:Type} {r:Sem α} {Q:α->Gv->Prop} {E:Gs->Gv->Prop}
  (fin:∀s' es' o' H',Inv Y pins σ H' s'->H' D=none->s'.heap.get? D=some o'->DctP D es' s'.heap->Nx es' H'->Hj (Ha Y.prog Y.w) Y.A r Q E s') :
  Hj (Ha Y.prog Y.w) Y.A (do { let x <- eval i2 Y.env;JA i2.pos;let x <- G7 i2 Y.env x;let _ <- runOwn (.compStart (twoD kx vx t1 i1 t2 i2 f1 f2 scope pos) 1 (<- Jj [x] (Nr x)) (.ref D) Y.env) Y.env;r }) Q E s:=by
 have pinD:∀{H':Hp} {s':Gv} {o':Obj} {es':List (List Int×Addr×V)},Inv Y pins σ H' s'->H' D=none->s'.heap.get? D=some o'->DctP D es' s'.heap->Inv Y (pins++[(D,o')]) σ H' s':=fun I' n' g' p'=>I'.pins_of fun p hp=>by
  rcases List.mem_append.mp hp with hp | hp
  ·exact I'.pin p (Gq _ hp)
  ·rw [List.mem_singleton.mp hp];exact ⟨g',n',dL,dF,p'.nocell g'⟩
 refine Gp (G9 (hi _ s σ H _ (pinD I dn dg vy) h) (fun v s1 h1=>?_) fun e s z=>(hxe e s z).elim)
 refine Gp (Il ?_)
 rw [hs]
 refine Gp (GA (Gp (Hx (G9 h1 (fun itv s2 h2=>?_) fun e s z=>(hxe e s z).elim))))
 obtain ⟨it,fp,tn,J,H2,rfl,I2,T,st2,f2',W,⟨m0,w0⟩,turn⟩:=h2
 have Dfp:D∉fp:=fun z=>(f2' D z).2.2.2.2.2 (D,ob) (Gq _ (Gq _ GG)) rfl
 have stat:∀{H':Hp} {o':Obj},(∀b∈fp,H' b=none)->∀b∈fp,gY Y (pins++[(D,o')]) H' b:=fun hn b hb=>by
  obtain ⟨_,a1,a2,a3,a4,a5⟩:=f2' b hb
  refine ⟨hn b hb,a1,a2,a3,a4,fun p hp z=>?_⟩
  rcases List.mem_append.mp hp with hp | hp
  ·exact a5 p (Hh _ hp) z
  ·rcases List.mem_append.mp hp with hp | hp
   ·exact a5 p (Gq _ (Hh _ hp)) z
   ·rw [List.mem_singleton.mp hp] at z;have z:D=b:=z;exact Dfp (z▸hb)
 have d2:=I2.pin (D,ob) (Gq _ (Gq _ GG))
 have loop:JB (Ha Y.prog Y.w) Y.A (.compLoop (twoD kx vx t1 i1 t2 i2 f1 f2 scope pos) 1 (.ref it) (.ref D) Y.env) (fun res s'=>match res with | .ok _=>Hj (Ha Y.prog Y.w) Y.A r Q E s' | .error e=>cameBackBy (Ha Y.prog Y.w) Y.A Y.env E e s') s2:=by
  refine LN rfl (fun n s'=>∃j zs o H',Inv Y pins σ H' s'/\tn j s'.heap/\(∀b∈fp,H' b=none)/\H' D=none/\s'.heap.get? D=some o/\DctP D zs s'.heap/\W j n zs H') ?_ m0 ⟨0,es,ob,H2,I2.unpinned,st2,fun b hb=>(f2' b hb).1,d2.2.1,d2.1,vy.at (d2.1.trans dg.symm),w0⟩
  rintro n s5 ⟨j,zs,ob5,H5,I5,st5,fr5,d5,o5,v5,w5⟩
  refine Ml (m:=MF (twoD kx vx t1 i1 t2 i2 f1 f2 scope pos) 1 (.ref it) (.ref D) Y.env) ?_
  rw [uC]
  have pin0:=pinD I5 d5 o5 v5
  refine Gp (Il (Gp ?_))
  rcases turn j n zs H5 w5 with ⟨stop,qn⟩ | ⟨go,hz,N2,hN,step⟩
  ·refine thn (T.done Y rfl rfl rfl hcalm j _ s5 _ H5 _ pin0 (stat fr5) st5 stop) fun r s6 zr1=>?_
   obtain ⟨hr,I6⟩:=zr1
   subst hr
   have d6:=I6.pin (D,ob5) (Gq _ (Gq _ GG))
   exact GA (fin s6 zs ob5 H5 I6.unpinned d5 d6.1 (v5.at (d6.1.trans o5.symm)) qn)
  ·refine thn (T.item Y rfl rfl rfl hcalm j _ s5 _ H5 _ pin0 (stat fr5) st5 go) fun r s6 zr1=>?_
   obtain ⟨u,hr,h6⟩:=zr1
   subst hr
   refine Gp (thn h6 fun _ s7 zr1=>?_)
   obtain ⟨x,H7,I7,r7,y7,st7,fr7⟩:=zr1
   have I7':=I7.pinned (stat fr7) (T.obj _ _ st7)
   have pinsOf:∀{σ':St} {H':Hp} {s':Gv},Inv Y ((pins++[(D,ob5)])++dt fp s7.heap) σ' H' s' ->
     (∀b∈fp,∀o,s7.heap.get? b=some o->s'.heap.get? b=some o)/\(∀b∈fp,H' b=none)/\H' D=none/\s'.heap.get? D=some ob5:=by
    intro σ' H' s' I'
    have dd:=I'.pin (D,ob5) (Gq _ (Hh _ (Gq _ GG)))
    refine ⟨fun b hb o e=>(I'.pin (b,o) (Gq _ (Gq _ (bq hb e)))).1,fun b hb=>?_,dd.2.1,dd.1⟩
    obtain ⟨o,e,d⟩:=T.obj _ _ st7 b hb
    exact (I'.pin (b,o) (Gq _ (Gq _ (bq hb e)))).2.1
   have again:∀{σ2:St} {H8:Hp} {s8:Gv} {zs':List (List Int×Addr×V)} {o':Obj},Inv Y pins σ2 H8 s8->(σ2.length=σ.length/\∀(i:Nat) (v:V),σ[i]?=some (some v)->σ2[i]?=some (some v))->(∀b∈fp,∀o,s7.heap.get? b=some o->s8.heap.get? b=some o)->(∀b∈fp,H8 b=none) ->
     H8 D=none->s8.heap.get? D=some o'->DctP D zs' s8.heap->N2 zs' H8->∃m,m < n/\∃j zs o H',Inv Y pins σ H' s8/\tn j s8.heap/\(∀b∈fp,H' b=none)/\H' D=none/\s8.heap.get? D=some o/\DctP D zs s8.heap/\W j m zs H':=by
    intro σ2 H8 s8 zs' o' I8 kp fk fn dn' dg' vv nx
    obtain ⟨m',hm,w8⟩:=hN zs' H8 nx
    exact ⟨m',hm,j+1,zs',o',H8,I8.weak kp.1.symm kp.2,T.keep _ _ _ st7 fk,fn,dn',dg',vv,w8⟩
   refine Gp (G9 (hg _ s7 _ H7 x u _ I7' r7 (kg x H7 _ (step x H7 y7))) (fun _ s8 zr1=>?_) fun e s z=>(hxe e s z).elim)
   obtain ⟨σ8,H8,I8,kp8,q8⟩:=zr1
   refine Gp (G9 (hc _ s8 σ8 H8 _ I8 q8) (fun ok s9 zr1=>?_) fun e s z=>(hxe e s z).elim)
   obtain ⟨H9,I9,q9⟩:=zr1
   cases ok with
   | false=>
    obtain ⟨p1,p2,p3,p4⟩:=pinsOf I9
    exact GA ⟨rfl,again I9.unpinned.unpinned kp8 p1 p2 p3 p4 (v5.at (p4.trans o5.symm)) q9⟩
   | true=>
    have q9:tk σ8 H9 fun y H6=>tv σ8 H6 fun v H7=>∃b ms,y=.ref b/\SqN Y.K H7 b ms/\b9 Y.K H7 zs/\N2 (cX zs ms b v) H7:=q9
    refine Gp (Gp (G9 (hk _ s9 σ8 H9 _ I9 q9) (fun kv s10 zr1=>?_) fun e s z=>(hxe e s z).elim))
    obtain ⟨y,H10,I10,ry,q10⟩:=zr1
    refine Gp (Hx (G9 (hv _ s10 σ8 H10 _ I10 q10) (fun vv s11 zr1=>?_) fun e s z=>(hxe e s z).elim))
    obtain ⟨v,H11,I11,rv,b,ms,ey,sq,ka,nx⟩:=zr1
    subst ey
    cases ry
    obtain ⟨p1,p2,p3,p4⟩:=pinsOf I11
    obtain ⟨z,m,nd,xs,ev,dd⟩:=pA I11 (v5.at (p4.trans o5.symm)) ka
    refine Gp (Il (Hx (MG (hsz:=by rw [<- IM ev];exact z) (show (KA (KT.numKind Y.prog Y.w)).room Y.A from by show Y.A.units < Jt;lia) (di I11 sq) dd fun h' dd' hs'=>?_)))
    have I13:Inv Y pins σ8 H11 { s11 with heap:=h',toks:=s11.toks+(KA (KT.numKind Y.prog Y.w)).draws ms }:=I11.unpinned.unpinned.turned (fun b o hb e=>(hs'.2 b hb).trans e) p3 dL (.inr dS) dC dP
    obtain ⟨qo,qd,qe,h1q,h2q,h3q,h4q,_,h5q⟩:=dd'
    refine GA ⟨rfl,again I13 kp8 (fun b hb o e=>(hs'.2 b (fun z:b=D=>Dfp (z▸hb))).trans (p1 b hb o e)) p2 p3 h1q ⟨?_,m,?_,_,ev.put ms rv,qo,qd,qe,h1q,h2q,h3q,h4q⟩ nx⟩
    ·have:=eP zs ms b v;lia
    ·rw [(ev.put ms rv).keys];exact h5q
 refine Gp (wpAny_runOwn (qJ (A:=Y.A) loop (T.self _ 0 _ _ _ st2 loop)))
end
section
variable {X:Cx}
noncomputable def kL (K:Gn) (wi:TI) (n:Nat) (ix:List Nat) (g:TG) (tc:TT) (wi2:TI) (g2:TG) (tc2:TT) (tk tv:TE):TE:=fun σ H Q=>wi σ H fun J H1=>∃W:Nat->Nat->List (List Int×Addr×V)->Hp->Prop,(∃m,W 0 m [] H1)/\∀i m es H2,W i m es H2 ->
 (J.stop i H2/\∀D ob,H2 D=none->Q (.ref D) (upd H2 D (bS D ob es))) \/
 (J.go i H2/\∃Nx:List (List Int×Addr×V)->Hp->Prop,(∀es' H',Nx es' H'->∃m',m' < m/\W (i+1) m' es' H') /\
  ∀x H3,J.yld i H2 x H3->g x (capt n ix σ) H3 fun σ2 H4=>tc σ2 H4 fun b H5=>if b=true then tInD K wi2 g2 tc2 tk tv σ2 es Nx H5 else Nx es H5)
end
end L2
end
section
namespace VL
open PySem L2 PySem.W
section
variable {K:Gn} {X:Cx} {kx vx t1 i1 t2 i2:Expr} {f1 f2:List Expr} {scope:Jz} {pos:Pos}
structure DRep (K:Gn) (H0:Hp) (N:AP) (H:Hp) (es:List (List Int×Addr×V)) (kvs:List (List Int×D)):Prop where
 ek:es.map (·.1)=kvs.map (·.1)
 rk:Reps K N AnyF H (es.map fun x=>V.ref x.2.1) ((kvs.map (·.1)).map kT)
 rz:Reps K N (Fr H0) H (es.map (·.2.2)) (kvs.map (·.2))
theorem DRep.mono {H0 H H':Hp} {N N':AP} (h:DRep K H0 N H es kvs) (hm:∀a,N a->H a≠none->N' a/\H' a=H a):DRep K H0 N' H' es kvs:=⟨h.ek,h.rk.mono hm fun _ x=>x,h.rz.mono hm fun _ x=>x⟩
theorem DRep.step {H0 H H':Hp} {σ σ':St} {S S':List Sl} (h:DRep K H0 (NM Z σ S) H es kvs) (st:Step Z σ S H σ' S' H'):DRep K H0 (NM Z σ' S') H' es kvs:=⟨h.ek,h.rk.step st,h.rz.step st⟩
noncomputable def kM (vi:VTN) (n:Nat) (ix:List Nat) (vg:VG) (vt:VTT) (vi2:VTN) (vg2:VG) (vt2:VTT) (vk vv:VT):VTD:=fun S Q=>vi S fun ds S1=>ds.length<=16000/\∃Iv:Nat->List (List Int×D)->List Sl->Prop,Iv 0 [] S1 /\
 (∀i d ys S2,ds[i]?=some d->Iv i ys S2->vg d (bz n ix S2) fun S3=>vt S3 fun b S4=>if b=true then (vi2 S4 fun es S5=>es.length<=1000/\∃Jv:Nat->List (List Int×D)->List Sl->Prop,Jv 0 ys S5 /\
  (∀j e zs S6,es[j]?=some e->Jv j zs S6->vg2 e S6 fun S7=>vt2 S7 fun b2 S8=>if b2=true then vk S8 fun rk S9=>vv S9 fun rv S10=>∃ms x,get S10 rk=some (kT ms)/\rv=.d x/\Jv (j+1) (ba zs ms x) (msk S6 S10) else Jv (j+1) zs (msk S6 S8))/\∀zs S6,Jv es.length zs S6->Iv (i+1) zs (backS n ix S2 S6))
  else Iv (i+1) ys (backS n ix S2 S4)) /\
 ∀ys S2,Iv ds.length ys S2->Q ys S2
theorem uE {tg cs:List Str} {wi wi2:TI} {vi vi2:VTN} {g g2:TG} {vg vg2:VG} {tc tc2:TT} {vt vt2:VTT} {tk tv:TE} {vk vv:VT} (hK:X.K=K) (hu:X.A.units+64 < Jt) (Sc:bf X scope tg cs ix) (hcalm:X.calm=true) (kg:kH tg.length ix g g2) (hnd:ix.Nodup)
  (hi:VI K X t1 i1 wi vi) (hg:∀C fp s H,VGe K (ao X scope (tg++cs) C fp s H) t1 g vg) (hc:∀C fp s H,VTs K (ao X scope (tg++cs) C fp s H) f1 tc vt) (hi2:∀C fp s H,VI K (ao X scope (tg++cs) C fp s H) t2 i2 wi2 vi2)
  (hg2:∀C fp s H,VGe K (ao X scope (tg++cs) C fp s H) t2 g2 vg2) (hc2:∀C fp s H,VTs K (ao X scope (tg++cs) C fp s H) f2 tc2 vt2) (hk:∀C fp s H,VE K (ao X scope (tg++cs) C fp s H) false kx tk vk) (hv:∀C fp s H,VE K (ao X scope (tg++cs) C fp s H) true vx tv vv):EC K (kL K wi tg.length ix g tc wi2 g2 tc2 tk tv) (kM vi tg.length ix vg vt vi2 vg2 vt2 vk vv):=by
 have sg:SndG K g vg:=(hg 0 [] X.s₀ (fun _=>none)).snd
 have sc:SndT K tc vt:=(hc 0 [] X.s₀ (fun _=>none)).snd
 have si2:SndI K wi2 vi2:=(hi2 0 [] X.s₀ (fun _=>none)).snd
 have sg2:SndG K g2 vg2:=(hg2 0 [] X.s₀ (fun _=>none)).snd
 have sc2:SndT K tc2 vt2:=(hc2 0 [] X.s₀ (fun _=>none)).snd
 have sk:SndE K false tk vk:=(hk 0 [] X.s₀ (fun _=>none)).snd
 have sv:SndE K true tv vv:=(hv 0 [] X.s₀ (fun _=>none)).snd
 have hsz:=Hv
 intro H0 Z σ H S Q C k t hq
 refine hi.snd H0 Z σ H S _ _ k t fun J ds H1 S1 k1 st1 gd zr1=>?_
 obtain ⟨hl,Iv,i0,hs,hd⟩:=zr1
 refine ⟨fun i m es H=>m=ds.length-i/\i<=ds.length/\es.length<=1000*i/\∃S2 kvs,OK K H0 Z σ H S2/\Step Z σ S1 H1 σ S2 H/\DRep K H0 (NM Z σ S2) H es kvs/\Iv i kvs S2,⟨ds.length,by simp,IG _,Gz _,S1,[],k1,.refl,⟨rfl,.nil,.nil⟩,i0⟩,?_⟩
 rintro i m es H2 ⟨rfl,hi,hy,S2,kvs,k2,st2,rz,p⟩
 obtain ⟨g1,g2',g3⟩:=gd σ S2 H2 (fun _=>k2.nm) st2.1 i
 by_cases hlt:i < ds.length
 ·refine .inr ⟨g1 hlt,fun es' H'=>es'.length<=1000*(i+1)/\∃S' kvs',OK K H0 Z σ H' S'/\Step Z σ S1 H1 σ S' H'/\DRep K H0 (NM Z σ S') H' es' kvs'/\Iv (i+1) kvs' S',fun es' H' zt1=>by obtain ⟨p1,p2⟩:=zt1;exact ⟨ds.length-(i+1),by lia,rfl,hlt,p1,p2⟩,fun x H3 y=>?_⟩
  obtain ⟨hgr,d,hd',rd⟩:=g2' x H3 y hlt
  replace k2:=k2.grow hgr
  replace st2:=st2.trans (.grow hgr)
  replace rz:=rz.step (.grow hgr)
  have kc:=k2.capt (n:=tg.length) hnd
  have rd':Rep K (NM (Zin Z ix σ S2) (L2.capt tg.length ix σ) (bz tg.length ix S2)) AnyF H3 x d:=rd.mono (fun a n _=>⟨fun z=>n (gJ.mp z),rfl⟩) fun _ x=>x
  have rzc:DRep K H0 (NM (Zin Z ix σ S2) (L2.capt tg.length ix σ) (bz tg.length ix S2)) H3 es kvs:=rz.mono fun a n _=>⟨fun z=>n (gJ.mp z),rfl⟩
  have h1:=sg H0 _ _ H3 _ x d _ (fun σ4 H4=>∃S4,OK K H0 (Zin Z ix σ S2) σ4 H4 S4/\Step (Zin Z ix σ S2) (L2.capt tg.length ix σ) (bz tg.length ix S2) H3 σ4 S4 H4/\vt S4 fun b S5=>if b=true then (vi2 S5 fun es S5=>es.length<=1000/\∃Jv:Nat->List (List Int×D)->List Sl->Prop,Jv 0 kvs S5 /\
   (∀j e zs S6,es[j]?=some e->Jv j zs S6->vg2 e S6 fun S7=>vt2 S7 fun b2 S8=>if b2=true then vk S8 fun rk S9=>vv S9 fun rv S10=>∃ms x,get S10 rk=some (kT ms)/\rv=.d x/\Jv (j+1) (ba zs ms x) (msk S6 S10) else Jv (j+1) zs (msk S6 S8))/\∀zs S6,Jv es.length zs S6->Iv (i+1) zs (backS tg.length ix S2 S6)) else Iv (i+1) kvs (backS tg.length ix S2 S5)) kc rd' (hs i d kvs S2 hd' p) (fun σ4 H4 S4 k4 st4 q4=>⟨S4,k4,st4,q4⟩)
  have h2:=kg x σ H3 _ h1
  refine (hg 0 [] X.s₀ (fun _=>none)).mono _ _ _ _ _ ?_ h2
  rintro σ4 H4 ⟨⟨⟨hl4,hσ4⟩,kb⟩,S4,k4,st4,q4⟩
  refine sc H0 _ σ4 H4 S4 _ _ k4 q4 fun bb H5 S5 k5 st5 q5=>?_
  cases bb with
  | false=>
   rw [if_neg Gw] at q5 ⊢
   obtain ⟨kb',sb,nb⟩:=k2.back k5 (st4.trans st5) hσ4
   exact ⟨by lia,_,kvs,kb',st2.trans sb,rz.step sb,q5⟩
  | true=>
   rw [if_pos rfl] at q5 ⊢
   refine si2 H0 _ σ4 H5 S5 _ _ k5 q5 fun J2 ds2 H6 S6 k6 st6 gd2 zr1=>?_
   obtain ⟨hl2,Jv,j0,hj,hd2⟩:=zr1
   have stA:=(st4.trans st5).trans st6
   refine ⟨fun j m us H=>m=ds2.length-j/\j<=ds2.length/\us.length<=1000*i+j/\∃S7 ws,OK K H0 (Zin Z ix σ S2) σ4 H S7/\Step (Zin Z ix σ S2) σ4 S6 H6 σ4 S7 H/\DRep K H0 (NM (Zin Z ix σ S2) σ4 S7) H us ws/\Jv j ws S7,⟨ds2.length,by simp,IG _,by lia,S6,kvs,k6,.refl,rzc.step stA,j0⟩,?_⟩
   rintro j m us H7 ⟨rfl,hjl,hul,S7,ws,k7,st7,rw7,p7⟩
   obtain ⟨a1,a2,a3⟩:=gd2 σ4 S7 H7 (fun _=>k7.nm) st7.1 j
   by_cases hlt2:j < ds2.length
   ·refine .inr ⟨a1 hlt2,by lia,fun us' H'=>us'.length<=1000*i+(j+1)/\∃S' ws',OK K H0 (Zin Z ix σ S2) σ4 H' S'/\Step (Zin Z ix σ S2) σ4 S6 H6 σ4 S' H'/\DRep K H0 (NM (Zin Z ix σ S2) σ4 S') H' us' ws'/\Jv (j+1) ws' S',fun us' H' zt1=>by obtain ⟨p1,p2⟩:=zt1;exact ⟨ds2.length-(j+1),by lia,rfl,hlt2,p1,p2⟩,fun x2 H8 y2=>?_⟩
    obtain ⟨hgr,e,he',re⟩:=a2 x2 H8 y2 hlt2
    replace k7:=k7.grow hgr
    replace st7:=st7.trans (.grow hgr)
    replace rw7:=rw7.step (.grow hgr)
    have h3:=sg2 H0 _ σ4 H8 S7 x2 e _ (fun σ5 H9=>∃S9,OK K H0 (Zin Z ix σ S2) σ5 H9 S9/\Step (Zin Z ix σ S2) σ4 S7 H8 σ5 S9 H9/\vt2 S9 fun b2 S8=>if b2=true then vk S8 fun rk S9=>vv S9 fun rv S10=>∃ms x,get S10 rk=some (kT ms)/\rv=.d x/\Jv (j+1) (ba ws ms x) (msk S7 S10) else Jv (j+1) ws (msk S7 S8)) k7 re (hj j e ws S7 he' p7) (fun σ5 H9 S9 k9 st9 q9=>⟨S9,k9,st9,q9⟩)
    refine (hg2 0 [] X.s₀ (fun _=>none)).mono _ _ _ _ _ ?_ (kb x2 H8 _ h3)
    rintro σ5 H9 ⟨⟨hl5,hσ5⟩,S9,k9,st9,q9⟩
    refine sc2 H0 _ σ5 H9 S9 _ _ k9 q9 fun b2 H10 S10 k10 st10 q10=>?_
    cases b2 with
    | false=>
     rw [if_neg Gw] at q10 ⊢
     obtain ⟨kf,sf,nf⟩:=k7.forget k10 (st9.trans st10) hl5 hσ5
     exact ⟨by lia,_,ws,kf,st7.trans sf,rw7.step sf,q10⟩
    | true=>
     rw [if_pos rfl] at q10 ⊢
     refine sk H0 _ σ5 H10 S10 _ _ k10 q10 fun yy H11 ry S11 k11 st11 rry q11=>?_
     refine sv H0 _ σ5 H11 S11 _ _ k11 q11 fun vv' H12 rv S12 k12 st12 rrv zr1=>?_
     obtain ⟨ms,xx,e1,er,q12⟩:=zr1
     subst er
     obtain ⟨b,rfl,sq,rb⟩:=nv (rry.step st12) e1
     obtain ⟨kf,sf,nf⟩:=k7.forget k12 (((st9.trans st10).trans st11).trans st12) hl5 hσ5
     have r12:=rw7.step sf
     obtain ⟨z1,z2,z3⟩:=f9 (k:=ms) (b:=b) (v:=vv') (d:=xx) (F:=Fr H0) (F':=AnyF) (Rep.mono (fun a n _=>⟨nf a n,rfl⟩) (fun _ x=>x rfl) rrv) (Rep.mono (fun a n _=>⟨nf a n,rfl⟩) (fun _ x=>x) rb) r12.ek r12.rk r12.rz
     refine ⟨b,ms,rfl,SqN.of sq,bX (by rw [r12.ek];exact r12.rk),?_,_,ba ws ms xx,kf,st7.trans sf,⟨z1,z2,z3⟩,q12⟩
     have:=eP us ms b vv'
     lia
   ·have e:j=ds2.length:=by lia
    obtain ⟨kb',sb,nb⟩:=k2.back k7 (stA.trans st7) hσ4
    exact .inl ⟨a3 e,by lia,_,ws,kb',st2.trans sb,rw7.mono fun a n _=>⟨nb a n,rfl⟩,hd2 ws S7 (by rw [<- e];exact p7)⟩
 ·have e:i=ds.length:=by lia
  refine .inl ⟨g3 e,fun l ob hp=>?_⟩
  exact hq l es kvs H2 _ S2 k2 (st1.trans st2) hp (aI hp) ⟨ob,ay⟩ rz.ek (rz.rk.mono (fun a n e=>⟨⟨n,fun z=>e (z▸hp)⟩,aB fun z=>e (z▸hp)⟩) fun _ x=>x) (bT hp (rz.rz.mono (fun _ n _=>⟨n,rfl⟩) fun _ x _=>x)) (hd kvs S2 (by rw [<- e];exact p))
end
section
variable {α β:Type} {n:Nat} {ix:List Nat} {g g2:VG} {vt vt2:VTT} {vi vi2:VTN} {vk vv:VT} {S:List Sl}
noncomputable def B2 (vg2:VG) (vt2:VTT) (vk vv:VT) (ys:List (List Int×D)) (A:List (List Int×D)->List Sl->Prop):List D->List Sl->Prop:=fun es S5=>es.length<=1000/\∃Jv:Nat->List (List Int×D)->List Sl->Prop,Jv 0 ys S5 /\
 (∀j e zs S6,es[j]?=some e->Jv j zs S6->vg2 e S6 fun S7=>vt2 S7 (qE vk vv (fun ms x S9=>Jv (j+1) (ba zs ms x) (msk S6 S9)) fun S8=>Jv (j+1) zs (msk S6 S8)))/\∀zs S6,Jv es.length zs S6->A zs S6
noncomputable def xP (vi2:VTN) (vg2:VG) (vt2:VTT) (vk vv:VT) (ys:List (List Int×D)) (A:List (List Int×D)->List Sl->Prop) (B:List Sl->Prop):Bool->List Sl->Prop:=fun b S4=>if b=true then vi2 S4 (B2 vg2 vt2 vk vv ys A) else B S4
noncomputable def pI (n:Nat) (ix:List Nat) (g:VG) (vt:VTT) (vi2:VTN) (vg2:VG) (vt2:VTT) (vk vv:VT) (Q:List (List Int×D)->List Sl->Prop):List D->List Sl->Prop:=fun ds S1=>ds.length<=16000/\∃Iv:Nat->List (List Int×D)->List Sl->Prop,Iv 0 [] S1 /\
 (∀i d ys S2,ds[i]?=some d->Iv i ys S2->g d (bz n ix S2) fun S3=>vt S3 (xP vi2 vg2 vt2 vk vv ys (fun zs S6=>Iv (i+1) zs (backS n ix S2 S6)) fun S4=>Iv (i+1) ys (backS n ix S2 S4)))/\∀ys S2,Iv ds.length ys S2->Q ys S2
theorem uF {Q:List (List Int×D)->List Sl->Prop} (h:vi S (pI n ix g vt vi2 g2 vt2 vk vv Q)):kM vi n ix g vt vi2 g2 vt2 vk vv S Q:=h
theorem B3 {ys:List (List Int×D)} {A:List (List Int×D)->List Sl->Prop} {B:List Sl->Prop} (h:vi2 S (B2 g2 vt2 vk vv ys A)):xP vi2 g2 vt2 vk vv ys A B true S:=by unfold xP;rw [if_pos rfl];exact h
theorem in_dict {xs:List β} {en f:β->D} {ky:β->List Int} {ys:List (List Int×D)} {A:List (List Int×D)->List Sl->Prop} (hl:xs.length<=1000)
  (h:∀x∈xs,∀(A:List Int->D->List Sl->Prop) (B:List Sl->Prop),(∀S5,msk S S5=S->A (ky x) (f x) S5)->g2 (en x) S fun S3=>vt2 S3 (qE vk vv A B)) (h2:A (xs.foldl (fun kvs x=>ba kvs (ky x) (f x)) ys) S):B2 g2 vt2 vk vv ys A (xs.map en) S:=by
 refine ⟨by simpa using hl,fun j zs S'=>S'=S/\zs=(xs.take j).foldl (fun kvs x=>ba kvs (ky x) (f x)) ys,⟨rfl,by simp⟩,?_,?_⟩
 ·rintro i d zs S2 e ⟨rfl,rfl⟩
  obtain ⟨x,h1,rfl,hm,ht⟩:=aL e
  refine h x hm _ _ fun S5 e5=>⟨e5,?_⟩
  rw [ht,J9]
  rfl
 ·rintro zs S2 ⟨rfl,rfl⟩
  rw [Gx,HK]
  exact h2
theorem nG {Q:List (List Int×D)->List Sl->Prop} {xs:List α} {en:α->D} {r:α->List (List Int×D)->List (List Int×D)} (hl:xs.length<=16000)
  (h:∀x∈xs,∀(ys:List (List Int×D)) (A:List (List Int×D)->List Sl->Prop) (B:List Sl->Prop),(∀S5,backS n ix S S5=S->A (r x ys) S5)->g (en x) (bz n ix S) fun S3=>vt S3 (xP vi2 g2 vt2 vk vv ys A B)) (h2:Q (xs.foldl (fun ys x=>r x ys) []) S):pI n ix g vt vi2 g2 vt2 vk vv Q (xs.map en) S:=by
 refine ⟨by simpa using hl,fun i ys S'=>S'=S/\ys=(xs.take i).foldl (fun ys x=>r x ys) [],⟨rfl,by simp⟩,?_,?_⟩
 ·rintro i d ys S2 e ⟨rfl,rfl⟩
  obtain ⟨x,h1,rfl,hm,ht⟩:=aL e
  refine h x hm _ _ _ fun S5 e5=>⟨e5,?_⟩
  rw [ht,J9]
  rfl
 ·rintro ys S2 ⟨rfl,rfl⟩
  rw [Gx,HK]
  exact h2
end
end VL
end
section
namespace L2
open PySem PySem.Spec PyProof.Rows PySem.W
section
variable {X:Cx}
theorem nH {kx vx t1 i1 t2 i2:Expr} {f1 f2:List Expr} {scope:Jz} {pos spos py:Pos} {yy:Str} {ii:Nat} {tg cs:List Str} {wi wi2:TI} {g g2:TG} {tc tc2:TT} {tk tv:TE} (hu:X.A.units+64 < Jt) (hN0:X.N.Nodup) (hi0:X.N[ii]?=some yy) (hx0:Loc X.env.scope yy) (S:bf X scope tg cs ix) (hcalm:X.calm=true) (kg:kH tg.length ix g g2)
    (hi:PI X t1 i1 wi) (hg:∀C fp s H,PG (ao X scope (tg++cs) C fp s H) t1 g) (hc:∀C fp s H,PTs (ao X scope (tg++cs) C fp s H) f1 tc) (hi2:∀C fp s H,PI (ao X scope (tg++cs) C fp s H) t2 i2 wi2) (hg2:∀C fp s H,PG (ao X scope (tg++cs) C fp s H) t2 g2) (hc2:∀C fp s H,PTs (ao X scope (tg++cs) C fp s H) f2 tc2) (hk:∀C fp s H,PE (ao X scope (tg++cs) C fp s H) kx tk) (hv:∀C fp s H,PE (ao X scope (tg++cs) C fp s H) vx tv)
    (hf0:X.fn yy=true\/X.env.scope.names.lookup yy=some .local) (hsw:IN (twoD kx vx t1 i1 t2 i2 f1 f2 scope pos) (some (.Name yy py)) spos.line X.env=pure true)
    (hs:∀x,G7 i1 X.env x=pure x:=by intro _;rfl) (hs2:∀(e:Env) x,G7 i2 e x=pure x:=by intro _ _;rfl):PS X (.Assign [.Name yy py] (twoD kx vx t1 i1 t2 i2 f1 f2 scope pos) spos) (cW (kL X.K wi tg.length ix g tc wi2 g2 tc2 tk tv) (bF ii)):=by
  intro pins s σ H Dn I h
  rw [LP _ _ _ _ hsw]
  refine Gp (Il (Gp ?_))
  show Hj _ X.A (do let _ <- ME (twoD kx vx t1 i1 t2 i2 f1 f2 scope pos) scope X.env _ newDict false (eval i1 X.env) (some (Kn (.Name yy py) X.env))) _ _ s
  refine Gp (G9 (JI (use:=some (Kn (.Name yy py) X.env)) (Q:=fun _ s'=>SP X pins Dn .next s') (cl:=cr X.env scope.names []) rfl hs (fH fun n hn=>I.ok.has n (S.out n hn)) S.kind S.names ?_) (fun _ s' hq=>GA (GA hq)) fun _ _ e=>e)
  refine G9 (hi pins s σ H _ I h) (fun v s1 h1=>G9 h1 (fun itv s2 h2=>?_) fun _ _ e=>e) fun _ _ e=>e
  obtain ⟨it,fp,tn,J,H2,rfl,I2,T,st2,fpk,W,⟨m0,w0⟩,turn⟩:=h2
  refine HE (Ko S.nocell (by intro y hy;simp at hy) (fun h1 hns1 hsb1=>?_) S.kind)
  dsimp only at hns1 hsb1 ⊢
  generalize hP:s2.heap.push { cls:=.type "dict",dict:=none,data:=.dict #[] }=P2 at hns1 hsb1 ⊢
  have hCs:P2.objs.size=s2.heap.objs.size+1:=by rw [<- hP,Kf]
  have hDC:s2.heap.objs.size≠P2.objs.size:=by rw [hCs];exact Hn (Ig _)
  have hCle:s2.heap.objs.size<=P2.objs.size:=by rw [hCs];exact JC _
  generalize hCg:P2.objs.size=C at *
  have old:∀b o,s2.heap.get? b=some o->h1.get? b=some o:=fun b o e=>hsb1.extBut b o (Hn (GR (GI e) hCle)) (Gu _ (hP▸Gu _ e))
  generalize hDg:s2.heap.objs.size=D at *
  have hD0:h1.get? D=some { cls:=.type "dict",data:=.dict #[] }:=hsb1.extBut _ _ hDC (Gu _ (hP▸hDg▸GQ _ rfl))
  have nC:H2 C=none:=I2.hok.fresh (by rw [hDg];exact hCle)
  have nD:H2 D=none:=I2.hok.fresh (by rw [hDg];exact Gz _)
  have fo:∀b∈fp,∃o,s2.heap.get? b=some o:=fun b hb=>let ⟨o,e,_⟩:=T.obj _ _ st2 b hb;⟨o,e⟩
  have Dfp:D∉fp:=fun z=>by
    obtain ⟨o,e⟩:=fo D z
    have:=GI e
    rw [hDg] at this
    exact absurd this (Ic _)
  have Dfs:D∉frs X.stack:=fun z=>by
    rcases List.mem_cons.mp (I2.stkSub D z) with e | e
    · have:=I2.lt
      rw [<- e,hDg] at this
      exact absurd this (Ic _)
    · exact I2.nofs (by rw [hDg];exact Gz _) e
  have DcY:∀x c,(cr X.env scope.names []).lookup x=some c->c≠D:=fun x c e=>by
    rcases eF (HF e) with h | h
    · cases h
    · exact (I2.fpOk (H':=H2) (b:=D) (by rw [hDg];exact Gz _) nD).2.2.2.2.1 x c h
  -- the block's context
  have Yok:∀s4:Gv,s4={ s2 with heap:=h1,toks:=s2.toks+([]:List (Str×Gs)).length }->Inv (ao X scope (tg++cs) C fp s2 H2) [] (capt tg.length ix σ) H2 s4:=by
    rintro s4 rfl
    exact iN S I2 fpk fo (by rw [hDg];exact hCle) old (by simpa using hns1) rfl I2.bare nC
  -- the loop
  have loop:∀s4:Gv,s4={ s2 with heap:=h1,toks:=s2.toks+([]:List (Str×Gs)).length } ->
      JB (Ha X.prog X.w) X.A (.compLoop (twoD kx vx t1 i1 t2 i2 f1 f2 scope pos) 0 (.ref it) (.ref D) (Ks scope (cr X.env scope.names []) C X.env)) (NR (Ha X.prog X.w) X.A X.xe (some (Kn (.Name yy py) X.env)) (fun _ s'=>SP X pins Dn .next s') (.ref D) C) s4:=by
    intro s4 e4
    refine LN rfl (fun n s'=>∃i es o H',Inv (ao X scope (tg++cs) C fp s2 H2) [] (capt tg.length ix σ) H' s'/\tn i s'.heap/\(∀b∈fp,H' b=none)/\H' D=none/\s'.heap.get? D=some o/\DctP D es s'.heap/\W i n es H')
      ?_ m0 ⟨0,[],_,H2,Yok s4 e4,?_,fun b hb=>(fpk b hb).1,nD,by rw [e4];exact hD0,pz (by rw [e4];exact hD0) (by rw [<- hDg];exact kA I2),w0⟩
    · rintro n s5 ⟨i,es,ob,H5,I5,st5,fr5,d5,o5,v5,w5⟩
      show Hj _ X.A ((MF (twoD kx vx t1 i1 t2 i2 f1 f2 scope pos) 0 (.ref it) (.ref D) (Ks scope (cr X.env scope.names []) C X.env)).onRaise (fun x=>do Nz x (Ks scope (cr X.env scope.names []) C X.env);LO x)) _ _ s5
      refine Ml ?_
      rw [qI]
      have pin0:Inv (ao X scope (tg++cs) C fp s2 H2) [(D,ob)] (capt tg.length ix σ) H5 s5:=I5.pins_of fun p hp=>by
        have e:p=(D,ob):=by simpa using hp
        subst e
        exact ⟨o5,d5,hDC,Dfs,v5.nocell o5⟩
      have fpY:∀{H':Hp},(∀b∈fp,H' b=none)->∀b∈fp,gY (ao X scope (tg++cs) C fp s2 H2) [(D,ob)] H' b:=fun hn b hb=>
        ⟨hn b hb,(I5.ok.exf b hb).1,fun z=>I5.ok.exfs b hb z,.inl hb,(I5.ok.exf b hb).2,fun p hp z=>by
          have hp:p∈([]:List (Addr×Obj))++[(D,ob)]:=hp
          have e:p=(D,ob):=by simpa using hp
          subst e
          have z:D=b:=z
          exact Dfp (z▸hb)⟩
      refine Gp (Il (Gp ?_))
      rcases turn i n es H5 w5 with ⟨stop,qn⟩ | ⟨go,Nx,hN,step⟩
      · refine thn (T.done (ao X scope (tg++cs) C fp s2 H2) rfl rfl rfl hcalm i _ s5 _ H5 _ pin0 (fpY fr5) st5 stop) fun r s6 zr1=>?_
        obtain ⟨hr,I6⟩:=zr1
        subst hr
        refine GA ?_
        obtain ⟨mC,hnsC,_⟩:=id I6.loc
        have IX:Inv X pins σ H5 s6:=I2.call' (ch:=fp) I6.os I6.base I6.hok I6.bare fun b hb=>let ⟨_,a1,_,a3,a4,a5⟩:=fpk b hb;⟨a3,a1,a4,a5⟩
        obtain ⟨_,c1,_,c3,c4,c5⟩:=I2.fpOk (H':=H5) (b:=C) (by rw [hDg];exact hCle) I6.free
        obtain ⟨_,b1,_,b3,b4,b5⟩:=I2.fpOk (H':=H5) (b:=D) (by rw [hDg];exact Gz _) d5
        have gD:s6.heap.get? D=some ob:=(I6.pin (D,ob) (Gq _ GG)).1
        have IXD:Inv X pins σ (upd H5 D (bS D ob es)) s6:=IX.track d5 (by rw [<- hDg];exact I2.sz) b1 b4 b5 ((v5.at (gD.trans o5.symm)).ok gD)
        show Hj _ X.A (Kn (.Name yy py) X.env (.ref D)) _ _ s6
        refine La (gv (v:=.ref D) IXD hN0 hi0 hx0 rfl (fun s'' I'' zr1=>?_) hf0)
        obtain ⟨a,sb,ha⟩:=zr1
        have hCa:C≠a:=by
          rcases ha with rfl | ha
          · exact c1
          · exact (c4 _ _ ha).symm
        refine ⟨mC,hnsC.sameBut sb hCa,fun h' sb'=>⟨_,_,I''.turned (t':=s''.toks) (it:=C) (fun b o hb e=>(sb'.2 b hb).trans e) (by rw [aB (J1 hDC)];exact I6.free) c1 c3 c4 c5,qn D ob d5⟩⟩
      · refine thn (T.item (ao X scope (tg++cs) C fp s2 H2) rfl rfl rfl hcalm i _ s5 _ H5 _ pin0 (fpY fr5) st5 go) fun r s6 zr1=>?_
        obtain ⟨u,hr,h6⟩:=zr1
        subst hr
        refine Gp (thn h6 fun _ s7 zr1=>?_)
        obtain ⟨x,H7,I7,r7,y7,st7,fr7⟩:=zr1
        have I7':=I7.pinned (fpY fr7) (T.obj _ _ st7)
        -- the next turn
        have again:∀{σ2:St} {H8:Hp} {s8:Gv} {es':List (List Int×Addr×V)} {o':Obj},Inv (ao X scope (tg++cs) C fp s2 H2) [] σ2 H8 s8->(σ2.length=(capt tg.length ix σ).length/\∀(i:Nat) (v:V),(capt tg.length ix σ)[i]?=some (some v)->σ2[i]?=some (some v)) ->
            (∀b∈fp,∀o,s7.heap.get? b=some o->s8.heap.get? b=some o)->(∀b∈fp,H8 b=none)->H8 D=none->s8.heap.get? D=some o'->DctP D es' s8.heap->Nx es' H8 ->
            ∃m,m < n/\∃i es o H',Inv (ao X scope (tg++cs) C fp s2 H2) [] (capt tg.length ix σ) H' s8/\tn i s8.heap/\(∀b∈fp,H' b=none)/\H' D=none/\s8.heap.get? D=some o/\DctP D es s8.heap/\W i m es H':=by
          intro σ2 H8 s8 es' o' I8 kp fk fn dn dg vv nx
          obtain ⟨m',hm,w8⟩:=hN es' H8 nx
          exact ⟨m',hm,i+1,es',o',H8,I8.weak kp.1.symm kp.2,T.keep _ _ _ st7 fk,fn,dn,dg,vv,w8⟩
        refine Gp (G9 (hg C fp s2 H2 _ s7 _ H7 x u _ I7' r7 (kg x σ H7 _ (step x H7 y7))) (fun _ s8 zr1=>?_) fun _ _ z=>z.elim)
        obtain ⟨σ8,H8,I8,⟨kp8,kb8⟩,q8⟩:=zr1
        refine Gp (G9 (hc C fp s2 H2 _ s8 σ8 H8 _ I8 q8) (fun ok s9 zr1=>?_) fun _ _ z=>z.elim)
        obtain ⟨H9,I9,q9⟩:=zr1
        have pinsOf:∀{σ':St} {H':Hp} {s':Gv},Inv (ao X scope (tg++cs) C fp s2 H2) ([(D,ob)]++dt fp s7.heap) σ' H' s' ->
            (∀b∈fp,∀o,s7.heap.get? b=some o->s'.heap.get? b=some o)/\(∀b∈fp,H' b=none)/\H' D=none/\s'.heap.get? D=some ob:=by
          intro σ' H' s' I'
          refine ⟨fun b hb o e=>(I'.pin (b,o) (Gq _ (Gq _ (bq hb e)))).1,fun b hb=>?_,(I'.pin (D,ob) (Gq _ (Hh _ GG))).2.1,(I'.pin (D,ob) (Gq _ (Hh _ GG))).1⟩
          obtain ⟨o,e,d⟩:=T.obj _ _ st7 b hb
          exact (I'.pin (b,o) (Gq _ (Gq _ (bq hb e)))).2.1
        cases ok with
        | false=>
          obtain ⟨p1,p2,p3,p4⟩:=pinsOf I9
          exact GA ⟨rfl,again (I9.pins_of fun p hp=>nomatch hp) kp8 p1 p2 p3 p4 (v5.at (p4.trans o5.symm)) q9⟩
        | true=>
          have q9:tInD X.K wi2 g2 tc2 tk tv σ8 es Nx H9:=q9
          obtain ⟨p1,p2,p3,p4⟩:=pinsOf I9
          have I9':Inv (ao X scope (tg++cs) C fp s2 H2) (dt fp s7.heap) σ8 H9 s9:=I9.pins_of fun p hp=>I9.pin p (Gq _ (Gq _ hp))
          refine uD (Y:=ao X scope (tg++cs) C fp s2 H2) hu hcalm (fun _ _ z=>z) (hi2 C fp s2 H2) (hg2 C fp s2 H2) (hc2 C fp s2 H2) (hk C fp s2 H2) (hv C fp s2 H2) kb8 I9' hDC Dfs (by show s2.heap.objs.size<=D;rw [hDg];exact Gz _) DcY (fun p hp z=>?_) p3 p4 (v5.at (p4.trans o5.symm)) q9 (hs2 _) fun s12 zs o' H12 I12 d12 g12 v12 n12=>?_
          · have hp:p∈dt fp s7.heap:=hp
            exact Dfp (z▸(ju hp).1)
          · have pn:=fun (b:Addr) (hb:b∈fp) (o:Obj) (e:s7.heap.get? b=some o)=>I12.pin (b,o) (Gq _ (bq hb e))
            refine GA ⟨rfl,again (I12.pins_of fun p hp=>nomatch hp) kp8 (fun b hb o e=>(pn b hb o e).1) (fun b hb=>?_) d12 g12 v12 n12⟩
            obtain ⟨o,e,_⟩:=T.obj _ _ st7 b hb
            exact (pn b hb o e).2.1
    · rw [e4];exact T.keep _ _ _ st2 fun b _ o e=>old b o e
  exact LF (loop _ rfl) (T.self _ 0 _ _ _ (T.keep _ _ _ st2 fun b _ o e=>old b o e) (loop _ rfl))
end
end L2
namespace VL
open PySem L2 PySem.W
section
variable {K:Gn} {X:Cx} {kx vx t1 i1 t2 i2:Expr} {f1 f2:List Expr} {scope:Jz} {pos:Pos}
theorem qK {spos py:Pos} {yy:Str} {ii:Nat} {tg cs:List Str} {wi wi2:TI} {vi vi2:VTN} {g g2:TG} {vg vg2:VG} {tc tc2:TT} {vt vt2:VTT} {tk tv:TE} {vk vv:VT} (hN0:X.N.Nodup) (hi0:X.N[ii]?=some yy) (hx0:Loc X.env.scope yy) (hf0:X.fn yy=true\/X.env.scope.names.lookup yy=some .local) (hK:X.K=K) (hu:X.A.units+64 < Jt) (Sc:bf X scope tg cs ix) (hcalm:X.calm=true) (kg:kH tg.length ix g g2) (hnd:ix.Nodup)
  (hi:VI K X t1 i1 wi vi) (hg:∀C fp s H,VGe K (ao X scope (tg++cs) C fp s H) t1 g vg) (hc:∀C fp s H,VTs K (ao X scope (tg++cs) C fp s H) f1 tc vt) (hi2:∀C fp s H,VI K (ao X scope (tg++cs) C fp s H) t2 i2 wi2 vi2)
  (hg2:∀C fp s H,VGe K (ao X scope (tg++cs) C fp s H) t2 g2 vg2) (hc2:∀C fp s H,VTs K (ao X scope (tg++cs) C fp s H) f2 tc2 vt2) (hk:∀C fp s H,VE K (ao X scope (tg++cs) C fp s H) false kx tk vk) (hv:∀C fp s H,VE K (ao X scope (tg++cs) C fp s H) true vx tv vv)
  (hsw:IN (twoD kx vx t1 i1 t2 i2 f1 f2 scope pos) (some (.Name yy py)) spos.line X.env=pure true:=by rfl) (hs:∀x,G7 i1 X.env x=pure x:=by intro _;rfl) (hs2:∀(e:Env) x,G7 i2 e x=pure x:=by intro _ _;rfl) :
  VS K X (.Assign [.Name yy py] (twoD kx vx t1 i1 t2 i2 f1 f2 scope pos) spos) (cW (kL K wi tg.length ix g tc wi2 g2 tc2 tk tv) (bF ii)) (tM ii (kM vi tg.length ix vg vt vi2 vg2 vt2 vk vv)):=by
 have h:=uE hK hu Sc hcalm kg hnd hi hg hc hi2 hg2 hc2 hk hv
 refine ⟨by subst hK;exact nH hu hN0 hi0 hx0 Sc hcalm kg hi.pi (fun C fp s H=>(hg C fp s H).pg) (fun C fp s H=>(hc C fp s H).pe) (fun C fp s H=>(hi2 C fp s H).pi) (fun C fp s H=>(hg2 C fp s H).pg) (fun C fp s H=>(hc2 C fp s H).pe) (fun C fp s H=>(hk C fp s H).pe) (fun C fp s H=>(hv C fp s H).pe) hf0 hsw hs hs2,fun H0 Z σ H S V E k t l=>h H0 Z σ H S _ _ k t fun a es kvs H1 H' S' k1 st1 ha hg hl ek rk rr ⟨hi,q⟩=>?_⟩
 obtain ⟨k2,st2⟩:=k1.setNew (s:=od kvs) hi ha hg ⟨a,es,rfl,hl,k1.dom a ha,⟨ek,rk⟩,rr⟩ rfl
 exact l.nx _ _ _ k2 (st1.trans st2) q
end
end VL
end
section
namespace VL
open PySem L2
section
variable {K:Gn} {X:Cx} {c e tg:Expr} {a:List Stmt} {tc:TT} {vt:VTT} {ta:TS} {wi:TI} {vi:VTN} {j:Nat} {pos ipos:Pos} {S:List Sl}
noncomputable def uG:Sl->Sl
 | .own ds=>.val (.lst ds)
 | .odi ks ds=>.val (.dic ks ds)
 | .pen _ _=>.no
 | .obj _=>.no
 | s=>s
noncomputable def lend (S:List Sl):List Sl:=S.map uG
theorem dj:∀S:List Sl,Wk S (lend S)
 | []=>.nil
 | s::r=>by
  cases s with
  | own ds=>exact .fz (dj r)
  | odi ks ds=>exact .fd (dj r)
  | pen ad ns=>exact .drop (dj r)
  | obj k=>exact .drop (dj r)
  | no=>exact .keep (dj r)
  | val d=>exact .keep (dj r)
  | fre d=>exact .keep (dj r)
noncomputable def nI (S:List Sl):Prop:=∀(i:Nat) (s:Sl),S[i]?=some s->s.mut=false
theorem qL (S:List Sl):nI (lend S):=fun i s h=>by
 unfold lend at h
 rw [GH] at h
 cases hs:S[i]? with
 | none=>rw [hs] at h;cases h
 | some t=>
  rw [hs] at h
  obtain rfl:=GP h
  cases t <;> rfl
theorem nI.mo (h:nI S) {b:Addr}:Mo Z σ S b↔Z b:=
 ⟨fun m=>by
  rcases m with ⟨k,t,h1,h2,_⟩ | m
  ·rw [h k t h1] at h2;cases h2
  ·exact m,.inr⟩
theorem nI.grow (h:nI S) {H H':Hp} {σ σ':St} {S':List Sl} (st:Step Z σ S H σ' S' H'):∀b,H b≠none->H' b=H b:=fun b hb=>by
 by_cases z:Z b
 ·exact st.2.2 b z hb
 ·exact (st.1 b (fun m=>z (h.mo.mp m)) hb).1
end
end VL
end
section
namespace VL
open PySem L2
section
variable {K:Gn} {N N':AP} {F:FP} {H H' H0:Hp} {Z P:AP} {σ σ':St} {S S':List Sl}
mutual
theorem Rep.mark {v:L2.V} {d:D}:Rep K N F H v d->Rep K N (fun o=>F o/\∀a,o=some a->N a/\IsM (H a)) H v d
 | .int i=>.int i
 | .bl i=>.bl i
 | .non=>.non
 | .str i=>.str i
 | .ty i=>.ty i
 | .tup n h r=>.tup n h (Reps.mark r)
 | .tupK h r=>.tupK h (Reps.mark r)
 | .lst n f h r=>.lst n ⟨f,fun a e=>by cases e;exact ⟨n,by rw [h];trivial⟩⟩ h (Reps.mark r)
 | .lstF n f h r=>.lstF n ⟨f,fun a e=>nomatch e⟩ h (Reps.mark r)
 | .lstK f h r=>.lstK ⟨f,fun a e=>nomatch e⟩ h (Reps.mark r)
 | .dic n f h e rk r=>.dic n ⟨f,fun a e=>by cases e;exact ⟨n,by rw [h];trivial⟩⟩ h e (Reps.mark rk) (Reps.mark r)
 | .exc n h e=>.exc n h e
 | .oth (k:=k) h=>.oth (k.both (fun a n m f=>⟨f,fun b e=>by cases e;exact ⟨n,m⟩⟩) (fun f=>⟨f,fun a e=>nomatch e⟩) h)
 | .dib n f h e g rk r=>.dib n ⟨f,fun a e=>by cases e;exact ⟨n,by rw [h];trivial⟩⟩ h e g (Reps.mark rk) (Reps.mark r)
theorem Reps.mark {vs:List L2.V} {ds:List D}:Reps K N F H vs ds->Reps K N (fun o=>F o/\∀a,o=some a->N a/\IsM (H a)) H vs ds
 | .nil=>.nil
 | .cons h t=>.cons (Rep.mark h) (Reps.mark t)
end
noncomputable def lendF:Sl->Sl
 | .fre d=>.val d
 | s=>uG s
theorem jg (S:List Sl):nI (S.map lendF):=fun i s h=>by
 rw [GH] at h
 cases hs:S[i]? with
 | none=>rw [hs] at h;cases h
 | some t=>
  rw [hs] at h
  obtain rfl:=GP h
  cases t <;> rfl
theorem OK.lendF (k:OK K H0 Z σ H S):OK K H Z σ H (S.map VL.lendF):=by
 have il:=jg S
 have kl:=(k.wk (dj S)).1
 have inz:=qL S
 refine ⟨by rw [k.len,Gx],fun i o s e1 e2=>?_,fun i j a s t h1 _ m=>?_,fun _ e=>e,k.zl,fun i s a h1 m=>?_⟩
 ·rw [GH] at e2
  cases hs:S[i]? with
  | none=>rw [hs] at e2;cases e2
  | some t=>
   rw [hs] at e2
   obtain rfl:=GP e2
   have q:=kl.at_ i o (uG t) e1 (by unfold lend;rw [GH,hs];rfl)
   have hm:∀a,NM Z σ (lend S) a->H a≠none->NM Z σ (S.map VL.lendF) a/\H a=H a:=fun a n _=>⟨fun z=>n (.inr (il.mo.mp z)),rfl⟩
   cases t with
   | no=>trivial
   | val d=>obtain ⟨v,e,r⟩:=q;exact ⟨v,e,r.mono hm fun _ x=>x⟩
   | fre d=>obtain ⟨v,e,r⟩:=q;exact ⟨v,e,r.mono hm fun _ _=>trivial⟩
   | own ds=>obtain ⟨v,e,r⟩:=q;exact ⟨v,e,r.mono hm fun _ x=>x⟩
   | pen ad ns=>trivial
   | odi ks ds=>obtain ⟨v,e,r⟩:=q;exact ⟨v,e,r.mono hm fun _ x=>x⟩
   | obj k=>trivial
 ·rw [il i s h1] at m;cases m
 ·rw [il i s h1] at m;cases m
end
end VL
end
section
namespace L2
open PySem PySem.Spec PyProof.Rows PySem.W
section
variable {X:Cx}
noncomputable def uH (K:Gn):R2:=fun x y H Q=>∃l b xs zs,x=.ref l/\y=.ref b/\SqL K H l xs/\SqL K H b zs/\xs.length+zs.length<=GZ/\∀p,H p=none->Q (.ref p) (upd H p (.lst (xs++zs)))
theorem uI:OpR X (IP .Add) (uH X.K):=by
 rintro pins s σ H x y v u Q I rx ry ⟨l,b,xs,zs,e1,e2,hR,hB,hz,q⟩
 subst e1;subst e2
 cases rx;cases ry
 obtain ⟨its,r,⟨⟨cls,dd,data,sl⟩,n,e,hc,hd,hs⟩,z⟩:=I.list hR
 obtain ⟨its2,r2,⟨⟨cls2,dd2,data2,sl2⟩,n2,e2,hc2,hd2,hs2⟩,z2⟩:=I.list hB
 have hl:=r.length
 have hl2:=r2.length
 cases (show cls=.type "list" from hc)
 cases (show data=.seq its.toArray n from hs)
 cases (show cls2=.type "list" from hc2)
 cases (show data2=.seq its2.toArray n2 from hs2)
 have sum:its.toArray.size+its2.toArray.size<=GZ:=by simp only [GC];lia
 refine KS (T:="list") ⟨_,e,rfl⟩ ⟨_,e2,rfl⟩ noFill_list_add seq_list_add F.slot_list_add F.entry_list_add (F.args_list_add_2 _ _) (list_addW l b _ _ n n2 dd dd2 sl sl2 sum) ⟨e,e2,?_⟩
 rw [Mn]
 exact ⟨.ref _,_,I.lnew (t':=s.toks) (r.append r2) (by rw [G6];lia),rfl,q _ I.fresh⟩
end
end L2
end
section
namespace L2
open PySem PySem.Spec PyProof.Rows
noncomputable def zA:V->V->Hp->VK->Prop:=fun x y H Q=>∃p xs i v,x=.ref p/\y=.int (i:Nat)/\H p=some (.lst xs)/\xs[i]?=some v/\Q v H
theorem xQ {X:Cx}:Al X zA:=by
 rintro pins s σ H o i ov iv Q I r1 r2 ⟨p,xs,k,z,e1,e2,hp,hz,q⟩
 subst e1;subst e2
 cases r1
 obtain ⟨t,rfl⟩:=r2
 obtain ⟨its,r,pl,hl0⟩:=I.list (show SqL X.K H p xs from .inl (.inl hp))
 obtain ⟨u,hu,ru⟩:=r.get hz
 have hk:=(List.getElem?_eq_some_iff.mp hu).1
 have hn:=fG
 have hl:=r.length
 exact getItem_listL pl.isList (by lia) (by lia) (by simpa using hu) ⟨z,H,I,ru,q⟩
end L2
namespace VL
open PySem L2
section
variable {K:Gn} {X:Cx} {m:Bool} {o ie e:Expr} {ti te ta:TE} {vi va:VT} {pos posS apos:Pos} {S:List Sl}
noncomputable def zB (i:Nat) (vi va:VT):VTS:=fun V S=>vi S fun ri S1=>∃(ds:List D) (j:Nat) (x:Int),S1[i]?=some (.own ds)/\get S1 ri=some (.int j)/\ds[j]?=some (.int x)/\va S1 fun r S2=>∃n,r=.d (.int n)/\S2[i]?=some (.own ds)/\V.nx (S2.set i (.own (ds.set j (.int (x+n)))))
theorem xR (i:Nat) (ho:PE X o (bZ i)) (hi:VE K X false ie ti vi) (h:VE K X false e te va)
  (ha:∀ov iv new,augStore ie ov iv new=(do Jj [new,ov,iv] (MO ov iv new);NQ [new,ov,iv] [];pure .next):=by intros;rfl) :
  VS K X (.AugAssign (.Subscript o ie posS) .Add e pos) (rm (bZ i) ti te zA (ipI fun i j=>i+j) ot) (fun V S=>(∃ds,S[i]?=some (.own ds))/\zB i vi va V S):=
 ⟨nY ho hi.pe xQ h.pe rn set_list ha,fun H0 Z σ H S V E k zq l=>by
  obtain ⟨⟨ds0,e0⟩,zq⟩:=zq
  obtain ⟨o1,g1,p,vs0,rfl,_⟩:=k.ownAt e0
  refine ⟨.ref p,g1,hi.snd H0 Z σ H S _ _ k zq fun y H2 ri S2 k2 st2 rr2 zq1=>?_⟩
  obtain ⟨ds,j,x,e1,ej,hx,t⟩:=zq1
  obtain ⟨o2,g2,p',vs,e2,h2,h3,h4⟩:=k2.ownAt e1
  rw [g1] at g2;cases g2;cases e2
  cases rr2.get k2 ej
  obtain ⟨v,hv,rv⟩:=h4.getD hx
  cases rv
  refine ⟨p,vs,j,.int x,rfl,rfl,h2,hv,h.snd H0 Z σ H2 S2 _ _ k2 t fun z H3 r S3 k3 st3 rr3 zq2=>?_⟩
  obtain ⟨n,er,e3,q⟩:=zq2
  subst er
  cases (show Rep K _ _ H3 z (.int n) from rr3)
  obtain ⟨o3,g3,p'',vs3,e4,f2,f3,f4⟩:=k3.ownAt e3
  rw [g1] at g3;cases g3;cases e4
  have hj:j < vs3.length:=by rw [f4.length];exact (List.getElem?_eq_some_iff.mp hx).1
  refine ⟨x,n,rfl,rfl,p,vs3,j,j,rfl,rfl,f2,by simp only [ixN];rw [if_pos (by lia),if_pos (by lia)];simp,?_⟩
  have na:NM Z σ S3 p->False:=fun n=>n (.inl ⟨i,_,e3,rfl,g1⟩)
  have hm:∀b,NM Z σ S3 b->H3 b≠none->NM Z σ S3 b/\upd H3 p (.lst (vs3.set j (.int (x+n)))) b=H3 b:=fun b n _=>⟨n,aB fun z=>na (by rw [<- z];exact n)⟩
  obtain ⟨k4,st4⟩:=k3.chg (s:=.own (ds.set j (.int (x+n)))) (o:=.lst (vs3.set j (.int (x+n)))) e3 rfl g1 ⟨_,rfl⟩ rfl ⟨p,_,rfl,ay,f3,(f4.mono hm fun _ x=>x).set (.int _) j⟩
  exact l.nx _ _ _ k4 ((st2.trans st3).trans st4) q⟩
end
end VL
end
section
namespace L2
open PySem PySem.Spec PyProof.Rows
theorem uJ {X:Cx} (hu:X.A.units+64 < Jt):IxR X (pG X.K):=by
 intro value slice pins s σ H x y v u Q I rx ry h hs
 have g:=pH hu pins s σ H x y v u Q I rx ry h
 obtain ⟨b,a,ms,es,z,ey,ex,h1,⟨ob,h2⟩,_⟩:=h
 subst ex
 cases rx
 obtain ⟨_,_,_,_,_,o,_,_,z1,z2,_⟩:=ke I h2
 exact Nn ⟨_,z1,z2.1⟩ slot_dict_getitem.lookup g hs
end L2
end
section
namespace VL
open PySem L2
noncomputable def SomeF:FP:=fun o=>o≠none
noncomputable def spF (K:Gn) (p:List D->(D->Prop)->Prop):Sp:=fun vs H Q _=>∃ds R,Reps K Any SomeF H vs ds/\p ds R/\∀d v H',R d->flat d=true->(∀a,H a≠none->H' a=H a)->Rep K Any AnyF H' v d->Q v H'
section
variable {P:G2} {w:HJ} {K:Gn} {mg:Str->Option Gs} {base:Heap}
noncomputable def gP (n:Nat) (ds:List D):List Sl:=ds.map .fre++He (n-ds.length) .no
theorem jQ {n:Nat} {i:Nat} {s:Sl} (h:(gP n ds)[i]?=some s):s=.no\/∃d,s=.fre d/\ds[i]?=some d:=by
 unfold gP at h
 by_cases hi:i < ds.length
 ·rw [GY (by simpa using hi)] at h
  simp [hi] at h
  subst h
  exact .inr ⟨_,rfl,by simp [hi]⟩
 ·rw [GN (by simpa using hi)] at h
  exact .inl (JJ (HR h))
theorem dm (n:Nat) (ds:List D):nI (gP n ds):=fun i s h=>by
 rcases jQ h with rfl | ⟨d,rfl,_⟩ <;> rfl
theorem qM {N:List Str} {vs:List L2.V} (r:Reps K Any SomeF H vs ds):OK K (fun _=>none) (fun _=>False) (start N vs) H (gP N.length ds) where
 len:=by simp [L2.start,gP,r.length]
 dom:=fun _ _=>rfl
 zl:=fun _ z=>z.elim
 nz:=fun i s a h m _=>by rw [dm _ _ i s h] at m;cases m
 inj:=fun i j a s t h1 h2 m1=>by rw [dm _ _ i s h1] at m1;cases m1
 at_:=fun i o s h1 h2=>by
  rcases jQ h2 with rfl | ⟨d,rfl,e⟩
  ·trivial
  ·obtain ⟨v,e1,e2⟩:=r.getD e
   rw [f7 e1] at h1
   cases h1
   refine ⟨v,rfl,e2.mono (fun a _ _=>⟨fun z=>(dm _ _).mo.mp z,rfl⟩) fun o x=>?_⟩
   cases o with
   | none=>exact absurd rfl x
   | some a=>exact ⟨a,rfl,rfl⟩
theorem zC {x:Str} {st:Stmt} {N ps:List Str} {k:Nat} (S:Src K mg x st) (sc:aE N ps (aj st))
  (hb:∀(kV doc pm:Gs) (an:Option Addr) (cdv ct:Gs) (us:List Gs),us.length=ps.length->Lo (Iq x x (cq st) (bC st) (aj st) .none kV doc pm an cdv ct) ⟨us,[]⟩=pure (ps.zip us))
  (len:∀ds R,p ds R->ds.length=ps.length)
  (hbody:∀(f:Addr) (cdv:Gs) (A:HQ) (outer:List Env) (s:Gv) (H:Hp) (E:XK),ck k (A.deeper (JD x (aj st) s.heap.objs.size f cdv)) ->
   ∃ts t,VSs K (gB CX0 P w K mg base N x (aj st) f cdv A outer s H E).nox (bC st) ts t/\∀ds R,p ds R->t { nx:=fun _=>R .non,rt:=fun d _=>R d/\flat d=true } (gP N.length ds)):Has P w K mg base (k+1) x ps (spF K p):=by
 refine S.has sc hb (fun vs H Q E zq1=>by obtain ⟨ds,R,r,h,_⟩:=zq1;rw [r.length];exact len ds R h) fun f cdv A outer s H vs Q E hr ⟨ds,R,r,h,fin⟩=>?_
 obtain ⟨ts,t,vs',q⟩:=hbody f cdv A outer s H E hr
 have k0:=qM (N:=N) r
 have il:=dm N.length ds
 exact ⟨ts,vs'.ps,vs'.snd _ _ _ H _ _ _ k0 (q ds R h) ⟨fun σ' H' S' k' st q=>fin .non .non H' q rfl (il.grow st) .non,fun σ' H' S' k' st q=>q.elim,fun σ' H' S' k' st q=>q.elim,fun v d σ' H' S' k' st rr q=>fin d v H' q.1 q.2 (il.grow st) (rr.mono (fun _ _ _=>⟨trivial,rfl⟩) fun _ _=>trivial)⟩⟩
end
section
variable {K:Gn} {X:Cx} {m:Bool} {e:Expr} {es:List Expr} {tr:TA} {vr:VTA} {x:Str} {p0 pos:Pos} {j k:Nat} {ps:List Str} {S:List Sl} {Q:VR->List Sl->Prop}
noncomputable def EX (p:List D->(D->Prop)->Prop) (vr:VTA):VT:=fun S Q=>vr S fun rs S1=>∃ds,allD rs=some ds/\p ds fun d=>flat d=true->Q (.d d) S1
theorem uK (E:Has X.prog X.w X.K X.mg X.base k x ps (spF K p)) (hr:ck j X.A) (ha:VA K X true (e::es) tr vr)
  (hk:k<=j:=by decide) (hg:Gl X x:=by rfl) (hdb:(x==("__debug__":Str))=false:=by decide) (he:GM (e::es) X.env=(false,eval e X.env)::GM es X.env:=by rfl)
  (hpl:(JF pos (GM es X.env)).any (·.1)=false:=by rfl):VE K X m (.Call (.Name x p0) (e::es) [] pos) (gS (spF K p) [] E0 tr) (EX p vr):=⟨ox E hr ha.pe hk hg hdb he hpl,fun H0 Z σ H S Q C k t hc=>
 ha.snd H0 Z σ H S _ _ k t fun vs H1 rs S1 k1 st1 rrs zq1=>by
  obtain ⟨ds,e,q⟩:=zq1
  have ra:Reps K Any SomeF H1 (vs++[]) ds:=by
   rw [Ia]
   refine (rrs.allD e).mono (fun _ _ _=>⟨trivial,rfl⟩) fun o f=>?_
   obtain ⟨a,ea,_⟩:=f rfl
   rw [ea]
   exact Option.some_ne_none a
  refine ⟨ds,_,ra,q,fun d v H' q fl g r=>?_⟩
  refine hc v H' (.d d) S1 (k1.grow g) (st1.trans (.grow g)) (show Rep K _ _ H' v d from ?_) (q fl)
  exact ((r.flat (F':=fun _=>False) fl).avoid (N':=NM Z σ S1) (fun a z=>by
   have e:=k1.mo (Classical.not_not.mp z)
   rw [g a e.ne];exact e) fun a f=>f.elim).mono (fun _ n _=>⟨n,rfl⟩) fun _ f=>f.elim⟩
noncomputable def EY (p:List D->(D->Prop)->Prop) (Q:VR->List Sl->Prop):List VR->List Sl->Prop:=fun rs S1=>∃ds,allD rs=some ds/\p ds fun d=>flat d=true->Q (.d d) S1
theorem EZ (h:vr S (EY p Q)):EX p vr S Q:=h
theorem B4 (e:allD rs=some ds) (h:p ds fun d=>flat d=true->Q (.d d) S):EY p Q rs S:=⟨ds,e,h⟩
end
end VL
end
section
namespace VL
open PySem L2
section
variable {K:Gn} {X:Cx} {m:Bool} {e:Expr} {te:TE} {va:VT} {pos p2:Pos} {S:List Sl} {Q:VR->List Sl->Prop} {vl vh:VO}
noncomputable def E1 (va:VT) (vl vh:VO):VT:=fun S Q=>va S fun r S1=>vl S1 fun lo S2=>vh S2 fun hi S3=>∃ds,get S3 r=some (.tup ds)/\flats ds=true/\¬ (HT.sIx ds.length 0 lo=0/\HT.sIx ds.length ds.length hi=ds.length)/\Q (.d (.tup (cutD ds lo hi))) S3
theorem B5 {lo hi:Option Expr} {tl th:TO} (hK:X.K=K) (h:VE K X false e te va) (hl:VOe K X lo tl vl) (hh:VOe K X hi th vh):VE K X m (.Subscript e (.Slice lo hi none p2) pos) (tSl (De K) te tl th) (E1 va vl vh):=
 ⟨by subst hK;exact ly Aw h.pe hl.pe hh.pe,fun H0 Z σ H S Q C k t hc=>h.snd H0 Z σ H S _ _ k t fun v H1 r S1 k1 st1 rr t1=>hl.snd H0 Z σ H1 S1 _ _ k1 t1 fun lo H2 S2 k2 st2 t2=>hh.snd H0 Z σ H2 S2 _ _ k2 t2 fun hi H3 S3 k3 st3 zq=>by
  obtain ⟨ds,e,f,hw,q⟩:=zq
  obtain ⟨a,vs,rfl,hq,rs⟩:=((rr.step st2).step st3).elemsT k3 e
  refine ⟨a,vs,rfl,hq,by rw [rs.length];exact hw,fun p hp=>?_⟩
  have g:=aI (o:=.tup (j5 vs lo hi)) hp
  have ff:flats (cutD ds lo hi)=true:=by unfold cutD;exact fM _ (fL _ f)
  exact hc _ _ (.d (.tup (cutD ds lo hi))) S3 (k3.grow g) (((st1.trans st2).trans st3).trans (.grow g)) (Rep.tup (k3.nm hp) (.inl ay) (Reps.flat ((lW rs lo hi).mono (fun a n e=>⟨n,g a e⟩) fun _ x=>x) ff)) q⟩
noncomputable def E2 (vl vh:VO) (Q:VR->List Sl->Prop):VR->List Sl->Prop:=fun r S1=>vl S1 fun lo S2=>vh S2 fun hi S3=>∃ds,get S3 r=some (.tup ds)/\flats ds=true/\¬ (HT.sIx ds.length 0 lo=0/\HT.sIx ds.length ds.length hi=ds.length)/\Q (.d (.tup (cutD ds lo hi))) S3
theorem E3 (h:va S (E2 vl vh Q)):E1 va vl vh S Q:=h
end
end VL
end
section
namespace L2
open PySem PySem.Spec PyProof.Rows PySem.W
section
variable {X:Cx} {i:Nat} {CB:Addr} {cb en:Str} {b0:Stmt} {suite body:List Stmt} {h0:ExceptHandler} {th ts us:TS} {st:Stmt} {np hp tp:Pos}
theorem xS (hb:PSs X body ts) (hxe:∀e s,¬X.xe e s):PS X (.Try body [h0] [] [] tp) ts:=by
 intro pins s σ H D I h
 refine wpAny_Try_except (G9 (hb pins s σ H D I h) (fun f s1 q=>?_) fun e s z=>(hxe e s z).elim)
 cases f with
 | next=>obtain ⟨σ',H',I',q'⟩:=q;exact jX pins s1 σ' H' D I' q'
 | brk=>exact q
 | cont=>exact q
 | ret u=>exact q
theorem B6 (h1:PS X st ts) (h2:PS X st us):PS X st (fun D σ H=>ts D σ H\/us D σ H):=fun pins s σ H D I h=>h.elim (h1 pins s σ H D I) (h2 pins s σ H D I)
noncomputable abbrev Cx.inTry (X:Cx) (pn:List (Addr×Obj)) (xe:Gs->Gv->Prop):Cx:={ X with pn:=pn,xe:=xe }
theorem Inv.inTry {s:Gv} {xe:Gs->Gv->Prop} (I:Inv X pins σ H s):Inv (X.inTry (X.pn++pins) xe) [] σ H s:=
 ⟨⟨I.ok.mod,I.ok.kind,I.ok.glob,I.ok.blt,I.ok.above,I.ok.inj,I.ok.has,I.ok.cab,I.ok.hd,I.ok.frames,I.ok.stk,I.ok.exf,I.ok.bs,I.ok.bsz,I.ok.noex,I.ok.exfs,I.ok.funs,I.ok.frf⟩,I.os,I.bare,I.base,I.loc,I.cell,I.free,I.freeC,fun p hp=>I.pin p (by simpa using hp),I.hok,I.len⟩
theorem Inv.outTry {pins pins':List (Addr×Obj)} {s:Gv} {xe:Gs->Gv->Prop} (ok:X.Ok) (I:Inv (X.inTry (X.pn++pins) xe) pins' σ H s):Inv X pins σ H s:=
 ⟨ok,I.os,I.bare,I.base,I.loc,I.cell,I.free,I.freeC,fun p hp=>I.pin p (Hh _ hp),I.hok,I.len⟩
noncomputable def Hands (X:Cx) (Hin:Hp) (E:XK):Prop:=∀pins σ H s e s',Inv X pins σ H s->CX1 X.prog X.w X.stack H s (fun c _ H'=>(∀b,Hin b≠none->H' b=Hin b)/\E c none H') e s'->X.xe e s'
noncomputable def noE:Ends:={ nx:=fun _ _=>False,rt:=fun _ _=>False }
noncomputable def uL (K:Frag) (CB:Addr) (tb:Hp->XK->TS) (i:Nat) (th:TS):TS:=fun D σ H=>tb H (fun c _ H'=>∃C,c=.ref C/\exmOne K (.ref C) (.ref CB)=some true /\
 ∀(σ1:St) (y:Addr) (o:Obj),σ1.length=σ.length->H' y=none->o.cls=.ref C->th (unE D i) (σ1.set i (some (.ref y))) (upd H' y (.frz o (.own y)))) noE σ H
theorem xT {tb:Hp->XK->TS} (hb:∀pn xe Hin E,Hands (X.inTry pn xe) Hin E->PSs (X.inTry pn xe) body (tb Hin E)) (hcb:X.mg cb=some (.ref CB))
  (hs:∀y,PSs (X.caught y) (b0::suite) th) (hxe:∀e s,¬X.xe e s) (hex0:X.ex=[]) (hst:X.stack=X.env::X.outer) (hfr:X.env.frame=some X.env.locals) (hN:X.N.Nodup) (hi:X.N[i]?=some en) (hloc:X.env.scope.names.lookup en=some .local)
  (hgc:Gl X cb:=by rfl) (hdc:(cb==("__debug__":Str))=false:=by decide) :
  PS X (.Try body [.ExceptHandler (some (.Name cb np)) (some en) (b0::suite) hp] [] [] tp) (uL X.K CB tb i th):=by
 intro pins s σ H D I h
 unfold uL at h
 refine wpAny_Try_except ?_
 generalize hq:(fun e s₁=>Hj (Ha X.prog X.w) X.A (Nz e X.env) (fun _ s₂=>Hj (Ha X.prog X.w) X.A (setFlight e none) (fun _ s₃=>Hj (Ha X.prog X.w) X.A (handleBy e X.env [.ExceptHandler (some (.Name cb np)) (some en) (b0::suite) hp]) (SP X pins D) X.xe s₃) X.xe s₂) X.xe s₁)=xe
 refine G9 (hb (X.pn++pins) xe H _ ?_ [] s σ H _ I.inTry h) (fun f s1 q=>?_) fun _ _ z=>z
 rotate_left
 ·cases f with
  | next=>obtain ⟨_,_,_,z⟩:=q;exact z.elim
  | brk=>obtain ⟨_,_,_,z⟩:=q;exact z.elim
  | cont=>obtain ⟨_,_,_,z⟩:=q;exact z.elim
  | ret u=>obtain ⟨_,_,_,_,_,z⟩:=q;exact z.elim
 ·intro pins1 σ1 H1 s1 e s' J hc
  have I1:=J.outTry I.ok
  obtain ⟨y,cls,a0,B,H',rfl,Fl,fro,C,rfl,hex,fin⟩:=hc
  have hl1:σ1.length=σ.length:=I1.len.trans I.len.symm
  have Fl:Flies X.prog X.w X.stack H1 s1 y (.ref C) a0 B H' s':=Fl
  show xe _ _
  rw [<- hq]
  have fr:X.A.frames=some (X.env::X.outer):=hst▸I.ok.frames
  have fly0:=Fl.fly
  rw [hst] at fly0
  refine wpAny_looks_onW fr hfr fly0 fun h4 held up4=>?_
  refine wpAny_landsW held fun h5 fly5 up5=>?_
  have F5:Flies X.prog X.w X.stack H1 s1 y (.ref C) a0 B H' { s' with heap:=h5,toks:=s'.toks }:=Fl.on I1 (by rw [hst];exact fly5) (up4.trans up5)
  have I5:=I1.lands F5
  obtain ⟨o5,ho5,hc5⟩:=fly5.there
  refine wpAny_handleBy_cons (codeAny_handlers_test (hU (I5.caught y) hgc hcb ?_ hdc)) (by intro q;cases q)
  refine exm_one (h:=h5) I5.kIn (hc5▸(Looks.ld ho5).andThen .now) hex _ _ _ _ (fun _ _ e=>e) ?_
  refine codeAny_handlers_suite_as ?_
  refine lands_againW fly5 fun h6 fly6 up6=>?_
  have F6:Flies X.prog X.w X.stack H1 s1 y (.ref C) a0 B H' { s' with heap:=h6,toks:=s'.toks }:=Fl.on I1 (by rw [hst];exact fly6) ((up4.trans up5).trans up6)
  have I6:=I1.lands F6
  obtain ⟨o6,ho6,hc6⟩:=fly6.there
  have here:∀b o,s1.heap.get? b=some o->b≠y:=fun b o e z=>by rw [z,Fl.new] at e;cases e
  have I7:Inv (X.caught y) pins σ1 (upd H' y (.frz o6 (.own y))) { s' with heap:=h6,toks:=s'.toks }:=by
   refine (I6.caught y).trackN F6.noX ?_ ?_ ?_ ?_ ⟨ho6,o6,ho6⟩
   ·cases z:X.s₀.heap.get? y with
    | none=>rfl
    | some o=>
     obtain ⟨o',e'⟩:=I1.base.there y o z (by rw [hex0];intro q;cases q)
     exact absurd rfl (here y o' e')
   ·obtain ⟨m,⟨o,es,ep,e,_⟩,_⟩:=I1.loc
    exact (here _ o e).symm
   ·intro n c e
    obtain ⟨v,o,e',_⟩:=I1.cell n c e
    exact here c o e'
   ·intro p hp
    exact here p.1 p.2 (I1.pin p hp).1
  refine fQ (X:=X.caught y) I7 hN hi (.inl hloc) (show RelV (.ref y) (.ref y) from rfl) (fun s8 I8=>?_) (.inr hloc)
  refine G9 (hs y pins s8 _ _ (unE D i) I8 (fin σ1 y o6 hl1 F6.noX hc6)) (fun fl s9 q9=>?_) fun e s z=>(hxe e s z).elim
  have let_go:∀{σ':St} {H9:Hp} {R:Unit->Gv->Prop},Inv (X.caught y) pins σ' H9 s9->(∀s',Inv X pins (σ'.set i none) H9 s'->R () s')->Hj (Ha X.prog X.w) X.A (do bindName X.env en .none;unbindBehindTheSuite X.env en hp) R X.xe s9:=fun {σ' H9 R} J g=>by
   have J0:=J.uncaught I.ok
   refine Gp (wpAny_bindName (fQ J0 hN hi (.inl hloc) (show RelV .non .none from rfl) (fun s10 I10=>?_) (.inr hloc)))
   refine wpAny_onRaise (xq I10 hN hi hloc (G0 (by rw [J0.len];exact (List.getElem?_eq_some_iff.mp hi).1)) fun s11 I11=>?_)
   rw [List.set_set] at I11
   exact g s11 I11
  cases fl with
  | next=>obtain ⟨σ',H9,J,q⟩:=q9;exact let_go J fun s' I'=>⟨_,_,I',q⟩
  | brk=>obtain ⟨σ',H9,J,q⟩:=q9;exact let_go J fun s' I'=>⟨_,_,I',q⟩
  | cont=>obtain ⟨σ',H9,J,q⟩:=q9;exact let_go J fun s' I'=>⟨_,_,I',q⟩
  | ret u=>obtain ⟨v,σ',H9,J,r,q⟩:=q9;exact let_go J fun s' I'=>⟨v,_,_,I',r,q⟩
end
end L2
end
section
namespace L2
open PySem PySem.Spec PyProof.Rows PySem.W
noncomputable def nJ (K:Gn):List V->Hp->VK->Prop:=fun xs H Q=>wu K xs H Q\/∃y o c b,xs=[.ref y,.ty c]/\H y=some (.frz o (.own y))/\o.cls=.type "dict"/\kitOne [] (.type "dict") (.type c)=some b/\Q (.bl b) H
theorem nK {X:Cx}:cL X (.builtin "isinstance") (nJ X.K):=by
 intro pins s σ H xs us Q I r h
 rcases h with h | ⟨y,o,c,b,rfl,hy,hc,hk,q⟩
 ·exact lB pins s σ H xs us Q I r h
 ·obtain ⟨u,w',rfl,rx,rc⟩:=vals2 r
  cases rx
  obtain rfl:w'=L0 c:=rc
  exact kia_one kitx_dict I.kIn ⟨o,(show bA X.prog X.w H s.heap y (.frz o (.own y)) from I.hok y _ hy).1,hc⟩ (show kitOne X.K _ _=_ by rw [lA];exact hk) (fun z=>nomatch z) fun tk=>⟨.bl b,H,I.tok tk,rfl,q⟩
end L2
namespace VL
open PySem L2 PySem.W
section
variable {K:Gn} {X:Cx} {m:Bool} {pos:Pos}
noncomputable def kO:List D->(D->Prop)->Prop:=fun ds q=>ql ds q\/∃c b,ds=[.exc (.type "dict"),.ty c]/\kitOne [] (.type "dict") (.type c)=some b/\q (.bl b)
theorem xU:iV K (nJ K) kO:=by
 intro xs H ds q C r h hc
 rcases h with h | ⟨c,b,rfl,hk,h⟩
 ·exact .inl (iW _ _ _ _ _ r h hc)
 ·obtain ⟨v,u,rfl,rv,ru⟩:=rep2 r
  cases ru
  cases rv with | exc n hh he=>exact .inr ⟨_,_,c,b,rfl,hh,he,hk,hc _ _ h fun _ _=>.bl _⟩
theorem xV (hK:X.K=K):cL X (.builtin "isinstance") (nJ K):=by subst hK;exact nK
end
section
variable {K:Gn} {X:Cx} {ts us:TS} {t u:VTS} {st:Stmt} {body:List Stmt} {h0:ExceptHandler} {tp:Pos}
theorem xW (h:VSs K X body ts t) (hxe:∀e s,¬X.xe e s):VS K X (.Try body [h0] [] [] tp) ts t:=⟨xS h.ps hxe,h.snd⟩
noncomputable def E4 (t u:VTS):VTS:=fun V S=>t V S\/u V S
theorem B7 (h1:VS K X st ts t) (h2:VS K X st us u):VS K X st (fun D σ H=>ts D σ H\/us D σ H) (E4 t u):=
 ⟨B6 h1.ps h2.ps,fun H0 Z σ H S V E k zq l=>zq.elim (fun z=>.inl (h1.snd H0 Z σ H S V E k z l)) fun z=>.inr (h2.snd H0 Z σ H S V E k z l)⟩
end
section
variable {K:Gn} {X:Cx} {i:Nat} {CB:Addr} {cb en:Str} {b0:Stmt} {suite body:List Stmt} {th:TS} {vh:VTS} {t:(Addr->Prop)->List Sl->Prop} {np hp tp:Pos}
noncomputable def allNo (S:List Sl):List Sl:=S.map fun _=>.no
theorem gi {i:Nat} {s:Sl} (h:(allNo S)[i]?=some s):s=.no:=by
 unfold allNo at h
 rw [GH] at h
 cases e:S[i]? with
 | none=>rw [e] at h;cases h
 | some x=>rw [e] at h;exact (GP h).symm
theorem OK.allNo {H0 H H':Hp} {σ σ1:St} (k:OK K H0 Z σ H S) (hl:σ1.length=σ.length) (g:∀a,H a≠none->H' a=H a):OK K H0 Z σ1 H' (allNo S)/\Step Z σ S H σ1 (allNo S) H':=by
 have nn:∀a,H' a=none->H a=none:=fun a e=>G4 fun z=>by rw [g a z] at e;exact z e
 refine ⟨⟨by rw [hl,k.len];unfold VL.allNo;rw [Gx],fun i o s _ e=>by rw [gi e];trivial,fun i j a s t h1 _ m=>by (rw [gi h1] at m;cases m),fun a e=>k.dom a (nn a e),fun a z=>by rw [g a (k.zl a z).ne];exact k.zl a z,fun i s a h1 m=>by (rw [gi h1] at m;cases m)⟩,fun a n e=>⟨g a e,?_⟩,nn,fun a _ e=>g a e⟩
 rintro (⟨i,s,h1,h2,_⟩ | z)
 ·rw [gi h1] at h2;cases h2
 ·exact n (.inr z)
noncomputable def zD (K:Frag) (CB:Addr) (t:(Addr->Prop)->List Sl->Prop) (i:Nat) (vh:VTS):VTS:=fun V S=>i < S.length/\t (fun C=>exmOne K (.ref C) (.ref CB)=some true/\vh (unV V i) ((allNo S).set i (.val (.exc (.ref C))))) (S.map lendF)
theorem xX {tb:Hp->XK->TS} (hb:∀pn xe Hin E,Hands (X.inTry pn xe) Hin E->VXs K (X.inTry pn xe) Hin E body (tb Hin E) t) (hK:X.K=K) (hcb:X.mg cb=some (.ref CB)) (hs:∀y,VSs K (X.caught y) (b0::suite) th vh) (hxe:∀e s,¬X.xe e s) (hex0:X.ex=[])
  (hst:X.stack=X.env::X.outer) (hfr:X.env.frame=some X.env.locals) (hN:X.N.Nodup) (hi:X.N[i]?=some en) (hloc:X.env.scope.names.lookup en=some .local) (hgc:Gl X cb:=by rfl) (hdc:(cb==("__debug__":Str))=false:=by decide) :
  VS K X (.Try body [.ExceptHandler (some (.Name cb np)) (some en) (b0::suite) hp] [] [] tp) (uL K CB tb i th) (zD K CB t i vh):=by
 subst hK
 refine ⟨xT (fun pn xe Hin E T=>(hb pn xe Hin E T).ps) hcb (fun y=>(hs y).ps) hxe hex0 hst hfr hN hi hloc hgc hdc,fun H0 Z σ H S V D k zq l=>?_⟩
 obtain ⟨hil,zq⟩:=zq
 have kl:=k.lendF
 have il:=jg S
 have k2:OK X.K H (fun _=>False) σ H (S.map lendF):=by
  have hm:∀a,NM Z σ (S.map lendF) a->H a≠none->NM (fun _=>False) σ (S.map lendF) a/\H a=H a:=fun a n _=>⟨fun z=>(il.mo.mp z).elim,rfl⟩
  refine ⟨kl.len,fun i o s e1 e2=>?_,kl.inj,kl.dom,fun _ z=>z.elim,fun _ _ _ _ _ _ z=>z⟩
  have q:=kl.at_ i o s e1 e2
  have hi:=il i s e2
  cases s with
  | no=>trivial
  | val d=>obtain ⟨v,e,r⟩:=q;exact ⟨v,e,r.mono hm fun _ x=>x⟩
  | fre d=>obtain ⟨v,e,r⟩:=q;exact ⟨v,e,r.mono hm fun _ x=>x⟩
  | own ds=>cases hi
  | pen ad ns=>cases hi
  | odi ks ds=>cases hi
  | obj k=>cases hi
 refine (hb [] (fun _ _=>True) H _ (fun _ _ _ _ _ _ _ _=>trivial)).snd _ ?_ H (fun _=>False) σ H _ _ k2 (fun a _=>⟨rfl,fun z=>(il.mo.mp z).elim⟩) zq
 rintro C ⟨hex,q⟩ H' g
 refine ⟨C,rfl,hex,fun σ1 y o hl hy hc=>?_⟩
 obtain ⟨k3,st3⟩:=k.allNo (σ1:=σ1) hl g
 have g2:=aI (o:=.frz o (.own y)) hy
 obtain ⟨k4,st4⟩:=(k3.grow g2).setVal (i:=i) (v:=.ref y) (by unfold VL.allNo;rw [Gx];exact hil) (Rep.exc (c:=.ref C) (k3.nm hy) ay hc)
 exact (hs 0).snd H0 Z _ _ _ _ _ k4 q ((l.step ((st3.trans (.grow g2)).trans st4)).letGo)
end
section
variable {S:List Sl} {Q:VR->List Sl->Prop}
theorem B8 {CB:Addr} {t:(Addr->Prop)->List Sl->Prop} {i:Nat} {vh:VTS} {V:aT} (C:Addr) (hi:i < S.length) (hex:Mj K (.ref C) (.ref CB)=some true) (ht:∀Wc:Addr->Prop,Wc C->t Wc (S.map lendF)) (hh:vh (unV V i) ((allNo S).set i (.val (.exc (.ref C))))):zD K CB t i vh V S:=⟨hi,ht _ ⟨hex,hh⟩⟩
theorem xY (h:ql ds q):kO ds q:=.inl h
theorem uM {c:String} {b:Bool} (hk:Ik [] (.type "dict") (.type c)=some b) (h:q (.bl b)):kO [.exc (.type "dict"),.ty c] q:=.inr ⟨c,b,rfl,hk,h⟩
theorem xZ (h:q (.bl false)):kO [.exc (.type "dict"),.ty "tuple"] q:=uM (by decide +kernel) h
end
end VL
end
section
namespace VL
open PySem L2 PySem.W
structure VXe (K:Gn) (X:Cx) (Hin:Hp) (E:XK) (e:Expr) (te:TE) (t:(Addr->Prop)->List Sl->Prop):Prop where
 pe:PE X e te
 snd:∀Wc:Addr->Prop,(∀C,Wc C->∀H',(∀a,Hin a≠none->H' a=Hin a)->E (.ref C) none H')->∀H0 Z σ H S Q,OK K H0 Z σ H S->Fz Hin Z σ S H->t Wc S->te σ H Q
section
variable {K:Gn} {X:Cx} {Hin:Hp} {E:XK} {e:Expr} {es:List Expr} {rest:List Stmt} {te te':TE} {tr tr':TA} {t u:(Addr->Prop)->List Sl->Prop} {v:VT} {vr:VTA} {pos:Pos}
theorem uN {k j:Nat} {x:Str} {ps:List Str} {bad:List D->Addr->Prop} {p0:Pos} (T:Hands X Hin E) (F:nq X.prog X.w X.K X.mg X.base k x ps bad) (hK:X.K=K) (hr:ck j X.A) (ha:VA K X false (e::es) tr vr)
  (hk:k<=j:=by decide) (hg:Gl X x:=by rfl) (hdb:(x==("__debug__":Str))=false:=by decide) (he:GM (e::es) X.env=(false,eval e X.env)::GM es X.env:=by rfl)
  (hpl:(JF pos (GM es X.env)).any (·.1)=false:=by rfl) :
  VXe K X Hin E (.Call (.Name x p0) (e::es) [] pos) (gS (spX K bad) [] (fun c _ H'=>(∀b,Hin b≠none->H' b=Hin b)/\E c none H') tr) (fun Wc S=>vr S fun rs S1=>∃ds C,gets S1 rs=some ds/\bad ds C/\Wc C):=by
 subst hK
 obtain ⟨f,fd,F,hm,kp,hb⟩:=F
 refine ⟨j4 F (hr.mono hk) hg hm kp hb .nil (fun pins σ H s e s' I h=>T pins σ H s e s' I h) ha.pe hdb he hpl,fun Wc hE H0 Z σ H S Q k f h=>?_⟩
 refine ha.snd H0 Z σ H S _ _ k h fun vs H1 rs S1 k1 st1 rrs zr1=>?_
 obtain ⟨ds,C,e,hb,hw⟩:=zr1
 have f1:=f.step st1
 refine ⟨ds,C,by rw [Ia];exact rrs.gets k1 e,hb,fun H' g=>?_⟩
 have fr:∀b,Hin b≠none->H' b=Hin b:=fun b e=>by
  have q:=(f1 b e).1
  rw [<- q]
  exact g b (by rw [q];exact e)
 exact ⟨fr,hE C hw H' fr⟩
end
end VL
end
section
namespace L2
open PySem PySem.Spec PyProof.Rows PySem.W
section
variable {X:Cx} {k k2 i:Nat} {f f2 CB:Addr} {fd fd2:IU} {ps ps2:List Str} {sp sp2:Sp} {c e0 d0:Expr} {es ds:List Expr} {ta ta2:TA} {tc:TT} {x x2 cb en:Str} {b0:Stmt} {suite:List Stmt} {th:TS} {p p2 pos pos2 pe pe2 np hp tp ip:Pos}
noncomputable def zE (K:Gn):R2:=fun x y H Q=>∃a b ys,x=.ref a/\y=.ref b/\SqT K H a []/\SqT K H b ys/\Q (.ref b) H
theorem x6:OpR X (IP .Add) (zE X.K):=by
 intro pins s σ H x y v u Q I rx ry h
 obtain ⟨a,b,ys,rfl,rfl,ha,hb,q⟩:=h
 cases rx
 cases ry
 obtain ⟨its,r1,p1,_⟩:=I.tuple ha
 obtain ⟨its2,r2,p2,_⟩:=I.tuple hb
 cases r1
 obtain ⟨⟨cls,dd,data,sl⟩,ho,hc,n,hd⟩:=id p1
 obtain ⟨⟨cls2,dd2,data2,sl2⟩,ho2,hc2,n2,hd2⟩:=id p2
 simp only at hc hd hc2 hd2
 subst hc hd hc2 hd2
 exact KS ⟨_,ho,rfl⟩ ⟨_,ho2,rfl⟩ Ly MC JX JO (JG _ _) (tuple_addW0 a b _ its2.toArray n n2 dd dd2 sl sl2 rfl) ⟨ho,ho2,.ref b,H,I,rfl,q⟩
end
end L2
end
section
namespace VL
open PySem L2 PySem.SeqAt PySem.Spec PyProof.Rows
noncomputable def lI (ns:List Int):D:=.lst (ns.map .int)
noncomputable def gW (h:Heap) (l:Addr) (ns:List Int):Prop:=∃its:List Gs,h.IsList l its.toArray/\L8 its ns
theorem gW.keep {h h':Heap} {l:Addr} (k:∀b o,h.get? b=some o->h'.get? b=some o) (t:gW h l ns):gW h' l ns:=let ⟨its,⟨o,e,r⟩,i⟩:=t;⟨its,⟨o,k _ _ e,r⟩,i⟩
theorem nL (ms ns:List Int):∀(f i:Nat),ms.length-i<=f->i<=ms.length->i<=ns.length ->
  eO (fun j=>decide (ms[j]?=ns[j]?)) (fun j=>decide (ms.getD j 0 < ns.getD j 0)) ms.length ns.length f i=HT.lexLt (ms.drop i) (ns.drop i):=by
 have far:∀i,ms.length<=i->i<=ns.length->i<=ms.length->decide (ms.length < ns.length)=HT.lexLt (ms.drop i) (ns.drop i):=fun i h1 h2 h3=>by
  rw [LG h1]
  cases hd:ns.drop i with
  | nil=>have:=congrArg IS hd;rw [Ir,Jc] at this;exact decide_eq_false (by lia)
  | cons a r=>have:=congrArg IS hd;rw [Ir,HV] at this;exact decide_eq_true (by lia)
 intro f
 induction f with
 | zero=>intro i h1 h2 h3;exact far i (by lia) h3 h2
 | succ f ih=>
  intro i h1 h2 h3
  rw [eO]
  by_cases g:i < ms.length/\i < ns.length
  ·obtain ⟨g1,g2⟩:=g
   rw [if_pos ⟨g1,g2⟩,HM g1,HM g2,HT.bH,ih (i+1) (by lia) g1 g2,Gr g1,Gr g2,Iy,Iy,Gr g1,Gr g2]
   simp
  ·rw [if_neg g]
   by_cases g1:ms.length<=i
   ·exact far i g1 h3 h2
   ·rw [LG (show ns.length<=i by lia)]
    cases hd:ms.drop i with
    | nil=>have:=congrArg IS hd;rw [Ir,Jc] at this;lia
    | cons a r=>exact decide_eq_false (by lia)
section
variable {X:Cx} {pins:List (Addr×Obj)} {σ:L2.St} {H:Hp} {s:Gv} {K:Gn}
theorem ints_get:∀{its:List Gs} {ns:List Int},L8 its ns->its.length=ns.length/\∀(j:Nat) (h:j < its.length) (h':j < ns.length),∃t,its[j]=.int ns[j] t
 | _,_,.nil=>⟨rfl,fun j h=>absurd h (HU j)⟩
 | _,_,.cons n t r=>by
  obtain ⟨h1,h2⟩:=ints_get r
  refine ⟨by simp [h1],fun j h h'=>?_⟩
  cases j with
  | zero=>exact ⟨t,rfl⟩
  | succ j=>exact h2 j (by simpa using h) (by simpa using h')
theorem gW.lt {A:HQ} {s:Gv} {l l':Addr} {ms ns:List Int} (a:gW s.heap l ms) (b:gW s.heap l' ns) (hu:A.units+4 < Jt):m6 A s (.ref l) (.ref l') (HT.lexLt ms ns):=by
 obtain ⟨us,h1,t1⟩:=a
 obtain ⟨vs,h2,t2⟩:=b
 obtain ⟨z1,p1⟩:=ints_get t1
 obtain ⟨z2,p2⟩:=ints_get t2
 have:=m7 (A:=A) (s:=s) (e:=fun j=>decide (ms[j]?=ns[j]?)) (c:=fun j=>decide (ms.getD j 0 < ns.getD j 0)) h1 h2 (by lia) fun j g1 g2=>by
  have g1':j < us.length:=by simpa using g1
  have g2':j < vs.length:=by simpa using g2
  have l1:j < ms.length:=by rw [<- z1];exact g1'
  have l2:j < ns.length:=by rw [<- z2];exact g2'
  obtain ⟨t,e1⟩:=p1 j g1' l1
  obtain ⟨u,e2⟩:=p2 j g2' l2
  rw [show us.toArray[j]=us[j] by simp,show vs.toArray[j]=vs[j] by simp,e1,e2,show ms.getD j 0=ms[j] by simp [l1],show ns.getD j 0=ns[j] by simp [l2],Gr l1,Gr l2,show decide (some ms[j]=some ns[j])=decide (ms[j]=ns[j]) by simp]
  refine ⟨?_,fun prog w E Q h=>(lt_int h:Hj (Ha prog w) A.in1 (HS .Lt (.int ms[j] t) (.int ns[j] u)) Q E s)⟩
  have:=eqAt_reads _ _ A.in1 s _ _ _ _ (Reads.int (h:=s.heap) ms[j] t) (Reads.int (h:=s.heap) ns[j] u) (b8.lay ms[j]) (b8.lay ns[j]) (by have:=b8.dep ms[j];have h0:(NL ms[j]).depth<=0:=this;show A.units+1+_ < Jt;lia)
  rwa [show (NL ms[j]).eqv (NL ns[j])=decide (ms[j]=ns[j]) from b8.eqv ms[j] ns[j]] at this
 rw [show us.toArray.size=ms.length by simpa using z1,show vs.toArray.size=ns.length by simpa using z2,nL ms ns _ 0 (by lia) (by lia) (by lia),Jy,Jy] at this
 exact this
noncomputable abbrev LIs (K:Gn) (H:Hp) (ls:List Addr) (nss:List (List Int)):Prop:=Mt (fun l ns=>SqL K H l (ns.map V.int)) ls nss
noncomputable def E5 (K:Gn):List V->Hp->VK->Prop:=fun xs H Q=>∃(l:Addr) (ls:List Addr) (nss:List (List Int)),xs=[.ref l]/\SqL K H l (ls.map V.ref)/\LIs K H ls nss/\nss≠[] /\
 ∀(k:Nat) (a:Addr) (ns:List Int),ls[k]?=some a->nss[k]?=some ns->(∀x∈nss,HT.lexLt x ns=false)->Q (.ref a) H
theorem uO (hK:X.K=K) (hc:X.calm=true) (hu:X.A.units+64 < Jt):cL X (.builtin "min") (E5 K):=by
 rintro pins s σ H xs us Q I r ⟨l,ls,nss,e,hq,hl,hne,q⟩
 subst e hK
 obtain ⟨u,rfl,rx⟩:=Vals.one r
 cases rx
 obtain ⟨vs,rv,pl,_⟩:=I.list hq
 rw [gF rv] at pl
 have hlen:ls.length=nss.length:=IM hl
 have hat:Mt (fun l ns=>gW s.heap l ns) ls nss:=Paired.mapP hl fun a b h=>by
  obtain ⟨ws,rw',pl',_⟩:=I.list h
  exact ⟨ws,pl'.isList,intsAre_of rw'⟩
 have hpos:0 < nss.length:=List.length_pos_iff.mpr hne
 have at_:∀{s':Gv},(∀b o,s.heap.get? b=some o->s'.heap.get? b=some o)->∀{k:Nat} {v:Gs},(ls.map Hf).toArray[k]?=some v->∃a,v=.ref a/\ls[k]?=some a/\k < nss.length/\gW s'.heap a (nss.getD k []):=fun {s'} kp {k v} hk=>by
  have hk':(ls.map Hf)[k]?=some v:=by simpa using hk
  rw [GH] at hk'
  obtain ⟨a,h1,rfl⟩:=Option.map_eq_some_iff.mp hk'
  have hkl:k < nss.length:=by rw [<- hlen];exact (List.getElem?_eq_some_iff.mp h1).1
  exact ⟨a,rfl,h1,hkl,(jI hat h1 (b:=nss.getD k []) (by simp [hkl])).keep kp⟩
 refine tf (bt:=fun i j=>HT.lexLt (nss.getD i []) (nss.getD j [])) (I.ok.hd hc) pl.isList (by simpa [hlen] using hpos) (fun s' kp i j vi vj hi hj=>?_) (fun v s' hv kp e1 e2 e3=>?_)
 ·obtain ⟨a,rfl,_,_,ha⟩:=at_ kp hi
  obtain ⟨b,rfl,_,_,hb⟩:=at_ kp hj
  exact ha.lt hb (by show X.A.units+1+4 < Jt;lia)
 ·obtain ⟨b1,b2⟩:=oS (bt:=fun i j=>HT.lexLt (nss.getD i []) (nss.getD j [])) (fun i=>lex_irrefl _) (fun i j k h1 h2=>lex_trans _ _ _ h1 h2) ((ls.map Hf).toArray.size-1)
  obtain ⟨a,rfl,h1,hkl,_⟩:=at_ kp hv
  obtain ⟨hp,gn,dr,tk,os⟩:=s'
  obtain rfl:os=s.os:=e1
  obtain rfl:gn=s.gens:=e2
  obtain rfl:dr=s.drawn:=e3
  refine ⟨.ref a,H,I.kept (t':=tk) kp,rfl,q _ a _ h1 (Gr hkl) fun x hx=>?_⟩
  obtain ⟨j,hj,rfl⟩:=KI hx
  have:=b2 j (by simp [hlen];lia)
  rw [show nss.getD j []=nss[j] by simp [hj],Iy,Gr hkl] at this
  exact this
end
section
variable {K:Gn} {X:Cx} {m:Bool} {e:Expr} {tr:TA} {vr:VTA} {pos p:Pos} {S:List Sl} {Q:VR->List Sl->Prop}
noncomputable def E6 (vr:VTA):VT:=fun S Q=>vr S fun rs S1=>∃nss:List (List Int),rs=[.d (.lst (nss.map lI))]/\nss≠[]/\∀ns∈nss,(∀x∈nss,HT.lexLt x ns=false)->Q (.d (lI ns)) S1
theorem pJ {N:AP}:∀{vs:List V} {nss:List (List Int)},Reps K N F H vs (nss.map lI)->∃ls,vs=ls.map V.ref/\LIs K H ls nss
 | _,[],.nil=>⟨[],rfl,.nil⟩
 | _,ns::r,.cons h t=>by
  obtain ⟨ls,rfl,h2⟩:=pJ t
  obtain ⟨a,vs,rfl,hq,rr⟩:=Rep.sqL h
  cases Reps.toInts rr
  exact ⟨a::ls,rfl,.cons hq h2⟩
theorem B9 (hK:X.K=K) (hc:X.calm=true) (hu:X.A.units+64 < Jt) (hg:Gl X "min") (hm:X.mg "min"=none) (ha:VA K X m [e] tr vr) (he:GM [e] X.env=[(false,eval e X.env)]:=by rfl) :
  VE K X m (.Call (.Name "min" p) [e] [] pos) (tCB (E5 K) tr) (E6 vr):=⟨eE (uO hK hc hu) hg hm AU ha.pe (by decide) (by decide) he rfl,fun H0 Z σ H S Q C k t hcc=>ha.snd H0 Z σ H S _ _ k t fun vs H1 rs S1 k1 st1 rrs zq1=>by
 obtain ⟨nss,e1,hne,q⟩:=zq1
 subst e1
 obtain ⟨v,rfl,rv⟩:=rrs.one
 obtain ⟨a,us,rfl,hq,rr⟩:=Rep.sqL (show Rep K _ _ H1 v (.lst (nss.map lI)) from rv)
 obtain ⟨ls,rfl,hl⟩:=pJ rr
 refine ⟨a,ls,nss,rfl,hq,hl,hne,fun kk b ns h1 h2 h3=>?_⟩
 obtain ⟨d,g1,g2⟩:=rr.get (i:=kk) (v:=.ref b) (by simp [h1])
 rw [GH,h2] at g1
 cases g1
 exact hcc _ H1 (.d (lI ns)) S1 k1 st1 g2 (q ns (HR h2) h3)⟩
@[irreducible] noncomputable def x8 (Q:VR->List Sl->Prop):List VR->List Sl->Prop:=fun rs S1=>∃nss:List (List Int),rs=[.d (.lst (nss.map lI))]/\nss≠[]/\∀ns∈nss,(∀x∈nss,HT.lexLt x ns=false)->Q (.d (lI ns)) S1
theorem E7 (h:vr S (x8 Q)):E6 vr S Q:=by unfold x8 at h;exact h
theorem Ca {nss:List (List Int)} (e:rs=[.d (.lst (nss.map lI))]) (hne:nss≠[]) (h:∀ns∈nss,(∀x∈nss,HT.lexLt x ns=false)->Q (.d (lI ns)) S):x8 Q rs S:=by unfold x8;exact ⟨nss,e,hne,h⟩
end
end VL
end
section
namespace VL
open PySem L2 KT
noncomputable def Gm (ks:List (List Int)) (vs:List D):Dm where
 ok:=fun K H0 N H a=>∃es:List (List Int×Addr×L2.V),(∃ob,H a=some (bS a ob es))/\es.map (·.1)=ks/\Reps K N AnyF H (es.map fun x=>V.ref x.2.1) (ks.map kT)/\Reps K N AnyF H (es.map (·.2.2)) vs
 ism:=by rintro K H0 N H a ⟨es,⟨ob,h⟩,_⟩;rw [h];trivial
 mono:=by
  rintro K H0 N N' H H' a hm he ⟨es,⟨ob,h⟩,e,r1,r2⟩
  exact ⟨es,⟨ob,he.trans h⟩,e,r1.mono hm fun _ x=>x,r2.mono hm fun _ x=>x⟩
noncomputable def od1 (kvs:List (List Int×D)):Sl:=.obj (Gm (kvs.map (·.1)) (kvs.map (·.2)))
section
variable {K:Gn} {N:AP} {F:FP} {H:Hp}
theorem Rep.key1 {v:L2.V} {k:List Int} (h:Rep K N F H v (kT k)):∃b,v=.ref b/\SqN K H b k:=by
 obtain ⟨b,vs,rfl,hq,rr⟩:=Rep.sqT (show Rep K N F H v (.tup (k.map D.int)) from h)
 cases Reps.toInts rr
 exact ⟨b,rfl,SqN.of hq⟩
end
section
variable {K:Gn} {X:Cx} {m:Bool} {e o ie:Expr} {te ti:TE} {va vi:VT} {pos posS:Pos}
noncomputable def zF (i:Nat):VTS:=fun V S=>i < S.length/\V.nx (S.set i (od1 []))
theorem x9 {x:Str} {pos' pd:Pos} (i:Nat) (ps:∀te,PE X (.Dict [] [] pd) te->PS X (.Assign [.Name x pos'] (.Dict [] [] pd) pos) (cW te (bF i))):VS K X (.Assign [.Name x pos'] (.Dict [] [] pd) pos) (cW tI (bF i)) (zF i):=
 ⟨ps _ oV,fun H0 Z σ H S V E k t l=>fun p ob hp=>by
  obtain ⟨hi,q⟩:=t
  obtain ⟨k2,st2⟩:=k.setNew (s:=od1 []) hi hp (aI hp) ⟨p,rfl,k.dom p hp,[],⟨ob,ay⟩,rfl,.nil,.nil⟩ rfl
  exact l.nx _ _ _ k2 st2 q⟩
theorem kP {H0 H:Hp} {y:L2.V} {k:(List Int)} (h:dX K (FM H0 false) Z σ S H y r) (e:get S r=some (kT k)):∃b,y=.ref b/\SqN K H b k/\Rep K (NM Z σ S) AnyF H (.ref b) (kT k):=by
 cases r with
 | d z=>
  cases e
  obtain ⟨b,rfl,hq⟩:=Rep.key1 (show Rep K _ _ H y (kT k) from h)
  exact ⟨b,rfl,hq,Rep.mono (fun _ n _=>⟨n,rfl⟩) (fun _ _=>trivial) h⟩
 | own j=>
  have e:getO S[j]?=some (kT k):=e
  cases es:S[j]? with
  | none=>rw [es] at e;cases e
  | some s=>rw [es] at e;cases s <;> cases e
noncomputable def E8 (i:Nat) (vi:VT):VTT:=fun S Q=>vi S fun rk S1=>∃kvs ms,S1[i]?=some (od1 kvs)/\get S1 rk=some (kT ms)/\Q (decide (ms∈kvs.map (·.1))) S1
theorem Cb (i:Nat) (hK:X.K=K) (hu:X.A.units+64 < Jt) (ho:PE X o (bZ i)) (hi:VE K X false ie ti vi) (hm:Jq .In o=false:=by rfl):VTe K X (.Compare ie [.In] [o] pos) (oe (tOp (qy K false) ti (bZ i))) (E8 i vi):=
 ⟨by subst hK;exact og (tE hu) hi.pe ho hm,fun H0 Z σ H S Q C k t hc=>by
  refine hi.snd H0 Z σ H S _ _ k t fun y H2 rk S2 k2 st2 rr2 zr1=>?_
  obtain ⟨kvs,ms,e1,ek,q⟩:=zr1
  obtain ⟨o2,g2,p,e2,h3,es,h4,h5,h6,h7⟩:=k2.ownAt e1
  subst e2
  obtain ⟨b,rfl,hq,rb⟩:=kP rr2 ek
  refine ⟨.ref p,g2,b,p,ms,es,rfl,rfl,hq,h4,bX (by rw [h5];exact h6),?_⟩
  rw [h5]
  exact ⟨_,rfl,hc _ H2 S2 k2 st2 q⟩⟩
noncomputable def E9 (i:Nat) (vi:VT):VT:=fun S Q=>(∃kvs,S[i]?=some (od1 kvs))/\vi S fun rk S1=>∃kvs ms d,S1[i]?=some (od1 kvs)/\get S1 rk=some (kT ms)/\fx kvs ms=some d/\Q (.d d) S1
theorem Cd (i:Nat) (hK:X.K=K) (hu:X.A.units+64 < Jt) (ho:PE X o (bZ i)) (hi:VE K X false ie ti vi) (hs:dR ie):VE K X false (.Subscript o ie pos) (tOp (pG K) (bZ i) ti) (E9 i vi):=
 ⟨by subst hK;exact oq (uJ hu) ho hi.pe hs,fun H0 Z σ H S Q C k zq hc=>by
  obtain ⟨⟨kvs0,e0⟩,t⟩:=zq
  obtain ⟨o1,g1,p0,e0',_⟩:=k.ownAt e0
  subst e0'
  refine ⟨.ref p0,g1,hi.snd H0 Z σ H S _ _ k t fun y H2 rk S2 k2 st2 rr2 zr1=>?_⟩
  obtain ⟨kvs,ms,d,e1,ek,ed,q⟩:=zr1
  obtain ⟨o2,g2,p,e2,h3,es,h4,h5,h6,h7⟩:=k2.ownAt e1
  subst e2
  rw [g1] at g2;cases g2
  obtain ⟨b,rfl,hq,rb⟩:=kP rr2 ek
  rcases kG (k:=ms) h5 h7 with ⟨_,z2⟩ | ⟨v,d',z1,z2,r⟩
  ·rw [ed] at z2;cases z2
  ·rw [ed] at z2;cases z2
   exact ⟨b,p0,ms,es,v,rfl,rfl,hq,h4,bX (by rw [h5];exact h6),z1,hc _ H2 (.d d) S2 k2 st2 (show Rep K _ _ _ v d from r.mono (fun _ n _=>⟨n,rfl⟩) fun _ _=>FM.any) q⟩⟩
noncomputable def zG (i:Nat) (ve vi:VT):VTS:=fun V S=>ve S fun r S1=>(∃kvs,S1[i]?=some (od1 kvs))/\vi S1 fun ri S2=>∃d ms kvs,r=.d d/\get S2 ri=some (kT ms)/\S2[i]?=some (od1 kvs)/\kvs.length<=1000000/\V.nx (S2.set i (od1 (ba kvs ms d)))
theorem ya (i:Nat) (hK:X.K=K) (hu:X.A.units+64 < Jt) (ho:PE X o (bZ i)) (h:VE K X false e te va) (hi:VE K X false ie ti vi) (hs:IN e (some (.Subscript o ie posS)) pos.line X.env=pure false:=by rfl) :
  VS K X (.Assign [.Subscript o ie posS] e pos) (tF K (bZ i) ti te) (zG i va vi):=⟨by subst hK;exact oU hu ho hi.pe h.pe hs,fun H0 Z σ H S V E k t l=>by
 refine h.snd H0 Z σ H S _ _ k t fun x H1 r S1 k1 st1 rr zr1=>?_
 obtain ⟨⟨kvs0,e0⟩,q⟩:=zr1
 obtain ⟨o1,g1,p,e0',_⟩:=k1.ownAt e0
 subst e0'
 refine ⟨.ref p,g1,hi.snd H0 Z σ H1 S1 _ _ k1 q fun y H2 ri S2 k2 st2 rr2 zr1=>?_⟩
 obtain ⟨d,ms,kvs,er,ek,e1,hl,q2⟩:=zr1
 subst er
 obtain ⟨o2,g2,p',e2,h3,es,⟨ob,h2⟩,h4,h5,h6⟩:=k2.ownAt e1
 subst e2
 rw [g1] at g2;cases g2
 have rx:Rep K (NM Z σ S2) AnyF H2 x d:=(Rep.step (show Rep K (NM Z σ S1) (FM H0 false) H1 x d from rr) st2).mono (fun _ n _=>⟨n,rfl⟩) fun _ _=>trivial
 obtain ⟨b,rfl,hq,rb⟩:=kP rr2 ek
 refine ⟨p,b,ms,es,rfl,rfl,hq,⟨ob,h2⟩,bX (by rw [h4];exact h5),?_,?_⟩
 ·have:es.length=kvs.length:=by have:=congrArg IS h4;simpa using this
  rw [Hv];lia
 ·intro obn
  have na:NM Z σ S2 p->False:=fun n=>n (.inl ⟨i,_,e1,rfl,g1⟩)
  have hm':∀c,NM Z σ S2 c->H2 c≠none->NM Z σ S2 c/\upd H2 p (bS p obn (cX es ms b x)) c=H2 c:=fun c n _=>⟨n,aB fun z=>na (by rw [<- z];exact n)⟩
  obtain ⟨z1,z2,z3⟩:=f9 (k:=ms) (b:=b) (Rep.mono hm' (fun _ x=>x) rx) (Rep.mono hm' (fun _ x=>x) rb) h4 (h5.mono hm' fun _ x=>x) (h6.mono hm' fun _ x=>x)
  obtain ⟨k3,st3⟩:=k2.chgD (s:=od1 (ba kvs ms d)) (o:=bS p obn (cX es ms b x)) e1 rfl g1 rfl ⟨p,rfl,h3,_,⟨obn,ay⟩,z1,z2,z3⟩
  exact l.nx _ _ _ k3 ((st1.trans st2).trans st3) q2⟩
variable {S:List Sl} {V:aT} {QT:Bool->List Sl->Prop} {Q:VR->List Sl->Prop}
noncomputable def Fb (i:Nat) (Q:Bool->List Sl->Prop):VR->List Sl->Prop:=fun rk S1=>∃kvs ms,S1[i]?=some (od1 kvs)/\get S1 rk=some (kT ms)/\Q (decide (ms∈kvs.map (·.1))) S1
theorem Fc {i:Nat} (h:vi S (Fb i QT)):E8 i vi S QT:=h
theorem uP {i:Nat} {ms:(List Int)} {rk:VR} (e1:S[i]?=some (od1 kvs)) (e2:get S rk=some (kT ms)) (h:QT (decide (ms∈kvs.map (·.1))) S):Fb i QT rk S:=⟨kvs,ms,e1,e2,h⟩
noncomputable def Fd (i:Nat) (Q:VR->List Sl->Prop):VR->List Sl->Prop:=fun rk S1=>∃kvs ms d,S1[i]?=some (od1 kvs)/\get S1 rk=some (kT ms)/\fx kvs ms=some d/\Q (.d d) S1
theorem Fe {i:Nat} (e:S[i]?=some (od1 kvs)) (h:vi S (Fd i Q)):E9 i vi S Q:=⟨⟨kvs,e⟩,h⟩
theorem uQ {i:Nat} {ms:(List Int)} {rk:VR} (e1:S[i]?=some (od1 kvs)) (e2:get S rk=some (kT ms)) (e3:fx kvs ms=some d) (h:Q (.d d) S):Fd i Q rk S:=⟨kvs,ms,d,e1,e2,e3,h⟩
noncomputable def zH (i:Nat) (vi:VT) (V:aT):VR->List Sl->Prop:=fun r S1=>(∃kvs,S1[i]?=some (od1 kvs))/\vi S1 fun ri S2=>∃d ms kvs,r=.d d/\get S2 ri=some (kT ms)/\S2[i]?=some (od1 kvs)/\kvs.length<=1000000/\V.nx (S2.set i (od1 (ba kvs ms d)))
noncomputable def uR (i:Nat) (d:D) (V:aT):VR->List Sl->Prop:=fun ri S2=>∃d' ms kvs,VR.d d=.d d'/\get S2 ri=some (kT ms)/\S2[i]?=some (od1 kvs)/\kvs.length<=1000000/\V.nx (S2.set i (od1 (ba kvs ms d')))
theorem Ce {i:Nat} (h:va S (zH i vi V)):zG i va vi V S:=h
theorem yb {i:Nat} (e:S[i]?=some (od1 kvs)) (h:vi S (uR i d V)):zH i vi V (.d d) S:=⟨⟨kvs,e⟩,h⟩
theorem mw {i:Nat} {ms:(List Int)} {rk:VR} (e1:get S rk=some (kT ms)) (e2:S[i]?=some (od1 kvs)) (hl:kvs.length<=1000000) (h:V.nx (S.set i (od1 (ba kvs ms d)))):uR i d V rk S:=⟨d,ms,kvs,rfl,e1,e2,hl,h⟩
theorem Cf {i:Nat} (hi:MW (i+1) S.length=true) (h:V.nx (S.set i (od1 []))):zF i V S:=⟨GW hi,h⟩
end
end VL
namespace VL
open PySem L2
section
variable {vi va:VT} {S:List Sl} {V:aT}
noncomputable def uS (i:Nat) (ds:List D) (j:Nat) (x:Int) (V:aT):VR->List Sl->Prop:=fun r S2=>∃n,r=.d (.int n)/\S2[i]?=some (.own ds)/\V.nx (S2.set i (.own (ds.set j (.int (x+n)))))
noncomputable def zI (i:Nat) (va:VT) (V:aT):VR->List Sl->Prop:=fun ri S1=>∃(ds:List D) (j:Nat) (x:Int),S1[i]?=some (.own ds)/\get S1 ri=some (.int j)/\ds[j]?=some (.int x)/\va S1 (uS i ds j x V)
theorem Cg {i:Nat} (e:S[i]?=some (.own ds)) (h:vi S (zI i va V)):(∃ds,S[i]?=some (.own ds))/\zB i vi va V S:=⟨⟨ds,e⟩,h⟩
theorem yc {i j:Nat} {x:Int} {rk:VR} (e1:S[i]?=some (.own ds)) (e2:get S rk=some (.int j)) (e3:ds[j]?=some (.int x)) (h:va S (uS i ds j x V)):zI i va V rk S:=⟨ds,j,x,e1,e2,e3,h⟩
theorem yd {i j:Nat} {x n:Int} (e:S[i]?=some (.own ds)) (h:V.nx (S.set i (.own (ds.set j (.int (x+n)))))):uS i ds j x V (.d (.int n)) S:=⟨n,rfl,e,h⟩
end
end VL
end
section
namespace VL
open PySem L2 PySem.W
section
variable {K:Gn} {X:Cx} {a b:Expr} {ta tb:TE} {va vb:VT} {pos:Pos} {S:List Sl} {Q:VR->List Sl->Prop}
noncomputable def Ci (ra:VR) (Q:VR->List Sl->Prop):VR->List Sl->Prop:=fun rb S2=>∃ds es,ra=.d (.lst ds)/\rb=.d (.lst es)/\ds.length+es.length<=1000000/\Q (.d (.lst (ds++es))) S2
noncomputable def Cj (vb:VT) (Q:VR->List Sl->Prop):VR->List Sl->Prop:=fun ra S1=>vb S1 (Ci ra Q)
noncomputable def uT (va vb:VT):VT:=fun S Q=>va S (Cj vb Q)
theorem mx (hK:X.K=K) (h1:VE K X false a ta va) (h2:VE K X false b tb vb):VE K X false (.BinOp a .Add b pos) (tOp (uH K) ta tb) (uT va vb):=⟨by subst hK;exact iG uI h1.pe h2.pe,fun H0 Z σ H S Q C k t hc=>
 h1.snd H0 Z σ H S _ _ k t fun x H1 ra S1 k1 st1 r1 t1=>h2.snd H0 Z σ H1 S1 _ _ k1 t1 fun y H2 rb S2 k2 st2 r2 zq1=>by
  obtain ⟨ds,es,e1,e2,hl,q⟩:=zq1
  subst e1;subst e2
  have rx:Rep K (NM Z σ S2) (FM H0 false) H2 x (.lst ds):=(show dX K _ Z σ S1 H1 x (.d (.lst ds)) from r1).step st2
  obtain ⟨p,vs,rfl,hq,rr⟩:=rx.sqL
  obtain ⟨p',vs',rfl,hq',rr'⟩:=Rep.sqL (show Rep K _ _ H2 y (.lst es) from r2)
  refine ⟨p,p',vs,vs',rfl,rfl,hq,hq',by rw [rr.length,rr'.length,Hv];lia,fun l hl2=>?_⟩
  have g:=aI (o:=.lst (vs++vs')) hl2
  exact hc (.ref l) _ (.d (.lst (ds++es))) S2 (k2.grow g) ((st1.trans st2).trans (.grow g)) (Rep.lst (k2.nm hl2) (fun z=>nomatch z) ay ((Reps.append rr rr').mono (fun b n e=>⟨n,g b e⟩) fun _ x=>x)) q⟩
theorem ye (h:va S (Cj vb Q)):uT va vb S Q:=h
theorem Ck {ra:VR} (h:vb S (Ci ra Q)):Cj vb Q ra S:=h
theorem uU {ds es:List D} (hl:ds.length+es.length<=1000000) (h:Q (.d (.lst (ds++es))) S):Ci (.d (.lst ds)) Q (.d (.lst es)) S:=⟨ds,es,rfl,rfl,hl,h⟩
end
end VL
end
section
namespace L2
open PySem PySem.Spec PyProof.Rows
open PySem.SeqAt PySem.MeetsSeq PySem.MeetsSeq2 PySem.MeetsSeq3
theorem qN:fillsNumberSlot (.type "tuple") "mul"=pure false:=
 PySem.fillsNumberSlot_seq (r:=some (.builtin "tuple.__rmul__")) F.slot_tuple_mul.lookup (by decide +kernel) F.slot_tuple_rmul.lookup (by decide +kernel)
theorem yf:seqRepeat? (.type "tuple")=pure (some (.builtin "tuple.__mul__")):=by
 have a:seqSlot? (.type "tuple") "__mul__"=pure (some (.builtin "tuple.__mul__")):=PySem.seqSlot_of F.slot_tuple_mul.lookup (by decide +kernel)
 have b:seqSlot? (.type "tuple") "__rmul__"=pure (some (.builtin "tuple.__rmul__")):=PySem.seqSlot_of F.slot_tuple_rmul.lookup (by decide +kernel)
 unfold seqRepeat?
 rw [a,b]
 rfl
theorem uV (k:Int) (t:Tok) (l:Addr) (its:Array Gs) (n:Nat) (dd) (sl) :
  Meets (Builtin.«int.__rmul__» ⟨[.int k t,.ref l],[]⟩) (fun _ R s=>s.heap.get? l=some { cls:=.type "tuple",dict:=dd,data:=.seq its n,slots:=sl }/\R (.ok (.ret L4)) s):=
 .of_wp fun prog w A R s h=>by
  obtain ⟨hp,g,d,tk,os⟩:=s
  obtain ⟨hl,h⟩:=h
  wp_walk
  exact ⟨_,rfl,h⟩
theorem uW (t:Tok) (l:Addr) (its:Array Gs) (n:Nat) (dd) (sl) :
  Meets (Builtin.«tuple.__mul__» ⟨[.ref l,.int 1 t],[]⟩) (fun _ R s=>s.heap.get? l=some { cls:=.type "tuple",dict:=dd,data:=.seq its n,slots:=sl }/\R (.ok (.ret (.ref l))) s):=
 .of_wp fun prog w A R s h=>by
  obtain ⟨hp,g,d,tk,os⟩:=s
  obtain ⟨hl,h⟩:=h
  wp_walk
  exact ⟨_,rfl,h⟩
theorem uX (t:Tok) (l:Addr) (its:Array Gs) (n:Nat) (dd) (sl) (hn:its.isEmpty=false) :
  Meets (Builtin.«tuple.__mul__» ⟨[.ref l,.int 0 t],[]⟩) (fun _ R s=>s.heap.get? l=some { cls:=.type "tuple",dict:=dd,data:=.seq its n,slots:=sl }/\R (.ok (.ret (.ref s.heap.objs.size))) { s with heap:=s.heap.push { cls:=.type "tuple",data:=.seq #[] } }):=
 .of_wp fun prog w A R s h=>by
  obtain ⟨hp,g,d,tk,os⟩:=s
  obtain ⟨hl,h⟩:=h
  wp_walk
  exact ⟨_,rfl,h⟩
end L2
namespace L2
open PySem PySem.Spec PyProof.Rows
section
variable {X:Cx}
noncomputable def zJ (K:Gn):R2:=fun x y H Q=>∃a k xs,x=.ref a/\y=.int k/\SqT K H a xs/\xs≠[]/\(k=1/\Q (.ref a) H\/k=0/\∀p,H p=none->Q (.ref p) (upd H p (.tup [])))
theorem yg:OpR X (IP .Mult) (zJ X.K):=by
 rintro pins s σ H x y v u Q I rx ry ⟨a,k,xs,e1,e2,ha,hx,q⟩
 subst e1;subst e2
 cases rx
 obtain ⟨t,rfl⟩:=ry
 obtain ⟨its,r,pl,_⟩:=I.tuple ha
 obtain ⟨⟨cls,dd,data,sl⟩,ho,hc,n,hd⟩:=id pl
 cases (show cls=.type "tuple" from hc)
 cases (show data=.seq its.toArray n from hd)
 have ne:its.toArray.isEmpty=false:=by
  cases its with
  | nil=>cases r;exact absurd rfl hx
  | cons b r'=>rfl
 refine wpAny_binaryOp_repeat_ref (T:="tuple") (U:="int") (by decide) ⟨_,ho,rfl⟩ (fun s'=>NJ s' k t) qN F.fills_int_mul F.slot_int_rmul yf F.slot_int_index.lookup
  (Ld F.slot_int_rmul (NJ s k t) F.entry_int_rmul (F.args_int_rmul_2 _ _) (uV k t a its.toArray n dd sl) ⟨ho,rfl,⟨_,ho,rfl⟩,?_⟩)
 rcases q with ⟨rfl,q⟩ | ⟨rfl,q⟩
 ·exact Ld F.slot_tuple_mul ⟨_,ho,rfl⟩ F.entry_tuple_mul (F.args_tuple_mul_2 _ _) (uW t a its.toArray n dd sl) ⟨ho,.ref a,H,I,rfl,q⟩
 ·refine Ld F.slot_tuple_mul ⟨_,ho,rfl⟩ F.entry_tuple_mul (F.args_tuple_mul_2 _ _) (uX t a its.toArray n dd sl ne) ⟨ho,.ref s.heap.objs.size,_,I.laid (t':=s.toks) (o:=.tup []) (fun b ob q=>Gu _ q) (Gz _) ?_,rfl,q _ (I.hok.fresh (Gz _))⟩
  exact ⟨IG _,[],.nil,Nu _ _⟩
end
end L2
namespace VL
open PySem L2
section
variable {K:Gn} {X:Cx} {m:Bool} {a b:Expr} {ta tb:TE} {va vb:VT} {pos:Pos} {S:List Sl} {Q:VR->List Sl->Prop}
noncomputable def Cm (ra:VR) (Q:VR->List Sl->Prop):VR->List Sl->Prop:=fun rb S2=>∃ds k,ra=.d (.tup ds)/\rb=.d (.int k)/\ds≠[]/\(k=0\/k=1)/\Q (.d (.tup (if k=1 then ds else []))) S2
noncomputable def Co (vb:VT) (Q:VR->List Sl->Prop):VR->List Sl->Prop:=fun ra S1=>vb S1 (Cm ra Q)
noncomputable def zK (va vb:VT):VT:=fun S Q=>va S (Co vb Q)
theorem yh (hK:X.K=K) (ha:VE K X m a ta va) (hb:VE K X m b tb vb):VE K X m (.BinOp a .Mult b pos) (tOp (zJ K) ta tb) (zK va vb):=⟨by subst hK;exact iG yg ha.pe hb.pe,fun H0 Z σ H S Q C k t hc=>
 ha.snd H0 Z σ H S _ _ k t fun x H1 ra S1 k1 st1 r1 t1=>hb.snd H0 Z σ H1 S1 _ _ k1 t1 fun y H2 rb S2 k2 st2 r2 zq1=>by
  obtain ⟨ds,n,e1,e2,n1,hn,q⟩:=zq1
  subst e1;subst e2
  have rx:Rep K (NM Z σ S2) (FM H0 m) H2 x (.tup ds):=(show dX K _ Z σ S1 H1 x (.d (.tup ds)) from r1).step st2
  obtain ⟨p,vs,rfl,hq,rr⟩:=rx.sqT
  cases (show Rep K _ _ H2 y (.int n) from r2)
  refine ⟨p,n,vs,rfl,rfl,hq,fun z=>n1 (Hm (by rw [<- rr.length,z];rfl)),?_⟩
  rcases hn with rfl | rfl
  ·refine .inr ⟨rfl,fun l hl2=>?_⟩
   have g:=aI (o:=.tup []) hl2
   exact hc _ _ (.d (.tup [])) S2 (k2.grow g) ((st1.trans st2).trans (.grow g)) (show Rep K _ _ _ _ _ from Rep.tup (k2.nm hl2) (.inl ay) .nil) q
  ·exact .inl ⟨rfl,hc _ _ (.d (.tup ds)) S2 k2 (st1.trans st2) rx q⟩⟩
theorem Cp (h:va S (Co vb Q)):zK va vb S Q:=h
theorem Cq {ra:VR} (h:vb S (Cm ra Q)):Co vb Q ra S:=h
theorem nM {k:Int} (h1:ds≠[]) (hk:k=0\/k=1) (h:Q (.d (.tup (if k=1 then ds else []))) S):Cm (.d (.tup ds)) Q (.d (.int k)) S:=⟨ds,k,rfl,rfl,h1,hk,h⟩
noncomputable def zL (K:Gn):R2:=fun x y H Q=>yN K x y H Q\/zE K x y H Q
theorem yi:OpR X (IP .Add) (zL X.K):=by
 rintro pins s σ H x y v u Q I rx ry (h | h)
 ·exact we pins s σ H x y v u Q I rx ry h
 ·exact x6 pins s σ H x y v u Q I rx ry h
noncomputable def Cr (ra:VR) (Q:VR->List Sl->Prop):VR->List Sl->Prop:=fun rb S2=>∃ds es,ra=.d (.tup ds)/\rb=.d (.tup es)/\ds.length+es.length<=1000/\Q (.d (.tup (ds++es))) S2
noncomputable def Cs (vb:VT) (Q:VR->List Sl->Prop):VR->List Sl->Prop:=fun ra S1=>vb S1 (Cr ra Q)
noncomputable def zM (va vb:VT):VT:=fun S Q=>va S (Cs vb Q)
theorem yj (hK:X.K=K) (ha:VE K X m a ta va) (hb:VE K X m b tb vb):VE K X m (.BinOp a .Add b pos) (tOp (zL K) ta tb) (zM va vb):=⟨by subst hK;exact iG yi ha.pe hb.pe,fun H0 Z σ H S Q C k t hc=>
 ha.snd H0 Z σ H S _ _ k t fun x H1 ra S1 k1 st1 r1 t1=>hb.snd H0 Z σ H1 S1 _ _ k1 t1 fun y H2 rb S2 k2 st2 r2 zq1=>by
  obtain ⟨ds,es,e1,e2,hl,q⟩:=zq1
  subst e1;subst e2
  have rx:Rep K (NM Z σ S2) (FM H0 m) H2 x (.tup ds):=(show dX K _ Z σ S1 H1 x (.d (.tup ds)) from r1).step st2
  obtain ⟨p,vs,rfl,hq,rr⟩:=id rx.sqT
  obtain ⟨p',vs',rfl,hq',rr'⟩:=Rep.sqT (show Rep K _ _ H2 y (.tup es) from r2)
  have l1:=rr.length
  have l2:=rr'.length
  by_cases e0:ds=[]
  ·subst e0
   cases rr
   exact .inr ⟨p,p',vs',rfl,rfl,hq,hq',hc _ H2 (.d (.tup es)) S2 k2 (st1.trans st2) r2 q⟩
  ·refine .inl ⟨p,p',vs,vs',rfl,rfl,hq,hq',fun z=>e0 (Hm (by rw [<- l1,z];rfl)),by rw [l1,l2,Hv];lia,fun z=>?_,fun _ l hl2=>?_⟩
   ·obtain rfl:es=[]:=Hm (by rw [<- l2,z];rfl)
    rw [Ia] at q
    exact hc _ _ (.d (.tup ds)) S2 k2 (st1.trans st2) rx q
   ·have g:=aI (o:=.tup (vs++vs')) hl2
    exact hc _ _ (.d (.tup (ds++es))) S2 (k2.grow g) ((st1.trans st2).trans (.grow g)) (show Rep K _ _ _ _ _ from Rep.tup (k2.nm hl2) (.inl ay) ((Reps.append rr rr').mono (fun a n e=>⟨n,g a e⟩) fun _ x=>x)) q⟩
theorem Ct (h:va S (Cs vb Q)):zM va vb S Q:=h
theorem Cu {ra:VR} (h:vb S (Cr ra Q)):Cs vb Q ra S:=h
theorem nN {ds es:List D} (hl:ds.length+es.length<=1000) (h:Q (.d (.tup (ds++es))) S):Cr (.d (.tup ds)) Q (.d (.tup es)) S:=⟨ds,es,rfl,rfl,hl,h⟩
end
end VL
namespace VL
open PySem L2 PySem.W
section
variable {K:Gn} {X:Cx} {Hin:Hp} {E:XK} {e:Expr} {rest:List Stmt} {te:TE} {t:(Addr->Prop)->List Sl->Prop} {pos:Pos}
theorem uY (h:VXe K X Hin E e te t) (hs:IN e none pos.line X.env=pure false:=by rfl):VXs K X Hin E (.Expr e pos::rest) (qZ (nW te) fC) t:=
 ⟨fR (jY h.pe hs) e7,fun Wc hE H0 Z σ H S D k f z=>h.snd Wc hE H0 Z σ H S _ k f z⟩
end
end VL
end
local macro_rules | `(tactic| walk_at "L") => `(tactic| (intros; rename_i z; repeat' (first | (obtain ⟨e, _⟩ := z; subst e; rfl) | (obtain ⟨_, z⟩ := z))))
local macro_rules | `(tactic| walk_at "s") => `(tactic| exact ⟨rfl, rfl, rfl, by decide +kernel, rfl, by decide +kernel, by decide +kernel⟩)
theorem My.len1 {α:Type} {l:List α} (h:l.length=1):∃a0,l=[a0]:=match l,h with|[a0],_=>⟨a0,rfl⟩
local macro_rules | `(tactic| walk_at "1") => `(tactic| exact (fun _ _ _ _ _ _ us hl => by obtain ⟨_,e⟩ := My.len1 hl; subst e; exact rfl))
theorem My.len2 {α:Type} {l:List α} (h:l.length=2):∃a0 a1,l=[a0,a1]:=match l,h with|[a0,a1],_=>⟨a0,a1,rfl⟩
local macro_rules | `(tactic| walk_at "2") => `(tactic| exact (fun _ _ _ _ _ _ us hl => by obtain ⟨_,_,e⟩ := My.len2 hl; subst e; exact rfl))
theorem My.len3 {α:Type} {l:List α} (h:l.length=3):∃a0 a1 a2,l=[a0,a1,a2]:=match l,h with|[a0,a1,a2],_=>⟨a0,a1,a2,rfl⟩
local macro_rules | `(tactic| walk_at "3") => `(tactic| exact (fun _ _ _ _ _ _ us hl => by obtain ⟨_,_,_,e⟩ := My.len3 hl; subst e; exact rfl))
theorem My.len4 {α:Type} {l:List α} (h:l.length=4):∃a0 a1 a2 a3,l=[a0,a1,a2,a3]:=match l,h with|[a0,a1,a2,a3],_=>⟨a0,a1,a2,a3,rfl⟩
local macro_rules | `(tactic| walk_at "4") => `(tactic| exact (fun _ _ _ _ _ _ us hl => by obtain ⟨_,_,_,_,e⟩ := My.len4 hl; subst e; exact rfl))
local macro_rules | `(tactic| walk_at "l0") => `(tactic| first
 | with_reducible refine VL.Bc ?_
 | with_reducible refine VL.wZ ?_
 | ((with_reducible refine' VL.DO ?h ?_);(case h=>exact rfl))
 | with_reducible refine VL.j_c ?_
 | with_reducible refine VL.D1 ?_
 | with_reducible refine VL.j_2 ?_
 | ((with_reducible refine' VL.F9 ?h1 ?h2 ?_);(case h1=>exact rfl);(case h2=>exact rfl))
 | with_reducible refine VL.F8 ?_
 | with_reducible refine VL.AV ?_
 | with_reducible refine VL.DI ?_
 | ((with_reducible refine' VL.F4 ?h ?_);(case h=>exact rfl);(try dsimp only [Hg,Hk]))
 | with_reducible refine VL.D2 ?_
 | ((with_reducible refine' VL.Bd ?h1 ?h2 ?_);(case h1=>exact rfl);(case h2=>exact rfl))
 | ((with_reducible refine' VL.A1 ?h ?_);(case h=>exact rfl))
 | with_reducible refine VL.DL ?_
 | ((with_reducible refine' VL.D6 ?h ?_);(case h=>exact rfl))
 | with_reducible refine VL.wW ?_
 | with_reducible refine VL.Ga ?_
 | with_reducible refine VL.DT ?_
 | ((with_reducible refine' VL.bU ?h1 ?h2 ?h3 ?_);(case h1=>exact rfl);(case h2=>exact rfl);(case h3=>exact rfl))
 | ((with_reducible refine' VL.y9 ?h1 ?h2 ?h3 ?_);(case h1=>exact rfl);(case h2=>exact rfl);(case h3=>first | exact rfl | exact VL.at_0))
 | with_reducible refine VL.AX ?_
 | with_reducible refine VL.DJ ?_
 | with_reducible refine VL.DP ?_
 | with_reducible refine VL.D5 ?_
 | with_reducible refine VL.Bg ?_)
local macro_rules | `(tactic| walk_at "l1") => `(tactic| first
 | with_reducible refine VL.A6 ?_
 | ((with_reducible refine' VL.DQ ?h ?_);(case h=>first | exact (by decide) | exact .inl ⟨by decide,by decide⟩ | exact .inr ⟨by decide,by decide⟩ | (show (0:Int) < _;lia) | (show (0:Int)<=_;lia) | exact ⟨by decide,by decide,by decide⟩ | exact ⟨by lia,by lia,by lia⟩ | exact ⟨by lia,by lia⟩ | exact .inl ⟨by lia,by lia⟩ | exact .inr ⟨by lia,by lia⟩))
 | with_reducible refine VL.DM ?_
 | with_reducible refine VL.A3 ?_
 | with_reducible refine VL.A4 ?_
 | ((with_reducible refine' VL.cD ?h ?_);(case h=>first | exact rfl | simp only [VL.flat,VL.flats,VL.aN,VL.eT,VL.dH,Bool.and_self]))
 | with_reducible refine VL.sN ?_
 | with_reducible refine VL.D4 ?_
 | ((with_reducible refine' VL.Be ?h1 ?h2 ?_);(case h1=>exact rfl);(case h2=>exact rfl))
 | with_reducible refine VL.wR ?_
 | with_reducible refine VL.Ge ?_
 | with_reducible refine VL.Gf ?_
 | with_reducible refine VL.Eb ?_
 | ((with_reducible refine' VL.Bk ?h1 ?h2 ?h3 ?_);(case h1=>exact rfl);(case h2=>exact rfl);(case h3=>exact rfl))
 | with_reducible refine VL.sJ ?_
 | with_reducible refine VL.sL ?_
 | with_reducible refine VL.A9 ?_
 | ((with_reducible refine' VL.zb ?h1 ?h2 ?_);(case h1=>(intro n z;cases z));(case h2=>first | exact L2.kh | exact L2.js | exact L2.isiB_list_list | exact L2.isiB_tuple_tuple | exact L2.isiB_bool_bool | exact L2.isiB_f1 | exact L2.isiB_f2 | exact L2.isiB_f3 | exact L2.isiB_f4 | exact L2.isiB_f5 | exact L2.isiB_f6 | exact L2.isiB_g1 | exact L2.isiB_g2 | exact L2.isiB_g3 | exact L2.isiB_g4 | exact L2.isiB_g5 | exact L2.isiB_g6 | exact L2.isiB_h1 | exact L2.isiB_h2 | exact L2.isiB_h3 | exact L2.isiB_h4 | exact L2.isiB_h5 | exact L2.isiB_h6 | exact L2.isiB_h7))
 | with_reducible refine VL.Eg ?_
 | with_reducible refine VL.Bn ?_
 | with_reducible refine VL.Ee ?_
 | with_reducible refine VL.AY ?_
 | ((with_reducible refine' VL.F7 ?h ?_);(case h=>exact rfl);(try simp only [GO,Hu]))
 | with_reducible refine VL.El ?_
 | with_reducible refine VL.EF ?_
 | with_reducible refine VL.Ej ?_
 | ((with_reducible refine' VL.Bo ?h ?_);(case h=>exact ⟨by lia,by lia⟩))
 | with_reducible refine VL.Bq ?_
 | with_reducible refine VL.qw ?_
 | with_reducible refine VL.qA ?_
 | with_reducible refine VL.Gb ?_
 | ((with_reducible refine' VL.DU ?h ?_);(case h=>exact rfl))
 | with_reducible refine VL.lS ?_
 | with_reducible refine VL.Bh ?_
 | with_reducible refine VL.Bi ?_
 | with_reducible refine VL.Br ?_
 | with_reducible refine VL.AZ ?_
 | ((with_reducible refine' VL.wU ?h ?_);(case h=>exact rfl);(try dsimp only [Hg,Hk]))
 | with_reducible refine VL.A7 ?_
 | with_reducible refine VL.DX ?_
 | with_reducible refine VL.xZ ?_
 | with_reducible refine VL.xY ?_
 | with_reducible refine VL.A2 ?_
 | ((with_reducible refine' VL.BJ ?h ?_);(case h=>exact GB rfl))
 | with_reducible refine VL.sS ?_
 | with_reducible refine VL.ES ?_
 | with_reducible refine VL.ET ?_
 | with_reducible refine VL.EU ?_
 | with_reducible refine VL.EW ?_
 | with_reducible refine VL.xK ?_)
local macro_rules | `(tactic| walk_at "l2") => `(tactic| first
 | with_reducible refine VL.wV ?_
 | with_reducible refine VL.Gj ?_
 | with_reducible refine VL.Bv ?_
 | with_reducible refine VL.Bw ?_
 | with_reducible refine VL.By ?_
 | with_reducible refine VL.tD ?_
 | with_reducible refine VL.Ey ?_
 | with_reducible refine VL.BD ?_
 | ((with_reducible refine' VL.xm ?h ?_);(case h=>exact rfl);(try dsimp only [Hg,Hk]))
 | with_reducible refine VL.Ct ?_
 | with_reducible refine VL.Cu ?_
 | with_reducible refine VL.Cp ?_
 | with_reducible refine VL.Cq ?_
 | with_reducible refine VL.E3 ?_
 | ((with_reducible refine' VL.Ed ?h ?_);(case h=>exact rfl))
 | with_reducible refine VL.Bm ?_
 | with_reducible refine VL.Bl ?_
 | ((with_reducible refine' VL.m4 ?h1 ?h2 ?_);(case h1=>exact rfl);(case h2=>first | lia | (simp only [G6,HV,Jc,Gx];lia) | exact GW rfl);(try dsimp only [Hg,Hk]))
 | with_reducible refine VL.DW ?_
 | with_reducible refine VL.Gc ?_
 | with_reducible refine VL.Ba ?_
 | with_reducible refine VL.wX ?_
 | with_reducible refine VL.w4 ?_
 | ((with_reducible refine' VL.Ew ?h ?_);(case h=>exact rfl))
 | with_reducible refine VL.Fc ?_
 | ((with_reducible refine' VL.Fe ?h ?_);(case h=>exact rfl))
 | with_reducible refine VL.Ce ?_
 | ((with_reducible refine' VL.yb ?h ?_);(case h=>exact rfl))
 | with_reducible refine VL.EZ ?_
 | ((with_reducible refine' VL.B4 ?h ?_);(case h=>exact rfl))
 | with_reducible refine VL.ye ?_
 | with_reducible refine VL.Ck ?_
 | with_reducible refine VL.BP ?_
 | with_reducible refine VL.BQ ?_
 | ((with_reducible refine' VL.t5 ?h ?_);(case h=>exact rfl))
 | with_reducible refine VL.w6 ?_
 | ((with_reducible refine' VL.sV ?h1 ?h2 ?_);(case h1=>exact rfl);(case h2=>exact rfl))
 | ((with_reducible refine' VL.qv ?h1 ?h2 ?h3 ?_);(case h1=>exact rfl);(case h2=>exact rfl);(case h3=>exact rfl);(try dsimp only [Hg,Hk]))
 | with_reducible refine VL.oH ?_
 | with_reducible refine VL.oI ?_
 | with_reducible refine VL.DR ?_
 | with_reducible refine VL.BK ?_
 | with_reducible refine VL.EI ?_
 | with_reducible refine VL.BC ?_
 | with_reducible refine VL.BE ?_
 | ((with_reducible refine' VL.xn ?h ?_);(case h=>exact rfl))
 | ((with_reducible refine' VL.Cf ?h ?_);(case h=>exact rfl);(try dsimp only [Hg,Hk]))
 | with_reducible refine VL.E7 ?_
 | with_reducible refine VL.xM ?_
 | with_reducible refine VL.uB ?_
 | with_reducible refine VL.BR ?_
 | with_reducible refine VL.BS ?_
 | with_reducible refine VL.xA ?_
 | ((with_reducible refine' VL.EL ?h ?_);(case h=>exact rfl))
 | with_reducible refine VL.Em ?_
 | with_reducible refine VL.D9 ?_
 | ((with_reducible refine' VL.Bj ?h ?_);(case h=>exact rfl))
 | with_reducible refine VL.A0 ?_
 | ((with_reducible refine' VL.oG ?h ?_);(case h=>exact rfl);(try dsimp only [Hg,Hk]))
 | with_reducible refine VL.Ek ?_
 | ((with_reducible refine' VL.Bp ?h ?_);(case h=>exact ⟨by lia,by lia,by lia,by lia⟩))
 | with_reducible refine VL.sP ?_
 | with_reducible refine VL.DZ ?_
 | with_reducible refine VL.D0 ?_
 | with_reducible refine VL.uF ?_
 | with_reducible refine VL.B3 ?_
 | ((with_reducible refine' VL.B1 ?h ?_);(case h=>exact rfl))
 | with_reducible refine VL.Ex ?_
 | with_reducible refine VL.EA ?_
 | with_reducible refine VL.EE ?_
 | with_reducible refine VL.xo ?_
 | with_reducible refine VL.BI ?_)
local macro_rules | `(tactic| walk_at "rd1") => `(tactic| first
 | walk_at "l0"
 | walk_at "l1"
 | walk_at "l2")
local macro_rules | `(tactic| walk_at "rc1") => `(tactic| first
 | walk_at "rd1"
 | ((with_reducible refine' VL.Eo ?h ?_);(case h=>exact rfl))
 | ((with_reducible refine' VL.Ep ?h ?_);(case h=>exact rfl))
 | ((with_reducible refine' VL.Bs ?h ?_);(case h=>exact rfl))
 | ((with_reducible refine' VL.Bt ?h ?_);(case h=>exact rfl))
 | ((with_reducible refine' VL.En ?h ?_);(case h=>exact rfl))
 | ((with_reducible refine' VL.Gg ?h ?_);(case h=>exact rfl))
 | ((with_reducible refine' VL.Gh ?h ?_);(case h=>exact rfl))
 | ((with_reducible refine' VL.lU ?h ?_);(case h=>exact rfl))
 | ((with_reducible refine' VL.zc ?h ?_);(case h=>exact rfl))
 | ((with_reducible refine' VL.Er ?h ?_);(case h=>exact rfl)))
local macro_rules | `(tactic| walk_at "rc") => `(tactic| repeat walk_at "rc1")
local macro_rules | `(tactic| walk_at "rd") => `(tactic| repeat walk_at "rd1")
local macro_rules | `(tactic| walk_at "sl") => `(tactic| simp only [VL.slots, VL.dZ, VL.eT, GO, Hu, HV, Jc, Hq, Hr, Nat.reduceAdd, Nat.reduceSub, KU, List.replicate_succ, List.replicate_zero])
namespace My
open PySem L2 VL
noncomputable def top (i:Nat):Stmt:=PySem.Challenge.pw_cellships_k25_fates_on_rings.main.body.getD i (.Pass ⟨0,0,0,0⟩)
noncomputable abbrev jh:Stmt:=top 1
theorem qO:aE ["thing"] ["thing"] (aj jh):=by walk_at "s"
noncomputable abbrev kQ:Stmt:=top 2
theorem uZ:aE ["thing"] ["thing"] (aj kQ):=by walk_at "s"
noncomputable abbrev ji:Stmt:=top 19
theorem qP:aE ["kind"] ["kind"] (aj ji):=by walk_at "s"
noncomputable abbrev jk:Stmt:=top 21
theorem qQ:aE ["rule"] ["rule"] (aj jk):=by walk_at "s"
noncomputable abbrev nO:Stmt:=top 22
theorem iz:aE ["rule","alive","count","kind","born","stay"] ["rule","alive","count"] (aj nO):=by walk_at "s"
noncomputable abbrev cI:Stmt:=top 24
theorem gj:aE ["rule","picture","tally","living"] ["rule","picture","tally"] (aj cI):=by walk_at "s"
noncomputable abbrev eV:Stmt:=top 26
theorem kR:aE ["thing"] ["thing"] (aj eV):=by walk_at "s"
noncomputable abbrev b7:Stmt:=top 27
theorem eW:aE ["size"] ["size"] (aj b7):=by walk_at "s"
noncomputable abbrev d8:Stmt:=top 28
theorem cJ:aE ["size","picture","move","wide","high","dx","dy"] ["size","picture","move"] (aj d8):=by walk_at "s"
noncomputable abbrev dq:Stmt:=top 29
theorem bh:aE ["kind","size","picture","wide","high","around","tally","x","y","dx","dy"] ["kind","size","picture"] (aj dq):=by walk_at "s"
noncomputable abbrev gQ:Stmt:=top 30
theorem nP:aE ["rule","size","picture"] ["rule","size","picture"] (aj gQ):=by walk_at "s"
noncomputable abbrev iA:Stmt:=top 32
theorem dJ:aE ["size","picture","wide","high","rows","x","y"] ["size","picture"] (aj iA):=by walk_at "s"
noncomputable abbrev kS:Stmt:=top 34
theorem u6:aE ["wide","row"] ["wide","row"] (aj kS):=by walk_at "s"
noncomputable abbrev eX:Stmt:=top 35
theorem cg:aE ["size","picture","wide","high","rows","least","dx"] ["size","picture"] (aj eX):=by walk_at "s"
noncomputable abbrev cT:Stmt:=top 36
theorem bL:aE ["size","one","other","wide","high","dx","dy"] ["size","one","other"] (aj cT):=by walk_at "s"
noncomputable abbrev dM:Stmt:=top 37
theorem bJ:aE ["rule","size","picture","most","seen","now","turn","key","first","earlier"] ["rule","size","picture","most"] (aj dM):=by walk_at "s"
noncomputable abbrev u7:Stmt:=top 39
theorem kU:aE ["_law_script","_law_k","_law_cell"] ["_law_script","_law_k"] (aj u7):=by walk_at "s"
noncomputable abbrev nQ:Stmt:=top 40
theorem gm:aE ["_law_pen_here","_law_many","_law_drawn","_law_number"] ["_law_pen_here","_law_many"] (aj nQ):=by walk_at "s"
noncomputable abbrev jl:Stmt:=top 41
theorem fu:aE ["_law_pen_here","_law_kind","_law_least_here","_law_born","_law_stay"] ["_law_pen_here"] (aj jl):=by walk_at "s"
noncomputable abbrev nR:Stmt:=top 42
theorem kW:aE ["_law_pen_here","_law_way","_law_side"] ["_law_pen_here"] (aj nR):=by walk_at "s"
noncomputable abbrev pK:Stmt:=top 43
theorem nS:aE ["_law_size_here","_law_found","_law_x"] ["_law_size_here"] (aj pK):=by walk_at "s"
noncomputable abbrev dN:Stmt:=top 44
theorem bW:aE ["_law_pen_here","_law_size_here","_law_way","_law_cells","_law_share","_law_at","_law_dx","_law_dy","_law_some"] ["_law_pen_here","_law_size_here"] (aj dN):=by walk_at "s"
noncomputable abbrev kX:Stmt:=top 45
theorem gq:aE ["_law_kind","_law_found"] ["_law_kind"] (aj kX):=by walk_at "s"
noncomputable abbrev cU:Stmt:=top 46
theorem bG:aE ["_law_told","_law_size_here","_law_live","_law_alive","_law_cell","_law_found","_law_x","_law_y","_law_near","_law_many"] ["_law_told","_law_size_here","_law_live"] (aj cU):=by walk_at "s"
noncomputable abbrev u9:Stmt:=top 47
theorem nT:aE ["_law_size_here","_law_one","_law_there","_law_move","_law_x","_law_y"] ["_law_size_here","_law_one","_law_there","_law_move"] (aj u9):=by walk_at "s"
noncomputable abbrev iB:Stmt:=top 48
theorem eY:aE ["_law_size_here","_law_one","_law_other","_law_there","_law_cell","_law_moves","_law_move"] ["_law_size_here","_law_one","_law_other"] (aj iB):=by walk_at "s"
noncomputable abbrev vf:Stmt:=top 49
theorem jm:aE ["_law_told","_law_size_here","_law_live","_law_most","_law_rows","_law_turn","_law_early","_law_move"] ["_law_told","_law_size_here","_law_live","_law_most"] (aj vf):=by walk_at "s"
noncomputable abbrev iC:Stmt:=top 50
theorem cV:aE ["_law_told","_law_size_here","_law_live","_law_most","_law_due_here","_law_handed","_law_again","_law_found","_law_numbers"] ["_law_told","_law_size_here","_law_live","_law_most"] (aj iC):=by walk_at "s"
noncomputable abbrev eZ:Stmt:=top 51
theorem cA:aE ["_law_told","_law_size_here","_law_found","e","_law_other"] ["_law_told","_law_size_here"] (aj eZ):=by walk_at "s"
noncomputable abbrev Cv:Stmt:=top 52
theorem ei:aE ["_law_script","_law_k","_law_pen_here","_law_told","_law_size_here","_law_live","_law_most","_law_bad","_law_at","_law_one"] ["_law_script"] (aj Cv):=by walk_at "s"
structure Txt (mg:Str->Option Gs):Prop where
 len_:mg "len"=none
 range:mg "range"=none
 abs_:mg "abs"=none
 isinstance_:mg "isinstance"=none
 int_:mg "int"=none
 bool_:mg "bool"=none
 list_:mg "list"=none
 tuple_:mg "tuple"=none
 sorted_:mg "sorted"=none
 max_:mg "max"=none
 min_:mg "min"=none
 all_:mg "all"=none
 any_:mg "any"=none
 set_:mg "set"=none
 sum_:mg "sum"=none
 str_:mg "str"=none
noncomputable def Pn (b:Nat) (pn:List Int):Prop:=∃x y c:Int,pn=[x,y,c]/\0<=c/\c<=b
theorem Pn.le {b b':Nat} {pn:List Int} (h:Pn b pn) (e:b<=b'):Pn b' pn:=let ⟨x,y,c,h1,h2,h3⟩:=h;⟨x,y,c,h1,h2,by lia⟩
noncomputable def Ff:List D->(D->Prop)->Prop:=fun ds R=>∃(ns:List Int) (k:Nat),ds=[.lst (ns.map .int),.int k]/\k<=1000/\∀x y:Int,R (.lst ([x,y,0].map .int))
noncomputable def yk:List D->(D->Prop)->Prop:=fun ds R=>∃ns:List Int,ds=[.lst (ns.map .int)]/\ns.length<=63/\R (.bl true)
noncomputable def jR:List Int->List D->(D->List Int->Prop)->Prop:=fun pn ds R=>∃(b:Nat) (m:Int),ds=[.int m]/\Pn b pn/\b<=1000000/\0 < m/\m < 1073741824/\∀(pn':List Int) (r:Int),Pn (b+1) pn'->0<=r->r < m->R (.int r) pn'
theorem my {j:Nat} (h:j < ns.length):atI (ns.map D.int) (j:Int)=some (.int (ns[j])):=by
 exact fT (by simp [h])
section
variable {P:G2} {w:HJ} {K:Gn} {mg:Str->Option Gs} {base:Heap}
theorem Cw (S:Src K mg "_law_pen" u7) (T:Txt mg):Has P w K mg base 1 "_law_pen" ["_law_script","_law_k"] (spP K Ff):=by
 refine bP S kU (by walk_at "2") (by walk_at "L") fun f cdv A outer s H E hr=>⟨_,_,(ai (az (i:=2) kU.nd rfl (GB rfl) (aA aS aJ (aA fD bI af (ae 1 (pv 1))) af))
  (ai (bj (aQ lq aJ (ae 1 (pv 1)) (aZ (fB (K:=K) rfl) fA (by rfl) T.len_ du (aa (ae 0 (pv 0)) ah)) (aO _)) (ak (az (i:=2) kU.nd rfl (GB rfl) (aH rfl (ae 0 (pv 0)) (ae 1 (pv 1)) (fun _ _=>rfl)))) (ak (bj (aQ lr aJ (aZ (fB (K:=K) rfl) fA (by rfl) T.len_ du (aa (ae 0 (pv 0)) ah)) af (aO _)) (ak (az (i:=2) kU.nd rfl (GB rfl) (aA aS aJ (aA br bI (aH rfl (ae 0 (pv 0)) (aA br bI (ae 1 (pv 1)) (aZ (fB (K:=K) rfl) fA (by rfl) T.len_ du (aa (ae 0 (pv 0)) ah))) (fun _ _=>rfl)) af) (aA fD bI af (ae 1 (pv 1)))))) aK)))
  (ai (bj (aQ Dd aJ (ae 2 (pv 2)) (aA mI bI af af) (aO _)) (ak (aD (aG (aV (aa (aA et aJ (ae 2 (pv 2)) (aA mI bI af af)) (aa (aA br bI (ae 2 (pv 2)) af) (aa af ah))))))) aK)
  (ak (aD (aG (aV (aa af (aa (aA br bI (ae 2 (pv 2)) af) (aa af ah)))))))))),?_⟩
 rintro ds R ⟨ns,k,rfl,hk,q⟩
 have fin:∀(x y:Int),R (.lst [.int x,.int y,.int 0]):=fun x y=>q x y
 walk_at "sl"
 walk_at "rd"
 rw [Gx]
 refine cw (fun h1=>?_) (fun h1=>?_)
 ·have h1':k < ns.length:=by lia
  walk_at "rd"
  refine bU rfl rfl (my h1') ?_
  walk_at "rd"
  refine cw (fun h1=>?_) (fun h1=>?_)
  all_goals (walk_at "rd";exact fin _ _)
 ·walk_at "rd"
  rw [Gx]
  refine cw (fun h2=>?_) (fun h2=>?_)
  ·walk_at "rd"
   rw [Gx]
   have h2':0 < ns.length:=by lia
   have e:((k:Int)%(ns.length:Int))=((k%ns.length:Nat):Int):=by lia
   refine DQ (by show (0:Int) < _;lia) ?_
   dsimp only [ofV]
   rw [e]
   refine bU rfl rfl (my (Nat.mod_lt _ h2')) ?_
   walk_at "rd"
   refine cw (fun h1=>?_) (fun h1=>?_)
   all_goals (walk_at "rd";exact fin _ _)
  ·walk_at "rd"
   refine cw (fun h1=>?_) (fun h1=>?_)
   all_goals (walk_at "rd";exact fin _ _)
theorem yl (S:Src K mg "_law_draw" nQ) (T:Txt mg):Has P w K mg base 1 "_law_draw" ["_law_pen_here","_law_many"] (spI K 0 jR):=by
 refine oD 0 S gm (by walk_at "2") (by walk_at "L") fun f cdv A outer s H E hr=>⟨_,_,(ai (lL 0 (pv 0) (aA aS aJ (aH rfl (ae 0 (pv 0)) af (fun _ _=>rfl)) af) af)
  (ai (bj (aQ lr aJ (aH rfl (ae 0 (pv 0)) af (fun _ _=>rfl)) af (aO _)) (ai (az (i:=2) gm.nd rfl (GB rfl) (aA br bI (aH rfl (ae 0 (pv 0)) af (fun _ _=>rfl)) (ae 1 (pv 1))))
  (ai (lL 0 (pv 0) (aA nZ bI (aH rfl (ae 0 (pv 0)) af (fun _ _=>rfl)) (ae 1 (pv 1))) af)
  (ak (aD (aF (ae 2 (pv 2))))))) aK)
  (ai (az (i:=3) gm.nd rfl (GB rfl) (aA br bI (aA aS aJ (aA aS aJ (aH rfl (ae 0 (pv 0)) af (fun _ _=>rfl)) (aA fD bI af (aH rfl (ae 0 (pv 0)) af (fun _ _=>rfl)))) af) af))
  (ai (az (i:=3) gm.nd rfl (GB rfl) (aA aS aJ (aA br bI (aA fD bI (ae 3 (pv 3)) (ae 3 (pv 3))) af) (aA fD bI af (aH rfl (ae 0 (pv 0)) af (fun _ _=>rfl)))))
  (ai (az (i:=3) gm.nd rfl (GB rfl) (aA br bI (aA fD bI (ae 3 (pv 3)) (ae 3 (pv 3))) af))
  (ak (aD (aA br bI (aA nZ bI (ae 3 (pv 3)) af) (ae 1 (pv 1)))))))))),?_⟩
 rintro a pn ds es R hl ⟨b,m,e,⟨x,y,c,rfl,hc0,hc1⟩,hb,hm0,hm1,q⟩
 obtain rfl:ds=[]:=Hm hl
 obtain rfl:es=[.int m]:=e
 walk_at "sl"
 walk_at "rd"
 refine cw (fun h1=>?_) (fun h1=>?_)
 ·walk_at "rd"
  exact ⟨_,rfl,q _ _ ⟨_,_,_,rfl,by lia,by lia⟩ (Hs _ (by lia)) (Hd _ hm0)⟩
 ·walk_at "rd"
  exact ⟨_,rfl,q _ _ ⟨_,_,_,rfl,by lia,by lia⟩ (Hs _ (by lia)) (Hd _ hm0)⟩
end
end My
namespace My
open PySem L2 VL
noncomputable def nr (k:Int):List (List Int):=if k=4 then [[-1,0],[0,-1],[0,1],[1,0]] else if k=6 then [[-1,-1],[-1,0],[0,-1],[0,1],[1,0],[1,1]] else [[-1,-1],[-1,0],[-1,1],[0,-1],[0,1],[1,-1],[1,0],[1,1]]
noncomputable def rows:List (Int×List (List Int)):=[(4,nr 4),(6,nr 6),(8,nr 8)]
noncomputable def Kd (k:Int):Prop:=k=4\/k=6\/k=8
theorem vm {k:Int} (hk:Kd k):(k,nr k)∈rows:=by rcases hk with rfl | rfl | rfl <;> simp [rows]
noncomputable def Pr (ms:List Int):Prop:=∃x y,ms=[x,y]
theorem vo {k:Int} (hk:Kd k) {m:List Int} (h:m∈nr k):∃x y,m=[x,y]/\-1<=x/\x<=1/\-1<=y/\y<=1:=by
 have:(nr k).all (fun m=>match m with | [x,y]=>decide (-1<=x)&&decide (x<=1)&&decide (-1<=y)&&decide (y<=1) | _=>false)=true:=by rcases hk with rfl | rfl | rfl <;> decide +kernel
 have:=List.all_eq_true.mp this m h
 match m,this with
 | [x,y],h=>simp only [G5,decide_eq_true_eq] at h;exact ⟨x,y,rfl,h.1.1.1,h.1.1.2,h.1.2,h.2⟩
theorem mz {k:Int} (hk:Kd k) {m:List Int} (h:m∈nr k):Pr m:=let ⟨x,y,e,_⟩:=vo hk h;⟨x,y,e⟩
theorem vp {k:Int} (hk:Kd k):(nr k).length<=8:=by rcases hk with rfl | rfl | rfl <;> decide
noncomputable def ad (p m:List Int):List Int:=match p,m with
 | [x,y],[dx,dy]=>[x+dx,y+dy]
 | _,_=>[]
noncomputable def rl (k:Int) (b s:List Int):D:=.tup [.int k,.tup (b.map .int),.tup (s.map .int)]
theorem qR {a b:List (List Int)} (h:a.Perm b):srt a=srt b:=iP ((bK a).trans h) (dW a)
theorem kY:∀{xs g:List (List Int)},xs.Nodup->(∀x∈xs,x∈g)->xs.length<=g.length
 | [],_,_,_=>IG _
 | x::r,g,nd,h=>by
  rw [JQ] at nd
  have hx:=h x GG
  have:=kY (xs:=r) (g:=g.erase x) nd.2 fun y hy=>(List.mem_erase_of_ne (show y≠x from fun e=>nd.1 (by subst e;exact hy))).mpr (h y (GU _ hy))
  rw [List.length_erase_of_mem hx] at this
  have:0 < g.length:=List.length_pos_of_mem hx
  simp only [HV];lia
theorem mB:∀{kvs:List (List Int×D)} {p:List Int×D},(kvs.map (·.1)).Nodup->p∈kvs->fx kvs p.1=some p.2
 | [],_,_,h=>by cases h
 | q::ps,p,nd,h=>by
  rw [GO,JQ] at nd
  unfold fx
  rcases List.mem_cons.mp h with rfl | h
  ·simp
  ·have:¬ q.1=p.1:=fun z=>nd.1 (List.mem_map.mpr ⟨p,h,z.symm⟩)
   simp only [Ib,this,decide_false]
   exact mB nd.2 h
structure Wt (l xs:List (List Int)) (kvs:List (List Int×D)):Prop where
 nd:(kvs.map (·.1)).Nodup
 keys:∀c,c∈kvs.map (·.1)↔c∈l\/c∈xs
 vals:∀p∈kvs,p.2=.int (l.count p.1)
 len:kvs.length<=l.length+xs.length
noncomputable def bR (w h:Int):List (List Int):=(G1 w.toNat).flatMap fun (x:Nat)=>(G1 h.toNat).map fun (y:Nat)=>[0+(x:Int),0+(y:Int)]
noncomputable def rad (w h:Int) (p m:List Int):List Int:=match p,m with
 | [x,y],[dx,dy]=>[(x+dx)%w,(y+dy)%h]
 | _,_=>[]
noncomputable def rbs (k w h:Int) (xs:List (List Int)):List (List Int):=xs.flatMap fun p=>(nr k).map (rad w h p)
noncomputable def InG (w h:Int) (p:List Int):Prop:=∃x y,p=[x,y]/\0<=x/\x < w/\0<=y/\y < h
theorem cj {w h:Int} {p:List Int}:p∈bR w h↔InG w h p:=by
 unfold bR
 rw [List.mem_flatMap]
 constructor
 ·rintro ⟨x,hx,hp⟩
  obtain ⟨y,hy,rfl⟩:=List.mem_map.mp hp
  have h1:=List.mem_range.mp hx
  have h2:=List.mem_range.mp hy
  exact ⟨_,_,rfl,by lia,by lia,by lia,by lia⟩
 ·rintro ⟨x,y,rfl,h1,h2,h3,h4⟩
  refine ⟨x.toNat,List.mem_range.mpr (by lia),List.mem_map.mpr ⟨y.toNat,List.mem_range.mpr (by lia),?_⟩⟩
  rw [show 0+(x.toNat:Int)=x by lia,show 0+(y.toNat:Int)=y by lia]
theorem vq {w h:Int} (hw:0 < w) (hh:0 < h) {p m:List Int} (hp:Pr p) (hm:Pr m):InG w h (rad w h p m):=by
 obtain ⟨x,y,rfl⟩:=hp
 obtain ⟨a,b,rfl⟩:=hm
 exact ⟨_,_,rfl,Hs _ (by lia),Hd _ hw,Hs _ (by lia),Hd _ hh⟩
theorem InG.pr {w h:Int} {p:List Int} (i:InG w h p):Pr p:=let ⟨x,y,e,_⟩:=i;⟨x,y,e⟩
structure Zt (l:List (List Int)) (kvs:List (List Int×D)):Prop where
 nd:(kvs.map (·.1)).Nodup
 keys:∀c,c∈kvs.map (·.1)↔c∈l
 vals:∀p∈kvs,p.2=.int 0
theorem Zt.put {l:List (List Int)} (z:Zt l kvs) (m:List Int):Zt (l++[m]) (ba kvs m (.int 0)):=by
 refine ⟨?_,fun c=>?_,fun p hp=>?_⟩
 ·unfold ba
  by_cases hm:m∈kvs.map (·.1)
  ·rw [if_pos hm,d7];exact z.nd
  ·rw [if_neg hm,HA,M7]
   exact ⟨z.nd,by simp,fun x hx y hy e=>hm (by cases List.mem_singleton.mp hy;exact (show x=m from e)▸hx)⟩
 ·rw [me,z.keys,JW,Ip];exact or_comm
 ·unfold ba at hp
  by_cases hm:m∈kvs.map (·.1)
  ·rw [if_pos hm] at hp
   obtain ⟨q,hq,rfl⟩:=List.mem_map.mp hp
   by_cases e:q.1=m
   ·rw [if_pos e]
   ·rw [if_neg e];exact z.vals q hq
  ·rw [if_neg hm] at hp
   rcases List.mem_append.mp hp with hp | hp
   ·exact z.vals p hp
   ·cases List.mem_singleton.mp hp;rfl
theorem Zt.fold {β:Type} {ky:β->List Int}:∀(ys:List β) {l:List (List Int)} {kvs:List (List Int×D)},Zt l kvs->Zt (l++ys.map ky) (ys.foldl (fun kvs y=>ba kvs (ky y) (.int 0)) kvs)
 | [],l,kvs,z=>by simpa using z
 | y::ys,l,kvs,z=>by
  have:=Zt.fold (ky:=ky) ys (z.put (ky y))
  rw [GJ] at this
  exact this
theorem Zt.fold2 {α β:Type} {ky:α->β->List Int} {bs:List β}:∀(xs:List α) {l:List (List Int)} {kvs:List (List Int×D)},Zt l kvs->Zt (l++xs.flatMap fun x=>bs.map (ky x)) (xs.foldl (fun kvs x=>bs.foldl (fun kvs y=>ba kvs (ky x y) (.int 0)) kvs) kvs)
 | [],l,kvs,z=>by simpa using z
 | x::xs,l,kvs,z=>by
  have:=Zt.fold2 (ky:=ky) (bs:=bs) xs (z.fold (ky:=ky x) bs)
  rw [GJ] at this
  rw [M8]
  exact this
theorem Zt.wt {l:List (List Int)} (z:Zt l kvs):Wt [] l kvs:=by
 refine ⟨z.nd,fun c=>?_,fun p hp=>by rw [z.vals p hp];rfl,?_⟩
 ·rw [z.keys];simp
 ·have:=kY z.nd (g:=l) fun x hx=>(z.keys x).mp hx
  rw [Gx] at this
  simpa using this
theorem Wt.at {l g:List (List Int)} {m:List Int} (h:Wt l g kvs) (hm:m∈g):fx kvs m=some (.int (l.count m)):=by
 obtain ⟨p,hp,rfl⟩:=List.mem_map.mp ((h.keys m).mpr (.inr hm))
 rw [mB h.nd hp,h.vals p hp]
theorem Wt.putG {l g:List (List Int)} {m:List Int} (h:Wt l g kvs) (hg:m∈g):Wt (l++[m]) g (ba kvs m (.int ((l.count m:Nat)+1:Int))):=by
 have cm:∀c,(l++[m]).count c=l.count c+if c=m then 1 else 0:=fun c=>by
  rw [M9]
  by_cases e:c=m
  ·subst e;simp
  ·rw [if_neg e];simp [List.count_cons,J1 e]
 have hm:m∈kvs.map (·.1):=(h.keys m).mpr (.inr hg)
 unfold ba
 rw [if_pos hm]
 have ek:(kvs.map fun x=>if x.1=m then (x.1,D.int ((l.count m:Nat)+1:Int)) else x).map (·.1)=kvs.map (·.1):=d7 kvs m _
 refine ⟨by rw [ek];exact h.nd,fun c=>?_,fun p hp=>?_,?_⟩
 ·rw [ek,h.keys c,JW,Ip]
  constructor
  ·rintro (z | z)
   ·exact .inl (.inl z)
   ·exact .inr z
  ·rintro ((z | z) | z)
   ·exact .inl z
   ·exact .inr (z▸hg)
   ·exact .inr z
 ·obtain ⟨q,hq,rfl⟩:=List.mem_map.mp hp
  by_cases e:q.1=m
  ·rw [if_pos e]
   show D.int _=D.int _
   rw [cm,if_pos e,e];simp
  ·rw [if_neg e,cm,if_neg e,h.vals q hq];simp
 ·rw [Gx,G6];have:=h.len;simp at this ⊢;lia
theorem lex_lt {x x' y y':Int} (h:x < x'):lexLe [x,y] [x',y']=true:=by
 unfold lexLe
 simp only [HT.bH]
 rw [if_neg (by lia)]
 simp;lia
theorem Cy {x y y':Int} (h:y<=y'):lexLe [x,y] [x,y']=true:=by
 unfold lexLe
 simp only [HT.bH,if_true]
 by_cases e:y'=y
 ·rw [if_pos e];rfl
 ·rw [if_neg e];simp;lia
theorem d9 (w h:Int):(bR w h).Pairwise (fun a b=>lexLe a b=true):=by
 unfold bR
 rw [LX]
 refine ⟨fun x _=>?_,?_⟩
 ·rw [Jr]
  exact (Jg (n:=h.toNat)).imp fun hab=>Cy (by lia)
 ·refine (Jg (n:=w.toNat)).imp fun hab p hp q hq=>?_
  obtain ⟨y,_,rfl⟩:=List.mem_map.mp hp
  obtain ⟨z,_,rfl⟩:=List.mem_map.mp hq
  exact lex_lt (by lia)
theorem e6 (w h:Int):(bR w h).Nodup:=by
 unfold bR List.Nodup
 rw [LX]
 refine ⟨fun x _=>?_,?_⟩
 ·rw [Jr]
  exact (Jg (n:=h.toNat)).imp fun hab e=>by simp at e;lia
 ·refine (Jg (n:=w.toNat)).imp fun hab p hp q hq e=>?_
  obtain ⟨y,_,rfl⟩:=List.mem_map.mp hp
  obtain ⟨z,_,rfl⟩:=List.mem_map.mp hq
  simp at e;lia
noncomputable def rliv (k:Int) (bo st:List Int) (w h:Int) (xs:List (List Int)) (c:List Int):Bool:=decide ((((rbs k w h xs).count c:Nat):Int)∈if decide (c∈xs)=true then st else bo)
noncomputable def rnx (k:Int) (bo st:List Int) (w h:Int) (xs:List (List Int)):List (List Int):=(bR w h).filter (rliv k bo st w h xs)
theorem Cz {k:Int} {bo st:List Int} {w h:Int} {xs:List (List Int)} (t:Wt (rbs k w h xs) (bR w h) kvs) (hin:∀c∈rbs k w h xs,InG w h c):srt ((kvs.filter fun p=>rliv k bo st w h xs p.1).map (·.1))=rnx k bo st w h xs:=by
 refine (iP ?_ ((d9 w h).filter _)).symm
 refine (KQ ((e6 w h).filter _) (List.Nodup.sublist (List.filter_sublist.map _) t.nd)).mpr fun c=>?_
 rw [List.mem_filter,Nk]
 constructor
 ·rintro ⟨hc,hl⟩
  obtain ⟨p,hp,rfl⟩:=List.mem_map.mp ((t.keys c).mpr (.inr hc))
  exact ⟨p,List.mem_filter.mpr ⟨hp,hl⟩,rfl⟩
 ·rintro ⟨p,hp,rfl⟩
  rw [List.mem_filter] at hp
  refine ⟨?_,hp.2⟩
  exact ((t.keys p.1).mp (List.mem_map.mpr ⟨p,hp.1,rfl⟩)).elim (fun z=>cj.mpr (hin _ z)) id
theorem dO {p c d w:Int} (hw:0 < w) (p0:0<=p) (p1:p < w) (c0:0<=c) (c1:c < w):(p+d)%w=c↔(c-d)%w=p:=by
 constructor
 ·rintro rfl
  have e:=Kl (p+d) w
  have:(p+d)%w-d=p+w*(-((p+d) / w)):=by rw [Int.mul_neg];lia
  rw [this,Js,HX p0 p1]
 ·rintro rfl
  have e:=Kl (c-d) w
  have:(c-d)%w+d=c+w*(-((c-d) / w)):=by rw [Int.mul_neg];lia
  rw [this,Js,HX c0 c1]
noncomputable def sbR (w h x y:Int) (m:List Int):List Int:=match m with
 | [dx,dy]=>[(x-dx)%w,(y-dy)%h]
 | _=>[]
theorem jS {α:Type} {p q:α->Bool}:∀(l:List α),(∀a,p a=true->q a=true->False)->(l.filter fun a=>p a||q a).length=(l.filter p).length+(l.filter q).length
 | [],_=>rfl
 | a::l,h=>by
  have ih:=jS l h
  cases hp:p a <;> cases hq:q a
  ·simp [hp,hq,ih]
  ·simp [hp,hq,ih];lia
  ·simp [hp,hq,ih];lia
  ·exact (h a hp hq).elim
theorem jT {k:Int} (hk:Kd k) {w h x y:Int} (hx:0<=x/\x < w) (hy:0<=y/\y < h):∀{ys:List (List Int)},ys.Nodup->(∀p∈ys,InG w h p)->(rbs k w h ys).count [x,y]=((nr k).filter fun m=>decide (sbR w h x y m∈ys)).length
 | [],_,_=>by
  rw [List.filter_eq_nil_iff.mpr fun m _=>by simp]
  rfl
 | p::ys,hn,hp=>by
  have ih:=jT hk hx hy (List.nodup_cons.mp hn).2 fun q hq=>hp q (GU _ hq)
  have e1:rbs k w h (p::ys)=(nr k).map (rad w h p)++rbs k w h ys:=by simp [rbs]
  rw [e1,M9,ih]
  have e2:((nr k).filter fun m=>decide (sbR w h x y m∈p::ys))=(nr k).filter fun m=>decide (sbR w h x y m=p)||decide (sbR w h x y m∈ys):=by
   refine Ke fun m _=>?_
   simp [Lu]
  rw [e2,jS (nr k) fun m h1 h2=>(List.nodup_cons.mp hn).1 (by rw [<- of_decide_eq_true h1];exact of_decide_eq_true h2)]
  congr 1
  rw [List.count_eq_length_filter,LY,Gx]
  congr 1
  refine Ke fun m hm=>?_
  obtain ⟨dx,dy,rfl⟩:=mz hk hm
  obtain ⟨px,py,rfl,b1,b2,b3,b4⟩:=hp p GG
  simp only [JR,rad,sbR]
  refine Bool.eq_iff_iff.mpr ?_
  simp only [beq_iff_eq,decide_eq_true_eq,JU,and_true]
  rw [dO (by lia) b1 b2 hx.1 hx.2,dO (by lia) b3 b4 hy.1 hy.2]
noncomputable def stp (k:Int):List (List Int):=if k=4 then [[0,-1],[0,1],[-1,0],[1,0]] else if k=6 then [[0,-1],[0,1],[-1,0],[1,0],[-1,-1],[1,1]] else [[0,-1],[0,1],[-1,0],[1,0],[-1,-1],[1,1],[-1,1],[1,-1]]
noncomputable def ng (m:List Int):List Int:=m.map fun i=>-i
theorem zN {k:Int} (hk:Kd k):(stp k).Perm ((nr k).map ng):=by rcases hk with rfl | rfl | rfl <;> decide +kernel
theorem CA {k:Int} (hk:Kd k):∀m∈stp k,Pr m:=fun m hm=>by
 obtain ⟨n,hn,rfl⟩:=List.mem_map.mp ((zN hk).mem_iff.mp hm)
 obtain ⟨x,y,rfl⟩:=mz hk hn
 exact ⟨_,_,rfl⟩
theorem qS {k:Int} (hk:Kd k) {w h x y:Int} (hx:0<=x/\x < w) (hy:0<=y/\y < h) {ys:List (List Int)} (hn:ys.Nodup) (hp:∀p∈ys,InG w h p):((stp k).filter fun m=>decide (rad w h [x,y] m∈ys)).length=(rbs k w h ys).count [x,y]:=by
 rw [jT hk hx hy hn hp,((zN hk).filter _).length_eq,LY,Gx]
 congr 1
 refine Ke fun m hm=>?_
 obtain ⟨dx,dy,rfl⟩:=mz hk hm
 simp only [JR,ng,GO,Hu,rad,sbR]
 rfl
end My
namespace My
open PySem L2 VL
noncomputable def Sz (w h:Int):Prop:=3<=w/\w<=40/\3<=h/\h<=40
noncomputable def Od (x:D):Prop:=(∃n:Int,x=.int n/\¬(3<=n/\n<=40))\/(∃b,x=.bl b)\/x=.non\/(∃z,x=.str z)\/x=.lst [.int 5]\/x=.tup [.int 5]
noncomputable def NoT (x:D):Prop:=(∃n:Int,x=.int n)\/(∃b,x=.bl b)\/x=.non\/(∃z,x=.str z)\/(∃ds,x=.lst ds)\/(∃ds,x=.tup ds/\ds.length≠2)\/x=.exc (.type "dict")
noncomputable def NoS (x:D):Prop:=NoT x\/∃(a b:D),x=.tup [a,b]/\((∃g:Int,3<=g/\g<=40/\a=.int g)/\Od b\/Od a/\(∃g:Int,3<=g/\g<=40/\b=.int g)\/Od a/\Od b)
noncomputable def isI:D->Bool
 | .int _=>true
 | _=>false
noncomputable def Wv (x:D):Prop:=(∃n:Int,x=.int n)\/Od x
noncomputable def pWh:List D->(D->Prop)->Prop:=fun ds R=>∃x,ds=[x]/\Wv x/\R (.bl (isI x))
noncomputable def pPair:List D->(D->Prop)->Prop:=fun ds R=>(∃a b:D,ds=[.tup [a,b]]/\Wv a/\Wv b/\R (.bl (isI a&&isI b)))\/∃x,ds=[x]/\NoT x/\R (.bl false)
noncomputable def pSz:List D->(D->Prop)->Prop:=fun ds R=>(∃w h:Int,ds=[eT [w,h]]/\Sz w h/\R (.bl true))\/∃x,ds=[x]/\NoS x/\R (.bl false)
noncomputable def ym:List D->(D->Prop)->Prop:=fun ds R=>∃w h:Int,ds=[eT [w,h]]/\Sz w h/\R .non
noncomputable def bdS (c:Addr) (n:Nat) (i:Nat):List D->Addr->Prop:=fun ds C=>ds.length=n/\C=c/\∃x,ds[i]?=some x/\NoS x
noncomputable def Fg:List D->(D->Prop)->Prop:=fun ds R=>∃k,ds=[.int k]/\Kd k/\R (eL (nr k))
noncomputable def vw:List D->(D->Prop)->Prop:=fun ds R=>∃k bo st al c,ds=[rl k bo st,.bl al,.int c]/\R (.bl (decide (c∈if al=true then st else bo)))
noncomputable def pRc:List D->(D->Prop)->Prop:=fun ds R=>∃k w h xs,ds=[.int k,eT [w,h],eL xs]/\Kd k/\Sz w h/\(∀p∈xs,Pr p)/\xs.length<=1600/\∀kvs,Wt (rbs k w h xs) (bR w h) kvs->R (dc kvs)
noncomputable def Fh:List D->(D->Prop)->Prop:=fun ds R=>∃k bo st w h xs kvs,ds=[rl k bo st,eL xs,dc kvs]/\Kd k/\Sz w h/\(∀p∈xs,Pr p)/\xs.length<=1600/\Wt (rbs k w h xs) (bR w h) kvs/\R (eL (rnx k bo st w h xs))
noncomputable def pRn:List D->(D->Prop)->Prop:=fun ds R=>∃k bo st w h xs,ds=[rl k bo st,eT [w,h],eL xs]/\Kd k/\Sz w h/\(∀p∈xs,Pr p)/\xs.length<=1600/\R (eL (rnx k bo st w h xs))
noncomputable def rmv (w h a b:Int) (p:List Int):List Int:=match p with
 | [x,y]=>[(x+a)%w,(y+b)%h]
 | _=>[]
noncomputable def rMv (w h a b:Int) (xs:List (List Int)):List (List Int):=srt (xs.map (rmv w h a b))
noncomputable def qT (k:Int) (bo st:List Int) (w h:Int):Nat->List (List Int)->List (List Int)
 | 0,xs=>xs
 | n+1,xs=>rnx k bo st w h (qT k bo st w h n xs)
noncomputable def pRm:List D->(D->Prop)->Prop:=fun ds R=>∃w h xs a b,ds=[eT [w,h],eL xs,eT [a,b]]/\Sz w h/\(∀p∈xs,Pr p)/\xs.length<=1600/\R (eL (rMv w h a b xs))
theorem CC {k:Int} {bo st:List Int} {w h:Int} {xs:List (List Int)}:∀p∈rnx k bo st w h xs,InG w h p:=fun p hp=>cj.mp (List.mem_filter.mp hp).1
theorem vz (ms:List Int):VL.flat (kT ms)=true:=aN ms
theorem vA {k w h:Int} (hk:Kd k) (hs:Sz w h) {xs:List (List Int)} (hp:∀p∈xs,Pr p):∀c∈rbs k w h xs,InG w h c:=fun c hc=>by
 obtain ⟨q,hq,hm⟩:=List.mem_flatMap.mp hc
 obtain ⟨m,hm2,rfl⟩:=List.mem_map.mp hm
 obtain ⟨h1,h2,h3,h4⟩:=hs
 exact vq (by lia) (by lia) (hp q hq) (mz hk hm2)
theorem pL {k w h:Int} (hk:Kd k):∀ys:List (List Int),(rbs k w h ys).length<=8*ys.length:=fun ys=>by
 induction ys with
 | nil=>simp [rbs]
 | cons y ys ih=>have:=vp hk;simp only [rbs,M8,G6,Gx,HV] at ih ⊢;lia
theorem dQ {w h:Int} (hs:Sz w h):(bR w h).length<=1600:=by
 have e:(bR w h).length=w.toNat*h.toNat:=by
  have:∀m,((G1 m).flatMap fun (x:Nat)=>(G1 h.toNat).map fun (y:Nat)=>[0+(x:Int),0+(y:Int)]).length=m*h.toNat:=fun m=>by
   induction m with
   | zero=>simp
   | succ m ih=>rw [Jd,KM,G6,ih];simp [Nat.succ_mul]
  exact this _
 obtain ⟨h1,h2,h3,h4⟩:=hs
 rw [e]
 exact HY (Nat.mul_le_mul (show w.toNat<=40 by lia) (show h.toNat<=40 by lia)) (by decide)
theorem kZ {f g:Int->Int->Bool} {va vb vc:VT} {a b c:Int} {Q:VR->List Sl->Prop} (ha:∀Q',Q' (.d (.int a)) S->va S Q') (hb:∀Q',Q' (.d (.int b)) S->vb S Q') (hc:∀Q',Q' (.d (.int c)) S->vc S Q') (h:Q (.d (.bl (f a b&&g b c))) S) :
  ku (wI0 fun i j=>V.bl (f i j)) (wI0 fun i j=>V.bl (g i j)) va vb vc S Q:=by
 unfold ku
 refine ha _ (hb _ ⟨.int a,.int b,rfl,rfl,a,b,rfl,rfl,_,rfl,?_⟩)
 cases h1:f a b with
 | true=>
  rw [if_pos rfl]
  refine hc _ ⟨.int b,.int c,rfl,rfl,b,c,rfl,rfl,?_⟩
  rw [h1,Bool.true_and] at h
  exact h
 | false=>
  rw [if_neg Gw]
  rw [h1,Mb] at h
  exact h
theorem gr {neg:Bool}:mY neg d (.lst ds) q->mY neg d (.tup ds) q:=by
 rintro ⟨ds',h,r⟩
 rcases h with h | h
 ·cases h;exact ⟨_,.inr rfl,r⟩
 ·cases h
noncomputable def vB:List D->(D->Prop)->Prop:=fun ds R=>∃k bo st,ds=[rl k bo st]/\R (.bl (decide (0∉bo)))
section
variable {P:G2} {w:HJ} {K:Gn} {mg:Str->Option Gs} {base:Heap}
theorem CD {a_OFFSETS:Addr} (S:Src K mg "offsets" ji) (T:Txt mg) (hD:mg "OFFSETS"=some (.ref a_OFFSETS)) (kD:okD K a_OFFSETS rows=true):Has P w K mg base 1 "offsets" ["kind"] (spP K Fg):=by
 refine bP S qP (by walk_at "1") (by walk_at "L") fun f cdv A outer s H E hr=>⟨_,_,(ak (aD (aG (ik rfl (by rfl) T.list_ (aa (BA (rows:=rows) rfl kD (hV (v:=.ref a_OFFSETS) (by rfl) hD rfl) (ae 0 (pv 0)) (fun _ _=>rfl)) ah))))),?_⟩
 rintro ds R ⟨k,rfl,hk,q⟩
 walk_at "sl"
 walk_at "rd"
 refine BB rfl (vm hk) ?_
 walk_at "rd"
 exact eK rfl (dH _) (by walk_at "rd";exact q)
theorem vD (S:Src K mg "comes" nO) (T:Txt mg):Has P w K mg base 1 "comes" ["rule","alive","count"] (spP K vw):=by
 refine bP S iz (by walk_at "3") (by walk_at "L") fun f cdv A outer s H E hr=>⟨_,_,(ai (eI (ae 0 (pv 0)) (bM (n:=3) rfl rfl (aC (au (aq (i:=3) iz.nd rfl (GB rfl) (GB rfl))) (aC (au (aq (i:=4) iz.nd rfl (GB rfl) (GB rfl))) (aC (au (aq (i:=5) iz.nd rfl (GB rfl) (GB rfl))) bw)))))
  (ak (aD (eG (sI (K:=K) rfl hr.units) oF (ae 2 (pv 2)) (rQ (cK (ae 1 (pv 1))) (ae 5 (pv 5)) (ae 4 (pv 4))) (by with_unfolding_all rfl))))),?_⟩
 rintro ds R ⟨k,bo,st,al,c,rfl,q⟩
 walk_at "sl"
 unfold rl
 walk_at "rd"
 cases al with
 | true=>
  walk_at "rc"
  refine nj (f:=D.int) b8 ?_
  walk_at "rd"
  exact q
 | false=>
  walk_at "rc"
  refine nj (f:=D.int) b8 ?_
  walk_at "rd"
  exact q
theorem vE (S:Src K mg "is_quiet" jk) (T:Txt mg):Has P w K mg base 1 "is_quiet" ["rule"] (spP K vB):=by
 refine bP S qQ (by walk_at "1") (by walk_at "L") fun f cdv A outer s H E hr=>⟨_,_,(ak (aD (eG (jG (K:=K) rfl hr.units) oF af (aH rfl (ae 0 (pv 0)) af (fun _ _=>rfl)) (by with_unfolding_all rfl)))),?_⟩
 rintro ds R ⟨k,bo,sy,rfl,q⟩
 unfold rl
 walk_at "sl"
 walk_at "rc"
 by_cases h:0∈bo
 ·refine gr (ze (f:=D.int) (l:=bo) b8 h ?_)
  walk_at "rc"
  rw [decide_eq_false (by simpa using h)] at q
  exact q
 ·refine gr (zd (f:=D.int) (l:=bo) b8 h ?_)
  walk_at "rc"
  rw [decide_eq_true h] at q
  exact q
theorem Fi (S:Src K mg "is_whole" jh) (T:Txt mg):Has P w K mg base 1 "is_whole" ["thing"] (spP K pWh):=by
 refine bP S qO (by walk_at "1") (by walk_at "L") fun f cdv A outer s H E hr=>⟨_,_,(ak (aD (gG (aZ (jH (K:=K) rfl) iW (by rfl) T.isinstance_ aY (aa (ae 0 (pv 0)) (aa (iS (cY (v:=.ty "int") (by rfl) T.int_ iK rfl) (fun _ _=>.ty _)) ah))) (km (AI (aZ (jH (K:=K) rfl) iW (by rfl) T.isinstance_ aY (aa (ae 0 (pv 0)) (aa (iS (cY (v:=.ty "bool") (by rfl) T.bool_ ow rfl) (fun _ _=>.ty _)) ah)))))))),?_⟩
 rintro ds R ⟨x,rfl,hx,q⟩
 rcases hx with ⟨n,rfl⟩ | ⟨n,rfl,_⟩ | ⟨b,rfl⟩ | rfl | ⟨z,rfl⟩ | rfl | rfl
 all_goals (walk_at "sl";walk_at "rc";exact q)
theorem yn (S:Src K mg "is_pair" kQ) (T:Txt mg) (e4_:Has P w K mg base 1 "is_whole" ["thing"] (spP K pWh)):Has P w K mg base 2 "is_pair" ["thing"] (spP K pPair):=by
 refine bP S uZ (by walk_at "1") (fun ds R h=>by rcases h with ⟨_,_,e,_⟩ | ⟨_,e,_⟩ <;> (rw [e];rfl)) fun f cdv A outer s H E hr=>⟨_,_,(ak (aD (gG (aZ (xV (K:=K) rfl) xU (by rfl) T.isinstance_ aY (aa (ae 0 (pv 0)) (aa (iS (cY (v:=.ty "tuple") (by rfl) T.tuple_ fU rfl) (fun _ _=>.ty _)) ah))) (gG (eG eg g9 (aZ (fB (K:=K) rfl) fA (by rfl) T.len_ du (aa (ae 0 (pv 0)) ah)) af (aO _)) (gG (bD e4_ hr (aa (aH rfl (ae 0 (pv 0)) af (fun _ _=>rfl)) ah)) (km (bD e4_ hr (aa (aH rfl (ae 0 (pv 0)) af (fun _ _=>rfl)) ah)))))))),?_⟩
 rintro ds R (⟨a,b,rfl,ha,hb,q⟩ | ⟨x,rfl,hx,q⟩)
 ·walk_at "sl"
  walk_at "rc"
  refine ⟨a,rfl,ha,?_⟩
  cases h1:isI a with
  | false=>
   rw [h1] at q
   walk_at "rc"
   exact q
  | true=>
   rw [h1] at q
   walk_at "rc"
   refine ⟨b,rfl,hb,?_⟩
   walk_at "rc"
   exact q
 ·rcases hx with ⟨n,rfl⟩ | ⟨b,rfl⟩ | rfl | ⟨z,rfl⟩ | ⟨ds,rfl⟩ | ⟨ds,rfl,hl⟩ | rfl
  ·walk_at "sl";walk_at "rc";exact q
  ·walk_at "sl";walk_at "rc";exact q
  ·walk_at "sl";walk_at "rc";exact q
  ·walk_at "sl";walk_at "rc";exact q
  ·walk_at "sl";walk_at "rc";exact q
  ·walk_at "sl"
   walk_at "rc"
   rw [show decide ((ds.length:Int)=2)=false from decide_eq_false (by lia)]
   walk_at "rc"
   exact q
  ·walk_at "sl";walk_at "rc";exact q
theorem Fj (S:Src K mg "is_ring_size" eV) (T:Txt mg) (e9_:Has P w K mg base 2 "is_pair" ["thing"] (spP K pPair)):Has P w K mg base 3 "is_ring_size" ["thing"] (spP K pSz):=by
 refine bP S kR (by walk_at "1") (fun ds R h=>by rcases h with ⟨_,_,e,_⟩ | ⟨_,e,_⟩ <;> (rw [e];rfl)) fun f cdv A outer s H E hr=>⟨_,_,(ak (aD (gG (bD e9_ hr (aa (ae 0 (pv 0)) ah)) (gG (lT oa aJ oa aJ af (aH rfl (ae 0 (pv 0)) af (fun _ _=>rfl)) af) (km (lT oa aJ oa aJ af (aH rfl (ae 0 (pv 0)) af (fun _ _=>rfl)) af)))))),?_⟩
 rintro ds R (⟨w,h,rfl,⟨h1,h2,h3,h4⟩,q⟩ | ⟨x,rfl,hx,q⟩)
 ·walk_at "sl"
  walk_at "rd"
  refine .inl ⟨.int w,.int h,rfl,.inl ⟨w,rfl⟩,.inl ⟨h,rfl⟩,?_⟩
  refine lU rfl ?_
  refine kZ (fun _ q=>j_c q) (fun _ q=>by walk_at "rd";exact q) (fun _ q=>j_c q) ?_
  rw [decide_eq_true h1,decide_eq_true h2]
  refine lU rfl ?_
  refine kZ (fun _ q=>j_c q) (fun _ q=>by walk_at "rd";exact q) (fun _ q=>j_c q) ?_
  rw [decide_eq_true h3,decide_eq_true h4]
  walk_at "rc"
  exact q
 ·rcases hx with hx | ⟨a,b,rfl,hx⟩
  ·walk_at "sl"
   walk_at "rd"
   refine .inr ⟨x,rfl,hx,?_⟩
   walk_at "rc"
   exact q
  ·have wa:Wv a:=by rcases hx with ⟨⟨g,_,_,e⟩,_⟩ | ⟨h,_⟩ | ⟨h,_⟩ <;> first | exact .inl ⟨g,e⟩ | exact .inr h
   have wb:Wv b:=by rcases hx with ⟨_,h⟩ | ⟨_,g,_,_,e⟩ | ⟨_,h⟩ <;> first | exact .inr h | exact .inl ⟨g,e⟩
   walk_at "sl"
   walk_at "rd"
   refine .inl ⟨a,b,rfl,wa,wb,?_⟩
   cases hb:isI a&&isI b with
   | false=>
    walk_at "rc"
    exact q
   | true=>
    obtain ⟨m,rfl⟩:∃m,a=.int m:=by
     cases a with
     | int m=>exact ⟨m,rfl⟩
     | _=>simp [isI] at hb
    obtain ⟨n,rfl⟩:∃n,b=.int n:=by
     cases b with
     | int m=>exact ⟨m,rfl⟩
     | _=>simp [isI] at hb
    have od:∀{k:Int},Od (.int k)->¬(3<=k/\k<=40):=fun {k} h=>by
     rcases h with ⟨n,e,h⟩ | ⟨_,e⟩ | e | ⟨_,e⟩ | e | e
     ·cases e;exact h
     all_goals cases e
    refine lU rfl ?_
    refine kZ (fun _ q=>j_c q) (fun _ q=>by walk_at "rd";exact q) (fun _ q=>j_c q) ?_
    by_cases hm:3<=m/\m<=40
    ·have hn:¬(3<=n/\n<=40):=by
      rcases hx with ⟨_,h⟩ | ⟨h,_⟩ | ⟨_,h⟩
      ·exact od h
      ·exact absurd hm (od h)
      ·exact od h
     rw [decide_eq_true hm.1,decide_eq_true hm.2]
     refine lU rfl ?_
     refine kZ (fun _ q=>j_c q) (fun _ q=>by walk_at "rd";exact q) (fun _ q=>j_c q) ?_
     rw [show (decide (3<=n)&&decide (n<=40))=false by rw [<- Bool.decide_and];exact decide_eq_false hn]
     walk_at "rc"
     exact q
    ·rw [show (decide (3<=m)&&decide (m<=40))=false by rw [<- Bool.decide_and];exact decide_eq_false hm]
     refine zc rfl ?_
     walk_at "rc"
     exact q
theorem CF (S:Src K mg "refuse_no_ring" b7) (T:Txt mg) (e3_:Has P w K mg base 3 "is_ring_size" ["thing"] (spP K pSz)):Has P w K mg base 4 "refuse_no_ring" ["size"] (spP K ym):=by
 refine bP S eW (by walk_at "1") (by walk_at "L") fun f cdv A outer s H E hr=>⟨_,_,(ak (bj (eH (cK (bD e3_ hr (aa (ae 0 (pv 0)) ah)))) (ak rY) aK)),?_⟩
 rintro ds R ⟨w,h,rfl,hs,q⟩
 walk_at "sl"
 walk_at "rd"
 refine .inl ⟨w,h,rfl,hs,?_⟩
 walk_at "rc"
 exact q
theorem yo {c_NoSize:Addr} (S:Src K mg "refuse_no_ring" b7) (T:Txt mg) (e3_:Has P w K mg base 3 "is_ring_size" ["thing"] (spP K pSz)) (g_NoSize:mg "NoSize"=some (.ref c_NoSize)) (x_NoSize:PySem.W.excIn K c_NoSize [.type "ValueError",.type "Exception",.type "BaseException",.type "object"] "ValueError.__new__"=true):nq P w K mg base 4 "refuse_no_ring" ["size"] (bdS c_NoSize 1 0):=by
 refine zj S eW (by walk_at "1") (fun ds C h=>h.1) fun f cdv A outer s H E hr TH=>⟨_,_,(EH (eH (cK (bD e3_ hr (aa (ae 0 (pv 0)) ah)))) (tU TH PySem.F.excBase_ValueError x_NoSize g_NoSize rfl)
  tT),?_⟩
 rintro ds C ⟨hl,rfl,x,hx,hn⟩
 obtain ⟨y,rfl⟩:∃y,ds=[y]:=by
  match ds,hl with
  | [y],_=>exact ⟨y,rfl⟩
 obtain rfl:y=x:=by simpa using hx
 walk_at "sl"
 walk_at "rd"
 refine .inr ⟨y,rfl,hn,?_⟩
 walk_at "rc"
 simp
theorem Fk (S:Src K mg "ring_counts" dq) (T:Txt mg) (e11_:Has P w K mg base 1 "offsets" ["kind"] (spP K Fg)):Has P w K mg base 2 "ring_counts" ["kind","size","picture"] (spP K pRc):=by
 refine bP S bh (by walk_at "3") (by walk_at "L") fun f cdv A outer s H E hr=>⟨_,_,(ai (eI (ae 1 (pv 1)) (bM (n:=2) rfl rfl (aC (au (aq (i:=3) bh.nd rfl (GB rfl) (GB rfl))) (aC (au (aq (i:=4) bh.nd rfl (Ij rfl) (GB rfl))) bw))))
  (ai (az (i:=5) bh.nd rfl (GB rfl) (bD e11_ hr (aa (ae 0 (pv 0)) ah)))
  (ai (qK (ii:=6) (tg:=["x","y"]) (cs:=["high"]) (ix:=[4]) bh.nd rfl (GB rfl) (GB rfl) rfl hr.units (aM (aj dq) ["kind","size","picture","wide","high","around","tally","x","y","dx","dy"] (by decide +kernel)) rfl (kI (by decide) (by decide) (by decide)) (by decide) (aX rfl T.range (aa (ae 3 (pv 3)) ah)) (fun _ _ _ _=>(au (aq (i:=0) (show (["x","y","high"]:List Str).Nodup by decide +kernel) rfl (GB rfl) (by first | exact GB rfl | exact Ij rfl)))) (fun _ _ _ _=>cu) (fun _ _ _ _=>(aX rfl T.range (aa (ae 2 (pv 2)) ah))) (fun _ _ _ _=>(au (aq (i:=1) (show (["x","y","high"]:List Str).Nodup by decide +kernel) rfl (GB rfl) (by first | exact GB rfl | exact Ij rfl)))) (fun _ _ _ _=>cu) (fun _ _ _ _=>(aw (aa (ae 0 (pv 0)) (aa (ae 1 (pv 1)) ah)))) (fun _ _ _ _=>af))
  (ai (bN Hi rfl (bx rfl (ae 2 (pv 2))) (bM (n:=2) rfl rfl (aC (au (aq (i:=7) bh.nd rfl (GB rfl) (GB rfl))) (aC (au (aq (i:=8) bh.nd rfl (GB rfl) (GB rfl))) bw))) (ak (bN Hi rfl (bx rfl (ae 5 (pv 5))) (bM (n:=2) rfl rfl (aC (au (aq (i:=9) bh.nd rfl (GB rfl) (GB rfl))) (aC (au (aq (i:=10) bh.nd rfl (GB rfl) (GB rfl))) bw))) (ak (xN 6 rfl hr.units (pv 6) (aw (aa (aA br bI (aA aS aJ (ae 7 (pv 7)) (ae 9 (pv 9))) (ae 3 (pv 3))) (aa (aA br bI (aA aS aJ (ae 8 (pv 8)) (ae 10 (pv 10))) (ae 4 (pv 4))) ah))))))))
  (ak (aD (aF (ae 6 (pv 6))))))))),?_⟩
 rintro ds R ⟨k,w,h,xs,rfl,hk,hs,hp,hl,q⟩
 have hs':=hs
 obtain ⟨s1,s2,s3,s4⟩:=hs'
 walk_at "sl"
 walk_at "rd"
 refine ⟨k,rfl,hk,?_⟩
 walk_at "rd"
 refine nG (xs:=G1 w.toNat) (en:=fun (i:Nat)=>.int (0+(i:Int))) (r:=fun (x:Nat) ys=>(G1 h.toNat).foldl (fun kvs (y:Nat)=>ba kvs [0+(x:Int),0+(y:Int)] (.int 0)) ys) (by simp;lia) (fun x hx ys A B hA=>?_) ?_
 ·dsimp only [bz,He,GO,Hu,Hq,Hr]
  walk_at "rd"
  refine in_dict (xs:=G1 h.toNat) (en:=fun (i:Nat)=>.int (0+(i:Int))) (ky:=fun (y:Nat)=>[0+(x:Int),0+(y:Int)]) (f:=fun _=>.int 0) (by simp;lia) (fun y hy A B hA=>?_) (hA _ rfl)
  walk_at "rd"
  refine t5 (ms:=[0+(x:Int),0+(y:Int)]) rfl ?_
  exact hA _ rfl
 ·have z0:Zt (bR w h) ((G1 w.toNat).foldl (fun ys (x:Nat)=>(G1 h.toNat).foldl (fun kvs (y:Nat)=>ba kvs [0+(x:Int),0+(y:Int)] (.int 0)) ys) []):=by
   have:=Zt.fold2 (ky:=fun (x y:Nat)=>[0+(x:Int),0+(y:Int)]) (bs:=G1 h.toNat) (G1 w.toNat) (l:=[]) (kvs:=[]) ⟨by simp,by simp,by simp⟩
   rw [Hr] at this
   exact this
  walk_at "rd"
  have gl:=dQ hs
  refine eM (fun i S=>∃kvs s7 s8 s9 s10,Wt (rbs k w h (xs.take i)) (bR w h) kvs/\S=[.val (.int k),.val (eT [w,h]),.val (eL xs),.val (.int w),.val (.int h),.val (eL (nr k)),od kvs,s7,s8,s9,s10]) ⟨_,_,_,_,_,by simpa [rbs] using z0.wt,rfl⟩ ?_ ?_
  ·rintro i d S2 e ⟨kvs,s7,s8,s9,s10,tc,rfl⟩
   obtain ⟨p,h1,rfl,hm,ht⟩:=aL e
   obtain ⟨px,py,rfl⟩:=hp p hm
   show vgT 2 _ (.tup [.int px,.int py]) _ _
   walk_at "rd"
   have l1:(xs.take i).length<=1600:=by rw [Ie];lia
   have bl:=pL (w:=w) (h:=h) hk (xs.take i)
   refine eM (fun j S=>∃kvs s9 s10,Wt (rbs k w h (xs.take i)++((nr k).take j).map (rad w h [px,py])) (bR w h) kvs/\S=[.val (.int k),.val (eT [w,h]),.val (eL xs),.val (.int w),.val (.int h),.val (eL (nr k)),od kvs,.val (.int px),.val (.int py),s9,s10]) ⟨kvs,_,_,by simpa using tc,rfl⟩ ?_ ?_
   ·rintro j d S3 e' ⟨kvs,s9,s10,tc,rfl⟩
    obtain ⟨m,h2,rfl,hm',ht'⟩:=aL e'
    obtain ⟨dx,dy,rfl⟩:=mz hk hm'
    have ing:=vq (w:=w) (h:=h) (by lia) (by lia) (p:=[px,py]) (m:=[dx,dy]) ⟨_,_,rfl⟩ ⟨_,_,rfl⟩
    show vgT 2 _ (.tup [.int dx,.int dy]) _ _
    walk_at "rd"
    have t2:=tc.len
    have nl:=vp hk
    rw [G6,Gx,Ie] at t2
    refine xO (kvs:=kvs) (ms:=[(px+dx)%w,(py+dy)%h]) rfl rfl (by lia) (tc.at (cj.mpr ing)) ?_
    refine ⟨_,_,_,?_,rfl⟩
    rw [ht',HA,<- GJ]
    exact tc.putG (cj.mpr ing)
   ·rintro S3 ⟨kvs,s9,s10,tc,rfl⟩
    refine ⟨kvs,_,_,_,_,?_,rfl⟩
    rw [ht]
    simpa [rbs] using tc
  ·rintro S2 ⟨kvs,s7,s8,s9,s10,tc,rfl⟩
   rw [Gx,HK] at tc
   walk_at "rd"
   exact q kvs tc
theorem Fo (S:Src K mg "living_next" cI) (T:Txt mg) (e26_:Has P w K mg base 1 "comes" ["rule","alive","count"] (spP K vw)):Has P w K mg base 2 "living_next" ["rule","picture","tally"] (spP K Fh):=by
 refine bP S gj (by walk_at "3") (by walk_at "L") fun f cdv A outer s H E hr=>⟨_,_,(ai (kB (fun _ h=>cB (i:=3) gj.nd rfl (Ij rfl) h) (xy (tg:=["cell"]) (cs:=[]) (ix:=[]) rfl hr.units (aM (aj cI) ["rule","picture","tally","living"] (by decide +kernel)) rfl (bu (by decide)) (by decide) (bx rfl (ae 1 (pv 1))) (fun _ _ _ _=>(au (aq (i:=0) (show (["cell"]:List Str).Nodup by decide +kernel) rfl (GB rfl) (by first | exact GB rfl | exact Ij rfl)))) (fun _ _ _ _=>cu) (fun _ _ _ _=>(ae 0 (pv 0))) (fun _ _ _ _=>cO)))
  (ak (aD (aG (gg rfl rfl (by rfl) T.sorted_ fj (aa (aG (bO (tg:=["cell","count"]) (cs:=["rule","living"]) (ix:=[0,3]) (aM (aj cI) ["rule","picture","tally","living"] (by decide +kernel)) rfl (dD (by decide) (by decide)) (by decide) (ur (ae 2 (pv 2))) (fun _ _ _ _=>(bM (n:=2) rfl rfl (aC (au (aq (i:=0) (show (["cell","count","rule","living"]:List Str).Nodup by decide +kernel) rfl (GB rfl) (by first | exact GB rfl | exact Ij rfl))) (aC (au (aq (i:=1) (show (["cell","count","rule","living"]:List Str).Nodup by decide +kernel) rfl (GB rfl) (by first | exact GB rfl | exact Ij rfl))) bw)))) (fun _ _ _ _=>(fh (cK (bD e26_ hr (aa (ae 2 (pv 2)) (aa (eG (tJ (K:=K) rfl hr.units) oW (ae 0 (pv 0)) (ae 3 (pv 3)) (by with_unfolding_all rfl)) (aa (ae 1 (pv 1)) ah))))))) (fun _ _ _ _=>(aF (ae 0 (pv 0)))))) ah)))))),?_⟩
 rintro ds R ⟨k,bo,st,w,h,xs,kvs,rfl,hk,hs,hp,hl,tc,q⟩
 walk_at "sl"
 walk_at "rd"
 have b1:=pL (w:=w) (h:=h) hk xs
 have gl:=dQ hs
 have t2:=tc.len
 refine qF (xs:=xs) (en:=eT) (ky:=fun p=>p) (f:=fun _=>.bl true) (by lia) (fun p hp A B hA=>?_) ?_
 ·dsimp only [bz,He,GO,Hu,Hq,Hr]
  walk_at "rc"
  exact hA _ rfl
 ·walk_at "rd"
  refine dh (xs:=kvs) (en:=fun x=>.tup [kT x.1,x.2]) (f:=fun x=>eT x.1) (p:=fun x=>rliv k bo st w h xs x.1) (by lia) (fun c hc A B hA hB=>?_) ?_
  ·dsimp only [bz,He,GO,Hu,Hq,Hr]
   rw [tc.vals c hc]
   have hal:decide (c.1∈(xs.foldl (fun kvs x=>ba kvs x (D.bl true)) []).map (·.1))=decide (c.1∈xs):=by
    congr 1
    exact propext ((gM (ky:=fun p=>p) (f:=fun _=>D.bl true) xs []).trans (by simp))
   walk_at "rd"
   refine kE (ms:=c.1) rfl rfl ?_
   walk_at "rd"
   refine ⟨k,bo,st,_,_,rfl,?_⟩
   rw [if_neg Gw,hal]
   change sO _ (.d (.bl (rliv k bo st w h xs c.1))) _
   cases hv:rliv k bo st w h xs c.1 with
   | true=>walk_at "rc";refine cD (vz _) ?_;walk_at "rc";exact hA _ rfl hv
   | false=>walk_at "rc";exact hB _ rfl hv
  ·walk_at "rd"
   rw [show ((kvs.filter fun x=>rliv k bo st w h xs x.1).map fun x=>eT x.1)=((kvs.filter fun x=>rliv k bo st w h xs x.1).map (·.1)).map eT by rw [HC];rfl]
   walk_at "rd"
   refine gh (mss:=(kvs.filter fun x=>rliv k bo st w h xs x.1).map (·.1)) rfl (fun ms hms=>?_) ?_
   ·obtain ⟨x,hx,rfl⟩:=List.mem_map.mp hms
    have hk2:=(tc.keys x.1).mp (List.mem_map.mpr ⟨x,(List.mem_filter.mp hx).1,rfl⟩)
    obtain ⟨a,b,e,_⟩:=hk2.elim (vA hk hs hp x.1) cj.mp
    rw [e];exact List.cons_ne_nil _ _
   ·rw [Cz tc (vA hk hs hp)]
    walk_at "rd"
    exact q
theorem Fp (S:Src K mg "ring_next" gQ) (T:Txt mg) (e1_:Has P w K mg base 4 "refuse_no_ring" ["size"] (spP K ym)) (e16_:Has P w K mg base 2 "living_next" ["rule","picture","tally"] (spP K Fh)) (e28_:Has P w K mg base 2 "ring_counts" ["kind","size","picture"] (spP K pRc)):Has P w K mg base 5 "ring_next" ["rule","size","picture"] (spP K pRn):=by
 refine bP S nP (by walk_at "3") (by walk_at "L") fun f cdv A outer s H E hr=>⟨_,_,(ai (fc (bD e1_ hr (aa (ae 1 (pv 1)) ah)))
  (ak (aD (bD e16_ hr (aa (ae 0 (pv 0)) (aa (ae 2 (pv 2)) (aa (bD e28_ hr (aa (aH rfl (ae 0 (pv 0)) af (fun _ _=>rfl)) (aa (ae 1 (pv 1)) (aa (ae 2 (pv 2)) ah)))) ah))))))),?_⟩
 rintro ds R ⟨k,bo,st,w,h,xs,rfl,hk,hs,hp,hl,q⟩
 walk_at "sl"
 walk_at "rd"
 refine ⟨w,h,rfl,hs,?_⟩
 unfold rl
 walk_at "rd"
 refine ⟨k,w,h,xs,rfl,hk,hs,hp,hl,fun kvs tc=>?_⟩
 walk_at "rd"
 refine ⟨k,bo,st,w,h,xs,kvs,rfl,hk,hs,hp,hl,tc,?_⟩
 walk_at "rd"
 exact q
theorem Fq (S:Src K mg "ring_moved" d8) (T:Txt mg) (e1_:Has P w K mg base 4 "refuse_no_ring" ["size"] (spP K ym)):Has P w K mg base 5 "ring_moved" ["size","picture","move"] (spP K pRm):=by
 refine bP S cJ (by walk_at "3") (by walk_at "L") fun f cdv A outer s H E hr=>⟨_,_,(ai (fc (bD e1_ hr (aa (ae 0 (pv 0)) ah)))
  (ai (eI (ae 0 (pv 0)) (bM (n:=2) rfl rfl (aC (au (aq (i:=3) cJ.nd rfl (Ij rfl) (GB rfl))) (aC (au (aq (i:=4) cJ.nd rfl (Ij rfl) (GB rfl))) bw))))
  (ai (eI (ae 2 (pv 2)) (bM (n:=2) rfl rfl (aC (au (aq (i:=5) cJ.nd rfl (Ij rfl) (GB rfl))) (aC (au (aq (i:=6) cJ.nd rfl (Ij rfl) (GB rfl))) bw))))
  (ak (aD (aG (gg rfl rfl (by rfl) T.sorted_ fj (aa (aG (bO (tg:=["x","y"]) (cs:=["wide","high","dx","dy"]) (ix:=[3,4,5,6]) (aM (aj d8) ["size","picture","move","wide","high","dx","dy"] (by decide +kernel)) rfl (dD (by decide) (by decide)) (by decide) (bx rfl (ae 1 (pv 1))) (fun _ _ _ _=>(bM (n:=2) rfl rfl (aC (au (aq (i:=0) (show (["x","y","wide","high","dx","dy"]:List Str).Nodup by decide +kernel) rfl (GB rfl) (by first | exact GB rfl | exact Ij rfl))) (aC (au (aq (i:=1) (show (["x","y","wide","high","dx","dy"]:List Str).Nodup by decide +kernel) rfl (GB rfl) (by first | exact GB rfl | exact Ij rfl))) bw)))) (fun _ _ _ _=>cu) (fun _ _ _ _=>(aw (aa (aA br bI (aA aS aJ (ae 0 (pv 0)) (ae 4 (pv 4))) (ae 2 (pv 2))) (aa (aA br bI (aA aS aJ (ae 1 (pv 1)) (ae 5 (pv 5))) (ae 3 (pv 3))) ah)))))) ah)))))))),?_⟩
 rintro ds R ⟨w,h,xs,a,b,rfl,hs,hp,hl,q⟩
 have hs':=hs
 obtain ⟨s1,s2,s3,s4⟩:=hs'
 walk_at "sl"
 walk_at "rd"
 refine ⟨w,h,rfl,hs,?_⟩
 walk_at "rd"
 refine comp_map (xs:=xs) (en:=eT) (f:=fun m=>eT (rmv w h a b m)) (by lia) (fun m hm A B hA=>?_) ?_
 ·obtain ⟨x,y,rfl⟩:=hp m hm
  dsimp only [bz,He,GO,Hu,Hq,Hr]
  walk_at "rd"
  exact hA _ rfl
 ·rw [show xs.map (fun m=>eT (rmv w h a b m))=(xs.map (rmv w h a b)).map eT by rw [HC];rfl]
  walk_at "rd"
  refine gh (mss:=xs.map (rmv w h a b)) rfl (fun ms hm=>?_) ?_
  ·obtain ⟨m,h1,rfl⟩:=List.mem_map.mp hm
   obtain ⟨x,y,rfl⟩:=hp m h1
   simp [rmv]
  ·walk_at "rd"
   exact q
end
end My
namespace My
open PySem L2 VL
theorem CG {w h a b:Int} (hw:0 < w) (hh:0 < h) {p:List Int} (hp:Pr p):InG w h (rmv w h a b p):=by
 obtain ⟨x,y,rfl⟩:=hp
 exact ⟨_,_,rfl,Hs _ (by lia),Hd _ hw,Hs _ (by lia),Hd _ hh⟩
theorem yp {w h a b c d:Int} {p:List Int} (hp:Pr p):rmv w h c d (rmv w h a b p)=rmv w h (a+c) (b+d) p:=by
 obtain ⟨x,y,rfl⟩:=hp
 simp only [rmv,Int.emod_add_emod]
 rw [Int.add_assoc,Int.add_assoc]
theorem pM {w h a b:Int} (hw:0 < w) (hh:0 < h) {p q:List Int} (hp:InG w h p) (hq:InG w h q) (e:rmv w h a b p=rmv w h a b q):p=q:=by
 obtain ⟨x,y,rfl,x0,x1,y0,y1⟩:=hp
 obtain ⟨u,v,rfl,u0,u1,v0,v1⟩:=hq
 simp only [rmv,JU,and_true] at e
 have c1:=(dO (p:=x) (d:=a) hw x0 x1 (Hs (u+a) (by lia)) (Hd _ hw)).mp e.1
 have c2:=(dO (p:=u) (d:=a) hw u0 u1 (Hs (u+a) (by lia)) (Hd _ hw)).mp rfl
 have d1:=(dO (p:=y) (d:=b) hh y0 y1 (Hs (v+b) (by lia)) (Hd _ hh)).mp e.2
 have d2:=(dO (p:=v) (d:=b) hh v0 v1 (Hs (v+b) (by lia)) (Hd _ hh)).mp rfl
 rw [<- c1,c2,<- d1,d2]
theorem jn {R:List Int->Prop} {g:List Int->List Int} (hg:∀m n,R m->R n->g m=g n->m=n):∀{l:List (List Int)},(∀m∈l,R m)->l.Nodup->(l.map g).Nodup
 | [],_,_=>Kg
 | m::l,h,nd=>by
  rw [JQ] at nd
  rw [GO,JQ]
  refine ⟨fun z=>nd.1 ?_,jn hg (fun m hm=>h m (GU _ hm)) nd.2⟩
  obtain ⟨n,hn,e⟩:=List.mem_map.mp z
  rw [<- hg n m (h n (GU _ hn)) (h m GG) e]
  exact hn
theorem CH {w h a b:Int} (hw:0 < w) (hh:0 < h) {xs:List (List Int)} (hp:∀p∈xs,Pr p):∀p∈rMv w h a b xs,InG w h p:=fun p hm=>by
 obtain ⟨q,hq,rfl⟩:=List.mem_map.mp ((bK _).mem_iff.mp hm)
 exact CG hw hh (hp q hq)
theorem pN {w h a b:Int} {xs:List (List Int)}:(rMv w h a b xs).length=xs.length:=by
 unfold rMv;rw [(bK _).length_eq,Gx]
theorem fv {w h a b c d:Int} {xs:List (List Int)} (hp:∀p∈xs,Pr p):rMv w h c d (rMv w h a b xs)=rMv w h (a+c) (b+d) xs:=by
 unfold rMv
 rw [qR ((bK _).map _),HC]
 congr 1
 exact Ih fun p h=>yp (hp p h)
theorem zO {x a w:Int} (x0:0<=x) (x1:x < w):(x+(a-a%w))%w=x:=by
 have e:=Kl a w
 rw [show a-a%w=w*(a / w) by lia,Js,HX x0 x1]
theorem qU {w h a b:Int} {xs:List (List Int)} (hp:∀p∈xs,InG w h p) (hs:xs.Pairwise (fun a b=>lexLe a b=true)):rMv w h (a-a%w) (b-b%h) xs=xs:=by
 unfold rMv
 have:xs.map (rmv w h (a-a%w) (b-b%h))=xs:=by
  conv=>rhs;rw [<- List.map_id xs]
  refine Ih fun p hm=>?_
  obtain ⟨x,y,rfl,x0,x1,y0,y1⟩:=hp p hm
  simp only [rmv,id]
  rw [zO x0 x1,zO y0 y1]
 rw [this]
 exact (iP (Mh _) hs).symm
end My
namespace My
open PySem L2 VL
noncomputable def bits (f:Nat->Bool):Nat->Nat
 | 0=>0
 | n+1=>bits f n+if f n=true then 2 ^ n else 0
theorem gu (f:Nat->Bool):∀n,bits f n < 2 ^ n
 | 0=>Nat.one_pos
 | n+1=>by
  have:=gu f n
  rw [bits,Nl]
  split <;> lia
theorem ef {f g:Nat->Bool}:∀{n:Nat},(∀i,i < n->f i=g i)->bits f n=bits g n
 | 0,_=>rfl
 | n+1,h=>by rw [bits,bits,ef fun i hi=>h i (by lia),h n (Ig n)]
theorem mD {f g:Nat->Bool}:∀{n:Nat},bits f n=bits g n->∀i,i < n->f i=g i
 | 0,_,i,hi=>absurd hi (HU i)
 | n+1,h,i,hi=>by
  have a:=gu f n
  have b:=gu g n
  rw [bits,bits] at h
  have e:f n=g n/\bits f n=bits g n:=by
   cases hf:f n <;> cases hg:g n <;> simp only [hf,hg,Hz,if_false,if_true] at h <;> first | exact ⟨rfl,by lia⟩ | lia
  by_cases hn:i=n
  ·subst hn;exact e.1
  ·exact mD e.2 i (by lia)
theorem mE {f g:Nat->Bool} {x:Nat} (h0:f x=false) (h1:g x=true) (h:∀i,i≠x->g i=f i):∀{n:Nat},x < n->bits g n=bits f n+2 ^ x
 | n+1,hx=>by
  rw [bits,bits]
  by_cases e:x=n
  ·subst e
   rw [h0,h1,ef (g:=f) fun i hi=>h i (by lia)]
   simp
  ·rw [mE h0 h1 h (show x < n by lia),h n (fun z=>e z.symm)]
   lia
theorem qV {f g:Nat->Bool} {n:Nat} (h0:g 0=f n) (h:∀i,i < n->g (i+1)=f i):bits g (n+1)=bits f (n+1)*2%2 ^ (n+1)+bits f (n+1) / 2 ^ n:=by
 have low:∀m,m<=n->bits g (m+1)=2*bits f m+if g 0=true then 1 else 0:=by
  intro m
  induction m with
  | zero=>intro _;show 0+(if g 0=true then 2 ^ 0 else 0)=2*0+_;simp
  | succ m ih=>
   intro hm
   rw [bits,ih (by lia),bits,h m (by lia),Nl]
   split <;> lia
 have a:=gu f n
 rw [low n (Gz n),bits,h0,Nl]
 generalize 2 ^ n=B at a
 cases f n with
 | false=>
  simp only [Hz,if_false,LU]
  rw [Nat.mod_eq_of_lt (by lia),Nat.div_eq_of_lt a]
  lia
 | true=>
  simp only [if_true]
  rw [show (bits f n+B)*2=bits f n*2+B*2 by lia,Nat.add_mod_right,Nat.mod_eq_of_lt (by lia),show (bits f n+B) / B=1 by rw [Nat.add_div_right _ (by lia),Nat.div_eq_of_lt a]]
  lia
noncomputable def bn (xs:List (List Int)) (y x:Nat):Bool:=decide ([(x:Int),(y:Int)]∈xs)
noncomputable def Rw (w h:Int) (xs:List (List Int)):List Int:=(G1 h.toNat).map fun y=>((bits (bn xs y) w.toNat:Nat):Int)
theorem nU (w h:Int) (xs:List (List Int)):(Rw w h xs).length=h.toNat:=by simp [Rw]
noncomputable def Pg (w h:Int) (xs:List (List Int)):Prop:=xs.Nodup/\xs.Pairwise (fun a b=>lexLe a b=true)/\∀p∈xs,InG w h p
theorem Pg.pr {w h:Int} {xs:List (List Int)} (i:Pg w h xs):∀p∈xs,Pr p:=fun p hp=>(i.2.2 p hp).pr
theorem Pg.ext {w h:Int} {xs ys:List (List Int)} (a:Pg w h xs) (b:Pg w h ys) (e:∀c,InG w h c->(c∈xs↔c∈ys)):xs=ys:=by
 have p:xs.Perm ys:=(KQ a.1 b.1).mpr fun c=>⟨fun m=>(e c (a.2.2 c m)).mp m,fun m=>(e c (b.2.2 c m)).mpr m⟩
 exact List.Perm.eq_of_pairwise (fun x y _ _ h1 h2=>iO x y h1 h2) a.2.1 b.2.1 p
theorem CI {w h:Int} {xs ys:List (List Int)} (a:Pg w h xs) (b:Pg w h ys) (e:Rw w h xs=Rw w h ys):xs=ys:=by
 refine a.ext b fun c hc=>?_
 obtain ⟨x,y,rfl,x0,x1,y0,y1⟩:=hc
 obtain ⟨i,rfl⟩:=HH x0
 obtain ⟨j,rfl⟩:=HH y0
 have e1:=congrArg (fun l=>l[j]?) e
 simp only [Rw,GH,IC (show j < h.toNat by lia),Option.map_some,Option.some.injEq] at e1
 have:=mD (Int.ofNat.inj e1) i (by lia)
 simpa [bn] using this
theorem Pg.mv {w h:Int} (hw:0 < w) (hh:0 < h) {xs:List (List Int)} (p:Pg w h xs) (a b:Int):Pg w h (rMv w h a b xs):=
 ⟨(bK _).nodup_iff.mpr (jn (R:=InG w h) (fun m n hm hn e=>pM hw hh hm hn e) p.2.2 p.1),dW _,CH hw hh p.pr⟩
theorem CJ {w h a b:Int} (hw:0 < w) (hh:0 < h) {xs:List (List Int)} (p:∀q∈xs,InG w h q) {c:List Int} (hc:InG w h c):rmv w h a b c∈rMv w h a b xs↔c∈xs:=by
 unfold rMv
 rw [(bK _).mem_iff,Nk]
 exact ⟨fun zt1=>by obtain ⟨q,hq,e⟩:=zt1;exact pM hw hh (p q hq) hc e▸hq,fun m=>⟨c,m,rfl⟩⟩
theorem vF {w h a b:Int} (hw:0 < w) (hh:0 < h) {xs:List (List Int)} (p:∀q∈xs,InG w h q) {x y u v:Nat} (hx:(x:Int) < w) (hy:(y:Int) < h) (eu:((x:Int)+a)%w=u) (ev:((y:Int)+b)%h=v):bn (rMv w h a b xs) v u=bn xs y x:=by
 unfold bn
 have:=CJ (a:=a) (b:=b) hw hh p (c:=[(x:Int),(y:Int)]) ⟨_,_,rfl,by lia,hx,by lia,hy⟩
 rw [show rmv w h a b [(x:Int),(y:Int)]=[(u:Int),(v:Int)] by show [_,_]=_;rw [eu,ev]] at this
 exact decide_eq_decide.mpr this
noncomputable def psh (w:Int) (n:Int):Int:=n*2%2 ^ w.toNat+n / 2 ^ (w-1).toNat
theorem yq {w h:Int} (hs:Sz w h) {xs:List (List Int)} (p:Pg w h xs):(Rw w h xs).map (psh w)=Rw w h (rMv w h 1 0 xs):=by
 obtain ⟨s1,s2,s3,s4⟩:=hs
 unfold Rw
 rw [HC]
 refine Ih fun y hy=>?_
 have hy:=List.mem_range.mp hy
 have e2:((y:Int)+0)%h=(y:Nat):=by rw [Nm,HX (by lia) (by lia)]
 have:=qV (f:=bn xs y) (g:=bn (rMv w h 1 0 xs) y) (n:=(w-1).toNat) (vF (by lia) (by lia) p.2.2 (by lia) (by lia) (by rw [show (((w-1).toNat:Nat):Int)+1=w by lia,Int.emod_self];rfl) e2) (fun i hi=>vF (by lia) (by lia) p.2.2 (by lia) (by lia) (by rw [HX (by lia) (by lia)];rfl) e2)
 rw [show (w-1).toNat+1=w.toNat by lia] at this
 rw [this]
 show psh w _=_
 unfold psh
 push_cast
 rfl
theorem yr {w h:Int} (hs:Sz w h) {xs:List (List Int)} (p:Pg w h xs) {d:Nat} (hd:(d:Int) < h):(Rw w h xs).drop d++(Rw w h xs).take d=Rw w h (rMv w h 0 (-(d:Int)) xs):=by
 obtain ⟨s1,s2,s3,s4⟩:=hs
 refine Kb fun j=>?_
 have row:(Rw w h (rMv w h 0 (-(d:Int)) xs))[j]?=if j < h.toNat then some ((bits (bn (rMv w h 0 (-(d:Int)) xs) j) w.toNat:Nat):Int) else none:=by
  unfold Rw
  split
  ·rename_i hj;rw [GH,IC hj];rfl
  ·rename_i hj;rw [Jn (by simp;lia)]
 have src:∀i,i < h.toNat->(Rw w h xs)[i]?=some ((bits (bn xs i) w.toNat:Nat):Int):=fun i hi=>by
  unfold Rw
  rw [GH,IC hi];rfl
 have same:∀i,i < h.toNat->((i:Int)+-(d:Int))%h=j->bits (bn (rMv w h 0 (-(d:Int)) xs) j) w.toNat=bits (bn xs i) w.toNat:=fun i hi e=>ef fun x hx=>vF (by lia) (by lia) p.2.2 (by lia) (by lia) (by rw [Nm,HX (by lia) (by lia)]) e
 rw [row,Kq,Ir,nU]
 by_cases h1:j < h.toNat-d
 ·rw [if_pos h1,if_pos (by lia),MK,src (d+j) (by lia),same (d+j) (by lia) (by rw [show ((d+j:Nat):Int)+-(d:Int)=(j:Int) by lia,HX (by lia) (by lia)])]
 ·rw [if_neg h1]
  by_cases h2:j < h.toNat
  ·rw [if_pos h2,KY,if_pos (by lia),src _ (by lia),same (j-(h.toNat-d)) (by lia) (by rw [show ((j-(h.toNat-d):Nat):Int)+-(d:Int)=(j:Int)-h by lia,Int.sub_emod_right,HX (by lia) (by lia)])]
  ·rw [if_neg h2,KY,if_neg (by lia)]
noncomputable def Ky (w h:Int) (xs:List (List Int)) (key:List Int):Prop:=(∃a b,key=Rw w h (rMv w h a b xs))/\∀a b,HT.lexLt (Rw w h (rMv w h a b xs)) key=false
theorem Ky.one {w h:Int} {xs:List (List Int)} {k l:List Int} (a:Ky w h xs k) (b:Ky w h xs l):k=l:=by
 obtain ⟨⟨a1,a2,rfl⟩,ha⟩:=a
 obtain ⟨⟨b1,b2,rfl⟩,hb⟩:=b
 exact dG _ _ (hb a1 a2) (ha b1 b2)
noncomputable def rky (w h:Int) (xs:List (List Int)):List Int:=Classical.epsilon (Ky w h xs)
theorem Ky.rky {w h:Int} {xs:List (List Int)} {k:List Int} (a:Ky w h xs k):k=rky w h xs:=a.one (Classical.epsilon_spec ⟨k,a⟩)
theorem Ky.mv {w h:Int} {xs:List (List Int)} (p:Pg w h xs) {k:List Int} (a:Ky w h xs k) (c d:Int):Ky w h (rMv w h c d xs) k:=by
 obtain ⟨⟨a1,a2,e⟩,m⟩:=a
 refine ⟨⟨a1-c,a2-d,?_⟩,fun u v=>?_⟩
 ·rw [fv p.pr,e,show c+(a1-c)=a1 by lia,show d+(a2-d)=a2 by lia]
 ·rw [fv p.pr];exact m _ _
noncomputable def Mvd (w h:Int) (xs ys:List (List Int)):Prop:=∃a b,rMv w h a b xs=ys
theorem pO {w h:Int} {xs:List (List Int)} (p:Pg w h xs):rMv w h 0 0 xs=xs:=by
 have:=qU (a:=0) (b:=0) p.2.2 p.2.1
 simpa using this
theorem Mvd.symm {w h:Int} {xs ys:List (List Int)} (p:Pg w h xs) (m:Mvd w h xs ys):Mvd w h ys xs:=by
 obtain ⟨a,b,rfl⟩:=m
 exact ⟨-a,-b,by rw [fv p.pr,show a+-a=0 by lia,show b+-b=0 by lia,pO p]⟩
theorem Mvd.trans {w h:Int} {xs ys zs:List (List Int)} (p:Pg w h xs) (m:Mvd w h xs ys) (n:Mvd w h ys zs):Mvd w h xs zs:=by
 obtain ⟨a,b,rfl⟩:=m
 obtain ⟨c,d,rfl⟩:=n
 exact ⟨_,_,(fv p.pr).symm⟩
theorem pP {w h:Int} (hs:Sz w h) {xs ys:List (List Int)} (p:Pg w h xs) (q:Pg w h ys) (kx:Ky w h xs (rky w h xs)) (ky:Ky w h ys (rky w h ys)):rky w h xs=rky w h ys↔Mvd w h xs ys:=by
 obtain ⟨s1,s2,s3,s4⟩:=hs
 constructor
 ·intro e
  obtain ⟨⟨a,b,e1⟩,_⟩:=kx
  obtain ⟨⟨c,d,e2⟩,_⟩:=ky
  rw [e1,e2] at e
  have:=CI (p.mv (by lia) (by lia) a b) (q.mv (by lia) (by lia) c d) e
  exact Mvd.trans p ⟨a,b,rfl⟩ (Mvd.symm q ⟨c,d,this.symm⟩)
 ·rintro ⟨a,b,rfl⟩
  exact (kx.mv p a b).rky
noncomputable def Lm (w h:Int) (xs ys:List (List Int)):Option (List Int)->Prop
 | none=>∀a b:Nat,(a:Int) < w->(b:Int) < h->rMv w h a b xs≠ys
 | some v=>∃a b:Nat,v=[(a:Int),(b:Int)]/\(a:Int) < w/\(b:Int) < h/\rMv w h a b xs=ys/\∀c d:Nat,(d:Int) < h->(c < a\/c=a/\d < b)->rMv w h c d xs≠ys
theorem Lm.one {w h:Int} {xs ys:List (List Int)} {u v:Option (List Int)} (p:Lm w h xs ys u) (q:Lm w h xs ys v):u=v:=by
 cases u with
 | none=>
  cases v with
  | none=>rfl
  | some v=>obtain ⟨a,b,_,h1,h2,h3,_⟩:=q;exact absurd h3 (p a b h1 h2)
 | some u=>
  obtain ⟨a,b,rfl,h1,h2,h3,h4⟩:=p
  cases v with
  | none=>exact absurd h3 (q a b h1 h2)
  | some v=>
   obtain ⟨c,d,rfl,g1,g2,g3,g4⟩:=q
   have:a=c/\b=d:=by
    refine G4 fun z=>?_
    by_cases l:c < a\/c=a/\d < b
    ·exact h4 c d g2 l g3
    ·exact g4 a b h2 (by lia) h3
   rw [this.1,this.2]
theorem lg {w h a b:Int} {xs:List (List Int)} (p:∀q∈xs,Pr q):rMv w h (a%w) (b%h) xs=rMv w h a b xs:=by
 unfold rMv
 congr 1
 refine Ih fun m hm=>?_
 obtain ⟨x,y,rfl⟩:=p m hm
 show [_,_]=[_,_]
 rw [Na,Na]
theorem Lm.none {w h:Int} (hs:Sz w h) {xs ys:List (List Int)} (p:Pg w h xs) (l:Lm w h xs ys none):¬Mvd w h xs ys:=by
 rintro ⟨a,b,e⟩
 obtain ⟨s1,s2,s3,s4⟩:=hs
 have a0:=Hs a (show w≠0 by lia)
 have a1:=Hd a (show 0 < w by lia)
 have b0:=Hs b (show h≠0 by lia)
 have b1:=Hd b (show 0 < h by lia)
 refine l (a%w).toNat (b%h).toNat (by lia) (by lia) ?_
 rw [IK a0,IK b0,lg p.pr]
 exact e
theorem Lm.some {w h:Int} {xs ys:List (List Int)} {v:List Int} (l:Lm w h xs ys (some v)):Mvd w h xs ys:=let ⟨a,b,_,_,_,e,_⟩:=l;⟨a,b,e⟩
end My
namespace My
open PySem L2 VL
theorem Fv (n:Nat):cutD ds none (some (n:Int))=ds.take n:=by
 unfold cutD
 rw [HT.oh,HT.lw,Jy,Nat.sub_zero]
 by_cases h:n<=ds.length
 ·rw [JV h]
 ·rw [Nat.min_eq_right (by lia),IL (Gz _),IL (by lia)]
theorem Fw (n:Nat):cutD ds (some (n:Int)) none=ds.drop n:=by
 unfold cutD
 rw [HT.oh,HT.lw]
 by_cases h:n<=ds.length
 ·rw [JV h,IL (by rw [Ir];lia)]
 ·rw [Nat.min_eq_right (by lia),HZ (Gz _),HZ (by lia),List.take_nil]
theorem Pg.take {w h:Int} {xs:List (List Int)} (p:Pg w h xs) (i:Nat):Pg w h (xs.take i):=
 ⟨p.1.sublist (J3 _ _),p.2.1.sublist (J3 _ _),fun q hq=>p.2.2 q (IV hq)⟩
theorem Pg.len {w h:Int} {xs:List (List Int)} (hs:Sz w h) (p:Pg w h xs):xs.length<=1600:=HY (kY p.1 fun q hq=>cj.mpr (p.2.2 q hq)) (dQ hs)
theorem CK (w h:Int):Rw w h []=He h.toNat 0:=by
 unfold Rw
 have z:∀n y,bits (bn [] y) n=0:=fun n y=>by
  induction n with
  | zero=>rfl
  | succ n ih=>rw [bits,ih];simp [bn]
 rw [show (fun y=>((bits (bn [] y) w.toNat:Nat):Int))=fun _=>0 by funext y;rw [z];rfl]
 rw [List.map_const',Je]
theorem CL {w h:Int} {xs:List (List Int)} {x y:Nat} (hx:(x:Int) < w) (hn:[(x:Int),(y:Int)]∉xs) (hy:(y:Int) < h):∃n,(Rw w h xs)[y]?=some n/\Rw w h (xs++[[(x:Int),(y:Int)]])=(Rw w h xs).set y (n+2 ^ x):=by
 refine ⟨_,by unfold Rw;rw [GH,IC (show y < h.toNat by lia)];rfl,Kb fun j=>?_⟩
 rw [List.getElem?_set]
 unfold Rw
 rw [Gx,Je]
 have mem:∀u v:Nat,bn (xs++[[(x:Int),(y:Int)]]) v u=(bn xs v u||decide (u=x/\v=y)):=fun u v=>by
  unfold bn
  simp only [JW,Ip,JU,and_true,Bool.decide_or]
  congr 1
  exact decide_eq_decide.mpr (by lia)
 by_cases e:y=j
 ·subst e
  rw [if_pos rfl,if_pos (show y < h.toNat by lia),GH,IC (show y < h.toNat by lia)]
  have:=mE (f:=bn xs y) (g:=bn (xs++[[(x:Int),(y:Int)]]) y) (x:=x) (by simpa [bn] using hn) (by rw [mem];simp) (fun i hi=>by rw [mem];simp [hi]) (show x < w.toNat by lia)
  show some ((bits (bn (xs++[[(x:Int),(y:Int)]]) y) w.toNat:Nat):Int)=some (((bits (bn xs y) w.toNat:Nat):Int)+2 ^ x)
  rw [this]
  push_cast
  rfl
 ·rw [if_neg e]
  by_cases hj:j < h.toNat
  ·rw [GH,GH,IC hj]
   show some ((bits (bn (xs++[[(x:Int),(y:Int)]]) j) w.toNat:Nat):Int)=some ((bits (bn xs j) w.toNat:Nat):Int)
   rw [ef (f:=bn (xs++[[(x:Int),(y:Int)]]) j) (g:=bn xs j) (n:=w.toNat) fun i _=>by rw [mem];simp [show ¬j=y from fun z=>e z.symm]]
  ·rw [Jn (by simp;lia),Jn (by simp;lia)]
noncomputable def pRo:List D->(D->Prop)->Prop:=fun ds R=>∃w h xs,ds=[eT [w,h],eL xs]/\Sz w h/\Pg w h xs/\R (lI (Rw w h xs))
noncomputable def pPu:List D->(D->Prop)->Prop:=fun ds R=>∃w n:Int,ds=[.int w,.int n]/\3<=w/\w<=40/\0<=n/\n < 2 ^ 40/\R (.int (psh w n))
noncomputable def pKe:List D->(D->Prop)->Prop:=fun ds R=>∃w h xs,ds=[eT [w,h],eL xs]/\Sz w h/\Pg w h xs/\(Ky w h xs (rky w h xs)->R (kT (rky w h xs)))
noncomputable def oE:Option (List Int)->D
 | none=>.non
 | some v=>eT v
noncomputable def pLm:List D->(D->Prop)->Prop:=fun ds R=>∃w h xs ys,ds=[eT [w,h],eL xs,eL ys]/\Sz w h/\Pg w h xs/\∀m,Lm w h xs ys m->R (oE m)
theorem Fx {w h:Int} (hs:Sz w h) {xs:List (List Int)}:∀n∈Rw w h xs,0<=n/\n < 2 ^ 40:=fun n hn=>by
 obtain ⟨y,_,rfl⟩:=List.mem_map.mp hn
 have a:=gu (bn xs y) w.toNat
 have b:2 ^ w.toNat<=2 ^ 40:=Nat.pow_le_pow_right (by decide) (by have:=hs.2.1;lia)
 exact ⟨by lia,by have:bits (bn xs y) w.toNat < 2 ^ 40:=GR a b;exact_mod_cast this⟩
noncomputable def Kp (w h:Int) (xs:List (List Int)) (i:Nat) (key:List Int):Prop:=(∃a b,key=Rw w h (rMv w h a b xs))/\∀a d:Nat,a < i->(d:Int) < h->HT.lexLt (Rw w h (rMv w h a (-(d:Int)) xs)) key=false
theorem Kp.step {w h:Int} {xs:List (List Int)} {i:Nat} {key ns:List Int} (k:Kp w h xs i key) (hns:ns∈key::(G1 h.toNat).map fun (d:Nat)=>Rw w h (rMv w h i (-(d:Int)) xs))
  (least:∀x∈key::(G1 h.toNat).map fun (d:Nat)=>Rw w h (rMv w h i (-(d:Int)) xs),HT.lexLt x ns=false):Kp w h xs (i+1) ns:=by
 constructor
 ·rcases List.mem_cons.mp hns with rfl | m
  ·exact k.1
  ·obtain ⟨d,_,rfl⟩:=List.mem_map.mp m
   exact ⟨_,_,rfl⟩
 ·intro a d ha hd
  by_cases e:a < i
  ·have h1:=k.2 a d e hd
   have h2:=least key GG
   cases hq:HT.lexLt (Rw w h (rMv w h a (-(d:Int)) xs)) ns with
   | false=>rfl
   | true=>
    rcases dU _ key _ hq with z | z
    ·rw [h1] at z;cases z
    ·rw [h2] at z;cases z
  ·obtain rfl:a=i:=by lia
   exact least _ (GU _ (List.mem_map.mpr ⟨d,List.mem_range.mpr (by lia),rfl⟩))
theorem Kp.ky {w h:Int} (hs:Sz w h) {xs:List (List Int)} (p:Pg w h xs) {i:Nat} {key:List Int} (k:Kp w h xs i key) (hi:(i:Int)=w):Ky w h xs key:=by
 obtain ⟨s1,s2,s3,s4⟩:=hs
 refine ⟨k.1,fun a b=>?_⟩
 have a0:=Hs a (show w≠0 by lia)
 have a1:=Hd a (show 0 < w by lia)
 have b0:=Hs (-b) (show h≠0 by lia)
 have b1:=Hd (-b) (show 0 < h by lia)
 have:=k.2 (a%w).toNat ((-b)%h).toNat (by lia) (by lia)
 rw [IK a0,IK b0] at this
 rw [<- lg p.pr (a:=a) (b:=b)]
 rw [<- lg p.pr (a:=a%w) (b:=-(-b%h))] at this
 rwa [L9 _ (Int.dvd_refl _),show -(-b%h)%h=b%h by rw [Ln,Int.sub_emod,L9 _ (Int.dvd_refl _),<- Int.sub_emod,<- Ln,Int.neg_neg]] at this
section
variable {P:G2} {w:HJ} {K:Gn} {mg:Str->Option Gs} {base:Heap}
theorem Fy (S:Src K mg "rows_of" iA) (T:Txt mg):Has P w K mg base 1 "rows_of" ["size","picture"] (spP K pRo):=by
 refine bP S dJ (by walk_at "2") (by walk_at "L") fun f cdv A outer s H E hr=>⟨_,_,(ai (eI (ae 0 (pv 0)) (bM (n:=2) rfl rfl (aC (au (aq (i:=2) dJ.nd rfl (GB rfl) (GB rfl))) (aC (au (aq (i:=3) dJ.nd rfl (GB rfl) (GB rfl))) bw))))
  (ai (sG (ii:=4) (tg:=["y"]) (cs:=[]) (ix:=[]) dJ.nd rfl (GB rfl) (GB rfl) (aM (aj iA) ["size","picture","wide","high","rows","x","y"] (by decide +kernel)) rfl (bu (by decide)) (by decide) (aX rfl T.range (aa (ae 3 (pv 3)) ah)) (fun _ _ _ _=>(au (aq (i:=0) (show (["y"]:List Str).Nodup by decide +kernel) rfl (GB rfl) (by first | exact GB rfl | exact Ij rfl)))) (fun _ _ _ _=>cu) (fun _ _ _ _=>af))
  (ai (bN Hi rfl (bx rfl (ae 1 (pv 1))) (bM (n:=2) rfl rfl (aC (au (aq (i:=5) dJ.nd rfl (GB rfl) (GB rfl))) (aC (au (aq (i:=6) dJ.nd rfl (GB rfl) (GB rfl))) bw))) (ak (xR 4 (pv 4) (ae 6 (pv 6)) (aA mJ bI af (ae 5 (pv 5))))))
  (ak (aD (aF (ae 4 (pv 4)))))))),?_⟩
 rintro ds R ⟨w,h,xs,rfl,hs,p,q⟩
 have hl:=p.len hs
 obtain ⟨s1,s2,s3,s4⟩:=id hs
 walk_at "sl"
 walk_at "rd"
 refine comp_map (xs:=G1 h.toNat) (en:=fun (i:Nat)=>D.int (0+(i:Int))) (f:=fun _=>D.int 0) (by simp;lia) (fun y hy A B hA=>?_) ?_
 ·dsimp only [bz,He,GO,Hu,Hq,Hr]
  walk_at "rd"
  exact hA _ rfl
 walk_at "rd"
 rw [show (G1 h.toNat).map (fun _=>D.int 0)=(Rw w h []).map D.int by rw [CK,List.map_const',Je,List.map_replicate]]
 refine eM (fun i S=>∃v5 v6,S=[.val (.tup [.int w,.int h]),.val (eL xs),.val (.int w),.val (.int h),.own ((Rw w h (xs.take i)).map D.int),v5,v6]) ⟨_,_,rfl⟩ ?_ ?_
 ·rintro i d S2 e ⟨v5,v6,rfl⟩
  obtain ⟨c,hc,rfl,hm,ht⟩:=aL e
  obtain ⟨x,y,rfl,x0,x1,y0,y1⟩:=p.2.2 c hm
  obtain ⟨x,rfl⟩:=HH x0
  obtain ⟨y,rfl⟩:=HH y0
  have nin:[(x:Int),(y:Int)]∉xs.take i:=fun z=>by
   have:=(p.take (i+1)).1
   rw [ht,M7] at this
   exact this.2.2 _ z _ GG rfl
  obtain ⟨n,e1,e2⟩:=CL (h:=h) x1 nin y1
  walk_at "rd"
  refine Cg rfl ?_
  walk_at "rd"
  refine yc (j:=y) (x:=n) rfl rfl (by rw [GH,e1];rfl) ?_
  walk_at "rd"
  refine yd rfl ?_
  dsimp only [Hg,Hk]
  rw [J4,NC,<- List.map_set,<- e2,<- ht]
  exact ⟨_,_,rfl⟩
 ·rintro S2 ⟨v5,v6,rfl⟩
  walk_at "rd"
  rw [Gx,HK]
  walk_at "rd"
  exact q
theorem FA (S:Src K mg "pushed" kS) (T:Txt mg):Has P w K mg base 1 "pushed" ["wide","row"] (spP K pPu):=by
 refine bP S u6 (by walk_at "2") (by walk_at "L") fun f cdv A outer s H E hr=>⟨_,_,(ak (aD (aA aS aJ (aA br bI (aA mJ bI (ae 1 (pv 1)) af) (aA mJ bI af (ae 0 (pv 0)))) (aA Ap bI (ae 1 (pv 1)) (aA et aJ (ae 0 (pv 0)) af))))),?_⟩
 rintro ds R ⟨w,n,rfl,w0,w1,n0,n1,q⟩
 have pw:(0:Int) < 1*2 ^ w.toNat:=by rw [NC];exact_mod_cast Nat.two_pow_pos w.toNat
 walk_at "sl"
 walk_at "rd"
 rw [NC]
 exact q
theorem FC (S:Src K mg "ring_key" eX) (T:Txt mg) (e24_:Has P w K mg base 1 "rows_of" ["size","picture"] (spP K pRo)) (e21_:Has P w K mg base 1 "pushed" ["wide","row"] (spP K pPu)):Has P w K mg base 2 "ring_key" ["size","picture"] (spP K pKe):=by
 refine bP S cg (by walk_at "2") (by walk_at "L") fun f cdv A outer s H E hr=>⟨_,_,(ai (eI (ae 0 (pv 0)) (bM (n:=2) rfl rfl (aC (au (aq (i:=2) cg.nd rfl (Ij rfl) (GB rfl))) (aC (au (aq (i:=3) cg.nd rfl (GB rfl) (GB rfl))) bw))))
  (ai (az (i:=4) cg.nd rfl (Ij rfl) (bD e24_ hr (aa (ae 0 (pv 0)) (aa (ae 1 (pv 1)) ah))))
  (ai (az (i:=5) cg.nd rfl (GB rfl) (ae 4 (pv 4)))
  (ai (bN Hi rfl (aX rfl T.range (aa (ae 2 (pv 2)) ah)) (au (aq (i:=6) cg.nd rfl (GB rfl) (GB rfl))) (ai (az (i:=5) cg.nd rfl (GB rfl) (B9 rfl rfl hr.units (by rfl) T.min_ (aa (mx rfl (kz (aa (ae 5 (pv 5)) ah)) (aG (bO (tg:=["dy"]) (cs:=["rows"]) (ix:=[4]) (aM (aj eX) ["size","picture","wide","high","rows","least","dx"] (by decide +kernel)) rfl (bu (by decide)) (by decide) (aX rfl T.range (aa (ae 3 (pv 3)) ah)) (fun _ _ _ _=>(au (aq (i:=0) (show (["dy","rows"]:List Str).Nodup by decide +kernel) rfl (GB rfl) (by first | exact GB rfl | exact Ij rfl)))) (fun _ _ _ _=>cu) (fun _ _ _ _=>(aG (pq (oT rfl (ae 1 (pv 1)) (fq (ae 0 (pv 0))) iq) (oT rfl (ae 1 (pv 1)) iq (fq (ae 0 (pv 0)))))))))) ah)))
  (ak (az (i:=4) cg.nd rfl (Ij rfl) (aG (bO (tg:=["row"]) (cs:=["wide"]) (ix:=[2]) (aM (aj eX) ["size","picture","wide","high","rows","least","dx"] (by decide +kernel)) rfl (bu (by decide)) (by decide) (bx rfl (ae 4 (pv 4))) (fun _ _ _ _=>(au (aq (i:=0) (show (["row","wide"]:List Str).Nodup by decide +kernel) rfl (GB rfl) (by first | exact GB rfl | exact Ij rfl)))) (fun _ _ _ _=>cu) (fun _ _ _ _=>(bD e21_ hr (aa (ae 1 (pv 1)) (aa (ae 0 (pv 0)) ah))))))))))
  (ak (aD (fI rfl (by rfl) T.tuple_ (aa (ae 5 (pv 5)) ah)))))))),?_⟩
 rintro ds R ⟨w,h,xs,rfl,hs,p,q⟩
 obtain ⟨s1,s2,s3,s4⟩:=id hs
 walk_at "sl"
 walk_at "rd"
 refine ⟨w,h,xs,rfl,hs,p,?_⟩
 walk_at "rd"
 refine cE (fun i S=>∃key v6,Kp w h xs i key/\S=[.val (.tup [.int w,.int h]),.val (eL xs),.val (.int w),.val (.int h),.val (lI (Rw w h (rMv w h i 0 xs))),.val (lI key),v6]) ⟨Rw w h xs,_,⟨⟨0,0,by rw [pO p]⟩,fun a d ha=>absurd ha (HU a)⟩,by rw [show ((0:Nat):Int)=0 from rfl,pO p]⟩ ?_ ?_
 ·rintro i S2 hi ⟨key,v6,kp,rfl⟩
  walk_at "rd"
  refine comp_map (xs:=G1 h.toNat) (en:=fun (d:Nat)=>D.int (0+(d:Int))) (f:=fun (d:Nat)=>lI (Rw w h (rMv w h i (-(d:Int)) xs))) (by simp;lia) (fun d hd A B hA=>?_) ?_
  ·have hd:=List.mem_range.mp hd
   dsimp only [bz,He,GO,Hu,Hq,Hr]
   walk_at "rd"
   rw [IR]
   refine ir rfl (aN _) (Fw d) ?_
   walk_at "rd"
   rw [IR]
   refine ir rfl (aN _) (Fv d) ?_
   refine zp (by rw [Ir,Ie,Gx,nU];lia) ?_
   walk_at "rd"
   rw [<- List.map_drop,<- List.map_take,<- HA,yr hs (p.mv (by lia) (by lia) i 0) (by lia),fv p.pr,Nm,IR]
   exact hA _ rfl
  walk_at "rd"
  refine uU (by simp;lia) ?_
  walk_at "rd"
  refine Ca (nss:=key::(G1 h.toNat).map fun (d:Nat)=>Rw w h (rMv w h i (-(d:Int)) xs)) (by simp) (by simp) (fun ns hns least=>?_)
  unfold lI
  walk_at "rd"
  refine comp_map (xs:=Rw w h (rMv w h i 0 xs)) (en:=D.int) (f:=fun n=>D.int (psh w n)) (by rw [nU];lia) (fun n hn A B hA=>?_) ?_
  ·obtain ⟨n0,n1⟩:=Fx hs n hn
   dsimp only [bz,He,GO,Hu,Hq,Hr]
   walk_at "rd"
   refine ⟨w,n,rfl,s1,s2,n0,n1,?_⟩
   walk_at "rd"
   exact hA _ rfl
  walk_at "rd"
  rw [show (Rw w h (rMv w h i 0 xs)).map (fun n=>D.int (psh w n))=(Rw w h (rMv w h ((i+1:Nat):Int) 0 xs)).map D.int by
   rw [<- J8,<- HC,yq hs (p.mv (by lia) (by lia) i 0),fv p.pr];rfl]
  exact ⟨ns,_,kp.step hns least,rfl⟩
 ·rintro S2 ⟨key,v6,kp,rfl⟩
  have ky:=kp.ky hs p (by lia)
  obtain rfl:=ky.rky
  walk_at "rd"
  refine kr rfl (aN _) ?_
  walk_at "rd"
  exact q ky
theorem FD (S:Src K mg "least_ring_move" cT) (T:Txt mg) (e6_:Has P w K mg base 5 "ring_moved" ["size","picture","move"] (spP K pRm)):Has P w K mg base 6 "least_ring_move" ["size","one","other"] (spP K pLm):=by
 refine bP S bL (by walk_at "3") (by walk_at "L") fun f cdv A outer s H E hr=>⟨_,_,(ai (eI (ae 0 (pv 0)) (bM (n:=2) rfl rfl (aC (au (aq (i:=3) bL.nd rfl (GB rfl) (GB rfl))) (aC (au (aq (i:=4) bL.nd rfl (GB rfl) (GB rfl))) bw))))
  (ai (bN Hi rfl (aX rfl T.range (aa (ae 3 (pv 3)) ah)) (au (aq (i:=5) bL.nd rfl (GB rfl) (GB rfl))) (ak (bN Hi rfl (aX rfl T.range (aa (ae 4 (pv 4)) ah)) (au (aq (i:=6) bL.nd rfl (GB rfl) (GB rfl))) (ak (bj (aQ (ko (K:=K) rfl hr.units) i3 (bD e6_ hr (aa (ae 0 (pv 0)) (aa (ae 1 (pv 1)) (aa (aw (aa (ae 5 (pv 5)) (aa (ae 6 (pv 6)) ah))) ah)))) (ae 2 (pv 2)) (aO _)) (ak (aD (aw (aa (aF (ae 5 (pv 5))) (aa (aF (ae 6 (pv 6))) ah))))) aK)))))
  (ak (aD iR)))),?_⟩
 rintro ds R ⟨w,h,xs,ys,rfl,hs,p,q⟩
 obtain ⟨s1,s2,s3,s4⟩:=id hs
 have hl:=p.len hs
 walk_at "sl"
 walk_at "rd"
 refine cE (fun i S=>∃v5 v6,(∀a b:Nat,a < i->(b:Int) < h->rMv w h a b xs≠ys)/\S=[.val (.tup [.int w,.int h]),.val (eL xs),.val (eL ys),.val (.int w),.val (.int h),v5,v6]) ⟨_,_,fun a b ha=>absurd ha (HU a),rfl⟩ ?_ ?_
 ·rintro i S2 hi ⟨v5,v6,no,rfl⟩
  walk_at "rd"
  rw [IR]
  refine cE (fun j S=>∃v6,(∀b:Nat,b < j->rMv w h i b xs≠ys)/\S=[.val (.tup [.int w,.int h]),.val (eL xs),.val (eL ys),.val (.int w),.val (.int h),.val (.int i),v6]) ⟨_,fun b hb=>absurd hb (HU b),rfl⟩ ?_ ?_
  ·rintro j S3 hj ⟨v6,no2,rfl⟩
   walk_at "rd"
   rw [IR]
   refine ⟨w,h,xs,i,j,rfl,hs,p.pr,hl,?_⟩
   walk_at "rd"
   by_cases e:rMv w h i j xs=ys
   ·refine oQ eJ e ?_
    walk_at "rc"
    exact q (some [(i:Int),(j:Int)]) ⟨i,j,rfl,by lia,by lia,e,fun c d hd hc=>hc.elim (fun z=>no c d z hd) fun z=>by rw [z.1];exact no2 d z.2⟩
   ·refine sY eJ e ?_
    walk_at "rc"
    refine ⟨_,fun b hb=>?_,rfl⟩
    by_cases z:b < j
    ·exact no2 b z
    ·obtain rfl:b=j:=by lia
     exact e
  ·rintro S3 ⟨v6,no2,rfl⟩
   walk_at "rd"
   refine ⟨_,_,fun a b ha hb=>?_,rfl⟩
   by_cases z:a < i
   ·exact no a b z hb
   ·obtain rfl:a=i:=by lia
    exact no2 b (by lia)
 ·rintro S2 ⟨v5,v6,no,rfl⟩
  walk_at "rd"
  exact q none fun a b ha hb=>no a b (by lia) hb
end
end My
namespace My
open PySem L2 VL
set_option genSizeOf false in
inductive Ft where
 | on | gone (t:Int) | comes (m n:Int) (v:List Int)
noncomputable instance:DecidableEq Ft:=fun a b=>Classical.propDecidable (a=b)
noncomputable def fE:Ft->D
 | .on=>.tup [.str "on"]
 | .gone t=>.tup [.str "gone",.int t]
 | .comes m n v=>.tup [.str "comes",.int m,.int n,eT v]
theorem CM:Enc 2 fE where
 ty:=fun x=>by
  cases x with
  | on=>rfl
  | gone t=>rfl
  | comes m n v=>show (noTy (.str "comes")&&(noTy (.int m)&&(noTy (.int n)&&(noTy (eT v)&&true))))=true;rw [i6.ty v];rfl
 lay:=fun x=>by
  cases x with
  | on=>show IJ (.tuple [.str "on"])=true;simp only [IJ,Ja];decide +kernel
  | gone t=>show IJ (.tuple [.str "gone",.int t])=true;simp only [IJ,Ja];decide +kernel
  | comes m n v=>show IJ (.tuple [.str "comes",.int m,.int n,pd (eT v)])=true;simp only [IJ,Ja,i6.lay v];decide +kernel
 dep:=fun x=>by
  cases x with
  | on=>decide
  | gone t=>show JK (.tuple [.str "gone",.int t])<=2;simp [JK,Jm]
  | comes m n v=>
   have a:=i6.dep v
   show JK (.tuple [.str "comes",.int m,.int n,pd (eT v)])<=2
   simp [JK,Jm]
   lia
 eq:=fun x y=>by
  cases x with
  | on=>cases y <;> simp [fE,pd,pds,HW,II]
  | gone t=>cases y <;> simp [fE,pd,pds,HW,II]
  | comes m n v=>
   cases y with
   | on=>simp [fE,pd,pds,HW,II]
   | gone t=>simp [fE,pd,pds,HW,II]
   | comes m' n' v'=>
    show HW (.tuple [.str "comes",.int m,.int n,pd (eT v)]) (.tuple [.str "comes",.int m',.int n',pd (eT v')])=true↔_
    simp [HW,II,i6.eq v v']
theorem lh {k:Int} {bo st:List Int} {w h:Int} {xs:List (List Int)} (p:Pg w h xs):∀n,Pg w h (qT k bo st w h n xs)
 | 0=>p
 | n+1=>⟨(e6 w h).sublist Mr,(d9 w h).sublist Mr,CC⟩
noncomputable def Uq (b:Bool) (w h:Int) (f:Nat->List (List Int)) (t:Nat):Prop:=(∀m,m < t->¬(f m=[]/\b=true))/\∀m n,m < n->n < t->¬Mvd w h (f m) (f n)
theorem Uq.succ {b:Bool} {w h:Int} {f:Nat->List (List Int)} {t:Nat} (u:Uq b w h f t) (h1:¬(f t=[]/\b=true)) (h2:∀m,m < t->¬Mvd w h (f m) (f t)):Uq b w h f (t+1):=
 ⟨fun m hm=>by
  by_cases e:m=t
  ·subst e;exact h1
  ·exact u.1 m (by lia),fun m n hm hn=>by
  by_cases e:n=t
  ·subst e;exact h2 m hm
  ·exact u.2 m n hm (by lia)⟩
noncomputable def Rf (b:Bool) (w h:Int) (f:Nat->List (List Int)) (T:Nat) (x:Ft):Prop:=(∃t,t<=T/\Uq b w h f t/\(f t=[]/\b=true)/\x=.gone t) \/
 (∃t m v,t<=T/\m < t/\Uq b w h f t/\¬(f t=[]/\b=true)/\Lm w h (f m) (f t) (some v)/\x=.comes m ((t:Int)-m) v)\/(Uq b w h f (T+1)/\x=.on)
theorem Rf.one {b:Bool} {w h:Int} {f:Nat->List (List Int)} {T:Nat} {x y:Ft} (p:∀m,Pg w h (f m)) (hx:Rf b w h f T x) (hy:Rf b w h f T y):x=y:=by
 -- an end at t is no later than any turn up to which nothing ends
 have G:∀t s,Uq b w h f s->(f t=[]/\b=true)->s<=t:=fun t s u g=>Lz fun z=>u.1 t z g
 have C:∀t m s v,Uq b w h f s->m < t->Lm w h (f m) (f t) (some v)->s<=t:=fun t m s v u hm l=>Lz fun z=>u.2 m t hm z l.some
 rcases hx with ⟨t,t1,t2,t3,rfl⟩ | ⟨t,m,v,t1,tm,t2,t3,t4,rfl⟩ | ⟨t2,rfl⟩ <;> rcases hy with ⟨s,s1,s2,s3,rfl⟩ | ⟨s,n,u,s1,sn,s2,s3,s4,rfl⟩ | ⟨s2,rfl⟩
 ·have a:=G t s s2 t3
  have c:=G s t t2 s3
  rw [show t=s by lia]
 ·have a:=G t s s2 t3
  have c:=C s n t u t2 sn s4
  obtain rfl:t=s:=by lia
  exact absurd t3 s3
 ·have a:=G t _ s2 t3
  lia
 ·have a:=C t m s v s2 tm t4
  have c:=G s t t2 s3
  obtain rfl:t=s:=by lia
  exact absurd s3 t3
 ·have a:=C t m s v s2 tm t4
  have c:=C s n t u t2 sn s4
  obtain rfl:t=s:=by lia
  have back:=Mvd.trans (p m) t4.some (s4.some.symm (p n))
  have mn:m=n:=by
   refine G4 fun z=>?_
   by_cases l:m < n
   ·exact t2.2 m n l sn back
   ·exact t2.2 n m (by lia) tm (back.symm (p m))
  subst mn
  cases t4.one s4
  rfl
 ·have a:=C t m _ v s2 tm t4
  lia
 ·have a:=G s _ t2 s3
  lia
 ·have a:=C s n _ u t2 sn s4
  lia
 ·rfl
noncomputable def rkv (w h:Int) (f:Nat->List (List Int)) (i:Nat):List (List Int×D):=(G1 i).map fun m=>(rky w h (f m),D.tup [.int m,eL (f m)])
theorem vG (w h:Int) (f:Nat->List (List Int)) (i:Nat):rkv w h f (i+1)=rkv w h f i++[(rky w h (f i),D.tup [.int i,eL (f i)])]:=by unfold rkv;rw [Jd,HA];rfl
theorem pQ {w h:Int} {f:Nat->List (List Int)} {i:Nat} {key:List Int}:key∈(rkv w h f i).map (·.1)↔∃m,m < i/\rky w h (f m)=key:=by
 unfold rkv
 simp [Nk,List.mem_range]
theorem pR {w h:Int} {f:Nat->List (List Int)} {i:Nat} {key:List Int} (hk:key∈(rkv w h f i).map (·.1)):∃m,m < i/\rky w h (f m)=key/\fx (rkv w h f i) key=some (D.tup [.int m,eL (f m)]):=by
 unfold fx
 cases hf:(rkv w h f i).find? fun x=>decide (x.1=key) with
 | none=>
  obtain ⟨x,hx,e⟩:=List.mem_map.mp hk
  have:=List.find?_eq_none.mp hf x hx
  simp [e] at this
 | some x=>
  have h1:=List.mem_of_find?_eq_some hf
  have h2:=List.find?_some hf
  unfold rkv at h1
  obtain ⟨m,hm,rfl⟩:=List.mem_map.mp h1
  exact ⟨m,List.mem_range.mp hm,of_decide_eq_true h2,rfl⟩
theorem pS {w h:Int} {f:Nat->List (List Int)} {i:Nat} (hk:rky w h (f i)∉(rkv w h f i).map (·.1)):ba (rkv w h f i) (rky w h (f i)) (D.tup [.int i,eL (f i)])=rkv w h f (i+1):=by
 unfold ba
 rw [if_neg hk,vG]
noncomputable def qB (bo:List Int):Bool:=decide (0∉bo)
noncomputable def pRf:List D->(D->Prop)->Prop:=fun ds R=>∃k bo st w h xs,∃T:Nat,ds=[rl k bo st,eT [w,h],eL xs,.int T]/\Kd k/\Sz w h/\Pg w h xs/\T<=100/\∀x,Rf (qB bo) w h (fun m=>qT k bo st w h m xs) T x->R (fE x)
section
variable {P:G2} {w:HJ} {K:Gn} {mg:Str->Option Gs} {base:Heap}
theorem FE (S:Src K mg "ring_fate" dM) (T:Txt mg) (e1_:Has P w K mg base 4 "refuse_no_ring" ["size"] (spP K ym)) (e13_:Has P w K mg base 5 "ring_next" ["rule","size","picture"] (spP K pRn)) (e15_:Has P w K mg base 1 "is_quiet" ["rule"] (spP K vB)) (e17_:Has P w K mg base 2 "ring_key" ["size","picture"] (spP K pKe)) (e27_:Has P w K mg base 6 "least_ring_move" ["size","one","other"] (spP K pLm)):Has P w K mg base 7 "ring_fate" ["rule","size","picture","most"] (spP K pRf):=by
 refine bP S bJ (by walk_at "4") (by walk_at "L") fun f cdv A outer s H E hr=>⟨_,_,(ai (fc (bD e1_ hr (aa (ae 1 (pv 1)) ah)))
  (ai (x9 4 (fun _ h=>cB (i:=4) bJ.nd rfl (GB rfl) h))
  (ai (az (i:=5) bJ.nd rfl (GB rfl) (ae 2 (pv 2)))
  (ai (bN Hi rfl (aX rfl T.range (aa (aA aS aJ (ae 3 (pv 3)) af) ah)) (au (aq (i:=6) bJ.nd rfl (GB rfl) (GB rfl))) (ai (bj (aQ lr aJ (ae 6 (pv 6)) af (aO _)) (ak (az (i:=5) bJ.nd rfl (GB rfl) (bD e13_ hr (aa (ae 0 (pv 0)) (aa (ae 1 (pv 1)) (aa (ae 5 (pv 5)) ah)))))) aK)
  (ai (bj (lK (mW (eH (Bu rfl (ae 5 (pv 5)))) (kj (cK (bD e15_ hr (aa (ae 0 (pv 0)) ah)))))) (ak (aD (aw (aa dY (aa (aF (ae 6 (pv 6))) ah))))) aK)
  (ai (az (i:=7) bJ.nd rfl (GB rfl) (bD e17_ hr (aa (ae 1 (pv 1)) (aa (ae 5 (pv 5)) ah))))
  (ai (bj (Cb 4 rfl hr.units (pv 4) (ae 7 (pv 7))) (ai (eI (Cd 4 rfl hr.units (pv 4) (ae 7 (pv 7)) (fun _ _=>rfl)) (bM (n:=2) rfl rfl (aC (au (aq (i:=8) bJ.nd rfl (GB rfl) (GB rfl))) (aC (au (aq (i:=9) bJ.nd rfl (GB rfl) (GB rfl))) bw))))
  (ak (aD (aw (aa dY (aa (aF (ae 8 (pv 8))) (aa (aA et aJ (ae 6 (pv 6)) (ae 8 (pv 8))) (aa (bD e27_ hr (aa (ae 1 (pv 1)) (aa (ae 9 (pv 9)) (aa (ae 5 (pv 5)) ah)))) ah)))))))) aK)
  (ak (ya 4 rfl hr.units (pv 4) (aw (aa (ae 6 (pv 6)) (aa (ae 5 (pv 5)) ah))) (ae 7 (pv 7)))))))))
  (ak (aD (aw (aa dY ah)))))))),?_⟩
 rintro ds R ⟨k,bo,st,w,h,xs,T',rfl,hk,hs,p,hT,q⟩
 generalize hf:(fun m=>qT k bo st w h m xs)=F at q
 have F0:F 0=xs:=by rw [<- hf];rfl
 have Fs:∀n,F (n+1)=rnx k bo st w h (F n):=fun n=>by rw [<- hf];rfl
 have pg:∀n,Pg w h (F n):=fun n=>by rw [<- hf];exact lh p n
 walk_at "sl"
 walk_at "rd"
 refine ⟨w,h,rfl,hs,?_⟩
 walk_at "rd"
 refine cE (fun i S=>(Uq (qB bo) w h F i/\∀m,m < i->Ky w h (F m) (rky w h (F m)))/\∃v6 v7 v8 v9,S=[.val (rl k bo st),.val (.tup [.int w,.int h]),.val (eL xs),.val (.int T'),od1 (rkv w h F i),.val (eL (F (i-1))),v6,v7,v8,v9]) ⟨⟨⟨fun _ h=>absurd h (HU _),fun _ _ _ h=>absurd h (HU _)⟩,fun _ h=>absurd h (HU _)⟩,_,_,_,_,by rw [show (0-1:Nat)=0 from rfl,F0];rfl⟩ ?_ ?_
 ·rintro i S2 hi ⟨⟨un,kys⟩,v6,v7,v8,v9,rfl⟩
  have hi':i<=T':=by lia
  walk_at "rd"
  refine xb (fun S'=>S'=[.val (rl k bo st),.val (.tup [.int w,.int h]),.val (eL xs),.val (.int T'),od1 (rkv w h F i),.val (eL (F i)),.val (.int (0+(i:Int))),v7,v8,v9]) ?_ ?_ ?_
  ·rintro S' rfl
   walk_at "rd"
   rw [IR]
   by_cases he:F i=[]
   ·refine tw (d:=eL (F i)) (b:=false) rfl (by rw [he];rfl) ?_
    walk_at "rc"
    refine ⟨k,bo,st,rfl,?_⟩
    by_cases hb:0∉bo
    ·rw [decide_eq_true hb]
     walk_at "rc"
     exact q (.gone i) (.inl ⟨i,hi',un,⟨he,decide_eq_true hb⟩,rfl⟩)
    ·rw [decide_eq_false hb]
     walk_at "rc"
     have hn:¬(F i=[]/\qB bo=true):=fun z=>hb (of_decide_eq_true z.2)
     refine ⟨w,h,F i,rfl,hs,pg i,fun kyi=>?_⟩
     walk_at "rd"
     refine uP (kvs:=rkv w h F i) (ms:=rky w h (F i)) rfl rfl ?_
     have same:∀m,m < i->(rky w h (F m)=rky w h (F i)↔Mvd w h (F m) (F i)):=fun m hm=>pP hs (pg m) (pg i) (kys m hm) kyi
     by_cases hin:rky w h (F i)∈(rkv w h F i).map (·.1)
     ·obtain ⟨m,hm,e1,e2⟩:=pR hin
      rw [decide_eq_true hin]
      walk_at "rc"
      refine uQ (kvs:=rkv w h F i) (ms:=rky w h (F i)) rfl rfl e2 ?_
      walk_at "rc"
      refine ⟨w,h,F m,F i,rfl,hs,pg m,fun o ho=>?_⟩
      cases o with
      | none=>exact absurd ((same m hm).mp e1) (ho.none hs (pg m))
      | some v=>
       dsimp only [oE]
       walk_at "rc"
       exact q (.comes m ((i:Int)-m) v) (.inr (.inl ⟨i,m,v,hi',hm,un,hn,ho,rfl⟩))
     ·rw [decide_eq_false hin]
      walk_at "rc"
      refine mw (kvs:=rkv w h F i) (ms:=rky w h (F i)) rfl rfl (by unfold rkv;rw [Gx,Je];lia) ?_
      dsimp only [Hg,Hk]
      have ep:=pS (w:=w) (h:=h) (f:=F) hin
      exact ⟨⟨un.succ hn fun m hm z=>hin (pQ.mpr ⟨m,hm,(same m hm).mpr z⟩),fun m hm=>by
       by_cases z:m < i
       ·exact kys m z
       ·obtain rfl:m=i:=by lia
        exact kyi⟩,_,_,_,_,by rw [<- ep];rfl⟩
   ·refine tw (d:=eL (F i)) (b:=true) rfl (by cases hc:F i with | nil=>exact absurd hc he | cons a r=>rfl) ?_
    walk_at "rc"
    have hn:¬(F i=[]/\qB bo=true):=fun z=>he z.1
    refine ⟨w,h,F i,rfl,hs,pg i,fun kyi=>?_⟩
    walk_at "rd"
    refine uP (kvs:=rkv w h F i) (ms:=rky w h (F i)) rfl rfl ?_
    have same:∀m,m < i->(rky w h (F m)=rky w h (F i)↔Mvd w h (F m) (F i)):=fun m hm=>pP hs (pg m) (pg i) (kys m hm) kyi
    by_cases hin:rky w h (F i)∈(rkv w h F i).map (·.1)
    ·obtain ⟨m,hm,e1,e2⟩:=pR hin
     rw [decide_eq_true hin]
     walk_at "rc"
     refine uQ (kvs:=rkv w h F i) (ms:=rky w h (F i)) rfl rfl e2 ?_
     walk_at "rc"
     refine ⟨w,h,F m,F i,rfl,hs,pg m,fun o ho=>?_⟩
     cases o with
     | none=>exact absurd ((same m hm).mp e1) (ho.none hs (pg m))
     | some v=>
      dsimp only [oE]
      walk_at "rc"
      exact q (.comes m ((i:Int)-m) v) (.inr (.inl ⟨i,m,v,hi',hm,un,hn,ho,rfl⟩))
    ·rw [decide_eq_false hin]
     walk_at "rc"
     refine mw (kvs:=rkv w h F i) (ms:=rky w h (F i)) rfl rfl (by unfold rkv;rw [Gx,Je];lia) ?_
     dsimp only [Hg,Hk]
     have ep:=pS (w:=w) (h:=h) (f:=F) hin
     exact ⟨⟨un.succ hn fun m hm z=>hin (pQ.mpr ⟨m,hm,(same m hm).mpr z⟩),fun m hm=>by
      by_cases z:m < i
      ·exact kys m z
      ·obtain rfl:m=i:=by lia
       exact kyi⟩,_,_,_,_,by rw [<- ep];rfl⟩
  ·intro nx hnx c1
   walk_at "rd"
   refine ⟨k,bo,st,w,h,F (i-1),rfl,hk,hs,(pg _).pr,(pg _).len hs,?_⟩
   walk_at "rd"
   rw [<- Fs,show i-1+1=i by lia]
   exact hnx _ rfl
  ·intro nx hnx c1
   obtain rfl:i=0:=by lia
   walk_at "rd"
   exact hnx _ rfl
 ·rintro S2 ⟨⟨un,_⟩,v6,v7,v8,v9,rfl⟩
  walk_at "rd"
  exact q .on (.inr (.inr ⟨by rwa [show T'+1=((T':Int)+1-0).toNat by lia],rfl⟩))
end
end My
namespace My
open PySem L2 VL
noncomputable def fr (p:Nat->Bool) (w:Nat):List Nat:=(G1 w).filter p
theorem yt (p:Nat->Bool) (w:Nat):fr p (w+1)=fr p w++if p w=true then [w] else []:=by
 unfold fr
 rw [Jd,JS]
 congr 1
 by_cases h:p w=true <;> simp [h]
theorem pT (l:List Nat) (lo:Int):(l.map fun (i:Nat)=>D.int (lo+(i:Int)))=(l.map fun (i:Nat)=>lo+(i:Int)).map D.int:=by rw [HC];rfl
theorem gR (l:List Nat) (lo:Int):flats (l.map fun (i:Nat)=>D.int (lo+(i:Int)))=true:=by
 rw [show (l.map fun (i:Nat)=>D.int (lo+(i:Int)))=(l.map fun (i:Nat)=>lo+(i:Int)).map D.int by rw [HC];rfl]
 exact aN _
theorem vH (p:Nat->Bool) (b:Bool) (w:Nat):fr (fun x=>if x=w then b else p x) (w+1)=fr p w++if b=true then [w] else []:=by
 rw [yt]
 congr 1
 ·unfold fr
  refine Ke fun x hx=>?_
  have:=List.mem_range.mp hx
  rw [if_neg (by lia)]
 ·rw [if_pos rfl]
theorem gX {T:List Sl}:∀(r:List Sl) (k:Nat),b6 1 [0] T (k+1) r=r
 | [],_=>rfl
 | s::r,k=>by
  have:([0]:List Nat).idxOf? (k+1)=none:=by simp [NA,List.findIdx?_cons]
  unfold b6
  rw [this,gX r (k+1)]
theorem jU {ad:Option Addr} {pn pn2:List Int} {rest:List Sl} {x:Sl}:backS 1 [0] (.pen ad pn::rest) [x,.pen ad pn2]=.pen ad pn2::rest:=by
 show b6 1 [0] _ 0 _=_
 unfold b6
 rw [gX]
 rfl
theorem pU {ad:Option Addr} {pn:List Int} {rest:List Sl} {QN:List D->List Sl->Prop} {vt:VTT} {lo:Int} {n b:Nat} (hb:b+n<=1000000) (hp:Pn b pn)
  (hvt:∀(b':Nat) (pn':List Int) (x:Int) (A:Bool->List Sl->Prop),Pn b' pn'->b'<=1000000->(∀v pn2,Pn (b'+1) pn2->A v [.val (.int x),.pen ad pn2])->vt [.val (.int x),.pen ad pn'] A)
  (q:∀(p:Nat->Bool) pn',Pn (b+n) pn'->QN ((fr p n).map fun (i:Nat)=>D.int (lo+(i:Int))) (.pen ad pn'::rest)):i7 1 [0] (vgN 0) vt (oB (lJ 0)) QN (rg lo n) (.pen ad pn::rest):=by
 refine sW (fun i ys S2=>∃(p:Nat->Bool) (pn':List Int),Pn (b+i) pn'/\ys=((fr p i).map fun (i:Nat)=>D.int (lo+(i:Int)))/\S2=.pen ad pn'::rest) (by lia) ⟨fun _=>false,pn,hp,rfl,rfl⟩ ?_ ?_
 ·rintro i ys S2 hi ⟨p,pn',h1,rfl,rfl⟩
  refine ⟨(by show 0 < _;simp [bz]),?_⟩
  show vt [.val (.int (lo+(i:Int))),.pen ad pn'] _
  refine hvt (b+i) pn' _ _ h1 (by lia) fun v pn2 h2=>?_
  cases v with
  | true=>
   refine eN (fun _=>?_) (fun e=>nomatch e)
   refine ⟨.d (.int (lo+(i:Int))),rfl,rfl,?_⟩
   refine lS ?_
   rw [jU]
   exact ⟨fun x=>if x=i then true else p x,pn2,h2,by rw [vH,HA];rfl,rfl⟩
  | false=>
   refine eN (fun e=>nomatch e) (fun _=>?_)
   rw [jU]
   exact ⟨fun x=>if x=i then false else p x,pn2,h2,by rw [vH,HA];simp,rfl⟩
 ·rintro ys S2 ⟨p,pn',h1,rfl,rfl⟩
  exact q p pn' h1
theorem FF {r:Int} (h0:0<=r) (h1:r < 3):∃k,Kd k/\atI [D.int 4,.int 6,.int 8] r=some (.int k):=by
 have:r=0\/r=1\/r=2:=by lia
 rcases this with rfl | rfl | rfl
 ·exact ⟨4,.inl rfl,rfl⟩
 ·exact ⟨6,.inr (.inl rfl),rfl⟩
 ·exact ⟨8,.inr (.inr rfl),rfl⟩
theorem Pg.sub {w h:Int} {xs l:List (List Int)} (p:Pg w h xs) (s:l.Sublist xs):Pg w h l:=⟨p.1.sublist s,p.2.1.sublist s,fun q hq=>p.2.2 q (s.subset hq)⟩
noncomputable def zP:List Int->List D->(D->List Int->Prop)->Prop:=fun pn ds R=>∃b:Nat,ds=[]/\Pn b pn/\b<=8000/\∀(k:Int) (bo sy:List Int) pn',Kd k->Pn (b+30) pn'->R (rl k bo sy) pn'
noncomputable def zQ:List Int->List D->(D->List Int->Prop)->Prop:=fun pn ds R=>∃b:Nat,ds=[]/\Pn b pn/\b<=8000/\∀(w h:Int) pn',Sz w h->Pn (b+4) pn'->R (eT [w,h]) pn'
noncomputable def CN:List D->(D->Prop)->Prop:=fun ds R=>∃w h:Int,ds=[eT [w,h]]/\Sz w h/\R (eL (bR w h))
noncomputable def FG:List Int->List D->(D->List Int->Prop)->Prop:=fun pn ds R=>∃(b:Nat) (w h:Int),ds=[eT [w,h]]/\Sz w h/\Pn b pn/\b<=8000/\∀mss pn',Pg w h mss->Pn (b+1700) pn'->R (eL mss) pn'
section
variable {P:G2} {w:HJ} {K:Gn} {mg:Str->Option Gs} {base:Heap}
theorem yu (S:Src K mg "_law_rule" jl) (T:Txt mg) (e0_:Has P w K mg base 1 "_law_draw" ["_law_pen_here","_law_many"] (spI K 0 jR)):Has P w K mg base 2 "_law_rule" ["_law_pen_here"] (spI K 0 zP):=by
 refine oD 0 S fu (by walk_at "1") (by walk_at "L") fun f cdv A outer s H E hr=>⟨_,_,(ai (az (i:=1) fu.nd rfl (GB rfl) (aH rfl (aG (aV (aa af (aa af (aa af ah))))) (aW e0_ hr (aa (ae 0 (pv 0)) (aa af ah))) (fun _ _=>rfl)))
  (ai (az (i:=2) fu.nd rfl (GB rfl) (gH gw rS (by rfl) T.int_ iK (aa (eG lr aJ (aW e0_ hr (aa (ae 0 (pv 0)) (aa af ah))) af (aO _)) ah)))
  (ai (bj (aQ eg g9 (aW e0_ hr (aa (ae 0 (pv 0)) (aa af ah))) af (aO _)) (ai (az (i:=3) fu.nd rfl (GB rfl) (uu (by decide) (aG (aV (aa (aw (aa af ah)) (aa (aw (aa af ah)) (aa (aw (aa af (aa af ah))) ah))))) (aG (aV (aa (aw (aa af ah)) (aa (aw (aa af (aa af ah))) (aa (aw (aa af (aa af ah))) ah))))) (aG (aV (aa (aw (aa af ah)) (aa (aw (aa af ah)) (aa (aw (aa af (aa af ah))) ah))))) (ae 1 (pv 1)) (fun _ _=>rfl)))
  (ai (az (i:=4) fu.nd rfl (GB rfl) (uu (by decide) (aG (aV (aa (aw ah) (aa (aw (aa af (aa af ah))) (aa (aw (aa af (aa af ah))) ah))))) (aG (aV (aa (aw (aa af (aa af ah))) (aa (aw ah) (aa (aw (aa af ah)) ah))))) (aG (aV (aa (aw (aa af (aa af ah))) (aa (aw ah) (aa (aw (aa af (aa af ah))) ah))))) (ae 1 (pv 1)) (fun _ _=>rfl)))
  (ak (aD (aw (aa (aF (ae 1 (pv 1))) (aa (yj rfl (yh rfl (aw (aa af ah)) (aA et aJ af (ae 2 (pv 2)))) (aF (aH rfl (ae 3 (pv 3)) (aW e0_ hr (aa (ae 0 (pv 0)) (aa af ah))) (fun _ _=>rfl)))) (aa (aF (aH rfl (ae 4 (pv 4)) (aW e0_ hr (aa (ae 0 (pv 0)) (aa af ah))) (fun _ _=>rfl))) ah)))))))) aK)
  (ai (az (i:=3) fu.nd rfl (GB rfl) (fI rfl (by rfl) T.tuple_ (aa (aG (bO (tg:=["_law_count"]) (cs:=["_law_pen_here"]) (ix:=[0]) (aM (aj jl) ["_law_pen_here","_law_kind","_law_least_here","_law_born","_law_stay"] (by decide +kernel)) rfl (bu (by decide)) (by decide) (qq rfl T.range (aa (ae 2 (pv 2)) (aa (aA aS aJ (ae 1 (pv 1)) af) ah))) (fun _ _ _ _=>(au (aq (i:=0) (show (["_law_count","_law_pen_here"]:List Str).Nodup by decide +kernel) rfl (GB rfl) (by first | exact GB rfl | exact Ij rfl)))) (fun _ _ _ _=>(fh (aQ eg g9 (aW e0_ hr (aa (ae 1 (pv 1)) (aa af ah))) af (aO _)))) (fun _ _ _ _=>(aF (ae 0 (pv 0)))))) ah)))
  (ak (aD (aw (aa (aF (ae 1 (pv 1))) (aa (aF (ae 3 (pv 3))) (aa (fI rfl (by rfl) T.tuple_ (aa (aG (bO (tg:=["_law_count"]) (cs:=["_law_pen_here"]) (ix:=[0]) (aM (aj jl) ["_law_pen_here","_law_kind","_law_least_here","_law_born","_law_stay"] (by decide +kernel)) rfl (bu (by decide)) (by decide) (aX rfl T.range (aa (aA aS aJ (ae 1 (pv 1)) af) ah)) (fun _ _ _ _=>(au (aq (i:=0) (show (["_law_count","_law_pen_here"]:List Str).Nodup by decide +kernel) rfl (GB rfl) (by first | exact GB rfl | exact Ij rfl)))) (fun _ _ _ _=>(fh (aQ eg g9 (aW e0_ hr (aa (ae 1 (pv 1)) (aa af ah))) af (aO _)))) (fun _ _ _ _=>(aF (ae 0 (pv 0)))))) ah)) ah)))))))))),?_⟩
 rintro a pn ds es R hl ⟨b,e,hpn,hb,q⟩
 obtain rfl:ds=[]:=Hm hl
 obtain rfl:es=[]:=e
 walk_at "sl"
 walk_at "rd"
 refine ⟨b,3,rfl,hpn,by lia,by lia,by lia,fun pn1 r1 h1 r1a r1b=>?_⟩
 walk_at "rd"
 obtain ⟨k,hk,ek⟩:=FF r1a r1b
 have hkb:4<=k/\k<=8:=by rcases hk with rfl | rfl | rfl <;> lia
 refine bU rfl rfl ek ?_
 walk_at "rd"
 refine ⟨b+1,4,rfl,h1,by lia,by lia,by lia,fun pn2 r2 h2 r2a r2b=>?_⟩
 walk_at "rd"
 refine .inr ⟨_,rfl,?_⟩
 obtain ⟨le,hle,l01⟩:∃le:Int,(if decide (0 < r2)=true then (1:Int) else 0)=le/\(le=0\/le=1):=⟨_,rfl,by split;exact .inr rfl;exact .inl rfl⟩
 walk_at "rd"
 refine ⟨b+2,2,rfl,h2,by lia,by lia,by lia,fun pn3 r3 h3 r3a r3b=>?_⟩
 walk_at "rd"
 refine cw (fun c1=>?_) (fun c1=>?_)
 ·walk_at "rd"
  rcases hk with rfl | rfl | rfl
  ·refine uv ?_
   walk_at "rd"
   refine uv ?_
   walk_at "rd"
   refine nM (by simp) (by lia) ?_
   walk_at "rd"
   refine ⟨b+3,3,rfl,h3,by lia,by lia,by lia,fun pn4 r4 h4 r4a r4b=>?_⟩
   obtain ⟨bo,e1⟩:∃bo:List Int,atI [D.tup [.int 1],D.tup [.int 2],D.tup [.int 1,.int 2]] r4=some (.tup (bo.map .int))/\bo.length<=2:=by
    rcases (by lia:r4=0\/r4=1\/r4=2) with e | e | e <;> rw [e]
    ·exact ⟨[1],rfl,by decide⟩
    ·exact ⟨[2],rfl,by decide⟩
    ·exact ⟨[1,2],rfl,by decide⟩
   refine bU rfl rfl e1.1 ?_
   refine cD (aN _) ?_
   refine nN (by rw [Gx];split <;> simp <;> lia) ?_
   walk_at "rd"
   refine ⟨b+4,3,rfl,h4,by lia,by lia,by lia,fun pn5 r5 h5 r5a r5b=>?_⟩
   obtain ⟨sy,e2⟩:∃sy:List Int,atI [D.tup [],D.tup [.int 1,.int 2],D.tup [.int 2,.int 3]] r5=some (.tup (sy.map .int)):=by
    rcases (by lia:r5=0\/r5=1\/r5=2) with e | e | e <;> rw [e]
    ·exact ⟨[],rfl⟩
    ·exact ⟨[1,2],rfl⟩
    ·exact ⟨[2,3],rfl⟩
   refine bU rfl rfl e2 ?_
   refine cD (aN _) ?_
   walk_at "rd"
   rw [hle]
   rcases l01 with e0 | e0 <;> rw [e0]
   ·exact ⟨_,rfl,q 4 (0::bo) sy _ (.inl rfl) (h5.le (by lia))⟩
   ·exact ⟨_,rfl,q 4 bo sy _ (.inl rfl) (h5.le (by lia))⟩
  ·refine uw ?_
   walk_at "rd"
   refine uw ?_
   walk_at "rd"
   refine nM (by simp) (by lia) ?_
   walk_at "rd"
   refine ⟨b+3,3,rfl,h3,by lia,by lia,by lia,fun pn4 r4 h4 r4a r4b=>?_⟩
   obtain ⟨bo,e1⟩:∃bo:List Int,atI [D.tup [.int 2],D.tup [.int 2,.int 3],D.tup [.int 2,.int 6]] r4=some (.tup (bo.map .int))/\bo.length<=2:=by
    rcases (by lia:r4=0\/r4=1\/r4=2) with e | e | e <;> rw [e]
    ·exact ⟨[2],rfl,by decide⟩
    ·exact ⟨[2,3],rfl,by decide⟩
    ·exact ⟨[2,6],rfl,by decide⟩
   refine bU rfl rfl e1.1 ?_
   refine cD (aN _) ?_
   refine nN (by rw [Gx];split <;> simp <;> lia) ?_
   walk_at "rd"
   refine ⟨b+4,3,rfl,h4,by lia,by lia,by lia,fun pn5 r5 h5 r5a r5b=>?_⟩
   obtain ⟨sy,e2⟩:∃sy:List Int,atI [D.tup [.int 3,.int 4],D.tup [],D.tup [.int 2]] r5=some (.tup (sy.map .int)):=by
    rcases (by lia:r5=0\/r5=1\/r5=2) with e | e | e <;> rw [e]
    ·exact ⟨[3,4],rfl⟩
    ·exact ⟨[],rfl⟩
    ·exact ⟨[2],rfl⟩
   refine bU rfl rfl e2 ?_
   refine cD (aN _) ?_
   walk_at "rd"
   rw [hle]
   rcases l01 with e0 | e0 <;> rw [e0]
   ·exact ⟨_,rfl,q 6 (0::bo) sy _ (.inr (.inl rfl)) (h5.le (by lia))⟩
   ·exact ⟨_,rfl,q 6 bo sy _ (.inr (.inl rfl)) (h5.le (by lia))⟩
  ·refine ux ?_
   walk_at "rd"
   refine ux ?_
   walk_at "rd"
   refine nM (by simp) (by lia) ?_
   walk_at "rd"
   refine ⟨b+3,3,rfl,h3,by lia,by lia,by lia,fun pn4 r4 h4 r4a r4b=>?_⟩
   obtain ⟨bo,e1⟩:∃bo:List Int,atI [D.tup [.int 3],D.tup [.int 2],D.tup [.int 3,.int 6]] r4=some (.tup (bo.map .int))/\bo.length<=2:=by
    rcases (by lia:r4=0\/r4=1\/r4=2) with e | e | e <;> rw [e]
    ·exact ⟨[3],rfl,by decide⟩
    ·exact ⟨[2],rfl,by decide⟩
    ·exact ⟨[3,6],rfl,by decide⟩
   refine bU rfl rfl e1.1 ?_
   refine cD (aN _) ?_
   refine nN (by rw [Gx];split <;> simp <;> lia) ?_
   walk_at "rd"
   refine ⟨b+4,3,rfl,h4,by lia,by lia,by lia,fun pn5 r5 h5 r5a r5b=>?_⟩
   obtain ⟨sy,e2⟩:∃sy:List Int,atI [D.tup [.int 2,.int 3],D.tup [],D.tup [.int 2,.int 3]] r5=some (.tup (sy.map .int)):=by
    rcases (by lia:r5=0\/r5=1\/r5=2) with e | e | e <;> rw [e]
    ·exact ⟨[2,3],rfl⟩
    ·exact ⟨[],rfl⟩
    ·exact ⟨[2,3],rfl⟩
   refine bU rfl rfl e2 ?_
   refine cD (aN _) ?_
   walk_at "rd"
   rw [hle]
   rcases l01 with e0 | e0 <;> rw [e0]
   ·exact ⟨_,rfl,q 8 (0::bo) sy _ (.inr (.inr rfl)) (h5.le (by lia))⟩
   ·exact ⟨_,rfl,q 8 bo sy _ (.inr (.inr rfl)) (h5.le (by lia))⟩
 ·walk_at "rd"
  have hvt:∀(b':Nat) (pn':List Int) (x:Int) (A:Bool->List Sl->Prop),Pn b' pn'->b'<=1000000->(∀v pn2,Pn (b'+1) pn2->A v [.val (.int x),.pen (some a) pn2])->(gV (v2 wEq (AQ 0 jR (fY (lJ 1) (fY (vC (D.int 2)) qk))) (vC (D.int 0)))) [.val (.int x),.pen (some a) pn'] A:=by
   intro b' pn' x A h1 h2 h3
   walk_at "rd"
   refine ⟨b',2,rfl,h1,by lia,by lia,by lia,fun pn3 r3 h4 r3a r3b=>?_⟩
   walk_at "rd"
   exact h3 _ _ h4
  rw [hle]
  refine pU (b:=b+3) (by lia) h3 hvt fun p1 pn4 h4=>?_
  walk_at "rd"
  refine kr rfl (gR _ _) ?_
  walk_at "rd"
  refine cD (gR _ _) ?_
  walk_at "rd"
  refine pU (b:=b+3+(k+1-le).toNat) (by lia) h4 hvt fun p2 pn5 h5=>?_
  walk_at "rd"
  refine kr rfl (gR _ _) ?_
  walk_at "rd"
  rw [pT,pT]
  exact ⟨_,rfl,q k _ _ _ hk (h5.le (by lia))⟩
theorem yv (S:Src K mg "_law_size" nR) (T:Txt mg) (e0_:Has P w K mg base 1 "_law_draw" ["_law_pen_here","_law_many"] (spI K 0 jR)):Has P w K mg base 2 "_law_size" ["_law_pen_here"] (spI K 0 zQ):=by
 refine oD 0 S kW (by walk_at "1") (by walk_at "L") fun f cdv A outer s H E hr=>⟨_,_,(ai (az (i:=1) kW.nd rfl (GB rfl) (aW e0_ hr (aa (ae 0 (pv 0)) (aa af ah))))
  (ai (bj (aQ eg g9 (ae 1 (pv 1)) af (aO _)) (ak (aD (aw (aa (aA aS aJ af (aW e0_ hr (aa (ae 0 (pv 0)) (aa af ah)))) (aa (aA aS aJ af (aW e0_ hr (aa (ae 0 (pv 0)) (aa af ah)))) ah))))) aK)
  (ai (bj (aQ eg g9 (ae 1 (pv 1)) af (aO _)) (ai (az (i:=2) kW.nd rfl (GB rfl) (aA aS aJ af (aW e0_ hr (aa (ae 0 (pv 0)) (aa af ah)))))
  (ak (aD (BF rfl (aV (aa (aw (aa af (aa (aF (ae 2 (pv 2))) ah))) (aa (aw (aa (aF (ae 2 (pv 2))) (aa af ah))) ah))) (aW e0_ hr (aa (ae 0 (pv 0)) (aa af ah))) (fun _ _=>rfl))))) aK)
  (ak (aD (aw (aa (aA aS aJ af (aW e0_ hr (aa (ae 0 (pv 0)) (aa af ah)))) (aa (aA aS aJ af (aW e0_ hr (aa (ae 0 (pv 0)) (aa af ah)))) ah)))))))),?_⟩
 rintro a pn ds es R hl ⟨b,e,hpn,hb,q⟩
 obtain rfl:ds=[]:=Hm hl
 obtain rfl:es=[]:=e
 walk_at "sl"
 walk_at "rd"
 refine ⟨b,6,rfl,hpn,by lia,by lia,by lia,fun pn1 r1 h1 r1a r1b=>?_⟩
 walk_at "rd"
 refine cw (fun c1=>?_) (fun c1=>?_)
 ·walk_at "rd"
  refine ⟨b+1,10,rfl,h1,by lia,by lia,by lia,fun pn2 r2 h2 r2a r2b=>?_⟩
  walk_at "rd"
  refine ⟨b+2,10,rfl,h2,by lia,by lia,by lia,fun pn3 r3 h3 r3a r3b=>?_⟩
  walk_at "rd"
  exact ⟨_,rfl,q (3+r2) (3+r3) _ ⟨by lia,by lia,by lia,by lia⟩ (h3.le (by lia))⟩
 ·walk_at "rd"
  refine cw (fun c2=>?_) (fun c2=>?_)
  ·walk_at "rd"
   refine ⟨b+1,38,rfl,h1,by lia,by lia,by lia,fun pn2 r2 h2 r2a r2b=>?_⟩
   walk_at "rd"
   refine ⟨b+2,2,rfl,h2,by lia,by lia,by lia,fun pn3 r3 h3 r3a r3b=>?_⟩
   walk_at "rd"
   rcases (by lia:r3=0\/r3=1) with rfl | rfl
   ·refine ph rfl rfl ?_
    walk_at "rd"
    exact ⟨_,rfl,q 3 (3+r2) _ ⟨by lia,by lia,by lia,by lia⟩ (h3.le (by lia))⟩
   ·refine ph rfl rfl ?_
    walk_at "rd"
    exact ⟨_,rfl,q (3+r2) 3 _ ⟨by lia,by lia,by lia,by lia⟩ (h3.le (by lia))⟩
  ·walk_at "rd"
   refine ⟨b+1,4,rfl,h1,by lia,by lia,by lia,fun pn2 r2 h2 r2a r2b=>?_⟩
   walk_at "rd"
   refine ⟨b+2,4,rfl,h2,by lia,by lia,by lia,fun pn3 r3 h3 r3a r3b=>?_⟩
   walk_at "rd"
   exact ⟨_,rfl,q (3+r2) (3+r3) _ ⟨by lia,by lia,by lia,by lia⟩ (h3.le (by lia))⟩
theorem CO (S:Src K mg "_law_all" pK) (T:Txt mg):Has P w K mg base 1 "_law_all" ["_law_size_here"] (spP K CN):=by
 refine bP S nS (by walk_at "1") (by walk_at "L") fun f cdv A outer s H E hr=>⟨_,_,(ai (fe (fun _ h=>cB (i:=1) nS.nd rfl (GB rfl) h) (aV ah))
  (ai (bN Hi rfl (aX rfl T.range (aa (aH rfl (ae 0 (pv 0)) af (fun _ _=>rfl)) ah)) (au (aq (i:=2) nS.nd rfl (Ij rfl) (GB rfl))) (ak (fc (BL 1 rfl (pv 1) (bO (tg:=["_law_y"]) (cs:=["_law_x"]) (ix:=[2]) (aM (aj pK) ["_law_size_here","_law_found","_law_x"] (by decide +kernel)) rfl (bu (by decide)) (by decide) (aX rfl T.range (aa (aH rfl (ae 0 (pv 0)) af (fun _ _=>rfl)) ah)) (fun _ _ _ _=>(au (aq (i:=0) (show (["_law_y","_law_x"]:List Str).Nodup by decide +kernel) rfl (GB rfl) (by first | exact GB rfl | exact Ij rfl)))) (fun _ _ _ _=>cu) (fun _ _ _ _=>(aw (aa (aF (ae 1 (pv 1))) (aa (aF (ae 0 (pv 0))) ah)))))))))
  (ak (aD (aF (ae 1 (pv 1))))))),?_⟩
 rintro ds R ⟨w,h,rfl,hs,q⟩
 obtain ⟨s1,s2,s3,s4⟩:=id hs
 walk_at "sl"
 walk_at "rd"
 refine cE (fun i S=>∃v2,S=[.val (.tup [.int w,.int h]),.own (((G1 i).flatMap fun (x:Nat)=>(G1 h.toNat).map fun (y:Nat)=>[0+(x:Int),0+(y:Int)]).map eT),v2]) ⟨_,rfl⟩ ?_ ?_
 ·rintro i S2 hi ⟨v2,rfl⟩
  walk_at "rd"
  refine comp_map (xs:=G1 h.toNat) (en:=fun (y:Nat)=>D.int (0+(y:Int))) (f:=fun (y:Nat)=>eT [0+(i:Int),0+(y:Int)]) (by simp;lia) (fun y hy A B hA=>?_) ?_
  ·dsimp only [bz,He,GO,Hu,Hq,Hr]
   walk_at "rd"
   exact hA _ rfl
  walk_at "rd"
  have il:i<=39:=by lia
  have fl:∀n,((G1 n).flatMap fun (x:Nat)=>(G1 h.toNat).map fun (y:Nat)=>[0+(x:Int),0+(y:Int)]).length=n*h.toNat:=fun n=>by
   induction n with
   | zero=>simp
   | succ n ih=>rw [Jd,KM,G6,ih,Nat.succ_mul];simp
  refine BM rfl (by rw [Gx,fl,Gx,Je];have:=Nat.mul_le_mul il (show h.toNat<=40 by lia);lia) ?_
  dsimp only [Hg,Hk]
  rw [show ((G1 (i+1)).flatMap fun (x:Nat)=>(G1 h.toNat).map fun (y:Nat)=>[0+(x:Int),0+(y:Int)]).map eT=((G1 i).flatMap fun (x:Nat)=>(G1 h.toNat).map fun (y:Nat)=>[0+(x:Int),0+(y:Int)]).map eT++(G1 h.toNat).map fun (y:Nat)=>eT [0+(i:Int),0+(y:Int)] by
   rw [Jd,KM,HA,List.flatMap_singleton,HC];rfl]
  exact ⟨_,rfl⟩
 ·rintro S2 ⟨v2,rfl⟩
  walk_at "rd"
  exact q
theorem CP (S:Src K mg "_law_picture" dN) (T:Txt mg) (e0_:Has P w K mg base 1 "_law_draw" ["_law_pen_here","_law_many"] (spI K 0 jR)) (e2_:Has P w K mg base 1 "_law_all" ["_law_size_here"] (spP K CN)):Has P w K mg base 2 "_law_picture" ["_law_pen_here","_law_size_here"] (spI K 0 FG):=by
 refine oD 0 S bW (by walk_at "2") (by walk_at "L") fun f cdv A outer s H E hr=>⟨_,_,(ai (az (i:=2) bW.nd rfl (GB rfl) (aW e0_ hr (aa (ae 0 (pv 0)) (aa af ah))))
  (ai (az (i:=3) bW.nd rfl (GB rfl) (bD e2_ hr (aa (ae 1 (pv 1)) ah)))
  (ai (bj (aQ lq aJ (ae 2 (pv 2)) af (aO _)) (ai (az (i:=4) bW.nd rfl (Ij rfl) (aH rfl (aG (aV (aa af (aa af (aa af ah))))) (ae 2 (pv 2)) (fun _ _=>rfl)))
  (ak (aD (aG (bO (tg:=["_law_cell"]) (cs:=["_law_pen_here","_law_share"]) (ix:=[0,4]) (aM (aj dN) ["_law_pen_here","_law_size_here","_law_way","_law_cells","_law_share","_law_at","_law_dx","_law_dy","_law_some"] (by decide +kernel)) rfl (bu (by decide)) (by decide) (bx rfl (ae 3 (pv 3))) (fun _ _ _ _=>(au (aq (i:=0) (show (["_law_cell","_law_pen_here","_law_share"]:List Str).Nodup by decide +kernel) rfl (GB rfl) (by first | exact GB rfl | exact Ij rfl)))) (fun _ _ _ _=>(fh (aQ eg g9 (aW e0_ hr (aa (ae 1 (pv 1)) (aa (ae 2 (pv 2)) ah))) af (aO _)))) (fun _ _ _ _=>(aF (ae 0 (pv 0))))))))) aK)
  (ai (bj (aQ eg g9 (ae 2 (pv 2)) af (aO _)) (ai (az (i:=5) bW.nd rfl (GB rfl) (aW e0_ hr (aa (ae 0 (pv 0)) (aa (aA aS aJ (aZ (fB (K:=K) rfl) fA (by rfl) T.len_ du (aa (ae 3 (pv 3)) ah)) af) ah))))
  (ak (aD (aG (pq (oT rfl (ae 3 (pv 3)) iq (fq (ae 5 (pv 5)))) (oT rfl (ae 3 (pv 3)) (fq (aA aS aJ (ae 5 (pv 5)) af)) iq)))))) aK)
  (ai (az (i:=6) bW.nd rfl (Ij rfl) (aW e0_ hr (aa (ae 0 (pv 0)) (aa (aH rfl (ae 1 (pv 1)) af (fun _ _=>rfl)) ah))))
  (ai (az (i:=7) bW.nd rfl (Ij rfl) (aW e0_ hr (aa (ae 0 (pv 0)) (aa (aH rfl (ae 1 (pv 1)) af (fun _ _=>rfl)) ah))))
  (ai (az (i:=8) bW.nd rfl (GB rfl) (aH rfl (aG (aV (aa (aG (aV (aa (aw (aa af (aa af ah))) (aa (aw (aa af (aa af ah))) (aa (aw (aa af (aa af ah))) (aa (aw (aa af (aa af ah))) (aa (aw (aa af (aa af ah))) ah))))))) (aa (aG (aV (aa (aw (aa af (aa af ah))) (aa (aw (aa af (aa af ah))) (aa (aw (aa af (aa af ah))) ah))))) (aa (aG (aV (aa (aw (aa af (aa af ah))) (aa (aw (aa af (aa af ah))) ah)))) ah))))) (aA br bI (ae 2 (pv 2)) af) (fun _ _=>rfl)))
  (ai (bj (aQ eg g9 (aW e0_ hr (aa (ae 0 (pv 0)) (aa af ah))) af (aO _)) (ak (aD (aG (aV ah)))) aK)
  (ak (aD (aG (gg rfl rfl (by rfl) T.sorted_ fj (aa (aG (bO (tg:=["_law_x","_law_y"]) (cs:=["_law_dx","_law_size_here","_law_dy"]) (ix:=[6,1,7]) (aM (aj dN) ["_law_pen_here","_law_size_here","_law_way","_law_cells","_law_share","_law_at","_law_dx","_law_dy","_law_some"] (by decide +kernel)) rfl (dD (by decide) (by decide)) (by decide) (bx rfl (ae 8 (pv 8))) (fun _ _ _ _=>(bM (n:=2) rfl rfl (aC (au (aq (i:=0) (show (["_law_x","_law_y","_law_dx","_law_size_here","_law_dy"]:List Str).Nodup by decide +kernel) rfl (GB rfl) (by first | exact GB rfl | exact Ij rfl))) (aC (au (aq (i:=1) (show (["_law_x","_law_y","_law_dx","_law_size_here","_law_dy"]:List Str).Nodup by decide +kernel) rfl (GB rfl) (by first | exact GB rfl | exact Ij rfl))) bw)))) (fun _ _ _ _=>cu) (fun _ _ _ _=>(aw (aa (aA br bI (aA aS aJ (ae 0 (pv 0)) (ae 2 (pv 2))) (aH rfl (ae 3 (pv 3)) af (fun _ _=>rfl))) (aa (aA br bI (aA aS aJ (ae 1 (pv 1)) (ae 4 (pv 4))) (aH rfl (ae 3 (pv 3)) af (fun _ _=>rfl))) ah)))))) ah))))))))))))),?_⟩
 rintro a pn ds es R hl ⟨b,w,h,e,hs,hpn,hb,q⟩
 obtain rfl:ds=[]:=Hm hl
 obtain rfl:es=[eT [w,h]]:=e
 obtain ⟨s1,s2,s3,s4⟩:=id hs
 have g0:Pg w h (bR w h):=⟨e6 w h,d9 w h,fun p hp=>cj.mp hp⟩
 have gl:=dQ hs
 walk_at "sl"
 walk_at "rd"
 refine ⟨b,7,rfl,hpn,by lia,by lia,by lia,fun pn1 r1 h1 r1a r1b=>?_⟩
 walk_at "rd"
 refine ⟨w,h,rfl,hs,?_⟩
 walk_at "rd"
 refine cw (fun c1=>?_) (fun c1=>?_)
 ·obtain ⟨sh,e1,sh0,sh1⟩:∃sh:Int,atI [D.int 2,.int 3,.int 6] r1=some (.int sh)/\0 < sh/\sh<=6:=by
   rcases (by lia:r1=0\/r1=1\/r1=2) with e | e | e <;> rw [e]
   ·exact ⟨2,rfl,by lia,by lia⟩
   ·exact ⟨3,rfl,by lia,by lia⟩
   ·exact ⟨6,rfl,by lia,by lia⟩
  walk_at "rd"
  refine bU rfl rfl e1 ?_
  walk_at "rd"
  refine oO (fun i ys S'=>∃sub pn',sub.Sublist ((bR w h).take i)/\Pn (b+1+i) pn'/\ys=sub.map eT/\S'=[.pen (some a) pn',.val (.tup [.int w,.int h]),.val (.int r1),.val (eL (bR w h)),.val (.int sh),.no,.no,.no,.no]) (by rw [Gx];lia) ⟨[],pn1,List.nil_sublist _,h1,rfl,rfl⟩ ?_ ?_
  ·rintro i d ys S2 e ⟨sub,pn',hsub,h2,rfl,rfl⟩
   obtain ⟨c,hc,rfl,hm,ht⟩:=aL e
   have hi:=(List.getElem?_eq_some_iff.mp hc).1
   dsimp only [bz,He,GO,Hu,Hq,Hr]
   walk_at "rd"
   refine ⟨b+1+i,sh,rfl,h2,by lia,by lia,by lia,fun pn3 r3 h3 r3a r3b=>?_⟩
   walk_at "rd"
   refine eN (fun _=>?_) (fun _=>?_)
   ·walk_at "rd"
    exact ⟨sub++[c],pn3,by rw [ht];exact hsub.append (Nb _),h3,by rw [HA];rfl,rfl⟩
   ·exact ⟨sub,pn3,hsub.trans (by rw [ht];exact List.sublist_append_left _ _),h3,rfl,rfl⟩
  ·rintro ys S2 ⟨sub,pn',hsub,h2,rfl,rfl⟩
   walk_at "rd"
   exact ⟨_,rfl,q sub _ (g0.sub (hsub.trans (J3 _ _))) (h2.le (by rw [Gx];lia))⟩
 ·walk_at "rd"
  refine cw (fun c2=>?_) (fun c2=>?_)
  ·walk_at "rd"
   rw [Gx]
   walk_at "rd"
   refine ⟨b+1,((bR w h).length:Int)+1,rfl,h1,by lia,by lia,by lia,fun pn3 r3 h3 r3a r3b=>?_⟩
   obtain ⟨n,rfl⟩:=HH r3a
   walk_at "rd"
   refine ir rfl (dH _) (Fv n) ?_
   walk_at "rd"
   rw [show (n:Int)+1=((n+1:Nat):Int) by lia]
   refine ir rfl (dH _) (Fw (n+1)) ?_
   refine zp (by rw [Ie,Ir,Gx];lia) ?_
   walk_at "rd"
   rw [<- List.map_take,<- List.map_drop,<- HA]
   refine ⟨_,rfl,q _ _ (g0.sub ?_) (h3.le (by lia))⟩
   have:=(Nb ((bR w h).take n)).append (List.drop_sublist_drop_left (bR w h) (show n<=n+1 by lia))
   rwa [GX] at this
  ·walk_at "rd"
   refine ⟨b+1,w,rfl,h1,by lia,by lia,by lia,fun pn3 dx h3 dx0 dx1=>?_⟩
   walk_at "rd"
   refine ⟨b+2,h,rfl,h3,by lia,by lia,by lia,fun pn4 dy h4 dy0 dy1=>?_⟩
   walk_at "rd"
   obtain ⟨so,e1,pso,lso⟩:∃so:List (List Int),atI [eL [[0,2],[1,0],[1,2],[2,1],[2,2]],eL [[0,0],[1,0],[2,0]],eL [[0,0],[0,1]]] (r1%3)=some (eL so)/\Pg w h so/\so.length<=5:=by
    have small:∀so:List (List Int),(decide so.Nodup&&decide (so.Pairwise (fun a b=>lexLe a b=true))&&so.all fun m=>match m with | [x,y]=>decide (0<=x)&&decide (x < 3)&&decide (0<=y)&&decide (y < 3) | _=>false)=true->Pg w h so:=fun so hq=>by
     simp only [G5,decide_eq_true_eq,LA] at hq
     refine ⟨hq.1.1,hq.1.2,fun p hp=>?_⟩
     have:=hq.2 p hp
     match p,this with
     | [x,y],this=>
      simp only [G5,decide_eq_true_eq] at this
      exact ⟨x,y,rfl,by lia,by lia,by lia,by lia⟩
    rcases (by lia:r1=4\/r1=5\/r1=6) with e | e | e <;> rw [e]
    ·exact ⟨_,rfl,small _ (by decide +kernel),by decide⟩
    ·exact ⟨_,rfl,small _ (by decide +kernel),by decide⟩
    ·exact ⟨_,rfl,small _ (by decide +kernel),by decide⟩
   refine bU rfl rfl e1 ?_
   walk_at "rd"
   refine ⟨b+3,4,rfl,h4,by lia,by lia,by lia,fun pn5 r5 h5 r5a r5b=>?_⟩
   walk_at "rd"
   refine cw (fun c3=>?_) (fun c3=>?_)
   ·walk_at "rd"
    exact ⟨_,rfl,q [] _ ⟨Kg,Le,fun p hp=>nomatch hp⟩ (h5.le (by lia))⟩
   ·walk_at "rd"
    refine comp_map (xs:=so) (en:=eT) (f:=fun m=>eT (rmv w h dx dy m)) (by lia) (fun m hm A B hA=>?_) ?_
    ·obtain ⟨x,y,rfl⟩:=pso.pr m hm
     dsimp only [bz,He,GO,Hu,Hq,Hr]
     walk_at "rd"
     exact hA _ rfl
    ·rw [show so.map (fun m=>eT (rmv w h dx dy m))=(so.map (rmv w h dx dy)).map eT by rw [HC];rfl]
     walk_at "rd"
     refine gh (mss:=so.map (rmv w h dx dy)) rfl (fun ms hm=>?_) ?_
     ·obtain ⟨m,h1,rfl⟩:=List.mem_map.mp hm
      obtain ⟨x,y,rfl⟩:=pso.pr m h1
      simp [rmv]
     ·walk_at "rd"
      exact ⟨_,rfl,q (rMv w h dx dy so) _ (pso.mv (by lia) (by lia) dx dy) (h5.le (by lia))⟩
end
end My
namespace My
open PySem L2 VL
noncomputable def sp (k:Int):List (List Int):=if k=4 then [[0,-1],[-1,0],[1,0],[0,1]] else if k=6 then [[0,-1],[-1,0],[1,0],[0,1],[-1,-1],[1,1]] else [[0,-1],[-1,0],[1,0],[0,1],[-1,-1],[1,1],[-1,1],[1,-1]]
noncomputable def vI:List D->(D->Prop)->Prop:=fun ds R=>∃k,ds=[.int k]/\Kd k/\R (eL (sp k))
noncomputable def fol (l:List (List Int)):List (List Int×D):=l.foldl (fun kvs x=>ba kvs x (D.bl true)) []
theorem mF (l:List (List Int)) (c:List Int):fol (l++[c])=ba (fol l) c (.bl true):=by unfold fol;rw [J9];rfl
theorem jo {l:List (List Int)} {c:List Int}:c∈(fol l).map (·.1)↔c∈l:=(gM (ky:=fun p=>p) (f:=fun _=>D.bl true) l []).trans (by simp)
theorem yw {m:List Int}:(ba kvs m d).length<=kvs.length+1:=by unfold ba;split <;> simp
theorem pV:∀l:List (List Int),(fol l).length<=l.length:=fun l=>by
 have:∀(l:List (List Int)) (kvs:List (List Int×D)),(l.foldl (fun kvs x=>ba kvs x (D.bl true)) kvs).length<=l.length+kvs.length:=fun l=>by
  induction l with
  | nil=>intro kvs;simp
  | cons x l ih=>intro kvs;have:=ih (ba kvs x (.bl true));have:=yw (kvs:=kvs) (m:=x) (d:=.bl true);simp only [KG,HV];lia
 have h:=this l []
 simp only [Jc,LU] at h
 exact h
theorem vJ {k:Int} (hk:Kd k):(sp k).Perm (stp k):=by rcases hk with rfl | rfl | rfl <;> decide +kernel
theorem vK {k:Int} (hk:Kd k) {w h x y:Int} (hx:0<=x/\x < w) (hy:0<=y/\y < h) {ys:List (List Int)} (p:Pg w h ys):(((sp k).map (rad w h [x,y])).filter fun c=>decide (c∈ys)).length=(rbs k w h ys).count [x,y]:=by
 rw [<- qS hk hx hy p.1 p.2.2,LY,Gx]
 exact ((vJ hk).filter _).length_eq
theorem FH {k:Int} (hk:Kd k):∀m∈sp k,Pr m:=fun m hm=>CA hk m ((vJ hk).mem_iff.mp hm)
noncomputable def FI:List D->(D->Prop)->Prop:=fun ds R=>∃k bo st w h xs,ds=[rl k bo st,eT [w,h],eL xs]/\Kd k/\Sz w h/\Pg w h xs/\R (eL (rnx k bo st w h xs))
noncomputable def lds (w h a b:Int) (xs ys:List (List Int)):Bool:=xs.all fun c=>decide (rmv w h a b c∈ys)
noncomputable def FJ:List D->(D->Prop)->Prop:=fun ds R=>∃w h xs ys a b,ds=[eT [w,h],eL xs,dc (fol ys),eT [a,b]]/\Sz w h/\Pg w h xs/\R (.bl (lds w h a b xs ys))
noncomputable def pLl:List D->(D->Prop)->Prop:=fun ds R=>∃w h xs ys,ds=[eT [w,h],eL xs,eL ys]/\Sz w h/\Pg w h xs/\Pg w h ys/\∀m,Lm w h xs ys m->R (oE m)
theorem pW {w h a b:Int} (hw:0 < w) (hh:0 < h) {xs ys:List (List Int)} (p:Pg w h xs) (q:Pg w h ys) (hl:xs.length=ys.length):lds w h a b xs ys=true↔rMv w h a b xs=ys:=by
 have pm:=p.mv hw hh a b
 constructor
 ·intro e
  unfold lds at e
  rw [LA] at e
  have sub:∀c∈rMv w h a b xs,c∈ys:=fun c hc=>by
   obtain ⟨m,hm,rfl⟩:=List.mem_map.mp ((bK _).mem_iff.mp hc)
   exact of_decide_eq_true (e m hm)
  refine pm.ext q fun c _=>⟨sub c,fun hc=>G4 fun z=>?_⟩
  have:=kY (xs:=c::rMv w h a b xs) (g:=ys) (List.nodup_cons.mpr ⟨z,pm.1⟩) fun x hx=>(List.mem_cons.mp hx).elim (fun e=>e▸hc) (sub x)
  rw [HV,pN] at this
  lia
 ·rintro rfl
  unfold lds
  rw [LA]
  exact fun c hc=>decide_eq_true ((bK _).mem_iff.mpr (List.mem_map.mpr ⟨c,hc,rfl⟩))
noncomputable def cnd (w h x0 y0:Int) (p:List Int):List Int:=match p with
 | [x,y]=>[(x-x0)%w,(y-y0)%h]
 | _=>[]
theorem yx {w h x0 y0:Int} {a b:Nat} (ha:(a:Int) < w) (hb:(b:Int) < h) {xs ys:List (List Int)} (hx:[x0,y0]∈xs) (e:rMv w h a b xs=ys):[(a:Int),(b:Int)]∈srt (ys.map (cnd w h x0 y0)):=by
 subst e
 refine (bK _).mem_iff.mpr (List.mem_map.mpr ⟨rmv w h a b [x0,y0],(bK _).mem_iff.mpr (List.mem_map.mpr ⟨_,hx,rfl⟩),?_⟩)
 show [((x0+(a:Int))%w-x0)%w,((y0+(b:Int))%h-y0)%h]=_
 rw [Nc,Nc,show x0+(a:Int)-x0=a by lia,show y0+(b:Int)-y0=b by lia,HX (by lia) ha,HX (by lia) hb]
theorem CQ {a b c d:Int} (h:c < a\/c=a/\d < b):HT.lexLt [c,d] [a,b]=true:=by
 rw [HT.bH]
 rcases h with h | ⟨rfl,h⟩
 ·rw [if_neg (by lia)];exact decide_eq_true h
 ·rw [if_pos rfl,HT.bH,if_neg (by lia)];exact decide_eq_true h
section
variable {P:G2} {w:HJ} {K:Gn} {mg:Str->Option Gs} {base:Heap}
theorem vL (S:Src K mg "_law_steps" kX) (T:Txt mg):Has P w K mg base 1 "_law_steps" ["_law_kind"] (spP K vI):=by
 refine bP S gq (by walk_at "1") (by walk_at "L") fun f cdv A outer s H E hr=>⟨_,_,(ai (fe (fun _ h=>cB (i:=1) gq.nd rfl (GB rfl) h) (aV (aa (aw (aa af (aa (iT fF af) ah))) (aa (aw (aa (iT fF af) (aa af ah))) (aa (aw (aa af (aa af ah))) (aa (aw (aa af (aa af ah))) ah))))))
  (ai (bj (aQ lr aJ (ae 0 (pv 0)) af (aO _)) (ak (fe (fun _ h=>cB (i:=1) gq.nd rfl (GB rfl) h) (tj 1 (pv 1) (aV (aa (aw (aa (iT fF af) (aa (iT fF af) ah))) (aa (aw (aa af (aa af ah))) ah)))))) aK)
  (ai (bj (aQ eg g9 (ae 0 (pv 0)) af (aO _)) (ak (fe (fun _ h=>cB (i:=1) gq.nd rfl (GB rfl) h) (tj 1 (pv 1) (aV (aa (aw (aa (iT fF af) (aa af ah))) (aa (aw (aa af (aa (iT fF af) ah))) ah)))))) aK)
  (ak (aD (aF (ae 1 (pv 1)))))))),?_⟩
 rintro ds R ⟨k,rfl,hk,q⟩
 walk_at "sl"
 rcases hk with rfl | rfl | rfl
 ·walk_at "rc"
  exact q
 ·walk_at "rc"
  refine m9 rfl (GW rfl) ?_
  walk_at "rc"
  exact q
 ·walk_at "rc"
  refine m9 rfl (GW rfl) ?_
  walk_at "rc"
  refine m9 rfl (GW rfl) ?_
  walk_at "rc"
  exact q
theorem CS (S:Src K mg "_law_ring_next" cU) (T:Txt mg) (e2_:Has P w K mg base 1 "_law_all" ["_law_size_here"] (spP K CN)) (e19_:Has P w K mg base 1 "_law_steps" ["_law_kind"] (spP K vI)):Has P w K mg base 2 "_law_ring_next" ["_law_told","_law_size_here","_law_live"] (spP K FI):=by
 refine bP S bG (by walk_at "3") (by walk_at "L") fun f cdv A outer s H E hr=>⟨_,_,(ai (kB (fun _ h=>cB (i:=3) bG.nd rfl (Ij rfl) h) tL)
  (ai (bN Hi rfl (bx rfl (ae 2 (pv 2))) (au (aq (i:=4) bG.nd rfl (GB rfl) (GB rfl))) (ak (oX 3 rfl hr.units (pv 3) cO (ae 4 (pv 4)))))
  (ai (fe (fun _ h=>cB (i:=5) bG.nd rfl (GB rfl) h) (aV ah))
  (ai (bN Hi rfl (bx rfl (bD e2_ hr (aa (ae 1 (pv 1)) ah))) (bM (n:=2) rfl rfl (aC (au (aq (i:=6) bG.nd rfl (Ij rfl) (GB rfl))) (aC (au (aq (i:=7) bG.nd rfl (Ij rfl) (GB rfl))) bw))) (ai (sH (ii:=8) (tg:=["_law_dx","_law_dy"]) (cs:=["_law_x","_law_size_here","_law_y"]) (ix:=[6,1,7]) bG.nd rfl (GB rfl) (GB rfl) (aM (aj cU) ["_law_told","_law_size_here","_law_live","_law_alive","_law_cell","_law_found","_law_x","_law_y","_law_near","_law_many"] (by decide +kernel)) rfl (dD (by decide) (by decide)) (by decide) (bx rfl (bD e19_ hr (aa (aH rfl (ae 0 (pv 0)) af (fun _ _=>rfl)) ah))) (fun _ _ _ _=>(bM (n:=2) rfl rfl (aC (au (aq (i:=0) (show (["_law_dx","_law_dy","_law_x","_law_size_here","_law_y"]:List Str).Nodup by decide +kernel) rfl (GB rfl) (by first | exact GB rfl | exact Ij rfl))) (aC (au (aq (i:=1) (show (["_law_dx","_law_dy","_law_x","_law_size_here","_law_y"]:List Str).Nodup by decide +kernel) rfl (GB rfl) (by first | exact GB rfl | exact Ij rfl))) bw)))) (fun _ _ _ _=>cu) (fun _ _ _ _=>(aw (aa (aA br bI (aA aS aJ (ae 2 (pv 2)) (ae 0 (pv 0))) (aH rfl (ae 3 (pv 3)) af (fun _ _=>rfl))) (aa (aA br bI (aA aS aJ (ae 4 (pv 4)) (ae 1 (pv 1))) (aH rfl (ae 3 (pv 3)) af (fun _ _=>rfl))) ah)))))
  (ai (az (i:=9) bG.nd rfl (GB rfl) (aZ (fB (K:=K) rfl) fA (by rfl) T.len_ du (aa (aG (bO (tg:=["_law_cell"]) (cs:=["_law_alive"]) (ix:=[3]) (aM (aj cU) ["_law_told","_law_size_here","_law_live","_law_alive","_law_cell","_law_found","_law_x","_law_y","_law_near","_law_many"] (by decide +kernel)) rfl (bu (by decide)) (by decide) (bx rfl (ae 8 (pv 8))) (fun _ _ _ _=>(au (aq (i:=0) (show (["_law_cell","_law_alive"]:List Str).Nodup by decide +kernel) rfl (GB rfl) (by first | exact GB rfl | exact Ij rfl)))) (fun _ _ _ _=>(fh (aQ (tJ (K:=K) rfl hr.units) oW (ae 0 (pv 0)) (ae 1 (pv 1)) (by with_unfolding_all rfl)))) (fun _ _ _ _=>(aF (ae 0 (pv 0)))))) ah)))
  (ak (bj (aQ (sI (K:=K) rfl hr.units) oF (ae 9 (pv 9)) (aH rfl (ae 0 (pv 0)) (aA aS aJ af (gH gw rS (by rfl) T.int_ iK (aa (eG (tJ (K:=K) rfl hr.units) oW (aw (aa (ae 6 (pv 6)) (aa (ae 7 (pv 7)) ah))) (ae 3 (pv 3)) (by with_unfolding_all rfl)) ah))) (fun _ _=>rfl)) (by with_unfolding_all rfl)) (ak (fc (si 5 rfl (pv 5) (aw (aa (aF (ae 6 (pv 6))) (aa (aF (ae 7 (pv 7))) ah)))))) aK)))))
  (ak (aD (aF (ae 5 (pv 5))))))))),?_⟩
 rintro ds R ⟨k,bo,st,w,h,xs,rfl,hk,hs,p,q⟩
 have hl:=p.len hs
 have gl:=dQ hs
 obtain ⟨s1,s2,s3,s4⟩:=id hs
 walk_at "sl"
 walk_at "rd"
 refine eM (fun i S=>∃s4,S=[.val (rl k bo st),.val (eT [w,h]),.val (eL xs),od (fol (xs.take i)),s4,.no,.no,.no,.no,.no]) ⟨_,rfl⟩ ?_ ?_
 ·rintro i d S2 e ⟨s4,rfl⟩
  obtain ⟨c,h1,rfl,hm,ht⟩:=aL e
  have fl:=pV (xs.take i)
  rw [Ie] at fl
  walk_at "rd"
  refine lX (ms:=c) rfl rfl (by lia) ?_
  exact ⟨_,by rw [ht,mF];rfl⟩
 ·rintro S2 ⟨v4,rfl⟩
  rw [Gx,HK]
  walk_at "rd"
  refine ⟨w,h,rfl,hs,?_⟩
  walk_at "rd"
  refine eM (fun i S=>∃v6 v7 v8 v9,S=[.val (rl k bo st),.val (eT [w,h]),.val (eL xs),od (fol xs),v4,.own ((((bR w h).take i).filter (rliv k bo st w h xs)).map eT),v6,v7,v8,v9]) ⟨_,_,_,_,rfl⟩ ?_ ?_
  ·rintro i d S3 e ⟨v6,v7,v8,v9,rfl⟩
   obtain ⟨c,h1,rfl,hm,ht⟩:=aL e
   obtain ⟨x,y,rfl,x0,x1,y0,y1⟩:=cj.mp hm
   have ll:(((bR w h).take i).filter (rliv k bo st w h xs)).length<=1600:=HY (List.length_filter_le _ _) (HY (List.length_take_le' _ _) gl)
   show vgT 2 _ (.tup [.int x,.int y]) _ _
   unfold rl
   walk_at "rd"
   refine ⟨k,rfl,hk,?_⟩
   walk_at "rd"
   refine comp_map (xs:=sp k) (en:=eT) (f:=fun m=>eT (rad w h [x,y] m)) (by rcases hk with rfl | rfl | rfl <;> decide) (fun m hm A B hA=>?_) ?_
   ·obtain ⟨dx,dy,rfl⟩:=FH hk m hm
    dsimp only [bz,He,GO,Hu,Hq,Hr]
    walk_at "rd"
    exact hA _ rfl
   rw [show (sp k).map (fun m=>eT (rad w h [x,y] m))=((sp k).map (rad w h [x,y])).map eT by rw [HC];rfl]
   walk_at "rd"
   refine dh (xs:=(sp k).map (rad w h [x,y])) (en:=eT) (f:=eT) (p:=fun c=>decide (c∈xs)) (by rw [Gx];rcases hk with rfl | rfl | rfl <;> decide) (fun c hc A B hA hB=>?_) ?_
   ·dsimp only [bz,He,GO,Hu,Hq,Hr]
    walk_at "rd"
    refine kE (ms:=c) (kvs:=fol xs) rfl rfl ?_
    rw [if_neg Gw,show decide (c∈(fol xs).map (·.1))=decide (c∈xs) from decide_eq_decide.mpr jo]
    cases hv:decide (c∈xs) with
    | true=>walk_at "rc";exact hA _ rfl hv
    | false=>walk_at "rc";exact hB _ rfl hv
   walk_at "rd"
   rw [Gx,vK hk ⟨x0,x1⟩ ⟨y0,y1⟩ p]
   walk_at "rd"
   refine kE (ms:=[x,y]) (kvs:=fol xs) rfl rfl ?_
   rw [if_neg Gw,show decide ([x,y]∈(fol xs).map (·.1))=decide ([x,y]∈xs) from decide_eq_decide.mpr jo]
   walk_at "rd"
   refine .inr ⟨_,rfl,?_⟩
   walk_at "rd"
   have hv:decide ((((rbs k w h xs).count [x,y]:Nat):Int)∈if decide ([x,y]∈xs)=true then st else bo)=rliv k bo st w h xs [x,y]:=rfl
   refine y9 rfl rfl (show atI _ _=some (.tup ((if decide ([x,y]∈xs)=true then st else bo).map .int)) from by by_cases hq:[x,y]∈xs <;> simp only [hq,decide_true,decide_false,if_true,if_false,Hz] <;> rfl) ?_
   walk_at "rd"
   refine nj (f:=D.int) b8 ?_
   rw [hv,ht,JS,HA]
   cases hw:rliv k bo st w h xs [x,y] with
   | true=>
    rw [show [[x,y]].filter (rliv k bo st w h xs)=[[x,y]] by rw [List.filter_cons,if_pos hw];rfl]
    walk_at "rc"
    exact ⟨_,_,_,_,rfl⟩
   | false=>
    rw [show [[x,y]].filter (rliv k bo st w h xs)=[] by rw [List.filter_cons,if_neg (by rw [hw];exact Gw)];rfl,Hu,Ia]
    walk_at "rc"
    exact ⟨_,_,_,_,rfl⟩
  ·rintro S3 ⟨v6,v7,v8,v9,rfl⟩
   rw [Gx,HK]
   walk_at "rd"
   exact q
theorem CT (S:Src K mg "_law_led" u9) (T:Txt mg):Has P w K mg base 1 "_law_led" ["_law_size_here","_law_one","_law_there","_law_move"] (spP K FJ):=by
 refine bP S nT (by walk_at "4") (by walk_at "L") fun f cdv A outer s H E hr=>⟨_,_,(ai (bN Hi rfl (bx rfl (ae 1 (pv 1))) (bM (n:=2) rfl rfl (aC (au (aq (i:=4) nT.nd rfl (GB rfl) (GB rfl))) (aC (au (aq (i:=5) nT.nd rfl (GB rfl) (GB rfl))) bw))) (ak (bj (aQ (tK (K:=K) rfl hr.units) oW (aw (aa (aA br bI (aA aS aJ (ae 4 (pv 4)) (aH rfl (ae 3 (pv 3)) af (fun _ _=>rfl))) (aH rfl (ae 0 (pv 0)) af (fun _ _=>rfl))) (aa (aA br bI (aA aS aJ (ae 5 (pv 5)) (aH rfl (ae 3 (pv 3)) af (fun _ _=>rfl))) (aH rfl (ae 0 (pv 0)) af (fun _ _=>rfl))) ah))) (ae 2 (pv 2)) (by with_unfolding_all rfl)) (ak (aD cO)) aK)))
  (ak (aD cO))),?_⟩
 rintro ds R ⟨w,h,xs,ys,a,b,rfl,hs,p,q⟩
 obtain ⟨s1,s2,s3,s4⟩:=id hs
 walk_at "sl"
 walk_at "rd"
 refine eM (fun i S=>∃v4 v5,((xs.take i).all fun c=>decide (rmv w h a b c∈ys))=true/\S=[.val (.tup [.int w,.int h]),.val (eL xs),.val (dc (fol ys)),.val (.tup [.int a,.int b]),v4,v5]) ⟨_,_,rfl,rfl⟩ ?_ ?_
 ·rintro i d S2 e ⟨v4,v5,al,rfl⟩
  obtain ⟨c,h1,rfl,hm,ht⟩:=aL e
  obtain ⟨x,y,rfl⟩:=p.pr c hm
  show vgT 2 _ (.tup [.int x,.int y]) _ _
  walk_at "rd"
  refine kE (ms:=[(x+a)%w,(y+b)%h]) (kvs:=fol ys) rfl rfl ?_
  rw [if_pos rfl,show decide ([(x+a)%w,(y+b)%h]∈(fol ys).map (·.1))=decide (rmv w h a b [x,y]∈ys) from decide_eq_decide.mpr jo]
  cases hv:decide (rmv w h a b [x,y]∈ys) with
  | true=>
   walk_at "rc"
   exact ⟨_,_,by rw [ht,List.all_append,al];simpa using hv,rfl⟩
  | false=>
   walk_at "rc"
   rw [show lds w h a b xs ys=false by
    unfold lds
    rw [List.all_eq_false]
    exact ⟨_,hm,by rw [hv];exact Gw⟩] at q
   exact q
 ·rintro S2 ⟨v4,v5,al,rfl⟩
  rw [Gx,HK] at al
  walk_at "rd"
  rw [show lds w h a b xs ys=true from al] at q
  exact q
theorem FL (S:Src K mg "_law_least" iB) (T:Txt mg) (e12_:Has P w K mg base 1 "_law_led" ["_law_size_here","_law_one","_law_there","_law_move"] (spP K FJ)):Has P w K mg base 2 "_law_least" ["_law_size_here","_law_one","_law_other"] (spP K pLl):=by
 refine bP S eY (by walk_at "3") (by walk_at "L") fun f cdv A outer s H E hr=>⟨_,_,(ai (bj (aQ Dc FX (aZ (fB (K:=K) rfl) fA (by rfl) T.len_ du (aa (ae 1 (pv 1)) ah)) (aZ (fB (K:=K) rfl) fA (by rfl) T.len_ du (aa (ae 2 (pv 2)) ah)) (aO _)) (ak (aD iR)) aK)
  (ai (bj (aQ (ko (K:=K) rfl hr.units) i3 (ae 1 (pv 1)) (aG (aV ah)) (aO _)) (ak (aD (aw (aa af (aa af ah))))) aK)
  (ai (kB (fun _ h=>cB (i:=3) eY.nd rfl (GB rfl) h) tL)
  (ai (bN Hi rfl (bx rfl (ae 2 (pv 2))) (au (aq (i:=4) eY.nd rfl (GB rfl) (GB rfl))) (ak (oX 3 rfl hr.units (pv 3) cO (ae 4 (pv 4)))))
  (ai (az (i:=5) eY.nd rfl (GB rfl) (aG (gg rfl rfl (by rfl) T.sorted_ fj (aa (aG (bO (tg:=["_law_x","_law_y"]) (cs:=["_law_size_here","_law_one"]) (ix:=[0,1]) (aM (aj iB) ["_law_size_here","_law_one","_law_other","_law_there","_law_cell","_law_moves","_law_move"] (by decide +kernel)) rfl (dD (by decide) (by decide)) (by decide) (bx rfl (ae 2 (pv 2))) (fun _ _ _ _=>(bM (n:=2) rfl rfl (aC (au (aq (i:=0) (show (["_law_x","_law_y","_law_size_here","_law_one"]:List Str).Nodup by decide +kernel) rfl (GB rfl) (by first | exact GB rfl | exact Ij rfl))) (aC (au (aq (i:=1) (show (["_law_x","_law_y","_law_size_here","_law_one"]:List Str).Nodup by decide +kernel) rfl (GB rfl) (by first | exact GB rfl | exact Ij rfl))) bw)))) (fun _ _ _ _=>cu) (fun _ _ _ _=>(aw (aa (aA br bI (aA et aJ (ae 0 (pv 0)) (aH rfl (aH rfl (ae 3 (pv 3)) af (fun _ _=>rfl)) af (fun _ _=>rfl))) (aH rfl (ae 2 (pv 2)) af (fun _ _=>rfl))) (aa (aA br bI (aA et aJ (ae 1 (pv 1)) (aH rfl (aH rfl (ae 3 (pv 3)) af (fun _ _=>rfl)) af (fun _ _=>rfl))) (aH rfl (ae 2 (pv 2)) af (fun _ _=>rfl))) ah)))))) ah))))
  (ai (bN Hi rfl (bx rfl (ae 5 (pv 5))) (au (aq (i:=6) eY.nd rfl (GB rfl) (GB rfl))) (ak (bj (cK (bD e12_ hr (aa (ae 0 (pv 0)) (aa (ae 1 (pv 1)) (aa (ae 3 (pv 3)) (aa (ae 6 (pv 6)) ah)))))) (ak (aD (aF (ae 6 (pv 6))))) aK)))
  (ak (aD iR)))))))),?_⟩
 rintro ds R ⟨w,h,xs,ys,rfl,hs,p,p2,q⟩
 obtain ⟨s1,s2,s3,s4⟩:=id hs
 have l1:=p.len hs
 have l2:=p2.len hs
 walk_at "sl"
 walk_at "rd"
 rw [Gx,Gx]
 by_cases hl:xs.length=ys.length
 ·rw [decide_eq_true (show (xs.length:Int)=ys.length by lia)]
  walk_at "rc"
  change jt false (eL xs) (eL []) _
  by_cases h0:xs=[]
  ·refine oQ eJ h0 ?_
   walk_at "rc"
   subst h0
   obtain rfl:ys=[]:=Hm hl.symm
   exact q (some [0,0]) ⟨0,0,rfl,by lia,by lia,pO p,fun c d _ hc=>by lia⟩
  ·refine sY eJ h0 ?_
   obtain ⟨c0,r0,rfl⟩:∃c r,xs=c::r:=⟨_,_,(List.cons_head_tail h0).symm⟩
   obtain ⟨x0,y0,rfl⟩:=p.pr c0 GG
   walk_at "rc"
   refine eM (fun i S=>∃v4,S=[.val (.tup [.int w,.int h]),.val (eL ([x0,y0]::r0)),.val (eL ys),od (fol (ys.take i)),v4,.no,.no]) ⟨_,rfl⟩ ?_ ?_
   ·rintro i d S2 e ⟨v4,rfl⟩
    obtain ⟨c,h1,rfl,hm,ht⟩:=aL e
    have fl:=pV (ys.take i)
    rw [Ie] at fl
    walk_at "rd"
    refine lX (ms:=c) rfl rfl (by lia) ?_
    exact ⟨_,by rw [ht,mF];rfl⟩
   ·rintro S2 ⟨v4,rfl⟩
    rw [Gx,HK]
    walk_at "rd"
    refine comp_map (xs:=ys) (en:=eT) (f:=fun m=>eT (cnd w h x0 y0 m)) (by lia) (fun m hm A B hA=>?_) ?_
    ·obtain ⟨x,y,rfl⟩:=p2.pr m hm
     dsimp only [bz,He,GO,Hu,Hq,Hr]
     walk_at "rd"
     refine bU rfl rfl (fT (j:=0) (show (([x0,y0]::r0).map eT)[0]?=some (eT [x0,y0]) from rfl)) ?_
     walk_at "rd"
     refine bU rfl rfl (fT (j:=0) (show (([x0,y0]::r0).map eT)[0]?=some (eT [x0,y0]) from rfl)) ?_
     walk_at "rd"
     exact hA _ rfl
    rw [show ys.map (fun m=>eT (cnd w h x0 y0 m))=(ys.map (cnd w h x0 y0)).map eT by rw [HC];rfl]
    walk_at "rd"
    refine gh (mss:=ys.map (cnd w h x0 y0)) rfl (fun ms hm=>?_) ?_
    ·obtain ⟨m,h1,rfl⟩:=List.mem_map.mp hm
     obtain ⟨x,y,rfl⟩:=p2.pr m h1
     simp [cnd]
    generalize hM:srt (ys.map (cnd w h x0 y0))=M
    have Mc:∀a b:Nat,(a:Int) < w->(b:Int) < h->rMv w h a b ([x0,y0]::r0)=ys->[(a:Int),(b:Int)]∈M:=fun a b ha hb e=>by rw [<- hM];exact yx ha hb GG e
    have Ms:M.Pairwise (fun a b=>lexLe a b=true):=by rw [<- hM];exact dW _
    have Mg:∀m∈M,∃a b:Nat,m=[(a:Int),(b:Int)]/\(a:Int) < w/\(b:Int) < h:=fun m hm=>by
     rw [<- hM] at hm
     obtain ⟨c,hc,rfl⟩:=List.mem_map.mp ((bK _).mem_iff.mp hm)
     obtain ⟨x,y,rfl⟩:=p2.pr c hc
     have a0:=Hs (x-x0) (show w≠0 by lia)
     have a1:=Hd (x-x0) (show 0 < w by lia)
     have b0:=Hs (y-y0) (show h≠0 by lia)
     have b1:=Hd (y-y0) (show 0 < h by lia)
     exact ⟨((x-x0)%w).toNat,((y-y0)%h).toNat,by show [(x-x0)%w,(y-y0)%h]=_;rw [IK a0,IK b0],by lia,by lia⟩
    walk_at "rd"
    refine eM (fun i S=>∃v6,(∀m∈M.take i,∀a b:Nat,m=[(a:Int),(b:Int)]->rMv w h a b ([x0,y0]::r0)≠ys)/\S=[.val (.tup [.int w,.int h]),.val (eL ([x0,y0]::r0)),.val (eL ys),od (fol ys),v4,.val (eL M),v6]) ⟨_,fun m hm=>by simp at hm,rfl⟩ ?_ ?_
    ·rintro i d S3 e ⟨v6,no,rfl⟩
     obtain ⟨m,h1,rfl,hm,ht⟩:=aL e
     obtain ⟨a,b,rfl,ha,hb⟩:=Mg m hm
     walk_at "rd"
     refine ⟨w,h,[x0,y0]::r0,ys,a,b,rfl,hs,p,?_⟩
     walk_at "rd"
     by_cases hled:lds w h a b ([x0,y0]::r0) ys=true
     ·rw [hled]
      walk_at "rc"
      refine q (some [(a:Int),(b:Int)]) ⟨a,b,rfl,ha,hb,(pW (by lia) (by lia) p p2 hl).mp hled,fun c d hd hc e2=>?_⟩
      have mem:=Mc c d (by lia) hd e2
      have lt:HT.lexLt [(c:Int),(d:Int)] [(a:Int),(b:Int)]=true:=CQ (by lia)
      rw [<- GX i M,JW] at mem
      rcases mem with mem | mem
      ·exact no _ mem c d rfl e2
      ·have hi:=(List.getElem?_eq_some_iff.mp h1).1
       have hd':M.drop i=[(a:Int),(b:Int)]::M.drop (i+1):=by
        rw [HM hi]
        congr 1
        exact (List.getElem?_eq_some_iff.mp h1).2
       have pw:(M.drop i).Pairwise (fun a b=>lexLe a b=true):=Ms.sublist (List.drop_sublist _ _)
       rw [hd'] at mem pw
       rcases List.mem_cons.mp mem with e3 | mem
       ·rw [e3,lex_irrefl] at lt;cases lt
       ·have:=List.rel_of_pairwise_cons pw mem
        unfold lexLe at this
        rw [lt] at this
        cases this
     ·rw [Bool.eq_false_iff.mpr hled]
      walk_at "rc"
      refine ⟨_,fun m hm2 a' b' e4=>?_,rfl⟩
      rw [ht,JW] at hm2
      rcases hm2 with hm2 | hm2
      ·exact no m hm2 a' b' e4
      ·obtain rfl:=List.mem_singleton.mp hm2
       simp only [JU,Int.natCast_inj,and_true] at e4
       obtain ⟨rfl,rfl⟩:=e4
       exact fun e5=>hled ((pW (by lia) (by lia) p p2 hl).mpr e5)
    ·rintro S3 ⟨v6,no,rfl⟩
     rw [Gx,HK] at no
     walk_at "rd"
     exact q none fun a b ha hb e=>no _ (Mc a b ha hb e) a b rfl e
 ·rw [decide_eq_false (show ¬(xs.length:Int)=ys.length by lia)]
  walk_at "rc"
  exact q none fun a b _ _ e=>hl (by rw [<- e,pN])
end
end My
namespace My
open PySem L2 VL
noncomputable def FN:List D->(D->Prop)->Prop:=fun ds R=>∃k bo st w h xs,∃T:Nat,ds=[rl k bo st,eT [w,h],eL xs,.int T]/\Kd k/\Sz w h/\Pg w h xs/\T<=100/\∀x,Rf (qB bo) w h (fun m=>qT k bo st w h m xs) T x->R (fE x)
noncomputable def pRg:List D->(D->Prop)->Prop:=fun ds R=>∃k bo st w h xs,∃T:Nat,ds=[rl k bo st,eT [w,h],eL xs,.int T]/\Kd k/\Sz w h/\Pg w h xs/\T<=100/\R (.bl true)
theorem fP {F:Nat->List (List Int)} {n i:Nat} (h:i < n):atI ((G1 n).map fun m=>eL (F m)) (i:Int)=some (eL (F i)):=fT (by rw [GH,IC h];rfl)
section
variable {P:G2} {w:HJ} {K:Gn} {mg:Str->Option Gs} {base:Heap}
theorem CU (S:Src K mg "_law_due" vf) (T:Txt mg) (e22_:Has P w K mg base 2 "_law_least" ["_law_size_here","_law_one","_law_other"] (spP K pLl)) (e18_:Has P w K mg base 2 "_law_ring_next" ["_law_told","_law_size_here","_law_live"] (spP K FI)):Has P w K mg base 3 "_law_due" ["_law_told","_law_size_here","_law_live","_law_most"] (spF K FN):=by
 refine zC S jm (by walk_at "4") (by walk_at "L") fun f cdv A outer s H E hr=>⟨_,_,(ai (fe (fun _ h=>cB (i:=4) jm.nd rfl (GB rfl) h) (aV (aa (ft 2 (pv 2)) ah)))
  (ai (bN Hi rfl (aX rfl T.range (aa (aA aS aJ (ae 3 (pv 3)) af) ah)) (au (aq (i:=5) jm.nd rfl (GB rfl) (GB rfl))) (ai (bj (lK (mW (aQ (ko (K:=K) rfl hr.units) i3 (aH rfl (ae 4 (pv 4)) (ae 5 (pv 5)) (fun _ _=>rfl)) (aG (aV ah)) (aO _)) (kj (aQ (jG (K:=K) rfl hr.units) oF af (aH rfl (ae 0 (pv 0)) af (fun _ _=>rfl)) (by with_unfolding_all rfl))))) (ak (aD (aw (aa dY (aa (aF (ae 5 (pv 5))) ah))))) aK)
  (ai (bN Hi rfl (aX rfl T.range (aa (ae 5 (pv 5)) ah)) (au (aq (i:=6) jm.nd rfl (GB rfl) (GB rfl))) (ai (az (i:=7) jm.nd rfl (GB rfl) (bD e22_ hr (aa (ae 1 (pv 1)) (aa (aH rfl (ae 4 (pv 4)) (ae 6 (pv 6)) (fun _ _=>rfl)) (aa (aH rfl (ae 4 (pv 4)) (ae 5 (pv 5)) (fun _ _=>rfl)) ah)))))
  (ak (bj (aQ vV AG (ae 7 (pv 7)) iR (aO _)) (ak (aD (aw (aa dY (aa (aF (ae 6 (pv 6))) (aa (aA et aJ (ae 5 (pv 5)) (ae 6 (pv 6))) (aa (aF (ae 7 (pv 7))) ah))))))) aK))))
  (ak (bj (aQ lq aJ (ae 5 (pv 5)) (ae 3 (pv 3)) (aO _)) (ak (fc (si 4 rfl (pv 4) (bD e18_ hr (aa (ae 0 (pv 0)) (aa (ae 1 (pv 1)) (aa (aH rfl (ae 4 (pv 4)) (ae 5 (pv 5)) (fun _ _=>rfl)) ah))))))) aK)))))
  (ak (aD (aw (aa dY ah)))))),?_⟩
 rintro ds R ⟨k,bo,st,w,h,xs,T',rfl,hk,hs,p,hT,q⟩
 generalize hf:(fun m=>qT k bo st w h m xs)=F at q
 have F0:F 0=xs:=by rw [<- hf];rfl
 have Fs:∀n,F (n+1)=rnx k bo st w h (F n):=fun n=>by rw [<- hf];rfl
 have pg:∀n,Pg w h (F n):=fun n=>by rw [<- hf];exact lh p n
 show rW _ _ _ [.fre (rl k bo st),.fre (.tup [.int w,.int h]),.fre (eL xs),.fre (.int T'),.no,.no,.no,.no]
 walk_at "rd"
 refine cE (fun i S=>Uq (qB bo) w h F i/\∃v5 v6 v7,S=[.fre (rl k bo st),.fre (.tup [.int w,.int h]),.fre (eL xs),.fre (.int T'),.own ((G1 (min (i+1) (T'+1))).map fun m=>eL (F m)),v5,v6,v7]) ⟨⟨fun _ h=>absurd h (HU _),fun _ _ _ h=>absurd h (HU _)⟩,.no,.no,.no,by rw [show min (0+1) (T'+1)=1 by lia,<- F0];rfl⟩ ?_ ?_
 ·rintro i S2 hi ⟨un,v5,v6,v7,rfl⟩
  have hi':i<=T':=by lia
  rw [show min (i+1) (T'+1)=i+1 by lia]
  walk_at "rd"
  rw [IR]
  refine bU rfl rfl (fP (Ig i)) ?_
  walk_at "rd"
  change jt false (eL (F i)) (eL []) _
  by_cases he:F i=[]
  ·refine oQ eJ he ?_
   unfold rl
   walk_at "rc"
   by_cases hb:0∈bo
   ·refine gr (ze (f:=D.int) (l:=bo) b8 hb ?_)
    walk_at "rc"
    have hn:¬(F i=[]/\qB bo=true):=fun z=>absurd hb (of_decide_eq_true z.2)
    refine cE (fun j S=>(∀m,m < j->¬Mvd w h (F m) (F i))/\∃v6 v7,S=[.fre (rl k bo st),.fre (.tup [.int w,.int h]),.fre (eL xs),.fre (.int T'),.own ((G1 (i+1)).map fun m=>eL (F m)),.val (.int i),v6,v7]) ⟨fun _ hm=>absurd hm (HU _),_,_,rfl⟩ ?_ ?_
    ·rintro j S3 hj ⟨no,v6,v7,rfl⟩
     have hj':j < i:=by lia
     walk_at "rd"
     rw [IR]
     refine bU rfl rfl (fP (show j < i+1 by lia)) ?_
     walk_at "rd"
     refine bU rfl rfl (fP (Ig i)) ?_
     walk_at "rd"
     refine ⟨w,h,F j,F i,rfl,hs,pg j,pg i,fun o ho=>?_⟩
     walk_at "rd"
     cases o with
     | none=>
      dsimp only [oE]
      walk_at "rc"
      refine ⟨fun m hm=>?_,_,_,rfl⟩
      by_cases z:m < j
      ·exact no m z
      ·obtain rfl:m=j:=by lia
       exact ho.none hs (pg m)
     | some v=>
      dsimp only [oE]
      walk_at "rc"
      refine ⟨q (.comes j ((i:Int)-j) v) (.inr (.inl ⟨i,j,v,hi',hj',un,hn,ho,rfl⟩)),?_⟩
      obtain ⟨a,b,rfl,_⟩:=ho
      rfl
    ·rintro S3 ⟨no,v6,v7,rfl⟩
     walk_at "rd"
     have un2:=un.succ hn fun m hm=>no m (by lia)
     by_cases hlt:i < T'
     ·rw [decide_eq_true (by lia)]
      walk_at "rc"
      refine bU rfl rfl (fP (Ig i)) ?_
      walk_at "rd"
      refine ⟨k,bo,st,w,h,F i,rfl,hk,hs,pg i,?_⟩
      walk_at "rd"
      refine m4 (ds:=(G1 (i+1)).map fun m=>eL (F m)) rfl (by simp;lia) ?_
      rw [<- Fs]
      dsimp only [Hg,Hk]
      refine ⟨un2,.val (.int i),v6,v7,?_⟩
      rw [show min (i+1+1) (T'+1)=i+1+1 by lia,Jd (n:=i+1),HA]
      rfl
     ·rw [decide_eq_false (by lia)]
      walk_at "rc"
      refine ⟨un2,.val (.int i),v6,v7,?_⟩
      rw [show min (i+1+1) (T'+1)=i+1 by lia]
      rfl
   ·refine gr (zd (f:=D.int) (l:=bo) b8 hb ?_)
    walk_at "rc"
    exact ⟨q (.gone i) (.inl ⟨i,hi',un,⟨he,decide_eq_true hb⟩,rfl⟩),rfl⟩
  ·refine sY eJ he ?_
   unfold rl
   walk_at "rc"
   have hn:¬(F i=[]/\qB bo=true):=fun z=>he z.1
   refine cE (fun j S=>(∀m,m < j->¬Mvd w h (F m) (F i))/\∃v6 v7,S=[.fre (rl k bo st),.fre (.tup [.int w,.int h]),.fre (eL xs),.fre (.int T'),.own ((G1 (i+1)).map fun m=>eL (F m)),.val (.int i),v6,v7]) ⟨fun _ hm=>absurd hm (HU _),_,_,rfl⟩ ?_ ?_
   ·rintro j S3 hj ⟨no,v6,v7,rfl⟩
    have hj':j < i:=by lia
    walk_at "rd"
    rw [IR]
    refine bU rfl rfl (fP (show j < i+1 by lia)) ?_
    walk_at "rd"
    refine bU rfl rfl (fP (Ig i)) ?_
    walk_at "rd"
    refine ⟨w,h,F j,F i,rfl,hs,pg j,pg i,fun o ho=>?_⟩
    walk_at "rd"
    cases o with
    | none=>
     dsimp only [oE]
     walk_at "rc"
     refine ⟨fun m hm=>?_,_,_,rfl⟩
     by_cases z:m < j
     ·exact no m z
     ·obtain rfl:m=j:=by lia
      exact ho.none hs (pg m)
    | some v=>
     dsimp only [oE]
     walk_at "rc"
     refine ⟨q (.comes j ((i:Int)-j) v) (.inr (.inl ⟨i,j,v,hi',hj',un,hn,ho,rfl⟩)),?_⟩
     obtain ⟨a,b,rfl,_⟩:=ho
     rfl
   ·rintro S3 ⟨no,v6,v7,rfl⟩
    walk_at "rd"
    have un2:=un.succ hn fun m hm=>no m (by lia)
    by_cases hlt:i < T'
    ·rw [decide_eq_true (by lia)]
     walk_at "rc"
     refine bU rfl rfl (fP (Ig i)) ?_
     walk_at "rd"
     refine ⟨k,bo,st,w,h,F i,rfl,hk,hs,pg i,?_⟩
     walk_at "rd"
     refine m4 (ds:=(G1 (i+1)).map fun m=>eL (F m)) rfl (by simp;lia) ?_
     rw [<- Fs]
     dsimp only [Hg,Hk]
     refine ⟨un2,.val (.int i),v6,v7,?_⟩
     rw [show min (i+1+1) (T'+1)=i+1+1 by lia,Jd (n:=i+1),HA]
     rfl
    ·rw [decide_eq_false (by lia)]
     walk_at "rc"
     refine ⟨un2,.val (.int i),v6,v7,?_⟩
     rw [show min (i+1+1) (T'+1)=i+1 by lia]
     rfl
 ·rintro S2 ⟨un,v5,v6,v7,rfl⟩
  walk_at "rd"
  exact ⟨q .on (.inr (.inr ⟨by rwa [show T'+1=((T':Int)+1-0).toNat by lia],rfl⟩)),rfl⟩
end
end My
namespace My
open PySem L2 VL
theorem li {xs:List Int} {s0 s1 s2 s3 s4 s5 s6 s7 s8:Sl} {Q:VR->List Sl->Prop} (hl:xs.length<=10) (h:Q (.d (.bl false)) [s0,s1,s2,s3,s4,s5,s6,s7,s8]):i7 1 [] (vgN 0) (vOr (AH (gV (vCB ql (fY (lJ 0) (fY (vC (D.ty "int")) qk))))) (gV (vCB ql (fY (lJ 0) (fY (vC (D.ty "bool")) qk))))) (oB (lJ 0)) (Bf (k2a (jt true) (rR (wL qk)) Q)) (xs.map .int) [s0,s1,s2,s3,s4,s5,s6,s7,s8]:=by
 refine dh (xs:=xs) (en:=D.int) (f:=D.int) (p:=fun _=>false) (by lia) (fun n hn A B hA hB=>?_) ?_
 ·dsimp only [bz,He,GO,Hu,Hq,Hr]
  walk_at "rc"
  exact hB _ rfl rfl
 ·rw [show xs.filter (fun _=>false)=[] by simp]
  walk_at "rd"
  change jt true (eL []) (eL []) _
  refine sZ eJ (x:=[]) (y:=[]) rfl ?_
  exact h
theorem Rf.ok {b:Bool} {w h:Int} {f:Nat->List (List Int)} {T:Nat} {x:Ft} (hx:Rf b w h f T x):(∃t,x=.gone t)\/x=.on\/∃m n a b,x=.comes m n [a,b]:=by
 rcases hx with ⟨t,_,_,_,rfl⟩ | ⟨t,m,v,_,_,_,_,l,rfl⟩ | ⟨_,rfl⟩
 ·exact .inl ⟨_,rfl⟩
 ·obtain ⟨a,b,rfl,_⟩:=l
  exact .inr (.inr ⟨_,_,_,_,rfl⟩)
 ·exact .inr (.inl rfl)
section
variable {P:G2} {w:HJ} {K:Gn} {mg:Str->Option Gs} {base:Heap}
theorem FO (S:Src K mg "_law_right" iC) (T:Txt mg) (e25_:Has P w K mg base 3 "_law_due" ["_law_told","_law_size_here","_law_live","_law_most"] (spF K FN)) (e10_:Has P w K mg base 7 "ring_fate" ["rule","size","picture","most"] (spP K pRf)):Has P w K mg base 8 "_law_right" ["_law_told","_law_size_here","_law_live","_law_most"] (spF K pRg):=by
 refine zC S cV (by walk_at "4") (by walk_at "L") fun f cdv A outer s H E hr=>⟨_,_,(ai (az (i:=4) cV.nd rfl (GB rfl) (uK e25_ hr (aa (ft 0 (pv 0)) (aa (ft 1 (pv 1)) (aa (ft 2 (pv 2)) (aa (ft 3 (pv 3)) ah))))))
  (ai (az (i:=5) cV.nd rfl (GB rfl) (aG (ik rfl (by rfl) T.list_ (aa (ae 2 (pv 2)) ah))))
  (ai (bN Hi rfl (aX rfl T.range (aa (aA aS aJ af (gH gw rS (by rfl) T.int_ iK (aa (eG lq aJ (aZ (fB (K:=K) rfl) fA (by rfl) T.len_ du (aa (ae 2 (pv 2)) ah)) af (aO _)) ah))) ah)) (au (aq (i:=6) cV.nd rfl (GB rfl) (GB rfl))) (ai (az (i:=7) cV.nd rfl (GB rfl) (bD e10_ hr (aa (ae 0 (pv 0)) (aa (ae 1 (pv 1)) (aa (ae 5 (pv 5)) (aa (ae 3 (pv 3)) ah))))))
  (ai (bj (lK (rP (eH (cK (aZ (jH (K:=K) rfl) iW (by rfl) T.isinstance_ aY (aa (ae 7 (pv 7)) (aa (iS (cY (v:=.ty "tuple") (by rfl) T.tuple_ fU rfl) (fun _ _=>.ty _)) ah))))) (rP (aQ (mZ (K:=K) rfl hr.units) i3 (ae 7 (pv 7)) (ae 4 (pv 4)) (aO _)) (rO (aQ (mZ (K:=K) rfl hr.units) i3 (ae 5 (pv 5)) (ae 2 (pv 2)) (aO _)))))) (ak (aD cO)) aK)
  (ai (az (i:=8) cV.nd rfl (GB rfl) (aG (ik rfl (by rfl) T.list_ (aa (B5 rfl (ae 7 (pv 7)) (fq af) (fq af)) ah))))
  (ai (bj (aQ eg g9 (aH rfl (ae 4 (pv 4)) af (fun _ _=>rfl)) dY (aO _)) (ai (bj (eH (cK (aZ (jH (K:=K) rfl) iW (by rfl) T.isinstance_ aY (aa (aH rfl (ae 7 (pv 7)) af (fun _ _=>rfl)) (aa (iS (cY (v:=.ty "tuple") (by rfl) T.tuple_ fU rfl) (fun _ _=>.ty _)) ah))))) (ak (aD cO)) aK)
  (ak (az (i:=8) cV.nd rfl (GB rfl) (aG (xC rfl (ae 8 (pv 8)) (ik rfl (by rfl) T.list_ (aa (aH rfl (ae 7 (pv 7)) af (fun _ _=>rfl)) ah))))))) aK)
  (ak (bj (aQ (mZ (K:=K) rfl hr.units) i3 (aG (bO (tg:=["_law_n"]) (cs:=[]) (ix:=[]) (aM (aj iC) ["_law_told","_law_size_here","_law_live","_law_most","_law_due_here","_law_handed","_law_again","_law_found","_law_numbers"] (by decide +kernel)) rfl (bu (by decide)) (by decide) (bx rfl (ae 8 (pv 8))) (fun _ _ _ _=>(au (aq (i:=0) (show (["_law_n"]:List Str).Nodup by decide +kernel) rfl (GB rfl) (by first | exact GB rfl | exact Ij rfl)))) (fun _ _ _ _=>(fh (lK (rP (eH (cK (aZ (jH (K:=K) rfl) iW (by rfl) T.isinstance_ aY (aa (ae 0 (pv 0)) (aa (iS (cY (v:=.ty "int") (by rfl) T.int_ iK rfl) (fun _ _=>.ty _)) ah))))) (rO (cK (aZ (jH (K:=K) rfl) iW (by rfl) T.isinstance_ aY (aa (ae 0 (pv 0)) (aa (iS (cY (v:=.ty "bool") (by rfl) T.bool_ ow rfl) (fun _ _=>.ty _)) ah))))))))) (fun _ _ _ _=>(aF (ae 0 (pv 0)))))) (aG (aV ah)) (aO _)) (ak (aD cO)) aK)))))))
  (ak (aD cO))))),?_⟩
 rintro ds R ⟨k,bo,st,w,h,xs,T',rfl,hk,hs,p,hT,q⟩
 have hl:=p.len hs
 show rW _ _ _ [.fre (rl k bo st),.fre (eT [w,h]),.fre (eL xs),.fre (.int T'),.no,.no,.no,.no,.no]
 walk_at "rd"
 refine ⟨k,bo,st,w,h,xs,T',rfl,hk,hs,p,hT,fun x hx _=>?_⟩
 walk_at "rd"
 refine sT rfl (dH _) ?_
 walk_at "rd"
 rw [Gx]
 walk_at "rd"
 refine .inr ⟨_,rfl,?_⟩
 walk_at "rd"
 generalize (1+if decide ((xs.length:Int) < 9)=true then (1:Int) else 0)=N
 refine cE (fun i S=>∃v6 v7 v8,S=[.fre (rl k bo st),.fre (eT [w,h]),.fre (eL xs),.fre (.int T'),.val (fE x),.val (eL xs),v6,v7,v8]) ⟨_,_,_,rfl⟩ ?_ ?_
 ·rintro i S2 hi ⟨v6,v7,v8,rfl⟩
  walk_at "rd"
  refine ⟨k,bo,st,w,h,xs,T',rfl,hk,hs,p,hT,fun y hy=>?_⟩
  obtain rfl:=hx.one (fun m=>lh p m) hy
  walk_at "rd"
  refine zb (b:=true) (by cases x <;> exact fun _ z=>nomatch z) (by cases x <;> rfl) ?_ (by cases x <;> rfl)
  walk_at "rc"
  refine sZ CM (x:=x) (y:=x) rfl ?_
  walk_at "rc"
  refine sZ eJ (x:=xs) (y:=xs) rfl ?_
  rcases hx.ok with ⟨t,rfl⟩ | rfl | ⟨m,n,x,y,rfl⟩
  ·unfold fE
   walk_at "rc"
   refine ⟨1,rfl,3,rfl,[.str "gone",.int t],rfl,rfl,(by simp [HT.sIx]),?_⟩
   rw [show cutD [D.str "gone",.int t] (some 1) (some 3)=[.int t] by rfl]
   walk_at "rc"
   refine eK (ds:=[.int t]) rfl rfl ?_
   walk_at "rc"
   refine li (xs:=[t]) (by simp) ?_
   walk_at "rc"
   exact ⟨_,_,_,rfl⟩
  ·unfold fE
   walk_at "rc"
   refine ⟨1,rfl,3,rfl,[.str "on"],rfl,rfl,(by simp [HT.sIx]),?_⟩
   rw [show cutD [D.str "on"] (some 1) (some 3)=[] by rfl]
   walk_at "rc"
   refine eK (ds:=[]) rfl rfl ?_
   walk_at "rc"
   refine li (xs:=[]) (by simp) ?_
   walk_at "rc"
   exact ⟨_,_,_,rfl⟩
  ·unfold fE
   walk_at "rc"
   refine ⟨1,rfl,3,rfl,[.str "comes",.int m,.int n,eT [x,y]],rfl,rfl,(by simp [HT.sIx]),?_⟩
   rw [show cutD [D.str "comes",.int m,.int n,eT [x,y]] (some 1) (some 3)=[.int m,.int n] by rfl]
   walk_at "rc"
   refine eK (ds:=[.int m,.int n]) rfl rfl ?_
   walk_at "rc"
   refine eK (ds:=[.int x,.int y]) rfl rfl ?_
   walk_at "rc"
   refine BU (ds:=[.int m,.int n]) rfl rfl (by simp) ?_
   walk_at "rc"
   refine li (xs:=[m,n,x,y]) (by simp) ?_
   walk_at "rc"
   exact ⟨_,_,_,rfl⟩
 ·rintro S2 ⟨v6,v7,v8,rfl⟩
  walk_at "rd"
  exact ⟨q,rfl⟩
end
end My
namespace My
open PySem L2 VL
theorem yz {t:VTS} {W:aT} (P:List Sl->Prop) (fin:∀S',P S'->W.nx S') (h:∀nx,(∀S',P S'->nx S')->t ⟨nx,W.rt,W.bk,W.ct⟩ S):t W S:=h W.nx fin
noncomputable def eB3 (bs:List Bool):D:=.tup (bs.map D.bl)
theorem yA:Enc 1 eB3:=AT.tup
noncomputable def pRz (c:Addr):List D->(D->Prop)->Prop:=fun ds R=>∃r x,ds=[r,x]/\NoS x/\R (.bl true)
noncomputable def bads (w h:Int):List D:=[.lst [.int 3,.int 3],eT [2,h],eT [w,41],eT [3],eT [w,h,3],.tup [.bl true,.int 5],.tup [.str "3",.int 3],.non,eT [0,0],eT [-3,4],eT [4,10 ^ Int.toNat 40],.int 5,.str "33",.tup []]
theorem yB {w h:Int} (hs:Sz w h):∀x∈bads w h,NoS x:=fun x hx=>by
 obtain ⟨s1,s2,s3,s4⟩:=hs
 have e40:(10 ^ Int.toNat 40:Int)=10000000000000000000000000000000000000000:=by decide
 have G:∀g:Int,3<=g->g<=40->∃g':Int,3<=g'/\g'<=40/\D.int g=D.int g':=fun g a b=>⟨g,a,b,rfl⟩
 have B:∀n:Int,¬(3<=n/\n<=40)->Od (.int n):=fun n hn=>.inl ⟨n,rfl,hn⟩
 unfold bads at hx
 simp only [Lu,List.not_mem_nil,or_false] at hx
 rcases hx with rfl | rfl | rfl | rfl | rfl | rfl | rfl | rfl | rfl | rfl | rfl | rfl | rfl | rfl
 ·exact .inl (.inr (.inr (.inr (.inr (.inl ⟨_,rfl⟩)))))
 ·exact .inr ⟨.int 2,.int h,rfl,.inr (.inl ⟨B 2 (by lia),G h s3 s4⟩)⟩
 ·exact .inr ⟨.int w,.int 41,rfl,.inl ⟨G w s1 s2,B 41 (by lia)⟩⟩
 ·exact .inl (.inr (.inr (.inr (.inr (.inr (.inl ⟨_,rfl,by decide⟩))))))
 ·exact .inl (.inr (.inr (.inr (.inr (.inr (.inl ⟨_,rfl,by simp⟩))))))
 ·exact .inr ⟨.bl true,.int 5,rfl,.inr (.inl ⟨.inr (.inl ⟨_,rfl⟩),G 5 (by lia) (by lia)⟩)⟩
 ·exact .inr ⟨.str "3",.int 3,rfl,.inr (.inl ⟨.inr (.inr (.inr (.inl ⟨_,rfl⟩))),G 3 (by lia) (by lia)⟩)⟩
 ·exact .inl (.inr (.inr (.inl rfl)))
 ·exact .inr ⟨.int 0,.int 0,rfl,.inr (.inr ⟨B 0 (by lia),B 0 (by lia)⟩)⟩
 ·exact .inr ⟨.int (-3),.int 4,rfl,.inr (.inl ⟨B (-3) (by lia),G 4 (by lia) (by lia)⟩)⟩
 ·exact .inr ⟨.int 4,.int (10 ^ Int.toNat 40),rfl,.inl ⟨G 4 (by lia) (by lia),B _ (by rw [e40];lia)⟩⟩
 ·exact .inl (.inl ⟨5,rfl⟩)
 ·exact .inl (.inr (.inr (.inr (.inl ⟨_,rfl⟩))))
 ·exact .inl (.inr (.inr (.inr (.inr (.inr (.inl ⟨_,rfl,by decide⟩))))))
section
variable {P:G2} {w:HJ} {K:Gn} {mg:Str->Option Gs} {base:Heap}
theorem CV {c_NoSize:Addr} (S:Src K mg "ring_fate" dM) (T:Txt mg) (EX_refuse_no_ring:nq P w K mg base 4 "refuse_no_ring" ["size"] (bdS c_NoSize 1 0)):nq P w K mg base 7 "ring_fate" ["rule","size","picture","most"] (bdS c_NoSize 4 1):=by
 refine zj S bJ (by walk_at "4") (fun ds C h=>h.1) fun f cdv A outer s H E hr TH=>⟨_,_,(xt TH EX_refuse_no_ring rfl hr (aa (ae 1 (pv 1)) ah)),?_⟩
 rintro ds C ⟨hl,rfl,x,hx,hn⟩
 obtain ⟨y,y2,y3,y4,rfl⟩:∃y y2 y3 y4,ds=[y,y2,y3,y4]:=by
  match ds,hl with
  | [y,y2,y3,y4],_=>exact ⟨y,y2,y3,y4,rfl⟩
 obtain rfl:y2=x:=by simpa using hx
 walk_at "sl"
 walk_at "rd"
 exact ⟨[y2],C,rfl,⟨rfl,rfl,y2,rfl,hn⟩,rfl⟩
theorem vM {c_CellError c_Folded c_Loud c_NoLine c_NoName c_NoNumber c_NoRest c_NoRule c_NoSize c_NoText c_NoThing c_Outside c_TooWide:Addr} (S:Src K mg "_law_is_refused" eZ) (T:Txt mg) (EX_ring_fate:nq P w K mg base 7 "ring_fate" ["rule","size","picture","most"] (bdS c_NoSize 4 1))
  (g_CellError:mg "CellError"=some (.ref c_CellError)) (g_ValueError:mg "ValueError"=none) (g_Folded:mg "Folded"=some (.ref c_Folded)) (g_Loud:mg "Loud"=some (.ref c_Loud)) (g_NoLine:mg "NoLine"=some (.ref c_NoLine)) (g_NoName:mg "NoName"=some (.ref c_NoName)) (g_NoNumber:mg "NoNumber"=some (.ref c_NoNumber)) (g_NoRest:mg "NoRest"=some (.ref c_NoRest)) (g_NoRule:mg "NoRule"=some (.ref c_NoRule)) (g_NoSize:mg "NoSize"=some (.ref c_NoSize)) (g_NoText:mg "NoText"=some (.ref c_NoText)) (g_NoThing:mg "NoThing"=some (.ref c_NoThing)) (g_Outside:mg "Outside"=some (.ref c_Outside)) (g_TooWide:mg "TooWide"=some (.ref c_TooWide))
  (y1:Mj K (.ref c_NoSize) (.ref c_CellError)=some true) (y2:eh K c_NoSize=true) (y3:Ik K (.ref c_NoSize) (.ref c_NoSize)=some true) (y4:Ik K (.ref c_NoSize) (.type "ValueError")=some true)
  (y5:PySem.W.kitAny K (.ref c_NoSize) [.ref c_Folded,.ref c_Loud,.ref c_NoLine,.ref c_NoName,.ref c_NoNumber,.ref c_NoRest,.ref c_NoRule,.ref c_NoText,.ref c_NoThing,.ref c_Outside]=some false) (y6:Ik K (.ref c_NoSize) (.ref c_TooWide)=some false):Has P w K mg base 8 "_law_is_refused" ["_law_told","_law_size_here"] (spP K (pRz c_NoSize)):=by
 refine bP S cA (by walk_at "2") (by walk_at "L") fun f cdv A outer s H E hr=>⟨_,_,(ai (az (i:=2) cA.nd rfl (GB rfl) (aw ah))
  (ai (B7 (xW qm (fun _ _ h=>h)) (xX (i:=3) (fun _ _ _ _ TH=>(uY (uN TH EX_ring_fate rfl hr (aa (ae 0 (pv 0)) (aa (ae 1 (pv 1)) (aa (aG (aV ah)) (aa af ah))))))) rfl g_CellError (fun y=>(ai (az (i:=4) cA.nd rfl (GB rfl) (xr (i:=3) rfl (cF g_Folded (cF g_Loud (cF g_NoLine (cF g_NoName (cF g_NoNumber (cF g_NoRest (cF g_NoRule (cF g_NoText (cF g_NoThing (cF g_Outside tS)))))))))) (by simp) rfl (GB rfl) (by rfl) T.isinstance_))
  (ak (az (i:=2) cA.nd rfl (GB rfl) (aw (aa (kF (i:=3) (c:=.ref c_NoSize) rfl rfl (hV (by rfl) g_NoSize rfl) rfl (GB rfl) (by rfl) T.isinstance_) (aa (kF (i:=3) (c:=.type "ValueError") rfl rfl (cY (by rfl) g_ValueError PyProof.Rows.Boot.«ValueError» rfl) rfl (GB rfl) (by rfl) T.isinstance_) (aa (Ds (ae 4 (pv 4)) (km (kF (i:=3) (c:=.ref c_TooWide) rfl rfl (hV (by rfl) g_TooWide rfl) rfl (GB rfl) (by rfl) T.isinstance_))) ah)))))))) (fun _ _ h=>h) rfl rfl rfl cA.nd rfl rfl))
  (ak (aD (eG (ko (K:=K) rfl hr.units) i3 (ae 2 (pv 2)) (aw (aa cO (aa cO (aa cO ah)))) (aO _)))))),?_⟩
 rintro ds R ⟨r,x,rfl,hx,q⟩
 walk_at "sl"
 walk_at "rd"
 refine .inr (B8 c_NoSize (GW rfl) y1 (fun Wc hW=>?_) ?_)
 ·show fY (lJ 0) _ [.val r,.val x,.val (D.tup []),.no,.no] _
  walk_at "rd"
  exact ⟨_,_,rfl,⟨rfl,rfl,x,rfl,hx⟩,hW⟩
 ·show rW _ _ _ [.no,.no,.no,.val (.exc (.ref c_NoSize)),.no]
  walk_at "rd"
  refine BH rfl y2 y5 ?_
  walk_at "rc"
  refine nu rfl y2 y3 ?_
  walk_at "rc"
  refine nu rfl y2 y4 ?_
  walk_at "rc"
  refine nu rfl y2 y6 ?_
  walk_at "rc"
  refine ⟨GW rfl,?_⟩
  dsimp only [List.set]
  walk_at "rd"
  refine oQ yA (x:=[true,true,false]) (y:=[true,true,false]) rfl ?_
  walk_at "rc"
  exact q
end
end My
namespace My
open PySem L2 VL
theorem yC (k:Int) (bo sy:List Int):flat (rl k bo sy)=true:=by
 show (true&&(flats (bo.map .int)&&(flats (sy.map .int)&&true)))=true
 rw [aN,aN]
 rfl
theorem vN {l:List D}:atI (l++[d]) (-1)=some d:=by
 have h:ixN (l++[d]).length (-1)=some l.length:=by
  unfold ixN
  rw [G6,LL,if_neg (by lia),if_pos (by lia)]
  congr 1
  lia
 unfold atI
 rw [h]
 show (l++[d])[l.length]?=some d
 simp
section
variable {P:G2} {w:HJ} {K:Gn} {mg:Str->Option Gs} {base:Heap}
theorem CW {c_NoSize:Addr} (S:Src K mg "law" Cv) (T:Txt mg) (e23_:Has P w K mg base 1 "_law_pen" ["_law_script","_law_k"] (spP K Ff)) (e5_:Has P w K mg base 2 "_law_rule" ["_law_pen_here"] (spI K 0 zP)) (e14_:Has P w K mg base 2 "_law_size" ["_law_pen_here"] (spI K 0 zQ)) (e20_:Has P w K mg base 2 "_law_picture" ["_law_pen_here","_law_size_here"] (spI K 0 FG)) (e0_:Has P w K mg base 1 "_law_draw" ["_law_pen_here","_law_many"] (spI K 0 jR)) (e7_:Has P w K mg base 8 "_law_right" ["_law_told","_law_size_here","_law_live","_law_most"] (spF K pRg)) (e8_:Has P w K mg base 8 "_law_is_refused" ["_law_told","_law_size_here"] (spP K (pRz c_NoSize))):Has P w K mg base 9 "law" ["_law_script"] (spP K yk):=by
 refine bP S ei (by walk_at "1") (by walk_at "L") fun f cdv A outer s H E hr=>⟨_,_,(ai (bN Hi rfl (aX rfl T.range (aa af ah)) (au (aq (i:=1) ei.nd rfl (GB rfl) (GB rfl))) (ai (wM (fun _ h=>cB (i:=2) ei.nd rfl (GB rfl) h) (Dw e23_ hr (aa (ae 0 (pv 0)) (aa (ae 1 (pv 1)) ah))))
  (ai (az (i:=3) ei.nd rfl (GB rfl) (aW e5_ hr (aa (ae 2 (pv 2)) ah)))
  (ai (az (i:=4) ei.nd rfl (GB rfl) (aW e14_ hr (aa (ae 2 (pv 2)) ah)))
  (ai (xw (i:=5) ei.nd rfl (GB rfl) (aW e20_ hr (aa (ae 2 (pv 2)) (aa (ae 4 (pv 4)) ah))))
  (ai (az (i:=6) ei.nd rfl (GB rfl) (aW e0_ hr (aa (ae 2 (pv 2)) (aa af ah))))
  (ai (bj (lK (mW (aQ lq aJ (aA fD bI (aH rfl (ae 4 (pv 4)) af (fun _ _=>rfl)) (aH rfl (ae 4 (pv 4)) af (fun _ _=>rfl))) af (aO _)) (kj (aQ eg g9 (aW e0_ hr (aa (ae 2 (pv 2)) (aa af ah))) af (aO _))))) (ak (az (i:=6) ei.nd rfl (GB rfl) (aW e0_ hr (aa (ae 2 (pv 2)) (aa af ah))))) aK)
  (ai (bj (eH (cK (uK e7_ hr (aa (aF (ae 3 (pv 3))) (aa (aF (ae 4 (pv 4))) (aa (ft 5 (pv 5)) (aa (aF (ae 6 (pv 6))) ah))))))) (ak (aD cO)) aK)
  (ai (az (i:=7) ei.nd rfl (GB rfl) (aG (aV (aa (aG (aV (aa af (aa af ah)))) (aa (aw (aa af (aa (aF (aH rfl (ae 4 (pv 4)) af (fun _ _=>rfl))) ah))) (aa (aw (aa (aF (aH rfl (ae 4 (pv 4)) af (fun _ _=>rfl))) (aa af ah))) (aa (aw (aa af ah)) (aa (aw (aa (aF (aH rfl (ae 4 (pv 4)) af (fun _ _=>rfl))) (aa (aF (aH rfl (ae 4 (pv 4)) af (fun _ _=>rfl))) (aa af ah)))) (aa (aw (aa cO (aa af ah))) (aa (aw (aa dY (aa af ah))) (aa iR ah)))))))))))
  (ai (az (i:=7) ei.nd rfl (GB rfl) (mx rfl (ae 7 (pv 7)) (kz (aa (aw (aa af (aa af ah))) (aa (aw (aa (iT fF af) (aa af ah))) (aa (aw (aa af (aa (aA mI bI af af) ah))) (aa af (aa dY (aa (aw ah) ah)))))))))
  (ai (az (i:=8) ei.nd rfl (GB rfl) (aW e0_ hr (aa (ae 2 (pv 2)) (aa (aZ (fB (K:=K) rfl) fA (by rfl) T.len_ du (aa (ae 7 (pv 7)) ah)) ah))))
  (ak (bN Hi rfl (bx rfl (kz (aa (aH rfl (ae 7 (pv 7)) (ae 8 (pv 8)) (fun _ _=>rfl)) (aa (aH rfl (ae 7 (pv 7)) (aA et aJ (ae 8 (pv 8)) af) (fun _ _=>rfl)) ah)))) (au (aq (i:=9) ei.nd rfl (GB rfl) (GB rfl))) (ak (bj (eH (cK (bD e8_ hr (aa (ae 3 (pv 3)) (aa (ae 9 (pv 9)) ah))))) (ak (aD cO)) aK)))))))))))))))
  (ak (aD cO))),?_⟩
 rintro ds R ⟨ns,rfl,hn,q⟩
 walk_at "sl"
 walk_at "rd"
 refine cE (fun i S=>∃v1 v2 v3 v4 v5 v6 v7 v8 v9,S=[.val (.lst (ns.map .int)),v1,v2,v3,v4,v5,v6,v7,v8,v9]) ⟨_,_,_,_,_,_,_,_,_,rfl⟩ ?_ ?_
 ·rintro i S2 hi ⟨v1,v2,v3,v4,v5,v6,v7,v8,v9,rfl⟩
  have hi':i < 3:=hi
  walk_at "rd"
  rw [IR]
  refine ⟨ns,i,rfl,by lia,fun x y=>⟨_,rfl,rfl,?_⟩⟩
  refine oG (ns:=[x,y,0]) rfl ?_
  walk_at "rd"
  refine ⟨0,rfl,⟨x,y,0,rfl,by lia,by lia⟩,by lia,fun k bo sy pn1 hk h1=>?_⟩
  walk_at "rd"
  refine ⟨_,rfl,h1,by lia,fun w h pn2 hs h2=>?_⟩
  obtain ⟨s1,s2,s3,s4⟩:=id hs
  walk_at "rd"
  refine ⟨_,w,h,rfl,hs,h2,by lia,fun xs pn3 p h3=>?_⟩
  walk_at "rd"
  refine xu (GW rfl) ?_
  dsimp only [Hg,Hk]
  walk_at "rd"
  refine ⟨_,8,rfl,h3,by lia,by lia,by lia,fun pn4 r4 h4 r4a r4b=>?_⟩
  walk_at "rd1"
  walk_at "rd1"
  walk_at "rd1"
  walk_at "rd1"
  refine yz (fun S'=>∃(T':Nat) (pn':List Int),T'<=61/\Pn 1900 pn'/\S'=[.val (.lst (ns.map .int)),.val (.int i),.pen none pn',.val (rl k bo sy),.val (eT [w,h]),.fre (eL xs),.val (.int T'),v7,v8,v9]) ?_ ?_
  ·rintro S' ⟨T',pn',hT,h5,rfl⟩
   walk_at "rd"
   refine cD (yC k bo sy) ?_
   walk_at "rd"
   refine ⟨k,bo,sy,w,h,xs,T',rfl,hk,hs,p,by lia,fun _=>?_⟩
   walk_at "rc"
   refine uU (GW rfl) ?_
   change AW (vgN 7) _ (.d (.lst (bads w h))) _
   have bl:(bads w h).length=14:=rfl
   have bn:=yB hs
   generalize bads w h=B at bl bn
   walk_at "rd"
   refine ⟨_,(B.length:Int),rfl,h5,by lia,by lia,by lia,fun pn6 r6 h6 r6a r6b=>?_⟩
   have at_:∀j:Int,-1<=j->j < B.length->∃x∈B,atI B j=some x:=fun j j0 j1=>by
    by_cases z:0<=j
    ·obtain ⟨n,rfl⟩:=HH z
     have hn:n < B.length:=by lia
     exact ⟨B[n],List.getElem_mem hn,fT (Gr hn)⟩
    ·obtain rfl:j=-1:=by lia
     obtain ⟨l,x,rfl⟩:∃l x,B=l++[x]:=⟨B.dropLast,B.getLast (fun z=>by rw [z] at bl;cases bl),(List.dropLast_concat_getLast _).symm⟩
     exact ⟨x,by simp,vN⟩
   obtain ⟨x1,m1,e1⟩:=at_ r6 (by lia) r6b
   obtain ⟨x2,m2,e2⟩:=at_ (r6-1) (by lia) (by lia)
   walk_at "rd"
   refine bU rfl rfl e1 ?_
   walk_at "rd"
   refine bU rfl rfl e2 ?_
   walk_at "rd"
   refine w9 ?_
   walk_at "rc"
   refine ⟨_,_,rfl,bn x1 m1,?_⟩
   walk_at "rc"
   refine ⟨_,_,rfl,bn x2 m2,?_⟩
   walk_at "rc"
   exact ⟨_,_,_,_,_,_,_,_,_,rfl⟩
  ·intro nx hnx
   obtain ⟨n4,rfl⟩:=HH r4a
   walk_at "rd"
   refine m3 (fun c1=>?_) (fun c1=>?_)
   ·walk_at "rd"
    refine ⟨_,8,rfl,h4,by lia,by lia,by lia,fun pn5 r5 h5 r5a r5b=>?_⟩
    walk_at "rd"
    refine cw (fun c2=>?_) (fun c2=>?_)
    ·walk_at "rd"
     refine ⟨_,61,rfl,h5,by lia,by lia,by lia,fun pn6 r6 h6 r6a r6b=>?_⟩
     obtain ⟨n6,rfl⟩:=HH r6a
     walk_at "rd"
     exact hnx _ ⟨n6,pn6,by lia,h6.le (by lia),rfl⟩
    ·walk_at "rd"
     exact hnx _ ⟨n4,pn5,by lia,h5.le (by lia),rfl⟩
   ·walk_at "rc"
    exact hnx _ ⟨n4,pn4,by lia,h4.le (by lia),rfl⟩
 ·rintro S2 ⟨v1,v2,v3,v4,v5,v6,v7,v8,v9,rfl⟩
  walk_at "rd"
  exact q
end
end My
namespace My
open PySem L2 VL
theorem CY {l:LM} {w:HJ} {h:Heap} {mg:Str->Option Gs} {fa:Addr} {a_OFFSETS:Addr} {c_NoSize:Addr}  {c_CellError:Addr}  {c_Folded:Addr}  {c_Loud:Addr}  {c_NoLine:Addr}  {c_NoName:Addr}  {c_NoNumber:Addr}  {c_NoRest:Addr}  {c_NoRule:Addr}  {c_NoText:Addr}  {c_NoThing:Addr}  {c_Outside:Addr}  {c_TooWide:Addr} (X:K.In h) (G:h.Ns GK mg) (hfa:mg "law"=some (.ref fa))
  (S0:Src K mg "_law_pen" u7) (S1:Src K mg "_law_draw" nQ) (S2:Src K mg "offsets" ji) (S3:Src K mg "comes" nO) (S4:Src K mg "is_quiet" jk) (S5:Src K mg "is_whole" jh) (S6:Src K mg "is_pair" kQ) (S7:Src K mg "is_ring_size" eV) (S8:Src K mg "refuse_no_ring" b7) (S9:Src K mg "refuse_no_ring" b7) (S10:Src K mg "ring_counts" dq) (S11:Src K mg "living_next" cI) (S12:Src K mg "ring_next" gQ) (S13:Src K mg "ring_moved" d8) (S14:Src K mg "rows_of" iA) (S15:Src K mg "pushed" kS) (S16:Src K mg "ring_key" eX) (S17:Src K mg "least_ring_move" cT) (S18:Src K mg "ring_fate" dM) (S19:Src K mg "ring_fate" dM) (S20:Src K mg "_law_rule" jl) (S21:Src K mg "_law_size" nR) (S22:Src K mg "_law_all" pK) (S23:Src K mg "_law_picture" dN) (S24:Src K mg "_law_steps" kX) (S25:Src K mg "_law_ring_next" cU) (S26:Src K mg "_law_led" u9) (S27:Src K mg "_law_least" iB) (S28:Src K mg "_law_due" vf) (S29:Src K mg "_law_right" iC) (S30:Src K mg "_law_is_refused" eZ) (S31:Src K mg "law" Cv)
  (n_OFFSETS:GV K GK "OFFSETS"=some (some (.ref a_OFFSETS))) (k_OFFSETS:okD K a_OFFSETS rows=true) (h_NoSize:GV K GK "NoSize"=some (some (.ref c_NoSize)))  (h_CellError:GV K GK "CellError"=some (some (.ref c_CellError)))  (h_Folded:GV K GK "Folded"=some (some (.ref c_Folded)))  (h_Loud:GV K GK "Loud"=some (some (.ref c_Loud)))  (h_NoLine:GV K GK "NoLine"=some (some (.ref c_NoLine)))  (h_NoName:GV K GK "NoName"=some (some (.ref c_NoName)))  (h_NoNumber:GV K GK "NoNumber"=some (some (.ref c_NoNumber)))  (h_NoRest:GV K GK "NoRest"=some (some (.ref c_NoRest)))  (h_NoRule:GV K GK "NoRule"=some (some (.ref c_NoRule)))  (h_NoText:GV K GK "NoText"=some (some (.ref c_NoText)))  (h_NoThing:GV K GK "NoThing"=some (some (.ref c_NoThing)))  (h_Outside:GV K GK "Outside"=some (some (.ref c_Outside)))  (h_TooWide:GV K GK "TooWide"=some (some (.ref c_TooWide))) (y0:GV K GK "ValueError"=some none) (y1:PySem.W.excIn K c_NoSize [.type "ValueError",.type "Exception",.type "BaseException",.type "object"] "ValueError.__new__"=true) (y2:Mj K (.ref c_NoSize) (.ref c_CellError)=some true) (y3:eh K c_NoSize=true) (y4:Ik K (.ref c_NoSize) (.ref c_NoSize)=some true) (y5:Ik K (.ref c_NoSize) (.type "ValueError")=some true) (y6:PySem.W.kitAny K (.ref c_NoSize) [.ref c_Folded,.ref c_Loud,.ref c_NoLine,.ref c_NoName,.ref c_NoNumber,.ref c_NoRest,.ref c_NoRule,.ref c_NoText,.ref c_NoThing,.ref c_Outside]=some false) (y7:Ik K (.ref c_NoSize) (.ref c_TooWide)=some false)
  (z0:GV K GK "len"=some none) (z1:GV K GK "range"=some none) (z2:GV K GK "abs"=some none) (z3:GV K GK "isinstance"=some none) (z4:GV K GK "int"=some none) (z5:GV K GK "bool"=some none) (z6:GV K GK "list"=some none) (z7:GV K GK "tuple"=some none) (z8:GV K GK "sorted"=some none) (z9:GV K GK "max"=some none) (z10:GV K GK "min"=some none) (z11:GV K GK "all"=some none) (z12:GV K GK "any"=some none) (z13:GV K GK "set"=some none) (z14:GV K GK "sum"=some none) (z15:GV K GK "str"=some none) :
  ∃fd:IU,(∀(s:Gv) (v:Gs),MR s fd ⟨[v],[]⟩ [("_law_script",v)])/\∀base:Heap,K.In base->base.Ns GK mg->iI l.prog w K mg base CX0 9 fa fd ["_law_script"] (spP K yk):=by
 have no:=fun {n:Str} (z:GV K GK n=some none)=>PySem.W.mg_none_of X G z
 have T:Txt mg:=⟨no z0,no z1,no z2,no z3,no z4,no z5,no z6,no z7,no z8,no z9,no z10,no z11,no z12,no z13,no z14,no z15⟩
 refine wq S31 hfa (fun _ _ _ _ _ _ _=>rfl) fun base=>?_
 have e23_:=Cw (P:=l.prog) (w:=w) (base:=base) S0 T
 have e0_:=yl (P:=l.prog) (w:=w) (base:=base) S1 T
 have e11_:=CD (P:=l.prog) (w:=w) (base:=base) S2 T  (HG X G n_OFFSETS) k_OFFSETS
 have e26_:=vD (P:=l.prog) (w:=w) (base:=base) S3 T
 have e15_:=vE (P:=l.prog) (w:=w) (base:=base) S4 T
 have e4_:=Fi (P:=l.prog) (w:=w) (base:=base) S5 T
 have e9_:=yn (P:=l.prog) (w:=w) (base:=base) S6 T e4_
 have e3_:=Fj (P:=l.prog) (w:=w) (base:=base) S7 T e9_
 have e1_:=CF (P:=l.prog) (w:=w) (base:=base) S8 T e3_
 have e30_:=yo (P:=l.prog) (w:=w) (base:=base) S9 T e3_ (HG X G h_NoSize) y1
 have e28_:=Fk (P:=l.prog) (w:=w) (base:=base) S10 T e11_
 have e16_:=Fo (P:=l.prog) (w:=w) (base:=base) S11 T e26_
 have e13_:=Fp (P:=l.prog) (w:=w) (base:=base) S12 T e1_ e16_ e28_
 have e6_:=Fq (P:=l.prog) (w:=w) (base:=base) S13 T e1_
 have e24_:=Fy (P:=l.prog) (w:=w) (base:=base) S14 T
 have e21_:=FA (P:=l.prog) (w:=w) (base:=base) S15 T
 have e17_:=FC (P:=l.prog) (w:=w) (base:=base) S16 T e24_ e21_
 have e27_:=FD (P:=l.prog) (w:=w) (base:=base) S17 T e6_
 have e10_:=FE (P:=l.prog) (w:=w) (base:=base) S18 T e1_ e13_ e15_ e17_ e27_
 have e29_:=CV (P:=l.prog) (w:=w) (base:=base) S19 T e30_
 have e5_:=yu (P:=l.prog) (w:=w) (base:=base) S20 T e0_
 have e14_:=yv (P:=l.prog) (w:=w) (base:=base) S21 T e0_
 have e2_:=CO (P:=l.prog) (w:=w) (base:=base) S22 T
 have e20_:=CP (P:=l.prog) (w:=w) (base:=base) S23 T e0_ e2_
 have e19_:=vL (P:=l.prog) (w:=w) (base:=base) S24 T
 have e18_:=CS (P:=l.prog) (w:=w) (base:=base) S25 T e2_ e19_
 have e12_:=CT (P:=l.prog) (w:=w) (base:=base) S26 T
 have e22_:=FL (P:=l.prog) (w:=w) (base:=base) S27 T e12_
 have e25_:=CU (P:=l.prog) (w:=w) (base:=base) S28 T e22_ e18_
 have e7_:=FO (P:=l.prog) (w:=w) (base:=base) S29 T e25_ e10_
 have e8_:=vM (P:=l.prog) (w:=w) (base:=base) S30 T e29_ (HG X G h_CellError) (no y0) (HG X G h_Folded) (HG X G h_Loud) (HG X G h_NoLine) (HG X G h_NoName) (HG X G h_NoNumber) (HG X G h_NoRest) (HG X G h_NoRule) (HG X G h_NoSize) (HG X G h_NoText) (HG X G h_NoThing) (HG X G h_Outside) (HG X G h_TooWide) y2 y3 y4 y5 y6 y7
 exact CW (P:=l.prog) (w:=w) (base:=base) S31 T e23_ e5_ e14_ e20_ e0_ e7_ e8_
theorem walk {l:LM} {q:G2} {loose:List Str} {XP:(Str->Option Gs)->Heap->Prop} {YP:HJ->Heap->Prop} {d:DefRec} {K:Params->Gn} (hn:l.most=some 63) (hdf:d.params.defaults=[])
  (hY:∀(w:HJ) (h:Heap),YP w h->(K w.params).In h)
  (F:∀(w:HJ) (mg:Str->Option Gs) (fa:Addr) (h:Heap),(K w.params).In h->h.Ns GK mg->mg d.name=some (.ref fa) ->
   ∃fd:IU,(∀(s:Gv) (u:Gs),MR s fd ⟨[u],[]⟩ [("_law_script",u)])/\∀base:Heap,(K w.params).In base->base.Ns GK mg->iI l.prog w (K w.params) mg base CX0 9 fa fd ["_law_script"] (spP (K w.params) yk)) :
  PySem.W.WalkO q loose XP YP l.row.toRowW d [] (fun f vs=>NK f vs):=
 L2.wm (n:=63) (k:=9) (x:="_law_script") (CX:=fun _=>CX0) (sp:=fun w=>spP (K w.params) yk) hn (by decide) hdf ⟨rfl,by decide,by decide,rfl⟩ hY F
  (fun _ _ a ns hl _ hS=>⟨_,fun d=>d=.bl true,.cons (Rep.of_sqL hS trivial (fun _=>trivial) Reps.ints) .nil,⟨ns,rfl,hl,rfl⟩,fun d v H' e _ r=>by subst e;cases r;rfl⟩) fun _ _ _ _ _ z=>z
end My
def PySem.W.Fast.tw1372774464200000828:Unit:=()
def PySem.W.Fast.tw5760778210475603651:Unit:=()
def PySem.W.Fast.tw121796946482902575:Unit:=()
def PySem.W.Fast.tw7396514426336031806:Unit:=()
def PySem.W.Fast.tw4698668597362145008:Unit:=()
def PySem.W.Fast.tw17631844742603696415:Unit:=()
def PySem.W.Fast.tw4027721228405282422:Unit:=()
def PySem.W.Fast.tw4932227807265248676:Unit:=()
def PySem.W.Fast.tw16715399466813738082:Unit:=()
def PySem.W.Fast.tw3958900311433264021:Unit:=()
def PySem.W.Fast.tw13145580781775217219:Unit:=()
def PySem.W.Fast.tw7671144853993187691:Unit:=()
def PySem.W.Fast.tw10843245113744739685:Unit:=()
def PySem.W.Fast.tw10414989245611490799:Unit:=()
def PySem.W.Fast.tw2547630902546069294:Unit:=()
def PySem.W.Fast.tw16400007058720715937:Unit:=()
def PySem.W.Fast.tw10337769344692085942:Unit:=()
def PySem.W.Fast.tw12079608342845582629:Unit:=()
def PySem.W.Fast.tw4551068461541779619:Unit:=()
def PySem.W.Fast.tw12358801436627881590:Unit:=()
def PySem.W.Fast.tw15602600350288698172:Unit:=()
def PySem.W.Fast.tw10293216359523225441:Unit:=()
def PySem.W.Fast.tw9368053411933218778:Unit:=()
def PySem.W.Fast.tw16261271826962508373:Unit:=()
def PySem.W.Fast.tw3244047405700682271:Unit:=()
def PySem.W.Fast.tw130210084579879971:Unit:=()
def PySem.W.Fast.tw6013360629348296124:Unit:=()
def PySem.W.Fast.tw10064317391708280966:Unit:=()
def PySem.W.Fast.tw7311963332038991784:Unit:=()
def PySem.W.Fast.tw6402569109145592846:Unit:=()
def PySem.W.Fast.tw12487124277312897703:Unit:=()
def PySem.W.Fast.tw1925578625489885915:Unit:=()
def PySem.W.Fast.tw16311576518426013902:Unit:=()
def PySem.W.Fast.tw7502714199024709924:Unit:=()
def PySem.W.Fast.tw8128356021319323478:Unit:=()
def PySem.W.Fast.tw10756013219498447220:Unit:=()
def PySem.W.Fast.tw4918764260103508817:Unit:=()
def PySem.W.Fast.tw2971104228579403065:Unit:=()
def PySem.W.Fast.tw1557706886230272899:Unit:=()
def PySem.W.Fast.tw11605243861778594272:Unit:=()
def PySem.W.Fast.tw17203455487643737672:Unit:=()
def PySem.W.Fast.tw11886982240163446469:Unit:=()
def PySem.W.Fast.tw15727761579110807839:Unit:=()
def PySem.W.Fast.tw5444004476486710647:Unit:=()
def PySem.W.Fast.tw964986621992081006:Unit:=()
def PySem.W.Fast.tw11916926667898169009:Unit:=()
def PySem.W.Fast.tw13500318136775476022:Unit:=()
def PySem.W.Fast.tw17011273029097155682:Unit:=()
def PySem.W.Fast.tw3859990758147159214:Unit:=()
def PySem.W.Fast.tw11056171247483268837:Unit:=()
def PySem.W.Fast.tw3009955237786730144:Unit:=()
def PySem.W.Fast.tw13027329957449597686:Unit:=()
def PySem.W.Fast.tw10801898957701246101:Unit:=()
def PySem.W.Fast.tw3129709047522887783:Unit:=()
def PySem.W.Fast.tw3432759361678724910:Unit:=()
def PySem.W.Fast.tw15989903963140632160:Unit:=()
open PySem PySem.W PyProof.Rows
set_option maxRecDepth 100000 in
set_option maxHeartbeats 0 in
theorem PySem.Challenge.cw_cellships_k25_fates_on_rings_holds : PySem.Challenge.rw_cellships_k25_fates_on_rings.Holds := by
 w_on;o_law;k_head;(case hw=>w_witness2)
 k_fill
 refine My.walk (l:=PySem.Challenge.rw_cellships_k25_fates_on_rings) rfl rfl (fun w h Y=>PySem.W.kIn_of Y) ?F
 case F=>
  intro w mg fa h KX G hmg
  refine' My.CY KX G hmg (L2.aP KX G ?a0 ?l0 ?c0 ?k0) (L2.aP KX G ?a1 ?l1 ?c1 ?k1) (L2.aP KX G ?a2 ?l2 ?c2 ?k2) (L2.aP KX G ?a3 ?l3 ?c3 ?k3) (L2.aP KX G ?a4 ?l4 ?c4 ?k4) (L2.aP KX G ?a5 ?l5 ?c5 ?k5) (L2.aP KX G ?a6 ?l6 ?c6 ?k6) (L2.aP KX G ?a7 ?l7 ?c7 ?k7) (L2.aP KX G ?a8 ?l8 ?c8 ?k8) (L2.aP KX G ?a9 ?l9 ?c9 ?k9) (L2.aP KX G ?a10 ?l10 ?c10 ?k10) (L2.aP KX G ?a11 ?l11 ?c11 ?k11) (L2.aP KX G ?a12 ?l12 ?c12 ?k12) (L2.aP KX G ?a13 ?l13 ?c13 ?k13) (L2.aP KX G ?a14 ?l14 ?c14 ?k14) (L2.aP KX G ?a15 ?l15 ?c15 ?k15) (L2.aP KX G ?a16 ?l16 ?c16 ?k16) (L2.aP KX G ?a17 ?l17 ?c17 ?k17) (L2.aP KX G ?a18 ?l18 ?c18 ?k18) (L2.aP KX G ?a19 ?l19 ?c19 ?k19) (L2.aP KX G ?a20 ?l20 ?c20 ?k20) (L2.aP KX G ?a21 ?l21 ?c21 ?k21) (L2.aP KX G ?a22 ?l22 ?c22 ?k22) (L2.aP KX G ?a23 ?l23 ?c23 ?k23) (L2.aP KX G ?a24 ?l24 ?c24 ?k24) (L2.aP KX G ?a25 ?l25 ?c25 ?k25) (L2.aP KX G ?a26 ?l26 ?c26 ?k26) (L2.aP KX G ?a27 ?l27 ?c27 ?k27) (L2.aP KX G ?a28 ?l28 ?c28 ?k28) (L2.aP KX G ?a29 ?l29 ?c29 ?k29) (L2.aP KX G ?a30 ?l30 ?c30 ?k30) (L2.aP KX G ?a31 ?l31 ?c31 ?k31) ?n0 ?m0 ?h0 ?h1 ?h2 ?h3 ?h4 ?h5 ?h6 ?h7 ?h8 ?h9 ?h10 ?h11 ?h12 ?y0 ?y1 ?y2 ?y3 ?y4 ?y5 ?y6 ?y7 ?z0 ?z1 ?z2 ?z3 ?z4 ?z5 ?z6 ?z7 ?z8 ?z9 ?z10 ?z11 ?z12 ?z13 ?z14 ?z15
  (case a0 | l0 | c0 | k0 | a1 | l1 | c1 | k1 | a2 | l2 | c2 | k2 | a3 | l3 | c3 | k3 | a4 | l4 | c4 | k4 | a5 | l5 | c5 | k5 | a6 | l6 | c6 | k6 | a7 | l7 | c7 | k7 | a8 | l8 | c8 | k8 | a9 | l9 | c9 | k9 | a10 | l10 | c10 | k10 | a11 | l11 | c11 | k11 | a12 | l12 | c12 | k12 | a13 | l13 | c13 | k13 | a14 | l14 | c14 | k14 | a15 | l15 | c15 | k15 | a16 | l16 | c16 | k16 | a17 | l17 | c17 | k17 | a18 | l18 | c18 | k18 | a19 | l19 | c19 | k19 | a20 | l20 | c20 | k20 | a21 | l21 | c21 | k21 | a22 | l22 | c22 | k22 | a23 | l23 | c23 | k23 | a24 | l24 | c24 | k24 | a25 | l25 | c25 | k25 | a26 | l26 | c26 | k26 | a27 | l27 | c27 | k27 | a28 | l28 | c28 | k28 | a29 | l29 | c29 | k29 | a30 | l30 | c30 | k30 | a31 | l31 | c31 | k31 | n0=>k_is)
  (case m0=>kernel_rfl)
  (case h0 | h1 | h2 | h3 | h4 | h5 | h6 | h7 | h8 | h9 | h10 | h11 | h12=>k_is)
  (case y0 | y1 | y2 | y3 | y4 | y5 | y6 | y7=>first | kernel_rfl | k_is)
  (case z0 | z1 | z2 | z3 | z4 | z5 | z6 | z7 | z8 | z9 | z10 | z11 | z12 | z13 | z14 | z15=>k_is)
#print axioms PySem.Challenge.cw_cellships_k25_fates_on_rings_holds
