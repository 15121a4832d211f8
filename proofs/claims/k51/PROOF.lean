import PyProof.Rows.All
import Wide.All
import OpenK.AllK
import Wide.FinOn
import Lean
import PyProof.EqAt
import PyProof.EqKinds
import PyProof.TupleCall
import PyProof.NeData
import PyProof.P3In
import PyProof.ListRange
import PyProof.TupleOfStr
import PyProof.Rows.SumAny
import PyProof.Rows.Range3
import PyProof.StrCalls
import PyProof.Rows.SetFrom
import PyProof.WalksMore
import PyProof.TupleOfSeq
import KE.KRevSl
import KE.KLam
import KE.KSortKey
import KE.KNestM
import OpenK.KOwn
import KE.KIsNot
import KE.KTryMore
import PyProof.DictTable
import PyProof.Rows.TupDisplay
import PyProof.ReprLen
import PyProof.ReprRoads
import KE.KDictOf
import PyProof.AttrMissHeap
import PyProof.NeKinds
import PyProof.ZipIter
import PyProof.DictCompW
import PyProof.DictItems
import PyProof.DictWalks
import PyProof.DictDisplay
import PyProof.ExcAttrAll.ValueError
import PyProof.TupleKey
import PyProof.IsRules
import KE.KDictList
import KE.KDictSum
import PyProof.FactsAll.set_1
import PyProof.FactsAll.set_2
import PySem.Challenge.RW_cellships_k51_whole_none_at_all
open PySem.W renaming Frag → Ed, nsIn → E9, kia_one → FF, fnOf → Gq, keepIn → Hz, mg_of → HQ, kitOne → IB, codeIn → IC, methodObj → IK, kitx_list → IL, kitx_dict → IM, cellsFrom_some → Jj, instObj → Jo, OpenLaw → Jw, lookIn → JT, kitx_tuple → Kh
open List renaming mem_append_right → Ee, length_map → Eh, getElem?_eq_getElem → Ei, mem_cons_self → Em, range → Eo, replicate → Ep, size_toArray → Ex, append_assoc → Ey, length_range → Ez, map_cons → EB, getElem?_set_ne → ED, mem_append_left → EF, getElem?_map → EH, map_append → EJ, getElem?_append_right → EK, mem_cons_of_mem → ES, getElem?_append_left → EX, cons_append → EY, map_map → EZ, take_append_drop → E1, getElem?_set_self → E3, length_append → E7, nil_append → E8, getD_eq_getElem?_getD → Fc, map_nil → Fd, map_congr_left → Fg, take_length → Fs, eq_nil_of_length_eq_zero → Fv, set_cons_zero → Fw, replicate_succ → FH, set_cons_succ → FN, find?_cons → FT, getElem?_eq_none → FV, length_filter_le → FW, append_nil → FY, getElem?_cons_succ → FZ, mem_of_getElem? → F0, length_cons → F5, getElem?_range → Gb, length_replicate → Gf, perm_append_comm → Gh, filter_append → Gk, mem_singleton → Gm, mem_of_mem_take → Gp, flatten_cons → Gr, drop_eq_nil_of_le → Gw, drop_eq_getElem_cons → Gy, ext_getElem? → GI, pairwise_map → GJ, getElem?_replicate → GM, flatMap_append → GO, length_take → GQ, range_succ → G0, filter_congr → G5, mem_of_mem_drop → G9, mem_flatMap → Hh, not_mem_nil → Hi, mem_cons → Hn, mem_filter → Hr, take_of_length_le → Hs, reverse_cons → Hv, getElem?_reverse → HH, getElem_mem → HK, map_flatMap → HN, filterMap_cons → HZ, length → Ia, foldl_cons → Ib, length_reverse → Ii, length_nil → Il, mem_map → IA, take_zero → ID, extract_eq_take_drop → IE, pairwise_iff_getElem → IG, eq_of_mem_replicate → IR, flatMap_cons → IW, cons_ne_nil → Jh, of_mem_zip → Jr, length_set → Js, length_singleton → Jt, sum_append → JK, pairwise_append → JN, getElem?_append → JP, nodup_nil → JX, drop_zero → JY, getElem_of_mem → J5, length_flatMap → J8, getD_cons_zero → J9, getD_cons_succ → Ka, length_take_le → Kb, take_add_one → Kv, getElem?_set → Ky, map → KN, map_id → KW, foldl → K3
open PySem renaming wpAny_bind → Ef, Value → Ej, Shared → El, wpAny_pure → Es, foldedSetIterable → EC, mainGlobals → EL, wpAny_mono → EN, starEach → EO, sizeLine → EW, Program → E2, model → Ff, bootBuiltins → Fk, mem_of_lookup → Fo, wpAny → Fp, wpAny_standAt → FD, World → FO, sizeLine_eq → FQ, wpAny_holding → FR, compareOp → FU, Around → F4, wpAny_newObj_type → F9, wpAny_comprehension_free → Gj, NameKind → Gx, wpAny_newFunctionEnv → Gz, sysModules → GB, wpAny_truthy_bool → GC, assignEach → GD, compEnvC → GN, swapsWith → GP, wpAny_call_entry → GS, codeAny_compStart_list → GV, letOwnedTupleGo → GX, theTreesLotGoes → GZ, FuncData → G2, wpAny_rule → G4, standAt → G6, holding → G7, codeAny → G8, Scope → Ha, assign → Hb, binaryOp → Hf, codeAny_loop → Hj, wpAny_passesOwn → Hk, behindInMarks → Hl, tupleKind_room_in1 → Ho, wpAny_callSpecial?_slot → Hq, wpAny_assign_Name → Hu, list_append → Hw, wpAny_noted → Hx, wpAny_dictEntries → Hy, compTurn → HB, backTo → HD, exec_Assign_Name_used → HG, attributeBase → HP, wpAny_newList → HR, call_meets → HY, DictEntry → Ic, again → Ip, wpAny_Call_Name_kw → Ir, comprehension → Ja, wpAny_askSetting → Jg, cLine → Ji, tupleKind → Jn, wpAny_execs_nil → Jq, noteFrame → Jx, codeAny_of_tree → Jz, wpAny_dictEpoch → JE, wpAny_isOneOf_keyiter → JF, wpAny_pyIter_revIter → JR, isTrue → JS, swapsWithSole → Ke, swappedStores → Kf, bindArgs → Ki, compPost → Kj, wpAny_notedAt → Kl, wpAny_attempt → Km, BindsTo → Kr, callerA → Kt, wpAny_pyIter_enum → Kx, truthy → Kz, pyNext → KC, pyIter → KD, codeAny_mono → KE, seqIndex_neg → KF, setItem → KO, seqIndex_of → KP, keywordEach → KQ, Keyword → KR, wpAny_mkInt → KU, Paired → KZ, builtinsNs → K0, wpAny_Name → K1, typeIs_int → K2, call → K4, checkCount → K5, hashInt → K6, intKind → K7, Operator → K8, Model → La, atKey → Lb, bindL → Lc, bindC → Ld
open PySem.Heap renaming get?_push_of_some → Eg, lt_size → EA, get?_push_size → EG, get?_update_other → FA, size_push → HA
open Nat renaming le_refl → Ek, lt_of_lt_of_le → EI, ne_of_lt → E5, le_of_ble_eq_true → Fb, le_trans → Fz, lt_irrefl → FC, zero_le → Ga, pow_le_pow_right → GA, le_succ → GY, lt_succ_self → Hg, le_of_eq → HF, zero_add → Iu, pow_succ → Iz, mul_le_mul → II, lt_trichotomy → IQ, add_assoc → Je, le_of_lt → Jp, succ_mul → Ju, min_eq_left → JA, two_pow_pos → JL, mul_le_mul_right → JQ, ble → J4, ne_of_gt → KB, add_zero → KL
open PyProof.Rows renaming wpS_bind → En, arrOf → Et, wpS_pure → Eu, Keyed → EE, pendingOf → EM, wpS_forRange → Fj, wpS_modify → FJ, callWith_type1 → FX, reverseSlice'_eq → F6, wpS_mono → F7, SortSt → F8, seqObj → GR, mirror → GU, failedOf → GW, SortKind → HC, wpS_get → HM, get?_update_seq → Ig, setArr → Iw, KeyOrd → IP, AllBare → IY, listUpdate_at → Jb, wpS_lift → Jd, subscriptTail_builtinR → Jk, entry_list_sort → Jy, sortedHeap → JM, slot_list_sort → JU, args_list_sort → JV, seqEpoch_at → J1, envOfC → J3, getElem?_mirror_all → J6, IntsAre → Ks, setPending → Kw, isTrue_plain → KA, plain_sorted → KG, entry_sorted → KH, args_sorted1 → KI, kind_sorted → KS, tail_any → K9
open Bool renaming false_ne_true → Er, and_eq_true → Fe, false_eq_true → Gi, eq_iff_iff → GF, false_and → Hc, true_and → HW
open Or renaming inl → Ew, inr → FS
open Option.some renaming inj → ER
open PySem.Value renaming ref → ET, none → FE, type → IJ, isInt → J0, int → Kc, bool → Kq
open List.cons renaming injEq → EU, inj → Kk
open PyProof.Rows.KeyOrd renaming kle_trans → E4, kle_of_klt → Ft, kle_refl → GH, klt_of_kle_of_klt → IU
open Array renaming length_toList → E6, toList_append → Fh, getElem?_toList → FG, getElem?_eq_getElem → Ge, getElem?_setIfInBounds → HU, getD_eq_getD_getElem? → Ij, toList_push → IV, getElem?_eq_none → Jm, reverse_reverse → JB, reverse_append → JO
open PySem.Builtin.Int renaming intBits → Fi
open PySem.NameKind renaming free → Fq, cell → I0
open PySem.PassesOwn renaming never → Fx
open Classical renaming byContradiction → Fy
open PySem.Obj renaming mapSeq → FI
open Int renaming toNat_natCast → FL, ediv_nonneg → Gv, zero_add → GK, fdiv_eq_ediv_of_nonneg → Iq, emod_lt_of_pos → Iy, pow_add → Jf, emod_nonneg → JH, pow_succ → JI, ediv_lt_of_lt_mul → JJ, pow_nonneg → JZ, natCast_nonneg → Kg, sub_add_cancel → Kn, le_of_lt → KM, one_mul → KY
open List.Perm renaming append_left → Gg, append_right → Ht, refl → IF
open List.Pairwise renaming imp_of_mem → Gn, nil → IN
open PySem.PyData renaming eqv → Gs, eqvAll → HS, depthAll → Ih, canLayAll0 → IS, canLay0 → JW, depth → KJ
open Ne renaming symm → Gu
open PySem.Builtin.List renaming listTooLong → GG
open PySem.Paired renaming length → GL
open False renaming elim → G1
open Function renaming comp_def → G3, comp → Hm
open PySem.Builtin renaming bitAnd → Hd
open PySem.Calls renaming call_function_entry → He, Name_function_global → Io, callWith_builtin → Jl
open PySem.Data renaming cell → HE, seq → IZ
open PySem.IsL renaming update → HJ
open PySem.Builtin.Dict_items renaming ownsTuple → HV
open True renaming intro → HX
open ForInStep renaming yield → Ie
open Array.Perm renaming refl → Ik
open PySem.Heap.SameBut renaming update → Im
open Option renaming isSome_map → IT
open PySem.F renaming plainAttrs_list → Jc
open PySem.W.Looks renaming of_pure → JC
open PySem.Str renaming ofString → JD
open PySem.Builtin.Dict renaming showsAll → JG
open Prod.mk renaming inj → J7
open Sum renaming inl → Ko, inr → Kp
open PyProof.Rows.SortSt renaming mk' → Ku
set_option Elab.async false
set_option linter.all false
set_option bootstrap.genMatcherCode false
set_option genSizeOf false
set_option maxRecDepth 100000
set_option maxHeartbeats 4000000
namespace L2
open PySem PySem.Spec PyProof.Rows
abbrev Key:=Sum Int Str
def wN:Key->Ej->Bool
 | .inl k,v=>J0 k v
 | .inr x,v=>Value.isStrOf x v
def DQ (w:FO):Key->Int
 | .inl k=>K6 k
 | .inr x=>hashStr w x
theorem bw:∀{k:Key} {v:Ej},wN k v=true->(∃i t,k=Ko i/\v=Kc i t)\/(∃x t,k=Kp x/\v=Value.str x t)
 | .inl i,v,h=>by
  obtain ⟨t,e⟩:=Value.isInt_shape (k:=i) (v:=v) h
  exact .inl ⟨i,t,rfl,e⟩
 | .inr x,v,h=>by
  obtain ⟨t,e⟩:=Value.isStrOf_shape (x:=x) (v:=v) h
  exact .inr ⟨x,t,rfl,e⟩
theorem yp (a b:Int):decide ((Ko a:Key)=Ko b)=(a==b):=by
 by_cases e:a=b
 ·subst e;simp
 ·have h:¬ (Ko a:Key)=Ko b:=fun q=>e (Sum.inl.inj q)
  rw [decide_eq_false h]
  exact (beq_eq_false_iff_ne.mpr e).symm
theorem yq (a b:Str):decide ((Kp a:Key)=Kp b)=decide (a=b):=by
 by_cases e:a=b
 ·subst e;simp
 ·have h:¬ (Kp a:Key)=Kp b:=fun q=>e (Sum.inr.inj q)
  rw [decide_eq_false h,decide_eq_false e]
theorem yr (a:Int) (b:Str):decide ((Ko a:Key)=Kp b)=false:=decide_eq_false (fun q=>nomatch q)
theorem yt (a:Str) (b:Int):decide ((Kp a:Key)=Ko b)=false:=decide_eq_false (fun q=>nomatch q)
def jq (prog:E2) (w:FO):PySem.KeyKind prog w Key where
 is:=wN
 hash:=DQ w
 inj:=fun v a b ha hb=>by
  rcases bw ha with ⟨i,t,rfl,rfl⟩ | ⟨x,t,rfl,rfl⟩
  ·rcases bw hb with ⟨j,u,rfl,e⟩ | ⟨y,u,rfl,e⟩
   ·injection e with e1 _;rw [e1]
   ·exact nomatch e
  ·rcases bw hb with ⟨j,u,rfl,e⟩ | ⟨y,u,rfl,e⟩
   ·exact nomatch e
   ·injection e with e1 _;rw [e1]
 byValue:=fun k v h=>by
  rcases bw h with ⟨i,t,rfl,rfl⟩ | ⟨x,t,rfl,rfl⟩ <;> rfl
 pyHash:=fun hv h=>by
  rcases bw hv with ⟨i,t,rfl,rfl⟩ | ⟨x,t,rfl,rfl⟩
  ·exact wpAny_pyHash_int h
  ·exact wpAny_pyHash_str h
 eqBool:=fun hu hv h=>by
  rcases bw hu with ⟨i,t,rfl,rfl⟩ | ⟨x,t,rfl,rfl⟩
  ·rcases bw hv with ⟨j,u,rfl,rfl⟩ | ⟨y,u,rfl,rfl⟩
   ·rw [yp] at h;exact wpAny_eqBool_int h
   ·rw [yr] at h;exact SeqAt.EqAt.int_str i t y u _ _ _ _ h
  ·rcases bw hv with ⟨j,u,rfl,rfl⟩ | ⟨y,u,rfl,rfl⟩
   ·rw [yt] at h;exact SeqAt.EqAt.str_int x t j u _ _ _ _ h
   ·rw [yq] at h;exact wpAny_eqBool_str h
 «strs»:=fun k x t v h=>by
  rcases bw h with ⟨i,u,rfl,e⟩ | ⟨y,u,rfl,e⟩
  ·exact nomatch e
  ·injection e with e1 _
   subst e1
   cases v <;> rfl
end L2
namespace L2
open PySem PySem.Spec PyProof.Rows
inductive V where
 | non | bl (b:Bool) | int (i:Int) | str (x:Str) | byt (b:Array UInt8) | flt (b:UInt64) | ref (a:Addr) | ty (n:String)
 deriving DecidableEq
def RelV:V->Ej->Prop
 | .non,u=>u=FE
 | .bl b,u=>u=Kq b
 | .int i,u=>∃t,u=Kc i t
 | .str x,u=>∃t,u=Value.str x t
 | .byt b,u=>∃t,u=Value.bytes b t
 | .flt b,u=>∃t,u=Value.float b t
 | .ref a,u=>u=ET a
 | .ty n,u=>u=IJ n
abbrev Vals:List V->List Ej->Prop:=KZ RelV
theorem Vals.length {xs:List V} {us:List Ej} (r:Vals xs us):xs.length=us.length:=GL r
theorem Vals.get:∀{xs:List V} {us:List Ej} {i:Nat} {x:V},Vals xs us->xs[i]?=some x->∃u,us[i]?=some u/\RelV x u
 | _,_,_,_,.nil,e=>by simp at e
 | _,_,0,_,.cons r _,e=>by simp at e;subst e;exact ⟨_,rfl,r⟩
 | _,_,i+1,x,.cons _ t,e=>by
  obtain ⟨u,h1,h2⟩:=Vals.get (i:=i) (x:=x) t (by simpa using e)
  exact ⟨u,by simpa using h1,h2⟩
theorem Vals.set {x:V} {u:Ej} (r:RelV x u):∀{xs:List V} {us:List Ej} (i:Nat),Vals xs us->Vals (xs.set i x) (us.set i u)
 | _,_,_,.nil=>.nil
 | _,_,0,.cons _ t=>.cons r t
 | _,_,i+1,.cons q t=>.cons q (Vals.set r i t)
theorem Vals.append:∀{xs ys:List V} {us ws:List Ej},Vals xs us->Vals ys ws->Vals (xs++ys) (us++ws)
 | _,_,_,_,.nil,s=>s
 | _,_,_,_,.cons r t,s=>.cons r (Vals.append t s)
theorem Vals.take:∀{xs:List V} {us:List Ej} (n:Nat),Vals xs us->Vals (xs.take n) (us.take n)
 | _,_,0,_=>.nil
 | _,_,_+1,.nil=>.nil
 | _,_,n+1,.cons r t=>.cons r (Vals.take n t)
theorem Vals.drop:∀{xs:List V} {us:List Ej} (n:Nat),Vals xs us->Vals (xs.drop n) (us.drop n)
 | _,_,0,r=>r
 | _,_,_+1,.nil=>.nil
 | _,_,n+1,.cons _ t=>Vals.drop n t
def RelO:Option V->Option Ej->Prop
 | some v,some u=>RelV v u
 | none,none=>True
 | _,_=>False
def KV {κ:Type}:List (κ×V)->List (κ×Ej)->Prop:=KZ fun (p:κ×V) (q:κ×Ej)=>p.1=q.1/\RelV p.2 q.2
def kV:Key->V
 | .inl i=>.int i
 | .inr x=>.str x
inductive HO where
 /-- a list -/
 | lst (xs:List V)
 /-- a tuple (never changes) -/
 | tup (xs:List V)
 /-- a dict whose keys are ints and texts;one whose keys are tuples of ints and texts (the empty one is both) -/
 | dK (kvs:List (Key×V)) | dT (kvs:List (List Key×V))
 /-- a set of ints: its members,its size -/
 | set (S:Int->Bool) (n:Nat)
 /-- an instance of the class at C,its dict at dx,its attributes -/
 | ins (C dx:Addr) (fs:List (Str×V))
 /-- the dict of the instance at x -/
 | own (x:Addr)
 /-- the dict of an exception -/
 | xd (fs:List (Str×V))
 /-- a bound method,f of x -/
 | met (f x:Addr)
 /-- a range object lo,lo+1,.. below hi -/
 | rng (lo hi:Int)
 /-- a thing that is known to the object (the script;a dict while a loop walks it): read,never written while it is so -/
 | frz (o:Obj) (u:HO)
 /-- a code object's table -/
 | tbl (ps:Array Ej)
 /-- any other thing,by what is true of its one object (a def of one's own: SetO a S n:=HO.ext fun h=>..) -/
 | ext (φ:Heap->Prop)
abbrev Hp:=Addr->Option HO
def upd (H:Hp) (a:Addr) (o:HO):Hp:=fun b=>if b=a then some o else H b
theorem aD {H:Hp} {a:Addr} {o:HO}:upd H a o a=some o:=by unfold upd;rw [if_pos rfl]
theorem aC {H:Hp} {a b:Addr} {o:HO} (h:b≠a):upd H a o b=H b:=by unfold upd;rw [if_neg h]
theorem aZ {H:Hp} {a b:Addr} {o:HO} (h:H a=some o) (h':H b=none):a≠b:=by
 intro e;subst e;rw [h] at h';cases h'
section
variable (P:E2) (w:FO)
def bG (H:Hp) (h:Heap) (a:Addr):HO->Prop
 | .lst xs=>xs.length<=EW/\∃(its:List Ej) (n:Nat),Vals xs its/\h.get? a=some { cls:=.type "list",data:=.seq its.toArray n }
 | .tup xs=>xs.length<=EW/\∃its:List Ej,Vals xs its/\IsTup h a its.toArray
 | .dK kvs=>kvs.length<=EW/\(a==GB)=false/\∃vs,KV kvs vs/\h.DictOf (jq P w) a vs
 | .dT kvs=>kvs.length<=EW/\(a==GB)=false/\∃xs:List (List Key×Addr×Ej),
   KZ (fun (p:List Key×V) (q:List Key×Addr×Ej)=>p.1=q.1/\H q.2.1=some (.tup (p.1.map kV))/\RelV p.2 q.2.2) kvs xs /\
   ∃o es ep,h.get? a=some o/\o.ExactDict/\o.data=.dict es ep/\es.toList=xs.map (entryOfKey (Jn (jq P w)))/\(xs.map (·.1)).Nodup
 | .set S n=>h.SetOf (K7 P w) a S n
 | .ins C dx fs=>H dx=some (.own a)/\fs.length<=1000/\dx≠a/\h.get? a=some (Jo C dx) /\
   ∃mA,h.Ns1 dx mA/\(∀f,RelO (fs.lookup f) (mA f))/\PySem.Within mA (fs.map (·.1))
 | .own _=>∃o,h.get? a=some o
 | .xd fs=>∃mA,h.Ns1 a mA/\∀f,RelO (fs.lookup f) (mA f)
 | .rng lo hi=>∃t u v,h.get? a=some { cls:=.type "range",data:=.fields #[.int lo t,.int hi u,.int 1 v] }
 | .frz o u=>h.get? a=some o/\bG H h a u
 | .tbl ps=>∃qs,h.get? a=some { cls:=.none,data:=.fields qs }/\TriplesOk qs.toList/\∀pos cv,codeAmong pos qs.toList=some cv->∃c q t,cv=.ref c/\H c=some (.own a)/\ps[0]?=some (.str q t)/\h.CodeRec cv q
 | .met f x=>h.get? a=some (IK (.ref f) (.ref x))
 | .ext φ=>φ h/\(∃o,h.get? a=some o)/\∀h1 h2:Heap,φ h1->(∀o,h1.get? a=some o->h2.get? a=some o)->φ h2
def HOk (H:Hp) (h:Heap):Prop:=∀a o,H a=some o->bG P w H h a o
end
section
variable {P:E2} {w:FO} {H H':Hp} {h h':Heap} {a:Addr} {o:HO}
theorem bG.lt (x:bG P w H h a o):a < h.objs.size:=by
 cases o with
 | lst xs=>obtain ⟨_,_,_,_,e⟩:=x;exact EA e
 | tup xs=>obtain ⟨_,_,_,p⟩:=x;exact p.lt
 | dK kvs=>obtain ⟨_,_,_,_,o,_,_,e,_⟩:=x;exact EA e
 | dT kvs=>obtain ⟨_,_,_,_,o,_,_,e,_⟩:=x;exact EA e
 | set S n=>obtain ⟨o,_,_,_,e,_⟩:=x;exact EA e
 | ins C dx fs=>obtain ⟨_,_,_,e,_⟩:=x;exact EA e
 | own y=>obtain ⟨_,e⟩:=x;exact EA e
 | xd fs=>obtain ⟨_,⟨_,_,_,e,_⟩,_⟩:=x;exact EA e
 | rng lo hi=>obtain ⟨_,_,_,e⟩:=x;exact EA e
 | frz ob u=>obtain ⟨e,_⟩:=x;exact EA e
 | tbl ps=>obtain ⟨_,e,_⟩:=x;exact EA e
 | met f y=>exact EA (show h.get? a=some _ from x)
 | ext φ=>obtain ⟨_,⟨_,e⟩,_⟩:=x;exact EA e
theorem Paired.mapP {α β:Type} {F G:α->β->Prop}:∀{l₁:List α} {l₂:List β},KZ F l₁ l₂->(∀a b,F a b->G a b)->KZ G l₁ l₂
 | _,_,.nil,_=>.nil
 | _,_,.cons r t,f=>.cons (f _ _ r) (Paired.mapP t f)
theorem bG.stay (x:bG P w H h a o) (k:∀b u,(b=a\/H b=some (.own a))->h.get? b=some u->h'.get? b=some u)
  (ho:∀b,H b=some (.own a)->H' b=some (.own a)) (ht:∀b xs,H b=some (.tup xs)->H' b=some (.tup xs)):bG P w H' h' a o:=by
 induction o with
 | lst xs=>obtain ⟨z,its,n,r,e⟩:=x;exact ⟨z,its,n,r,k _ _ (.inl rfl) e⟩
 | tup xs=>obtain ⟨z,its,r,ob,e,c⟩:=x;exact ⟨z,its,r,ob,k _ _ (.inl rfl) e,c⟩
 | dK kvs=>obtain ⟨z,y,vs,r,ob,es,ep,e,c⟩:=x;exact ⟨z,y,vs,r,ob,es,ep,k _ _ (.inl rfl) e,c⟩
 | dT kvs=>
  obtain ⟨z,y,xs,r,ob,es,ep,e,c⟩:=x
  exact ⟨z,y,xs,Paired.mapP r fun p q z=>⟨z.1,ht _ _ z.2.1,z.2.2⟩,ob,es,ep,k _ _ (.inl rfl) e,c⟩
 | set S n=>obtain ⟨ob,es,ep,t,e,c⟩:=x;exact ⟨ob,es,ep,t,k _ _ (.inl rfl) e,c⟩
 | ins C dx fs=>
  obtain ⟨d,z,ne,e,mA,⟨od,es,ep,e2,c⟩,r⟩:=x
  exact ⟨ho _ d,z,ne,k _ _ (.inl rfl) e,mA,⟨od,es,ep,k _ _ (.inr d) e2,c⟩,r⟩
 | own y=>obtain ⟨ob,e⟩:=x;exact ⟨ob,k _ _ (.inl rfl) e⟩
 | xd fs=>obtain ⟨mA,⟨od,es,ep,e,c⟩,r⟩:=x;exact ⟨mA,⟨od,es,ep,k _ _ (.inl rfl) e,c⟩,r⟩
 | rng lo hi=>obtain ⟨t,u,v,e⟩:=x;exact ⟨t,u,v,k _ _ (.inl rfl) e⟩
 | frz ob u ih=>obtain ⟨e,q⟩:=x;exact ⟨k _ _ (.inl rfl) e,ih q⟩
 | tbl ps=>
  obtain ⟨qs,e,t,f⟩:=x
  refine ⟨qs,k _ _ (.inl rfl) e,t,fun pos cv hc=>?_⟩
  obtain ⟨c,q,tk,rfl,ho',hq,c2,oc,vs,tq,ec,e1,r⟩:=f pos cv hc
  cases ec
  exact ⟨c,q,tk,rfl,ho _ ho',hq,c,oc,vs,tq,rfl,k _ _ (.inr ho') e1,r⟩
 | met f y=>
  have e:h.get? a=some (IK (.ref f) (.ref y)):=x
  show h'.get? a=some (IK (.ref f) (.ref y))
  exact k a _ (.inl rfl) e
 | ext φ=>obtain ⟨p,⟨o,e⟩,st⟩:=x;exact ⟨st _ _ p fun o q=>k _ _ (.inl rfl) q,⟨o,k _ _ (.inl rfl) e⟩,st⟩
theorem HOk.lt (x:HOk P w H h) (e:H a=some o):a < h.objs.size:=(x a o e).lt
theorem HOk.fresh (x:HOk P w H h) (e:h.objs.size<=a):H a=none:=by
 cases q:H a with
 | none=>rfl
 | some u=>exact absurd (EI (x.lt q) e) (FC _)
theorem HOk.kept (x:HOk P w H h) (k:∀b u,h.get? b=some u->h'.get? b=some u):HOk P w H h':=fun a o e=>
 (x a o e).stay (fun b u _ q=>k b u q) (fun _ q=>q) fun _ _ q=>q
theorem HOk.laid (x:HOk P w H h) (k:∀b u,h.get? b=some u->h'.get? b=some u) (hp:h.objs.size<=a) (new:bG P w (upd H a o) h' a o):HOk P w (upd H a o) h':=fun b u e=>by
 have hn:=x.fresh hp
 by_cases hb:b=a
 ·subst hb;rw [aD] at e;cases e;exact new
 ·rw [aC hb] at e
  exact (x b u e).stay (fun c v _ q=>k c v q) (fun c q=>by rw [aC (aZ q hn)];exact q) fun c xs q=>by rw [aC (aZ q hn)];exact q
end
def Rd (H:Hp) (a:Addr) (u:HO):Prop:=H a=some u\/∃o,H a=some (.frz o u)
theorem Rd.ok {P:E2} {w:FO} {H:Hp} {h:Heap} {a:Addr} {u:HO} (r:Rd H a u) (x:HOk P w H h):bG P w H h a u:=by
 rcases r with r | ⟨o,r⟩
 ·exact x a u r
 ·obtain ⟨_,q⟩:=x a _ r
  exact q
def Mut:Option HO->Prop
 | some (.lst _)=>True
 | some (.dK _)=>True
 | some (.dT _)=>True
 | some (.set _ _)=>True
 | some (.ins _ _ _)=>True
 | some (.ext _)=>True
 | _=>False
section
variable {P:E2} {w:FO} {H:Hp} {h h':Heap} {x e:Addr} {o':HO}
theorem HOk.write (ok:HOk P w H h) (mu:Mut (H x)) (he:e=x\/H e=some (.own x)) (k:∀b u,b≠e->h.get? b=some u->h'.get? b=some u) (heo:∃u,h'.get? e=some u)
  (new:bG P w (upd H x o') h' x o'):HOk P w (upd H x o') h':=fun b u q=>by
 have nown:∀c y,H c=some (.own y)->c≠x:=fun c y r z=>by subst z;rw [r] at mu;exact mu
 have ntup:∀c xs,H c=some (.tup xs)->c≠x:=fun c xs r z=>by subst z;rw [r] at mu;exact mu
 by_cases hb:b=x
 ·subst hb;rw [aD] at q;cases q;exact new
 ·rw [aC hb] at q
  by_cases hbe:b=e
  ·have q':H b=some (.own x):=by
    rcases he with z | z
    ·exact absurd (hbe.trans z) hb
    ·rw [hbe];exact z
   rw [q] at q';cases q'
   obtain ⟨v,hv⟩:=heo
   exact ⟨v,by rw [hbe];exact hv⟩
  ·refine (ok b u q).stay (fun c v hc r=>k c v ?_ r) (fun c r=>by rw [aC (nown c b r)];exact r) fun c xs r=>by rw [aC (ntup c xs r)];exact r
   rcases hc with rfl | hc
   ·exact hbe
   ·rintro rfl
    rcases he with z | z
    ·exact nown c b hc z
    ·rw [hc] at z;cases z;exact hb rfl
end
structure Un (fs ex:List Addr) (H H':Hp) (h h':Heap):Prop where
 keep:∀b o,h.get? b=some o->H b=none->b∉fs->b∉ex->h'.get? b=some o
 slot:∀b o,h.get? b=some o->H b=none->b∈fs->b∉ex->∃sl,h'.get? b=some { o with slots:=sl }
 free:∀b o,h.get? b=some o->H b=none->b∉ex->H' b=none
 there:∀b o,h.get? b=some o->b∉ex->∃o',h'.get? b=some o'
 tups:∀b xs,H b=some (.tup xs)->H' b=some (.tup xs)
 frzs:∀b o u,H b=some (.frz o u)->H' b=some (.frz o u)
 tbls:∀b ps,H b=some (.tbl ps)->∃more,H' b=some (.tbl (ps++more))
section
variable {fs fs' ex ex':List Addr} {H H1 H2:Hp} {h h1 h2 h':Heap} {a x e:Addr} {o:HO}
theorem Un.any (u:Un fs ex H H1 h h1) {b:Addr} {ob:Obj} (q:h.get? b=some ob) (n:H b=none) (hx:b∉ex):∃sl,h1.get? b=some { ob with slots:=sl }:=by
 by_cases hb:b∈fs
 ·exact u.slot b ob q n hb hx
 ·exact ⟨ob.slots,u.keep b ob q n hb hx⟩
theorem Un.kept (k:∀b u,h.get? b=some u->h'.get? b=some u):Un fs ex H H h h':=
 ⟨fun b ob q _ _ _=>k b ob q,fun b ob q _ _ _=>⟨ob.slots,k b ob q⟩,fun _ _ _ n _=>n,fun b ob q _=>⟨ob,k b ob q⟩,fun _ _ q=>q,fun _ _ _ q=>q,fun _ ps q=>⟨#[],by rw [q];simp⟩⟩
theorem Un.refl:Un fs ex H H h h:=Un.kept fun _ _ q=>q
theorem Un.laid (k:∀b u,h.get? b=some u->h'.get? b=some u) (hp:h.objs.size<=a) (hn:H a=none):Un fs ex H (upd H a o) h h' where
 keep:=fun b u q _ _ _=>k b u q
 slot:=fun b u q _ _ _=>⟨u.slots,k b u q⟩
 free:=fun b u q n _=>by rw [aC (E5 (EI (EA q) hp))];exact n
 there:=fun b u q _=>⟨u,k b u q⟩
 tups:=fun b xs q=>by rw [aC (aZ q hn)];exact q
 frzs:=fun b u xs q=>by rw [aC (aZ q hn)];exact q
 tbls:=fun b ps q=>⟨#[],by rw [aC (aZ q hn),q];simp⟩
theorem Un.write (mu:Mut (H x)) (he:e=x\/H e=some (.own x)) (k:∀b u,b≠e->h.get? b=some u->h'.get? b=some u) (heo:∃u,h'.get? e=some u):Un fs ex H (upd H x o) h h':=by
 have hx:∀b,H b=none->b≠x:=fun b n z=>by subst z;rw [n] at mu;exact mu
 have hb:∀b,H b=none->b≠e:=fun b n z=>by
  subst z
  rcases he with r | r
  ·exact hx b n r
  ·rw [n] at r;cases r
 have hm:∀b u,H b=some u->¬ Mut (some u)->b≠x:=fun b u q nm z=>by subst z;rw [q] at mu;exact nm mu
 refine ⟨fun b u q n _ _=>k b u (hb b n) q,fun b u q n _ _=>⟨u.slots,k b u (hb b n) q⟩,fun b u q n _=>by rw [aC (hx b n)];exact n,fun b u q _=>?_,
  fun b xs q=>by rw [aC (hm b _ q fun z=>z)];exact q,fun b u xs q=>by rw [aC (hm b _ q fun z=>z)];exact q,fun b ps q=>⟨#[],by rw [aC (hm b _ q fun z=>z),q];simp⟩⟩
 by_cases hbe:b=e
 ·subst hbe;exact heo
 ·exact ⟨u,k b u hbe q⟩
end
def trk (h:Heap) (H:Hp):List Addr:=(Eo h.objs.size).filter fun a=>(H a).isSome
def jr (h:Heap) (H:Hp):Heap:=PySem.W.hideAll h (trk h H)
theorem ot (h:Heap) (H:Hp):(jr h H).objs.size=h.objs.size:=PySem.W.hideAll_size _ _
theorem pL {h:Heap} {H:Hp} {b:Addr} {o:Obj} (e:h.get? b=some o) (n:H b=none):(jr h H).get? b=some o:=
 PySem.W.hideAll_get _ e fun hm=>by
  have q:(H b).isSome=true:=(List.mem_filter.mp hm).2
  rw [n] at q;simp at q
theorem tG {h:Heap} {H:Hp} {b:Addr} {o:Obj} (e:(jr h H).get? b=some o):h.get? b=some o/\H b=none:=by
 have e':h.get? b=some o:=PySem.W.of_hideAll (trk h H) e
 refine ⟨e',?_⟩
 cases q:H b with
 | none=>rfl
 | some x=>
  have hm:b∈trk h H:=List.mem_filter.mpr ⟨List.mem_range.mpr (EA e'),by simp [q]⟩
  have z:(jr h H).get? b=none:=PySem.W.hideAll_none (trk h H) hm
  rw [z] at e;cases e
def fq (g h:Heap) (L:Addr):List (Addr×Obj):=(Eo h.objs.size).filterMap fun a=>if a=L\/(g.get? a).isSome=true then none else (h.get? a).map fun o=>(a,o)
theorem kj {g h:Heap} {L a:Addr} {o:Obj} (h1:a≠L) (h2:g.get? a=none) (h3:h.get? a=some o):(a,o)∈fq g h L:=
 List.mem_filterMap.mpr ⟨a,List.mem_range.mpr (EA h3),by simp [h1,h2,h3]⟩
theorem gQ {g h:Heap} {L:Addr} {p:Addr×Obj} (hp:p∈fq g h L):p.1≠L/\g.get? p.1=none/\h.get? p.1=some p.2:=by
 obtain ⟨b,_,e⟩:=List.mem_filterMap.mp hp
 split at e
 ·cases e
 ·rename_i hn
  cases q:h.get? b with
  | none=>rw [q] at e;simp at e
  | some u=>
   rw [q] at e
   simp only [Option.map_some,Option.some.injEq] at e
   subst e
   refine ⟨fun z=>hn (.inl z),?_,q⟩
   show g.get? b=none
   cases r:g.get? b with
   | none=>rfl
   | some v=>exact (hn (.inr (by simp [r]))).elim
theorem pM {g h:Heap} {L:Addr}:News g L h (fq g h L):=fun p hp=>let ⟨a,b,c⟩:=gQ hp;⟨c,a,b⟩
end L2
namespace L2
open PySem PySem.Spec PyProof.Rows
structure Mod (K:Ed) (mg:Str->Option Ej) (base:Heap):Prop where
 kin:K.In base
 glob:base.Ns EL mg
 blt:∃mb,base.Ns K0 mb/\∀x:Str,x≠"__name__"->mb x=Fk x
 nolimit:base.NoLimit
structure Cx where
 prog:E2
 w:FO
 K:Ed
 mg:Str->Option Ej
 base:Heap
 A:F4
 N:List Str
 s₀:El
 H₀:Hp
 env:Env
 outer:List Env
 stack:List Env
 ex:List Addr
 fn:Str->Bool
 calm:Bool
 pn:List (Addr×Obj)
 xe:Ej->El->Prop
def frs (l:List Env):List Addr:=l.filterMap (·.frame)
abbrev Cx.fs (X:Cx):List Addr:=frs X.outer
def Vis (sc:Ha) (x:Str):Prop:=sc.names.lookup x=some .local\/sc.names.lookup x=some .cell\/sc.names.lookup x=some .free
def Loc (sc:Ha) (x:Str):Prop:=sc.names.lookup x=some .local\/sc.names.lookup x=some .cell
def Look (env:Env) (h:Heap) (m:Str->Option Ej) (x:Str) (u:Ej):Prop:=
 (env.kindOf x=some .local/\m x=some u)\/((env.kindOf x=some .cell\/env.kindOf x=some .free)/\∃c,env.cells.lookup x=some c/\h.IsCell c (some u))
structure Cx.Ok (X:Cx):Prop where
 mod:Mod X.K X.mg X.base
 kind:X.env.scope.kind=.function
 glob:X.env.globals=EL
 blt:X.env.builtins=K0
 above:X.s₀.heap.objs.size<=X.env.locals
 inj:∀x y c,X.env.cells.lookup x=some c->X.env.cells.lookup y=some c->x=y
 has:∀x,(X.env.kindOf x=some .cell\/X.env.kindOf x=some .free)->∃c,X.env.cells.lookup x=some c
 cab:∀x c,X.fn x=true->X.env.cells.lookup x=some c->X.s₀.heap.objs.size<=c
 hd:X.calm=true->X.A.handled=none
 frames:X.A.frames=some X.stack
 stk:X.stack=X.outer\/(X.stack=X.env::X.outer/\X.env.frame=some X.env.locals)
 exf:∀b∈X.ex,b≠X.env.locals/\∀x c,X.env.cells.lookup x=some c->c≠b
 bs:∀b o,X.base.get? b=some o->X.s₀.heap.get? b=some o/\X.H₀ b=none
 bsz:X.base.objs.size<=X.s₀.heap.objs.size
 noex:∀b o,X.base.get? b=some o->b∉X.ex
 exfs:∀b∈X.ex,b∉X.fs
 funs:X.s₀.heap.FunFrames X.base X.outer
 frf:∀b∈X.fs,X.H₀ b=none
structure Inv (X:Cx) (pins:List (Addr×Obj)) (σ:List (Option V)) (H:Hp) (s:El):Prop where
 ok:X.Ok
 os:s.os=X.s₀.os
 bare:IY s.gens
 base:Un X.fs X.ex X.H₀ H X.s₀.heap s.heap
 loc:∃m,s.heap.Ns X.env.locals m/\∀(i:Nat) (x:Str) (v:V),X.N[i]?=some x->σ[i]?=some (some v)->Vis X.env.scope x->∃u,RelV v u/\Look X.env s.heap m x u
 cell:∀x c,X.env.cells.lookup x=some c->∃v,s.heap.IsCell c v
 free:H X.env.locals=none
 freeC:∀x c,X.env.cells.lookup x=some c->H c=none
 pin:∀p∈X.pn++pins,s.heap.get? p.1=some p.2/\H p.1=none/\p.1≠X.env.locals/\p.1∉X.fs/\∀v,p.2.data≠.cell v
 hok:HOk X.prog X.w H s.heap
 len:σ.length=X.N.length
section
variable {X:Cx} {pins:List (Addr×Obj)} {σ:List (Option V)} {H H':Hp} {s:El} {h':Heap}
theorem Cx.Ok.nofr (ok:X.Ok) {b:Addr} {o:Obj} (e:X.base.get? b=some o):b∉X.fs:=fun hb=>by
 have:=(ok.funs.mem hb).1
 rw [e] at this;cases this
theorem Inv.bs (I:Inv X pins σ H s):∀b o,X.base.get? b=some o->s.heap.get? b=some o/\H b=none:=fun b o e=>
 ⟨I.base.keep b o (I.ok.bs b o e).1 (I.ok.bs b o e).2 (I.ok.nofr e) (I.ok.noex b o e),I.base.free b o (I.ok.bs b o e).1 (I.ok.bs b o e).2 (I.ok.noex b o e)⟩
theorem Inv.bk (I:Inv X pins σ H s):∀b o,X.base.get? b=some o->s.heap.get? b=some o:=fun b o e=>(I.bs b o e).1
theorem Inv.mod (I:Inv X pins σ H s):Mod X.K X.mg X.base:=I.ok.mod
theorem Inv.kIn (I:Inv X pins σ H s):X.K.In s.heap:=I.ok.mod.kin.keeps I.bk
theorem Inv.fr (I:Inv X pins σ H s):∃m,Fr X.base X.env.locals s.heap m:=
 let ⟨m,hn,_⟩:=I.loc
 ⟨m,hn,I.bk,Fz I.ok.bsz I.ok.above⟩
theorem Inv.lt (I:Inv X pins σ H s):X.env.locals < s.heap.objs.size:=let ⟨_,hn,_⟩:=I.loc;hn.lt
theorem Inv.sz (I:Inv X pins σ H s):X.s₀.heap.objs.size<=s.heap.objs.size:=Fz I.ok.above (Jp I.lt)
theorem Inv.nofs (I:Inv X pins σ H s) {a:Addr} (h:s.heap.objs.size<=a):a∉X.fs:=fun hb=>by
 obtain ⟨_,o,ho,_⟩:=I.ok.funs.mem hb
 exact absurd (EI (EA ho) (Fz I.sz h)) (FC _)
theorem Inv.cne (I:Inv X pins σ H s):∀x c,X.env.cells.lookup x=some c->c≠X.env.locals:=fun x c e z=>by
 obtain ⟨v,o,ho,hd⟩:=I.cell x c e
 obtain ⟨m,⟨o',es,ep,ho',hd',_⟩,_⟩:=I.loc
 rw [z,ho'] at ho;cases ho;rw [hd'] at hd;cases hd
theorem Inv.funs (I:Inv X pins σ H s):s.heap.FunFrames X.base X.outer:=by
 have all:∀(l:List Env),(∀b∈frs l,b∈X.fs)->X.s₀.heap.FunFrames X.base l->s.heap.FunFrames X.base l:=by
  intro l
  induction l with
  | nil=>intro _ _;trivial
  | cons env r ih=>
   intro hs hl
   obtain ⟨hk,⟨L,o,hf,hn,ho,hd⟩,hr⟩:=hl
   have hL:L∈X.fs:=hs L (by unfold frs;rw [HZ,hf];exact Em)
   obtain ⟨sl,e⟩:=I.base.slot L o ho (I.ok.frf L hL) hL fun z=>I.ok.exfs L z hL
   exact ⟨hk,⟨L,_,hf,hn,e,hd⟩,ih (fun b hb=>hs b (by unfold frs;rw [HZ,hf];exact ES _ hb)) hr⟩
 exact all X.outer (fun _ hb=>hb) I.ok.funs
theorem Inv.stack (I:Inv X pins σ H s):s.heap.FunFrames X.base X.stack:=by
 rcases I.ok.stk with e | ⟨e,hf⟩
 ·rw [e];exact I.funs
 ·rw [e]
  obtain ⟨m,hn,_⟩:=I.loc
  refine .cons (by rw [I.ok.kind];decide) hf hn ?_ I.funs
  exact Heap.get?_none_of_le (Fz I.ok.bsz I.ok.above)
theorem Inv.stkSub (I:Inv X pins σ H s):∀b∈frs X.stack,b∈X.env.locals::X.fs:=fun b hb=>by
 rcases I.ok.stk with e | ⟨e,hf⟩
 ·rw [e] at hb;exact ES _ hb
 ·rw [e] at hb
  unfold frs at hb
  rw [HZ,hf] at hb
  exact hb
theorem Inv.stkFree (I:Inv X pins σ H s):∀b∈frs X.stack,H b=none:=fun b hb=>by
 rcases List.mem_cons.mp (I.stkSub b hb) with e | hb
 ·rw [e];exact I.free
 ·obtain ⟨_,o,ho,_⟩:=I.ok.funs.mem hb
  exact I.base.free b o ho (I.ok.frf b hb) fun z=>I.ok.exfs b z hb
theorem Inv.step {g':Array GenState} {t':Nat} {d':Drawn} {ch:List Addr} (I:Inv X pins σ H s)
  (hch:∀b∈ch,(b∈X.ex\/X.s₀.heap.objs.size<=b)/\b≠X.env.locals/\(∀x c,X.env.cells.lookup x=some c->c≠b)/\∀p∈X.pn++pins,p.1≠b)
  (keep:∀b o,b≠X.env.locals->b∉X.fs->b∉ch->s.heap.get? b=some o->H b=none->h'.get? b=some o)
  (slot:∀b o,b≠X.env.locals->b∈X.fs->b∉ch->s.heap.get? b=some o->H b=none->∃sl,h'.get? b=some { o with slots:=sl }) (free:∀b o,b∉ch->s.heap.get? b=some o->H b=none->H' b=none)
  (there:∀b o,b∉ch->s.heap.get? b=some o->∃o',h'.get? b=some o')
  (tups:∀b xs,H b=some (.tup xs)->H' b=some (.tup xs)) (frzs:∀b o u,H b=some (.frz o u)->H' b=some (.frz o u)) (tbls:∀b ps,H b=some (.tbl ps)->∃more,H' b=some (.tbl (ps++more)))
  (ns:∀m,s.heap.Ns X.env.locals m->h'.Ns X.env.locals m) (hok:HOk X.prog X.w H' h') (hg:IY g') :
  Inv X pins σ H' { s with heap:=h',gens:=g',drawn:=d',toks:=t' }:=by
 have neL:∀b o,X.s₀.heap.get? b=some o->b≠X.env.locals:=fun b o e=>E5 (EI (EA e) I.ok.above)
 have neC:∀b o,X.s₀.heap.get? b=some o->b∉X.ex->b∉ch:=fun b o e hx hb=>by
  rcases (hch b hb).1 with z | z
  ·exact hx z
  ·exact absurd (EI (EA e) z) (FC _)
 have cellK:∀x c,X.env.cells.lookup x=some c->∀v,s.heap.IsCell c v->h'.IsCell c v:=fun x c e v ⟨o,ho,hd⟩=>by
  have nch:c∉ch:=fun z=>(hch c z).2.2.1 x c e rfl
  by_cases hc:c∈X.fs
  ·obtain ⟨sl,q⟩:=slot c o (I.cne x c e) hc nch ho (I.freeC x c e)
   exact ⟨_,q,hd⟩
  ·exact ⟨o,keep c o (I.cne x c e) hc nch ho (I.freeC x c e),hd⟩
 refine ⟨I.ok,I.os,hg,⟨fun b o e n hb hx=>?_,fun b o e n hb hx=>?_,fun b o e n hx=>?_,fun b o e hx=>?_,fun b xs e=>tups b xs (I.base.tups b xs e),fun b o xs e=>frzs b o xs (I.base.frzs b o xs e),fun b ps e=>?_⟩,?_,fun x c e=>?_,?_,fun x c e=>?_,fun p hp=>?_,hok,I.len⟩
 ·exact keep b o (neL b o e) hb (neC b o e hx) (I.base.keep b o e n hb hx) (I.base.free b o e n hx)
 ·obtain ⟨sl,e1⟩:=I.base.slot b o e n hb hx
  obtain ⟨sl',e2⟩:=slot b _ (neL b o e) hb (neC b o e hx) e1 (I.base.free b o e n hx)
  exact ⟨sl',e2⟩
 ·obtain ⟨o',e1⟩:=I.base.there b o e hx
  exact free b o' (neC b o e hx) e1 (I.base.free b o e n hx)
 ·obtain ⟨o',e1⟩:=I.base.there b o e hx
  exact there b o' (neC b o e hx) e1
 ·obtain ⟨m1,e1⟩:=I.base.tbls b ps e
  obtain ⟨m2,e2⟩:=tbls b _ e1
  exact ⟨m1++m2,by rw [e2,Array.append_assoc]⟩
 ·obtain ⟨m,hn,hl⟩:=I.loc
  refine ⟨m,ns m hn,fun i x v e1 e2 e3=>?_⟩
  obtain ⟨u,r,l⟩:=hl i x v e1 e2 e3
  refine ⟨u,r,?_⟩
  rcases l with l | ⟨k,c,e,z⟩
  ·exact .inl l
  ·exact .inr ⟨k,c,e,cellK x c e _ z⟩
 ·obtain ⟨v,z⟩:=I.cell x c e
  exact ⟨v,cellK x c e v z⟩
 ·obtain ⟨m,⟨o,_,_,ho,_⟩,_⟩:=I.loc
  exact free _ o (fun z=>(hch _ z).2.1 rfl) ho I.free
 ·obtain ⟨v,o,ho,hd⟩:=I.cell x c e
  exact free c o (fun z=>(hch c z).2.2.1 x c e rfl) ho (I.freeC x c e)
 ·obtain ⟨e,n,ne,nf,d⟩:=I.pin p hp
  have nch:p.1∉ch:=fun z=>(hch p.1 z).2.2.2 p hp rfl
  exact ⟨keep p.1 p.2 ne nf nch e n,free p.1 p.2 nch e n,ne,nf,d⟩
theorem Inv.un {t':Nat} (I:Inv X pins σ H s) (u:Un X.fs [] H H' s.heap h') (hok:HOk X.prog X.w H' h'):Inv X pins σ H' { s with heap:=h',toks:=t' }:=by
 obtain ⟨m,⟨o,es,ep,ho,r⟩,_⟩:=id I.loc
 obtain ⟨sl,hL⟩:=u.any ho I.free (by simp)
 exact I.step (g':=s.gens) (d':=s.drawn) (ch:=[]) (fun _ z=>nomatch z) (fun b o _ hb _ e n=>u.keep b o e n hb (by simp)) (fun b o _ hb _ e n=>u.slot b o e n hb (by simp)) (fun b o _ e n=>u.free b o e n (by simp)) (fun b o _ e=>u.there b o e (by simp)) u.tups u.frzs u.tbls (fun m' hm=>by
  obtain ⟨o',es',ep',ho',r'⟩:=hm
  rw [ho] at ho';cases ho'
  exact ⟨_,es',ep',hL,r'⟩) hok I.bare
theorem Inv.call {g':Array GenState} {t':Nat} {d':Drawn} {ch:List Addr} (I:Inv X pins σ H s) (u:Un (frs X.stack) ch H H' s.heap h') (hok:HOk X.prog X.w H' h') (hg:IY g')
  (hch:∀b∈ch,(b∈X.ex\/X.s₀.heap.objs.size<=b)/\b≠X.env.locals/\(∀x c,X.env.cells.lookup x=some c->c≠b)/\∀p∈X.pn++pins,p.1≠b) :
  Inv X pins σ H' { s with heap:=h',gens:=g',drawn:=d',toks:=t' }:=by
 obtain ⟨m,⟨o,es,ep,ho,r⟩,_⟩:=id I.loc
 obtain ⟨sl,hL⟩:=u.any ho I.free fun z=>(hch _ z).2.1 rfl
 exact I.step (ch:=ch) hch (fun b o hL hb hc e n=>u.keep b o e n (fun z=>(List.mem_cons.mp (I.stkSub b z)).elim hL hb) hc) (fun b o _ _ hc e n=>u.any e n hc) (fun b o hc e n=>u.free b o e n hc) (fun b o hc e=>u.there b o e hc) u.tups u.frzs u.tbls (fun m' hm=>by
  obtain ⟨o',es',ep',ho',r'⟩:=hm
  rw [ho] at ho';cases ho'
  exact ⟨_,es',ep',hL,r'⟩) hok hg
theorem Inv.turned {t':Nat} {it:Addr} (I:Inv X pins σ H s) (k:∀b o,b≠it->s.heap.get? b=some o->h'.get? b=some o) (hn:H it=none) (hL:it≠X.env.locals)
  (h1:it∈X.ex\/X.s₀.heap.objs.size<=it) (h2:∀x c,X.env.cells.lookup x=some c->c≠it) (h3:∀p∈X.pn++pins,p.1≠it):Inv X pins σ H { s with heap:=h',toks:=t' }:=by
 have nit:∀b u,H b=some u->b≠it:=fun b u e z=>by rw [z,hn] at e;cases e
 refine I.step (g':=s.gens) (d':=s.drawn) (ch:=[it]) (fun b hb=>?_) (fun b o _ _ hc e _=>k b o (fun z=>hc (by simp [z])) e) (fun b o _ _ hc e _=>⟨o.slots,k b o (fun z=>hc (by simp [z])) e⟩) (fun _ _ _ _ n=>n)
  (fun b o hc e=>⟨o,k b o (fun z=>hc (by simp [z])) e⟩) (fun _ _ e=>e) (fun _ _ _ e=>e) (fun b ps e=>⟨#[],by rw [e];simp⟩) (fun m hm=>?_) (fun b u e=>?_) I.bare
 ·have e:b=it:=by simpa using hb
  subst e
  exact ⟨h1,hL,h2,h3⟩
 ·obtain ⟨o,es,ep,ho,r⟩:=hm
  exact ⟨o,es,ep,k _ o (Gu hL) ho,r⟩
 ·refine (I.hok b u e).stay (fun c v hc q=>k c v ?_ q) (fun _ q=>q) fun _ _ q=>q
  rcases hc with z | z
  ·rw [z];exact nit b u e
  ·exact nit c _ z
theorem Inv.tok (I:Inv X pins σ H s) (t:Nat):Inv X pins σ H { s with toks:=t }:=I.un (h':=s.heap) (t':=t) Un.refl I.hok
theorem Inv.kept {t':Nat} (I:Inv X pins σ H s) (k:∀b u,s.heap.get? b=some u->h'.get? b=some u):Inv X pins σ H { s with heap:=h',toks:=t' }:=I.un (Un.kept k) (I.hok.kept k)
theorem Inv.laid {a:Addr} {o:HO} {t':Nat} (I:Inv X pins σ H s) (k:∀b u,s.heap.get? b=some u->h'.get? b=some u) (hp:s.heap.objs.size<=a) (new:bG X.prog X.w (upd H a o) h' a o) :
  Inv X pins σ (upd H a o) { s with heap:=h',toks:=t' }:=I.un (Un.laid k hp (I.hok.fresh hp)) (I.hok.laid k hp new)
theorem Inv.write {x e:Addr} {o:HO} {t':Nat} (I:Inv X pins σ H s) (mu:Mut (H x)) (he:e=x\/H e=some (.own x)) (k:∀b u,b≠e->s.heap.get? b=some u->h'.get? b=some u) (heo:∃u,h'.get? e=some u)
  (new:bG X.prog X.w (upd H x o) h' x o):Inv X pins σ (upd H x o) { s with heap:=h',toks:=t' }:=I.un (Un.write mu he k heo) (I.hok.write mu he k heo new)
theorem Inv.weak {σ':List (Option V)} (I:Inv X pins σ H s) (hl:σ'.length=σ.length) (w:∀(i:Nat) v,σ'[i]?=some (some v)->σ[i]?=some (some v)):Inv X pins σ' H s:=
 ⟨I.ok,I.os,I.bare,I.base,let ⟨m,hn,hl'⟩:=I.loc;⟨m,hn,fun i x v e1 e2 e3=>hl' i x v e1 (w i v e2) e3⟩,I.cell,I.free,I.freeC,I.pin,I.hok,hl.trans I.len⟩
theorem Inv.pins_of {pins':List (Addr×Obj)} (I:Inv X pins σ H s) (h:∀p∈pins',s.heap.get? p.1=some p.2/\H p.1=none/\p.1≠X.env.locals/\p.1∉X.fs/\∀v,p.2.data≠.cell v):Inv X pins' σ H s:=
 ⟨I.ok,I.os,I.bare,I.base,I.loc,I.cell,I.free,I.freeC,fun p hp=>(List.mem_append.mp hp).elim (fun z=>I.pin p (EF _ z)) (h p),I.hok,I.len⟩
theorem km {N:List Str} (hN:N.Nodup) {i j:Nat} {x:Str} (a:N[i]?=some x) (b:N[j]?=some x):i=j:=by
 obtain ⟨h1,e1⟩:=List.getElem?_eq_some_iff.mp a
 obtain ⟨h2,e2⟩:=List.getElem?_eq_some_iff.mp b
 exact (List.getElem_inj hN).mp (e1.trans e2.symm)
theorem eE {M:La} {A:F4} {E:Ej->El->Prop} {i:Nat} {x:Str} {v:V} {u:Ej} {Q:Unit->El->Prop} (I:Inv X pins σ H s) (hN:X.N.Nodup) (hi:X.N[i]?=some x) (hx:Loc X.env.scope x) (r:RelV v u)
  (h:∀s',Inv X pins (σ.set i (some v)) H s'->(∃a,Heap.SameBut a s.heap s'.heap/\(a=X.env.locals\/X.env.cells.lookup x=some a))->Q () s') (hf:X.fn x=true\/X.env.scope.names.lookup x=some .local:=by first | exact .inl rfl | exact .inr rfl | assumption):Fp M A (storeName X.env x u) Q E s:=by
 obtain ⟨m,hn,hl⟩:=id I.loc
 have hcls:(X.env.scope.kind==.class||(X.env.scope.kind==.module&&X.env.locals != X.env.globals))=false:=by rw [I.ok.kind];rfl
 have hiσ:i < σ.length:=by rw [I.len];exact (List.getElem?_eq_some_iff.mp hi).1
 have cne:=I.cne
 have tracked:∀{a:Addr} {h':Heap},(∃o,s.heap.get? a=some o/\H a=none)->Heap.SameBut a s.heap h'->HOk X.prog X.w H h':=fun {a h'} ha hs b ob e=>by
  obtain ⟨_,_,hfree⟩:=ha
  refine (I.hok b ob e).stay (fun c w' hc q=>(hs.2 c ?_).trans q) (fun _ q=>q) fun _ _ q=>q
  rintro rfl
  rcases hc with rfl | hc
  ·rw [hfree] at e;cases e
  ·rw [hfree] at hc;cases hc
 rcases hx with hk | hk
 ·refine wpAny_storeName_local hk hn (fun h' hn' hs=>?_) hcls
  obtain ⟨oL,_,_,hoL,_⟩:=id hn
  refine h _ ⟨I.ok,I.os,I.bare,⟨fun b o e n hb hx=>?_,fun b o e n hb hx=>?_,I.base.free,fun b o e hx=>?_,I.base.tups,I.base.frzs,I.base.tbls⟩,⟨_,hn',fun j y v' e1 e2 e3=>?_⟩,fun y c e=>?_,I.free,I.freeC,fun p hp=>?_,tracked ⟨oL,hoL,I.free⟩ hs,by simpa using I.len⟩ ⟨_,hs,.inl rfl⟩
  ·exact (hs.2 b (E5 (EI (EA e) I.ok.above))).trans (I.base.keep b o e n hb hx)
  ·obtain ⟨sl,e1⟩:=I.base.slot b o e n hb hx
   exact ⟨sl,(hs.2 b (E5 (EI (EA e) I.ok.above))).trans e1⟩
  ·obtain ⟨o',e1⟩:=I.base.there b o e hx
   exact ⟨o',(hs.2 b (E5 (EI (EA e) I.ok.above))).trans e1⟩
  ·by_cases hj:j=i
   ·subst hj
    rw [hi] at e1;cases e1
    rw [E3 hiσ] at e2
    cases e2
    exact ⟨u,r,.inl ⟨hk,by simp⟩⟩
   ·rw [ED (Gu hj)] at e2
    obtain ⟨u',r',q⟩:=hl j y v' e1 e2 e3
    refine ⟨u',r',?_⟩
    rcases q with ⟨k,e⟩ | ⟨k,c,e,z⟩
    ·refine .inl ⟨k,?_⟩
     have:y≠x:=fun e=>hj (km hN e1 (e▸hi))
     simp [this,e]
    ·exact .inr ⟨k,c,e,z.sameBut hs (cne y c e)⟩
  ·obtain ⟨w',z⟩:=I.cell y c e
   exact ⟨w',z.sameBut hs (cne y c e)⟩
  ·obtain ⟨e,n,ne,nf,d⟩:=I.pin p hp
   exact ⟨(hs.2 p.1 ne).trans e,n,ne,nf,d⟩
 ·have hfn:X.fn x=true:=by
   rcases hf with z | z
   ·exact z
   ·rw [z] at hk;cases hk
  obtain ⟨c,hc⟩:=I.ok.has x (.inl hk)
  obtain ⟨w',z⟩:=I.cell x c hc
  refine wpAny_storeName_cell I.ok.kind hk hc z (fun h' hc' hs=>?_)
  obtain ⟨oc,hoc,hocd⟩:=id z
  refine h { s with heap:=h' } ⟨I.ok,I.os,I.bare,⟨fun b o e n hb hx=>?_,fun b o e n hb hx=>?_,I.base.free,fun b o e hx=>?_,I.base.tups,I.base.frzs,I.base.tbls⟩,⟨m,hn.sameBut hs (Gu (cne x c hc)),fun j y v' e1 e2 e3=>?_⟩,fun y c' e=>?_,I.free,I.freeC,fun p hp=>?_,tracked ⟨oc,hoc,I.freeC x c hc⟩ hs,by simpa using I.len⟩ ⟨c,hs,.inr hc⟩
  ·exact (hs.2 b (E5 (EI (EA e) (I.ok.cab x c hfn hc)))).trans (I.base.keep b o e n hb hx)
  ·obtain ⟨sl,e1⟩:=I.base.slot b o e n hb hx
   exact ⟨sl,(hs.2 b (E5 (EI (EA e) (I.ok.cab x c hfn hc)))).trans e1⟩
  ·obtain ⟨o',e1⟩:=I.base.there b o e hx
   exact ⟨o',(hs.2 b (E5 (EI (EA e) (I.ok.cab x c hfn hc)))).trans e1⟩
  ·by_cases hj:j=i
   ·subst hj
    rw [hi] at e1;cases e1
    rw [E3 hiσ] at e2
    cases e2
    exact ⟨u,r,.inr ⟨.inl hk,c,hc,hc'⟩⟩
   ·rw [ED (Gu hj)] at e2
    obtain ⟨u',r',q⟩:=hl j y v' e1 e2 e3
    refine ⟨u',r',?_⟩
    rcases q with q | ⟨k,c',e,z'⟩
    ·exact .inl q
    ·refine .inr ⟨k,c',e,z'.sameBut hs ?_⟩
     rintro rfl
     exact hj (km hN e1 (I.ok.inj _ _ _ e hc▸hi))
  ·by_cases hcc:c'=c
   ·subst hcc;exact ⟨_,hc'⟩
   ·obtain ⟨w2,z2⟩:=I.cell y c' e
    exact ⟨w2,z2.sameBut hs hcc⟩
  ·obtain ⟨e,n,ne,nf,d⟩:=I.pin p hp
   refine ⟨(hs.2 p.1 ?_).trans e,n,ne,nf,d⟩
   intro q
   rw [q,hoc] at e
   have q':oc=p.2:=ER e
   exact d w' (by rw [<- q'];exact hocd)
theorem kn {M:La} {A:F4} {E:Ej->El->Prop} {i:Nat} {x:Str} {v:V} {u:Ej} {Q:Unit->El->Prop} (I:Inv X pins σ H s) (hN:X.N.Nodup) (hi:X.N[i]?=some x) (hx:Loc X.env.scope x) (r:RelV v u)
  (h:∀s',Inv X pins (σ.set i (some v)) H s'->Q () s') (hf:X.fn x=true\/X.env.scope.names.lookup x=some .local:=by first | exact .inl rfl | exact .inr rfl | assumption):Fp M A (storeName X.env x u) Q E s:=
 eE I hN hi hx r (fun s' I' _=>h s' I') hf
theorem Inv.call' {s':El} {ch:List Addr} (I:Inv X pins σ H s) (ho:s'.os=s.os) (u:Un (frs X.stack) ch H H' s.heap s'.heap) (hok:HOk X.prog X.w H' s'.heap) (hg:IY s'.gens)
  (hch:∀b∈ch,(b∈X.ex\/X.s₀.heap.objs.size<=b)/\b≠X.env.locals/\(∀x c,X.env.cells.lookup x=some c->c≠b)/\∀p∈X.pn++pins,p.1≠b):Inv X pins σ H' s':=by
 obtain ⟨h',g',d',t',o'⟩:=s'
 have e:o'=s.os:=ho
 subst e
 exact I.call (g':=g') (t':=t') (d':=d') u hok hg hch
end
abbrev XK:=Ej->Option Addr->Hp->Prop
abbrev St:=List (Option V)
abbrev VK:=V->Hp->Prop
abbrev TE:=St->Hp->VK->Prop
abbrev TT:=St->Hp->(Bool->Hp->Prop)->Prop
abbrev TA:=St->Hp->(List V->Hp->Prop)->Prop
structure Ends where
 nx:St->Hp->Prop
 rt:VK
 bk:St->Hp->Prop:=fun _ _=>False
 ct:St->Hp->Prop:=fun _ _=>False
abbrev TS:=Ends->St->Hp->Prop
def EP (X:Cx) (pins:List (Addr×Obj)) (σ:St) (Q:VK) (u:Ej) (s':El):Prop:=∃v H',Inv X pins σ H' s'/\RelV v u/\Q v H'
def TP (X:Cx) (pins:List (Addr×Obj)) (σ:St) (Q:Bool->Hp->Prop) (b:Bool) (s':El):Prop:=∃H',Inv X pins σ H' s'/\Q b H'
def AP (X:Cx) (pins:List (Addr×Obj)) (σ:St) (Q:List V->Hp->Prop) (us:List Ej) (s':El):Prop:=∃vs H',Inv X pins σ H' s'/\Vals vs us/\Q vs H'
def SP (X:Cx) (pins:List (Addr×Obj)) (D:Ends) (f:Flow) (s':El):Prop:=
 match f with
 | .next=>∃ σ' H',Inv X pins σ' H' s'/\D.nx σ' H'
 | .brk=>∃ σ' H',Inv X pins σ' H' s'/\D.bk σ' H'
 | .cont=>∃ σ' H',Inv X pins σ' H' s'/\D.ct σ' H'
 | .ret u=>∃v σ' H',Inv X pins σ' H' s'/\RelV v u/\D.rt v H'
def PE (X:Cx) (e:Expr) (t:TE):Prop:=
 ∀(pins:List (Addr×Obj)) (s:El) (σ:St) (H:Hp) (Q:VK),Inv X pins σ H s->t σ H Q->Fp (Ff X.prog X.w) X.A (eval e X.env) (EP X pins σ Q) X.xe s
def PT (X:Cx) (e:Expr) (t:TT):Prop:=
 ∀(pins:List (Addr×Obj)) (s:El) (σ:St) (H:Hp) (Q:Bool->Hp->Prop),Inv X pins σ H s->t σ H Q->Fp (Ff X.prog X.w) X.A (JS e X.env (eval e X.env)) (TP X pins σ Q) X.xe s
def PW (X:Cx) (e:Expr) (t:TT):Prop:=
 ∀(whole:Sem Ej) (pins:List (Addr×Obj)) (s:El) (σ:St) (H:Hp) (Q:Bool->Hp->Prop),Inv X pins σ H s->t σ H Q->Fp (Ff X.prog X.w) X.A (JS e X.env whole) (TP X pins σ Q) X.xe s
theorem PW.pt {X:Cx} {e:Expr} {t:TT} (h:PW X e t):PT X e t:=h _
def PA (X:Cx) (es:List Expr) (t:TA):Prop:=
 ∀(pos:Pos) (pins:List (Addr×Obj)) (s:El) (σ:St) (H:Hp) (Q:List V->Hp->Prop),Inv X pins σ H s->t σ H Q->Fp (Ff X.prog X.w) X.A (spliced (HD pos (EO es X.env))) (AP X pins σ Q) X.xe s
def PS (X:Cx) (st:Stmt) (t:TS):Prop:=
 ∀(pins:List (Addr×Obj)) (s:El) (σ:St) (H:Hp) (D:Ends),Inv X pins σ H s->t D σ H->Fp (Ff X.prog X.w) X.A (exec st X.env) (SP X pins D) X.xe s
def PSs (X:Cx) (st:List Stmt) (t:TS):Prop:=
 ∀(pins:List (Addr×Obj)) (s:El) (σ:St) (H:Hp) (D:Ends),Inv X pins σ H s->t D σ H->Fp (Ff X.prog X.w) X.A (execs st X.env) (SP X pins D) X.xe s
theorem thn {α:Type} {t:Sem α} {Q Q':α->El->Prop} {M:La} {A:F4} {E:Ej->El->Prop} {s:El} (h:Fp M A t Q E s) (hQ:∀a s,Q a s->Q' a s):Fp M A t Q' E s:=EN h hQ fun _ _ x=>x
end L2
namespace L2
open PySem PySem.Spec PyProof.Rows
section
variable {X:Cx}
def cP (i:Nat):TE:=fun σ H Q=>∃v,σ[i]?=some (some v)/\Q v H
def tC (v:V):TE:=fun _ H Q=>Q v H
theorem yu {i:Nat} {x:Str} {pos:Pos} (hN:X.N[i]?=some x) (hv:Vis X.env.scope x) (hd:(x==("__debug__":Str))=false:=by decide) (hcd:(x==("__classdict__":Str))=false:=by decide):PE X (.Name x pos) (cP i):=by
 intro pins s σ H Q I h
 obtain ⟨v,e,h⟩:=h
 obtain ⟨m,hn,hl⟩:=I.loc
 obtain ⟨u,r,l⟩:=hl i x v hN e hv
 have fin:EP X pins σ Q u s:=⟨v,H,I,r,h⟩
 rcases l with ⟨hk,hm⟩ | ⟨hk,c,hc,hcell⟩
 ·exact K1 (wpAny_loadName_local I.ok.kind hk hn hm fin) hd
 ·rcases hk with hk | hk
  ·exact K1 (wpAny_loadName_cell I.ok.kind hk hc hcell fin) hd
  ·exact K1 (wpAny_loadName_free I.ok.kind hk hc hcell fin hcd) hd
theorem pN {i j pos}:PE X (.Constant (.int i) j pos) (tC (.int i)):=fun _ _ _ H _ I h=>wpAny_Constant_int ⟨.int i,H,I.tok _,⟨_,rfl⟩,h⟩
theorem Bd {b j pos}:PE X (.Constant (.bool b) j pos) (tC (.bl b)):=fun _ _ _ H _ I h=>Constant_bool ⟨.bl b,H,I,rfl,h⟩
theorem yv {x j pos}:PE X (.Constant (.str x) j pos) (tC (.str x)):=fun _ _ _ H _ I h=>Calls.Constant_str ⟨.str x,H,I.tok _,⟨_,rfl⟩,h⟩
def Gl (X:Cx) (x:Str):Prop:=X.env.kindOf x=some .globalImplicit
theorem mS {E:Ej->El->Prop} {pins:List (Addr×Obj)} {s:El} {σ:St} {H:Hp} {x:Str} {u:Ej} {pos:Pos} {Q:Ej->El->Prop} (I:Inv X pins σ H s) (hg:Gl X x) (hm:X.mg x=some u) (h:Q u s)
  (hd:(x==("__debug__":Str))=false:=by decide):Fp (Ff X.prog X.w) X.A (eval (.Name x pos) X.env) Q E s:=
 Io I.ok.kind hg (Calls.loadGlobal_global (by rw [I.ok.glob];exact I.mod.glob.keeps I.bk) hm h) hd
theorem eS {E:Ej->El->Prop} {pins:List (Addr×Obj)} {s:El} {σ:St} {H:Hp} {x:Str} {u:Ej} {pos:Pos} {Q:Ej->El->Prop} (I:Inv X pins σ H s) (hg:Gl X x) (hm:X.mg x=none) (hv:Fk x=some u) (h:Q u s)
  (hn:x≠"__name__":=by decide) (hd:(x==("__debug__":Str))=false:=by decide):Fp (Ff X.prog X.w) X.A (eval (.Name x pos) X.env) Q E s:=by
 obtain ⟨mb,h1,h2⟩:=I.mod.blt
 exact Io I.ok.kind hg (Calls.loadGlobal_builtin (by rw [I.ok.glob];exact I.mod.glob.keeps I.bk) hm (by rw [I.ok.blt];exact h1.keeps I.bk) ((h2 x hn).trans hv) h) hd
theorem gv {x:Str} {v:V} {u:Ej} {pos:Pos} (hg:Gl X x) (hm:X.mg x=some u) (r:RelV v u) (hd:(x==("__debug__":Str))=false:=by decide):PE X (.Name x pos) (tC v):=
 fun _ _ _ H _ I h=>mS I hg hm ⟨v,H,I,r,h⟩ hd
theorem gw {x:Str} {v:V} {u:Ej} {pos:Pos} (hg:Gl X x) (hm:X.mg x=none) (hv:Fk x=some u) (r:RelV v u) (hn:x≠"__name__":=by decide) (hd:(x==("__debug__":Str))=false:=by decide):PE X (.Name x pos) (tC v):=
 fun _ _ _ H _ I h=>eS I hg hm hv ⟨v,H,I,r,h⟩ hn hd
variable {a b:Expr} {ta tb:TE} {pos:Pos}
def tB (t:TE):TT:=fun σ H Q=>t σ H fun x H1=>∃c,x=.bl c/\Q c H1
theorem yw {e:Expr} {t:TE} (h:PE X e t) (he:∀whole,JS e X.env whole=(do let v <- whole;G6 e.pos;G7 [v] (Kz v)):=by intro _;rfl):PT X e (tB t):=by
 intro pins s σ H Q I hw
 refine KA (thn (h pins s σ H _ I hw) fun v s1 zr1=>?_) (he _)
 obtain ⟨x,H1,I1,r1,q1⟩:=zr1
 obtain ⟨d,rfl,q⟩:=q1
 cases r1
 exact GC ⟨H1,I1,q⟩
variable {tA tB':TT} {rest:List Expr}
def Be (t u:TT):TT:=fun σ H Q=>t σ H fun c H1=>if c=true then u σ H1 Q else Q false H1
def tOr (t u:TT):TT:=fun σ H Q=>t σ H fun c H1=>if c=true then Q true H1 else u σ H1 Q
def Bf (t:TT):TT:=fun σ H Q=>t σ H fun c H1=>Q (!c) H1
theorem tI (ha:PT X a tA):PW X (.BoolOp .And [a] pos) tA:=by
 intro wh pins s σ H Q I h
 refine isTrue_and (thn (ha pins s σ H Q I h) fun c s1 e=>?_)
 cases c with
 | true=>exact isTrue_and_nil e
 | false=>exact e
theorem yx (ha:PT X a tA):PW X (.BoolOp .Or [a] pos) tA:=by
 intro wh pins s σ H Q I h
 refine isTrue_or (thn (ha pins s σ H Q I h) fun c s1 e=>?_)
 cases c with
 | false=>exact isTrue_or_nil e
 | true=>exact e
theorem yz (ha:PT X a tA) (hb:PW X (.BoolOp .And (b::rest) pos) tB'):PW X (.BoolOp .And (a::b::rest) pos) (Be tA tB'):=by
 intro wh pins s σ H Q I h
 refine isTrue_and (thn (ha pins s σ H _ I h) fun c s1 zr1=>?_)
 obtain ⟨H1,I1,q1⟩:=zr1
 cases c with
 | true=>exact hb wh pins s1 σ H1 Q I1 q1
 | false=>exact ⟨H1,I1,q1⟩
theorem Bg (ha:PT X a tA) (hb:PW X (.BoolOp .Or (b::rest) pos) tB'):PW X (.BoolOp .Or (a::b::rest) pos) (tOr tA tB'):=by
 intro wh pins s σ H Q I h
 refine isTrue_or (thn (ha pins s σ H _ I h) fun c s1 zr1=>?_)
 obtain ⟨H1,I1,q1⟩:=zr1
 cases c with
 | true=>exact ⟨H1,I1,q1⟩
 | false=>exact hb wh pins s1 σ H1 Q I1 q1
theorem yA (ha:PT X a tA):PT X (.UnaryOp .Not a pos) (Bf tA):=by
 intro pins s σ H Q I h
 exact isTrue_not (ha pins s σ H (fun c H1=>Q (!c) H1) I h)
def wO (ta tb:TE):TE:=fun σ H Q=>ta σ H fun x H1=>∃c,x=.bl c/\if c=true then tb σ H1 Q else Q (.bl false) H1
def wQ (ta:TE):TE:=fun σ H Q=>ta σ H fun x H1=>∃c,x=.bl c/\Q (.bl (!c)) H1
theorem yB {op} {t:TE} (h:PE X a t):PE X (.BoolOp op [a] pos) t:=fun pins s σ H Q I hw=>BoolOp_one (h pins s σ H Q I hw)
theorem yC (ha:PE X a ta) (hb:PE X (.BoolOp .And (b::rest) pos) tb):PE X (.BoolOp .And (a::b::rest) pos) (wO ta tb):=by
 intro pins s σ H Q I h
 refine BoolOp_and (thn (ha pins s σ H _ I h) fun v s1 zr1=>?_)
 obtain ⟨x,H1,I1,r1,q1⟩:=zr1
 obtain ⟨c,rfl,q1⟩:=q1
 cases r1
 refine GC ?_
 cases c with
 | true=>exact hb pins s1 σ H1 Q I1 q1
 | false=>exact ⟨.bl false,H1,I1,rfl,q1⟩
theorem yD (ha:PE X a ta):PE X (.UnaryOp .Not a pos) (wQ ta):=by
 intro pins s σ H Q I h
 refine UnaryOp_ (thn (ha pins s σ H _ I h) fun v s1 zr1=>?_)
 obtain ⟨x,H1,I1,r1,q1⟩:=zr1
 obtain ⟨c,rfl,q1⟩:=q1
 cases r1
 exact not_of (GC ⟨.bl (!c),H1,I1,rfl,q1⟩)
def tIf (t:TT) (ta tb:TE):TE:=fun σ H Q=>t σ H fun c H1=>if c=true then ta σ H1 Q else tb σ H1 Q
theorem pO {c:Expr} (hc:PT X c tA) (ha:PE X a ta) (hb:PE X b tb):PE X (.IfExp c a b pos) (tIf tA ta tb):=by
 intro pins s σ H Q I h
 refine wpAny_IfExp (thn (hc pins s σ H _ I h) fun d s1 zr1=>?_)
 obtain ⟨H1,I1,q1⟩:=zr1
 cases d with
 | true=>exact ha pins s1 σ H1 Q I1 q1
 | false=>exact hb pins s1 σ H1 Q I1 q1
end
end L2
namespace L2
open PySem PySem.Spec PyProof.Rows
def SqL (K:Ed) (H:Hp) (a:Addr) (xs:List V):Prop:=
 Rd H a (.lst xs) \/
  ∃(o:Obj) (its:Array Ej) (n:Nat),K.lookup a=some o/\o.cls=.type "list"/\o.dict=none/\o.data=.seq its n/\its.size<=EW/\Vals xs its.toList
def SqT (K:Ed) (H:Hp) (a:Addr) (xs:List V):Prop:=
 Rd H a (.tup xs) \/
  ∃(o:Obj) (its:Array Ej) (n:Nat),K.lookup a=some o/\o.cls=.type "tuple"/\o.data=.seq its n/\its.size<=EW/\Vals xs its.toList
def DR:Ej->Option V
 | .none=>some .non
 | .bool b=>some (.bl b)
 | .int i _=>some (.int i)
 | .str x _=>some (.str x)
 | .bytes b _=>some (.byt b)
 | .float b _=>some (.flt b)
 | .ref a=>some (.ref a)
 | .type n=>some (.ty n)
 | _=>none
theorem RelV.abs {x:V} {u:Ej} (r:RelV x u):DR u=some x:=by
 cases x with
 | non=>cases r;rfl
 | bl _=>cases r;rfl
 | int _=>obtain ⟨t,rfl⟩:=r;rfl
 | str _=>obtain ⟨t,rfl⟩:=r;rfl
 | byt _=>obtain ⟨t,rfl⟩:=r;rfl
 | flt _=>obtain ⟨t,rfl⟩:=r;rfl
 | ref _=>cases r;rfl
 | ty _=>cases r;rfl
theorem RelV.inj {x y:V} {u:Ej} (r:RelV x u) (q:RelV y u):x=y:=ER (r.abs.symm.trans q.abs)
theorem Vals.inj:∀{xs ys:List V} {us:List Ej},Vals xs us->Vals ys us->xs=ys
 | _,_,_,.nil,.nil=>rfl
 | _,_,_,.cons r t,.cons r' t'=>by rw [r.inj r',Vals.inj t t']
section
variable {X:Cx} {pins:List (Addr×Obj)} {σ:St} {H:Hp} {s:El} {a:Addr} {xs ys:List V}
theorem Inv.list (I:Inv X pins σ H s) (h:SqL X.K H a xs):∃its:List Ej,Vals xs its/\PlainL s.heap a its.toArray/\xs.length<=EW:=by
 rcases h with h | ⟨o,its,n,hk,hc,hd,hs,hz,r⟩
 ·obtain ⟨z,its,n,r,e⟩:=h.ok I.hok
  exact ⟨its,r,⟨_,n,e,rfl,rfl,rfl⟩,z⟩
 ·refine ⟨its.toList,r,⟨o,n,I.kIn a o hk,hc,hd,by simpa using hs⟩,?_⟩
  have e:=r.length
  simp only [E6] at e
  omega
theorem Inv.tuple (I:Inv X pins σ H s) (h:SqT X.K H a xs):∃its:List Ej,Vals xs its/\IsTup s.heap a its.toArray/\xs.length<=EW:=by
 rcases h with h | ⟨o,its,n,hk,hc,hs,hz,r⟩
 ·obtain ⟨z,its,r,p⟩:=h.ok I.hok
  exact ⟨its,r,p,z⟩
 ·refine ⟨its.toList,r,⟨o,I.kIn a o hk,hc,n,by simpa using hs⟩,?_⟩
  have e:=r.length
  simp only [E6] at e
  omega
theorem Inv.list_inj (I:Inv X pins σ H s) (h:SqL X.K H a xs) (h':SqL X.K H a ys):xs=ys:=by
 obtain ⟨its,r,⟨o,n,e,_,_,d⟩,_⟩:=I.list h
 obtain ⟨its',r',⟨o',n',e',_,_,d'⟩,_⟩:=I.list h'
 rw [e] at e';cases e'
 rw [d] at d'
 injection d' with d1 _
 have:its=its':=by simpa using congrArg Array.toList d1
 subst this
 exact r.inj r'
theorem Inv.tuple_inj (I:Inv X pins σ H s) (h:SqT X.K H a xs) (h':SqT X.K H a ys):xs=ys:=by
 obtain ⟨its,r,⟨o,e,_,n,d⟩,_⟩:=I.tuple h
 obtain ⟨its',r',⟨o',e',_,n',d'⟩,_⟩:=I.tuple h'
 rw [e] at e';cases e'
 rw [d] at d'
 injection d' with d1 _
 have:its=its':=by simpa using congrArg Array.toList d1
 subst this
 exact r.inj r'
end
abbrev Cx.wish (X:Cx) (E:Ej->El->Prop):Cx:={ X with xe:=E }
abbrev Cx.nox (X:Cx):Cx:=X.wish fun _ _=>False
theorem Cx.Ok.wish {X:Cx} (ok:X.Ok) (E:Ej->El->Prop):(X.wish E).Ok:=
 ⟨ok.mod,ok.kind,ok.glob,ok.blt,ok.above,ok.inj,ok.has,ok.cab,ok.hd,ok.frames,ok.stk,ok.exf,ok.bs,ok.bsz,ok.noex,ok.exfs,ok.funs,ok.frf⟩
theorem Cx.Ok.unwish {X:Cx} {E:Ej->El->Prop} (ok:(X.wish E).Ok):X.Ok:=
 ⟨ok.mod,ok.kind,ok.glob,ok.blt,ok.above,ok.inj,ok.has,ok.cab,ok.hd,ok.frames,ok.stk,ok.exf,ok.bs,ok.bsz,ok.noex,ok.exfs,ok.funs,ok.frf⟩
section
variable {X:Cx} {pins:List (Addr×Obj)} {σ:St} {H:Hp} {s:El} {E:Ej->El->Prop}
theorem Inv.wish (I:Inv X pins σ H s) (E:Ej->El->Prop):Inv (X.wish E) pins σ H s:=⟨I.ok.wish E,I.os,I.bare,I.base,I.loc,I.cell,I.free,I.freeC,I.pin,I.hok,I.len⟩
theorem Inv.unwish (I:Inv (X.wish E) pins σ H s):Inv X pins σ H s:=⟨I.ok.unwish,I.os,I.bare,I.base,I.loc,I.cell,I.free,I.freeC,I.pin,I.hok,I.len⟩
theorem SP.unwish {D:Ends} {f:Flow} {s':El} (h:SP (X.wish E) pins D f s'):SP X pins D f s':=by
 cases f with
 | next=>obtain ⟨σ',H',I,q⟩:=h;exact ⟨σ',H',I.unwish,q⟩
 | brk=>obtain ⟨σ',H',I,q⟩:=h;exact ⟨σ',H',I.unwish,q⟩
 | cont=>obtain ⟨σ',H',I,q⟩:=h;exact ⟨σ',H',I.unwish,q⟩
 | ret u=>obtain ⟨v,σ',H',I,r,q⟩:=h;exact ⟨v,σ',H',I.unwish,r,q⟩
theorem PSs.nox {st:List Stmt} {t:TS} (h:PSs X.nox st t):PSs X st t:=fun pins s σ H D I hw=>
 EN (h pins s σ H D (I.wish _) hw) (fun _ _ q=>q.unwish) fun _ _ z=>G1 z
end
section
variable {X:Cx} {st:Stmt} {rest:List Stmt} {t u:TS} {e:Expr} {te:TE} {pos:Pos}
def wR:TS:=fun D σ H=>D.nx σ H
def Bh (t u:TS):TS:=fun D σ H=>t { D with nx:=u D } σ H
theorem tJ:PSs X [] wR:=fun _ _ σ H _ I h=>Jq ⟨σ,H,I,h⟩
theorem pP (h1:PS X st t) (h2:PSs X rest u):PSs X (st::rest) (Bh t u):=by
 intro pins s σ H D I h
 refine wpAny_execs_cons (thn (h1 pins s σ H { D with nx:=u D } I h) fun f s1 q=>?_)
 cases f with
 | next=>
  obtain ⟨σ',H',I',q⟩:=q
  exact h2 pins s1 σ' H' D I' q
 | ret v=>exact q
 | brk=>exact q
 | cont=>exact q
theorem tK (h1:PS X st t):PSs X [st] t:=by
 intro pins s σ H D I h
 refine wpAny_execs_cons (thn (h1 pins s σ H D I h) fun f s1 q=>?_)
 cases f with
 | next=>exact Jq q
 | ret v=>exact q
 | brk=>exact q
 | cont=>exact q
theorem Inv.quiet {pins:List (Addr×Obj)} {σ:St} {H:Hp} {s:El} (I:Inv X pins σ H s):interactive X.env=false:=by simp [interactive,I.ok.kind]
def wU (te:TE):TS:=fun D σ H=>te σ H fun _ H1=>D.nx σ H1
theorem tL (he:PE X e te) (hs:GP e none pos.line X.env=pure false:=by rfl):PS X (.Expr e pos) (wU te):=by
 intro pins s σ H D I h
 exact wpAny_Expr_any (thn (he pins s σ H _ I h) fun v s1 zt1=>by obtain ⟨x,H1,I1,r1,q1⟩:=zt1;exact ⟨σ,H1,I1,q1⟩) I.quiet hs
def Bi (te:TE):TS:=fun D σ H=>te σ H D.rt
theorem yE (he:PE X e te):PS X (.Return (some e) pos) (Bi te):=by
 intro pins s σ H D I h
 exact wpAny_Return_some (thn (he pins s σ H _ I h) fun v s1 zt1=>by obtain ⟨x,H1,I1,r1,q1⟩:=zt1;exact ⟨x,σ,H1,I1,r1,q1⟩)
def Bj (c:TT) (t u:TS):TS:=fun D σ H=>c σ H fun b H1=>if b=true then t D σ H1 else u D σ H1
theorem Bk {c:Expr} {a b:List Stmt} {tc:TT} (hc:PT X c tc) (ha:PSs X a t) (hb:PSs X b u):PS X (.If c a b pos) (Bj tc t u):=by
 intro pins s σ H D I h
 refine wpAny_If (thn (hc pins s σ H _ I h) fun d s1 zr1=>?_)
 obtain ⟨H1,I1,q1⟩:=zr1
 cases d with
 | true=>exact ha pins s1 σ H1 D I1 q1
 | false=>exact hb pins s1 σ H1 D I1 q1
def pQ:TS:=fun _ _ _=>False
theorem pR:PS X st pQ:=fun _ _ _ _ _ _ h=>h.elim
end
abbrev TG:=V->St->Hp->(St->Hp->Prop)->Prop
abbrev TGs:=List V->St->Hp->(St->Hp->Prop)->Prop
def PG (X:Cx) (target:Expr) (t:TG):Prop:=
 ∀(pins:List (Addr×Obj)) (s:El) (σ:St) (H:Hp) (v:V) (u:Ej) (Q:St->Hp->Prop),Inv X pins σ H s->RelV v u->t v σ H Q ->
  Fp (Ff X.prog X.w) X.A (Hb target X.env u) (fun _ s'=>∃ σ' H',Inv X pins σ' H' s'/\Q σ' H') X.xe s
def PGs (X:Cx) (ts:List Expr) (t:TGs):Prop:=
 ∀(pins:List (Addr×Obj)) (s:El) (σ:St) (H:Hp) (vs:List V) (us:List Ej) (Q:St->Hp->Prop),Inv X pins σ H s->Vals vs us->t vs σ H Q ->
  Fp (Ff X.prog X.w) X.A (assignInOrder ((GD ts X.env).map (·.2)) us) (fun _ s'=>∃ σ' H',Inv X pins σ' H' s'/\Q σ' H') X.xe s
abbrev pS:=V->V->V->Hp->(Hp->Prop)->Prop
def yF (X:Cx) (t:pS):Prop:=
 ∀(pins:List (Addr×Obj)) (s:El) (σ:St) (H:Hp) (o i v:V) (ov iv u:Ej) (Q:Hp->Prop),Inv X pins σ H s->RelV o ov->RelV i iv->RelV v u->t o i v H Q ->
  Fp (Ff X.prog X.w) X.A (KO ov iv u) (fun _ s'=>∃H',Inv X pins σ H' s'/\Q H') X.xe s
abbrev TIp:=V->V->Hp->VK->Prop
def PIp (X:Cx) (op:K8) (t:TIp):Prop:=
 ∀(pins:List (Addr×Obj)) (s:El) (σ:St) (H:Hp) (x y:V) (v u:Ej) (Q:VK),Inv X pins σ H s->RelV x v->RelV y u->t x y H Q ->
  Fp (Ff X.prog X.w) X.A (inplaceOp op v u) (EP X pins σ Q) X.xe s
section
variable {X:Cx} {pos:Pos}
def aX (i:Nat):TG:=fun v σ H Q=>Q (σ.set i (some v)) H
theorem au {i:Nat} {x:Str} (hN:X.N.Nodup) (hi:X.N[i]?=some x) (hx:Loc X.env.scope x) (hf:X.fn x=true\/X.env.scope.names.lookup x=some .local:=by first | exact .inl rfl | exact .inr rfl | assumption):PG X (.Name x pos) (aX i):=by
 intro pins s σ H v u Q I r h
 exact Hu (kn I hN hi hx r (fun s' I'=>⟨_,H,I',h⟩) hf)
def tM:TGs:=fun vs σ H Q=>vs=[]/\Q σ H
def iQ (t:TG) (u:TGs):TGs:=fun vs σ H Q=>∃v r,vs=v::r/\t v σ H fun σ' H'=>u r σ' H' Q
theorem tN:PGs X [] tM:=by
 intro pins s σ H vs us Q I r h
 obtain ⟨e,h⟩:=h
 subst e
 cases r
 exact assignInOrder_nil ⟨σ,H,I,h⟩
theorem pT {e:Expr} {es:List Expr} {t:TG} {u:TGs} (h1:PG X e t) (h2:PGs X es u)
  (hs:(GD (e::es) X.env).map (·.2)=Hb e X.env::(GD es X.env).map (·.2):=by rfl):PGs X (e::es) (iQ t u):=by
 intro pins s σ H vs us Q I r h
 obtain ⟨v,vr,e1,h⟩:=h
 subst e1
 cases r with
 | cons r rr=>
  rw [hs]
  refine assignInOrder_cons (thn (h1 pins s σ H _ _ _ I r h) fun _ s1 zr1=>?_)
  obtain ⟨σ1,H1,I1,q1⟩:=zr1
  exact h2 pins s1 σ1 H1 _ _ Q I1 rr q1
def tO (K:Ed) (n:Nat) (t:TGs):TG:=fun v σ H Q=>∃a xs,v=.ref a/\SqT K H a xs/\xs.length=n/\t xs σ H Q
theorem yG {es:List Expr} {k:Nat} {t:TGs} {n:Nat} (hc:X.calm=true) (h:PGs X es t)
  (hn:(GD es X.env).length=n:=by rfl) (hst:(GD es X.env).findIdx? (·.1)=none:=by rfl):PG X (.Tuple es k pos) (tO X.K n t):=by
 intro pins s σ H v u Q I r hw
 obtain ⟨a,xs,e1,hq,hl,hw⟩:=hw
 subst e1
 cases r
 obtain ⟨its,rv,ht,hz⟩:=I.tuple hq
 refine assign_Tuple_tuple (I.ok.hd hc) ht (by simp [hn,<- hl,rv.length]) hst fun h' hx=>?_
 have I1:Inv X pins σ H { s with heap:=h' }:=I.kept (t':=s.toks) fun b o e=>hx b o (E5 (EA e)) e
 exact h pins _ σ H xs _ Q I1 (by simpa using rv) hw
def yH (to ti:TE) (t:pS):TG:=fun v σ H Q=>to σ H fun o H1=>ti σ H1 fun i H2=>t o i v H2 fun H3=>Q σ H3
theorem yI {o i:Expr} {to ti:TE} {t:pS} (ho:PE X o to) (hi:PE X i ti) (hs:yF X t)
  (ha:∀v,Hb (.Subscript o i pos) X.env v=(do
   let ov <- G7 [v] (eval o X.env)
   let iv <- G7 [v,ov] (eval i X.env)
   G6 pos
   G7 [v,ov,iv] (KO ov iv v)
   release [v,ov,iv] []):=by intro _;rfl):PG X (.Subscript o i pos) (yH to ti t):=by
 intro pins s σ H v u Q I r h
 rw [ha]
 refine Ef (FR (thn (ho pins s σ H _ I h) fun ov s1 zr1=>?_))
 obtain ⟨x,H1,I1,r1,q1⟩:=zr1
 refine Ef (FR (thn (hi pins s1 σ H1 _ I1 q1) fun iv s2 zr1=>?_))
 obtain ⟨y,H2,I2,r2,q2⟩:=zr1
 refine Ef (FD (Ef (FR (thn (hs pins s2 σ H2 x y v ov iv u _ I2 r1 r2 r q2) fun _ s3 zr1=>?_))))
 obtain ⟨H3,I3,q3⟩:=zr1
 exact wpAny_release ⟨σ,H3,I3,q3⟩
def cU (te:TE) (g:TG):TS:=fun D σ H=>te σ H fun x H1=>g x σ H1 D.nx
theorem pU {tg e:Expr} {te:TE} {g:TG} (he:PE X e te) (hg:PG X tg g) (hs:Ke [tg] e pos.line X.env=pure false:=by rfl) (hw:Kf [tg] e X.env=pure none:=by rfl)
  (h1:(GD [tg] X.env).map (·.2)=[Hb tg X.env]:=by rfl):PS X (.Assign [tg] e pos) (cU te g):=by
 intro pins s σ H D I h
 refine wpAny_Assign_stores (thn (he pins s σ H _ I h) fun v s1 zr1=>?_) hs hw
 obtain ⟨x,H1,I1,r1,q1⟩:=zr1
 rw [h1]
 exact thn (hg pins s1 σ H1 x v _ I1 r1 q1) fun _ s2 q=>q
theorem bQ {i:Nat} {x:Str} {e:Expr} {te:TE} {pos':Pos} (hN:X.N.Nodup) (hi:X.N[i]?=some x) (hx:Loc X.env.scope x) (he:PE X e te) (hs:GP e (some (.Name x pos')) pos.line X.env=pure false:=by rfl) (hf:X.fn x=true\/X.env.scope.names.lookup x=some .local:=by first | exact .inl rfl | exact .inr rfl | assumption) :
  PS X (.Assign [.Name x pos'] e pos) (cU te (aX i)):=by
 intro pins s σ H D I h
 refine wpAny_Assign_Name (thn (he pins s σ H _ I h) fun v s1 zr1=>?_) hs
 obtain ⟨y,H1,I1,r1,q1⟩:=zr1
 exact kn I1 hN hi hx r1 (fun s2 I2=>⟨_,H1,I2,q1⟩) hf
def wV (to ti te:TE) (tget:V->V->Hp->VK->Prop) (tip:TIp) (tset:pS):TS:=fun D σ H=>to σ H fun o H1=>ti σ H1 fun i H2=>tget o i H2 fun x H3=>te σ H3 fun y H4=>tip x y H4 fun z H5=>tset o i z H5 fun H6=>D.nx σ H6
def yJ (X:Cx) (t:V->V->Hp->VK->Prop):Prop:=
 ∀(pins:List (Addr×Obj)) (s:El) (σ:St) (H:Hp) (o i:V) (ov iv:Ej) (Q:VK),Inv X pins σ H s->RelV o ov->RelV i iv->t o i H Q ->
  Fp (Ff X.prog X.w) X.A (getItem ov iv) (EP X pins σ Q) X.xe s
theorem tP {o i e:Expr} {to ti te:TE} {tget:V->V->Hp->VK->Prop} {tip:TIp} {tset:pS} {op:K8} {tpos:Pos} (ho:PE X o to) (hi:PE X i ti) (hg:yJ X tget) (he:PE X e te) (hp:PIp X op tip) (hs:yF X tset)
  (ha:∀ov iv new,augStore i ov iv new=(do G7 [new,ov,iv] (KO ov iv new);release [new,ov,iv] [];pure .next):=by intros;rfl):PS X (.AugAssign (.Subscript o i tpos) op e pos) (wV to ti te tget tip tset):=by
 intro pins s σ H D I h
 refine wpAny_AugAssign_SubscriptAny (thn (ho pins s σ H _ I h) fun ov s1 zr1=>?_) ha
 obtain ⟨x1,H1,I1,r1,q1⟩:=zr1
 refine thn (hi pins s1 σ H1 _ I1 q1) fun iv s2 zr1=>?_
 obtain ⟨x2,H2,I2,r2,q2⟩:=zr1
 refine thn (hg pins s2 σ H2 x1 x2 ov iv _ I2 r1 r2 q2) fun old s3 zr1=>?_
 obtain ⟨x3,H3,I3,r3,q3⟩:=zr1
 refine thn (he pins s3 σ H3 _ I3 q3) fun v s4 zr1=>?_
 obtain ⟨x4,H4,I4,r4,q4⟩:=zr1
 refine thn (hp pins s4 σ H4 x3 x4 old v _ I4 r3 r4 q4) fun new s5 zr1=>?_
 obtain ⟨x5,H5,I5,r5,q5⟩:=zr1
 exact thn (hs pins s5 σ H5 x1 x2 x5 ov iv new _ I5 r1 r2 r5 q5) fun _ s6 zt1=>by obtain ⟨H6,I6,q6⟩:=zt1;exact ⟨σ,H6,I6,q6⟩
def ipI (f:Int->Int->Int):TIp:=fun x y H Q=>∃i j,x=.int i/\y=.int j/\Q (.int (f i j)) H
theorem yK:PIp X .Add (ipI fun i j=>i+j):=by
 intro pins s σ H x y v u Q I r1 r2 h
 obtain ⟨i,j,e1,e2,q⟩:=h
 subst e1;subst e2
 obtain ⟨t,rfl⟩:=r1
 obtain ⟨t',rfl⟩:=r2
 exact iadd_int ⟨.int _,H,I.tok _,⟨_,rfl⟩,q⟩
end
structure It where
 go:Nat->Hp->Prop
 yld:Nat->Hp->V->Hp->Prop
 stop:Nat->Hp->Prop
def dN (X:Cx) (pins:List (Addr×Obj)) (H:Hp) (b:Addr):Prop:=
 H b=none/\b≠X.env.locals/\b∉X.fs/\(b∈X.ex\/X.s₀.heap.objs.size<=b)/\(∀x c,X.env.cells.lookup x=some c->c≠b)/\∀p∈X.pn++pins,p.1≠b
theorem Inv.fpOk {X:Cx} {pins:List (Addr×Obj)} {σ:St} {H H':Hp} {s:El} {b:Addr} (I:Inv X pins σ H s) (hb:s.heap.objs.size<=b) (hn:H' b=none):dN X pins H' b:=by
 refine ⟨hn,KB (EI I.lt hb),I.nofs hb,.inr (Fz I.sz hb),fun x c e z=>?_,fun p hp z=>?_⟩
 ·obtain ⟨v,q⟩:=I.cell x c e
  exact absurd (EI q.lt (by rw [z];exact hb)) (FC _)
 ·exact absurd (EI (EA (I.pin p hp).1) (by rw [z];exact hb)) (FC _)
structure Turn (P:E2) (w:FO) (K:Ed) (tg:Expr) (J:It) (fp:List Addr) (it:Addr) (tn:Nat->Heap->Prop):Prop where
 mem:it∈fp
 obj:∀i h,tn i h->∀b∈fp,∃o,h.get? b=some o/\∀v,o.data≠.cell v
 keep:∀i h h',tn i h->(∀b∈fp,∀o,h.get? b=some o->h'.get? b=some o)->tn i h'
 item:∀(X:Cx),X.prog=P->X.w=w->X.K=K->X.calm=true->∀(i:Nat) (pins:List (Addr×Obj)) (s:El) (σ:St) (H:Hp) (E:Ej->El->Prop),Inv X pins σ H s->(∀b∈fp,dN X pins H b)->tn i s.heap->J.go i H ->
  Fp (Ff P w) X.A (KC (.ref it)) (fun r s1=>∃u,r=some u /\
   Fp (Ff P w) X.A (GX tg (.ref it) u) (fun _ s2=>∃x H',Inv X pins σ H' s2/\RelV x u/\J.yld i H x H'/\tn (i+1) s2.heap/\∀b∈fp,H' b=none) E s1) E s
 done:∀(X:Cx),X.prog=P->X.w=w->X.K=K->X.calm=true->∀(i:Nat) (pins:List (Addr×Obj)) (s:El) (σ:St) (H:Hp) (E:Ej->El->Prop),Inv X pins σ H s->(∀b∈fp,dN X pins H b)->tn i s.heap->J.stop i H ->
  Fp (Ff P w) X.A (KC (.ref it)) (fun r s1=>r=none/\Inv X pins σ H s1) E s
 self:∀(A:F4) (i:Nat) (s:El) (Q:Ej->El->Prop) (E:Ej->El->Prop),tn i s.heap->Q (.ref it) s->Fp (Ff P w) A (KD (.ref it)) Q E s
abbrev TI:=St->Hp->(It->Hp->Prop)->Prop
def PIE (X:Cx) (pins:List (Addr×Obj)) (σ:St) (tg:Expr) (R:It->Hp->Prop) (itv:Ej) (s2:El):Prop:=
 ∃(it:Addr) (fp:List Addr) (tn:Nat->Heap->Prop) (J:It) (H':Hp),itv=.ref it/\Inv X pins σ H' s2/\Turn X.prog X.w X.K tg J fp it tn/\tn 0 s2.heap/\(∀b∈fp,dN X pins H' b)/\R J H'
def PI (X:Cx) (tg iter:Expr) (wi:TI):Prop:=
 ∀(pins:List (Addr×Obj)) (s:El) (σ:St) (H:Hp) (R:It->Hp->Prop),Inv X pins σ H s->wi σ H R ->
  Fp (Ff X.prog X.w) X.A (eval iter X.env) (fun v s1=>Fp (Ff X.prog X.w) X.A (KD v) (PIE X pins σ tg R) X.xe s1) X.xe s
theorem mT {M:La} {A:F4} {E:Ej->El->Prop} {s:El} {tg:Expr} {it:Addr} {u:Ej} {o:Obj} {n:String} {vs:Array Ej} {Q:Unit->El->Prop} (ho:s.heap.get? it=some o) (hc:o.cls=.type n) (hd:o.data=.fields vs)
    (hn:["enumerate","zip","dict_itemiterator","dict_reverseitemiterator","odict_iterator","itertools.zip_longest","itertools.pairwise"].contains n=false) (hQ:Q () s):Fp M A (GX tg (.ref it) u) Q E s:=by
  unfold GX
  cases tg <;> first
    | exact Es hQ
    | (cases u <;> first
        | exact Es hQ
        | (refine Ef (wpAny_load ho ?_)
           rw [hc,hd]
           show Fp M A (if (["enumerate","zip","dict_itemiterator","dict_reverseitemiterator","odict_iterator","itertools.zip_longest","itertools.pairwise"].contains n&&vs[0]?==some (rawInt _))=true then _ else _) Q E s
           rw [if_neg (by intro h;rw [hn,Hc] at h;cases h)]
           exact Es hQ))
def Itl (K:Ed) (a:Addr):It:=
 ⟨fun i H=>∃xs x,SqL K H a xs/\xs[i]?=some x,fun i H x H'=>H'=H/\∀xs,SqL K H a xs->xs[i]?=some x,fun i H=>∃xs,SqL K H a xs/\xs.length<=i⟩
def Itt (K:Ed) (a:Addr):It:=
 ⟨fun i H=>∃xs x,SqT K H a xs/\xs[i]?=some x,fun i H x H'=>H'=H/\∀xs,SqT K H a xs->xs[i]?=some x,fun i H=>∃xs,SqT K H a xs/\xs.length<=i⟩
def Itr (lo:Int) (n:Nat):It:=⟨fun i _=>i < n,fun i H x H'=>H'=H/\x=.int (lo+i),fun i _=>n<=i⟩
theorem ou {P:E2} {w:FO} {K:Ed} {tg:Expr} (a it:Addr):Turn P w K tg (Itl K a) [it] it (fun i h=>h.IsListIter it a i) where
 mem:=by simp
 obj:=fun i h st b hb=>by
  have e:b=it:=by simpa using hb
  subst e
  obtain ⟨o,e,c,d⟩:=st
  exact ⟨o,e,fun v z=>by rw [d] at z;cases z⟩
 keep:=fun i h h' st k=>st.at fun o e=>k it (by simp) o e
 item:=by
  intro X hP hw hK hc i pins s σ H E I hf st hg
  subst hP hw hK
  obtain ⟨xs,x,hq,hx⟩:=hg
  obtain ⟨its,rv,p,hz⟩:=I.list hq
  obtain ⟨u,hu,ru⟩:=rv.get hx
  obtain ⟨f0,f1,f2,f3,f4,f5⟩:=hf it (by simp)
  refine wpAny_pyNext_list_item st p.isList (x:=u) (by simpa using hu) fun h' st' sb=>?_
  have I1:Inv X pins σ H { s with heap:=h' }:=I.turned (t':=s.toks) (fun b o hb e=>(sb.2 b hb).trans e) f0 f1 f3 f4 f5
  obtain ⟨o,e,c,d⟩:=id st'
  exact ⟨u,rfl,mT (s:={ s with heap:=h' }) e c d (by decide) ⟨x,H,I1,ru,⟨rfl,fun ys hy=>by rw [I.list_inj hy hq];exact hx⟩,st',fun b hb=>(hf b hb).1⟩⟩
 done:=by
  intro X hP hw hK hc i pins s σ H E I hf st hg
  subst hP hw hK
  obtain ⟨xs,hq,hx⟩:=hg
  obtain ⟨its,rv,p,hz⟩:=I.list hq
  obtain ⟨f0,f1,f2,f3,f4,f5⟩:=hf it (by simp)
  have hl:=rv.length
  exact wpAny_pyNext_list_end (I.ok.hd hc) st p.isList (by simp;omega) fun h' eb=>⟨rfl,I.turned (t':=s.toks) (fun b o hb e=>eb b o hb e) f0 f1 f3 f4 f5⟩
 self:=fun _ _ _ _ _ st h=>wpAny_pyIter_listiter st h
theorem lQ {P:E2} {w:FO} {K:Ed} {tg:Expr} (a it:Addr):Turn P w K tg (Itt K a) [it] it (fun i h=>h.IsTupleIter it a i) where
 mem:=by simp
 obj:=fun i h st b hb=>by
  have e:b=it:=by simpa using hb
  subst e
  obtain ⟨o,e,c,d⟩:=st
  exact ⟨o,e,fun v z=>by rw [d] at z;cases z⟩
 keep:=fun i h h' st k=>st.at fun o e=>k it (by simp) o e
 item:=by
  intro X hP hw hK hc i pins s σ H E I hf st hg
  subst hP hw hK
  obtain ⟨xs,x,hq,hx⟩:=hg
  obtain ⟨its,rv,p,hz⟩:=I.tuple hq
  obtain ⟨u,hu,ru⟩:=rv.get hx
  obtain ⟨f0,f1,f2,f3,f4,f5⟩:=hf it (by simp)
  refine wpAny_pyNext_tuple_item st (show s.heap.IsTuple a its.toArray from p) (x:=u) (by simpa using hu) fun h' st' sb=>?_
  have I1:Inv X pins σ H { s with heap:=h' }:=I.turned (t':=s.toks) (fun b o hb e=>(sb.2 b hb).trans e) f0 f1 f3 f4 f5
  obtain ⟨o,e,c,d⟩:=id st'
  exact ⟨u,rfl,mT (s:={ s with heap:=h' }) e c d (by decide) ⟨x,H,I1,ru,⟨rfl,fun ys hy=>by rw [I.tuple_inj hy hq];exact hx⟩,st',fun b hb=>(hf b hb).1⟩⟩
 done:=by
  intro X hP hw hK hc i pins s σ H E I hf st hg
  subst hP hw hK
  obtain ⟨xs,hq,hx⟩:=hg
  obtain ⟨its,rv,p,hz⟩:=I.tuple hq
  obtain ⟨f0,f1,f2,f3,f4,f5⟩:=hf it (by simp)
  have hl:=rv.length
  exact wpAny_pyNext_tuple_end (I.ok.hd hc) st (show s.heap.IsTuple a its.toArray from p) (by simp;omega) fun h' eb=>⟨rfl,I.turned (t':=s.toks) (fun b o hb e=>eb b o hb e) f0 f1 f3 f4 f5⟩
 self:=fun _ _ _ _ _ st h=>wpAny_pyIter_tupleiter st h
theorem lR {P:E2} {w:FO} {K:Ed} {tg:Expr} (it:Addr) (lo:Int) (n:Nat):Turn P w K tg (Itr lo n) [it] it (fun i h=>IsRangeIter h it (lo+(i:Nat)*1) ((n:Int)-(i:Nat)) 1) where
 mem:=by simp
 obj:=fun i h st b hb=>by
  have e:b=it:=by simpa using hb
  subst e
  exact ⟨_,st,fun v z=>by
   have z':Data.fields _=HE v:=z
   cases z'⟩
 keep:=fun i h h' st k=>k it (by simp) _ st
 item:=by
  intro X hP hw hK hc i pins s σ H E I hf st hg
  subst hP hw hK
  obtain ⟨f0,f1,f2,f3,f4,f5⟩:=hf it (by simp)
  have W:=Walks.range (prog:=X.prog) (w:=X.w) (I.ok.hd hc) it lo 1 n
  refine W.item i s _ _ hg st fun v h' tk hv st' kk=>?_
  obtain ⟨t,rfl⟩:=hv
  have I1:Inv X pins σ H { s with heap:=h',toks:=tk }:=I.turned (fun b o hb e=>kk b o (by simpa using hb) e) f0 f1 f3 f4 f5
  refine ⟨_,rfl,mT (s:={ s with heap:=h',toks:=tk }) (n:="range_iterator") st' rfl rfl (by decide) ⟨.int (lo+i),H,I1,⟨t,?_⟩,⟨rfl,rfl⟩,st',fun b hb=>(hf b hb).1⟩⟩
  rw [Int.mul_one]
 done:=by
  intro X hP hw hK hc i pins s σ H E I hf st hg
  subst hP hw hK
  obtain ⟨f0,f1,f2,f3,f4,f5⟩:=hf it (by simp)
  exact wpAny_pyNext_range_end (I.ok.hd hc) st (by have:n<=i:=hg;omega) fun h' eb=>⟨rfl,I.turned (t':=s.toks) (fun b o hb e=>eb b o hb e) f0 f1 f3 f4 f5⟩
 self:=fun _ _ _ _ _ st h=>wpAny_pyIter_rangeiter st h
end L2
namespace L2
open PySem PySem.Spec PyProof.Rows
section
variable {X:Cx} {tg:Expr}
def wW (K:Ed) (tl:TE):TI:=fun σ H R=>tl σ H fun x H1=>∃a,x=.ref a/\(∃xs,SqL K H1 a xs)/\R (Itl K a) H1
def Bl (K:Ed) (tl:TE):TI:=fun σ H R=>tl σ H fun x H1=>∃a,x=.ref a/\(∃xs,SqT K H1 a xs)/\R (Itt K a) H1
theorem tQ {l:Expr} {tl:TE} (hl:PE X l tl):PI X tg l (wW X.K tl):=by
 intro pins s σ H R I h
 refine thn (hl pins s σ H _ I h) fun v s1 zr1=>?_
 obtain ⟨x,H1,I1,r1,q1⟩:=zr1
 obtain ⟨a,e,⟨xs,hq⟩,q⟩:=q1
 subst e
 cases r1
 obtain ⟨its,rv,p,hz⟩:=I1.list hq
 refine wpAny_pyIter_list p.isList ?_
 refine ⟨s1.heap.objs.size,[s1.heap.objs.size],_,_,H1,rfl,I1.kept (t':=s1.toks) fun b o e=>Eg _ e,ou a _,⟨_,EG _ rfl,rfl,rfl⟩,fun b hb=>?_,q⟩
 have e:b=s1.heap.objs.size:=by simpa using hb
 subst e
 exact I1.fpOk (Ek _) (I1.hok.fresh (Ek _))
theorem yL {l:Expr} {tl:TE} (hl:PE X l tl):PI X tg l (Bl X.K tl):=by
 intro pins s σ H R I h
 refine thn (hl pins s σ H _ I h) fun v s1 zr1=>?_
 obtain ⟨x,H1,I1,r1,q1⟩:=zr1
 obtain ⟨a,e,⟨xs,hq⟩,q⟩:=q1
 subst e
 cases r1
 obtain ⟨its,rv,p,hz⟩:=I1.tuple hq
 refine wpAny_pyIter_tuple (show s1.heap.IsTuple a its.toArray from p) ?_
 refine ⟨s1.heap.objs.size,[s1.heap.objs.size],_,_,H1,rfl,I1.kept (t':=s1.toks) fun b o e=>Eg _ e,lQ a _,⟨_,EG _ rfl,rfl,rfl⟩,fun b hb=>?_,q⟩
 have e:b=s1.heap.objs.size:=by simpa using hb
 subst e
 exact I1.fpOk (Ek _) (I1.hok.fresh (Ek _))
theorem ko {pins:List (Addr×Obj)} {σ:St} {H:Hp} {s:El} {R:It->Hp->Prop} {E:Ej->El->Prop} {lo hi:Int} {t u v:Tok} {tk:Nat} (I:Inv X pins σ H s) (h1:-(2 ^ 62)<=lo) (h2:lo < 2 ^ 62) (h3:-(2 ^ 62)<=hi) (h4:hi < 2 ^ 62)
  (q:R (Itr lo (hi-lo).toNat) H):Fp (Ff X.prog X.w) X.A (KD (.ref s.heap.objs.size)) (PIE X pins σ tg R) E { s with heap:=s.heap.push { cls:=.type "range",data:=.fields #[.int lo t,.int hi u,.int 1 v] },toks:=tk }:=by
 refine wpAny_pyIter_range (IsRange.new ..) (small_one h1 h2 h3 h4) ?_
 have I1:Inv X pins σ H { s with heap:=s.heap.push { cls:=.type "range",data:=.fields #[.int lo t,.int hi u,.int 1 v] },toks:=tk }:=I.kept fun b o e=>Eg _ e
 refine ⟨(s.heap.push { cls:=.type "range",data:=.fields #[.int lo t,.int hi u,.int 1 v] }).objs.size,[(s.heap.push { cls:=.type "range",data:=.fields #[.int lo t,.int hi u,.int 1 v] }).objs.size],_,_,H,rfl,
  I1.kept (t':=tk) fun b o e=>Eg _ e,lR _ lo (hi-lo).toNat,?_,fun b hb=>?_,q⟩
 ·have e1:lo+((0:Nat):Int)*1=lo:=by simp
  have e2:(((hi-lo).toNat:Nat):Int)-((0:Nat):Int)=Builtin.Range.rangeSize lo hi 1:=by rw [rangeSize_one];split <;> omega
  show IsRangeIter _ _ (lo+((0:Nat):Int)*1) ((((hi-lo).toNat:Nat):Int)-((0:Nat):Int)) 1
  rw [e1,e2]
  exact EG _ rfl
 ·have e:b=(s.heap.push { cls:=.type "range",data:=.fields #[.int lo t,.int hi u,.int 1 v] }).objs.size:=by simpa using hb
  subst e
  exact I1.fpOk (Ek _) (I1.hok.fresh (Ek _))
def wX (ta:TA):TI:=fun σ H R=>ta σ H fun vs H1=>∃j:Int,vs=[.int j]/\-(2 ^ 62)<=j/\j < 2 ^ 62/\R (Itr 0 j.toNat) H1
def wY (ta:TA):TI:=fun σ H R=>ta σ H fun vs H1=>∃i j:Int,vs=[.int i,.int j]/\(-(2 ^ 62)<=i/\i < 2 ^ 62/\-(2 ^ 62)<=j/\j < 2 ^ 62)/\R (Itr i (j-i).toNat) H1
theorem ow {a:Expr} {ta:TA} {p pos:Pos} (hg:Gl X "range") (hm:X.mg "range"=none) (ha:PA X [a] ta) (hs:EO [a] X.env=[(false,eval a X.env)]:=by rfl):PI X tg (.Call (.Name "range" p) [a] [] pos) (wX ta):=by
 intro pins s σ H R I h
 refine Call_ (eS I hg hm boot_range (FX (thn (ha pos pins s σ H _ I h) fun us s1 zr1=>?_) hs rfl))
 obtain ⟨vs,H1,I1,r1,q1⟩:=zr1
 obtain ⟨j,e,q1,q2,q⟩:=q1
 subst e
 cases r1 with
 | cons r rr=>
  cases rr
  obtain ⟨t,rfl⟩:=r
  exact call_range_1 (ko I1 (by omega) (by omega) q1 q2 (by simpa using q))
theorem ox {a b:Expr} {ta:TA} {p pos:Pos} (hg:Gl X "range") (hm:X.mg "range"=none) (ha:PA X [a,b] ta) (hs:EO [a,b] X.env=[(false,eval a X.env),(false,eval b X.env)]:=by rfl) (hs2:EO [b] X.env=[(false,eval b X.env)]:=by rfl) :
  PI X tg (.Call (.Name "range" p) [a,b] [] pos) (wY ta):=by
 intro pins s σ H R I h
 refine Call_ (eS I hg hm boot_range (FX (thn (ha pos pins s σ H _ I h) fun us s1 ⟨vs,H1,I1,r1,q1⟩=>?_) (by rw [hs,hs2]) (by rw [hs2];rfl)))
 obtain ⟨i,j,e,⟨q1,q2,q3,q4⟩,q⟩:=q1
 subst e
 cases r1 with
 | cons r rr=>
  cases rr with
  | cons r' rr=>
   cases rr
   obtain ⟨t,rfl⟩:=r
   obtain ⟨t',rfl⟩:=r'
   exact call_range_2 (ko I1 q1 q2 q3 q4 q)
def Bm (wi:TI) (g:TG) (tb:TS):TS:=fun D σ H=>wi σ H fun J H1=>∃W:Nat->Nat->St->Hp->Prop,(∃m,W 0 m σ H1)/\∀i m σ H,W i m σ H ->
 (J.stop i H/\D.nx σ H)\/(J.go i H/\∃N:St->Hp->Prop,(∀ σ' H',N σ' H'->∃m',m' < m/\W (i+1) m' σ' H')/\∀x H',J.yld i H x H'->g x σ H' fun σ2 H2=>tb { D with nx:=N,ct:=N,bk:=D.nx } σ2 H2)
def bO (fp:List Addr) (h:Heap):List (Addr×Obj):=fp.filterMap fun b=>(h.get? b).map fun o=>(b,o)
theorem aM {fp:List Addr} {h:Heap} {b:Addr} {o:Obj} (hb:b∈fp) (e:h.get? b=some o):(b,o)∈bO fp h:=List.mem_filterMap.mpr ⟨b,hb,by rw [e];rfl⟩
theorem dh {fp:List Addr} {h:Heap} {p:Addr×Obj} (hp:p∈bO fp h):p.1∈fp/\h.get? p.1=some p.2:=by
 obtain ⟨b,hb,e⟩:=List.mem_filterMap.mp hp
 cases q:h.get? b with
 | none=>rw [q] at e;cases e
 | some o=>
  rw [q] at e
  have e':(b,o)=p:=ER e
  subst e'
  exact ⟨hb,q⟩
theorem Inv.pinned {pins:List (Addr×Obj)} {σ:St} {H:Hp} {s:El} {fp:List Addr} (I:Inv X pins σ H s) (hf:∀b∈fp,dN X pins H b) (ho:∀b∈fp,∃o,s.heap.get? b=some o/\∀v,o.data≠.cell v):Inv X (pins++bO fp s.heap) σ H s:=
 I.pins_of fun p hp=>(List.mem_append.mp hp).elim (fun z=>I.pin p (Ee _ z)) fun z=>by
  obtain ⟨hb,e⟩:=dh z
  obtain ⟨f0,f1,f2,_⟩:=hf p.1 hb
  obtain ⟨o,e',d⟩:=ho p.1 hb
  rw [e] at e';cases e'
  exact ⟨e,f0,f1,f2,d⟩
theorem Inv.unpinned {pins pl:List (Addr×Obj)} {σ:St} {H:Hp} {s:El} (I:Inv X (pins++pl) σ H s):Inv X pins σ H s:=I.pins_of fun p hp=>I.pin p (Ee _ (EF _ hp))
theorem yM {iter:Expr} {body:List Stmt} {wi:TI} {g:TG} {tb:TS} {pos:Pos} (hp:PassesOwn (Ff X.prog X.w) X.A X.env X.xe) (hc:X.calm=true) (hi:PI X tg iter wi) (hg:PG X tg g) (hb:PSs X body tb)
  (hs:∀x,EC iter X.env x=pure x:=by intro _;rfl):PS X (.For tg iter body [] pos) (Bm wi g tb):=by
 intro pins s σ H D I h
 refine wpAny_For (thn (hi pins s σ H _ I h) fun v s1 h1=>thn h1 fun itv s2 h2=>?_) hs
 obtain ⟨it,fp,tn,J,H2,e,I2,T,st2,f2,W,⟨m0,w0⟩,turn⟩:=h2
 subst e
 -- what stays true of the iterator's objects through the loop
 have stat:∀{H':Hp},(∀b∈fp,H' b=none)->∀b∈fp,dN X pins H' b:=fun hn b hb=>⟨hn b hb,(f2 b hb).2⟩
 refine codeAny_forLoop_any (fun n s'=>∃i σ' H',Inv X pins σ' H' s'/\tn i s'.heap/\(∀b∈fp,H' b=none)/\W i n σ' H') ?_ m0 ⟨0,σ,H2,I2,st2,fun b hb=>(f2 b hb).1,w0⟩
 rintro n s3 ⟨i,σ3,H3,I3,st3,fr3,w3⟩
 rcases turn i n σ3 H3 w3 with ⟨stop,qn⟩ | ⟨go,N,hN,step⟩
 ·refine Hk hp (thn (T.done X rfl rfl rfl hc i pins s3 σ3 H3 X.xe I3 (stat fr3) st3 stop) fun r s4 zr1=>?_)
  obtain ⟨hr,I4⟩:=zr1
  subst hr
  exact Jq ⟨σ3,H3,I4,qn⟩
 ·refine Hk hp (thn (T.item X rfl rfl rfl hc i pins s3 σ3 H3 X.xe I3 (stat fr3) st3 go) fun r s4 zr1=>?_)
  obtain ⟨u,hr,h4⟩:=zr1
  subst hr
  refine Hk hp (thn h4 fun _ s5 zr1=>?_)
  obtain ⟨x,H5,I5,r5,y5,st5,fr5⟩:=zr1
  have I5':=I5.pinned (stat fr5) (T.obj _ _ st5)
  refine Hk hp (thn (hg _ s5 σ3 H5 x u _ I5' r5 (step x H5 y5)) fun _ s6 zr1=>?_)
  obtain ⟨σ6,H6,I6,q6⟩:=zr1
  refine Hk hp (thn (hb _ s6 σ6 H6 _ I6 q6) fun f s7 q7=>?_)
  have Ip:∀{σ7:St} {H7:Hp},Inv X (pins++bO fp s5.heap) σ7 H7 s7->N σ7 H7->∃m,m < n/\∃i σ' H',Inv X pins σ' H' s7/\tn i s7.heap/\(∀b∈fp,H' b=none)/\W i m σ' H':=fun {σ7 H7} I7 n7=>by
   obtain ⟨m',hm,w7⟩:=hN σ7 H7 n7
   refine ⟨m',hm,i+1,σ7,H7,I7.unpinned,T.keep _ _ _ st5 fun b hb o e=>(I7.pin (b,o) (Ee _ (Ee _ (aM hb e)))).1,fun b hb=>?_,w7⟩
   obtain ⟨o,e,d⟩:=T.obj _ _ st5 b hb
   exact (I7.pin (b,o) (Ee _ (Ee _ (aM hb e)))).2.1
  cases f with
  | next=>obtain ⟨σ7,H7,I7,n7⟩:=q7;exact Ip I7 n7
  | cont=>obtain ⟨σ7,H7,I7,n7⟩:=q7;exact Ip I7 n7
  | brk=>obtain ⟨σ7,H7,I7,q7⟩:=q7;exact ⟨σ7,H7,I7.unpinned,q7⟩
  | ret v=>obtain ⟨x7,σ7,H7,I7,r7,q7⟩:=q7;exact ⟨x7,σ7,H7,I7.unpinned,r7,q7⟩
end
end L2
namespace L2
open PySem PySem.Spec PyProof.Rows
abbrev R2:=V->V->Hp->VK->Prop
def OpR (X:Cx) (f:Ej->Ej->Sem Ej) (r:R2):Prop:=
 ∀(pins:List (Addr×Obj)) (s:El) (σ:St) (H:Hp) (x y:V) (v u:Ej) (Q:VK),Inv X pins σ H s->RelV x v->RelV y u->r x y H Q ->
  Fp (Ff X.prog X.w) X.A (f v u) (EP X pins σ Q) X.xe s
def UnR (X:Cx) (f:Ej->Sem Ej) (r:V->Hp->VK->Prop):Prop:=
 ∀(pins:List (Addr×Obj)) (s:El) (σ:St) (H:Hp) (x:V) (v:Ej) (Q:VK),Inv X pins σ H s->RelV x v->r x H Q ->
  Fp (Ff X.prog X.w) X.A (f v) (EP X pins σ Q) X.xe s
def b6 (X:Cx) (f:Ej) (r:List V->Hp->VK->Prop):Prop:=
 ∀(pins:List (Addr×Obj)) (s:El) (σ:St) (H:Hp) (xs:List V) (us:List Ej) (Q:VK),Inv X pins σ H s->Vals xs us->r xs H Q ->
  Fp (Ff X.prog X.w) X.A (call f us) (EP X pins σ Q) X.xe s
def DS (X:Cx) (r:V->Hp->(Bool->Hp->Prop)->Prop):Prop:=
 ∀(pins:List (Addr×Obj)) (s:El) (σ:St) (H:Hp) (x:V) (v:Ej) (Q:Bool->Hp->Prop),Inv X pins σ H s->RelV x v->r x H Q ->
  Fp (Ff X.prog X.w) X.A (Kz v) (TP X pins σ Q) X.xe s
def tOp (r:R2) (ta tb:TE):TE:=fun σ H Q=>ta σ H fun x H1=>tb σ H1 fun y H2=>r x y H2 Q
def tUn (r:V->Hp->VK->Prop) (ta:TE):TE:=fun σ H Q=>ta σ H fun x H1=>r x H1 Q
def rI (C:Int->Int->Prop) (g:Int->Int->V):R2:=fun x y H Q=>∃i j,x=.int i/\y=.int j/\C i j/\Q (g i j) H
def rI0 (g:Int->Int->V):R2:=fun x y H Q=>∃i j,x=.int i/\y=.int j/\Q (g i j) H
def rU (g:Int->V):V->Hp->VK->Prop:=fun x H Q=>∃i,x=.int i/\Q (g i) H
section
variable {X:Cx} {a b c:Expr} {ta tb tc:TE} {pos:Pos}
theorem yN (ha:PE X a ta) (hb:PE X b tb) {pins:List (Addr×Obj)} {s:El} {σ:St} {H:Hp} {R:V->V->Hp->Prop} (I:Inv X pins σ H s)
  (h:ta σ H fun x H1=>tb σ H1 fun y H2=>R x y H2) {Q:Ej->El->Prop} {f:Ej->Ej->Sem Ej}
  (hf:∀v u s2 x y H2,Inv X pins σ H2 s2->RelV x v->RelV y u->R x y H2->Fp (Ff X.prog X.w) X.A (f v u) Q X.xe s2) :
  Fp (Ff X.prog X.w) X.A (eval a X.env) (fun v s₁=>Fp (Ff X.prog X.w) X.A (eval b X.env) (fun u s₂=>Fp (Ff X.prog X.w) X.A (f v u) Q X.xe s₂) X.xe s₁) X.xe s:=by
 refine thn (ha pins s σ H _ I h) fun v s1 zr1=>?_
 obtain ⟨x,H1,I1,r1,q1⟩:=zr1
 refine thn (hb pins s1 σ H1 _ I1 q1) fun u s2 zr1=>?_
 obtain ⟨y,H2,I2,r2,q2⟩:=zr1
 exact hf v u s2 x y H2 I2 r1 r2 q2
theorem pV {op:K8} {r:R2} (ho:OpR X (Hf op) r) (ha:PE X a ta) (hb:PE X b tb):PE X (.BinOp a op b pos) (tOp r ta tb):=by
 intro pins s σ H Q I h
 exact wpAny_BinOp (yN ha hb I h fun v u s2 x y H2 I2 rx ry q=>ho pins s2 σ H2 x y v u Q I2 rx ry q)
theorem wZ {op:UnaryOp} {r:V->Hp->VK->Prop} (ho:UnR X (unaryOp op) r) (ha:PE X a ta):PE X (.UnaryOp op a pos) (tUn r ta):=by
 intro pins s σ H Q I h
 exact UnaryOp_ (thn (ha pins s σ H _ I h) fun v s1 zt1=>by obtain ⟨x,H1,I1,r1,q1⟩:=zt1;exact ho pins s1 σ H1 x v Q I1 r1 q1)
theorem opI {f:Ej->Ej->Sem Ej} {C:Int->Int->Prop} {g:Int->Int->Int}
  (rule:∀(i j:Int) (t u:Tok) (s:El) (Q:Ej->El->Prop) (E:Ej->El->Prop),C i j->Q (.int (g i j) s.toks) { s with toks:=s.toks+1 }->Fp (Ff X.prog X.w) X.A (f (.int i t) (.int j u)) Q E s) :
  OpR X f (rI C fun i j=>.int (g i j)):=by
 intro pins s σ H x y v u Q I rx ry h
 obtain ⟨i,j,rfl,rfl,hc,q⟩:=h
 obtain ⟨t,rfl⟩:=rx
 obtain ⟨t',rfl⟩:=ry
 exact rule i j t t' s _ _ hc ⟨.int (g i j),H,I.tok _,⟨_,rfl⟩,q⟩
theorem yO {f:Ej->Ej->Sem Ej} {g:Int->Int->Int}
  (rule:∀(i j:Int) (t u:Tok) (s:El) (Q:Ej->El->Prop) (E:Ej->El->Prop),Q (.int (g i j) s.toks) { s with toks:=s.toks+1 }->Fp (Ff X.prog X.w) X.A (f (.int i t) (.int j u)) Q E s) :
  OpR X f (rI0 fun i j=>.int (g i j)):=by
 intro pins s σ H x y v u Q I rx ry h
 obtain ⟨i,j,rfl,rfl,q⟩:=h
 obtain ⟨t,rfl⟩:=rx
 obtain ⟨t',rfl⟩:=ry
 exact rule i j t t' s _ _ ⟨.int (g i j),H,I.tok _,⟨_,rfl⟩,q⟩
theorem tR {f:Ej->Ej->Sem Ej} {g:Int->Int->Bool}
  (rule:∀(i j:Int) (t u:Tok) (s:El) (Q:Ej->El->Prop) (E:Ej->El->Prop),Q (.bool (g i j)) s->Fp (Ff X.prog X.w) X.A (f (.int i t) (.int j u)) Q E s) :
  OpR X f (rI0 fun i j=>.bl (g i j)):=by
 intro pins s σ H x y v u Q I rx ry h
 obtain ⟨i,j,rfl,rfl,q⟩:=h
 obtain ⟨t,rfl⟩:=rx
 obtain ⟨t',rfl⟩:=ry
 exact rule i j t t' s _ _ ⟨.bl (g i j),H,I,rfl,q⟩
def DT (i j:Int):Prop:=0 < j/\j < 1073741824
def Bn (i j:Int):Prop:=0<=j/\j<=1000000/\i.natAbs < 2 ^ 64
def yP (i j:Int):Prop:=(-(2 ^ 64) < i/\i < 2 ^ 64)\/(-(2 ^ 64) < j/\j < 2 ^ 64)
theorem yP.ok {i j:Int} (h:yP i j):IntMulOk i j:=by
 rcases h with ⟨h1,h2⟩ | ⟨h1,h2⟩
 ·exact .of_left (intBits_le_64 h1 h2)
 ·exact .of_right (intBits_le_64 h1 h2)
theorem two_pow_nn (k:Nat):(0:Int)<=2 ^ k:=by
 rw [two_pow_cast]
 exact Kg _
theorem bj:OpR X (Hf .Add) (rI0 fun i j=>.int (i+j)):=yO fun _ _ _ _ _ _ _ q=>add_int q
theorem cn:OpR X (Hf .Sub) (rI0 fun i j=>.int (i-j)):=yO fun _ _ _ _ _ _ _ q=>sub_int q
theorem dO:OpR X (Hf .Mult) (rI yP fun i j=>.int (i*j)):=opI fun _ _ _ _ _ _ _ hc q=>mul_int q hc.ok
theorem mU:OpR X (Hf .FloorDiv) (rI DT fun i j=>.int (i / j)):=opI fun i j _ _ _ _ _ hc q=>by
 have h1:(0:Int) < j:=hc.1
 have h2:j < 1073741824:=hc.2
 exact floordiv_int (by omega) (by rw [Iq i (by omega)];exact q) (.inl (PyProof.noPylong_small (by omega)))
theorem du:OpR X (Hf .Mod) (rI (fun _ j=>0 < j) fun i j=>.int (i%j)):=opI fun i j _ _ _ _ _ hc q=>by
 have h1:(0:Int) < j:=hc
 exact mod_int' (by omega) (by rw [Int.fmod_eq_emod_of_nonneg i (by omega)];exact q)
theorem pW:OpR X (Hf .Pow) (rI Bn fun i j=>.int (i ^ j.toNat)):=opI fun _ _ _ _ _ _ _ hc q=>pow_int_small hc.1 hc.2.1 hc.2.2 q
theorem js:OpR X (Hf .LShift) (rI Bn fun i j=>.int (i*2 ^ j.toNat)):=opI fun _ _ _ _ _ _ _ hc q=>lshift_int_small hc.1 hc.2.1 hc.2.2 q
theorem eU:OpR X (Hf .RShift) (rI (fun _ j=>0<=j) fun i j=>.int (i / 2 ^ j.toNat)):=opI fun i j _ _ _ _ _ hc q=>
 rshift_int hc (by rw [Iq i (two_pow_nn _)];exact q)
theorem fL:OpR X (Hf .BitAnd) (rI0 fun i j=>.int (Hd i j)):=yO fun _ _ _ _ _ _ _ q=>and_int q
theorem unI {f:Ej->Sem Ej} {g:Int->Int}
  (rule:∀(i:Int) (t:Tok) (s:El) (Q:Ej->El->Prop) (E:Ej->El->Prop),Q (.int (g i) s.toks) { s with toks:=s.toks+1 }->Fp (Ff X.prog X.w) X.A (f (.int i t)) Q E s) :
  UnR X f (rU fun i=>.int (g i)):=by
 intro pins s σ H x v Q I rx h
 obtain ⟨i,rfl,q⟩:=h
 obtain ⟨t,rfl⟩:=rx
 exact rule i t s _ _ ⟨.int (g i),H,I.tok _,⟨_,rfl⟩,q⟩
theorem b8:UnR X (unaryOp .USub) (rU fun i=>.int (-i)):=unI fun _ _ _ _ _ q=>neg_int q
end
def tS:V->V->Bool
 | .non,.non=>true | .non,.int _=>true | .int _,.non=>true | .non,.bl _=>true | .bl _,.non=>true | .non,.str _=>true | .str _,.non=>true
 | .int _,.int _=>true | .bl _,.bl _=>true | .str _,.str _=>true | .byt _,.byt _=>true
 | .int _,.str _=>true | .str _,.int _=>true | .bl _,.str _=>true | .str _,.bl _=>true
 | _,_=>false
def rEq:R2:=fun x y H Q=>tS x y=true/\Q (.bl (decide (x=y))) H
def rNe:R2:=fun x y H Q=>tS x y=true/\Q (.bl (!decide (x=y))) H
theorem mV {i j:Int}:decide (V.int i=V.int j)=(i==j):=by
 rw [GF]
 simp
theorem pX {i j:Bool}:decide (V.bl i=V.bl j)=(i==j):=by
 rw [GF]
 simp
theorem mW {i j:Str}:decide (V.str i=V.str j)=(i==j):=by
 rw [GF]
 simp
theorem mX {i j:Array UInt8}:decide (V.byt i=V.byt j)=(i.toList==j.toList):=by
 rw [GF]
 cases i
 cases j
 simp
section
variable {X:Cx} {a b c:Expr} {ta tb tc:TE} {pos:Pos}
theorem aQ {pins:List (Addr×Obj)} {σ:St} {H:Hp} {s:El} {Q:VK} {k k':Bool} (I:Inv X pins σ H s) (q:Q (.bl k) H) (e:k=k'):EP X pins σ Q (.bool k') s:=by
 subst e
 exact ⟨.bl k,H,I,rfl,q⟩
theorem b7:OpR X (FU .Eq) rEq:=by
 intro pins s σ H x y v u Q I rx ry h
 obtain ⟨hs,q⟩:=h
 cases x with
 | non=>
  cases rx
  cases y with
  | non=>cases ry;exact PySem.EqNone.eq_none_none (aQ I q (by simp))
  | bl j=>cases ry;exact PySem.EqNone.eq_none_bool (aQ I q (by simp))
  | int j=>obtain ⟨t',rfl⟩:=ry;exact PySem.EqNone.eq_none_int (aQ I q (by simp))
  | str j=>obtain ⟨t',rfl⟩:=ry;exact PySem.EqNone.eq_none_str (aQ I q (by simp))
  | _=>exact absurd (show false=true from hs) Er
 | bl i=>
  cases rx
  cases y with
  | non=>cases ry;exact PySem.EqNone.eq_bool_none (aQ I q (by simp))
  | bl j=>cases ry;exact eq_bool (aQ I q pX)
  | str j=>obtain ⟨t',rfl⟩:=ry;exact PySem.EqMixed.eq_bool_str (aQ I q (by simp))
  | _=>exact absurd (show false=true from hs) Er
 | int i=>
  obtain ⟨t,rfl⟩:=rx
  cases y with
  | non=>cases ry;exact PySem.EqNone.eq_int_none (aQ I q (by simp))
  | int j=>obtain ⟨t',rfl⟩:=ry;exact eq_int (aQ I q mV)
  | str j=>obtain ⟨t',rfl⟩:=ry;exact PySem.EqMixed.eq_int_str (aQ I q (by simp))
  | _=>exact absurd (show false=true from hs) Er
 | str i=>
  obtain ⟨t,rfl⟩:=rx
  cases y with
  | non=>cases ry;exact PySem.EqNone.eq_str_none (aQ I q (by simp))
  | bl j=>cases ry;exact PySem.EqMixed.eq_str_bool (aQ I q (by simp))
  | int j=>obtain ⟨t',rfl⟩:=ry;exact PySem.EqMixed.eq_str_int (aQ I q (by simp))
  | str j=>obtain ⟨t',rfl⟩:=ry;exact eq_str (aQ I q mW)
  | _=>exact absurd (show false=true from hs) Er
 | byt i=>
  obtain ⟨t,rfl⟩:=rx
  cases y with
  | byt j=>obtain ⟨t',rfl⟩:=ry;exact PySem.W.eq_bytes (aQ I q mX)
  | _=>exact absurd (show false=true from hs) Er
 | _=>cases y <;> exact absurd (show false=true from hs) Er
theorem gh:OpR X (FU .NotEq) rNe:=by
 intro pins s σ H x y v u Q I rx ry h
 obtain ⟨hs,q⟩:=h
 cases x with
 | non=>
  cases rx
  cases y with
  | non=>cases ry;exact PySem.EqNone.ne_none_none (aQ I q (by simp))
  | bl j=>cases ry;exact PySem.EqNone.ne_none_bool (aQ I q (by simp))
  | int j=>obtain ⟨t',rfl⟩:=ry;exact PySem.EqNone.ne_none_int (aQ I q (by simp))
  | str j=>obtain ⟨t',rfl⟩:=ry;exact PySem.EqNone.ne_none_str (aQ I q (by simp))
  | _=>exact absurd (show false=true from hs) Er
 | bl i=>
  cases rx
  cases y with
  | non=>cases ry;exact PySem.EqNone.ne_bool_none (aQ I q (by simp))
  | bl j=>cases ry;exact ne_bool (aQ I q (congrArg not pX))
  | str j=>obtain ⟨t',rfl⟩:=ry;exact PySem.EqMixed.ne_bool_str (aQ I q (by simp))
  | _=>exact absurd (show false=true from hs) Er
 | int i=>
  obtain ⟨t,rfl⟩:=rx
  cases y with
  | non=>cases ry;exact PySem.EqNone.ne_int_none (aQ I q (by simp))
  | int j=>obtain ⟨t',rfl⟩:=ry;exact ne_int (aQ I q (congrArg not mV))
  | str j=>obtain ⟨t',rfl⟩:=ry;exact PySem.EqMixed.ne_int_str (aQ I q (by simp))
  | _=>exact absurd (show false=true from hs) Er
 | str i=>
  obtain ⟨t,rfl⟩:=rx
  cases y with
  | non=>cases ry;exact PySem.EqNone.ne_str_none (aQ I q (by simp))
  | bl j=>cases ry;exact PySem.EqMixed.ne_str_bool (aQ I q (by simp))
  | int j=>obtain ⟨t',rfl⟩:=ry;exact PySem.EqMixed.ne_str_int (aQ I q (by simp))
  | str j=>obtain ⟨t',rfl⟩:=ry;exact ne_str (aQ I q (congrArg not mW))
  | _=>exact absurd (show false=true from hs) Er
 | byt i=>
  obtain ⟨t,rfl⟩:=rx
  cases y with
  | byt j=>obtain ⟨t',rfl⟩:=ry;exact PySem.W.ne_bytes (aQ I q (congrArg not mX))
  | _=>exact absurd (show false=true from hs) Er
 | _=>cases y <;> exact absurd (show false=true from hs) Er
theorem kq:OpR X (FU .Lt) (rI0 fun i j=>.bl (decide (i < j))):=tR fun _ _ _ _ _ _ _ q=>lt_int q
theorem gR:OpR X (FU .LtE) (rI0 fun i j=>.bl (decide (i<=j))):=tR fun _ _ _ _ _ _ _ q=>le_int q
theorem kr:OpR X (FU .Gt) (rI0 fun i j=>.bl (decide (j < i))):=tR fun _ _ _ _ _ _ _ q=>gt_int q
theorem w4:OpR X (FU .GtE) (rI0 fun i j=>.bl (decide (j<=i))):=tR fun _ _ _ _ _ _ _ q=>ge_int q
theorem aL (b:Expr) {op:CmpOp} (h:op≠.In:=by decide) (h2:op≠.NotIn:=by decide):Hl op b=false:=by
 have e1:(op==CmpOp.In)=false:=by cases op <;> first | rfl | exact absurd rfl h
 have e2:(op==CmpOp.NotIn)=false:=by cases op <;> first | rfl | exact absurd rfl h2
 cases b <;> simp [Hl,e1,e2]
theorem tT {op:CmpOp} {r:R2} (ho:OpR X (FU op) r) (ha:PE X a ta) (hb:PE X b tb) (hm:Hl op b=false):PE X (.Compare a [op] [b] pos) (tOp r ta tb):=by
 intro pins s σ H Q I h
 exact wpAny_Compare1 (yN ha hb I h fun v u s2 x y H2 I2 rx ry q=>ho pins s2 σ H2 x y v u Q I2 rx ry q) hm
def pY (t:TE):TT:=fun σ H Q=>t σ H fun x H'=>∃k,x=.bl k/\Q k H'
theorem tU {op:CmpOp} {r:R2} (ho:OpR X (FU op) r) (ha:PE X a ta) (hb:PE X b tb) (hm:Hl op b=false):PT X (.Compare a [op] [b] pos) (pY (tOp r ta tb)):=by
 intro pins s σ H Q I h
 refine wpAny_isTrue_Compare1 (thn (ha pins s σ H _ I h) fun v s1 ⟨x,H1,I1,r1,q1⟩=>thn (hb pins s1 σ H1 _ I1 q1) fun u s2 ⟨y,H2,I2,r2,q2⟩=>
  thn (ho pins s2 σ H2 x y v u _ I2 r1 r2 q2) fun c s3 ⟨z,H3,I3,r3,k,e,q3⟩=>?_) hm
 subst e
 cases r3
 exact GC ⟨H3,I3,q3⟩
def lS (r r':R2) (ta tb tc:TE):TE:=fun σ H Q=>ta σ H fun x H1=>tb σ H1 fun y H2=>r x y H2 fun z H3=>∃k,z=.bl k /\
 (if k=true then tc σ H3 fun w' H4=>r' y w' H4 Q else Q (.bl false) H3)
theorem pZ {op op':CmpOp} {r r':R2} (ho:OpR X (FU op) r) (ho':OpR X (FU op') r') (ha:PE X a ta) (hb:PE X b tb) (hc:PE X c tc)
  (hm:lastMarks [op,op'] [b,c]=false:=by with_unfolding_all rfl):PE X (.Compare a [op,op'] [b,c] pos) (lS r r' ta tb tc):=by
 intro pins s σ H Q I h
 refine Compare_chain (thn (ha pins s σ H _ I h) fun v s1 ⟨x,H1,I1,r1,q1⟩=>chain_link (thn (hb pins s1 σ H1 _ I1 q1) fun u s2 ⟨y,H2,I2,r2,q2⟩=>
  thn (ho pins s2 σ H2 x y v u _ I2 r1 r2 q2) fun d s3 ⟨z,H3,I3,r3,k,e,q3⟩=>?_)) hm
 subst e
 cases r3
 refine GC ?_
 cases k with
 | false=>exact ite_ff ⟨.bl false,H3,I3,rfl,q3⟩
 | true=>exact ite_tt (chain_last (thn (hc pins s3 σ H3 _ I3 q3) fun w' s4 zt1=>by obtain ⟨z',H4,I4,r4,q4⟩:=zt1;exact ho' pins s4 σ H4 y z' u w' Q I4 r2 r4 q4))
def TruV (K:Ed) (x:V) (H:Hp) (k:Bool):Prop:=
 match x with
 | .non=>k=false
 | .bl b=>k=b
 | .int i=>k=(i != 0)
 | .str y=>y.length<=EW/\k=((y.length:Int) != 0)
 | .byt y=>y.size<=EW/\k=((y.size:Int) != 0)
 | .ref p=>(∃xs,SqL K H p xs/\k=!xs.isEmpty)\/(∃xs,SqT K H p xs/\k=!xs.isEmpty)\/∃kvs,H p=some (.dK kvs)/\k=!kvs.isEmpty
 | _=>False
theorem lT {κ:Type} {kvs:List (κ×V)} {vs:List (κ×Ej)} (r:KV kvs vs):(!vs.isEmpty)=!kvs.isEmpty:=by
 cases r <;> rfl
theorem gS {xs:List V} {its:List Ej} (r:Vals xs its):(!its.toArray.isEmpty)=!xs.isEmpty:=by
 cases r <;> simp
theorem eV:(EW:Nat) < 2 ^ 63:=by rw [FQ];decide
theorem yQ:DS X (fun x H Q=>∃k,TruV X.K x H k/\Q k H):=by
 intro pins s σ H x v Q I rx h
 obtain ⟨k,e,q⟩:=h
 have hl:=eV
 have hs:EW=16777216:=FQ
 cases x with
 | non=>
  cases rx
  have e':k=false:=e
  subst e'
  exact truthy_none ⟨H,I,q⟩
 | bl b=>
  cases rx
  have e':k=b:=e
  subst e'
  exact GC ⟨H,I,q⟩
 | int i=>
  obtain ⟨t,rfl⟩:=rx
  have e':k=(i != 0):=e
  subst e'
  exact PySem.P.truthy_int ⟨H,I,q⟩
 | str y=>
  obtain ⟨t,rfl⟩:=rx
  obtain ⟨hy,e'⟩:y.length<=EW/\k=((y.length:Int) != 0):=e
  subst e'
  exact PySem.P.truthy_str (by omega) ⟨H,I.tok _,q⟩
 | byt y=>
  obtain ⟨t,rfl⟩:=rx
  obtain ⟨hy,e'⟩:y.size<=EW/\k=((y.size:Int) != 0):=e
  subst e'
  exact PySem.W.truthy_bytes (by omega) ⟨H,I.tok _,q⟩
 | ref p=>
  cases rx
  have e':(∃xs,SqL X.K H p xs/\k=!xs.isEmpty)\/(∃xs,SqT X.K H p xs/\k=!xs.isEmpty)\/∃kvs,H p=some (.dK kvs)/\k=!kvs.isEmpty:=e
  rcases e' with ⟨xs,hx,e'⟩ | ⟨xs,hx,e'⟩ | ⟨kvs,hx,e'⟩
  ·subst e'
   obtain ⟨its,r,pl,hz⟩:=I.list hx
   have hlen:=r.length
   exact wpAny_truthy_list pl.isList (by simp only [Ex];omega) ⟨H,I.tok _,by rw [gS r];exact q⟩
  ·subst e'
   obtain ⟨its,r,pl,hz⟩:=I.tuple hx
   have hlen:=r.length
   exact truthy_tuple pl (by simp only [Ex];omega) ⟨H,I.tok _,by rw [gS r];exact q⟩
  ·subst e'
   obtain ⟨hz,hS,vs,r,m⟩:kvs.length<=EW/\(p==GB)=false/\∃vs,KV kvs vs/\s.heap.DictOf (jq X.prog X.w) p vs:=I.hok p _ hx
   have hlen:kvs.length=vs.length:=GL r
   exact wpAny_truthy_dict hS m (by omega) ⟨H,I.tok _,by rw [lT r];exact q⟩
 | _=>exact (show False from e).elim
theorem p6 (ha:PE X a ta) (he:∀whole,JS a X.env whole=(do let v <- whole;G6 a.pos;G7 [v] (Kz v))) :
  PT X a (fun σ H Q=>ta σ H fun x H'=>∃k,TruV X.K x H' k/\Q k H'):=by
 intro pins s σ H Q I h
 exact KA (thn (ha pins s σ H _ I h) fun v s1 zt1=>by obtain ⟨x,H1,I1,r1,q1⟩:=zt1;exact yQ pins s1 σ H1 x v Q I1 r1 q1) (he _)
theorem vals1 {x:V} {us:List Ej} (r:Vals [x] us):∃u,us=[u]/\RelV x u:=by
 cases r with
 | cons r1 r2=>cases r2;exact ⟨_,rfl,r1⟩
theorem vals2 {x y:V} {us:List Ej} (r:Vals [x,y] us):∃u w',us=[u,w']/\RelV x u/\RelV y w':=by
 cases r with
 | cons r1 r2=>
  cases r2 with
  | cons r3 r4=>cases r4;exact ⟨_,_,rfl,r1,r3⟩
theorem oy (hc:X.calm=true):b6 X (.builtin "max") (fun xs H Q=>∃i j,xs=[.int i,.int j]/\Q (.int (if j > i then j else i)) H):=by
 intro pins s σ H xs us Q I r h
 obtain ⟨i,j,rfl,q⟩:=h
 obtain ⟨u,w',rfl,⟨t,rfl⟩,⟨t',rfl⟩⟩:=vals2 r
 refine max_two_ints (I.ok.hd hc) fun h' tk k=>⟨_,H,I.kept k,?_,q⟩
 by_cases hj:j > i
 ·rw [if_pos hj,if_pos hj];exact ⟨_,rfl⟩
 ·rw [if_neg hj,if_neg hj];exact ⟨_,rfl⟩
theorem oz (hc:X.calm=true):b6 X (.builtin "min") (fun xs H Q=>∃i j,xs=[.int i,.int j]/\Q (.int (if j < i then j else i)) H):=by
 intro pins s σ H xs us Q I r h
 obtain ⟨i,j,rfl,q⟩:=h
 obtain ⟨u,w',rfl,⟨t,rfl⟩,⟨t',rfl⟩⟩:=vals2 r
 refine min_two_ints (I.ok.hd hc) fun h' tk k=>⟨_,H,I.kept k,?_,q⟩
 by_cases hj:j < i
 ·rw [if_pos hj,if_pos hj];exact ⟨_,rfl⟩
 ·rw [if_neg hj,if_neg hj];exact ⟨_,rfl⟩
theorem oA:b6 X (.type "int") (fun xs H Q=>(∃i,xs=[.int i]/\Q (.int i) H)\/∃k,xs=[.bl k]/\Q (.int (if k then 1 else 0)) H):=by
 intro pins s σ H xs us Q I r h
 rcases h with ⟨i,rfl,q⟩ | ⟨k,rfl,q⟩
 ·obtain ⟨u,rfl,t,rfl⟩:=vals1 r
  exact call_int_int ⟨.int i,H,I,⟨_,rfl⟩,q⟩
 ·obtain ⟨u,rfl,r1⟩:=vals1 r
  cases r1
  exact call_int_bool ⟨.int (if k then 1 else 0),H,I.tok _,⟨_,rfl⟩,q⟩
end
end L2
namespace L2
open PySem PySem.Spec PyProof.Rows
structure ObjM (h:Heap) (x dx C:Addr) (mA:Str->Option Ej):Prop where
 obj:h.get? x=some (Jo C dx)
 ns:h.Ns1 dx mA
 ne:dx≠x
theorem oB {h:Heap} {dx:Addr} {mA:Str->Option Ej} (n:h.Ns1 dx mA):∃od,h.get? dx=some od/\∀name,JT name od=some (mA name):=by
 obtain ⟨o,es,ep,ho,hd,hk,_,hm⟩:=n
 refine ⟨o,ho,fun name=>?_⟩
 have e:=hm name
 unfold nsFind findBy at e
 rw [<- Array.find?_toList] at e
 unfold JT
 rw [hd]
 dsimp only
 split
 ·rename_i y q
  rw [q] at e
  exact congrArg some e
 ·rename_i q
  rw [q] at e
  have a:es.toList.any (·.refKey)=false:=by
   rw [List.any_eq_false]
   intro y hy
   obtain ⟨z,t,hkey⟩:=hk y (Array.mem_toList_iff.mp hy)
   simp [DictEntry.refKey,hkey]
  have a':¬ es.toList.any (·.refKey)=true:=by rw [a];exact Er
  rw [if_neg a']
  exact congrArg some e
theorem ObjM.look {h:Heap} {x dx C:Addr} {mA:Str->Option Ej} (I:ObjM h x dx C mA):∃od,PySem.W.InstAt h x (Jo C dx) C (some od)/\∀name,JT name od=some (mA name):=
 let ⟨od,ho,hl⟩:=oB I.ns
 ⟨od,⟨I.obj,rfl,rfl,ho⟩,hl⟩
section
variable {P:E2} {w:FO} {H H':Hp} {h h':Heap} {a C dx:Addr} {fs fs':List (Str×V)}
theorem tV (hok:HOk P w H h) (e:H a=some (.ins C dx fs)):∃mA,ObjM h a dx C mA/\(∀f,RelO (fs.lookup f) (mA f))/\PySem.Within mA (fs.map (·.1))/\fs.length<=1000/\H dx=some (.own a):=by
 obtain ⟨d,z,ne,ob,mA,n,r,q⟩:=(show bG P w H h a (.ins C dx fs) from hok a _ e)
 exact ⟨mA,⟨ob,n,ne⟩,r,q,z,d⟩
end
structure Cls (K:Ed) (C:Addr):Prop where
 pg:PySem.W.plainGet K C Str.empty=true
 hd:PySem.W.hasDictIn K C=true
 po:PySem.W.plainOver K C=true
 sa:PySem.W.findIn K (.ref C) "__setattr__"=some (some (.builtin "object.__setattr__"))
theorem Cls.get {K:Ed} {C:Addr} (c:Cls K C) (f:Str):PySem.W.plainGet K C f=true:=c.pg
section
variable {X:Cx} {pins:List (Addr×Obj)} {σ:St} {H:Hp} {s:El} {A:F4} {E:Ej->El->Prop} {Q:Ej->El->Prop} {c:Ej} {b:Bool}
inductive gn (K:Ed) (H:Hp):V->Ej->Prop where
 | non:gn K H .non (.type "NoneType")
 | bl (x:Bool):gn K H (.bl x) (.type "bool")
 | int (i:Int):gn K H (.int i) (.type "int")
 | str (x:Str):gn K H (.str x) (.type "str")
 | flt (x:UInt64):gn K H (.flt x) (.type "float")
 | lst {a:Addr} {xs:List V} (e:H a=some (.lst xs)):gn K H (.ref a) (.type "list")
 | frz {a:Addr} {o:Obj} {xs:List V} (e:H a=some (.frz o (.lst xs))):gn K H (.ref a) (.type "list")
 | tup {a:Addr} {xs:List V} (e:H a=some (.tup xs)):gn K H (.ref a) (.type "tuple")
 | dK {a:Addr} {kvs:List (Key×V)} (e:H a=some (.dK kvs)):gn K H (.ref a) (.type "dict")
 | dT {a:Addr} {kvs:List (List Key×V)} (e:H a=some (.dT kvs)):gn K H (.ref a) (.type "dict")
 | ins {a C dx:Addr} {fs:List (Str×V)} (e:H a=some (.ins C dx fs)) (cl:Cls K C) (ha:PySem.W.findIn K (.ref C) "__class__"=some (some (.builtin "object.__class__")))
   (hn:PySem.W.specialIn K (.builtin "object.__class__") "__get__"=some (some (.builtin "getset_descriptor.__get__"))) (htk:PySem.W.takesIn K (.builtin "object.__class__")=some true)
   (hm:PySem.W.mroIn K C (.type "object")=some true):gn K H (.ref a) (.ref C)
theorem cC {x:V} {u t:Ej} (I:Inv X pins σ H s) (rx:RelV x u) (ty:gn X.K H x t) (e:IB X.K t c=some b) (h:∀tk,Q (.bool b) { s with toks:=tk }) :
  Fp (Ff X.prog X.w) A (call (.builtin "isinstance") [u,c]) Q E s:=by
 cases ty with
 | non=>cases (show u=FE from rx);exact FF PySem.W.kitx_none I.kIn HX e (fun z=>nomatch z) h
 | bl y=>cases (show u=Kq y from rx);exact FF PySem.W.kitx_bool I.kIn HX e (fun z=>nomatch z) h
 | int i=>obtain ⟨t,q⟩:=(show ∃t,u=Kc i t from rx);cases q;exact FF PySem.W.kitx_int I.kIn HX e (fun z=>nomatch z) h
 | str y=>obtain ⟨t,q⟩:=(show ∃t,u=Value.str y t from rx);cases q;exact FF PySem.W.kitx_str I.kIn HX e (fun z=>nomatch z) h
 | flt y=>obtain ⟨t,q⟩:=(show ∃t,u=Value.float y t from rx);cases q;exact FF PySem.W.kitx_float I.kIn HX e (fun z=>nomatch z) h
 | @lst a xs ea=>
  cases (show u=ET a from rx)
  obtain ⟨_,_,n,_,h1⟩:=(show bG X.prog X.w H s.heap a (.lst xs) from I.hok a _ ea)
  exact FF IL I.kIn ⟨_,h1,rfl⟩ e (fun z=>nomatch z) h
 | @frz a ob xs ea=>
  cases (show u=ET a from rx)
  obtain ⟨_,_,_,n,_,h1⟩:=(show bG X.prog X.w H s.heap a (.frz ob (.lst xs)) from I.hok a _ ea)
  exact FF IL I.kIn ⟨_,h1,rfl⟩ e (fun z=>nomatch z) h
 | @tup a xs ea=>
  cases (show u=ET a from rx)
  obtain ⟨_,_,_,p⟩:=(show bG X.prog X.w H s.heap a (.tup xs) from I.hok a _ ea)
  obtain ⟨o,h1,h2,_⟩:=p
  exact FF Kh I.kIn ⟨o,h1,h2⟩ e (fun z=>nomatch z) h
 | @dK a kvs ea=>
  cases (show u=ET a from rx)
  obtain ⟨_,_,vs,_,p⟩:=(show bG X.prog X.w H s.heap a (.dK kvs) from I.hok a _ ea)
  obtain ⟨o,es,ep,h1,h2,_⟩:=p
  exact FF IM I.kIn ⟨o,h1,h2.1⟩ e (fun z=>nomatch z) h
 | @dT a kvs ea=>
  cases (show u=ET a from rx)
  obtain ⟨_,_,xs,_,o,es,ep,h1,h2,_⟩:=(show bG X.prog X.w H s.heap a (.dT kvs) from I.hok a _ ea)
  exact FF IM I.kIn ⟨o,h1,h2.1⟩ e (fun z=>nomatch z) h
 | @ins a C dx fs ea cl ha hn htk hm=>
  cases (show u=ET a from rx)
  obtain ⟨mA,O,_⟩:=tV I.hok ea
  obtain ⟨od,J,_⟩:=O.look
  exact FF (PySem.W.kitx_own (cl.get _) cl.hd ha hn htk hm) I.kIn J e (fun z=>nomatch z) h
end
end L2
namespace L2
open PySem PySem.Spec PyProof.Rows
structure cz (k:Nat) (A:F4):Prop where
 hd:A.handled=none
 dp:A.depth+3*k+5 < recursionLimit
 un:A.units+16*k+200 < Ji
 gd:A.guards=some []
theorem cz.mono {j k:Nat} {A:F4} (r:cz k A) (h:j<=k):cz j A:=⟨r.hd,by have:=r.dp;omega,by have:=r.un;omega,r.gd⟩
theorem cz.deeper {k:Nat} {A:F4} (r:cz (k+1) A) (env:Env):cz k (A.deeper env):=
 ⟨r.hd,by have:=r.dp;show A.depth+1+3*k+5 < _;omega,by have:=r.un;show A.units+3+16*k+200 < _;omega,r.gd⟩
theorem cz.depth {k:Nat} {A:F4} (r:cz k A):A.depth < recursionLimit:=by have:=r.dp;omega
theorem cz.units {k:Nat} {A:F4} (r:cz k A):A.units+64 < Ji:=by have:=r.un;omega
def oC:TA:=fun _ H Q=>Q [] H
def iR (ta:TE) (tr:TA):TA:=fun σ H Q=>ta σ H fun x H1=>tr σ H1 fun xs H2=>Q (x::xs) H2
section
variable {X:Cx} {e:Expr} {es:List Expr} {te:TE} {t:TA} {pos:Pos}
theorem lU:PA X [] oC:=fun _ _ _ _ H Q I h=>Calls.spliced_nil ⟨[],H,I,.nil,h⟩
theorem jt (ha:PE X e te) (hr:PA X es t) (hs:EO (e::es) X.env=(false,eval e X.env)::EO es X.env:=by rfl):PA X (e::es) (iR te t):=by
 intro pos pins s σ H Q I h
 rw [hs]
 show Fp _ _ (spliced ((false,eval e X.env)::HD pos (EO es X.env))) _ _ s
 refine Calls.spliced_cons (thn (ha pins s σ H _ I h) fun u s1 zr1=>?_)
 obtain ⟨x,H1,I1,r1,q1⟩:=zr1
 exact thn (hr pos pins s1 σ H1 _ I1 q1) fun us s2 zt1=>by obtain ⟨xs,H2,I2,r2,q2⟩:=zt1;exact ⟨x::xs,H2,I2,.cons r1 r2,q2⟩
def Bo (t:TA):TE:=fun σ H Q=>t σ H fun xs H1=>xs.length<=EW/\∀p,H1 p=none->Q (.ref p) (upd H1 p (.tup xs))
def Bp (t:TA):TE:=fun σ H Q=>t σ H fun xs H1=>xs.length<=EW/\∀p,H1 p=none->Q (.ref p) (upd H1 p (.lst xs))
theorem yR {x1} (h:PA X es t):PE X (.Tuple es x1 pos) (Bo t):=by
 intro pins s σ H Q I hq
 refine wpAny_Tuple_spliced (thn (h pos pins s σ H _ I hq) fun us s1 ⟨xs,H1,I1,r,z,q⟩=>⟨by rw [<- r.length];exact z,?_⟩)
 have hf:H1 s1.heap.objs.size=none:=I1.hok.fresh (Ek _)
 refine ⟨.ref s1.heap.objs.size,upd H1 s1.heap.objs.size (.tup xs),I1.laid (t':=s1.toks) (fun b u e=>Eg _ e) (Ek _) ?_,rfl,q _ hf⟩
 exact ⟨z,us,r,⟨_,EG _ rfl,rfl,_,rfl⟩⟩
theorem yS (h:PA X es t):PE X (.List es pos) (Bp t):=by
 intro pins s σ H Q I hq
 refine wpAny_List_spliced (thn (h pos pins s σ H _ I hq) fun us s1 ⟨xs,H1,I1,r,z,q⟩=>⟨by rw [<- r.length];exact z,?_⟩)
 have hf:H1 s1.heap.objs.size=none:=I1.hok.fresh (Ek _)
 refine ⟨.ref s1.heap.objs.size,upd H1 s1.heap.objs.size (.lst xs),I1.laid (t':=s1.toks) (fun b u e=>Eg _ e) (Ek _) ?_,rfl,q _ hf⟩
 exact ⟨z,us,0,r,EG _ rfl⟩
end
abbrev Sp:=List V->Hp->VK->XK->Prop
abbrev CXT:=List Env->Hp->El->XK->Ej->El->Prop
structure Env0 (P:E2) (w:FO) (K:Ed) (mg:Str->Option Ej) (base:Heap) (A:F4) (outer:List Env) (s:El) (H:Hp):Prop where
 frames:A.frames=some outer
 mod:Mod K mg base
 bs:∀b o,base.get? b=some o->s.heap.get? b=some o/\H b=none
 bsz:base.objs.size<=s.heap.objs.size
 funs:s.heap.FunFrames base outer
 frf:∀b∈frs outer,H b=none
 hok:HOk P w H s.heap
 bare:IY s.gens
def CE (outer:List Env) (P:E2) (w:FO) (H:Hp) (s:El) (Q:VK) (u:Ej) (s':El):Prop:=
 ∃v H',s'.os=s.os/\IY s'.gens/\Un (frs outer) [] H H' s.heap s'.heap/\HOk P w H' s'.heap/\RelV v u/\Q v H'
def CR (CX:CXT) (outer:List Env) (P:E2) (w:FO) (H:Hp) (s:El) (Q:VK) (E:XK) (r:Result) (s':El):Prop:=
 match r with
 | .ok (.ret u)=>CE outer P w H s Q u s'
 | .ok _=>False
 | .error e=>CX outer H s E e s'
structure iN (P:E2) (w:FO) (K:Ed) (mg:Str->Option Ej) (base:Heap) (CX:CXT) (k:Nat) (f:Addr) (fd:G2) (ps:List Str) (sp:Sp):Prop where
 len:∀vs H Q E,sp vs H Q E->vs.length=ps.length
 run:∀(A:F4) (outer:List Env) (s:El) (H:Hp) (args:Args) (us:List Ej) (vs:List V) (Q:VK) (E:XK),cz k A->Env0 P w K mg base A outer s H->Kr s fd args (ps.zip us)->Vals vs us->sp vs H Q E ->
  G8 (Ff P w) A (.call (.ref f) args) (CR CX outer P w H s Q E) s
section
variable {X:Cx} {pins:List (Addr×Obj)} {σ:St} {H:Hp} {s s':El}
theorem Inv.env0 (I:Inv X pins σ H s):Env0 X.prog X.w X.K X.mg X.base X.A X.stack s H:=
 ⟨I.ok.frames,I.ok.mod,I.bs,Fz I.ok.bsz I.sz,I.stack,I.stkFree,I.hok,I.bare⟩
theorem Inv.after {Q:VK} {u:Ej} (I:Inv X pins σ H s) (h:CE X.stack X.prog X.w H s Q u s'):EP X pins σ Q u s':=by
 obtain ⟨v,H',os,bare,un,hok,r,q⟩:=h
 obtain ⟨hh,g,d,t,os'⟩:=s'
 obtain rfl:os'=s.os:=os
 exact ⟨v,H',I.call (h':=hh) (g':=g) (d':=d) (t':=t) (ch:=[]) un hok bare (fun b z=>absurd z (by simp)),r,q⟩
end
def ku (sp:Sp) (dvs:List V) (E:XK) (t:TA):TE:=fun σ H Q=>t σ H fun vs H1=>sp (vs++dvs) H1 Q E
def Binds (K:Ed) (fd:G2) (ps:List Str) (ds:List Ej):Prop:=
 ∀(s:El) (us:List Ej),K.In s.heap->(us++ds).length=ps.length->Kr s fd ⟨us,[]⟩ (ps.zip (us++ds))
theorem Binds.all {K:Ed} {fd:G2} {ps:List Str} (h:∀us:List Ej,us.length=ps.length->Ki fd ⟨us,[]⟩=pure (ps.zip us)):Binds K fd ps []:=fun s us _ hl=>by
 rw [FY] at hl ⊢
 exact .of_eq (h us hl)
def lV (CX:CXT) (X:Cx) (E:XK):Prop:=∀(pins:List (Addr×Obj)) (σ:St) (H:Hp) (s:El) (e:Ej) (s':El),Inv X pins σ H s->CX X.stack H s E e s'->X.xe e s'
section
variable {X:Cx} {CX:CXT} {k:Nat} {f C:Addr} {fd:G2} {ps:List Str} {sp:Sp} {dvs:List V} {ds:List Ej} {E:XK} {x m:Str} {p pos apos:Pos} {e o:Expr} {es:List Expr} {ta:TE} {t:TA}
theorem yT {pins:List (Addr×Obj)} {σ:St} {H:Hp} {s:El} {Q:VK} {us:List Ej} {vs:List V} (F:iN X.prog X.w X.K X.mg X.base CX k f fd ps sp) (hr:cz k X.A) (hb:Binds X.K fd ps ds) (hd:Vals dvs ds) (hx:lV CX X E)
  (I:Inv X pins σ H s) (r:Vals vs us) (h:sp (vs++dvs) H Q E):Fp (Ff X.prog X.w) X.A (call (.ref f) us) (EP X pins σ Q) X.xe s:=by
 have r2:Vals (vs++dvs) (us++ds):=r.append hd
 have hl:(us++ds).length=ps.length:=by rw [<- r2.length];exact F.len _ _ _ _ h
 refine wpAny_call (KE (F.run X.A X.stack s H ⟨us,[]⟩ (us++ds) (vs++dvs) Q E hr I.env0 (hb s us I.kIn hl) r2 h) fun r s' hq=>?_)
 cases r with
 | error e=>exact hx pins σ H s e s' I hq
 | ok fl=>
  cases fl with
  | ret u=>exact I.after hq
  | next=>exact G1 hq
  | brk=>exact G1 hq
  | cont=>exact G1 hq
theorem tW (F:iN X.prog X.w X.K X.mg X.base CX k f fd ps sp) (hr:cz k X.A) (hg:Gl X x) (hm:X.mg x=some (.ref f)) (hk:Hz X.K (.ref f)=true) (hb:Binds X.K fd ps ds) (hd:Vals dvs ds) (hx:lV CX X E)
  (ha:PA X (e::es) t) (hdb:(x==("__debug__":Str))=false:=by decide) (he:EO (e::es) X.env=(false,eval e X.env)::EO es X.env:=by rfl) (hpl:(HD pos (EO es X.env)).any (·.1)=false:=by rfl) :
  PE X (.Call (.Name x p) (e::es) [] pos) (ku sp dvs E t):=by
 intro pins s σ H Q I h
 refine Ir (mS I hg hm ?_ hdb)
 refine PySem.W.callWith_K (h₀:=X.base) I.ok.mod.kin hk (thn (ha pos pins s σ H _ I h) fun us s1 ⟨vs,H1,I1,r,q⟩=>⟨I1.kIn,?_⟩) he hpl
 exact yT F hr hb hd hx I1 r q
end
structure aB (N P:List Str) (sc:Ha):Prop where
 kind:sc.kind=.function
 co:sc.isCoroutine=false
 gen:sc.isGenerator=false
 nd:N.Nodup
 pre:N.take P.length=P
 par:∀x∈P,sc.names.lookup x=some .local\/sc.names.lookup x=some .cell
 nofree:∀y∈sc.names,y.2≠.free
theorem iS {kindOf:Str->Option Gx} {x:Str}:∀{binds:List (Str×Ej)} {m:Str->Option Ej},(∀v,(x,v)∉binds)->Lc kindOf binds m x=m x
 | [],_,_=>rfl
 | (n,v)::r,m,h=>by
  unfold Lc
  rw [iS fun w hw=>h w (ES _ hw)]
  split
  ·have:x≠n:=by rintro rfl;exact h v Em
   simp [this]
  ·rfl
theorem iT {kindOf:Str->Option Gx} {x:Str}:∀{binds:List (Str×Ej)} {m:Str->Option Ej},(∀v,(x,v)∉binds)->Ld kindOf binds m x=m x
 | [],_,_=>rfl
 | (n,v)::r,m,h=>by
  unfold Ld
  rw [iT fun w hw=>h w (ES _ hw)]
  split
  ·rfl
  ·have:x≠n:=by rintro rfl;exact h v Em
   simp [this]
theorem iU {kindOf:Str->Option Gx} {x:Str} {v:Ej}:∀{P:List Str} {vs:List Ej} {i:Nat} {m:Str->Option Ej},P.Nodup->P[i]?=some x->vs[i]?=some v->kindOf x=some .local ->
  Lc kindOf (P.zip vs) m x=some v
 | [],_,_,_,_,h,_,_=>by simp at h
 | _::_,[],_,_,_,_,h,_=>by simp at h
 | p::P,w::vs,0,m,nd,h1,h2,hk=>by
  simp at h1 h2;subst h1;subst h2
  show Lc kindOf ((p,w)::P.zip vs) m p=_
  unfold Lc
  rw [iS fun v hv=>(List.nodup_cons.mp nd).1 (Jr hv).1,if_pos hk]
  simp
 | p::P,w::vs,i+1,m,nd,h1,h2,hk=>by
  show Lc kindOf ((p,w)::P.zip vs) m x=_
  unfold Lc
  exact iU (i:=i) (List.nodup_cons.mp nd).2 (by simpa using h1) (by simpa using h2) hk
theorem iV {kindOf:Str->Option Gx} {x:Str} {v:Ej}:∀{P:List Str} {vs:List Ej} {i:Nat} {m:Str->Option Ej},P.Nodup->P[i]?=some x->vs[i]?=some v->kindOf x≠some .local ->
  Ld kindOf (P.zip vs) m x=some v
 | [],_,_,_,_,h,_,_=>by simp at h
 | _::_,[],_,_,_,_,h,_=>by simp at h
 | p::P,w::vs,0,m,nd,h1,h2,hk=>by
  simp at h1 h2;subst h1;subst h2
  show Ld kindOf ((p,w)::P.zip vs) m p=_
  unfold Ld
  rw [iT fun v hv=>(List.nodup_cons.mp nd).1 (Jr hv).1,if_neg hk]
  simp
 | p::P,w::vs,i+1,m,nd,h1,h2,hk=>by
  show Ld kindOf ((p,w)::P.zip vs) m x=_
  unfold Ld
  exact iV (i:=i) (List.nodup_cons.mp nd).2 (by simpa using h1) (by simpa using h2) hk
def start (N:List Str) (vs:List V):St:=vs.map some++Ep (N.length-vs.length) none
def ju (CX:CXT) (P:E2) (w:FO) (K:Ed) (mg:Str->Option Ej) (base:Heap) (N:List Str) (qual:Str) (scope:Ha) (f:Addr) (cd:Ej) (A:F4) (outer:List Env) (s:El) (H:Hp) (E:XK):Cx where
 prog:=P
 w:=w
 K:=K
 mg:=mg
 base:=base
 A:=A.deeper (envOfC qual scope s.heap.objs.size f cd)
 N:=N
 s₀:=s
 H₀:=H
 env:=envOfC qual scope s.heap.objs.size f cd
 outer:=outer
 stack:=envOfC qual scope s.heap.objs.size f cd::outer
 ex:=[]
 calm:=true
 fn:=fun _=>true
 pn:=[]
 xe:=fun e s'=>Fp (Ff P w) (A.deeper (envOfC qual scope s.heap.objs.size f cd)) (leaving (envOfC qual scope s.heap.objs.size f cd) e) (fun _ s''=>CX outer H s E e s'') (fun e' s''=>CX outer H s E e' s'') s'
theorem kz {sc:Ha} {n:Nat} {x:Str} (h:sc.names.lookup x=some .cell):∃c,(cellsFrom n sc.names []).lookup x=some c:=by
 have q:=Jj sc.names n [] (.inl h)
 exact Option.isSome_iff_exists.mp q
theorem oD {CX:CXT} {P:E2} {w:FO} {K:Ed} {mg:Str->Option Ej} {base:Heap} {N ps:List Str} {qual:Str} {scope:Ha} {f:Addr} {cd:Ej} {A:F4} {outer:List Env} {s s1:El} {H:Hp} {E:XK} {us:List Ej} {vs:List V}
  (S:aB N ps scope) (hd:A.handled=none) (e0:Env0 P w K mg base A outer s H) (hl:vs.length=ps.length) (r:Vals vs us)
  (x:InCallC s s.heap.objs.size (Lc (envOfC qual scope s.heap.objs.size f cd).kindOf (ps.zip us) fun _=>none) (cellsFrom (s.heap.objs.size+1) scope.names []) (Ld (envOfC qual scope s.heap.objs.size f cd).kindOf (ps.zip us) fun _=>none) s1) :
  Inv (ju CX P w K mg base N qual scope f cd A outer s H E) [] (start N vs) H s1:=by
 have hpl:ps.length<=N.length:=by have:=congrArg Ia S.pre;rw [GQ] at this;omega
 obtain ⟨h1,tk,rfl,hk⟩:=x.done
 have noA:∀b:Addr,b∉(ju CX P w K mg base N qual scope f cd A outer s H E).ex:=fun b z=>absurd (show b∈([]:List Addr) from z) (by simp)
 refine ⟨⟨e0.mod,S.kind,rfl,rfl,Ek _,fun y z c h1 h2=>?_,fun y hy=>?_,fun y c _ h=>?_,fun _=>hd,Around.frames_deeper e0.frames,.inr ⟨rfl,rfl⟩,fun b z=>absurd z (noA b),e0.bs,e0.bsz,fun b _ _=>noA b,fun b z=>absurd z (noA b),e0.funs,e0.frf⟩,
  rfl,e0.bare,Un.kept hk,⟨_,x.toInCall.ns,fun i y v h1 h2 h3=>?_⟩,fun y c h=>⟨_,x.cell y c h⟩,e0.hok.fresh (Ek _),fun y c h=>?_,fun p hp=>absurd (show p∈([]:List (Addr×Obj)) from hp) (by simp),e0.hok.kept hk,?_⟩
 ·exact name_of_addr x.apart (Fo h1) (Fo h2)
 ·have hy:scope.names.lookup y=some .cell\/scope.names.lookup y=some .free:=hy
  rcases hy with hy | hy
  ·exact kz hy
  ·exact absurd rfl (S.nofree _ (Fo hy))
 ·exact Jp (x.above y c (Fo h))
 ·have hi:i < vs.length:=by
   unfold start at h2
   by_cases hi:i < vs.length
   ·exact hi
   ·rw [EK (by simpa using hi)] at h2
    rw [GM] at h2
    split at h2 <;> cases h2
  have ha:vs[i]?=some v:=by
   unfold start at h2
   rw [EX (by simpa using hi),EH] at h2
   cases e:vs[i]? with
   | none=>rw [e] at h2;cases h2
   | some a=>rw [e] at h2;cases h2;rfl
  obtain ⟨u,hu,rv⟩:=r.get ha
  have hp:ps[i]?=some y:=by
   rw [<- S.pre,List.getElem?_take_of_lt (by omega)];exact h1
  have ndP:ps.Nodup:=by rw [<- S.pre];exact S.nd.sublist (List.take_sublist _ _)
  refine ⟨u,rv,?_⟩
  rcases S.par y (F0 hp) with k | k
  ·exact .inl ⟨k,iU ndP hp hu k⟩
  ·obtain ⟨c,e⟩:=kz (n:=s.heap.objs.size+1) k
   refine .inr ⟨.inl k,c,e,?_⟩
   have q:=x.cell y c e
   rw [iV ndP hp hu (by show scope.names.lookup y≠_;rw [k];decide)] at q
   exact q
 ·exact e0.hok.fresh (Jp (x.above y c (Fo h)))
 ·unfold start
  show _=N.length
  rw [E7,Eh,Gf]
  omega
theorem Bq {CX:CXT} {P:E2} {w:FO} {K:Ed} {mg:Str->Option Ej} {base:Heap} {k:Nat} {f:Addr} {name qual:Str} {params:Arguments} {body:List Stmt} {scope:Ha} {dV kV doc pm cdv ct oc:Ej} {an od:Option Addr}
  {osl:Array (Option Ej)} {N ps:List Str} {sp:Sp} (lk:K.lookup f=some ⟨oc,od,.func (Gq name qual params body scope dV kV doc pm an cdv ct),osl⟩) (hcd:IC K cdv qual=true) (S:aB N ps scope)
  (len:∀vs H Q E,sp vs H Q E->vs.length=ps.length)
  (hbody:∀(A:F4) (outer:List Env) (s:El) (H:Hp) (vs:List V) (Q:VK) (E:XK),cz k (A.deeper (envOfC qual scope s.heap.objs.size f cdv))->sp vs H Q E ->
   ∃t,PSs (ju CX P w K mg base N qual scope f cdv A outer s H E) body t/\t { nx:=fun _ H'=>Q .non H',rt:=Q } (start N vs) H) :
  iN P w K mg base CX (k+1) f (Gq name qual params body scope dV kV doc pm an cdv ct) ps sp:=by
 refine ⟨len,fun A outer s H args us vs Q E hr e0 hb r hsp=>?_⟩
 have hl:=len _ _ _ _ hsp
 have KX:K.In s.heap:=e0.mod.kin.keeps fun b o e=>(e0.bs b o e).1
 have lim:s.heap.NoLimit:=e0.mod.nolimit.keeps fun b o e=>(e0.bs b o e).1
 have hkind:∀y∈ps.zip us,scope.names.lookup y.1=some .local\/(scope.names.lookup y.1=some .cell/\((cellsFrom (s.heap.objs.size+1) scope.names []).lookup y.1).isSome=true):=fun ⟨n,v⟩ hy=>by
  rcases S.par n (Jr hy).1 with q | q
  ·exact .inl q
  ·exact .inr ⟨q,Jj _ _ _ (.inl q)⟩
 refine codeAny_call_function hr.depth (KX _ _ lk) rfl S.co S.gen rfl (PySem.W.codeRec_of KX hcd) (hb _ _ _ _ ?_)
 refine wpAny_newFunctionEnv_cells S.kind hkind fun env he s1 x=>?_
 subst he
 refine ⟨lim.keeps x.toInCall.keep,codeAny_func ?_⟩
 obtain ⟨t,ht,hq⟩:=hbody A outer s H vs Q E (hr.deeper _) hsp
 have I:Inv (ju CX P w K mg base N qual scope f cdv A outer s H E) [] (start N vs) H s1:=oD S hr.hd e0 hl r x
 refine EN (ht [] s1 (start N vs) H _ I hq) (fun fl s' hs=>?_) fun e s' hs=>hs
 have fin:∀{σ':St} {H':Hp} {v:V} {u:Ej},Inv (ju CX P w K mg base N qual scope f cdv A outer s H E) [] σ' H' s'->RelV v u->Q v H'->CE outer P w H s Q u s':=
  fun {σ' H' v u} J rv q=>⟨v,H',J.os,J.bare,J.base,J.hok,rv,q⟩
 cases fl with
 | ret u=>
  obtain ⟨v,σ',H',J,rv,q⟩:=hs
  exact fin J rv q
 | next=>
  obtain ⟨σ',H',J,q⟩:=hs
  exact fin (v:=V.non) (u:=FE) J rfl q
 | brk=>
  obtain ⟨_,_,_,q⟩:=hs
  exact G1 q
 | cont=>
  obtain ⟨_,_,_,q⟩:=hs
  exact G1 q
end L2
namespace L2
open PySem PySem.Spec PyProof.Rows
section
variable {X:Cx} {x:Str} {p pos:Pos} {e:Expr} {es:List Expr} {t:TA} {id T:String} {r:List V->Hp->VK->Prop}
def tCB (r:List V->Hp->VK->Prop) (t:TA):TE:=fun σ H Q=>t σ H fun vs H1=>r vs H1 Q
theorem gT (hc:b6 X (.builtin id) r) (hg:Gl X x) (hm:X.mg x=none) (hv:Fk x=some (.builtin id)) (ha:PA X (e::es) t) (hn:x≠"__name__":=by decide) (hdb:(x==("__debug__":Str))=false:=by decide)
  (he:EO (e::es) X.env=(false,eval e X.env)::EO es X.env:=by rfl) (hpl:(HD pos (EO es X.env)).any (·.1)=false:=by rfl):PE X (.Call (.Name x p) (e::es) [] pos) (tCB r t):=by
 intro pins s σ H Q I h
 refine Ir (eS I hg hm hv ?_ hn hdb)
 exact PyProof.Rows.callWith_builtin1 (thn (ha pos pins s σ H _ I h) fun us s1 zt1=>by obtain ⟨vs,H1,I1,r1,q1⟩:=zt1;exact hc pins s1 σ H1 vs us Q I1 r1 q1) he hpl
theorem eF (hc:b6 X (.type T) r) (hg:Gl X x) (hm:X.mg x=none) (hv:Fk x=some (.type T)) (ha:PA X (e::es) t) (hn:x≠"__name__":=by decide) (hdb:(x==("__debug__":Str))=false:=by decide)
  (he:EO (e::es) X.env=(false,eval e X.env)::EO es X.env:=by rfl) (hpl:(HD pos (EO es X.env)).any (·.1)=false:=by rfl):PE X (.Call (.Name x p) (e::es) [] pos) (tCB r t):=by
 intro pins s σ H Q I h
 refine Ir (eS I hg hm hv ?_ hn hdb)
 exact FX (thn (ha pos pins s σ H _ I h) fun us s1 zt1=>by obtain ⟨vs,H1,I1,r1,q1⟩:=zt1;exact hc pins s1 σ H1 vs us Q I1 r1 q1) he hpl
end
end L2
namespace HT
open PySem PyProof.Rows
def lexLt:List Int->List Int->Bool
 | [],[]=>false
 | [],_::_=>true
 | _::_,[]=>false
 | x::xs,y::ys=>if x=y then lexLt xs ys else decide (x < y)
theorem dv (x y:Int) (xs ys:List Int):lexLt (x::xs) (y::ys)=if x=y then lexLt xs ys else decide (x < y):=rfl
end HT
namespace L2
open PySem PySem.Spec PyProof.Rows
theorem intsAre_of {ns:List Int}:∀{us:List Ej},Vals (ns.map V.int) us->Ks us ns:=by
 induction ns with
 | nil=>intro us r;rw [Fd] at r;cases r;exact .nil
 | cons n ns ih=>
  intro us r
  rw [EB] at r
  cases r with
  | cons r1 r2=>
   obtain ⟨t,e⟩:=r1
   subst e
   exact .cons n t (ih r2)
end L2
namespace L2
open PySem PySem.Spec PyProof.Rows
def ixN (n:Nat) (i:Int):Option Nat:=if 0<=i then (if i < n then some i.toNat else none) else if -(n:Int)<=i then some (i+n).toNat else none
def atI {α:Type} (xs:List α) (i:Int):Option α:=(ixN xs.length i).bind fun j=>xs[j]?
theorem mY {n:Nat} {i:Int} {j:Nat} (h:ixN n i=some j):seqIndex? i n=some j/\j < n/\-(n:Int)<=i/\i < n:=by
 unfold ixN at h
 by_cases h0:0<=i
 ·rw [if_pos h0] at h
  by_cases h1:i < n
  ·rw [if_pos h1] at h
   have e:i.toNat=j:=ER h
   exact ⟨by rw [KP h0 h1,e],by omega,by omega,h1⟩
  ·rw [if_neg h1] at h;cases h
 ·rw [if_neg h0] at h
  by_cases h1:-(n:Int)<=i
  ·rw [if_pos h1] at h
   have e:(i+n).toNat=j:=ER h
   exact ⟨by rw [KF (by omega) h1,e],by omega,h1,by omega⟩
  ·rw [if_neg h1] at h;cases h
theorem jv {α:Type} {xs:List α} {i:Int} {v:α} (h:atI xs i=some v):∃j,seqIndex? i xs.length=some j/\xs[j]?=some v/\j < xs.length/\-(xs.length:Int)<=i/\i < xs.length:=by
 unfold atI at h
 cases e:ixN xs.length i with
 | none=>rw [e] at h;cases h
 | some j=>
  rw [e] at h
  obtain ⟨h1,h2,h3,h4⟩:=mY e
  exact ⟨j,h1,h,h2,h3,h4⟩
theorem jw {α:Type} {xs:List α} {j:Nat} {v:α} (h:xs[j]?=some v):atI xs (j:Int)=some v:=by
 have hj:j < xs.length:=(List.getElem?_eq_some_iff.mp h).1
 have e:ixN xs.length (j:Int)=some j:=by
  unfold ixN
  rw [if_pos (by omega),if_pos (by omega)];simp
 unfold atI;rw [e];exact h
def eG (b:Expr):Prop:=∀o i,subscripted b false o i=operate [o,i] (getItem o i)
def IxR (X:Cx) (r:R2):Prop:=
 ∀(value slice:Expr) (pins:List (Addr×Obj)) (s:El) (σ:St) (H:Hp) (x y:V) (v u:Ej) (Q:VK),Inv X pins σ H s->RelV x v->RelV y u->r x y H Q ->
  subscripted slice false v u=operate [v,u] (getItem v u)->Fp (Ff X.prog X.w) X.A (subscriptTail value slice v u) (EP X pins σ Q) X.xe s
def MtR (X:Cx) (id:String) (r:V->List V->Hp->VK->Prop):Prop:=
 ∀(pins:List (Addr×Obj)) (s:El) (σ:St) (H:Hp) (x:V) (xs:List V) (v:Ej) (us:List Ej) (Q:VK),Inv X pins σ H s->RelV x v->Vals xs us->r x xs H Q ->
  Fp (Ff X.prog X.w) X.A (call (.builtin id) (v::us)) (EP X pins σ Q) X.xe s
section
variable {X:Cx} {a b:Expr} {ta tb:TE} {pos:Pos}
theorem IxR.or {r r':R2} (h:IxR X r) (h':IxR X r'):IxR X (fun x y H Q=>r x y H Q\/r' x y H Q):=by
 intro value slice pins s σ H x y v u Q I rx ry q hs
 rcases q with q | q
 ·exact h value slice pins s σ H x y v u Q I rx ry q hs
 ·exact h' value slice pins s σ H x y v u Q I rx ry q hs
theorem kA {r:R2} (hr:IxR X r) (ha:PE X a ta) (hb:PE X b tb) (hs:eG b):PE X (.Subscript a b pos) (tOp r ta tb):=by
 intro pins s σ H Q I h
 exact Subscript_ (yN ha hb I h fun v u s2 x y H2 I2 rx ry q=>hr a b pins s2 σ H2 x y v u Q I2 rx ry q (hs _ _))
def Br (K:Ed):R2:=fun x y H Q=>∃p xs i v,x=.ref p/\y=.int i/\SqL K H p xs/\atI xs i=some v/\Q v H
def Bs (K:Ed):R2:=fun x y H Q=>∃p xs i v,x=.ref p/\y=.int i/\SqT K H p xs/\atI xs i=some v/\Q v H
def Bt:R2:=fun x y H Q=>∃z i c,x=.str z/\y=.int i/\z.length<=EW/\atI z.cps.toList i=some c/\Q (.str ⟨#[c]⟩) H
theorem tX:IxR X (Br X.K):=by
 intro value slice pins s σ H x y v u Q I rx ry h hs
 obtain ⟨p,xs,i,z,rfl,rfl,hq,he,q⟩:=h
 cases rx
 obtain ⟨t,rfl⟩:=ry
 obtain ⟨its,r,pl,hz⟩:=I.list hq
 obtain ⟨j,h1,h2,h3,h4,h5⟩:=jv he
 obtain ⟨w,ew,rw'⟩:=r.get h2
 have hl:=r.length
 have hn:=eV
 have fin:EP X pins σ Q w s:=⟨z,H,I,rw',q⟩
 by_cases h0:0<=i
 ·have hj:i.toNat=j:=by
   rw [KP h0 h5] at h1
   exact ER h1
  exact item_listR pl.isList h0 (by omega) (by rw [hj];simpa using ew) fin hs
 ·have hj:(i+(its.toArray.size:Int)).toNat=j:=by
   rw [KF (by omega) h4] at h1
   rw [Ex,<- hl]
   exact ER h1
  exact Jk (x:=w) pl.isList.typeIs slot_list_getitem.lookup
   (wpAny_getItem_list_neg (Q:=fun r s'=>r=w/\EP X pins σ Q r s') pl.isList (by omega) (by rw [Ex] <;> omega) (by omega) (by rw [hj];simpa using ew) ⟨rfl,fin⟩) hs
theorem yU:IxR X (Bs X.K):=by
 intro value slice pins s σ H x y v u Q I rx ry h hs
 obtain ⟨p,xs,i,z,rfl,rfl,hq,he,q⟩:=h
 cases rx
 obtain ⟨t,rfl⟩:=ry
 obtain ⟨its,r,pl,hz⟩:=I.tuple hq
 obtain ⟨j,h1,h2,h3,h4,h5⟩:=jv he
 obtain ⟨w,ew,rw'⟩:=r.get h2
 have hl:=r.length
 have hn:=eV
 have fin:EP X pins σ Q w s:=⟨z,H,I,rw',q⟩
 exact Jk (x:=w) pl.typeIs slot_tuple_getitem.lookup
  (getItem_tuple (j:=j) (Q:=fun r s'=>r=w/\EP X pins σ Q r s') pl (by omega) (by omega) (by rw [Ex,<- hl];exact h1) (by simpa using ew) ⟨rfl,fin⟩) hs
theorem yV:IxR X Bt:=by
 intro value slice pins s σ H x y v u Q I rx ry h hs
 obtain ⟨z,i,c,rfl,rfl,hz,he,q⟩:=h
 obtain ⟨t,rfl⟩:=rx
 obtain ⟨t',rfl⟩:=ry
 obtain ⟨j,h1,h2,h3,h4,h5⟩:=jv he
 have hl:z.cps.toList.length=z.length:=by simp [Str.length]
 rw [hl] at h1 h4 h5
 have hn:=eV
 exact K9 (typeIs_str s z t) slot_str_getitem.lookup (getItem_str (c:=c) (by
  have e1:decide (i < -(2 ^ 63:Int))=false:=decide_eq_false (by omega)
  have e2:decide (i >= 2 ^ 63)=false:=decide_eq_false (by omega)
  rw [e1,e2,Bool.or_false]) (by rw [h1];simpa using h2) ⟨.str ⟨#[c]⟩,H,I.tok _,⟨_,rfl⟩,q⟩) hs
def rIx (K:Ed):R2:=fun x y H Q=>Br K x y H Q\/Bs K x y H Q\/Bt x y H Q
theorem p8:IxR X (rIx X.K):=tX.or (yU.or yV)
theorem lW (its:List Ej) (n j:Nat) (u:Ej):FI (·.setIfInBounds j u) { cls:=.type "list",data:=.seq its.toArray n }={ cls:=.type "list",data:=.seq (its.set j u).toArray n }:=by
 simp [FI]
theorem Inv.lst {pins:List (Addr×Obj)} {σ:St} {H:Hp} {s:El} {p:Addr} {xs:List V} (I:Inv X pins σ H s) (h:H p=some (.lst xs)) :
  ∃(its:List Ej) (n:Nat),Vals xs its/\s.heap.get? p=some { cls:=.type "list",data:=.seq its.toArray n }/\xs.length<=EW:=by
 obtain ⟨z,its,n,r,e⟩:=I.hok p _ h
 exact ⟨its,n,r,e,z⟩
theorem Inv.lstUpd {pins:List (Addr×Obj)} {σ:St} {H:Hp} {s:El} {p:Addr} {xs ys:List V} {its its':List Ej} {n n':Nat} {f:Obj->Obj} (I:Inv X pins σ H s) (h:H p=some (.lst xs))
  (ho:s.heap.get? p=some { cls:=.type "list",data:=.seq its.toArray n }) (hf:f { cls:=.type "list",data:=.seq its.toArray n }={ cls:=.type "list",data:=.seq its'.toArray n' }) (r:Vals ys its') (hz:ys.length<=EW) (t:Nat) :
  Inv X pins σ (upd H p (.lst ys)) { s with heap:=s.heap.update p f,toks:=t }:=by
 have e:(s.heap.update p f).get? p=some { cls:=.type "list",data:=.seq its'.toArray n' }:=by
  rw [Heap.get?_update_self f ho (by rw [hf] <;> rfl),hf]
 refine I.write (x:=p) (e:=p) (by rw [h];trivial) (.inl rfl) (fun b u hb q=>(FA _ _ (Gu hb)).trans q) ⟨_,e⟩ ?_
 exact ⟨hz,its',n',r,e⟩
def mZ:V->V->V->Hp->(Hp->Prop)->Prop:=fun o i v H Q=>∃p xs k j,o=.ref p/\i=.int k/\H p=some (.lst xs)/\ixN xs.length k=some j/\Q (upd H p (.lst (xs.set j v)))
theorem set_list:yF X mZ:=by
 intro pins s σ H o i v ov iv u Q I ro ri rv h
 obtain ⟨p,xs,k,j,rfl,rfl,hp,hj,q⟩:=h
 cases ro
 obtain ⟨t,rfl⟩:=ri
 obtain ⟨its,n,r,ho,hz⟩:=I.lst hp
 obtain ⟨h1,h2,h3,h4⟩:=mY hj
 have hl:=r.length
 have hn:=eV
 have I':Inv X pins σ (upd H p (.lst (xs.set j v))) { s with heap:=s.heap.update p (FI (·.setIfInBounds j u)) }:=
  I.lstUpd hp ho (lW its n j u) (r.set rv j) (by rw [Js];exact hz) s.toks
 by_cases h0:0<=k
 ·have hk:k.toNat=j:=by
   rw [KP h0 h4] at h1
   exact ER h1
  exact PySem.W.ki_setAt ho h0 (by omega) (by rw [Ex,<- hl];exact h4) (by rw [hk];exact ⟨_,I',q⟩)
 ·have hk:(k+(its.toArray.size:Int)).toNat=j:=by
   rw [KF (by omega) h3] at h1
   rw [Ex,<- hl]
   exact ER h1
  exact PySem.W.ki_setBack ho (by omega) (by rw [Ex,<- hl];exact h3) (by omega) (by rw [hk];exact ⟨_,I',q⟩)
theorem jx:b6 X (.builtin "len") (fun xs H Q=>∃p ys,xs=[.ref p]/\(SqL X.K H p ys\/SqT X.K H p ys)/\Q (.int ys.length) H):=by
 intro pins s σ H xs us Q I r h
 obtain ⟨p,ys,rfl,hq,q⟩:=h
 obtain ⟨u,rfl,rx⟩:=vals1 r
 cases rx
 have hn:=eV
 rcases hq with hq | hq
 ·obtain ⟨its,r',pl,hz⟩:=I.list hq
  have hlen:=r'.length
  exact Calls.call_len_list pl.isList (by simp only [Ex] <;> omega) ⟨.int ys.length,H,I.tok _,⟨s.toks+1,by rw [Ex,hlen]⟩,q⟩
 ·obtain ⟨its,r',pl,hz⟩:=I.tuple hq
  have hlen:=r'.length
  exact len_tuple pl (by simp only [Ex] <;> omega) ⟨.int ys.length,H,I.tok _,⟨s.toks+1,by rw [Ex,hlen]⟩,q⟩
theorem jy:b6 X (.type "list") (fun xs H Q=>∃p ys,xs=[.ref p]/\(SqL X.K H p ys\/SqT X.K H p ys)/\∀l,H l=none->Q (.ref l) (upd H l (.lst ys))):=by
 intro pins s σ H xs us Q I r h
 obtain ⟨p,ys,rfl,hq,q⟩:=h
 obtain ⟨u,rfl,rx⟩:=vals1 r
 cases rx
 have fin:∀(its:List Ej),Vals ys its->ys.length<=EW->∀(h':Heap) (c':Nat),(∀b o',s.heap.get? b=some o'->h'.get? b=some o') ->
   h'.get? s.heap.objs.size=some { cls:=.type "list",dict:=none,data:=.seq its.toArray c',slots:=#[] }->EP X pins σ Q (.ref s.heap.objs.size) { s with heap:=h' }:=fun its r' hz h' c' kp e=>
  ⟨.ref s.heap.objs.size,_,I.laid (t':=s.toks) kp (Ek _) (show bG X.prog X.w _ h' _ (.lst ys) from ⟨hz,its,c',r',e⟩),rfl,q _ (I.hok.fresh (Ek _))⟩
 rcases hq with hq | hq
 ·obtain ⟨its,r',pl,hz⟩:=I.list hq
  have hlen:=r'.length
  obtain ⟨o,ho,hc,n,hd⟩:=pl.isList
  exact call_list_seq p (.inl rfl) ho hc hd (fun h' c' kp e=>fin its r' hz h' c' kp e) (by simp only [Ex] <;> omega)
 ·obtain ⟨its,r',pl,hz⟩:=I.tuple hq
  have hlen:=r'.length
  obtain ⟨o,ho,hc,n,hd⟩:=pl
  exact call_list_seq p (.inr rfl) ho hc hd (fun h' c' kp e=>fin its r' hz h' c' kp e) (by simp only [Ex] <;> omega)
theorem iO:b6 X (.type "tuple") (fun xs H Q=>∃p ys,xs=[.ref p]/\((SqL X.K H p ys/\∀l,H l=none->Q (.ref l) (upd H l (.tup ys)))\/(SqT X.K H p ys/\Q (.ref p) H))):=by
 intro pins s σ H xs us Q I r h
 obtain ⟨p,ys,rfl,h⟩:=h
 obtain ⟨u,rfl,rx⟩:=vals1 r
 cases rx
 rcases h with ⟨hq,q⟩ | ⟨hq,q⟩
 ·obtain ⟨its,r',pl,hz⟩:=I.list hq
  have hlen:=r'.length
  refine call_tuple_list pl.isList (fun h' kp=>?_) (by simp only [Ex] <;> omega)
  have I1:Inv X pins σ H { s with heap:=h' }:=I.kept (t':=s.toks) kp
  have I2:Inv X pins σ (upd H h'.objs.size (.tup ys)) { s with heap:=h'.push { cls:=.type "tuple",data:=.seq its.toArray } }:=
   I1.laid (t':=s.toks) (fun b o e=>Eg _ e) (Ek _) (show bG X.prog X.w _ _ _ (.tup ys) from ⟨hz,its,r',IsTup.new _ _⟩)
  exact ⟨.ref h'.objs.size,_,I2,rfl,q _ (I1.hok.fresh (Ek _))⟩
 ·obtain ⟨its,r',pl,hz⟩:=I.tuple hq
  exact call_tuple_same pl ⟨.ref p,H,I,rfl,q⟩
def tyV (K:Ed) (T:String) (x:V) (H:Hp):Prop:=match x with
 | .str _=>T="str"
 | .int _=>T="int"
 | .ref p=>(T="list"/\∃xs,SqL K H p xs)\/(T="tuple"/\∃o,K.lookup p=some o/\o.cls=.type "tuple"/\o.dict=none) \/
   (T="dict"/\((∃kvs,H p=some (.dK kvs))\/∃kvs,H p=some (.dT kvs)))\/(T="set"/\∃S n,H p=some (.set S n))
 | _=>False
theorem p9 {pins:List (Addr×Obj)} {σ:St} {H:Hp} {s:El} {T:String} {x:V} {v:Ej} (I:Inv X pins σ H s) (r:RelV x v) (ty:tyV X.K T x H) :
  s.TypeIs v T/\∀a,v=.ref a->∃ob,s.heap.get? a=some ob/\ob.dict=none:=by
 cases x with
 | str z=>
  obtain ⟨t,rfl⟩:=r
  cases (show T="str" from ty)
  exact ⟨typeIs_str s z t,fun _ e=>nomatch e⟩
 | int i=>
  obtain ⟨t,rfl⟩:=r
  cases (show T="int" from ty)
  exact ⟨K2 s i t,fun _ e=>nomatch e⟩
 | ref p=>
  cases r
  rcases ty with ⟨rfl,xs,hq⟩ | ⟨rfl,o,hk,hc,hd⟩ | ⟨rfl,hk⟩ | ⟨rfl,S,n,hk⟩
  ·obtain ⟨its,_,pl,_⟩:=I.list hq
   refine ⟨pl.isList.typeIs,fun a e=>?_⟩
   cases e
   obtain ⟨o,n,e,c,hd,_⟩:=pl
   exact ⟨o,e,hd⟩
  ·refine ⟨⟨o,I.kIn p o hk,hc⟩,fun a e=>?_⟩
   cases e
   exact ⟨o,I.kIn _ o hk,hd⟩
  ·have z:∃o,s.heap.get? p=some o/\o.ExactDict:=by
    rcases hk with ⟨kvs,hk⟩ | ⟨kvs,hk⟩
    ·obtain ⟨_,_,_,_,o,_,_,e,ex,_⟩:=I.hok p _ hk
     exact ⟨o,e,ex⟩
    ·obtain ⟨_,_,_,_,o,_,_,e,ex,_⟩:=I.hok p _ hk
     exact ⟨o,e,ex⟩
   obtain ⟨o,e,ex⟩:=z
   refine ⟨⟨o,e,ex.1⟩,fun a e2=>?_⟩
   cases e2
   exact ⟨o,e,ex.2.1⟩
  ·obtain ⟨o,_,_,_,e,ex,_⟩:=I.hok p _ hk
   refine ⟨⟨o,e,ex.1⟩,fun a e2=>?_⟩
   cases e2
   exact ⟨o,e,ex.2.1⟩
 | _=>exact G1 ty
def Bu (K:Ed) (T:String) (r:V->List V->Hp->VK->Prop) (to:TE):TE:=fun σ H Q=>to σ H fun x H1=>tyV K T x H1/\r x [] H1 Q
def tBM (K:Ed) (T:String) (r:V->List V->Hp->VK->Prop) (to:TE) (t:TA):TE:=fun σ H Q=>to σ H fun x H1=>tyV K T x H1/\t σ H1 fun xs H2=>r x xs H2 Q
variable {o e:Expr} {es:List Expr} {to:TE} {t:TA} {name:Str} {apos cpos:Pos} {T id:String} {r:V->List V->Hp->VK->Prop}
theorem yW (pa:PlainAttrs T) (slot:Slot T name id) (hty:typeOf (.builtin id)=pure (.type "method_descriptor")) (hm:MtR X id r) (ho:PE X o to)
  (hbase:HP o name X.env (eval o X.env)=eval o X.env:=by rfl) (hline:(apos.endLine==cpos.line)=true:=by rfl):PE X (.Call (.Attribute o name apos) [] [] cpos) (Bu X.K T r to):=by
 intro pins s σ H Q I h
 refine wpAny_Call_method0_late hbase hline (thn (ho pins s σ H _ I h) fun v s1 zr1=>?_)
 obtain ⟨x,H1,I1,r1,ty,q1⟩:=zr1
 obtain ⟨h1,h2⟩:=p9 I1 r1 ty
 exact ⟨T,id,pa,slot,hty,h1,h2,Jl rfl (PySem.evalArgs_none (hm pins s1 σ H1 x [] v [] Q I1 r1 .nil q1))⟩
theorem w9 (pa:PlainAttrs T) (slot:Slot T name id) (hty:typeOf (.builtin id)=pure (.type "method_descriptor")) (hm:MtR X id r) (ho:PE X o to) (ha:PA X (e::es) t)
  (hbase:HP o name X.env (eval o X.env)=eval o X.env:=by rfl)
  (hfew:((HD cpos (EO (e::es) X.env)).all (fun x=>!x.1)&&(backToKw cpos (KQ [] X.env)).all (fun x=>x.1.isSome)
   && decide ((e::es).length+([]:List KR).length+(if ([]:List KR).isEmpty then 0 else 1) < 30))=true:=by rfl)
  (hline:(apos.endLine==cpos.line)=true:=by rfl) (hs:EO (e::es) X.env=(false,eval e X.env)::EO es X.env:=by rfl) (hplain:(HD cpos (EO es X.env)).any (·.1)=false:=by rfl) :
  PE X (.Call (.Attribute o name apos) (e::es) [] cpos) (tBM X.K T r to t):=by
 intro pins s σ H Q I h
 refine wpAny_Call_method_late hbase hfew hline rfl (thn (ho pins s σ H _ I h) fun v s1 zr1=>?_)
 obtain ⟨x,H1,I1,r1,ty,q1⟩:=zr1
 obtain ⟨h1,h2⟩:=p9 I1 r1 ty
 refine ⟨T,id,pa,slot,hty,h1,h2,?_⟩
 have hA:=ha cpos pins s1 σ H1 _ I1 q1
 rw [hs] at hA ⊢
 refine Jl (by show (false||(HD cpos (EO es X.env)).any (·.1))=false;rw [hplain] <;> rfl) (Calls.evalArgs_plain ?_)
 exact thn hA fun us s2 zt1=>by obtain ⟨vs,H2,I2,r2,q2⟩:=zt1;exact hm pins s2 σ H2 x vs v us Q I2 r1 r2 q2
end
end L2
namespace L2
open PySem PySem.Spec PyProof.Rows
def MtM (X:Cx) (id:String) (r:V->List V->Hp->VK->Prop):Prop:=
 ∀(pins:List (Addr×Obj)) (s:El) (σ:St) (H:Hp) (x:V) (xs:List V) (v:Ej) (us:List Ej) (Q:VK),Inv X pins σ H s->RelV x v->Vals xs us->r x xs H Q ->
  Fp (Ff X.prog X.w) X.A (call (.builtin id) (v::us)) (EP X pins σ Q) X.xe s
theorem Vals.one:∀{x:V} {us:List Ej},Vals [x] us->∃u,us=[u]/\RelV x u:=by
 intro x us h
 cases h with
 | cons r h=>cases h;exact ⟨_,rfl,r⟩
theorem Vals.reverse {xs:List V} {us:List Ej} (h:Vals xs us):Vals xs.reverse us.reverse:=by
 induction h with
 | nil=>exact .nil
 | cons r t ih=>rw [Hv,Hv];exact Vals.append ih (.cons r .nil)
theorem Vals.rep {xs:List V} {us:List Ej} (h:Vals xs us):∀k:Nat,Vals (Ep k xs).flatten (Ep k us).flatten
 | 0=>.nil
 | k+1=>by
  rw [FH,FH,Gr,Gr]
  exact Vals.append h (Vals.rep h k)
theorem foldl_rep (its:List Ej):∀(k:Nat) (acc:List Ej),
  K3 (fun x1 x2=>x1++x2) acc.toArray (Ep k its.toArray)=(acc++(Ep k its).flatten).toArray
 | 0,acc=>by simp
 | k+1,acc=>by
  have e:acc.toArray++its.toArray=(acc++its).toArray:=by simp
  have e2:(acc++its)++(Ep k its).flatten=acc++(Ep (k+1) its).flatten:=by
   rw [FH,Gr,Ey]
  rw [<- e2,<- foldl_rep its k (acc++its),<- e,FH,Ib]
section
variable {X:Cx} {pins:List (Addr×Obj)} {σ:St} {H:Hp} {s:El} {l b:Addr} {xs ys zs:List V}
theorem Inv.lset {its its':List Ej} {n:Nat} {f:Array Ej->Array Ej} {t':Nat} (I:Inv X pins σ H s) (hH:H l=some (.lst xs))
  (e:s.heap.get? l=some { cls:=.type "list",data:=.seq its.toArray n }) (hf:f its.toArray=its'.toArray) (hv:Vals ys its') (hz:ys.length<=EW) :
  Inv X pins σ (upd H l (.lst ys)) { s with heap:=s.heap.update l (FI f),toks:=t' }:=by
 have q:=HJ e f
 rw [hf] at q
 refine I.write (x:=l) (e:=l) (by rw [hH];exact trivial) (.inl rfl) (fun b' u hb hu=>(FA s.heap (FI f) (Gu hb)).trans hu) ⟨_,q⟩ ?_
 exact ⟨hz,its',_,hv,q⟩
theorem Inv.lnew {its:List Ej} {t':Nat} (I:Inv X pins σ H s) (hv:Vals ys its) (hz:ys.length<=EW) :
  Inv X pins σ (upd H s.heap.objs.size (.lst ys)) { s with heap:=s.heap.push { cls:=.type "list",data:=.seq its.toArray },toks:=t' }:=
 I.laid (fun _ _ q=>Eg _ q) (Ek _) ⟨hz,its,0,hv,EG _ rfl⟩
theorem Inv.fresh (I:Inv X pins σ H s):H s.heap.objs.size=none:=I.hok.fresh (Ek _)
theorem Inv.lstM (I:Inv X pins σ H s) (hH:H l=some (.lst xs)):xs.length<=EW/\∃(its:List Ej) (n:Nat),Vals xs its/\xs.length=its.length/\s.heap.get? l=some { cls:=.type "list",data:=.seq its.toArray n }:=by
 obtain ⟨z,its,n,r,e⟩:=I.hok l _ hH
 exact ⟨z,its,n,r,r.length,e⟩
theorem kB {n:Nat} (h:n<=EW):GG n=false:=by
 unfold GG
 exact decide_eq_false (by omega)
end
section
variable {X:Cx}
def gx:V->List V->Hp->VK->Prop:=fun x vs H Q=>∃l xs y,x=.ref l/\vs=[y]/\H l=some (.lst xs)/\xs.length < EW/\Q .non (upd H l (.lst (xs++[y])))
theorem oE:MtM X "list.append" gx:=by
 intro pins s σ H x vs v us Q I rx rv h
 obtain ⟨l,xs,y,rfl,rfl,hH,hz,q⟩:=h
 cases rx
 obtain ⟨u,rfl,ru⟩:=rv.one
 obtain ⟨z,its,n,r,hl,e⟩:=I.lstM hH
 refine HY F.slot_list_append ⟨_,e,rfl⟩ F.entry_list_append (F.args_list_append_2 _ _) (Hw l its.toArray n u (by rw [Ex];omega)) ⟨e,?_⟩
 refine ⟨.non,_,I.lset (its':=its++[u]) hH e (by simp) (r.append (.cons ru .nil)) ?_,rfl,q⟩
 rw [E7,Jt]
 omega
def m3:V->List V->Hp->VK->Prop:=fun x vs H Q=>∃l b xs zs,x=.ref l/\vs=[.ref b]/\H l=some (.lst xs)/\H b=some (.lst zs)/\xs.length+zs.length<=EW/\Q .non (upd H l (.lst (xs++zs)))
theorem oF:MtM X "list.extend" m3:=by
 intro pins s σ H x vs v us Q I rx rv h
 obtain ⟨l,b,xs,zs,rfl,rfl,hH,hB,hz,q⟩:=h
 cases rx
 obtain ⟨u,rfl,ru⟩:=rv.one
 cases ru
 obtain ⟨z,its,n,r,hl,e⟩:=I.lstM hH
 obtain ⟨z2,its2,n2,r2,hl2,e2⟩:=I.lstM hB
 have hsz:its.toArray.size+its2.toArray.size<=EW:=by rw [Ex,Ex];omega
 have hlong:¬ (!its.toArray.isEmpty&&GG (its.toArray.size+its2.toArray.size))=true:=by
  rw [kB hsz,Bool.and_false]
  exact Er
 refine HY F.slot_list_extend ⟨_,e,rfl⟩ F.entry_list_extend (F.args_list_extend_2 _ _)
  (AutoSeq1.list_extend_list_list_0 l its.toArray n b its2.toArray n2 hlong (by rw [Ex];omega) (by omega)) ⟨e,e2,?_⟩
 refine ⟨.non,_,I.lset (its':=its++its2) hH e (by simp) (r.append r2) ?_,rfl,q⟩
 rw [E7]
 omega
def Bv:R2:=fun x y H Q=>∃l b xs zs,x=.ref l/\y=.ref b/\H l=some (.lst xs)/\H b=some (.lst zs)/\xs.length+zs.length<=EW/\∀p,H p=none->Q (.ref p) (upd H p (.lst (xs++zs)))
theorem yX:OpR X (Hf .Add) Bv:=by
 intro pins s σ H x y v u Q I rx ry h
 obtain ⟨l,b,xs,zs,rfl,rfl,hH,hB,hz,q⟩:=h
 cases rx
 cases ry
 obtain ⟨z,its,n,r,hl,e⟩:=I.lstM hH
 obtain ⟨z2,its2,n2,r2,hl2,e2⟩:=I.lstM hB
 refine PySem.P.add_list e e2 ?_ (by rw [Ex,Ex];omega)
 have ea:its.toArray++its2.toArray=(its++its2).toArray:=by simp
 rw [ea]
 exact ⟨.ref _,_,I.lnew (t':=s.toks) (r.append r2) (by rw [E7];omega),rfl,q _ I.fresh⟩
def Bw:R2:=fun x y H Q=>∃l k xs,x=.ref l/\y=.int k/\H l=some (.lst xs)/\-(2 ^ 63)<=k/\k < 2 ^ 63/\xs.length*k.toNat<=EW /\
 ∀p,H p=none->Q (.ref p) (upd H p (.lst (Ep k.toNat xs).flatten))
theorem len_rep {α:Type} (xs:List α) (k:Nat):(Ep k xs).flatten.length=k*xs.length:=by
 induction k with
 | zero=>simp
 | succ k ih=>rw [FH,Gr,E7,ih,Ju,Nat.add_comm]
theorem yY:OpR X (Hf .Mult) Bw:=by
 intro pins s σ H x y v u Q I rx ry h
 obtain ⟨l,k,xs,rfl,rfl,hH,h1,h2,hz,q⟩:=h
 cases rx
 obtain ⟨t,rfl⟩:=ry
 obtain ⟨z,its,n,r,hl,e⟩:=I.lstM hH
 have hlen:its.toArray.size*k.toNat<=EW:=by rw [Ex,<- hl];exact hz
 have hcap:¬ its.toArray.size*k.toNat > (2 ^ 63-1) / 8:=by
  have:(EW:Nat)<=(2 ^ 63-1) / 8:=by decide
  omega
 have hfit:¬ (!Builtin.List.listFitsIndex k)=true:=by
  rw [fitsIndex_both h1 h2]
  exact Er
 have hlong:¬ GG (its.toArray.size*k.toNat)=true:=by
  rw [kB hlen]
  exact Er
 have hnew:K3 (fun x1 x2=>x1++x2) #[] (Ep (if its.toArray.isEmpty=true then 0 else k.toNat) its.toArray)=(Ep k.toNat its).flatten.toArray:=by
  have f0:∀m:Nat,K3 (fun x1 x2=>x1++x2) #[] (Ep m its.toArray)=(Ep m its).flatten.toArray:=fun m=>by
   have:=foldl_rep its m []
   rw [E8] at this
   exact this
  rw [f0]
  cases its with
  | nil=>simp
  | cons a r'=>rw [if_neg (by simp)]
 refine wpAny_binaryOp_repeat_ref (T:="list") (U:="int") (by decide) ⟨_,e,rfl⟩ (fun s'=>K2 s' k t) noFill_list_mul F.fills_int_mul F.slot_int_rmul repeat_list F.slot_int_index.lookup
  (HY F.slot_int_rmul (K2 s k t) F.entry_int_rmul (F.args_int_rmul_2 _ _) (int___rmul___int_list k t l its.toArray n)
   ⟨e,rfl,⟨_,e,rfl⟩,HY F.slot_list_mul ⟨_,e,rfl⟩ F.entry_list_mul (F.args_list_mul_2 _ _) (AutoListH.list___mul___list_int_3 l its.toArray n k t hfit hcap hlong) ⟨e,?_⟩⟩)
 rw [hnew]
 exact ⟨.ref _,_,I.lnew (t':=s.toks) (r.rep k.toNat) (by rw [len_rep,Nat.mul_comm];exact hz),rfl,q _ I.fresh⟩
end
end L2
namespace Att
open PySem PySem.W PySem.Calls PyProof.Rows
theorem gp {P:Params} {h:Heap}:∀(ns:List Int) (vs:List Ej),WellAll P h vs (ns.map WData.int)->Ks vs ns:=by
 intro ns
 induction ns with
 | nil=>
  intro vs w
  rw [Fd] at w
  cases w
  exact .nil
 | cons n ns ih=>
  intro vs w
  rw [EB] at w
  cases w with
  | cons a b=>
   cases a
   exact .cons _ _ (ih _ b)
theorem oG {l:OpenLaw} {n:Nat} (hn:l.most=some n) {P:Params} {h:Heap} {args:List WData} {vals:List Ej}
  (hpre:l.row.toRowW.claim.pre args=true) (hwl:WellAll P h vals args) :
  ∃a vs ns,vals=[ET a]/\args=[WData.list (ns.map WData.int)]/\h.get? a=some { cls:=.type "list",data:=.seq vs.toArray }/\Ks vs ns/\ns.length<=n:=by
 have hsh:WShape.hasAll [] args [.list .int]=true:=(pre_splitW hpre).1
 have hc:l.pre.holds [] { args:=args }=true:=(pre_splitW hpre).2
 obtain ⟨d,r,rfl,h1,h2⟩:=hasAllW_cons hsh
 obtain rfl:=hasAllW_nil h2
 obtain ⟨xs,rfl,h3⟩:=hasW_list h1
 obtain ⟨ns,rfl⟩:=items_int h3
 have hlen:ns.length<=n:=by
  unfold OpenLaw.pre at hc
  have h4:(WTm.not (.lt (.lit (.int (n:Int))) (.len (.arg 0)))).holds [] { args:=[.list (ns.map .int)] }=true:=by
   have h4:=(holds_andW hc).1
   rw [hn] at h4
   exact h4
  have h5:=condW_of h4 (w_not (w_lt w_lit (w_len_list (w_arg rfl))))
  rw [Eh] at h5
  refine Nat.le_of_not_lt fun q=>?_
  have q':(n:Int) < ((ns.length:Nat):Int):=by omega
  first
   | (rw [decide_eq_true q'] at h5;exact absurd h5 (by decide))
   | (simp at h5;omega)
 cases hwl with
 | cons w1 w2=>
  cases w2
  cases w1 with
  | list ho hall=>exact ⟨_,_,ns,rfl,rfl,ho,gp ns _ hall,hlen⟩
theorem oH (l:OpenLaw) (args:List WData):l.row.toRowW.claim.post args (.bool true) args=true:=
 postW_of (r:=l.row.toRowW) (X:=(true==true))
  (show WShape.has [] (.bool true) .bool=true by first | rfl | decide | simp [WShape.has,WShape.arms,WShape.armsAll])
  (show (WTm.eq .res (.lit (.bool true))).value [] { args:=args,res:=some (.bool true),after:=args }=some (.bool (true==true)) from w_eq_bool (w_res rfl) w_lit) rfl
theorem kC {l:OpenLaw} {n:Nat} {q:E2} {loose:List Str} {XP:(Str->Option Ej)->Heap->Prop} {YP:FO->Heap->Prop} {d:DefRec}
  (hn:l.most=some n) (hdf:d.params.defaults=[])
  (call:∀(w:FO) (s₀ s₁:El) (mg mb:Str->Option Ej) (fa:Addr) (o:Obj) (pm cd doc:Ej) (a:Addr) (vs:List Ej) (ns:List Int),
   Ground q loose [] XP w s₀ mg mb s₁.heap->YP w s₁.heap ->
   s₁.heap.get? fa=some o->o.data=.func (docDef d.name d.params d.body d.scope pm cd doc)->s₁.heap.CodeRec cd d.name->mg d.name=some (.ref fa) ->
   s₁.heap.get? a=some { cls:=.type "list",data:=.seq vs.toArray }->Ks vs ns->ns.length<=n->s₁.gens=#[] ->
   G8 (Ff l.prog w) Kt (.call (.ref fa) ⟨[.ref a],[]⟩) (fun r s'=>r=.ok (.ret (.bool true))/\OldK s₁.heap s'.heap/\s'.os=s₁.os/\IY s'.gens) s₁) :
  WalkO q loose XP YP l.row.toRowW d [] (fun f vs=>K4 f vs):=by
 intro w s₀ s₁ mg mb G Y fa o pm cd doc dV kV ho hd hcd hD hmg hg args vals as hpre hlay hrd hwl hlo
 obtain rfl:dV=.none:=Dflts.none hD hdf
 obtain rfl:kV=.none:=Dflts.noKw hD
 obtain ⟨a,vs,ns,rfl,rfl,hobj,hints,hlen⟩:=oG hn hpre hwl
 refine enter_call (KE (call w s₀ s₁ mg mb fa o pm cd doc a vs ns G Y ho (fd_plain hd) hcd hmg hobj hints hlen hg) fun r s' hq=>?_)
 obtain ⟨rfl,h2,h3,h4⟩:=hq
 exact ⟨.inl ⟨.bool true,.bool true,[],rfl,fun _=>rfl,.bool true,oH l _,fun _=>⟨IN,fun _ hm=>(nomatch hm)⟩⟩,h2,h3,h4⟩
end Att
namespace L2
open PySem PySem.Spec PyProof.Rows
theorem iW:∀{vs:List Ej} {ns:List Int},Ks vs ns->Vals (ns.map V.int) vs
 | _,_,.nil=>.nil
 | _,_,.cons n t h=>.cons ⟨t,rfl⟩ (iW h)
def Only (H:Hp):Prop:=∀b,H b=none\/∃o xs,H b=some (.frz o (.lst xs))
theorem qa {P:E2} {w:FO} {K:Ed} {mg mb:Str->Option Ej} {CX:CXT} {k:Nat} {fa a:Addr} {fd:G2} {x:Str} {sp:Sp} {s₁:El} {vs:List Ej} {ns:List Int}
  (KX:K.In s₁.heap) (hns:s₁.heap.Ns EL mg) (hb:s₁.heap.Ns K0 mb) (hbb:∀x:Str,x≠"__name__"->mb x=Fk x) (hlim:s₁.heap.NoLimit) (hg:s₁.gens=#[])
  (ha:s₁.heap.get? a=some { cls:=.type "list",data:=.seq vs.toArray }) (hi:Ks vs ns) (hl:ns.length<=EW) (hr:cz k Kt)
  (F:∀base:Heap,K.In base->base.Ns EL mg->iN P w K mg base CX k fa fd [x] sp) (hbind:∀(s:El) (u:Ej),Kr s fd ⟨[u],[]⟩ [(x,u)])
  (hsp:∀H:Hp,Only H->SqL K H a (ns.map V.int)->sp [.ref a] H (fun v _=>v=.bl true) fun _ _ _=>False)
  (hCX:∀H e s',CX [] H s₁ (fun _ _ _=>False) e s'->False) :
  G8 (Ff P w) Kt (.call (.ref fa) ⟨[.ref a],[]⟩) (fun r s'=>r=.ok (.ret (.bool true))/\OldK s₁.heap s'.heap/\s'.os=s₁.os/\IY s'.gens) s₁:=by
 have rv:=iW hi
 have lenV:=hi.length
 -- from an abstract heap in which nothing but the script may be tracked
 have core:∀H:Hp,Only H->SqL K H a (ns.map V.int)->HOk P w H s₁.heap->(∀b,H b≠none->b=a)->(H a≠none->K.lookup a=none) ->
   G8 (Ff P w) Kt (.call (.ref fa) ⟨[.ref a],[]⟩) (fun r s'=>r=.ok (.ret (.bool true))/\OldK s₁.heap s'.heap/\s'.os=s₁.os/\IY s'.gens) s₁:=by
  intro H hO hS hok hA hK
  have base_of:∀{b:Addr} {o:Obj},s₁.heap.get? b=some o->H b=none->(jr s₁.heap H).get? b=some o:=fun e n=>pL e n
  have noA:∀{b:Addr} {o:Obj} {es:Array Ic} {ep:Nat},s₁.heap.get? b=some o->o.data=.dict es ep->H b=none:=fun {b o es ep} e d=>by
   cases q:H b with
   | none=>rfl
   | some u=>
    have e':b=a:=hA b (by rw [q];simp)
    subst e'
    rw [ha] at e;cases e
    have d':IZ vs.toArray _=Data.dict es ep:=d
    cases d'
  have nsK:∀{b:Addr} {m:Str->Option Ej},s₁.heap.Ns b m->(jr s₁.heap H).Ns b m:=fun {b m} zt1=>by obtain ⟨o,es,ep,e,d,r⟩:=zt1;exact ⟨o,es,ep,base_of e (noA e d),d,r⟩
  have hKb:K.In (jr s₁.heap H):=fun b o e=>base_of (KX b o e) (by
   cases q:H b with
   | none=>rfl
   | some u=>
    have e':b=a:=hA b (by rw [q];simp)
    subst e'
    rw [hK (by rw [q];simp)] at e;cases e)
  have hM:Mod K mg (jr s₁.heap H):=⟨hKb,nsK hns,⟨mb,nsK hb,hbb⟩,let ⟨mc,h1,h2⟩:=hlim;⟨mc,nsK h1,h2⟩⟩
  have e0:Env0 P w K mg (jr s₁.heap H) Kt [] s₁ H:=⟨rfl,hM,fun b o e=>tG e,HF (ot _ _),trivial,fun b hb=>absurd (show b∈([]:List Addr) from hb) (by simp),hok,.of_eq hg⟩
  refine KE ((F _ hKb (nsK hns)).run Kt [] s₁ H ⟨[.ref a],[]⟩ [.ref a] [.ref a] _ _ hr e0 (hbind s₁ (.ref a)) (.cons rfl .nil) (hsp H hO hS)) fun r s' h=>?_
  cases r with
  | error e=>exact (hCX H e s' h).elim
  | ok fl=>
   cases fl with
   | next=>exact G1 h
   | brk=>exact G1 h
   | cont=>exact G1 h
   | ret u=>
    obtain ⟨v,H',os,bare,un,hok',r',q⟩:=h
    have q':v=.bl true:=q
    subst q'
    obtain rfl:u=Kq true:=r'
    refine ⟨rfl,OldK.of_keep fun b o e=>?_,os,bare⟩
    cases q:H b with
    | none=>exact un.keep b o e q (by intro z;exact absurd (show b∈([]:List Addr) from z) (by simp)) (by simp)
    | some u=>
     rcases hO b with z | ⟨ob,xs,z⟩
     ·rw [q] at z;cases z
     ·have z2:=un.frzs b ob _ z
      obtain ⟨e1,_⟩:=hok b _ z
      obtain ⟨e2,_⟩:=hok' b _ z2
      rw [e] at e1;cases e1
      exact e2
 cases hk:K.lookup a with
 | some o=>
  -- the script is one of the module's own objects
  have e:=KX a o hk
  rw [ha] at e
  cases e
  refine core (fun _=>none) (fun _=>.inl rfl) (.inr ⟨_,vs.toArray,_,hk,rfl,rfl,rfl,by rw [Ex,lenV];exact hl,by simpa using rv⟩) (fun b u z=>by have z':(none:Option HO)=some u:=z;cases z') (fun b z=>absurd rfl z) fun z=>absurd rfl z
 | none=>
  refine core (fun b=>if b=a then some (.frz { cls:=.type "list",data:=.seq vs.toArray } (.lst (ns.map V.int))) else none) (fun b=>?_) (.inl (.inr ⟨{ cls:=.type "list",data:=.seq vs.toArray },if_pos rfl⟩)) (fun b u z=>?_) (fun b z=>?_) fun _=>hk
  ·by_cases hb:b=a
   ·exact .inr ⟨_,_,if_pos hb⟩
   ·exact .inl (if_neg hb)
  ·by_cases hb:b=a
   ·have z':=(if_pos hb).symm.trans z
    cases z'
    subst hb
    exact ⟨ha,by rw [Eh];exact hl,vs,_,rv,ha⟩
   ·have z':=(if_neg hb).symm.trans z
    cases z'
  ·by_cases hb:b=a
   ·exact hb
   ·exact absurd (if_neg hb) z
end L2
namespace L2
open PySem PySem.Spec PyProof.Rows
theorem tY {l:Jw} {n k:Nat} {q:E2} {loose:List Str} {XP:(Str->Option Ej)->Heap->Prop} {YP:FO->Heap->Prop} {d:DefRec} {K:Params->Ed} {CX:FO->CXT} {sp:FO->Sp} {x:Str}
  (hn:l.most=some n) (hn2:n<=EW) (hdf:d.params.defaults=[]) (hr:cz k Kt)
  (hY:∀(w:FO) (h:Heap),YP w h->(K w.params).In h)
  (F:∀(w:FO) (mg:Str->Option Ej) (fa:Addr) (h:Heap),(K w.params).In h->h.Ns EL mg->mg d.name=some (.ref fa) ->
   ∃fd:G2,(∀(s:El) (u:Ej),Kr s fd ⟨[u],[]⟩ [(x,u)]) /\
    ∀base:Heap,(K w.params).In base->base.Ns EL mg->iN l.prog w (K w.params) mg base (CX w) k fa fd [x] (sp w))
  (hsp:∀(w:FO) (H:Hp) (a:Addr) (ns:List Int),ns.length<=n->Only H->SqL (K w.params) H a (ns.map V.int)->sp w [.ref a] H (fun v _=>v=.bl true) fun _ _ _=>False)
  (hCX:∀(w:FO) (H:Hp) (s:El) (e:Ej) (s':El),CX w [] H s (fun _ _ _=>False) e s'->False) :
  PySem.W.WalkO q loose XP YP l.row.toRowW d [] (fun f vs=>K4 f vs):=by
 refine Att.kC hn hdf fun w s₀ s₁ mg mb fa o pm cd doc a vs ns G Y ho hd hcd hmg hobj hints hlen hg=>?_
 have KX:=hY w _ Y
 obtain ⟨fd,hb,hF⟩:=F w mg fa _ KX G.T.g hmg
 exact qa KX G.T.g G.T.b G.T.builtins G.T.nolimit hg hobj hints (Fz hlen hn2) hr hF hb (fun H hO hS=>hsp w H a ns hlen hO hS) fun H e s'=>hCX w H s₁ e s'
end L2
namespace L2
open PySem PySem.Spec PyProof.Rows
def cA (s:Stmt):Arguments:=match s with
 | .FunctionDef _ a _ _ _ _ _ _ _ _=>a
 | _=>{ posonlyargs:=[],args:=[],vararg:=none,kwonlyargs:=[],kw_defaults:=[],kwarg:=none,defaults:=[] }
def bL (s:Stmt):List Stmt:=match s with
 | .FunctionDef _ _ b _ _ _ _ _ _ _=>b
 | _=>[]
def ao (s:Stmt):Ha:=match s with
 | .FunctionDef _ _ _ _ _ _ sc _ _ _=>sc
 | _=>{ kind:=.function,names:=[],isGenerator:=false,isCoroutine:=false }
abbrev CX0:CXT:=fun _ _ _ _ _ _=>False
abbrev E0:XK:=fun _ _ _=>False
theorem By {X:Cx}:lV CX0 X E0:=fun _ _ _ _ _ _ _ h=>h.elim
structure Fun (K:Ed) (x qual:Str) (st:Stmt) (f:Addr) (fd:G2):Prop where
 ex:∃(oc:Ej) (od:Option Addr) (kV doc pm:Ej) (an:Option Addr) (cdv ct:Ej) (osl:Array (Option Ej)),
  fd=Gq x qual (cA st) (bL st) (ao st) .none kV doc pm an cdv ct/\K.lookup f=some ⟨oc,od,.func fd,osl⟩/\IC K cdv qual=true
 kp:Hz K (.ref f)=true
section
variable {P:E2} {w:FO} {K:Ed} {mg:Str->Option Ej} {base:Heap}
theorem Fun.ok {x qual:Str} {st:Stmt} {f:Addr} {fd:G2} {N ps:List Str} {k:Nat} {sp:Sp} (F:Fun K x qual st f fd) (S:aB N ps (ao st)) (len:∀vs H Q E,sp vs H Q E->vs.length=ps.length)
  (hbody:∀(cdv:Ej) (A:F4) (outer:List Env) (s:El) (H:Hp) (vs:List V) (Q:VK) (E:XK),cz k (A.deeper (envOfC qual (ao st) s.heap.objs.size f cdv))->sp vs H Q E ->
   ∃t,PSs (ju CX0 P w K mg base N qual (ao st) f cdv A outer s H E).nox (bL st) t/\t { nx:=fun _ H'=>Q .non H',rt:=Q } (start N vs) H):iN P w K mg base CX0 (k+1) f fd ps sp:=by
 obtain ⟨oc,od,kV,doc,pm,an,cdv,ct,osl,rfl,lk,hcd⟩:=F.ex
 refine Bq lk hcd S len fun A outer s H vs Q E hr hsp=>?_
 obtain ⟨t,h,q⟩:=hbody cdv A outer s H vs Q E hr hsp
 exact ⟨t,h.nox,q⟩
theorem Fun.binds {x qual:Str} {st:Stmt} {f:Addr} {fd:G2} {ps:List Str} (F:Fun K x qual st f fd)
  (h:∀(kV doc pm:Ej) (an:Option Addr) (cdv ct:Ej) (us:List Ej),us.length=ps.length->Ki (Gq x qual (cA st) (bL st) (ao st) .none kV doc pm an cdv ct) ⟨us,[]⟩=pure (ps.zip us)):Binds K fd ps []:=by
 obtain ⟨oc,od,kV,doc,pm,an,cdv,ct,osl,rfl,lk,hcd⟩:=F.ex
 exact .all (h kV doc pm an cdv ct)
theorem yZ {x qual:Str} {st:Stmt} {f:Addr} {oc:Ej} {od an:Option Addr} {osl:Array (Option Ej)} {kV doc pm cdv ct:Ej} (l:K.lookup f=some ⟨oc,od,.func (Gq x qual (cA st) (bL st) (ao st) .none kV doc pm an cdv ct),osl⟩)
  (c:IC K cdv qual=true) (k:Hz K (.ref f)=true):Fun K x qual st f (Gq x qual (cA st) (bL st) (ao st) .none kV doc pm an cdv ct):=⟨⟨oc,od,kV,doc,pm,an,cdv,ct,osl,rfl,l,c⟩,k⟩
end
section
variable {X:Cx}
theorem pv (i:Nat) {x:Str} {pos:Pos} (hN:X.N[i]?=some x:=by rfl) (hv:Vis X.env.scope x:=by first | exact Ew rfl | exact FS (Ew rfl) | exact FS (FS rfl)) (hd:(x==("__debug__":Str))=false:=by decide)
  (hcd:(x==("__classdict__":Str))=false:=by decide):PE X (.Name x pos) (cP i):=yu hN hv hd hcd
end
end L2
section
namespace L2
open PySem PySem.Spec PyProof.Rows
theorem qb:Fk "int"=some (.type "int"):=by decide +kernel
theorem tZ:Fk "bool"=some (.type "bool"):=by decide +kernel
theorem m4:Fk "list"=some (.type "list"):=by decide +kernel
theorem gU:Fk "tuple"=some (.type "tuple"):=by decide +kernel
theorem eW:Fk "len"=some (.builtin "len"):=by decide +kernel
theorem cf:Fk "isinstance"=some (.builtin "isinstance"):=by decide +kernel
def Has (P:E2) (w:FO) (K:Ed) (mg:Str->Option Ej) (base:Heap) (k:Nat) (x:Str) (ps:List Str) (sp:Sp):Prop:=
 ∃(f:Addr) (fd:G2),iN P w K mg base CX0 k f fd ps sp/\mg x=some (.ref f)/\Hz K (.ref f)=true/\Binds K fd ps []/\∃(oc:Ej) (od:Option Addr) (osl:Array (Option Ej)),K.lookup f=some ⟨oc,od,.func fd,osl⟩
theorem qc {X:Cx} {j k:Nat} {x:Str} {ps:List Str} {sp:Sp} {e:Expr} {es:List Expr} {t:TA} {p pos:Pos} (E:Has X.prog X.w X.K X.mg X.base k x ps sp) (hr:cz j X.A) (ha:PA X (e::es) t)
  (hk:k<=j:=by decide) (hg:Gl X x:=by rfl) (hdb:(x==("__debug__":Str))=false:=by decide) (he:EO (e::es) X.env=(false,eval e X.env)::EO es X.env:=by rfl)
  (hpl:(HD pos (EO es X.env)).any (·.1)=false:=by rfl):PE X (.Call (.Name x p) (e::es) [] pos) (ku sp [] E0 t):=by
 obtain ⟨f,fd,F,hm,kp,hb,_⟩:=E
 exact tW F (hr.mono hk) hg hm kp hb .nil By ha hdb he hpl
def Src (K:Ed) (mg:Str->Option Ej) (x:Str) (st:Stmt):Prop:=∃(f:Addr) (fd:G2),Fun K x x st f fd/\mg x=some (.ref f)
theorem Src.has {P:E2} {w:FO} {K:Ed} {mg:Str->Option Ej} {base:Heap} {x:Str} {st:Stmt} {N ps:List Str} {k:Nat} {sp:Sp} (S:Src K mg x st) (sc:aB N ps (ao st))
  (hb:∀(kV doc pm:Ej) (an:Option Addr) (cdv ct:Ej) (us:List Ej),us.length=ps.length->Ki (Gq x x (cA st) (bL st) (ao st) .none kV doc pm an cdv ct) ⟨us,[]⟩=pure (ps.zip us))
  (len:∀vs H Q E,sp vs H Q E->vs.length=ps.length)
  (hbody:∀(f:Addr) (cdv:Ej) (A:F4) (outer:List Env) (s:El) (H:Hp) (vs:List V) (Q:VK) (E:XK),cz k (A.deeper (envOfC x (ao st) s.heap.objs.size f cdv))->sp vs H Q E ->
   ∃t,PSs (ju CX0 P w K mg base N x (ao st) f cdv A outer s H E).nox (bL st) t/\t { nx:=fun _ H'=>Q .non H',rt:=Q } (start N vs) H):Has P w K mg base (k+1) x ps sp:=by
 obtain ⟨f,fd,F,hm⟩:=S
 exact ⟨f,fd,F.ok sc len fun cdv A outer s H vs Q E hr h=>hbody f cdv A outer s H vs Q E hr h,hm,F.kp,F.binds hb,by obtain ⟨oc,od,kV,doc,pm,an,cdv,ct,osl,_,lk,_⟩:=F.ex;exact ⟨oc,od,osl,lk⟩⟩
theorem aO {K:Ed} {h:Heap} {mg:Str->Option Ej} {x:Str} {st:Stmt} {f:Addr} {oc:Ej} {od an:Option Addr} {osl:Array (Option Ej)} {kV doc pm cdv ct:Ej} (X:K.In h) (G:h.Ns EL mg)
  (a:E9 K EL x=some (some (.ref f))) (l:K.lookup f=some ⟨oc,od,.func (Gq x x (cA st) (bL st) (ao st) .none kV doc pm an cdv ct),osl⟩)
  (c:IC K cdv x=true) (k:Hz K (.ref f)=true):Src K mg x st:=⟨f,_,yZ l c k,HQ X G a⟩
theorem t4 {P:E2} {w:FO} {K:Ed} {mg:Str->Option Ej} {k:Nat} {st:Stmt} {fa:Addr} {x:Str} {sp:Sp} (S:Src K mg "law" st) (hfa:mg "law"=some (.ref fa))
  (hb:∀(kV doc pm:Ej) (an:Option Addr) (cdv ct:Ej) (v:Ej),Ki (Gq "law" "law" (cA st) (bL st) (ao st) .none kV doc pm an cdv ct) ⟨[v],[]⟩=pure [(x,v)])
  (all:∀base:Heap,Has P w K mg base k "law" [x] sp) :
  ∃fd:G2,(∀(s:El) (v:Ej),Kr s fd ⟨[v],[]⟩ [(x,v)])/\∀base:Heap,K.In base->base.Ns EL mg->iN P w K mg base CX0 k fa fd [x] sp:=by
 obtain ⟨f,fd,F,hm⟩:=S
 have e:=hfa.symm.trans hm
 cases e
 obtain ⟨oc,od,kV,doc,pm,an,cdv,ct,osl,rfl,lk,_⟩:=F.ex
 refine ⟨_,fun s v=>.of_eq (hb kV doc pm an cdv ct v),fun base _ _=>?_⟩
 obtain ⟨f',fd',G',hm',_,_,oc',od',osl',lk'⟩:=all base
 have e:=hm.symm.trans hm'
 cases e
 rw [lk] at lk'
 injection lk' with e1
 injection e1 with _ _ e2 _
 injection e2 with e3
 rw [e3]
 exact G'
def tH (ms:List Int):Int:=reduceHash (Builtin.Tuple.tupleHashOf (ms.map K6))
def DU (x:List Int×Addr×Ej):Ic:=⟨tH x.1,.ref x.2.1,x.2.2⟩
abbrev EV:List (List Int×Addr×V)->List (List Int×Addr×Ej)->Prop:=KZ fun p q=>p.1=q.1/\p.2.1=q.2.1/\RelV p.2.2 q.2.2
def DctP (a:Addr) (es:List (List Int×Addr×V)) (h:Heap):Prop:=
 es.length<=EW/\(a==GB)=false/\(es.map (·.1)).Nodup/\∃xs,EV es xs/\∃o ds ep,h.get? a=some o/\o.ExactDict/\o.data=.dict ds ep/\ds.toList=xs.map DU
def b0 (a:Addr) (ob:Obj) (es:List (List Int×Addr×V)):HO:=.ext fun h=>DctP a es h/\h.get? a=some ob
theorem DctP.ok {P:E2} {w:FO} {H:Hp} {h:Heap} {a:Addr} {ob:Obj} {es:List (List Int×Addr×V)} (d:DctP a es h) (q:h.get? a=some ob):bG P w H h a (b0 a ob es):=
 ⟨⟨d,q⟩,⟨ob,q⟩,fun _ _ zt1 k=>by obtain ⟨⟨z,m,nd,xs,ev,o,ds,ep,e,r⟩,q⟩:=zt1;exact ⟨⟨z,m,nd,xs,ev,o,ds,ep,k o e,r⟩,k ob q⟩⟩
theorem gz {X:Cx} {pins:List (Addr×Obj)} {σ:St} {H:Hp} {s:El} {a:Addr} {ob:Obj} {es:List (List Int×Addr×V)} (I:Inv X pins σ H s) (e:H a=some (b0 a ob es)):DctP a es s.heap/\s.heap.get? a=some ob:=
 (show bG X.prog X.w H s.heap a (.ext fun h=>DctP a es h/\h.get? a=some ob) from I.hok a _ e).1
theorem jz {X:Cx} {pins:List (Addr×Obj)} {σ:St} {H:Hp} {s:El} {a:Addr} {ob:Obj} {es:List (List Int×Addr×V)} (I:Inv X pins σ H s) (e:H a=some (b0 a ob es)):DctP a es s.heap:=(gz I e).1
inductive TyO (K:Ed) (H:Hp):V->String->Prop where
 | non:TyO K H .non "NoneType"
 | bl (x:Bool):TyO K H (.bl x) "bool"
 | int (i:Int):TyO K H (.int i) "int"
 | str (x:Str):TyO K H (.str x) "str"
 | lst {a:Addr} {xs:List V} (e:SqL K H a xs):TyO K H (.ref a) "list"
 | tup {a:Addr} {xs:List V} (e:SqT K H a xs):TyO K H (.ref a) "tuple"
 | dK {a:Addr} {kvs:List (Key×V)} (e:H a=some (.dK kvs)):TyO K H (.ref a) "dict"
 | dT {a:Addr} {kvs:List (List Key×V)} (e:H a=some (.dT kvs)):TyO K H (.ref a) "dict"
 | dE {a:Addr} {ob:Obj} {es:List (List Int×Addr×V)} (e:H a=some (b0 a ob es)):TyO K H (.ref a) "dict"
def oI (t c:String):Option Bool:=IB [] (.type t) (.type c)
theorem qf {K:Ed} {t c:String}:IB K (.type t) (.type c)=oI t c:=rfl
theorem jA:oI "int" "int"=some true:=by decide +kernel
theorem iP:oI "int" "bool"=some false:=by decide +kernel
def y0 (K:Ed):List V->Hp->VK->Prop:=fun xs H Q=>∃x t c b,xs=[x,.ty c]/\TyO K H x t/\oI t c=some b/\Q (.bl b) H
theorem qg {X:Cx}:b6 X (.builtin "isinstance") (y0 X.K):=by
 intro pins s σ H xs us Q I r h
 obtain ⟨x,t,c,b,rfl,ty,e,q⟩:=h
 obtain ⟨u,w',rfl,rx,rc⟩:=vals2 r
 obtain rfl:w'=IJ c:=rc
 have e':IB X.K (.type t) (.type c)=some b:=by rw [qf];exact e
 have fin:∀tk,EP X pins σ Q (.bool b) { s with toks:=tk }:=fun tk=>⟨.bl b,H,I.tok tk,rfl,q⟩
 cases ty with
 | non=>exact cC I rx (.non) e' fin
 | bl y=>exact cC I rx (.bl y) e' fin
 | int i=>exact cC I rx (.int i) e' fin
 | str y=>exact cC I rx (.str y) e' fin
 | dK ea=>exact cC I rx (.dK ea) e' fin
 | dT ea=>exact cC I rx (.dT ea) e' fin
 | @dE a ob es ea=>
  cases rx
  obtain ⟨_,_,_,_,_,o,_,_,h1,h2,_⟩:=jz I ea
  exact FF IM I.kIn ⟨o,h1,h2.1⟩ e' (fun z=>nomatch z) fin
 | lst ea=>
  cases rx
  obtain ⟨its,_,pl,_⟩:=I.list ea
  obtain ⟨o,h1,h2,_⟩:=pl.isList
  exact FF IL I.kIn ⟨o,h1,h2⟩ e' (fun z=>nomatch z) fin
 | tup ea=>
  cases rx
  obtain ⟨its,_,p,_⟩:=I.tuple ea
  obtain ⟨o,h1,h2,_⟩:=p
  exact FF Kh I.kIn ⟨o,h1,h2⟩ e' (fun z=>nomatch z) fin
section
variable {X:Cx}
def eX (K:Ed) (H:Hp) (ps:List Addr) (mss:List (List Int)):Prop:=KZ (fun p ms=>SqT K H p (KN V.int ms)) ps mss
end
def m5:List Ej->Option (List Int)
 | []=>some []
 | .int i _::r=>(m5 r).map (i::·)
 | _::_=>none
theorem kE:∀{us:List Ej} {ns:List Int},m5 us=some ns->Vals (ns.map V.int) us
 | [],ns,e=>by cases e;exact .nil
 | u::r,ns,e=>by
  cases u with
  | int i t=>
   obtain ⟨ms,h1,rfl⟩:=Option.map_eq_some_iff.mp (show (m5 r).map (i::·)=some ns from e)
   exact .cons ⟨t,rfl⟩ (kE h1)
  | _=>cases e
def lX (K:Ed) (a:Addr):Option (List Ej):=match K.lookup a with
 | some ⟨.type "tuple",_,.seq its _,_⟩=>if its.toList.length<=1000 then some its.toList else none
 | _=>none
theorem m6 {K:Ed} {H:Hp} {a:Addr} {us:List Ej} {xs:List V} (e:lX K a=some us) (r:Vals xs us):SqT K H a xs:=by
  unfold lX at e
  split at e
  · rename_i c its n sl lk
    split at e
    · rename_i hz
      cases e
      have hs:EW=16777216:=FQ
      exact .inr ⟨_, its, n, lk, rfl, rfl, by have : its.toList.length = its.size := by simp
                                              lia,r⟩
    · cases e
  · cases e
def okT (K:Ed) (v:Ej) (ns:List Int):Bool:=match v with
 | .ref a=>(match lX K a with | some us=>decide (m5 us=some ns) | none=>false)
 | _=>false
theorem y4 {K:Ed} {H:Hp} {v:Ej} {ns:List Int} (e:okT K v ns=true):∃a,v=.ref a/\SqT K H a (ns.map V.int):=by
 unfold okT at e
 split at e
 ·rename_i a
  split at e
  ·rename_i us h
   exact ⟨a,rfl,m6 h (kE (of_decide_eq_true e))⟩
  ·cases e
 ·cases e
def t5 (K:Ed):List Ej->List (List Int)->Bool
 | [],[]=>true
 | v::r,ns::s=>okT K v ns&&t5 K r s
 | _,_=>false
theorem jB {K:Ed} {H:Hp}:∀{us:List Ej} {nss:List (List Int)},t5 K us nss=true->∃ps,Vals (ps.map V.ref) us/\eX K H ps nss
 | [],[],_=>⟨[],.nil,.nil⟩
 | u::r,ns::s,e=>by
  rw [t5,Fe] at e
  obtain ⟨a,rfl,h⟩:=y4 (H:=H) e.1
  obtain ⟨ps,h1,h2⟩:=jB e.2
  exact ⟨a::ps,.cons rfl h1,.cons h h2⟩
 | [],_::_,e=>by cases e
 | _::_,[],e=>by cases e
def t6 (K:Ed) (v:Ej) (nss:List (List Int)):Bool:=match v with
 | .ref a=>(match lX K a with | some us=>t5 K us nss | none=>false)
 | _=>false
def TTup (K:Ed) (v:V) (nss:List (List Int)):Prop:=∃a ps,v=.ref a/\∀H:Hp,SqT K H a (ps.map V.ref)/\eX K H ps nss
theorem t7 {K:Ed} {v:Ej} {nss:List (List Int)} (e:t6 K v nss=true):∃x,RelV x v/\TTup K x nss:=by
 unfold t6 at e
 split at e
 ·rename_i a
  split at e
  ·rename_i us h
   obtain ⟨ps,h1,h2⟩:=jB (H:=fun _=>none) e
   refine ⟨.ref a,rfl,a,ps,rfl,fun H=>⟨m6 h h1,?_⟩⟩
   obtain ⟨ps',h1',h2'⟩:=jB (H:=H) e
   have:=h1.inj h1'
   have e2:ps=ps':=by
    have:=congrArg (KN (fun v=>match v with | V.ref i=>i | _=>0)) this
    simpa [EZ,G3] using this
   rw [e2]
   exact h2'
  ·cases e
 ·cases e
def t8 (K:Ed):List Ic->List (Int×List (List Int))->Bool
 | [],[]=>true
 | e::r,p::s=>J0 p.1 e.key&&decide (e.hash=K6 p.1)&&t6 K e.val p.2&&t8 K r s
 | _,_=>false
def okD (K:Ed) (d:Addr) (rows:List (Int×List (List Int))):Bool:=match K.lookup d with
 | some ⟨.type "dict",none,.dict es _,sl⟩=>sl.size==0&&t8 K es.toList rows&&decide (rows.map (·.1)).Nodup
 | _=>false
theorem m7 {P:E2} {w:FO} {K:Ed}:∀{es:List Ic} {rows:List (Int×List (List Int))},t8 K es rows=true ->
  ∃kvs:List (Int×Ej),Pairs (K7 P w) es kvs/\(∀e∈es,∃k,(K7 P w).is k e.key=true/\e.hash=(K7 P w).hash k)/\kvs.map (·.1)=rows.map (·.1) /\
   ∀k nss,(k,nss)∈rows->(rows.map (·.1)).Nodup->∃v,valueAt kvs k=some v/\t6 K v nss=true
 | [],[],_=>⟨[],.nil,(fun _ h=>nomatch h),rfl,(fun _ _ h=>nomatch h)⟩
 | e::r,p::s,h=>by
  rw [t8,Fe,Fe,Fe] at h
  obtain ⟨⟨⟨h1,h2⟩,h3⟩,h4⟩:=h
  obtain ⟨kvs,g1,g2,g3,g4⟩:=m7 (P:=P) (w:=w) h4
  refine ⟨(p.1,e.val)::kvs,.cons h1 rfl g1,fun x hx=>?_,by simp [g3],fun k nss hk nd=>?_⟩
  ·rcases List.mem_cons.mp hx with rfl | hx
   ·exact ⟨p.1,h1,of_decide_eq_true h2⟩
   ·exact g2 x hx
  ·rw [EB,List.nodup_cons] at nd
   rcases List.mem_cons.mp hk with rfl | hk
   ·exact ⟨e.val,by simp [valueAt],h3⟩
   ·obtain ⟨v,e1,e2⟩:=g4 k nss hk nd.2
    refine ⟨v,?_,e2⟩
    have ne:¬ p.1=k:=fun z=>nd.1 (List.mem_map.mpr ⟨(k,nss),hk,z.symm⟩)
    unfold valueAt at e1 ⊢
    rw [List.find?_cons_of_neg (by simpa using ne)]
    exact e1
 | [],_::_,h=>by cases h
 | _::_,[],h=>by cases h
def BA (K:Ed) (rows:List (Int×List (List Int))):R2:=fun x y H Q=>∃d k nss,x=.ref d/\y=.int k/\okD K d rows=true/\(k,nss)∈rows/\∀v,TTup K v nss->Q v H
theorem t9 {X:Cx} {rows:List (Int×List (List Int))}:IxR X (BA X.K rows):=by
 intro value slice pins s σ H x y v u Q I rx ry h hs
 obtain ⟨d,k,nss,rfl,rfl,hd,hk,q⟩:=h
 cases rx
 obtain ⟨t,rfl⟩:=ry
 unfold okD at hd
 split at hd
 ·rename_i es n sl lk
  rw [Fe,Fe] at hd
  obtain ⟨⟨h1,h2⟩,h3⟩:=hd
  obtain ⟨kvs,g1,g2,g3,g4⟩:=m7 (P:=X.prog) (w:=X.w) h2
  have nd:=of_decide_eq_true h3
  obtain ⟨v,e1,e2⟩:=g4 k nss hk nd
  have sl0:sl=#[]:=by
   have:sl.size=0:=by simpa using h1
   exact Array.eq_empty_of_size_eq_zero this
  have D:s.heap.DictOf (K7 X.prog X.w) d kvs:=⟨_,es,n,I.kIn d _ lk,⟨rfl,rfl,sl0⟩,rfl,fun e he=>g2 e (by simpa using he),g1,by rw [g3];exact nd⟩
  obtain ⟨x,rx,tt⟩:=t7 e2
  exact K9 D.typeIs slot_dict_getitem.lookup (wpAny_getItem_of (k:=k) (by show J0 k (.int k t)=true;simp [J0]) D.mapOf e1 ⟨x,H,I.tok _,rx,q x tt⟩) hs
 ·cases hd
end L2
end
variable {H:L2.Hp} {vs:List L2.V} {es:List (List Int×PySem.Addr×L2.V)} {σ:L2.St} {pins:List (PySem.Addr×PySem.Obj)} {ix:List Nat} {v:L2.V} {K:Ed} {ns:List Int} {ms:List Int} {mss:List (List Int)} {tg:List PySem.Str} {cs:List PySem.Str} {bo:List Int}
section
namespace L2
open PySem PySem.Spec PyProof.Rows
def bB (env:Env):List (Str×Gx)->List (Str×Addr)->List (Str×Addr)
 | [],acc=>acc
 | (n,k)::r,acc=>bB env r (if (k==Fq)=true then (match env.cells.lookup n with | some c=>(n,c)::acc | none=>acc) else acc)
theorem cE {env:Env}:∀{l:List (Str×Gx)} {acc:List (Str×Addr)} {n:Str} {c:Addr},(n,c)∈bB env l acc->(n,c)∈acc\/env.cells.lookup n=some c
 | [],_,_,_,h=>.inl h
 | (m,k)::r,acc,n,c,h=>by
  unfold bB at h
  rcases cE h with h | h
  ·split at h
   ·split at h
    ·rename_i c' e
     rcases List.mem_cons.mp h with h | h
     ·cases h;exact .inr e
     ·exact .inl h
    ·exact .inl h
   ·exact .inl h
  ·exact .inr h
theorem iX {env:Env}:∀{l:List (Str×Gx)} {acc:List (Str×Addr)} {p:Str×Addr},p∈acc->p∈bB env l acc
 | [],_,_,h=>h
 | (m,k)::r,acc,p,h=>by
  unfold bB
  refine iX ?_
  split
  ·split
   ·exact ES _ h
   ·exact h
  ·exact h
theorem kF {env:Env}:∀{l:List (Str×Gx)} {acc:List (Str×Addr)} {n:Str} {c:Addr},(n,Fq)∈l->env.cells.lookup n=some c->(n,c)∈bB env l acc
 | (m,k)::r,acc,n,c,h,e=>by
  unfold bB
  rcases List.mem_cons.mp h with h | h
  ·cases h
   refine iX ?_
   rw [if_pos (show (Fq==Fq)=true from rfl),e]
   exact Em
  ·exact kF h e
theorem cellOf_eq {env:Env} {n:Str} {c:Addr} (h:env.cells.lookup n=some c):cellOf env n=pure c:=by
 unfold cellOf
 rw [h]
theorem cF {env:Env} {scope:Ha} (h:∀n,(n,Fq)∈scope.names->∃c,env.cells.lookup n=some c):closureFor scope env=pure (bB env scope.names []):=by
 have all:∀(l:List (Str×Gx)) (acc:List (Str×Addr)),(∀n,(n,Fq)∈l->∃c,env.cells.lookup n=some c) ->
   (forIn l acc fun (x:Str×Gx) (cs:List (Str×Addr))=>(if (x.2==Fq)=true then (do let c <- cellOf env x.1;pure (Ie ((x.1,c)::cs))) else pure (Ie cs):Sem (ForInStep (List (Str×Addr)))))=pure (bB env l acc):=by
  intro l
  induction l with
  | nil=>intro acc _;rfl
  | cons x r ih=>
   intro acc hl
   obtain ⟨n,k⟩:=x
   rw [List.forIn_cons]
   unfold bB
   cases hk:(k==Fq) with
   | true=>
    have hk':k=Fq:=by simpa using hk
    subst hk'
    obtain ⟨c,e⟩:=hl n Em
    simp only [if_true,cellOf_eq e,pure_bind,e]
    exact ih _ fun m hm=>hl m (ES _ hm)
   | false=>
    simp only [Gi,if_false,pure_bind]
    exact ih _ fun m hm=>hl m (ES _ hm)
 have q:=all scope.names [] h
 unfold closureFor
 first
  | (simp only [bind_pure_comp,map_pure] at q ⊢;rw [q];rfl)
  | (rw [q];rfl)
  | exact q
def ak (X:Cx) (scope:Ha) (N:List Str) (C:Addr) (fp:List Addr) (s₀:El) (H₀:Hp):Cx:=
 { X with N:=N,s₀:=s₀,H₀:=H₀,env:=GN scope (bB X.env scope.names []) C X.env,outer:=X.stack,stack:=X.stack,ex:=fp,fn:=fun _=>false,pn:=[],xe:=fun _ _=>False }
def capt (n:Nat) (ix:List Nat) (σ:St):St:=Ep n none++ix.map fun i=>(σ[i]?).getD none
structure aS (X:Cx) (scope:Ha) (tg cs:List Str) (ix:List Nat):Prop where
 kind:scope.kind=.function
 nocell:∀y∈scope.names,y.2≠.cell
 names:∀y∈scope.names,y.2=.local->scope.names.lookup y.1=some .local
 nd:(tg++cs).Nodup
 at_:ix.map (fun i=>X.N[i]?)=cs.map some
 free:∀x∈cs,(x,Fq)∈scope.names/\scope.names.lookup x=some .free
 out:∀x,(x,Fq)∈scope.names->X.env.scope.names.lookup x=some .cell\/X.env.scope.names.lookup x=some .free
theorem ft {f:Str×Gx->Str×Gx} (hf:∀p,(f p).1=p.1):∀(names:List (Str×Gx)) (x:Str),(names.map f).lookup x=(names.lookup x).map fun k=>(f (x,k)).2
 | [],_=>rfl
 | p::r,x=>by
  have e:f p=(p.1,(f p).2):=by rw [<- hf p]
  rw [EB,e,List.lookup_cons,List.lookup_cons,ft hf r x]
  cases q:x==p.1 with
  | false=>rfl
  | true=>
   have z:x=p.1:=by simpa using q
   subst z
   rfl
def freed (env:Env) (p:Str×Gx):Bool:=p.2==Fq&&env.scope.kind==.function&&env.kindOf p.1==some .cell
theorem fu {env:Env} {names:List (Str×Gx)} {x:Str} :
  (names.map fun (n,k)=>if (k==Fq&&env.scope.kind==.function&&env.kindOf n==some .cell) then (n,I0) else (n,k)).lookup x=(names.lookup x).map fun k=>if freed env (x,k)=true then .cell else k:=by
 refine (ft (fun p=>?_) names x).trans ?_
 ·dsimp only
  split <;> rfl
 ·congr 1
  funext k
  unfold freed
  dsimp only
  split <;> rfl
theorem cw {env:Env} {names:List (Str×Gx)} {x:Str} {k:Gx}
  (h:(names.map fun (n,k)=>if (k==Fq&&env.scope.kind==.function&&env.kindOf n==some .cell) then (n,I0) else (n,k)).lookup x=some k) (hk:k=.cell\/k=.free) (nc:∀y∈names,y.2≠.cell):(x,Fq)∈names:=by
 rw [fu] at h
 cases q:names.lookup x with
 | none=>rw [q] at h;cases h
 | some k0=>
  have hm:=Fo q
  suffices z:k0=.free by rw [<- z];exact hm
  rw [q] at h
  by_cases c:freed env (x,k0)=true
  ·unfold freed at c
   simp only [Fe,beq_iff_eq] at c
   exact c.1.1
  ·have h2:k0=k:=by simpa [c] using h
   rcases hk with e | e
   ·exact absurd (h2.trans e) (nc _ hm)
   ·exact h2.trans e
theorem eO {env:Env} {names:List (Str×Gx)} {x:Str} (h:names.lookup x=some .free) :
  (names.map fun (n,k)=>if (k==Fq&&env.scope.kind==.function&&env.kindOf n==some .cell) then (n,I0) else (n,k)).lookup x=some .cell \/
  (names.map fun (n,k)=>if (k==Fq&&env.scope.kind==.function&&env.kindOf n==some .cell) then (n,I0) else (n,k)).lookup x=some .free:=by
 rw [fu,h]
 by_cases c:freed env (x,.free)=true
 ·exact .inl (by simp [c])
 ·exact .inr (by simp [c])
section
variable {X:Cx} {pins:List (Addr×Obj)} {σ:St} {H H1:Hp} {s:El}
theorem Inv.track {D:Addr} {o:HO} (I:Inv X pins σ H s) (hn:H D=none) (hs:X.s₀.heap.objs.size<=D) (hL:D≠X.env.locals) (hc:∀x c,X.env.cells.lookup x=some c->c≠D) (hp:∀p∈X.pn++pins,p.1≠D)
  (new:bG X.prog X.w (upd H D o) s.heap D o):Inv X pins σ (upd H D o) s:=by
 have nb:∀b ob,X.s₀.heap.get? b=some ob->b≠D:=fun b ob e z=>by subst z;exact absurd (EI (EA e) hs) (FC _)
 refine ⟨I.ok,I.os,I.bare,⟨I.base.keep,I.base.slot,fun b ob e n hx=>?_,I.base.there,fun b xs e=>?_,fun b ob u e=>?_,fun b ps e=>?_⟩,I.loc,I.cell,?_,fun x c e=>?_,fun p hpp=>?_,fun b u e=>?_,I.len⟩
 ·rw [aC (nb b ob e)];exact I.base.free b ob e n hx
 ·have q:=I.base.tups b xs e
  rw [aC (aZ q hn)];exact q
 ·have q:=I.base.frzs b ob u e
  rw [aC (aZ q hn)];exact q
 ·obtain ⟨more,q⟩:=I.base.tbls b ps e
  exact ⟨more,by rw [aC (aZ q hn)];exact q⟩
 ·rw [aC hL.symm];exact I.free
 ·rw [aC (hc x c e)];exact I.freeC x c e
 ·obtain ⟨a,b,c,d,e⟩:=I.pin p hpp
  exact ⟨a,by rw [aC (hp p hpp)];exact b,c,d,e⟩
 ·by_cases hb:b=D
  ·subst hb;rw [aD] at e;cases e;exact new
  ·rw [aC hb] at e
   exact (I.hok b u e).stay (fun _ _ _ q=>q) (fun c q=>by rw [aC (aZ q hn)];exact q) fun c xs q=>by rw [aC (aZ q hn)];exact q
theorem di {X:Cx} {tg cs:List Str} (hat:ix.map (fun i=>X.N[i]?)=cs.map some) {i:Nat} {x:Str} (h1:(tg++cs)[i]?=some x) (h2:(capt tg.length ix σ)[i]?=some (some v)) :
  x∈cs/\∃k:Nat,X.N[k]?=some x/\σ[k]?=some (some v):=by
 unfold capt at h2
 by_cases hi:i < tg.length
 ·rw [EX (by simpa using hi),GM,if_pos hi] at h2
  cases h2
 ·rw [EK (by simpa using hi),Gf,EH] at h2
  rw [EK (by lia)] at h1
  cases e:ix[i-tg.length]? with
  | none=>rw [e] at h2;cases h2
  | some k=>
   rw [e] at h2
   have h2:(σ[k]?).getD none=some v:=ER h2
   have q:=congrArg (fun l=>l[i-tg.length]?) hat
   simp only [EH,e,h1,Option.map_some] at q
   refine ⟨F0 h1,k,ER q,?_⟩
   cases z:σ[k]? with
   | none=>rw [z] at h2;cases h2
   | some y=>rw [z] at h2;exact congrArg some h2
end
def PTs (X:Cx) (ifs:List Expr) (t:TT):Prop:=
 ∀(pins:List (Addr×Obj)) (s:El) (σ:St) (H:Hp) (Q:Bool->Hp->Prop),Inv X pins σ H s->t σ H Q ->
  Fp (Ff X.prog X.w) X.A (forIn ifs true fun c r=>if r=true then do let ok <- JS c X.env (eval c X.env);pure (Ie ok) else pure (Ie r)) (TP X pins σ Q) X.xe s
def xb:TT:=fun _ H Q=>Q true H
theorem ua {X:Cx}:PTs X [] xb:=fun _ _ _ H _ I h=>wpAny_tests_nil ⟨H,I,h⟩
theorem ub {X:Cx} {c:Expr} {t:TT} (h:PT X c t):PTs X [c] t:=fun pins s σ H Q I hw=>wpAny_tests_one (h pins s σ H Q I hw)
def cV (n:Nat) (ix:List Nat) (g:TG):Prop:=∀x σ H Q,g x (capt n ix σ) H Q->g x (capt n ix σ) H fun σ2 H2=>(σ2.length=(capt n ix σ).length/\∀(i:Nat) (v:V),(capt n ix σ)[i]?=some (some v)->σ2[i]?=some (some v))/\Q σ2 H2
theorem bM {n:Nat} {j:Nat} (h:j < n) (e:(capt n ix σ)[j]?=some (some v)):False:=by
 unfold capt at e
 rw [EX (by simpa using h),GM,if_pos h] at e
 cases e
theorem bp {n:Nat} {j:Nat} (h:j < n):cV n ix (aX j):=fun x σ H Q q=>⟨⟨by simp,fun i v e=>by
 by_cases hi:j=i
 ·subst hi;exact (bM h e).elim
 ·rw [ED hi];exact e⟩,q⟩
theorem fM {n:Nat} {m j k:Nat} (h:j < n) (h':k < n):cV n ix (tO K m (iQ (aX j) (iQ (aX k) tM))):=fun x σ H Q q=>by
 obtain ⟨a,xs,e1,hq,hl,v,r,e2,v',r',e3,e4,q⟩:=q
 refine ⟨a,xs,e1,hq,hl,v,r,e2,v',r',e3,e4,⟨by simp,fun i v e=>?_⟩,q⟩
 by_cases hi:j=i
 ·subst hi;exact (bM h e).elim
 ·by_cases hk:k=i
  ·subst hk;exact (bM h' e).elim
  ·rw [ED hk,ED hi];exact e
def iY (wi:TI) (n:Nat) (ix:List Nat) (g:TG) (tc:TT) (te:TE):TE:=fun σ H Q=>wi σ H fun J H1=>∃W:Nat->Nat->List V->Hp->Prop,(∃m,W 0 m [] H1)/\∀i m ys H2,W i m ys H2 ->
 (J.stop i H2/\ys.length<=EW/\∀D,H2 D=none->Q (.ref D) (upd H2 D (.lst ys))) \/
 (J.go i H2/\ys.length < EW/\∃Nx:List V->Hp->Prop,(∀ys' H',Nx ys' H'->∃m',m' < m/\W (i+1) m' ys' H') /\
  ∀x H3,J.yld i H2 x H3->g x (capt n ix σ) H3 fun σ2 H4=>tc σ2 H4 fun b H5=>if b=true then te σ2 H5 fun v H6=>Nx (ys++[v]) H6 else Nx ys H5)
section
variable {X:Cx} {pins:List (Addr×Obj)} {σ:St} {H H1:Hp} {s:El}
theorem dQ {scope:Ha} {tg cs:List Str} {fp:List Addr} {s4:El} (S:aS X scope tg cs ix) (I:Inv X pins σ H s) (hf:∀b∈fp,dN X pins H b) (ho:∀b∈fp,∃o,s.heap.get? b=some o) {C:Addr} (hC:s.heap.objs.size<=C)
  (hk:∀b o,s.heap.get? b=some o->s4.heap.get? b=some o) (hns:s4.heap.Ns C fun _=>none) (os:s4.os=s.os) (bare:IY s4.gens) (hn:H C=none) :
  Inv (ak X scope (tg++cs) C fp s H) [] (capt tg.length ix σ) H s4:=by
 have clX:∀x c,(bB X.env scope.names []).lookup x=some c->X.env.cells.lookup x=some c:=fun x c e=>by
  rcases cE (Fo e) with h | h
  ·cases h
  ·exact h
 have hasC:∀x,(x,Fq)∈scope.names->∃c,(bB X.env scope.names []).lookup x=some c:=fun x hx=>by
  obtain ⟨c,e⟩:=I.ok.has x (S.out x hx)
  have m:=kF (acc:=[]) hx e
  cases q:(bB X.env scope.names []).lookup x with
  | some c'=>exact ⟨c',rfl⟩
  | none=>
   have:=List.lookup_eq_none_iff.mp q (x,c) m
   simp at this
 refine ⟨⟨I.ok.mod,?_,I.ok.glob,I.ok.blt,hC,fun x y c e1 e2=>I.ok.inj x y c (clX x c e1) (clX y c e2),fun x hx=>?_,fun x c h=>?_,I.ok.hd,I.ok.frames,.inl rfl,fun b hb=>⟨?_,fun x c e=>?_⟩,I.bs,Fz I.ok.bsz I.sz,fun b o e hb=>?_,fun b hb hx=>?_,I.stack,I.stkFree⟩,
  os,bare,Un.kept hk,⟨_,hns,fun i x v e1 e2 e3=>?_⟩,fun x c e=>?_,hn,fun x c e=>I.freeC x c (clX x c e),fun p hp=>(by cases hp),I.hok.kept hk,?_⟩
 ·show (relabel scope X.env).kind=.function
  exact S.kind
 ·have hx':(relabel scope X.env).names.lookup x=some .cell\/(relabel scope X.env).names.lookup x=some .free:=hx
  rcases hx' with h | h
  ·exact hasC x (cw h (.inl rfl) S.nocell)
  ·exact hasC x (cw h (.inr rfl) S.nocell)
 ·cases h
 ·obtain ⟨o,e⟩:=ho b hb
  exact E5 (EI (EA e) hC)
 ·exact (hf b hb).2.2.2.2.1 x c (clX x c e)
 ·obtain ⟨_,_,_,h,_⟩:=hf b hb
  rcases h with h | h
  ·exact I.ok.noex b o e h
  ·exact absurd (EI (EA (I.ok.bs b o e).1) h) (FC _)
 ·have hx:b∈frs X.stack:=hx
  obtain ⟨_,h1,h2,_⟩:=hf b hb
  rcases List.mem_cons.mp (I.stkSub b hx) with h | h
  ·exact h1 h
  ·exact h2 h
 ·obtain ⟨hx,k,h1,h2⟩:=di (X:=X) S.at_ e1 e2
  obtain ⟨hx1,hx2⟩:=S.free x hx
  obtain ⟨m,hnm,hl⟩:=I.loc
  have ov:=S.out x hx1
  obtain ⟨u,r,l⟩:=hl k x v h1 h2 (by rcases ov with z | z;exact .inr (.inl z);exact .inr (.inr z))
  refine ⟨u,r,?_⟩
  rcases l with ⟨l,_⟩ | ⟨_,c,lc,ic⟩
  ·have l:X.env.scope.names.lookup x=some .local:=l
   rcases ov with z | z <;> rw [z] at l <;> cases l
  ·obtain ⟨c',e'⟩:=hasC x hx1
   have:=(clX x c' e').symm.trans lc
   cases this
   refine .inr ⟨eO hx2,c,e',?_⟩
   obtain ⟨o,ho1,ho2⟩:=ic
   exact ⟨o,hk c o ho1,ho2⟩
 ·obtain ⟨v,o,ho1,ho2⟩:=I.cell x c (clX x c e)
  exact ⟨v,o,hk c o ho1,ho2⟩
 ·show (capt tg.length ix σ).length=(tg++cs).length
  have:=congrArg Ia S.at_
  simp only [Eh] at this
  unfold capt
  simp [this]
theorem iZ {use:Option (Ej->Sem Unit)} {Qc:Ej->El->Prop} {pos':Pos} {elt target iter:Expr} {ifs:List Expr} {scope:Ha} {pos:Pos} {tg cs:List Str} {wi:TI} {g:TG} {tc:TT} {te:TE} (S:aS X scope tg cs ix) (hcalm:X.calm=true) (kg:cV tg.length ix g) {Φ:Hp->Prop} (hΦ:∀pins σ H s,Inv X pins σ H s->Φ H)
    (hi:PI X target iter wi) (hg:∀C fp s H,PG (ak X scope (tg++cs) C fp s H) target g) (hc:∀C fp s H,Φ H->PTs (ak X scope (tg++cs) C fp s H) ifs tc) (he:∀C fp s H,Φ H->PE (ak X scope (tg++cs) C fp s H) elt te)
    (hs:∀x,EC iter X.env x=pure x) {pins:List (Addr×Obj)} {s:El} {σ:St} {H:Hp} {Q:VK} (I:Inv X pins σ H s) (h:iY wi tg.length ix g tc te σ H Q)
    (fin:∀D C H' s' v,Inv X pins σ H' s'->Q (.ref D) H'->dN X pins H' C->(∃m,s'.heap.Ns C m)->Kj (Ff X.prog X.w) X.A X.xe use Qc (.ref D) C (.ok v) s') :
    Fp (Ff X.prog X.w) X.A (Ja (.ListComp elt [⟨target,iter,ifs,0⟩] scope pos) scope X.env pos' (newList []) false (eval iter X.env) use) Qc X.xe s:=by
  refine Gj (use:=use) (cl:=bB X.env scope.names []) rfl hs (cF fun n hn=>I.ok.has n (S.out n hn)) S.kind S.names ?_
  refine EN (hi pins s σ H _ I h) (fun v s1 h1=>EN h1 (fun itv s2 h2=>?_) fun _ _ e=>e) fun _ _ e=>e
  obtain ⟨it,fp,tn,J,H2,rfl,I2,T,st2,f2,W,⟨m0,w0⟩,turn⟩:=h2
  refine F9 (Gz S.nocell (by intro y hy;simp at hy) (fun h1 hns1 hsb1=>?_) S.kind)
  dsimp only at hns1 hsb1 ⊢
  generalize hP:s2.heap.push { cls:=.type "list",dict:=none,data:=.seq ([]:List Ej).toArray }=P2 at hns1 hsb1 ⊢
  have hCs:P2.objs.size=s2.heap.objs.size+1:=by rw [<- hP,HA]
  have hDC:s2.heap.objs.size≠P2.objs.size:=by rw [hCs];exact E5 (Hg _)
  have hCle:s2.heap.objs.size<=P2.objs.size:=by rw [hCs];exact GY _
  generalize hCg:P2.objs.size=C at *
  have old:∀b o,s2.heap.get? b=some o->h1.get? b=some o:=fun b o e=>hsb1.extBut b o (E5 (EI (EA e) hCle)) (Eg _ (hP▸Eg _ e))
  generalize hDg:s2.heap.objs.size=D at *
  have hD0:h1.get? D=some { cls:=.type "list",data:=.seq ([]:List Ej).toArray 0 }:=hsb1.extBut _ _ hDC (Eg _ (hP▸hDg▸EG _ rfl))
  have nC:H2 C=none:=I2.hok.fresh (by rw [hDg];exact hCle)
  have nD:H2 D=none:=I2.hok.fresh (by rw [hDg];exact Ek _)
  have fo:∀b∈fp,∃o,s2.heap.get? b=some o:=fun b hb=>let ⟨o,e,_⟩:=T.obj _ _ st2 b hb;⟨o,e⟩
  have Dfp:D∉fp:=fun z=>by
    obtain ⟨o,e⟩:=fo D z
    have:=EA e
    rw [hDg] at this
    exact absurd this (FC _)
  have Dfs:D∉frs X.stack:=fun z=>by
    rcases List.mem_cons.mp (I2.stkSub D z) with e | e
    · have:=I2.lt
      rw [<- e,hDg] at this
      exact absurd this (FC _)
    · exact I2.nofs (by rw [hDg];exact Ek _) e
  have DcY:∀x c,(bB X.env scope.names []).lookup x=some c->c≠D:=fun x c e=>by
    rcases cE (Fo e) with h | h
    · cases h
    · exact (I2.fpOk (H':=H2) (b:=D) (by rw [hDg];exact Ek _) nD).2.2.2.2.1 x c h
  -- the block's context
  have Yok:∀s4:El,s4={ s2 with heap:=h1,toks:=s2.toks+([]:List (Str×Ej)).length }->Inv (ak X scope (tg++cs) C fp s2 H2) [] (capt tg.length ix σ) H2 s4:=by
    rintro s4 rfl
    exact dQ S I2 f2 fo (by rw [hDg];exact hCle) old (by simpa using hns1) rfl I2.bare nC
  -- the loop
  have loop:∀s4:El,s4={ s2 with heap:=h1,toks:=s2.toks+([]:List (Str×Ej)).length } ->
      G8 (Ff X.prog X.w) X.A (.compLoop (.ListComp elt [⟨target,iter,ifs,0⟩] scope pos) 0 (.ref it) (.ref D) (GN scope (bB X.env scope.names []) C X.env)) (Kj (Ff X.prog X.w) X.A X.xe use Qc (.ref D) C) s4:=by
    intro s4 e4
    refine Hj rfl (fun n s'=>∃i ys its k H',Inv (ak X scope (tg++cs) C fp s2 H2) [] (capt tg.length ix σ) H' s'/\tn i s'.heap/\(∀b∈fp,H' b=none)/\H' D=none/\s'.heap.get? D=some { cls:=.type "list",data:=.seq (its:List Ej).toArray k }/\Vals ys its/\W i n ys H')
      ?_ m0 ⟨0,[],[],0,H2,Yok s4 e4,?_,fun b hb=>(f2 b hb).1,nD,by rw [e4];exact hD0,.nil,w0⟩
    · rintro n s5 ⟨i,ys,its,k,H5,I5,st5,fr5,d5,o5,v5,w5⟩
      show Fp _ X.A ((HB (.ListComp elt [⟨target,iter,ifs,0⟩] scope pos) 0 (.ref it) (.ref D) (GN scope (bB X.env scope.names []) C X.env)).onRaise (fun x=>do Jx x (GN scope (bB X.env scope.names []) C X.env);GZ x)) _ _ s5
      refine Hx ?_
      rw [compTurn_list]
      have pin0:Inv (ak X scope (tg++cs) C fp s2 H2) [(D,{ cls:=.type "list",data:=.seq its.toArray k })] (capt tg.length ix σ) H5 s5:=I5.pins_of fun p hp=>by
        have e:p=(D,{ cls:=.type "list",data:=.seq its.toArray k }):=by simpa using hp
        subst e
        exact ⟨o5,d5,hDC,Dfs,fun v z=>by have z':IZ _ _=HE v:=z;cases z'⟩
      have fpY:∀{H':Hp},(∀b∈fp,H' b=none)->∀b∈fp,dN (ak X scope (tg++cs) C fp s2 H2) [(D,{ cls:=.type "list",data:=.seq its.toArray k })] H' b:=fun hn b hb=>
        ⟨hn b hb,(I5.ok.exf b hb).1,fun z=>I5.ok.exfs b hb z,.inl hb,(I5.ok.exf b hb).2,fun p hp z=>by
          have hp:p∈([]:List (Addr×Obj))++[(D,{ cls:=.type "list",data:=.seq its.toArray k })]:=hp
          have e:p=(D,{ cls:=.type "list",data:=.seq its.toArray k }):=by simpa using hp
          subst e
          have z:D=b:=z
          exact Dfp (z▸hb)⟩
      refine Ef (FD (Ef ?_))
      rcases turn i n ys H5 w5 with ⟨stop,hz,qn⟩ | ⟨go,hz,Nx,hN,step⟩
      · refine thn (T.done (ak X scope (tg++cs) C fp s2 H2) rfl rfl rfl hcalm i _ s5 _ H5 _ pin0 (fpY fr5) st5 stop) fun r s6 zr1=>?_
        obtain ⟨hr,I6⟩:=zr1
        subst hr
        refine Es ?_
        obtain ⟨mC,hnsC,_⟩:=id I6.loc
        have IX:Inv X pins σ H5 s6:=I2.call' (ch:=fp) I6.os I6.base I6.hok I6.bare fun b hb=>let ⟨_,a1,_,a3,a4,a5⟩:=f2 b hb;⟨a3,a1,a4,a5⟩
        obtain ⟨_,b1,_,b3,b4,b5⟩:=I2.fpOk (H':=H5) (b:=D) (by rw [hDg];exact Ek _) d5
        obtain ⟨_,c1,c2,c3,c4,c5⟩:=I2.fpOk (H':=H5) (b:=C) (by rw [hDg];exact hCle) I6.free
        have gD:s6.heap.get? D=some { cls:=.type "list",data:=.seq its.toArray k }:=(I6.pin (D,{ cls:=.type "list",data:=.seq its.toArray k }) (Ee _ Em)).1
        have IXD:Inv X pins σ (upd H5 D (.lst ys)) s6:=IX.track d5 (by rw [<- hDg];exact I2.sz) b1 b4 b5 ⟨hz,its,k,v5,gD⟩
        exact fin D C _ s6 _ IXD (qn D d5) ⟨by rw [aC (Gu hDC)];exact I6.free,c1,c2,c3,c4,c5⟩ ⟨mC,hnsC⟩
      · refine thn (T.item (ak X scope (tg++cs) C fp s2 H2) rfl rfl rfl hcalm i _ s5 _ H5 _ pin0 (fpY fr5) st5 go) fun r s6 zr1=>?_
        obtain ⟨u,hr,h6⟩:=zr1
        subst hr
        refine Ef (thn h6 fun _ s7 zr1=>?_)
        obtain ⟨x,H7,I7,r7,y7,st7,fr7⟩:=zr1
        have I7':=I7.pinned (fpY fr7) (T.obj _ _ st7)
        -- the next turn
        have Ip:∀{σ2:St} {H8:Hp} {s8:El} {ys':List V} {its':List Ej} {k':Nat} , Inv (ak X scope (tg++cs) C fp s2 H2) [] σ2 H8 s8->(σ2.length=(capt tg.length ix σ).length/\∀(i:Nat) (v:V),(capt tg.length ix σ)[i]?=some (some v)->σ2[i]?=some (some v)) ->
            (∀b∈fp,∀o,s7.heap.get? b=some o->s8.heap.get? b=some o)->(∀b∈fp,H8 b=none)->H8 D=none->s8.heap.get? D=some { cls:=.type "list",data:=.seq its'.toArray k' }->Vals ys' its'->Nx ys' H8 ->
            ∃m,m < n/\∃i ys its k H',Inv (ak X scope (tg++cs) C fp s2 H2) [] (capt tg.length ix σ) H' s8/\tn i s8.heap/\(∀b∈fp,H' b=none)/\H' D=none/\s8.heap.get? D=some { cls:=.type "list",data:=.seq (its:List Ej).toArray k }/\Vals ys its/\W i m ys H':=by
          intro σ2 H8 s8 ys' its' k' I8 kp fk fn dn dg vv nx
          obtain ⟨m',hm,w8⟩:=hN ys' H8 nx
          exact ⟨m',hm,i+1,ys',its',k',H8,I8.weak kp.1.symm kp.2,T.keep _ _ _ st7 fk,fn,dn,dg,vv,w8⟩
        refine Ef (EN (hg C fp s2 H2 _ s7 _ H7 x u _ I7' r7 (kg x σ H7 _ (step x H7 y7))) (fun _ s8 zr1=>?_) fun _ _ z=>z.elim)
        obtain ⟨σ8,H8,I8,kp8,q8⟩:=zr1
        refine Ef (EN (hc C fp s2 H2 (hΦ _ _ _ _ I2) _ s8 σ8 H8 _ I8 q8) (fun ok s9 zr1=>?_) fun _ _ z=>z.elim)
        obtain ⟨H9,I9,q9⟩:=zr1
        have pinsOf:∀{σ':St} {H':Hp} {s':El},Inv (ak X scope (tg++cs) C fp s2 H2) ([(D,{ cls:=.type "list",data:=.seq its.toArray k })]++bO fp s7.heap) σ' H' s' ->
            (∀b∈fp,∀o,s7.heap.get? b=some o->s'.heap.get? b=some o)/\(∀b∈fp,H' b=none)/\H' D=none/\s'.heap.get? D=some { cls:=.type "list",data:=.seq its.toArray k }:=by
          intro σ' H' s' I'
          refine ⟨fun b hb o e=>(I'.pin (b,o) (Ee _ (Ee _ (aM hb e)))).1,fun b hb=>?_,(I'.pin (D,{ cls:=.type "list",data:=.seq its.toArray k }) (Ee _ (EF _ Em))).2.1,(I'.pin (D,{ cls:=.type "list",data:=.seq its.toArray k }) (Ee _ (EF _ Em))).1⟩
          obtain ⟨o,e,d⟩:=T.obj _ _ st7 b hb
          exact (I'.pin (b,o) (Ee _ (Ee _ (aM hb e)))).2.1
        cases ok with
        | false=>
          obtain ⟨p1,p2,p3,p4⟩:=pinsOf I9
          exact Es ⟨rfl,Ip (I9.pins_of fun p hp=>nomatch hp) kp8 p1 p2 p3 p4 v5 q9⟩
        | true=>
          have q9:te σ8 H9 fun v H6=>Nx (ys++[v]) H6:=q9
          refine Ef (Ef (EN (he C fp s2 H2 (hΦ _ _ _ _ I2) _ s9 σ8 H9 _ I9 q9) (fun y s10 zr1=>?_) fun _ _ z=>z.elim))
          obtain ⟨v,H10,I10,rv,nx⟩:=zr1
          obtain ⟨p1,p2,p3,p4⟩:=pinsOf I10
          have hl5:=v5.length
          refine Ef (HY F.slot_list_append ⟨_,p4,rfl⟩ F.entry_list_append (F.args_list_append_2 _ _) (Hw D its.toArray k y (by rw [Ex];lia)) ⟨p4,?_⟩)
          have g10:=HJ p4 (·.push y)
          rw [show its.toArray.push y=(its++[y]).toArray by simp] at g10
          have I11:Inv (ak X scope (tg++cs) C fp s2 H2) [] σ8 H10 s10:=I10.pins_of fun p hp=>nomatch hp
          have I12:Inv (ak X scope (tg++cs) C fp s2 H2) [] σ8 H10 { s10 with heap:=s10.heap.update D (FI (·.push y)) }:=
            I11.turned (t':=s10.toks) (fun b o hb e=>(FA s10.heap (FI (·.push y)) (Gu hb)).trans e) p3 hDC (.inr (by show s2.heap.objs.size<=D;rw [hDg];exact Ek _)) DcY (fun p hp=>nomatch hp)
          refine Es (Es ⟨rfl,Ip (its':=its++[y]) I12 kp8 (fun b hb o e=>?_) p2 p3 g10 (v5.append (.cons rv .nil)) nx⟩)
          exact (FA s10.heap (FI (·.push y)) (fun z:D=b=>Dfp (z▸hb))).trans (p1 b hb o e)
    · rw [e4];exact T.keep _ _ _ st2 fun b _ o e=>old b o e
  exact GV (loop _ rfl) (T.self _ 0 _ _ _ (T.keep _ _ _ st2 fun b _ o e=>old b o e) (loop _ rfl))
theorem qh {elt target iter:Expr} {ifs:List Expr} {scope:Ha} {pos:Pos} {tg cs:List Str} {wi:TI} {g:TG} {tc:TT} {te:TE} (S:aS X scope tg cs ix) (hcalm:X.calm=true) (kg:cV tg.length ix g) {Φ:Hp->Prop} (hΦ:∀pins σ H s,Inv X pins σ H s->Φ H)
  (hi:PI X target iter wi) (hg:∀C fp s H,PG (ak X scope (tg++cs) C fp s H) target g) (hc:∀C fp s H,Φ H->PTs (ak X scope (tg++cs) C fp s H) ifs tc) (he:∀C fp s H,Φ H->PE (ak X scope (tg++cs) C fp s H) elt te)
  (hs:∀x,EC iter X.env x=pure x:=by intro _;rfl):PE X (.ListComp elt [⟨target,iter,ifs,0⟩] scope pos) (iY wi tg.length ix g tc te):=by
 intro pins s σ H Q I h
 rw [eval_ListComp]
 refine iZ S hcalm kg hΦ hi hg hc he hs I h fun D C H' s' v I' q fp z=>?_
 obtain ⟨f0,c1,_,c3,c4,c5⟩:=fp
 obtain ⟨m,hm⟩:=z
 exact ⟨m,hm,fun h' sb=>⟨.ref D,H',I'.turned (t':=s'.toks) (fun b o hb e=>(sb.2 b hb).trans e) f0 c1 c3 c4 c5,rfl,q⟩⟩
end
end L2
end
section
namespace L2
open PySem PySem.Spec PyProof.Rows
theorem lex_irrefl:∀a:List Int,HT.lexLt a a=false
 | []=>rfl
 | x::r=>by rw [HT.dv,if_pos rfl];exact lex_irrefl r
theorem lex_trans:∀a b c:List Int,HT.lexLt a b=true->HT.lexLt b c=true->HT.lexLt a c=true
 | [],_,[],h1,h2=>by
  rename_i b
  cases b with
  | nil=>exact h1
  | cons y r=>cases h2
 | [],_,_::_,_,_=>rfl
 | x::r,[],_,h1,_=>by cases h1
 | x::r,y::t,[],_,h2=>by cases h2
 | x::r,y::t,z::u,h1,h2=>by
  rw [HT.dv] at *
  by_cases e1:x=y
  ·rw [if_pos e1] at h1
   by_cases e2:y=z
   ·rw [if_pos e2] at h2
    rw [if_pos (e1.trans e2)]
    exact lex_trans r t u h1 h2
   ·rw [if_neg e2] at h2
    rw [if_neg (by lia)]
    rw [e1];exact h2
  ·rw [if_neg e1] at h1
   have h1:=of_decide_eq_true h1
   by_cases e2:y=z
   ·rw [if_neg (by lia)]
    exact decide_eq_true (by lia)
   ·rw [if_neg e2] at h2
    have h2:=of_decide_eq_true h2
    rw [if_neg (by lia)]
    exact decide_eq_true (by lia)
theorem eH:∀a b:List Int,HT.lexLt a b=false->HT.lexLt b a=false->a=b
 | [],[],_,_=>rfl
 | [],_::_,h,_=>by cases h
 | _::_,[],_,h=>by cases h
 | x::r,y::t,h1,h2=>by
  rw [HT.dv] at *
  by_cases e:x=y
  ·rw [if_pos e] at h1
   rw [if_pos e.symm] at h2
   rw [e,eH r t h1 h2]
  ·rw [if_neg e] at h1
   rw [if_neg (Gu e)] at h2
   have h1:=of_decide_eq_false h1
   have h2:=of_decide_eq_false h2
   lia
theorem fv:∀a b c:List Int,HT.lexLt a c=true->HT.lexLt a b=true\/HT.lexLt b c=true:=fun a b c h=>by
 cases h1:HT.lexLt a b with
 | true=>exact .inl rfl
 | false=>
  right
  cases h2:HT.lexLt b a with
  | true=>exact lex_trans b a c h2 h
  | false=>rw [<- eH a b h1 h2];exact h
def lexOrd:IP:=⟨List Int,HT.lexLt,lex_irrefl,lex_trans,fv,eH⟩
def lexLe (a b:List Int):Bool:=!HT.lexLt b a
theorem kG (a b c:List Int) (h1:lexLe a b=true) (h2:lexLe b c=true):lexLe a c=true:=by
 unfold lexLe at *
 cases h:HT.lexLt c a with
 | false=>rfl
 | true=>
  rcases fv c b a h with z | z
  ·rw [z] at h2;cases h2
  ·rw [z] at h1;cases h1
theorem kH (a b:List Int):(lexLe a b||lexLe b a)=true:=by
 unfold lexLe
 cases h:HT.lexLt b a with
 | false=>rfl
 | true=>
  cases h':HT.lexLt a b with
  | false=>rfl
  | true=>have:=lex_trans a b a h' h;rw [lex_irrefl] at this;cases this
theorem lY (a b:List Int) (h1:lexLe a b=true) (h2:lexLe b a=true):a=b:=by
 unfold lexLe at *
 exact eH a b (by simpa using h2) (by simpa using h1)
def srt (l:List (List Int)):List (List Int):=l.mergeSort lexLe
theorem cj (l:List (List Int)):(srt l).Perm l:=List.mergeSort_perm l lexLe
theorem lZ (l:List (List Int)):(srt l).Pairwise (fun a b=>lexLe a b=true):=List.pairwise_mergeSort (le:=lexLe) kG kH l
theorem eP:∀{a b:List (List Int)},a.Perm b->a.Pairwise (fun a b=>lexLe a b=true)->b.Pairwise (fun a b=>lexLe a b=true)->a=b
 | [],b,p,_,_=>(List.perm_nil.mp p.symm).symm
 | x::r,[],p,_,_=>by have:=p.length_eq;simp at this
 | x::r,y::t,p,ha,hb=>by
  rw [List.pairwise_cons] at ha hb
  have e:x=y:=by
   have hx:x∈y::t:=p.mem_iff.mp Em
   have hy:y∈x::r:=p.mem_iff.mpr Em
   rcases List.mem_cons.mp hx with h | h
   ·exact h
   ·rcases List.mem_cons.mp hy with h' | h'
    ·exact h'.symm
    ·exact lY x y (ha.1 y h') (hb.1 x h)
  subst e
  rw [eP (List.Perm.cons_inv p) ha.2 hb.2]
theorem jC {a l:List (List Int)} (p:a.Perm l) (h:a.Pairwise (fun a b=>lexLe a b=true)):a=srt l:=eP (p.trans (cj l).symm) h (lZ l)
section
variable {X:Cx} {pins:List (Addr×Obj)} {σ:St} {H:Hp} {s:El}
theorem Inv.kept_led {h':Heap} {m:Str->Option Ej} (I:Inv X pins σ H s) (F':Fr X.base X.env.locals h' m) (N':News X.base X.env.locals h' (fq X.base s.heap X.env.locals)):∀b o,b≠X.env.locals->s.heap.get? b=some o->h'.get? b=some o:=fun b o hb e=>by
 cases q:X.base.get? b with
 | some u=>
  have:=I.bk b u q
  rw [e] at this;cases this
  exact F'.keep b _ q
 | none=>exact (N' (b,o) (kj hb q e)).1
theorem Inv.led {h':Heap} {m:Str->Option Ej} {t':Nat} (I:Inv X pins σ H s) (hm:s.heap.Ns X.env.locals m) (F':Fr X.base X.env.locals h' m) (N':News X.base X.env.locals h' (fq X.base s.heap X.env.locals)) :
  Inv X pins σ H { s with heap:=h',toks:=t' }:=by
 have k:=I.kept_led F' N'
 refine I.step (g':=s.gens) (d':=s.drawn) (ch:=[]) (fun _ z=>nomatch z) (fun b o hb _ _ e _=>k b o hb e) (fun b o hb _ _ e _=>⟨o.slots,k b o hb e⟩) (fun _ _ _ _ n=>n) (fun b o _ e=>?_) (fun _ _ e=>e) (fun _ _ _ e=>e) (fun b ps e=>⟨#[],by rw [e];simp⟩) (fun m' hm'=>?_) (fun b u e=>?_) I.bare
 ·by_cases hb:b=X.env.locals
  ·obtain ⟨o',_,_,ho,_⟩:=F'.ns
   exact ⟨o',by rw [hb];exact ho⟩
  ·exact ⟨o,k b o hb e⟩
 ·have em:m'=m:=by
   obtain ⟨o,es,ep,ho,hd,_,hf⟩:=hm
   obtain ⟨o2,es2,ep2,ho2,hd2,_,hf2⟩:=hm'
   rw [ho] at ho2;cases ho2
   rw [hd] at hd2;cases hd2
   funext x
   rw [<- hf x,<- hf2 x]
  rw [em];exact F'.ns
 ·refine (I.hok b u e).stay (fun c v hc q=>k c v ?_ q) (fun _ q=>q) fun _ _ q=>q
  rcases hc with z | z
  ·rw [z];exact aZ e I.free
  ·exact aZ z I.free
end
section
variable {prog:E2} {w:FO} {A:F4} {E:Ej->El->Prop} {s:El}
theorem kI {a:Addr} {vs:List Ej} {n:Nat} {R:PySem.Fin->El->Prop} (ho:s.heap.get? a=some (GR "list" vs.toArray n)) (hf:vs.length < 2)
  (h:R (.done (.ret .none)) { s with heap:=JM s.heap a vs vs.toArray }):Fp (Ff prog w) A (Builtin.«list.sort» ⟨[.ref a],[]⟩) R E s:=by
 have hlt:a < s.heap.objs.size:=EA ho
 have few:vs.toArray.size < 2:=by rw [Ex];exact hf
 have hz:vs.length<=EW:=by rw [FQ];lia
 obtain ⟨e,he⟩:∃e,(s.heap.update a (FI fun _=>#[])).get? a=some (GR "list" #[] e):=⟨_,Ig ho (fun _=>#[])⟩
 rw [list_sort_plain]
 refine Ef (listItems_at ho rfl (Ef (Jb ho rfl (Ef (J1 he rfl (Ef (wpAny_newTuple (Ef (HR (FR ?_))) (hsz:=hz))))) (by rw [Ex];lia))))
 have he2:(((s.heap.update a (FI fun _=>#[])).push (GR "tuple" vs.toArray 0)).push (GR "list" #[] 0)).get? a=some (GR "list" #[] e):=Eg _ (Eg _ he)
 dsimp only
 rw [if_pos few,if_pos few]
 refine Ef (Es ?_);rw [StateT.run_pure];refine Ef (Es ?_);dsimp only
 have em:Array.map (fun x:Ej×Ej=>x.2) (Et (Ku general' (vs.toArray.zip vs.toArray) #[] 7 none))=vs.toArray:=by
  show Array.map (fun x:Ej×Ej=>x.2) (vs.toArray.zip vs.toArray)=vs.toArray
  apply Array.ext <;> simp
 refine Ef (J1 he2 rfl (Ef (Jb he2 rfl ?_ (hsz2:=by rw [em,Ex];lia))))
 rw [em]
 simp only [bne_self_eq_false,Gi,if_false]
 exact Es h
theorem md {l:Addr} {vs:List Ej} {Q:Ej->El->Prop} (hl:s.heap.IsList l vs.toArray) (hf:vs.length < 2) (h:Q (.ref (s.heap.objs.size+1)) { s with heap:=sortedAll s.heap vs vs.toArray }):Fp (Ff prog w) A (call (.builtin "sorted") [.ref l]) Q E s:=by
 have hz:vs.length<=EW:=by rw [FQ];lia
 have z1:((s.heap.push (GR "list" #[] 0)).update s.heap.objs.size (FI (·++vs.toArray))).objs.size=s.heap.objs.size+1:=by rw [Heap.size_update,size_push']
 have z2:(((s.heap.push (GR "list" #[] 0)).update s.heap.objs.size (FI (·++vs.toArray))).push (GR "list" vs.toArray 0)).get? (s.heap.objs.size+1)=some (GR "list" vs.toArray 0):=z1▸EG _ rfl
 have col:=fun R r=>collect_list (prog:=prog) (w:=w) (A:=A.in1) (E:=E) (Q:=R) hl r hz
 refine He KS KG KH (KI _) (Ef (m:=K5 "sorted" 1 1 _) (Es (Ef (m:=collect (.ref l)) (col _ (Ef (HR ?_ (hsz:=hz)))))))
 dsimp only
 rw [z1]
 refine Ef (FR (GS JU ⟨_,z2,rfl⟩ Jy (kI z2 hf ⟨_,rfl,Es ⟨_,rfl,h⟩⟩) (JV _)))
end
section
variable {X:Cx} {pins:List (Addr×Obj)} {σ:St} {H:Hp} {s:El}
theorem uc {prog:E2} {w:FO} {A:F4} {Q:Bool->El->Prop}:∀(ns ms:List Int) {us vs:List Ej} (i:Nat) {fin:Bool},Vals (ns.map V.int) us->Vals (ms.map V.int) vs->fin=decide (us.length < vs.length)->Q (HT.lexLt ns ms) s ->
  PySem.W.KatLex prog w A true fin Q (us.zip vs) i s:=by
 intro ns
 induction ns with
 | nil=>
  intro ms us vs i fin r r' hf h
  have r:Vals [] us:=r
  cases r
  cases ms with
  | nil=>
   have r':Vals [] vs:=r'
   cases r'
   subst hf
   exact h
  | cons m ms=>
   have r':Vals (V.int m::ms.map V.int) vs:=r'
   cases r' with
   | cons a b=>
    subst hf
    exact h
 | cons n ns ih=>
  intro ms us vs i fin r r' hf h
  have r:Vals (V.int n::ns.map V.int) us:=r
  cases r with
  | cons q1 t=>
   cases ms with
   | nil=>
    have r':Vals [] vs:=r'
    cases r'
    subst hf
    exact h
   | cons m ms=>
    have r':Vals (V.int m::ms.map V.int) vs:=r'
    cases r' with
    | cons q2 t'=>
     obtain ⟨tk,rfl⟩:=q1
     obtain ⟨tk',rfl⟩:=q2
     rw [HT.dv] at h
     rw [List.zip_cons_cons]
     refine PySem.W.kat_cons (SeqAt.EqAt.int_int n tk m tk' prog w _ _ ?_)
     by_cases e:n=m
     ·rw [if_pos e] at h
      rw [show (n==m)=true by simpa using e]
      refine PySem.W.kat_yes (ih ms (i+1) t t' ?_ h)
      rw [hf]
      simp
     ·rw [if_neg e] at h
      rw [show (n==m)=false by simpa using e]
      refine PySem.W.kat_no ?_
      by_cases hi:i=0
      ·subst hi
       exact oneLt_int h
      ·rw [show (true&&i==0)=false by simp [hi]]
       exact PySem.W.kat_one _ _ (lt_int (show PySem.W.BoolBack _ (Kq _) _ from h))
theorem qj {h:Heap} {p:Addr} {its:List Ej} (hne:ms≠[]) (r:Vals (ms.map V.int) its) (ht:IsTup h p its.toArray):∃(f:Ej) (o:Obj) (n:Nat),(∃i t,f=Kc i t)/\h.get? p=some o/\o.cls=.type "tuple"/\o.data=.seq its.toArray n/\its.toArray[0]?=some f:=by
 obtain ⟨o,ho,hc,n,hd⟩:=ht
 cases ms with
 | nil=>exact absurd rfl hne
 | cons m ms=>
  have r:Vals (V.int m::ms.map V.int) its:=r
  cases r with
  | cons r1 r2=>
   obtain ⟨t,rfl⟩:=r1
   exact ⟨_,o,n,⟨m,t,rfl⟩,ho,hc,hd,by simp⟩
theorem gV {h:Heap} (hT:∀a xs,SqT X.K H a xs->∃its:List Ej,Vals xs its/\IsTup h a its.toArray) {ps:List Addr} (ht:eX X.K H ps mss):(∀ms∈mss,ms≠[]) ->
  ∃fs:List Ej,PySem.W.KatTups h (ps.map ET) fs/\fs.length=ps.length/\∀v∈fs,∃i t,v=Kc i t:=by
 unfold eX at ht
 induction ht with
 | nil=>exact fun _=>⟨[],trivial,rfl,(fun _ h=>nomatch h)⟩
 | cons hp t ih=>
  intro hne
  obtain ⟨fs,h1,h2,h3⟩:=ih fun m hm=>hne m (ES _ hm)
  obtain ⟨its,r,tt⟩:=hT _ _ hp
  obtain ⟨f,o,n,hi,ho,hc,hd,h0⟩:=qj (hne _ Em) r tt
  refine ⟨f::fs,PySem.W.KatTups.cons ho hc hd h0 h1,by simp [h2],fun v hv=>?_⟩
  rcases List.mem_cons.mp hv with rfl | hv
  ·exact hi
  ·exact h3 v hv
theorem i6:∀{ps:List Addr} {us:List Ej},Vals (ps.map V.ref) us->us=ps.map ET
 | [],_,.nil=>rfl
 | p::ps,_,.cons r t=>by
  rw [i6 t]
  cases r
  rfl
theorem fN:∀(ps:List Addr),Vals (ps.map V.ref) (ps.map ET)
 | []=>.nil
 | p::ps=>.cons rfl (fN ps)
end
end L2
end
section
namespace L2
open PySem PySem.Spec PyProof.Rows
def me (scope osc:Ha) (N tg cs:List Str) (ix:List Nat):Prop:=
 (∀y∈scope.names,y.2≠.cell)/\(∀y∈scope.names,y.2=.local->scope.names.lookup y.1=some .local)/\(tg++cs).Nodup/\ix.map (fun i=>N[i]?)=cs.map some /\
 (∀x∈cs,(x,Fq)∈scope.names/\scope.names.lookup x=some .free)/\∀y∈scope.names,y.2=.free->osc.names.lookup y.1=some .cell\/osc.names.lookup y.1=some .free
instance (scope osc:Ha) (N tg cs:List Str) (ix:List Nat):Decidable (me scope osc N tg cs ix):=by unfold me;infer_instance
theorem aN {X:Cx} {scope:Ha} {tg cs:List Str} (osc:Ha) (N:List Str) (h:me scope osc N tg cs ix) (hk:scope.kind=.function:=by rfl) (ho:X.env.scope=osc:=by rfl) (hN:X.N=N:=by rfl):aS X scope tg cs ix:=by
 obtain ⟨h1,h2,h3,h4,h5,h6⟩:=h
 exact ⟨hk,h1,h2,h3,by rw [hN];exact h4,h5,fun x hx=>by rw [ho];exact h6 (x,.free) hx rfl⟩
end L2
end
section
namespace L2
open PySem PySem.Spec PyProof.Rows
section
variable {X:Cx} {pins:List (Addr×Obj)} {σ:St} {H H1:Hp} {s:El}
theorem qk {elt target iter:Expr} {ifs:List Expr} {scope:Ha} {pos spos py:Pos} {yy:Str} {ii:Nat} {tg cs:List Str} {wi:TI} {g:TG} {tc:TT} {te:TE} (hN0:X.N.Nodup) (hi0:X.N[ii]?=some yy) (hx0:Loc X.env.scope yy)
  (S:aS X scope tg cs ix) (hcalm:X.calm=true) (kg:cV tg.length ix g)
  (hi:PI X target iter wi) (hg:∀C fp s H,PG (ak X scope (tg++cs) C fp s H) target g) (hc:∀C fp s H,PTs (ak X scope (tg++cs) C fp s H) ifs tc) (he:∀C fp s H,PE (ak X scope (tg++cs) C fp s H) elt te)
  (hf0:X.fn yy=true\/X.env.scope.names.lookup yy=some .local)
  (hsw:GP (.ListComp elt [⟨target,iter,ifs,0⟩] scope pos) (some (.Name yy py)) spos.line X.env=pure true)
  (hs:∀x,EC iter X.env x=pure x:=by intro _;rfl):PS X (.Assign [.Name yy py] (.ListComp elt [⟨target,iter,ifs,0⟩] scope pos) spos) (cU (iY wi tg.length ix g tc te) (aX ii)):=by
 intro pins s σ H Dn I h
 rw [HG _ _ _ _ hsw]
 refine Ef (FD (Ef ?_))
 show Fp _ X.A (do let _ <- Ja (.ListComp elt [⟨target,iter,ifs,0⟩] scope pos) scope X.env _ (newList []) false (eval iter X.env) (some (Hb (.Name yy py) X.env))) _ _ s
 refine Ef (EN (iZ (use:=some (Hb (.Name yy py) X.env)) (Qc:=fun _ s'=>SP X pins Dn .next s') S hcalm kg (Φ:=fun _=>True) (fun _ _ _ _ _=>trivial) hi hg (fun C fp s H _=>hc C fp s H) (fun C fp s H _=>he C fp s H) hs I h fun D C H' s' v I' q fp z=>?_) (fun _ s' hq=>Es (Es hq)) fun _ _ e=>e)
 obtain ⟨f0,c1,_,c3,c4,c5⟩:=fp
 obtain ⟨m,hm⟩:=z
 show Fp _ X.A (Hb (.Name yy py) X.env (.ref D)) _ _ s'
 refine Hu (eE (v:=.ref D) I' hN0 hi0 hx0 rfl (fun s'' I'' zq=>?_) hf0)
 obtain ⟨a,sb,ha⟩:=zq
 have hCa:C≠a:=by
  rcases ha with rfl | ha
  ·exact c1
  ·exact (c4 _ _ ha).symm
 exact ⟨m,hm.sameBut sb hCa,fun h' sb'=>⟨_,_,I''.turned (t':=s''.toks) (it:=C) (fun b o hb e=>(sb'.2 b hb).trans e) f0 c1 c3 c4 c5,q⟩⟩
end
end L2
end
section
namespace VL
open PySem L2
def IsM:Option HO->Prop
 | some (.lst _)=>True
 | some (.ext _)=>True
 | _=>False
theorem IsM.ne {o:Option HO} (h:IsM o):o≠none:=by rintro rfl;exact h
abbrev AP:=Addr->Prop
abbrev FP:=Option Addr->Prop
structure BB where
 ok:Ed->AP->FP->Hp->Addr->Prop
 mono:∀{K:Ed} {N N':AP} {F F':FP} {H H':Hp} {v:Addr},(∀a,N a->H a≠none->N' a/\H' a=H a)->(∀o,F o->F' o)->ok K N F H v->ok K N' F' H' v
 avoid:∀{K:Ed} {N N':AP} {F:FP} {H:Hp} {v:Addr},(∀a,¬N' a->IsM (H a))->(∀a,F (some a)->N' a)->ok K N F H v->ok K N' F H v
 both:∀{K:Ed} {N:AP} {F F':FP} {H:Hp} {v:Addr},(∀a,N a->IsM (H a)->F (some a)->F' (some a))->(F none->F' none)->ok K N F H v->ok K N F' H v
 reN:∀{K:Ed} {N N':AP} {F:FP} {H:Hp} {v:Addr},(∀a,IsM (H a)->N' a)->ok K N F H v->ok K N' F H v
inductive D where
 | int (i:Int) | bl (b:Bool) | non | str (x:Str) | ty (n:String) | tup (ds:List D) | lst (ds:List D) | dic (ks:List (List Int)) (vs:List D) | exc (c:Ej) | dib (kds:List D) (vs:List D) | oth (k:BB)
def kT (ms:List Int):D:=.tup (ms.map .int)
def DV:D->Int
 | .int i=>i
 | .bl b=>if b then 1 else 0
 | _=>0
def y6:D->Bool
 | .int _=>true
 | .bl _=>true
 | _=>false
def kN:D->List Int
 | .tup ds=>ds.map DV
 | _=>[]
def DW:D->Bool
 | .tup ds=>ds.all y6
 | _=>false
def Any:AP:=fun _=>True
def AnyF:FP:=fun _=>True
def Fr (H0:Hp):FP:=fun o=>∃a,o=some a/\H0 a=none
mutual
inductive Rep (K:Ed) (N:AP) (F:FP) (H:Hp):V->D->Prop where
 | int (i:Int):Rep K N F H (.int i) (.int i)
 | bl (b:Bool):Rep K N F H (.bl b) (.bl b)
 | non:Rep K N F H .non .non
 | str (x:Str):Rep K N F H (.str x) (.str x)
 | ty (x:String):Rep K N F H (.ty x) (.ty x)
 | tup {a:Addr} {vs:List V} {ds:List D} (n:N a) (h:Rd H a (.tup vs)) (r:Reps K N F H vs ds):Rep K N F H (.ref a) (.tup ds)
 | tupK {a:Addr} {vs:List V} {ds:List D} (h:SqT K (fun _=>none) a vs) (r:Reps K N F H vs ds):Rep K N F H (.ref a) (.tup ds)
 | lst {a:Addr} {vs:List V} {ds:List D} (n:N a) (f:F (some a)) (h:H a=some (.lst vs)) (r:Reps K N F H vs ds):Rep K N F H (.ref a) (.lst ds)
 | lstF {a:Addr} {vs:List V} {ds:List D} {o:Obj} (n:N a) (f:F none) (h:H a=some (.frz o (.lst vs))) (r:Reps K N F H vs ds):Rep K N F H (.ref a) (.lst ds)
 | lstK {a:Addr} {vs:List V} {ds:List D} (f:F none) (h:SqL K (fun _=>none) a vs) (r:Reps K N F H vs ds):Rep K N F H (.ref a) (.lst ds)
 | dic {a:Addr} {ob:Obj} {es:List (List Int×Addr×V)} {ks:List (List Int)} {ds:List D} (n:N a) (f:F (some a)) (h:H a=some (b0 a ob es)) (e:es.map (·.1)=ks) (rk:Reps K N F H (es.map fun x=>.ref x.2.1) (ks.map kT)) (r:Reps K N F H (es.map (·.2.2)) ds):Rep K N F H (.ref a) (.dic ks ds)
 | exc {x:Addr} {c:Ej} {o:Obj} (n:N x) (h:H x=some (.frz o (.own x))) (e:o.cls=c):Rep K N F H (.ref x) (.exc c)
 | dib {a:Addr} {ob:Obj} {es:List (List Int×Addr×V)} {kds:List D} {ds:List D} (n:N a) (f:F (some a)) (h:H a=some (b0 a ob es)) (e:es.map (·.1)=kds.map kN) (g:kds.all DW=true) (rk:Reps K N F H (es.map fun x=>.ref x.2.1) kds) (r:Reps K N F H (es.map (·.2.2)) ds):Rep K N F H (.ref a) (.dib kds ds)
 | oth {a:Addr} {k:BB} (h:k.ok K N F H a):Rep K N F H (.ref a) (.oth k)
inductive Reps (K:Ed) (N:AP) (F:FP) (H:Hp):List V->List D->Prop where
 | nil:Reps K N F H [] []
 | cons {v:V} {d:D} {vs:List V} {ds:List D} (h:Rep K N F H v d) (t:Reps K N F H vs ds):Reps K N F H (v::vs) (d::ds)
end
section
variable {K:Ed} {N N':AP} {F F':FP} {H H' H0:Hp}
theorem Rd.there {a:Addr} {u:HO} (h:Rd H a u):H a≠none:=by rcases h with h | ⟨o,h⟩ <;> simp [h]
theorem Rd.keep {a:Addr} {u:HO} (h:Rd H a u) (e:H' a=H a):Rd H' a u:=by
 rcases h with h | ⟨o,h⟩
 ·exact .inl (e.trans h)
 ·exact .inr ⟨o,e.trans h⟩
mutual
theorem Rep.mono (hN:∀a,N a->H a≠none->N' a/\H' a=H a) (hF:∀o,F o->F' o) {v:V} {d:D}:Rep K N F H v d->Rep K N' F' H' v d
 | .int i=>.int i
 | .bl i=>.bl i
 | .non=>.non
 | .str i=>.str i
 | .ty i=>.ty i
 | .tup n h r=>.tup (hN _ n (Rd.there h)).1 (Rd.keep h (hN _ n (Rd.there h)).2) (Reps.mono hN hF r)
 | .tupK h r=>.tupK h (Reps.mono hN hF r)
 | .lst n f h r=>.lst (hN _ n (by simp [h])).1 (hF _ f) ((hN _ n (by simp [h])).2.trans h) (Reps.mono hN hF r)
 | .lstF n f h r=>.lstF (hN _ n (by simp [h])).1 (hF _ f) ((hN _ n (by simp [h])).2.trans h) (Reps.mono hN hF r)
 | .lstK f h r=>.lstK (hF _ f) h (Reps.mono hN hF r)
 | .dic n f h e rk r=>.dic (hN _ n (by simp [h])).1 (hF _ f) ((hN _ n (by simp [h])).2.trans h) e (Reps.mono hN hF rk) (Reps.mono hN hF r)
 | .exc n h e=>.exc (hN _ n (by simp [h])).1 ((hN _ n (by simp [h])).2.trans h) e
 | .dib n f h e g rk r=>.dib (hN _ n (by simp [h])).1 (hF _ f) ((hN _ n (by simp [h])).2.trans h) e g (Reps.mono hN hF rk) (Reps.mono hN hF r)
 | .oth (k:=k) h=>.oth (k.mono hN hF h)
theorem Reps.mono (hN:∀a,N a->H a≠none->N' a/\H' a=H a) (hF:∀o,F o->F' o) {vs:List V} {ds:List D}:Reps K N F H vs ds->Reps K N' F' H' vs ds
 | .nil=>.nil
 | .cons h t=>.cons (Rep.mono hN hF h) (Reps.mono hN hF t)
end
theorem Rep.any {d:D} (h:Rep K N F H v d):Rep K Any AnyF H v d:=h.mono (fun _ _ _=>⟨trivial,rfl⟩) (fun _ _=>trivial)
theorem Reps.any {ds:List D} (h:Reps K N F H vs ds):Reps K Any AnyF H vs ds:=h.mono (fun _ _ _=>⟨trivial,rfl⟩) (fun _ _=>trivial)
mutual
theorem Rep.avoid (h1:∀a,¬N' a->IsM (H a)) (h2:∀a,F (some a)->N' a) {v:V} {d:D}:Rep K N F H v d->Rep K N' F H v d
 | .int i=>.int i
 | .bl i=>.bl i
 | .non=>.non
 | .str i=>.str i
 | .ty i=>.ty i
 | .tup (a:=a) n h r=>.tup (Fy fun z=>by
   have e:=h1 a z
   rcases h with h | ⟨o,h⟩ <;> rw [h] at e <;> exact e) h (Reps.avoid h1 h2 r)
 | .tupK h r=>.tupK h (Reps.avoid h1 h2 r)
 | .lst n f h r=>.lst (h2 _ f) f h (Reps.avoid h1 h2 r)
 | .lstF (a:=a) n f h r=>.lstF (Fy fun z=>by
   have e:=h1 a z
   rw [h] at e;exact e) f h (Reps.avoid h1 h2 r)
 | .lstK f h r=>.lstK f h (Reps.avoid h1 h2 r)
 | .dic n f h e rk r=>.dic (h2 _ f) f h e (Reps.avoid h1 h2 rk) (Reps.avoid h1 h2 r)
 | .exc (x:=a) n h e=>.exc (Fy fun z=>by
   have e:=h1 a z
   rw [h] at e;exact e) h e
 | .dib n f h e g rk r=>.dib (h2 _ f) f h e g (Reps.avoid h1 h2 rk) (Reps.avoid h1 h2 r)
 | .oth (k:=k) h=>.oth (k.avoid h1 h2 h)
theorem Reps.avoid (h1:∀a,¬N' a->IsM (H a)) (h2:∀a,F (some a)->N' a) {vs:List V} {ds:List D}:Reps K N F H vs ds->Reps K N' F H vs ds
 | .nil=>.nil
 | .cons h t=>.cons (Rep.avoid h1 h2 h) (Reps.avoid h1 h2 t)
end
mutual
def flat:D->Bool
 | .lst _=>false
 | .dic _ _=>false
 | .dib _ _=>false
 | .oth _=>false
 | .tup ds=>flats ds
 | _=>true
def flats:List D->Bool
 | []=>true
 | d::r=>flat d&&flats r
end
theorem gi:∀ms:List Int,flats (ms.map D.int)=true
 | []=>rfl
 | _::r=>by simp [flats,flat,gi r]
theorem dR:∀ks:List (List Int),flats (ks.map kT)=true
 | []=>rfl
 | _::r=>by simp [flats,kT,flat,gi,dR r]
mutual
theorem Rep.flat {v:V} {d:D}:Rep K N F H v d->VL.flat d=true->Rep K N F' H v d:=fun hh ee=>by
 cases hh with
 | int i=>exact .int i
 | bl i=>exact .bl i
 | non=>exact .non
 | str i=>exact .str i
 | ty i=>exact .ty i
 | tup n h r=>have e:=ee;exact .tup n h (Reps.flat r (by simpa [VL.flat] using e))
 | tupK h r=>have e:=ee;exact .tupK h (Reps.flat r (by simpa [VL.flat] using e))
 | lst n f h r=>have e:=ee;simp [VL.flat] at e
 | lstF n f h r=>have e:=ee;simp [VL.flat] at e
 | lstK f h r=>have e:=ee;simp [VL.flat] at e
 | dic n f h _ _ r=>have e:=ee;simp [VL.flat] at e
 | exc n h e0=>exact .exc n h e0
 | dib n f h _ _ _ r=>have e:=ee;simp [VL.flat] at e
 | oth h=>have e:=ee;simp [VL.flat] at e
theorem Reps.flat {vs:List V} {ds:List D}:Reps K N F H vs ds->flats ds=true->Reps K N F' H vs ds:=fun hh ee=>by
 cases hh with
 | nil=>exact .nil
 | cons h t=>
  have e:=ee
  simp only [flats,Fe] at e
  exact .cons (Rep.flat h e.1) (Reps.flat t e.2)
end
theorem Reps.length:∀{vs:List V} {ds:List D},Reps K N F H vs ds->vs.length=ds.length
 | _,_,.nil=>rfl
 | _,_,.cons _ t=>by simp [Reps.length t]
theorem Reps.get:∀{vs:List V} {ds:List D} {i:Nat} {v:V},Reps K N F H vs ds->vs[i]?=some v->∃d,ds[i]?=some d/\Rep K N F H v d
 | _,_,0,_,.cons h _,e=>by simp at e;subst e;exact ⟨_,rfl,h⟩
 | _,_,i+1,v,.cons _ t,e=>by
  obtain ⟨d,h1,h2⟩:=Reps.get (i:=i) (v:=v) t (by simpa using e)
  exact ⟨d,by simpa using h1,h2⟩
 | _,_,_,_,.nil,e=>by simp at e
theorem Reps.getD:∀{vs:List V} {ds:List D} {i:Nat} {d:D},Reps K N F H vs ds->ds[i]?=some d->∃v,vs[i]?=some v/\Rep K N F H v d
 | _,_,0,_,.cons h _,e=>by simp at e;subst e;exact ⟨_,rfl,h⟩
 | _,_,i+1,v,.cons _ t,e=>by
  obtain ⟨d,h1,h2⟩:=Reps.getD (i:=i) (d:=v) t (by simpa using e)
  exact ⟨d,by simpa using h1,h2⟩
 | _,_,_,_,.nil,e=>by simp at e
theorem Reps.append:∀{vs ws:List V} {ds es:List D},Reps K N F H vs ds->Reps K N F H ws es->Reps K N F H (vs++ws) (ds++es)
 | _,_,_,_,.nil,s=>s
 | _,_,_,_,.cons h t,s=>.cons h (Reps.append t s)
theorem Reps.set {d:D} (h:Rep K N F H v d):∀{vs:List V} {ds:List D} (i:Nat),Reps K N F H vs ds->Reps K N F H (vs.set i v) (ds.set i d)
 | _,_,_,.nil=>by simpa using .nil
 | _,_,0,.cons _ t=>by simpa using .cons h t
 | _,_,i+1,.cons q t=>by simpa using .cons q (Reps.set h i t)
theorem Reps.rev {ds:List D} (h:Reps K N F H vs ds):Reps K N F H vs.reverse ds.reverse:=by
 induction ds generalizing vs with
 | nil=>cases h;simpa using .nil
 | cons d r ih=>
  cases h with
  | cons h t=>simp only [Hv];exact Reps.append (ih t) (.cons h .nil)
theorem Reps.ints:∀{ns:List Int},Reps K N F H (ns.map V.int) (ns.map D.int)
 | []=>.nil
 | _::r=>.cons (.int _) (Reps.ints (ns:=r))
theorem Reps.toInts:∀{vs:List V} {ns:List Int},Reps K N F H vs (ns.map D.int)->vs=ns.map V.int
 | _,[],.nil=>rfl
 | _,n::ns,.cons h t=>by cases h;rw [Reps.toInts t];rfl
theorem fw {a:Addr} (h:SqT K (fun _=>none) a vs):SqT K H a vs:=by
 rcases h with (h | ⟨o,h⟩) | h
 ·cases h
 ·cases h
 ·exact .inr h
theorem gW {a:Addr} (h:SqL K (fun _=>none) a vs):SqL K H a vs:=by
 rcases h with (h | ⟨o,h⟩) | h
 ·cases h
 ·cases h
 ·exact .inr h
theorem Rep.sqT {ds:List D} (h:Rep K N F H v (.tup ds)):∃a vs,v=.ref a/\SqT K H a vs/\Reps K N F H vs ds:=by
 cases h with
 | tup n h r=>exact ⟨_,_,rfl,.inl h,r⟩
 | tupK h r=>exact ⟨_,_,rfl,fw h,r⟩
theorem Rep.sqL {ds:List D} (h:Rep K N F H v (.lst ds)):∃a vs,v=.ref a/\SqL K H a vs/\Reps K N F H vs ds:=by
 cases h with
 | lst n f h r=>exact ⟨_,_,rfl,.inl (.inl h),r⟩
 | lstF n f h r=>exact ⟨_,_,rfl,.inl (.inr ⟨_,h⟩),r⟩
 | lstK f h r=>exact ⟨_,_,rfl,gW h,r⟩
theorem Rep.of_sqL {a:Addr} {ds:List D} (h:SqL K H a vs) (n:N a) (f:∀o,F o) (r:Reps K N F H vs ds):Rep K N F H (.ref a) (.lst ds):=by
 rcases h with (h | ⟨o,h⟩) | h
 ·exact .lst n (f _) h r
 ·exact .lstF n (f _) h r
 ·exact .lstK (f _) (.inr h) r
end
structure DX where
 ok:Ed->Hp->AP->Hp->Addr->Prop
 ism:∀{K:Ed} {H0:Hp} {N:AP} {H:Hp} {a:Addr},ok K H0 N H a->IsM (H a)
 mono:∀{K:Ed} {H0:Hp} {N N':AP} {H H':Hp} {a:Addr},(∀b,N b->H b≠none->N' b/\H' b=H b)->H' a=H a->ok K H0 N H a->ok K H0 N' H' a
inductive Sl where
 | no | val (d:D) | fre (d:D) | own (ds:List D) | pen (ad:Option Addr) (ns:List Int) | odi (ks:List (List Int)) (vs:List D) | obj (k:DX)
def Sl.mut:Sl->Bool
 | .own _=>true
 | .pen _ _=>true
 | .odi _ _=>true
 | .obj _=>true
 | _=>false
def Mo (Z:AP) (σ:St) (S:List Sl) (a:Addr):Prop:=(∃(i:Nat) (s:Sl),S[i]?=some s/\s.mut=true/\σ[i]?=some (some (V.ref a)))\/Z a
abbrev NM (Z:AP) (σ:St) (S:List Sl):AP:=fun a=>¬Mo Z σ S a
def oJ (K:Ed) (H0:Hp) (N:AP) (H:Hp) (o:Option V):Sl->Prop
 | .no=>True
 | .val d=>∃v,o=some v/\Rep K N AnyF H v d
 | .fre d=>∃v,o=some v/\Rep K N (Fr H0) H v d
 | .own ds=>∃a vs,o=some (.ref a)/\H a=some (.lst vs)/\H0 a=none/\Reps K N (Fr H0) H vs ds
 | .pen ad ns=>∃a,o=some (.ref a)/\(∀b,ad=some b->a=b)/\H a=some (.lst (ns.map .int))
 | .odi ks ds=>∃a es,o=some (.ref a)/\(∃ob,H a=some (b0 a ob es))/\H0 a=none/\(es.map (·.1)=ks/\Reps K N AnyF H (es.map fun x=>V.ref x.2.1) (ks.map kT))/\Reps K N (Fr H0) H (es.map (·.2.2)) ds
 | .obj k=>∃a,o=some (.ref a)/\H0 a=none/\k.ok K H0 N H a
structure OK (K:Ed) (H0:Hp) (Z:AP) (σ:St) (H:Hp) (S:List Sl):Prop where
 len:σ.length=S.length
 at_:∀(i:Nat) (o:Option V) (s:Sl),σ[i]?=some o->S[i]?=some s->oJ K H0 (NM Z σ S) H o s
 inj:∀(i j:Nat) (a:Addr) (s t:Sl),S[i]?=some s->S[j]?=some t->s.mut=true->t.mut=true->σ[i]?=some (some (V.ref a))->σ[j]?=some (some (V.ref a))->i=j
 dom:∀a,H a=none->H0 a=none
 zl:∀a,Z a->IsM (H a)
 nz:∀(i:Nat) (s:Sl) (a:Addr),S[i]?=some s->s.mut=true->σ[i]?=some (some (V.ref a))->¬Z a
def Step (Z:AP) (σ:St) (S:List Sl) (H:Hp) (σ':St) (S':List Sl) (H':Hp):Prop:=(∀a,NM Z σ S a->H a≠none->H' a=H a/\NM Z σ' S' a)/\(∀a,H' a=none->H a=none)/\∀a,Z a->H a≠none->H' a=H a
section
variable {K:Ed} {N N':AP} {F F':FP} {H H' H'' H0:Hp} {Z:AP} {σ σ' σ'':St} {S S' S'':List Sl}
theorem Step.refl:Step Z σ S H σ S H:=⟨fun _ n _=>⟨rfl,n⟩,fun _ h=>h,fun _ _ _=>rfl⟩
theorem Step.trans (a:Step Z σ S H σ' S' H') (b:Step Z σ' S' H' σ'' S'' H''):Step Z σ S H σ'' S'' H'':=
 ⟨fun x n h=>by
  obtain ⟨e1,n1⟩:=a.1 x n h
  obtain ⟨e2,n2⟩:=b.1 x n1 (by rw [e1];exact h)
  exact ⟨e2.trans e1,n2⟩,fun x h=>a.2.1 x (b.2.1 x h),fun x z h=>by
  have e1:=a.2.2 x z h
  exact (b.2.2 x z (by rw [e1];exact h)).trans e1⟩
theorem Rep.step {d:D} (h:Rep K (NM Z σ S) F H v d) (st:Step Z σ S H σ' S' H'):Rep K (NM Z σ' S') F H' v d:=h.mono (fun a n e=>⟨(st.1 a n e).2,(st.1 a n e).1⟩) fun _ x=>x
theorem Reps.step {ds:List D} (h:Reps K (NM Z σ S) F H vs ds) (st:Step Z σ S H σ' S' H'):Reps K (NM Z σ' S') F H' vs ds:=h.mono (fun a n e=>⟨(st.1 a n e).2,(st.1 a n e).1⟩) fun _ x=>x
theorem Rep.stp {d:D} (h:Rep K (NM Z σ S) F H v d) (st:∀a,NM Z σ S a->H a≠none->H' a=H a/\NM Z σ' S' a):Rep K (NM Z σ' S') F H' v d:=h.mono (fun a n e=>⟨(st a n e).2,(st a n e).1⟩) fun _ x=>x
theorem OK.mo (k:OK K H0 Z σ H S) {a:Addr} (h:Mo Z σ S a):IsM (H a):=by
 rcases h with ⟨i,s,e1,e2,e3⟩ | h
 case inr=>exact k.zl a h
 have q:=k.at_ i _ s e3 e1
 cases s with
 | no=>cases e2
 | val d=>cases e2
 | fre d=>cases e2
 | own ds=>obtain ⟨b,vs,h1,h2,_⟩:=q;cases h1;rw [h2];trivial
 | pen ad ns=>obtain ⟨b,h1,_,h2⟩:=q;cases h1;rw [h2];trivial
 | odi ks ds=>obtain ⟨b,kvs,h1,⟨ob,h2⟩,_⟩:=q;cases h1;rw [h2];trivial
 | obj k=>obtain ⟨b,h1,_,h2⟩:=q;cases h1;exact k.ism h2
theorem OK.grow (k:OK K H0 Z σ H S) (h:∀a,H a≠none->H' a=H a):OK K H0 Z σ H' S where
 len:=k.len
 inj:=k.inj
 nz:=k.nz
 zl:=fun a z=>by
  have e:=k.zl a z
  rw [h a e.ne];exact e
 dom:=fun a e=>k.dom a (Fy fun z=>by rw [h a z] at e;exact z e)
 at_:=fun i o s e1 e2=>by
  have q:=k.at_ i o s e1 e2
  have hm:∀a,NM Z σ S a->H a≠none->NM Z σ S a/\H' a=H a:=fun a n e=>⟨n,h a e⟩
  cases s with
  | no=>trivial
  | val d=>obtain ⟨v,e,r⟩:=q;exact ⟨v,e,r.mono hm fun _ x=>x⟩
  | fre d=>obtain ⟨v,e,r⟩:=q;exact ⟨v,e,r.mono hm fun _ x=>x⟩
  | own ds=>obtain ⟨a,vs,e,e',e0,r⟩:=q;exact ⟨a,vs,e,by rw [h a (by simp [e'])];exact e',e0,r.mono hm fun _ x=>x⟩
  | pen ad ns=>obtain ⟨a,e,e1,e'⟩:=q;exact ⟨a,e,e1,by rw [h a (by simp [e'])];exact e'⟩
  | odi ks ds=>obtain ⟨a,vs,e,⟨ob,e'⟩,e0,ek,r⟩:=q;exact ⟨a,vs,e,⟨ob,by rw [h a (by simp [e'])];exact e'⟩,e0,⟨ek.1,ek.2.mono hm fun _ x=>x⟩,r.mono hm fun _ x=>x⟩
  | obj k=>obtain ⟨a,e,e0,r⟩:=q;exact ⟨a,e,e0,k.mono hm (h a (k.ism r).ne) r⟩
theorem Step.grow (h:∀a,H a≠none->H' a=H a):Step Z σ S H σ S H':=⟨fun a n e=>⟨h a e,n⟩,fun a e=>Fy fun z=>by rw [h a z] at e;exact z e,fun a _ e=>h a e⟩
theorem aT {p:Addr} {o:HO} (hp:H p=none):∀a,H a≠none->upd H p o a=H a:=fun a e=>aC fun z=>e (by rw [z];exact hp)
end
inductive VR where
 | d (x:D) | own (i:Nat)
def getO:Option Sl->Option D
 | some (.own ds)=>some (.lst ds)
 | some (.pen _ ns)=>some (.lst (ns.map .int))
 | some (.odi ks vs)=>some (.dic ks vs)
 | _=>none
def get (S:List Sl):VR->Option D
 | .d x=>some x
 | .own i=>getO S[i]?
def dU (K:Ed) (F:FP) (Z:AP) (σ:St) (S:List Sl) (H:Hp) (v:V):VR->Prop
 | .d x=>Rep K (NM Z σ S) F H v x
 | .own i=>σ[i]?=some (some v)
section
variable {K:Ed} {N N':AP} {F F':FP} {H H' H'' H0:Hp} {Z:AP} {σ σ' σ'':St} {S S' S'':List Sl}
theorem dU.step {r:VR} (h:dU K F Z σ S H v r) (st:Step Z σ S H σ S' H'):dU K F Z σ S' H' v r:=by
 cases r with
 | d x=>exact Rep.step h st
 | own i=>exact h
theorem dU.get {r:VR} {x:D} (h:dU K F Z σ S H v r) (k:OK K H0 Z σ H S) (e:get S r=some x):Rep K Any AnyF H v x:=by
 cases r with
 | d y=>cases e;exact Rep.any h
 | own i=>
  have h:σ[i]?=some (some v):=h
  have e:getO S[i]?=some x:=e
  cases es:S[i]? with
  | none=>rw [es] at e;cases e
  | some s=>
   rw [es] at e
   cases s with
   | no=>cases e
   | val d=>cases e
   | fre d=>cases e
   | own ds=>
    cases e
    obtain ⟨a,vs,h1,h2,h3,h4⟩:=k.at_ i _ _ h es
    cases h1
    exact .lst trivial trivial h2 h4.any
   | pen ad ns=>
    cases e
    obtain ⟨a,h1,_,h2⟩:=k.at_ i _ _ h es
    cases h1
    exact .lst trivial trivial h2 Reps.ints
   | odi ks ds=>
    cases e
    obtain ⟨a,kvs,h1,⟨ob,h2⟩,h3,h4,h5⟩:=k.at_ i _ _ h es
    cases h1
    exact .dic trivial trivial h2 h4.1 h4.2.any h5.any
   | obj k=>cases e
end
abbrev VT:=List Sl->(VR->List Sl->Prop)->Prop
abbrev VTT:=List Sl->(Bool->List Sl->Prop)->Prop
abbrev VTA:=List Sl->(List VR->List Sl->Prop)->Prop
abbrev VTN:=List Sl->(List D->List Sl->Prop)->Prop
def FM (H0:Hp) (m:Bool):FP:=fun o=>m=true->Fr H0 o
def SndE (K:Ed) (m:Bool) (te:TE) (t:VT):Prop:=∀H0 Z σ H S Q C,OK K H0 Z σ H S->t S Q->(∀v H' r S',OK K H0 Z σ H' S'->Step Z σ S H σ S' H'->dU K (FM H0 m) Z σ S' H' v r->Q r S'->C v H')->te σ H C
def SndT (K:Ed) (te:TT) (t:VTT):Prop:=∀H0 Z σ H S Q C,OK K H0 Z σ H S->t S Q->(∀b H' S',OK K H0 Z σ H' S'->Step Z σ S H σ S' H'->Q b S'->C b H')->te σ H C
inductive cy (K:Ed) (F:FP) (Z:AP) (σ:St) (S:List Sl) (H:Hp):List V->List VR->Prop where
 | nil:cy K F Z σ S H [] []
 | cons {v:V} {r:VR} {vs:List V} {rs:List VR} (h:dU K F Z σ S H v r) (t:cy K F Z σ S H vs rs):cy K F Z σ S H (v::vs) (r::rs)
def gets (S:List Sl):List VR->Option (List D)
 | []=>some []
 | r::rs=>match get S r,gets S rs with
  | some d,some ds=>some (d::ds)
  | _,_=>none
def BC (K:Ed) (m:Bool) (te:TA) (t:VTA):Prop:=∀H0 Z σ H S Q C,OK K H0 Z σ H S->t S Q->(∀vs H' rs S',OK K H0 Z σ H' S'->Step Z σ S H σ S' H'->cy K (FM H0 m) Z σ S' H' vs rs->Q rs S'->C vs H')->te σ H C
def SndN (K:Ed) (te:TE) (t:VTN):Prop:=∀H0 Z σ H S Q C,OK K H0 Z σ H S->t S Q->(∀a vs ds H1 H' S',OK K H0 Z σ H1 S'->Step Z σ S H σ S' H1->H1 a=none->(∀b,H1 b≠none->H' b=H1 b)->H' a=some (.lst vs) ->
 Reps K (fun b=>NM Z σ S' b/\b≠a) (Fr H0) H' vs ds->Q ds S'->C (.ref a) H')->te σ H C
structure VE (K:Ed) (X:Cx) (m:Bool) (e:Expr) (te:TE) (t:VT):Prop where
 pe:PE X e te
 snd:SndE K m te t
structure VTe (K:Ed) (X:Cx) (e:Expr) (te:TT) (t:VTT):Prop where
 pe:PT X e te
 snd:SndT K te t
structure VWe (K:Ed) (X:Cx) (e:Expr) (te:TT) (t:VTT):Prop where
 pe:PW X e te
 snd:SndT K te t
structure VA (K:Ed) (X:Cx) (m:Bool) (es:List Expr) (te:TA) (t:VTA):Prop where
 pe:PA X es te
 snd:BC K m te t
structure VN (K:Ed) (X:Cx) (e:Expr) (te:TE) (t:VTN):Prop where
 pe:PE X e te
 snd:SndN K te t
section
variable {K:Ed} {N N':AP} {F F':FP} {H H' H'' H0:Hp} {Z:AP} {σ σ' σ'':St} {S S' S'':List Sl}
theorem cy.gets {rs:List VR} {ds:List D} (h:cy K F Z σ S H vs rs) (k:OK K H0 Z σ H S) (e:gets S rs=some ds):Reps K Any AnyF H vs ds:=by
 induction h generalizing ds with
 | nil=>cases e;exact .nil
 | cons h t ih=>
  unfold VL.gets at e
  split at e
  ·rename_i d es h1 h2
   cases e
   exact .cons (h.get k h1) (ih h2)
  ·cases e
end
end VL
end
variable {kvs:List (List Int×VL.D)} {ds:List VL.D} {S:List VL.Sl} {d:VL.D} {r:VL.VR} {F:VL.FP} {Z:VL.AP} {H0:L2.Hp} {rs:List VL.VR} {q:VL.D->Prop} {p:List VL.D->(VL.D->Prop)->Prop}
section
namespace VL
open PySem L2
section
variable {K:Ed} {X:Cx} {m:Bool} {e a b c:Expr} {ta tb tc te:TE} {va vb vc:VT} {pos:Pos}
theorem FM.any {a:Option Addr}:FM H0 false a:=fun z=>nomatch z
def vC (d:D):VT:=fun S Q=>Q (.d d) S
theorem af {i j}:VE K X m (.Constant (.int i) j pos) (tC (.int i)) (vC (.int i)):=⟨pN,fun _ _ _ _ _ _ _ k h q=>q _ _ (.d (.int i)) _ k .refl (Rep.int i) h⟩
theorem gX {i j}:VE K X m (.Constant (.bool i) j pos) (tC (.bl i)) (vC (.bl i)):=⟨Bd,fun _ _ _ _ _ _ _ k h q=>q _ _ (.d (.bl i)) _ k .refl (Rep.bl i) h⟩
theorem cW {i j}:VE K X m (.Constant (.str i) j pos) (tC (.str i)) (vC (.str i)):=⟨yv,fun _ _ _ _ _ _ _ k h q=>q _ _ (.d (.str i)) _ k .refl (Rep.str i) h⟩
theorem gY (h:PE X e (tC v)) (r:∀N H,Rep K N AnyF H v d):VE K X false e (tC v) (vC d):=⟨h,fun _ _ _ _ _ _ _ k h q=>q _ _ (.d d) _ k .refl (show Rep K _ _ _ v d from (r _ _).mono (fun _ n _=>⟨n,rfl⟩) (fun _ _=>FM.any)) h⟩
def rdO (i:Nat):Option Sl->Option VR
 | some (.val d)=>some (.d d)
 | some (.fre d)=>some (.d d)
 | some (.own _)=>some (.own i)
 | some (.pen _ _)=>some (.own i)
 | some (.odi _ _)=>some (.own i)
 | some (.obj _)=>some (.own i)
 | _=>none
def y8 (i:Nat):VT:=fun S Q=>∃r,rdO i S[i]?=some r/\Q r S
theorem OK.var {H0 H:Hp} (k:OK K H0 Z σ H S) {i:Nat} (h:rdO i S[i]?=some r):∃v,σ[i]?=some (some v)/\dU K (FM H0 false) Z σ S H v r:=by
 have hl:=k.len
 cases es:S[i]? with
 | none=>rw [es] at h;cases h
 | some s=>
  have hi:i < σ.length:=by rw [hl];exact (List.getElem?_eq_some_iff.mp es).1
  have q:=k.at_ i _ s (Ei hi) es
  rw [es] at h
  cases s with
  | no=>cases h
  | val d=>obtain ⟨v,e,r'⟩:=q;cases h;exact ⟨v,by rw [Ei hi,e],r'.mono (fun _ n _=>⟨n,rfl⟩) fun _ _=>FM.any⟩
  | fre d=>obtain ⟨v,e,r'⟩:=q;cases h;exact ⟨v,by rw [Ei hi,e],r'.mono (fun _ n _=>⟨n,rfl⟩) fun _ x _=>x⟩
  | own ds=>obtain ⟨a,vs,e,_⟩:=q;cases h;exact ⟨.ref a,by rw [Ei hi,e],by show σ[i]?=_;rw [Ei hi,e]⟩
  | pen ad ds=>obtain ⟨a,e,_⟩:=q;cases h;exact ⟨.ref a,by rw [Ei hi,e],by show σ[i]?=_;rw [Ei hi,e]⟩
  | odi ks ds=>obtain ⟨a,_,e,_⟩:=q;cases h;exact ⟨.ref a,by rw [Ei hi,e],by show σ[i]?=_;rw [Ei hi,e]⟩
  | obj k=>obtain ⟨a,e,_⟩:=q;cases h;exact ⟨.ref a,by rw [Ei hi,e],by show σ[i]?=_;rw [Ei hi,e]⟩
theorem ae (i:Nat) (h:PE X e (cP i)):VE K X false e (cP i) (y8 i):=⟨h,fun H0 Z σ H S Q C k zq1 hc=>by
 obtain ⟨r,h,q⟩:=zq1
 obtain ⟨v,e,rr⟩:=k.var h
 exact ⟨v,e,hc _ _ _ _ k .refl rr q⟩⟩
def xf (t:VT):VT:=fun S Q=>t S fun r S'=>(match r with | .d d=>flat d=true | .own _=>True)/\Q r S'
theorem az (h:VE K X false e te va):VE K X m e te (xf va):=⟨h.pe,fun H0 Z σ H S Q C k t hc=>h.snd H0 Z σ H S _ C k t fun v H' r S' k' st rr ⟨f,q⟩=>hc v H' r S' k' st (by
 cases r with
 | d x=>exact Rep.flat rr f
 | own i=>exact rr) q⟩
def v2 (w:D->D->(D->Prop)->Prop) (va vb:VT):VT:=fun S Q=>va S fun ra S1=>vb S1 fun rb S2=>∃d1 d2,get S2 ra=some d1/\get S2 rb=some d2/\w d1 d2 fun d=>Q (.d d) S2
def cG (K:Ed) (r:R2) (w:D->D->(D->Prop)->Prop):Prop:=∀(x y:V) (H:Hp) (d1 d2:D) (q:D->Prop) (C:VK),Rep K Any AnyF H x d1->Rep K Any AnyF H y d2->w d1 d2 q->(∀z dz,q dz->(∀N F,Rep K N F H z dz)->C z H)->r x y H C
theorem y9 {r:R2} {w:D->D->(D->Prop)->Prop} (L:cG K r w) (ha:SndE K false ta va) (hb:SndE K false tb vb):SndE K m (tOp r ta tb) (v2 w va vb):=by
 intro H0 Z σ H S Q C k t hc
 refine ha H0 Z σ H S _ _ k t fun x H1 ra S1 k1 st1 r1 t1=>?_
 refine hb H0 Z σ H1 S1 _ _ k1 t1 fun y H2 rb S2 k2 st2 r2 zr1=>?_
 obtain ⟨d1,d2,e1,e2,t2⟩:=zr1
 exact L x y H2 d1 d2 _ _ ((r1.step st2).get k2 e1) (r2.get k2 e2) t2 fun z dz q rz=>hc z H2 (.d dz) S2 k2 (st1.trans st2) (rz _ _) q
theorem ay {op:K8} {r:R2} {w:D->D->(D->Prop)->Prop} (ho:OpR X (Hf op) r) (L:cG K r w) (ha:VE K X false a ta va) (hb:VE K X false b tb vb):VE K X m (.BinOp a op b pos) (tOp r ta tb) (v2 w va vb):=⟨pV ho ha.pe hb.pe,y9 L ha.snd hb.snd⟩
@[reducible] def ofV:V->D
 | .int i=>.int i
 | .bl b=>.bl b
 | .str x=>.str x
 | .ty x=>.ty x
 | _=>.non
def scV:V->Bool
 | .int _=>true | .bl _=>true | .str _=>true | .non=>true | .ty _=>true | _=>false
theorem mi (h:scV v=true) {N:AP}:Rep K N F H v (ofV v):=by
 cases v <;> first | exact .int _ | exact .bl _ | exact .str _ | exact .non | exact .ty _ | cases h
def wI (C:Int->Int->Prop) (g:Int->Int->V):D->D->(D->Prop)->Prop:=fun d1 d2 q=>∃i j,d1=.int i/\d2=.int j/\C i j/\q (ofV (g i j))
def wI0 (g:Int->Int->V):D->D->(D->Prop)->Prop:=fun d1 d2 q=>∃i j,d1=.int i/\d2=.int j/\q (ofV (g i j))
theorem bP {C:Int->Int->Prop} {g:Int->Int->V} (hg:∀i j,scV (g i j)=true:=by intro _ _;rfl):cG K (rI C g) (wI C g):=by
 rintro x y H d1 d2 q Cc r1 r2 ⟨i,j,rfl,rfl,c,h⟩ hc
 cases r1;cases r2
 exact ⟨i,j,rfl,rfl,c,hc _ _ h fun _ _=>mi (hg i j)⟩
theorem aF {g:Int->Int->V} (hg:∀i j,scV (g i j)=true:=by intro _ _;rfl):cG K (rI0 g) (wI0 g):=by
 rintro x y H d1 d2 q Cc r1 r2 ⟨i,j,rfl,rfl,h⟩ hc
 cases r1;cases r2
 exact ⟨i,j,rfl,rfl,hc _ _ h fun _ _=>mi (hg i j)⟩
def toV:D->Option V
 | .int i=>some (.int i)
 | .bl b=>some (.bl b)
 | .str x=>some (.str x)
 | .non=>some .non
 | _=>none
theorem gA {u:V} {N:AP} (h:Rep K N F H v d) (e:toV d=some u):v=u:=by
 cases h <;> cases e <;> rfl
def wEq:D->D->(D->Prop)->Prop:=fun d1 d2 q=>∃x y,toV d1=some x/\toV d2=some y/\tS x y=true/\q (.bl (decide (x=y)))
def wNe:D->D->(D->Prop)->Prop:=fun d1 d2 q=>∃x y,toV d1=some x/\toV d2=some y/\tS x y=true/\q (.bl (!decide (x=y)))
theorem dM:cG K rEq wEq:=by
 rintro x y H d1 d2 q C r1 r2 ⟨x',y',e1,e2,s,h⟩ hc
 obtain rfl:=gA r1 e1
 obtain rfl:=gA r2 e2
 exact ⟨s,hc _ _ h fun _ _=>.bl _⟩
theorem kJ:cG K rNe wNe:=by
 rintro x y H d1 d2 q C r1 r2 ⟨x',y',e1,e2,s,h⟩ hc
 obtain rfl:=gA r1 e1
 obtain rfl:=gA r2 e2
 exact ⟨s,hc _ _ h fun _ _=>.bl _⟩
def kK (t:VT):VTT:=fun S Q=>t S fun r S'=>∃k,r=.d (.bl k)/\Q k S'
theorem ud (h:SndE K m te va):SndT K (pY te) (kK va):=fun H0 Z σ H S Q C k t hc=>h H0 Z σ H S _ _ k t fun v H' r S' k' st rr zq1=>by
 obtain ⟨b,e,q⟩:=zq1
 subst e
 cases (show Rep K _ _ H' v (.bl b) from rr)
 exact ⟨b,rfl,hc b H' S' k' st q⟩
theorem DY (h:SndE K m te va):SndT K (tB te) (kK va):=fun H0 Z σ H S Q C k t hc=>h H0 Z σ H S _ _ k t fun v H' r S' k' st rr zq1=>by
 obtain ⟨b,e,q⟩:=zq1
 subst e
 cases (show Rep K _ _ H' v (.bl b) from rr)
 exact ⟨b,rfl,hc b H' S' k' st q⟩
theorem aK {op:CmpOp} {r:R2} {w:D->D->(D->Prop)->Prop} (ho:OpR X (FU op) r) (L:cG K r w) (ha:VE K X false a ta va) (hb:VE K X false b tb vb) (hm:Hl op b=false):VTe K X (.Compare a [op] [b] pos) (pY (tOp r ta tb)) (kK (v2 w va vb)):=
 ⟨tU ho ha.pe hb.pe hm,ud (m:=false) (y9 L ha.snd hb.snd)⟩
theorem gZ {op:CmpOp} {r:R2} {w:D->D->(D->Prop)->Prop} (ho:OpR X (FU op) r) (L:cG K r w) (ha:VE K X false a ta va) (hb:VE K X false b tb vb) (hm:Hl op b=false):VE K X m (.Compare a [op] [b] pos) (tOp r ta tb) (v2 w va vb):=
 ⟨tT ho ha.pe hb.pe hm,y9 L ha.snd hb.snd⟩
theorem eY (h:VE K X false e te va) (he:∀whole,JS e X.env whole=(do let v <- whole;G6 e.pos;G7 [v] (Kz v)):=by intro _;rfl):VTe K X e (tB te) (kK va):=⟨yw h.pe he,DY h.snd⟩
def tru:D->Option Bool
 | .bl b=>some b
 | .int i=>some (i != 0)
 | .non=>some false
 | .lst ds=>some !ds.isEmpty
 | .tup ds=>some !ds.isEmpty
 | _=>none
section
variable {tA tB':TT} {wA wB:VTT} {rest:List Expr}
def BD (t u:VTT):VTT:=fun S Q=>t S fun c S1=>if c=true then u S1 Q else Q false S1
def vOr (t u:VTT):VTT:=fun S Q=>t S fun c S1=>if c=true then Q true S1 else u S1 Q
def BE (t:VTT):VTT:=fun S Q=>t S fun c S1=>Q (!c) S1
theorem cQ (h:VTe K X a tA wA):VWe K X (.BoolOp .And [a] pos) tA wA:=⟨tI h.pe,h.snd⟩
theorem fO (h:VTe K X a tA wA):VWe K X (.BoolOp .Or [a] pos) tA wA:=⟨yx h.pe,h.snd⟩
theorem dW (ha:VTe K X a tA wA) (hb:VWe K X (.BoolOp .And (b::rest) pos) tB' wB):VWe K X (.BoolOp .And (a::b::rest) pos) (Be tA tB') (BD wA wB):=⟨yz ha.pe hb.pe,fun H0 Z σ H S Q C k t hc=>
 ha.snd H0 Z σ H S _ _ k t fun c H1 S1 k1 st1 q=>by
  cases c with
  | true=>rw [if_pos rfl] at q ⊢;exact hb.snd H0 Z σ H1 S1 _ _ k1 q fun c2 H2 S2 k2 st2 q2=>hc c2 H2 S2 k2 (st1.trans st2) q2
  | false=>rw [if_neg Er] at q ⊢;exact hc false H1 S1 k1 st1 q⟩
theorem g7 (ha:VTe K X a tA wA) (hb:VWe K X (.BoolOp .Or (b::rest) pos) tB' wB):VWe K X (.BoolOp .Or (a::b::rest) pos) (tOr tA tB') (vOr wA wB):=⟨Bg ha.pe hb.pe,fun H0 Z σ H S Q C k t hc=>
 ha.snd H0 Z σ H S _ _ k t fun c H1 S1 k1 st1 q=>by
  cases c with
  | false=>rw [if_neg Er] at q ⊢;exact hb.snd H0 Z σ H1 S1 _ _ k1 q fun c2 H2 S2 k2 st2 q2=>hc c2 H2 S2 k2 (st1.trans st2) q2
  | true=>rw [if_pos rfl] at q ⊢;exact hc true H1 S1 k1 st1 q⟩
theorem cR (h:VWe K X e tA wA):VTe K X e tA wA:=⟨h.pe.pt,h.snd⟩
theorem g8 (h:VTe K X a tA wA):VTe K X (.UnaryOp .Not a pos) (Bf tA) (BE wA):=⟨yA h.pe,fun H0 Z σ H S Q C k t hc=>h.snd H0 Z σ H S _ _ k t fun c H1 S1 k1 st1 q=>hc (!c) H1 S1 k1 st1 q⟩
def xg (ta tb:VT):VT:=fun S Q=>ta S fun r S1=>∃c,r=.d (.bl c)/\if c=true then tb S1 Q else Q (.d (.bl false)) S1
def xh (ta:VT):VT:=fun S Q=>ta S fun r S1=>∃c,r=.d (.bl c)/\Q (.d (.bl (!c))) S1
theorem jD {op} (h:VE K X m a ta va):VE K X m (.BoolOp op [a] pos) ta va:=⟨yB h.pe,h.snd⟩
theorem eZ (ha:VE K X m a ta va) (hb:VE K X m (.BoolOp .And (b::rest) pos) tb vb):VE K X m (.BoolOp .And (a::b::rest) pos) (wO ta tb) (xg va vb):=⟨yC ha.pe hb.pe,fun H0 Z σ H S Q C k t hc=>
 ha.snd H0 Z σ H S _ _ k t fun v H1 r S1 k1 st1 rr zq1=>by
  obtain ⟨c,e,q⟩:=zq1
  subst e
  cases (show Rep K _ _ H1 v (.bl c) from rr)
  refine ⟨c,rfl,?_⟩
  cases c with
  | true=>rw [if_pos rfl] at q ⊢;exact hb.snd H0 Z σ H1 S1 _ _ k1 q fun v2 H2 r2 S2 k2 st2 rr2 q2=>hc v2 H2 r2 S2 k2 (st1.trans st2) rr2 q2
  | false=>rw [if_neg Er] at q ⊢;exact hc _ H1 (.d (.bl false)) S1 k1 st1 (Rep.bl false) q⟩
theorem za (ha:VE K X m a ta va):VE K X m (.UnaryOp .Not a pos) (wQ ta) (xh va):=⟨yD ha.pe,fun H0 Z σ H S Q C k t hc=>
 ha.snd H0 Z σ H S _ _ k t fun v H1 r S1 k1 st1 rr zq1=>by
  obtain ⟨c,e,q⟩:=zq1
  subst e
  cases (show Rep K _ _ H1 v (.bl c) from rr)
  exact ⟨c,rfl,hc _ H1 (.d (.bl (!c))) S1 k1 st1 (Rep.bl _) q⟩⟩
def vIf (t:VTT) (ta tb:VT):VT:=fun S Q=>t S fun c S1=>if c=true then ta S1 Q else tb S1 Q
theorem kL (hc:VTe K X c tA wA) (ha:VE K X m a ta va) (hb:VE K X m b tb vb):VE K X m (.IfExp c a b pos) (tIf tA ta tb) (vIf wA va vb):=⟨pO hc.pe ha.pe hb.pe,fun H0 Z σ H S Q C k t hq=>
 hc.snd H0 Z σ H S _ _ k t fun c H1 S1 k1 st1 q=>by
  cases c with
  | true=>rw [if_pos rfl] at q ⊢;exact ha.snd H0 Z σ H1 S1 _ _ k1 q fun v2 H2 r2 S2 k2 st2 rr2 q2=>hq v2 H2 r2 S2 k2 (st1.trans st2) rr2 q2
  | false=>rw [if_neg Er] at q ⊢;exact hb.snd H0 Z σ H1 S1 _ _ k1 q fun v2 H2 r2 S2 k2 st2 rr2 q2=>hq v2 H2 r2 S2 k2 (st1.trans st2) rr2 q2⟩
end
def vUn (g:Int->V) (va:VT):VT:=fun S Q=>va S fun r S1=>∃i,get S1 r=some (.int i)/\Q (.d (ofV (g i))) S1
theorem dJ {op:UnaryOp} {g:Int->V} (ho:UnR X (unaryOp op) (rU g)) (ha:VE K X false a ta va) (hg:∀i,scV (g i)=true:=by intro _;rfl):VE K X m (.UnaryOp op a pos) (tUn (rU g) ta) (vUn g va):=⟨wZ ho ha.pe,fun H0 Z σ H S Q C k t hc=>
 ha.snd H0 Z σ H S _ _ k t fun v H1 r S1 k1 st1 rr zq1=>by
  obtain ⟨i,e,q⟩:=zq1
  cases rr.get k1 e
  exact ⟨i,rfl,hc _ H1 (.d (ofV (g i))) S1 k1 st1 (mi (hg i)) q⟩⟩
section
variable {es:List Expr} {tr:TA} {vr:VTA}
def BF:VTA:=fun S Q=>Q [] S
def xi (va:VT) (vr:VTA):VTA:=fun S Q=>va S fun r S1=>vr S1 fun rs S2=>Q (r::rs) S2
theorem ai:VA K X m [] oC BF:=⟨lU,fun _ _ _ _ _ _ _ k h q=>q _ _ _ _ k .refl .nil h⟩
theorem aa (ha:VE K X m e te va) (hr:VA K X m es tr vr) (hs:EO (e::es) X.env=(false,eval e X.env)::EO es X.env:=by rfl):VA K X m (e::es) (iR te tr) (xi va vr):=⟨jt ha.pe hr.pe hs,fun H0 Z σ H S Q C k t hc=>
 ha.snd H0 Z σ H S _ _ k t fun v H1 r S1 k1 st1 rr q=>hr.snd H0 Z σ H1 S1 _ _ k1 q fun vs H2 rs S2 k2 st2 rrs q2=>hc (v::vs) H2 (r::rs) S2 k2 (st1.trans st2) (.cons (rr.step st2) rrs) q2⟩
def allD:List VR->Option (List D)
 | []=>some []
 | .d x::r=>(allD r).map (x::·)
 | _::_=>none
theorem cy.allD (h:cy K F Z σ S H vs rs) (e:VL.allD rs=some ds):Reps K (NM Z σ S) F H vs ds:=by
 induction h generalizing ds with
 | nil=>cases e;exact .nil
 | @cons v r vs rs h t ih=>
  cases r with
  | d x=>
   obtain ⟨es,h1,rfl⟩:=Option.map_eq_some_iff.mp (show (VL.allD rs).map (x::·)=some ds from e)
   exact .cons h (ih h1)
  | own i=>cases e
theorem cy.length (h:cy K F Z σ S H vs rs):vs.length=rs.length:=by
 induction h with
 | nil=>rfl
 | cons h t ih=>simp [ih]
theorem dX:∀{rs:List VR} {ds:List D},allD rs=some ds->ds.length=rs.length
 | [],_,e=>by cases e;rfl
 | .d x::r,ds,e=>by
  obtain ⟨es,h1,rfl⟩:=Option.map_eq_some_iff.mp (show (VL.allD r).map (x::·)=some ds from e)
  simp [dX h1]
 | .own _::_,_,e=>by cases e
def BG (vr:VTA):VT:=fun S Q=>vr S fun rs S1=>∃ds,allD rs=some ds/\ds.length<=1000/\Q (.d (.tup ds)) S1
theorem small {n:Nat} (h:n<=1000):n<=EW:=by rw [FQ];lia
theorem OK.nm {H0 H:Hp} (k:OK K H0 Z σ H S) {p:Addr} (hp:H p=none):NM Z σ S p:=fun z=>by
 have e:=k.mo z
 rw [hp] at e;exact e
theorem aA {x1} (h:VA K X m es tr vr):VE K X m (.Tuple es x1 pos) (Bo tr) (BG vr):=⟨yR h.pe,fun H0 Z σ H S Q C k t hc=>
 h.snd H0 Z σ H S _ _ k t fun vs H1 rs S1 k1 st1 rrs ⟨ds,e,hl,q⟩=>⟨small (by rw [rrs.length,<- dX e];exact hl),fun p hp=>by
  have g:=aT (o:=.tup vs) hp
  exact hc _ _ (.d (.tup ds)) S1 (k1.grow g) (st1.trans (.grow g)) (Rep.tup (k1.nm hp) (.inl aD) ((rrs.allD e).mono (fun a n e=>⟨n,g a e⟩) fun _ x=>x)) q⟩⟩
def BH (vr:VTA):VTN:=fun S Q=>vr S fun rs S1=>∃ds,allD rs=some ds/\ds.length<=1000/\Q ds S1
theorem bJ {H0 H:Hp} {p:Addr} {o:HO} (hp:H p=none) (h:Reps K (NM Z σ S) (FM H0 true) H vs ds):Reps K (fun b=>NM Z σ S b/\b≠p) (Fr H0) (upd H p o) vs ds:=
 h.mono (fun a n e=>⟨⟨n,fun z=>e (by rw [z];exact hp)⟩,aT hp a e⟩) fun _ x=>x rfl
theorem bF (h:VA K X true es tr vr):VN K X (.List es pos) (Bp tr) (BH vr):=⟨yS h.pe,fun H0 Z σ H S Q C k t hc=>
 h.snd H0 Z σ H S _ _ k t fun vs H1 rs S1 k1 st1 rrs ⟨ds,e,hl,q⟩=>⟨small (by rw [rrs.length,<- dX e];exact hl),fun p hp=>
  hc p vs ds H1 _ S1 k1 st1 hp (aT hp) aD (bJ hp (rrs.allD e)) q⟩⟩
def ql (t:VTN):VT:=fun S Q=>t S fun ds S1=>Q (.d (.lst ds)) S1
theorem aU {t:VTN} (h:VN K X e te t):VE K X m e te (ql t):=⟨h.pe,fun H0 Z σ H S Q C k t hc=>h.snd H0 Z σ H S _ _ k t fun a vs ds H1 H' S1 k1 st1 ha hg hl rr q=>by
 refine hc _ H' (.d (.lst ds)) S1 (k1.grow hg) (st1.trans (.grow hg)) (Rep.lst (k1.nm ha) (fun _=>⟨a,rfl,k1.dom a ha⟩) hl (rr.mono (fun b n e=>⟨n.1,rfl⟩) fun _ x _=>x)) q⟩
end
theorem dU.elems {H0 H:Hp} (h:dU K F Z σ S H v r) (k:OK K H0 Z σ H S) (e:VL.get S r=some (.lst ds)):∃a vs,v=.ref a/\SqL K H a vs/\Reps K (NM Z σ S) AnyF H vs ds:=by
 cases r with
 | d y=>
  cases e
  obtain ⟨a,vs,rfl,hq,rr⟩:=Rep.sqL h
  exact ⟨a,vs,rfl,hq,rr.mono (fun _ n _=>⟨n,rfl⟩) fun _ _=>trivial⟩
 | own i=>
  have h:σ[i]?=some (some v):=h
  have e:getO S[i]?=some (.lst ds):=e
  cases es:S[i]? with
  | none=>rw [es] at e;cases e
  | some s=>
   rw [es] at e
   cases s with
   | no=>cases e
   | val d=>cases e
   | fre d=>cases e
   | own ds=>
    cases e
    obtain ⟨a,vs,h1,h2,h3,h4⟩:=k.at_ i _ _ h es
    cases h1
    exact ⟨a,vs,rfl,.inl (.inl h2),h4.mono (fun _ n _=>⟨n,rfl⟩) fun _ _=>trivial⟩
   | pen ad ns=>
    cases e
    obtain ⟨a,h1,_,h2⟩:=k.at_ i _ _ h es
    cases h1
    exact ⟨a,_,rfl,.inl (.inl h2),Reps.ints⟩
   | odi ks ds=>cases e
   | obj k=>cases e
theorem dU.elemsT {H0 H:Hp} (h:dU K F Z σ S H v r) (k:OK K H0 Z σ H S) (e:VL.get S r=some (.tup ds)):∃a vs,v=.ref a/\SqT K H a vs/\Reps K (NM Z σ S) AnyF H vs ds:=by
 cases r with
 | d y=>
  cases e
  cases (show Rep K (NM Z σ S) F H v (.tup ds) from h) with
  | tup n h2 r2=>exact ⟨_,_,rfl,.inl h2,r2.mono (fun _ n _=>⟨n,rfl⟩) fun _ _=>trivial⟩
  | tupK h2 r2=>exact ⟨_,_,rfl,fw h2,r2.mono (fun _ n _=>⟨n,rfl⟩) fun _ _=>trivial⟩
 | own i=>
  have e:getO S[i]?=some (.tup ds):=e
  cases es:S[i]? with
  | none=>rw [es] at e;cases e
  | some s=>rw [es] at e;cases s <;> cases e
end
end VL
end
section
namespace VL
open PySem L2
section
variable {K:Ed} {X:Cx} {m:Bool} {e a b c:Expr} {ta tb tc te:TE} {va vb vc:VT} {pos:Pos}
theorem g9 {N:AP} {i:Int} (r:Reps K N F H vs ds) (h:atI ds i=some d):∃v,atI vs i=some v/\Rep K N F H v d:=by
 unfold atI at h ⊢
 rw [r.length]
 cases e:ixN ds.length i with
 | none=>rw [e] at h;cases h
 | some j=>
  rw [e] at h
  exact r.getD h
def vIx (va vb:VT):VT:=fun S Q=>va S fun ra S1=>vb S1 fun rb S2=>∃ds i d,(get S2 ra=some (.lst ds)\/get S2 ra=some (.tup ds))/\get S2 rb=some (.int i)/\atI ds i=some d/\Q (.d d) S2
theorem aG (hK:X.K=K) (ha:VE K X false a ta va) (hb:VE K X false b tb vb) (hs:eG b):VE K X false (.Subscript a b pos) (tOp (rIx K) ta tb) (vIx va vb):=⟨by subst hK;exact kA p8 ha.pe hb.pe hs,fun H0 Z σ H S Q C k t hc=>
 ha.snd H0 Z σ H S _ _ k t fun x H1 ra S1 k1 st1 r1 t1=>hb.snd H0 Z σ H1 S1 _ _ k1 t1 fun y H2 rb S2 k2 st2 r2 zq1=>by
  obtain ⟨ds,i,d,e1,e2,e3,q⟩:=zq1
  cases r2.get k2 e2
  have fin:∀v,Rep K (NM Z σ S2) AnyF H2 v d->C v H2:=fun v rv=>hc v H2 (.d d) S2 k2 (st1.trans st2) (show Rep K _ _ H2 v d from rv.mono (fun _ n _=>⟨n,rfl⟩) fun _ _=>FM.any) q
  rcases e1 with e1 | e1
  ·obtain ⟨p,vs,rfl,hq,rr⟩:=(r1.step st2).elems k2 e1
   obtain ⟨v,h1,h2⟩:=g9 rr e3
   exact .inl ⟨p,vs,i,v,rfl,rfl,hq,h1,fin v h2⟩
  ·obtain ⟨p,vs,rfl,hq,rr⟩:=(r1.step st2).elemsT k2 e1
   obtain ⟨v,h1,h2⟩:=g9 rr e3
   exact .inr (.inl ⟨p,vs,i,v,rfl,rfl,hq,h1,fin v h2⟩)⟩
section
variable {es:List Expr} {tr:TA} {vr:VTA} {x:Str} {p:Pos} {id T:String} {r:List V->Hp->VK->Prop}
def vCB (w:List D->(D->Prop)->Prop) (vr:VTA):VT:=fun S Q=>vr S fun rs S1=>∃ds,gets S1 rs=some ds/\w ds fun d=>Q (.d d) S1
def fx (K:Ed) (r:List V->Hp->VK->Prop) (w:List D->(D->Prop)->Prop):Prop:=∀(xs:List V) (H:Hp) (ds:List D) (q:D->Prop) (C:VK),Reps K Any AnyF H xs ds->w ds q->(∀z dz,q dz->(∀N F,Rep K N F H z dz)->C z H)->r xs H C
theorem BI {w:List D->(D->Prop)->Prop} (L:fx K r w) (ha:BC K false tr vr):SndE K m (tCB r tr) (vCB w vr):=fun H0 Z σ H S Q C k t hc=>
 ha H0 Z σ H S _ _ k t fun vs H1 rs S1 k1 st1 rrs zt1=>by obtain ⟨ds,e,q⟩:=zt1;exact L vs H1 ds _ _ (rrs.gets k1 e) q fun z dz q rz=>hc z H1 (.d dz) S1 k1 st1 (rz _ _) q
theorem br {w:List D->(D->Prop)->Prop} (hc:b6 X (.builtin id) r) (L:fx K r w) (hg:Gl X x) (hm:X.mg x=none) (hv:Fk x=some (.builtin id)) (ha:VA K X false (e::es) tr vr) (hn:x≠"__name__":=by decide) (hdb:(x==("__debug__":Str))=false:=by decide)
  (he:EO (e::es) X.env=(false,eval e X.env)::EO es X.env:=by rfl) (hpl:(HD pos (EO es X.env)).any (·.1)=false:=by rfl):VE K X m (.Call (.Name x p) (e::es) [] pos) (tCB r tr) (vCB w vr):=⟨gT hc hg hm hv ha.pe hn hdb he hpl,BI L ha.snd⟩
theorem oK {w:List D->(D->Prop)->Prop} (hc:b6 X (.type T) r) (L:fx K r w) (hg:Gl X x) (hm:X.mg x=none) (hv:Fk x=some (.type T)) (ha:VA K X false (e::es) tr vr) (hn:x≠"__name__":=by decide) (hdb:(x==("__debug__":Str))=false:=by decide)
  (he:EO (e::es) X.env=(false,eval e X.env)::EO es X.env:=by rfl) (hpl:(HD pos (EO es X.env)).any (·.1)=false:=by rfl):VE K X m (.Call (.Name x p) (e::es) [] pos) (tCB r tr) (vCB w vr):=⟨eF hc hg hm hv ha.pe hn hdb he hpl,BI L ha.snd⟩
theorem rep1 {N:AP} {xs:List V} (h:Reps K N F H xs [d]):∃v,xs=[v]/\Rep K N F H v d:=by
 cases h with | cons h t=>cases t;exact ⟨_,rfl,h⟩
theorem rep2 {N:AP} {xs:List V} {d d':D} (h:Reps K N F H xs [d,d']):∃v u,xs=[v,u]/\Rep K N F H v d/\Rep K N F H u d':=by
 cases h with | cons h t=>cases t with | cons h' t=>cases t;exact ⟨_,_,rfl,h,h'⟩
def zb:List D->(D->Prop)->Prop:=fun ds q=>∃es,(ds=[.lst es]\/ds=[.tup es])/\q (.int es.length)
theorem hV:fx K (fun xs H Q=>∃p ys,xs=[.ref p]/\(SqL K H p ys\/SqT K H p ys)/\Q (.int ys.length) H) zb:=by
 rintro xs H ds q C r ⟨es,rfl | rfl,h⟩ hc
 ·obtain ⟨v,rfl,rv⟩:=rep1 r
  obtain ⟨a,vs,rfl,hq,rr⟩:=rv.sqL
  exact ⟨a,vs,rfl,.inl hq,by rw [rr.length];exact hc _ _ h fun _ _=>.int _⟩
 ·obtain ⟨v,rfl,rv⟩:=rep1 r
  obtain ⟨a,vs,rfl,hq,rr⟩:=rv.sqT
  exact ⟨a,vs,rfl,.inr hq,by rw [rr.length];exact hc _ _ h fun _ _=>.int _⟩
def wMM (g:Int->Int->Int):List D->(D->Prop)->Prop:=fun ds q=>∃i j,ds=[.int i,.int j]/\q (.int (g i j))
theorem BJ {g:Int->Int->Int}:fx K (fun xs H Q=>∃i j,xs=[.int i,.int j]/\Q (.int (g i j)) H) (wMM g):=by
 rintro xs H ds q C r ⟨i,j,rfl,h⟩ hc
 obtain ⟨v,u,rfl,rv,ru⟩:=rep2 r
 cases rv;cases ru
 exact ⟨i,j,rfl,hc _ _ h fun _ _=>.int _⟩
def BK:List D->(D->Prop)->Prop:=fun ds q=>(∃i,ds=[.int i]/\q (.int i))\/∃k:Bool,ds=[.bl k]/\q (.int (if k then 1 else 0))
theorem BL:fx K (fun xs H Q=>(∃i,xs=[.int i]/\Q (.int i) H)\/∃k,xs=[.bl k]/\Q (.int (if k then 1 else 0)) H) BK:=by
 rintro xs H ds q C r (⟨i,rfl,h⟩ | ⟨i,rfl,h⟩) hc
 ·obtain ⟨v,rfl,rv⟩:=rep1 r
  cases rv
  exact .inl ⟨i,rfl,hc _ _ h fun _ _=>.int _⟩
 ·obtain ⟨v,rfl,rv⟩:=rep1 r
  cases rv
  exact .inr ⟨i,rfl,hc _ _ h fun _ _=>.int _⟩
def tyD:D->String
 | .int _=>"int" | .bl _=>"bool" | .non=>"NoneType" | .str _=>"str" | .tup _=>"tuple" | .lst _=>"list" | .ty _=>"type" | .dic _ _=>"dict" | .exc _=>"" | .dib _ _=>"dict" | .oth _=>""
def isE:D->Bool
 | .exc _=>true
 | .oth _=>true
 | _=>false
def BM:List D->(D->Prop)->Prop:=fun ds q=>∃x c b,ds=[x,.ty c]/\(∀n,x≠.ty n)/\isE x=false/\oI (tyD x) c=some b/\q (.bl b)
theorem m8:fx K (y0 K) BM:=by
 rintro xs H ds q C r ⟨x,c,b,rfl,hn,hE,e,h⟩ hc
 obtain ⟨v,u,rfl,rv,ru⟩:=rep2 r
 cases ru
 refine ⟨v,tyD x,c,b,rfl,?_,e,hc _ _ h fun _ _=>.bl _⟩
 cases rv with
 | int i=>exact .int i
 | bl i=>exact .bl i
 | non=>exact .non
 | str i=>exact .str i
 | ty i=>exact (hn _ rfl).elim
 | tup n h r=>exact .tup (.inl h)
 | tupK h r=>exact .tup (fw h)
 | lst n f h r=>exact .lst (.inl (.inl h))
 | lstF n f h r=>exact .lst (.inl (.inr ⟨_,h⟩))
 | lstK f h r=>exact .lst (gW h)
 | dic n f h e _ r=>exact .dE h
 | exc n h e=>cases hE
 | oth h=>cases hE
 | dib n f h e _ _ r=>exact .dE h
theorem cy.one {r:VR} (h:cy K F Z σ S H vs [r]):∃v,vs=[v]/\dU K F Z σ S H v r:=by
 cases h with | cons h t=>cases t;exact ⟨_,rfl,h⟩
def m9 (vr:VTA):VTN:=fun S Q=>vr S fun rs S1=>∃r ds,rs=[r]/\(get S1 r=some (.lst ds)\/get S1 r=some (.tup ds))/\flats ds=true/\Q ds S1
theorem eI {H0 H:Hp} {p:Addr} {o:HO} (hp:H p=none) (h:Reps K (NM Z σ S) F H vs ds) (f:flats ds=true):Reps K (fun b=>NM Z σ S b/\b≠p) (Fr H0) (upd H p o) vs ds:=
 bJ hp (Reps.flat h f)
theorem ng (hK:X.K=K) (hg:Gl X "list") (hm:X.mg "list"=none) (ha:VA K X false [e] tr vr) (he:EO [e] X.env=[(false,eval e X.env)]:=by rfl) :
  VN K X (.Call (.Name "list" p) [e] [] pos) (tCB (fun xs H Q=>∃p ys,xs=[.ref p]/\(SqL K H p ys\/SqT K H p ys)/\∀l,H l=none->Q (.ref l) (upd H l (.lst ys))) tr) (m9 vr):=
 ⟨by subst hK;exact eF jy hg hm m4 ha.pe (by decide) (by decide) he rfl,fun H0 Z σ H S Q C k t hc=>ha.snd H0 Z σ H S _ _ k t fun vs H1 rs S1 k1 st1 rrs zq1=>by
  obtain ⟨r,ds,e1,e2,f,q⟩:=zq1
  subst e1
  obtain ⟨v,rfl,rv⟩:=rrs.one
  rcases e2 with e2 | e2
  ·obtain ⟨a,ys,rfl,hq,rr⟩:=rv.elems k1 e2
   exact ⟨a,ys,rfl,.inl hq,fun l hl=>hc l ys ds H1 _ S1 k1 st1 hl (aT hl) aD (eI hl rr f) q⟩
  ·obtain ⟨a,ys,rfl,hq,rr⟩:=rv.elemsT k1 e2
   exact ⟨a,ys,rfl,.inr hq,fun l hl=>hc l ys ds H1 _ S1 k1 st1 hl (aT hl) aD (eI hl rr f) q⟩⟩
def qm (vr:VTA):VT:=fun S Q=>vr S fun rs S1=>∃r ds,rs=[r]/\(get S1 r=some (.lst ds)\/r=.d (.tup ds))/\flats ds=true/\Q (.d (.tup ds)) S1
theorem hW (hK:X.K=K) (hg:Gl X "tuple") (hm:X.mg "tuple"=none) (ha:VA K X false [e] tr vr) (he:EO [e] X.env=[(false,eval e X.env)]:=by rfl) :
  VE K X m (.Call (.Name "tuple" p) [e] [] pos) (tCB (fun xs H Q=>∃p ys,xs=[.ref p]/\((SqL K H p ys/\∀l,H l=none->Q (.ref l) (upd H l (.tup ys)))\/(SqT K H p ys/\Q (.ref p) H))) tr) (qm vr):=
 ⟨by subst hK;exact eF iO hg hm gU ha.pe (by decide) (by decide) he rfl,fun H0 Z σ H S Q C k t hc=>ha.snd H0 Z σ H S _ _ k t fun vs H1 rs S1 k1 st1 rrs zq1=>by
  obtain ⟨r,ds,e1,e2,f,q⟩:=zq1
  subst e1
  obtain ⟨v,rfl,rv⟩:=rrs.one
  rcases e2 with e2 | e2
  ·obtain ⟨a,ys,rfl,hq,rr⟩:=rv.elems k1 e2
   refine ⟨a,ys,rfl,.inl ⟨hq,fun l hl=>?_⟩⟩
   have g:=aT (o:=.tup ys) hl
   exact hc _ _ (.d (.tup ds)) S1 (k1.grow g) (st1.trans (.grow g)) (Rep.tup (k1.nm hl) (.inl aD) ((Reps.flat rr f).mono (fun a n e=>⟨n,g a e⟩) fun _ x=>x)) q
  ·subst e2
   obtain ⟨a,ys,rfl,hq,rr⟩:=Rep.sqT (show Rep K _ _ H1 v (.tup ds) from rv)
   refine ⟨a,ys,rfl,.inr ⟨hq,hc _ _ (.d (.tup ds)) S1 k1 st1 ?_ q⟩⟩
   exact Rep.flat (show Rep K _ _ H1 _ (.tup ds) from rv) (by simpa [flat] using f)⟩
@[reducible] def eT (ms:List Int):D:=.tup (ms.map .int)
@[reducible] def eL (mss:List (List Int)):D:=.lst (mss.map eT)
theorem cH:∀ms:List Int,flats (ms.map D.int)=true
 | []=>rfl
 | _::r=>by simp [flats,flat,cH r]
theorem fy:∀mss:List (List Int),flats (mss.map eT)=true
 | []=>rfl
 | _::r=>by simp [flats,eT,flat,cH,fy r]
theorem fP {N:AP}:∀{vs:List V} {mss:List (List Int)},Reps K N F H vs (mss.map eT)->∃ps,vs=ps.map V.ref/\eX K H ps mss/\(∀p∈ps,H p=none->N p->False\/True)
 | _,[],.nil=>⟨[],rfl,.nil,fun _ h=>nomatch h⟩
 | _,ms::r,.cons h t=>by
  obtain ⟨ps,rfl,h1,h2⟩:=fP t
  obtain ⟨a,vs,rfl,hq,rr⟩:=Rep.sqT h
  cases Reps.toInts rr
  exact ⟨a::ps,rfl,.cons hq h1,fun _ _ _ _=>.inr trivial⟩
theorem dw {N:AP} (hN:∀p vs,Rd H p (.tup vs)->N p):∀{ps:List Addr} {mss:List (List Int)},eX K H ps mss->Reps K N F H (ps.map V.ref) (mss.map eT)
 | _,_,.nil=>.nil
 | _,_,.cons h t=>by
  refine .cons ?_ (dw hN t)
  rcases h with h | h
  ·exact .tup (hN _ _ h) h Reps.ints
  ·exact .tupK (.inr h) Reps.ints
theorem OK.tupN {H0 H:Hp} (k:OK K H0 Z σ H S):∀p vs,Rd H p (.tup vs)->NM Z σ S p:=fun p vs h z=>by
 have e:=k.mo z
 rcases h with h | ⟨o,h⟩ <;> rw [h] at e <;> exact e
end
def spP (K:Ed) (p:List D->(D->Prop)->Prop):Sp:=fun vs H Q _=>∃ds R,Reps K Any AnyF H vs ds/\p ds R/\∀d v H',R d->(∀a,H a≠none->H' a=H a)->Rep K Any (Fr H) H' v d->Q v H'
def spI (K:Ed) (j:Nat) (p:List Int->List D->(D->List Int->Prop)->Prop):Sp:=fun vs H Q _=>∃a ws us ns ds es R,vs=ws++.ref a::us/\ws.length=j/\H a=some (.lst (ns.map .int))/\Reps K (·≠a) AnyF H ws ds/\Reps K (·≠a) AnyF H us es/\p ns (ds++es) R /\
 ∀d ns' v H',R d ns'->(∀b,b≠a->H b≠none->H' b=H b)->H' a=some (.lst (ns'.map .int))->Rep K (·≠a) (Fr H) H' v d->Q v H'
section
variable {es:List Expr} {tr:TA} {vr:VTA} {x:Str} {p0:Pos} {j k:Nat} {ps:List Str}
def vFn (p:List D->(D->Prop)->Prop) (vr:VTA):VT:=fun S Q=>vr S fun rs S1=>∃ds,gets S1 rs=some ds/\p ds fun d=>Q (.d d) S1
def BN (p:List D->(D->Prop)->Prop) (vr:VTA):VTN:=fun S Q=>vr S fun rs S1=>∃ds,gets S1 rs=some ds/\p ds fun d=>∃es,d=.lst es/\flats es=true/\Q es S1
theorem bA (E:Has X.prog X.w X.K X.mg X.base k x ps (spP K p)) (hr:cz j X.A) (ha:VA K X false (e::es) tr vr)
  (hk:k<=j:=by decide) (hg:Gl X x:=by rfl) (hdb:(x==("__debug__":Str))=false:=by decide) (he:EO (e::es) X.env=(false,eval e X.env)::EO es X.env:=by rfl)
  (hpl:(HD pos (EO es X.env)).any (·.1)=false:=by rfl):VE K X m (.Call (.Name x p0) (e::es) [] pos) (ku (spP K p) [] E0 tr) (vFn p vr):=⟨qc E hr ha.pe hk hg hdb he hpl,fun H0 Z σ H S Q C k t hc=>
 ha.snd H0 Z σ H S _ _ k t fun vs H1 rs S1 k1 st1 rrs zq1=>by
  obtain ⟨ds,e,q⟩:=zq1
  refine ⟨ds,_,by rw [FY];exact rrs.gets k1 e,q,fun d v H' q g r=>?_⟩
  refine hc v H' (.d d) S1 (k1.grow g) (st1.trans (.grow g)) (show Rep K _ _ H' v d from ?_) q
  refine (Rep.avoid (N':=NM Z σ S1) (fun a z=>?_) (fun a zq1=>by obtain ⟨b,e,f⟩:=zq1;cases e;exact k1.nm f) r).mono (fun _ n _=>⟨n,rfl⟩) (fun o zt1 _=>by obtain ⟨b,e,f⟩:=zt1;exact ⟨b,e,k1.dom b f⟩)
  have e:=k1.mo (Classical.not_not.mp z)
  rw [g a e.ne];exact e⟩
theorem xj (E:Has X.prog X.w X.K X.mg X.base k x ps (spP K p)) (hr:cz j X.A) (ha:VA K X false (e::es) tr vr)
  (hk:k<=j:=by decide) (hg:Gl X x:=by rfl) (hdb:(x==("__debug__":Str))=false:=by decide) (he:EO (e::es) X.env=(false,eval e X.env)::EO es X.env:=by rfl)
  (hpl:(HD pos (EO es X.env)).any (·.1)=false:=by rfl):VN K X (.Call (.Name x p0) (e::es) [] pos) (ku (spP K p) [] E0 tr) (BN p vr):=⟨qc E hr ha.pe hk hg hdb he hpl,fun H0 Z σ H S Q C k t hc=>
 ha.snd H0 Z σ H S _ _ k t fun vs H1 rs S1 k1 st1 rrs zq1=>by
  obtain ⟨ds,e,q⟩:=zq1
  refine ⟨ds,_,by rw [FY];exact rrs.gets k1 e,q,fun d v H' ⟨es,ed,hf,q⟩ g r=>?_⟩
  subst ed
  have r2:=Rep.avoid (N':=NM Z σ S1) (fun a z=>by
   have e:=k1.mo (Classical.not_not.mp z)
   rw [g a e.ne];exact e) (fun a zq1=>by obtain ⟨b,e,f⟩:=zq1;cases e;exact k1.nm f) r
  cases r2 with
  | @lst a ws _ n f h rs=>
   obtain ⟨b,e,f⟩:=f
   cases e
   refine hc a ws es H1 H' S1 k1 st1 f g h ?_ q
   refine (Reps.avoid (N':=fun b=>NM Z σ S1 b/\b≠a) (fun b z=>?_) (fun b fb=>fb.elim) (Reps.flat (F':=fun _=>False) rs hf)).mono (fun _ n _=>⟨n,rfl⟩) (fun o f=>f.elim)
   by_cases hb:b=a
   ·subst hb;rw [h];trivial
   ·have e:=k1.mo (Fy fun y=>z ⟨y,hb⟩)
    rw [g b e.ne];exact e
  | lstF n f h rs=>obtain ⟨b,e,f⟩:=f;cases e
  | lstK f h rs=>obtain ⟨b,e,f⟩:=f;cases e⟩
end
end
end VL
end
section
namespace VL
open PySem L2
section
variable {K:Ed} {H H' H0:Hp} {Z:AP} {σ:St} {S:List Sl}
theorem OK.put (k:OK K H0 Z σ H S) {i:Nat} {o:Option V} {s:Sl} (hi:i < S.length)
  (hN:∀a,NM Z σ S a->H a≠none->NM Z (σ.set i o) (S.set i s) a/\H' a=H a)
  (hM:∀j s',j≠i->S[j]?=some s'->s'.mut=true->∀a,σ[j]?=some (some (V.ref a))->H' a=H a)
  (hs:oJ K H0 (NM Z (σ.set i o) (S.set i s)) H' o s)
  (hj:∀j a t,j≠i->S[j]?=some t->t.mut=true->s.mut=true->o=some (V.ref a)->σ[j]?≠some (some (V.ref a)))
  (hd:∀a,H' a=none->H a=none) (hz:∀a,Z a->IsM (H' a)) (hnz:∀a,s.mut=true->o=some (V.ref a)->¬Z a):OK K H0 Z (σ.set i o) H' (S.set i s) where
 len:=by simp [k.len]
 dom:=fun a e=>k.dom a (hd a e)
 zl:=hz
 nz:=fun j t a h1 h2 h3=>by
  have hi':i < σ.length:=by rw [k.len];exact hi
  by_cases hji:i=j
  ·subst hji
   rw [E3 hi] at h1
   rw [E3 hi'] at h3
   cases h1
   exact hnz a h2 (ER h3)
  ·rw [ED hji] at h1 h3
   exact k.nz j t a h1 h2 h3
 inj:=fun a b c t u h1 h2 m1 m2 h3 h4=>by
  have hi':i < σ.length:=by rw [k.len];exact hi
  by_cases ha:i=a
  ·by_cases hb:i=b
   ·lia
   ·subst ha
    rw [E3 hi] at h1
    rw [E3 hi'] at h3
    rw [ED hb] at h2 h4
    cases h1
    exact (hj b c u (fun z=>hb z.symm) h2 m2 m1 (ER h3) h4).elim
  ·by_cases hb:i=b
   ·subst hb
    rw [E3 hi] at h2
    rw [E3 hi'] at h4
    rw [ED ha] at h1 h3
    cases h2
    exact (hj a c t (fun z=>ha z.symm) h1 m1 m2 (ER h4) h3).elim
   ·rw [ED ha] at h1 h3
    rw [ED hb] at h2 h4
    exact k.inj a b c t u h1 h2 m1 m2 h3 h4
 at_:=fun j o' s' h1 h2=>by
  have hi':i < σ.length:=by rw [k.len];exact hi
  by_cases hji:i=j
  ·subst hji
   rw [E3 hi'] at h1
   rw [E3 hi] at h2
   cases h1;cases h2
   exact hs
  ·rw [ED hji] at h1 h2
   have q:=k.at_ j o' s' h1 h2
   cases s' with
   | no=>trivial
   | val d=>obtain ⟨v,e,r⟩:=q;exact ⟨v,e,r.mono hN fun _ x=>x⟩
   | fre d=>obtain ⟨v,e,r⟩:=q;exact ⟨v,e,r.mono hN fun _ x=>x⟩
   | own ds=>
    obtain ⟨a,vs,e,e',e0,r⟩:=q
    exact ⟨a,vs,e,by rw [hM j _ (fun z=>hji z.symm) h2 rfl a (by rw [h1,e])];exact e',e0,r.mono hN fun _ x=>x⟩
   | pen ad ns=>
    obtain ⟨a,e,e1,e'⟩:=q
    exact ⟨a,e,e1,by rw [hM j _ (fun z=>hji z.symm) h2 rfl a (by rw [h1,e])];exact e'⟩
   | odi ks ds=>
    obtain ⟨a,vs,e,e',e0,ek,r⟩:=q
    exact ⟨a,vs,e,by rw [hM j _ (fun z=>hji z.symm) h2 rfl a (by rw [h1,e])];exact e',e0,⟨ek.1,ek.2.mono hN fun _ x=>x⟩,r.mono hN fun _ x=>x⟩
   | obj k=>
    obtain ⟨a,e,e0,r⟩:=q
    exact ⟨a,e,e0,k.mono hN (hM j _ (fun z=>hji z.symm) h2 rfl a (by rw [h1,e])) r⟩
theorem jE {i:Nat} {o:Option V} {s:Sl} {a:Addr} (h:Mo Z (σ.set i o) (S.set i s) a):Mo Z σ S a\/(s.mut=true/\o=some (V.ref a)):=by
 rcases h with ⟨j,t,h1,h2,h3⟩ | h
 ·by_cases hji:i=j
  ·subst hji
   have l1:=(List.getElem?_eq_some_iff.mp h1).1
   have l2:=(List.getElem?_eq_some_iff.mp h3).1
   rw [Js] at l1 l2
   rw [E3 l1] at h1
   rw [E3 l2] at h3
   cases h1
   exact .inr ⟨h2,ER h3⟩
  ·rw [ED hji] at h1 h3
   exact .inl (.inl ⟨j,t,h1,h2,h3⟩)
 ·exact .inl (.inr h)
theorem OK.setVal (k:OK K H0 Z σ H S) {i:Nat} (hi:i < S.length) (h:Rep K (NM Z σ S) AnyF H v d):OK K H0 Z (σ.set i (some v)) H (S.set i (.val d))/\Step Z σ S H (σ.set i (some v)) (S.set i (.val d)) H:=by
 have n:∀a,NM Z σ S a->NM Z (σ.set i (some v)) (S.set i (.val d)) a:=fun a x z=>by
  rcases jE z with z | ⟨z,_⟩
  ·exact x z
  ·cases z
 exact ⟨k.put hi (fun a x _=>⟨n a x,rfl⟩) (fun _ _ _ _ _ _ _=>rfl) ⟨v,rfl,h.mono (fun a x _=>⟨n a x,rfl⟩) fun _ x=>x⟩ (fun _ _ _ _ _ _ z=>nomatch z) (fun _ e=>e) k.zl (fun _ z=>nomatch z),fun a x _=>⟨rfl,n a x⟩,fun _ e=>e,fun _ _ _=>rfl⟩
theorem OK.setNew (k:OK K H0 Z σ H S) {i:Nat} {a:Addr} {s:Sl} (hi:i < S.length) (ha:H a=none) (hg:∀b,H b≠none->H' b=H b) (hs:oJ K H0 (fun b=>NM Z σ S b/\b≠a) H' (some (.ref a)) s) (hm:s.mut=true) :
  OK K H0 Z (σ.set i (some (.ref a))) H' (S.set i s)/\Step Z σ S H (σ.set i (some (.ref a))) (S.set i s) H':=by
 have n:∀b,NM Z σ S b/\b≠a->NM Z (σ.set i (some (.ref a))) (S.set i s) b:=fun b x z=>by
  rcases jE z with z | ⟨_,z⟩
  ·exact x.1 z
  ·cases z;exact x.2 rfl
 have n':∀b,NM Z σ S b->H b≠none->NM Z (σ.set i (some (.ref a))) (S.set i s) b:=fun b x e=>n b ⟨x,fun z=>e (by rw [z];exact ha)⟩
 refine ⟨k.put hi (fun b x e=>⟨n' b x e,hg b e⟩) (fun j s' hj h1 h2 b h3=>?_) ?_ (fun j b t hj h1 h2 h3 h4 h5=>?_) (fun b e=>Fy fun z=>by rw [hg b z] at e;exact z e) (fun b z=>?_) (fun b h1 h2 z=>?_),fun b x e=>⟨hg b e,n' b x e⟩,fun b e=>Fy fun z=>by rw [hg b z] at e;exact z e,fun b z e=>hg b e⟩
 ·have e:=k.mo (.inl ⟨j,s',h1,h2,h3⟩)
  exact hg b e.ne
 ·cases s with
  | no=>trivial
  | val d=>cases hm
  | fre d=>cases hm
  | own ds=>obtain ⟨b,vs,e,e',e0,r⟩:=hs;exact ⟨b,vs,e,e',e0,r.mono (fun c x _=>⟨n c x,rfl⟩) fun _ x=>x⟩
  | pen ad ns=>exact hs
  | obj k=>obtain ⟨b,e,e0,r⟩:=hs;exact ⟨b,e,e0,k.mono (fun c x _=>⟨n c x,rfl⟩) rfl r⟩
  | odi ks ds=>obtain ⟨b,vs,e,e',e0,ek,r⟩:=hs;exact ⟨b,vs,e,e',e0,⟨ek.1,ek.2.mono (fun c x _=>⟨n c x,rfl⟩) fun _ x=>x⟩,r.mono (fun c x _=>⟨n c x,rfl⟩) fun _ x=>x⟩
 ·cases h4
  have e:=k.mo (.inl ⟨j,t,h1,h2,h5⟩)
  rw [ha] at e;exact e
 ·have e:=k.zl b z
  rw [hg b e.ne];exact e
 ·cases h2
  have e:=k.zl _ z
  rw [ha] at e;exact e
theorem qp {α:Type} {l:List α} {i:Nat} {o:α} (h:l[i]?=some o):l.set i o=l:=by
 obtain ⟨h1,rfl⟩:=List.getElem?_eq_some_iff.mp h
 exact List.set_getElem_self h1
theorem OK.chgD (k:OK K H0 Z σ H S) {i:Nat} {a:Addr} {s₀ s:Sl} {o:HO} (h1:S[i]?=some s₀) (h2:s₀.mut=true) (h3:σ[i]?=some (some (.ref a))) (hm:s.mut=true) (hs:oJ K H0 (NM Z σ S) (upd H a o) (some (.ref a)) s) :
  OK K H0 Z σ (upd H a o) (S.set i s)/\Step Z σ S H σ (S.set i s) (upd H a o):=by
 have hi:i < S.length:=(List.getElem?_eq_some_iff.mp h1).1
 have ma:Mo Z σ S a:=.inl ⟨i,s₀,h1,h2,h3⟩
 have ea:=k.mo ma
 have hza:¬Z a:=k.nz i s₀ a h1 h2 h3
 have e3:=qp h3
 have n:∀b,NM Z σ S b->NM Z σ (S.set i s) b:=fun b x z=>by
  rw [<- e3] at z
  rcases jE z with z | ⟨_,z⟩
  ·exact x z
  ·cases z;exact x ma
 have ne:∀b,NM Z σ S b->b≠a:=fun b x z=>x (by rw [z];exact ma)
 have q:=k.put (H':=upd H a o) (i:=i) (o:=some (.ref a)) (s:=s) hi (fun b x e=>⟨by rw [e3];exact n b x,aC (ne b x)⟩) (fun j s' hj g1 g2 b g3=>aC fun z=>hj (by subst z;exact k.inj j i b s' s₀ g1 h1 g2 h2 g3 h3)) (by
  rw [e3]
  cases s with
  | no=>trivial
  | val d=>cases hm
  | fre d=>cases hm
  | own ds=>obtain ⟨b,vs,e,e',e0,r⟩:=hs;exact ⟨b,vs,e,e',e0,r.mono (fun c x _=>⟨n c x,rfl⟩) fun _ x=>x⟩
  | pen ad ns=>exact hs
  | obj k=>obtain ⟨b,e,e0,r⟩:=hs;exact ⟨b,e,e0,k.mono (fun c x _=>⟨n c x,rfl⟩) rfl r⟩
  | odi ks ds=>obtain ⟨b,vs,e,e',e0,ek,r⟩:=hs;exact ⟨b,vs,e,e',e0,⟨ek.1,ek.2.mono (fun c x _=>⟨n c x,rfl⟩) fun _ x=>x⟩,r.mono (fun c x _=>⟨n c x,rfl⟩) fun _ x=>x⟩) (fun j b t hj g1 g2 g3 g4 g5=>by
   cases g4
   exact hj (k.inj j i a t s₀ g1 h1 g2 h2 g5 h3)) (fun b e=>by
   by_cases hb:b=a
   ·subst hb;rw [aD] at e;cases e
   ·rw [aC hb] at e;exact e) (fun b z=>by
   by_cases hb:b=a
   ·subst hb;exact (hza z).elim
   ·have e:=k.zl b z
    rw [aC hb];exact e) (fun b _ e=>by cases e;exact hza)
 rw [e3] at q
 refine ⟨q,fun b x e=>⟨aC (ne b x),n b x⟩,fun b e=>?_,fun b z e=>aC fun y=>hza (by rw [<- y];exact z)⟩
 by_cases hb:b=a
 ·subst hb;rw [aD] at e;cases e
 ·rw [aC hb] at e;exact e
theorem OK.chg (k:OK K H0 Z σ H S) {i:Nat} {a:Addr} {s₀ s:Sl} {o:HO} (h1:S[i]?=some s₀) (h2:s₀.mut=true) (h3:σ[i]?=some (some (.ref a))) (ho:∃us,o=.lst us) (hm:s.mut=true) (hs:oJ K H0 (NM Z σ S) (upd H a o) (some (.ref a)) s) :
  OK K H0 Z σ (upd H a o) (S.set i s)/\Step Z σ S H σ (S.set i s) (upd H a o):=k.chgD h1 h2 h3 hm hs
end
structure bz where
 nx:List Sl->Prop
 rt:D->List Sl->Prop
 bk:List Sl->Prop:=fun _=>False
 ct:List Sl->Prop:=fun _=>False
abbrev VTS:=bz->List Sl->Prop
def NP (σ:St) (S:List Sl):AP:=fun a=>∀(i:Nat) (ad:Option Addr) (ns:List Int),S[i]?=some (.pen ad ns)->σ[i]?≠some (some (V.ref a))
structure Lf (K:Ed) (H0:Hp) (Z:AP) (σ:St) (S:List Sl) (H:Hp) (V:bz) (E:Ends):Prop where
 nx:∀ σ' H' S',OK K H0 Z σ' H' S'->Step Z σ S H σ' S' H'->V.nx S'->E.nx σ' H'
 bk:∀ σ' H' S',OK K H0 Z σ' H' S'->Step Z σ S H σ' S' H'->V.bk S'->E.bk σ' H'
 ct:∀ σ' H' S',OK K H0 Z σ' H' S'->Step Z σ S H σ' S' H'->V.ct S'->E.ct σ' H'
 rt:∀v d σ' H' S',OK K H0 Z σ' H' S'->Step Z σ S H σ' S' H'->Rep K (NP σ' S') (Fr H0) H' v d->V.rt d S'->E.rt v H'
theorem Lf.step {H0 H H1:Hp} {σ σ1:St} {S S1:List Sl} {V:bz} {E:Ends} (l:Lf K H0 Z σ S H V E) (st:Step Z σ S H σ1 S1 H1):Lf K H0 Z σ1 S1 H1 V E:=
 ⟨fun _ _ _ k s=>l.nx _ _ _ k (st.trans s),fun _ _ _ k s=>l.bk _ _ _ k (st.trans s),fun _ _ _ k s=>l.ct _ _ _ k (st.trans s),fun _ _ _ _ _ k s=>l.rt _ _ _ _ _ k (st.trans s)⟩
def zc (K:Ed) (ts:TS) (t:VTS):Prop:=∀H0 Z σ H S V E,OK K H0 Z σ H S->t V S->Lf K H0 Z σ S H V E->ts E σ H
structure VS (K:Ed) (X:Cx) (st:Stmt) (ts:TS) (t:VTS):Prop where
 ps:PS X st ts
 snd:zc K ts t
structure VSs (K:Ed) (X:Cx) (st:List Stmt) (ts:TS) (t:VTS):Prop where
 ps:PSs X st ts
 snd:zc K ts t
inductive Wk:List Sl->List Sl->Prop where
 | nil:Wk [] []
 | keep {s:Sl} {S S':List Sl}:Wk S S'->Wk (s::S) (s::S')
 | fz {ds:List D} {S S':List Sl}:Wk S S'->Wk (.own ds::S) (.val (.lst ds)::S')
 | fd {ks:List (List Int)} {ds:List D} {S S':List Sl}:Wk S S'->Wk (.odi ks ds::S) (.val (.dic ks ds)::S')
 | drop {s:Sl} {S S':List Sl}:Wk S S'->Wk (s::S) (.no::S')
theorem Wk.refl:∀S,Wk S S
 | []=>.nil
 | _::r=>.keep (Wk.refl r)
theorem Wk.len {S S':List Sl} (h:Wk S S'):S.length=S'.length:=by induction h <;> simp_all
theorem Wk.at_ {S S':List Sl} (h:Wk S S'):∀{i:Nat} {s:Sl},S'[i]?=some s->∃s₀,S[i]?=some s₀/\(s=s₀\/s=.no\/(∃ds,s₀=.own ds/\s=.val (.lst ds))\/∃ks ds,s₀=.odi ks ds/\s=.val (.dic ks ds)):=by
 induction h with
 | nil=>intro i s h;simp at h
 | keep h ih=>
  intro i s e
  cases i with
  | zero=>simp at e;subst e;exact ⟨_,rfl,.inl rfl⟩
  | succ i=>simpa using ih (i:=i) (by simpa using e)
 | fz h ih=>
  intro i s e
  cases i with
  | zero=>simp at e;subst e;exact ⟨_,rfl,.inr (.inr (.inl ⟨_,rfl,rfl⟩))⟩
  | succ i=>simpa using ih (i:=i) (by simpa using e)
 | fd h ih=>
  intro i s e
  cases i with
  | zero=>simp at e;subst e;exact ⟨_,rfl,.inr (.inr (.inr ⟨_,_,rfl,rfl⟩))⟩
  | succ i=>simpa using ih (i:=i) (by simpa using e)
 | drop h ih=>
  intro i s e
  cases i with
  | zero=>simp at e;subst e;exact ⟨_,rfl,.inr (.inl rfl)⟩
  | succ i=>simpa using ih (i:=i) (by simpa using e)
theorem Wk.mut {S S':List Sl} (h:Wk S S') {i:Nat} {s:Sl} (e:S'[i]?=some s) (m:s.mut=true):S[i]?=some s:=by
 obtain ⟨s₀,h1,rfl | rfl | ⟨ds,rfl,rfl⟩ | ⟨ks,ds,rfl,rfl⟩⟩:=h.at_ e
 ·exact h1
 ·cases m
 ·cases m
 ·cases m
theorem OK.wk {H H0:Hp} {S S':List Sl} (k:OK K H0 Z σ H S) (w:Wk S S'):OK K H0 Z σ H S'/\Step Z σ S H σ S' H:=by
 have n:∀a,NM Z σ S a->NM Z σ S' a:=fun a x z=>by
  rcases z with ⟨i,s,h1,h2,h3⟩ | z
  ·exact x (.inl ⟨i,s,w.mut h1 h2,h2,h3⟩)
  ·exact x (.inr z)
 refine ⟨⟨by rw [k.len,w.len],fun i o s h1 h2=>?_,fun i j a s t h1 h2 m1 m2 h3 h4=>k.inj i j a s t (w.mut h1 m1) (w.mut h2 m2) m1 m2 h3 h4,k.dom,k.zl,fun i s a h1 m h3=>k.nz i s a (w.mut h1 m) m h3⟩,fun a x _=>⟨rfl,n a x⟩,fun _ e=>e,fun _ _ _=>rfl⟩
 obtain ⟨s₀,e,rfl | rfl | ⟨ds,rfl,rfl⟩ | ⟨ks,ds,rfl,rfl⟩⟩:=w.at_ h2
 ·have q:=k.at_ i o s h1 e
  cases s with
  | no=>trivial
  | val d=>obtain ⟨v,e,r⟩:=q;exact ⟨v,e,r.mono (fun a x _=>⟨n a x,rfl⟩) fun _ x=>x⟩
  | fre d=>obtain ⟨v,e,r⟩:=q;exact ⟨v,e,r.mono (fun a x _=>⟨n a x,rfl⟩) fun _ x=>x⟩
  | own ds=>obtain ⟨a,vs,e,e',e0,r⟩:=q;exact ⟨a,vs,e,e',e0,r.mono (fun a x _=>⟨n a x,rfl⟩) fun _ x=>x⟩
  | pen ad ns=>exact q
  | odi ks ds=>obtain ⟨a,vs,e,e',e0,ek,r⟩:=q;exact ⟨a,vs,e,e',e0,⟨ek.1,ek.2.mono (fun a x _=>⟨n a x,rfl⟩) fun _ x=>x⟩,r.mono (fun a x _=>⟨n a x,rfl⟩) fun _ x=>x⟩
  | obj k=>obtain ⟨a,e,e0,r⟩:=q;exact ⟨a,e,e0,k.mono (fun a x _=>⟨n a x,rfl⟩) rfl r⟩
 ·trivial
 ·obtain ⟨a,vs,e1,e2,e3,r⟩:=k.at_ i o _ h1 e
  subst e1
  refine ⟨.ref a,rfl,.lst ?_ trivial e2 (r.mono (fun a x _=>⟨n a x,rfl⟩) fun _ _=>trivial)⟩
  intro z
  rcases z with ⟨j,s,g1,g2,g3⟩ | z
  ·have:=k.inj i j a _ s e (w.mut g1 g2) rfl g2 h1 g3
   subst this
   rw [h2] at g1;cases g1;cases g2
  ·exact k.nz i _ a e rfl h1 z
 ·obtain ⟨a,vs,e1,⟨ob,e2⟩,e3,ek,r⟩:=k.at_ i o _ h1 e
  subst e1
  refine ⟨.ref a,rfl,.dic ?_ trivial e2 ek.1 (ek.2.mono (fun a x _=>⟨n a x,rfl⟩) fun _ _=>trivial) (r.mono (fun a x _=>⟨n a x,rfl⟩) fun _ _=>trivial)⟩
  intro z
  rcases z with ⟨j,s,g1,g2,g3⟩ | z
  ·have:=k.inj i j a _ s e (w.mut g1 g2) rfl g2 h1 g3
   subst this
   rw [h2] at g1;cases g1;cases g2
  ·exact k.nz i _ a e rfl h1 z
section
variable {K:Ed} {X:Cx} {m:Bool} {e a b c:Expr} {ta tb tc te:TE} {va vb vc:VT} {pos:Pos} {st:Stmt} {rest:List Stmt} {t u:TS} {v w:VTS}
def xk:VTS:=fun V S=>V.nx S
def BO (t u:VTS):VTS:=fun V S=>t { V with nx:=fun S'=>∃S'',Wk S' S''/\u V S'' } S
theorem aP:VSs K X [] wR xk:=⟨tJ,fun H0 Z σ H S V E k h l=>l.nx σ H S k .refl h⟩
theorem aq (h:VS K X st t v):VSs K X [st] t v:=⟨tK h.ps,h.snd⟩
theorem aj (h1:VS K X st t v) (h2:VSs K X rest u w):VSs K X (st::rest) (Bh t u) (BO v w):=⟨pP h1.ps h2.ps,fun H0 Z σ H S V E k h l=>
 h1.snd H0 Z σ H S _ _ k h ⟨fun σ' H' S' k' st zt1=>by obtain ⟨S'',wk,q⟩:=zt1;exact h2.snd H0 Z σ' H' S'' V E (k'.wk wk).1 q (l.step (st.trans (k'.wk wk).2)),l.bk,l.ct,l.rt⟩⟩
def zd:VTS:=fun _ _=>False
theorem kM:VS K X st pQ zd:=⟨pR,fun _ _ _ _ _ _ _ _ h _=>h.elim⟩
def xl (va:VT):VTS:=fun V S=>va S fun _ S1=>V.nx S1
theorem dA (h:VE K X false e te va) (hs:GP e none pos.line X.env=pure false:=by rfl):VS K X (.Expr e pos) (wU te) (xl va):=⟨tL h.pe hs,fun H0 Z σ H S V E k t l=>h.snd H0 Z σ H S _ _ k t fun v H' r S' k' st _ q=>l.nx σ H' S' k' st q⟩
def retO:Option Sl->Option D
 | some (.own ds)=>some (.lst ds)
 | some (.odi ks ds)=>some (.dic ks ds)
 | _=>none
def retD (S:List Sl):VR->Option D
 | .d x=>some x
 | .own i=>retO S[i]?
def BP (va:VT):VTS:=fun V S=>va S fun r S1=>∃d,retD S1 r=some d/\V.rt d S1
theorem OK.ret {H0 H:Hp} {v:V} (k:OK K H0 Z σ H S) (h:dU K (FM H0 true) Z σ S H v r) (e:retD S r=some d):Rep K (NP σ S) (Fr H0) H v d:=by
 have np:∀a,NM Z σ S a->NP σ S a:=fun a n i ad ns h1 h2=>n (.inl ⟨i,_,h1,rfl,h2⟩)
 cases r with
 | d x=>cases e;exact Rep.mono (fun a n _=>⟨np a n,rfl⟩) (fun _ x=>x rfl) h
 | own i=>
  have h:σ[i]?=some (some v):=h
  have e:retO S[i]?=some d:=e
  cases es:S[i]? with
  | none=>rw [es] at e;cases e
  | some s=>
   rw [es] at e
   cases s with
   | fre d=>cases e
   | own ds=>
    cases e
    obtain ⟨a,vs,h1,h2,h3,h4⟩:=k.at_ _ _ _ h es
    cases h1
    refine .lst (fun i2 ad ns g1 g2=>?_) ⟨a,rfl,h3⟩ h2 (h4.mono (fun a n _=>⟨np a n,rfl⟩) fun _ x=>x)
    have:=k.inj _ _ a _ _ es g1 rfl rfl h g2
    subst this
    rw [es] at g1;cases g1
   | odi ks ds=>
    cases e
    obtain ⟨a,vs,h1,⟨ob,h2⟩,h3,hk,h4⟩:=k.at_ _ _ _ h es
    cases h1
    refine .dic (fun i2 ad ns g1 g2=>?_) ⟨a,rfl,h3⟩ h2 hk.1 (Reps.flat (hk.2.mono (fun a n _=>⟨np a n,rfl⟩) fun _ x=>x) (dR _)) (h4.mono (fun a n _=>⟨np a n,rfl⟩) fun _ x=>x)
    have:=k.inj _ _ a _ _ es g1 rfl rfl h g2
    subst this
    rw [es] at g1;cases g1
   | no=>cases e
   | val x=>cases e
   | pen a b=>cases e
   | obj k=>cases e
theorem aI (h:VE K X true e te va):VS K X (.Return (some e) pos) (Bi te) (BP va):=⟨yE h.pe,fun H0 Z σ H S V E k t l=>h.snd H0 Z σ H S _ _ k t fun v H' r S' k' st rr zt1=>by obtain ⟨d,e,q⟩:=zt1;exact l.rt v d σ H' S' k' st (k'.ret rr e) q⟩
def BQ (c:VTT) (t u:VTS):VTS:=fun V S=>c S fun b S1=>if b=true then t V S1 else u V S1
theorem bE {A B:List Stmt} {tA:TT} {wA:VTT} (hc:VTe K X c tA wA) (ha:VSs K X A t v) (hb:VSs K X B u w):VS K X (.If c A B pos) (Bj tA t u) (BQ wA v w):=⟨Bk hc.pe ha.ps hb.ps,fun H0 Z σ H S V E k t l=>
 hc.snd H0 Z σ H S _ _ k t fun b H1 S1 k1 st1 q=>by
  cases b with
  | true=>rw [if_pos rfl] at q ⊢;exact ha.snd H0 Z σ H1 S1 V E k1 q (l.step st1)
  | false=>rw [if_neg Er] at q ⊢;exact hb.snd H0 Z σ H1 S1 V E k1 q (l.step st1)⟩
abbrev VG:=D->List Sl->(List Sl->Prop)->Prop
def SndG (K:Ed) (g:TG) (vg:VG):Prop:=∀H0 Z σ H S v d Q C,OK K H0 Z σ H S->Rep K (NM Z σ S) AnyF H v d->vg d S Q->(∀ σ' H' S',OK K H0 Z σ' H' S'->Step Z σ S H σ' S' H'->Q S'->C σ' H')->g v σ H C
def BR (g:TG):Prop:=∀x σ H Q1 Q2,(∀ σ H,Q1 σ H->Q2 σ H)->g x σ H Q1->g x σ H Q2
def ze (g:TGs):Prop:=∀x σ H Q1 Q2,(∀ σ H,Q1 σ H->Q2 σ H)->g x σ H Q1->g x σ H Q2
structure VGe (K:Ed) (X:Cx) (e:Expr) (g:TG) (vg:VG):Prop where
 pg:PG X e g
 snd:SndG K g vg
 mono:BR g
def vgN (i:Nat):VG:=fun d S Q=>i < S.length/\Q (S.set i (.val d))
theorem aw {i:Nat} (h:PG X e (aX i)):VGe K X e (aX i) (vgN i):=⟨h,fun H0 Z σ H S v d Q C k r zt1 hc=>by obtain ⟨hi,q⟩:=zt1;exact hc _ _ _ (k.setVal hi r).1 (k.setVal hi r).2 q,fun _ _ _ _ _ h q=>h _ _ q⟩
def BS (K:Ed) (g:TGs) (vg:List D->List Sl->(List Sl->Prop)->Prop):Prop:=∀H0 Z σ H S vs ds Q C,OK K H0 Z σ H S->Reps K (NM Z σ S) AnyF H vs ds->vg ds S Q->(∀ σ' H' S',OK K H0 Z σ' H' S'->Step Z σ S H σ' S' H'->Q S'->C σ' H')->g vs σ H C
structure VGs (K:Ed) (X:Cx) (es:List Expr) (g:TGs) (vg:List D->List Sl->(List Sl->Prop)->Prop):Prop where
 pg:PGs X es g
 snd:BS K g vg
 mono:ze g
def xm:List D->List Sl->(List Sl->Prop)->Prop:=fun ds S Q=>ds=[]/\Q S
def qq (t:VG) (u:List D->List Sl->(List Sl->Prop)->Prop):List D->List Sl->(List Sl->Prop)->Prop:=fun ds S Q=>∃d r,ds=d::r/\t d S fun S1=>u r S1 Q
theorem bH:VGs K X [] tM xm:=⟨tN,fun H0 Z σ H S vs ds Q C k r zq1 hc=>by obtain ⟨e,q⟩:=zq1;subst e;cases r;exact ⟨rfl,hc _ _ _ k .refl q⟩,fun _ _ _ _ _ h q=>⟨q.1,h _ _ q.2⟩⟩
theorem aE {es:List Expr} {g:TG} {gs:TGs} {vg:VG} {vgs:List D->List Sl->(List Sl->Prop)->Prop} (h1:VGe K X e g vg) (h2:VGs K X es gs vgs) (hs:(GD (e::es) X.env).map (·.2)=Hb e X.env::(GD es X.env).map (·.2):=by rfl) :
  VGs K X (e::es) (iQ g gs) (qq vg vgs):=⟨pT h1.pg h2.pg hs,fun H0 Z σ H S vs ds Q C k r zq1 hc=>by
 obtain ⟨d,rd,e,q⟩:=zq1
 subst e
 cases r with
 | cons rv rr=>exact ⟨_,_,rfl,h1.snd H0 Z σ H S _ _ _ _ k rv q fun σ1 H1 S1 k1 st1 q1=>h2.snd H0 Z σ1 H1 S1 _ _ _ _ k1 (rr.step st1) q1 fun σ2 H2 S2 k2 st2 q2=>hc _ _ _ k2 (st1.trans st2) q2⟩,fun x σ H Q1 Q2 h zt1=>by obtain ⟨v,r,e,q⟩:=zt1;exact ⟨v,r,e,h1.mono _ _ _ _ _ (fun σ' H' q'=>h2.mono _ _ _ _ _ h q') q⟩⟩
def vgT (n:Nat) (u:List D->List Sl->(List Sl->Prop)->Prop):VG:=fun d S Q=>∃ds,d=.tup ds/\ds.length=n/\u ds S Q
theorem bU {es:List Expr} {kk:Nat} {gs:TGs} {vgs:List D->List Sl->(List Sl->Prop)->Prop} {n:Nat} (hK:X.K=K) (hc:X.calm=true) (h:VGs K X es gs vgs) (hn:(GD es X.env).length=n:=by rfl) (hst:(GD es X.env).findIdx? (·.1)=none:=by rfl) :
  VGe K X (.Tuple es kk pos) (tO K n gs) (vgT n vgs):=⟨by subst hK;exact yG hc h.pg hn hst,fun H0 Z σ H S v d Q C k r zq1 hcc=>by
 obtain ⟨ds,e,hl,q⟩:=zq1
 subst e
 obtain ⟨a,vs,rfl,hq,rr⟩:=r.sqT
 exact ⟨a,vs,rfl,hq,by rw [rr.length];exact hl,h.snd H0 Z σ H S _ _ _ _ k rr q hcc⟩,fun x σ H Q1 Q2 hh zt1=>by obtain ⟨a,xs,e1,e2,e3,q⟩:=zt1;exact ⟨a,xs,e1,e2,e3,h.mono _ _ _ _ _ hh q⟩⟩
def mj (va:VT) (g:VG):VTS:=fun V S=>va S fun r S1=>∃d,r=.d d/\g d S1 V.nx
theorem jF {g:TG} {vg:VG} (ha:SndE K m te va) (hg:SndG K g vg):zc K (cU te g) (mj va vg):=fun H0 Z σ H S V E k t l=>ha H0 Z σ H S _ _ k t fun v H1 r S1 k1 st1 rr zq1=>by
 obtain ⟨d,e,q⟩:=zq1
 subst e
 exact hg H0 Z σ H1 S1 v d _ _ k1 (Rep.mono (fun _ n _=>⟨n,rfl⟩) (fun _ _=>trivial) rr) q fun σ2 H2 S2 k2 st2 q2=>l.nx σ2 H2 S2 k2 (st1.trans st2) q2
theorem zf {i:Nat} {x:Str} {pos':Pos} (ps:∀te,PE X e te->PS X (.Assign [.Name x pos'] e pos) (cU te (aX i))) (h:VE K X false e te va):VS K X (.Assign [.Name x pos'] e pos) (cU te (aX i)) (mj va (vgN i)):=
 ⟨ps te h.pe,jF h.snd fun H0 Z σ H S v d Q C k r zt1 hc=>by obtain ⟨hi,q⟩:=zt1;exact hc _ _ _ (k.setVal hi r).1 (k.setVal hi r).2 q⟩
theorem e7 {tg:Expr} {g:TG} {vg:VG} (h:VE K X false e te va) (hg:VGe K X tg g vg) (hs:Ke [tg] e pos.line X.env=pure false:=by rfl) (hw:Kf [tg] e X.env=pure none:=by rfl)
  (h1:(GD [tg] X.env).map (·.2)=[Hb tg X.env]:=by rfl):VS K X (.Assign [tg] e pos) (cU te g) (mj va vg):=⟨pU h.pe hg.pg hs hw h1,jF h.snd hg.snd⟩
def qr (i:Nat) (t:VTN):VTS:=fun V S=>t S fun ds S1=>i < S1.length/\V.nx (S1.set i (.own ds))
theorem cB {i:Nat} {x:Str} {pos':Pos} {tn:VTN} (ps:∀te,PE X e te->PS X (.Assign [.Name x pos'] e pos) (cU te (aX i))) (h:VN K X e te tn):VS K X (.Assign [.Name x pos'] e pos) (cU te (aX i)) (qr i tn):=
 ⟨ps te h.pe,fun H0 Z σ H S V E k t l=>h.snd H0 Z σ H S _ _ k t fun a vs ds H1 H' S' k1 st1 ha hg hl rr zq1=>by
  obtain ⟨hi,q⟩:=zq1
  obtain ⟨k2,st2⟩:=k1.setNew (s:=.own ds) hi ha hg ⟨a,vs,rfl,hl,k1.dom a ha,rr⟩ rfl
  exact l.nx _ _ _ k2 (st1.trans st2) q⟩
def xn (i:Nat) (t:VTN):VTS:=fun V S=>t S fun ds S1=>∃ns:List Int,ds=ns.map .int/\i < S1.length/\V.nx (S1.set i (.pen none ns))
theorem nh {i:Nat} {x:Str} {pos':Pos} {tn:VTN} (ps:∀te,PE X e te->PS X (.Assign [.Name x pos'] e pos) (cU te (aX i))) (h:VN K X e te tn):VS K X (.Assign [.Name x pos'] e pos) (cU te (aX i)) (xn i tn):=
 ⟨ps te h.pe,fun H0 Z σ H S V E k t l=>h.snd H0 Z σ H S _ _ k t fun a vs ds H1 H' S' k1 st1 ha hg hl rr zq1=>by
  obtain ⟨ns,e,hi,q⟩:=zq1
  subst e
  obtain ⟨k2,st2⟩:=k1.setNew (s:=.pen none ns) hi ha hg ⟨a,rfl,(fun _ z=>nomatch z),by rw [<- Reps.toInts rr];exact hl⟩ rfl
  exact l.nx _ _ _ k2 (st1.trans st2) q⟩
end
end VL
end
section
namespace VL
open PySem L2
section
variable {K:Ed} {X:Cx} {m:Bool} {e a b c:Expr} {ta tb tc te ti:TE} {va vb vc vi:VT} {pos:Pos} {st:Stmt} {rest:List Stmt} {t u:TS} {v w:VTS}
theorem OK.ownAt {H0 H:Hp} (k:OK K H0 Z σ H S) {i:Nat} {s:Sl} (e:S[i]?=some s):∃o,σ[i]?=some o/\oJ K H0 (NM Z σ S) H o s:=by
 have hi:i < σ.length:=by rw [k.len];exact (List.getElem?_eq_some_iff.mp e).1
 exact ⟨_,Ei hi,k.at_ i _ s (Ei hi) e⟩
def zg (i:Nat) (ve:VT):VT:=fun S Q=>(∃ds,S[i]?=some (.own ds))/\ve S fun r S1=>∃d ds,r=.d d/\S1[i]?=some (.own ds)/\ds.length<=1000000/\Q (.d .non) (S1.set i (.own (ds++[d])))
theorem zh {apos:Pos} {o:Expr} (i:Nat) (hK:X.K=K) (ho:PE X o (cP i)) (h:VE K X true e te va) (pe:∀te,PE X e te->PE X (.Call (.Attribute o "append" apos) [e] [] pos) (tBM X.K "list" gx (cP i) (iR te oC))) :
  VE K X m (.Call (.Attribute o "append" apos) [e] [] pos) (tBM K "list" gx (cP i) (iR te oC)) (zg i va):=⟨by subst hK;exact pe te h.pe,fun H0 Z σ H S Q C k zq1 hc=>by
 obtain ⟨⟨ds0,e0⟩,t⟩:=zq1
 obtain ⟨o,h1,a,vs,rfl,h2,h3,h4⟩:=k.ownAt e0
 refine ⟨.ref a,h1,.inl ⟨rfl,vs,.inl (.inl h2)⟩,?_⟩
 refine h.snd H0 Z σ H S _ _ k t fun x H1 r S1 k1 st1 rr zr1=>?_
 obtain ⟨d,ds,er,e1,hl,q⟩:=zr1
 subst er
 obtain ⟨o',g1,a',vs',rfl,g2,g3,g4⟩:=k1.ownAt e1
 rw [h1] at g1;cases g1
 refine ⟨a,vs',x,rfl,rfl,g2,by rw [g4.length,FQ];lia,?_⟩
 have na:NM Z σ S1 a->False:=fun n=>n (.inl ⟨i,_,e1,rfl,h1⟩)
 have hm:∀b,NM Z σ S1 b->H1 b≠none->NM Z σ S1 b/\upd H1 a (.lst (vs'++[x])) b=H1 b:=fun b n _=>⟨n,aC fun z=>na (by rw [<- z];exact n)⟩
 obtain ⟨k2,st2⟩:=k1.chg (s:=.own (ds++[d])) (o:=.lst (vs'++[x])) e1 rfl h1 ⟨_,rfl⟩ rfl ⟨a,_,rfl,aD,g3,Reps.append (g4.mono hm fun _ x=>x) (.cons (Rep.mono hm (fun _ x=>x rfl) rr) .nil)⟩
 exact hc .non _ (.d .non) _ k2 (st1.trans st2) Rep.non q⟩
theorem hZ {apos:Pos} {o:Expr} (i:Nat) (hK:X.K=K) (ho:PE X o (cP i)) (h:VE K X true e te va) (hbase:HP o "append" X.env (eval o X.env)=eval o X.env:=by rfl)
  (hfew:((HD pos (EO (e::[]) X.env)).all (fun x=>!x.1)&&(backToKw pos (KQ [] X.env)).all (fun x=>x.1.isSome)
   && decide ((e::[]).length+([]:List KR).length+(if ([]:List KR).isEmpty then 0 else 1) < 30))=true:=by rfl)
  (hline:(apos.endLine==pos.line)=true:=by rfl) (hs:EO (e::[]) X.env=(false,eval e X.env)::EO [] X.env:=by rfl) (hplain:(HD pos (EO [] X.env)).any (·.1)=false:=by rfl) :
  VE K X m (.Call (.Attribute o "append" apos) [e] [] pos) (tBM K "list" gx (cP i) (iR te oC)) (zg i va):=
 zh i hK ho h fun te hp=>w9 Jc PySem.F.slot_list_append PySem.F.type_list_append oE ho (jt hp lU hs) hbase hfew hline hs hplain
def qt (i:Nat) (ve vi:VT):VTS:=fun V S=>ve S fun r S1=>(∃s,S1[i]?=some s/\s.mut=true)/\vi S1 fun ri S2=>∃j,get S2 ri=some (.int j) /\
  ((∃ad ns k n,S2[i]?=some (.pen ad ns)/\ixN ns.length j=some k/\r=.d (.int n)/\V.nx (S2.set i (.pen ad (ns.set k n)))) \/
   (∃ds k d,S2[i]?=some (.own ds)/\ixN ds.length j=some k/\r=.d d/\V.nx (S2.set i (.own (ds.set k d)))))
theorem kO {o ie:Expr} {posS:Pos} (i:Nat) (ho:PE X o (cP i)) (h:VE K X true e te va) (hi:VE K X false ie ti vi)
  (ha:∀v,Hb (.Subscript o ie posS) X.env v=(do
   let ov <- G7 [v] (eval o X.env)
   let iv <- G7 [v,ov] (eval ie X.env)
   G6 posS
   G7 [v,ov,iv] (KO ov iv v)
   release [v,ov,iv] []):=by intro _;rfl)
  (hs:Ke [.Subscript o ie posS] e pos.line X.env=pure false:=by rfl) (hw:Kf [.Subscript o ie posS] e X.env=pure none:=by rfl)
  (h1:(GD [.Subscript o ie posS] X.env).map (·.2)=[Hb (.Subscript o ie posS) X.env]:=by rfl) :
  VS K X (.Assign [.Subscript o ie posS] e pos) (cU te (yH (cP i) ti mZ)) (qt i va vi):=⟨pU h.pe (yI ho hi.pe set_list ha) hs hw h1,fun H0 Z σ H S V E k t l=>by
 refine h.snd H0 Z σ H S _ _ k t fun x H1 r S1 k1 st1 rr zr1=>?_
 obtain ⟨⟨s1,em,hm1⟩,q⟩:=zr1
 -- the slot's address stays: σ is one
 have fin:∀(p:Addr),σ[i]?=some (some (.ref p))->yH (cP i) ti mZ x σ H1 E.nx:=fun p hp=>by
  refine ⟨.ref p,hp,hi.snd H0 Z σ H1 S1 _ _ k1 q fun y H2 ri S2 k2 st2 r2 zr1=>?_⟩
  obtain ⟨j,ej,q2⟩:=zr1
  cases r2.get k2 ej
  have rr2:=rr.step st2
  rcases q2 with ⟨ad,ns,kk,n,e1,e2,er,q2⟩ | ⟨ds,kk,d,e1,e2,er,q2⟩
  ·subst er
   cases (show Rep K _ _ H2 x (.int n) from rr2)
   obtain ⟨o',g1,a',rfl,g2,g3⟩:=k2.ownAt e1
   rw [hp] at g1;cases g1
   refine ⟨p,_,j,kk,rfl,rfl,g3,by rw [Eh];exact e2,?_⟩
   obtain ⟨k3,st3⟩:=k2.chg (s:=.pen ad (ns.set kk n)) (o:=.lst ((ns.map L2.V.int).set kk (.int n))) e1 rfl hp ⟨_,rfl⟩ rfl ⟨p,rfl,g2,by rw [aD,List.map_set]⟩
   exact l.nx _ _ _ k3 ((st1.trans st2).trans st3) q2
  ·subst er
   obtain ⟨o',g1,a',vs,rfl,g2,g3,g4⟩:=k2.ownAt e1
   rw [hp] at g1;cases g1
   refine ⟨p,_,j,kk,rfl,rfl,g2,by rw [g4.length];exact e2,?_⟩
   have na:NM Z σ S2 p->False:=fun n=>n (.inl ⟨i,_,e1,rfl,hp⟩)
   have hm:∀b,NM Z σ S2 b->H2 b≠none->NM Z σ S2 b/\upd H2 p (.lst (vs.set kk x)) b=H2 b:=fun b n _=>⟨n,aC fun z=>na (by rw [<- z];exact n)⟩
   obtain ⟨k3,st3⟩:=k2.chg (s:=.own (ds.set kk d)) (o:=.lst (vs.set kk x)) e1 rfl hp ⟨_,rfl⟩ rfl ⟨p,_,rfl,aD,g3,Reps.set (Rep.mono hm (fun _ x=>x rfl) rr2) kk (g4.mono hm fun _ x=>x)⟩
   exact l.nx _ _ _ k3 ((st1.trans st2).trans st3) q2
 -- which address it is: look once
 obtain ⟨o1,g1,g2⟩:=k1.ownAt em
 cases s1 with
 | no=>cases hm1
 | val d=>cases hm1
 | fre d=>cases hm1
 | own ds=>obtain ⟨p,_,rfl,_⟩:=g2;exact fin p g1
 | pen ad ns=>obtain ⟨p,rfl,_⟩:=g2;exact fin p g1
 | odi ks ds=>obtain ⟨p,_,rfl,_⟩:=g2;exact fin p g1
 | obj k=>obtain ⟨p,rfl,_⟩:=g2;exact fin p g1⟩
def pick:List VR->Nat->Option (Nat×List VR)
 | .own i::r,0=>some (i,r)
 | x::r,j+1=>(pick r j).map fun p=>(p.1,x::p.2)
 | _,_=>none
def BU (j:Nat) (p:List Int->List D->(D->List Int->Prop)->Prop) (vr:VTA):VT:=fun S Q=>vr S fun rs S1=>∃i rs' ad ns ds,pick rs j=some (i,rs')/\S1[i]?=some (.pen ad ns)/\allD rs'=some ds/\p ns ds fun d ns'=>Q (.d d) (S1.set i (.pen ad ns'))
theorem cy.pick:∀{j:Nat} {vs:List V} {rs:List VR} {i:Nat} {rs':List VR},cy K F Z σ S H vs rs->VL.pick rs j=some (i,rs')->∃v ws us,vs=ws++v::us/\ws.length=j/\σ[i]?=some (some v)/\cy K F Z σ S H (ws++us) rs'/\ws.length<=(ws++us).length
 | 0,_,_,i,rs',.cons (r:=r) h t,e=>by
  cases r with
  | d x=>cases e
  | own k=>cases e;exact ⟨_,[],_,rfl,rfl,h,t,by simp⟩
 | j+1,_,_,i,rs',.cons (r:=r) (rs:=rs) h t,e=>by
  have e':(VL.pick rs j).map (fun p=>(p.1,r::p.2))=some (i,rs'):=by cases r <;> exact e
  obtain ⟨⟨i',q⟩,h1,h2⟩:=Option.map_eq_some_iff.mp e'
  cases h2
  obtain ⟨v,ws,us,rfl,hl,hs,rr,_⟩:=cy.pick t h1
  exact ⟨v,_::ws,us,rfl,by simp [hl],hs,.cons h rr,by simp⟩
 | _,_,_,_,_,.nil,e=>by cases e
theorem Reps.splitAt {N:AP}:∀{ws us:List V} {ds:List D},Reps K N F H (ws++us) ds->∃d1 d2,ds=d1++d2/\Reps K N F H ws d1/\Reps K N F H us d2
 | [],us,ds,h=>⟨[],ds,rfl,.nil,h⟩
 | w::ws,us,_,.cons h t=>by
  obtain ⟨d1,d2,rfl,h1,h2⟩:=Reps.splitAt (ws:=ws) t
  exact ⟨_::d1,d2,rfl,.cons h h1,h2⟩
section
variable {es:List Expr} {tr:TA} {vr:VTA} {x:Str} {p0:Pos} {j k:Nat} {ps:List Str}
theorem bu {jj:Nat} {p:List Int->List D->(D->List Int->Prop)->Prop} (E:Has X.prog X.w X.K X.mg X.base k x ps (spI K jj p)) (hr:cz j X.A) (ha:VA K X false (e::es) tr vr)
  (hk:k<=j:=by decide) (hg:Gl X x:=by rfl) (hdb:(x==("__debug__":Str))=false:=by decide) (he:EO (e::es) X.env=(false,eval e X.env)::EO es X.env:=by rfl)
  (hpl:(HD pos (EO es X.env)).any (·.1)=false:=by rfl):VE K X m (.Call (.Name x p0) (e::es) [] pos) (ku (spI K jj p) [] E0 tr) (BU jj p vr):=⟨qc E hr ha.pe hk hg hdb he hpl,fun H0 Z σ H S Q C k t hc=>
 ha.snd H0 Z σ H S _ _ k t fun vs H1 rs S1 k1 st1 rrs zq1=>by
  obtain ⟨i,rs',ad,ns,ds,e1,e2,e3,q⟩:=zq1
  obtain ⟨v,ws,us,rfl,hl,hs,rr,_⟩:=rrs.pick e1
  obtain ⟨o,g1,a,rfl,g2,g3⟩:=k1.ownAt e2
  rw [hs] at g1;cases g1
  have ma:Mo Z σ S1 a:=.inl ⟨i,_,e2,rfl,hs⟩
  obtain ⟨d1,d2,rfl,r1,r2⟩:=Reps.splitAt (rr.allD e3)
  have hm:∀b,NM Z σ S1 b->H1 b≠none->b≠a/\H1 b=H1 b:=fun b n _=>⟨fun z=>n (by rw [z];exact ma),rfl⟩
  refine ⟨a,ws,us,ns,d1,d2,_,by rw [FY],hl,g3,r1.mono hm fun _ _=>trivial,r2.mono hm fun _ _=>trivial,q,fun d ns' v H' q g ga rv=>?_⟩
  -- the pen changed,and the heap grown
  have hG:∀b,upd H1 a (.lst (ns'.map V.int)) b≠none->H' b=upd H1 a (.lst (ns'.map V.int)) b:=fun b hb=>by
   by_cases hba:b=a
   ·subst hba;rw [aD];exact ga
   ·rw [aC hba] at hb ⊢;exact g b hba hb
  obtain ⟨k2,st2⟩:=k1.chg (s:=.pen ad ns') (o:=.lst (ns'.map V.int)) e2 rfl hs ⟨_,rfl⟩ rfl ⟨a,rfl,g2,aD⟩
  have k3:=k2.grow hG
  refine hc v H' (.d d) _ k3 ((st1.trans st2).trans (.grow hG)) (show Rep K _ _ H' v d from ?_) q
  refine (Rep.avoid (N':=NM Z σ (S1.set i (.pen ad ns'))) (fun b z=>k3.mo (Classical.not_not.mp z)) (fun b zr1=>?_) rv).mono (fun _ n _=>⟨n,rfl⟩) (fun o zt1 _=>by obtain ⟨c,ec,f⟩:=zt1;exact ⟨c,ec,k1.dom c f⟩)
  obtain ⟨c,ec,f⟩:=zr1
  cases ec
  refine k2.nm ?_
  rw [aC]
  ·exact f
  ·intro z;subst z;rw [g3] at f;cases f⟩
end
end
end VL
end
section
namespace VL
open PySem L2
def Gd (K:Ed) (Z:AP) (J:It) (ds:List D) (σ:St) (S:List Sl) (H:Hp):Prop:=∀ σ2 S2 H2,(∀p,H2 p=none->NM Z σ2 S2 p)->(∀a,NM Z σ S a->H a≠none->H2 a=H a/\NM Z σ2 S2 a)->∀i,(i < ds.length->J.go i H2)/\(∀x H3,J.yld i H2 x H3->i < ds.length->(∀a,H2 a≠none->H3 a=H2 a)/\∃d,ds[i]?=some d/\Rep K (NM Z σ2 S2) AnyF H3 x d)/\(i=ds.length->J.stop i H2)
def SndI (K:Ed) (wi:TI) (vi:VTN):Prop:=∀H0 Z σ H S Q C,OK K H0 Z σ H S->vi S Q->(∀J ds H' S',OK K H0 Z σ H' S'->Step Z σ S H σ S' H'->Gd K Z J ds σ S' H'->Q ds S'->C J H')->wi σ H C
structure VI (K:Ed) (X:Cx) (tg e:Expr) (wi:TI) (vi:VTN):Prop where
 pi:PI X tg e wi
 snd:SndI K wi vi
section
variable {K:Ed} {X:Cx} {m:Bool} {e a b c tg:Expr} {ta tb tc te ti:TE} {va vb vc:VT} {pos:Pos} {st:Stmt} {rest:List Stmt} {t u:TS} {v w:VTS}
def BV (va:VT):VTN:=fun S Q=>va S fun r S1=>∃ds,r=.d (.lst ds)/\Q ds S1
def BW (va:VT):VTN:=fun S Q=>va S fun r S1=>∃ds,r=.d (.tup ds)/\Q ds S1
theorem bC (hK:X.K=K) (h:VE K X false e te va):VI K X tg e (wW K te) (BV va):=⟨by subst hK;exact tQ h.pe,fun H0 Z σ H S Q C k t hc=>h.snd H0 Z σ H S _ _ k t fun v H1 r S1 k1 st1 rr zq1=>by
 obtain ⟨ds,e,q⟩:=zq1
 subst e
 have rr:Rep K _ _ H1 v (.lst ds):=rr
 obtain ⟨a,vs,rfl,hq,_⟩:=rr.sqL
 refine ⟨a,rfl,⟨vs,hq⟩,hc _ ds H1 S1 k1 st1 (fun σ2 S2 H2 _ st2 i=>?_) q⟩
 obtain ⟨a',vs',e,hq2,r2⟩:=(rr.stp st2).sqL
 cases e
 refine ⟨fun hi=>?_,fun x H3 hy hi=>?_,fun hi=>⟨vs',hq2,by rw [r2.length];lia⟩⟩
 ·obtain ⟨v,h1,_⟩:=r2.getD (Ei hi)
  exact ⟨vs',v,hq2,h1⟩
 ·obtain ⟨e,h2⟩:=hy
  obtain ⟨d,h3,h4⟩:=r2.get (h2 vs' hq2)
  exact ⟨fun _ _=>by rw [e],d,h3,h4.mono (fun _ n _=>⟨n,by rw [e]⟩) fun _ _=>trivial⟩⟩
theorem zi (hK:X.K=K) (h:VE K X false e te va):VI K X tg e (Bl K te) (BW va):=⟨by subst hK;exact yL h.pe,fun H0 Z σ H S Q C k t hc=>h.snd H0 Z σ H S _ _ k t fun v H1 r S1 k1 st1 rr zq1=>by
 obtain ⟨ds,e,q⟩:=zq1
 subst e
 have rr:Rep K _ _ H1 v (.tup ds):=rr
 obtain ⟨a,vs,rfl,hq,_⟩:=rr.sqT
 refine ⟨a,rfl,⟨vs,hq⟩,hc _ ds H1 S1 k1 st1 (fun σ2 S2 H2 _ st2 i=>?_) q⟩
 obtain ⟨a',vs',e,hq2,r2⟩:=(rr.stp st2).sqT
 cases e
 refine ⟨fun hi=>?_,fun x H3 hy hi=>?_,fun hi=>⟨vs',hq2,by rw [r2.length];lia⟩⟩
 ·obtain ⟨v,h1,_⟩:=r2.getD (Ei hi)
  exact ⟨vs',v,hq2,h1⟩
 ·obtain ⟨e,h2⟩:=hy
  obtain ⟨d,h3,h4⟩:=r2.get (h2 vs' hq2)
  exact ⟨fun _ _=>by rw [e],d,h3,h4.mono (fun _ n _=>⟨n,by rw [e]⟩) fun _ _=>trivial⟩⟩
def rg (lo:Int) (n:Nat):List D:=(Eo n).map fun (i:Nat)=>D.int (lo+(i:Int))
theorem fQ (lo:Int) (n:Nat):(rg lo n).length=n:=by simp [rg]
theorem qu {lo:Int} {n i:Nat} (h:i < n):(rg lo n)[i]?=some (.int (lo+(i:Int))):=by simp [rg,h]
theorem qv {lo:Int} {n:Nat}:Gd K Z (Itr lo n) (rg lo n) σ S H:=fun σ2 S2 H2 _ st2 i=>by
 rw [fQ]
 refine ⟨fun h=>h,fun x H3 zt1 hi=>by obtain ⟨e,hx⟩:=zt1;exact ⟨fun _ _=>by rw [e],_,qu hi,by rw [hx];exact .int _⟩,fun h=>by rw [h];exact Ek _⟩
section
variable {tr:TA} {vr:VTA} {p:Pos}
def BX (vr:VTA):VTN:=fun S Q=>vr S fun rs S1=>∃j:Int,rs=[.d (.int j)]/\-(2 ^ 62)<=j/\j < 2 ^ 62/\Q (rg 0 j.toNat) S1
def BY (vr:VTA):VTN:=fun S Q=>vr S fun rs S1=>∃i j:Int,rs=[.d (.int i),.d (.int j)]/\(-(2 ^ 62)<=i/\i < 2 ^ 62/\-(2 ^ 62)<=j/\j < 2 ^ 62)/\Q (rg i (j-i).toNat) S1
theorem aY (hg:Gl X "range") (hm:X.mg "range"=none) (ha:VA K X false [a] tr vr) (hs:EO [a] X.env=[(false,eval a X.env)]:=by rfl):VI K X tg (.Call (.Name "range" p) [a] [] pos) (wX tr) (BX vr):=⟨ow hg hm ha.pe hs,fun H0 Z σ H S Q C k t hc=>
 ha.snd H0 Z σ H S _ _ k t fun vs H1 rs S1 k1 st1 rrs zq1=>by
  obtain ⟨j,e,h1,h2,q⟩:=zq1
  subst e
  cases rrs with
  | cons r t=>
   cases t
   cases (show Rep K _ _ H1 _ (.int j) from r)
   exact ⟨j,rfl,h1,h2,hc _ _ H1 S1 k1 st1 qv q⟩⟩
theorem fR (hg:Gl X "range") (hm:X.mg "range"=none) (ha:VA K X false [a,b] tr vr) (hs:EO [a,b] X.env=[(false,eval a X.env),(false,eval b X.env)]:=by rfl) (hs2:EO [b] X.env=[(false,eval b X.env)]:=by rfl):VI K X tg (.Call (.Name "range" p) [a,b] [] pos) (wY tr) (BY vr):=⟨ox hg hm ha.pe hs hs2,fun H0 Z σ H S Q C k t hc=>
 ha.snd H0 Z σ H S _ _ k t fun vs H1 rs S1 k1 st1 rrs zq1=>by
  obtain ⟨i,j,e,h1,q⟩:=zq1
  subst e
  cases rrs with
  | cons r t=>
   cases t with
   | cons r' t=>
    cases t
    cases (show Rep K _ _ H1 _ (.int i) from r)
    cases (show Rep K _ _ H1 _ (.int j) from r')
    exact ⟨i,j,rfl,h1,hc _ _ H1 S1 k1 st1 qv q⟩⟩
end
def runFor (vg:VG) (vb:VTS) (V:bz):List D->List Sl->Prop
 | []=>V.nx
 | d::r=>fun S=>vg d S fun S3=>vb ⟨runFor vg vb V r,V.rt,V.nx,runFor vg vb V r⟩ S3
def BZ (vi:VTN) (vg:VG) (vb:VTS):VTS:=fun V S=>vi S fun ds S1=>runFor vg vb V ds S1\/∃Iv:Nat->List Sl->Prop,Iv 0 S1/\(∀i d S2,ds[i]?=some d->Iv i S2->vg d S2 fun S3=>vb { V with nx:=Iv (i+1),ct:=Iv (i+1),bk:=V.nx } S3)/\∀S2,Iv ds.length S2->V.nx S2
theorem bR {body:List Stmt} {wi:TI} {vi:VTN} {g:TG} {vg:VG} (hp:PassesOwn (Ff X.prog X.w) X.A X.env X.xe) (hc:X.calm=true) (hi:VI K X tg e wi vi) (hg:VGe K X tg g vg) (hb:VSs K X body t v) (hs:∀x,EC e X.env x=pure x:=by intro _;rfl) :
  VS K X (.For tg e body [] pos) (Bm wi g t) (BZ vi vg v):=⟨yM hp hc hi.pi hg.pg hb.ps hs,fun H0 Z σ H S V E k t l=>hi.snd H0 Z σ H S _ _ k t fun J ds H1 S1 k1 st1 gd hh=>by
 rcases hh with hr | ⟨Iv,i0,hs,hd⟩
 ·refine ⟨fun i m σ H=>m=ds.length-i/\i<=ds.length/\∃S2,OK K H0 Z σ H S2/\Step Z _ S1 H1 σ S2 H/\runFor vg v V (ds.drop i) S2,⟨ds.length,by simp,Ga _,S1,k1,.refl,by simpa using hr⟩,?_⟩
  rintro i m σ2 H2 ⟨rfl,hi,S2,k2,st2,p⟩
  obtain ⟨g1,g2,g3⟩:=gd σ2 S2 H2 (fun _=>k2.nm) st2.1 i
  by_cases hlt:i < ds.length
  ·rw [Gy hlt] at p
   refine .inr ⟨g1 hlt,fun σ' H'=>∃S',OK K H0 Z σ' H' S'/\Step Z σ S1 H1 σ' S' H'/\runFor vg v V (ds.drop (i+1)) S',fun σ' H' p'=>⟨ds.length-(i+1),by lia,rfl,hlt,p'⟩,fun x H3 y=>?_⟩
   obtain ⟨hgr,d,hd',rd⟩:=g2 x H3 y hlt
   replace k2:=k2.grow hgr
   replace st2:=st2.trans (.grow hgr)
   rw [Ei hlt] at hd'
   cases hd'
   refine hg.snd H0 Z σ2 H3 S2 x _ _ _ k2 rd p fun σ4 H4 S4 k4 st4 q4=>?_
   refine hb.snd H0 Z σ4 H4 S4 _ _ k4 q4 ⟨fun σ' H' S' k' s' q'=>⟨S',k',(st2.trans st4).trans s',q'⟩,fun σ' H' S' k' s' q'=>l.nx σ' H' S' k' (((st1.trans st2).trans st4).trans s') q',fun σ' H' S' k' s' q'=>⟨S',k',(st2.trans st4).trans s',q'⟩,fun v d σ' H' S' k' s' r' q'=>l.rt v d σ' H' S' k' (((st1.trans st2).trans st4).trans s') r' q'⟩
  ·have e:i=ds.length:=by lia
   rw [e,List.drop_length] at p
   exact .inl ⟨g3 e,l.nx _ _ _ k2 (st1.trans st2) p⟩
 refine ⟨fun i m σ H=>m=ds.length-i/\i<=ds.length/\∃S2,OK K H0 Z σ H S2/\Step Z _ S1 H1 σ S2 H/\Iv i S2,⟨ds.length,by simp,Ga _,S1,k1,.refl,i0⟩,?_⟩
 rintro i m σ2 H2 ⟨rfl,hi,S2,k2,st2,p⟩
 obtain ⟨g1,g2,g3⟩:=gd σ2 S2 H2 (fun _=>k2.nm) st2.1 i
 by_cases hlt:i < ds.length
 ·refine .inr ⟨g1 hlt,fun σ' H'=>∃S',OK K H0 Z σ' H' S'/\Step Z σ S1 H1 σ' S' H'/\Iv (i+1) S',fun σ' H' p'=>⟨ds.length-(i+1),by lia,rfl,hlt,p'⟩,fun x H3 y=>?_⟩
  obtain ⟨hgr,d,hd',rd⟩:=g2 x H3 y hlt
  replace k2:=k2.grow hgr
  replace st2:=st2.trans (.grow hgr)
  refine hg.snd H0 Z σ2 H3 S2 x d _ _ k2 rd (hs i d S2 hd' p) fun σ4 H4 S4 k4 st4 q4=>?_
  refine hb.snd H0 Z σ4 H4 S4 _ _ k4 q4 ⟨fun σ' H' S' k' s' q'=>⟨S',k',(st2.trans st4).trans s',q'⟩,fun σ' H' S' k' s' q'=>l.nx σ' H' S' k' (((st1.trans st2).trans st4).trans s') q',fun σ' H' S' k' s' q'=>⟨S',k',(st2.trans st4).trans s',q'⟩,fun v d σ' H' S' k' s' r' q'=>l.rt v d σ' H' S' k' (((st1.trans st2).trans st4).trans s') r' q'⟩
 ·have e:i=ds.length:=by lia
  exact .inl ⟨g3 e,l.nx _ _ _ k2 (st1.trans st2) (hd S2 (by rw [<- e];exact p))⟩⟩
end
def aV (n:Nat) (ix:List Nat) (S:List Sl):List Sl:=Ep n .no++ix.map fun i=>(S[i]?).getD .no
def kP (s t:Sl):Sl:=if s.mut then (if t.mut then t else .no) else s
def dj (n:Nat) (ix:List Nat) (T:List Sl):Nat->List Sl->List Sl
 | _,[]=>[]
 | k,s::r=>(match ix.idxOf? k with | some j=>kP s ((T[n+j]?).getD .no) | none=>s)::dj n ix T (k+1) r
def backS (n:Nat) (ix:List Nat) (S T:List Sl):List Sl:=dj n ix T 0 S
def Zin (Z:AP) (ix:List Nat) (σ:St) (S:List Sl):AP:=fun a=>Z a\/∃(i:Nat) (s:Sl),i∉ix/\S[i]?=some s/\s.mut=true/\σ[i]?=some (some (V.ref a))
section
variable {K:Ed} {H H' H0:Hp} {Z:AP} {σ σ':St} {S T:List Sl} {n:Nat} {ix:List Nat}
theorem h9 (k:Nat):(dj n ix T k S).length=S.length:=by
 induction S generalizing k with
 | nil=>rfl
 | cons s r ih=>simp [dj,ih]
theorem ue (k:Nat) {i:Nat} {s:Sl} (h:S[i]?=some s):(dj n ix T k S)[i]?=some (match ix.idxOf? (k+i) with | some j=>kP s ((T[n+j]?).getD .no) | none=>s):=by
 induction S generalizing k i with
 | nil=>simp at h
 | cons s' r ih=>
  cases i with
  | zero=>simp at h;subst h;rfl
  | succ i=>
   simp at h
   simp only [dj,FZ]
   rw [ih (k+1) h,show k+1+i=k+(i+1) by lia]
theorem jG {j:Nat} {s:Sl} (h:(aV n ix S)[j]?=some s) (m:s.mut=true):∃k i,j=n+k/\ix[k]?=some i/\S[i]?=some s:=by
 unfold aV at h
 by_cases hj:j < n
 ·rw [EX (by simpa using hj)] at h
  simp [hj] at h
  subst h;cases m
 ·rw [EK (by simp;lia)] at h
  simp only [Gf,EH] at h
  cases hk:ix[j-n]? with
  | none=>rw [hk] at h;cases h
  | some i=>
   rw [hk] at h
   simp at h
   refine ⟨j-n,i,by lia,hk,?_⟩
   cases hs:S[i]? with
   | none=>rw [hs] at h;simp at h;subst h;cases m
   | some s'=>rw [hs] at h;simp at h;subst h;rfl
theorem uf {j:Nat} {s:Sl} (h:(aV n ix S)[j]?=some s):s=.no\/∃k i,j=n+k/\ix[k]?=some i/\S[i]?=some s:=by
 unfold aV at h
 by_cases hj:j < n
 ·rw [EX (by simpa using hj)] at h
  simp [hj] at h
  exact .inl h.symm
 ·rw [EK (by simp;lia)] at h
  simp only [Gf,EH] at h
  cases hk:ix[j-n]? with
  | none=>rw [hk] at h;cases h
  | some i=>
   rw [hk] at h
   simp at h
   cases hs:S[i]? with
   | none=>rw [hs] at h;simp at h;exact .inl h.symm
   | some s'=>rw [hs] at h;simp at h;subst h;exact .inr ⟨j-n,i,by lia,hk,hs⟩
theorem fA {k i:Nat} (h:ix[k]?=some i):(capt n ix σ)[n+k]?=some ((σ[i]?).getD none):=by
 unfold capt
 rw [EK (by simp)]
 simp [h]
theorem ug {k i:Nat} (h:ix[k]?=some i):(aV n ix S)[n+k]?=some ((S[i]?).getD .no):=by
 unfold aV
 rw [EK (by simp)]
 simp [h]
theorem di {k i:Nat} (h:ix[k]?=some i) (e:(capt n ix σ)[n+k]?=some (some v)):σ[i]?=some (some v):=by
 rw [fA h] at e
 cases hs:σ[i]? with
 | none=>rw [hs] at e;cases e
 | some o=>rw [hs] at e;simp at e;rw [e]
theorem dY {a:Addr}:Mo (Zin Z ix σ S) (capt n ix σ) (aV n ix S) a↔Mo Z σ S a:=by
 constructor
 ·rintro (⟨j,s,h1,h2,h3⟩ | h | ⟨i,s,_,h1,h2,h3⟩)
  ·obtain ⟨k,i,rfl,hk,hs⟩:=jG h1 h2
   exact .inl ⟨i,s,hs,h2,di hk h3⟩
  ·exact .inr h
  ·exact .inl ⟨i,s,h1,h2,h3⟩
 ·rintro (⟨i,s,h1,h2,h3⟩ | h)
  ·by_cases hi:i∈ix
   ·obtain ⟨k,hk⟩:=List.getElem?_of_mem hi
    refine .inl ⟨n+k,s,?_,h2,?_⟩
    ·rw [ug hk,h1];rfl
    ·rw [fA hk,h3];rfl
   ·exact .inr (.inr ⟨i,s,hi,h1,h2,h3⟩)
  ·exact .inr (.inl h)
theorem oM {l:List Nat} (h:l.Nodup):∀{i j x:Nat},l[i]?=some x->l[j]?=some x->i=j:=fun {i j x} h1 h2=>by
 obtain ⟨a,e1⟩:=List.getElem?_eq_some_iff.mp h1
 obtain ⟨b,e2⟩:=List.getElem?_eq_some_iff.mp h2
 have hp:=List.pairwise_iff_getElem.mp h
 rcases IQ i j with c | c | c
 ·exact (hp i j a b c (by rw [e1,e2])).elim
 ·exact c
 ·exact (hp j i b a c (by rw [e1,e2])).elim
theorem OK.capt (k:OK K H0 Z σ H S) (hn:ix.Nodup):OK K H0 (Zin Z ix σ S) (L2.capt n ix σ) H (aV n ix S) where
 len:=by simp [L2.capt,aV]
 dom:=k.dom
 zl:=fun a z=>by
  rcases z with z | ⟨i,s,_,h1,h2,h3⟩
  ·exact k.zl a z
  ·exact k.mo (.inl ⟨i,s,h1,h2,h3⟩)
 nz:=fun j s a h1 h2 h3 z=>by
  obtain ⟨q,i,rfl,hk,hs⟩:=jG h1 h2
  have e:=di hk h3
  rcases z with z | ⟨i',s',hi',g1,g2,g3⟩
  ·exact k.nz i s a hs h2 e z
  ·have:=k.inj i i' a s s' hs g1 h2 g2 e g3
   subst this
   exact hi' (F0 hk)
 inj:=fun j j' a s s' h1 h2 m1 m2 h3 h4=>by
  obtain ⟨q,i,rfl,hk,hs⟩:=jG h1 m1
  obtain ⟨q',i',rfl,hk',hs'⟩:=jG h2 m2
  have:=k.inj i i' a s s' hs hs' m1 m2 (di hk h3) (di hk' h4)
  subst this
  rw [oM hn hk hk']
 at_:=fun j o s h1 h2=>by
  have hN:∀a,NM Z σ S a->NM (Zin Z ix σ S) (L2.capt n ix σ) (aV n ix S) a:=fun a x z=>x (dY.mp z)
  rcases uf h2 with rfl | ⟨q,i,rfl,hk,hs⟩
  ·trivial
  ·rw [fA hk] at h1
   obtain ⟨o',e1,sl⟩:=k.ownAt hs
   rw [e1] at h1
   simp at h1
   subst h1
   cases s with
   | no=>trivial
   | val d=>obtain ⟨v,e,r⟩:=sl;exact ⟨v,e,r.mono (fun a x _=>⟨hN a x,rfl⟩) fun _ x=>x⟩
   | fre d=>obtain ⟨v,e,r⟩:=sl;exact ⟨v,e,r.mono (fun a x _=>⟨hN a x,rfl⟩) fun _ x=>x⟩
   | own ds=>obtain ⟨a,vs,e,e',e0,r⟩:=sl;exact ⟨a,vs,e,e',e0,r.mono (fun a x _=>⟨hN a x,rfl⟩) fun _ x=>x⟩
   | pen ad ns=>exact sl
   | odi ks ds=>obtain ⟨a,vs,e,e',e0,ek,r⟩:=sl;exact ⟨a,vs,e,e',e0,⟨ek.1,ek.2.mono (fun a x _=>⟨hN a x,rfl⟩) fun _ x=>x⟩,r.mono (fun a x _=>⟨hN a x,rfl⟩) fun _ x=>x⟩
   | obj k=>obtain ⟨a,e,e0,r⟩:=sl;exact ⟨a,e,e0,k.mono (fun a x _=>⟨hN a x,rfl⟩) rfl r⟩
theorem qw {i j:Nat} (h:ix.idxOf? i=some j):ix[j]?=some i:=by
 unfold List.idxOf? at h
 obtain ⟨h1,h2,_⟩:=List.findIdx?_eq_some_iff_getElem.mp h
 rw [Ei h1]
 simpa using h2
theorem qx {i:Nat} (h:ix.idxOf? i=none):i∉ix:=by
 unfold List.idxOf? at h
 intro hm
 have:=List.findIdx?_eq_none_iff.mp h i hm
 simp at this
theorem kQ {i:Nat} {s:Sl} (h:S[i]?=some s):(backS n ix S T)[i]?=some (match ix.idxOf? i with | some j=>kP s ((T[n+j]?).getD .no) | none=>s):=by
 have:=ue (n:=n) (ix:=ix) (T:=T) 0 h
 rwa [Iu] at this
theorem dk {i:Nat} {s':Sl} (h:(backS n ix S T)[i]?=some s') (m:s'.mut=true):∃s,S[i]?=some s/\s.mut=true/\((∃j,ix[j]?=some i/\T[n+j]?=some s')\/(i∉ix/\s=s')):=by
 have hl:i < S.length:=by
  have:=(List.getElem?_eq_some_iff.mp h).1
  rwa [show (backS n ix S T).length=S.length from h9 0] at this
 have e:=kQ (n:=n) (ix:=ix) (T:=T) (Ei hl)
 rw [h] at e
 have e:=ER e
 refine ⟨_,Ei hl,?_⟩
 cases hx:ix.idxOf? i with
 | none=>
  rw [hx] at e
  have e:s'=S[i]:=e
  exact ⟨by rw [<- e];exact m,.inr ⟨qx hx,e.symm⟩⟩
 | some j=>
  rw [hx] at e
  simp only [kP] at e
  by_cases hm:(S[i]).mut=true
  ·rw [if_pos hm] at e
   refine ⟨hm,.inl ⟨j,qw hx,?_⟩⟩
   cases ht:T[n+j]? with
   | none=>rw [ht] at e;simp [Sl.mut] at e;subst e;cases m
   | some t=>
    rw [ht] at e
    simp only [Option.getD_some] at e
    by_cases htm:t.mut=true
    ·rw [if_pos htm] at e;rw [e]
    ·rw [if_neg htm] at e;subst e;cases m
  ·rw [if_neg hm] at e;subst e;exact (hm m).elim
theorem oN {i:Nat} {s':Sl} (h:(backS n ix S T)[i]?=some s') (m:s'.mut=false):s'=.no\/S[i]?=some s':=by
 have hl:i < S.length:=by
  have:=(List.getElem?_eq_some_iff.mp h).1
  rwa [show (backS n ix S T).length=S.length from h9 0] at this
 have e:=kQ (n:=n) (ix:=ix) (T:=T) (Ei hl)
 rw [h] at e
 have e:=ER e
 cases hx:ix.idxOf? i with
 | none=>rw [hx] at e;exact .inr (by rw [Ei hl,e])
 | some j=>
  rw [hx] at e
  simp only [kP] at e
  by_cases hm:(S[i]).mut=true
  ·rw [if_pos hm] at e
   by_cases htm:((T[n+j]?).getD .no).mut=true
   ·rw [if_pos htm] at e;rw [e,htm] at m;cases m
   ·rw [if_neg htm] at e;exact .inl e
  ·rw [if_neg hm] at e;exact .inr (by rw [Ei hl,e])
theorem OK.back (k:OK K H0 Z σ H S) (k':OK K H0 (Zin Z ix σ S) σ' H' T) (st:Step (Zin Z ix σ S) (L2.capt n ix σ) (aV n ix S) H σ' T H') (hσ:∀(i:Nat) (v:V),(L2.capt n ix σ)[i]?=some (some v)->σ'[i]?=some (some v)) :
  OK K H0 Z σ H' (backS n ix S T)/\Step Z σ S H σ (backS n ix S T) H'/\∀a,NM (Zin Z ix σ S) σ' T a->NM Z σ (backS n ix S T) a:=by
 have mo':∀a,Mo Z σ (backS n ix S T) a->Mo (Zin Z ix σ S) σ' T a:=fun a z=>by
  rcases z with ⟨i,s',h1,h2,h3⟩ | z
  ·obtain ⟨s,e,em,⟨j,hj,ht⟩ | ⟨hi,rfl⟩⟩:=dk h1 h2
   ·exact .inl ⟨n+j,s',ht,h2,hσ _ _ (by rw [fA hj,h3];rfl)⟩
   ·exact .inr (.inr ⟨i,s,hi,e,em,h3⟩)
  ·exact .inr (.inl z)
 have nm':∀a,NM (Zin Z ix σ S) σ' T a->NM Z σ (backS n ix S T) a:=fun a x z=>x (mo' a z)
 have nm0:∀a,NM Z σ S a->NM (Zin Z ix σ S) (L2.capt n ix σ) (aV n ix S) a:=fun a x z=>x (dY.mp z)
 have old:∀a,NM Z σ S a->H a≠none->NM Z σ (backS n ix S T) a/\H' a=H a:=fun a x e=>⟨nm' a (st.1 a (nm0 a x) e).2,(st.1 a (nm0 a x) e).1⟩
 refine ⟨⟨by rw [show (backS n ix S T).length=S.length from h9 0];exact k.len,fun i o s' h1 h2=>?_,fun i j a s t h1 h2 m1 m2 h3 h4=>?_,fun a e=>k'.dom a e,fun a z=>k'.zl a (.inl z),fun i s a h1 m h3 z=>?_⟩,⟨fun a x e=>⟨(old a x e).2,(old a x e).1⟩,st.2.1,fun a z e=>st.2.2 a (.inl z) e⟩,nm'⟩
 ·cases hm:s'.mut with
  | true=>
   obtain ⟨s,e,em,⟨j,hj,ht⟩ | ⟨hi,rfl⟩⟩:=dk h2 hm
   ·have eo:∃v,o=some v:=by
     obtain ⟨o',e1,q⟩:=k.ownAt e
     rw [h1] at e1;cases e1
     cases s with
     | no=>cases em
     | val d=>cases em
     | fre d=>cases em
     | own ds=>obtain ⟨a,_,e,_⟩:=q;exact ⟨_,e⟩
     | pen ad ns=>obtain ⟨a,e,_⟩:=q;exact ⟨_,e⟩
     | odi ks ds=>obtain ⟨a,_,e,_⟩:=q;exact ⟨_,e⟩
     | obj k=>obtain ⟨a,e,_⟩:=q;exact ⟨_,e⟩
    obtain ⟨v,rfl⟩:=eo
    have q:=k'.at_ (n+j) (some v) s' (hσ _ _ (by rw [fA hj,h1];rfl)) ht
    cases s' with
    | no=>cases hm
    | val d=>cases hm
    | fre d=>cases hm
    | own ds=>obtain ⟨a,vs,e,e',e0,r⟩:=q;exact ⟨a,vs,e,e',e0,r.mono (fun a x _=>⟨nm' a x,rfl⟩) fun _ x=>x⟩
    | pen ad ns=>exact q
    | odi ks ds=>obtain ⟨a,vs,e,e',e0,ek,r⟩:=q;exact ⟨a,vs,e,e',e0,⟨ek.1,ek.2.mono (fun a x _=>⟨nm' a x,rfl⟩) fun _ x=>x⟩,r.mono (fun a x _=>⟨nm' a x,rfl⟩) fun _ x=>x⟩
    | obj k=>obtain ⟨a,e,e0,r⟩:=q;exact ⟨a,e,e0,k.mono (fun a x _=>⟨nm' a x,rfl⟩) rfl r⟩
   ·obtain ⟨o',e1,q⟩:=k.ownAt e
    rw [h1] at e1;cases e1
    have hz:∀a us,o=some (V.ref a)->H a=some us->H' a=H a:=fun a us eo ea=>st.2.2 a (.inr ⟨i,s,hi,e,em,by rw [h1,eo]⟩) (by simp [ea])
    cases s with
    | no=>cases hm
    | val d=>cases hm
    | fre d=>cases hm
    | own ds=>obtain ⟨a,vs,e,e',e0,r⟩:=q;exact ⟨a,vs,e,(hz a _ e e').trans e',e0,r.mono old fun _ x=>x⟩
    | pen ad ns=>obtain ⟨a,e,e1,e'⟩:=q;exact ⟨a,e,e1,(hz a _ e e').trans e'⟩
    | odi ks ds=>obtain ⟨a,vs,e,⟨ob,e'⟩,e0,ek,r⟩:=q;exact ⟨a,vs,e,⟨ob,(hz a _ e e').trans e'⟩,e0,⟨ek.1,ek.2.mono old fun _ x=>x⟩,r.mono old fun _ x=>x⟩
    | obj k=>obtain ⟨a,e,e0,r⟩:=q;exact ⟨a,e,e0,k.mono old (hz a _ e (Option.ne_none_iff_exists'.mp (k.ism r).ne).choose_spec) r⟩
  | false=>
   rcases oN h2 hm with rfl | e
   ·trivial
   ·have q:=k.at_ i o s' h1 e
    cases s' with
    | no=>trivial
    | val d=>obtain ⟨v,e,r⟩:=q;exact ⟨v,e,r.mono old fun _ x=>x⟩
    | fre d=>obtain ⟨v,e,r⟩:=q;exact ⟨v,e,r.mono old fun _ x=>x⟩
    | own ds=>cases hm
    | pen ad ns=>cases hm
    | odi ks ds=>cases hm
    | obj k=>cases hm
 ·obtain ⟨s0,e0,em0,c1⟩:=dk h1 m1
  obtain ⟨t0,f0,fm0,c2⟩:=dk h2 m2
  exact k.inj i j a s0 t0 e0 f0 em0 fm0 h3 h4
 ·obtain ⟨s0,e0,em0,c1⟩:=dk h1 m
  exact k.nz i s0 a e0 em0 h3 z
end
section
variable {K:Ed} {X:Cx} {e a b c tg elt iter:Expr} {te:TE} {va:VT} {pos:Pos}
structure VTs (K:Ed) (X:Cx) (ifs:List Expr) (te:TT) (t:VTT):Prop where
 pe:PTs X ifs te
 snd:SndT K te t
def xo:VTT:=fun S Q=>Q true S
theorem bV:VTs K X [] xb xo:=⟨ua,fun _ _ _ _ _ _ _ k h q=>q _ _ _ k .refl h⟩
theorem dB {tA:TT} {wA:VTT} (h:VTe K X c tA wA):VTs K X [c] tA wA:=⟨ub h.pe,h.snd⟩
def nj (vi:VTN) (n:Nat) (ix:List Nat) (vg:VG) (vt:VTT) (ve:VT):VTN:=fun S Q=>vi S fun ds S1=>ds.length<=1000000/\∃Iv:Nat->List D->List Sl->Prop,Iv 0 [] S1 /\
 (∀i d ys S2,ds[i]?=some d->Iv i ys S2->vg d (aV n ix S2) fun S3=>vt S3 fun b S4=>if b=true then ve S4 fun r S5=>∃x,r=.d x/\Iv (i+1) (ys++[x]) (backS n ix S2 S5) else Iv (i+1) ys (backS n ix S2 S4)) /\
 ∀ys S2,Iv ds.length ys S2->Q ys S2
theorem qy {ifs:List Expr} {scope:Ha} {tg cs:List Str} {target:Expr} {wi:TI} {vi:VTN} {g:TG} {vg:VG} {tc:TT} {vt:VTT} {te:TE} {ve:VT} (Sc:aS X scope tg cs ix) (hcalm:X.calm=true) (kg:cV tg.length ix g) (hnd:ix.Nodup) {Φ:Hp->Prop} (hΦ:∀pins σ H s,Inv X pins σ H s->Φ H) (h0:Φ X.H₀)
  (hi:VI K X target iter wi vi) (hg:∀C fp s H,VGe K (ak X scope (tg++cs) C fp s H) target g vg) (hc:∀C fp s H,Φ H->VTs K (ak X scope (tg++cs) C fp s H) ifs tc vt) (he:∀C fp s H,Φ H->VE K (ak X scope (tg++cs) C fp s H) true elt te ve)
  (hs:∀x,EC iter X.env x=pure x:=by intro _;rfl):VN K X (.ListComp elt [⟨target,iter,ifs,0⟩] scope pos) (iY wi tg.length ix g tc te) (nj vi tg.length ix vg vt ve):=by
 have sg:SndG K g vg:=(hg 0 [] X.s₀ (fun _=>none)).snd
 have sc:SndT K tc vt:=(hc 0 [] X.s₀ X.H₀ h0).snd
 have se:SndE K true te ve:=(he 0 [] X.s₀ X.H₀ h0).snd
 refine ⟨qh Sc hcalm kg hΦ hi.pi (fun C fp s H=>(hg C fp s H).pg) (fun C fp s H z=>(hc C fp s H z).pe) (fun C fp s H z=>(he C fp s H z).pe) hs,fun H0 Z σ H S Q C k t hq=>?_⟩
 refine hi.snd H0 Z σ H S _ _ k t fun J ds H1 S1 k1 st1 gd zr1=>?_
 obtain ⟨hl,Iv,i0,hs,hd⟩:=zr1
 refine ⟨fun i m ys H=>m=ds.length-i/\i<=ds.length/\ys.length<=i/\∃S2 zs,OK K H0 Z σ H S2/\Step Z σ S1 H1 σ S2 H/\Reps K (NM Z σ S2) (Fr H0) H ys zs/\Iv i zs S2,⟨ds.length,by simp,Ga _,Ek _,S1,[],k1,.refl,.nil,i0⟩,?_⟩
 rintro i m ys H2 ⟨rfl,hi,hy,S2,zs,k2,st2,rz,p⟩
 obtain ⟨g1,g2,g3⟩:=gd σ S2 H2 (fun _=>k2.nm) st2.1 i
 have hsz:(1000000:Nat) < EW:=by rw [FQ];lia
 by_cases hlt:i < ds.length
 ·refine .inr ⟨g1 hlt,by lia,fun ys' H'=>ys'.length<=i+1/\∃S' zs',OK K H0 Z σ H' S'/\Step Z σ S1 H1 σ S' H'/\Reps K (NM Z σ S') (Fr H0) H' ys' zs'/\Iv (i+1) zs' S',fun ys' H' zt1=>by obtain ⟨p1,p2⟩:=zt1;exact ⟨ds.length-(i+1),by lia,rfl,hlt,p1,p2⟩,fun x H3 y=>?_⟩
  obtain ⟨hgr,d,hd',rd⟩:=g2 x H3 y hlt
  replace k2:=k2.grow hgr
  replace st2:=st2.trans (.grow hgr)
  replace rz:=rz.step (.grow hgr)
  have kc:=k2.capt (n:=tg.length) hnd
  have rd':Rep K (NM (Zin Z ix σ S2) (L2.capt tg.length ix σ) (aV tg.length ix S2)) AnyF H3 x d:=rd.mono (fun a n _=>⟨fun z=>n (dY.mp z),rfl⟩) fun _ x=>x
  -- the target leaves what the block took over
  have h1:=sg H0 _ _ H3 _ x d _ (fun σ4 H4=>∃S4,OK K H0 (Zin Z ix σ S2) σ4 H4 S4/\Step (Zin Z ix σ S2) (L2.capt tg.length ix σ) (aV tg.length ix S2) H3 σ4 S4 H4/\vt S4 fun b S5=>if b=true then ve S5 fun r S6=>∃x,r=.d x/\Iv (i+1) (zs++[x]) (backS tg.length ix S2 S6) else Iv (i+1) zs (backS tg.length ix S2 S5)) kc rd' (hs i d zs S2 hd' p) (fun σ4 H4 S4 k4 st4 q4=>⟨S4,k4,st4,q4⟩)
  have h2:=kg x σ H3 _ h1
  refine (hg 0 [] X.s₀ (fun _=>none)).mono _ _ _ _ _ ?_ h2
  rintro σ4 H4 ⟨⟨hl4,hσ4⟩,S4,k4,st4,q4⟩
  refine sc H0 _ σ4 H4 S4 _ _ k4 q4 fun bb H5 S5 k5 st5 q5=>?_
  cases bb with
  | false=>
   rw [if_neg Er] at q5 ⊢
   obtain ⟨kb,sb,nb⟩:=k2.back k5 (st4.trans st5) hσ4
   exact ⟨by lia,_,zs,kb,st2.trans sb,rz.step sb,q5⟩
  | true=>
   rw [if_pos rfl] at q5 ⊢
   refine se H0 _ σ4 H5 S5 _ _ k5 q5 fun vv H6 r S6 k6 st6 rr zr1=>?_
   obtain ⟨xx,er,q6⟩:=zr1
   subst er
   obtain ⟨kb,sb,nb⟩:=k2.back k6 ((st4.trans st5).trans st6) hσ4
   refine ⟨by simp;lia,_,zs++[xx],kb,st2.trans sb,Reps.append (rz.step sb) (.cons (Rep.mono (fun a n _=>⟨nb a n,rfl⟩) (fun _ x=>x rfl) rr) .nil),q6⟩
 ·have e:i=ds.length:=by lia
  refine .inl ⟨g3 e,by lia,fun l hp=>?_⟩
  exact hq l ys zs H2 _ S2 k2 (st1.trans st2) hp (aT hp) aD (bJ hp (rz.mono (fun _ n _=>⟨n,rfl⟩) fun _ x _=>x)) (hd zs S2 (by rw [<- e];exact p))
theorem bW {ifs:List Expr} {scope:Ha} {tg cs:List Str} {target:Expr} {wi:TI} {vi:VTN} {g:TG} {vg:VG} {tc:TT} {vt:VTT} {te:TE} {ve:VT} (Sc:aS X scope tg cs ix) (hcalm:X.calm=true) (kg:cV tg.length ix g) (hnd:ix.Nodup)
  (hi:VI K X target iter wi vi) (hg:∀C fp s H,VGe K (ak X scope (tg++cs) C fp s H) target g vg) (hc:∀C fp s H,VTs K (ak X scope (tg++cs) C fp s H) ifs tc vt) (he:∀C fp s H,VE K (ak X scope (tg++cs) C fp s H) true elt te ve)
  (hs:∀x,EC iter X.env x=pure x:=by intro _;rfl):VN K X (.ListComp elt [⟨target,iter,ifs,0⟩] scope pos) (iY wi tg.length ix g tc te) (nj vi tg.length ix vg vt ve):=
 qy Sc hcalm kg hnd (Φ:=fun _=>True) (fun _ _ _ _ _=>trivial) trivial hi hg (fun C fp s H _=>hc C fp s H) (fun C fp s H _=>he C fp s H) hs
theorem qz {elt iter:Expr} {pos spos py:Pos} {yy:Str} {ii:Nat} {ifs:List Expr} {scope:Ha} {tg cs:List Str} {target:Expr} {wi:TI} {vi:VTN} {g:TG} {vg:VG} {tc:TT} {vt:VTT} {te:TE} {ve:VT} (hN0:X.N.Nodup) (hi0:X.N[ii]?=some yy) (hx0:Loc X.env.scope yy) (hf0:X.fn yy=true\/X.env.scope.names.lookup yy=some .local)
  (Sc:aS X scope tg cs ix) (hcalm:X.calm=true) (kg:cV tg.length ix g) (hnd:ix.Nodup)
  (hi:VI K X target iter wi vi) (hg:∀C fp s H,VGe K (ak X scope (tg++cs) C fp s H) target g vg) (hc:∀C fp s H,VTs K (ak X scope (tg++cs) C fp s H) ifs tc vt) (he:∀C fp s H,VE K (ak X scope (tg++cs) C fp s H) true elt te ve)
  (hsw:GP (.ListComp elt [⟨target,iter,ifs,0⟩] scope pos) (some (.Name yy py)) spos.line X.env=pure true:=by rfl) (hs:∀x,EC iter X.env x=pure x:=by intro _;rfl):VS K X (.Assign [.Name yy py] (.ListComp elt [⟨target,iter,ifs,0⟩] scope pos) spos) (cU (iY wi tg.length ix g tc te) (aX ii)) (qr ii (nj vi tg.length ix vg vt ve)):=by
 have h:=bW (pos:=pos) Sc hcalm kg hnd hi hg hc he hs
 refine ⟨qk hN0 hi0 hx0 Sc hcalm kg hi.pi (fun C fp s H=>(hg C fp s H).pg) (fun C fp s H=>(hc C fp s H).pe) (fun C fp s H=>(he C fp s H).pe) hf0 hsw hs,fun H0 Z σ H S V E k t l=>h.snd H0 Z σ H S _ _ k t fun a vs ds H1 H' S' k1 st1 ha hg hl rr zr1=>?_⟩
 obtain ⟨hi,q⟩:=zr1
 obtain ⟨k2,st2⟩:=k1.setNew (s:=.own ds) hi ha hg ⟨a,vs,rfl,hl,k1.dom a ha,rr⟩ rfl
 exact l.nx _ _ _ k2 (st1.trans st2) q
end
end VL
end
section
namespace VL
open PySem L2
section
variable {P:E2} {w:FO} {K:Ed} {mg:Str->Option Ej} {base:Heap}
def slots (n:Nat) (ds:List D):List Sl:=ds.map .val++Ep (n-ds.length) .no
theorem ig {N:List Str} {i:Nat} (h:vs[i]?=some v):(start N vs)[i]?=some (some v):=by
 unfold L2.start
 have hi:=(List.getElem?_eq_some_iff.mp h).1
 rw [EX (by simpa using hi)]
 simp [h]
theorem kR {n:Nat} {i:Nat} {s:Sl} (h:(slots n ds)[i]?=some s):s=.no\/∃d,s=.val d/\ds[i]?=some d:=by
 unfold slots at h
 by_cases hi:i < ds.length
 ·rw [EX (by simpa using hi)] at h
  simp [hi] at h
  subst h
  exact .inr ⟨_,rfl,by simp [hi]⟩
 ·rw [EK (by simpa using hi)] at h
  have:=F0 h
  exact .inl (IR this)
theorem cS {n:Nat} {i:Nat} {s:Sl} (h:(slots n ds)[i]?=some s):s.mut=false:=by
 rcases kR h with rfl | ⟨d,rfl,_⟩ <;> rfl
theorem qA {N:List Str} (r:Reps K Any AnyF H vs ds):OK K H (fun _=>False) (start N vs) H (slots N.length ds) where
 len:=by simp [L2.start,slots,r.length]
 dom:=fun _ e=>e
 zl:=fun _ z=>z.elim
 nz:=fun i s a h m _=>by rw [cS h] at m;cases m
 inj:=fun i j a s t h1 h2 m1=>by rw [cS h1] at m1;cases m1
 at_:=fun i o s h1 h2=>by
  rcases kR h2 with rfl | ⟨d,rfl,e⟩
  ·trivial
  ·obtain ⟨v,e1,e2⟩:=r.getD e
   rw [ig e1] at h1
   cases h1
   refine ⟨v,rfl,e2.mono (fun a _ _=>⟨?_,rfl⟩) fun _ x=>x⟩
   rintro (⟨j,s,g1,g2,_⟩ | z)
   ·rw [cS g1] at g2;cases g2
   ·exact z
theorem bI {x:Str} {st:Stmt} {N ps:List Str} {k:Nat} (S:Src K mg x st) (sc:aB N ps (ao st))
  (hb:∀(kV doc pm:Ej) (an:Option Addr) (cdv ct:Ej) (us:List Ej),us.length=ps.length->Ki (Gq x x (cA st) (bL st) (ao st) .none kV doc pm an cdv ct) ⟨us,[]⟩=pure (ps.zip us))
  (len:∀ds R,p ds R->ds.length=ps.length)
  (hbody:∀(f:Addr) (cdv:Ej) (A:F4) (outer:List Env) (s:El) (H:Hp) (E:XK),cz k (A.deeper (J3 x (ao st) s.heap.objs.size f cdv)) ->
   ∃ts t,VSs K (ju CX0 P w K mg base N x (ao st) f cdv A outer s H E).nox (bL st) ts t/\∀ds R,p ds R->t { nx:=fun _=>R .non,rt:=fun d _=>R d } (slots N.length ds)):Has P w K mg base (k+1) x ps (spP K p):=by
 refine S.has sc hb (fun vs H Q E zq1=>by obtain ⟨ds,R,r,h,_⟩:=zq1;rw [r.length];exact len ds R h) fun f cdv A outer s H vs Q E hr ⟨ds,R,r,h,fin⟩=>?_
 obtain ⟨ts,t,vs',q⟩:=hbody f cdv A outer s H E hr
 have k0:=qA (N:=N) r
 have st0:∀{σ' S' H'},Step (fun _=>False) (start N vs) (slots N.length ds) H σ' S' H'->∀a,H a≠none->H' a=H a:=fun st a e=>(st.1 a (by
  rintro (⟨j,s,g1,g2,_⟩ | z)
  ·rw [cS g1] at g2;cases g2
  ·exact z) e).1
 refine ⟨ts,vs'.ps,vs'.snd H _ _ H _ _ _ k0 (q ds R h) ⟨fun σ' H' S' k' st q=>fin .non .non H' q (st0 st) .non,fun σ' H' S' k' st q=>q.elim,fun σ' H' S' k' st q=>q.elim,fun v d σ' H' S' k' st rr q=>fin d v H' q (st0 st) (rr.mono (fun _ _ _=>⟨trivial,rfl⟩) fun _ x=>x)⟩⟩
def dD (n:Nat) (a:Addr) (ns:List Int) (ds es:List D):List Sl:=ds.map .val++.pen (some a) ns::(es.map .val++Ep (n-(ds.length+1+es.length)) .no)
theorem i7 {n:Nat} {a:Addr} {ds es:List D} {i:Nat} {s:Sl} (h:(dD n a ns ds es)[i]?=some s):s=.no\/(∃d,s=.val d/\(ds++.non::es)[i]?=some d/\i≠ds.length)\/(i=ds.length/\s=.pen (some a) ns):=by
 unfold dD at h
 by_cases hi:i < ds.length
 ·rw [EX (by simpa using hi)] at h
  simp [hi] at h
  subst h
  exact .inr (.inl ⟨_,rfl,by rw [EX hi];simp [hi],by lia⟩)
 ·by_cases hi2:i=ds.length
  ·subst hi2
   rw [EK (by simp)] at h
   simp at h
   exact .inr (.inr ⟨rfl,h.symm⟩)
  ·rw [EK (by simp;lia)] at h
   rw [Eh] at h
   obtain ⟨j,hj⟩:∃j,i-ds.length=j+1:=⟨i-ds.length-1,by lia⟩
   rw [hj,FZ] at h
   by_cases hj2:j < es.length
   ·rw [EX (by simpa using hj2)] at h
    simp [hj2] at h
    subst h
    refine .inr (.inl ⟨_,rfl,?_,hi2⟩)
    rw [EK (by lia),hj,FZ]
    simp [hj2]
   ·rw [EK (by simpa using hj2)] at h
    exact .inl (IR (F0 h))
theorem ij {x:Str} {st:Stmt} {N ps:List Str} {k:Nat} (j:Nat) {p:List Int->List D->(D->List Int->Prop)->Prop} (S:Src K mg x st) (sc:aB N ps (ao st))
  (hb:∀(kV doc pm:Ej) (an:Option Addr) (cdv ct:Ej) (us:List Ej),us.length=ps.length->Ki (Gq x x (cA st) (bL st) (ao st) .none kV doc pm an cdv ct) ⟨us,[]⟩=pure (ps.zip us))
  (len:∀ns ds R,p ns ds R->ds.length+1=ps.length)
  (hbody:∀(f:Addr) (cdv:Ej) (A:F4) (outer:List Env) (s:El) (H:Hp) (E:XK),cz k (A.deeper (J3 x (ao st) s.heap.objs.size f cdv)) ->
   ∃ts t,VSs K (ju CX0 P w K mg base N x (ao st) f cdv A outer s H E).nox (bL st) ts t/\∀a ns ds es R,ds.length=j->p ns (ds++es) R->t { nx:=fun S'=>∃ns',S'[j]?=some (.pen (some a) ns')/\R .non ns',rt:=fun d S'=>∃ns',S'[j]?=some (.pen (some a) ns')/\R d ns' } (dD N.length a ns ds es)) :
  Has P w K mg base (k+1) x ps (spI K j p):=by
 refine S.has sc hb (fun vs H Q E zq1=>by
  obtain ⟨a,ws,us,ns,ds,es,R,e,hl,hp,r1,r2,h,_⟩:=zq1
  have:=len _ _ _ h
  rw [e,E7,F5,r1.length,r2.length]
  rw [E7] at this
  lia) fun f cdv A outer s H vs Q E hr zr1=>?_
 obtain ⟨a,ws,us,ns,ds,es,R,e,hl,hp,r1,r2,h,fin⟩:=zr1
 subst e
 obtain ⟨ts,t,vs',q⟩:=hbody f cdv A outer s H E hr
 have hdl:ds.length=j:=by rw [<- r1.length];exact hl
 subst hdl
 have hmut:∀{i:Nat} {s:Sl},(dD N.length a ns ds es)[i]?=some s->s.mut=true->i=ds.length/\s=.pen (some a) ns:=fun {i s} h m=>by
  rcases i7 h with rfl | ⟨d,rfl,_⟩ | h
  ·cases m
  ·cases m
  ·exact h
 have hpen:(start N (ws++.ref a::us))[ds.length]?=some (some (V.ref a)):=ig (by rw [<- hl];simp)
 have hmo:∀b,Mo (fun _=>False) (start N (ws++.ref a::us)) (dD N.length a ns ds es) b->b=a:=fun b z=>by
  rcases z with ⟨i,s,g1,g2,g3⟩ | z
  ·obtain ⟨rfl,_⟩:=hmut g1 g2
   rw [hpen] at g3;cases g3;rfl
  ·exact z.elim
 have hll:N.length-(ws.length+(us.length+1))=N.length-(ds.length+1+es.length):=by rw [r1.length,r2.length];lia
 have k0:OK K H (fun _=>False) (start N (ws++.ref a::us)) H (dD N.length a ns ds es):={
  len:=by simp [L2.start,dD,r1.length,r2.length];lia
  dom:=fun _ e=>e
  zl:=fun _ z=>z.elim
  nz:=fun _ _ _ _ _ _ z=>z
  inj:=fun i j a s t h1 h2 m1 m2 _ _=>by rw [(hmut h1 m1).1,(hmut h2 m2).1]
  at_:=fun i o s h1 h2=>by
   rcases i7 h2 with rfl | ⟨d,rfl,e,hi⟩ | ⟨rfl,rfl⟩
   ·trivial
   ·have rr:∃v,(ws++.ref a::us)[i]?=some v/\Rep K (·≠a) AnyF H v d:=by
     by_cases hi2:i < ds.length
     ·rw [EX hi2] at e
      obtain ⟨v,e1,e2⟩:=r1.getD e
      exact ⟨v,by rw [EX (by rw [r1.length];exact hi2)];exact e1,e2⟩
     ·rw [EK (by lia)] at e
      obtain ⟨j,hj⟩:∃j,i-ds.length=j+1:=⟨i-ds.length-1,by lia⟩
      rw [hj,FZ] at e
      obtain ⟨v,e1,e2⟩:=r2.getD e
      exact ⟨v,by rw [EK (by rw [r1.length];lia),r1.length,hj,FZ];exact e1,e2⟩
    obtain ⟨v,e1,e2⟩:=rr
    rw [ig e1] at h1
    cases h1
    exact ⟨v,rfl,e2.mono (fun b n _=>⟨fun z=>n (hmo b z),rfl⟩) fun _ x=>x⟩
   ·rw [hpen] at h1
    cases h1
    exact ⟨a,rfl,fun b z=>by cases z;rfl,hp⟩ }
 have st0:∀{σ' S' H'},Step (fun _=>False) (start N (ws++.ref a::us)) (dD N.length a ns ds es) H σ' S' H'->∀b,b≠a->H b≠none->H' b=H b:=fun st b n e=>(st.1 b (fun z=>n (hmo b z)) e).1
 have pn:∀{σ' S' H' ns'},OK K H (fun _=>False) σ' H' S'->S'[ds.length]?=some (.pen (some a) ns')->σ'[ds.length]?=some (some (V.ref a))/\H' a=some (.lst (ns'.map .int)):=fun k' e=>by
  obtain ⟨o,e1,b,rfl,e2,e3⟩:=k'.ownAt e
  obtain rfl:=e2 a rfl
  exact ⟨e1,e3⟩
 refine ⟨ts,vs'.ps,vs'.snd H _ _ H _ _ _ k0 (q a ns ds es R rfl h) ⟨fun σ' H' S' k' st zt1=>by obtain ⟨ns',e,q⟩:=zt1;exact fin .non ns' .non H' q (st0 st) (pn k' e).2 .non,fun σ' H' S' k' st q=>q.elim,fun σ' H' S' k' st q=>q.elim,fun v d σ' H' S' k' st rr ⟨ns',e,q⟩=>fin d ns' v H' q (st0 st) (pn k' e).2 (rr.mono (fun b n _=>⟨fun z=>?_,rfl⟩) fun _ x=>x)⟩⟩
 subst z
 exact n _ _ _ e (pn k' e).1
end
end VL
end
section
namespace VL
open PySem L2
mutual
def pd:D->PyData
 | .int i=>.int i
 | .bl b=>.bool b
 | .non=>.none
 | .str x=>.str x
 | .ty _=>.none
 | .dic _ _=>.none
 | .exc _=>.none
 | .oth _=>.none
 | .dib _ _=>.none
 | .tup ds=>.tuple (pds ds)
 | .lst ds=>.list (pds ds)
def pds:List D->List PyData
 | []=>[]
 | d::r=>pd d::pds r
end
mutual
def noTy:D->Bool
 | .ty _=>false
 | .dic _ _=>false
 | .exc _=>false
 | .oth _=>false
 | .dib _ _=>false
 | .tup ds=>ik ds
 | .lst ds=>ik ds
 | _=>true
def ik:List D->Bool
 | []=>true
 | d::r=>noTy d&&ik r
end
section
variable {K:Ed} {X:Cx} {pins:List (Addr×Obj)} {σ:St} {H:Hp} {s:El} {N:AP} {F:FP}
mutual
theorem bS (I:Inv X pins σ H s) (hK:X.K=K) {v:V} {d:D} {u:Ej}:Rep K N F H v d->noTy d=true->RelV v u->∃as,Reads s.heap u (pd d) as:=fun hh ee rr=>by
 cases hh with
 | int i=>have r:=rr;obtain ⟨t,rfl⟩:=r;exact ⟨_,.int i t⟩
 | bl b=>have r:=rr;cases r;exact ⟨_,.bool b⟩
 | non=>have r:=rr;cases r;exact ⟨_,.none⟩
 | str x=>have r:=rr;obtain ⟨t,rfl⟩:=r;exact ⟨_,.str x t⟩
 | ty x=>have e:=ee;cases e
 | dic n f h _ _ rs=>have e:=ee;simp [noTy] at e
 | exc n h _=>have e:=ee;simp [noTy] at e
 | oth h=>have e:=ee;simp [noTy] at e
 | dib n f h _ _ _ rs=>have e:=ee;simp [noTy] at e
 | tup n h rs=>
  have e:=ee
  have r:=rr
  cases r
  obtain ⟨its,rv,⟨o,ho,hc,n,hd⟩,_⟩:=I.tuple (xs:=_) (.inl h)
  obtain ⟨as,ra⟩:=b9 I hK rs (by simpa [noTy] using e) rv
  exact ⟨as,.tuple ho hc hd (by simpa using ra)⟩
 | tupK h rs=>
  have e:=ee
  have r:=rr
  cases r
  obtain ⟨its,rv,⟨o,ho,hc,n,hd⟩,_⟩:=I.tuple (xs:=_) (by rw [hK];exact fw h)
  obtain ⟨as,ra⟩:=b9 I hK rs (by simpa [noTy] using e) rv
  exact ⟨as,.tuple ho hc hd (by simpa using ra)⟩
 | lst n f h rs=>
  have e:=ee
  have r:=rr
  cases r
  obtain ⟨its,rv,pl,_⟩:=I.list (xs:=_) (.inl (.inl h))
  obtain ⟨o,ho,hc,n,hd⟩:=pl.isList
  obtain ⟨as,ra⟩:=b9 I hK rs (by simpa [noTy] using e) rv
  exact ⟨_,.list ho hc hd (by simpa using ra)⟩
 | lstF n f h rs=>
  have e:=ee
  have r:=rr
  cases r
  obtain ⟨its,rv,pl,_⟩:=I.list (xs:=_) (.inl (.inr ⟨_,h⟩))
  obtain ⟨o,ho,hc,n,hd⟩:=pl.isList
  obtain ⟨as,ra⟩:=b9 I hK rs (by simpa [noTy] using e) rv
  exact ⟨_,.list ho hc hd (by simpa using ra)⟩
 | lstK f h rs=>
  have e:=ee
  have r:=rr
  cases r
  obtain ⟨its,rv,pl,_⟩:=I.list (xs:=_) (by rw [hK];exact gW h)
  obtain ⟨o,ho,hc,n,hd⟩:=pl.isList
  obtain ⟨as,ra⟩:=b9 I hK rs (by simpa [noTy] using e) rv
  exact ⟨_,.list ho hc hd (by simpa using ra)⟩
theorem b9 (I:Inv X pins σ H s) (hK:X.K=K) {vs:List V} {ds:List D} {us:List Ej}:Reps K N F H vs ds->ik ds=true->Vals vs us->∃as,ReadsAll s.heap us (pds ds) as:=fun hh ee rr=>by
 cases hh with
 | nil=>have r:=rr;cases r;exact ⟨_,.nil⟩
 | cons h t=>
  have e:=ee
  have r:=rr
  simp only [ik,Fe] at e
  cases r with
  | cons r1 r2=>
   obtain ⟨as,ra⟩:=bS I hK h e.1 r1
   obtain ⟨bs,rb⟩:=b9 I hK t e.2 r2
   exact ⟨_,.cons ra rb⟩
end
end
structure Okd (d:D):Prop where
 ty:noTy d=true
 lay:(pd d).canLay0=true
 dep:(pd d).depth<=40
def zj (K:Ed) (neg:Bool):R2:=fun x y H Q=>∃d1 d2,Rep K Any AnyF H x d1/\Rep K Any AnyF H y d2/\Okd d1/\Okd d2/\Q (.bl (if neg then !PyData.eqv (pd d1) (pd d2) else Gs (pd d1) (pd d2))) H
def zk (neg:Bool):D->D->(D->Prop)->Prop:=fun d1 d2 q=>Okd d1/\Okd d2/\q (.bl (if neg then !PyData.eqv (pd d1) (pd d2) else Gs (pd d1) (pd d2)))
def B0 (K:Ed) (neg:Bool):R2:=fun x y H Q=>∃d ds,Rep K Any AnyF H x d/\(Rep K Any AnyF H y (.lst ds)\/Rep K Any AnyF H y (.tup ds))/\Okd d/\Okd (.lst ds)/\Q (.bl (if neg then !(pds ds).any (fun y=>Gs y (pd d)) else (pds ds).any (fun y=>Gs y (pd d)))) H
def B1 (neg:Bool):D->D->(D->Prop)->Prop:=fun d d2 q=>∃ds,(d2=.lst ds\/d2=.tup ds)/\Okd d/\Okd (.lst ds)/\q (.bl (if neg then !(pds ds).any (fun y=>Gs y (pd d)) else (pds ds).any (fun y=>Gs y (pd d))))
section
variable {K:Ed} {X:Cx}
theorem zm (hK:X.K=K) (hu:X.A.units+64 < Ji):OpR X (FU .Eq) (zj K false):=by
 rintro pins s σ H x y v u Q I rx ry ⟨d1,d2,r1,r2,o1,o2,q⟩
 obtain ⟨as,ra⟩:=bS I hK r1 o1.ty rx
 obtain ⟨bs,rb⟩:=bS I hK r2 o2.ty ry
 exact SeqAt.compareEq_reads ra rb o1.lay o2.lay (by have:=o1.dep;lia) ⟨.bl _,H,I,rfl,q⟩
theorem zo (hK:X.K=K) (hu:X.A.units+64 < Ji):OpR X (FU .NotEq) (zj K true):=by
 rintro pins s σ H x y v u Q I rx ry ⟨d1,d2,r1,r2,o1,o2,q⟩
 obtain ⟨as,ra⟩:=bS I hK r1 o1.ty rx
 obtain ⟨bs,rb⟩:=bS I hK r2 o2.ty ry
 exact SeqAt.compareNe_reads ra rb o1.lay o2.lay (by have:=o1.dep;lia) ⟨.bl _,H,I,rfl,q⟩
theorem oO (o:Okd (.lst ds)):IS (pds ds)=true/\Ih (pds ds)<=40/\noTy (.tup ds)=true:=by
 refine ⟨by simpa [pd,JW] using o.lay,?_,by simpa [noTy] using o.ty⟩
 have:=o.dep
 simp only [pd,KJ] at this
 lia
theorem ml (hK:X.K=K) (hu:X.A.units+64 < Ji):OpR X (FU .In) (B0 K false):=by
 rintro pins s σ H x y v u Q I rx ry ⟨d,ds,r1,r2,o1,o2,q⟩
 obtain ⟨as,ra⟩:=bS I hK r1 o1.ty rx
 obtain ⟨h1,h2,h3⟩:=oO o2
 rcases r2 with r2 | r2
 ·obtain ⟨bs,rb⟩:=bS I hK r2 o2.ty ry
  exact SeqAt.in_list_reads (by simpa [pd] using rb) ra h1 o1.lay (by lia) ⟨.bl _,H,I,rfl,q⟩
 ·obtain ⟨bs,rb⟩:=bS I hK r2 h3 ry
  exact SeqAt.in_tuple_reads (by simpa [pd] using rb) ra h1 o1.lay (by lia) ⟨.bl _,H,I,rfl,q⟩
theorem xp {neg:Bool}:cG K (zj K neg) (zk neg):=fun x y H d1 d2 q C r1 r2 zt1 hc=>by obtain ⟨o1,o2,h⟩:=zt1;exact ⟨d1,d2,r1,r2,o1,o2,hc _ _ h fun _ _=>.bl _⟩
theorem qB {neg:Bool}:cG K (B0 K neg) (B1 neg):=fun x y H d1 d2 q C r1 r2 zt1 hc=>by obtain ⟨ds,e,o1,o2,h⟩:=zt1;exact ⟨d1,ds,r1,e.imp (fun e=>by rw [<- e];exact r2) (fun e=>by rw [<- e];exact r2),o1,o2,hc _ _ h fun _ _=>.bl _⟩
end
theorem cT {α:Type} (f:α->D):∀l:List α,pds (l.map f)=l.map fun x=>pd (f x)
 | []=>rfl
 | _::r=>by simp [pds,cT f r]
theorem fS {α:Type} {f:α->D} (h:∀x,noTy (f x)=true):∀l:List α,ik (l.map f)=true
 | []=>rfl
 | _::r=>by simp [ik,h,fS h r]
theorem il {α:Type} {f:α->PyData} (h:∀x,(f x).canLay0=true):∀l:List α,IS (l.map f)=true
 | []=>rfl
 | _::r=>by simp [IS,h,il h r]
theorem ip {α:Type} {f:α->PyData} {n:Nat} (h:∀x,(f x).depth<=n):∀l:List α,Ih (l.map f)<=n
 | []=>by simp [Ih]
 | x::r=>by simp only [EB,Ih];exact Nat.max_le.mpr ⟨h x,ip h r⟩
structure Enc {α:Type} (n:Nat) (f:α->D):Prop where
 ty:∀x,noTy (f x)=true
 lay:∀x,(pd (f x)).canLay0=true
 dep:∀x,(pd (f x)).depth<=n
 eq:∀x y,Gs (pd (f x)) (pd (f y))=true↔x=y
theorem e9 {α:Type} {f:α->PyData} (h:∀x y,Gs (f x) (f y)=true↔x=y):∀l m:List α,HS (l.map f) (m.map f)=true↔l=m
 | [],[]=>by simp [HS]
 | [],_::_=>by simp [HS]
 | _::_,[]=>by simp [HS]
 | x::r,y::t=>by simp [HS,h,e9 h r t]
theorem fB:Enc 0 D.int:=⟨fun _=>rfl,fun _=>rfl,fun _=>Ek _,fun x y=>by simp [pd,Gs]⟩
theorem Enc.tup {α:Type} {n:Nat} {f:α->D} (e:Enc n f):Enc (n+1) (fun l:List α=>D.tup (l.map f)) where
 ty:=fun l=>by simp only [noTy];exact fS e.ty l
 lay:=fun l=>by simp only [pd,JW,cT];exact il e.lay l
 dep:=fun l=>by simp only [pd,KJ,cT];exact Nat.succ_le_succ (ip e.dep l)
 eq:=fun l m=>by simp only [pd,Gs,cT];exact e9 e.eq l m
theorem Enc.lst {α:Type} {n:Nat} {f:α->D} (e:Enc n f):Enc (n+1) (fun l:List α=>D.lst (l.map f)) where
 ty:=fun l=>by simp only [noTy];exact fS e.ty l
 lay:=fun l=>by simp only [pd,JW,cT];exact il e.lay l
 dep:=fun l=>by simp only [pd,KJ,cT];exact Nat.succ_le_succ (ip e.dep l)
 eq:=fun l m=>by simp only [pd,Gs,cT];exact e9 e.eq l m
theorem mm:Enc 1 eT:=fB.tup
theorem zp:Enc 2 eL:=mm.lst
theorem Enc.okd {α:Type} {n:Nat} {f:α->D} (e:Enc n f) (hn:n<=40) (x:α):Okd (f x):=⟨e.ty x,e.lay x,Fz (e.dep x) hn⟩
theorem Enc.eqv {α:Type} [DecidableEq α] {n:Nat} {f:α->D} (e:Enc n f) (x y:α):Gs (pd (f x)) (pd (f y))=decide (x=y):=by
 rw [GF,e.eq,decide_eq_true_iff]
theorem Enc.any {α:Type} [DecidableEq α] {n:Nat} {f:α->D} (e:Enc n f) (x:α) (l:List α):(pds (l.map f)).any (fun y=>Gs y (pd (f x)))=decide (x∈l):=by
 rw [cT,List.any_map]
 induction l with
 | nil=>simp
 | cons a r ih=>
  rw [List.any_cons,ih]
  simp only [Hm,e.eqv]
  rw [GF]
  simp only [Bool.or_eq_true,decide_eq_true_eq,Hn]
  exact ⟨fun z=>z.elim (fun z=>.inl z.symm) .inr,fun z=>z.elim (fun z=>.inl z.symm) .inr⟩
theorem B4 {α:Type} [DecidableEq α] {n:Nat} {f:α->D} (e:Enc n f) {x y:α} (h:q (.bl (decide (x=y)))) (hn:n<=40:=by decide):zk false (f x) (f y) q:=⟨e.okd hn x,e.okd hn y,by simpa [e.eqv] using h⟩
end VL
namespace VL
open PySem L2
section
variable {K:Ed} {X:Cx}
theorem iq (hK:X.K=K):b6 X (.builtin "len") (fun xs H Q=>∃p ys,xs=[.ref p]/\(SqL K H p ys\/SqT K H p ys)/\Q (.int ys.length) H):=by subst hK;exact jx
theorem nk (hK:X.K=K):b6 X (.builtin "isinstance") (y0 K):=by subst hK;exact qg
theorem eJ:Fk "sorted"=some (.builtin "sorted"):=by decide +kernel
theorem zr:Fk "max"=some (.builtin "max"):=by decide +kernel
theorem zt:Fk "min"=some (.builtin "min"):=by decide +kernel
theorem zu:Fk "all"=some (.builtin "all"):=by decide +kernel
end
end VL
end
section
namespace VL
open PySem L2
section
variable {S S1:List Sl} {Q:VR->List Sl->Prop} {QT:Bool->List Sl->Prop} {QN:List D->List Sl->Prop} {QA:List VR->List Sl->Prop} {W:bz} {va vb:VT} {vr:VTA} {vt vu:VTT} {vn:VTN} {s t:VTS} {g:VG}
def B5 (u:VTS) (W:bz):List Sl->Prop:=fun S'=>∃S'',Wk S' S''/\u W S''
theorem B6 {u:VTS} (h:t ⟨B5 u W,W.rt,W.bk,W.ct⟩ S):BO t u W S:=h
theorem zv {u:VTS} (h:u W S):B5 u W S:=⟨S,Wk.refl S,h⟩
def B7 (g:VG) (W:bz):VR->List Sl->Prop:=fun r S1=>∃d,r=.d d/\g d S1 W.nx
theorem B8 (h:va S (B7 g W)):mj va g W S:=h
theorem zw (h:g d S W.nx):B7 g W (.d d) S:=⟨d,rfl,h⟩
theorem DZ {i:Nat} {q:List Sl->Prop} (e:J4 (i+1) S.length=true) (h:q (S.set i (.val d))):vgN i d S q:=⟨Fb e,h⟩
theorem D0 {n:Nat} {u:List D->List Sl->(List Sl->Prop)->Prop} {q:List Sl->Prop} (e:ds.length=n) (h:u ds S q):vgT n u (.tup ds) S q:=⟨ds,rfl,e,h⟩
theorem zx {q:List Sl->Prop} (h:q S):xm [] S q:=⟨rfl,h⟩
theorem uh {r:List D} {u:List D->List Sl->(List Sl->Prop)->Prop} {q:List Sl->Prop} (h:g d S fun S1=>u r S1 q):qq g u (d::r) S q:=⟨d,r,rfl,h⟩
def xq (i:Nat) (W:bz):List D->List Sl->Prop:=fun ds S1=>i < S1.length/\W.nx (S1.set i (.own ds))
theorem zy {i:Nat} (h:vn S (xq i W)):qr i vn W S:=h
theorem ui {i:Nat} (e:J4 (i+1) S.length=true) (h:W.nx (S.set i (.own ds))):xq i W ds S:=⟨Fb e,h⟩
def xr (i:Nat) (W:bz):List D->List Sl->Prop:=fun ds S1=>∃ns:List Int,ds=ns.map .int/\i < S1.length/\W.nx (S1.set i (.pen none ns))
theorem zz {i:Nat} (h:vn S (xr i W)):xn i vn W S:=h
theorem jH {i:Nat} (e:J4 (i+1) S.length=true) (h:W.nx (S.set i (.pen none ns))):xr i W (ns.map .int) S:=⟨ns,rfl,Fb e,h⟩
def B9 (W:bz):VR->List Sl->Prop:=fun r S1=>∃d,retD S1 r=some d/\W.rt d S1
theorem Ca (h:va S (B9 W)):BP va W S:=h
theorem zA (e:retD S r=some d) (h:W.rt d S):B9 W r S:=⟨d,e,h⟩
def kIf (t u:VTS) (W:bz):Bool->List Sl->Prop:=fun b S1=>if b=true then t W S1 else u W S1
theorem Cb {u:VTS} (h:vt S (kIf t u W)):BQ vt t u W S:=h
theorem xt {u:VTS} {b:Bool} (h1:b=true->t W S) (h2:b=false->u W S):kIf t u W b S:=by
 cases b with
 | true=>show (if true=true then _ else _);rw [if_pos rfl];exact h1 rfl
 | false=>show (if false=true then _ else _);rw [if_neg Er];exact h2 rfl
theorem qC {u:VTS} (h:t W S):kIf t u W true S:=by show (if true=true then _ else _);rw [if_pos rfl];exact h
theorem qD {u:VTS} (h:u W S):kIf t u W false S:=by show (if false=true then _ else _);rw [if_neg Er];exact h
theorem cq {u:VTS} {p:Prop} [Decidable p] (h1:p->t W S) (h2:¬p->u W S):kIf t u W (decide p) S:=xt (fun e=>h1 (of_decide_eq_true e)) (fun e=>h2 (of_decide_eq_false e))
def xu (W:bz):VR->List Sl->Prop:=fun _ S1=>W.nx S1
theorem zB (h:va S (xu W)):xl va W S:=h
theorem uj (h:W.nx S):xu W r S:=h
theorem zC (h:W.nx S):xk W S:=h
theorem j_c (h:Q (.d d) S):vC d S Q:=h
theorem kS {i:Nat} (e:rdO i S[i]?=some r) (h:Q r S):y8 i S Q:=⟨r,e,h⟩
def qE (Q:VR->List Sl->Prop):VR->List Sl->Prop:=fun r S'=>(match r with | .d d=>flat d=true | .own _=>True)/\Q r S'
theorem zD (h:va S (qE Q)):xf va S Q:=h
theorem uk (e:flat d=true) (h:Q (.d d) S):qE Q (.d d) S:=⟨e,h⟩
theorem qF {i:Nat} (h:Q (.own i) S):qE Q (.own i) S:=⟨trivial,h⟩
def k2a (w:D->D->(D->Prop)->Prop) (vb:VT) (Q:VR->List Sl->Prop):VR->List Sl->Prop:=fun ra S1=>vb S1 fun rb S2=>∃d1 d2,get S2 ra=some d1/\get S2 rb=some d2/\w d1 d2 fun d=>Q (.d d) S2
def k2b (w:D->D->(D->Prop)->Prop) (Q:VR->List Sl->Prop) (ra:VR):VR->List Sl->Prop:=fun rb S2=>∃d1 d2,get S2 ra=some d1/\get S2 rb=some d2/\w d1 d2 fun d=>Q (.d d) S2
theorem j_2 {w:D->D->(D->Prop)->Prop} (h:va S (k2a w vb Q)):v2 w va vb S Q:=h
theorem D1 {w:D->D->(D->Prop)->Prop} {ra:VR} (h:vb S (k2b w Q ra)):k2a w vb Q ra S:=h
theorem D2 {w:D->D->(D->Prop)->Prop} {ra rb:VR} {d1 d2:D} (e1:get S ra=some d1) (e2:get S rb=some d2) (h:w d1 d2 fun d=>Q (.d d) S):k2b w Q ra rb S:=⟨d1,d2,e1,e2,h⟩
theorem Cd {f:Int->Int->L2.V} {i j:Int} (h:q (ofV (f i j))):wI0 f (.int i) (.int j) q:=⟨i,j,rfl,rfl,h⟩
theorem Ce {C:Int->Int->Prop} {f:Int->Int->L2.V} {i j:Int} (c:C i j) (h:q (ofV (f i j))):wI C f (.int i) (.int j) q:=⟨i,j,rfl,rfl,c,h⟩
def Cf (vb:VT) (Q:VR->List Sl->Prop):VR->List Sl->Prop:=fun ra S1=>vb S1 fun rb S2=>∃ds i d,(get S2 ra=some (.lst ds)\/get S2 ra=some (.tup ds))/\get S2 rb=some (.int i)/\atI ds i=some d/\Q (.d d) S2
def zE (Q:VR->List Sl->Prop) (ra:VR):VR->List Sl->Prop:=fun rb S2=>∃ds i d,(get S2 ra=some (.lst ds)\/get S2 ra=some (.tup ds))/\get S2 rb=some (.int i)/\atI ds i=some d/\Q (.d d) S2
theorem D3 (h:va S (Cf vb Q)):vIx va vb S Q:=h
theorem Cg {ra:VR} (h:vb S (zE Q ra)):Cf vb Q ra S:=h
theorem fC {ra rb:VR} {i:Int} (e1:get S ra=some (.lst ds)) (e2:get S rb=some (.int i)) (e3:atI ds i=some d) (h:Q (.d d) S):zE Q ra rb S:=⟨ds,i,d,.inl e1,e2,e3,h⟩
theorem Ci {ra rb:VR} {i:Int} (e1:get S ra=some (.tup ds)) (e2:get S rb=some (.int i)) (e3:atI ds i=some d) (h:Q (.d d) S):zE Q ra rb S:=⟨ds,i,d,.inr e1,e2,e3,h⟩
def kUn (f:Int->L2.V) (Q:VR->List Sl->Prop):VR->List Sl->Prop:=fun r S1=>∃i,get S1 r=some (.int i)/\Q (.d (ofV (f i))) S1
theorem D4 {f:Int->L2.V} (h:va S (kUn f Q)):vUn f va S Q:=h
theorem Cj {f:Int->L2.V} {i:Int} (e:get S r=some (.int i)) (h:Q (.d (ofV (f i))) S):kUn f Q r S:=⟨i,e,h⟩
def xw (QT:Bool->List Sl->Prop):VR->List Sl->Prop:=fun r S'=>∃k,r=.d (.bl k)/\QT k S'
theorem zF (h:va S (xw QT)):kK va S QT:=h
theorem um {k:Bool} (h:QT k S):xw QT (.d (.bl k)) S:=⟨k,rfl,h⟩
def kU (u:VTT) (QT:Bool->List Sl->Prop):Bool->List Sl->Prop:=fun c S1=>if c=true then u S1 QT else QT false S1
def kOr (u:VTT) (QT:Bool->List Sl->Prop):Bool->List Sl->Prop:=fun c S1=>if c=true then QT true S1 else u S1 QT
def Ck (QT:Bool->List Sl->Prop):Bool->List Sl->Prop:=fun c S1=>QT (!c) S1
theorem Cm (h:vt S (kU vu QT)):BD vt vu S QT:=h
theorem D5 (h:vt S (kOr vu QT)):vOr vt vu S QT:=h
theorem Co (h:vt S (Ck QT)):BE vt S QT:=h
theorem zG {b:Bool} (h:QT (!b) S):Ck QT b S:=h
theorem qG {b:Bool} (h1:b=true->vu S QT) (h2:b=false->QT false S):kU vu QT b S:=by
 cases b with
 | true=>show (if true=true then _ else _);rw [if_pos rfl];exact h1 rfl
 | false=>show (if false=true then _ else _);rw [if_neg Er];exact h2 rfl
theorem xy {b:Bool} (h1:b=true->QT true S) (h2:b=false->vu S QT):kOr vu QT b S:=by
 cases b with
 | true=>show (if true=true then _ else _);rw [if_pos rfl];exact h1 rfl
 | false=>show (if false=true then _ else _);rw [if_neg Er];exact h2 rfl
theorem qH (h:vu S QT):kOr vu QT false S:=xy (fun e=>nomatch e) fun _=>h
theorem qI (h:QT true S):kOr vu QT true S:=xy (fun _=>h) fun e=>nomatch e
theorem nq (h:vu S QT):kU vu QT true S:=qG (fun _=>h) fun e=>nomatch e
theorem nt (h:QT false S):kU vu QT false S:=qG (fun e=>nomatch e) fun _=>h
def nu (vb:VT) (Q:VR->List Sl->Prop):VR->List Sl->Prop:=fun r S1=>∃c,r=.d (.bl c)/\if c=true then vb S1 Q else Q (.d (.bl false)) S1
def xA (Q:VR->List Sl->Prop):VR->List Sl->Prop:=fun r S1=>∃c,r=.d (.bl c)/\Q (.d (.bl (!c))) S1
theorem zH (h:va S (nu vb Q)):xg va vb S Q:=h
theorem zI (h:va S (xA Q)):xh va S Q:=h
theorem uo {c:Bool} (h:Q (.d (.bl (!c))) S):xA Q (.d (.bl c)) S:=⟨c,rfl,h⟩
theorem nv {c:Bool} (h1:c=true->vb S Q) (h2:c=false->Q (.d (.bl false)) S):nu vb Q (.d (.bl c)) S:=⟨c,rfl,by
 cases c with
 | true=>rw [if_pos rfl];exact h1 rfl
 | false=>rw [if_neg Er];exact h2 rfl⟩
def uq (va vb:VT) (Q:VR->List Sl->Prop):Bool->List Sl->Prop:=fun c S1=>if c=true then va S1 Q else vb S1 Q
theorem Cp (h:vt S (uq va vb Q)):vIf vt va vb S Q:=h
theorem mn {b:Bool} (h1:b=true->va S Q) (h2:b=false->vb S Q):uq va vb Q b S:=by
 cases b with
 | true=>show (if true=true then _ else _);rw [if_pos rfl];exact h1 rfl
 | false=>show (if false=true then _ else _);rw [if_neg Er];exact h2 rfl
theorem Cq (h:QA [] S):BF S QA:=h
def qJ (vr:VTA) (QA:List VR->List Sl->Prop):VR->List Sl->Prop:=fun r S1=>vr S1 fun rs S2=>QA (r::rs) S2
theorem zJ (h:va S (qJ vr QA)):xi va vr S QA:=h
theorem ur (h:vr S fun rs S2=>QA (r::rs) S2):qJ vr QA r S:=h
def lX (Q:VR->List Sl->Prop):List VR->List Sl->Prop:=fun rs S1=>∃ds,allD rs=some ds/\ds.length<=1000/\Q (.d (.tup ds)) S1
theorem Cr (h:vr S (lX Q)):BG vr S Q:=h
theorem zK (e:allD rs=some ds) (e2:J4 ds.length 1000=true) (h:Q (.d (.tup ds)) S):lX Q rs S:=⟨ds,e,Fb e2,h⟩
def Cs (QN:List D->List Sl->Prop):List VR->List Sl->Prop:=fun rs S1=>∃ds,allD rs=some ds/\ds.length<=1000/\QN ds S1
theorem Ct (h:vr S (Cs QN)):BH vr S QN:=h
theorem zL (e:allD rs=some ds) (e2:J4 ds.length 1000=true) (h:QN ds S):Cs QN rs S:=⟨ds,e,Fb e2,h⟩
def Cu (Q:VR->List Sl->Prop):List D->List Sl->Prop:=fun ds S1=>Q (.d (.lst ds)) S1
theorem Cv (h:vn S (Cu Q)):ql vn S Q:=h
theorem zM (h:Q (.d (.lst ds)) S):Cu Q ds S:=h
def kCB (w:List D->(D->Prop)->Prop) (Q:VR->List Sl->Prop):List VR->List Sl->Prop:=fun rs S1=>∃ds,gets S1 rs=some ds/\w ds fun d=>Q (.d d) S1
theorem D6 {w:List D->(D->Prop)->Prop} (h:vr S (kCB w Q)):vCB w vr S Q:=h
theorem Cw {w:List D->(D->Prop)->Prop} (e:gets S rs=some ds) (h:w ds fun d=>Q (.d d) S):kCB w Q rs S:=⟨ds,e,h⟩
theorem zN {es:List D} (h:q (.int es.length)):zb [.lst es] q:=⟨es,.inl rfl,h⟩
theorem zO {es:List D} (h:q (.int es.length)):zb [.tup es] q:=⟨es,.inr rfl,h⟩
theorem D7 {f:Int->Int->Int} {i j:Int} (h:q (.int (f i j))):wMM f [.int i,.int j] q:=⟨i,j,rfl,h⟩
theorem D8 (h:vr S (kCB p Q)):vFn p vr S Q:=h
def Cy (p:List D->(D->Prop)->Prop) (QN:List D->List Sl->Prop):List VR->List Sl->Prop:=fun rs S1=>∃ds,gets S1 rs=some ds/\p ds fun d=>∃es,d=.lst es/\flats es=true/\QN es S1
theorem Cz (h:vr S (Cy p QN)):BN p vr S QN:=h
theorem zP (e:gets S rs=some ds) (h:p ds fun d=>∃es,d=.lst es/\flats es=true/\QN es S):Cy p QN rs S:=⟨ds,e,h⟩
def CA (j:Nat) (p:List Int->List D->(D->List Int->Prop)->Prop) (Q:VR->List Sl->Prop):List VR->List Sl->Prop:=fun rs S1=>∃i rs' ad ns ds,pick rs j=some (i,rs')/\S1[i]?=some (.pen ad ns)/\allD rs'=some ds/\p ns ds fun d ns'=>Q (.d d) (S1.set i (.pen ad ns'))
theorem CB {j:Nat} {p:List Int->List D->(D->List Int->Prop)->Prop} (h:vr S (CA j p Q)):BU j p vr S Q:=h
theorem zQ {j:Nat} {p:List Int->List D->(D->List Int->Prop)->Prop} {rs rs':List VR} {i:Nat} {ad:Option Addr} (e1:pick rs j=some (i,rs')) (e2:S[i]?=some (.pen ad ns)) (e3:allD rs'=some ds) (h:p ns ds fun d ns'=>Q (.d d) (S.set i (.pen ad ns'))):CA j p Q rs S:=⟨i,rs',ad,ns,ds,e1,e2,e3,h⟩
def jI (QN:List D->List Sl->Prop):List VR->List Sl->Prop:=fun rs S1=>∃r ds,rs=[r]/\(get S1 r=some (.lst ds)\/get S1 r=some (.tup ds))/\flats ds=true/\QN ds S1
theorem qK (h:vr S (jI QN)):m9 vr S QN:=h
theorem qL (e:get S r=some (.lst ds)) (f:flats ds=true) (h:QN ds S):jI QN [r] S:=⟨r,ds,rfl,.inl e,f,h⟩
theorem qM (e:get S r=some (.tup ds)) (f:flats ds=true) (h:QN ds S):jI QN [r] S:=⟨r,ds,rfl,.inr e,f,h⟩
def qN (Q:VR->List Sl->Prop):List VR->List Sl->Prop:=fun rs S1=>∃r ds,rs=[r]/\(get S1 r=some (.lst ds)\/r=.d (.tup ds))/\flats ds=true/\Q (.d (.tup ds)) S1
theorem uu (h:vr S (qN Q)):qm vr S Q:=h
theorem ny (e:get S r=some (.lst ds)) (f:flats ds=true) (h:Q (.d (.tup ds)) S):qN Q [r] S:=⟨r,ds,rfl,.inl e,f,h⟩
def CC (i:Nat) (Q:VR->List Sl->Prop):VR->List Sl->Prop:=fun r S1=>∃d ds,r=.d d/\S1[i]?=some (.own ds)/\ds.length<=1000000/\Q (.d .non) (S1.set i (.own (ds++[d])))
theorem CD {i:Nat} (e:S[i]?=some (.own ds)) (h:va S (CC i Q)):zg i va S Q:=⟨⟨ds,e⟩,h⟩
theorem mq {i:Nat} (e:S[i]?=some (.own ds)) (e2:ds.length<=1000000) (h:Q (.d .non) (S.set i (.own (ds++[d])))):CC i Q (.d d) S:=⟨d,ds,rfl,e,e2,h⟩
def nA (i:Nat) (vi:VT) (W:bz):VR->List Sl->Prop:=fun r S1=>(∃s,S1[i]?=some s/\s.mut=true)/\vi S1 fun ri S2=>∃j,get S2 ri=some (.int j) /\
  ((∃ad ns k n,S2[i]?=some (.pen ad ns)/\ixN ns.length j=some k/\r=.d (.int n)/\W.nx (S2.set i (.pen ad (ns.set k n)))) \/
   (∃ds k d,S2[i]?=some (.own ds)/\ixN ds.length j=some k/\r=.d d/\W.nx (S2.set i (.own (ds.set k d)))))
def nB (i:Nat) (W:bz) (r:VR):VR->List Sl->Prop:=fun ri S2=>∃j,get S2 ri=some (.int j) /\
  ((∃ad ns k n,S2[i]?=some (.pen ad ns)/\ixN ns.length j=some k/\r=.d (.int n)/\W.nx (S2.set i (.pen ad (ns.set k n)))) \/
   (∃ds k d,S2[i]?=some (.own ds)/\ixN ds.length j=some k/\r=.d d/\W.nx (S2.set i (.own (ds.set k d)))))
theorem uv {i:Nat} (h:va S (nA i vb W)):qt i va vb W S:=h
theorem qO {i:Nat} {s:Sl} (e:S[i]?=some s) (m:s.mut=true) (h:vb S (nB i W r)):nA i vb W r S:=⟨⟨s,e,m⟩,h⟩
theorem oP {i:Nat} {ri:VR} {j n:Int} {ad:Option Addr} {k:Nat} (e1:get S ri=some (.int j)) (e2:S[i]?=some (.pen ad ns)) (e3:ixN ns.length j=some k) (h:W.nx (S.set i (.pen ad (ns.set k n)))):nB i W (.d (.int n)) ri S:=⟨j,e1,.inl ⟨ad,ns,k,n,e2,e3,rfl,h⟩⟩
def kFor (g:VG) (b:VTS) (W:bz):List D->List Sl->Prop:=fun ds S1=>runFor g b W ds S1\/∃Iv:Nat->List Sl->Prop,Iv 0 S1/\(∀i d S2,ds[i]?=some d->Iv i S2->g d S2 fun S3=>b { W with nx:=Iv (i+1),ct:=Iv (i+1),bk:=W.nx } S3)/\∀S2,Iv ds.length S2->W.nx S2
theorem CF {b:VTS} (h:vn S (kFor g b W)):BZ vn g b W S:=h
theorem cX {b:VTS} (Iv:Nat->List Sl->Prop) (h0:Iv 0 S) (h1:∀i d S2,ds[i]?=some d->Iv i S2->g d S2 fun S3=>b ⟨Iv (i+1),W.rt,W.nx,Iv (i+1)⟩ S3) (h2:∀S2,Iv ds.length S2->W.nx S2):kFor g b W ds S:=.inr ⟨Iv,h0,h1,h2⟩
theorem eK {b:VTS} {lo:Int} {n:Nat} (Iv:Nat->List Sl->Prop) (h0:Iv 0 S) (h1:∀i S2,i < n->Iv i S2->g (.int (lo+(i:Int))) S2 fun S3=>b ⟨Iv (i+1),W.rt,W.nx,Iv (i+1)⟩ S3) (h2:∀S2,Iv n S2->W.nx S2):kFor g b W (rg lo n) S:=
 .inr ⟨Iv,h0,fun i d S2 e p=>by
  have hi:i < n:=by have:=(List.getElem?_eq_some_iff.mp e).1;rwa [fQ] at this
  rw [qu hi] at e
  cases e
  exact h1 i S2 hi p,fun S2 p=>h2 S2 (by rwa [fQ] at p)⟩
def CG (QN:List D->List Sl->Prop):VR->List Sl->Prop:=fun r S1=>∃ds,r=.d (.lst ds)/\QN ds S1
def CH (QN:List D->List Sl->Prop):VR->List Sl->Prop:=fun r S1=>∃ds,r=.d (.tup ds)/\QN ds S1
theorem CI (h:va S (CG QN)):BV va S QN:=h
theorem CJ (h:va S (CH QN)):BW va S QN:=h
theorem zR (h:QN ds S):CG QN (.d (.lst ds)) S:=⟨ds,rfl,h⟩
theorem zS (h:QN ds S):CH QN (.d (.tup ds)) S:=⟨ds,rfl,h⟩
def CK (QN:List D->List Sl->Prop):List VR->List Sl->Prop:=fun rs S1=>∃j:Int,rs=[.d (.int j)]/\-(2 ^ 62)<=j/\j < 2 ^ 62/\QN (rg 0 j.toNat) S1
def CL (QN:List D->List Sl->Prop):List VR->List Sl->Prop:=fun rs S1=>∃i j:Int,rs=[.d (.int i),.d (.int j)]/\(-(2 ^ 62)<=i/\i < 2 ^ 62/\-(2 ^ 62)<=j/\j < 2 ^ 62)/\QN (rg i (j-i).toNat) S1
theorem CM (h:vr S (CK QN)):BX vr S QN:=h
theorem CN (h:vr S (CL QN)):BY vr S QN:=h
theorem qP {j:Int} (h1:0<=j/\j < 1000000) (h:QN (rg 0 j.toNat) S):CK QN [.d (.int j)] S:=⟨j,rfl,by lia,by lia,h⟩
theorem zT {i j:Int} (h1:-1000000<=i/\i < 1000000/\-1000000<=j/\j < 1000000) (h:QN (rg i (j-i).toNat) S):CL QN [.d (.int i),.d (.int j)] S:=⟨i,j,rfl,⟨by lia,by lia,by lia,by lia⟩,h⟩
def kW (n:Nat) (ix:List Nat) (g:VG) (vt:VTT) (ve:VT) (QN:List D->List Sl->Prop):List D->List Sl->Prop:=fun ds S1=>ds.length<=1000000/\∃Iv:Nat->List D->List Sl->Prop,Iv 0 [] S1 /\
 (∀i d ys S2,ds[i]?=some d->Iv i ys S2->g d (aV n ix S2) fun S3=>vt S3 fun b S4=>if b=true then ve S4 fun r S5=>∃x,r=.d x/\Iv (i+1) (ys++[x]) (backS n ix S2 S5) else Iv (i+1) ys (backS n ix S2 S4)) /\
 ∀ys S2,Iv ds.length ys S2->QN ys S2
theorem zU {n:Nat} {ve:VT} (h:vn S (kW n ix g vt ve QN)):nj vn n ix g vt ve S QN:=h
def cY (ve:VT) (A:D->List Sl->Prop) (B:List Sl->Prop):Bool->List Sl->Prop:=fun b S4=>if b=true then ve S4 fun r S5=>∃x,r=.d x/\A x S5 else B S4
def mr (A:D->List Sl->Prop):VR->List Sl->Prop:=fun r S5=>∃x,r=.d x/\A x S5
theorem uw {n:Nat} {ve:VT} (Iv:Nat->List D->List Sl->Prop) (hl:ds.length<=1000000) (h0:Iv 0 [] S)
  (h1:∀i d ys S2,ds[i]?=some d->Iv i ys S2->g d (aV n ix S2) fun S3=>vt S3 (cY ve (fun x S5=>Iv (i+1) (ys++[x]) (backS n ix S2 S5)) (fun S4=>Iv (i+1) ys (backS n ix S2 S4)))) (h2:∀ys S2,Iv ds.length ys S2->QN ys S2):kW n ix g vt ve QN ds S:=⟨hl,Iv,h0,h1,h2⟩
theorem ir {n:Nat} {ve:VT} {lo:Int} {m:Nat} (Iv:Nat->List D->List Sl->Prop) (hl:m<=1000000) (h0:Iv 0 [] S)
  (h1:∀i ys S2,i < m->Iv i ys S2->g (.int (lo+(i:Int))) (aV n ix S2) fun S3=>vt S3 (cY ve (fun x S5=>Iv (i+1) (ys++[x]) (backS n ix S2 S5)) (fun S4=>Iv (i+1) ys (backS n ix S2 S4)))) (h2:∀ys S2,Iv m ys S2->QN ys S2):kW n ix g vt ve QN (rg lo m) S:=
 ⟨by rw [fQ];exact hl,Iv,h0,fun i d ys S2 e p=>by
  have hi:i < m:=by have:=(List.getElem?_eq_some_iff.mp e).1;rwa [fQ] at this
  rw [qu hi] at e
  cases e
  exact h1 i ys S2 hi p,fun ys S2 p=>h2 ys S2 (by rwa [fQ] at p)⟩
theorem zV (h:QT true S):xo S QT:=h
theorem dm {ve:VT} {A:D->List Sl->Prop} {B:List Sl->Prop} {b:Bool} (h1:b=true->ve S (mr A)) (h2:b=false->B S):cY ve A B b S:=by
 cases b with
 | true=>show (if true=true then _ else _);rw [if_pos rfl];exact h1 rfl
 | false=>show (if false=true then _ else _);rw [if_neg Er];exact h2 rfl
theorem oQ {ve:VT} {A:D->List Sl->Prop} {B:List Sl->Prop} (h:ve S (mr A)):cY ve A B true S:=dm (fun _=>h) fun e=>nomatch e
theorem qQ {A:D->List Sl->Prop} {x:D} (h:A x S):mr A (.d x) S:=⟨x,rfl,h⟩
theorem CO {i j:Int} (h:q (.bl (decide (i=j)))):wEq (.int i) (.int j) q:=⟨.int i,.int j,rfl,rfl,rfl,by simpa using h⟩
theorem CP {i j:Int} (h:q (.bl (!decide (i=j)))):wNe (.int i) (.int j) q:=⟨.int i,.int j,rfl,rfl,rfl,by simpa using h⟩
theorem CQ {c:String} {b:Bool} (hn:∀n,d≠.ty n) (e:oI (tyD d) c=some b) (h:q (.bl b)) (hE:isE d=false:=by with_unfolding_all rfl):BM [d,.ty c] q:=⟨d,c,b,rfl,hn,hE,e,h⟩
end
end VL
end
section
namespace VL
open PySem L2
section
variable {K:Ed} {X:Cx} {m:Bool} {e a b c o:Expr} {ta tb tc te:TE} {va vb vc:VT} {pos:Pos}
def jJ (w w':D->D->(D->Prop)->Prop) (va vb vc:VT):VT:=fun S Q=>va S fun ra S1=>vb S1 fun rb S2=>∃d1 d2,get S2 ra=some d1/\get S2 rb=some d2/\w d1 d2 fun d=>∃k,d=.bl k /\
 if k=true then vc S2 fun rc S3=>∃d2' d3,get S3 rb=some d2'/\get S3 rc=some d3/\w' d2' d3 fun d=>Q (.d d) S3 else Q (.d (.bl false)) S2
theorem qR {r r':R2} {w w':D->D->(D->Prop)->Prop} (L:cG K r w) (L':cG K r' w') (ha:SndE K false ta va) (hb:SndE K false tb vb) (hc:SndE K false tc vc):SndE K m (lS r r' ta tb tc) (jJ w w' va vb vc):=by
 intro H0 Z σ H S Q C k t hq
 refine ha H0 Z σ H S _ _ k t fun x H1 ra S1 k1 st1 r1 t1=>?_
 refine hb H0 Z σ H1 S1 _ _ k1 t1 fun y H2 rb S2 k2 st2 r2 zr1=>?_
 obtain ⟨d1,d2,e1,e2,t2⟩:=zr1
 refine L x y H2 d1 d2 _ _ ((r1.step st2).get k2 e1) (r2.get k2 e2) t2 fun z dz zr1 rz=>?_
 obtain ⟨b,eb,q⟩:=zr1
 subst eb
 cases rz Any AnyF
 refine ⟨b,rfl,?_⟩
 cases b with
 | false=>rw [if_neg Er] at q ⊢;exact hq _ H2 (.d (.bl false)) S2 k2 (st1.trans st2) (Rep.bl false) q
 | true=>
  rw [if_pos rfl] at q ⊢
  refine hc H0 Z σ H2 S2 _ _ k2 q fun u H3 rc S3 k3 st3 r3 zr1=>?_
  obtain ⟨d2',d3,g1,g2,t3⟩:=zr1
  exact L' y u H3 d2' d3 _ _ ((r2.step st3).get k3 g1) (r3.get k3 g2) t3 fun z dz q rz=>hq z H3 (.d dz) S3 k3 ((st1.trans st2).trans st3) (rz _ _) q
theorem fD {op op':CmpOp} {r r':R2} {w w':D->D->(D->Prop)->Prop} (ho:OpR X (FU op) r) (L:cG K r w) (ho':OpR X (FU op') r') (L':cG K r' w') (ha:VE K X false a ta va) (hb:VE K X false b tb vb) (hc:VE K X false c tc vc)
  (hm:lastMarks [op,op'] [b,c]=false:=by with_unfolding_all rfl):VE K X m (.Compare a [op,op'] [b,c] pos) (lS r r' ta tb tc) (jJ w w' va vb vc):=⟨pZ ho ho' ha.pe hb.pe hc.pe hm,qR L L' ha.snd hb.snd hc.snd⟩
theorem nE:∀{ps:List Addr} {nss:List (List Int)} {N:AP} {F:FP} {H:Hp},eX K (fun _=>none) ps nss->Reps K N F H (ps.map V.ref) (nss.map eT)
 | _,_,_,_,_,.nil=>.nil
 | _,_,_,_,_,.cons h t=>.cons (.tupK h Reps.ints) (nE t)
end
section
variable {S:List Sl} {Q:VR->List Sl->Prop} {QT:Bool->List Sl->Prop} {W:bz} {va vb:VT} {vt vu:VTT} {t u:VTS} {b:Bool}
theorem CS {neg:Bool} {d1 d2:D} (a1:noTy d1=true) (a2:(pd d1).canLay0=true) (a3:J4 (pd d1).depth 40=true) (b1:noTy d2=true) (b2:(pd d2).canLay0=true) (b3:J4 (pd d2).depth 40=true)
  (h:q (.bl (if neg then !PyData.eqv (pd d1) (pd d2) else Gs (pd d1) (pd d2)))):zk neg d1 d2 q:=⟨⟨a1,a2,Fb a3⟩,⟨b1,b2,Fb b3⟩,h⟩
theorem zW (e:b=true) (h:vu S QT):kU vu QT b S:=by subst e;exact nq h
theorem zX (e:b=false) (h:QT false S):kU vu QT b S:=by subst e;exact nt h
theorem CT (e:b=true) (h:QT true S):kOr vu QT b S:=by subst e;exact qI h
theorem CU (e:b=false) (h:vu S QT):kOr vu QT b S:=by subst e;exact qH h
theorem CV (e:b=true) (h:t W S):kIf t u W b S:=by subst e;exact qC h
theorem CW (e:b=false) (h:u W S):kIf t u W b S:=by subst e;exact qD h
theorem D9 (e:b=true) (h:va S Q):uq va vb Q b S:=by subst e;exact mn (fun _=>h) fun e=>nomatch e
theorem Ea (e:b=false) (h:vb S Q):uq va vb Q b S:=by subst e;exact mn (fun e=>nomatch e) fun _=>h
theorem CY {c:Bool} (e:c=true) (h:vb S Q):nu vb Q (.d (.bl c)) S:=by subst e;exact nv (fun _=>h) fun e=>nomatch e
theorem CZ {c:Bool} (e:c=false) (h:Q (.d (.bl false)) S):nu vb Q (.d (.bl c)) S:=by subst e;exact nv (fun e=>nomatch e) fun _=>h
end
section
variable {α:Type} {S:List Sl} {QN:List D->List Sl->Prop} {g:VG} {vt:VTT} {ve:VT} {n:Nat} {ix:List Nat}
theorem aJ {β:Type} {xs:List α} {en:α->β} {i:Nat} {d:β} (h:(xs.map en)[i]?=some d):∃x,xs[i]?=some x/\d=en x/\x∈xs/\xs.take (i+1)=xs.take i++[x]:=by
 rw [EH] at h
 obtain ⟨x,h1,h2⟩:=Option.map_eq_some_iff.mp h
 refine ⟨x,h1,h2.symm,F0 h1,?_⟩
 rw [Kv,h1]
 rfl
theorem ck {xs:List α} {en f:α->D} {p:α->Bool} (hl:xs.length<=1000000)
  (h:∀x∈xs,∀(A:D->List Sl->Prop) (B:List Sl->Prop),(∀S5,backS n ix S S5=S->p x=true->A (f x) S5)->(∀S5,backS n ix S S5=S->p x=false->B S5)->g (en x) (aV n ix S) fun S3=>vt S3 (cY ve A B))
  (h2:QN ((xs.filter p).map f) S):kW n ix g vt ve QN (xs.map en) S:=by
 refine uw (fun i ys S'=>S'=S/\ys=((xs.take i).filter p).map f) (by simpa using hl) ⟨rfl,by simp⟩ ?_ ?_
 ·rintro i d ys S2 e ⟨rfl,rfl⟩
  obtain ⟨x,h1,rfl,hm,ht⟩:=aJ e
  refine h x hm _ _ (fun S5 e5 hp=>⟨e5,?_⟩) (fun S5 e5 hp=>⟨e5,?_⟩)
  ·rw [ht,Gk,EJ]
   simp [hp]
  ·rw [ht,Gk,EJ]
   simp [hp]
 ·rintro ys S2 ⟨rfl,rfl⟩
  rw [Eh,Fs]
  exact h2
theorem comp_map {xs:List α} {en f:α->D} (hl:xs.length<=1000000)
  (h:∀x∈xs,∀(A:D->List Sl->Prop) (B:List Sl->Prop),(∀S5,backS n ix S S5=S->A (f x) S5)->g (en x) (aV n ix S) fun S3=>vt S3 (cY ve A B))
  (h2:QN (xs.map f) S):kW n ix g vt ve QN (xs.map en) S:=by
 refine ck (p:=fun _=>true) hl (fun x hx A B hA _=>h x hx A B fun S5 e=>hA S5 e rfl) ?_
 rwa [List.filter_eq_self.mpr (by intros;rfl)]
theorem ux {W:bz} {b:VTS} {xs:List α} {en:α->D} (Iv:List Sl->Prop) (h0:Iv S) (h1:∀x∈xs,∀S2,Iv S2->∀(nx:List Sl->Prop),(∀S3,Iv S3->nx S3)->g (en x) S2 fun S3=>b ⟨nx,W.rt,W.nx,nx⟩ S3) (h2:∀S2,Iv S2->W.nx S2):kFor g b W (xs.map en) S:=
 cX (fun _ S=>Iv S) h0 (fun i d S2 e p=>by
  obtain ⟨x,_,rfl,hm,_⟩:=aJ e
  exact h1 x hm S2 p _ fun _ q=>q) h2
end
theorem fE {α:Type} {l:List α} {f:α->D} {r:Int} (h0:0<=r) (h1:r < l.length):∃t,t∈l/\l[r.toNat]?=some t/\atI (l.map f) r=some (f t):=by
 have hr:r.toNat < l.length:=by lia
 refine ⟨l[r.toNat],HK hr,Ei hr,?_⟩
 obtain ⟨m,rfl⟩:∃m:Nat,r=m:=⟨r.toNat,by lia⟩
 have hr:m < l.length:=by lia
 exact jw (by rw [EH,Ei hr];rfl)
end VL
end
section
namespace VL
open PySem L2 PySem.SeqAt PySem.Spec PyProof.Rows
section
variable {X:Cx} {pins:List (Addr×Obj)} {σ:L2.St} {H:Hp} {s:El} {K:Ed}
def C0 (K:Ed) (g:List Bool->Bool):List V->Hp->VK->Prop:=fun xs H Q=>∃(l:Addr) (bs:List Bool),xs=[.ref l]/\SqL K H l (bs.map V.bl)/\Q (.bl (g bs)) H
theorem kX:∀{bs:List Bool} {us:List Ej},Vals (bs.map V.bl) us->PyProof.Rows.LSm.BoolsAre us bs
 | [],_,.nil=>.nil
 | _::r,_,.cons h t=>by cases h;exact .cons _ (kX (bs:=r) t)
theorem C1 (hK:X.K=K) (hc:X.calm=true):b6 X (.builtin "all") (C0 K (·.all id)):=by
 rintro pins s σ H xs us Q I r ⟨l,bs,e,hq,q⟩
 subst e hK
 obtain ⟨u,rfl,rx⟩:=Vals.one r
 cases rx
 obtain ⟨vs,rv,pl,_⟩:=I.list hq
 obtain ⟨m,F⟩:=I.fr
 exact PyProof.Rows.LSm.all_bools F pM (I.ok.hd hc) pl.isList (kX rv) fun h' tk F' N'=>⟨.bl _,H,I.led (t':=tk) F.ns F' N',rfl,q⟩
theorem kY {N:AP} {H:Hp}:∀{vs:List V} {bs:List Bool},Reps K N F H vs (bs.map D.bl)->vs=bs.map V.bl
 | _,[],.nil=>rfl
 | _,b::bs,.cons h t=>by cases h;rw [kY t];rfl
def C2 (g:List Bool->Bool):List D->(D->Prop)->Prop:=fun ds q=>∃bs:List Bool,ds=[.lst (bs.map .bl)]/\q (.bl (g bs))
theorem C3 {g:List Bool->Bool}:fx K (C0 K g) (C2 g):=by
 rintro xs H ds q C r ⟨bs,rfl,h⟩ hc
 obtain ⟨v,rfl,rv⟩:=rep1 r
 obtain ⟨a,vs,rfl,hq,rr⟩:=rv.sqL
 cases kY rr
 exact ⟨a,bs,rfl,hq,hc _ _ h fun _ _=>.bl _⟩
end
section
variable {K:Ed} {X:Cx} {m:Bool} {e a b:Expr} {ta tb te:TE} {va vb:VT} {tr:TA} {vr:VTA} {pos p:Pos}
def C4 (va:VT):VTT:=fun S Q=>va S fun r S1=>∃d b,get S1 r=some d/\tru d=some b/\Q b S1
theorem zY (hK:X.K=K) (h:VE K X false e te va) (he:∀whole,JS e X.env whole=(do let v <- whole;G6 e.pos;G7 [v] (Kz v)):=by intro _;rfl):VTe K X e (fun σ H Q=>te σ H fun x H'=>∃k,TruV K x H' k/\Q k H') (C4 va):=
 ⟨by subst hK;exact p6 h.pe he,fun H0 Z σ H S Q C k t hc=>h.snd H0 Z σ H S _ _ k t fun v H1 r S1 k1 st1 rr zq1=>by
  obtain ⟨d,b,e1,e2,q⟩:=zq1
  refine ⟨b,?_,hc b H1 S1 k1 st1 q⟩
  have r1:=rr.get k1 e1
  cases d with
  | int i=>cases r1;cases e2;rfl
  | bl i=>cases r1;cases e2;rfl
  | non=>cases r1;cases e2;rfl
  | str i=>cases e2
  | ty i=>cases e2
  | dic ks i=>cases e2
  | exc i=>cases e2
  | oth i=>cases e2
  | dib i j=>cases e2
  | tup ds=>obtain ⟨a,vs,rfl,hq,rr'⟩:=r1.sqT;cases e2;exact .inr (.inl ⟨vs,hq,by cases rr' <;> rfl⟩)
  | lst ds=>obtain ⟨a,vs,rfl,hq,rr'⟩:=r1.sqL;cases e2;exact .inl ⟨vs,hq,by cases rr' <;> rfl⟩⟩
def C5 (i:Nat) (t:VTN):VTN:=fun S Q=>(∃ds,S[i]?=some (.own ds))/\t S fun es S1=>∃ds,S1[i]?=some (.own ds)/\ds.length+es.length<=1000000/\Q (ds++es) S1
theorem qS {t:VTN} (i:Nat) (ho:PE X a (cP i)) (h:VN K X b tb t):VN K X (.BinOp a .Add b pos) (tOp Bv (cP i) tb) (C5 i t):=⟨pV yX ho h.pe,fun H0 Z σ H S Q C k zq1 hc=>by
 obtain ⟨⟨ds0,e0⟩,t⟩:=zq1
 obtain ⟨o,g1,c,us,rfl,g2,g3,g4⟩:=k.ownAt e0
 refine ⟨.ref c,g1,h.snd H0 Z σ H S _ _ k t fun a' vs es H1 H' S1 k1 st1 ha hg hl rr zr1=>?_⟩
 obtain ⟨ds,e1,hlen,q⟩:=zr1
 obtain ⟨o',g1',c',us',rfl,g2',g3',g4'⟩:=k1.ownAt e1
 rw [g1] at g1';cases g1'
 have k2:=k1.grow hg
 have g2'':H' c=some (.lst us'):=by rw [hg c (by simp [g2'])];exact g2'
 refine ⟨c,a',us',vs,rfl,rfl,g2'',hl,by rw [g4'.length,rr.length,FQ];lia,fun p hp=>?_⟩
 refine hc p _ _ H' _ S1 k2 (st1.trans (.grow hg)) hp (aT hp) aD (Reps.append ?_ ?_) q
 ·exact bJ hp ((g4'.mono (fun b n e=>⟨n,hg b e⟩) fun _ x=>x).mono (fun _ n _=>⟨n,rfl⟩) fun _ x _=>x)
 ·exact bJ hp (rr.mono (fun _ n _=>⟨n.1,rfl⟩) fun _ x _=>x)⟩
end
end VL
end
section
namespace VL
open PySem L2
section
variable {S:List Sl} {Q:VR->List Sl->Prop} {QT:Bool->List Sl->Prop} {QN:List D->List Sl->Prop} {W:bz} {va vb:VT} {vr:VTA} {vn:VTN} {vl vh:VO}
@[irreducible] def uy (i:Nat) (QN:List D->List Sl->Prop):List D->List Sl->Prop:=fun es S1=>∃ds,S1[i]?=some (.own ds)/\ds.length+es.length<=1000000/\QN (ds++es) S1
theorem C6 {i:Nat} (e:S[i]?=some (.own ds)) (h:vn S (uy i QN)):C5 i vn S QN:=by unfold uy at h;exact ⟨⟨ds,e⟩,h⟩
theorem zZ {i:Nat} {es ds:List D} (e:S[i]?=some (.own ds)) (hl:ds.length+es.length<=1000000) (h:QN (ds++es) S):uy i QN es S:=by unfold uy;exact ⟨ds,e,hl,h⟩
@[irreducible] def uz (QT:Bool->List Sl->Prop):VR->List Sl->Prop:=fun r S1=>∃d b,get S1 r=some d/\tru d=some b/\QT b S1
theorem C7 (h:va S (uz QT)):C4 va S QT:=by unfold uz at h;exact h
theorem qT {b:Bool} (e:get S r=some d) (e2:tru d=some b) (h:QT b S):uz QT r S:=by unfold uz;exact ⟨d,b,e,e2,h⟩
variable {QO:Option Int->List Sl->Prop}
end
end VL
end
section
namespace VL
open PySem L2
section
variable {K:Ed} {X:Cx} {m:Bool} {e o:Expr} {te:TE} {vb:VT} {pos:Pos}
def C8 (rows:List (Int×List (List Int))) (vb:VT):VT:=fun S Q=>vb S fun rb S1=>∃k nss,get S1 rb=some (.int k)/\(k,nss)∈rows/\Q (.d (.tup (nss.map eT))) S1
theorem Aa {a:Addr} {rows:List (Int×List (List Int))} (hK:X.K=K) (hd:okD K a rows=true) (ho:PE X o (tC (.ref a))) (h:VE K X false e te vb) (hs:eG e):VE K X m (.Subscript o e pos) (tOp (BA K rows) (tC (.ref a)) te) (C8 rows vb):=
 ⟨by subst hK;exact kA t9 ho h.pe hs,fun H0 Z σ H S Q C k t hc=>h.snd H0 Z σ H S _ _ k t fun v H1 r S1 k1 st1 rr zq1=>by
  obtain ⟨i,nss,e1,hi,q⟩:=zq1
  cases rr.get k1 e1
  refine ⟨a,i,nss,rfl,rfl,hd,hi,fun v tt=>?_⟩
  obtain ⟨a',ps,rfl,h⟩:=tt
  obtain ⟨h1,h2⟩:=h fun _=>none
  exact hc _ H1 (.d (.tup (nss.map eT))) S1 k1 st1 (show Rep K _ _ H1 (.ref a') (.tup (nss.map eT)) from .tupK h1 (nE h2)) q⟩
end
section
variable {S:List Sl} {Q:VR->List Sl->Prop} {vb:VT}
@[irreducible] def uA (rows:List (Int×List (List Int))) (Q:VR->List Sl->Prop):VR->List Sl->Prop:=fun rb S1=>∃k nss,get S1 rb=some (.int k)/\(k,nss)∈rows/\Q (.d (.tup (nss.map eT))) S1
theorem C9 {rows:List (Int×List (List Int))} (h:vb S (uA rows Q)):C8 rows vb S Q:=by unfold uA at h;exact h
theorem Ab {rows:List (Int×List (List Int))} {k:Int} {nss:List (List Int)} (e:get S r=some (.int k)) (hm:(k,nss)∈rows) (h:Q (.d (.tup (nss.map eT))) S):uA rows Q r S:=by unfold uA;exact ⟨k,nss,e,hm,h⟩
end
end VL
end
section
namespace KT
open PySem PySem.Spec L2 SeqAt PySem.W
def isNum:Int->Ej->Bool
 | k,.int j _=>decide (j=k)
 | k,.bool b=>decide ((if b then (1:Int) else 0)=k)
 | _,_=>false
theorem bK {k:Int} {v:Ej} (h:isNum k v=true):(∃t,v=.int k t)\/∃b,v=.bool b/\(if b then (1:Int) else 0)=k:=by
 cases v <;> simp [isNum] at h
 ·exact .inr ⟨_,rfl,h⟩
 ·exact .inl ⟨_,by rw [h]⟩
section
variable {prog:E2} {w:FO}
theorem oR {A:F4} {E:Ej->El->Prop} {s:El} {b:Bool} {Q:Int->El->Prop} (h:Q (K6 (if b then (1:Int) else 0)) { s with toks:=s.toks+1 }):Fp (Ff prog w) A (pyHash (.bool b)) Q E s:=by
 refine pyHash_slot (T:="bool") rfl F.slot_bool_hash entry_int_hash (args_int_hash _) (beq_builtin_none _) (.inl rfl) ?_
 cases b
 ·exact (show Fp _ _ (do ret (<- mkInt 0)) _ _ s from Ef (KU (Es ⟨_,_,rfl,h⟩)))
 ·exact (show Fp _ _ (do ret (<- mkInt 1)) _ _ s from Ef (KU (Es ⟨_,_,rfl,h⟩)))
def numKind (prog:E2) (w:FO):KeyKind prog w Int where
 is:=isNum
 hash:=K6
 inj:=fun v a b x y=>by
  rcases bK x with ⟨t,rfl⟩ | ⟨c,rfl,rfl⟩
  ·rcases bK y with ⟨u,e⟩ | ⟨d,e,_⟩ <;> cases e;rfl
  ·rcases bK y with ⟨u,e⟩ | ⟨d,e,rfl⟩ <;> cases e;rfl
 byValue:=fun k v h=>by rcases bK h with ⟨t,rfl⟩ | ⟨c,rfl,_⟩ <;> rfl
 pyHash:=fun hv h=>by
  rcases bK hv with ⟨t,rfl⟩ | ⟨c,rfl,rfl⟩
  ·exact wpAny_pyHash_int h
  ·exact oR h
 eqBool:=fun {A E s a b u v Q} hu hv h=>by
  have z:∀c d:Int,decide (c=d)=(c==d):=fun c d=>by rw [GF];simp
  rw [z] at h
  rcases bK hu with ⟨t,rfl⟩ | ⟨c,rfl,rfl⟩ <;> rcases bK hv with ⟨r,rfl⟩ | ⟨d,rfl,rfl⟩
  ·exact wpAny_eqBool_int h
  ·exact EqAt.int_bool _ _ _ prog w E Q h
  ·exact EqAt.bool_int _ _ _ prog w E Q h
  ·refine EqAt.bool_bool _ _ prog w E Q ?_
   have e:(c==d)=((if c then (1:Int) else 0)==(if d then 1 else 0)):=by cases c <;> cases d <;> rfl
   rw [e];exact h
 «strs»:=fun k x t v h=>by simp [isNum] at h
end
end KT
end
section
namespace L2
open PySem PySem.Spec PyProof.Rows
section
variable {X:Cx} {pins:List (Addr×Obj)} {σ:St} {H:Hp} {s:El}
inductive NumV:List Int->List V->Prop where
 | nil:NumV [] []
 | int (i:Int) {ms:List Int} {vs:List V} (t:NumV ms vs):NumV (i::ms) (.int i::vs)
 | bl (b:Bool) {ms:List Int} {vs:List V} (t:NumV ms vs):NumV ((if b then (1:Int) else 0)::ms) (.bl b::vs)
theorem NumV.ints:∀ms:List Int,NumV ms (ms.map V.int)
 | []=>.nil
 | i::r=>.int i (NumV.ints r)
def SqN (K:Ed) (H:Hp) (b:Addr) (ms:List Int):Prop:=∃vs,SqT K H b vs/\NumV ms vs
theorem SqN.of {b:Addr} (h:SqT K H b (ms.map V.int)):SqN K H b ms:=⟨_,h,NumV.ints ms⟩
theorem fc {P:E2} {w:FO}:∀{ms:List Int} {vs:List V} {us:List Ej},NumV ms vs->Vals vs us->ItemsAre (KT.numKind P w) ms us
 | _,_,_,.nil,r=>by cases r;exact .nil
 | _,_,_,.int i t,r=>by
  cases r with
  | cons h u=>obtain ⟨tk,rfl⟩:=h;exact .cons (by simp [KT.numKind,KT.isNum]) (fc t u)
 | _,_,_,.bl b t,r=>by
  cases r with
  | cons h u=>cases h;exact .cons (by simp [KT.numKind,KT.isNum]) (fc t u)
theorem dG {b:Addr} (I:Inv X pins σ H s) (h:SqN X.K H b ms):(Jn (KT.numKind X.prog X.w)).is s.heap ms b:=by
 obtain ⟨vs,h,hn⟩:=h
 obtain ⟨its,r,⟨o,h1,h2,n,h3⟩,_⟩:=I.tuple h
 exact ⟨o,its.toArray,n,h1,h2,h3,by simpa using fc hn r⟩
def cr (K:Ed) (H:Hp) (es:List (List Int×Addr×V)):Prop:=∀x∈es,SqN K H x.2.1 x.1
theorem EV.keys {xs:List (List Int×Addr×Ej)} (r:EV es xs):es.map (·.1)=xs.map (·.1):=by
 induction r with
 | nil=>rfl
 | cons h t ih=>rw [EB,EB,ih,h.1]
theorem EV.mem {xs:List (List Int×Addr×Ej)} (r:EV es xs):∀x∈xs,∃e∈es,e.1=x.1/\e.2.1=x.2.1:=by
 induction r with
 | nil=>intro x h;exact nomatch h
 | @cons p q ps qs h t ih=>
  intro x hx
  rcases List.mem_cons.mp hx with rfl | hx
  ·exact ⟨p,Em,h.1,h.2.1⟩
  ·obtain ⟨e,h1,h2⟩:=ih x hx
   exact ⟨e,ES _ h1,h2⟩
theorem gB {a:Addr} {ob:Obj} (I:Inv X pins σ H s) (e:H a=some (b0 a ob es)) (k:cr X.K H es):es.length<=EW/\(a==GB)=false/\(es.map (·.1)).Nodup /\
  ∃xs,EV es xs/\s.heap.DictOfH (Jn (KT.numKind X.prog X.w)) a xs:=by
 obtain ⟨z,m,nd,xs,ev,o,ds,ep,h1,h2,h3,h4⟩:=jz I e
 refine ⟨z,m,nd,xs,ev,o,ds,ep,h1,h2,h3,h4,fun x hx=>?_,by rw [<- ev.keys];exact nd⟩
 obtain ⟨e,he,e1,e2⟩:=ev.mem x hx
 rw [<- e1,<- e2]
 exact dG I (k e he)
def atE (es:List (List Int×Addr×V)) (k:List Int):Option V:=(es.find? fun x=>decide (x.1=k)).map (·.2.2)
theorem EV.at_ {xs:List (List Int×Addr×Ej)} (r:EV es xs) (k:List Int):RelO (atE es k) ((Lb xs k).map (·.2)):=by
 induction r with
 | nil=>exact HX
 | @cons p q ps qs h t ih=>
  obtain ⟨h1,_,h2⟩:=h
  by_cases e:p.1=k
  ·have e':q.1=k:=h1.symm.trans e
   have a:atE (p::ps) k=some p.2.2:=by simp [atE,FT,e]
   have b:Lb (q::qs) k=some q.2:=by simp [Lb,FT,e']
   rw [a,b];exact h2
  ·have e':¬ q.1=k:=fun z=>e (h1.trans z)
   have a:atE (p::ps) k=atE ps k:=by simp [atE,FT,e]
   have b:Lb (q::qs) k=Lb qs k:=by simp [Lb,FT,e']
   rw [a,b];exact ih
theorem fT:∀{o:Option V} {u:Option Ej},RelO o u->o.isSome=u.isSome
 | some _,some _,_=>rfl
 | none,none,_=>rfl
 | some _,none,h=>h.elim
 | none,some _,h=>h.elim
theorem iu {k:List Int}:(atE es k).isSome=decide (k∈es.map (·.1)):=by
 induction es with
 | nil=>rfl
 | cons p ps ih=>
  by_cases e:p.1=k
  ·simp [atE,FT,e]
  ·have a:atE (p::ps) k=atE ps k:=by simp [atE,FT,e]
   rw [a,ih]
   have:¬ k=p.1:=fun z=>e z.symm
   simp [this]
def qU (K:Ed) (neg:Bool):R2:=fun y x H Q=>∃b a ms es,y=.ref b/\x=.ref a/\SqN K H b ms/\(∃ob,H a=some (b0 a ob es))/\cr K H es/\Q (.bl (if neg then !decide (ms∈es.map (·.1)) else decide (ms∈es.map (·.1)))) H
end
section
variable {X:Cx}
theorem Ac (hu:X.A.units+64 < Ji):OpR X (FU .In) (qU X.K false):=by
 rintro pins s σ H x y v u Q I rx ry ⟨b,a,ms,es,e1,e2,h1,⟨ob,h2⟩,h3,q⟩
 subst e1;subst e2
 cases rx;cases ry
 obtain ⟨z,m,nd,xs,ev,dd⟩:=gB I h2 h3
 refine wpAny_in_heap (Ho (by lia)) (dG I h1) m dd ?_
 have e:=fT (ev.at_ ms)
 rw [IT,iu] at e
 rw [<- e]
 exact ⟨.bl _,H,I.tok _,rfl,q⟩
theorem oS (hu:X.A.units+64 < Ji):OpR X (FU .NotIn) (qU X.K true):=by
 rintro pins s σ H x y v u Q I rx ry ⟨b,a,ms,es,e1,e2,h1,⟨ob,h2⟩,h3,q⟩
 subst e1;subst e2
 cases rx;cases ry
 obtain ⟨z,m,nd,xs,ev,dd⟩:=gB I h2 h3
 refine wpAny_notIn_heap (Ho (by lia)) (dG I h1) m dd ?_
 have e:=fT (ev.at_ ms)
 rw [IT,iu] at e
 rw [<- e]
 exact ⟨.bl _,H,I.tok _,rfl,q⟩
end
end L2
namespace L2
open PySem PySem.Spec PyProof.Rows
def ff (es:List (List Int×Addr×V)) (k:List Int) (b:Addr) (v:V):List (List Int×Addr×V):=if k∈es.map (·.1) then es.map (fun x=>if x.1=k then (x.1,x.2.1,v) else x) else es++[(k,b,v)]
theorem iw (es:List (List Int×Addr×V)) (k:List Int) (b:Addr) (v:V):(ff es k b v).length<=es.length+1:=by
 unfold ff;split <;> simp
theorem EV.repl {xs:List (List Int×Addr×Ej)} (r:EV es xs) (k:List Int) {u:Ej} (rv:RelV v u):EV (es.map fun x=>if x.1=k then (x.1,x.2.1,v) else x) (xs.map (putAt k u)):=by
 induction r with
 | nil=>exact .nil
 | @cons p q ps qs h t ih=>
  rw [EB,EB]
  refine .cons ?_ ih
  obtain ⟨h1,h2,h3⟩:=h
  unfold putAt
  by_cases e:p.1=k
  ·rw [if_pos e,if_pos (h1.symm.trans e)];exact ⟨h1,h2,rv⟩
  ·rw [if_neg e,if_neg (fun z=>e (h1.trans z))];exact ⟨h1,h2,h3⟩
theorem EV.put {xs:List (List Int×Addr×Ej)} (r:EV es xs) (k:List Int) {b:Addr} {u:Ej} (rv:RelV v u):EV (ff es k b v) (storedH xs k b u):=by
 have e:decide (k∈es.map (·.1))=(Lb xs k).isSome:=by
  have:=fT (r.at_ k)
  rw [IT,iu] at this
  exact this
 unfold ff storedH
 by_cases q:(Lb xs k).isSome=true
 ·rw [if_pos q,if_pos (of_decide_eq_true (e.trans q))];exact r.repl k rv
 ·rw [if_neg q,if_neg (fun z=>q (e.symm.trans (decide_eq_true z)))];exact Paired.snoc r ⟨rfl,rfl,rv⟩
section
variable {X:Cx} {o i value:Expr} {pos pos':Pos} {td ty tv:TE}
def xB (K:Ed) (td ty tv:TE):TS:=fun D σ H=>tv σ H fun v H1=>td σ H1 fun x H2=>ty σ H2 fun y H3=>∃a b ms es,x=.ref a/\y=.ref b/\SqN K H3 b ms/\(∃ob,H3 a=some (b0 a ob es))/\cr K H3 es/\es.length < EW /\
 ∀ob,D.nx σ (upd H3 a (b0 a ob (ff es ms b v)))
theorem Ad {s:El} {a b:Addr} {ob:Obj} {r:Ej} {A:F4} {E:Ej->El->Prop} {Q:Unit->El->Prop} (hu:A.units+1 < Ji) (I:Inv X pins σ H s) (h1:SqN X.K H b ms) (h2:H a=some (b0 a ob es)) (h3:cr X.K H es) (hl:es.length < EW) (rv:RelV v r)
  (h:∀ob s',Inv X pins σ (upd H a (b0 a ob (ff es ms b v))) s'->Q () s'):Fp (Ff X.prog X.w) A (KO (.ref a) (.ref b) r) Q E s:=by
 obtain ⟨z,m,nd,xs,ev,dd⟩:=gB I h2 h3
 refine wpAny_setItem_heap (hsz:=by rw [<- GL ev];exact z) (Ho hu) (dG I h1) dd fun h' dd' hs=>?_
 obtain ⟨q,ds,ep,hq,g2,g3,g4,_,g5⟩:=dd'
 refine h q _ (I.write (x:=a) (e:=a) (by rw [h2];exact HX) (.inl rfl) (fun b q hb z=>(hs.2 b hb).trans z) ⟨q,hq⟩ (DctP.ok ⟨?_,m,?_,_,ev.put ms rv,q,ds,ep,hq,g2,g3,g4⟩ hq))
 ·have:=iw es ms b v;lia
 ·rw [(ev.put ms rv).keys];exact g5
theorem uB (hu:X.A.units+64 < Ji) (ho:PE X o td) (hi:PE X i ty) (hv:PE X value tv) (hs:GP value (some (.Subscript o i pos')) pos.line X.env=pure false) :
  PS X (.Assign [.Subscript o i pos'] value pos) (xB X.K td ty tv):=by
 intro pins s σ H D I h
 refine wpAny_Assign_Subscript (thn (hv pins s σ H _ I h) fun r s1 ⟨v,H1,I1,rv,q1⟩=>thn (ho pins s1 σ H1 _ I1 q1) fun u s2 ⟨x,H2,I2,rx,q2⟩=>thn (hi pins s2 σ H2 _ I2 q2) fun iv s3 zr1=>?_) hs
 obtain ⟨y,H3,I3,ry,a,b,ms,es,ex,ey,h1,⟨ob,h2⟩,h3,hl,q3⟩:=zr1
 subst ex;subst ey
 obtain rfl:u=ET a:=rx
 obtain rfl:iv=ET b:=ry
 exact Ad (by lia) I3 h1 h2 h3 hl rv fun ob s4 I4=>⟨σ,_,I4,q3 ob⟩
theorem qV {s:El} (I:Inv X pins σ H s):GB < s.heap.objs.size:=by
 have h:EL < s.heap.objs.size:=(I.mod.glob.keeps I.bk).lt
 exact Nat.lt_trans (by decide) h
def xC:TE:=fun _ H Q=>∀p ob,H p=none->Q (.ref p) (upd H p (b0 p ob []))
theorem uC:PE X (.Dict [] [] pos) xC:=fun pins s σ H Q I h=>
 wpAny_Dict_empty ⟨.ref s.heap.objs.size,_,I.laid (a:=s.heap.objs.size) (o:=b0 s.heap.objs.size _ []) (t':=s.toks) (fun _ _ q=>Eg _ q) (Ek _)
  (DctP.ok ⟨Ga _,beq_eq_false_iff_ne.mpr (Gu (E5 (qV I))),JX,[],.nil,_,#[],0,EG _ rfl,⟨rfl,rfl,rfl⟩,rfl,rfl⟩ (EG _ rfl)),rfl,h _ _ (I.hok.fresh (Ek _))⟩
end
end L2
namespace VL
open PySem L2
def dc (kvs:List (List Int×D)):D:=.dic (kvs.map (·.1)) (kvs.map (·.2))
def od (kvs:List (List Int×D)):Sl:=.odi (kvs.map (·.1)) (kvs.map (·.2))
def cu (kvs:List (List Int×D)) (k:List Int) (d:D):List (List Int×D):=if k∈kvs.map (·.1) then kvs.map (fun x=>if x.1=k then (x.1,d) else x) else kvs++[(k,d)]
def getA (kvs:List (List Int×D)) (k:List Int):Option D:=(kvs.find? fun x=>decide (x.1=k)).map (·.2)
section
variable {K:Ed} {N:AP} {F:FP} {H:Hp}
theorem dq:∀{es:List (List Int×Addr×V)},Reps K N F H (es.map fun x=>.ref x.2.1) ((es.map (·.1)).map kT)->cr K H es
 | [],_=>fun _ h=>nomatch h
 | e::es,r=>by
  cases r with
  | cons h t=>
   intro x hx
   rcases List.mem_cons.mp hx with rfl | hx
   ·obtain ⟨a,vs,e1,hq,rr⟩:=Rep.sqT (show Rep K N F H _ (.tup (x.1.map D.int)) from h)
    cases e1
    cases Reps.toInts rr
    exact SqN.of hq
   ·exact dq t x hx
theorem Rep.dct {ks:List (List Int)} (h:Rep K N F H v (.dic ks ds)):∃a es,v=.ref a/\N a/\F (some a)/\(∃ob,H a=some (b0 a ob es))/\es.map (·.1)=ks/\cr K H es/\Reps K N F H (es.map fun x=>.ref x.2.1) (ks.map kT)/\Reps K N F H (es.map (·.2.2)) ds:=by
 cases h with
 | dic n f h e rk r=>subst e;exact ⟨_,_,rfl,n,f,⟨_,h⟩,rfl,dq rk,rk,r⟩
theorem i8 {k:List Int} (hv:Rep K N F H v d):∀{es:List (List Int×Addr×V)} {kvs:List (List Int×D)},es.map (·.1)=kvs.map (·.1)->Reps K N F H (es.map (·.2.2)) (kvs.map (·.2)) ->
  Reps K N F H ((es.map fun x=>if x.1=k then (x.1,x.2.1,v) else x).map (·.2.2)) ((kvs.map fun x=>if x.1=k then (x.1,d) else x).map (·.2))
 | [],[],_,_=>.nil
 | e::es,p::kvs,ek,r=>by
  simp only [EB,EU] at ek
  cases r with
  | cons h t=>
   simp only [EB]
   refine .cons ?_ (i8 hv ek.2 t)
   by_cases hk:e.1=k
   ·rw [if_pos hk,if_pos (ek.1.symm.trans hk)];exact hv
   ·rw [if_neg hk,if_neg (fun z=>hk (ek.1.trans z))];exact h
 | [],_::_,ek,_=>by simp at ek
 | _::_,[],ek,_=>by simp at ek
theorem mw (es:List (List Int×Addr×V)) (k:List Int) (v:V):(es.map fun x=>if x.1=k then (x.1,x.2.1,v) else x).map (·.1)=es.map (·.1):=by
 rw [EZ]
 refine Fg fun x _=>?_
 simp only [Hm];split <;> rfl
theorem mx (es:List (List Int×Addr×V)) (k:List Int) (v:V):(es.map fun x=>if x.1=k then (x.1,x.2.1,v) else x).map (fun x=>V.ref x.2.1)=es.map fun x=>V.ref x.2.1:=by
 rw [EZ]
 refine Fg fun x _=>?_
 simp only [Hm];split <;> rfl
theorem iy (kvs:List (List Int×D)) (k:List Int) (d:D):(kvs.map fun x=>if x.1=k then (x.1,d) else x).map (·.1)=kvs.map (·.1):=by
 rw [EZ]
 refine Fg fun x _=>?_
 simp only [Hm];split <;> rfl
theorem nF {k:List Int} {b:Addr} (hv:Rep K N F H v d) {F':FP} (hb:Rep K N F' H (.ref b) (kT k)) (ek:es.map (·.1)=kvs.map (·.1))
  (rk:Reps K N F' H (es.map fun x=>V.ref x.2.1) ((kvs.map (·.1)).map kT)) (r:Reps K N F H (es.map (·.2.2)) (kvs.map (·.2))) :
  (ff es k b v).map (·.1)=(cu kvs k d).map (·.1)/\Reps K N F' H ((ff es k b v).map fun x=>V.ref x.2.1) (((cu kvs k d).map (·.1)).map kT)/\Reps K N F H ((ff es k b v).map (·.2.2)) ((cu kvs k d).map (·.2)):=by
 unfold ff cu
 by_cases hk:k∈es.map (·.1)
 ·rw [if_pos hk,if_pos (by rw [<- ek];exact hk),mw,iy,mx]
  exact ⟨ek,rk,i8 hv ek r⟩
 ·rw [if_neg hk,if_neg (by rw [<- ek];exact hk)]
  simp only [EJ,EB,Fd]
  exact ⟨by rw [ek],Reps.append rk (.cons hb .nil),Reps.append r (.cons hv .nil)⟩
end
section
variable {K:Ed} {X:Cx} {m:Bool} {e o ie:Expr} {te ti:TE} {va vi:VT} {pos posS:Pos}
def Da (neg:Bool):D->D->(D->Prop)->Prop:=fun d1 d2 q=>∃ms kvs,d1=kT ms/\d2=dc kvs/\q (.bl (if neg then !decide (ms∈kvs.map (·.1)) else decide (ms∈kvs.map (·.1))))
theorem qW {neg:Bool}:cG K (qU K neg) (Da neg):=by
 rintro x y H d1 d2 q C r1 r2 ⟨ms,kvs,rfl,rfl,h⟩ hc
 obtain ⟨b,vs,rfl,hq,rr⟩:=Rep.sqT (show Rep K _ _ H x (.tup (ms.map D.int)) from r1)
 cases Reps.toInts rr
 obtain ⟨a,es,rfl,_,_,ha,ek,hk,_,_⟩:=Rep.dct (show Rep K _ _ H y (.dic _ _) from r2)
 refine ⟨b,a,ms,es,rfl,rfl,SqN.of hq,ha,hk,?_⟩
 rw [ek]
 exact hc _ _ h fun _ _=>.bl _
theorem xD (hK:X.K=K) (hu:X.A.units+64 < Ji):OpR X (FU .In) (qU K false):=by subst hK;exact Ac hu
theorem qX (hK:X.K=K) (hu:X.A.units+64 < Ji):OpR X (FU .NotIn) (qU K true):=by subst hK;exact oS hu
abbrev VTD:=List Sl->(List (List Int×D)->List Sl->Prop)->Prop
def Eb (K:Ed) (te:TE) (t:VTD):Prop:=∀H0 Z σ H S Q C,OK K H0 Z σ H S->t S Q->(∀a es kvs H1 H' S',OK K H0 Z σ H1 S'->Step Z σ S H σ S' H1->H1 a=none->(∀b,H1 b≠none->H' b=H1 b)->(∃ob,H' a=some (b0 a ob es)) ->
 es.map (·.1)=kvs.map (·.1)->Reps K (fun b=>NM Z σ S' b/\b≠a) AnyF H' (es.map fun x=>V.ref x.2.1) ((kvs.map (·.1)).map kT)->Reps K (fun b=>NM Z σ S' b/\b≠a) (Fr H0) H' (es.map (·.2.2)) (kvs.map (·.2))->Q kvs S'->C (.ref a) H')->te σ H C
structure VDe (K:Ed) (X:Cx) (e:Expr) (te:TE) (t:VTD):Prop where
 pe:PE X e te
 snd:Eb K te t
def xE:VTD:=fun S Q=>Q [] S
theorem qY:VDe K X (.Dict [] [] pos) xC xE:=⟨uC,fun H0 Z σ H S Q C k t hc=>fun p ob hp=>hc p [] [] H _ S k .refl hp (aT hp) ⟨ob,aD⟩ rfl .nil .nil t⟩
def xF (t:VTD):VT:=fun S Q=>t S fun kvs S1=>Q (.d (dc kvs)) S1
theorem uD {t:VTD} (h:VDe K X e te t):VE K X m e te (xF t):=⟨h.pe,fun H0 Z σ H S Q C k t hc=>h.snd H0 Z σ H S _ _ k t fun a es kvs H1 H' S1 k1 st1 ha hg zq1 ek rk rr q=>by
 obtain ⟨ob,hl⟩:=zq1
 refine hc _ H' (.d (dc kvs)) S1 (k1.grow hg) (st1.trans (.grow hg)) (Rep.dic (k1.nm ha) (fun _=>⟨a,rfl,k1.dom a ha⟩) hl ek (Reps.flat (rk.mono (fun b n e=>⟨n.1,rfl⟩) fun _ x=>x) (dR _)) (rr.mono (fun b n e=>⟨n.1,rfl⟩) fun _ x _=>x)) q⟩
def xG (i:Nat) (t:VTD):VTS:=fun V S=>t S fun kvs S1=>i < S1.length/\V.nx (S1.set i (od kvs))
theorem nG {i:Nat} {x:Str} {pos':Pos} {tn:VTD} (ps:∀te,PE X e te->PS X (.Assign [.Name x pos'] e pos) (cU te (aX i))) (h:VDe K X e te tn):VS K X (.Assign [.Name x pos'] e pos) (cU te (aX i)) (xG i tn):=
 ⟨ps te h.pe,fun H0 Z σ H S V E k t l=>h.snd H0 Z σ H S _ _ k t fun a es kvs H1 H' S' k1 st1 ha hg hl ek rk rr zq1=>by
  obtain ⟨hi,q⟩:=zq1
  obtain ⟨k2,st2⟩:=k1.setNew (s:=od kvs) hi ha hg ⟨a,es,rfl,hl,k1.dom a ha,⟨ek,rk⟩,rr⟩ rfl
  exact l.nx _ _ _ k2 (st1.trans st2) q⟩
def xH (i:Nat) (ve vi:VT):VTS:=fun V S=>ve S fun r S1=>(∃kvs,S1[i]?=some (od kvs))/\vi S1 fun ri S2=>∃d ms kvs,r=.d d/\get S2 ri=some (kT ms)/\S2[i]?=some (od kvs)/\kvs.length<=1000000/\V.nx (S2.set i (od (cu kvs ms d)))
theorem nH (i:Nat) (hK:X.K=K) (hu:X.A.units+64 < Ji) (ho:PE X o (cP i)) (h:VE K X true e te va) (hi:VE K X false ie ti vi) (hs:GP e (some (.Subscript o ie posS)) pos.line X.env=pure false:=by rfl) :
  VS K X (.Assign [.Subscript o ie posS] e pos) (xB K (cP i) ti te) (xH i va vi):=⟨by subst hK;exact uB hu ho hi.pe h.pe hs,fun H0 Z σ H S V E k t l=>by
 refine h.snd H0 Z σ H S _ _ k t fun x H1 r S1 k1 st1 rr zr1=>?_
 obtain ⟨⟨kvs0,e0⟩,q⟩:=zr1
 obtain ⟨o1,g1,p,es0,rfl,_⟩:=k1.ownAt e0
 refine ⟨.ref p,g1,hi.snd H0 Z σ H1 S1 _ _ k1 q fun y H2 ri S2 k2 st2 rr2 zr1=>?_⟩
 obtain ⟨d,ms,kvs,er,ek,e1,hl,q2⟩:=zr1
 subst er
 obtain ⟨o2,g2,p',es,e2,h2,h3,⟨h4,h5⟩,h6⟩:=k2.ownAt e1
 rw [g1] at g2;cases g2;cases e2
 have rx:Rep K (NM Z σ S2) (FM H0 true) H2 x d:=Rep.step (show Rep K (NM Z σ S1) (FM H0 true) H1 x d from rr) st2
 have ry:∃b,y=.ref b/\SqT K H2 b (ms.map L2.V.int)/\Rep K (NM Z σ S2) AnyF H2 (.ref b) (kT ms):=by
  cases ri with
  | d z=>
   cases ek
   obtain ⟨b,vs,rfl,hq,rr⟩:=Rep.sqT (show Rep K _ _ H2 y (.tup (ms.map D.int)) from rr2)
   cases Reps.toInts rr
   exact ⟨b,rfl,hq,Rep.mono (fun _ n _=>⟨n,rfl⟩) (fun _ _=>trivial) rr2⟩
  | own j=>
   have ek:getO S2[j]?=some (kT ms):=ek
   cases es:S2[j]? with
   | none=>rw [es] at ek;cases ek
   | some s=>rw [es] at ek;cases s <;> cases ek
 obtain ⟨b,rfl,hq,rb⟩:=ry
 have hk:cr K H2 es:=dq (by rw [h4];exact h5)
 refine ⟨p,b,ms,es,rfl,rfl,SqN.of hq,h2,hk,?_,?_⟩
 ·have:es.length=kvs.length:=by have:=congrArg Ia h4;simpa using this
  rw [FQ];lia
 ·intro obn
  have na:NM Z σ S2 p->False:=fun n=>n (.inl ⟨i,_,e1,rfl,g1⟩)
  have hm:∀b,NM Z σ S2 b->H2 b≠none->NM Z σ S2 b/\upd H2 p (b0 p obn (ff es ms b x)) b=H2 b:=fun b n _=>⟨n,aC fun z=>na (by rw [<- z];exact n)⟩
  have hm':∀c,NM Z σ S2 c->H2 c≠none->NM Z σ S2 c/\upd H2 p (b0 p obn (ff es ms b x)) c=H2 c:=fun c n _=>⟨n,aC fun z=>na (by rw [<- z];exact n)⟩
  obtain ⟨z1,z2,z3⟩:=nF (k:=ms) (b:=b) (Rep.mono hm' (fun _ x=>x rfl) rx) (Rep.mono hm' (fun _ x=>x) rb) h4 (h5.mono hm' fun _ x=>x) (h6.mono hm' fun _ x=>x)
  obtain ⟨k3,st3⟩:=k2.chgD (s:=od (cu kvs ms d)) (o:=b0 p obn (ff es ms b x)) e1 rfl g1 rfl ⟨p,_,rfl,⟨obn,aD⟩,h3,⟨z1,z2⟩,z3⟩
  exact l.nx _ _ _ k3 ((st1.trans st2).trans st3) q2⟩
end
end VL
end
section
namespace L2
open PySem PySem.Spec PyProof.Rows
section
variable {prog:E2} {w:FO} {A:F4} {E:Ej->El->Prop} {s:El}
theorem fU {h:Heap} {a b:Addr} {vs:List Ej} {out:Array Ej} {o:Obj} (hb:b≠a) (e:h.get? b=some o):(JM h a vs out).get? b=some o:=by
 exact (FA _ _ hb.symm).trans (Eg _ (Eg _ ((FA _ _ hb.symm).trans e)))
theorem gq {h:Heap} {vs:List Ej} {out:Array Ej}:∃c,(JM (h.push (GR "list" vs.toArray 0)) h.objs.size vs out).get? h.objs.size=some (GR "list" out c):=by
 obtain ⟨c,hc⟩:∃c,((h.push (GR "list" vs.toArray 0)).update h.objs.size (FI fun _=>#[])).get? h.objs.size=some (GR "list" #[] c):=⟨_,Ig (EG _ rfl) _⟩
 exact ⟨_,Ig (Eg _ (Eg _ hc)) _⟩
end
end L2
end
section
namespace L2
open PySem PySem.Spec PyProof.Rows
section
variable {X:Cx} {p pr pos posr:Pos} {e:Expr} {tr:TA}
def Dc (K:Ed):List V->Hp->VK->Prop:=fun xs H Q=>∃(l:Addr) (ns:List Int),xs=[.ref l]/\SqL K H l (ns.map V.int)/\Q (.int ns.sum) H
theorem Dd (hK:X.K=K) (hc:X.calm=true):b6 X (.builtin "sum") (Dc K):=by
 rintro pins s σ H xs us Q I r ⟨l,ns,e,hq,q⟩
 subst e hK
 obtain ⟨u,rfl,rx⟩:=vals1 r
 cases rx
 obtain ⟨vs,rv,pl,_⟩:=I.list hq
 have hi:Ks vs ns:=intsAre_of rv
 obtain ⟨xs,ex⟩:=hi.allInts.items
 have hl:=pl.isList
 rw [ex] at hl
 refine PySem.sum_intListG (I.ok.hd hc) hl fun h' tk t' hk=>⟨.int ns.sum,H,I.kept hk,⟨t',?_⟩,q⟩
 have e1:=hi.numsOf
 have e2:numsOf vs.toArray.toList=numsOf (intItems xs).toList:=by rw [ex]
 rw [show vs.toArray.toList=vs by simp] at e2
 rw [e1,nums_intItems] at e2
 rw [preSum_eq,Hs (by simp),e2]
theorem Ae:Fk "sum"=some (.builtin "sum"):=by decide +kernel
end
end L2
end
section
namespace VL
open PySem L2
section
variable {K:Ed} {X:Cx} {m:Bool} {e:Expr} {te:TE} {va vb:VT} {tr:TA} {vr:VTA} {pos p pr posr:Pos}
def De:List D->(D->Prop)->Prop:=fun ds q=>∃ns:List Int,ds=[.lst (ns.map .int)]/\q (.int ns.sum)
theorem Df:fx K (Dc K) De:=by
 rintro xs H ds q C r ⟨ns,rfl,h⟩ hc
 obtain ⟨v,rfl,rv⟩:=rep1 r
 obtain ⟨a,vs,rfl,hq,rr⟩:=rv.sqL
 cases Reps.toInts rr
 exact ⟨a,ns,rfl,hq,hc _ _ h fun _ _=>.int _⟩
end
section
variable {S:List Sl} {Q:VR->List Sl->Prop} {QN:List D->List Sl->Prop} {QD:List (List Int×D)->List Sl->Prop} {W:bz} {va vb:VT} {vr:VTA} {vd:VTD}
theorem Dg (h:q (.int ns.sum)):De [.lst (ns.map .int)] q:=⟨ns,rfl,h⟩
theorem Af (h:QD [] S):xE S QD:=h
@[irreducible] def nI (Q:VR->List Sl->Prop):List (List Int×D)->List Sl->Prop:=fun kvs S1=>Q (.d (dc kvs)) S1
theorem Ag (h:vd S (nI Q)):xF vd S Q:=by unfold nI at h;exact h
theorem uE (h:Q (.d (dc kvs)) S):nI Q kvs S:=by unfold nI;exact h
@[irreducible] def nJ (i:Nat) (W:bz):List (List Int×D)->List Sl->Prop:=fun kvs S1=>i < S1.length/\W.nx (S1.set i (od kvs))
theorem Ah {i:Nat} (h:vd S (nJ i W)):xG i vd W S:=by unfold nJ at h;exact h
theorem uF {i:Nat} (e:J4 (i+1) S.length=true) (h:W.nx (S.set i (od kvs))):nJ i W kvs S:=by unfold nJ;exact ⟨Fb e,h⟩
@[irreducible] def nK (i:Nat) (vi:VT) (W:bz):VR->List Sl->Prop:=fun r S1=>(∃kvs,S1[i]?=some (od kvs))/\vi S1 fun ri S2=>∃d ms kvs,r=.d d/\get S2 ri=some (kT ms)/\S2[i]?=some (od kvs)/\kvs.length<=1000000/\W.nx (S2.set i (od (cu kvs ms d)))
@[irreducible] def jK (i:Nat) (r:VR) (W:bz):VR->List Sl->Prop:=fun ri S2=>∃d ms kvs,r=.d d/\get S2 ri=some (kT ms)/\S2[i]?=some (od kvs)/\kvs.length<=1000000/\W.nx (S2.set i (od (cu kvs ms d)))
theorem Ai {i:Nat} {vi:VT} (h:va S (nK i vi W)):xH i va vi W S:=by unfold nK at h;exact h
theorem uG {i:Nat} {vi:VT} (e:S[i]?=some (od kvs)) (h:vi S (jK i r W)):nK i vi W r S:=by unfold nK;unfold jK at h;exact ⟨⟨kvs,e⟩,h⟩
theorem kZ {i:Nat} {ri:VR} (e1:get S ri=some (kT ms)) (e2:S[i]?=some (od kvs)) (hl:kvs.length<=1000000) (h:W.nx (S.set i (od (cu kvs ms d)))):jK i (.d d) W ri S:=by unfold jK;exact ⟨d,ms,kvs,rfl,e1,e2,hl,h⟩
theorem jL {neg:Bool} {d1 d2:D} (e1:d1=kT ms) (e2:d2=dc kvs) (h:q (.bl (if neg then !decide (ms∈kvs.map (·.1)) else decide (ms∈kvs.map (·.1))))):Da neg d1 d2 q:=⟨ms,kvs,e1,e2,h⟩
end
theorem jM {α:Type} [DecidableEq α] {n:Nat} {f:α->D} (e:Enc n f) {x:α} {l:List α} (h:q (.bl (decide (x∈l)))) (hn:n+1<=40:=by decide):B1 false (f x) (.tup (l.map f)) q:=⟨_,.inr rfl,e.okd (by lia) x,e.lst.okd hn l,by simpa only [e.any,Gi,if_false] using h⟩
theorem oT {ve:VT} {A:D->List Sl->Prop} {B:List Sl->Prop} (h:B S):cY ve A B false S:=dm (fun e=>nomatch e) fun _=>h
section
variable {K:Ed} {X:Cx} {e:Expr} {te:TE} {va:VT} {pos pos':Pos} {x:Str}
theorem aH {i:Nat} (hN:X.N.Nodup) (hi:X.N[i]?=some x) (hx:Loc X.env.scope x) (h:VE K X false e te va) (hs:GP e (some (.Name x pos')) pos.line X.env=pure false:=by rfl)
  (hf:X.fn x=true\/X.env.scope.names.lookup x=some .local:=by first | exact .inl rfl | exact .inr rfl | assumption):VS K X (.Assign [.Name x pos'] e pos) (cU te (aX i)) (mj va (vgN i)):=zf (fun _ h=>bQ hN hi hx h hs hf) h
end
end VL
end
section
namespace VL
open PySem L2
section
variable {K:Ed} {X:Cx} {m:Bool} {e a b o:Expr} {te ta tb:TE} {va vb:VT} {pos apos:Pos}
def Dh (t:VTN) (vb:VT):VT:=fun S Q=>t S fun ds S1=>vb S1 fun rb S2=>∃j d,get S2 rb=some (.int j)/\atI ds j=some d/\Q (.d d) S2
theorem my {t:VTN} (hK:X.K=K) (ha:VN K X a ta t) (hb:VE K X false b tb vb) (hs:eG b):VE K X m (.Subscript a b pos) (tOp (rIx K) ta tb) (Dh t vb):=⟨by subst hK;exact kA p8 ha.pe hb.pe hs,fun H0 Z σ H S Q C k t hc=>
 ha.snd H0 Z σ H S _ _ k t fun p vs ds H1 H' S1 k1 st1 hp hg hl rr t1=>by
  have k1':=k1.grow hg
  have rl:Rep K (NM Z σ S1) (FM H0 true) H' (.ref p) (.lst ds):=.lst (k1.nm hp) (fun _=>⟨p,rfl,k1.dom p hp⟩) hl (rr.mono (fun b n _=>⟨n.1,rfl⟩) fun _ x _=>x)
  refine hb.snd H0 Z σ H' S1 _ _ k1' t1 fun y H2 rb S2 k2 st2 r2 zr1=>?_
  obtain ⟨j,d,e2,e3,q⟩:=zr1
  cases r2.get k2 e2
  have rl2:=rl.step st2
  cases rl2 with
  | lst n f h r=>
   obtain ⟨v,h3,h4⟩:=g9 r e3
   exact .inl ⟨p,_,j,v,rfl,rfl,.inl (.inl h),h3,hc v H2 (.d d) S2 k2 ((st1.trans (.grow hg)).trans st2) (show Rep K _ _ H2 v d from h4.mono (fun _ n _=>⟨n,rfl⟩) fun _ x _=>x rfl) q⟩
  | lstF n f h r=>obtain ⟨c,ec,_⟩:=f rfl;cases ec
  | lstK f h r=>obtain ⟨c,ec,_⟩:=f rfl;cases ec⟩
end
section
variable {S:List Sl} {Q:VR->List Sl->Prop} {va vb:VT} {vn:VTN}
@[irreducible] def nL (vb:VT) (Q:VR->List Sl->Prop):List D->List Sl->Prop:=fun ds S1=>vb S1 fun rb S2=>∃j d,get S2 rb=some (.int j)/\atI ds j=some d/\Q (.d d) S2
@[irreducible] def nM (ds:List D) (Q:VR->List Sl->Prop):VR->List Sl->Prop:=fun rb S2=>∃j d,get S2 rb=some (.int j)/\atI ds j=some d/\Q (.d d) S2
theorem Di (h:vn S (nL vb Q)):Dh vn vb S Q:=by unfold nL at h;exact h
theorem uH (h:vb S (nM ds Q)):nL vb Q ds S:=by unfold nL;unfold nM at h;exact h
theorem gC {j:Int} (e2:get S r=some (.int j)) (e3:atI ds j=some d) (h:Q (.d d) S):nM ds Q r S:=by unfold nM;exact ⟨j,d,e2,e3,h⟩
theorem Dj {x y:Str} (h:q (.bl (decide (x=y)))):wEq (.str x) (.str y) q:=⟨.str x,.str y,rfl,rfl,rfl,by simpa using h⟩
theorem Dk {x y:Str} (h:q (.bl (!decide (x=y)))):wNe (.str x) (.str y) q:=⟨.str x,.str y,rfl,rfl,rfl,by simpa using h⟩
end
end VL
end
section
namespace L2
open PySem PySem.Spec PyProof.Rows
section
variable {X:Cx}
def Dl (K:Ed):V->Hp->VK->Prop:=fun x H Q=>∃a xs,x=.ref a/\SqL K H a xs/\∀p,H p=none->Q (.ref p) (upd H p (.lst xs.reverse))
variable {e st:Expr} {te ts:TE} {p2 pos:Pos}
theorem Aj {j:Nat} {q1 q2:Pos} (he:PE X e te) (hst:PE X (.UnaryOp .USub (.Constant (.int 1) j q1) q2) (fun _ H Q=>Q (.int (-1)) H)):PE X (.Subscript e (.Slice none none (some (.UnaryOp .USub (.Constant (.int 1) j q1) q2)) p2) pos) (fun σ H Q=>te σ H fun x H1=>Dl X.K x H1 Q):=by
 intro pins s σ H Q I h
 refine Subscript_ (thn (he pins s σ H _ I h) fun v s1 zr1=>?_)
 obtain ⟨x,H1,I1,r1,q1⟩:=zr1
 refine wpAny_Slice ?_
 rw [evalPart_none]
 apply Es
 apply Es
 rw [evalPart_some]
 refine thn (hst pins s1 σ H1 (fun y H2=>y=.int (-1)/\H2=H1) I1 ⟨rfl,rfl⟩) fun vk s3 zr1=>?_
 obtain ⟨y,H3,I3,r3,e3,e4⟩:=zr1
 subst e3;subst e4
 obtain ⟨t,rfl⟩:=r3
 obtain ⟨a,xs,rfl,hx,q⟩:=q1
 cases r1
 have I4:Inv X pins σ H3 { s3 with heap:=s3.heap.push { cls:=.type "slice",data:=.fields #[.none,.none,.int (-1) t] } }:=I3.kept (t':=s3.toks) fun b ob q=>Eg _ q
 obtain ⟨its,r,ht,hz⟩:=I4.list hx
 have hlen:=r.length
 show Fp (Ff X.prog X.w) X.A (subscriptTail e (.Slice none none (some (.UnaryOp .USub (.Constant (.int 1) j q1) q2)) p2) (.ref a) (.ref s3.heap.objs.size)) (EP X pins σ Q) X.xe { s3 with heap:=s3.heap.push { cls:=.type "slice",data:=.fields #[.none,.none,.int (-1) t] } }
 refine K9 (ops:=[.ref a,.ref s3.heap.objs.size]) ht.isList.typeIs slot_list_getitem.lookup ?_ (by with_unfolding_all rfl)
 refine wpAny_getItem_list_slice ht.isList (Heap.IsSliceOf.new ..) .none .none (.int (-1) t) (by simp) ?_ (by rw [Ex] <;> lia)
 rw [PySem.W.krv_pick]
 refine ⟨.ref _,_,I4.laid (t':=s3.toks) (o:=.lst xs.reverse) (fun b ob q=>Eg _ q) (Ek _) ?_,rfl,q _ (I4.hok.fresh (Ek _))⟩
 refine ⟨by rw [Ii];exact hz,its.reverse,0,r.reverse,?_⟩
 exact EG _ rfl
theorem Dm {p q:Pos} {j:Nat}:PE X (.UnaryOp .USub (.Constant (.int 1) j p) q) (fun _ H Q=>Q (.int (-1)) H):=
 fun pins s σ H Q I h=>(wZ b8 pN) pins s σ H Q I ⟨1,rfl,h⟩
end
end L2
namespace VL
open PySem L2
section
variable {K:Ed} {X:Cx} {m:Bool} {e st:Expr} {te ta:TE} {va vb:VT} {tr:TA} {vr:VTA} {pos p p1 p2 pos2:Pos}
def Do (va:VT):VTN:=fun S Q=>va S fun r S1=>∃ds,get S1 r=some (.lst ds)/\flats ds=true/\Q ds.reverse S1
theorem i9:∀{ds es:List D},flats ds=true->flats es=true->flats (ds++es)=true
 | [],_,_,h=>h
 | d::r,es,h,h2=>by simp only [flats,Fe,EY] at h ⊢;exact ⟨h.1,i9 h.2 h2⟩
theorem ja:∀{ds:List D},flats ds=true->flats ds.reverse=true
 | [],_=>rfl
 | d::r,h=>by
  simp only [flats,Fe] at h
  rw [Hv]
  exact i9 (ja h.2) (by simp [flats,h.1])
theorem Ak {j:Nat} {q1 q2:Pos} (hK:X.K=K) (h:VE K X false e te va):VN K X (.Subscript e (.Slice none none (some (.UnaryOp .USub (.Constant (.int 1) j q1) q2)) p2) pos) (fun σ H Q=>te σ H fun x H1=>Dl K x H1 Q) (Do va):=
 ⟨by subst hK;exact Aj h.pe Dm,fun H0 Z σ H S Q C k t hc=>h.snd H0 Z σ H S _ _ k t fun v H1 r S1 k1 st1 rr zq1=>by
  obtain ⟨ds,e,f,q⟩:=zq1
  obtain ⟨a,vs,rfl,hq,rs⟩:=rr.elems k1 e
  exact ⟨a,vs,rfl,hq,fun p hp=>hc p _ _ H1 _ S1 k1 st1 hp (aT hp) aD (eI hp rs.rev (ja f)) q⟩⟩
end
section
variable {S:List Sl} {Q:VR->List Sl->Prop} {QN:List D->List Sl->Prop} {va vb:VT} {vr:VTA}
@[irreducible] def uI (QN:List D->List Sl->Prop):VR->List Sl->Prop:=fun r S1=>∃ds,get S1 r=some (.lst ds)/\flats ds=true/\QN ds.reverse S1
theorem Dp (h:va S (uI QN)):Do va S QN:=by unfold uI at h;exact h
theorem Al (e:get S r=some (.lst ds)) (f:flats ds=true) (h:QN ds.reverse S):uI QN r S:=by unfold uI;exact ⟨ds,e,f,h⟩
end
end VL
end
section
namespace VL
open PySem L2 PySem.W
section
variable {K:Ed} {X:Cx} {m:Bool} {e:Expr} {te:TE} {va:VT} {pos pos':Pos} {i:Nat} {x:Str}
theorem OK.setFre {H H0:Hp} (k:OK K H0 Z σ H S) (hi:i < S.length) (h:Rep K (NM Z σ S) (Fr H0) H v d):OK K H0 Z (σ.set i (some v)) H (S.set i (.fre d))/\Step Z σ S H (σ.set i (some v)) (S.set i (.fre d)) H:=by
 have n:∀a,NM Z σ S a->NM Z (σ.set i (some v)) (S.set i (.fre d)) a:=fun a x z=>by
  rcases jE z with z | ⟨z,_⟩
  ·exact x z
  ·cases z
 exact ⟨k.put hi (fun a x _=>⟨n a x,rfl⟩) (fun _ _ _ _ _ _ _=>rfl) ⟨v,rfl,h.mono (fun a x _=>⟨n a x,rfl⟩) fun _ x=>x⟩ (fun _ _ _ _ _ _ z=>nomatch z) (fun _ e=>e) k.zl (fun _ z=>nomatch z),fun a x _=>⟨rfl,n a x⟩,fun _ e=>e,fun _ _ _=>rfl⟩
@[irreducible] def lg (i:Nat) (V:bz):VR->List Sl->Prop:=fun r S1=>∃d,r=.d d/\i < S1.length/\V.nx (S1.set i (.fre d))
def xJ (i:Nat) (va:VT):VTS:=fun V S=>va S (lg i V)
theorem An {V:bz} (h:va S (lg i V)):xJ i va V S:=h
theorem jN {V:bz} (hi:i < S.length) (h:V.nx (S.set i (.fre d))):lg i V (.d d) S:=by unfold lg;exact ⟨d,rfl,hi,h⟩
theorem jO (hN:X.N.Nodup) (hi:X.N[i]?=some x) (hx:Loc X.env.scope x) (h:VE K X true e te va) (hs:GP e (some (.Name x pos')) pos.line X.env=pure false:=by rfl)
  (hf:X.fn x=true\/X.env.scope.names.lookup x=some .local:=by first | exact .inl rfl | exact .inr rfl | assumption):VS K X (.Assign [.Name x pos'] e pos) (cU te (aX i)) (xJ i va):=
 ⟨bQ hN hi hx h.pe hs hf,fun H0 Z σ H S V E k t l=>h.snd H0 Z σ H S _ _ k t fun v H' r S' k' st rr q=>by
  unfold lg at q
  obtain ⟨d,e,hi,q⟩:=q
  subst e
  have r:Rep K (NM Z σ S') (Fr H0) H' v d:=(show Rep K (NM Z σ S') (FM H0 true) H' v d from rr).mono (fun _ n _=>⟨n,rfl⟩) fun _ x=>x rfl
  exact l.nx _ _ _ (k'.setFre hi r).1 (st.trans (k'.setFre hi r).2) q⟩
def xK (i:Nat):VT:=fun S Q=>∃d,(S[i]?=some (.fre d)\/S[i]?=some (.val d)/\flat d=true)/\Q (.d d) S
theorem nN (i:Nat) (h:PE X e (cP i)):VE K X m e (cP i) (xK i):=⟨h,fun H0 Z σ H S Q C k zq1 hc=>by
 obtain ⟨d,h,q⟩:=zq1
 rcases h with h | ⟨h,hf⟩
 ·obtain ⟨o,h1,v,rfl,r⟩:=k.ownAt h
  exact ⟨v,h1,hc _ _ (.d d) _ k .refl (show Rep K _ _ _ _ _ from r.mono (fun _ n _=>⟨n,rfl⟩) fun _ x _=>x) q⟩
 ·obtain ⟨o,h1,v,rfl,r⟩:=k.ownAt h
  exact ⟨v,h1,hc _ _ (.d d) _ k .refl (show Rep K _ _ _ _ _ from Rep.flat r hf) q⟩⟩
theorem Ao {Q:VR->List Sl->Prop} (h:S[i]?=some (.fre d)\/S[i]?=some (.val d)/\flat d=true) (q:Q (.d d) S):xK i S Q:=⟨d,h,q⟩
end
end VL
end
section
namespace L2
open PySem PySem.Spec PyProof.Rows PySem.W
section
variable {X:Cx}
theorem DctP.at {D:Addr} {h h':Heap} (d:DctP D es h) (e:h'.get? D=h.get? D):DctP D es h':=
 let ⟨z,m,nd,xs,ev,o,ds,ep,q,r⟩:=d;⟨z,m,nd,xs,ev,o,ds,ep,e.trans q,r⟩
theorem DctP.nocell {D:Addr} {h:Heap} {o:Obj} (d:DctP D es h) (e:h.get? D=some o):∀v,o.data≠.cell v:=fun v z=>by
 obtain ⟨_,_,_,_,_,o',ds,ep,q,_,hd,_⟩:=d
 rw [e] at q;cases q
 rw [hd] at z;cases z
theorem uJ {D:Addr} {h:Heap} (e:h.get? D=some { cls:=.type "dict",data:=.dict #[] }) (hb:GB < D):DctP D [] h:=
 ⟨Ga _,beq_eq_false_iff_ne.mpr (Gu (E5 hb)),JX,[],.nil,_,#[],0,e,⟨rfl,rfl,rfl⟩,rfl,rfl⟩
theorem uK {s:El} {a:Addr} (I:Inv X pins σ H s) (d:DctP a es s.heap) (k:cr X.K H es):es.length<=EW/\(a==GB)=false/\(es.map (·.1)).Nodup /\
  ∃xs,EV es xs/\s.heap.DictOfH (Jn (KT.numKind X.prog X.w)) a xs:=by
 obtain ⟨z,m,nd,xs,ev,o,ds,ep,h1,h2,h3,h4⟩:=d
 refine ⟨z,m,nd,xs,ev,o,ds,ep,h1,h2,h3,h4,fun x hx=>?_,ev.keys▸nd⟩
 obtain ⟨e,he,e1,e2⟩:=ev.mem x hx
 exact e1▸e2▸dG I (k e he)
def qZ (K:Ed) (wi:TI) (n:Nat) (ix:List Nat) (g:TG) (tc:TT) (tk tv:TE):TE:=fun σ H Q=>wi σ H fun J H1=>∃W:Nat->Nat->List (List Int×Addr×V)->Hp->Prop,(∃m,W 0 m [] H1)/\∀i m es H2,W i m es H2 ->
 (J.stop i H2/\∀D ob,H2 D=none->Q (.ref D) (upd H2 D (b0 D ob es))) \/
 (J.go i H2/\es.length < EW/\∃Nx:List (List Int×Addr×V)->Hp->Prop,(∀es' H',Nx es' H'->∃m',m' < m/\W (i+1) m' es' H') /\
  ∀x H3,J.yld i H2 x H3->g x (capt n ix σ) H3 fun σ2 H4=>tc σ2 H4 fun b H5=>if b=true then tk σ2 H5 fun y H6=>tv σ2 H6 fun v H7=>∃b ms,y=.ref b/\SqN K H7 b ms/\cr K H7 es/\Nx (ff es ms b v) H7 else Nx es H5)
theorem rf {kx vx target iter:Expr} {ifs:List Expr} {scope:Ha} {pos:Pos} {tg cs:List Str} {wi:TI} {g:TG} {tc:TT} {tk tv:TE} (hu:X.A.units+64 < Ji) (S:aS X scope tg cs ix) (hcalm:X.calm=true) (kg:cV tg.length ix g)
    (hi:PI X target iter wi) (hg:∀C fp s H,PG (ak X scope (tg++cs) C fp s H) target g) (hc:∀C fp s H,PTs (ak X scope (tg++cs) C fp s H) ifs tc) (hk:∀C fp s H,PE (ak X scope (tg++cs) C fp s H) kx tk) (hv:∀C fp s H,PE (ak X scope (tg++cs) C fp s H) vx tv)
    (hs:∀x,EC iter X.env x=pure x:=by intro _;rfl):PE X (.DictComp kx vx [⟨target,iter,ifs,0⟩] scope pos) (qZ X.K wi tg.length ix g tc tk tv):=by
  intro pins s σ H Q I h
  rw [arm_eval_DictComp]
  refine Gj (use:=none) (cl:=bB X.env scope.names []) rfl hs (cF fun n hn=>I.ok.has n (S.out n hn)) S.kind S.names ?_
  refine EN (hi pins s σ H _ I h) (fun v s1 h1=>EN h1 (fun itv s2 h2=>?_) fun _ _ e=>e) fun _ _ e=>e
  obtain ⟨it,fp,tn,J,H2,rfl,I2,T,st2,f2,W,⟨m0,w0⟩,turn⟩:=h2
  refine F9 (Gz S.nocell (by intro y hy;simp at hy) (fun h1 hns1 hsb1=>?_) S.kind)
  dsimp only at hns1 hsb1 ⊢
  generalize hP:s2.heap.push { cls:=.type "dict",dict:=none,data:=.dict #[] }=P2 at hns1 hsb1 ⊢
  have hCs:P2.objs.size=s2.heap.objs.size+1:=by rw [<- hP,HA]
  have hDC:s2.heap.objs.size≠P2.objs.size:=by rw [hCs];exact E5 (Hg _)
  have hCle:s2.heap.objs.size<=P2.objs.size:=by rw [hCs];exact GY _
  generalize hCg:P2.objs.size=C at *
  have old:∀b o,s2.heap.get? b=some o->h1.get? b=some o:=fun b o e=>hsb1.extBut b o (E5 (EI (EA e) hCle)) (Eg _ (hP▸Eg _ e))
  generalize hDg:s2.heap.objs.size=D at *
  have hD0:h1.get? D=some { cls:=.type "dict",data:=.dict #[] }:=hsb1.extBut _ _ hDC (Eg _ (hP▸hDg▸EG _ rfl))
  have nC:H2 C=none:=I2.hok.fresh (by rw [hDg];exact hCle)
  have nD:H2 D=none:=I2.hok.fresh (by rw [hDg];exact Ek _)
  have fo:∀b∈fp,∃o,s2.heap.get? b=some o:=fun b hb=>let ⟨o,e,_⟩:=T.obj _ _ st2 b hb;⟨o,e⟩
  have Dfp:D∉fp:=fun z=>by
    obtain ⟨o,e⟩:=fo D z
    have:=EA e
    rw [hDg] at this
    exact absurd this (FC _)
  have Dfs:D∉frs X.stack:=fun z=>by
    rcases List.mem_cons.mp (I2.stkSub D z) with e | e
    · have:=I2.lt
      rw [<- e,hDg] at this
      exact absurd this (FC _)
    · exact I2.nofs (by rw [hDg];exact Ek _) e
  have DcY:∀x c,(bB X.env scope.names []).lookup x=some c->c≠D:=fun x c e=>by
    rcases cE (Fo e) with h | h
    · cases h
    · exact (I2.fpOk (H':=H2) (b:=D) (by rw [hDg];exact Ek _) nD).2.2.2.2.1 x c h
  -- the block's context
  have Yok:∀s4:El,s4={ s2 with heap:=h1,toks:=s2.toks+([]:List (Str×Ej)).length }->Inv (ak X scope (tg++cs) C fp s2 H2) [] (capt tg.length ix σ) H2 s4:=by
    rintro s4 rfl
    exact dQ S I2 f2 fo (by rw [hDg];exact hCle) old (by simpa using hns1) rfl I2.bare nC
  -- the loop
  have loop:∀s4:El,s4={ s2 with heap:=h1,toks:=s2.toks+([]:List (Str×Ej)).length } ->
      G8 (Ff X.prog X.w) X.A (.compLoop (.DictComp kx vx [⟨target,iter,ifs,0⟩] scope pos) 0 (.ref it) (.ref D) (GN scope (bB X.env scope.names []) C X.env)) (Kj (Ff X.prog X.w) X.A X.xe none (EP X pins σ Q) (.ref D) C) s4:=by
    intro s4 e4
    refine Hj rfl (fun n s'=>∃i es o H',Inv (ak X scope (tg++cs) C fp s2 H2) [] (capt tg.length ix σ) H' s'/\tn i s'.heap/\(∀b∈fp,H' b=none)/\H' D=none/\s'.heap.get? D=some o/\DctP D es s'.heap/\W i n es H')
      ?_ m0 ⟨0,[],_,H2,Yok s4 e4,?_,fun b hb=>(f2 b hb).1,nD,by rw [e4];exact hD0,uJ (by rw [e4];exact hD0) (by rw [<- hDg];exact qV I2),w0⟩
    · rintro n s5 ⟨i,es,o,H5,I5,st5,fr5,d5,o5,v5,w5⟩
      show Fp _ X.A ((HB (.DictComp kx vx [⟨target,iter,ifs,0⟩] scope pos) 0 (.ref it) (.ref D) (GN scope (bB X.env scope.names []) C X.env)).onRaise (fun x=>do Jx x (GN scope (bB X.env scope.names []) C X.env);GZ x)) _ _ s5
      refine Hx ?_
      rw [compTurn_dict]
      have pin0:Inv (ak X scope (tg++cs) C fp s2 H2) [(D,o)] (capt tg.length ix σ) H5 s5:=I5.pins_of fun p hp=>by
        have e:p=(D,o):=by simpa using hp
        subst e
        exact ⟨o5,d5,hDC,Dfs,v5.nocell o5⟩
      have fpY:∀{H':Hp},(∀b∈fp,H' b=none)->∀b∈fp,dN (ak X scope (tg++cs) C fp s2 H2) [(D,o)] H' b:=fun hn b hb=>
        ⟨hn b hb,(I5.ok.exf b hb).1,fun z=>I5.ok.exfs b hb z,.inl hb,(I5.ok.exf b hb).2,fun p hp z=>by
          have hp:p∈([]:List (Addr×Obj))++[(D,o)]:=hp
          have e:p=(D,o):=by simpa using hp
          subst e
          have z:D=b:=z
          exact Dfp (z▸hb)⟩
      refine Ef (FD (Ef ?_))
      rcases turn i n es H5 w5 with ⟨stop,qn⟩ | ⟨go,hz,Nx,hN,step⟩
      · refine thn (T.done (ak X scope (tg++cs) C fp s2 H2) rfl rfl rfl hcalm i _ s5 _ H5 _ pin0 (fpY fr5) st5 stop) fun r s6 zr1=>?_
        obtain ⟨hr,I6⟩:=zr1
        subst hr
        refine Es ?_
        obtain ⟨mC,hnsC,_⟩:=id I6.loc
        refine ⟨mC,hnsC,fun h' sb=>?_⟩
        have IX:Inv X pins σ H5 s6:=I2.call' (ch:=fp) I6.os I6.base I6.hok I6.bare fun b hb=>let ⟨_,a1,_,a3,a4,a5⟩:=f2 b hb;⟨a3,a1,a4,a5⟩
        obtain ⟨_,c1,_,c3,c4,c5⟩:=I2.fpOk (H':=H5) (b:=C) (by rw [hDg];exact hCle) I6.free
        have IX2:Inv X pins σ H5 { s6 with heap:=h' }:=IX.turned (t':=s6.toks) (fun b o hb e=>(sb.2 b hb).trans e) I6.free c1 c3 c4 c5
        obtain ⟨_,b1,_,b3,b4,b5⟩:=I2.fpOk (H':=H5) (b:=D) (by rw [hDg];exact Ek _) d5
        have gD:h'.get? D=some o:=(sb.2 D hDC).trans (I6.pin (D,o) (Ee _ Em)).1
        exact ⟨.ref D,upd H5 D (b0 D o es),IX2.track d5 (by rw [<- hDg];exact I2.sz) b1 b4 b5 ((v5.at (gD.trans o5.symm)).ok gD),rfl,qn D o d5⟩
      · refine thn (T.item (ak X scope (tg++cs) C fp s2 H2) rfl rfl rfl hcalm i _ s5 _ H5 _ pin0 (fpY fr5) st5 go) fun r s6 zr1=>?_
        obtain ⟨u,hr,h6⟩:=zr1
        subst hr
        refine Ef (thn h6 fun _ s7 zr1=>?_)
        obtain ⟨x,H7,I7,r7,y7,st7,fr7⟩:=zr1
        have I7':=I7.pinned (fpY fr7) (T.obj _ _ st7)
        -- the next turn
        have Ip:∀{σ2:St} {H8:Hp} {s8:El} {es':List (List Int×Addr×V)} {o':Obj},Inv (ak X scope (tg++cs) C fp s2 H2) [] σ2 H8 s8->(σ2.length=(capt tg.length ix σ).length/\∀(i:Nat) (v:V),(capt tg.length ix σ)[i]?=some (some v)->σ2[i]?=some (some v)) ->
            (∀b∈fp,∀o,s7.heap.get? b=some o->s8.heap.get? b=some o)->(∀b∈fp,H8 b=none)->H8 D=none->s8.heap.get? D=some o'->DctP D es' s8.heap->Nx es' H8 ->
            ∃m,m < n/\∃i es o H',Inv (ak X scope (tg++cs) C fp s2 H2) [] (capt tg.length ix σ) H' s8/\tn i s8.heap/\(∀b∈fp,H' b=none)/\H' D=none/\s8.heap.get? D=some o/\DctP D es s8.heap/\W i m es H':=by
          intro σ2 H8 s8 es' o' I8 kp fk fn dn dg vv nx
          obtain ⟨m',hm,w8⟩:=hN es' H8 nx
          exact ⟨m',hm,i+1,es',o',H8,I8.weak kp.1.symm kp.2,T.keep _ _ _ st7 fk,fn,dn,dg,vv,w8⟩
        refine Ef (EN (hg C fp s2 H2 _ s7 _ H7 x u _ I7' r7 (kg x σ H7 _ (step x H7 y7))) (fun _ s8 zr1=>?_) fun _ _ z=>z.elim)
        obtain ⟨σ8,H8,I8,kp8,q8⟩:=zr1
        refine Ef (EN (hc C fp s2 H2 _ s8 σ8 H8 _ I8 q8) (fun ok s9 zr1=>?_) fun _ _ z=>z.elim)
        obtain ⟨H9,I9,q9⟩:=zr1
        have pinsOf:∀{σ':St} {H':Hp} {s':El},Inv (ak X scope (tg++cs) C fp s2 H2) ([(D,o)]++bO fp s7.heap) σ' H' s' ->
            (∀b∈fp,∀o,s7.heap.get? b=some o->s'.heap.get? b=some o)/\(∀b∈fp,H' b=none)/\H' D=none/\s'.heap.get? D=some o:=by
          intro σ' H' s' I'
          refine ⟨fun b hb o e=>(I'.pin (b,o) (Ee _ (Ee _ (aM hb e)))).1,fun b hb=>?_,(I'.pin (D,o) (Ee _ (EF _ Em))).2.1,(I'.pin (D,o) (Ee _ (EF _ Em))).1⟩
          obtain ⟨o,e,d⟩:=T.obj _ _ st7 b hb
          exact (I'.pin (b,o) (Ee _ (Ee _ (aM hb e)))).2.1
        cases ok with
        | false=>
          obtain ⟨p1,p2,p3,p4⟩:=pinsOf I9
          exact Es ⟨rfl,Ip (I9.pins_of fun p hp=>nomatch hp) kp8 p1 p2 p3 p4 (v5.at (p4.trans o5.symm)) q9⟩
        | true=>
          have q9:tk σ8 H9 fun y H6=>tv σ8 H6 fun v H7=>∃b ms,y=.ref b/\SqN X.K H7 b ms/\cr X.K H7 es/\Nx (ff es ms b v) H7:=q9
          refine Ef (Ef (EN (hk C fp s2 H2 _ s9 σ8 H9 _ I9 q9) (fun kv s10 zr1=>?_) fun _ _ z=>z.elim))
          obtain ⟨y,H10,I10,ry,q10⟩:=zr1
          refine Ef (FR (EN (hv C fp s2 H2 _ s10 σ8 H10 _ I10 q10) (fun vv s11 zr1=>?_) fun _ _ z=>z.elim))
          obtain ⟨v,H11,I11,rv,b,ms,ey,sq,ka,nx⟩:=zr1
          subst ey
          cases ry
          obtain ⟨p1,p2,p3,p4⟩:=pinsOf I11
          have P11:DctP D es s11.heap:=v5.at (p4.trans o5.symm)
          obtain ⟨z,m,nd,xs,ev,dd⟩:=uK I11 P11 ka
          refine Ef (FD (FR (wpAny_dictSet_heap (hsz:=by rw [<- GL ev];exact z) (show (Jn (KT.numKind X.prog X.w)).room X.A from by show X.A.units < Ji;lia) (dG (X:=ak X scope (tg++cs) C fp s2 H2) I11 sq) dd fun h' dd' hs'=>?_)))
          have I12:Inv (ak X scope (tg++cs) C fp s2 H2) [] σ8 H11 s11:=I11.pins_of fun p hp=>nomatch hp
          have I13:Inv (ak X scope (tg++cs) C fp s2 H2) [] σ8 H11 { s11 with heap:=h',toks:=s11.toks+(Jn (KT.numKind X.prog X.w)).draws ms }:=
            I12.turned (fun b o hb e=>(hs'.2 b hb).trans e) p3 hDC (.inr (by show s2.heap.objs.size<=D;rw [hDg];exact Ek _)) DcY (fun p hp=>nomatch hp)
          obtain ⟨qo,qd,qe,h1q,h2q,h3q,h4q,_,h5q⟩:=dd'
          refine Es ⟨rfl,Ip I13 kp8 (fun b hb o e=>(hs'.2 b (fun z:b=D=>Dfp (z▸hb))).trans (p1 b hb o e)) p2 p3 h1q ⟨?_,m,?_,_,ev.put ms rv,qo,qd,qe,h1q,h2q,h3q,h4q⟩ nx⟩
          · have:=iw es ms b v;lia
          · rw [(ev.put ms rv).keys];exact h5q
    · rw [e4];exact T.keep _ _ _ st2 fun b _ o e=>old b o e
  exact codeAny_compStart_dict (loop _ rfl) (T.self _ 0 _ _ _ (T.keep _ _ _ st2 fun b _ o e=>old b o e) (loop _ rfl))
end
end L2
namespace VL
open PySem L2 PySem.W
section
variable {X:Cx} {K:Ed} {m:Bool} {e:Expr} {te:TE} {va:VT} {pos:Pos}
theorem jP {N:AP} {k:List Int}:∀{es:List (List Int×Addr×V)} {kvs:List (List Int×D)},es.map (·.1)=kvs.map (·.1)->Reps K N F H (es.map (·.2.2)) (kvs.map (·.2)) ->
  (atE es k=none/\getA kvs k=none)\/∃v d,atE es k=some v/\getA kvs k=some d/\Rep K N F H v d
 | [],[],_,_=>.inl ⟨rfl,rfl⟩
 | [],_::_,h,_=>by cases h
 | _::_,[],h,_=>by cases h
 | e::es,p::ps,h,.cons r t=>by
  have h1:e.1=p.1:=(Kk h).1
  by_cases z:p.1=k
  ·exact .inr ⟨e.2.2,p.2,by simp [atE,h1,z],by simp [getA,z],r⟩
  ·rcases jP (k:=k) (Kk h).2 t with ⟨a,b⟩ | ⟨v,d,a,b,r⟩
   ·exact .inl ⟨by simpa [atE,FT,h1,z] using a,by simpa [getA,FT,z] using b⟩
   ·exact .inr ⟨v,d,by simpa [atE,FT,h1,z] using a,by simpa [getA,FT,z] using b,r⟩
def Dq (i:Nat) (vn:VTN):VT:=fun S Q=>(∃ds,S[i]?=some (.own ds))/\vn S fun ds2 S1=>∃ds,S1[i]?=some (.own ds)/\ds.length+ds2.length<=1000000/\Q (.d .non) (S1.set i (.own (ds++ds2)))
theorem Ap {apos:Pos} {o:Expr} {vn:VTN} (i:Nat) (hK:X.K=K) (ho:PE X o (cP i)) (h:VN K X e te vn) (hbase:HP o "extend" X.env (eval o X.env)=eval o X.env:=by rfl)
  (hfew:((HD pos (EO (e::[]) X.env)).all (fun x=>!x.1)&&(backToKw pos (KQ [] X.env)).all (fun x=>x.1.isSome)
   && decide ((e::[]).length+([]:List KR).length+(if ([]:List KR).isEmpty then 0 else 1) < 30))=true:=by rfl)
  (hline:(apos.endLine==pos.line)=true:=by rfl) (hs:EO (e::[]) X.env=(false,eval e X.env)::EO [] X.env:=by rfl) (hplain:(HD pos (EO [] X.env)).any (·.1)=false:=by rfl) :
  VE K X m (.Call (.Attribute o "extend" apos) [e] [] pos) (tBM K "list" m3 (cP i) (iR te oC)) (Dq i vn):=
 ⟨by subst hK;exact w9 Jc PySem.F.slot_list_extend PySem.F.type_list_extend oF ho (jt h.pe lU hs) hbase hfew hline hs hplain,fun H0 Z σ H S Q C k zq1 hc=>by
  obtain ⟨⟨ds0,e0⟩,t⟩:=zq1
  obtain ⟨o,h1,a,vs,rfl,h2,h3,h4⟩:=k.ownAt e0
  refine ⟨.ref a,h1,.inl ⟨rfl,vs,.inl (.inl h2)⟩,?_⟩
  refine h.snd H0 Z σ H S _ _ k t fun b us ds2 H1 H' S1 k1 st1 hb hg hl rr zr1=>?_
  obtain ⟨ds,e1,hlen,q⟩:=zr1
  have k':=k1.grow hg
  obtain ⟨o',g1,a',vs',rfl,g2,g3,g4⟩:=k'.ownAt e1
  rw [h1] at g1;cases g1
  have l1:=g4.length
  have l2:=rr.length
  refine ⟨a,b,vs',us,rfl,rfl,g2,hl,by rw [FQ];lia,?_⟩
  have na:NM Z σ S1 a->False:=fun n=>n (.inl ⟨i,_,e1,rfl,h1⟩)
  have hm:∀c,NM Z σ S1 c->H' c≠none->NM Z σ S1 c/\upd H' a (.lst (vs'++us)) c=H' c:=fun c n _=>⟨n,aC fun z=>na (by rw [<- z];exact n)⟩
  obtain ⟨k2,st2⟩:=k'.chg (s:=.own (ds++ds2)) (o:=.lst (vs'++us)) e1 rfl h1 ⟨_,rfl⟩ rfl ⟨a,_,rfl,aD,g3,Reps.append (g4.mono hm fun _ x=>x) (rr.mono (fun c n z=>hm c n.1 z) fun _ x=>x)⟩
  exact hc .non _ (.d .non) _ k2 ((st1.trans (.grow hg)).trans st2) Rep.non q⟩
end
section
variable {K:Ed} {X:Cx} {kx vx iter:Expr} {pos:Pos}
theorem Aq {H0 H:Hp} {y:V} {ri:VR} {m:Bool} (rr:dU K (FM H0 m) Z σ S H y ri) (ek:get S ri=some (kT ms)):∃b,y=.ref b/\SqT K H b (ms.map L2.V.int)/\Rep K (NM Z σ S) AnyF H (.ref b) (kT ms):=by
 cases ri with
 | d z=>
  cases ek
  obtain ⟨b,vs,rfl,hq,r2⟩:=Rep.sqT (show Rep K _ _ H y (.tup (ms.map D.int)) from rr)
  cases Reps.toInts r2
  exact ⟨b,rfl,hq,Rep.mono (fun _ n _=>⟨n,rfl⟩) (fun _ _=>trivial) rr⟩
 | own j=>
  have ek:getO S[j]?=some (kT ms):=ek
  cases e:S[j]? with
  | none=>rw [e] at ek;cases ek
  | some s=>rw [e] at ek;cases s <;> cases ek
def rh (vi:VTN) (n:Nat) (ix:List Nat) (vg:VG) (vt:VTT) (vk vv:VT):VTD:=fun S Q=>vi S fun ds S1=>ds.length<=1000000/\∃Iv:Nat->List (List Int×D)->List Sl->Prop,Iv 0 [] S1 /\
 (∀i d kvs S2,ds[i]?=some d->Iv i kvs S2->vg d (aV n ix S2) fun S3=>vt S3 fun b S4=>if b=true then vk S4 fun rk S5=>vv S5 fun rv S6=>∃ms x,get S6 rk=some (kT ms)/\rv=.d x/\Iv (i+1) (cu kvs ms x) (backS n ix S2 S6) else Iv (i+1) kvs (backS n ix S2 S4)) /\
 ∀kvs S2,Iv ds.length kvs S2->Q kvs S2
theorem uL {ifs:List Expr} {scope:Ha} {tg cs:List Str} {target:Expr} {wi:TI} {vi:VTN} {g:TG} {vg:VG} {tc:TT} {vt:VTT} {tk tv:TE} {vk vv:VT} (hK:X.K=K) (hu:X.A.units+64 < Ji) (Sc:aS X scope tg cs ix) (hcalm:X.calm=true) (kg:cV tg.length ix g) (hnd:ix.Nodup)
    (hi:VI K X target iter wi vi) (hg:∀C fp s H,VGe K (ak X scope (tg++cs) C fp s H) target g vg) (hc:∀C fp s H,VTs K (ak X scope (tg++cs) C fp s H) ifs tc vt) (hk:∀C fp s H,VE K (ak X scope (tg++cs) C fp s H) false kx tk vk) (hv:∀C fp s H,VE K (ak X scope (tg++cs) C fp s H) true vx tv vv)
    (hs:∀x,EC iter X.env x=pure x:=by intro _;rfl):VDe K X (.DictComp kx vx [⟨target,iter,ifs,0⟩] scope pos) (qZ K wi tg.length ix g tc tk tv) (rh vi tg.length ix vg vt vk vv):=by
  have sg:SndG K g vg:=(hg 0 [] X.s₀ (fun _=>none)).snd
  have sc:SndT K tc vt:=(hc 0 [] X.s₀ (fun _=>none)).snd
  have sk:SndE K false tk vk:=(hk 0 [] X.s₀ (fun _=>none)).snd
  have sv:SndE K true tv vv:=(hv 0 [] X.s₀ (fun _=>none)).snd
  refine ⟨by subst hK;exact rf hu Sc hcalm kg hi.pi (fun C fp s H=>(hg C fp s H).pg) (fun C fp s H=>(hc C fp s H).pe) (fun C fp s H=>(hk C fp s H).pe) (fun C fp s H=>(hv C fp s H).pe) hs,fun H0 Z σ H S Q C k t hq=>?_⟩
  refine hi.snd H0 Z σ H S _ _ k t fun J ds H1 S1 k1 st1 gd zr1=>?_
  obtain ⟨hl,Iv,i0,hs,hd⟩:=zr1
  refine ⟨fun i m es H=>m=ds.length-i/\i<=ds.length/\es.length<=i/\∃S2 kvs,OK K H0 Z σ H S2/\Step Z σ S1 H1 σ S2 H/\es.map (·.1)=kvs.map (·.1)/\Reps K (NM Z σ S2) AnyF H (es.map fun x=>V.ref x.2.1) ((kvs.map (·.1)).map kT)/\Reps K (NM Z σ S2) (Fr H0) H (es.map (·.2.2)) (kvs.map (·.2))/\Iv i kvs S2,
    ⟨ds.length,by simp,Ga _,Ek _,S1,[],k1,.refl,rfl,.nil,.nil,i0⟩,?_⟩
  rintro i m es H2 ⟨rfl,hi,hy,S2,kvs,k2,st2,ek,rk,rz,p⟩
  obtain ⟨g1,g2,g3⟩:=gd σ S2 H2 (fun _=>k2.nm) st2.1 i
  have hsz:(1000000:Nat) < EW:=by rw [FQ];lia
  by_cases hlt:i < ds.length
  · refine .inr ⟨g1 hlt,by lia,fun es' H'=>es'.length<=i+1/\∃S' kvs',OK K H0 Z σ H' S'/\Step Z σ S1 H1 σ S' H'/\es'.map (·.1)=kvs'.map (·.1)/\Reps K (NM Z σ S') AnyF H' (es'.map fun x=>V.ref x.2.1) ((kvs'.map (·.1)).map kT)/\Reps K (NM Z σ S') (Fr H0) H' (es'.map (·.2.2)) (kvs'.map (·.2))/\Iv (i+1) kvs' S',
      fun es' H' zt1=>by obtain ⟨p1,p2⟩:=zt1;exact ⟨ds.length-(i+1),by lia,rfl,hlt,p1,p2⟩,fun x H3 y=>?_⟩
    obtain ⟨hgr,d,hd',rd⟩:=g2 x H3 y hlt
    replace k2:=k2.grow hgr
    replace st2:=st2.trans (.grow hgr)
    replace rk:=rk.step (.grow hgr)
    replace rz:=rz.step (.grow hgr)
    have kc:=k2.capt (n:=tg.length) hnd
    have rd':Rep K (NM (Zin Z ix σ S2) (L2.capt tg.length ix σ) (aV tg.length ix S2)) AnyF H3 x d:=rd.mono (fun a n _=>⟨fun z=>n (dY.mp z),rfl⟩) fun _ x=>x
    have h1:=sg H0 _ _ H3 _ x d _ (fun σ4 H4=>∃S4,OK K H0 (Zin Z ix σ S2) σ4 H4 S4/\Step (Zin Z ix σ S2) (L2.capt tg.length ix σ) (aV tg.length ix S2) H3 σ4 S4 H4/\vt S4 fun b S5=>if b=true then vk S5 fun rk S6=>vv S6 fun rv S7=>∃ms x,get S7 rk=some (kT ms)/\rv=.d x/\Iv (i+1) (cu kvs ms x) (backS tg.length ix S2 S7) else Iv (i+1) kvs (backS tg.length ix S2 S5)) kc rd' (hs i d kvs S2 hd' p) (fun σ4 H4 S4 k4 st4 q4=>⟨S4,k4,st4,q4⟩)
    have h2:=kg x σ H3 _ h1
    refine (hg 0 [] X.s₀ (fun _=>none)).mono _ _ _ _ _ ?_ h2
    rintro σ4 H4 ⟨⟨hl4,hσ4⟩,S4,k4,st4,q4⟩
    refine sc H0 _ σ4 H4 S4 _ _ k4 q4 fun bb H5 S5 k5 st5 q5=>?_
    cases bb with
    | false=>
      rw [if_neg Er] at q5 ⊢
      obtain ⟨kb,sb,nb⟩:=k2.back k5 (st4.trans st5) hσ4
      exact ⟨by lia,_,kvs,kb,st2.trans sb,ek,rk.step sb,rz.step sb,q5⟩
    | true=>
      rw [if_pos rfl] at q5 ⊢
      refine sk H0 _ σ4 H5 S5 _ _ k5 q5 fun yy H6 ry S6 k6 st6 rry q6=>?_
      refine sv H0 _ σ4 H6 S6 _ _ k6 q6 fun vv' H7 rv S7 k7 st7 rrv zr1=>?_
      obtain ⟨ms,xx,e1,er,q7⟩:=zr1
      subst er
      obtain ⟨b,rfl,sq,rb⟩:=Aq (rry.step st7) e1
      obtain ⟨kb,sb,nb⟩:=k2.back k7 (((st4.trans st5).trans st6).trans st7) hσ4
      have rk':=rk.step sb
      have rz':=rz.step sb
      obtain ⟨z1,z2,z3⟩:=nF (k:=ms) (b:=b) (v:=vv') (d:=xx) (F:=Fr H0) (F':=AnyF) (Rep.mono (fun a n _=>⟨nb a n,rfl⟩) (fun _ x=>x rfl) rrv) (Rep.mono (fun a n _=>⟨nb a n,rfl⟩) (fun _ x=>x) rb) ek rk' rz'
      refine ⟨b,ms,rfl,SqN.of sq,dq (by rw [ek];exact rk'),?_,_,cu kvs ms xx,kb,st2.trans sb,z1,z2,z3,q7⟩
      have:=iw es ms b vv'
      lia
  · have e:i=ds.length:=by lia
    refine .inl ⟨g3 e,fun l ob hp=>?_⟩
    exact hq l es kvs H2 _ S2 k2 (st1.trans st2) hp (aT hp) ⟨ob,aD⟩ ek (rk.mono (fun a n e=>⟨⟨n,fun z=>e (z▸hp)⟩,aC fun z=>e (z▸hp)⟩) fun _ x=>x) (bJ hp (rz.mono (fun _ n _=>⟨n,rfl⟩) fun _ x _=>x)) (hd kvs S2 (by rw [<- e];exact p))
end
end VL
end
section
namespace L2
open PySem PySem.Spec PyProof.Rows PySem.W
abbrev lso (its:List Ej) (k:Nat):Obj:={ cls:=.type "list",data:=.seq its.toArray k }
abbrev two_of (elt t1 i1 t2 i2:Expr) (f1 f2:List Expr) (scope:Ha) (pos:Pos):Expr:=.ListComp elt [⟨t1,i1,f1,0⟩,⟨t2,i2,f2,0⟩] scope pos
section
variable {elt t1 i1 t2 i2:Expr} {f1 f2:List Expr} {scope:Ha} {pos:Pos}
theorem uM (it acc:Ej) (env:Env):HB (two_of elt t1 i1 t2 i2 f1 f2 scope pos) 1 it acc env=(do { G6 i2.pos;match <- KC it with | none=>pure (.done .next) | some v=>(do { GX t2 it v;Hb t2 env v;let mut ok:=true;for c in f2 do { if ok then { ok <- JS c env (eval c env) } };if ok then { (do { let _ <- call (.builtin "list.append") [acc,<- eval elt env] }) };Ip (.compLoop (two_of elt t1 i1 t2 i2 f1 f2 scope pos) 1 it acc env) }) }):=by rfl
theorem lh (it acc:Ej) (env:Env):HB (two_of elt t1 i1 t2 i2 f1 f2 scope pos) 0 it acc env=(do { G6 i1.pos;match <- KC it with | none=>pure (.done .next) | some v=>(do { GX t1 it v;Hb t1 env v;let mut ok:=true;for c in f1 do { if ok then { ok <- JS c env (eval c env) } };if ok then { let x <- eval i2 env;G6 i2.pos;let x <- EC i2 env x;let _ <- runOwn (.compStart (two_of elt t1 i1 t2 i2 f1 f2 scope pos) 1 (<- G7 [x] (KD x)) acc env) env };Ip (.compLoop (two_of elt t1 i1 t2 i2 f1 f2 scope pos) 0 it acc env) }) }):=by rfl
theorem rj {P:E2} {w:FO} {A:F4} {R:Result->El->Prop} {s:El} {it acc:Ej} {env:Env} (h0:G8 (Ff P w) A (.compLoop (two_of elt t1 i1 t2 i2 f1 f2 scope pos) 1 it acc env) R s)
  (h:Fp (Ff P w) A (KD it) (fun y s'=>G8 (Ff P w) A (.compLoop (two_of elt t1 i1 t2 i2 f1 f2 scope pos) 1 y acc env) R s') (notedBy (Ff P w) A env fun x s'=>R (.error x) s') s) :
  G8 (Ff P w) A (.compStart (two_of elt t1 i1 t2 i2 f1 f2 scope pos) 1 it acc env) R s:=by
 refine Jz (Kl (m:=compStart (two_of elt t1 i1 t2 i2 f1 f2 scope pos) 1 it acc env) ?_)
 unfold compStart
 refine (show Fp _ _ (ask >>= _) _ _ s from Ef (Jg (wpAny_ite ?_)))
 split
 ·exact Es ⟨rfl,h0⟩
 ·exact Ef (G4 (Ef (m:=G6 i2.pos) (FD (Ef (EN h (fun y s' q=>Es ⟨rfl,q⟩) fun _ _ x=>x)))))
def tIn (wi:TI) (g:TG) (tc:TT) (te:TE) (σ:St) (ys:List V) (Nx:List V->Hp->Prop) (H:Hp):Prop:=wi σ H fun J H1=>∃W:Nat->Nat->List V->Hp->Prop,(∃m,W 0 m ys H1)/\∀j m zs H2,W j m zs H2 ->
 (J.stop j H2/\Nx zs H2)\/(J.go j H2/\zs.length < EW/\∃N2:List V->Hp->Prop,(∀zs' H',N2 zs' H'->∃m',m' < m/\W (j+1) m' zs' H') /\
  ∀x H3,J.yld j H2 x H3->g x σ H3 fun σ4 H4=>tc σ4 H4 fun b H5=>if b=true then te σ4 H5 fun v H6=>N2 (zs++[v]) H6 else N2 zs H5)
def rm (σ:St) (g:TG):Prop:=∀x H Q,g x σ H Q->g x σ H fun σ2 H2=>(σ2.length=σ.length/\∀(i:Nat) (v:V),σ[i]?=some (some v)->σ2[i]?=some (some v))/\Q σ2 H2
theorem nO {Y:Cx} {wi:TI} {g:TG} {tc:TT} {te:TE} {s:El} {D:Addr} {ys:List V} {its:List Ej} {k:Nat} {Nx:List V->Hp->Prop} (hcalm:Y.calm=true) (hxe:∀e s,¬Y.xe e s)
  (hi:PI Y t2 i2 wi) (hg:PG Y t2 g) (hc:PTs Y f2 tc) (he:PE Y elt te) (kg:rm σ g) (I:Inv Y pins σ H s) (dL:D≠Y.env.locals) (dF:D∉Y.fs) (dS:Y.s₀.heap.objs.size<=D) (dC:∀x c,Y.env.cells.lookup x=some c->c≠D)
  (dP:∀p∈Y.pn++pins,p.1≠D) (dn:H D=none) (dg:s.heap.get? D=some (lso its k)) (vy:Vals ys its) (h:tIn wi g tc te σ ys Nx H) (hs:∀x,EC i2 Y.env x=pure x) {α:Type} {r:Sem α} {Q:α->El->Prop} {E:Ej->El->Prop}
  (fin:∀s' ys' its' k' H',Inv Y pins σ H' s'->H' D=none->s'.heap.get? D=some (lso its' k')->Vals ys' its'->Nx ys' H'->Fp (Ff Y.prog Y.w) Y.A r Q E s') :
  Fp (Ff Y.prog Y.w) Y.A (do { let x <- eval i2 Y.env;G6 i2.pos;let x <- EC i2 Y.env x;let _ <- runOwn (.compStart (two_of elt t1 i1 t2 i2 f1 f2 scope pos) 1 (<- G7 [x] (KD x)) (.ref D) Y.env) Y.env;r }) Q E s:=by
 have nc:∀(its:List Ej) (k:Nat) v,(lso its k).data≠.cell v:=fun its k v z=>by have z':IZ _ _=HE v:=z;cases z'
 have pinD:∀{H':Hp} {s':El} {its':List Ej} {k':Nat},Inv Y pins σ H' s'->H' D=none->s'.heap.get? D=some (lso its' k')->Inv Y (pins++[(D,lso its' k')]) σ H' s':=fun I' n' g'=>I'.pins_of fun p hp=>by
  rcases List.mem_append.mp hp with hp | hp
  ·exact I'.pin p (Ee _ hp)
  ·rw [List.mem_singleton.mp hp];exact ⟨g',n',dL,dF,nc _ _⟩
 refine Ef (EN (hi _ s σ H _ (pinD I dn dg) h) (fun v s1 h1=>?_) fun e s z=>(hxe e s z).elim)
 refine Ef (FD ?_)
 rw [hs]
 refine Ef (Es (Ef (FR (EN h1 (fun itv s2 h2=>?_) fun e s z=>(hxe e s z).elim))))
 obtain ⟨it,fp,tn,J,H2,rfl,I2,T,st2,f2',W,⟨m0,w0⟩,turn⟩:=h2
 have Dfp:D∉fp:=fun z=>(f2' D z).2.2.2.2.2 (D,lso its k) (Ee _ (Ee _ Em)) rfl
 have stat:∀{H':Hp} {its':List Ej} {k':Nat},(∀b∈fp,H' b=none)->∀b∈fp,dN Y (pins++[(D,lso its' k')]) H' b:=fun hn b hb=>by
  obtain ⟨_,a1,a2,a3,a4,a5⟩:=f2' b hb
  refine ⟨hn b hb,a1,a2,a3,a4,fun p hp z=>?_⟩
  rcases List.mem_append.mp hp with hp | hp
  ·exact a5 p (EF _ hp) z
  ·rcases List.mem_append.mp hp with hp | hp
   ·exact a5 p (Ee _ (EF _ hp)) z
   ·rw [List.mem_singleton.mp hp] at z;have z:D=b:=z;exact Dfp (z▸hb)
 have d2:=I2.pin (D,lso its k) (Ee _ (Ee _ Em))
 have loop:G8 (Ff Y.prog Y.w) Y.A (.compLoop (two_of elt t1 i1 t2 i2 f1 f2 scope pos) 1 (.ref it) (.ref D) Y.env) (fun res s'=>match res with | .ok _=>Fp (Ff Y.prog Y.w) Y.A r Q E s' | .error e=>cameBackBy (Ff Y.prog Y.w) Y.A Y.env E e s') s2:=by
  refine Hj rfl (fun n s'=>∃j zs its k H',Inv Y pins σ H' s'/\tn j s'.heap/\(∀b∈fp,H' b=none)/\H' D=none/\s'.heap.get? D=some (lso its k)/\Vals zs its/\W j n zs H') ?_ m0 ⟨0,ys,its,k,H2,I2.unpinned,st2,fun b hb=>(f2' b hb).1,d2.2.1,d2.1,vy,w0⟩
  rintro n s5 ⟨j,zs,its5,k5,H5,I5,st5,fr5,d5,o5,v5,w5⟩
  refine Hx (m:=HB (two_of elt t1 i1 t2 i2 f1 f2 scope pos) 1 (.ref it) (.ref D) Y.env) ?_
  rw [uM]
  have pin0:=pinD I5 d5 o5
  refine Ef (FD (Ef ?_))
  rcases turn j n zs H5 w5 with ⟨stop,qn⟩ | ⟨go,hz,N2,hN,step⟩
  ·refine thn (T.done Y rfl rfl rfl hcalm j _ s5 _ H5 _ pin0 (stat fr5) st5 stop) fun r s6 zr1=>?_
   obtain ⟨hr,I6⟩:=zr1
   subst hr
   have d6:=I6.pin (D,lso its5 k5) (Ee _ (Ee _ Em))
   exact Es (fin s6 zs its5 k5 H5 I6.unpinned d5 d6.1 v5 qn)
  ·refine thn (T.item Y rfl rfl rfl hcalm j _ s5 _ H5 _ pin0 (stat fr5) st5 go) fun r s6 zr1=>?_
   obtain ⟨u,hr,h6⟩:=zr1
   subst hr
   refine Ef (thn h6 fun _ s7 zr1=>?_)
   obtain ⟨x,H7,I7,r7,y7,st7,fr7⟩:=zr1
   have I7':=I7.pinned (stat fr7) (T.obj _ _ st7)
   have pinsOf:∀{σ':St} {H':Hp} {s':El},Inv Y ((pins++[(D,lso its5 k5)])++bO fp s7.heap) σ' H' s' ->
     (∀b∈fp,∀o,s7.heap.get? b=some o->s'.heap.get? b=some o)/\(∀b∈fp,H' b=none)/\H' D=none/\s'.heap.get? D=some (lso its5 k5):=by
    intro σ' H' s' I'
    have dd:=I'.pin (D,lso its5 k5) (Ee _ (EF _ (Ee _ Em)))
    refine ⟨fun b hb o e=>(I'.pin (b,o) (Ee _ (Ee _ (aM hb e)))).1,fun b hb=>?_,dd.2.1,dd.1⟩
    obtain ⟨o,e,d⟩:=T.obj _ _ st7 b hb
    exact (I'.pin (b,o) (Ee _ (Ee _ (aM hb e)))).2.1
   have Ip:∀{σ2:St} {H8:Hp} {s8:El} {zs':List V} {its':List Ej} {k':Nat},Inv Y pins σ2 H8 s8->(σ2.length=σ.length/\∀(i:Nat) (v:V),σ[i]?=some (some v)->σ2[i]?=some (some v))->(∀b∈fp,∀o,s7.heap.get? b=some o->s8.heap.get? b=some o)->(∀b∈fp,H8 b=none) ->
     H8 D=none->s8.heap.get? D=some (lso its' k')->Vals zs' its'->N2 zs' H8->∃m,m < n/\∃j zs its k H',Inv Y pins σ H' s8/\tn j s8.heap/\(∀b∈fp,H' b=none)/\H' D=none/\s8.heap.get? D=some (lso its k)/\Vals zs its/\W j m zs H':=by
    intro σ2 H8 s8 zs' its' k' I8 kp fk fn dn' dg' vv nx
    obtain ⟨m',hm,w8⟩:=hN zs' H8 nx
    exact ⟨m',hm,j+1,zs',its',k',H8,I8.weak kp.1.symm kp.2,T.keep _ _ _ st7 fk,fn,dn',dg',vv,w8⟩
   refine Ef (EN (hg _ s7 _ H7 x u _ I7' r7 (kg x H7 _ (step x H7 y7))) (fun _ s8 zr1=>?_) fun e s z=>(hxe e s z).elim)
   obtain ⟨σ8,H8,I8,kp8,q8⟩:=zr1
   refine Ef (EN (hc _ s8 σ8 H8 _ I8 q8) (fun ok s9 zr1=>?_) fun e s z=>(hxe e s z).elim)
   obtain ⟨H9,I9,q9⟩:=zr1
   cases ok with
   | false=>
    obtain ⟨p1,p2,p3,p4⟩:=pinsOf I9
    exact Es ⟨rfl,Ip I9.unpinned.unpinned kp8 p1 p2 p3 p4 v5 q9⟩
   | true=>
    have q9:te σ8 H9 fun v H6=>N2 (zs++[v]) H6:=q9
    refine Ef (Ef (EN (he _ s9 σ8 H9 _ I9 q9) (fun y s10 zr1=>?_) fun e s z=>(hxe e s z).elim))
    obtain ⟨v,H10,I10,rv,nx⟩:=zr1
    obtain ⟨p1,p2,p3,p4⟩:=pinsOf I10
    have hl5:=v5.length
    refine Ef (HY F.slot_list_append ⟨_,p4,rfl⟩ F.entry_list_append (F.args_list_append_2 _ _) (Hw D its5.toArray k5 y (by rw [Ex];lia)) ⟨p4,?_⟩)
    have g10:=HJ p4 (·.push y)
    rw [show its5.toArray.push y=(its5++[y]).toArray by simp] at g10
    have I12:Inv Y pins σ8 H10 { s10 with heap:=s10.heap.update D (FI (·.push y)) }:=
     I10.unpinned.unpinned.turned (t':=s10.toks) (fun b o hb e=>(FA s10.heap (FI (·.push y)) (Gu hb)).trans e) p3 dL (.inr dS) dC dP
    refine Es (Es ⟨rfl,Ip (its':=its5++[y]) I12 kp8 (fun b hb o e=>?_) p2 p3 g10 (v5.append (.cons rv .nil)) nx⟩)
    exact (FA s10.heap (FI (·.push y)) (fun z:D=b=>Dfp (z▸hb))).trans (p1 b hb o e)
 refine Ef (wpAny_runOwn (rj (A:=Y.A) loop (T.self _ 0 _ _ _ st2 loop)))
end
section
variable {X:Cx}
def jQ (wi:TI) (n:Nat) (ix:List Nat) (g:TG) (tc:TT) (wi2:TI) (g2:TG) (tc2:TT) (te:TE):TE:=fun σ H Q=>wi σ H fun J H1=>∃W:Nat->Nat->List V->Hp->Prop,(∃m,W 0 m [] H1)/\∀i m ys H2,W i m ys H2 ->
 (J.stop i H2/\ys.length<=EW/\∀D,H2 D=none->Q (.ref D) (upd H2 D (.lst ys))) \/
 (J.go i H2/\∃Nx:List V->Hp->Prop,(∀ys' H',Nx ys' H'->∃m',m' < m/\W (i+1) m' ys' H') /\
  ∀x H3,J.yld i H2 x H3->g x (capt n ix σ) H3 fun σ2 H4=>tc σ2 H4 fun b H5=>if b=true then tIn wi2 g2 tc2 te σ2 ys Nx H5 else Nx ys H5)
def fV (n:Nat) (ix:List Nat) (g g2:TG):Prop:=∀x σ H Q,g x (capt n ix σ) H Q->g x (capt n ix σ) H fun σ2 H2=>((σ2.length=(capt n ix σ).length/\∀(i:Nat) (v:V),(capt n ix σ)[i]?=some (some v)->σ2[i]?=some (some v))/\rm σ2 g2)/\Q σ2 H2
theorem fF {n:Nat} {a b:Nat} (ha:a < n) (hb:b < n) (hab:a≠b):fV n ix (aX a) (aX b):=fun x σ H Q q=>by
 obtain ⟨kp,q⟩:=bp ha x σ H Q q
 refine ⟨⟨kp,fun y H' Q' q'=>⟨⟨by simp,fun i v e=>?_⟩,q'⟩⟩,q⟩
 by_cases hi:b=i
 ·subst hi
  rw [ED hab] at e
  exact (bM hb e).elim
 ·rw [ED hi];exact e
theorem rn {elt t1 i1 t2 i2:Expr} {f1 f2:List Expr} {scope:Ha} {pos:Pos} {tg cs:List Str} {wi wi2:TI} {g g2:TG} {tc tc2:TT} {te:TE} (S:aS X scope tg cs ix) (hcalm:X.calm=true) (kg:fV tg.length ix g g2)
    (hi:PI X t1 i1 wi) (hg:∀C fp s H,PG (ak X scope (tg++cs) C fp s H) t1 g) (hc:∀C fp s H,PTs (ak X scope (tg++cs) C fp s H) f1 tc) (hi2:∀C fp s H,PI (ak X scope (tg++cs) C fp s H) t2 i2 wi2) (hg2:∀C fp s H,PG (ak X scope (tg++cs) C fp s H) t2 g2) (hc2:∀C fp s H,PTs (ak X scope (tg++cs) C fp s H) f2 tc2) (he:∀C fp s H,PE (ak X scope (tg++cs) C fp s H) elt te)
    (hs:∀x,EC i1 X.env x=pure x:=by intro _;rfl) (hs2:∀(e:Env) x,EC i2 e x=pure x:=by intro _ _;rfl):PE X (two_of elt t1 i1 t2 i2 f1 f2 scope pos) (jQ wi tg.length ix g tc wi2 g2 tc2 te):=by
  intro pins s σ H Q I h
  rw [eval_ListComp]
  refine Gj (use:=none) (cl:=bB X.env scope.names []) rfl hs (cF fun n hn=>I.ok.has n (S.out n hn)) S.kind S.names ?_
  refine EN (hi pins s σ H _ I h) (fun v s1 h1=>EN h1 (fun itv s2 h2=>?_) fun _ _ e=>e) fun _ _ e=>e
  obtain ⟨it,fp,tn,J,H2,rfl,I2,T,st2,fpk,W,⟨m0,w0⟩,turn⟩:=h2
  refine F9 (Gz S.nocell (by intro y hy;simp at hy) (fun h1 hns1 hsb1=>?_) S.kind)
  dsimp only at hns1 hsb1 ⊢
  generalize hP:s2.heap.push { cls:=.type "list",dict:=none,data:=.seq ([]:List Ej).toArray }=P2 at hns1 hsb1 ⊢
  have hCs:P2.objs.size=s2.heap.objs.size+1:=by rw [<- hP,HA]
  have hDC:s2.heap.objs.size≠P2.objs.size:=by rw [hCs];exact E5 (Hg _)
  have hCle:s2.heap.objs.size<=P2.objs.size:=by rw [hCs];exact GY _
  generalize hCg:P2.objs.size=C at *
  have old:∀b o,s2.heap.get? b=some o->h1.get? b=some o:=fun b o e=>hsb1.extBut b o (E5 (EI (EA e) hCle)) (Eg _ (hP▸Eg _ e))
  generalize hDg:s2.heap.objs.size=D at *
  have hD0:h1.get? D=some { cls:=.type "list",data:=.seq ([]:List Ej).toArray 0 }:=hsb1.extBut _ _ hDC (Eg _ (hP▸hDg▸EG _ rfl))
  have nC:H2 C=none:=I2.hok.fresh (by rw [hDg];exact hCle)
  have nD:H2 D=none:=I2.hok.fresh (by rw [hDg];exact Ek _)
  have fo:∀b∈fp,∃o,s2.heap.get? b=some o:=fun b hb=>let ⟨o,e,_⟩:=T.obj _ _ st2 b hb;⟨o,e⟩
  have Dfp:D∉fp:=fun z=>by
    obtain ⟨o,e⟩:=fo D z
    have:=EA e
    rw [hDg] at this
    exact absurd this (FC _)
  have Dfs:D∉frs X.stack:=fun z=>by
    rcases List.mem_cons.mp (I2.stkSub D z) with e | e
    · have:=I2.lt
      rw [<- e,hDg] at this
      exact absurd this (FC _)
    · exact I2.nofs (by rw [hDg];exact Ek _) e
  have DcY:∀x c,(bB X.env scope.names []).lookup x=some c->c≠D:=fun x c e=>by
    rcases cE (Fo e) with h | h
    · cases h
    · exact (I2.fpOk (H':=H2) (b:=D) (by rw [hDg];exact Ek _) nD).2.2.2.2.1 x c h
  -- the block's context
  have Yok:∀s4:El,s4={ s2 with heap:=h1,toks:=s2.toks+([]:List (Str×Ej)).length }->Inv (ak X scope (tg++cs) C fp s2 H2) [] (capt tg.length ix σ) H2 s4:=by
    rintro s4 rfl
    exact dQ S I2 fpk fo (by rw [hDg];exact hCle) old (by simpa using hns1) rfl I2.bare nC
  -- the loop
  have loop:∀s4:El,s4={ s2 with heap:=h1,toks:=s2.toks+([]:List (Str×Ej)).length } ->
      G8 (Ff X.prog X.w) X.A (.compLoop (two_of elt t1 i1 t2 i2 f1 f2 scope pos) 0 (.ref it) (.ref D) (GN scope (bB X.env scope.names []) C X.env)) (Kj (Ff X.prog X.w) X.A X.xe none (EP X pins σ Q) (.ref D) C) s4:=by
    intro s4 e4
    refine Hj rfl (fun n s'=>∃i ys its k H',Inv (ak X scope (tg++cs) C fp s2 H2) [] (capt tg.length ix σ) H' s'/\tn i s'.heap/\(∀b∈fp,H' b=none)/\H' D=none/\s'.heap.get? D=some (lso its k)/\Vals ys its/\W i n ys H')
      ?_ m0 ⟨0,[],[],0,H2,Yok s4 e4,?_,fun b hb=>(fpk b hb).1,nD,by rw [e4];exact hD0,.nil,w0⟩
    · rintro n s5 ⟨i,ys,its,k,H5,I5,st5,fr5,d5,o5,v5,w5⟩
      show Fp _ X.A ((HB (two_of elt t1 i1 t2 i2 f1 f2 scope pos) 0 (.ref it) (.ref D) (GN scope (bB X.env scope.names []) C X.env)).onRaise (fun x=>do Jx x (GN scope (bB X.env scope.names []) C X.env);GZ x)) _ _ s5
      refine Hx ?_
      rw [lh]
      have pin0:Inv (ak X scope (tg++cs) C fp s2 H2) [(D,(lso its k))] (capt tg.length ix σ) H5 s5:=I5.pins_of fun p hp=>by
        have e:p=(D,(lso its k)):=by simpa using hp
        subst e
        exact ⟨o5,d5,hDC,Dfs,fun v z=>by have z':IZ _ _=HE v:=z;cases z'⟩
      have fpY:∀{H':Hp},(∀b∈fp,H' b=none)->∀b∈fp,dN (ak X scope (tg++cs) C fp s2 H2) [(D,(lso its k))] H' b:=fun hn b hb=>
        ⟨hn b hb,(I5.ok.exf b hb).1,fun z=>I5.ok.exfs b hb z,.inl hb,(I5.ok.exf b hb).2,fun p hp z=>by
          have hp:p∈([]:List (Addr×Obj))++[(D,(lso its k))]:=hp
          have e:p=(D,(lso its k)):=by simpa using hp
          subst e
          have z:D=b:=z
          exact Dfp (z▸hb)⟩
      refine Ef (FD (Ef ?_))
      rcases turn i n ys H5 w5 with ⟨stop,hz,qn⟩ | ⟨go,Nx,hN,step⟩
      · refine thn (T.done (ak X scope (tg++cs) C fp s2 H2) rfl rfl rfl hcalm i _ s5 _ H5 _ pin0 (fpY fr5) st5 stop) fun r s6 zr1=>?_
        obtain ⟨hr,I6⟩:=zr1
        subst hr
        refine Es ?_
        obtain ⟨mC,hnsC,_⟩:=id I6.loc
        refine ⟨mC,hnsC,fun h' sb=>?_⟩
        have IX:Inv X pins σ H5 s6:=I2.call' (ch:=fp) I6.os I6.base I6.hok I6.bare fun b hb=>let ⟨_,a1,_,a3,a4,a5⟩:=fpk b hb;⟨a3,a1,a4,a5⟩
        obtain ⟨_,c1,_,c3,c4,c5⟩:=I2.fpOk (H':=H5) (b:=C) (by rw [hDg];exact hCle) I6.free
        have IX2:Inv X pins σ H5 { s6 with heap:=h' }:=IX.turned (t':=s6.toks) (fun b o hb e=>(sb.2 b hb).trans e) I6.free c1 c3 c4 c5
        obtain ⟨_,b1,_,b3,b4,b5⟩:=I2.fpOk (H':=H5) (b:=D) (by rw [hDg];exact Ek _) d5
        have gD:h'.get? D=some (lso its k):=(sb.2 D hDC).trans (I6.pin (D,(lso its k)) (Ee _ Em)).1
        exact ⟨.ref D,upd H5 D (.lst ys),IX2.track d5 (by rw [<- hDg];exact I2.sz) b1 b4 b5 ⟨hz,its,k,v5,gD⟩,rfl,qn D d5⟩
      · refine thn (T.item (ak X scope (tg++cs) C fp s2 H2) rfl rfl rfl hcalm i _ s5 _ H5 _ pin0 (fpY fr5) st5 go) fun r s6 zr1=>?_
        obtain ⟨u,hr,h6⟩:=zr1
        subst hr
        refine Ef (thn h6 fun _ s7 zr1=>?_)
        obtain ⟨x,H7,I7,r7,y7,st7,fr7⟩:=zr1
        have I7':=I7.pinned (fpY fr7) (T.obj _ _ st7)
        -- the next turn
        have Ip:∀{σ2:St} {H8:Hp} {s8:El} {ys':List V} {its':List Ej} {k':Nat} , Inv (ak X scope (tg++cs) C fp s2 H2) [] σ2 H8 s8->(σ2.length=(capt tg.length ix σ).length/\∀(i:Nat) (v:V),(capt tg.length ix σ)[i]?=some (some v)->σ2[i]?=some (some v)) ->
            (∀b∈fp,∀o,s7.heap.get? b=some o->s8.heap.get? b=some o)->(∀b∈fp,H8 b=none)->H8 D=none->s8.heap.get? D=some (lso its' k')->Vals ys' its'->Nx ys' H8 ->
            ∃m,m < n/\∃i ys its k H',Inv (ak X scope (tg++cs) C fp s2 H2) [] (capt tg.length ix σ) H' s8/\tn i s8.heap/\(∀b∈fp,H' b=none)/\H' D=none/\s8.heap.get? D=some (lso its k)/\Vals ys its/\W i m ys H':=by
          intro σ2 H8 s8 ys' its' k' I8 kp fk fn dn dg vv nx
          obtain ⟨m',hm,w8⟩:=hN ys' H8 nx
          exact ⟨m',hm,i+1,ys',its',k',H8,I8.weak kp.1.symm kp.2,T.keep _ _ _ st7 fk,fn,dn,dg,vv,w8⟩
        refine Ef (EN (hg C fp s2 H2 _ s7 _ H7 x u _ I7' r7 (kg x σ H7 _ (step x H7 y7))) (fun _ s8 zr1=>?_) fun _ _ z=>z.elim)
        obtain ⟨σ8,H8,I8,⟨kp8,kb8⟩,q8⟩:=zr1
        refine Ef (EN (hc C fp s2 H2 _ s8 σ8 H8 _ I8 q8) (fun ok s9 zr1=>?_) fun _ _ z=>z.elim)
        obtain ⟨H9,I9,q9⟩:=zr1
        have pinsOf:∀{σ':St} {H':Hp} {s':El},Inv (ak X scope (tg++cs) C fp s2 H2) ([(D,(lso its k))]++bO fp s7.heap) σ' H' s' ->
            (∀b∈fp,∀o,s7.heap.get? b=some o->s'.heap.get? b=some o)/\(∀b∈fp,H' b=none)/\H' D=none/\s'.heap.get? D=some (lso its k):=by
          intro σ' H' s' I'
          refine ⟨fun b hb o e=>(I'.pin (b,o) (Ee _ (Ee _ (aM hb e)))).1,fun b hb=>?_,(I'.pin (D,(lso its k)) (Ee _ (EF _ Em))).2.1,(I'.pin (D,(lso its k)) (Ee _ (EF _ Em))).1⟩
          obtain ⟨o,e,d⟩:=T.obj _ _ st7 b hb
          exact (I'.pin (b,o) (Ee _ (Ee _ (aM hb e)))).2.1
        cases ok with
        | false=>
          obtain ⟨p1,p2,p3,p4⟩:=pinsOf I9
          exact Es ⟨rfl,Ip (I9.pins_of fun p hp=>nomatch hp) kp8 p1 p2 p3 p4 v5 q9⟩
        | true=>
          have q9:tIn wi2 g2 tc2 te σ8 ys Nx H9:=q9
          obtain ⟨p1,p2,p3,p4⟩:=pinsOf I9
          have I9':Inv (ak X scope (tg++cs) C fp s2 H2) (bO fp s7.heap) σ8 H9 s9:=I9.pins_of fun p hp=>I9.pin p (Ee _ (Ee _ hp))
          refine nO (Y:=ak X scope (tg++cs) C fp s2 H2) hcalm (fun _ _ z=>z) (hi2 C fp s2 H2) (hg2 C fp s2 H2) (hc2 C fp s2 H2) (he C fp s2 H2) kb8 I9' hDC Dfs (by show s2.heap.objs.size<=D;rw [hDg];exact Ek _) DcY (fun p hp z=>?_) p3 p4 v5 q9 (hs2 _) fun s12 zs its' k' H12 I12 d12 g12 v12 n12=>?_
          · have hp:p∈bO fp s7.heap:=hp
            exact Dfp (z▸(dh hp).1)
          · have pn:=fun (b:Addr) (hb:b∈fp) (o:Obj) (e:s7.heap.get? b=some o)=>I12.pin (b,o) (Ee _ (aM hb e))
            refine Es ⟨rfl,Ip (its':=its') (I12.pins_of fun p hp=>nomatch hp) kp8 (fun b hb o e=>(pn b hb o e).1) (fun b hb=>?_) d12 g12 v12 n12⟩
            obtain ⟨o,e,_⟩:=T.obj _ _ st7 b hb
            exact (pn b hb o e).2.1
    · rw [e4];exact T.keep _ _ _ st2 fun b _ o e=>old b o e
  exact GV (loop _ rfl) (T.self _ 0 _ _ _ (T.keep _ _ _ st2 fun b _ o e=>old b o e) (loop _ rfl))
theorem oU {elt t1 i1 t2 i2:Expr} {f1 f2:List Expr} {scope:Ha} {pos spos py:Pos} {yy:Str} {ii:Nat} {tg cs:List Str} {wi wi2:TI} {g g2:TG} {tc tc2:TT} {te:TE} (hN0:X.N.Nodup) (hi0:X.N[ii]?=some yy) (hx0:Loc X.env.scope yy)
    (S:aS X scope tg cs ix) (hcalm:X.calm=true) (kg:fV tg.length ix g g2)
    (hi:PI X t1 i1 wi) (hg:∀C fp s H,PG (ak X scope (tg++cs) C fp s H) t1 g) (hc:∀C fp s H,PTs (ak X scope (tg++cs) C fp s H) f1 tc) (hi2:∀C fp s H,PI (ak X scope (tg++cs) C fp s H) t2 i2 wi2) (hg2:∀C fp s H,PG (ak X scope (tg++cs) C fp s H) t2 g2) (hc2:∀C fp s H,PTs (ak X scope (tg++cs) C fp s H) f2 tc2) (he:∀C fp s H,PE (ak X scope (tg++cs) C fp s H) elt te)
    (hf0:X.fn yy=true\/X.env.scope.names.lookup yy=some .local)
    (hsw:GP (two_of elt t1 i1 t2 i2 f1 f2 scope pos) (some (.Name yy py)) spos.line X.env=pure true)
    (hs:∀x,EC i1 X.env x=pure x:=by intro _;rfl) (hs2:∀(e:Env) x,EC i2 e x=pure x:=by intro _ _;rfl):PS X (.Assign [.Name yy py] (two_of elt t1 i1 t2 i2 f1 f2 scope pos) spos) (cU (jQ wi tg.length ix g tc wi2 g2 tc2 te) (aX ii)):=by
  intro pins s σ H Dn I h
  rw [HG _ _ _ _ hsw]
  refine Ef (FD (Ef ?_))
  show Fp _ X.A (do let _ <- Ja (two_of elt t1 i1 t2 i2 f1 f2 scope pos) scope X.env _ (newList []) false (eval i1 X.env) (some (Hb (.Name yy py) X.env))) _ _ s
  refine Ef (EN (Gj (use:=some (Hb (.Name yy py) X.env)) (Q:=fun _ s'=>SP X pins Dn .next s') (cl:=bB X.env scope.names []) rfl hs (cF fun n hn=>I.ok.has n (S.out n hn)) S.kind S.names ?_) (fun _ s' hq=>Es (Es hq)) fun _ _ e=>e)
  refine EN (hi pins s σ H _ I h) (fun v s1 h1=>EN h1 (fun itv s2 h2=>?_) fun _ _ e=>e) fun _ _ e=>e
  obtain ⟨it,fp,tn,J,H2,rfl,I2,T,st2,fpk,W,⟨m0,w0⟩,turn⟩:=h2
  refine F9 (Gz S.nocell (by intro y hy;simp at hy) (fun h1 hns1 hsb1=>?_) S.kind)
  dsimp only at hns1 hsb1 ⊢
  generalize hP:s2.heap.push { cls:=.type "list",dict:=none,data:=.seq ([]:List Ej).toArray }=P2 at hns1 hsb1 ⊢
  have hCs:P2.objs.size=s2.heap.objs.size+1:=by rw [<- hP,HA]
  have hDC:s2.heap.objs.size≠P2.objs.size:=by rw [hCs];exact E5 (Hg _)
  have hCle:s2.heap.objs.size<=P2.objs.size:=by rw [hCs];exact GY _
  generalize hCg:P2.objs.size=C at *
  have old:∀b o,s2.heap.get? b=some o->h1.get? b=some o:=fun b o e=>hsb1.extBut b o (E5 (EI (EA e) hCle)) (Eg _ (hP▸Eg _ e))
  generalize hDg:s2.heap.objs.size=D at *
  have hD0:h1.get? D=some { cls:=.type "list",data:=.seq ([]:List Ej).toArray 0 }:=hsb1.extBut _ _ hDC (Eg _ (hP▸hDg▸EG _ rfl))
  have nC:H2 C=none:=I2.hok.fresh (by rw [hDg];exact hCle)
  have nD:H2 D=none:=I2.hok.fresh (by rw [hDg];exact Ek _)
  have fo:∀b∈fp,∃o,s2.heap.get? b=some o:=fun b hb=>let ⟨o,e,_⟩:=T.obj _ _ st2 b hb;⟨o,e⟩
  have Dfp:D∉fp:=fun z=>by
    obtain ⟨o,e⟩:=fo D z
    have:=EA e
    rw [hDg] at this
    exact absurd this (FC _)
  have Dfs:D∉frs X.stack:=fun z=>by
    rcases List.mem_cons.mp (I2.stkSub D z) with e | e
    · have:=I2.lt
      rw [<- e,hDg] at this
      exact absurd this (FC _)
    · exact I2.nofs (by rw [hDg];exact Ek _) e
  have DcY:∀x c,(bB X.env scope.names []).lookup x=some c->c≠D:=fun x c e=>by
    rcases cE (Fo e) with h | h
    · cases h
    · exact (I2.fpOk (H':=H2) (b:=D) (by rw [hDg];exact Ek _) nD).2.2.2.2.1 x c h
  -- the block's context
  have Yok:∀s4:El,s4={ s2 with heap:=h1,toks:=s2.toks+([]:List (Str×Ej)).length }->Inv (ak X scope (tg++cs) C fp s2 H2) [] (capt tg.length ix σ) H2 s4:=by
    rintro s4 rfl
    exact dQ S I2 fpk fo (by rw [hDg];exact hCle) old (by simpa using hns1) rfl I2.bare nC
  -- the loop
  have loop:∀s4:El,s4={ s2 with heap:=h1,toks:=s2.toks+([]:List (Str×Ej)).length } ->
      G8 (Ff X.prog X.w) X.A (.compLoop (two_of elt t1 i1 t2 i2 f1 f2 scope pos) 0 (.ref it) (.ref D) (GN scope (bB X.env scope.names []) C X.env)) (Kj (Ff X.prog X.w) X.A X.xe (some (Hb (.Name yy py) X.env)) (fun _ s'=>SP X pins Dn .next s') (.ref D) C) s4:=by
    intro s4 e4
    refine Hj rfl (fun n s'=>∃i ys its k H',Inv (ak X scope (tg++cs) C fp s2 H2) [] (capt tg.length ix σ) H' s'/\tn i s'.heap/\(∀b∈fp,H' b=none)/\H' D=none/\s'.heap.get? D=some (lso its k)/\Vals ys its/\W i n ys H')
      ?_ m0 ⟨0,[],[],0,H2,Yok s4 e4,?_,fun b hb=>(fpk b hb).1,nD,by rw [e4];exact hD0,.nil,w0⟩
    · rintro n s5 ⟨i,ys,its,k,H5,I5,st5,fr5,d5,o5,v5,w5⟩
      show Fp _ X.A ((HB (two_of elt t1 i1 t2 i2 f1 f2 scope pos) 0 (.ref it) (.ref D) (GN scope (bB X.env scope.names []) C X.env)).onRaise (fun x=>do Jx x (GN scope (bB X.env scope.names []) C X.env);GZ x)) _ _ s5
      refine Hx ?_
      rw [lh]
      have pin0:Inv (ak X scope (tg++cs) C fp s2 H2) [(D,(lso its k))] (capt tg.length ix σ) H5 s5:=I5.pins_of fun p hp=>by
        have e:p=(D,(lso its k)):=by simpa using hp
        subst e
        exact ⟨o5,d5,hDC,Dfs,fun v z=>by have z':IZ _ _=HE v:=z;cases z'⟩
      have fpY:∀{H':Hp},(∀b∈fp,H' b=none)->∀b∈fp,dN (ak X scope (tg++cs) C fp s2 H2) [(D,(lso its k))] H' b:=fun hn b hb=>
        ⟨hn b hb,(I5.ok.exf b hb).1,fun z=>I5.ok.exfs b hb z,.inl hb,(I5.ok.exf b hb).2,fun p hp z=>by
          have hp:p∈([]:List (Addr×Obj))++[(D,(lso its k))]:=hp
          have e:p=(D,(lso its k)):=by simpa using hp
          subst e
          have z:D=b:=z
          exact Dfp (z▸hb)⟩
      refine Ef (FD (Ef ?_))
      rcases turn i n ys H5 w5 with ⟨stop,hz,qn⟩ | ⟨go,Nx,hN,step⟩
      · refine thn (T.done (ak X scope (tg++cs) C fp s2 H2) rfl rfl rfl hcalm i _ s5 _ H5 _ pin0 (fpY fr5) st5 stop) fun r s6 zr1=>?_
        obtain ⟨hr,I6⟩:=zr1
        subst hr
        refine Es ?_
        obtain ⟨mC,hnsC,_⟩:=id I6.loc
        have IX:Inv X pins σ H5 s6:=I2.call' (ch:=fp) I6.os I6.base I6.hok I6.bare fun b hb=>let ⟨_,a1,_,a3,a4,a5⟩:=fpk b hb;⟨a3,a1,a4,a5⟩
        obtain ⟨_,b1,_,b3,b4,b5⟩:=I2.fpOk (H':=H5) (b:=D) (by rw [hDg];exact Ek _) d5
        obtain ⟨_,c1,_,c3,c4,c5⟩:=I2.fpOk (H':=H5) (b:=C) (by rw [hDg];exact hCle) I6.free
        have gD:s6.heap.get? D=some (lso its k):=(I6.pin (D,(lso its k)) (Ee _ Em)).1
        have IXD:Inv X pins σ (upd H5 D (.lst ys)) s6:=IX.track d5 (by rw [<- hDg];exact I2.sz) b1 b4 b5 ⟨hz,its,k,v5,gD⟩
        show Fp _ X.A (Hb (.Name yy py) X.env (.ref D)) _ _ s6
        refine Hu (eE (v:=.ref D) IXD hN0 hi0 hx0 rfl (fun s'' I'' zr1=>?_) hf0)
        obtain ⟨a,sb,ha⟩:=zr1
        have hCa:C≠a:=by
          rcases ha with rfl | ha
          · exact c1
          · exact (c4 _ _ ha).symm
        refine ⟨mC,hnsC.sameBut sb hCa,fun h' sb'=>⟨_,_,I''.turned (t':=s''.toks) (it:=C) (fun b o hb e=>(sb'.2 b hb).trans e) (by rw [aC (Gu hDC)];exact I6.free) c1 c3 c4 c5,qn D d5⟩⟩
      · refine thn (T.item (ak X scope (tg++cs) C fp s2 H2) rfl rfl rfl hcalm i _ s5 _ H5 _ pin0 (fpY fr5) st5 go) fun r s6 zr1=>?_
        obtain ⟨u,hr,h6⟩:=zr1
        subst hr
        refine Ef (thn h6 fun _ s7 zr1=>?_)
        obtain ⟨x,H7,I7,r7,y7,st7,fr7⟩:=zr1
        have I7':=I7.pinned (fpY fr7) (T.obj _ _ st7)
        -- the next turn
        have Ip:∀{σ2:St} {H8:Hp} {s8:El} {ys':List V} {its':List Ej} {k':Nat} , Inv (ak X scope (tg++cs) C fp s2 H2) [] σ2 H8 s8->(σ2.length=(capt tg.length ix σ).length/\∀(i:Nat) (v:V),(capt tg.length ix σ)[i]?=some (some v)->σ2[i]?=some (some v)) ->
            (∀b∈fp,∀o,s7.heap.get? b=some o->s8.heap.get? b=some o)->(∀b∈fp,H8 b=none)->H8 D=none->s8.heap.get? D=some (lso its' k')->Vals ys' its'->Nx ys' H8 ->
            ∃m,m < n/\∃i ys its k H',Inv (ak X scope (tg++cs) C fp s2 H2) [] (capt tg.length ix σ) H' s8/\tn i s8.heap/\(∀b∈fp,H' b=none)/\H' D=none/\s8.heap.get? D=some (lso its k)/\Vals ys its/\W i m ys H':=by
          intro σ2 H8 s8 ys' its' k' I8 kp fk fn dn dg vv nx
          obtain ⟨m',hm,w8⟩:=hN ys' H8 nx
          exact ⟨m',hm,i+1,ys',its',k',H8,I8.weak kp.1.symm kp.2,T.keep _ _ _ st7 fk,fn,dn,dg,vv,w8⟩
        refine Ef (EN (hg C fp s2 H2 _ s7 _ H7 x u _ I7' r7 (kg x σ H7 _ (step x H7 y7))) (fun _ s8 zr1=>?_) fun _ _ z=>z.elim)
        obtain ⟨σ8,H8,I8,⟨kp8,kb8⟩,q8⟩:=zr1
        refine Ef (EN (hc C fp s2 H2 _ s8 σ8 H8 _ I8 q8) (fun ok s9 zr1=>?_) fun _ _ z=>z.elim)
        obtain ⟨H9,I9,q9⟩:=zr1
        have pinsOf:∀{σ':St} {H':Hp} {s':El},Inv (ak X scope (tg++cs) C fp s2 H2) ([(D,(lso its k))]++bO fp s7.heap) σ' H' s' ->
            (∀b∈fp,∀o,s7.heap.get? b=some o->s'.heap.get? b=some o)/\(∀b∈fp,H' b=none)/\H' D=none/\s'.heap.get? D=some (lso its k):=by
          intro σ' H' s' I'
          refine ⟨fun b hb o e=>(I'.pin (b,o) (Ee _ (Ee _ (aM hb e)))).1,fun b hb=>?_,(I'.pin (D,(lso its k)) (Ee _ (EF _ Em))).2.1,(I'.pin (D,(lso its k)) (Ee _ (EF _ Em))).1⟩
          obtain ⟨o,e,d⟩:=T.obj _ _ st7 b hb
          exact (I'.pin (b,o) (Ee _ (Ee _ (aM hb e)))).2.1
        cases ok with
        | false=>
          obtain ⟨p1,p2,p3,p4⟩:=pinsOf I9
          exact Es ⟨rfl,Ip (I9.pins_of fun p hp=>nomatch hp) kp8 p1 p2 p3 p4 v5 q9⟩
        | true=>
          have q9:tIn wi2 g2 tc2 te σ8 ys Nx H9:=q9
          obtain ⟨p1,p2,p3,p4⟩:=pinsOf I9
          have I9':Inv (ak X scope (tg++cs) C fp s2 H2) (bO fp s7.heap) σ8 H9 s9:=I9.pins_of fun p hp=>I9.pin p (Ee _ (Ee _ hp))
          refine nO (Y:=ak X scope (tg++cs) C fp s2 H2) hcalm (fun _ _ z=>z) (hi2 C fp s2 H2) (hg2 C fp s2 H2) (hc2 C fp s2 H2) (he C fp s2 H2) kb8 I9' hDC Dfs (by show s2.heap.objs.size<=D;rw [hDg];exact Ek _) DcY (fun p hp z=>?_) p3 p4 v5 q9 (hs2 _) fun s12 zs its' k' H12 I12 d12 g12 v12 n12=>?_
          · have hp:p∈bO fp s7.heap:=hp
            exact Dfp (z▸(dh hp).1)
          · have pn:=fun (b:Addr) (hb:b∈fp) (o:Obj) (e:s7.heap.get? b=some o)=>I12.pin (b,o) (Ee _ (aM hb e))
            refine Es ⟨rfl,Ip (its':=its') (I12.pins_of fun p hp=>nomatch hp) kp8 (fun b hb o e=>(pn b hb o e).1) (fun b hb=>?_) d12 g12 v12 n12⟩
            obtain ⟨o,e,_⟩:=T.obj _ _ st7 b hb
            exact (pn b hb o e).2.1
    · rw [e4];exact T.keep _ _ _ st2 fun b _ o e=>old b o e
  exact GV (loop _ rfl) (T.self _ 0 _ _ _ (T.keep _ _ _ st2 fun b _ o e=>old b o e) (loop _ rfl))
end
end L2
namespace VL
open PySem L2 PySem.W
section
variable {K:Ed} {H H4 H0:Hp} {Z:AP} {σ σ4 σ5:St} {S S4:List Sl}
def Ec:Sl->Sl->Sl
 | .no,_=>.no
 | _,b=>b
def msk (S4 S:List Sl):List Sl:=List.zipWith Ec S4 S
theorem iz {i:Nat} {s:Sl} (h:(msk S4 S)[i]?=some s):s=.no\/S[i]?=some s/\∃t,S4[i]?=some t/\t≠.no:=by
 unfold msk at h
 rw [List.getElem?_zipWith] at h
 cases h1:S4[i]? with
 | none=>rw [h1] at h;cases h
 | some t=>
  cases h2:S[i]? with
  | none=>rw [h1,h2] at h;cases h
  | some u=>
   rw [h1,h2] at h
   cases t with
   | no=>cases h;exact .inl rfl
   | val _ | fre _ | own _ | pen _ _ | odi _ _ | obj _=>cases h;exact .inr ⟨rfl,_,rfl,fun z=>nomatch z⟩
theorem OK.forget (k4:OK K H0 Z σ4 H4 S4) (k:OK K H0 Z σ5 H S) (st:Step Z σ4 S4 H4 σ5 S H) (hl:σ5.length=σ4.length) (hσ:∀(i:Nat) (v:V),σ4[i]?=some (some v)->σ5[i]?=some (some v)) :
  OK K H0 Z σ4 H (msk S4 S)/\Step Z σ4 S4 H4 σ4 (msk S4 S) H/\∀a,NM Z σ5 S a->NM Z σ4 (msk S4 S) a:=by
 have at4:∀{i:Nat} {t:Sl},S4[i]?=some t->t≠.no->∃v,σ4[i]?=some (some v):=fun {i t} e hn=>by
  obtain ⟨o,h1,q⟩:=k4.ownAt e
  cases t with
  | no=>exact absurd rfl hn
  | val _=>obtain ⟨v,rfl,_⟩:=q;exact ⟨v,h1⟩
  | fre _=>obtain ⟨v,rfl,_⟩:=q;exact ⟨v,h1⟩
  | own _=>obtain ⟨a,_,rfl,_⟩:=q;exact ⟨_,h1⟩
  | pen _ _=>obtain ⟨a,rfl,_⟩:=q;exact ⟨_,h1⟩
  | odi _ _=>obtain ⟨a,_,rfl,_⟩:=q;exact ⟨_,h1⟩
  | obj _=>obtain ⟨a,rfl,_⟩:=q;exact ⟨_,h1⟩
 have mo:∀a,Mo Z σ4 (msk S4 S) a->Mo Z σ5 S a:=fun a z=>by
  rcases z with ⟨i,s,h1,h2,h3⟩ | z
  ·rcases iz h1 with rfl | ⟨h4,_⟩
   ·cases h2
   ·exact .inl ⟨i,s,h4,h2,hσ i _ h3⟩
  ·exact .inr z
 have nm:∀a,NM Z σ5 S a->NM Z σ4 (msk S4 S) a:=fun a n z=>n (mo a z)
 have hm:∀a,NM Z σ5 S a->H a≠none->NM Z σ4 (msk S4 S) a/\H a=H a:=fun a n _=>⟨nm a n,rfl⟩
 refine ⟨⟨?_,fun i o s h1 h2=>?_,fun i j a s t h1 h2 m1 m2 h3 h4=>?_,k.dom,k.zl,fun i s a h1 h2 h3=>?_⟩,⟨fun a n e=>⟨(st.1 a n e).1,nm a (st.1 a n e).2⟩,st.2.1,st.2.2⟩,nm⟩
 ·have:=k4.len;have:=k.len
  unfold msk
  rw [List.length_zipWith];lia
 ·rcases iz h2 with rfl | ⟨h4,t,h5,h6⟩
  ·trivial
  ·obtain ⟨v,e⟩:=at4 h5 h6
   rw [e] at h1;cases h1
   have q:=k.at_ i _ s (hσ i v e) h4
   cases s with
   | no=>trivial
   | val d=>obtain ⟨v,e,r⟩:=q;exact ⟨v,e,r.mono hm fun _ x=>x⟩
   | fre d=>obtain ⟨v,e,r⟩:=q;exact ⟨v,e,r.mono hm fun _ x=>x⟩
   | own ds=>obtain ⟨a,vs,e,e',e0,r⟩:=q;exact ⟨a,vs,e,e',e0,r.mono hm fun _ x=>x⟩
   | pen ad ns=>exact q
   | odi ks ds=>obtain ⟨a,vs,e,e',e0,ek,r⟩:=q;exact ⟨a,vs,e,e',e0,⟨ek.1,ek.2.mono hm fun _ x=>x⟩,r.mono hm fun _ x=>x⟩
   | obj k=>obtain ⟨a,e,e0,r⟩:=q;exact ⟨a,e,e0,k.mono hm rfl r⟩
 ·rcases iz h1 with rfl | ⟨h1,_⟩
  ·cases m1
  ·rcases iz h2 with rfl | ⟨h2,_⟩
   ·cases m2
   ·exact k.inj i j a s t h1 h2 m1 m2 (hσ i _ h3) (hσ j _ h4)
 ·rcases iz h1 with rfl | ⟨h1,_⟩
  ·cases h2
  ·exact k.nz i s a h1 h2 (hσ i _ h3)
end
section
variable {K:Ed} {X:Cx} {elt t1 i1 t2 i2:Expr} {f1 f2:List Expr} {scope:Ha} {pos:Pos}
def mz (vi:VTN) (n:Nat) (ix:List Nat) (vg:VG) (vt:VTT) (vi2:VTN) (vg2:VG) (vt2:VTT) (ve:VT):VTN:=fun S Q=>vi S fun ds S1=>ds.length<=1000/\∃Iv:Nat->List D->List Sl->Prop,Iv 0 [] S1 /\
 (∀i d ys S2,ds[i]?=some d->Iv i ys S2->vg d (aV n ix S2) fun S3=>vt S3 fun b S4=>if b=true then (vi2 S4 fun es S5=>es.length<=1000/\∃Jv:Nat->List D->List Sl->Prop,Jv 0 ys S5 /\
  (∀j e zs S6,es[j]?=some e->Jv j zs S6->vg2 e S6 fun S7=>vt2 S7 fun b2 S8=>if b2=true then ve S8 fun r S9=>∃x,r=.d x/\Jv (j+1) (zs++[x]) (msk S6 S9) else Jv (j+1) zs (msk S6 S8))/\∀zs S6,Jv es.length zs S6->Iv (i+1) zs (backS n ix S2 S6))
  else Iv (i+1) ys (backS n ix S2 S4)) /\
 ∀ys S2,Iv ds.length ys S2->Q ys S2
theorem iA {tg cs:List Str} {wi wi2:TI} {vi vi2:VTN} {g g2:TG} {vg vg2:VG} {tc tc2:TT} {vt vt2:VTT} {te:TE} {ve:VT} (Sc:aS X scope tg cs ix) (hcalm:X.calm=true) (kg:fV tg.length ix g g2) (hnd:ix.Nodup)
  (hi:VI K X t1 i1 wi vi) (hg:∀C fp s H,VGe K (ak X scope (tg++cs) C fp s H) t1 g vg) (hc:∀C fp s H,VTs K (ak X scope (tg++cs) C fp s H) f1 tc vt) (hi2:∀C fp s H,VI K (ak X scope (tg++cs) C fp s H) t2 i2 wi2 vi2)
  (hg2:∀C fp s H,VGe K (ak X scope (tg++cs) C fp s H) t2 g2 vg2) (hc2:∀C fp s H,VTs K (ak X scope (tg++cs) C fp s H) f2 tc2 vt2) (he:∀C fp s H,VE K (ak X scope (tg++cs) C fp s H) true elt te ve)
  (hs:∀x,EC i1 X.env x=pure x:=by intro _;rfl) (hs2:∀(e:Env) x,EC i2 e x=pure x:=by intro _ _;rfl):VN K X (two_of elt t1 i1 t2 i2 f1 f2 scope pos) (jQ wi tg.length ix g tc wi2 g2 tc2 te) (mz vi tg.length ix vg vt vi2 vg2 vt2 ve):=by
 have sg:SndG K g vg:=(hg 0 [] X.s₀ (fun _=>none)).snd
 have sc:SndT K tc vt:=(hc 0 [] X.s₀ (fun _=>none)).snd
 have si2:SndI K wi2 vi2:=(hi2 0 [] X.s₀ (fun _=>none)).snd
 have sg2:SndG K g2 vg2:=(hg2 0 [] X.s₀ (fun _=>none)).snd
 have sc2:SndT K tc2 vt2:=(hc2 0 [] X.s₀ (fun _=>none)).snd
 have se:SndE K true te ve:=(he 0 [] X.s₀ (fun _=>none)).snd
 have hsz:=FQ
 refine ⟨rn Sc hcalm kg hi.pi (fun C fp s H=>(hg C fp s H).pg) (fun C fp s H=>(hc C fp s H).pe) (fun C fp s H=>(hi2 C fp s H).pi) (fun C fp s H=>(hg2 C fp s H).pg) (fun C fp s H=>(hc2 C fp s H).pe) (fun C fp s H=>(he C fp s H).pe) hs hs2,fun H0 Z σ H S Q C k t hq=>?_⟩
 refine hi.snd H0 Z σ H S _ _ k t fun J ds H1 S1 k1 st1 gd zr1=>?_
 obtain ⟨hl,Iv,i0,hs,hd⟩:=zr1
 refine ⟨fun i m ys H=>m=ds.length-i/\i<=ds.length/\ys.length<=1000*i/\∃S2 zs,OK K H0 Z σ H S2/\Step Z σ S1 H1 σ S2 H/\Reps K (NM Z σ S2) (Fr H0) H ys zs/\Iv i zs S2,⟨ds.length,by simp,Ga _,Ek _,S1,[],k1,.refl,.nil,i0⟩,?_⟩
 rintro i m ys H2 ⟨rfl,hi,hy,S2,zs,k2,st2,rz,p⟩
 obtain ⟨g1,g2',g3⟩:=gd σ S2 H2 (fun _=>k2.nm) st2.1 i
 by_cases hlt:i < ds.length
 ·refine .inr ⟨g1 hlt,fun ys' H'=>ys'.length<=1000*(i+1)/\∃S' zs',OK K H0 Z σ H' S'/\Step Z σ S1 H1 σ S' H'/\Reps K (NM Z σ S') (Fr H0) H' ys' zs'/\Iv (i+1) zs' S',fun ys' H' zt1=>by obtain ⟨p1,p2⟩:=zt1;exact ⟨ds.length-(i+1),by lia,rfl,hlt,p1,p2⟩,fun x H3 y=>?_⟩
  obtain ⟨hgr,d,hd',rd⟩:=g2' x H3 y hlt
  replace k2:=k2.grow hgr
  replace st2:=st2.trans (.grow hgr)
  replace rz:=rz.step (.grow hgr)
  have kc:=k2.capt (n:=tg.length) hnd
  have rd':Rep K (NM (Zin Z ix σ S2) (L2.capt tg.length ix σ) (aV tg.length ix S2)) AnyF H3 x d:=rd.mono (fun a n _=>⟨fun z=>n (dY.mp z),rfl⟩) fun _ x=>x
  have rzc:Reps K (NM (Zin Z ix σ S2) (L2.capt tg.length ix σ) (aV tg.length ix S2)) (Fr H0) H3 ys zs:=rz.mono (fun a n _=>⟨fun z=>n (dY.mp z),rfl⟩) fun _ x=>x
  have h1:=sg H0 _ _ H3 _ x d _ (fun σ4 H4=>∃S4,OK K H0 (Zin Z ix σ S2) σ4 H4 S4/\Step (Zin Z ix σ S2) (L2.capt tg.length ix σ) (aV tg.length ix S2) H3 σ4 S4 H4/\vt S4 fun b S5=>if b=true then (vi2 S5 fun es S5=>es.length<=1000/\∃Jv:Nat->List D->List Sl->Prop,Jv 0 zs S5 /\
   (∀j e zs S6,es[j]?=some e->Jv j zs S6->vg2 e S6 fun S7=>vt2 S7 fun b2 S8=>if b2=true then ve S8 fun r S9=>∃x,r=.d x/\Jv (j+1) (zs++[x]) (msk S6 S9) else Jv (j+1) zs (msk S6 S8))/\∀zs S6,Jv es.length zs S6->Iv (i+1) zs (backS tg.length ix S2 S6)) else Iv (i+1) zs (backS tg.length ix S2 S5)) kc rd' (hs i d zs S2 hd' p) (fun σ4 H4 S4 k4 st4 q4=>⟨S4,k4,st4,q4⟩)
  have h2:=kg x σ H3 _ h1
  refine (hg 0 [] X.s₀ (fun _=>none)).mono _ _ _ _ _ ?_ h2
  rintro σ4 H4 ⟨⟨⟨hl4,hσ4⟩,kb⟩,S4,k4,st4,q4⟩
  refine sc H0 _ σ4 H4 S4 _ _ k4 q4 fun bb H5 S5 k5 st5 q5=>?_
  cases bb with
  | false=>
   rw [if_neg Er] at q5 ⊢
   obtain ⟨kb',sb,nb⟩:=k2.back k5 (st4.trans st5) hσ4
   exact ⟨by lia,_,zs,kb',st2.trans sb,rz.step sb,q5⟩
  | true=>
   rw [if_pos rfl] at q5 ⊢
   refine si2 H0 _ σ4 H5 S5 _ _ k5 q5 fun J2 es H6 S6 k6 st6 gd2 zr1=>?_
   obtain ⟨hl2,Jv,j0,hj,hd2⟩:=zr1
   have stA:=(st4.trans st5).trans st6
   refine ⟨fun j m us H=>m=es.length-j/\j<=es.length/\us.length<=1000*i+j/\∃S7 ws,OK K H0 (Zin Z ix σ S2) σ4 H S7/\Step (Zin Z ix σ S2) σ4 S6 H6 σ4 S7 H/\Reps K (NM (Zin Z ix σ S2) σ4 S7) (Fr H0) H us ws/\Jv j ws S7,⟨es.length,by simp,Ga _,by lia,S6,zs,k6,.refl,rzc.step stA,j0⟩,?_⟩
   rintro j m us H7 ⟨rfl,hjl,hul,S7,ws,k7,st7,rw7,p7⟩
   obtain ⟨a1,a2,a3⟩:=gd2 σ4 S7 H7 (fun _=>k7.nm) st7.1 j
   by_cases hlt2:j < es.length
   ·refine .inr ⟨a1 hlt2,by lia,fun us' H'=>us'.length<=1000*i+(j+1)/\∃S' ws',OK K H0 (Zin Z ix σ S2) σ4 H' S'/\Step (Zin Z ix σ S2) σ4 S6 H6 σ4 S' H'/\Reps K (NM (Zin Z ix σ S2) σ4 S') (Fr H0) H' us' ws'/\Jv (j+1) ws' S',fun us' H' zt1=>by obtain ⟨p1,p2⟩:=zt1;exact ⟨es.length-(j+1),by lia,rfl,hlt2,p1,p2⟩,fun x2 H8 y2=>?_⟩
    obtain ⟨hgr,e,he',re⟩:=a2 x2 H8 y2 hlt2
    replace k7:=k7.grow hgr
    replace st7:=st7.trans (.grow hgr)
    replace rw7:=rw7.step (.grow hgr)
    have h3:=sg2 H0 _ σ4 H8 S7 x2 e _ (fun σ5 H9=>∃S9,OK K H0 (Zin Z ix σ S2) σ5 H9 S9/\Step (Zin Z ix σ S2) σ4 S7 H8 σ5 S9 H9/\vt2 S9 fun b2 S8=>if b2=true then ve S8 fun r S9=>∃x,r=.d x/\Jv (j+1) (ws++[x]) (msk S7 S9) else Jv (j+1) ws (msk S7 S8)) k7 re (hj j e ws S7 he' p7) (fun σ5 H9 S9 k9 st9 q9=>⟨S9,k9,st9,q9⟩)
    refine (hg2 0 [] X.s₀ (fun _=>none)).mono _ _ _ _ _ ?_ (kb x2 H8 _ h3)
    rintro σ5 H9 ⟨⟨hl5,hσ5⟩,S9,k9,st9,q9⟩
    refine sc2 H0 _ σ5 H9 S9 _ _ k9 q9 fun b2 H10 S10 k10 st10 q10=>?_
    cases b2 with
    | false=>
     rw [if_neg Er] at q10 ⊢
     obtain ⟨kf,sf,nf⟩:=k7.forget k10 (st9.trans st10) hl5 hσ5
     exact ⟨by lia,_,ws,kf,st7.trans sf,rw7.step sf,q10⟩
    | true=>
     rw [if_pos rfl] at q10 ⊢
     refine se H0 _ σ5 H10 S10 _ _ k10 q10 fun vv H11 r S11 k11 st11 rr zr1=>?_
     obtain ⟨xx,er,q11⟩:=zr1
     subst er
     obtain ⟨kf,sf,nf⟩:=k7.forget k11 ((st9.trans st10).trans st11) hl5 hσ5
     exact ⟨by simp;lia,_,ws++[xx],kf,st7.trans sf,Reps.append (rw7.step sf) (.cons (Rep.mono (fun a n _=>⟨nf a n,rfl⟩) (fun _ x=>x rfl) rr) .nil),q11⟩
   ·have e:j=es.length:=by lia
    obtain ⟨kb',sb,nb⟩:=k2.back k7 (stA.trans st7) hσ4
    exact .inl ⟨a3 e,by lia,_,ws,kb',st2.trans sb,rw7.mono (fun a n _=>⟨nb a n,rfl⟩) fun _ x=>x,hd2 ws S7 (by rw [<- e];exact p7)⟩
 ·have e:i=ds.length:=by lia
  refine .inl ⟨g3 e,by lia,fun l hp=>?_⟩
  exact hq l ys zs H2 _ S2 k2 (st1.trans st2) hp (aT hp) aD (bJ hp (rz.mono (fun _ n _=>⟨n,rfl⟩) fun _ x _=>x)) (hd zs S2 (by rw [<- e];exact p))
theorem oV {spos py:Pos} {yy:Str} {ii:Nat} {tg cs:List Str} {wi wi2:TI} {vi vi2:VTN} {g g2:TG} {vg vg2:VG} {tc tc2:TT} {vt vt2:VTT} {te:TE} {ve:VT} (hN0:X.N.Nodup) (hi0:X.N[ii]?=some yy) (hx0:Loc X.env.scope yy) (hf0:X.fn yy=true\/X.env.scope.names.lookup yy=some .local) (Sc:aS X scope tg cs ix) (hcalm:X.calm=true) (kg:fV tg.length ix g g2) (hnd:ix.Nodup)
  (hi:VI K X t1 i1 wi vi) (hg:∀C fp s H,VGe K (ak X scope (tg++cs) C fp s H) t1 g vg) (hc:∀C fp s H,VTs K (ak X scope (tg++cs) C fp s H) f1 tc vt) (hi2:∀C fp s H,VI K (ak X scope (tg++cs) C fp s H) t2 i2 wi2 vi2)
  (hg2:∀C fp s H,VGe K (ak X scope (tg++cs) C fp s H) t2 g2 vg2) (hc2:∀C fp s H,VTs K (ak X scope (tg++cs) C fp s H) f2 tc2 vt2) (he:∀C fp s H,VE K (ak X scope (tg++cs) C fp s H) true elt te ve)
  (hsw:GP (two_of elt t1 i1 t2 i2 f1 f2 scope pos) (some (.Name yy py)) spos.line X.env=pure true:=by rfl) (hs:∀x,EC i1 X.env x=pure x:=by intro _;rfl) (hs2:∀(e:Env) x,EC i2 e x=pure x:=by intro _ _;rfl) :
  VS K X (.Assign [.Name yy py] (two_of elt t1 i1 t2 i2 f1 f2 scope pos) spos) (cU (jQ wi tg.length ix g tc wi2 g2 tc2 te) (aX ii)) (mj (ql (mz vi tg.length ix vg vt vi2 vg2 vt2 ve)) (vgN ii)):=by
 have h:=iA (pos:=pos) Sc hcalm kg hnd hi hg hc hi2 hg2 hc2 he hs hs2
 refine ⟨oU hN0 hi0 hx0 Sc hcalm kg hi.pi (fun C fp s H=>(hg C fp s H).pg) (fun C fp s H=>(hc C fp s H).pe) (fun C fp s H=>(hi2 C fp s H).pi) (fun C fp s H=>(hg2 C fp s H).pg) (fun C fp s H=>(hc2 C fp s H).pe) (fun C fp s H=>(he C fp s H).pe) hf0 hsw hs hs2,jF (aU (m:=false) h).snd fun H0 Z σ H S v d Q C k r zt1 hc=>by obtain ⟨hi,q⟩:=zt1;exact hc _ _ _ (k.setVal hi r).1 (k.setVal hi r).2 q⟩
end
end VL
end
section
namespace VL
open PySem L2 PySem.W
section
variable {va vb:VT} {vn:VTN} {S:List Sl} {Q:VR->List Sl->Prop} {i:Nat}
def Dr (i:Nat) (Q:VR->List Sl->Prop):List D->List Sl->Prop:=fun ds2 S1=>∃ds,S1[i]?=some (.own ds)/\ds.length+ds2.length<=1000000/\Q (.d .non) (S1.set i (.own (ds++ds2)))
theorem Ds (e:S[i]?=some (.own ds)) (h:vn S (Dr i Q)):Dq i vn S Q:=⟨⟨ds,e⟩,h⟩
theorem Ar {ds ds2:List D} (e:S[i]?=some (.own ds)) (e2:ds.length+ds2.length<=1000000) (h:Q (.d .non) (S.set i (.own (ds++ds2)))):Dr i Q ds2 S:=⟨ds,e,e2,h⟩
end
section
variable {α β:Type} {n:Nat} {ix:List Nat} {g g2:VG} {vt vt2:VTT} {vi vi2:VTN} {ve vk vv:VT} {S:List Sl}
def As (rk:VR) (A:List Int->D->List Sl->Prop):VR->List Sl->Prop:=fun rv S6=>∃ms x,get S6 rk=some (kT ms)/\rv=.d x/\A ms x S6
def Au (vv:VT) (A:List Int->D->List Sl->Prop):VR->List Sl->Prop:=fun rk S5=>vv S5 (As rk A)
def uN (vk vv:VT) (A:List Int->D->List Sl->Prop) (B:List Sl->Prop):Bool->List Sl->Prop:=fun b S4=>if b=true then vk S4 (Au vv A) else B S4
def rp (n:Nat) (ix:List Nat) (g:VG) (vt:VTT) (vk vv:VT) (Q:List (List Int×D)->List Sl->Prop):List D->List Sl->Prop:=fun ds S1=>ds.length<=1000000/\∃Iv:Nat->List (List Int×D)->List Sl->Prop,Iv 0 [] S1 /\
 (∀i d kvs S2,ds[i]?=some d->Iv i kvs S2->g d (aV n ix S2) fun S3=>vt S3 (uN vk vv (fun ms x S6=>Iv (i+1) (cu kvs ms x) (backS n ix S2 S6)) fun S4=>Iv (i+1) kvs (backS n ix S2 S4)))/\∀kvs S2,Iv ds.length kvs S2->Q kvs S2
theorem uO {Q:List (List Int×D)->List Sl->Prop} (h:vi S (rp n ix g vt vk vv Q)):rh vi n ix g vt vk vv S Q:=h
theorem Av {A:List Int->D->List Sl->Prop} {B:List Sl->Prop} (h:vk S (Au vv A)):uN vk vv A B true S:=by unfold uN;rw [if_pos rfl];exact h
theorem Aw {A:List Int->D->List Sl->Prop} {rk:VR} (h:vv S (As rk A)):Au vv A rk S:=h
theorem Ax {A:List Int->D->List Sl->Prop} {rk:VR} {x:D} (e:get S rk=some (kT ms)) (h:A ms x S):As rk A (.d x) S:=⟨ms,x,e,rfl,h⟩
theorem oW {Q:List (List Int×D)->List Sl->Prop} {xs:List α} {en f:α->D} {ky:α->List Int} (hl:xs.length<=1000000)
  (h:∀x∈xs,∀(A:List Int->D->List Sl->Prop) (B:List Sl->Prop),(∀S5,backS n ix S S5=S->A (ky x) (f x) S5)->g (en x) (aV n ix S) fun S3=>vt S3 (uN vk vv A B))
  (h2:Q (xs.foldl (fun kvs x=>cu kvs (ky x) (f x)) []) S):rp n ix g vt vk vv Q (xs.map en) S:=by
 refine ⟨by simpa using hl,fun i kvs S'=>S'=S/\kvs=(xs.take i).foldl (fun kvs x=>cu kvs (ky x) (f x)) [],⟨rfl,by simp⟩,?_,?_⟩
 ·rintro i d kvs S2 e ⟨rfl,rfl⟩
  obtain ⟨x,h1,rfl,hm,ht⟩:=aJ e
  refine h x hm _ _ fun S5 e5=>⟨e5,?_⟩
  rw [ht,List.foldl_append]
  rfl
 ·rintro kvs S2 ⟨rfl,rfl⟩
  rw [Eh,Fs]
  exact h2
theorem iB {k c:List Int}:c∈(cu kvs k d).map (·.1)↔c=k\/c∈kvs.map (·.1):=by
 unfold cu
 split
 ·next h=>
  rw [show (kvs.map fun x=>if x.1=k then (x.1,d) else x).map (·.1)=kvs.map (·.1) from iy kvs k d]
  exact ⟨.inr,fun z=>z.elim (fun e=>e▸h) id⟩
 ·simp [or_comm]
def uP (vg2:VG) (vt2:VTT) (ve:VT) (ys:List D) (A:List D->List Sl->Prop):List D->List Sl->Prop:=fun es S5=>es.length<=1000/\∃Jv:Nat->List D->List Sl->Prop,Jv 0 ys S5 /\
 (∀j e zs S6,es[j]?=some e->Jv j zs S6->vg2 e S6 fun S7=>vt2 S7 (cY ve (fun x S9=>Jv (j+1) (zs++[x]) (msk S6 S9)) fun S8=>Jv (j+1) zs (msk S6 S8)))/\∀zs S6,Jv es.length zs S6->A zs S6
def uQ (vi2:VTN) (vg2:VG) (vt2:VTT) (ve:VT) (ys:List D) (A:List D->List Sl->Prop) (B:List Sl->Prop):Bool->List Sl->Prop:=fun b S4=>if b=true then vi2 S4 (uP vg2 vt2 ve ys A) else B S4
def rq (n:Nat) (ix:List Nat) (g:VG) (vt:VTT) (vi2:VTN) (vg2:VG) (vt2:VTT) (ve:VT) (Q:List D->List Sl->Prop):List D->List Sl->Prop:=fun ds S1=>ds.length<=1000/\∃Iv:Nat->List D->List Sl->Prop,Iv 0 [] S1 /\
 (∀i d ys S2,ds[i]?=some d->Iv i ys S2->g d (aV n ix S2) fun S3=>vt S3 (uQ vi2 vg2 vt2 ve ys (fun zs S6=>Iv (i+1) zs (backS n ix S2 S6)) fun S4=>Iv (i+1) ys (backS n ix S2 S4)))/\∀ys S2,Iv ds.length ys S2->Q ys S2
theorem uR {Q:List D->List Sl->Prop} (h:vi S (rq n ix g vt vi2 g2 vt2 ve Q)):mz vi n ix g vt vi2 g2 vt2 ve S Q:=h
theorem Ay {ys:List D} {A:List D->List Sl->Prop} {B:List Sl->Prop} (h:vi2 S (uP g2 vt2 ve ys A)):uQ vi2 g2 vt2 ve ys A B true S:=by unfold uQ;rw [if_pos rfl];exact h
theorem rA {xs:List β} {en f:β->D} {ys:List D} {A:List D->List Sl->Prop} (hl:xs.length<=1000)
  (h:∀x∈xs,∀(A:D->List Sl->Prop) (B:List Sl->Prop),(∀S5,msk S S5=S->A (f x) S5)->g2 (en x) S fun S3=>vt2 S3 (cY ve A B)) (h2:A (ys++xs.map f) S):uP g2 vt2 ve ys A (xs.map en) S:=by
 refine ⟨by simpa using hl,fun j zs S'=>S'=S/\zs=ys++(xs.take j).map f,⟨rfl,by simp⟩,?_,?_⟩
 ·rintro i d zs S2 e ⟨rfl,rfl⟩
  obtain ⟨x,h1,rfl,hm,ht⟩:=aJ e
  refine h x hm _ _ fun S5 e5=>⟨e5,?_⟩
  rw [ht,EJ,<- Ey]
  rfl
 ·rintro zs S2 ⟨rfl,rfl⟩
  rw [Eh,Fs]
  exact h2
theorem fW {Q:List D->List Sl->Prop} {xs:List α} {en:α->D} {r:α->List D} (hl:xs.length<=1000)
  (h:∀x∈xs,∀(ys:List D) (A:List D->List Sl->Prop) (B:List Sl->Prop),(∀S5,backS n ix S S5=S->A (ys++r x) S5)->g (en x) (aV n ix S) fun S3=>vt S3 (uQ vi2 g2 vt2 ve ys A B)) (h2:Q (xs.flatMap r) S):rq n ix g vt vi2 g2 vt2 ve Q (xs.map en) S:=by
 refine ⟨by simpa using hl,fun i ys S'=>S'=S/\ys=(xs.take i).flatMap r,⟨rfl,by simp⟩,?_,?_⟩
 ·rintro i d ys S2 e ⟨rfl,rfl⟩
  obtain ⟨x,h1,rfl,hm,ht⟩:=aJ e
  refine h x hm _ _ _ fun S5 e5=>⟨e5,?_⟩
  rw [ht,GO]
  simp
 ·rintro ys S2 ⟨rfl,rfl⟩
  rw [Eh,Fs]
  exact h2
end
end VL
end
section
namespace Tim
open PySem PyProof.Rows
def gal:Bool->EE->Array EE->Nat->Nat->Nat->StateT F8 Sem (Option Nat):=sortPriv% PySem.Builtin.gallop
def at_ (arr:Array EE) (i:Nat):EE:=arr.getD i (FE,FE)
theorem nP {arr:Array EE} {i:Nat} (h:i < arr.size):arr[i]?=some (at_ arr i):=by
 unfold at_;simp [Array.getD,h]
theorem bf {a b:Array EE} {i j:Nat} (h:a[i]?=b[j]?):at_ a i=at_ b j:=by
 unfold at_;rw [Ij,Ij,h]
def fX (prog:E2) (w:FO) (A:F4) (s:El) (κ:HC) (O:IP) (key:EE->O.α) (P:EE->Prop):Prop:=
 ∀(x y:EE) (C:Bool->El->Prop),P x->P y->C (O.blt (key x) (key y)) s->Fp (Ff prog w) A (keyLt' κ x.1 y.1) C (fun _ _=>False) s
def bey {O:IP} (key:EE->O.α) (left:Bool) (x y:EE):Bool:=if left=true then O.blt (key y) (key x) else !O.blt (key x) (key y)
section
variable {prog:E2} {w:FO} {A:F4} {E:Ej->El->Prop} {s:El} {κ:HC} {O:IP} {key:EE->O.α} {P:EE->Prop}
theorem li (C:fX prog w A s κ O key P) {x y:EE} {st:F8} {Q:Option Bool->F8->Prop} (hx:P x) (hy:P y) (hk:kindOf st=κ) (h:Q (some (O.blt (key x) (key y))) st) :
  wpS (Ff prog w) A E s (lt' x y) Q st:=by
 rw [lt'_eq]
 refine En (HM ?_)
 rw [hk]
 refine En (Jd (Km (EN (C x y (fun b s'=>s'=s/\b=O.blt (key x) (key y)) hx hy ⟨rfl,rfl⟩) (fun b s' z=>⟨z.1,?_⟩) fun _ _ z=>z.elim)))
 rw [z.2]
 exact Eu h
theorem aR {arr:Array EE} {i:Nat} {st:F8} {Q:EE->F8->Prop} (e:i < arr.size) (h:Q (at_ arr i) st):wpS (Ff prog w) A E s (elem' arr i) Q st:=by
 rw [elem'_eq,nP e];exact Eu h
theorem Az (C:fX prog w A s κ O key P) {left:Bool} {x:EE} {arr:Array EE} {i:Nat} {st:F8} {Q:Option Bool->F8->Prop} (e:i < arr.size) (hx:P x) (hy:P (at_ arr i)) (hk:kindOf st=κ)
  (h:Q (some (bey key left x (at_ arr i))) st) :
  wpS (Ff prog w) A E s (elem' arr i >>= fun y=>if left=true then lt' y x else lt' x y >>= fun r=>pure (Option.map (fun z=>!z) r)) Q st:=by
 refine En (aR e ?_)
 unfold bey at h
 cases left with
 | true=>exact li C hy hx hk h
 | false=>exact En (li C hx hy hk (Eu h))
theorem fY (C:fX prog w A s κ O key P) {left:Bool} {x:EE} {arr:Array EE} {base n hint:Nat} {st:F8} {Q:Option Nat->F8->Prop} (hk:kindOf st=κ) (hh:hint < n) (hz:base+n<=arr.size)
  (hP:∀i,i < n->P (at_ arr (base+i))) (hx:P x) (mono:∀i j,i<=j->j < n->bey key left x (at_ arr (base+j))=true->bey key left x (at_ arr (base+i))=true)
  (h:∀k,k<=n->(∀i,i < k->bey key left x (at_ arr (base+i))=true)->(∀i,k<=i->i < n->bey key left x (at_ arr (base+i))=false)->Q (some k) st) :
  wpS (Ff prog w) A E s (gal left x arr base n hint) Q st:=by
 have B:=fun i (hi:i < n) (R:Option Bool->F8->Prop) (r:R (some (bey key left x (at_ arr (base+i)))) st)=>Az (E:=E) C (left:=left) (show base+i < arr.size by lia) hx (hP i hi) hk r
 generalize eb:(fun i=>bey key left x (at_ arr (base+i)))=b at *
 have eb':∀i,bey key left x (at_ arr (base+i))=b i:=fun i=>by rw [<- eb]
 simp only [eb'] at *
 have anti:∀i j,i<=j->j < n->b i=false->b j=false:=fun i j hij hj hi=>by
  cases hj':b j with
  | false=>rfl
  | true=>rw [mono i j hij hj hj'] at hi;cases hi
 delta gal
 refine En (B hint hh _ ?_)
 dsimp only
 cases hb:b hint with
 | true=>
  rw [if_pos rfl]
  refine En (F7 (Fj (I:=fun k c st'=>st'=st/\∃ls os,c=(none,ls,os)/\ls < os/\k+1<=os/\hint+ls < n/\b (hint+ls)=true)
   (Q:=fun c st'=>st'=st/\∃ls os,c=(none,ls,os)/\ls < os/\hint+ls < n/\b (hint+ls)=true/\(n-hint<=os\/b (hint+os)=false)) ?step ?fin ⟨rfl,0,1,rfl,by lia,by lia,by lia,hb⟩) ?post)
  case fin=>
   rintro c st' ⟨rfl,ls,os,rfl,h1,h2,h3,h4⟩
   exact ⟨rfl,ls,os,rfl,h1,h3,h4,.inl (by lia)⟩
  case step=>
   rintro k c st' _ hkn ⟨rfl,ls,os,rfl,h1,h2,h3,h4⟩
   dsimp only
   by_cases hge:os >= n-hint
   ·rw [if_pos hge];exact Eu ⟨rfl,ls,os,rfl,h1,h3,h4,.inl hge⟩
   ·rw [if_neg hge]
    refine En (B (hint+os) (by lia) _ ?_)
    dsimp only
    cases ho:b (hint+os) with
    | true=>exact Eu ⟨rfl,os,2*os+1,rfl,by lia,by lia,by lia,ho⟩
    | false=>exact Eu ⟨rfl,ls,os,rfl,h1,h3,h4,.inr ho⟩
  case post=>
   rintro c st' ⟨rfl,ls,os,rfl,h1,h3,h4,h5⟩
   dsimp only
   refine En (F7 (Fj (I:=fun k c st''=>st''=st'/\∃lo hi,c=(none,lo,hi)/\lo<=hi/\hi<=n/\hi-lo<=n-k/\(∀i,i < lo->b i=true)/\(∀i,hi<=i->i < n->b i=false))
    (Q:=fun c st''=>st''=st'/\∃k,c=(none,k,k)/\k<=n/\(∀i,i < k->b i=true)/\(∀i,k<=i->i < n->b i=false)) ?step ?fin ?init) ?post)
   case init=>
    refine ⟨rfl,_,_,rfl,by lia,by lia,by lia,fun i hi=>mono i _ (by lia) h3 h4,fun i hi hn=>?_⟩
    rcases h5 with h5 | h5
    ·lia
    ·by_cases hge:n-hint<=os
     ·lia
     ·exact anti _ i (by lia) hn h5
   case post=>
    rintro c st'' ⟨rfl,k,rfl,z1,z2,z3⟩
    exact Eu (h k z1 z2 z3)
   case fin=>
    rintro c st'' ⟨rfl,lo,hi,rfl,a1,a2,a3,a4,a5⟩
    have:lo=hi:=by lia
    subst this
    exact ⟨rfl,lo,rfl,a2,a4,a5⟩
   case step=>
    rintro k c st'' _ hkn ⟨rfl,lo,hi,rfl,a1,a2,a3,a4,a5⟩
    dsimp only
    by_cases hge:lo >= hi
    ·rw [if_pos hge]
     have:lo=hi:=by lia
     subst this
     exact Eu ⟨rfl,lo,rfl,a2,a4,a5⟩
    ·rw [if_neg hge]
     refine En (B (lo+(hi-lo) / 2) (by lia) _ ?_)
     dsimp only
     cases ho:b (lo+(hi-lo) / 2) with
     | true=>exact Eu ⟨rfl,_,_,rfl,by lia,a2,by lia,fun i hi=>mono i _ (by lia) (by lia) ho,a5⟩
     | false=>exact Eu ⟨rfl,_,_,rfl,by lia,by lia,by lia,a4,fun i h1 h2=>anti _ i h1 h2 ho⟩
 | false=>
  rw [if_neg (by simp)]
  refine En (F7 (Fj (I:=fun k c st'=>st'=st/\∃ls os,c=(none,ls,os)/\ls < os/\k+1<=os/\ls<=hint/\b (hint-ls)=false)
   (Q:=fun c st'=>st'=st/\∃ls os,c=(none,ls,os)/\ls < os/\ls<=hint/\b (hint-ls)=false/\(hint+1<=os\/(os<=hint/\b (hint-os)=true))) ?step ?fin ⟨rfl,0,1,rfl,by lia,by lia,by lia,hb⟩) ?post)
  case fin=>
   rintro c st' ⟨rfl,ls,os,rfl,h1,h2,h3,h4⟩
   exact ⟨rfl,ls,os,rfl,h1,h3,h4,.inl (by lia)⟩
  case step=>
   rintro k c st' _ hkn ⟨rfl,ls,os,rfl,h1,h2,h3,h4⟩
   dsimp only
   by_cases hge:os >= hint+1
   ·rw [if_pos hge];exact Eu ⟨rfl,ls,os,rfl,h1,h3,h4,.inl hge⟩
   ·rw [if_neg hge]
    refine En (B (hint-os) (by lia) _ ?_)
    dsimp only
    cases ho:b (hint-os) with
    | true=>exact Eu ⟨rfl,ls,os,rfl,h1,h3,h4,.inr ⟨by lia,ho⟩⟩
    | false=>exact Eu ⟨rfl,os,2*os+1,rfl,by lia,by lia,by lia,ho⟩
  case post=>
   rintro c st' ⟨rfl,ls,os,rfl,h1,h3,h4,h5⟩
   dsimp only
   refine En (F7 (Fj (I:=fun k c st''=>st''=st'/\∃lo hi,c=(none,lo,hi)/\lo<=hi/\hi<=n/\hi-lo<=n-k/\(∀i,i < lo->b i=true)/\(∀i,hi<=i->i < n->b i=false))
    (Q:=fun c st''=>st''=st'/\∃k,c=(none,k,k)/\k<=n/\(∀i,i < k->b i=true)/\(∀i,k<=i->i < n->b i=false)) ?step ?fin ?init) ?post)
   case init=>
    refine ⟨rfl,_,_,rfl,by lia,by lia,by lia,fun i hi=>?_,fun i hi hn=>anti _ i hi hn h4⟩
    rcases h5 with h5 | h5
    ·lia
    ·exact mono i _ (by lia) (by lia) h5.2
   case post=>
    rintro c st'' ⟨rfl,k,rfl,z1,z2,z3⟩
    exact Eu (h k z1 z2 z3)
   case fin=>
    rintro c st'' ⟨rfl,lo,hi,rfl,a1,a2,a3,a4,a5⟩
    have:lo=hi:=by lia
    subst this
    exact ⟨rfl,lo,rfl,a2,a4,a5⟩
   case step=>
    rintro k c st'' _ hkn ⟨rfl,lo,hi,rfl,a1,a2,a3,a4,a5⟩
    dsimp only
    by_cases hge:lo >= hi
    ·rw [if_pos hge]
     have:lo=hi:=by lia
     subst this
     exact Eu ⟨rfl,lo,rfl,a2,a4,a5⟩
    ·rw [if_neg hge]
     refine En (B (lo+(hi-lo) / 2) (by lia) _ ?_)
     dsimp only
     cases ho:b (lo+(hi-lo) / 2) with
     | true=>exact Eu ⟨rfl,_,_,rfl,by lia,a2,by lia,fun i hi=>mono i _ (by lia) (by lia) ho,a5⟩
     | false=>exact Eu ⟨rfl,_,_,rfl,by lia,by lia,by lia,a4,fun i h1 h2=>anti _ i h1 h2 ho⟩
end
end Tim
end
section
namespace Tim
open PySem PyProof.Rows
section
variable {α:Type} {le:α->α->Prop}
structure MI (le:α->α->Prop) (A B out:List α) (ia ib:Nat):Prop where
 perm:out.Perm (A.take ia++B.take ib)
 srt:out.Pairwise le
 la:∀x∈out,∀y∈A.drop ia,le x y
 lb:∀x∈out,∀y∈B.drop ib,le x y
def Res (le:α->α->Prop) (A B r:List α):Prop:=r.Perm (A++B)/\r.Pairwise le
theorem MI.pushA {A B out:List α} {ia ib k:Nat} (sA:A.Pairwise le) (M:MI le A B out ia ib) (h:∀x∈(A.drop ia).take k,∀y∈B.drop ib,le x y):MI le A B (out++(A.drop ia).take k) (ia+k) ib:=by
 have sD:((A.drop ia).take k++(A.drop ia).drop k).Pairwise le:=by rw [E1];exact sA.drop
 have eD:A.drop (ia+k)=(A.drop ia).drop k:=by rw [List.drop_drop]
 rw [JN] at sD
 refine ⟨?_,?_,?_,?_⟩
 ·rw [List.take_add,Ey]
  refine (M.perm.append_right _).trans ?_
  rw [Ey]
  exact Gg _ Gh
 ·exact List.pairwise_append.mpr ⟨M.srt,sD.1,fun x hx y hy=>M.la x hx y (Gp hy)⟩
 ·intro x hx y hy
  rw [eD] at hy
  rcases List.mem_append.mp hx with hx | hx
  ·exact M.la x hx y (G9 hy)
  ·exact sD.2.2 x hx y hy
 ·intro x hx y hy
  rcases List.mem_append.mp hx with hx | hx
  ·exact M.lb x hx y hy
  ·exact h x hx y hy
theorem MI.swap {A B out:List α} {ia ib:Nat} (M:MI le A B out ia ib):MI le B A out ib ia:=⟨M.perm.trans Gh,M.srt,M.lb,M.la⟩
theorem MI.pushB {A B out:List α} {ia ib k:Nat} (sB:B.Pairwise le) (M:MI le A B out ia ib) (h:∀x∈(B.drop ib).take k,∀y∈A.drop ia,le x y):MI le A B (out++(B.drop ib).take k) ia (ib+k):=
 (M.swap.pushA sB h).swap
theorem MI.done {A B out:List α} {ia ib:Nat} (sA:A.Pairwise le) (sB:B.Pairwise le) (M:MI le A B out ia ib) (h:A.drop ia=[]\/B.drop ib=[]):Res le A B (out++A.drop ia++B.drop ib):=by
 refine ⟨?_,?_⟩
 ·rw [Ey]
  refine (M.perm.append_right _).trans ?_
  conv=>rhs;rw [<- E1 ia A,<- E1 ib B]
  rw [Ey,Ey]
  refine Gg _ ?_
  rw [<- Ey,<- Ey]
  exact Ht _ Gh
 ·rw [Ey]
  refine List.pairwise_append.mpr ⟨M.srt,?_,fun x hx y hy=>?_⟩
  ·rcases h with h | h
   ·rw [h];exact sB.drop
   ·rw [h,FY];exact sA.drop
  ·rcases List.mem_append.mp hy with hy | hy
   ·exact M.la x hx y hy
   ·exact M.lb x hx y hy
theorem MI.last {A B out:List α} {ia ib:Nat} (sA:A.Pairwise le) (sB:B.Pairwise le) (M:MI le A B out ia ib) (h:∀x∈B,∀y∈A.drop ia,le x y):Res le A B (out++B.drop ib++A.drop ia):=by
 refine ⟨?_,?_⟩
 ·rw [Ey]
  refine (M.perm.append_right _).trans ?_
  conv=>rhs;rw [<- E1 ia A,<- E1 ib B]
  rw [Ey,Ey]
  refine Gg _ ?_
  rw [<- Ey]
  exact Gh
 ·rw [Ey]
  refine List.pairwise_append.mpr ⟨M.srt,List.pairwise_append.mpr ⟨sB.drop,sA.drop,fun x hx y hy=>h x (G9 hx) y hy⟩,fun x hx y hy=>?_⟩
  rcases List.mem_append.mp hy with hy | hy
  ·exact M.lb x hx y hy
  ·exact M.la x hx y hy
structure MH (le:α->α->Prop) (A B R:List α) (na nb:Nat):Prop where
 perm:R.Perm (A.drop na++B.drop nb)
 srt:R.Pairwise le
 la:∀x∈A.take na,∀y∈R,le x y
 lb:∀x∈B.take nb,∀y∈R,le x y
theorem MH.swap {A B R:List α} {na nb:Nat} (M:MH le A B R na nb):MH le B A R nb na:=⟨M.perm.trans Gh,M.srt,M.lb,M.la⟩
theorem MH.pushA {A B R:List α} {na nb k:Nat} (sA:A.Pairwise le) (hk:k<=na) (M:MH le A B R na nb) (h:∀x∈B.take nb,∀y∈(A.take na).drop k,le x y):MH le A B ((A.take na).drop k++R) k nb:=by
 have sD:((A.take na).take k++(A.take na).drop k).Pairwise le:=by rw [E1];exact sA.take
 have eT:A.take k=(A.take na).take k:=by rw [List.take_take,JA hk]
 have eD:A.drop k=(A.take na).drop k++A.drop na:=by
  conv=>lhs;rw [<- E1 na A]
  rw [List.drop_append]
  by_cases hz:na<=A.length
  ·rw [show k-(A.take na).length=0 by rw [GQ];lia];rfl
  ·rw [Gw (show A.length<=na by lia)];simp
 rw [JN] at sD
 refine ⟨?_,?_,?_,?_⟩
 ·rw [eD,Ey]
  exact Gg _ M.perm
 ·exact List.pairwise_append.mpr ⟨sD.2.1,M.srt,fun x hx y hy=>M.la x (G9 hx) y hy⟩
 ·intro x hx y hy
  rw [eT] at hx
  rcases List.mem_append.mp hy with hy | hy
  ·exact sD.2.2 x hx y hy
  ·exact M.la x (Gp hx) y hy
 ·intro x hx y hy
  rcases List.mem_append.mp hy with hy | hy
  ·exact h x hx y hy
  ·exact M.lb x hx y hy
theorem MH.pushB {A B R:List α} {na nb k:Nat} (sB:B.Pairwise le) (hk:k<=nb) (M:MH le A B R na nb) (h:∀x∈A.take na,∀y∈(B.take nb).drop k,le x y):MH le A B ((B.take nb).drop k++R) na k:=
 (M.swap.pushA sB hk h).swap
theorem MH.done {A B R:List α} {na nb:Nat} (sA:A.Pairwise le) (sB:B.Pairwise le) (M:MH le A B R na nb) (h:A.take na=[]\/B.take nb=[]):Res le A B (A.take na++B.take nb++R):=by
 refine ⟨?_,?_⟩
 ·refine (M.perm.append_left _).trans ?_
  conv=>rhs;rw [<- E1 na A,<- E1 nb B]
  rw [Ey,Ey]
  refine Gg _ ?_
  rw [<- Ey,<- Ey]
  exact Ht _ Gh
 ·refine List.pairwise_append.mpr ⟨?_,M.srt,fun x hx y hy=>?_⟩
  ·rcases h with h | h
   ·rw [h];exact sB.take
   ·rw [h,FY];exact sA.take
  ·rcases List.mem_append.mp hx with hx | hx
   ·exact M.la x hx y hy
   ·exact M.lb x hx y hy
theorem MH.first {A B R:List α} {na nb:Nat} (sA:A.Pairwise le) (sB:B.Pairwise le) (M:MH le A B R na nb) (h:∀x∈B.take nb,∀y∈A,le x y):Res le A B (B.take nb++A.take na++R):=by
 refine ⟨?_,?_⟩
 ·refine (M.perm.append_left _).trans ?_
  conv=>rhs;rw [<- E1 na A,<- E1 nb B]
  rw [<- Ey,<- Ey]
  refine Ht _ ?_
  rw [Ey,Ey]
  exact List.perm_append_comm.trans (by rw [Ey])
 ·refine List.pairwise_append.mpr ⟨List.pairwise_append.mpr ⟨sB.take,sA.take,fun x hx y hy=>h x hx y (Gp hy)⟩,M.srt,fun x hx y hy=>?_⟩
  rcases List.mem_append.mp hx with hx | hx
  ·exact M.lb x hx y hy
  ·exact M.la x hx y hy
theorem cZ {l:List α} {i:Nat} (d:α) (h:i < l.length):(l.drop i).take 1=[l.getD i d]:=by
 rw [Gy h,List.take_succ_cons,ID,Fc,Ei h];rfl
theorem de {l:List α} {i:Nat} (d:α) (h:i < l.length):(l.take (i+1)).drop i=[l.getD i d]:=by
 rw [Kv,List.drop_append,Gw (by simp;lia)]
 simp [h,JA (Jp h)]
end
end Tim
end
section
namespace Tim
open PySem PyProof.Rows
def mlo:Array EE->Array EE->StateT F8 Sem (Array EE):=sortPriv% PySem.Builtin.mergeLo
def Same (st st':F8):Prop:=kindOf st'=kindOf st/\Et st'=Et st/\EM st'=EM st/\GW st'=GW st
theorem Same.rfl' {st:F8}:Same st st:=⟨rfl,rfl,rfl,rfl⟩
theorem jR (a:Array EE) (i:Nat):(a.extract i a.size).toList=a.toList.drop i:=by
 simp only [Array.toList_extract,IE];exact Hs (by simp)
theorem uS (a:Array EE) (i k:Nat):(a.extract i (i+k)).toList=(a.toList.drop i).take k:=by simp [IE]
abbrev kl {O:IP} (key:EE->O.α):EE->EE->Prop:=fun x y=>O.kle (key x) (key y)
theorem bT {a:Array EE} {i:Nat} (h:i < a.size):a.toList[i]?=some (at_ a i):=by rw [FG];exact nP h
theorem dZ {a:Array EE} {i:Nat} (h:i < a.size):at_ a i∈a.toList:=F0 (bT h)
theorem getD_at {a:Array EE} {i:Nat} (h:i < a.size):a.toList.getD i (FE,FE)=at_ a i:=by rw [Fc,bT h];rfl
theorem jS {a:Array EE} {i k:Nat} {x:EE} (h:x∈(a.toList.drop i).take k):∃j,j < k/\i+j < a.size/\x=at_ a (i+j):=by
 obtain ⟨j,hj,e⟩:=J5 h
 have hj':j < k/\j < a.size-i:=by simpa [Nat.lt_min] using hj
 refine ⟨j,hj'.1,by lia,?_⟩
 have e2:a.toList[i+j]?=some x:=by
  rw [<- e]
  simp only [List.getElem_take,List.getElem_drop]
  exact Ei _
 rw [bT (by lia)] at e2
 exact (ER e2).symm
theorem lj {a:Array EE} {i:Nat} {x:EE} (h:x∈a.toList.drop i):∃j,i+j < a.size/\x=at_ a (i+j):=by
 obtain ⟨j,_,h2,h3⟩:=jS (k:=(a.toList.drop i).length) (by rw [Fs];exact h)
 exact ⟨j,h2,h3⟩
section
variable {prog:E2} {w:FO} {A:F4} {E:Ej->El->Prop} {s:El} {κ:HC} {O:IP} {key:EE->O.α} {P:EE->Prop}
theorem d0 {a:Array EE} (h:a.toList.Pairwise (kl key)) {i j:Nat} (hij:i<=j) (hj:j < a.size):kl key (at_ a i) (at_ a j):=by
 by_cases e:i=j
 ·subst e;exact GH _
 ·have q:=List.pairwise_iff_getElem.mp h i j (by simp;lia) (by simpa using hj) (by lia)
  have e1:a.toList[i]'(by simp;lia)=at_ a i:=by have:=bT (a:=a) (i:=i) (by lia);rw [Ei (by simp;lia)] at this;exact ER this
  have e2:a.toList[j]'(by simpa using hj)=at_ a j:=by have:=bT (a:=a) (i:=j) hj;rw [Ei (by simpa using hj)] at this;exact ER this
  rw [e1,e2] at q
  exact q
theorem fG {a:Array EE} (h:a.toList.Pairwise (kl key)) {i:Nat} {y:EE} (hy:y∈a.toList.drop i):kl key (at_ a i) y:=by
 obtain ⟨j,hj,rfl⟩:=lj hy
 exact d0 h (by lia) hj
theorem lq {x y:EE} (h:bey key false x y=true):kl key y x:=by
 have:(!O.blt (key x) (key y))=true:=h
 show O.blt (key x) (key y)=false
 simpa using this
theorem rB {x y:EE} (h:bey key false x y=false):O.klt (key x) (key y):=by
 have:(!O.blt (key x) (key y))=false:=h
 show O.blt (key x) (key y)=true
 simpa using this
theorem lr {x y:EE} (h:bey key true x y=true):O.klt (key y) (key x):=h
theorem rC {x y:EE} (h:bey key true x y=false):kl key x y:=h
theorem nQ {a:Array EE} (h:a.toList.Pairwise (kl key)) {x:EE} {base n:Nat} (hz:base+n<=a.size):∀i j,i<=j->j < n->bey key false x (at_ a (base+j))=true->bey key false x (at_ a (base+i))=true:=fun i j hij hj q=>by
 have q:=lq q
 have:kl key (at_ a (base+i)) x:=E4 (d0 h (by lia) (by lia)) q
 show (!O.blt (key x) (key (at_ a (base+i))))=true
 rw [show O.blt (key x) (key (at_ a (base+i)))=false from this];rfl
theorem nR {a:Array EE} (h:a.toList.Pairwise (kl key)) {x:EE} {base n:Nat} (hz:base+n<=a.size):∀i j,i<=j->j < n->bey key true x (at_ a (base+j))=true->bey key true x (at_ a (base+i))=true:=fun i j hij hj q=>
 IU (d0 h (show base+i<=base+j by lia) (by lia)) (lr q)
theorem bX {σ α:Type} {M:La} {c:Prop} [Decidable c] {t e:StateT σ Sem α} {Q:α->σ->Prop} {st:σ} (h1:c->wpS M A E s t Q st) (h2:¬c->wpS M A E s e Q st):wpS M A E s (if c then t else e) Q st:=by
 by_cases h:c
 ·rw [if_pos h];exact h1 h
 ·rw [if_neg h];exact h2 h
theorem xM {σ α:Type} {M:La} {c:Nat->Prop} [∀m,Decidable (c m)] {T F:Nat->StateT σ Sem α} {Q:α->σ->Prop} {st:σ} (h1:∀m,(∀m,wpS M A E s (F m) Q st)->wpS M A E s (T m) Q st) (key:∀m,wpS M A E s (F m) Q st):∀m,wpS M A E s (if c m then T m else F m) Q st:=fun m=>bX (fun _=>h1 m key) fun _=>key m
theorem xN {σ α:Type} {M:La} {c:Prop} [Decidable c] {T:StateT σ Sem α} {F:PUnit->Array EE->Nat->StateT σ Sem α} {o:Array EE} {i:Nat} {Q:α->σ->Prop} {st:σ} (Cond:Array EE->Nat->Prop) (h1:c->(∀o i,Cond o i->wpS M A E s (F ⟨⟩ o i) Q st)->wpS M A E s T Q st) (h2:¬c->Cond o i) (key:∀o i,Cond o i->wpS M A E s (F ⟨⟩ o i) Q st):wpS M A E s (if c then T else F ⟨⟩ o i) Q st:=bX (fun h=>h1 h key) fun h=>key _ _ (h2 h)
def X4 (P:Array EE->Nat->Nat->Nat->Prop) (c:Option (Array EE)×Array EE×Nat×Nat×Nat):Prop:=∃o i j m,c=(none,o,i,j,m)/\P o i j m
def X5 (P:Array EE->Nat->Nat->Prop) (c:Option (Array EE)×Array EE×Nat×Nat×Nat×Nat):Prop:=∃o i j m n,c=(none,o,i,j,m,n)/\P o i j
def X6 (P:Array EE->Nat->Nat->Prop) (c:Option (Array EE)×Array EE×Nat×Nat×Nat×Nat×Nat):Prop:=∃o i j m n k,c=(none,o,i,j,m,n,k)/\P o i j
def Xr {τ:Type} (R:Array EE->Prop) (c:Option (Array EE)×τ):Prop:=∃r z,c=(some r,z)/\R r
@[elab_as_elim] theorem X4.el {P:Array EE->Nat->Nat->Nat->Prop} {c:Option (Array EE)×Array EE×Nat×Nat×Nat} {C:Option (Array EE)×Array EE×Nat×Nat×Nat->Prop} (h:X4 P c) (f:∀o i j m,P o i j m->C (none,o,i,j,m)):C c:=by
 obtain ⟨o,i,j,m,rfl,p⟩:=h;exact f _ _ _ _ p
@[elab_as_elim] theorem X5.el {P:Array EE->Nat->Nat->Prop} {c:Option (Array EE)×Array EE×Nat×Nat×Nat×Nat} {C:Option (Array EE)×Array EE×Nat×Nat×Nat×Nat->Prop} (h:X5 P c) (f:∀o i j m n,P o i j->C (none,o,i,j,m,n)):C c:=by
 obtain ⟨o,i,j,m,n,rfl,p⟩:=h;exact f _ _ _ _ _ p
@[elab_as_elim] theorem X6.el {P:Array EE->Nat->Nat->Prop} {c:Option (Array EE)×Array EE×Nat×Nat×Nat×Nat×Nat} {C:Option (Array EE)×Array EE×Nat×Nat×Nat×Nat×Nat->Prop} (h:X6 P c) (f:∀o i j m n k,P o i j->C (none,o,i,j,m,n,k)):C c:=by
 obtain ⟨o,i,j,m,n,k,rfl,p⟩:=h;exact f _ _ _ _ _ _ p
@[elab_as_elim] theorem Xr.el {τ:Type} {R:Array EE->Prop} {c:Option (Array EE)×τ} {C:Option (Array EE)×τ->Prop} {P:Prop} (h:Xr R c\/P) (f:∀r z,R r->C (some r,z)) (g:P->C c):C c:=by
 rcases h with ⟨r,z,rfl,p⟩ | p
 ·exact f _ _ p
 ·exact g p
theorem AA (C:fX prog w A s κ O key P) {a b:Array EE} {st:F8} {Q:Array EE->F8->Prop} (hk:kindOf st=κ) (ha:0 < a.size) (hb:0 < b.size) (Pa:∀x∈a.toList,P x) (Pb:∀x∈b.toList,P x)
  (sA:a.toList.Pairwise (kl key)) (sB:b.toList.Pairwise (kl key)) (h0:∀y∈a.toList,kl key (at_ b 0) y) (hl:∀x∈b.toList,kl key x (at_ a (a.size-1)))
  (h:∀r st',Same st st'->Res (kl key) a.toList b.toList r.toList->Q r st'):wpS (Ff prog w) A E s (mlo a b) Q st:=by
 have pa:∀i,i < a.size->P (at_ a i):=fun i hi=>Pa _ (dZ hi)
 have pb:∀i,i < b.size->P (at_ b i):=fun i hi=>Pb _ (dZ hi)
 have M0:MI (kl key) a.toList b.toList (#[at_ b 0]:Array EE).toList 0 1:=by
  refine ⟨?_,?_,?_,?_⟩
  ·have e:b.toList.take 1=[at_ b 0]:=by have:=cZ (l:=b.toList) (i:=0) (FE,FE) (by simpa using hb);rw [JY,getD_at hb] at this;exact this
   rw [e];simp
  ·simp
  ·intro x hx y hy
   have:x=at_ b 0:=by simpa using hx
   subst this;exact h0 y (G9 hy)
  ·intro x hx y hy
   have:x=at_ b 0:=by simpa using hx
   subst this
   obtain ⟨j,hj,rfl⟩:=lj hy
   exact d0 sB (by lia) hj
 have dn:∀{out:Array EE} {ia ib:Nat},MI (kl key) a.toList b.toList out.toList ia ib->(a.size<=ia\/b.size<=ib)->Res (kl key) a.toList b.toList (out++a.extract ia a.size++b.extract ib b.size).toList:=fun M hh=>by
  rw [Fh,Fh,jR,jR]
  exact M.done sA sB (hh.imp (fun z=>Gw (by simpa using z)) fun z=>Gw (by simpa using z))
 have la:∀{out:Array EE} {ia ib:Nat},MI (kl key) a.toList b.toList out.toList ia ib->ia+1=a.size->Res (kl key) a.toList b.toList (out++b.extract ib b.size++a.extract ia a.size).toList:=fun {out ia ib} M hh=>by
  rw [Fh,Fh,jR,jR]
  refine M.last sA sB fun x hx y hy=>?_
  obtain ⟨j,hj,rfl⟩:=lj hy
  have:=hl x hx
  rwa [show a.size-1=ia+j by lia] at this
 have p1A:∀{out:Array EE} {ia ib:Nat},MI (kl key) a.toList b.toList out.toList ia ib->ia < a.size->(∀y∈b.toList.drop ib,kl key (at_ a ia) y)->MI (kl key) a.toList b.toList (out.push (at_ a ia)).toList (ia+1) ib:=fun {out ia ib} M hi q=>by
  have e:=cZ (l:=a.toList) (i:=ia) (FE,FE) (by simpa using hi)
  rw [getD_at hi] at e
  have:=M.pushA (k:=1) sA (by rw [e];intro x hx y hy;rw [Gm] at hx;subst hx;exact q y hy)
  rw [e] at this
  rw [IV];exact this
 have p1B:∀{out:Array EE} {ia ib:Nat},MI (kl key) a.toList b.toList out.toList ia ib->ib < b.size->(∀y∈a.toList.drop ia,kl key (at_ b ib) y)->MI (kl key) a.toList b.toList (out.push (at_ b ib)).toList ia (ib+1):=fun {out ia ib} M hi q=>by
  have e:=cZ (l:=b.toList) (i:=ib) (FE,FE) (by simpa using hi)
  rw [getD_at hi] at e
  have:=M.pushB (k:=1) sB (by rw [e];intro x hx y hy;rw [Gm] at hx;subst hx;exact q y hy)
  rw [e] at this
  rw [IV];exact this
 have pkA:∀{out:Array EE} {ia ib k:Nat},MI (kl key) a.toList b.toList out.toList ia ib->(∀i,i < k->kl key (at_ a (ia+i)) (at_ b ib))->MI (kl key) a.toList b.toList (out++a.extract ia (ia+k)).toList (ia+k) ib:=fun {out ia ib k} M q=>by
  rw [Fh,uS]
  refine M.pushA sA fun x hx y hy=>?_
  obtain ⟨j,hj,_,rfl⟩:=jS hx
  exact E4 (q j hj) (fG sB hy)
 have pkB:∀{out:Array EE} {ia ib k:Nat},MI (kl key) a.toList b.toList out.toList ia ib->(∀i,i < k->O.klt (key (at_ b (ib+i))) (key (at_ a ia)))->MI (kl key) a.toList b.toList (out++b.extract ib (ib+k)).toList ia (ib+k):=fun {out ia ib k} M q=>by
  rw [Fh,uS]
  refine M.pushB sB fun x hx y hy=>?_
  obtain ⟨j,hj,_,rfl⟩:=jS hx
  exact E4 (Ft (q j hj)) (fG sA hy)
 delta mlo
 refine En (Jd (G4 ⟨rfl,?_⟩))
 refine En (aR hb ?_)
 refine bX (fun e1=>Eu (h _ _ Same.rfl' (dn M0 (.inr (by have z:1=b.size:=(by simpa using e1);exact HF z.symm))))) fun e1=>?_
 refine bX (fun e2=>Eu (h _ _ Same.rfl' (la M0 (by simpa using e2)))) fun e2=>?_
 have e1:¬(1=b.size):=by simpa using e1
 have e2:¬(0+1=a.size):=by simpa using e2
 refine En (HM ?_)
 refine En (F7 (Fj (I:=fun x c st'=>Same st st'/\X4 (fun out ia ib _=>MI (kl key) a.toList b.toList out.toList ia ib/\ia+1 < a.size/\ib < b.size/\x+1<=ia+ib) c)
  (Q:=fun c st'=>Same st st'/\Xr (fun r=>Res (kl key) a.toList b.toList r.toList) c) ?step ?fin ⟨Same.rfl',_,0,1,_,rfl,M0,by lia,by lia,by lia⟩) ?post)
 case post=>exact fun c st' q=>Xr.el (P:=False) (.inl q.2) (fun r z R=>Eu (h r st' q.1 R)) fun f=>f.elim
 case fin=>
  rintro c st' ⟨S,out,ia,ib,mg,rfl,M,h1,h2,h3⟩
  lia
 case step=>
  intro x c st' _ hx hI
  refine X4.el hI.2 fun out ia ib mg hM=>?_
  have S:=hI.1
  refine En (F7 (Fj (I:=fun y c st''=>Same st st''/\X5 (fun out ia' ib'=>MI (kl key) a.toList b.toList out.toList ia' ib'/\ia'+1 < a.size/\ib' < b.size/\ia+ib+y<=ia'+ib') c)
   (Q:=fun c st''=>Same st st''/\(Xr (fun r=>Res (kl key) a.toList b.toList r.toList) c\/X5 (fun out ia' ib'=>MI (kl key) a.toList b.toList out.toList ia' ib'/\ia'+1 < a.size/\ib' < b.size/\ia+ib+1<=ia'+ib') c)) ?s1 ?f1 ⟨S,out,ia,ib,0,0,rfl,hM.1,hM.2.1,hM.2.2.1,by lia⟩) ?p1)
  case f1=>
   rintro c st2 ⟨S,out,ia',ib',ac,bc,rfl,M,h1,h2,h3⟩
   exact ⟨S,.inr ⟨out,ia',ib',ac,bc,rfl,M,h1,h2,by lia⟩⟩
  case s1=>
   intro y c st2 _ hy hJ
   refine X5.el hJ.2 fun out ia' ib' ac bc hM=>?_
   have S:=hJ.1
   have M:=hM.1
   have h1:=hM.2.1
   have h2:=hM.2.2.1
   have h3:=hM.2.2.2
   refine En (aR h2 (En (aR (show ia' < a.size by lia) (En (li C (pb _ h2) (pa _ (by lia)) (S.1.trans hk) ?_)))))
   refine bX (c:=O.blt (key (at_ b ib')) (key (at_ a ia'))=true) (fun hc=>?_) fun hc=>?_
   ·refine En (aR h2 ?_)
    have M1:=p1B M h2 fun y hy=>E4 (Ft hc) (fG sA hy)
    refine bX (fun e=>Eu ⟨S,.inl ⟨_,_,rfl,dn M1 (.inr (by have z:ib'+1=b.size:=(by simpa using e);exact HF z.symm))⟩⟩) fun e=>?_
    have e:¬(ib'+1=b.size):=by simpa using e
    exact bX (fun _=>Eu ⟨S,.inr ⟨_,_,_,_,_,rfl,M1,h1,by lia,by lia⟩⟩) fun _=>Eu ⟨S,_,_,_,_,_,rfl,M1,h1,by lia,by lia⟩
   ·have hc:O.blt (key (at_ b ib')) (key (at_ a ia'))=false:=by simpa using hc
    refine En (aR (show ia' < a.size by lia) ?_)
    have M1:=p1A M (by lia) fun y hy=>E4 (show kl key (at_ a ia') (at_ b ib') from hc) (fG sB hy)
    refine bX (fun e=>Eu ⟨S,.inl ⟨_,_,rfl,la M1 (by simpa using e)⟩⟩) fun e=>?_
    have e:¬(ia'+1+1=a.size):=by simpa using e
    exact bX (fun _=>Eu ⟨S,.inr ⟨_,_,_,_,_,rfl,M1,by lia,by lia,by lia⟩⟩) fun _=>Eu ⟨S,_,_,_,_,_,rfl,M1,by lia,by lia,by lia⟩
  case p1=>
   intro c st2 q
   refine Xr.el q.2 (fun r z R=>Eu ⟨q.1,_,_,rfl,R⟩) fun hX=>X5.el hX fun out ia' ib' ac bc hM=>?_
   have S:=q.1
   refine En (Jd (G4 ⟨rfl,?_⟩))
   refine En (F7 (Fj (I:=fun y c st''=>Same st st''/\X6 (fun out ia' ib'=>MI (kl key) a.toList b.toList out.toList ia' ib'/\ia'+1 < a.size/\ib' < b.size/\ia+ib+1<=ia'+ib') c)
    (Q:=fun c st''=>Same st st''/\(Xr (fun r=>Res (kl key) a.toList b.toList r.toList) c\/X6 (fun out ia' ib'=>MI (kl key) a.toList b.toList out.toList ia' ib'/\ia'+1 < a.size/\ib' < b.size/\ia+ib+1<=ia'+ib') c)) ?s2 ?f2 ⟨S,out,ia',ib',_,ac,bc,rfl,hM⟩) ?p2)
   case f2=>exact fun c st3 q=>⟨q.1,.inr q.2⟩
   case p2=>exact fun c st3 q=>Xr.el q.2 (fun r z R=>Eu ⟨q.1,_,_,rfl,R⟩) fun hX=>X6.el hX fun out ia' ib' mg ac bc hM=>En (FJ (Eu ⟨q.1,_,_,_,_,rfl,hM.1,hM.2.1,hM.2.2.1,by have:=hM.2.2.2;lia⟩))
   case s2=>
    intro y c st3 _ hy hJ
    refine X6.el hJ.2 fun out ia' ib' mg ac bc hM=>?_
    have S:=hJ.1
    have M:=hM.1
    have h1:=hM.2.1
    have h2:=hM.2.2.1
    have h3:=hM.2.2.2
    revert mg
    refine xM (c:=fun mg=>mg > 1) (fun mg next=>?_) fun mg'=>?_
    ·exact next _
    refine En (FJ ?_)
    refine En (aR h2 (En (fY C (S.1.trans hk) (show 0 < a.size-ia' by lia) (by lia) (fun i hi=>pa _ (by lia)) (pb _ h2) (nQ sA (by lia)) fun k z1 z2 z3=>?_)))
    have gt:∀y∈a.toList.drop (ia'+k),kl key (at_ b ib') y:=fun y hy=>by
     obtain ⟨j,hj,rfl⟩:=lj hy
     have:=rB (z3 (k+j) (by lia) (by lia))
     rw [<- Je] at this
     exact Ft this
    dsimp -zeta only
    extract_lets +lift +onlyGivenNames u1 u2 jp u4 u5
    refine xN (F:=jp) (c:=k > 0) (fun o i=>MI (kl key) a.toList b.toList o.toList i ib'/\i+1 < a.size/\ia'<=i/\∀y∈a.toList.drop i,kl key (at_ b ib') y) (fun hk0 next=>?_) (fun hk0=>⟨M,h1,Ek _,by obtain rfl:k=0:=(by lia);exact gt⟩) fun out ia2 hC=>?_
    ·have M1:=pkA (k:=k) M fun i hi=>lq (z2 i hi)
     refine bX (fun e=>Eu ⟨S,.inl ⟨_,_,rfl,la M1 (by simpa using e)⟩⟩) fun e=>?_
     refine bX (fun e'=>Eu ⟨S,.inl ⟨_,_,rfl,dn M1 (.inl (by have z:ia'+k=a.size:=(by simpa using e');exact HF z.symm))⟩⟩) fun e'=>?_
     have e:¬(ia'+k+1=a.size):=by simpa using e
     have e':¬(ia'+k=a.size):=by simpa using e'
     exact next _ _ ⟨M1,by lia,by lia,gt⟩
    have i1:=hC.2.1
    have i2:=hC.2.2.1
    refine En (aR h2 ?_)
    have M2:=p1B hC.1 h2 hC.2.2.2
    refine bX (fun e3=>Eu ⟨S,.inl ⟨_,_,rfl,dn M2 (.inr (by have z:ib'+1=b.size:=(by simpa using e3);exact HF z.symm))⟩⟩) fun e3=>?_
    have e3:¬(ib'+1=b.size):=by simpa using e3
    refine En (aR (show ia2 < a.size by lia) (En (fY C (S.1.trans hk) (show 0 < b.size-(ib'+1) by lia) (by lia) (fun i hi=>pb _ (by lia)) (pa _ (by lia)) (nR sB (by lia)) fun k2 y1 y2 y3=>?_)))
    have ge:∀y∈b.toList.drop (ib'+1+k2),kl key (at_ a ia2) y:=fun y hy=>by
     obtain ⟨j,hj,rfl⟩:=lj hy
     have:=rC (y3 (k2+j) (by lia) (by lia))
     rw [<- Je] at this
     exact this
    dsimp -zeta only
    extract_lets +lift +onlyGivenNames v1 jp2 v3 v4
    refine xN (F:=jp2) (c:=k2 > 0) (fun o i=>MI (kl key) a.toList b.toList o.toList ia2 i/\i < b.size/\ib'+1<=i/\∀y∈b.toList.drop i,kl key (at_ a ia2) y) (fun hk2 next=>?_) (fun hk2=>⟨M2,by lia,Ek _,by obtain rfl:k2=0:=(by lia);exact ge⟩) fun out ib2 hD=>?_
    ·have M3:=pkB (k:=k2) M2 fun i hi=>lr (y2 i hi)
     refine bX (fun e4=>Eu ⟨S,.inl ⟨_,_,rfl,dn M3 (.inr (by have z:ib'+1+k2=b.size:=(by simpa using e4);exact HF z.symm))⟩⟩) fun e4=>?_
     have e4:¬(ib'+1+k2=b.size):=by simpa using e4
     exact next _ _ ⟨M3,by lia,by lia,ge⟩
    have j1:=hD.2.1
    have j2:=hD.2.2.1
    refine En (aR (show ia2 < a.size by lia) ?_)
    have M4:=p1A hD.1 (by lia) hD.2.2.2
    refine bX (fun e5=>Eu ⟨S,.inl ⟨_,_,rfl,la M4 (by simpa using e5)⟩⟩) fun e5=>?_
    have e5:¬(ia2+1+1=a.size):=by simpa using e5
    exact bX (fun _=>Eu ⟨S,.inr ⟨_,_,_,_,_,_,rfl,M4,by lia,by lia,by lia⟩⟩) fun _=>Eu ⟨S,_,_,_,_,_,_,rfl,M4,by lia,by lia,by lia⟩
end
end Tim
end
section
namespace Tim
open PySem PyProof.Rows
def mhi:Array EE->Array EE->StateT F8 Sem (Array EE):=sortPriv% PySem.Builtin.mergeHi
theorem gE (a:Array EE) (n:Nat):(a.extract 0 n).toList=a.toList.take n:=by
 have:=uS a 0 n
 rw [Iu,JY] at this;exact this
theorem mB (a:Array EE) (i n:Nat) (h:i<=n):(a.extract i n).toList=(a.toList.take n).drop i:=by
 have:=uS a i (n-i)
 rw [show i+(n-i)=n by lia] at this
 rw [this,List.drop_take]
theorem iC {a:Array EE} {i n:Nat} {x:EE} (h:x∈(a.toList.take n).drop i):∃j,i<=j/\j < n/\j < a.size/\x=at_ a j:=by
 rw [List.drop_take] at h
 obtain ⟨j,h1,h2,h3⟩:=jS h
 exact ⟨i+j,by lia,by lia,h2,h3⟩
theorem jb {a:Array EE} {n:Nat} {x:EE} (h:x∈a.toList.take n):∃j,j < n/\j < a.size/\x=at_ a j:=by
 obtain ⟨j,_,h2,h3,h4⟩:=iC (i:=0) (by rw [JY];exact h)
 exact ⟨j,h2,h3,h4⟩
section
variable {prog:E2} {w:FO} {A:F4} {E:Ej->El->Prop} {s:El} {κ:HC} {O:IP} {key:EE->O.α} {P:EE->Prop}
def Y4 (P:Nat->Nat->Array EE->Nat->Prop) (c:Option (Array EE)×Nat×Nat×Array EE×Nat):Prop:=∃i j o m,c=(none,i,j,o,m)/\P i j o m
def Y5 (P:Nat->Nat->Array EE->Prop) (c:Option (Array EE)×Nat×Nat×Array EE×Nat×Nat):Prop:=∃i j o m n,c=(none,i,j,o,m,n)/\P i j o
def Y6 (P:Nat->Nat->Array EE->Prop) (c:Option (Array EE)×Nat×Nat×Array EE×Nat×Nat×Nat):Prop:=∃i j o m n k,c=(none,i,j,o,m,n,k)/\P i j o
@[elab_as_elim] theorem Y4.el {P:Nat->Nat->Array EE->Nat->Prop} {c:Option (Array EE)×Nat×Nat×Array EE×Nat} {C:Option (Array EE)×Nat×Nat×Array EE×Nat->Prop} (h:Y4 P c) (f:∀i j o m,P i j o m->C (none,i,j,o,m)):C c:=by
 obtain ⟨o,i,j,m,rfl,p⟩:=h;exact f _ _ _ _ p
@[elab_as_elim] theorem Y5.el {P:Nat->Nat->Array EE->Prop} {c:Option (Array EE)×Nat×Nat×Array EE×Nat×Nat} {C:Option (Array EE)×Nat×Nat×Array EE×Nat×Nat->Prop} (h:Y5 P c) (f:∀i j o m n,P i j o->C (none,i,j,o,m,n)):C c:=by
 obtain ⟨o,i,j,m,n,rfl,p⟩:=h;exact f _ _ _ _ _ p
@[elab_as_elim] theorem Y6.el {P:Nat->Nat->Array EE->Prop} {c:Option (Array EE)×Nat×Nat×Array EE×Nat×Nat×Nat} {C:Option (Array EE)×Nat×Nat×Array EE×Nat×Nat×Nat->Prop} (h:Y6 P c) (f:∀i j o m n k,P i j o->C (none,i,j,o,m,n,k)):C c:=by
 obtain ⟨o,i,j,m,n,k,rfl,p⟩:=h;exact f _ _ _ _ _ _ p
theorem xO {σ α:Type} {M:La} {c:Prop} [Decidable c] {T:StateT σ Sem α} {F:PUnit->Nat->Array EE->StateT σ Sem α} {o:Array EE} {i:Nat} {Q:α->σ->Prop} {st:σ} (Cond:Nat->Array EE->Prop) (h1:c->(∀i o,Cond i o->wpS M A E s (F ⟨⟩ i o) Q st)->wpS M A E s T Q st) (h2:¬c->Cond i o) (key:∀i o,Cond i o->wpS M A E s (F ⟨⟩ i o) Q st):wpS M A E s (if c then T else F ⟨⟩ i o) Q st:=bX (fun h=>h1 h key) fun h=>key _ _ (h2 h)
theorem AB (C:fX prog w A s κ O key P) {a b:Array EE} {st:F8} {Q:Array EE->F8->Prop} (hk:kindOf st=κ) (ha:0 < a.size) (hb:0 < b.size) (Pa:∀x∈a.toList,P x) (Pb:∀x∈b.toList,P x)
  (sA:a.toList.Pairwise (kl key)) (sB:b.toList.Pairwise (kl key)) (h0:∀y∈a.toList,kl key (at_ b 0) y) (hl:∀x∈b.toList,kl key x (at_ a (a.size-1)))
  (h:∀r st',Same st st'->Res (kl key) a.toList b.toList r.toList->Q r st'):wpS (Ff prog w) A E s (mhi a b) Q st:=by
 have pa:∀i,i < a.size->P (at_ a i):=fun i hi=>Pa _ (dZ hi)
 have pb:∀i,i < b.size->P (at_ b i):=fun i hi=>Pb _ (dZ hi)
 have M0:MH (kl key) a.toList b.toList (#[at_ a (a.size-1)]:Array EE).reverse.toList (a.size-1) b.size:=by
  have eR:(#[at_ a (a.size-1)]:Array EE).reverse.toList=[at_ a (a.size-1)]:=rfl
  rw [eR]
  refine ⟨?_,List.pairwise_singleton _ _,?_,?_⟩
  ·have e:=de (l:=a.toList) (i:=a.size-1) (FE,FE) (by simp;lia)
   rw [getD_at (by lia),show a.size-1+1=a.size by lia,show a.toList.take a.size=a.toList from Hs (by simp)] at e
   rw [e,Gw (by simp)]
   exact IF _
  ·intro x hx y hy
   obtain ⟨j,h1,h2,rfl⟩:=jb hx
   rw [Gm] at hy;subst hy
   exact d0 sA (by lia) (by lia)
  ·intro x hx y hy
   rw [Gm] at hy;subst hy
   exact hl x (Gp hx)
 have dn:∀{out:Array EE} {na nb:Nat},MH (kl key) a.toList b.toList out.reverse.toList na nb->(na=0\/nb=0)->Res (kl key) a.toList b.toList (a.extract 0 na++b.extract 0 nb++out.reverse).toList:=fun M hh=>by
  rw [Fh,Fh,gE,gE]
  exact M.done sA sB (hh.imp (fun z=>by rw [z];rfl) fun z=>by rw [z];rfl)
 have fi:∀{out:Array EE} {na nb:Nat},MH (kl key) a.toList b.toList out.reverse.toList na nb->nb=1->Res (kl key) a.toList b.toList (b.extract 0 nb++a.extract 0 na++out.reverse).toList:=fun {out na nb} M hh=>by
  rw [Fh,Fh,gE,gE]
  refine M.first sA sB fun x hx y hy=>?_
  obtain ⟨j,h1,h2,rfl⟩:=jb hx
  rw [show j=0 by lia]
  exact h0 y hy
 have pkA:∀{out:Array EE} {na nb k:Nat},MH (kl key) a.toList b.toList out.reverse.toList na nb->k<=na->(∀x∈b.toList.take nb,∀j,k<=j->j < na->kl key x (at_ a j))->MH (kl key) a.toList b.toList (out++(a.extract k na).reverse).reverse.toList k nb:=fun {out na nb k} M hi q=>by
  have e:(out++(a.extract k na).reverse).reverse.toList=(a.toList.take na).drop k++out.reverse.toList:=by
   rw [JO,JB,Fh,mB a k na hi]
  rw [e]
  refine M.pushA sA hi fun x hx y hy=>?_
  obtain ⟨j,h1,h2,_,rfl⟩:=iC hy
  exact q x hx j h1 h2
 have pkB:∀{out:Array EE} {na nb k:Nat},MH (kl key) a.toList b.toList out.reverse.toList na nb->k<=nb->(∀x∈a.toList.take na,∀j,k<=j->j < nb->kl key x (at_ b j))->MH (kl key) a.toList b.toList (out++(b.extract k nb).reverse).reverse.toList na k:=fun {out na nb k} M hi q=>by
  have e:(out++(b.extract k nb).reverse).reverse.toList=(b.toList.take nb).drop k++out.reverse.toList:=by
   rw [JO,JB,Fh,mB b k nb hi]
  rw [e]
  refine M.pushB sB hi fun x hx y hy=>?_
  obtain ⟨j,h1,h2,_,rfl⟩:=iC hy
  exact q x hx j h1 h2
 have p1A:∀{out:Array EE} {na nb:Nat},MH (kl key) a.toList b.toList out.reverse.toList na nb->0 < na->na<=a.size->(∀x∈b.toList.take nb,kl key x (at_ a (na-1)))->MH (kl key) a.toList b.toList (out.push (at_ a (na-1))).reverse.toList (na-1) nb:=fun {out na nb} M h1 h2 q=>by
  have e:(out.push (at_ a (na-1))).reverse.toList=(a.toList.take na).drop (na-1)++out.reverse.toList:=by
   have z:=de (l:=a.toList) (i:=na-1) (FE,FE) (by simp;lia)
   rw [show na-1+1=na by lia,getD_at (by lia)] at z
   rw [z];simp
  rw [e]
  refine M.pushA sA (by lia) fun x hx y hy=>?_
  obtain ⟨j,g1,g2,_,rfl⟩:=iC hy
  rw [show j=na-1 by lia]
  exact q x hx
 have p1B:∀{out:Array EE} {na nb:Nat},MH (kl key) a.toList b.toList out.reverse.toList na nb->0 < nb->nb<=b.size->(∀x∈a.toList.take na,kl key x (at_ b (nb-1)))->MH (kl key) a.toList b.toList (out.push (at_ b (nb-1))).reverse.toList na (nb-1):=fun {out na nb} M h1 h2 q=>by
  have e:(out.push (at_ b (nb-1))).reverse.toList=(b.toList.take nb).drop (nb-1)++out.reverse.toList:=by
   have z:=de (l:=b.toList) (i:=nb-1) (FE,FE) (by simp;lia)
   rw [show nb-1+1=nb by lia,getD_at (by lia)] at z
   rw [z];simp
  rw [e]
  refine M.pushB sB (by lia) fun x hx y hy=>?_
  obtain ⟨j,g1,g2,_,rfl⟩:=iC hy
  rw [show j=nb-1 by lia]
  exact q x hx
 have tA:∀{n:Nat} {x:EE},n<=a.size->x∈a.toList.take n->kl key x (at_ a (n-1)):=fun {n x} hn hx=>by
  obtain ⟨j,h1,h2,rfl⟩:=jb hx
  exact d0 sA (by lia) (by lia)
 have tB:∀{n:Nat} {x:EE},n<=b.size->x∈b.toList.take n->kl key x (at_ b (n-1)):=fun {n x} hn hx=>by
  obtain ⟨j,h1,h2,rfl⟩:=jb hx
  exact d0 sB (by lia) (by lia)
 delta mhi
 refine En (Jd (G4 ⟨rfl,?_⟩))
 refine En (aR (show a.size-1 < a.size by lia) ?_)
 refine bX (fun e1=>Eu (h _ _ Same.rfl' (dn M0 (.inl (by simpa using e1))))) fun e1=>?_
 refine bX (fun e2=>Eu (h _ _ Same.rfl' (fi M0 (by simpa using e2)))) fun e2=>?_
 have e1:¬(a.size-1=0):=by simpa using e1
 have e2:¬(b.size=1):=by simpa using e2
 refine En (HM ?_)
 refine En (F7 (Fj (I:=fun x c st'=>Same st st'/\Y4 (fun na' nb' out _=>(MH (kl key) a.toList b.toList out.reverse.toList na' nb'/\0 < na'/\na'<=a.size/\1 < nb'/\nb'<=b.size)/\na'+nb'+x+1<=a.size+b.size) c)
  (Q:=fun c st'=>Same st st'/\Xr (fun r=>Res (kl key) a.toList b.toList r.toList) c) ?step ?fin ⟨Same.rfl',_,_,_,_,rfl,⟨M0,by lia,by lia,by lia,by lia⟩,by lia⟩) ?post)
 case post=>exact fun c st' q=>Xr.el (P:=False) (.inl q.2) (fun r z R=>Eu (h r st' q.1 R)) fun f=>f.elim
 case fin=>
  rintro c st' ⟨S,na,nb,out,mg,rfl,⟨M,h1,h2,h3,h4⟩,h5⟩
  lia
 case step=>
  intro x c st' _ hx hI
  refine Y4.el hI.2 fun na nb out mg hM=>?_
  have S:=hI.1
  refine En (F7 (Fj (I:=fun y c st''=>Same st st''/\Y5 (fun na' nb' out=>(MH (kl key) a.toList b.toList out.reverse.toList na' nb'/\0 < na'/\na'<=a.size/\1 < nb'/\nb'<=b.size)/\na'+nb'+y<=na+nb) c)
   (Q:=fun c st''=>Same st st''/\(Xr (fun r=>Res (kl key) a.toList b.toList r.toList) c\/Y5 (fun na' nb' out=>(MH (kl key) a.toList b.toList out.reverse.toList na' nb'/\0 < na'/\na'<=a.size/\1 < nb'/\nb'<=b.size)/\na'+nb'+1<=na+nb) c)) ?s1 ?f1 ⟨S,na,nb,out,0,0,rfl,hM.1,by lia⟩) ?p1)
  case f1=>
   rintro c st2 ⟨S,na',nb',out,ac,bc,rfl,⟨M,h1,h1',h2,h2'⟩,h3⟩
   exact ⟨S,.inr ⟨na',nb',out,ac,bc,rfl,⟨M,h1,h1',h2,h2'⟩,by lia⟩⟩
  case s1=>
   intro y c st2 _ hy hJ
   refine Y5.el hJ.2 fun na' nb' out ac bc hM=>?_
   have S:=hJ.1
   have M:=hM.1.1
   have h1:=hM.1.2.1
   have h1':=hM.1.2.2.1
   have h2:=hM.1.2.2.2.1
   have h2':=hM.1.2.2.2.2
   have h3:=hM.2
   refine En (aR (show nb'-1 < b.size by lia) (En (aR (show na'-1 < a.size by lia) (En (li C (pb _ (by lia)) (pa _ (by lia)) (S.1.trans hk) ?_)))))
   refine bX (c:=O.blt (key (at_ b (nb'-1))) (key (at_ a (na'-1)))=true) (fun hc=>?_) fun hc=>?_
   ·refine En (aR (show na'-1 < a.size by lia) ?_)
    have M1:=p1A M h1 h1' fun x hx=>E4 (tB h2' hx) (Ft hc)
    refine bX (fun e=>Eu ⟨S,.inl ⟨_,_,rfl,dn M1 (.inl (by simpa using e))⟩⟩) fun e=>?_
    have e:¬(na'-1=0):=by simpa using e
    exact bX (fun _=>Eu ⟨S,.inr ⟨_,_,_,_,_,rfl,⟨M1,by lia,by lia,by lia,by lia⟩,by lia⟩⟩) fun _=>Eu ⟨S,_,_,_,_,_,rfl,⟨M1,by lia,by lia,by lia,by lia⟩,by lia⟩
   ·have hc:O.blt (key (at_ b (nb'-1))) (key (at_ a (na'-1)))=false:=by simpa using hc
    refine En (aR (show nb'-1 < b.size by lia) ?_)
    have M1:=p1B M (by lia) h2' fun x hx=>E4 (tA h1' hx) (show kl key (at_ a (na'-1)) (at_ b (nb'-1)) from hc)
    refine bX (fun e=>Eu ⟨S,.inl ⟨_,_,rfl,fi M1 (by simpa using e)⟩⟩) fun e=>?_
    have e:¬(nb'-1=1):=by simpa using e
    exact bX (fun _=>Eu ⟨S,.inr ⟨_,_,_,_,_,rfl,⟨M1,by lia,by lia,by lia,by lia⟩,by lia⟩⟩) fun _=>Eu ⟨S,_,_,_,_,_,rfl,⟨M1,by lia,by lia,by lia,by lia⟩,by lia⟩
  case p1=>
   intro c st2 q
   refine Xr.el q.2 (fun r z R=>Eu ⟨q.1,_,_,rfl,R⟩) fun hX=>Y5.el hX fun na' nb' out ac bc hM=>?_
   have S:=q.1
   refine En (Jd (G4 ⟨rfl,?_⟩))
   refine En (F7 (Fj (I:=fun y c st''=>Same st st''/\Y6 (fun na' nb' out=>(MH (kl key) a.toList b.toList out.reverse.toList na' nb'/\0 < na'/\na'<=a.size/\1 < nb'/\nb'<=b.size)/\na'+nb'+1<=na+nb) c)
    (Q:=fun c st''=>Same st st''/\(Xr (fun r=>Res (kl key) a.toList b.toList r.toList) c\/Y6 (fun na' nb' out=>(MH (kl key) a.toList b.toList out.reverse.toList na' nb'/\0 < na'/\na'<=a.size/\1 < nb'/\nb'<=b.size)/\na'+nb'+1<=na+nb) c)) ?s2 ?f2 ⟨S,na',nb',out,_,ac,bc,rfl,hM⟩) ?p2)
   case f2=>exact fun c st3 q=>⟨q.1,.inr q.2⟩
   case p2=>exact fun c st3 q=>Xr.el q.2 (fun r z R=>Eu ⟨q.1,_,_,rfl,R⟩) fun hX=>Y6.el hX fun na' nb' out mg ac bc hM=>En (FJ (Eu ⟨q.1,_,_,_,_,rfl,hM.1,by have:=hM.2;lia⟩))
   case s2=>
    intro y c st3 _ hy hJ
    refine Y6.el hJ.2 fun na' nb' out mg ac bc hM=>?_
    have S:=hJ.1
    have M:=hM.1.1
    have h1:=hM.1.2.1
    have h1':=hM.1.2.2.1
    have h2:=hM.1.2.2.2.1
    have h2':=hM.1.2.2.2.2
    have h3:=hM.2
    revert mg
    refine xM (c:=fun mg=>mg > 1) (fun mg next=>?_) fun mg'=>?_
    ·exact next _
    refine En (FJ ?_)
    refine En (aR (show nb'-1 < b.size by lia) (En (fY C (S.1.trans hk) (show na'-1 < na' by lia) (by lia) (fun i hi=>pa _ (by lia)) (pb _ (by lia)) (nQ sA (by lia)) fun k z1 z2 z3=>?_)))
    simp only [Iu] at z2 z3
    dsimp -zeta only
    extract_lets +lift +onlyGivenNames u1 u2 u3 w1 w2 jp
    have le1:∀x∈a.toList.take k,kl key x (at_ b (nb'-1)):=fun x hx=>by
     obtain ⟨j,g1,g2,rfl⟩:=jb hx
     exact lq (z2 j g1)
    have z1:k<=na':=z1
    have M1:=pkA (k:=k) M z1 fun x hx j g1 g2=>E4 (tB h2' hx) (Ft (rB (z3 j g1 g2)))
    refine xO (F:=jp) (c:=u1 > 0) (fun i o=>MH (kl key) a.toList b.toList o.reverse.toList i nb'/\0 < i/\i<=na'/\∀x∈a.toList.take i,kl key x (at_ b (nb'-1))) (fun hk0 next=>?_) (fun hk0=>?_) fun na2 out2 hC=>?_
    ·refine bX (fun e=>Eu ⟨S,.inl ⟨_,_,rfl,dn M1 (.inl (beq_iff_eq.mp e))⟩⟩) fun e=>?_
     have e:¬(k=0):=fun z=>e (beq_iff_eq.mpr z)
     exact next _ _ ⟨M1,by lia,z1,le1⟩
    ·have hk0:¬(na'-k > 0):=hk0
     obtain rfl:k=na':=by lia
     exact ⟨M,h1,Ek _,le1⟩
    have i1:=hC.2.1
    have i2:=hC.2.2.1
    refine En (aR (show nb'-1 < b.size by lia) ?_)
    have M2:=p1B hC.1 (by lia) h2' hC.2.2.2
    refine bX (fun e3=>Eu ⟨S,.inl ⟨_,_,rfl,fi M2 (beq_iff_eq.mp e3)⟩⟩) fun e3=>?_
    have e3:¬(nb'-1=1):=fun z=>e3 (beq_iff_eq.mpr z)
    refine En (aR (show na2-1 < a.size by lia) (En (fY C (S.1.trans hk) (show nb'-1-1 < nb'-1 by lia) (by lia) (fun i hi=>pb _ (by lia)) (pa _ (by lia)) (nR sB (by lia)) fun k2 y1 y2 y3=>?_)))
    simp only [Iu] at y2 y3
    have lt2:∀x∈b.toList.take k2,kl key x (at_ a (na2-1)):=fun x hx=>by
     obtain ⟨j,g1,g2,rfl⟩:=jb hx
     exact Ft (lr (y2 j g1))
    have y1:k2<=nb'-1:=y1
    have M3:=pkB (k:=k2) M2 y1 fun x hx j g1 g2=>E4 (tA (by lia) hx) (rC (y3 j g1 g2))
    dsimp -zeta only
    extract_lets +lift +onlyGivenNames v1 v2 jp2
    refine xO (F:=jp2) (c:=v1 > 0) (fun i o=>MH (kl key) a.toList b.toList o.reverse.toList na2 i/\1 < i/\i<=nb'-1/\∀x∈b.toList.take i,kl key x (at_ a (na2-1))) (fun hk0 next=>?_) (fun hk0=>?_) fun nb2 out3 hD=>?_
    ·refine bX (fun e=>Eu ⟨S,.inl ⟨_,_,rfl,fi M3 (beq_iff_eq.mp e)⟩⟩) fun e=>?_
     refine bX (fun e'=>Eu ⟨S,.inl ⟨_,_,rfl,dn M3 (.inr (beq_iff_eq.mp e'))⟩⟩) fun e'=>?_
     have e:¬(k2=1):=fun z=>e (beq_iff_eq.mpr z)
     have e':¬(k2=0):=fun z=>e' (beq_iff_eq.mpr z)
     exact next _ _ ⟨M3,by lia,y1,lt2⟩
    ·have hk0:¬(nb'-1-k2 > 0):=hk0
     have hz:k2=nb'-1:=by lia
     rw [hz] at lt2
     exact ⟨M2,by lia,Ek _,lt2⟩
    have j1:=hD.2.1
    have j2:=hD.2.2.1
    refine En (aR (show na2-1 < a.size by lia) ?_)
    have M4:=p1A hD.1 i1 (by lia) hD.2.2.2
    refine bX (fun e5=>Eu ⟨S,.inl ⟨_,_,rfl,dn M4 (.inl (beq_iff_eq.mp e5))⟩⟩) fun e5=>?_
    have e5:¬(na2-1=0):=fun z=>e5 (beq_iff_eq.mpr z)
    exact bX (fun _=>Eu ⟨S,.inr ⟨_,_,_,_,_,_,rfl,⟨M4,by lia,by lia,by lia,by lia⟩,by lia⟩⟩) fun _=>Eu ⟨S,_,_,_,_,_,_,rfl,⟨M4,by lia,by lia,by lia,by lia⟩,by lia⟩
end
end Tim
end
section
namespace Tim
open PySem PyProof.Rows
section
variable {prog:E2} {w:FO} {A:F4} {E:Ej->El->Prop} {s:El} {κ:HC} {O:IP} {key:EE->O.α} {P:EE->Prop}
def Sg {O:IP} (key:EE->O.α) (a:Array EE) (lo hi:Nat):Prop:=∀i j,lo<=i->i<=j->j < hi->kl key (at_ a i) (at_ a j)
def Fl {O:IP} (key:EE->O.α) (a:Array EE) (lo hi:Nat):Prop:=∀i j,lo<=i->i<=j->j < hi->kl key (at_ a j) (at_ a i)
structure Mv (lo:Nat) (st st':F8):Prop where
 kind:kindOf st'=kindOf st
 pend:EM st'=EM st
 fail:GW st'=GW st
 perm:(Et st').Perm (Et st)
 pre:∀i,i < lo->(Et st')[i]?=(Et st)[i]?
theorem Mv.rfl' {lo:Nat} {st:F8}:Mv lo st st:=⟨rfl,rfl,rfl,Ik _,fun _ _=>rfl⟩
theorem Mv.size {lo:Nat} {st st':F8} (h:Mv lo st st'):(Et st').size=(Et st).size:=h.perm.size_eq
theorem Mv.all {lo:Nat} {st st':F8} (h:Mv lo st st') (hP:∀x∈(Et st).toList,P x):∀x∈(Et st').toList,P x:=fun x hx=>hP x ((Array.perm_iff_toList_perm.mp h.perm).mem_iff.mp hx)
theorem bN {xs:Array EE} {i j:Nat} (hj:j<=xs.size) (k:Nat):at_ (GU xs i j ((j-i) / 2)) k=if i<=k/\k < j then at_ xs (i+j-1-k) else at_ xs k:=by
 have z:=J6 (i:=i) hj k
 by_cases c:i<=k/\k < j
 ·rw [if_pos c] at z ⊢;exact bf z
 ·rw [if_neg c] at z ⊢;exact bf z
theorem cI {xs:Array EE} {i j:Nat} (hj:j<=xs.size) (he:∀k,i<=k->k < j->key (at_ xs k)=key (at_ xs (j-1))) (k:Nat):key (at_ (GU xs i j ((j-i) / 2)) k)=key (at_ xs k):=by
 rw [bN hj]
 split
 ·rename_i c;rw [he _ (by lia) (by lia),he k c.1 c.2]
 ·rfl
theorem Mv.rev {lo:Nat} {st st':F8} (h:Mv lo st st') {i j:Nat} (hi:lo<=i) (hj:j<=(Et st').size):Mv lo st (Iw st' (GU (Et st') i j ((j-i) / 2))):=
 ⟨h.kind,h.pend,h.fail,(mirror_perm _ _ _ _).trans h.perm,fun k hk=>by
  rw [<- h.pre k hk]
  show (GU (Et st') i j ((j-i) / 2))[k]?=_
  rw [J6 hj,if_neg (by lia)]⟩
theorem bY (C:fX prog w A s κ O key P) {st:F8} {i j:Nat} {Q:Option Bool->F8->Prop} (hk:kindOf st=κ) (hP:∀x∈(Et st).toList,P x) (hi:i < (Et st).size) (hj:j < (Et st).size)
  (h:Q (some (O.blt (key (at_ (Et st) i)) (key (at_ (Et st) j)))) st):wpS (Ff prog w) A E s (ltAt' i j) Q st:=by
 rw [ltAt'_eq]
 refine En (HM (En (aR hi (En (aR hj (li C (hP _ (dZ hi)) (hP _ (dZ hj)) hk h))))))
theorem Sg.one {a:Array EE} {lo:Nat}:Sg key a lo (lo+1):=fun i j h1 h2 h3=>by
 rw [show i=j by lia];exact GH _
theorem Sg.more {a:Array EE} {lo n:Nat} (h:Sg key a lo (lo+n)) (h1:1<=n) (q:kl key (at_ a (lo+n-1)) (at_ a (lo+n))):Sg key a lo (lo+(n+1)):=fun i j z1 z2 z3=>by
 by_cases hj:j=lo+n
 ·subst hj
  by_cases hi:i=lo+n
  ·subst hi;exact GH _
  ·exact E4 (h i (lo+n-1) z1 (by lia) (by lia)) q
 ·exact h i j z1 z2 (by lia)
theorem Fl.more {a:Array EE} {lo n:Nat} (h:Fl key a lo (lo+n)) (h1:1<=n) (q:kl key (at_ a (lo+n)) (at_ a (lo+n-1))):Fl key a lo (lo+(n+1)):=fun i j z1 z2 z3=>by
 by_cases hj:j=lo+n
 ·subst hj
  by_cases hi:i=lo+n
  ·subst hi;exact GH _
  ·exact E4 q (h i (lo+n-1) z1 (by lia) (by lia))
 ·exact h i j z1 z2 (by lia)
theorem Fl.congr {a b:Array EE} {lo hi:Nat} (h:Fl key a lo hi) (e:∀k,key (at_ b k)=key (at_ a k)):Fl key b lo hi:=fun i j z1 z2 z3=>by
 show O.kle _ _
 rw [e,e];exact h i j z1 z2 z3
theorem AC (C:fX prog w A s κ O key P) {st:F8} {lo nrem:Nat} {Q:Option Nat->F8->Prop} (hk:kindOf st=κ) (hP:∀x∈(Et st).toList,P x) (hz:lo+nrem<=(Et st).size) (h1:1<=nrem)
  (h:∀n st',Mv lo st st'->1<=n->n<=nrem->Sg key (Et st') lo (lo+n)->Q (some n) st'):wpS (Ff prog w) A E s (countRun' lo nrem) Q st:=by
 rw [countRun'_eq]
 refine En (F7 (Fj (I:=fun k c st'=>st'=st/\c=(none,k)/\k<=nrem/\1<=k/\Sg key (Et st) lo (lo+k))
  (Q:=fun c st'=>st'=st/\∃n,c=(none,n)/\1<=n/\n<=nrem/\Sg key (Et st) lo (lo+n)/\(n < nrem->O.klt (key (at_ (Et st) (lo+n))) (key (at_ (Et st) (lo+n-1))))) ?step ?fin ⟨rfl,rfl,h1,by lia,Sg.one⟩) ?post)
 case fin=>
  rintro c st' ⟨rfl,rfl,a1,a2,a3⟩
  exact ⟨rfl,_,rfl,by lia,by lia,a3,fun z=>by lia⟩
 case step=>
  rintro k c st' _ hkn ⟨rfl,rfl,a1,a2,a3⟩
  dsimp only
  refine En (bY C hk hP (by lia) (by lia) ?_)
  dsimp only
  cases hc:O.blt (key (at_ (Et st') (lo+k))) (key (at_ (Et st') (lo+k-1))) with
  | true=>rw [if_pos rfl];exact Eu ⟨rfl,k,rfl,a2,a1,a3,fun _=>hc⟩
  | false=>rw [if_neg (by simp)];exact Eu ⟨rfl,rfl,by lia,by lia,a3.more a2 hc⟩
 case post=>
  rintro c st' ⟨rfl,n,rfl,n1,n2,n3,n4⟩
  dsimp only
  by_cases e:n=nrem
  ·rw [if_pos (by simpa using e)]
   exact Eu (h n st' Mv.rfl' n1 n2 n3)
  rw [if_neg (by simpa using e)]
  have n4:=n4 (by lia)
  by_cases hn:n > 1
  ·rw [if_pos hn]
   refine En (bY C hk hP (by lia) (by lia) ?_)
   dsimp only
   cases hc:O.blt (key (at_ (Et st') lo)) (key (at_ (Et st') (lo+n-1))) with
   | true=>rw [if_pos rfl];exact Eu (h n st' Mv.rfl' n1 n2 n3)
   | false=>
    rw [if_neg (by simp),F6]
    have eq:∀k,lo<=k->k < lo+n->key (at_ (Et st') k)=key (at_ (Et st') (lo+n-1)):=fun k k1 k2=>
     KeyOrd.kle_antisymm (n3 k (lo+n-1) k1 (by lia) (by lia)) (E4 hc (n3 lo k (by lia) k1 (by lia)))
    have ek:=cI (key:=key) (xs:=Et st') (i:=lo) (j:=lo+n) (by lia) eq
    refine En (FJ ?_)
    have M1:=(Mv.rfl' (lo:=lo) (st:=st')).rev (i:=lo) (j:=lo+n) (Ek _) (by lia)
    have F1:Fl key (Et (Iw st' (GU (Et st') lo (lo+n) ((lo+n-lo) / 2)))) lo (lo+(n+1)):=by
     refine Fl.congr (a:=Et st') (Fl.more (fun i j z1 z2 z3=>?_) n1 (Ft n4)) ek
     show O.kle _ _
     rw [eq i z1 (by lia),eq j (by lia) z3];exact GH _
    generalize Iw st' (GU (Et st') lo (lo+n) ((lo+n-lo) / 2))=st1 at M1 F1 ⊢
    refine En (Jd (G4 ⟨rfl,?_⟩))
    refine En (F7 (Fj (I:=fun k c st2=>Mv lo st' st2/\∃q,c=(none,k,q)/\k<=nrem/\q+1<=k/\Fl key (Et st2) lo (lo+k)/\(∀i,lo+k-(q+1)<=i->i < lo+k->key (at_ (Et st2) i)=key (at_ (Et st2) (lo+k-1))))
     (Q:=fun c st2=>Mv lo st' st2/\∃k q,c=(none,k,q)/\k<=nrem/\q+1<=k/\Fl key (Et st2) lo (lo+k)/\(∀i,lo+k-(q+1)<=i->i < lo+k->key (at_ (Et st2) i)=key (at_ (Et st2) (lo+k-1)))) ?dstep ?dfin ⟨M1,0,rfl,by lia,by lia,F1,fun i g1 g2=>by rw [show i=lo+(n+1)-1 by lia]⟩) ?dpost)
    case dfin=>
     rintro c st2 ⟨M2,q,rfl,a1,a2,a3,a4⟩
     exact ⟨M2,_,q,rfl,a1,a2,a3,a4⟩
    case dstep=>
     rintro k c st2 hk1 hkn ⟨M2,q,rfl,a1,a2,a3,a4⟩
     have hz2:lo+nrem<=(Et st2).size:=by rw [M2.size];exact hz
     have hk2:kindOf st2=κ:=M2.kind.trans hk
     have hP2:=M2.all hP
     dsimp only
     refine En (bY C hk2 hP2 (by lia) (by lia) ?_)
     dsimp only
     cases hc:O.blt (key (at_ (Et st2) (lo+k))) (key (at_ (Et st2) (lo+k-1))) with
     | true=>
      rw [if_pos rfl]
      have F2:=a3.more (by lia) (Ft hc)
      by_cases hq:q > 0
      ·rw [if_pos hq,F6]
       have ek:=cI (key:=key) (xs:=Et st2) (i:=lo+k-(q+1)) (j:=lo+k) (by lia) a4
       refine En (FJ (Eu ⟨M2.rev (by lia) (by lia),0,rfl,by lia,by lia,F2.congr ek,fun i g1 g2=>?_⟩))
       rw [show i=lo+(k+1)-1 by lia]
      ·rw [if_neg hq]
       exact Eu ⟨M2,0,rfl,by lia,by lia,F2,fun i g1 g2=>by rw [show i=lo+(k+1)-1 by lia]⟩
     | false=>
      rw [if_neg (by simp)]
      refine En (bY C hk2 hP2 (by lia) (by lia) ?_)
      dsimp only
      cases hd:O.blt (key (at_ (Et st2) (lo+k-1))) (key (at_ (Et st2) (lo+k))) with
      | true=>rw [if_pos rfl];exact Eu ⟨M2,k,q,rfl,a1,a2,a3,a4⟩
      | false=>
       rw [if_neg (by simp)]
       have eq1:key (at_ (Et st2) (lo+k))=key (at_ (Et st2) (lo+k-1)):=O.total _ _ hc hd
       refine Eu ⟨M2,q+1,rfl,by lia,by lia,a3.more (by lia) hd,fun i g1 g2=>?_⟩
       rw [show lo+(k+1)-1=lo+k by lia]
       by_cases hi:i=lo+k
       ·rw [hi]
       ·rw [eq1];exact a4 i (by lia) (by lia)
    case dpost=>
     rintro c st2 ⟨M2,k,q,rfl,a1,a2,a3,a4⟩
     have hz2:lo+nrem<=(Et st2).size:=by rw [M2.size];exact hz
     dsimp only
     by_cases hq:q > 0
     ·rw [if_pos hq,F6]
      have ek:=cI (key:=key) (xs:=Et st2) (i:=lo+k-(q+1)) (j:=lo+k) (by lia) a4
      refine En (FJ ?_)
      have M3:=M2.rev (i:=lo+k-(q+1)) (j:=lo+k) (by lia) (by lia)
      have F3:Fl key (Et (Iw st2 (GU (Et st2) (lo+k-(q+1)) (lo+k) ((lo+k-(lo+k-(q+1))) / 2)))) lo (lo+k):=a3.congr ek
      generalize Iw st2 (GU (Et st2) (lo+k-(q+1)) (lo+k) ((lo+k-(lo+k-(q+1))) / 2))=st3 at M3 F3 ⊢
      have hz3:lo+nrem<=(Et st3).size:=by rw [M3.size];exact hz
      rw [F6]
      refine En (FJ ?_)
      have M4:=M3.rev (i:=lo) (j:=lo+k) (Ek _) (by lia)
      have S4:Sg key (Et (Iw st3 (GU (Et st3) lo (lo+k) ((lo+k-lo) / 2)))) lo (lo+k):=fun i j g1 g2 g3=>by
       show kl key (at_ (GU (Et st3) lo (lo+k) ((lo+k-lo) / 2)) i) (at_ (GU (Et st3) lo (lo+k) ((lo+k-lo) / 2)) j)
       rw [bN (by lia),bN (by lia),if_pos ⟨g1,by lia⟩,if_pos ⟨by lia,g3⟩]
       exact F3 _ _ (by lia) (by lia) (by lia)
      generalize Iw st3 (GU (Et st3) lo (lo+k) ((lo+k-lo) / 2))=st4 at M4 S4 ⊢
      have hz4:lo+nrem<=(Et st4).size:=by rw [M4.size];exact hz
      have hk4:kindOf st4=κ:=M4.kind.trans hk
      have hP4:=M4.all hP
      refine En (F7 (Fj (I:=fun i c st5=>st5=st4/\c=(none,i)/\i<=nrem/\1<=i/\Sg key (Et st4) lo (lo+i)) (Q:=fun c st5=>st5=st4/\∃i,c=(none,i)/\i<=nrem/\1<=i/\Sg key (Et st4) lo (lo+i)) ?tstep ?tfin ⟨rfl,rfl,a1,by lia,S4⟩) ?tpost)
      case tfin=>
       rintro c st5 ⟨rfl,rfl,b1,b2,b3⟩
       exact ⟨rfl,_,rfl,b1,b2,b3⟩
      case tstep=>
       rintro i c st5 _ hi ⟨rfl,rfl,b1,b2,b3⟩
       dsimp only
       refine En (bY C hk4 hP4 (by lia) (by lia) ?_)
       dsimp only
       cases hc:O.blt (key (at_ (Et st5) (lo+i))) (key (at_ (Et st5) (lo+i-1))) with
       | true=>rw [if_pos rfl];exact Eu ⟨rfl,i,rfl,b1,b2,b3⟩
       | false=>rw [if_neg (by simp)];exact Eu ⟨rfl,rfl,by lia,by lia,b3.more b2 hc⟩
      case tpost=>
       rintro c st5 ⟨rfl,i,rfl,b1,b2,b3⟩
       exact Eu (h i st5 M4 b2 b1 b3)
     ·rw [if_neg hq]
      have M3:=M2
      have F3:=a3
      have hz3:lo+nrem<=(Et st2).size:=by rw [M3.size];exact hz
      rw [F6]
      refine En (FJ ?_)
      have M4:=M3.rev (i:=lo) (j:=lo+k) (Ek _) (by lia)
      have S4:Sg key (Et (Iw st2 (GU (Et st2) lo (lo+k) ((lo+k-lo) / 2)))) lo (lo+k):=fun i j g1 g2 g3=>by
       show kl key (at_ (GU (Et st2) lo (lo+k) ((lo+k-lo) / 2)) i) (at_ (GU (Et st2) lo (lo+k) ((lo+k-lo) / 2)) j)
       rw [bN (by lia),bN (by lia),if_pos ⟨g1,by lia⟩,if_pos ⟨by lia,g3⟩]
       exact F3 _ _ (by lia) (by lia) (by lia)
      generalize Iw st2 (GU (Et st2) lo (lo+k) ((lo+k-lo) / 2))=st4 at M4 S4 ⊢
      have hz4:lo+nrem<=(Et st4).size:=by rw [M4.size];exact hz
      have hk4:kindOf st4=κ:=M4.kind.trans hk
      have hP4:=M4.all hP
      refine En (F7 (Fj (I:=fun i c st5=>st5=st4/\c=(none,i)/\i<=nrem/\1<=i/\Sg key (Et st4) lo (lo+i)) (Q:=fun c st5=>st5=st4/\∃i,c=(none,i)/\i<=nrem/\1<=i/\Sg key (Et st4) lo (lo+i)) ?tstep ?tfin ⟨rfl,rfl,a1,by lia,S4⟩) ?tpost)
      case tfin=>
       rintro c st5 ⟨rfl,rfl,b1,b2,b3⟩
       exact ⟨rfl,_,rfl,b1,b2,b3⟩
      case tstep=>
       rintro i c st5 _ hi ⟨rfl,rfl,b1,b2,b3⟩
       dsimp only
       refine En (bY C hk4 hP4 (by lia) (by lia) ?_)
       dsimp only
       cases hc:O.blt (key (at_ (Et st5) (lo+i))) (key (at_ (Et st5) (lo+i-1))) with
       | true=>rw [if_pos rfl];exact Eu ⟨rfl,i,rfl,b1,b2,b3⟩
       | false=>rw [if_neg (by simp)];exact Eu ⟨rfl,rfl,by lia,by lia,b3.more b2 hc⟩
      case tpost=>
       rintro c st5 ⟨rfl,i,rfl,b1,b2,b3⟩
       exact Eu (h i st5 M4 b2 b1 b3)
  ·rw [if_neg hn]
   have hn1:n=1:=by lia
   subst hn1
   have M1:Mv lo st' st':=Mv.rfl'
   have F1:Fl key (Et st') lo (lo+(1+1)):=Fl.more (fun i j z1 z2 z3=>by rw [show i=j by lia];exact GH _) (Ek _) (Ft n4)
   refine En (Jd (G4 ⟨rfl,?_⟩))
   refine En (F7 (Fj (I:=fun k c st2=>Mv lo st' st2/\∃q,c=(none,k,q)/\k<=nrem/\q+1<=k/\Fl key (Et st2) lo (lo+k)/\(∀i,lo+k-(q+1)<=i->i < lo+k->key (at_ (Et st2) i)=key (at_ (Et st2) (lo+k-1))))
    (Q:=fun c st2=>Mv lo st' st2/\∃k q,c=(none,k,q)/\k<=nrem/\q+1<=k/\Fl key (Et st2) lo (lo+k)/\(∀i,lo+k-(q+1)<=i->i < lo+k->key (at_ (Et st2) i)=key (at_ (Et st2) (lo+k-1)))) ?dstep ?dfin ⟨M1,0,rfl,by lia,by lia,F1,fun i g1 g2=>by rw [show i=lo+(1+1)-1 by lia]⟩) ?dpost)
   case dfin=>
    rintro c st2 ⟨M2,q,rfl,a1,a2,a3,a4⟩
    exact ⟨M2,_,q,rfl,a1,a2,a3,a4⟩
   case dstep=>
    rintro k c st2 hk1 hkn ⟨M2,q,rfl,a1,a2,a3,a4⟩
    have hz2:lo+nrem<=(Et st2).size:=by rw [M2.size];exact hz
    have hk2:kindOf st2=κ:=M2.kind.trans hk
    have hP2:=M2.all hP
    dsimp only
    refine En (bY C hk2 hP2 (by lia) (by lia) ?_)
    dsimp only
    cases hc:O.blt (key (at_ (Et st2) (lo+k))) (key (at_ (Et st2) (lo+k-1))) with
    | true=>
     rw [if_pos rfl]
     have F2:=a3.more (by lia) (Ft hc)
     by_cases hq:q > 0
     ·rw [if_pos hq,F6]
      have ek:=cI (key:=key) (xs:=Et st2) (i:=lo+k-(q+1)) (j:=lo+k) (by lia) a4
      refine En (FJ (Eu ⟨M2.rev (by lia) (by lia),0,rfl,by lia,by lia,F2.congr ek,fun i g1 g2=>?_⟩))
      rw [show i=lo+(k+1)-1 by lia]
     ·rw [if_neg hq]
      exact Eu ⟨M2,0,rfl,by lia,by lia,F2,fun i g1 g2=>by rw [show i=lo+(k+1)-1 by lia]⟩
    | false=>
     rw [if_neg (by simp)]
     refine En (bY C hk2 hP2 (by lia) (by lia) ?_)
     dsimp only
     cases hd:O.blt (key (at_ (Et st2) (lo+k-1))) (key (at_ (Et st2) (lo+k))) with
     | true=>rw [if_pos rfl];exact Eu ⟨M2,k,q,rfl,a1,a2,a3,a4⟩
     | false=>
      rw [if_neg (by simp)]
      have eq1:key (at_ (Et st2) (lo+k))=key (at_ (Et st2) (lo+k-1)):=O.total _ _ hc hd
      refine Eu ⟨M2,q+1,rfl,by lia,by lia,a3.more (by lia) hd,fun i g1 g2=>?_⟩
      rw [show lo+(k+1)-1=lo+k by lia]
      by_cases hi:i=lo+k
      ·rw [hi]
      ·rw [eq1];exact a4 i (by lia) (by lia)
   case dpost=>
    rintro c st2 ⟨M2,k,q,rfl,a1,a2,a3,a4⟩
    have hz2:lo+nrem<=(Et st2).size:=by rw [M2.size];exact hz
    dsimp only
    by_cases hq:q > 0
    ·rw [if_pos hq,F6]
     have ek:=cI (key:=key) (xs:=Et st2) (i:=lo+k-(q+1)) (j:=lo+k) (by lia) a4
     refine En (FJ ?_)
     have M3:=M2.rev (i:=lo+k-(q+1)) (j:=lo+k) (by lia) (by lia)
     have F3:Fl key (Et (Iw st2 (GU (Et st2) (lo+k-(q+1)) (lo+k) ((lo+k-(lo+k-(q+1))) / 2)))) lo (lo+k):=a3.congr ek
     generalize Iw st2 (GU (Et st2) (lo+k-(q+1)) (lo+k) ((lo+k-(lo+k-(q+1))) / 2))=st3 at M3 F3 ⊢
     have hz3:lo+nrem<=(Et st3).size:=by rw [M3.size];exact hz
     rw [F6]
     refine En (FJ ?_)
     have M4:=M3.rev (i:=lo) (j:=lo+k) (Ek _) (by lia)
     have S4:Sg key (Et (Iw st3 (GU (Et st3) lo (lo+k) ((lo+k-lo) / 2)))) lo (lo+k):=fun i j g1 g2 g3=>by
      show kl key (at_ (GU (Et st3) lo (lo+k) ((lo+k-lo) / 2)) i) (at_ (GU (Et st3) lo (lo+k) ((lo+k-lo) / 2)) j)
      rw [bN (by lia),bN (by lia),if_pos ⟨g1,by lia⟩,if_pos ⟨by lia,g3⟩]
      exact F3 _ _ (by lia) (by lia) (by lia)
     generalize Iw st3 (GU (Et st3) lo (lo+k) ((lo+k-lo) / 2))=st4 at M4 S4 ⊢
     have hz4:lo+nrem<=(Et st4).size:=by rw [M4.size];exact hz
     have hk4:kindOf st4=κ:=M4.kind.trans hk
     have hP4:=M4.all hP
     refine En (F7 (Fj (I:=fun i c st5=>st5=st4/\c=(none,i)/\i<=nrem/\1<=i/\Sg key (Et st4) lo (lo+i)) (Q:=fun c st5=>st5=st4/\∃i,c=(none,i)/\i<=nrem/\1<=i/\Sg key (Et st4) lo (lo+i)) ?tstep ?tfin ⟨rfl,rfl,a1,by lia,S4⟩) ?tpost)
     case tfin=>
      rintro c st5 ⟨rfl,rfl,b1,b2,b3⟩
      exact ⟨rfl,_,rfl,b1,b2,b3⟩
     case tstep=>
      rintro i c st5 _ hi ⟨rfl,rfl,b1,b2,b3⟩
      dsimp only
      refine En (bY C hk4 hP4 (by lia) (by lia) ?_)
      dsimp only
      cases hc:O.blt (key (at_ (Et st5) (lo+i))) (key (at_ (Et st5) (lo+i-1))) with
      | true=>rw [if_pos rfl];exact Eu ⟨rfl,i,rfl,b1,b2,b3⟩
      | false=>rw [if_neg (by simp)];exact Eu ⟨rfl,rfl,by lia,by lia,b3.more b2 hc⟩
     case tpost=>
      rintro c st5 ⟨rfl,i,rfl,b1,b2,b3⟩
      exact Eu (h i st5 M4 b2 b1 b3)
    ·rw [if_neg hq]
     have M3:=M2
     have F3:=a3
     have hz3:lo+nrem<=(Et st2).size:=by rw [M3.size];exact hz
     rw [F6]
     refine En (FJ ?_)
     have M4:=M3.rev (i:=lo) (j:=lo+k) (Ek _) (by lia)
     have S4:Sg key (Et (Iw st2 (GU (Et st2) lo (lo+k) ((lo+k-lo) / 2)))) lo (lo+k):=fun i j g1 g2 g3=>by
      show kl key (at_ (GU (Et st2) lo (lo+k) ((lo+k-lo) / 2)) i) (at_ (GU (Et st2) lo (lo+k) ((lo+k-lo) / 2)) j)
      rw [bN (by lia),bN (by lia),if_pos ⟨g1,by lia⟩,if_pos ⟨by lia,g3⟩]
      exact F3 _ _ (by lia) (by lia) (by lia)
     generalize Iw st2 (GU (Et st2) lo (lo+k) ((lo+k-lo) / 2))=st4 at M4 S4 ⊢
     have hz4:lo+nrem<=(Et st4).size:=by rw [M4.size];exact hz
     have hk4:kindOf st4=κ:=M4.kind.trans hk
     have hP4:=M4.all hP
     refine En (F7 (Fj (I:=fun i c st5=>st5=st4/\c=(none,i)/\i<=nrem/\1<=i/\Sg key (Et st4) lo (lo+i)) (Q:=fun c st5=>st5=st4/\∃i,c=(none,i)/\i<=nrem/\1<=i/\Sg key (Et st4) lo (lo+i)) ?tstep ?tfin ⟨rfl,rfl,a1,by lia,S4⟩) ?tpost)
     case tfin=>
      rintro c st5 ⟨rfl,rfl,b1,b2,b3⟩
      exact ⟨rfl,_,rfl,b1,b2,b3⟩
     case tstep=>
      rintro i c st5 _ hi ⟨rfl,rfl,b1,b2,b3⟩
      dsimp only
      refine En (bY C hk4 hP4 (by lia) (by lia) ?_)
      dsimp only
      cases hc:O.blt (key (at_ (Et st5) (lo+i))) (key (at_ (Et st5) (lo+i-1))) with
      | true=>rw [if_pos rfl];exact Eu ⟨rfl,i,rfl,b1,b2,b3⟩
      | false=>rw [if_neg (by simp)];exact Eu ⟨rfl,rfl,by lia,by lia,b3.more b2 hc⟩
     case tpost=>
      rintro c st5 ⟨rfl,i,rfl,b1,b2,b3⟩
      exact Eu (h i st5 M4 b2 b1 b3)
theorem AD (C:fX prog w A s κ O key P) {st:F8} {lo n ok:Nat} {Q:Bool->F8->Prop} (hk:kindOf st=κ) (hP:∀x∈(Et st).toList,P x) (hz:lo+n<=(Et st).size) (ho:1<=ok) (hn:ok<=n) (hs:Sg key (Et st) lo (lo+ok))
  (h:∀st',Mv lo st st'->Sg key (Et st') lo (lo+n)->Q true st'):wpS (Ff prog w) A E s (binarySort' lo n ok) Q st:=by
 rw [binarySort'_eq]
 refine En (F7 (Fj (I:=fun k c st'=>c=(none,())/\Mv lo st st'/\k<=n/\Sg key (Et st') lo (lo+k)) (Q:=fun c st'=>c=(none,())/\Mv lo st st'/\Sg key (Et st') lo (lo+n)) ?step ?fin ⟨rfl,Mv.rfl',by lia,by rw [show max ok 1=ok by lia];exact hs⟩) ?post)
 case post=>
  rintro c st' ⟨rfl,M,S⟩
  exact Eu (h st' M S)
 case fin=>
  rintro c st' ⟨hc,M,hkn,S⟩
  rw [show max (max ok 1) n=n by lia] at S
  exact ⟨hc,M,S⟩
 case step=>
  rintro k c st' hak hkn ⟨rfl,M,_,S⟩
  have hz':lo+n<=(Et st').size:=by rw [M.size];exact hz
  have hk':kindOf st'=κ:=M.kind.trans hk
  have hP':=M.all hP
  dsimp only
  refine En (F7 (Fj (I:=fun x c st''=>st''=st'/\∃l r,c=(none,l,r)/\l<=r/\r<=k/\r-l<=k-x/\(∀i,i < l->kl key (at_ (Et st') (lo+i)) (at_ (Et st') (lo+k)))/\(∀i,r<=i->i < k->O.klt (key (at_ (Et st') (lo+k))) (key (at_ (Et st') (lo+i)))))
   (Q:=fun c st''=>st''=st'/\∃l r,c=(none,l,r)/\l<=k/\(∀i,i < l->kl key (at_ (Et st') (lo+i)) (at_ (Et st') (lo+k)))/\(∀i,l<=i->i < k->O.klt (key (at_ (Et st') (lo+k))) (key (at_ (Et st') (lo+i))))) ?s1 ?f1 ⟨rfl,0,k,rfl,by lia,by lia,by lia,fun i hi=>by lia,fun i h1 h2=>by lia⟩) ?p1)
  case f1=>
   rintro c st'' ⟨rfl,l,r,rfl,z1,z2,z3,z4,z5⟩
   have:l=r:=by lia
   subst this
   exact ⟨rfl,l,l,rfl,z2,z4,z5⟩
  case s1=>
   rintro x c st'' _ hx ⟨rfl,l,r,rfl,z1,z2,z3,z4,z5⟩
   dsimp only
   by_cases hge:l >= r
   ·rw [if_pos hge]
    have:l=r:=by lia
    subst this
    exact Eu ⟨rfl,l,l,rfl,z2,z4,z5⟩
   rw [if_neg hge]
   refine En (bY C hk' hP' (by lia) (by lia) ?_)
   dsimp only
   cases hc:O.blt (key (at_ (Et st'') (lo+k))) (key (at_ (Et st'') (lo+(l+r) / 2))) with
   | true=>
    rw [if_pos rfl]
    exact Eu ⟨rfl,l,(l+r) / 2,rfl,by lia,by lia,by lia,z4,fun i g1 g2=>KeyOrd.klt_of_klt_of_kle hc (S (lo+(l+r) / 2) (lo+i) (by lia) (by lia) (by lia))⟩
   | false=>
    rw [if_neg (by simp)]
    exact Eu ⟨rfl,(l+r) / 2+1,r,rfl,by lia,by lia,by lia,fun i g1=>E4 (S (lo+i) (lo+(l+r) / 2) (by lia) (by lia) (by lia)) hc,z5⟩
  case p1=>
   rintro c st'' ⟨rfl,l,r,rfl,z1,z2,z3⟩
   dsimp only
   rw [moveDown'_eq]
   have eb:∀i,at_ (bubble (Et st'') (lo+k) (lo+k-(lo+l))) i=if i=lo+l then at_ (Et st'') (lo+k) else if lo+l < i/\i<=lo+k then at_ (Et st'') (i-1) else at_ (Et st'') i:=fun i=>by
    have z:=getElem?_bubble (xs:=Et st'') (src:=lo+k) (by lia) (lo+k-(lo+l)) (by lia) i
    rw [show lo+k-(lo+k-(lo+l))=lo+l by lia] at z
    by_cases c1:i=lo+l
    ·rw [if_pos c1] at z ⊢;exact bf z
    ·rw [if_neg c1] at z ⊢
     by_cases c2:lo+l < i/\i<=lo+k
     ·rw [if_pos c2] at z ⊢;exact bf z
     ·rw [if_neg c2] at z ⊢;exact bf z
   refine En (FJ (Eu ⟨rfl,⟨M.kind,M.pend,M.fail,(bubble_perm _ _ _).trans M.perm,fun i hi=>?_⟩,by lia,fun i j g1 g2 g3=>?_⟩))
   ·rw [<- M.pre i hi]
    show (bubble (Et st'') (lo+k) (lo+k-(lo+l)))[i]?=_
    rw [getElem?_bubble (by lia) _ (by lia),if_neg (by lia),if_neg (by lia)]
   ·show kl key (at_ (bubble (Et st'') (lo+k) (lo+k-(lo+l))) i) (at_ (bubble (Et st'') (lo+k) (lo+k-(lo+l))) j)
    rw [eb,eb]
    by_cases c1:i=lo+l
    ·rw [if_pos c1]
     by_cases c2:j=lo+l
     ·rw [if_pos c2];exact GH _
     ·rw [if_neg c2,if_pos ⟨by lia,by lia⟩]
      have:=z3 (j-1-lo) (by lia) (by lia)
      rw [show lo+(j-1-lo)=j-1 by lia] at this
      exact Ft this
    ·rw [if_neg c1]
     by_cases c3:lo+l < i
     ·rw [if_pos ⟨c3,by lia⟩,if_neg (by lia),if_pos ⟨by lia,by lia⟩]
      exact S _ _ (by lia) (by lia) (by lia)
     ·rw [if_neg (by lia)]
      by_cases c2:j=lo+l
      ·rw [if_pos c2]
       have:=z2 (i-lo) (by lia)
       rwa [show lo+(i-lo)=i by lia] at this
      ·rw [if_neg c2]
       by_cases c4:lo+l < j
       ·rw [if_pos ⟨c4,by lia⟩];exact S _ _ g1 (by lia) (by lia)
       ·rw [if_neg (by lia)];exact S _ _ g1 g2 (by lia)
end
end Tim
end
section
namespace Tim
open PySem PyProof.Rows
theorem lu:∀(l:List EE) (a:Array EE) (b j0:Nat),((l.zipIdx j0).foldl (fun a x=>a.setIfInBounds (b+x.2) x.1) a).size=a.size
 | [],_,_,_=>rfl
 | x::l,a,b,j0=>by
  rw [List.zipIdx_cons,Ib,lu l]
  simp
theorem rD:∀(l:List EE) (a:Array EE) (b j0:Nat) (i:Nat),b+j0+l.length<=a.size->((l.zipIdx j0).foldl (fun a x=>a.setIfInBounds (b+x.2) x.1) a)[i]?=if b+j0<=i/\i < b+j0+l.length then l[i-(b+j0)]? else a[i]?
 | [],a,b,j0,i,_=>by
  rw [if_neg (by simp only [Il];lia)];rfl
 | x::l,a,b,j0,i,h=>by
  have hl:(x::l).length=l.length+1:=rfl
  rw [hl] at h ⊢
  rw [List.zipIdx_cons,Ib,rD l _ b (j0+1) i (by simp;lia)]
  by_cases c:b+(j0+1)<=i/\i < b+(j0+1)+l.length
  ·rw [if_pos c,if_pos (by lia),show i-(b+j0)=(i-(b+(j0+1)))+1 by lia,FZ]
  ·rw [if_neg c]
   by_cases e:i=b+j0
   ·subst e
    rw [if_pos (by lia),Nat.sub_self,List.getElem?_cons_zero]
    simp [HU];lia
   ·rw [if_neg (by lia)]
    simp [HU];lia
def Cov:List (Nat×Nat×Nat)->Nat->Nat->Prop
 | [],f,t=>f=t
 | x::r,f,t=>x.1=f/\1<=x.2.1/\Cov r (f+x.2.1) t
theorem Cov.le:∀{l:List (Nat×Nat×Nat)} {f t:Nat},Cov l f t->f+l.length<=t
 | [],_,_,h=>by cases h;exact Ek _
 | x::r,f,t,⟨h1,h2,h3⟩=>by have:=Cov.le h3;simp only [F5];lia
theorem Cov.app:∀{l m:List (Nat×Nat×Nat)} {f t:Nat},Cov (l++m) f t↔∃k,Cov l f k/\Cov m k t
 | [],m,f,t=>⟨fun h=>⟨f,rfl,h⟩,fun zq1=>by obtain ⟨k,h1,h2⟩:=zq1;cases h1;exact h2⟩
 | x::r,m,f,t=>⟨fun ⟨h1,h2,h3⟩=>let ⟨k,k1,k2⟩:=Cov.app.mp h3;⟨k,⟨h1,h2,k1⟩,k2⟩,fun zt1=>by obtain ⟨k,⟨h1,h2,k1⟩,k2⟩:=zt1;exact ⟨h1,h2,Cov.app.mpr ⟨k,k1,k2⟩⟩⟩
theorem Cov.mem:∀{l:List (Nat×Nat×Nat)} {f t:Nat},Cov l f t->∀x∈l,f<=x.1/\x.1+x.2.1<=t
 | x::r,f,t,⟨h1,h2,h3⟩,y,hy=>by
  have:=Cov.le h3
  rcases List.mem_cons.mp hy with rfl | hy
  ·lia
  ·have:=Cov.mem h3 y hy;lia
section
variable {prog:E2} {w:FO} {A:F4} {E:Ej->El->Prop} {s:El} {κ:HC} {O:IP} {key:EE->O.α} {P:EE->Prop}
theorem uT {σ:Type} {M:La} {x:σ} {Q:PUnit->σ->Prop} {st:σ} (h:Q ⟨⟩ x):wpS M A E s (set x:StateT σ Sem PUnit) Q st:=by
 unfold wpS;rw [StateT.run_set];exact Es ⟨rfl,h⟩
structure G {O:IP} (κ:HC) (key:EE->O.α) (a0:Array EE) (st:F8) (lo:Nat):Prop where
 kind:kindOf st=κ
 fail:GW st=none
 perm:(Et st).Perm a0
 cov:Cov (EM st).toList 0 lo
 srt:∀x∈(EM st).toList,Sg key (Et st) x.1 (x.1+x.2.1)
 le:lo<=a0.size
theorem rE {a:Array EE} {x:EE} {base n:Nat} (h:Sg key a base (base+n)):∀i j,i<=j->j < n->bey key false x (at_ a (base+j))=true->bey key false x (at_ a (base+i))=true:=fun i j hij hj q=>by
 have:kl key (at_ a (base+i)) x:=E4 (h _ _ (by lia) (by lia) (by lia)) (lq q)
 show (!O.blt (key x) (key (at_ a (base+i))))=true
 rw [show O.blt (key x) (key (at_ a (base+i)))=false from this];rfl
theorem rF {a:Array EE} {x:EE} {base n:Nat} (h:Sg key a base (base+n)):∀i j,i<=j->j < n->bey key true x (at_ a (base+j))=true->bey key true x (at_ a (base+i))=true:=fun i j hij hj q=>
 IU (h (base+i) (base+j) (by lia) (by lia) (by lia)) (lr q)
theorem lw {a:Array EE} {i n j:Nat} (h:n<=a.size) (hj:i+j < n):at_ (a.extract i n) j=at_ a (i+j):=by
 refine bf ?_
 rw [Array.getElem?_extract]
 rw [if_pos (by lia)]
theorem ly {a:Array EE} {i n:Nat} (h:n<=a.size):(a.extract i n).size=n-i:=by
 rw [Array.size_extract];lia
theorem rG {a:Array EE} {i n:Nat} (h:n<=a.size) (q:Sg key a i n):(a.extract i n).toList.Pairwise (kl key):=by
 rw [IG]
 intro x y hx hy hxy
 have hz:=ly (a:=a) (i:=i) h
 have hx':x < (a.extract i n).size:=by rw [<- E6];exact hx
 have hy':y < (a.extract i n).size:=by rw [<- E6];exact hy
 have g:∀z (hz:z < (a.extract i n).toList.length),(a.extract i n).toList[z]=at_ (a.extract i n) z:=fun z hz'=>by
  have e1:=bT (a:=a.extract i n) (i:=z) (by rw [<- E6];exact hz')
  rw [Ei hz'] at e1
  exact ER e1
 rw [g x hx,g y hy,lw h (by lia),lw h (by lia)]
 exact q _ _ (by lia) (by lia) (by lia)
theorem iD {a:Array EE} {i n:Nat} (h:n<=a.size) {x:EE} (hx:x∈(a.extract i n).toList):∃j,i<=j/\j < n/\x=at_ a j:=by
 obtain ⟨j,hj,e⟩:=J5 hx
 have hj':j < (a.extract i n).size:=by rw [<- E6];exact hj
 have hz:=ly (a:=a) (i:=i) h
 have e1:=bT (a:=a.extract i n) (i:=j) hj'
 rw [Ei hj,e] at e1
 refine ⟨i+j,by lia,by lia,?_⟩
 rw [ER e1,lw h (by lia)]
theorem jc {a:Array EE} (hP:∀x∈a.toList,P x) {i:Nat} (h:i < a.size):P (at_ a i):=hP _ (dZ h)
theorem uU {a m:Array EE} {lo hi:Nat} (h:hi<=a.size) (hl:lo<=hi) (hm:m.toList.Perm (a.extract lo hi).toList) :
  let a':=(m.toList.zipIdx).foldl (fun a x=>a.setIfInBounds (lo+x.2) x.1) a
  a'.Perm a/\(∀i,(lo<=i/\i < hi->a'[i]?=m[i-lo]?)/\(¬ (lo<=i/\i < hi)->a'[i]?=a[i]?)):=by
 intro a'
 have hlen:m.toList.length=hi-lo:=by rw [hm.length_eq];simp;lia
 have g:∀i,a'[i]?=if lo+0<=i/\i < lo+0+m.toList.length then m.toList[i-(lo+0)]? else a[i]?:=fun i=>rD m.toList a lo 0 i (by lia)
 rw [KL,hlen,show lo+(hi-lo)=hi by lia] at g
 have hz:a'.size=a.size:=lu _ _ _ _
 refine ⟨?_,fun i=>⟨fun c=>by rw [g,if_pos c,FG],fun c=>by rw [g,if_neg c]⟩⟩
 have e:a'.toList=a.toList.take lo++(m.toList++a.toList.drop hi):=by
  apply GI
  intro i
  rw [FG,g,JP,JP]
  have hlt:(a.toList.take lo).length=lo:=by simp;lia
  rw [hlt,hlen]
  by_cases c1:i < lo
  ·rw [if_neg (by lia),if_pos c1,List.getElem?_take,if_pos c1,FG]
  ·rw [if_neg c1]
   by_cases c2:i < hi
   ·rw [if_pos ⟨by lia,c2⟩,if_pos (by lia)]
   ·rw [if_neg (by lia),if_neg (by lia),List.getElem?_drop,FG]
    congr 1;lia
 have e2:a.toList=a.toList.take lo++((a.extract lo hi).toList++a.toList.drop hi):=by
  rw [mB a lo hi hl]
  conv=>lhs;rw [<- E1 hi a.toList,<- E1 lo (a.toList.take hi)]
  rw [List.take_take,JA hl,Ey]
 rw [Array.perm_iff_toList_perm,e]
 conv=>rhs;rw [e2]
 exact Gg _ (hm.append_right _)
theorem mD (C:fX prog w A s κ O key P) {a0:Array EE} {st:F8} {lo i:Nat} {Q:Bool->F8->Prop} (hP:∀x∈a0.toList,P x) (g:G κ key a0 st lo) (hi:i+1 < (EM st).size)
  (h:∀st',G κ key a0 st' lo->(∀j,lo<=j->(Et st')[j]?=(Et st)[j]?)->(EM st').size+1=(EM st).size->Q true st'):wpS (Ff prog w) A E s (mergeAt' i) Q st:=by
 obtain ⟨sa,na,pw,eA⟩:∃sa na pw,(EM st)[i]?=some (sa,na,pw):=⟨_,_,_,getElem?_pos _ i (by lia)⟩
 obtain ⟨sb,nb,pw2,eB⟩:∃sb nb pw2,(EM st)[i+1]?=some (sb,nb,pw2):=⟨_,_,_,getElem?_pos _ (i+1) hi⟩
 have eL:(EM st).toList=(EM st).toList.take i++(sa,na,pw)::(sb,nb,pw2)::(EM st).toList.drop (i+2):=by
  conv=>lhs;rw [<- E1 i (EM st).toList]
  congr 1
  rw [<- FG] at eA eB
  obtain ⟨l1,q1⟩:=List.getElem?_eq_some_iff.mp eA
  obtain ⟨l2,q2⟩:=List.getElem?_eq_some_iff.mp eB
  rw [Gy l1,q1,Gy l2,q2]
 have hcov:=g.cov
 rw [eL] at hcov
 obtain ⟨k0,c1,c2,c3,c4,c5,c6⟩:=Cov.app.mp hcov
 dsimp only at c2 c3 c4 c5 c6
 subst c2
 have hpost:=Cov.le c6
 have hsz:(Et st).size=a0.size:=g.perm.size_eq
 have hle:=g.le
 have hPs:∀x∈(Et st).toList,P x:=fun x hx=>hP x ((Array.perm_iff_toList_perm.mp g.perm).mem_iff.mp hx)
 have sgA:Sg key (Et st) sa (sa+na):=g.srt (sa,na,pw) (by rw [eL];simp)
 have sgB:Sg key (Et st) (sa+na) (sa+na+nb):=by have:=g.srt (sb,nb,pw2) (by rw [eL];simp);dsimp only at this;rwa [c4] at this
 -- the pending runs afterwards
 have pn:(((EM st).setIfInBounds i (sa,na+nb,pw)).eraseIdxIfInBounds (i+1)).toList=(EM st).toList.take i++(sa,na+nb,pw)::(EM st).toList.drop (i+2):=by
  rw [Array.eraseIdxIfInBounds,dif_pos (by simp;lia),Array.toList_eraseIdx,Array.toList_setIfInBounds]
  conv=>lhs;rw [eL]
  have hl:((EM st).toList.take i).length=i:=by simp;lia
  rw [List.set_append_right _ _ (by lia),hl,Nat.sub_self,Fw,List.eraseIdx_append_of_length_le (by lia),hl,Nat.add_sub_cancel_left,List.eraseIdx_cons_succ,List.eraseIdx_cons_zero]
 have hps:(((EM st).setIfInBounds i (sa,na+nb,pw)).eraseIdxIfInBounds (i+1)).size+1=(EM st).size:=by
  rw [<- E6,pn];simp;lia
 -- what is wanted of a state with these runs
 have fin:∀st',kindOf st'=κ->GW st'=none->EM st'=(((EM st).setIfInBounds i (sa,na+nb,pw)).eraseIdxIfInBounds (i+1))->(Et st').Perm (Et st)->(∀j,¬ (sa<=j/\j < sa+na+nb)->(Et st')[j]?=(Et st)[j]?) ->
   Sg key (Et st') sa (sa+na+nb)->Q true st':=fun st' k1 k2 k3 k4 k5 k6=>by
  refine h st' ⟨k1,k2,k4.trans g.perm,?_,?_,hle⟩ (fun j hj=>k5 j (by lia)) (by rw [k3];exact hps)
  ·rw [k3,pn]
   refine Cov.app.mpr ⟨sa,c1,rfl,by show 1<=na+nb;lia,?_⟩
   show Cov _ (sa+(na+nb)) lo
   rw [<- Je];exact c6
  ·intro x hx
   rw [k3,pn] at hx
   rcases List.mem_append.mp hx with hx | hx
   ·have q:=g.srt x (by rw [eL];exact EF _ hx)
    have r:=Cov.mem c1 x hx
    intro i' j' z1 z2 z3
    show O.kle _ _
    rw [bf (k5 i' (by lia)),bf (k5 j' (by lia))]
    exact q i' j' z1 z2 z3
   ·rcases List.mem_cons.mp hx with rfl | hx
    ·show Sg key (Et st') sa (sa+(na+nb))
     rw [<- Je];exact k6
    ·have q:=g.srt x (by rw [eL];exact Ee _ (ES _ (ES _ hx)))
     have r:=Cov.mem c6 x hx
     intro i' j' z1 z2 z3
     show O.kle _ _
     rw [bf (k5 i' (by lia)),bf (k5 j' (by lia))]
     exact q i' j' z1 z2 z3
 subst c4
 delta mergeAt'
 refine En (HM ?_)
 rw [eA,eB]
 dsimp only
 refine En (uT ?_)
 refine En (aR (show sa+na < (Et st).size by lia) (En (fY C g.kind (show 0 < na by lia) (show sa+na<=(Et st).size by lia) (fun j hj=>jc hPs (by lia)) (jc hPs (by lia)) (rE sgA) fun k z1 z2 z3=>?_)))
 dsimp only
 have low:∀j,sa<=j->j < sa+k->kl key (at_ (Et st) j) (at_ (Et st) (sa+na)):=fun j j1 j2=>by
  have:=lq (z2 (j-sa) (by lia));rwa [show sa+(j-sa)=j by lia] at this
 have high:∀j,sa+k<=j->j < sa+na->O.klt (key (at_ (Et st) (sa+na))) (key (at_ (Et st) j)):=fun j j1 j2=>by
  have:=rB (z3 (j-sa) (by lia) (by lia));rwa [show sa+(j-sa)=j by lia] at this
 by_cases e1:na-k=0
 ·rw [if_pos (by simpa using e1)]
  refine Eu (fin _ g.kind g.fail rfl (Ik _) (fun _ _=>rfl) fun i' j' y1 y2 y3=>?_)
  show kl key (at_ (Et st) i') (at_ (Et st) j')
  by_cases d1:j' < sa+na
  ·exact sgA i' j' y1 y2 d1
  ·by_cases d2:i' < sa+na
   ·exact E4 (low i' y1 (by lia)) (sgB _ j' (Ek _) (by lia) y3)
   ·exact sgB i' j' (by lia) y2 y3
 rw [if_neg (by simpa using e1)]
 have hlast:sa+k+(na-k)-1=sa+na-1:=by lia
 rw [hlast]
 refine En (aR (show sa+na-1 < (Et st).size by lia) (En (fY C g.kind (show nb-1 < nb by lia) (show sa+na+nb<=(Et st).size by lia) (fun j hj=>jc hPs (by lia)) (jc hPs (by lia)) (rF sgB) fun m y1 y2 y3=>?_)))
 dsimp only
 have lowB:∀j,sa+na<=j->j < sa+na+m->O.klt (key (at_ (Et st) j)) (key (at_ (Et st) (sa+na-1))):=fun j j1 j2=>by
  have:=lr (y2 (j-(sa+na)) (by lia));rwa [show sa+na+(j-(sa+na))=j by lia] at this
 have highB:∀j,sa+na+m<=j->j < sa+na+nb->kl key (at_ (Et st) (sa+na-1)) (at_ (Et st) j):=fun j j1 j2=>by
  have:=rC (y3 (j-(sa+na)) (by lia) (by lia));rwa [show sa+na+(j-(sa+na))=j by lia] at this
 by_cases e2:m=0
 ·rw [if_pos (by simpa using e2)]
  refine Eu (fin _ g.kind g.fail rfl (Ik _) (fun _ _=>rfl) fun i' j' x1 x2 x3=>?_)
  show kl key (at_ (Et st) i') (at_ (Et st) j')
  by_cases d1:j' < sa+na
  ·exact sgA i' j' x1 x2 d1
  ·by_cases d2:i' < sa+na
   ·exact E4 (sgA i' (sa+na-1) x1 (by lia) (by lia)) (highB j' (by lia) x3)
   ·exact sgB i' j' (by lia) x2 x3
 rw [if_neg (by simpa using e2)]
 have hx1:sa+na<=(Et st).size:=by lia
 have hx2:sa+na+m<=(Et st).size:=by lia
 have sx:=ly (a:=Et st) (i:=sa+k) hx1
 have sy:=ly (a:=Et st) (i:=sa+na) hx2
 have srX:=rG (key:=key) (i:=sa+k) hx1 (fun i' j' a1 a2 a3=>sgA i' j' (by lia) a2 a3)
 have srY:=rG (key:=key) (i:=sa+na) hx2 (fun i' j' a1 a2 a3=>sgB i' j' a1 a2 (by lia))
 have PX:∀x∈((Et st).extract (sa+k) (sa+na)).toList,P x:=fun x hx=>by obtain ⟨j,j1,j2,rfl⟩:=iD hx1 hx;exact jc hPs (by lia)
 have PY:∀x∈((Et st).extract (sa+na) (sa+na+m)).toList,P x:=fun x hx=>by obtain ⟨j,j1,j2,rfl⟩:=iD hx2 hx;exact jc hPs (by lia)
 have H0:∀y∈((Et st).extract (sa+k) (sa+na)).toList,kl key (at_ ((Et st).extract (sa+na) (sa+na+m)) 0) y:=fun y hy=>by
  obtain ⟨j,j1,j2,rfl⟩:=iD hx1 hy
  rw [lw hx2 (by lia),KL]
  exact Ft (high j j1 j2)
 have HL:∀x∈((Et st).extract (sa+na) (sa+na+m)).toList,kl key x (at_ ((Et st).extract (sa+k) (sa+na)) (((Et st).extract (sa+k) (sa+na)).size-1)):=fun x hx=>by
  obtain ⟨j,j1,j2,rfl⟩:=iD hx2 hx
  rw [sx,lw hx1 (by lia),show sa+k+(sa+na-(sa+k)-1)=sa+na-1 by lia]
  exact Ft (lowB j j1 j2)
 have eXY:((Et st).extract (sa+k) (sa+na+m)).toList=((Et st).extract (sa+k) (sa+na)).toList++((Et st).extract (sa+na) (sa+na+m)).toList:=by
  rw [<- Fh,Array.extract_append_extract]
  congr 2 <;> lia
 -- the end,by either way
 have done:∀(r:Array EE) (st1:F8),kindOf st1=κ->GW st1=none->EM st1=(((EM st).setIfInBounds i (sa,na+nb,pw)).eraseIdxIfInBounds (i+1))->Et st1=Et st ->
   Res (kl key) ((Et st).extract (sa+k) (sa+na)).toList ((Et st).extract (sa+na) (sa+na+m)).toList r.toList ->
   Q true (Ku (kindOf st1) ((r.toList.zipIdx).foldl (fun a x=>a.setIfInBounds (sa+k+x.2) x.1) (Et st1)) (EM st1) (gallopOf st1) (GW st1)):=fun r st1 k1 k2 k3 k4 R=>by
  rw [k4]
  obtain ⟨R1,R2⟩:=R
  rw [<- eXY] at R1
  obtain ⟨b1,b2⟩:=uU (a:=Et st) (m:=r) (lo:=sa+k) (hi:=sa+na+m) hx2 (by lia) R1
  generalize (r.toList.zipIdx).foldl (fun a x=>a.setIfInBounds (sa+k+x.2) x.1) (Et st)=a' at b1 b2 ⊢
  have hrl:r.size=sa+na+m-(sa+k):=by have:=R1.length_eq;rw [E6,E6,ly hx2] at this;exact this
  have mid:∀j,sa+k<=j->j < sa+na+m->at_ a' j=at_ r (j-(sa+k)):=fun j j1 j2=>bf ((b2 j).1 ⟨j1,j2⟩)
  have out:∀j,¬ (sa+k<=j/\j < sa+na+m)->at_ a' j=at_ (Et st) j:=fun j hj=>bf ((b2 j).2 hj)
  have midv:∀j,sa+k<=j->j < sa+na+m->∃t,sa+k<=t/\t < sa+na+m/\at_ a' j=at_ (Et st) t:=fun j j1 j2=>by
   have hm:at_ r (j-(sa+k))∈r.toList:=dZ (by lia)
   obtain ⟨t,t1,t2,t3⟩:=iD hx2 (R1.mem_iff.mp hm)
   exact ⟨t,t1,t2,by rw [mid j j1 j2,t3]⟩
  refine fin _ k1 k2 k3 b1 (fun j hj=>(b2 j).2 (by lia)) fun i' j' x1 x2 x3=>?_
  show kl key (at_ a' i') (at_ a' j')
  by_cases d1:i' < sa+k
  ·rw [out i' (by lia)]
   by_cases d2:j' < sa+k
   ·rw [out j' (by lia)];exact sgA i' j' x1 x2 (by lia)
   ·by_cases d3:j' < sa+na+m
    ·obtain ⟨t,t1,t2,t3⟩:=midv j' (by lia) d3
     rw [t3]
     by_cases d4:t < sa+na
     ·exact sgA i' t x1 (by lia) d4
     ·exact E4 (low i' x1 d1) (sgB _ t (Ek _) (by lia) (by lia))
    ·rw [out j' (by lia)]
     exact E4 (low i' x1 d1) (sgB _ j' (Ek _) (by lia) x3)
  ·by_cases d2:i' < sa+na+m
   ·by_cases d3:j' < sa+na+m
    ·rw [mid i' (by lia) d2,mid j' (by lia) d3]
     exact d0 R2 (by lia) (by lia)
    ·obtain ⟨t,t1,t2,t3⟩:=midv i' (by lia) d2
     rw [t3,out j' (by lia)]
     by_cases d4:t < sa+na
     ·exact E4 (sgA t (sa+na-1) (by lia) (by lia) (by lia)) (highB j' (by lia) x3)
     ·exact sgB t j' (by lia) (by lia) x3
   ·rw [out i' (by lia),out j' (by lia)]
    exact sgB i' j' (by lia) x2 x3
 by_cases hcase:na-k<=m
 ·rw [if_pos hcase]
  refine En (AA C g.kind (show 0 < ((Et st).extract (sa+k) (sa+na)).size by rw [sx];lia) (show 0 < ((Et st).extract (sa+na) (sa+na+m)).size by rw [sy];lia) PX PY srX srY H0 HL fun r st1 S R=>?_)
  refine En (FJ (En (HM ?_)))
  have hf:GW st1=none:=S.2.2.2.trans g.fail
  show wpS _ _ _ _ (pure (GW st1).isNone) _ _
  rw [hf]
  exact Eu (done r st1 (S.1.trans g.kind) hf S.2.2.1 S.2.1 R)
 ·rw [if_neg hcase]
  refine En (AB C g.kind (show 0 < ((Et st).extract (sa+k) (sa+na)).size by rw [sx];lia) (show 0 < ((Et st).extract (sa+na) (sa+na+m)).size by rw [sy];lia) PX PY srX srY H0 HL fun r st1 S R=>?_)
  refine En (FJ (En (HM ?_)))
  have hf:GW st1=none:=S.2.2.2.trans g.fail
  show wpS _ _ _ _ (pure (GW st1).isNone) _ _
  rw [hf]
  exact Eu (done r st1 (S.1.trans g.kind) hf S.2.2.1 S.2.1 R)
end
end Tim
end
section
namespace Tim
open PySem PyProof.Rows
def bare (x:Nat×Nat×Nat):Nat×Nat:=(x.1,x.2.1)
theorem Cov.bare:∀{l m:List (Nat×Nat×Nat)} {f t:Nat},l.map bare=m.map bare->Cov l f t->Cov m f t
 | [],[],_,_,_,h=>h
 | [],_::_,_,_,e,_=>by cases e
 | _::_,[],_,_,e,_=>by cases e
 | x::l,y::m,f,t,e,⟨h1,h2,h3⟩=>by
  have e':=Kk e
  have e1:x.1=y.1:=(J7 e'.1).1
  have e2:x.2.1=y.2.1:=(J7 e'.1).2
  exact ⟨e1▸h1,e2▸h2,e2▸Cov.bare e'.2 h3⟩
theorem rH (l:List (Nat×Nat×Nat)) (i pw:Nat):(l.modify i fun x=>(x.1,x.2.1,pw)).map bare=l.map bare:=by
 apply GI
 intro j
 rw [EH,EH,List.getElem?_modify]
 cases l[j]? with
 | none=>rfl
 | some x=>by_cases h:i=j <;> simp [h,bare]
section
variable {prog:E2} {w:FO} {A:F4} {E:Ej->El->Prop} {s:El} {κ:HC} {O:IP} {key:EE->O.α} {P:EE->Prop}
theorem G.push {a0:Array EE} {st:F8} {lo n:Nat} (g:G κ key a0 st lo) (S:Sg key (Et st) lo (lo+n)) (h1:1<=n) (h2:lo+n<=a0.size):G κ key a0 (Kw st ((EM st).push (lo,n,0))) (lo+n):=by
 have e:(EM (Kw st ((EM st).push (lo,n,0)))).toList=(EM st).toList++[(lo,n,0)]:=IV ..
 refine ⟨g.kind,g.fail,g.perm,?_,fun x hx=>?_,h2⟩
 ·rw [e];exact Cov.app.mpr ⟨lo,g.cov,rfl,h1,rfl⟩
 ·rw [e] at hx
  rcases List.mem_append.mp hx with hx | hx
  ·exact g.srt x hx
  ·rw [Gm] at hx;subst hx;exact S
theorem G.pow {a0:Array EE} {st:F8} {lo:Nat} (g:G κ key a0 st lo) (i pw:Nat):G κ key a0 (Kw st ((EM st).modify i fun x=>(x.1,x.2.1,pw))) lo:=by
 have e:(EM (Kw st ((EM st).modify i fun x=>(x.1,x.2.1,pw)))).toList=(EM st).toList.modify i fun x=>(x.1,x.2.1,pw):=Array.toList_modify ..
 have b:=rH (EM st).toList i pw
 refine ⟨g.kind,g.fail,g.perm,?_,fun x hx=>?_,g.le⟩
 ·rw [e];exact Cov.bare b.symm g.cov
 ·rw [e] at hx
  have hb:bare x∈((EM st).toList.map bare):=by rw [<- b];exact List.mem_map_of_mem hx
  obtain ⟨y,hy,ey⟩:=List.mem_map.mp hb
  have q:=g.srt y hy
  have e1:y.1=x.1:=(J7 ey).1
  have e2:y.2.1=x.2.1:=(J7 ey).2
  rw [e1,e2] at q
  exact q
theorem Sg.keep {a b:Array EE} {lo hi:Nat} (h:Sg key a lo hi) (e:∀j,lo<=j->b[j]?=a[j]?):Sg key b lo hi:=fun i j z1 z2 z3=>by
 rw [bf (e i z1),bf (e j (by lia))];exact h i j z1 z2 z3
theorem uV (C:fX prog w A s κ O key P) {st:F8} {Q:Unit->F8->Prop} (hP:∀x∈(Et st).toList,P x) (hk:kindOf st=κ) (hf:GW st=none) (hp:EM st=#[]) (h1:1<=(Et st).size)
  (h:∀st',(Et st').Perm (Et st)->GW st'=none->(Et st').toList.Pairwise (kl key)->Q () st'):wpS (Ff prog w) A E s sortRuns' Q st:=by
 have g0:G κ key (Et st) st 0:=⟨hk,hf,Ik _,by rw [hp];rfl,(fun x hx=>by rw [hp] at hx;cases hx),Ga _⟩
 rw [sortRuns'_eq]
 refine En (HM ?_)
 dsimp only
 refine En (F7 (Fj (I:=fun x c st1=>∃lo,c=(none,lo)/\x<=lo/\G κ key (Et st) st1 lo) (Q:=fun c st1=>c=(none,(Et st).size)/\G κ key (Et st) st1 (Et st).size) ?step ?fin ⟨0,rfl,Ek _,g0⟩) ?post)
 case fin=>
  rintro c st1 ⟨lo,rfl,hx,g⟩
  have:=g.le
  have e:lo=(Et st).size:=by lia
  subst e;exact ⟨rfl,g⟩
 case post=>
  rintro c st1 ⟨rfl,g⟩
  dsimp only
  refine En (F7 (Fj (I:=fun x c st2=>c=(none,())/\(EM st2).size+x<=(Et st).size/\G κ key (Et st) st2 (Et st).size) (Q:=fun c st2=>c=(none,())/\(EM st2).size<=1/\G κ key (Et st) st2 (Et st).size) ?ls ?lf ⟨rfl,by have:=g.cov.le;rw [E6] at this;lia,g⟩) ?lp)
  case lf=>
   rintro c st2 ⟨rfl,b1,g2⟩
   exact ⟨rfl,by lia,g2⟩
  case ls=>
   rintro x c st2 _ hx ⟨rfl,b1,g2⟩
   refine En (HM ?_)
   by_cases hp1:(EM st2).size<=1
   ·rw [if_pos hp1];exact Eu ⟨rfl,hp1,g2⟩
   rw [if_neg hp1]
   have hi:∀b:Bool,(if b=true then (EM st2).size-2-1 else (EM st2).size-2)+1 < (EM st2).size:=fun b=>by
    cases b with
    | true=>rw [if_pos rfl];lia
    | false=>rw [if_neg (by simp)];lia
   refine En (mD C hP g2 (hi _) fun st3 g3 _ b3=>?_)
   rw [if_neg (by simp)]
   exact Eu ⟨rfl,by lia,g3⟩
  case lp=>
   rintro c st2 ⟨rfl,b1,g2⟩
   refine Eu (h st2 g2.perm g2.fail ?_)
   have hz:(Et st2).size=(Et st).size:=g2.perm.size_eq
   have S:Sg key (Et st2) 0 (Et st).size:=by
    have c:=g2.cov
    have q:=g2.srt
    rw [<- E6] at b1
    match hl:(EM st2).toList,b1 with
    | [],_=>rw [hl] at c;have c:0=(Et st).size:=c;lia
    | [x],_=>
     rw [hl] at c q
     obtain ⟨c1,_,c3⟩:=c
     have:=q x Em
     have c3:0+x.2.1=(Et st).size:=c3
     rwa [c1,c3] at this
    | _::_::_,b1=>simp only [F5] at b1;lia
   rw [IG]
   intro i j hi hj hij
   have gt:∀z (hz:z < (Et st2).toList.length),(Et st2).toList[z]=at_ (Et st2) z:=fun z hz'=>by
    have e1:=bT (a:=Et st2) (i:=z) (by rw [<- E6];exact hz')
    rw [Ei hz'] at e1
    exact ER e1
   rw [gt i hi,gt j hj]
   rw [E6] at hi hj
   exact S i j (Ga _) (by lia) (by lia)
 case step=>
  rintro x c st1 _ hx ⟨lo,rfl,hxl,g⟩
  have hle:=g.le
  have hsz:(Et st1).size=(Et st).size:=g.perm.size_eq
  dsimp only
  by_cases hge:lo >= (Et st).size
  ·rw [if_pos hge]
   have e:lo=(Et st).size:=by lia
   subst e;exact Eu ⟨rfl,g⟩
  rw [if_neg hge]
  have hPs:∀x∈(Et st1).toList,P x:=fun x hx=>hP x ((Array.perm_iff_toList_perm.mp g.perm).mem_iff.mp hx)
  have step:∀{st2:F8},Mv lo st1 st2->G κ key (Et st) st2 lo:=fun {st2} M=>by
   refine ⟨M.kind.trans g.kind,M.fail.trans g.fail,M.perm.trans g.perm,by rw [M.pend];exact g.cov,fun x hx=>?_,hle⟩
   rw [M.pend] at hx
   have q:=g.srt x hx
   have r:=g.cov.mem x hx
   intro i j z1 z2 z3
   rw [bf (M.pre i (by lia)),bf (M.pre j (by lia))]
   exact q i j z1 z2 z3
  refine En (AC C g.kind hPs (by lia) (by lia) fun n st2 M2 n1 n2 S2=>?_)
  dsimp only
  by_cases hm:n < minRun' (Et st).size (Et st).size 0
  ·rw [if_pos hm]
   refine En (Jd (G4 ⟨rfl,?_⟩))
   have hz2:(Et st2).size=(Et st).size:=M2.size.trans hsz
   refine En (AD C (M2.kind.trans g.kind) (M2.all hPs) (by rw [hz2];lia) n1 (by lia) S2 fun st3 M3 S3=>?_)
   rw [if_neg (by simp)]
   have M4:Mv lo st1 st3:=⟨M3.kind.trans M2.kind,M3.pend.trans M2.pend,M3.fail.trans M2.fail,M3.perm.trans M2.perm,fun i hi=>(M3.pre i hi).trans (M2.pre i hi)⟩
   have g4:=step M4
   have n3:1<=min ((Et st).size-lo) (minRun' (Et st).size (Et st).size 0):=by lia
   have n4:lo+min ((Et st).size-lo) (minRun' (Et st).size (Et st).size 0)<=(Et st).size:=by lia
   generalize min ((Et st).size-lo) (minRun' (Et st).size (Et st).size 0)=N at S3 n3 n4 ⊢
   refine En (HM ?_)
   cases hb:(EM st3).back? with
   | none=>
    dsimp only
    exact En (FJ (Eu ⟨_,rfl,by lia,g4.push S3 n3 n4⟩))
   | some z=>
    obtain ⟨s1,l1,p1⟩:=z
    dsimp only
    refine En (F7 (Fj (I:=fun _ c st5=>c=(none,())/\G κ key (Et st) st5 lo/\Sg key (Et st5) lo (lo+N)) (Q:=fun c st5=>c=(none,())/\G κ key (Et st) st5 lo/\Sg key (Et st5) lo (lo+N)) ?ms ?mf ⟨rfl,g4,S3⟩) ?mp)
    case mf=>rintro c st5 z;exact z
    case ms=>
     rintro y c st5 _ hy ⟨rfl,g5,S5⟩
     refine En (HM ?_)
     by_cases hp2:(EM st5).size > 1
     ·rw [if_pos hp2]
      obtain ⟨u1,u2,u3,hu⟩:∃u1 u2 u3,(EM st5)[(EM st5).size-2]?=some (u1,u2,u3):=⟨_,_,_,getElem?_pos _ _ (by lia)⟩
      rw [hu]
      dsimp only
      split
      ·exact Eu ⟨rfl,g5,S5⟩
      ·refine En (mD C hP g5 (by lia) fun st6 g6 k6 _=>?_)
       rw [if_neg (by simp)]
       exact Eu ⟨rfl,g6,S5.keep k6⟩
     ·rw [if_neg hp2]
      exact Eu ⟨rfl,g5,S5⟩
    case mp=>
     rintro c st5 ⟨rfl,g5,S5⟩
     dsimp only
     exact En (FJ (En (FJ (Eu ⟨_,rfl,by lia,(g5.pow _ _).push S5 n3 n4⟩))))
  ·rw [if_neg hm]
   have g4:=step M2
   have n4:lo+n<=(Et st).size:=by lia
   refine En (HM ?_)
   cases hb:(EM st2).back? with
   | none=>
    dsimp only
    exact En (FJ (Eu ⟨_,rfl,by lia,g4.push S2 n1 n4⟩))
   | some z=>
    obtain ⟨s1,l1,p1⟩:=z
    dsimp only
    refine En (F7 (Fj (I:=fun _ c st5=>c=(none,())/\G κ key (Et st) st5 lo/\Sg key (Et st5) lo (lo+n)) (Q:=fun c st5=>c=(none,())/\G κ key (Et st) st5 lo/\Sg key (Et st5) lo (lo+n)) ?ms ?mf ⟨rfl,g4,S2⟩) ?mp)
    case mf=>rintro c st5 z;exact z
    case ms=>
     rintro y c st5 _ hy ⟨rfl,g5,S5⟩
     refine En (HM ?_)
     by_cases hp2:(EM st5).size > 1
     ·rw [if_pos hp2]
      obtain ⟨u1,u2,u3,hu⟩:∃u1 u2 u3,(EM st5)[(EM st5).size-2]?=some (u1,u2,u3):=⟨_,_,_,getElem?_pos _ _ (by lia)⟩
      rw [hu]
      dsimp only
      split
      ·exact Eu ⟨rfl,g5,S5⟩
      ·refine En (mD C hP g5 (by lia) fun st6 g6 k6 _=>?_)
       rw [if_neg (by simp)]
       exact Eu ⟨rfl,g6,S5.keep k6⟩
     ·rw [if_neg hp2]
      exact Eu ⟨rfl,g5,S5⟩
    case mp=>
     rintro c st5 ⟨rfl,g5,S5⟩
     dsimp only
     exact En (FJ (En (FJ (Eu ⟨_,rfl,by lia,(g5.pow _ _).push S5 n1 n4⟩))))
end
end Tim
end
section
namespace Tim
open PySem PyProof.Rows L2
section
variable {prog:E2} {w:FO} {A:F4} {E:Ej->El->Prop} {s:El} {κ:HC} {O:IP} {key:EE->O.α} {P:EE->Prop}
def bD (h:Heap) (a:Addr) (vs:List Ej):Heap:=((h.update a (FI fun _=>#[])).push (GR "tuple" vs.toArray 0)).push (GR "list" #[] 0)
theorem nS {h:Heap} {a b:Addr} {vs:List Ej} {o:Obj} (hb:b≠a) (e:h.get? b=some o):(bD h a vs).get? b=some o:=
 Eg _ (Eg _ (((Im h a _).2 b hb).trans e))
theorem rJ (vs:List Ej):(vs.toArray.zip vs.toArray).toList=vs.map fun v=>(v,v):=by
 apply List.ext_getElem <;> simp
theorem lz {a:Addr} {vs:List Ej} {n:Nat} {R:PySem.Fin->El->Prop} (ho:s.heap.get? a=some (GR "list" vs.toArray n)) (h2:2<=vs.length) (hz:vs.length<=EW)
  (hk:∀Q':HC->El->Prop,Q' κ { s with heap:=bD s.heap a vs }->Fp (Ff prog w) A (keyKind' vs.toArray) Q' E { s with heap:=bD s.heap a vs })
  (C:fX prog w A { s with heap:=bD s.heap a vs } κ O key P) (hP:∀v∈vs,P (v,v))
  (h:∀out:List Ej,out.Perm vs->out.Pairwise (fun x y=>O.kle (key (x,x)) (key (y,y)))->R (.done (.ret .none)) { s with heap:=JM s.heap a vs out.toArray }) :
  Fp (Ff prog w) A (Builtin.«list.sort» ⟨[.ref a],[]⟩) R E s:=by
 have many:¬ vs.toArray.size < 2:=by rw [Ex];lia
 obtain ⟨e,he⟩:∃e,(s.heap.update a (FI fun _=>#[])).get? a=some (GR "list" #[] e):=⟨_,Ig ho (fun _=>#[])⟩
 rw [list_sort_plain]
 refine Ef (listItems_at ho rfl (Ef (Jb ho rfl (Ef (J1 he rfl (Ef (wpAny_newTuple (Ef (HR (FR ?_))) (hsz:=hz))))) (by rw [Ex];lia))))
 have he2:(bD s.heap a vs).get? a=some (GR "list" #[] e):=Eg _ (Eg _ he)
 dsimp only
 rw [if_neg many,if_neg many]
 refine Ef (hk _ ?_)
 have hl0:(Et (Ku κ (vs.toArray.zip vs.toArray) #[] 7 none)).toList=vs.map fun v=>(v,v):=rJ vs
 refine Ef (EN (uV (E:=E) C (st:=Ku κ (vs.toArray.zip vs.toArray) #[] 7 none) (Q:=fun _ st'=>(Et st').toList.Perm (vs.map fun v=>(v,v))/\GW st'=none/\(Et st').toList.Pairwise (kl key))
  (fun x hx=>?_) rfl rfl rfl ?_ fun st' q1 q2 q3=>⟨?_,q2,q3⟩) ?_ fun _ _ z=>z)
 ·rw [hl0] at hx
  obtain ⟨v,hv,rfl⟩:=List.mem_map.mp hx
  exact hP v hv
 ·rw [<- E6,hl0,Eh];lia
 ·rw [<- hl0];exact Array.perm_iff_toList_perm.mp q1
 rintro ⟨⟨⟩,st'⟩ s' ⟨rfl,pm,hf,pw⟩
 dsimp only
 have same:∀x∈(Et st').toList,x=(x.2,x.2):=fun x hx=>by
  obtain ⟨v,_,rfl⟩:=List.mem_map.mp (pm.mem_iff.mp hx);rfl
 have eo:(Et st').map (·.2)=((Et st').toList.map (·.2)).toArray:=by apply Array.ext' ; simp
 have p2:((Et st').toList.map (·.2)).Perm vs:=by have:=pm.map (·.2);rw [EZ] at this;simpa [G3] using this
 have w2:((Et st').toList.map (·.2)).Pairwise (fun x y=>O.kle (key (x,x)) (key (y,y))):=by
  rw [GJ]
  refine Gn (fun {x y} hx hy q=>?_) pw
  have q:O.kle (key x) (key y):=q
  rw [same x hx,same y hy] at q
  exact q
 refine Ef (J1 he2 rfl (Ef (Jb he2 rfl ?_ (hsz2:=by rw [eo,Ex,p2.length_eq];lia))))
 rw [eo,hf]
 simp only [bne_self_eq_false,Gi,if_false]
 exact Es (h _ p2 w2)
def cg (h:Heap) (vs:List Ej):Heap:=((h.push (GR "list" #[] 0)).update h.objs.size (FI (·++vs.toArray))).push (GR "list" vs.toArray 0)
theorem pre_size (h:Heap) (vs:List Ej):((h.push (GR "list" #[] 0)).update h.objs.size (FI (·++vs.toArray))).objs.size=h.objs.size+1:=by rw [Heap.size_update,size_push']
theorem nT {h:Heap} {b:Addr} {vs:List Ej} {o:Obj} (e:h.get? b=some o):(bD (cg h vs) (h.objs.size+1) vs).get? b=some o:=by
 have hb:b < h.objs.size:=EA e
 refine nS (E5 (Nat.lt_succ_of_lt hb)) (Eg _ (((Im _ _ _).2 b (E5 hb)).trans (Eg _ e)))
theorem mE {l:Addr} {vs:List Ej} {Q:Ej->El->Prop} (hl:s.heap.IsList l vs.toArray) (h2:2<=vs.length) (hz:vs.length<=EW)
  (hk:∀Q':HC->El->Prop,Q' κ { s with heap:=bD (cg s.heap vs) (s.heap.objs.size+1) vs }->Fp (Ff prog w) A.in1.in1 (keyKind' vs.toArray) Q' E { s with heap:=bD (cg s.heap vs) (s.heap.objs.size+1) vs })
  (C:fX prog w A.in1.in1 { s with heap:=bD (cg s.heap vs) (s.heap.objs.size+1) vs } κ O key P) (hP:∀v∈vs,P (v,v))
  (h:∀out:List Ej,out.Perm vs->out.Pairwise (fun x y=>O.kle (key (x,x)) (key (y,y)))->Q (.ref (s.heap.objs.size+1)) { s with heap:=sortedAll s.heap vs out.toArray }) :
  Fp (Ff prog w) A (call (.builtin "sorted") [.ref l]) Q E s:=by
 have z1:=pre_size s.heap vs
 have z2:(cg s.heap vs).get? (s.heap.objs.size+1)=some (GR "list" vs.toArray 0):=z1▸EG _ rfl
 have col:=fun R r=>collect_list (prog:=prog) (w:=w) (A:=A.in1) (E:=E) (Q:=R) hl r hz
 refine He KS KG KH (KI _) (Ef (m:=K5 "sorted" 1 1 _) (Es (Ef (m:=collect (.ref l)) (col _ (Ef (HR ?_ (hsz:=hz)))))))
 dsimp only
 rw [z1]
 refine Ef (FR (GS JU ⟨_,z2,rfl⟩ Jy (lz (κ:=κ) (O:=O) (key:=key) (P:=P) z2 h2 hz hk C hP fun out p q=>⟨_,rfl,Es ⟨_,rfl,h out p q⟩⟩) (JV _)))
def dec (h:Heap):Ej->List Int
 | .ref p=>match h.get? p with
  | some o=>match o.data with
   | .seq xs _=>xs.toList.map numOf
   | _=>[]
  | none=>[]
 | _=>[]
def IsT (h:Heap) (v:Ej) (ns:List Int):Prop:=∃p its,v=.ref p/\IsTup h p (List.toArray its)/\Vals (ns.map V.int) its
theorem jd:∀{ns:List Int} {its:List Ej},Vals (ns.map V.int) its->its.map numOf=ns
 | [],its,h=>by have h:Vals [] its:=h;cases h;rfl
 | n::ns,its,h=>by
  have h:Vals (V.int n::ns.map V.int) its:=h
  cases h with
  | cons a b=>obtain ⟨t,rfl⟩:=a;rw [EB,jd b];rfl
theorem IsT.dec {h:Heap} {v:Ej} (q:IsT h v ns):dec h v=ns:=by
 obtain ⟨p,its,rfl,⟨o,ho,_,n,hd⟩,r⟩:=q
 unfold Tim.dec
 dsimp only
 rw [ho]
 dsimp only
 rw [hd]
 dsimp only
 exact jd r
theorem je {h:Heap}:fX prog w A { s with heap:=h } (tuples' true) lexOrd (fun x=>dec h x.1) (fun x=>∃ns,IsT h x.1 ns):=by
 intro x y C hx hy q
 obtain ⟨ns,hx⟩:=hx
 obtain ⟨ms,hy⟩:=hy
 have q:C (HT.lexLt (dec h x.1) (dec h y.1)) { s with heap:=h }:=q
 rw [hx.dec,hy.dec] at q
 obtain ⟨p,us,ex,⟨o,ho,_,n,hd⟩,r⟩:=hx
 obtain ⟨p',vs,ey,⟨o',ho',_,n',hd'⟩,r'⟩:=hy
 rw [ex,ey]
 exact PySem.W.kat_lt (s:={ s with heap:=h }) ho hd ho' hd' (uc ns ms 0 r r' (by simp) q)
end
end Tim
namespace L2
open PySem PySem.Spec PyProof.Rows
def rK (K:Ed):List V->Hp->VK->Prop:=fun xs H Q=>∃(l:Addr) (ps:List Addr) (mss:List (List Int)),xs=[.ref l]/\SqL K H l (ps.map V.ref)/\eX K H ps mss/\(∀ms∈mss,ms≠[]) /\
 ∀(D:Addr) (ps':List Addr),H D=none->eX K H ps' (srt mss)->Q (.ref D) (upd H D (.lst (ps'.map V.ref)))
def adr:Ej->Addr
 | .ref a=>a
 | _=>0
theorem jT (f:Addr->List Int):∀{ps:List Addr},(∀p∈ps,SqT K H p ((f p).map V.int))->eX K H ps (ps.map f)
 | [],_=>.nil
 | p::ps,h=>.cons (h p Em) (jT f fun q hq=>h q (ES _ hq))
theorem fZ (f:Addr->List Int):∀{ps:List Addr} {mss:List (List Int)},eX K H ps mss->(∀p ms,SqT K H p (ms.map V.int)->f p=ms)->ps.map f=mss/\∀p∈ps,SqT K H p ((f p).map V.int)
 | _,_,.nil,_=>⟨rfl,fun _ h=>nomatch h⟩
 | _,_,.cons h t,hf=>by
  obtain ⟨e,q⟩:=fZ f t hf
  refine ⟨by rw [EB,e,hf _ _ h],fun p hp=>?_⟩
  rcases List.mem_cons.mp hp with rfl | hp
  ·rw [hf _ _ h];exact h
  ·exact q p hp
theorem mF {X:Cx}:b6 X (.builtin "sorted") (rK X.K):=by
 intro pins s σ H xs us Q I r h
 obtain ⟨l,ps,mss,rfl,hl,ht,hne,q⟩:=h
 obtain ⟨u,rfl,rx⟩:=vals1 r
 cases rx
 obtain ⟨vs,rv,pl,hz⟩:=I.list hl
 have hlen:ps.length=mss.length:=GL ht
 have evs:=i6 rv
 subst evs
 rw [Eh] at hz
 by_cases h2:ps.length < 2
 ·refine md pl.isList (by simpa using h2) ?_
  obtain ⟨e,he⟩:=sortedAll_at s.heap (ps.map ET) (ps.map ET).toArray
  have es:srt mss=mss:=(jC (IF _) (by
   match mss,hlen with
   | [],_=>exact IN
   | [_],_=>simp
   | _::_::_,hl=>simp at hl;lia)).symm
  exact ⟨.ref (s.heap.objs.size+1),_,I.laid (t':=s.toks) (o:=.lst (ps.map V.ref)) (fun b o e=>sortedAll_old e) (GY _) ⟨by rw [Eh];exact hz,_,e,rv,he⟩,rfl,q _ ps (I.hok.fresh (GY _)) (by rw [es];exact ht)⟩
 ·have isT:∀p ms,SqT X.K H p (ms.map V.int)->Tim.IsT (Tim.bD (Tim.cg s.heap (ps.map ET)) (s.heap.objs.size+1) (ps.map ET)) (.ref p) ms:=fun p ms hp=>by
   obtain ⟨its,r1,⟨o,ho,hc,n,hd⟩,_⟩:=I.tuple hp
   exact ⟨p,its,rfl,⟨o,Tim.nT ho,hc,n,hd⟩,r1⟩
  have isT0:∀p ms,SqT X.K H p (ms.map V.int)->Tim.IsT s.heap (.ref p) ms:=fun p ms hp=>by
   obtain ⟨its,r1,t1,_⟩:=I.tuple hp
   exact ⟨p,its,rfl,t1,r1⟩
  obtain ⟨em,each⟩:=fZ (fun p=>Tim.dec s.heap (.ref p)) ht fun p ms hp=>(isT0 p ms hp).dec
  have dd:∀p∈ps,Tim.dec (Tim.bD (Tim.cg s.heap (ps.map ET)) (s.heap.objs.size+1) (ps.map ET)) (.ref p)=Tim.dec s.heap (.ref p):=fun p hp=>(isT p _ (each p hp)).dec
  obtain ⟨fs,k1,k2,k3⟩:=gV (h:=Tim.bD (Tim.cg s.heap (ps.map ET)) (s.heap.objs.size+1) (ps.map ET)) (fun a xs hx=>let ⟨its,r1,⟨o,ho,hc,n,hd⟩,_⟩:=I.tuple hx;⟨its,r1,⟨o,Tim.nT ho,hc,n,hd⟩⟩) ht hne
  refine Tim.mE (κ:=tuples' true) (O:=lexOrd) (key:=fun x=>Tim.dec (Tim.bD (Tim.cg s.heap (ps.map ET)) (s.heap.objs.size+1) (ps.map ET)) x.1)
   (P:=fun x=>∃ns,Tim.IsT (Tim.bD (Tim.cg s.heap (ps.map ET)) (s.heap.objs.size+1) (ps.map ET)) x.1 ns) pl.isList (by simp;lia) (by simpa using hz) (fun Q' hq=>?_) Tim.je (fun v hv=>?_) fun out pm pw=>?_
  ·refine PySem.W.kat_kind (T:=.type "int") k1 (by lia) (fun v hv=>?_) rfl ?_
   ·obtain ⟨i,t,rfl⟩:=k3 v hv
    exact JC rfl
   ·rw [show ((IJ "int") != IJ "tuple")=true by decide +kernel]
    exact hq
  ·obtain ⟨p,hp,rfl⟩:=List.mem_map.mp hv
   exact ⟨_,isT p _ (each p hp)⟩
  ·have pa:(out.map adr).Perm ps:=by
    have:=pm.map adr
    rw [EZ] at this
    simpa [adr,G3] using this
   have eo:out=(out.map adr).map ET:=by
    rw [EZ]
    conv=>lhs;rw [<- KW out]
    refine Fg fun v hv=>?_
    obtain ⟨p,_,rfl⟩:=List.mem_map.mp (pm.mem_iff.mp hv)
    rfl
   have hin:∀p∈out.map adr,p∈ps:=fun p hp=>pa.mem_iff.mp hp
   have es:(out.map adr).map (fun p=>Tim.dec s.heap (.ref p))=srt mss:=by
    refine jC ?_ ?_
    ·rw [<- em];exact pa.map _
    ·rw [GJ,GJ]
     refine Gn (fun {x y} hx hy z=>?_) pw
     obtain ⟨p,hp,rfl⟩:=List.mem_map.mp (pm.mem_iff.mp hx)
     obtain ⟨p',hp',rfl⟩:=List.mem_map.mp (pm.mem_iff.mp hy)
     have z:HT.lexLt (Tim.dec _ (.ref p')) (Tim.dec _ (.ref p))=false:=z
     rw [dd p hp,dd p' hp'] at z
     show lexLe (Tim.dec s.heap (.ref p)) (Tim.dec s.heap (.ref p'))=true
     unfold lexLe
     rw [z];rfl
   obtain ⟨e,he⟩:=sortedAll_at s.heap (ps.map ET) out.toArray
   rw [eo] at he
   refine ⟨.ref (s.heap.objs.size+1),upd H (s.heap.objs.size+1) (.lst ((out.map adr).map V.ref)),I.laid (t':=s.toks) (o:=.lst ((out.map adr).map V.ref)) (fun b o e=>sortedAll_old e) (GY _) ⟨by rw [Eh,pa.length_eq];exact hz,_,e,fN _,?_⟩,rfl,q _ _ (I.hok.fresh (GY _)) ?_⟩
   ·rw [<- eo] at he ⊢;exact he
   ·rw [<- es];exact jT _ fun p hp=>each p (hin p hp)
end L2
end
section
namespace VL
open PySem L2
section
variable {K:Ed} {X:Cx} {m:Bool} {e:Expr} {es:List Expr} {tr:TA} {vr:VTA} {x:Str} {p0 p pos:Pos} {j k:Nat} {ps:List Str} {S:List Sl} {QN:List D->List Sl->Prop}
def rL (vr:VTA):VTN:=fun S Q=>vr S fun rs S1=>∃r mss,rs=[r]/\get S1 r=some (eL mss)/\(∀ms∈mss,ms≠[])/\Q ((srt mss).map eT) S1
theorem iE (hK:X.K=K) (hex:X.ex=[]) (hg:Gl X "sorted") (hm:X.mg "sorted"=none) (hb:Fk "sorted"=some (.builtin "sorted")) (ha:VA K X false [e] tr vr) (he:EO [e] X.env=[(false,eval e X.env)]:=by rfl) :
  VN K X (.Call (.Name "sorted" p) [e] [] pos) (tCB (rK K) tr) (rL vr):=
 ⟨by subst hK;exact gT mF hg hm hb ha.pe (by decide) (by decide) he rfl,fun H0 Z σ H S Q C k t hc=>ha.snd H0 Z σ H S _ _ k t fun vs H1 rs S1 k1 st1 rrs zq1=>by
  obtain ⟨r,mss,e1,e2,h1,q⟩:=zq1
  subst e1
  obtain ⟨v,rfl,rv⟩:=rrs.one
  obtain ⟨a,ys,rfl,hq,rr⟩:=rv.elems k1 e2
  obtain ⟨ps,rfl,ht,_⟩:=fP rr
  exact ⟨a,ps,mss,rfl,hq,ht,h1,fun l ps' hl ht'=>hc l _ _ H1 _ S1 k1 st1 hl (aT hl) aD (bJ hl (dw k1.tupN ht')) q⟩⟩
def rM (QN:List D->List Sl->Prop):List VR->List Sl->Prop:=fun rs S1=>∃r mss,rs=[r]/\get S1 r=some (eL mss)/\(∀ms∈mss,ms≠[])/\QN ((srt mss).map eT) S1
theorem uW (h:vr S (rM QN)):rL vr S QN:=h
theorem cJ (e:get S r=some (eL mss)) (h1:∀ms∈mss,ms≠[]) (h:QN ((srt mss).map eT) S):rM QN [r] S:=⟨r,mss,rfl,e,h1,h⟩
variable {va:VT}
end
end VL
end
section
namespace L2
open PySem PySem.Spec PyProof.Rows
section
variable {prog:E2} {w:FO} {A:F4} {E:Ej->El->Prop} {s:El}
def KyIt (h:Heap) (it d:Addr) (i n ep:Nat):Prop:=h.get? it=some { cls:=.type "dict_keyiterator",data:=.fields #[.ref d,.int i 0,.int n 0,.int ep 0] }
theorem oX:HV "dict_keyiterator"=false:=by decide
theorem gF {it:Addr} {Q:Nat->El->Prop} (ty:s.TypeIs (.ref it) "dict_keyiterator") (h:Q 0 s) :
  Fp (Ff prog w) A (typeNameOfWhole (.ref it) >>= fun n=>pure (if HV n=true then 2 else 0)) Q E s:=
 Ef (wpAny_typeNameOfWhole_keyiter ty (Es (by rw [oX];exact h)))
theorem uX {it d:Addr} {i ep:Nat} {o:Obj} {es:Array Ic} {Q:Option Ej->El->Prop} (hit:KyIt s.heap it d i es.size ep) (ho:s.heap.get? d=some o) (hd:o.data=.dict es ep) (hi:i < es.size)
  (hQ:∀h',KyIt h' it d (i+1) es.size ep->(∀b u,b≠it->s.heap.get? b=some u->h'.get? b=some u)->Q (some es[i].key) { s with heap:=h' }):Fp (Ff prog w) A (KC (.ref it)) Q E s:=by
 have ty:s.TypeIs (.ref it) "dict_keyiterator":=⟨_,hit,rfl⟩
 unfold KC
 refine Ef (Km (Hq (name:=JD "__next__") ty F.slot_dict_keyiterator_next (GS F.slot_dict_keyiterator_next ty F.entry_dict_keyiterator_next ?_ (F.args_dict_keyiterator_next_1 _))))
 refine Ef (Es (Ef (Ef (gF ty (Ef (wpAny_fieldsOf hit rfl ?_))))))
 show Fp _ _ (if (ET d==FE)=true then _ else _) _ _ s
 rw [if_neg (fun z:(ET d==FE)=true=>Er z)]
 refine Ef (Es (Ef (Hy ho hd ?_)))
 rw [if_neg (by simp)]
 refine Ef (Es (Ef (JE ho hd ?_)))
 rw [if_neg (by simp)]
 refine Es ?_
 have hx:(if ((i:Nat):Int) < 0 then none else es[((i:Nat):Int).toNat]?)=some es[i]:=by rw [if_neg (by lia),FL];exact Ge hi
 dsimp only
 rw [hx]
 refine Ef (gF ty (Ef (JF ty (Ef (wpAny_setField_rec hit (k:=1) (by simp) fun g e b=>?_)))))
 have e':KyIt g it d (i+1) es.size ep:=by
  have z:((i+1:Nat):Int)=(i:Int)+1:=by lia
  unfold KyIt;rw [z];exact e
 refine Ef (FR (Ef (JF (s:={ s with heap:=g }) ⟨_,e',rfl⟩ ?_)))
 exact Es (Es ⟨_,rfl,Es (hQ g e' fun c u hn z=>(b.2 c hn).trans z)⟩)
theorem AE {it d:Addr} {i ep:Nat} {o:Obj} {es:Array Ic} {Q:Option Ej->El->Prop} (hh:A.handled=none) (hit:KyIt s.heap it d i es.size ep) (ho:s.heap.get? d=some o) (hd:o.data=.dict es ep) (hi:es.size<=i)
  (hQ:∀h',Heap.ExtBut it s.heap h'->Q none { s with heap:=h' }):Fp (Ff prog w) A (KC (.ref it)) Q E s:=by
 have ty:s.TypeIs (.ref it) "dict_keyiterator":=⟨_,hit,rfl⟩
 unfold KC
 refine Ef (Km (Hq (name:=JD "__next__") ty F.slot_dict_keyiterator_next (GS F.slot_dict_keyiterator_next ty F.entry_dict_keyiterator_next ?_ (F.args_dict_keyiterator_next_1 _))))
 refine Ef (Es (Ef (Ef (gF ty (Ef (wpAny_fieldsOf hit rfl ?_))))))
 show Fp _ _ (if (ET d==FE)=true then _ else _) _ _ s
 rw [if_neg (fun z:(ET d==FE)=true=>Er z)]
 refine Ef (Es (Ef (Hy ho hd ?_)))
 rw [if_neg (by simp)]
 refine Ef (Es (Ef (JE ho hd ?_)))
 rw [if_neg (by simp)]
 refine Es ?_
 have hx:(if ((i:Nat):Int) < 0 then none else es[((i:Nat):Int).toNat]?)=none:=by rw [if_neg (by lia),FL];exact Jm hi
 dsimp only
 rw [hx]
 refine Ef (gF ty (Ef (wpAny_setField hit rfl (by simp) ?_)))
 unfold newExc newTuple
 refine Ef (Ef (F9 (Ef (m:=firstArgMember _ _) (wpAny_of_eq (a:=FE) (by first | rfl | (simp only [firstArgMember];rfl)) (F9 (wpAny_raiseNew_none (show A.in1.handled=none from hh) ?_) (by size_fits)))) (by size_fits)))
 refine Ef (wpAny_isInstance (b:=true) (T:="StopIteration") ⟨_,EG _ rfl,rfl⟩ isSubtype_stop (Es (hQ _ ?_)))
 intro b u hn e
 exact Eg _ (Eg _ (((Im ..).2 b hn).trans e))
theorem uY {d:Addr} {o:Obj} {es:Array Ic} {ep:Nat} {Q:Ej->El->Prop} (ty:s.TypeIs (.ref d) "dict") (hs:(d==GB)=false) (ho:s.heap.get? d=some o) (hd:o.data=.dict es ep)
  (h:Q (.ref s.heap.objs.size) { s with heap:=s.heap.push { cls:=.type "dict_keyiterator",data:=.fields #[.ref d,.int 0 0,.int es.size 0,.int ep 0] } }):Fp (Ff prog w) A (KD (.ref d)) Q E s:=by
 refine wpAny_pyIter_slot ty F.slot_dict_iter (GS F.slot_dict_iter ty F.entry_dict_iter (Ef (Ef (wpAny_notOrdered_dict ty (Es ?_)))) (F.args_dict_iter_1 _))
 refine Ef (m:=JG d) ?_
 unfold JG
 rw [if_neg (by rw [hs];exact Er)]
 refine Es (Ef (Hy ho hd (Ef (JE ho hd (Ef (F9 (Es ⟨_,rfl,"dict_keyiterator",_,⟨_,EG _ rfl,rfl⟩,F.slot_dict_keyiterator_next.lookup,?_⟩)))))))
 simpa [rawInt] using h
end
end L2
end
section
namespace VL
open PySem L2
section
variable {K:Ed} {X:Cx} {stm:Stmt} {ts:TS} {t:VTS}
theorem nU:∀{S:List Sl} {i:Nat} {ks:List (List Int)} {ds:List D},S[i]?=some (.odi ks ds)->Wk S (S.set i (.val (.dic ks ds)))
 | [],i,_,_,h=>by simp at h
 | s::r,0,ks,ds,h=>by
  have e:s=.odi ks ds:=by simpa using h
  subst e
  exact .fd (Wk.refl r)
 | s::r,i+1,ks,ds,h=>Wk.keep (nU (by simpa using h))
end
end VL
end
section
namespace L2
open PySem PySem.Spec PyProof.Rows
section
variable {X:Cx}
def nV (K:Ed):V->V->Hp->VK->Prop:=fun x y H Q=>∃b a ms es v,y=.ref b/\x=.ref a/\SqN K H b ms/\(∃ob,H a=some (b0 a ob es))/\cr K H es/\atE es ms=some v/\Q v H
theorem uZ (hu:X.A.units+64 < Ji):yJ X (nV X.K):=by
 rintro pins s σ H o i ov iv Q I r1 r2 ⟨b,a,ms,es,v,ey,ex,h1,⟨ob,h2⟩,h3,hv,q⟩
 subst ex;subst ey
 cases r1;cases r2
 obtain ⟨z,m,nd,xs,ev,dd⟩:=gB I h2 h3
 have r:=ev.at_ ms
 rw [hv] at r
 cases h5:Lb xs ms with
 | none=>rw [h5] at r;exact r.elim
 | some p=>
  rw [h5] at r
  exact wpAny_getItem_heap (Ho (by lia)) (dG I h1) dd h5 ⟨v,H,I.tok _,r,q⟩
end
end L2
end
section
namespace L2
open PySem PySem.Spec PyProof.Rows PySem.W
theorem lA {prog:E2} {w:FO} {d:Addr} {ob:Obj} {ds:Array Ic} {ep:Nat} (lo:(d==GB)=false) (hc:ob.cls=.type "dict") (hob:ob.data=.dict ds ep) :
  KdlSrc prog w "dict" d d ds.size (fun i v=>∃h:i < ds.size,v=ds[i].key) (fun h=>h.get? d=some ob) where
 type:=fun _ hm=>⟨_,hm,hc⟩
 there:=fun _ hm=>⟨EA hm,EA hm⟩
 keep:=fun _ _ hm hk=>hk d (.inl rfl) _ hm
 notList:=by decide
 notTuple:=by decide
 hint:=fun _ _ _ _ hm hq=>kdl_hint_dict ⟨_,hm,hc⟩ hq
 iter:=fun A s hh hm=>by
  have ne:d≠s.heap.objs.size:=E5 (EA hm)
  refine ⟨_,fun i h=>KyIt h s.heap.objs.size d i ds.size ep/\h.get? d=some ob,fun E Q hq=>uY ⟨_,hm,hc⟩ lo hm hob hq,?_,EG _ rfl,Eg _ hm⟩
  constructor
  ·intro b hb
   exact List.mem_cons.mpr (.inl (List.mem_singleton.mp hb))
  ·rintro i h h' ⟨st1,st2⟩ hk
   exact ⟨hk _ (by simp) _ st1,hk _ (by simp) _ st2⟩
  ·rintro i s2 Q E hi ⟨st1,st2⟩ hQ
   exact uX st1 st2 hob hi fun h' a1 a2=>hQ _ h' s2.toks ⟨hi,rfl⟩ ⟨a1,a2 d _ ne st2⟩ fun b o hb e=>a2 b o (fun z=>hb (List.mem_singleton.mpr z)) e
  ·rintro s2 Q E ⟨st1,st2⟩ hQ
   exact AE hh st1 st2 hob (Ek _) fun h' eb=>hQ h' s2.toks fun b o hb e=>eb b o (fun z=>hb (List.mem_singleton.mpr z)) e
  ·rintro i s2 Q E ⟨st1,st2⟩ hq
   exact wpAny_pyIter_keyiter ⟨_,st1,rfl,rfl⟩ hq
theorem oY {xs:List (List Int×Addr×Ej)} (ev:EV es xs):Vals (es.map fun e=>V.ref e.2.1) (xs.map fun x=>ET x.2.1):=by
 induction ev with
 | nil=>exact .nil
 | cons r _ ih=>exact .cons (by dsimp only;rw [r.2.1];rfl) ih
theorem jf {n:Nat} {P:Nat->Ej->Prop} {acc:Array Ej} {l:List Ej} (h:ItemsOf P acc n) (hl:l.length=n) (hp:∀i v,P i v->l[i]?=some v):acc.toList=l:=by
 refine GI fun i=>?_
 by_cases hi:i < acc.size
 ·have e:acc.toList[i]?=some acc[i]:=by rw [FG,Ge hi]
  rw [e,hp i _ (h.2 i _ (Ge hi))]
 ·have hs:acc.size=n:=h.1
  rw [FV (by simpa using hi),FV (by lia)]
section
variable {X:Cx}
def rLK:List V->Hp->VK->Prop:=fun xs H Q=>∃d ob es,xs=[.ref d]/\H d=some (b0 d ob es)/\∀l,H l=none->Q (.ref l) (upd H l (.lst (es.map fun e=>V.ref e.2.1)))
theorem mG (hc:X.calm=true):b6 X (.type "list") rLK:=by
 rintro pins s σ H xs us Q I rr ⟨d,ob,es,e,hd,q⟩
 subst e
 obtain ⟨u,rfl,rx⟩:=vals1 rr
 cases rx
 obtain ⟨⟨z,m,nd,xs,ev,o',ds,ep,g1,g2,g3,g4⟩,g5⟩:=gz I hd
 rw [g5] at g1;cases g1
 have hds:ds.size=xs.length:=by have:=congrArg Ia g4;simpa using this
 have hxl:=GL ev
 refine kdl_call (lA m g2.1 g3) (I.ok.hd hc) g5 (by lia) fun h' tk acc c' hk hS hacc=>?_
 have ea:acc.toList=xs.map fun x=>ET x.2.1:=jf hacc (by simp;lia) fun i v ⟨hi,e⟩=>by
  have h1:ds.toList[i]?=some (ds[i]'hi):=by rw [FG,Ge hi]
  rw [g4,EH] at h1
  rw [EH]
  cases hx:xs[i]? with
  | none=>rw [hx] at h1;cases h1
  | some x=>
   rw [hx] at h1
   rw [e,<- ER h1]
   rfl
 refine ⟨.ref s.heap.objs.size,_,I.laid (t':=tk) hk (Ek _) (show bG X.prog X.w _ h' _ (.lst (es.map fun e=>V.ref e.2.1)) from ⟨by rw [Eh];exact z,acc.toList,c',by rw [ea];exact oY ev,by simpa using hS⟩),rfl,q _ (I.hok.fresh (Ek _))⟩
end
end L2
namespace VL
open PySem L2
section
variable {K:Ed} {X:Cx} {e:Expr} {tr:TA} {vr:VTA} {S:List Sl} {QN:List D->List Sl->Prop} {p pos:Pos}
def rN (vr:VTA):VTN:=fun S Q=>vr S fun rs S1=>∃kvs,rs=[.d (dc kvs)]/\Q ((kvs.map (·.1)).map kT) S1
theorem lB (hc:X.calm=true) (hg:Gl X "list") (hm:X.mg "list"=none) (ha:VA K X false [e] tr vr) (he:EO [e] X.env=[(false,eval e X.env)]:=by rfl):VN K X (.Call (.Name "list" p) [e] [] pos) (tCB rLK tr) (rN vr):=
 ⟨eF (mG hc) hg hm m4 ha.pe (by decide) (by decide) he rfl,fun H0 Z σ H S Q C k t hcc=>ha.snd H0 Z σ H S _ _ k t fun vs H1 rs S1 k1 st1 rrs zq1=>by
  obtain ⟨kvs,e1,q⟩:=zq1
  subst e1
  obtain ⟨v,rfl,rv⟩:=rrs.one
  have rr:Rep K _ _ H1 v (.dic (kvs.map (·.1)) (kvs.map (·.2))):=rv
  cases rr with
  | @dic a ob es _ _ n f hh ek rk r=>
  exact ⟨a,ob,es,rfl,hh,fun l hl=>hcc l _ _ H1 _ S1 k1 st1 hl (aT hl) aD (eI hl (by simpa using rk) (dR _)) q⟩⟩
def rO (QN:List D->List Sl->Prop):List VR->List Sl->Prop:=fun rs S1=>∃kvs,rs=[.d (dc kvs)]/\QN ((kvs.map (·.1)).map kT) S1
theorem u0 (h:vr S (rO QN)):rN vr S QN:=h
theorem rP (h:QN ((kvs.map (·.1)).map kT) S):rO QN [.d (dc kvs)] S:=⟨kvs,rfl,h⟩
end
end VL
end
section
namespace VL
open PySem L2
section
variable {K:Ed} {N N':AP} {F:FP} {H H' H0:Hp} {Z P:AP} {σ σ':St} {S S':List Sl}
mutual
theorem Rep.mark {v:L2.V} {d:D}:Rep K N F H v d->Rep K N (fun o=>F o/\∀a,o=some a->N a/\IsM (H a)) H v d
 | .int i=>.int i
 | .bl i=>.bl i
 | .non=>.non
 | .str i=>.str i
 | .ty i=>.ty i
 | .tup n h r=>.tup n h (Reps.mark r)
 | .tupK h r=>.tupK h (Reps.mark r)
 | .lst n f h r=>.lst n ⟨f,fun a e=>by cases e;exact ⟨n,by rw [h];trivial⟩⟩ h (Reps.mark r)
 | .lstF n f h r=>.lstF n ⟨f,fun a e=>nomatch e⟩ h (Reps.mark r)
 | .lstK f h r=>.lstK ⟨f,fun a e=>nomatch e⟩ h (Reps.mark r)
 | .dic n f h e rk r=>.dic n ⟨f,fun a e=>by cases e;exact ⟨n,by rw [h];trivial⟩⟩ h e (Reps.mark rk) (Reps.mark r)
 | .exc n h e=>.exc n h e
 | .oth (k:=k) h=>.oth (k.both (fun a n m f=>⟨f,fun b e=>by cases e;exact ⟨n,m⟩⟩) (fun f=>⟨f,fun a e=>nomatch e⟩) h)
 | .dib n f h e g rk r=>.dib n ⟨f,fun a e=>by cases e;exact ⟨n,by rw [h];trivial⟩⟩ h e g (Reps.mark rk) (Reps.mark r)
theorem Reps.mark {vs:List L2.V} {ds:List D}:Reps K N F H vs ds->Reps K N (fun o=>F o/\∀a,o=some a->N a/\IsM (H a)) H vs ds
 | .nil=>.nil
 | .cons h t=>.cons (Rep.mark h) (Reps.mark t)
end
end
end VL
end
section
namespace L2
open PySem PySem.Spec PyProof.Rows
theorem Inv.turned2 {X:Cx} {s:El} {h':Heap} {t':Nat} {e it:Addr} (I:Inv X pins σ H s) (k:∀b o,b≠e->b≠it->s.heap.get? b=some o->h'.get? b=some o) (fe:dN X pins H e) (fi:dN X pins H it) :
  Inv X pins σ H { s with heap:=h',toks:=t' }:=by
 obtain ⟨e0,e1,_,e3,e4,e5⟩:=fe
 obtain ⟨i0,i1,_,i3,i4,i5⟩:=fi
 have ne:∀b u,H b=some u->b≠e:=fun b u q z=>by rw [z,e0] at q;cases q
 have ni:∀b u,H b=some u->b≠it:=fun b u q z=>by rw [z,i0] at q;cases q
 have kk:∀b o,b∉[e,it]->s.heap.get? b=some o->h'.get? b=some o:=fun b o hc q=>k b o (fun z=>hc (by simp [z])) (fun z=>hc (by simp [z])) q
 refine I.step (g':=s.gens) (d':=s.drawn) (ch:=[e,it]) (fun b hb=>?_) (fun b o _ _ hc q _=>kk b o hc q) (fun b o _ _ hc q _=>⟨o.slots,kk b o hc q⟩) (fun _ _ _ _ n=>n)
  (fun b o hc q=>⟨o,kk b o hc q⟩) (fun _ _ q=>q) (fun _ _ _ q=>q) (fun b ps q=>⟨#[],by rw [q];simp⟩) (fun m hm=>?_) (fun b u q=>?_) I.bare
 ·rcases List.mem_cons.mp hb with rfl | hb
  ·exact ⟨e3,e1,e4,e5⟩
  ·obtain rfl:=List.mem_singleton.mp hb
   exact ⟨i3,i1,i4,i5⟩
 ·obtain ⟨o,es,ep,ho,r⟩:=hm
  exact ⟨o,es,ep,k _ o (Gu e1) (Gu i1) ho,r⟩
 ·refine (I.hok b u q).stay (fun c v hc z=>k c v ?_ ?_ z) (fun _ z=>z) fun _ _ z=>z
  ·rcases hc with y | y
   ·rw [y];exact ne b u q
   ·exact ne c _ y
  ·rcases hc with y | y
   ·rw [y];exact ni b u q
   ·exact ni c _ y
def Ite (K:Ed) (l:Addr):It:=
 ⟨fun i H=>∃xs x,SqL K H l xs/\xs[i]?=some x,fun i H x H'=>∃p,H p=none/\x=.ref p/\∀xs,SqL K H l xs->∃y,xs[i]?=some y/\H'=upd H p (.tup [.int i,y]),fun i H=>∃xs,SqL K H l xs/\xs.length<=i⟩
theorem oZ {P:E2} {w:FO} {elts:List Expr} {x1} {tp:Pos} (e it l:Addr) (hne:e≠it) :
  Turn P w K (.Tuple elts x1 tp) (Ite K l) [e,it] e (fun i h=>(∃old,IsEnum h e it i old)/\h.IsListIter it l i) where
 mem:=by simp
 obj:=fun i h zq b hb=>by
  obtain ⟨⟨old,st⟩,sl⟩:=zq
  rcases List.mem_cons.mp hb with rfl | hb
  ·exact ⟨_,st,fun v z=>by
    have z':Data.fields _=HE v:=z
    cases z'⟩
  ·obtain rfl:=List.mem_singleton.mp hb
   obtain ⟨o,q,c,d⟩:=sl
   exact ⟨o,q,fun v z=>by rw [d] at z;cases z⟩
 keep:=fun i h h' zq k=>by
  obtain ⟨⟨old,st⟩,sl⟩:=zq
  exact ⟨⟨old,k e (by simp) _ st⟩,sl.at fun o q=>k it (by simp) o q⟩
 item:=by
  intro X hP hw hK hc i pins s σ H E I hf zq hg
  subst hP hw hK
  obtain ⟨⟨old,st⟩,sl⟩:=zq
  obtain ⟨xs,x,hq,hx⟩:=hg
  obtain ⟨its,rv,p,hz⟩:=I.list hq
  obtain ⟨u,hu,ru⟩:=rv.get hx
  have fe:=hf e (by simp)
  have fi:=hf it (by simp)
  refine wpAny_pyNext_enum_item st sl p.isList (x:=u) (by simpa using hu) hne fun h' a1 a2 a3 a4 a5=>⟨_,rfl,wpAny_letOwnedTupleGo_enum (s:={ s with heap:=h',toks:=s.toks+1 }) a1 fun h2 b1 b2=>?_⟩
  have kb:∀b o,b≠e->h'.get? b=some o->h2.get? b=some o:=fun b o hb q=>(b2.2 b hb).trans q
  have I2:Inv X pins σ H { s with heap:=h2,toks:=s.toks+1 }:=I.turned2 (fun b o n1 n2 q=>kb b o n1 (a5 b o n1 n2 q)) fe fi
  have np:H s.heap.objs.size=none:=I.hok.fresh (Ek _)
  obtain ⟨_,p1,_,p3,p4,p5⟩:=I.fpOk (H':=H) (b:=s.heap.objs.size) (Ek _) np
  have ns:s.heap.objs.size≠e:=KB (EA st)
  have ni:s.heap.objs.size≠it:=by
   obtain ⟨o,q,_⟩:=id sl
   exact KB (EA q)
  refine ⟨.ref s.heap.objs.size,upd H s.heap.objs.size (.tup [.int i,x]),I2.track np I.sz p1 p4 p5 ⟨by rw [FQ];exact Fb rfl,[.int i s.toks,u],.cons ⟨_,rfl⟩ (.cons ru .nil),⟨_,kb _ _ ns a3,rfl,_,rfl⟩⟩,rfl,⟨_,np,rfl,fun ys hy=>⟨x,by rw [I.list_inj hy hq];exact hx,rfl⟩⟩,⟨⟨_,by simpa using b1⟩,a2.at fun o q=>kb it o (Gu hne) q⟩,fun b hb=>?_⟩
  rcases List.mem_cons.mp hb with rfl | hb
  ·rw [aC (Gu ns)];exact fe.1
  ·obtain rfl:=List.mem_singleton.mp hb
   rw [aC (Gu ni)];exact fi.1
 done:=by
  intro X hP hw hK hc i pins s σ H E I hf zq hg
  subst hP hw hK
  obtain ⟨⟨old,st⟩,sl⟩:=zq
  obtain ⟨xs,hq,hx⟩:=hg
  obtain ⟨its,rv,p,hz⟩:=I.list hq
  obtain ⟨f0,f1,f2,f3,f4,f5⟩:=hf it (by simp)
  have hl:=rv.length
  exact wpAny_pyNext_enum_end (I.ok.hd hc) st sl p.isList (Jm (by simp;lia)) fun h' eb=>⟨rfl,I.turned (t':=s.toks) (fun b o hb q=>eb b o hb q) f0 f1 f3 f4 f5⟩
 self:=fun _ _ _ _ _ zq h=>by
  obtain ⟨⟨old,st⟩,_⟩:=zq
  exact Kx st h
section
variable {X:Cx}
def xP (K:Ed) (ta:TA):TI:=fun σ H R=>ta σ H fun vs H1=>∃l,vs=[.ref l]/\(∃xs,SqL K H1 l xs)/\R (Ite K l) H1
theorem u6 {a:Expr} {ta:TA} {p pos tp:Pos} {elts:List Expr} {x1} (hg:Gl X "enumerate") (hm:X.mg "enumerate"=none) (ha:PA X [a] ta) (hs:EO [a] X.env=[(false,eval a X.env)]:=by rfl):PI X (.Tuple elts x1 tp) (.Call (.Name "enumerate" p) [a] [] pos) (xP X.K ta):=by
 intro pins s σ H R I h
 refine Call_ (eS I hg hm boot_enumerate (FX (thn (ha pos pins s σ H _ I h) fun us s1 zr1=>?_) hs rfl))
 obtain ⟨vs,H1,I1,r1,q1⟩:=zr1
 obtain ⟨l,e,⟨xs,hq⟩,q⟩:=q1
 subst e
 cases r1 with
 | cons r rr=>
  cases rr
  cases r
  obtain ⟨its,rv,pl,hz⟩:=I1.list hq
  refine call_enumerate_list pl.isList fun h' g1 g2 g3 g4=>?_
  have I2:Inv X pins σ H1 { s1 with heap:=h' }:=I1.kept (t':=s1.toks) g4
  refine Kx (s:={ s1 with heap:=h' }) g1 ⟨s1.heap.objs.size+1,[s1.heap.objs.size+1,s1.heap.objs.size],_,Ite X.K l,H1,rfl,I2,oZ _ _ l (by lia),⟨⟨_,g1⟩,g2⟩,fun b hb=>?_,q⟩
  have hb':s1.heap.objs.size<=b:=by
   rcases List.mem_cons.mp hb with rfl | hb
   ·lia
   ·obtain rfl:=List.mem_singleton.mp hb
    exact Ek _
  exact I1.fpOk hb' (I1.hok.fresh hb')
end
end L2
namespace VL
open PySem L2
section
variable {K:Ed} {X:Cx} {a:Expr} {tr:TA} {vr:VTA} {S:List Sl} {QN:List D->List Sl->Prop} {p pos tp:Pos}
def enD (ds:List D):List D:=(Eo ds.length).map fun (i:Nat)=>.tup [.int i,ds.getD i .non]
theorem u7 (ds:List D):(enD ds).length=ds.length:=by simp [enD]
theorem AF {i:Nat} (h:ds[i]?=some d):(enD ds)[i]?=some (.tup [.int i,d]):=by
 obtain ⟨hi,e⟩:=List.getElem?_eq_some_iff.mp h
 simp [enD,hi,List.getD,e]
def xQ (vr:VTA):VTN:=fun S Q=>vr S fun rs S1=>∃ds,rs=[.d (.lst ds)]/\Q (enD ds) S1
theorem nW {elts:List Expr} {x1} (hK:X.K=K) (hg:Gl X "enumerate") (hm:X.mg "enumerate"=none) (ha:VA K X false [a] tr vr) (hs:EO [a] X.env=[(false,eval a X.env)]:=by rfl) :
  VI K X (.Tuple elts x1 tp) (.Call (.Name "enumerate" p) [a] [] pos) (xP K tr) (xQ vr):=⟨by subst hK;exact u6 hg hm ha.pe hs,fun H0 Z σ H S Q C k t hc=>
 ha.snd H0 Z σ H S _ _ k t fun vs H1 rs S1 k1 st1 rrs zq1=>by
  obtain ⟨ds,e,q⟩:=zq1
  subst e
  obtain ⟨v,rfl,rv⟩:=rrs.one
  have rv:Rep K _ _ H1 v (.lst ds):=rv
  obtain ⟨l,xs,rfl,hq,_⟩:=rv.sqL
  refine ⟨l,rfl,⟨xs,hq⟩,hc _ (enD ds) H1 S1 k1 st1 (fun σ2 S2 H2 nm st2 i=>?_) q⟩
  obtain ⟨l',xs',e,hq2,r2⟩:=(rv.stp st2).sqL
  cases e
  rw [u7]
  refine ⟨fun hi=>?_,fun x H3 hy hi=>?_,fun hi=>⟨xs',hq2,by rw [r2.length];lia⟩⟩
  ·obtain ⟨y,h1,_⟩:=r2.getD (Ei hi)
   exact ⟨xs',y,hq2,h1⟩
  ·obtain ⟨p,hp,rfl,hy⟩:=hy
   obtain ⟨y,h2,rfl⟩:=hy xs' hq2
   obtain ⟨d,h3,h4⟩:=r2.get h2
   have g:=aT (o:=.tup [.int i,y]) hp
   exact ⟨g,_,AF h3,.tup (nm p hp) (.inl aD) (.cons (.int _) (.cons (h4.mono (fun b n z=>⟨n,g b z⟩) fun _ _=>trivial) .nil))⟩⟩
def xR (QN:List D->List Sl->Prop):List VR->List Sl->Prop:=fun rs S1=>∃ds,rs=[.d (.lst ds)]/\QN (enD ds) S1
theorem AG (h:vr S (xR QN)):xQ vr S QN:=h
theorem u9 (h:QN (enD ds) S):xR QN [.d (.lst ds)] S:=⟨ds,rfl,h⟩
end
end VL
end
section
namespace L2
open PySem PySem.Spec PyProof.Rows
theorem o4 {n:Nat} {m j k c:Nat} (h:j < n) (h':k < n) (hc:c < n) (hj:c≠j) (hk:c≠k):fV n ix (tO K m (iQ (aX j) (iQ (aX k) tM))) (aX c):=fun x σ H Q q=>by
 obtain ⟨a,xs,e1,hq,hl,v,r,e2,v',r',e3,e4,q⟩:=fM h h' x σ H Q q
 refine ⟨a,xs,e1,hq,hl,v,r,e2,v',r',e3,e4,⟨⟨q.1,fun y H' Q' q'=>⟨⟨by simp,fun i v e=>?_⟩,q'⟩⟩,q.2⟩⟩
 by_cases hi:c=i
 ·subst hi
  rw [ED (Gu hk),ED (Gu hj)] at e
  exact (bM hc e).elim
 ·rw [ED hi];exact e
def xS:V->List V->Hp->VK->Prop:=fun x xs H Q=>∃i,x=.int i/\xs=[]/\Q (.int (Fi i:Nat)) H
theorem vf {X:Cx}:MtR X "int.bit_length" xS:=by
 rintro pins s σ H x xs v us Q I rx r ⟨i,e1,e2,q⟩
 subst e1;subst e2
 cases r
 obtain ⟨t,rfl⟩:=rx
 exact call_int_bit_length ⟨.int _,H,I.tok _,⟨_,rfl⟩,q⟩
end L2
namespace L2
open PySem PySem.Spec PyProof.Rows
def xT:V->V->Hp->VK->Prop:=fun x y H Q=>∃p xs i v,x=.ref p/\y=.int (i:Nat)/\H p=some (.lst xs)/\xs[i]?=some v/\Q v H
theorem vj {X:Cx}:yJ X xT:=by
 rintro pins s σ H o i ov iv Q I r1 r2 ⟨p,xs,k,z,e1,e2,hp,hz,q⟩
 subst e1;subst e2
 cases r1
 obtain ⟨t,rfl⟩:=r2
 obtain ⟨its,r,pl,hl0⟩:=I.list (show SqL X.K H p xs from .inl (.inl hp))
 obtain ⟨u,hu,ru⟩:=r.get hz
 have hk:=(List.getElem?_eq_some_iff.mp hu).1
 have hn:=eV
 have hl:=r.length
 exact getItem_listL pl.isList (by lia) (by lia) (by simpa using hu) ⟨z,H,I,ru,q⟩
end L2
namespace VL
open PySem L2
section
variable {K:Ed} {X:Cx} {m:Bool} {o ie e:Expr} {ti te ta:TE} {vi va:VT} {pos posS apos:Pos} {S:List Sl}
def Dt (i:Nat) (vi va:VT):VTS:=fun V S=>vi S fun ri S1=>∃(ds:List D) (j:Nat) (x:Int),S1[i]?=some (.own ds)/\get S1 ri=some (.int j)/\ds[j]?=some (.int x)/\va S1 fun r S2=>∃n,r=.d (.int n)/\S2[i]?=some (.own ds)/\V.nx (S2.set i (.own (ds.set j (.int (x+n)))))
theorem vm (i:Nat) (ho:PE X o (cP i)) (hi:VE K X false ie ti vi) (h:VE K X false e te va)
  (ha:∀ov iv new,augStore ie ov iv new=(do G7 [new,ov,iv] (KO ov iv new);release [new,ov,iv] [];pure .next):=by intros;rfl) :
  VS K X (.AugAssign (.Subscript o ie posS) .Add e pos) (wV (cP i) ti te xT (ipI fun i j=>i+j) mZ) (fun V S=>(∃ds,S[i]?=some (.own ds))/\Dt i vi va V S):=
 ⟨tP ho hi.pe vj h.pe yK set_list ha,fun H0 Z σ H S V E k zq l=>by
  obtain ⟨⟨ds0,e0⟩,zq⟩:=zq
  obtain ⟨o1,g1,p,vs0,rfl,_⟩:=k.ownAt e0
  refine ⟨.ref p,g1,hi.snd H0 Z σ H S _ _ k zq fun y H2 ri S2 k2 st2 rr2 zq1=>?_⟩
  obtain ⟨ds,j,x,e1,ej,hx,t⟩:=zq1
  obtain ⟨o2,g2,p',vs,e2,h2,h3,h4⟩:=k2.ownAt e1
  rw [g1] at g2;cases g2;cases e2
  cases rr2.get k2 ej
  obtain ⟨v,hv,rv⟩:=h4.getD hx
  cases rv
  refine ⟨p,vs,j,.int x,rfl,rfl,h2,hv,h.snd H0 Z σ H2 S2 _ _ k2 t fun z H3 r S3 k3 st3 rr3 zq2=>?_⟩
  obtain ⟨n,er,e3,q⟩:=zq2
  subst er
  cases (show Rep K _ _ H3 z (.int n) from rr3)
  obtain ⟨o3,g3,p'',vs3,e4,f2,f3,f4⟩:=k3.ownAt e3
  rw [g1] at g3;cases g3;cases e4
  have hj:j < vs3.length:=by rw [f4.length];exact (List.getElem?_eq_some_iff.mp hx).1
  refine ⟨x,n,rfl,rfl,p,vs3,j,j,rfl,rfl,f2,by simp only [ixN];rw [if_pos (by lia),if_pos (by lia)];simp,?_⟩
  have na:NM Z σ S3 p->False:=fun n=>n (.inl ⟨i,_,e3,rfl,g1⟩)
  have hm:∀b,NM Z σ S3 b->H3 b≠none->NM Z σ S3 b/\upd H3 p (.lst (vs3.set j (.int (x+n)))) b=H3 b:=fun b n _=>⟨n,aC fun z=>na (by rw [<- z];exact n)⟩
  obtain ⟨k4,st4⟩:=k3.chg (s:=.own (ds.set j (.int (x+n)))) (o:=.lst (vs3.set j (.int (x+n)))) e3 rfl g1 ⟨_,rfl⟩ rfl ⟨p,_,rfl,aD,f3,(f4.mono hm fun _ x=>x).set (.int _) j⟩
  exact l.nx _ _ _ k4 ((st2.trans st3).trans st4) q⟩
def xU (va:VT):VT:=fun S Q=>va S fun r S1=>∃i,r=.d (.int i)/\Q (.d (.int (Fi i:Nat))) S1
theorem vp (hK:X.K=K) (h:VE K X m o ta va) (hbase:HP o "bit_length" X.env (eval o X.env)=eval o X.env:=by rfl) (hline:(apos.endLine==pos.line)=true:=by rfl) :
  VE K X m (.Call (.Attribute o "bit_length" apos) [] [] pos) (Bu K "int" xS ta) (xU va):=
 ⟨by subst hK;exact yW PySem.F.plainAttrs_int PySem.F.slot_int_bit_length PySem.F.type_int_bit_length vf h.pe hbase hline,fun H0 Z σ H S Q C k t hc=>h.snd H0 Z σ H S _ _ k t fun v H1 r S1 k1 st1 rr zq1=>by
  obtain ⟨i,er,q⟩:=zq1
  subst er
  cases (show Rep K _ _ H1 v (.int i) from rr)
  exact ⟨rfl,i,rfl,rfl,hc _ H1 (.d (.int (Fi i:Nat))) S1 k1 st1 (Rep.int _) q⟩⟩
def xV (Q:VR->List Sl->Prop):VR->List Sl->Prop:=fun r S1=>∃i,r=.d (.int i)/\Q (.d (.int (Fi i:Nat))) S1
theorem AH {Q:VR->List Sl->Prop} (h:va S (xV Q)):xU va S Q:=h
theorem vq {Q:VR->List Sl->Prop} {i:Int} (h:Q (.d (.int (Fi i:Nat))) S):xV Q (.d (.int i)) S:=⟨i,rfl,h⟩
end
section
variable {β:Type} {S:List Sl} {g2:VG} {vt2:VTT} {ve:VT}
theorem o6 {xs:List β} {en f:β->D} {p:β->Bool} {ys:List D} {A:List D->List Sl->Prop} (hl:xs.length<=1000)
  (h:∀x∈xs,∀(A:D->List Sl->Prop) (B:List Sl->Prop),(∀S5,msk S S5=S->p x=true->A (f x) S5)->(∀S5,msk S S5=S->p x=false->B S5)->g2 (en x) S fun S3=>vt2 S3 (cY ve A B)) (h2:A (ys++(xs.filter p).map f) S):uP g2 vt2 ve ys A (xs.map en) S:=by
 refine ⟨by simpa using hl,fun j zs S'=>S'=S/\zs=ys++((xs.take j).filter p).map f,⟨rfl,by simp⟩,?_,?_⟩
 ·rintro i d zs S2 e ⟨rfl,rfl⟩
  obtain ⟨x,h1,rfl,hm,ht⟩:=aJ e
  refine h x hm _ _ (fun S5 e5 hp=>⟨e5,?_⟩) (fun S5 e5 hp=>⟨e5,?_⟩)
  ·rw [ht,Gk,EJ,<- Ey]
   simp [hp]
  ·rw [ht,Gk,EJ]
   simp [hp]
 ·rintro zs S2 ⟨rfl,rfl⟩
  rw [Eh,Fs]
  exact h2
end
end VL
end
section
namespace L2
open PySem PySem.Spec PyProof.Rows
theorem lC {X:Cx} (hu:X.A.units+64 < Ji):IxR X (nV X.K):=by
 intro value slice pins s σ H x y v u Q I rx ry h hs
 have g:=uZ hu pins s σ H x y v u Q I rx ry h
 obtain ⟨b,a,ms,es,z,ey,ex,h1,⟨ob,h2⟩,_⟩:=h
 subst ex
 cases rx
 obtain ⟨_,_,_,_,_,o,_,_,z1,z2,_⟩:=jz I h2
 exact K9 ⟨_,z1,z2.1⟩ slot_dict_getitem.lookup g hs
end L2
namespace VL
open PySem L2
section
variable {K:Ed} {X:Cx} {m:Bool} {o ie:Expr} {to ti:TE} {vo vi:VT} {pos:Pos} {S:List Sl} {Q:VR->List Sl->Prop}
def Du (vo vi:VT):VT:=fun S Q=>vo S fun r S1=>vi S1 fun rk S2=>∃kvs ms i,get S2 r=some (dc kvs)/\get S2 rk=some (kT ms)/\getA kvs ms=some (.int i)/\Q (.d (.int i)) S2
theorem AI (hK:X.K=K) (hu:X.A.units+64 < Ji) (ho:VE K X false o to vo) (hi:VE K X false ie ti vi) (hs:eG ie):VE K X m (.Subscript o ie pos) (tOp (nV K) to ti) (Du vo vi):=
 ⟨by subst hK;exact kA (lC hu) ho.pe hi.pe hs,fun H0 Z σ H S Q C k t hc=>by
  refine ho.snd H0 Z σ H S _ _ k t fun x H1 ra S1 k1 st1 r1 t1=>?_
  refine hi.snd H0 Z σ H1 S1 _ _ k1 t1 fun y H2 rb S2 k2 st2 r2 zr1=>?_
  obtain ⟨kvs,ms,i,e1,e2,ei,q⟩:=zr1
  obtain ⟨b,vs,rfl,hq,rr⟩:=Rep.sqT (show Rep K _ _ H2 y (.tup (ms.map D.int)) from r2.get k2 e2)
  cases Reps.toInts rr
  obtain ⟨a,es,rfl,_,_,ha,ek,hk,_,rv⟩:=Rep.dct (show Rep K _ _ H2 x (.dic _ _) from (r1.step st2).get k2 e1)
  rcases jP (k:=ms) ek rv with ⟨z1,z2⟩ | ⟨v,d,z1,z2,r⟩
  ·rw [z2] at ei;cases ei
  ·rw [z2] at ei
   cases ei
   cases r
   exact ⟨b,a,ms,es,.int i,rfl,rfl,SqN.of hq,ha,hk,z1,hc _ H2 (.d (.int i)) S2 k2 (st1.trans st2) (Rep.int i) q⟩⟩
def xW (vi:VT) (Q:VR->List Sl->Prop):VR->List Sl->Prop:=fun r S1=>vi S1 fun rk S2=>∃kvs ms i,get S2 r=some (dc kvs)/\get S2 rk=some (kT ms)/\getA kvs ms=some (.int i)/\Q (.d (.int i)) S2
def xX (r:VR) (Q:VR->List Sl->Prop):VR->List Sl->Prop:=fun rk S2=>∃kvs ms i,get S2 r=some (dc kvs)/\get S2 rk=some (kT ms)/\getA kvs ms=some (.int i)/\Q (.d (.int i)) S2
theorem Dv (h:vo S (xW vi Q)):Du vo vi S Q:=h
theorem vw (h:vi S (xX r Q)):xW vi Q r S:=h
theorem vz {r rk:VR} {i:Int} (e1:get S r=some (dc kvs)) (e2:get S rk=some (kT ms)) (e3:getA kvs ms=some (.int i)) (h:Q (.d (.int i)) S):xX r Q rk S:=⟨kvs,ms,i,e1,e2,e3,h⟩
end
end VL
end
section
namespace VL
open PySem L2 PySem.W
section
variable {S:List Sl} {Q:VR->List Sl->Prop}
theorem rQ {k:Bool} (h:q (.int (if k then 1 else 0))):BK [.bl k] q:=.inr ⟨k,rfl,h⟩
end
end VL
end
section
namespace VL
open PySem L2 PySem.W
section
variable {K:Ed} {X:Cx} {a b:Expr} {ta tb:TE} {pos:Pos} {S:List Sl} {Q:List D->List Sl->Prop}
theorem Reps.rep {N:AP} (h:Reps K N F H vs ds):∀k:Nat,Reps K N F H (Ep k vs).flatten (Ep k ds).flatten
 | 0=>.nil
 | k+1=>by
  rw [FH,Gr,FH,Gr]
  exact Reps.append h (Reps.rep h k)
def Dw (t:VTN) (vb:VT):VTN:=fun S Q=>t S fun ds S1=>vb S1 fun r S2=>∃k:Nat,r=.d (.int k)/\ds.length*k<=1000000/\k<=1000000/\Q (Ep k ds).flatten S2
theorem AJ {t:VTN} {vb:VT} (h1:VN K X a ta t) (h2:VE K X false b tb vb):VN K X (.BinOp a .Mult b pos) (tOp Bw ta tb) (Dw t vb):=⟨pV yY h1.pe h2.pe,fun H0 Z σ H S Q C k t hc=>
 h1.snd H0 Z σ H S _ _ k t fun c us ds H1 H1' S1 k1 st1 ha1 hg1 hl1 rr1 t1=>h2.snd H0 Z σ H1' S1 _ _ (k1.grow hg1) t1 fun y H2 r S2 k2 st2 r2 zq1=>by
  obtain ⟨n,rfl,hlen,hn,q⟩:=zq1
  obtain ⟨ec,nc2⟩:=st2.1 c (k1.nm ha1) (by simp [hl1])
  have ec':H2 c=some (.lst us):=by rw [ec,hl1]
  have r1:Reps K (NM Z σ S2) (Fr H0) H2 us ds:=(rr1.mono (N':=NM Z σ S1) (fun b n e=>⟨n.1,rfl⟩) (fun _ x=>x)).step st2
  cases r2
  refine ⟨c,(n:Int),us,rfl,rfl,ec',by lia,by lia,by rw [rr1.length,FQ,FL];exact Fz hlen (by decide),fun p hp=>?_⟩
  rw [FL]
  exact hc p _ _ H2 _ S2 k2 ((st1.trans (.grow hg1)).trans st2) hp (aT hp) aD (bJ hp ((Reps.rep r1 n).mono (fun _ n _=>⟨n,rfl⟩) fun _ x _=>x)) q⟩
@[irreducible] def nX (vb:VT) (Q:List D->List Sl->Prop):List D->List Sl->Prop:=fun ds S1=>vb S1 fun r S2=>∃k:Nat,r=.d (.int k)/\ds.length*k<=1000000/\k<=1000000/\Q (Ep k ds).flatten S2
@[irreducible] def nY (ds:List D) (Q:List D->List Sl->Prop):VR->List Sl->Prop:=fun r S2=>∃k:Nat,r=.d (.int k)/\ds.length*k<=1000000/\k<=1000000/\Q (Ep k ds).flatten S2
theorem Dy {t:VTN} {vb:VT} (h:t S (nX vb Q)):Dw t vb S Q:=by unfold nX at h;exact h
theorem vA {vb:VT} (h:vb S (nY ds Q)):nX vb Q ds S:=by unfold nX;unfold nY at h;exact h
theorem vB {k:Nat} (h1:ds.length*k<=1000000) (h2:k<=1000000) (h:Q (Ep k ds).flatten S):nY ds Q (.d (.int k)) S:=by unfold nY;exact ⟨k,rfl,h1,h2,h⟩
variable {va vb:VT} {z:Str} {QR:VR->List Sl->Prop}
end
end VL
end
section
namespace VL
open PySem L2
section
variable {K:Ed} {N N':AP} {F F':FP} {H:Hp}
mutual
theorem Rep.both (h1:∀a,N a->F (some a)->F' (some a)) (h2:F none->F' none) {v:V} {d:D}:Rep K N F H v d->Rep K N F' H v d
 | .int i=>.int i
 | .bl i=>.bl i
 | .non=>.non
 | .str i=>.str i
 | .ty i=>.ty i
 | .tup n h r=>.tup n h (Reps.both h1 h2 r)
 | .tupK h r=>.tupK h (Reps.both h1 h2 r)
 | .lst n f h r=>.lst n (h1 _ n f) h (Reps.both h1 h2 r)
 | .lstF n f h r=>.lstF n (h2 f) h (Reps.both h1 h2 r)
 | .lstK f h r=>.lstK (h2 f) h (Reps.both h1 h2 r)
 | .dic n f h e rk r=>.dic n (h1 _ n f) h e (Reps.both h1 h2 rk) (Reps.both h1 h2 r)
 | .exc n h e=>.exc n h e
 | .oth (k:=k) h=>.oth (k.both (fun a n _ f=>h1 a n f) h2 h)
 | .dib n f h e g rk r=>.dib n (h1 _ n f) h e g (Reps.both h1 h2 rk) (Reps.both h1 h2 r)
theorem Reps.both (h1:∀a,N a->F (some a)->F' (some a)) (h2:F none->F' none) {vs:List V} {ds:List D}:Reps K N F H vs ds->Reps K N F' H vs ds
 | .nil=>.nil
 | .cons h t=>.cons (Rep.both h1 h2 h) (Reps.both h1 h2 t)
end
end
end VL
end
section
namespace L2
open PySem PySem.Spec PyProof.Rows PySem.W
abbrev rR:=(α:Type)->Sem α->Sem α
abbrev jU:=St->List V->(List V->Hp->Prop)->Hp->Prop
abbrev goIn (c:Expr) (lev:Nat) (i:Expr) (acc:Ej) (env:Env):rR:=fun _ r=>do
 let x <- eval i env;G6 i.pos;let x <- EC i env x;let _ <- runOwn (.compStart c lev (<- G7 [x] (KD x)) acc env) env;r
abbrev xY (elt:Expr) (acc:Ej) (env:Env):rR:=fun _ r=>do { (do { let _ <- call (.builtin "list.append") [acc,<- eval elt env] });r }
def jV (c:Expr) (lev:Nat) (t i:Expr) (act:Ej->Env->rR):Prop:=(∀(it acc:Ej) (env:Env),HB c lev it acc env=(do { G6 i.pos;match <- KC it with | none=>pure (.done .next) | some v=>(do { GX t it v;Hb t env v;act acc env _ (Ip (.compLoop c lev it acc env)) }) }))/\(∀(P:E2) (w:FO) (it acc:Ej) (env:Env),(Ff P w).den (.compLoop c lev it acc env)=(HB c lev it acc env).onRaise (fun x=>do Jx x env;GZ x))/\∀(A:F4) (it acc:Ej) (env:Env),A.under (.compLoop c lev it acc env)=A
def jW (c:Expr) (lev:Nat):Prop:=∀{P:E2} {w:FO} {A:F4} {R:Result->El->Prop} {s:El} {it acc:Ej} {env:Env},G8 (Ff P w) A (.compLoop c lev it acc env) R s->Fp (Ff P w) A (KD it) (fun y s'=>G8 (Ff P w) A (.compLoop c lev y acc env) R s') (notedBy (Ff P w) A env fun x s'=>R (.error x) s') s->G8 (Ff P w) A (.compStart c lev it acc env) R s
def AK (Y:Cx) (D:Addr) (act:rR) (ta:jU):Prop:=∀{pins:List (Addr×Obj)} {σ:St} {H:Hp} {s:El} {ys:List V} {its:List Ej} {k:Nat} {Nx:List V->Hp->Prop},Inv Y pins σ H s->(∀p∈Y.pn++pins,p.1≠D)->H D=none->s.heap.get? D=some (lso its k)->Vals ys its->ta σ ys Nx H ->
 ∀{α:Type} {r:Sem α} {Q:α->El->Prop} {E:Ej->El->Prop},(∀s' ys' its' k' σ' H',Inv Y pins σ' H' s'->σ'=σ->H' D=none->s'.heap.get? D=some (lso its' k')->Vals ys' its'->Nx ys' H'->Fp (Ff Y.prog Y.w) Y.A r Q E s')->Fp (Ff Y.prog Y.w) Y.A (act α r) Q E s
def iF (te:TE):jU:=fun σ ys Nx H=>ys.length < EW/\te σ H fun v H6=>Nx (ys++[v]) H6
theorem o7 {Y:Cx} {elt:Expr} {te:TE} {D:Addr} (hxe:∀e s,¬Y.xe e s) (he:PE Y elt te) (dL:D≠Y.env.locals) (dS:Y.s₀.heap.objs.size<=D) (dC:∀x c,Y.env.cells.lookup x=some c->c≠D) (dF:D∉Y.fs):AK Y D (xY elt (.ref D) Y.env) (iF te):=by
 rintro pins σ H s ys its k Nx I dP dn dg vy ⟨hz,h⟩ α r Q E fin
 have nc:∀v,(lso its k).data≠.cell v:=fun v z=>by have z':IZ _ _=HE v:=z;cases z'
 have pinD:Inv Y (pins++[(D,lso its k)]) σ H s:=I.pins_of fun p hp=>by
  rcases List.mem_append.mp hp with hp | hp
  ·exact I.pin p (Ee _ hp)
  ·rw [List.mem_singleton.mp hp];exact ⟨dg,dn,dL,dF,nc⟩
 refine Ef (Ef (EN (he _ s σ H _ pinD h) (fun y s10 zr1=>?_) fun e s z=>(hxe e s z).elim))
 obtain ⟨v,H10,I10,rv,nx⟩:=zr1
 have d6:=I10.pin (D,lso its k) (Ee _ (Ee _ Em))
 have hl5:=vy.length
 refine Ef (HY F.slot_list_append ⟨_,d6.1,rfl⟩ F.entry_list_append (F.args_list_append_2 _ _) (Hw D its.toArray k y (by rw [Ex];lia)) ⟨d6.1,?_⟩)
 have g10:=HJ d6.1 (·.push y)
 rw [show its.toArray.push y=(its++[y]).toArray by simp] at g10
 have I12:Inv Y pins σ H10 { s10 with heap:=s10.heap.update D (FI (·.push y)) }:=
  I10.unpinned.turned (t':=s10.toks) (fun b o hb e=>(FA s10.heap (FI (·.push y)) (Gu hb)).trans e) d6.2.1 dL (.inr dS) dC dP
 exact Es (fin _ (ys++[v]) (its++[y]) _ σ H10 I12 rfl d6.2.1 g10 (vy.append (.cons rv .nil)) nx)
def lD (wi:TI) (a:Nat) (ta:jU):jU:=fun σ ys Nx H=>(∀v,σ[a]?≠some (some v))/\wi σ H fun J H1=>∃W:Nat->Nat->List V->Hp->Prop,(∃m,W 0 m ys H1)/\∀j m zs H2,W j m zs H2 ->
 (J.stop j H2/\Nx zs H2)\/(J.go j H2/\∃N2:List V->Hp->Prop,(∀zs' H',N2 zs' H'->∃m',m' < m/\W (j+1) m' zs' H')/\∀x H3,J.yld j H2 x H3->ta (σ.set a (some x)) zs N2 H3)
theorem nZ {Y:Cx} {c t i:Expr} {lev a:Nat} {act:Ej->Env->rR} {wi:TI} {ta:jU} {D:Addr} (hturn:jV c lev t i act) (hstart:jW c lev) (hcalm:Y.calm=true) (hxe:∀e s,¬Y.xe e s) (hi:PI Y t i wi) (hg:PG Y t (aX a)) (ha:AK Y D (act (.ref D) Y.env) ta)
  (dL:D≠Y.env.locals) (dS:Y.s₀.heap.objs.size<=D) (dC:∀x c,Y.env.cells.lookup x=some c->c≠D) (dF:D∉Y.fs) (hs:∀x,EC i Y.env x=pure x):AK Y D (goIn c lev i (.ref D) Y.env) (lD wi a ta):=by
 rintro pins σ H s ys its k Nx I dP dn dg vy ⟨hu,h⟩ α r Q E fin
 have nc:∀(its:List Ej) (k:Nat) v,(lso its k).data≠.cell v:=fun its k v z=>by have z':IZ _ _=HE v:=z;cases z'
 have pinD:∀{H':Hp} {s':El} {its':List Ej} {k':Nat},Inv Y pins σ H' s'->H' D=none->s'.heap.get? D=some (lso its' k')->Inv Y (pins++[(D,lso its' k')]) σ H' s':=fun I' n' g'=>I'.pins_of fun p hp=>by
  rcases List.mem_append.mp hp with hp | hp
  ·exact I'.pin p (Ee _ hp)
  ·rw [List.mem_singleton.mp hp];exact ⟨g',n',dL,dF,nc _ _⟩
 refine Ef (EN (hi _ s σ H _ (pinD I dn dg) h) (fun v s1 h1=>?_) fun e s z=>(hxe e s z).elim)
 refine Ef (FD ?_)
 rw [hs]
 refine Ef (Es (Ef (FR (EN h1 (fun itv s2 h2=>?_) fun e s z=>(hxe e s z).elim))))
 obtain ⟨it,fp,tn,J,H2,rfl,I2,T,st2,f2',W,⟨m0,w0⟩,turn⟩:=h2
 have Dfp:D∉fp:=fun z=>(f2' D z).2.2.2.2.2 (D,lso its k) (Ee _ (Ee _ Em)) rfl
 have stat:∀{H':Hp} {its':List Ej} {k':Nat},(∀b∈fp,H' b=none)->∀b∈fp,dN Y (pins++[(D,lso its' k')]) H' b:=fun hn b hb=>by
  obtain ⟨_,a1,a2,a3,a4,a5⟩:=f2' b hb
  refine ⟨hn b hb,a1,a2,a3,a4,fun p hp z=>?_⟩
  rcases List.mem_append.mp hp with hp | hp
  ·exact a5 p (EF _ hp) z
  ·rcases List.mem_append.mp hp with hp | hp
   ·exact a5 p (Ee _ (EF _ hp)) z
   ·rw [List.mem_singleton.mp hp] at z;have z:D=b:=z;exact Dfp (z▸hb)
 have d2:=I2.pin (D,lso its k) (Ee _ (Ee _ Em))
 have loop:G8 (Ff Y.prog Y.w) Y.A (.compLoop c lev (.ref it) (.ref D) Y.env) (fun res s'=>match res with | .ok _=>Fp (Ff Y.prog Y.w) Y.A r Q E s' | .error e=>cameBackBy (Ff Y.prog Y.w) Y.A Y.env E e s') s2:=by
  refine Hj rfl (fun n s'=>∃j zs its k H',Inv Y pins σ H' s'/\tn j s'.heap/\(∀b∈fp,H' b=none)/\H' D=none/\s'.heap.get? D=some (lso its k)/\Vals zs its/\W j n zs H') ?_ m0 ⟨0,ys,its,k,H2,I2.unpinned,st2,fun b hb=>(f2' b hb).1,d2.2.1,d2.1,vy,w0⟩
  rintro n s5 ⟨j,zs,its5,k5,H5,I5,st5,fr5,d5,o5,v5,w5⟩
  rw [hturn.2.1,hturn.2.2]
  refine Hx (m:=HB c lev (.ref it) (.ref D) Y.env) ?_
  rw [hturn.1]
  have pin0:=pinD I5 d5 o5
  refine Ef (FD (Ef ?_))
  rcases turn j n zs H5 w5 with ⟨stop,qn⟩ | ⟨go,N2,hN,step⟩
  ·refine thn (T.done Y rfl rfl rfl hcalm j _ s5 _ H5 _ pin0 (stat fr5) st5 stop) fun r s6 zr1=>?_
   obtain ⟨hr,I6⟩:=zr1
   subst hr
   have d6:=I6.pin (D,lso its5 k5) (Ee _ (Ee _ Em))
   exact Es (fin s6 zs its5 k5 σ H5 I6.unpinned rfl d5 d6.1 v5 qn)
  ·refine thn (T.item Y rfl rfl rfl hcalm j _ s5 _ H5 _ pin0 (stat fr5) st5 go) fun r s6 zr1=>?_
   obtain ⟨u,hr,h6⟩:=zr1
   subst hr
   refine Ef (thn h6 fun _ s7 zr1=>?_)
   obtain ⟨x,H7,I7,r7,y7,st7,fr7⟩:=zr1
   have I7':=I7.pinned (stat fr7) (T.obj _ _ st7)
   refine Ef (EN (hg _ s7 _ H7 x u (fun σ8 H8=>σ8=σ.set a (some x)/\H8=H7) I7' r7 ⟨rfl,rfl⟩) (fun _ s8 zr1=>?_) fun e s z=>(hxe e s z).elim)
   obtain ⟨σ8,H8,I8,e8,e8'⟩:=zr1
   subst e8;subst e8'
   have d8:=I8.pin (D,lso its5 k5) (Ee _ (EF _ (Ee _ Em)))
   have I9:Inv Y (pins++bO fp s7.heap) (σ.set a (some x)) H8 s8:=I8.pins_of fun p hp=>by
    rcases List.mem_append.mp hp with hp | hp
    ·exact I8.pin p (Ee _ (EF _ (EF _ hp)))
    ·exact I8.pin p (Ee _ (Ee _ hp))
   refine ha I9 (fun p hp=>?_) d8.2.1 d8.1 v5 (step x H8 y7) fun s10 zs' its' k' σ' H10 I10 e10 d10 g10 v10 nx=>?_
   ·rcases List.mem_append.mp hp with hp | hp
    ·exact dP p (EF _ hp)
    ·rcases List.mem_append.mp hp with hp | hp
     ·exact dP p (Ee _ hp)
     ·exact fun z=>Dfp (z▸(dh hp).1)
   ·subst e10
    have pn:=fun (b:Addr) (hb:b∈fp) (o:Obj) (e:s7.heap.get? b=some o)=>I10.pin (b,o) (Ee _ (Ee _ (aM hb e)))
    obtain ⟨m',hm,w8⟩:=hN zs' H10 nx
    refine Es ⟨rfl,m',hm,j+1,zs',its',k',H10,I10.unpinned.weak (by simp) (fun i v e=>?_),T.keep _ _ _ st7 fun b hb o e=>(pn b hb o e).1,fun b hb=>?_,d10,g10,v10,w8⟩
    ·by_cases hia:a=i
     ·subst hia;exact (hu v e).elim
     ·rw [ED hia];exact e
    ·obtain ⟨o,e,_⟩:=T.obj _ _ st7 b hb
     exact (pn b hb o e).2.1
 exact Ef (wpAny_runOwn (hstart (A:=Y.A) loop (T.self _ 0 _ _ _ st2 loop)))
end L2
end
section
namespace L2
open PySem PySem.Spec PyProof.Rows PySem.W
section
variable {elt t1 i1 t2 i2 t3 i3:Expr} {scope:Ha} {pos:Pos}
abbrev bg (elt t1 i1 t2 i2 t3 i3:Expr) (scope:Ha) (pos:Pos):Expr:=.ListComp elt [⟨t1,i1,[],0⟩,⟨t2,i2,[],0⟩,⟨t3,i3,[],0⟩] scope pos
theorem vD:jV (bg elt t1 i1 t2 i2 t3 i3 scope pos) 0 t1 i1 (goIn (bg elt t1 i1 t2 i2 t3 i3 scope pos) 1 i2):=⟨fun _ _ _=>by rfl,fun _ _ _ _ _=>by rfl,fun _ _ _ _=>by rfl⟩
theorem vE:jV (bg elt t1 i1 t2 i2 t3 i3 scope pos) 1 t2 i2 (goIn (bg elt t1 i1 t2 i2 t3 i3 scope pos) 2 i3):=⟨fun _ _ _=>by rfl,fun _ _ _ _ _=>by rfl,fun _ _ _ _=>by rfl⟩
theorem vF:jV (bg elt t1 i1 t2 i2 t3 i3 scope pos) 2 t3 i3 (xY elt):=⟨fun _ _ _=>by rfl,fun _ _ _ _ _=>by rfl,fun _ _ _ _=>by rfl⟩
theorem rS:jW (bg elt t1 i1 t2 i2 t3 i3 scope pos) 1:=fun {P w A R s it acc env} h0 h=>by
 refine Jz (Kl (m:=compStart (bg elt t1 i1 t2 i2 t3 i3 scope pos) 1 it acc env) ?_)
 unfold compStart
 refine (show Fp _ _ (ask >>= _) _ _ s from Ef (Jg (wpAny_ite ?_)))
 split
 ·exact Es ⟨rfl,h0⟩
 ·exact Ef (G4 (Ef (m:=G6 i2.pos) (FD (Ef (EN h (fun y s' q=>Es ⟨rfl,q⟩) fun _ _ x=>x)))))
theorem rT:jW (bg elt t1 i1 t2 i2 t3 i3 scope pos) 2:=fun {P w A R s it acc env} h0 h=>by
 refine Jz (Kl (m:=compStart (bg elt t1 i1 t2 i2 t3 i3 scope pos) 2 it acc env) ?_)
 unfold compStart
 refine (show Fp _ _ (ask >>= _) _ _ s from Ef (Jg (wpAny_ite ?_)))
 split
 ·exact Es ⟨rfl,h0⟩
 ·exact Ef (G4 (Ef (m:=G6 i3.pos) (FD (Ef (EN h (fun y s' q=>Es ⟨rfl,q⟩) fun _ _ x=>x)))))
end
section
variable {X:Cx}
def jX (wi:TI) (n:Nat) (ix:List Nat) (ta:jU):TE:=fun σ H Q=>wi σ H fun J H1=>∃W:Nat->Nat->List V->Hp->Prop,(∃m,W 0 m [] H1)/\∀i m ys H2,W i m ys H2 ->
 (J.stop i H2/\ys.length<=EW/\∀D,H2 D=none->Q (.ref D) (upd H2 D (.lst ys))) \/
 (J.go i H2/\∃Nx:List V->Hp->Prop,(∀ys' H',Nx ys' H'->∃m',m' < m/\W (i+1) m' ys' H')/\∀x H3,J.yld i H2 x H3->ta ((capt n ix σ).set 0 (some x)) ys Nx H3)
theorem o8 {elt t1 i1 t2 i2 t3 i3:Expr} {scope:Ha} {pos spos py:Pos} {yy:Str} {ii:Nat} {tg cs:List Str} {wi wi2 wi3:TI} {te:TE} (hN0:X.N.Nodup) (hi0:X.N[ii]?=some yy) (hx0:Loc X.env.scope yy)
    (S:aS X scope tg cs ix) (hcalm:X.calm=true) (hn:2 < tg.length)
    (hi:PI X t1 i1 wi) (hg:∀C fp s H,PG (ak X scope (tg++cs) C fp s H) t1 (aX 0)) (hi2:∀C fp s H,PI (ak X scope (tg++cs) C fp s H) t2 i2 wi2) (hg2:∀C fp s H,PG (ak X scope (tg++cs) C fp s H) t2 (aX 1)) (hi3:∀C fp s H,PI (ak X scope (tg++cs) C fp s H) t3 i3 wi3) (hg3:∀C fp s H,PG (ak X scope (tg++cs) C fp s H) t3 (aX 2)) (he:∀C fp s H,PE (ak X scope (tg++cs) C fp s H) elt te)
    (hf0:X.fn yy=true\/X.env.scope.names.lookup yy=some .local)
    (hsw:GP (bg elt t1 i1 t2 i2 t3 i3 scope pos) (some (.Name yy py)) spos.line X.env=pure true)
    (hs:∀x,EC i1 X.env x=pure x:=by intro _;rfl) (hs2:∀(e:Env) x,EC i2 e x=pure x:=by intro _ _;rfl) (hs3:∀(e:Env) x,EC i3 e x=pure x:=by intro _ _;rfl):PS X (.Assign [.Name yy py] (bg elt t1 i1 t2 i2 t3 i3 scope pos) spos) (cU (jX wi tg.length ix (lD wi2 1 (lD wi3 2 (iF te)))) (aX ii)):=by
  intro pins s σ H Dn I h
  rw [HG _ _ _ _ hsw]
  refine Ef (FD (Ef ?_))
  show Fp _ X.A (do let _ <- Ja (bg elt t1 i1 t2 i2 t3 i3 scope pos) scope X.env _ (newList []) false (eval i1 X.env) (some (Hb (.Name yy py) X.env))) _ _ s
  refine Ef (EN (Gj (use:=some (Hb (.Name yy py) X.env)) (Q:=fun _ s'=>SP X pins Dn .next s') (cl:=bB X.env scope.names []) rfl hs (cF fun n hn=>I.ok.has n (S.out n hn)) S.kind S.names ?_) (fun _ s' hq=>Es (Es hq)) fun _ _ e=>e)
  refine EN (hi pins s σ H _ I h) (fun v s1 h1=>EN h1 (fun itv s2 h2=>?_) fun _ _ e=>e) fun _ _ e=>e
  obtain ⟨it,fp,tn,J,H2,rfl,I2,T,st2,fpk,W,⟨m0,w0⟩,turn⟩:=h2
  refine F9 (Gz S.nocell (by intro y hy;simp at hy) (fun h1 hns1 hsb1=>?_) S.kind)
  dsimp only at hns1 hsb1 ⊢
  generalize hP:s2.heap.push { cls:=.type "list",dict:=none,data:=.seq ([]:List Ej).toArray }=P2 at hns1 hsb1 ⊢
  have hCs:P2.objs.size=s2.heap.objs.size+1:=by rw [<- hP,HA]
  have hDC:s2.heap.objs.size≠P2.objs.size:=by rw [hCs];exact E5 (Hg _)
  have hCle:s2.heap.objs.size<=P2.objs.size:=by rw [hCs];exact GY _
  generalize hCg:P2.objs.size=C at *
  have old:∀b o,s2.heap.get? b=some o->h1.get? b=some o:=fun b o e=>hsb1.extBut b o (E5 (EI (EA e) hCle)) (Eg _ (hP▸Eg _ e))
  generalize hDg:s2.heap.objs.size=D at *
  have hD0:h1.get? D=some { cls:=.type "list",data:=.seq ([]:List Ej).toArray 0 }:=hsb1.extBut _ _ hDC (Eg _ (hP▸hDg▸EG _ rfl))
  have nC:H2 C=none:=I2.hok.fresh (by rw [hDg];exact hCle)
  have nD:H2 D=none:=I2.hok.fresh (by rw [hDg];exact Ek _)
  have fo:∀b∈fp,∃o,s2.heap.get? b=some o:=fun b hb=>let ⟨o,e,_⟩:=T.obj _ _ st2 b hb;⟨o,e⟩
  have Dfp:D∉fp:=fun z=>by
    obtain ⟨o,e⟩:=fo D z
    have:=EA e
    rw [hDg] at this
    exact absurd this (FC _)
  have Dfs:D∉frs X.stack:=fun z=>by
    rcases List.mem_cons.mp (I2.stkSub D z) with e | e
    · have:=I2.lt
      rw [<- e,hDg] at this
      exact absurd this (FC _)
    · exact I2.nofs (by rw [hDg];exact Ek _) e
  have DcY:∀x c,(bB X.env scope.names []).lookup x=some c->c≠D:=fun x c e=>by
    rcases cE (Fo e) with h | h
    · cases h
    · exact (I2.fpOk (H':=H2) (b:=D) (by rw [hDg];exact Ek _) nD).2.2.2.2.1 x c h
  -- the block's context
  have Yok:∀s4:El,s4={ s2 with heap:=h1,toks:=s2.toks+([]:List (Str×Ej)).length }->Inv (ak X scope (tg++cs) C fp s2 H2) [] (capt tg.length ix σ) H2 s4:=by
    rintro s4 rfl
    exact dQ S I2 fpk fo (by rw [hDg];exact hCle) old (by simpa using hns1) rfl I2.bare nC
  -- the loop
  have loop:∀s4:El,s4={ s2 with heap:=h1,toks:=s2.toks+([]:List (Str×Ej)).length } ->
      G8 (Ff X.prog X.w) X.A (.compLoop (bg elt t1 i1 t2 i2 t3 i3 scope pos) 0 (.ref it) (.ref D) (GN scope (bB X.env scope.names []) C X.env)) (Kj (Ff X.prog X.w) X.A X.xe (some (Hb (.Name yy py) X.env)) (fun _ s'=>SP X pins Dn .next s') (.ref D) C) s4:=by
    intro s4 e4
    refine Hj rfl (fun n s'=>∃i ys its k H',Inv (ak X scope (tg++cs) C fp s2 H2) [] (capt tg.length ix σ) H' s'/\tn i s'.heap/\(∀b∈fp,H' b=none)/\H' D=none/\s'.heap.get? D=some (lso its k)/\Vals ys its/\W i n ys H')
      ?_ m0 ⟨0,[],[],0,H2,Yok s4 e4,?_,fun b hb=>(fpk b hb).1,nD,by rw [e4];exact hD0,.nil,w0⟩
    · rintro n s5 ⟨i,ys,its,k,H5,I5,st5,fr5,d5,o5,v5,w5⟩
      show Fp _ X.A ((HB (bg elt t1 i1 t2 i2 t3 i3 scope pos) 0 (.ref it) (.ref D) (GN scope (bB X.env scope.names []) C X.env)).onRaise (fun x=>do Jx x (GN scope (bB X.env scope.names []) C X.env);GZ x)) _ _ s5
      refine Hx ?_
      rw [(vD (elt:=elt) (t1:=t1) (i1:=i1) (t2:=t2) (i2:=i2) (t3:=t3) (i3:=i3) (scope:=scope) (pos:=pos)).1]
      have pin0:Inv (ak X scope (tg++cs) C fp s2 H2) [(D,(lso its k))] (capt tg.length ix σ) H5 s5:=I5.pins_of fun p hp=>by
        have e:p=(D,(lso its k)):=by simpa using hp
        subst e
        exact ⟨o5,d5,hDC,Dfs,fun v z=>by have z':IZ _ _=HE v:=z;cases z'⟩
      have fpY:∀{H':Hp},(∀b∈fp,H' b=none)->∀b∈fp,dN (ak X scope (tg++cs) C fp s2 H2) [(D,(lso its k))] H' b:=fun hn b hb=>
        ⟨hn b hb,(I5.ok.exf b hb).1,fun z=>I5.ok.exfs b hb z,.inl hb,(I5.ok.exf b hb).2,fun p hp z=>by
          have hp:p∈([]:List (Addr×Obj))++[(D,(lso its k))]:=hp
          have e:p=(D,(lso its k)):=by simpa using hp
          subst e
          have z:D=b:=z
          exact Dfp (z▸hb)⟩
      refine Ef (FD (Ef ?_))
      rcases turn i n ys H5 w5 with ⟨stop,hz,qn⟩ | ⟨go,Nx,hN,step⟩
      · refine thn (T.done (ak X scope (tg++cs) C fp s2 H2) rfl rfl rfl hcalm i _ s5 _ H5 _ pin0 (fpY fr5) st5 stop) fun r s6 zr1=>?_
        obtain ⟨hr,I6⟩:=zr1
        subst hr
        refine Es ?_
        obtain ⟨mC,hnsC,_⟩:=id I6.loc
        have IX:Inv X pins σ H5 s6:=I2.call' (ch:=fp) I6.os I6.base I6.hok I6.bare fun b hb=>let ⟨_,a1,_,a3,a4,a5⟩:=fpk b hb;⟨a3,a1,a4,a5⟩
        obtain ⟨_,b1,_,b3,b4,b5⟩:=I2.fpOk (H':=H5) (b:=D) (by rw [hDg];exact Ek _) d5
        obtain ⟨_,c1,_,c3,c4,c5⟩:=I2.fpOk (H':=H5) (b:=C) (by rw [hDg];exact hCle) I6.free
        have gD:s6.heap.get? D=some (lso its k):=(I6.pin (D,(lso its k)) (Ee _ Em)).1
        have IXD:Inv X pins σ (upd H5 D (.lst ys)) s6:=IX.track d5 (by rw [<- hDg];exact I2.sz) b1 b4 b5 ⟨hz,its,k,v5,gD⟩
        show Fp _ X.A (Hb (.Name yy py) X.env (.ref D)) _ _ s6
        refine Hu (eE (v:=.ref D) IXD hN0 hi0 hx0 rfl (fun s'' I'' zr1=>?_) hf0)
        obtain ⟨a,sb,ha⟩:=zr1
        have hCa:C≠a:=by
          rcases ha with rfl | ha
          · exact c1
          · exact (c4 _ _ ha).symm
        refine ⟨mC,hnsC.sameBut sb hCa,fun h' sb'=>⟨_,_,I''.turned (t':=s''.toks) (it:=C) (fun b o hb e=>(sb'.2 b hb).trans e) (by rw [aC (Gu hDC)];exact I6.free) c1 c3 c4 c5,qn D d5⟩⟩
      · refine thn (T.item (ak X scope (tg++cs) C fp s2 H2) rfl rfl rfl hcalm i _ s5 _ H5 _ pin0 (fpY fr5) st5 go) fun r s6 zr1=>?_
        obtain ⟨u,hr,h6⟩:=zr1
        subst hr
        refine Ef (thn h6 fun _ s7 zr1=>?_)
        obtain ⟨x,H7,I7,r7,y7,st7,fr7⟩:=zr1
        have I7':=I7.pinned (fpY fr7) (T.obj _ _ st7)
        -- the next turn
        have Ip:∀{σ2:St} {H8:Hp} {s8:El} {ys':List V} {its':List Ej} {k':Nat} , Inv (ak X scope (tg++cs) C fp s2 H2) [] σ2 H8 s8->(σ2.length=(capt tg.length ix σ).length/\∀(i:Nat) (v:V),(capt tg.length ix σ)[i]?=some (some v)->σ2[i]?=some (some v)) ->
            (∀b∈fp,∀o,s7.heap.get? b=some o->s8.heap.get? b=some o)->(∀b∈fp,H8 b=none)->H8 D=none->s8.heap.get? D=some (lso its' k')->Vals ys' its'->Nx ys' H8 ->
            ∃m,m < n/\∃i ys its k H',Inv (ak X scope (tg++cs) C fp s2 H2) [] (capt tg.length ix σ) H' s8/\tn i s8.heap/\(∀b∈fp,H' b=none)/\H' D=none/\s8.heap.get? D=some (lso its k)/\Vals ys its/\W i m ys H':=by
          intro σ2 H8 s8 ys' its' k' I8 kp fk fn dn dg vv nx
          obtain ⟨m',hm,w8⟩:=hN ys' H8 nx
          exact ⟨m',hm,i+1,ys',its',k',H8,I8.weak kp.1.symm kp.2,T.keep _ _ _ st7 fk,fn,dn,dg,vv,w8⟩
        refine Ef (EN (hg C fp s2 H2 _ s7 _ H7 x u (fun σ8 H8=>σ8=(capt tg.length ix σ).set 0 (some x)/\H8=H7) I7' r7 ⟨rfl,rfl⟩) (fun _ s8 zr1=>?_) fun _ _ z=>z.elim)
        obtain ⟨σ8,H8,I8,e8,e8'⟩:=zr1
        subst e8;subst e8'
        have d8:=I8.pin (D,(lso its k)) (Ee _ (EF _ Em))
        have I9':Inv (ak X scope (tg++cs) C fp s2 H2) (bO fp s7.heap) ((capt tg.length ix σ).set 0 (some x)) H8 s8:=I8.pins_of fun p hp=>I8.pin p (Ee _ (Ee _ hp))
        have hS:(ak X scope (tg++cs) C fp s2 H2).s₀.heap.objs.size<=D:=by show s2.heap.objs.size<=D;rw [hDg];exact Ek _
        refine nZ (Y:=ak X scope (tg++cs) C fp s2 H2) vE rS hcalm (fun _ _ z=>z) (hi2 C fp s2 H2) (hg2 C fp s2 H2) (nZ (Y:=ak X scope (tg++cs) C fp s2 H2) vF rT hcalm (fun _ _ z=>z) (hi3 C fp s2 H2) (hg3 C fp s2 H2) (o7 (Y:=ak X scope (tg++cs) C fp s2 H2) (fun _ _ z=>z) (he C fp s2 H2) hDC hS DcY Dfs) hDC hS DcY Dfs (hs3 _)) hDC hS DcY Dfs (hs2 _) I9' (fun p hp z=>?_) d8.2.1 d8.1 v5 (step x H8 y7) fun s12 zs its' k' σ' H12 I12 e12 d12 g12 v12 n12=>?_
        · have hp:p∈bO fp s7.heap:=hp
          exact Dfp (z▸(dh hp).1)
        · subst e12
          have pn:=fun (b:Addr) (hb:b∈fp) (o:Obj) (e:s7.heap.get? b=some o)=>I12.pin (b,o) (Ee _ (aM hb e))
          refine Es ⟨rfl,Ip (its':=its') (I12.pins_of fun p hp=>nomatch hp) ⟨by simp,fun i v e=>?_⟩ (fun b hb o e=>(pn b hb o e).1) (fun b hb=>?_) d12 g12 v12 n12⟩
          · by_cases h0:0=i
            · subst h0;exact (bM (by lia) e).elim
            · rw [ED h0];exact e
          · obtain ⟨o,e,_⟩:=T.obj _ _ st7 b hb
            exact (pn b hb o e).2.1
    · rw [e4];exact T.keep _ _ _ st2 fun b _ o e=>old b o e
  exact GV (loop _ rfl) (T.self _ 0 _ _ _ (T.keep _ _ _ st2 fun b _ o e=>old b o e) (loop _ rfl))
end
end L2
end
section
namespace VL
open PySem L2
abbrev f6:=List Sl->List D->(List D->List Sl->Prop)->Prop
def vG (K:Ed) (U:St->Prop) (ta:jU) (va:f6):Prop:=∀H0 Z σ H S ys zs A Nx,OK K H0 Z σ H S->U σ->Reps K (NM Z σ S) (Fr H0) H ys zs->va S zs A->(∀H' S' ys' zs',OK K H0 Z σ H' S'->Step Z σ S H σ S' H'->Reps K (NM Z σ S') (Fr H0) H' ys' zs'->A zs' S'->Nx ys' H')->ta σ ys Nx H
def jY (ve:VT):f6:=fun S zs A=>zs.length < 1000000/\ve S fun r S1=>∃x,r=.d x/\A (zs++[x]) S1
def o9 (vi:VTN) (a:Nat) (va:f6):f6:=fun S ys A=>vi S fun es S5=>∃Jv:Nat->List D->List Sl->Prop,Jv 0 ys S5 /\
 (∀j e zs S6,es[j]?=some e->Jv j zs S6->a < S6.length/\va (S6.set a (.val e)) zs fun ws S9=>Jv (j+1) ws (msk S6 S9))/\∀zs S6,Jv es.length zs S6->A zs S6
def Uns (a:Nat) (σ:St):Prop:=∀v,σ[a]?≠some (some v)
section
variable {K:Ed} {X:Cx}
theorem rV {te:TE} {ve:VT} (se:SndE K true te ve):vG K (fun _=>True) (iF te) (jY ve):=fun H0 Z σ H S ys zs A Nx k _ rz ⟨hl,h⟩ fin=>by
 refine ⟨by rw [rz.length,FQ];exact EI hl (by decide),se H0 _ σ H S _ _ k h fun v H1 r S1 k1 st1 rr ⟨x,er,q⟩=>?_⟩
 subst er
 exact fin H1 S1 _ _ k1 st1 (Reps.append (rz.step st1) (.cons (Rep.mono (fun a n _=>⟨n,rfl⟩) (fun _ x=>x rfl) rr) .nil)) q
theorem rW {wi:TI} {vi:VTN} {a:Nat} {U:St->Prop} {ta:jU} {va:f6} (si:SndI K wi vi) (sa:vG K U ta va) (hU:∀ σ x,U σ->U (σ.set a (some x))):vG K (fun σ=>Uns a σ/\U σ) (lD wi a ta) (o9 vi a va):=fun H0 Z σ H S ys zs A Nx k ⟨hu,hu2⟩ rz h fin=>by
 refine ⟨hu,si H0 _ σ H S _ _ k h fun J es H6 S6 k6 st6 gd zr1=>?_⟩
 obtain ⟨Jv,j0,hj,hd⟩:=zr1
 refine ⟨fun j m us H=>m=es.length-j/\j<=es.length/\∃S7 ws,OK K H0 Z σ H S7/\Step Z σ S6 H6 σ S7 H/\Reps K (NM Z σ S7) (Fr H0) H us ws/\Jv j ws S7,⟨es.length,by simp,Ga _,S6,zs,k6,.refl,rz.step st6,j0⟩,?_⟩
 rintro j m us H7 ⟨rfl,hjl,S7,ws,k7,st7,rw7,p7⟩
 obtain ⟨a1,a2,a3⟩:=gd σ S7 H7 (fun _=>k7.nm) st7.1 j
 by_cases hlt:j < es.length
 ·refine .inr ⟨a1 hlt,fun us' H'=>∃S' ws',OK K H0 Z σ H' S'/\Step Z σ S6 H6 σ S' H'/\Reps K (NM Z σ S') (Fr H0) H' us' ws'/\Jv (j+1) ws' S',fun us' H' p=>⟨es.length-(j+1),by lia,rfl,hlt,p⟩,fun x H8 y=>?_⟩
  obtain ⟨hgr,e,he,re⟩:=a2 x H8 y hlt
  replace k7:=k7.grow hgr
  replace st7:=st7.trans (.grow hgr)
  replace rw7:=rw7.step (.grow hgr)
  obtain ⟨hal,q⟩:=hj j e ws S7 he p7
  obtain ⟨k8,st8⟩:=k7.setVal hal re
  refine sa H0 Z _ H8 _ us ws _ _ k8 (hU _ _ hu2) (rw7.step st8) q fun H9 S9 us' ws' k9 st9 rw9 q9=>?_
  obtain ⟨kf,sf,nf⟩:=k7.forget k9 (st8.trans st9) (by simp) fun i v ei=>by
   by_cases hia:a=i
   ·subst hia;exact (hu v ei).elim
   ·rw [ED hia];exact ei
  exact ⟨_,ws',kf,st7.trans sf,rw9.mono (fun a n _=>⟨nf a n,rfl⟩) fun _ x=>x,q9⟩
 ·have e:j=es.length:=by lia
  exact .inl ⟨a3 e,fin H7 S7 us ws k7 (st6.trans st7) rw7 (hd ws S7 (by rw [<- e];exact p7))⟩
def jZ (vi:VTN) (n:Nat) (ix:List Nat) (va:f6):VTN:=fun S Q=>vi S fun ds S1=>∃Iv:Nat->List D->List Sl->Prop,Iv 0 [] S1 /\
 (∀i d ys S2,ds[i]?=some d->Iv i ys S2->va ((aV n ix S2).set 0 (.val d)) ys fun zs S6=>Iv (i+1) zs (backS n ix S2 S6))/\∀ys S2,Iv ds.length ys S2->ys.length<=1000000/\Q ys S2
theorem ph {wi:TI} {vi:VTN} {n:Nat} {ta:jU} {va:f6} {U:St->Prop} (hn:0 < n) (hnd:ix.Nodup) (si:SndI K wi vi) (sa:vG K U ta va) (hU:∀ σ x,U ((L2.capt n ix σ).set 0 (some x))):SndN K (jX wi n ix ta) (jZ vi n ix va):=fun H0 Z σ H S Q C k t hq=>by
 refine si H0 Z σ H S _ _ k t fun J ds H1 S1 k1 st1 gd zr1=>?_
 obtain ⟨Iv,i0,hs,hd⟩:=zr1
 refine ⟨fun i m ys H=>m=ds.length-i/\i<=ds.length/\∃S2 zs,OK K H0 Z σ H S2/\Step Z σ S1 H1 σ S2 H/\Reps K (NM Z σ S2) (Fr H0) H ys zs/\Iv i zs S2,⟨ds.length,by simp,Ga _,S1,[],k1,.refl,.nil,i0⟩,?_⟩
 rintro i m ys H2 ⟨rfl,hi,S2,zs,k2,st2,rz,p⟩
 obtain ⟨g1,g2',g3⟩:=gd σ S2 H2 (fun _=>k2.nm) st2.1 i
 by_cases hlt:i < ds.length
 ·refine .inr ⟨g1 hlt,fun ys' H'=>∃S' zs',OK K H0 Z σ H' S'/\Step Z σ S1 H1 σ S' H'/\Reps K (NM Z σ S') (Fr H0) H' ys' zs'/\Iv (i+1) zs' S',fun ys' H' p=>⟨ds.length-(i+1),by lia,rfl,hlt,p⟩,fun x H3 y=>?_⟩
  obtain ⟨hgr,d,hd',rd⟩:=g2' x H3 y hlt
  replace k2:=k2.grow hgr
  replace st2:=st2.trans (.grow hgr)
  replace rz:=rz.step (.grow hgr)
  have kc:=k2.capt (n:=n) hnd
  have rd':Rep K (NM (Zin Z ix σ S2) (L2.capt n ix σ) (aV n ix S2)) AnyF H3 x d:=rd.mono (fun a n _=>⟨fun z=>n (dY.mp z),rfl⟩) fun _ x=>x
  have rzc:Reps K (NM (Zin Z ix σ S2) (L2.capt n ix σ) (aV n ix S2)) (Fr H0) H3 ys zs:=rz.mono (fun a n _=>⟨fun z=>n (dY.mp z),rfl⟩) fun _ x=>x
  have hl0:0 < (aV n ix S2).length:=by simp [aV];lia
  obtain ⟨k4,st4⟩:=kc.setVal hl0 rd'
  refine sa H0 _ _ H3 _ ys zs _ _ k4 (hU _ _) (rzc.step st4) (hs i d zs S2 hd' p) fun H5 S5 ys' zs' k5 st5 r5 q5=>?_
  obtain ⟨kb,sb,nb⟩:=k2.back k5 (st4.trans st5) fun i v ei=>by
   by_cases hia:0=i
   ·subst hia;exact (bM hn ei).elim
   ·rw [ED hia];exact ei
  exact ⟨_,zs',kb,st2.trans sb,r5.mono (fun a n _=>⟨nb a n,rfl⟩) fun _ x=>x,q5⟩
 ·have e:i=ds.length:=by lia
  obtain ⟨hz,q⟩:=hd zs S2 (by rw [<- e];exact p)
  refine .inl ⟨g3 e,by rw [rz.length,FQ];exact Fz hz (by decide),fun l hp=>?_⟩
  exact hq l ys zs H2 _ S2 k2 (st1.trans st2) hp (aT hp) aD (bJ hp (rz.mono (fun _ n _=>⟨n,rfl⟩) fun _ x _=>x)) q
theorem vH {m:Bool} {te:TE} {t:VTN} (h:SndN K te t):SndE K m te (ql t):=fun H0 Z σ H S Q C k t hc=>h H0 Z σ H S _ _ k t fun a vs ds H1 H' S1 k1 st1 ha hg hl rr q=>
 hc _ H' (.d (.lst ds)) S1 (k1.grow hg) (st1.trans (.grow hg)) (Rep.lst (k1.nm ha) (fun _=>⟨a,rfl,k1.dom a ha⟩) hl (rr.mono (fun b n e=>⟨n.1,rfl⟩) fun _ x _=>x)) q
theorem pq {elt t1 i1 t2 i2 t3 i3:Expr} {scope:Ha} {pos:Pos} {spos py:Pos} {yy:Str} {ii:Nat} {tg cs:List Str} {wi wi2 wi3:TI} {vi vi2 vi3:VTN} {te:TE} {ve:VT} (hN0:X.N.Nodup) (hi0:X.N[ii]?=some yy) (hx0:Loc X.env.scope yy) (hf0:X.fn yy=true\/X.env.scope.names.lookup yy=some .local) (Sc:aS X scope tg cs ix) (hcalm:X.calm=true) (hn:2 < tg.length) (hnd:ix.Nodup)
  (hi:VI K X t1 i1 wi vi) (hg:∀C fp s H,PG (ak X scope (tg++cs) C fp s H) t1 (aX 0)) (hi2:∀C fp s H,VI K (ak X scope (tg++cs) C fp s H) t2 i2 wi2 vi2) (hg2:∀C fp s H,PG (ak X scope (tg++cs) C fp s H) t2 (aX 1)) (hi3:∀C fp s H,VI K (ak X scope (tg++cs) C fp s H) t3 i3 wi3 vi3) (hg3:∀C fp s H,PG (ak X scope (tg++cs) C fp s H) t3 (aX 2)) (he:∀C fp s H,VE K (ak X scope (tg++cs) C fp s H) true elt te ve)
  (hsw:GP (bg elt t1 i1 t2 i2 t3 i3 scope pos) (some (.Name yy py)) spos.line X.env=pure true:=by rfl) (hs:∀x,EC i1 X.env x=pure x:=by intro _;rfl) (hs2:∀(e:Env) x,EC i2 e x=pure x:=by intro _ _;rfl) (hs3:∀(e:Env) x,EC i3 e x=pure x:=by intro _ _;rfl) :
  VS K X (.Assign [.Name yy py] (bg elt t1 i1 t2 i2 t3 i3 scope pos) spos) (cU (jX wi tg.length ix (lD wi2 1 (lD wi3 2 (iF te)))) (aX ii)) (mj (ql (jZ vi tg.length ix (o9 vi2 1 (o9 vi3 2 (jY ve))))) (vgN ii)):=by
 have si2:SndI K wi2 vi2:=(hi2 0 [] X.s₀ (fun _=>none)).snd
 have si3:SndI K wi3 vi3:=(hi3 0 [] X.s₀ (fun _=>none)).snd
 have se:SndE K true te ve:=(he 0 [] X.s₀ (fun _=>none)).snd
 have un:∀{a b:Nat} {σ:St} {x:V},a≠b->Uns b σ->Uns b (σ.set a (some x)):=fun {a b σ x} h q v e=>by rw [ED h] at e;exact q v e
 have h:SndN K (jX wi tg.length ix (lD wi2 1 (lD wi3 2 (iF te)))) (jZ vi tg.length ix (o9 vi2 1 (o9 vi3 2 (jY ve)))):=
  ph (by lia) hnd hi.snd (rW si2 (rW si3 (rV se) fun _ _ _=>trivial) fun σ x q=>⟨un (by decide) q.1,trivial⟩) fun σ x=>⟨un (by decide) fun v e=>bM (by lia) e,un (by decide) fun v e=>bM hn e,trivial⟩
 exact ⟨o8 hN0 hi0 hx0 Sc hcalm hn hi.pi hg (fun C fp s H=>(hi2 C fp s H).pi) hg2 (fun C fp s H=>(hi3 C fp s H).pi) hg3 (fun C fp s H=>(he C fp s H).pe) hf0 hsw hs hs2 hs3,jF (vH (m:=false) h) fun H0 Z σ H S v d Q C k r zt1 hc=>by obtain ⟨hi,q⟩:=zt1;exact hc _ _ _ (k.setVal hi r).1 (k.setVal hi r).2 q⟩
variable {S:List Sl} {β:Type}
def kIn (a:Nat) (va:f6) (ys:List D) (A:List D->List Sl->Prop):List D->List Sl->Prop:=fun es S5=>∃Jv:Nat->List D->List Sl->Prop,Jv 0 ys S5 /\
 (∀j e zs S6,es[j]?=some e->Jv j zs S6->a < S6.length/\va (S6.set a (.val e)) zs fun ws S9=>Jv (j+1) ws (msk S6 S9))/\∀zs S6,Jv es.length zs S6->A zs S6
theorem AL {vi:VTN} {a:Nat} {va:f6} {ys:List D} {A:List D->List Sl->Prop} (h:vi S (kIn a va ys A)):o9 vi a va S ys A:=h
def xZ (zs:List D) (A:List D->List Sl->Prop):VR->List Sl->Prop:=fun r S1=>∃x,r=.d x/\A (zs++[x]) S1
theorem AM {ve:VT} {zs:List D} {A:List D->List Sl->Prop} (hl:zs.length < 1000000) (h:ve S (xZ zs A)):jY ve S zs A:=⟨hl,h⟩
theorem vI {zs:List D} {A:List D->List Sl->Prop} {x:D} (h:A (zs++[x]) S):xZ zs A (.d x) S:=⟨x,rfl,h⟩
theorem n5 {xs:List β} {en:β->D} {r:β->List D} {a:Nat} {va:f6} {ys:List D} {A:List D->List Sl->Prop} (hi:a < S.length) (n:Nat) (hr:∀x∈xs,(r x).length<=n)
  (h:∀x∈xs,∀(zs:List D) (A:List D->List Sl->Prop),zs.length<=ys.length+xs.length*n->(∀S5,msk S S5=S->A (zs++r x) S5)->va (S.set a (.val (en x))) zs A) (h2:A (ys++xs.flatMap r) S):kIn a va ys A (xs.map en) S:=by
 refine ⟨fun j zs S'=>S'=S/\zs=ys++(xs.take j).flatMap r,⟨rfl,by simp⟩,?_,?_⟩
 ·rintro i d zs S2 e ⟨rfl,rfl⟩
  obtain ⟨x,h1,rfl,hm,ht⟩:=aJ e
  refine ⟨hi,h x hm _ _ ?_ fun S5 e5=>⟨e5,?_⟩⟩
  ·rw [E7,J8]
   have:∀l:List β,(∀x∈l,(r x).length<=n)->(l.map fun a=>(r a).length).sum<=l.length*n:=fun l=>by
    induction l with
    | nil=>intro _;simp
    | cons y l ih=>
     intro hl
     have h1:=ih fun x hx=>hl x (ES _ hx)
     have h2:=hl y Em
     rw [EB,List.sum_cons,F5,Ju]
     lia
   have h3:=this (xs.take i) fun x hx=>hr x (Gp hx)
   have h4:(xs.take i).length*n<=xs.length*n:=JQ _ (by rw [GQ];exact Nat.min_le_right _ _)
   lia
  ·rw [ht,GO,<- Ey]
   simp
 ·rintro zs S2 ⟨rfl,rfl⟩
  rw [Eh,Fs]
  exact h2
def rX (n:Nat) (ix:List Nat) (va:f6) (Q:List D->List Sl->Prop):List D->List Sl->Prop:=fun ds S1=>∃Iv:Nat->List D->List Sl->Prop,Iv 0 [] S1 /\
 (∀i d ys S2,ds[i]?=some d->Iv i ys S2->va ((aV n ix S2).set 0 (.val d)) ys fun zs S6=>Iv (i+1) zs (backS n ix S2 S6))/\∀ys S2,Iv ds.length ys S2->ys.length<=1000000/\Q ys S2
theorem vJ {vi:VTN} {n:Nat} {va:f6} {Q:List D->List Sl->Prop} (h:vi S (rX n ix va Q)):jZ vi n ix va S Q:=h
theorem pz {xs:List β} {en:β->D} {r:β->List D} {n:Nat} {va:f6} {Q:List D->List Sl->Prop} (m:Nat) (hr:∀x∈xs,(r x).length<=m) (hm:xs.length*m<=1000000)
  (h:∀x∈xs,∀(zs:List D) (A:List D->List Sl->Prop),zs.length<=xs.length*m->(∀S5,backS n ix S S5=S->A (zs++r x) S5)->va ((aV n ix S).set 0 (.val (en x))) zs A) (h2:Q (xs.flatMap r) S):rX n ix va Q (xs.map en) S:=by
 have this:∀l:List β,(∀x∈l,(r x).length<=m)->(l.flatMap r).length<=l.length*m:=fun l=>by
  induction l with
  | nil=>intro _;simp
  | cons y l ih=>
   intro hl
   have h1:=ih fun x hx=>hl x (ES _ hx)
   have h2:=hl y Em
   rw [IW,E7,F5,Ju]
   lia
 refine ⟨fun j zs S'=>S'=S/\zs=(xs.take j).flatMap r,⟨rfl,by simp⟩,?_,?_⟩
 ·rintro i d zs S2 e ⟨rfl,rfl⟩
  obtain ⟨x,h1,rfl,hx,ht⟩:=aJ e
  refine h x hx _ _ ?_ fun S5 e5=>⟨e5,?_⟩
  ·have h3:=this (xs.take i) fun x hx=>hr x (Gp hx)
   have h4:(xs.take i).length*m<=xs.length*m:=JQ _ (by rw [GQ];exact Nat.min_le_right _ _)
   lia
  ·rw [ht,GO]
   simp
 ·rintro zs S2 ⟨rfl,rfl⟩
  rw [Eh,Fs]
  have h3:=this xs hr
  exact ⟨by lia,h2⟩
end
end VL
end
section
namespace VL
open PySem L2 PySem.W
section
variable {K:Ed} {X:Cx} {o ie:Expr} {to ti:TE} {vo vi:VT} {pos:Pos} {S:List Sl} {Q:VR->List Sl->Prop}
theorem dU.delems {H0 H:Hp} {S:List Sl} (h:dU K F Z σ S H v r) (k:OK K H0 Z σ H S) (e:VL.get S r=some (dc kvs)):∃a es,v=.ref a/\(∃ob,H a=some (b0 a ob es))/\es.map (·.1)=kvs.map (·.1)/\cr K H es/\Reps K (NM Z σ S) AnyF H (es.map (·.2.2)) (kvs.map (·.2)):=by
 cases r with
 | d y=>
  cases e
  obtain ⟨a,es,rfl,_,_,h1,h2,h3,_,h4⟩:=Rep.dct (show Rep K _ _ H v (.dic _ _) from h)
  exact ⟨a,es,rfl,h1,h2,h3,h4.mono (fun _ n _=>⟨n,rfl⟩) fun _ _=>trivial⟩
 | own i=>
  have h:σ[i]?=some (some v):=h
  have e:getO S[i]?=some (dc kvs):=e
  cases es:S[i]? with
  | none=>rw [es] at e;cases e
  | some s=>
   rw [es] at e
   cases s <;> first | (cases e;done) | skip
   case odi ks ds=>
    cases e
    obtain ⟨o,h1,a,es',rfl,h2,_,h3,h4⟩:=k.ownAt es
    rw [h] at h1
    cases h1
    exact ⟨a,es',rfl,h2,h3.1,dq (by rw [h3.1];exact h3.2),h4.mono (fun _ n _=>⟨n,rfl⟩) fun _ _=>trivial⟩
def x6 (vo vi:VT):VT:=fun S Q=>vo S fun r S1=>vi S1 fun rk S2=>∃kvs ms d,get S2 r=some (dc kvs)/\get S2 rk=some (kT ms)/\getA kvs ms=some d/\Q (.d d) S2
theorem vK (hK:X.K=K) (hu:X.A.units+64 < Ji) (ho:VE K X false o to vo) (hi:VE K X false ie ti vi) (hs:eG ie):VE K X false (.Subscript o ie pos) (tOp (nV K) to ti) (x6 vo vi):=
 ⟨by subst hK;exact kA (lC hu) ho.pe hi.pe hs,fun H0 Z σ H S Q C k t hc=>by
  refine ho.snd H0 Z σ H S _ _ k t fun x H1 ra S1 k1 st1 r1 t1=>?_
  refine hi.snd H0 Z σ H1 S1 _ _ k1 t1 fun y H2 rb S2 k2 st2 r2 zr1=>?_
  obtain ⟨kvs,ms,d,e1,e2,ei,q⟩:=zr1
  obtain ⟨b,vs,rfl,hq,rr⟩:=Rep.sqT (show Rep K _ _ H2 y (.tup (ms.map D.int)) from r2.get k2 e2)
  cases Reps.toInts rr
  obtain ⟨a,es,rfl,ha,ek,hk,rv⟩:=(r1.step st2).delems k2 e1
  rcases jP (k:=ms) ek rv with ⟨z1,z2⟩ | ⟨v,d',z1,z2,r⟩
  ·rw [z2] at ei;cases ei
  ·rw [z2] at ei
   cases ei
   exact ⟨b,a,ms,es,v,rfl,rfl,SqN.of hq,ha,hk,z1,hc _ H2 (.d d) S2 k2 (st1.trans st2) (show Rep K _ _ _ v d from r.mono (fun _ n _=>⟨n,rfl⟩) fun _ _=>FM.any) q⟩⟩
def x8 (vi:VT) (Q:VR->List Sl->Prop):VR->List Sl->Prop:=fun r S1=>vi S1 fun rk S2=>∃kvs ms d,get S2 r=some (dc kvs)/\get S2 rk=some (kT ms)/\getA kvs ms=some d/\Q (.d d) S2
def x9 (r:VR) (Q:VR->List Sl->Prop):VR->List Sl->Prop:=fun rk S2=>∃kvs ms d,get S2 r=some (dc kvs)/\get S2 rk=some (kT ms)/\getA kvs ms=some d/\Q (.d d) S2
theorem AN (h:vo S (x8 vi Q)):x6 vo vi S Q:=h
theorem vL (h:vi S (x9 r Q)):x8 vi Q r S:=h
theorem vM {r rk:VR} (e1:get S r=some (dc kvs)) (e2:get S rk=some (kT ms)) (e3:getA kvs ms=some d) (h:Q (.d d) S):x9 r Q rk S:=⟨kvs,ms,d,e1,e2,e3,h⟩
end
end VL
end
section
namespace L2
open PySem PySem.Spec PyProof.Rows
theorem rY:Fk "reversed"=some (.type "reversed"):=by decide +kernel
def AO (K:Ed) (a:Addr) (n:Nat):It:=
 ⟨fun i H=>i < n/\∃xs x,SqL K H a xs/\xs.length=n/\xs[n-1-i]?=some x,fun i H x H'=>H'=H/\∀xs,SqL K H a xs->xs[n-1-i]?=some x,fun i H=>i=n/\∃xs,SqL K H a xs/\xs.length=n⟩
theorem rZ {P:E2} {w:FO} {tg:Expr} (a it:Addr) (n:Nat):Turn P w K tg (AO K a n) [it] it (fun i h=>h.IsRevIter it a ((n:Int)-1-(i:Int))) where
 mem:=by simp
 obj:=fun i h st b hb=>by
  obtain rfl:b=it:=by simpa using hb
  obtain ⟨o,e,c,d⟩:=st
  exact ⟨o,e,fun v z=>by rw [d] at z;cases z⟩
 keep:=fun i h h' st k=>st.at fun o e=>k it (by simp) o e
 item:=by
  intro X hP hw hK hc i pins s σ H E I hf st hg
  subst hP hw hK
  obtain ⟨hi,xs,x,hq,hn,hx⟩:=hg
  obtain ⟨its,rv,p,hz⟩:=I.list hq
  obtain ⟨u,hu,ru⟩:=rv.get hx
  obtain ⟨f0,f1,f2,f3,f4,f5⟩:=hf it (by simp)
  have e1:(n:Int)-1-(i:Int)=((n-1-i:Nat):Int):=by lia
  have e2:((n-1-i:Nat):Int)-1=(n:Int)-1-((i+1:Nat):Int):=by lia
  have st:s.heap.IsRevIter it a ((n:Int)-1-(i:Int)):=st
  rw [e1] at st
  refine wpAny_pyNext_rev_item st p.isList (x:=u) (by simpa using hu) fun h' st' sb=>?_
  rw [e2] at st'
  have I1:Inv X pins σ H { s with heap:=h' }:=I.turned (t':=s.toks) (fun b o hb e=>(sb.2 b hb).trans e) f0 f1 f3 f4 f5
  obtain ⟨o,e,c,d⟩:=id st'
  exact ⟨u,rfl,mT (s:={ s with heap:=h' }) e c d (by decide) ⟨x,H,I1,ru,⟨rfl,fun ys hy=>by rw [I.list_inj hy hq];exact hx⟩,st',fun b hb=>(hf b hb).1⟩⟩
 done:=by
  intro X hP hw hK hc i pins s σ H E I hf st hg
  subst hP hw hK
  obtain ⟨rfl,xs,hq,hx⟩:=hg
  obtain ⟨f0,f1,f2,f3,f4,f5⟩:=hf it (by simp)
  have st:s.heap.IsRevIter it a ((i:Int)-1-(i:Int)):=st
  rw [show (i:Int)-1-(i:Int)=-1 by lia] at st
  exact wpAny_pyNext_rev_end (I.ok.hd hc) st fun h' eb=>⟨rfl,I.turned (t':=s.toks) (fun b o hb e=>eb b o hb e) f0 f1 f3 f4 f5⟩
 self:=fun _ _ _ _ _ st h=>JR st h
section
variable {X:Cx}
def Dz (K:Ed) (ta:TA):TI:=fun σ H R=>ta σ H fun vs H1=>∃l,vs=[.ref l]/\∃xs,SqL K H1 l xs/\R (AO K l xs.length) H1
theorem AQ {tg a:Expr} {ta:TA} {p pos:Pos} (hg:Gl X "reversed") (hm:X.mg "reversed"=none) (ha:PA X [a] ta) (hs:EO [a] X.env=[(false,eval a X.env)]:=by rfl):PI X tg (.Call (.Name "reversed" p) [a] [] pos) (Dz X.K ta):=by
 intro pins s σ H R I h
 refine Call_ (eS I hg hm rY (FX (thn (ha pos pins s σ H _ I h) fun us s1 zr1=>?_) hs rfl))
 obtain ⟨vs,H1,I1,r1,q1⟩:=zr1
 obtain ⟨l,e,xs,hq,q⟩:=q1
 subst e
 cases r1 with
 | cons r rr=>
  cases rr
  cases r
  obtain ⟨its,rv,pl,hz⟩:=I1.list hq
  refine call_reversed_list pl.isList ?_
  have I2:Inv X pins σ H1 { s1 with heap:=s1.heap.push (revObj l (((its.toArray).size:Int)-1)) }:=I1.kept (t':=s1.toks) fun b o e=>Eg _ e
  have en:(((its.toArray).size:Nat):Int)-1=(xs.length:Int)-1:=by rw [rv.length];simp
  have sz:(s1.heap.push (revObj l (((its.toArray).size:Int)-1))).IsRevIter s1.heap.objs.size l ((xs.length:Int)-1-((0:Nat):Int)):=by
   rw [<- en,Int.natCast_zero,Int.sub_zero]
   exact ⟨_,EG _ rfl,rfl,rfl⟩
  refine JR (s:={ s1 with heap:=s1.heap.push (revObj l (((its.toArray).size:Int)-1)) }) sz ⟨s1.heap.objs.size,[s1.heap.objs.size],_,AO X.K l xs.length,H1,rfl,I2,rZ l _ _,sz,fun b hb=>?_,q⟩
  obtain rfl:=List.mem_singleton.mp hb
  exact I1.fpOk (Ek _) (I1.hok.fresh (Ek _))
end
end L2
namespace VL
open PySem L2
section
variable {K:Ed} {X:Cx} {a tg:Expr} {tr:TA} {vr:VTA} {S:List Sl} {QN:List D->List Sl->Prop} {p pos:Pos}
def DA (vr:VTA):VTN:=fun S Q=>vr S fun rs S1=>∃ds,rs=[.d (.lst ds)]/\Q ds.reverse S1
theorem AR (hK:X.K=K) (hg:Gl X "reversed") (hm:X.mg "reversed"=none) (ha:VA K X false [a] tr vr) (hs:EO [a] X.env=[(false,eval a X.env)]:=by rfl) :
  VI K X tg (.Call (.Name "reversed" p) [a] [] pos) (Dz K tr) (DA vr):=⟨by subst hK;exact AQ hg hm ha.pe hs,fun H0 Z σ H S Q C k t hc=>
 ha.snd H0 Z σ H S _ _ k t fun vs H1 rs S1 k1 st1 rrs zq1=>by
  obtain ⟨ds,e,q⟩:=zq1
  subst e
  obtain ⟨v,rfl,rv⟩:=rrs.one
  have rv:Rep K _ _ H1 v (.lst ds):=rv
  obtain ⟨l,xs,rfl,hq,r0⟩:=rv.sqL
  refine ⟨l,rfl,xs,hq,hc _ ds.reverse H1 S1 k1 st1 (fun σ2 S2 H2 nm st2 i=>?_) q⟩
  obtain ⟨l',xs',e,hq2,r2⟩:=(rv.stp st2).sqL
  cases e
  have hl:xs.length=ds.length:=r0.length
  have hl2:xs'.length=xs.length:=by rw [r2.length,hl]
  rw [Ii]
  refine ⟨fun hi=>?_,fun x H3 hy hi=>?_,fun hi=>⟨by lia,xs',hq2,hl2⟩⟩
  ·obtain ⟨y,h1,_⟩:=r2.getD (Ei (show xs.length-1-i < ds.length by lia))
   exact ⟨by lia,xs',y,hq2,hl2,h1⟩
  ·obtain ⟨rfl,hy⟩:=hy
   obtain ⟨d,h3,h4⟩:=r2.get (hy xs' hq2)
   exact ⟨fun _ _=>rfl,d,by rw [HH hi,<- hl];exact h3,h4.mono (fun b n _=>⟨n,rfl⟩) fun _ _=>trivial⟩⟩
def DB (QN:List D->List Sl->Prop):List VR->List Sl->Prop:=fun rs S1=>∃ds,rs=[.d (.lst ds)]/\QN ds.reverse S1
theorem DC (h:vr S (DB QN)):DA vr S QN:=h
theorem AS (h:QN ds.reverse S):DB QN [.d (.lst ds)] S:=⟨ds,rfl,h⟩
end
end VL
end
section
namespace VL
open PySem L2
section
variable {K:Ed} {X:Cx} {stm:Stmt} {ts:TS} {t:VTS}
def ya (i:Nat) (t:VTS):VTS:=fun V S=>∃kvs,S[i]?=some (od kvs)/\t V (S.set i (.fre (dc kvs)))
theorem vN (i:Nat) (h:VS K X stm ts t):VS K X stm ts (ya i t):=⟨h.ps,fun H0 Z σ H S V E k zq1 l=>by
 obtain ⟨kvs,e,t⟩:=zq1
 obtain ⟨k',st⟩:=k.wk (nU e)
 have hi:i < S.length:=(List.getElem?_eq_some_iff.mp e).1
 obtain ⟨o,g1,a,es,rfl,⟨ob,g2⟩,g3,g4,g5⟩:=k.ownAt e
 have na:NM Z σ (S.set i (.val (dc kvs))) a:=fun z=>by
  rcases z with ⟨j,s,z1,z2,z3⟩ | z
  ·by_cases hj:j=i
   ·subst hj
    rw [E3 hi] at z1
    cases z1
    cases z2
   ·rw [ED (Gu hj)] at z1
    exact hj (k.inj j i a s _ z1 e z2 rfl z3 g1)
  ·exact k.nz i _ a e rfl g1 z
 have hσ:σ.set i (some (L2.V.ref a))=σ:=GI fun n=>by
  rw [Ky]
  split
  ·rename_i q
   subst q
   rw [g1,if_pos (List.getElem?_eq_some_iff.mp g1).1]
  ·rfl
 obtain ⟨k2,st2⟩:=k'.setFre (i:=i) (v:=.ref a) (d:=dc kvs) (by rw [Js];exact hi) (.dic na ⟨a,rfl,g3⟩ g2 g4.1 (Reps.flat (g4.2.step st) (dR _)) (g5.step st))
 rw [hσ,List.set_set] at k2 st2
 exact h.snd H0 Z σ H _ V E k2 t (l.step (st.trans st2))⟩
theorem AT {i:Nat} {V:bz} (e:S[i]?=some (od kvs)) (h:t V (S.set i (.fre (dc kvs)))):ya i t V S:=⟨kvs,e,h⟩
end
end VL
end
section
namespace L2
open PySem PySem.Spec PyProof.Rows
section
variable {prog:E2} {w:FO} {A:F4} {E:Ej->El->Prop} {s:El}
theorem vO (d:Addr) (n:Nat):MeetsIn prog w (Builtin.«dict.__len__» ⟨[.ref d],[]⟩) (fun _ R s=>((d==GB)=false/\∃o es ep,s.heap.get? d=some o/\o.data=.dict es ep/\es.size=n)/\R (.ok (.ret (.int n s.toks))) { s with toks:=s.toks+1 }):=
 .of_wp fun A R s ⟨⟨hd,o,es,ep,ho,hdat,hn⟩,h⟩=>by
  show Fp _ _ (dictSize d >>= _) _ _ s
  unfold dictSize
  refine Ef (Ef (Hy ho hdat (Es ?_)))
  show Fp _ _ (Builtin.Dict.pendingCount d >>= _) _ _ s
  refine Ef (wpAny_pendingCount_other hd (wpAny_ret_mkInt ?_))
  subst hn
  exact h
theorem mH {d:Addr} {n:Nat} {Q:Bool->El->Prop} (ty:s.TypeIs (.ref d) "dict") (hm:(d==GB)=false/\∃o es ep,s.heap.get? d=some o/\o.data=.dict es ep/\es.size=n) (hf:n < 2 ^ 62)
  (h:Q (n != 0) { s with toks:=s.toks+1+1 }):Fp (Ff prog w) A (Kz (.ref d)) Q E s:=by
 have go:Fp (Ff prog w) A (runValue (.builtin "len" ⟨[.ref d],[]⟩)) (fun r s'=>r=.int n (s.toks+1)/\Q (n != 0) s') E s:=by
  refine wpAny_runValue (codeAny_builtin entry_len ?_)
  rw [Around.under_plainId plain_len _]
  have body:Fp (Ff prog w) A.in1 (Builtin.«len» ⟨[.ref d],[]⟩) (fun fin s'=>∃r,fin=.done (.ret r)/\(r=.int n (s.toks+1)/\Q (n != 0) s')) E s:=by
   unfold Builtin.«len»
   refine Ef (m:=oneArg "len" _) (Es ?_)
   refine Ef (m:=callSpecial? (.ref d) (JD "__len__")) (Hq (name:=JD "__len__") ty F.slot_dict_len
    (call_meetsIn F.slot_dict_len ty F.entry_dict_len (F.args_dict_len_1 _) (vO d n) ⟨hm,?_⟩))
   show Fp _ _ _ _ _ { s with toks:=s.toks+1 }
   refine Ef (FR (Es (Ef (wpAny_letGo ?_))))
   show Fp _ _ (if ((n:Nat):Int) < 0 then _ else _) _ _ _
   rw [if_neg (by lia)]
   show Fp _ _ (if ((n:Nat):Int) >= 2 ^ 63 then _ else _) _ _ _
   rw [if_neg (by lia)]
   exact Ef (KU (Es ⟨_,rfl,rfl,h⟩))
  exact EN body (fun fin s' z=>by obtain ⟨r,rfl,q⟩:=z;exact q) fun _ _ e=>e
 have ne:((n:Int) != 0)=(n != 0):=by cases n <;> simp <;> lia
 unfold Kz
 refine Ef (wpAny_callSpecial?_none (name:="__bool__") ty noBool_dict (Ef (wpAny_specialOf (name:="__len__") ty F.slot_dict_len.lookup (Ef (EN go (fun r s' z=>?_) fun _ _ z=>z)))))
 rw [z.1]
 exact Es (ne▸z.2)
end
section
variable {X:Cx}
theorem vP {a:Expr} {ta:TE} (ha:PE X a ta) (he:∀whole,JS a X.env whole=(do let v <- whole;G6 a.pos;G7 [v] (Kz v))) :
  PT X a (fun σ H Q=>ta σ H fun x H'=>∃d ob es,x=.ref d/\H' d=some (b0 d ob es)/\Q (es.length != 0) H'):=by
 intro pins s σ H Q I h
 refine KA (thn (ha pins s σ H _ I h) fun v s1 zr1=>?_) (he _)
 obtain ⟨x,H1,I1,r1,d,ob,es,e1,e2,q1⟩:=zr1
 subst e1
 cases r1
 obtain ⟨⟨z,m,nd,xs,ev,o,ds,ep,ho,⟨hc,hr⟩,hdat,hl⟩,_⟩:=gz I1 e2
 have hn:ds.size=es.length:=by
  have h1:ds.toList.length=xs.length:=by rw [hl,Eh]
  have h2:es.length=xs.length:=ev.length
  rw [<- E6,h1,h2]
 refine mH (n:=es.length) ⟨o,ho,hc⟩ ⟨m,o,ds,ep,ho,hdat,hn⟩ (by rw [FQ] at z;lia) ⟨H1,I1.tok _,q1⟩
end
end L2
namespace VL
open PySem L2
section
variable {K:Ed} {X:Cx} {e:Expr} {te:TE} {va:VT} {S:List Sl} {QT:Bool->List Sl->Prop}
def yb (va:VT):VTT:=fun S Q=>va S fun r S1=>∃kvs,get S1 r=some (dc kvs)/\Q (kvs.length != 0) S1
theorem vQ (hK:X.K=K) (h:VE K X false e te va) (he:∀whole,JS e X.env whole=(do let v <- whole;G6 e.pos;G7 [v] (Kz v)):=by intro _;rfl):VTe K X e (fun σ H Q=>te σ H fun x H'=>∃d ob es,x=.ref d/\H' d=some (b0 d ob es)/\Q (es.length != 0) H') (yb va):=
 ⟨vP h.pe he,fun H0 Z σ H S Q C k t hc=>h.snd H0 Z σ H S _ _ k t fun v H1 r S1 k1 st1 rr ⟨kvs,e1,q⟩=>by
  obtain ⟨a,es,rfl,⟨ob,h1⟩,h2,_⟩:=rr.delems k1 e1
  refine ⟨a,ob,es,rfl,h1,?_⟩
  rw [show es.length=kvs.length by have:=congrArg Ia h2;simpa using this]
  exact hc _ H1 S1 k1 st1 q⟩
def yc (QT:Bool->List Sl->Prop):VR->List Sl->Prop:=fun r S1=>∃kvs,get S1 r=some (dc kvs)/\QT (kvs.length != 0) S1
theorem AU (h:va S (yc QT)):yb va S QT:=h
theorem vR (e:get S r=some (dc kvs)) (h:QT (kvs.length != 0) S):yc QT r S:=⟨kvs,e,h⟩
end
end VL
end
section
namespace L2
open PySem PySem.Spec PyProof.Rows PySem.W
section
variable {X:Cx}
def sd (K:Ed):List V->Hp->VK->Prop:=fun xs H Q=>∃d ob es,xs=[.ref d]/\H d=some (b0 d ob es)/\eX K H (es.map fun e=>e.2.1) (es.map (·.1))/\(∀ms∈es.map (·.1),ms≠[]) /\
 ∀(D:Addr) (ps':List Addr),H D=none->eX K H ps' (srt (es.map (·.1)))->Q (.ref D) (upd H D (.lst (ps'.map V.ref)))
theorem mI (hc:X.calm=true):b6 X (.builtin "sorted") (sd X.K):=by
 rintro pins s σ H xs us Q I rr ⟨d,ob,es,e,hd,tp,hne,q0⟩
 subst e
 obtain ⟨u,rfl,rx⟩:=vals1 rr
 cases rx
 obtain ⟨⟨z,m,nd,xs,ev,o',ds,ep,g1,g2,g3,g4⟩,g5⟩:=gz I hd
 rw [g5] at g1;cases g1
 have hds:ds.size=xs.length:=by have:=congrArg Ia g4;simpa using this
 have hxl:=GL ev
 refine He KS KG KH (KI _) (Ef (m:=K5 "sorted" 1 1 _) (Es (Ef (m:=collect (.ref d)) ?_)))
 refine PySem.W.kdu_collect (A:=X.A.in1) (lA m g2.1 g3) (I.ok.hd hc) g5 (by lia) fun h1 tk acc old hacc=>?_
 have ea:acc.toList=xs.map fun x=>ET x.2.1:=jf hacc (by simp;lia) fun i v ⟨hi,e⟩=>by
  have h1:ds.toList[i]?=some (ds[i]'hi):=by rw [FG,Ge hi]
  rw [g4,EH] at h1
  rw [EH]
  cases hx:xs[i]? with
  | none=>rw [hx] at h1;cases h1
  | some x=>
   rw [hx] at h1
   rw [e,<- ER h1]
   rfl
 have ex:∀{es:List (List Int×Addr×V)} {xs:List (List Int×Addr×Ej)},EV es xs->(xs.map fun x=>ET x.2.1)=(es.map fun e=>e.2.1).map ET:=fun ev=>by
  induction ev with
  | nil=>rfl
  | cons r _ ih=>rw [EB,EB,EB,ih,r.2.1]
 have ev':acc.toList=(es.map fun e=>e.2.1).map ET:=ea.trans (ex ev)
 rw [ev']
 generalize hps:es.map (fun e=>e.2.1)=ps at *
 generalize hms:es.map (·.1)=mss at *
 have hlen:ps.length=mss.length:=GL tp
 have pl:ps.length<=EW:=by rw [<- hps,Eh];exact z
 refine Ef (HR ?_ (hsz:=by simpa using pl))
 have z2:(h1.push (GR "list" (ps.map ET).toArray 0)).get? h1.objs.size=some (GR "list" (ps.map ET).toArray 0):=EG _ rfl
 have I1:Inv X pins σ H { s with heap:=h1,toks:=tk }:=I.kept old
 have fin:∀(out:List Addr),out.Perm ps->eX X.K H out (srt mss)->EP X pins σ Q (.ref h1.objs.size) { s with heap:=JM (h1.push (GR "list" (ps.map ET).toArray 0)) h1.objs.size (ps.map ET) (out.map ET).toArray,toks:=tk }:=fun out po tq=>by
  obtain ⟨c,hc'⟩:=gq (h:=h1) (vs:=ps.map ET) (out:=(out.map ET).toArray)
  refine ⟨.ref h1.objs.size,_,I1.laid (t':=tk) (o:=.lst (out.map V.ref)) (fun b o e=>fU (E5 (EA e)) (Eg _ e)) (Ek _) ⟨by rw [Eh,po.length_eq];exact pl,_,c,fN _,hc'⟩,rfl,q0 _ out (I1.hok.fresh (Ek _)) tq⟩
 refine Ef (FR (GS JU ⟨_,z2,rfl⟩ Jy ?_ (JV _)))
 by_cases h2:ps.length < 2
 ·refine kI z2 (by simpa using h2) ⟨_,rfl,Es ⟨_,rfl,fin ps (IF _) ?_⟩⟩
  have es:srt mss=mss:=(jC (IF _) (by
   match mss,hlen with
   | [],_=>exact IN
   | [_],_=>simp
   | _::_::_,hl=>simp at hl;lia)).symm
  rw [es];exact tp
 ·generalize hmid:Tim.bD (h1.push (GR "list" (ps.map ET).toArray 0)) h1.objs.size (ps.map ET)=mh
  have oldm:∀b o,s.heap.get? b=some o->mh.get? b=some o:=fun b o e=>by
   rw [<- hmid]
   exact Tim.nS (E5 (EA (old b o e))) (Eg _ (old b o e))
  have isT:∀p ms,SqT X.K H p (ms.map V.int)->Tim.IsT mh (.ref p) ms:=fun p ms hp=>by
   obtain ⟨its,r1,⟨o,ho,hc,n,hd⟩,_⟩:=I.tuple hp
   exact ⟨p,its,rfl,⟨o,oldm _ _ ho,hc,n,hd⟩,r1⟩
  obtain ⟨em,each⟩:=fZ (fun p=>Tim.dec mh (.ref p)) tp fun p ms hp=>(isT p ms hp).dec
  obtain ⟨fs,k1,k2,k3⟩:=gV (h:=mh) (fun a xs hx=>let ⟨its,r1,⟨o,ho,hc,n,hd⟩,_⟩:=I.tuple hx;⟨its,r1,⟨o,oldm _ _ ho,hc,n,hd⟩⟩) tp hne
  refine Tim.lz (κ:=tuples' true) (O:=lexOrd) (key:=fun x=>Tim.dec mh x.1) (P:=fun x=>∃ns,Tim.IsT mh x.1 ns) z2 (by simp;lia) (by simpa using pl) (fun Q' hq=>?_) ?_ (fun v hv=>?_) fun out pm pw=>?_
  ·rw [hmid] at hq ⊢
   refine PySem.W.kat_kind (T:=.type "int") k1 (by lia) (fun v hv=>?_) rfl ?_
   ·obtain ⟨i,t,rfl⟩:=k3 v hv
    exact JC rfl
   ·rw [show ((IJ "int") != IJ "tuple")=true by decide +kernel]
    exact hq
  ·rw [hmid];exact Tim.je
  ·obtain ⟨p,hp,rfl⟩:=List.mem_map.mp hv
   exact ⟨_,isT p _ (each p hp)⟩
  ·have pa:(out.map adr).Perm ps:=by
    have:=pm.map adr
    rw [EZ] at this
    simpa [adr,G3] using this
   have eo:out=(out.map adr).map ET:=by
    rw [EZ]
    conv=>lhs;rw [<- KW out]
    refine Fg fun v hv=>?_
    obtain ⟨p,_,rfl⟩:=List.mem_map.mp (pm.mem_iff.mp hv)
    rfl
   have es:(out.map adr).map (fun p=>Tim.dec mh (.ref p))=srt mss:=by
    refine jC ?_ ?_
    ·rw [<- em];exact pa.map _
    ·rw [GJ,GJ]
     refine Gn (fun {x y} hx hy z=>?_) pw
     obtain ⟨p,hp,rfl⟩:=List.mem_map.mp (pm.mem_iff.mp hx)
     obtain ⟨p',hp',rfl⟩:=List.mem_map.mp (pm.mem_iff.mp hy)
     have z:HT.lexLt (Tim.dec _ (.ref p')) (Tim.dec _ (.ref p))=false:=z
     show lexLe (Tim.dec mh (.ref p)) (Tim.dec mh (.ref p'))=true
     unfold lexLe
     rw [z];rfl
   have f:=fin (out.map adr) pa (by rw [<- es];exact jT _ fun p hp=>each p (pa.mem_iff.mp hp))
   rw [<- eo] at f
   exact ⟨_,rfl,Es ⟨_,rfl,f⟩⟩
end
end L2
namespace VL
open PySem L2
section
variable {K:Ed} {X:Cx} {e:Expr} {tr:TA} {vr:VTA} {S:List Sl} {QN:List D->List Sl->Prop} {p pos:Pos}
theorem pA {N:AP}:∀{vs:List Addr} {mss:List (List Int)},Reps K N F H (vs.map V.ref) (mss.map kT)->eX K H vs mss:=fun {vs mss} h=>by
 obtain ⟨ps,e,t,_⟩:=fP (show Reps K N F H (vs.map V.ref) (mss.map eT) from h)
 have:vs=ps:=by
  have:=congrArg (KN fun v=>match v with | V.ref a=>a | _=>0) e
  simpa [G3] using this
 exact this▸t
def sh (vr:VTA):VTN:=fun S Q=>vr S fun rs S1=>∃kvs:List (List Int×D),rs=[.d (dc kvs)]/\(∀ms∈kvs.map (·.1),ms≠[])/\Q ((srt (kvs.map (·.1))).map eT) S1
theorem sj (hK:X.K=K) (hc:X.calm=true) (hg:Gl X "sorted") (hm:X.mg "sorted"=none) (hb:Fk "sorted"=some (.builtin "sorted")) (ha:VA K X false [e] tr vr) (he:EO [e] X.env=[(false,eval e X.env)]:=by rfl):VN K X (.Call (.Name "sorted" p) [e] [] pos) (tCB (sd K) tr) (sh vr):=
 ⟨by subst hK;exact gT (mI hc) hg hm hb ha.pe (by decide) (by decide) he rfl,fun H0 Z σ H S Q C k t hcc=>ha.snd H0 Z σ H S _ _ k t fun vs H1 rs S1 k1 st1 rrs zq1=>by
  obtain ⟨kvs,e1,hne,q⟩:=zq1
  subst e1
  obtain ⟨v,rfl,rv⟩:=rrs.one
  have rr:Rep K _ _ H1 v (.dic (kvs.map (·.1)) (kvs.map (·.2))):=rv
  cases rr with
  | @dic a ob es _ _ n f hh ek rk r=>
  rw [<- ek] at hne q rk
  have rk':Reps K (NM Z σ S1) (FM H0 false) H1 ((es.map fun x=>x.2.1).map V.ref) ((es.map (·.1)).map kT):=by rw [EZ];exact rk
  exact ⟨a,ob,es,rfl,hh,pA rk',hne,fun l ps' hl ht'=>hcc l _ _ H1 _ S1 k1 st1 hl (aT hl) aD (bJ hl (dw k1.tupN ht')) q⟩⟩
def sm (QN:List D->List Sl->Prop):List VR->List Sl->Prop:=fun rs S1=>∃kvs:List (List Int×D),rs=[.d (dc kvs)]/\(∀ms∈kvs.map (·.1),ms≠[])/\QN ((srt (kvs.map (·.1))).map eT) S1
theorem vS (h:vr S (sm QN)):sh vr S QN:=h
theorem sr (hn:∀ms∈kvs.map (·.1),ms≠[]) (h:QN ((srt (kvs.map (·.1))).map eT) S):sm QN [.d (dc kvs)] S:=⟨kvs,rfl,hn,h⟩
end
end VL
end
local macro_rules | `(tactic| walk_at "L") => `(tactic| (intros; rename_i z; repeat' (first | (obtain ⟨e, _⟩ := z; subst e; rfl) | (obtain ⟨_, z⟩ := z))))
local macro_rules | `(tactic| walk_at "s") => `(tactic| exact ⟨rfl, rfl, rfl, by decide +kernel, rfl, by decide +kernel, by decide +kernel⟩)
theorem My.len1 {α:Type} {l:List α} (h:l.length=1):∃a0,l=[a0]:=match l,h with|[a0],_=>⟨a0,rfl⟩
local macro_rules | `(tactic| walk_at "1") => `(tactic| exact (fun _ _ _ _ _ _ us hl => by obtain ⟨_,e⟩ := My.len1 hl; subst e; exact rfl))
theorem My.len2 {α:Type} {l:List α} (h:l.length=2):∃a0 a1,l=[a0,a1]:=match l,h with|[a0,a1],_=>⟨a0,a1,rfl⟩
local macro_rules | `(tactic| walk_at "2") => `(tactic| exact (fun _ _ _ _ _ _ us hl => by obtain ⟨_,_,e⟩ := My.len2 hl; subst e; exact rfl))
theorem My.len3 {α:Type} {l:List α} (h:l.length=3):∃a0 a1 a2,l=[a0,a1,a2]:=match l,h with|[a0,a1,a2],_=>⟨a0,a1,a2,rfl⟩
local macro_rules | `(tactic| walk_at "3") => `(tactic| exact (fun _ _ _ _ _ _ us hl => by obtain ⟨_,_,_,e⟩ := My.len3 hl; subst e; exact rfl))
local macro_rules | `(tactic| walk_at "rd1") => `(tactic| first
 | with_reducible refine VL.vS ?_
 | with_reducible refine VL.u0 ?_
 | with_reducible refine VL.rP ?_
 | with_reducible refine VL.DC ?_
 | with_reducible refine VL.AS ?_
 | with_reducible refine VL.AU ?_
 | with_reducible refine VL.Dy ?_
 | with_reducible refine VL.vA ?_
 | with_reducible refine VL.vJ ?_
 | with_reducible refine VL.AL ?_
 | with_reducible refine VL.AN ?_
 | with_reducible refine VL.vL ?_
 | ((with_reducible refine' VL.kS ?h ?_);(case h=>exact rfl))
 | with_reducible refine VL.uW ?_
 | with_reducible refine VL.uO ?_
 | with_reducible refine VL.Av ?_
 | with_reducible refine VL.Aw ?_
 | ((with_reducible refine' VL.Ax ?h ?_);(case h=>exact rfl))
 | with_reducible refine VL.uR ?_
 | with_reducible refine VL.Ay ?_
 | ((with_reducible refine' VL.Ds ?h ?_);(case h=>exact rfl))
 | with_reducible refine VL.AG ?_
 | with_reducible refine VL.u9 ?_
 | with_reducible refine VL.AH ?_
 | with_reducible refine VL.vq ?_
 | with_reducible refine VL.Dv ?_
 | with_reducible refine VL.vw ?_
 | ((with_reducible refine' VL.Ao ?h ?_);(case h=>exact Ew rfl))
 | with_reducible refine VL.j_c ?_
 | with_reducible refine VL.j_2 ?_
 | with_reducible refine VL.D1 ?_
 | ((with_reducible refine' VL.D2 ?h1 ?h2 ?_);(case h1=>exact rfl);(case h2=>exact rfl))
 | with_reducible refine VL.Cd ?_
 | with_reducible refine VL.CO ?_
 | with_reducible refine VL.CP ?_
 | ((with_reducible refine' VL.Ce ?h ?_);(case h=>first | exact (by decide) | exact .inl ⟨by decide,by decide⟩ | exact .inr ⟨by decide,by decide⟩ | (show (0:Int) < _;lia) | (show (0:Int)<=_;lia) | exact ⟨by decide,by decide,by decide⟩ | exact ⟨by lia,by lia,by lia⟩ | exact ⟨by lia,by lia⟩ | exact .inl ⟨by lia,by lia⟩ | exact .inr ⟨by lia,by lia⟩))
 | with_reducible refine VL.zF ?_
 | with_reducible refine VL.um ?_
 | with_reducible refine VL.B6 ?_
 | with_reducible refine VL.B8 ?_
 | with_reducible refine VL.zw ?_
 | ((with_reducible refine' VL.DZ ?h ?_);(case h=>exact rfl);(try dsimp only [Fw,FN]))
 | with_reducible refine VL.zv ?_
 | with_reducible refine VL.Cb ?_
 | with_reducible refine VL.qC ?_
 | with_reducible refine VL.qD ?_
 | with_reducible refine VL.Ca ?_
 | ((with_reducible refine' VL.zA ?h ?_);(case h=>exact rfl))
 | with_reducible refine VL.zB ?_
 | with_reducible refine VL.uj ?_
 | with_reducible refine VL.zC ?_
 | with_reducible refine VL.zD ?_
 | ((with_reducible refine' VL.uk ?h ?_);(case h=>first | exact rfl | simp only [VL.flat,VL.flats,VL.cH,VL.eT,VL.fy,Bool.and_self]))
 | with_reducible refine VL.qF ?_
 | with_reducible refine VL.D3 ?_
 | with_reducible refine VL.Cg ?_
 | ((with_reducible refine' VL.fC ?h1 ?h2 ?h3 ?_);(case h1=>exact rfl);(case h2=>exact rfl);(case h3=>exact rfl))
 | ((with_reducible refine' VL.Ci ?h1 ?h2 ?h3 ?_);(case h1=>exact rfl);(case h2=>exact rfl);(case h3=>first | exact rfl | exact VL.at_0))
 | with_reducible refine VL.Cq ?_
 | with_reducible refine VL.zJ ?_
 | with_reducible refine VL.ur ?_
 | with_reducible refine VL.Cr ?_
 | ((with_reducible refine' VL.zK ?h1 ?h2 ?_);(case h1=>exact rfl);(case h2=>exact rfl))
 | with_reducible refine VL.Ct ?_
 | ((with_reducible refine' VL.zL ?h1 ?h2 ?_);(case h1=>exact rfl);(case h2=>exact rfl))
 | with_reducible refine VL.Cv ?_
 | with_reducible refine VL.zM ?_
 | with_reducible refine VL.D6 ?_
 | ((with_reducible refine' VL.Cw ?h ?_);(case h=>exact rfl))
 | with_reducible refine VL.zN ?_
 | with_reducible refine VL.zO ?_
 | with_reducible refine VL.D7 ?_
 | with_reducible refine VL.D8 ?_
 | with_reducible refine VL.Cz ?_
 | ((with_reducible refine' VL.zP ?h ?_);(case h=>exact rfl))
 | with_reducible refine VL.CB ?_
 | ((with_reducible refine' VL.zQ ?h1 ?h2 ?h3 ?_);(case h1=>exact rfl);(case h2=>exact rfl);(case h3=>exact rfl))
 | with_reducible refine VL.zy ?_
 | ((with_reducible refine' VL.ui ?h ?_);(case h=>exact rfl);(try dsimp only [Fw,FN]))
 | with_reducible refine VL.zz ?_
 | ((with_reducible refine' VL.jH ?h ?_);(case h=>exact rfl);(try dsimp only [Fw,FN]))
 | with_reducible refine VL.uv ?_
 | ((with_reducible refine' VL.qO ?h1 ?h2 ?_);(case h1=>exact rfl);(case h2=>exact rfl))
 | ((with_reducible refine' VL.oP ?h1 ?h2 ?h3 ?_);(case h1=>exact rfl);(case h2=>exact rfl);(case h3=>exact rfl);(try dsimp only [Fw,FN]))
 | ((with_reducible refine' VL.CD ?h ?_);(case h=>exact rfl))
 | with_reducible refine VL.CF ?_
 | ((with_reducible refine' VL.mq ?h1 ?h2 ?_);(case h1=>exact rfl);(case h2=>first | lia | (simp only [E7,F5,Il,Eh];lia) | exact Fb rfl);(try dsimp only [Fw,FN]))
 | with_reducible refine VL.CI ?_
 | with_reducible refine VL.CJ ?_
 | with_reducible refine VL.zR ?_
 | with_reducible refine VL.zS ?_
 | with_reducible refine VL.CM ?_
 | with_reducible refine VL.CN ?_
 | ((with_reducible refine' VL.qP ?h ?_);(case h=>exact ⟨by lia,by lia⟩))
 | ((with_reducible refine' VL.zT ?h ?_);(case h=>exact ⟨by lia,by lia,by lia,by lia⟩))
 | with_reducible refine VL.zU ?_
 | with_reducible refine VL.zV ?_
 | with_reducible refine VL.oQ ?_
 | with_reducible refine VL.oT ?_
 | with_reducible refine VL.qQ ?_
 | with_reducible refine VL.Cm ?_
 | with_reducible refine VL.D5 ?_
 | with_reducible refine VL.Co ?_
 | with_reducible refine VL.zG ?_
 | with_reducible refine VL.qH ?_
 | with_reducible refine VL.qI ?_
 | with_reducible refine VL.nq ?_
 | with_reducible refine VL.nt ?_
 | with_reducible refine VL.zH ?_
 | with_reducible refine VL.zI ?_
 | with_reducible refine VL.uo ?_
 | with_reducible refine VL.Cp ?_
 | with_reducible refine VL.D4 ?_
 | ((with_reducible refine' VL.Cj ?h ?_);(case h=>exact rfl))
 | ((with_reducible refine' VL.CQ ?h1 ?h2 ?_);(case h1=>(intro n z;cases z));(case h2=>first | exact L2.jA | exact L2.iP | exact L2.isiB_list_list | exact L2.isiB_tuple_tuple | exact L2.isiB_bool_bool | exact L2.isiB_f1 | exact L2.isiB_f2 | exact L2.isiB_f3 | exact L2.isiB_f4 | exact L2.isiB_f5 | exact L2.isiB_f6 | exact L2.isiB_g1 | exact L2.isiB_g2 | exact L2.isiB_g3 | exact L2.isiB_g4 | exact L2.isiB_g5 | exact L2.isiB_g6 | exact L2.isiB_h1 | exact L2.isiB_h2 | exact L2.isiB_h3 | exact L2.isiB_h4 | exact L2.isiB_h5 | exact L2.isiB_h6 | exact L2.isiB_h7))
 | with_reducible refine VL.zx ?_
 | with_reducible refine VL.uh ?_
 | ((with_reducible refine' VL.D0 ?h ?_);(case h=>exact rfl);(try simp only [EB,Fd]))
 | with_reducible refine VL.qK ?_
 | with_reducible refine VL.uu ?_
 | ((with_reducible refine' VL.C6 ?h ?_);(case h=>exact rfl))
 | with_reducible refine VL.C7 ?_
 | with_reducible refine VL.C9 ?_
 | with_reducible refine VL.Di ?_
 | with_reducible refine VL.uH ?_
 | with_reducible refine VL.Dj ?_
 | with_reducible refine VL.Dk ?_
 | with_reducible refine VL.Af ?_
 | with_reducible refine VL.Ag ?_
 | with_reducible refine VL.uE ?_
 | with_reducible refine VL.Ah ?_
 | ((with_reducible refine' VL.uF ?h ?_);(case h=>exact rfl);(try dsimp only [Fw,FN]))
 | with_reducible refine VL.Ai ?_
 | ((with_reducible refine' VL.uG ?h ?_);(case h=>exact rfl))
 | with_reducible refine VL.An ?_
 | with_reducible refine VL.Dp ?_)
local macro_rules | `(tactic| walk_at "rc1") => `(tactic| first
 | walk_at "rd1"
 | ((with_reducible refine' VL.CS ?h1 ?h2 ?h3 ?h4 ?h5 ?h6 ?_);(case h1=>exact rfl);(case h2=>exact rfl);(case h3=>exact rfl);(case h4=>exact rfl);(case h5=>exact rfl);(case h6=>exact rfl))
 | ((with_reducible refine' VL.CV ?h ?_);(case h=>exact rfl))
 | ((with_reducible refine' VL.CW ?h ?_);(case h=>exact rfl))
 | ((with_reducible refine' VL.zW ?h ?_);(case h=>exact rfl))
 | ((with_reducible refine' VL.zX ?h ?_);(case h=>exact rfl))
 | ((with_reducible refine' VL.CT ?h ?_);(case h=>exact rfl))
 | ((with_reducible refine' VL.CU ?h ?_);(case h=>exact rfl))
 | ((with_reducible refine' VL.D9 ?h ?_);(case h=>exact rfl))
 | ((with_reducible refine' VL.Ea ?h ?_);(case h=>exact rfl))
 | ((with_reducible refine' VL.CY ?h ?_);(case h=>exact rfl))
 | ((with_reducible refine' VL.CZ ?h ?_);(case h=>exact rfl)))
local macro_rules | `(tactic| walk_at "rc") => `(tactic| repeat walk_at "rc1")
local macro_rules | `(tactic| walk_at "rd") => `(tactic| repeat walk_at "rd1")
local macro_rules | `(tactic| walk_at "sl") => `(tactic| simp only [VL.slots, VL.dD, VL.eT, EB, Fd, F5, Il, EY, E8, Nat.reduceAdd, Nat.reduceSub, Iu, FH, List.replicate_zero])
namespace My
open PySem L2 VL
def top (i:Nat):Stmt:=PySem.Challenge.pw_cellships_k51_whole_none_at_all.main.body.getD i (.Pass ⟨0,0,0,0⟩)
abbrev iG:Stmt:=top 1
theorem pB:aB ["thing"] ["thing"] (ao iG):=by walk_at "s"
abbrev j3:Stmt:=top 2
theorem su:aB ["thing"] ["thing"] (ao j3):=by walk_at "s"
abbrev j4:Stmt:=top 3
theorem j5:aB ["picture","move","dx","dy"] ["picture","move"] (ao j4):=by walk_at "s"
abbrev iH:Stmt:=top 10
theorem pC:aB ["kind"] ["kind"] (ao iH):=by walk_at "s"
abbrev mJ:Stmt:=top 12
theorem gG:aB ["rule","alive","count","kind","born","stay"] ["rule","alive","count"] (ao mJ):=by walk_at "s"
abbrev gH:Stmt:=top 14
theorem dr:aB ["size","picture","wide","high","rows","x","y"] ["size","picture"] (ao gH):=by walk_at "s"
abbrev dH:Stmt:=top 15
theorem gj:aB ["rows","cells"] ["rows"] (ao dH):=by walk_at "s"
abbrev dI:Stmt:=top 16
theorem gk:aB ["rule","lines","x","count"] ["rule","lines","x"] (ao dI):=by walk_at "s"
abbrev d7:Stmt:=top 17
theorem jg:aB ["rule","nines"] ["rule"] (ao d7):=by walk_at "s"
abbrev cK:Stmt:=top 18
theorem bh:aB ["amid","above","row","wanted","free","found","column","may_live","x","one","two","lives"] ["amid","above","row","wanted","free"] (ao cK):=by walk_at "s"
abbrev df:Stmt:=top 23
theorem cL:aB ["thing","wide","high"] ["thing"] (ao df):=by walk_at "s"
abbrev f7:Stmt:=top 24
theorem mK:aB ["cell","least","size"] ["cell","least","size"] (ao f7):=by walk_at "s"
abbrev bZ:Stmt:=top 25
theorem gr:aB ["size","picture"] ["size","picture"] (ao bZ):=by walk_at "s"
abbrev j6:Stmt:=top 26
theorem sC:aB ["amid","wide","one","two","wanted"] ["amid","wide","one","two","wanted"] (ao j6):=by walk_at "s"
abbrev eM:Stmt:=top 27
theorem iI:aB ["wide","many"] ["wide"] (ao eM):=by walk_at "s"
abbrev d9:Stmt:=top 28
theorem aW:aB ["rule","size","picture","amid","ahead","found","wanted","pairs","one","two","three"] ["rule","size","picture"] (ao d9):=by walk_at "s"
abbrev f9:Stmt:=top 29
theorem cM:aB ["found","pair","rows","pairs"] ["found"] (ao f9):=by walk_at "s"
abbrev gI:Stmt:=top 30
theorem lE:aB ["rule","size","picture","found"] ["rule","size","picture"] (ao gI):=by walk_at "s"
abbrev sE:Stmt:=top 32
theorem j7:aB ["_law_script","_law_k","_law_cell"] ["_law_script","_law_k"] (ao sE):=by walk_at "s"
abbrev mL:Stmt:=top 33
theorem fH:aB ["_law_pen_here","_law_many","_law_drawn","_law_number"] ["_law_pen_here","_law_many"] (ao mL):=by walk_at "s"
abbrev j8:Stmt:=top 34
theorem j9:aB ["_law_pen_here","_law_kind","_law_way","_law_thick"] ["_law_pen_here","_law_kind"] (ao j8):=by walk_at "s"
abbrev mM:Stmt:=top 35
theorem n6:aB ["_law_pen_here","_law_kind"] ["_law_pen_here"] (ao mM):=by walk_at "s"
abbrev mO:Stmt:=top 36
theorem gJ:aB ["_law_kind","_law_steps"] ["_law_kind"] (ao mO):=by walk_at "s"
abbrev mP:Stmt:=top 37
theorem vT:aB ["_law_pen_here","_law_at"] ["_law_pen_here","_law_at"] (ao mP):=by walk_at "s"
abbrev gK:Stmt:=top 38
theorem cm:aB ["_law_code","_law_size_here","_law_world_here","_law_live","_law_cell","_law_near_here","_law_found","_law_x","_law_y","_law_count"] ["_law_code","_law_size_here","_law_world_here"] (ao gK):=by walk_at "s"
abbrev gL:Stmt:=top 39
theorem fI:aB ["_law_pen_here","_law_size_here","_law_found","_law_thick","_law_x"] ["_law_pen_here","_law_size_here"] (ao gL):=by walk_at "s"
abbrev gb:Stmt:=top 40
theorem cN:aB ["_law_pen_here","_law_size_here","_law_way","_law_found","_law_x","_law_y"] ["_law_pen_here","_law_size_here"] (ao gb):=by walk_at "s"
abbrev mQ:Stmt:=top 41
theorem n8:aB ["_law_code","_law_size_here","_law_live","_law_told"] ["_law_code","_law_size_here","_law_live"] (ao mQ):=by walk_at "s"
abbrev iJ:Stmt:=top 42
theorem cD:aB ["_law_pen_here","_law_kind","_law_size_here","_law_live","_law_way","_law_found","_law_x","_law_y","_law_cells"] ["_law_pen_here","_law_kind","_law_size_here","_law_live"] (ao iJ):=by walk_at "s"
abbrev eN:Stmt:=top 43
theorem fh:aB ["_law_size_here","_law_live","_law_less"] ["_law_size_here","_law_live"] (ao eN):=by walk_at "s"
abbrev vU:Stmt:=top 44
theorem cO:aB ["_law_script","_law_first","_law_code","_law_k","_law_pen_here","_law_size_here","_law_live","_law_word_here","_law_turn","_law_shown_here","_law_other_size","_law_other","_law_less","_law_cut"] ["_law_script"] (ao vU):=by walk_at "s"
structure Txt (mg:Str->Option Ej):Prop where
 len_:mg "len"=none
 range:mg "range"=none
 abs_:mg "abs"=none
 isinstance_:mg "isinstance"=none
 int_:mg "int"=none
 bool_:mg "bool"=none
 list_:mg "list"=none
 tuple_:mg "tuple"=none
 sorted_:mg "sorted"=none
 max_:mg "max"=none
 min_:mg "min"=none
 all_:mg "all"=none
 any_:mg "any"=none
 set_:mg "set"=none
 sum_:mg "sum"=none
 str_:mg "str"=none
 dict_:mg "dict"=none
 zip_:mg "zip"=none
 enumerate_:mg "enumerate"=none
 reversed_:mg "reversed"=none
def Pn (b:Nat) (pn:List Int):Prop:=∃x y c:Int,pn=[x,y,c]/\0<=c/\c<=b
theorem Pn.le {b b':Nat} {pn:List Int} (h:Pn b pn) (e:b<=b'):Pn b' pn:=let ⟨x,y,c,h1,h2,h3⟩:=h;⟨x,y,c,h1,h2,by lia⟩
def DD:List D->(D->Prop)->Prop:=fun ds R=>∃(ns:List Int) (k:Nat),ds=[.lst (ns.map .int),.int k]/\k<=1000/\∀x y:Int,R (.lst ([x,y,0].map .int))
def vV:List D->(D->Prop)->Prop:=fun ds R=>∃ns:List Int,ds=[.lst (ns.map .int)]/\ns.length<=63/\R (.bl true)
def gm:List Int->List D->(D->List Int->Prop)->Prop:=fun pn ds R=>∃(b:Nat) (m:Int),ds=[.int m]/\Pn b pn/\b<=1000000/\0 < m/\m < 1073741824/\∀(pn':List Int) (r:Int),Pn (b+1) pn'->0<=r->r < m->R (.int r) pn'
theorem lF {j:Nat} (h:j < ns.length):atI (ns.map D.int) (j:Int)=some (.int (ns[j])):=by
 exact jw (by simp [h])
section
variable {P:E2} {w:FO} {K:Ed} {mg:Str->Option Ej} {base:Heap}
theorem AV (S:Src K mg "_law_pen" sE) (T:Txt mg):Has P w K mg base 1 "_law_pen" ["_law_script","_law_k"] (spP K DD):=by
 refine bI S j7 (by walk_at "2") (by walk_at "L") fun f cdv A outer s H E hr=>⟨_,_,(aj (aH (i:=2) j7.nd rfl (Ew rfl) (ay bj aF (ay dO bP af (ae 1 (pv 1))) af))
  (aj (bE (aK kq aF (ae 1 (pv 1)) (br (iq (K:=K) rfl) hV (by rfl) T.len_ eW (aa (ae 0 (pv 0)) ai)) (aL _)) (aq (aH (i:=2) j7.nd rfl (Ew rfl) (aG rfl (ae 0 (pv 0)) (ae 1 (pv 1)) (fun _ _=>rfl)))) (aq (bE (aK kr aF (br (iq (K:=K) rfl) hV (by rfl) T.len_ eW (aa (ae 0 (pv 0)) ai)) af (aL _)) (aq (aH (i:=2) j7.nd rfl (Ew rfl) (ay bj aF (ay du bP (aG rfl (ae 0 (pv 0)) (ay du bP (ae 1 (pv 1)) (br (iq (K:=K) rfl) hV (by rfl) T.len_ eW (aa (ae 0 (pv 0)) ai))) (fun _ _=>rfl)) af) (ay dO bP af (ae 1 (pv 1)))))) aP)))
  (aj (bE (aK w4 aF (ae 2 (pv 2)) (ay pW bP af af) (aL _)) (aq (aI (aU (bF (aa (ay cn aF (ae 2 (pv 2)) (ay pW bP af af)) (aa (ay du bP (ae 2 (pv 2)) af) (aa af ai))))))) aP)
  (aq (aI (aU (bF (aa af (aa (ay du bP (ae 2 (pv 2)) af) (aa af ai)))))))))),?_⟩
 rintro ds R ⟨ns,k,rfl,hk,q⟩
 have fin:∀(x y:Int),R (.lst [.int x,.int y,.int 0]):=fun x y=>q x y
 walk_at "sl"
 walk_at "rd"
 rw [Eh]
 refine cq (fun h1=>?_) (fun h1=>?_)
 ·have h1':k < ns.length:=by lia
  walk_at "rd"
  refine fC rfl rfl (lF h1') ?_
  walk_at "rd"
  refine cq (fun h1=>?_) (fun h1=>?_)
  all_goals (walk_at "rd";exact fin _ _)
 ·walk_at "rd"
  rw [Eh]
  refine cq (fun h2=>?_) (fun h2=>?_)
  ·walk_at "rd"
   rw [Eh]
   have h2':0 < ns.length:=by lia
   have e:((k:Int)%(ns.length:Int))=((k%ns.length:Nat):Int):=by lia
   refine Ce (by show (0:Int) < _;lia) ?_
   dsimp only [ofV]
   rw [e]
   refine fC rfl rfl (lF (Nat.mod_lt _ h2')) ?_
   walk_at "rd"
   refine cq (fun h1=>?_) (fun h1=>?_)
   all_goals (walk_at "rd";exact fin _ _)
  ·walk_at "rd"
   refine cq (fun h1=>?_) (fun h1=>?_)
   all_goals (walk_at "rd";exact fin _ _)
theorem vW (S:Src K mg "_law_draw" mL) (T:Txt mg):Has P w K mg base 1 "_law_draw" ["_law_pen_here","_law_many"] (spI K 0 gm):=by
 refine ij 0 S fH (by walk_at "2") (by walk_at "L") fun f cdv A outer s H E hr=>⟨_,_,(aj (kO 0 (pv 0) (ay bj aF (aG rfl (ae 0 (pv 0)) af (fun _ _=>rfl)) af) af)
  (aj (bE (aK kr aF (aG rfl (ae 0 (pv 0)) af (fun _ _=>rfl)) af (aL _)) (aj (aH (i:=2) fH.nd rfl (Ew rfl) (ay du bP (aG rfl (ae 0 (pv 0)) af (fun _ _=>rfl)) (ae 1 (pv 1))))
  (aj (kO 0 (pv 0) (ay mU bP (aG rfl (ae 0 (pv 0)) af (fun _ _=>rfl)) (ae 1 (pv 1))) af)
  (aq (aI (az (ae 2 (pv 2))))))) aP)
  (aj (aH (i:=3) fH.nd rfl (Ew rfl) (ay du bP (ay bj aF (ay bj aF (aG rfl (ae 0 (pv 0)) af (fun _ _=>rfl)) (ay dO bP af (aG rfl (ae 0 (pv 0)) af (fun _ _=>rfl)))) af) af))
  (aj (aH (i:=3) fH.nd rfl (Ew rfl) (ay bj aF (ay du bP (ay dO bP (ae 3 (pv 3)) (ae 3 (pv 3))) af) (ay dO bP af (aG rfl (ae 0 (pv 0)) af (fun _ _=>rfl)))))
  (aj (aH (i:=3) fH.nd rfl (Ew rfl) (ay du bP (ay dO bP (ae 3 (pv 3)) (ae 3 (pv 3))) af))
  (aq (aI (ay du bP (ay mU bP (ae 3 (pv 3)) af) (ae 1 (pv 1)))))))))),?_⟩
 rintro a pn ds es R hl ⟨b,m,e,⟨x,y,c,rfl,hc0,hc1⟩,hb,hm0,hm1,q⟩
 obtain rfl:ds=[]:=Fv hl
 obtain rfl:es=[.int m]:=e
 walk_at "sl"
 walk_at "rd"
 refine cq (fun h1=>?_) (fun h1=>?_)
 ·walk_at "rd"
  exact ⟨_,rfl,q _ _ ⟨_,_,_,rfl,by lia,by lia⟩ (JH _ (by lia)) (Iy _ hm0)⟩
 ·walk_at "rd"
  exact ⟨_,rfl,q _ _ ⟨_,_,_,rfl,by lia,by lia⟩ (JH _ (by lia)) (Iy _ hm0)⟩
end
end My
namespace My
open PySem L2 VL
def nr (k:Int):List (List Int):=if k=4 then [[-1,0],[0,-1],[0,1],[1,0]] else if k=6 then [[-1,-1],[-1,0],[0,-1],[0,1],[1,0],[1,1]] else [[-1,-1],[-1,0],[-1,1],[0,-1],[0,1],[1,-1],[1,0],[1,1]]
def rows:List (Int×List (List Int)):=[(4,nr 4),(6,nr 6),(8,nr 8)]
def Kd (k:Int):Prop:=k=4\/k=6\/k=8
theorem sF {k:Int} (hk:Kd k):(k,nr k)∈rows:=by rcases hk with rfl | rfl | rfl <;> simp [rows]
def Pr (ms:List Int):Prop:=∃x y,ms=[x,y]
theorem lG {k:Int} (hk:Kd k) {m:List Int} (h:m∈nr k):∃x y,m=[x,y]/\-1<=x/\x<=1/\-1<=y/\y<=1:=by
 have:(nr k).all (fun m=>match m with | [x,y]=>decide (-1<=x)&&decide (x<=1)&&decide (-1<=y)&&decide (y<=1) | _=>false)=true:=by rcases hk with rfl | rfl | rfl <;> decide +kernel
 have:=List.all_eq_true.mp this m h
 match m,this with
 | [x,y],h=>simp only [Fe,decide_eq_true_eq] at h;exact ⟨x,y,rfl,h.1.1.1,h.1.1.2,h.1.2,h.2⟩
theorem DE {k:Int} (hk:Kd k) {m:List Int} (h:m∈nr k):Pr m:=let ⟨x,y,e,_⟩:=lG hk h;⟨x,y,e⟩
def rl (k:Int) (b s:List Int):D:=.tup [.int k,.tup (b.map .int),.tup (s.map .int)]
theorem sG:∀{xs g:List (List Int)},xs.Nodup->(∀x∈xs,x∈g)->xs.length<=g.length
 | [],_,_,_=>Ga _
 | x::r,g,nd,h=>by
  rw [List.nodup_cons] at nd
  have hx:=h x Em
  have:=sG (xs:=r) (g:=g.erase x) nd.2 fun y hy=>(List.mem_erase_of_ne (show y≠x from fun e=>nd.1 (by subst e;exact hy))).mpr (h y (ES _ hy))
  rw [List.length_erase_of_mem hx] at this
  have:0 < g.length:=List.length_pos_of_mem hx
  simp only [F5];lia
end My
namespace My
open PySem L2 VL
def Sp1 (m:List Int):Prop:=∃a b,m=[a,b]/\(-1<=a/\a<=1)/\(-1<=b/\b<=1)
theorem yd {k:Int} (hk:Kd k) {m:List Int} (h:m∈nr k):Sp1 m:=by
 have:(nr k).all (fun m=>match m with | [a,b]=>decide ((-1<=a/\a<=1)/\(-1<=b/\b<=1)) | _=>false)=true:=by rcases hk with rfl | rfl | rfl <;> decide +kernel
 have:=List.all_eq_true.mp this m h
 split at this
 ·rename_i a b
  exact ⟨a,b,rfl,of_decide_eq_true this⟩
 ·cases this
def bt (n:Int) (j:Int):Int:=n / 2 ^ j.toNat%2
def ln3 (a b c:Int) (dy:Int):Int:=if dy=-1 then a else if dy=0 then b else c
def bq (a b c x:Int) (m:List Int):Int:=match m with
 | [dx,dy]=>bt (ln3 a b c dy) (x+dx)
 | _=>0
def AW (k a b c x:Int):Int:=((nr k).map (bq a b c x)).sum
def sH (k:Int) (bo st:List Int) (a b c x:Int):Bool:=decide (AW k a b c x∈(if bt b x=1 then st else bo))
theorem gM {i:Int} (h:0<=i):Hd i 1=i%2:=by
 unfold Hd
 rw [decide_eq_true h]
 show ((i.toNat &&& (1:Int).toNat:Nat):Int)=_
 rw [show (1:Int).toNat=1 from rfl,Nat.and_one_is_mod]
 lia
theorem sI {n:Int} (h:0<=n) (j:Int):0<=n / 2 ^ j.toNat:=Gv h (JZ (by decide))
def DF:List D->(D->Prop)->Prop:=fun ds R=>∃k,ds=[.int k]/\Kd k/\R (eL (nr k))
def sJ:List D->(D->Prop)->Prop:=fun ds R=>∃k bo st al c,ds=[rl k bo st,.bl al,.int c]/\R (.bl (decide (c∈if al=true then st else bo)))
def ye:List D->(D->Prop)->Prop:=fun ds R=>∃k bo st a b c x,ds=[rl k bo st,.tup [.int a,.int b,.int c],.int x]/\Kd k/\0<=a/\0<=b/\0<=c/\1<=x/\R (.bl (sH k bo st a b c x))
def Th:D->Prop
 | .int _=>True
 | .bl _=>True
 | .non=>True
 | .str _=>True
 | .lst _=>True
 | .tup _=>True
 | _=>False
def isI:D->Bool
 | .int _=>true
 | _=>false
def prOk:D->Bool
 | .tup [a,b]=>isI a&&isI b
 | _=>false
def fsOk:D->Bool
 | .tup [.int w,.int h]=>decide (1<=w)&&decide (w<=3)&&(decide (1<=h)&&decide (h<=6)&&decide (w*h<=9))
 | _=>false
theorem vX (h:prOk d=true):∃a b,d=.tup [.int a,.int b]:=by
 unfold prOk at h
 split at h
 ·rename_i a b
  cases a <;> cases b <;> first | exact ⟨_,_,rfl⟩ | cases h
 ·cases h
def Th2 (d:D):Prop:=Th d/\∀es,d=.tup es->∀e∈es,Th e
def inB (l:Int) (w h:Int) (p:List Int):Bool:=match p with
 | [x,y]=>decide (l<=x)&&decide (x < w)&&(decide (l<=y)&&decide (y < h))
 | _=>false
def pWh:List D->(D->Prop)->Prop:=fun ds R=>∃d,ds=[d]/\Th d/\R (.bl (isI d))
def pPair:List D->(D->Prop)->Prop:=fun ds R=>∃d,ds=[d]/\Th2 d/\R (.bl (prOk d))
def pFs:List D->(D->Prop)->Prop:=fun ds R=>∃d,ds=[d]/\Th2 d/\R (.bl (fsOk d))
def n9:List D->(D->Prop)->Prop:=fun ds R=>∃x y l w h,ds=[eT [x,y],.int l,eT [w,h]]/\R (.bl (inB l w h [x,y]))
theorem kd {f g:Int->Int->Bool} {va vb vc:VT} {a b c:Int} {Q:VR->List Sl->Prop} (ha:∀Q',Q' (.d (.int a)) S->va S Q') (hb:∀Q',Q' (.d (.int b)) S->vb S Q') (hc:∀Q',Q' (.d (.int c)) S->vc S Q') (h:Q (.d (.bl (f a b&&g b c))) S) :
  jJ (wI0 fun i j=>V.bl (f i j)) (wI0 fun i j=>V.bl (g i j)) va vb vc S Q:=by
 unfold jJ
 refine ha _ (hb _ ⟨.int a,.int b,rfl,rfl,a,b,rfl,rfl,_,rfl,?_⟩)
 cases h1:f a b with
 | true=>
  rw [if_pos rfl]
  refine hc _ ⟨.int b,.int c,rfl,rfl,b,c,rfl,rfl,?_⟩
  rw [h1,HW] at h
  exact h
 | false=>
  rw [if_neg Er]
  rw [h1,Hc] at h
  exact h
theorem AX {w h:Int}:Th2 (eT [w,h]):=⟨trivial,fun es e x hx=>by
 cases e
 obtain ⟨n,_,rfl⟩:=List.mem_map.mp (show x∈[w,h].map D.int from hx)
 trivial⟩
def DG:List D->(D->Prop)->Prop:=fun ds R=>∃w h xs,ds=[eT [w,h],eL xs]/\fsOk (eT [w,h])=true/\(∀p∈xs,Pr p/\inB 0 w h p=true)/\xs.length<=100/\R .non
theorem DH {α:Type} {xs:List α} {f:α->Bool} (h:q (.bl (xs.all f))):C2 (fun x=>x.all id) [.lst (xs.map fun d=>D.bl (f d))] q:=
 ⟨xs.map f,by rw [EZ];rfl,by show q (.bl ((xs.map f).all id));rw [List.all_map];exact h⟩
section
variable {P:E2} {w:FO} {K:Ed} {mg:Str->Option Ej} {base:Heap}
theorem AY {a_OFFSETS:Addr} (S:Src K mg "offsets" iH) (T:Txt mg) (hD:mg "OFFSETS"=some (.ref a_OFFSETS)) (kD:okD K a_OFFSETS rows=true):Has P w K mg base 1 "offsets" ["kind"] (spP K DF):=by
 refine bI S pC (by walk_at "1") (by walk_at "L") fun f cdv A outer s H E hr=>⟨_,_,(aq (aI (aU (ng rfl (by rfl) T.list_ (aa (Aa (rows:=rows) rfl kD (gv (v:=.ref a_OFFSETS) (by rfl) hD rfl) (ae 0 (pv 0)) (fun _ _=>rfl)) ai))))),?_⟩
 rintro ds R ⟨k,rfl,hk,q⟩
 walk_at "sl"
 walk_at "rd"
 refine Ab rfl (sF hk) ?_
 walk_at "rd"
 exact qM rfl (fy _) (by walk_at "rd";exact q)
theorem sL (S:Src K mg "comes" mJ) (T:Txt mg):Has P w K mg base 1 "comes" ["rule","alive","count"] (spP K sJ):=by
 refine bI S gG (by walk_at "3") (by walk_at "L") fun f cdv A outer s H E hr=>⟨_,_,(aj (e7 (ae 0 (pv 0)) (bU (n:=3) rfl rfl (aE (aw (au (i:=3) gG.nd rfl (Ew rfl) (Ew rfl))) (aE (aw (au (i:=4) gG.nd rfl (Ew rfl) (Ew rfl))) (aE (aw (au (i:=5) gG.nd rfl (Ew rfl) (Ew rfl))) bH)))))
  (aq (aI (gZ (ml (K:=K) rfl hr.units) qB (ae 2 (pv 2)) (kL (eY (ae 1 (pv 1))) (ae 5 (pv 5)) (ae 4 (pv 4))) (by with_unfolding_all rfl))))),?_⟩
 rintro ds R ⟨k,bo,st,al,c,rfl,q⟩
 walk_at "sl"
 unfold rl
 walk_at "rd"
 cases al with
 | true=>
  walk_at "rc"
  refine jM (f:=D.int) fB ?_
  walk_at "rd"
  exact q
 | false=>
  walk_at "rc"
  refine jM (f:=D.int) fB ?_
  walk_at "rd"
  exact q
theorem vY (S:Src K mg "comes_amid" dI) (T:Txt mg) (e13_:Has P w K mg base 1 "offsets" ["kind"] (spP K DF)) (e1_:Has P w K mg base 1 "comes" ["rule","alive","count"] (spP K sJ)):Has P w K mg base 2 "comes_amid" ["rule","lines","x"] (spP K ye):=by
 refine bI S gk (by walk_at "3") (by walk_at "L") fun f cdv A outer s H E hr=>⟨_,_,(aj (aH (i:=3) gk.nd rfl (Ew rfl) (br (Dd (K:=K) rfl rfl) Df (by rfl) T.sum_ Ae (aa (aU (bW (tg:=["dx","dy"]) (cs:=["lines","x"]) (ix:=[1,2]) (aN (ao dI) ["rule","lines","x","count"] (by decide +kernel)) rfl (fM (by decide) (by decide)) (by decide) (bC rfl (bA e13_ hr (aa (aG rfl (ae 0 (pv 0)) af (fun _ _=>rfl)) ai))) (fun _ _ _ _=>(bU (n:=2) rfl rfl (aE (aw (au (i:=0) (show (["dx","dy","lines","x"]:List Str).Nodup by decide +kernel) rfl (Ew rfl) (by first | exact Ew rfl | exact FS rfl))) (aE (aw (au (i:=1) (show (["dx","dy","lines","x"]:List Str).Nodup by decide +kernel) rfl (Ew rfl) (by first | exact Ew rfl | exact FS rfl))) bH)))) (fun _ _ _ _=>bV) (fun _ _ _ _=>(ay fL aF (ay eU bP (aG rfl (ae 2 (pv 2)) (ay bj aF af (ae 1 (pv 1))) (fun _ _=>rfl)) (ay bj aF (ae 3 (pv 3)) (ae 0 (pv 0)))) af)))) ai)))
  (aq (aI (bA e1_ hr (aa (ae 0 (pv 0)) (aa (gZ b7 dM (ay fL aF (ay eU bP (aG rfl (ae 1 (pv 1)) af (fun _ _=>rfl)) (ae 2 (pv 2))) af) af (aL _)) (aa (ae 3 (pv 3)) ai))))))),?_⟩
 rintro ds R ⟨k,bo,st,a,b,c,x,rfl,hk,ha,hb,hc,hx,q⟩
 walk_at "sl"
 unfold rl
 walk_at "rd"
 refine ⟨k,rfl,hk,?_⟩
 walk_at "rd"
 have hl:(nr k).length<=8:=by rcases hk with rfl | rfl | rfl <;> decide
 refine comp_map (f:=fun m=>.int (bq a b c x m)) (by lia) (fun m hm A B hA=>?_) ?_
 ·obtain ⟨dx,dy,rfl,hx1,hy1⟩:=yd hk hm
  dsimp only [aV,Ep,EB,Fd,EY,E8]
  walk_at "rd"
  have hy2:dy=-1\/dy=0\/dy=1:=by lia
  rcases hy2 with rfl | rfl | rfl
  all_goals
   walk_at "rd"
   rw [gM (sI (by assumption) _)]
   exact hA _ rfl
 ·walk_at "rd"
  rw [show (nr k).map (fun m=>D.int (bq a b c x m))=((nr k).map (bq a b c x)).map D.int by rw [EZ];rfl]
  refine Dg ?_
  walk_at "rd"
  rw [gM (sI hb _)]
  walk_at "rd"
  refine ⟨k,bo,st,_,_,rfl,?_⟩
  walk_at "rd"
  unfold sH at q
  by_cases h1:bt b x=1
  ·rw [show decide (b / 2 ^ x.toNat%2=1)=true from decide_eq_true h1]
   rw [if_pos h1] at q
   exact q
  ·rw [show decide (b / 2 ^ x.toNat%2=1)=false from decide_eq_false h1]
   rw [if_neg h1] at q
   exact q
theorem DI (S:Src K mg "is_whole" iG) (T:Txt mg):Has P w K mg base 1 "is_whole" ["thing"] (spP K pWh):=by
 refine bI S pB (by walk_at "1") (by walk_at "L") fun f cdv A outer s H E hr=>⟨_,_,(aq (aI (eZ (br (nk (K:=K) rfl) m8 (by rfl) T.isinstance_ cf (aa (ae 0 (pv 0)) (aa (gY (gw (v:=.ty "int") (by rfl) T.int_ qb rfl) (fun _ _=>.ty _)) ai))) (jD (za (br (nk (K:=K) rfl) m8 (by rfl) T.isinstance_ cf (aa (ae 0 (pv 0)) (aa (gY (gw (v:=.ty "bool") (by rfl) T.bool_ tZ rfl) (fun _ _=>.ty _)) ai)))))))),?_⟩
 rintro ds R ⟨d,rfl,hd,q⟩
 walk_at "sl"
 cases d with
 | int n=>walk_at "rc";exact q
 | bl b=>walk_at "rc";exact q
 | non=>walk_at "rc";exact q
 | str x=>walk_at "rc";exact q
 | lst x=>walk_at "rc";exact q
 | tup x=>walk_at "rc";exact q
 | _=>cases hd
theorem vZ (S:Src K mg "is_pair" j3) (T:Txt mg) (e3_:Has P w K mg base 1 "is_whole" ["thing"] (spP K pWh)):Has P w K mg base 2 "is_pair" ["thing"] (spP K pPair):=by
 refine bI S su (by walk_at "1") (by walk_at "L") fun f cdv A outer s H E hr=>⟨_,_,(aq (aI (eZ (br (nk (K:=K) rfl) m8 (by rfl) T.isinstance_ cf (aa (ae 0 (pv 0)) (aa (gY (gw (v:=.ty "tuple") (by rfl) T.tuple_ gU rfl) (fun _ _=>.ty _)) ai))) (eZ (gZ b7 dM (br (iq (K:=K) rfl) hV (by rfl) T.len_ eW (aa (ae 0 (pv 0)) ai)) af (aL _)) (eZ (bA e3_ hr (aa (aG rfl (ae 0 (pv 0)) af (fun _ _=>rfl)) ai)) (jD (bA e3_ hr (aa (aG rfl (ae 0 (pv 0)) af (fun _ _=>rfl)) ai)))))))),?_⟩
 rintro ds R ⟨d,rfl,⟨hd,ht⟩,q⟩
 walk_at "sl"
 cases d with
 | int n=>walk_at "rc";exact q
 | bl b=>walk_at "rc";exact q
 | non=>walk_at "rc";exact q
 | str x=>walk_at "rc";exact q
 | lst x=>walk_at "rc";exact q
 | tup x=>
  match x,ht with
  | [],_=>walk_at "rc";exact q
  | [a],_=>walk_at "rc";exact q
  | [a,b],ht=>
   walk_at "rc"
   refine ⟨a,rfl,ht _ rfl a (by simp),?_⟩
   cases ha:isI a with
   | false=>walk_at "rc";simp only [prOk,ha,Hc] at q;exact q
   | true=>
    walk_at "rc"
    refine ⟨b,rfl,ht _ rfl b (by simp),?_⟩
    walk_at "rc"
    simp only [prOk,ha,HW] at q
    exact q
  | a::b::c::r,_=>
   walk_at "rc"
   exact q
 | _=>cases hd
theorem DJ (S:Src K mg "is_father_size" df) (T:Txt mg) (e26_:Has P w K mg base 2 "is_pair" ["thing"] (spP K pPair)) {t1 t2 t3:Tok} (g_MOST_COLUMNS:mg "MOST_COLUMNS"=some (.int 3 t1)) (g_MOST_ROWS:mg "MOST_ROWS"=some (.int 6 t2)) (g_MOST_CELLS:mg "MOST_CELLS"=some (.int 9 t3)):Has P w K mg base 3 "is_father_size" ["thing"] (spP K pFs):=by
 refine bI S cL (by walk_at "1") (by walk_at "L") fun f cdv A outer s H E hr=>⟨_,_,(aj (bE (g8 (eY (bA e26_ hr (aa (ae 0 (pv 0)) ai)))) (aq (aI gX)) aP)
  (aj (e7 (ae 0 (pv 0)) (bU (n:=2) rfl rfl (aE (aw (au (i:=1) cL.nd rfl (Ew rfl) (Ew rfl))) (aE (aw (au (i:=2) cL.nd rfl (Ew rfl) (Ew rfl))) bH))))
  (aq (aI (eZ (fD gR aF gR aF af (ae 1 (pv 1)) (gY (gv (v:=.int 3) (by rfl) g_MOST_COLUMNS ⟨_,rfl⟩) (fun _ _=>.int _))) (eZ (fD gR aF gR aF af (ae 2 (pv 2)) (gY (gv (v:=.int 6) (by rfl) g_MOST_ROWS ⟨_,rfl⟩) (fun _ _=>.int _))) (jD (gZ gR aF (ay dO bP (ae 1 (pv 1)) (ae 2 (pv 2))) (gY (gv (v:=.int 9) (by rfl) g_MOST_CELLS ⟨_,rfl⟩) (fun _ _=>.int _)) (aL _))))))))),?_⟩
 rintro ds R ⟨d,rfl,hd,q⟩
 walk_at "sl"
 walk_at "rd"
 refine ⟨d,rfl,hd,?_⟩
 cases hp:prOk d with
 | false=>
  walk_at "rc"
  have e:fsOk d=false:=by
   unfold fsOk
   split
   ·cases hp
   ·rfl
  rw [e] at q
  exact q
 | true=>
  obtain ⟨a,b,rfl⟩:=vX hp
  walk_at "rc"
  refine kd (fun _ q=>j_c q) (fun _ q=>kS rfl q) (fun _ q=>j_c q) ?_
  simp only [fsOk] at q
  cases h1:(decide (1<=a)&&decide (a<=3)) with
  | false=>walk_at "rc";rw [h1,Hc] at q;exact q
  | true=>
   rw [h1,HW] at q
   walk_at "rc"
   refine kd (fun _ q=>j_c q) (fun _ q=>kS rfl q) (fun _ q=>j_c q) ?_
   cases h2:(decide (1<=b)&&decide (b<=6)) with
   | false=>walk_at "rc";rw [h2,Hc] at q;exact q
   | true=>
    rw [h2,HW] at q
    simp only [Fe,decide_eq_true_eq] at h1 h2
    walk_at "rc"
    exact q
theorem pD (S:Src K mg "is_within" f7) (T:Txt mg):Has P w K mg base 1 "is_within" ["cell","least","size"] (spP K n9):=by
 refine bI S mK (by walk_at "3") (by walk_at "L") fun f cdv A outer s H E hr=>⟨_,_,(aq (aI (eZ (fD gR aF kq aF (ae 1 (pv 1)) (aG rfl (ae 0 (pv 0)) af (fun _ _=>rfl)) (aG rfl (ae 2 (pv 2)) af (fun _ _=>rfl))) (jD (fD gR aF kq aF (ae 1 (pv 1)) (aG rfl (ae 0 (pv 0)) af (fun _ _=>rfl)) (aG rfl (ae 2 (pv 2)) af (fun _ _=>rfl))))))),?_⟩
 rintro ds R ⟨x,y,l,w,h,rfl,q⟩
 walk_at "sl"
 walk_at "rd"
 refine kd (fun _ q=>kS rfl q) (fun _ q=>by walk_at "rd";exact q) (fun _ q=>by walk_at "rd";exact q) ?_
 simp only [inB] at q
 cases h1:(decide (l<=x)&&decide (x < w)) with
 | false=>walk_at "rc";rw [h1,Hc] at q;exact q
 | true=>
  rw [h1,HW] at q
  walk_at "rc"
  refine kd (fun _ q=>kS rfl q) (fun _ q=>by walk_at "rd";exact q) (fun _ q=>by walk_at "rd";exact q) ?_
  walk_at "rc"
  exact q
theorem AZ (S:Src K mg "refuse_no_child" bZ) (T:Txt mg) (e12_:Has P w K mg base 3 "is_father_size" ["thing"] (spP K pFs)) (e29_:Has P w K mg base 1 "is_within" ["cell","least","size"] (spP K n9)):Has P w K mg base 4 "refuse_no_child" ["size","picture"] (spP K DG):=by
 refine bI S gr (by walk_at "2") (by walk_at "L") fun f cdv A outer s H E hr=>⟨_,_,(aj (bE (g8 (eY (bA e12_ hr (aa (ae 0 (pv 0)) ai)))) (aq kM) aP)
  (aq (bE (g8 (eY (br (C1 (K:=K) rfl rfl) C3 (by rfl) T.all_ zu (aa (aU (bW (tg:=["cell"]) (cs:=["size"]) (ix:=[0]) (aN (ao bZ) ["size","picture"] (by decide +kernel)) rfl (bp (by decide)) (by decide) (bC rfl (ae 1 (pv 1))) (fun _ _ _ _=>(aw (au (i:=0) (show (["cell","size"]:List Str).Nodup by decide +kernel) rfl (Ew rfl) (by first | exact Ew rfl | exact FS rfl)))) (fun _ _ _ _=>bV) (fun _ _ _ _=>(bA e29_ hr (aa (ae 0 (pv 0)) (aa af (aa (ae 1 (pv 1)) ai))))))) ai)))) (aq kM) aP))),?_⟩
 rintro ds R ⟨w,h,xs,rfl,hf,hx,hl,q⟩
 walk_at "sl"
 walk_at "rd"
 refine ⟨_,rfl,AX,?_⟩
 rw [show fsOk (.tup [.int w,.int h])=true from hf]
 walk_at "rc"
 refine comp_map (xs:=xs) (en:=eT) (f:=fun p=>.bl (inB 0 w h p)) (by lia) (fun p hp A B hA=>?_) ?_
 ·dsimp only [aV,Ep,EB,Fd,EY,E8]
  obtain ⟨px,py,rfl⟩:=(hx p hp).1
  walk_at "rc"
  refine ⟨px,py,0,w,h,rfl,?_⟩
  walk_at "rc"
  exact hA _ rfl
 ·walk_at "rc"
  refine DH ?_
  rw [List.all_eq_true.mpr fun p hp=>(hx p hp).2]
  walk_at "rc"
  exact q
end
end My
namespace My
open PySem L2 VL
theorem dt {p:List Int×D} {ps:List (List Int×D)} {c:List Int}:getA (p::ps) c=if p.1=c then some p.2 else getA ps c:=by
 unfold getA
 by_cases h:p.1=c <;> simp [FT,h]
theorem jh {c m:List Int}:∀{kvs:List (List Int×D)},m∉kvs.map (·.1)->getA (kvs++[(m,d)]) c=if c=m then some d else getA kvs c
 | [],_=>by
  rw [E8,dt]
  by_cases h:c=m
  ·subst h;simp
  ·have:¬ m=c:=fun z=>h z.symm
   simp [h,this,getA]
 | p::ps,h=>by
  have h1:m≠p.1:=fun z=>h (by simp [z])
  rw [EY,dt,dt,jh (kvs:=ps) fun z=>h (by simp at z ⊢;exact .inr z)]
  by_cases e:c=m
  ·subst e;simp [Gu h1]
  ·simp [e]
theorem ji {c m:List Int}:∀{kvs:List (List Int×D)},getA (kvs.map fun x=>if x.1=m then (x.1,d) else x) c=if c=m/\m∈kvs.map (·.1) then some d else getA kvs c
 | []=>by simp [getA]
 | p::ps=>by
  rw [EB,dt,dt,ji (kvs:=ps)]
  by_cases e:p.1=m
  ·rw [if_pos e]
   by_cases h:c=m
   ·subst h;simp [e]
   ·have:¬ p.1=c:=fun z=>h (z.symm.trans e)
    simp [h,this]
  ·rw [if_neg e]
   by_cases h:p.1=c
   ·have:¬ c=m:=fun z=>e (h.trans z)
    simp [h,this]
   ·have e':¬ m=p.1:=fun z=>e z.symm
    rw [if_neg h,if_neg h]
    simp only [EB,Hn,e',false_or]
theorem lH {m c:List Int}:getA (cu kvs m d) c=if c=m then some d else getA kvs c:=by
 unfold cu
 split
 ·next h=>
  rw [ji]
  by_cases e:c=m <;> simp [e,h]
 ·next h=>exact jh h
theorem jk {α:Type} {ky:α->List Int} {f:α->D} {c:List Int}:∀(xs:List α) (kvs:List (List Int×D)),(∀x∈xs,ky x=c->f x=d)->(c∈xs.map ky\/getA kvs c=some d)->getA (xs.foldl (fun kvs x=>cu kvs (ky x) (f x)) kvs) c=some d
 | [],kvs,_,h=>by rcases h with h | h;exact (nomatch h);exact h
 | x::xs,kvs,hf,h=>by
  rw [Ib]
  refine jk xs _ (fun y hy=>hf y (ES _ hy)) ?_
  rw [lH]
  by_cases e:c=ky x
  ·rw [if_pos e]
   exact .inr (congrArg some (hf x Em e.symm))
  ·rw [if_neg e]
   rcases h with h | h
   ·rcases List.mem_cons.mp h with h | h
    ·exact (e h).elim
    ·exact .inl h
   ·exact .inr h
def am (k:Int) (bo st:List Int) (a b c:Int):Int:=if sH k bo st a b c 1=true then 1 else 0
def tri:List (List Int):=(Eo 8).flatMap fun (a:Nat)=>(Eo 8).flatMap fun (b:Nat)=>(Eo 8).map fun (c:Nat)=>[0+(a:Int),0+(b:Int),0+(c:Int)]
def am3 (k:Int) (bo st:List Int) (m:List Int):Int:=am k bo st (m.getD 0 0) (m.getD 1 0) (m.getD 2 0)
def Am (f:Int->Int->Int->Int) (kvs:List (List Int×D)):Prop:=∀a b c:Int,0<=a->a < 8->0<=b->b < 8->0<=c->c < 8->getA kvs [a,b,c]=some (.int (f a b c))
theorem wb {a b c:Int} (h1:0<=a) (h2:a < 8) (h3:0<=b) (h4:b < 8) (h5:0<=c) (h6:c < 8):[a,b,c]∈tri:=
 List.mem_flatMap.mpr ⟨a.toNat,List.mem_range.mpr (by lia),List.mem_flatMap.mpr ⟨b.toNat,List.mem_range.mpr (by lia),List.mem_map.mpr ⟨c.toNat,List.mem_range.mpr (by lia),by
  rw [show (0:Int)+(a.toNat:Int)=a by lia,show (0:Int)+(b.toNat:Int)=b by lia,show (0:Int)+(c.toNat:Int)=c by lia]⟩⟩⟩
theorem A0 {m:List Int} (h:m∈tri):∃a b c:Int,m=[a,b,c]/\0<=a/\a < 8/\0<=b/\b < 8/\0<=c/\c < 8:=by
 obtain ⟨a,ha,h⟩:=List.mem_flatMap.mp h
 obtain ⟨b,hb,h⟩:=List.mem_flatMap.mp h
 obtain ⟨c,hc,rfl⟩:=List.mem_map.mp h
 have:=List.mem_range.mp ha
 have:=List.mem_range.mp hb
 have:=List.mem_range.mp hc
 exact ⟨_,_,_,rfl,by lia,by lia,by lia,by lia,by lia,by lia⟩
def yf:List D->(D->Prop)->Prop:=fun ds R=>∃k bo st,ds=[rl k bo st]/\Kd k/\∀kvs,Am (am k bo st) kvs->R (dc kvs)
def w3 (n:Int) (x:Nat):Int:=n / 2 ^ x%8
def fa (c:Nat) (b:Bool) (xs:List Int):List Int:=if b=true then [0,2 ^ c].flatMap fun m=>xs.map fun l=>l+m else xs
def fb (f:Int->Int->Int->Int) (ab ro wa:Int) (c:Nat) (xs:List Int):List Int:=if 2<=c then xs.filter fun l=>decide (f (w3 ab (c-2)) (w3 ro (c-2)) (l / 2 ^ (c-2))=wa / 2 ^ (c-1)%2) else xs
def below (f:Int->Int->Int->Int) (ab ro wa:Int) (fr:List Bool):Nat->List Int
 | 0=>[0]
 | c+1=>fb f ab ro wa c (fa c (fr.getD c false) (below f ab ro wa fr c))
theorem two_pos (c:Nat):(0:Int) < 2 ^ c:=Int.pow_pos (by decide)
theorem DK {c:Nat} {b:Bool} {xs:List Int} (h:∀l∈xs,0<=l/\l < 2 ^ c):∀l∈fa c b xs,0<=l/\l < 2 ^ (c+1):=fun l hl=>by
 have:=two_pos c
 unfold fa at hl
 split at hl
 ·obtain ⟨m,hm,hl⟩:=List.mem_flatMap.mp hl
  obtain ⟨z,hz,rfl⟩:=List.mem_map.mp hl
  have:=h z hz
  have:m=0\/m=2 ^ c:=by simpa using hm
  rw [JI]
  rcases this with rfl | rfl <;> lia
 ·have:=h l hl
  rw [JI]
  lia
theorem sM {c:Nat} {b:Bool} {xs:List Int}:(fa c b xs).length<=2*xs.length:=by
 unfold fa
 split
 ·simp only [IW,List.flatMap_nil,E7,Eh,Il];lia
 ·lia
theorem oa {f:Int->Int->Int->Int} {ab ro wa:Int} {fr:List Bool}:∀c,(∀l∈below f ab ro wa fr c,0<=l/\l < 2 ^ c)/\(below f ab ro wa fr c).length<=2 ^ c
 | 0=>⟨fun l hl=>by rw [List.mem_singleton.mp hl];decide,Ek 1⟩
 | c+1=>by
  obtain ⟨h1,h2⟩:=oa (f:=f) (ab:=ab) (ro:=ro) (wa:=wa) (fr:=fr) c
  have h3:=sM (c:=c) (b:=fr.getD c false) (xs:=below f ab ro wa fr c)
  have h4:=DK (b:=fr.getD c false) h1
  unfold below fb
  split
  ·refine ⟨fun l hl=>h4 l (List.mem_filter.mp hl).1,Fz (FW _ _) (Fz h3 ?_)⟩
   rw [Iz];lia
  ·exact ⟨h4,Fz h3 (by rw [Iz];lia)⟩
def DL:List D->(D->Prop)->Prop:=fun ds R=>∃(f:Int->Int->Int->Int) (kvs:List (List Int×D)) (ab ro wa:Int) (fr:List Bool),ds=[dc kvs,.int ab,.int ro,.int wa,.lst (fr.map D.bl)]/\Am f kvs/\0<=ab/\0<=ro/\0<=wa/\fr.length<=8/\R (.lst ((below f ab ro wa fr fr.length).map .int))
theorem wc (i:Nat) (xs:List Int):([0,1*2 ^ ((i:Int)).toNat].flatMap fun m=>xs.map fun l=>D.int (l+m))=(fa i true xs).map D.int:=by
 unfold fa
 rw [if_pos rfl,HN,KY,FL]
 simp only [EZ]
 rfl
theorem A1 (fr:List Bool):enD (fr.map D.bl)=(Eo fr.length).map fun (i:Nat)=>D.tup [.int i,.bl (fr.getD i false)]:=by
 unfold enD
 rw [Eh]
 refine Fg fun i hi=>?_
 have:=List.mem_range.mp hi
 rw [Fc,Fc,EH,Ei this]
 rfl
theorem we {fr:List Bool} {i:Nat} (e:((Eo fr.length).map fun (i:Nat)=>D.tup [.int i,.bl (fr.getD i false)])[i]?=some d):∃x,(i < fr.length/\fr.getD i false=x)/\d=.tup [.int i,.bl x]:=by
 rw [EH] at e
 cases h:(Eo fr.length)[i]? with
 | none=>rw [h] at e;cases e
 | some j=>
  rw [h] at e
  cases e
  obtain ⟨hi,h⟩:=List.getElem?_eq_some_iff.mp h
  rw [List.getElem_range] at h
  subst h
  rw [Ez] at hi
  exact ⟨_,⟨hi,rfl⟩,rfl⟩
theorem lI {b:Bool} {t u:VTS} {W:bz} (P:List Sl->Prop) (fin:∀S',P S'->W.nx S') (h1:∀nx,(∀S',P S'->nx S')->b=true->t ⟨nx,W.rt,W.bk,W.ct⟩ S) (h2:∀nx,(∀S',P S'->nx S')->b=false->u ⟨nx,W.rt,W.bk,W.ct⟩ S):kIf t u W b S:=
 xt (fun h=>h1 W.nx fin h) fun h=>h2 W.nx fin h
theorem jl {i:Int} (h:0<=i):Hd i 7=i%8:=by
 unfold Hd
 rw [decide_eq_true h]
 show ((i.toNat &&& (7:Int).toNat:Nat):Int)=_
 rw [show (7:Int).toNat=2 ^ 3-1 from rfl,Nat.and_two_pow_sub_one_eq_mod]
 lia
section
variable {P:E2} {w:FO} {K:Ed} {mg:Str->Option Ej} {base:Heap}
theorem wg (S:Src K mg "centres" d7) (T:Txt mg) (e19_:Has P w K mg base 2 "comes_amid" ["rule","lines","x"] (spP K ye)):Has P w K mg base 3 "centres" ["rule"] (spP K yf):=by
 refine bI S jg (by walk_at "1") (by walk_at "L") fun f cdv A outer s H E hr=>⟨_,_,(aj (pq (ii:=1) (tg:=["above","row","below"]) (cs:=[]) (ix:=[]) jg.nd rfl (Ew rfl) (Ew rfl) (aN (ao d7) ["rule","nines"] (by decide +kernel)) rfl (by decide) (by decide) (aY rfl T.range (aa af ai)) (fun _ _ _ _=>(au (i:=0) (show (["above","row","below"]:List Str).Nodup by decide +kernel) rfl (Ew rfl) (by first | exact Ew rfl | exact FS rfl))) (fun _ _ _ _=>(aY rfl T.range (aa af ai))) (fun _ _ _ _=>(au (i:=1) (show (["above","row","below"]:List Str).Nodup by decide +kernel) rfl (Ew rfl) (by first | exact Ew rfl | exact FS rfl))) (fun _ _ _ _=>(aY rfl T.range (aa af ai))) (fun _ _ _ _=>(au (i:=2) (show (["above","row","below"]:List Str).Nodup by decide +kernel) rfl (Ew rfl) (by first | exact Ew rfl | exact FS rfl))) (fun _ _ _ _=>(aA (aa (az (ae 0 (pv 0))) (aa (az (ae 1 (pv 1))) (aa (az (ae 2 (pv 2))) ai))))))
  (aq (aI (uD (uL (tg:=["nine"]) (cs:=["rule"]) (ix:=[0]) rfl hr.units (aN (ao d7) ["rule","nines"] (by decide +kernel)) rfl (bp (by decide)) (by decide) (bC rfl (ae 1 (pv 1))) (fun _ _ _ _=>(aw (au (i:=0) (show (["nine","rule"]:List Str).Nodup by decide +kernel) rfl (Ew rfl) (by first | exact Ew rfl | exact FS rfl)))) (fun _ _ _ _=>bV) (fun _ _ _ _=>(ae 0 (pv 0))) (fun _ _ _ _=>(kL (eY (bA e19_ hr (aa (ae 1 (pv 1)) (aa (ae 0 (pv 0)) (aa af ai))))) af af))))))),?_⟩
 rintro ds R ⟨k,bo,st,rfl,hk,q⟩
 walk_at "sl"
 walk_at "rd"
 refine pz (xs:=Eo 8) (en:=fun (i:Nat)=>.int (0+(i:Int))) (r:=fun (a:Nat)=>(Eo 8).flatMap fun (b:Nat)=>(Eo 8).map fun (c:Nat)=>eT [0+(a:Int),0+(b:Int),0+(c:Int)]) 64 (fun a _=>by rw [J8];simp;decide) (by simp) (fun a ha zs B hz hB=>?_) ?_
 ·dsimp only [aV,Ep,EB,Fd,EY,E8,Fw]
  rw [Ez] at hz
  refine AL ?_
  walk_at "rd"
  refine n5 (xs:=Eo 8) (en:=fun (i:Nat)=>.int (0+(i:Int))) (r:=fun (b:Nat)=>(Eo 8).map fun (c:Nat)=>eT [0+(a:Int),0+(b:Int),0+(c:Int)]) (by simp) 8 (fun b _=>by simp) (fun b hb zs2 B2 hz2 hB2=>?_) (hB _ rfl)
  rw [Ez] at hz2
  refine AL ?_
  walk_at "rd"
  refine n5 (xs:=Eo 8) (en:=fun (i:Nat)=>.int (0+(i:Int))) (r:=fun (c:Nat)=>[eT [0+(a:Int),0+(b:Int),0+(c:Int)]]) (by simp) 1 (fun b _=>by simp) (fun c hc zs3 B3 hz3 hB3=>?_) ?_
  ·rw [Ez] at hz3
   refine AM (by lia) ?_
   walk_at "rd"
   exact vI (hB3 _ rfl)
  ·rw [<- List.map_eq_flatMap]
   exact hB2 _ rfl
 ·rw [show (List.flatMap (fun (a:Nat)=>List.flatMap (fun (b:Nat)=>KN (fun (c:Nat)=>eT [0+(a:Int),0+(b:Int),0+(c:Int)]) (Eo 8)) (Eo 8)) (Eo 8))=tri.map eT by unfold tri;simp only [HN,EZ];rfl]
  walk_at "rd"
  refine oW (xs:=tri) (ky:=id) (f:=fun m=>.int (am3 k bo st m)) (by rw [show tri.length=512 by decide +kernel];decide) (fun m hm A B hA=>?_) ?_
  ·obtain ⟨a,b,c,rfl,h1,h2,h3,h4,h5,h6⟩:=A0 hm
   dsimp only [aV,Ep,EB,Fd,EY,E8]
   walk_at "rd"
   refine ⟨k,bo,st,a,b,c,1,rfl,hk,h1,h3,h5,by decide,?_⟩
   walk_at "rd"
   have hA':∀z,am3 k bo st [a,b,c]=z->∀S5,backS 1 [0] _ S5=_->A [a,b,c] (.int z) S5:=fun z e S5 h=>e▸hA S5 h
   refine mn (fun e=>?_) (fun e=>?_)
   ·walk_at "rd"
    exact hA' _ (if_pos e) _ rfl
   ·walk_at "rd"
    exact hA' _ (if_neg fun z=>by rw [show sH k bo st a b c 1=true from z] at e;cases e) _ rfl
  ·walk_at "rd"
   refine q _ fun a b c h1 h2 h3 h4 h5 h6=>jk (d:=.int (am k bo st a b c)) tri [] (fun x hx e=>by rw [show x=[a,b,c] from e];rfl) (.inl ?_)
   rw [KW]
   exact wb h1 h2 h3 h4 h5 h6
theorem A3 (S:Src K mg "rows_below" cK) (T:Txt mg):Has P w K mg base 1 "rows_below" ["amid","above","row","wanted","free"] (spP K DL):=by
 refine bI S bh (fun _ _ _ _ _ _ us hl=>match us,hl with | [_,_,_,_,_],_=>rfl) (by walk_at "L") fun f cdv A outer s H E hr=>⟨_,_,(aj (jO (i:=5) bh.nd rfl (FS rfl) (aU (bF (aa af ai))))
  (aj (bR Fx rfl (nW rfl (by rfl) T.enumerate_ (aa (ae 4 (pv 4)) ai)) (bU (n:=2) rfl rfl (aE (aw (au (i:=6) bh.nd rfl (Ew rfl) (Ew rfl))) (aE (aw (au (i:=7) bh.nd rfl (Ew rfl) (Ew rfl))) bH))) (aj (bE (eY (ae 7 (pv 7))) (aq (jO (i:=5) bh.nd rfl (FS rfl) (aU (iA (tg:=["more","line"]) (cs:=["found"]) (ix:=[5]) (aN (ao cK) ["amid","above","row","wanted","free","found","column","may_live","x","one","two","lives"] (by decide +kernel)) rfl (fF (by decide) (by decide) (by decide)) (by decide) (zi rfl (aA (aa af (aa (ay js bP af (ae 6 (pv 6))) ai)))) (fun _ _ _ _=>(aw (au (i:=0) (show (["more","line","found"]:List Str).Nodup by decide +kernel) rfl (Ew rfl) (by first | exact Ew rfl | exact FS rfl)))) (fun _ _ _ _=>bV) (fun _ _ _ _=>(bC rfl (ae 2 (pv 2)))) (fun _ _ _ _=>(aw (au (i:=1) (show (["more","line","found"]:List Str).Nodup by decide +kernel) rfl (Ew rfl) (by first | exact Ew rfl | exact FS rfl)))) (fun _ _ _ _=>bV) (fun _ _ _ _=>(ay bj aF (ae 1 (pv 1)) (ae 0 (pv 0)))))))) aP)
  (aq (bE (aK w4 aF (ae 6 (pv 6)) af (aL _)) (aj (aH (i:=8) bh.nd rfl (FS rfl) (ay cn aF (ae 6 (pv 6)) af))
  (aj (e7 (aA (aa (ay fL aF (ay eU bP (ae 1 (pv 1)) (ae 8 (pv 8))) af) (aa (ay fL aF (ay eU bP (ae 2 (pv 2)) (ae 8 (pv 8))) af) (aa (ay fL aF (ay eU bP (ae 3 (pv 3)) (ay bj aF (ae 8 (pv 8)) af)) af) ai)))) (bU (n:=3) rfl rfl (aE (aw (au (i:=9) bh.nd rfl (FS rfl) (Ew rfl))) (aE (aw (au (i:=10) bh.nd rfl (FS rfl) (Ew rfl))) (aE (aw (au (i:=11) bh.nd rfl (FS rfl) (Ew rfl))) bH)))))
  (aq (jO (i:=5) bh.nd rfl (FS rfl) (aU (bW (tg:=["line"]) (cs:=["lives","amid","one","two","x"]) (ix:=[11,0,9,10,8]) (aN (ao cK) ["amid","above","row","wanted","free","found","column","may_live","x","one","two","lives"] (by decide +kernel)) rfl (bp (by decide)) (by decide) (bC rfl (ae 5 (pv 5))) (fun _ _ _ _=>(aw (au (i:=0) (show (["line","lives","amid","one","two","x"]:List Str).Nodup by decide +kernel) rfl (Ew rfl) (by first | exact Ew rfl | exact FS rfl)))) (fun _ _ _ _=>(dB (aK b7 dM (AI rfl hr.units (ae 2 (pv 2)) (aA (aa (ae 3 (pv 3)) (aa (ae 4 (pv 4)) (aa (ay eU bP (ae 0 (pv 0)) (ae 5 (pv 5))) ai)))) (fun _ _=>rfl)) (ae 1 (pv 1)) (aL _)))) (fun _ _ _ _=>(az (ae 0 (pv 0)))))))))) aP))))
  (aq (aI (nN 5 (pv 5)))))),?_⟩
 rintro ds R ⟨g,kvs,ab,ro,wa,fr,rfl,ham,ha,hr',hw,hl,q⟩
 walk_at "sl"
 walk_at "rd"
 refine jN (Fb rfl) ?_
 walk_at "rd"
 rw [A1]
 refine cX (fun i S2=>∃s6 s7 s8 s9 s10 s11,S2=[.val (dc kvs),.val (.int ab),.val (.int ro),.val (.int wa),.val (.lst (fr.map D.bl)),.fre (.lst ((below g ab ro wa fr i).map .int)),s6,s7,s8,s9,s10,s11]) ⟨_,_,_,_,_,_,rfl⟩ ?_ ?_
 ·rintro i d S2 e ⟨s6,s7,s8,s9,s10,s11,rfl⟩
  obtain ⟨x,h1,rfl⟩:=we e
  obtain ⟨hb,hbl⟩:=oa (f:=g) (ab:=ab) (ro:=ro) (wa:=wa) (fr:=fr) i
  have hi8:i < 8:=by lia
  have hle:(below g ab ro wa fr i).length<=128:=Fz hbl (show 2 ^ i<=2 ^ 7 from GA (by decide) (by lia))
  walk_at "rd"
  refine lI (fun S'=>S'=[.val (dc kvs),.val (.int ab),.val (.int ro),.val (.int wa),.val (.lst (fr.map D.bl)),.fre (.lst ((fa i x (below g ab ro wa fr i)).map .int)),.val (.int i),.val (.bl x),s8,s9,s10,s11]) ?_ ?_ ?_
  ·rintro S' rfl
   walk_at "rd"
   have hfb:=DK (b:=x) hb
   have hfl:=sM (c:=i) (b:=x) (xs:=below g ab ro wa fr i)
   refine cq (fun h2=>?_) (fun h2=>?_)
   ·have h2':2<=i:=by lia
    have e1:((i:Int)-2).toNat=i-2:=by lia
    have e2:((i:Int)-2+1).toNat=i-1:=by lia
    have p1:∀n:Nat,(0:Int)<=2 ^ n:=fun n=>KM (two_pos n)
    walk_at "rd"
    refine ck (xs:=fa i x (below g ab ro wa fr i)) (en:=D.int) (f:=D.int) (p:=fun l=>decide (g (w3 ab (i-2)) (w3 ro (i-2)) (l / 2 ^ (i-2))=wa / 2 ^ (i-1)%2)) (by lia) (fun l hm A B hA hB=>?_) ?_
    ·obtain ⟨l1,l2⟩:=hfb l hm
     have l3:l / 2 ^ (i-2) < 8:=JJ (two_pos _) (by rw [show (8:Int)=2 ^ 3 from rfl,<- Jf,show 3+(i-2)=i+1 by lia];exact l2)
     have w8:∀n x,0<=w3 n x/\w3 n x < 8:=fun n x=>⟨JH _ (by decide),Iy _ (by decide)⟩
     dsimp only [aV,Ep,EB,Fd,EY,E8]
     walk_at "rd"
     rw [jl (Gv ha (p1 _)),jl (Gv hr' (p1 _)),gM (Gv hw (p1 _)),e1,e2]
     refine vz (kvs:=kvs) (ms:=[w3 ab (i-2),w3 ro (i-2),l / 2 ^ (i-2)]) rfl rfl (ham _ _ _ (w8 _ _).1 (w8 _ _).2 (w8 _ _).1 (w8 _ _).2 (Gv l1 (p1 _)) l3) ?_
     walk_at "rd"
     refine dm (fun z=>?_) (fun z=>?_)
     ·walk_at "rd"
      exact hA _ rfl z
     ·exact hB _ rfl z
    ·walk_at "rd"
     refine jN (Fb rfl) ?_
     walk_at "rd"
     have e3:below g ab ro wa fr (i+1)=(fa i x (below g ab ro wa fr i)).filter fun l=>decide (g (w3 ab (i-2)) (w3 ro (i-2)) (l / 2 ^ (i-2))=wa / 2 ^ (i-1)%2):=by
      show fb g ab ro wa i (fa i (fr.getD i false) _)=_
      rw [h1.2];exact if_pos h2'
     rw [e3]
     exact ⟨_,_,_,_,_,_,rfl⟩
   ·walk_at "rd"
    have e3:below g ab ro wa fr (i+1)=fa i x (below g ab ro wa fr i):=by
     show fb g ab ro wa i (fa i (fr.getD i false) _)=_
     rw [h1.2];exact if_neg (by lia)
    rw [e3]
    exact ⟨_,_,_,_,_,_,rfl⟩
  ·rintro nx fin rfl
   walk_at "rd"
   refine fW (xs:=[0,1*2 ^ ((i:Int)).toNat]) (en:=D.int) (r:=fun m=>(below g ab ro wa fr i).map fun l=>D.int (l+m)) (by simp) (fun m hm ys A B hA=>?_) ?_
   ·dsimp only [aV,Ep,EB,Fd,EY,E8]
    walk_at "rd"
    refine rA (xs:=below g ab ro wa fr i) (en:=D.int) (f:=fun l=>.int (l+m)) (by lia) (fun l hm A2 B2 hA2=>?_) (hA _ rfl)
    walk_at "rd"
    exact hA2 _ rfl
   ·rw [wc]
    walk_at "rd"
    refine jN (Fb rfl) ?_
    walk_at "rd"
    exact fin _ rfl
  ·rintro nx fin rfl
   walk_at "rd"
   exact fin _ rfl
 ·rintro S2 ⟨s6,s7,s8,s9,s10,s11,rfl⟩
  walk_at "rd"
  rw [Eh,Ez]
  exact q
end
end My
namespace My
open PySem L2 VL
def fr (p:Nat->Bool) (w:Nat):List Nat:=(Eo w).filter p
theorem fJ (p:Nat->Bool) (w:Nat):fr p (w+1)=fr p w++if p w=true then [w] else []:=by
 unfold fr
 rw [G0,Gk]
 congr 1
 by_cases h:p w=true <;> simp [h]
def st (k:Int):List (List Int):=if k=4 then [[-1,0],[0,-1],[0,1],[1,0]] else if k=6 then [[-1,0],[0,-1],[0,1],[1,0],[-1,-1],[1,1]] else [[-1,0],[0,-1],[0,1],[1,0],[-1,-1],[1,1],[-1,1],[1,-1]]
theorem ke {k:Int} (hk:Kd k):(st k).Perm (nr k):=by rcases hk with rfl | rfl | rfl <;> decide +kernel
def nx2 (x y:Int) (m:List Int):List Int:=match m with
 | [dx,dy]=>[x+dx,y+dy]
 | _=>[]
def lives (k:Int) (bo sy:List Int) (ks:List (List Int)) (x y:Int):Bool:=decide ((((st k).filter fun m=>decide (nx2 x y m∈ks)).length:Int)∈(if [x,y]∈ks then sy else bo))
def yg:List D->(D->Prop)->Prop:=fun ds R=>∃k,ds=[.int k]/\Kd k/\R (eL (st k))
theorem DM {r:Int} (h0:0<=r) (h1:r < 3):∃k,Kd k/\atI [D.int 8,.int 6,.int 4] r=some (.int k):=by
 have:r=0\/r=1\/r=2:=by lia
 rcases this with rfl | rfl | rfl
 ·exact ⟨8,.inr (.inr rfl),rfl⟩
 ·exact ⟨6,.inr (.inl rfl),rfl⟩
 ·exact ⟨4,.inl rfl,rfl⟩
theorem oe (l:List Nat) (lo:Int):(l.map fun (i:Nat)=>D.int (lo+(i:Int)))=(l.map fun (i:Nat)=>lo+(i:Int)).map D.int:=by rw [EZ];rfl
theorem jm (l:List Nat) (lo:Int):flats (l.map fun (i:Nat)=>D.int (lo+(i:Int)))=true:=by
 rw [show (l.map fun (i:Nat)=>D.int (lo+(i:Int)))=(l.map fun (i:Nat)=>lo+(i:Int)).map D.int by rw [EZ];rfl]
 exact cH _
theorem gc (p:Nat->Bool) (b:Bool) (w:Nat):fr (fun x=>if x=w then b else p x) (w+1)=fr p w++if b=true then [w] else []:=by
 rw [fJ]
 congr 1
 ·unfold fr
  refine G5 fun x hx=>?_
  have:=List.mem_range.mp hx
  rw [if_neg (by lia)]
 ·rw [if_pos rfl]
section
variable {P:E2} {w:FO} {K:Ed} {mg:Str->Option Ej} {base:Heap}
theorem wj (S:Src K mg "_law_near" mO) (T:Txt mg):Has P w K mg base 1 "_law_near" ["_law_kind"] (spP K yg):=by
 refine bI S gJ (by walk_at "1") (by walk_at "L") fun f cdv A outer s H E hr=>⟨_,_,(aj (cB (fun _ h=>bQ (i:=1) gJ.nd rfl (Ew rfl) h) (bF (aa (aA (aa (dJ b8 af) (aa af ai))) (aa (aA (aa af (aa (dJ b8 af) ai))) (aa (aA (aa af (aa af ai))) (aa (aA (aa af (aa af ai))) ai))))))
  (aj (bE (aK kr aF (ae 0 (pv 0)) af (aL _)) (aq (cB (fun _ h=>bQ (i:=1) gJ.nd rfl (Ew rfl) h) (qS 1 (pv 1) (bF (aa (aA (aa (dJ b8 af) (aa (dJ b8 af) ai))) (aa (aA (aa af (aa af ai))) ai)))))) aP)
  (aj (bE (aK kr aF (ae 0 (pv 0)) af (aL _)) (aq (cB (fun _ h=>bQ (i:=1) gJ.nd rfl (Ew rfl) h) (qS 1 (pv 1) (bF (aa (aA (aa (dJ b8 af) (aa af ai))) (aa (aA (aa af (aa (dJ b8 af) ai))) ai)))))) aP)
  (aq (aI (az (ae 1 (pv 1)))))))),?_⟩
 rintro ds R ⟨k,rfl,hk,q⟩
 walk_at "sl"
 rcases hk with rfl | rfl | rfl
 all_goals
  repeat first
   | walk_at "rc1"
   | refine zZ rfl (by decide) ?_
  exact q
end
end My
namespace My
open PySem L2 VL
theorem wm {w h:Int} (hf:fsOk (eT [w,h])=true):(1<=w/\w<=3)/\1<=h/\h<=6:=by
 simp only [eT,EB,Fd,fsOk,Fe,decide_eq_true_eq] at hf
 exact ⟨hf.1,hf.2.1⟩
theorem kh (p:Nat->Bool) (n:Nat):(fr p n).length<=n:=by
 unfold fr
 have:=FW p (Eo n)
 rwa [Ez] at this
theorem lJ {k:Int} {bo sy:List Int} {ks ys:List (List Int)} (h:∀c,c∈ks↔c∈ys) (x y:Int):lives k bo sy ks x y=lives k bo sy ys x y:=by
 unfold lives
 simp only [h]
def bec (k:Int) (bo sy:List Int) (w h:Int) (ys:List (List Int)):List (List Int):=(Eo w.toNat).flatMap fun (x:Nat)=>((Eo h.toNat).filter fun (y:Nat)=>lives k bo sy ys (0+(x:Int)) (0+(y:Int))).map fun (y:Nat)=>[0+(x:Int),0+(y:Int)]
end My
namespace My
open PySem L2 VL
def numP (p:Nat->Bool) (w:Nat):Nat:=((fr p w).map fun x=>2 ^ x).sum
theorem jn (p:Nat->Bool) (w:Nat):numP p (w+1)=numP p w+if p w=true then 2 ^ w else 0:=by
 unfold numP
 rw [fJ,EJ,JK]
 congr 1
 by_cases h:p w=true <;> simp [h]
theorem gN (p:Nat->Bool):∀w,numP p w < 2 ^ w
 | 0=>by simp [numP,fr]
 | w+1=>by
  have:=gN p w
  rw [jn,Iz]
  split <;> lia
theorem iK (p:Nat->Bool):∀w j,numP p w / 2 ^ j%2=if j < w/\p j=true then 1 else 0
 | 0,j=>by simp [numP,fr]
 | w+1,j=>by
  have ih:=iK p w j
  have hlt:=gN p w
  rw [jn]
  by_cases hp:p w=true
  ·rw [if_pos hp]
   rcases IQ j w with h | h | h
   ·obtain ⟨d,rfl⟩:∃d,w=j+1+d:=⟨w-j-1,by lia⟩
    have e:2 ^ (j+1+d)=2 ^ j*(2*2 ^ d):=by rw [Nat.pow_add,Iz,Nat.mul_assoc]
    rw [e,Nat.add_mul_div_left _ _ (JL j),Nat.add_mul_mod_self_left,ih]
    have c1:j < j+1+d:=by lia
    have c2:j < j+1+d+1:=by lia
    simp [c1,c2]
   ·subst h
    rw [Nat.add_div_right _ (JL j),Nat.div_eq_of_lt hlt]
    simp [hp]
   ·have e:2 ^ w+2 ^ w<=2 ^ j:=by
     have:=GA (n:=2) (by decide) (show w+1<=j from h)
     rw [Iz] at this
     lia
    rw [Nat.div_eq_of_lt (by lia)]
    have c:¬ (j < w+1):=by lia
    simp [c]
  ·rw [if_neg hp,KL,ih]
   by_cases hj:j=w
   ·subst hj;simp [hp]
   ·have:(j < w/\p j=true)↔(j < w+1/\p j=true):=by constructor <;> (rintro ⟨a,b⟩;exact ⟨by lia,b⟩)
    simp only [this]
def fs (ms:List Int):Int:=ms.getD 0 0
def sn (ms:List Int):Int:=ms.getD 1 0
structure Bx (w h:Nat) (xs:List (List Int)):Prop where
 nd:xs.Nodup
 at_:∀c∈xs,∃x y:Nat,c=[(x:Int),(y:Int)]/\x < w/\y < h
 len:xs.length<=200
def rw' (xs:List (List Int)) (y:Nat):Nat:=((xs.filter fun c=>decide (sn c=(y:Int))).map fun c=>2 ^ (fs c).toNat).sum
theorem sN {w h:Nat} {xs:List (List Int)} (b:Bx w h xs) (y:Nat):rw' xs y=numP (fun x=>decide ([(x:Int),(y:Int)]∈xs)) w:=by
 unfold rw' numP
 rw [show (xs.filter fun c=>decide (sn c=(y:Int))).map (fun c=>2 ^ (fs c).toNat)=((xs.filter fun c=>decide (sn c=(y:Int))).map fun c=>(fs c).toNat).map fun x=>2 ^ x by rw [EZ];rfl]
 refine (List.Perm.map _ ?_).sum_nat
 refine (List.perm_ext_iff_of_nodup ?_ (List.nodup_range.filter _)).mpr fun x=>?_
 ·unfold List.Nodup
  rw [GJ]
  refine Gn (fun {c d} hc hd hcd e=>hcd ?_) (b.nd.filter _)
  obtain ⟨x1,y1,rfl,_,_⟩:=b.at_ c (List.mem_filter.mp hc).1
  obtain ⟨x2,y2,rfl,_,_⟩:=b.at_ d (List.mem_filter.mp hd).1
  have h1:=of_decide_eq_true (List.mem_filter.mp hc).2
  have h2:=of_decide_eq_true (List.mem_filter.mp hd).2
  simp only [fs,sn,J9,Ka] at e h1 h2
  have e1:x1=x2:=by lia
  have e2:y1=y2:=by lia
  rw [e1,e2]
 ·rw [IA]
  rw [Hr,List.mem_range]
  constructor
  ·rintro ⟨c,hc,e⟩
   obtain ⟨x1,y1,rfl,h1,h2⟩:=b.at_ c (List.mem_filter.mp hc).1
   have h3:=of_decide_eq_true (List.mem_filter.mp hc).2
   simp only [fs,sn,J9,Ka] at e h3
   have e1:x1=x:=by lia
   have e2:y1=y:=by lia
   subst e1 e2
   exact ⟨h1,decide_eq_true (List.mem_filter.mp hc).1⟩
  ·rintro ⟨h1,h2⟩
   refine ⟨_,List.mem_filter.mpr ⟨of_decide_eq_true h2,?_⟩,?_⟩
   ·simp [sn]
   ·simp [fs]
def eQ (xs:List (List Int)) (h:Nat):List Int:=(Eo h).map fun y=>((rw' xs y:Nat):Int)
def fj (n:Int):List Nat:=(Eo (Fi n)).filter fun x=>decide (n / 2 ^ x%2=1)
def cellsOf (ns:List Int):List (List Int):=(Eo ns.length).flatMap fun y=>(fj (ns.getD y 0)).map fun (x:Nat)=>[(x:Int),(y:Int)]
theorem og {n:Int} (h:0<=n) (x:Nat):x < Fi n↔0 < n / 2 ^ x:=by
 unfold Fi
 by_cases h0:n=0
 ·subst h0;simp
 ·have e:(n==0)=false:=by simpa using h0
  rw [e]
  obtain ⟨m,rfl⟩:∃m:Nat,n=m:=⟨n.toNat,by lia⟩
  have hm:m≠0:=by lia
  have e2:((m:Int) / 2 ^ x)=((m / 2 ^ x:Nat):Int):=by norm_cast
  rw [e2]
  simp only [Gi,if_false,Int.natAbs_natCast]
  rw [show ((0:Int) < ((m / 2 ^ x:Nat):Int))↔0 < m / 2 ^ x by lia,Nat.div_pos_iff,Nat.lt_succ_iff,Nat.le_log2 hm]
  exact ⟨fun h=>⟨JL x,h⟩,fun h=>h.2⟩
theorem iL {n:Int} (h:0<=n) {x:Nat}:x∈fj n↔n / 2 ^ x%2=1:=by
 unfold fj
 rw [Hr,List.mem_range,og h]
 constructor
 ·rintro ⟨_,z⟩;exact of_decide_eq_true z
 ·intro z
  have:=Gv h (show (0:Int)<=2 ^ x from JZ (by decide))
  refine ⟨?_,decide_eq_true z⟩
  rcases Int.lt_or_eq_of_le this with q | q
  ·exact q
  ·rw [<- q] at z;simp at z
theorem eg (hn:∀n∈ns,0<=n) {c:List Int}:c∈cellsOf ns↔∃x y:Nat,c=[(x:Int),(y:Int)]/\y < ns.length/\ns.getD y 0 / 2 ^ x%2=1:=by
 unfold cellsOf
 rw [Hh]
 have nn:∀y,0<=ns.getD y 0:=fun y=>by
  by_cases h:y < ns.length
  ·rw [Fc,Ei h];exact hn _ (HK h)
  ·rw [Fc,FV (by lia)];exact Int.le_refl _
 constructor
 ·rintro ⟨y,hy,hc⟩
  obtain ⟨x,hx,rfl⟩:=List.mem_map.mp hc
  exact ⟨x,y,rfl,List.mem_range.mp hy,(iL (nn y)).mp hx⟩
 ·rintro ⟨x,y,rfl,hy,hb⟩
  exact ⟨y,List.mem_range.mpr hy,List.mem_map.mpr ⟨x,(iL (nn y)).mpr hb,rfl⟩⟩
def oh:List D->(D->Prop)->Prop:=fun ds R=>∃(w h:Nat) (xs:List (List Int)),ds=[eT [(w:Int),(h:Int)],eL xs]/\w<=60/\h<=60/\Bx w h xs/\R (.lst ((eQ xs h).map .int))
def sO:List D->(D->Prop)->Prop:=fun ds R=>∃ns:List Int,ds=[.lst (ns.map .int)]/\ns.length<=100/\(∀n∈ns,0<=n/\n < 2 ^ 60)/\R (eL (srt (cellsOf ns)))
theorem sP (h:Nat):eQ [] h=(Eo h).map fun _=>(0:Int):=rfl
theorem pE {xs:List (List Int)} {x y h:Nat} (hy:y < h):((eQ xs h).map D.int).set y (.int (((rw' xs y:Nat):Int)+1*2 ^ x))=(eQ (xs++[[(x:Int),(y:Int)]]) h).map .int:=by
 apply GI
 intro j
 rw [Ky]
 unfold eQ
 rw [EZ,EZ,Eh,Ez,EH,EH]
 by_cases hj:j < h
 ·rw [Gb hj]
  by_cases e:y=j
  ·subst e
   rw [if_pos rfl,if_pos hy]
   have:rw' (xs++[[(x:Int),(y:Int)]]) y=rw' xs y+2 ^ x:=by
    unfold rw'
    rw [Gk,EJ,JK]
    simp [sn,fs]
   show some (D.int _)=some (D.int ((rw' (xs++[[(x:Int),(y:Int)]]) y:Nat):Int))
   rw [this]
   push_cast
   rw [KY]
  ·rw [if_neg e]
   have:rw' (xs++[[(x:Int),(y:Int)]]) j=rw' xs j:=by
    unfold rw'
    rw [Gk,EJ,JK]
    have:¬ ((y:Int)=(j:Int)):=by lia
    simp [sn,this]
   show some (D.int _)=some (D.int ((rw' (xs++[[(x:Int),(y:Int)]]) j:Nat):Int))
   rw [this]
 ·rw [FV (by rw [Ez];lia)]
  have e:¬ y=j:=by lia
  rw [if_neg e]
  rfl
theorem sQ (ns:List Int):enD (ns.map D.int)=(Eo ns.length).map fun (y:Nat)=>D.tup [.int y,.int (ns.getD y 0)]:=by
 unfold enD
 rw [Eh]
 refine Fg fun y hy=>?_
 have h:=List.mem_range.mp hy
 simp [List.getD,h]
theorem bits_le {n:Int} (h:0<=n) (h2:n < 2 ^ 60):Fi n<=60:=by
 refine Nat.le_of_not_lt fun z=>?_
 have:=(og h 60).mp z
 have e:n / 2 ^ 60=0:=Int.ediv_eq_zero_of_lt h h2
 lia
def mv (dx dy:Int) (ms:List Int):List Int:=match ms with
 | [x,y]=>[x+dx,y+dy]
 | _=>[]
def sR:List D->(D->Prop)->Prop:=fun ds R=>∃mss dx dy,ds=[eL mss,eT [dx,dy]]/\(∀p∈mss,Pr p)/\mss.length<=1000/\R (eL (mss.map (mv dx dy)))
section
variable {P:E2} {w:FO} {K:Ed} {mg:Str->Option Ej} {base:Heap}
theorem wo (S:Src K mg "rows_of" gH) (T:Txt mg):Has P w K mg base 1 "rows_of" ["size","picture"] (spP K oh):=by
 refine bI S dr (by walk_at "2") (by walk_at "L") fun f cdv A outer s H E hr=>⟨_,_,(aj (e7 (ae 0 (pv 0)) (bU (n:=2) rfl rfl (aE (aw (au (i:=2) dr.nd rfl (Ew rfl) (Ew rfl))) (aE (aw (au (i:=3) dr.nd rfl (Ew rfl) (Ew rfl))) bH))))
  (aj (qz (ii:=4) (tg:=["y"]) (cs:=[]) (ix:=[]) dr.nd rfl (Ew rfl) (Ew rfl) (aN (ao gH) ["size","picture","wide","high","rows","x","y"] (by decide +kernel)) rfl (bp (by decide)) (by decide) (aY rfl T.range (aa (ae 3 (pv 3)) ai)) (fun _ _ _ _=>(aw (au (i:=0) (show (["y"]:List Str).Nodup by decide +kernel) rfl (Ew rfl) (by first | exact Ew rfl | exact FS rfl)))) (fun _ _ _ _=>bV) (fun _ _ _ _=>af))
  (aj (bR Fx rfl (bC rfl (ae 1 (pv 1))) (bU (n:=2) rfl rfl (aE (aw (au (i:=5) dr.nd rfl (Ew rfl) (Ew rfl))) (aE (aw (au (i:=6) dr.nd rfl (Ew rfl) (Ew rfl))) bH))) (aq (vm 4 (pv 4) (ae 6 (pv 6)) (ay js bP af (ae 5 (pv 5))))))
  (aq (aI (az (ae 4 (pv 4)))))))),?_⟩
 rintro ds R ⟨w,h,xs,rfl,hw,hh,bx,q⟩
 walk_at "sl"
 walk_at "rd"
 rw [show ((h:Int)).toNat=h by lia]
 unfold rg
 refine comp_map (xs:=Eo h) (en:=fun (i:Nat)=>D.int (0+(i:Int))) (f:=fun _=>D.int 0) (by rw [Ez];lia) (fun i hi A B hA=>?_) ?_
 ·dsimp only [aV,Ep,EB,Fd,EY,E8]
  walk_at "rd"
  exact hA _ rfl
 walk_at "rd"
 have bl:=bx.len
 refine cX (fun i S=>∃v5 v6,S=[.val (eT [(w:Int),(h:Int)]),.val (eL xs),.val (.int w),.val (.int h),.own ((eQ (xs.take i) h).map .int),v5,v6]) ⟨_,_,by rw [ID,sP,EZ];rfl⟩ ?_ ?_
 ·rintro i d S2 e ⟨v5,v6,rfl⟩
  obtain ⟨c,h1,rfl,hm,ht⟩:=aJ e
  obtain ⟨x,y,rfl,hx,hy⟩:=bx.at_ c hm
  show vgT 2 _ (.tup [.int x,.int y]) _ _
  walk_at "rd"
  refine ⟨⟨_,rfl⟩,?_⟩
  show y8 6 _ _
  walk_at "rd"
  refine ⟨_,y,((rw' (xs.take i) y:Nat):Int),rfl,rfl,?_,?_⟩
  ·unfold eQ
   rw [EH,EH,Gb hy]
   rfl
  walk_at "rd"
  refine ⟨_,rfl,rfl,?_⟩
  dsimp only [Fw,FN]
  rw [ht,<- pE hy]
  exact ⟨_,_,rfl⟩
 ·rintro S2 ⟨v5,v6,rfl⟩
  rw [Eh,Fs]
  walk_at "rd"
  exact q
theorem sS (S:Src K mg "picture_of" dH) (T:Txt mg):Has P w K mg base 1 "picture_of" ["rows"] (spP K sO):=by
 refine bI S gj (by walk_at "1") (by walk_at "L") fun f cdv A outer s H E hr=>⟨_,_,(aj (oV (ii:=1) (tg:=["y","row","x"]) (cs:=[]) (ix:=[]) gj.nd rfl (Ew rfl) (Ew rfl) (aN (ao dH) ["rows","cells"] (by decide +kernel)) rfl (o4 (by decide) (by decide) (by decide) (by decide) (by decide)) (by decide) (nW rfl (by rfl) T.enumerate_ (aa (ae 0 (pv 0)) ai)) (fun _ _ _ _=>(bU (n:=2) rfl rfl (aE (aw (au (i:=0) (show (["y","row","x"]:List Str).Nodup by decide +kernel) rfl (Ew rfl) (by first | exact Ew rfl | exact FS rfl))) (aE (aw (au (i:=1) (show (["y","row","x"]:List Str).Nodup by decide +kernel) rfl (Ew rfl) (by first | exact Ew rfl | exact FS rfl))) bH)))) (fun _ _ _ _=>bV) (fun _ _ _ _=>(aY rfl T.range (aa (vp rfl (ae 1 (pv 1))) ai))) (fun _ _ _ _=>(aw (au (i:=2) (show (["y","row","x"]:List Str).Nodup by decide +kernel) rfl (Ew rfl) (by first | exact Ew rfl | exact FS rfl)))) (fun _ _ _ _=>(dB (zY rfl (ay fL aF (ay eU bP (ae 1 (pv 1)) (ae 2 (pv 2))) af)))) (fun _ _ _ _=>(aA (aa (az (ae 2 (pv 2))) (aa (az (ae 0 (pv 0))) ai)))))
  (aq (aI (aU (iE rfl rfl (by rfl) T.sorted_ eJ (aa (ae 1 (pv 1)) ai)))))),?_⟩
 rintro ds R ⟨ns,rfl,hl,hn,q⟩
 walk_at "sl"
 walk_at "rd"
 rw [sQ]
 refine fW (r:=fun (y:Nat)=>((fj (ns.getD y 0)).map fun (x:Nat)=>eT [(x:Int),(y:Int)])) (by rw [Ez];lia) (fun y hy ys A B hA=>?_) ?_
 ·have hy:=List.mem_range.mp hy
  have hm:ns.getD y 0∈ns:=by rw [Fc,Ei hy];exact HK hy
  obtain ⟨n0,n1⟩:=hn _ hm
  have bl:=bits_le n0 n1
  dsimp only [aV,Ep,EB,Fd,EY,E8]
  walk_at "rd"
  rw [show (((Fi (ns.getD y 0):Nat):Int)).toNat=Fi (ns.getD y 0) by lia]
  unfold rg
  refine o6 (xs:=Eo (Fi (ns.getD y 0))) (en:=fun (i:Nat)=>D.int (0+(i:Int))) (f:=fun (x:Nat)=>eT [(x:Int),(y:Int)]) (p:=fun x=>decide (ns.getD y 0 / 2 ^ x%2=1)) (by rw [Ez];lia) (fun x hx A' B' hA' hB'=>?_) ?_
  ·walk_at "rd"
   have ea:Hd (ns.getD y 0 / 2 ^ (0+(x:Int)).toNat) 1=ns.getD y 0 / 2 ^ x%2:=by
    rw [show (0+(x:Int)).toNat=x by lia]
    exact gM (Gv n0 (JZ (by decide)))
   rw [ea]
   by_cases hv:ns.getD y 0 / 2 ^ x%2=1
   ·rw [hv]
    refine qT (d:=.int 1) (b:=true) rfl rfl ?_
    walk_at "rc"
    rw [GK]
    exact hA' _ rfl (decide_eq_true hv)
   ·have h0:ns.getD y 0 / 2 ^ x%2=0:=by lia
    rw [h0]
    refine qT (d:=.int 0) (b:=false) rfl rfl ?_
    walk_at "rc"
    exact hB' _ rfl (decide_eq_false hv)
  ·exact hA _ rfl
 ·walk_at "rd"
  rw [show (Eo ns.length).flatMap (fun (y:Nat)=>(fj (ns.getD y 0)).map fun (x:Nat)=>eT [(x:Int),(y:Int)])=(cellsOf ns).map eT by
   unfold cellsOf;rw [HN];simp only [EZ];rfl]
  refine cJ (mss:=cellsOf ns) rfl (fun m hm=>?_) ?_
  ·obtain ⟨x,y,rfl,_⟩:=(eg fun n h=>(hn n h).1).mp hm
   simp
  walk_at "rd"
  exact q
theorem sT (S:Src K mg "moved" j4) (T:Txt mg):Has P w K mg base 1 "moved" ["picture","move"] (spP K sR):=by
 refine bI S j5 (by walk_at "2") (by walk_at "L") fun f cdv A outer s H E hr=>⟨_,_,(aj (e7 (ae 1 (pv 1)) (bU (n:=2) rfl rfl (aE (aw (au (i:=2) j5.nd rfl (FS rfl) (Ew rfl))) (aE (aw (au (i:=3) j5.nd rfl (FS rfl) (Ew rfl))) bH))))
  (aq (aI (aU (bW (tg:=["x","y"]) (cs:=["dx","dy"]) (ix:=[2,3]) (aN (ao j4) ["picture","move","dx","dy"] (by decide +kernel)) rfl (fM (by decide) (by decide)) (by decide) (bC rfl (ae 0 (pv 0))) (fun _ _ _ _=>(bU (n:=2) rfl rfl (aE (aw (au (i:=0) (show (["x","y","dx","dy"]:List Str).Nodup by decide +kernel) rfl (Ew rfl) (by first | exact Ew rfl | exact FS rfl))) (aE (aw (au (i:=1) (show (["x","y","dx","dy"]:List Str).Nodup by decide +kernel) rfl (Ew rfl) (by first | exact Ew rfl | exact FS rfl))) bH)))) (fun _ _ _ _=>bV) (fun _ _ _ _=>(aA (aa (ay bj aF (ae 0 (pv 0)) (ae 2 (pv 2))) (aa (ay bj aF (ae 1 (pv 1)) (ae 3 (pv 3))) ai))))))))),?_⟩
 rintro ds R ⟨mss,dx,dy,rfl,hp,hl,q⟩
 walk_at "sl"
 walk_at "rd"
 refine comp_map (f:=fun m=>eT (mv dx dy m)) (by lia) (fun m hm A B hA=>?_) ?_
 ·obtain ⟨x,y,rfl⟩:=hp m hm
  dsimp only [aV,Ep,EB,Fd,EY,E8]
  walk_at "rd"
  exact hA _ rfl
 ·walk_at "rd"
  rw [show mss.map (fun m=>eT (mv dx dy m))=(mss.map (mv dx dy)).map eT by rw [EZ];rfl]
  exact q
end
end My
namespace My
open PySem L2 VL
theorem A4 {m:List Int} (h:(kvs.map (·.1)).Nodup):((cu kvs m d).map (·.1)).Nodup:=by
 unfold cu
 split
 ·rw [EZ,show ((fun x:List Int×D=>x.1) ∘ fun x=>if x.1=m then (x.1,d) else x)=(·.1) from funext fun x=>by simp only [Hm];split <;> rfl]
  exact h
 ·next z=>
  rw [EJ]
  refine List.nodup_append.mpr ⟨h,by simp,fun a ha b hb e=>z ?_⟩
  obtain rfl:b=m:=by simpa using hb
  exact e▸ha
theorem A5 {z:Int} {x c:Nat} (h:x+3<=c):w3 (z+2 ^ c) x=w3 z x:=by
 obtain ⟨q,rfl⟩:∃q,c=x+(3+q):=⟨c-(x+3),by lia⟩
 unfold w3
 rw [Jf,Jf,show (2:Int) ^ 3=8 from rfl,Int.add_mul_ediv_left _ _ (Int.ne_of_gt (two_pos x)),Int.add_mul_emod_self_left]
def T3 (f:Int->Int->Int->Int) (w:Nat) (wa a b c:Int):Prop:=(0<=c/\c < 2 ^ (w+2))/\∀x < w,f (w3 a x) (w3 b x) (w3 c x)=wa / 2 ^ x%2
theorem A6 {c:Nat} {xs:List Int} {l:Int}:l∈fa c true xs↔l∈xs\/l-2 ^ c∈xs:=by
 unfold fa
 rw [if_pos rfl,Hh]
 constructor
 ·rintro ⟨m,hm,hl⟩
  obtain ⟨z,hz,rfl⟩:=List.mem_map.mp hl
  rcases List.mem_cons.mp hm with rfl | hm
  ·rw [Int.add_zero];exact .inl hz
  ·rw [List.mem_singleton.mp hm,Int.add_sub_cancel];exact .inr hz
 ·rintro (h | h)
  ·exact ⟨0,by simp,List.mem_map.mpr ⟨l,h,Int.add_zero l⟩⟩
  ·exact ⟨2 ^ c,by simp,List.mem_map.mpr ⟨_,h,Kn _ _⟩⟩
theorem gg {f:Int->Int->Int->Int} {a b wa:Int} {N:Nat}:∀c,c<=N->∀l:Int,l∈below f a b wa (Ep N true) c↔(0<=l/\l < 2 ^ c)/\∀x,x+2 < c->f (w3 a x) (w3 b x) (w3 l x)=wa / 2 ^ (x+1)%2
 | 0,_,l=>by
  show l∈[0]↔_
  rw [Gm,Int.pow_zero]
  exact ⟨fun e=>⟨by lia,fun x h=>by lia⟩,fun h=>by lia⟩
 | c+1,hc,l=>by
  have hfa:l∈fa c true (below f a b wa (Ep N true) c)↔(0<=l/\l < 2 ^ (c+1))/\∀x,x+2 < c->f (w3 a x) (w3 b x) (w3 l x)=wa / 2 ^ (x+1)%2:=by
   rw [A6,gg c (by lia),gg c (by lia)]
   have p:=two_pos c
   have e:=JI (2:Int) c
   have hw:∀x,x+2 < c->w3 (l-2 ^ c) x=w3 l x:=fun x hx=>by rw [<- A5 (z:=l-2 ^ c) (c:=c) (by lia),Kn]
   constructor
   ·rintro (⟨h1,h2⟩ | ⟨h1,h2⟩)
    ·exact ⟨by lia,h2⟩
    ·exact ⟨by lia,fun x hx=>by rw [<- hw x hx];exact h2 x hx⟩
   ·rintro ⟨h1,h2⟩
    by_cases z:l < 2 ^ c
    ·exact .inl ⟨⟨h1.1,z⟩,h2⟩
    ·exact .inr ⟨by lia,fun x hx=>by rw [hw x hx];exact h2 x hx⟩
  have e:below f a b wa (Ep N true) (c+1)=fb f a b wa c (fa c true (below f a b wa (Ep N true) c)):=by
   show fb f a b wa c (fa c ((Ep N true).getD c false) _)=_
   rw [Fc,GM,if_pos (by lia)];rfl
  rw [e]
  unfold fb
  by_cases h2:2<=c
  ·obtain ⟨y,rfl⟩:∃y,c=y+2:=⟨c-2,by lia⟩
   rw [if_pos h2,Hr,hfa,decide_eq_true_eq,show y+2-2=y by lia,show y+2-1=y+1 by lia]
   have h8:(0<=l/\l < 2 ^ (y+2+1))->l / 2 ^ y=w3 l y:=fun zq1=>by
    obtain ⟨h3,h4⟩:=zq1
    unfold w3
    refine (Int.emod_eq_of_lt (Gv h3 (KM (two_pos y))) (JJ (two_pos _) ?_)).symm
    rw [show (8:Int)=2 ^ 3 from rfl,<- Jf,show 3+y=y+2+1 by lia]
    exact h4
   constructor
   ·rintro ⟨⟨h3,h4⟩,h5⟩
    refine ⟨h3,fun x hx=>?_⟩
    by_cases hxy:x=y
    ·subst hxy;rw [<- h8 h3];exact h5
    ·exact h4 x (by lia)
   ·rintro ⟨h3,h4⟩
    exact ⟨⟨h3,fun x hx=>h4 x (by lia)⟩,by rw [h8 h3];exact h4 y (by lia)⟩
  ·rw [if_neg h2,hfa]
   exact ⟨fun zt1=>by obtain ⟨h3,h4⟩:=zt1;exact ⟨h3,fun x hx=>h4 x (by lia)⟩,fun zt1=>by obtain ⟨h3,h4⟩:=zt1;exact ⟨h3,fun x hx=>h4 x (by lia)⟩⟩
def ths (f:Int->Int->Int->Int) (w:Nat) (a b wa:Int):List Int:=below f a b (wa*2) (Ep (w+2) true) (w+2)
theorem ki {f:Int->Int->Int->Int} {w:Nat} {a b wa c:Int}:c∈ths f w a b wa↔T3 f w wa a b c:=by
 unfold ths T3
 rw [gg (w+2) (Ek _)]
 have e:∀x:Nat,wa*2 / 2 ^ (x+1)%2=wa / 2 ^ x%2:=fun x=>by
  rw [JI,Int.mul_ediv_mul_of_pos_left _ _ (by decide)]
 exact ⟨fun zt1=>by obtain ⟨h1,h2⟩:=zt1;exact ⟨h1,fun x hx=>by rw [<- e];exact h2 x (by lia)⟩,fun zt1=>by obtain ⟨h1,h2⟩:=zt1;exact ⟨h1,fun x hx=>by rw [e];exact h2 x (by lia)⟩⟩
def gu (w:Nat):List (List Int):=(Eo (2 ^ (w+2))).flatMap fun (a:Nat)=>(Eo (2 ^ (w+2))).map fun (b:Nat)=>[0+(a:Int),0+(b:Int)]
theorem eh {w:Nat} {a b:Int}:[a,b]∈gu w↔(0<=a/\a < 2 ^ (w+2))/\0<=b/\b < 2 ^ (w+2):=by
 unfold gu
 have e:(2:Int) ^ (w+2)=((2 ^ (w+2):Nat):Int):=by norm_cast
 rw [e,Hh]
 constructor
 ·rintro ⟨x,hx,h⟩
  obtain ⟨y,hy,h⟩:=List.mem_map.mp h
  injection h with h1 h
  injection h with h2 h
  have:=List.mem_range.mp hx
  have:=List.mem_range.mp hy
  lia
 ·rintro ⟨h1,h2⟩
  exact ⟨a.toNat,List.mem_range.mpr (by lia),List.mem_map.mpr ⟨b.toNat,List.mem_range.mpr (by lia),by rw [show 0+((a.toNat:Nat):Int)=a by lia,show 0+((b.toNat:Nat):Int)=b by lia]⟩⟩
theorem fK {w:Nat} {m:List Int} (h:m∈gu w):Pr m:=by
 obtain ⟨x,_,h⟩:=List.mem_flatMap.mp h
 obtain ⟨y,_,rfl⟩:=List.mem_map.mp h
 exact ⟨_,_,rfl⟩
theorem lK {w:Nat} (hw:w<=3):(gu w).length<=1024:=by
 rcases (by lia:w=0\/w=1\/w=2\/w=3) with rfl | rfl | rfl | rfl <;> decide +kernel
structure Sd (w:Nat) (ts:List (List Int)) (kvs:List (List Int×D)):Prop where
 nd:(kvs.map (·.1)).Nodup
 sub:∀m∈kvs.map (·.1),m∈gu w
 val:∀m d,getA kvs m=some d->∃a b c,[a,b,c]∈ts/\m=[b,c]/\d=eT [a,b]
 has:∀a b c,[a,b,c]∈ts->[b,c]∈kvs.map (·.1)
theorem Sd.nil {w:Nat}:Sd w [] []:=⟨JX,fun _ h=>(nomatch h),fun _ _ h=>(nomatch h),fun _ _ _ h=>(nomatch h)⟩
theorem Sd.len {w:Nat} {ts:List (List Int)} (s:Sd w ts kvs) (hw:w<=3):kvs.length<=1024:=by
 have:=sG s.nd s.sub
 rw [Eh] at this
 exact Fz this (lK hw)
theorem Sd.put {w:Nat} {ts:List (List Int)} {a b c:Int} (s:Sd w ts kvs) (h:[b,c]∈gu w):Sd w (ts++[[a,b,c]]) (cu kvs [b,c] (eT [a,b])) where
 nd:=A4 s.nd
 sub:=fun m hm=>by
  rcases iB.mp hm with rfl | hm
  ·exact h
  ·exact s.sub m hm
 val:=fun m d e=>by
  rw [lH] at e
  split at e
  ·next z=>exact ⟨a,b,c,by simp,z,by injection e with e;exact e.symm⟩
  ·obtain ⟨a',b',c',h1,h2,h3⟩:=s.val m d e
   exact ⟨a',b',c',by simp [h1],h2,h3⟩
 has:=fun a' b' c' e=>by
  rw [iB]
  rcases List.mem_append.mp e with e | e
  ·exact .inr (s.has _ _ _ e)
  ·injection List.mem_singleton.mp e with e1 e
   injection e with e2 e
   injection e with e3 e
   subst e1 e2 e3
   exact .inl rfl
def thr (f:Int->Int->Int->Int) (w:Nat) (wa:Int) (ah:List (List Int)):List (List Int):=ah.flatMap fun p=>(ths f w (p.getD 0 0) (p.getD 1 0) wa).map fun c=>p++[c]
def ahd (w:Nat) (kv:Nat->List (List Int×D)):Nat->List (List Int)
 | 0=>gu w
 | i+1=>(kv i).map (·.1)
def Chn (f:Int->Int->Int->Int) (w h:Nat) (W:Nat->Int) (kv:Nat->List (List Int×D)):Prop:=∀i < h,Sd w (thr f w (W i) (ahd w kv i)) (kv i)
theorem oi {f:Int->Int->Int->Int} {w:Nat} {wa:Int} {ah:List (List Int)} {a b c:Int} (hp:∀p∈ah,Pr p):[a,b,c]∈thr f w wa ah↔[a,b]∈ah/\T3 f w wa a b c:=by
 unfold thr
 rw [Hh]
 constructor
 ·rintro ⟨p,h1,h2⟩
  obtain ⟨x,y,rfl⟩:=hp p h1
  obtain ⟨z,h3,h4⟩:=List.mem_map.mp h2
  injection h4 with e1 h4
  injection h4 with e2 h4
  injection h4 with e3 h4
  subst e1 e2 e3
  exact ⟨h1,ki.mp h3⟩
 ·rintro ⟨h1,h2⟩
  exact ⟨_,h1,List.mem_map.mpr ⟨c,ki.mpr h2,rfl⟩⟩
section
variable {f:Int->Int->Int->Int} {w h:Nat} {W:Nat->Int} {kv:Nat->List (List Int×D)}
theorem gO (C:Chn f w h W kv):∀i≤h,∀p∈ahd w kv i,p∈gu w
 | 0,_,_,hp=>hp
 | i+1,hi,p,hp=>(C i (by lia)).sub p hp
theorem om (C:Chn f w h W kv) (g:Nat->Int) (hg:∀y,0<=g y/\g y < 2 ^ (w+2)) (ht:∀i < h,T3 f w (W i) (g i) (g (i+1)) (g (i+2))):∀i≤h,[g i,g (i+1)]∈ahd w kv i
 | 0,_=>eh.mpr ⟨hg 0,hg 1⟩
 | i+1,hi=>(C i (by lia)).has _ _ _ ((oi fun p hp=>fK (gO C i (by lia) p hp)).mpr ⟨om C g hg ht i (by lia),ht i (by lia)⟩)
theorem wq (C:Chn f w h W kv) {i:Nat} (hi:i < h) {b c:Int} (hm:[b,c]∈(kv i).map (·.1)):∃a,getA (kv i) [b,c]=some (eT [a,b])/\[a,b]∈ahd w kv i/\T3 f w (W i) a b c:=by
 obtain ⟨p,hp,e⟩:=List.mem_map.mp hm
 have:∃d,getA (kv i) [b,c]=some d:=by
  unfold getA
  cases hf:(kv i).find? fun x=>decide (x.1=[b,c]) with
  | none=>exact absurd (decide_eq_true e) (by simpa using List.find?_eq_none.mp hf p hp)
  | some q=>exact ⟨_,rfl⟩
 obtain ⟨d,hd⟩:=this
 obtain ⟨a,b',c',h1,h2,rfl⟩:=(C i hi).val _ _ hd
 injection h2 with e1 h2
 injection h2 with e2 h2
 subst e1 e2
 obtain ⟨h3,h4⟩:=(oi fun p hp=>fK (gO C i (by lia) p hp)).mp h1
 exact ⟨a,hd,h3,h4⟩
end
end My
namespace My
open PySem L2 VL
theorem sU (w:Nat):(Ep w [D.bl true]).flatten=Ep w (D.bl true):=by
 induction w with
 | zero=>rfl
 | succ w ih=>rw [FH,FH,Gr,ih];rfl
def sV:List D->(D->Prop)->Prop:=fun ds R=>∃(f:Int->Int->Int->Int) (kvs:List (List Int×D)) (w:Nat) (a b wa:Int),ds=[dc kvs,.int (w:Int),.int a,.int b,.int wa]/\Am f kvs/\w<=3/\0<=a/\0<=b/\0<=wa/\wa < 1000/\R (.lst ((ths f w a b wa).map .int))
def yh:List D->(D->Prop)->Prop:=fun ds R=>∃w:Nat,ds=[.int (w:Int)]/\w<=3/\R (eL (gu w))
def wnt (xs:List (List Int)) (y:Nat):Int:=((rw' xs y:Nat):Int)
def DN:List D->(D->Prop)->Prop:=fun ds R=>∃(k:Int) (bo st:List Int) (w h:Nat) (xs:List (List Int)),ds=[rl k bo st,eT [(w:Int),(h:Int)],eL xs]/\Kd k/\1<=w/\w<=3/\1<=h/\h<=6/\Bx w h xs/\∀kv,Chn (am k bo st) w h (wnt xs) kv->R (.lst ((Eo h).map fun i=>dc (kv i)))
theorem DO {w h:Nat} {xs:List (List Int)} (bx:Bx w h xs) (hw:w<=3) (y:Nat):0<=wnt xs y/\wnt xs y < 1000:=by
 unfold wnt
 rw [sN bx]
 have h1:=gN (fun x=>decide ([(x:Int),(y:Int)]∈xs)) w
 have h2:2 ^ w<=2 ^ 3:=GA (by decide) hw
 lia
section
variable {P:E2} {w:FO} {K:Ed} {mg:Str->Option Ej} {base:Heap}
theorem sW (S:Src K mg "thirds" j6) (T:Txt mg) (e10_:Has P w K mg base 1 "rows_below" ["amid","above","row","wanted","free"] (spP K DL)):Has P w K mg base 2 "thirds" ["amid","wide","one","two","wanted"] (spP K sV):=by
 refine bI S sC (fun _ _ _ _ _ _ us hl=>match us,hl with | [_,_,_,_,_],_=>rfl) (by walk_at "L") fun f cdv A outer s H E hr=>⟨_,_,(aq (aI (bA e10_ hr (aa (ae 0 (pv 0)) (aa (ae 2 (pv 2)) (aa (ae 3 (pv 3)) (aa (ay js bP (ae 4 (pv 4)) af) (aa (aU (AJ (bF (aa gX ai)) (ay bj aF (ae 1 (pv 1)) af))) ai)))))))),?_⟩
 rintro ds R ⟨g,kvs,w,a,b,wa,rfl,ham,hw,ha,hb,hwa,hwb,q⟩
 walk_at "sl"
 walk_at "rd"
 refine vB (by simp;lia) (by lia) ?_
 rw [show (Ep (w+2) ((fun x=>D.bl true::x) [])).flatten=(Ep (w+2) true).map D.bl by rw [List.map_replicate];exact sU (w+2)]
 walk_at "rd"
 dsimp only [ofV]
 rw [show (2:Int) ^ Int.toNat 1=2 from rfl]
 refine ⟨g,kvs,a,b,wa*2,Ep (w+2) true,rfl,ham,ha,hb,by lia,by rw [Gf];lia,?_⟩
 rw [Gf]
 walk_at "rd"
 exact q
theorem wt (S:Src K mg "all_pairs" eM) (T:Txt mg):Has P w K mg base 1 "all_pairs" ["wide"] (spP K yh):=by
 refine bI S iI (by walk_at "1") (by walk_at "L") fun f cdv A outer s H E hr=>⟨_,_,(aj (aH (i:=1) iI.nd rfl (FS rfl) (ay js bP af (ay bj aF (ae 0 (pv 0)) af)))
  (aq (aI (aU (iA (tg:=["one","two"]) (cs:=["many"]) (ix:=[1]) (aN (ao eM) ["wide","many"] (by decide +kernel)) rfl (fF (by decide) (by decide) (by decide)) (by decide) (aY rfl T.range (aa (ae 1 (pv 1)) ai)) (fun _ _ _ _=>(aw (au (i:=0) (show (["one","two","many"]:List Str).Nodup by decide +kernel) rfl (Ew rfl) (by first | exact Ew rfl | exact FS rfl)))) (fun _ _ _ _=>bV) (fun _ _ _ _=>(aY rfl T.range (aa (ae 2 (pv 2)) ai))) (fun _ _ _ _=>(aw (au (i:=1) (show (["one","two","many"]:List Str).Nodup by decide +kernel) rfl (Ew rfl) (by first | exact Ew rfl | exact FS rfl)))) (fun _ _ _ _=>bV) (fun _ _ _ _=>(aA (aa (az (ae 0 (pv 0))) (aa (az (ae 1 (pv 1))) ai))))))))),?_⟩
 rintro ds R ⟨w,rfl,hw,q⟩
 walk_at "sl"
 walk_at "rd"
 dsimp only [ofV]
 have e:(1*2 ^ ((w:Int)+2).toNat:Int)=((2 ^ (w+2):Nat):Int):=by rw [show ((w:Int)+2).toNat=w+2 by lia,KY];norm_cast
 have h5:2 ^ (w+2)<=2 ^ 5:=GA (by decide) (by lia)
 rw [e]
 refine qP ⟨by lia,by lia⟩ ?_
 rw [FL]
 unfold rg
 refine fW (xs:=Eo (2 ^ (w+2))) (en:=fun (i:Nat)=>.int (0+(i:Int))) (r:=fun (a:Nat)=>(Eo (2 ^ (w+2))).map fun (b:Nat)=>eT [0+(a:Int),0+(b:Int)]) (by rw [Ez];lia) (fun a ha ys A B hA=>?_) ?_
 ·dsimp only [aV,Ep,EB,Fd,EY,E8]
  walk_at "rd"
  rw [FL]
  unfold rg
  refine rA (xs:=Eo (2 ^ (w+2))) (en:=fun (i:Nat)=>.int (0+(i:Int))) (f:=fun (b:Nat)=>eT [0+(a:Int),0+(b:Int)]) (by rw [Ez];lia) (fun l hm A2 B2 hA2=>?_) (hA _ rfl)
  walk_at "rd"
  exact hA2 _ rfl
 ·walk_at "rd"
  rw [show ((Eo (2 ^ (w+2))).flatMap fun (a:Nat)=>(Eo (2 ^ (w+2))).map fun (b:Nat)=>eT [0+(a:Int),0+(b:Int)])=(gu w).map eT by unfold gu;simp only [HN,EZ];rfl]
  exact q
theorem A7 (S:Src K mg "pairs_by_row" d9) (T:Txt mg) (e27_:Has P w K mg base 3 "centres" ["rule"] (spP K yf)) (e14_:Has P w K mg base 1 "all_pairs" ["wide"] (spP K yh)) (e21_:Has P w K mg base 1 "rows_of" ["size","picture"] (spP K oh)) (e28_:Has P w K mg base 2 "thirds" ["amid","wide","one","two","wanted"] (spP K sV)):Has P w K mg base 4 "pairs_by_row" ["rule","size","picture"] (spP K DN):=by
 refine bI S aW (by walk_at "3") (by walk_at "L") fun f cdv A outer s H E hr=>⟨_,_,(aj (aH (i:=3) aW.nd rfl (Ew rfl) (bA e27_ hr (aa (ae 0 (pv 0)) ai)))
  (aj (aH (i:=4) aW.nd rfl (Ew rfl) (bA e14_ hr (aa (aG rfl (ae 1 (pv 1)) af (fun _ _=>rfl)) ai)))
  (aj (cB (fun _ h=>bQ (i:=5) aW.nd rfl (Ew rfl) h) (bF ai))
  (aj (bR Fx rfl (bC rfl (bA e21_ hr (aa (ae 1 (pv 1)) (aa (ae 2 (pv 2)) ai)))) (aw (au (i:=6) aW.nd rfl (Ew rfl) (Ew rfl))) (aj (nG (fun _ h=>bQ (i:=7) aW.nd rfl (Ew rfl) h) qY)
  (aj (bR Fx rfl (bC rfl (ae 4 (pv 4))) (bU (n:=2) rfl rfl (aE (aw (au (i:=8) aW.nd rfl (Ew rfl) (Ew rfl))) (aE (aw (au (i:=9) aW.nd rfl (Ew rfl) (Ew rfl))) bH))) (aq (bR Fx rfl (bC rfl (bA e28_ hr (aa (ae 3 (pv 3)) (aa (aG rfl (ae 1 (pv 1)) af (fun _ _=>rfl)) (aa (ae 8 (pv 8)) (aa (ae 9 (pv 9)) (aa (ae 6 (pv 6)) ai))))))) (aw (au (i:=10) aW.nd rfl (Ew rfl) (Ew rfl))) (aq (nH 7 rfl hr.units (pv 7) (aA (aa (az (ae 8 (pv 8))) (aa (az (ae 9 (pv 9))) ai))) (aA (aa (ae 9 (pv 9)) (aa (ae 10 (pv 10)) ai))))))))
  (aj (vN 7 (dA (hZ 5 rfl (pv 5) (nN 7 (pv 7)))))
  (aq (aH (i:=4) aW.nd rfl (Ew rfl) (aU (lB rfl (by rfl) T.list_ (aa (ae 7 (pv 7)) ai)))))))))
  (aq (aI (az (ae 5 (pv 5))))))))),?_⟩
 rintro ds R ⟨k,bo,st,w,h,xs,rfl,hk,w1,w2,h1,h2,bx,q⟩
 walk_at "sl"
 walk_at "rd"
 refine ⟨k,bo,st,rfl,hk,fun amd ham=>?_⟩
 walk_at "rd"
 refine ⟨w,rfl,w2,?_⟩
 walk_at "rd"
 refine ⟨w,h,xs,rfl,by lia,by lia,bx,?_⟩
 walk_at "rd"
 refine cX (fun i S=>∃kv s6 s7 s8 s9 s10,S=[.val (rl k bo st),.val (eT [(w:Int),(h:Int)]),.val (eL xs),.val (dc amd),.val (eL (ahd w kv i)),.own ((Eo i).map fun j=>dc (kv j)),s6,s7,s8,s9,s10]/\Chn (am k bo st) w i (wnt xs) kv) ⟨fun _=>[],_,_,_,_,_,rfl,fun i h=>by lia⟩ ?_ ?_
 ·rintro i d S2 e ⟨kv,s6,s7,s8,s9,s10,rfl,hC⟩
  have ed:d=.int (wnt xs i)/\i < h:=by
   rw [show eQ xs h=(Eo h).map (wnt xs) from rfl,EZ,EH] at e
   by_cases hi:i < h
   ·rw [Gb hi] at e
    cases e
    exact ⟨rfl,hi⟩
   ·rw [FV (by rw [Ez];lia)] at e
    cases e
  obtain ⟨rfl,hi⟩:=ed
  have hsub:=gO hC i (Ek i)
  have hwn:=DO bx w2 i
  have hal:(ahd w kv i).length<=1024:=by
   cases i with
   | zero=>exact lK w2
   | succ j=>rw [show ahd w kv (j+1)=(kv j).map (·.1) from rfl,Eh];exact (hC j (by lia)).len w2
  walk_at "rd"
  refine cX (fun n S=>∃kvs s8 s9 s10,S=[.val (rl k bo st),.val (eT [(w:Int),(h:Int)]),.val (eL xs),.val (dc amd),.val (eL (ahd w kv i)),.own ((Eo i).map fun j=>dc (kv j)),.val (.int (wnt xs i)),od kvs,s8,s9,s10]/\Sd w (thr (am k bo st) w (wnt xs i) ((ahd w kv i).take n)) kvs) ⟨[],_,_,_,rfl,by rw [ID];exact Sd.nil⟩ ?_ ?_
  ·rintro n d S2 e2 ⟨kvs,s8,s9,s10,rfl,hS⟩
   obtain ⟨p,e3,rfl,hm,ht⟩:=aJ e2
   obtain ⟨a,b,rfl⟩:=fK (hsub p hm)
   obtain ⟨⟨a1,a2⟩,b1,b2⟩:=eh.mp (hsub _ hm)
   walk_at "rd"
   refine ⟨am k bo st,amd,w,a,b,wnt xs i,rfl,ham,w2,a1,b1,hwn.1,hwn.2,?_⟩
   walk_at "rd"
   have hs2:thr (am k bo st) w (wnt xs i) ((ahd w kv i).take (n+1))=thr (am k bo st) w (wnt xs i) ((ahd w kv i).take n)++(ths (am k bo st) w a b (wnt xs i)).map fun c=>[a,b,c]:=by
    rw [ht]
    unfold thr
    rw [GO,List.flatMap_singleton]
    rfl
   refine cX (fun m S=>∃kvs s10,S=[.val (rl k bo st),.val (eT [(w:Int),(h:Int)]),.val (eL xs),.val (dc amd),.val (eL (ahd w kv i)),.own ((Eo i).map fun j=>dc (kv j)),.val (.int (wnt xs i)),od kvs,.val (.int a),.val (.int b),s10]/\Sd w (thr (am k bo st) w (wnt xs i) ((ahd w kv i).take n)++((ths (am k bo st) w a b (wnt xs i)).take m).map fun c=>[a,b,c]) kvs) ⟨kvs,_,rfl,by rw [ID,Fd,FY];exact hS⟩ ?_ ?_
   ·rintro m d S3 e4 ⟨kvs,s10,rfl,hS⟩
    obtain ⟨c,e5,rfl,hm2,ht2⟩:=aJ e4
    have h3:=ki.mp hm2
    have hkl:=hS.len w2
    walk_at "rd"
    refine kZ (kvs:=kvs) (ms:=[b,c]) rfl rfl (by lia) ?_
    refine ⟨_,_,rfl,?_⟩
    rw [ht2,EJ,<- Ey]
    exact hS.put (eh.mpr ⟨⟨b1,b2⟩,h3.1⟩)
   ·rintro S3 ⟨kvs,s10,rfl,hS⟩
    rw [Eh,Fs] at hS
    exact ⟨kvs,_,_,_,rfl,by rw [hs2];exact hS⟩
  ·rintro S2 ⟨kvs,s8,s9,s10,rfl,hS⟩
   rw [Eh,Fs] at hS
   walk_at "rd"
   refine AT (kvs:=kvs) rfl ?_
   dsimp only [Fw,FN]
   walk_at "rd"
   have hk2:∀j≤i,ahd w (fun j=>if j=i then kvs else kv j) j=ahd w kv j:=fun j hj=>by
    cases j with
    | zero=>rfl
    | succ j=>show (if j=i then kvs else kv j).map (·.1)=(kv j).map (·.1);rw [if_neg (by lia)]
   have hC2:Chn (am k bo st) w (i+1) (wnt xs) fun j=>if j=i then kvs else kv j:=fun j hj=>by
    rw [hk2 j (by lia)]
    by_cases hji:j=i
    ·subst hji;show Sd w _ (if j=j then kvs else kv j);rw [if_pos rfl];exact hS
    ·show Sd w _ (if j=i then kvs else kv j);rw [if_neg hji];exact hC j (by lia)
   have hl1:(Eo (i+1)).map (fun j=>dc (if j=i then kvs else kv j))=(Eo i).map (fun j=>dc (kv j))++[dc kvs]:=by
    rw [G0,EJ]
    congr 1
    ·exact Fg fun j hj=>by rw [if_neg (by have:=List.mem_range.mp hj;lia)]
    ·show [dc (if i=i then kvs else kv i)]=_;rw [if_pos rfl]
   have hah:ahd w (fun j=>if j=i then kvs else kv j) (i+1)=kvs.map (·.1):=by show (if i=i then kvs else kv i).map (·.1)=_;rw [if_pos rfl]
   refine mq (ds:=(Eo i).map fun j=>dc (kv j)) rfl (by rw [Eh,Ez];lia) ?_
   dsimp only [Fw,FN]
   walk_at "rd"
   exact ⟨fun j=>if j=i then kvs else kv j,_,_,_,_,_,by rw [hah,hl1];rfl,hC2⟩
 ·rintro S2 ⟨kv,s6,s7,s8,s9,s10,rfl,hC⟩
  walk_at "rd"
  rw [show (KN D.int (eQ xs h)).length=h by rw [Eh];unfold eQ;rw [Eh,Ez]] at hC ⊢
  exact q kv hC
end
end My
namespace My
open PySem L2 VL
def Nb (f:Int->Int->Int->Int) (w h:Nat) (W:Nat->Int) (g:Nat->Int):Prop:=(∀y,0<=g y/\g y < 2 ^ (w+2))/\∀i < h,T3 f w (W i) (g i) (g (i+1)) (g (i+2))
def yi:List D->(D->Prop)->Prop:=fun ds R=>∃(f:Int->Int->Int->Int) (w h:Nat) (W:Nat->Int) (kv:Nat->List (List Int×D)),ds=[.lst ((Eo h).map fun i=>dc (kv i))]/\w<=3/\1<=h/\h<=6/\Chn f w h W kv/\kv (h-1)≠[]/\∀g,Nb f w h W g->R (.lst (((Eo (h+2)).map g).map .int))
theorem lL {l:List D}:atI (l++[d]) (-1)=some d:=by
 have h:ixN (l++[d]).length (-1)=some l.length:=by
  unfold ixN
  rw [E7,Jt,if_neg (by lia),if_pos (by lia)]
  congr 1
  lia
 unfold atI
 rw [h]
 show (l++[d])[l.length]?=some d
 simp
section
variable {P:E2} {w:FO} {K:Ed} {mg:Str->Option Ej} {base:Heap}
theorem wu (S:Src K mg "rows_back" f9) (T:Txt mg):Has P w K mg base 1 "rows_back" ["found"] (spP K yi):=by
 refine bI S cM (by walk_at "1") (by walk_at "L") fun f cdv A outer s H E hr=>⟨_,_,(aj (aH (i:=1) cM.nd rfl (Ew rfl) (aG rfl (aU (lB rfl (by rfl) T.list_ (aa (aG rfl (ae 0 (pv 0)) (dJ b8 af) (fun _ _=>rfl)) ai))) af (fun _ _=>rfl)))
  (aj (cB (fun _ h=>bQ (i:=2) cM.nd rfl (Ew rfl) h) (bF (aa (az (aG rfl (ae 1 (pv 1)) af (fun _ _=>rfl))) (aa (az (aG rfl (ae 1 (pv 1)) af (fun _ _=>rfl))) ai))))
  (aj (bR Fx rfl (AR rfl (by rfl) T.reversed_ (aa (ae 0 (pv 0)) ai)) (aw (au (i:=3) cM.nd rfl (Ew rfl) (Ew rfl))) (aj (aH (i:=1) cM.nd rfl (Ew rfl) (vK rfl hr.units (ae 3 (pv 3)) (ae 1 (pv 1)) (fun _ _=>rfl)))
  (aq (dA (hZ 2 rfl (pv 2) (az (aG rfl (ae 1 (pv 1)) af (fun _ _=>rfl))))))))
  (aq (aI (aU (Ak rfl (ae 2 (pv 2))))))))),?_⟩
 rintro ds R ⟨f,w,h,W,kv,rfl,w2,h1,h2,hC,hne,q⟩
 have hat:(Eo h).map (fun i=>dc (kv i))=(Eo (h-1)).map (fun i=>dc (kv i))++[dc (kv (h-1))]:=by
  obtain ⟨n,rfl⟩:∃n,h=n+1:=⟨h-1,by lia⟩
  rw [G0,EJ];rfl
 obtain ⟨b,c,l,hkl,hbc⟩:∃b c l,(kv (h-1)).map (·.1)=[b,c]::l/\[b,c]∈gu w:=by
  match e:kv (h-1),hne with
  | p::l,_=>
   have hp:=(hC (h-1) (by lia)).sub p.1 (by rw [e];exact Em)
   obtain ⟨x,y,e2⟩:=fK hp
   exact ⟨x,y,l.map (·.1),by rw [EB,e2],e2▸hp⟩
 have hb2:=eh.mp hbc
 obtain ⟨g0,hg0,e1,e2⟩:∃g0:Nat->Int,(∀y,0<=g0 y/\g0 y < 2 ^ (w+2))/\g0 h=b/\g0 (h+1)=c:=⟨fun t=>if t=h then b else if t=h+1 then c else 0,fun y=>by
  have:=two_pos (w+2)
  show 0<=(if y=h then b else if y=h+1 then c else 0)/\(if y=h then b else if y=h+1 then c else 0) < 2 ^ (w+2)
  split
  ·exact hb2.1
  ·split
   ·exact hb2.2
   ·exact ⟨Int.le_refl _,this⟩,if_pos rfl,by show (if h+1=h then b else if h+1=h+1 then c else 0)=c;rw [if_neg (by lia),if_pos rfl]⟩
 walk_at "sl"
 walk_at "rd"
 refine fC rfl rfl (d:=dc (kv (h-1))) (by rw [hat];exact lL) ?_
 walk_at "rd"
 refine fC rfl rfl (d:=eT [b,c]) (by rw [hkl];exact jw (j:=0) rfl) ?_
 walk_at "rd"
 refine cX (fun j S=>∃(g:Nat->Int) (s3:Sl),S=[.val (.lst ((Eo h).map fun i=>dc (kv i))),.val (eT [g (h-j),g (h-j+1)]),.own ((Eo (j+2)).map fun t=>.int (g (h+1-t))),s3]/\(∀y,0<=g y/\g y < 2 ^ (w+2))/\(∀i,h-j<=i->i < h->T3 f w (W i) (g i) (g (i+1)) (g (i+2)))/\[g (h-j),g (h-j+1)]∈ahd w kv (h-j)) ?_ ?_ ?_
 ·refine ⟨g0,.no,?_,hg0,fun i h3 h4=>by lia,?_⟩
  ·show _=[_,Sl.val (eT [g0 h,g0 (h+1)]),.own [.int (g0 (h+1)),.int (g0 h)],_]
   rw [e1,e2]
  ·show [g0 h,g0 (h+1)]∈ahd w kv h
   rw [e1,e2]
   obtain ⟨n,rfl⟩:∃n,h=n+1:=⟨h-1,by lia⟩
   show _∈(kv n).map (·.1)
   rw [show n+1-1=n by lia] at hkl
   rw [hkl]
   exact Em
 ·rintro j d S2 e ⟨g,s3,rfl,hg,ht,hm⟩
  have hj:j < h:=by
   have:=(List.getElem?_eq_some_iff.mp e).1
   simpa using this
  obtain ⟨n,hn⟩:∃n,h-j=n+1:=⟨h-j-1,by lia⟩
  have ed:d=dc (kv n):=by
   rw [HH (by simpa using hj),EH] at e
   rw [Eh,Ez,Gb (by lia)] at e
   injection e with e
   rw [<- e,show h-1-j=n by lia]
  subst ed
  rw [hn] at hm ht ⊢
  obtain ⟨a,h3,h4,h5⟩:=wq hC (i:=n) (by lia) hm
  have ha:=(eh.mp (gO hC n (by lia) _ h4)).1
  walk_at "rd"
  refine vM (kvs:=kv n) (ms:=[g (n+1),g (n+1+1)]) rfl rfl h3 ?_
  walk_at "rd"
  refine mq (ds:=(Eo (j+2)).map fun t=>.int (g (h+1-t))) rfl (by rw [Eh,Ez];lia) ?_
  dsimp only [Fw,FN]
  walk_at "rd"
  have g1:(fun t=>if t=n then a else g t) n=a:=if_pos rfl
  have g2:∀t,n < t->(fun t=>if t=n then a else g t) t=g t:=fun t z=>if_neg (by lia)
  have hlt:∀y < n,0<=(fun t=>if t=n then a else g t) y/\(fun t=>if t=n then a else g t) y < 2 ^ (w+2):=fun y z=>by
   rw [show (fun t=>if t=n then a else g t) y=g y from if_neg (by lia)];exact hg y
  generalize (fun t=>if t=n then a else g t)=g' at g1 g2 hlt
  have hn1:h-(j+1)=n:=by lia
  refine ⟨g',.val (dc (kv n)),?_,fun y=>?_,fun i h6 h7=>?_,?_⟩
  ·have el:(Eo (j+1+2)).map (fun t=>D.int (g' (h+1-t)))=(Eo (j+2)).map (fun t=>D.int (g (h+1-t)))++[D.int a]:=by
    rw [show j+1+2=j+2+1 from rfl,G0,EJ]
    congr 1
    ·exact Fg fun t z=>by rw [g2 _ (by have:=List.mem_range.mp z;lia)]
    ·show [D.int (g' (h+1-(j+2)))]=_
     rw [show h+1-(j+2)=n by lia,g1]
   rw [el,hn1,g1,g2 (n+1) (by lia)]
  ·rcases IQ y n with z | z | z
   ·exact hlt y z
   ·rw [z,g1];exact ha
   ·rw [g2 y z];exact hg y
  ·rw [hn1] at h6
   by_cases z:i=n
   ·subst z
    rw [g1,g2 _ (by lia),g2 _ (by lia)]
    exact h5
   ·rw [g2 _ (by lia),g2 _ (by lia),g2 _ (by lia)]
    exact ht i (by lia) h7
  ·rw [hn1,g1,g2 _ (by lia)]
   exact h4
 ·rintro S2 ⟨g,s3,rfl,hg,ht,hm⟩
  rw [Ii,Eh,Ez] at *
  walk_at "rd"
  have er:((Eo (h+2)).map fun t=>D.int (g (h+1-t))).reverse=((Eo (h+2)).map g).map .int:=by
   apply GI
   intro i
   by_cases z:i < h+2
   ·rw [HH (by simpa using z),EH,EH,EH,Eh,Ez,Gb (by lia),Gb z]
    show some (D.int (g (h+1-(h+2-1-i))))=some (D.int (g i))
    rw [show h+1-(h+2-1-i)=i by lia]
   ·rw [FV (by simp;lia),FV (by simp;lia)]
  refine Al (ds:=(Eo (h+2)).map fun t=>D.int (g (h+1-t))) rfl (by rw [show (Eo (h+2)).map (fun t=>D.int (g (h+1-t)))=((Eo (h+2)).map fun t=>g (h+1-t)).map .int by rw [EZ];rfl];exact cH _) ?_
  rw [er]
  walk_at "rd"
  exact q g ⟨hg,fun i hi=>ht i (by lia) hi⟩
end
end My
namespace My
open PySem L2 VL
theorem sX {p:List Int} (h:p∈cellsOf ns):Pr p:=by
 obtain ⟨y,_,h⟩:=List.mem_flatMap.mp h
 obtain ⟨x,_,rfl⟩:=List.mem_map.mp h
 exact ⟨_,_,rfl⟩
theorem et {α β:Type} {F:α->List β} {m:Nat}:∀l:List α,(∀a∈l,(F a).length<=m)->(l.flatMap F).length<=l.length*m
 | [],_=>Ga _
 | a::l,h=>by
  rw [IW,E7,F5,Ju]
  have:=et l fun b hb=>h b (ES _ hb)
  have:=h a Em
  lia
theorem pF (hn:∀n∈ns,0<=n/\n < 2 ^ 60):(cellsOf ns).length<=ns.length*60:=by
 have:=et (F:=fun y=>(fj (ns.getD y 0)).map fun (x:Nat)=>[(x:Int),(y:Int)]) (m:=60) (Eo ns.length) fun y hy=>by
  have hy:=List.mem_range.mp hy
  have hm:ns.getD y 0∈ns:=by rw [Fc,Ei hy];exact HK hy
  rw [Eh]
  unfold fj
  have h1:=FW (fun x=>decide (ns.getD y 0 / 2 ^ x%2=1)) (Eo (Fi (ns.getD y 0)))
  have h2:=bits_le (hn _ hm).1 (hn _ hm).2
  rw [Ez] at h1
  lia
 rw [Ez] at this
 exact this
end My
namespace My
open PySem L2 VL
theorem yj (R:Int) (x j:Nat) (hj:j < 3):bt (w3 R x) (j:Int)=R / 2 ^ (x+j)%2:=by
 unfold bt w3
 rw [FL,Jf,<- Int.ediv_ediv_of_nonneg (KM (two_pos x))]
 generalize R / 2 ^ x=M
 match j,hj with
 | 0,_=>simp only [Int.pow_zero];lia
 | 1,_=>simp only [show (2:Int) ^ 1=2 from rfl];lia
 | 2,_=>simp only [show (2:Int) ^ 2=4 from rfl];lia
theorem lens (p:List Int->Bool):∀l:List (List Int),(l.map fun m=>if p m=true then (1:Int) else 0).sum=((l.filter p).length:Int)
 | []=>rfl
 | m::l=>by
  have:=lens p l
  cases h:p m
  ·simp [h,this]
  ·simp [h,this];lia
def Gc (h:Nat) (g:Nat->Int) (ks:List (List Int)):Prop:=∀c i:Nat,i < h+2->(g i / 2 ^ c%2=1↔[(c:Int)-1,(i:Int)-1]∈ks)
section
variable {k:Int} {bo sy:List Int} {w h:Nat} {g:Nat->Int} {ks xs:List (List Int)}
theorem pG (hk:Kd k) (G:Gc h g ks) {i x:Nat} (hi:i < h):AW k (w3 (g i) x) (w3 (g (i+1)) x) (w3 (g (i+2)) x) 1=((((st k).filter fun m=>decide (nx2 (x:Int) (i:Int) m∈ks)).length:Nat):Int):=by
 rw [((ke hk).filter _).length_eq,<- lens]
 unfold AW
 congr 1
 refine Fg fun m hm=>?_
 obtain ⟨dx,dy,rfl,hx,hy⟩:=yd hk hm
 obtain ⟨u,rfl⟩:∃u:Nat,dx=(u:Int)-1:=⟨(dx+1).toNat,by lia⟩
 obtain ⟨v,rfl⟩:∃v:Nat,dy=(v:Int)-1:=⟨(dy+1).toNat,by lia⟩
 have e1:(1:Int)+((u:Int)-1)=(u:Int):=by lia
 have e2:nx2 (x:Int) (i:Int) [(u:Int)-1,(v:Int)-1]=[((x+u:Nat):Int)-1,((i+v:Nat):Int)-1]:=by
  simp only [nx2,EU,and_true]
  lia
 show bt (ln3 _ _ _ ((v:Int)-1)) (1+((u:Int)-1))=_
 rw [e1,e2,show decide ([((x+u:Nat):Int)-1,((i+v:Nat):Int)-1]∈ks)=decide (g (i+v) / 2 ^ (x+u)%2=1) from decide_eq_decide.mpr (G _ _ (by lia)).symm]
 have hv:v=0\/v=1\/v=2:=by lia
 have hb:∀j:Nat,bt (w3 (g j) x) (u:Int)=if decide (g j / 2 ^ (x+u)%2=1)=true then 1 else 0:=fun j=>by
  rw [yj _ _ _ (by lia)]
  by_cases h1:g j / 2 ^ (x+u)%2=1
  ·rw [h1];rfl
  ·rw [if_neg (by simpa using h1)];lia
 rcases hv with rfl | rfl | rfl
 ·exact hb i
 ·exact hb (i+1)
 ·exact hb (i+2)
theorem sY (hk:Kd k) (G:Gc h g ks) {i x:Nat} (hi:i < h):am k bo sy (w3 (g i) x) (w3 (g (i+1)) x) (w3 (g (i+2)) x)=if lives k bo sy ks (x:Int) (i:Int)=true then 1 else 0:=by
 unfold am sH lives
 rw [pG hk G hi]
 have e2:g (i+1) / 2 ^ (x+1)%2=1↔[(x:Int),(i:Int)]∈ks:=by
  rw [G _ _ (by lia),show ((x+1:Nat):Int)-1=(x:Int) by lia,show ((i+1:Nat):Int)-1=(i:Int) by lia]
 have hb:bt (w3 (g (i+1)) x) 1=g (i+1) / 2 ^ (x+1)%2:=yj _ x 1 (by decide)
 rw [hb]
 have hif:(if g (i+1) / 2 ^ (x+1)%2=1 then sy else bo)=if [(x:Int),(i:Int)]∈ks then sy else bo:=by
  by_cases hm:[(x:Int),(i:Int)]∈ks
  ·rw [if_pos hm,if_pos (e2.mpr hm)]
  ·rw [if_neg hm,if_neg fun z=>hm (e2.mp z)]
 rw [hif]
theorem wy (bx:Bx w h xs) {x y:Nat} (hx:x < w):wnt xs y / 2 ^ x%2=if [(x:Int),(y:Int)]∈xs then 1 else 0:=by
 unfold wnt
 rw [sN bx]
 have e:=iK (fun x=>decide ([(x:Int),(y:Int)]∈xs)) w x
 have e2:((numP (fun x=>decide ([(x:Int),(y:Int)]∈xs)) w:Nat):Int) / 2 ^ x%2=((numP (fun x=>decide ([(x:Int),(y:Int)]∈xs)) w / 2 ^ x%2:Nat):Int):=by norm_cast
 rw [e2,e]
 by_cases hm:[(x:Int),(y:Int)]∈xs <;> simp [hx,hm]
theorem lM (hk:Kd k) (bx:Bx w h xs) (G:Gc h g ks) {i x:Nat} (hi:i < h) (hx:x < w):am k bo sy (w3 (g i) x) (w3 (g (i+1)) x) (w3 (g (i+2)) x)=wnt xs i / 2 ^ x%2↔(lives k bo sy ks (x:Int) (i:Int)=true↔[(x:Int),(i:Int)]∈xs):=by
 rw [sY hk G hi,wy bx hx]
 by_cases h1:lives k bo sy ks (x:Int) (i:Int)=true <;> by_cases h2:[(x:Int),(i:Int)]∈xs <;> simp [h1,h2]
theorem oo {c:List Int}:c∈bec k bo sy (w:Int) (h:Int) ks↔∃x y:Nat,c=[(x:Int),(y:Int)]/\x < w/\y < h/\lives k bo sy ks (x:Int) (y:Int)=true:=by
 unfold bec
 rw [Hh,FL,FL]
 constructor
 ·rintro ⟨x,hx,hc⟩
  obtain ⟨y,hy,rfl⟩:=List.mem_map.mp hc
  obtain ⟨hy,hl⟩:=List.mem_filter.mp hy
  rw [GK,GK] at hl ⊢
  exact ⟨x,y,rfl,List.mem_range.mp hx,List.mem_range.mp hy,hl⟩
 ·rintro ⟨x,y,rfl,hx,hy,hl⟩
  refine ⟨x,List.mem_range.mpr hx,List.mem_map.mpr ⟨y,List.mem_filter.mpr ⟨List.mem_range.mpr hy,?_⟩,?_⟩⟩
  ·rw [GK,GK];exact hl
  ·rw [GK,GK]
theorem wz (hw:w<=3) (hh:h<=6):(bec k bo sy (w:Int) (h:Int) ks).length<=18:=by
 unfold bec
 have:=et (F:=fun (x:Nat)=>((Eo ((h:Int)).toNat).filter fun (y:Nat)=>lives k bo sy ks (0+(x:Int)) (0+(y:Int))).map fun (y:Nat)=>[0+(x:Int),0+(y:Int)]) (m:=6) (Eo ((w:Int)).toNat) fun x _=>by
  rw [Eh]
  have:=FW (fun (y:Nat)=>lives k bo sy ks (0+(x:Int)) (0+(y:Int))) (Eo ((h:Int)).toNat)
  rw [Ez] at this
  lia
 rw [Ez] at this
 lia
theorem sZ (hw:w<=3) (hh:h<=6):Bx w h (bec k bo sy (w:Int) (h:Int) ks) where
 nd:=by
  unfold bec
  refine List.pairwise_flatMap.mpr ⟨fun x _=>?_,?_⟩
  ·refine List.pairwise_map.mpr ((List.nodup_range.filter _).imp fun {a b} z e=>z ?_)
   injection e with _ e
   injection e with e _
   lia
  ·refine List.nodup_range.imp fun {y z} hyz a ha b hb e=>hyz ?_
   obtain ⟨x1,_,rfl⟩:=List.mem_map.mp ha
   obtain ⟨x2,_,rfl⟩:=List.mem_map.mp hb
   injection e with e _
   lia
 at_:=fun c hc=>by
  obtain ⟨x,y,e,h1,h2,_⟩:=oo.mp hc
  exact ⟨x,y,e,h1,h2⟩
 len:=by
  unfold bec
  have:=et (F:=fun (x:Nat)=>((Eo ((h:Int)).toNat).filter fun (y:Nat)=>lives k bo sy ks (0+(x:Int)) (0+(y:Int))).map fun (y:Nat)=>[0+(x:Int),0+(y:Int)]) (m:=6) (Eo ((w:Int)).toNat) fun x _=>by
   rw [Eh]
   have:=FW (fun (y:Nat)=>lives k bo sy ks (0+(x:Int)) (0+(y:Int))) (Eo ((h:Int)).toNat)
   rw [Ez] at this
   lia
  rw [Ez] at this
  lia
def told (h:Nat) (g:Nat->Int):List (List Int):=(srt (cellsOf ((Eo (h+2)).map g))).map (mv (-1) (-1))
theorem tf {i:Nat} (hi:i < h+2):((Eo (h+2)).map g).getD i 0=g i:=by
 rw [Fc,EH,Gb hi];rfl
theorem lN (hg:∀y,0<=g y/\g y < 2 ^ (w+2)) {p:List Int}:p∈told h g↔∃x y:Nat,p=[(x:Int)-1,(y:Int)-1]/\y < h+2/\g y / 2 ^ x%2=1:=by
 have hn:∀n∈(Eo (h+2)).map g,0<=n:=fun n hn=>by
  obtain ⟨y,_,rfl⟩:=List.mem_map.mp hn
  exact (hg y).1
 unfold told
 rw [IA]
 constructor
 ·rintro ⟨c,hc,rfl⟩
  obtain ⟨x,y,rfl,hy,hb⟩:=(eg hn).mp ((cj _).mem_iff.mp hc)
  rw [Eh,Ez] at hy
  rw [tf hy] at hb
  exact ⟨x,y,rfl,hy,hb⟩
 ·rintro ⟨x,y,rfl,hy,hb⟩
  refine ⟨[(x:Int),(y:Int)],(cj _).mem_iff.mpr ((eg hn).mpr ⟨x,y,rfl,?_,?_⟩),rfl⟩
  ·rw [Eh,Ez];exact hy
  ·rw [tf hy];exact hb
theorem wC (hg:∀y,0<=g y/\g y < 2 ^ (w+2)):Gc h g (told h g):=fun c i hi=>by
 rw [lN hg]
 constructor
 ·exact fun z=>⟨c,i,rfl,hi,z⟩
 ·rintro ⟨x,y,e,_,hb⟩
  injection e with e1 e
  injection e with e2 _
  obtain rfl:c=x:=by lia
  obtain rfl:i=y:=by lia
  exact hb
end
end My
namespace My
open PySem L2 VL
def HasF (k:Int) (bo sy:List Int) (w h:Nat) (xs:List (List Int)):Prop:=∃g,Nb (am k bo sy) w h (wnt xs) g
section
variable {k:Int} {bo sy:List Int} {w h:Nat} {ks xs:List (List Int)}
def rim (w h:Nat) (p:List Int):Bool:=match p with
 | [a,b]=>decide (-1<=a/\a<=(w:Int)/\-1<=b/\b<=(h:Int))
 | _=>false
theorem A8 {p:List Int} (hp:rim w h p=true):∃a b,p=[a,b]/\-1<=a/\a<=(w:Int)/\-1<=b/\b<=(h:Int):=by
 unfold rim at hp
 split at hp
 ·exact ⟨_,_,rfl,of_decide_eq_true hp⟩
 ·cases hp
theorem iM (hk:Kd k) {m:List Int} (h:m∈st k):∃x y,m=[x,y]/\-1<=x/\x<=1/\-1<=y/\y<=1:=lG hk ((ke hk).mem_iff.mp h)
theorem pH (hk:Kd k) {x y:Nat} (hx:x < w) (hy:y < h):lives k bo sy (ks.filter (rim w h)) (x:Int) (y:Int)=lives k bo sy ks (x:Int) (y:Int):=by
 have e:∀a b:Int,-1<=a->a<=(w:Int)->-1<=b->b<=(h:Int)->([a,b]∈ks.filter (rim w h)↔[a,b]∈ks):=fun a b h1 h2 h3 h4=>by
  rw [Hr]
  exact ⟨fun z=>z.1,fun z=>⟨z,decide_eq_true ⟨h1,h2,h3,h4⟩⟩⟩
 have ef:(st k).filter (fun m=>decide (nx2 (x:Int) (y:Int) m∈ks.filter (rim w h)))=(st k).filter (fun m=>decide (nx2 (x:Int) (y:Int) m∈ks)):=by
  refine G5 fun m hm=>?_
  obtain ⟨a,b,rfl,h1,h2,h3,h4⟩:=iM hk hm
  show decide _=decide _
  rw [decide_eq_decide]
  exact e ((x:Int)+a) ((y:Int)+b) (by lia) (by lia) (by lia) (by lia)
 unfold lives
 rw [ef]
 simp only [e (x:Int) (y:Int) (by lia) (by lia) (by lia) (by lia)]
theorem wD (hk:Kd k) (bx:Bx w h xs) (r:∀p∈ks,rim w h p=true) (hl:∀x y:Nat,x < w->y < h->(lives k bo sy ks (x:Int) (y:Int)=true↔[(x:Int),(y:Int)]∈xs)):HasF k bo sy w h xs:=by
 have hb:∀i c:Nat,((numP (fun c=>decide ([(c:Int)-1,(i:Int)-1]∈ks)) (w+2):Nat):Int) / 2 ^ c%2=1↔[(c:Int)-1,(i:Int)-1]∈ks:=fun i c=>by
  have e:=iK (fun c=>decide ([(c:Int)-1,(i:Int)-1]∈ks)) (w+2) c
  have e2:((numP (fun c=>decide ([(c:Int)-1,(i:Int)-1]∈ks)) (w+2):Nat):Int) / 2 ^ c%2=((numP (fun c=>decide ([(c:Int)-1,(i:Int)-1]∈ks)) (w+2) / 2 ^ c%2:Nat):Int):=by norm_cast
  rw [e2,e]
  by_cases hm:[(c:Int)-1,(i:Int)-1]∈ks
  ·obtain ⟨a,b,e3,h1,h2,h3⟩:=A8 (r _ hm)
   injection e3 with e3 _
   have:c < w+2:=by lia
   simp [hm,this]
  ·simp [hm]
 have G:Gc h (fun i=>((numP (fun c=>decide ([(c:Int)-1,(i:Int)-1]∈ks)) (w+2):Nat):Int)) ks:=fun c i _=>hb i c
 have hbd:∀i:Nat,0<=((numP (fun c=>decide ([(c:Int)-1,(i:Int)-1]∈ks)) (w+2):Nat):Int)/\((numP (fun c=>decide ([(c:Int)-1,(i:Int)-1]∈ks)) (w+2):Nat):Int) < 2 ^ (w+2):=fun i=>by
  have:=gN (fun c=>decide ([(c:Int)-1,(i:Int)-1]∈ks)) (w+2)
  exact ⟨Kg _,by exact_mod_cast this⟩
 exact ⟨fun i=>((numP (fun c=>decide ([(c:Int)-1,(i:Int)-1]∈ks)) (w+2):Nat):Int),fun y=>hbd y,fun i hi=>⟨hbd (i+2),fun x hx=>(lM hk bx G hi hx).mpr (hl x i hx hi)⟩⟩
theorem eu (hk:Kd k) (bx:Bx w h xs):HasF k bo sy w h xs↔∃ks:List (List Int),(∀p∈ks,Pr p)/\∀x y:Nat,x < w->y < h->(lives k bo sy ks (x:Int) (y:Int)=true↔[(x:Int),(y:Int)]∈xs):=by
 constructor
 ·rintro ⟨g,N⟩
  refine ⟨told h g,fun p hp=>?_,fun x y hx hy=>(lM hk bx (wC N.1) hy hx).mp ((N.2 y hy).2 x hx)⟩
  obtain ⟨x,y,rfl,_⟩:=(lN N.1).mp hp
  exact ⟨_,_,rfl⟩
 ·rintro ⟨ks,_,hl⟩
  exact wD (ks:=ks.filter (rim w h)) hk bx (fun p hp=>(List.mem_filter.mp hp).2) fun x y hx hy=>by rw [pH hk hx hy];exact hl x y hx hy
structure Tr (k:Int) (φ:List Int->List Int):Prop where
 inj:∀p q,Pr p->Pr q->φ p=φ q->p=q
 step:∀x y,∃x' y',φ [x,y]=[x',y']/\((st k).map (nx2 x' y')).Perm ((st k).map fun m=>φ (nx2 x y m))
theorem DP {α:Type} (q:α->Bool) (f:List Int->α) (l:List (List Int)):(l.filter fun m=>q (f m)).length=(l.map f).countP q:=by
 rw [List.countP_map,List.countP_eq_length_filter];rfl
theorem pI (hk:Kd k) {φ:List Int->List Int} (T:Tr k φ) (hks:∀p∈ks,Pr p) {x y x' y':Int} (e:φ [x,y]=[x',y']):lives k bo sy (ks.map φ) x' y'=lives k bo sy ks x y:=by
 have em:∀p,Pr p->(φ p∈ks.map φ↔p∈ks):=fun p hp=>by
  rw [IA]
  exact ⟨fun zt1=>by obtain ⟨q,hq,e⟩:=zt1;exact T.inj q p (hks q hq) hp e▸hq,fun h=>⟨p,h,rfl⟩⟩
 obtain ⟨a,b,e2,hp⟩:=T.step x y
 rw [e] at e2
 injection e2 with e2 e3
 injection e3 with e3 _
 subst e2 e3
 have el:((st k).filter fun m=>decide (nx2 x' y' m∈ks.map φ)).length=((st k).filter fun m=>decide (nx2 x y m∈ks)).length:=by
  rw [DP (fun c=>decide (c∈ks.map φ)) (nx2 x' y'),hp.countP_eq,<- DP (fun c=>decide (c∈ks.map φ)) (fun m=>φ (nx2 x y m))]
  congr 1
  refine G5 fun m hm=>?_
  obtain ⟨c,d,rfl,_⟩:=iM hk hm
  rw [decide_eq_decide]
  exact em _ ⟨_,_,rfl⟩
 unfold lives
 rw [el,<- e]
 simp only [em [x,y] ⟨_,_,rfl⟩]
theorem jo (hk:Kd k) {φ:List Int->List Int} (T:Tr k φ) {w' h':Nat} {ys:List (List Int)} (bx:Bx w h xs) (by_:Bx w' h' ys)
  (hs:∀x' y':Nat,x' < w'->y' < h'->∃x y:Nat,x < w/\y < h/\φ [(x:Int),(y:Int)]=[(x':Int),(y':Int)]) (hy:∀c,c∈ys↔c∈xs.map φ) (H:HasF k bo sy w h xs):HasF k bo sy w' h' ys:=by
 obtain ⟨ks,hp,hl⟩:=(eu hk bx).mp H
 refine (eu hk by_).mpr ⟨ks.map φ,fun p hq=>?_,fun x' y' hx' hy'=>?_⟩
 ·obtain ⟨q,hq2,rfl⟩:=List.mem_map.mp hq
  obtain ⟨a,b,rfl⟩:=hp q hq2
  obtain ⟨a',b',e,_⟩:=T.step a b
  exact ⟨_,_,e⟩
 ·obtain ⟨x,y,hx,hyy,e⟩:=hs x' y' hx' hy'
  rw [pI hk T hp e,hl x y hx hyy,hy,<- e,IA]
  refine ⟨fun z=>⟨_,z,rfl⟩,fun zr1=>?_⟩
  obtain ⟨q,hq,e2⟩:=zr1
  obtain ⟨a,b,rfl,_⟩:=bx.at_ q hq
  exact T.inj _ _ ⟨_,_,rfl⟩ ⟨_,_,rfl⟩ e2▸hq
def aff (a b c d e f:Int) (p:List Int):List Int:=match p with
 | [x,y]=>[a*x+b*y+c,d*x+e*y+f]
 | _=>[]
theorem ez {a b c d e f a' b' c' d' e' f':Int} (hp:((st k).map (aff a b 0 d e 0)).Perm (st k)) (hk:Kd k) (hi:∀x y:Int,aff a' b' c' d' e' f' (aff a b c d e f [x,y])=[x,y]):Tr k (aff a b c d e f) where
 inj:=fun p q zq1 zq2 e3=>by
  obtain ⟨x,y,e1⟩:=zq1
  obtain ⟨x',y',e2⟩:=zq2
  subst e1 e2
  rw [<- hi x y,e3,hi]
 step:=fun x y=>⟨_,_,rfl,by
  refine ((hp.map (nx2 (a*x+b*y+c) (d*x+e*y+f))).symm).trans (List.Perm.of_eq ?_)
  rw [EZ]
  refine Fg fun m hm=>?_
  obtain ⟨u,v,rfl,_⟩:=iM hk hm
  simp only [Hm,aff,nx2,Int.mul_add]
  congr 1
  ·lia
  ·congr 1;lia⟩
structure Tb (k:Int) (w h w' h':Nat) (φ ψ:List Int->List Int):Prop where
 a:Tr k φ
 b:Tr k ψ
 ba:∀x y,ψ (φ [x,y])=[x,y]
 ab:∀x y,φ (ψ [x,y])=[x,y]
 ia:∀x y:Nat,x < w->y < h->∃x' y':Nat,x' < w'/\y' < h'/\φ [(x:Int),(y:Int)]=[(x':Int),(y':Int)]
 ib:∀x y:Nat,x < w'->y < h'->∃x' y':Nat,x' < w/\y' < h/\ψ [(x:Int),(y:Int)]=[(x':Int),(y':Int)]
variable {w' h':Nat} {φ ψ:List Int->List Int}
theorem Tb.bx (T:Tb k w h w' h' φ ψ) (bx:Bx w h xs):Bx w' h' (srt (xs.map φ)):=by
 have pm:=cj (xs.map φ)
 refine ⟨pm.nodup_iff.mpr ?_,fun c hc=>?_,by rw [pm.length_eq,Eh];exact bx.len⟩
 ·refine List.pairwise_map.mpr (Gn (fun {p q} hp hq hpq e=>hpq ?_) bx.nd)
  obtain ⟨x,y,rfl,_⟩:=bx.at_ p hp
  obtain ⟨x',y',rfl,_⟩:=bx.at_ q hq
  exact T.a.inj _ _ ⟨_,_,rfl⟩ ⟨_,_,rfl⟩ e
 ·obtain ⟨p,hp,rfl⟩:=List.mem_map.mp (pm.mem_iff.mp hc)
  obtain ⟨x,y,rfl,hx,hy⟩:=bx.at_ p hp
  obtain ⟨x',y',h1,h2,e⟩:=T.ia x y hx hy
  exact ⟨x',y',e,h1,h2⟩
theorem Tb.iff (T:Tb k w h w' h' φ ψ) (hk:Kd k) (bx:Bx w h xs):HasF k bo sy w' h' (srt (xs.map φ))↔HasF k bo sy w h xs:=by
 have pm:=cj (xs.map φ)
 constructor
 ·refine jo hk T.b (T.bx bx) bx (fun x y hx hy=>?_) fun c=>?_
  ·obtain ⟨x',y',h1,h2,e⟩:=T.ia x y hx hy
   exact ⟨x',y',h1,h2,by rw [<- e,T.ba]⟩
  ·rw [IA]
   constructor
   ·intro hc
    obtain ⟨x,y,rfl,_⟩:=bx.at_ c hc
    exact ⟨_,pm.mem_iff.mpr (List.mem_map.mpr ⟨_,hc,rfl⟩),T.ba _ _⟩
   ·rintro ⟨d,hd,rfl⟩
    obtain ⟨p,hp,rfl⟩:=List.mem_map.mp (pm.mem_iff.mp hd)
    obtain ⟨x,y,rfl,_⟩:=bx.at_ p hp
    rw [T.ba];exact hp
 ·refine jo hk T.a bx (T.bx bx) (fun x y hx hy=>?_) fun c=>pm.mem_iff
  obtain ⟨x',y',h1,h2,e⟩:=T.ib x y hx hy
  exact ⟨x',y',h1,h2,by rw [<- e,T.ab]⟩
def cel (way:Int) (w h x y:Int):List Int:=if way=0 then [y,x] else if way=1 then [w-1-x,h-1-y] else if way=2 then [w-1-x,y] else [h-1-y,x]
def bxw (way:Int) (w h:Nat):Nat:=if way=0\/way=3 then h else w
def bxh (way:Int) (w h:Nat):Nat:=if way=0\/way=3 then w else h
theorem wF (hk:Kd k) (w h:Nat) {way:Int} (h0:0<=way) (h1:way < 4) (h6:k=6->way < 2):∃ φ ψ,(∀x y:Int,φ [x,y]=cel way w h x y)/\Tb k w h (bxw way w h) (bxh way w h) φ ψ:=by
 rcases (by lia:way=0\/way=1\/way=2\/way=3) with rfl | rfl | rfl | rfl
 ·refine ⟨aff 0 1 0 1 0 0,aff 0 1 0 1 0 0,fun x y=>by simp [aff,cel],⟨ez (a':=0) (b':=1) (c':=0) (d':=1) (e':=0) (f':=0) ?_ hk fun x y=>by simp [aff],ez (a':=0) (b':=1) (c':=0) (d':=1) (e':=0) (f':=0) ?_ hk fun x y=>by simp [aff],fun x y=>by simp [aff],fun x y=>by simp [aff],fun x y hx hy=>⟨y,x,hy,hx,by simp [aff]⟩,fun x y hx hy=>⟨y,x,hy,hx,by simp [aff]⟩⟩⟩
  all_goals (rcases hk with rfl | rfl | rfl <;> decide +kernel)
 ·refine ⟨aff (-1) 0 (w-1) 0 (-1) (h-1),aff (-1) 0 (w-1) 0 (-1) (h-1),fun x y=>by simp only [aff,cel,EU];simp;lia,⟨ez (a':=-1) (b':=0) (c':=w-1) (d':=0) (e':=-1) (f':=h-1) ?_ hk fun x y=>?_,ez (a':=-1) (b':=0) (c':=w-1) (d':=0) (e':=-1) (f':=h-1) ?_ hk fun x y=>?_,fun x y=>?_,fun x y=>?_,fun x y hx hy=>?_,fun x y hx hy=>?_⟩⟩
  ·rcases hk with rfl | rfl | rfl <;> decide +kernel
  ·simp only [aff,EU];lia
  ·rcases hk with rfl | rfl | rfl <;> decide +kernel
  ·simp only [aff,EU];lia
  ·simp only [aff,EU];lia
  ·simp only [aff,EU];lia
  ·exact ⟨w-1-x,h-1-y,by show _ < w;lia,by show _ < h;lia,by simp only [aff,EU];lia⟩
  ·have hx:x < w:=hx
   have hy:y < h:=hy
   exact ⟨w-1-x,h-1-y,by lia,by lia,by simp only [aff,EU];lia⟩
 ·have k6:k≠6:=fun z=>by have:=h6 z;lia
  have kd2:k=4\/k=8:=by rcases hk with rfl | rfl | rfl <;> lia
  refine ⟨aff (-1) 0 (w-1) 0 1 0,aff (-1) 0 (w-1) 0 1 0,fun x y=>by simp only [aff,cel,EU];simp;lia,⟨ez (a':=-1) (b':=0) (c':=w-1) (d':=0) (e':=1) (f':=0) ?_ hk fun x y=>?_,ez (a':=-1) (b':=0) (c':=w-1) (d':=0) (e':=1) (f':=0) ?_ hk fun x y=>?_,fun x y=>?_,fun x y=>?_,fun x y hx hy=>?_,fun x y hx hy=>?_⟩⟩
  ·rcases kd2 with rfl | rfl <;> decide +kernel
  ·simp only [aff,EU];lia
  ·rcases kd2 with rfl | rfl <;> decide +kernel
  ·simp only [aff,EU];lia
  ·simp only [aff,EU];lia
  ·simp only [aff,EU];lia
  ·exact ⟨w-1-x,y,by show _ < w;lia,hy,by simp only [aff,EU];lia⟩
  ·have hx:x < w:=hx
   exact ⟨w-1-x,y,by lia,hy,by simp only [aff,EU];lia⟩
 ·have k6:k≠6:=fun z=>by have:=h6 z;lia
  have kd2:k=4\/k=8:=by rcases hk with rfl | rfl | rfl <;> lia
  refine ⟨aff 0 (-1) (h-1) 1 0 0,aff 0 1 0 (-1) 0 (h-1),fun x y=>by simp only [aff,cel,EU];simp;lia,⟨ez (a':=0) (b':=1) (c':=0) (d':=-1) (e':=0) (f':=h-1) ?_ hk fun x y=>?_,ez (a':=0) (b':=-1) (c':=h-1) (d':=1) (e':=0) (f':=0) ?_ hk fun x y=>?_,fun x y=>?_,fun x y=>?_,fun x y hx hy=>?_,fun x y hx hy=>?_⟩⟩
  ·rcases kd2 with rfl | rfl <;> decide +kernel
  ·simp only [aff,EU];lia
  ·rcases kd2 with rfl | rfl <;> decide +kernel
  ·simp only [aff,EU];lia
  ·simp only [aff,EU];lia
  ·simp only [aff,EU];lia
  ·exact ⟨h-1-y,x,by show _ < h;lia,hx,by simp only [aff,EU];lia⟩
  ·have hx:x < h:=hx
   have hy:y < w:=hy
   exact ⟨y,h-1-x,hy,by lia,by simp only [aff,EU];lia⟩
theorem tj (hk:Kd k) (hw:w'<=w) (hh:h'<=h) (bx:Bx w h xs) {ys:List (List Int)} (by_:Bx w' h' ys) (e:∀x y:Nat,x < w'->y < h'->([(x:Int),(y:Int)]∈ys↔[(x:Int),(y:Int)]∈xs)) (H:HasF k bo sy w h xs):HasF k bo sy w' h' ys:=by
 obtain ⟨ks,hp,hl⟩:=(eu hk bx).mp H
 exact (eu hk by_).mpr ⟨ks,hp,fun x y hx hy=>by rw [hl x y (by lia) (by lia),e x y hx hy]⟩
theorem tm (hk:Kd k) (hw:w<=3) (hh:h<=6) (hp:∀p∈ks,Pr p):HasF k bo sy w h (bec k bo sy (w:Int) (h:Int) ks):=
 (eu hk (sZ hw hh)).mpr ⟨ks,hp,fun x y hx hy=>by
  rw [oo]
  constructor
  ·exact fun z=>⟨x,y,rfl,hx,hy,z⟩
  ·rintro ⟨x',y',e,_,_,z⟩
   injection e with e1 e
   injection e with e2 _
   rw [e1,e2]
   exact z⟩
end
end My
namespace My
open PySem L2 VL
def yk:List D->(D->Prop)->Prop:=fun ds R=>∃(k:Int) (bo st:List Int) (w h:Nat) (xs:List (List Int)),ds=[rl k bo st,eT [(w:Int),(h:Int)],eL xs]/\Kd k/\fsOk (eT [(w:Int),(h:Int)])=true/\Bx w h xs/\(∀p∈xs,Pr p/\inB 0 w h p=true)/\xs.length<=100/\(∀g,Nb (am k bo st) w h (wnt xs) g->R (.tup [.str "father",eL (told h g)])) /\
 (¬ HasF k bo st w h xs->∀kv,Chn (am k bo st) w h (wnt xs) kv->kv (h-1)=[]->R (.tup [.str "none",.lst ((Eo h).map fun i=>eL (srt ((kv i).map (·.1))))]))
section
variable {P:E2} {w:FO} {K:Ed} {mg:Str->Option Ej} {base:Heap}
theorem wG (S:Src K mg "father" gI) (T:Txt mg) (e6_:Has P w K mg base 4 "refuse_no_child" ["size","picture"] (spP K DG)) (e22_:Has P w K mg base 4 "pairs_by_row" ["rule","size","picture"] (spP K DN)) (e23_:Has P w K mg base 1 "rows_back" ["found"] (spP K yi)) (e18_:Has P w K mg base 1 "picture_of" ["rows"] (spP K sO)) (e7_:Has P w K mg base 1 "moved" ["picture","move"] (spP K sR)):Has P w K mg base 5 "father" ["rule","size","picture"] (spP K yk):=by
 refine bI S lE (by walk_at "3") (by walk_at "L") fun f cdv A outer s H E hr=>⟨_,_,(aj (dA (bA e6_ hr (aa (ae 1 (pv 1)) (aa (ae 2 (pv 2)) ai))))
  (aj (aH (i:=3) lE.nd rfl (Ew rfl) (bA e22_ hr (aa (ae 0 (pv 0)) (aa (ae 1 (pv 1)) (aa (ae 2 (pv 2)) ai)))))
  (aj (bE (g8 (vQ rfl (aG rfl (ae 3 (pv 3)) (dJ b8 af) (fun _ _=>rfl)))) (aq (aI (aA (aa cW (aa (aU (bW (tg:=["pairs"]) (cs:=[]) (ix:=[]) (aN (ao gI) ["rule","size","picture","found"] (by decide +kernel)) rfl (bp (by decide)) (by decide) (bC rfl (ae 3 (pv 3))) (fun _ _ _ _=>(aw (au (i:=0) (show (["pairs"]:List Str).Nodup by decide +kernel) rfl (Ew rfl) (by first | exact Ew rfl | exact FS rfl)))) (fun _ _ _ _=>bV) (fun _ _ _ _=>(aU (sj rfl rfl (by rfl) T.sorted_ eJ (aa (ae 0 (pv 0)) ai)))))) ai))))) aP)
  (aq (aI (aA (aa cW (aa (bA e7_ hr (aa (bA e18_ hr (aa (bA e23_ hr (aa (ae 3 (pv 3)) ai)) ai)) (aa (aA (aa (dJ b8 af) (aa (dJ b8 af) ai))) ai))) ai)))))))),?_⟩
 rintro ds R ⟨k,bo,st,w,h,xs,rfl,hk,hf,bx,hp,hl,q,q2⟩
 obtain ⟨⟨w1,w2⟩,h1,h2⟩:=wm hf
 walk_at "sl"
 walk_at "rd"
 refine ⟨w,h,xs,rfl,hf,hp,hl,?_⟩
 walk_at "rd"
 refine ⟨k,bo,st,w,h,xs,rfl,hk,by lia,by lia,by lia,by lia,bx,fun kv hC=>?_⟩
 walk_at "rd"
 have h0:1<=h:=by lia
 have hat:(Eo h).map (fun i=>dc (kv i))=(Eo (h-1)).map (fun i=>dc (kv i))++[dc (kv (h-1))]:=by
  obtain ⟨n,rfl⟩:∃n,h=n+1:=⟨h-1,by lia⟩
  rw [G0,EJ];rfl
 refine fC rfl rfl (d:=dc (kv (h-1))) (by rw [hat];exact lL) ?_
 refine vR (kvs:=kv (h-1)) rfl ?_
 have hsz:∀i < h,(kv i).length<=1024:=fun i hi=>(hC i hi).len (by lia)
 by_cases hne:kv (h-1)=[]
 ·have hno:¬ HasF k bo st w h xs:=fun zq1=>by
   obtain ⟨g0,hg0⟩:=zq1
   have hend:=om hC g0 hg0.1 hg0.2 h (Ek h)
   obtain ⟨n,rfl⟩:∃n,h=n+1:=⟨h-1,by lia⟩
   rw [show n+1-1=n by lia] at hne
   rw [show ahd w kv (n+1)=(kv n).map (·.1) from rfl,hne] at hend
   cases hend
  rw [show ((kv (h-1)).length != 0)=false by rw [hne];rfl]
  walk_at "rc"
  refine comp_map (xs:=Eo h) (en:=fun i=>dc (kv i)) (f:=fun i=>eL (srt ((kv i).map (·.1)))) (by simp;lia) (fun i hi A B hA=>?_) ?_
  ·dsimp only [aV,Ep,EB,Fd,EY,E8]
   walk_at "rd"
   refine sr (kvs:=kv i) (fun ms hm=>?_) ?_
   ·obtain ⟨a,b,rfl⟩:=fK ((hC i (List.mem_range.mp hi)).sub ms hm)
    exact Jh _ _
   ·walk_at "rd"
    exact hA _ rfl
  ·walk_at "rd"
   exact q2 hno kv hC hne
 rw [show ((kv (h-1)).length != 0)=true by cases z:kv (h-1) with | nil=>exact absurd z hne | cons a l=>rfl]
 walk_at "rc"
 refine ⟨am k bo st,w,h,wnt xs,kv,rfl,by lia,h0,by lia,hC,hne,fun g hg=>?_⟩
 walk_at "rd"
 have hgb:∀n∈(Eo (h+2)).map g,0<=n/\n < 2 ^ 60:=fun n hn=>by
  obtain ⟨y,_,rfl⟩:=List.mem_map.mp hn
  have h5:(2:Int) ^ (w+2)<=2 ^ 60:=by
   have h6:=GA (n:=2) (by decide) (show w+2<=60 by lia)
   have h7:((2 ^ (w+2):Nat):Int)<=((2 ^ 60:Nat):Int):=Int.ofNat_le.mpr h6
   simpa using h7
  have:=hg.1 y
  lia
 refine ⟨(Eo (h+2)).map g,rfl,by rw [Eh,Ez];lia,hgb,?_⟩
 walk_at "rd"
 refine ⟨srt (cellsOf ((Eo (h+2)).map g)),-1,-1,rfl,fun p hp=>sX ((cj _).mem_iff.mp hp),?_,?_⟩
 ·rw [(cj _).length_eq]
  have:=pF hgb
  rw [Eh,Ez] at this
  lia
 walk_at "rd"
 exact q g hg
end
end My
namespace My
open PySem L2 VL
def yl:List Int->List D->(D->List Int->Prop)->Prop:=fun pn ds R=>∃(b:Nat) (k:Int),ds=[.int k]/\Kd k/\Pn b pn/\b<=2000/\∀(cs:List Int) pn',Pn (b+12) pn'->R (eT cs) pn'
def ym:List Int->List D->(D->List Int->Prop)->Prop:=fun pn ds R=>∃b:Nat,ds=[]/\Pn b pn/\b<=1000/\∀(k:Int) (bo sy:List Int) pn',Kd k->Pn (b+30) pn'->R (rl k bo sy) pn'
def yn:List Int->List D->(D->List Int->Prop)->Prop:=fun pn ds R=>∃(b:Nat) (t:Int),ds=[.int t]/\Pn b pn/\b<=1000/\∀(w h:Nat) pn',(1<=w/\w<=3)->(1<=h/\h<=3)->Pn (b+4) pn'->R (eT [(w:Int),(h:Int)]) pn'
def tu:List Int->List D->(D->List Int->Prop)->Prop:=fun pn ds R=>∃(b:Nat) (w h:Int),ds=[eT [w,h]]/\fsOk (eT [w,h])=true/\Pn b pn/\b<=1000/\∀ys pn',(∀p∈ys,Pr p)->ys.length<=200->Pn (b+150) pn'->R (eL ys) pn'
def grd (p:Nat->Nat->Bool) (w h:Nat):List (List Int):=(Eo w).flatMap fun x=>(fr (p x) h).map fun (y:Nat)=>[0+(x:Int),0+(y:Int)]
def yo:List Int->List D->(D->List Int->Prop)->Prop:=fun pn ds R=>∃(b w h:Nat),ds=[eT [(w:Int),(h:Int)]]/\fsOk (eT [(w:Int),(h:Int)])=true/\Pn b pn/\b<=1000/\∀(p:Nat->Nat->Bool) pn',Pn (b+30) pn'->R (eL (grd p w h)) pn'
theorem A9 {w h:Nat} (hw:1<=w/\w<=3) (hh:1<=h/\h<=3):fsOk (eT [(w:Int),(h:Int)])=true:=by
 rcases (by lia:w=1\/w=2\/w=3) with rfl | rfl | rfl <;> rcases (by lia:h=1\/h=2\/h=3) with rfl | rfl | rfl <;> decide
theorem lO (p:Nat->Nat->Bool) (w h:Nat):grd p (w+1) h=grd p w h++(fr (p w) h).map fun (y:Nat)=>[0+(w:Int),0+(y:Int)]:=by
 unfold grd
 rw [G0,GO]
 simp
theorem pJ {p q:Nat->Nat->Bool} {w h:Nat} (e:∀x < w,p x=q x):grd p w h=grd q w h:=by
 unfold grd
 rw [List.flatMap_def,List.flatMap_def]
 congr 1
 exact Fg fun x hx=>by rw [e x (List.mem_range.mp hx)]
theorem gP (p:Nat->Nat->Bool) (w h:Nat):(grd p w h).length<=w*h:=by
 unfold grd
 have:=et (F:=fun x=>(fr (p x) h).map fun (y:Nat)=>[0+(x:Int),0+(y:Int)]) (m:=h) (Eo w) fun x _=>by rw [Eh];exact kh _ _
 rwa [Ez] at this
theorem Ba {p:Nat->Nat->Bool} {w h:Nat} (hw:w<=3) (hh:h<=3):Bx w h (grd p w h) where
 nd:=by
  unfold grd
  refine List.pairwise_flatMap.mpr ⟨fun x _=>?_,?_⟩
  ·refine List.pairwise_map.mpr ((List.nodup_range.filter _).imp fun {a b} z e=>z ?_)
   injection e with _ e
   injection e with e _
   lia
  ·refine List.nodup_range.imp fun {y z} hyz a ha b hb e=>hyz ?_
   obtain ⟨x1,_,rfl⟩:=List.mem_map.mp ha
   obtain ⟨x2,_,rfl⟩:=List.mem_map.mp hb
   injection e with e _
   lia
 at_:=fun c hc=>by
  obtain ⟨x,hx,hc⟩:=List.mem_flatMap.mp hc
  obtain ⟨y,hy,rfl⟩:=List.mem_map.mp hc
  exact ⟨x,y,by rw [GK,GK],List.mem_range.mp hx,List.mem_range.mp (List.mem_filter.mp hy).1⟩
 len:=by
  have:=gP p w h
  have g3:w*h<=3*3:=II hw hh
  lia
section
variable {P:E2} {w:FO} {K:Ed} {mg:Str->Option Ej} {base:Heap}
theorem wH (S:Src K mg "_law_some" j8) (T:Txt mg) (e0_:Has P w K mg base 1 "_law_draw" ["_law_pen_here","_law_many"] (spI K 0 gm)):Has P w K mg base 2 "_law_some" ["_law_pen_here","_law_kind"] (spI K 0 yl):=by
 refine ij 0 S j9 (by walk_at "2") (by walk_at "L") fun f cdv A outer s H E hr=>⟨_,_,(aj (aH (i:=2) j9.nd rfl (Ew rfl) (bu e0_ hr (aa (ae 0 (pv 0)) (aa af ai))))
  (aj (bE (aK b7 dM (ae 2 (pv 2)) af (aL _)) (aq (aI (aA ai))) aP)
  (aj (bE (aK b7 dM (ae 2 (pv 2)) af (aL _)) (aq (aI (aA (aa (my rfl (bF (aa (az (ae 1 (pv 1))) (aa af (aa (bu e0_ hr (aa (ae 0 (pv 0)) (aa (ay bj aF (ae 1 (pv 1)) af) ai))) ai)))) (bu e0_ hr (aa (ae 0 (pv 0)) (aa af ai))) (fun _ _=>rfl)) ai)))) aP)
  (aj (aH (i:=3) j9.nd rfl (FS rfl) (ae 2 (pv 2)))
  (aq (aI (hW rfl (by rfl) T.tuple_ (aa (aU (bW (tg:=["_law_count"]) (cs:=["_law_pen_here","_law_thick"]) (ix:=[0,3]) (aN (ao j8) ["_law_pen_here","_law_kind","_law_way","_law_thick"] (by decide +kernel)) rfl (bp (by decide)) (by decide) (aY rfl T.range (aa (ay bj aF (ae 1 (pv 1)) af) ai)) (fun _ _ _ _=>(aw (au (i:=0) (show (["_law_count","_law_pen_here","_law_thick"]:List Str).Nodup by decide +kernel) rfl (Ew rfl) (by first | exact Ew rfl | exact FS rfl)))) (fun _ _ _ _=>(dB (aK b7 dM (bu e0_ hr (aa (ae 1 (pv 1)) (aa (ae 2 (pv 2)) ai))) af (aL _)))) (fun _ _ _ _=>(az (ae 0 (pv 0)))))) ai)))))))),?_⟩
 rintro a pn ds es R hl ⟨b,k,e,hk,hpn,hb,q⟩
 obtain rfl:ds=[]:=Fv hl
 obtain rfl:es=[.int k]:=e
 have hkb:4<=k/\k<=8:=by rcases hk with rfl | rfl | rfl <;> lia
 walk_at "sl"
 walk_at "rd"
 refine ⟨b,4,rfl,hpn,by lia,by lia,by lia,fun pn1 r1 h1 r1a r1b=>?_⟩
 walk_at "rd"
 refine cq (fun c1=>?_) (fun c1=>?_)
 ·walk_at "rd"
  exact ⟨_,rfl,q [] _ (h1.le (by lia))⟩
 ·walk_at "rd"
  refine cq (fun c2=>?_) (fun c2=>?_)
  ·walk_at "rd"
   refine ⟨b+1,k+1,rfl,h1,by lia,by lia,by lia,fun pn2 r2 h2 r2a r2b=>?_⟩
   walk_at "rd"
   refine ⟨b+2,3,rfl,h2,by lia,by lia,by lia,fun pn3 r3 h3 r3a r3b=>?_⟩
   walk_at "rd"
   obtain ⟨c,_,_,ec⟩:=fE (f:=D.int) (l:=[k,0,r2]) r3a r3b
   refine gC rfl ec ?_
   walk_at "rd"
   exact ⟨_,rfl,q [c] _ (h3.le (by lia))⟩
  ·walk_at "rd"
   refine ir (fun j zs S3=>∃(p:Nat->Bool) (pn2:List Int),Pn (b+1+j) pn2/\zs=((fr p j).map fun (t:Nat)=>D.int (0+(t:Int)))/\S3=[.pen (some a) pn2,.val (.int k),.val (.int r1),.val (.int r1)]) (by lia) ⟨fun _=>false,pn1,by simpa using h1,rfl,rfl⟩ ?_ ?_
   ·rintro j zs S3 hj ⟨p,pn2,hp2,rfl,rfl⟩
    dsimp only [aV,Ep,EB,Fd,EY,E8]
    walk_at "rd"
    refine ⟨_,r1,rfl,hp2,by lia,by lia,by lia,fun pn3 r3 hp3 r3a r3b=>?_⟩
    walk_at "rd"
    refine dm (fun e=>?_) (fun e=>?_)
    ·walk_at "rd"
     exact ⟨fun x=>if x=j then true else p x,pn3,hp3,by rw [gc,EJ];rfl,rfl⟩
    ·exact ⟨fun x=>if x=j then false else p x,pn3,hp3,by rw [gc,EJ];simp,rfl⟩
   ·rintro zs S3 ⟨p,pn2,hp2,rfl,rfl⟩
    walk_at "rd"
    refine ny rfl (jm _ _) ?_
    walk_at "rd"
    rw [oe]
    exact ⟨_,rfl,q _ _ (hp2.le (by lia))⟩
theorem wJ (S:Src K mg "_law_rule" mM) (T:Txt mg) (e0_:Has P w K mg base 1 "_law_draw" ["_law_pen_here","_law_many"] (spI K 0 gm)) (e4_:Has P w K mg base 2 "_law_some" ["_law_pen_here","_law_kind"] (spI K 0 yl)):Has P w K mg base 3 "_law_rule" ["_law_pen_here"] (spI K 0 ym):=by
 refine ij 0 S n6 (by walk_at "1") (by walk_at "L") fun f cdv A outer s H E hr=>⟨_,_,(aj (aH (i:=1) n6.nd rfl (Ew rfl) (aG rfl (aU (bF (aa af (aa af (aa af ai))))) (bu e0_ hr (aa (ae 0 (pv 0)) (aa af ai))) (fun _ _=>rfl)))
  (aq (aI (aA (aa (az (ae 1 (pv 1))) (aa (bu e4_ hr (aa (ae 0 (pv 0)) (aa (ae 1 (pv 1)) ai))) (aa (bu e4_ hr (aa (ae 0 (pv 0)) (aa (ae 1 (pv 1)) ai))) ai))))))),?_⟩
 rintro a pn ds es R hl ⟨b,e,hpn,hb,q⟩
 obtain rfl:ds=[]:=Fv hl
 obtain rfl:es=[]:=e
 walk_at "sl"
 walk_at "rd"
 refine ⟨b,3,rfl,hpn,by lia,by lia,by lia,fun pn1 r1 h1 r1a r1b=>?_⟩
 walk_at "rd"
 obtain ⟨k,hk,ek⟩:=DM r1a r1b
 refine fC rfl rfl ek ?_
 walk_at "rd"
 refine ⟨b+1,k,rfl,hk,h1,by lia,fun bo pn2 h2=>?_⟩
 walk_at "rd"
 refine ⟨b+1+12,k,rfl,hk,h2,by lia,fun sy pn3 h3=>?_⟩
 walk_at "rd"
 exact ⟨_,rfl,q k bo sy _ hk (h3.le (by lia))⟩
theorem wK (S:Src K mg "_law_size" mP) (T:Txt mg) (e0_:Has P w K mg base 1 "_law_draw" ["_law_pen_here","_law_many"] (spI K 0 gm)):Has P w K mg base 2 "_law_size" ["_law_pen_here","_law_at"] (spI K 0 yn):=by
 refine ij 0 S vT (by walk_at "2") (by walk_at "L") fun f cdv A outer s H E hr=>⟨_,_,(aj (bE (cR (dW (aK b7 dM (bu e0_ hr (aa (ae 0 (pv 0)) (aa af ai))) af (aL _)) (cQ (aK b7 dM (ae 1 (pv 1)) af (aL _))))) (aq (aI (my rfl (bF (aa (aA (aa af (aa af ai))) (aa (aA (aa af (aa af ai))) ai))) (bu e0_ hr (aa (ae 0 (pv 0)) (aa af ai))) (fun _ _=>rfl)))) aP)
  (aq (aI (my rfl (bF (aa (aA (aa af (aa af ai))) (aa (aA (aa af (aa af ai))) (aa (aA (aa af (aa af ai))) (aa (aA (aa af (aa af ai))) (aa (aA (aa af (aa af ai))) (aa (aA (aa af (aa af ai))) ai))))))) (bu e0_ hr (aa (ae 0 (pv 0)) (aa af ai))) (fun _ _=>rfl))))),?_⟩
 rintro a pn ds es R hl ⟨b,t,e,hpn,hb,q⟩
 obtain rfl:ds=[]:=Fv hl
 obtain rfl:es=[.int t]:=e
 have pk:∀(wh:Nat×Nat) pn',wh∈[(1,1),(1,2),(2,1),(2,2),(1,3),(3,1)]->Pn (b+4) pn'->R (eT [(wh.1:Int),(wh.2:Int)]) pn':=fun wh pn' hm hp=>by
  refine q wh.1 wh.2 pn' ?_ ?_ hp
  all_goals
   simp only [Hn,Hi,or_false] at hm
   rcases hm with rfl | rfl | rfl | rfl | rfl | rfl <;> decide
 walk_at "sl"
 walk_at "rd"
 refine ⟨b,40,rfl,hpn,by lia,by lia,by lia,fun pn1 r1 h1 r1a r1b=>?_⟩
 walk_at "rd"
 have rest:∀Q:D->List Int->Prop,True:=fun _=>trivial
 by_cases e:r1=39
 ·rw [decide_eq_true e]
  walk_at "rc"
  refine cq (fun z=>?_) (fun z=>?_)
  ·walk_at "rd"
   refine ⟨b+1,2,rfl,h1,by lia,by lia,by lia,fun pn2 r2 h2 r2a r2b=>?_⟩
   walk_at "rd"
   obtain ⟨c,hc,_,ec⟩:=fE (f:=fun wh:Nat×Nat=>eT [(wh.1:Int),(wh.2:Int)]) (l:=[(1,3),(3,1)]) r2a r2b
   refine gC rfl ec ?_
   walk_at "rd"
   exact ⟨_,rfl,pk c _ (by simp only [Hn,Hi,or_false] at hc ⊢;rcases hc with rfl | rfl <;> simp) (h2.le (by lia))⟩
  ·walk_at "rd"
   refine ⟨b+1,6,rfl,h1,by lia,by lia,by lia,fun pn2 r2 h2 r2a r2b=>?_⟩
   walk_at "rd"
   obtain ⟨c,hc,_,ec⟩:=fE (f:=fun wh:Nat×Nat=>eT [(wh.1:Int),(wh.2:Int)]) (l:=[(1,1),(1,2),(2,1),(2,2),(1,2),(2,1)]) r2a r2b
   refine gC rfl ec ?_
   walk_at "rd"
   exact ⟨_,rfl,pk c _ (by simp only [Hn,Hi,or_false] at hc ⊢;rcases hc with rfl | rfl | rfl | rfl | rfl | rfl <;> simp) (h2.le (by lia))⟩
 ·rw [decide_eq_false e]
  walk_at "rc"
  walk_at "rd"
  refine ⟨b+1,6,rfl,h1,by lia,by lia,by lia,fun pn2 r2 h2 r2a r2b=>?_⟩
  walk_at "rd"
  obtain ⟨c,hc,_,ec⟩:=fE (f:=fun wh:Nat×Nat=>eT [(wh.1:Int),(wh.2:Int)]) (l:=[(1,1),(1,2),(2,1),(2,2),(1,2),(2,1)]) r2a r2b
  refine gC rfl ec ?_
  walk_at "rd"
  exact ⟨_,rfl,pk c _ (by simp only [Hn,Hi,or_false] at hc ⊢;rcases hc with rfl | rfl | rfl | rfl | rfl | rfl <;> simp) (h2.le (by lia))⟩
theorem tw (S:Src K mg "_law_world" gL) (T:Txt mg) (e0_:Has P w K mg base 1 "_law_draw" ["_law_pen_here","_law_many"] (spI K 0 gm)):Has P w K mg base 2 "_law_world" ["_law_pen_here","_law_size_here"] (spI K 0 tu):=by
 refine ij 0 S fI (by walk_at "2") (by walk_at "L") fun f cdv A outer s H E hr=>⟨_,_,(aj (cB (fun _ h=>bQ (i:=2) fI.nd rfl (Ew rfl) h) (bF ai))
  (aj (aH (i:=3) fI.nd rfl (FS rfl) (ay bj aF af (bu e0_ hr (aa (ae 0 (pv 0)) (aa af ai)))))
  (aj (bR Fx rfl (fR rfl T.range (aa (dJ b8 af) (aa (ay bj aF (aG rfl (ae 1 (pv 1)) af (fun _ _=>rfl)) af) ai))) (aw (au (i:=4) fI.nd rfl (FS rfl) (Ew rfl))) (aq (dA (Ap 2 rfl (pv 2) (bW (tg:=["_law_y"]) (cs:=["_law_x","_law_pen_here","_law_thick"]) (ix:=[4,0,3]) (aN (ao gL) ["_law_pen_here","_law_size_here","_law_found","_law_thick","_law_x"] (by decide +kernel)) rfl (bp (by decide)) (by decide) (fR rfl T.range (aa (dJ b8 af) (aa (ay bj aF (aG rfl (ae 1 (pv 1)) af (fun _ _=>rfl)) af) ai))) (fun _ _ _ _=>(aw (au (i:=0) (show (["_law_y","_law_x","_law_pen_here","_law_thick"]:List Str).Nodup by decide +kernel) rfl (Ew rfl) (by first | exact Ew rfl | exact FS rfl)))) (fun _ _ _ _=>(dB (aK b7 dM (bu e0_ hr (aa (ae 2 (pv 2)) (aa (ae 3 (pv 3)) ai))) af (aL _)))) (fun _ _ _ _=>(aA (aa (az (ae 1 (pv 1))) (aa (az (ae 0 (pv 0))) ai)))))))))
  (aq (aI (az (ae 2 (pv 2)))))))),?_⟩
 rintro a pn ds es R hl ⟨b,w,h,e,hf,hpn,hb,q⟩
 obtain ⟨⟨w1,w2⟩,h1,h2⟩:=wm hf
 obtain rfl:ds=[]:=Fv hl
 obtain rfl:es=[eT [w,h]]:=e
 walk_at "sl"
 walk_at "rd"
 refine ⟨b,3,rfl,hpn,by lia,by lia,by lia,fun pn1 r1 p1 r1a r1b=>?_⟩
 walk_at "rd"
 refine eK (fun i S=>∃ys pn' s4,Pn (b+1+i*12) pn'/\(∀p∈ys,Pr p)/\ys.length<=12*i/\S=[.pen (some a) pn',.val (eT [w,h]),.own (ys.map eT),.val (.int (2+r1)),s4]) ⟨[],pn1,_,by simpa using p1,(fun _ z=>(Hi z).elim),by simp,rfl⟩ ?_ ?_
 ·rintro i S2 hi ⟨ys,pn',s4,hp',hr',hl',rfl⟩
  have hi':i < 9:=by lia
  walk_at "rd"
  refine ir (fun j zs S3=>∃(p:Nat->Bool) (pn2:List Int),Pn (b+1+i*12+j) pn2/\zs=((fr p j).map fun (t:Nat)=>eT [-3+(i:Int),-3+(t:Int)])/\S3=[.pen (some a) pn2,.val (eT [w,h]),.own (ys.map eT),.val (.int (2+r1)),.val (.int (-3+(i:Int)))]) (by lia) ⟨fun _=>false,pn',by simpa using hp',rfl,rfl⟩ ?_ ?_
  ·rintro j zs S3 hj ⟨p,pn2,hp2,rfl,rfl⟩
   have hj':j < 12:=by lia
   dsimp only [aV,Ep,EB,Fd,EY,E8]
   walk_at "rd"
   refine ⟨_,2+r1,rfl,hp2,by lia,by lia,by lia,fun pn3 r3 hp3 r3a r3b=>?_⟩
   walk_at "rd"
   refine dm (fun e=>?_) (fun e=>?_)
   ·walk_at "rd"
    exact ⟨fun x=>if x=j then true else p x,pn3,hp3,by rw [gc,EJ];rfl,rfl⟩
   ·exact ⟨fun x=>if x=j then false else p x,pn3,hp3,by rw [gc,EJ];simp,rfl⟩
  ·rintro zs S3 ⟨p,pn2,hp2,rfl,rfl⟩
   have hf':=kh p (h+3-(-3)).toNat
   refine Ar rfl (by simp only [Eh];lia) ?_
   walk_at "rd"
   refine ⟨ys++(fr p (h+3-(-3)).toNat).map fun (j:Nat)=>[-3+(i:Int),-3+(j:Int)],pn2,_,hp2.le (by lia),fun z hz=>?_,by rw [E7,Eh];lia,by rw [EJ,EZ];rfl⟩
   rcases List.mem_append.mp hz with hz | hz
   ·exact hr' z hz
   ·obtain ⟨j,_,rfl⟩:=List.mem_map.mp hz
    exact ⟨_,_,rfl⟩
 ·rintro S2 ⟨ys,pn',s4,hp',hr',hl',rfl⟩
  walk_at "rd"
  exact ⟨_,rfl,q ys _ hr' (by lia) (hp'.le (by lia))⟩
theorem wL (S:Src K mg "_law_picture" gb) (T:Txt mg) (e0_:Has P w K mg base 1 "_law_draw" ["_law_pen_here","_law_many"] (spI K 0 gm)):Has P w K mg base 2 "_law_picture" ["_law_pen_here","_law_size_here"] (spI K 0 yo):=by
 refine ij 0 S cN (by walk_at "2") (by walk_at "L") fun f cdv A outer s H E hr=>⟨_,_,(aj (aH (i:=2) cN.nd rfl (Ew rfl) (bu e0_ hr (aa (ae 0 (pv 0)) (aa af ai))))
  (aj (cB (fun _ h=>bQ (i:=3) cN.nd rfl (Ew rfl) h) (bF ai))
  (aj (bR Fx rfl (aY rfl T.range (aa (aG rfl (ae 1 (pv 1)) af (fun _ _=>rfl)) ai)) (aw (au (i:=4) cN.nd rfl (Ew rfl) (Ew rfl))) (aq (bR Fx rfl (aY rfl T.range (aa (aG rfl (ae 1 (pv 1)) af (fun _ _=>rfl)) ai)) (aw (au (i:=5) cN.nd rfl (Ew rfl) (Ew rfl))) (aq (bE (cR (g7 (aK b7 dM (ae 2 (pv 2)) af (aL _)) (fO (cR (dW (aK kr aF (ae 2 (pv 2)) af (aL _)) (cQ (aK b7 dM (bu e0_ hr (aa (ae 0 (pv 0)) (aa af ai))) af (aL _)))))))) (aq (dA (hZ 3 rfl (pv 3) (aA (aa (az (ae 4 (pv 4))) (aa (az (ae 5 (pv 5))) ai)))))) aP)))))
  (aq (aI (az (ae 3 (pv 3)))))))),?_⟩
 rintro a pn ds es R hl ⟨b,w,h,e,hf,hpn,hb,q⟩
 obtain ⟨⟨w1,w2⟩,h1,h2⟩:=wm hf
 obtain rfl:ds=[]:=Fv hl
 obtain rfl:es=[eT [(w:Int),(h:Int)]]:=e
 walk_at "sl"
 walk_at "rd"
 refine ⟨b,5,rfl,hpn,by lia,by lia,by lia,fun pn1 r1 p1 r1a r1b=>?_⟩
 walk_at "rd"
 refine eK (fun i S=>∃(p:Nat->Nat->Bool) (pn':List Int) (s4 s5:Sl),Pn (b+1+i*6) pn'/\S=[.pen (some a) pn',.val (eT [(w:Int),(h:Int)]),.val (.int r1),.own ((grd p i h).map eT),s4,s5]) ⟨fun _ _=>false,pn1,_,_,by simpa using p1,rfl⟩ ?_ ?_
 ·rintro i S2 hi ⟨p,pn',s4,s5,hp',rfl⟩
  have hi':i < 3:=by lia
  walk_at "rd"
  refine eK (fun j S=>∃(p2:Nat->Bool) (pn2:List Int) (s5:Sl),Pn (b+1+i*6+j) pn2/\S=[.pen (some a) pn2,.val (eT [(w:Int),(h:Int)]),.val (.int r1),.own ((grd p i h++(fr p2 j).map fun (y:Nat)=>[0+(i:Int),0+(y:Int)]).map eT),.val (.int (0+(i:Int))),s5]) ⟨fun _=>false,pn',s5,by simpa using hp',by simp [fr]⟩ ?_ ?_
  ·rintro j S3 hj ⟨p2,pn2,s5,hp2,rfl⟩
   have hj':j < 6:=by lia
   have hl2:((grd p i h++(fr p2 j).map fun (y:Nat)=>[0+(i:Int),0+(y:Int)]).map eT).length<=100:=by
    have g1:=gP p i h
    have g2:=kh p2 j
    have g3:i*h<=3*6:=II (by lia) (by lia)
    rw [Eh,E7,Eh]
    lia
   have yes:∀p3:Nat->Bool,(∀x < j,p3 x=p2 x)->p3 j=true->(grd p i h++(fr p2 j).map fun (y:Nat)=>[0+(i:Int),0+(y:Int)]).map eT++[eT [0+(i:Int),0+(j:Int)]]=(grd p i h++(fr p3 (j+1)).map fun (y:Nat)=>[0+(i:Int),0+(y:Int)]).map eT:=fun p3 e1 e2=>by
    have ef:fr p3 j=fr p2 j:=G5 fun x hx=>e1 x (List.mem_range.mp hx)
    rw [fJ,if_pos e2,ef]
    simp
   have no:∀p3:Nat->Bool,(∀x < j,p3 x=p2 x)->p3 j=false->(grd p i h++(fr p2 j).map fun (y:Nat)=>[0+(i:Int),0+(y:Int)]).map eT=(grd p i h++(fr p3 (j+1)).map fun (y:Nat)=>[0+(i:Int),0+(y:Int)]).map eT:=fun p3 e1 e2=>by
    have ef:fr p3 j=fr p2 j:=G5 fun x hx=>e1 x (List.mem_range.mp hx)
    rw [fJ,e2,ef]
    simp
   walk_at "rd"
   by_cases c1:r1=1
   ·rw [decide_eq_true c1]
    walk_at "rc"
    exact ⟨fun x=>if x=j then true else p2 x,pn2,_,hp2.le (by lia),by rw [<- yes (fun x=>if x=j then true else p2 x) (fun x hx=>if_neg (by lia)) (if_pos rfl)];rfl⟩
   ·rw [decide_eq_false c1]
    walk_at "rc"
    by_cases c2:1 < r1
    ·rw [decide_eq_true c2]
     walk_at "rc"
     refine ⟨_,2,rfl,hp2,by lia,by lia,by lia,fun pn3 r3 hp3 r3a r3b=>?_⟩
     walk_at "rd"
     refine cq (fun c3=>?_) (fun c3=>?_)
     ·walk_at "rd"
      exact ⟨fun x=>if x=j then true else p2 x,pn3,_,hp3.le (by lia),by rw [<- yes (fun x=>if x=j then true else p2 x) (fun x hx=>if_neg (by lia)) (if_pos rfl)];rfl⟩
     ·walk_at "rd"
      exact ⟨fun x=>if x=j then false else p2 x,pn3,_,hp3.le (by lia),by rw [<- no (fun x=>if x=j then false else p2 x) (fun x hx=>if_neg (by lia)) (if_pos rfl)];rfl⟩
    ·rw [decide_eq_false c2]
     walk_at "rc"
     exact ⟨fun x=>if x=j then false else p2 x,pn2,_,hp2.le (by lia),by rw [<- no (fun x=>if x=j then false else p2 x) (fun x hx=>if_neg (by lia)) (if_pos rfl)]⟩
  ·rintro S3 ⟨p2,pn2,s5,hp2,rfl⟩
   walk_at "rd"
   refine ⟨fun x=>if x=i then p2 else p x,pn2,.val (.int (0+(i:Int))),s5,hp2.le (by lia),?_⟩
   rw [lO,pJ (q:=p) fun x hx=>if_neg (by lia),if_pos rfl,FL]
 ·rintro S2 ⟨p,pn',s4,s5,hp',rfl⟩
  walk_at "rd"
  exact ⟨_,rfl,q p _ (hp'.le (by lia))⟩
end
end My
namespace My
open PySem L2 VL
def tx:List D->(D->Prop)->Prop:=fun ds R=>∃k bo sy w h ys,ds=[rl k bo sy,eT [w,h],eL ys]/\Kd k/\fsOk (eT [w,h])=true/\ys.length<=300/\R (eL (bec k bo sy w h ys))
def tD:List D->(D->Prop)->Prop:=fun ds R=>∃(k:Int) (bo st:List Int) (w h:Nat) (xs:List (List Int)),ds=[rl k bo st,eT [(w:Int),(h:Int)],eL xs]/\Kd k/\fsOk (eT [(w:Int),(h:Int)])=true/\Bx w h xs/\xs.length<=100/\(HasF k bo st w h xs->R (.str "father"))/\(¬ HasF k bo st w h xs->R (.str "none"))
def oq:List Int->List D->(D->List Int->Prop)->Prop:=fun pn ds R=>∃(b:Nat) (k:Int) (w h:Nat) (xs:List (List Int)),ds=[.int k,eT [(w:Int),(h:Int)],eL xs]/\Kd k/\Bx w h xs/\xs.length<=100/\Pn b pn/\b<=1000/\∀(way:Int) (ys:List (List Int)) pn',0<=way->way < 4->(k=6->way < 2)->ys=srt (xs.map fun c=>cel way w h (c.getD 0 0) (c.getD 1 0))->Pn (b+2) pn'->R (.tup [eT [(bxw way w h:Int),(bxh way w h:Int)],eL ys]) pn'
def lP:List D->(D->Prop)->Prop:=fun ds R=>∃(w h:Nat) (xs:List (List Int)),ds=[eT [(w:Int),(h:Int)],eL xs]/\(∀p∈xs,Pr p)/\xs.length<=100/\1<=w/\1<=h/\(1 < w\/1 < h) /\
 ∀w' h':Nat,((h=1/\w'=w-1/\h'=1)\/(1 < h/\w'=w/\h'=h-1))->R (.tup [eT [(w':Int),(h':Int)],eL (xs.filter fun c=>decide (c.getD 0 0 < (w':Int))&&decide (c.getD 1 0 < (h':Int)))])
theorem tE (way w h x y:Int):Pr (cel way w h x y):=by
 unfold cel
 split
 ·exact ⟨_,_,rfl⟩
 ·split
  ·exact ⟨_,_,rfl⟩
  ·split <;> exact ⟨_,_,rfl⟩
section
variable {P:E2} {w:FO} {K:Ed} {mg:Str->Option Ej} {base:Heap}
theorem tF (S:Src K mg "_law_shown" gK) (T:Txt mg) (e17_:Has P w K mg base 1 "_law_near" ["_law_kind"] (spP K yg)):Has P w K mg base 2 "_law_shown" ["_law_code","_law_size_here","_law_world_here"] (spP K tx):=by
 refine bI S cm (by walk_at "3") (by walk_at "L") fun f cdv A outer s H E hr=>⟨_,_,(aj (nG (fun _ h=>bQ (i:=3) cm.nd rfl (FS rfl) h) qY)
  (aj (bR Fx rfl (bC rfl (ae 2 (pv 2))) (aw (au (i:=4) cm.nd rfl (Ew rfl) (Ew rfl))) (aq (nH 3 rfl hr.units (pv 3) gX (ae 4 (pv 4)))))
  (aj (aH (i:=5) cm.nd rfl (Ew rfl) (bA e17_ hr (aa (aG rfl (ae 0 (pv 0)) af (fun _ _=>rfl)) ai)))
  (aj (cB (fun _ h=>bQ (i:=6) cm.nd rfl (Ew rfl) h) (bF ai))
  (aj (bR Fx rfl (aY rfl T.range (aa (aG rfl (ae 1 (pv 1)) af (fun _ _=>rfl)) ai)) (aw (au (i:=7) cm.nd rfl (FS rfl) (Ew rfl))) (aq (bR Fx rfl (aY rfl T.range (aa (aG rfl (ae 1 (pv 1)) af (fun _ _=>rfl)) ai)) (aw (au (i:=8) cm.nd rfl (FS rfl) (Ew rfl))) (aj (aH (i:=9) cm.nd rfl (Ew rfl) (br (iq (K:=K) rfl) hV (by rfl) T.len_ eW (aa (aU (bW (tg:=["_law_step"]) (cs:=["_law_live","_law_x","_law_y"]) (ix:=[3,7,8]) (aN (ao gK) ["_law_code","_law_size_here","_law_world_here","_law_live","_law_cell","_law_near_here","_law_found","_law_x","_law_y","_law_count"] (by decide +kernel)) rfl (bp (by decide)) (by decide) (bC rfl (ae 5 (pv 5))) (fun _ _ _ _=>(aw (au (i:=0) (show (["_law_step","_law_live","_law_x","_law_y"]:List Str).Nodup by decide +kernel) rfl (Ew rfl) (by first | exact Ew rfl | exact FS rfl)))) (fun _ _ _ _=>(dB (aK (xD (K:=K) rfl hr.units) qW (aA (aa (ay bj aF (ae 2 (pv 2)) (aG rfl (ae 0 (pv 0)) af (fun _ _=>rfl))) (aa (ay bj aF (ae 3 (pv 3)) (aG rfl (ae 0 (pv 0)) af (fun _ _=>rfl))) ai))) (ae 1 (pv 1)) (by with_unfolding_all rfl)))) (fun _ _ _ _=>(az (ae 0 (pv 0)))))) ai)))
  (aq (bE (cR (g7 (cR (dW (aK (xD (K:=K) rfl hr.units) qW (aA (aa (ae 7 (pv 7)) (aa (ae 8 (pv 8)) ai))) (ae 3 (pv 3)) (by with_unfolding_all rfl)) (cQ (aK (ml (K:=K) rfl hr.units) qB (ae 9 (pv 9)) (aG rfl (ae 0 (pv 0)) af (fun _ _=>rfl)) (by with_unfolding_all rfl))))) (fO (cR (dW (aK (qX (K:=K) rfl hr.units) qW (aA (aa (ae 7 (pv 7)) (aa (ae 8 (pv 8)) ai))) (ae 3 (pv 3)) (by with_unfolding_all rfl)) (cQ (aK (ml (K:=K) rfl hr.units) qB (ae 9 (pv 9)) (aG rfl (ae 0 (pv 0)) af (fun _ _=>rfl)) (by with_unfolding_all rfl)))))))) (aq (dA (hZ 6 rfl (pv 6) (aA (aa (az (ae 7 (pv 7))) (aa (az (ae 8 (pv 8))) ai)))))) aP))))))
  (aq (aI (az (ae 6 (pv 6)))))))))),?_⟩
 rintro ds R ⟨k,bo,sy,w,h,ys,rfl,hk,hf,hl,q⟩
 obtain ⟨⟨w1,w2⟩,h1,h2⟩:=wm hf
 have hsl:(st k).length<=8:=by rcases hk with rfl | rfl | rfl <;> decide
 walk_at "sl"
 walk_at "rd"
 unfold rl
 refine cX (fun i S=>∃kvs s4,(∀c,c∈kvs.map (·.1)↔c∈ys.take i)/\kvs.length<=i/\S=[.val (rl k bo sy),.val (eT [w,h]),.val (eL ys),od kvs,s4,.no,.no,.no,.no,.no]) ⟨[],_,fun c=>by simp,by simp,rfl⟩ ?_ ?_
 ·rintro i d S2 e ⟨kvs,s4,hc,hl',rfl⟩
  obtain ⟨p,e1,rfl,hm,ht⟩:=aJ e
  have hi:i < ys.length:=(List.getElem?_eq_some_iff.mp e1).1
  walk_at "rd"
  refine kZ (kvs:=kvs) (ms:=p) rfl rfl (by lia) ?_
  refine ⟨_,_,fun c=>?_,?_,rfl⟩
  ·rw [iB,hc c,ht,List.mem_append,Gm,or_comm]
  ·have:(cu kvs p (.bl true)).length<=kvs.length+1:=by unfold cu;split <;> simp
   lia
 ·rintro S2 ⟨kvs,s4,hc,hl',rfl⟩
  rw [Eh,Fs] at hc
  unfold rl
  walk_at "rd"
  refine ⟨k,rfl,hk,?_⟩
  walk_at "rd"
  have hF:∀i:Nat,(Eo i).flatMap (fun (x:Nat)=>((Eo h.toNat).filter fun (y:Nat)=>lives k bo sy ys (0+(x:Int)) (0+(y:Int))).map fun (y:Nat)=>[0+(x:Int),0+(y:Int)])=grd (fun (x y:Nat)=>lives k bo sy ys (0+(x:Int)) (0+(y:Int))) i h.toNat:=fun i=>rfl
  refine eK (fun i S=>∃s7 s8 s9,S=[.val (rl k bo sy),.val (eT [w,h]),.val (eL ys),od kvs,s4,.val (eL (st k)),.own ((grd (fun (x y:Nat)=>lives k bo sy ys (0+(x:Int)) (0+(y:Int))) i h.toNat).map eT),s7,s8,s9]) ⟨_,_,_,rfl⟩ ?_ ?_
  ·rintro i S2 hi ⟨s7,s8,s9,rfl⟩
   have hi':i < 3:=by lia
   unfold rl
   walk_at "rd"
   refine eK (fun j S=>∃s8 s9,S=[.val (rl k bo sy),.val (eT [w,h]),.val (eL ys),od kvs,s4,.val (eL (st k)),.own ((grd (fun (x y:Nat)=>lives k bo sy ys (0+(x:Int)) (0+(y:Int))) i h.toNat++(fr (fun (y:Nat)=>lives k bo sy ys (0+(i:Int)) (0+(y:Int))) j).map fun (y:Nat)=>[0+(i:Int),0+(y:Int)]).map eT),.val (.int (0+(i:Int))),s8,s9]) ⟨s8,s9,by simp only [fr,List.range_zero,List.filter_nil,Fd,FY];rfl⟩ ?_ ?_
   ·rintro j S3 hj ⟨s8,s9,rfl⟩
    have hj':j < 6:=by lia
    unfold rl
    walk_at "rd"
    refine ck (xs:=st k) (en:=eT) (f:=eT) (p:=fun m=>decide (nx2 (0+(i:Int)) (0+(j:Int)) m∈kvs.map (·.1))) (by lia) (fun m hm A B hA hB=>?_) ?_
    ·obtain ⟨dx,dy,rfl⟩:=DE hk ((ke hk).mem_iff.mp hm)
     dsimp only [aV,Ep,EB,Fd,EY,E8]
     walk_at "rd"
     refine jL (ms:=[0+(i:Int)+dx,0+(j:Int)+dy]) (kvs:=kvs) rfl rfl ?_
     walk_at "rd"
     cases hp:decide (nx2 (0+(i:Int)) (0+(j:Int)) [dx,dy]∈kvs.map (·.1)) with
     | true=>
      rw [show (if false=true then !decide ([0+(i:Int)+dx,0+(j:Int)+dy]∈kvs.map (·.1)) else decide ([0+(i:Int)+dx,0+(j:Int)+dy]∈kvs.map (·.1)))=true from hp]
      walk_at "rd"
      exact hA _ rfl hp
     | false=>
      rw [show (if false=true then !decide ([0+(i:Int)+dx,0+(j:Int)+dy]∈kvs.map (·.1)) else decide ([0+(i:Int)+dx,0+(j:Int)+dy]∈kvs.map (·.1)))=false from hp]
      walk_at "rd"
      exact hB _ rfl hp
    ·walk_at "rd"
     rw [Eh]
     have el:=lJ (k:=k) (bo:=bo) (sy:=sy) hc (0+(i:Int)) (0+(j:Int))
     have hl2:((grd (fun (x y:Nat)=>lives k bo sy ys (0+(x:Int)) (0+(y:Int))) i h.toNat++(fr (fun (y:Nat)=>lives k bo sy ys (0+(i:Int)) (0+(y:Int))) j).map fun (y:Nat)=>[0+(i:Int),0+(y:Int)]).map eT).length<=1000000:=by
      have g1:=gP (fun (x y:Nat)=>lives k bo sy ys (0+(x:Int)) (0+(y:Int))) i h.toNat
      have g2:=kh (fun (y:Nat)=>lives k bo sy ys (0+(i:Int)) (0+(y:Int))) j
      have g3:i*h.toNat<=3*6:=II (by lia) (by lia)
      rw [Eh,E7,Eh]
      lia
     have hfr:=fJ (fun (y:Nat)=>lives k bo sy ys (0+(i:Int)) (0+(y:Int))) j
     refine jL (ms:=[0+(i:Int),0+(j:Int)]) (kvs:=kvs) rfl rfl ?_
     walk_at "rd"
     rw [lives] at el
     by_cases hm:[0+(i:Int),0+(j:Int)]∈kvs.map (·.1)
     ·rw [if_pos hm] at el
      rw [show (if false=true then !decide ([0+(i:Int),0+(j:Int)]∈kvs.map (·.1)) else decide ([0+(i:Int),0+(j:Int)]∈kvs.map (·.1)))=true from decide_eq_true hm]
      walk_at "rd"
      refine jM (f:=D.int) fB ?_
      rw [el]
      cases hv:lives k bo sy ys (0+(i:Int)) (0+(j:Int)) with
      | true=>
       walk_at "rc"
       exact ⟨_,_,by rw [hfr,if_pos hv];simp only [EJ,Ey];rfl⟩
      | false=>
       walk_at "rc"
       refine jL (ms:=[0+(i:Int),0+(j:Int)]) (kvs:=kvs) rfl rfl ?_
       rw [show (if true=true then !decide ([0+(i:Int),0+(j:Int)]∈kvs.map (·.1)) else decide ([0+(i:Int),0+(j:Int)]∈kvs.map (·.1)))=false by rw [if_pos rfl,decide_eq_true hm];rfl]
       walk_at "rc"
       exact ⟨_,_,by rw [hfr,hv];simp only [Gi,if_false,FY];rfl⟩
     ·rw [if_neg hm] at el
      rw [show (if false=true then !decide ([0+(i:Int),0+(j:Int)]∈kvs.map (·.1)) else decide ([0+(i:Int),0+(j:Int)]∈kvs.map (·.1)))=false from decide_eq_false hm]
      walk_at "rc"
      refine jL (ms:=[0+(i:Int),0+(j:Int)]) (kvs:=kvs) rfl rfl ?_
      rw [show (if true=true then !decide ([0+(i:Int),0+(j:Int)]∈kvs.map (·.1)) else decide ([0+(i:Int),0+(j:Int)]∈kvs.map (·.1)))=true by rw [if_pos rfl,decide_eq_false hm];rfl]
      walk_at "rc"
      refine jM (f:=D.int) fB ?_
      rw [el]
      cases hv:lives k bo sy ys (0+(i:Int)) (0+(j:Int)) with
      | true=>
       walk_at "rc"
       exact ⟨_,_,by rw [hfr,if_pos hv];simp only [EJ,Ey];rfl⟩
      | false=>
       walk_at "rc"
       exact ⟨_,_,by rw [hfr,hv];simp only [Gi,if_false,FY];rfl⟩
   ·rintro S3 ⟨s8,s9,rfl⟩
    walk_at "rd"
    exact ⟨_,s8,s9,by rw [lO];rfl⟩
  ·rintro S2 ⟨s7,s8,s9,rfl⟩
   walk_at "rd"
   exact q
theorem wM (S:Src K mg "_law_word" mQ) (T:Txt mg) (e9_:Has P w K mg base 5 "father" ["rule","size","picture"] (spP K yk)):Has P w K mg base 6 "_law_word" ["_law_code","_law_size_here","_law_live"] (spP K tD):=by
 refine bI S n8 (by walk_at "3") (by walk_at "L") fun f cdv A outer s H E hr=>⟨_,_,(aj (aH (i:=3) n8.nd rfl (Ew rfl) (bA e9_ hr (aa (ae 0 (pv 0)) (aa (ae 1 (pv 1)) (aa (ae 2 (pv 2)) ai)))))
  (aj (bE (cR (g7 (g8 (eY (br (nk (K:=K) rfl) m8 (by rfl) T.isinstance_ cf (aa (ae 3 (pv 3)) (aa (gY (gw (v:=.ty "tuple") (by rfl) T.tuple_ gU rfl) (fun _ _=>.ty _)) ai))))) (g7 (aK gh kJ (br (iq (K:=K) rfl) hV (by rfl) T.len_ eW (aa (ae 3 (pv 3)) ai)) af (aL _)) (fO (cR (dW (aK gh kJ (aG rfl (ae 3 (pv 3)) af (fun _ _=>rfl)) cW (aL _)) (cQ (aK gh kJ (aG rfl (ae 3 (pv 3)) af (fun _ _=>rfl)) cW (aL _))))))))) (aq (aI cW)) aP)
  (aq (aI (az (aG rfl (ae 3 (pv 3)) af (fun _ _=>rfl))))))),?_⟩
 rintro ds R ⟨k,bo,sy,w,h,xs,rfl,hk,hf,bx,hl,q,q2⟩
 have hin:∀p∈xs,Pr p/\inB 0 w h p=true:=fun p hp=>by
  obtain ⟨x,y,rfl,hx,hy⟩:=bx.at_ p hp
  refine ⟨⟨_,_,rfl⟩,?_⟩
  simp only [inB,Fe,decide_eq_true_eq]
  lia
 walk_at "sl"
 walk_at "rd"
 refine ⟨k,bo,sy,w,h,xs,rfl,hk,hf,bx,hin,hl,fun g hg=>?_,fun hno kv hC hne=>?_⟩
 ·walk_at "rc"
  exact q ⟨g,hg⟩
 ·walk_at "rc"
  exact q2 hno
theorem pK (S:Src K mg "_law_turned" iJ) (T:Txt mg) (e0_:Has P w K mg base 1 "_law_draw" ["_law_pen_here","_law_many"] (spI K 0 gm)):Has P w K mg base 2 "_law_turned" ["_law_pen_here","_law_kind","_law_size_here","_law_live"] (spI K 0 oq):=by
 refine ij 0 S cD (fun _ _ _ _ _ _ us hl=>match us,hl with | [_,_,_,_],_=>rfl) (by walk_at "L") fun f cdv A outer s H E hr=>⟨_,_,(aj (aH (i:=4) cD.nd rfl (Ew rfl) (bu e0_ hr (aa (ae 0 (pv 0)) (aa (ay bj aF af (ay dO bP af (oK oA BL (by rfl) T.int_ qb (aa (gZ gh kJ (ae 1 (pv 1)) af (aL _)) ai)))) ai))))
  (aj (cB (fun _ h=>bQ (i:=5) cD.nd rfl (Ew rfl) h) (bF ai))
  (aj (bR Fx rfl (bC rfl (ae 3 (pv 3))) (bU (n:=2) rfl rfl (aE (aw (au (i:=6) cD.nd rfl (Ew rfl) (Ew rfl))) (aE (aw (au (i:=7) cD.nd rfl (Ew rfl) (Ew rfl))) bH))) (aj (aH (i:=8) cD.nd rfl (Ew rfl) (aU (bF (aa (aA (aa (az (ae 7 (pv 7))) (aa (az (ae 6 (pv 6))) ai))) (aa (aA (aa (ay cn aF (ay cn aF (aG rfl (ae 2 (pv 2)) af (fun _ _=>rfl)) af) (ae 6 (pv 6))) (aa (ay cn aF (ay cn aF (aG rfl (ae 2 (pv 2)) af (fun _ _=>rfl)) af) (ae 7 (pv 7))) ai))) (aa (aA (aa (ay cn aF (ay cn aF (aG rfl (ae 2 (pv 2)) af (fun _ _=>rfl)) af) (ae 6 (pv 6))) (aa (az (ae 7 (pv 7))) ai))) (aa (aA (aa (ay cn aF (ay cn aF (aG rfl (ae 2 (pv 2)) af (fun _ _=>rfl)) af) (ae 7 (pv 7))) (aa (az (ae 6 (pv 6))) ai))) ai)))))))
  (aq (dA (hZ 5 rfl (pv 5) (az (aG rfl (ae 8 (pv 8)) (ae 4 (pv 4)) (fun _ _=>rfl))))))))
  (aj (bE (cR (g7 (aK b7 dM (ae 4 (pv 4)) af (aL _)) (fO (aK b7 dM (ae 4 (pv 4)) af (aL _))))) (aq (aI (aA (aa (aA (aa (az (aG rfl (ae 2 (pv 2)) af (fun _ _=>rfl))) (aa (az (aG rfl (ae 2 (pv 2)) af (fun _ _=>rfl))) ai))) (aa (aU (iE rfl rfl (by rfl) T.sorted_ eJ (aa (ae 5 (pv 5)) ai))) ai))))) aP)
  (aq (aI (aA (aa (az (ae 2 (pv 2))) (aa (aU (iE rfl rfl (by rfl) T.sorted_ eJ (aa (ae 5 (pv 5)) ai))) ai))))))))),?_⟩
 rintro a pn ds es R hl ⟨b,k,w,h,xs,e,hk,bx,hlx,hpn,hb,q⟩
 obtain rfl:ds=[]:=Fv hl
 obtain rfl:es=[.int k,eT [(w:Int),(h:Int)],eL xs]:=e
 walk_at "sl"
 walk_at "rd"
 by_cases z:k=6
 ·rw [decide_eq_true z]
  walk_at "rc"
  refine rQ ?_
  walk_at "rc"
  refine ⟨b,2,rfl,hpn,by lia,by lia,by lia,fun pn1 way h1 way0 way1=>?_⟩
  walk_at "rd"
  have hat:∀x y:Int,atI [eT [y,x],eT [(w:Int)-1-x,(h:Int)-1-y],eT [(w:Int)-1-x,y],eT [(h:Int)-1-y,x]] way=some (eT (cel way w h x y)):=fun x y=>by
   rcases (by lia:way=0\/way=1) with rfl | rfl <;> rfl
  refine cX (fun i S=>∃s6 s7 s8,S=[.pen (some a) pn1,.val (.int k),.val (eT [(w:Int),(h:Int)]),.val (eL xs),.val (.int way),.own (((xs.take i).map fun c=>cel way w h (c.getD 0 0) (c.getD 1 0)).map eT),s6,s7,s8]) ⟨_,_,_,rfl⟩ ?_ ?_
  ·rintro i d S2 e ⟨s6,s7,s8,rfl⟩
   obtain ⟨p,e1,rfl,hm,ht⟩:=aJ e
   obtain ⟨x,y,rfl,_⟩:=bx.at_ p hm
   walk_at "rd"
   have hl2:(((xs.take i).map fun c=>cel way w h (c.getD 0 0) (c.getD 1 0)).map eT).length<=1000000:=by
    have:=Kb i xs
    rw [Eh,Eh,GQ]
    lia
   refine fC rfl rfl (hat x y) ?_
   walk_at "rd"
   exact ⟨_,_,_,by rw [ht,EJ,EJ];rfl⟩
  ·rintro S2 ⟨s6,s7,s8,rfl⟩
   rw [Eh,Fs]
   have fin:=q way _ pn1 way0 (by lia) (by lia) rfl (h1.le (by lia))
   have hms:∀ms∈xs.map (fun c=>cel way w h (c.getD 0 0) (c.getD 1 0)),ms≠[]:=fun ms hm=>by
    obtain ⟨c,_,rfl⟩:=List.mem_map.mp hm
    obtain ⟨_,_,e⟩:=tE way w h (c.getD 0 0) (c.getD 1 0)
    rw [e];exact Jh _ _
   by_cases c0:way=0
   ·subst c0
    walk_at "rc"
    refine cJ (mss:=xs.map fun c=>cel 0 w h (c.getD 0 0) (c.getD 1 0)) rfl hms ?_
    walk_at "rd"
    exact ⟨_,rfl,fin⟩
   ·by_cases c3:way=3
    ·subst c3
     walk_at "rc"
     refine cJ (mss:=xs.map fun c=>cel 3 w h (c.getD 0 0) (c.getD 1 0)) rfl hms ?_
     walk_at "rd"
     exact ⟨_,rfl,fin⟩
    ·walk_at "rd"
     rw [decide_eq_false c0]
     walk_at "rd"
     rw [decide_eq_false c3]
     walk_at "rd"
     refine cJ (mss:=xs.map fun c=>cel way w h (c.getD 0 0) (c.getD 1 0)) rfl hms ?_
     walk_at "rd"
     rw [show bxw way w h=w from if_neg (by lia),show bxh way w h=h from if_neg (by lia)] at fin
     exact ⟨_,rfl,fin⟩
 ·rw [decide_eq_false z]
  walk_at "rc"
  refine rQ ?_
  walk_at "rc"
  refine ⟨b,4,rfl,hpn,by lia,by lia,by lia,fun pn1 way h1 way0 way1=>?_⟩
  walk_at "rd"
  have hat:∀x y:Int,atI [eT [y,x],eT [(w:Int)-1-x,(h:Int)-1-y],eT [(w:Int)-1-x,y],eT [(h:Int)-1-y,x]] way=some (eT (cel way w h x y)):=fun x y=>by
   rcases (by lia:way=0\/way=1\/way=2\/way=3) with rfl | rfl | rfl | rfl <;> rfl
  refine cX (fun i S=>∃s6 s7 s8,S=[.pen (some a) pn1,.val (.int k),.val (eT [(w:Int),(h:Int)]),.val (eL xs),.val (.int way),.own (((xs.take i).map fun c=>cel way w h (c.getD 0 0) (c.getD 1 0)).map eT),s6,s7,s8]) ⟨_,_,_,rfl⟩ ?_ ?_
  ·rintro i d S2 e ⟨s6,s7,s8,rfl⟩
   obtain ⟨p,e1,rfl,hm,ht⟩:=aJ e
   obtain ⟨x,y,rfl,_⟩:=bx.at_ p hm
   walk_at "rd"
   have hl2:(((xs.take i).map fun c=>cel way w h (c.getD 0 0) (c.getD 1 0)).map eT).length<=1000000:=by
    have:=Kb i xs
    rw [Eh,Eh,GQ]
    lia
   refine fC rfl rfl (hat x y) ?_
   walk_at "rd"
   exact ⟨_,_,_,by rw [ht,EJ,EJ];rfl⟩
  ·rintro S2 ⟨s6,s7,s8,rfl⟩
   rw [Eh,Fs]
   have fin:=q way _ pn1 way0 (by lia) (by lia) rfl (h1.le (by lia))
   have hms:∀ms∈xs.map (fun c=>cel way w h (c.getD 0 0) (c.getD 1 0)),ms≠[]:=fun ms hm=>by
    obtain ⟨c,_,rfl⟩:=List.mem_map.mp hm
    obtain ⟨_,_,e⟩:=tE way w h (c.getD 0 0) (c.getD 1 0)
    rw [e];exact Jh _ _
   by_cases c0:way=0
   ·subst c0
    walk_at "rc"
    refine cJ (mss:=xs.map fun c=>cel 0 w h (c.getD 0 0) (c.getD 1 0)) rfl hms ?_
    walk_at "rd"
    exact ⟨_,rfl,fin⟩
   ·by_cases c3:way=3
    ·subst c3
     walk_at "rc"
     refine cJ (mss:=xs.map fun c=>cel 3 w h (c.getD 0 0) (c.getD 1 0)) rfl hms ?_
     walk_at "rd"
     exact ⟨_,rfl,fin⟩
    ·walk_at "rd"
     rw [decide_eq_false c0]
     walk_at "rd"
     rw [decide_eq_false c3]
     walk_at "rd"
     refine cJ (mss:=xs.map fun c=>cel way w h (c.getD 0 0) (c.getD 1 0)) rfl hms ?_
     walk_at "rd"
     rw [show bxw way w h=w from if_neg (by lia),show bxh way w h=h from if_neg (by lia)] at fin
     exact ⟨_,rfl,fin⟩
theorem mR (S:Src K mg "_law_smaller" eN) (T:Txt mg):Has P w K mg base 1 "_law_smaller" ["_law_size_here","_law_live"] (spP K lP):=by
 refine bI S fh (by walk_at "2") (by walk_at "L") fun f cdv A outer s H E hr=>⟨_,_,(aj (aH (i:=2) fh.nd rfl (FS rfl) (aA (aa (aG rfl (ae 0 (pv 0)) af (fun _ _=>rfl)) (aa (ay cn aF (aG rfl (ae 0 (pv 0)) af (fun _ _=>rfl)) af) ai))))
  (aj (bE (aK b7 dM (aG rfl (ae 0 (pv 0)) af (fun _ _=>rfl)) af (aL _)) (aq (aH (i:=2) fh.nd rfl (FS rfl) (aA (aa (ay cn aF (aG rfl (ae 0 (pv 0)) af (fun _ _=>rfl)) af) (aa af ai))))) aP)
  (aq (aI (aA (aa (az (ae 2 (pv 2))) (aa (aU (bW (tg:=["_law_cell"]) (cs:=["_law_less"]) (ix:=[2]) (aN (ao eN) ["_law_size_here","_law_live","_law_less"] (by decide +kernel)) rfl (bp (by decide)) (by decide) (bC rfl (ae 1 (pv 1))) (fun _ _ _ _=>(aw (au (i:=0) (show (["_law_cell","_law_less"]:List Str).Nodup by decide +kernel) rfl (Ew rfl) (by first | exact Ew rfl | exact FS rfl)))) (fun _ _ _ _=>(dB (cR (dW (aK kq aF (aG rfl (ae 0 (pv 0)) af (fun _ _=>rfl)) (aG rfl (ae 1 (pv 1)) af (fun _ _=>rfl)) (aL _)) (cQ (aK kq aF (aG rfl (ae 0 (pv 0)) af (fun _ _=>rfl)) (aG rfl (ae 1 (pv 1)) af (fun _ _=>rfl)) (aL _))))))) (fun _ _ _ _=>(az (ae 0 (pv 0)))))) ai))))))),?_⟩
 rintro ds R ⟨w,h,xs,rfl,hp,hl,hw,hh,hwh,q⟩
 have fin:∀w' h':Nat,((h=1/\w'=w-1/\h'=1)\/(1 < h/\w'=w/\h'=h-1))->∀(w2 h2:Int),w2=w'->h2=h'->R (.tup [eT [w2,h2],eL (xs.filter fun c=>decide (c.getD 0 0 < w2)&&decide (c.getD 1 0 < h2))]):=fun w' h' c w2 h2 e1 e2=>by rw [e1,e2];exact q w' h' c
 walk_at "sl"
 walk_at "rd"
 refine cq (fun c1=>?_) (fun c1=>?_)
 ·walk_at "rd"
  refine ck (xs:=xs) (en:=eT) (f:=eT) (p:=fun c=>decide (c.getD 0 0 < (w:Int)-1)&&decide (c.getD 1 0 < 1)) (by lia) (fun m hm A B hA hB=>?_) ?_
  ·obtain ⟨x,y,rfl⟩:=hp m hm
   dsimp only [aV,Ep,EB,Fd,EY,E8]
   walk_at "rd"
   by_cases c2:x < (w:Int)-1
   ·by_cases c3:y < 1
    ·rw [decide_eq_true c2]
     walk_at "rd"
     rw [decide_eq_true c3]
     walk_at "rd"
     exact hA _ rfl (by simp [c2,c3])
    ·rw [decide_eq_true c2]
     walk_at "rd"
     rw [decide_eq_false c3]
     walk_at "rd"
     exact hB _ rfl (by simp [c3])
   ·rw [decide_eq_false c2]
    walk_at "rd"
    exact hB _ rfl (by simp [c2])
  ·walk_at "rd"
   exact fin (w-1) 1 (.inl ⟨by lia,rfl,rfl⟩) _ _ (by lia) (by lia)
 ·walk_at "rd"
  refine ck (xs:=xs) (en:=eT) (f:=eT) (p:=fun c=>decide (c.getD 0 0 < (w:Int))&&decide (c.getD 1 0 < (h:Int)-1)) (by lia) (fun m hm A B hA hB=>?_) ?_
  ·obtain ⟨x,y,rfl⟩:=hp m hm
   dsimp only [aV,Ep,EB,Fd,EY,E8]
   walk_at "rd"
   by_cases c2:x < (w:Int)
   ·by_cases c3:y < (h:Int)-1
    ·rw [decide_eq_true c2]
     walk_at "rd"
     rw [decide_eq_true c3]
     walk_at "rd"
     exact hA _ rfl (by simp [c2,c3])
    ·rw [decide_eq_true c2]
     walk_at "rd"
     rw [decide_eq_false c3]
     walk_at "rd"
     exact hB _ rfl (by simp [c3])
   ·rw [decide_eq_false c2]
    walk_at "rd"
    exact hB _ rfl (by simp [c2])
  ·walk_at "rd"
   exact fin w (h-1) (.inr ⟨by lia,rfl,rfl⟩) _ _ rfl (by lia)
end
end My
namespace My
open PySem L2 VL
section
variable {P:E2} {w:FO} {K:Ed} {mg:Str->Option Ej} {base:Heap}
theorem Bb (S:Src K mg "law" vU) (T:Txt mg) (e5_:Has P w K mg base 1 "_law_pen" ["_law_script","_law_k"] (spP K DD)) (e0_:Has P w K mg base 1 "_law_draw" ["_law_pen_here","_law_many"] (spI K 0 gm)) (e20_:Has P w K mg base 3 "_law_rule" ["_law_pen_here"] (spI K 0 ym)) (e16_:Has P w K mg base 2 "_law_size" ["_law_pen_here","_law_at"] (spI K 0 yn)) (e11_:Has P w K mg base 2 "_law_picture" ["_law_pen_here","_law_size_here"] (spI K 0 yo)) (e24_:Has P w K mg base 2 "_law_world" ["_law_pen_here","_law_size_here"] (spI K 0 tu)) (e15_:Has P w K mg base 2 "_law_shown" ["_law_code","_law_size_here","_law_world_here"] (spP K tx)) (e2_:Has P w K mg base 6 "_law_word" ["_law_code","_law_size_here","_law_live"] (spP K tD)) (e25_:Has P w K mg base 2 "_law_turned" ["_law_pen_here","_law_kind","_law_size_here","_law_live"] (spI K 0 oq)) (e8_:Has P w K mg base 1 "_law_smaller" ["_law_size_here","_law_live"] (spP K lP)):Has P w K mg base 7 "law" ["_law_script"] (spP K vV):=by
 refine bI S cO (by walk_at "1") (by walk_at "L") fun f cdv A outer s H E hr=>⟨_,_,(aj (nh (fun _ h=>bQ (i:=1) cO.nd rfl (FS rfl) h) (xj e5_ hr (aa (ae 0 (pv 0)) (aa af ai))))
  (aj (aH (i:=2) cO.nd rfl (Ew rfl) (bu e20_ hr (aa (ae 1 (pv 1)) ai)))
  (aj (bE (aK b7 dM (bu e0_ hr (aa (ae 1 (pv 1)) (aa af ai))) af (aL _)) (aq (aH (i:=2) cO.nd rfl (Ew rfl) (aA (aa (aG rfl (ae 2 (pv 2)) af (fun _ _=>rfl)) (aa (hW rfl (by rfl) T.tuple_ (aa (aU (bW (tg:=["_law_count"]) (cs:=["_law_first"]) (ix:=[1]) (aN (ao vU) ["_law_script","_law_first","_law_code","_law_k","_law_pen_here","_law_size_here","_law_live","_law_word_here","_law_turn","_law_shown_here","_law_other_size","_law_other","_law_less","_law_cut"] (by decide +kernel)) rfl (bp (by decide)) (by decide) (aY rfl T.range (aa (ay bj aF (aG rfl (ae 2 (pv 2)) af (fun _ _=>rfl)) af) ai)) (fun _ _ _ _=>(aw (au (i:=0) (show (["_law_count","_law_first"]:List Str).Nodup by decide +kernel) rfl (Ew rfl) (by first | exact Ew rfl | exact FS rfl)))) (fun _ _ _ _=>(dB (aK b7 dM (bu e0_ hr (aa (ae 1 (pv 1)) (aa af ai))) af (aL _)))) (fun _ _ _ _=>(az (ae 0 (pv 0)))))) ai)) (aa (aG rfl (ae 2 (pv 2)) af (fun _ _=>rfl)) ai)))))) aP)
  (aj (bR Fx rfl (fR rfl T.range (aa af (aa (br (oy rfl) BJ (by rfl) T.max_ zr (aa af (aa (br (oz rfl) BJ (by rfl) T.min_ zt (aa (br (iq (K:=K) rfl) hV (by rfl) T.len_ eW (aa (ae 0 (pv 0)) ai)) (aa af ai))) ai))) ai))) (aw (au (i:=3) cO.nd rfl (Ew rfl) (Ew rfl))) (aj (nh (fun _ h=>bQ (i:=4) cO.nd rfl (Ew rfl) h) (xj e5_ hr (aa (ae 0 (pv 0)) (aa (ae 3 (pv 3)) ai))))
  (aj (aH (i:=5) cO.nd rfl (Ew rfl) (bu e16_ hr (aa (ae 4 (pv 4)) (aa (ae 3 (pv 3)) ai))))
  (aj (aH (i:=6) cO.nd rfl (Ew rfl) (bu e11_ hr (aa (ae 4 (pv 4)) (aa (ae 5 (pv 5)) ai))))
  (aj (aH (i:=7) cO.nd rfl (Ew rfl) (bA e2_ hr (aa (ae 2 (pv 2)) (aa (ae 5 (pv 5)) (aa (aU (ng rfl (by rfl) T.list_ (aa (ae 6 (pv 6)) ai))) ai)))))
  (aj (bR Fx rfl (aY rfl T.range (aa af ai)) (aw (au (i:=8) cO.nd rfl (Ew rfl) (Ew rfl))) (aj (aH (i:=9) cO.nd rfl (Ew rfl) (bA e15_ hr (aa (ae 2 (pv 2)) (aa (ae 5 (pv 5)) (aa (bu e24_ hr (aa (ae 4 (pv 4)) (aa (ae 5 (pv 5)) ai))) ai)))))
  (aq (bE (cR (g7 (cR (dW (aK (zm (K:=K) rfl hr.units) xp (ae 9 (pv 9)) (ae 6 (pv 6)) (aL _)) (cQ (aK gh kJ (ae 7 (pv 7)) cW (aL _))))) (fO (aK gh kJ (bA e2_ hr (aa (ae 2 (pv 2)) (aa (ae 5 (pv 5)) (aa (ae 9 (pv 9)) ai)))) cW (aL _))))) (aq (aI gX)) aP))))
  (aj (e7 (bu e25_ hr (aa (ae 4 (pv 4)) (aa (aG rfl (ae 2 (pv 2)) af (fun _ _=>rfl)) (aa (ae 5 (pv 5)) (aa (ae 6 (pv 6)) ai))))) (bU (n:=2) rfl rfl (aE (aw (au (i:=10) cO.nd rfl (Ew rfl) (Ew rfl))) (aE (aw (au (i:=11) cO.nd rfl (Ew rfl) (Ew rfl))) bH))))
  (aj (bE (cR (g7 (aK b7 dM (ae 7 (pv 7)) cW (aL _)) (fO (aK gh kJ (bA e2_ hr (aa (ae 2 (pv 2)) (aa (ae 10 (pv 10)) (aa (ae 11 (pv 11)) ai)))) (ae 7 (pv 7)) (aL _))))) (aq (aI gX)) aP)
  (aq (bE (cR (dW (aK (zo (K:=K) rfl hr.units) xp (ae 5 (pv 5)) (aA (aa af (aa af ai))) (aL _)) (cQ (aK b7 dM (ae 7 (pv 7)) cW (aL _))))) (aj (e7 (bA e8_ hr (aa (ae 5 (pv 5)) (aa (ae 6 (pv 6)) ai))) (bU (n:=2) rfl rfl (aE (aw (au (i:=12) cO.nd rfl (Ew rfl) (Ew rfl))) (aE (aw (au (i:=13) cO.nd rfl (Ew rfl) (Ew rfl))) bH))))
  (aq (bE (aK gh kJ (bA e2_ hr (aa (ae 2 (pv 2)) (aa (ae 12 (pv 12)) (aa (ae 13 (pv 13)) ai)))) cW (aL _)) (aq (aI gX)) aP))) aP))))))))))
  (aq (aI gX)))))),?_⟩
 rintro ds R ⟨ns,rfl,hn,q⟩
 walk_at "sl"
 walk_at "rd"
 refine ⟨ns,0,rfl,by lia,fun x y=>⟨_,rfl,rfl,?_⟩⟩
 refine jH (ns:=[x,y,0]) rfl ?_
 walk_at "rd"
 refine ⟨0,rfl,⟨x,y,0,rfl,by lia,by lia⟩,by lia,fun k bo sy pn0 hk hp0=>?_⟩
 walk_at "rd"
 refine ⟨0+30,2,rfl,hp0,by lia,by lia,by lia,fun pn1 r1 h1 r1a r1b=>?_⟩
 walk_at "rd"
 have hkb:4<=k/\k<=8:=by rcases hk with rfl | rfl | rfl <;> lia
 refine lI (fun S=>∃(bo':List Int) (pn':List Int),S=[.val (.lst (ns.map .int)),.pen none pn',.val (rl k bo' sy),.no,.no,.no,.no,.no,.no,.no,.no,.no,.no,.no]) ?_ ?_ ?_
 ·rintro S2 ⟨bo,pnx,rfl⟩
  walk_at "rd"
  refine ux (xs:=Eo _) (en:=fun (i:Nat)=>D.int (1+(i:Int))) (fun S=>∃v3 v4 v5 v6 v7 v8 v9 v10 v11 v12 v13,S=[.val (.lst (ns.map .int)),.pen none pnx,.val (rl k bo sy),v3,v4,v5,v6,v7,v8,v9,v10,v11,v12,v13]) ⟨_,_,_,_,_,_,_,_,_,_,_,rfl⟩ ?_ ?_
  ·rintro i hi S ⟨v3,v4,v5,v6,v7,v8,v9,v10,v11,v12,v13,rfl⟩ nx hnx
   have hi':i < 4:=by
    have h:=List.mem_range.mp hi
    revert h
    repeat' split
    all_goals lia
   have e1:(1+(i:Int))=((1+i:Nat):Int):=by lia
   rw [e1]
   walk_at "rd"
   refine ⟨ns,1+i,rfl,by lia,fun x1 y1=>⟨_,rfl,rfl,?_⟩⟩
   refine jH (ns:=[x1,y1,0]) rfl ?_
   walk_at "rd"
   refine ⟨0,((1+i:Nat):Int),rfl,⟨x1,y1,0,rfl,by lia,by lia⟩,by lia,fun w h pn2 hw hh h2=>?_⟩
   have hf:=A9 hw hh
   walk_at "rd"
   refine ⟨0+4,w,h,rfl,hf,h2,by lia,fun p pn3 h3=>?_⟩
   have bx:=Ba (p:=p) (w:=w) (h:=h) hw.2 hh.2
   have hlx:(grd p w h).length<=9:=Fz (gP p w h) (II hw.2 hh.2)
   generalize grd p w h=xs at bx hlx ⊢
   walk_at "rd"
   refine qL (ds:=xs.map eT) rfl (fy _) ?_
   walk_at "rd"
   have hwd:∀R':D->Prop,(∀wd:Str,(HasF k bo sy w h xs/\wd="father"\/¬ HasF k bo sy w h xs/\wd="none")->R' (.str wd))->tD [rl k bo sy,eT [(w:Int),(h:Int)],eL xs] R':=fun R' z=>⟨k,bo,sy,w,h,xs,rfl,hk,hf,bx,by lia,fun y=>z _ (.inl ⟨y,rfl⟩),fun y=>z _ (.inr ⟨y,rfl⟩)⟩
   refine hwd _ fun wd hwd=>?_
   walk_at "rd"
   refine eK (fun j S=>∃(v8 v9:Sl) (pn5:List Int),Pn (0+4+30+150*j) pn5/\S=[.val (.lst (ns.map .int)),.pen none pnx,.val (rl k bo sy),.val (.int ((1+i:Nat):Int)),.pen none pn5,.val (eT [(w:Int),(h:Int)]),.val (eL xs),.val (.str wd),v8,v9,v10,v11,v12,v13]) ⟨_,_,pn3,h3,rfl⟩ ?_ ?_
   ·rintro j S2 hj ⟨v8,v9,pn5,hp5,rfl⟩
    have hj':j < 2:=hj
    walk_at "rd"
    refine ⟨_,w,h,rfl,hf,hp5,by lia,fun ys pn6 hys hyl h6=>?_⟩
    walk_at "rd"
    refine ⟨k,bo,sy,w,h,ys,rfl,hk,hf,by lia,?_⟩
    walk_at "rd"
    have hwn:w<=3:=hw.2
    have hhn:h<=6:=by lia
    have hbx:Bx w h (bec k bo sy (w:Int) (h:Int) ys):=sZ hwn hhn
    have hbl:(bec k bo sy (w:Int) (h:Int) ys).length<=18:=wz hwn hhn
    have hbf:HasF k bo sy w h (bec k bo sy (w:Int) (h:Int) ys):=tm hk hwn hhn hys
    generalize bec k bo sy (w:Int) (h:Int) ys=bs at hbx hbl hbf ⊢
    refine B4 (f:=eL) (x:=bs) (y:=xs) zp ?_
    by_cases eb:bs=xs
    ·subst eb
     rcases hwd with ⟨hF,rfl⟩ | ⟨hN,rfl⟩
     ·rw [decide_eq_true rfl]
      walk_at "rc"
      refine ⟨k,bo,sy,w,h,bs,rfl,hk,hf,hbx,by lia,fun _=>?_,fun z=>absurd hbf z⟩
      walk_at "rc"
      exact ⟨_,_,pn6,h6.le (by lia),rfl⟩
     ·exact absurd hbf hN
    ·rw [decide_eq_false eb]
     walk_at "rc"
     refine ⟨k,bo,sy,w,h,bs,rfl,hk,hf,hbx,by lia,fun _=>?_,fun z=>absurd hbf z⟩
     walk_at "rc"
     exact ⟨_,_,pn6,h6.le (by lia),rfl⟩
   ·rintro S5 ⟨v8,v9,pn5,hp5,rfl⟩
    walk_at "rd"
    refine ⟨_,k,w,h,xs,rfl,hk,bx,by lia,hp5,by lia,fun way ys pn6 w0 w1 w6 e6 h6=>?_⟩
    obtain ⟨φ,ψ,hφ,TB⟩:=wF hk w h w0 w1 w6
    have ey:ys=srt (xs.map φ):=by
     rw [e6]
     congr 1
     refine Fg fun c hc=>?_
     obtain ⟨x,y,rfl,_⟩:=bx.at_ c hc
     exact (hφ x y).symm
    have hby:Bx (bxw way w h) (bxh way w h) ys:=ey▸TB.bx bx
    have hiff:HasF k bo sy (bxw way w h) (bxh way w h) ys↔HasF k bo sy w h xs:=ey▸TB.iff hk bx
    have hyl:ys.length<=100:=by rw [ey,(cj _).length_eq,Eh];lia
    have hfy:fsOk (eT [(bxw way w h:Int),(bxh way w h:Int)])=true:=by
     unfold bxw bxh
     split
     ·exact A9 hh hw
     ·exact hf
    clear e6 ey TB
    walk_at "rd"
    rcases hwd with ⟨hF,rfl⟩ | ⟨hN,rfl⟩
    ·walk_at "rc"
     refine ⟨k,bo,sy,bxw way w h,bxh way w h,ys,rfl,hk,hfy,hby,hyl,fun _=>?_,fun z=>absurd (hiff.mpr hF) z⟩
     walk_at "rc"
     change kU _ _ (!(pd (eT [(w:Int),(h:Int)])).eqv (pd (eT [1,1]))) _
     rw [mm.eqv]
     by_cases e11:[(w:Int),(h:Int)]=[1,1]
     ·rw [decide_eq_true e11]
      walk_at "rc"
      exact hnx _ ⟨_,_,_,_,_,_,_,_,_,_,_,rfl⟩
     ·rw [decide_eq_false e11]
      walk_at "rc"
      have h11:1 < w\/1 < h:=by
       rcases Nat.lt_or_ge 1 w with z | z
       ·exact .inl z
       ·rcases Nat.lt_or_ge 1 h with z2 | z2
        ·exact .inr z2
        ·exact absurd (by rw [show w=1 by lia,show h=1 by lia];rfl) e11
      refine ⟨w,h,xs,rfl,(fun p hp=>let ⟨_,_,e,_⟩:=bx.at_ p hp;⟨_,_,e⟩),by lia,hw.1,hh.1,h11,fun w' h' hc=>?_⟩
      have hw':1<=w'/\w'<=3:=by lia
      have hh':1<=h'/\h'<=3:=by lia
      have hle:w'<=w/\h'<=h:=by lia
      have mem:∀x y:Nat,x < w'->y < h'->([(x:Int),(y:Int)]∈xs.filter (fun c=>decide (c.getD 0 0 < (w':Int))&&decide (c.getD 1 0 < (h':Int)))↔[(x:Int),(y:Int)]∈xs):=fun x y hx hy=>by
       rw [Hr]
       refine ⟨fun z=>z.1,fun z=>⟨z,?_⟩⟩
       rw [Fe,decide_eq_true_eq,decide_eq_true_eq]
       exact ⟨Int.ofNat_lt.mpr hx,Int.ofNat_lt.mpr hy⟩
      have hcb:Bx w' h' (xs.filter (fun c=>decide (c.getD 0 0 < (w':Int))&&decide (c.getD 1 0 < (h':Int)))):=by
       refine ⟨bx.nd.filter _,fun c hc=>?_,Fz (FW _ _) bx.len⟩
       obtain ⟨h1,h2⟩:=List.mem_filter.mp hc
       obtain ⟨x,y,rfl,_⟩:=bx.at_ c h1
       rw [Fe,decide_eq_true_eq,decide_eq_true_eq] at h2
       exact ⟨x,y,rfl,Int.ofNat_lt.mp h2.1,Int.ofNat_lt.mp h2.2⟩
      have hcF:HasF k bo sy w' h' (xs.filter (fun c=>decide (c.getD 0 0 < (w':Int))&&decide (c.getD 1 0 < (h':Int)))):=tj hk hle.1 hle.2 bx hcb mem hF
      have hcl:=Fz (FW (fun c=>decide (c.getD 0 0 < (w':Int))&&decide (c.getD 1 0 < (h':Int))) xs) hlx
      generalize xs.filter (fun c=>decide (c.getD 0 0 < (w':Int))&&decide (c.getD 1 0 < (h':Int)))=cs at hcb hcF hcl ⊢
      walk_at "rc"
      refine ⟨k,bo,sy,w',h',cs,rfl,hk,A9 hw' hh',hcb,by lia,fun _=>?_,fun z=>absurd hcF z⟩
      walk_at "rc"
      exact hnx _ ⟨_,_,_,_,_,_,_,_,_,_,_,rfl⟩
    ·walk_at "rc"
     refine ⟨k,bo,sy,bxw way w h,bxh way w h,ys,rfl,hk,hfy,hby,hyl,fun z=>absurd (hiff.mp z) hN,fun _=>?_⟩
     walk_at "rc"
     change kU _ _ (!(pd (eT [(w:Int),(h:Int)])).eqv (pd (eT [1,1]))) _
     rw [mm.eqv]
     by_cases e11:[(w:Int),(h:Int)]=[1,1]
     ·rw [decide_eq_true e11]
      walk_at "rc"
      exact hnx _ ⟨_,_,_,_,_,_,_,_,_,_,_,rfl⟩
     ·rw [decide_eq_false e11]
      walk_at "rc"
      exact hnx _ ⟨_,_,_,_,_,_,_,_,_,_,_,rfl⟩
  ·rintro S ⟨v3,v4,v5,v6,v7,v8,v9,v10,v11,v12,v13,rfl⟩
   walk_at "rd"
   exact q
 ·intro nx hnx e
  walk_at "rd"
  refine ir (fun j zs S3=>∃(p:Nat->Bool) (pn2:List Int),Pn (0+30+1+j) pn2/\zs=((fr p j).map fun (t:Nat)=>D.int (0+(t:Int)))/\S3=[.val (.lst (ns.map .int)),.pen none pn2,.val (rl k bo sy),.no,.no,.no,.no,.no,.no,.no,.no,.no,.no,.no]) (by lia) ⟨fun _=>false,pn1,by simpa using h1,rfl,rfl⟩ ?_ ?_
  ·rintro j zs S3 hj ⟨p,pn2,hp2,rfl,rfl⟩
   have hj':j < 9:=by lia
   dsimp only [aV,Ep,EB,Fd,EY,E8]
   walk_at "rd"
   refine ⟨_,2,rfl,hp2,by lia,by lia,by lia,fun pn3 r3 hp3 r3a r3b=>?_⟩
   walk_at "rd"
   refine dm (fun e=>?_) (fun e=>?_)
   ·walk_at "rd"
    exact ⟨fun x=>if x=j then true else p x,pn3,hp3,by rw [gc,EJ];rfl,rfl⟩
   ·exact ⟨fun x=>if x=j then false else p x,pn3,hp3,by rw [gc,EJ];simp,rfl⟩
  ·rintro zs S3 ⟨p,pn2,hp2,rfl,rfl⟩
   walk_at "rd"
   refine ny rfl (jm _ _) ?_
   walk_at "rd"
   rw [oe]
   exact hnx _ ⟨_,pn2,rfl⟩
 ·intro nx hnx e
  exact hnx _ ⟨bo,pn1,rfl⟩
end
end My
namespace My
open PySem L2 VL
theorem Bc {l:Jw} {w:FO} {h:Heap} {mg:Str->Option Ej} {fa:Addr} {a_OFFSETS:Addr} {t_MOST_COLUMNS:Tok}  {t_MOST_ROWS:Tok}  {t_MOST_CELLS:Tok} (X:K.In h) (G:h.Ns EL mg) (hfa:mg "law"=some (.ref fa))
  (S0:Src K mg "_law_pen" sE) (S1:Src K mg "_law_draw" mL) (S2:Src K mg "is_whole" iG) (S3:Src K mg "is_pair" j3) (S4:Src K mg "is_father_size" df) (S5:Src K mg "is_within" f7) (S6:Src K mg "offsets" iH) (S7:Src K mg "comes" mJ) (S8:Src K mg "comes_amid" dI) (S9:Src K mg "refuse_no_child" bZ) (S10:Src K mg "centres" d7) (S11:Src K mg "rows_below" cK) (S12:Src K mg "rows_of" gH) (S13:Src K mg "picture_of" dH) (S14:Src K mg "moved" j4) (S15:Src K mg "thirds" j6) (S16:Src K mg "all_pairs" eM) (S17:Src K mg "pairs_by_row" d9) (S18:Src K mg "rows_back" f9) (S19:Src K mg "father" gI) (S20:Src K mg "_law_some" j8) (S21:Src K mg "_law_rule" mM) (S22:Src K mg "_law_near" mO) (S23:Src K mg "_law_size" mP) (S24:Src K mg "_law_shown" gK) (S25:Src K mg "_law_world" gL) (S26:Src K mg "_law_picture" gb) (S27:Src K mg "_law_word" mQ) (S28:Src K mg "_law_turned" iJ) (S29:Src K mg "_law_smaller" eN) (S30:Src K mg "law" vU)
  (n_OFFSETS:E9 K EL "OFFSETS"=some (some (.ref a_OFFSETS))) (k_OFFSETS:okD K a_OFFSETS rows=true) (i_MOST_COLUMNS:E9 K EL "MOST_COLUMNS"=some (some (.int 3 t_MOST_COLUMNS)))  (i_MOST_ROWS:E9 K EL "MOST_ROWS"=some (some (.int 6 t_MOST_ROWS)))  (i_MOST_CELLS:E9 K EL "MOST_CELLS"=some (some (.int 9 t_MOST_CELLS)))
  (z0:E9 K EL "len"=some none) (z1:E9 K EL "range"=some none) (z2:E9 K EL "abs"=some none) (z3:E9 K EL "isinstance"=some none) (z4:E9 K EL "int"=some none) (z5:E9 K EL "bool"=some none) (z6:E9 K EL "list"=some none) (z7:E9 K EL "tuple"=some none) (z8:E9 K EL "sorted"=some none) (z9:E9 K EL "max"=some none) (z10:E9 K EL "min"=some none) (z11:E9 K EL "all"=some none) (z12:E9 K EL "any"=some none) (z13:E9 K EL "set"=some none) (z14:E9 K EL "sum"=some none) (z15:E9 K EL "str"=some none) (z16:E9 K EL "dict"=some none) (z17:E9 K EL "zip"=some none) (z18:E9 K EL "enumerate"=some none) (z19:E9 K EL "reversed"=some none) :
  ∃fd:G2,(∀(s:El) (v:Ej),Kr s fd ⟨[v],[]⟩ [("_law_script",v)])/\∀base:Heap,K.In base->base.Ns EL mg->iN l.prog w K mg base CX0 7 fa fd ["_law_script"] (spP K vV):=by
 have no:=fun {n:Str} (z:E9 K EL n=some none)=>PySem.W.mg_none_of X G z
 have T:Txt mg:=⟨no z0,no z1,no z2,no z3,no z4,no z5,no z6,no z7,no z8,no z9,no z10,no z11,no z12,no z13,no z14,no z15,no z16,no z17,no z18,no z19⟩
 refine t4 S30 hfa (fun _ _ _ _ _ _ _=>rfl) fun base=>?_
 have e5_:=AV (P:=l.prog) (w:=w) (base:=base) S0 T
 have e0_:=vW (P:=l.prog) (w:=w) (base:=base) S1 T
 have e3_:=DI (P:=l.prog) (w:=w) (base:=base) S2 T
 have e26_:=vZ (P:=l.prog) (w:=w) (base:=base) S3 T e3_
 have e12_:=DJ (P:=l.prog) (w:=w) (base:=base) S4 T e26_ (HQ X G i_MOST_COLUMNS) (HQ X G i_MOST_ROWS) (HQ X G i_MOST_CELLS)
 have e29_:=pD (P:=l.prog) (w:=w) (base:=base) S5 T
 have e13_:=AY (P:=l.prog) (w:=w) (base:=base) S6 T  (HQ X G n_OFFSETS) k_OFFSETS
 have e1_:=sL (P:=l.prog) (w:=w) (base:=base) S7 T
 have e19_:=vY (P:=l.prog) (w:=w) (base:=base) S8 T e13_ e1_
 have e6_:=AZ (P:=l.prog) (w:=w) (base:=base) S9 T e12_ e29_
 have e27_:=wg (P:=l.prog) (w:=w) (base:=base) S10 T e19_
 have e10_:=A3 (P:=l.prog) (w:=w) (base:=base) S11 T
 have e21_:=wo (P:=l.prog) (w:=w) (base:=base) S12 T
 have e18_:=sS (P:=l.prog) (w:=w) (base:=base) S13 T
 have e7_:=sT (P:=l.prog) (w:=w) (base:=base) S14 T
 have e28_:=sW (P:=l.prog) (w:=w) (base:=base) S15 T e10_
 have e14_:=wt (P:=l.prog) (w:=w) (base:=base) S16 T
 have e22_:=A7 (P:=l.prog) (w:=w) (base:=base) S17 T e27_ e14_ e21_ e28_
 have e23_:=wu (P:=l.prog) (w:=w) (base:=base) S18 T
 have e9_:=wG (P:=l.prog) (w:=w) (base:=base) S19 T e6_ e22_ e23_ e18_ e7_
 have e4_:=wH (P:=l.prog) (w:=w) (base:=base) S20 T e0_
 have e20_:=wJ (P:=l.prog) (w:=w) (base:=base) S21 T e0_ e4_
 have e17_:=wj (P:=l.prog) (w:=w) (base:=base) S22 T
 have e16_:=wK (P:=l.prog) (w:=w) (base:=base) S23 T e0_
 have e15_:=tF (P:=l.prog) (w:=w) (base:=base) S24 T e17_
 have e24_:=tw (P:=l.prog) (w:=w) (base:=base) S25 T e0_
 have e11_:=wL (P:=l.prog) (w:=w) (base:=base) S26 T e0_
 have e2_:=wM (P:=l.prog) (w:=w) (base:=base) S27 T e9_
 have e25_:=pK (P:=l.prog) (w:=w) (base:=base) S28 T e0_
 have e8_:=mR (P:=l.prog) (w:=w) (base:=base) S29 T
 exact Bb (P:=l.prog) (w:=w) (base:=base) S30 T e5_ e0_ e20_ e16_ e11_ e24_ e15_ e2_ e25_ e8_
theorem walk {l:Jw} {q:E2} {loose:List Str} {XP:(Str->Option Ej)->Heap->Prop} {YP:FO->Heap->Prop} {d:DefRec} {K:Params->Ed} (hn:l.most=some 63) (hdf:d.params.defaults=[])
  (hY:∀(w:FO) (h:Heap),YP w h->(K w.params).In h)
  (F:∀(w:FO) (mg:Str->Option Ej) (fa:Addr) (h:Heap),(K w.params).In h->h.Ns EL mg->mg d.name=some (.ref fa) ->
   ∃fd:G2,(∀(s:El) (u:Ej),Kr s fd ⟨[u],[]⟩ [("_law_script",u)])/\∀base:Heap,(K w.params).In base->base.Ns EL mg->iN l.prog w (K w.params) mg base CX0 7 fa fd ["_law_script"] (spP (K w.params) vV)) :
  PySem.W.WalkO q loose XP YP l.row.toRowW d [] (fun f vs=>K4 f vs):=
 L2.tY (n:=63) (k:=7) (x:="_law_script") (CX:=fun _=>CX0) (sp:=fun w=>spP (K w.params) vV) hn (by decide) hdf ⟨rfl,by decide,by decide,rfl⟩ hY F
  (fun _ _ a ns hl _ hS=>⟨_,fun d=>d=.bl true,.cons (Rep.of_sqL hS trivial (fun _=>trivial) Reps.ints) .nil,⟨ns,rfl,hl,rfl⟩,fun d v H' e _ r=>by subst e;cases r;rfl⟩) fun _ _ _ _ _ z=>z
end My
def PySem.W.Fast.tw10858232521936629600:Unit:=()
def PySem.W.Fast.tw13660374019708773062:Unit:=()
def PySem.W.Fast.tw14852496678171243505:Unit:=()
def PySem.W.Fast.tw8296030165063813285:Unit:=()
def PySem.W.Fast.tw10332328667216470771:Unit:=()
def PySem.W.Fast.tw2227150891726931665:Unit:=()
def PySem.W.Fast.tw5179656946687243795:Unit:=()
def PySem.W.Fast.tw3086490206358474264:Unit:=()
def PySem.W.Fast.tw5904671445146480161:Unit:=()
def PySem.W.Fast.tw5067576187638065446:Unit:=()
def PySem.W.Fast.tw7209673129264369870:Unit:=()
def PySem.W.Fast.tw12261815672049587785:Unit:=()
def PySem.W.Fast.tw3156678584195452207:Unit:=()
def PySem.W.Fast.tw6333800384107517615:Unit:=()
def PySem.W.Fast.tw15104663937577293352:Unit:=()
def PySem.W.Fast.tw13049898690742912536:Unit:=()
def PySem.W.Fast.tw3309036284121623353:Unit:=()
def PySem.W.Fast.tw18324340784750052394:Unit:=()
def PySem.W.Fast.tw16611675516785044779:Unit:=()
def PySem.W.Fast.tw12156221698977877749:Unit:=()
def PySem.W.Fast.tw6802799434998901114:Unit:=()
def PySem.W.Fast.tw9407662697073668427:Unit:=()
def PySem.W.Fast.tw13854146859800584167:Unit:=()
def PySem.W.Fast.tw9687050279120459363:Unit:=()
def PySem.W.Fast.tw1055155377824576343:Unit:=()
def PySem.W.Fast.tw14555856576431940715:Unit:=()
def PySem.W.Fast.tw5503701387685877072:Unit:=()
def PySem.W.Fast.tw12805263067785425179:Unit:=()
def PySem.W.Fast.tw18393314110347950202:Unit:=()
def PySem.W.Fast.tw12797953116956265218:Unit:=()
def PySem.W.Fast.tw15606034870146554224:Unit:=()
def PySem.W.Fast.tw12265083314439172656:Unit:=()
def PySem.W.Fast.tw82861111415652341:Unit:=()
def PySem.W.Fast.tw4593451063664962484:Unit:=()
def PySem.W.Fast.tw15132866196366201519:Unit:=()
def PySem.W.Fast.tw14994574328989750499:Unit:=()
open PySem PySem.W PyProof.Rows
set_option maxRecDepth 100000 in
set_option maxHeartbeats 0 in
theorem PySem.Challenge.cw_cellships_k51_whole_none_at_all_holds : PySem.Challenge.rw_cellships_k51_whole_none_at_all.Holds := by
 w_on;o_law;k_head;(case hw=>w_witness2)
 k_fill
 refine My.walk (l:=PySem.Challenge.rw_cellships_k51_whole_none_at_all) rfl rfl (fun w h Y=>PySem.W.kIn_of Y) ?F
 case F=>
  intro w mg fa h KX G hmg
  refine' My.Bc KX G hmg (L2.aO KX G ?a0 ?l0 ?c0 ?k0) (L2.aO KX G ?a1 ?l1 ?c1 ?k1) (L2.aO KX G ?a2 ?l2 ?c2 ?k2) (L2.aO KX G ?a3 ?l3 ?c3 ?k3) (L2.aO KX G ?a4 ?l4 ?c4 ?k4) (L2.aO KX G ?a5 ?l5 ?c5 ?k5) (L2.aO KX G ?a6 ?l6 ?c6 ?k6) (L2.aO KX G ?a7 ?l7 ?c7 ?k7) (L2.aO KX G ?a8 ?l8 ?c8 ?k8) (L2.aO KX G ?a9 ?l9 ?c9 ?k9) (L2.aO KX G ?a10 ?l10 ?c10 ?k10) (L2.aO KX G ?a11 ?l11 ?c11 ?k11) (L2.aO KX G ?a12 ?l12 ?c12 ?k12) (L2.aO KX G ?a13 ?l13 ?c13 ?k13) (L2.aO KX G ?a14 ?l14 ?c14 ?k14) (L2.aO KX G ?a15 ?l15 ?c15 ?k15) (L2.aO KX G ?a16 ?l16 ?c16 ?k16) (L2.aO KX G ?a17 ?l17 ?c17 ?k17) (L2.aO KX G ?a18 ?l18 ?c18 ?k18) (L2.aO KX G ?a19 ?l19 ?c19 ?k19) (L2.aO KX G ?a20 ?l20 ?c20 ?k20) (L2.aO KX G ?a21 ?l21 ?c21 ?k21) (L2.aO KX G ?a22 ?l22 ?c22 ?k22) (L2.aO KX G ?a23 ?l23 ?c23 ?k23) (L2.aO KX G ?a24 ?l24 ?c24 ?k24) (L2.aO KX G ?a25 ?l25 ?c25 ?k25) (L2.aO KX G ?a26 ?l26 ?c26 ?k26) (L2.aO KX G ?a27 ?l27 ?c27 ?k27) (L2.aO KX G ?a28 ?l28 ?c28 ?k28) (L2.aO KX G ?a29 ?l29 ?c29 ?k29) (L2.aO KX G ?a30 ?l30 ?c30 ?k30) ?n0 ?m0 ?i0 ?i1 ?i2 ?z0 ?z1 ?z2 ?z3 ?z4 ?z5 ?z6 ?z7 ?z8 ?z9 ?z10 ?z11 ?z12 ?z13 ?z14 ?z15 ?z16 ?z17 ?z18 ?z19
  (case a0 | l0 | c0 | k0 | a1 | l1 | c1 | k1 | a2 | l2 | c2 | k2 | a3 | l3 | c3 | k3 | a4 | l4 | c4 | k4 | a5 | l5 | c5 | k5 | a6 | l6 | c6 | k6 | a7 | l7 | c7 | k7 | a8 | l8 | c8 | k8 | a9 | l9 | c9 | k9 | a10 | l10 | c10 | k10 | a11 | l11 | c11 | k11 | a12 | l12 | c12 | k12 | a13 | l13 | c13 | k13 | a14 | l14 | c14 | k14 | a15 | l15 | c15 | k15 | a16 | l16 | c16 | k16 | a17 | l17 | c17 | k17 | a18 | l18 | c18 | k18 | a19 | l19 | c19 | k19 | a20 | l20 | c20 | k20 | a21 | l21 | c21 | k21 | a22 | l22 | c22 | k22 | a23 | l23 | c23 | k23 | a24 | l24 | c24 | k24 | a25 | l25 | c25 | k25 | a26 | l26 | c26 | k26 | a27 | l27 | c27 | k27 | a28 | l28 | c28 | k28 | a29 | l29 | c29 | k29 | a30 | l30 | c30 | k30 | n0=>k_is)
  (case m0=>kernel_rfl)
  (case i0 | i1 | i2 | z0 | z1 | z2 | z3 | z4 | z5 | z6 | z7 | z8 | z9 | z10 | z11 | z12 | z13 | z14 | z15 | z16 | z17 | z18 | z19=>k_is)
#print axioms PySem.Challenge.cw_cellships_k51_whole_none_at_all_holds
