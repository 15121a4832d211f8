import PyProof.Rows.All
import Wide.All
import OpenK.AllK
import Wide.FinOn
import Lean
import PyProof.EqAt
import PyProof.EqKinds
import PyProof.TupleCall
import PyProof.NeData
import PyProof.P3In
import PyProof.ListRange
import PyProof.TupleOfStr
import PyProof.Rows.SumAny
import PyProof.Rows.Range3
import PyProof.StrCalls
import PyProof.Rows.SetFrom
import PyProof.WalksMore
import PyProof.TupleOfSeq
import KE.KRevSl
import KE.KLam
import KE.KSortKey
import KE.KNestM
import OpenK.KOwn
import KE.KIsNot
import KE.KTryMore
import PyProof.DictTable
import PyProof.Rows.TupDisplay
import PyProof.ReprLen
import PyProof.ReprRoads
import KE.KDictOf
import PyProof.AttrMissHeap
import PyProof.NeKinds
import PyProof.ZipIter
import PyProof.DictCompW
import PyProof.DictItems
import PyProof.DictWalks
import PyProof.DictDisplay
import PyProof.ExcAttrAll.ValueError
import PyProof.TupleKey
import PyProof.IsRules
import KE.KDictList
import KE.KDictSum
import PyProof.FactsAll.set_1
import PyProof.FactsAll.set_2
import PySem.Challenge.RW_cellships_k48_a_father_told
open PySem.W renaming Frag → FO, nsIn → GH, kia_one → G8, kitOne → Ha, fnOf → HQ, mg_of → Ib, keepIn → IJ, codeIn → Kl, exmOne → Kr, methodObj → Ks, kitx_list → Kt, kitx_dict → Ku, excIn → KQ, cellsFrom_some → K0, instObj → K7, OpenLaw → Le, lookIn → LH, kitx_tuple → L3, callWith_K → L5, looks_findIn → MD
open List renaming mem_append_right → FQ, getElem?_eq_getElem → FS, length_map → FV, range → FY, mem_cons_self → FZ, length_range → F9, replicate → Ga, size_toArray → Ge, getElem?_set_ne → Gh, getElem?_map → Gk, append_assoc → Gm, map_cons → Gq, mem_append_left → Gu, getElem?_set_self → Gw, getElem?_append_right → Gz, mem_cons_of_mem → GB, getElem?_append_left → GJ, map_append → GK, take_append_drop → GL, map_map → GP, getD_eq_getElem?_getD → GR, cons_append → GS, length_append → GV, set_cons_zero → GW, nil_append → G1, map_nil → G3, mem_of_getElem? → He, length_cons → Hf, set_cons_succ → Hi, replicate_succ → Hj, map_congr_left → Hk, take_length → Hl, getElem?_eq_none → Ht, append_nil → Hy, find?_cons → Hz, eq_nil_of_length_eq_zero → HA, length_filter_le → HD, getElem?_cons_succ → HF, getElem?_range → HN, length_replicate → HP, perm_append_comm → HU, filter_append → HW, mem_singleton → HX, mem_of_mem_take → HY, flatten_cons → Ic, ext_getElem? → Ig, drop_eq_nil_of_le → Ii, drop_eq_getElem_cons → Im, length_nil → Iw, range_succ → IA, getElem?_replicate → IC, flatMap_append → IE, getElem_mem → IF, pairwise_map → IU, mem_of_mem_drop → IZ, mem_flatMap → Jd, take_of_length_le → Jq, reverse_cons → Jt, flatMap_cons → Jy, getElem?_reverse → JF, length_take → JG, map_flatMap → JJ, filterMap_cons → JU, foldl_cons → JV, length_reverse → J4, zip_cons_cons → Ke, nodup_nil → Kn, take_zero → Ko, extract_eq_take_drop → Kp, pairwise_iff_getElem → Kq, eq_of_mem_replicate → KA, getElem?_set → KE, length → KH, of_mem_zip → La, length_set → Lb, length_singleton → Lc, sum_append → Lr, mem_filter → Lu, pairwise_append → LA, getElem?_append → LC, drop_zero → LJ, getElem_of_mem → LQ, length_flatMap → LU, getD_cons_zero → LV, getD_cons_succ → LW, mem_cons → L8, take_add_one → Ml, filter_congr → Ms, idxOf? → MM, map_id → MP, foldl → MW, map → M9, set → Na
open PySem renaming wpAny_bind → FR, Value → FU, Shared → FW, wpAny_pure → F7, starEach → Gi, foldedSetIterable → Gj, mainGlobals → Gv, wpAny_mono → Gy, Program → GD, sizeLine → GG, model → GM, wpAny → GU, bootBuiltins → G2, mem_of_lookup → G4, sizeLine_eq → G9, wpAny_standAt → Hd, World → Hg, wpAny_holding → Hn, Around → Ho, compareOp → Hx, wpAny_newObj_type → HC, swapsWith → HJ, wpAny_comprehension_free → HV, NameKind → Ik, wpAny_newFunctionEnv → Ip, sysModules → Iq, wpAny_truthy_bool → Ir, assignEach → Iu, FuncData → IB, compEnvC → ID, codeAny → IK, codeAny_compStart_list → IL, letOwnedTupleGo → IN, theTreesLotGoes → IQ, Scope → IR, wpAny_rule → IT, backTo → IV, standAt → IW, holding → IY, assign → I0, binaryOp → Jb, wpAny_call_entry → Jc, codeAny_loop → Jf, wpAny_passesOwn → Jj, behindInMarks → Jk, wpAny_Call_Name_kw → Jl, attributeBase → Jn, wpAny_callSpecial?_slot → Jp, wpAny_assign_Name → Js, list_append → Ju, wpAny_noted → Jw, wpAny_dictEntries → Jx, compTurn → JA, exec_Assign_Name_used → JE, wpAny_attempt → JO, call_meets → JT, DictEntry → JW, codeAny_builtin → J3, again → J9, codeAny_mono → Kc, tupleKind_room_in1 → Kg, cLine → KG, comprehension → KL, wpAny_newList → KN, wpAny_execs_cons → KS, wpAny_askSetting → KU, wpAny_pyNext_range_end → KW, wpAny_pyIter_rangeiter → KY, tupleKind → K6, wpAny_execs_nil → K9, noteFrame → Lg, codeAny_of_tree → Lh, wpAny_dictEpoch → Ll, wpAny_isOneOf_keyiter → Lm, bindArgs → Lw, codeAny_call_builtin → Lz, wpAny_pyIter_revIter → LF, isTrue → LG, IsRangeIter → LM, keywordEach → LN, Keyword → LO, swapsWithSole → LY, swappedStores → LZ, wpAny_pyIter_range → L0, compPost → L7, wpAny_notedAt → Ma, BindsTo → Mg, wpAny_call → Mh, callerA → Mi, ItemsOf → Mn, wpAny_pyIter_enum → Mr, truthy → Mu, pyNext → Mz, pyIter → MA, seqIndex_neg → MB, setItem → MJ, seqIndex_of → ML, wpAny_mkInt → MO, Paired → MR, builtinsNs → MS, wpAny_Name → MT, typeIs_int → MV, call → MX, hashInt → MY, intKind → MZ, Model → M5, Operator → M6, backToKw → M8, atKey → Nc, bindL → Nd, bindC → Nf
open PySem.Heap renaming get?_push_of_some → FT, lt_size → Gg, get?_push_size → Gn, get?_update_other → Hw, size_push → Jz
open Nat renaming le_refl → FX, lt_of_lt_of_le → Gr, le_of_ble_eq_true → GI, ne_of_lt → GO, lt_irrefl → Hb, le_trans → Hr, zero_le → HM, pow_le_pow_right → HZ, lt_succ_self → Ij, le_succ → IP, le_of_eq → JC, zero_add → Kf, pow_succ → Kj, lt_trichotomy → Kz, add_assoc → KP, le_of_lt → K8, succ_mul → Ld, min_eq_left → Li, two_pow_pos → Ls, mul_le_mul_right → LD, ne_of_gt → Mx, add_zero → ME, ble → MN
open PyProof.Rows renaming wpS_bind → F0, arrOf → F8, wpS_pure → Gb, Keyed → Gs, pendingOf → GA, wpS_forRange → GZ, wpS_modify → Hm, callWith_type1 → Hs, reverseSlice'_eq → HG, wpS_mono → HH, SortSt → HK, mirror → IG, failedOf → IM, IntsAre → Jm, SortKind → JB, seqObj → JD, wpS_get → JI, envOfC → JY, setArr → Kh, AllBare → Kk, KeyOrd → Kw, listUpdate_at → KM, wpS_lift → KO, subscriptTail_builtinR → K1, seqEpoch_at → LP, getElem?_mirror_all → LR, setPending → Mq, isTrue_plain → Mw, boot_range → MU, tail_any → M7
open Bool renaming false_ne_true → F4, and_eq_true → GC, false_eq_true → HE, eq_iff_iff → Ih, false_and → II, true_and → JR, not_eq_true' → Mp
open Or renaming inl → Gf, inr → HB
open PySem.Builtin.Range renaming rangeSize → Gp, small → Je
open Option.some renaming inj → Gx
open Classical renaming byContradiction → GF
open PyProof.Rows.KeyOrd renaming kle_trans → GN, kle_of_klt → G6, kle_refl → Iz, klt_of_kle_of_klt → KC
open Array renaming length_toList → GQ, toList_append → GX, getElem?_toList → Hu, getElem?_eq_getElem → Io, getElem?_setIfInBounds → JP, getD_eq_getD_getElem? → J5, toList_push → KD, getElem?_eq_none → K3, reverse_reverse → Lj, toArray_toList → Ly, reverse_append → LB
open PySem.Builtin.Int renaming intBits → GY
open PySem.Value renaming ref → G0, none → Hh, int → K5, bool → Lv, isInt → LL, type → Me, str → MG
open PySem.NameKind renaming free → G5, cell → KJ
open Int renaming toNat_natCast → G7, ediv_nonneg → HR, zero_add → Il, mul_le_mul_of_nonneg_left → JK, fdiv_eq_ediv_of_nonneg → Ka, emod_lt_of_pos → Ki, pow_add → KR, ediv_eq_zero_of_lt → K4, emod_nonneg → Lo, pow_succ → Lp, ediv_lt_of_lt_mul → Lq, pow_nonneg → LK, natCast_nonneg → L1, sub_add_cancel → Mb, le_of_lt → MF, one_mul → MQ
open PySem.Obj renaming mapSeq → Hq
open PySem.PassesOwn renaming never → Hv
open List.Perm renaming append_left → HS, append_right → Jr
open Ne renaming symm → Ia
open PySem.PyData renaming eqv → Ie, eqvAll → JM, depthAll → JZ, canLayAll0 → KB, canLay0 → LI, depth → MC
open PySem.Builtin.List renaming listTooLong → Iy
open False renaming elim → IS
open PySem.Builtin renaming bitAnd → Ja
open List.Pairwise renaming imp_of_mem → Jg, nil → Mj, imp → Mt
open PySem.Paired renaming length → Jh
open PySem.Data renaming cell → Ji, seq → KI, fields → MK
open PySem.F renaming plainAttrs_list → Jo, excBase_ValueError → Kb, slot_list_append → Kx, type_list_append → Ky
open PySem.IsL renaming update → JH
open PySem.Around renaming under_plainId → JL
open Function renaming comp → JN, comp_def → Kv
open PySem.Builtin.Dict_items renaming ownsTuple → JQ
open True renaming intro → JS
open ForInStep renaming yield → JX
open List.cons renaming injEq → J1, inj → L9
open Array.Perm renaming refl → J6
open PySem.Heap.SameBut renaming update → J7
open PySem.Calls renaming Name_function_global → J8, call_function_entry → Km, callWith_builtin → K2, evalArgs_plain → Lx, Constant_str → LX, spliced_cons → L4, spliced_nil → Mf
open PyProof renaming noPylong_small → KZ
open PySem.Str renaming ofString → Lk
open PySem.Builtin.Dict renaming showsAll → Ln
open Prod.mk renaming inj → LS
open PySem.SeqAt.EqAt renaming int_int → L6
open Sum renaming inl → Mc, inr → Md
open PyProof.Rows.SortSt renaming mk' → Mk
open Option renaming isSome_map → Mm
set_option Elab.async false
set_option linter.all false
set_option bootstrap.genMatcherCode false
set_option genSizeOf false
set_option maxRecDepth 100000
set_option maxHeartbeats 4000000
namespace L2
open PySem PySem.Spec PyProof.Rows
abbrev Key:=Sum Int Str
def x9:Key->FU->Bool
 | .inl k,v=>LL k v
 | .inr x,v=>Value.isStrOf x v
def Fe (w:Hg):Key->Int
 | .inl k=>MY k
 | .inr x=>hashStr w x
theorem bB:∀{k:Key} {v:FU},x9 k v=true->(∃i t,k=Mc i/\v=K5 i t)\/(∃x t,k=Md x/\v=MG x t)
 | .inl i,v,h=>by
  obtain ⟨t,e⟩:=Value.isInt_shape (k:=i) (v:=v) h
  exact .inl ⟨i,t,rfl,e⟩
 | .inr x,v,h=>by
  obtain ⟨t,e⟩:=Value.isStrOf_shape (x:=x) (v:=v) h
  exact .inr ⟨x,t,rfl,e⟩
theorem zG (a b:Int):decide ((Mc a:Key)=Mc b)=(a==b):=by
 by_cases e:a=b
 ·subst e;simp
 ·have h:¬ (Mc a:Key)=Mc b:=fun q=>e (Sum.inl.inj q)
  rw [decide_eq_false h]
  exact (beq_eq_false_iff_ne.mpr e).symm
theorem zH (a b:Str):decide ((Md a:Key)=Md b)=decide (a=b):=by
 by_cases e:a=b
 ·subst e;simp
 ·have h:¬ (Md a:Key)=Md b:=fun q=>e (Sum.inr.inj q)
  rw [decide_eq_false h,decide_eq_false e]
theorem zI (a:Int) (b:Str):decide ((Mc a:Key)=Md b)=false:=decide_eq_false (fun q=>nomatch q)
theorem zJ (a:Str) (b:Int):decide ((Md a:Key)=Mc b)=false:=decide_eq_false (fun q=>nomatch q)
def jN (prog:GD) (w:Hg):PySem.KeyKind prog w Key where
 is:=x9
 hash:=Fe w
 inj:=fun v a b ha hb=>by
  rcases bB ha with ⟨i,t,rfl,rfl⟩ | ⟨x,t,rfl,rfl⟩
  ·rcases bB hb with ⟨j,u,rfl,e⟩ | ⟨y,u,rfl,e⟩
   ·injection e with e1 _;rw [e1]
   ·exact nomatch e
  ·rcases bB hb with ⟨j,u,rfl,e⟩ | ⟨y,u,rfl,e⟩
   ·exact nomatch e
   ·injection e with e1 _;rw [e1]
 byValue:=fun k v h=>by
  rcases bB h with ⟨i,t,rfl,rfl⟩ | ⟨x,t,rfl,rfl⟩ <;> rfl
 pyHash:=fun hv h=>by
  rcases bB hv with ⟨i,t,rfl,rfl⟩ | ⟨x,t,rfl,rfl⟩
  ·exact wpAny_pyHash_int h
  ·exact wpAny_pyHash_str h
 eqBool:=fun hu hv h=>by
  rcases bB hu with ⟨i,t,rfl,rfl⟩ | ⟨x,t,rfl,rfl⟩
  ·rcases bB hv with ⟨j,u,rfl,rfl⟩ | ⟨y,u,rfl,rfl⟩
   ·rw [zG] at h;exact wpAny_eqBool_int h
   ·rw [zI] at h;exact SeqAt.EqAt.int_str i t y u _ _ _ _ h
  ·rcases bB hv with ⟨j,u,rfl,rfl⟩ | ⟨y,u,rfl,rfl⟩
   ·rw [zJ] at h;exact SeqAt.EqAt.str_int x t j u _ _ _ _ h
   ·rw [zH] at h;exact wpAny_eqBool_str h
 «strs»:=fun k x t v h=>by
  rcases bB h with ⟨i,u,rfl,e⟩ | ⟨y,u,rfl,e⟩
  ·exact nomatch e
  ·injection e with e1 _
   subst e1
   cases v <;> rfl
end L2
namespace L2
open PySem PySem.Spec PyProof.Rows
inductive V where
 | non | bl (b:Bool) | int (i:Int) | str (x:Str) | byt (b:Array UInt8) | flt (b:UInt64) | ref (a:Addr) | ty (n:String)
 deriving DecidableEq
def RelV:V->FU->Prop
 | .non,u=>u=Hh
 | .bl b,u=>u=Lv b
 | .int i,u=>∃t,u=K5 i t
 | .str x,u=>∃t,u=MG x t
 | .byt b,u=>∃t,u=Value.bytes b t
 | .flt b,u=>∃t,u=Value.float b t
 | .ref a,u=>u=G0 a
 | .ty n,u=>u=Me n
abbrev Vals:List V->List FU->Prop:=MR RelV
theorem Vals.length {xs:List V} {us:List FU} (r:Vals xs us):xs.length=us.length:=Jh r
theorem Vals.get:∀{xs:List V} {us:List FU} {i:Nat} {x:V},Vals xs us->xs[i]?=some x->∃u,us[i]?=some u/\RelV x u
 | _,_,_,_,.nil,e=>by simp at e
 | _,_,0,_,.cons r _,e=>by simp at e;subst e;exact ⟨_,rfl,r⟩
 | _,_,i+1,x,.cons _ t,e=>by
  obtain ⟨u,h1,h2⟩:=Vals.get (i:=i) (x:=x) t (by simpa using e)
  exact ⟨u,by simpa using h1,h2⟩
theorem Vals.set {x:V} {u:FU} (r:RelV x u):∀{xs:List V} {us:List FU} (i:Nat),Vals xs us->Vals (xs.set i x) (us.set i u)
 | _,_,_,.nil=>.nil
 | _,_,0,.cons _ t=>.cons r t
 | _,_,i+1,.cons q t=>.cons q (Vals.set r i t)
theorem Vals.append:∀{xs ys:List V} {us ws:List FU},Vals xs us->Vals ys ws->Vals (xs++ys) (us++ws)
 | _,_,_,_,.nil,s=>s
 | _,_,_,_,.cons r t,s=>.cons r (Vals.append t s)
theorem Vals.take:∀{xs:List V} {us:List FU} (n:Nat),Vals xs us->Vals (xs.take n) (us.take n)
 | _,_,0,_=>.nil
 | _,_,_+1,.nil=>.nil
 | _,_,n+1,.cons r t=>.cons r (Vals.take n t)
theorem Vals.drop:∀{xs:List V} {us:List FU} (n:Nat),Vals xs us->Vals (xs.drop n) (us.drop n)
 | _,_,0,r=>r
 | _,_,_+1,.nil=>.nil
 | _,_,n+1,.cons _ t=>Vals.drop n t
def RelO:Option V->Option FU->Prop
 | some v,some u=>RelV v u
 | none,none=>True
 | _,_=>False
def KV {κ:Type}:List (κ×V)->List (κ×FU)->Prop:=MR fun (p:κ×V) (q:κ×FU)=>p.1=q.1/\RelV p.2 q.2
def kV:Key->V
 | .inl i=>.int i
 | .inr x=>.str x
inductive HO where
 /-- a list -/
 | lst (xs:List V)
 /-- a tuple (never changes) -/
 | tup (xs:List V)
 /-- a dict whose keys are ints and texts;one whose keys are tuples of ints and texts (the empty one is both) -/
 | dK (kvs:List (Key×V)) | dT (kvs:List (List Key×V))
 /-- a set of ints: its members,its size -/
 | set (S:Int->Bool) (n:Nat)
 /-- an instance of the class at C,its dict at dx,its attributes -/
 | ins (C dx:Addr) (fs:List (Str×V))
 /-- the dict of the instance at x -/
 | own (x:Addr)
 /-- the dict of an exception -/
 | xd (fs:List (Str×V))
 /-- a bound method,f of x -/
 | met (f x:Addr)
 /-- a range object lo,lo+1,.. below hi -/
 | rng (lo hi:Int)
 /-- a thing that is known to the object (the script;a dict while a loop walks it): read,never written while it is so -/
 | frz (o:Obj) (u:HO)
 /-- a code object's table -/
 | tbl (ps:Array FU)
 /-- any other thing,by what is true of its one object (a def of one's own: SetO a S n:=HO.ext fun h=>..) -/
 | ext (φ:Heap->Prop)
abbrev Hp:=Addr->Option HO
def upd (H:Hp) (a:Addr) (o:HO):Hp:=fun b=>if b=a then some o else H b
theorem az {H:Hp} {a:Addr} {o:HO}:upd H a o a=some o:=by unfold upd;rw [if_pos rfl]
theorem aw {H:Hp} {a b:Addr} {o:HO} (h:b≠a):upd H a o b=H b:=by unfold upd;rw [if_neg h]
theorem aY {H:Hp} {a b:Addr} {o:HO} (h:H a=some o) (h':H b=none):a≠b:=by
 intro e;subst e;rw [h] at h';cases h'
section
variable (P:GD) (w:Hg)
def br (H:Hp) (h:Heap) (a:Addr):HO->Prop
 | .lst xs=>xs.length<=GG/\∃(its:List FU) (n:Nat),Vals xs its/\h.get? a=some { cls:=.type "list",data:=.seq its.toArray n }
 | .tup xs=>xs.length<=GG/\∃its:List FU,Vals xs its/\IsTup h a its.toArray
 | .dK kvs=>kvs.length<=GG/\(a==Iq)=false/\∃vs,KV kvs vs/\h.DictOf (jN P w) a vs
 | .dT kvs=>kvs.length<=GG/\(a==Iq)=false/\∃xs:List (List Key×Addr×FU),
   MR (fun (p:List Key×V) (q:List Key×Addr×FU)=>p.1=q.1/\H q.2.1=some (.tup (p.1.map kV))/\RelV p.2 q.2.2) kvs xs /\
   ∃o es ep,h.get? a=some o/\o.ExactDict/\o.data=.dict es ep/\es.toList=xs.map (entryOfKey (K6 (jN P w)))/\(xs.map (·.1)).Nodup
 | .set S n=>h.SetOf (MZ P w) a S n
 | .ins C dx fs=>H dx=some (.own a)/\fs.length<=1000/\dx≠a/\h.get? a=some (K7 C dx) /\
   ∃mA,h.Ns1 dx mA/\(∀f,RelO (fs.lookup f) (mA f))/\PySem.Within mA (fs.map (·.1))
 | .own _=>∃o,h.get? a=some o
 | .xd fs=>∃mA,h.Ns1 a mA/\∀f,RelO (fs.lookup f) (mA f)
 | .rng lo hi=>∃t u v,h.get? a=some { cls:=.type "range",data:=.fields #[.int lo t,.int hi u,.int 1 v] }
 | .frz o u=>h.get? a=some o/\br H h a u
 | .tbl ps=>∃qs,h.get? a=some { cls:=.none,data:=.fields qs }/\TriplesOk qs.toList/\∀pos cv,codeAmong pos qs.toList=some cv->∃c q t,cv=.ref c/\H c=some (.own a)/\ps[0]?=some (.str q t)/\h.CodeRec cv q
 | .met f x=>h.get? a=some (Ks (.ref f) (.ref x))
 | .ext φ=>φ h/\(∃o,h.get? a=some o)/\∀h1 h2:Heap,φ h1->(∀o,h1.get? a=some o->h2.get? a=some o)->φ h2
def HOk (H:Hp) (h:Heap):Prop:=∀a o,H a=some o->br P w H h a o
end
section
variable {P:GD} {w:Hg} {H H':Hp} {h h':Heap} {a:Addr} {o:HO}
theorem br.lt (x:br P w H h a o):a < h.objs.size:=by
 cases o with
 | lst xs=>obtain ⟨_,_,_,_,e⟩:=x;exact Gg e
 | tup xs=>obtain ⟨_,_,_,p⟩:=x;exact p.lt
 | dK kvs=>obtain ⟨_,_,_,_,o,_,_,e,_⟩:=x;exact Gg e
 | dT kvs=>obtain ⟨_,_,_,_,o,_,_,e,_⟩:=x;exact Gg e
 | set S n=>obtain ⟨o,_,_,_,e,_⟩:=x;exact Gg e
 | ins C dx fs=>obtain ⟨_,_,_,e,_⟩:=x;exact Gg e
 | own y=>obtain ⟨_,e⟩:=x;exact Gg e
 | xd fs=>obtain ⟨_,⟨_,_,_,e,_⟩,_⟩:=x;exact Gg e
 | rng lo hi=>obtain ⟨_,_,_,e⟩:=x;exact Gg e
 | frz ob u=>obtain ⟨e,_⟩:=x;exact Gg e
 | tbl ps=>obtain ⟨_,e,_⟩:=x;exact Gg e
 | met f y=>exact Gg (show h.get? a=some _ from x)
 | ext φ=>obtain ⟨_,⟨_,e⟩,_⟩:=x;exact Gg e
theorem Paired.mapP {α β:Type} {F G:α->β->Prop}:∀{l₁:List α} {l₂:List β},MR F l₁ l₂->(∀a b,F a b->G a b)->MR G l₁ l₂
 | _,_,.nil,_=>.nil
 | _,_,.cons r t,f=>.cons (f _ _ r) (Paired.mapP t f)
theorem br.stay (x:br P w H h a o) (k:∀b u,(b=a\/H b=some (.own a))->h.get? b=some u->h'.get? b=some u)
  (ho:∀b,H b=some (.own a)->H' b=some (.own a)) (ht:∀b xs,H b=some (.tup xs)->H' b=some (.tup xs)):br P w H' h' a o:=by
 induction o with
 | lst xs=>obtain ⟨z,its,n,r,e⟩:=x;exact ⟨z,its,n,r,k _ _ (.inl rfl) e⟩
 | tup xs=>obtain ⟨z,its,r,ob,e,c⟩:=x;exact ⟨z,its,r,ob,k _ _ (.inl rfl) e,c⟩
 | dK kvs=>obtain ⟨z,y,vs,r,ob,es,ep,e,c⟩:=x;exact ⟨z,y,vs,r,ob,es,ep,k _ _ (.inl rfl) e,c⟩
 | dT kvs=>
  obtain ⟨z,y,xs,r,ob,es,ep,e,c⟩:=x
  exact ⟨z,y,xs,Paired.mapP r fun p q z=>⟨z.1,ht _ _ z.2.1,z.2.2⟩,ob,es,ep,k _ _ (.inl rfl) e,c⟩
 | set S n=>obtain ⟨ob,es,ep,t,e,c⟩:=x;exact ⟨ob,es,ep,t,k _ _ (.inl rfl) e,c⟩
 | ins C dx fs=>
  obtain ⟨d,z,ne,e,mA,⟨od,es,ep,e2,c⟩,r⟩:=x
  exact ⟨ho _ d,z,ne,k _ _ (.inl rfl) e,mA,⟨od,es,ep,k _ _ (.inr d) e2,c⟩,r⟩
 | own y=>obtain ⟨ob,e⟩:=x;exact ⟨ob,k _ _ (.inl rfl) e⟩
 | xd fs=>obtain ⟨mA,⟨od,es,ep,e,c⟩,r⟩:=x;exact ⟨mA,⟨od,es,ep,k _ _ (.inl rfl) e,c⟩,r⟩
 | rng lo hi=>obtain ⟨t,u,v,e⟩:=x;exact ⟨t,u,v,k _ _ (.inl rfl) e⟩
 | frz ob u ih=>obtain ⟨e,q⟩:=x;exact ⟨k _ _ (.inl rfl) e,ih q⟩
 | tbl ps=>
  obtain ⟨qs,e,t,f⟩:=x
  refine ⟨qs,k _ _ (.inl rfl) e,t,fun pos cv hc=>?_⟩
  obtain ⟨c,q,tk,rfl,ho',hq,c2,oc,vs,tq,ec,e1,r⟩:=f pos cv hc
  cases ec
  exact ⟨c,q,tk,rfl,ho _ ho',hq,c,oc,vs,tq,rfl,k _ _ (.inr ho') e1,r⟩
 | met f y=>
  have e:h.get? a=some (Ks (.ref f) (.ref y)):=x
  show h'.get? a=some (Ks (.ref f) (.ref y))
  exact k a _ (.inl rfl) e
 | ext φ=>obtain ⟨p,⟨o,e⟩,st⟩:=x;exact ⟨st _ _ p fun o q=>k _ _ (.inl rfl) q,⟨o,k _ _ (.inl rfl) e⟩,st⟩
theorem HOk.lt (x:HOk P w H h) (e:H a=some o):a < h.objs.size:=(x a o e).lt
theorem HOk.fresh (x:HOk P w H h) (e:h.objs.size<=a):H a=none:=by
 cases q:H a with
 | none=>rfl
 | some u=>exact absurd (Gr (x.lt q) e) (Hb _)
theorem HOk.kept (x:HOk P w H h) (k:∀b u,h.get? b=some u->h'.get? b=some u):HOk P w H h':=fun a o e=>
 (x a o e).stay (fun b u _ q=>k b u q) (fun _ q=>q) fun _ _ q=>q
theorem HOk.laid (x:HOk P w H h) (k:∀b u,h.get? b=some u->h'.get? b=some u) (hp:h.objs.size<=a) (new:br P w (upd H a o) h' a o):HOk P w (upd H a o) h':=fun b u e=>by
 have hn:=x.fresh hp
 by_cases hb:b=a
 ·subst hb;rw [az] at e;cases e;exact new
 ·rw [aw hb] at e
  exact (x b u e).stay (fun c v _ q=>k c v q) (fun c q=>by rw [aw (aY q hn)];exact q) fun c xs q=>by rw [aw (aY q hn)];exact q
end
def Rd (H:Hp) (a:Addr) (u:HO):Prop:=H a=some u\/∃o,H a=some (.frz o u)
theorem Rd.ok {P:GD} {w:Hg} {H:Hp} {h:Heap} {a:Addr} {u:HO} (r:Rd H a u) (x:HOk P w H h):br P w H h a u:=by
 rcases r with r | ⟨o,r⟩
 ·exact x a u r
 ·obtain ⟨_,q⟩:=x a _ r
  exact q
def Mut:Option HO->Prop
 | some (.lst _)=>True
 | some (.dK _)=>True
 | some (.dT _)=>True
 | some (.set _ _)=>True
 | some (.ins _ _ _)=>True
 | some (.ext _)=>True
 | _=>False
section
variable {P:GD} {w:Hg} {H:Hp} {h h':Heap} {x e:Addr} {o':HO}
theorem HOk.write (ok:HOk P w H h) (mu:Mut (H x)) (he:e=x\/H e=some (.own x)) (k:∀b u,b≠e->h.get? b=some u->h'.get? b=some u) (heo:∃u,h'.get? e=some u)
  (new:br P w (upd H x o') h' x o'):HOk P w (upd H x o') h':=fun b u q=>by
 have nown:∀c y,H c=some (.own y)->c≠x:=fun c y r z=>by subst z;rw [r] at mu;exact mu
 have ntup:∀c xs,H c=some (.tup xs)->c≠x:=fun c xs r z=>by subst z;rw [r] at mu;exact mu
 by_cases hb:b=x
 ·subst hb;rw [az] at q;cases q;exact new
 ·rw [aw hb] at q
  by_cases hbe:b=e
  ·have q':H b=some (.own x):=by
    rcases he with z | z
    ·exact absurd (hbe.trans z) hb
    ·rw [hbe];exact z
   rw [q] at q';cases q'
   obtain ⟨v,hv⟩:=heo
   exact ⟨v,by rw [hbe];exact hv⟩
  ·refine (ok b u q).stay (fun c v hc r=>k c v ?_ r) (fun c r=>by rw [aw (nown c b r)];exact r) fun c xs r=>by rw [aw (ntup c xs r)];exact r
   rcases hc with rfl | hc
   ·exact hbe
   ·rintro rfl
    rcases he with z | z
    ·exact nown c b hc z
    ·rw [hc] at z;cases z;exact hb rfl
end
structure Un (fs ex:List Addr) (H H':Hp) (h h':Heap):Prop where
 keep:∀b o,h.get? b=some o->H b=none->b∉fs->b∉ex->h'.get? b=some o
 slot:∀b o,h.get? b=some o->H b=none->b∈fs->b∉ex->∃sl,h'.get? b=some { o with slots:=sl }
 free:∀b o,h.get? b=some o->H b=none->b∉ex->H' b=none
 there:∀b o,h.get? b=some o->b∉ex->∃o',h'.get? b=some o'
 tups:∀b xs,H b=some (.tup xs)->H' b=some (.tup xs)
 frzs:∀b o u,H b=some (.frz o u)->H' b=some (.frz o u)
 tbls:∀b ps,H b=some (.tbl ps)->∃more,H' b=some (.tbl (ps++more))
section
variable {fs fs' ex ex':List Addr} {H H1 H2:Hp} {h h1 h2 h':Heap} {a x e:Addr} {o:HO}
theorem Un.any (u:Un fs ex H H1 h h1) {b:Addr} {ob:Obj} (q:h.get? b=some ob) (n:H b=none) (hx:b∉ex):∃sl,h1.get? b=some { ob with slots:=sl }:=by
 by_cases hb:b∈fs
 ·exact u.slot b ob q n hb hx
 ·exact ⟨ob.slots,u.keep b ob q n hb hx⟩
theorem Un.kept (k:∀b u,h.get? b=some u->h'.get? b=some u):Un fs ex H H h h':=
 ⟨fun b ob q _ _ _=>k b ob q,fun b ob q _ _ _=>⟨ob.slots,k b ob q⟩,fun _ _ _ n _=>n,fun b ob q _=>⟨ob,k b ob q⟩,fun _ _ q=>q,fun _ _ _ q=>q,fun _ ps q=>⟨#[],by rw [q];simp⟩⟩
theorem Un.refl:Un fs ex H H h h:=Un.kept fun _ _ q=>q
theorem Un.laid (k:∀b u,h.get? b=some u->h'.get? b=some u) (hp:h.objs.size<=a) (hn:H a=none):Un fs ex H (upd H a o) h h' where
 keep:=fun b u q _ _ _=>k b u q
 slot:=fun b u q _ _ _=>⟨u.slots,k b u q⟩
 free:=fun b u q n _=>by rw [aw (GO (Gr (Gg q) hp))];exact n
 there:=fun b u q _=>⟨u,k b u q⟩
 tups:=fun b xs q=>by rw [aw (aY q hn)];exact q
 frzs:=fun b u xs q=>by rw [aw (aY q hn)];exact q
 tbls:=fun b ps q=>⟨#[],by rw [aw (aY q hn),q];simp⟩
theorem Un.write (mu:Mut (H x)) (he:e=x\/H e=some (.own x)) (k:∀b u,b≠e->h.get? b=some u->h'.get? b=some u) (heo:∃u,h'.get? e=some u):Un fs ex H (upd H x o) h h':=by
 have hx:∀b,H b=none->b≠x:=fun b n z=>by subst z;rw [n] at mu;exact mu
 have hb:∀b,H b=none->b≠e:=fun b n z=>by
  subst z
  rcases he with r | r
  ·exact hx b n r
  ·rw [n] at r;cases r
 have hm:∀b u,H b=some u->¬ Mut (some u)->b≠x:=fun b u q nm z=>by subst z;rw [q] at mu;exact nm mu
 refine ⟨fun b u q n _ _=>k b u (hb b n) q,fun b u q n _ _=>⟨u.slots,k b u (hb b n) q⟩,fun b u q n _=>by rw [aw (hx b n)];exact n,fun b u q _=>?_,
  fun b xs q=>by rw [aw (hm b _ q fun z=>z)];exact q,fun b u xs q=>by rw [aw (hm b _ q fun z=>z)];exact q,fun b ps q=>⟨#[],by rw [aw (hm b _ q fun z=>z),q];simp⟩⟩
 by_cases hbe:b=e
 ·subst hbe;exact heo
 ·exact ⟨u,k b u hbe q⟩
end
def trk (h:Heap) (H:Hp):List Addr:=(FY h.objs.size).filter fun a=>(H a).isSome
def jO (h:Heap) (H:Hp):Heap:=PySem.W.hideAll h (trk h H)
theorem o8 (h:Heap) (H:Hp):(jO h H).objs.size=h.objs.size:=PySem.W.hideAll_size _ _
theorem qx {h:Heap} {H:Hp} {b:Addr} {o:Obj} (e:h.get? b=some o) (n:H b=none):(jO h H).get? b=some o:=
 PySem.W.hideAll_get _ e fun hm=>by
  have q:(H b).isSome=true:=(List.mem_filter.mp hm).2
  rw [n] at q;simp at q
theorem uF {h:Heap} {H:Hp} {b:Addr} {o:Obj} (e:(jO h H).get? b=some o):h.get? b=some o/\H b=none:=by
 have e':h.get? b=some o:=PySem.W.of_hideAll (trk h H) e
 refine ⟨e',?_⟩
 cases q:H b with
 | none=>rfl
 | some x=>
  have hm:b∈trk h H:=List.mem_filter.mpr ⟨List.mem_range.mpr (Gg e'),by simp [q]⟩
  have z:(jO h H).get? b=none:=PySem.W.hideAll_none (trk h H) hm
  rw [z] at e;cases e
def fF (g h:Heap) (L:Addr):List (Addr×Obj):=(FY h.objs.size).filterMap fun a=>if a=L\/(g.get? a).isSome=true then none else (h.get? a).map fun o=>(a,o)
theorem kS {g h:Heap} {L a:Addr} {o:Obj} (h1:a≠L) (h2:g.get? a=none) (h3:h.get? a=some o):(a,o)∈fF g h L:=
 List.mem_filterMap.mpr ⟨a,List.mem_range.mpr (Gg h3),by simp [h1,h2,h3]⟩
theorem gZ {g h:Heap} {L:Addr} {p:Addr×Obj} (hp:p∈fF g h L):p.1≠L/\g.get? p.1=none/\h.get? p.1=some p.2:=by
 obtain ⟨b,_,e⟩:=List.mem_filterMap.mp hp
 split at e
 ·cases e
 ·rename_i hn
  cases q:h.get? b with
  | none=>rw [q] at e;simp at e
  | some u=>
   rw [q] at e
   simp only [Option.map_some,Option.some.injEq] at e
   subst e
   refine ⟨fun z=>hn (.inl z),?_,q⟩
   show g.get? b=none
   cases r:g.get? b with
   | none=>rfl
   | some v=>exact (hn (.inr (by simp [r]))).elim
theorem qy {g h:Heap} {L:Addr}:News g L h (fF g h L):=fun p hp=>let ⟨a,b,c⟩:=gZ hp;⟨c,a,b⟩
end L2
namespace L2
open PySem PySem.Spec PyProof.Rows
structure Mod (K:FO) (mg:Str->Option FU) (base:Heap):Prop where
 kin:K.In base
 glob:base.Ns Gv mg
 blt:∃mb,base.Ns MS mb/\∀x:Str,x≠"__name__"->mb x=G2 x
 nolimit:base.NoLimit
structure Cx where
 prog:GD
 w:Hg
 K:FO
 mg:Str->Option FU
 base:Heap
 A:Ho
 N:List Str
 s₀:FW
 H₀:Hp
 env:Env
 outer:List Env
 stack:List Env
 ex:List Addr
 fn:Str->Bool
 calm:Bool
 pn:List (Addr×Obj)
 xe:FU->FW->Prop
def frs (l:List Env):List Addr:=l.filterMap (·.frame)
abbrev Cx.fs (X:Cx):List Addr:=frs X.outer
def Vis (sc:IR) (x:Str):Prop:=sc.names.lookup x=some .local\/sc.names.lookup x=some .cell\/sc.names.lookup x=some .free
def Loc (sc:IR) (x:Str):Prop:=sc.names.lookup x=some .local\/sc.names.lookup x=some .cell
def Look (env:Env) (h:Heap) (m:Str->Option FU) (x:Str) (u:FU):Prop:=
 (env.kindOf x=some .local/\m x=some u)\/((env.kindOf x=some .cell\/env.kindOf x=some .free)/\∃c,env.cells.lookup x=some c/\h.IsCell c (some u))
structure Cx.Ok (X:Cx):Prop where
 mod:Mod X.K X.mg X.base
 kind:X.env.scope.kind=.function
 glob:X.env.globals=Gv
 blt:X.env.builtins=MS
 above:X.s₀.heap.objs.size<=X.env.locals
 inj:∀x y c,X.env.cells.lookup x=some c->X.env.cells.lookup y=some c->x=y
 has:∀x,(X.env.kindOf x=some .cell\/X.env.kindOf x=some .free)->∃c,X.env.cells.lookup x=some c
 cab:∀x c,X.fn x=true->X.env.cells.lookup x=some c->X.s₀.heap.objs.size<=c
 hd:X.calm=true->X.A.handled=none
 frames:X.A.frames=some X.stack
 stk:X.stack=X.outer\/(X.stack=X.env::X.outer/\X.env.frame=some X.env.locals)
 exf:∀b∈X.ex,b≠X.env.locals/\∀x c,X.env.cells.lookup x=some c->c≠b
 bs:∀b o,X.base.get? b=some o->X.s₀.heap.get? b=some o/\X.H₀ b=none
 bsz:X.base.objs.size<=X.s₀.heap.objs.size
 noex:∀b o,X.base.get? b=some o->b∉X.ex
 exfs:∀b∈X.ex,b∉X.fs
 funs:X.s₀.heap.FunFrames X.base X.outer
 frf:∀b∈X.fs,X.H₀ b=none
structure Inv (X:Cx) (pins:List (Addr×Obj)) (σ:List (Option V)) (H:Hp) (s:FW):Prop where
 ok:X.Ok
 os:s.os=X.s₀.os
 bare:Kk s.gens
 base:Un X.fs X.ex X.H₀ H X.s₀.heap s.heap
 loc:∃m,s.heap.Ns X.env.locals m/\∀(i:Nat) (x:Str) (v:V),X.N[i]?=some x->σ[i]?=some (some v)->Vis X.env.scope x->∃u,RelV v u/\Look X.env s.heap m x u
 cell:∀x c,X.env.cells.lookup x=some c->∃v,s.heap.IsCell c v
 free:H X.env.locals=none
 freeC:∀x c,X.env.cells.lookup x=some c->H c=none
 pin:∀p∈X.pn++pins,s.heap.get? p.1=some p.2/\H p.1=none/\p.1≠X.env.locals/\p.1∉X.fs/\∀v,p.2.data≠.cell v
 hok:HOk X.prog X.w H s.heap
 len:σ.length=X.N.length
section
variable {X:Cx} {pins:List (Addr×Obj)} {σ:List (Option V)} {H H':Hp} {s:FW} {h':Heap}
theorem Cx.Ok.nofr (ok:X.Ok) {b:Addr} {o:Obj} (e:X.base.get? b=some o):b∉X.fs:=fun hb=>by
 have:=(ok.funs.mem hb).1
 rw [e] at this;cases this
theorem Inv.bs (I:Inv X pins σ H s):∀b o,X.base.get? b=some o->s.heap.get? b=some o/\H b=none:=fun b o e=>
 ⟨I.base.keep b o (I.ok.bs b o e).1 (I.ok.bs b o e).2 (I.ok.nofr e) (I.ok.noex b o e),I.base.free b o (I.ok.bs b o e).1 (I.ok.bs b o e).2 (I.ok.noex b o e)⟩
theorem Inv.bk (I:Inv X pins σ H s):∀b o,X.base.get? b=some o->s.heap.get? b=some o:=fun b o e=>(I.bs b o e).1
theorem Inv.mod (I:Inv X pins σ H s):Mod X.K X.mg X.base:=I.ok.mod
theorem Inv.kIn (I:Inv X pins σ H s):X.K.In s.heap:=I.ok.mod.kin.keeps I.bk
theorem Inv.fr (I:Inv X pins σ H s):∃m,Fr X.base X.env.locals s.heap m:=
 let ⟨m,hn,_⟩:=I.loc
 ⟨m,hn,I.bk,Hr I.ok.bsz I.ok.above⟩
theorem Inv.lt (I:Inv X pins σ H s):X.env.locals < s.heap.objs.size:=let ⟨_,hn,_⟩:=I.loc;hn.lt
theorem Inv.sz (I:Inv X pins σ H s):X.s₀.heap.objs.size<=s.heap.objs.size:=Hr I.ok.above (K8 I.lt)
theorem Inv.nofs (I:Inv X pins σ H s) {a:Addr} (h:s.heap.objs.size<=a):a∉X.fs:=fun hb=>by
 obtain ⟨_,o,ho,_⟩:=I.ok.funs.mem hb
 exact absurd (Gr (Gg ho) (Hr I.sz h)) (Hb _)
theorem Inv.cne (I:Inv X pins σ H s):∀x c,X.env.cells.lookup x=some c->c≠X.env.locals:=fun x c e z=>by
 obtain ⟨v,o,ho,hd⟩:=I.cell x c e
 obtain ⟨m,⟨o',es,ep,ho',hd',_⟩,_⟩:=I.loc
 rw [z,ho'] at ho;cases ho;rw [hd'] at hd;cases hd
theorem Inv.funs (I:Inv X pins σ H s):s.heap.FunFrames X.base X.outer:=by
 have all:∀(l:List Env),(∀b∈frs l,b∈X.fs)->X.s₀.heap.FunFrames X.base l->s.heap.FunFrames X.base l:=by
  intro l
  induction l with
  | nil=>intro _ _;trivial
  | cons env r ih=>
   intro hs hl
   obtain ⟨hk,⟨L,o,hf,hn,ho,hd⟩,hr⟩:=hl
   have hL:L∈X.fs:=hs L (by unfold frs;rw [JU,hf];exact FZ)
   obtain ⟨sl,e⟩:=I.base.slot L o ho (I.ok.frf L hL) hL fun z=>I.ok.exfs L z hL
   exact ⟨hk,⟨L,_,hf,hn,e,hd⟩,ih (fun b hb=>hs b (by unfold frs;rw [JU,hf];exact GB _ hb)) hr⟩
 exact all X.outer (fun _ hb=>hb) I.ok.funs
theorem Inv.stack (I:Inv X pins σ H s):s.heap.FunFrames X.base X.stack:=by
 rcases I.ok.stk with e | ⟨e,hf⟩
 ·rw [e];exact I.funs
 ·rw [e]
  obtain ⟨m,hn,_⟩:=I.loc
  refine .cons (by rw [I.ok.kind];decide) hf hn ?_ I.funs
  exact Heap.get?_none_of_le (Hr I.ok.bsz I.ok.above)
theorem Inv.stkSub (I:Inv X pins σ H s):∀b∈frs X.stack,b∈X.env.locals::X.fs:=fun b hb=>by
 rcases I.ok.stk with e | ⟨e,hf⟩
 ·rw [e] at hb;exact GB _ hb
 ·rw [e] at hb
  unfold frs at hb
  rw [JU,hf] at hb
  exact hb
theorem Inv.stkFree (I:Inv X pins σ H s):∀b∈frs X.stack,H b=none:=fun b hb=>by
 rcases List.mem_cons.mp (I.stkSub b hb) with e | hb
 ·rw [e];exact I.free
 ·obtain ⟨_,o,ho,_⟩:=I.ok.funs.mem hb
  exact I.base.free b o ho (I.ok.frf b hb) fun z=>I.ok.exfs b z hb
theorem Inv.step {g':Array GenState} {t':Nat} {d':Drawn} {ch:List Addr} (I:Inv X pins σ H s)
  (hch:∀b∈ch,(b∈X.ex\/X.s₀.heap.objs.size<=b)/\b≠X.env.locals/\(∀x c,X.env.cells.lookup x=some c->c≠b)/\∀p∈X.pn++pins,p.1≠b)
  (keep:∀b o,b≠X.env.locals->b∉X.fs->b∉ch->s.heap.get? b=some o->H b=none->h'.get? b=some o)
  (slot:∀b o,b≠X.env.locals->b∈X.fs->b∉ch->s.heap.get? b=some o->H b=none->∃sl,h'.get? b=some { o with slots:=sl }) (free:∀b o,b∉ch->s.heap.get? b=some o->H b=none->H' b=none)
  (there:∀b o,b∉ch->s.heap.get? b=some o->∃o',h'.get? b=some o')
  (tups:∀b xs,H b=some (.tup xs)->H' b=some (.tup xs)) (frzs:∀b o u,H b=some (.frz o u)->H' b=some (.frz o u)) (tbls:∀b ps,H b=some (.tbl ps)->∃more,H' b=some (.tbl (ps++more)))
  (ns:∀m,s.heap.Ns X.env.locals m->h'.Ns X.env.locals m) (hok:HOk X.prog X.w H' h') (hg:Kk g') :
  Inv X pins σ H' { s with heap:=h',gens:=g',drawn:=d',toks:=t' }:=by
 have neL:∀b o,X.s₀.heap.get? b=some o->b≠X.env.locals:=fun b o e=>GO (Gr (Gg e) I.ok.above)
 have neC:∀b o,X.s₀.heap.get? b=some o->b∉X.ex->b∉ch:=fun b o e hx hb=>by
  rcases (hch b hb).1 with z | z
  ·exact hx z
  ·exact absurd (Gr (Gg e) z) (Hb _)
 have cellK:∀x c,X.env.cells.lookup x=some c->∀v,s.heap.IsCell c v->h'.IsCell c v:=fun x c e v ⟨o,ho,hd⟩=>by
  have nch:c∉ch:=fun z=>(hch c z).2.2.1 x c e rfl
  by_cases hc:c∈X.fs
  ·obtain ⟨sl,q⟩:=slot c o (I.cne x c e) hc nch ho (I.freeC x c e)
   exact ⟨_,q,hd⟩
  ·exact ⟨o,keep c o (I.cne x c e) hc nch ho (I.freeC x c e),hd⟩
 refine ⟨I.ok,I.os,hg,⟨fun b o e n hb hx=>?_,fun b o e n hb hx=>?_,fun b o e n hx=>?_,fun b o e hx=>?_,fun b xs e=>tups b xs (I.base.tups b xs e),fun b o xs e=>frzs b o xs (I.base.frzs b o xs e),fun b ps e=>?_⟩,?_,fun x c e=>?_,?_,fun x c e=>?_,fun p hp=>?_,hok,I.len⟩
 ·exact keep b o (neL b o e) hb (neC b o e hx) (I.base.keep b o e n hb hx) (I.base.free b o e n hx)
 ·obtain ⟨sl,e1⟩:=I.base.slot b o e n hb hx
  obtain ⟨sl',e2⟩:=slot b _ (neL b o e) hb (neC b o e hx) e1 (I.base.free b o e n hx)
  exact ⟨sl',e2⟩
 ·obtain ⟨o',e1⟩:=I.base.there b o e hx
  exact free b o' (neC b o e hx) e1 (I.base.free b o e n hx)
 ·obtain ⟨o',e1⟩:=I.base.there b o e hx
  exact there b o' (neC b o e hx) e1
 ·obtain ⟨m1,e1⟩:=I.base.tbls b ps e
  obtain ⟨m2,e2⟩:=tbls b _ e1
  exact ⟨m1++m2,by rw [e2,Array.append_assoc]⟩
 ·obtain ⟨m,hn,hl⟩:=I.loc
  refine ⟨m,ns m hn,fun i x v e1 e2 e3=>?_⟩
  obtain ⟨u,r,l⟩:=hl i x v e1 e2 e3
  refine ⟨u,r,?_⟩
  rcases l with l | ⟨k,c,e,z⟩
  ·exact .inl l
  ·exact .inr ⟨k,c,e,cellK x c e _ z⟩
 ·obtain ⟨v,z⟩:=I.cell x c e
  exact ⟨v,cellK x c e v z⟩
 ·obtain ⟨m,⟨o,_,_,ho,_⟩,_⟩:=I.loc
  exact free _ o (fun z=>(hch _ z).2.1 rfl) ho I.free
 ·obtain ⟨v,o,ho,hd⟩:=I.cell x c e
  exact free c o (fun z=>(hch c z).2.2.1 x c e rfl) ho (I.freeC x c e)
 ·obtain ⟨e,n,ne,nf,d⟩:=I.pin p hp
  have nch:p.1∉ch:=fun z=>(hch p.1 z).2.2.2 p hp rfl
  exact ⟨keep p.1 p.2 ne nf nch e n,free p.1 p.2 nch e n,ne,nf,d⟩
theorem Inv.un {t':Nat} (I:Inv X pins σ H s) (u:Un X.fs [] H H' s.heap h') (hok:HOk X.prog X.w H' h'):Inv X pins σ H' { s with heap:=h',toks:=t' }:=by
 obtain ⟨m,⟨o,es,ep,ho,r⟩,_⟩:=id I.loc
 obtain ⟨sl,hL⟩:=u.any ho I.free (by simp)
 exact I.step (g':=s.gens) (d':=s.drawn) (ch:=[]) (fun _ z=>nomatch z) (fun b o _ hb _ e n=>u.keep b o e n hb (by simp)) (fun b o _ hb _ e n=>u.slot b o e n hb (by simp)) (fun b o _ e n=>u.free b o e n (by simp)) (fun b o _ e=>u.there b o e (by simp)) u.tups u.frzs u.tbls (fun m' hm=>by
  obtain ⟨o',es',ep',ho',r'⟩:=hm
  rw [ho] at ho';cases ho'
  exact ⟨_,es',ep',hL,r'⟩) hok I.bare
theorem Inv.call {g':Array GenState} {t':Nat} {d':Drawn} {ch:List Addr} (I:Inv X pins σ H s) (u:Un (frs X.stack) ch H H' s.heap h') (hok:HOk X.prog X.w H' h') (hg:Kk g')
  (hch:∀b∈ch,(b∈X.ex\/X.s₀.heap.objs.size<=b)/\b≠X.env.locals/\(∀x c,X.env.cells.lookup x=some c->c≠b)/\∀p∈X.pn++pins,p.1≠b) :
  Inv X pins σ H' { s with heap:=h',gens:=g',drawn:=d',toks:=t' }:=by
 obtain ⟨m,⟨o,es,ep,ho,r⟩,_⟩:=id I.loc
 obtain ⟨sl,hL⟩:=u.any ho I.free fun z=>(hch _ z).2.1 rfl
 exact I.step (ch:=ch) hch (fun b o hL hb hc e n=>u.keep b o e n (fun z=>(List.mem_cons.mp (I.stkSub b z)).elim hL hb) hc) (fun b o _ _ hc e n=>u.any e n hc) (fun b o hc e n=>u.free b o e n hc) (fun b o hc e=>u.there b o e hc) u.tups u.frzs u.tbls (fun m' hm=>by
  obtain ⟨o',es',ep',ho',r'⟩:=hm
  rw [ho] at ho';cases ho'
  exact ⟨_,es',ep',hL,r'⟩) hok hg
theorem Inv.turned {t':Nat} {it:Addr} (I:Inv X pins σ H s) (k:∀b o,b≠it->s.heap.get? b=some o->h'.get? b=some o) (hn:H it=none) (hL:it≠X.env.locals)
  (h1:it∈X.ex\/X.s₀.heap.objs.size<=it) (h2:∀x c,X.env.cells.lookup x=some c->c≠it) (h3:∀p∈X.pn++pins,p.1≠it):Inv X pins σ H { s with heap:=h',toks:=t' }:=by
 have nit:∀b u,H b=some u->b≠it:=fun b u e z=>by rw [z,hn] at e;cases e
 refine I.step (g':=s.gens) (d':=s.drawn) (ch:=[it]) (fun b hb=>?_) (fun b o _ _ hc e _=>k b o (fun z=>hc (by simp [z])) e) (fun b o _ _ hc e _=>⟨o.slots,k b o (fun z=>hc (by simp [z])) e⟩) (fun _ _ _ _ n=>n)
  (fun b o hc e=>⟨o,k b o (fun z=>hc (by simp [z])) e⟩) (fun _ _ e=>e) (fun _ _ _ e=>e) (fun b ps e=>⟨#[],by rw [e];simp⟩) (fun m hm=>?_) (fun b u e=>?_) I.bare
 ·have e:b=it:=by simpa using hb
  subst e
  exact ⟨h1,hL,h2,h3⟩
 ·obtain ⟨o,es,ep,ho,r⟩:=hm
  exact ⟨o,es,ep,k _ o (Ia hL) ho,r⟩
 ·refine (I.hok b u e).stay (fun c v hc q=>k c v ?_ q) (fun _ q=>q) fun _ _ q=>q
  rcases hc with z | z
  ·rw [z];exact nit b u e
  ·exact nit c _ z
theorem Inv.tok (I:Inv X pins σ H s) (t:Nat):Inv X pins σ H { s with toks:=t }:=I.un (h':=s.heap) (t':=t) Un.refl I.hok
theorem Inv.kept {t':Nat} (I:Inv X pins σ H s) (k:∀b u,s.heap.get? b=some u->h'.get? b=some u):Inv X pins σ H { s with heap:=h',toks:=t' }:=I.un (Un.kept k) (I.hok.kept k)
theorem Inv.laid {a:Addr} {o:HO} {t':Nat} (I:Inv X pins σ H s) (k:∀b u,s.heap.get? b=some u->h'.get? b=some u) (hp:s.heap.objs.size<=a) (new:br X.prog X.w (upd H a o) h' a o) :
  Inv X pins σ (upd H a o) { s with heap:=h',toks:=t' }:=I.un (Un.laid k hp (I.hok.fresh hp)) (I.hok.laid k hp new)
theorem Inv.write {x e:Addr} {o:HO} {t':Nat} (I:Inv X pins σ H s) (mu:Mut (H x)) (he:e=x\/H e=some (.own x)) (k:∀b u,b≠e->s.heap.get? b=some u->h'.get? b=some u) (heo:∃u,h'.get? e=some u)
  (new:br X.prog X.w (upd H x o) h' x o):Inv X pins σ (upd H x o) { s with heap:=h',toks:=t' }:=I.un (Un.write mu he k heo) (I.hok.write mu he k heo new)
theorem Inv.weak {σ':List (Option V)} (I:Inv X pins σ H s) (hl:σ'.length=σ.length) (w:∀(i:Nat) v,σ'[i]?=some (some v)->σ[i]?=some (some v)):Inv X pins σ' H s:=
 ⟨I.ok,I.os,I.bare,I.base,let ⟨m,hn,hl'⟩:=I.loc;⟨m,hn,fun i x v e1 e2 e3=>hl' i x v e1 (w i v e2) e3⟩,I.cell,I.free,I.freeC,I.pin,I.hok,hl.trans I.len⟩
theorem Inv.pins_of {pins':List (Addr×Obj)} (I:Inv X pins σ H s) (h:∀p∈pins',s.heap.get? p.1=some p.2/\H p.1=none/\p.1≠X.env.locals/\p.1∉X.fs/\∀v,p.2.data≠.cell v):Inv X pins' σ H s:=
 ⟨I.ok,I.os,I.bare,I.base,I.loc,I.cell,I.free,I.freeC,fun p hp=>(List.mem_append.mp hp).elim (fun z=>I.pin p (Gu _ z)) (h p),I.hok,I.len⟩
theorem g7 {N:List Str} (hN:N.Nodup) {i j:Nat} {x:Str} (a:N[i]?=some x) (b:N[j]?=some x):i=j:=by
 obtain ⟨h1,e1⟩:=List.getElem?_eq_some_iff.mp a
 obtain ⟨h2,e2⟩:=List.getElem?_eq_some_iff.mp b
 exact (List.getElem_inj hN).mp (e1.trans e2.symm)
theorem eU {M:M5} {A:Ho} {E:FU->FW->Prop} {i:Nat} {x:Str} {v:V} {u:FU} {Q:Unit->FW->Prop} (I:Inv X pins σ H s) (hN:X.N.Nodup) (hi:X.N[i]?=some x) (hx:Loc X.env.scope x) (r:RelV v u)
  (h:∀s',Inv X pins (σ.set i (some v)) H s'->(∃a,Heap.SameBut a s.heap s'.heap/\(a=X.env.locals\/X.env.cells.lookup x=some a))->Q () s') (hf:X.fn x=true\/X.env.scope.names.lookup x=some .local:=by first | exact .inl rfl | exact .inr rfl | assumption):GU M A (storeName X.env x u) Q E s:=by
 obtain ⟨m,hn,hl⟩:=id I.loc
 have hcls:(X.env.scope.kind==.class||(X.env.scope.kind==.module&&X.env.locals != X.env.globals))=false:=by rw [I.ok.kind];rfl
 have hiσ:i < σ.length:=by rw [I.len];exact (List.getElem?_eq_some_iff.mp hi).1
 have cne:=I.cne
 have tracked:∀{a:Addr} {h':Heap},(∃o,s.heap.get? a=some o/\H a=none)->Heap.SameBut a s.heap h'->HOk X.prog X.w H h':=fun {a h'} ha hs b ob e=>by
  obtain ⟨_,_,hfree⟩:=ha
  refine (I.hok b ob e).stay (fun c w' hc q=>(hs.2 c ?_).trans q) (fun _ q=>q) fun _ _ q=>q
  rintro rfl
  rcases hc with rfl | hc
  ·rw [hfree] at e;cases e
  ·rw [hfree] at hc;cases hc
 rcases hx with hk | hk
 ·refine wpAny_storeName_local hk hn (fun h' hn' hs=>?_) hcls
  obtain ⟨oL,_,_,hoL,_⟩:=id hn
  refine h _ ⟨I.ok,I.os,I.bare,⟨fun b o e n hb hx=>?_,fun b o e n hb hx=>?_,I.base.free,fun b o e hx=>?_,I.base.tups,I.base.frzs,I.base.tbls⟩,⟨_,hn',fun j y v' e1 e2 e3=>?_⟩,fun y c e=>?_,I.free,I.freeC,fun p hp=>?_,tracked ⟨oL,hoL,I.free⟩ hs,by simpa using I.len⟩ ⟨_,hs,.inl rfl⟩
  ·exact (hs.2 b (GO (Gr (Gg e) I.ok.above))).trans (I.base.keep b o e n hb hx)
  ·obtain ⟨sl,e1⟩:=I.base.slot b o e n hb hx
   exact ⟨sl,(hs.2 b (GO (Gr (Gg e) I.ok.above))).trans e1⟩
  ·obtain ⟨o',e1⟩:=I.base.there b o e hx
   exact ⟨o',(hs.2 b (GO (Gr (Gg e) I.ok.above))).trans e1⟩
  ·by_cases hj:j=i
   ·subst hj
    rw [hi] at e1;cases e1
    rw [Gw hiσ] at e2
    cases e2
    exact ⟨u,r,.inl ⟨hk,by simp⟩⟩
   ·rw [Gh (Ia hj)] at e2
    obtain ⟨u',r',q⟩:=hl j y v' e1 e2 e3
    refine ⟨u',r',?_⟩
    rcases q with ⟨k,e⟩ | ⟨k,c,e,z⟩
    ·refine .inl ⟨k,?_⟩
     have:y≠x:=fun e=>hj (g7 hN e1 (e▸hi))
     simp [this,e]
    ·exact .inr ⟨k,c,e,z.sameBut hs (cne y c e)⟩
  ·obtain ⟨w',z⟩:=I.cell y c e
   exact ⟨w',z.sameBut hs (cne y c e)⟩
  ·obtain ⟨e,n,ne,nf,d⟩:=I.pin p hp
   exact ⟨(hs.2 p.1 ne).trans e,n,ne,nf,d⟩
 ·have hfn:X.fn x=true:=by
   rcases hf with z | z
   ·exact z
   ·rw [z] at hk;cases hk
  obtain ⟨c,hc⟩:=I.ok.has x (.inl hk)
  obtain ⟨w',z⟩:=I.cell x c hc
  refine wpAny_storeName_cell I.ok.kind hk hc z (fun h' hc' hs=>?_)
  obtain ⟨oc,hoc,hocd⟩:=id z
  refine h { s with heap:=h' } ⟨I.ok,I.os,I.bare,⟨fun b o e n hb hx=>?_,fun b o e n hb hx=>?_,I.base.free,fun b o e hx=>?_,I.base.tups,I.base.frzs,I.base.tbls⟩,⟨m,hn.sameBut hs (Ia (cne x c hc)),fun j y v' e1 e2 e3=>?_⟩,fun y c' e=>?_,I.free,I.freeC,fun p hp=>?_,tracked ⟨oc,hoc,I.freeC x c hc⟩ hs,by simpa using I.len⟩ ⟨c,hs,.inr hc⟩
  ·exact (hs.2 b (GO (Gr (Gg e) (I.ok.cab x c hfn hc)))).trans (I.base.keep b o e n hb hx)
  ·obtain ⟨sl,e1⟩:=I.base.slot b o e n hb hx
   exact ⟨sl,(hs.2 b (GO (Gr (Gg e) (I.ok.cab x c hfn hc)))).trans e1⟩
  ·obtain ⟨o',e1⟩:=I.base.there b o e hx
   exact ⟨o',(hs.2 b (GO (Gr (Gg e) (I.ok.cab x c hfn hc)))).trans e1⟩
  ·by_cases hj:j=i
   ·subst hj
    rw [hi] at e1;cases e1
    rw [Gw hiσ] at e2
    cases e2
    exact ⟨u,r,.inr ⟨.inl hk,c,hc,hc'⟩⟩
   ·rw [Gh (Ia hj)] at e2
    obtain ⟨u',r',q⟩:=hl j y v' e1 e2 e3
    refine ⟨u',r',?_⟩
    rcases q with q | ⟨k,c',e,z'⟩
    ·exact .inl q
    ·refine .inr ⟨k,c',e,z'.sameBut hs ?_⟩
     rintro rfl
     exact hj (g7 hN e1 (I.ok.inj _ _ _ e hc▸hi))
  ·by_cases hcc:c'=c
   ·subst hcc;exact ⟨_,hc'⟩
   ·obtain ⟨w2,z2⟩:=I.cell y c' e
    exact ⟨w2,z2.sameBut hs hcc⟩
  ·obtain ⟨e,n,ne,nf,d⟩:=I.pin p hp
   refine ⟨(hs.2 p.1 ?_).trans e,n,ne,nf,d⟩
   intro q
   rw [q,hoc] at e
   have q':oc=p.2:=Gx e
   exact d w' (by rw [<- q'];exact hocd)
theorem fG {M:M5} {A:Ho} {E:FU->FW->Prop} {i:Nat} {x:Str} {v:V} {u:FU} {Q:Unit->FW->Prop} (I:Inv X pins σ H s) (hN:X.N.Nodup) (hi:X.N[i]?=some x) (hx:Loc X.env.scope x) (r:RelV v u)
  (h:∀s',Inv X pins (σ.set i (some v)) H s'->Q () s') (hf:X.fn x=true\/X.env.scope.names.lookup x=some .local:=by first | exact .inl rfl | exact .inr rfl | assumption):GU M A (storeName X.env x u) Q E s:=
 eU I hN hi hx r (fun s' I' _=>h s' I') hf
theorem Inv.call' {s':FW} {ch:List Addr} (I:Inv X pins σ H s) (ho:s'.os=s.os) (u:Un (frs X.stack) ch H H' s.heap s'.heap) (hok:HOk X.prog X.w H' s'.heap) (hg:Kk s'.gens)
  (hch:∀b∈ch,(b∈X.ex\/X.s₀.heap.objs.size<=b)/\b≠X.env.locals/\(∀x c,X.env.cells.lookup x=some c->c≠b)/\∀p∈X.pn++pins,p.1≠b):Inv X pins σ H' s':=by
 obtain ⟨h',g',d',t',o'⟩:=s'
 have e:o'=s.os:=ho
 subst e
 exact I.call (g':=g') (t':=t') (d':=d') u hok hg hch
end
abbrev XK:=FU->Option Addr->Hp->Prop
abbrev St:=List (Option V)
abbrev VK:=V->Hp->Prop
abbrev TE:=St->Hp->VK->Prop
abbrev TT:=St->Hp->(Bool->Hp->Prop)->Prop
abbrev TA:=St->Hp->(List V->Hp->Prop)->Prop
structure Ends where
 nx:St->Hp->Prop
 rt:VK
 bk:St->Hp->Prop:=fun _ _=>False
 ct:St->Hp->Prop:=fun _ _=>False
abbrev TS:=Ends->St->Hp->Prop
def EP (X:Cx) (pins:List (Addr×Obj)) (σ:St) (Q:VK) (u:FU) (s':FW):Prop:=∃v H',Inv X pins σ H' s'/\RelV v u/\Q v H'
def TP (X:Cx) (pins:List (Addr×Obj)) (σ:St) (Q:Bool->Hp->Prop) (b:Bool) (s':FW):Prop:=∃H',Inv X pins σ H' s'/\Q b H'
def AP (X:Cx) (pins:List (Addr×Obj)) (σ:St) (Q:List V->Hp->Prop) (us:List FU) (s':FW):Prop:=∃vs H',Inv X pins σ H' s'/\Vals vs us/\Q vs H'
def SP (X:Cx) (pins:List (Addr×Obj)) (D:Ends) (f:Flow) (s':FW):Prop:=
 match f with
 | .next=>∃ σ' H',Inv X pins σ' H' s'/\D.nx σ' H'
 | .brk=>∃ σ' H',Inv X pins σ' H' s'/\D.bk σ' H'
 | .cont=>∃ σ' H',Inv X pins σ' H' s'/\D.ct σ' H'
 | .ret u=>∃v σ' H',Inv X pins σ' H' s'/\RelV v u/\D.rt v H'
def PE (X:Cx) (e:Expr) (t:TE):Prop:=
 ∀(pins:List (Addr×Obj)) (s:FW) (σ:St) (H:Hp) (Q:VK),Inv X pins σ H s->t σ H Q->GU (GM X.prog X.w) X.A (eval e X.env) (EP X pins σ Q) X.xe s
def PT (X:Cx) (e:Expr) (t:TT):Prop:=
 ∀(pins:List (Addr×Obj)) (s:FW) (σ:St) (H:Hp) (Q:Bool->Hp->Prop),Inv X pins σ H s->t σ H Q->GU (GM X.prog X.w) X.A (LG e X.env (eval e X.env)) (TP X pins σ Q) X.xe s
def PW (X:Cx) (e:Expr) (t:TT):Prop:=
 ∀(whole:Sem FU) (pins:List (Addr×Obj)) (s:FW) (σ:St) (H:Hp) (Q:Bool->Hp->Prop),Inv X pins σ H s->t σ H Q->GU (GM X.prog X.w) X.A (LG e X.env whole) (TP X pins σ Q) X.xe s
theorem PW.pt {X:Cx} {e:Expr} {t:TT} (h:PW X e t):PT X e t:=h _
def PA (X:Cx) (es:List Expr) (t:TA):Prop:=
 ∀(pos:Pos) (pins:List (Addr×Obj)) (s:FW) (σ:St) (H:Hp) (Q:List V->Hp->Prop),Inv X pins σ H s->t σ H Q->GU (GM X.prog X.w) X.A (spliced (IV pos (Gi es X.env))) (AP X pins σ Q) X.xe s
def PS (X:Cx) (st:Stmt) (t:TS):Prop:=
 ∀(pins:List (Addr×Obj)) (s:FW) (σ:St) (H:Hp) (D:Ends),Inv X pins σ H s->t D σ H->GU (GM X.prog X.w) X.A (exec st X.env) (SP X pins D) X.xe s
def PSs (X:Cx) (st:List Stmt) (t:TS):Prop:=
 ∀(pins:List (Addr×Obj)) (s:FW) (σ:St) (H:Hp) (D:Ends),Inv X pins σ H s->t D σ H->GU (GM X.prog X.w) X.A (execs st X.env) (SP X pins D) X.xe s
theorem thn {α:Type} {t:Sem α} {Q Q':α->FW->Prop} {M:M5} {A:Ho} {E:FU->FW->Prop} {s:FW} (h:GU M A t Q E s) (hQ:∀a s,Q a s->Q' a s):GU M A t Q' E s:=Gy h hQ fun _ _ x=>x
end L2
namespace L2
open PySem PySem.Spec PyProof.Rows
section
variable {X:Cx}
def cA (i:Nat):TE:=fun σ H Q=>∃v,σ[i]?=some (some v)/\Q v H
def tC (v:V):TE:=fun _ H Q=>Q v H
theorem qz {i:Nat} {x:Str} {pos:Pos} (hN:X.N[i]?=some x) (hv:Vis X.env.scope x) (hd:(x==("__debug__":Str))=false:=by decide) (hcd:(x==("__classdict__":Str))=false:=by decide):PE X (.Name x pos) (cA i):=by
 intro pins s σ H Q I h
 obtain ⟨v,e,h⟩:=h
 obtain ⟨m,hn,hl⟩:=I.loc
 obtain ⟨u,r,l⟩:=hl i x v hN e hv
 have fin:EP X pins σ Q u s:=⟨v,H,I,r,h⟩
 rcases l with ⟨hk,hm⟩ | ⟨hk,c,hc,hcell⟩
 ·exact MT (wpAny_loadName_local I.ok.kind hk hn hm fin) hd
 ·rcases hk with hk | hk
  ·exact MT (wpAny_loadName_cell I.ok.kind hk hc hcell fin) hd
  ·exact MT (wpAny_loadName_free I.ok.kind hk hc hcell fin hcd) hd
theorem mD {i j pos}:PE X (.Constant (.int i) j pos) (tC (.int i)):=fun _ _ _ H _ I h=>wpAny_Constant_int ⟨.int i,H,I.tok _,⟨_,rfl⟩,h⟩
theorem CK {b j pos}:PE X (.Constant (.bool b) j pos) (tC (.bl b)):=fun _ _ _ H _ I h=>Constant_bool ⟨.bl b,H,I,rfl,h⟩
theorem zK {j pos}:PE X (.Constant .none j pos) (tC .non):=fun _ _ _ H _ I h=>Constant_none ⟨.non,H,I,rfl,h⟩
theorem zL {x j pos}:PE X (.Constant (.str x) j pos) (tC (.str x)):=fun _ _ _ H _ I h=>LX ⟨.str x,H,I.tok _,⟨_,rfl⟩,h⟩
def Gl (X:Cx) (x:Str):Prop:=X.env.kindOf x=some .globalImplicit
theorem fH {E:FU->FW->Prop} {pins:List (Addr×Obj)} {s:FW} {σ:St} {H:Hp} {x:Str} {u:FU} {pos:Pos} {Q:FU->FW->Prop} (I:Inv X pins σ H s) (hg:Gl X x) (hm:X.mg x=some u) (h:Q u s)
  (hd:(x==("__debug__":Str))=false:=by decide):GU (GM X.prog X.w) X.A (eval (.Name x pos) X.env) Q E s:=
 J8 I.ok.kind hg (Calls.loadGlobal_global (by rw [I.ok.glob];exact I.mod.glob.keeps I.bk) hm h) hd
theorem d7 {E:FU->FW->Prop} {pins:List (Addr×Obj)} {s:FW} {σ:St} {H:Hp} {x:Str} {u:FU} {pos:Pos} {Q:FU->FW->Prop} (I:Inv X pins σ H s) (hg:Gl X x) (hm:X.mg x=none) (hv:G2 x=some u) (h:Q u s)
  (hn:x≠"__name__":=by decide) (hd:(x==("__debug__":Str))=false:=by decide):GU (GM X.prog X.w) X.A (eval (.Name x pos) X.env) Q E s:=by
 obtain ⟨mb,h1,h2⟩:=I.mod.blt
 exact J8 I.ok.kind hg (Calls.loadGlobal_builtin (by rw [I.ok.glob];exact I.mod.glob.keeps I.bk) hm (by rw [I.ok.blt];exact h1.keeps I.bk) ((h2 x hn).trans hv) h) hd
theorem eV {x:Str} {v:V} {u:FU} {pos:Pos} (hg:Gl X x) (hm:X.mg x=some u) (r:RelV v u) (hd:(x==("__debug__":Str))=false:=by decide):PE X (.Name x pos) (tC v):=
 fun _ _ _ H _ I h=>fH I hg hm ⟨v,H,I,r,h⟩ hd
theorem cK {x:Str} {v:V} {u:FU} {pos:Pos} (hg:Gl X x) (hm:X.mg x=none) (hv:G2 x=some u) (r:RelV v u) (hn:x≠"__name__":=by decide) (hd:(x==("__debug__":Str))=false:=by decide):PE X (.Name x pos) (tC v):=
 fun _ _ _ H _ I h=>d7 I hg hm hv ⟨v,H,I,r,h⟩ hn hd
variable {a b:Expr} {ta tb:TE} {pos:Pos}
def tB (t:TE):TT:=fun σ H Q=>t σ H fun x H1=>∃c,x=.bl c/\Q c H1
theorem zM {e:Expr} {t:TE} (h:PE X e t) (he:∀whole,LG e X.env whole=(do let v <- whole;IW e.pos;IY [v] (Mu v)):=by intro _;rfl):PT X e (tB t):=by
 intro pins s σ H Q I hw
 refine Mw (thn (h pins s σ H _ I hw) fun v s1 zr1=>?_) (he _)
 obtain ⟨x,H1,I1,r1,q1⟩:=zr1
 obtain ⟨d,rfl,q⟩:=q1
 cases r1
 exact Ir ⟨H1,I1,q⟩
variable {tA tB':TT} {rest:List Expr}
def CL (t u:TT):TT:=fun σ H Q=>t σ H fun c H1=>if c=true then u σ H1 Q else Q false H1
def tOr (t u:TT):TT:=fun σ H Q=>t σ H fun c H1=>if c=true then Q true H1 else u σ H1 Q
def CM (t:TT):TT:=fun σ H Q=>t σ H fun c H1=>Q (!c) H1
theorem uG (ha:PT X a tA):PW X (.BoolOp .And [a] pos) tA:=by
 intro wh pins s σ H Q I h
 refine isTrue_and (thn (ha pins s σ H Q I h) fun c s1 e=>?_)
 cases c with
 | true=>exact isTrue_and_nil e
 | false=>exact e
theorem zN (ha:PT X a tA):PW X (.BoolOp .Or [a] pos) tA:=by
 intro wh pins s σ H Q I h
 refine isTrue_or (thn (ha pins s σ H Q I h) fun c s1 e=>?_)
 cases c with
 | false=>exact isTrue_or_nil e
 | true=>exact e
theorem zO (ha:PT X a tA) (hb:PW X (.BoolOp .And (b::rest) pos) tB'):PW X (.BoolOp .And (a::b::rest) pos) (CL tA tB'):=by
 intro wh pins s σ H Q I h
 refine isTrue_and (thn (ha pins s σ H _ I h) fun c s1 zr1=>?_)
 obtain ⟨H1,I1,q1⟩:=zr1
 cases c with
 | true=>exact hb wh pins s1 σ H1 Q I1 q1
 | false=>exact ⟨H1,I1,q1⟩
theorem CN (ha:PT X a tA) (hb:PW X (.BoolOp .Or (b::rest) pos) tB'):PW X (.BoolOp .Or (a::b::rest) pos) (tOr tA tB'):=by
 intro wh pins s σ H Q I h
 refine isTrue_or (thn (ha pins s σ H _ I h) fun c s1 zr1=>?_)
 obtain ⟨H1,I1,q1⟩:=zr1
 cases c with
 | true=>exact ⟨H1,I1,q1⟩
 | false=>exact hb wh pins s1 σ H1 Q I1 q1
theorem zP (ha:PT X a tA):PT X (.UnaryOp .Not a pos) (CM tA):=by
 intro pins s σ H Q I h
 exact isTrue_not (ha pins s σ H (fun c H1=>Q (!c) H1) I h)
def ya (ta tb:TE):TE:=fun σ H Q=>ta σ H fun x H1=>∃c,x=.bl c/\if c=true then tb σ H1 Q else Q (.bl false) H1
def yb (ta:TE):TE:=fun σ H Q=>ta σ H fun x H1=>∃c,x=.bl c/\Q (.bl (!c)) H1
theorem zQ {op} {t:TE} (h:PE X a t):PE X (.BoolOp op [a] pos) t:=fun pins s σ H Q I hw=>BoolOp_one (h pins s σ H Q I hw)
theorem zR (ha:PE X a ta) (hb:PE X (.BoolOp .And (b::rest) pos) tb):PE X (.BoolOp .And (a::b::rest) pos) (ya ta tb):=by
 intro pins s σ H Q I h
 refine BoolOp_and (thn (ha pins s σ H _ I h) fun v s1 zr1=>?_)
 obtain ⟨x,H1,I1,r1,q1⟩:=zr1
 obtain ⟨c,rfl,q1⟩:=q1
 cases r1
 refine Ir ?_
 cases c with
 | true=>exact hb pins s1 σ H1 Q I1 q1
 | false=>exact ⟨.bl false,H1,I1,rfl,q1⟩
theorem zS (ha:PE X a ta):PE X (.UnaryOp .Not a pos) (yb ta):=by
 intro pins s σ H Q I h
 refine UnaryOp_ (thn (ha pins s σ H _ I h) fun v s1 zr1=>?_)
 obtain ⟨x,H1,I1,r1,q1⟩:=zr1
 obtain ⟨c,rfl,q1⟩:=q1
 cases r1
 exact not_of (Ir ⟨.bl (!c),H1,I1,rfl,q1⟩)
def tIf (t:TT) (ta tb:TE):TE:=fun σ H Q=>t σ H fun c H1=>if c=true then ta σ H1 Q else tb σ H1 Q
theorem qA {c:Expr} (hc:PT X c tA) (ha:PE X a ta) (hb:PE X b tb):PE X (.IfExp c a b pos) (tIf tA ta tb):=by
 intro pins s σ H Q I h
 refine wpAny_IfExp (thn (hc pins s σ H _ I h) fun d s1 zr1=>?_)
 obtain ⟨H1,I1,q1⟩:=zr1
 cases d with
 | true=>exact ha pins s1 σ H1 Q I1 q1
 | false=>exact hb pins s1 σ H1 Q I1 q1
end
end L2
namespace L2
open PySem PySem.Spec PyProof.Rows
def SqL (K:FO) (H:Hp) (a:Addr) (xs:List V):Prop:=
 Rd H a (.lst xs) \/
  ∃(o:Obj) (its:Array FU) (n:Nat),K.lookup a=some o/\o.cls=.type "list"/\o.dict=none/\o.data=.seq its n/\its.size<=GG/\Vals xs its.toList
def SqT (K:FO) (H:Hp) (a:Addr) (xs:List V):Prop:=
 Rd H a (.tup xs) \/
  ∃(o:Obj) (its:Array FU) (n:Nat),K.lookup a=some o/\o.cls=.type "tuple"/\o.data=.seq its n/\its.size<=GG/\Vals xs its.toList
def Ff:FU->Option V
 | .none=>some .non
 | .bool b=>some (.bl b)
 | .int i _=>some (.int i)
 | .str x _=>some (.str x)
 | .bytes b _=>some (.byt b)
 | .float b _=>some (.flt b)
 | .ref a=>some (.ref a)
 | .type n=>some (.ty n)
 | _=>none
theorem RelV.abs {x:V} {u:FU} (r:RelV x u):Ff u=some x:=by
 cases x with
 | non=>cases r;rfl
 | bl _=>cases r;rfl
 | int _=>obtain ⟨t,rfl⟩:=r;rfl
 | str _=>obtain ⟨t,rfl⟩:=r;rfl
 | byt _=>obtain ⟨t,rfl⟩:=r;rfl
 | flt _=>obtain ⟨t,rfl⟩:=r;rfl
 | ref _=>cases r;rfl
 | ty _=>cases r;rfl
theorem RelV.inj {x y:V} {u:FU} (r:RelV x u) (q:RelV y u):x=y:=Gx (r.abs.symm.trans q.abs)
theorem Vals.inj:∀{xs ys:List V} {us:List FU},Vals xs us->Vals ys us->xs=ys
 | _,_,_,.nil,.nil=>rfl
 | _,_,_,.cons r t,.cons r' t'=>by rw [r.inj r',Vals.inj t t']
section
variable {X:Cx} {pins:List (Addr×Obj)} {σ:St} {H:Hp} {s:FW} {a:Addr} {xs ys:List V}
theorem Inv.list (I:Inv X pins σ H s) (h:SqL X.K H a xs):∃its:List FU,Vals xs its/\PlainL s.heap a its.toArray/\xs.length<=GG:=by
 rcases h with h | ⟨o,its,n,hk,hc,hd,hs,hz,r⟩
 ·obtain ⟨z,its,n,r,e⟩:=h.ok I.hok
  exact ⟨its,r,⟨_,n,e,rfl,rfl,rfl⟩,z⟩
 ·refine ⟨its.toList,r,⟨o,n,I.kIn a o hk,hc,hd,by simpa using hs⟩,?_⟩
  have e:=r.length
  simp only [GQ] at e
  omega
theorem Inv.tuple (I:Inv X pins σ H s) (h:SqT X.K H a xs):∃its:List FU,Vals xs its/\IsTup s.heap a its.toArray/\xs.length<=GG:=by
 rcases h with h | ⟨o,its,n,hk,hc,hs,hz,r⟩
 ·obtain ⟨z,its,r,p⟩:=h.ok I.hok
  exact ⟨its,r,p,z⟩
 ·refine ⟨its.toList,r,⟨o,I.kIn a o hk,hc,n,by simpa using hs⟩,?_⟩
  have e:=r.length
  simp only [GQ] at e
  omega
theorem Inv.list_inj (I:Inv X pins σ H s) (h:SqL X.K H a xs) (h':SqL X.K H a ys):xs=ys:=by
 obtain ⟨its,r,⟨o,n,e,_,_,d⟩,_⟩:=I.list h
 obtain ⟨its',r',⟨o',n',e',_,_,d'⟩,_⟩:=I.list h'
 rw [e] at e';cases e'
 rw [d] at d'
 injection d' with d1 _
 have:its=its':=by simpa using congrArg Array.toList d1
 subst this
 exact r.inj r'
theorem Inv.tuple_inj (I:Inv X pins σ H s) (h:SqT X.K H a xs) (h':SqT X.K H a ys):xs=ys:=by
 obtain ⟨its,r,⟨o,e,_,n,d⟩,_⟩:=I.tuple h
 obtain ⟨its',r',⟨o',e',_,n',d'⟩,_⟩:=I.tuple h'
 rw [e] at e';cases e'
 rw [d] at d'
 injection d' with d1 _
 have:its=its':=by simpa using congrArg Array.toList d1
 subst this
 exact r.inj r'
end
abbrev Cx.wish (X:Cx) (E:FU->FW->Prop):Cx:={ X with xe:=E }
abbrev Cx.nox (X:Cx):Cx:=X.wish fun _ _=>False
theorem Cx.Ok.wish {X:Cx} (ok:X.Ok) (E:FU->FW->Prop):(X.wish E).Ok:=
 ⟨ok.mod,ok.kind,ok.glob,ok.blt,ok.above,ok.inj,ok.has,ok.cab,ok.hd,ok.frames,ok.stk,ok.exf,ok.bs,ok.bsz,ok.noex,ok.exfs,ok.funs,ok.frf⟩
theorem Cx.Ok.unwish {X:Cx} {E:FU->FW->Prop} (ok:(X.wish E).Ok):X.Ok:=
 ⟨ok.mod,ok.kind,ok.glob,ok.blt,ok.above,ok.inj,ok.has,ok.cab,ok.hd,ok.frames,ok.stk,ok.exf,ok.bs,ok.bsz,ok.noex,ok.exfs,ok.funs,ok.frf⟩
section
variable {X:Cx} {pins:List (Addr×Obj)} {σ:St} {H:Hp} {s:FW} {E:FU->FW->Prop}
theorem Inv.wish (I:Inv X pins σ H s) (E:FU->FW->Prop):Inv (X.wish E) pins σ H s:=⟨I.ok.wish E,I.os,I.bare,I.base,I.loc,I.cell,I.free,I.freeC,I.pin,I.hok,I.len⟩
theorem Inv.unwish (I:Inv (X.wish E) pins σ H s):Inv X pins σ H s:=⟨I.ok.unwish,I.os,I.bare,I.base,I.loc,I.cell,I.free,I.freeC,I.pin,I.hok,I.len⟩
theorem SP.unwish {D:Ends} {f:Flow} {s':FW} (h:SP (X.wish E) pins D f s'):SP X pins D f s':=by
 cases f with
 | next=>obtain ⟨σ',H',I,q⟩:=h;exact ⟨σ',H',I.unwish,q⟩
 | brk=>obtain ⟨σ',H',I,q⟩:=h;exact ⟨σ',H',I.unwish,q⟩
 | cont=>obtain ⟨σ',H',I,q⟩:=h;exact ⟨σ',H',I.unwish,q⟩
 | ret u=>obtain ⟨v,σ',H',I,r,q⟩:=h;exact ⟨v,σ',H',I.unwish,r,q⟩
theorem PSs.nox {st:List Stmt} {t:TS} (h:PSs X.nox st t):PSs X st t:=fun pins s σ H D I hw=>
 Gy (h pins s σ H D (I.wish _) hw) (fun _ _ q=>q.unwish) fun _ _ z=>IS z
end
section
variable {X:Cx} {st:Stmt} {rest:List Stmt} {t u:TS} {e:Expr} {te:TE} {pos:Pos}
def nH:TS:=fun D σ H=>D.nx σ H
def mE (t u:TS):TS:=fun D σ H=>t { D with nx:=u D } σ H
theorem jP:PSs X [] nH:=fun _ _ σ H _ I h=>K9 ⟨σ,H,I,h⟩
theorem dr (h1:PS X st t) (h2:PSs X rest u):PSs X (st::rest) (mE t u):=by
 intro pins s σ H D I h
 refine KS (thn (h1 pins s σ H { D with nx:=u D } I h) fun f s1 q=>?_)
 cases f with
 | next=>
  obtain ⟨σ',H',I',q⟩:=q
  exact h2 pins s1 σ' H' D I' q
 | ret v=>exact q
 | brk=>exact q
 | cont=>exact q
theorem nI (h1:PS X st t):PSs X [st] t:=by
 intro pins s σ H D I h
 refine KS (thn (h1 pins s σ H D I h) fun f s1 q=>?_)
 cases f with
 | next=>exact K9 q
 | ret v=>exact q
 | brk=>exact q
 | cont=>exact q
theorem Inv.quiet {pins:List (Addr×Obj)} {σ:St} {H:Hp} {s:FW} (I:Inv X pins σ H s):interactive X.env=false:=by simp [interactive,I.ok.kind]
def nJ (te:TE):TS:=fun D σ H=>te σ H fun _ H1=>D.nx σ H1
theorem jQ (he:PE X e te) (hs:HJ e none pos.line X.env=pure false:=by rfl):PS X (.Expr e pos) (nJ te):=by
 intro pins s σ H D I h
 exact wpAny_Expr_any (thn (he pins s σ H _ I h) fun v s1 zt1=>by obtain ⟨x,H1,I1,r1,q1⟩:=zt1;exact ⟨σ,H1,I1,q1⟩) I.quiet hs
def CO (te:TE):TS:=fun D σ H=>te σ H D.rt
theorem zT (he:PE X e te):PS X (.Return (some e) pos) (CO te):=by
 intro pins s σ H D I h
 exact wpAny_Return_some (thn (he pins s σ H _ I h) fun v s1 zt1=>by obtain ⟨x,H1,I1,r1,q1⟩:=zt1;exact ⟨x,σ,H1,I1,r1,q1⟩)
def uH (c:TT) (t u:TS):TS:=fun D σ H=>c σ H fun b H1=>if b=true then t D σ H1 else u D σ H1
theorem qB {c:Expr} {a b:List Stmt} {tc:TT} (hc:PT X c tc) (ha:PSs X a t) (hb:PSs X b u):PS X (.If c a b pos) (uH tc t u):=by
 intro pins s σ H D I h
 refine wpAny_If (thn (hc pins s σ H _ I h) fun d s1 zr1=>?_)
 obtain ⟨H1,I1,q1⟩:=zr1
 cases d with
 | true=>exact ha pins s1 σ H1 D I1 q1
 | false=>exact hb pins s1 σ H1 D I1 q1
def g8:TS:=fun _ _ _=>False
theorem qC:PS X st g8:=fun _ _ _ _ _ _ h=>h.elim
theorem jc {sts:List Stmt}:PSs X sts g8:=fun _ _ _ _ _ _ h=>h.elim
end
abbrev TG:=V->St->Hp->(St->Hp->Prop)->Prop
abbrev TGs:=List V->St->Hp->(St->Hp->Prop)->Prop
def PG (X:Cx) (target:Expr) (t:TG):Prop:=
 ∀(pins:List (Addr×Obj)) (s:FW) (σ:St) (H:Hp) (v:V) (u:FU) (Q:St->Hp->Prop),Inv X pins σ H s->RelV v u->t v σ H Q ->
  GU (GM X.prog X.w) X.A (I0 target X.env u) (fun _ s'=>∃ σ' H',Inv X pins σ' H' s'/\Q σ' H') X.xe s
def PGs (X:Cx) (ts:List Expr) (t:TGs):Prop:=
 ∀(pins:List (Addr×Obj)) (s:FW) (σ:St) (H:Hp) (vs:List V) (us:List FU) (Q:St->Hp->Prop),Inv X pins σ H s->Vals vs us->t vs σ H Q ->
  GU (GM X.prog X.w) X.A (assignInOrder ((Iu ts X.env).map (·.2)) us) (fun _ s'=>∃ σ' H',Inv X pins σ' H' s'/\Q σ' H') X.xe s
abbrev qD:=V->V->V->Hp->(Hp->Prop)->Prop
def zU (X:Cx) (t:qD):Prop:=
 ∀(pins:List (Addr×Obj)) (s:FW) (σ:St) (H:Hp) (o i v:V) (ov iv u:FU) (Q:Hp->Prop),Inv X pins σ H s->RelV o ov->RelV i iv->RelV v u->t o i v H Q ->
  GU (GM X.prog X.w) X.A (MJ ov iv u) (fun _ s'=>∃H',Inv X pins σ H' s'/\Q H') X.xe s
abbrev TIp:=V->V->Hp->VK->Prop
def PIp (X:Cx) (op:M6) (t:TIp):Prop:=
 ∀(pins:List (Addr×Obj)) (s:FW) (σ:St) (H:Hp) (x y:V) (v u:FU) (Q:VK),Inv X pins σ H s->RelV x v->RelV y u->t x y H Q ->
  GU (GM X.prog X.w) X.A (inplaceOp op v u) (EP X pins σ Q) X.xe s
section
variable {X:Cx} {pos:Pos}
def aX (i:Nat):TG:=fun v σ H Q=>Q (σ.set i (some v)) H
theorem au {i:Nat} {x:Str} (hN:X.N.Nodup) (hi:X.N[i]?=some x) (hx:Loc X.env.scope x) (hf:X.fn x=true\/X.env.scope.names.lookup x=some .local:=by first | exact .inl rfl | exact .inr rfl | assumption):PG X (.Name x pos) (aX i):=by
 intro pins s σ H v u Q I r h
 exact Js (fG I hN hi hx r (fun s' I'=>⟨_,H,I',h⟩) hf)
def uI:TGs:=fun vs σ H Q=>vs=[]/\Q σ H
def jd (t:TG) (u:TGs):TGs:=fun vs σ H Q=>∃v r,vs=v::r/\t v σ H fun σ' H'=>u r σ' H' Q
theorem uJ:PGs X [] uI:=by
 intro pins s σ H vs us Q I r h
 obtain ⟨e,h⟩:=h
 subst e
 cases r
 exact assignInOrder_nil ⟨σ,H,I,h⟩
theorem qE {e:Expr} {es:List Expr} {t:TG} {u:TGs} (h1:PG X e t) (h2:PGs X es u)
  (hs:(Iu (e::es) X.env).map (·.2)=I0 e X.env::(Iu es X.env).map (·.2):=by rfl):PGs X (e::es) (jd t u):=by
 intro pins s σ H vs us Q I r h
 obtain ⟨v,vr,e1,h⟩:=h
 subst e1
 cases r with
 | cons r rr=>
  rw [hs]
  refine assignInOrder_cons (thn (h1 pins s σ H _ _ _ I r h) fun _ s1 zr1=>?_)
  obtain ⟨σ1,H1,I1,q1⟩:=zr1
  exact h2 pins s1 σ1 H1 _ _ Q I1 rr q1
def uK (K:FO) (n:Nat) (t:TGs):TG:=fun v σ H Q=>∃a xs,v=.ref a/\SqT K H a xs/\xs.length=n/\t xs σ H Q
theorem zV {es:List Expr} {k:Nat} {t:TGs} {n:Nat} (hc:X.calm=true) (h:PGs X es t)
  (hn:(Iu es X.env).length=n:=by rfl) (hst:(Iu es X.env).findIdx? (·.1)=none:=by rfl):PG X (.Tuple es k pos) (uK X.K n t):=by
 intro pins s σ H v u Q I r hw
 obtain ⟨a,xs,e1,hq,hl,hw⟩:=hw
 subst e1
 cases r
 obtain ⟨its,rv,ht,hz⟩:=I.tuple hq
 refine assign_Tuple_tuple (I.ok.hd hc) ht (by simp [hn,<- hl,rv.length]) hst fun h' hx=>?_
 have I1:Inv X pins σ H { s with heap:=h' }:=I.kept (t':=s.toks) fun b o e=>hx b o (GO (Gg e)) e
 exact h pins _ σ H xs _ Q I1 (by simpa using rv) hw
def zW (to ti:TE) (t:qD):TG:=fun v σ H Q=>to σ H fun o H1=>ti σ H1 fun i H2=>t o i v H2 fun H3=>Q σ H3
theorem zX {o i:Expr} {to ti:TE} {t:qD} (ho:PE X o to) (hi:PE X i ti) (hs:zU X t)
  (ha:∀v,I0 (.Subscript o i pos) X.env v=(do
   let ov <- IY [v] (eval o X.env)
   let iv <- IY [v,ov] (eval i X.env)
   IW pos
   IY [v,ov,iv] (MJ ov iv v)
   release [v,ov,iv] []):=by intro _;rfl):PG X (.Subscript o i pos) (zW to ti t):=by
 intro pins s σ H v u Q I r h
 rw [ha]
 refine FR (Hn (thn (ho pins s σ H _ I h) fun ov s1 zr1=>?_))
 obtain ⟨x,H1,I1,r1,q1⟩:=zr1
 refine FR (Hn (thn (hi pins s1 σ H1 _ I1 q1) fun iv s2 zr1=>?_))
 obtain ⟨y,H2,I2,r2,q2⟩:=zr1
 refine FR (Hd (FR (Hn (thn (hs pins s2 σ H2 x y v ov iv u _ I2 r1 r2 r q2) fun _ s3 zr1=>?_))))
 obtain ⟨H3,I3,q3⟩:=zr1
 exact wpAny_release ⟨σ,H3,I3,q3⟩
def cQ (te:TE) (g:TG):TS:=fun D σ H=>te σ H fun x H1=>g x σ H1 D.nx
theorem qF {tg e:Expr} {te:TE} {g:TG} (he:PE X e te) (hg:PG X tg g) (hs:LY [tg] e pos.line X.env=pure false:=by rfl) (hw:LZ [tg] e X.env=pure none:=by rfl)
  (h1:(Iu [tg] X.env).map (·.2)=[I0 tg X.env]:=by rfl):PS X (.Assign [tg] e pos) (cQ te g):=by
 intro pins s σ H D I h
 refine wpAny_Assign_stores (thn (he pins s σ H _ I h) fun v s1 zr1=>?_) hs hw
 obtain ⟨x,H1,I1,r1,q1⟩:=zr1
 rw [h1]
 exact thn (hg pins s1 σ H1 x v _ I1 r1 q1) fun _ s2 q=>q
theorem bP {i:Nat} {x:Str} {e:Expr} {te:TE} {pos':Pos} (hN:X.N.Nodup) (hi:X.N[i]?=some x) (hx:Loc X.env.scope x) (he:PE X e te) (hs:HJ e (some (.Name x pos')) pos.line X.env=pure false:=by rfl) (hf:X.fn x=true\/X.env.scope.names.lookup x=some .local:=by first | exact .inl rfl | exact .inr rfl | assumption) :
  PS X (.Assign [.Name x pos'] e pos) (cQ te (aX i)):=by
 intro pins s σ H D I h
 refine wpAny_Assign_Name (thn (he pins s σ H _ I h) fun v s1 zr1=>?_) hs
 obtain ⟨y,H1,I1,r1,q1⟩:=zr1
 exact fG I1 hN hi hx r1 (fun s2 I2=>⟨_,H1,I2,q1⟩) hf
def yc (to ti te:TE) (tget:V->V->Hp->VK->Prop) (tip:TIp) (tset:qD):TS:=fun D σ H=>to σ H fun o H1=>ti σ H1 fun i H2=>tget o i H2 fun x H3=>te σ H3 fun y H4=>tip x y H4 fun z H5=>tset o i z H5 fun H6=>D.nx σ H6
def zY (X:Cx) (t:V->V->Hp->VK->Prop):Prop:=
 ∀(pins:List (Addr×Obj)) (s:FW) (σ:St) (H:Hp) (o i:V) (ov iv:FU) (Q:VK),Inv X pins σ H s->RelV o ov->RelV i iv->t o i H Q ->
  GU (GM X.prog X.w) X.A (getItem ov iv) (EP X pins σ Q) X.xe s
theorem uL {o i e:Expr} {to ti te:TE} {tget:V->V->Hp->VK->Prop} {tip:TIp} {tset:qD} {op:M6} {tpos:Pos} (ho:PE X o to) (hi:PE X i ti) (hg:zY X tget) (he:PE X e te) (hp:PIp X op tip) (hs:zU X tset)
  (ha:∀ov iv new,augStore i ov iv new=(do IY [new,ov,iv] (MJ ov iv new);release [new,ov,iv] [];pure .next):=by intros;rfl):PS X (.AugAssign (.Subscript o i tpos) op e pos) (yc to ti te tget tip tset):=by
 intro pins s σ H D I h
 refine wpAny_AugAssign_SubscriptAny (thn (ho pins s σ H _ I h) fun ov s1 zr1=>?_) ha
 obtain ⟨x1,H1,I1,r1,q1⟩:=zr1
 refine thn (hi pins s1 σ H1 _ I1 q1) fun iv s2 zr1=>?_
 obtain ⟨x2,H2,I2,r2,q2⟩:=zr1
 refine thn (hg pins s2 σ H2 x1 x2 ov iv _ I2 r1 r2 q2) fun old s3 zr1=>?_
 obtain ⟨x3,H3,I3,r3,q3⟩:=zr1
 refine thn (he pins s3 σ H3 _ I3 q3) fun v s4 zr1=>?_
 obtain ⟨x4,H4,I4,r4,q4⟩:=zr1
 refine thn (hp pins s4 σ H4 x3 x4 old v _ I4 r3 r4 q4) fun new s5 zr1=>?_
 obtain ⟨x5,H5,I5,r5,q5⟩:=zr1
 exact thn (hs pins s5 σ H5 x1 x2 x5 ov iv new _ I5 r1 r2 r5 q5) fun _ s6 zt1=>by obtain ⟨H6,I6,q6⟩:=zt1;exact ⟨σ,H6,I6,q6⟩
def ipI (f:Int->Int->Int):TIp:=fun x y H Q=>∃i j,x=.int i/\y=.int j/\Q (.int (f i j)) H
theorem zZ:PIp X .Add (ipI fun i j=>i+j):=by
 intro pins s σ H x y v u Q I r1 r2 h
 obtain ⟨i,j,e1,e2,q⟩:=h
 subst e1;subst e2
 obtain ⟨t,rfl⟩:=r1
 obtain ⟨t',rfl⟩:=r2
 exact iadd_int ⟨.int _,H,I.tok _,⟨_,rfl⟩,q⟩
end
structure It where
 go:Nat->Hp->Prop
 yld:Nat->Hp->V->Hp->Prop
 stop:Nat->Hp->Prop
def d9 (X:Cx) (pins:List (Addr×Obj)) (H:Hp) (b:Addr):Prop:=
 H b=none/\b≠X.env.locals/\b∉X.fs/\(b∈X.ex\/X.s₀.heap.objs.size<=b)/\(∀x c,X.env.cells.lookup x=some c->c≠b)/\∀p∈X.pn++pins,p.1≠b
theorem Inv.fpOk {X:Cx} {pins:List (Addr×Obj)} {σ:St} {H H':Hp} {s:FW} {b:Addr} (I:Inv X pins σ H s) (hb:s.heap.objs.size<=b) (hn:H' b=none):d9 X pins H' b:=by
 refine ⟨hn,Mx (Gr I.lt hb),I.nofs hb,.inr (Hr I.sz hb),fun x c e z=>?_,fun p hp z=>?_⟩
 ·obtain ⟨v,q⟩:=I.cell x c e
  exact absurd (Gr q.lt (by rw [z];exact hb)) (Hb _)
 ·exact absurd (Gr (Gg (I.pin p hp).1) (by rw [z];exact hb)) (Hb _)
structure Turn (P:GD) (w:Hg) (K:FO) (tg:Expr) (J:It) (fp:List Addr) (it:Addr) (tn:Nat->Heap->Prop):Prop where
 mem:it∈fp
 obj:∀i h,tn i h->∀b∈fp,∃o,h.get? b=some o/\∀v,o.data≠.cell v
 keep:∀i h h',tn i h->(∀b∈fp,∀o,h.get? b=some o->h'.get? b=some o)->tn i h'
 item:∀(X:Cx),X.prog=P->X.w=w->X.K=K->X.calm=true->∀(i:Nat) (pins:List (Addr×Obj)) (s:FW) (σ:St) (H:Hp) (E:FU->FW->Prop),Inv X pins σ H s->(∀b∈fp,d9 X pins H b)->tn i s.heap->J.go i H ->
  GU (GM P w) X.A (Mz (.ref it)) (fun r s1=>∃u,r=some u /\
   GU (GM P w) X.A (IN tg (.ref it) u) (fun _ s2=>∃x H',Inv X pins σ H' s2/\RelV x u/\J.yld i H x H'/\tn (i+1) s2.heap/\∀b∈fp,H' b=none) E s1) E s
 done:∀(X:Cx),X.prog=P->X.w=w->X.K=K->X.calm=true->∀(i:Nat) (pins:List (Addr×Obj)) (s:FW) (σ:St) (H:Hp) (E:FU->FW->Prop),Inv X pins σ H s->(∀b∈fp,d9 X pins H b)->tn i s.heap->J.stop i H ->
  GU (GM P w) X.A (Mz (.ref it)) (fun r s1=>r=none/\Inv X pins σ H s1) E s
 self:∀(A:Ho) (i:Nat) (s:FW) (Q:FU->FW->Prop) (E:FU->FW->Prop),tn i s.heap->Q (.ref it) s->GU (GM P w) A (MA (.ref it)) Q E s
abbrev TI:=St->Hp->(It->Hp->Prop)->Prop
def PIE (X:Cx) (pins:List (Addr×Obj)) (σ:St) (tg:Expr) (R:It->Hp->Prop) (itv:FU) (s2:FW):Prop:=
 ∃(it:Addr) (fp:List Addr) (tn:Nat->Heap->Prop) (J:It) (H':Hp),itv=.ref it/\Inv X pins σ H' s2/\Turn X.prog X.w X.K tg J fp it tn/\tn 0 s2.heap/\(∀b∈fp,d9 X pins H' b)/\R J H'
def PI (X:Cx) (tg iter:Expr) (wi:TI):Prop:=
 ∀(pins:List (Addr×Obj)) (s:FW) (σ:St) (H:Hp) (R:It->Hp->Prop),Inv X pins σ H s->wi σ H R ->
  GU (GM X.prog X.w) X.A (eval iter X.env) (fun v s1=>GU (GM X.prog X.w) X.A (MA v) (PIE X pins σ tg R) X.xe s1) X.xe s
theorem kU {M:M5} {A:Ho} {E:FU->FW->Prop} {s:FW} {tg:Expr} {it:Addr} {u:FU} {o:Obj} {n:String} {vs:Array FU} {Q:Unit->FW->Prop} (ho:s.heap.get? it=some o) (hc:o.cls=.type n) (hd:o.data=.fields vs)
    (hn:["enumerate","zip","dict_itemiterator","dict_reverseitemiterator","odict_iterator","itertools.zip_longest","itertools.pairwise"].contains n=false) (hQ:Q () s):GU M A (IN tg (.ref it) u) Q E s:=by
  unfold IN
  cases tg <;> first
    | exact F7 hQ
    | (cases u <;> first
        | exact F7 hQ
        | (refine FR (wpAny_load ho ?_)
           rw [hc,hd]
           show GU M A (if (["enumerate","zip","dict_itemiterator","dict_reverseitemiterator","odict_iterator","itertools.zip_longest","itertools.pairwise"].contains n&&vs[0]?==some (rawInt _))=true then _ else _) Q E s
           rw [if_neg (by intro h;rw [hn,II] at h;cases h)]
           exact F7 hQ))
def Itl (K:FO) (a:Addr):It:=
 ⟨fun i H=>∃xs x,SqL K H a xs/\xs[i]?=some x,fun i H x H'=>H'=H/\∀xs,SqL K H a xs->xs[i]?=some x,fun i H=>∃xs,SqL K H a xs/\xs.length<=i⟩
def Itt (K:FO) (a:Addr):It:=
 ⟨fun i H=>∃xs x,SqT K H a xs/\xs[i]?=some x,fun i H x H'=>H'=H/\∀xs,SqT K H a xs->xs[i]?=some x,fun i H=>∃xs,SqT K H a xs/\xs.length<=i⟩
def Itr (lo:Int) (n:Nat):It:=⟨fun i _=>i < n,fun i H x H'=>H'=H/\x=.int (lo+i),fun i _=>n<=i⟩
theorem o9 {P:GD} {w:Hg} {K:FO} {tg:Expr} (a it:Addr):Turn P w K tg (Itl K a) [it] it (fun i h=>h.IsListIter it a i) where
 mem:=by simp
 obj:=fun i h st b hb=>by
  have e:b=it:=by simpa using hb
  subst e
  obtain ⟨o,e,c,d⟩:=st
  exact ⟨o,e,fun v z=>by rw [d] at z;cases z⟩
 keep:=fun i h h' st k=>st.at fun o e=>k it (by simp) o e
 item:=by
  intro X hP hw hK hc i pins s σ H E I hf st hg
  subst hP hw hK
  obtain ⟨xs,x,hq,hx⟩:=hg
  obtain ⟨its,rv,p,hz⟩:=I.list hq
  obtain ⟨u,hu,ru⟩:=rv.get hx
  obtain ⟨f0,f1,f2,f3,f4,f5⟩:=hf it (by simp)
  refine wpAny_pyNext_list_item st p.isList (x:=u) (by simpa using hu) fun h' st' sb=>?_
  have I1:Inv X pins σ H { s with heap:=h' }:=I.turned (t':=s.toks) (fun b o hb e=>(sb.2 b hb).trans e) f0 f1 f3 f4 f5
  obtain ⟨o,e,c,d⟩:=id st'
  exact ⟨u,rfl,kU (s:={ s with heap:=h' }) e c d (by decide) ⟨x,H,I1,ru,⟨rfl,fun ys hy=>by rw [I.list_inj hy hq];exact hx⟩,st',fun b hb=>(hf b hb).1⟩⟩
 done:=by
  intro X hP hw hK hc i pins s σ H E I hf st hg
  subst hP hw hK
  obtain ⟨xs,hq,hx⟩:=hg
  obtain ⟨its,rv,p,hz⟩:=I.list hq
  obtain ⟨f0,f1,f2,f3,f4,f5⟩:=hf it (by simp)
  have hl:=rv.length
  exact wpAny_pyNext_list_end (I.ok.hd hc) st p.isList (by simp;omega) fun h' eb=>⟨rfl,I.turned (t':=s.toks) (fun b o hb e=>eb b o hb e) f0 f1 f3 f4 f5⟩
 self:=fun _ _ _ _ _ st h=>wpAny_pyIter_listiter st h
theorem mF {P:GD} {w:Hg} {K:FO} {tg:Expr} (a it:Addr):Turn P w K tg (Itt K a) [it] it (fun i h=>h.IsTupleIter it a i) where
 mem:=by simp
 obj:=fun i h st b hb=>by
  have e:b=it:=by simpa using hb
  subst e
  obtain ⟨o,e,c,d⟩:=st
  exact ⟨o,e,fun v z=>by rw [d] at z;cases z⟩
 keep:=fun i h h' st k=>st.at fun o e=>k it (by simp) o e
 item:=by
  intro X hP hw hK hc i pins s σ H E I hf st hg
  subst hP hw hK
  obtain ⟨xs,x,hq,hx⟩:=hg
  obtain ⟨its,rv,p,hz⟩:=I.tuple hq
  obtain ⟨u,hu,ru⟩:=rv.get hx
  obtain ⟨f0,f1,f2,f3,f4,f5⟩:=hf it (by simp)
  refine wpAny_pyNext_tuple_item st (show s.heap.IsTuple a its.toArray from p) (x:=u) (by simpa using hu) fun h' st' sb=>?_
  have I1:Inv X pins σ H { s with heap:=h' }:=I.turned (t':=s.toks) (fun b o hb e=>(sb.2 b hb).trans e) f0 f1 f3 f4 f5
  obtain ⟨o,e,c,d⟩:=id st'
  exact ⟨u,rfl,kU (s:={ s with heap:=h' }) e c d (by decide) ⟨x,H,I1,ru,⟨rfl,fun ys hy=>by rw [I.tuple_inj hy hq];exact hx⟩,st',fun b hb=>(hf b hb).1⟩⟩
 done:=by
  intro X hP hw hK hc i pins s σ H E I hf st hg
  subst hP hw hK
  obtain ⟨xs,hq,hx⟩:=hg
  obtain ⟨its,rv,p,hz⟩:=I.tuple hq
  obtain ⟨f0,f1,f2,f3,f4,f5⟩:=hf it (by simp)
  have hl:=rv.length
  exact wpAny_pyNext_tuple_end (I.ok.hd hc) st (show s.heap.IsTuple a its.toArray from p) (by simp;omega) fun h' eb=>⟨rfl,I.turned (t':=s.toks) (fun b o hb e=>eb b o hb e) f0 f1 f3 f4 f5⟩
 self:=fun _ _ _ _ _ st h=>wpAny_pyIter_tupleiter st h
theorem mG {P:GD} {w:Hg} {K:FO} {tg:Expr} (it:Addr) (lo:Int) (n:Nat):Turn P w K tg (Itr lo n) [it] it (fun i h=>LM h it (lo+(i:Nat)*1) ((n:Int)-(i:Nat)) 1) where
 mem:=by simp
 obj:=fun i h st b hb=>by
  have e:b=it:=by simpa using hb
  subst e
  exact ⟨_,st,fun v z=>by
   have z':MK _=Ji v:=z
   cases z'⟩
 keep:=fun i h h' st k=>k it (by simp) _ st
 item:=by
  intro X hP hw hK hc i pins s σ H E I hf st hg
  subst hP hw hK
  obtain ⟨f0,f1,f2,f3,f4,f5⟩:=hf it (by simp)
  have W:=Walks.range (prog:=X.prog) (w:=X.w) (I.ok.hd hc) it lo 1 n
  refine W.item i s _ _ hg st fun v h' tk hv st' kk=>?_
  obtain ⟨t,rfl⟩:=hv
  have I1:Inv X pins σ H { s with heap:=h',toks:=tk }:=I.turned (fun b o hb e=>kk b o (by simpa using hb) e) f0 f1 f3 f4 f5
  refine ⟨_,rfl,kU (s:={ s with heap:=h',toks:=tk }) (n:="range_iterator") st' rfl rfl (by decide) ⟨.int (lo+i),H,I1,⟨t,?_⟩,⟨rfl,rfl⟩,st',fun b hb=>(hf b hb).1⟩⟩
  rw [Int.mul_one]
 done:=by
  intro X hP hw hK hc i pins s σ H E I hf st hg
  subst hP hw hK
  obtain ⟨f0,f1,f2,f3,f4,f5⟩:=hf it (by simp)
  exact KW (I.ok.hd hc) st (by have:n<=i:=hg;omega) fun h' eb=>⟨rfl,I.turned (t':=s.toks) (fun b o hb e=>eb b o hb e) f0 f1 f3 f4 f5⟩
 self:=fun _ _ _ _ _ st h=>KY st h
end L2
namespace L2
open PySem PySem.Spec PyProof.Rows
section
variable {X:Cx} {tg:Expr}
def yd (K:FO) (tl:TE):TI:=fun σ H R=>tl σ H fun x H1=>∃a,x=.ref a/\(∃xs,SqL K H1 a xs)/\R (Itl K a) H1
def CP (K:FO) (tl:TE):TI:=fun σ H R=>tl σ H fun x H1=>∃a,x=.ref a/\(∃xs,SqT K H1 a xs)/\R (Itt K a) H1
theorem uM {l:Expr} {tl:TE} (hl:PE X l tl):PI X tg l (yd X.K tl):=by
 intro pins s σ H R I h
 refine thn (hl pins s σ H _ I h) fun v s1 zr1=>?_
 obtain ⟨x,H1,I1,r1,q1⟩:=zr1
 obtain ⟨a,e,⟨xs,hq⟩,q⟩:=q1
 subst e
 cases r1
 obtain ⟨its,rv,p,hz⟩:=I1.list hq
 refine wpAny_pyIter_list p.isList ?_
 refine ⟨s1.heap.objs.size,[s1.heap.objs.size],_,_,H1,rfl,I1.kept (t':=s1.toks) fun b o e=>FT _ e,o9 a _,⟨_,Gn _ rfl,rfl,rfl⟩,fun b hb=>?_,q⟩
 have e:b=s1.heap.objs.size:=by simpa using hb
 subst e
 exact I1.fpOk (FX _) (I1.hok.fresh (FX _))
theorem Aa {l:Expr} {tl:TE} (hl:PE X l tl):PI X tg l (CP X.K tl):=by
 intro pins s σ H R I h
 refine thn (hl pins s σ H _ I h) fun v s1 zr1=>?_
 obtain ⟨x,H1,I1,r1,q1⟩:=zr1
 obtain ⟨a,e,⟨xs,hq⟩,q⟩:=q1
 subst e
 cases r1
 obtain ⟨its,rv,p,hz⟩:=I1.tuple hq
 refine wpAny_pyIter_tuple (show s1.heap.IsTuple a its.toArray from p) ?_
 refine ⟨s1.heap.objs.size,[s1.heap.objs.size],_,_,H1,rfl,I1.kept (t':=s1.toks) fun b o e=>FT _ e,mF a _,⟨_,Gn _ rfl,rfl,rfl⟩,fun b hb=>?_,q⟩
 have e:b=s1.heap.objs.size:=by simpa using hb
 subst e
 exact I1.fpOk (FX _) (I1.hok.fresh (FX _))
theorem kW {pins:List (Addr×Obj)} {σ:St} {H:Hp} {s:FW} {R:It->Hp->Prop} {E:FU->FW->Prop} {lo hi:Int} {t u v:Tok} {tk:Nat} (I:Inv X pins σ H s) (h1:-(2 ^ 62)<=lo) (h2:lo < 2 ^ 62) (h3:-(2 ^ 62)<=hi) (h4:hi < 2 ^ 62)
  (q:R (Itr lo (hi-lo).toNat) H):GU (GM X.prog X.w) X.A (MA (.ref s.heap.objs.size)) (PIE X pins σ tg R) E { s with heap:=s.heap.push { cls:=.type "range",data:=.fields #[.int lo t,.int hi u,.int 1 v] },toks:=tk }:=by
 refine L0 (IsRange.new ..) (small_one h1 h2 h3 h4) ?_
 have I1:Inv X pins σ H { s with heap:=s.heap.push { cls:=.type "range",data:=.fields #[.int lo t,.int hi u,.int 1 v] },toks:=tk }:=I.kept fun b o e=>FT _ e
 refine ⟨(s.heap.push { cls:=.type "range",data:=.fields #[.int lo t,.int hi u,.int 1 v] }).objs.size,[(s.heap.push { cls:=.type "range",data:=.fields #[.int lo t,.int hi u,.int 1 v] }).objs.size],_,_,H,rfl,
  I1.kept (t':=tk) fun b o e=>FT _ e,mG _ lo (hi-lo).toNat,?_,fun b hb=>?_,q⟩
 ·have e1:lo+((0:Nat):Int)*1=lo:=by simp
  have e2:(((hi-lo).toNat:Nat):Int)-((0:Nat):Int)=Gp lo hi 1:=by rw [rangeSize_one];split <;> omega
  show LM _ _ (lo+((0:Nat):Int)*1) ((((hi-lo).toNat:Nat):Int)-((0:Nat):Int)) 1
  rw [e1,e2]
  exact Gn _ rfl
 ·have e:b=(s.heap.push { cls:=.type "range",data:=.fields #[.int lo t,.int hi u,.int 1 v] }).objs.size:=by simpa using hb
  subst e
  exact I1.fpOk (FX _) (I1.hok.fresh (FX _))
def ye (ta:TA):TI:=fun σ H R=>ta σ H fun vs H1=>∃j:Int,vs=[.int j]/\-(2 ^ 62)<=j/\j < 2 ^ 62/\R (Itr 0 j.toNat) H1
def yf (ta:TA):TI:=fun σ H R=>ta σ H fun vs H1=>∃i j:Int,vs=[.int i,.int j]/\(-(2 ^ 62)<=i/\i < 2 ^ 62/\-(2 ^ 62)<=j/\j < 2 ^ 62)/\R (Itr i (j-i).toNat) H1
theorem ph {a:Expr} {ta:TA} {p pos:Pos} (hg:Gl X "range") (hm:X.mg "range"=none) (ha:PA X [a] ta) (hs:Gi [a] X.env=[(false,eval a X.env)]:=by rfl):PI X tg (.Call (.Name "range" p) [a] [] pos) (ye ta):=by
 intro pins s σ H R I h
 refine Call_ (d7 I hg hm MU (Hs (thn (ha pos pins s σ H _ I h) fun us s1 zr1=>?_) hs rfl))
 obtain ⟨vs,H1,I1,r1,q1⟩:=zr1
 obtain ⟨j,e,q1,q2,q⟩:=q1
 subst e
 cases r1 with
 | cons r rr=>
  cases rr
  obtain ⟨t,rfl⟩:=r
  exact call_range_1 (kW I1 (by omega) (by omega) q1 q2 (by simpa using q))
theorem pq {a b:Expr} {ta:TA} {p pos:Pos} (hg:Gl X "range") (hm:X.mg "range"=none) (ha:PA X [a,b] ta) (hs:Gi [a,b] X.env=[(false,eval a X.env),(false,eval b X.env)]:=by rfl) (hs2:Gi [b] X.env=[(false,eval b X.env)]:=by rfl) :
  PI X tg (.Call (.Name "range" p) [a,b] [] pos) (yf ta):=by
 intro pins s σ H R I h
 refine Call_ (d7 I hg hm MU (Hs (thn (ha pos pins s σ H _ I h) fun us s1 ⟨vs,H1,I1,r1,q1⟩=>?_) (by rw [hs,hs2]) (by rw [hs2];rfl)))
 obtain ⟨i,j,e,⟨q1,q2,q3,q4⟩,q⟩:=q1
 subst e
 cases r1 with
 | cons r rr=>
  cases rr with
  | cons r' rr=>
   cases rr
   obtain ⟨t,rfl⟩:=r
   obtain ⟨t',rfl⟩:=r'
   exact call_range_2 (kW I1 q1 q2 q3 q4 q)
def CQ (wi:TI) (g:TG) (tb:TS):TS:=fun D σ H=>wi σ H fun J H1=>∃W:Nat->Nat->St->Hp->Prop,(∃m,W 0 m σ H1)/\∀i m σ H,W i m σ H ->
 (J.stop i H/\D.nx σ H)\/(J.go i H/\∃N:St->Hp->Prop,(∀ σ' H',N σ' H'->∃m',m' < m/\W (i+1) m' σ' H')/\∀x H',J.yld i H x H'->g x σ H' fun σ2 H2=>tb { D with nx:=N,ct:=N,bk:=D.nx } σ2 H2)
def bQ (fp:List Addr) (h:Heap):List (Addr×Obj):=fp.filterMap fun b=>(h.get? b).map fun o=>(b,o)
theorem aN {fp:List Addr} {h:Heap} {b:Addr} {o:Obj} (hb:b∈fp) (e:h.get? b=some o):(b,o)∈bQ fp h:=List.mem_filterMap.mpr ⟨b,hb,by rw [e];rfl⟩
theorem dt {fp:List Addr} {h:Heap} {p:Addr×Obj} (hp:p∈bQ fp h):p.1∈fp/\h.get? p.1=some p.2:=by
 obtain ⟨b,hb,e⟩:=List.mem_filterMap.mp hp
 cases q:h.get? b with
 | none=>rw [q] at e;cases e
 | some o=>
  rw [q] at e
  have e':(b,o)=p:=Gx e
  subst e'
  exact ⟨hb,q⟩
theorem Inv.pinned {pins:List (Addr×Obj)} {σ:St} {H:Hp} {s:FW} {fp:List Addr} (I:Inv X pins σ H s) (hf:∀b∈fp,d9 X pins H b) (ho:∀b∈fp,∃o,s.heap.get? b=some o/\∀v,o.data≠.cell v):Inv X (pins++bQ fp s.heap) σ H s:=
 I.pins_of fun p hp=>(List.mem_append.mp hp).elim (fun z=>I.pin p (FQ _ z)) fun z=>by
  obtain ⟨hb,e⟩:=dt z
  obtain ⟨f0,f1,f2,_⟩:=hf p.1 hb
  obtain ⟨o,e',d⟩:=ho p.1 hb
  rw [e] at e';cases e'
  exact ⟨e,f0,f1,f2,d⟩
theorem Inv.unpinned {pins pl:List (Addr×Obj)} {σ:St} {H:Hp} {s:FW} (I:Inv X (pins++pl) σ H s):Inv X pins σ H s:=I.pins_of fun p hp=>I.pin p (FQ _ (Gu _ hp))
theorem Ab {iter:Expr} {body:List Stmt} {wi:TI} {g:TG} {tb:TS} {pos:Pos} (hp:PassesOwn (GM X.prog X.w) X.A X.env X.xe) (hc:X.calm=true) (hi:PI X tg iter wi) (hg:PG X tg g) (hb:PSs X body tb)
  (hs:∀x,Gj iter X.env x=pure x:=by intro _;rfl):PS X (.For tg iter body [] pos) (CQ wi g tb):=by
 intro pins s σ H D I h
 refine wpAny_For (thn (hi pins s σ H _ I h) fun v s1 h1=>thn h1 fun itv s2 h2=>?_) hs
 obtain ⟨it,fp,tn,J,H2,e,I2,T,st2,f2,W,⟨m0,w0⟩,turn⟩:=h2
 subst e
 -- what stays true of the iterator's objects through the loop
 have stat:∀{H':Hp},(∀b∈fp,H' b=none)->∀b∈fp,d9 X pins H' b:=fun hn b hb=>⟨hn b hb,(f2 b hb).2⟩
 refine codeAny_forLoop_any (fun n s'=>∃i σ' H',Inv X pins σ' H' s'/\tn i s'.heap/\(∀b∈fp,H' b=none)/\W i n σ' H') ?_ m0 ⟨0,σ,H2,I2,st2,fun b hb=>(f2 b hb).1,w0⟩
 rintro n s3 ⟨i,σ3,H3,I3,st3,fr3,w3⟩
 rcases turn i n σ3 H3 w3 with ⟨stop,qn⟩ | ⟨go,N,hN,step⟩
 ·refine Jj hp (thn (T.done X rfl rfl rfl hc i pins s3 σ3 H3 X.xe I3 (stat fr3) st3 stop) fun r s4 zr1=>?_)
  obtain ⟨hr,I4⟩:=zr1
  subst hr
  exact K9 ⟨σ3,H3,I4,qn⟩
 ·refine Jj hp (thn (T.item X rfl rfl rfl hc i pins s3 σ3 H3 X.xe I3 (stat fr3) st3 go) fun r s4 zr1=>?_)
  obtain ⟨u,hr,h4⟩:=zr1
  subst hr
  refine Jj hp (thn h4 fun _ s5 zr1=>?_)
  obtain ⟨x,H5,I5,r5,y5,st5,fr5⟩:=zr1
  have I5':=I5.pinned (stat fr5) (T.obj _ _ st5)
  refine Jj hp (thn (hg _ s5 σ3 H5 x u _ I5' r5 (step x H5 y5)) fun _ s6 zr1=>?_)
  obtain ⟨σ6,H6,I6,q6⟩:=zr1
  refine Jj hp (thn (hb _ s6 σ6 H6 _ I6 q6) fun f s7 q7=>?_)
  have J9:∀{σ7:St} {H7:Hp},Inv X (pins++bQ fp s5.heap) σ7 H7 s7->N σ7 H7->∃m,m < n/\∃i σ' H',Inv X pins σ' H' s7/\tn i s7.heap/\(∀b∈fp,H' b=none)/\W i m σ' H':=fun {σ7 H7} I7 n7=>by
   obtain ⟨m',hm,w7⟩:=hN σ7 H7 n7
   refine ⟨m',hm,i+1,σ7,H7,I7.unpinned,T.keep _ _ _ st5 fun b hb o e=>(I7.pin (b,o) (FQ _ (FQ _ (aN hb e)))).1,fun b hb=>?_,w7⟩
   obtain ⟨o,e,d⟩:=T.obj _ _ st5 b hb
   exact (I7.pin (b,o) (FQ _ (FQ _ (aN hb e)))).2.1
  cases f with
  | next=>obtain ⟨σ7,H7,I7,n7⟩:=q7;exact J9 I7 n7
  | cont=>obtain ⟨σ7,H7,I7,n7⟩:=q7;exact J9 I7 n7
  | brk=>obtain ⟨σ7,H7,I7,q7⟩:=q7;exact ⟨σ7,H7,I7.unpinned,q7⟩
  | ret v=>obtain ⟨x7,σ7,H7,I7,r7,q7⟩:=q7;exact ⟨x7,σ7,H7,I7.unpinned,r7,q7⟩
end
end L2
namespace L2
open PySem PySem.Spec PyProof.Rows
abbrev R2:=V->V->Hp->VK->Prop
def OpR (X:Cx) (f:FU->FU->Sem FU) (r:R2):Prop:=
 ∀(pins:List (Addr×Obj)) (s:FW) (σ:St) (H:Hp) (x y:V) (v u:FU) (Q:VK),Inv X pins σ H s->RelV x v->RelV y u->r x y H Q ->
  GU (GM X.prog X.w) X.A (f v u) (EP X pins σ Q) X.xe s
def UnR (X:Cx) (f:FU->Sem FU) (r:V->Hp->VK->Prop):Prop:=
 ∀(pins:List (Addr×Obj)) (s:FW) (σ:St) (H:Hp) (x:V) (v:FU) (Q:VK),Inv X pins σ H s->RelV x v->r x H Q ->
  GU (GM X.prog X.w) X.A (f v) (EP X pins σ Q) X.xe s
def cg (X:Cx) (f:FU) (r:List V->Hp->VK->Prop):Prop:=
 ∀(pins:List (Addr×Obj)) (s:FW) (σ:St) (H:Hp) (xs:List V) (us:List FU) (Q:VK),Inv X pins σ H s->Vals xs us->r xs H Q ->
  GU (GM X.prog X.w) X.A (call f us) (EP X pins σ Q) X.xe s
def Fg (X:Cx) (r:V->Hp->(Bool->Hp->Prop)->Prop):Prop:=
 ∀(pins:List (Addr×Obj)) (s:FW) (σ:St) (H:Hp) (x:V) (v:FU) (Q:Bool->Hp->Prop),Inv X pins σ H s->RelV x v->r x H Q ->
  GU (GM X.prog X.w) X.A (Mu v) (TP X pins σ Q) X.xe s
def tOp (r:R2) (ta tb:TE):TE:=fun σ H Q=>ta σ H fun x H1=>tb σ H1 fun y H2=>r x y H2 Q
def tUn (r:V->Hp->VK->Prop) (ta:TE):TE:=fun σ H Q=>ta σ H fun x H1=>r x H1 Q
def rI (C:Int->Int->Prop) (g:Int->Int->V):R2:=fun x y H Q=>∃i j,x=.int i/\y=.int j/\C i j/\Q (g i j) H
def rI0 (g:Int->Int->V):R2:=fun x y H Q=>∃i j,x=.int i/\y=.int j/\Q (g i j) H
def rU (g:Int->V):V->Hp->VK->Prop:=fun x H Q=>∃i,x=.int i/\Q (g i) H
section
variable {X:Cx} {a b c:Expr} {ta tb tc:TE} {pos:Pos}
theorem Ac (ha:PE X a ta) (hb:PE X b tb) {pins:List (Addr×Obj)} {s:FW} {σ:St} {H:Hp} {R:V->V->Hp->Prop} (I:Inv X pins σ H s)
  (h:ta σ H fun x H1=>tb σ H1 fun y H2=>R x y H2) {Q:FU->FW->Prop} {f:FU->FU->Sem FU}
  (hf:∀v u s2 x y H2,Inv X pins σ H2 s2->RelV x v->RelV y u->R x y H2->GU (GM X.prog X.w) X.A (f v u) Q X.xe s2) :
  GU (GM X.prog X.w) X.A (eval a X.env) (fun v s₁=>GU (GM X.prog X.w) X.A (eval b X.env) (fun u s₂=>GU (GM X.prog X.w) X.A (f v u) Q X.xe s₂) X.xe s₁) X.xe s:=by
 refine thn (ha pins s σ H _ I h) fun v s1 zr1=>?_
 obtain ⟨x,H1,I1,r1,q1⟩:=zr1
 refine thn (hb pins s1 σ H1 _ I1 q1) fun u s2 zr1=>?_
 obtain ⟨y,H2,I2,r2,q2⟩:=zr1
 exact hf v u s2 x y H2 I2 r1 r2 q2
theorem qG {op:M6} {r:R2} (ho:OpR X (Jb op) r) (ha:PE X a ta) (hb:PE X b tb):PE X (.BinOp a op b pos) (tOp r ta tb):=by
 intro pins s σ H Q I h
 exact wpAny_BinOp (Ac ha hb I h fun v u s2 x y H2 I2 rx ry q=>ho pins s2 σ H2 x y v u Q I2 rx ry q)
theorem yg {op:UnaryOp} {r:V->Hp->VK->Prop} (ho:UnR X (unaryOp op) r) (ha:PE X a ta):PE X (.UnaryOp op a pos) (tUn r ta):=by
 intro pins s σ H Q I h
 exact UnaryOp_ (thn (ha pins s σ H _ I h) fun v s1 zt1=>by obtain ⟨x,H1,I1,r1,q1⟩:=zt1;exact ho pins s1 σ H1 x v Q I1 r1 q1)
theorem opI {f:FU->FU->Sem FU} {C:Int->Int->Prop} {g:Int->Int->Int}
  (rule:∀(i j:Int) (t u:Tok) (s:FW) (Q:FU->FW->Prop) (E:FU->FW->Prop),C i j->Q (.int (g i j) s.toks) { s with toks:=s.toks+1 }->GU (GM X.prog X.w) X.A (f (.int i t) (.int j u)) Q E s) :
  OpR X f (rI C fun i j=>.int (g i j)):=by
 intro pins s σ H x y v u Q I rx ry h
 obtain ⟨i,j,rfl,rfl,hc,q⟩:=h
 obtain ⟨t,rfl⟩:=rx
 obtain ⟨t',rfl⟩:=ry
 exact rule i j t t' s _ _ hc ⟨.int (g i j),H,I.tok _,⟨_,rfl⟩,q⟩
theorem Ad {f:FU->FU->Sem FU} {g:Int->Int->Int}
  (rule:∀(i j:Int) (t u:Tok) (s:FW) (Q:FU->FW->Prop) (E:FU->FW->Prop),Q (.int (g i j) s.toks) { s with toks:=s.toks+1 }->GU (GM X.prog X.w) X.A (f (.int i t) (.int j u)) Q E s) :
  OpR X f (rI0 fun i j=>.int (g i j)):=by
 intro pins s σ H x y v u Q I rx ry h
 obtain ⟨i,j,rfl,rfl,q⟩:=h
 obtain ⟨t,rfl⟩:=rx
 obtain ⟨t',rfl⟩:=ry
 exact rule i j t t' s _ _ ⟨.int (g i j),H,I.tok _,⟨_,rfl⟩,q⟩
theorem uN {f:FU->FU->Sem FU} {g:Int->Int->Bool}
  (rule:∀(i j:Int) (t u:Tok) (s:FW) (Q:FU->FW->Prop) (E:FU->FW->Prop),Q (.bool (g i j)) s->GU (GM X.prog X.w) X.A (f (.int i t) (.int j u)) Q E s) :
  OpR X f (rI0 fun i j=>.bl (g i j)):=by
 intro pins s σ H x y v u Q I rx ry h
 obtain ⟨i,j,rfl,rfl,q⟩:=h
 obtain ⟨t,rfl⟩:=rx
 obtain ⟨t',rfl⟩:=ry
 exact rule i j t t' s _ _ ⟨.bl (g i j),H,I,rfl,q⟩
def Fh (i j:Int):Prop:=0 < j/\j < 1073741824
def CS (i j:Int):Prop:=0<=j/\j<=1000000/\i.natAbs < 2 ^ 64
def Ae (i j:Int):Prop:=(-(2 ^ 64) < i/\i < 2 ^ 64)\/(-(2 ^ 64) < j/\j < 2 ^ 64)
theorem Ae.ok {i j:Int} (h:Ae i j):IntMulOk i j:=by
 rcases h with ⟨h1,h2⟩ | ⟨h1,h2⟩
 ·exact .of_left (intBits_le_64 h1 h2)
 ·exact .of_right (intBits_le_64 h1 h2)
theorem two_pow_nn (k:Nat):(0:Int)<=2 ^ k:=by
 rw [two_pow_cast]
 exact L1 _
theorem bf:OpR X (Jb .Add) (rI0 fun i j=>.int (i+j)):=Ad fun _ _ _ _ _ _ _ q=>add_int q
theorem g9:OpR X (Jb .Sub) (rI0 fun i j=>.int (i-j)):=Ad fun _ _ _ _ _ _ _ q=>sub_int q
theorem fu:OpR X (Jb .Mult) (rI Ae fun i j=>.int (i*j)):=opI fun _ _ _ _ _ _ _ hc q=>mul_int q hc.ok
theorem jR:OpR X (Jb .FloorDiv) (rI Fh fun i j=>.int (i / j)):=opI fun i j _ _ _ _ _ hc q=>by
 have h1:(0:Int) < j:=hc.1
 have h2:j < 1073741824:=hc.2
 exact floordiv_int (by omega) (by rw [Ka i (by omega)];exact q) (.inl (KZ (by omega)))
theorem dI:OpR X (Jb .Mod) (rI (fun _ j=>0 < j) fun i j=>.int (i%j)):=opI fun i j _ _ _ _ _ hc q=>by
 have h1:(0:Int) < j:=hc
 exact mod_int' (by omega) (by rw [Int.fmod_eq_emod_of_nonneg i (by omega)];exact q)
theorem mH:OpR X (Jb .Pow) (rI CS fun i j=>.int (i ^ j.toNat)):=opI fun _ _ _ _ _ _ _ hc q=>pow_int_small hc.1 hc.2.1 hc.2.2 q
theorem jS:OpR X (Jb .LShift) (rI CS fun i j=>.int (i*2 ^ j.toNat)):=opI fun _ _ _ _ _ _ _ hc q=>lshift_int_small hc.1 hc.2.1 hc.2.2 q
theorem fv:OpR X (Jb .RShift) (rI (fun _ j=>0<=j) fun i j=>.int (i / 2 ^ j.toNat)):=opI fun i j _ _ _ _ _ hc q=>
 rshift_int hc (by rw [Ka i (two_pow_nn _)];exact q)
theorem f9:OpR X (Jb .BitAnd) (rI0 fun i j=>.int (Ja i j)):=Ad fun _ _ _ _ _ _ _ q=>and_int q
theorem unI {f:FU->Sem FU} {g:Int->Int}
  (rule:∀(i:Int) (t:Tok) (s:FW) (Q:FU->FW->Prop) (E:FU->FW->Prop),Q (.int (g i) s.toks) { s with toks:=s.toks+1 }->GU (GM X.prog X.w) X.A (f (.int i t)) Q E s) :
  UnR X f (rU fun i=>.int (g i)):=by
 intro pins s σ H x v Q I rx h
 obtain ⟨i,rfl,q⟩:=h
 obtain ⟨t,rfl⟩:=rx
 exact rule i t s _ _ ⟨.int (g i),H,I.tok _,⟨_,rfl⟩,q⟩
theorem bI:UnR X (unaryOp .USub) (rU fun i=>.int (-i)):=unI fun _ _ _ _ _ q=>neg_int q
end
def uO:V->V->Bool
 | .non,.non=>true | .non,.int _=>true | .int _,.non=>true | .non,.bl _=>true | .bl _,.non=>true | .non,.str _=>true | .str _,.non=>true
 | .int _,.int _=>true | .bl _,.bl _=>true | .str _,.str _=>true | .byt _,.byt _=>true
 | .int _,.str _=>true | .str _,.int _=>true | .bl _,.str _=>true | .str _,.bl _=>true
 | _,_=>false
def rEq:R2:=fun x y H Q=>uO x y=true/\Q (.bl (decide (x=y))) H
def rNe:R2:=fun x y H Q=>uO x y=true/\Q (.bl (!decide (x=y))) H
theorem nK {i j:Int}:decide (V.int i=V.int j)=(i==j):=by
 rw [Ih]
 simp
theorem qH {i j:Bool}:decide (V.bl i=V.bl j)=(i==j):=by
 rw [Ih]
 simp
theorem nL {i j:Str}:decide (V.str i=V.str j)=(i==j):=by
 rw [Ih]
 simp
theorem nM {i j:Array UInt8}:decide (V.byt i=V.byt j)=(i.toList==j.toList):=by
 rw [Ih]
 cases i
 cases j
 simp
section
variable {X:Cx} {a b c:Expr} {ta tb tc:TE} {pos:Pos}
theorem aS {pins:List (Addr×Obj)} {σ:St} {H:Hp} {s:FW} {Q:VK} {k k':Bool} (I:Inv X pins σ H s) (q:Q (.bl k) H) (e:k=k'):EP X pins σ Q (.bool k') s:=by
 subst e
 exact ⟨.bl k,H,I,rfl,q⟩
theorem ef:OpR X (Hx .Eq) rEq:=by
 intro pins s σ H x y v u Q I rx ry h
 obtain ⟨hs,q⟩:=h
 cases x with
 | non=>
  cases rx
  cases y with
  | non=>cases ry;exact PySem.EqNone.eq_none_none (aS I q (by simp))
  | bl j=>cases ry;exact PySem.EqNone.eq_none_bool (aS I q (by simp))
  | int j=>obtain ⟨t',rfl⟩:=ry;exact PySem.EqNone.eq_none_int (aS I q (by simp))
  | str j=>obtain ⟨t',rfl⟩:=ry;exact PySem.EqNone.eq_none_str (aS I q (by simp))
  | _=>exact absurd (show false=true from hs) F4
 | bl i=>
  cases rx
  cases y with
  | non=>cases ry;exact PySem.EqNone.eq_bool_none (aS I q (by simp))
  | bl j=>cases ry;exact eq_bool (aS I q qH)
  | str j=>obtain ⟨t',rfl⟩:=ry;exact PySem.EqMixed.eq_bool_str (aS I q (by simp))
  | _=>exact absurd (show false=true from hs) F4
 | int i=>
  obtain ⟨t,rfl⟩:=rx
  cases y with
  | non=>cases ry;exact PySem.EqNone.eq_int_none (aS I q (by simp))
  | int j=>obtain ⟨t',rfl⟩:=ry;exact eq_int (aS I q nK)
  | str j=>obtain ⟨t',rfl⟩:=ry;exact PySem.EqMixed.eq_int_str (aS I q (by simp))
  | _=>exact absurd (show false=true from hs) F4
 | str i=>
  obtain ⟨t,rfl⟩:=rx
  cases y with
  | non=>cases ry;exact PySem.EqNone.eq_str_none (aS I q (by simp))
  | bl j=>cases ry;exact PySem.EqMixed.eq_str_bool (aS I q (by simp))
  | int j=>obtain ⟨t',rfl⟩:=ry;exact PySem.EqMixed.eq_str_int (aS I q (by simp))
  | str j=>obtain ⟨t',rfl⟩:=ry;exact eq_str (aS I q nL)
  | _=>exact absurd (show false=true from hs) F4
 | byt i=>
  obtain ⟨t,rfl⟩:=rx
  cases y with
  | byt j=>obtain ⟨t',rfl⟩:=ry;exact PySem.W.eq_bytes (aS I q nM)
  | _=>exact absurd (show false=true from hs) F4
 | _=>cases y <;> exact absurd (show false=true from hs) F4
theorem qI:OpR X (Hx .NotEq) rNe:=by
 intro pins s σ H x y v u Q I rx ry h
 obtain ⟨hs,q⟩:=h
 cases x with
 | non=>
  cases rx
  cases y with
  | non=>cases ry;exact PySem.EqNone.ne_none_none (aS I q (by simp))
  | bl j=>cases ry;exact PySem.EqNone.ne_none_bool (aS I q (by simp))
  | int j=>obtain ⟨t',rfl⟩:=ry;exact PySem.EqNone.ne_none_int (aS I q (by simp))
  | str j=>obtain ⟨t',rfl⟩:=ry;exact PySem.EqNone.ne_none_str (aS I q (by simp))
  | _=>exact absurd (show false=true from hs) F4
 | bl i=>
  cases rx
  cases y with
  | non=>cases ry;exact PySem.EqNone.ne_bool_none (aS I q (by simp))
  | bl j=>cases ry;exact ne_bool (aS I q (congrArg not qH))
  | str j=>obtain ⟨t',rfl⟩:=ry;exact PySem.EqMixed.ne_bool_str (aS I q (by simp))
  | _=>exact absurd (show false=true from hs) F4
 | int i=>
  obtain ⟨t,rfl⟩:=rx
  cases y with
  | non=>cases ry;exact PySem.EqNone.ne_int_none (aS I q (by simp))
  | int j=>obtain ⟨t',rfl⟩:=ry;exact ne_int (aS I q (congrArg not nK))
  | str j=>obtain ⟨t',rfl⟩:=ry;exact PySem.EqMixed.ne_int_str (aS I q (by simp))
  | _=>exact absurd (show false=true from hs) F4
 | str i=>
  obtain ⟨t,rfl⟩:=rx
  cases y with
  | non=>cases ry;exact PySem.EqNone.ne_str_none (aS I q (by simp))
  | bl j=>cases ry;exact PySem.EqMixed.ne_str_bool (aS I q (by simp))
  | int j=>obtain ⟨t',rfl⟩:=ry;exact PySem.EqMixed.ne_str_int (aS I q (by simp))
  | str j=>obtain ⟨t',rfl⟩:=ry;exact ne_str (aS I q (congrArg not nL))
  | _=>exact absurd (show false=true from hs) F4
 | byt i=>
  obtain ⟨t,rfl⟩:=rx
  cases y with
  | byt j=>obtain ⟨t',rfl⟩:=ry;exact PySem.W.ne_bytes (aS I q (congrArg not nM))
  | _=>exact absurd (show false=true from hs) F4
 | _=>cases y <;> exact absurd (show false=true from hs) F4
theorem kX:OpR X (Hx .Lt) (rI0 fun i j=>.bl (decide (i < j))):=uN fun _ _ _ _ _ _ _ q=>lt_int q
theorem hV:OpR X (Hx .LtE) (rI0 fun i j=>.bl (decide (i<=j))):=uN fun _ _ _ _ _ _ _ q=>le_int q
theorem hW:OpR X (Hx .Gt) (rI0 fun i j=>.bl (decide (j < i))):=uN fun _ _ _ _ _ _ _ q=>gt_int q
theorem yh:OpR X (Hx .GtE) (rI0 fun i j=>.bl (decide (j<=i))):=uN fun _ _ _ _ _ _ _ q=>ge_int q
theorem aO (b:Expr) {op:CmpOp} (h:op≠.In:=by decide) (h2:op≠.NotIn:=by decide):Jk op b=false:=by
 have e1:(op==CmpOp.In)=false:=by cases op <;> first | rfl | exact absurd rfl h
 have e2:(op==CmpOp.NotIn)=false:=by cases op <;> first | rfl | exact absurd rfl h2
 cases b <;> simp [Jk,e1,e2]
theorem uP {op:CmpOp} {r:R2} (ho:OpR X (Hx op) r) (ha:PE X a ta) (hb:PE X b tb) (hm:Jk op b=false):PE X (.Compare a [op] [b] pos) (tOp r ta tb):=by
 intro pins s σ H Q I h
 exact wpAny_Compare1 (Ac ha hb I h fun v u s2 x y H2 I2 rx ry q=>ho pins s2 σ H2 x y v u Q I2 rx ry q) hm
def qJ (t:TE):TT:=fun σ H Q=>t σ H fun x H'=>∃k,x=.bl k/\Q k H'
theorem uQ {op:CmpOp} {r:R2} (ho:OpR X (Hx op) r) (ha:PE X a ta) (hb:PE X b tb) (hm:Jk op b=false):PT X (.Compare a [op] [b] pos) (qJ (tOp r ta tb)):=by
 intro pins s σ H Q I h
 refine wpAny_isTrue_Compare1 (thn (ha pins s σ H _ I h) fun v s1 ⟨x,H1,I1,r1,q1⟩=>thn (hb pins s1 σ H1 _ I1 q1) fun u s2 ⟨y,H2,I2,r2,q2⟩=>
  thn (ho pins s2 σ H2 x y v u _ I2 r1 r2 q2) fun c s3 ⟨z,H3,I3,r3,k,e,q3⟩=>?_) hm
 subst e
 cases r3
 exact Ir ⟨H3,I3,q3⟩
def mI (r r':R2) (ta tb tc:TE):TE:=fun σ H Q=>ta σ H fun x H1=>tb σ H1 fun y H2=>r x y H2 fun z H3=>∃k,z=.bl k /\
 (if k=true then tc σ H3 fun w' H4=>r' y w' H4 Q else Q (.bl false) H3)
theorem qK {op op':CmpOp} {r r':R2} (ho:OpR X (Hx op) r) (ho':OpR X (Hx op') r') (ha:PE X a ta) (hb:PE X b tb) (hc:PE X c tc)
  (hm:lastMarks [op,op'] [b,c]=false:=by with_unfolding_all rfl):PE X (.Compare a [op,op'] [b,c] pos) (mI r r' ta tb tc):=by
 intro pins s σ H Q I h
 refine Compare_chain (thn (ha pins s σ H _ I h) fun v s1 ⟨x,H1,I1,r1,q1⟩=>chain_link (thn (hb pins s1 σ H1 _ I1 q1) fun u s2 ⟨y,H2,I2,r2,q2⟩=>
  thn (ho pins s2 σ H2 x y v u _ I2 r1 r2 q2) fun d s3 ⟨z,H3,I3,r3,k,e,q3⟩=>?_)) hm
 subst e
 cases r3
 refine Ir ?_
 cases k with
 | false=>exact ite_ff ⟨.bl false,H3,I3,rfl,q3⟩
 | true=>exact ite_tt (chain_last (thn (hc pins s3 σ H3 _ I3 q3) fun w' s4 zt1=>by obtain ⟨z',H4,I4,r4,q4⟩:=zt1;exact ho' pins s4 σ H4 y z' u w' Q I4 r2 r4 q4))
def TruV (K:FO) (x:V) (H:Hp) (k:Bool):Prop:=
 match x with
 | .non=>k=false
 | .bl b=>k=b
 | .int i=>k=(i != 0)
 | .str y=>y.length<=GG/\k=((y.length:Int) != 0)
 | .byt y=>y.size<=GG/\k=((y.size:Int) != 0)
 | .ref p=>(∃xs,SqL K H p xs/\k=!xs.isEmpty)\/(∃xs,SqT K H p xs/\k=!xs.isEmpty)\/∃kvs,H p=some (.dK kvs)/\k=!kvs.isEmpty
 | _=>False
theorem mJ {κ:Type} {kvs:List (κ×V)} {vs:List (κ×FU)} (r:KV kvs vs):(!vs.isEmpty)=!kvs.isEmpty:=by
 cases r <;> rfl
theorem hZ {xs:List V} {its:List FU} (r:Vals xs its):(!its.toArray.isEmpty)=!xs.isEmpty:=by
 cases r <;> simp
theorem fw:(GG:Nat) < 2 ^ 63:=by rw [G9];decide
theorem Af:Fg X (fun x H Q=>∃k,TruV X.K x H k/\Q k H):=by
 intro pins s σ H x v Q I rx h
 obtain ⟨k,e,q⟩:=h
 have hl:=fw
 have hs:GG=16777216:=G9
 cases x with
 | non=>
  cases rx
  have e':k=false:=e
  subst e'
  exact truthy_none ⟨H,I,q⟩
 | bl b=>
  cases rx
  have e':k=b:=e
  subst e'
  exact Ir ⟨H,I,q⟩
 | int i=>
  obtain ⟨t,rfl⟩:=rx
  have e':k=(i != 0):=e
  subst e'
  exact PySem.P.truthy_int ⟨H,I,q⟩
 | str y=>
  obtain ⟨t,rfl⟩:=rx
  obtain ⟨hy,e'⟩:y.length<=GG/\k=((y.length:Int) != 0):=e
  subst e'
  exact PySem.P.truthy_str (by omega) ⟨H,I.tok _,q⟩
 | byt y=>
  obtain ⟨t,rfl⟩:=rx
  obtain ⟨hy,e'⟩:y.size<=GG/\k=((y.size:Int) != 0):=e
  subst e'
  exact PySem.W.truthy_bytes (by omega) ⟨H,I.tok _,q⟩
 | ref p=>
  cases rx
  have e':(∃xs,SqL X.K H p xs/\k=!xs.isEmpty)\/(∃xs,SqT X.K H p xs/\k=!xs.isEmpty)\/∃kvs,H p=some (.dK kvs)/\k=!kvs.isEmpty:=e
  rcases e' with ⟨xs,hx,e'⟩ | ⟨xs,hx,e'⟩ | ⟨kvs,hx,e'⟩
  ·subst e'
   obtain ⟨its,r,pl,hz⟩:=I.list hx
   have hlen:=r.length
   exact wpAny_truthy_list pl.isList (by simp only [Ge];omega) ⟨H,I.tok _,by rw [hZ r];exact q⟩
  ·subst e'
   obtain ⟨its,r,pl,hz⟩:=I.tuple hx
   have hlen:=r.length
   exact truthy_tuple pl (by simp only [Ge];omega) ⟨H,I.tok _,by rw [hZ r];exact q⟩
  ·subst e'
   obtain ⟨hz,hS,vs,r,m⟩:kvs.length<=GG/\(p==Iq)=false/\∃vs,KV kvs vs/\s.heap.DictOf (jN X.prog X.w) p vs:=I.hok p _ hx
   have hlen:kvs.length=vs.length:=Jh r
   exact wpAny_truthy_dict hS m (by omega) ⟨H,I.tok _,by rw [mJ r];exact q⟩
 | _=>exact (show False from e).elim
theorem qL (ha:PE X a ta) (he:∀whole,LG a X.env whole=(do let v <- whole;IW a.pos;IY [v] (Mu v))) :
  PT X a (fun σ H Q=>ta σ H fun x H'=>∃k,TruV X.K x H' k/\Q k H'):=by
 intro pins s σ H Q I h
 exact Mw (thn (ha pins s σ H _ I h) fun v s1 zt1=>by obtain ⟨x,H1,I1,r1,q1⟩:=zt1;exact Af pins s1 σ H1 x v Q I1 r1 q1) (he _)
theorem vals1 {x:V} {us:List FU} (r:Vals [x] us):∃u,us=[u]/\RelV x u:=by
 cases r with
 | cons r1 r2=>cases r2;exact ⟨_,rfl,r1⟩
theorem vals2 {x y:V} {us:List FU} (r:Vals [x,y] us):∃u w',us=[u,w']/\RelV x u/\RelV y w':=by
 cases r with
 | cons r1 r2=>
  cases r2 with
  | cons r3 r4=>cases r4;exact ⟨_,_,rfl,r1,r3⟩
theorem pz (hc:X.calm=true):cg X (.builtin "max") (fun xs H Q=>∃i j,xs=[.int i,.int j]/\Q (.int (if j > i then j else i)) H):=by
 intro pins s σ H xs us Q I r h
 obtain ⟨i,j,rfl,q⟩:=h
 obtain ⟨u,w',rfl,⟨t,rfl⟩,⟨t',rfl⟩⟩:=vals2 r
 refine max_two_ints (I.ok.hd hc) fun h' tk k=>⟨_,H,I.kept k,?_,q⟩
 by_cases hj:j > i
 ·rw [if_pos hj,if_pos hj];exact ⟨_,rfl⟩
 ·rw [if_neg hj,if_neg hj];exact ⟨_,rfl⟩
theorem pA (hc:X.calm=true):cg X (.builtin "min") (fun xs H Q=>∃i j,xs=[.int i,.int j]/\Q (.int (if j < i then j else i)) H):=by
 intro pins s σ H xs us Q I r h
 obtain ⟨i,j,rfl,q⟩:=h
 obtain ⟨u,w',rfl,⟨t,rfl⟩,⟨t',rfl⟩⟩:=vals2 r
 refine min_two_ints (I.ok.hd hc) fun h' tk k=>⟨_,H,I.kept k,?_,q⟩
 by_cases hj:j < i
 ·rw [if_pos hj,if_pos hj];exact ⟨_,rfl⟩
 ·rw [if_neg hj,if_neg hj];exact ⟨_,rfl⟩
end
end L2
namespace L2
open PySem PySem.Spec PyProof.Rows
structure ObjM (h:Heap) (x dx C:Addr) (mA:Str->Option FU):Prop where
 obj:h.get? x=some (K7 C dx)
 ns:h.Ns1 dx mA
 ne:dx≠x
theorem pB {h:Heap} {dx:Addr} {mA:Str->Option FU} (n:h.Ns1 dx mA):∃od,h.get? dx=some od/\∀name,LH name od=some (mA name):=by
 obtain ⟨o,es,ep,ho,hd,hk,_,hm⟩:=n
 refine ⟨o,ho,fun name=>?_⟩
 have e:=hm name
 unfold nsFind findBy at e
 rw [<- Array.find?_toList] at e
 unfold LH
 rw [hd]
 dsimp only
 split
 ·rename_i y q
  rw [q] at e
  exact congrArg some e
 ·rename_i q
  rw [q] at e
  have a:es.toList.any (·.refKey)=false:=by
   rw [List.any_eq_false]
   intro y hy
   obtain ⟨z,t,hkey⟩:=hk y (Array.mem_toList_iff.mp hy)
   simp [DictEntry.refKey,hkey]
  have a':¬ es.toList.any (·.refKey)=true:=by rw [a];exact F4
  rw [if_neg a']
  exact congrArg some e
theorem ObjM.look {h:Heap} {x dx C:Addr} {mA:Str->Option FU} (I:ObjM h x dx C mA):∃od,PySem.W.InstAt h x (K7 C dx) C (some od)/\∀name,LH name od=some (mA name):=
 let ⟨od,ho,hl⟩:=pB I.ns
 ⟨od,⟨I.obj,rfl,rfl,ho⟩,hl⟩
section
variable {P:GD} {w:Hg} {H H':Hp} {h h':Heap} {a C dx:Addr} {fs fs':List (Str×V)}
theorem uR (hok:HOk P w H h) (e:H a=some (.ins C dx fs)):∃mA,ObjM h a dx C mA/\(∀f,RelO (fs.lookup f) (mA f))/\PySem.Within mA (fs.map (·.1))/\fs.length<=1000/\H dx=some (.own a):=by
 obtain ⟨d,z,ne,ob,mA,n,r,q⟩:=(show br P w H h a (.ins C dx fs) from hok a _ e)
 exact ⟨mA,⟨ob,n,ne⟩,r,q,z,d⟩
end
structure Cls (K:FO) (C:Addr):Prop where
 pg:PySem.W.plainGet K C Str.empty=true
 hd:PySem.W.hasDictIn K C=true
 po:PySem.W.plainOver K C=true
 sa:PySem.W.findIn K (.ref C) "__setattr__"=some (some (.builtin "object.__setattr__"))
theorem Cls.get {K:FO} {C:Addr} (c:Cls K C) (f:Str):PySem.W.plainGet K C f=true:=c.pg
section
variable {X:Cx} {pins:List (Addr×Obj)} {σ:St} {H:Hp} {s:FW} {A:Ho} {E:FU->FW->Prop} {Q:FU->FW->Prop} {c:FU} {b:Bool}
inductive gG (K:FO) (H:Hp):V->FU->Prop where
 | non:gG K H .non (.type "NoneType")
 | bl (x:Bool):gG K H (.bl x) (.type "bool")
 | int (i:Int):gG K H (.int i) (.type "int")
 | str (x:Str):gG K H (.str x) (.type "str")
 | flt (x:UInt64):gG K H (.flt x) (.type "float")
 | lst {a:Addr} {xs:List V} (e:H a=some (.lst xs)):gG K H (.ref a) (.type "list")
 | frz {a:Addr} {o:Obj} {xs:List V} (e:H a=some (.frz o (.lst xs))):gG K H (.ref a) (.type "list")
 | tup {a:Addr} {xs:List V} (e:H a=some (.tup xs)):gG K H (.ref a) (.type "tuple")
 | dK {a:Addr} {kvs:List (Key×V)} (e:H a=some (.dK kvs)):gG K H (.ref a) (.type "dict")
 | dT {a:Addr} {kvs:List (List Key×V)} (e:H a=some (.dT kvs)):gG K H (.ref a) (.type "dict")
 | ins {a C dx:Addr} {fs:List (Str×V)} (e:H a=some (.ins C dx fs)) (cl:Cls K C) (ha:PySem.W.findIn K (.ref C) "__class__"=some (some (.builtin "object.__class__")))
   (hn:PySem.W.specialIn K (.builtin "object.__class__") "__get__"=some (some (.builtin "getset_descriptor.__get__"))) (htk:PySem.W.takesIn K (.builtin "object.__class__")=some true)
   (hm:PySem.W.mroIn K C (.type "object")=some true):gG K H (.ref a) (.ref C)
theorem cP {x:V} {u t:FU} (I:Inv X pins σ H s) (rx:RelV x u) (ty:gG X.K H x t) (e:Ha X.K t c=some b) (h:∀tk,Q (.bool b) { s with toks:=tk }) :
  GU (GM X.prog X.w) A (call (.builtin "isinstance") [u,c]) Q E s:=by
 cases ty with
 | non=>cases (show u=Hh from rx);exact G8 PySem.W.kitx_none I.kIn JS e (fun z=>nomatch z) h
 | bl y=>cases (show u=Lv y from rx);exact G8 PySem.W.kitx_bool I.kIn JS e (fun z=>nomatch z) h
 | int i=>obtain ⟨t,q⟩:=(show ∃t,u=K5 i t from rx);cases q;exact G8 PySem.W.kitx_int I.kIn JS e (fun z=>nomatch z) h
 | str y=>obtain ⟨t,q⟩:=(show ∃t,u=MG y t from rx);cases q;exact G8 PySem.W.kitx_str I.kIn JS e (fun z=>nomatch z) h
 | flt y=>obtain ⟨t,q⟩:=(show ∃t,u=Value.float y t from rx);cases q;exact G8 PySem.W.kitx_float I.kIn JS e (fun z=>nomatch z) h
 | @lst a xs ea=>
  cases (show u=G0 a from rx)
  obtain ⟨_,_,n,_,h1⟩:=(show br X.prog X.w H s.heap a (.lst xs) from I.hok a _ ea)
  exact G8 Kt I.kIn ⟨_,h1,rfl⟩ e (fun z=>nomatch z) h
 | @frz a ob xs ea=>
  cases (show u=G0 a from rx)
  obtain ⟨_,_,_,n,_,h1⟩:=(show br X.prog X.w H s.heap a (.frz ob (.lst xs)) from I.hok a _ ea)
  exact G8 Kt I.kIn ⟨_,h1,rfl⟩ e (fun z=>nomatch z) h
 | @tup a xs ea=>
  cases (show u=G0 a from rx)
  obtain ⟨_,_,_,p⟩:=(show br X.prog X.w H s.heap a (.tup xs) from I.hok a _ ea)
  obtain ⟨o,h1,h2,_⟩:=p
  exact G8 L3 I.kIn ⟨o,h1,h2⟩ e (fun z=>nomatch z) h
 | @dK a kvs ea=>
  cases (show u=G0 a from rx)
  obtain ⟨_,_,vs,_,p⟩:=(show br X.prog X.w H s.heap a (.dK kvs) from I.hok a _ ea)
  obtain ⟨o,es,ep,h1,h2,_⟩:=p
  exact G8 Ku I.kIn ⟨o,h1,h2.1⟩ e (fun z=>nomatch z) h
 | @dT a kvs ea=>
  cases (show u=G0 a from rx)
  obtain ⟨_,_,xs,_,o,es,ep,h1,h2,_⟩:=(show br X.prog X.w H s.heap a (.dT kvs) from I.hok a _ ea)
  exact G8 Ku I.kIn ⟨o,h1,h2.1⟩ e (fun z=>nomatch z) h
 | @ins a C dx fs ea cl ha hn htk hm=>
  cases (show u=G0 a from rx)
  obtain ⟨mA,O,_⟩:=uR I.hok ea
  obtain ⟨od,J,_⟩:=O.look
  exact G8 (PySem.W.kitx_own (cl.get _) cl.hd ha hn htk hm) I.kIn J e (fun z=>nomatch z) h
end
end L2
namespace L2
open PySem PySem.Spec PyProof.Rows
structure bV (k:Nat) (A:Ho):Prop where
 hd:A.handled=none
 dp:A.depth+3*k+5 < recursionLimit
 un:A.units+16*k+200 < KG
 gd:A.guards=some []
theorem bV.mono {j k:Nat} {A:Ho} (r:bV k A) (h:j<=k):bV j A:=⟨r.hd,by have:=r.dp;omega,by have:=r.un;omega,r.gd⟩
theorem bV.deeper {k:Nat} {A:Ho} (r:bV (k+1) A) (env:Env):bV k (A.deeper env):=
 ⟨r.hd,by have:=r.dp;show A.depth+1+3*k+5 < _;omega,by have:=r.un;show A.units+3+16*k+200 < _;omega,r.gd⟩
theorem bV.depth {k:Nat} {A:Ho} (r:bV k A):A.depth < recursionLimit:=by have:=r.dp;omega
theorem bV.units {k:Nat} {A:Ho} (r:bV k A):A.units+64 < KG:=by have:=r.un;omega
theorem bV.units0 {k:Nat} {A:Ho} (r:bV k A):A.units < KG:=by have:=r.un;omega
def i7:TA:=fun _ H Q=>Q [] H
def dX (ta:TE) (tr:TA):TA:=fun σ H Q=>ta σ H fun x H1=>tr σ H1 fun xs H2=>Q (x::xs) H2
section
variable {X:Cx} {e:Expr} {es:List Expr} {te:TE} {t:TA} {pos:Pos}
theorem fx:PA X [] i7:=fun _ _ _ _ H Q I h=>Mf ⟨[],H,I,.nil,h⟩
theorem cL (ha:PE X e te) (hr:PA X es t) (hs:Gi (e::es) X.env=(false,eval e X.env)::Gi es X.env:=by rfl):PA X (e::es) (dX te t):=by
 intro pos pins s σ H Q I h
 rw [hs]
 show GU _ _ (spliced ((false,eval e X.env)::IV pos (Gi es X.env))) _ _ s
 refine L4 (thn (ha pins s σ H _ I h) fun u s1 zr1=>?_)
 obtain ⟨x,H1,I1,r1,q1⟩:=zr1
 exact thn (hr pos pins s1 σ H1 _ I1 q1) fun us s2 zt1=>by obtain ⟨xs,H2,I2,r2,q2⟩:=zt1;exact ⟨x::xs,H2,I2,.cons r1 r2,q2⟩
def CT (t:TA):TE:=fun σ H Q=>t σ H fun xs H1=>xs.length<=GG/\∀p,H1 p=none->Q (.ref p) (upd H1 p (.tup xs))
def CU (t:TA):TE:=fun σ H Q=>t σ H fun xs H1=>xs.length<=GG/\∀p,H1 p=none->Q (.ref p) (upd H1 p (.lst xs))
theorem Ag {x1} (h:PA X es t):PE X (.Tuple es x1 pos) (CT t):=by
 intro pins s σ H Q I hq
 refine wpAny_Tuple_spliced (thn (h pos pins s σ H _ I hq) fun us s1 ⟨xs,H1,I1,r,z,q⟩=>⟨by rw [<- r.length];exact z,?_⟩)
 have hf:H1 s1.heap.objs.size=none:=I1.hok.fresh (FX _)
 refine ⟨.ref s1.heap.objs.size,upd H1 s1.heap.objs.size (.tup xs),I1.laid (t':=s1.toks) (fun b u e=>FT _ e) (FX _) ?_,rfl,q _ hf⟩
 exact ⟨z,us,r,⟨_,Gn _ rfl,rfl,_,rfl⟩⟩
theorem Ah (h:PA X es t):PE X (.List es pos) (CU t):=by
 intro pins s σ H Q I hq
 refine wpAny_List_spliced (thn (h pos pins s σ H _ I hq) fun us s1 ⟨xs,H1,I1,r,z,q⟩=>⟨by rw [<- r.length];exact z,?_⟩)
 have hf:H1 s1.heap.objs.size=none:=I1.hok.fresh (FX _)
 refine ⟨.ref s1.heap.objs.size,upd H1 s1.heap.objs.size (.lst xs),I1.laid (t':=s1.toks) (fun b u e=>FT _ e) (FX _) ?_,rfl,q _ hf⟩
 exact ⟨z,us,0,r,Gn _ rfl⟩
end
abbrev Sp:=List V->Hp->VK->XK->Prop
abbrev CXT:=List Env->Hp->FW->XK->FU->FW->Prop
structure Env0 (P:GD) (w:Hg) (K:FO) (mg:Str->Option FU) (base:Heap) (A:Ho) (outer:List Env) (s:FW) (H:Hp):Prop where
 frames:A.frames=some outer
 mod:Mod K mg base
 bs:∀b o,base.get? b=some o->s.heap.get? b=some o/\H b=none
 bsz:base.objs.size<=s.heap.objs.size
 funs:s.heap.FunFrames base outer
 frf:∀b∈frs outer,H b=none
 hok:HOk P w H s.heap
 bare:Kk s.gens
def CE (outer:List Env) (P:GD) (w:Hg) (H:Hp) (s:FW) (Q:VK) (u:FU) (s':FW):Prop:=
 ∃v H',s'.os=s.os/\Kk s'.gens/\Un (frs outer) [] H H' s.heap s'.heap/\HOk P w H' s'.heap/\RelV v u/\Q v H'
def CR (CX:CXT) (outer:List Env) (P:GD) (w:Hg) (H:Hp) (s:FW) (Q:VK) (E:XK) (r:Result) (s':FW):Prop:=
 match r with
 | .ok (.ret u)=>CE outer P w H s Q u s'
 | .ok _=>False
 | .error e=>CX outer H s E e s'
structure gH (P:GD) (w:Hg) (K:FO) (mg:Str->Option FU) (base:Heap) (CX:CXT) (k:Nat) (f:Addr) (fd:IB) (ps:List Str) (sp:Sp):Prop where
 len:∀vs H Q E,sp vs H Q E->vs.length=ps.length
 run:∀(A:Ho) (outer:List Env) (s:FW) (H:Hp) (args:Args) (us:List FU) (vs:List V) (Q:VK) (E:XK),bV k A->Env0 P w K mg base A outer s H->Mg s fd args (ps.zip us)->Vals vs us->sp vs H Q E ->
  IK (GM P w) A (.call (.ref f) args) (CR CX outer P w H s Q E) s
section
variable {X:Cx} {pins:List (Addr×Obj)} {σ:St} {H:Hp} {s s':FW}
theorem Inv.env0 (I:Inv X pins σ H s):Env0 X.prog X.w X.K X.mg X.base X.A X.stack s H:=
 ⟨I.ok.frames,I.ok.mod,I.bs,Hr I.ok.bsz I.sz,I.stack,I.stkFree,I.hok,I.bare⟩
theorem Inv.after {Q:VK} {u:FU} (I:Inv X pins σ H s) (h:CE X.stack X.prog X.w H s Q u s'):EP X pins σ Q u s':=by
 obtain ⟨v,H',os,bare,un,hok,r,q⟩:=h
 obtain ⟨hh,g,d,t,os'⟩:=s'
 obtain rfl:os'=s.os:=os
 exact ⟨v,H',I.call (h':=hh) (g':=g) (d':=d) (t':=t) (ch:=[]) un hok bare (fun b z=>absurd z (by simp)),r,q⟩
end
def h9 (sp:Sp) (dvs:List V) (E:XK) (t:TA):TE:=fun σ H Q=>t σ H fun vs H1=>sp (vs++dvs) H1 Q E
def Binds (K:FO) (fd:IB) (ps:List Str) (ds:List FU):Prop:=
 ∀(s:FW) (us:List FU),K.In s.heap->(us++ds).length=ps.length->Mg s fd ⟨us,[]⟩ (ps.zip (us++ds))
theorem Binds.all {K:FO} {fd:IB} {ps:List Str} (h:∀us:List FU,us.length=ps.length->Lw fd ⟨us,[]⟩=pure (ps.zip us)):Binds K fd ps []:=fun s us _ hl=>by
 rw [Hy] at hl ⊢
 exact .of_eq (h us hl)
def mK (CX:CXT) (X:Cx) (E:XK):Prop:=∀(pins:List (Addr×Obj)) (σ:St) (H:Hp) (s:FW) (e:FU) (s':FW),Inv X pins σ H s->CX X.stack H s E e s'->X.xe e s'
section
variable {X:Cx} {CX:CXT} {k:Nat} {f C:Addr} {fd:IB} {ps:List Str} {sp:Sp} {dvs:List V} {ds:List FU} {E:XK} {x m:Str} {p pos apos:Pos} {e o:Expr} {es:List Expr} {ta:TE} {t:TA}
theorem Ai {pins:List (Addr×Obj)} {σ:St} {H:Hp} {s:FW} {Q:VK} {us:List FU} {vs:List V} (F:gH X.prog X.w X.K X.mg X.base CX k f fd ps sp) (hr:bV k X.A) (hb:Binds X.K fd ps ds) (hd:Vals dvs ds) (hx:mK CX X E)
  (I:Inv X pins σ H s) (r:Vals vs us) (h:sp (vs++dvs) H Q E):GU (GM X.prog X.w) X.A (call (.ref f) us) (EP X pins σ Q) X.xe s:=by
 have r2:Vals (vs++dvs) (us++ds):=r.append hd
 have hl:(us++ds).length=ps.length:=by rw [<- r2.length];exact F.len _ _ _ _ h
 refine Mh (Kc (F.run X.A X.stack s H ⟨us,[]⟩ (us++ds) (vs++dvs) Q E hr I.env0 (hb s us I.kIn hl) r2 h) fun r s' hq=>?_)
 cases r with
 | error e=>exact hx pins σ H s e s' I hq
 | ok fl=>
  cases fl with
  | ret u=>exact I.after hq
  | next=>exact IS hq
  | brk=>exact IS hq
  | cont=>exact IS hq
theorem nN (F:gH X.prog X.w X.K X.mg X.base CX k f fd ps sp) (hr:bV k X.A) (hg:Gl X x) (hm:X.mg x=some (.ref f)) (hk:IJ X.K (.ref f)=true) (hb:Binds X.K fd ps ds) (hd:Vals dvs ds) (hx:mK CX X E)
  (ha:PA X (e::es) t) (hdb:(x==("__debug__":Str))=false:=by decide) (he:Gi (e::es) X.env=(false,eval e X.env)::Gi es X.env:=by rfl) (hpl:(IV pos (Gi es X.env)).any (·.1)=false:=by rfl) :
  PE X (.Call (.Name x p) (e::es) [] pos) (h9 sp dvs E t):=by
 intro pins s σ H Q I h
 refine Jl (fH I hg hm ?_ hdb)
 refine L5 (h₀:=X.base) I.ok.mod.kin hk (thn (ha pos pins s σ H _ I h) fun us s1 ⟨vs,H1,I1,r,q⟩=>⟨I1.kIn,?_⟩) he hpl
 exact Ai F hr hb hd hx I1 r q
end
structure aC (N P:List Str) (sc:IR):Prop where
 kind:sc.kind=.function
 co:sc.isCoroutine=false
 gen:sc.isGenerator=false
 nd:N.Nodup
 pre:N.take P.length=P
 par:∀x∈P,sc.names.lookup x=some .local\/sc.names.lookup x=some .cell
 nofree:∀y∈sc.names,y.2≠.free
theorem je {kindOf:Str->Option Ik} {x:Str}:∀{binds:List (Str×FU)} {m:Str->Option FU},(∀v,(x,v)∉binds)->Nd kindOf binds m x=m x
 | [],_,_=>rfl
 | (n,v)::r,m,h=>by
  unfold Nd
  rw [je fun w hw=>h w (GB _ hw)]
  split
  ·have:x≠n:=by rintro rfl;exact h v FZ
   simp [this]
  ·rfl
theorem jf {kindOf:Str->Option Ik} {x:Str}:∀{binds:List (Str×FU)} {m:Str->Option FU},(∀v,(x,v)∉binds)->Nf kindOf binds m x=m x
 | [],_,_=>rfl
 | (n,v)::r,m,h=>by
  unfold Nf
  rw [jf fun w hw=>h w (GB _ hw)]
  split
  ·rfl
  ·have:x≠n:=by rintro rfl;exact h v FZ
   simp [this]
theorem jg {kindOf:Str->Option Ik} {x:Str} {v:FU}:∀{P:List Str} {vs:List FU} {i:Nat} {m:Str->Option FU},P.Nodup->P[i]?=some x->vs[i]?=some v->kindOf x=some .local ->
  Nd kindOf (P.zip vs) m x=some v
 | [],_,_,_,_,h,_,_=>by simp at h
 | _::_,[],_,_,_,_,h,_=>by simp at h
 | p::P,w::vs,0,m,nd,h1,h2,hk=>by
  simp at h1 h2;subst h1;subst h2
  show Nd kindOf ((p,w)::P.zip vs) m p=_
  unfold Nd
  rw [je fun v hv=>(List.nodup_cons.mp nd).1 (La hv).1,if_pos hk]
  simp
 | p::P,w::vs,i+1,m,nd,h1,h2,hk=>by
  show Nd kindOf ((p,w)::P.zip vs) m x=_
  unfold Nd
  exact jg (i:=i) (List.nodup_cons.mp nd).2 (by simpa using h1) (by simpa using h2) hk
theorem jh {kindOf:Str->Option Ik} {x:Str} {v:FU}:∀{P:List Str} {vs:List FU} {i:Nat} {m:Str->Option FU},P.Nodup->P[i]?=some x->vs[i]?=some v->kindOf x≠some .local ->
  Nf kindOf (P.zip vs) m x=some v
 | [],_,_,_,_,h,_,_=>by simp at h
 | _::_,[],_,_,_,_,h,_=>by simp at h
 | p::P,w::vs,0,m,nd,h1,h2,hk=>by
  simp at h1 h2;subst h1;subst h2
  show Nf kindOf ((p,w)::P.zip vs) m p=_
  unfold Nf
  rw [jf fun v hv=>(List.nodup_cons.mp nd).1 (La hv).1,if_neg hk]
  simp
 | p::P,w::vs,i+1,m,nd,h1,h2,hk=>by
  show Nf kindOf ((p,w)::P.zip vs) m x=_
  unfold Nf
  exact jh (i:=i) (List.nodup_cons.mp nd).2 (by simpa using h1) (by simpa using h2) hk
def start (N:List Str) (vs:List V):St:=vs.map some++Ga (N.length-vs.length) none
def gI (CX:CXT) (P:GD) (w:Hg) (K:FO) (mg:Str->Option FU) (base:Heap) (N:List Str) (qual:Str) (scope:IR) (f:Addr) (cd:FU) (A:Ho) (outer:List Env) (s:FW) (H:Hp) (E:XK):Cx where
 prog:=P
 w:=w
 K:=K
 mg:=mg
 base:=base
 A:=A.deeper (envOfC qual scope s.heap.objs.size f cd)
 N:=N
 s₀:=s
 H₀:=H
 env:=envOfC qual scope s.heap.objs.size f cd
 outer:=outer
 stack:=envOfC qual scope s.heap.objs.size f cd::outer
 ex:=[]
 calm:=true
 fn:=fun _=>true
 pn:=[]
 xe:=fun e s'=>GU (GM P w) (A.deeper (envOfC qual scope s.heap.objs.size f cd)) (leaving (envOfC qual scope s.heap.objs.size f cd) e) (fun _ s''=>CX outer H s E e s'') (fun e' s''=>CX outer H s E e' s'') s'
theorem kY {sc:IR} {n:Nat} {x:Str} (h:sc.names.lookup x=some .cell):∃c,(cellsFrom n sc.names []).lookup x=some c:=by
 have q:=K0 sc.names n [] (.inl h)
 exact Option.isSome_iff_exists.mp q
theorem pC {CX:CXT} {P:GD} {w:Hg} {K:FO} {mg:Str->Option FU} {base:Heap} {N ps:List Str} {qual:Str} {scope:IR} {f:Addr} {cd:FU} {A:Ho} {outer:List Env} {s s1:FW} {H:Hp} {E:XK} {us:List FU} {vs:List V}
  (S:aC N ps scope) (hd:A.handled=none) (e0:Env0 P w K mg base A outer s H) (hl:vs.length=ps.length) (r:Vals vs us)
  (x:InCallC s s.heap.objs.size (Nd (envOfC qual scope s.heap.objs.size f cd).kindOf (ps.zip us) fun _=>none) (cellsFrom (s.heap.objs.size+1) scope.names []) (Nf (envOfC qual scope s.heap.objs.size f cd).kindOf (ps.zip us) fun _=>none) s1) :
  Inv (gI CX P w K mg base N qual scope f cd A outer s H E) [] (start N vs) H s1:=by
 have hpl:ps.length<=N.length:=by have:=congrArg KH S.pre;rw [JG] at this;omega
 obtain ⟨h1,tk,rfl,hk⟩:=x.done
 have noA:∀b:Addr,b∉(gI CX P w K mg base N qual scope f cd A outer s H E).ex:=fun b z=>absurd (show b∈([]:List Addr) from z) (by simp)
 refine ⟨⟨e0.mod,S.kind,rfl,rfl,FX _,fun y z c h1 h2=>?_,fun y hy=>?_,fun y c _ h=>?_,fun _=>hd,Around.frames_deeper e0.frames,.inr ⟨rfl,rfl⟩,fun b z=>absurd z (noA b),e0.bs,e0.bsz,fun b _ _=>noA b,fun b z=>absurd z (noA b),e0.funs,e0.frf⟩,
  rfl,e0.bare,Un.kept hk,⟨_,x.toInCall.ns,fun i y v h1 h2 h3=>?_⟩,fun y c h=>⟨_,x.cell y c h⟩,e0.hok.fresh (FX _),fun y c h=>?_,fun p hp=>absurd (show p∈([]:List (Addr×Obj)) from hp) (by simp),e0.hok.kept hk,?_⟩
 ·exact name_of_addr x.apart (G4 h1) (G4 h2)
 ·have hy:scope.names.lookup y=some .cell\/scope.names.lookup y=some .free:=hy
  rcases hy with hy | hy
  ·exact kY hy
  ·exact absurd rfl (S.nofree _ (G4 hy))
 ·exact K8 (x.above y c (G4 h))
 ·have hi:i < vs.length:=by
   unfold start at h2
   by_cases hi:i < vs.length
   ·exact hi
   ·rw [Gz (by simpa using hi)] at h2
    rw [IC] at h2
    split at h2 <;> cases h2
  have ha:vs[i]?=some v:=by
   unfold start at h2
   rw [GJ (by simpa using hi),Gk] at h2
   cases e:vs[i]? with
   | none=>rw [e] at h2;cases h2
   | some a=>rw [e] at h2;cases h2;rfl
  obtain ⟨u,hu,rv⟩:=r.get ha
  have hp:ps[i]?=some y:=by
   rw [<- S.pre,List.getElem?_take_of_lt (by omega)];exact h1
  have ndP:ps.Nodup:=by rw [<- S.pre];exact S.nd.sublist (List.take_sublist _ _)
  refine ⟨u,rv,?_⟩
  rcases S.par y (He hp) with k | k
  ·exact .inl ⟨k,jg ndP hp hu k⟩
  ·obtain ⟨c,e⟩:=kY (n:=s.heap.objs.size+1) k
   refine .inr ⟨.inl k,c,e,?_⟩
   have q:=x.cell y c e
   rw [jh ndP hp hu (by show scope.names.lookup y≠_;rw [k];decide)] at q
   exact q
 ·exact e0.hok.fresh (K8 (x.above y c (G4 h)))
 ·unfold start
  show _=N.length
  rw [GV,FV,HP]
  omega
theorem yi {CX:CXT} {P:GD} {w:Hg} {K:FO} {mg:Str->Option FU} {base:Heap} {k:Nat} {f:Addr} {name qual:Str} {params:Arguments} {body:List Stmt} {scope:IR} {dV kV doc pm cdv ct oc:FU} {an od:Option Addr}
  {osl:Array (Option FU)} {N ps:List Str} {sp:Sp} (lk:K.lookup f=some ⟨oc,od,.func (HQ name qual params body scope dV kV doc pm an cdv ct),osl⟩) (hcd:Kl K cdv qual=true) (S:aC N ps scope)
  (len:∀vs H Q E,sp vs H Q E->vs.length=ps.length)
  (hbody:∀(A:Ho) (outer:List Env) (s:FW) (H:Hp) (vs:List V) (Q:VK) (E:XK),bV k (A.deeper (envOfC qual scope s.heap.objs.size f cdv))->sp vs H Q E ->
   ∃t,PSs (gI CX P w K mg base N qual scope f cdv A outer s H E) body t/\t { nx:=fun _ H'=>Q .non H',rt:=Q } (start N vs) H) :
  gH P w K mg base CX (k+1) f (HQ name qual params body scope dV kV doc pm an cdv ct) ps sp:=by
 refine ⟨len,fun A outer s H args us vs Q E hr e0 hb r hsp=>?_⟩
 have hl:=len _ _ _ _ hsp
 have KX:K.In s.heap:=e0.mod.kin.keeps fun b o e=>(e0.bs b o e).1
 have lim:s.heap.NoLimit:=e0.mod.nolimit.keeps fun b o e=>(e0.bs b o e).1
 have hkind:∀y∈ps.zip us,scope.names.lookup y.1=some .local\/(scope.names.lookup y.1=some .cell/\((cellsFrom (s.heap.objs.size+1) scope.names []).lookup y.1).isSome=true):=fun ⟨n,v⟩ hy=>by
  rcases S.par n (La hy).1 with q | q
  ·exact .inl q
  ·exact .inr ⟨q,K0 _ _ _ (.inl q)⟩
 refine codeAny_call_function hr.depth (KX _ _ lk) rfl S.co S.gen rfl (PySem.W.codeRec_of KX hcd) (hb _ _ _ _ ?_)
 refine wpAny_newFunctionEnv_cells S.kind hkind fun env he s1 x=>?_
 subst he
 refine ⟨lim.keeps x.toInCall.keep,codeAny_func ?_⟩
 obtain ⟨t,ht,hq⟩:=hbody A outer s H vs Q E (hr.deeper _) hsp
 have I:Inv (gI CX P w K mg base N qual scope f cdv A outer s H E) [] (start N vs) H s1:=pC S hr.hd e0 hl r x
 refine Gy (ht [] s1 (start N vs) H _ I hq) (fun fl s' hs=>?_) fun e s' hs=>hs
 have fin:∀{σ':St} {H':Hp} {v:V} {u:FU},Inv (gI CX P w K mg base N qual scope f cdv A outer s H E) [] σ' H' s'->RelV v u->Q v H'->CE outer P w H s Q u s':=
  fun {σ' H' v u} J rv q=>⟨v,H',J.os,J.bare,J.base,J.hok,rv,q⟩
 cases fl with
 | ret u=>
  obtain ⟨v,σ',H',J,rv,q⟩:=hs
  exact fin J rv q
 | next=>
  obtain ⟨σ',H',J,q⟩:=hs
  exact fin (v:=V.non) (u:=Hh) J rfl q
 | brk=>
  obtain ⟨_,_,_,q⟩:=hs
  exact IS q
 | cont=>
  obtain ⟨_,_,_,q⟩:=hs
  exact IS q
end L2
namespace L2
open PySem PySem.Spec PyProof.Rows
section
variable {X:Cx} {x:Str} {p pos:Pos} {e:Expr} {es:List Expr} {t:TA} {id T:String} {r:List V->Hp->VK->Prop}
def tCB (r:List V->Hp->VK->Prop) (t:TA):TE:=fun σ H Q=>t σ H fun vs H1=>r vs H1 Q
theorem fI (hc:cg X (.builtin id) r) (hg:Gl X x) (hm:X.mg x=none) (hv:G2 x=some (.builtin id)) (ha:PA X (e::es) t) (hn:x≠"__name__":=by decide) (hdb:(x==("__debug__":Str))=false:=by decide)
  (he:Gi (e::es) X.env=(false,eval e X.env)::Gi es X.env:=by rfl) (hpl:(IV pos (Gi es X.env)).any (·.1)=false:=by rfl):PE X (.Call (.Name x p) (e::es) [] pos) (tCB r t):=by
 intro pins s σ H Q I h
 refine Jl (d7 I hg hm hv ?_ hn hdb)
 exact PyProof.Rows.callWith_builtin1 (thn (ha pos pins s σ H _ I h) fun us s1 zt1=>by obtain ⟨vs,H1,I1,r1,q1⟩:=zt1;exact hc pins s1 σ H1 vs us Q I1 r1 q1) he hpl
theorem du (hc:cg X (.type T) r) (hg:Gl X x) (hm:X.mg x=none) (hv:G2 x=some (.type T)) (ha:PA X (e::es) t) (hn:x≠"__name__":=by decide) (hdb:(x==("__debug__":Str))=false:=by decide)
  (he:Gi (e::es) X.env=(false,eval e X.env)::Gi es X.env:=by rfl) (hpl:(IV pos (Gi es X.env)).any (·.1)=false:=by rfl):PE X (.Call (.Name x p) (e::es) [] pos) (tCB r t):=by
 intro pins s σ H Q I h
 refine Jl (d7 I hg hm hv ?_ hn hdb)
 exact Hs (thn (ha pos pins s σ H _ I h) fun us s1 zt1=>by obtain ⟨vs,H1,I1,r1,q1⟩:=zt1;exact hc pins s1 σ H1 vs us Q I1 r1 q1) he hpl
end
end L2
namespace HT
open PySem PyProof.Rows
def lexLt:List Int->List Int->Bool
 | [],[]=>false
 | [],_::_=>true
 | _::_,[]=>false
 | x::xs,y::ys=>if x=y then lexLt xs ys else decide (x < y)
theorem cj (x y:Int) (xs ys:List Int):lexLt (x::xs) (y::ys)=if x=y then lexLt xs ys else decide (x < y):=rfl
theorem fh:lexLt [] []=false:=rfl
theorem ig (y:Int) (ys:List Int):lexLt [] (y::ys)=true:=rfl
theorem ij (x:Int) (xs:List Int):lexLt (x::xs) []=false:=rfl
theorem qM (A:Ho) (s:FW) (a:Int) (t:Tok) (c:Int) (u:Tok):∃e,SeqAt.EqAt A s (.int a t) (.int c u) e/\(e=true↔a=c):=
 ⟨(a==c),L6 a t c u,by simp⟩
theorem qN (A:Ho) (s:FW) (a:Int) (t:Tok) (c:Int) (u:Tok) (prog:GD) (w:Hg) (E:FU->FW->Prop) (Q:FU->FW->Prop) (h:Q (.bool (decide (a < c))) s) :
  GU (GM prog w) A (richCompare .Lt (.int a t) (.int c u)) Q E s:=
 (PyProof.Rows.lt_int h:GU (GM prog w) A (Hx .Lt (.int a t) (.int c u)) Q E s)
section
open PySem.SeqAt
open PySem.AutoSeq1 (wpAny_loadPart')
open PySem.MeetsSeq PySem.MeetsSeq2 PySem.MeetsSeq3
theorem i8 (l b:Addr) (items items2:Array FU) (n n2:Nat) (dd dd2:Option Addr) (sl sl2:Array (Option FU)) (ns ms:List Int) (hi:Jm items.toList ns) (hj:Jm items2.toList ms) :
  Meets (Builtin.«tuple.__lt__» ⟨[.ref l,.ref b],[]⟩)
   (fun _ R s=>s.heap.get? l=some { cls:=.type "tuple",dict:=dd,data:=.seq items n,slots:=sl }/\s.heap.get? b=some { cls:=.type "tuple",dict:=dd2,data:=.seq items2 n2,slots:=sl2 } /\
    R (.ok (.ret (.bool (lexLt ns ms)))) s):=
 .of_wp fun prog w A R s h=>by
  obtain ⟨hp,g,d,tk,os⟩:=s;obtain ⟨hl,hb,h⟩:=h
  have f2:=AutoSeq1.sub_tuple_tuple
  have z1:items.size=ns.length:=by rw [<- hi.length];simp
  have z2:items2.size=ms.length:=by rw [<- hj.length];simp
  wp_walk using wpAny_loadPart' hl,wpAny_loadPart' hb,wpAny_forIn_list _ (fun rest b s'=>b.1=none/\s'=⟨hp,g,d,tk,os⟩/\∃(vs ws:List FU) (ns' ms':List Int),rest=vs.zip ws /\
   Jm vs ns'/\Jm ws ms'/\ns'.length+items2.size=ms'.length+items.size/\R (.ok (.ret (.bool (lexLt ns' ms')))) ⟨hp,g,d,tk,os⟩) _
  case turn=>
   rintro ⟨y,x⟩ rest b s' ⟨hb',rfl,vs,ws,ns',ms',hz,hvi,hwi,hlen,hR⟩
   cases hvi with
   | nil=>rw [List.zip_nil_left] at hz;cases hz
   | cons a t hvi'=>
    cases hwi with
    | nil=>rw [List.zip_nil_right] at hz;cases hz
    | cons c u hwi'=>
     rw [Ke] at hz
     injection hz with hyx hrest
     injection hyx with hy hx
     subst hy hx
     rw [cj] at hR
     simp only [Hf] at hlen
     obtain ⟨e,he,hiff⟩:=qM A.in1 ⟨hp,g,d,tk,os⟩ a t c u
     refine FR (he prog w _ _ ?_)
     cases e with
     | true=>
      rw [if_pos (hiff.mp rfl)] at hR
      wp_walk
      exact ⟨rfl,rfl,_,_,_,_,hrest,hvi',hwi',by omega,hR⟩
     | false=>
      rw [if_neg (fun q=>absurd (hiff.mpr q) F4)] at hR
      have hri:=qN A.in1 ⟨hp,g,d,tk,os⟩ a t c u prog w
      wp_walk using hri
      exact ⟨_,rfl,by simpa using hR⟩
  case fin=>
   rintro ⟨b1,b2⟩ s' ⟨hb',rfl,vs,ws,ns',ms',hz,hvi,hwi,hlen,hR⟩
   simp only at hb'
   subst hb'
   have hv:lexLt ns' ms'=decide (items.size < items2.size):=by
    cases hvi with
    | nil=>
     cases hwi with
     | nil=>
      simp only [Iw] at hlen
      rw [fh]
      exact (decide_eq_false (by omega)).symm
     | cons c u hw=>
      simp only [Iw,Hf] at hlen
      rw [ig]
      exact (decide_eq_true (by omega)).symm
    | cons a t hv=>
     cases hwi with
     | nil=>
      simp only [Iw,Hf] at hlen
      rw [ij]
      exact (decide_eq_false (by omega)).symm
     | cons c u hw=>
      rw [Ke] at hz
      cases hz
   rw [hv] at hR
   wp_walk
   exact ⟨_,rfl,by simpa [Builtin.Tuple.tupleCompareSizes] using hR⟩
  case h=>
   exact ⟨rfl,rfl,items.toList,items2.toList,ns,ms,rfl,hi,hj,by omega,h⟩
end
section
variable {prog:GD} {w:Hg} {A:Ho} {E:FU->FW->Prop} {s:FW}
theorem mL {l b:Addr} {items items2:Array FU} {ns ms:List Int} {Q:FU->FW->Prop} (hl:IsTup s.heap l items) (hb:IsTup s.heap b items2) (hi:Jm items.toList ns) (hj:Jm items2.toList ms)
  (hu:A.units < KG) (h:Q (.bool (lexLt ns ms)) s):GU (GM prog w) A (Hx .Lt (.ref l) (.ref b)) Q E s:=by
 obtain ⟨⟨cls,dd,data,sl⟩,ho,hc,n,hd⟩:=id hl
 obtain ⟨⟨cls2,dd2,data2,sl2⟩,ho2,hc2,n2,hd2⟩:=id hb
 simp only at hc hd hc2 hd2
 subst hc hd hc2 hd2
 exact richCompare_meets_room (op:=.Lt) ⟨_,ho,rfl⟩ ⟨_,ho2,rfl⟩ PySem.F.slot_tuple_lt PySem.F.entry_tuple_lt (PySem.F.args_tuple_lt_2 _ _) (i8 l b items items2 n n2 dd dd2 sl sl2 ns ms hi hj)
  ⟨ho,ho2,show Lv (lexLt ns ms)≠Value.notImplemented/\Q (.bool (lexLt ns ms)) s from ⟨(fun x=>nomatch x),h⟩⟩ hu
end
end HT
namespace L2
open PySem PySem.Spec PyProof.Rows
theorem intsAre_of {ns:List Int}:∀{us:List FU},Vals (ns.map V.int) us->Jm us ns:=by
 induction ns with
 | nil=>intro us r;rw [G3] at r;cases r;exact .nil
 | cons n ns ih=>
  intro us r
  rw [Gq] at r
  cases r with
  | cons r1 r2=>
   obtain ⟨t,e⟩:=r1
   subst e
   exact .cons n t (ih r2)
section
variable {X:Cx} {e:Expr} {te:TE} {lo hi:Option Expr} {tl th:TO} {pos p2:Pos}
def CV (K:FO):R2:=fun x y H Q=>∃a b ns ms,x=.ref a/\y=.ref b/\SqT K H a (ns.map V.int)/\SqT K H b (ms.map V.int)/\Q (.bl (HT.lexLt ns ms)) H
theorem Aj (hu:X.A.units < KG):OpR X (Hx .Lt) (CV X.K):=by
 intro pins s σ H x y v u Q I rx ry h
 obtain ⟨a,b,ns,ms,rfl,rfl,ha,hb,q⟩:=h
 cases rx
 cases ry
 obtain ⟨its,r1,p1,_⟩:=I.tuple ha
 obtain ⟨its2,r2,p2,_⟩:=I.tuple hb
 have i1:Jm its.toArray.toList ns:=intsAre_of r1
 have i2:Jm its2.toArray.toList ms:=intsAre_of r2
 exact HT.mL p1 p2 i1 i2 hu ⟨.bl (HT.lexLt ns ms),H,I,rfl,q⟩
end
end L2
namespace L2
open PySem PySem.Spec PyProof.Rows
def ixN (n:Nat) (i:Int):Option Nat:=if 0<=i then (if i < n then some i.toNat else none) else if -(n:Int)<=i then some (i+n).toNat else none
def atI {α:Type} (xs:List α) (i:Int):Option α:=(ixN xs.length i).bind fun j=>xs[j]?
theorem nO {n:Nat} {i:Int} {j:Nat} (h:ixN n i=some j):seqIndex? i n=some j/\j < n/\-(n:Int)<=i/\i < n:=by
 unfold ixN at h
 by_cases h0:0<=i
 ·rw [if_pos h0] at h
  by_cases h1:i < n
  ·rw [if_pos h1] at h
   have e:i.toNat=j:=Gx h
   exact ⟨by rw [ML h0 h1,e],by omega,by omega,h1⟩
  ·rw [if_neg h1] at h;cases h
 ·rw [if_neg h0] at h
  by_cases h1:-(n:Int)<=i
  ·rw [if_pos h1] at h
   have e:(i+n).toNat=j:=Gx h
   exact ⟨by rw [MB (by omega) h1,e],by omega,h1,by omega⟩
  ·rw [if_neg h1] at h;cases h
theorem jT {α:Type} {xs:List α} {i:Int} {v:α} (h:atI xs i=some v):∃j,seqIndex? i xs.length=some j/\xs[j]?=some v/\j < xs.length/\-(xs.length:Int)<=i/\i < xs.length:=by
 unfold atI at h
 cases e:ixN xs.length i with
 | none=>rw [e] at h;cases h
 | some j=>
  rw [e] at h
  obtain ⟨h1,h2,h3,h4⟩:=nO e
  exact ⟨j,h1,h,h2,h3,h4⟩
theorem fJ {α:Type} {xs:List α} {j:Nat} {v:α} (h:xs[j]?=some v):atI xs (j:Int)=some v:=by
 have hj:j < xs.length:=(List.getElem?_eq_some_iff.mp h).1
 have e:ixN xs.length (j:Int)=some j:=by
  unfold ixN
  rw [if_pos (by omega),if_pos (by omega)];simp
 unfold atI;rw [e];exact h
def fK (b:Expr):Prop:=∀o i,subscripted b false o i=operate [o,i] (getItem o i)
def IxR (X:Cx) (r:R2):Prop:=
 ∀(value slice:Expr) (pins:List (Addr×Obj)) (s:FW) (σ:St) (H:Hp) (x y:V) (v u:FU) (Q:VK),Inv X pins σ H s->RelV x v->RelV y u->r x y H Q ->
  subscripted slice false v u=operate [v,u] (getItem v u)->GU (GM X.prog X.w) X.A (subscriptTail value slice v u) (EP X pins σ Q) X.xe s
def MtR (X:Cx) (id:String) (r:V->List V->Hp->VK->Prop):Prop:=
 ∀(pins:List (Addr×Obj)) (s:FW) (σ:St) (H:Hp) (x:V) (xs:List V) (v:FU) (us:List FU) (Q:VK),Inv X pins σ H s->RelV x v->Vals xs us->r x xs H Q ->
  GU (GM X.prog X.w) X.A (call (.builtin id) (v::us)) (EP X pins σ Q) X.xe s
section
variable {X:Cx} {a b:Expr} {ta tb:TE} {pos:Pos}
theorem IxR.or {r r':R2} (h:IxR X r) (h':IxR X r'):IxR X (fun x y H Q=>r x y H Q\/r' x y H Q):=by
 intro value slice pins s σ H x y v u Q I rx ry q hs
 rcases q with q | q
 ·exact h value slice pins s σ H x y v u Q I rx ry q hs
 ·exact h' value slice pins s σ H x y v u Q I rx ry q hs
theorem lg {r:R2} (hr:IxR X r) (ha:PE X a ta) (hb:PE X b tb) (hs:fK b):PE X (.Subscript a b pos) (tOp r ta tb):=by
 intro pins s σ H Q I h
 exact Subscript_ (Ac ha hb I h fun v u s2 x y H2 I2 rx ry q=>hr a b pins s2 σ H2 x y v u Q I2 rx ry q (hs _ _))
def CW (K:FO):R2:=fun x y H Q=>∃p xs i v,x=.ref p/\y=.int i/\SqL K H p xs/\atI xs i=some v/\Q v H
def CY (K:FO):R2:=fun x y H Q=>∃p xs i v,x=.ref p/\y=.int i/\SqT K H p xs/\atI xs i=some v/\Q v H
def CZ:R2:=fun x y H Q=>∃z i c,x=.str z/\y=.int i/\z.length<=GG/\atI z.cps.toList i=some c/\Q (.str ⟨#[c]⟩) H
theorem uS:IxR X (CW X.K):=by
 intro value slice pins s σ H x y v u Q I rx ry h hs
 obtain ⟨p,xs,i,z,rfl,rfl,hq,he,q⟩:=h
 cases rx
 obtain ⟨t,rfl⟩:=ry
 obtain ⟨its,r,pl,hz⟩:=I.list hq
 obtain ⟨j,h1,h2,h3,h4,h5⟩:=jT he
 obtain ⟨w,ew,rw'⟩:=r.get h2
 have hl:=r.length
 have hn:=fw
 have fin:EP X pins σ Q w s:=⟨z,H,I,rw',q⟩
 by_cases h0:0<=i
 ·have hj:i.toNat=j:=by
   rw [ML h0 h5] at h1
   exact Gx h1
  exact item_listR pl.isList h0 (by omega) (by rw [hj];simpa using ew) fin hs
 ·have hj:(i+(its.toArray.size:Int)).toNat=j:=by
   rw [MB (by omega) h4] at h1
   rw [Ge,<- hl]
   exact Gx h1
  exact K1 (x:=w) pl.isList.typeIs slot_list_getitem.lookup
   (wpAny_getItem_list_neg (Q:=fun r s'=>r=w/\EP X pins σ Q r s') pl.isList (by omega) (by rw [Ge] <;> omega) (by omega) (by rw [hj];simpa using ew) ⟨rfl,fin⟩) hs
theorem Ak:IxR X (CY X.K):=by
 intro value slice pins s σ H x y v u Q I rx ry h hs
 obtain ⟨p,xs,i,z,rfl,rfl,hq,he,q⟩:=h
 cases rx
 obtain ⟨t,rfl⟩:=ry
 obtain ⟨its,r,pl,hz⟩:=I.tuple hq
 obtain ⟨j,h1,h2,h3,h4,h5⟩:=jT he
 obtain ⟨w,ew,rw'⟩:=r.get h2
 have hl:=r.length
 have hn:=fw
 have fin:EP X pins σ Q w s:=⟨z,H,I,rw',q⟩
 exact K1 (x:=w) pl.typeIs slot_tuple_getitem.lookup
  (getItem_tuple (j:=j) (Q:=fun r s'=>r=w/\EP X pins σ Q r s') pl (by omega) (by omega) (by rw [Ge,<- hl];exact h1) (by simpa using ew) ⟨rfl,fin⟩) hs
theorem Al:IxR X CZ:=by
 intro value slice pins s σ H x y v u Q I rx ry h hs
 obtain ⟨z,i,c,rfl,rfl,hz,he,q⟩:=h
 obtain ⟨t,rfl⟩:=rx
 obtain ⟨t',rfl⟩:=ry
 obtain ⟨j,h1,h2,h3,h4,h5⟩:=jT he
 have hl:z.cps.toList.length=z.length:=by simp [Str.length]
 rw [hl] at h1 h4 h5
 have hn:=fw
 exact M7 (typeIs_str s z t) slot_str_getitem.lookup (getItem_str (c:=c) (by
  have e1:decide (i < -(2 ^ 63:Int))=false:=decide_eq_false (by omega)
  have e2:decide (i >= 2 ^ 63)=false:=decide_eq_false (by omega)
  rw [e1,e2,Bool.or_false]) (by rw [h1];simpa using h2) ⟨.str ⟨#[c]⟩,H,I.tok _,⟨_,rfl⟩,q⟩) hs
def rIx (K:FO):R2:=fun x y H Q=>CW K x y H Q\/CY K x y H Q\/CZ x y H Q
theorem qO:IxR X (rIx X.K):=uS.or (Ak.or Al)
theorem mM (its:List FU) (n j:Nat) (u:FU):Hq (·.setIfInBounds j u) { cls:=.type "list",data:=.seq its.toArray n }={ cls:=.type "list",data:=.seq (its.set j u).toArray n }:=by
 simp [Hq]
theorem Inv.lst {pins:List (Addr×Obj)} {σ:St} {H:Hp} {s:FW} {p:Addr} {xs:List V} (I:Inv X pins σ H s) (h:H p=some (.lst xs)) :
  ∃(its:List FU) (n:Nat),Vals xs its/\s.heap.get? p=some { cls:=.type "list",data:=.seq its.toArray n }/\xs.length<=GG:=by
 obtain ⟨z,its,n,r,e⟩:=I.hok p _ h
 exact ⟨its,n,r,e,z⟩
theorem Inv.lstUpd {pins:List (Addr×Obj)} {σ:St} {H:Hp} {s:FW} {p:Addr} {xs ys:List V} {its its':List FU} {n n':Nat} {f:Obj->Obj} (I:Inv X pins σ H s) (h:H p=some (.lst xs))
  (ho:s.heap.get? p=some { cls:=.type "list",data:=.seq its.toArray n }) (hf:f { cls:=.type "list",data:=.seq its.toArray n }={ cls:=.type "list",data:=.seq its'.toArray n' }) (r:Vals ys its') (hz:ys.length<=GG) (t:Nat) :
  Inv X pins σ (upd H p (.lst ys)) { s with heap:=s.heap.update p f,toks:=t }:=by
 have e:(s.heap.update p f).get? p=some { cls:=.type "list",data:=.seq its'.toArray n' }:=by
  rw [Heap.get?_update_self f ho (by rw [hf] <;> rfl),hf]
 refine I.write (x:=p) (e:=p) (by rw [h];trivial) (.inl rfl) (fun b u hb q=>(Hw _ _ (Ia hb)).trans q) ⟨_,e⟩ ?_
 exact ⟨hz,its',n',r,e⟩
def nP:V->V->V->Hp->(Hp->Prop)->Prop:=fun o i v H Q=>∃p xs k j,o=.ref p/\i=.int k/\H p=some (.lst xs)/\ixN xs.length k=some j/\Q (upd H p (.lst (xs.set j v)))
theorem set_list:zU X nP:=by
 intro pins s σ H o i v ov iv u Q I ro ri rv h
 obtain ⟨p,xs,k,j,rfl,rfl,hp,hj,q⟩:=h
 cases ro
 obtain ⟨t,rfl⟩:=ri
 obtain ⟨its,n,r,ho,hz⟩:=I.lst hp
 obtain ⟨h1,h2,h3,h4⟩:=nO hj
 have hl:=r.length
 have hn:=fw
 have I':Inv X pins σ (upd H p (.lst (xs.set j v))) { s with heap:=s.heap.update p (Hq (·.setIfInBounds j u)) }:=
  I.lstUpd hp ho (mM its n j u) (r.set rv j) (by rw [Lb];exact hz) s.toks
 by_cases h0:0<=k
 ·have hk:k.toNat=j:=by
   rw [ML h0 h4] at h1
   exact Gx h1
  exact PySem.W.ki_setAt ho h0 (by omega) (by rw [Ge,<- hl];exact h4) (by rw [hk];exact ⟨_,I',q⟩)
 ·have hk:(k+(its.toArray.size:Int)).toNat=j:=by
   rw [MB (by omega) h3] at h1
   rw [Ge,<- hl]
   exact Gx h1
  exact PySem.W.ki_setBack ho (by omega) (by rw [Ge,<- hl];exact h3) (by omega) (by rw [hk];exact ⟨_,I',q⟩)
theorem jU:cg X (.builtin "len") (fun xs H Q=>∃p ys,xs=[.ref p]/\(SqL X.K H p ys\/SqT X.K H p ys)/\Q (.int ys.length) H):=by
 intro pins s σ H xs us Q I r h
 obtain ⟨p,ys,rfl,hq,q⟩:=h
 obtain ⟨u,rfl,rx⟩:=vals1 r
 cases rx
 have hn:=fw
 rcases hq with hq | hq
 ·obtain ⟨its,r',pl,hz⟩:=I.list hq
  have hlen:=r'.length
  exact Calls.call_len_list pl.isList (by simp only [Ge] <;> omega) ⟨.int ys.length,H,I.tok _,⟨s.toks+1,by rw [Ge,hlen]⟩,q⟩
 ·obtain ⟨its,r',pl,hz⟩:=I.tuple hq
  have hlen:=r'.length
  exact len_tuple pl (by simp only [Ge] <;> omega) ⟨.int ys.length,H,I.tok _,⟨s.toks+1,by rw [Ge,hlen]⟩,q⟩
theorem jV:cg X (.type "list") (fun xs H Q=>∃p ys,xs=[.ref p]/\(SqL X.K H p ys\/SqT X.K H p ys)/\∀l,H l=none->Q (.ref l) (upd H l (.lst ys))):=by
 intro pins s σ H xs us Q I r h
 obtain ⟨p,ys,rfl,hq,q⟩:=h
 obtain ⟨u,rfl,rx⟩:=vals1 r
 cases rx
 have fin:∀(its:List FU),Vals ys its->ys.length<=GG->∀(h':Heap) (c':Nat),(∀b o',s.heap.get? b=some o'->h'.get? b=some o') ->
   h'.get? s.heap.objs.size=some { cls:=.type "list",dict:=none,data:=.seq its.toArray c',slots:=#[] }->EP X pins σ Q (.ref s.heap.objs.size) { s with heap:=h' }:=fun its r' hz h' c' kp e=>
  ⟨.ref s.heap.objs.size,_,I.laid (t':=s.toks) kp (FX _) (show br X.prog X.w _ h' _ (.lst ys) from ⟨hz,its,c',r',e⟩),rfl,q _ (I.hok.fresh (FX _))⟩
 rcases hq with hq | hq
 ·obtain ⟨its,r',pl,hz⟩:=I.list hq
  have hlen:=r'.length
  obtain ⟨o,ho,hc,n,hd⟩:=pl.isList
  exact call_list_seq p (.inl rfl) ho hc hd (fun h' c' kp e=>fin its r' hz h' c' kp e) (by simp only [Ge] <;> omega)
 ·obtain ⟨its,r',pl,hz⟩:=I.tuple hq
  have hlen:=r'.length
  obtain ⟨o,ho,hc,n,hd⟩:=pl
  exact call_list_seq p (.inr rfl) ho hc hd (fun h' c' kp e=>fin its r' hz h' c' kp e) (by simp only [Ge] <;> omega)
theorem i9:cg X (.type "tuple") (fun xs H Q=>∃p ys,xs=[.ref p]/\((SqL X.K H p ys/\∀l,H l=none->Q (.ref l) (upd H l (.tup ys)))\/(SqT X.K H p ys/\Q (.ref p) H))):=by
 intro pins s σ H xs us Q I r h
 obtain ⟨p,ys,rfl,h⟩:=h
 obtain ⟨u,rfl,rx⟩:=vals1 r
 cases rx
 rcases h with ⟨hq,q⟩ | ⟨hq,q⟩
 ·obtain ⟨its,r',pl,hz⟩:=I.list hq
  have hlen:=r'.length
  refine call_tuple_list pl.isList (fun h' kp=>?_) (by simp only [Ge] <;> omega)
  have I1:Inv X pins σ H { s with heap:=h' }:=I.kept (t':=s.toks) kp
  have I2:Inv X pins σ (upd H h'.objs.size (.tup ys)) { s with heap:=h'.push { cls:=.type "tuple",data:=.seq its.toArray } }:=
   I1.laid (t':=s.toks) (fun b o e=>FT _ e) (FX _) (show br X.prog X.w _ _ _ (.tup ys) from ⟨hz,its,r',IsTup.new _ _⟩)
  exact ⟨.ref h'.objs.size,_,I2,rfl,q _ (I1.hok.fresh (FX _))⟩
 ·obtain ⟨its,r',pl,hz⟩:=I.tuple hq
  exact call_tuple_same pl ⟨.ref p,H,I,rfl,q⟩
def tyV (K:FO) (T:String) (x:V) (H:Hp):Prop:=match x with
 | .str _=>T="str"
 | .int _=>T="int"
 | .ref p=>(T="list"/\∃xs,SqL K H p xs)\/(T="tuple"/\∃o,K.lookup p=some o/\o.cls=.type "tuple"/\o.dict=none) \/
   (T="dict"/\((∃kvs,H p=some (.dK kvs))\/∃kvs,H p=some (.dT kvs)))\/(T="set"/\∃S n,H p=some (.set S n))
 | _=>False
theorem qP {pins:List (Addr×Obj)} {σ:St} {H:Hp} {s:FW} {T:String} {x:V} {v:FU} (I:Inv X pins σ H s) (r:RelV x v) (ty:tyV X.K T x H) :
  s.TypeIs v T/\∀a,v=.ref a->∃ob,s.heap.get? a=some ob/\ob.dict=none:=by
 cases x with
 | str z=>
  obtain ⟨t,rfl⟩:=r
  cases (show T="str" from ty)
  exact ⟨typeIs_str s z t,fun _ e=>nomatch e⟩
 | int i=>
  obtain ⟨t,rfl⟩:=r
  cases (show T="int" from ty)
  exact ⟨MV s i t,fun _ e=>nomatch e⟩
 | ref p=>
  cases r
  rcases ty with ⟨rfl,xs,hq⟩ | ⟨rfl,o,hk,hc,hd⟩ | ⟨rfl,hk⟩ | ⟨rfl,S,n,hk⟩
  ·obtain ⟨its,_,pl,_⟩:=I.list hq
   refine ⟨pl.isList.typeIs,fun a e=>?_⟩
   cases e
   obtain ⟨o,n,e,c,hd,_⟩:=pl
   exact ⟨o,e,hd⟩
  ·refine ⟨⟨o,I.kIn p o hk,hc⟩,fun a e=>?_⟩
   cases e
   exact ⟨o,I.kIn _ o hk,hd⟩
  ·have z:∃o,s.heap.get? p=some o/\o.ExactDict:=by
    rcases hk with ⟨kvs,hk⟩ | ⟨kvs,hk⟩
    ·obtain ⟨_,_,_,_,o,_,_,e,ex,_⟩:=I.hok p _ hk
     exact ⟨o,e,ex⟩
    ·obtain ⟨_,_,_,_,o,_,_,e,ex,_⟩:=I.hok p _ hk
     exact ⟨o,e,ex⟩
   obtain ⟨o,e,ex⟩:=z
   refine ⟨⟨o,e,ex.1⟩,fun a e2=>?_⟩
   cases e2
   exact ⟨o,e,ex.2.1⟩
  ·obtain ⟨o,_,_,_,e,ex,_⟩:=I.hok p _ hk
   refine ⟨⟨o,e,ex.1⟩,fun a e2=>?_⟩
   cases e2
   exact ⟨o,e,ex.2.1⟩
 | _=>exact IS ty
def C1 (K:FO) (T:String) (r:V->List V->Hp->VK->Prop) (to:TE):TE:=fun σ H Q=>to σ H fun x H1=>tyV K T x H1/\r x [] H1 Q
def tBM (K:FO) (T:String) (r:V->List V->Hp->VK->Prop) (to:TE) (t:TA):TE:=fun σ H Q=>to σ H fun x H1=>tyV K T x H1/\t σ H1 fun xs H2=>r x xs H2 Q
variable {o e:Expr} {es:List Expr} {to:TE} {t:TA} {name:Str} {apos cpos:Pos} {T id:String} {r:V->List V->Hp->VK->Prop}
theorem An (pa:PlainAttrs T) (slot:Slot T name id) (hty:typeOf (.builtin id)=pure (.type "method_descriptor")) (hm:MtR X id r) (ho:PE X o to)
  (hbase:Jn o name X.env (eval o X.env)=eval o X.env:=by rfl) (hline:(apos.endLine==cpos.line)=true:=by rfl):PE X (.Call (.Attribute o name apos) [] [] cpos) (C1 X.K T r to):=by
 intro pins s σ H Q I h
 refine wpAny_Call_method0_late hbase hline (thn (ho pins s σ H _ I h) fun v s1 zr1=>?_)
 obtain ⟨x,H1,I1,r1,ty,q1⟩:=zr1
 obtain ⟨h1,h2⟩:=qP I1 r1 ty
 exact ⟨T,id,pa,slot,hty,h1,h2,K2 rfl (PySem.evalArgs_none (hm pins s1 σ H1 x [] v [] Q I1 r1 .nil q1))⟩
theorem qQ (pa:PlainAttrs T) (slot:Slot T name id) (hty:typeOf (.builtin id)=pure (.type "method_descriptor")) (hm:MtR X id r) (ho:PE X o to) (ha:PA X (e::es) t)
  (hbase:Jn o name X.env (eval o X.env)=eval o X.env:=by rfl)
  (hfew:((IV cpos (Gi (e::es) X.env)).all (fun x=>!x.1)&&(M8 cpos (LN [] X.env)).all (fun x=>x.1.isSome)
   && decide ((e::es).length+([]:List LO).length+(if ([]:List LO).isEmpty then 0 else 1) < 30))=true:=by rfl)
  (hline:(apos.endLine==cpos.line)=true:=by rfl) (hs:Gi (e::es) X.env=(false,eval e X.env)::Gi es X.env:=by rfl) (hplain:(IV cpos (Gi es X.env)).any (·.1)=false:=by rfl) :
  PE X (.Call (.Attribute o name apos) (e::es) [] cpos) (tBM X.K T r to t):=by
 intro pins s σ H Q I h
 refine wpAny_Call_method_late hbase hfew hline rfl (thn (ho pins s σ H _ I h) fun v s1 zr1=>?_)
 obtain ⟨x,H1,I1,r1,ty,q1⟩:=zr1
 obtain ⟨h1,h2⟩:=qP I1 r1 ty
 refine ⟨T,id,pa,slot,hty,h1,h2,?_⟩
 have hA:=ha cpos pins s1 σ H1 _ I1 q1
 rw [hs] at hA ⊢
 refine K2 (by show (false||(IV cpos (Gi es X.env)).any (·.1))=false;rw [hplain] <;> rfl) (Lx ?_)
 exact thn hA fun us s2 zt1=>by obtain ⟨vs,H2,I2,r2,q2⟩:=zt1;exact hm pins s2 σ H2 x vs v us Q I2 r1 r2 q2
end
end L2
namespace L2
open PySem PySem.Spec PyProof.Rows
def MtM (X:Cx) (id:String) (r:V->List V->Hp->VK->Prop):Prop:=
 ∀(pins:List (Addr×Obj)) (s:FW) (σ:St) (H:Hp) (x:V) (xs:List V) (v:FU) (us:List FU) (Q:VK),Inv X pins σ H s->RelV x v->Vals xs us->r x xs H Q ->
  GU (GM X.prog X.w) X.A (call (.builtin id) (v::us)) (EP X pins σ Q) X.xe s
theorem Vals.one:∀{x:V} {us:List FU},Vals [x] us->∃u,us=[u]/\RelV x u:=by
 intro x us h
 cases h with
 | cons r h=>cases h;exact ⟨_,rfl,r⟩
theorem Vals.reverse {xs:List V} {us:List FU} (h:Vals xs us):Vals xs.reverse us.reverse:=by
 induction h with
 | nil=>exact .nil
 | cons r t ih=>rw [Jt,Jt];exact Vals.append ih (.cons r .nil)
theorem Vals.rep {xs:List V} {us:List FU} (h:Vals xs us):∀k:Nat,Vals (Ga k xs).flatten (Ga k us).flatten
 | 0=>.nil
 | k+1=>by
  rw [Hj,Hj,Ic,Ic]
  exact Vals.append h (Vals.rep h k)
theorem foldl_rep (its:List FU):∀(k:Nat) (acc:List FU),
  MW (fun x1 x2=>x1++x2) acc.toArray (Ga k its.toArray)=(acc++(Ga k its).flatten).toArray
 | 0,acc=>by simp
 | k+1,acc=>by
  have e:acc.toArray++its.toArray=(acc++its).toArray:=by simp
  have e2:(acc++its)++(Ga k its).flatten=acc++(Ga (k+1) its).flatten:=by
   rw [Hj,Ic,Gm]
  rw [<- e2,<- foldl_rep its k (acc++its),<- e,Hj,JV]
section
variable {X:Cx} {pins:List (Addr×Obj)} {σ:St} {H:Hp} {s:FW} {l b:Addr} {xs ys zs:List V}
theorem Inv.lset {its its':List FU} {n:Nat} {f:Array FU->Array FU} {t':Nat} (I:Inv X pins σ H s) (hH:H l=some (.lst xs))
  (e:s.heap.get? l=some { cls:=.type "list",data:=.seq its.toArray n }) (hf:f its.toArray=its'.toArray) (hv:Vals ys its') (hz:ys.length<=GG) :
  Inv X pins σ (upd H l (.lst ys)) { s with heap:=s.heap.update l (Hq f),toks:=t' }:=by
 have q:=JH e f
 rw [hf] at q
 refine I.write (x:=l) (e:=l) (by rw [hH];exact trivial) (.inl rfl) (fun b' u hb hu=>(Hw s.heap (Hq f) (Ia hb)).trans hu) ⟨_,q⟩ ?_
 exact ⟨hz,its',_,hv,q⟩
theorem Inv.lnew {its:List FU} {t':Nat} (I:Inv X pins σ H s) (hv:Vals ys its) (hz:ys.length<=GG) :
  Inv X pins σ (upd H s.heap.objs.size (.lst ys)) { s with heap:=s.heap.push { cls:=.type "list",data:=.seq its.toArray },toks:=t' }:=
 I.laid (fun _ _ q=>FT _ q) (FX _) ⟨hz,its,0,hv,Gn _ rfl⟩
theorem Inv.fresh (I:Inv X pins σ H s):H s.heap.objs.size=none:=I.hok.fresh (FX _)
theorem Inv.lstM (I:Inv X pins σ H s) (hH:H l=some (.lst xs)):xs.length<=GG/\∃(its:List FU) (n:Nat),Vals xs its/\xs.length=its.length/\s.heap.get? l=some { cls:=.type "list",data:=.seq its.toArray n }:=by
 obtain ⟨z,its,n,r,e⟩:=I.hok l _ hH
 exact ⟨z,its,n,r,r.length,e⟩
theorem lh {n:Nat} (h:n<=GG):Iy n=false:=by
 unfold Iy
 exact decide_eq_false (by omega)
end
section
variable {X:Cx}
def fL:V->List V->Hp->VK->Prop:=fun x vs H Q=>∃l xs y,x=.ref l/\vs=[y]/\H l=some (.lst xs)/\xs.length < GG/\Q .non (upd H l (.lst (xs++[y])))
theorem ji:MtM X "list.append" fL:=by
 intro pins s σ H x vs v us Q I rx rv h
 obtain ⟨l,xs,y,rfl,rfl,hH,hz,q⟩:=h
 cases rx
 obtain ⟨u,rfl,ru⟩:=rv.one
 obtain ⟨z,its,n,r,hl,e⟩:=I.lstM hH
 refine JT F.slot_list_append ⟨_,e,rfl⟩ F.entry_list_append (F.args_list_append_2 _ _) (Ju l its.toArray n u (by rw [Ge];omega)) ⟨e,?_⟩
 refine ⟨.non,_,I.lset (its':=its++[u]) hH e (by simp) (r.append (.cons ru .nil)) ?_,rfl,q⟩
 rw [GV,Lc]
 omega
def nQ:V->List V->Hp->VK->Prop:=fun x vs H Q=>∃l b xs zs,x=.ref l/\vs=[.ref b]/\H l=some (.lst xs)/\H b=some (.lst zs)/\xs.length+zs.length<=GG/\Q .non (upd H l (.lst (xs++zs)))
theorem pD:MtM X "list.extend" nQ:=by
 intro pins s σ H x vs v us Q I rx rv h
 obtain ⟨l,b,xs,zs,rfl,rfl,hH,hB,hz,q⟩:=h
 cases rx
 obtain ⟨u,rfl,ru⟩:=rv.one
 cases ru
 obtain ⟨z,its,n,r,hl,e⟩:=I.lstM hH
 obtain ⟨z2,its2,n2,r2,hl2,e2⟩:=I.lstM hB
 have hsz:its.toArray.size+its2.toArray.size<=GG:=by rw [Ge,Ge];omega
 have hlong:¬ (!its.toArray.isEmpty&&Iy (its.toArray.size+its2.toArray.size))=true:=by
  rw [lh hsz,Bool.and_false]
  exact F4
 refine JT F.slot_list_extend ⟨_,e,rfl⟩ F.entry_list_extend (F.args_list_extend_2 _ _)
  (AutoSeq1.list_extend_list_list_0 l its.toArray n b its2.toArray n2 hlong (by rw [Ge];omega) (by omega)) ⟨e,e2,?_⟩
 refine ⟨.non,_,I.lset (its':=its++its2) hH e (by simp) (r.append r2) ?_,rfl,q⟩
 rw [GV]
 omega
def C2:R2:=fun x y H Q=>∃l b xs zs,x=.ref l/\y=.ref b/\H l=some (.lst xs)/\H b=some (.lst zs)/\xs.length+zs.length<=GG/\∀p,H p=none->Q (.ref p) (upd H p (.lst (xs++zs)))
theorem Ao:OpR X (Jb .Add) C2:=by
 intro pins s σ H x y v u Q I rx ry h
 obtain ⟨l,b,xs,zs,rfl,rfl,hH,hB,hz,q⟩:=h
 cases rx
 cases ry
 obtain ⟨z,its,n,r,hl,e⟩:=I.lstM hH
 obtain ⟨z2,its2,n2,r2,hl2,e2⟩:=I.lstM hB
 refine PySem.P.add_list e e2 ?_ (by rw [Ge,Ge];omega)
 have ea:its.toArray++its2.toArray=(its++its2).toArray:=by simp
 rw [ea]
 exact ⟨.ref _,_,I.lnew (t':=s.toks) (r.append r2) (by rw [GV];omega),rfl,q _ I.fresh⟩
def C3:R2:=fun x y H Q=>∃l k xs,x=.ref l/\y=.int k/\H l=some (.lst xs)/\-(2 ^ 63)<=k/\k < 2 ^ 63/\xs.length*k.toNat<=GG /\
 ∀p,H p=none->Q (.ref p) (upd H p (.lst (Ga k.toNat xs).flatten))
theorem len_rep {α:Type} (xs:List α) (k:Nat):(Ga k xs).flatten.length=k*xs.length:=by
 induction k with
 | zero=>simp
 | succ k ih=>rw [Hj,Ic,GV,ih,Ld,Nat.add_comm]
theorem Ap:OpR X (Jb .Mult) C3:=by
 intro pins s σ H x y v u Q I rx ry h
 obtain ⟨l,k,xs,rfl,rfl,hH,h1,h2,hz,q⟩:=h
 cases rx
 obtain ⟨t,rfl⟩:=ry
 obtain ⟨z,its,n,r,hl,e⟩:=I.lstM hH
 have hlen:its.toArray.size*k.toNat<=GG:=by rw [Ge,<- hl];exact hz
 have hcap:¬ its.toArray.size*k.toNat > (2 ^ 63-1) / 8:=by
  have:(GG:Nat)<=(2 ^ 63-1) / 8:=by decide
  omega
 have hfit:¬ (!Builtin.List.listFitsIndex k)=true:=by
  rw [fitsIndex_both h1 h2]
  exact F4
 have hlong:¬ Iy (its.toArray.size*k.toNat)=true:=by
  rw [lh hlen]
  exact F4
 have hnew:MW (fun x1 x2=>x1++x2) #[] (Ga (if its.toArray.isEmpty=true then 0 else k.toNat) its.toArray)=(Ga k.toNat its).flatten.toArray:=by
  have f0:∀m:Nat,MW (fun x1 x2=>x1++x2) #[] (Ga m its.toArray)=(Ga m its).flatten.toArray:=fun m=>by
   have:=foldl_rep its m []
   rw [G1] at this
   exact this
  rw [f0]
  cases its with
  | nil=>simp
  | cons a r'=>rw [if_neg (by simp)]
 refine wpAny_binaryOp_repeat_ref (T:="list") (U:="int") (by decide) ⟨_,e,rfl⟩ (fun s'=>MV s' k t) noFill_list_mul F.fills_int_mul F.slot_int_rmul repeat_list F.slot_int_index.lookup
  (JT F.slot_int_rmul (MV s k t) F.entry_int_rmul (F.args_int_rmul_2 _ _) (int___rmul___int_list k t l its.toArray n)
   ⟨e,rfl,⟨_,e,rfl⟩,JT F.slot_list_mul ⟨_,e,rfl⟩ F.entry_list_mul (F.args_list_mul_2 _ _) (AutoListH.list___mul___list_int_3 l its.toArray n k t hfit hcap hlong) ⟨e,?_⟩⟩)
 rw [hnew]
 exact ⟨.ref _,_,I.lnew (t':=s.toks) (r.rep k.toNat) (by rw [len_rep,Nat.mul_comm];exact hz),rfl,q _ I.fresh⟩
end
end L2
namespace Att
open PySem PySem.W PySem.Calls PyProof.Rows
theorem gJ {P:Params} {h:Heap}:∀(ns:List Int) (vs:List FU),WellAll P h vs (ns.map WData.int)->Jm vs ns:=by
 intro ns
 induction ns with
 | nil=>
  intro vs w
  rw [G3] at w
  cases w
  exact .nil
 | cons n ns ih=>
  intro vs w
  rw [Gq] at w
  cases w with
  | cons a b=>
   cases a
   exact .cons _ _ (ih _ b)
theorem pE {l:OpenLaw} {n:Nat} (hn:l.most=some n) {P:Params} {h:Heap} {args:List WData} {vals:List FU}
  (hpre:l.row.toRowW.claim.pre args=true) (hwl:WellAll P h vals args) :
  ∃a vs ns,vals=[G0 a]/\args=[WData.list (ns.map WData.int)]/\h.get? a=some { cls:=.type "list",data:=.seq vs.toArray }/\Jm vs ns/\ns.length<=n:=by
 have hsh:WShape.hasAll [] args [.list .int]=true:=(pre_splitW hpre).1
 have hc:l.pre.holds [] { args:=args }=true:=(pre_splitW hpre).2
 obtain ⟨d,r,rfl,h1,h2⟩:=hasAllW_cons hsh
 obtain rfl:=hasAllW_nil h2
 obtain ⟨xs,rfl,h3⟩:=hasW_list h1
 obtain ⟨ns,rfl⟩:=items_int h3
 have hlen:ns.length<=n:=by
  unfold OpenLaw.pre at hc
  have h4:(WTm.not (.lt (.lit (.int (n:Int))) (.len (.arg 0)))).holds [] { args:=[.list (ns.map .int)] }=true:=by
   have h4:=(holds_andW hc).1
   rw [hn] at h4
   exact h4
  have h5:=condW_of h4 (w_not (w_lt w_lit (w_len_list (w_arg rfl))))
  rw [FV] at h5
  refine Nat.le_of_not_lt fun q=>?_
  have q':(n:Int) < ((ns.length:Nat):Int):=by omega
  first
   | (rw [decide_eq_true q'] at h5;exact absurd h5 (by decide))
   | (simp at h5;omega)
 cases hwl with
 | cons w1 w2=>
  cases w2
  cases w1 with
  | list ho hall=>exact ⟨_,_,ns,rfl,rfl,ho,gJ ns _ hall,hlen⟩
theorem pF (l:OpenLaw) (args:List WData):l.row.toRowW.claim.post args (.bool true) args=true:=
 postW_of (r:=l.row.toRowW) (X:=(true==true))
  (show WShape.has [] (.bool true) .bool=true by first | rfl | decide | simp [WShape.has,WShape.arms,WShape.armsAll])
  (show (WTm.eq .res (.lit (.bool true))).value [] { args:=args,res:=some (.bool true),after:=args }=some (.bool (true==true)) from w_eq_bool (w_res rfl) w_lit) rfl
theorem li {l:OpenLaw} {n:Nat} {q:GD} {loose:List Str} {XP:(Str->Option FU)->Heap->Prop} {YP:Hg->Heap->Prop} {d:DefRec}
  (hn:l.most=some n) (hdf:d.params.defaults=[])
  (call:∀(w:Hg) (s₀ s₁:FW) (mg mb:Str->Option FU) (fa:Addr) (o:Obj) (pm cd doc:FU) (a:Addr) (vs:List FU) (ns:List Int),
   Ground q loose [] XP w s₀ mg mb s₁.heap->YP w s₁.heap ->
   s₁.heap.get? fa=some o->o.data=.func (docDef d.name d.params d.body d.scope pm cd doc)->s₁.heap.CodeRec cd d.name->mg d.name=some (.ref fa) ->
   s₁.heap.get? a=some { cls:=.type "list",data:=.seq vs.toArray }->Jm vs ns->ns.length<=n->s₁.gens=#[] ->
   IK (GM l.prog w) Mi (.call (.ref fa) ⟨[.ref a],[]⟩) (fun r s'=>r=.ok (.ret (.bool true))/\OldK s₁.heap s'.heap/\s'.os=s₁.os/\Kk s'.gens) s₁) :
  WalkO q loose XP YP l.row.toRowW d [] (fun f vs=>MX f vs):=by
 intro w s₀ s₁ mg mb G Y fa o pm cd doc dV kV ho hd hcd hD hmg hg args vals as hpre hlay hrd hwl hlo
 obtain rfl:dV=.none:=Dflts.none hD hdf
 obtain rfl:kV=.none:=Dflts.noKw hD
 obtain ⟨a,vs,ns,rfl,rfl,hobj,hints,hlen⟩:=pE hn hpre hwl
 refine enter_call (Kc (call w s₀ s₁ mg mb fa o pm cd doc a vs ns G Y ho (fd_plain hd) hcd hmg hobj hints hlen hg) fun r s' hq=>?_)
 obtain ⟨rfl,h2,h3,h4⟩:=hq
 exact ⟨.inl ⟨.bool true,.bool true,[],rfl,fun _=>rfl,.bool true,pF l _,fun _=>⟨Mj,fun _ hm=>(nomatch hm)⟩⟩,h2,h3,h4⟩
end Att
namespace L2
open PySem PySem.Spec PyProof.Rows
theorem jk:∀{vs:List FU} {ns:List Int},Jm vs ns->Vals (ns.map V.int) vs
 | _,_,.nil=>.nil
 | _,_,.cons n t h=>.cons ⟨t,rfl⟩ (jk h)
def Only (H:Hp):Prop:=∀b,H b=none\/∃o xs,H b=some (.frz o (.lst xs))
theorem qR {P:GD} {w:Hg} {K:FO} {mg mb:Str->Option FU} {CX:CXT} {k:Nat} {fa a:Addr} {fd:IB} {x:Str} {sp:Sp} {s₁:FW} {vs:List FU} {ns:List Int}
  (KX:K.In s₁.heap) (hns:s₁.heap.Ns Gv mg) (hb:s₁.heap.Ns MS mb) (hbb:∀x:Str,x≠"__name__"->mb x=G2 x) (hlim:s₁.heap.NoLimit) (hg:s₁.gens=#[])
  (ha:s₁.heap.get? a=some { cls:=.type "list",data:=.seq vs.toArray }) (hi:Jm vs ns) (hl:ns.length<=GG) (hr:bV k Mi)
  (F:∀base:Heap,K.In base->base.Ns Gv mg->gH P w K mg base CX k fa fd [x] sp) (hbind:∀(s:FW) (u:FU),Mg s fd ⟨[u],[]⟩ [(x,u)])
  (hsp:∀H:Hp,Only H->SqL K H a (ns.map V.int)->sp [.ref a] H (fun v _=>v=.bl true) fun _ _ _=>False)
  (hCX:∀H e s',CX [] H s₁ (fun _ _ _=>False) e s'->False) :
  IK (GM P w) Mi (.call (.ref fa) ⟨[.ref a],[]⟩) (fun r s'=>r=.ok (.ret (.bool true))/\OldK s₁.heap s'.heap/\s'.os=s₁.os/\Kk s'.gens) s₁:=by
 have rv:=jk hi
 have lenV:=hi.length
 -- from an abstract heap in which nothing but the script may be tracked
 have core:∀H:Hp,Only H->SqL K H a (ns.map V.int)->HOk P w H s₁.heap->(∀b,H b≠none->b=a)->(H a≠none->K.lookup a=none) ->
   IK (GM P w) Mi (.call (.ref fa) ⟨[.ref a],[]⟩) (fun r s'=>r=.ok (.ret (.bool true))/\OldK s₁.heap s'.heap/\s'.os=s₁.os/\Kk s'.gens) s₁:=by
  intro H hO hS hok hA hK
  have base_of:∀{b:Addr} {o:Obj},s₁.heap.get? b=some o->H b=none->(jO s₁.heap H).get? b=some o:=fun e n=>qx e n
  have noA:∀{b:Addr} {o:Obj} {es:Array JW} {ep:Nat},s₁.heap.get? b=some o->o.data=.dict es ep->H b=none:=fun {b o es ep} e d=>by
   cases q:H b with
   | none=>rfl
   | some u=>
    have e':b=a:=hA b (by rw [q];simp)
    subst e'
    rw [ha] at e;cases e
    have d':KI vs.toArray _=Data.dict es ep:=d
    cases d'
  have nsK:∀{b:Addr} {m:Str->Option FU},s₁.heap.Ns b m->(jO s₁.heap H).Ns b m:=fun {b m} zt1=>by obtain ⟨o,es,ep,e,d,r⟩:=zt1;exact ⟨o,es,ep,base_of e (noA e d),d,r⟩
  have hKb:K.In (jO s₁.heap H):=fun b o e=>base_of (KX b o e) (by
   cases q:H b with
   | none=>rfl
   | some u=>
    have e':b=a:=hA b (by rw [q];simp)
    subst e'
    rw [hK (by rw [q];simp)] at e;cases e)
  have hM:Mod K mg (jO s₁.heap H):=⟨hKb,nsK hns,⟨mb,nsK hb,hbb⟩,let ⟨mc,h1,h2⟩:=hlim;⟨mc,nsK h1,h2⟩⟩
  have e0:Env0 P w K mg (jO s₁.heap H) Mi [] s₁ H:=⟨rfl,hM,fun b o e=>uF e,JC (o8 _ _),trivial,fun b hb=>absurd (show b∈([]:List Addr) from hb) (by simp),hok,.of_eq hg⟩
  refine Kc ((F _ hKb (nsK hns)).run Mi [] s₁ H ⟨[.ref a],[]⟩ [.ref a] [.ref a] _ _ hr e0 (hbind s₁ (.ref a)) (.cons rfl .nil) (hsp H hO hS)) fun r s' h=>?_
  cases r with
  | error e=>exact (hCX H e s' h).elim
  | ok fl=>
   cases fl with
   | next=>exact IS h
   | brk=>exact IS h
   | cont=>exact IS h
   | ret u=>
    obtain ⟨v,H',os,bare,un,hok',r',q⟩:=h
    have q':v=.bl true:=q
    subst q'
    obtain rfl:u=Lv true:=r'
    refine ⟨rfl,OldK.of_keep fun b o e=>?_,os,bare⟩
    cases q:H b with
    | none=>exact un.keep b o e q (by intro z;exact absurd (show b∈([]:List Addr) from z) (by simp)) (by simp)
    | some u=>
     rcases hO b with z | ⟨ob,xs,z⟩
     ·rw [q] at z;cases z
     ·have z2:=un.frzs b ob _ z
      obtain ⟨e1,_⟩:=hok b _ z
      obtain ⟨e2,_⟩:=hok' b _ z2
      rw [e] at e1;cases e1
      exact e2
 cases hk:K.lookup a with
 | some o=>
  -- the script is one of the module's own objects
  have e:=KX a o hk
  rw [ha] at e
  cases e
  refine core (fun _=>none) (fun _=>.inl rfl) (.inr ⟨_,vs.toArray,_,hk,rfl,rfl,rfl,by rw [Ge,lenV];exact hl,by simpa using rv⟩) (fun b u z=>by have z':(none:Option HO)=some u:=z;cases z') (fun b z=>absurd rfl z) fun z=>absurd rfl z
 | none=>
  refine core (fun b=>if b=a then some (.frz { cls:=.type "list",data:=.seq vs.toArray } (.lst (ns.map V.int))) else none) (fun b=>?_) (.inl (.inr ⟨{ cls:=.type "list",data:=.seq vs.toArray },if_pos rfl⟩)) (fun b u z=>?_) (fun b z=>?_) fun _=>hk
  ·by_cases hb:b=a
   ·exact .inr ⟨_,_,if_pos hb⟩
   ·exact .inl (if_neg hb)
  ·by_cases hb:b=a
   ·have z':=(if_pos hb).symm.trans z
    cases z'
    subst hb
    exact ⟨ha,by rw [FV];exact hl,vs,_,rv,ha⟩
   ·have z':=(if_neg hb).symm.trans z
    cases z'
  ·by_cases hb:b=a
   ·exact hb
   ·exact absurd (if_neg hb) z
end L2
namespace L2
open PySem PySem.Spec PyProof.Rows
theorem uT {l:Le} {n k:Nat} {q:GD} {loose:List Str} {XP:(Str->Option FU)->Heap->Prop} {YP:Hg->Heap->Prop} {d:DefRec} {K:Params->FO} {CX:Hg->CXT} {sp:Hg->Sp} {x:Str}
  (hn:l.most=some n) (hn2:n<=GG) (hdf:d.params.defaults=[]) (hr:bV k Mi)
  (hY:∀(w:Hg) (h:Heap),YP w h->(K w.params).In h)
  (F:∀(w:Hg) (mg:Str->Option FU) (fa:Addr) (h:Heap),(K w.params).In h->h.Ns Gv mg->mg d.name=some (.ref fa) ->
   ∃fd:IB,(∀(s:FW) (u:FU),Mg s fd ⟨[u],[]⟩ [(x,u)]) /\
    ∀base:Heap,(K w.params).In base->base.Ns Gv mg->gH l.prog w (K w.params) mg base (CX w) k fa fd [x] (sp w))
  (hsp:∀(w:Hg) (H:Hp) (a:Addr) (ns:List Int),ns.length<=n->Only H->SqL (K w.params) H a (ns.map V.int)->sp w [.ref a] H (fun v _=>v=.bl true) fun _ _ _=>False)
  (hCX:∀(w:Hg) (H:Hp) (s:FW) (e:FU) (s':FW),CX w [] H s (fun _ _ _=>False) e s'->False) :
  PySem.W.WalkO q loose XP YP l.row.toRowW d [] (fun f vs=>MX f vs):=by
 refine Att.li hn hdf fun w s₀ s₁ mg mb fa o pm cd doc a vs ns G Y ho hd hcd hmg hobj hints hlen hg=>?_
 have KX:=hY w _ Y
 obtain ⟨fd,hb,hF⟩:=F w mg fa _ KX G.T.g hmg
 exact qR KX G.T.g G.T.b G.T.builtins G.T.nolimit hg hobj hints (Hr hlen hn2) hr hF hb (fun H hO hS=>hsp w H a ns hlen hO hS) fun H e s'=>hCX w H s₁ e s'
end L2
namespace L2
open PySem PySem.Spec PyProof.Rows
def cr (s:Stmt):Arguments:=match s with
 | .FunctionDef _ a _ _ _ _ _ _ _ _=>a
 | _=>{ posonlyargs:=[],args:=[],vararg:=none,kwonlyargs:=[],kw_defaults:=[],kwarg:=none,defaults:=[] }
def bE (s:Stmt):List Stmt:=match s with
 | .FunctionDef _ _ b _ _ _ _ _ _ _=>b
 | _=>[]
def ao (s:Stmt):IR:=match s with
 | .FunctionDef _ _ _ _ _ _ sc _ _ _=>sc
 | _=>{ kind:=.function,names:=[],isGenerator:=false,isCoroutine:=false }
abbrev CX0:CXT:=fun _ _ _ _ _ _=>False
abbrev E0:XK:=fun _ _ _=>False
theorem C4 {X:Cx}:mK CX0 X E0:=fun _ _ _ _ _ _ _ h=>h.elim
structure Fun (K:FO) (x qual:Str) (st:Stmt) (f:Addr) (fd:IB):Prop where
 ex:∃(oc:FU) (od:Option Addr) (kV doc pm:FU) (an:Option Addr) (cdv ct:FU) (osl:Array (Option FU)),
  fd=HQ x qual (cr st) (bE st) (ao st) .none kV doc pm an cdv ct/\K.lookup f=some ⟨oc,od,.func fd,osl⟩/\Kl K cdv qual=true
 kp:IJ K (.ref f)=true
section
variable {P:GD} {w:Hg} {K:FO} {mg:Str->Option FU} {base:Heap}
theorem Fun.ok {x qual:Str} {st:Stmt} {f:Addr} {fd:IB} {N ps:List Str} {k:Nat} {sp:Sp} (F:Fun K x qual st f fd) (S:aC N ps (ao st)) (len:∀vs H Q E,sp vs H Q E->vs.length=ps.length)
  (hbody:∀(cdv:FU) (A:Ho) (outer:List Env) (s:FW) (H:Hp) (vs:List V) (Q:VK) (E:XK),bV k (A.deeper (envOfC qual (ao st) s.heap.objs.size f cdv))->sp vs H Q E ->
   ∃t,PSs (gI CX0 P w K mg base N qual (ao st) f cdv A outer s H E).nox (bE st) t/\t { nx:=fun _ H'=>Q .non H',rt:=Q } (start N vs) H):gH P w K mg base CX0 (k+1) f fd ps sp:=by
 obtain ⟨oc,od,kV,doc,pm,an,cdv,ct,osl,rfl,lk,hcd⟩:=F.ex
 refine yi lk hcd S len fun A outer s H vs Q E hr hsp=>?_
 obtain ⟨t,h,q⟩:=hbody cdv A outer s H vs Q E hr hsp
 exact ⟨t,h.nox,q⟩
theorem Fun.binds {x qual:Str} {st:Stmt} {f:Addr} {fd:IB} {ps:List Str} (F:Fun K x qual st f fd)
  (h:∀(kV doc pm:FU) (an:Option Addr) (cdv ct:FU) (us:List FU),us.length=ps.length->Lw (HQ x qual (cr st) (bE st) (ao st) .none kV doc pm an cdv ct) ⟨us,[]⟩=pure (ps.zip us)):Binds K fd ps []:=by
 obtain ⟨oc,od,kV,doc,pm,an,cdv,ct,osl,rfl,lk,hcd⟩:=F.ex
 exact .all (h kV doc pm an cdv ct)
theorem Aq {x qual:Str} {st:Stmt} {f:Addr} {oc:FU} {od an:Option Addr} {osl:Array (Option FU)} {kV doc pm cdv ct:FU} (l:K.lookup f=some ⟨oc,od,.func (HQ x qual (cr st) (bE st) (ao st) .none kV doc pm an cdv ct),osl⟩)
  (c:Kl K cdv qual=true) (k:IJ K (.ref f)=true):Fun K x qual st f (HQ x qual (cr st) (bE st) (ao st) .none kV doc pm an cdv ct):=⟨⟨oc,od,kV,doc,pm,an,cdv,ct,osl,rfl,l,c⟩,k⟩
end
section
variable {X:Cx}
theorem pv (i:Nat) {x:Str} {pos:Pos} (hN:X.N[i]?=some x:=by rfl) (hv:Vis X.env.scope x:=by first | exact Gf rfl | exact HB (Gf rfl) | exact HB (HB rfl)) (hd:(x==("__debug__":Str))=false:=by decide)
  (hcd:(x==("__classdict__":Str))=false:=by decide):PE X (.Name x pos) (cA i):=qz hN hv hd hcd
end
end L2
section
namespace L2
open PySem PySem.Spec PyProof.Rows
theorem qS:G2 "int"=some (.type "int"):=by decide +kernel
theorem nR:G2 "bool"=some (.type "bool"):=by decide +kernel
theorem jW:G2 "list"=some (.type "list"):=by decide +kernel
theorem eg:G2 "tuple"=some (.type "tuple"):=by decide +kernel
theorem dJ:G2 "len"=some (.builtin "len"):=by decide +kernel
theorem aZ:G2 "isinstance"=some (.builtin "isinstance"):=by decide +kernel
def Has (P:GD) (w:Hg) (K:FO) (mg:Str->Option FU) (base:Heap) (k:Nat) (x:Str) (ps:List Str) (sp:Sp):Prop:=
 ∃(f:Addr) (fd:IB),gH P w K mg base CX0 k f fd ps sp/\mg x=some (.ref f)/\IJ K (.ref f)=true/\Binds K fd ps []/\∃(oc:FU) (od:Option Addr) (osl:Array (Option FU)),K.lookup f=some ⟨oc,od,.func fd,osl⟩
theorem nS {X:Cx} {j k:Nat} {x:Str} {ps:List Str} {sp:Sp} {e:Expr} {es:List Expr} {t:TA} {p pos:Pos} (E:Has X.prog X.w X.K X.mg X.base k x ps sp) (hr:bV j X.A) (ha:PA X (e::es) t)
  (hk:k<=j:=by decide) (hg:Gl X x:=by rfl) (hdb:(x==("__debug__":Str))=false:=by decide) (he:Gi (e::es) X.env=(false,eval e X.env)::Gi es X.env:=by rfl)
  (hpl:(IV pos (Gi es X.env)).any (·.1)=false:=by rfl):PE X (.Call (.Name x p) (e::es) [] pos) (h9 sp [] E0 t):=by
 obtain ⟨f,fd,F,hm,kp,hb,_⟩:=E
 exact nN F (hr.mono hk) hg hm kp hb .nil C4 ha hdb he hpl
def Src (K:FO) (mg:Str->Option FU) (x:Str) (st:Stmt):Prop:=∃(f:Addr) (fd:IB),Fun K x x st f fd/\mg x=some (.ref f)
theorem Src.has {P:GD} {w:Hg} {K:FO} {mg:Str->Option FU} {base:Heap} {x:Str} {st:Stmt} {N ps:List Str} {k:Nat} {sp:Sp} (S:Src K mg x st) (sc:aC N ps (ao st))
  (hb:∀(kV doc pm:FU) (an:Option Addr) (cdv ct:FU) (us:List FU),us.length=ps.length->Lw (HQ x x (cr st) (bE st) (ao st) .none kV doc pm an cdv ct) ⟨us,[]⟩=pure (ps.zip us))
  (len:∀vs H Q E,sp vs H Q E->vs.length=ps.length)
  (hbody:∀(f:Addr) (cdv:FU) (A:Ho) (outer:List Env) (s:FW) (H:Hp) (vs:List V) (Q:VK) (E:XK),bV k (A.deeper (envOfC x (ao st) s.heap.objs.size f cdv))->sp vs H Q E ->
   ∃t,PSs (gI CX0 P w K mg base N x (ao st) f cdv A outer s H E).nox (bE st) t/\t { nx:=fun _ H'=>Q .non H',rt:=Q } (start N vs) H):Has P w K mg base (k+1) x ps sp:=by
 obtain ⟨f,fd,F,hm⟩:=S
 exact ⟨f,fd,F.ok sc len fun cdv A outer s H vs Q E hr h=>hbody f cdv A outer s H vs Q E hr h,hm,F.kp,F.binds hb,by obtain ⟨oc,od,kV,doc,pm,an,cdv,ct,osl,_,lk,_⟩:=F.ex;exact ⟨oc,od,osl,lk⟩⟩
theorem aP {K:FO} {h:Heap} {mg:Str->Option FU} {x:Str} {st:Stmt} {f:Addr} {oc:FU} {od an:Option Addr} {osl:Array (Option FU)} {kV doc pm cdv ct:FU} (X:K.In h) (G:h.Ns Gv mg)
  (a:GH K Gv x=some (some (.ref f))) (l:K.lookup f=some ⟨oc,od,.func (HQ x x (cr st) (bE st) (ao st) .none kV doc pm an cdv ct),osl⟩)
  (c:Kl K cdv x=true) (k:IJ K (.ref f)=true):Src K mg x st:=⟨f,_,Aq l c k,Ib X G a⟩
theorem uU {P:GD} {w:Hg} {K:FO} {mg:Str->Option FU} {k:Nat} {st:Stmt} {fa:Addr} {x:Str} {sp:Sp} (S:Src K mg "law" st) (hfa:mg "law"=some (.ref fa))
  (hb:∀(kV doc pm:FU) (an:Option Addr) (cdv ct:FU) (v:FU),Lw (HQ "law" "law" (cr st) (bE st) (ao st) .none kV doc pm an cdv ct) ⟨[v],[]⟩=pure [(x,v)])
  (all:∀base:Heap,Has P w K mg base k "law" [x] sp) :
  ∃fd:IB,(∀(s:FW) (v:FU),Mg s fd ⟨[v],[]⟩ [(x,v)])/\∀base:Heap,K.In base->base.Ns Gv mg->gH P w K mg base CX0 k fa fd [x] sp:=by
 obtain ⟨f,fd,F,hm⟩:=S
 have e:=hfa.symm.trans hm
 cases e
 obtain ⟨oc,od,kV,doc,pm,an,cdv,ct,osl,rfl,lk,_⟩:=F.ex
 refine ⟨_,fun s v=>.of_eq (hb kV doc pm an cdv ct v),fun base _ _=>?_⟩
 obtain ⟨f',fd',G',hm',_,_,oc',od',osl',lk'⟩:=all base
 have e:=hm.symm.trans hm'
 cases e
 rw [lk] at lk'
 injection lk' with e1
 injection e1 with _ _ e2 _
 injection e2 with e3
 rw [e3]
 exact G'
def tH (ms:List Int):Int:=reduceHash (Builtin.Tuple.tupleHashOf (ms.map MY))
def Fi (x:List Int×Addr×FU):JW:=⟨tH x.1,.ref x.2.1,x.2.2⟩
abbrev EV:List (List Int×Addr×V)->List (List Int×Addr×FU)->Prop:=MR fun p q=>p.1=q.1/\p.2.1=q.2.1/\RelV p.2.2 q.2.2
def DctP (a:Addr) (es:List (List Int×Addr×V)) (h:Heap):Prop:=
 es.length<=GG/\(a==Iq)=false/\(es.map (·.1)).Nodup/\∃xs,EV es xs/\∃o ds ep,h.get? a=some o/\o.ExactDict/\o.data=.dict ds ep/\ds.toList=xs.map Fi
def ck (a:Addr) (ob:Obj) (es:List (List Int×Addr×V)):HO:=.ext fun h=>DctP a es h/\h.get? a=some ob
theorem DctP.ok {P:GD} {w:Hg} {H:Hp} {h:Heap} {a:Addr} {ob:Obj} {es:List (List Int×Addr×V)} (d:DctP a es h) (q:h.get? a=some ob):br P w H h a (ck a ob es):=
 ⟨⟨d,q⟩,⟨ob,q⟩,fun _ _ zt1 k=>by obtain ⟨⟨z,m,nd,xs,ev,o,ds,ep,e,r⟩,q⟩:=zt1;exact ⟨⟨z,m,nd,xs,ev,o,ds,ep,k o e,r⟩,k ob q⟩⟩
theorem jX {X:Cx} {pins:List (Addr×Obj)} {σ:St} {H:Hp} {s:FW} {a:Addr} {ob:Obj} {es:List (List Int×Addr×V)} (I:Inv X pins σ H s) (e:H a=some (ck a ob es)):DctP a es s.heap/\s.heap.get? a=some ob:=
 (show br X.prog X.w H s.heap a (.ext fun h=>DctP a es h/\h.get? a=some ob) from I.hok a _ e).1
theorem jY {X:Cx} {pins:List (Addr×Obj)} {σ:St} {H:Hp} {s:FW} {a:Addr} {ob:Obj} {es:List (List Int×Addr×V)} (I:Inv X pins σ H s) (e:H a=some (ck a ob es)):DctP a es s.heap:=(jX I e).1
inductive TyO (K:FO) (H:Hp):V->String->Prop where
 | non:TyO K H .non "NoneType"
 | bl (x:Bool):TyO K H (.bl x) "bool"
 | int (i:Int):TyO K H (.int i) "int"
 | str (x:Str):TyO K H (.str x) "str"
 | lst {a:Addr} {xs:List V} (e:SqL K H a xs):TyO K H (.ref a) "list"
 | tup {a:Addr} {xs:List V} (e:SqT K H a xs):TyO K H (.ref a) "tuple"
 | dK {a:Addr} {kvs:List (Key×V)} (e:H a=some (.dK kvs)):TyO K H (.ref a) "dict"
 | dT {a:Addr} {kvs:List (List Key×V)} (e:H a=some (.dT kvs)):TyO K H (.ref a) "dict"
 | dE {a:Addr} {ob:Obj} {es:List (List Int×Addr×V)} (e:H a=some (ck a ob es)):TyO K H (.ref a) "dict"
def pG (t c:String):Option Bool:=Ha [] (.type t) (.type c)
theorem qT {K:FO} {t c:String}:Ha K (.type t) (.type c)=pG t c:=rfl
theorem jZ:pG "int" "int"=some true:=by decide +kernel
theorem ja:pG "int" "bool"=some false:=by decide +kernel
def Ar (K:FO):List V->Hp->VK->Prop:=fun xs H Q=>∃x t c b,xs=[x,.ty c]/\TyO K H x t/\pG t c=some b/\Q (.bl b) H
theorem qU {X:Cx}:cg X (.builtin "isinstance") (Ar X.K):=by
 intro pins s σ H xs us Q I r h
 obtain ⟨x,t,c,b,rfl,ty,e,q⟩:=h
 obtain ⟨u,w',rfl,rx,rc⟩:=vals2 r
 obtain rfl:w'=Me c:=rc
 have e':Ha X.K (.type t) (.type c)=some b:=by rw [qT];exact e
 have fin:∀tk,EP X pins σ Q (.bool b) { s with toks:=tk }:=fun tk=>⟨.bl b,H,I.tok tk,rfl,q⟩
 cases ty with
 | non=>exact cP I rx (.non) e' fin
 | bl y=>exact cP I rx (.bl y) e' fin
 | int i=>exact cP I rx (.int i) e' fin
 | str y=>exact cP I rx (.str y) e' fin
 | dK ea=>exact cP I rx (.dK ea) e' fin
 | dT ea=>exact cP I rx (.dT ea) e' fin
 | @dE a ob es ea=>
  cases rx
  obtain ⟨_,_,_,_,_,o,_,_,h1,h2,_⟩:=jY I ea
  exact G8 Ku I.kIn ⟨o,h1,h2.1⟩ e' (fun z=>nomatch z) fin
 | lst ea=>
  cases rx
  obtain ⟨its,_,pl,_⟩:=I.list ea
  obtain ⟨o,h1,h2,_⟩:=pl.isList
  exact G8 Kt I.kIn ⟨o,h1,h2⟩ e' (fun z=>nomatch z) fin
 | tup ea=>
  cases rx
  obtain ⟨its,_,p,_⟩:=I.tuple ea
  obtain ⟨o,h1,h2,_⟩:=p
  exact G8 L3 I.kIn ⟨o,h1,h2⟩ e' (fun z=>nomatch z) fin
section
variable {X:Cx}
def ik (K:FO) (H:Hp) (ps:List Addr) (mss:List (List Int)):Prop:=MR (fun p ms=>SqT K H p (M9 V.int ms)) ps mss
end
def nT:List FU->Option (List Int)
 | []=>some []
 | .int i _::r=>(nT r).map (i::·)
 | _::_=>none
theorem lj:∀{us:List FU} {ns:List Int},nT us=some ns->Vals (ns.map V.int) us
 | [],ns,e=>by cases e;exact .nil
 | u::r,ns,e=>by
  cases u with
  | int i t=>
   obtain ⟨ms,h1,rfl⟩:=Option.map_eq_some_iff.mp (show (nT r).map (i::·)=some ns from e)
   exact .cons ⟨t,rfl⟩ (lj h1)
  | _=>cases e
def mO (K:FO) (a:Addr):Option (List FU):=match K.lookup a with
 | some ⟨.type "tuple",_,.seq its _,_⟩=>if its.toList.length<=1000 then some its.toList else none
 | _=>none
theorem nU {K:FO} {H:Hp} {a:Addr} {us:List FU} {xs:List V} (e:mO K a=some us) (r:Vals xs us):SqT K H a xs:=by
  unfold mO at e
  split at e
  · rename_i c its n sl lk
    split at e
    · rename_i hz
      cases e
      have hs:GG=16777216:=G9
      exact .inr ⟨_, its, n, lk, rfl, rfl, by have : its.toList.length = its.size := by simp
                                              lia,r⟩
    · cases e
  · cases e
def okT (K:FO) (v:FU) (ns:List Int):Bool:=match v with
 | .ref a=>(match mO K a with | some us=>decide (nT us=some ns) | none=>false)
 | _=>false
theorem As {K:FO} {H:Hp} {v:FU} {ns:List Int} (e:okT K v ns=true):∃a,v=.ref a/\SqT K H a (ns.map V.int):=by
 unfold okT at e
 split at e
 ·rename_i a
  split at e
  ·rename_i us h
   exact ⟨a,rfl,nU h (lj (of_decide_eq_true e))⟩
  ·cases e
 ·cases e
def uV (K:FO):List FU->List (List Int)->Bool
 | [],[]=>true
 | v::r,ns::s=>okT K v ns&&uV K r s
 | _,_=>false
theorem j3 {K:FO} {H:Hp}:∀{us:List FU} {nss:List (List Int)},uV K us nss=true->∃ps,Vals (ps.map V.ref) us/\ik K H ps nss
 | [],[],_=>⟨[],.nil,.nil⟩
 | u::r,ns::s,e=>by
  rw [uV,GC] at e
  obtain ⟨a,rfl,h⟩:=As (H:=H) e.1
  obtain ⟨ps,h1,h2⟩:=j3 e.2
  exact ⟨a::ps,.cons rfl h1,.cons h h2⟩
 | [],_::_,e=>by cases e
 | _::_,[],e=>by cases e
def uW (K:FO) (v:FU) (nss:List (List Int)):Bool:=match v with
 | .ref a=>(match mO K a with | some us=>uV K us nss | none=>false)
 | _=>false
def TTup (K:FO) (v:V) (nss:List (List Int)):Prop:=∃a ps,v=.ref a/\∀H:Hp,SqT K H a (ps.map V.ref)/\ik K H ps nss
theorem uX {K:FO} {v:FU} {nss:List (List Int)} (e:uW K v nss=true):∃x,RelV x v/\TTup K x nss:=by
 unfold uW at e
 split at e
 ·rename_i a
  split at e
  ·rename_i us h
   obtain ⟨ps,h1,h2⟩:=j3 (H:=fun _=>none) e
   refine ⟨.ref a,rfl,a,ps,rfl,fun H=>⟨nU h h1,?_⟩⟩
   obtain ⟨ps',h1',h2'⟩:=j3 (H:=H) e
   have:=h1.inj h1'
   have e2:ps=ps':=by
    have:=congrArg (M9 (fun v=>match v with | V.ref i=>i | _=>0)) this
    simpa [GP,Kv] using this
   rw [e2]
   exact h2'
  ·cases e
 ·cases e
def uY (K:FO):List JW->List (Int×List (List Int))->Bool
 | [],[]=>true
 | e::r,p::s=>LL p.1 e.key&&decide (e.hash=MY p.1)&&uW K e.val p.2&&uY K r s
 | _,_=>false
def okD (K:FO) (d:Addr) (rows:List (Int×List (List Int))):Bool:=match K.lookup d with
 | some ⟨.type "dict",none,.dict es _,sl⟩=>sl.size==0&&uY K es.toList rows&&decide (rows.map (·.1)).Nodup
 | _=>false
theorem nV {P:GD} {w:Hg} {K:FO}:∀{es:List JW} {rows:List (Int×List (List Int))},uY K es rows=true ->
  ∃kvs:List (Int×FU),Pairs (MZ P w) es kvs/\(∀e∈es,∃k,(MZ P w).is k e.key=true/\e.hash=(MZ P w).hash k)/\kvs.map (·.1)=rows.map (·.1) /\
   ∀k nss,(k,nss)∈rows->(rows.map (·.1)).Nodup->∃v,valueAt kvs k=some v/\uW K v nss=true
 | [],[],_=>⟨[],.nil,(fun _ h=>nomatch h),rfl,(fun _ _ h=>nomatch h)⟩
 | e::r,p::s,h=>by
  rw [uY,GC,GC,GC] at h
  obtain ⟨⟨⟨h1,h2⟩,h3⟩,h4⟩:=h
  obtain ⟨kvs,g1,g2,g3,g4⟩:=nV (P:=P) (w:=w) h4
  refine ⟨(p.1,e.val)::kvs,.cons h1 rfl g1,fun x hx=>?_,by simp [g3],fun k nss hk nd=>?_⟩
  ·rcases List.mem_cons.mp hx with rfl | hx
   ·exact ⟨p.1,h1,of_decide_eq_true h2⟩
   ·exact g2 x hx
  ·rw [Gq,List.nodup_cons] at nd
   rcases List.mem_cons.mp hk with rfl | hk
   ·exact ⟨e.val,by simp [valueAt],h3⟩
   ·obtain ⟨v,e1,e2⟩:=g4 k nss hk nd.2
    refine ⟨v,?_,e2⟩
    have ne:¬ p.1=k:=fun z=>nd.1 (List.mem_map.mpr ⟨(k,nss),hk,z.symm⟩)
    unfold valueAt at e1 ⊢
    rw [List.find?_cons_of_neg (by simpa using ne)]
    exact e1
 | [],_::_,h=>by cases h
 | _::_,[],h=>by cases h
def C5 (K:FO) (rows:List (Int×List (List Int))):R2:=fun x y H Q=>∃d k nss,x=.ref d/\y=.int k/\okD K d rows=true/\(k,nss)∈rows/\∀v,TTup K v nss->Q v H
theorem uZ {X:Cx} {rows:List (Int×List (List Int))}:IxR X (C5 X.K rows):=by
 intro value slice pins s σ H x y v u Q I rx ry h hs
 obtain ⟨d,k,nss,rfl,rfl,hd,hk,q⟩:=h
 cases rx
 obtain ⟨t,rfl⟩:=ry
 unfold okD at hd
 split at hd
 ·rename_i es n sl lk
  rw [GC,GC] at hd
  obtain ⟨⟨h1,h2⟩,h3⟩:=hd
  obtain ⟨kvs,g1,g2,g3,g4⟩:=nV (P:=X.prog) (w:=X.w) h2
  have nd:=of_decide_eq_true h3
  obtain ⟨v,e1,e2⟩:=g4 k nss hk nd
  have sl0:sl=#[]:=by
   have:sl.size=0:=by simpa using h1
   exact Array.eq_empty_of_size_eq_zero this
  have D:s.heap.DictOf (MZ X.prog X.w) d kvs:=⟨_,es,n,I.kIn d _ lk,⟨rfl,rfl,sl0⟩,rfl,fun e he=>g2 e (by simpa using he),g1,by rw [g3];exact nd⟩
  obtain ⟨x,rx,tt⟩:=uX e2
  exact M7 D.typeIs slot_dict_getitem.lookup (wpAny_getItem_of (k:=k) (by show LL k (.int k t)=true;simp [LL]) D.mapOf e1 ⟨x,H,I.tok _,rx,q x tt⟩) hs
 ·cases hd
end L2
end
variable {H:L2.Hp} {vs:List L2.V} {es:List (List Int×PySem.Addr×L2.V)} {σ:L2.St} {pins:List (PySem.Addr×PySem.Obj)} {ix:List Nat} {v:L2.V} {K:FO} {ns:List Int} {ms:List Int} {mss:List (List Int)} {tg:List PySem.Str} {cs:List PySem.Str} {bo:List Int}
section
namespace L2
open PySem PySem.Spec PyProof.Rows
def bF (env:Env):List (Str×Ik)->List (Str×Addr)->List (Str×Addr)
 | [],acc=>acc
 | (n,k)::r,acc=>bF env r (if (k==G5)=true then (match env.cells.lookup n with | some c=>(n,c)::acc | none=>acc) else acc)
theorem cR {env:Env}:∀{l:List (Str×Ik)} {acc:List (Str×Addr)} {n:Str} {c:Addr},(n,c)∈bF env l acc->(n,c)∈acc\/env.cells.lookup n=some c
 | [],_,_,_,h=>.inl h
 | (m,k)::r,acc,n,c,h=>by
  unfold bF at h
  rcases cR h with h | h
  ·split at h
   ·split at h
    ·rename_i c' e
     rcases List.mem_cons.mp h with h | h
     ·cases h;exact .inr e
     ·exact .inl h
    ·exact .inl h
   ·exact .inl h
  ·exact .inr h
theorem jl {env:Env}:∀{l:List (Str×Ik)} {acc:List (Str×Addr)} {p:Str×Addr},p∈acc->p∈bF env l acc
 | [],_,_,h=>h
 | (m,k)::r,acc,p,h=>by
  unfold bF
  refine jl ?_
  split
  ·split
   ·exact GB _ h
   ·exact h
  ·exact h
theorem lq {env:Env}:∀{l:List (Str×Ik)} {acc:List (Str×Addr)} {n:Str} {c:Addr},(n,G5)∈l->env.cells.lookup n=some c->(n,c)∈bF env l acc
 | (m,k)::r,acc,n,c,h,e=>by
  unfold bF
  rcases List.mem_cons.mp h with h | h
  ·cases h
   refine jl ?_
   rw [if_pos (show (G5==G5)=true from rfl),e]
   exact FZ
  ·exact lq h e
theorem cellOf_eq {env:Env} {n:Str} {c:Addr} (h:env.cells.lookup n=some c):cellOf env n=pure c:=by
 unfold cellOf
 rw [h]
theorem cS {env:Env} {scope:IR} (h:∀n,(n,G5)∈scope.names->∃c,env.cells.lookup n=some c):closureFor scope env=pure (bF env scope.names []):=by
 have all:∀(l:List (Str×Ik)) (acc:List (Str×Addr)),(∀n,(n,G5)∈l->∃c,env.cells.lookup n=some c) ->
   (forIn l acc fun (x:Str×Ik) (cs:List (Str×Addr))=>(if (x.2==G5)=true then (do let c <- cellOf env x.1;pure (JX ((x.1,c)::cs))) else pure (JX cs):Sem (ForInStep (List (Str×Addr)))))=pure (bF env l acc):=by
  intro l
  induction l with
  | nil=>intro acc _;rfl
  | cons x r ih=>
   intro acc hl
   obtain ⟨n,k⟩:=x
   rw [List.forIn_cons]
   unfold bF
   cases hk:(k==G5) with
   | true=>
    have hk':k=G5:=by simpa using hk
    subst hk'
    obtain ⟨c,e⟩:=hl n FZ
    simp only [if_true,cellOf_eq e,pure_bind,e]
    exact ih _ fun m hm=>hl m (GB _ hm)
   | false=>
    simp only [HE,if_false,pure_bind]
    exact ih _ fun m hm=>hl m (GB _ hm)
 have q:=all scope.names [] h
 unfold closureFor
 first
  | (simp only [bind_pure_comp,map_pure] at q ⊢;rw [q];rfl)
  | (rw [q];rfl)
  | exact q
def aj (X:Cx) (scope:IR) (N:List Str) (C:Addr) (fp:List Addr) (s₀:FW) (H₀:Hp):Cx:=
 { X with N:=N,s₀:=s₀,H₀:=H₀,env:=ID scope (bF X.env scope.names []) C X.env,outer:=X.stack,stack:=X.stack,ex:=fp,fn:=fun _=>false,pn:=[],xe:=fun _ _=>False }
def capt (n:Nat) (ix:List Nat) (σ:St):St:=Ga n none++ix.map fun i=>(σ[i]?).getD none
structure aR (X:Cx) (scope:IR) (tg cs:List Str) (ix:List Nat):Prop where
 kind:scope.kind=.function
 nocell:∀y∈scope.names,y.2≠.cell
 names:∀y∈scope.names,y.2=.local->scope.names.lookup y.1=some .local
 nd:(tg++cs).Nodup
 at_:ix.map (fun i=>X.N[i]?)=cs.map some
 free:∀x∈cs,(x,G5)∈scope.names/\scope.names.lookup x=some .free
 out:∀x,(x,G5)∈scope.names->X.env.scope.names.lookup x=some .cell\/X.env.scope.names.lookup x=some .free
theorem fM {f:Str×Ik->Str×Ik} (hf:∀p,(f p).1=p.1):∀(names:List (Str×Ik)) (x:Str),(names.map f).lookup x=(names.lookup x).map fun k=>(f (x,k)).2
 | [],_=>rfl
 | p::r,x=>by
  have e:f p=(p.1,(f p).2):=by rw [<- hf p]
  rw [Gq,e,List.lookup_cons,List.lookup_cons,fM hf r x]
  cases q:x==p.1 with
  | false=>rfl
  | true=>
   have z:x=p.1:=by simpa using q
   subst z
   rfl
def freed (env:Env) (p:Str×Ik):Bool:=p.2==G5&&env.scope.kind==.function&&env.kindOf p.1==some .cell
theorem fN {env:Env} {names:List (Str×Ik)} {x:Str} :
  (names.map fun (n,k)=>if (k==G5&&env.scope.kind==.function&&env.kindOf n==some .cell) then (n,KJ) else (n,k)).lookup x=(names.lookup x).map fun k=>if freed env (x,k)=true then .cell else k:=by
 refine (fM (fun p=>?_) names x).trans ?_
 ·dsimp only
  split <;> rfl
 ·congr 1
  funext k
  unfold freed
  dsimp only
  split <;> rfl
theorem cF {env:Env} {names:List (Str×Ik)} {x:Str} {k:Ik}
  (h:(names.map fun (n,k)=>if (k==G5&&env.scope.kind==.function&&env.kindOf n==some .cell) then (n,KJ) else (n,k)).lookup x=some k) (hk:k=.cell\/k=.free) (nc:∀y∈names,y.2≠.cell):(x,G5)∈names:=by
 rw [fN] at h
 cases q:names.lookup x with
 | none=>rw [q] at h;cases h
 | some k0=>
  have hm:=G4 q
  suffices z:k0=.free by rw [<- z];exact hm
  rw [q] at h
  by_cases c:freed env (x,k0)=true
  ·unfold freed at c
   simp only [GC,beq_iff_eq] at c
   exact c.1.1
  ·have h2:k0=k:=by simpa [c] using h
   rcases hk with e | e
   ·exact absurd (h2.trans e) (nc _ hm)
   ·exact h2.trans e
theorem ff {env:Env} {names:List (Str×Ik)} {x:Str} (h:names.lookup x=some .free) :
  (names.map fun (n,k)=>if (k==G5&&env.scope.kind==.function&&env.kindOf n==some .cell) then (n,KJ) else (n,k)).lookup x=some .cell \/
  (names.map fun (n,k)=>if (k==G5&&env.scope.kind==.function&&env.kindOf n==some .cell) then (n,KJ) else (n,k)).lookup x=some .free:=by
 rw [fN,h]
 by_cases c:freed env (x,.free)=true
 ·exact .inl (by simp [c])
 ·exact .inr (by simp [c])
section
variable {X:Cx} {pins:List (Addr×Obj)} {σ:St} {H H1:Hp} {s:FW}
theorem Inv.track {D:Addr} {o:HO} (I:Inv X pins σ H s) (hn:H D=none) (hs:X.s₀.heap.objs.size<=D) (hL:D≠X.env.locals) (hc:∀x c,X.env.cells.lookup x=some c->c≠D) (hp:∀p∈X.pn++pins,p.1≠D)
  (new:br X.prog X.w (upd H D o) s.heap D o):Inv X pins σ (upd H D o) s:=by
 have nb:∀b ob,X.s₀.heap.get? b=some ob->b≠D:=fun b ob e z=>by subst z;exact absurd (Gr (Gg e) hs) (Hb _)
 refine ⟨I.ok,I.os,I.bare,⟨I.base.keep,I.base.slot,fun b ob e n hx=>?_,I.base.there,fun b xs e=>?_,fun b ob u e=>?_,fun b ps e=>?_⟩,I.loc,I.cell,?_,fun x c e=>?_,fun p hpp=>?_,fun b u e=>?_,I.len⟩
 ·rw [aw (nb b ob e)];exact I.base.free b ob e n hx
 ·have q:=I.base.tups b xs e
  rw [aw (aY q hn)];exact q
 ·have q:=I.base.frzs b ob u e
  rw [aw (aY q hn)];exact q
 ·obtain ⟨more,q⟩:=I.base.tbls b ps e
  exact ⟨more,by rw [aw (aY q hn)];exact q⟩
 ·rw [aw hL.symm];exact I.free
 ·rw [aw (hc x c e)];exact I.freeC x c e
 ·obtain ⟨a,b,c,d,e⟩:=I.pin p hpp
  exact ⟨a,by rw [aw (hp p hpp)];exact b,c,d,e⟩
 ·by_cases hb:b=D
  ·subst hb;rw [az] at e;cases e;exact new
  ·rw [aw hb] at e
   exact (I.hok b u e).stay (fun _ _ _ q=>q) (fun c q=>by rw [aw (aY q hn)];exact q) fun c xs q=>by rw [aw (aY q hn)];exact q
theorem dv {X:Cx} {tg cs:List Str} (hat:ix.map (fun i=>X.N[i]?)=cs.map some) {i:Nat} {x:Str} (h1:(tg++cs)[i]?=some x) (h2:(capt tg.length ix σ)[i]?=some (some v)) :
  x∈cs/\∃k:Nat,X.N[k]?=some x/\σ[k]?=some (some v):=by
 unfold capt at h2
 by_cases hi:i < tg.length
 ·rw [GJ (by simpa using hi),IC,if_pos hi] at h2
  cases h2
 ·rw [Gz (by simpa using hi),HP,Gk] at h2
  rw [Gz (by lia)] at h1
  cases e:ix[i-tg.length]? with
  | none=>rw [e] at h2;cases h2
  | some k=>
   rw [e] at h2
   have h2:(σ[k]?).getD none=some v:=Gx h2
   have q:=congrArg (fun l=>l[i-tg.length]?) hat
   simp only [Gk,e,h1,Option.map_some] at q
   refine ⟨He h1,k,Gx q,?_⟩
   cases z:σ[k]? with
   | none=>rw [z] at h2;cases h2
   | some y=>rw [z] at h2;exact congrArg some h2
end
def PTs (X:Cx) (ifs:List Expr) (t:TT):Prop:=
 ∀(pins:List (Addr×Obj)) (s:FW) (σ:St) (H:Hp) (Q:Bool->Hp->Prop),Inv X pins σ H s->t σ H Q ->
  GU (GM X.prog X.w) X.A (forIn ifs true fun c r=>if r=true then do let ok <- LG c X.env (eval c X.env);pure (JX ok) else pure (JX r)) (TP X pins σ Q) X.xe s
def yj:TT:=fun _ H Q=>Q true H
theorem u0 {X:Cx}:PTs X [] yj:=fun _ _ _ H _ I h=>wpAny_tests_nil ⟨H,I,h⟩
theorem u6 {X:Cx} {c:Expr} {t:TT} (h:PT X c t):PTs X [c] t:=fun pins s σ H Q I hw=>wpAny_tests_one (h pins s σ H Q I hw)
def cT (n:Nat) (ix:List Nat) (g:TG):Prop:=∀x σ H Q,g x (capt n ix σ) H Q->g x (capt n ix σ) H fun σ2 H2=>(σ2.length=(capt n ix σ).length/\∀(i:Nat) (v:V),(capt n ix σ)[i]?=some (some v)->σ2[i]?=some (some v))/\Q σ2 H2
theorem bN {n:Nat} {j:Nat} (h:j < n) (e:(capt n ix σ)[j]?=some (some v)):False:=by
 unfold capt at e
 rw [GJ (by simpa using h),IC,if_pos h] at e
 cases e
theorem bh {n:Nat} {j:Nat} (h:j < n):cT n ix (aX j):=fun x σ H Q q=>⟨⟨by simp,fun i v e=>by
 by_cases hi:j=i
 ·subst hi;exact (bN h e).elim
 ·rw [Gh hi];exact e⟩,q⟩
theorem gb {n:Nat} {m j k:Nat} (h:j < n) (h':k < n):cT n ix (uK K m (jd (aX j) (jd (aX k) uI))):=fun x σ H Q q=>by
 obtain ⟨a,xs,e1,hq,hl,v,r,e2,v',r',e3,e4,q⟩:=q
 refine ⟨a,xs,e1,hq,hl,v,r,e2,v',r',e3,e4,⟨by simp,fun i v e=>?_⟩,q⟩
 by_cases hi:j=i
 ·subst hi;exact (bN h e).elim
 ·by_cases hk:k=i
  ·subst hk;exact (bN h' e).elim
  ·rw [Gh hk,Gh hi];exact e
def ip (wi:TI) (n:Nat) (ix:List Nat) (g:TG) (tc:TT) (te:TE):TE:=fun σ H Q=>wi σ H fun J H1=>∃W:Nat->Nat->List V->Hp->Prop,(∃m,W 0 m [] H1)/\∀i m ys H2,W i m ys H2 ->
 (J.stop i H2/\ys.length<=GG/\∀D,H2 D=none->Q (.ref D) (upd H2 D (.lst ys))) \/
 (J.go i H2/\ys.length < GG/\∃Nx:List V->Hp->Prop,(∀ys' H',Nx ys' H'->∃m',m' < m/\W (i+1) m' ys' H') /\
  ∀x H3,J.yld i H2 x H3->g x (capt n ix σ) H3 fun σ2 H4=>tc σ2 H4 fun b H5=>if b=true then te σ2 H5 fun v H6=>Nx (ys++[v]) H6 else Nx ys H5)
section
variable {X:Cx} {pins:List (Addr×Obj)} {σ:St} {H H1:Hp} {s:FW}
theorem eh {scope:IR} {tg cs:List Str} {fp:List Addr} {s4:FW} (S:aR X scope tg cs ix) (I:Inv X pins σ H s) (hf:∀b∈fp,d9 X pins H b) (ho:∀b∈fp,∃o,s.heap.get? b=some o) {C:Addr} (hC:s.heap.objs.size<=C)
  (hk:∀b o,s.heap.get? b=some o->s4.heap.get? b=some o) (hns:s4.heap.Ns C fun _=>none) (os:s4.os=s.os) (bare:Kk s4.gens) (hn:H C=none) :
  Inv (aj X scope (tg++cs) C fp s H) [] (capt tg.length ix σ) H s4:=by
 have clX:∀x c,(bF X.env scope.names []).lookup x=some c->X.env.cells.lookup x=some c:=fun x c e=>by
  rcases cR (G4 e) with h | h
  ·cases h
  ·exact h
 have hasC:∀x,(x,G5)∈scope.names->∃c,(bF X.env scope.names []).lookup x=some c:=fun x hx=>by
  obtain ⟨c,e⟩:=I.ok.has x (S.out x hx)
  have m:=lq (acc:=[]) hx e
  cases q:(bF X.env scope.names []).lookup x with
  | some c'=>exact ⟨c',rfl⟩
  | none=>
   have:=List.lookup_eq_none_iff.mp q (x,c) m
   simp at this
 refine ⟨⟨I.ok.mod,?_,I.ok.glob,I.ok.blt,hC,fun x y c e1 e2=>I.ok.inj x y c (clX x c e1) (clX y c e2),fun x hx=>?_,fun x c h=>?_,I.ok.hd,I.ok.frames,.inl rfl,fun b hb=>⟨?_,fun x c e=>?_⟩,I.bs,Hr I.ok.bsz I.sz,fun b o e hb=>?_,fun b hb hx=>?_,I.stack,I.stkFree⟩,
  os,bare,Un.kept hk,⟨_,hns,fun i x v e1 e2 e3=>?_⟩,fun x c e=>?_,hn,fun x c e=>I.freeC x c (clX x c e),fun p hp=>(by cases hp),I.hok.kept hk,?_⟩
 ·show (relabel scope X.env).kind=.function
  exact S.kind
 ·have hx':(relabel scope X.env).names.lookup x=some .cell\/(relabel scope X.env).names.lookup x=some .free:=hx
  rcases hx' with h | h
  ·exact hasC x (cF h (.inl rfl) S.nocell)
  ·exact hasC x (cF h (.inr rfl) S.nocell)
 ·cases h
 ·obtain ⟨o,e⟩:=ho b hb
  exact GO (Gr (Gg e) hC)
 ·exact (hf b hb).2.2.2.2.1 x c (clX x c e)
 ·obtain ⟨_,_,_,h,_⟩:=hf b hb
  rcases h with h | h
  ·exact I.ok.noex b o e h
  ·exact absurd (Gr (Gg (I.ok.bs b o e).1) h) (Hb _)
 ·have hx:b∈frs X.stack:=hx
  obtain ⟨_,h1,h2,_⟩:=hf b hb
  rcases List.mem_cons.mp (I.stkSub b hx) with h | h
  ·exact h1 h
  ·exact h2 h
 ·obtain ⟨hx,k,h1,h2⟩:=dv (X:=X) S.at_ e1 e2
  obtain ⟨hx1,hx2⟩:=S.free x hx
  obtain ⟨m,hnm,hl⟩:=I.loc
  have ov:=S.out x hx1
  obtain ⟨u,r,l⟩:=hl k x v h1 h2 (by rcases ov with z | z;exact .inr (.inl z);exact .inr (.inr z))
  refine ⟨u,r,?_⟩
  rcases l with ⟨l,_⟩ | ⟨_,c,lc,ic⟩
  ·have l:X.env.scope.names.lookup x=some .local:=l
   rcases ov with z | z <;> rw [z] at l <;> cases l
  ·obtain ⟨c',e'⟩:=hasC x hx1
   have:=(clX x c' e').symm.trans lc
   cases this
   refine .inr ⟨ff hx2,c,e',?_⟩
   obtain ⟨o,ho1,ho2⟩:=ic
   exact ⟨o,hk c o ho1,ho2⟩
 ·obtain ⟨v,o,ho1,ho2⟩:=I.cell x c (clX x c e)
  exact ⟨v,o,hk c o ho1,ho2⟩
 ·show (capt tg.length ix σ).length=(tg++cs).length
  have:=congrArg KH S.at_
  simp only [FV] at this
  unfold capt
  simp [this]
theorem jm {use:Option (FU->Sem Unit)} {Qc:FU->FW->Prop} {pos':Pos} {elt target iter:Expr} {ifs:List Expr} {scope:IR} {pos:Pos} {tg cs:List Str} {wi:TI} {g:TG} {tc:TT} {te:TE} (S:aR X scope tg cs ix) (hcalm:X.calm=true) (kg:cT tg.length ix g) {Φ:Hp->Prop} (hΦ:∀pins σ H s,Inv X pins σ H s->Φ H)
    (hi:PI X target iter wi) (hg:∀C fp s H,PG (aj X scope (tg++cs) C fp s H) target g) (hc:∀C fp s H,Φ H->PTs (aj X scope (tg++cs) C fp s H) ifs tc) (he:∀C fp s H,Φ H->PE (aj X scope (tg++cs) C fp s H) elt te)
    (hs:∀x,Gj iter X.env x=pure x) {pins:List (Addr×Obj)} {s:FW} {σ:St} {H:Hp} {Q:VK} (I:Inv X pins σ H s) (h:ip wi tg.length ix g tc te σ H Q)
    (fin:∀D C H' s' v,Inv X pins σ H' s'->Q (.ref D) H'->d9 X pins H' C->(∃m,s'.heap.Ns C m)->L7 (GM X.prog X.w) X.A X.xe use Qc (.ref D) C (.ok v) s') :
    GU (GM X.prog X.w) X.A (KL (.ListComp elt [⟨target,iter,ifs,0⟩] scope pos) scope X.env pos' (newList []) false (eval iter X.env) use) Qc X.xe s:=by
  refine HV (use:=use) (cl:=bF X.env scope.names []) rfl hs (cS fun n hn=>I.ok.has n (S.out n hn)) S.kind S.names ?_
  refine Gy (hi pins s σ H _ I h) (fun v s1 h1=>Gy h1 (fun itv s2 h2=>?_) fun _ _ e=>e) fun _ _ e=>e
  obtain ⟨it,fp,tn,J,H2,rfl,I2,T,st2,f2,W,⟨m0,w0⟩,turn⟩:=h2
  refine HC (Ip S.nocell (by intro y hy;simp at hy) (fun h1 hns1 hsb1=>?_) S.kind)
  dsimp only at hns1 hsb1 ⊢
  generalize hP:s2.heap.push { cls:=.type "list",dict:=none,data:=.seq ([]:List FU).toArray }=P2 at hns1 hsb1 ⊢
  have hCs:P2.objs.size=s2.heap.objs.size+1:=by rw [<- hP,Jz]
  have hDC:s2.heap.objs.size≠P2.objs.size:=by rw [hCs];exact GO (Ij _)
  have hCle:s2.heap.objs.size<=P2.objs.size:=by rw [hCs];exact IP _
  generalize hCg:P2.objs.size=C at *
  have old:∀b o,s2.heap.get? b=some o->h1.get? b=some o:=fun b o e=>hsb1.extBut b o (GO (Gr (Gg e) hCle)) (FT _ (hP▸FT _ e))
  generalize hDg:s2.heap.objs.size=D at *
  have hD0:h1.get? D=some { cls:=.type "list",data:=.seq ([]:List FU).toArray 0 }:=hsb1.extBut _ _ hDC (FT _ (hP▸hDg▸Gn _ rfl))
  have nC:H2 C=none:=I2.hok.fresh (by rw [hDg];exact hCle)
  have nD:H2 D=none:=I2.hok.fresh (by rw [hDg];exact FX _)
  have fo:∀b∈fp,∃o,s2.heap.get? b=some o:=fun b hb=>let ⟨o,e,_⟩:=T.obj _ _ st2 b hb;⟨o,e⟩
  have Dfp:D∉fp:=fun z=>by
    obtain ⟨o,e⟩:=fo D z
    have:=Gg e
    rw [hDg] at this
    exact absurd this (Hb _)
  have Dfs:D∉frs X.stack:=fun z=>by
    rcases List.mem_cons.mp (I2.stkSub D z) with e | e
    · have:=I2.lt
      rw [<- e,hDg] at this
      exact absurd this (Hb _)
    · exact I2.nofs (by rw [hDg];exact FX _) e
  have DcY:∀x c,(bF X.env scope.names []).lookup x=some c->c≠D:=fun x c e=>by
    rcases cR (G4 e) with h | h
    · cases h
    · exact (I2.fpOk (H':=H2) (b:=D) (by rw [hDg];exact FX _) nD).2.2.2.2.1 x c h
  -- the block's context
  have Yok:∀s4:FW,s4={ s2 with heap:=h1,toks:=s2.toks+([]:List (Str×FU)).length }->Inv (aj X scope (tg++cs) C fp s2 H2) [] (capt tg.length ix σ) H2 s4:=by
    rintro s4 rfl
    exact eh S I2 f2 fo (by rw [hDg];exact hCle) old (by simpa using hns1) rfl I2.bare nC
  -- the loop
  have loop:∀s4:FW,s4={ s2 with heap:=h1,toks:=s2.toks+([]:List (Str×FU)).length } ->
      IK (GM X.prog X.w) X.A (.compLoop (.ListComp elt [⟨target,iter,ifs,0⟩] scope pos) 0 (.ref it) (.ref D) (ID scope (bF X.env scope.names []) C X.env)) (L7 (GM X.prog X.w) X.A X.xe use Qc (.ref D) C) s4:=by
    intro s4 e4
    refine Jf rfl (fun n s'=>∃i ys its k H',Inv (aj X scope (tg++cs) C fp s2 H2) [] (capt tg.length ix σ) H' s'/\tn i s'.heap/\(∀b∈fp,H' b=none)/\H' D=none/\s'.heap.get? D=some { cls:=.type "list",data:=.seq (its:List FU).toArray k }/\Vals ys its/\W i n ys H')
      ?_ m0 ⟨0,[],[],0,H2,Yok s4 e4,?_,fun b hb=>(f2 b hb).1,nD,by rw [e4];exact hD0,.nil,w0⟩
    · rintro n s5 ⟨i,ys,its,k,H5,I5,st5,fr5,d5,o5,v5,w5⟩
      show GU _ X.A ((JA (.ListComp elt [⟨target,iter,ifs,0⟩] scope pos) 0 (.ref it) (.ref D) (ID scope (bF X.env scope.names []) C X.env)).onRaise (fun x=>do Lg x (ID scope (bF X.env scope.names []) C X.env);IQ x)) _ _ s5
      refine Jw ?_
      rw [compTurn_list]
      have pin0:Inv (aj X scope (tg++cs) C fp s2 H2) [(D,{ cls:=.type "list",data:=.seq its.toArray k })] (capt tg.length ix σ) H5 s5:=I5.pins_of fun p hp=>by
        have e:p=(D,{ cls:=.type "list",data:=.seq its.toArray k }):=by simpa using hp
        subst e
        exact ⟨o5,d5,hDC,Dfs,fun v z=>by have z':KI _ _=Ji v:=z;cases z'⟩
      have fpY:∀{H':Hp},(∀b∈fp,H' b=none)->∀b∈fp,d9 (aj X scope (tg++cs) C fp s2 H2) [(D,{ cls:=.type "list",data:=.seq its.toArray k })] H' b:=fun hn b hb=>
        ⟨hn b hb,(I5.ok.exf b hb).1,fun z=>I5.ok.exfs b hb z,.inl hb,(I5.ok.exf b hb).2,fun p hp z=>by
          have hp:p∈([]:List (Addr×Obj))++[(D,{ cls:=.type "list",data:=.seq its.toArray k })]:=hp
          have e:p=(D,{ cls:=.type "list",data:=.seq its.toArray k }):=by simpa using hp
          subst e
          have z:D=b:=z
          exact Dfp (z▸hb)⟩
      refine FR (Hd (FR ?_))
      rcases turn i n ys H5 w5 with ⟨stop,hz,qn⟩ | ⟨go,hz,Nx,hN,step⟩
      · refine thn (T.done (aj X scope (tg++cs) C fp s2 H2) rfl rfl rfl hcalm i _ s5 _ H5 _ pin0 (fpY fr5) st5 stop) fun r s6 zr1=>?_
        obtain ⟨hr,I6⟩:=zr1
        subst hr
        refine F7 ?_
        obtain ⟨mC,hnsC,_⟩:=id I6.loc
        have IX:Inv X pins σ H5 s6:=I2.call' (ch:=fp) I6.os I6.base I6.hok I6.bare fun b hb=>let ⟨_,a1,_,a3,a4,a5⟩:=f2 b hb;⟨a3,a1,a4,a5⟩
        obtain ⟨_,b1,_,b3,b4,b5⟩:=I2.fpOk (H':=H5) (b:=D) (by rw [hDg];exact FX _) d5
        obtain ⟨_,c1,c2,c3,c4,c5⟩:=I2.fpOk (H':=H5) (b:=C) (by rw [hDg];exact hCle) I6.free
        have gD:s6.heap.get? D=some { cls:=.type "list",data:=.seq its.toArray k }:=(I6.pin (D,{ cls:=.type "list",data:=.seq its.toArray k }) (FQ _ FZ)).1
        have IXD:Inv X pins σ (upd H5 D (.lst ys)) s6:=IX.track d5 (by rw [<- hDg];exact I2.sz) b1 b4 b5 ⟨hz,its,k,v5,gD⟩
        exact fin D C _ s6 _ IXD (qn D d5) ⟨by rw [aw (Ia hDC)];exact I6.free,c1,c2,c3,c4,c5⟩ ⟨mC,hnsC⟩
      · refine thn (T.item (aj X scope (tg++cs) C fp s2 H2) rfl rfl rfl hcalm i _ s5 _ H5 _ pin0 (fpY fr5) st5 go) fun r s6 zr1=>?_
        obtain ⟨u,hr,h6⟩:=zr1
        subst hr
        refine FR (thn h6 fun _ s7 zr1=>?_)
        obtain ⟨x,H7,I7,r7,y7,st7,fr7⟩:=zr1
        have I7':=I7.pinned (fpY fr7) (T.obj _ _ st7)
        -- the next turn
        have J9:∀{σ2:St} {H8:Hp} {s8:FW} {ys':List V} {its':List FU} {k':Nat} , Inv (aj X scope (tg++cs) C fp s2 H2) [] σ2 H8 s8->(σ2.length=(capt tg.length ix σ).length/\∀(i:Nat) (v:V),(capt tg.length ix σ)[i]?=some (some v)->σ2[i]?=some (some v)) ->
            (∀b∈fp,∀o,s7.heap.get? b=some o->s8.heap.get? b=some o)->(∀b∈fp,H8 b=none)->H8 D=none->s8.heap.get? D=some { cls:=.type "list",data:=.seq its'.toArray k' }->Vals ys' its'->Nx ys' H8 ->
            ∃m,m < n/\∃i ys its k H',Inv (aj X scope (tg++cs) C fp s2 H2) [] (capt tg.length ix σ) H' s8/\tn i s8.heap/\(∀b∈fp,H' b=none)/\H' D=none/\s8.heap.get? D=some { cls:=.type "list",data:=.seq (its:List FU).toArray k }/\Vals ys its/\W i m ys H':=by
          intro σ2 H8 s8 ys' its' k' I8 kp fk fn dn dg vv nx
          obtain ⟨m',hm,w8⟩:=hN ys' H8 nx
          exact ⟨m',hm,i+1,ys',its',k',H8,I8.weak kp.1.symm kp.2,T.keep _ _ _ st7 fk,fn,dn,dg,vv,w8⟩
        refine FR (Gy (hg C fp s2 H2 _ s7 _ H7 x u _ I7' r7 (kg x σ H7 _ (step x H7 y7))) (fun _ s8 zr1=>?_) fun _ _ z=>z.elim)
        obtain ⟨σ8,H8,I8,kp8,q8⟩:=zr1
        refine FR (Gy (hc C fp s2 H2 (hΦ _ _ _ _ I2) _ s8 σ8 H8 _ I8 q8) (fun ok s9 zr1=>?_) fun _ _ z=>z.elim)
        obtain ⟨H9,I9,q9⟩:=zr1
        have pinsOf:∀{σ':St} {H':Hp} {s':FW},Inv (aj X scope (tg++cs) C fp s2 H2) ([(D,{ cls:=.type "list",data:=.seq its.toArray k })]++bQ fp s7.heap) σ' H' s' ->
            (∀b∈fp,∀o,s7.heap.get? b=some o->s'.heap.get? b=some o)/\(∀b∈fp,H' b=none)/\H' D=none/\s'.heap.get? D=some { cls:=.type "list",data:=.seq its.toArray k }:=by
          intro σ' H' s' I'
          refine ⟨fun b hb o e=>(I'.pin (b,o) (FQ _ (FQ _ (aN hb e)))).1,fun b hb=>?_,(I'.pin (D,{ cls:=.type "list",data:=.seq its.toArray k }) (FQ _ (Gu _ FZ))).2.1,(I'.pin (D,{ cls:=.type "list",data:=.seq its.toArray k }) (FQ _ (Gu _ FZ))).1⟩
          obtain ⟨o,e,d⟩:=T.obj _ _ st7 b hb
          exact (I'.pin (b,o) (FQ _ (FQ _ (aN hb e)))).2.1
        cases ok with
        | false=>
          obtain ⟨p1,p2,p3,p4⟩:=pinsOf I9
          exact F7 ⟨rfl,J9 (I9.pins_of fun p hp=>nomatch hp) kp8 p1 p2 p3 p4 v5 q9⟩
        | true=>
          have q9:te σ8 H9 fun v H6=>Nx (ys++[v]) H6:=q9
          refine FR (FR (Gy (he C fp s2 H2 (hΦ _ _ _ _ I2) _ s9 σ8 H9 _ I9 q9) (fun y s10 zr1=>?_) fun _ _ z=>z.elim))
          obtain ⟨v,H10,I10,rv,nx⟩:=zr1
          obtain ⟨p1,p2,p3,p4⟩:=pinsOf I10
          have hl5:=v5.length
          refine FR (JT F.slot_list_append ⟨_,p4,rfl⟩ F.entry_list_append (F.args_list_append_2 _ _) (Ju D its.toArray k y (by rw [Ge];lia)) ⟨p4,?_⟩)
          have g10:=JH p4 (·.push y)
          rw [show its.toArray.push y=(its++[y]).toArray by simp] at g10
          have I11:Inv (aj X scope (tg++cs) C fp s2 H2) [] σ8 H10 s10:=I10.pins_of fun p hp=>nomatch hp
          have I12:Inv (aj X scope (tg++cs) C fp s2 H2) [] σ8 H10 { s10 with heap:=s10.heap.update D (Hq (·.push y)) }:=
            I11.turned (t':=s10.toks) (fun b o hb e=>(Hw s10.heap (Hq (·.push y)) (Ia hb)).trans e) p3 hDC (.inr (by show s2.heap.objs.size<=D;rw [hDg];exact FX _)) DcY (fun p hp=>nomatch hp)
          refine F7 (F7 ⟨rfl,J9 (its':=its++[y]) I12 kp8 (fun b hb o e=>?_) p2 p3 g10 (v5.append (.cons rv .nil)) nx⟩)
          exact (Hw s10.heap (Hq (·.push y)) (fun z:D=b=>Dfp (z▸hb))).trans (p1 b hb o e)
    · rw [e4];exact T.keep _ _ _ st2 fun b _ o e=>old b o e
  exact IL (loop _ rfl) (T.self _ 0 _ _ _ (T.keep _ _ _ st2 fun b _ o e=>old b o e) (loop _ rfl))
theorem qV {elt target iter:Expr} {ifs:List Expr} {scope:IR} {pos:Pos} {tg cs:List Str} {wi:TI} {g:TG} {tc:TT} {te:TE} (S:aR X scope tg cs ix) (hcalm:X.calm=true) (kg:cT tg.length ix g) {Φ:Hp->Prop} (hΦ:∀pins σ H s,Inv X pins σ H s->Φ H)
  (hi:PI X target iter wi) (hg:∀C fp s H,PG (aj X scope (tg++cs) C fp s H) target g) (hc:∀C fp s H,Φ H->PTs (aj X scope (tg++cs) C fp s H) ifs tc) (he:∀C fp s H,Φ H->PE (aj X scope (tg++cs) C fp s H) elt te)
  (hs:∀x,Gj iter X.env x=pure x:=by intro _;rfl):PE X (.ListComp elt [⟨target,iter,ifs,0⟩] scope pos) (ip wi tg.length ix g tc te):=by
 intro pins s σ H Q I h
 rw [eval_ListComp]
 refine jm S hcalm kg hΦ hi hg hc he hs I h fun D C H' s' v I' q fp z=>?_
 obtain ⟨f0,c1,_,c3,c4,c5⟩:=fp
 obtain ⟨m,hm⟩:=z
 exact ⟨m,hm,fun h' sb=>⟨.ref D,H',I'.turned (t':=s'.toks) (fun b o hb e=>(sb.2 b hb).trans e) f0 c1 c3 c4 c5,rfl,q⟩⟩
end
end L2
end
section
namespace L2
open PySem PySem.Spec PyProof.Rows
theorem lex_irrefl:∀a:List Int,HT.lexLt a a=false
 | []=>rfl
 | x::r=>by rw [HT.cj,if_pos rfl];exact lex_irrefl r
theorem lex_trans:∀a b c:List Int,HT.lexLt a b=true->HT.lexLt b c=true->HT.lexLt a c=true
 | [],_,[],h1,h2=>by
  rename_i b
  cases b with
  | nil=>exact h1
  | cons y r=>cases h2
 | [],_,_::_,_,_=>rfl
 | x::r,[],_,h1,_=>by cases h1
 | x::r,y::t,[],_,h2=>by cases h2
 | x::r,y::t,z::u,h1,h2=>by
  rw [HT.cj] at *
  by_cases e1:x=y
  ·rw [if_pos e1] at h1
   by_cases e2:y=z
   ·rw [if_pos e2] at h2
    rw [if_pos (e1.trans e2)]
    exact lex_trans r t u h1 h2
   ·rw [if_neg e2] at h2
    rw [if_neg (by lia)]
    rw [e1];exact h2
  ·rw [if_neg e1] at h1
   have h1:=of_decide_eq_true h1
   by_cases e2:y=z
   ·rw [if_neg (by lia)]
    exact decide_eq_true (by lia)
   ·rw [if_neg e2] at h2
    have h2:=of_decide_eq_true h2
    rw [if_neg (by lia)]
    exact decide_eq_true (by lia)
theorem eW:∀a b:List Int,HT.lexLt a b=false->HT.lexLt b a=false->a=b
 | [],[],_,_=>rfl
 | [],_::_,h,_=>by cases h
 | _::_,[],_,h=>by cases h
 | x::r,y::t,h1,h2=>by
  rw [HT.cj] at *
  by_cases e:x=y
  ·rw [if_pos e] at h1
   rw [if_pos e.symm] at h2
   rw [e,eW r t h1 h2]
  ·rw [if_neg e] at h1
   rw [if_neg (Ia e)] at h2
   have h1:=of_decide_eq_false h1
   have h2:=of_decide_eq_false h2
   lia
theorem fO:∀a b c:List Int,HT.lexLt a c=true->HT.lexLt a b=true\/HT.lexLt b c=true:=fun a b c h=>by
 cases h1:HT.lexLt a b with
 | true=>exact .inl rfl
 | false=>
  right
  cases h2:HT.lexLt b a with
  | true=>exact lex_trans b a c h2 h
  | false=>rw [<- eW a b h1 h2];exact h
def lexOrd:Kw:=⟨List Int,HT.lexLt,lex_irrefl,lex_trans,fO,eW⟩
def lexLe (a b:List Int):Bool:=!HT.lexLt b a
theorem lr (a b c:List Int) (h1:lexLe a b=true) (h2:lexLe b c=true):lexLe a c=true:=by
 unfold lexLe at *
 cases h:HT.lexLt c a with
 | false=>rfl
 | true=>
  rcases fO c b a h with z | z
  ·rw [z] at h2;cases h2
  ·rw [z] at h1;cases h1
theorem lu (a b:List Int):(lexLe a b||lexLe b a)=true:=by
 unfold lexLe
 cases h:HT.lexLt b a with
 | false=>rfl
 | true=>
  cases h':HT.lexLt a b with
  | false=>rfl
  | true=>have:=lex_trans a b a h' h;rw [lex_irrefl] at this;cases this
theorem iq (a b:List Int) (h1:lexLe a b=true) (h2:lexLe b a=true):a=b:=by
 unfold lexLe at *
 exact eW a b (by simpa using h2) (by simpa using h1)
def srt (l:List (List Int)):List (List Int):=l.mergeSort lexLe
theorem bY (l:List (List Int)):(srt l).Perm l:=List.mergeSort_perm l lexLe
theorem ir (l:List (List Int)):(srt l).Pairwise (fun a b=>lexLe a b=true):=List.pairwise_mergeSort (le:=lexLe) lr lu l
theorem fj:∀{a b:List (List Int)},a.Perm b->a.Pairwise (fun a b=>lexLe a b=true)->b.Pairwise (fun a b=>lexLe a b=true)->a=b
 | [],b,p,_,_=>(List.perm_nil.mp p.symm).symm
 | x::r,[],p,_,_=>by have:=p.length_eq;simp at this
 | x::r,y::t,p,ha,hb=>by
  rw [List.pairwise_cons] at ha hb
  have e:x=y:=by
   have hx:x∈y::t:=p.mem_iff.mp FZ
   have hy:y∈x::r:=p.mem_iff.mpr FZ
   rcases List.mem_cons.mp hx with h | h
   ·exact h
   ·rcases List.mem_cons.mp hy with h' | h'
    ·exact h'.symm
    ·exact iq x y (ha.1 y h') (hb.1 x h)
  subst e
  rw [fj (List.Perm.cons_inv p) ha.2 hb.2]
theorem qW {a l:List (List Int)} (p:a.Perm l) (h:a.Pairwise (fun a b=>lexLe a b=true)):a=srt l:=fj (p.trans (bY l).symm) h (ir l)
section
variable {X:Cx} {pins:List (Addr×Obj)} {σ:St} {H:Hp} {s:FW}
theorem Inv.kept_led {h':Heap} {m:Str->Option FU} (I:Inv X pins σ H s) (F':Fr X.base X.env.locals h' m) (N':News X.base X.env.locals h' (fF X.base s.heap X.env.locals)):∀b o,b≠X.env.locals->s.heap.get? b=some o->h'.get? b=some o:=fun b o hb e=>by
 cases q:X.base.get? b with
 | some u=>
  have:=I.bk b u q
  rw [e] at this;cases this
  exact F'.keep b _ q
 | none=>exact (N' (b,o) (kS hb q e)).1
theorem Inv.led {h':Heap} {m:Str->Option FU} {t':Nat} (I:Inv X pins σ H s) (hm:s.heap.Ns X.env.locals m) (F':Fr X.base X.env.locals h' m) (N':News X.base X.env.locals h' (fF X.base s.heap X.env.locals)) :
  Inv X pins σ H { s with heap:=h',toks:=t' }:=by
 have k:=I.kept_led F' N'
 refine I.step (g':=s.gens) (d':=s.drawn) (ch:=[]) (fun _ z=>nomatch z) (fun b o hb _ _ e _=>k b o hb e) (fun b o hb _ _ e _=>⟨o.slots,k b o hb e⟩) (fun _ _ _ _ n=>n) (fun b o _ e=>?_) (fun _ _ e=>e) (fun _ _ _ e=>e) (fun b ps e=>⟨#[],by rw [e];simp⟩) (fun m' hm'=>?_) (fun b u e=>?_) I.bare
 ·by_cases hb:b=X.env.locals
  ·obtain ⟨o',_,_,ho,_⟩:=F'.ns
   exact ⟨o',by rw [hb];exact ho⟩
  ·exact ⟨o,k b o hb e⟩
 ·have em:m'=m:=by
   obtain ⟨o,es,ep,ho,hd,_,hf⟩:=hm
   obtain ⟨o2,es2,ep2,ho2,hd2,_,hf2⟩:=hm'
   rw [ho] at ho2;cases ho2
   rw [hd] at hd2;cases hd2
   funext x
   rw [<- hf x,<- hf2 x]
  rw [em];exact F'.ns
 ·refine (I.hok b u e).stay (fun c v hc q=>k c v ?_ q) (fun _ q=>q) fun _ _ q=>q
  rcases hc with z | z
  ·rw [z];exact aY e I.free
  ·exact aY z I.free
end
section
variable {prog:GD} {w:Hg} {A:Ho} {E:FU->FW->Prop} {s:FW}
theorem qX {a:Addr} {vs:List FU} {n:Nat} {R:PySem.Fin->FW->Prop} (ho:s.heap.get? a=some (JD "list" vs.toArray n)) (hf:vs.length < 2)
  (h:R (.done (.ret .none)) { s with heap:=sortedHeap s.heap a vs vs.toArray }):GU (GM prog w) A (Builtin.«list.sort» ⟨[.ref a],[]⟩) R E s:=by
 have hlt:a < s.heap.objs.size:=Gg ho
 have few:vs.toArray.size < 2:=by rw [Ge];exact hf
 have hz:vs.length<=GG:=by rw [G9];lia
 obtain ⟨e,he⟩:∃e,(s.heap.update a (Hq fun _=>#[])).get? a=some (JD "list" #[] e):=⟨_,get?_update_seq ho (fun _=>#[])⟩
 rw [list_sort_plain]
 refine FR (listItems_at ho rfl (FR (KM ho rfl (FR (LP he rfl (FR (wpAny_newTuple (FR (KN (Hn ?_))) (hsz:=hz))))) (by rw [Ge];lia))))
 have he2:(((s.heap.update a (Hq fun _=>#[])).push (JD "tuple" vs.toArray 0)).push (JD "list" #[] 0)).get? a=some (JD "list" #[] e):=FT _ (FT _ he)
 dsimp only
 rw [if_pos few,if_pos few]
 refine FR (F7 ?_);rw [StateT.run_pure];refine FR (F7 ?_);dsimp only
 have em:Array.map (fun x:FU×FU=>x.2) (F8 (Mk general' (vs.toArray.zip vs.toArray) #[] 7 none))=vs.toArray:=by
  show Array.map (fun x:FU×FU=>x.2) (vs.toArray.zip vs.toArray)=vs.toArray
  apply Array.ext <;> simp
 refine FR (LP he2 rfl (FR (KM he2 rfl ?_ (hsz2:=by rw [em,Ge];lia))))
 rw [em]
 simp only [bne_self_eq_false,HE,if_false]
 exact F7 h
theorem mP {l:Addr} {vs:List FU} {Q:FU->FW->Prop} (hl:s.heap.IsList l vs.toArray) (hf:vs.length < 2) (h:Q (.ref (s.heap.objs.size+1)) { s with heap:=sortedAll s.heap vs vs.toArray }):GU (GM prog w) A (call (.builtin "sorted") [.ref l]) Q E s:=by
 have hz:vs.length<=GG:=by rw [G9];lia
 have z1:((s.heap.push (JD "list" #[] 0)).update s.heap.objs.size (Hq (·++vs.toArray))).objs.size=s.heap.objs.size+1:=by rw [Heap.size_update,size_push']
 have z2:(((s.heap.push (JD "list" #[] 0)).update s.heap.objs.size (Hq (·++vs.toArray))).push (JD "list" vs.toArray 0)).get? (s.heap.objs.size+1)=some (JD "list" vs.toArray 0):=z1▸Gn _ rfl
 have col:=fun R r=>collect_list (prog:=prog) (w:=w) (A:=A.in1) (E:=E) (Q:=R) hl r hz
 refine Km kind_sorted plain_sorted entry_sorted (args_sorted1 _) (FR (m:=checkCount "sorted" 1 1 _) (F7 (FR (m:=collect (.ref l)) (col _ (FR (KN ?_ (hsz:=hz)))))))
 dsimp only
 rw [z1]
 refine FR (Hn (Jc slot_list_sort ⟨_,z2,rfl⟩ entry_list_sort (qX z2 hf ⟨_,rfl,F7 ⟨_,rfl,h⟩⟩) (args_list_sort _)))
end
section
variable {X:Cx} {pins:List (Addr×Obj)} {σ:St} {H:Hp} {s:FW}
theorem Inv.trackN {D:Addr} {o:HO} (I:Inv X pins σ H s) (hn:H D=none) (hs:X.s₀.heap.get? D=none) (hL:D≠X.env.locals) (hc:∀x c,X.env.cells.lookup x=some c->c≠D) (hp:∀p∈X.pn++pins,p.1≠D)
  (new:br X.prog X.w (upd H D o) s.heap D o):Inv X pins σ (upd H D o) s:=by
 have nb:∀b ob,X.s₀.heap.get? b=some ob->b≠D:=fun b ob e z=>by subst z;rw [hs] at e;cases e
 have nt:∀b u,H b=some u->b≠D:=fun b u e=>aY e hn
 refine ⟨I.ok,I.os,I.bare,⟨I.base.keep,I.base.slot,fun b ob e n hx=>by rw [aw (nb b ob e)];exact I.base.free b ob e n hx,I.base.there,fun b xs e=>?_,fun b ob u e=>?_,fun b ps e=>?_⟩,I.loc,I.cell,by rw [aw hL.symm];exact I.free,fun x c e=>by rw [aw (hc x c e)];exact I.freeC x c e,fun p hpp=>?_,fun b u e=>?_,I.len⟩
 ·have q:=I.base.tups b xs e
  rw [aw (nt b _ q)];exact q
 ·have q:=I.base.frzs b ob u e
  rw [aw (nt b _ q)];exact q
 ·obtain ⟨more,q⟩:=I.base.tbls b ps e
  exact ⟨more,by rw [aw (nt b _ q)];exact q⟩
 ·obtain ⟨a,b,c,d,e⟩:=I.pin p hpp
  exact ⟨a,by rw [aw (hp p hpp)];exact b,c,d,e⟩
 ·by_cases hb:b=D
  ·subst hb;rw [az] at e;cases e;exact new
  ·rw [aw hb] at e
   exact (I.hok b u e).stay (fun _ _ _ q=>q) (fun c q=>by rw [aw (nt c _ q)];exact q) fun c xs q=>by rw [aw (nt c _ q)];exact q
theorem u7 {prog:GD} {w:Hg} {A:Ho} {Q:Bool->FW->Prop}:∀(ns ms:List Int) {us vs:List FU} (i:Nat) {fin:Bool},Vals (ns.map V.int) us->Vals (ms.map V.int) vs->fin=decide (us.length < vs.length)->Q (HT.lexLt ns ms) s ->
  PySem.W.KatLex prog w A true fin Q (us.zip vs) i s:=by
 intro ns
 induction ns with
 | nil=>
  intro ms us vs i fin r r' hf h
  have r:Vals [] us:=r
  cases r
  cases ms with
  | nil=>
   have r':Vals [] vs:=r'
   cases r'
   subst hf
   exact h
  | cons m ms=>
   have r':Vals (V.int m::ms.map V.int) vs:=r'
   cases r' with
   | cons a b=>
    subst hf
    exact h
 | cons n ns ih=>
  intro ms us vs i fin r r' hf h
  have r:Vals (V.int n::ns.map V.int) us:=r
  cases r with
  | cons q1 t=>
   cases ms with
   | nil=>
    have r':Vals [] vs:=r'
    cases r'
    subst hf
    exact h
   | cons m ms=>
    have r':Vals (V.int m::ms.map V.int) vs:=r'
    cases r' with
    | cons q2 t'=>
     obtain ⟨tk,rfl⟩:=q1
     obtain ⟨tk',rfl⟩:=q2
     rw [HT.cj] at h
     rw [Ke]
     refine PySem.W.kat_cons (L6 n tk m tk' prog w _ _ ?_)
     by_cases e:n=m
     ·rw [if_pos e] at h
      rw [show (n==m)=true by simpa using e]
      refine PySem.W.kat_yes (ih ms (i+1) t t' ?_ h)
      rw [hf]
      simp
     ·rw [if_neg e] at h
      rw [show (n==m)=false by simpa using e]
      refine PySem.W.kat_no ?_
      by_cases hi:i=0
      ·subst hi
       exact oneLt_int h
      ·rw [show (true&&i==0)=false by simp [hi]]
       exact PySem.W.kat_one _ _ (lt_int (show PySem.W.BoolBack _ (Lv _) _ from h))
theorem qY {h:Heap} {p:Addr} {its:List FU} (hne:ms≠[]) (r:Vals (ms.map V.int) its) (ht:IsTup h p its.toArray):∃(f:FU) (o:Obj) (n:Nat),(∃i t,f=K5 i t)/\h.get? p=some o/\o.cls=.type "tuple"/\o.data=.seq its.toArray n/\its.toArray[0]?=some f:=by
 obtain ⟨o,ho,hc,n,hd⟩:=ht
 cases ms with
 | nil=>exact absurd rfl hne
 | cons m ms=>
  have r:Vals (V.int m::ms.map V.int) its:=r
  cases r with
  | cons r1 r2=>
   obtain ⟨t,rfl⟩:=r1
   exact ⟨_,o,n,⟨m,t,rfl⟩,ho,hc,hd,by simp⟩
theorem mQ {h:Heap} (hT:∀a xs,SqT X.K H a xs->∃its:List FU,Vals xs its/\IsTup h a its.toArray) {ps:List Addr} (ht:ik X.K H ps mss):(∀ms∈mss,ms≠[]) ->
  ∃fs:List FU,PySem.W.KatTups h (ps.map G0) fs/\fs.length=ps.length/\∀v∈fs,∃i t,v=K5 i t:=by
 unfold ik at ht
 induction ht with
 | nil=>exact fun _=>⟨[],trivial,rfl,(fun _ h=>nomatch h)⟩
 | cons hp t ih=>
  intro hne
  obtain ⟨fs,h1,h2,h3⟩:=ih fun m hm=>hne m (GB _ hm)
  obtain ⟨its,r,tt⟩:=hT _ _ hp
  obtain ⟨f,o,n,hi,ho,hc,hd,h0⟩:=qY (hne _ FZ) r tt
  refine ⟨f::fs,PySem.W.KatTups.cons ho hc hd h0 h1,by simp [h2],fun v hv=>?_⟩
  rcases List.mem_cons.mp hv with rfl | hv
  ·exact hi
  ·exact h3 v hv
theorem jn:∀{ps:List Addr} {us:List FU},Vals (ps.map V.ref) us->us=ps.map G0
 | [],_,.nil=>rfl
 | p::ps,_,.cons r t=>by
  rw [jn t]
  cases r
  rfl
theorem jo:∀(ps:List Addr),Vals (ps.map V.ref) (ps.map G0)
 | []=>.nil
 | p::ps=>.cons rfl (jo ps)
end
end L2
end
section
namespace L2
open PySem PySem.Spec PyProof.Rows
theorem br.there {P:GD} {w:Hg} {h:Heap} {a:Addr} {o:HO} (x:br P w H h a o):∃ob,h.get? a=some ob:=by
 cases o with
 | lst xs=>obtain ⟨_,_,_,_,e⟩:=x;exact ⟨_,e⟩
 | tup xs=>obtain ⟨_,_,_,ob,e,_⟩:=x;exact ⟨_,e⟩
 | dK kvs=>obtain ⟨_,_,_,_,o,_,_,e,_⟩:=x;exact ⟨_,e⟩
 | dT kvs=>obtain ⟨_,_,_,_,o,_,_,e,_⟩:=x;exact ⟨_,e⟩
 | set S n=>obtain ⟨o,_,_,_,e,_⟩:=x;exact ⟨_,e⟩
 | ins C dx fs=>obtain ⟨_,_,_,e,_⟩:=x;exact ⟨_,e⟩
 | own y=>exact x
 | xd fs=>obtain ⟨_,⟨_,_,_,e,_⟩,_⟩:=x;exact ⟨_,e⟩
 | rng lo hi=>obtain ⟨_,_,_,e⟩:=x;exact ⟨_,e⟩
 | frz ob u=>obtain ⟨e,_⟩:=x;exact ⟨_,e⟩
 | tbl ps=>obtain ⟨_,e,_⟩:=x;exact ⟨_,e⟩
 | met f y=>exact ⟨_,x⟩
 | ext φ=>exact x.2.1
end L2
end
section
namespace L2
open PySem PySem.Spec PyProof.Rows
def mR (scope osc:IR) (N tg cs:List Str) (ix:List Nat):Prop:=
 (∀y∈scope.names,y.2≠.cell)/\(∀y∈scope.names,y.2=.local->scope.names.lookup y.1=some .local)/\(tg++cs).Nodup/\ix.map (fun i=>N[i]?)=cs.map some /\
 (∀x∈cs,(x,G5)∈scope.names/\scope.names.lookup x=some .free)/\∀y∈scope.names,y.2=.free->osc.names.lookup y.1=some .cell\/osc.names.lookup y.1=some .free
instance (scope osc:IR) (N tg cs:List Str) (ix:List Nat):Decidable (mR scope osc N tg cs ix):=by unfold mR;infer_instance
theorem aK {X:Cx} {scope:IR} {tg cs:List Str} (osc:IR) (N:List Str) (h:mR scope osc N tg cs ix) (hk:scope.kind=.function:=by rfl) (ho:X.env.scope=osc:=by rfl) (hN:X.N=N:=by rfl):aR X scope tg cs ix:=by
 obtain ⟨h1,h2,h3,h4,h5,h6⟩:=h
 exact ⟨hk,h1,h2,h3,by rw [hN];exact h4,h5,fun x hx=>by rw [ho];exact h6 (x,.free) hx rfl⟩
end L2
end
section
namespace L2
open PySem PySem.Spec PyProof.Rows
section
variable {X:Cx} {pins:List (Addr×Obj)} {σ:St} {H H1:Hp} {s:FW}
theorem lw {elt target iter:Expr} {ifs:List Expr} {scope:IR} {pos spos py:Pos} {yy:Str} {ii:Nat} {tg cs:List Str} {wi:TI} {g:TG} {tc:TT} {te:TE} (hN0:X.N.Nodup) (hi0:X.N[ii]?=some yy) (hx0:Loc X.env.scope yy)
  (S:aR X scope tg cs ix) (hcalm:X.calm=true) (kg:cT tg.length ix g)
  (hi:PI X target iter wi) (hg:∀C fp s H,PG (aj X scope (tg++cs) C fp s H) target g) (hc:∀C fp s H,PTs (aj X scope (tg++cs) C fp s H) ifs tc) (he:∀C fp s H,PE (aj X scope (tg++cs) C fp s H) elt te)
  (hf0:X.fn yy=true\/X.env.scope.names.lookup yy=some .local)
  (hsw:HJ (.ListComp elt [⟨target,iter,ifs,0⟩] scope pos) (some (.Name yy py)) spos.line X.env=pure true)
  (hs:∀x,Gj iter X.env x=pure x:=by intro _;rfl):PS X (.Assign [.Name yy py] (.ListComp elt [⟨target,iter,ifs,0⟩] scope pos) spos) (cQ (ip wi tg.length ix g tc te) (aX ii)):=by
 intro pins s σ H Dn I h
 rw [JE _ _ _ _ hsw]
 refine FR (Hd (FR ?_))
 show GU _ X.A (do let _ <- KL (.ListComp elt [⟨target,iter,ifs,0⟩] scope pos) scope X.env _ (newList []) false (eval iter X.env) (some (I0 (.Name yy py) X.env))) _ _ s
 refine FR (Gy (jm (use:=some (I0 (.Name yy py) X.env)) (Qc:=fun _ s'=>SP X pins Dn .next s') S hcalm kg (Φ:=fun _=>True) (fun _ _ _ _ _=>trivial) hi hg (fun C fp s H _=>hc C fp s H) (fun C fp s H _=>he C fp s H) hs I h fun D C H' s' v I' q fp z=>?_) (fun _ s' hq=>F7 (F7 hq)) fun _ _ e=>e)
 obtain ⟨f0,c1,_,c3,c4,c5⟩:=fp
 obtain ⟨m,hm⟩:=z
 show GU _ X.A (I0 (.Name yy py) X.env (.ref D)) _ _ s'
 refine Js (eU (v:=.ref D) I' hN0 hi0 hx0 rfl (fun s'' I'' zq=>?_) hf0)
 obtain ⟨a,sb,ha⟩:=zq
 have hCa:C≠a:=by
  rcases ha with rfl | ha
  ·exact c1
  ·exact (c4 _ _ ha).symm
 exact ⟨m,hm.sameBut sb hCa,fun h' sb'=>⟨_,_,I''.turned (t':=s''.toks) (it:=C) (fun b o hb e=>(sb'.2 b hb).trans e) f0 c1 c3 c4 c5,q⟩⟩
end
end L2
end
section
namespace VL
open PySem L2
def IsM:Option HO->Prop
 | some (.lst _)=>True
 | some (.ext _)=>True
 | _=>False
theorem IsM.ne {o:Option HO} (h:IsM o):o≠none:=by rintro rfl;exact h
abbrev AP:=Addr->Prop
abbrev FP:=Option Addr->Prop
structure C6 where
 ok:FO->AP->FP->Hp->Addr->Prop
 mono:∀{K:FO} {N N':AP} {F F':FP} {H H':Hp} {v:Addr},(∀a,N a->H a≠none->N' a/\H' a=H a)->(∀o,F o->F' o)->ok K N F H v->ok K N' F' H' v
 avoid:∀{K:FO} {N N':AP} {F:FP} {H:Hp} {v:Addr},(∀a,¬N' a->IsM (H a))->(∀a,F (some a)->N' a)->ok K N F H v->ok K N' F H v
 both:∀{K:FO} {N:AP} {F F':FP} {H:Hp} {v:Addr},(∀a,N a->IsM (H a)->F (some a)->F' (some a))->(F none->F' none)->ok K N F H v->ok K N F' H v
 reN:∀{K:FO} {N N':AP} {F:FP} {H:Hp} {v:Addr},(∀a,IsM (H a)->N' a)->ok K N F H v->ok K N' F H v
inductive D where
 | int (i:Int) | bl (b:Bool) | non | str (x:Str) | ty (n:String) | tup (ds:List D) | lst (ds:List D) | dic (ks:List (List Int)) (vs:List D) | exc (c:FU) | dib (kds:List D) (vs:List D) | oth (k:C6)
def kT (ms:List Int):D:=.tup (ms.map .int)
def Fj:D->Int
 | .int i=>i
 | .bl b=>if b then 1 else 0
 | _=>0
def Au:D->Bool
 | .int _=>true
 | .bl _=>true
 | _=>false
def kN:D->List Int
 | .tup ds=>ds.map Fj
 | _=>[]
def Fk:D->Bool
 | .tup ds=>ds.all Au
 | _=>false
def Any:AP:=fun _=>True
def AnyF:FP:=fun _=>True
def Fr (H0:Hp):FP:=fun o=>∃a,o=some a/\H0 a=none
mutual
inductive Rep (K:FO) (N:AP) (F:FP) (H:Hp):V->D->Prop where
 | int (i:Int):Rep K N F H (.int i) (.int i)
 | bl (b:Bool):Rep K N F H (.bl b) (.bl b)
 | non:Rep K N F H .non .non
 | str (x:Str):Rep K N F H (.str x) (.str x)
 | ty (x:String):Rep K N F H (.ty x) (.ty x)
 | tup {a:Addr} {vs:List V} {ds:List D} (n:N a) (h:Rd H a (.tup vs)) (r:Reps K N F H vs ds):Rep K N F H (.ref a) (.tup ds)
 | tupK {a:Addr} {vs:List V} {ds:List D} (h:SqT K (fun _=>none) a vs) (r:Reps K N F H vs ds):Rep K N F H (.ref a) (.tup ds)
 | lst {a:Addr} {vs:List V} {ds:List D} (n:N a) (f:F (some a)) (h:H a=some (.lst vs)) (r:Reps K N F H vs ds):Rep K N F H (.ref a) (.lst ds)
 | lstF {a:Addr} {vs:List V} {ds:List D} {o:Obj} (n:N a) (f:F none) (h:H a=some (.frz o (.lst vs))) (r:Reps K N F H vs ds):Rep K N F H (.ref a) (.lst ds)
 | lstK {a:Addr} {vs:List V} {ds:List D} (f:F none) (h:SqL K (fun _=>none) a vs) (r:Reps K N F H vs ds):Rep K N F H (.ref a) (.lst ds)
 | dic {a:Addr} {ob:Obj} {es:List (List Int×Addr×V)} {ks:List (List Int)} {ds:List D} (n:N a) (f:F (some a)) (h:H a=some (ck a ob es)) (e:es.map (·.1)=ks) (rk:Reps K N F H (es.map fun x=>.ref x.2.1) (ks.map kT)) (r:Reps K N F H (es.map (·.2.2)) ds):Rep K N F H (.ref a) (.dic ks ds)
 | exc {x:Addr} {c:FU} {o:Obj} (n:N x) (h:H x=some (.frz o (.own x))) (e:o.cls=c):Rep K N F H (.ref x) (.exc c)
 | dib {a:Addr} {ob:Obj} {es:List (List Int×Addr×V)} {kds:List D} {ds:List D} (n:N a) (f:F (some a)) (h:H a=some (ck a ob es)) (e:es.map (·.1)=kds.map kN) (g:kds.all Fk=true) (rk:Reps K N F H (es.map fun x=>.ref x.2.1) kds) (r:Reps K N F H (es.map (·.2.2)) ds):Rep K N F H (.ref a) (.dib kds ds)
 | oth {a:Addr} {k:C6} (h:k.ok K N F H a):Rep K N F H (.ref a) (.oth k)
inductive Reps (K:FO) (N:AP) (F:FP) (H:Hp):List V->List D->Prop where
 | nil:Reps K N F H [] []
 | cons {v:V} {d:D} {vs:List V} {ds:List D} (h:Rep K N F H v d) (t:Reps K N F H vs ds):Reps K N F H (v::vs) (d::ds)
end
section
variable {K:FO} {N N':AP} {F F':FP} {H H' H0:Hp}
theorem Rd.there {a:Addr} {u:HO} (h:Rd H a u):H a≠none:=by rcases h with h | ⟨o,h⟩ <;> simp [h]
theorem Rd.keep {a:Addr} {u:HO} (h:Rd H a u) (e:H' a=H a):Rd H' a u:=by
 rcases h with h | ⟨o,h⟩
 ·exact .inl (e.trans h)
 ·exact .inr ⟨o,e.trans h⟩
mutual
theorem Rep.mono (hN:∀a,N a->H a≠none->N' a/\H' a=H a) (hF:∀o,F o->F' o) {v:V} {d:D}:Rep K N F H v d->Rep K N' F' H' v d
 | .int i=>.int i
 | .bl i=>.bl i
 | .non=>.non
 | .str i=>.str i
 | .ty i=>.ty i
 | .tup n h r=>.tup (hN _ n (Rd.there h)).1 (Rd.keep h (hN _ n (Rd.there h)).2) (Reps.mono hN hF r)
 | .tupK h r=>.tupK h (Reps.mono hN hF r)
 | .lst n f h r=>.lst (hN _ n (by simp [h])).1 (hF _ f) ((hN _ n (by simp [h])).2.trans h) (Reps.mono hN hF r)
 | .lstF n f h r=>.lstF (hN _ n (by simp [h])).1 (hF _ f) ((hN _ n (by simp [h])).2.trans h) (Reps.mono hN hF r)
 | .lstK f h r=>.lstK (hF _ f) h (Reps.mono hN hF r)
 | .dic n f h e rk r=>.dic (hN _ n (by simp [h])).1 (hF _ f) ((hN _ n (by simp [h])).2.trans h) e (Reps.mono hN hF rk) (Reps.mono hN hF r)
 | .exc n h e=>.exc (hN _ n (by simp [h])).1 ((hN _ n (by simp [h])).2.trans h) e
 | .dib n f h e g rk r=>.dib (hN _ n (by simp [h])).1 (hF _ f) ((hN _ n (by simp [h])).2.trans h) e g (Reps.mono hN hF rk) (Reps.mono hN hF r)
 | .oth (k:=k) h=>.oth (k.mono hN hF h)
theorem Reps.mono (hN:∀a,N a->H a≠none->N' a/\H' a=H a) (hF:∀o,F o->F' o) {vs:List V} {ds:List D}:Reps K N F H vs ds->Reps K N' F' H' vs ds
 | .nil=>.nil
 | .cons h t=>.cons (Rep.mono hN hF h) (Reps.mono hN hF t)
end
theorem Rep.any {d:D} (h:Rep K N F H v d):Rep K Any AnyF H v d:=h.mono (fun _ _ _=>⟨trivial,rfl⟩) (fun _ _=>trivial)
theorem Reps.any {ds:List D} (h:Reps K N F H vs ds):Reps K Any AnyF H vs ds:=h.mono (fun _ _ _=>⟨trivial,rfl⟩) (fun _ _=>trivial)
mutual
theorem Rep.avoid (h1:∀a,¬N' a->IsM (H a)) (h2:∀a,F (some a)->N' a) {v:V} {d:D}:Rep K N F H v d->Rep K N' F H v d
 | .int i=>.int i
 | .bl i=>.bl i
 | .non=>.non
 | .str i=>.str i
 | .ty i=>.ty i
 | .tup (a:=a) n h r=>.tup (GF fun z=>by
   have e:=h1 a z
   rcases h with h | ⟨o,h⟩ <;> rw [h] at e <;> exact e) h (Reps.avoid h1 h2 r)
 | .tupK h r=>.tupK h (Reps.avoid h1 h2 r)
 | .lst n f h r=>.lst (h2 _ f) f h (Reps.avoid h1 h2 r)
 | .lstF (a:=a) n f h r=>.lstF (GF fun z=>by
   have e:=h1 a z
   rw [h] at e;exact e) f h (Reps.avoid h1 h2 r)
 | .lstK f h r=>.lstK f h (Reps.avoid h1 h2 r)
 | .dic n f h e rk r=>.dic (h2 _ f) f h e (Reps.avoid h1 h2 rk) (Reps.avoid h1 h2 r)
 | .exc (x:=a) n h e=>.exc (GF fun z=>by
   have e:=h1 a z
   rw [h] at e;exact e) h e
 | .dib n f h e g rk r=>.dib (h2 _ f) f h e g (Reps.avoid h1 h2 rk) (Reps.avoid h1 h2 r)
 | .oth (k:=k) h=>.oth (k.avoid h1 h2 h)
theorem Reps.avoid (h1:∀a,¬N' a->IsM (H a)) (h2:∀a,F (some a)->N' a) {vs:List V} {ds:List D}:Reps K N F H vs ds->Reps K N' F H vs ds
 | .nil=>.nil
 | .cons h t=>.cons (Rep.avoid h1 h2 h) (Reps.avoid h1 h2 t)
end
mutual
def flat:D->Bool
 | .lst _=>false
 | .dic _ _=>false
 | .dib _ _=>false
 | .oth _=>false
 | .tup ds=>flats ds
 | _=>true
def flats:List D->Bool
 | []=>true
 | d::r=>flat d&&flats r
end
theorem gz:∀ms:List Int,flats (ms.map D.int)=true
 | []=>rfl
 | _::r=>by simp [flats,flat,gz r]
theorem et:∀ks:List (List Int),flats (ks.map kT)=true
 | []=>rfl
 | _::r=>by simp [flats,kT,flat,gz,et r]
mutual
theorem Rep.flat {v:V} {d:D}:Rep K N F H v d->VL.flat d=true->Rep K N F' H v d:=fun hh ee=>by
 cases hh with
 | int i=>exact .int i
 | bl i=>exact .bl i
 | non=>exact .non
 | str i=>exact .str i
 | ty i=>exact .ty i
 | tup n h r=>have e:=ee;exact .tup n h (Reps.flat r (by simpa [VL.flat] using e))
 | tupK h r=>have e:=ee;exact .tupK h (Reps.flat r (by simpa [VL.flat] using e))
 | lst n f h r=>have e:=ee;simp [VL.flat] at e
 | lstF n f h r=>have e:=ee;simp [VL.flat] at e
 | lstK f h r=>have e:=ee;simp [VL.flat] at e
 | dic n f h _ _ r=>have e:=ee;simp [VL.flat] at e
 | exc n h e0=>exact .exc n h e0
 | dib n f h _ _ _ r=>have e:=ee;simp [VL.flat] at e
 | oth h=>have e:=ee;simp [VL.flat] at e
theorem Reps.flat {vs:List V} {ds:List D}:Reps K N F H vs ds->flats ds=true->Reps K N F' H vs ds:=fun hh ee=>by
 cases hh with
 | nil=>exact .nil
 | cons h t=>
  have e:=ee
  simp only [flats,GC] at e
  exact .cons (Rep.flat h e.1) (Reps.flat t e.2)
end
theorem Reps.length:∀{vs:List V} {ds:List D},Reps K N F H vs ds->vs.length=ds.length
 | _,_,.nil=>rfl
 | _,_,.cons _ t=>by simp [Reps.length t]
theorem Reps.get:∀{vs:List V} {ds:List D} {i:Nat} {v:V},Reps K N F H vs ds->vs[i]?=some v->∃d,ds[i]?=some d/\Rep K N F H v d
 | _,_,0,_,.cons h _,e=>by simp at e;subst e;exact ⟨_,rfl,h⟩
 | _,_,i+1,v,.cons _ t,e=>by
  obtain ⟨d,h1,h2⟩:=Reps.get (i:=i) (v:=v) t (by simpa using e)
  exact ⟨d,by simpa using h1,h2⟩
 | _,_,_,_,.nil,e=>by simp at e
theorem Reps.getD:∀{vs:List V} {ds:List D} {i:Nat} {d:D},Reps K N F H vs ds->ds[i]?=some d->∃v,vs[i]?=some v/\Rep K N F H v d
 | _,_,0,_,.cons h _,e=>by simp at e;subst e;exact ⟨_,rfl,h⟩
 | _,_,i+1,v,.cons _ t,e=>by
  obtain ⟨d,h1,h2⟩:=Reps.getD (i:=i) (d:=v) t (by simpa using e)
  exact ⟨d,by simpa using h1,h2⟩
 | _,_,_,_,.nil,e=>by simp at e
theorem Reps.append:∀{vs ws:List V} {ds es:List D},Reps K N F H vs ds->Reps K N F H ws es->Reps K N F H (vs++ws) (ds++es)
 | _,_,_,_,.nil,s=>s
 | _,_,_,_,.cons h t,s=>.cons h (Reps.append t s)
theorem Reps.set {d:D} (h:Rep K N F H v d):∀{vs:List V} {ds:List D} (i:Nat),Reps K N F H vs ds->Reps K N F H (vs.set i v) (ds.set i d)
 | _,_,_,.nil=>by simpa using .nil
 | _,_,0,.cons _ t=>by simpa using .cons h t
 | _,_,i+1,.cons q t=>by simpa using .cons q (Reps.set h i t)
theorem Reps.rev {ds:List D} (h:Reps K N F H vs ds):Reps K N F H vs.reverse ds.reverse:=by
 induction ds generalizing vs with
 | nil=>cases h;simpa using .nil
 | cons d r ih=>
  cases h with
  | cons h t=>simp only [Jt];exact Reps.append (ih t) (.cons h .nil)
theorem Reps.ints:∀{ns:List Int},Reps K N F H (ns.map V.int) (ns.map D.int)
 | []=>.nil
 | _::r=>.cons (.int _) (Reps.ints (ns:=r))
theorem Reps.toInts:∀{vs:List V} {ns:List Int},Reps K N F H vs (ns.map D.int)->vs=ns.map V.int
 | _,[],.nil=>rfl
 | _,n::ns,.cons h t=>by cases h;rw [Reps.toInts t];rfl
theorem fP {a:Addr} (h:SqT K (fun _=>none) a vs):SqT K H a vs:=by
 rcases h with (h | ⟨o,h⟩) | h
 ·cases h
 ·cases h
 ·exact .inr h
theorem iu {a:Addr} (h:SqL K (fun _=>none) a vs):SqL K H a vs:=by
 rcases h with (h | ⟨o,h⟩) | h
 ·cases h
 ·cases h
 ·exact .inr h
theorem Rep.sqT {ds:List D} (h:Rep K N F H v (.tup ds)):∃a vs,v=.ref a/\SqT K H a vs/\Reps K N F H vs ds:=by
 cases h with
 | tup n h r=>exact ⟨_,_,rfl,.inl h,r⟩
 | tupK h r=>exact ⟨_,_,rfl,fP h,r⟩
theorem Rep.sqL {ds:List D} (h:Rep K N F H v (.lst ds)):∃a vs,v=.ref a/\SqL K H a vs/\Reps K N F H vs ds:=by
 cases h with
 | lst n f h r=>exact ⟨_,_,rfl,.inl (.inl h),r⟩
 | lstF n f h r=>exact ⟨_,_,rfl,.inl (.inr ⟨_,h⟩),r⟩
 | lstK f h r=>exact ⟨_,_,rfl,iu h,r⟩
theorem Rep.of_sqL {a:Addr} {ds:List D} (h:SqL K H a vs) (n:N a) (f:∀o,F o) (r:Reps K N F H vs ds):Rep K N F H (.ref a) (.lst ds):=by
 rcases h with (h | ⟨o,h⟩) | h
 ·exact .lst n (f _) h r
 ·exact .lstF n (f _) h r
 ·exact .lstK (f _) (.inr h) r
end
structure Fo where
 ok:FO->Hp->AP->Hp->Addr->Prop
 ism:∀{K:FO} {H0:Hp} {N:AP} {H:Hp} {a:Addr},ok K H0 N H a->IsM (H a)
 mono:∀{K:FO} {H0:Hp} {N N':AP} {H H':Hp} {a:Addr},(∀b,N b->H b≠none->N' b/\H' b=H b)->H' a=H a->ok K H0 N H a->ok K H0 N' H' a
inductive Sl where
 | no | val (d:D) | fre (d:D) | own (ds:List D) | pen (ad:Option Addr) (ns:List Int) | odi (ks:List (List Int)) (vs:List D) | obj (k:Fo)
def Sl.mut:Sl->Bool
 | .own _=>true
 | .pen _ _=>true
 | .odi _ _=>true
 | .obj _=>true
 | _=>false
def Mo (Z:AP) (σ:St) (S:List Sl) (a:Addr):Prop:=(∃(i:Nat) (s:Sl),S[i]?=some s/\s.mut=true/\σ[i]?=some (some (V.ref a)))\/Z a
abbrev NM (Z:AP) (σ:St) (S:List Sl):AP:=fun a=>¬Mo Z σ S a
def pH (K:FO) (H0:Hp) (N:AP) (H:Hp) (o:Option V):Sl->Prop
 | .no=>True
 | .val d=>∃v,o=some v/\Rep K N AnyF H v d
 | .fre d=>∃v,o=some v/\Rep K N (Fr H0) H v d
 | .own ds=>∃a vs,o=some (.ref a)/\H a=some (.lst vs)/\H0 a=none/\Reps K N (Fr H0) H vs ds
 | .pen ad ns=>∃a,o=some (.ref a)/\(∀b,ad=some b->a=b)/\H a=some (.lst (ns.map .int))
 | .odi ks ds=>∃a es,o=some (.ref a)/\(∃ob,H a=some (ck a ob es))/\H0 a=none/\(es.map (·.1)=ks/\Reps K N AnyF H (es.map fun x=>V.ref x.2.1) (ks.map kT))/\Reps K N (Fr H0) H (es.map (·.2.2)) ds
 | .obj k=>∃a,o=some (.ref a)/\H0 a=none/\k.ok K H0 N H a
structure OK (K:FO) (H0:Hp) (Z:AP) (σ:St) (H:Hp) (S:List Sl):Prop where
 len:σ.length=S.length
 at_:∀(i:Nat) (o:Option V) (s:Sl),σ[i]?=some o->S[i]?=some s->pH K H0 (NM Z σ S) H o s
 inj:∀(i j:Nat) (a:Addr) (s t:Sl),S[i]?=some s->S[j]?=some t->s.mut=true->t.mut=true->σ[i]?=some (some (V.ref a))->σ[j]?=some (some (V.ref a))->i=j
 dom:∀a,H a=none->H0 a=none
 zl:∀a,Z a->IsM (H a)
 nz:∀(i:Nat) (s:Sl) (a:Addr),S[i]?=some s->s.mut=true->σ[i]?=some (some (V.ref a))->¬Z a
def Step (Z:AP) (σ:St) (S:List Sl) (H:Hp) (σ':St) (S':List Sl) (H':Hp):Prop:=(∀a,NM Z σ S a->H a≠none->H' a=H a/\NM Z σ' S' a)/\(∀a,H' a=none->H a=none)/\∀a,Z a->H a≠none->H' a=H a
section
variable {K:FO} {N N':AP} {F F':FP} {H H' H'' H0:Hp} {Z:AP} {σ σ' σ'':St} {S S' S'':List Sl}
theorem Step.refl:Step Z σ S H σ S H:=⟨fun _ n _=>⟨rfl,n⟩,fun _ h=>h,fun _ _ _=>rfl⟩
theorem Step.trans (a:Step Z σ S H σ' S' H') (b:Step Z σ' S' H' σ'' S'' H''):Step Z σ S H σ'' S'' H'':=
 ⟨fun x n h=>by
  obtain ⟨e1,n1⟩:=a.1 x n h
  obtain ⟨e2,n2⟩:=b.1 x n1 (by rw [e1];exact h)
  exact ⟨e2.trans e1,n2⟩,fun x h=>a.2.1 x (b.2.1 x h),fun x z h=>by
  have e1:=a.2.2 x z h
  exact (b.2.2 x z (by rw [e1];exact h)).trans e1⟩
theorem Rep.step {d:D} (h:Rep K (NM Z σ S) F H v d) (st:Step Z σ S H σ' S' H'):Rep K (NM Z σ' S') F H' v d:=h.mono (fun a n e=>⟨(st.1 a n e).2,(st.1 a n e).1⟩) fun _ x=>x
theorem Reps.step {ds:List D} (h:Reps K (NM Z σ S) F H vs ds) (st:Step Z σ S H σ' S' H'):Reps K (NM Z σ' S') F H' vs ds:=h.mono (fun a n e=>⟨(st.1 a n e).2,(st.1 a n e).1⟩) fun _ x=>x
theorem Rep.stp {d:D} (h:Rep K (NM Z σ S) F H v d) (st:∀a,NM Z σ S a->H a≠none->H' a=H a/\NM Z σ' S' a):Rep K (NM Z σ' S') F H' v d:=h.mono (fun a n e=>⟨(st a n e).2,(st a n e).1⟩) fun _ x=>x
theorem OK.mo (k:OK K H0 Z σ H S) {a:Addr} (h:Mo Z σ S a):IsM (H a):=by
 rcases h with ⟨i,s,e1,e2,e3⟩ | h
 case inr=>exact k.zl a h
 have q:=k.at_ i _ s e3 e1
 cases s with
 | no=>cases e2
 | val d=>cases e2
 | fre d=>cases e2
 | own ds=>obtain ⟨b,vs,h1,h2,_⟩:=q;cases h1;rw [h2];trivial
 | pen ad ns=>obtain ⟨b,h1,_,h2⟩:=q;cases h1;rw [h2];trivial
 | odi ks ds=>obtain ⟨b,kvs,h1,⟨ob,h2⟩,_⟩:=q;cases h1;rw [h2];trivial
 | obj k=>obtain ⟨b,h1,_,h2⟩:=q;cases h1;exact k.ism h2
theorem OK.grow (k:OK K H0 Z σ H S) (h:∀a,H a≠none->H' a=H a):OK K H0 Z σ H' S where
 len:=k.len
 inj:=k.inj
 nz:=k.nz
 zl:=fun a z=>by
  have e:=k.zl a z
  rw [h a e.ne];exact e
 dom:=fun a e=>k.dom a (GF fun z=>by rw [h a z] at e;exact z e)
 at_:=fun i o s e1 e2=>by
  have q:=k.at_ i o s e1 e2
  have hm:∀a,NM Z σ S a->H a≠none->NM Z σ S a/\H' a=H a:=fun a n e=>⟨n,h a e⟩
  cases s with
  | no=>trivial
  | val d=>obtain ⟨v,e,r⟩:=q;exact ⟨v,e,r.mono hm fun _ x=>x⟩
  | fre d=>obtain ⟨v,e,r⟩:=q;exact ⟨v,e,r.mono hm fun _ x=>x⟩
  | own ds=>obtain ⟨a,vs,e,e',e0,r⟩:=q;exact ⟨a,vs,e,by rw [h a (by simp [e'])];exact e',e0,r.mono hm fun _ x=>x⟩
  | pen ad ns=>obtain ⟨a,e,e1,e'⟩:=q;exact ⟨a,e,e1,by rw [h a (by simp [e'])];exact e'⟩
  | odi ks ds=>obtain ⟨a,vs,e,⟨ob,e'⟩,e0,ek,r⟩:=q;exact ⟨a,vs,e,⟨ob,by rw [h a (by simp [e'])];exact e'⟩,e0,⟨ek.1,ek.2.mono hm fun _ x=>x⟩,r.mono hm fun _ x=>x⟩
  | obj k=>obtain ⟨a,e,e0,r⟩:=q;exact ⟨a,e,e0,k.mono hm (h a (k.ism r).ne) r⟩
theorem Step.grow (h:∀a,H a≠none->H' a=H a):Step Z σ S H σ S H':=⟨fun a n e=>⟨h a e,n⟩,fun a e=>GF fun z=>by rw [h a z] at e;exact z e,fun a _ e=>h a e⟩
theorem aQ {p:Addr} {o:HO} (hp:H p=none):∀a,H a≠none->upd H p o a=H a:=fun a e=>aw fun z=>e (by rw [z];exact hp)
end
inductive VR where
 | d (x:D) | own (i:Nat)
def getO:Option Sl->Option D
 | some (.own ds)=>some (.lst ds)
 | some (.pen _ ns)=>some (.lst (ns.map .int))
 | some (.odi ks vs)=>some (.dic ks vs)
 | _=>none
def get (S:List Sl):VR->Option D
 | .d x=>some x
 | .own i=>getO S[i]?
def eu (K:FO) (F:FP) (Z:AP) (σ:St) (S:List Sl) (H:Hp) (v:V):VR->Prop
 | .d x=>Rep K (NM Z σ S) F H v x
 | .own i=>σ[i]?=some (some v)
section
variable {K:FO} {N N':AP} {F F':FP} {H H' H'' H0:Hp} {Z:AP} {σ σ' σ'':St} {S S' S'':List Sl}
theorem eu.step {r:VR} (h:eu K F Z σ S H v r) (st:Step Z σ S H σ S' H'):eu K F Z σ S' H' v r:=by
 cases r with
 | d x=>exact Rep.step h st
 | own i=>exact h
theorem eu.get {r:VR} {x:D} (h:eu K F Z σ S H v r) (k:OK K H0 Z σ H S) (e:get S r=some x):Rep K Any AnyF H v x:=by
 cases r with
 | d y=>cases e;exact Rep.any h
 | own i=>
  have h:σ[i]?=some (some v):=h
  have e:getO S[i]?=some x:=e
  cases es:S[i]? with
  | none=>rw [es] at e;cases e
  | some s=>
   rw [es] at e
   cases s with
   | no=>cases e
   | val d=>cases e
   | fre d=>cases e
   | own ds=>
    cases e
    obtain ⟨a,vs,h1,h2,h3,h4⟩:=k.at_ i _ _ h es
    cases h1
    exact .lst trivial trivial h2 h4.any
   | pen ad ns=>
    cases e
    obtain ⟨a,h1,_,h2⟩:=k.at_ i _ _ h es
    cases h1
    exact .lst trivial trivial h2 Reps.ints
   | odi ks ds=>
    cases e
    obtain ⟨a,kvs,h1,⟨ob,h2⟩,h3,h4,h5⟩:=k.at_ i _ _ h es
    cases h1
    exact .dic trivial trivial h2 h4.1 h4.2.any h5.any
   | obj k=>cases e
end
abbrev VT:=List Sl->(VR->List Sl->Prop)->Prop
abbrev VTT:=List Sl->(Bool->List Sl->Prop)->Prop
abbrev VTA:=List Sl->(List VR->List Sl->Prop)->Prop
abbrev VTN:=List Sl->(List D->List Sl->Prop)->Prop
def FM (H0:Hp) (m:Bool):FP:=fun o=>m=true->Fr H0 o
def SndE (K:FO) (m:Bool) (te:TE) (t:VT):Prop:=∀H0 Z σ H S Q C,OK K H0 Z σ H S->t S Q->(∀v H' r S',OK K H0 Z σ H' S'->Step Z σ S H σ S' H'->eu K (FM H0 m) Z σ S' H' v r->Q r S'->C v H')->te σ H C
def SndT (K:FO) (te:TT) (t:VTT):Prop:=∀H0 Z σ H S Q C,OK K H0 Z σ H S->t S Q->(∀b H' S',OK K H0 Z σ H' S'->Step Z σ S H σ S' H'->Q b S'->C b H')->te σ H C
inductive cG (K:FO) (F:FP) (Z:AP) (σ:St) (S:List Sl) (H:Hp):List V->List VR->Prop where
 | nil:cG K F Z σ S H [] []
 | cons {v:V} {r:VR} {vs:List V} {rs:List VR} (h:eu K F Z σ S H v r) (t:cG K F Z σ S H vs rs):cG K F Z σ S H (v::vs) (r::rs)
def gets (S:List Sl):List VR->Option (List D)
 | []=>some []
 | r::rs=>match get S r,gets S rs with
  | some d,some ds=>some (d::ds)
  | _,_=>none
def C7 (K:FO) (m:Bool) (te:TA) (t:VTA):Prop:=∀H0 Z σ H S Q C,OK K H0 Z σ H S->t S Q->(∀vs H' rs S',OK K H0 Z σ H' S'->Step Z σ S H σ S' H'->cG K (FM H0 m) Z σ S' H' vs rs->Q rs S'->C vs H')->te σ H C
def SndN (K:FO) (te:TE) (t:VTN):Prop:=∀H0 Z σ H S Q C,OK K H0 Z σ H S->t S Q->(∀a vs ds H1 H' S',OK K H0 Z σ H1 S'->Step Z σ S H σ S' H1->H1 a=none->(∀b,H1 b≠none->H' b=H1 b)->H' a=some (.lst vs) ->
 Reps K (fun b=>NM Z σ S' b/\b≠a) (Fr H0) H' vs ds->Q ds S'->C (.ref a) H')->te σ H C
structure VE (K:FO) (X:Cx) (m:Bool) (e:Expr) (te:TE) (t:VT):Prop where
 pe:PE X e te
 snd:SndE K m te t
structure VTe (K:FO) (X:Cx) (e:Expr) (te:TT) (t:VTT):Prop where
 pe:PT X e te
 snd:SndT K te t
structure VWe (K:FO) (X:Cx) (e:Expr) (te:TT) (t:VTT):Prop where
 pe:PW X e te
 snd:SndT K te t
structure VA (K:FO) (X:Cx) (m:Bool) (es:List Expr) (te:TA) (t:VTA):Prop where
 pe:PA X es te
 snd:C7 K m te t
structure VN (K:FO) (X:Cx) (e:Expr) (te:TE) (t:VTN):Prop where
 pe:PE X e te
 snd:SndN K te t
section
variable {K:FO} {N N':AP} {F F':FP} {H H' H'' H0:Hp} {Z:AP} {σ σ' σ'':St} {S S' S'':List Sl}
theorem cG.gets {rs:List VR} {ds:List D} (h:cG K F Z σ S H vs rs) (k:OK K H0 Z σ H S) (e:gets S rs=some ds):Reps K Any AnyF H vs ds:=by
 induction h generalizing ds with
 | nil=>cases e;exact .nil
 | cons h t ih=>
  unfold VL.gets at e
  split at e
  ·rename_i d es h1 h2
   cases e
   exact .cons (h.get k h1) (ih h2)
  ·cases e
end
end VL
end
variable {kvs:List (List Int×VL.D)} {ds:List VL.D} {S:List VL.Sl} {d:VL.D} {r:VL.VR} {F:VL.FP} {Z:VL.AP} {H0:L2.Hp} {rs:List VL.VR} {q:VL.D->Prop} {p:List VL.D->(VL.D->Prop)->Prop}
section
namespace VL
open PySem L2
section
variable {K:FO} {X:Cx} {m:Bool} {e a b c:Expr} {ta tb tc te:TE} {va vb vc:VT} {pos:Pos}
theorem FM.any {a:Option Addr}:FM H0 false a:=fun z=>nomatch z
def vC (d:D):VT:=fun S Q=>Q (.d d) S
theorem af {i j}:VE K X m (.Constant (.int i) j pos) (tC (.int i)) (vC (.int i)):=⟨mD,fun _ _ _ _ _ _ _ k h q=>q _ _ (.d (.int i)) _ k .refl (Rep.int i) h⟩
theorem cy {i j}:VE K X m (.Constant (.bool i) j pos) (tC (.bl i)) (vC (.bl i)):=⟨CK,fun _ _ _ _ _ _ _ k h q=>q _ _ (.d (.bl i)) _ k .refl (Rep.bl i) h⟩
theorem Av {j}:VE K X m (.Constant .none j pos) (tC .non) (vC .non):=⟨zK,fun _ _ _ _ _ _ _ k h q=>q _ _ (.d .non) _ k .refl Rep.non h⟩
theorem mS {i j}:VE K X m (.Constant (.str i) j pos) (tC (.str i)) (vC (.str i)):=⟨zL,fun _ _ _ _ _ _ _ k h q=>q _ _ (.d (.str i)) _ k .refl (Rep.str i) h⟩
theorem ez (h:PE X e (tC v)) (r:∀N H,Rep K N AnyF H v d):VE K X false e (tC v) (vC d):=⟨h,fun _ _ _ _ _ _ _ k h q=>q _ _ (.d d) _ k .refl (show Rep K _ _ _ v d from (r _ _).mono (fun _ n _=>⟨n,rfl⟩) (fun _ _=>FM.any)) h⟩
def rdO (i:Nat):Option Sl->Option VR
 | some (.val d)=>some (.d d)
 | some (.fre d)=>some (.d d)
 | some (.own _)=>some (.own i)
 | some (.pen _ _)=>some (.own i)
 | some (.odi _ _)=>some (.own i)
 | some (.obj _)=>some (.own i)
 | _=>none
def qZ (i:Nat):VT:=fun S Q=>∃r,rdO i S[i]?=some r/\Q r S
theorem OK.var {H0 H:Hp} (k:OK K H0 Z σ H S) {i:Nat} (h:rdO i S[i]?=some r):∃v,σ[i]?=some (some v)/\eu K (FM H0 false) Z σ S H v r:=by
 have hl:=k.len
 cases es:S[i]? with
 | none=>rw [es] at h;cases h
 | some s=>
  have hi:i < σ.length:=by rw [hl];exact (List.getElem?_eq_some_iff.mp es).1
  have q:=k.at_ i _ s (FS hi) es
  rw [es] at h
  cases s with
  | no=>cases h
  | val d=>obtain ⟨v,e,r'⟩:=q;cases h;exact ⟨v,by rw [FS hi,e],r'.mono (fun _ n _=>⟨n,rfl⟩) fun _ _=>FM.any⟩
  | fre d=>obtain ⟨v,e,r'⟩:=q;cases h;exact ⟨v,by rw [FS hi,e],r'.mono (fun _ n _=>⟨n,rfl⟩) fun _ x _=>x⟩
  | own ds=>obtain ⟨a,vs,e,_⟩:=q;cases h;exact ⟨.ref a,by rw [FS hi,e],by show σ[i]?=_;rw [FS hi,e]⟩
  | pen ad ds=>obtain ⟨a,e,_⟩:=q;cases h;exact ⟨.ref a,by rw [FS hi,e],by show σ[i]?=_;rw [FS hi,e]⟩
  | odi ks ds=>obtain ⟨a,_,e,_⟩:=q;cases h;exact ⟨.ref a,by rw [FS hi,e],by show σ[i]?=_;rw [FS hi,e]⟩
  | obj k=>obtain ⟨a,e,_⟩:=q;cases h;exact ⟨.ref a,by rw [FS hi,e],by show σ[i]?=_;rw [FS hi,e]⟩
theorem ae (i:Nat) (h:PE X e (cA i)):VE K X false e (cA i) (qZ i):=⟨h,fun H0 Z σ H S Q C k zq1 hc=>by
 obtain ⟨r,h,q⟩:=zq1
 obtain ⟨v,e,rr⟩:=k.var h
 exact ⟨v,e,hc _ _ _ _ k .refl rr q⟩⟩
def q0 (t:VT):VT:=fun S Q=>t S fun r S'=>(match r with | .d d=>flat d=true | .own _=>True)/\Q r S'
theorem aG (h:VE K X false e te va):VE K X m e te (q0 va):=⟨h.pe,fun H0 Z σ H S Q C k t hc=>h.snd H0 Z σ H S _ C k t fun v H' r S' k' st rr ⟨f,q⟩=>hc v H' r S' k' st (by
 cases r with
 | d x=>exact Rep.flat rr f
 | own i=>exact rr) q⟩
def v2 (w:D->D->(D->Prop)->Prop) (va vb:VT):VT:=fun S Q=>va S fun ra S1=>vb S1 fun rb S2=>∃d1 d2,get S2 ra=some d1/\get S2 rb=some d2/\w d1 d2 fun d=>Q (.d d) S2
def cH (K:FO) (r:R2) (w:D->D->(D->Prop)->Prop):Prop:=∀(x y:V) (H:Hp) (d1 d2:D) (q:D->Prop) (C:VK),Rep K Any AnyF H x d1->Rep K Any AnyF H y d2->w d1 d2 q->(∀z dz,q dz->(∀N F,Rep K N F H z dz)->C z H)->r x y H C
theorem Aw {r:R2} {w:D->D->(D->Prop)->Prop} (L:cH K r w) (ha:SndE K false ta va) (hb:SndE K false tb vb):SndE K m (tOp r ta tb) (v2 w va vb):=by
 intro H0 Z σ H S Q C k t hc
 refine ha H0 Z σ H S _ _ k t fun x H1 ra S1 k1 st1 r1 t1=>?_
 refine hb H0 Z σ H1 S1 _ _ k1 t1 fun y H2 rb S2 k2 st2 r2 zr1=>?_
 obtain ⟨d1,d2,e1,e2,t2⟩:=zr1
 exact L x y H2 d1 d2 _ _ ((r1.step st2).get k2 e1) (r2.get k2 e2) t2 fun z dz q rz=>hc z H2 (.d dz) S2 k2 (st1.trans st2) (rz _ _) q
theorem aB {op:M6} {r:R2} {w:D->D->(D->Prop)->Prop} (ho:OpR X (Jb op) r) (L:cH K r w) (ha:VE K X false a ta va) (hb:VE K X false b tb vb):VE K X m (.BinOp a op b pos) (tOp r ta tb) (v2 w va vb):=⟨qG ho ha.pe hb.pe,Aw L ha.snd hb.snd⟩
@[reducible] def ofV:V->D
 | .int i=>.int i
 | .bl b=>.bl b
 | .str x=>.str x
 | .ty x=>.ty x
 | _=>.non
def scV:V->Bool
 | .int _=>true | .bl _=>true | .str _=>true | .non=>true | .ty _=>true | _=>false
theorem mT (h:scV v=true) {N:AP}:Rep K N F H v (ofV v):=by
 cases v <;> first | exact .int _ | exact .bl _ | exact .str _ | exact .non | exact .ty _ | cases h
def wI (C:Int->Int->Prop) (g:Int->Int->V):D->D->(D->Prop)->Prop:=fun d1 d2 q=>∃i j,d1=.int i/\d2=.int j/\C i j/\q (ofV (g i j))
def wI0 (g:Int->Int->V):D->D->(D->Prop)->Prop:=fun d1 d2 q=>∃i j,d1=.int i/\d2=.int j/\q (ofV (g i j))
theorem bR {C:Int->Int->Prop} {g:Int->Int->V} (hg:∀i j,scV (g i j)=true:=by intro _ _;rfl):cH K (rI C g) (wI C g):=by
 rintro x y H d1 d2 q Cc r1 r2 ⟨i,j,rfl,rfl,c,h⟩ hc
 cases r1;cases r2
 exact ⟨i,j,rfl,rfl,c,hc _ _ h fun _ _=>mT (hg i j)⟩
theorem aE {g:Int->Int->V} (hg:∀i j,scV (g i j)=true:=by intro _ _;rfl):cH K (rI0 g) (wI0 g):=by
 rintro x y H d1 d2 q Cc r1 r2 ⟨i,j,rfl,rfl,h⟩ hc
 cases r1;cases r2
 exact ⟨i,j,rfl,rfl,hc _ _ h fun _ _=>mT (hg i j)⟩
def toV:D->Option V
 | .int i=>some (.int i)
 | .bl b=>some (.bl b)
 | .str x=>some (.str x)
 | .non=>some .non
 | _=>none
theorem gL {u:V} {N:AP} (h:Rep K N F H v d) (e:toV d=some u):v=u:=by
 cases h <;> cases e <;> rfl
def wEq:D->D->(D->Prop)->Prop:=fun d1 d2 q=>∃x y,toV d1=some x/\toV d2=some y/\uO x y=true/\q (.bl (decide (x=y)))
def wNe:D->D->(D->Prop)->Prop:=fun d1 d2 q=>∃x y,toV d1=some x/\toV d2=some y/\uO x y=true/\q (.bl (!decide (x=y)))
theorem iw:cH K rEq wEq:=by
 rintro x y H d1 d2 q C r1 r2 ⟨x',y',e1,e2,s,h⟩ hc
 obtain rfl:=gL r1 e1
 obtain rfl:=gL r2 e2
 exact ⟨s,hc _ _ h fun _ _=>.bl _⟩
theorem Ax:cH K rNe wNe:=by
 rintro x y H d1 d2 q C r1 r2 ⟨x',y',e1,e2,s,h⟩ hc
 obtain rfl:=gL r1 e1
 obtain rfl:=gL r2 e2
 exact ⟨s,hc _ _ h fun _ _=>.bl _⟩
def jq (t:VT):VTT:=fun S Q=>t S fun r S'=>∃k,r=.d (.bl k)/\Q k S'
theorem u9 (h:SndE K m te va):SndT K (qJ te) (jq va):=fun H0 Z σ H S Q C k t hc=>h H0 Z σ H S _ _ k t fun v H' r S' k' st rr zq1=>by
 obtain ⟨b,e,q⟩:=zq1
 subst e
 cases (show Rep K _ _ H' v (.bl b) from rr)
 exact ⟨b,rfl,hc b H' S' k' st q⟩
theorem Fp (h:SndE K m te va):SndT K (tB te) (jq va):=fun H0 Z σ H S Q C k t hc=>h H0 Z σ H S _ _ k t fun v H' r S' k' st rr zq1=>by
 obtain ⟨b,e,q⟩:=zq1
 subst e
 cases (show Rep K _ _ H' v (.bl b) from rr)
 exact ⟨b,rfl,hc b H' S' k' st q⟩
theorem aT {op:CmpOp} {r:R2} {w:D->D->(D->Prop)->Prop} (ho:OpR X (Hx op) r) (L:cH K r w) (ha:VE K X false a ta va) (hb:VE K X false b tb vb) (hm:Jk op b=false):VTe K X (.Compare a [op] [b] pos) (qJ (tOp r ta tb)) (jq (v2 w va vb)):=
 ⟨uQ ho ha.pe hb.pe hm,u9 (m:=false) (Aw L ha.snd hb.snd)⟩
theorem eE {op:CmpOp} {r:R2} {w:D->D->(D->Prop)->Prop} (ho:OpR X (Hx op) r) (L:cH K r w) (ha:VE K X false a ta va) (hb:VE K X false b tb vb) (hm:Jk op b=false):VE K X m (.Compare a [op] [b] pos) (tOp r ta tb) (v2 w va vb):=
 ⟨uP ho ha.pe hb.pe hm,Aw L ha.snd hb.snd⟩
theorem bS (h:VE K X false e te va) (he:∀whole,LG e X.env whole=(do let v <- whole;IW e.pos;IY [v] (Mu v)):=by intro _;rfl):VTe K X e (tB te) (jq va):=⟨zM h.pe he,Fp h.snd⟩
def tru:D->Option Bool
 | .bl b=>some b
 | .int i=>some (i != 0)
 | .non=>some false
 | .lst ds=>some !ds.isEmpty
 | .tup ds=>some !ds.isEmpty
 | _=>none
section
variable {tA tB':TT} {wA wB:VTT} {rest:List Expr}
def C8 (t u:VTT):VTT:=fun S Q=>t S fun c S1=>if c=true then u S1 Q else Q false S1
def vOr (t u:VTT):VTT:=fun S Q=>t S fun c S1=>if c=true then Q true S1 else u S1 Q
def C9 (t:VTT):VTT:=fun S Q=>t S fun c S1=>Q (!c) S1
theorem nW (h:VTe K X a tA wA):VWe K X (.BoolOp .And [a] pos) tA wA:=⟨uG h.pe,h.snd⟩
theorem j4 (h:VTe K X a tA wA):VWe K X (.BoolOp .Or [a] pos) tA wA:=⟨zN h.pe,h.snd⟩
theorem rf (ha:VTe K X a tA wA) (hb:VWe K X (.BoolOp .And (b::rest) pos) tB' wB):VWe K X (.BoolOp .And (a::b::rest) pos) (CL tA tB') (C8 wA wB):=⟨zO ha.pe hb.pe,fun H0 Z σ H S Q C k t hc=>
 ha.snd H0 Z σ H S _ _ k t fun c H1 S1 k1 st1 q=>by
  cases c with
  | true=>rw [if_pos rfl] at q ⊢;exact hb.snd H0 Z σ H1 S1 _ _ k1 q fun c2 H2 S2 k2 st2 q2=>hc c2 H2 S2 k2 (st1.trans st2) q2
  | false=>rw [if_neg F4] at q ⊢;exact hc false H1 S1 k1 st1 q⟩
theorem fq (ha:VTe K X a tA wA) (hb:VWe K X (.BoolOp .Or (b::rest) pos) tB' wB):VWe K X (.BoolOp .Or (a::b::rest) pos) (tOr tA tB') (vOr wA wB):=⟨CN ha.pe hb.pe,fun H0 Z σ H S Q C k t hc=>
 ha.snd H0 Z σ H S _ _ k t fun c H1 S1 k1 st1 q=>by
  cases c with
  | false=>rw [if_neg F4] at q ⊢;exact hb.snd H0 Z σ H1 S1 _ _ k1 q fun c2 H2 S2 k2 st2 q2=>hc c2 H2 S2 k2 (st1.trans st2) q2
  | true=>rw [if_pos rfl] at q ⊢;exact hc true H1 S1 k1 st1 q⟩
theorem jr (h:VWe K X e tA wA):VTe K X e tA wA:=⟨h.pe.pt,h.snd⟩
theorem bZ (h:VTe K X a tA wA):VTe K X (.UnaryOp .Not a pos) (CM tA) (C9 wA):=⟨zP h.pe,fun H0 Z σ H S Q C k t hc=>h.snd H0 Z σ H S _ _ k t fun c H1 S1 k1 st1 q=>hc (!c) H1 S1 k1 st1 q⟩
def yk (ta tb:VT):VT:=fun S Q=>ta S fun r S1=>∃c,r=.d (.bl c)/\if c=true then tb S1 Q else Q (.d (.bl false)) S1
def yl (ta:VT):VT:=fun S Q=>ta S fun r S1=>∃c,r=.d (.bl c)/\Q (.d (.bl (!c))) S1
theorem iy {op} (h:VE K X m a ta va):VE K X m (.BoolOp op [a] pos) ta va:=⟨zQ h.pe,h.snd⟩
theorem eF (ha:VE K X m a ta va) (hb:VE K X m (.BoolOp .And (b::rest) pos) tb vb):VE K X m (.BoolOp .And (a::b::rest) pos) (ya ta tb) (yk va vb):=⟨zR ha.pe hb.pe,fun H0 Z σ H S Q C k t hc=>
 ha.snd H0 Z σ H S _ _ k t fun v H1 r S1 k1 st1 rr zq1=>by
  obtain ⟨c,e,q⟩:=zq1
  subst e
  cases (show Rep K _ _ H1 v (.bl c) from rr)
  refine ⟨c,rfl,?_⟩
  cases c with
  | true=>rw [if_pos rfl] at q ⊢;exact hb.snd H0 Z σ H1 S1 _ _ k1 q fun v2 H2 r2 S2 k2 st2 rr2 q2=>hc v2 H2 r2 S2 k2 (st1.trans st2) rr2 q2
  | false=>rw [if_neg F4] at q ⊢;exact hc _ H1 (.d (.bl false)) S1 k1 st1 (Rep.bl false) q⟩
theorem rh (ha:VE K X m a ta va):VE K X m (.UnaryOp .Not a pos) (yb ta) (yl va):=⟨zS ha.pe,fun H0 Z σ H S Q C k t hc=>
 ha.snd H0 Z σ H S _ _ k t fun v H1 r S1 k1 st1 rr zq1=>by
  obtain ⟨c,e,q⟩:=zq1
  subst e
  cases (show Rep K _ _ H1 v (.bl c) from rr)
  exact ⟨c,rfl,hc _ H1 (.d (.bl (!c))) S1 k1 st1 (Rep.bl _) q⟩⟩
def vIf (t:VTT) (ta tb:VT):VT:=fun S Q=>t S fun c S1=>if c=true then ta S1 Q else tb S1 Q
theorem ly (hc:VTe K X c tA wA) (ha:VE K X m a ta va) (hb:VE K X m b tb vb):VE K X m (.IfExp c a b pos) (tIf tA ta tb) (vIf wA va vb):=⟨qA hc.pe ha.pe hb.pe,fun H0 Z σ H S Q C k t hq=>
 hc.snd H0 Z σ H S _ _ k t fun c H1 S1 k1 st1 q=>by
  cases c with
  | true=>rw [if_pos rfl] at q ⊢;exact ha.snd H0 Z σ H1 S1 _ _ k1 q fun v2 H2 r2 S2 k2 st2 rr2 q2=>hq v2 H2 r2 S2 k2 (st1.trans st2) rr2 q2
  | false=>rw [if_neg F4] at q ⊢;exact hb.snd H0 Z σ H1 S1 _ _ k1 q fun v2 H2 r2 S2 k2 st2 rr2 q2=>hq v2 H2 r2 S2 k2 (st1.trans st2) rr2 q2⟩
end
def vUn (g:Int->V) (va:VT):VT:=fun S Q=>va S fun r S1=>∃i,get S1 r=some (.int i)/\Q (.d (ofV (g i))) S1
theorem cI {op:UnaryOp} {g:Int->V} (ho:UnR X (unaryOp op) (rU g)) (ha:VE K X false a ta va) (hg:∀i,scV (g i)=true:=by intro _;rfl):VE K X m (.UnaryOp op a pos) (tUn (rU g) ta) (vUn g va):=⟨yg ho ha.pe,fun H0 Z σ H S Q C k t hc=>
 ha.snd H0 Z σ H S _ _ k t fun v H1 r S1 k1 st1 rr zq1=>by
  obtain ⟨i,e,q⟩:=zq1
  cases rr.get k1 e
  exact ⟨i,rfl,hc _ H1 (.d (ofV (g i))) S1 k1 st1 (mT (hg i)) q⟩⟩
section
variable {es:List Expr} {tr:TA} {vr:VTA}
def Ay:VTA:=fun S Q=>Q [] S
def nX (va:VT) (vr:VTA):VTA:=fun S Q=>va S fun r S1=>vr S1 fun rs S2=>Q (r::rs) S2
theorem ai:VA K X m [] i7 Ay:=⟨fx,fun _ _ _ _ _ _ _ k h q=>q _ _ _ _ k .refl .nil h⟩
theorem aa (ha:VE K X m e te va) (hr:VA K X m es tr vr) (hs:Gi (e::es) X.env=(false,eval e X.env)::Gi es X.env:=by rfl):VA K X m (e::es) (dX te tr) (nX va vr):=⟨cL ha.pe hr.pe hs,fun H0 Z σ H S Q C k t hc=>
 ha.snd H0 Z σ H S _ _ k t fun v H1 r S1 k1 st1 rr q=>hr.snd H0 Z σ H1 S1 _ _ k1 q fun vs H2 rs S2 k2 st2 rrs q2=>hc (v::vs) H2 (r::rs) S2 k2 (st1.trans st2) (.cons (rr.step st2) rrs) q2⟩
def allD:List VR->Option (List D)
 | []=>some []
 | .d x::r=>(allD r).map (x::·)
 | _::_=>none
theorem cG.allD (h:cG K F Z σ S H vs rs) (e:VL.allD rs=some ds):Reps K (NM Z σ S) F H vs ds:=by
 induction h generalizing ds with
 | nil=>cases e;exact .nil
 | @cons v r vs rs h t ih=>
  cases r with
  | d x=>
   obtain ⟨es,h1,rfl⟩:=Option.map_eq_some_iff.mp (show (VL.allD rs).map (x::·)=some ds from e)
   exact .cons h (ih h1)
  | own i=>cases e
theorem cG.length (h:cG K F Z σ S H vs rs):vs.length=rs.length:=by
 induction h with
 | nil=>rfl
 | cons h t ih=>simp [ih]
theorem eG:∀{rs:List VR} {ds:List D},allD rs=some ds->ds.length=rs.length
 | [],_,e=>by cases e;rfl
 | .d x::r,ds,e=>by
  obtain ⟨es,h1,rfl⟩:=Option.map_eq_some_iff.mp (show (VL.allD r).map (x::·)=some ds from e)
  simp [eG h1]
 | .own _::_,_,e=>by cases e
def Az (vr:VTA):VT:=fun S Q=>vr S fun rs S1=>∃ds,allD rs=some ds/\ds.length<=1000/\Q (.d (.tup ds)) S1
theorem small {n:Nat} (h:n<=1000):n<=GG:=by rw [G9];lia
theorem OK.nm {H0 H:Hp} (k:OK K H0 Z σ H S) {p:Addr} (hp:H p=none):NM Z σ S p:=fun z=>by
 have e:=k.mo z
 rw [hp] at e;exact e
theorem aA {x1} (h:VA K X m es tr vr):VE K X m (.Tuple es x1 pos) (CT tr) (Az vr):=⟨Ag h.pe,fun H0 Z σ H S Q C k t hc=>
 h.snd H0 Z σ H S _ _ k t fun vs H1 rs S1 k1 st1 rrs ⟨ds,e,hl,q⟩=>⟨small (by rw [rrs.length,<- eG e];exact hl),fun p hp=>by
  have g:=aQ (o:=.tup vs) hp
  exact hc _ _ (.d (.tup ds)) S1 (k1.grow g) (st1.trans (.grow g)) (Rep.tup (k1.nm hp) (.inl az) ((rrs.allD e).mono (fun a n e=>⟨n,g a e⟩) fun _ x=>x)) q⟩⟩
def Da (vr:VTA):VTN:=fun S Q=>vr S fun rs S1=>∃ds,allD rs=some ds/\ds.length<=1000/\Q ds S1
theorem bJ {H0 H:Hp} {p:Addr} {o:HO} (hp:H p=none) (h:Reps K (NM Z σ S) (FM H0 true) H vs ds):Reps K (fun b=>NM Z σ S b/\b≠p) (Fr H0) (upd H p o) vs ds:=
 h.mono (fun a n e=>⟨⟨n,fun z=>e (by rw [z];exact hp)⟩,aQ hp a e⟩) fun _ x=>x rfl
theorem aV (h:VA K X true es tr vr):VN K X (.List es pos) (CU tr) (Da vr):=⟨Ah h.pe,fun H0 Z σ H S Q C k t hc=>
 h.snd H0 Z σ H S _ _ k t fun vs H1 rs S1 k1 st1 rrs ⟨ds,e,hl,q⟩=>⟨small (by rw [rrs.length,<- eG e];exact hl),fun p hp=>
  hc p vs ds H1 _ S1 k1 st1 hp (aQ hp) az (bJ hp (rrs.allD e)) q⟩⟩
def pI (t:VTN):VT:=fun S Q=>t S fun ds S1=>Q (.d (.lst ds)) S1
theorem aI {t:VTN} (h:VN K X e te t):VE K X m e te (pI t):=⟨h.pe,fun H0 Z σ H S Q C k t hc=>h.snd H0 Z σ H S _ _ k t fun a vs ds H1 H' S1 k1 st1 ha hg hl rr q=>by
 refine hc _ H' (.d (.lst ds)) S1 (k1.grow hg) (st1.trans (.grow hg)) (Rep.lst (k1.nm ha) (fun _=>⟨a,rfl,k1.dom a ha⟩) hl (rr.mono (fun b n e=>⟨n.1,rfl⟩) fun _ x _=>x)) q⟩
end
theorem eu.elems {H0 H:Hp} (h:eu K F Z σ S H v r) (k:OK K H0 Z σ H S) (e:VL.get S r=some (.lst ds)):∃a vs,v=.ref a/\SqL K H a vs/\Reps K (NM Z σ S) AnyF H vs ds:=by
 cases r with
 | d y=>
  cases e
  obtain ⟨a,vs,rfl,hq,rr⟩:=Rep.sqL h
  exact ⟨a,vs,rfl,hq,rr.mono (fun _ n _=>⟨n,rfl⟩) fun _ _=>trivial⟩
 | own i=>
  have h:σ[i]?=some (some v):=h
  have e:getO S[i]?=some (.lst ds):=e
  cases es:S[i]? with
  | none=>rw [es] at e;cases e
  | some s=>
   rw [es] at e
   cases s with
   | no=>cases e
   | val d=>cases e
   | fre d=>cases e
   | own ds=>
    cases e
    obtain ⟨a,vs,h1,h2,h3,h4⟩:=k.at_ i _ _ h es
    cases h1
    exact ⟨a,vs,rfl,.inl (.inl h2),h4.mono (fun _ n _=>⟨n,rfl⟩) fun _ _=>trivial⟩
   | pen ad ns=>
    cases e
    obtain ⟨a,h1,_,h2⟩:=k.at_ i _ _ h es
    cases h1
    exact ⟨a,_,rfl,.inl (.inl h2),Reps.ints⟩
   | odi ks ds=>cases e
   | obj k=>cases e
theorem eu.elemsT {H0 H:Hp} (h:eu K F Z σ S H v r) (k:OK K H0 Z σ H S) (e:VL.get S r=some (.tup ds)):∃a vs,v=.ref a/\SqT K H a vs/\Reps K (NM Z σ S) AnyF H vs ds:=by
 cases r with
 | d y=>
  cases e
  cases (show Rep K (NM Z σ S) F H v (.tup ds) from h) with
  | tup n h2 r2=>exact ⟨_,_,rfl,.inl h2,r2.mono (fun _ n _=>⟨n,rfl⟩) fun _ _=>trivial⟩
  | tupK h2 r2=>exact ⟨_,_,rfl,fP h2,r2.mono (fun _ n _=>⟨n,rfl⟩) fun _ _=>trivial⟩
 | own i=>
  have e:getO S[i]?=some (.tup ds):=e
  cases es:S[i]? with
  | none=>rw [es] at e;cases e
  | some s=>rw [es] at e;cases s <;> cases e
end
end VL
end
section
namespace VL
open PySem L2
section
variable {K:FO} {X:Cx} {m:Bool} {e a b c:Expr} {ta tb tc te:TE} {va vb vc:VT} {pos:Pos}
theorem lz {N:AP} {i:Int} (r:Reps K N F H vs ds) (h:atI ds i=some d):∃v,atI vs i=some v/\Rep K N F H v d:=by
 unfold atI at h ⊢
 rw [r.length]
 cases e:ixN ds.length i with
 | none=>rw [e] at h;cases h
 | some j=>
  rw [e] at h
  exact r.getD h
def vIx (va vb:VT):VT:=fun S Q=>va S fun ra S1=>vb S1 fun rb S2=>∃ds i d,(get S2 ra=some (.lst ds)\/get S2 ra=some (.tup ds))/\get S2 rb=some (.int i)/\atI ds i=some d/\Q (.d d) S2
theorem aF (hK:X.K=K) (ha:VE K X false a ta va) (hb:VE K X false b tb vb) (hs:fK b):VE K X false (.Subscript a b pos) (tOp (rIx K) ta tb) (vIx va vb):=⟨by subst hK;exact lg qO ha.pe hb.pe hs,fun H0 Z σ H S Q C k t hc=>
 ha.snd H0 Z σ H S _ _ k t fun x H1 ra S1 k1 st1 r1 t1=>hb.snd H0 Z σ H1 S1 _ _ k1 t1 fun y H2 rb S2 k2 st2 r2 zq1=>by
  obtain ⟨ds,i,d,e1,e2,e3,q⟩:=zq1
  cases r2.get k2 e2
  have fin:∀v,Rep K (NM Z σ S2) AnyF H2 v d->C v H2:=fun v rv=>hc v H2 (.d d) S2 k2 (st1.trans st2) (show Rep K _ _ H2 v d from rv.mono (fun _ n _=>⟨n,rfl⟩) fun _ _=>FM.any) q
  rcases e1 with e1 | e1
  ·obtain ⟨p,vs,rfl,hq,rr⟩:=(r1.step st2).elems k2 e1
   obtain ⟨v,h1,h2⟩:=lz rr e3
   exact .inl ⟨p,vs,i,v,rfl,rfl,hq,h1,fin v h2⟩
  ·obtain ⟨p,vs,rfl,hq,rr⟩:=(r1.step st2).elemsT k2 e1
   obtain ⟨v,h1,h2⟩:=lz rr e3
   exact .inr (.inl ⟨p,vs,i,v,rfl,rfl,hq,h1,fin v h2⟩)⟩
section
variable {es:List Expr} {tr:TA} {vr:VTA} {x:Str} {p:Pos} {id T:String} {r:List V->Hp->VK->Prop}
def vCB (w:List D->(D->Prop)->Prop) (vr:VTA):VT:=fun S Q=>vr S fun rs S1=>∃ds,gets S1 rs=some ds/\w ds fun d=>Q (.d d) S1
def iz (K:FO) (r:List V->Hp->VK->Prop) (w:List D->(D->Prop)->Prop):Prop:=∀(xs:List V) (H:Hp) (ds:List D) (q:D->Prop) (C:VK),Reps K Any AnyF H xs ds->w ds q->(∀z dz,q dz->(∀N F,Rep K N F H z dz)->C z H)->r xs H C
theorem Fq {w:List D->(D->Prop)->Prop} (L:iz K r w) (ha:C7 K false tr vr):SndE K m (tCB r tr) (vCB w vr):=fun H0 Z σ H S Q C k t hc=>
 ha H0 Z σ H S _ _ k t fun vs H1 rs S1 k1 st1 rrs zt1=>by obtain ⟨ds,e,q⟩:=zt1;exact L vs H1 ds _ _ (rrs.gets k1 e) q fun z dz q rz=>hc z H1 (.d dz) S1 k1 st1 (rz _ _) q
theorem aM {w:List D->(D->Prop)->Prop} (hc:cg X (.builtin id) r) (L:iz K r w) (hg:Gl X x) (hm:X.mg x=none) (hv:G2 x=some (.builtin id)) (ha:VA K X false (e::es) tr vr) (hn:x≠"__name__":=by decide) (hdb:(x==("__debug__":Str))=false:=by decide)
  (he:Gi (e::es) X.env=(false,eval e X.env)::Gi es X.env:=by rfl) (hpl:(IV pos (Gi es X.env)).any (·.1)=false:=by rfl):VE K X m (.Call (.Name x p) (e::es) [] pos) (tCB r tr) (vCB w vr):=⟨fI hc hg hm hv ha.pe hn hdb he hpl,Fq L ha.snd⟩
theorem rep1 {N:AP} {xs:List V} (h:Reps K N F H xs [d]):∃v,xs=[v]/\Rep K N F H v d:=by
 cases h with | cons h t=>cases t;exact ⟨_,rfl,h⟩
theorem rep2 {N:AP} {xs:List V} {d d':D} (h:Reps K N F H xs [d,d']):∃v u,xs=[v,u]/\Rep K N F H v d/\Rep K N F H u d':=by
 cases h with | cons h t=>cases t with | cons h' t=>cases t;exact ⟨_,_,rfl,h,h'⟩
def AA:List D->(D->Prop)->Prop:=fun ds q=>∃es,(ds=[.lst es]\/ds=[.tup es])/\q (.int es.length)
theorem fQ:iz K (fun xs H Q=>∃p ys,xs=[.ref p]/\(SqL K H p ys\/SqT K H p ys)/\Q (.int ys.length) H) AA:=by
 rintro xs H ds q C r ⟨es,rfl | rfl,h⟩ hc
 ·obtain ⟨v,rfl,rv⟩:=rep1 r
  obtain ⟨a,vs,rfl,hq,rr⟩:=rv.sqL
  exact ⟨a,vs,rfl,.inl hq,by rw [rr.length];exact hc _ _ h fun _ _=>.int _⟩
 ·obtain ⟨v,rfl,rv⟩:=rep1 r
  obtain ⟨a,vs,rfl,hq,rr⟩:=rv.sqT
  exact ⟨a,vs,rfl,.inr hq,by rw [rr.length];exact hc _ _ h fun _ _=>.int _⟩
def wMM (g:Int->Int->Int):List D->(D->Prop)->Prop:=fun ds q=>∃i j,ds=[.int i,.int j]/\q (.int (g i j))
theorem Dc {g:Int->Int->Int}:iz K (fun xs H Q=>∃i j,xs=[.int i,.int j]/\Q (.int (g i j)) H) (wMM g):=by
 rintro xs H ds q C r ⟨i,j,rfl,h⟩ hc
 obtain ⟨v,u,rfl,rv,ru⟩:=rep2 r
 cases rv;cases ru
 exact ⟨i,j,rfl,hc _ _ h fun _ _=>.int _⟩
def tyD:D->String
 | .int _=>"int" | .bl _=>"bool" | .non=>"NoneType" | .str _=>"str" | .tup _=>"tuple" | .lst _=>"list" | .ty _=>"type" | .dic _ _=>"dict" | .exc _=>"" | .dib _ _=>"dict" | .oth _=>""
def isE:D->Bool
 | .exc _=>true
 | .oth _=>true
 | _=>false
def Dd:List D->(D->Prop)->Prop:=fun ds q=>∃x c b,ds=[x,.ty c]/\(∀n,x≠.ty n)/\isE x=false/\pG (tyD x) c=some b/\q (.bl b)
theorem gA:iz K (Ar K) Dd:=by
 rintro xs H ds q C r ⟨x,c,b,rfl,hn,hE,e,h⟩ hc
 obtain ⟨v,u,rfl,rv,ru⟩:=rep2 r
 cases ru
 refine ⟨v,tyD x,c,b,rfl,?_,e,hc _ _ h fun _ _=>.bl _⟩
 cases rv with
 | int i=>exact .int i
 | bl i=>exact .bl i
 | non=>exact .non
 | str i=>exact .str i
 | ty i=>exact (hn _ rfl).elim
 | tup n h r=>exact .tup (.inl h)
 | tupK h r=>exact .tup (fP h)
 | lst n f h r=>exact .lst (.inl (.inl h))
 | lstF n f h r=>exact .lst (.inl (.inr ⟨_,h⟩))
 | lstK f h r=>exact .lst (iu h)
 | dic n f h e _ r=>exact .dE h
 | exc n h e=>cases hE
 | oth h=>cases hE
 | dib n f h e _ _ r=>exact .dE h
theorem cG.one {r:VR} (h:cG K F Z σ S H vs [r]):∃v,vs=[v]/\eu K F Z σ S H v r:=by
 cases h with | cons h t=>cases t;exact ⟨_,rfl,h⟩
def nY (vr:VTA):VTN:=fun S Q=>vr S fun rs S1=>∃r ds,rs=[r]/\(get S1 r=some (.lst ds)\/get S1 r=some (.tup ds))/\flats ds=true/\Q ds S1
theorem eX {H0 H:Hp} {p:Addr} {o:HO} (hp:H p=none) (h:Reps K (NM Z σ S) F H vs ds) (f:flats ds=true):Reps K (fun b=>NM Z σ S b/\b≠p) (Fr H0) (upd H p o) vs ds:=
 bJ hp (Reps.flat h f)
theorem nZ (hK:X.K=K) (hg:Gl X "list") (hm:X.mg "list"=none) (ha:VA K X false [e] tr vr) (he:Gi [e] X.env=[(false,eval e X.env)]:=by rfl) :
  VN K X (.Call (.Name "list" p) [e] [] pos) (tCB (fun xs H Q=>∃p ys,xs=[.ref p]/\(SqL K H p ys\/SqT K H p ys)/\∀l,H l=none->Q (.ref l) (upd H l (.lst ys))) tr) (nY vr):=
 ⟨by subst hK;exact du jV hg hm jW ha.pe (by decide) (by decide) he rfl,fun H0 Z σ H S Q C k t hc=>ha.snd H0 Z σ H S _ _ k t fun vs H1 rs S1 k1 st1 rrs zq1=>by
  obtain ⟨r,ds,e1,e2,f,q⟩:=zq1
  subst e1
  obtain ⟨v,rfl,rv⟩:=rrs.one
  rcases e2 with e2 | e2
  ·obtain ⟨a,ys,rfl,hq,rr⟩:=rv.elems k1 e2
   exact ⟨a,ys,rfl,.inl hq,fun l hl=>hc l ys ds H1 _ S1 k1 st1 hl (aQ hl) az (eX hl rr f) q⟩
  ·obtain ⟨a,ys,rfl,hq,rr⟩:=rv.elemsT k1 e2
   exact ⟨a,ys,rfl,.inr hq,fun l hl=>hc l ys ds H1 _ S1 k1 st1 hl (aQ hl) az (eX hl rr f) q⟩⟩
def rj (vr:VTA):VT:=fun S Q=>vr S fun rs S1=>∃r ds,rs=[r]/\(get S1 r=some (.lst ds)\/r=.d (.tup ds))/\flats ds=true/\Q (.d (.tup ds)) S1
theorem iA (hK:X.K=K) (hg:Gl X "tuple") (hm:X.mg "tuple"=none) (ha:VA K X false [e] tr vr) (he:Gi [e] X.env=[(false,eval e X.env)]:=by rfl) :
  VE K X m (.Call (.Name "tuple" p) [e] [] pos) (tCB (fun xs H Q=>∃p ys,xs=[.ref p]/\((SqL K H p ys/\∀l,H l=none->Q (.ref l) (upd H l (.tup ys)))\/(SqT K H p ys/\Q (.ref p) H))) tr) (rj vr):=
 ⟨by subst hK;exact du i9 hg hm eg ha.pe (by decide) (by decide) he rfl,fun H0 Z σ H S Q C k t hc=>ha.snd H0 Z σ H S _ _ k t fun vs H1 rs S1 k1 st1 rrs zq1=>by
  obtain ⟨r,ds,e1,e2,f,q⟩:=zq1
  subst e1
  obtain ⟨v,rfl,rv⟩:=rrs.one
  rcases e2 with e2 | e2
  ·obtain ⟨a,ys,rfl,hq,rr⟩:=rv.elems k1 e2
   refine ⟨a,ys,rfl,.inl ⟨hq,fun l hl=>?_⟩⟩
   have g:=aQ (o:=.tup ys) hl
   exact hc _ _ (.d (.tup ds)) S1 (k1.grow g) (st1.trans (.grow g)) (Rep.tup (k1.nm hl) (.inl az) ((Reps.flat rr f).mono (fun a n e=>⟨n,g a e⟩) fun _ x=>x)) q
  ·subst e2
   obtain ⟨a,ys,rfl,hq,rr⟩:=Rep.sqT (show Rep K _ _ H1 v (.tup ds) from rv)
   refine ⟨a,ys,rfl,.inr ⟨hq,hc _ _ (.d (.tup ds)) S1 k1 st1 ?_ q⟩⟩
   exact Rep.flat (show Rep K _ _ H1 _ (.tup ds) from rv) (by simpa [flat] using f)⟩
@[reducible] def eT (ms:List Int):D:=.tup (ms.map .int)
@[reducible] def eL (mss:List (List Int)):D:=.lst (mss.map eT)
theorem cU:∀ms:List Int,flats (ms.map D.int)=true
 | []=>rfl
 | _::r=>by simp [flats,flat,cU r]
theorem fR:∀mss:List (List Int),flats (mss.map eT)=true
 | []=>rfl
 | _::r=>by simp [flats,eT,flat,cU,fR r]
theorem gc {N:AP}:∀{vs:List V} {mss:List (List Int)},Reps K N F H vs (mss.map eT)->∃ps,vs=ps.map V.ref/\ik K H ps mss/\(∀p∈ps,H p=none->N p->False\/True)
 | _,[],.nil=>⟨[],rfl,.nil,fun _ h=>nomatch h⟩
 | _,ms::r,.cons h t=>by
  obtain ⟨ps,rfl,h1,h2⟩:=gc t
  obtain ⟨a,vs,rfl,hq,rr⟩:=Rep.sqT h
  cases Reps.toInts rr
  exact ⟨a::ps,rfl,.cons hq h1,fun _ _ _ _=>.inr trivial⟩
theorem dM {N:AP} (hN:∀p vs,Rd H p (.tup vs)->N p):∀{ps:List Addr} {mss:List (List Int)},ik K H ps mss->Reps K N F H (ps.map V.ref) (mss.map eT)
 | _,_,.nil=>.nil
 | _,_,.cons h t=>by
  refine .cons ?_ (dM hN t)
  rcases h with h | h
  ·exact .tup (hN _ _ h) h Reps.ints
  ·exact .tupK (.inr h) Reps.ints
theorem OK.tupN {H0 H:Hp} (k:OK K H0 Z σ H S):∀p vs,Rd H p (.tup vs)->NM Z σ S p:=fun p vs h z=>by
 have e:=k.mo z
 rcases h with h | ⟨o,h⟩ <;> rw [h] at e <;> exact e
end
def spP (K:FO) (p:List D->(D->Prop)->Prop):Sp:=fun vs H Q _=>∃ds R,Reps K Any AnyF H vs ds/\p ds R/\∀d v H',R d->(∀a,H a≠none->H' a=H a)->Rep K Any (Fr H) H' v d->Q v H'
def spI (K:FO) (j:Nat) (p:List Int->List D->(D->List Int->Prop)->Prop):Sp:=fun vs H Q _=>∃a ws us ns ds es R,vs=ws++.ref a::us/\ws.length=j/\H a=some (.lst (ns.map .int))/\Reps K (·≠a) AnyF H ws ds/\Reps K (·≠a) AnyF H us es/\p ns (ds++es) R /\
 ∀d ns' v H',R d ns'->(∀b,b≠a->H b≠none->H' b=H b)->H' a=some (.lst (ns'.map .int))->Rep K (·≠a) (Fr H) H' v d->Q v H'
section
variable {es:List Expr} {tr:TA} {vr:VTA} {x:Str} {p0:Pos} {j k:Nat} {ps:List Str}
def vFn (p:List D->(D->Prop)->Prop) (vr:VTA):VT:=fun S Q=>vr S fun rs S1=>∃ds,gets S1 rs=some ds/\p ds fun d=>Q (.d d) S1
def De (p:List D->(D->Prop)->Prop) (vr:VTA):VTN:=fun S Q=>vr S fun rs S1=>∃ds,gets S1 rs=some ds/\p ds fun d=>∃es,d=.lst es/\flats es=true/\Q es S1
theorem bu (E:Has X.prog X.w X.K X.mg X.base k x ps (spP K p)) (hr:bV j X.A) (ha:VA K X false (e::es) tr vr)
  (hk:k<=j:=by decide) (hg:Gl X x:=by rfl) (hdb:(x==("__debug__":Str))=false:=by decide) (he:Gi (e::es) X.env=(false,eval e X.env)::Gi es X.env:=by rfl)
  (hpl:(IV pos (Gi es X.env)).any (·.1)=false:=by rfl):VE K X m (.Call (.Name x p0) (e::es) [] pos) (h9 (spP K p) [] E0 tr) (vFn p vr):=⟨nS E hr ha.pe hk hg hdb he hpl,fun H0 Z σ H S Q C k t hc=>
 ha.snd H0 Z σ H S _ _ k t fun vs H1 rs S1 k1 st1 rrs zq1=>by
  obtain ⟨ds,e,q⟩:=zq1
  refine ⟨ds,_,by rw [Hy];exact rrs.gets k1 e,q,fun d v H' q g r=>?_⟩
  refine hc v H' (.d d) S1 (k1.grow g) (st1.trans (.grow g)) (show Rep K _ _ H' v d from ?_) q
  refine (Rep.avoid (N':=NM Z σ S1) (fun a z=>?_) (fun a zq1=>by obtain ⟨b,e,f⟩:=zq1;cases e;exact k1.nm f) r).mono (fun _ n _=>⟨n,rfl⟩) (fun o zt1 _=>by obtain ⟨b,e,f⟩:=zt1;exact ⟨b,e,k1.dom b f⟩)
  have e:=k1.mo (Classical.not_not.mp z)
  rw [g a e.ne];exact e⟩
theorem rm (E:Has X.prog X.w X.K X.mg X.base k x ps (spP K p)) (hr:bV j X.A) (ha:VA K X false (e::es) tr vr)
  (hk:k<=j:=by decide) (hg:Gl X x:=by rfl) (hdb:(x==("__debug__":Str))=false:=by decide) (he:Gi (e::es) X.env=(false,eval e X.env)::Gi es X.env:=by rfl)
  (hpl:(IV pos (Gi es X.env)).any (·.1)=false:=by rfl):VN K X (.Call (.Name x p0) (e::es) [] pos) (h9 (spP K p) [] E0 tr) (De p vr):=⟨nS E hr ha.pe hk hg hdb he hpl,fun H0 Z σ H S Q C k t hc=>
 ha.snd H0 Z σ H S _ _ k t fun vs H1 rs S1 k1 st1 rrs zq1=>by
  obtain ⟨ds,e,q⟩:=zq1
  refine ⟨ds,_,by rw [Hy];exact rrs.gets k1 e,q,fun d v H' ⟨es,ed,hf,q⟩ g r=>?_⟩
  subst ed
  have r2:=Rep.avoid (N':=NM Z σ S1) (fun a z=>by
   have e:=k1.mo (Classical.not_not.mp z)
   rw [g a e.ne];exact e) (fun a zq1=>by obtain ⟨b,e,f⟩:=zq1;cases e;exact k1.nm f) r
  cases r2 with
  | @lst a ws _ n f h rs=>
   obtain ⟨b,e,f⟩:=f
   cases e
   refine hc a ws es H1 H' S1 k1 st1 f g h ?_ q
   refine (Reps.avoid (N':=fun b=>NM Z σ S1 b/\b≠a) (fun b z=>?_) (fun b fb=>fb.elim) (Reps.flat (F':=fun _=>False) rs hf)).mono (fun _ n _=>⟨n,rfl⟩) (fun o f=>f.elim)
   by_cases hb:b=a
   ·subst hb;rw [h];trivial
   ·have e:=k1.mo (GF fun y=>z ⟨y,hb⟩)
    rw [g b e.ne];exact e
  | lstF n f h rs=>obtain ⟨b,e,f⟩:=f;cases e
  | lstK f h rs=>obtain ⟨b,e,f⟩:=f;cases e⟩
end
end
end VL
end
section
namespace VL
open PySem L2
section
variable {K:FO} {H H' H0:Hp} {Z:AP} {σ:St} {S:List Sl}
theorem OK.put (k:OK K H0 Z σ H S) {i:Nat} {o:Option V} {s:Sl} (hi:i < S.length)
  (hN:∀a,NM Z σ S a->H a≠none->NM Z (σ.set i o) (S.set i s) a/\H' a=H a)
  (hM:∀j s',j≠i->S[j]?=some s'->s'.mut=true->∀a,σ[j]?=some (some (V.ref a))->H' a=H a)
  (hs:pH K H0 (NM Z (σ.set i o) (S.set i s)) H' o s)
  (hj:∀j a t,j≠i->S[j]?=some t->t.mut=true->s.mut=true->o=some (V.ref a)->σ[j]?≠some (some (V.ref a)))
  (hd:∀a,H' a=none->H a=none) (hz:∀a,Z a->IsM (H' a)) (hnz:∀a,s.mut=true->o=some (V.ref a)->¬Z a):OK K H0 Z (σ.set i o) H' (S.set i s) where
 len:=by simp [k.len]
 dom:=fun a e=>k.dom a (hd a e)
 zl:=hz
 nz:=fun j t a h1 h2 h3=>by
  have hi':i < σ.length:=by rw [k.len];exact hi
  by_cases hji:i=j
  ·subst hji
   rw [Gw hi] at h1
   rw [Gw hi'] at h3
   cases h1
   exact hnz a h2 (Gx h3)
  ·rw [Gh hji] at h1 h3
   exact k.nz j t a h1 h2 h3
 inj:=fun a b c t u h1 h2 m1 m2 h3 h4=>by
  have hi':i < σ.length:=by rw [k.len];exact hi
  by_cases ha:i=a
  ·by_cases hb:i=b
   ·lia
   ·subst ha
    rw [Gw hi] at h1
    rw [Gw hi'] at h3
    rw [Gh hb] at h2 h4
    cases h1
    exact (hj b c u (fun z=>hb z.symm) h2 m2 m1 (Gx h3) h4).elim
  ·by_cases hb:i=b
   ·subst hb
    rw [Gw hi] at h2
    rw [Gw hi'] at h4
    rw [Gh ha] at h1 h3
    cases h2
    exact (hj a c t (fun z=>ha z.symm) h1 m1 m2 (Gx h4) h3).elim
   ·rw [Gh ha] at h1 h3
    rw [Gh hb] at h2 h4
    exact k.inj a b c t u h1 h2 m1 m2 h3 h4
 at_:=fun j o' s' h1 h2=>by
  have hi':i < σ.length:=by rw [k.len];exact hi
  by_cases hji:i=j
  ·subst hji
   rw [Gw hi'] at h1
   rw [Gw hi] at h2
   cases h1;cases h2
   exact hs
  ·rw [Gh hji] at h1 h2
   have q:=k.at_ j o' s' h1 h2
   cases s' with
   | no=>trivial
   | val d=>obtain ⟨v,e,r⟩:=q;exact ⟨v,e,r.mono hN fun _ x=>x⟩
   | fre d=>obtain ⟨v,e,r⟩:=q;exact ⟨v,e,r.mono hN fun _ x=>x⟩
   | own ds=>
    obtain ⟨a,vs,e,e',e0,r⟩:=q
    exact ⟨a,vs,e,by rw [hM j _ (fun z=>hji z.symm) h2 rfl a (by rw [h1,e])];exact e',e0,r.mono hN fun _ x=>x⟩
   | pen ad ns=>
    obtain ⟨a,e,e1,e'⟩:=q
    exact ⟨a,e,e1,by rw [hM j _ (fun z=>hji z.symm) h2 rfl a (by rw [h1,e])];exact e'⟩
   | odi ks ds=>
    obtain ⟨a,vs,e,e',e0,ek,r⟩:=q
    exact ⟨a,vs,e,by rw [hM j _ (fun z=>hji z.symm) h2 rfl a (by rw [h1,e])];exact e',e0,⟨ek.1,ek.2.mono hN fun _ x=>x⟩,r.mono hN fun _ x=>x⟩
   | obj k=>
    obtain ⟨a,e,e0,r⟩:=q
    exact ⟨a,e,e0,k.mono hN (hM j _ (fun z=>hji z.symm) h2 rfl a (by rw [h1,e])) r⟩
theorem fy {i:Nat} {o:Option V} {s:Sl} {a:Addr} (h:Mo Z (σ.set i o) (S.set i s) a):Mo Z σ S a\/(s.mut=true/\o=some (V.ref a)):=by
 rcases h with ⟨j,t,h1,h2,h3⟩ | h
 ·by_cases hji:i=j
  ·subst hji
   have l1:=(List.getElem?_eq_some_iff.mp h1).1
   have l2:=(List.getElem?_eq_some_iff.mp h3).1
   rw [Lb] at l1 l2
   rw [Gw l1] at h1
   rw [Gw l2] at h3
   cases h1
   exact .inr ⟨h2,Gx h3⟩
  ·rw [Gh hji] at h1 h3
   exact .inl (.inl ⟨j,t,h1,h2,h3⟩)
 ·exact .inl (.inr h)
theorem OK.setVal (k:OK K H0 Z σ H S) {i:Nat} (hi:i < S.length) (h:Rep K (NM Z σ S) AnyF H v d):OK K H0 Z (σ.set i (some v)) H (S.set i (.val d))/\Step Z σ S H (σ.set i (some v)) (S.set i (.val d)) H:=by
 have n:∀a,NM Z σ S a->NM Z (σ.set i (some v)) (S.set i (.val d)) a:=fun a x z=>by
  rcases fy z with z | ⟨z,_⟩
  ·exact x z
  ·cases z
 exact ⟨k.put hi (fun a x _=>⟨n a x,rfl⟩) (fun _ _ _ _ _ _ _=>rfl) ⟨v,rfl,h.mono (fun a x _=>⟨n a x,rfl⟩) fun _ x=>x⟩ (fun _ _ _ _ _ _ z=>nomatch z) (fun _ e=>e) k.zl (fun _ z=>nomatch z),fun a x _=>⟨rfl,n a x⟩,fun _ e=>e,fun _ _ _=>rfl⟩
theorem OK.setNew (k:OK K H0 Z σ H S) {i:Nat} {a:Addr} {s:Sl} (hi:i < S.length) (ha:H a=none) (hg:∀b,H b≠none->H' b=H b) (hs:pH K H0 (fun b=>NM Z σ S b/\b≠a) H' (some (.ref a)) s) (hm:s.mut=true) :
  OK K H0 Z (σ.set i (some (.ref a))) H' (S.set i s)/\Step Z σ S H (σ.set i (some (.ref a))) (S.set i s) H':=by
 have n:∀b,NM Z σ S b/\b≠a->NM Z (σ.set i (some (.ref a))) (S.set i s) b:=fun b x z=>by
  rcases fy z with z | ⟨_,z⟩
  ·exact x.1 z
  ·cases z;exact x.2 rfl
 have n':∀b,NM Z σ S b->H b≠none->NM Z (σ.set i (some (.ref a))) (S.set i s) b:=fun b x e=>n b ⟨x,fun z=>e (by rw [z];exact ha)⟩
 refine ⟨k.put hi (fun b x e=>⟨n' b x e,hg b e⟩) (fun j s' hj h1 h2 b h3=>?_) ?_ (fun j b t hj h1 h2 h3 h4 h5=>?_) (fun b e=>GF fun z=>by rw [hg b z] at e;exact z e) (fun b z=>?_) (fun b h1 h2 z=>?_),fun b x e=>⟨hg b e,n' b x e⟩,fun b e=>GF fun z=>by rw [hg b z] at e;exact z e,fun b z e=>hg b e⟩
 ·have e:=k.mo (.inl ⟨j,s',h1,h2,h3⟩)
  exact hg b e.ne
 ·cases s with
  | no=>trivial
  | val d=>cases hm
  | fre d=>cases hm
  | own ds=>obtain ⟨b,vs,e,e',e0,r⟩:=hs;exact ⟨b,vs,e,e',e0,r.mono (fun c x _=>⟨n c x,rfl⟩) fun _ x=>x⟩
  | pen ad ns=>exact hs
  | obj k=>obtain ⟨b,e,e0,r⟩:=hs;exact ⟨b,e,e0,k.mono (fun c x _=>⟨n c x,rfl⟩) rfl r⟩
  | odi ks ds=>obtain ⟨b,vs,e,e',e0,ek,r⟩:=hs;exact ⟨b,vs,e,e',e0,⟨ek.1,ek.2.mono (fun c x _=>⟨n c x,rfl⟩) fun _ x=>x⟩,r.mono (fun c x _=>⟨n c x,rfl⟩) fun _ x=>x⟩
 ·cases h4
  have e:=k.mo (.inl ⟨j,t,h1,h2,h5⟩)
  rw [ha] at e;exact e
 ·have e:=k.zl b z
  rw [hg b e.ne];exact e
 ·cases h2
  have e:=k.zl _ z
  rw [ha] at e;exact e
theorem rn {α:Type} {l:List α} {i:Nat} {o:α} (h:l[i]?=some o):l.set i o=l:=by
 obtain ⟨h1,rfl⟩:=List.getElem?_eq_some_iff.mp h
 exact List.set_getElem_self h1
theorem OK.chgD (k:OK K H0 Z σ H S) {i:Nat} {a:Addr} {s₀ s:Sl} {o:HO} (h1:S[i]?=some s₀) (h2:s₀.mut=true) (h3:σ[i]?=some (some (.ref a))) (hm:s.mut=true) (hs:pH K H0 (NM Z σ S) (upd H a o) (some (.ref a)) s) :
  OK K H0 Z σ (upd H a o) (S.set i s)/\Step Z σ S H σ (S.set i s) (upd H a o):=by
 have hi:i < S.length:=(List.getElem?_eq_some_iff.mp h1).1
 have ma:Mo Z σ S a:=.inl ⟨i,s₀,h1,h2,h3⟩
 have ea:=k.mo ma
 have hza:¬Z a:=k.nz i s₀ a h1 h2 h3
 have e3:=rn h3
 have n:∀b,NM Z σ S b->NM Z σ (S.set i s) b:=fun b x z=>by
  rw [<- e3] at z
  rcases fy z with z | ⟨_,z⟩
  ·exact x z
  ·cases z;exact x ma
 have ne:∀b,NM Z σ S b->b≠a:=fun b x z=>x (by rw [z];exact ma)
 have q:=k.put (H':=upd H a o) (i:=i) (o:=some (.ref a)) (s:=s) hi (fun b x e=>⟨by rw [e3];exact n b x,aw (ne b x)⟩) (fun j s' hj g1 g2 b g3=>aw fun z=>hj (by subst z;exact k.inj j i b s' s₀ g1 h1 g2 h2 g3 h3)) (by
  rw [e3]
  cases s with
  | no=>trivial
  | val d=>cases hm
  | fre d=>cases hm
  | own ds=>obtain ⟨b,vs,e,e',e0,r⟩:=hs;exact ⟨b,vs,e,e',e0,r.mono (fun c x _=>⟨n c x,rfl⟩) fun _ x=>x⟩
  | pen ad ns=>exact hs
  | obj k=>obtain ⟨b,e,e0,r⟩:=hs;exact ⟨b,e,e0,k.mono (fun c x _=>⟨n c x,rfl⟩) rfl r⟩
  | odi ks ds=>obtain ⟨b,vs,e,e',e0,ek,r⟩:=hs;exact ⟨b,vs,e,e',e0,⟨ek.1,ek.2.mono (fun c x _=>⟨n c x,rfl⟩) fun _ x=>x⟩,r.mono (fun c x _=>⟨n c x,rfl⟩) fun _ x=>x⟩) (fun j b t hj g1 g2 g3 g4 g5=>by
   cases g4
   exact hj (k.inj j i a t s₀ g1 h1 g2 h2 g5 h3)) (fun b e=>by
   by_cases hb:b=a
   ·subst hb;rw [az] at e;cases e
   ·rw [aw hb] at e;exact e) (fun b z=>by
   by_cases hb:b=a
   ·subst hb;exact (hza z).elim
   ·have e:=k.zl b z
    rw [aw hb];exact e) (fun b _ e=>by cases e;exact hza)
 rw [e3] at q
 refine ⟨q,fun b x e=>⟨aw (ne b x),n b x⟩,fun b e=>?_,fun b z e=>aw fun y=>hza (by rw [<- y];exact z)⟩
 by_cases hb:b=a
 ·subst hb;rw [az] at e;cases e
 ·rw [aw hb] at e;exact e
theorem OK.chg (k:OK K H0 Z σ H S) {i:Nat} {a:Addr} {s₀ s:Sl} {o:HO} (h1:S[i]?=some s₀) (h2:s₀.mut=true) (h3:σ[i]?=some (some (.ref a))) (ho:∃us,o=.lst us) (hm:s.mut=true) (hs:pH K H0 (NM Z σ S) (upd H a o) (some (.ref a)) s) :
  OK K H0 Z σ (upd H a o) (S.set i s)/\Step Z σ S H σ (S.set i s) (upd H a o):=k.chgD h1 h2 h3 hm hs
end
structure bz where
 nx:List Sl->Prop
 rt:D->List Sl->Prop
 bk:List Sl->Prop:=fun _=>False
 ct:List Sl->Prop:=fun _=>False
abbrev VTS:=bz->List Sl->Prop
def NP (σ:St) (S:List Sl):AP:=fun a=>∀(i:Nat) (ad:Option Addr) (ns:List Int),S[i]?=some (.pen ad ns)->σ[i]?≠some (some (V.ref a))
structure Lf (K:FO) (H0:Hp) (Z:AP) (σ:St) (S:List Sl) (H:Hp) (V:bz) (E:Ends):Prop where
 nx:∀ σ' H' S',OK K H0 Z σ' H' S'->Step Z σ S H σ' S' H'->V.nx S'->E.nx σ' H'
 bk:∀ σ' H' S',OK K H0 Z σ' H' S'->Step Z σ S H σ' S' H'->V.bk S'->E.bk σ' H'
 ct:∀ σ' H' S',OK K H0 Z σ' H' S'->Step Z σ S H σ' S' H'->V.ct S'->E.ct σ' H'
 rt:∀v d σ' H' S',OK K H0 Z σ' H' S'->Step Z σ S H σ' S' H'->Rep K (NP σ' S') (Fr H0) H' v d->V.rt d S'->E.rt v H'
theorem Lf.step {H0 H H1:Hp} {σ σ1:St} {S S1:List Sl} {V:bz} {E:Ends} (l:Lf K H0 Z σ S H V E) (st:Step Z σ S H σ1 S1 H1):Lf K H0 Z σ1 S1 H1 V E:=
 ⟨fun _ _ _ k s=>l.nx _ _ _ k (st.trans s),fun _ _ _ k s=>l.bk _ _ _ k (st.trans s),fun _ _ _ k s=>l.ct _ _ _ k (st.trans s),fun _ _ _ _ _ k s=>l.rt _ _ _ _ _ k (st.trans s)⟩
def AB (K:FO) (ts:TS) (t:VTS):Prop:=∀H0 Z σ H S V E,OK K H0 Z σ H S->t V S->Lf K H0 Z σ S H V E->ts E σ H
structure VS (K:FO) (X:Cx) (st:Stmt) (ts:TS) (t:VTS):Prop where
 ps:PS X st ts
 snd:AB K ts t
structure VSs (K:FO) (X:Cx) (st:List Stmt) (ts:TS) (t:VTS):Prop where
 ps:PSs X st ts
 snd:AB K ts t
inductive Wk:List Sl->List Sl->Prop where
 | nil:Wk [] []
 | keep {s:Sl} {S S':List Sl}:Wk S S'->Wk (s::S) (s::S')
 | fz {ds:List D} {S S':List Sl}:Wk S S'->Wk (.own ds::S) (.val (.lst ds)::S')
 | fd {ks:List (List Int)} {ds:List D} {S S':List Sl}:Wk S S'->Wk (.odi ks ds::S) (.val (.dic ks ds)::S')
 | drop {s:Sl} {S S':List Sl}:Wk S S'->Wk (s::S) (.no::S')
theorem Wk.refl:∀S,Wk S S
 | []=>.nil
 | _::r=>.keep (Wk.refl r)
theorem Wk.len {S S':List Sl} (h:Wk S S'):S.length=S'.length:=by induction h <;> simp_all
theorem Wk.at_ {S S':List Sl} (h:Wk S S'):∀{i:Nat} {s:Sl},S'[i]?=some s->∃s₀,S[i]?=some s₀/\(s=s₀\/s=.no\/(∃ds,s₀=.own ds/\s=.val (.lst ds))\/∃ks ds,s₀=.odi ks ds/\s=.val (.dic ks ds)):=by
 induction h with
 | nil=>intro i s h;simp at h
 | keep h ih=>
  intro i s e
  cases i with
  | zero=>simp at e;subst e;exact ⟨_,rfl,.inl rfl⟩
  | succ i=>simpa using ih (i:=i) (by simpa using e)
 | fz h ih=>
  intro i s e
  cases i with
  | zero=>simp at e;subst e;exact ⟨_,rfl,.inr (.inr (.inl ⟨_,rfl,rfl⟩))⟩
  | succ i=>simpa using ih (i:=i) (by simpa using e)
 | fd h ih=>
  intro i s e
  cases i with
  | zero=>simp at e;subst e;exact ⟨_,rfl,.inr (.inr (.inr ⟨_,_,rfl,rfl⟩))⟩
  | succ i=>simpa using ih (i:=i) (by simpa using e)
 | drop h ih=>
  intro i s e
  cases i with
  | zero=>simp at e;subst e;exact ⟨_,rfl,.inr (.inl rfl)⟩
  | succ i=>simpa using ih (i:=i) (by simpa using e)
theorem Wk.mut {S S':List Sl} (h:Wk S S') {i:Nat} {s:Sl} (e:S'[i]?=some s) (m:s.mut=true):S[i]?=some s:=by
 obtain ⟨s₀,h1,rfl | rfl | ⟨ds,rfl,rfl⟩ | ⟨ks,ds,rfl,rfl⟩⟩:=h.at_ e
 ·exact h1
 ·cases m
 ·cases m
 ·cases m
theorem OK.wk {H H0:Hp} {S S':List Sl} (k:OK K H0 Z σ H S) (w:Wk S S'):OK K H0 Z σ H S'/\Step Z σ S H σ S' H:=by
 have n:∀a,NM Z σ S a->NM Z σ S' a:=fun a x z=>by
  rcases z with ⟨i,s,h1,h2,h3⟩ | z
  ·exact x (.inl ⟨i,s,w.mut h1 h2,h2,h3⟩)
  ·exact x (.inr z)
 refine ⟨⟨by rw [k.len,w.len],fun i o s h1 h2=>?_,fun i j a s t h1 h2 m1 m2 h3 h4=>k.inj i j a s t (w.mut h1 m1) (w.mut h2 m2) m1 m2 h3 h4,k.dom,k.zl,fun i s a h1 m h3=>k.nz i s a (w.mut h1 m) m h3⟩,fun a x _=>⟨rfl,n a x⟩,fun _ e=>e,fun _ _ _=>rfl⟩
 obtain ⟨s₀,e,rfl | rfl | ⟨ds,rfl,rfl⟩ | ⟨ks,ds,rfl,rfl⟩⟩:=w.at_ h2
 ·have q:=k.at_ i o s h1 e
  cases s with
  | no=>trivial
  | val d=>obtain ⟨v,e,r⟩:=q;exact ⟨v,e,r.mono (fun a x _=>⟨n a x,rfl⟩) fun _ x=>x⟩
  | fre d=>obtain ⟨v,e,r⟩:=q;exact ⟨v,e,r.mono (fun a x _=>⟨n a x,rfl⟩) fun _ x=>x⟩
  | own ds=>obtain ⟨a,vs,e,e',e0,r⟩:=q;exact ⟨a,vs,e,e',e0,r.mono (fun a x _=>⟨n a x,rfl⟩) fun _ x=>x⟩
  | pen ad ns=>exact q
  | odi ks ds=>obtain ⟨a,vs,e,e',e0,ek,r⟩:=q;exact ⟨a,vs,e,e',e0,⟨ek.1,ek.2.mono (fun a x _=>⟨n a x,rfl⟩) fun _ x=>x⟩,r.mono (fun a x _=>⟨n a x,rfl⟩) fun _ x=>x⟩
  | obj k=>obtain ⟨a,e,e0,r⟩:=q;exact ⟨a,e,e0,k.mono (fun a x _=>⟨n a x,rfl⟩) rfl r⟩
 ·trivial
 ·obtain ⟨a,vs,e1,e2,e3,r⟩:=k.at_ i o _ h1 e
  subst e1
  refine ⟨.ref a,rfl,.lst ?_ trivial e2 (r.mono (fun a x _=>⟨n a x,rfl⟩) fun _ _=>trivial)⟩
  intro z
  rcases z with ⟨j,s,g1,g2,g3⟩ | z
  ·have:=k.inj i j a _ s e (w.mut g1 g2) rfl g2 h1 g3
   subst this
   rw [h2] at g1;cases g1;cases g2
  ·exact k.nz i _ a e rfl h1 z
 ·obtain ⟨a,vs,e1,⟨ob,e2⟩,e3,ek,r⟩:=k.at_ i o _ h1 e
  subst e1
  refine ⟨.ref a,rfl,.dic ?_ trivial e2 ek.1 (ek.2.mono (fun a x _=>⟨n a x,rfl⟩) fun _ _=>trivial) (r.mono (fun a x _=>⟨n a x,rfl⟩) fun _ _=>trivial)⟩
  intro z
  rcases z with ⟨j,s,g1,g2,g3⟩ | z
  ·have:=k.inj i j a _ s e (w.mut g1 g2) rfl g2 h1 g3
   subst this
   rw [h2] at g1;cases g1;cases g2
  ·exact k.nz i _ a e rfl h1 z
section
variable {K:FO} {X:Cx} {m:Bool} {e a b c:Expr} {ta tb tc te:TE} {va vb vc:VT} {pos:Pos} {st:Stmt} {rest:List Stmt} {t u:TS} {v w:VTS}
def ym:VTS:=fun V S=>V.nx S
def Df (t u:VTS):VTS:=fun V S=>t { V with nx:=fun S'=>∃S'',Wk S' S''/\u V S'' } S
theorem aW:VSs K X [] nH ym:=⟨jP,fun H0 Z σ H S V E k h l=>l.nx σ H S k .refl h⟩
theorem aq (h:VS K X st t v):VSs K X [st] t v:=⟨nI h.ps,h.snd⟩
theorem ak (h1:VS K X st t v) (h2:VSs K X rest u w):VSs K X (st::rest) (mE t u) (Df v w):=⟨dr h1.ps h2.ps,fun H0 Z σ H S V E k h l=>
 h1.snd H0 Z σ H S _ _ k h ⟨fun σ' H' S' k' st zt1=>by obtain ⟨S'',wk,q⟩:=zt1;exact h2.snd H0 Z σ' H' S'' V E (k'.wk wk).1 q (l.step (st.trans (k'.wk wk).2)),l.bk,l.ct,l.rt⟩⟩
def AC:VTS:=fun _ _=>False
theorem lA:VS K X st g8 AC:=⟨qC,fun _ _ _ _ _ _ _ _ h _=>h.elim⟩
def yn (va:VT):VTS:=fun V S=>va S fun _ S1=>V.nx S1
theorem fS (h:VE K X false e te va) (hs:HJ e none pos.line X.env=pure false:=by rfl):VS K X (.Expr e pos) (nJ te) (yn va):=⟨jQ h.pe hs,fun H0 Z σ H S V E k t l=>h.snd H0 Z σ H S _ _ k t fun v H' r S' k' st _ q=>l.nx σ H' S' k' st q⟩
def retO:Option Sl->Option D
 | some (.own ds)=>some (.lst ds)
 | some (.odi ks ds)=>some (.dic ks ds)
 | _=>none
def retD (S:List Sl):VR->Option D
 | .d x=>some x
 | .own i=>retO S[i]?
def Dg (va:VT):VTS:=fun V S=>va S fun r S1=>∃d,retD S1 r=some d/\V.rt d S1
theorem OK.ret {H0 H:Hp} {v:V} (k:OK K H0 Z σ H S) (h:eu K (FM H0 true) Z σ S H v r) (e:retD S r=some d):Rep K (NP σ S) (Fr H0) H v d:=by
 have np:∀a,NM Z σ S a->NP σ S a:=fun a n i ad ns h1 h2=>n (.inl ⟨i,_,h1,rfl,h2⟩)
 cases r with
 | d x=>cases e;exact Rep.mono (fun a n _=>⟨np a n,rfl⟩) (fun _ x=>x rfl) h
 | own i=>
  have h:σ[i]?=some (some v):=h
  have e:retO S[i]?=some d:=e
  cases es:S[i]? with
  | none=>rw [es] at e;cases e
  | some s=>
   rw [es] at e
   cases s with
   | fre d=>cases e
   | own ds=>
    cases e
    obtain ⟨a,vs,h1,h2,h3,h4⟩:=k.at_ _ _ _ h es
    cases h1
    refine .lst (fun i2 ad ns g1 g2=>?_) ⟨a,rfl,h3⟩ h2 (h4.mono (fun a n _=>⟨np a n,rfl⟩) fun _ x=>x)
    have:=k.inj _ _ a _ _ es g1 rfl rfl h g2
    subst this
    rw [es] at g1;cases g1
   | odi ks ds=>
    cases e
    obtain ⟨a,vs,h1,⟨ob,h2⟩,h3,hk,h4⟩:=k.at_ _ _ _ h es
    cases h1
    refine .dic (fun i2 ad ns g1 g2=>?_) ⟨a,rfl,h3⟩ h2 hk.1 (Reps.flat (hk.2.mono (fun a n _=>⟨np a n,rfl⟩) fun _ x=>x) (et _)) (h4.mono (fun a n _=>⟨np a n,rfl⟩) fun _ x=>x)
    have:=k.inj _ _ a _ _ es g1 rfl rfl h g2
    subst this
    rw [es] at g1;cases g1
   | no=>cases e
   | val x=>cases e
   | pen a b=>cases e
   | obj k=>cases e
theorem aD (h:VE K X true e te va):VS K X (.Return (some e) pos) (CO te) (Dg va):=⟨zT h.pe,fun H0 Z σ H S V E k t l=>h.snd H0 Z σ H S _ _ k t fun v H' r S' k' st rr zt1=>by obtain ⟨d,e,q⟩:=zt1;exact l.rt v d σ H' S' k' st (k'.ret rr e) q⟩
def Dh (c:VTT) (t u:VTS):VTS:=fun V S=>c S fun b S1=>if b=true then t V S1 else u V S1
theorem bK {A B:List Stmt} {tA:TT} {wA:VTT} (hc:VTe K X c tA wA) (ha:VSs K X A t v) (hb:VSs K X B u w):VS K X (.If c A B pos) (uH tA t u) (Dh wA v w):=⟨qB hc.pe ha.ps hb.ps,fun H0 Z σ H S V E k t l=>
 hc.snd H0 Z σ H S _ _ k t fun b H1 S1 k1 st1 q=>by
  cases b with
  | true=>rw [if_pos rfl] at q ⊢;exact ha.snd H0 Z σ H1 S1 V E k1 q (l.step st1)
  | false=>rw [if_neg F4] at q ⊢;exact hb.snd H0 Z σ H1 S1 V E k1 q (l.step st1)⟩
abbrev VG:=D->List Sl->(List Sl->Prop)->Prop
def SndG (K:FO) (g:TG) (vg:VG):Prop:=∀H0 Z σ H S v d Q C,OK K H0 Z σ H S->Rep K (NM Z σ S) AnyF H v d->vg d S Q->(∀ σ' H' S',OK K H0 Z σ' H' S'->Step Z σ S H σ' S' H'->Q S'->C σ' H')->g v σ H C
def Di (g:TG):Prop:=∀x σ H Q1 Q2,(∀ σ H,Q1 σ H->Q2 σ H)->g x σ H Q1->g x σ H Q2
def AD (g:TGs):Prop:=∀x σ H Q1 Q2,(∀ σ H,Q1 σ H->Q2 σ H)->g x σ H Q1->g x σ H Q2
structure VGe (K:FO) (X:Cx) (e:Expr) (g:TG) (vg:VG):Prop where
 pg:PG X e g
 snd:SndG K g vg
 mono:Di g
def vgN (i:Nat):VG:=fun d S Q=>i < S.length/\Q (S.set i (.val d))
theorem ay {i:Nat} (h:PG X e (aX i)):VGe K X e (aX i) (vgN i):=⟨h,fun H0 Z σ H S v d Q C k r zt1 hc=>by obtain ⟨hi,q⟩:=zt1;exact hc _ _ _ (k.setVal hi r).1 (k.setVal hi r).2 q,fun _ _ _ _ _ h q=>h _ _ q⟩
def Dj (K:FO) (g:TGs) (vg:List D->List Sl->(List Sl->Prop)->Prop):Prop:=∀H0 Z σ H S vs ds Q C,OK K H0 Z σ H S->Reps K (NM Z σ S) AnyF H vs ds->vg ds S Q->(∀ σ' H' S',OK K H0 Z σ' H' S'->Step Z σ S H σ' S' H'->Q S'->C σ' H')->g vs σ H C
structure VGs (K:FO) (X:Cx) (es:List Expr) (g:TGs) (vg:List D->List Sl->(List Sl->Prop)->Prop):Prop where
 pg:PGs X es g
 snd:Dj K g vg
 mono:AD g
def yp:List D->List Sl->(List Sl->Prop)->Prop:=fun ds S Q=>ds=[]/\Q S
def rp (t:VG) (u:List D->List Sl->(List Sl->Prop)->Prop):List D->List Sl->(List Sl->Prop)->Prop:=fun ds S Q=>∃d r,ds=d::r/\t d S fun S1=>u r S1 Q
theorem b6:VGs K X [] uI yp:=⟨uJ,fun H0 Z σ H S vs ds Q C k r zq1 hc=>by obtain ⟨e,q⟩:=zq1;subst e;cases r;exact ⟨rfl,hc _ _ _ k .refl q⟩,fun _ _ _ _ _ h q=>⟨q.1,h _ _ q.2⟩⟩
theorem aJ {es:List Expr} {g:TG} {gs:TGs} {vg:VG} {vgs:List D->List Sl->(List Sl->Prop)->Prop} (h1:VGe K X e g vg) (h2:VGs K X es gs vgs) (hs:(Iu (e::es) X.env).map (·.2)=I0 e X.env::(Iu es X.env).map (·.2):=by rfl) :
  VGs K X (e::es) (jd g gs) (rp vg vgs):=⟨qE h1.pg h2.pg hs,fun H0 Z σ H S vs ds Q C k r zq1 hc=>by
 obtain ⟨d,rd,e,q⟩:=zq1
 subst e
 cases r with
 | cons rv rr=>exact ⟨_,_,rfl,h1.snd H0 Z σ H S _ _ _ _ k rv q fun σ1 H1 S1 k1 st1 q1=>h2.snd H0 Z σ1 H1 S1 _ _ _ _ k1 (rr.step st1) q1 fun σ2 H2 S2 k2 st2 q2=>hc _ _ _ k2 (st1.trans st2) q2⟩,fun x σ H Q1 Q2 h zt1=>by obtain ⟨v,r,e,q⟩:=zt1;exact ⟨v,r,e,h1.mono _ _ _ _ _ (fun σ' H' q'=>h2.mono _ _ _ _ _ h q') q⟩⟩
def vgT (n:Nat) (u:List D->List Sl->(List Sl->Prop)->Prop):VG:=fun d S Q=>∃ds,d=.tup ds/\ds.length=n/\u ds S Q
theorem cV {es:List Expr} {kk:Nat} {gs:TGs} {vgs:List D->List Sl->(List Sl->Prop)->Prop} {n:Nat} (hK:X.K=K) (hc:X.calm=true) (h:VGs K X es gs vgs) (hn:(Iu es X.env).length=n:=by rfl) (hst:(Iu es X.env).findIdx? (·.1)=none:=by rfl) :
  VGe K X (.Tuple es kk pos) (uK K n gs) (vgT n vgs):=⟨by subst hK;exact zV hc h.pg hn hst,fun H0 Z σ H S v d Q C k r zq1 hcc=>by
 obtain ⟨ds,e,hl,q⟩:=zq1
 subst e
 obtain ⟨a,vs,rfl,hq,rr⟩:=r.sqT
 exact ⟨a,vs,rfl,hq,by rw [rr.length];exact hl,h.snd H0 Z σ H S _ _ _ _ k rr q hcc⟩,fun x σ H Q1 Q2 hh zt1=>by obtain ⟨a,xs,e1,e2,e3,q⟩:=zt1;exact ⟨a,xs,e1,e2,e3,h.mono _ _ _ _ _ hh q⟩⟩
def lB (va:VT) (g:VG):VTS:=fun V S=>va S fun r S1=>∃d,r=.d d/\g d S1 V.nx
theorem iB {g:TG} {vg:VG} (ha:SndE K m te va) (hg:SndG K g vg):AB K (cQ te g) (lB va vg):=fun H0 Z σ H S V E k t l=>ha H0 Z σ H S _ _ k t fun v H1 r S1 k1 st1 rr zq1=>by
 obtain ⟨d,e,q⟩:=zq1
 subst e
 exact hg H0 Z σ H1 S1 v d _ _ k1 (Rep.mono (fun _ n _=>⟨n,rfl⟩) (fun _ _=>trivial) rr) q fun σ2 H2 S2 k2 st2 q2=>l.nx σ2 H2 S2 k2 (st1.trans st2) q2
theorem AE {i:Nat} {x:Str} {pos':Pos} (ps:∀te,PE X e te->PS X (.Assign [.Name x pos'] e pos) (cQ te (aX i))) (h:VE K X false e te va):VS K X (.Assign [.Name x pos'] e pos) (cQ te (aX i)) (lB va (vgN i)):=
 ⟨ps te h.pe,iB h.snd fun H0 Z σ H S v d Q C k r zt1 hc=>by obtain ⟨hi,q⟩:=zt1;exact hc _ _ _ (k.setVal hi r).1 (k.setVal hi r).2 q⟩
theorem iC {tg:Expr} {g:TG} {vg:VG} (h:VE K X false e te va) (hg:VGe K X tg g vg) (hs:LY [tg] e pos.line X.env=pure false:=by rfl) (hw:LZ [tg] e X.env=pure none:=by rfl)
  (h1:(Iu [tg] X.env).map (·.2)=[I0 tg X.env]:=by rfl):VS K X (.Assign [tg] e pos) (cQ te g) (lB va vg):=⟨qF h.pe hg.pg hs hw h1,iB h.snd hg.snd⟩
def rq (i:Nat) (t:VTN):VTS:=fun V S=>t S fun ds S1=>i < S1.length/\V.nx (S1.set i (.own ds))
theorem cM {i:Nat} {x:Str} {pos':Pos} {tn:VTN} (ps:∀te,PE X e te->PS X (.Assign [.Name x pos'] e pos) (cQ te (aX i))) (h:VN K X e te tn):VS K X (.Assign [.Name x pos'] e pos) (cQ te (aX i)) (rq i tn):=
 ⟨ps te h.pe,fun H0 Z σ H S V E k t l=>h.snd H0 Z σ H S _ _ k t fun a vs ds H1 H' S' k1 st1 ha hg hl rr zq1=>by
  obtain ⟨hi,q⟩:=zq1
  obtain ⟨k2,st2⟩:=k1.setNew (s:=.own ds) hi ha hg ⟨a,vs,rfl,hl,k1.dom a ha,rr⟩ rfl
  exact l.nx _ _ _ k2 (st1.trans st2) q⟩
def yq (i:Nat) (t:VTN):VTS:=fun V S=>t S fun ds S1=>∃ns:List Int,ds=ns.map .int/\i < S1.length/\V.nx (S1.set i (.pen none ns))
theorem n5 {i:Nat} {x:Str} {pos':Pos} {tn:VTN} (ps:∀te,PE X e te->PS X (.Assign [.Name x pos'] e pos) (cQ te (aX i))) (h:VN K X e te tn):VS K X (.Assign [.Name x pos'] e pos) (cQ te (aX i)) (yq i tn):=
 ⟨ps te h.pe,fun H0 Z σ H S V E k t l=>h.snd H0 Z σ H S _ _ k t fun a vs ds H1 H' S' k1 st1 ha hg hl rr zq1=>by
  obtain ⟨ns,e,hi,q⟩:=zq1
  subst e
  obtain ⟨k2,st2⟩:=k1.setNew (s:=.pen none ns) hi ha hg ⟨a,rfl,(fun _ z=>nomatch z),by rw [<- Reps.toInts rr];exact hl⟩ rfl
  exact l.nx _ _ _ k2 (st1.trans st2) q⟩
end
end VL
end
section
namespace VL
open PySem L2
section
variable {K:FO} {X:Cx} {m:Bool} {e a b c:Expr} {ta tb tc te ti:TE} {va vb vc vi:VT} {pos:Pos} {st:Stmt} {rest:List Stmt} {t u:TS} {v w:VTS}
theorem OK.ownAt {H0 H:Hp} (k:OK K H0 Z σ H S) {i:Nat} {s:Sl} (e:S[i]?=some s):∃o,σ[i]?=some o/\pH K H0 (NM Z σ S) H o s:=by
 have hi:i < σ.length:=by rw [k.len];exact (List.getElem?_eq_some_iff.mp e).1
 exact ⟨_,FS hi,k.at_ i _ s (FS hi) e⟩
def AF (i:Nat) (ve:VT):VT:=fun S Q=>(∃ds,S[i]?=some (.own ds))/\ve S fun r S1=>∃d ds,r=.d d/\S1[i]?=some (.own ds)/\ds.length<=1000000/\Q (.d .non) (S1.set i (.own (ds++[d])))
theorem AG {apos:Pos} {o:Expr} (i:Nat) (hK:X.K=K) (ho:PE X o (cA i)) (h:VE K X true e te va) (pe:∀te,PE X e te->PE X (.Call (.Attribute o "append" apos) [e] [] pos) (tBM X.K "list" fL (cA i) (dX te i7))) :
  VE K X m (.Call (.Attribute o "append" apos) [e] [] pos) (tBM K "list" fL (cA i) (dX te i7)) (AF i va):=⟨by subst hK;exact pe te h.pe,fun H0 Z σ H S Q C k zq1 hc=>by
 obtain ⟨⟨ds0,e0⟩,t⟩:=zq1
 obtain ⟨o,h1,a,vs,rfl,h2,h3,h4⟩:=k.ownAt e0
 refine ⟨.ref a,h1,.inl ⟨rfl,vs,.inl (.inl h2)⟩,?_⟩
 refine h.snd H0 Z σ H S _ _ k t fun x H1 r S1 k1 st1 rr zr1=>?_
 obtain ⟨d,ds,er,e1,hl,q⟩:=zr1
 subst er
 obtain ⟨o',g1,a',vs',rfl,g2,g3,g4⟩:=k1.ownAt e1
 rw [h1] at g1;cases g1
 refine ⟨a,vs',x,rfl,rfl,g2,by rw [g4.length,G9];lia,?_⟩
 have na:NM Z σ S1 a->False:=fun n=>n (.inl ⟨i,_,e1,rfl,h1⟩)
 have hm:∀b,NM Z σ S1 b->H1 b≠none->NM Z σ S1 b/\upd H1 a (.lst (vs'++[x])) b=H1 b:=fun b n _=>⟨n,aw fun z=>na (by rw [<- z];exact n)⟩
 obtain ⟨k2,st2⟩:=k1.chg (s:=.own (ds++[d])) (o:=.lst (vs'++[x])) e1 rfl h1 ⟨_,rfl⟩ rfl ⟨a,_,rfl,az,g3,Reps.append (g4.mono hm fun _ x=>x) (.cons (Rep.mono hm (fun _ x=>x rfl) rr) .nil)⟩
 exact hc .non _ (.d .non) _ k2 (st1.trans st2) Rep.non q⟩
theorem rA {apos:Pos} {o:Expr} (i:Nat) (hK:X.K=K) (ho:PE X o (cA i)) (h:VE K X true e te va) (hbase:Jn o "append" X.env (eval o X.env)=eval o X.env:=by rfl)
  (hfew:((IV pos (Gi (e::[]) X.env)).all (fun x=>!x.1)&&(M8 pos (LN [] X.env)).all (fun x=>x.1.isSome)
   && decide ((e::[]).length+([]:List LO).length+(if ([]:List LO).isEmpty then 0 else 1) < 30))=true:=by rfl)
  (hline:(apos.endLine==pos.line)=true:=by rfl) (hs:Gi (e::[]) X.env=(false,eval e X.env)::Gi [] X.env:=by rfl) (hplain:(IV pos (Gi [] X.env)).any (·.1)=false:=by rfl) :
  VE K X m (.Call (.Attribute o "append" apos) [e] [] pos) (tBM K "list" fL (cA i) (dX te i7)) (AF i va):=
 AG i hK ho h fun te hp=>qQ Jo Kx Ky ji ho (cL hp fx hs) hbase hfew hline hs hplain
def rB (i:Nat) (ve vi:VT):VTS:=fun V S=>ve S fun r S1=>(∃s,S1[i]?=some s/\s.mut=true)/\vi S1 fun ri S2=>∃j,get S2 ri=some (.int j) /\
  ((∃ad ns k n,S2[i]?=some (.pen ad ns)/\ixN ns.length j=some k/\r=.d (.int n)/\V.nx (S2.set i (.pen ad (ns.set k n)))) \/
   (∃ds k d,S2[i]?=some (.own ds)/\ixN ds.length j=some k/\r=.d d/\V.nx (S2.set i (.own (ds.set k d)))))
theorem lC {o ie:Expr} {posS:Pos} (i:Nat) (ho:PE X o (cA i)) (h:VE K X true e te va) (hi:VE K X false ie ti vi)
  (ha:∀v,I0 (.Subscript o ie posS) X.env v=(do
   let ov <- IY [v] (eval o X.env)
   let iv <- IY [v,ov] (eval ie X.env)
   IW posS
   IY [v,ov,iv] (MJ ov iv v)
   release [v,ov,iv] []):=by intro _;rfl)
  (hs:LY [.Subscript o ie posS] e pos.line X.env=pure false:=by rfl) (hw:LZ [.Subscript o ie posS] e X.env=pure none:=by rfl)
  (h1:(Iu [.Subscript o ie posS] X.env).map (·.2)=[I0 (.Subscript o ie posS) X.env]:=by rfl) :
  VS K X (.Assign [.Subscript o ie posS] e pos) (cQ te (zW (cA i) ti nP)) (rB i va vi):=⟨qF h.pe (zX ho hi.pe set_list ha) hs hw h1,fun H0 Z σ H S V E k t l=>by
 refine h.snd H0 Z σ H S _ _ k t fun x H1 r S1 k1 st1 rr zr1=>?_
 obtain ⟨⟨s1,em,hm1⟩,q⟩:=zr1
 -- the slot's address stays: σ is one
 have fin:∀(p:Addr),σ[i]?=some (some (.ref p))->zW (cA i) ti nP x σ H1 E.nx:=fun p hp=>by
  refine ⟨.ref p,hp,hi.snd H0 Z σ H1 S1 _ _ k1 q fun y H2 ri S2 k2 st2 r2 zr1=>?_⟩
  obtain ⟨j,ej,q2⟩:=zr1
  cases r2.get k2 ej
  have rr2:=rr.step st2
  rcases q2 with ⟨ad,ns,kk,n,e1,e2,er,q2⟩ | ⟨ds,kk,d,e1,e2,er,q2⟩
  ·subst er
   cases (show Rep K _ _ H2 x (.int n) from rr2)
   obtain ⟨o',g1,a',rfl,g2,g3⟩:=k2.ownAt e1
   rw [hp] at g1;cases g1
   refine ⟨p,_,j,kk,rfl,rfl,g3,by rw [FV];exact e2,?_⟩
   obtain ⟨k3,st3⟩:=k2.chg (s:=.pen ad (ns.set kk n)) (o:=.lst ((ns.map L2.V.int).set kk (.int n))) e1 rfl hp ⟨_,rfl⟩ rfl ⟨p,rfl,g2,by rw [az,List.map_set]⟩
   exact l.nx _ _ _ k3 ((st1.trans st2).trans st3) q2
  ·subst er
   obtain ⟨o',g1,a',vs,rfl,g2,g3,g4⟩:=k2.ownAt e1
   rw [hp] at g1;cases g1
   refine ⟨p,_,j,kk,rfl,rfl,g2,by rw [g4.length];exact e2,?_⟩
   have na:NM Z σ S2 p->False:=fun n=>n (.inl ⟨i,_,e1,rfl,hp⟩)
   have hm:∀b,NM Z σ S2 b->H2 b≠none->NM Z σ S2 b/\upd H2 p (.lst (vs.set kk x)) b=H2 b:=fun b n _=>⟨n,aw fun z=>na (by rw [<- z];exact n)⟩
   obtain ⟨k3,st3⟩:=k2.chg (s:=.own (ds.set kk d)) (o:=.lst (vs.set kk x)) e1 rfl hp ⟨_,rfl⟩ rfl ⟨p,_,rfl,az,g3,Reps.set (Rep.mono hm (fun _ x=>x rfl) rr2) kk (g4.mono hm fun _ x=>x)⟩
   exact l.nx _ _ _ k3 ((st1.trans st2).trans st3) q2
 -- which address it is: look once
 obtain ⟨o1,g1,g2⟩:=k1.ownAt em
 cases s1 with
 | no=>cases hm1
 | val d=>cases hm1
 | fre d=>cases hm1
 | own ds=>obtain ⟨p,_,rfl,_⟩:=g2;exact fin p g1
 | pen ad ns=>obtain ⟨p,rfl,_⟩:=g2;exact fin p g1
 | odi ks ds=>obtain ⟨p,_,rfl,_⟩:=g2;exact fin p g1
 | obj k=>obtain ⟨p,rfl,_⟩:=g2;exact fin p g1⟩
def pick:List VR->Nat->Option (Nat×List VR)
 | .own i::r,0=>some (i,r)
 | x::r,j+1=>(pick r j).map fun p=>(p.1,x::p.2)
 | _,_=>none
def AH (j:Nat) (p:List Int->List D->(D->List Int->Prop)->Prop) (vr:VTA):VT:=fun S Q=>vr S fun rs S1=>∃i rs' ad ns ds,pick rs j=some (i,rs')/\S1[i]?=some (.pen ad ns)/\allD rs'=some ds/\p ns ds fun d ns'=>Q (.d d) (S1.set i (.pen ad ns'))
theorem cG.pick:∀{j:Nat} {vs:List V} {rs:List VR} {i:Nat} {rs':List VR},cG K F Z σ S H vs rs->VL.pick rs j=some (i,rs')->∃v ws us,vs=ws++v::us/\ws.length=j/\σ[i]?=some (some v)/\cG K F Z σ S H (ws++us) rs'/\ws.length<=(ws++us).length
 | 0,_,_,i,rs',.cons (r:=r) h t,e=>by
  cases r with
  | d x=>cases e
  | own k=>cases e;exact ⟨_,[],_,rfl,rfl,h,t,by simp⟩
 | j+1,_,_,i,rs',.cons (r:=r) (rs:=rs) h t,e=>by
  have e':(VL.pick rs j).map (fun p=>(p.1,r::p.2))=some (i,rs'):=by cases r <;> exact e
  obtain ⟨⟨i',q⟩,h1,h2⟩:=Option.map_eq_some_iff.mp e'
  cases h2
  obtain ⟨v,ws,us,rfl,hl,hs,rr,_⟩:=cG.pick t h1
  exact ⟨v,_::ws,us,rfl,by simp [hl],hs,.cons h rr,by simp⟩
 | _,_,_,_,_,.nil,e=>by cases e
theorem Reps.splitAt {N:AP}:∀{ws us:List V} {ds:List D},Reps K N F H (ws++us) ds->∃d1 d2,ds=d1++d2/\Reps K N F H ws d1/\Reps K N F H us d2
 | [],us,ds,h=>⟨[],ds,rfl,.nil,h⟩
 | w::ws,us,_,.cons h t=>by
  obtain ⟨d1,d2,rfl,h1,h2⟩:=Reps.splitAt (ws:=ws) t
  exact ⟨_::d1,d2,rfl,.cons h h1,h2⟩
section
variable {es:List Expr} {tr:TA} {vr:VTA} {x:Str} {p0:Pos} {j k:Nat} {ps:List Str}
theorem bL {jj:Nat} {p:List Int->List D->(D->List Int->Prop)->Prop} (E:Has X.prog X.w X.K X.mg X.base k x ps (spI K jj p)) (hr:bV j X.A) (ha:VA K X false (e::es) tr vr)
  (hk:k<=j:=by decide) (hg:Gl X x:=by rfl) (hdb:(x==("__debug__":Str))=false:=by decide) (he:Gi (e::es) X.env=(false,eval e X.env)::Gi es X.env:=by rfl)
  (hpl:(IV pos (Gi es X.env)).any (·.1)=false:=by rfl):VE K X m (.Call (.Name x p0) (e::es) [] pos) (h9 (spI K jj p) [] E0 tr) (AH jj p vr):=⟨nS E hr ha.pe hk hg hdb he hpl,fun H0 Z σ H S Q C k t hc=>
 ha.snd H0 Z σ H S _ _ k t fun vs H1 rs S1 k1 st1 rrs zq1=>by
  obtain ⟨i,rs',ad,ns,ds,e1,e2,e3,q⟩:=zq1
  obtain ⟨v,ws,us,rfl,hl,hs,rr,_⟩:=rrs.pick e1
  obtain ⟨o,g1,a,rfl,g2,g3⟩:=k1.ownAt e2
  rw [hs] at g1;cases g1
  have ma:Mo Z σ S1 a:=.inl ⟨i,_,e2,rfl,hs⟩
  obtain ⟨d1,d2,rfl,r1,r2⟩:=Reps.splitAt (rr.allD e3)
  have hm:∀b,NM Z σ S1 b->H1 b≠none->b≠a/\H1 b=H1 b:=fun b n _=>⟨fun z=>n (by rw [z];exact ma),rfl⟩
  refine ⟨a,ws,us,ns,d1,d2,_,by rw [Hy],hl,g3,r1.mono hm fun _ _=>trivial,r2.mono hm fun _ _=>trivial,q,fun d ns' v H' q g ga rv=>?_⟩
  -- the pen changed,and the heap grown
  have hG:∀b,upd H1 a (.lst (ns'.map V.int)) b≠none->H' b=upd H1 a (.lst (ns'.map V.int)) b:=fun b hb=>by
   by_cases hba:b=a
   ·subst hba;rw [az];exact ga
   ·rw [aw hba] at hb ⊢;exact g b hba hb
  obtain ⟨k2,st2⟩:=k1.chg (s:=.pen ad ns') (o:=.lst (ns'.map V.int)) e2 rfl hs ⟨_,rfl⟩ rfl ⟨a,rfl,g2,az⟩
  have k3:=k2.grow hG
  refine hc v H' (.d d) _ k3 ((st1.trans st2).trans (.grow hG)) (show Rep K _ _ H' v d from ?_) q
  refine (Rep.avoid (N':=NM Z σ (S1.set i (.pen ad ns'))) (fun b z=>k3.mo (Classical.not_not.mp z)) (fun b zr1=>?_) rv).mono (fun _ n _=>⟨n,rfl⟩) (fun o zt1 _=>by obtain ⟨c,ec,f⟩:=zt1;exact ⟨c,ec,k1.dom c f⟩)
  obtain ⟨c,ec,f⟩:=zr1
  cases ec
  refine k2.nm ?_
  rw [aw]
  ·exact f
  ·intro z;subst z;rw [g3] at f;cases f⟩
end
end
end VL
end
section
namespace VL
open PySem L2
def Gd (K:FO) (Z:AP) (J:It) (ds:List D) (σ:St) (S:List Sl) (H:Hp):Prop:=∀ σ2 S2 H2,(∀p,H2 p=none->NM Z σ2 S2 p)->(∀a,NM Z σ S a->H a≠none->H2 a=H a/\NM Z σ2 S2 a)->∀i,(i < ds.length->J.go i H2)/\(∀x H3,J.yld i H2 x H3->i < ds.length->(∀a,H2 a≠none->H3 a=H2 a)/\∃d,ds[i]?=some d/\Rep K (NM Z σ2 S2) AnyF H3 x d)/\(i=ds.length->J.stop i H2)
def SndI (K:FO) (wi:TI) (vi:VTN):Prop:=∀H0 Z σ H S Q C,OK K H0 Z σ H S->vi S Q->(∀J ds H' S',OK K H0 Z σ H' S'->Step Z σ S H σ S' H'->Gd K Z J ds σ S' H'->Q ds S'->C J H')->wi σ H C
structure VI (K:FO) (X:Cx) (tg e:Expr) (wi:TI) (vi:VTN):Prop where
 pi:PI X tg e wi
 snd:SndI K wi vi
section
variable {K:FO} {X:Cx} {m:Bool} {e a b c tg:Expr} {ta tb tc te ti:TE} {va vb vc:VT} {pos:Pos} {st:Stmt} {rest:List Stmt} {t u:TS} {v w:VTS}
def Dk (va:VT):VTN:=fun S Q=>va S fun r S1=>∃ds,r=.d (.lst ds)/\Q ds S1
def Dl (va:VT):VTN:=fun S Q=>va S fun r S1=>∃ds,r=.d (.tup ds)/\Q ds S1
theorem bG (hK:X.K=K) (h:VE K X false e te va):VI K X tg e (yd K te) (Dk va):=⟨by subst hK;exact uM h.pe,fun H0 Z σ H S Q C k t hc=>h.snd H0 Z σ H S _ _ k t fun v H1 r S1 k1 st1 rr zq1=>by
 obtain ⟨ds,e,q⟩:=zq1
 subst e
 have rr:Rep K _ _ H1 v (.lst ds):=rr
 obtain ⟨a,vs,rfl,hq,_⟩:=rr.sqL
 refine ⟨a,rfl,⟨vs,hq⟩,hc _ ds H1 S1 k1 st1 (fun σ2 S2 H2 _ st2 i=>?_) q⟩
 obtain ⟨a',vs',e,hq2,r2⟩:=(rr.stp st2).sqL
 cases e
 refine ⟨fun hi=>?_,fun x H3 hy hi=>?_,fun hi=>⟨vs',hq2,by rw [r2.length];lia⟩⟩
 ·obtain ⟨v,h1,_⟩:=r2.getD (FS hi)
  exact ⟨vs',v,hq2,h1⟩
 ·obtain ⟨e,h2⟩:=hy
  obtain ⟨d,h3,h4⟩:=r2.get (h2 vs' hq2)
  exact ⟨fun _ _=>by rw [e],d,h3,h4.mono (fun _ n _=>⟨n,by rw [e]⟩) fun _ _=>trivial⟩⟩
theorem AI (hK:X.K=K) (h:VE K X false e te va):VI K X tg e (CP K te) (Dl va):=⟨by subst hK;exact Aa h.pe,fun H0 Z σ H S Q C k t hc=>h.snd H0 Z σ H S _ _ k t fun v H1 r S1 k1 st1 rr zq1=>by
 obtain ⟨ds,e,q⟩:=zq1
 subst e
 have rr:Rep K _ _ H1 v (.tup ds):=rr
 obtain ⟨a,vs,rfl,hq,_⟩:=rr.sqT
 refine ⟨a,rfl,⟨vs,hq⟩,hc _ ds H1 S1 k1 st1 (fun σ2 S2 H2 _ st2 i=>?_) q⟩
 obtain ⟨a',vs',e,hq2,r2⟩:=(rr.stp st2).sqT
 cases e
 refine ⟨fun hi=>?_,fun x H3 hy hi=>?_,fun hi=>⟨vs',hq2,by rw [r2.length];lia⟩⟩
 ·obtain ⟨v,h1,_⟩:=r2.getD (FS hi)
  exact ⟨vs',v,hq2,h1⟩
 ·obtain ⟨e,h2⟩:=hy
  obtain ⟨d,h3,h4⟩:=r2.get (h2 vs' hq2)
  exact ⟨fun _ _=>by rw [e],d,h3,h4.mono (fun _ n _=>⟨n,by rw [e]⟩) fun _ _=>trivial⟩⟩
def rg (lo:Int) (n:Nat):List D:=(FY n).map fun (i:Nat)=>D.int (lo+(i:Int))
theorem gg (lo:Int) (n:Nat):(rg lo n).length=n:=by simp [rg]
theorem rC {lo:Int} {n i:Nat} (h:i < n):(rg lo n)[i]?=some (.int (lo+(i:Int))):=by simp [rg,h]
theorem rD {lo:Int} {n:Nat}:Gd K Z (Itr lo n) (rg lo n) σ S H:=fun σ2 S2 H2 _ st2 i=>by
 rw [gg]
 refine ⟨fun h=>h,fun x H3 zt1 hi=>by obtain ⟨e,hx⟩:=zt1;exact ⟨fun _ _=>by rw [e],_,rC hi,by rw [hx];exact .int _⟩,fun h=>by rw [h];exact FX _⟩
section
variable {tr:TA} {vr:VTA} {p:Pos}
def Dm (vr:VTA):VTN:=fun S Q=>vr S fun rs S1=>∃j:Int,rs=[.d (.int j)]/\-(2 ^ 62)<=j/\j < 2 ^ 62/\Q (rg 0 j.toNat) S1
def Do (vr:VTA):VTN:=fun S Q=>vr S fun rs S1=>∃i j:Int,rs=[.d (.int i),.d (.int j)]/\(-(2 ^ 62)<=i/\i < 2 ^ 62/\-(2 ^ 62)<=j/\j < 2 ^ 62)/\Q (rg i (j-i).toNat) S1
theorem bC (hg:Gl X "range") (hm:X.mg "range"=none) (ha:VA K X false [a] tr vr) (hs:Gi [a] X.env=[(false,eval a X.env)]:=by rfl):VI K X tg (.Call (.Name "range" p) [a] [] pos) (ye tr) (Dm vr):=⟨ph hg hm ha.pe hs,fun H0 Z σ H S Q C k t hc=>
 ha.snd H0 Z σ H S _ _ k t fun vs H1 rs S1 k1 st1 rrs zq1=>by
  obtain ⟨j,e,h1,h2,q⟩:=zq1
  subst e
  cases rrs with
  | cons r t=>
   cases t
   cases (show Rep K _ _ H1 _ (.int j) from r)
   exact ⟨j,rfl,h1,h2,hc _ _ H1 S1 k1 st1 rD q⟩⟩
theorem gh (hg:Gl X "range") (hm:X.mg "range"=none) (ha:VA K X false [a,b] tr vr) (hs:Gi [a,b] X.env=[(false,eval a X.env),(false,eval b X.env)]:=by rfl) (hs2:Gi [b] X.env=[(false,eval b X.env)]:=by rfl):VI K X tg (.Call (.Name "range" p) [a,b] [] pos) (yf tr) (Do vr):=⟨pq hg hm ha.pe hs hs2,fun H0 Z σ H S Q C k t hc=>
 ha.snd H0 Z σ H S _ _ k t fun vs H1 rs S1 k1 st1 rrs zq1=>by
  obtain ⟨i,j,e,h1,q⟩:=zq1
  subst e
  cases rrs with
  | cons r t=>
   cases t with
   | cons r' t=>
    cases t
    cases (show Rep K _ _ H1 _ (.int i) from r)
    cases (show Rep K _ _ H1 _ (.int j) from r')
    exact ⟨i,j,rfl,h1,hc _ _ H1 S1 k1 st1 rD q⟩⟩
end
def runFor (vg:VG) (vb:VTS) (V:bz):List D->List Sl->Prop
 | []=>V.nx
 | d::r=>fun S=>vg d S fun S3=>vb ⟨runFor vg vb V r,V.rt,V.nx,runFor vg vb V r⟩ S3
def Dp (vi:VTN) (vg:VG) (vb:VTS):VTS:=fun V S=>vi S fun ds S1=>runFor vg vb V ds S1\/∃Iv:Nat->List Sl->Prop,Iv 0 S1/\(∀i d S2,ds[i]?=some d->Iv i S2->vg d S2 fun S3=>vb { V with nx:=Iv (i+1),ct:=Iv (i+1),bk:=V.nx } S3)/\∀S2,Iv ds.length S2->V.nx S2
theorem cB {body:List Stmt} {wi:TI} {vi:VTN} {g:TG} {vg:VG} (hp:PassesOwn (GM X.prog X.w) X.A X.env X.xe) (hc:X.calm=true) (hi:VI K X tg e wi vi) (hg:VGe K X tg g vg) (hb:VSs K X body t v) (hs:∀x,Gj e X.env x=pure x:=by intro _;rfl) :
  VS K X (.For tg e body [] pos) (CQ wi g t) (Dp vi vg v):=⟨Ab hp hc hi.pi hg.pg hb.ps hs,fun H0 Z σ H S V E k t l=>hi.snd H0 Z σ H S _ _ k t fun J ds H1 S1 k1 st1 gd hh=>by
 rcases hh with hr | ⟨Iv,i0,hs,hd⟩
 ·refine ⟨fun i m σ H=>m=ds.length-i/\i<=ds.length/\∃S2,OK K H0 Z σ H S2/\Step Z _ S1 H1 σ S2 H/\runFor vg v V (ds.drop i) S2,⟨ds.length,by simp,HM _,S1,k1,.refl,by simpa using hr⟩,?_⟩
  rintro i m σ2 H2 ⟨rfl,hi,S2,k2,st2,p⟩
  obtain ⟨g1,g2,g3⟩:=gd σ2 S2 H2 (fun _=>k2.nm) st2.1 i
  by_cases hlt:i < ds.length
  ·rw [Im hlt] at p
   refine .inr ⟨g1 hlt,fun σ' H'=>∃S',OK K H0 Z σ' H' S'/\Step Z σ S1 H1 σ' S' H'/\runFor vg v V (ds.drop (i+1)) S',fun σ' H' p'=>⟨ds.length-(i+1),by lia,rfl,hlt,p'⟩,fun x H3 y=>?_⟩
   obtain ⟨hgr,d,hd',rd⟩:=g2 x H3 y hlt
   replace k2:=k2.grow hgr
   replace st2:=st2.trans (.grow hgr)
   rw [FS hlt] at hd'
   cases hd'
   refine hg.snd H0 Z σ2 H3 S2 x _ _ _ k2 rd p fun σ4 H4 S4 k4 st4 q4=>?_
   refine hb.snd H0 Z σ4 H4 S4 _ _ k4 q4 ⟨fun σ' H' S' k' s' q'=>⟨S',k',(st2.trans st4).trans s',q'⟩,fun σ' H' S' k' s' q'=>l.nx σ' H' S' k' (((st1.trans st2).trans st4).trans s') q',fun σ' H' S' k' s' q'=>⟨S',k',(st2.trans st4).trans s',q'⟩,fun v d σ' H' S' k' s' r' q'=>l.rt v d σ' H' S' k' (((st1.trans st2).trans st4).trans s') r' q'⟩
  ·have e:i=ds.length:=by lia
   rw [e,List.drop_length] at p
   exact .inl ⟨g3 e,l.nx _ _ _ k2 (st1.trans st2) p⟩
 refine ⟨fun i m σ H=>m=ds.length-i/\i<=ds.length/\∃S2,OK K H0 Z σ H S2/\Step Z _ S1 H1 σ S2 H/\Iv i S2,⟨ds.length,by simp,HM _,S1,k1,.refl,i0⟩,?_⟩
 rintro i m σ2 H2 ⟨rfl,hi,S2,k2,st2,p⟩
 obtain ⟨g1,g2,g3⟩:=gd σ2 S2 H2 (fun _=>k2.nm) st2.1 i
 by_cases hlt:i < ds.length
 ·refine .inr ⟨g1 hlt,fun σ' H'=>∃S',OK K H0 Z σ' H' S'/\Step Z σ S1 H1 σ' S' H'/\Iv (i+1) S',fun σ' H' p'=>⟨ds.length-(i+1),by lia,rfl,hlt,p'⟩,fun x H3 y=>?_⟩
  obtain ⟨hgr,d,hd',rd⟩:=g2 x H3 y hlt
  replace k2:=k2.grow hgr
  replace st2:=st2.trans (.grow hgr)
  refine hg.snd H0 Z σ2 H3 S2 x d _ _ k2 rd (hs i d S2 hd' p) fun σ4 H4 S4 k4 st4 q4=>?_
  refine hb.snd H0 Z σ4 H4 S4 _ _ k4 q4 ⟨fun σ' H' S' k' s' q'=>⟨S',k',(st2.trans st4).trans s',q'⟩,fun σ' H' S' k' s' q'=>l.nx σ' H' S' k' (((st1.trans st2).trans st4).trans s') q',fun σ' H' S' k' s' q'=>⟨S',k',(st2.trans st4).trans s',q'⟩,fun v d σ' H' S' k' s' r' q'=>l.rt v d σ' H' S' k' (((st1.trans st2).trans st4).trans s') r' q'⟩
 ·have e:i=ds.length:=by lia
  exact .inl ⟨g3 e,l.nx _ _ _ k2 (st1.trans st2) (hd S2 (by rw [<- e];exact p))⟩⟩
end
def bg (n:Nat) (ix:List Nat) (S:List Sl):List Sl:=Ga n .no++ix.map fun i=>(S[i]?).getD .no
def lD (s t:Sl):Sl:=if s.mut then (if t.mut then t else .no) else s
def bT (n:Nat) (ix:List Nat) (T:List Sl):Nat->List Sl->List Sl
 | _,[]=>[]
 | k,s::r=>(match ix.idxOf? k with | some j=>lD s ((T[n+j]?).getD .no) | none=>s)::bT n ix T (k+1) r
def backS (n:Nat) (ix:List Nat) (S T:List Sl):List Sl:=bT n ix T 0 S
def Zin (Z:AP) (ix:List Nat) (σ:St) (S:List Sl):AP:=fun a=>Z a\/∃(i:Nat) (s:Sl),i∉ix/\S[i]?=some s/\s.mut=true/\σ[i]?=some (some (V.ref a))
section
variable {K:FO} {H H' H0:Hp} {Z:AP} {σ σ':St} {S T:List Sl} {n:Nat} {ix:List Nat}
theorem iD (k:Nat):(bT n ix T k S).length=S.length:=by
 induction S generalizing k with
 | nil=>rfl
 | cons s r ih=>simp [bT,ih]
theorem vf (k:Nat) {i:Nat} {s:Sl} (h:S[i]?=some s):(bT n ix T k S)[i]?=some (match ix.idxOf? (k+i) with | some j=>lD s ((T[n+j]?).getD .no) | none=>s):=by
 induction S generalizing k i with
 | nil=>simp at h
 | cons s' r ih=>
  cases i with
  | zero=>simp at h;subst h;rfl
  | succ i=>
   simp at h
   simp only [bT,HF]
   rw [ih (k+1) h,show k+1+i=k+(i+1) by lia]
theorem j5 {j:Nat} {s:Sl} (h:(bg n ix S)[j]?=some s) (m:s.mut=true):∃k i,j=n+k/\ix[k]?=some i/\S[i]?=some s:=by
 unfold bg at h
 by_cases hj:j < n
 ·rw [GJ (by simpa using hj)] at h
  simp [hj] at h
  subst h;cases m
 ·rw [Gz (by simp;lia)] at h
  simp only [HP,Gk] at h
  cases hk:ix[j-n]? with
  | none=>rw [hk] at h;cases h
  | some i=>
   rw [hk] at h
   simp at h
   refine ⟨j-n,i,by lia,hk,?_⟩
   cases hs:S[i]? with
   | none=>rw [hs] at h;simp at h;subst h;cases m
   | some s'=>rw [hs] at h;simp at h;subst h;rfl
theorem vj {j:Nat} {s:Sl} (h:(bg n ix S)[j]?=some s):s=.no\/∃k i,j=n+k/\ix[k]?=some i/\S[i]?=some s:=by
 unfold bg at h
 by_cases hj:j < n
 ·rw [GJ (by simpa using hj)] at h
  simp [hj] at h
  exact .inl h.symm
 ·rw [Gz (by simp;lia)] at h
  simp only [HP,Gk] at h
  cases hk:ix[j-n]? with
  | none=>rw [hk] at h;cases h
  | some i=>
   rw [hk] at h
   simp at h
   cases hs:S[i]? with
   | none=>rw [hs] at h;simp at h;exact .inl h.symm
   | some s'=>rw [hs] at h;simp at h;subst h;exact .inr ⟨j-n,i,by lia,hk,hs⟩
theorem fT {k i:Nat} (h:ix[k]?=some i):(capt n ix σ)[n+k]?=some ((σ[i]?).getD none):=by
 unfold capt
 rw [Gz (by simp)]
 simp [h]
theorem vm {k i:Nat} (h:ix[k]?=some i):(bg n ix S)[n+k]?=some ((S[i]?).getD .no):=by
 unfold bg
 rw [Gz (by simp)]
 simp [h]
theorem dv {k i:Nat} (h:ix[k]?=some i) (e:(capt n ix σ)[n+k]?=some (some v)):σ[i]?=some (some v):=by
 rw [fT h] at e
 cases hs:σ[i]? with
 | none=>rw [hs] at e;cases e
 | some o=>rw [hs] at e;simp at e;rw [e]
theorem eH {a:Addr}:Mo (Zin Z ix σ S) (capt n ix σ) (bg n ix S) a↔Mo Z σ S a:=by
 constructor
 ·rintro (⟨j,s,h1,h2,h3⟩ | h | ⟨i,s,_,h1,h2,h3⟩)
  ·obtain ⟨k,i,rfl,hk,hs⟩:=j5 h1 h2
   exact .inl ⟨i,s,hs,h2,dv hk h3⟩
  ·exact .inr h
  ·exact .inl ⟨i,s,h1,h2,h3⟩
 ·rintro (⟨i,s,h1,h2,h3⟩ | h)
  ·by_cases hi:i∈ix
   ·obtain ⟨k,hk⟩:=List.getElem?_of_mem hi
    refine .inl ⟨n+k,s,?_,h2,?_⟩
    ·rw [vm hk,h1];rfl
    ·rw [fT hk,h3];rfl
   ·exact .inr (.inr ⟨i,s,hi,h1,h2,h3⟩)
  ·exact .inr (.inl h)
theorem pJ {l:List Nat} (h:l.Nodup):∀{i j x:Nat},l[i]?=some x->l[j]?=some x->i=j:=fun {i j x} h1 h2=>by
 obtain ⟨a,e1⟩:=List.getElem?_eq_some_iff.mp h1
 obtain ⟨b,e2⟩:=List.getElem?_eq_some_iff.mp h2
 have hp:=List.pairwise_iff_getElem.mp h
 rcases Kz i j with c | c | c
 ·exact (hp i j a b c (by rw [e1,e2])).elim
 ·exact c
 ·exact (hp j i b a c (by rw [e1,e2])).elim
theorem OK.capt (k:OK K H0 Z σ H S) (hn:ix.Nodup):OK K H0 (Zin Z ix σ S) (L2.capt n ix σ) H (bg n ix S) where
 len:=by simp [L2.capt,bg]
 dom:=k.dom
 zl:=fun a z=>by
  rcases z with z | ⟨i,s,_,h1,h2,h3⟩
  ·exact k.zl a z
  ·exact k.mo (.inl ⟨i,s,h1,h2,h3⟩)
 nz:=fun j s a h1 h2 h3 z=>by
  obtain ⟨q,i,rfl,hk,hs⟩:=j5 h1 h2
  have e:=dv hk h3
  rcases z with z | ⟨i',s',hi',g1,g2,g3⟩
  ·exact k.nz i s a hs h2 e z
  ·have:=k.inj i i' a s s' hs g1 h2 g2 e g3
   subst this
   exact hi' (He hk)
 inj:=fun j j' a s s' h1 h2 m1 m2 h3 h4=>by
  obtain ⟨q,i,rfl,hk,hs⟩:=j5 h1 m1
  obtain ⟨q',i',rfl,hk',hs'⟩:=j5 h2 m2
  have:=k.inj i i' a s s' hs hs' m1 m2 (dv hk h3) (dv hk' h4)
  subst this
  rw [pJ hn hk hk']
 at_:=fun j o s h1 h2=>by
  have hN:∀a,NM Z σ S a->NM (Zin Z ix σ S) (L2.capt n ix σ) (bg n ix S) a:=fun a x z=>x (eH.mp z)
  rcases vj h2 with rfl | ⟨q,i,rfl,hk,hs⟩
  ·trivial
  ·rw [fT hk] at h1
   obtain ⟨o',e1,sl⟩:=k.ownAt hs
   rw [e1] at h1
   simp at h1
   subst h1
   cases s with
   | no=>trivial
   | val d=>obtain ⟨v,e,r⟩:=sl;exact ⟨v,e,r.mono (fun a x _=>⟨hN a x,rfl⟩) fun _ x=>x⟩
   | fre d=>obtain ⟨v,e,r⟩:=sl;exact ⟨v,e,r.mono (fun a x _=>⟨hN a x,rfl⟩) fun _ x=>x⟩
   | own ds=>obtain ⟨a,vs,e,e',e0,r⟩:=sl;exact ⟨a,vs,e,e',e0,r.mono (fun a x _=>⟨hN a x,rfl⟩) fun _ x=>x⟩
   | pen ad ns=>exact sl
   | odi ks ds=>obtain ⟨a,vs,e,e',e0,ek,r⟩:=sl;exact ⟨a,vs,e,e',e0,⟨ek.1,ek.2.mono (fun a x _=>⟨hN a x,rfl⟩) fun _ x=>x⟩,r.mono (fun a x _=>⟨hN a x,rfl⟩) fun _ x=>x⟩
   | obj k=>obtain ⟨a,e,e0,r⟩:=sl;exact ⟨a,e,e0,k.mono (fun a x _=>⟨hN a x,rfl⟩) rfl r⟩
theorem rE {i j:Nat} (h:ix.idxOf? i=some j):ix[j]?=some i:=by
 unfold MM at h
 obtain ⟨h1,h2,_⟩:=List.findIdx?_eq_some_iff_getElem.mp h
 rw [FS h1]
 simpa using h2
theorem rF {i:Nat} (h:ix.idxOf? i=none):i∉ix:=by
 unfold MM at h
 intro hm
 have:=List.findIdx?_eq_none_iff.mp h i hm
 simp at this
theorem lE {i:Nat} {s:Sl} (h:S[i]?=some s):(backS n ix S T)[i]?=some (match ix.idxOf? i with | some j=>lD s ((T[n+j]?).getD .no) | none=>s):=by
 have:=vf (n:=n) (ix:=ix) (T:=T) 0 h
 rwa [Kf] at this
theorem dw {i:Nat} {s':Sl} (h:(backS n ix S T)[i]?=some s') (m:s'.mut=true):∃s,S[i]?=some s/\s.mut=true/\((∃j,ix[j]?=some i/\T[n+j]?=some s')\/(i∉ix/\s=s')):=by
 have hl:i < S.length:=by
  have:=(List.getElem?_eq_some_iff.mp h).1
  rwa [show (backS n ix S T).length=S.length from iD 0] at this
 have e:=lE (n:=n) (ix:=ix) (T:=T) (FS hl)
 rw [h] at e
 have e:=Gx e
 refine ⟨_,FS hl,?_⟩
 cases hx:ix.idxOf? i with
 | none=>
  rw [hx] at e
  have e:s'=S[i]:=e
  exact ⟨by rw [<- e];exact m,.inr ⟨rF hx,e.symm⟩⟩
 | some j=>
  rw [hx] at e
  simp only [lD] at e
  by_cases hm:(S[i]).mut=true
  ·rw [if_pos hm] at e
   refine ⟨hm,.inl ⟨j,rE hx,?_⟩⟩
   cases ht:T[n+j]? with
   | none=>rw [ht] at e;simp [Sl.mut] at e;subst e;cases m
   | some t=>
    rw [ht] at e
    simp only [Option.getD_some] at e
    by_cases htm:t.mut=true
    ·rw [if_pos htm] at e;rw [e]
    ·rw [if_neg htm] at e;subst e;cases m
  ·rw [if_neg hm] at e;subst e;exact (hm m).elim
theorem pK {i:Nat} {s':Sl} (h:(backS n ix S T)[i]?=some s') (m:s'.mut=false):s'=.no\/S[i]?=some s':=by
 have hl:i < S.length:=by
  have:=(List.getElem?_eq_some_iff.mp h).1
  rwa [show (backS n ix S T).length=S.length from iD 0] at this
 have e:=lE (n:=n) (ix:=ix) (T:=T) (FS hl)
 rw [h] at e
 have e:=Gx e
 cases hx:ix.idxOf? i with
 | none=>rw [hx] at e;exact .inr (by rw [FS hl,e])
 | some j=>
  rw [hx] at e
  simp only [lD] at e
  by_cases hm:(S[i]).mut=true
  ·rw [if_pos hm] at e
   by_cases htm:((T[n+j]?).getD .no).mut=true
   ·rw [if_pos htm] at e;rw [e,htm] at m;cases m
   ·rw [if_neg htm] at e;exact .inl e
  ·rw [if_neg hm] at e;exact .inr (by rw [FS hl,e])
theorem OK.back (k:OK K H0 Z σ H S) (k':OK K H0 (Zin Z ix σ S) σ' H' T) (st:Step (Zin Z ix σ S) (L2.capt n ix σ) (bg n ix S) H σ' T H') (hσ:∀(i:Nat) (v:V),(L2.capt n ix σ)[i]?=some (some v)->σ'[i]?=some (some v)) :
  OK K H0 Z σ H' (backS n ix S T)/\Step Z σ S H σ (backS n ix S T) H'/\∀a,NM (Zin Z ix σ S) σ' T a->NM Z σ (backS n ix S T) a:=by
 have mo':∀a,Mo Z σ (backS n ix S T) a->Mo (Zin Z ix σ S) σ' T a:=fun a z=>by
  rcases z with ⟨i,s',h1,h2,h3⟩ | z
  ·obtain ⟨s,e,em,⟨j,hj,ht⟩ | ⟨hi,rfl⟩⟩:=dw h1 h2
   ·exact .inl ⟨n+j,s',ht,h2,hσ _ _ (by rw [fT hj,h3];rfl)⟩
   ·exact .inr (.inr ⟨i,s,hi,e,em,h3⟩)
  ·exact .inr (.inl z)
 have nm':∀a,NM (Zin Z ix σ S) σ' T a->NM Z σ (backS n ix S T) a:=fun a x z=>x (mo' a z)
 have nm0:∀a,NM Z σ S a->NM (Zin Z ix σ S) (L2.capt n ix σ) (bg n ix S) a:=fun a x z=>x (eH.mp z)
 have old:∀a,NM Z σ S a->H a≠none->NM Z σ (backS n ix S T) a/\H' a=H a:=fun a x e=>⟨nm' a (st.1 a (nm0 a x) e).2,(st.1 a (nm0 a x) e).1⟩
 refine ⟨⟨by rw [show (backS n ix S T).length=S.length from iD 0];exact k.len,fun i o s' h1 h2=>?_,fun i j a s t h1 h2 m1 m2 h3 h4=>?_,fun a e=>k'.dom a e,fun a z=>k'.zl a (.inl z),fun i s a h1 m h3 z=>?_⟩,⟨fun a x e=>⟨(old a x e).2,(old a x e).1⟩,st.2.1,fun a z e=>st.2.2 a (.inl z) e⟩,nm'⟩
 ·cases hm:s'.mut with
  | true=>
   obtain ⟨s,e,em,⟨j,hj,ht⟩ | ⟨hi,rfl⟩⟩:=dw h2 hm
   ·have eo:∃v,o=some v:=by
     obtain ⟨o',e1,q⟩:=k.ownAt e
     rw [h1] at e1;cases e1
     cases s with
     | no=>cases em
     | val d=>cases em
     | fre d=>cases em
     | own ds=>obtain ⟨a,_,e,_⟩:=q;exact ⟨_,e⟩
     | pen ad ns=>obtain ⟨a,e,_⟩:=q;exact ⟨_,e⟩
     | odi ks ds=>obtain ⟨a,_,e,_⟩:=q;exact ⟨_,e⟩
     | obj k=>obtain ⟨a,e,_⟩:=q;exact ⟨_,e⟩
    obtain ⟨v,rfl⟩:=eo
    have q:=k'.at_ (n+j) (some v) s' (hσ _ _ (by rw [fT hj,h1];rfl)) ht
    cases s' with
    | no=>cases hm
    | val d=>cases hm
    | fre d=>cases hm
    | own ds=>obtain ⟨a,vs,e,e',e0,r⟩:=q;exact ⟨a,vs,e,e',e0,r.mono (fun a x _=>⟨nm' a x,rfl⟩) fun _ x=>x⟩
    | pen ad ns=>exact q
    | odi ks ds=>obtain ⟨a,vs,e,e',e0,ek,r⟩:=q;exact ⟨a,vs,e,e',e0,⟨ek.1,ek.2.mono (fun a x _=>⟨nm' a x,rfl⟩) fun _ x=>x⟩,r.mono (fun a x _=>⟨nm' a x,rfl⟩) fun _ x=>x⟩
    | obj k=>obtain ⟨a,e,e0,r⟩:=q;exact ⟨a,e,e0,k.mono (fun a x _=>⟨nm' a x,rfl⟩) rfl r⟩
   ·obtain ⟨o',e1,q⟩:=k.ownAt e
    rw [h1] at e1;cases e1
    have hz:∀a us,o=some (V.ref a)->H a=some us->H' a=H a:=fun a us eo ea=>st.2.2 a (.inr ⟨i,s,hi,e,em,by rw [h1,eo]⟩) (by simp [ea])
    cases s with
    | no=>cases hm
    | val d=>cases hm
    | fre d=>cases hm
    | own ds=>obtain ⟨a,vs,e,e',e0,r⟩:=q;exact ⟨a,vs,e,(hz a _ e e').trans e',e0,r.mono old fun _ x=>x⟩
    | pen ad ns=>obtain ⟨a,e,e1,e'⟩:=q;exact ⟨a,e,e1,(hz a _ e e').trans e'⟩
    | odi ks ds=>obtain ⟨a,vs,e,⟨ob,e'⟩,e0,ek,r⟩:=q;exact ⟨a,vs,e,⟨ob,(hz a _ e e').trans e'⟩,e0,⟨ek.1,ek.2.mono old fun _ x=>x⟩,r.mono old fun _ x=>x⟩
    | obj k=>obtain ⟨a,e,e0,r⟩:=q;exact ⟨a,e,e0,k.mono old (hz a _ e (Option.ne_none_iff_exists'.mp (k.ism r).ne).choose_spec) r⟩
  | false=>
   rcases pK h2 hm with rfl | e
   ·trivial
   ·have q:=k.at_ i o s' h1 e
    cases s' with
    | no=>trivial
    | val d=>obtain ⟨v,e,r⟩:=q;exact ⟨v,e,r.mono old fun _ x=>x⟩
    | fre d=>obtain ⟨v,e,r⟩:=q;exact ⟨v,e,r.mono old fun _ x=>x⟩
    | own ds=>cases hm
    | pen ad ns=>cases hm
    | odi ks ds=>cases hm
    | obj k=>cases hm
 ·obtain ⟨s0,e0,em0,c1⟩:=dw h1 m1
  obtain ⟨t0,f0,fm0,c2⟩:=dw h2 m2
  exact k.inj i j a s0 t0 e0 f0 em0 fm0 h3 h4
 ·obtain ⟨s0,e0,em0,c1⟩:=dw h1 m
  exact k.nz i s0 a e0 em0 h3 z
end
section
variable {K:FO} {X:Cx} {e a b c tg elt iter:Expr} {te:TE} {va:VT} {pos:Pos}
structure VTs (K:FO) (X:Cx) (ifs:List Expr) (te:TT) (t:VTT):Prop where
 pe:PTs X ifs te
 snd:SndT K te t
def yr:VTT:=fun S Q=>Q true S
theorem bU:VTs K X [] yj yr:=⟨u0,fun _ _ _ _ _ _ _ k h q=>q _ _ _ k .refl h⟩
theorem dN {tA:TT} {wA:VTT} (h:VTe K X c tA wA):VTs K X [c] tA wA:=⟨u6 h.pe,h.snd⟩
def lF (vi:VTN) (n:Nat) (ix:List Nat) (vg:VG) (vt:VTT) (ve:VT):VTN:=fun S Q=>vi S fun ds S1=>ds.length<=1000000/\∃Iv:Nat->List D->List Sl->Prop,Iv 0 [] S1 /\
 (∀i d ys S2,ds[i]?=some d->Iv i ys S2->vg d (bg n ix S2) fun S3=>vt S3 fun b S4=>if b=true then ve S4 fun r S5=>∃x,r=.d x/\Iv (i+1) (ys++[x]) (backS n ix S2 S5) else Iv (i+1) ys (backS n ix S2 S4)) /\
 ∀ys S2,Iv ds.length ys S2->Q ys S2
theorem rG {ifs:List Expr} {scope:IR} {tg cs:List Str} {target:Expr} {wi:TI} {vi:VTN} {g:TG} {vg:VG} {tc:TT} {vt:VTT} {te:TE} {ve:VT} (Sc:aR X scope tg cs ix) (hcalm:X.calm=true) (kg:cT tg.length ix g) (hnd:ix.Nodup) {Φ:Hp->Prop} (hΦ:∀pins σ H s,Inv X pins σ H s->Φ H) (h0:Φ X.H₀)
  (hi:VI K X target iter wi vi) (hg:∀C fp s H,VGe K (aj X scope (tg++cs) C fp s H) target g vg) (hc:∀C fp s H,Φ H->VTs K (aj X scope (tg++cs) C fp s H) ifs tc vt) (he:∀C fp s H,Φ H->VE K (aj X scope (tg++cs) C fp s H) true elt te ve)
  (hs:∀x,Gj iter X.env x=pure x:=by intro _;rfl):VN K X (.ListComp elt [⟨target,iter,ifs,0⟩] scope pos) (ip wi tg.length ix g tc te) (lF vi tg.length ix vg vt ve):=by
 have sg:SndG K g vg:=(hg 0 [] X.s₀ (fun _=>none)).snd
 have sc:SndT K tc vt:=(hc 0 [] X.s₀ X.H₀ h0).snd
 have se:SndE K true te ve:=(he 0 [] X.s₀ X.H₀ h0).snd
 refine ⟨qV Sc hcalm kg hΦ hi.pi (fun C fp s H=>(hg C fp s H).pg) (fun C fp s H z=>(hc C fp s H z).pe) (fun C fp s H z=>(he C fp s H z).pe) hs,fun H0 Z σ H S Q C k t hq=>?_⟩
 refine hi.snd H0 Z σ H S _ _ k t fun J ds H1 S1 k1 st1 gd zr1=>?_
 obtain ⟨hl,Iv,i0,hs,hd⟩:=zr1
 refine ⟨fun i m ys H=>m=ds.length-i/\i<=ds.length/\ys.length<=i/\∃S2 zs,OK K H0 Z σ H S2/\Step Z σ S1 H1 σ S2 H/\Reps K (NM Z σ S2) (Fr H0) H ys zs/\Iv i zs S2,⟨ds.length,by simp,HM _,FX _,S1,[],k1,.refl,.nil,i0⟩,?_⟩
 rintro i m ys H2 ⟨rfl,hi,hy,S2,zs,k2,st2,rz,p⟩
 obtain ⟨g1,g2,g3⟩:=gd σ S2 H2 (fun _=>k2.nm) st2.1 i
 have hsz:(1000000:Nat) < GG:=by rw [G9];lia
 by_cases hlt:i < ds.length
 ·refine .inr ⟨g1 hlt,by lia,fun ys' H'=>ys'.length<=i+1/\∃S' zs',OK K H0 Z σ H' S'/\Step Z σ S1 H1 σ S' H'/\Reps K (NM Z σ S') (Fr H0) H' ys' zs'/\Iv (i+1) zs' S',fun ys' H' zt1=>by obtain ⟨p1,p2⟩:=zt1;exact ⟨ds.length-(i+1),by lia,rfl,hlt,p1,p2⟩,fun x H3 y=>?_⟩
  obtain ⟨hgr,d,hd',rd⟩:=g2 x H3 y hlt
  replace k2:=k2.grow hgr
  replace st2:=st2.trans (.grow hgr)
  replace rz:=rz.step (.grow hgr)
  have kc:=k2.capt (n:=tg.length) hnd
  have rd':Rep K (NM (Zin Z ix σ S2) (L2.capt tg.length ix σ) (bg tg.length ix S2)) AnyF H3 x d:=rd.mono (fun a n _=>⟨fun z=>n (eH.mp z),rfl⟩) fun _ x=>x
  -- the target leaves what the block took over
  have h1:=sg H0 _ _ H3 _ x d _ (fun σ4 H4=>∃S4,OK K H0 (Zin Z ix σ S2) σ4 H4 S4/\Step (Zin Z ix σ S2) (L2.capt tg.length ix σ) (bg tg.length ix S2) H3 σ4 S4 H4/\vt S4 fun b S5=>if b=true then ve S5 fun r S6=>∃x,r=.d x/\Iv (i+1) (zs++[x]) (backS tg.length ix S2 S6) else Iv (i+1) zs (backS tg.length ix S2 S5)) kc rd' (hs i d zs S2 hd' p) (fun σ4 H4 S4 k4 st4 q4=>⟨S4,k4,st4,q4⟩)
  have h2:=kg x σ H3 _ h1
  refine (hg 0 [] X.s₀ (fun _=>none)).mono _ _ _ _ _ ?_ h2
  rintro σ4 H4 ⟨⟨hl4,hσ4⟩,S4,k4,st4,q4⟩
  refine sc H0 _ σ4 H4 S4 _ _ k4 q4 fun bb H5 S5 k5 st5 q5=>?_
  cases bb with
  | false=>
   rw [if_neg F4] at q5 ⊢
   obtain ⟨kb,sb,nb⟩:=k2.back k5 (st4.trans st5) hσ4
   exact ⟨by lia,_,zs,kb,st2.trans sb,rz.step sb,q5⟩
  | true=>
   rw [if_pos rfl] at q5 ⊢
   refine se H0 _ σ4 H5 S5 _ _ k5 q5 fun vv H6 r S6 k6 st6 rr zr1=>?_
   obtain ⟨xx,er,q6⟩:=zr1
   subst er
   obtain ⟨kb,sb,nb⟩:=k2.back k6 ((st4.trans st5).trans st6) hσ4
   refine ⟨by simp;lia,_,zs++[xx],kb,st2.trans sb,Reps.append (rz.step sb) (.cons (Rep.mono (fun a n _=>⟨nb a n,rfl⟩) (fun _ x=>x rfl) rr) .nil),q6⟩
 ·have e:i=ds.length:=by lia
  refine .inl ⟨g3 e,by lia,fun l hp=>?_⟩
  exact hq l ys zs H2 _ S2 k2 (st1.trans st2) hp (aQ hp) az (bJ hp (rz.mono (fun _ n _=>⟨n,rfl⟩) fun _ x _=>x)) (hd zs S2 (by rw [<- e];exact p))
theorem b8 {ifs:List Expr} {scope:IR} {tg cs:List Str} {target:Expr} {wi:TI} {vi:VTN} {g:TG} {vg:VG} {tc:TT} {vt:VTT} {te:TE} {ve:VT} (Sc:aR X scope tg cs ix) (hcalm:X.calm=true) (kg:cT tg.length ix g) (hnd:ix.Nodup)
  (hi:VI K X target iter wi vi) (hg:∀C fp s H,VGe K (aj X scope (tg++cs) C fp s H) target g vg) (hc:∀C fp s H,VTs K (aj X scope (tg++cs) C fp s H) ifs tc vt) (he:∀C fp s H,VE K (aj X scope (tg++cs) C fp s H) true elt te ve)
  (hs:∀x,Gj iter X.env x=pure x:=by intro _;rfl):VN K X (.ListComp elt [⟨target,iter,ifs,0⟩] scope pos) (ip wi tg.length ix g tc te) (lF vi tg.length ix vg vt ve):=
 rG Sc hcalm kg hnd (Φ:=fun _=>True) (fun _ _ _ _ _=>trivial) trivial hi hg (fun C fp s H _=>hc C fp s H) (fun C fp s H _=>he C fp s H) hs
theorem rH {elt iter:Expr} {pos spos py:Pos} {yy:Str} {ii:Nat} {ifs:List Expr} {scope:IR} {tg cs:List Str} {target:Expr} {wi:TI} {vi:VTN} {g:TG} {vg:VG} {tc:TT} {vt:VTT} {te:TE} {ve:VT} (hN0:X.N.Nodup) (hi0:X.N[ii]?=some yy) (hx0:Loc X.env.scope yy) (hf0:X.fn yy=true\/X.env.scope.names.lookup yy=some .local)
  (Sc:aR X scope tg cs ix) (hcalm:X.calm=true) (kg:cT tg.length ix g) (hnd:ix.Nodup)
  (hi:VI K X target iter wi vi) (hg:∀C fp s H,VGe K (aj X scope (tg++cs) C fp s H) target g vg) (hc:∀C fp s H,VTs K (aj X scope (tg++cs) C fp s H) ifs tc vt) (he:∀C fp s H,VE K (aj X scope (tg++cs) C fp s H) true elt te ve)
  (hsw:HJ (.ListComp elt [⟨target,iter,ifs,0⟩] scope pos) (some (.Name yy py)) spos.line X.env=pure true:=by rfl) (hs:∀x,Gj iter X.env x=pure x:=by intro _;rfl):VS K X (.Assign [.Name yy py] (.ListComp elt [⟨target,iter,ifs,0⟩] scope pos) spos) (cQ (ip wi tg.length ix g tc te) (aX ii)) (rq ii (lF vi tg.length ix vg vt ve)):=by
 have h:=b8 (pos:=pos) Sc hcalm kg hnd hi hg hc he hs
 refine ⟨lw hN0 hi0 hx0 Sc hcalm kg hi.pi (fun C fp s H=>(hg C fp s H).pg) (fun C fp s H=>(hc C fp s H).pe) (fun C fp s H=>(he C fp s H).pe) hf0 hsw hs,fun H0 Z σ H S V E k t l=>h.snd H0 Z σ H S _ _ k t fun a vs ds H1 H' S' k1 st1 ha hg hl rr zr1=>?_⟩
 obtain ⟨hi,q⟩:=zr1
 obtain ⟨k2,st2⟩:=k1.setNew (s:=.own ds) hi ha hg ⟨a,vs,rfl,hl,k1.dom a ha,rr⟩ rfl
 exact l.nx _ _ _ k2 (st1.trans st2) q
theorem lG {elt iter:Expr} {pos spos py:Pos} {yy:Str} {ii:Nat} {ifs:List Expr} {scope:IR} {tg cs:List Str} {target:Expr} {wi:TI} {vi:VTN} {g:TG} {vg:VG} {tc:TT} {vt:VTT} {te:TE} {ve:VT} (hN0:X.N.Nodup) (hi0:X.N[ii]?=some yy) (hx0:Loc X.env.scope yy) (hf0:X.fn yy=true\/X.env.scope.names.lookup yy=some .local)
  (Sc:aR X scope tg cs ix) (hcalm:X.calm=true) (kg:cT tg.length ix g) (hnd:ix.Nodup)
  (hi:VI K X target iter wi vi) (hg:∀C fp s H,VGe K (aj X scope (tg++cs) C fp s H) target g vg) (hc:∀C fp s H,VTs K (aj X scope (tg++cs) C fp s H) ifs tc vt) (he:∀C fp s H,VE K (aj X scope (tg++cs) C fp s H) true elt te ve)
  (hsw:HJ (.ListComp elt [⟨target,iter,ifs,0⟩] scope pos) (some (.Name yy py)) spos.line X.env=pure true:=by rfl) (hs:∀x,Gj iter X.env x=pure x:=by intro _;rfl):VS K X (.Assign [.Name yy py] (.ListComp elt [⟨target,iter,ifs,0⟩] scope pos) spos) (cQ (ip wi tg.length ix g tc te) (aX ii)) (lB (pI (lF vi tg.length ix vg vt ve)) (vgN ii)):=by
 have h:=b8 (pos:=pos) Sc hcalm kg hnd hi hg hc he hs
 refine ⟨lw hN0 hi0 hx0 Sc hcalm kg hi.pi (fun C fp s H=>(hg C fp s H).pg) (fun C fp s H=>(hc C fp s H).pe) (fun C fp s H=>(he C fp s H).pe) hf0 hsw hs,iB (aI (m:=false) h).snd fun H0 Z σ H S v d Q C k r zt1 hc=>by obtain ⟨hi,q⟩:=zt1;exact hc _ _ _ (k.setVal hi r).1 (k.setVal hi r).2 q⟩
end
end VL
end
section
namespace VL
open PySem L2
section
variable {P:GD} {w:Hg} {K:FO} {mg:Str->Option FU} {base:Heap}
def slots (n:Nat) (ds:List D):List Sl:=ds.map .val++Ga (n-ds.length) .no
theorem iE {N:List Str} {i:Nat} (h:vs[i]?=some v):(start N vs)[i]?=some (some v):=by
 unfold L2.start
 have hi:=(List.getElem?_eq_some_iff.mp h).1
 rw [GJ (by simpa using hi)]
 simp [h]
theorem lH {n:Nat} {i:Nat} {s:Sl} (h:(slots n ds)[i]?=some s):s=.no\/∃d,s=.val d/\ds[i]?=some d:=by
 unfold slots at h
 by_cases hi:i < ds.length
 ·rw [GJ (by simpa using hi)] at h
  simp [hi] at h
  subst h
  exact .inr ⟨_,rfl,by simp [hi]⟩
 ·rw [Gz (by simpa using hi)] at h
  have:=He h
  exact .inl (KA this)
theorem cz {n:Nat} {i:Nat} {s:Sl} (h:(slots n ds)[i]?=some s):s.mut=false:=by
 rcases lH h with rfl | ⟨d,rfl,_⟩ <;> rfl
theorem lI {N:List Str} (r:Reps K Any AnyF H vs ds):OK K H (fun _=>False) (start N vs) H (slots N.length ds) where
 len:=by simp [L2.start,slots,r.length]
 dom:=fun _ e=>e
 zl:=fun _ z=>z.elim
 nz:=fun i s a h m _=>by rw [cz h] at m;cases m
 inj:=fun i j a s t h1 h2 m1=>by rw [cz h1] at m1;cases m1
 at_:=fun i o s h1 h2=>by
  rcases lH h2 with rfl | ⟨d,rfl,e⟩
  ·trivial
  ·obtain ⟨v,e1,e2⟩:=r.getD e
   rw [iE e1] at h1
   cases h1
   refine ⟨v,rfl,e2.mono (fun a _ _=>⟨?_,rfl⟩) fun _ x=>x⟩
   rintro (⟨j,s,g1,g2,_⟩ | z)
   ·rw [cz g1] at g2;cases g2
   ·exact z
theorem bD {x:Str} {st:Stmt} {N ps:List Str} {k:Nat} (S:Src K mg x st) (sc:aC N ps (ao st))
  (hb:∀(kV doc pm:FU) (an:Option Addr) (cdv ct:FU) (us:List FU),us.length=ps.length->Lw (HQ x x (cr st) (bE st) (ao st) .none kV doc pm an cdv ct) ⟨us,[]⟩=pure (ps.zip us))
  (len:∀ds R,p ds R->ds.length=ps.length)
  (hbody:∀(f:Addr) (cdv:FU) (A:Ho) (outer:List Env) (s:FW) (H:Hp) (E:XK),bV k (A.deeper (JY x (ao st) s.heap.objs.size f cdv)) ->
   ∃ts t,VSs K (gI CX0 P w K mg base N x (ao st) f cdv A outer s H E).nox (bE st) ts t/\∀ds R,p ds R->t { nx:=fun _=>R .non,rt:=fun d _=>R d } (slots N.length ds)):Has P w K mg base (k+1) x ps (spP K p):=by
 refine S.has sc hb (fun vs H Q E zq1=>by obtain ⟨ds,R,r,h,_⟩:=zq1;rw [r.length];exact len ds R h) fun f cdv A outer s H vs Q E hr ⟨ds,R,r,h,fin⟩=>?_
 obtain ⟨ts,t,vs',q⟩:=hbody f cdv A outer s H E hr
 have k0:=lI (N:=N) r
 have st0:∀{σ' S' H'},Step (fun _=>False) (start N vs) (slots N.length ds) H σ' S' H'->∀a,H a≠none->H' a=H a:=fun st a e=>(st.1 a (by
  rintro (⟨j,s,g1,g2,_⟩ | z)
  ·rw [cz g1] at g2;cases g2
  ·exact z) e).1
 refine ⟨ts,vs'.ps,vs'.snd H _ _ H _ _ _ k0 (q ds R h) ⟨fun σ' H' S' k' st q=>fin .non .non H' q (st0 st) .non,fun σ' H' S' k' st q=>q.elim,fun σ' H' S' k' st q=>q.elim,fun v d σ' H' S' k' st rr q=>fin d v H' q (st0 st) (rr.mono (fun _ _ _=>⟨trivial,rfl⟩) fun _ x=>x)⟩⟩
def dO (n:Nat) (a:Addr) (ns:List Int) (ds es:List D):List Sl:=ds.map .val++.pen (some a) ns::(es.map .val++Ga (n-(ds.length+1+es.length)) .no)
theorem js {n:Nat} {a:Addr} {ds es:List D} {i:Nat} {s:Sl} (h:(dO n a ns ds es)[i]?=some s):s=.no\/(∃d,s=.val d/\(ds++.non::es)[i]?=some d/\i≠ds.length)\/(i=ds.length/\s=.pen (some a) ns):=by
 unfold dO at h
 by_cases hi:i < ds.length
 ·rw [GJ (by simpa using hi)] at h
  simp [hi] at h
  subst h
  exact .inr (.inl ⟨_,rfl,by rw [GJ hi];simp [hi],by lia⟩)
 ·by_cases hi2:i=ds.length
  ·subst hi2
   rw [Gz (by simp)] at h
   simp at h
   exact .inr (.inr ⟨rfl,h.symm⟩)
  ·rw [Gz (by simp;lia)] at h
   rw [FV] at h
   obtain ⟨j,hj⟩:∃j,i-ds.length=j+1:=⟨i-ds.length-1,by lia⟩
   rw [hj,HF] at h
   by_cases hj2:j < es.length
   ·rw [GJ (by simpa using hj2)] at h
    simp [hj2] at h
    subst h
    refine .inr (.inl ⟨_,rfl,?_,hi2⟩)
    rw [Gz (by lia),hj,HF]
    simp [hj2]
   ·rw [Gz (by simpa using hj2)] at h
    exact .inl (KA (He h))
theorem n6 {x:Str} {st:Stmt} {N ps:List Str} {k:Nat} (j:Nat) {p:List Int->List D->(D->List Int->Prop)->Prop} (S:Src K mg x st) (sc:aC N ps (ao st))
  (hb:∀(kV doc pm:FU) (an:Option Addr) (cdv ct:FU) (us:List FU),us.length=ps.length->Lw (HQ x x (cr st) (bE st) (ao st) .none kV doc pm an cdv ct) ⟨us,[]⟩=pure (ps.zip us))
  (len:∀ns ds R,p ns ds R->ds.length+1=ps.length)
  (hbody:∀(f:Addr) (cdv:FU) (A:Ho) (outer:List Env) (s:FW) (H:Hp) (E:XK),bV k (A.deeper (JY x (ao st) s.heap.objs.size f cdv)) ->
   ∃ts t,VSs K (gI CX0 P w K mg base N x (ao st) f cdv A outer s H E).nox (bE st) ts t/\∀a ns ds es R,ds.length=j->p ns (ds++es) R->t { nx:=fun S'=>∃ns',S'[j]?=some (.pen (some a) ns')/\R .non ns',rt:=fun d S'=>∃ns',S'[j]?=some (.pen (some a) ns')/\R d ns' } (dO N.length a ns ds es)) :
  Has P w K mg base (k+1) x ps (spI K j p):=by
 refine S.has sc hb (fun vs H Q E zq1=>by
  obtain ⟨a,ws,us,ns,ds,es,R,e,hl,hp,r1,r2,h,_⟩:=zq1
  have:=len _ _ _ h
  rw [e,GV,Hf,r1.length,r2.length]
  rw [GV] at this
  lia) fun f cdv A outer s H vs Q E hr zr1=>?_
 obtain ⟨a,ws,us,ns,ds,es,R,e,hl,hp,r1,r2,h,fin⟩:=zr1
 subst e
 obtain ⟨ts,t,vs',q⟩:=hbody f cdv A outer s H E hr
 have hdl:ds.length=j:=by rw [<- r1.length];exact hl
 subst hdl
 have hmut:∀{i:Nat} {s:Sl},(dO N.length a ns ds es)[i]?=some s->s.mut=true->i=ds.length/\s=.pen (some a) ns:=fun {i s} h m=>by
  rcases js h with rfl | ⟨d,rfl,_⟩ | h
  ·cases m
  ·cases m
  ·exact h
 have hpen:(start N (ws++.ref a::us))[ds.length]?=some (some (V.ref a)):=iE (by rw [<- hl];simp)
 have hmo:∀b,Mo (fun _=>False) (start N (ws++.ref a::us)) (dO N.length a ns ds es) b->b=a:=fun b z=>by
  rcases z with ⟨i,s,g1,g2,g3⟩ | z
  ·obtain ⟨rfl,_⟩:=hmut g1 g2
   rw [hpen] at g3;cases g3;rfl
  ·exact z.elim
 have hll:N.length-(ws.length+(us.length+1))=N.length-(ds.length+1+es.length):=by rw [r1.length,r2.length];lia
 have k0:OK K H (fun _=>False) (start N (ws++.ref a::us)) H (dO N.length a ns ds es):={
  len:=by simp [L2.start,dO,r1.length,r2.length];lia
  dom:=fun _ e=>e
  zl:=fun _ z=>z.elim
  nz:=fun _ _ _ _ _ _ z=>z
  inj:=fun i j a s t h1 h2 m1 m2 _ _=>by rw [(hmut h1 m1).1,(hmut h2 m2).1]
  at_:=fun i o s h1 h2=>by
   rcases js h2 with rfl | ⟨d,rfl,e,hi⟩ | ⟨rfl,rfl⟩
   ·trivial
   ·have rr:∃v,(ws++.ref a::us)[i]?=some v/\Rep K (·≠a) AnyF H v d:=by
     by_cases hi2:i < ds.length
     ·rw [GJ hi2] at e
      obtain ⟨v,e1,e2⟩:=r1.getD e
      exact ⟨v,by rw [GJ (by rw [r1.length];exact hi2)];exact e1,e2⟩
     ·rw [Gz (by lia)] at e
      obtain ⟨j,hj⟩:∃j,i-ds.length=j+1:=⟨i-ds.length-1,by lia⟩
      rw [hj,HF] at e
      obtain ⟨v,e1,e2⟩:=r2.getD e
      exact ⟨v,by rw [Gz (by rw [r1.length];lia),r1.length,hj,HF];exact e1,e2⟩
    obtain ⟨v,e1,e2⟩:=rr
    rw [iE e1] at h1
    cases h1
    exact ⟨v,rfl,e2.mono (fun b n _=>⟨fun z=>n (hmo b z),rfl⟩) fun _ x=>x⟩
   ·rw [hpen] at h1
    cases h1
    exact ⟨a,rfl,fun b z=>by cases z;rfl,hp⟩ }
 have st0:∀{σ' S' H'},Step (fun _=>False) (start N (ws++.ref a::us)) (dO N.length a ns ds es) H σ' S' H'->∀b,b≠a->H b≠none->H' b=H b:=fun st b n e=>(st.1 b (fun z=>n (hmo b z)) e).1
 have pn:∀{σ' S' H' ns'},OK K H (fun _=>False) σ' H' S'->S'[ds.length]?=some (.pen (some a) ns')->σ'[ds.length]?=some (some (V.ref a))/\H' a=some (.lst (ns'.map .int)):=fun k' e=>by
  obtain ⟨o,e1,b,rfl,e2,e3⟩:=k'.ownAt e
  obtain rfl:=e2 a rfl
  exact ⟨e1,e3⟩
 refine ⟨ts,vs'.ps,vs'.snd H _ _ H _ _ _ k0 (q a ns ds es R rfl h) ⟨fun σ' H' S' k' st zt1=>by obtain ⟨ns',e,q⟩:=zt1;exact fin .non ns' .non H' q (st0 st) (pn k' e).2 .non,fun σ' H' S' k' st q=>q.elim,fun σ' H' S' k' st q=>q.elim,fun v d σ' H' S' k' st rr ⟨ns',e,q⟩=>fin d ns' v H' q (st0 st) (pn k' e).2 (rr.mono (fun b n _=>⟨fun z=>?_,rfl⟩) fun _ x=>x)⟩⟩
 subst z
 exact n _ _ _ e (pn k' e).1
end
end VL
end
section
namespace VL
open PySem L2
mutual
def pd:D->PyData
 | .int i=>.int i
 | .bl b=>.bool b
 | .non=>.none
 | .str x=>.str x
 | .ty _=>.none
 | .dic _ _=>.none
 | .exc _=>.none
 | .oth _=>.none
 | .dib _ _=>.none
 | .tup ds=>.tuple (pds ds)
 | .lst ds=>.list (pds ds)
def pds:List D->List PyData
 | []=>[]
 | d::r=>pd d::pds r
end
mutual
def noTy:D->Bool
 | .ty _=>false
 | .dic _ _=>false
 | .exc _=>false
 | .oth _=>false
 | .dib _ _=>false
 | .tup ds=>iF ds
 | .lst ds=>iF ds
 | _=>true
def iF:List D->Bool
 | []=>true
 | d::r=>noTy d&&iF r
end
section
variable {K:FO} {X:Cx} {pins:List (Addr×Obj)} {σ:St} {H:Hp} {s:FW} {N:AP} {F:FP}
mutual
theorem bW (I:Inv X pins σ H s) (hK:X.K=K) {v:V} {d:D} {u:FU}:Rep K N F H v d->noTy d=true->RelV v u->∃as,Reads s.heap u (pd d) as:=fun hh ee rr=>by
 cases hh with
 | int i=>have r:=rr;obtain ⟨t,rfl⟩:=r;exact ⟨_,.int i t⟩
 | bl b=>have r:=rr;cases r;exact ⟨_,.bool b⟩
 | non=>have r:=rr;cases r;exact ⟨_,.none⟩
 | str x=>have r:=rr;obtain ⟨t,rfl⟩:=r;exact ⟨_,.str x t⟩
 | ty x=>have e:=ee;cases e
 | dic n f h _ _ rs=>have e:=ee;simp [noTy] at e
 | exc n h _=>have e:=ee;simp [noTy] at e
 | oth h=>have e:=ee;simp [noTy] at e
 | dib n f h _ _ _ rs=>have e:=ee;simp [noTy] at e
 | tup n h rs=>
  have e:=ee
  have r:=rr
  cases r
  obtain ⟨its,rv,⟨o,ho,hc,n,hd⟩,_⟩:=I.tuple (xs:=_) (.inl h)
  obtain ⟨as,ra⟩:=cm I hK rs (by simpa [noTy] using e) rv
  exact ⟨as,.tuple ho hc hd (by simpa using ra)⟩
 | tupK h rs=>
  have e:=ee
  have r:=rr
  cases r
  obtain ⟨its,rv,⟨o,ho,hc,n,hd⟩,_⟩:=I.tuple (xs:=_) (by rw [hK];exact fP h)
  obtain ⟨as,ra⟩:=cm I hK rs (by simpa [noTy] using e) rv
  exact ⟨as,.tuple ho hc hd (by simpa using ra)⟩
 | lst n f h rs=>
  have e:=ee
  have r:=rr
  cases r
  obtain ⟨its,rv,pl,_⟩:=I.list (xs:=_) (.inl (.inl h))
  obtain ⟨o,ho,hc,n,hd⟩:=pl.isList
  obtain ⟨as,ra⟩:=cm I hK rs (by simpa [noTy] using e) rv
  exact ⟨_,.list ho hc hd (by simpa using ra)⟩
 | lstF n f h rs=>
  have e:=ee
  have r:=rr
  cases r
  obtain ⟨its,rv,pl,_⟩:=I.list (xs:=_) (.inl (.inr ⟨_,h⟩))
  obtain ⟨o,ho,hc,n,hd⟩:=pl.isList
  obtain ⟨as,ra⟩:=cm I hK rs (by simpa [noTy] using e) rv
  exact ⟨_,.list ho hc hd (by simpa using ra)⟩
 | lstK f h rs=>
  have e:=ee
  have r:=rr
  cases r
  obtain ⟨its,rv,pl,_⟩:=I.list (xs:=_) (by rw [hK];exact iu h)
  obtain ⟨o,ho,hc,n,hd⟩:=pl.isList
  obtain ⟨as,ra⟩:=cm I hK rs (by simpa [noTy] using e) rv
  exact ⟨_,.list ho hc hd (by simpa using ra)⟩
theorem cm (I:Inv X pins σ H s) (hK:X.K=K) {vs:List V} {ds:List D} {us:List FU}:Reps K N F H vs ds->iF ds=true->Vals vs us->∃as,ReadsAll s.heap us (pds ds) as:=fun hh ee rr=>by
 cases hh with
 | nil=>have r:=rr;cases r;exact ⟨_,.nil⟩
 | cons h t=>
  have e:=ee
  have r:=rr
  simp only [iF,GC] at e
  cases r with
  | cons r1 r2=>
   obtain ⟨as,ra⟩:=bW I hK h e.1 r1
   obtain ⟨bs,rb⟩:=cm I hK t e.2 r2
   exact ⟨_,.cons ra rb⟩
end
end
structure Okd (d:D):Prop where
 ty:noTy d=true
 lay:(pd d).canLay0=true
 dep:(pd d).depth<=40
def AJ (K:FO) (neg:Bool):R2:=fun x y H Q=>∃d1 d2,Rep K Any AnyF H x d1/\Rep K Any AnyF H y d2/\Okd d1/\Okd d2/\Q (.bl (if neg then !PyData.eqv (pd d1) (pd d2) else Ie (pd d1) (pd d2))) H
def vp (neg:Bool):D->D->(D->Prop)->Prop:=fun d1 d2 q=>Okd d1/\Okd d2/\q (.bl (if neg then !PyData.eqv (pd d1) (pd d2) else Ie (pd d1) (pd d2)))
def Dq (K:FO) (neg:Bool):R2:=fun x y H Q=>∃d ds,Rep K Any AnyF H x d/\(Rep K Any AnyF H y (.lst ds)\/Rep K Any AnyF H y (.tup ds))/\Okd d/\Okd (.lst ds)/\Q (.bl (if neg then !(pds ds).any (fun y=>Ie y (pd d)) else (pds ds).any (fun y=>Ie y (pd d)))) H
def Dr (neg:Bool):D->D->(D->Prop)->Prop:=fun d d2 q=>∃ds,(d2=.lst ds\/d2=.tup ds)/\Okd d/\Okd (.lst ds)/\q (.bl (if neg then !(pds ds).any (fun y=>Ie y (pd d)) else (pds ds).any (fun y=>Ie y (pd d))))
section
variable {K:FO} {X:Cx}
theorem rJ (hK:X.K=K) (hu:X.A.units+64 < KG):OpR X (Hx .Eq) (AJ K false):=by
 rintro pins s σ H x y v u Q I rx ry ⟨d1,d2,r1,r2,o1,o2,q⟩
 obtain ⟨as,ra⟩:=bW I hK r1 o1.ty rx
 obtain ⟨bs,rb⟩:=bW I hK r2 o2.ty ry
 exact SeqAt.compareEq_reads ra rb o1.lay o2.lay (by have:=o1.dep;lia) ⟨.bl _,H,I,rfl,q⟩
theorem rK (hK:X.K=K) (hu:X.A.units+64 < KG):OpR X (Hx .NotEq) (AJ K true):=by
 rintro pins s σ H x y v u Q I rx ry ⟨d1,d2,r1,r2,o1,o2,q⟩
 obtain ⟨as,ra⟩:=bW I hK r1 o1.ty rx
 obtain ⟨bs,rb⟩:=bW I hK r2 o2.ty ry
 exact SeqAt.compareNe_reads ra rb o1.lay o2.lay (by have:=o1.dep;lia) ⟨.bl _,H,I,rfl,q⟩
theorem pL (o:Okd (.lst ds)):KB (pds ds)=true/\JZ (pds ds)<=40/\noTy (.tup ds)=true:=by
 refine ⟨by simpa [pd,LI] using o.lay,?_,by simpa [noTy] using o.ty⟩
 have:=o.dep
 simp only [pd,MC] at this
 lia
theorem mU (hK:X.K=K) (hu:X.A.units+64 < KG):OpR X (Hx .In) (Dq K false):=by
 rintro pins s σ H x y v u Q I rx ry ⟨d,ds,r1,r2,o1,o2,q⟩
 obtain ⟨as,ra⟩:=bW I hK r1 o1.ty rx
 obtain ⟨h1,h2,h3⟩:=pL o2
 rcases r2 with r2 | r2
 ·obtain ⟨bs,rb⟩:=bW I hK r2 o2.ty ry
  exact SeqAt.in_list_reads (by simpa [pd] using rb) ra h1 o1.lay (by lia) ⟨.bl _,H,I,rfl,q⟩
 ·obtain ⟨bs,rb⟩:=bW I hK r2 h3 ry
  exact SeqAt.in_tuple_reads (by simpa [pd] using rb) ra h1 o1.lay (by lia) ⟨.bl _,H,I,rfl,q⟩
theorem n8 {neg:Bool}:cH K (AJ K neg) (vp neg):=fun x y H d1 d2 q C r1 r2 zt1 hc=>by obtain ⟨o1,o2,h⟩:=zt1;exact ⟨d1,d2,r1,r2,o1,o2,hc _ _ h fun _ _=>.bl _⟩
theorem rL {neg:Bool}:cH K (Dq K neg) (Dr neg):=fun x y H d1 d2 q C r1 r2 zt1 hc=>by obtain ⟨ds,e,o1,o2,h⟩:=zt1;exact ⟨d1,ds,r1,e.imp (fun e=>by rw [<- e];exact r2) (fun e=>by rw [<- e];exact r2),o1,o2,hc _ _ h fun _ _=>.bl _⟩
end
theorem de {α:Type} (f:α->D):∀l:List α,pds (l.map f)=l.map fun x=>pd (f x)
 | []=>rfl
 | _::r=>by simp [pds,de f r]
theorem gi {α:Type} {f:α->D} (h:∀x,noTy (f x)=true):∀l:List α,iF (l.map f)=true
 | []=>rfl
 | _::r=>by simp [iF,h,gi h r]
theorem iG {α:Type} {f:α->PyData} (h:∀x,(f x).canLay0=true):∀l:List α,KB (l.map f)=true
 | []=>rfl
 | _::r=>by simp [KB,h,iG h r]
theorem iH {α:Type} {f:α->PyData} {n:Nat} (h:∀x,(f x).depth<=n):∀l:List α,JZ (l.map f)<=n
 | []=>by simp [JZ]
 | x::r=>by simp only [Gq,JZ];exact Nat.max_le.mpr ⟨h x,iH h r⟩
structure Enc {α:Type} (n:Nat) (f:α->D):Prop where
 ty:∀x,noTy (f x)=true
 lay:∀x,(pd (f x)).canLay0=true
 dep:∀x,(pd (f x)).depth<=n
 eq:∀x y,Ie (pd (f x)) (pd (f y))=true↔x=y
theorem fA {α:Type} {f:α->PyData} (h:∀x y,Ie (f x) (f y)=true↔x=y):∀l m:List α,JM (l.map f) (m.map f)=true↔l=m
 | [],[]=>by simp [JM]
 | [],_::_=>by simp [JM]
 | _::_,[]=>by simp [JM]
 | x::r,y::t=>by simp [JM,h,fA h r t]
theorem fU:Enc 0 D.int:=⟨fun _=>rfl,fun _=>rfl,fun _=>FX _,fun x y=>by simp [pd,Ie]⟩
theorem AK:Enc 0 D.bl:=⟨fun _=>rfl,fun _=>rfl,fun _=>FX _,fun x y=>by simp [pd,Ie]⟩
theorem Enc.tup {α:Type} {n:Nat} {f:α->D} (e:Enc n f):Enc (n+1) (fun l:List α=>D.tup (l.map f)) where
 ty:=fun l=>by simp only [noTy];exact gi e.ty l
 lay:=fun l=>by simp only [pd,LI,de];exact iG e.lay l
 dep:=fun l=>by simp only [pd,MC,de];exact Nat.succ_le_succ (iH e.dep l)
 eq:=fun l m=>by simp only [pd,Ie,de];exact fA e.eq l m
theorem Enc.lst {α:Type} {n:Nat} {f:α->D} (e:Enc n f):Enc (n+1) (fun l:List α=>D.lst (l.map f)) where
 ty:=fun l=>by simp only [noTy];exact gi e.ty l
 lay:=fun l=>by simp only [pd,LI,de];exact iG e.lay l
 dep:=fun l=>by simp only [pd,MC,de];exact Nat.succ_le_succ (iH e.dep l)
 eq:=fun l m=>by simp only [pd,Ie,de];exact fA e.eq l m
theorem AL:Enc 1 eT:=fU.tup
theorem rM:Enc 2 eL:=AL.lst
theorem Enc.okd {α:Type} {n:Nat} {f:α->D} (e:Enc n f) (hn:n<=40) (x:α):Okd (f x):=⟨e.ty x,e.lay x,Hr (e.dep x) hn⟩
theorem Enc.eqv {α:Type} [DecidableEq α] {n:Nat} {f:α->D} (e:Enc n f) (x y:α):Ie (pd (f x)) (pd (f y))=decide (x=y):=by
 rw [Ih,e.eq,decide_eq_true_iff]
theorem Enc.any {α:Type} [DecidableEq α] {n:Nat} {f:α->D} (e:Enc n f) (x:α) (l:List α):(pds (l.map f)).any (fun y=>Ie y (pd (f x)))=decide (x∈l):=by
 rw [de,List.any_map]
 induction l with
 | nil=>simp
 | cons a r ih=>
  rw [List.any_cons,ih]
  simp only [JN,e.eqv]
  rw [Ih]
  simp only [Bool.or_eq_true,decide_eq_true_eq,L8]
  exact ⟨fun z=>z.elim (fun z=>.inl z.symm) .inr,fun z=>z.elim (fun z=>.inl z.symm) .inr⟩
theorem yt {α:Type} [DecidableEq α] {n:Nat} {f:α->D} (e:Enc n f) {x y:α} (h:q (.bl (decide (x=y)))) (hn:n<=40:=by decide):vp false (f x) (f y) q:=⟨e.okd hn x,e.okd hn y,by simpa [e.eqv] using h⟩
theorem Ds {α:Type} [DecidableEq α] {n:Nat} {f:α->D} (e:Enc n f) {x y:α} (h:q (.bl (!decide (x=y)))) (hn:n<=40:=by decide):vp true (f x) (f y) q:=⟨e.okd hn x,e.okd hn y,by simpa [e.eqv] using h⟩
end VL
namespace VL
open PySem L2
section
variable {K:FO} {X:Cx}
theorem fV (hK:X.K=K):cg X (.builtin "len") (fun xs H Q=>∃p ys,xs=[.ref p]/\(SqL K H p ys\/SqT K H p ys)/\Q (.int ys.length) H):=by subst hK;exact jU
theorem gB (hK:X.K=K):cg X (.builtin "isinstance") (Ar K):=by subst hK;exact qU
theorem jt:G2 "sorted"=some (.builtin "sorted"):=by decide +kernel
theorem AM:G2 "max"=some (.builtin "max"):=by decide +kernel
theorem AN:G2 "min"=some (.builtin "min"):=by decide +kernel
theorem rN:G2 "all"=some (.builtin "all"):=by decide +kernel
end
end VL
end
section
namespace VL
open PySem L2
section
variable {S S1:List Sl} {Q:VR->List Sl->Prop} {QT:Bool->List Sl->Prop} {QN:List D->List Sl->Prop} {QA:List VR->List Sl->Prop} {W:bz} {va vb:VT} {vr:VTA} {vt vu:VTT} {vn:VTN} {s t:VTS} {g:VG}
def Dt (u:VTS) (W:bz):List Sl->Prop:=fun S'=>∃S'',Wk S' S''/\u W S''
theorem Du {u:VTS} (h:t ⟨Dt u W,W.rt,W.bk,W.ct⟩ S):Df t u W S:=h
theorem AO {u:VTS} (h:u W S):Dt u W S:=⟨S,Wk.refl S,h⟩
def Dv (g:VG) (W:bz):VR->List Sl->Prop:=fun r S1=>∃d,r=.d d/\g d S1 W.nx
theorem Dw (h:va S (Dv g W)):lB va g W S:=h
theorem AQ (h:g d S W.nx):Dv g W (.d d) S:=⟨d,rfl,h⟩
theorem Fs {i:Nat} {q:List Sl->Prop} (e:MN (i+1) S.length=true) (h:q (S.set i (.val d))):vgN i d S q:=⟨GI e,h⟩
theorem Ft {n:Nat} {u:List D->List Sl->(List Sl->Prop)->Prop} {q:List Sl->Prop} (e:ds.length=n) (h:u ds S q):vgT n u (.tup ds) S q:=⟨ds,rfl,e,h⟩
theorem AR {q:List Sl->Prop} (h:q S):yp [] S q:=⟨rfl,h⟩
theorem vq {r:List D} {u:List D->List Sl->(List Sl->Prop)->Prop} {q:List Sl->Prop} (h:g d S fun S1=>u r S1 q):rp g u (d::r) S q:=⟨d,r,rfl,h⟩
def yu (i:Nat) (W:bz):List D->List Sl->Prop:=fun ds S1=>i < S1.length/\W.nx (S1.set i (.own ds))
theorem AS {i:Nat} (h:vn S (yu i W)):rq i vn W S:=h
theorem vw {i:Nat} (e:MN (i+1) S.length=true) (h:W.nx (S.set i (.own ds))):yu i W ds S:=⟨GI e,h⟩
def yv (i:Nat) (W:bz):List D->List Sl->Prop:=fun ds S1=>∃ns:List Int,ds=ns.map .int/\i < S1.length/\W.nx (S1.set i (.pen none ns))
theorem AT {i:Nat} (h:vn S (yv i W)):yq i vn W S:=h
theorem j6 {i:Nat} (e:MN (i+1) S.length=true) (h:W.nx (S.set i (.pen none ns))):yv i W (ns.map .int) S:=⟨ns,rfl,GI e,h⟩
def Dy (W:bz):VR->List Sl->Prop:=fun r S1=>∃d,retD S1 r=some d/\W.rt d S1
theorem Dz (h:va S (Dy W)):Dg va W S:=h
theorem AU (e:retD S r=some d) (h:W.rt d S):Dy W r S:=⟨d,e,h⟩
def kIf (t u:VTS) (W:bz):Bool->List Sl->Prop:=fun b S1=>if b=true then t W S1 else u W S1
theorem DA {u:VTS} (h:vt S (kIf t u W)):Dh vt t u W S:=h
theorem yw {u:VTS} {b:Bool} (h1:b=true->t W S) (h2:b=false->u W S):kIf t u W b S:=by
 cases b with
 | true=>show (if true=true then _ else _);rw [if_pos rfl];exact h1 rfl
 | false=>show (if false=true then _ else _);rw [if_neg F4];exact h2 rfl
theorem rO {u:VTS} (h:t W S):kIf t u W true S:=by show (if true=true then _ else _);rw [if_pos rfl];exact h
theorem rP {u:VTS} (h:u W S):kIf t u W false S:=by show (if false=true then _ else _);rw [if_neg F4];exact h
theorem cC {u:VTS} {p:Prop} [Decidable p] (h1:p->t W S) (h2:¬p->u W S):kIf t u W (decide p) S:=yw (fun e=>h1 (of_decide_eq_true e)) (fun e=>h2 (of_decide_eq_false e))
def yx (W:bz):VR->List Sl->Prop:=fun _ S1=>W.nx S1
theorem AV (h:va S (yx W)):yn va W S:=h
theorem vz (h:W.nx S):yx W r S:=h
theorem AW (h:W.nx S):ym W S:=h
theorem j_c (h:Q (.d d) S):vC d S Q:=h
theorem lJ {i:Nat} (e:rdO i S[i]?=some r) (h:Q r S):qZ i S Q:=⟨r,e,h⟩
def rQ (Q:VR->List Sl->Prop):VR->List Sl->Prop:=fun r S'=>(match r with | .d d=>flat d=true | .own _=>True)/\Q r S'
theorem AX (h:va S (rQ Q)):q0 va S Q:=h
theorem vA (e:flat d=true) (h:Q (.d d) S):rQ Q (.d d) S:=⟨e,h⟩
theorem rR {i:Nat} (h:Q (.own i) S):rQ Q (.own i) S:=⟨trivial,h⟩
def k2a (w:D->D->(D->Prop)->Prop) (vb:VT) (Q:VR->List Sl->Prop):VR->List Sl->Prop:=fun ra S1=>vb S1 fun rb S2=>∃d1 d2,get S2 ra=some d1/\get S2 rb=some d2/\w d1 d2 fun d=>Q (.d d) S2
def k2b (w:D->D->(D->Prop)->Prop) (Q:VR->List Sl->Prop) (ra:VR):VR->List Sl->Prop:=fun rb S2=>∃d1 d2,get S2 ra=some d1/\get S2 rb=some d2/\w d1 d2 fun d=>Q (.d d) S2
theorem j_2 {w:D->D->(D->Prop)->Prop} (h:va S (k2a w vb Q)):v2 w va vb S Q:=h
theorem Fv {w:D->D->(D->Prop)->Prop} {ra:VR} (h:vb S (k2b w Q ra)):k2a w vb Q ra S:=h
theorem Fw {w:D->D->(D->Prop)->Prop} {ra rb:VR} {d1 d2:D} (e1:get S ra=some d1) (e2:get S rb=some d2) (h:w d1 d2 fun d=>Q (.d d) S):k2b w Q ra rb S:=⟨d1,d2,e1,e2,h⟩
theorem DB {f:Int->Int->L2.V} {i j:Int} (h:q (ofV (f i j))):wI0 f (.int i) (.int j) q:=⟨i,j,rfl,rfl,h⟩
theorem DC {C:Int->Int->Prop} {f:Int->Int->L2.V} {i j:Int} (c:C i j) (h:q (ofV (f i j))):wI C f (.int i) (.int j) q:=⟨i,j,rfl,rfl,c,h⟩
def DD (vb:VT) (Q:VR->List Sl->Prop):VR->List Sl->Prop:=fun ra S1=>vb S1 fun rb S2=>∃ds i d,(get S2 ra=some (.lst ds)\/get S2 ra=some (.tup ds))/\get S2 rb=some (.int i)/\atI ds i=some d/\Q (.d d) S2
def AY (Q:VR->List Sl->Prop) (ra:VR):VR->List Sl->Prop:=fun rb S2=>∃ds i d,(get S2 ra=some (.lst ds)\/get S2 ra=some (.tup ds))/\get S2 rb=some (.int i)/\atI ds i=some d/\Q (.d d) S2
theorem Fx (h:va S (DD vb Q)):vIx va vb S Q:=h
theorem DE {ra:VR} (h:vb S (AY Q ra)):DD vb Q ra S:=h
theorem cJ {ra rb:VR} {i:Int} (e1:get S ra=some (.lst ds)) (e2:get S rb=some (.int i)) (e3:atI ds i=some d) (h:Q (.d d) S):AY Q ra rb S:=⟨ds,i,d,.inl e1,e2,e3,h⟩
theorem DF {ra rb:VR} {i:Int} (e1:get S ra=some (.tup ds)) (e2:get S rb=some (.int i)) (e3:atI ds i=some d) (h:Q (.d d) S):AY Q ra rb S:=⟨ds,i,d,.inr e1,e2,e3,h⟩
def kUn (f:Int->L2.V) (Q:VR->List Sl->Prop):VR->List Sl->Prop:=fun r S1=>∃i,get S1 r=some (.int i)/\Q (.d (ofV (f i))) S1
theorem Fy {f:Int->L2.V} (h:va S (kUn f Q)):vUn f va S Q:=h
theorem DG {f:Int->L2.V} {i:Int} (e:get S r=some (.int i)) (h:Q (.d (ofV (f i))) S):kUn f Q r S:=⟨i,e,h⟩
def yz (QT:Bool->List Sl->Prop):VR->List Sl->Prop:=fun r S'=>∃k,r=.d (.bl k)/\QT k S'
theorem AZ (h:va S (yz QT)):jq va S QT:=h
theorem vB {k:Bool} (h:QT k S):yz QT (.d (.bl k)) S:=⟨k,rfl,h⟩
def vD (u:VTT) (QT:Bool->List Sl->Prop):Bool->List Sl->Prop:=fun c S1=>if c=true then u S1 QT else QT false S1
def kOr (u:VTT) (QT:Bool->List Sl->Prop):Bool->List Sl->Prop:=fun c S1=>if c=true then QT true S1 else u S1 QT
def DH (QT:Bool->List Sl->Prop):Bool->List Sl->Prop:=fun c S1=>QT (!c) S1
theorem DI (h:vt S (vD vu QT)):C8 vt vu S QT:=h
theorem FA (h:vt S (kOr vu QT)):vOr vt vu S QT:=h
theorem DJ (h:vt S (DH QT)):C9 vt S QT:=h
theorem A0 {b:Bool} (h:QT (!b) S):DH QT b S:=h
theorem rS {b:Bool} (h1:b=true->vu S QT) (h2:b=false->QT false S):vD vu QT b S:=by
 cases b with
 | true=>show (if true=true then _ else _);rw [if_pos rfl];exact h1 rfl
 | false=>show (if false=true then _ else _);rw [if_neg F4];exact h2 rfl
theorem yA {b:Bool} (h1:b=true->QT true S) (h2:b=false->vu S QT):kOr vu QT b S:=by
 cases b with
 | true=>show (if true=true then _ else _);rw [if_pos rfl];exact h1 rfl
 | false=>show (if false=true then _ else _);rw [if_neg F4];exact h2 rfl
theorem rT (h:vu S QT):kOr vu QT false S:=yA (fun e=>nomatch e) fun _=>h
theorem A1 (h:QT true S):kOr vu QT true S:=yA (fun _=>h) fun e=>nomatch e
theorem vE (h:vu S QT):vD vu QT true S:=rS (fun _=>h) fun e=>nomatch e
theorem vF (h:QT false S):vD vu QT false S:=rS (fun e=>nomatch e) fun _=>h
def n9 (vb:VT) (Q:VR->List Sl->Prop):VR->List Sl->Prop:=fun r S1=>∃c,r=.d (.bl c)/\if c=true then vb S1 Q else Q (.d (.bl false)) S1
def yB (Q:VR->List Sl->Prop):VR->List Sl->Prop:=fun r S1=>∃c,r=.d (.bl c)/\Q (.d (.bl (!c))) S1
theorem A3 (h:va S (n9 vb Q)):yk va vb S Q:=h
theorem A4 (h:va S (yB Q)):yl va S Q:=h
theorem vG {c:Bool} (h:Q (.d (.bl (!c))) S):yB Q (.d (.bl c)) S:=⟨c,rfl,h⟩
theorem oa {c:Bool} (h1:c=true->vb S Q) (h2:c=false->Q (.d (.bl false)) S):n9 vb Q (.d (.bl c)) S:=⟨c,rfl,by
 cases c with
 | true=>rw [if_pos rfl];exact h1 rfl
 | false=>rw [if_neg F4];exact h2 rfl⟩
def vH (va vb:VT) (Q:VR->List Sl->Prop):Bool->List Sl->Prop:=fun c S1=>if c=true then va S1 Q else vb S1 Q
theorem DK (h:vt S (vH va vb Q)):vIf vt va vb S Q:=h
theorem mV {b:Bool} (h1:b=true->va S Q) (h2:b=false->vb S Q):vH va vb Q b S:=by
 cases b with
 | true=>show (if true=true then _ else _);rw [if_pos rfl];exact h1 rfl
 | false=>show (if false=true then _ else _);rw [if_neg F4];exact h2 rfl
theorem DL (h:QA [] S):Ay S QA:=h
def rV (vr:VTA) (QA:List VR->List Sl->Prop):VR->List Sl->Prop:=fun r S1=>vr S1 fun rs S2=>QA (r::rs) S2
theorem A5 (h:va S (rV vr QA)):nX va vr S QA:=h
theorem vI (h:vr S fun rs S2=>QA (r::rs) S2):rV vr QA r S:=h
def mO (Q:VR->List Sl->Prop):List VR->List Sl->Prop:=fun rs S1=>∃ds,allD rs=some ds/\ds.length<=1000/\Q (.d (.tup ds)) S1
theorem DM (h:vr S (mO Q)):Az vr S Q:=h
theorem A6 (e:allD rs=some ds) (e2:MN ds.length 1000=true) (h:Q (.d (.tup ds)) S):mO Q rs S:=⟨ds,e,GI e2,h⟩
def DN (QN:List D->List Sl->Prop):List VR->List Sl->Prop:=fun rs S1=>∃ds,allD rs=some ds/\ds.length<=1000/\QN ds S1
theorem DO (h:vr S (DN QN)):Da vr S QN:=h
theorem A7 (e:allD rs=some ds) (e2:MN ds.length 1000=true) (h:QN ds S):DN QN rs S:=⟨ds,e,GI e2,h⟩
def DP (Q:VR->List Sl->Prop):List D->List Sl->Prop:=fun ds S1=>Q (.d (.lst ds)) S1
theorem DQ (h:vn S (DP Q)):pI vn S Q:=h
theorem A8 (h:Q (.d (.lst ds)) S):DP Q ds S:=h
def kCB (w:List D->(D->Prop)->Prop) (Q:VR->List Sl->Prop):List VR->List Sl->Prop:=fun rs S1=>∃ds,gets S1 rs=some ds/\w ds fun d=>Q (.d d) S1
theorem FC {w:List D->(D->Prop)->Prop} (h:vr S (kCB w Q)):vCB w vr S Q:=h
theorem DR {w:List D->(D->Prop)->Prop} (e:gets S rs=some ds) (h:w ds fun d=>Q (.d d) S):kCB w Q rs S:=⟨ds,e,h⟩
theorem A9 {es:List D} (h:q (.int es.length)):AA [.lst es] q:=⟨es,.inl rfl,h⟩
theorem Ba {es:List D} (h:q (.int es.length)):AA [.tup es] q:=⟨es,.inr rfl,h⟩
theorem FD {f:Int->Int->Int} {i j:Int} (h:q (.int (f i j))):wMM f [.int i,.int j] q:=⟨i,j,rfl,h⟩
theorem FE (h:vr S (kCB p Q)):vFn p vr S Q:=h
def DS (p:List D->(D->Prop)->Prop) (QN:List D->List Sl->Prop):List VR->List Sl->Prop:=fun rs S1=>∃ds,gets S1 rs=some ds/\p ds fun d=>∃es,d=.lst es/\flats es=true/\QN es S1
theorem DT (h:vr S (DS p QN)):De p vr S QN:=h
theorem Bb (e:gets S rs=some ds) (h:p ds fun d=>∃es,d=.lst es/\flats es=true/\QN es S):DS p QN rs S:=⟨ds,e,h⟩
def DU (j:Nat) (p:List Int->List D->(D->List Int->Prop)->Prop) (Q:VR->List Sl->Prop):List VR->List Sl->Prop:=fun rs S1=>∃i rs' ad ns ds,pick rs j=some (i,rs')/\S1[i]?=some (.pen ad ns)/\allD rs'=some ds/\p ns ds fun d ns'=>Q (.d d) (S1.set i (.pen ad ns'))
theorem DV {j:Nat} {p:List Int->List D->(D->List Int->Prop)->Prop} (h:vr S (DU j p Q)):AH j p vr S Q:=h
theorem Bc {j:Nat} {p:List Int->List D->(D->List Int->Prop)->Prop} {rs rs':List VR} {i:Nat} {ad:Option Addr} (e1:pick rs j=some (i,rs')) (e2:S[i]?=some (.pen ad ns)) (e3:allD rs'=some ds) (h:p ns ds fun d ns'=>Q (.d d) (S.set i (.pen ad ns'))):DU j p Q rs S:=⟨i,rs',ad,ns,ds,e1,e2,e3,h⟩
def j7 (QN:List D->List Sl->Prop):List VR->List Sl->Prop:=fun rs S1=>∃r ds,rs=[r]/\(get S1 r=some (.lst ds)\/get S1 r=some (.tup ds))/\flats ds=true/\QN ds S1
theorem rW (h:vr S (j7 QN)):nY vr S QN:=h
theorem rX (e:get S r=some (.lst ds)) (f:flats ds=true) (h:QN ds S):j7 QN [r] S:=⟨r,ds,rfl,.inl e,f,h⟩
theorem rY (e:get S r=some (.tup ds)) (f:flats ds=true) (h:QN ds S):j7 QN [r] S:=⟨r,ds,rfl,.inr e,f,h⟩
def rZ (Q:VR->List Sl->Prop):List VR->List Sl->Prop:=fun rs S1=>∃r ds,rs=[r]/\(get S1 r=some (.lst ds)\/r=.d (.tup ds))/\flats ds=true/\Q (.d (.tup ds)) S1
theorem vJ (h:vr S (rZ Q)):rj vr S Q:=h
theorem oe (e:get S r=some (.lst ds)) (f:flats ds=true) (h:Q (.d (.tup ds)) S):rZ Q [r] S:=⟨r,ds,rfl,.inl e,f,h⟩
def DW (i:Nat) (Q:VR->List Sl->Prop):VR->List Sl->Prop:=fun r S1=>∃d ds,r=.d d/\S1[i]?=some (.own ds)/\ds.length<=1000000/\Q (.d .non) (S1.set i (.own (ds++[d])))
theorem DX {i:Nat} (e:S[i]?=some (.own ds)) (h:va S (DW i Q)):AF i va S Q:=⟨⟨ds,e⟩,h⟩
theorem mW {i:Nat} (e:S[i]?=some (.own ds)) (e2:ds.length<=1000000) (h:Q (.d .non) (S.set i (.own (ds++[d])))):DW i Q (.d d) S:=⟨d,ds,rfl,e,e2,h⟩
def og (i:Nat) (vi:VT) (W:bz):VR->List Sl->Prop:=fun r S1=>(∃s,S1[i]?=some s/\s.mut=true)/\vi S1 fun ri S2=>∃j,get S2 ri=some (.int j) /\
  ((∃ad ns k n,S2[i]?=some (.pen ad ns)/\ixN ns.length j=some k/\r=.d (.int n)/\W.nx (S2.set i (.pen ad (ns.set k n)))) \/
   (∃ds k d,S2[i]?=some (.own ds)/\ixN ds.length j=some k/\r=.d d/\W.nx (S2.set i (.own (ds.set k d)))))
def oh (i:Nat) (W:bz) (r:VR):VR->List Sl->Prop:=fun ri S2=>∃j,get S2 ri=some (.int j) /\
  ((∃ad ns k n,S2[i]?=some (.pen ad ns)/\ixN ns.length j=some k/\r=.d (.int n)/\W.nx (S2.set i (.pen ad (ns.set k n)))) \/
   (∃ds k d,S2[i]?=some (.own ds)/\ixN ds.length j=some k/\r=.d d/\W.nx (S2.set i (.own (ds.set k d)))))
theorem vK {i:Nat} (h:va S (og i vb W)):rB i va vb W S:=h
theorem sd {i:Nat} {s:Sl} (e:S[i]?=some s) (m:s.mut=true) (h:vb S (oh i W r)):og i vb W r S:=⟨⟨s,e,m⟩,h⟩
theorem pM {i:Nat} {ri:VR} {j n:Int} {ad:Option Addr} {k:Nat} (e1:get S ri=some (.int j)) (e2:S[i]?=some (.pen ad ns)) (e3:ixN ns.length j=some k) (h:W.nx (S.set i (.pen ad (ns.set k n)))):oh i W (.d (.int n)) ri S:=⟨j,e1,.inl ⟨ad,ns,k,n,e2,e3,rfl,h⟩⟩
def kFor (g:VG) (b:VTS) (W:bz):List D->List Sl->Prop:=fun ds S1=>runFor g b W ds S1\/∃Iv:Nat->List Sl->Prop,Iv 0 S1/\(∀i d S2,ds[i]?=some d->Iv i S2->g d S2 fun S3=>b { W with nx:=Iv (i+1),ct:=Iv (i+1),bk:=W.nx } S3)/\∀S2,Iv ds.length S2->W.nx S2
theorem DY {b:VTS} (h:vn S (kFor g b W)):Dp vn g b W S:=h
theorem dQ {b:VTS} (Iv:Nat->List Sl->Prop) (h0:Iv 0 S) (h1:∀i d S2,ds[i]?=some d->Iv i S2->g d S2 fun S3=>b ⟨Iv (i+1),W.rt,W.nx,Iv (i+1)⟩ S3) (h2:∀S2,Iv ds.length S2->W.nx S2):kFor g b W ds S:=.inr ⟨Iv,h0,h1,h2⟩
theorem j8 {b:VTS} {lo:Int} {n:Nat} (Iv:Nat->List Sl->Prop) (h0:Iv 0 S) (h1:∀i S2,i < n->Iv i S2->g (.int (lo+(i:Int))) S2 fun S3=>b ⟨Iv (i+1),W.rt,W.nx,Iv (i+1)⟩ S3) (h2:∀S2,Iv n S2->W.nx S2):kFor g b W (rg lo n) S:=
 .inr ⟨Iv,h0,fun i d S2 e p=>by
  have hi:i < n:=by have:=(List.getElem?_eq_some_iff.mp e).1;rwa [gg] at this
  rw [rC hi] at e
  cases e
  exact h1 i S2 hi p,fun S2 p=>h2 S2 (by rwa [gg] at p)⟩
def DZ (QN:List D->List Sl->Prop):VR->List Sl->Prop:=fun r S1=>∃ds,r=.d (.lst ds)/\QN ds S1
def D0 (QN:List D->List Sl->Prop):VR->List Sl->Prop:=fun r S1=>∃ds,r=.d (.tup ds)/\QN ds S1
theorem D1 (h:va S (DZ QN)):Dk va S QN:=h
theorem D2 (h:va S (D0 QN)):Dl va S QN:=h
theorem Bd (h:QN ds S):DZ QN (.d (.lst ds)) S:=⟨ds,rfl,h⟩
theorem Be (h:QN ds S):D0 QN (.d (.tup ds)) S:=⟨ds,rfl,h⟩
def D3 (QN:List D->List Sl->Prop):List VR->List Sl->Prop:=fun rs S1=>∃j:Int,rs=[.d (.int j)]/\-(2 ^ 62)<=j/\j < 2 ^ 62/\QN (rg 0 j.toNat) S1
def D4 (QN:List D->List Sl->Prop):List VR->List Sl->Prop:=fun rs S1=>∃i j:Int,rs=[.d (.int i),.d (.int j)]/\(-(2 ^ 62)<=i/\i < 2 ^ 62/\-(2 ^ 62)<=j/\j < 2 ^ 62)/\QN (rg i (j-i).toNat) S1
theorem D5 (h:vr S (D3 QN)):Dm vr S QN:=h
theorem D6 (h:vr S (D4 QN)):Do vr S QN:=h
theorem mX {j:Int} (h1:0<=j/\j < 1000000) (h:QN (rg 0 j.toNat) S):D3 QN [.d (.int j)] S:=⟨j,rfl,by lia,by lia,h⟩
theorem Bf {i j:Int} (h1:-1000000<=i/\i < 1000000/\-1000000<=j/\j < 1000000) (h:QN (rg i (j-i).toNat) S):D4 QN [.d (.int i),.d (.int j)] S:=⟨i,j,rfl,⟨by lia,by lia,by lia,by lia⟩,h⟩
def ju (n:Nat) (ix:List Nat) (g:VG) (vt:VTT) (ve:VT) (QN:List D->List Sl->Prop):List D->List Sl->Prop:=fun ds S1=>ds.length<=1000000/\∃Iv:Nat->List D->List Sl->Prop,Iv 0 [] S1 /\
 (∀i d ys S2,ds[i]?=some d->Iv i ys S2->g d (bg n ix S2) fun S3=>vt S3 fun b S4=>if b=true then ve S4 fun r S5=>∃x,r=.d x/\Iv (i+1) (ys++[x]) (backS n ix S2 S5) else Iv (i+1) ys (backS n ix S2 S4)) /\
 ∀ys S2,Iv ds.length ys S2->QN ys S2
theorem Bg {n:Nat} {ve:VT} (h:vn S (ju n ix g vt ve QN)):lF vn n ix g vt ve S QN:=h
def dh (ve:VT) (A:D->List Sl->Prop) (B:List Sl->Prop):Bool->List Sl->Prop:=fun b S4=>if b=true then ve S4 fun r S5=>∃x,r=.d x/\A x S5 else B S4
def mY (A:D->List Sl->Prop):VR->List Sl->Prop:=fun r S5=>∃x,r=.d x/\A x S5
theorem vL {n:Nat} {ve:VT} (Iv:Nat->List D->List Sl->Prop) (hl:ds.length<=1000000) (h0:Iv 0 [] S)
  (h1:∀i d ys S2,ds[i]?=some d->Iv i ys S2->g d (bg n ix S2) fun S3=>vt S3 (dh ve (fun x S5=>Iv (i+1) (ys++[x]) (backS n ix S2 S5)) (fun S4=>Iv (i+1) ys (backS n ix S2 S4)))) (h2:∀ys S2,Iv ds.length ys S2->QN ys S2):ju n ix g vt ve QN ds S:=⟨hl,Iv,h0,h1,h2⟩
theorem lK {n:Nat} {ve:VT} {lo:Int} {m:Nat} (Iv:Nat->List D->List Sl->Prop) (hl:m<=1000000) (h0:Iv 0 [] S)
  (h1:∀i ys S2,i < m->Iv i ys S2->g (.int (lo+(i:Int))) (bg n ix S2) fun S3=>vt S3 (dh ve (fun x S5=>Iv (i+1) (ys++[x]) (backS n ix S2 S5)) (fun S4=>Iv (i+1) ys (backS n ix S2 S4)))) (h2:∀ys S2,Iv m ys S2->QN ys S2):ju n ix g vt ve QN (rg lo m) S:=
 ⟨by rw [gg];exact hl,Iv,h0,fun i d ys S2 e p=>by
  have hi:i < m:=by have:=(List.getElem?_eq_some_iff.mp e).1;rwa [gg] at this
  rw [rC hi] at e
  cases e
  exact h1 i ys S2 hi p,fun ys S2 p=>h2 ys S2 (by rwa [gg] at p)⟩
theorem Bh (h:QT true S):yr S QT:=h
theorem dA {ve:VT} {A:D->List Sl->Prop} {B:List Sl->Prop} {b:Bool} (h1:b=true->ve S (mY A)) (h2:b=false->B S):dh ve A B b S:=by
 cases b with
 | true=>show (if true=true then _ else _);rw [if_pos rfl];exact h1 rfl
 | false=>show (if false=true then _ else _);rw [if_neg F4];exact h2 rfl
theorem pN {ve:VT} {A:D->List Sl->Prop} {B:List Sl->Prop} (h:ve S (mY A)):dh ve A B true S:=dA (fun _=>h) fun e=>nomatch e
theorem lL {A:D->List Sl->Prop} {x:D} (h:A x S):mY A (.d x) S:=⟨x,rfl,h⟩
theorem D7 {i j:Int} (h:q (.bl (decide (i=j)))):wEq (.int i) (.int j) q:=⟨.int i,.int j,rfl,rfl,rfl,by simpa using h⟩
theorem D8 {i j:Int} (h:q (.bl (!decide (i=j)))):wNe (.int i) (.int j) q:=⟨.int i,.int j,rfl,rfl,rfl,by simpa using h⟩
theorem D9 {c:String} {b:Bool} (hn:∀n,d≠.ty n) (e:pG (tyD d) c=some b) (h:q (.bl b)) (hE:isE d=false:=by with_unfolding_all rfl):Dd [d,.ty c] q:=⟨d,c,b,rfl,hn,hE,e,h⟩
end
end VL
end
section
namespace VL
open PySem L2
section
variable {K:FO} {X:Cx} {m:Bool} {e a b c o:Expr} {ta tb tc te:TE} {va vb vc:VT} {pos:Pos}
def Ea:D->D->(D->Prop)->Prop:=fun d1 d2 q=>∃ns ms,d1=eT ns/\d2=eT ms/\q (.bl (HT.lexLt ns ms))
theorem Eb:cH K (CV K) Ea:=by
 rintro x y H d1 d2 q C r1 r2 ⟨ns,ms,rfl,rfl,h⟩ hc
 obtain ⟨p,vs,rfl,h1,rr⟩:=Rep.sqT r1
 obtain ⟨p',vs',rfl,h2,rr'⟩:=Rep.sqT r2
 cases Reps.toInts rr
 cases Reps.toInts rr'
 exact ⟨p,p',ns,ms,rfl,rfl,h1,h2,hc _ _ h fun _ _=>.bl _⟩
theorem Ec {ns ms:List Int} (h:q (.bl (HT.lexLt ns ms))):Ea (eT ns) (eT ms) q:=⟨ns,ms,rfl,rfl,h⟩
def j9 (w w':D->D->(D->Prop)->Prop) (va vb vc:VT):VT:=fun S Q=>va S fun ra S1=>vb S1 fun rb S2=>∃d1 d2,get S2 ra=some d1/\get S2 rb=some d2/\w d1 d2 fun d=>∃k,d=.bl k /\
 if k=true then vc S2 fun rc S3=>∃d2' d3,get S3 rb=some d2'/\get S3 rc=some d3/\w' d2' d3 fun d=>Q (.d d) S3 else Q (.d (.bl false)) S2
theorem sh {r r':R2} {w w':D->D->(D->Prop)->Prop} (L:cH K r w) (L':cH K r' w') (ha:SndE K false ta va) (hb:SndE K false tb vb) (hc:SndE K false tc vc):SndE K m (mI r r' ta tb tc) (j9 w w' va vb vc):=by
 intro H0 Z σ H S Q C k t hq
 refine ha H0 Z σ H S _ _ k t fun x H1 ra S1 k1 st1 r1 t1=>?_
 refine hb H0 Z σ H1 S1 _ _ k1 t1 fun y H2 rb S2 k2 st2 r2 zr1=>?_
 obtain ⟨d1,d2,e1,e2,t2⟩:=zr1
 refine L x y H2 d1 d2 _ _ ((r1.step st2).get k2 e1) (r2.get k2 e2) t2 fun z dz zr1 rz=>?_
 obtain ⟨b,eb,q⟩:=zr1
 subst eb
 cases rz Any AnyF
 refine ⟨b,rfl,?_⟩
 cases b with
 | false=>rw [if_neg F4] at q ⊢;exact hq _ H2 (.d (.bl false)) S2 k2 (st1.trans st2) (Rep.bl false) q
 | true=>
  rw [if_pos rfl] at q ⊢
  refine hc H0 Z σ H2 S2 _ _ k2 q fun u H3 rc S3 k3 st3 r3 zr1=>?_
  obtain ⟨d2',d3,g1,g2,t3⟩:=zr1
  exact L' y u H3 d2' d3 _ _ ((r2.step st3).get k3 g1) (r3.get k3 g2) t3 fun z dz q rz=>hq z H3 (.d dz) S3 k3 ((st1.trans st2).trans st3) (rz _ _) q
theorem fW {op op':CmpOp} {r r':R2} {w w':D->D->(D->Prop)->Prop} (ho:OpR X (Hx op) r) (L:cH K r w) (ho':OpR X (Hx op') r') (L':cH K r' w') (ha:VE K X false a ta va) (hb:VE K X false b tb vb) (hc:VE K X false c tc vc)
  (hm:lastMarks [op,op'] [b,c]=false:=by with_unfolding_all rfl):VE K X m (.Compare a [op,op'] [b,c] pos) (mI r r' ta tb tc) (j9 w w' va vb vc):=⟨qK ho ho' ha.pe hb.pe hc.pe hm,sh L L' ha.snd hb.snd hc.snd⟩
theorem om:∀{ps:List Addr} {nss:List (List Int)} {N:AP} {F:FP} {H:Hp},ik K (fun _=>none) ps nss->Reps K N F H (ps.map V.ref) (nss.map eT)
 | _,_,_,_,_,.nil=>.nil
 | _,_,_,_,_,.cons h t=>.cons (.tupK h Reps.ints) (om t)
end
section
variable {S:List Sl} {Q:VR->List Sl->Prop} {QT:Bool->List Sl->Prop} {W:bz} {va vb:VT} {vt vu:VTT} {t u:VTS} {b:Bool}
theorem Ed (e:b=false) (h:vu S QT):kOr vu QT b S:=by subst e;exact rT h
theorem Ee (e:b=true) (h:t W S):kIf t u W b S:=by subst e;exact rO h
theorem Ef (e:b=false) (h:u W S):kIf t u W b S:=by subst e;exact rP h
theorem FF (e:b=true) (h:va S Q):vH va vb Q b S:=by subst e;exact mV (fun _=>h) fun e=>nomatch e
theorem FG (e:b=false) (h:vb S Q):vH va vb Q b S:=by subst e;exact mV (fun e=>nomatch e) fun _=>h
theorem Eg {c:Bool} (e:c=true) (h:vb S Q):n9 vb Q (.d (.bl c)) S:=by subst e;exact oa (fun _=>h) fun e=>nomatch e
theorem Eh {c:Bool} (e:c=false) (h:Q (.d (.bl false)) S):n9 vb Q (.d (.bl c)) S:=by subst e;exact oa (fun e=>nomatch e) fun _=>h
end
section
variable {α:Type} {S:List Sl} {QN:List D->List Sl->Prop} {g:VG} {vt:VTT} {ve:VT} {n:Nat} {ix:List Nat}
theorem aL {β:Type} {xs:List α} {en:α->β} {i:Nat} {d:β} (h:(xs.map en)[i]?=some d):∃x,xs[i]?=some x/\d=en x/\x∈xs/\xs.take (i+1)=xs.take i++[x]:=by
 rw [Gk] at h
 obtain ⟨x,h1,h2⟩:=Option.map_eq_some_iff.mp h
 refine ⟨x,h1,h2.symm,He h1,?_⟩
 rw [Ml,h1]
 rfl
theorem df {xs:List α} {en f:α->D} {p:α->Bool} (hl:xs.length<=1000000)
  (h:∀x∈xs,∀(A:D->List Sl->Prop) (B:List Sl->Prop),(∀S5,backS n ix S S5=S->p x=true->A (f x) S5)->(∀S5,backS n ix S S5=S->p x=false->B S5)->g (en x) (bg n ix S) fun S3=>vt S3 (dh ve A B))
  (h2:QN ((xs.filter p).map f) S):ju n ix g vt ve QN (xs.map en) S:=by
 refine vL (fun i ys S'=>S'=S/\ys=((xs.take i).filter p).map f) (by simpa using hl) ⟨rfl,by simp⟩ ?_ ?_
 ·rintro i d ys S2 e ⟨rfl,rfl⟩
  obtain ⟨x,h1,rfl,hm,ht⟩:=aL e
  refine h x hm _ _ (fun S5 e5 hp=>⟨e5,?_⟩) (fun S5 e5 hp=>⟨e5,?_⟩)
  ·rw [ht,HW,GK]
   simp [hp]
  ·rw [ht,HW,GK]
   simp [hp]
 ·rintro ys S2 ⟨rfl,rfl⟩
  rw [FV,Hl]
  exact h2
theorem comp_map {xs:List α} {en f:α->D} (hl:xs.length<=1000000)
  (h:∀x∈xs,∀(A:D->List Sl->Prop) (B:List Sl->Prop),(∀S5,backS n ix S S5=S->A (f x) S5)->g (en x) (bg n ix S) fun S3=>vt S3 (dh ve A B))
  (h2:QN (xs.map f) S):ju n ix g vt ve QN (xs.map en) S:=by
 refine df (p:=fun _=>true) hl (fun x hx A B hA _=>h x hx A B fun S5 e=>hA S5 e rfl) ?_
 rwa [List.filter_eq_self.mpr (by intros;rfl)]
theorem vM {W:bz} {b:VTS} {xs:List α} {en:α->D} (Iv:List Sl->Prop) (h0:Iv S) (h1:∀x∈xs,∀S2,Iv S2->∀(nx:List Sl->Prop),(∀S3,Iv S3->nx S3)->g (en x) S2 fun S3=>b ⟨nx,W.rt,W.nx,nx⟩ S3) (h2:∀S2,Iv S2->W.nx S2):kFor g b W (xs.map en) S:=
 dQ (fun _ S=>Iv S) h0 (fun i d S2 e p=>by
  obtain ⟨x,_,rfl,hm,_⟩:=aL e
  exact h1 x hm S2 p _ fun _ q=>q) h2
end
section
variable {α:Type} [DecidableEq α] {n:Nat} {f:α->D} {x y:α} {l:List α} {q:D->Prop}
theorem yC (e:Enc n f) (hx:x=y) (h:q (.bl false)) (hn:n<=40:=by decide):vp true (f x) (f y) q:=Ds e (by rw [decide_eq_true hx];exact h) hn
end
theorem fX {α:Type} {l:List α} {f:α->D} {r:Int} (h0:0<=r) (h1:r < l.length):∃t,t∈l/\l[r.toNat]?=some t/\atI (l.map f) r=some (f t):=by
 have hr:r.toNat < l.length:=by lia
 refine ⟨l[r.toNat],IF hr,FS hr,?_⟩
 obtain ⟨m,rfl⟩:∃m:Nat,r=m:=⟨r.toNat,by lia⟩
 have hr:m < l.length:=by lia
 exact fJ (by rw [Gk,FS hr];rfl)
end VL
end
section
namespace VL
open PySem L2 PySem.SeqAt PySem.Spec PyProof.Rows
section
variable {X:Cx} {pins:List (Addr×Obj)} {σ:L2.St} {H:Hp} {s:FW} {K:FO}
def Ei (K:FO) (g:List Bool->Bool):List V->Hp->VK->Prop:=fun xs H Q=>∃(l:Addr) (bs:List Bool),xs=[.ref l]/\SqL K H l (bs.map V.bl)/\Q (.bl (g bs)) H
theorem lM:∀{bs:List Bool} {us:List FU},Vals (bs.map V.bl) us->PyProof.Rows.LSm.BoolsAre us bs
 | [],_,.nil=>.nil
 | _::r,_,.cons h t=>by cases h;exact .cons _ (lM (bs:=r) t)
theorem yD (hK:X.K=K) (hc:X.calm=true):cg X (.builtin "all") (Ei K (·.all id)):=by
 rintro pins s σ H xs us Q I r ⟨l,bs,e,hq,q⟩
 subst e hK
 obtain ⟨u,rfl,rx⟩:=Vals.one r
 cases rx
 obtain ⟨vs,rv,pl,_⟩:=I.list hq
 obtain ⟨m,F⟩:=I.fr
 exact PyProof.Rows.LSm.all_bools F qy (I.ok.hd hc) pl.isList (lM rv) fun h' tk F' N'=>⟨.bl _,H,I.led (t':=tk) F.ns F' N',rfl,q⟩
theorem lN {N:AP} {H:Hp}:∀{vs:List V} {bs:List Bool},Reps K N F H vs (bs.map D.bl)->vs=bs.map V.bl
 | _,[],.nil=>rfl
 | _,b::bs,.cons h t=>by cases h;rw [lN t];rfl
def Ej (g:List Bool->Bool):List D->(D->Prop)->Prop:=fun ds q=>∃bs:List Bool,ds=[.lst (bs.map .bl)]/\q (.bl (g bs))
theorem yE {g:List Bool->Bool}:iz K (Ei K g) (Ej g):=by
 rintro xs H ds q C r ⟨bs,rfl,h⟩ hc
 obtain ⟨v,rfl,rv⟩:=rep1 r
 obtain ⟨a,vs,rfl,hq,rr⟩:=rv.sqL
 cases lN rr
 exact ⟨a,bs,rfl,hq,hc _ _ h fun _ _=>.bl _⟩
end
section
variable {K:FO} {X:Cx} {m:Bool} {e a b:Expr} {ta tb te:TE} {va vb:VT} {tr:TA} {vr:VTA} {pos p:Pos}
def Ek (va:VT):VTT:=fun S Q=>va S fun r S1=>∃d b,get S1 r=some d/\tru d=some b/\Q b S1
theorem Bi (hK:X.K=K) (h:VE K X false e te va) (he:∀whole,LG e X.env whole=(do let v <- whole;IW e.pos;IY [v] (Mu v)):=by intro _;rfl):VTe K X e (fun σ H Q=>te σ H fun x H'=>∃k,TruV K x H' k/\Q k H') (Ek va):=
 ⟨by subst hK;exact qL h.pe he,fun H0 Z σ H S Q C k t hc=>h.snd H0 Z σ H S _ _ k t fun v H1 r S1 k1 st1 rr zq1=>by
  obtain ⟨d,b,e1,e2,q⟩:=zq1
  refine ⟨b,?_,hc b H1 S1 k1 st1 q⟩
  have r1:=rr.get k1 e1
  cases d with
  | int i=>cases r1;cases e2;rfl
  | bl i=>cases r1;cases e2;rfl
  | non=>cases r1;cases e2;rfl
  | str i=>cases e2
  | ty i=>cases e2
  | dic ks i=>cases e2
  | exc i=>cases e2
  | oth i=>cases e2
  | dib i j=>cases e2
  | tup ds=>obtain ⟨a,vs,rfl,hq,rr'⟩:=r1.sqT;cases e2;exact .inr (.inl ⟨vs,hq,by cases rr' <;> rfl⟩)
  | lst ds=>obtain ⟨a,vs,rfl,hq,rr'⟩:=r1.sqL;cases e2;exact .inl ⟨vs,hq,by cases rr' <;> rfl⟩⟩
def El (i:Nat) (t:VTN):VTN:=fun S Q=>(∃ds,S[i]?=some (.own ds))/\t S fun es S1=>∃ds,S1[i]?=some (.own ds)/\ds.length+es.length<=1000000/\Q (ds++es) S1
theorem sj {t:VTN} (i:Nat) (ho:PE X a (cA i)) (h:VN K X b tb t):VN K X (.BinOp a .Add b pos) (tOp C2 (cA i) tb) (El i t):=⟨qG Ao ho h.pe,fun H0 Z σ H S Q C k zq1 hc=>by
 obtain ⟨⟨ds0,e0⟩,t⟩:=zq1
 obtain ⟨o,g1,c,us,rfl,g2,g3,g4⟩:=k.ownAt e0
 refine ⟨.ref c,g1,h.snd H0 Z σ H S _ _ k t fun a' vs es H1 H' S1 k1 st1 ha hg hl rr zr1=>?_⟩
 obtain ⟨ds,e1,hlen,q⟩:=zr1
 obtain ⟨o',g1',c',us',rfl,g2',g3',g4'⟩:=k1.ownAt e1
 rw [g1] at g1';cases g1'
 have k2:=k1.grow hg
 have g2'':H' c=some (.lst us'):=by rw [hg c (by simp [g2'])];exact g2'
 refine ⟨c,a',us',vs,rfl,rfl,g2'',hl,by rw [g4'.length,rr.length,G9];lia,fun p hp=>?_⟩
 refine hc p _ _ H' _ S1 k2 (st1.trans (.grow hg)) hp (aQ hp) az (Reps.append ?_ ?_) q
 ·exact bJ hp ((g4'.mono (fun b n e=>⟨n,hg b e⟩) fun _ x=>x).mono (fun _ n _=>⟨n,rfl⟩) fun _ x _=>x)
 ·exact bJ hp (rr.mono (fun _ n _=>⟨n.1,rfl⟩) fun _ x _=>x)⟩
end
end VL
end
section
namespace VL
open PySem L2
section
variable {S:List Sl} {Q:VR->List Sl->Prop} {QT:Bool->List Sl->Prop} {QN:List D->List Sl->Prop} {W:bz} {va vb:VT} {vr:VTA} {vn:VTN} {vl vh:VO}
@[irreducible] def vN (i:Nat) (QN:List D->List Sl->Prop):List D->List Sl->Prop:=fun es S1=>∃ds,S1[i]?=some (.own ds)/\ds.length+es.length<=1000000/\QN (ds++es) S1
theorem Em {i:Nat} (e:S[i]?=some (.own ds)) (h:vn S (vN i QN)):El i vn S QN:=by unfold vN at h;exact ⟨⟨ds,e⟩,h⟩
theorem Bj {i:Nat} {es ds:List D} (e:S[i]?=some (.own ds)) (hl:ds.length+es.length<=1000000) (h:QN (ds++es) S):vN i QN es S:=by unfold vN;exact ⟨ds,e,hl,h⟩
@[irreducible] def vO (QT:Bool->List Sl->Prop):VR->List Sl->Prop:=fun r S1=>∃d b,get S1 r=some d/\tru d=some b/\QT b S1
theorem En (h:va S (vO QT)):Ek va S QT:=by unfold vO at h;exact h
theorem sm {b:Bool} (e:get S r=some d) (e2:tru d=some b) (h:QT b S):vO QT r S:=by unfold vO;exact ⟨d,b,e,e2,h⟩
variable {QO:Option Int->List Sl->Prop}
end
end VL
end
section
namespace VL
open PySem L2
section
variable {K:FO} {X:Cx} {m:Bool} {e o:Expr} {te:TE} {vb:VT} {pos:Pos}
def Eo (rows:List (Int×List (List Int))) (vb:VT):VT:=fun S Q=>vb S fun rb S1=>∃k nss,get S1 rb=some (.int k)/\(k,nss)∈rows/\Q (.d (.tup (nss.map eT))) S1
theorem Bk {a:Addr} {rows:List (Int×List (List Int))} (hK:X.K=K) (hd:okD K a rows=true) (ho:PE X o (tC (.ref a))) (h:VE K X false e te vb) (hs:fK e):VE K X m (.Subscript o e pos) (tOp (C5 K rows) (tC (.ref a)) te) (Eo rows vb):=
 ⟨by subst hK;exact lg uZ ho h.pe hs,fun H0 Z σ H S Q C k t hc=>h.snd H0 Z σ H S _ _ k t fun v H1 r S1 k1 st1 rr zq1=>by
  obtain ⟨i,nss,e1,hi,q⟩:=zq1
  cases rr.get k1 e1
  refine ⟨a,i,nss,rfl,rfl,hd,hi,fun v tt=>?_⟩
  obtain ⟨a',ps,rfl,h⟩:=tt
  obtain ⟨h1,h2⟩:=h fun _=>none
  exact hc _ H1 (.d (.tup (nss.map eT))) S1 k1 st1 (show Rep K _ _ H1 (.ref a') (.tup (nss.map eT)) from .tupK h1 (om h2)) q⟩
end
section
variable {S:List Sl} {Q:VR->List Sl->Prop} {vb:VT}
@[irreducible] def vP (rows:List (Int×List (List Int))) (Q:VR->List Sl->Prop):VR->List Sl->Prop:=fun rb S1=>∃k nss,get S1 rb=some (.int k)/\(k,nss)∈rows/\Q (.d (.tup (nss.map eT))) S1
theorem Ep {rows:List (Int×List (List Int))} (h:vb S (vP rows Q)):Eo rows vb S Q:=by unfold vP at h;exact h
theorem Bl {rows:List (Int×List (List Int))} {k:Int} {nss:List (List Int)} (e:get S r=some (.int k)) (hm:(k,nss)∈rows) (h:Q (.d (.tup (nss.map eT))) S):vP rows Q r S:=by unfold vP;exact ⟨k,nss,e,hm,h⟩
end
end VL
end
section
namespace KT
open PySem PySem.Spec L2 SeqAt PySem.W
def isNum:Int->FU->Bool
 | k,.int j _=>decide (j=k)
 | k,.bool b=>decide ((if b then (1:Int) else 0)=k)
 | _,_=>false
theorem bM {k:Int} {v:FU} (h:isNum k v=true):(∃t,v=.int k t)\/∃b,v=.bool b/\(if b then (1:Int) else 0)=k:=by
 cases v <;> simp [isNum] at h
 ·exact .inr ⟨_,rfl,h⟩
 ·exact .inl ⟨_,by rw [h]⟩
section
variable {prog:GD} {w:Hg}
theorem pO {A:Ho} {E:FU->FW->Prop} {s:FW} {b:Bool} {Q:Int->FW->Prop} (h:Q (MY (if b then (1:Int) else 0)) { s with toks:=s.toks+1 }):GU (GM prog w) A (pyHash (.bool b)) Q E s:=by
 refine pyHash_slot (T:="bool") rfl F.slot_bool_hash entry_int_hash (args_int_hash _) (beq_builtin_none _) (.inl rfl) ?_
 cases b
 ·exact (show GU _ _ (do ret (<- mkInt 0)) _ _ s from FR (MO (F7 ⟨_,_,rfl,h⟩)))
 ·exact (show GU _ _ (do ret (<- mkInt 1)) _ _ s from FR (MO (F7 ⟨_,_,rfl,h⟩)))
def numKind (prog:GD) (w:Hg):KeyKind prog w Int where
 is:=isNum
 hash:=MY
 inj:=fun v a b x y=>by
  rcases bM x with ⟨t,rfl⟩ | ⟨c,rfl,rfl⟩
  ·rcases bM y with ⟨u,e⟩ | ⟨d,e,_⟩ <;> cases e;rfl
  ·rcases bM y with ⟨u,e⟩ | ⟨d,e,rfl⟩ <;> cases e;rfl
 byValue:=fun k v h=>by rcases bM h with ⟨t,rfl⟩ | ⟨c,rfl,_⟩ <;> rfl
 pyHash:=fun hv h=>by
  rcases bM hv with ⟨t,rfl⟩ | ⟨c,rfl,rfl⟩
  ·exact wpAny_pyHash_int h
  ·exact pO h
 eqBool:=fun {A E s a b u v Q} hu hv h=>by
  have z:∀c d:Int,decide (c=d)=(c==d):=fun c d=>by rw [Ih];simp
  rw [z] at h
  rcases bM hu with ⟨t,rfl⟩ | ⟨c,rfl,rfl⟩ <;> rcases bM hv with ⟨r,rfl⟩ | ⟨d,rfl,rfl⟩
  ·exact wpAny_eqBool_int h
  ·exact EqAt.int_bool _ _ _ prog w E Q h
  ·exact EqAt.bool_int _ _ _ prog w E Q h
  ·refine EqAt.bool_bool _ _ prog w E Q ?_
   have e:(c==d)=((if c then (1:Int) else 0)==(if d then 1 else 0)):=by cases c <;> cases d <;> rfl
   rw [e];exact h
 «strs»:=fun k x t v h=>by simp [isNum] at h
end
end KT
end
section
namespace L2
open PySem PySem.Spec PyProof.Rows
section
variable {X:Cx} {pins:List (Addr×Obj)} {σ:St} {H:Hp} {s:FW}
inductive NumV:List Int->List V->Prop where
 | nil:NumV [] []
 | int (i:Int) {ms:List Int} {vs:List V} (t:NumV ms vs):NumV (i::ms) (.int i::vs)
 | bl (b:Bool) {ms:List Int} {vs:List V} (t:NumV ms vs):NumV ((if b then (1:Int) else 0)::ms) (.bl b::vs)
theorem NumV.ints:∀ms:List Int,NumV ms (ms.map V.int)
 | []=>.nil
 | i::r=>.int i (NumV.ints r)
def SqN (K:FO) (H:Hp) (b:Addr) (ms:List Int):Prop:=∃vs,SqT K H b vs/\NumV ms vs
theorem SqN.of {b:Addr} (h:SqT K H b (ms.map V.int)):SqN K H b ms:=⟨_,h,NumV.ints ms⟩
theorem fB {P:GD} {w:Hg}:∀{ms:List Int} {vs:List V} {us:List FU},NumV ms vs->Vals vs us->ItemsAre (KT.numKind P w) ms us
 | _,_,_,.nil,r=>by cases r;exact .nil
 | _,_,_,.int i t,r=>by
  cases r with
  | cons h u=>obtain ⟨tk,rfl⟩:=h;exact .cons (by simp [KT.numKind,KT.isNum]) (fB t u)
 | _,_,_,.bl b t,r=>by
  cases r with
  | cons h u=>cases h;exact .cons (by simp [KT.numKind,KT.isNum]) (fB t u)
theorem eY {b:Addr} (I:Inv X pins σ H s) (h:SqN X.K H b ms):(K6 (KT.numKind X.prog X.w)).is s.heap ms b:=by
 obtain ⟨vs,h,hn⟩:=h
 obtain ⟨its,r,⟨o,h1,h2,n,h3⟩,_⟩:=I.tuple h
 exact ⟨o,its.toArray,n,h1,h2,h3,by simpa using fB hn r⟩
def cD (K:FO) (H:Hp) (es:List (List Int×Addr×V)):Prop:=∀x∈es,SqN K H x.2.1 x.1
theorem EV.keys {xs:List (List Int×Addr×FU)} (r:EV es xs):es.map (·.1)=xs.map (·.1):=by
 induction r with
 | nil=>rfl
 | cons h t ih=>rw [Gq,Gq,ih,h.1]
theorem EV.mem {xs:List (List Int×Addr×FU)} (r:EV es xs):∀x∈xs,∃e∈es,e.1=x.1/\e.2.1=x.2.1:=by
 induction r with
 | nil=>intro x h;exact nomatch h
 | @cons p q ps qs h t ih=>
  intro x hx
  rcases List.mem_cons.mp hx with rfl | hx
  ·exact ⟨p,FZ,h.1,h.2.1⟩
  ·obtain ⟨e,h1,h2⟩:=ih x hx
   exact ⟨e,GB _ h1,h2⟩
theorem ke {a:Addr} {ob:Obj} (I:Inv X pins σ H s) (e:H a=some (ck a ob es)) (k:cD X.K H es):es.length<=GG/\(a==Iq)=false/\(es.map (·.1)).Nodup /\
  ∃xs,EV es xs/\s.heap.DictOfH (K6 (KT.numKind X.prog X.w)) a xs:=by
 obtain ⟨z,m,nd,xs,ev,o,ds,ep,h1,h2,h3,h4⟩:=jY I e
 refine ⟨z,m,nd,xs,ev,o,ds,ep,h1,h2,h3,h4,fun x hx=>?_,by rw [<- ev.keys];exact nd⟩
 obtain ⟨e,he,e1,e2⟩:=ev.mem x hx
 rw [<- e1,<- e2]
 exact eY I (k e he)
def atE (es:List (List Int×Addr×V)) (k:List Int):Option V:=(es.find? fun x=>decide (x.1=k)).map (·.2.2)
theorem EV.at_ {xs:List (List Int×Addr×FU)} (r:EV es xs) (k:List Int):RelO (atE es k) ((Nc xs k).map (·.2)):=by
 induction r with
 | nil=>exact JS
 | @cons p q ps qs h t ih=>
  obtain ⟨h1,_,h2⟩:=h
  by_cases e:p.1=k
  ·have e':q.1=k:=h1.symm.trans e
   have a:atE (p::ps) k=some p.2.2:=by simp [atE,Hz,e]
   have b:Nc (q::qs) k=some q.2:=by simp [Nc,Hz,e']
   rw [a,b];exact h2
  ·have e':¬ q.1=k:=fun z=>e (h1.trans z)
   have a:atE (p::ps) k=atE ps k:=by simp [atE,Hz,e]
   have b:Nc (q::qs) k=Nc qs k:=by simp [Nc,Hz,e']
   rw [a,b];exact ih
theorem jv:∀{o:Option V} {u:Option FU},RelO o u->o.isSome=u.isSome
 | some _,some _,_=>rfl
 | none,none,_=>rfl
 | some _,none,h=>h.elim
 | none,some _,h=>h.elim
theorem lO {k:List Int}:(atE es k).isSome=decide (k∈es.map (·.1)):=by
 induction es with
 | nil=>rfl
 | cons p ps ih=>
  by_cases e:p.1=k
  ·simp [atE,Hz,e]
  ·have a:atE (p::ps) k=atE ps k:=by simp [atE,Hz,e]
   rw [a,ih]
   have:¬ k=p.1:=fun z=>e z.symm
   simp [this]
def Bm (K:FO) (neg:Bool):R2:=fun y x H Q=>∃b a ms es,y=.ref b/\x=.ref a/\SqN K H b ms/\(∃ob,H a=some (ck a ob es))/\cD K H es/\Q (.bl (if neg then !decide (ms∈es.map (·.1)) else decide (ms∈es.map (·.1)))) H
end
section
variable {X:Cx}
theorem Bn (hu:X.A.units+64 < KG):OpR X (Hx .In) (Bm X.K false):=by
 rintro pins s σ H x y v u Q I rx ry ⟨b,a,ms,es,e1,e2,h1,⟨ob,h2⟩,h3,q⟩
 subst e1;subst e2
 cases rx;cases ry
 obtain ⟨z,m,nd,xs,ev,dd⟩:=ke I h2 h3
 refine wpAny_in_heap (Kg (by lia)) (eY I h1) m dd ?_
 have e:=jv (ev.at_ ms)
 rw [Mm,lO] at e
 rw [<- e]
 exact ⟨.bl _,H,I.tok _,rfl,q⟩
end
end L2
namespace L2
open PySem PySem.Spec PyProof.Rows
def fC (es:List (List Int×Addr×V)) (k:List Int) (b:Addr) (v:V):List (List Int×Addr×V):=if k∈es.map (·.1) then es.map (fun x=>if x.1=k then (x.1,x.2.1,v) else x) else es++[(k,b,v)]
theorem iI (es:List (List Int×Addr×V)) (k:List Int) (b:Addr) (v:V):(fC es k b v).length<=es.length+1:=by
 unfold fC;split <;> simp
theorem EV.repl {xs:List (List Int×Addr×FU)} (r:EV es xs) (k:List Int) {u:FU} (rv:RelV v u):EV (es.map fun x=>if x.1=k then (x.1,x.2.1,v) else x) (xs.map (putAt k u)):=by
 induction r with
 | nil=>exact .nil
 | @cons p q ps qs h t ih=>
  rw [Gq,Gq]
  refine .cons ?_ ih
  obtain ⟨h1,h2,h3⟩:=h
  unfold putAt
  by_cases e:p.1=k
  ·rw [if_pos e,if_pos (h1.symm.trans e)];exact ⟨h1,h2,rv⟩
  ·rw [if_neg e,if_neg (fun z=>e (h1.trans z))];exact ⟨h1,h2,h3⟩
theorem EV.put {xs:List (List Int×Addr×FU)} (r:EV es xs) (k:List Int) {b:Addr} {u:FU} (rv:RelV v u):EV (fC es k b v) (storedH xs k b u):=by
 have e:decide (k∈es.map (·.1))=(Nc xs k).isSome:=by
  have:=jv (r.at_ k)
  rw [Mm,lO] at this
  exact this
 unfold fC storedH
 by_cases q:(Nc xs k).isSome=true
 ·rw [if_pos q,if_pos (of_decide_eq_true (e.trans q))];exact r.repl k rv
 ·rw [if_neg q,if_neg (fun z=>q (e.symm.trans (decide_eq_true z)))];exact Paired.snoc r ⟨rfl,rfl,rv⟩
section
variable {X:Cx} {o i value:Expr} {pos pos':Pos} {td ty tv:TE}
def yF (K:FO) (td ty tv:TE):TS:=fun D σ H=>tv σ H fun v H1=>td σ H1 fun x H2=>ty σ H2 fun y H3=>∃a b ms es,x=.ref a/\y=.ref b/\SqN K H3 b ms/\(∃ob,H3 a=some (ck a ob es))/\cD K H3 es/\es.length < GG /\
 ∀ob,D.nx σ (upd H3 a (ck a ob (fC es ms b v)))
theorem Bo {s:FW} {a b:Addr} {ob:Obj} {r:FU} {A:Ho} {E:FU->FW->Prop} {Q:Unit->FW->Prop} (hu:A.units+1 < KG) (I:Inv X pins σ H s) (h1:SqN X.K H b ms) (h2:H a=some (ck a ob es)) (h3:cD X.K H es) (hl:es.length < GG) (rv:RelV v r)
  (h:∀ob s',Inv X pins σ (upd H a (ck a ob (fC es ms b v))) s'->Q () s'):GU (GM X.prog X.w) A (MJ (.ref a) (.ref b) r) Q E s:=by
 obtain ⟨z,m,nd,xs,ev,dd⟩:=ke I h2 h3
 refine wpAny_setItem_heap (hsz:=by rw [<- Jh ev];exact z) (Kg hu) (eY I h1) dd fun h' dd' hs=>?_
 obtain ⟨q,ds,ep,hq,g2,g3,g4,_,g5⟩:=dd'
 refine h q _ (I.write (x:=a) (e:=a) (by rw [h2];exact JS) (.inl rfl) (fun b q hb z=>(hs.2 b hb).trans z) ⟨q,hq⟩ (DctP.ok ⟨?_,m,?_,_,ev.put ms rv,q,ds,ep,hq,g2,g3,g4⟩ hq))
 ·have:=iI es ms b v;lia
 ·rw [(ev.put ms rv).keys];exact g5
theorem vQ (hu:X.A.units+64 < KG) (ho:PE X o td) (hi:PE X i ty) (hv:PE X value tv) (hs:HJ value (some (.Subscript o i pos')) pos.line X.env=pure false) :
  PS X (.Assign [.Subscript o i pos'] value pos) (yF X.K td ty tv):=by
 intro pins s σ H D I h
 refine wpAny_Assign_Subscript (thn (hv pins s σ H _ I h) fun r s1 ⟨v,H1,I1,rv,q1⟩=>thn (ho pins s1 σ H1 _ I1 q1) fun u s2 ⟨x,H2,I2,rx,q2⟩=>thn (hi pins s2 σ H2 _ I2 q2) fun iv s3 zr1=>?_) hs
 obtain ⟨y,H3,I3,ry,a,b,ms,es,ex,ey,h1,⟨ob,h2⟩,h3,hl,q3⟩:=zr1
 subst ex;subst ey
 obtain rfl:u=G0 a:=rx
 obtain rfl:iv=G0 b:=ry
 exact Bo (by lia) I3 h1 h2 h3 hl rv fun ob s4 I4=>⟨σ,_,I4,q3 ob⟩
theorem su {s:FW} (I:Inv X pins σ H s):Iq < s.heap.objs.size:=by
 have h:Gv < s.heap.objs.size:=(I.mod.glob.keeps I.bk).lt
 exact Nat.lt_trans (by decide) h
def yG:TE:=fun _ H Q=>∀p ob,H p=none->Q (.ref p) (upd H p (ck p ob []))
theorem vR:PE X (.Dict [] [] pos) yG:=fun pins s σ H Q I h=>
 wpAny_Dict_empty ⟨.ref s.heap.objs.size,_,I.laid (a:=s.heap.objs.size) (o:=ck s.heap.objs.size _ []) (t':=s.toks) (fun _ _ q=>FT _ q) (FX _)
  (DctP.ok ⟨HM _,beq_eq_false_iff_ne.mpr (Ia (GO (su I))),Kn,[],.nil,_,#[],0,Gn _ rfl,⟨rfl,rfl,rfl⟩,rfl,rfl⟩ (Gn _ rfl)),rfl,h _ _ (I.hok.fresh (FX _))⟩
end
end L2
namespace VL
open PySem L2
def dc (kvs:List (List Int×D)):D:=.dic (kvs.map (·.1)) (kvs.map (·.2))
def od (kvs:List (List Int×D)):Sl:=.odi (kvs.map (·.1)) (kvs.map (·.2))
def cE (kvs:List (List Int×D)) (k:List Int) (d:D):List (List Int×D):=if k∈kvs.map (·.1) then kvs.map (fun x=>if x.1=k then (x.1,d) else x) else kvs++[(k,d)]
def getA (kvs:List (List Int×D)) (k:List Int):Option D:=(kvs.find? fun x=>decide (x.1=k)).map (·.2)
section
variable {K:FO} {N:AP} {F:FP} {H:Hp}
theorem dB:∀{es:List (List Int×Addr×V)},Reps K N F H (es.map fun x=>.ref x.2.1) ((es.map (·.1)).map kT)->cD K H es
 | [],_=>fun _ h=>nomatch h
 | e::es,r=>by
  cases r with
  | cons h t=>
   intro x hx
   rcases List.mem_cons.mp hx with rfl | hx
   ·obtain ⟨a,vs,e1,hq,rr⟩:=Rep.sqT (show Rep K N F H _ (.tup (x.1.map D.int)) from h)
    cases e1
    cases Reps.toInts rr
    exact SqN.of hq
   ·exact dB t x hx
theorem Rep.dct {ks:List (List Int)} (h:Rep K N F H v (.dic ks ds)):∃a es,v=.ref a/\N a/\F (some a)/\(∃ob,H a=some (ck a ob es))/\es.map (·.1)=ks/\cD K H es/\Reps K N F H (es.map fun x=>.ref x.2.1) (ks.map kT)/\Reps K N F H (es.map (·.2.2)) ds:=by
 cases h with
 | dic n f h e rk r=>subst e;exact ⟨_,_,rfl,n,f,⟨_,h⟩,rfl,dB rk,rk,r⟩
theorem jw {k:List Int} (hv:Rep K N F H v d):∀{es:List (List Int×Addr×V)} {kvs:List (List Int×D)},es.map (·.1)=kvs.map (·.1)->Reps K N F H (es.map (·.2.2)) (kvs.map (·.2)) ->
  Reps K N F H ((es.map fun x=>if x.1=k then (x.1,x.2.1,v) else x).map (·.2.2)) ((kvs.map fun x=>if x.1=k then (x.1,d) else x).map (·.2))
 | [],[],_,_=>.nil
 | e::es,p::kvs,ek,r=>by
  simp only [Gq,J1] at ek
  cases r with
  | cons h t=>
   simp only [Gq]
   refine .cons ?_ (jw hv ek.2 t)
   by_cases hk:e.1=k
   ·rw [if_pos hk,if_pos (ek.1.symm.trans hk)];exact hv
   ·rw [if_neg hk,if_neg (fun z=>hk (ek.1.trans z))];exact h
 | [],_::_,ek,_=>by simp at ek
 | _::_,[],ek,_=>by simp at ek
theorem mZ (es:List (List Int×Addr×V)) (k:List Int) (v:V):(es.map fun x=>if x.1=k then (x.1,x.2.1,v) else x).map (·.1)=es.map (·.1):=by
 rw [GP]
 refine Hk fun x _=>?_
 simp only [JN];split <;> rfl
theorem m3 (es:List (List Int×Addr×V)) (k:List Int) (v:V):(es.map fun x=>if x.1=k then (x.1,x.2.1,v) else x).map (fun x=>V.ref x.2.1)=es.map fun x=>V.ref x.2.1:=by
 rw [GP]
 refine Hk fun x _=>?_
 simp only [JN];split <;> rfl
theorem iJ (kvs:List (List Int×D)) (k:List Int) (d:D):(kvs.map fun x=>if x.1=k then (x.1,d) else x).map (·.1)=kvs.map (·.1):=by
 rw [GP]
 refine Hk fun x _=>?_
 simp only [JN];split <;> rfl
theorem oo {k:List Int} {b:Addr} (hv:Rep K N F H v d) {F':FP} (hb:Rep K N F' H (.ref b) (kT k)) (ek:es.map (·.1)=kvs.map (·.1))
  (rk:Reps K N F' H (es.map fun x=>V.ref x.2.1) ((kvs.map (·.1)).map kT)) (r:Reps K N F H (es.map (·.2.2)) (kvs.map (·.2))) :
  (fC es k b v).map (·.1)=(cE kvs k d).map (·.1)/\Reps K N F' H ((fC es k b v).map fun x=>V.ref x.2.1) (((cE kvs k d).map (·.1)).map kT)/\Reps K N F H ((fC es k b v).map (·.2.2)) ((cE kvs k d).map (·.2)):=by
 unfold fC cE
 by_cases hk:k∈es.map (·.1)
 ·rw [if_pos hk,if_pos (by rw [<- ek];exact hk),mZ,iJ,m3]
  exact ⟨ek,rk,jw hv ek r⟩
 ·rw [if_neg hk,if_neg (by rw [<- ek];exact hk)]
  simp only [GK,Gq,G3]
  exact ⟨by rw [ek],Reps.append rk (.cons hb .nil),Reps.append r (.cons hv .nil)⟩
end
section
variable {K:FO} {X:Cx} {m:Bool} {e o ie:Expr} {te ti:TE} {va vi:VT} {pos posS:Pos}
def Er (neg:Bool):D->D->(D->Prop)->Prop:=fun d1 d2 q=>∃ms kvs,d1=kT ms/\d2=dc kvs/\q (.bl (if neg then !decide (ms∈kvs.map (·.1)) else decide (ms∈kvs.map (·.1))))
theorem yH {neg:Bool}:cH K (Bm K neg) (Er neg):=by
 rintro x y H d1 d2 q C r1 r2 ⟨ms,kvs,rfl,rfl,h⟩ hc
 obtain ⟨b,vs,rfl,hq,rr⟩:=Rep.sqT (show Rep K _ _ H x (.tup (ms.map D.int)) from r1)
 cases Reps.toInts rr
 obtain ⟨a,es,rfl,_,_,ha,ek,hk,_,_⟩:=Rep.dct (show Rep K _ _ H y (.dic _ _) from r2)
 refine ⟨b,a,ms,es,rfl,rfl,SqN.of hq,ha,hk,?_⟩
 rw [ek]
 exact hc _ _ h fun _ _=>.bl _
theorem yI (hK:X.K=K) (hu:X.A.units+64 < KG):OpR X (Hx .In) (Bm K false):=by subst hK;exact Bn hu
abbrev VTD:=List Sl->(List (List Int×D)->List Sl->Prop)->Prop
def FH (K:FO) (te:TE) (t:VTD):Prop:=∀H0 Z σ H S Q C,OK K H0 Z σ H S->t S Q->(∀a es kvs H1 H' S',OK K H0 Z σ H1 S'->Step Z σ S H σ S' H1->H1 a=none->(∀b,H1 b≠none->H' b=H1 b)->(∃ob,H' a=some (ck a ob es)) ->
 es.map (·.1)=kvs.map (·.1)->Reps K (fun b=>NM Z σ S' b/\b≠a) AnyF H' (es.map fun x=>V.ref x.2.1) ((kvs.map (·.1)).map kT)->Reps K (fun b=>NM Z σ S' b/\b≠a) (Fr H0) H' (es.map (·.2.2)) (kvs.map (·.2))->Q kvs S'->C (.ref a) H')->te σ H C
structure VDe (K:FO) (X:Cx) (e:Expr) (te:TE) (t:VTD):Prop where
 pe:PE X e te
 snd:FH K te t
def yJ:VTD:=fun S Q=>Q [] S
theorem sC:VDe K X (.Dict [] [] pos) yG yJ:=⟨vR,fun H0 Z σ H S Q C k t hc=>fun p ob hp=>hc p [] [] H _ S k .refl hp (aQ hp) ⟨ob,az⟩ rfl .nil .nil t⟩
def yK (t:VTD):VT:=fun S Q=>t S fun kvs S1=>Q (.d (dc kvs)) S1
theorem vS {t:VTD} (h:VDe K X e te t):VE K X m e te (yK t):=⟨h.pe,fun H0 Z σ H S Q C k t hc=>h.snd H0 Z σ H S _ _ k t fun a es kvs H1 H' S1 k1 st1 ha hg zq1 ek rk rr q=>by
 obtain ⟨ob,hl⟩:=zq1
 refine hc _ H' (.d (dc kvs)) S1 (k1.grow hg) (st1.trans (.grow hg)) (Rep.dic (k1.nm ha) (fun _=>⟨a,rfl,k1.dom a ha⟩) hl ek (Reps.flat (rk.mono (fun b n e=>⟨n.1,rfl⟩) fun _ x=>x) (et _)) (rr.mono (fun b n e=>⟨n.1,rfl⟩) fun _ x _=>x)) q⟩
def yL (i:Nat) (t:VTD):VTS:=fun V S=>t S fun kvs S1=>i < S1.length/\V.nx (S1.set i (od kvs))
theorem oq {i:Nat} {x:Str} {pos':Pos} {tn:VTD} (ps:∀te,PE X e te->PS X (.Assign [.Name x pos'] e pos) (cQ te (aX i))) (h:VDe K X e te tn):VS K X (.Assign [.Name x pos'] e pos) (cQ te (aX i)) (yL i tn):=
 ⟨ps te h.pe,fun H0 Z σ H S V E k t l=>h.snd H0 Z σ H S _ _ k t fun a es kvs H1 H' S' k1 st1 ha hg hl ek rk rr zq1=>by
  obtain ⟨hi,q⟩:=zq1
  obtain ⟨k2,st2⟩:=k1.setNew (s:=od kvs) hi ha hg ⟨a,es,rfl,hl,k1.dom a ha,⟨ek,rk⟩,rr⟩ rfl
  exact l.nx _ _ _ k2 (st1.trans st2) q⟩
def yM (i:Nat) (ve vi:VT):VTS:=fun V S=>ve S fun r S1=>(∃kvs,S1[i]?=some (od kvs))/\vi S1 fun ri S2=>∃d ms kvs,r=.d d/\get S2 ri=some (kT ms)/\S2[i]?=some (od kvs)/\kvs.length<=1000000/\V.nx (S2.set i (od (cE kvs ms d)))
theorem ot (i:Nat) (hK:X.K=K) (hu:X.A.units+64 < KG) (ho:PE X o (cA i)) (h:VE K X true e te va) (hi:VE K X false ie ti vi) (hs:HJ e (some (.Subscript o ie posS)) pos.line X.env=pure false:=by rfl) :
  VS K X (.Assign [.Subscript o ie posS] e pos) (yF K (cA i) ti te) (yM i va vi):=⟨by subst hK;exact vQ hu ho hi.pe h.pe hs,fun H0 Z σ H S V E k t l=>by
 refine h.snd H0 Z σ H S _ _ k t fun x H1 r S1 k1 st1 rr zr1=>?_
 obtain ⟨⟨kvs0,e0⟩,q⟩:=zr1
 obtain ⟨o1,g1,p,es0,rfl,_⟩:=k1.ownAt e0
 refine ⟨.ref p,g1,hi.snd H0 Z σ H1 S1 _ _ k1 q fun y H2 ri S2 k2 st2 rr2 zr1=>?_⟩
 obtain ⟨d,ms,kvs,er,ek,e1,hl,q2⟩:=zr1
 subst er
 obtain ⟨o2,g2,p',es,e2,h2,h3,⟨h4,h5⟩,h6⟩:=k2.ownAt e1
 rw [g1] at g2;cases g2;cases e2
 have rx:Rep K (NM Z σ S2) (FM H0 true) H2 x d:=Rep.step (show Rep K (NM Z σ S1) (FM H0 true) H1 x d from rr) st2
 have ry:∃b,y=.ref b/\SqT K H2 b (ms.map L2.V.int)/\Rep K (NM Z σ S2) AnyF H2 (.ref b) (kT ms):=by
  cases ri with
  | d z=>
   cases ek
   obtain ⟨b,vs,rfl,hq,rr⟩:=Rep.sqT (show Rep K _ _ H2 y (.tup (ms.map D.int)) from rr2)
   cases Reps.toInts rr
   exact ⟨b,rfl,hq,Rep.mono (fun _ n _=>⟨n,rfl⟩) (fun _ _=>trivial) rr2⟩
  | own j=>
   have ek:getO S2[j]?=some (kT ms):=ek
   cases es:S2[j]? with
   | none=>rw [es] at ek;cases ek
   | some s=>rw [es] at ek;cases s <;> cases ek
 obtain ⟨b,rfl,hq,rb⟩:=ry
 have hk:cD K H2 es:=dB (by rw [h4];exact h5)
 refine ⟨p,b,ms,es,rfl,rfl,SqN.of hq,h2,hk,?_,?_⟩
 ·have:es.length=kvs.length:=by have:=congrArg KH h4;simpa using this
  rw [G9];lia
 ·intro obn
  have na:NM Z σ S2 p->False:=fun n=>n (.inl ⟨i,_,e1,rfl,g1⟩)
  have hm:∀b,NM Z σ S2 b->H2 b≠none->NM Z σ S2 b/\upd H2 p (ck p obn (fC es ms b x)) b=H2 b:=fun b n _=>⟨n,aw fun z=>na (by rw [<- z];exact n)⟩
  have hm':∀c,NM Z σ S2 c->H2 c≠none->NM Z σ S2 c/\upd H2 p (ck p obn (fC es ms b x)) c=H2 c:=fun c n _=>⟨n,aw fun z=>na (by rw [<- z];exact n)⟩
  obtain ⟨z1,z2,z3⟩:=oo (k:=ms) (b:=b) (Rep.mono hm' (fun _ x=>x rfl) rx) (Rep.mono hm' (fun _ x=>x) rb) h4 (h5.mono hm' fun _ x=>x) (h6.mono hm' fun _ x=>x)
  obtain ⟨k3,st3⟩:=k2.chgD (s:=od (cE kvs ms d)) (o:=ck p obn (fC es ms b x)) e1 rfl g1 rfl ⟨p,_,rfl,⟨obn,az⟩,h3,⟨z1,z2⟩,z3⟩
  exact l.nx _ _ _ k3 ((st1.trans st2).trans st3) q2⟩
end
end VL
end
section
namespace L2
open PySem PySem.Spec PyProof.Rows
section
variable {prog:GD} {w:Hg} {A:Ho} {E:FU->FW->Prop} {s:FW}
theorem sE {c:Code} {Q:FU->FW->Prop} {R:Result->FW->Prop} (h:IK (GM prog w) A c (wants Q E) s) (ok:∀v s',Q v s'->R (.ok (.ret v)) s') (no:∀e s',E e s'->R (.error e) s'):IK (GM prog w) A c R s:=
 Kc h fun r s' z=>match r,z with
  | .error e,z=>no e s' z
  | .ok (.ret v),z=>ok v s' z
theorem lP {r:Addr} {a b c:Int} {t u v:Tok} {n:Nat} {Q:List FU->FW->Prop} (hh:A.handled=none) (hr:IsRange s.heap r a b c t u v) (hs:Je a b c=true) (hn:Gp a b c=n) (hl:n<=2 ^ 24)
    (h:∀(h':Heap) (tk:Nat) (acc:Array FU),(∀b o,s.heap.get? b=some o->h'.get? b=some o)->Mn (fun i v=>∃t,v=.int (a+i*c) t) acc n->Q acc.toList { s with heap:=h',toks:=tk }) :
    GU (GM prog w) A (collect (.ref r)) Q E s:=by
  have e0:(s.heap.push { cls:=.type "list",data:=.seq ([]:List FU).toArray }).get? s.heap.objs.size=some { cls:=.type "list",data:=.seq #[] 0 }:=Gn _ rfl
  have ext:=wpAny_extend_range (prog:=prog) (w:=w) (A:=A) (s:={ s with heap:=s.heap.push { cls:=.type "list",data:=.seq ([]:List FU).toArray } })
    (R:=wants (fun v s'=>v=.ref s.heap.objs.size/\∃(h':Heap) (tk:Nat) (acc:Array FU) (k:Nat),s'={ s with heap:=h',toks:=tk }/\(∀b o,s.heap.get? b=some o->h'.get? b=some o) /\
      h'.get? s.heap.objs.size=some { cls:=.type "list",dict:=none,data:=.seq acc k,slots:=#[] }/\Mn (fun i v=>∃t,v=.int (a+i*c) t) acc n) E)
    hh (FT _ hr) hs hn hl s.heap.objs.size (.ref s.heap.objs.size) 0 e0 fun h' tk acc k old new its=>
      ⟨rfl,h',tk,acc,k,rfl,fun b o e=>old b o (GO (Gg e)) (FT _ e),new,its⟩
  apply FR
  apply wpAny_runValue
  refine sE (Q:=fun v s'=>v=.ref s.heap.objs.size/\∃(h':Heap) (tk:Nat) (acc:Array FU) (k:Nat),s'={ s with heap:=h',toks:=tk }/\(∀b o,s.heap.get? b=some o->h'.get? b=some o) /\
      h'.get? s.heap.objs.size=some { cls:=.type "list",dict:=none,data:=.seq acc k,slots:=#[] }/\Mn (fun i v=>∃t,v=.int (a+i*c) t) acc n) ?_ (fun v s' z=>?_) fun _ _ e=>e
  · apply J3 F.entry_proto_collect
    rw [JL F.plain_proto_collect]
    wp_walk
    constructor
    · exact plainId_quiet F.plain_list_iadd _
    apply J3 F.entry_list_iadd
    rw [JL F.plain_list_iadd]
    exact ext
  · obtain ⟨rfl,h',tk,acc,k,rfl,old,new,its⟩:=z
    wp_walk
    exact h h' tk acc old its
theorem pP {r:Addr} {a b c:Int} {t u v:Tok} {n:Nat} {Q:FU->FW->Prop} (hh:A.handled=none) (hr:IsRange s.heap r a b c t u v) (hs:Je a b c=true) (hn:Gp a b c=n) (hl:n<=2 ^ 24)
  (h:∀(h':Heap) (tk:Nat) (acc:Array FU),(∀b o,s.heap.get? b=some o->h'.get? b=some o)->Mn (fun i v=>∃t,v=.int (a+i*c) t) acc n ->
   Q (.ref h'.objs.size) { s with heap:=h'.push { cls:=.type "tuple",data:=.seq acc },toks:=tk }) :
  GU (GM prog w) A (call (.type "tuple") [.ref r]) Q E s:=by
 have meets:MeetsIn prog w (Builtin.«tuple.__new__» ⟨[.type "tuple",.ref r],[]⟩) fun A R s=>A.handled=none/\IsRange s.heap r a b c t u v/\∀(h':Heap) (tk:Nat) (acc:Array FU),(∀b o,s.heap.get? b=some o->h'.get? b=some o) ->
   Mn (fun i v=>∃t,v=.int (a+i*c) t) acc n->R (.ok (.ret (.ref h'.objs.size))) { s with heap:=h'.push { cls:=.type "tuple",data:=.seq acc },toks:=tk }:=
  .of_wp fun A R s zq1=>by
   obtain ⟨hh,hr,h⟩:=zq1
   have i1:=sub_tuple_self
   have i2:=init_tuple_lookup
   have i3:=madeHere_tuple
   have ty:s.TypeIs (.ref r) "range":=⟨_,hr,rfl⟩
   wp_walk using lP (A:=A.in1) hh hr hs hn hl
   intro h' tk acc old its
   have z:acc.toList.toArray.size<=GG:=by rw [Ly,its.1,G9];lia
   refine FR (F7 ?_)
   show GU _ _ (Builtin.Tuple.tupleExact acc.toList.toArray >>= ret) _ _ _
   refine FR (HC (T:="tuple") (data:=.seq acc.toList.toArray) (hd:=z) (F7 ⟨_,rfl,?_⟩))
   rw [Ly]
   exact h h' tk acc old its
 exact callType_newIn F.called_tuple (by decide) (F.typeCall_tuple_1 _) (F.newCall_tuple_1 _) (fun _=>F.args_object_init_2 _ _) F.entry_tuple_new meets
  ⟨hh,hr,fun h' tk acc old its=>⟨⟨_,Gn _ rfl,rfl⟩,h h' tk acc old its⟩⟩
end
end L2
end
section
namespace L2
open PySem PySem.Spec PyProof.Rows
def rgI (lo:Int) (n:Nat):List Int:=(FY n).map fun (i:Nat)=>lo+(i:Int)
theorem m4 {lo:Int} {n:Nat} {acc:Array FU} (h:Mn (fun i v=>∃t,v=.int (lo+i*1) t) acc n):Vals ((rgI lo n).map V.int) acc.toList:=by
 have hl:acc.toList.length=n:=by simpa using h.1
 have key:∀(k:Nat) (l:List FU) (j:Nat),l.length=k->(∀i v,l[i]?=some v->∃t,v=K5 (lo+((j+i:Nat):Int)) t)->Vals ((List.range' j k).map fun (i:Nat)=>V.int (lo+(i:Int))) l:=by
  intro k
  induction k with
  | zero=>intro l j e _;rw [HA e];exact .nil
  | succ k ih=>
   intro l j e hv
   match l,e with
   | v::l,e=>
    rw [List.range'_succ,Gq]
    obtain ⟨t,rfl⟩:=hv 0 v rfl
    refine .cons ⟨t,by simp⟩ (ih l (j+1) (by simpa using e) fun i u hu=>?_)
    obtain ⟨t',e'⟩:=hv (i+1) u (by simpa using hu)
    exact ⟨t',by rw [e'];simp only [Value.int.injEq,and_true];lia⟩
 unfold rgI
 rw [GP,List.range_eq_range']
 refine key n acc.toList 0 hl fun i v hv=>?_
 obtain ⟨t,e⟩:=h.2 i v (by simpa using hv)
 exact ⟨t,by rw [e];simp only [Value.int.injEq,and_true];lia⟩
section
variable {X:Cx} {p pr pos posr:Pos} {e:Expr} {tr:TA}
theorem sF {n:Int} (hc:X.calm=true) (h1:-(2 ^ 62)<=n) (h2:n<=1000000):Je 0 n 1=true/\Gp 0 n 1=(n.toNat:Int)/\n.toNat<=2 ^ 24:=by
 refine ⟨small_one (by decide) (by decide) h1 (by lia),?_,by lia⟩
 rw [rangeSize_one]
 split <;> lia
def Es:List V->Hp->VK->Prop:=fun xs H Q=>∃n:Int,xs=[.int n]/\∀r,H r=none->Q (.ref r) (upd H r (.rng 0 n))
theorem sG:cg X (.type "range") Es:=by
 rintro pins s σ H xs us Q I r ⟨n,e,q⟩
 subst e
 obtain ⟨u,rfl,rx⟩:=vals1 r
 obtain ⟨t,rfl⟩:=rx
 refine call_range_1 ⟨.ref s.heap.objs.size,_,I.laid (a:=s.heap.objs.size) (o:=.rng 0 n) (fun _ _ q=>FT _ q) (FX _) ⟨_,_,_,Gn _ rfl⟩,rfl,q _ (I.hok.fresh (FX _))⟩
def rLR (mk:List V->HO):List V->Hp->VK->Prop:=fun xs H Q=>∃(r:Addr) (n:Int),xs=[.ref r]/\H r=some (.rng 0 n)/\-(2 ^ 62)<=n/\n<=1000000/\∀l,H l=none->Q (.ref l) (upd H l (mk ((rgI 0 n.toNat).map V.int)))
theorem lQ (hc:X.calm=true):cg X (.type "tuple") (rLR .tup):=by
 rintro pins s σ H xs us Q I rr ⟨r,n,e,hr,h1,h2,q⟩
 subst e
 obtain ⟨u,rfl,rx⟩:=vals1 rr
 cases rx
 obtain ⟨t,u,v,ho⟩:=(show br X.prog X.w H s.heap r (.rng 0 n) from I.hok r _ hr)
 obtain ⟨g1,g2,g3⟩:=sF (X:=X) hc h1 h2
 refine pP (I.ok.hd hc) ho g1 g2 g3 fun h' tk acc old its=>?_
 have I2:Inv X pins σ H { s with heap:=h',toks:=tk }:=I.kept old
 refine ⟨.ref h'.objs.size,_,I2.laid (t':=tk) (fun _ _ z=>FT _ z) (FX _) (show br X.prog X.w _ _ _ (.tup ((rgI 0 n.toNat).map V.int)) from ⟨?_,acc.toList,m4 its,_,Gn _ rfl,rfl,0,by simp⟩),rfl,q _ (I2.hok.fresh (FX _))⟩
 simp only [FV,rgI,F9,G9]
 lia
def Et (K:FO):List V->Hp->VK->Prop:=fun xs H Q=>∃(l:Addr) (ns:List Int),xs=[.ref l]/\SqL K H l (ns.map V.int)/\Q (.int ns.sum) H
theorem Eu (hK:X.K=K) (hc:X.calm=true):cg X (.builtin "sum") (Et K):=by
 rintro pins s σ H xs us Q I r ⟨l,ns,e,hq,q⟩
 subst e hK
 obtain ⟨u,rfl,rx⟩:=vals1 r
 cases rx
 obtain ⟨vs,rv,pl,_⟩:=I.list hq
 have hi:Jm vs ns:=intsAre_of rv
 obtain ⟨xs,ex⟩:=hi.allInts.items
 have hl:=pl.isList
 rw [ex] at hl
 refine PySem.sum_intListG (I.ok.hd hc) hl fun h' tk t' hk=>⟨.int ns.sum,H,I.kept hk,⟨t',?_⟩,q⟩
 have e1:=hi.numsOf
 have e2:numsOf vs.toArray.toList=numsOf (intItems xs).toList:=by rw [ex]
 rw [show vs.toArray.toList=vs by simp] at e2
 rw [e1,nums_intItems] at e2
 rw [preSum_eq,Jq (by simp),e2]
theorem Bp:G2 "sum"=some (.builtin "sum"):=by decide +kernel
theorem sH:G2 "range"=some (.type "range"):=by decide +kernel
end
end L2
end
section
namespace VL
open PySem L2
section
variable {K:FO} {X:Cx} {m:Bool} {e:Expr} {te:TE} {va vb:VT} {tr:TA} {vr:VTA} {pos p pr posr:Pos}
def Ew:List D->(D->Prop)->Prop:=fun ds q=>∃ns:List Int,ds=[.lst (ns.map .int)]/\q (.int ns.sum)
theorem Ex:iz K (Et K) Ew:=by
 rintro xs H ds q C r ⟨ns,rfl,h⟩ hc
 obtain ⟨v,rfl,rv⟩:=rep1 r
 obtain ⟨a,vs,rfl,hq,rr⟩:=rv.sqL
 cases Reps.toInts rr
 exact ⟨a,ns,rfl,hq,hc _ _ h fun _ _=>.int _⟩
theorem sI (lo:Int) (n:Nat):rg lo n=(rgI lo n).map D.int:=by unfold rg rgI;rw [GP];rfl
def vTR (vr:VTA):VT:=fun S Q=>vr S fun rs S1=>∃n:Int,rs=[.d (.int n)]/\-(2 ^ 62)<=n/\n<=1000000/\Q (.d (.tup (rg 0 n.toNat))) S1
theorem vT (hc:X.calm=true) (hg:Gl X "tuple") (hm:X.mg "tuple"=none) (hgr:Gl X "range") (hmr:X.mg "range"=none) (ha:VA K X false [e] tr vr) (he:Gi [e] X.env=[(false,eval e X.env)]:=by rfl)
  (hs:Gi [.Call (.Name "range" pr) [e] [] posr] X.env=[(false,eval (.Call (.Name "range" pr) [e] [] posr) X.env)]:=by rfl) :
  VE K X m (.Call (.Name "tuple" p) [.Call (.Name "range" pr) [e] [] posr] [] pos) (tCB (rLR .tup) (dX (tCB Es tr) i7)) (vTR vr):=
 ⟨du (lQ hc) hg hm eg (cL (du sG hgr hmr sH ha.pe (by decide) (by decide) he rfl) fx hs) (by decide) (by decide) hs rfl,fun H0 Z σ H S Q C k t hcc=>ha.snd H0 Z σ H S _ _ k t fun vs H1 rs S1 k1 st1 rrs zq1=>by
  obtain ⟨n,e1,h1,h2,q⟩:=zq1
  subst e1
  obtain ⟨v,rfl,rv⟩:=rrs.one
  cases (show Rep K _ _ H1 v (.int n) from rv)
  refine ⟨n,rfl,fun r hr=>?_⟩
  refine ⟨r,n,rfl,az,h1,h2,fun l hl=>?_⟩
  have g:=aQ (o:=.rng 0 n) hr
  have g2:=aQ (o:=.tup ((rgI 0 n.toNat).map V.int)) hl
  refine hcc (.ref l) _ (.d (.tup (rg 0 n.toNat))) S1 ((k1.grow g).grow g2) ((st1.trans (.grow g)).trans (.grow g2)) (show Rep K _ _ _ _ _ from Rep.tup ((k1.grow g).nm hl) (.inl az) ?_) q
  rw [sI]
  exact Reps.ints⟩
end
section
variable {S:List Sl} {Q:VR->List Sl->Prop} {QN:List D->List Sl->Prop} {QD:List (List Int×D)->List Sl->Prop} {W:bz} {va vb:VT} {vr:VTA} {vd:VTD}
@[irreducible] def kTR (Q:VR->List Sl->Prop):List VR->List Sl->Prop:=fun rs S1=>∃n:Int,rs=[.d (.int n)]/\-(2 ^ 62)<=n/\n<=1000000/\Q (.d (.tup (rg 0 n.toNat))) S1
theorem FI (h:vr S (kTR Q)):vTR vr S Q:=by unfold kTR at h;exact h
theorem Ey {n:Int} (h:-(2 ^ 62)<=n/\n<=1000000) (q:Q (.d (.tup (rg 0 n.toNat))) S):kTR Q [.d (.int n)] S:=by unfold kTR;exact ⟨n,rfl,h.1,h.2,q⟩
theorem Ez (h:q (.int ns.sum)):Ew [.lst (ns.map .int)] q:=⟨ns,rfl,h⟩
theorem Bq (h:QD [] S):yJ S QD:=h
@[irreducible] def ou (Q:VR->List Sl->Prop):List (List Int×D)->List Sl->Prop:=fun kvs S1=>Q (.d (dc kvs)) S1
theorem Br (h:vd S (ou Q)):yK vd S Q:=by unfold ou at h;exact h
theorem vU (h:Q (.d (dc kvs)) S):ou Q kvs S:=by unfold ou;exact h
@[irreducible] def ow (i:Nat) (W:bz):List (List Int×D)->List Sl->Prop:=fun kvs S1=>i < S1.length/\W.nx (S1.set i (od kvs))
theorem Bs {i:Nat} (h:vd S (ow i W)):yL i vd W S:=by unfold ow at h;exact h
theorem vV {i:Nat} (e:MN (i+1) S.length=true) (h:W.nx (S.set i (od kvs))):ow i W kvs S:=by unfold ow;exact ⟨GI e,h⟩
@[irreducible] def ox (i:Nat) (vi:VT) (W:bz):VR->List Sl->Prop:=fun r S1=>(∃kvs,S1[i]?=some (od kvs))/\vi S1 fun ri S2=>∃d ms kvs,r=.d d/\get S2 ri=some (kT ms)/\S2[i]?=some (od kvs)/\kvs.length<=1000000/\W.nx (S2.set i (od (cE kvs ms d)))
@[irreducible] def kh (i:Nat) (r:VR) (W:bz):VR->List Sl->Prop:=fun ri S2=>∃d ms kvs,r=.d d/\get S2 ri=some (kT ms)/\S2[i]?=some (od kvs)/\kvs.length<=1000000/\W.nx (S2.set i (od (cE kvs ms d)))
theorem Bt {i:Nat} {vi:VT} (h:va S (ox i vi W)):yM i va vi W S:=by unfold ox at h;exact h
theorem vW {i:Nat} {vi:VT} (e:S[i]?=some (od kvs)) (h:vi S (kh i r W)):ox i vi W r S:=by unfold ox;unfold kh at h;exact ⟨⟨kvs,e⟩,h⟩
theorem lR {i:Nat} {ri:VR} (e1:get S ri=some (kT ms)) (e2:S[i]?=some (od kvs)) (hl:kvs.length<=1000000) (h:W.nx (S.set i (od (cE kvs ms d)))):kh i (.d d) W ri S:=by unfold kh;exact ⟨d,ms,kvs,rfl,e1,e2,hl,h⟩
theorem sJ {neg:Bool} {d1 d2:D} (e1:d1=kT ms) (e2:d2=dc kvs) (h:q (.bl (if neg then !decide (ms∈kvs.map (·.1)) else decide (ms∈kvs.map (·.1))))):Er neg d1 d2 q:=⟨ms,kvs,e1,e2,h⟩
end
theorem ki {α:Type} [DecidableEq α] {n:Nat} {f:α->D} (e:Enc n f) {x:α} {l:List α} (h:q (.bl (decide (x∈l)))) (hn:n+1<=40:=by decide):Dr false (f x) (.tup (l.map f)) q:=⟨_,.inr rfl,e.okd (by lia) x,e.lst.okd hn l,by simpa only [e.any,HE,if_false] using h⟩
theorem pQ {ve:VT} {A:D->List Sl->Prop} {B:List Sl->Prop} (h:B S):dh ve A B false S:=dA (fun e=>nomatch e) fun _=>h
section
variable {K:FO} {X:Cx} {e:Expr} {te:TE} {va:VT} {pos pos':Pos} {x:Str}
theorem aH {i:Nat} (hN:X.N.Nodup) (hi:X.N[i]?=some x) (hx:Loc X.env.scope x) (h:VE K X false e te va) (hs:HJ e (some (.Name x pos')) pos.line X.env=pure false:=by rfl)
  (hf:X.fn x=true\/X.env.scope.names.lookup x=some .local:=by first | exact .inl rfl | exact .inr rfl | assumption):VS K X (.Assign [.Name x pos'] e pos) (cQ te (aX i)) (lB va (vgN i)):=AE (fun _ h=>bP hN hi hx h hs hf) h
end
end VL
end
section
namespace L2
open PySem PySem.Spec PyProof.Rows
def Bu (lo c:Int) (n:Nat):It:=⟨fun i _=>i < n,fun i H x H'=>H'=H/\x=.int (lo+i*c),fun i _=>n<=i⟩
theorem lS {P:GD} {w:Hg} {tg:Expr} (it:Addr) (lo c:Int) (n:Nat):Turn P w K tg (Bu lo c n) [it] it (fun i h=>LM h it (lo+(i:Nat)*c) ((n:Int)-(i:Nat)) c) where
 mem:=by simp
 obj:=fun i h st b hb=>by
  have e:b=it:=by simpa using hb
  subst e
  exact ⟨_,st,fun v z=>by
   have z':MK _=Ji v:=z
   cases z'⟩
 keep:=fun i h h' st k=>k it (by simp) _ st
 item:=by
  intro X hP hw hK hc i pins s σ H E I hf st hg
  subst hP hw hK
  obtain ⟨f0,f1,f2,f3,f4,f5⟩:=hf it (by simp)
  have W:=Walks.range (prog:=X.prog) (w:=X.w) (I.ok.hd hc) it lo c n
  refine W.item i s _ _ hg st fun v h' tk hv st' kk=>?_
  obtain ⟨t,rfl⟩:=hv
  have I1:Inv X pins σ H { s with heap:=h',toks:=tk }:=I.turned (fun b o hb e=>kk b o (by simpa using hb) e) f0 f1 f3 f4 f5
  exact ⟨_,rfl,kU (s:={ s with heap:=h',toks:=tk }) (n:="range_iterator") st' rfl rfl (by decide) ⟨.int (lo+i*c),H,I1,⟨t,rfl⟩,⟨rfl,rfl⟩,st',fun b hb=>(hf b hb).1⟩⟩
 done:=by
  intro X hP hw hK hc i pins s σ H E I hf st hg
  subst hP hw hK
  obtain ⟨f0,f1,f2,f3,f4,f5⟩:=hf it (by simp)
  exact KW (I.ok.hd hc) st (by have:n<=i:=hg;lia) fun h' eb=>⟨rfl,I.turned (t':=s.toks) (fun b o hb e=>eb b o hb e) f0 f1 f3 f4 f5⟩
 self:=fun _ _ _ _ _ st h=>KY st h
section
variable {X:Cx} {tg:Expr}
def yN (ta:TA):TI:=fun σ H R=>ta σ H fun vs H1=>∃i j c:Int,vs=[.int i,.int j,.int c]/\(-1000000<=i/\i < 1000000/\-1000000<=j/\j < 1000000/\0 < c/\c < 1000)/\R (Bu i c (Gp i j c).toNat) H1
theorem pR {a b c:Expr} {ta:TA} {p pos:Pos} (hg:Gl X "range") (hm:X.mg "range"=none) (ha:PA X [a,b,c] ta) (hs:Gi [a,b,c] X.env=[(false,eval a X.env),(false,eval b X.env),(false,eval c X.env)]:=by rfl) (hs2:Gi [b,c] X.env=[(false,eval b X.env),(false,eval c X.env)]:=by rfl) :
  PI X tg (.Call (.Name "range" p) [a,b,c] [] pos) (yN ta):=by
 intro pins s σ H R I h
 refine Call_ (d7 I hg hm MU (Hs (thn (ha pos pins s σ H _ I h) fun us s1 ⟨vs,H1,I1,r1,q1⟩=>?_) (by rw [hs,hs2]) (by rw [hs2];rfl)))
 obtain ⟨lo,hi,c,e,⟨h1,h2,h3,h4,h5,h6⟩,q⟩:=q1
 subst e
 cases r1 with
 | cons r rr=>
  cases rr with
  | cons r' rr=>
   cases rr with
   | cons r'' rr=>
    cases rr
    obtain ⟨t,rfl⟩:=r
    obtain ⟨u,rfl⟩:=r'
    obtain ⟨v,rfl⟩:=r''
    refine call_range_3 (by lia) ?_ (Gf (KZ (by lia)))
    have hn:0<=Gp lo hi c:=by
     unfold Gp
     rw [if_pos h5]
     split
     ·have:=HR (a:=hi-lo-1) (b:=c) (by lia) (by lia)
      lia
     ·lia
    refine L0 (IsRange.new ..) (by
     have hb:Gp lo hi c<=2000001:=by
      unfold Gp
      rw [if_pos h5]
      split
      ·have:=Int.ediv_le_self (a:=hi-lo-1) c (by lia)
       lia
      ·lia
     have hm:(Gp lo hi c)*c<=2000001*1000:=Int.mul_le_mul hb (by lia) (by lia) (by lia)
     unfold Je
     simp only [Builtin.Range.rangeFitsLong,GC,Bool.or_eq_true,decide_eq_true_eq,beq_iff_eq]
     generalize Gp lo hi c=sz at *
     refine ⟨by lia,.inr ?_⟩
     rw [if_pos (by lia),GC,decide_eq_true_eq,decide_eq_true_eq]
     lia) ?_
    have I2:Inv X pins σ H1 { s1 with heap:=s1.heap.push { cls:=.type "range",data:=.fields #[.int lo t,.int hi u,.int c v] },toks:=s1.toks }:=I1.kept fun b o e=>FT _ e
    refine ⟨(s1.heap.push { cls:=.type "range",data:=.fields #[.int lo t,.int hi u,.int c v] }).objs.size,[(s1.heap.push { cls:=.type "range",data:=.fields #[.int lo t,.int hi u,.int c v] }).objs.size],_,_,H1,rfl,
     I2.kept (t':=s1.toks) fun b o e=>FT _ e,lS _ lo c (Gp lo hi c).toNat,?_,fun b hb=>?_,q⟩
    ·have e1:lo+((0:Nat):Int)*c=lo:=by simp
     have e2:(((Gp lo hi c).toNat:Nat):Int)-((0:Nat):Int)=Gp lo hi c:=by lia
     show LM _ _ (lo+((0:Nat):Int)*c) ((((Gp lo hi c).toNat:Nat):Int)-((0:Nat):Int)) c
     rw [e1,e2]
     exact Gn _ rfl
    ·have e:b=(s1.heap.push { cls:=.type "range",data:=.fields #[.int lo t,.int hi u,.int c v] }).objs.size:=by simpa using hb
     subst e
     exact I2.fpOk (FX _) (I2.hok.fresh (FX _))
end
end L2
namespace VL
open PySem L2
section
variable {K:FO} {X:Cx} {a b c tg:Expr} {tr:TA} {vr:VTA} {p pos:Pos}
def rg3 (lo c:Int) (n:Nat):List D:=(FY n).map fun (i:Nat)=>D.int (lo+(i:Int)*c)
theorem vX {lo c:Int} {n:Nat}:Gd K Z (Bu lo c n) (rg3 lo c n) σ S H:=fun σ2 S2 H2 _ st2 i=>by
 have e:(rg3 lo c n).length=n:=by simp [rg3]
 rw [e]
 refine ⟨fun h=>h,fun x H3 zt1 hi=>by obtain ⟨e,hx⟩:=zt1;exact ⟨fun _ _=>by rw [e],.int (lo+(i:Int)*c),by simp [rg3,hi],by rw [hx];exact .int _⟩,fun h=>by rw [h];exact FX _⟩
def EA (vr:VTA):VTN:=fun S Q=>vr S fun rs S1=>∃i j c:Int,rs=[.d (.int i),.d (.int j),.d (.int c)]/\(-1000000<=i/\i < 1000000/\-1000000<=j/\j < 1000000/\0 < c/\c < 1000)/\Q (rg3 i c (Gp i j c).toNat) S1
theorem pS (hg:Gl X "range") (hm:X.mg "range"=none) (ha:VA K X false [a,b,c] tr vr) (hs:Gi [a,b,c] X.env=[(false,eval a X.env),(false,eval b X.env),(false,eval c X.env)]:=by rfl) (hs2:Gi [b,c] X.env=[(false,eval b X.env),(false,eval c X.env)]:=by rfl):VI K X tg (.Call (.Name "range" p) [a,b,c] [] pos) (yN tr) (EA vr):=⟨pR hg hm ha.pe hs hs2,fun H0 Z σ H S Q C k t hc=>
 ha.snd H0 Z σ H S _ _ k t fun vs H1 rs S1 k1 st1 rrs zq1=>by
  obtain ⟨i,j,c,e,h1,q⟩:=zq1
  subst e
  cases rrs with
  | cons r t=>
   cases t with
   | cons r' t=>
    cases t with
    | cons r'' t=>
     cases t
     cases (show Rep K _ _ H1 _ (.int i) from r)
     cases (show Rep K _ _ H1 _ (.int j) from r')
     cases (show Rep K _ _ H1 _ (.int c) from r'')
     exact ⟨i,j,c,rfl,h1,hc _ _ H1 S1 k1 st1 vX q⟩⟩
variable {S:List Sl} {QN:List D->List Sl->Prop}
@[irreducible] def vY (QN:List D->List Sl->Prop):List VR->List Sl->Prop:=fun rs S1=>∃i j c:Int,rs=[.d (.int i),.d (.int j),.d (.int c)]/\(-1000000<=i/\i < 1000000/\-1000000<=j/\j < 1000000/\0 < c/\c < 1000)/\QN (rg3 i c (Gp i j c).toNat) S1
theorem EB (h:vr S (vY QN)):EA vr S QN:=by unfold vY at h;exact h
theorem Bv {i j c:Int} (h1:-1000000<=i/\i < 1000000/\-1000000<=j/\j < 1000000/\0 < c/\c < 1000) (h:QN (rg3 i c (Gp i j c).toNat) S):vY QN [.d (.int i),.d (.int j),.d (.int c)] S:=by unfold vY;exact ⟨i,j,c,rfl,h1,h⟩
end
end VL
end
section
namespace VL
open PySem L2
section
variable {S:List Sl} {Q:VR->List Sl->Prop} {va vb:VT} {vn:VTN}
theorem EC {x y:Str} (h:q (.bl (!decide (x=y)))):wNe (.str x) (.str y) q:=⟨.str x,.str y,rfl,rfl,rfl,by simpa using h⟩
end
end VL
end
section
namespace L2
open PySem PySem.Spec PyProof.Rows
section
variable {X:Cx}
def ED (K:FO):V->Hp->VK->Prop:=fun x H Q=>∃a xs,x=.ref a/\SqL K H a xs/\∀p,H p=none->Q (.ref p) (upd H p (.lst xs.reverse))
variable {e st:Expr} {te ts:TE} {p2 pos:Pos}
theorem Bw {j:Nat} {q1 q2:Pos} (he:PE X e te) (hst:PE X (.UnaryOp .USub (.Constant (.int 1) j q1) q2) (fun _ H Q=>Q (.int (-1)) H)):PE X (.Subscript e (.Slice none none (some (.UnaryOp .USub (.Constant (.int 1) j q1) q2)) p2) pos) (fun σ H Q=>te σ H fun x H1=>ED X.K x H1 Q):=by
 intro pins s σ H Q I h
 refine Subscript_ (thn (he pins s σ H _ I h) fun v s1 zr1=>?_)
 obtain ⟨x,H1,I1,r1,q1⟩:=zr1
 refine wpAny_Slice ?_
 rw [evalPart_none]
 apply F7
 apply F7
 rw [evalPart_some]
 refine thn (hst pins s1 σ H1 (fun y H2=>y=.int (-1)/\H2=H1) I1 ⟨rfl,rfl⟩) fun vk s3 zr1=>?_
 obtain ⟨y,H3,I3,r3,e3,e4⟩:=zr1
 subst e3;subst e4
 obtain ⟨t,rfl⟩:=r3
 obtain ⟨a,xs,rfl,hx,q⟩:=q1
 cases r1
 have I4:Inv X pins σ H3 { s3 with heap:=s3.heap.push { cls:=.type "slice",data:=.fields #[.none,.none,.int (-1) t] } }:=I3.kept (t':=s3.toks) fun b ob q=>FT _ q
 obtain ⟨its,r,ht,hz⟩:=I4.list hx
 have hlen:=r.length
 show GU (GM X.prog X.w) X.A (subscriptTail e (.Slice none none (some (.UnaryOp .USub (.Constant (.int 1) j q1) q2)) p2) (.ref a) (.ref s3.heap.objs.size)) (EP X pins σ Q) X.xe { s3 with heap:=s3.heap.push { cls:=.type "slice",data:=.fields #[.none,.none,.int (-1) t] } }
 refine M7 (ops:=[.ref a,.ref s3.heap.objs.size]) ht.isList.typeIs slot_list_getitem.lookup ?_ (by with_unfolding_all rfl)
 refine wpAny_getItem_list_slice ht.isList (Heap.IsSliceOf.new ..) .none .none (.int (-1) t) (by simp) ?_ (by rw [Ge] <;> lia)
 rw [PySem.W.krv_pick]
 refine ⟨.ref _,_,I4.laid (t':=s3.toks) (o:=.lst xs.reverse) (fun b ob q=>FT _ q) (FX _) ?_,rfl,q _ (I4.hok.fresh (FX _))⟩
 refine ⟨by rw [J4];exact hz,its.reverse,0,r.reverse,?_⟩
 exact Gn _ rfl
theorem EE {p q:Pos} {j:Nat}:PE X (.UnaryOp .USub (.Constant (.int 1) j p) q) (fun _ H Q=>Q (.int (-1)) H):=
 fun pins s σ H Q I h=>(yg bI mD) pins s σ H Q I ⟨1,rfl,h⟩
end
end L2
namespace VL
open PySem L2
section
variable {K:FO} {X:Cx} {m:Bool} {e st:Expr} {te ta:TE} {va vb:VT} {tr:TA} {vr:VTA} {pos p p1 p2 pos2:Pos}
def EF (va:VT):VTN:=fun S Q=>va S fun r S1=>∃ds,get S1 r=some (.lst ds)/\flats ds=true/\Q ds.reverse S1
theorem jx:∀{ds es:List D},flats ds=true->flats es=true->flats (ds++es)=true
 | [],_,_,h=>h
 | d::r,es,h,h2=>by simp only [flats,GC,GS] at h ⊢;exact ⟨h.1,jx h.2 h2⟩
theorem jy:∀{ds:List D},flats ds=true->flats ds.reverse=true
 | [],_=>rfl
 | d::r,h=>by
  simp only [flats,GC] at h
  rw [Jt]
  exact jx (jy h.2) (by simp [flats,h.1])
theorem By {j:Nat} {q1 q2:Pos} (hK:X.K=K) (h:VE K X false e te va):VN K X (.Subscript e (.Slice none none (some (.UnaryOp .USub (.Constant (.int 1) j q1) q2)) p2) pos) (fun σ H Q=>te σ H fun x H1=>ED K x H1 Q) (EF va):=
 ⟨by subst hK;exact Bw h.pe EE,fun H0 Z σ H S Q C k t hc=>h.snd H0 Z σ H S _ _ k t fun v H1 r S1 k1 st1 rr zq1=>by
  obtain ⟨ds,e,f,q⟩:=zq1
  obtain ⟨a,vs,rfl,hq,rs⟩:=rr.elems k1 e
  exact ⟨a,vs,rfl,hq,fun p hp=>hc p _ _ H1 _ S1 k1 st1 hp (aQ hp) az (eX hp rs.rev (jy f)) q⟩⟩
end
section
variable {S:List Sl} {Q:VR->List Sl->Prop} {QN:List D->List Sl->Prop} {va vb:VT} {vr:VTA}
@[irreducible] def vZ (QN:List D->List Sl->Prop):VR->List Sl->Prop:=fun r S1=>∃ds,get S1 r=some (.lst ds)/\flats ds=true/\QN ds.reverse S1
theorem EG (h:va S (vZ QN)):EF va S QN:=by unfold vZ at h;exact h
theorem BA (e:get S r=some (.lst ds)) (f:flats ds=true) (h:QN ds.reverse S):vZ QN r S:=by unfold vZ;exact ⟨ds,e,f,h⟩
end
end VL
end
section
namespace L2
open PySem PySem.Spec PyProof.Rows PySem.W
structure Flies (P:GD) (w:Hg) (outer:List Env) (H:Hp) (s:FW) (x:Addr) (cls a0:FU) (B:Heap) (H':Hp) (s':FW):Prop where
 os:s'.os=s.os
 bare:Kk s'.gens
 fly:Heap.FlyingW B outer x cls a0 s'.heap
 frm:∀b∈frs outer,∀o,s.heap.get? b=some o->∃sl,s'.heap.get? b=some { o with slots:=sl }
 hok:HOk P w H' B
 cov:∀b o,s.heap.get? b=some o->H b=none->b∉frs outer->B.get? b=some o
 same:∀b,H b≠none->H' b=H b
 free:∀b o,s.heap.get? b=some o->H b=none->H' b=none
 new:s.heap.get? x=none
def CX1 (P:GD) (w:Hg):CXT:=fun outer H s E e s'=>∃x cls a0 B H',e=.ref x/\Flies P w outer H s x cls a0 B H' s'/\E cls none H'
section
variable {P:GD} {w:Hg} {outer:List Env} {H H':Hp} {s s':FW} {x:Addr} {cls a0:FU} {B:Heap}
theorem Flies.hok' (f:Flies P w outer H s x cls a0 B H' s'):HOk P w H' s'.heap:=f.hok.kept f.fly.1
theorem Flies.un (f:Flies P w outer H s x cls a0 B H' s'):Un (frs outer) [] H H' s.heap s'.heap where
 keep:=fun b o e n nb _=>f.fly.1 b o (f.cov b o e n nb)
 slot:=fun b o e _ hb _=>f.frm b hb o e
 free:=fun b o e n _=>f.free b o e n
 there:=fun b o e _=>by
  cases n:H b with
  | none=>
   by_cases hb:b∈frs outer
   ·obtain ⟨sl,q⟩:=f.frm b hb o e
    exact ⟨_,q⟩
   ·exact ⟨o,f.fly.1 b o (f.cov b o e n hb)⟩
  | some u=>exact br.there (f.hok' b u (by rw [f.same b (by rw [n];simp)];exact n))
 tups:=fun b xs e=>by rw [f.same b (by rw [e];simp)];exact e
 frzs:=fun b o u e=>by rw [f.same b (by rw [e];simp)];exact e
 tbls:=fun b ps e=>⟨#[],by rw [f.same b (by rw [e];simp),e];simp⟩
theorem Flies.noX (f:Flies P w outer H s x cls a0 B H' s'):H' x=none:=by
 cases n:H' x with
 | none=>rfl
 | some u=>
  obtain ⟨o,e⟩:=br.there (f.hok x u n)
  rw [f.fly.2.1] at e
  cases e
theorem sL {h:Heap} {as:List Addr} (k:HOk P w H h) (hf:∀a∈as,H a=none):HOk P w H (hideAll h as):=fun b u e=>by
 have nb:∀c v,H c=some v->c∉as:=fun c v q z=>by rw [hf c z] at q;cases q
 refine (k b u e).stay (fun c v hc q=>hideAll_get _ q ?_) (fun c q=>q) fun c xs q=>q
 rcases hc with rfl | hc
 ·exact nb c u e
 ·exact nb c _ hc
end
structure eI (X:Cx) (Hin:Hp) (E:XK):Prop where
 first:∀pins σ H s h1 x cls args,Inv X pins σ H s->Heap.MadeExcOf s.heap h1 x cls args->(∀b,Hin b≠none->H b=Hin b)->E cls none H->∀tk,X.xe (.ref x) { s with heap:=h1,toks:=tk }
 next:∀pins σ H s e s',Inv X pins σ H s->CX1 X.prog X.w X.stack H s (fun c _ H'=>(∀b,Hin b≠none->H' b=Hin b)/\E c none H') e s'->X.xe e s'
section
variable {P:GD} {w:Hg} {K:FO} {mg:Str->Option FU} {base:Heap} {N:List Str} {qual:Str} {scope:IR} {f:Addr} {cd:FU} {A:Ho} {outer:List Env} {s:FW} {H:Hp} {E:XK}
theorem pT:eI (gI (CX1 P w) P w K mg base N qual scope f cd A outer s H E) H E where
 first:=fun pins σ Hc sr h1 x cls args I hx fr he tk=>by
  have nf:∀b∈frs outer,∀o,s.heap.get? b=some o->∀vs,o.data≠.fields vs:=fun b hb o e=>by
   obtain ⟨_,o',e',n⟩:=I.ok.funs.mem hb
   have e':s.heap.get? b=some o':=e'
   rw [e] at e';cases e'
   exact n
  refine wpAny_leaves_madeW (base:=hideAll sr.heap (frs (envOfC qual scope s.heap.objs.size f cd::outer))) I.ok.frames rfl (fun b o q=>of_hideAll _ q) (funFrames_hide I.stack fun env he a ha=>List.mem_filterMap.mpr ⟨env,he,ha⟩) hx fun h' t fl _ _ up=>?_
  refine ⟨x,cls,.ref t,_,Hc,rfl,⟨I.os,I.bare,fl,fun b hb o e=>?_,sL I.hok I.stkFree,fun b o e n nb=>?_,fr,fun b o e n=>?_,?_⟩,he⟩
  ·obtain ⟨sl,q⟩:=I.base.slot b o e (I.ok.frf b hb) hb (by intro z;cases z)
   obtain ⟨sl',q'⟩:=up b _ (hx.keeps _ _ q) (nf b hb o e)
   exact ⟨sl',q'⟩
  ·refine hideAll_get _ (I.base.keep b o e n nb (by intro z;cases z)) fun z=>?_
   rcases List.mem_cons.mp (I.stkSub b z) with e' | z
   ·have lt:=Gg e
    have ab:s.heap.objs.size<=b:=e'▸I.ok.above
    exact absurd lt (Nat.not_lt.mpr ab)
   ·exact nb z
  ·exact I.base.free b o e n (by intro z;cases z)
  ·cases q:s.heap.get? x with
   | none=>rfl
   | some o=>
    obtain ⟨o',e'⟩:=I.base.there x o q (by intro z;cases z)
    rw [hx.new] at e'
    cases e'
 next:=fun pins σ Hc sr e s' I h=>by
  obtain ⟨x,cls,a0,B,H',rfl,F,fr,he⟩:=h
  have nf:∀b∈frs outer,∀o,s.heap.get? b=some o->∀vs,o.data≠.fields vs:=fun b hb o e=>by
   obtain ⟨_,o',e',n⟩:=I.ok.funs.mem hb
   have e':s.heap.get? b=some o':=e'
   rw [e] at e';cases e'
   exact n
  refine wpAny_leaves_onW I.ok.frames rfl F.fly fun h' fl up=>?_
  have sub:∀b∈frs outer,b∈frs (envOfC qual scope s.heap.objs.size f cd::outer):=fun b hb=>by
   obtain ⟨env,h1,h2⟩:=List.mem_filterMap.mp hb
   exact List.mem_filterMap.mpr ⟨env,GB _ h1,h2⟩
  refine ⟨x,cls,a0,B,H',rfl,⟨F.os.trans I.os,F.bare,fl,fun b hb o e=>?_,F.hok,fun b o e n nb=>?_,fr,fun b o e n=>?_,?_⟩,he⟩
  ·obtain ⟨sl,q⟩:=I.base.slot b o e (I.ok.frf b hb) hb (by intro z;cases z)
   obtain ⟨sl1,q1⟩:=F.frm b (sub b hb) _ q
   obtain ⟨sl2,q2⟩:=up b _ q1 (nf b hb o e)
   exact ⟨sl2,q2⟩
  ·refine F.cov b o (I.base.keep b o e n nb (by intro z;cases z)) (I.base.free b o e n (by intro z;cases z)) fun z=>?_
   rcases List.mem_cons.mp (I.stkSub b z) with e' | z
   ·have lt:=Gg e
    have ab:s.heap.objs.size<=b:=e'▸I.ok.above
    exact absurd lt (Nat.not_lt.mpr ab)
   ·exact nb z
  ·obtain ⟨o',e'⟩:=I.base.there b o e (by intro z;cases z)
   exact F.free b o' e' (I.base.free b o e n (by intro z;cases z))
  ·cases q:s.heap.get? x with
   | none=>rfl
   | some o=>
    obtain ⟨o',e'⟩:=I.base.there x o q (by intro z;cases z)
    rw [F.new] at e'
    cases e'
end
theorem BB {K:Frag} {h:Heap} {mg:Str->Option FU} {x:Str} {C:Addr} {bmB:List FU} {newId:String} (X:K.In h) (hm:mg x=some (.ref C)) (q:excIn K C bmB newId=true):OwnCls x C bmB newId mg h:=by
 unfold excIn at q
 cases hl:K.lookup C with
 | none=>rw [hl] at q;cases q
 | some o=>
  rw [hl] at q
  split at q
  case h_2=>cases q
  case h_1 dd cd sl e=>
  cases e
  split at q
  case h_2=>cases q
  case h_1 C' bm k0 k1 k2 k3 n k5 hm' hs=>
  have hh:=X _ _ hl
  simp only [GC,beq_iff_eq,Mp] at q
  obtain ⟨⟨⟨⟨⟨q1,q2⟩,q3⟩,q4⟩,q5⟩,q6⟩:=q
  cases cd
  cases q1;cases q2
  simp only at hm' q3 q5 q6
  cases hm';cases q3
  rw [show sl=#[k0,k1,k2,k3,some (.builtin _),k5] from Array.toList_inj.mp hs] at hh
  exact ⟨hm,_,_,_,_,_,_,_,_,_,_,_,_,_,_,_,_,_,hh,.of_isNs (isNs_of_in X q5),nsMap_none_of_in X q5 q6,tail_of_in X q4⟩
section
variable {X:Cx} {Hin:Hp} {E:XK} {C:Addr} {bmB:List FU} {B newId initId:String} {x:Str} {z:Str} {j:Nat} {np p cpos pos:Pos}
def sM (Hin:Hp) (E:XK) (C:Addr):TS:=fun _ _ H=>(∀b,Hin b≠none->H b=Hin b)/\E (.ref C) none H
theorem sN (T:eI X Hin E) (FB:ExcBaseFacts B newId initId bmB) (ec:excIn X.K C bmB newId=true) (hm:X.mg x=some (.ref C)) (hc:X.calm=true) (hg:Gl X x:=by rfl) (hd:(x==("__debug__":Str))=false:=by decide)
  (he:Gi [.Constant (.str z) j p] X.env=[(false,eval (.Constant (.str z) j p) X.env)]:=by rfl) :
  PS X (.Raise (some (.Call (.Name x np) [.Constant (.str z) j p] [] cpos)) none pos) (sM Hin E C):=by
 rintro pins s σ H D I ⟨fr,ec'⟩
 have O:OwnCls x C bmB newId X.mg s.heap:=BB I.kIn hm ec
 obtain ⟨tl,N,nm,q,bs,hdct,sn,sub,ab,col,dd,k0,k1,k2,k3,k5,mN,hC,hN,hni,TL⟩:=O.obj
 refine wpAny_Raise_call_subT (mN:=mN) (nm:=nm) (q:=q) (C:=C) (N:=N) (bs:=bs) (bm:=tl) (hdct:=hdct) (sn:=sn) (sub:=sub) (ab:=ab) (col:=col) (dd:=dd) (k0:=k0) (k1:=k1) (k2:=k2) (k3:=k3) (k5:=k5) FB (TL.hasType FB.hasBase) (I.ok.hd hc) (by rw [he];rfl) hni (fH I hg hm ⟨rfl,?_⟩ hd)
 rw [he]
 refine Lx ?_
 refine L4 (LX (k:=j) (pos:=p) (Mf ⟨rfl,?_,hC,hN,TL,fun h' e mk=>?_⟩))
 ·show 1<=GG
  rw [G9];lia
 ·exact T.first pins σ H s h' e (.ref C) _ I mk fr ec' _
end
section
open Builtin Builtin.ObjectAttr Builtin.Getset_descriptor
def gM (K:Frag) (C:Addr):Bool:=(findIn K (.ref C) "__getattribute__"==some (some (.builtin "BaseException.__getattribute__")))&&(findIn K (.ref C) "__getattr__"==some none)&&(findIn K (.ref C) "__class__"==some (some (.builtin "object.__class__"))) &&
 (specialIn K (.builtin "object.__class__") "__get__"==some (some (.builtin "getset_descriptor.__get__")))&&(takesIn K (.builtin "object.__class__")==some true)&&(mroIn K C (.type "object")==some true)&&(mroIn K C (.type "BaseException")==some true)
section
variable {prog:GD} {w:Hg} {A:Ho} {E:FU->FW->Prop} {s:FW} {K:Frag} {x C:Addr} {o:Obj}
theorem m5 {Q:Option FU->FW->Prop} (X:K.In s.heap) (ho:s.heap.get? x=some o) (hc:o.cls=.ref C) (ok:gM K C=true) (h:Q (some (.ref C)) { s with toks:=s.toks+1 }):GU (GM prog w) A (getAttr? (.ref x) "__class__") Q E s:=by
 obtain ⟨hp,g,d,tk,os⟩:=s
 simp only [gM,GC,beq_iff_eq] at ok
 obtain ⟨⟨⟨⟨⟨⟨o1,o2⟩,o3⟩,o4⟩,o5⟩,o6⟩,o7⟩:=ok
 have T0:Looks (GM prog w) hp (typeOf (.ref x)) (.ref C):=hc▸(Looks.ld ho).andThen .now
 have T1:=MD (M:=GM prog w) X o1
 have T2:=MD (M:=GM prog w) X o2
 have T3:Looks (GM prog w) hp (find (.ref x) (.ref C) "__class__") (.bind (.builtin "getset_descriptor.__get__") (.builtin "object.__class__")):=
  (MD X o3).andThen ((show Looks (GM prog w) hp (getOf (some (.builtin "object.__class__"))) _ from looks_specialIn X o4).andThen
   ((show Looks (GM prog w) hp (dataDescriptor? (some (.builtin "object.__class__")) (some (.builtin "getset_descriptor.__get__"))) (some (.builtin "getset_descriptor.__get__",.builtin "object.__class__")) from (looks_takesIn X o5).andThen .now).andThen (Looks.tag .now)))
 have T6:=looks_mroIn (M:=GM prog w) X o6
 have T7:Looks (GM prog w) hp (isInstance (.ref x) (.type "BaseException")) true:=T0.andThen (looks_mroIn X o7)
 have gets:∀(A:Ho) (tk:Nat),GU (GM prog w) A (call (.builtin "getset_descriptor.__get__") [.builtin "object.__class__",.ref x,.ref C]) (fun v s'=>v=.ref C/\s'=⟨hp,g,d,tk,os⟩) (fun _ _=>False) ⟨hp,g,d,tk,os⟩:=fun A tk=>by
  refine Mh (Lz KF.slot_gs.plain KF.entry_gs (KF.slot_gs.check _ _ _ _ _ _ _ _ KF.type_class (KF.args_gs _ _ _) ?_))
  simp only [Builtin.«getset_descriptor.__get__»,descrGet,dga_obj]
  refine FR (F7 ?_)
  simp only [descrGetter,descrCheckInstance,descrNameAndClass,isInstance,KF.owner_class]
  repeat lk
  exact ⟨Code.quiet_builtin _ (by decide +kernel),J3 KF.entry_class (by simp only [Builtin.«object.__class__»,shownTypeOf];(repeat lk);exact ⟨rfl,rfl⟩)⟩
 have asks:∀(A:Ho) (tk:Nat) (nt:Tok),GU (GM prog w) A (call (.builtin "BaseException.__getattribute__") [.ref x,.str "__class__" nt]) (fun v s'=>v=.ref C/\s'=⟨hp,g,d,tk,os⟩) (fun _ _=>False) ⟨hp,g,d,tk,os⟩:=fun A tk nt=>by
  have kd:builtinKind "BaseException.__getattribute__"=some .slot:=by decide +kernel
  have sp:splitId "BaseException.__getattribute__"=some ("BaseException","__getattribute__"):=by decide +kernel
  refine Mh (Lz (by decide +kernel) F.entry_bexc_ga ?_)
  simp only [checkBuiltinCall,kd,sp]
  refine FR (T7.at ?_)
  have fits:(match Manifest.signature? "BaseException.__getattribute__" with
   | some sig=>Bind.checkArgs "BaseException.__getattribute__" sig { pos:=[G0 x,MG "__class__" nt] }
   | _=>pure ())=pure ():=F.args_bexc_ga (.ref x) (.str "__class__" nt)
  simp only [Bool.not_true,HE,if_false]
  refine (show _=_ from fits)▸F7 ?_
  refine FR (F7 (FR (F7 (FR (T0.at (FR (T3.at ?_)))))))
  exact FR (Gy (gets _ tk) (fun v s' zt1=>by obtain ⟨a,b⟩:=zt1;exact F7 ⟨a,b⟩) fun _ _ z=>z.elim)
 have no:(Value.builtin "BaseException.__getattribute__"==Value.builtin "object.__getattribute__")=false:=by decide +kernel
 simp only [getAttr?,getAttrBy?,getAttrBy]
 refine FR (wpAny_mkText (FR (JO (Hn (FR (T0.at (FR (T1.at ?_))))))))
 simp only [no,Bool.and_false,HE,if_false,getAttrByItsOwn,hookBefore,onTheHeap,if_true]
 refine FR (T2.at (FR (JO (Hn ?_))))
 simp only [callGetattribute,II,HE,if_false,boundAndCalled,F.attr_ValueError.ga.bind]
 refine FR (F7 (Gy (asks A (tk+1) tk) (fun v s' zr1=>?_) fun _ _ z=>z.elim))
 obtain ⟨a,b⟩:=zr1
 subst a b
 exact handed_on rfl (F7 h)
def ExcAt (x C:Addr) (h:Heap):Prop:=∃o,h.get? x=some o/\o.cls=.ref C
theorem wb {cd:ClassData} (e:clsIn K C=some cd):∃o,K.lookup C=some o/\o.data=.cls cd:=by
 unfold clsIn at e
 split at e
 ·next c d cd' sl q=>cases e;exact ⟨_,q,rfl⟩
 ·cases e
theorem sO (hk:kitCls K (.ref C) (.ref C)=some true) (ok:gM K C=true) (hc:(clsIn K C).isSome=true):KitX K (.ref x) (.ref C) (ExcAt x C) where
 ty:=fun M h _ zt1=>by obtain ⟨o,e,c⟩:=zt1;exact c▸(Looks.ld e).andThen .now
 it:=fun M h X _=>(kit_cls X hk).2.1
 ne:=fun h tp dd its n sl X htp=>by
  obtain ⟨cd,hcd⟩:=Option.isSome_iff_exists.mp hc
  obtain ⟨o,e,d⟩:=wb hcd
  refine Bool.eq_false_iff.mpr fun q=>?_
  cases beq_iff_eq.mp q
  have z:=X _ _ e
  rw [htp] at z
  cases z
  cases d
 ca:=fun X zt1 k=>by obtain ⟨o,e,c⟩:=zt1;exact m5 X e c ok k
end
end
section
variable {X:Cx} {pins:List (Addr×Obj)} {σ:St} {H H':Hp} {s s':FW} {x:Addr} {cls a0:FU} {B:Heap}
theorem Flies.on {h':Heap} {tk:Nat} (I:Inv X pins σ H s) (f:Flies X.prog X.w X.stack H s x cls a0 B H' s') (fl:Heap.FlyingW B X.stack x cls a0 h') (up:s'.heap.UpToSlots h'):Flies X.prog X.w X.stack H s x cls a0 B H' { s' with heap:=h',toks:=tk } where
 os:=f.os
 bare:=f.bare
 fly:=fl
 frm:=fun b hb o e=>by
  obtain ⟨sl,q⟩:=f.frm b hb o e
  obtain ⟨_,o',e',n⟩:=I.stack.mem hb
  rw [e] at e';cases e'
  obtain ⟨sl',q'⟩:=up b _ q n
  exact ⟨sl',q'⟩
 hok:=f.hok
 cov:=f.cov
 same:=f.same
 free:=f.free
 new:=f.new
theorem Inv.lands (I:Inv X pins σ H s) (f:Flies X.prog X.w X.stack H s x cls a0 B H' s'):Inv X pins σ H' s':=
 I.call' (ch:=[]) f.os f.un f.hok' f.bare fun b z=>by cases z
abbrev Cx.caught (X:Cx) (x:Addr):Cx:={ X with A:=X.A.mark (some (.ref x)),calm:=false }
theorem Inv.caught (I:Inv X pins σ H s) (x:Addr):Inv (X.caught x) pins σ H s:=
 ⟨⟨I.ok.mod,I.ok.kind,I.ok.glob,I.ok.blt,I.ok.above,I.ok.inj,I.ok.has,I.ok.cab,fun z=>Bool.noConfusion z,I.ok.frames,I.ok.stk,I.ok.exf,I.ok.bs,I.ok.bsz,I.ok.noex,I.ok.exfs,I.ok.funs,I.ok.frf⟩,I.os,I.bare,I.base,I.loc,I.cell,I.free,I.freeC,I.pin,I.hok,I.len⟩
theorem Inv.uncaught {x:Addr} (J:Inv (X.caught x) pins σ H s) (ok:X.Ok):Inv X pins σ H s:=⟨ok,J.os,J.bare,J.base,J.loc,J.cell,J.free,J.freeC,J.pin,J.hok,J.len⟩
theorem wd {M:M5} {A:Ho} {E:FU->FW->Prop} {i:Nat} {n:Str} {Q:Unit->FW->Prop} (I:Inv X pins σ H s) (hN:X.N.Nodup) (hi:X.N[i]?=some n) (hk:X.env.scope.names.lookup n=some .local) (hv:σ[i]?=some (some v))
  (h:∀s',Inv X pins (σ.set i none) H s'->Q () s'):GU M A (unbindName X.env n) Q E s:=by
 obtain ⟨m,hn,hl⟩:=id I.loc
 obtain ⟨u,_,q⟩:=hl i n v hi hv (.inl hk)
 have hm:m n=some u:=by
  rcases q with ⟨_,e⟩ | ⟨z,_⟩
  ·exact e
  ·have hk':X.env.kindOf n=some .local:=hk
   rw [hk'] at z
   rcases z with z | z <;> cases z
 have hcls:(X.env.scope.kind==.class||(X.env.scope.kind==.module&&X.env.locals != X.env.globals))=false:=by rw [I.ok.kind];rfl
 have hiσ:i < σ.length:=by rw [I.len];exact (List.getElem?_eq_some_iff.mp hi).1
 refine wpAny_unbindName_local hk hn hm hcls fun h' u' hn' hs=>?_
 have far:∀b o,X.s₀.heap.get? b=some o->b≠X.env.locals:=fun b o e=>GO (Gr (Gg e) I.ok.above)
 refine h _ ⟨I.ok,I.os,I.bare,⟨fun b o e n hb hx=>(hs.2 b (far b o e)).trans (I.base.keep b o e n hb hx),fun b o e n hb hx=>?_,I.base.free,fun b o e hx=>?_,I.base.tups,I.base.frzs,I.base.tbls⟩,⟨_,hn',fun j y v' e1 e2 e3=>?_⟩,fun y c e=>?_,I.free,I.freeC,fun p hp=>?_,fun b ob e=>?_,by simpa using I.len⟩
 ·obtain ⟨sl,q⟩:=I.base.slot b o e n hb hx
  exact ⟨sl,(hs.2 b (far b o e)).trans q⟩
 ·obtain ⟨o',q⟩:=I.base.there b o e hx
  exact ⟨o',(hs.2 b (far b o e)).trans q⟩
 ·have hj:j≠i:=fun z=>by
   rw [z,Gw hiσ] at e2
   cases e2
  rw [Gh (Ia hj)] at e2
  obtain ⟨w',r',q⟩:=hl j y v' e1 e2 e3
  refine ⟨w',r',?_⟩
  rcases q with ⟨k,e⟩ | ⟨k,c,e,z⟩
  ·have:y≠n:=fun e=>hj (g7 hN e1 (e▸hi))
   exact .inl ⟨k,by simp [this,e]⟩
  ·exact .inr ⟨k,c,e,z.sameBut hs (I.cne y c e)⟩
 ·obtain ⟨w',z⟩:=I.cell y c e
  exact ⟨w',z.sameBut hs (I.cne y c e)⟩
 ·obtain ⟨e,n,ne,nf,d⟩:=I.pin p hp
  exact ⟨(hs.2 p.1 ne).trans e,n,ne,nf,d⟩
 ·refine (I.hok b ob e).stay (fun c w' hc q=>(hs.2 c ?_).trans q) (fun _ q=>q) fun _ _ q=>q
  rintro rfl
  rcases hc with rfl | hc
  ·rw [I.free] at e;cases e
  ·rw [I.free] at hc;cases hc
end
section
variable {X:Cx} {k i:Nat} {f CB:Addr} {fd:IB} {ps:List Str} {sp:Sp} {e0:Expr} {es:List Expr} {ta:TA} {x cb en:Str} {b0:Stmt} {suite:List Stmt} {th:TS} {p pos pe np hp tp:Pos}
def unE (D:Ends) (i:Nat):Ends:={ nx:=fun σ H=>D.nx (σ.set i none) H,rt:=D.rt,bk:=fun σ H=>D.bk (σ.set i none) H,ct:=fun σ H=>D.ct (σ.set i none) H }
def EH (K:Frag) (CB:Addr) (sp:Sp) (ta:TA) (i:Nat) (th:TS):TS:=fun D σ H=>ta σ H fun vs H1=>sp vs H1 (fun _ _=>False) fun c _ H'=>∃C,c=.ref C/\exmOne K (.ref C) (.ref CB)=some true /\
 ∀y o,H' y=none->o.cls=.ref C->th (unE D i) (σ.set i (some (.ref y))) (upd H' y (.frz o (.own y)))
theorem BC (F:gH X.prog X.w X.K X.mg X.base (CX1 X.prog X.w) k f fd ps sp) (hr:bV k X.A) (hm:X.mg x=some (.ref f)) (hk:IJ X.K (.ref f)=true) (hb:Binds X.K fd ps []) (ha:PA X (e0::es) ta) (hcb:X.mg cb=some (.ref CB))
  (hs:∀y,PSs (X.caught y) (b0::suite) th) (hxe:∀e s,¬X.xe e s) (hex0:X.ex=[]) (hst:X.stack=X.env::X.outer) (hfr:X.env.frame=some X.env.locals) (hN:X.N.Nodup) (hi:X.N[i]?=some en) (hloc:X.env.scope.names.lookup en=some .local)
  (hg:Gl X x:=by rfl) (hgc:Gl X cb:=by rfl) (hd:(x==("__debug__":Str))=false:=by decide) (hdc:(cb==("__debug__":Str))=false:=by decide) (he:Gi (e0::es) X.env=(false,eval e0 X.env)::Gi es X.env:=by rfl) (hpl:(IV pos (Gi es X.env)).any (·.1)=false:=by rfl)
  (hsw:HJ (.Call (.Name x p) (e0::es) [] pos) none pe.line X.env=pure false:=by rfl) :
  PS X (.Try [.Expr (.Call (.Name x p) (e0::es) [] pos) pe] [.ExceptHandler (some (.Name cb np)) (some en) (b0::suite) hp] [] [] tp) (EH X.K CB sp ta i th):=by
 intro pins s σ H D I h
 refine wpAny_Try_except (KS (wpAny_Expr_any ?_ I.quiet hsw))
 refine Jl (fH I hg hm ?_ hd)
 refine L5 (h₀:=X.base) I.ok.mod.kin hk (Gy (ha pos pins s σ H _ I h) (fun us s1 ⟨vs,H1,I1,r,q⟩=>⟨I1.kIn,?_⟩) fun e s z=>(hxe e s z).elim) he hpl
 have hl:us.length=ps.length:=by rw [<- r.length];exact F.len _ _ _ _ q
 have hbd:=hb s1 us I1.kIn (by rw [Hy];exact hl)
 rw [Hy] at hbd
 refine Mh (Kc (F.run X.A X.stack s1 H1 ⟨us,[]⟩ us vs _ _ hr I1.env0 hbd r q) fun res s' hq=>?_)
 match res,hq with
 | .ok (.ret u),hq=>obtain ⟨_,_,_,_,_,_,_,z⟩:=hq;exact z.elim
 | .error e,hq=>
  obtain ⟨y,cls,a0,B,H',rfl,Fl,C,rfl,hex,fin⟩:=hq
  have fr:X.A.frames=some (X.env::X.outer):=hst▸I.ok.frames
  have fly0:=Fl.fly
  rw [hst] at fly0
  refine wpAny_looks_onW fr hfr fly0 fun h4 held up4=>?_
  refine wpAny_landsW held fun h5 fly5 up5=>?_
  have F5:Flies X.prog X.w X.stack H1 s1 y (.ref C) a0 B H' { s' with heap:=h5,toks:=s'.toks }:=Fl.on I1 (by rw [hst];exact fly5) (up4.trans up5)
  have I5:=I1.lands F5
  obtain ⟨o5,ho5,hc5⟩:=fly5.there
  refine wpAny_handleBy_cons (codeAny_handlers_test (fH (I5.caught y) hgc hcb ?_ hdc)) (by intro q;cases q)
  refine exm_one (h:=h5) I5.kIn (hc5▸(Looks.ld ho5).andThen .now) hex _ _ _ _ (fun _ _ e=>e) ?_
  refine codeAny_handlers_suite_as ?_
  refine lands_againW fly5 fun h6 fly6 up6=>?_
  have F6:Flies X.prog X.w X.stack H1 s1 y (.ref C) a0 B H' { s' with heap:=h6,toks:=s'.toks }:=Fl.on I1 (by rw [hst];exact fly6) ((up4.trans up5).trans up6)
  have I6:=I1.lands F6
  obtain ⟨o6,ho6,hc6⟩:=fly6.there
  have here:∀b o,s1.heap.get? b=some o->b≠y:=fun b o e z=>by rw [z,Fl.new] at e;cases e
  have I7:Inv (X.caught y) pins σ (upd H' y (.frz o6 (.own y))) { s' with heap:=h6,toks:=s'.toks }:=by
   refine (I6.caught y).trackN F6.noX ?_ ?_ ?_ ?_ ⟨ho6,o6,ho6⟩
   ·cases z:X.s₀.heap.get? y with
    | none=>rfl
    | some o=>
     obtain ⟨o',e'⟩:=I1.base.there y o z (by rw [hex0];intro q;cases q)
     exact absurd rfl (here y o' e')
   ·obtain ⟨m,⟨o,es,ep,e,_⟩,_⟩:=I1.loc
    exact (here _ o e).symm
   ·intro n c e
    obtain ⟨v,o,e',_⟩:=I1.cell n c e
    exact here c o e'
   ·intro p hp
    exact here p.1 p.2 (I1.pin p hp).1
  refine fG (X:=X.caught y) I7 hN hi (.inl hloc) (show RelV (.ref y) (.ref y) from rfl) (fun s8 I8=>?_) (.inr hloc)
  refine Gy (hs y pins s8 _ _ (unE D i) I8 (fin y o6 F6.noX hc6)) (fun fl s9 q9=>?_) fun e s z=>(hxe e s z).elim
  have let_go:∀{σ':St} {H9:Hp} {R:Unit->FW->Prop},Inv (X.caught y) pins σ' H9 s9->(∀s',Inv X pins (σ'.set i none) H9 s'->R () s')->GU (GM X.prog X.w) X.A (do bindName X.env en .none;unbindBehindTheSuite X.env en hp) R X.xe s9:=fun {σ' H9 R} J g=>by
   have J0:=J.uncaught I.ok
   refine FR (wpAny_bindName (fG J0 hN hi (.inl hloc) (show RelV .non .none from rfl) (fun s10 I10=>?_) (.inr hloc)))
   refine wpAny_onRaise (wd I10 hN hi hloc (Gw (by rw [J0.len];exact (List.getElem?_eq_some_iff.mp hi).1)) fun s11 I11=>?_)
   rw [List.set_set] at I11
   exact g s11 I11
  cases fl with
  | next=>obtain ⟨σ',H9,J,q⟩:=q9;exact let_go J fun s' I'=>⟨_,_,I',q⟩
  | brk=>obtain ⟨σ',H9,J,q⟩:=q9;exact let_go J fun s' I'=>⟨_,_,I',q⟩
  | cont=>obtain ⟨σ',H9,J,q⟩:=q9;exact let_go J fun s' I'=>⟨_,_,I',q⟩
  | ret u=>obtain ⟨v,σ',H9,J,r,q⟩:=q9;exact let_go J fun s' I'=>⟨v,_,_,I',r,q⟩
end
def dY (K:Frag) (C:Addr):Bool:=(kitCls K (.ref C) (.ref C)==some true)&&gM K C&&(clsIn K C).isSome
theorem dY.kit {K:Frag} {x C:Addr} (h:dY K C=true):KitX K (.ref x) (.ref C) (ExcAt x C):=by
 simp only [dY,GC,beq_iff_eq] at h
 exact sO h.1.1 h.1.2 h.2
def pU:FU->V
 | .ref C=>.ref C
 | .type T=>.ty T
 | _=>.non
def isC:FU->Bool
 | .ref _=>true
 | .type _=>true
 | _=>false
theorem lT {c u:FU} (h:isC c=true) (r:RelV (pU c) u):u=c:=by
 match c,h,r with
 | .ref _,_,r=>exact r
 | .type _,_,r=>exact r
theorem jz:∀{cs us:List FU},cs.all isC=true->Vals (cs.map pU) us->us=cs
 | [],_,_,.nil=>rfl
 | c::cs,_,h,.cons r t=>by
  simp only [List.all_cons,GC] at h
  rw [lT h.1 r,jz h.2 t]
def yO (K:FO):List V->Hp->VK->Prop:=fun xs H Q=>∃y o C c b,xs=[.ref y,c]/\H y=some (.frz o (.own y))/\o.cls=.ref C/\dY K C=true /\
 ((∃cv,c=pU cv/\isC cv=true/\kitOne K (.ref C) cv=some b)\/(∃t cs,c=.ref t/\SqT K H t (cs.map pU)/\cs.all isC=true/\kitAny K (.ref C) cs=some b))/\Q (.bl b) H
theorem pV {X:Cx}:cg X (.builtin "isinstance") (yO X.K):=by
 rintro pins s σ H xs us Q I r ⟨y,o,C,c,b,e,hy,hc,ok,h,q⟩
 subst e
 obtain ⟨u,w',rfl,rx,rc⟩:=vals2 r
 cases rx
 have at_:ExcAt y C s.heap:=⟨o,(show br X.prog X.w H s.heap y (.frz o (.own y)) from I.hok y _ hy).1,hc⟩
 have fin:∀tk,EP X pins σ Q (.bool b) { s with toks:=tk }:=fun tk=>⟨.bl b,H,I.tok tk,rfl,q⟩
 rcases h with ⟨cv,rfl,hi,e⟩ | ⟨t,cs,rfl,hq,hi,e⟩
 ·rw [lT hi rc]
  exact G8 (dY.kit ok) I.kIn at_ e (fun z=>nomatch z) fin
 ·cases rc
  obtain ⟨its,r2,tp,_⟩:=I.tuple hq
  cases jz hi r2
  obtain ⟨o2,h1,h2,n,h3⟩:=tp
  obtain ⟨oc,od,odt,osl⟩:=o2
  simp only at h2 h3
  subst h2;subst h3
  exact PySem.W.kia_tup (dY.kit ok) I.kIn at_ h1 e (fun z=>nomatch z) fin
end L2
namespace VL
open PySem L2 PySem.W
section
variable {K:FO} {X:Cx} {m:Bool} {i:Nat} {en cn:Str} {p1 p2 p3 p4 pos:Pos} {es:List Expr} {cs:List Addr} {c:FU}
theorem FJ {H0 H:Hp} {C:Addr} (k:OK K H0 Z σ H S) (h:S[i]?=some (.val (.exc (.ref C)))):∃y o,σ[i]?=some (some (.ref y))/\H y=some (.frz o (.own y))/\o.cls=.ref C:=by
 obtain ⟨o,e,v,rfl,r⟩:=k.ownAt h
 cases r with | exc n hh hc=>exact ⟨_,_,e,hh,hc⟩
def yP (K:Frag) (i:Nat) (c:FU):VT:=fun S Q=>∃C b,S[i]?=some (.val (.exc (.ref C)))/\dY K C=true/\kitOne K (.ref C) c=some b/\Q (.d (.bl b)) S
theorem kj (hK:X.K=K) (hc:isC c=true) (hcn:PE X (.Name cn p3) (tC (pU c))) (hi:X.N[i]?=some en) (hv:Vis X.env.scope en) (hg:Gl X "isinstance") (hm:X.mg "isinstance"=none) (hd:(en==("__debug__":Str))=false:=by decide) (hcd:(en==("__classdict__":Str))=false:=by decide)
  (he:Gi [.Name en p2,.Name cn p3] X.env=[(false,eval (.Name en p2) X.env),(false,eval (.Name cn p3) X.env)]:=by rfl) :
  VE K X m (.Call (.Name "isinstance" p1) [.Name en p2,.Name cn p3] [] pos) (tCB (yO K) (dX (cA i) (dX (tC (pU c)) i7))) (yP K i c):=
 ⟨by subst hK;exact fI pV hg hm aZ (cL (qz hi hv hd hcd) (cL hcn fx)),fun H0 Z σ H S Q C k t hcc=>by
  obtain ⟨C0,b,h1,h2,h3,q⟩:=t
  obtain ⟨y,o,e1,e2,e3⟩:=FJ k h1
  exact ⟨_,e1,y,o,C0,_,b,rfl,e2,e3,h2,.inl ⟨c,rfl,hc,h3⟩,hcc _ _ (.d (.bl b)) S k .refl (Rep.bl b) q⟩⟩
end
end VL
namespace VL
open PySem L2 PySem.W
def spX (K:FO) (bad:List D->Addr->Prop):Sp:=fun vs H _ E=>∃ds C,Reps K Any AnyF H vs ds/\bad ds C/\∀H',(∀a,H a≠none->H' a=H a)->E (.ref C) none H'
def m6 (P:GD) (w:Hg) (K:FO) (mg:Str->Option FU) (base:Heap) (k:Nat) (x:Str) (ps:List Str) (bad:List D->Addr->Prop):Prop:=
 ∃(f:Addr) (fd:IB),gH P w K mg base (CX1 P w) k f fd ps (spX K bad)/\mg x=some (.ref f)/\IJ K (.ref f)=true/\Binds K fd ps []
def Fz (Hin:Hp) (Z:AP) (σ:St) (S:List Sl) (H:Hp):Prop:=∀a,Hin a≠none->H a=Hin a/\NM Z σ S a
theorem Fz.step {Hin H H':Hp} {σ σ':St} {S S':List Sl} (f:Fz Hin Z σ S H) (st:Step Z σ S H σ' S' H'):Fz Hin Z σ' S' H':=fun a e=>by
 obtain ⟨e1,n⟩:=f a e
 obtain ⟨e2,n2⟩:=st.1 a n (by rw [e1];exact e)
 exact ⟨e2.trans e1,n2⟩
structure VXs (K:FO) (X:Cx) (Hin:Hp) (E:XK) (sts:List Stmt) (ts:TS) (t:(Addr->Prop)->List Sl->Prop):Prop where
 ps:PSs X sts ts
 snd:∀Wc:Addr->Prop,(∀C,Wc C->∀H',(∀a,Hin a≠none->H' a=Hin a)->E (.ref C) none H')->∀H0 Z σ H S D,OK K H0 Z σ H S->Fz Hin Z σ S H->t Wc S->ts D σ H
section
variable {K:FO} {X:Cx} {Hin:Hp} {E:XK} {sts rest A:List Stmt} {st:Stmt} {ts us:TS} {t u:(Addr->Prop)->List Sl->Prop} {v:VTS} {pos:Pos}
theorem sP:VXs K X Hin E sts g8 (fun _ _=>False):=⟨jc,fun _ _ _ _ _ _ _ _ _ _ h=>h.elim⟩
theorem lU {C:Addr} {bmB:List FU} {B newId initId:String} {x z:Str} {j:Nat} {np p cpos pos:Pos} (T:eI X Hin E) (FB:ExcBaseFacts B newId initId bmB) (ec:excIn X.K C bmB newId=true) (hm:X.mg x=some (.ref C)) (hc:X.calm=true) (hg:Gl X x:=by rfl) (hd:(x==("__debug__":Str))=false:=by decide)
  (he:Gi [.Constant (.str z) j p] X.env=[(false,eval (.Constant (.str z) j p) X.env)]:=by rfl) :
  VXs K X Hin E [.Raise (some (.Call (.Name x np) [.Constant (.str z) j p] [] cpos)) none pos] (sM Hin E C) (fun Wc _=>Wc C):=
 ⟨nI (sN T FB ec hm hc hg hd he),fun Wc hE H0 Z σ H S D k f h=>⟨fun b e=>(f b e).1,hE C h H fun b e=>(f b e).1⟩⟩
theorem yQ {c:Expr} {tc:TT} {wc:VTT} (hc:VTe K X c tc wc) (ha:VXs K X Hin E A ts t) (hr:VXs K X Hin E rest us u):VXs K X Hin E (.If c A [] pos::rest) (mE (uH tc ts nH) us) (fun Wc S=>wc S fun b S1=>if b=true then t Wc S1 else u Wc S1):=
 ⟨dr (qB hc.pe ha.ps jP) hr.ps,fun Wc hE H0 Z σ H S D k f h=>hc.snd H0 Z σ H S _ _ k h fun b H1 S1 k1 st1 q=>by
  cases b with
  | true=>rw [if_pos rfl] at q ⊢;exact ha.snd Wc hE H0 Z σ H1 S1 _ k1 (f.step st1) q
  | false=>rw [if_neg F4] at q ⊢;exact hr.snd Wc hE H0 Z σ H1 S1 D k1 (f.step st1) q⟩
theorem we {k j:Nat} {x:Str} {ps:List Str} {bad:List D->Addr->Prop} {e:Expr} {es:List Expr} {tr:TA} {vr:VTA} {p0 cpos:Pos} (T:eI X Hin E) (F:m6 X.prog X.w X.K X.mg X.base k x ps bad) (hK:X.K=K) (hr:bV j X.A) (ha:VA K X false (e::es) tr vr)
  (hk:k<=j:=by decide) (hg:Gl X x:=by rfl) (hdb:(x==("__debug__":Str))=false:=by decide) (he:Gi (e::es) X.env=(false,eval e X.env)::Gi es X.env:=by rfl)
  (hpl:(IV cpos (Gi es X.env)).any (·.1)=false:=by rfl) (hs:HJ (.Call (.Name x p0) (e::es) [] cpos) none pos.line X.env=pure false:=by rfl) :
  VXs K X Hin E (.Expr (.Call (.Name x p0) (e::es) [] cpos) pos::rest) (mE (nJ (h9 (spX K bad) [] (fun c _ H'=>(∀b,Hin b≠none->H' b=Hin b)/\E c none H') tr)) g8) (fun Wc S=>vr S fun rs S1=>∃ds C,gets S1 rs=some ds/\bad ds C/\Wc C):=by
 subst hK
 obtain ⟨f,fd,F,hm,kp,hb⟩:=F
 refine ⟨dr (jQ (nN F (hr.mono hk) hg hm kp hb .nil (fun pins σ H s e s' I h=>T.next pins σ H s e s' I h) ha.pe hdb he hpl) hs) jc,fun Wc hE H0 Z σ H S D k f h=>?_⟩
 refine ha.snd H0 Z σ H S _ _ k h fun vs H1 rs S1 k1 st1 rrs zr1=>?_
 obtain ⟨ds,C,e,hb,hw⟩:=zr1
 have f1:=f.step st1
 refine ⟨ds,C,by rw [Hy];exact rrs.gets k1 e,hb,fun H' g=>?_⟩
 have fr:∀b,Hin b≠none->H' b=Hin b:=fun b e=>by
  have q:=(f1 b e).1
  rw [<- q]
  exact g b (by rw [q];exact e)
 exact ⟨fr,hE C hw H' fr⟩
theorem yR {P:GD} {w:Hg} {mg:Str->Option FU} {base:Heap} {x:Str} {st:Stmt} {N ps:List Str} {k:Nat} {bad:List D->Addr->Prop} (S:Src K mg x st) (sc:aC N ps (ao st))
  (hb:∀(kV doc pm:FU) (an:Option Addr) (cdv ct:FU) (us:List FU),us.length=ps.length->Lw (HQ x x (cr st) (bE st) (ao st) .none kV doc pm an cdv ct) ⟨us,[]⟩=pure (ps.zip us))
  (len:∀ds C,bad ds C->ds.length=ps.length)
  (hbody:∀(f:Addr) (cdv:FU) (A:Ho) (outer:List Env) (s:FW) (H:Hp) (E:XK),bV k (A.deeper (JY x (ao st) s.heap.objs.size f cdv))->eI (gI (CX1 P w) P w K mg base N x (ao st) f cdv A outer s H E) H E ->
   ∃ts t,VXs K (gI (CX1 P w) P w K mg base N x (ao st) f cdv A outer s H E) H E (bE st) ts t/\∀ds C,bad ds C->t (·=C) (slots N.length ds)):m6 P w K mg base (k+1) x ps bad:=by
 obtain ⟨f,fd,F,hm⟩:=S
 obtain ⟨oc,od,kV,doc,pm,an,cdv,ct,osl,rfl,lk,hcd⟩:=F.ex
 refine ⟨f,_,yi lk hcd sc (fun vs H Q E zq1=>by obtain ⟨ds,C,r,h,_⟩:=zq1;rw [r.length];exact len ds C h) fun A outer s H vs Q E hr ⟨ds,C,r,h,fin⟩=>?_,hm,F.kp,F.binds hb⟩
 obtain ⟨ts,t,vx,q⟩:=hbody f cdv A outer s H E hr pT
 refine ⟨ts,vx.ps,vx.snd (·=C) (fun C' e H' g=>by subst e;exact fin H' g) H _ _ H _ _ (lI (N:=N) r) (fun a e=>⟨rfl,?_⟩) (q ds C h)⟩
 rintro (⟨j,s,g1,g2,_⟩ | z)
 ·rw [cz g1] at g2;cases g2
 ·exact z
end
end VL
namespace VL
open PySem L2 PySem.W
section
variable {K:FO} {H H0:Hp} {Z:AP} {σ:St} {S:List Sl} {i:Nat}
theorem OK.letGo (k:OK K H0 Z σ H S) (hi:i < S.length):OK K H0 Z (σ.set i none) H (S.set i .no)/\Step Z σ S H (σ.set i none) (S.set i .no) H:=by
 have n:∀a,NM Z σ S a->NM Z (σ.set i none) (S.set i .no) a:=fun a x z=>by
  rcases fy z with z | ⟨z,_⟩
  ·exact x z
  ·cases z
 exact ⟨k.put hi (fun a x _=>⟨n a x,rfl⟩) (fun _ _ _ _ _ _ _=>rfl) trivial (fun _ _ _ _ _ _ z=>nomatch z) (fun _ e=>e) k.zl (fun _ z=>nomatch z),fun a x _=>⟨rfl,n a x⟩,fun _ e=>e,fun _ _ _=>rfl⟩
theorem NP.letGo {a:Addr} (h:NP σ S a):NP (σ.set i none) (S.set i .no) a:=fun j ad ns g1 g2=>by
 by_cases hj:i=j
 ·subst hj
  by_cases hl:i < S.length
  ·rw [Gw hl] at g1;cases g1
  ·rw [Ht (by simpa using hl)] at g1;cases g1
 ·rw [Gh hj] at g1 g2
  exact h j ad ns g1 g2
def unV (V:bz) (i:Nat):bz:={ nx:=fun S=>i < S.length/\V.nx (S.set i .no),rt:=fun d S=>i < S.length/\V.rt d (S.set i .no),bk:=fun S=>i < S.length/\V.bk (S.set i .no),ct:=fun S=>i < S.length/\V.ct (S.set i .no) }
theorem Lf.letGo {V:bz} {E:Ends} (l:Lf K H0 Z σ S H V E):Lf K H0 Z σ S H (unV V i) (unE E i) where
 nx:=fun σ' H' S' k st zt1=>by obtain ⟨hi,q⟩:=zt1;exact l.nx _ _ _ (k.letGo hi).1 (st.trans (k.letGo hi).2) q
 bk:=fun σ' H' S' k st zt1=>by obtain ⟨hi,q⟩:=zt1;exact l.bk _ _ _ (k.letGo hi).1 (st.trans (k.letGo hi).2) q
 ct:=fun σ' H' S' k st zt1=>by obtain ⟨hi,q⟩:=zt1;exact l.ct _ _ _ (k.letGo hi).1 (st.trans (k.letGo hi).2) q
 rt:=fun v d σ' H' S' k st r zt1=>by obtain ⟨hi,q⟩:=zt1;exact l.rt v d _ _ _ (k.letGo hi).1 (st.trans (k.letGo hi).2) (r.mono (fun a n _=>⟨NP.letGo n,rfl⟩) fun _ x=>x) q
end
section
variable {K:FO} {X:Cx} {k j i:Nat} {CB:Addr} {ps:List Str} {bad:List D->Addr->Prop} {e0:Expr} {es:List Expr} {tr:TA} {vr:VTA} {x cb en:Str} {b0:Stmt} {suite:List Stmt} {th:TS} {vh:VTS} {p pos pe np hp tp:Pos}
def BD (K:Frag) (CB:Addr) (bad:List D->Addr->Prop) (vr:VTA) (i:Nat) (vh:VTS):VTS:=fun V S=>vr S fun rs S1=>i < S1.length/\∃ds C,gets S1 rs=some ds/\bad ds C/\exmOne K (.ref C) (.ref CB)=some true/\vh (unV V i) (S1.set i (.val (.exc (.ref C))))
theorem BE (F:m6 X.prog X.w X.K X.mg X.base k x ps bad) (hK:X.K=K) (hr:bV j X.A) (ha:VA K X false (e0::es) tr vr) (hcb:X.mg cb=some (.ref CB)) (hs:∀y,VSs K (X.caught y) (b0::suite) th vh) (hxe:∀e s,¬X.xe e s) (hex0:X.ex=[])
  (hst:X.stack=X.env::X.outer) (hfr:X.env.frame=some X.env.locals) (hN:X.N.Nodup) (hi:X.N[i]?=some en) (hloc:X.env.scope.names.lookup en=some .local) (hk:k<=j:=by decide)
  (hg:Gl X x:=by rfl) (hgc:Gl X cb:=by rfl) (hd:(x==("__debug__":Str))=false:=by decide) (hdc:(cb==("__debug__":Str))=false:=by decide) (he:Gi (e0::es) X.env=(false,eval e0 X.env)::Gi es X.env:=by rfl) (hpl:(IV pos (Gi es X.env)).any (·.1)=false:=by rfl)
  (hsw:HJ (.Call (.Name x p) (e0::es) [] pos) none pe.line X.env=pure false:=by rfl) :
  VS K X (.Try [.Expr (.Call (.Name x p) (e0::es) [] pos) pe] [.ExceptHandler (some (.Name cb np)) (some en) (b0::suite) hp] [] [] tp) (EH K CB (spX K bad) tr i th) (BD K CB bad vr i vh):=by
 subst hK
 obtain ⟨f,fd,F,hm,kp,hb⟩:=F
 refine ⟨BC F (hr.mono hk) hm kp hb ha.pe hcb (fun y=>(hs y).ps) hxe hex0 hst hfr hN hi hloc hg hgc hd hdc he hpl hsw,fun H0 Z σ H S V D k t l=>?_⟩
 refine ha.snd H0 Z σ H S _ _ k t fun vs H1 rs S1 k1 st1 rrs ⟨hl,ds,C,e,hbd,hex,q⟩=>⟨ds,C,rrs.gets k1 e,hbd,fun H' g=>⟨C,rfl,hex,fun y o hy hc=>?_⟩⟩
 have g2:=aQ (o:=.frz o (.own y)) hy
 have k2:=(k1.grow g).grow g2
 have st2:Step Z σ S H σ S1 (upd H' y (.frz o (.own y))):=(st1.trans (.grow g)).trans (.grow g2)
 obtain ⟨k3,st3⟩:=k2.setVal hl (Rep.exc (c:=.ref C) ((k1.grow g).nm hy) az hc)
 exact (hs 0).snd H0 Z _ _ _ _ _ k3 q ((l.step (st2.trans st3)).letGo)
end
end VL
end
section
namespace VL
open PySem L2 PySem.W
section
variable {i:Nat} {va:VT} {vr:VTA} {S:List Sl} {Q:VR->List Sl->Prop} {q:D->Prop}
theorem gj {K:Frag} {c:FU} {C:Addr} {b:Bool} (e:S[i]?=some (.val (.exc (.ref C)))) (ok:dY K C=true) (hk:kitOne K (.ref C) c=some b) (h:Q (.d (.bl b)) S):yP K i c S Q:=⟨C,b,e,ok,hk,h⟩
end
end VL
namespace VL
open PySem L2 PySem.W
section
variable {K:FO} {X:Cx} {m:Bool} {e:Expr} {te:TE} {va:VT} {pos pos':Pos} {i:Nat} {x:Str}
theorem OK.setFre {H H0:Hp} (k:OK K H0 Z σ H S) (hi:i < S.length) (h:Rep K (NM Z σ S) (Fr H0) H v d):OK K H0 Z (σ.set i (some v)) H (S.set i (.fre d))/\Step Z σ S H (σ.set i (some v)) (S.set i (.fre d)) H:=by
 have n:∀a,NM Z σ S a->NM Z (σ.set i (some v)) (S.set i (.fre d)) a:=fun a x z=>by
  rcases fy z with z | ⟨z,_⟩
  ·exact x z
  ·cases z
 exact ⟨k.put hi (fun a x _=>⟨n a x,rfl⟩) (fun _ _ _ _ _ _ _=>rfl) ⟨v,rfl,h.mono (fun a x _=>⟨n a x,rfl⟩) fun _ x=>x⟩ (fun _ _ _ _ _ _ z=>nomatch z) (fun _ e=>e) k.zl (fun _ z=>nomatch z),fun a x _=>⟨rfl,n a x⟩,fun _ e=>e,fun _ _ _=>rfl⟩
@[irreducible] def lV (i:Nat) (V:bz):VR->List Sl->Prop:=fun r S1=>∃d,r=.d d/\i < S1.length/\V.nx (S1.set i (.fre d))
def yS (i:Nat) (va:VT):VTS:=fun V S=>va S (lV i V)
theorem BF {V:bz} (h:va S (lV i V)):yS i va V S:=h
theorem km {V:bz} (hi:i < S.length) (h:V.nx (S.set i (.fre d))):lV i V (.d d) S:=by unfold lV;exact ⟨d,rfl,hi,h⟩
theorem kn (hN:X.N.Nodup) (hi:X.N[i]?=some x) (hx:Loc X.env.scope x) (h:VE K X true e te va) (hs:HJ e (some (.Name x pos')) pos.line X.env=pure false:=by rfl)
  (hf:X.fn x=true\/X.env.scope.names.lookup x=some .local:=by first | exact .inl rfl | exact .inr rfl | assumption):VS K X (.Assign [.Name x pos'] e pos) (cQ te (aX i)) (yS i va):=
 ⟨bP hN hi hx h.pe hs hf,fun H0 Z σ H S V E k t l=>h.snd H0 Z σ H S _ _ k t fun v H' r S' k' st rr q=>by
  unfold lV at q
  obtain ⟨d,e,hi,q⟩:=q
  subst e
  have r:Rep K (NM Z σ S') (Fr H0) H' v d:=(show Rep K (NM Z σ S') (FM H0 true) H' v d from rr).mono (fun _ n _=>⟨n,rfl⟩) fun _ x=>x rfl
  exact l.nx _ _ _ (k'.setFre hi r).1 (st.trans (k'.setFre hi r).2) q⟩
def yT (i:Nat):VT:=fun S Q=>∃d,(S[i]?=some (.fre d)\/S[i]?=some (.val d)/\flat d=true)/\Q (.d d) S
theorem oy (i:Nat) (h:PE X e (cA i)):VE K X m e (cA i) (yT i):=⟨h,fun H0 Z σ H S Q C k zq1 hc=>by
 obtain ⟨d,h,q⟩:=zq1
 rcases h with h | ⟨h,hf⟩
 ·obtain ⟨o,h1,v,rfl,r⟩:=k.ownAt h
  exact ⟨v,h1,hc _ _ (.d d) _ k .refl (show Rep K _ _ _ _ _ from r.mono (fun _ n _=>⟨n,rfl⟩) fun _ x _=>x) q⟩
 ·obtain ⟨o,h1,v,rfl,r⟩:=k.ownAt h
  exact ⟨v,h1,hc _ _ (.d d) _ k .refl (show Rep K _ _ _ _ _ from Rep.flat r hf) q⟩⟩
theorem BG {Q:VR->List Sl->Prop} (h:S[i]?=some (.fre d)\/S[i]?=some (.val d)/\flat d=true) (q:Q (.d d) S):yT i S Q:=⟨d,h,q⟩
end
end VL
end
section
namespace L2
open PySem PySem.Spec PyProof.Rows PySem.W
section
variable {X:Cx}
theorem DctP.at {D:Addr} {h h':Heap} (d:DctP D es h) (e:h'.get? D=h.get? D):DctP D es h':=
 let ⟨z,m,nd,xs,ev,o,ds,ep,q,r⟩:=d;⟨z,m,nd,xs,ev,o,ds,ep,e.trans q,r⟩
theorem DctP.nocell {D:Addr} {h:Heap} {o:Obj} (d:DctP D es h) (e:h.get? D=some o):∀v,o.data≠.cell v:=fun v z=>by
 obtain ⟨_,_,_,_,_,o',ds,ep,q,_,hd,_⟩:=d
 rw [e] at q;cases q
 rw [hd] at z;cases z
theorem wg {D:Addr} {h:Heap} (e:h.get? D=some { cls:=.type "dict",data:=.dict #[] }) (hb:Iq < D):DctP D [] h:=
 ⟨HM _,beq_eq_false_iff_ne.mpr (Ia (GO hb)),Kn,[],.nil,_,#[],0,e,⟨rfl,rfl,rfl⟩,rfl,rfl⟩
theorem wj {s:FW} {a:Addr} (I:Inv X pins σ H s) (d:DctP a es s.heap) (k:cD X.K H es):es.length<=GG/\(a==Iq)=false/\(es.map (·.1)).Nodup /\
  ∃xs,EV es xs/\s.heap.DictOfH (K6 (KT.numKind X.prog X.w)) a xs:=by
 obtain ⟨z,m,nd,xs,ev,o,ds,ep,h1,h2,h3,h4⟩:=d
 refine ⟨z,m,nd,xs,ev,o,ds,ep,h1,h2,h3,h4,fun x hx=>?_,ev.keys▸nd⟩
 obtain ⟨e,he,e1,e2⟩:=ev.mem x hx
 exact e1▸e2▸eY I (k e he)
def sQ (K:FO) (wi:TI) (n:Nat) (ix:List Nat) (g:TG) (tc:TT) (tk tv:TE):TE:=fun σ H Q=>wi σ H fun J H1=>∃W:Nat->Nat->List (List Int×Addr×V)->Hp->Prop,(∃m,W 0 m [] H1)/\∀i m es H2,W i m es H2 ->
 (J.stop i H2/\∀D ob,H2 D=none->Q (.ref D) (upd H2 D (ck D ob es))) \/
 (J.go i H2/\es.length < GG/\∃Nx:List (List Int×Addr×V)->Hp->Prop,(∀es' H',Nx es' H'->∃m',m' < m/\W (i+1) m' es' H') /\
  ∀x H3,J.yld i H2 x H3->g x (capt n ix σ) H3 fun σ2 H4=>tc σ2 H4 fun b H5=>if b=true then tk σ2 H5 fun y H6=>tv σ2 H6 fun v H7=>∃b ms,y=.ref b/\SqN K H7 b ms/\cD K H7 es/\Nx (fC es ms b v) H7 else Nx es H5)
theorem sR {kx vx target iter:Expr} {ifs:List Expr} {scope:IR} {pos:Pos} {tg cs:List Str} {wi:TI} {g:TG} {tc:TT} {tk tv:TE} (hu:X.A.units+64 < KG) (S:aR X scope tg cs ix) (hcalm:X.calm=true) (kg:cT tg.length ix g)
    (hi:PI X target iter wi) (hg:∀C fp s H,PG (aj X scope (tg++cs) C fp s H) target g) (hc:∀C fp s H,PTs (aj X scope (tg++cs) C fp s H) ifs tc) (hk:∀C fp s H,PE (aj X scope (tg++cs) C fp s H) kx tk) (hv:∀C fp s H,PE (aj X scope (tg++cs) C fp s H) vx tv)
    (hs:∀x,Gj iter X.env x=pure x:=by intro _;rfl):PE X (.DictComp kx vx [⟨target,iter,ifs,0⟩] scope pos) (sQ X.K wi tg.length ix g tc tk tv):=by
  intro pins s σ H Q I h
  rw [arm_eval_DictComp]
  refine HV (use:=none) (cl:=bF X.env scope.names []) rfl hs (cS fun n hn=>I.ok.has n (S.out n hn)) S.kind S.names ?_
  refine Gy (hi pins s σ H _ I h) (fun v s1 h1=>Gy h1 (fun itv s2 h2=>?_) fun _ _ e=>e) fun _ _ e=>e
  obtain ⟨it,fp,tn,J,H2,rfl,I2,T,st2,f2,W,⟨m0,w0⟩,turn⟩:=h2
  refine HC (Ip S.nocell (by intro y hy;simp at hy) (fun h1 hns1 hsb1=>?_) S.kind)
  dsimp only at hns1 hsb1 ⊢
  generalize hP:s2.heap.push { cls:=.type "dict",dict:=none,data:=.dict #[] }=P2 at hns1 hsb1 ⊢
  have hCs:P2.objs.size=s2.heap.objs.size+1:=by rw [<- hP,Jz]
  have hDC:s2.heap.objs.size≠P2.objs.size:=by rw [hCs];exact GO (Ij _)
  have hCle:s2.heap.objs.size<=P2.objs.size:=by rw [hCs];exact IP _
  generalize hCg:P2.objs.size=C at *
  have old:∀b o,s2.heap.get? b=some o->h1.get? b=some o:=fun b o e=>hsb1.extBut b o (GO (Gr (Gg e) hCle)) (FT _ (hP▸FT _ e))
  generalize hDg:s2.heap.objs.size=D at *
  have hD0:h1.get? D=some { cls:=.type "dict",data:=.dict #[] }:=hsb1.extBut _ _ hDC (FT _ (hP▸hDg▸Gn _ rfl))
  have nC:H2 C=none:=I2.hok.fresh (by rw [hDg];exact hCle)
  have nD:H2 D=none:=I2.hok.fresh (by rw [hDg];exact FX _)
  have fo:∀b∈fp,∃o,s2.heap.get? b=some o:=fun b hb=>let ⟨o,e,_⟩:=T.obj _ _ st2 b hb;⟨o,e⟩
  have Dfp:D∉fp:=fun z=>by
    obtain ⟨o,e⟩:=fo D z
    have:=Gg e
    rw [hDg] at this
    exact absurd this (Hb _)
  have Dfs:D∉frs X.stack:=fun z=>by
    rcases List.mem_cons.mp (I2.stkSub D z) with e | e
    · have:=I2.lt
      rw [<- e,hDg] at this
      exact absurd this (Hb _)
    · exact I2.nofs (by rw [hDg];exact FX _) e
  have DcY:∀x c,(bF X.env scope.names []).lookup x=some c->c≠D:=fun x c e=>by
    rcases cR (G4 e) with h | h
    · cases h
    · exact (I2.fpOk (H':=H2) (b:=D) (by rw [hDg];exact FX _) nD).2.2.2.2.1 x c h
  -- the block's context
  have Yok:∀s4:FW,s4={ s2 with heap:=h1,toks:=s2.toks+([]:List (Str×FU)).length }->Inv (aj X scope (tg++cs) C fp s2 H2) [] (capt tg.length ix σ) H2 s4:=by
    rintro s4 rfl
    exact eh S I2 f2 fo (by rw [hDg];exact hCle) old (by simpa using hns1) rfl I2.bare nC
  -- the loop
  have loop:∀s4:FW,s4={ s2 with heap:=h1,toks:=s2.toks+([]:List (Str×FU)).length } ->
      IK (GM X.prog X.w) X.A (.compLoop (.DictComp kx vx [⟨target,iter,ifs,0⟩] scope pos) 0 (.ref it) (.ref D) (ID scope (bF X.env scope.names []) C X.env)) (L7 (GM X.prog X.w) X.A X.xe none (EP X pins σ Q) (.ref D) C) s4:=by
    intro s4 e4
    refine Jf rfl (fun n s'=>∃i es o H',Inv (aj X scope (tg++cs) C fp s2 H2) [] (capt tg.length ix σ) H' s'/\tn i s'.heap/\(∀b∈fp,H' b=none)/\H' D=none/\s'.heap.get? D=some o/\DctP D es s'.heap/\W i n es H')
      ?_ m0 ⟨0,[],_,H2,Yok s4 e4,?_,fun b hb=>(f2 b hb).1,nD,by rw [e4];exact hD0,wg (by rw [e4];exact hD0) (by rw [<- hDg];exact su I2),w0⟩
    · rintro n s5 ⟨i,es,o,H5,I5,st5,fr5,d5,o5,v5,w5⟩
      show GU _ X.A ((JA (.DictComp kx vx [⟨target,iter,ifs,0⟩] scope pos) 0 (.ref it) (.ref D) (ID scope (bF X.env scope.names []) C X.env)).onRaise (fun x=>do Lg x (ID scope (bF X.env scope.names []) C X.env);IQ x)) _ _ s5
      refine Jw ?_
      rw [compTurn_dict]
      have pin0:Inv (aj X scope (tg++cs) C fp s2 H2) [(D,o)] (capt tg.length ix σ) H5 s5:=I5.pins_of fun p hp=>by
        have e:p=(D,o):=by simpa using hp
        subst e
        exact ⟨o5,d5,hDC,Dfs,v5.nocell o5⟩
      have fpY:∀{H':Hp},(∀b∈fp,H' b=none)->∀b∈fp,d9 (aj X scope (tg++cs) C fp s2 H2) [(D,o)] H' b:=fun hn b hb=>
        ⟨hn b hb,(I5.ok.exf b hb).1,fun z=>I5.ok.exfs b hb z,.inl hb,(I5.ok.exf b hb).2,fun p hp z=>by
          have hp:p∈([]:List (Addr×Obj))++[(D,o)]:=hp
          have e:p=(D,o):=by simpa using hp
          subst e
          have z:D=b:=z
          exact Dfp (z▸hb)⟩
      refine FR (Hd (FR ?_))
      rcases turn i n es H5 w5 with ⟨stop,qn⟩ | ⟨go,hz,Nx,hN,step⟩
      · refine thn (T.done (aj X scope (tg++cs) C fp s2 H2) rfl rfl rfl hcalm i _ s5 _ H5 _ pin0 (fpY fr5) st5 stop) fun r s6 zr1=>?_
        obtain ⟨hr,I6⟩:=zr1
        subst hr
        refine F7 ?_
        obtain ⟨mC,hnsC,_⟩:=id I6.loc
        refine ⟨mC,hnsC,fun h' sb=>?_⟩
        have IX:Inv X pins σ H5 s6:=I2.call' (ch:=fp) I6.os I6.base I6.hok I6.bare fun b hb=>let ⟨_,a1,_,a3,a4,a5⟩:=f2 b hb;⟨a3,a1,a4,a5⟩
        obtain ⟨_,c1,_,c3,c4,c5⟩:=I2.fpOk (H':=H5) (b:=C) (by rw [hDg];exact hCle) I6.free
        have IX2:Inv X pins σ H5 { s6 with heap:=h' }:=IX.turned (t':=s6.toks) (fun b o hb e=>(sb.2 b hb).trans e) I6.free c1 c3 c4 c5
        obtain ⟨_,b1,_,b3,b4,b5⟩:=I2.fpOk (H':=H5) (b:=D) (by rw [hDg];exact FX _) d5
        have gD:h'.get? D=some o:=(sb.2 D hDC).trans (I6.pin (D,o) (FQ _ FZ)).1
        exact ⟨.ref D,upd H5 D (ck D o es),IX2.track d5 (by rw [<- hDg];exact I2.sz) b1 b4 b5 ((v5.at (gD.trans o5.symm)).ok gD),rfl,qn D o d5⟩
      · refine thn (T.item (aj X scope (tg++cs) C fp s2 H2) rfl rfl rfl hcalm i _ s5 _ H5 _ pin0 (fpY fr5) st5 go) fun r s6 zr1=>?_
        obtain ⟨u,hr,h6⟩:=zr1
        subst hr
        refine FR (thn h6 fun _ s7 zr1=>?_)
        obtain ⟨x,H7,I7,r7,y7,st7,fr7⟩:=zr1
        have I7':=I7.pinned (fpY fr7) (T.obj _ _ st7)
        -- the next turn
        have J9:∀{σ2:St} {H8:Hp} {s8:FW} {es':List (List Int×Addr×V)} {o':Obj},Inv (aj X scope (tg++cs) C fp s2 H2) [] σ2 H8 s8->(σ2.length=(capt tg.length ix σ).length/\∀(i:Nat) (v:V),(capt tg.length ix σ)[i]?=some (some v)->σ2[i]?=some (some v)) ->
            (∀b∈fp,∀o,s7.heap.get? b=some o->s8.heap.get? b=some o)->(∀b∈fp,H8 b=none)->H8 D=none->s8.heap.get? D=some o'->DctP D es' s8.heap->Nx es' H8 ->
            ∃m,m < n/\∃i es o H',Inv (aj X scope (tg++cs) C fp s2 H2) [] (capt tg.length ix σ) H' s8/\tn i s8.heap/\(∀b∈fp,H' b=none)/\H' D=none/\s8.heap.get? D=some o/\DctP D es s8.heap/\W i m es H':=by
          intro σ2 H8 s8 es' o' I8 kp fk fn dn dg vv nx
          obtain ⟨m',hm,w8⟩:=hN es' H8 nx
          exact ⟨m',hm,i+1,es',o',H8,I8.weak kp.1.symm kp.2,T.keep _ _ _ st7 fk,fn,dn,dg,vv,w8⟩
        refine FR (Gy (hg C fp s2 H2 _ s7 _ H7 x u _ I7' r7 (kg x σ H7 _ (step x H7 y7))) (fun _ s8 zr1=>?_) fun _ _ z=>z.elim)
        obtain ⟨σ8,H8,I8,kp8,q8⟩:=zr1
        refine FR (Gy (hc C fp s2 H2 _ s8 σ8 H8 _ I8 q8) (fun ok s9 zr1=>?_) fun _ _ z=>z.elim)
        obtain ⟨H9,I9,q9⟩:=zr1
        have pinsOf:∀{σ':St} {H':Hp} {s':FW},Inv (aj X scope (tg++cs) C fp s2 H2) ([(D,o)]++bQ fp s7.heap) σ' H' s' ->
            (∀b∈fp,∀o,s7.heap.get? b=some o->s'.heap.get? b=some o)/\(∀b∈fp,H' b=none)/\H' D=none/\s'.heap.get? D=some o:=by
          intro σ' H' s' I'
          refine ⟨fun b hb o e=>(I'.pin (b,o) (FQ _ (FQ _ (aN hb e)))).1,fun b hb=>?_,(I'.pin (D,o) (FQ _ (Gu _ FZ))).2.1,(I'.pin (D,o) (FQ _ (Gu _ FZ))).1⟩
          obtain ⟨o,e,d⟩:=T.obj _ _ st7 b hb
          exact (I'.pin (b,o) (FQ _ (FQ _ (aN hb e)))).2.1
        cases ok with
        | false=>
          obtain ⟨p1,p2,p3,p4⟩:=pinsOf I9
          exact F7 ⟨rfl,J9 (I9.pins_of fun p hp=>nomatch hp) kp8 p1 p2 p3 p4 (v5.at (p4.trans o5.symm)) q9⟩
        | true=>
          have q9:tk σ8 H9 fun y H6=>tv σ8 H6 fun v H7=>∃b ms,y=.ref b/\SqN X.K H7 b ms/\cD X.K H7 es/\Nx (fC es ms b v) H7:=q9
          refine FR (FR (Gy (hk C fp s2 H2 _ s9 σ8 H9 _ I9 q9) (fun kv s10 zr1=>?_) fun _ _ z=>z.elim))
          obtain ⟨y,H10,I10,ry,q10⟩:=zr1
          refine FR (Hn (Gy (hv C fp s2 H2 _ s10 σ8 H10 _ I10 q10) (fun vv s11 zr1=>?_) fun _ _ z=>z.elim))
          obtain ⟨v,H11,I11,rv,b,ms,ey,sq,ka,nx⟩:=zr1
          subst ey
          cases ry
          obtain ⟨p1,p2,p3,p4⟩:=pinsOf I11
          have P11:DctP D es s11.heap:=v5.at (p4.trans o5.symm)
          obtain ⟨z,m,nd,xs,ev,dd⟩:=wj I11 P11 ka
          refine FR (Hd (Hn (wpAny_dictSet_heap (hsz:=by rw [<- Jh ev];exact z) (show (K6 (KT.numKind X.prog X.w)).room X.A from by show X.A.units < KG;lia) (eY (X:=aj X scope (tg++cs) C fp s2 H2) I11 sq) dd fun h' dd' hs'=>?_)))
          have I12:Inv (aj X scope (tg++cs) C fp s2 H2) [] σ8 H11 s11:=I11.pins_of fun p hp=>nomatch hp
          have I13:Inv (aj X scope (tg++cs) C fp s2 H2) [] σ8 H11 { s11 with heap:=h',toks:=s11.toks+(K6 (KT.numKind X.prog X.w)).draws ms }:=
            I12.turned (fun b o hb e=>(hs'.2 b hb).trans e) p3 hDC (.inr (by show s2.heap.objs.size<=D;rw [hDg];exact FX _)) DcY (fun p hp=>nomatch hp)
          obtain ⟨qo,qd,qe,h1q,h2q,h3q,h4q,_,h5q⟩:=dd'
          refine F7 ⟨rfl,J9 I13 kp8 (fun b hb o e=>(hs'.2 b (fun z:b=D=>Dfp (z▸hb))).trans (p1 b hb o e)) p2 p3 h1q ⟨?_,m,?_,_,ev.put ms rv,qo,qd,qe,h1q,h2q,h3q,h4q⟩ nx⟩
          · have:=iI es ms b v;lia
          · rw [(ev.put ms rv).keys];exact h5q
    · rw [e4];exact T.keep _ _ _ st2 fun b _ o e=>old b o e
  exact codeAny_compStart_dict (loop _ rfl) (T.self _ 0 _ _ _ (T.keep _ _ _ st2 fun b _ o e=>old b o e) (loop _ rfl))
end
end L2
namespace VL
open PySem L2 PySem.W
section
variable {X:Cx} {K:FO} {m:Bool} {e:Expr} {te:TE} {va:VT} {pos:Pos}
theorem ko {N:AP} {k:List Int}:∀{es:List (List Int×Addr×V)} {kvs:List (List Int×D)},es.map (·.1)=kvs.map (·.1)->Reps K N F H (es.map (·.2.2)) (kvs.map (·.2)) ->
  (atE es k=none/\getA kvs k=none)\/∃v d,atE es k=some v/\getA kvs k=some d/\Rep K N F H v d
 | [],[],_,_=>.inl ⟨rfl,rfl⟩
 | [],_::_,h,_=>by cases h
 | _::_,[],h,_=>by cases h
 | e::es,p::ps,h,.cons r t=>by
  have h1:e.1=p.1:=(L9 h).1
  by_cases z:p.1=k
  ·exact .inr ⟨e.2.2,p.2,by simp [atE,h1,z],by simp [getA,z],r⟩
  ·rcases ko (k:=k) (L9 h).2 t with ⟨a,b⟩ | ⟨v,d,a,b,r⟩
   ·exact .inl ⟨by simpa [atE,Hz,h1,z] using a,by simpa [getA,Hz,z] using b⟩
   ·exact .inr ⟨v,d,by simpa [atE,Hz,h1,z] using a,by simpa [getA,Hz,z] using b,r⟩
def EI (i:Nat) (vn:VTN):VT:=fun S Q=>(∃ds,S[i]?=some (.own ds))/\vn S fun ds2 S1=>∃ds,S1[i]?=some (.own ds)/\ds.length+ds2.length<=1000000/\Q (.d .non) (S1.set i (.own (ds++ds2)))
theorem sS {apos:Pos} {o:Expr} {vn:VTN} (i:Nat) (hK:X.K=K) (ho:PE X o (cA i)) (h:VN K X e te vn) (hbase:Jn o "extend" X.env (eval o X.env)=eval o X.env:=by rfl)
  (hfew:((IV pos (Gi (e::[]) X.env)).all (fun x=>!x.1)&&(M8 pos (LN [] X.env)).all (fun x=>x.1.isSome)
   && decide ((e::[]).length+([]:List LO).length+(if ([]:List LO).isEmpty then 0 else 1) < 30))=true:=by rfl)
  (hline:(apos.endLine==pos.line)=true:=by rfl) (hs:Gi (e::[]) X.env=(false,eval e X.env)::Gi [] X.env:=by rfl) (hplain:(IV pos (Gi [] X.env)).any (·.1)=false:=by rfl) :
  VE K X m (.Call (.Attribute o "extend" apos) [e] [] pos) (tBM K "list" nQ (cA i) (dX te i7)) (EI i vn):=
 ⟨by subst hK;exact qQ Jo PySem.F.slot_list_extend PySem.F.type_list_extend pD ho (cL h.pe fx hs) hbase hfew hline hs hplain,fun H0 Z σ H S Q C k zq1 hc=>by
  obtain ⟨⟨ds0,e0⟩,t⟩:=zq1
  obtain ⟨o,h1,a,vs,rfl,h2,h3,h4⟩:=k.ownAt e0
  refine ⟨.ref a,h1,.inl ⟨rfl,vs,.inl (.inl h2)⟩,?_⟩
  refine h.snd H0 Z σ H S _ _ k t fun b us ds2 H1 H' S1 k1 st1 hb hg hl rr zr1=>?_
  obtain ⟨ds,e1,hlen,q⟩:=zr1
  have k':=k1.grow hg
  obtain ⟨o',g1,a',vs',rfl,g2,g3,g4⟩:=k'.ownAt e1
  rw [h1] at g1;cases g1
  have l1:=g4.length
  have l2:=rr.length
  refine ⟨a,b,vs',us,rfl,rfl,g2,hl,by rw [G9];lia,?_⟩
  have na:NM Z σ S1 a->False:=fun n=>n (.inl ⟨i,_,e1,rfl,h1⟩)
  have hm:∀c,NM Z σ S1 c->H' c≠none->NM Z σ S1 c/\upd H' a (.lst (vs'++us)) c=H' c:=fun c n _=>⟨n,aw fun z=>na (by rw [<- z];exact n)⟩
  obtain ⟨k2,st2⟩:=k'.chg (s:=.own (ds++ds2)) (o:=.lst (vs'++us)) e1 rfl h1 ⟨_,rfl⟩ rfl ⟨a,_,rfl,az,g3,Reps.append (g4.mono hm fun _ x=>x) (rr.mono (fun c n z=>hm c n.1 z) fun _ x=>x)⟩
  exact hc .non _ (.d .non) _ k2 ((st1.trans (.grow hg)).trans st2) Rep.non q⟩
end
section
variable {K:FO} {X:Cx} {kx vx iter:Expr} {pos:Pos}
theorem BH {H0 H:Hp} {y:V} {ri:VR} {m:Bool} (rr:eu K (FM H0 m) Z σ S H y ri) (ek:get S ri=some (kT ms)):∃b,y=.ref b/\SqT K H b (ms.map L2.V.int)/\Rep K (NM Z σ S) AnyF H (.ref b) (kT ms):=by
 cases ri with
 | d z=>
  cases ek
  obtain ⟨b,vs,rfl,hq,r2⟩:=Rep.sqT (show Rep K _ _ H y (.tup (ms.map D.int)) from rr)
  cases Reps.toInts r2
  exact ⟨b,rfl,hq,Rep.mono (fun _ n _=>⟨n,rfl⟩) (fun _ _=>trivial) rr⟩
 | own j=>
  have ek:getO S[j]?=some (kT ms):=ek
  cases e:S[j]? with
  | none=>rw [e] at ek;cases ek
  | some s=>rw [e] at ek;cases s <;> cases ek
def sT (vi:VTN) (n:Nat) (ix:List Nat) (vg:VG) (vt:VTT) (vk vv:VT):VTD:=fun S Q=>vi S fun ds S1=>ds.length<=1000000/\∃Iv:Nat->List (List Int×D)->List Sl->Prop,Iv 0 [] S1 /\
 (∀i d kvs S2,ds[i]?=some d->Iv i kvs S2->vg d (bg n ix S2) fun S3=>vt S3 fun b S4=>if b=true then vk S4 fun rk S5=>vv S5 fun rv S6=>∃ms x,get S6 rk=some (kT ms)/\rv=.d x/\Iv (i+1) (cE kvs ms x) (backS n ix S2 S6) else Iv (i+1) kvs (backS n ix S2 S4)) /\
 ∀kvs S2,Iv ds.length kvs S2->Q kvs S2
theorem wm {ifs:List Expr} {scope:IR} {tg cs:List Str} {target:Expr} {wi:TI} {vi:VTN} {g:TG} {vg:VG} {tc:TT} {vt:VTT} {tk tv:TE} {vk vv:VT} (hK:X.K=K) (hu:X.A.units+64 < KG) (Sc:aR X scope tg cs ix) (hcalm:X.calm=true) (kg:cT tg.length ix g) (hnd:ix.Nodup)
    (hi:VI K X target iter wi vi) (hg:∀C fp s H,VGe K (aj X scope (tg++cs) C fp s H) target g vg) (hc:∀C fp s H,VTs K (aj X scope (tg++cs) C fp s H) ifs tc vt) (hk:∀C fp s H,VE K (aj X scope (tg++cs) C fp s H) false kx tk vk) (hv:∀C fp s H,VE K (aj X scope (tg++cs) C fp s H) true vx tv vv)
    (hs:∀x,Gj iter X.env x=pure x:=by intro _;rfl):VDe K X (.DictComp kx vx [⟨target,iter,ifs,0⟩] scope pos) (sQ K wi tg.length ix g tc tk tv) (sT vi tg.length ix vg vt vk vv):=by
  have sg:SndG K g vg:=(hg 0 [] X.s₀ (fun _=>none)).snd
  have sc:SndT K tc vt:=(hc 0 [] X.s₀ (fun _=>none)).snd
  have sk:SndE K false tk vk:=(hk 0 [] X.s₀ (fun _=>none)).snd
  have sv:SndE K true tv vv:=(hv 0 [] X.s₀ (fun _=>none)).snd
  refine ⟨by subst hK;exact sR hu Sc hcalm kg hi.pi (fun C fp s H=>(hg C fp s H).pg) (fun C fp s H=>(hc C fp s H).pe) (fun C fp s H=>(hk C fp s H).pe) (fun C fp s H=>(hv C fp s H).pe) hs,fun H0 Z σ H S Q C k t hq=>?_⟩
  refine hi.snd H0 Z σ H S _ _ k t fun J ds H1 S1 k1 st1 gd zr1=>?_
  obtain ⟨hl,Iv,i0,hs,hd⟩:=zr1
  refine ⟨fun i m es H=>m=ds.length-i/\i<=ds.length/\es.length<=i/\∃S2 kvs,OK K H0 Z σ H S2/\Step Z σ S1 H1 σ S2 H/\es.map (·.1)=kvs.map (·.1)/\Reps K (NM Z σ S2) AnyF H (es.map fun x=>V.ref x.2.1) ((kvs.map (·.1)).map kT)/\Reps K (NM Z σ S2) (Fr H0) H (es.map (·.2.2)) (kvs.map (·.2))/\Iv i kvs S2,
    ⟨ds.length,by simp,HM _,FX _,S1,[],k1,.refl,rfl,.nil,.nil,i0⟩,?_⟩
  rintro i m es H2 ⟨rfl,hi,hy,S2,kvs,k2,st2,ek,rk,rz,p⟩
  obtain ⟨g1,g2,g3⟩:=gd σ S2 H2 (fun _=>k2.nm) st2.1 i
  have hsz:(1000000:Nat) < GG:=by rw [G9];lia
  by_cases hlt:i < ds.length
  · refine .inr ⟨g1 hlt,by lia,fun es' H'=>es'.length<=i+1/\∃S' kvs',OK K H0 Z σ H' S'/\Step Z σ S1 H1 σ S' H'/\es'.map (·.1)=kvs'.map (·.1)/\Reps K (NM Z σ S') AnyF H' (es'.map fun x=>V.ref x.2.1) ((kvs'.map (·.1)).map kT)/\Reps K (NM Z σ S') (Fr H0) H' (es'.map (·.2.2)) (kvs'.map (·.2))/\Iv (i+1) kvs' S',
      fun es' H' zt1=>by obtain ⟨p1,p2⟩:=zt1;exact ⟨ds.length-(i+1),by lia,rfl,hlt,p1,p2⟩,fun x H3 y=>?_⟩
    obtain ⟨hgr,d,hd',rd⟩:=g2 x H3 y hlt
    replace k2:=k2.grow hgr
    replace st2:=st2.trans (.grow hgr)
    replace rk:=rk.step (.grow hgr)
    replace rz:=rz.step (.grow hgr)
    have kc:=k2.capt (n:=tg.length) hnd
    have rd':Rep K (NM (Zin Z ix σ S2) (L2.capt tg.length ix σ) (bg tg.length ix S2)) AnyF H3 x d:=rd.mono (fun a n _=>⟨fun z=>n (eH.mp z),rfl⟩) fun _ x=>x
    have h1:=sg H0 _ _ H3 _ x d _ (fun σ4 H4=>∃S4,OK K H0 (Zin Z ix σ S2) σ4 H4 S4/\Step (Zin Z ix σ S2) (L2.capt tg.length ix σ) (bg tg.length ix S2) H3 σ4 S4 H4/\vt S4 fun b S5=>if b=true then vk S5 fun rk S6=>vv S6 fun rv S7=>∃ms x,get S7 rk=some (kT ms)/\rv=.d x/\Iv (i+1) (cE kvs ms x) (backS tg.length ix S2 S7) else Iv (i+1) kvs (backS tg.length ix S2 S5)) kc rd' (hs i d kvs S2 hd' p) (fun σ4 H4 S4 k4 st4 q4=>⟨S4,k4,st4,q4⟩)
    have h2:=kg x σ H3 _ h1
    refine (hg 0 [] X.s₀ (fun _=>none)).mono _ _ _ _ _ ?_ h2
    rintro σ4 H4 ⟨⟨hl4,hσ4⟩,S4,k4,st4,q4⟩
    refine sc H0 _ σ4 H4 S4 _ _ k4 q4 fun bb H5 S5 k5 st5 q5=>?_
    cases bb with
    | false=>
      rw [if_neg F4] at q5 ⊢
      obtain ⟨kb,sb,nb⟩:=k2.back k5 (st4.trans st5) hσ4
      exact ⟨by lia,_,kvs,kb,st2.trans sb,ek,rk.step sb,rz.step sb,q5⟩
    | true=>
      rw [if_pos rfl] at q5 ⊢
      refine sk H0 _ σ4 H5 S5 _ _ k5 q5 fun yy H6 ry S6 k6 st6 rry q6=>?_
      refine sv H0 _ σ4 H6 S6 _ _ k6 q6 fun vv' H7 rv S7 k7 st7 rrv zr1=>?_
      obtain ⟨ms,xx,e1,er,q7⟩:=zr1
      subst er
      obtain ⟨b,rfl,sq,rb⟩:=BH (rry.step st7) e1
      obtain ⟨kb,sb,nb⟩:=k2.back k7 (((st4.trans st5).trans st6).trans st7) hσ4
      have rk':=rk.step sb
      have rz':=rz.step sb
      obtain ⟨z1,z2,z3⟩:=oo (k:=ms) (b:=b) (v:=vv') (d:=xx) (F:=Fr H0) (F':=AnyF) (Rep.mono (fun a n _=>⟨nb a n,rfl⟩) (fun _ x=>x rfl) rrv) (Rep.mono (fun a n _=>⟨nb a n,rfl⟩) (fun _ x=>x) rb) ek rk' rz'
      refine ⟨b,ms,rfl,SqN.of sq,dB (by rw [ek];exact rk'),?_,_,cE kvs ms xx,kb,st2.trans sb,z1,z2,z3,q7⟩
      have:=iI es ms b vv'
      lia
  · have e:i=ds.length:=by lia
    refine .inl ⟨g3 e,fun l ob hp=>?_⟩
    exact hq l es kvs H2 _ S2 k2 (st1.trans st2) hp (aQ hp) ⟨ob,az⟩ ek (rk.mono (fun a n e=>⟨⟨n,fun z=>e (z▸hp)⟩,aw fun z=>e (z▸hp)⟩) fun _ x=>x) (bJ hp (rz.mono (fun _ n _=>⟨n,rfl⟩) fun _ x _=>x)) (hd kvs S2 (by rw [<- e];exact p))
end
end VL
end
section
namespace L2
open PySem PySem.Spec PyProof.Rows PySem.W
abbrev lso (its:List FU) (k:Nat):Obj:={ cls:=.type "list",data:=.seq its.toArray k }
abbrev two_of (elt t1 i1 t2 i2:Expr) (f1 f2:List Expr) (scope:IR) (pos:Pos):Expr:=.ListComp elt [⟨t1,i1,f1,0⟩,⟨t2,i2,f2,0⟩] scope pos
section
variable {elt t1 i1 t2 i2:Expr} {f1 f2:List Expr} {scope:IR} {pos:Pos}
theorem wo (it acc:FU) (env:Env):JA (two_of elt t1 i1 t2 i2 f1 f2 scope pos) 1 it acc env=(do { IW i2.pos;match <- Mz it with | none=>pure (.done .next) | some v=>(do { IN t2 it v;I0 t2 env v;let mut ok:=true;for c in f2 do { if ok then { ok <- LG c env (eval c env) } };if ok then { (do { let _ <- call (.builtin "list.append") [acc,<- eval elt env] }) };J9 (.compLoop (two_of elt t1 i1 t2 i2 f1 f2 scope pos) 1 it acc env) }) }):=by rfl
theorem lW (it acc:FU) (env:Env):JA (two_of elt t1 i1 t2 i2 f1 f2 scope pos) 0 it acc env=(do { IW i1.pos;match <- Mz it with | none=>pure (.done .next) | some v=>(do { IN t1 it v;I0 t1 env v;let mut ok:=true;for c in f1 do { if ok then { ok <- LG c env (eval c env) } };if ok then { let x <- eval i2 env;IW i2.pos;let x <- Gj i2 env x;let _ <- runOwn (.compStart (two_of elt t1 i1 t2 i2 f1 f2 scope pos) 1 (<- IY [x] (MA x)) acc env) env };J9 (.compLoop (two_of elt t1 i1 t2 i2 f1 f2 scope pos) 0 it acc env) }) }):=by rfl
theorem sU {P:GD} {w:Hg} {A:Ho} {R:Result->FW->Prop} {s:FW} {it acc:FU} {env:Env} (h0:IK (GM P w) A (.compLoop (two_of elt t1 i1 t2 i2 f1 f2 scope pos) 1 it acc env) R s)
  (h:GU (GM P w) A (MA it) (fun y s'=>IK (GM P w) A (.compLoop (two_of elt t1 i1 t2 i2 f1 f2 scope pos) 1 y acc env) R s') (notedBy (GM P w) A env fun x s'=>R (.error x) s') s) :
  IK (GM P w) A (.compStart (two_of elt t1 i1 t2 i2 f1 f2 scope pos) 1 it acc env) R s:=by
 refine Lh (Ma (m:=compStart (two_of elt t1 i1 t2 i2 f1 f2 scope pos) 1 it acc env) ?_)
 unfold compStart
 refine (show GU _ _ (ask >>= _) _ _ s from FR (KU (wpAny_ite ?_)))
 split
 ·exact F7 ⟨rfl,h0⟩
 ·exact FR (IT (FR (m:=IW i2.pos) (Hd (FR (Gy h (fun y s' q=>F7 ⟨rfl,q⟩) fun _ _ x=>x)))))
def tIn (wi:TI) (g:TG) (tc:TT) (te:TE) (σ:St) (ys:List V) (Nx:List V->Hp->Prop) (H:Hp):Prop:=wi σ H fun J H1=>∃W:Nat->Nat->List V->Hp->Prop,(∃m,W 0 m ys H1)/\∀j m zs H2,W j m zs H2 ->
 (J.stop j H2/\Nx zs H2)\/(J.go j H2/\zs.length < GG/\∃N2:List V->Hp->Prop,(∀zs' H',N2 zs' H'->∃m',m' < m/\W (j+1) m' zs' H') /\
  ∀x H3,J.yld j H2 x H3->g x σ H3 fun σ4 H4=>tc σ4 H4 fun b H5=>if b=true then te σ4 H5 fun v H6=>N2 (zs++[v]) H6 else N2 zs H5)
def sV (σ:St) (g:TG):Prop:=∀x H Q,g x σ H Q->g x σ H fun σ2 H2=>(σ2.length=σ.length/\∀(i:Nat) (v:V),σ[i]?=some (some v)->σ2[i]?=some (some v))/\Q σ2 H2
theorem oz {Y:Cx} {wi:TI} {g:TG} {tc:TT} {te:TE} {s:FW} {D:Addr} {ys:List V} {its:List FU} {k:Nat} {Nx:List V->Hp->Prop} (hcalm:Y.calm=true) (hxe:∀e s,¬Y.xe e s)
  (hi:PI Y t2 i2 wi) (hg:PG Y t2 g) (hc:PTs Y f2 tc) (he:PE Y elt te) (kg:sV σ g) (I:Inv Y pins σ H s) (dL:D≠Y.env.locals) (dF:D∉Y.fs) (dS:Y.s₀.heap.objs.size<=D) (dC:∀x c,Y.env.cells.lookup x=some c->c≠D)
  (dP:∀p∈Y.pn++pins,p.1≠D) (dn:H D=none) (dg:s.heap.get? D=some (lso its k)) (vy:Vals ys its) (h:tIn wi g tc te σ ys Nx H) (hs:∀x,Gj i2 Y.env x=pure x) {α:Type} {r:Sem α} {Q:α->FW->Prop} {E:FU->FW->Prop}
  (fin:∀s' ys' its' k' H',Inv Y pins σ H' s'->H' D=none->s'.heap.get? D=some (lso its' k')->Vals ys' its'->Nx ys' H'->GU (GM Y.prog Y.w) Y.A r Q E s') :
  GU (GM Y.prog Y.w) Y.A (do { let x <- eval i2 Y.env;IW i2.pos;let x <- Gj i2 Y.env x;let _ <- runOwn (.compStart (two_of elt t1 i1 t2 i2 f1 f2 scope pos) 1 (<- IY [x] (MA x)) (.ref D) Y.env) Y.env;r }) Q E s:=by
 have nc:∀(its:List FU) (k:Nat) v,(lso its k).data≠.cell v:=fun its k v z=>by have z':KI _ _=Ji v:=z;cases z'
 have pinD:∀{H':Hp} {s':FW} {its':List FU} {k':Nat},Inv Y pins σ H' s'->H' D=none->s'.heap.get? D=some (lso its' k')->Inv Y (pins++[(D,lso its' k')]) σ H' s':=fun I' n' g'=>I'.pins_of fun p hp=>by
  rcases List.mem_append.mp hp with hp | hp
  ·exact I'.pin p (FQ _ hp)
  ·rw [List.mem_singleton.mp hp];exact ⟨g',n',dL,dF,nc _ _⟩
 refine FR (Gy (hi _ s σ H _ (pinD I dn dg) h) (fun v s1 h1=>?_) fun e s z=>(hxe e s z).elim)
 refine FR (Hd ?_)
 rw [hs]
 refine FR (F7 (FR (Hn (Gy h1 (fun itv s2 h2=>?_) fun e s z=>(hxe e s z).elim))))
 obtain ⟨it,fp,tn,J,H2,rfl,I2,T,st2,f2',W,⟨m0,w0⟩,turn⟩:=h2
 have Dfp:D∉fp:=fun z=>(f2' D z).2.2.2.2.2 (D,lso its k) (FQ _ (FQ _ FZ)) rfl
 have stat:∀{H':Hp} {its':List FU} {k':Nat},(∀b∈fp,H' b=none)->∀b∈fp,d9 Y (pins++[(D,lso its' k')]) H' b:=fun hn b hb=>by
  obtain ⟨_,a1,a2,a3,a4,a5⟩:=f2' b hb
  refine ⟨hn b hb,a1,a2,a3,a4,fun p hp z=>?_⟩
  rcases List.mem_append.mp hp with hp | hp
  ·exact a5 p (Gu _ hp) z
  ·rcases List.mem_append.mp hp with hp | hp
   ·exact a5 p (FQ _ (Gu _ hp)) z
   ·rw [List.mem_singleton.mp hp] at z;have z:D=b:=z;exact Dfp (z▸hb)
 have d2:=I2.pin (D,lso its k) (FQ _ (FQ _ FZ))
 have loop:IK (GM Y.prog Y.w) Y.A (.compLoop (two_of elt t1 i1 t2 i2 f1 f2 scope pos) 1 (.ref it) (.ref D) Y.env) (fun res s'=>match res with | .ok _=>GU (GM Y.prog Y.w) Y.A r Q E s' | .error e=>cameBackBy (GM Y.prog Y.w) Y.A Y.env E e s') s2:=by
  refine Jf rfl (fun n s'=>∃j zs its k H',Inv Y pins σ H' s'/\tn j s'.heap/\(∀b∈fp,H' b=none)/\H' D=none/\s'.heap.get? D=some (lso its k)/\Vals zs its/\W j n zs H') ?_ m0 ⟨0,ys,its,k,H2,I2.unpinned,st2,fun b hb=>(f2' b hb).1,d2.2.1,d2.1,vy,w0⟩
  rintro n s5 ⟨j,zs,its5,k5,H5,I5,st5,fr5,d5,o5,v5,w5⟩
  refine Jw (m:=JA (two_of elt t1 i1 t2 i2 f1 f2 scope pos) 1 (.ref it) (.ref D) Y.env) ?_
  rw [wo]
  have pin0:=pinD I5 d5 o5
  refine FR (Hd (FR ?_))
  rcases turn j n zs H5 w5 with ⟨stop,qn⟩ | ⟨go,hz,N2,hN,step⟩
  ·refine thn (T.done Y rfl rfl rfl hcalm j _ s5 _ H5 _ pin0 (stat fr5) st5 stop) fun r s6 zr1=>?_
   obtain ⟨hr,I6⟩:=zr1
   subst hr
   have d6:=I6.pin (D,lso its5 k5) (FQ _ (FQ _ FZ))
   exact F7 (fin s6 zs its5 k5 H5 I6.unpinned d5 d6.1 v5 qn)
  ·refine thn (T.item Y rfl rfl rfl hcalm j _ s5 _ H5 _ pin0 (stat fr5) st5 go) fun r s6 zr1=>?_
   obtain ⟨u,hr,h6⟩:=zr1
   subst hr
   refine FR (thn h6 fun _ s7 zr1=>?_)
   obtain ⟨x,H7,I7,r7,y7,st7,fr7⟩:=zr1
   have I7':=I7.pinned (stat fr7) (T.obj _ _ st7)
   have pinsOf:∀{σ':St} {H':Hp} {s':FW},Inv Y ((pins++[(D,lso its5 k5)])++bQ fp s7.heap) σ' H' s' ->
     (∀b∈fp,∀o,s7.heap.get? b=some o->s'.heap.get? b=some o)/\(∀b∈fp,H' b=none)/\H' D=none/\s'.heap.get? D=some (lso its5 k5):=by
    intro σ' H' s' I'
    have dd:=I'.pin (D,lso its5 k5) (FQ _ (Gu _ (FQ _ FZ)))
    refine ⟨fun b hb o e=>(I'.pin (b,o) (FQ _ (FQ _ (aN hb e)))).1,fun b hb=>?_,dd.2.1,dd.1⟩
    obtain ⟨o,e,d⟩:=T.obj _ _ st7 b hb
    exact (I'.pin (b,o) (FQ _ (FQ _ (aN hb e)))).2.1
   have J9:∀{σ2:St} {H8:Hp} {s8:FW} {zs':List V} {its':List FU} {k':Nat},Inv Y pins σ2 H8 s8->(σ2.length=σ.length/\∀(i:Nat) (v:V),σ[i]?=some (some v)->σ2[i]?=some (some v))->(∀b∈fp,∀o,s7.heap.get? b=some o->s8.heap.get? b=some o)->(∀b∈fp,H8 b=none) ->
     H8 D=none->s8.heap.get? D=some (lso its' k')->Vals zs' its'->N2 zs' H8->∃m,m < n/\∃j zs its k H',Inv Y pins σ H' s8/\tn j s8.heap/\(∀b∈fp,H' b=none)/\H' D=none/\s8.heap.get? D=some (lso its k)/\Vals zs its/\W j m zs H':=by
    intro σ2 H8 s8 zs' its' k' I8 kp fk fn dn' dg' vv nx
    obtain ⟨m',hm,w8⟩:=hN zs' H8 nx
    exact ⟨m',hm,j+1,zs',its',k',H8,I8.weak kp.1.symm kp.2,T.keep _ _ _ st7 fk,fn,dn',dg',vv,w8⟩
   refine FR (Gy (hg _ s7 _ H7 x u _ I7' r7 (kg x H7 _ (step x H7 y7))) (fun _ s8 zr1=>?_) fun e s z=>(hxe e s z).elim)
   obtain ⟨σ8,H8,I8,kp8,q8⟩:=zr1
   refine FR (Gy (hc _ s8 σ8 H8 _ I8 q8) (fun ok s9 zr1=>?_) fun e s z=>(hxe e s z).elim)
   obtain ⟨H9,I9,q9⟩:=zr1
   cases ok with
   | false=>
    obtain ⟨p1,p2,p3,p4⟩:=pinsOf I9
    exact F7 ⟨rfl,J9 I9.unpinned.unpinned kp8 p1 p2 p3 p4 v5 q9⟩
   | true=>
    have q9:te σ8 H9 fun v H6=>N2 (zs++[v]) H6:=q9
    refine FR (FR (Gy (he _ s9 σ8 H9 _ I9 q9) (fun y s10 zr1=>?_) fun e s z=>(hxe e s z).elim))
    obtain ⟨v,H10,I10,rv,nx⟩:=zr1
    obtain ⟨p1,p2,p3,p4⟩:=pinsOf I10
    have hl5:=v5.length
    refine FR (JT F.slot_list_append ⟨_,p4,rfl⟩ F.entry_list_append (F.args_list_append_2 _ _) (Ju D its5.toArray k5 y (by rw [Ge];lia)) ⟨p4,?_⟩)
    have g10:=JH p4 (·.push y)
    rw [show its5.toArray.push y=(its5++[y]).toArray by simp] at g10
    have I12:Inv Y pins σ8 H10 { s10 with heap:=s10.heap.update D (Hq (·.push y)) }:=
     I10.unpinned.unpinned.turned (t':=s10.toks) (fun b o hb e=>(Hw s10.heap (Hq (·.push y)) (Ia hb)).trans e) p3 dL (.inr dS) dC dP
    refine F7 (F7 ⟨rfl,J9 (its':=its5++[y]) I12 kp8 (fun b hb o e=>?_) p2 p3 g10 (v5.append (.cons rv .nil)) nx⟩)
    exact (Hw s10.heap (Hq (·.push y)) (fun z:D=b=>Dfp (z▸hb))).trans (p1 b hb o e)
 refine FR (wpAny_runOwn (sU (A:=Y.A) loop (T.self _ 0 _ _ _ st2 loop)))
end
section
variable {X:Cx}
def kq (wi:TI) (n:Nat) (ix:List Nat) (g:TG) (tc:TT) (wi2:TI) (g2:TG) (tc2:TT) (te:TE):TE:=fun σ H Q=>wi σ H fun J H1=>∃W:Nat->Nat->List V->Hp->Prop,(∃m,W 0 m [] H1)/\∀i m ys H2,W i m ys H2 ->
 (J.stop i H2/\ys.length<=GG/\∀D,H2 D=none->Q (.ref D) (upd H2 D (.lst ys))) \/
 (J.go i H2/\∃Nx:List V->Hp->Prop,(∀ys' H',Nx ys' H'->∃m',m' < m/\W (i+1) m' ys' H') /\
  ∀x H3,J.yld i H2 x H3->g x (capt n ix σ) H3 fun σ2 H4=>tc σ2 H4 fun b H5=>if b=true then tIn wi2 g2 tc2 te σ2 ys Nx H5 else Nx ys H5)
def gk (n:Nat) (ix:List Nat) (g g2:TG):Prop:=∀x σ H Q,g x (capt n ix σ) H Q->g x (capt n ix σ) H fun σ2 H2=>((σ2.length=(capt n ix σ).length/\∀(i:Nat) (v:V),(capt n ix σ)[i]?=some (some v)->σ2[i]?=some (some v))/\sV σ2 g2)/\Q σ2 H2
theorem fY {n:Nat} {a b:Nat} (ha:a < n) (hb:b < n) (hab:a≠b):gk n ix (aX a) (aX b):=fun x σ H Q q=>by
 obtain ⟨kp,q⟩:=bh ha x σ H Q q
 refine ⟨⟨kp,fun y H' Q' q'=>⟨⟨by simp,fun i v e=>?_⟩,q'⟩⟩,q⟩
 by_cases hi:b=i
 ·subst hi
  rw [Gh hab] at e
  exact (bN hb e).elim
 ·rw [Gh hi];exact e
theorem sW {elt t1 i1 t2 i2:Expr} {f1 f2:List Expr} {scope:IR} {pos:Pos} {tg cs:List Str} {wi wi2:TI} {g g2:TG} {tc tc2:TT} {te:TE} (S:aR X scope tg cs ix) (hcalm:X.calm=true) (kg:gk tg.length ix g g2)
    (hi:PI X t1 i1 wi) (hg:∀C fp s H,PG (aj X scope (tg++cs) C fp s H) t1 g) (hc:∀C fp s H,PTs (aj X scope (tg++cs) C fp s H) f1 tc) (hi2:∀C fp s H,PI (aj X scope (tg++cs) C fp s H) t2 i2 wi2) (hg2:∀C fp s H,PG (aj X scope (tg++cs) C fp s H) t2 g2) (hc2:∀C fp s H,PTs (aj X scope (tg++cs) C fp s H) f2 tc2) (he:∀C fp s H,PE (aj X scope (tg++cs) C fp s H) elt te)
    (hs:∀x,Gj i1 X.env x=pure x:=by intro _;rfl) (hs2:∀(e:Env) x,Gj i2 e x=pure x:=by intro _ _;rfl):PE X (two_of elt t1 i1 t2 i2 f1 f2 scope pos) (kq wi tg.length ix g tc wi2 g2 tc2 te):=by
  intro pins s σ H Q I h
  rw [eval_ListComp]
  refine HV (use:=none) (cl:=bF X.env scope.names []) rfl hs (cS fun n hn=>I.ok.has n (S.out n hn)) S.kind S.names ?_
  refine Gy (hi pins s σ H _ I h) (fun v s1 h1=>Gy h1 (fun itv s2 h2=>?_) fun _ _ e=>e) fun _ _ e=>e
  obtain ⟨it,fp,tn,J,H2,rfl,I2,T,st2,fpk,W,⟨m0,w0⟩,turn⟩:=h2
  refine HC (Ip S.nocell (by intro y hy;simp at hy) (fun h1 hns1 hsb1=>?_) S.kind)
  dsimp only at hns1 hsb1 ⊢
  generalize hP:s2.heap.push { cls:=.type "list",dict:=none,data:=.seq ([]:List FU).toArray }=P2 at hns1 hsb1 ⊢
  have hCs:P2.objs.size=s2.heap.objs.size+1:=by rw [<- hP,Jz]
  have hDC:s2.heap.objs.size≠P2.objs.size:=by rw [hCs];exact GO (Ij _)
  have hCle:s2.heap.objs.size<=P2.objs.size:=by rw [hCs];exact IP _
  generalize hCg:P2.objs.size=C at *
  have old:∀b o,s2.heap.get? b=some o->h1.get? b=some o:=fun b o e=>hsb1.extBut b o (GO (Gr (Gg e) hCle)) (FT _ (hP▸FT _ e))
  generalize hDg:s2.heap.objs.size=D at *
  have hD0:h1.get? D=some { cls:=.type "list",data:=.seq ([]:List FU).toArray 0 }:=hsb1.extBut _ _ hDC (FT _ (hP▸hDg▸Gn _ rfl))
  have nC:H2 C=none:=I2.hok.fresh (by rw [hDg];exact hCle)
  have nD:H2 D=none:=I2.hok.fresh (by rw [hDg];exact FX _)
  have fo:∀b∈fp,∃o,s2.heap.get? b=some o:=fun b hb=>let ⟨o,e,_⟩:=T.obj _ _ st2 b hb;⟨o,e⟩
  have Dfp:D∉fp:=fun z=>by
    obtain ⟨o,e⟩:=fo D z
    have:=Gg e
    rw [hDg] at this
    exact absurd this (Hb _)
  have Dfs:D∉frs X.stack:=fun z=>by
    rcases List.mem_cons.mp (I2.stkSub D z) with e | e
    · have:=I2.lt
      rw [<- e,hDg] at this
      exact absurd this (Hb _)
    · exact I2.nofs (by rw [hDg];exact FX _) e
  have DcY:∀x c,(bF X.env scope.names []).lookup x=some c->c≠D:=fun x c e=>by
    rcases cR (G4 e) with h | h
    · cases h
    · exact (I2.fpOk (H':=H2) (b:=D) (by rw [hDg];exact FX _) nD).2.2.2.2.1 x c h
  -- the block's context
  have Yok:∀s4:FW,s4={ s2 with heap:=h1,toks:=s2.toks+([]:List (Str×FU)).length }->Inv (aj X scope (tg++cs) C fp s2 H2) [] (capt tg.length ix σ) H2 s4:=by
    rintro s4 rfl
    exact eh S I2 fpk fo (by rw [hDg];exact hCle) old (by simpa using hns1) rfl I2.bare nC
  -- the loop
  have loop:∀s4:FW,s4={ s2 with heap:=h1,toks:=s2.toks+([]:List (Str×FU)).length } ->
      IK (GM X.prog X.w) X.A (.compLoop (two_of elt t1 i1 t2 i2 f1 f2 scope pos) 0 (.ref it) (.ref D) (ID scope (bF X.env scope.names []) C X.env)) (L7 (GM X.prog X.w) X.A X.xe none (EP X pins σ Q) (.ref D) C) s4:=by
    intro s4 e4
    refine Jf rfl (fun n s'=>∃i ys its k H',Inv (aj X scope (tg++cs) C fp s2 H2) [] (capt tg.length ix σ) H' s'/\tn i s'.heap/\(∀b∈fp,H' b=none)/\H' D=none/\s'.heap.get? D=some (lso its k)/\Vals ys its/\W i n ys H')
      ?_ m0 ⟨0,[],[],0,H2,Yok s4 e4,?_,fun b hb=>(fpk b hb).1,nD,by rw [e4];exact hD0,.nil,w0⟩
    · rintro n s5 ⟨i,ys,its,k,H5,I5,st5,fr5,d5,o5,v5,w5⟩
      show GU _ X.A ((JA (two_of elt t1 i1 t2 i2 f1 f2 scope pos) 0 (.ref it) (.ref D) (ID scope (bF X.env scope.names []) C X.env)).onRaise (fun x=>do Lg x (ID scope (bF X.env scope.names []) C X.env);IQ x)) _ _ s5
      refine Jw ?_
      rw [lW]
      have pin0:Inv (aj X scope (tg++cs) C fp s2 H2) [(D,(lso its k))] (capt tg.length ix σ) H5 s5:=I5.pins_of fun p hp=>by
        have e:p=(D,(lso its k)):=by simpa using hp
        subst e
        exact ⟨o5,d5,hDC,Dfs,fun v z=>by have z':KI _ _=Ji v:=z;cases z'⟩
      have fpY:∀{H':Hp},(∀b∈fp,H' b=none)->∀b∈fp,d9 (aj X scope (tg++cs) C fp s2 H2) [(D,(lso its k))] H' b:=fun hn b hb=>
        ⟨hn b hb,(I5.ok.exf b hb).1,fun z=>I5.ok.exfs b hb z,.inl hb,(I5.ok.exf b hb).2,fun p hp z=>by
          have hp:p∈([]:List (Addr×Obj))++[(D,(lso its k))]:=hp
          have e:p=(D,(lso its k)):=by simpa using hp
          subst e
          have z:D=b:=z
          exact Dfp (z▸hb)⟩
      refine FR (Hd (FR ?_))
      rcases turn i n ys H5 w5 with ⟨stop,hz,qn⟩ | ⟨go,Nx,hN,step⟩
      · refine thn (T.done (aj X scope (tg++cs) C fp s2 H2) rfl rfl rfl hcalm i _ s5 _ H5 _ pin0 (fpY fr5) st5 stop) fun r s6 zr1=>?_
        obtain ⟨hr,I6⟩:=zr1
        subst hr
        refine F7 ?_
        obtain ⟨mC,hnsC,_⟩:=id I6.loc
        refine ⟨mC,hnsC,fun h' sb=>?_⟩
        have IX:Inv X pins σ H5 s6:=I2.call' (ch:=fp) I6.os I6.base I6.hok I6.bare fun b hb=>let ⟨_,a1,_,a3,a4,a5⟩:=fpk b hb;⟨a3,a1,a4,a5⟩
        obtain ⟨_,c1,_,c3,c4,c5⟩:=I2.fpOk (H':=H5) (b:=C) (by rw [hDg];exact hCle) I6.free
        have IX2:Inv X pins σ H5 { s6 with heap:=h' }:=IX.turned (t':=s6.toks) (fun b o hb e=>(sb.2 b hb).trans e) I6.free c1 c3 c4 c5
        obtain ⟨_,b1,_,b3,b4,b5⟩:=I2.fpOk (H':=H5) (b:=D) (by rw [hDg];exact FX _) d5
        have gD:h'.get? D=some (lso its k):=(sb.2 D hDC).trans (I6.pin (D,(lso its k)) (FQ _ FZ)).1
        exact ⟨.ref D,upd H5 D (.lst ys),IX2.track d5 (by rw [<- hDg];exact I2.sz) b1 b4 b5 ⟨hz,its,k,v5,gD⟩,rfl,qn D d5⟩
      · refine thn (T.item (aj X scope (tg++cs) C fp s2 H2) rfl rfl rfl hcalm i _ s5 _ H5 _ pin0 (fpY fr5) st5 go) fun r s6 zr1=>?_
        obtain ⟨u,hr,h6⟩:=zr1
        subst hr
        refine FR (thn h6 fun _ s7 zr1=>?_)
        obtain ⟨x,H7,I7,r7,y7,st7,fr7⟩:=zr1
        have I7':=I7.pinned (fpY fr7) (T.obj _ _ st7)
        -- the next turn
        have J9:∀{σ2:St} {H8:Hp} {s8:FW} {ys':List V} {its':List FU} {k':Nat} , Inv (aj X scope (tg++cs) C fp s2 H2) [] σ2 H8 s8->(σ2.length=(capt tg.length ix σ).length/\∀(i:Nat) (v:V),(capt tg.length ix σ)[i]?=some (some v)->σ2[i]?=some (some v)) ->
            (∀b∈fp,∀o,s7.heap.get? b=some o->s8.heap.get? b=some o)->(∀b∈fp,H8 b=none)->H8 D=none->s8.heap.get? D=some (lso its' k')->Vals ys' its'->Nx ys' H8 ->
            ∃m,m < n/\∃i ys its k H',Inv (aj X scope (tg++cs) C fp s2 H2) [] (capt tg.length ix σ) H' s8/\tn i s8.heap/\(∀b∈fp,H' b=none)/\H' D=none/\s8.heap.get? D=some (lso its k)/\Vals ys its/\W i m ys H':=by
          intro σ2 H8 s8 ys' its' k' I8 kp fk fn dn dg vv nx
          obtain ⟨m',hm,w8⟩:=hN ys' H8 nx
          exact ⟨m',hm,i+1,ys',its',k',H8,I8.weak kp.1.symm kp.2,T.keep _ _ _ st7 fk,fn,dn,dg,vv,w8⟩
        refine FR (Gy (hg C fp s2 H2 _ s7 _ H7 x u _ I7' r7 (kg x σ H7 _ (step x H7 y7))) (fun _ s8 zr1=>?_) fun _ _ z=>z.elim)
        obtain ⟨σ8,H8,I8,⟨kp8,kb8⟩,q8⟩:=zr1
        refine FR (Gy (hc C fp s2 H2 _ s8 σ8 H8 _ I8 q8) (fun ok s9 zr1=>?_) fun _ _ z=>z.elim)
        obtain ⟨H9,I9,q9⟩:=zr1
        have pinsOf:∀{σ':St} {H':Hp} {s':FW},Inv (aj X scope (tg++cs) C fp s2 H2) ([(D,(lso its k))]++bQ fp s7.heap) σ' H' s' ->
            (∀b∈fp,∀o,s7.heap.get? b=some o->s'.heap.get? b=some o)/\(∀b∈fp,H' b=none)/\H' D=none/\s'.heap.get? D=some (lso its k):=by
          intro σ' H' s' I'
          refine ⟨fun b hb o e=>(I'.pin (b,o) (FQ _ (FQ _ (aN hb e)))).1,fun b hb=>?_,(I'.pin (D,(lso its k)) (FQ _ (Gu _ FZ))).2.1,(I'.pin (D,(lso its k)) (FQ _ (Gu _ FZ))).1⟩
          obtain ⟨o,e,d⟩:=T.obj _ _ st7 b hb
          exact (I'.pin (b,o) (FQ _ (FQ _ (aN hb e)))).2.1
        cases ok with
        | false=>
          obtain ⟨p1,p2,p3,p4⟩:=pinsOf I9
          exact F7 ⟨rfl,J9 (I9.pins_of fun p hp=>nomatch hp) kp8 p1 p2 p3 p4 v5 q9⟩
        | true=>
          have q9:tIn wi2 g2 tc2 te σ8 ys Nx H9:=q9
          obtain ⟨p1,p2,p3,p4⟩:=pinsOf I9
          have I9':Inv (aj X scope (tg++cs) C fp s2 H2) (bQ fp s7.heap) σ8 H9 s9:=I9.pins_of fun p hp=>I9.pin p (FQ _ (FQ _ hp))
          refine oz (Y:=aj X scope (tg++cs) C fp s2 H2) hcalm (fun _ _ z=>z) (hi2 C fp s2 H2) (hg2 C fp s2 H2) (hc2 C fp s2 H2) (he C fp s2 H2) kb8 I9' hDC Dfs (by show s2.heap.objs.size<=D;rw [hDg];exact FX _) DcY (fun p hp z=>?_) p3 p4 v5 q9 (hs2 _) fun s12 zs its' k' H12 I12 d12 g12 v12 n12=>?_
          · have hp:p∈bQ fp s7.heap:=hp
            exact Dfp (z▸(dt hp).1)
          · have pn:=fun (b:Addr) (hb:b∈fp) (o:Obj) (e:s7.heap.get? b=some o)=>I12.pin (b,o) (FQ _ (aN hb e))
            refine F7 ⟨rfl,J9 (its':=its') (I12.pins_of fun p hp=>nomatch hp) kp8 (fun b hb o e=>(pn b hb o e).1) (fun b hb=>?_) d12 g12 v12 n12⟩
            obtain ⟨o,e,_⟩:=T.obj _ _ st7 b hb
            exact (pn b hb o e).2.1
    · rw [e4];exact T.keep _ _ _ st2 fun b _ o e=>old b o e
  exact IL (loop _ rfl) (T.self _ 0 _ _ _ (T.keep _ _ _ st2 fun b _ o e=>old b o e) (loop _ rfl))
theorem pW {elt t1 i1 t2 i2:Expr} {f1 f2:List Expr} {scope:IR} {pos spos py:Pos} {yy:Str} {ii:Nat} {tg cs:List Str} {wi wi2:TI} {g g2:TG} {tc tc2:TT} {te:TE} (hN0:X.N.Nodup) (hi0:X.N[ii]?=some yy) (hx0:Loc X.env.scope yy)
    (S:aR X scope tg cs ix) (hcalm:X.calm=true) (kg:gk tg.length ix g g2)
    (hi:PI X t1 i1 wi) (hg:∀C fp s H,PG (aj X scope (tg++cs) C fp s H) t1 g) (hc:∀C fp s H,PTs (aj X scope (tg++cs) C fp s H) f1 tc) (hi2:∀C fp s H,PI (aj X scope (tg++cs) C fp s H) t2 i2 wi2) (hg2:∀C fp s H,PG (aj X scope (tg++cs) C fp s H) t2 g2) (hc2:∀C fp s H,PTs (aj X scope (tg++cs) C fp s H) f2 tc2) (he:∀C fp s H,PE (aj X scope (tg++cs) C fp s H) elt te)
    (hf0:X.fn yy=true\/X.env.scope.names.lookup yy=some .local)
    (hsw:HJ (two_of elt t1 i1 t2 i2 f1 f2 scope pos) (some (.Name yy py)) spos.line X.env=pure true)
    (hs:∀x,Gj i1 X.env x=pure x:=by intro _;rfl) (hs2:∀(e:Env) x,Gj i2 e x=pure x:=by intro _ _;rfl):PS X (.Assign [.Name yy py] (two_of elt t1 i1 t2 i2 f1 f2 scope pos) spos) (cQ (kq wi tg.length ix g tc wi2 g2 tc2 te) (aX ii)):=by
  intro pins s σ H Dn I h
  rw [JE _ _ _ _ hsw]
  refine FR (Hd (FR ?_))
  show GU _ X.A (do let _ <- KL (two_of elt t1 i1 t2 i2 f1 f2 scope pos) scope X.env _ (newList []) false (eval i1 X.env) (some (I0 (.Name yy py) X.env))) _ _ s
  refine FR (Gy (HV (use:=some (I0 (.Name yy py) X.env)) (Q:=fun _ s'=>SP X pins Dn .next s') (cl:=bF X.env scope.names []) rfl hs (cS fun n hn=>I.ok.has n (S.out n hn)) S.kind S.names ?_) (fun _ s' hq=>F7 (F7 hq)) fun _ _ e=>e)
  refine Gy (hi pins s σ H _ I h) (fun v s1 h1=>Gy h1 (fun itv s2 h2=>?_) fun _ _ e=>e) fun _ _ e=>e
  obtain ⟨it,fp,tn,J,H2,rfl,I2,T,st2,fpk,W,⟨m0,w0⟩,turn⟩:=h2
  refine HC (Ip S.nocell (by intro y hy;simp at hy) (fun h1 hns1 hsb1=>?_) S.kind)
  dsimp only at hns1 hsb1 ⊢
  generalize hP:s2.heap.push { cls:=.type "list",dict:=none,data:=.seq ([]:List FU).toArray }=P2 at hns1 hsb1 ⊢
  have hCs:P2.objs.size=s2.heap.objs.size+1:=by rw [<- hP,Jz]
  have hDC:s2.heap.objs.size≠P2.objs.size:=by rw [hCs];exact GO (Ij _)
  have hCle:s2.heap.objs.size<=P2.objs.size:=by rw [hCs];exact IP _
  generalize hCg:P2.objs.size=C at *
  have old:∀b o,s2.heap.get? b=some o->h1.get? b=some o:=fun b o e=>hsb1.extBut b o (GO (Gr (Gg e) hCle)) (FT _ (hP▸FT _ e))
  generalize hDg:s2.heap.objs.size=D at *
  have hD0:h1.get? D=some { cls:=.type "list",data:=.seq ([]:List FU).toArray 0 }:=hsb1.extBut _ _ hDC (FT _ (hP▸hDg▸Gn _ rfl))
  have nC:H2 C=none:=I2.hok.fresh (by rw [hDg];exact hCle)
  have nD:H2 D=none:=I2.hok.fresh (by rw [hDg];exact FX _)
  have fo:∀b∈fp,∃o,s2.heap.get? b=some o:=fun b hb=>let ⟨o,e,_⟩:=T.obj _ _ st2 b hb;⟨o,e⟩
  have Dfp:D∉fp:=fun z=>by
    obtain ⟨o,e⟩:=fo D z
    have:=Gg e
    rw [hDg] at this
    exact absurd this (Hb _)
  have Dfs:D∉frs X.stack:=fun z=>by
    rcases List.mem_cons.mp (I2.stkSub D z) with e | e
    · have:=I2.lt
      rw [<- e,hDg] at this
      exact absurd this (Hb _)
    · exact I2.nofs (by rw [hDg];exact FX _) e
  have DcY:∀x c,(bF X.env scope.names []).lookup x=some c->c≠D:=fun x c e=>by
    rcases cR (G4 e) with h | h
    · cases h
    · exact (I2.fpOk (H':=H2) (b:=D) (by rw [hDg];exact FX _) nD).2.2.2.2.1 x c h
  -- the block's context
  have Yok:∀s4:FW,s4={ s2 with heap:=h1,toks:=s2.toks+([]:List (Str×FU)).length }->Inv (aj X scope (tg++cs) C fp s2 H2) [] (capt tg.length ix σ) H2 s4:=by
    rintro s4 rfl
    exact eh S I2 fpk fo (by rw [hDg];exact hCle) old (by simpa using hns1) rfl I2.bare nC
  -- the loop
  have loop:∀s4:FW,s4={ s2 with heap:=h1,toks:=s2.toks+([]:List (Str×FU)).length } ->
      IK (GM X.prog X.w) X.A (.compLoop (two_of elt t1 i1 t2 i2 f1 f2 scope pos) 0 (.ref it) (.ref D) (ID scope (bF X.env scope.names []) C X.env)) (L7 (GM X.prog X.w) X.A X.xe (some (I0 (.Name yy py) X.env)) (fun _ s'=>SP X pins Dn .next s') (.ref D) C) s4:=by
    intro s4 e4
    refine Jf rfl (fun n s'=>∃i ys its k H',Inv (aj X scope (tg++cs) C fp s2 H2) [] (capt tg.length ix σ) H' s'/\tn i s'.heap/\(∀b∈fp,H' b=none)/\H' D=none/\s'.heap.get? D=some (lso its k)/\Vals ys its/\W i n ys H')
      ?_ m0 ⟨0,[],[],0,H2,Yok s4 e4,?_,fun b hb=>(fpk b hb).1,nD,by rw [e4];exact hD0,.nil,w0⟩
    · rintro n s5 ⟨i,ys,its,k,H5,I5,st5,fr5,d5,o5,v5,w5⟩
      show GU _ X.A ((JA (two_of elt t1 i1 t2 i2 f1 f2 scope pos) 0 (.ref it) (.ref D) (ID scope (bF X.env scope.names []) C X.env)).onRaise (fun x=>do Lg x (ID scope (bF X.env scope.names []) C X.env);IQ x)) _ _ s5
      refine Jw ?_
      rw [lW]
      have pin0:Inv (aj X scope (tg++cs) C fp s2 H2) [(D,(lso its k))] (capt tg.length ix σ) H5 s5:=I5.pins_of fun p hp=>by
        have e:p=(D,(lso its k)):=by simpa using hp
        subst e
        exact ⟨o5,d5,hDC,Dfs,fun v z=>by have z':KI _ _=Ji v:=z;cases z'⟩
      have fpY:∀{H':Hp},(∀b∈fp,H' b=none)->∀b∈fp,d9 (aj X scope (tg++cs) C fp s2 H2) [(D,(lso its k))] H' b:=fun hn b hb=>
        ⟨hn b hb,(I5.ok.exf b hb).1,fun z=>I5.ok.exfs b hb z,.inl hb,(I5.ok.exf b hb).2,fun p hp z=>by
          have hp:p∈([]:List (Addr×Obj))++[(D,(lso its k))]:=hp
          have e:p=(D,(lso its k)):=by simpa using hp
          subst e
          have z:D=b:=z
          exact Dfp (z▸hb)⟩
      refine FR (Hd (FR ?_))
      rcases turn i n ys H5 w5 with ⟨stop,hz,qn⟩ | ⟨go,Nx,hN,step⟩
      · refine thn (T.done (aj X scope (tg++cs) C fp s2 H2) rfl rfl rfl hcalm i _ s5 _ H5 _ pin0 (fpY fr5) st5 stop) fun r s6 zr1=>?_
        obtain ⟨hr,I6⟩:=zr1
        subst hr
        refine F7 ?_
        obtain ⟨mC,hnsC,_⟩:=id I6.loc
        have IX:Inv X pins σ H5 s6:=I2.call' (ch:=fp) I6.os I6.base I6.hok I6.bare fun b hb=>let ⟨_,a1,_,a3,a4,a5⟩:=fpk b hb;⟨a3,a1,a4,a5⟩
        obtain ⟨_,b1,_,b3,b4,b5⟩:=I2.fpOk (H':=H5) (b:=D) (by rw [hDg];exact FX _) d5
        obtain ⟨_,c1,_,c3,c4,c5⟩:=I2.fpOk (H':=H5) (b:=C) (by rw [hDg];exact hCle) I6.free
        have gD:s6.heap.get? D=some (lso its k):=(I6.pin (D,(lso its k)) (FQ _ FZ)).1
        have IXD:Inv X pins σ (upd H5 D (.lst ys)) s6:=IX.track d5 (by rw [<- hDg];exact I2.sz) b1 b4 b5 ⟨hz,its,k,v5,gD⟩
        show GU _ X.A (I0 (.Name yy py) X.env (.ref D)) _ _ s6
        refine Js (eU (v:=.ref D) IXD hN0 hi0 hx0 rfl (fun s'' I'' zr1=>?_) hf0)
        obtain ⟨a,sb,ha⟩:=zr1
        have hCa:C≠a:=by
          rcases ha with rfl | ha
          · exact c1
          · exact (c4 _ _ ha).symm
        refine ⟨mC,hnsC.sameBut sb hCa,fun h' sb'=>⟨_,_,I''.turned (t':=s''.toks) (it:=C) (fun b o hb e=>(sb'.2 b hb).trans e) (by rw [aw (Ia hDC)];exact I6.free) c1 c3 c4 c5,qn D d5⟩⟩
      · refine thn (T.item (aj X scope (tg++cs) C fp s2 H2) rfl rfl rfl hcalm i _ s5 _ H5 _ pin0 (fpY fr5) st5 go) fun r s6 zr1=>?_
        obtain ⟨u,hr,h6⟩:=zr1
        subst hr
        refine FR (thn h6 fun _ s7 zr1=>?_)
        obtain ⟨x,H7,I7,r7,y7,st7,fr7⟩:=zr1
        have I7':=I7.pinned (fpY fr7) (T.obj _ _ st7)
        -- the next turn
        have J9:∀{σ2:St} {H8:Hp} {s8:FW} {ys':List V} {its':List FU} {k':Nat} , Inv (aj X scope (tg++cs) C fp s2 H2) [] σ2 H8 s8->(σ2.length=(capt tg.length ix σ).length/\∀(i:Nat) (v:V),(capt tg.length ix σ)[i]?=some (some v)->σ2[i]?=some (some v)) ->
            (∀b∈fp,∀o,s7.heap.get? b=some o->s8.heap.get? b=some o)->(∀b∈fp,H8 b=none)->H8 D=none->s8.heap.get? D=some (lso its' k')->Vals ys' its'->Nx ys' H8 ->
            ∃m,m < n/\∃i ys its k H',Inv (aj X scope (tg++cs) C fp s2 H2) [] (capt tg.length ix σ) H' s8/\tn i s8.heap/\(∀b∈fp,H' b=none)/\H' D=none/\s8.heap.get? D=some (lso its k)/\Vals ys its/\W i m ys H':=by
          intro σ2 H8 s8 ys' its' k' I8 kp fk fn dn dg vv nx
          obtain ⟨m',hm,w8⟩:=hN ys' H8 nx
          exact ⟨m',hm,i+1,ys',its',k',H8,I8.weak kp.1.symm kp.2,T.keep _ _ _ st7 fk,fn,dn,dg,vv,w8⟩
        refine FR (Gy (hg C fp s2 H2 _ s7 _ H7 x u _ I7' r7 (kg x σ H7 _ (step x H7 y7))) (fun _ s8 zr1=>?_) fun _ _ z=>z.elim)
        obtain ⟨σ8,H8,I8,⟨kp8,kb8⟩,q8⟩:=zr1
        refine FR (Gy (hc C fp s2 H2 _ s8 σ8 H8 _ I8 q8) (fun ok s9 zr1=>?_) fun _ _ z=>z.elim)
        obtain ⟨H9,I9,q9⟩:=zr1
        have pinsOf:∀{σ':St} {H':Hp} {s':FW},Inv (aj X scope (tg++cs) C fp s2 H2) ([(D,(lso its k))]++bQ fp s7.heap) σ' H' s' ->
            (∀b∈fp,∀o,s7.heap.get? b=some o->s'.heap.get? b=some o)/\(∀b∈fp,H' b=none)/\H' D=none/\s'.heap.get? D=some (lso its k):=by
          intro σ' H' s' I'
          refine ⟨fun b hb o e=>(I'.pin (b,o) (FQ _ (FQ _ (aN hb e)))).1,fun b hb=>?_,(I'.pin (D,(lso its k)) (FQ _ (Gu _ FZ))).2.1,(I'.pin (D,(lso its k)) (FQ _ (Gu _ FZ))).1⟩
          obtain ⟨o,e,d⟩:=T.obj _ _ st7 b hb
          exact (I'.pin (b,o) (FQ _ (FQ _ (aN hb e)))).2.1
        cases ok with
        | false=>
          obtain ⟨p1,p2,p3,p4⟩:=pinsOf I9
          exact F7 ⟨rfl,J9 (I9.pins_of fun p hp=>nomatch hp) kp8 p1 p2 p3 p4 v5 q9⟩
        | true=>
          have q9:tIn wi2 g2 tc2 te σ8 ys Nx H9:=q9
          obtain ⟨p1,p2,p3,p4⟩:=pinsOf I9
          have I9':Inv (aj X scope (tg++cs) C fp s2 H2) (bQ fp s7.heap) σ8 H9 s9:=I9.pins_of fun p hp=>I9.pin p (FQ _ (FQ _ hp))
          refine oz (Y:=aj X scope (tg++cs) C fp s2 H2) hcalm (fun _ _ z=>z) (hi2 C fp s2 H2) (hg2 C fp s2 H2) (hc2 C fp s2 H2) (he C fp s2 H2) kb8 I9' hDC Dfs (by show s2.heap.objs.size<=D;rw [hDg];exact FX _) DcY (fun p hp z=>?_) p3 p4 v5 q9 (hs2 _) fun s12 zs its' k' H12 I12 d12 g12 v12 n12=>?_
          · have hp:p∈bQ fp s7.heap:=hp
            exact Dfp (z▸(dt hp).1)
          · have pn:=fun (b:Addr) (hb:b∈fp) (o:Obj) (e:s7.heap.get? b=some o)=>I12.pin (b,o) (FQ _ (aN hb e))
            refine F7 ⟨rfl,J9 (its':=its') (I12.pins_of fun p hp=>nomatch hp) kp8 (fun b hb o e=>(pn b hb o e).1) (fun b hb=>?_) d12 g12 v12 n12⟩
            obtain ⟨o,e,_⟩:=T.obj _ _ st7 b hb
            exact (pn b hb o e).2.1
    · rw [e4];exact T.keep _ _ _ st2 fun b _ o e=>old b o e
  exact IL (loop _ rfl) (T.self _ 0 _ _ _ (T.keep _ _ _ st2 fun b _ o e=>old b o e) (loop _ rfl))
end
end L2
namespace VL
open PySem L2 PySem.W
section
variable {K:FO} {H H4 H0:Hp} {Z:AP} {σ σ4 σ5:St} {S S4:List Sl}
def FL:Sl->Sl->Sl
 | .no,_=>.no
 | _,b=>b
def msk (S4 S:List Sl):List Sl:=List.zipWith FL S4 S
theorem iK {i:Nat} {s:Sl} (h:(msk S4 S)[i]?=some s):s=.no\/S[i]?=some s/\∃t,S4[i]?=some t/\t≠.no:=by
 unfold msk at h
 rw [List.getElem?_zipWith] at h
 cases h1:S4[i]? with
 | none=>rw [h1] at h;cases h
 | some t=>
  cases h2:S[i]? with
  | none=>rw [h1,h2] at h;cases h
  | some u=>
   rw [h1,h2] at h
   cases t with
   | no=>cases h;exact .inl rfl
   | val _ | fre _ | own _ | pen _ _ | odi _ _ | obj _=>cases h;exact .inr ⟨rfl,_,rfl,fun z=>nomatch z⟩
theorem OK.forget (k4:OK K H0 Z σ4 H4 S4) (k:OK K H0 Z σ5 H S) (st:Step Z σ4 S4 H4 σ5 S H) (hl:σ5.length=σ4.length) (hσ:∀(i:Nat) (v:V),σ4[i]?=some (some v)->σ5[i]?=some (some v)) :
  OK K H0 Z σ4 H (msk S4 S)/\Step Z σ4 S4 H4 σ4 (msk S4 S) H/\∀a,NM Z σ5 S a->NM Z σ4 (msk S4 S) a:=by
 have at4:∀{i:Nat} {t:Sl},S4[i]?=some t->t≠.no->∃v,σ4[i]?=some (some v):=fun {i t} e hn=>by
  obtain ⟨o,h1,q⟩:=k4.ownAt e
  cases t with
  | no=>exact absurd rfl hn
  | val _=>obtain ⟨v,rfl,_⟩:=q;exact ⟨v,h1⟩
  | fre _=>obtain ⟨v,rfl,_⟩:=q;exact ⟨v,h1⟩
  | own _=>obtain ⟨a,_,rfl,_⟩:=q;exact ⟨_,h1⟩
  | pen _ _=>obtain ⟨a,rfl,_⟩:=q;exact ⟨_,h1⟩
  | odi _ _=>obtain ⟨a,_,rfl,_⟩:=q;exact ⟨_,h1⟩
  | obj _=>obtain ⟨a,rfl,_⟩:=q;exact ⟨_,h1⟩
 have mo:∀a,Mo Z σ4 (msk S4 S) a->Mo Z σ5 S a:=fun a z=>by
  rcases z with ⟨i,s,h1,h2,h3⟩ | z
  ·rcases iK h1 with rfl | ⟨h4,_⟩
   ·cases h2
   ·exact .inl ⟨i,s,h4,h2,hσ i _ h3⟩
  ·exact .inr z
 have nm:∀a,NM Z σ5 S a->NM Z σ4 (msk S4 S) a:=fun a n z=>n (mo a z)
 have hm:∀a,NM Z σ5 S a->H a≠none->NM Z σ4 (msk S4 S) a/\H a=H a:=fun a n _=>⟨nm a n,rfl⟩
 refine ⟨⟨?_,fun i o s h1 h2=>?_,fun i j a s t h1 h2 m1 m2 h3 h4=>?_,k.dom,k.zl,fun i s a h1 h2 h3=>?_⟩,⟨fun a n e=>⟨(st.1 a n e).1,nm a (st.1 a n e).2⟩,st.2.1,st.2.2⟩,nm⟩
 ·have:=k4.len;have:=k.len
  unfold msk
  rw [List.length_zipWith];lia
 ·rcases iK h2 with rfl | ⟨h4,t,h5,h6⟩
  ·trivial
  ·obtain ⟨v,e⟩:=at4 h5 h6
   rw [e] at h1;cases h1
   have q:=k.at_ i _ s (hσ i v e) h4
   cases s with
   | no=>trivial
   | val d=>obtain ⟨v,e,r⟩:=q;exact ⟨v,e,r.mono hm fun _ x=>x⟩
   | fre d=>obtain ⟨v,e,r⟩:=q;exact ⟨v,e,r.mono hm fun _ x=>x⟩
   | own ds=>obtain ⟨a,vs,e,e',e0,r⟩:=q;exact ⟨a,vs,e,e',e0,r.mono hm fun _ x=>x⟩
   | pen ad ns=>exact q
   | odi ks ds=>obtain ⟨a,vs,e,e',e0,ek,r⟩:=q;exact ⟨a,vs,e,e',e0,⟨ek.1,ek.2.mono hm fun _ x=>x⟩,r.mono hm fun _ x=>x⟩
   | obj k=>obtain ⟨a,e,e0,r⟩:=q;exact ⟨a,e,e0,k.mono hm rfl r⟩
 ·rcases iK h1 with rfl | ⟨h1,_⟩
  ·cases m1
  ·rcases iK h2 with rfl | ⟨h2,_⟩
   ·cases m2
   ·exact k.inj i j a s t h1 h2 m1 m2 (hσ i _ h3) (hσ j _ h4)
 ·rcases iK h1 with rfl | ⟨h1,_⟩
  ·cases h2
  ·exact k.nz i s a h1 h2 (hσ i _ h3)
end
section
variable {K:FO} {X:Cx} {elt t1 i1 t2 i2:Expr} {f1 f2:List Expr} {scope:IR} {pos:Pos}
def m7 (vi:VTN) (n:Nat) (ix:List Nat) (vg:VG) (vt:VTT) (vi2:VTN) (vg2:VG) (vt2:VTT) (ve:VT):VTN:=fun S Q=>vi S fun ds S1=>ds.length<=1000/\∃Iv:Nat->List D->List Sl->Prop,Iv 0 [] S1 /\
 (∀i d ys S2,ds[i]?=some d->Iv i ys S2->vg d (bg n ix S2) fun S3=>vt S3 fun b S4=>if b=true then (vi2 S4 fun es S5=>es.length<=1000/\∃Jv:Nat->List D->List Sl->Prop,Jv 0 ys S5 /\
  (∀j e zs S6,es[j]?=some e->Jv j zs S6->vg2 e S6 fun S7=>vt2 S7 fun b2 S8=>if b2=true then ve S8 fun r S9=>∃x,r=.d x/\Jv (j+1) (zs++[x]) (msk S6 S9) else Jv (j+1) zs (msk S6 S8))/\∀zs S6,Jv es.length zs S6->Iv (i+1) zs (backS n ix S2 S6))
  else Iv (i+1) ys (backS n ix S2 S4)) /\
 ∀ys S2,Iv ds.length ys S2->Q ys S2
theorem iL {tg cs:List Str} {wi wi2:TI} {vi vi2:VTN} {g g2:TG} {vg vg2:VG} {tc tc2:TT} {vt vt2:VTT} {te:TE} {ve:VT} (Sc:aR X scope tg cs ix) (hcalm:X.calm=true) (kg:gk tg.length ix g g2) (hnd:ix.Nodup)
  (hi:VI K X t1 i1 wi vi) (hg:∀C fp s H,VGe K (aj X scope (tg++cs) C fp s H) t1 g vg) (hc:∀C fp s H,VTs K (aj X scope (tg++cs) C fp s H) f1 tc vt) (hi2:∀C fp s H,VI K (aj X scope (tg++cs) C fp s H) t2 i2 wi2 vi2)
  (hg2:∀C fp s H,VGe K (aj X scope (tg++cs) C fp s H) t2 g2 vg2) (hc2:∀C fp s H,VTs K (aj X scope (tg++cs) C fp s H) f2 tc2 vt2) (he:∀C fp s H,VE K (aj X scope (tg++cs) C fp s H) true elt te ve)
  (hs:∀x,Gj i1 X.env x=pure x:=by intro _;rfl) (hs2:∀(e:Env) x,Gj i2 e x=pure x:=by intro _ _;rfl):VN K X (two_of elt t1 i1 t2 i2 f1 f2 scope pos) (kq wi tg.length ix g tc wi2 g2 tc2 te) (m7 vi tg.length ix vg vt vi2 vg2 vt2 ve):=by
 have sg:SndG K g vg:=(hg 0 [] X.s₀ (fun _=>none)).snd
 have sc:SndT K tc vt:=(hc 0 [] X.s₀ (fun _=>none)).snd
 have si2:SndI K wi2 vi2:=(hi2 0 [] X.s₀ (fun _=>none)).snd
 have sg2:SndG K g2 vg2:=(hg2 0 [] X.s₀ (fun _=>none)).snd
 have sc2:SndT K tc2 vt2:=(hc2 0 [] X.s₀ (fun _=>none)).snd
 have se:SndE K true te ve:=(he 0 [] X.s₀ (fun _=>none)).snd
 have hsz:=G9
 refine ⟨sW Sc hcalm kg hi.pi (fun C fp s H=>(hg C fp s H).pg) (fun C fp s H=>(hc C fp s H).pe) (fun C fp s H=>(hi2 C fp s H).pi) (fun C fp s H=>(hg2 C fp s H).pg) (fun C fp s H=>(hc2 C fp s H).pe) (fun C fp s H=>(he C fp s H).pe) hs hs2,fun H0 Z σ H S Q C k t hq=>?_⟩
 refine hi.snd H0 Z σ H S _ _ k t fun J ds H1 S1 k1 st1 gd zr1=>?_
 obtain ⟨hl,Iv,i0,hs,hd⟩:=zr1
 refine ⟨fun i m ys H=>m=ds.length-i/\i<=ds.length/\ys.length<=1000*i/\∃S2 zs,OK K H0 Z σ H S2/\Step Z σ S1 H1 σ S2 H/\Reps K (NM Z σ S2) (Fr H0) H ys zs/\Iv i zs S2,⟨ds.length,by simp,HM _,FX _,S1,[],k1,.refl,.nil,i0⟩,?_⟩
 rintro i m ys H2 ⟨rfl,hi,hy,S2,zs,k2,st2,rz,p⟩
 obtain ⟨g1,g2',g3⟩:=gd σ S2 H2 (fun _=>k2.nm) st2.1 i
 by_cases hlt:i < ds.length
 ·refine .inr ⟨g1 hlt,fun ys' H'=>ys'.length<=1000*(i+1)/\∃S' zs',OK K H0 Z σ H' S'/\Step Z σ S1 H1 σ S' H'/\Reps K (NM Z σ S') (Fr H0) H' ys' zs'/\Iv (i+1) zs' S',fun ys' H' zt1=>by obtain ⟨p1,p2⟩:=zt1;exact ⟨ds.length-(i+1),by lia,rfl,hlt,p1,p2⟩,fun x H3 y=>?_⟩
  obtain ⟨hgr,d,hd',rd⟩:=g2' x H3 y hlt
  replace k2:=k2.grow hgr
  replace st2:=st2.trans (.grow hgr)
  replace rz:=rz.step (.grow hgr)
  have kc:=k2.capt (n:=tg.length) hnd
  have rd':Rep K (NM (Zin Z ix σ S2) (L2.capt tg.length ix σ) (bg tg.length ix S2)) AnyF H3 x d:=rd.mono (fun a n _=>⟨fun z=>n (eH.mp z),rfl⟩) fun _ x=>x
  have rzc:Reps K (NM (Zin Z ix σ S2) (L2.capt tg.length ix σ) (bg tg.length ix S2)) (Fr H0) H3 ys zs:=rz.mono (fun a n _=>⟨fun z=>n (eH.mp z),rfl⟩) fun _ x=>x
  have h1:=sg H0 _ _ H3 _ x d _ (fun σ4 H4=>∃S4,OK K H0 (Zin Z ix σ S2) σ4 H4 S4/\Step (Zin Z ix σ S2) (L2.capt tg.length ix σ) (bg tg.length ix S2) H3 σ4 S4 H4/\vt S4 fun b S5=>if b=true then (vi2 S5 fun es S5=>es.length<=1000/\∃Jv:Nat->List D->List Sl->Prop,Jv 0 zs S5 /\
   (∀j e zs S6,es[j]?=some e->Jv j zs S6->vg2 e S6 fun S7=>vt2 S7 fun b2 S8=>if b2=true then ve S8 fun r S9=>∃x,r=.d x/\Jv (j+1) (zs++[x]) (msk S6 S9) else Jv (j+1) zs (msk S6 S8))/\∀zs S6,Jv es.length zs S6->Iv (i+1) zs (backS tg.length ix S2 S6)) else Iv (i+1) zs (backS tg.length ix S2 S5)) kc rd' (hs i d zs S2 hd' p) (fun σ4 H4 S4 k4 st4 q4=>⟨S4,k4,st4,q4⟩)
  have h2:=kg x σ H3 _ h1
  refine (hg 0 [] X.s₀ (fun _=>none)).mono _ _ _ _ _ ?_ h2
  rintro σ4 H4 ⟨⟨⟨hl4,hσ4⟩,kb⟩,S4,k4,st4,q4⟩
  refine sc H0 _ σ4 H4 S4 _ _ k4 q4 fun bb H5 S5 k5 st5 q5=>?_
  cases bb with
  | false=>
   rw [if_neg F4] at q5 ⊢
   obtain ⟨kb',sb,nb⟩:=k2.back k5 (st4.trans st5) hσ4
   exact ⟨by lia,_,zs,kb',st2.trans sb,rz.step sb,q5⟩
  | true=>
   rw [if_pos rfl] at q5 ⊢
   refine si2 H0 _ σ4 H5 S5 _ _ k5 q5 fun J2 es H6 S6 k6 st6 gd2 zr1=>?_
   obtain ⟨hl2,Jv,j0,hj,hd2⟩:=zr1
   have stA:=(st4.trans st5).trans st6
   refine ⟨fun j m us H=>m=es.length-j/\j<=es.length/\us.length<=1000*i+j/\∃S7 ws,OK K H0 (Zin Z ix σ S2) σ4 H S7/\Step (Zin Z ix σ S2) σ4 S6 H6 σ4 S7 H/\Reps K (NM (Zin Z ix σ S2) σ4 S7) (Fr H0) H us ws/\Jv j ws S7,⟨es.length,by simp,HM _,by lia,S6,zs,k6,.refl,rzc.step stA,j0⟩,?_⟩
   rintro j m us H7 ⟨rfl,hjl,hul,S7,ws,k7,st7,rw7,p7⟩
   obtain ⟨a1,a2,a3⟩:=gd2 σ4 S7 H7 (fun _=>k7.nm) st7.1 j
   by_cases hlt2:j < es.length
   ·refine .inr ⟨a1 hlt2,by lia,fun us' H'=>us'.length<=1000*i+(j+1)/\∃S' ws',OK K H0 (Zin Z ix σ S2) σ4 H' S'/\Step (Zin Z ix σ S2) σ4 S6 H6 σ4 S' H'/\Reps K (NM (Zin Z ix σ S2) σ4 S') (Fr H0) H' us' ws'/\Jv (j+1) ws' S',fun us' H' zt1=>by obtain ⟨p1,p2⟩:=zt1;exact ⟨es.length-(j+1),by lia,rfl,hlt2,p1,p2⟩,fun x2 H8 y2=>?_⟩
    obtain ⟨hgr,e,he',re⟩:=a2 x2 H8 y2 hlt2
    replace k7:=k7.grow hgr
    replace st7:=st7.trans (.grow hgr)
    replace rw7:=rw7.step (.grow hgr)
    have h3:=sg2 H0 _ σ4 H8 S7 x2 e _ (fun σ5 H9=>∃S9,OK K H0 (Zin Z ix σ S2) σ5 H9 S9/\Step (Zin Z ix σ S2) σ4 S7 H8 σ5 S9 H9/\vt2 S9 fun b2 S8=>if b2=true then ve S8 fun r S9=>∃x,r=.d x/\Jv (j+1) (ws++[x]) (msk S7 S9) else Jv (j+1) ws (msk S7 S8)) k7 re (hj j e ws S7 he' p7) (fun σ5 H9 S9 k9 st9 q9=>⟨S9,k9,st9,q9⟩)
    refine (hg2 0 [] X.s₀ (fun _=>none)).mono _ _ _ _ _ ?_ (kb x2 H8 _ h3)
    rintro σ5 H9 ⟨⟨hl5,hσ5⟩,S9,k9,st9,q9⟩
    refine sc2 H0 _ σ5 H9 S9 _ _ k9 q9 fun b2 H10 S10 k10 st10 q10=>?_
    cases b2 with
    | false=>
     rw [if_neg F4] at q10 ⊢
     obtain ⟨kf,sf,nf⟩:=k7.forget k10 (st9.trans st10) hl5 hσ5
     exact ⟨by lia,_,ws,kf,st7.trans sf,rw7.step sf,q10⟩
    | true=>
     rw [if_pos rfl] at q10 ⊢
     refine se H0 _ σ5 H10 S10 _ _ k10 q10 fun vv H11 r S11 k11 st11 rr zr1=>?_
     obtain ⟨xx,er,q11⟩:=zr1
     subst er
     obtain ⟨kf,sf,nf⟩:=k7.forget k11 ((st9.trans st10).trans st11) hl5 hσ5
     exact ⟨by simp;lia,_,ws++[xx],kf,st7.trans sf,Reps.append (rw7.step sf) (.cons (Rep.mono (fun a n _=>⟨nf a n,rfl⟩) (fun _ x=>x rfl) rr) .nil),q11⟩
   ·have e:j=es.length:=by lia
    obtain ⟨kb',sb,nb⟩:=k2.back k7 (stA.trans st7) hσ4
    exact .inl ⟨a3 e,by lia,_,ws,kb',st2.trans sb,rw7.mono (fun a n _=>⟨nb a n,rfl⟩) fun _ x=>x,hd2 ws S7 (by rw [<- e];exact p7)⟩
 ·have e:i=ds.length:=by lia
  refine .inl ⟨g3 e,by lia,fun l hp=>?_⟩
  exact hq l ys zs H2 _ S2 k2 (st1.trans st2) hp (aQ hp) az (bJ hp (rz.mono (fun _ n _=>⟨n,rfl⟩) fun _ x _=>x)) (hd zs S2 (by rw [<- e];exact p))
theorem pX {spos py:Pos} {yy:Str} {ii:Nat} {tg cs:List Str} {wi wi2:TI} {vi vi2:VTN} {g g2:TG} {vg vg2:VG} {tc tc2:TT} {vt vt2:VTT} {te:TE} {ve:VT} (hN0:X.N.Nodup) (hi0:X.N[ii]?=some yy) (hx0:Loc X.env.scope yy) (hf0:X.fn yy=true\/X.env.scope.names.lookup yy=some .local) (Sc:aR X scope tg cs ix) (hcalm:X.calm=true) (kg:gk tg.length ix g g2) (hnd:ix.Nodup)
  (hi:VI K X t1 i1 wi vi) (hg:∀C fp s H,VGe K (aj X scope (tg++cs) C fp s H) t1 g vg) (hc:∀C fp s H,VTs K (aj X scope (tg++cs) C fp s H) f1 tc vt) (hi2:∀C fp s H,VI K (aj X scope (tg++cs) C fp s H) t2 i2 wi2 vi2)
  (hg2:∀C fp s H,VGe K (aj X scope (tg++cs) C fp s H) t2 g2 vg2) (hc2:∀C fp s H,VTs K (aj X scope (tg++cs) C fp s H) f2 tc2 vt2) (he:∀C fp s H,VE K (aj X scope (tg++cs) C fp s H) true elt te ve)
  (hsw:HJ (two_of elt t1 i1 t2 i2 f1 f2 scope pos) (some (.Name yy py)) spos.line X.env=pure true:=by rfl) (hs:∀x,Gj i1 X.env x=pure x:=by intro _;rfl) (hs2:∀(e:Env) x,Gj i2 e x=pure x:=by intro _ _;rfl) :
  VS K X (.Assign [.Name yy py] (two_of elt t1 i1 t2 i2 f1 f2 scope pos) spos) (cQ (kq wi tg.length ix g tc wi2 g2 tc2 te) (aX ii)) (lB (pI (m7 vi tg.length ix vg vt vi2 vg2 vt2 ve)) (vgN ii)):=by
 have h:=iL (pos:=pos) Sc hcalm kg hnd hi hg hc hi2 hg2 hc2 he hs hs2
 refine ⟨pW hN0 hi0 hx0 Sc hcalm kg hi.pi (fun C fp s H=>(hg C fp s H).pg) (fun C fp s H=>(hc C fp s H).pe) (fun C fp s H=>(hi2 C fp s H).pi) (fun C fp s H=>(hg2 C fp s H).pg) (fun C fp s H=>(hc2 C fp s H).pe) (fun C fp s H=>(he C fp s H).pe) hf0 hsw hs hs2,iB (aI (m:=false) h).snd fun H0 Z σ H S v d Q C k r zt1 hc=>by obtain ⟨hi,q⟩:=zt1;exact hc _ _ _ (k.setVal hi r).1 (k.setVal hi r).2 q⟩
end
end VL
end
section
namespace VL
open PySem L2 PySem.W
section
variable {va vb:VT} {vn:VTN} {S:List Sl} {Q:VR->List Sl->Prop} {i:Nat}
def EJ (i:Nat) (Q:VR->List Sl->Prop):List D->List Sl->Prop:=fun ds2 S1=>∃ds,S1[i]?=some (.own ds)/\ds.length+ds2.length<=1000000/\Q (.d .non) (S1.set i (.own (ds++ds2)))
theorem EK (e:S[i]?=some (.own ds)) (h:vn S (EJ i Q)):EI i vn S Q:=⟨⟨ds,e⟩,h⟩
theorem sX {ds ds2:List D} (e:S[i]?=some (.own ds)) (e2:ds.length+ds2.length<=1000000) (h:Q (.d .non) (S.set i (.own (ds++ds2)))):EJ i Q ds2 S:=⟨ds,e,e2,h⟩
end
section
variable {α β:Type} {n:Nat} {ix:List Nat} {g g2:VG} {vt vt2:VTT} {vi vi2:VTN} {ve vk vv:VT} {S:List Sl}
def BI (rk:VR) (A:List Int->D->List Sl->Prop):VR->List Sl->Prop:=fun rv S6=>∃ms x,get S6 rk=some (kT ms)/\rv=.d x/\A ms x S6
def BJ (vv:VT) (A:List Int->D->List Sl->Prop):VR->List Sl->Prop:=fun rk S5=>vv S5 (BI rk A)
def wq (vk vv:VT) (A:List Int->D->List Sl->Prop) (B:List Sl->Prop):Bool->List Sl->Prop:=fun b S4=>if b=true then vk S4 (BJ vv A) else B S4
def sY (n:Nat) (ix:List Nat) (g:VG) (vt:VTT) (vk vv:VT) (Q:List (List Int×D)->List Sl->Prop):List D->List Sl->Prop:=fun ds S1=>ds.length<=1000000/\∃Iv:Nat->List (List Int×D)->List Sl->Prop,Iv 0 [] S1 /\
 (∀i d kvs S2,ds[i]?=some d->Iv i kvs S2->g d (bg n ix S2) fun S3=>vt S3 (wq vk vv (fun ms x S6=>Iv (i+1) (cE kvs ms x) (backS n ix S2 S6)) fun S4=>Iv (i+1) kvs (backS n ix S2 S4)))/\∀kvs S2,Iv ds.length kvs S2->Q kvs S2
theorem wt {Q:List (List Int×D)->List Sl->Prop} (h:vi S (sY n ix g vt vk vv Q)):sT vi n ix g vt vk vv S Q:=h
theorem BK {A:List Int->D->List Sl->Prop} {B:List Sl->Prop} (h:vk S (BJ vv A)):wq vk vv A B true S:=by unfold wq;rw [if_pos rfl];exact h
theorem BL {A:List Int->D->List Sl->Prop} {rk:VR} (h:vv S (BI rk A)):BJ vv A rk S:=h
theorem BM {A:List Int->D->List Sl->Prop} {rk:VR} {x:D} (e:get S rk=some (kT ms)) (h:A ms x S):BI rk A (.d x) S:=⟨ms,x,e,rfl,h⟩
theorem pY {Q:List (List Int×D)->List Sl->Prop} {xs:List α} {en f:α->D} {ky:α->List Int} (hl:xs.length<=1000000)
  (h:∀x∈xs,∀(A:List Int->D->List Sl->Prop) (B:List Sl->Prop),(∀S5,backS n ix S S5=S->A (ky x) (f x) S5)->g (en x) (bg n ix S) fun S3=>vt S3 (wq vk vv A B))
  (h2:Q (xs.foldl (fun kvs x=>cE kvs (ky x) (f x)) []) S):sY n ix g vt vk vv Q (xs.map en) S:=by
 refine ⟨by simpa using hl,fun i kvs S'=>S'=S/\kvs=(xs.take i).foldl (fun kvs x=>cE kvs (ky x) (f x)) [],⟨rfl,by simp⟩,?_,?_⟩
 ·rintro i d kvs S2 e ⟨rfl,rfl⟩
  obtain ⟨x,h1,rfl,hm,ht⟩:=aL e
  refine h x hm _ _ fun S5 e5=>⟨e5,?_⟩
  rw [ht,List.foldl_append]
  rfl
 ·rintro kvs S2 ⟨rfl,rfl⟩
  rw [FV,Hl]
  exact h2
theorem iM {k c:List Int}:c∈(cE kvs k d).map (·.1)↔c=k\/c∈kvs.map (·.1):=by
 unfold cE
 split
 ·next h=>
  rw [show (kvs.map fun x=>if x.1=k then (x.1,d) else x).map (·.1)=kvs.map (·.1) from iJ kvs k d]
  exact ⟨.inr,fun z=>z.elim (fun e=>e▸h) id⟩
 ·simp [or_comm]
def wu (vg2:VG) (vt2:VTT) (ve:VT) (ys:List D) (A:List D->List Sl->Prop):List D->List Sl->Prop:=fun es S5=>es.length<=1000/\∃Jv:Nat->List D->List Sl->Prop,Jv 0 ys S5 /\
 (∀j e zs S6,es[j]?=some e->Jv j zs S6->vg2 e S6 fun S7=>vt2 S7 (dh ve (fun x S9=>Jv (j+1) (zs++[x]) (msk S6 S9)) fun S8=>Jv (j+1) zs (msk S6 S8)))/\∀zs S6,Jv es.length zs S6->A zs S6
def wy (vi2:VTN) (vg2:VG) (vt2:VTT) (ve:VT) (ys:List D) (A:List D->List Sl->Prop) (B:List Sl->Prop):Bool->List Sl->Prop:=fun b S4=>if b=true then vi2 S4 (wu vg2 vt2 ve ys A) else B S4
def sZ (n:Nat) (ix:List Nat) (g:VG) (vt:VTT) (vi2:VTN) (vg2:VG) (vt2:VTT) (ve:VT) (Q:List D->List Sl->Prop):List D->List Sl->Prop:=fun ds S1=>ds.length<=1000/\∃Iv:Nat->List D->List Sl->Prop,Iv 0 [] S1 /\
 (∀i d ys S2,ds[i]?=some d->Iv i ys S2->g d (bg n ix S2) fun S3=>vt S3 (wy vi2 vg2 vt2 ve ys (fun zs S6=>Iv (i+1) zs (backS n ix S2 S6)) fun S4=>Iv (i+1) ys (backS n ix S2 S4)))/\∀ys S2,Iv ds.length ys S2->Q ys S2
theorem wz {Q:List D->List Sl->Prop} (h:vi S (sZ n ix g vt vi2 g2 vt2 ve Q)):m7 vi n ix g vt vi2 g2 vt2 ve S Q:=h
theorem BN {ys:List D} {A:List D->List Sl->Prop} {B:List Sl->Prop} (h:vi2 S (wu g2 vt2 ve ys A)):wy vi2 g2 vt2 ve ys A B true S:=by unfold wy;rw [if_pos rfl];exact h
theorem tf {xs:List β} {en f:β->D} {ys:List D} {A:List D->List Sl->Prop} (hl:xs.length<=1000)
  (h:∀x∈xs,∀(A:D->List Sl->Prop) (B:List Sl->Prop),(∀S5,msk S S5=S->A (f x) S5)->g2 (en x) S fun S3=>vt2 S3 (dh ve A B)) (h2:A (ys++xs.map f) S):wu g2 vt2 ve ys A (xs.map en) S:=by
 refine ⟨by simpa using hl,fun j zs S'=>S'=S/\zs=ys++(xs.take j).map f,⟨rfl,by simp⟩,?_,?_⟩
 ·rintro i d zs S2 e ⟨rfl,rfl⟩
  obtain ⟨x,h1,rfl,hm,ht⟩:=aL e
  refine h x hm _ _ fun S5 e5=>⟨e5,?_⟩
  rw [ht,GK,<- Gm]
  rfl
 ·rintro zs S2 ⟨rfl,rfl⟩
  rw [FV,Hl]
  exact h2
theorem gm {Q:List D->List Sl->Prop} {xs:List α} {en:α->D} {r:α->List D} (hl:xs.length<=1000)
  (h:∀x∈xs,∀(ys:List D) (A:List D->List Sl->Prop) (B:List Sl->Prop),(∀S5,backS n ix S S5=S->A (ys++r x) S5)->g (en x) (bg n ix S) fun S3=>vt S3 (wy vi2 g2 vt2 ve ys A B)) (h2:Q (xs.flatMap r) S):sZ n ix g vt vi2 g2 vt2 ve Q (xs.map en) S:=by
 refine ⟨by simpa using hl,fun i ys S'=>S'=S/\ys=(xs.take i).flatMap r,⟨rfl,by simp⟩,?_,?_⟩
 ·rintro i d ys S2 e ⟨rfl,rfl⟩
  obtain ⟨x,h1,rfl,hm,ht⟩:=aL e
  refine h x hm _ _ _ fun S5 e5=>⟨e5,?_⟩
  rw [ht,IE]
  simp
 ·rintro ys S2 ⟨rfl,rfl⟩
  rw [FV,Hl]
  exact h2
end
end VL
end
section
namespace Tim
open PySem PyProof.Rows
def gal:Bool->Gs->Array Gs->Nat->Nat->Nat->StateT HK Sem (Option Nat):=sortPriv% PySem.Builtin.gallop
def at_ (arr:Array Gs) (i:Nat):Gs:=arr.getD i (Hh,Hh)
theorem oA {arr:Array Gs} {i:Nat} (h:i < arr.size):arr[i]?=some (at_ arr i):=by
 unfold at_;simp [Array.getD,h]
theorem bj {a b:Array Gs} {i j:Nat} (h:a[i]?=b[j]?):at_ a i=at_ b j:=by
 unfold at_;rw [J5,J5,h]
def gn (prog:GD) (w:Hg) (A:Ho) (s:FW) (κ:JB) (O:Kw) (key:Gs->O.α) (P:Gs->Prop):Prop:=
 ∀(x y:Gs) (C:Bool->FW->Prop),P x->P y->C (O.blt (key x) (key y)) s->GU (GM prog w) A (keyLt' κ x.1 y.1) C (fun _ _=>False) s
def bey {O:Kw} (key:Gs->O.α) (left:Bool) (x y:Gs):Bool:=if left=true then O.blt (key y) (key x) else !O.blt (key x) (key y)
section
variable {prog:GD} {w:Hg} {A:Ho} {E:FU->FW->Prop} {s:FW} {κ:JB} {O:Kw} {key:Gs->O.α} {P:Gs->Prop}
theorem lX (C:gn prog w A s κ O key P) {x y:Gs} {st:HK} {Q:Option Bool->HK->Prop} (hx:P x) (hy:P y) (hk:kindOf st=κ) (h:Q (some (O.blt (key x) (key y))) st) :
  wpS (GM prog w) A E s (lt' x y) Q st:=by
 rw [lt'_eq]
 refine F0 (JI ?_)
 rw [hk]
 refine F0 (KO (JO (Gy (C x y (fun b s'=>s'=s/\b=O.blt (key x) (key y)) hx hy ⟨rfl,rfl⟩) (fun b s' z=>⟨z.1,?_⟩) fun _ _ z=>z.elim)))
 rw [z.2]
 exact Gb h
theorem aU {arr:Array Gs} {i:Nat} {st:HK} {Q:Gs->HK->Prop} (e:i < arr.size) (h:Q (at_ arr i) st):wpS (GM prog w) A E s (elem' arr i) Q st:=by
 rw [elem'_eq,oA e];exact Gb h
theorem BO (C:gn prog w A s κ O key P) {left:Bool} {x:Gs} {arr:Array Gs} {i:Nat} {st:HK} {Q:Option Bool->HK->Prop} (e:i < arr.size) (hx:P x) (hy:P (at_ arr i)) (hk:kindOf st=κ)
  (h:Q (some (bey key left x (at_ arr i))) st) :
  wpS (GM prog w) A E s (elem' arr i >>= fun y=>if left=true then lt' y x else lt' x y >>= fun r=>pure (Option.map (fun z=>!z) r)) Q st:=by
 refine F0 (aU e ?_)
 unfold bey at h
 cases left with
 | true=>exact lX C hy hx hk h
 | false=>exact F0 (lX C hx hy hk (Gb h))
theorem gp (C:gn prog w A s κ O key P) {left:Bool} {x:Gs} {arr:Array Gs} {base n hint:Nat} {st:HK} {Q:Option Nat->HK->Prop} (hk:kindOf st=κ) (hh:hint < n) (hz:base+n<=arr.size)
  (hP:∀i,i < n->P (at_ arr (base+i))) (hx:P x) (mono:∀i j,i<=j->j < n->bey key left x (at_ arr (base+j))=true->bey key left x (at_ arr (base+i))=true)
  (h:∀k,k<=n->(∀i,i < k->bey key left x (at_ arr (base+i))=true)->(∀i,k<=i->i < n->bey key left x (at_ arr (base+i))=false)->Q (some k) st) :
  wpS (GM prog w) A E s (gal left x arr base n hint) Q st:=by
 have B:=fun i (hi:i < n) (R:Option Bool->HK->Prop) (r:R (some (bey key left x (at_ arr (base+i)))) st)=>BO (E:=E) C (left:=left) (show base+i < arr.size by lia) hx (hP i hi) hk r
 generalize eb:(fun i=>bey key left x (at_ arr (base+i)))=b at *
 have eb':∀i,bey key left x (at_ arr (base+i))=b i:=fun i=>by rw [<- eb]
 simp only [eb'] at *
 have anti:∀i j,i<=j->j < n->b i=false->b j=false:=fun i j hij hj hi=>by
  cases hj':b j with
  | false=>rfl
  | true=>rw [mono i j hij hj hj'] at hi;cases hi
 delta gal
 refine F0 (B hint hh _ ?_)
 dsimp only
 cases hb:b hint with
 | true=>
  rw [if_pos rfl]
  refine F0 (HH (GZ (I:=fun k c st'=>st'=st/\∃ls os,c=(none,ls,os)/\ls < os/\k+1<=os/\hint+ls < n/\b (hint+ls)=true)
   (Q:=fun c st'=>st'=st/\∃ls os,c=(none,ls,os)/\ls < os/\hint+ls < n/\b (hint+ls)=true/\(n-hint<=os\/b (hint+os)=false)) ?step ?fin ⟨rfl,0,1,rfl,by lia,by lia,by lia,hb⟩) ?post)
  case fin=>
   rintro c st' ⟨rfl,ls,os,rfl,h1,h2,h3,h4⟩
   exact ⟨rfl,ls,os,rfl,h1,h3,h4,.inl (by lia)⟩
  case step=>
   rintro k c st' _ hkn ⟨rfl,ls,os,rfl,h1,h2,h3,h4⟩
   dsimp only
   by_cases hge:os >= n-hint
   ·rw [if_pos hge];exact Gb ⟨rfl,ls,os,rfl,h1,h3,h4,.inl hge⟩
   ·rw [if_neg hge]
    refine F0 (B (hint+os) (by lia) _ ?_)
    dsimp only
    cases ho:b (hint+os) with
    | true=>exact Gb ⟨rfl,os,2*os+1,rfl,by lia,by lia,by lia,ho⟩
    | false=>exact Gb ⟨rfl,ls,os,rfl,h1,h3,h4,.inr ho⟩
  case post=>
   rintro c st' ⟨rfl,ls,os,rfl,h1,h3,h4,h5⟩
   dsimp only
   refine F0 (HH (GZ (I:=fun k c st''=>st''=st'/\∃lo hi,c=(none,lo,hi)/\lo<=hi/\hi<=n/\hi-lo<=n-k/\(∀i,i < lo->b i=true)/\(∀i,hi<=i->i < n->b i=false))
    (Q:=fun c st''=>st''=st'/\∃k,c=(none,k,k)/\k<=n/\(∀i,i < k->b i=true)/\(∀i,k<=i->i < n->b i=false)) ?step ?fin ?init) ?post)
   case init=>
    refine ⟨rfl,_,_,rfl,by lia,by lia,by lia,fun i hi=>mono i _ (by lia) h3 h4,fun i hi hn=>?_⟩
    rcases h5 with h5 | h5
    ·lia
    ·by_cases hge:n-hint<=os
     ·lia
     ·exact anti _ i (by lia) hn h5
   case post=>
    rintro c st'' ⟨rfl,k,rfl,z1,z2,z3⟩
    exact Gb (h k z1 z2 z3)
   case fin=>
    rintro c st'' ⟨rfl,lo,hi,rfl,a1,a2,a3,a4,a5⟩
    have:lo=hi:=by lia
    subst this
    exact ⟨rfl,lo,rfl,a2,a4,a5⟩
   case step=>
    rintro k c st'' _ hkn ⟨rfl,lo,hi,rfl,a1,a2,a3,a4,a5⟩
    dsimp only
    by_cases hge:lo >= hi
    ·rw [if_pos hge]
     have:lo=hi:=by lia
     subst this
     exact Gb ⟨rfl,lo,rfl,a2,a4,a5⟩
    ·rw [if_neg hge]
     refine F0 (B (lo+(hi-lo) / 2) (by lia) _ ?_)
     dsimp only
     cases ho:b (lo+(hi-lo) / 2) with
     | true=>exact Gb ⟨rfl,_,_,rfl,by lia,a2,by lia,fun i hi=>mono i _ (by lia) (by lia) ho,a5⟩
     | false=>exact Gb ⟨rfl,_,_,rfl,by lia,by lia,by lia,a4,fun i h1 h2=>anti _ i h1 h2 ho⟩
 | false=>
  rw [if_neg (by simp)]
  refine F0 (HH (GZ (I:=fun k c st'=>st'=st/\∃ls os,c=(none,ls,os)/\ls < os/\k+1<=os/\ls<=hint/\b (hint-ls)=false)
   (Q:=fun c st'=>st'=st/\∃ls os,c=(none,ls,os)/\ls < os/\ls<=hint/\b (hint-ls)=false/\(hint+1<=os\/(os<=hint/\b (hint-os)=true))) ?step ?fin ⟨rfl,0,1,rfl,by lia,by lia,by lia,hb⟩) ?post)
  case fin=>
   rintro c st' ⟨rfl,ls,os,rfl,h1,h2,h3,h4⟩
   exact ⟨rfl,ls,os,rfl,h1,h3,h4,.inl (by lia)⟩
  case step=>
   rintro k c st' _ hkn ⟨rfl,ls,os,rfl,h1,h2,h3,h4⟩
   dsimp only
   by_cases hge:os >= hint+1
   ·rw [if_pos hge];exact Gb ⟨rfl,ls,os,rfl,h1,h3,h4,.inl hge⟩
   ·rw [if_neg hge]
    refine F0 (B (hint-os) (by lia) _ ?_)
    dsimp only
    cases ho:b (hint-os) with
    | true=>exact Gb ⟨rfl,ls,os,rfl,h1,h3,h4,.inr ⟨by lia,ho⟩⟩
    | false=>exact Gb ⟨rfl,os,2*os+1,rfl,by lia,by lia,by lia,ho⟩
  case post=>
   rintro c st' ⟨rfl,ls,os,rfl,h1,h3,h4,h5⟩
   dsimp only
   refine F0 (HH (GZ (I:=fun k c st''=>st''=st'/\∃lo hi,c=(none,lo,hi)/\lo<=hi/\hi<=n/\hi-lo<=n-k/\(∀i,i < lo->b i=true)/\(∀i,hi<=i->i < n->b i=false))
    (Q:=fun c st''=>st''=st'/\∃k,c=(none,k,k)/\k<=n/\(∀i,i < k->b i=true)/\(∀i,k<=i->i < n->b i=false)) ?step ?fin ?init) ?post)
   case init=>
    refine ⟨rfl,_,_,rfl,by lia,by lia,by lia,fun i hi=>?_,fun i hi hn=>anti _ i hi hn h4⟩
    rcases h5 with h5 | h5
    ·lia
    ·exact mono i _ (by lia) (by lia) h5.2
   case post=>
    rintro c st'' ⟨rfl,k,rfl,z1,z2,z3⟩
    exact Gb (h k z1 z2 z3)
   case fin=>
    rintro c st'' ⟨rfl,lo,hi,rfl,a1,a2,a3,a4,a5⟩
    have:lo=hi:=by lia
    subst this
    exact ⟨rfl,lo,rfl,a2,a4,a5⟩
   case step=>
    rintro k c st'' _ hkn ⟨rfl,lo,hi,rfl,a1,a2,a3,a4,a5⟩
    dsimp only
    by_cases hge:lo >= hi
    ·rw [if_pos hge]
     have:lo=hi:=by lia
     subst this
     exact Gb ⟨rfl,lo,rfl,a2,a4,a5⟩
    ·rw [if_neg hge]
     refine F0 (B (lo+(hi-lo) / 2) (by lia) _ ?_)
     dsimp only
     cases ho:b (lo+(hi-lo) / 2) with
     | true=>exact Gb ⟨rfl,_,_,rfl,by lia,a2,by lia,fun i hi=>mono i _ (by lia) (by lia) ho,a5⟩
     | false=>exact Gb ⟨rfl,_,_,rfl,by lia,by lia,by lia,a4,fun i h1 h2=>anti _ i h1 h2 ho⟩
end
end Tim
end
section
namespace Tim
open PySem PyProof.Rows
section
variable {α:Type} {le:α->α->Prop}
structure MI (le:α->α->Prop) (A B out:List α) (ia ib:Nat):Prop where
 perm:out.Perm (A.take ia++B.take ib)
 srt:out.Pairwise le
 la:∀x∈out,∀y∈A.drop ia,le x y
 lb:∀x∈out,∀y∈B.drop ib,le x y
def Res (le:α->α->Prop) (A B r:List α):Prop:=r.Perm (A++B)/\r.Pairwise le
theorem MI.pushA {A B out:List α} {ia ib k:Nat} (sA:A.Pairwise le) (M:MI le A B out ia ib) (h:∀x∈(A.drop ia).take k,∀y∈B.drop ib,le x y):MI le A B (out++(A.drop ia).take k) (ia+k) ib:=by
 have sD:((A.drop ia).take k++(A.drop ia).drop k).Pairwise le:=by rw [GL];exact sA.drop
 have eD:A.drop (ia+k)=(A.drop ia).drop k:=by rw [List.drop_drop]
 rw [LA] at sD
 refine ⟨?_,?_,?_,?_⟩
 ·rw [List.take_add,Gm]
  refine (M.perm.append_right _).trans ?_
  rw [Gm]
  exact HS _ HU
 ·exact List.pairwise_append.mpr ⟨M.srt,sD.1,fun x hx y hy=>M.la x hx y (HY hy)⟩
 ·intro x hx y hy
  rw [eD] at hy
  rcases List.mem_append.mp hx with hx | hx
  ·exact M.la x hx y (IZ hy)
  ·exact sD.2.2 x hx y hy
 ·intro x hx y hy
  rcases List.mem_append.mp hx with hx | hx
  ·exact M.lb x hx y hy
  ·exact h x hx y hy
theorem MI.swap {A B out:List α} {ia ib:Nat} (M:MI le A B out ia ib):MI le B A out ib ia:=⟨M.perm.trans HU,M.srt,M.lb,M.la⟩
theorem MI.pushB {A B out:List α} {ia ib k:Nat} (sB:B.Pairwise le) (M:MI le A B out ia ib) (h:∀x∈(B.drop ib).take k,∀y∈A.drop ia,le x y):MI le A B (out++(B.drop ib).take k) ia (ib+k):=
 (M.swap.pushA sB h).swap
theorem MI.done {A B out:List α} {ia ib:Nat} (sA:A.Pairwise le) (sB:B.Pairwise le) (M:MI le A B out ia ib) (h:A.drop ia=[]\/B.drop ib=[]):Res le A B (out++A.drop ia++B.drop ib):=by
 refine ⟨?_,?_⟩
 ·rw [Gm]
  refine (M.perm.append_right _).trans ?_
  conv=>rhs;rw [<- GL ia A,<- GL ib B]
  rw [Gm,Gm]
  refine HS _ ?_
  rw [<- Gm,<- Gm]
  exact Jr _ HU
 ·rw [Gm]
  refine List.pairwise_append.mpr ⟨M.srt,?_,fun x hx y hy=>?_⟩
  ·rcases h with h | h
   ·rw [h];exact sB.drop
   ·rw [h,Hy];exact sA.drop
  ·rcases List.mem_append.mp hy with hy | hy
   ·exact M.la x hx y hy
   ·exact M.lb x hx y hy
theorem MI.last {A B out:List α} {ia ib:Nat} (sA:A.Pairwise le) (sB:B.Pairwise le) (M:MI le A B out ia ib) (h:∀x∈B,∀y∈A.drop ia,le x y):Res le A B (out++B.drop ib++A.drop ia):=by
 refine ⟨?_,?_⟩
 ·rw [Gm]
  refine (M.perm.append_right _).trans ?_
  conv=>rhs;rw [<- GL ia A,<- GL ib B]
  rw [Gm,Gm]
  refine HS _ ?_
  rw [<- Gm]
  exact HU
 ·rw [Gm]
  refine List.pairwise_append.mpr ⟨M.srt,List.pairwise_append.mpr ⟨sB.drop,sA.drop,fun x hx y hy=>h x (IZ hx) y hy⟩,fun x hx y hy=>?_⟩
  rcases List.mem_append.mp hy with hy | hy
  ·exact M.lb x hx y hy
  ·exact M.la x hx y hy
structure MH (le:α->α->Prop) (A B R:List α) (na nb:Nat):Prop where
 perm:R.Perm (A.drop na++B.drop nb)
 srt:R.Pairwise le
 la:∀x∈A.take na,∀y∈R,le x y
 lb:∀x∈B.take nb,∀y∈R,le x y
theorem MH.swap {A B R:List α} {na nb:Nat} (M:MH le A B R na nb):MH le B A R nb na:=⟨M.perm.trans HU,M.srt,M.lb,M.la⟩
theorem MH.pushA {A B R:List α} {na nb k:Nat} (sA:A.Pairwise le) (hk:k<=na) (M:MH le A B R na nb) (h:∀x∈B.take nb,∀y∈(A.take na).drop k,le x y):MH le A B ((A.take na).drop k++R) k nb:=by
 have sD:((A.take na).take k++(A.take na).drop k).Pairwise le:=by rw [GL];exact sA.take
 have eT:A.take k=(A.take na).take k:=by rw [List.take_take,Li hk]
 have eD:A.drop k=(A.take na).drop k++A.drop na:=by
  conv=>lhs;rw [<- GL na A]
  rw [List.drop_append]
  by_cases hz:na<=A.length
  ·rw [show k-(A.take na).length=0 by rw [JG];lia];rfl
  ·rw [Ii (show A.length<=na by lia)];simp
 rw [LA] at sD
 refine ⟨?_,?_,?_,?_⟩
 ·rw [eD,Gm]
  exact HS _ M.perm
 ·exact List.pairwise_append.mpr ⟨sD.2.1,M.srt,fun x hx y hy=>M.la x (IZ hx) y hy⟩
 ·intro x hx y hy
  rw [eT] at hx
  rcases List.mem_append.mp hy with hy | hy
  ·exact sD.2.2 x hx y hy
  ·exact M.la x (HY hx) y hy
 ·intro x hx y hy
  rcases List.mem_append.mp hy with hy | hy
  ·exact h x hx y hy
  ·exact M.lb x hx y hy
theorem MH.pushB {A B R:List α} {na nb k:Nat} (sB:B.Pairwise le) (hk:k<=nb) (M:MH le A B R na nb) (h:∀x∈A.take na,∀y∈(B.take nb).drop k,le x y):MH le A B ((B.take nb).drop k++R) na k:=
 (M.swap.pushA sB hk h).swap
theorem MH.done {A B R:List α} {na nb:Nat} (sA:A.Pairwise le) (sB:B.Pairwise le) (M:MH le A B R na nb) (h:A.take na=[]\/B.take nb=[]):Res le A B (A.take na++B.take nb++R):=by
 refine ⟨?_,?_⟩
 ·refine (M.perm.append_left _).trans ?_
  conv=>rhs;rw [<- GL na A,<- GL nb B]
  rw [Gm,Gm]
  refine HS _ ?_
  rw [<- Gm,<- Gm]
  exact Jr _ HU
 ·refine List.pairwise_append.mpr ⟨?_,M.srt,fun x hx y hy=>?_⟩
  ·rcases h with h | h
   ·rw [h];exact sB.take
   ·rw [h,Hy];exact sA.take
  ·rcases List.mem_append.mp hx with hx | hx
   ·exact M.la x hx y hy
   ·exact M.lb x hx y hy
theorem MH.first {A B R:List α} {na nb:Nat} (sA:A.Pairwise le) (sB:B.Pairwise le) (M:MH le A B R na nb) (h:∀x∈B.take nb,∀y∈A,le x y):Res le A B (B.take nb++A.take na++R):=by
 refine ⟨?_,?_⟩
 ·refine (M.perm.append_left _).trans ?_
  conv=>rhs;rw [<- GL na A,<- GL nb B]
  rw [<- Gm,<- Gm]
  refine Jr _ ?_
  rw [Gm,Gm]
  exact List.perm_append_comm.trans (by rw [Gm])
 ·refine List.pairwise_append.mpr ⟨List.pairwise_append.mpr ⟨sB.take,sA.take,fun x hx y hy=>h x hx y (HY hy)⟩,M.srt,fun x hx y hy=>?_⟩
  rcases List.mem_append.mp hx with hx | hx
  ·exact M.lb x hx y hy
  ·exact M.la x hx y hy
theorem di {l:List α} {i:Nat} (d:α) (h:i < l.length):(l.drop i).take 1=[l.getD i d]:=by
 rw [Im h,List.take_succ_cons,Ko,GR,FS h];rfl
theorem dk {l:List α} {i:Nat} (d:α) (h:i < l.length):(l.take (i+1)).drop i=[l.getD i d]:=by
 rw [Ml,List.drop_append,Ii (by simp;lia)]
 simp [h,Li (K8 h)]
end
end Tim
end
section
namespace Tim
open PySem PyProof.Rows
def mlo:Array Gs->Array Gs->StateT HK Sem (Array Gs):=sortPriv% PySem.Builtin.mergeLo
def Same (st st':HK):Prop:=kindOf st'=kindOf st/\F8 st'=F8 st/\GA st'=GA st/\IM st'=IM st
theorem Same.rfl' {st:HK}:Same st st:=⟨rfl,rfl,rfl,rfl⟩
theorem kr (a:Array Gs) (i:Nat):(a.extract i a.size).toList=a.toList.drop i:=by
 simp only [Array.toList_extract,Kp];exact Jq (by simp)
theorem wC (a:Array Gs) (i k:Nat):(a.extract i (i+k)).toList=(a.toList.drop i).take k:=by simp [Kp]
abbrev kl {O:Kw} (key:Gs->O.α):Gs->Gs->Prop:=fun x y=>O.kle (key x) (key y)
theorem bX {a:Array Gs} {i:Nat} (h:i < a.size):a.toList[i]?=some (at_ a i):=by rw [Hu];exact oA h
theorem eJ {a:Array Gs} {i:Nat} (h:i < a.size):at_ a i∈a.toList:=He (bX h)
theorem getD_at {a:Array Gs} {i:Nat} (h:i < a.size):a.toList.getD i (Hh,Hh)=at_ a i:=by rw [GR,bX h];rfl
theorem ku {a:Array Gs} {i k:Nat} {x:Gs} (h:x∈(a.toList.drop i).take k):∃j,j < k/\i+j < a.size/\x=at_ a (i+j):=by
 obtain ⟨j,hj,e⟩:=LQ h
 have hj':j < k/\j < a.size-i:=by simpa [Nat.lt_min] using hj
 refine ⟨j,hj'.1,by lia,?_⟩
 have e2:a.toList[i+j]?=some x:=by
  rw [<- e]
  simp only [List.getElem_take,List.getElem_drop]
  exact FS _
 rw [bX (by lia)] at e2
 exact (Gx e2).symm
theorem lY {a:Array Gs} {i:Nat} {x:Gs} (h:x∈a.toList.drop i):∃j,i+j < a.size/\x=at_ a (i+j):=by
 obtain ⟨j,_,h2,h3⟩:=ku (k:=(a.toList.drop i).length) (by rw [Hl];exact h)
 exact ⟨j,h2,h3⟩
section
variable {prog:GD} {w:Hg} {A:Ho} {E:FU->FW->Prop} {s:FW} {κ:JB} {O:Kw} {key:Gs->O.α} {P:Gs->Prop}
theorem eK {a:Array Gs} (h:a.toList.Pairwise (kl key)) {i j:Nat} (hij:i<=j) (hj:j < a.size):kl key (at_ a i) (at_ a j):=by
 by_cases e:i=j
 ·subst e;exact Iz _
 ·have q:=List.pairwise_iff_getElem.mp h i j (by simp;lia) (by simpa using hj) (by lia)
  have e1:a.toList[i]'(by simp;lia)=at_ a i:=by have:=bX (a:=a) (i:=i) (by lia);rw [FS (by simp;lia)] at this;exact Gx this
  have e2:a.toList[j]'(by simpa using hj)=at_ a j:=by have:=bX (a:=a) (i:=j) hj;rw [FS (by simpa using hj)] at this;exact Gx this
  rw [e1,e2] at q
  exact q
theorem fZ {a:Array Gs} (h:a.toList.Pairwise (kl key)) {i:Nat} {y:Gs} (hy:y∈a.toList.drop i):kl key (at_ a i) y:=by
 obtain ⟨j,hj,rfl⟩:=lY hy
 exact eK h (by lia) hj
theorem lZ {x y:Gs} (h:bey key false x y=true):kl key y x:=by
 have:(!O.blt (key x) (key y))=true:=h
 show O.blt (key x) (key y)=false
 simpa using this
theorem tj {x y:Gs} (h:bey key false x y=false):O.klt (key x) (key y):=by
 have:(!O.blt (key x) (key y))=false:=h
 show O.blt (key x) (key y)=true
 simpa using this
theorem md {x y:Gs} (h:bey key true x y=true):O.klt (key y) (key x):=h
theorem tm {x y:Gs} (h:bey key true x y=false):kl key x y:=h
theorem oB {a:Array Gs} (h:a.toList.Pairwise (kl key)) {x:Gs} {base n:Nat} (hz:base+n<=a.size):∀i j,i<=j->j < n->bey key false x (at_ a (base+j))=true->bey key false x (at_ a (base+i))=true:=fun i j hij hj q=>by
 have q:=lZ q
 have:kl key (at_ a (base+i)) x:=GN (eK h (by lia) (by lia)) q
 show (!O.blt (key x) (key (at_ a (base+i))))=true
 rw [show O.blt (key x) (key (at_ a (base+i)))=false from this];rfl
theorem oC {a:Array Gs} (h:a.toList.Pairwise (kl key)) {x:Gs} {base n:Nat} (hz:base+n<=a.size):∀i j,i<=j->j < n->bey key true x (at_ a (base+j))=true->bey key true x (at_ a (base+i))=true:=fun i j hij hj q=>
 KC (eK h (show base+i<=base+j by lia) (by lia)) (md q)
theorem b9 {σ α:Type} {M:M5} {c:Prop} [Decidable c] {t e:StateT σ Sem α} {Q:α->σ->Prop} {st:σ} (h1:c->wpS M A E s t Q st) (h2:¬c->wpS M A E s e Q st):wpS M A E s (if c then t else e) Q st:=by
 by_cases h:c
 ·rw [if_pos h];exact h1 h
 ·rw [if_neg h];exact h2 h
theorem yU {σ α:Type} {M:M5} {c:Nat->Prop} [∀m,Decidable (c m)] {T F:Nat->StateT σ Sem α} {Q:α->σ->Prop} {st:σ} (h1:∀m,(∀m,wpS M A E s (F m) Q st)->wpS M A E s (T m) Q st) (key:∀m,wpS M A E s (F m) Q st):∀m,wpS M A E s (if c m then T m else F m) Q st:=fun m=>b9 (fun _=>h1 m key) fun _=>key m
theorem yV {σ α:Type} {M:M5} {c:Prop} [Decidable c] {T:StateT σ Sem α} {F:PUnit->Array Gs->Nat->StateT σ Sem α} {o:Array Gs} {i:Nat} {Q:α->σ->Prop} {st:σ} (Cond:Array Gs->Nat->Prop) (h1:c->(∀o i,Cond o i->wpS M A E s (F ⟨⟩ o i) Q st)->wpS M A E s T Q st) (h2:¬c->Cond o i) (key:∀o i,Cond o i->wpS M A E s (F ⟨⟩ o i) Q st):wpS M A E s (if c then T else F ⟨⟩ o i) Q st:=b9 (fun h=>h1 h key) fun h=>key _ _ (h2 h)
def X4 (P:Array Gs->Nat->Nat->Nat->Prop) (c:Option (Array Gs)×Array Gs×Nat×Nat×Nat):Prop:=∃o i j m,c=(none,o,i,j,m)/\P o i j m
def X5 (P:Array Gs->Nat->Nat->Prop) (c:Option (Array Gs)×Array Gs×Nat×Nat×Nat×Nat):Prop:=∃o i j m n,c=(none,o,i,j,m,n)/\P o i j
def X6 (P:Array Gs->Nat->Nat->Prop) (c:Option (Array Gs)×Array Gs×Nat×Nat×Nat×Nat×Nat):Prop:=∃o i j m n k,c=(none,o,i,j,m,n,k)/\P o i j
def Xr {τ:Type} (R:Array Gs->Prop) (c:Option (Array Gs)×τ):Prop:=∃r z,c=(some r,z)/\R r
@[elab_as_elim] theorem X4.el {P:Array Gs->Nat->Nat->Nat->Prop} {c:Option (Array Gs)×Array Gs×Nat×Nat×Nat} {C:Option (Array Gs)×Array Gs×Nat×Nat×Nat->Prop} (h:X4 P c) (f:∀o i j m,P o i j m->C (none,o,i,j,m)):C c:=by
 obtain ⟨o,i,j,m,rfl,p⟩:=h;exact f _ _ _ _ p
@[elab_as_elim] theorem X5.el {P:Array Gs->Nat->Nat->Prop} {c:Option (Array Gs)×Array Gs×Nat×Nat×Nat×Nat} {C:Option (Array Gs)×Array Gs×Nat×Nat×Nat×Nat->Prop} (h:X5 P c) (f:∀o i j m n,P o i j->C (none,o,i,j,m,n)):C c:=by
 obtain ⟨o,i,j,m,n,rfl,p⟩:=h;exact f _ _ _ _ _ p
@[elab_as_elim] theorem X6.el {P:Array Gs->Nat->Nat->Prop} {c:Option (Array Gs)×Array Gs×Nat×Nat×Nat×Nat×Nat} {C:Option (Array Gs)×Array Gs×Nat×Nat×Nat×Nat×Nat->Prop} (h:X6 P c) (f:∀o i j m n k,P o i j->C (none,o,i,j,m,n,k)):C c:=by
 obtain ⟨o,i,j,m,n,k,rfl,p⟩:=h;exact f _ _ _ _ _ _ p
@[elab_as_elim] theorem Xr.el {τ:Type} {R:Array Gs->Prop} {c:Option (Array Gs)×τ} {C:Option (Array Gs)×τ->Prop} {P:Prop} (h:Xr R c\/P) (f:∀r z,R r->C (some r,z)) (g:P->C c):C c:=by
 rcases h with ⟨r,z,rfl,p⟩ | p
 ·exact f _ _ p
 ·exact g p
theorem BP (C:gn prog w A s κ O key P) {a b:Array Gs} {st:HK} {Q:Array Gs->HK->Prop} (hk:kindOf st=κ) (ha:0 < a.size) (hb:0 < b.size) (Pa:∀x∈a.toList,P x) (Pb:∀x∈b.toList,P x)
  (sA:a.toList.Pairwise (kl key)) (sB:b.toList.Pairwise (kl key)) (h0:∀y∈a.toList,kl key (at_ b 0) y) (hl:∀x∈b.toList,kl key x (at_ a (a.size-1)))
  (h:∀r st',Same st st'->Res (kl key) a.toList b.toList r.toList->Q r st'):wpS (GM prog w) A E s (mlo a b) Q st:=by
 have pa:∀i,i < a.size->P (at_ a i):=fun i hi=>Pa _ (eJ hi)
 have pb:∀i,i < b.size->P (at_ b i):=fun i hi=>Pb _ (eJ hi)
 have M0:MI (kl key) a.toList b.toList (#[at_ b 0]:Array Gs).toList 0 1:=by
  refine ⟨?_,?_,?_,?_⟩
  ·have e:b.toList.take 1=[at_ b 0]:=by have:=di (l:=b.toList) (i:=0) (Hh,Hh) (by simpa using hb);rw [LJ,getD_at hb] at this;exact this
   rw [e];simp
  ·simp
  ·intro x hx y hy
   have:x=at_ b 0:=by simpa using hx
   subst this;exact h0 y (IZ hy)
  ·intro x hx y hy
   have:x=at_ b 0:=by simpa using hx
   subst this
   obtain ⟨j,hj,rfl⟩:=lY hy
   exact eK sB (by lia) hj
 have dn:∀{out:Array Gs} {ia ib:Nat},MI (kl key) a.toList b.toList out.toList ia ib->(a.size<=ia\/b.size<=ib)->Res (kl key) a.toList b.toList (out++a.extract ia a.size++b.extract ib b.size).toList:=fun M hh=>by
  rw [GX,GX,kr,kr]
  exact M.done sA sB (hh.imp (fun z=>Ii (by simpa using z)) fun z=>Ii (by simpa using z))
 have la:∀{out:Array Gs} {ia ib:Nat},MI (kl key) a.toList b.toList out.toList ia ib->ia+1=a.size->Res (kl key) a.toList b.toList (out++b.extract ib b.size++a.extract ia a.size).toList:=fun {out ia ib} M hh=>by
  rw [GX,GX,kr,kr]
  refine M.last sA sB fun x hx y hy=>?_
  obtain ⟨j,hj,rfl⟩:=lY hy
  have:=hl x hx
  rwa [show a.size-1=ia+j by lia] at this
 have p1A:∀{out:Array Gs} {ia ib:Nat},MI (kl key) a.toList b.toList out.toList ia ib->ia < a.size->(∀y∈b.toList.drop ib,kl key (at_ a ia) y)->MI (kl key) a.toList b.toList (out.push (at_ a ia)).toList (ia+1) ib:=fun {out ia ib} M hi q=>by
  have e:=di (l:=a.toList) (i:=ia) (Hh,Hh) (by simpa using hi)
  rw [getD_at hi] at e
  have:=M.pushA (k:=1) sA (by rw [e];intro x hx y hy;rw [HX] at hx;subst hx;exact q y hy)
  rw [e] at this
  rw [KD];exact this
 have p1B:∀{out:Array Gs} {ia ib:Nat},MI (kl key) a.toList b.toList out.toList ia ib->ib < b.size->(∀y∈a.toList.drop ia,kl key (at_ b ib) y)->MI (kl key) a.toList b.toList (out.push (at_ b ib)).toList ia (ib+1):=fun {out ia ib} M hi q=>by
  have e:=di (l:=b.toList) (i:=ib) (Hh,Hh) (by simpa using hi)
  rw [getD_at hi] at e
  have:=M.pushB (k:=1) sB (by rw [e];intro x hx y hy;rw [HX] at hx;subst hx;exact q y hy)
  rw [e] at this
  rw [KD];exact this
 have pkA:∀{out:Array Gs} {ia ib k:Nat},MI (kl key) a.toList b.toList out.toList ia ib->(∀i,i < k->kl key (at_ a (ia+i)) (at_ b ib))->MI (kl key) a.toList b.toList (out++a.extract ia (ia+k)).toList (ia+k) ib:=fun {out ia ib k} M q=>by
  rw [GX,wC]
  refine M.pushA sA fun x hx y hy=>?_
  obtain ⟨j,hj,_,rfl⟩:=ku hx
  exact GN (q j hj) (fZ sB hy)
 have pkB:∀{out:Array Gs} {ia ib k:Nat},MI (kl key) a.toList b.toList out.toList ia ib->(∀i,i < k->O.klt (key (at_ b (ib+i))) (key (at_ a ia)))->MI (kl key) a.toList b.toList (out++b.extract ib (ib+k)).toList ia (ib+k):=fun {out ia ib k} M q=>by
  rw [GX,wC]
  refine M.pushB sB fun x hx y hy=>?_
  obtain ⟨j,hj,_,rfl⟩:=ku hx
  exact GN (G6 (q j hj)) (fZ sA hy)
 delta mlo
 refine F0 (KO (IT ⟨rfl,?_⟩))
 refine F0 (aU hb ?_)
 refine b9 (fun e1=>Gb (h _ _ Same.rfl' (dn M0 (.inr (by have z:1=b.size:=(by simpa using e1);exact JC z.symm))))) fun e1=>?_
 refine b9 (fun e2=>Gb (h _ _ Same.rfl' (la M0 (by simpa using e2)))) fun e2=>?_
 have e1:¬(1=b.size):=by simpa using e1
 have e2:¬(0+1=a.size):=by simpa using e2
 refine F0 (JI ?_)
 refine F0 (HH (GZ (I:=fun x c st'=>Same st st'/\X4 (fun out ia ib _=>MI (kl key) a.toList b.toList out.toList ia ib/\ia+1 < a.size/\ib < b.size/\x+1<=ia+ib) c)
  (Q:=fun c st'=>Same st st'/\Xr (fun r=>Res (kl key) a.toList b.toList r.toList) c) ?step ?fin ⟨Same.rfl',_,0,1,_,rfl,M0,by lia,by lia,by lia⟩) ?post)
 case post=>exact fun c st' q=>Xr.el (P:=False) (.inl q.2) (fun r z R=>Gb (h r st' q.1 R)) fun f=>f.elim
 case fin=>
  rintro c st' ⟨S,out,ia,ib,mg,rfl,M,h1,h2,h3⟩
  lia
 case step=>
  intro x c st' _ hx hI
  refine X4.el hI.2 fun out ia ib mg hM=>?_
  have S:=hI.1
  refine F0 (HH (GZ (I:=fun y c st''=>Same st st''/\X5 (fun out ia' ib'=>MI (kl key) a.toList b.toList out.toList ia' ib'/\ia'+1 < a.size/\ib' < b.size/\ia+ib+y<=ia'+ib') c)
   (Q:=fun c st''=>Same st st''/\(Xr (fun r=>Res (kl key) a.toList b.toList r.toList) c\/X5 (fun out ia' ib'=>MI (kl key) a.toList b.toList out.toList ia' ib'/\ia'+1 < a.size/\ib' < b.size/\ia+ib+1<=ia'+ib') c)) ?s1 ?f1 ⟨S,out,ia,ib,0,0,rfl,hM.1,hM.2.1,hM.2.2.1,by lia⟩) ?p1)
  case f1=>
   rintro c st2 ⟨S,out,ia',ib',ac,bc,rfl,M,h1,h2,h3⟩
   exact ⟨S,.inr ⟨out,ia',ib',ac,bc,rfl,M,h1,h2,by lia⟩⟩
  case s1=>
   intro y c st2 _ hy hJ
   refine X5.el hJ.2 fun out ia' ib' ac bc hM=>?_
   have S:=hJ.1
   have M:=hM.1
   have h1:=hM.2.1
   have h2:=hM.2.2.1
   have h3:=hM.2.2.2
   refine F0 (aU h2 (F0 (aU (show ia' < a.size by lia) (F0 (lX C (pb _ h2) (pa _ (by lia)) (S.1.trans hk) ?_)))))
   refine b9 (c:=O.blt (key (at_ b ib')) (key (at_ a ia'))=true) (fun hc=>?_) fun hc=>?_
   ·refine F0 (aU h2 ?_)
    have M1:=p1B M h2 fun y hy=>GN (G6 hc) (fZ sA hy)
    refine b9 (fun e=>Gb ⟨S,.inl ⟨_,_,rfl,dn M1 (.inr (by have z:ib'+1=b.size:=(by simpa using e);exact JC z.symm))⟩⟩) fun e=>?_
    have e:¬(ib'+1=b.size):=by simpa using e
    exact b9 (fun _=>Gb ⟨S,.inr ⟨_,_,_,_,_,rfl,M1,h1,by lia,by lia⟩⟩) fun _=>Gb ⟨S,_,_,_,_,_,rfl,M1,h1,by lia,by lia⟩
   ·have hc:O.blt (key (at_ b ib')) (key (at_ a ia'))=false:=by simpa using hc
    refine F0 (aU (show ia' < a.size by lia) ?_)
    have M1:=p1A M (by lia) fun y hy=>GN (show kl key (at_ a ia') (at_ b ib') from hc) (fZ sB hy)
    refine b9 (fun e=>Gb ⟨S,.inl ⟨_,_,rfl,la M1 (by simpa using e)⟩⟩) fun e=>?_
    have e:¬(ia'+1+1=a.size):=by simpa using e
    exact b9 (fun _=>Gb ⟨S,.inr ⟨_,_,_,_,_,rfl,M1,by lia,by lia,by lia⟩⟩) fun _=>Gb ⟨S,_,_,_,_,_,rfl,M1,by lia,by lia,by lia⟩
  case p1=>
   intro c st2 q
   refine Xr.el q.2 (fun r z R=>Gb ⟨q.1,_,_,rfl,R⟩) fun hX=>X5.el hX fun out ia' ib' ac bc hM=>?_
   have S:=q.1
   refine F0 (KO (IT ⟨rfl,?_⟩))
   refine F0 (HH (GZ (I:=fun y c st''=>Same st st''/\X6 (fun out ia' ib'=>MI (kl key) a.toList b.toList out.toList ia' ib'/\ia'+1 < a.size/\ib' < b.size/\ia+ib+1<=ia'+ib') c)
    (Q:=fun c st''=>Same st st''/\(Xr (fun r=>Res (kl key) a.toList b.toList r.toList) c\/X6 (fun out ia' ib'=>MI (kl key) a.toList b.toList out.toList ia' ib'/\ia'+1 < a.size/\ib' < b.size/\ia+ib+1<=ia'+ib') c)) ?s2 ?f2 ⟨S,out,ia',ib',_,ac,bc,rfl,hM⟩) ?p2)
   case f2=>exact fun c st3 q=>⟨q.1,.inr q.2⟩
   case p2=>exact fun c st3 q=>Xr.el q.2 (fun r z R=>Gb ⟨q.1,_,_,rfl,R⟩) fun hX=>X6.el hX fun out ia' ib' mg ac bc hM=>F0 (Hm (Gb ⟨q.1,_,_,_,_,rfl,hM.1,hM.2.1,hM.2.2.1,by have:=hM.2.2.2;lia⟩))
   case s2=>
    intro y c st3 _ hy hJ
    refine X6.el hJ.2 fun out ia' ib' mg ac bc hM=>?_
    have S:=hJ.1
    have M:=hM.1
    have h1:=hM.2.1
    have h2:=hM.2.2.1
    have h3:=hM.2.2.2
    revert mg
    refine yU (c:=fun mg=>mg > 1) (fun mg next=>?_) fun mg'=>?_
    ·exact next _
    refine F0 (Hm ?_)
    refine F0 (aU h2 (F0 (gp C (S.1.trans hk) (show 0 < a.size-ia' by lia) (by lia) (fun i hi=>pa _ (by lia)) (pb _ h2) (oB sA (by lia)) fun k z1 z2 z3=>?_)))
    have gt:∀y∈a.toList.drop (ia'+k),kl key (at_ b ib') y:=fun y hy=>by
     obtain ⟨j,hj,rfl⟩:=lY hy
     have:=tj (z3 (k+j) (by lia) (by lia))
     rw [<- KP] at this
     exact G6 this
    dsimp -zeta only
    extract_lets +lift +onlyGivenNames u1 u2 jp u4 u5
    refine yV (F:=jp) (c:=k > 0) (fun o i=>MI (kl key) a.toList b.toList o.toList i ib'/\i+1 < a.size/\ia'<=i/\∀y∈a.toList.drop i,kl key (at_ b ib') y) (fun hk0 next=>?_) (fun hk0=>⟨M,h1,FX _,by obtain rfl:k=0:=(by lia);exact gt⟩) fun out ia2 hC=>?_
    ·have M1:=pkA (k:=k) M fun i hi=>lZ (z2 i hi)
     refine b9 (fun e=>Gb ⟨S,.inl ⟨_,_,rfl,la M1 (by simpa using e)⟩⟩) fun e=>?_
     refine b9 (fun e'=>Gb ⟨S,.inl ⟨_,_,rfl,dn M1 (.inl (by have z:ia'+k=a.size:=(by simpa using e');exact JC z.symm))⟩⟩) fun e'=>?_
     have e:¬(ia'+k+1=a.size):=by simpa using e
     have e':¬(ia'+k=a.size):=by simpa using e'
     exact next _ _ ⟨M1,by lia,by lia,gt⟩
    have i1:=hC.2.1
    have i2:=hC.2.2.1
    refine F0 (aU h2 ?_)
    have M2:=p1B hC.1 h2 hC.2.2.2
    refine b9 (fun e3=>Gb ⟨S,.inl ⟨_,_,rfl,dn M2 (.inr (by have z:ib'+1=b.size:=(by simpa using e3);exact JC z.symm))⟩⟩) fun e3=>?_
    have e3:¬(ib'+1=b.size):=by simpa using e3
    refine F0 (aU (show ia2 < a.size by lia) (F0 (gp C (S.1.trans hk) (show 0 < b.size-(ib'+1) by lia) (by lia) (fun i hi=>pb _ (by lia)) (pa _ (by lia)) (oC sB (by lia)) fun k2 y1 y2 y3=>?_)))
    have ge:∀y∈b.toList.drop (ib'+1+k2),kl key (at_ a ia2) y:=fun y hy=>by
     obtain ⟨j,hj,rfl⟩:=lY hy
     have:=tm (y3 (k2+j) (by lia) (by lia))
     rw [<- KP] at this
     exact this
    dsimp -zeta only
    extract_lets +lift +onlyGivenNames v1 jp2 v3 v4
    refine yV (F:=jp2) (c:=k2 > 0) (fun o i=>MI (kl key) a.toList b.toList o.toList ia2 i/\i < b.size/\ib'+1<=i/\∀y∈b.toList.drop i,kl key (at_ a ia2) y) (fun hk2 next=>?_) (fun hk2=>⟨M2,by lia,FX _,by obtain rfl:k2=0:=(by lia);exact ge⟩) fun out ib2 hD=>?_
    ·have M3:=pkB (k:=k2) M2 fun i hi=>md (y2 i hi)
     refine b9 (fun e4=>Gb ⟨S,.inl ⟨_,_,rfl,dn M3 (.inr (by have z:ib'+1+k2=b.size:=(by simpa using e4);exact JC z.symm))⟩⟩) fun e4=>?_
     have e4:¬(ib'+1+k2=b.size):=by simpa using e4
     exact next _ _ ⟨M3,by lia,by lia,ge⟩
    have j1:=hD.2.1
    have j2:=hD.2.2.1
    refine F0 (aU (show ia2 < a.size by lia) ?_)
    have M4:=p1A hD.1 (by lia) hD.2.2.2
    refine b9 (fun e5=>Gb ⟨S,.inl ⟨_,_,rfl,la M4 (by simpa using e5)⟩⟩) fun e5=>?_
    have e5:¬(ia2+1+1=a.size):=by simpa using e5
    exact b9 (fun _=>Gb ⟨S,.inr ⟨_,_,_,_,_,_,rfl,M4,by lia,by lia,by lia⟩⟩) fun _=>Gb ⟨S,_,_,_,_,_,_,rfl,M4,by lia,by lia,by lia⟩
end
end Tim
end
section
namespace Tim
open PySem PyProof.Rows
def mhi:Array Gs->Array Gs->StateT HK Sem (Array Gs):=sortPriv% PySem.Builtin.mergeHi
theorem gN (a:Array Gs) (n:Nat):(a.extract 0 n).toList=a.toList.take n:=by
 have:=wC a 0 n
 rw [Kf,LJ] at this;exact this
theorem m8 (a:Array Gs) (i n:Nat) (h:i<=n):(a.extract i n).toList=(a.toList.take n).drop i:=by
 have:=wC a i (n-i)
 rw [show i+(n-i)=n by lia] at this
 rw [this,List.drop_take]
theorem iN {a:Array Gs} {i n:Nat} {x:Gs} (h:x∈(a.toList.take n).drop i):∃j,i<=j/\j < n/\j < a.size/\x=at_ a j:=by
 rw [List.drop_take] at h
 obtain ⟨j,h1,h2,h3⟩:=ku h
 exact ⟨i+j,by lia,by lia,h2,h3⟩
theorem jA {a:Array Gs} {n:Nat} {x:Gs} (h:x∈a.toList.take n):∃j,j < n/\j < a.size/\x=at_ a j:=by
 obtain ⟨j,_,h2,h3,h4⟩:=iN (i:=0) (by rw [LJ];exact h)
 exact ⟨j,h2,h3,h4⟩
section
variable {prog:GD} {w:Hg} {A:Ho} {E:FU->FW->Prop} {s:FW} {κ:JB} {O:Kw} {key:Gs->O.α} {P:Gs->Prop}
def Y4 (P:Nat->Nat->Array Gs->Nat->Prop) (c:Option (Array Gs)×Nat×Nat×Array Gs×Nat):Prop:=∃i j o m,c=(none,i,j,o,m)/\P i j o m
def Y5 (P:Nat->Nat->Array Gs->Prop) (c:Option (Array Gs)×Nat×Nat×Array Gs×Nat×Nat):Prop:=∃i j o m n,c=(none,i,j,o,m,n)/\P i j o
def Y6 (P:Nat->Nat->Array Gs->Prop) (c:Option (Array Gs)×Nat×Nat×Array Gs×Nat×Nat×Nat):Prop:=∃i j o m n k,c=(none,i,j,o,m,n,k)/\P i j o
@[elab_as_elim] theorem Y4.el {P:Nat->Nat->Array Gs->Nat->Prop} {c:Option (Array Gs)×Nat×Nat×Array Gs×Nat} {C:Option (Array Gs)×Nat×Nat×Array Gs×Nat->Prop} (h:Y4 P c) (f:∀i j o m,P i j o m->C (none,i,j,o,m)):C c:=by
 obtain ⟨o,i,j,m,rfl,p⟩:=h;exact f _ _ _ _ p
@[elab_as_elim] theorem Y5.el {P:Nat->Nat->Array Gs->Prop} {c:Option (Array Gs)×Nat×Nat×Array Gs×Nat×Nat} {C:Option (Array Gs)×Nat×Nat×Array Gs×Nat×Nat->Prop} (h:Y5 P c) (f:∀i j o m n,P i j o->C (none,i,j,o,m,n)):C c:=by
 obtain ⟨o,i,j,m,n,rfl,p⟩:=h;exact f _ _ _ _ _ p
@[elab_as_elim] theorem Y6.el {P:Nat->Nat->Array Gs->Prop} {c:Option (Array Gs)×Nat×Nat×Array Gs×Nat×Nat×Nat} {C:Option (Array Gs)×Nat×Nat×Array Gs×Nat×Nat×Nat->Prop} (h:Y6 P c) (f:∀i j o m n k,P i j o->C (none,i,j,o,m,n,k)):C c:=by
 obtain ⟨o,i,j,m,n,k,rfl,p⟩:=h;exact f _ _ _ _ _ _ p
theorem yW {σ α:Type} {M:M5} {c:Prop} [Decidable c] {T:StateT σ Sem α} {F:PUnit->Nat->Array Gs->StateT σ Sem α} {o:Array Gs} {i:Nat} {Q:α->σ->Prop} {st:σ} (Cond:Nat->Array Gs->Prop) (h1:c->(∀i o,Cond i o->wpS M A E s (F ⟨⟩ i o) Q st)->wpS M A E s T Q st) (h2:¬c->Cond i o) (key:∀i o,Cond i o->wpS M A E s (F ⟨⟩ i o) Q st):wpS M A E s (if c then T else F ⟨⟩ i o) Q st:=b9 (fun h=>h1 h key) fun h=>key _ _ (h2 h)
theorem BQ (C:gn prog w A s κ O key P) {a b:Array Gs} {st:HK} {Q:Array Gs->HK->Prop} (hk:kindOf st=κ) (ha:0 < a.size) (hb:0 < b.size) (Pa:∀x∈a.toList,P x) (Pb:∀x∈b.toList,P x)
  (sA:a.toList.Pairwise (kl key)) (sB:b.toList.Pairwise (kl key)) (h0:∀y∈a.toList,kl key (at_ b 0) y) (hl:∀x∈b.toList,kl key x (at_ a (a.size-1)))
  (h:∀r st',Same st st'->Res (kl key) a.toList b.toList r.toList->Q r st'):wpS (GM prog w) A E s (mhi a b) Q st:=by
 have pa:∀i,i < a.size->P (at_ a i):=fun i hi=>Pa _ (eJ hi)
 have pb:∀i,i < b.size->P (at_ b i):=fun i hi=>Pb _ (eJ hi)
 have M0:MH (kl key) a.toList b.toList (#[at_ a (a.size-1)]:Array Gs).reverse.toList (a.size-1) b.size:=by
  have eR:(#[at_ a (a.size-1)]:Array Gs).reverse.toList=[at_ a (a.size-1)]:=rfl
  rw [eR]
  refine ⟨?_,List.pairwise_singleton _ _,?_,?_⟩
  ·have e:=dk (l:=a.toList) (i:=a.size-1) (Hh,Hh) (by simp;lia)
   rw [getD_at (by lia),show a.size-1+1=a.size by lia,show a.toList.take a.size=a.toList from Jq (by simp)] at e
   rw [e,Ii (by simp)]
   exact List.Perm.refl _
  ·intro x hx y hy
   obtain ⟨j,h1,h2,rfl⟩:=jA hx
   rw [HX] at hy;subst hy
   exact eK sA (by lia) (by lia)
  ·intro x hx y hy
   rw [HX] at hy;subst hy
   exact hl x (HY hx)
 have dn:∀{out:Array Gs} {na nb:Nat},MH (kl key) a.toList b.toList out.reverse.toList na nb->(na=0\/nb=0)->Res (kl key) a.toList b.toList (a.extract 0 na++b.extract 0 nb++out.reverse).toList:=fun M hh=>by
  rw [GX,GX,gN,gN]
  exact M.done sA sB (hh.imp (fun z=>by rw [z];rfl) fun z=>by rw [z];rfl)
 have fi:∀{out:Array Gs} {na nb:Nat},MH (kl key) a.toList b.toList out.reverse.toList na nb->nb=1->Res (kl key) a.toList b.toList (b.extract 0 nb++a.extract 0 na++out.reverse).toList:=fun {out na nb} M hh=>by
  rw [GX,GX,gN,gN]
  refine M.first sA sB fun x hx y hy=>?_
  obtain ⟨j,h1,h2,rfl⟩:=jA hx
  rw [show j=0 by lia]
  exact h0 y hy
 have pkA:∀{out:Array Gs} {na nb k:Nat},MH (kl key) a.toList b.toList out.reverse.toList na nb->k<=na->(∀x∈b.toList.take nb,∀j,k<=j->j < na->kl key x (at_ a j))->MH (kl key) a.toList b.toList (out++(a.extract k na).reverse).reverse.toList k nb:=fun {out na nb k} M hi q=>by
  have e:(out++(a.extract k na).reverse).reverse.toList=(a.toList.take na).drop k++out.reverse.toList:=by
   rw [LB,Lj,GX,m8 a k na hi]
  rw [e]
  refine M.pushA sA hi fun x hx y hy=>?_
  obtain ⟨j,h1,h2,_,rfl⟩:=iN hy
  exact q x hx j h1 h2
 have pkB:∀{out:Array Gs} {na nb k:Nat},MH (kl key) a.toList b.toList out.reverse.toList na nb->k<=nb->(∀x∈a.toList.take na,∀j,k<=j->j < nb->kl key x (at_ b j))->MH (kl key) a.toList b.toList (out++(b.extract k nb).reverse).reverse.toList na k:=fun {out na nb k} M hi q=>by
  have e:(out++(b.extract k nb).reverse).reverse.toList=(b.toList.take nb).drop k++out.reverse.toList:=by
   rw [LB,Lj,GX,m8 b k nb hi]
  rw [e]
  refine M.pushB sB hi fun x hx y hy=>?_
  obtain ⟨j,h1,h2,_,rfl⟩:=iN hy
  exact q x hx j h1 h2
 have p1A:∀{out:Array Gs} {na nb:Nat},MH (kl key) a.toList b.toList out.reverse.toList na nb->0 < na->na<=a.size->(∀x∈b.toList.take nb,kl key x (at_ a (na-1)))->MH (kl key) a.toList b.toList (out.push (at_ a (na-1))).reverse.toList (na-1) nb:=fun {out na nb} M h1 h2 q=>by
  have e:(out.push (at_ a (na-1))).reverse.toList=(a.toList.take na).drop (na-1)++out.reverse.toList:=by
   have z:=dk (l:=a.toList) (i:=na-1) (Hh,Hh) (by simp;lia)
   rw [show na-1+1=na by lia,getD_at (by lia)] at z
   rw [z];simp
  rw [e]
  refine M.pushA sA (by lia) fun x hx y hy=>?_
  obtain ⟨j,g1,g2,_,rfl⟩:=iN hy
  rw [show j=na-1 by lia]
  exact q x hx
 have p1B:∀{out:Array Gs} {na nb:Nat},MH (kl key) a.toList b.toList out.reverse.toList na nb->0 < nb->nb<=b.size->(∀x∈a.toList.take na,kl key x (at_ b (nb-1)))->MH (kl key) a.toList b.toList (out.push (at_ b (nb-1))).reverse.toList na (nb-1):=fun {out na nb} M h1 h2 q=>by
  have e:(out.push (at_ b (nb-1))).reverse.toList=(b.toList.take nb).drop (nb-1)++out.reverse.toList:=by
   have z:=dk (l:=b.toList) (i:=nb-1) (Hh,Hh) (by simp;lia)
   rw [show nb-1+1=nb by lia,getD_at (by lia)] at z
   rw [z];simp
  rw [e]
  refine M.pushB sB (by lia) fun x hx y hy=>?_
  obtain ⟨j,g1,g2,_,rfl⟩:=iN hy
  rw [show j=nb-1 by lia]
  exact q x hx
 have tA:∀{n:Nat} {x:Gs},n<=a.size->x∈a.toList.take n->kl key x (at_ a (n-1)):=fun {n x} hn hx=>by
  obtain ⟨j,h1,h2,rfl⟩:=jA hx
  exact eK sA (by lia) (by lia)
 have tB:∀{n:Nat} {x:Gs},n<=b.size->x∈b.toList.take n->kl key x (at_ b (n-1)):=fun {n x} hn hx=>by
  obtain ⟨j,h1,h2,rfl⟩:=jA hx
  exact eK sB (by lia) (by lia)
 delta mhi
 refine F0 (KO (IT ⟨rfl,?_⟩))
 refine F0 (aU (show a.size-1 < a.size by lia) ?_)
 refine b9 (fun e1=>Gb (h _ _ Same.rfl' (dn M0 (.inl (by simpa using e1))))) fun e1=>?_
 refine b9 (fun e2=>Gb (h _ _ Same.rfl' (fi M0 (by simpa using e2)))) fun e2=>?_
 have e1:¬(a.size-1=0):=by simpa using e1
 have e2:¬(b.size=1):=by simpa using e2
 refine F0 (JI ?_)
 refine F0 (HH (GZ (I:=fun x c st'=>Same st st'/\Y4 (fun na' nb' out _=>(MH (kl key) a.toList b.toList out.reverse.toList na' nb'/\0 < na'/\na'<=a.size/\1 < nb'/\nb'<=b.size)/\na'+nb'+x+1<=a.size+b.size) c)
  (Q:=fun c st'=>Same st st'/\Xr (fun r=>Res (kl key) a.toList b.toList r.toList) c) ?step ?fin ⟨Same.rfl',_,_,_,_,rfl,⟨M0,by lia,by lia,by lia,by lia⟩,by lia⟩) ?post)
 case post=>exact fun c st' q=>Xr.el (P:=False) (.inl q.2) (fun r z R=>Gb (h r st' q.1 R)) fun f=>f.elim
 case fin=>
  rintro c st' ⟨S,na,nb,out,mg,rfl,⟨M,h1,h2,h3,h4⟩,h5⟩
  lia
 case step=>
  intro x c st' _ hx hI
  refine Y4.el hI.2 fun na nb out mg hM=>?_
  have S:=hI.1
  refine F0 (HH (GZ (I:=fun y c st''=>Same st st''/\Y5 (fun na' nb' out=>(MH (kl key) a.toList b.toList out.reverse.toList na' nb'/\0 < na'/\na'<=a.size/\1 < nb'/\nb'<=b.size)/\na'+nb'+y<=na+nb) c)
   (Q:=fun c st''=>Same st st''/\(Xr (fun r=>Res (kl key) a.toList b.toList r.toList) c\/Y5 (fun na' nb' out=>(MH (kl key) a.toList b.toList out.reverse.toList na' nb'/\0 < na'/\na'<=a.size/\1 < nb'/\nb'<=b.size)/\na'+nb'+1<=na+nb) c)) ?s1 ?f1 ⟨S,na,nb,out,0,0,rfl,hM.1,by lia⟩) ?p1)
  case f1=>
   rintro c st2 ⟨S,na',nb',out,ac,bc,rfl,⟨M,h1,h1',h2,h2'⟩,h3⟩
   exact ⟨S,.inr ⟨na',nb',out,ac,bc,rfl,⟨M,h1,h1',h2,h2'⟩,by lia⟩⟩
  case s1=>
   intro y c st2 _ hy hJ
   refine Y5.el hJ.2 fun na' nb' out ac bc hM=>?_
   have S:=hJ.1
   have M:=hM.1.1
   have h1:=hM.1.2.1
   have h1':=hM.1.2.2.1
   have h2:=hM.1.2.2.2.1
   have h2':=hM.1.2.2.2.2
   have h3:=hM.2
   refine F0 (aU (show nb'-1 < b.size by lia) (F0 (aU (show na'-1 < a.size by lia) (F0 (lX C (pb _ (by lia)) (pa _ (by lia)) (S.1.trans hk) ?_)))))
   refine b9 (c:=O.blt (key (at_ b (nb'-1))) (key (at_ a (na'-1)))=true) (fun hc=>?_) fun hc=>?_
   ·refine F0 (aU (show na'-1 < a.size by lia) ?_)
    have M1:=p1A M h1 h1' fun x hx=>GN (tB h2' hx) (G6 hc)
    refine b9 (fun e=>Gb ⟨S,.inl ⟨_,_,rfl,dn M1 (.inl (by simpa using e))⟩⟩) fun e=>?_
    have e:¬(na'-1=0):=by simpa using e
    exact b9 (fun _=>Gb ⟨S,.inr ⟨_,_,_,_,_,rfl,⟨M1,by lia,by lia,by lia,by lia⟩,by lia⟩⟩) fun _=>Gb ⟨S,_,_,_,_,_,rfl,⟨M1,by lia,by lia,by lia,by lia⟩,by lia⟩
   ·have hc:O.blt (key (at_ b (nb'-1))) (key (at_ a (na'-1)))=false:=by simpa using hc
    refine F0 (aU (show nb'-1 < b.size by lia) ?_)
    have M1:=p1B M (by lia) h2' fun x hx=>GN (tA h1' hx) (show kl key (at_ a (na'-1)) (at_ b (nb'-1)) from hc)
    refine b9 (fun e=>Gb ⟨S,.inl ⟨_,_,rfl,fi M1 (by simpa using e)⟩⟩) fun e=>?_
    have e:¬(nb'-1=1):=by simpa using e
    exact b9 (fun _=>Gb ⟨S,.inr ⟨_,_,_,_,_,rfl,⟨M1,by lia,by lia,by lia,by lia⟩,by lia⟩⟩) fun _=>Gb ⟨S,_,_,_,_,_,rfl,⟨M1,by lia,by lia,by lia,by lia⟩,by lia⟩
  case p1=>
   intro c st2 q
   refine Xr.el q.2 (fun r z R=>Gb ⟨q.1,_,_,rfl,R⟩) fun hX=>Y5.el hX fun na' nb' out ac bc hM=>?_
   have S:=q.1
   refine F0 (KO (IT ⟨rfl,?_⟩))
   refine F0 (HH (GZ (I:=fun y c st''=>Same st st''/\Y6 (fun na' nb' out=>(MH (kl key) a.toList b.toList out.reverse.toList na' nb'/\0 < na'/\na'<=a.size/\1 < nb'/\nb'<=b.size)/\na'+nb'+1<=na+nb) c)
    (Q:=fun c st''=>Same st st''/\(Xr (fun r=>Res (kl key) a.toList b.toList r.toList) c\/Y6 (fun na' nb' out=>(MH (kl key) a.toList b.toList out.reverse.toList na' nb'/\0 < na'/\na'<=a.size/\1 < nb'/\nb'<=b.size)/\na'+nb'+1<=na+nb) c)) ?s2 ?f2 ⟨S,na',nb',out,_,ac,bc,rfl,hM⟩) ?p2)
   case f2=>exact fun c st3 q=>⟨q.1,.inr q.2⟩
   case p2=>exact fun c st3 q=>Xr.el q.2 (fun r z R=>Gb ⟨q.1,_,_,rfl,R⟩) fun hX=>Y6.el hX fun na' nb' out mg ac bc hM=>F0 (Hm (Gb ⟨q.1,_,_,_,_,rfl,hM.1,by have:=hM.2;lia⟩))
   case s2=>
    intro y c st3 _ hy hJ
    refine Y6.el hJ.2 fun na' nb' out mg ac bc hM=>?_
    have S:=hJ.1
    have M:=hM.1.1
    have h1:=hM.1.2.1
    have h1':=hM.1.2.2.1
    have h2:=hM.1.2.2.2.1
    have h2':=hM.1.2.2.2.2
    have h3:=hM.2
    revert mg
    refine yU (c:=fun mg=>mg > 1) (fun mg next=>?_) fun mg'=>?_
    ·exact next _
    refine F0 (Hm ?_)
    refine F0 (aU (show nb'-1 < b.size by lia) (F0 (gp C (S.1.trans hk) (show na'-1 < na' by lia) (by lia) (fun i hi=>pa _ (by lia)) (pb _ (by lia)) (oB sA (by lia)) fun k z1 z2 z3=>?_)))
    simp only [Kf] at z2 z3
    dsimp -zeta only
    extract_lets +lift +onlyGivenNames u1 u2 u3 w1 w2 jp
    have le1:∀x∈a.toList.take k,kl key x (at_ b (nb'-1)):=fun x hx=>by
     obtain ⟨j,g1,g2,rfl⟩:=jA hx
     exact lZ (z2 j g1)
    have z1:k<=na':=z1
    have M1:=pkA (k:=k) M z1 fun x hx j g1 g2=>GN (tB h2' hx) (G6 (tj (z3 j g1 g2)))
    refine yW (F:=jp) (c:=u1 > 0) (fun i o=>MH (kl key) a.toList b.toList o.reverse.toList i nb'/\0 < i/\i<=na'/\∀x∈a.toList.take i,kl key x (at_ b (nb'-1))) (fun hk0 next=>?_) (fun hk0=>?_) fun na2 out2 hC=>?_
    ·refine b9 (fun e=>Gb ⟨S,.inl ⟨_,_,rfl,dn M1 (.inl (beq_iff_eq.mp e))⟩⟩) fun e=>?_
     have e:¬(k=0):=fun z=>e (beq_iff_eq.mpr z)
     exact next _ _ ⟨M1,by lia,z1,le1⟩
    ·have hk0:¬(na'-k > 0):=hk0
     obtain rfl:k=na':=by lia
     exact ⟨M,h1,FX _,le1⟩
    have i1:=hC.2.1
    have i2:=hC.2.2.1
    refine F0 (aU (show nb'-1 < b.size by lia) ?_)
    have M2:=p1B hC.1 (by lia) h2' hC.2.2.2
    refine b9 (fun e3=>Gb ⟨S,.inl ⟨_,_,rfl,fi M2 (beq_iff_eq.mp e3)⟩⟩) fun e3=>?_
    have e3:¬(nb'-1=1):=fun z=>e3 (beq_iff_eq.mpr z)
    refine F0 (aU (show na2-1 < a.size by lia) (F0 (gp C (S.1.trans hk) (show nb'-1-1 < nb'-1 by lia) (by lia) (fun i hi=>pb _ (by lia)) (pa _ (by lia)) (oC sB (by lia)) fun k2 y1 y2 y3=>?_)))
    simp only [Kf] at y2 y3
    have lt2:∀x∈b.toList.take k2,kl key x (at_ a (na2-1)):=fun x hx=>by
     obtain ⟨j,g1,g2,rfl⟩:=jA hx
     exact G6 (md (y2 j g1))
    have y1:k2<=nb'-1:=y1
    have M3:=pkB (k:=k2) M2 y1 fun x hx j g1 g2=>GN (tA (by lia) hx) (tm (y3 j g1 g2))
    dsimp -zeta only
    extract_lets +lift +onlyGivenNames v1 v2 jp2
    refine yW (F:=jp2) (c:=v1 > 0) (fun i o=>MH (kl key) a.toList b.toList o.reverse.toList na2 i/\1 < i/\i<=nb'-1/\∀x∈b.toList.take i,kl key x (at_ a (na2-1))) (fun hk0 next=>?_) (fun hk0=>?_) fun nb2 out3 hD=>?_
    ·refine b9 (fun e=>Gb ⟨S,.inl ⟨_,_,rfl,fi M3 (beq_iff_eq.mp e)⟩⟩) fun e=>?_
     refine b9 (fun e'=>Gb ⟨S,.inl ⟨_,_,rfl,dn M3 (.inr (beq_iff_eq.mp e'))⟩⟩) fun e'=>?_
     have e:¬(k2=1):=fun z=>e (beq_iff_eq.mpr z)
     have e':¬(k2=0):=fun z=>e' (beq_iff_eq.mpr z)
     exact next _ _ ⟨M3,by lia,y1,lt2⟩
    ·have hk0:¬(nb'-1-k2 > 0):=hk0
     have hz:k2=nb'-1:=by lia
     rw [hz] at lt2
     exact ⟨M2,by lia,FX _,lt2⟩
    have j1:=hD.2.1
    have j2:=hD.2.2.1
    refine F0 (aU (show na2-1 < a.size by lia) ?_)
    have M4:=p1A hD.1 i1 (by lia) hD.2.2.2
    refine b9 (fun e5=>Gb ⟨S,.inl ⟨_,_,rfl,dn M4 (.inl (beq_iff_eq.mp e5))⟩⟩) fun e5=>?_
    have e5:¬(na2-1=0):=fun z=>e5 (beq_iff_eq.mpr z)
    exact b9 (fun _=>Gb ⟨S,.inr ⟨_,_,_,_,_,_,rfl,⟨M4,by lia,by lia,by lia,by lia⟩,by lia⟩⟩) fun _=>Gb ⟨S,_,_,_,_,_,_,rfl,⟨M4,by lia,by lia,by lia,by lia⟩,by lia⟩
end
end Tim
end
section
namespace Tim
open PySem PyProof.Rows
section
variable {prog:GD} {w:Hg} {A:Ho} {E:FU->FW->Prop} {s:FW} {κ:JB} {O:Kw} {key:Gs->O.α} {P:Gs->Prop}
def Sg {O:Kw} (key:Gs->O.α) (a:Array Gs) (lo hi:Nat):Prop:=∀i j,lo<=i->i<=j->j < hi->kl key (at_ a i) (at_ a j)
def Fl {O:Kw} (key:Gs->O.α) (a:Array Gs) (lo hi:Nat):Prop:=∀i j,lo<=i->i<=j->j < hi->kl key (at_ a j) (at_ a i)
structure Mv (lo:Nat) (st st':HK):Prop where
 kind:kindOf st'=kindOf st
 pend:GA st'=GA st
 fail:IM st'=IM st
 perm:(F8 st').Perm (F8 st)
 pre:∀i,i < lo->(F8 st')[i]?=(F8 st)[i]?
theorem Mv.rfl' {lo:Nat} {st:HK}:Mv lo st st:=⟨rfl,rfl,rfl,J6 _,fun _ _=>rfl⟩
theorem Mv.size {lo:Nat} {st st':HK} (h:Mv lo st st'):(F8 st').size=(F8 st).size:=h.perm.size_eq
theorem Mv.all {lo:Nat} {st st':HK} (h:Mv lo st st') (hP:∀x∈(F8 st).toList,P x):∀x∈(F8 st').toList,P x:=fun x hx=>hP x ((Array.perm_iff_toList_perm.mp h.perm).mem_iff.mp hx)
theorem bO {xs:Array Gs} {i j:Nat} (hj:j<=xs.size) (k:Nat):at_ (IG xs i j ((j-i) / 2)) k=if i<=k/\k < j then at_ xs (i+j-1-k) else at_ xs k:=by
 have z:=LR (i:=i) hj k
 by_cases c:i<=k/\k < j
 ·rw [if_pos c] at z ⊢;exact bj z
 ·rw [if_neg c] at z ⊢;exact bj z
theorem cW {xs:Array Gs} {i j:Nat} (hj:j<=xs.size) (he:∀k,i<=k->k < j->key (at_ xs k)=key (at_ xs (j-1))) (k:Nat):key (at_ (IG xs i j ((j-i) / 2)) k)=key (at_ xs k):=by
 rw [bO hj]
 split
 ·rename_i c;rw [he _ (by lia) (by lia),he k c.1 c.2]
 ·rfl
theorem Mv.rev {lo:Nat} {st st':HK} (h:Mv lo st st') {i j:Nat} (hi:lo<=i) (hj:j<=(F8 st').size):Mv lo st (Kh st' (IG (F8 st') i j ((j-i) / 2))):=
 ⟨h.kind,h.pend,h.fail,(mirror_perm _ _ _ _).trans h.perm,fun k hk=>by
  rw [<- h.pre k hk]
  show (IG (F8 st') i j ((j-i) / 2))[k]?=_
  rw [LR hj,if_neg (by lia)]⟩
theorem cf (C:gn prog w A s κ O key P) {st:HK} {i j:Nat} {Q:Option Bool->HK->Prop} (hk:kindOf st=κ) (hP:∀x∈(F8 st).toList,P x) (hi:i < (F8 st).size) (hj:j < (F8 st).size)
  (h:Q (some (O.blt (key (at_ (F8 st) i)) (key (at_ (F8 st) j)))) st):wpS (GM prog w) A E s (ltAt' i j) Q st:=by
 rw [ltAt'_eq]
 refine F0 (JI (F0 (aU hi (F0 (aU hj (lX C (hP _ (eJ hi)) (hP _ (eJ hj)) hk h))))))
theorem Sg.one {a:Array Gs} {lo:Nat}:Sg key a lo (lo+1):=fun i j h1 h2 h3=>by
 rw [show i=j by lia];exact Iz _
theorem Sg.more {a:Array Gs} {lo n:Nat} (h:Sg key a lo (lo+n)) (h1:1<=n) (q:kl key (at_ a (lo+n-1)) (at_ a (lo+n))):Sg key a lo (lo+(n+1)):=fun i j z1 z2 z3=>by
 by_cases hj:j=lo+n
 ·subst hj
  by_cases hi:i=lo+n
  ·subst hi;exact Iz _
  ·exact GN (h i (lo+n-1) z1 (by lia) (by lia)) q
 ·exact h i j z1 z2 (by lia)
theorem Fl.more {a:Array Gs} {lo n:Nat} (h:Fl key a lo (lo+n)) (h1:1<=n) (q:kl key (at_ a (lo+n)) (at_ a (lo+n-1))):Fl key a lo (lo+(n+1)):=fun i j z1 z2 z3=>by
 by_cases hj:j=lo+n
 ·subst hj
  by_cases hi:i=lo+n
  ·subst hi;exact Iz _
  ·exact GN q (h i (lo+n-1) z1 (by lia) (by lia))
 ·exact h i j z1 z2 (by lia)
theorem Fl.congr {a b:Array Gs} {lo hi:Nat} (h:Fl key a lo hi) (e:∀k,key (at_ b k)=key (at_ a k)):Fl key b lo hi:=fun i j z1 z2 z3=>by
 show O.kle _ _
 rw [e,e];exact h i j z1 z2 z3
theorem BR (C:gn prog w A s κ O key P) {st:HK} {lo nrem:Nat} {Q:Option Nat->HK->Prop} (hk:kindOf st=κ) (hP:∀x∈(F8 st).toList,P x) (hz:lo+nrem<=(F8 st).size) (h1:1<=nrem)
  (h:∀n st',Mv lo st st'->1<=n->n<=nrem->Sg key (F8 st') lo (lo+n)->Q (some n) st'):wpS (GM prog w) A E s (countRun' lo nrem) Q st:=by
 rw [countRun'_eq]
 refine F0 (HH (GZ (I:=fun k c st'=>st'=st/\c=(none,k)/\k<=nrem/\1<=k/\Sg key (F8 st) lo (lo+k))
  (Q:=fun c st'=>st'=st/\∃n,c=(none,n)/\1<=n/\n<=nrem/\Sg key (F8 st) lo (lo+n)/\(n < nrem->O.klt (key (at_ (F8 st) (lo+n))) (key (at_ (F8 st) (lo+n-1))))) ?step ?fin ⟨rfl,rfl,h1,by lia,Sg.one⟩) ?post)
 case fin=>
  rintro c st' ⟨rfl,rfl,a1,a2,a3⟩
  exact ⟨rfl,_,rfl,by lia,by lia,a3,fun z=>by lia⟩
 case step=>
  rintro k c st' _ hkn ⟨rfl,rfl,a1,a2,a3⟩
  dsimp only
  refine F0 (cf C hk hP (by lia) (by lia) ?_)
  dsimp only
  cases hc:O.blt (key (at_ (F8 st') (lo+k))) (key (at_ (F8 st') (lo+k-1))) with
  | true=>rw [if_pos rfl];exact Gb ⟨rfl,k,rfl,a2,a1,a3,fun _=>hc⟩
  | false=>rw [if_neg (by simp)];exact Gb ⟨rfl,rfl,by lia,by lia,a3.more a2 hc⟩
 case post=>
  rintro c st' ⟨rfl,n,rfl,n1,n2,n3,n4⟩
  dsimp only
  by_cases e:n=nrem
  ·rw [if_pos (by simpa using e)]
   exact Gb (h n st' Mv.rfl' n1 n2 n3)
  rw [if_neg (by simpa using e)]
  have n4:=n4 (by lia)
  by_cases hn:n > 1
  ·rw [if_pos hn]
   refine F0 (cf C hk hP (by lia) (by lia) ?_)
   dsimp only
   cases hc:O.blt (key (at_ (F8 st') lo)) (key (at_ (F8 st') (lo+n-1))) with
   | true=>rw [if_pos rfl];exact Gb (h n st' Mv.rfl' n1 n2 n3)
   | false=>
    rw [if_neg (by simp),HG]
    have eq:∀k,lo<=k->k < lo+n->key (at_ (F8 st') k)=key (at_ (F8 st') (lo+n-1)):=fun k k1 k2=>
     KeyOrd.kle_antisymm (n3 k (lo+n-1) k1 (by lia) (by lia)) (GN hc (n3 lo k (by lia) k1 (by lia)))
    have ek:=cW (key:=key) (xs:=F8 st') (i:=lo) (j:=lo+n) (by lia) eq
    refine F0 (Hm ?_)
    have M1:=(Mv.rfl' (lo:=lo) (st:=st')).rev (i:=lo) (j:=lo+n) (FX _) (by lia)
    have F1:Fl key (F8 (Kh st' (IG (F8 st') lo (lo+n) ((lo+n-lo) / 2)))) lo (lo+(n+1)):=by
     refine Fl.congr (a:=F8 st') (Fl.more (fun i j z1 z2 z3=>?_) n1 (G6 n4)) ek
     show O.kle _ _
     rw [eq i z1 (by lia),eq j (by lia) z3];exact Iz _
    generalize Kh st' (IG (F8 st') lo (lo+n) ((lo+n-lo) / 2))=st1 at M1 F1 ⊢
    refine F0 (KO (IT ⟨rfl,?_⟩))
    refine F0 (HH (GZ (I:=fun k c st2=>Mv lo st' st2/\∃q,c=(none,k,q)/\k<=nrem/\q+1<=k/\Fl key (F8 st2) lo (lo+k)/\(∀i,lo+k-(q+1)<=i->i < lo+k->key (at_ (F8 st2) i)=key (at_ (F8 st2) (lo+k-1))))
     (Q:=fun c st2=>Mv lo st' st2/\∃k q,c=(none,k,q)/\k<=nrem/\q+1<=k/\Fl key (F8 st2) lo (lo+k)/\(∀i,lo+k-(q+1)<=i->i < lo+k->key (at_ (F8 st2) i)=key (at_ (F8 st2) (lo+k-1)))) ?dstep ?dfin ⟨M1,0,rfl,by lia,by lia,F1,fun i g1 g2=>by rw [show i=lo+(n+1)-1 by lia]⟩) ?dpost)
    case dfin=>
     rintro c st2 ⟨M2,q,rfl,a1,a2,a3,a4⟩
     exact ⟨M2,_,q,rfl,a1,a2,a3,a4⟩
    case dstep=>
     rintro k c st2 hk1 hkn ⟨M2,q,rfl,a1,a2,a3,a4⟩
     have hz2:lo+nrem<=(F8 st2).size:=by rw [M2.size];exact hz
     have hk2:kindOf st2=κ:=M2.kind.trans hk
     have hP2:=M2.all hP
     dsimp only
     refine F0 (cf C hk2 hP2 (by lia) (by lia) ?_)
     dsimp only
     cases hc:O.blt (key (at_ (F8 st2) (lo+k))) (key (at_ (F8 st2) (lo+k-1))) with
     | true=>
      rw [if_pos rfl]
      have F2:=a3.more (by lia) (G6 hc)
      by_cases hq:q > 0
      ·rw [if_pos hq,HG]
       have ek:=cW (key:=key) (xs:=F8 st2) (i:=lo+k-(q+1)) (j:=lo+k) (by lia) a4
       refine F0 (Hm (Gb ⟨M2.rev (by lia) (by lia),0,rfl,by lia,by lia,F2.congr ek,fun i g1 g2=>?_⟩))
       rw [show i=lo+(k+1)-1 by lia]
      ·rw [if_neg hq]
       exact Gb ⟨M2,0,rfl,by lia,by lia,F2,fun i g1 g2=>by rw [show i=lo+(k+1)-1 by lia]⟩
     | false=>
      rw [if_neg (by simp)]
      refine F0 (cf C hk2 hP2 (by lia) (by lia) ?_)
      dsimp only
      cases hd:O.blt (key (at_ (F8 st2) (lo+k-1))) (key (at_ (F8 st2) (lo+k))) with
      | true=>rw [if_pos rfl];exact Gb ⟨M2,k,q,rfl,a1,a2,a3,a4⟩
      | false=>
       rw [if_neg (by simp)]
       have eq1:key (at_ (F8 st2) (lo+k))=key (at_ (F8 st2) (lo+k-1)):=O.total _ _ hc hd
       refine Gb ⟨M2,q+1,rfl,by lia,by lia,a3.more (by lia) hd,fun i g1 g2=>?_⟩
       rw [show lo+(k+1)-1=lo+k by lia]
       by_cases hi:i=lo+k
       ·rw [hi]
       ·rw [eq1];exact a4 i (by lia) (by lia)
    case dpost=>
     rintro c st2 ⟨M2,k,q,rfl,a1,a2,a3,a4⟩
     have hz2:lo+nrem<=(F8 st2).size:=by rw [M2.size];exact hz
     dsimp only
     by_cases hq:q > 0
     ·rw [if_pos hq,HG]
      have ek:=cW (key:=key) (xs:=F8 st2) (i:=lo+k-(q+1)) (j:=lo+k) (by lia) a4
      refine F0 (Hm ?_)
      have M3:=M2.rev (i:=lo+k-(q+1)) (j:=lo+k) (by lia) (by lia)
      have F3:Fl key (F8 (Kh st2 (IG (F8 st2) (lo+k-(q+1)) (lo+k) ((lo+k-(lo+k-(q+1))) / 2)))) lo (lo+k):=a3.congr ek
      generalize Kh st2 (IG (F8 st2) (lo+k-(q+1)) (lo+k) ((lo+k-(lo+k-(q+1))) / 2))=st3 at M3 F3 ⊢
      have hz3:lo+nrem<=(F8 st3).size:=by rw [M3.size];exact hz
      rw [HG]
      refine F0 (Hm ?_)
      have M4:=M3.rev (i:=lo) (j:=lo+k) (FX _) (by lia)
      have S4:Sg key (F8 (Kh st3 (IG (F8 st3) lo (lo+k) ((lo+k-lo) / 2)))) lo (lo+k):=fun i j g1 g2 g3=>by
       show kl key (at_ (IG (F8 st3) lo (lo+k) ((lo+k-lo) / 2)) i) (at_ (IG (F8 st3) lo (lo+k) ((lo+k-lo) / 2)) j)
       rw [bO (by lia),bO (by lia),if_pos ⟨g1,by lia⟩,if_pos ⟨by lia,g3⟩]
       exact F3 _ _ (by lia) (by lia) (by lia)
      generalize Kh st3 (IG (F8 st3) lo (lo+k) ((lo+k-lo) / 2))=st4 at M4 S4 ⊢
      have hz4:lo+nrem<=(F8 st4).size:=by rw [M4.size];exact hz
      have hk4:kindOf st4=κ:=M4.kind.trans hk
      have hP4:=M4.all hP
      refine F0 (HH (GZ (I:=fun i c st5=>st5=st4/\c=(none,i)/\i<=nrem/\1<=i/\Sg key (F8 st4) lo (lo+i)) (Q:=fun c st5=>st5=st4/\∃i,c=(none,i)/\i<=nrem/\1<=i/\Sg key (F8 st4) lo (lo+i)) ?tstep ?tfin ⟨rfl,rfl,a1,by lia,S4⟩) ?tpost)
      case tfin=>
       rintro c st5 ⟨rfl,rfl,b1,b2,b3⟩
       exact ⟨rfl,_,rfl,b1,b2,b3⟩
      case tstep=>
       rintro i c st5 _ hi ⟨rfl,rfl,b1,b2,b3⟩
       dsimp only
       refine F0 (cf C hk4 hP4 (by lia) (by lia) ?_)
       dsimp only
       cases hc:O.blt (key (at_ (F8 st5) (lo+i))) (key (at_ (F8 st5) (lo+i-1))) with
       | true=>rw [if_pos rfl];exact Gb ⟨rfl,i,rfl,b1,b2,b3⟩
       | false=>rw [if_neg (by simp)];exact Gb ⟨rfl,rfl,by lia,by lia,b3.more b2 hc⟩
      case tpost=>
       rintro c st5 ⟨rfl,i,rfl,b1,b2,b3⟩
       exact Gb (h i st5 M4 b2 b1 b3)
     ·rw [if_neg hq]
      have M3:=M2
      have F3:=a3
      have hz3:lo+nrem<=(F8 st2).size:=by rw [M3.size];exact hz
      rw [HG]
      refine F0 (Hm ?_)
      have M4:=M3.rev (i:=lo) (j:=lo+k) (FX _) (by lia)
      have S4:Sg key (F8 (Kh st2 (IG (F8 st2) lo (lo+k) ((lo+k-lo) / 2)))) lo (lo+k):=fun i j g1 g2 g3=>by
       show kl key (at_ (IG (F8 st2) lo (lo+k) ((lo+k-lo) / 2)) i) (at_ (IG (F8 st2) lo (lo+k) ((lo+k-lo) / 2)) j)
       rw [bO (by lia),bO (by lia),if_pos ⟨g1,by lia⟩,if_pos ⟨by lia,g3⟩]
       exact F3 _ _ (by lia) (by lia) (by lia)
      generalize Kh st2 (IG (F8 st2) lo (lo+k) ((lo+k-lo) / 2))=st4 at M4 S4 ⊢
      have hz4:lo+nrem<=(F8 st4).size:=by rw [M4.size];exact hz
      have hk4:kindOf st4=κ:=M4.kind.trans hk
      have hP4:=M4.all hP
      refine F0 (HH (GZ (I:=fun i c st5=>st5=st4/\c=(none,i)/\i<=nrem/\1<=i/\Sg key (F8 st4) lo (lo+i)) (Q:=fun c st5=>st5=st4/\∃i,c=(none,i)/\i<=nrem/\1<=i/\Sg key (F8 st4) lo (lo+i)) ?tstep ?tfin ⟨rfl,rfl,a1,by lia,S4⟩) ?tpost)
      case tfin=>
       rintro c st5 ⟨rfl,rfl,b1,b2,b3⟩
       exact ⟨rfl,_,rfl,b1,b2,b3⟩
      case tstep=>
       rintro i c st5 _ hi ⟨rfl,rfl,b1,b2,b3⟩
       dsimp only
       refine F0 (cf C hk4 hP4 (by lia) (by lia) ?_)
       dsimp only
       cases hc:O.blt (key (at_ (F8 st5) (lo+i))) (key (at_ (F8 st5) (lo+i-1))) with
       | true=>rw [if_pos rfl];exact Gb ⟨rfl,i,rfl,b1,b2,b3⟩
       | false=>rw [if_neg (by simp)];exact Gb ⟨rfl,rfl,by lia,by lia,b3.more b2 hc⟩
      case tpost=>
       rintro c st5 ⟨rfl,i,rfl,b1,b2,b3⟩
       exact Gb (h i st5 M4 b2 b1 b3)
  ·rw [if_neg hn]
   have hn1:n=1:=by lia
   subst hn1
   have M1:Mv lo st' st':=Mv.rfl'
   have F1:Fl key (F8 st') lo (lo+(1+1)):=Fl.more (fun i j z1 z2 z3=>by rw [show i=j by lia];exact Iz _) (FX _) (G6 n4)
   refine F0 (KO (IT ⟨rfl,?_⟩))
   refine F0 (HH (GZ (I:=fun k c st2=>Mv lo st' st2/\∃q,c=(none,k,q)/\k<=nrem/\q+1<=k/\Fl key (F8 st2) lo (lo+k)/\(∀i,lo+k-(q+1)<=i->i < lo+k->key (at_ (F8 st2) i)=key (at_ (F8 st2) (lo+k-1))))
    (Q:=fun c st2=>Mv lo st' st2/\∃k q,c=(none,k,q)/\k<=nrem/\q+1<=k/\Fl key (F8 st2) lo (lo+k)/\(∀i,lo+k-(q+1)<=i->i < lo+k->key (at_ (F8 st2) i)=key (at_ (F8 st2) (lo+k-1)))) ?dstep ?dfin ⟨M1,0,rfl,by lia,by lia,F1,fun i g1 g2=>by rw [show i=lo+(1+1)-1 by lia]⟩) ?dpost)
   case dfin=>
    rintro c st2 ⟨M2,q,rfl,a1,a2,a3,a4⟩
    exact ⟨M2,_,q,rfl,a1,a2,a3,a4⟩
   case dstep=>
    rintro k c st2 hk1 hkn ⟨M2,q,rfl,a1,a2,a3,a4⟩
    have hz2:lo+nrem<=(F8 st2).size:=by rw [M2.size];exact hz
    have hk2:kindOf st2=κ:=M2.kind.trans hk
    have hP2:=M2.all hP
    dsimp only
    refine F0 (cf C hk2 hP2 (by lia) (by lia) ?_)
    dsimp only
    cases hc:O.blt (key (at_ (F8 st2) (lo+k))) (key (at_ (F8 st2) (lo+k-1))) with
    | true=>
     rw [if_pos rfl]
     have F2:=a3.more (by lia) (G6 hc)
     by_cases hq:q > 0
     ·rw [if_pos hq,HG]
      have ek:=cW (key:=key) (xs:=F8 st2) (i:=lo+k-(q+1)) (j:=lo+k) (by lia) a4
      refine F0 (Hm (Gb ⟨M2.rev (by lia) (by lia),0,rfl,by lia,by lia,F2.congr ek,fun i g1 g2=>?_⟩))
      rw [show i=lo+(k+1)-1 by lia]
     ·rw [if_neg hq]
      exact Gb ⟨M2,0,rfl,by lia,by lia,F2,fun i g1 g2=>by rw [show i=lo+(k+1)-1 by lia]⟩
    | false=>
     rw [if_neg (by simp)]
     refine F0 (cf C hk2 hP2 (by lia) (by lia) ?_)
     dsimp only
     cases hd:O.blt (key (at_ (F8 st2) (lo+k-1))) (key (at_ (F8 st2) (lo+k))) with
     | true=>rw [if_pos rfl];exact Gb ⟨M2,k,q,rfl,a1,a2,a3,a4⟩
     | false=>
      rw [if_neg (by simp)]
      have eq1:key (at_ (F8 st2) (lo+k))=key (at_ (F8 st2) (lo+k-1)):=O.total _ _ hc hd
      refine Gb ⟨M2,q+1,rfl,by lia,by lia,a3.more (by lia) hd,fun i g1 g2=>?_⟩
      rw [show lo+(k+1)-1=lo+k by lia]
      by_cases hi:i=lo+k
      ·rw [hi]
      ·rw [eq1];exact a4 i (by lia) (by lia)
   case dpost=>
    rintro c st2 ⟨M2,k,q,rfl,a1,a2,a3,a4⟩
    have hz2:lo+nrem<=(F8 st2).size:=by rw [M2.size];exact hz
    dsimp only
    by_cases hq:q > 0
    ·rw [if_pos hq,HG]
     have ek:=cW (key:=key) (xs:=F8 st2) (i:=lo+k-(q+1)) (j:=lo+k) (by lia) a4
     refine F0 (Hm ?_)
     have M3:=M2.rev (i:=lo+k-(q+1)) (j:=lo+k) (by lia) (by lia)
     have F3:Fl key (F8 (Kh st2 (IG (F8 st2) (lo+k-(q+1)) (lo+k) ((lo+k-(lo+k-(q+1))) / 2)))) lo (lo+k):=a3.congr ek
     generalize Kh st2 (IG (F8 st2) (lo+k-(q+1)) (lo+k) ((lo+k-(lo+k-(q+1))) / 2))=st3 at M3 F3 ⊢
     have hz3:lo+nrem<=(F8 st3).size:=by rw [M3.size];exact hz
     rw [HG]
     refine F0 (Hm ?_)
     have M4:=M3.rev (i:=lo) (j:=lo+k) (FX _) (by lia)
     have S4:Sg key (F8 (Kh st3 (IG (F8 st3) lo (lo+k) ((lo+k-lo) / 2)))) lo (lo+k):=fun i j g1 g2 g3=>by
      show kl key (at_ (IG (F8 st3) lo (lo+k) ((lo+k-lo) / 2)) i) (at_ (IG (F8 st3) lo (lo+k) ((lo+k-lo) / 2)) j)
      rw [bO (by lia),bO (by lia),if_pos ⟨g1,by lia⟩,if_pos ⟨by lia,g3⟩]
      exact F3 _ _ (by lia) (by lia) (by lia)
     generalize Kh st3 (IG (F8 st3) lo (lo+k) ((lo+k-lo) / 2))=st4 at M4 S4 ⊢
     have hz4:lo+nrem<=(F8 st4).size:=by rw [M4.size];exact hz
     have hk4:kindOf st4=κ:=M4.kind.trans hk
     have hP4:=M4.all hP
     refine F0 (HH (GZ (I:=fun i c st5=>st5=st4/\c=(none,i)/\i<=nrem/\1<=i/\Sg key (F8 st4) lo (lo+i)) (Q:=fun c st5=>st5=st4/\∃i,c=(none,i)/\i<=nrem/\1<=i/\Sg key (F8 st4) lo (lo+i)) ?tstep ?tfin ⟨rfl,rfl,a1,by lia,S4⟩) ?tpost)
     case tfin=>
      rintro c st5 ⟨rfl,rfl,b1,b2,b3⟩
      exact ⟨rfl,_,rfl,b1,b2,b3⟩
     case tstep=>
      rintro i c st5 _ hi ⟨rfl,rfl,b1,b2,b3⟩
      dsimp only
      refine F0 (cf C hk4 hP4 (by lia) (by lia) ?_)
      dsimp only
      cases hc:O.blt (key (at_ (F8 st5) (lo+i))) (key (at_ (F8 st5) (lo+i-1))) with
      | true=>rw [if_pos rfl];exact Gb ⟨rfl,i,rfl,b1,b2,b3⟩
      | false=>rw [if_neg (by simp)];exact Gb ⟨rfl,rfl,by lia,by lia,b3.more b2 hc⟩
     case tpost=>
      rintro c st5 ⟨rfl,i,rfl,b1,b2,b3⟩
      exact Gb (h i st5 M4 b2 b1 b3)
    ·rw [if_neg hq]
     have M3:=M2
     have F3:=a3
     have hz3:lo+nrem<=(F8 st2).size:=by rw [M3.size];exact hz
     rw [HG]
     refine F0 (Hm ?_)
     have M4:=M3.rev (i:=lo) (j:=lo+k) (FX _) (by lia)
     have S4:Sg key (F8 (Kh st2 (IG (F8 st2) lo (lo+k) ((lo+k-lo) / 2)))) lo (lo+k):=fun i j g1 g2 g3=>by
      show kl key (at_ (IG (F8 st2) lo (lo+k) ((lo+k-lo) / 2)) i) (at_ (IG (F8 st2) lo (lo+k) ((lo+k-lo) / 2)) j)
      rw [bO (by lia),bO (by lia),if_pos ⟨g1,by lia⟩,if_pos ⟨by lia,g3⟩]
      exact F3 _ _ (by lia) (by lia) (by lia)
     generalize Kh st2 (IG (F8 st2) lo (lo+k) ((lo+k-lo) / 2))=st4 at M4 S4 ⊢
     have hz4:lo+nrem<=(F8 st4).size:=by rw [M4.size];exact hz
     have hk4:kindOf st4=κ:=M4.kind.trans hk
     have hP4:=M4.all hP
     refine F0 (HH (GZ (I:=fun i c st5=>st5=st4/\c=(none,i)/\i<=nrem/\1<=i/\Sg key (F8 st4) lo (lo+i)) (Q:=fun c st5=>st5=st4/\∃i,c=(none,i)/\i<=nrem/\1<=i/\Sg key (F8 st4) lo (lo+i)) ?tstep ?tfin ⟨rfl,rfl,a1,by lia,S4⟩) ?tpost)
     case tfin=>
      rintro c st5 ⟨rfl,rfl,b1,b2,b3⟩
      exact ⟨rfl,_,rfl,b1,b2,b3⟩
     case tstep=>
      rintro i c st5 _ hi ⟨rfl,rfl,b1,b2,b3⟩
      dsimp only
      refine F0 (cf C hk4 hP4 (by lia) (by lia) ?_)
      dsimp only
      cases hc:O.blt (key (at_ (F8 st5) (lo+i))) (key (at_ (F8 st5) (lo+i-1))) with
      | true=>rw [if_pos rfl];exact Gb ⟨rfl,i,rfl,b1,b2,b3⟩
      | false=>rw [if_neg (by simp)];exact Gb ⟨rfl,rfl,by lia,by lia,b3.more b2 hc⟩
     case tpost=>
      rintro c st5 ⟨rfl,i,rfl,b1,b2,b3⟩
      exact Gb (h i st5 M4 b2 b1 b3)
theorem BS (C:gn prog w A s κ O key P) {st:HK} {lo n ok:Nat} {Q:Bool->HK->Prop} (hk:kindOf st=κ) (hP:∀x∈(F8 st).toList,P x) (hz:lo+n<=(F8 st).size) (ho:1<=ok) (hn:ok<=n) (hs:Sg key (F8 st) lo (lo+ok))
  (h:∀st',Mv lo st st'->Sg key (F8 st') lo (lo+n)->Q true st'):wpS (GM prog w) A E s (binarySort' lo n ok) Q st:=by
 rw [binarySort'_eq]
 refine F0 (HH (GZ (I:=fun k c st'=>c=(none,())/\Mv lo st st'/\k<=n/\Sg key (F8 st') lo (lo+k)) (Q:=fun c st'=>c=(none,())/\Mv lo st st'/\Sg key (F8 st') lo (lo+n)) ?step ?fin ⟨rfl,Mv.rfl',by lia,by rw [show max ok 1=ok by lia];exact hs⟩) ?post)
 case post=>
  rintro c st' ⟨rfl,M,S⟩
  exact Gb (h st' M S)
 case fin=>
  rintro c st' ⟨hc,M,hkn,S⟩
  rw [show max (max ok 1) n=n by lia] at S
  exact ⟨hc,M,S⟩
 case step=>
  rintro k c st' hak hkn ⟨rfl,M,_,S⟩
  have hz':lo+n<=(F8 st').size:=by rw [M.size];exact hz
  have hk':kindOf st'=κ:=M.kind.trans hk
  have hP':=M.all hP
  dsimp only
  refine F0 (HH (GZ (I:=fun x c st''=>st''=st'/\∃l r,c=(none,l,r)/\l<=r/\r<=k/\r-l<=k-x/\(∀i,i < l->kl key (at_ (F8 st') (lo+i)) (at_ (F8 st') (lo+k)))/\(∀i,r<=i->i < k->O.klt (key (at_ (F8 st') (lo+k))) (key (at_ (F8 st') (lo+i)))))
   (Q:=fun c st''=>st''=st'/\∃l r,c=(none,l,r)/\l<=k/\(∀i,i < l->kl key (at_ (F8 st') (lo+i)) (at_ (F8 st') (lo+k)))/\(∀i,l<=i->i < k->O.klt (key (at_ (F8 st') (lo+k))) (key (at_ (F8 st') (lo+i))))) ?s1 ?f1 ⟨rfl,0,k,rfl,by lia,by lia,by lia,fun i hi=>by lia,fun i h1 h2=>by lia⟩) ?p1)
  case f1=>
   rintro c st'' ⟨rfl,l,r,rfl,z1,z2,z3,z4,z5⟩
   have:l=r:=by lia
   subst this
   exact ⟨rfl,l,l,rfl,z2,z4,z5⟩
  case s1=>
   rintro x c st'' _ hx ⟨rfl,l,r,rfl,z1,z2,z3,z4,z5⟩
   dsimp only
   by_cases hge:l >= r
   ·rw [if_pos hge]
    have:l=r:=by lia
    subst this
    exact Gb ⟨rfl,l,l,rfl,z2,z4,z5⟩
   rw [if_neg hge]
   refine F0 (cf C hk' hP' (by lia) (by lia) ?_)
   dsimp only
   cases hc:O.blt (key (at_ (F8 st'') (lo+k))) (key (at_ (F8 st'') (lo+(l+r) / 2))) with
   | true=>
    rw [if_pos rfl]
    exact Gb ⟨rfl,l,(l+r) / 2,rfl,by lia,by lia,by lia,z4,fun i g1 g2=>KeyOrd.klt_of_klt_of_kle hc (S (lo+(l+r) / 2) (lo+i) (by lia) (by lia) (by lia))⟩
   | false=>
    rw [if_neg (by simp)]
    exact Gb ⟨rfl,(l+r) / 2+1,r,rfl,by lia,by lia,by lia,fun i g1=>GN (S (lo+i) (lo+(l+r) / 2) (by lia) (by lia) (by lia)) hc,z5⟩
  case p1=>
   rintro c st'' ⟨rfl,l,r,rfl,z1,z2,z3⟩
   dsimp only
   rw [moveDown'_eq]
   have eb:∀i,at_ (bubble (F8 st'') (lo+k) (lo+k-(lo+l))) i=if i=lo+l then at_ (F8 st'') (lo+k) else if lo+l < i/\i<=lo+k then at_ (F8 st'') (i-1) else at_ (F8 st'') i:=fun i=>by
    have z:=getElem?_bubble (xs:=F8 st'') (src:=lo+k) (by lia) (lo+k-(lo+l)) (by lia) i
    rw [show lo+k-(lo+k-(lo+l))=lo+l by lia] at z
    by_cases c1:i=lo+l
    ·rw [if_pos c1] at z ⊢;exact bj z
    ·rw [if_neg c1] at z ⊢
     by_cases c2:lo+l < i/\i<=lo+k
     ·rw [if_pos c2] at z ⊢;exact bj z
     ·rw [if_neg c2] at z ⊢;exact bj z
   refine F0 (Hm (Gb ⟨rfl,⟨M.kind,M.pend,M.fail,(bubble_perm _ _ _).trans M.perm,fun i hi=>?_⟩,by lia,fun i j g1 g2 g3=>?_⟩))
   ·rw [<- M.pre i hi]
    show (bubble (F8 st'') (lo+k) (lo+k-(lo+l)))[i]?=_
    rw [getElem?_bubble (by lia) _ (by lia),if_neg (by lia),if_neg (by lia)]
   ·show kl key (at_ (bubble (F8 st'') (lo+k) (lo+k-(lo+l))) i) (at_ (bubble (F8 st'') (lo+k) (lo+k-(lo+l))) j)
    rw [eb,eb]
    by_cases c1:i=lo+l
    ·rw [if_pos c1]
     by_cases c2:j=lo+l
     ·rw [if_pos c2];exact Iz _
     ·rw [if_neg c2,if_pos ⟨by lia,by lia⟩]
      have:=z3 (j-1-lo) (by lia) (by lia)
      rw [show lo+(j-1-lo)=j-1 by lia] at this
      exact G6 this
    ·rw [if_neg c1]
     by_cases c3:lo+l < i
     ·rw [if_pos ⟨c3,by lia⟩,if_neg (by lia),if_pos ⟨by lia,by lia⟩]
      exact S _ _ (by lia) (by lia) (by lia)
     ·rw [if_neg (by lia)]
      by_cases c2:j=lo+l
      ·rw [if_pos c2]
       have:=z2 (i-lo) (by lia)
       rwa [show lo+(i-lo)=i by lia] at this
      ·rw [if_neg c2]
       by_cases c4:lo+l < j
       ·rw [if_pos ⟨c4,by lia⟩];exact S _ _ g1 (by lia) (by lia)
       ·rw [if_neg (by lia)];exact S _ _ g1 g2 (by lia)
end
end Tim
end
section
namespace Tim
open PySem PyProof.Rows
theorem me:∀(l:List Gs) (a:Array Gs) (b j0:Nat),((l.zipIdx j0).foldl (fun a x=>a.setIfInBounds (b+x.2) x.1) a).size=a.size
 | [],_,_,_=>rfl
 | x::l,a,b,j0=>by
  rw [List.zipIdx_cons,JV,me l]
  simp
theorem tu:∀(l:List Gs) (a:Array Gs) (b j0:Nat) (i:Nat),b+j0+l.length<=a.size->((l.zipIdx j0).foldl (fun a x=>a.setIfInBounds (b+x.2) x.1) a)[i]?=if b+j0<=i/\i < b+j0+l.length then l[i-(b+j0)]? else a[i]?
 | [],a,b,j0,i,_=>by
  rw [if_neg (by simp only [Iw];lia)];rfl
 | x::l,a,b,j0,i,h=>by
  have hl:(x::l).length=l.length+1:=rfl
  rw [hl] at h ⊢
  rw [List.zipIdx_cons,JV,tu l _ b (j0+1) i (by simp;lia)]
  by_cases c:b+(j0+1)<=i/\i < b+(j0+1)+l.length
  ·rw [if_pos c,if_pos (by lia),show i-(b+j0)=(i-(b+(j0+1)))+1 by lia,HF]
  ·rw [if_neg c]
   by_cases e:i=b+j0
   ·subst e
    rw [if_pos (by lia),Nat.sub_self,List.getElem?_cons_zero]
    simp [JP];lia
   ·rw [if_neg (by lia)]
    simp [JP];lia
def Cov:List (Nat×Nat×Nat)->Nat->Nat->Prop
 | [],f,t=>f=t
 | x::r,f,t=>x.1=f/\1<=x.2.1/\Cov r (f+x.2.1) t
theorem Cov.le:∀{l:List (Nat×Nat×Nat)} {f t:Nat},Cov l f t->f+l.length<=t
 | [],_,_,h=>by cases h;exact FX _
 | x::r,f,t,⟨h1,h2,h3⟩=>by have:=Cov.le h3;simp only [Hf];lia
theorem Cov.app:∀{l m:List (Nat×Nat×Nat)} {f t:Nat},Cov (l++m) f t↔∃k,Cov l f k/\Cov m k t
 | [],m,f,t=>⟨fun h=>⟨f,rfl,h⟩,fun zq1=>by obtain ⟨k,h1,h2⟩:=zq1;cases h1;exact h2⟩
 | x::r,m,f,t=>⟨fun ⟨h1,h2,h3⟩=>let ⟨k,k1,k2⟩:=Cov.app.mp h3;⟨k,⟨h1,h2,k1⟩,k2⟩,fun zt1=>by obtain ⟨k,⟨h1,h2,k1⟩,k2⟩:=zt1;exact ⟨h1,h2,Cov.app.mpr ⟨k,k1,k2⟩⟩⟩
theorem Cov.mem:∀{l:List (Nat×Nat×Nat)} {f t:Nat},Cov l f t->∀x∈l,f<=x.1/\x.1+x.2.1<=t
 | x::r,f,t,⟨h1,h2,h3⟩,y,hy=>by
  have:=Cov.le h3
  rcases List.mem_cons.mp hy with rfl | hy
  ·lia
  ·have:=Cov.mem h3 y hy;lia
section
variable {prog:GD} {w:Hg} {A:Ho} {E:FU->FW->Prop} {s:FW} {κ:JB} {O:Kw} {key:Gs->O.α} {P:Gs->Prop}
theorem wD {σ:Type} {M:M5} {x:σ} {Q:PUnit->σ->Prop} {st:σ} (h:Q ⟨⟩ x):wpS M A E s (set x:StateT σ Sem PUnit) Q st:=by
 unfold wpS;rw [StateT.run_set];exact F7 ⟨rfl,h⟩
structure G {O:Kw} (κ:JB) (key:Gs->O.α) (a0:Array Gs) (st:HK) (lo:Nat):Prop where
 kind:kindOf st=κ
 fail:IM st=none
 perm:(F8 st).Perm a0
 cov:Cov (GA st).toList 0 lo
 srt:∀x∈(GA st).toList,Sg key (F8 st) x.1 (x.1+x.2.1)
 le:lo<=a0.size
theorem tw {a:Array Gs} {x:Gs} {base n:Nat} (h:Sg key a base (base+n)):∀i j,i<=j->j < n->bey key false x (at_ a (base+j))=true->bey key false x (at_ a (base+i))=true:=fun i j hij hj q=>by
 have:kl key (at_ a (base+i)) x:=GN (h _ _ (by lia) (by lia) (by lia)) (lZ q)
 show (!O.blt (key x) (key (at_ a (base+i))))=true
 rw [show O.blt (key x) (key (at_ a (base+i)))=false from this];rfl
theorem tx {a:Array Gs} {x:Gs} {base n:Nat} (h:Sg key a base (base+n)):∀i j,i<=j->j < n->bey key true x (at_ a (base+j))=true->bey key true x (at_ a (base+i))=true:=fun i j hij hj q=>
 KC (h (base+i) (base+j) (by lia) (by lia) (by lia)) (md q)
theorem mh {a:Array Gs} {i n j:Nat} (h:n<=a.size) (hj:i+j < n):at_ (a.extract i n) j=at_ a (i+j):=by
 refine bj ?_
 rw [Array.getElem?_extract]
 rw [if_pos (by lia)]
theorem mi {a:Array Gs} {i n:Nat} (h:n<=a.size):(a.extract i n).size=n-i:=by
 rw [Array.size_extract];lia
theorem tD {a:Array Gs} {i n:Nat} (h:n<=a.size) (q:Sg key a i n):(a.extract i n).toList.Pairwise (kl key):=by
 rw [Kq]
 intro x y hx hy hxy
 have hz:=mi (a:=a) (i:=i) h
 have hx':x < (a.extract i n).size:=by rw [<- GQ];exact hx
 have hy':y < (a.extract i n).size:=by rw [<- GQ];exact hy
 have g:∀z (hz:z < (a.extract i n).toList.length),(a.extract i n).toList[z]=at_ (a.extract i n) z:=fun z hz'=>by
  have e1:=bX (a:=a.extract i n) (i:=z) (by rw [<- GQ];exact hz')
  rw [FS hz'] at e1
  exact Gx e1
 rw [g x hx,g y hy,mh h (by lia),mh h (by lia)]
 exact q _ _ (by lia) (by lia) (by lia)
theorem iO {a:Array Gs} {i n:Nat} (h:n<=a.size) {x:Gs} (hx:x∈(a.extract i n).toList):∃j,i<=j/\j < n/\x=at_ a j:=by
 obtain ⟨j,hj,e⟩:=LQ hx
 have hj':j < (a.extract i n).size:=by rw [<- GQ];exact hj
 have hz:=mi (a:=a) (i:=i) h
 have e1:=bX (a:=a.extract i n) (i:=j) hj'
 rw [FS hj,e] at e1
 refine ⟨i+j,by lia,by lia,?_⟩
 rw [Gx e1,mh h (by lia)]
theorem jB {a:Array Gs} (hP:∀x∈a.toList,P x) {i:Nat} (h:i < a.size):P (at_ a i):=hP _ (eJ h)
theorem wF {a m:Array Gs} {lo hi:Nat} (h:hi<=a.size) (hl:lo<=hi) (hm:m.toList.Perm (a.extract lo hi).toList) :
  let a':=(m.toList.zipIdx).foldl (fun a x=>a.setIfInBounds (lo+x.2) x.1) a
  a'.Perm a/\(∀i,(lo<=i/\i < hi->a'[i]?=m[i-lo]?)/\(¬ (lo<=i/\i < hi)->a'[i]?=a[i]?)):=by
 intro a'
 have hlen:m.toList.length=hi-lo:=by rw [hm.length_eq];simp;lia
 have g:∀i,a'[i]?=if lo+0<=i/\i < lo+0+m.toList.length then m.toList[i-(lo+0)]? else a[i]?:=fun i=>tu m.toList a lo 0 i (by lia)
 rw [ME,hlen,show lo+(hi-lo)=hi by lia] at g
 have hz:a'.size=a.size:=me _ _ _ _
 refine ⟨?_,fun i=>⟨fun c=>by rw [g,if_pos c,Hu],fun c=>by rw [g,if_neg c]⟩⟩
 have e:a'.toList=a.toList.take lo++(m.toList++a.toList.drop hi):=by
  apply Ig
  intro i
  rw [Hu,g,LC,LC]
  have hlt:(a.toList.take lo).length=lo:=by simp;lia
  rw [hlt,hlen]
  by_cases c1:i < lo
  ·rw [if_neg (by lia),if_pos c1,List.getElem?_take,if_pos c1,Hu]
  ·rw [if_neg c1]
   by_cases c2:i < hi
   ·rw [if_pos ⟨by lia,c2⟩,if_pos (by lia)]
   ·rw [if_neg (by lia),if_neg (by lia),List.getElem?_drop,Hu]
    congr 1;lia
 have e2:a.toList=a.toList.take lo++((a.extract lo hi).toList++a.toList.drop hi):=by
  rw [m8 a lo hi hl]
  conv=>lhs;rw [<- GL hi a.toList,<- GL lo (a.toList.take hi)]
  rw [List.take_take,Li hl,Gm]
 rw [Array.perm_iff_toList_perm,e]
 conv=>rhs;rw [e2]
 exact HS _ (hm.append_right _)
theorem m9 (C:gn prog w A s κ O key P) {a0:Array Gs} {st:HK} {lo i:Nat} {Q:Bool->HK->Prop} (hP:∀x∈a0.toList,P x) (g:G κ key a0 st lo) (hi:i+1 < (GA st).size)
  (h:∀st',G κ key a0 st' lo->(∀j,lo<=j->(F8 st')[j]?=(F8 st)[j]?)->(GA st').size+1=(GA st).size->Q true st'):wpS (GM prog w) A E s (mergeAt' i) Q st:=by
 obtain ⟨sa,na,pw,eA⟩:∃sa na pw,(GA st)[i]?=some (sa,na,pw):=⟨_,_,_,getElem?_pos _ i (by lia)⟩
 obtain ⟨sb,nb,pw2,eB⟩:∃sb nb pw2,(GA st)[i+1]?=some (sb,nb,pw2):=⟨_,_,_,getElem?_pos _ (i+1) hi⟩
 have eL:(GA st).toList=(GA st).toList.take i++(sa,na,pw)::(sb,nb,pw2)::(GA st).toList.drop (i+2):=by
  conv=>lhs;rw [<- GL i (GA st).toList]
  congr 1
  rw [<- Hu] at eA eB
  obtain ⟨l1,q1⟩:=List.getElem?_eq_some_iff.mp eA
  obtain ⟨l2,q2⟩:=List.getElem?_eq_some_iff.mp eB
  rw [Im l1,q1,Im l2,q2]
 have hcov:=g.cov
 rw [eL] at hcov
 obtain ⟨k0,c1,c2,c3,c4,c5,c6⟩:=Cov.app.mp hcov
 dsimp only at c2 c3 c4 c5 c6
 subst c2
 have hpost:=Cov.le c6
 have hsz:(F8 st).size=a0.size:=g.perm.size_eq
 have hle:=g.le
 have hPs:∀x∈(F8 st).toList,P x:=fun x hx=>hP x ((Array.perm_iff_toList_perm.mp g.perm).mem_iff.mp hx)
 have sgA:Sg key (F8 st) sa (sa+na):=g.srt (sa,na,pw) (by rw [eL];simp)
 have sgB:Sg key (F8 st) (sa+na) (sa+na+nb):=by have:=g.srt (sb,nb,pw2) (by rw [eL];simp);dsimp only at this;rwa [c4] at this
 -- the pending runs afterwards
 have pn:(((GA st).setIfInBounds i (sa,na+nb,pw)).eraseIdxIfInBounds (i+1)).toList=(GA st).toList.take i++(sa,na+nb,pw)::(GA st).toList.drop (i+2):=by
  rw [Array.eraseIdxIfInBounds,dif_pos (by simp;lia),Array.toList_eraseIdx,Array.toList_setIfInBounds]
  conv=>lhs;rw [eL]
  have hl:((GA st).toList.take i).length=i:=by simp;lia
  rw [List.set_append_right _ _ (by lia),hl,Nat.sub_self,GW,List.eraseIdx_append_of_length_le (by lia),hl,Nat.add_sub_cancel_left,List.eraseIdx_cons_succ,List.eraseIdx_cons_zero]
 have hps:(((GA st).setIfInBounds i (sa,na+nb,pw)).eraseIdxIfInBounds (i+1)).size+1=(GA st).size:=by
  rw [<- GQ,pn];simp;lia
 -- what is wanted of a state with these runs
 have fin:∀st',kindOf st'=κ->IM st'=none->GA st'=(((GA st).setIfInBounds i (sa,na+nb,pw)).eraseIdxIfInBounds (i+1))->(F8 st').Perm (F8 st)->(∀j,¬ (sa<=j/\j < sa+na+nb)->(F8 st')[j]?=(F8 st)[j]?) ->
   Sg key (F8 st') sa (sa+na+nb)->Q true st':=fun st' k1 k2 k3 k4 k5 k6=>by
  refine h st' ⟨k1,k2,k4.trans g.perm,?_,?_,hle⟩ (fun j hj=>k5 j (by lia)) (by rw [k3];exact hps)
  ·rw [k3,pn]
   refine Cov.app.mpr ⟨sa,c1,rfl,by show 1<=na+nb;lia,?_⟩
   show Cov _ (sa+(na+nb)) lo
   rw [<- KP];exact c6
  ·intro x hx
   rw [k3,pn] at hx
   rcases List.mem_append.mp hx with hx | hx
   ·have q:=g.srt x (by rw [eL];exact Gu _ hx)
    have r:=Cov.mem c1 x hx
    intro i' j' z1 z2 z3
    show O.kle _ _
    rw [bj (k5 i' (by lia)),bj (k5 j' (by lia))]
    exact q i' j' z1 z2 z3
   ·rcases List.mem_cons.mp hx with rfl | hx
    ·show Sg key (F8 st') sa (sa+(na+nb))
     rw [<- KP];exact k6
    ·have q:=g.srt x (by rw [eL];exact FQ _ (GB _ (GB _ hx)))
     have r:=Cov.mem c6 x hx
     intro i' j' z1 z2 z3
     show O.kle _ _
     rw [bj (k5 i' (by lia)),bj (k5 j' (by lia))]
     exact q i' j' z1 z2 z3
 subst c4
 delta mergeAt'
 refine F0 (JI ?_)
 rw [eA,eB]
 dsimp only
 refine F0 (wD ?_)
 refine F0 (aU (show sa+na < (F8 st).size by lia) (F0 (gp C g.kind (show 0 < na by lia) (show sa+na<=(F8 st).size by lia) (fun j hj=>jB hPs (by lia)) (jB hPs (by lia)) (tw sgA) fun k z1 z2 z3=>?_)))
 dsimp only
 have low:∀j,sa<=j->j < sa+k->kl key (at_ (F8 st) j) (at_ (F8 st) (sa+na)):=fun j j1 j2=>by
  have:=lZ (z2 (j-sa) (by lia));rwa [show sa+(j-sa)=j by lia] at this
 have high:∀j,sa+k<=j->j < sa+na->O.klt (key (at_ (F8 st) (sa+na))) (key (at_ (F8 st) j)):=fun j j1 j2=>by
  have:=tj (z3 (j-sa) (by lia) (by lia));rwa [show sa+(j-sa)=j by lia] at this
 by_cases e1:na-k=0
 ·rw [if_pos (by simpa using e1)]
  refine Gb (fin _ g.kind g.fail rfl (J6 _) (fun _ _=>rfl) fun i' j' y1 y2 y3=>?_)
  show kl key (at_ (F8 st) i') (at_ (F8 st) j')
  by_cases d1:j' < sa+na
  ·exact sgA i' j' y1 y2 d1
  ·by_cases d2:i' < sa+na
   ·exact GN (low i' y1 (by lia)) (sgB _ j' (FX _) (by lia) y3)
   ·exact sgB i' j' (by lia) y2 y3
 rw [if_neg (by simpa using e1)]
 have hlast:sa+k+(na-k)-1=sa+na-1:=by lia
 rw [hlast]
 refine F0 (aU (show sa+na-1 < (F8 st).size by lia) (F0 (gp C g.kind (show nb-1 < nb by lia) (show sa+na+nb<=(F8 st).size by lia) (fun j hj=>jB hPs (by lia)) (jB hPs (by lia)) (tx sgB) fun m y1 y2 y3=>?_)))
 dsimp only
 have lowB:∀j,sa+na<=j->j < sa+na+m->O.klt (key (at_ (F8 st) j)) (key (at_ (F8 st) (sa+na-1))):=fun j j1 j2=>by
  have:=md (y2 (j-(sa+na)) (by lia));rwa [show sa+na+(j-(sa+na))=j by lia] at this
 have highB:∀j,sa+na+m<=j->j < sa+na+nb->kl key (at_ (F8 st) (sa+na-1)) (at_ (F8 st) j):=fun j j1 j2=>by
  have:=tm (y3 (j-(sa+na)) (by lia) (by lia));rwa [show sa+na+(j-(sa+na))=j by lia] at this
 by_cases e2:m=0
 ·rw [if_pos (by simpa using e2)]
  refine Gb (fin _ g.kind g.fail rfl (J6 _) (fun _ _=>rfl) fun i' j' x1 x2 x3=>?_)
  show kl key (at_ (F8 st) i') (at_ (F8 st) j')
  by_cases d1:j' < sa+na
  ·exact sgA i' j' x1 x2 d1
  ·by_cases d2:i' < sa+na
   ·exact GN (sgA i' (sa+na-1) x1 (by lia) (by lia)) (highB j' (by lia) x3)
   ·exact sgB i' j' (by lia) x2 x3
 rw [if_neg (by simpa using e2)]
 have hx1:sa+na<=(F8 st).size:=by lia
 have hx2:sa+na+m<=(F8 st).size:=by lia
 have sx:=mi (a:=F8 st) (i:=sa+k) hx1
 have sy:=mi (a:=F8 st) (i:=sa+na) hx2
 have srX:=tD (key:=key) (i:=sa+k) hx1 (fun i' j' a1 a2 a3=>sgA i' j' (by lia) a2 a3)
 have srY:=tD (key:=key) (i:=sa+na) hx2 (fun i' j' a1 a2 a3=>sgB i' j' a1 a2 (by lia))
 have PX:∀x∈((F8 st).extract (sa+k) (sa+na)).toList,P x:=fun x hx=>by obtain ⟨j,j1,j2,rfl⟩:=iO hx1 hx;exact jB hPs (by lia)
 have PY:∀x∈((F8 st).extract (sa+na) (sa+na+m)).toList,P x:=fun x hx=>by obtain ⟨j,j1,j2,rfl⟩:=iO hx2 hx;exact jB hPs (by lia)
 have H0:∀y∈((F8 st).extract (sa+k) (sa+na)).toList,kl key (at_ ((F8 st).extract (sa+na) (sa+na+m)) 0) y:=fun y hy=>by
  obtain ⟨j,j1,j2,rfl⟩:=iO hx1 hy
  rw [mh hx2 (by lia),ME]
  exact G6 (high j j1 j2)
 have HL:∀x∈((F8 st).extract (sa+na) (sa+na+m)).toList,kl key x (at_ ((F8 st).extract (sa+k) (sa+na)) (((F8 st).extract (sa+k) (sa+na)).size-1)):=fun x hx=>by
  obtain ⟨j,j1,j2,rfl⟩:=iO hx2 hx
  rw [sx,mh hx1 (by lia),show sa+k+(sa+na-(sa+k)-1)=sa+na-1 by lia]
  exact G6 (lowB j j1 j2)
 have eXY:((F8 st).extract (sa+k) (sa+na+m)).toList=((F8 st).extract (sa+k) (sa+na)).toList++((F8 st).extract (sa+na) (sa+na+m)).toList:=by
  rw [<- GX,Array.extract_append_extract]
  congr 2 <;> lia
 -- the end,by either way
 have done:∀(r:Array Gs) (st1:HK),kindOf st1=κ->IM st1=none->GA st1=(((GA st).setIfInBounds i (sa,na+nb,pw)).eraseIdxIfInBounds (i+1))->F8 st1=F8 st ->
   Res (kl key) ((F8 st).extract (sa+k) (sa+na)).toList ((F8 st).extract (sa+na) (sa+na+m)).toList r.toList ->
   Q true (Mk (kindOf st1) ((r.toList.zipIdx).foldl (fun a x=>a.setIfInBounds (sa+k+x.2) x.1) (F8 st1)) (GA st1) (gallopOf st1) (IM st1)):=fun r st1 k1 k2 k3 k4 R=>by
  rw [k4]
  obtain ⟨R1,R2⟩:=R
  rw [<- eXY] at R1
  obtain ⟨b1,b2⟩:=wF (a:=F8 st) (m:=r) (lo:=sa+k) (hi:=sa+na+m) hx2 (by lia) R1
  generalize (r.toList.zipIdx).foldl (fun a x=>a.setIfInBounds (sa+k+x.2) x.1) (F8 st)=a' at b1 b2 ⊢
  have hrl:r.size=sa+na+m-(sa+k):=by have:=R1.length_eq;rw [GQ,GQ,mi hx2] at this;exact this
  have mid:∀j,sa+k<=j->j < sa+na+m->at_ a' j=at_ r (j-(sa+k)):=fun j j1 j2=>bj ((b2 j).1 ⟨j1,j2⟩)
  have out:∀j,¬ (sa+k<=j/\j < sa+na+m)->at_ a' j=at_ (F8 st) j:=fun j hj=>bj ((b2 j).2 hj)
  have midv:∀j,sa+k<=j->j < sa+na+m->∃t,sa+k<=t/\t < sa+na+m/\at_ a' j=at_ (F8 st) t:=fun j j1 j2=>by
   have hm:at_ r (j-(sa+k))∈r.toList:=eJ (by lia)
   obtain ⟨t,t1,t2,t3⟩:=iO hx2 (R1.mem_iff.mp hm)
   exact ⟨t,t1,t2,by rw [mid j j1 j2,t3]⟩
  refine fin _ k1 k2 k3 b1 (fun j hj=>(b2 j).2 (by lia)) fun i' j' x1 x2 x3=>?_
  show kl key (at_ a' i') (at_ a' j')
  by_cases d1:i' < sa+k
  ·rw [out i' (by lia)]
   by_cases d2:j' < sa+k
   ·rw [out j' (by lia)];exact sgA i' j' x1 x2 (by lia)
   ·by_cases d3:j' < sa+na+m
    ·obtain ⟨t,t1,t2,t3⟩:=midv j' (by lia) d3
     rw [t3]
     by_cases d4:t < sa+na
     ·exact sgA i' t x1 (by lia) d4
     ·exact GN (low i' x1 d1) (sgB _ t (FX _) (by lia) (by lia))
    ·rw [out j' (by lia)]
     exact GN (low i' x1 d1) (sgB _ j' (FX _) (by lia) x3)
  ·by_cases d2:i' < sa+na+m
   ·by_cases d3:j' < sa+na+m
    ·rw [mid i' (by lia) d2,mid j' (by lia) d3]
     exact eK R2 (by lia) (by lia)
    ·obtain ⟨t,t1,t2,t3⟩:=midv i' (by lia) d2
     rw [t3,out j' (by lia)]
     by_cases d4:t < sa+na
     ·exact GN (sgA t (sa+na-1) (by lia) (by lia) (by lia)) (highB j' (by lia) x3)
     ·exact sgB t j' (by lia) (by lia) x3
   ·rw [out i' (by lia),out j' (by lia)]
    exact sgB i' j' (by lia) x2 x3
 by_cases hcase:na-k<=m
 ·rw [if_pos hcase]
  refine F0 (BP C g.kind (show 0 < ((F8 st).extract (sa+k) (sa+na)).size by rw [sx];lia) (show 0 < ((F8 st).extract (sa+na) (sa+na+m)).size by rw [sy];lia) PX PY srX srY H0 HL fun r st1 S R=>?_)
  refine F0 (Hm (F0 (JI ?_)))
  have hf:IM st1=none:=S.2.2.2.trans g.fail
  show wpS _ _ _ _ (pure (IM st1).isNone) _ _
  rw [hf]
  exact Gb (done r st1 (S.1.trans g.kind) hf S.2.2.1 S.2.1 R)
 ·rw [if_neg hcase]
  refine F0 (BQ C g.kind (show 0 < ((F8 st).extract (sa+k) (sa+na)).size by rw [sx];lia) (show 0 < ((F8 st).extract (sa+na) (sa+na+m)).size by rw [sy];lia) PX PY srX srY H0 HL fun r st1 S R=>?_)
  refine F0 (Hm (F0 (JI ?_)))
  have hf:IM st1=none:=S.2.2.2.trans g.fail
  show wpS _ _ _ _ (pure (IM st1).isNone) _ _
  rw [hf]
  exact Gb (done r st1 (S.1.trans g.kind) hf S.2.2.1 S.2.1 R)
end
end Tim
end
section
namespace Tim
open PySem PyProof.Rows
def bare (x:Nat×Nat×Nat):Nat×Nat:=(x.1,x.2.1)
theorem Cov.bare:∀{l m:List (Nat×Nat×Nat)} {f t:Nat},l.map bare=m.map bare->Cov l f t->Cov m f t
 | [],[],_,_,_,h=>h
 | [],_::_,_,_,e,_=>by cases e
 | _::_,[],_,_,e,_=>by cases e
 | x::l,y::m,f,t,e,⟨h1,h2,h3⟩=>by
  have e':=L9 e
  have e1:x.1=y.1:=(LS e'.1).1
  have e2:x.2.1=y.2.1:=(LS e'.1).2
  exact ⟨e1▸h1,e2▸h2,e2▸Cov.bare e'.2 h3⟩
theorem tE (l:List (Nat×Nat×Nat)) (i pw:Nat):(l.modify i fun x=>(x.1,x.2.1,pw)).map bare=l.map bare:=by
 apply Ig
 intro j
 rw [Gk,Gk,List.getElem?_modify]
 cases l[j]? with
 | none=>rfl
 | some x=>by_cases h:i=j <;> simp [h,bare]
section
variable {prog:GD} {w:Hg} {A:Ho} {E:FU->FW->Prop} {s:FW} {κ:JB} {O:Kw} {key:Gs->O.α} {P:Gs->Prop}
theorem G.push {a0:Array Gs} {st:HK} {lo n:Nat} (g:G κ key a0 st lo) (S:Sg key (F8 st) lo (lo+n)) (h1:1<=n) (h2:lo+n<=a0.size):G κ key a0 (Mq st ((GA st).push (lo,n,0))) (lo+n):=by
 have e:(GA (Mq st ((GA st).push (lo,n,0)))).toList=(GA st).toList++[(lo,n,0)]:=KD ..
 refine ⟨g.kind,g.fail,g.perm,?_,fun x hx=>?_,h2⟩
 ·rw [e];exact Cov.app.mpr ⟨lo,g.cov,rfl,h1,rfl⟩
 ·rw [e] at hx
  rcases List.mem_append.mp hx with hx | hx
  ·exact g.srt x hx
  ·rw [HX] at hx;subst hx;exact S
theorem G.pow {a0:Array Gs} {st:HK} {lo:Nat} (g:G κ key a0 st lo) (i pw:Nat):G κ key a0 (Mq st ((GA st).modify i fun x=>(x.1,x.2.1,pw))) lo:=by
 have e:(GA (Mq st ((GA st).modify i fun x=>(x.1,x.2.1,pw)))).toList=(GA st).toList.modify i fun x=>(x.1,x.2.1,pw):=Array.toList_modify ..
 have b:=tE (GA st).toList i pw
 refine ⟨g.kind,g.fail,g.perm,?_,fun x hx=>?_,g.le⟩
 ·rw [e];exact Cov.bare b.symm g.cov
 ·rw [e] at hx
  have hb:bare x∈((GA st).toList.map bare):=by rw [<- b];exact List.mem_map_of_mem hx
  obtain ⟨y,hy,ey⟩:=List.mem_map.mp hb
  have q:=g.srt y hy
  have e1:y.1=x.1:=(LS ey).1
  have e2:y.2.1=x.2.1:=(LS ey).2
  rw [e1,e2] at q
  exact q
theorem Sg.keep {a b:Array Gs} {lo hi:Nat} (h:Sg key a lo hi) (e:∀j,lo<=j->b[j]?=a[j]?):Sg key b lo hi:=fun i j z1 z2 z3=>by
 rw [bj (e i z1),bj (e j (by lia))];exact h i j z1 z2 z3
theorem wG (C:gn prog w A s κ O key P) {st:HK} {Q:Unit->HK->Prop} (hP:∀x∈(F8 st).toList,P x) (hk:kindOf st=κ) (hf:IM st=none) (hp:GA st=#[]) (h1:1<=(F8 st).size)
  (h:∀st',(F8 st').Perm (F8 st)->IM st'=none->(F8 st').toList.Pairwise (kl key)->Q () st'):wpS (GM prog w) A E s sortRuns' Q st:=by
 have g0:G κ key (F8 st) st 0:=⟨hk,hf,J6 _,by rw [hp];rfl,(fun x hx=>by rw [hp] at hx;cases hx),HM _⟩
 rw [sortRuns'_eq]
 refine F0 (JI ?_)
 dsimp only
 refine F0 (HH (GZ (I:=fun x c st1=>∃lo,c=(none,lo)/\x<=lo/\G κ key (F8 st) st1 lo) (Q:=fun c st1=>c=(none,(F8 st).size)/\G κ key (F8 st) st1 (F8 st).size) ?step ?fin ⟨0,rfl,FX _,g0⟩) ?post)
 case fin=>
  rintro c st1 ⟨lo,rfl,hx,g⟩
  have:=g.le
  have e:lo=(F8 st).size:=by lia
  subst e;exact ⟨rfl,g⟩
 case post=>
  rintro c st1 ⟨rfl,g⟩
  dsimp only
  refine F0 (HH (GZ (I:=fun x c st2=>c=(none,())/\(GA st2).size+x<=(F8 st).size/\G κ key (F8 st) st2 (F8 st).size) (Q:=fun c st2=>c=(none,())/\(GA st2).size<=1/\G κ key (F8 st) st2 (F8 st).size) ?ls ?lf ⟨rfl,by have:=g.cov.le;rw [GQ] at this;lia,g⟩) ?lp)
  case lf=>
   rintro c st2 ⟨rfl,b1,g2⟩
   exact ⟨rfl,by lia,g2⟩
  case ls=>
   rintro x c st2 _ hx ⟨rfl,b1,g2⟩
   refine F0 (JI ?_)
   by_cases hp1:(GA st2).size<=1
   ·rw [if_pos hp1];exact Gb ⟨rfl,hp1,g2⟩
   rw [if_neg hp1]
   have hi:∀b:Bool,(if b=true then (GA st2).size-2-1 else (GA st2).size-2)+1 < (GA st2).size:=fun b=>by
    cases b with
    | true=>rw [if_pos rfl];lia
    | false=>rw [if_neg (by simp)];lia
   refine F0 (m9 C hP g2 (hi _) fun st3 g3 _ b3=>?_)
   rw [if_neg (by simp)]
   exact Gb ⟨rfl,by lia,g3⟩
  case lp=>
   rintro c st2 ⟨rfl,b1,g2⟩
   refine Gb (h st2 g2.perm g2.fail ?_)
   have hz:(F8 st2).size=(F8 st).size:=g2.perm.size_eq
   have S:Sg key (F8 st2) 0 (F8 st).size:=by
    have c:=g2.cov
    have q:=g2.srt
    rw [<- GQ] at b1
    match hl:(GA st2).toList,b1 with
    | [],_=>rw [hl] at c;have c:0=(F8 st).size:=c;lia
    | [x],_=>
     rw [hl] at c q
     obtain ⟨c1,_,c3⟩:=c
     have:=q x FZ
     have c3:0+x.2.1=(F8 st).size:=c3
     rwa [c1,c3] at this
    | _::_::_,b1=>simp only [Hf] at b1;lia
   rw [Kq]
   intro i j hi hj hij
   have gt:∀z (hz:z < (F8 st2).toList.length),(F8 st2).toList[z]=at_ (F8 st2) z:=fun z hz'=>by
    have e1:=bX (a:=F8 st2) (i:=z) (by rw [<- GQ];exact hz')
    rw [FS hz'] at e1
    exact Gx e1
   rw [gt i hi,gt j hj]
   rw [GQ] at hi hj
   exact S i j (HM _) (by lia) (by lia)
 case step=>
  rintro x c st1 _ hx ⟨lo,rfl,hxl,g⟩
  have hle:=g.le
  have hsz:(F8 st1).size=(F8 st).size:=g.perm.size_eq
  dsimp only
  by_cases hge:lo >= (F8 st).size
  ·rw [if_pos hge]
   have e:lo=(F8 st).size:=by lia
   subst e;exact Gb ⟨rfl,g⟩
  rw [if_neg hge]
  have hPs:∀x∈(F8 st1).toList,P x:=fun x hx=>hP x ((Array.perm_iff_toList_perm.mp g.perm).mem_iff.mp hx)
  have step:∀{st2:HK},Mv lo st1 st2->G κ key (F8 st) st2 lo:=fun {st2} M=>by
   refine ⟨M.kind.trans g.kind,M.fail.trans g.fail,M.perm.trans g.perm,by rw [M.pend];exact g.cov,fun x hx=>?_,hle⟩
   rw [M.pend] at hx
   have q:=g.srt x hx
   have r:=g.cov.mem x hx
   intro i j z1 z2 z3
   rw [bj (M.pre i (by lia)),bj (M.pre j (by lia))]
   exact q i j z1 z2 z3
  refine F0 (BR C g.kind hPs (by lia) (by lia) fun n st2 M2 n1 n2 S2=>?_)
  dsimp only
  by_cases hm:n < minRun' (F8 st).size (F8 st).size 0
  ·rw [if_pos hm]
   refine F0 (KO (IT ⟨rfl,?_⟩))
   have hz2:(F8 st2).size=(F8 st).size:=M2.size.trans hsz
   refine F0 (BS C (M2.kind.trans g.kind) (M2.all hPs) (by rw [hz2];lia) n1 (by lia) S2 fun st3 M3 S3=>?_)
   rw [if_neg (by simp)]
   have M4:Mv lo st1 st3:=⟨M3.kind.trans M2.kind,M3.pend.trans M2.pend,M3.fail.trans M2.fail,M3.perm.trans M2.perm,fun i hi=>(M3.pre i hi).trans (M2.pre i hi)⟩
   have g4:=step M4
   have n3:1<=min ((F8 st).size-lo) (minRun' (F8 st).size (F8 st).size 0):=by lia
   have n4:lo+min ((F8 st).size-lo) (minRun' (F8 st).size (F8 st).size 0)<=(F8 st).size:=by lia
   generalize min ((F8 st).size-lo) (minRun' (F8 st).size (F8 st).size 0)=N at S3 n3 n4 ⊢
   refine F0 (JI ?_)
   cases hb:(GA st3).back? with
   | none=>
    dsimp only
    exact F0 (Hm (Gb ⟨_,rfl,by lia,g4.push S3 n3 n4⟩))
   | some z=>
    obtain ⟨s1,l1,p1⟩:=z
    dsimp only
    refine F0 (HH (GZ (I:=fun _ c st5=>c=(none,())/\G κ key (F8 st) st5 lo/\Sg key (F8 st5) lo (lo+N)) (Q:=fun c st5=>c=(none,())/\G κ key (F8 st) st5 lo/\Sg key (F8 st5) lo (lo+N)) ?ms ?mf ⟨rfl,g4,S3⟩) ?mp)
    case mf=>rintro c st5 z;exact z
    case ms=>
     rintro y c st5 _ hy ⟨rfl,g5,S5⟩
     refine F0 (JI ?_)
     by_cases hp2:(GA st5).size > 1
     ·rw [if_pos hp2]
      obtain ⟨u1,u2,u3,hu⟩:∃u1 u2 u3,(GA st5)[(GA st5).size-2]?=some (u1,u2,u3):=⟨_,_,_,getElem?_pos _ _ (by lia)⟩
      rw [hu]
      dsimp only
      split
      ·exact Gb ⟨rfl,g5,S5⟩
      ·refine F0 (m9 C hP g5 (by lia) fun st6 g6 k6 _=>?_)
       rw [if_neg (by simp)]
       exact Gb ⟨rfl,g6,S5.keep k6⟩
     ·rw [if_neg hp2]
      exact Gb ⟨rfl,g5,S5⟩
    case mp=>
     rintro c st5 ⟨rfl,g5,S5⟩
     dsimp only
     exact F0 (Hm (F0 (Hm (Gb ⟨_,rfl,by lia,(g5.pow _ _).push S5 n3 n4⟩))))
  ·rw [if_neg hm]
   have g4:=step M2
   have n4:lo+n<=(F8 st).size:=by lia
   refine F0 (JI ?_)
   cases hb:(GA st2).back? with
   | none=>
    dsimp only
    exact F0 (Hm (Gb ⟨_,rfl,by lia,g4.push S2 n1 n4⟩))
   | some z=>
    obtain ⟨s1,l1,p1⟩:=z
    dsimp only
    refine F0 (HH (GZ (I:=fun _ c st5=>c=(none,())/\G κ key (F8 st) st5 lo/\Sg key (F8 st5) lo (lo+n)) (Q:=fun c st5=>c=(none,())/\G κ key (F8 st) st5 lo/\Sg key (F8 st5) lo (lo+n)) ?ms ?mf ⟨rfl,g4,S2⟩) ?mp)
    case mf=>rintro c st5 z;exact z
    case ms=>
     rintro y c st5 _ hy ⟨rfl,g5,S5⟩
     refine F0 (JI ?_)
     by_cases hp2:(GA st5).size > 1
     ·rw [if_pos hp2]
      obtain ⟨u1,u2,u3,hu⟩:∃u1 u2 u3,(GA st5)[(GA st5).size-2]?=some (u1,u2,u3):=⟨_,_,_,getElem?_pos _ _ (by lia)⟩
      rw [hu]
      dsimp only
      split
      ·exact Gb ⟨rfl,g5,S5⟩
      ·refine F0 (m9 C hP g5 (by lia) fun st6 g6 k6 _=>?_)
       rw [if_neg (by simp)]
       exact Gb ⟨rfl,g6,S5.keep k6⟩
     ·rw [if_neg hp2]
      exact Gb ⟨rfl,g5,S5⟩
    case mp=>
     rintro c st5 ⟨rfl,g5,S5⟩
     dsimp only
     exact F0 (Hm (F0 (Hm (Gb ⟨_,rfl,by lia,(g5.pow _ _).push S5 n1 n4⟩))))
end
end Tim
end
section
namespace Tim
open PySem PyProof.Rows L2
section
variable {prog:GD} {w:Hg} {A:Ho} {E:FU->FW->Prop} {s:FW} {κ:JB} {O:Kw} {key:Gs->O.α} {P:Gs->Prop}
def bH (h:Heap) (a:Addr) (vs:List FU):Heap:=((h.update a (Hq fun _=>#[])).push (JD "tuple" vs.toArray 0)).push (JD "list" #[] 0)
theorem wH {h:Heap} {a b:Addr} {vs:List FU} {o:Obj} (hb:b≠a) (e:h.get? b=some o):(bH h a vs).get? b=some o:=
 FT _ (FT _ (((J7 h a _).2 b hb).trans e))
theorem tF (vs:List FU):(vs.toArray.zip vs.toArray).toList=vs.map fun v=>(v,v):=by
 apply List.ext_getElem <;> simp
theorem tG {a:Addr} {vs:List FU} {n:Nat} {R:PySem.Fin->FW->Prop} (ho:s.heap.get? a=some (JD "list" vs.toArray n)) (h2:2<=vs.length) (hz:vs.length<=GG)
  (hk:∀Q':JB->FW->Prop,Q' κ { s with heap:=bH s.heap a vs }->GU (GM prog w) A (keyKind' vs.toArray) Q' E { s with heap:=bH s.heap a vs })
  (C:gn prog w A { s with heap:=bH s.heap a vs } κ O key P) (hP:∀v∈vs,P (v,v))
  (h:∀out:List FU,out.Perm vs->out.Pairwise (fun x y=>O.kle (key (x,x)) (key (y,y)))->R (.done (.ret .none)) { s with heap:=sortedHeap s.heap a vs out.toArray }) :
  GU (GM prog w) A (Builtin.«list.sort» ⟨[.ref a],[]⟩) R E s:=by
 have many:¬ vs.toArray.size < 2:=by rw [Ge];lia
 obtain ⟨e,he⟩:∃e,(s.heap.update a (Hq fun _=>#[])).get? a=some (JD "list" #[] e):=⟨_,get?_update_seq ho (fun _=>#[])⟩
 rw [list_sort_plain]
 refine FR (listItems_at ho rfl (FR (KM ho rfl (FR (LP he rfl (FR (wpAny_newTuple (FR (KN (Hn ?_))) (hsz:=hz))))) (by rw [Ge];lia))))
 have he2:(bH s.heap a vs).get? a=some (JD "list" #[] e):=FT _ (FT _ he)
 dsimp only
 rw [if_neg many,if_neg many]
 refine FR (hk _ ?_)
 have hl0:(F8 (Mk κ (vs.toArray.zip vs.toArray) #[] 7 none)).toList=vs.map fun v=>(v,v):=tF vs
 refine FR (Gy (wG (E:=E) C (st:=Mk κ (vs.toArray.zip vs.toArray) #[] 7 none) (Q:=fun _ st'=>(F8 st').toList.Perm (vs.map fun v=>(v,v))/\IM st'=none/\(F8 st').toList.Pairwise (kl key))
  (fun x hx=>?_) rfl rfl rfl ?_ fun st' q1 q2 q3=>⟨?_,q2,q3⟩) ?_ fun _ _ z=>z)
 ·rw [hl0] at hx
  obtain ⟨v,hv,rfl⟩:=List.mem_map.mp hx
  exact hP v hv
 ·rw [<- GQ,hl0,FV];lia
 ·rw [<- hl0];exact Array.perm_iff_toList_perm.mp q1
 rintro ⟨⟨⟩,st'⟩ s' ⟨rfl,pm,hf,pw⟩
 dsimp only
 have same:∀x∈(F8 st').toList,x=(x.2,x.2):=fun x hx=>by
  obtain ⟨v,_,rfl⟩:=List.mem_map.mp (pm.mem_iff.mp hx);rfl
 have eo:(F8 st').map (·.2)=((F8 st').toList.map (·.2)).toArray:=by apply Array.ext' ; simp
 have p2:((F8 st').toList.map (·.2)).Perm vs:=by have:=pm.map (·.2);rw [GP] at this;simpa [Kv] using this
 have w2:((F8 st').toList.map (·.2)).Pairwise (fun x y=>O.kle (key (x,x)) (key (y,y))):=by
  rw [IU]
  refine Jg (fun {x y} hx hy q=>?_) pw
  have q:O.kle (key x) (key y):=q
  rw [same x hx,same y hy] at q
  exact q
 refine FR (LP he2 rfl (FR (KM he2 rfl ?_ (hsz2:=by rw [eo,Ge,p2.length_eq];lia))))
 rw [eo,hf]
 simp only [bne_self_eq_false,HE,if_false]
 exact F7 (h _ p2 w2)
def cu (h:Heap) (vs:List FU):Heap:=((h.push (JD "list" #[] 0)).update h.objs.size (Hq (·++vs.toArray))).push (JD "list" vs.toArray 0)
theorem pre_size (h:Heap) (vs:List FU):((h.push (JD "list" #[] 0)).update h.objs.size (Hq (·++vs.toArray))).objs.size=h.objs.size+1:=by rw [Heap.size_update,size_push']
theorem oD {h:Heap} {b:Addr} {vs:List FU} {o:Obj} (e:h.get? b=some o):(bH (cu h vs) (h.objs.size+1) vs).get? b=some o:=by
 have hb:b < h.objs.size:=Gg e
 refine wH (GO (Nat.lt_succ_of_lt hb)) (FT _ (((J7 _ _ _).2 b (GO hb)).trans (FT _ e)))
theorem ng {l:Addr} {vs:List FU} {Q:FU->FW->Prop} (hl:s.heap.IsList l vs.toArray) (h2:2<=vs.length) (hz:vs.length<=GG)
  (hk:∀Q':JB->FW->Prop,Q' κ { s with heap:=bH (cu s.heap vs) (s.heap.objs.size+1) vs }->GU (GM prog w) A.in1.in1 (keyKind' vs.toArray) Q' E { s with heap:=bH (cu s.heap vs) (s.heap.objs.size+1) vs })
  (C:gn prog w A.in1.in1 { s with heap:=bH (cu s.heap vs) (s.heap.objs.size+1) vs } κ O key P) (hP:∀v∈vs,P (v,v))
  (h:∀out:List FU,out.Perm vs->out.Pairwise (fun x y=>O.kle (key (x,x)) (key (y,y)))->Q (.ref (s.heap.objs.size+1)) { s with heap:=sortedAll s.heap vs out.toArray }) :
  GU (GM prog w) A (call (.builtin "sorted") [.ref l]) Q E s:=by
 have z1:=pre_size s.heap vs
 have z2:(cu s.heap vs).get? (s.heap.objs.size+1)=some (JD "list" vs.toArray 0):=z1▸Gn _ rfl
 have col:=fun R r=>collect_list (prog:=prog) (w:=w) (A:=A.in1) (E:=E) (Q:=R) hl r hz
 refine Km kind_sorted plain_sorted entry_sorted (args_sorted1 _) (FR (m:=checkCount "sorted" 1 1 _) (F7 (FR (m:=collect (.ref l)) (col _ (FR (KN ?_ (hsz:=hz)))))))
 dsimp only
 rw [z1]
 refine FR (Hn (Jc slot_list_sort ⟨_,z2,rfl⟩ entry_list_sort (tG (κ:=κ) (O:=O) (key:=key) (P:=P) z2 h2 hz hk C hP fun out p q=>⟨_,rfl,F7 ⟨_,rfl,h out p q⟩⟩) (args_list_sort _)))
def dec (h:Heap):FU->List Int
 | .ref p=>match h.get? p with
  | some o=>match o.data with
   | .seq xs _=>xs.toList.map numOf
   | _=>[]
  | none=>[]
 | _=>[]
def IsT (h:Heap) (v:FU) (ns:List Int):Prop:=∃p its,v=.ref p/\IsTup h p (List.toArray its)/\Vals (ns.map V.int) its
theorem jC:∀{ns:List Int} {its:List FU},Vals (ns.map V.int) its->its.map numOf=ns
 | [],its,h=>by have h:Vals [] its:=h;cases h;rfl
 | n::ns,its,h=>by
  have h:Vals (V.int n::ns.map V.int) its:=h
  cases h with
  | cons a b=>obtain ⟨t,rfl⟩:=a;rw [Gq,jC b];rfl
theorem IsT.dec {h:Heap} {v:FU} (q:IsT h v ns):dec h v=ns:=by
 obtain ⟨p,its,rfl,⟨o,ho,_,n,hd⟩,r⟩:=q
 unfold Tim.dec
 dsimp only
 rw [ho]
 dsimp only
 rw [hd]
 dsimp only
 exact jC r
theorem pZ {h:Heap}:gn prog w A { s with heap:=h } (tuples' true) lexOrd (fun x=>dec h x.1) (fun x=>∃ns,IsT h x.1 ns):=by
 intro x y C hx hy q
 obtain ⟨ns,hx⟩:=hx
 obtain ⟨ms,hy⟩:=hy
 have q:C (HT.lexLt (dec h x.1) (dec h y.1)) { s with heap:=h }:=q
 rw [hx.dec,hy.dec] at q
 obtain ⟨p,us,ex,⟨o,ho,_,n,hd⟩,r⟩:=hx
 obtain ⟨p',vs,ey,⟨o',ho',_,n',hd'⟩,r'⟩:=hy
 rw [ex,ey]
 exact PySem.W.kat_lt (s:={ s with heap:=h }) ho hd ho' hd' (u7 ns ms 0 r r' (by simp) q)
end
end Tim
namespace L2
open PySem PySem.Spec PyProof.Rows
def nh (K:FO):List V->Hp->VK->Prop:=fun xs H Q=>∃(l:Addr) (ps:List Addr) (mss:List (List Int)),xs=[.ref l]/\SqL K H l (ps.map V.ref)/\ik K H ps mss/\(∀ms∈mss,ms≠[]) /\
 ∀(D:Addr) (ps':List Addr),H D=none->ik K H ps' (srt mss)->Q (.ref D) (upd H D (.lst (ps'.map V.ref)))
def adr:FU->Addr
 | .ref a=>a
 | _=>0
theorem oE (f:Addr->List Int):∀{ps:List Addr},(∀p∈ps,SqT K H p ((f p).map V.int))->ik K H ps (ps.map f)
 | [],_=>.nil
 | p::ps,h=>.cons (h p FZ) (oE f fun q hq=>h q (GB _ hq))
theorem jD (f:Addr->List Int):∀{ps:List Addr} {mss:List (List Int)},ik K H ps mss->(∀p ms,SqT K H p (ms.map V.int)->f p=ms)->ps.map f=mss/\∀p∈ps,SqT K H p ((f p).map V.int)
 | _,_,.nil,_=>⟨rfl,fun _ h=>nomatch h⟩
 | _,_,.cons h t,hf=>by
  obtain ⟨e,q⟩:=jD f t hf
  refine ⟨by rw [Gq,e,hf _ _ h],fun p hp=>?_⟩
  rcases List.mem_cons.mp hp with rfl | hp
  ·rw [hf _ _ h];exact h
  ·exact q p hp
theorem iP {X:Cx}:cg X (.builtin "sorted") (nh X.K):=by
 intro pins s σ H xs us Q I r h
 obtain ⟨l,ps,mss,rfl,hl,ht,hne,q⟩:=h
 obtain ⟨u,rfl,rx⟩:=vals1 r
 cases rx
 obtain ⟨vs,rv,pl,hz⟩:=I.list hl
 have hlen:ps.length=mss.length:=Jh ht
 have evs:=jn rv
 subst evs
 rw [FV] at hz
 by_cases h2:ps.length < 2
 ·refine mP pl.isList (by simpa using h2) ?_
  obtain ⟨e,he⟩:=sortedAll_at s.heap (ps.map G0) (ps.map G0).toArray
  have es:srt mss=mss:=(qW (List.Perm.refl _) (by
   match mss,hlen with
   | [],_=>exact Mj
   | [_],_=>simp
   | _::_::_,hl=>simp at hl;lia)).symm
  exact ⟨.ref (s.heap.objs.size+1),_,I.laid (t':=s.toks) (o:=.lst (ps.map V.ref)) (fun b o e=>sortedAll_old e) (IP _) ⟨by rw [FV];exact hz,_,e,rv,he⟩,rfl,q _ ps (I.hok.fresh (IP _)) (by rw [es];exact ht)⟩
 ·have isT:∀p ms,SqT X.K H p (ms.map V.int)->Tim.IsT (Tim.bH (Tim.cu s.heap (ps.map G0)) (s.heap.objs.size+1) (ps.map G0)) (.ref p) ms:=fun p ms hp=>by
   obtain ⟨its,r1,⟨o,ho,hc,n,hd⟩,_⟩:=I.tuple hp
   exact ⟨p,its,rfl,⟨o,Tim.oD ho,hc,n,hd⟩,r1⟩
  have isT0:∀p ms,SqT X.K H p (ms.map V.int)->Tim.IsT s.heap (.ref p) ms:=fun p ms hp=>by
   obtain ⟨its,r1,t1,_⟩:=I.tuple hp
   exact ⟨p,its,rfl,t1,r1⟩
  obtain ⟨em,each⟩:=jD (fun p=>Tim.dec s.heap (.ref p)) ht fun p ms hp=>(isT0 p ms hp).dec
  have dd:∀p∈ps,Tim.dec (Tim.bH (Tim.cu s.heap (ps.map G0)) (s.heap.objs.size+1) (ps.map G0)) (.ref p)=Tim.dec s.heap (.ref p):=fun p hp=>(isT p _ (each p hp)).dec
  obtain ⟨fs,k1,k2,k3⟩:=mQ (h:=Tim.bH (Tim.cu s.heap (ps.map G0)) (s.heap.objs.size+1) (ps.map G0)) (fun a xs hx=>let ⟨its,r1,⟨o,ho,hc,n,hd⟩,_⟩:=I.tuple hx;⟨its,r1,⟨o,Tim.oD ho,hc,n,hd⟩⟩) ht hne
  refine Tim.ng (κ:=tuples' true) (O:=lexOrd) (key:=fun x=>Tim.dec (Tim.bH (Tim.cu s.heap (ps.map G0)) (s.heap.objs.size+1) (ps.map G0)) x.1)
   (P:=fun x=>∃ns,Tim.IsT (Tim.bH (Tim.cu s.heap (ps.map G0)) (s.heap.objs.size+1) (ps.map G0)) x.1 ns) pl.isList (by simp;lia) (by simpa using hz) (fun Q' hq=>?_) Tim.pZ (fun v hv=>?_) fun out pm pw=>?_
  ·refine PySem.W.kat_kind (T:=.type "int") k1 (by lia) (fun v hv=>?_) rfl ?_
   ·obtain ⟨i,t,rfl⟩:=k3 v hv
    exact PySem.W.Looks.of_pure rfl
   ·rw [show ((Me "int") != Me "tuple")=true by decide +kernel]
    exact hq
  ·obtain ⟨p,hp,rfl⟩:=List.mem_map.mp hv
   exact ⟨_,isT p _ (each p hp)⟩
  ·have pa:(out.map adr).Perm ps:=by
    have:=pm.map adr
    rw [GP] at this
    simpa [adr,Kv] using this
   have eo:out=(out.map adr).map G0:=by
    rw [GP]
    conv=>lhs;rw [<- MP out]
    refine Hk fun v hv=>?_
    obtain ⟨p,_,rfl⟩:=List.mem_map.mp (pm.mem_iff.mp hv)
    rfl
   have hin:∀p∈out.map adr,p∈ps:=fun p hp=>pa.mem_iff.mp hp
   have es:(out.map adr).map (fun p=>Tim.dec s.heap (.ref p))=srt mss:=by
    refine qW ?_ ?_
    ·rw [<- em];exact pa.map _
    ·rw [IU,IU]
     refine Jg (fun {x y} hx hy z=>?_) pw
     obtain ⟨p,hp,rfl⟩:=List.mem_map.mp (pm.mem_iff.mp hx)
     obtain ⟨p',hp',rfl⟩:=List.mem_map.mp (pm.mem_iff.mp hy)
     have z:HT.lexLt (Tim.dec _ (.ref p')) (Tim.dec _ (.ref p))=false:=z
     rw [dd p hp,dd p' hp'] at z
     show lexLe (Tim.dec s.heap (.ref p)) (Tim.dec s.heap (.ref p'))=true
     unfold lexLe
     rw [z];rfl
   obtain ⟨e,he⟩:=sortedAll_at s.heap (ps.map G0) out.toArray
   rw [eo] at he
   refine ⟨.ref (s.heap.objs.size+1),upd H (s.heap.objs.size+1) (.lst ((out.map adr).map V.ref)),I.laid (t':=s.toks) (o:=.lst ((out.map adr).map V.ref)) (fun b o e=>sortedAll_old e) (IP _) ⟨by rw [FV,pa.length_eq];exact hz,_,e,jo _,?_⟩,rfl,q _ _ (I.hok.fresh (IP _)) ?_⟩
   ·rw [<- eo] at he ⊢;exact he
   ·rw [<- es];exact oE _ fun p hp=>each p (hin p hp)
end L2
end
section
namespace VL
open PySem L2
section
variable {K:FO} {X:Cx} {m:Bool} {e:Expr} {es:List Expr} {tr:TA} {vr:VTA} {x:Str} {p0 p pos:Pos} {j k:Nat} {ps:List Str} {S:List Sl} {QN:List D->List Sl->Prop}
def nj (vr:VTA):VTN:=fun S Q=>vr S fun rs S1=>∃r mss,rs=[r]/\get S1 r=some (eL mss)/\(∀ms∈mss,ms≠[])/\Q ((srt mss).map eT) S1
theorem tI (hK:X.K=K) (hex:X.ex=[]) (hg:Gl X "sorted") (hm:X.mg "sorted"=none) (hb:G2 "sorted"=some (.builtin "sorted")) (ha:VA K X false [e] tr vr) (he:Gi [e] X.env=[(false,eval e X.env)]:=by rfl) :
  VN K X (.Call (.Name "sorted" p) [e] [] pos) (tCB (nh K) tr) (nj vr):=
 ⟨by subst hK;exact fI iP hg hm hb ha.pe (by decide) (by decide) he rfl,fun H0 Z σ H S Q C k t hc=>ha.snd H0 Z σ H S _ _ k t fun vs H1 rs S1 k1 st1 rrs zq1=>by
  obtain ⟨r,mss,e1,e2,h1,q⟩:=zq1
  subst e1
  obtain ⟨v,rfl,rv⟩:=rrs.one
  obtain ⟨a,ys,rfl,hq,rr⟩:=rv.elems k1 e2
  obtain ⟨ps,rfl,ht,_⟩:=gc rr
  exact ⟨a,ps,mss,rfl,hq,ht,h1,fun l ps' hl ht'=>hc l _ _ H1 _ S1 k1 st1 hl (aQ hl) az (bJ hl (dM k1.tupN ht')) q⟩⟩
def tJ (QN:List D->List Sl->Prop):List VR->List Sl->Prop:=fun rs S1=>∃r mss,rs=[r]/\get S1 r=some (eL mss)/\(∀ms∈mss,ms≠[])/\QN ((srt mss).map eT) S1
theorem wJ (h:vr S (tJ QN)):nj vr S QN:=h
theorem tK (e:get S r=some (eL mss)) (h1:∀ms∈mss,ms≠[]) (h:QN ((srt mss).map eT) S):tJ QN [r] S:=⟨r,mss,rfl,e,h1,h⟩
variable {va:VT}
end
end VL
end
section
namespace L2
open PySem PySem.Spec PyProof.Rows
section
variable {prog:GD} {w:Hg} {A:Ho} {E:FU->FW->Prop} {s:FW}
def KyIt (h:Heap) (it d:Addr) (i n ep:Nat):Prop:=h.get? it=some { cls:=.type "dict_keyiterator",data:=.fields #[.ref d,.int i 0,.int n 0,.int ep 0] }
theorem p6:JQ "dict_keyiterator"=false:=by decide
theorem gO {it:Addr} {Q:Nat->FW->Prop} (ty:s.TypeIs (.ref it) "dict_keyiterator") (h:Q 0 s) :
  GU (GM prog w) A (typeNameOfWhole (.ref it) >>= fun n=>pure (if JQ n=true then 2 else 0)) Q E s:=
 FR (wpAny_typeNameOfWhole_keyiter ty (F7 (by rw [p6];exact h)))
theorem wK {it d:Addr} {i ep:Nat} {o:Obj} {es:Array JW} {Q:Option FU->FW->Prop} (hit:KyIt s.heap it d i es.size ep) (ho:s.heap.get? d=some o) (hd:o.data=.dict es ep) (hi:i < es.size)
  (hQ:∀h',KyIt h' it d (i+1) es.size ep->(∀b u,b≠it->s.heap.get? b=some u->h'.get? b=some u)->Q (some es[i].key) { s with heap:=h' }):GU (GM prog w) A (Mz (.ref it)) Q E s:=by
 have ty:s.TypeIs (.ref it) "dict_keyiterator":=⟨_,hit,rfl⟩
 unfold Mz
 refine FR (JO (Jp (name:=Lk "__next__") ty F.slot_dict_keyiterator_next (Jc F.slot_dict_keyiterator_next ty F.entry_dict_keyiterator_next ?_ (F.args_dict_keyiterator_next_1 _))))
 refine FR (F7 (FR (FR (gO ty (FR (wpAny_fieldsOf hit rfl ?_))))))
 show GU _ _ (if (G0 d==Hh)=true then _ else _) _ _ s
 rw [if_neg (fun z:(G0 d==Hh)=true=>F4 z)]
 refine FR (F7 (FR (Jx ho hd ?_)))
 rw [if_neg (by simp)]
 refine FR (F7 (FR (Ll ho hd ?_)))
 rw [if_neg (by simp)]
 refine F7 ?_
 have hx:(if ((i:Nat):Int) < 0 then none else es[((i:Nat):Int).toNat]?)=some es[i]:=by rw [if_neg (by lia),G7];exact Io hi
 dsimp only
 rw [hx]
 refine FR (gO ty (FR (Lm ty (FR (wpAny_setField_rec hit (k:=1) (by simp) fun g e b=>?_)))))
 have e':KyIt g it d (i+1) es.size ep:=by
  have z:((i+1:Nat):Int)=(i:Int)+1:=by lia
  unfold KyIt;rw [z];exact e
 refine FR (Hn (FR (Lm (s:={ s with heap:=g }) ⟨_,e',rfl⟩ ?_)))
 exact F7 (F7 ⟨_,rfl,F7 (hQ g e' fun c u hn z=>(b.2 c hn).trans z)⟩)
theorem BU {it d:Addr} {i ep:Nat} {o:Obj} {es:Array JW} {Q:Option FU->FW->Prop} (hh:A.handled=none) (hit:KyIt s.heap it d i es.size ep) (ho:s.heap.get? d=some o) (hd:o.data=.dict es ep) (hi:es.size<=i)
  (hQ:∀h',Heap.ExtBut it s.heap h'->Q none { s with heap:=h' }):GU (GM prog w) A (Mz (.ref it)) Q E s:=by
 have ty:s.TypeIs (.ref it) "dict_keyiterator":=⟨_,hit,rfl⟩
 unfold Mz
 refine FR (JO (Jp (name:=Lk "__next__") ty F.slot_dict_keyiterator_next (Jc F.slot_dict_keyiterator_next ty F.entry_dict_keyiterator_next ?_ (F.args_dict_keyiterator_next_1 _))))
 refine FR (F7 (FR (FR (gO ty (FR (wpAny_fieldsOf hit rfl ?_))))))
 show GU _ _ (if (G0 d==Hh)=true then _ else _) _ _ s
 rw [if_neg (fun z:(G0 d==Hh)=true=>F4 z)]
 refine FR (F7 (FR (Jx ho hd ?_)))
 rw [if_neg (by simp)]
 refine FR (F7 (FR (Ll ho hd ?_)))
 rw [if_neg (by simp)]
 refine F7 ?_
 have hx:(if ((i:Nat):Int) < 0 then none else es[((i:Nat):Int).toNat]?)=none:=by rw [if_neg (by lia),G7];exact K3 hi
 dsimp only
 rw [hx]
 refine FR (gO ty (FR (wpAny_setField hit rfl (by simp) ?_)))
 unfold newExc newTuple
 refine FR (FR (HC (FR (m:=firstArgMember _ _) (wpAny_of_eq (a:=Hh) (by first | rfl | (simp only [firstArgMember];rfl)) (HC (wpAny_raiseNew_none (show A.in1.handled=none from hh) ?_) (by size_fits)))) (by size_fits)))
 refine FR (wpAny_isInstance (b:=true) (T:="StopIteration") ⟨_,Gn _ rfl,rfl⟩ isSubtype_stop (F7 (hQ _ ?_)))
 intro b u hn e
 exact FT _ (FT _ (((J7 ..).2 b hn).trans e))
theorem wL {d:Addr} {o:Obj} {es:Array JW} {ep:Nat} {Q:FU->FW->Prop} (ty:s.TypeIs (.ref d) "dict") (hs:(d==Iq)=false) (ho:s.heap.get? d=some o) (hd:o.data=.dict es ep)
  (h:Q (.ref s.heap.objs.size) { s with heap:=s.heap.push { cls:=.type "dict_keyiterator",data:=.fields #[.ref d,.int 0 0,.int es.size 0,.int ep 0] } }):GU (GM prog w) A (MA (.ref d)) Q E s:=by
 refine wpAny_pyIter_slot ty F.slot_dict_iter (Jc F.slot_dict_iter ty F.entry_dict_iter (FR (FR (wpAny_notOrdered_dict ty (F7 ?_)))) (F.args_dict_iter_1 _))
 refine FR (m:=Ln d) ?_
 unfold Ln
 rw [if_neg (by rw [hs];exact F4)]
 refine F7 (FR (Jx ho hd (FR (Ll ho hd (FR (HC (F7 ⟨_,rfl,"dict_keyiterator",_,⟨_,Gn _ rfl,rfl⟩,F.slot_dict_keyiterator_next.lookup,?_⟩)))))))
 simpa [rawInt] using h
end
end L2
end
section
namespace VL
open PySem L2
section
variable {K:FO} {X:Cx} {stm:Stmt} {ts:TS} {t:VTS}
theorem oF:∀{S:List Sl} {i:Nat} {ks:List (List Int)} {ds:List D},S[i]?=some (.odi ks ds)->Wk S (S.set i (.val (.dic ks ds)))
 | [],i,_,_,h=>by simp at h
 | s::r,0,ks,ds,h=>by
  have e:s=.odi ks ds:=by simpa using h
  subst e
  exact .fd (Wk.refl r)
 | s::r,i+1,ks,ds,h=>Wk.keep (oF (by simpa using h))
end
end VL
end
section
namespace L2
open PySem PySem.Spec PyProof.Rows
section
variable {X:Cx}
def oG (K:FO):V->V->Hp->VK->Prop:=fun x y H Q=>∃b a ms es v,y=.ref b/\x=.ref a/\SqN K H b ms/\(∃ob,H a=some (ck a ob es))/\cD K H es/\atE es ms=some v/\Q v H
theorem wM (hu:X.A.units+64 < KG):zY X (oG X.K):=by
 rintro pins s σ H o i ov iv Q I r1 r2 ⟨b,a,ms,es,v,ey,ex,h1,⟨ob,h2⟩,h3,hv,q⟩
 subst ex;subst ey
 cases r1;cases r2
 obtain ⟨z,m,nd,xs,ev,dd⟩:=ke I h2 h3
 have r:=ev.at_ ms
 rw [hv] at r
 cases h5:Nc xs ms with
 | none=>rw [h5] at r;exact r.elim
 | some p=>
  rw [h5] at r
  exact wpAny_getItem_heap (Kg (by lia)) (eY I h1) dd h5 ⟨v,H,I.tok _,r,q⟩
end
end L2
end
section
namespace L2
open PySem PySem.Spec PyProof.Rows PySem.W
theorem tL {prog:GD} {w:Hg} {d:Addr} {ob:Obj} {ds:Array JW} {ep:Nat} (lo:(d==Iq)=false) (hc:ob.cls=.type "dict") (hob:ob.data=.dict ds ep) :
  KdlSrc prog w "dict" d d ds.size (fun i v=>∃h:i < ds.size,v=ds[i].key) (fun h=>h.get? d=some ob) where
 type:=fun _ hm=>⟨_,hm,hc⟩
 there:=fun _ hm=>⟨Gg hm,Gg hm⟩
 keep:=fun _ _ hm hk=>hk d (.inl rfl) _ hm
 notList:=by decide
 notTuple:=by decide
 hint:=fun _ _ _ _ hm hq=>kdl_hint_dict ⟨_,hm,hc⟩ hq
 iter:=fun A s hh hm=>by
  have ne:d≠s.heap.objs.size:=GO (Gg hm)
  refine ⟨_,fun i h=>KyIt h s.heap.objs.size d i ds.size ep/\h.get? d=some ob,fun E Q hq=>wL ⟨_,hm,hc⟩ lo hm hob hq,?_,Gn _ rfl,FT _ hm⟩
  constructor
  ·intro b hb
   exact List.mem_cons.mpr (.inl (List.mem_singleton.mp hb))
  ·rintro i h h' ⟨st1,st2⟩ hk
   exact ⟨hk _ (by simp) _ st1,hk _ (by simp) _ st2⟩
  ·rintro i s2 Q E hi ⟨st1,st2⟩ hQ
   exact wK st1 st2 hob hi fun h' a1 a2=>hQ _ h' s2.toks ⟨hi,rfl⟩ ⟨a1,a2 d _ ne st2⟩ fun b o hb e=>a2 b o (fun z=>hb (List.mem_singleton.mpr z)) e
  ·rintro s2 Q E ⟨st1,st2⟩ hQ
   exact BU hh st1 st2 hob (FX _) fun h' eb=>hQ h' s2.toks fun b o hb e=>eb b o (fun z=>hb (List.mem_singleton.mpr z)) e
  ·rintro i s2 Q E ⟨st1,st2⟩ hq
   exact wpAny_pyIter_keyiter ⟨_,st1,rfl,rfl⟩ hq
theorem p8 {xs:List (List Int×Addr×FU)} (ev:EV es xs):Vals (es.map fun e=>V.ref e.2.1) (xs.map fun x=>G0 x.2.1):=by
 induction ev with
 | nil=>exact .nil
 | cons r _ ih=>exact .cons (by dsimp only;rw [r.2.1];rfl) ih
theorem p9 {n:Nat} {P:Nat->FU->Prop} {acc:Array FU} {l:List FU} (h:Mn P acc n) (hl:l.length=n) (hp:∀i v,P i v->l[i]?=some v):acc.toList=l:=by
 refine Ig fun i=>?_
 by_cases hi:i < acc.size
 ·have e:acc.toList[i]?=some acc[i]:=by rw [Hu,Io hi]
  rw [e,hp i _ (h.2 i _ (Io hi))]
 ·have hs:acc.size=n:=h.1
  rw [Ht (by simpa using hi),Ht (by lia)]
section
variable {X:Cx}
def rLK:List V->Hp->VK->Prop:=fun xs H Q=>∃d ob es,xs=[.ref d]/\H d=some (ck d ob es)/\∀l,H l=none->Q (.ref l) (upd H l (.lst (es.map fun e=>V.ref e.2.1)))
theorem nk (hc:X.calm=true):cg X (.type "list") rLK:=by
 rintro pins s σ H xs us Q I rr ⟨d,ob,es,e,hd,q⟩
 subst e
 obtain ⟨u,rfl,rx⟩:=vals1 rr
 cases rx
 obtain ⟨⟨z,m,nd,xs,ev,o',ds,ep,g1,g2,g3,g4⟩,g5⟩:=jX I hd
 rw [g5] at g1;cases g1
 have hds:ds.size=xs.length:=by have:=congrArg KH g4;simpa using this
 have hxl:=Jh ev
 refine kdl_call (tL m g2.1 g3) (I.ok.hd hc) g5 (by lia) fun h' tk acc c' hk hS hacc=>?_
 have ea:acc.toList=xs.map fun x=>G0 x.2.1:=p9 hacc (by simp;lia) fun i v ⟨hi,e⟩=>by
  have h1:ds.toList[i]?=some (ds[i]'hi):=by rw [Hu,Io hi]
  rw [g4,Gk] at h1
  rw [Gk]
  cases hx:xs[i]? with
  | none=>rw [hx] at h1;cases h1
  | some x=>
   rw [hx] at h1
   rw [e,<- Gx h1]
   rfl
 refine ⟨.ref s.heap.objs.size,_,I.laid (t':=tk) hk (FX _) (show br X.prog X.w _ h' _ (.lst (es.map fun e=>V.ref e.2.1)) from ⟨by rw [FV];exact z,acc.toList,c',by rw [ea];exact p8 ev,by simpa using hS⟩),rfl,q _ (I.hok.fresh (FX _))⟩
end
end L2
namespace VL
open PySem L2
section
variable {K:FO} {X:Cx} {e:Expr} {tr:TA} {vr:VTA} {S:List Sl} {QN:List D->List Sl->Prop} {p pos:Pos}
def tM (vr:VTA):VTN:=fun S Q=>vr S fun rs S1=>∃kvs,rs=[.d (dc kvs)]/\Q ((kvs.map (·.1)).map kT) S1
theorem mj (hc:X.calm=true) (hg:Gl X "list") (hm:X.mg "list"=none) (ha:VA K X false [e] tr vr) (he:Gi [e] X.env=[(false,eval e X.env)]:=by rfl):VN K X (.Call (.Name "list" p) [e] [] pos) (tCB rLK tr) (tM vr):=
 ⟨du (nk hc) hg hm jW ha.pe (by decide) (by decide) he rfl,fun H0 Z σ H S Q C k t hcc=>ha.snd H0 Z σ H S _ _ k t fun vs H1 rs S1 k1 st1 rrs zq1=>by
  obtain ⟨kvs,e1,q⟩:=zq1
  subst e1
  obtain ⟨v,rfl,rv⟩:=rrs.one
  have rr:Rep K _ _ H1 v (.dic (kvs.map (·.1)) (kvs.map (·.2))):=rv
  cases rr with
  | @dic a ob es _ _ n f hh ek rk r=>
  exact ⟨a,ob,es,rfl,hh,fun l hl=>hcc l _ _ H1 _ S1 k1 st1 hl (aQ hl) az (eX hl (by simpa using rk) (et _)) q⟩⟩
def tN (QN:List D->List Sl->Prop):List VR->List Sl->Prop:=fun rs S1=>∃kvs,rs=[.d (dc kvs)]/\QN ((kvs.map (·.1)).map kT) S1
theorem wN (h:vr S (tN QN)):tM vr S QN:=h
theorem tO (h:QN ((kvs.map (·.1)).map kT) S):tN QN [.d (dc kvs)] S:=⟨kvs,rfl,h⟩
end
end VL
end
section
namespace VL
open PySem L2
section
variable {K:FO} {X:Cx} {c e tg:Expr} {a:List Stmt} {tc:TT} {vt:VTT} {ta:TS} {wi:TI} {vi:VTN} {j:Nat} {pos ipos:Pos} {S:List Sl}
def iQ:Sl->Sl
 | .own ds=>.val (.lst ds)
 | .odi ks ds=>.val (.dic ks ds)
 | .pen _ _=>.no
 | .obj _=>.no
 | s=>s
def lend (S:List Sl):List Sl:=S.map iQ
theorem cw:∀S:List Sl,Wk S (lend S)
 | []=>.nil
 | s::r=>by
  cases s with
  | own ds=>exact .fz (cw r)
  | odi ks ds=>exact .fd (cw r)
  | pen ad ns=>exact .drop (cw r)
  | obj k=>exact .drop (cw r)
  | no=>exact .keep (cw r)
  | val d=>exact .keep (cw r)
  | fre d=>exact .keep (cw r)
def kz (S:List Sl):Prop:=∀(i:Nat) (s:Sl),S[i]?=some s->s.mut=false
theorem eZ (S:List Sl):kz (lend S):=fun i s h=>by
 unfold lend at h
 rw [Gk] at h
 cases hs:S[i]? with
 | none=>rw [hs] at h;cases h
 | some t=>
  rw [hs] at h
  obtain rfl:=Gx h
  cases t <;> rfl
theorem kz.set (h:kz S) {j:Nat} {s:Sl} (hs:s.mut=false):kz (S.set j s):=fun i t e=>by
 by_cases e1:j=i
 ·subst e1
  rw [List.getElem?_set_self'] at e
  cases hr:S[j]? with
  | none=>rw [hr] at e;cases e
  | some z=>rw [hr] at e;obtain rfl:=Gx e;exact hs
 ·rw [Gh e1] at e;exact h i t e
theorem kz.mo (h:kz S) {b:Addr}:Mo Z σ S b↔Z b:=
 ⟨fun m=>by
  rcases m with ⟨k,t,h1,h2,_⟩ | m
  ·rw [h k t h1] at h2;cases h2
  ·exact m,.inr⟩
theorem kz.grow (h:kz S) {H H':Hp} {σ σ':St} {S':List Sl} (st:Step Z σ S H σ' S' H'):∀b,H b≠none->H' b=H b:=fun b hb=>by
 by_cases z:Z b
 ·exact st.2.2 b z hb
 ·exact (st.1 b (fun m=>z (h.mo.mp m)) hb).1
theorem OK.setNo {H0 H:Hp} {v:L2.V} (k:OK K H0 Z σ H S) (hj:j < S.length):OK K H0 Z (σ.set j (some v)) H (S.set j .no)/\Step Z σ S H (σ.set j (some v)) (S.set j .no) H:=by
 have n:∀b,NM Z σ S b->NM Z (σ.set j (some v)) (S.set j .no) b:=fun b x z=>by
  rcases fy z with z | ⟨z,_⟩
  ·exact x z
  ·cases z
 exact ⟨k.put hj (fun b x _=>⟨n b x,rfl⟩) (fun _ _ _ _ _ _ _=>rfl) trivial (fun _ _ _ _ _ _ z=>nomatch z) (fun _ e=>e) k.zl (fun _ z=>nomatch z),fun b x _=>⟨rfl,n b x⟩,fun _ e=>e,fun _ _ _=>rfl⟩
end
end VL
end
section
namespace VL
open PySem L2
def At (P:AP):FP:=fun o=>∃b,o=some b/\P b
abbrev ZP (Z P:AP):AP:=fun b=>Z b\/P b
section
variable {K:FO} {N N':AP} {F:FP} {H H' H0:Hp} {Z P:AP} {σ σ':St} {S S':List Sl}
mutual
theorem Rep.mark {v:L2.V} {d:D}:Rep K N F H v d->Rep K N (fun o=>F o/\∀a,o=some a->N a/\IsM (H a)) H v d
 | .int i=>.int i
 | .bl i=>.bl i
 | .non=>.non
 | .str i=>.str i
 | .ty i=>.ty i
 | .tup n h r=>.tup n h (Reps.mark r)
 | .tupK h r=>.tupK h (Reps.mark r)
 | .lst n f h r=>.lst n ⟨f,fun a e=>by cases e;exact ⟨n,by rw [h];trivial⟩⟩ h (Reps.mark r)
 | .lstF n f h r=>.lstF n ⟨f,fun a e=>nomatch e⟩ h (Reps.mark r)
 | .lstK f h r=>.lstK ⟨f,fun a e=>nomatch e⟩ h (Reps.mark r)
 | .dic n f h e rk r=>.dic n ⟨f,fun a e=>by cases e;exact ⟨n,by rw [h];trivial⟩⟩ h e (Reps.mark rk) (Reps.mark r)
 | .exc n h e=>.exc n h e
 | .oth (k:=k) h=>.oth (k.both (fun a n m f=>⟨f,fun b e=>by cases e;exact ⟨n,m⟩⟩) (fun f=>⟨f,fun a e=>nomatch e⟩) h)
 | .dib n f h e g rk r=>.dib n ⟨f,fun a e=>by cases e;exact ⟨n,by rw [h];trivial⟩⟩ h e g (Reps.mark rk) (Reps.mark r)
theorem Reps.mark {vs:List L2.V} {ds:List D}:Reps K N F H vs ds->Reps K N (fun o=>F o/\∀a,o=some a->N a/\IsM (H a)) H vs ds
 | .nil=>.nil
 | .cons h t=>.cons (Rep.mark h) (Reps.mark t)
end
theorem OK.growP (k:OK K H0 Z σ H S) (h:∀a,H a≠none->H' a=H a) (hP:∀b,P b->H b=none/\IsM (H' b)):OK K H0 (ZP Z P) σ H' S:=by
 have nm:∀a,NM Z σ S a->H a≠none->NM (ZP Z P) σ S a:=fun a n e z=>by
  rcases z with z | z | z
  ·exact n (.inl z)
  ·exact n (.inr z)
  ·exact e (hP a z).1
 have hm:∀a,NM Z σ S a->H a≠none->NM (ZP Z P) σ S a/\H' a=H a:=fun a n e=>⟨nm a n e,h a e⟩
 refine ⟨k.len,fun i o s e1 e2=>?_,k.inj,fun a e=>k.dom a (GF fun z=>by rw [h a z] at e;exact z e),fun a z=>?_,fun i s a h1 h2 h3 z=>?_⟩
 ·have q:=k.at_ i o s e1 e2
  cases s with
  | no=>trivial
  | val d=>obtain ⟨v,e,r⟩:=q;exact ⟨v,e,r.mono hm fun _ x=>x⟩
  | fre d=>obtain ⟨v,e,r⟩:=q;exact ⟨v,e,r.mono hm fun _ x=>x⟩
  | own ds=>obtain ⟨a,vs,e,e',e0,r⟩:=q;exact ⟨a,vs,e,by rw [h a (by simp [e'])];exact e',e0,r.mono hm fun _ x=>x⟩
  | pen ad ns=>obtain ⟨a,e,e1,e'⟩:=q;exact ⟨a,e,e1,by rw [h a (by simp [e'])];exact e'⟩
  | odi ks ds=>obtain ⟨a,vs,e,⟨ob,e'⟩,e0,ek,r⟩:=q;exact ⟨a,vs,e,⟨ob,by rw [h a (by simp [e'])];exact e'⟩,e0,⟨ek.1,ek.2.mono hm fun _ x=>x⟩,r.mono hm fun _ x=>x⟩
  | obj k=>obtain ⟨a,e,e0,r⟩:=q;exact ⟨a,e,e0,k.mono hm (h a (k.ism r).ne) r⟩
 ·rcases z with z | z
  ·have e:=k.zl a z
   rw [h a e.ne];exact e
  ·exact (hP a z).2
 ·rcases z with z | z
  ·exact k.nz i s a h1 h2 h3 z
  ·exact (k.mo (.inl ⟨i,s,h1,h2,h3⟩)).ne (hP a z).1
theorem oH {a:Addr} (n:NM (ZP Z P) σ S a):NM Z σ S a:=fun z=>n (z.elim .inl fun y=>.inr (.inl y))
theorem OK.chP (k:OK K H0 (ZP Z P) σ H S) (h:∀a,H a≠none->¬P a->H' a=H a) (hd:∀a,H' a=none->H a=none) (dj:∀b,P b->¬Z b):OK K H0 Z σ H' S:=by
 have hm:∀a,NM (ZP Z P) σ S a->H a≠none->NM Z σ S a/\H' a=H a:=fun a n e=>⟨oH n,h a e fun z=>n (.inr (.inr z))⟩
 have np:∀(i:Nat) (s:Sl) (a:Addr),S[i]?=some s->s.mut=true->σ[i]?=some (some (L2.V.ref a))->¬P a:=fun i s a h1 h2 h3 z=>k.nz i s a h1 h2 h3 (.inr z)
 refine ⟨k.len,fun i o s e1 e2=>?_,k.inj,fun a e=>k.dom a (hd a e),fun a z=>?_,fun i s a h1 h2 h3 z=>k.nz i s a h1 h2 h3 (.inl z)⟩
 ·have q:=k.at_ i o s e1 e2
  cases s with
  | no=>trivial
  | val d=>obtain ⟨v,e,r⟩:=q;exact ⟨v,e,r.mono hm fun _ x=>x⟩
  | fre d=>obtain ⟨v,e,r⟩:=q;exact ⟨v,e,r.mono hm fun _ x=>x⟩
  | own ds=>obtain ⟨a,vs,e,e',e0,r⟩:=q;exact ⟨a,vs,e,by rw [h a (by simp [e']) (np i _ a e2 rfl (by rw [e1,e]))];exact e',e0,r.mono hm fun _ x=>x⟩
  | pen ad ns=>obtain ⟨a,e,e3,e'⟩:=q;exact ⟨a,e,e3,by rw [h a (by simp [e']) (np i _ a e2 rfl (by rw [e1,e]))];exact e'⟩
  | odi ks ds=>obtain ⟨a,vs,e,⟨ob,e'⟩,e0,ek,r⟩:=q;exact ⟨a,vs,e,⟨ob,by rw [h a (by simp [e']) (np i _ a e2 rfl (by rw [e1,e]))];exact e'⟩,e0,⟨ek.1,ek.2.mono hm fun _ x=>x⟩,r.mono hm fun _ x=>x⟩
  | obj kk=>obtain ⟨a,e,e0,r⟩:=q;exact ⟨a,e,e0,kk.mono hm (h a (kk.ism r).ne (np i _ a e2 rfl (by rw [e1,e]))) r⟩
 ·have e:=k.zl a (.inl z)
  by_cases p:P a
  ·exact absurd z (dj a p)
  ·rw [h a e.ne p];exact e
def lendF:Sl->Sl
 | .fre d=>.val d
 | s=>iQ s
theorem iR (S:List Sl):kz (S.map lendF):=fun i s h=>by
 rw [Gk] at h
 cases hs:S[i]? with
 | none=>rw [hs] at h;cases h
 | some t=>
  rw [hs] at h
  obtain rfl:=Gx h
  cases t <;> rfl
theorem OK.lendF (k:OK K H0 Z σ H S):OK K H Z σ H (S.map VL.lendF):=by
 have il:=iR S
 have kl:=(k.wk (cw S)).1
 have inz:=eZ S
 refine ⟨by rw [k.len,FV],fun i o s e1 e2=>?_,fun i j a s t h1 _ m=>?_,fun _ e=>e,k.zl,fun i s a h1 m=>?_⟩
 ·rw [Gk] at e2
  cases hs:S[i]? with
  | none=>rw [hs] at e2;cases e2
  | some t=>
   rw [hs] at e2
   obtain rfl:=Gx e2
   have q:=kl.at_ i o (iQ t) e1 (by unfold lend;rw [Gk,hs];rfl)
   have hm:∀a,NM Z σ (lend S) a->H a≠none->NM Z σ (S.map VL.lendF) a/\H a=H a:=fun a n _=>⟨fun z=>n (.inr (il.mo.mp z)),rfl⟩
   cases t with
   | no=>trivial
   | val d=>obtain ⟨v,e,r⟩:=q;exact ⟨v,e,r.mono hm fun _ x=>x⟩
   | fre d=>obtain ⟨v,e,r⟩:=q;exact ⟨v,e,r.mono hm fun _ _=>trivial⟩
   | own ds=>obtain ⟨v,e,r⟩:=q;exact ⟨v,e,r.mono hm fun _ x=>x⟩
   | pen ad ns=>trivial
   | odi ks ds=>obtain ⟨v,e,r⟩:=q;exact ⟨v,e,r.mono hm fun _ x=>x⟩
   | obj k=>trivial
 ·rw [il i s h1] at m;cases m
 ·rw [il i s h1] at m;cases m
structure Grd (K:FO) (H0:Hp) (Z P:AP) (σ1:St) (S1:List Sl) (H1:Hp) (σ:St) (H:Hp) (S:List Sl) (i:Nat) (nw:Prop) (v:L2.V) (d:D):Prop where
 inn:nw->∃a vs ds,v=.ref a/\d=.lst ds/\P a/\H a=some (.lst vs)/\Reps K (fun b=>(P b\/NM (ZP Z P) σ S b)/\b≠a) (At P) H vs ds
 ok:OK K H0 (ZP Z P) σ H S
 sv:σ[i]?=some (some v)
 sn:S[i]?=some .no
 rep:Rep K (fun b=>P b\/NM (ZP Z P) σ S b) (At P) H v d
 dj:∀b,P b->¬Z b
 yo:∀b,P b->H1 b=none
 st:Step Z σ1 S1 H1 σ S H
section
variable {σ1:St} {S1:List Sl} {H1:Hp} {i:Nat} {nw:Prop} {v:L2.V} {d:D}
theorem Grd.step (g:Grd K H0 Z P σ1 S1 H1 σ H S i nw v d) (k:OK K H0 (ZP Z P) σ' H' S') (st:Step (ZP Z P) σ S H σ' S' H') (e1:σ'[i]?=σ[i]?) (e2:S'[i]?=some .no):Grd K H0 Z P σ1 S1 H1 σ' H' S' i nw v d where
 inn:=fun hn=>by
  obtain ⟨a,vs,ds,e3,e4,hP,hl,r⟩:=g.inn hn
  refine ⟨a,vs,ds,e3,e4,hP,(st.2.2 a (.inr hP) (by rw [hl];exact fun z=>nomatch z)).trans hl,r.mono (fun b n e=>?_) fun _ x=>x⟩
  rcases n with ⟨p | n,ne⟩
  ·exact ⟨⟨.inl p,ne⟩,st.2.2 b (.inr p) e⟩
  ·exact ⟨⟨.inr (st.1 b n e).2,ne⟩,(st.1 b n e).1⟩
 ok:=k
 sv:=e1.trans g.sv
 sn:=e2
 rep:=g.rep.mono (fun a n e=>by
  rcases n with p | n
  ·exact ⟨.inl p,st.2.2 a (.inr p) e⟩
  ·exact ⟨.inr (st.1 a n e).2,(st.1 a n e).1⟩) fun _ x=>x
 dj:=g.dj
 yo:=g.yo
 st:=⟨fun a n e=>by
   obtain ⟨z1,z2⟩:=g.st.1 a n e
   obtain ⟨y1,y2⟩:=st.1 a (fun m=>by
    rcases m with m | m | m
    ·exact z2 (.inl m)
    ·exact z2 (.inr m)
    ·exact e (g.yo a m)) (by rw [z1];exact e)
   exact ⟨y1.trans z1,oH y2⟩,fun a e=>g.st.2.1 a (st.2.1 a e),fun a z e=>by
   have z1:=g.st.2.2 a z e
   exact (st.2.2 a (.inl z) (by rw [z1];exact e)).trans z1⟩
theorem Grd.look (g:Grd K H0 Z P σ1 S1 H1 σ H S i nw v d):OK K H0 Z σ H ((lend S).set i (.val d)):=by
 have k0:OK K H0 Z σ H S:=g.ok.chP (fun _ _ _=>rfl) (fun _ e=>e) g.dj
 have kl:=(k0.wk (cw S)).1
 have hi:i < (lend S).length:=by unfold lend;rw [FV];exact (List.getElem?_eq_some_iff.mp g.sn).1
 have:=(kl.setVal (i:=i) (v:=v) (d:=d) hi (g.rep.mono (fun a n _=>⟨fun z=>by
  have z:=(eZ S).mo.mp z
  rcases n with p | n
  ·exact g.dj a p z
  ·exact n (.inr (.inl z)),rfl⟩) fun _ _=>trivial)).1
 have e:σ.set i (some v)=σ:=by
  apply Ig
  intro j
  rw [KE]
  by_cases h:i=j
  ·subst h
   have hl:=(List.getElem?_eq_some_iff.mp g.sv).1
   rw [if_pos rfl,if_pos hl,g.sv]
  ·rw [if_neg h]
 rw [e] at this
 exact this
end
abbrev VTG:=D->bz->List Sl->Prop
def EL (K:FO) (i:Nat) (nw:Prop) (ts:TS) (t:VTG):Prop:=∀H0 Z P σ1 S1 H1 σ H S v d V E,Grd K H0 Z P σ1 S1 H1 σ H S i nw v d->t d V S->Lf K H0 Z σ1 S1 H1 V E->ts E σ H
structure GSs (K:FO) (X:Cx) (i:Nat) (nw:Prop) (sts:List Stmt) (ts:TS) (t:VTG):Prop where
 ps:PSs X sts ts
 snd:EL K i nw ts t
end
section
variable {K:FO} {X:Cx} {i j:Nat} {nw:Prop} {e c o tg:Expr} {te:TE} {va:VT} {pos pos' ipos:Pos} {x:Str} {rest:List Stmt} {u:TS} {t:VTG} {w:VTS}
def FN (i:Nat) (va:VT) (t:VTG):VTS:=fun V S=>i < S.length/\va (S.map lendF) fun r S'=>S'=S.map lendF/\∃d,r=.d d/\t d V (S.set i .no)
theorem BV {H0 H H':Hp} {v:L2.V} (k:OK K H0 Z σ H S) (hil:i < S.length) (gr:∀a,H a≠none->H' a=H a) (rr:Rep K (NM Z σ (S.map lendF)) (Fr H) H' v d)
  (inn:nw->∃a vs ds,v=.ref a/\d=.lst ds/\H a=none/\H' a=some (.lst vs)/\Reps K (fun b=>NM Z σ (S.map lendF) b/\b≠a) (Fr H) H' vs ds) :
  Grd K H0 Z (fun b=>H b=none/\IsM (H' b)) σ S H (σ.set i (some v)) H' (S.set i .no) i nw v d:=by
 have hz:∀a,Z a->H a≠none:=fun a z=>(k.zl a z).ne
 obtain ⟨k2,st2⟩:=(k.growP (P:=fun b=>H b=none/\IsM (H' b)) gr fun _ p=>p).setNo (v:=v) hil
 have st1:=((Step.grow (Z:=Z) (σ:=σ) (S:=S) gr).trans ((k.grow gr).setNo (v:=v) hil).2)
 have old:∀a,Mo (ZP Z fun b=>H b=none/\IsM (H' b)) (σ.set i (some v)) (S.set i .no) a->(H a=none/\IsM (H' a))\/H a≠none:=fun a m=>by
  rcases fy m with m | ⟨m,_⟩
  ·rcases m with m | m | m
   ·exact .inr (k.mo (.inl m)).ne
   ·exact .inr (hz a m)
   ·exact .inl m
  ·cases m
 have fr:∀a,H a=none->(H a=none/\IsM (H' a))\/NM (ZP Z fun b=>H b=none/\IsM (H' b)) (σ.set i (some v)) (S.set i .no) a:=fun a ha=>by
  by_cases p:IsM (H' a)
  ·exact .inl ⟨ha,p⟩
  ·exact .inr fun m=>(old a m).elim (fun y=>p y.2) fun y=>y ha
 have mk:∀a,¬((H a=none/\IsM (H' a))\/NM (ZP Z fun b=>H b=none/\IsM (H' b)) (σ.set i (some v)) (S.set i .no) a)->IsM (H' a):=fun a n=>GF fun z=>n (.inr fun m=>z (k2.mo m))
 refine ⟨fun hn=>?_,k2,Gw (by rw [k.len];exact hil),Gw hil,?_,fun b p z=>hz b z p.1,fun b p=>p.1,st1⟩
 ·obtain ⟨a,vs,ds,e1,e2,ha,hl,r⟩:=inn hn
  refine ⟨a,vs,ds,e1,e2,⟨ha,by rw [hl];trivial⟩,hl,((r.mark.avoid (N':=fun b=>((H b=none/\IsM (H' b))\/NM (ZP Z fun b=>H b=none/\IsM (H' b)) (σ.set i (some v)) (S.set i .no) b)/\b≠a) (fun b n=>?_) fun b f=>?_).mono (fun _ n _=>⟨n,rfl⟩) fun o f=>?_)⟩
  ·by_cases e:b=a
   ·rw [e,hl];trivial
   ·exact mk b fun z=>n ⟨z,e⟩
  ·obtain ⟨⟨c,ec,hc⟩,f2⟩:=f
   cases ec
   exact ⟨fr b hc,(f2 b rfl).1.2⟩
  ·obtain ⟨⟨c,ec,hc⟩,f2⟩:=f
   exact ⟨c,ec,hc,(f2 c ec).2⟩
 ·refine (rr.mark.avoid mk fun b f=>?_).mono (fun _ n _=>⟨n,rfl⟩) fun o f=>?_
  ·obtain ⟨⟨c,ec,hc⟩,f2⟩:=f
   cases ec
   exact fr b hc
  ·obtain ⟨⟨c,ec,hc⟩,f2⟩:=f
   exact ⟨c,ec,hc,(f2 c ec).2⟩
theorem wO (hN:X.N.Nodup) (hi:X.N[i]?=some x) (hx:Loc X.env.scope x) (h:VE K X true e te va) (g:GSs K X i False rest u t) (hs:HJ e (some (.Name x pos')) pos.line X.env=pure false:=by rfl)
  (hf:X.fn x=true\/X.env.scope.names.lookup x=some .local:=by first | exact .inl rfl | exact .inr rfl | assumption):VSs K X (.Assign [.Name x pos'] e pos::rest) (mE (cQ te (aX i)) u) (FN i va t):=
 ⟨dr (bP hN hi hx h.pe hs hf) g.ps,fun H0 Z σ H S V E k zq l=>by
  obtain ⟨hil,zq⟩:=zq
  refine h.snd H Z σ H (S.map lendF) _ _ k.lendF zq fun v H' r S' k' st' rr zq1=>?_
  obtain ⟨e1,d,e2,q⟩:=zq1
  subst e1 e2
  exact g.snd H0 Z _ σ S H _ H' _ v d V E (BV k hil ((iR S).grow st') (Rep.mono (fun _ n _=>⟨n,rfl⟩) (fun _ f=>f rfl) rr) fun z=>z.elim) q l⟩
def gIf (i:Nat) (vt:VTT) (t:VTG):VTG:=fun d V S=>(vt ((lend S).set i (.val d)) fun b _=>b=false)/\t d V S
theorem BW {tc:TT} {vt:VTT} {a:List Stmt} {ta:TS} (ht:VTe K X c tc vt) (ha:PSs X a ta) (g:GSs K X i nw rest u t):GSs K X i nw (.If c a [] ipos::rest) (mE (uH tc ta nH) u) (gIf i vt t):=
 ⟨dr (qB ht.pe ha jP) g.ps,fun H0 Z P σ1 S1 H1 σ H S v d V E gd zq l=>ht.snd H0 Z σ H _ _ _ gd.look zq.1 fun b H' S' k' st' hb=>by
  have hb:b=false:=hb
  subst hb
  have gr:=((eZ S).set (s:=.val d) rfl).grow st'
  exact g.snd H0 Z P σ1 S1 H1 _ H' _ v d V E (gd.step (gd.ok.grow gr) (.grow gr) rfl gd.sn) zq.2 l⟩
end
end VL
end
section
namespace L2
open PySem PySem.Spec PyProof.Rows
theorem Inv.turned2 {X:Cx} {s:FW} {h':Heap} {t':Nat} {e it:Addr} (I:Inv X pins σ H s) (k:∀b o,b≠e->b≠it->s.heap.get? b=some o->h'.get? b=some o) (fe:d9 X pins H e) (fi:d9 X pins H it) :
  Inv X pins σ H { s with heap:=h',toks:=t' }:=by
 obtain ⟨e0,e1,_,e3,e4,e5⟩:=fe
 obtain ⟨i0,i1,_,i3,i4,i5⟩:=fi
 have ne:∀b u,H b=some u->b≠e:=fun b u q z=>by rw [z,e0] at q;cases q
 have ni:∀b u,H b=some u->b≠it:=fun b u q z=>by rw [z,i0] at q;cases q
 have kk:∀b o,b∉[e,it]->s.heap.get? b=some o->h'.get? b=some o:=fun b o hc q=>k b o (fun z=>hc (by simp [z])) (fun z=>hc (by simp [z])) q
 refine I.step (g':=s.gens) (d':=s.drawn) (ch:=[e,it]) (fun b hb=>?_) (fun b o _ _ hc q _=>kk b o hc q) (fun b o _ _ hc q _=>⟨o.slots,kk b o hc q⟩) (fun _ _ _ _ n=>n)
  (fun b o hc q=>⟨o,kk b o hc q⟩) (fun _ _ q=>q) (fun _ _ _ q=>q) (fun b ps q=>⟨#[],by rw [q];simp⟩) (fun m hm=>?_) (fun b u q=>?_) I.bare
 ·rcases List.mem_cons.mp hb with rfl | hb
  ·exact ⟨e3,e1,e4,e5⟩
  ·obtain rfl:=List.mem_singleton.mp hb
   exact ⟨i3,i1,i4,i5⟩
 ·obtain ⟨o,es,ep,ho,r⟩:=hm
  exact ⟨o,es,ep,k _ o (Ia e1) (Ia i1) ho,r⟩
 ·refine (I.hok b u q).stay (fun c v hc z=>k c v ?_ ?_ z) (fun _ z=>z) fun _ _ z=>z
  ·rcases hc with y | y
   ·rw [y];exact ne b u q
   ·exact ne c _ y
  ·rcases hc with y | y
   ·rw [y];exact ni b u q
   ·exact ni c _ y
def Ite (K:FO) (l:Addr):It:=
 ⟨fun i H=>∃xs x,SqL K H l xs/\xs[i]?=some x,fun i H x H'=>∃p,H p=none/\x=.ref p/\∀xs,SqL K H l xs->∃y,xs[i]?=some y/\H'=upd H p (.tup [.int i,y]),fun i H=>∃xs,SqL K H l xs/\xs.length<=i⟩
theorem qa {P:GD} {w:Hg} {elts:List Expr} {x1} {tp:Pos} (e it l:Addr) (hne:e≠it) :
  Turn P w K (.Tuple elts x1 tp) (Ite K l) [e,it] e (fun i h=>(∃old,IsEnum h e it i old)/\h.IsListIter it l i) where
 mem:=by simp
 obj:=fun i h zq b hb=>by
  obtain ⟨⟨old,st⟩,sl⟩:=zq
  rcases List.mem_cons.mp hb with rfl | hb
  ·exact ⟨_,st,fun v z=>by
    have z':MK _=Ji v:=z
    cases z'⟩
  ·obtain rfl:=List.mem_singleton.mp hb
   obtain ⟨o,q,c,d⟩:=sl
   exact ⟨o,q,fun v z=>by rw [d] at z;cases z⟩
 keep:=fun i h h' zq k=>by
  obtain ⟨⟨old,st⟩,sl⟩:=zq
  exact ⟨⟨old,k e (by simp) _ st⟩,sl.at fun o q=>k it (by simp) o q⟩
 item:=by
  intro X hP hw hK hc i pins s σ H E I hf zq hg
  subst hP hw hK
  obtain ⟨⟨old,st⟩,sl⟩:=zq
  obtain ⟨xs,x,hq,hx⟩:=hg
  obtain ⟨its,rv,p,hz⟩:=I.list hq
  obtain ⟨u,hu,ru⟩:=rv.get hx
  have fe:=hf e (by simp)
  have fi:=hf it (by simp)
  refine wpAny_pyNext_enum_item st sl p.isList (x:=u) (by simpa using hu) hne fun h' a1 a2 a3 a4 a5=>⟨_,rfl,wpAny_letOwnedTupleGo_enum (s:={ s with heap:=h',toks:=s.toks+1 }) a1 fun h2 b1 b2=>?_⟩
  have kb:∀b o,b≠e->h'.get? b=some o->h2.get? b=some o:=fun b o hb q=>(b2.2 b hb).trans q
  have I2:Inv X pins σ H { s with heap:=h2,toks:=s.toks+1 }:=I.turned2 (fun b o n1 n2 q=>kb b o n1 (a5 b o n1 n2 q)) fe fi
  have np:H s.heap.objs.size=none:=I.hok.fresh (FX _)
  obtain ⟨_,p1,_,p3,p4,p5⟩:=I.fpOk (H':=H) (b:=s.heap.objs.size) (FX _) np
  have ns:s.heap.objs.size≠e:=Mx (Gg st)
  have ni:s.heap.objs.size≠it:=by
   obtain ⟨o,q,_⟩:=id sl
   exact Mx (Gg q)
  refine ⟨.ref s.heap.objs.size,upd H s.heap.objs.size (.tup [.int i,x]),I2.track np I.sz p1 p4 p5 ⟨by rw [G9];exact GI rfl,[.int i s.toks,u],.cons ⟨_,rfl⟩ (.cons ru .nil),⟨_,kb _ _ ns a3,rfl,_,rfl⟩⟩,rfl,⟨_,np,rfl,fun ys hy=>⟨x,by rw [I.list_inj hy hq];exact hx,rfl⟩⟩,⟨⟨_,by simpa using b1⟩,a2.at fun o q=>kb it o (Ia hne) q⟩,fun b hb=>?_⟩
  rcases List.mem_cons.mp hb with rfl | hb
  ·rw [aw (Ia ns)];exact fe.1
  ·obtain rfl:=List.mem_singleton.mp hb
   rw [aw (Ia ni)];exact fi.1
 done:=by
  intro X hP hw hK hc i pins s σ H E I hf zq hg
  subst hP hw hK
  obtain ⟨⟨old,st⟩,sl⟩:=zq
  obtain ⟨xs,hq,hx⟩:=hg
  obtain ⟨its,rv,p,hz⟩:=I.list hq
  obtain ⟨f0,f1,f2,f3,f4,f5⟩:=hf it (by simp)
  have hl:=rv.length
  exact wpAny_pyNext_enum_end (I.ok.hd hc) st sl p.isList (K3 (by simp;lia)) fun h' eb=>⟨rfl,I.turned (t':=s.toks) (fun b o hb q=>eb b o hb q) f0 f1 f3 f4 f5⟩
 self:=fun _ _ _ _ _ zq h=>by
  obtain ⟨⟨old,st⟩,_⟩:=zq
  exact Mr st h
section
variable {X:Cx}
def yX (K:FO) (ta:TA):TI:=fun σ H R=>ta σ H fun vs H1=>∃l,vs=[.ref l]/\(∃xs,SqL K H1 l xs)/\R (Ite K l) H1
theorem wQ {a:Expr} {ta:TA} {p pos tp:Pos} {elts:List Expr} {x1} (hg:Gl X "enumerate") (hm:X.mg "enumerate"=none) (ha:PA X [a] ta) (hs:Gi [a] X.env=[(false,eval a X.env)]:=by rfl):PI X (.Tuple elts x1 tp) (.Call (.Name "enumerate" p) [a] [] pos) (yX X.K ta):=by
 intro pins s σ H R I h
 refine Call_ (d7 I hg hm boot_enumerate (Hs (thn (ha pos pins s σ H _ I h) fun us s1 zr1=>?_) hs rfl))
 obtain ⟨vs,H1,I1,r1,q1⟩:=zr1
 obtain ⟨l,e,⟨xs,hq⟩,q⟩:=q1
 subst e
 cases r1 with
 | cons r rr=>
  cases rr
  cases r
  obtain ⟨its,rv,pl,hz⟩:=I1.list hq
  refine call_enumerate_list pl.isList fun h' g1 g2 g3 g4=>?_
  have I2:Inv X pins σ H1 { s1 with heap:=h' }:=I1.kept (t':=s1.toks) g4
  refine Mr (s:={ s1 with heap:=h' }) g1 ⟨s1.heap.objs.size+1,[s1.heap.objs.size+1,s1.heap.objs.size],_,Ite X.K l,H1,rfl,I2,qa _ _ l (by lia),⟨⟨_,g1⟩,g2⟩,fun b hb=>?_,q⟩
  have hb':s1.heap.objs.size<=b:=by
   rcases List.mem_cons.mp hb with rfl | hb
   ·lia
   ·obtain rfl:=List.mem_singleton.mp hb
    exact FX _
  exact I1.fpOk hb' (I1.hok.fresh hb')
end
end L2
namespace VL
open PySem L2
section
variable {K:FO} {X:Cx} {a:Expr} {tr:TA} {vr:VTA} {S:List Sl} {QN:List D->List Sl->Prop} {p pos tp:Pos}
def enD (ds:List D):List D:=(FY ds.length).map fun (i:Nat)=>.tup [.int i,ds.getD i .non]
theorem wR (ds:List D):(enD ds).length=ds.length:=by simp [enD]
theorem BX {i:Nat} (h:ds[i]?=some d):(enD ds)[i]?=some (.tup [.int i,d]):=by
 obtain ⟨hi,e⟩:=List.getElem?_eq_some_iff.mp h
 simp [enD,hi,List.getD,e]
def yY (vr:VTA):VTN:=fun S Q=>vr S fun rs S1=>∃ds,rs=[.d (.lst ds)]/\Q (enD ds) S1
theorem oI {elts:List Expr} {x1} (hK:X.K=K) (hg:Gl X "enumerate") (hm:X.mg "enumerate"=none) (ha:VA K X false [a] tr vr) (hs:Gi [a] X.env=[(false,eval a X.env)]:=by rfl) :
  VI K X (.Tuple elts x1 tp) (.Call (.Name "enumerate" p) [a] [] pos) (yX K tr) (yY vr):=⟨by subst hK;exact wQ hg hm ha.pe hs,fun H0 Z σ H S Q C k t hc=>
 ha.snd H0 Z σ H S _ _ k t fun vs H1 rs S1 k1 st1 rrs zq1=>by
  obtain ⟨ds,e,q⟩:=zq1
  subst e
  obtain ⟨v,rfl,rv⟩:=rrs.one
  have rv:Rep K _ _ H1 v (.lst ds):=rv
  obtain ⟨l,xs,rfl,hq,_⟩:=rv.sqL
  refine ⟨l,rfl,⟨xs,hq⟩,hc _ (enD ds) H1 S1 k1 st1 (fun σ2 S2 H2 nm st2 i=>?_) q⟩
  obtain ⟨l',xs',e,hq2,r2⟩:=(rv.stp st2).sqL
  cases e
  rw [wR]
  refine ⟨fun hi=>?_,fun x H3 hy hi=>?_,fun hi=>⟨xs',hq2,by rw [r2.length];lia⟩⟩
  ·obtain ⟨y,h1,_⟩:=r2.getD (FS hi)
   exact ⟨xs',y,hq2,h1⟩
  ·obtain ⟨p,hp,rfl,hy⟩:=hy
   obtain ⟨y,h2,rfl⟩:=hy xs' hq2
   obtain ⟨d,h3,h4⟩:=r2.get h2
   have g:=aQ (o:=.tup [.int i,y]) hp
   exact ⟨g,_,BX h3,.tup (nm p hp) (.inl az) (.cons (.int _) (.cons (h4.mono (fun b n z=>⟨n,g b z⟩) fun _ _=>trivial) .nil))⟩⟩
def yZ (QN:List D->List Sl->Prop):List VR->List Sl->Prop:=fun rs S1=>∃ds,rs=[.d (.lst ds)]/\QN (enD ds) S1
theorem BY (h:vr S (yZ QN)):yY vr S QN:=h
theorem wU (h:QN (enD ds) S):yZ QN [.d (.lst ds)] S:=⟨ds,rfl,h⟩
end
end VL
end
section
namespace L2
open PySem PySem.Spec PyProof.Rows
theorem qb {n:Nat} {m j k c:Nat} (h:j < n) (h':k < n) (hc:c < n) (hj:c≠j) (hk:c≠k):gk n ix (uK K m (jd (aX j) (jd (aX k) uI))) (aX c):=fun x σ H Q q=>by
 obtain ⟨a,xs,e1,hq,hl,v,r,e2,v',r',e3,e4,q⟩:=gb h h' x σ H Q q
 refine ⟨a,xs,e1,hq,hl,v,r,e2,v',r',e3,e4,⟨⟨q.1,fun y H' Q' q'=>⟨⟨by simp,fun i v e=>?_⟩,q'⟩⟩,q.2⟩⟩
 by_cases hi:c=i
 ·subst hi
  rw [Gh (Ia hk),Gh (Ia hj)] at e
  exact (bN hc e).elim
 ·rw [Gh hi];exact e
def za:V->List V->Hp->VK->Prop:=fun x xs H Q=>∃i,x=.int i/\xs=[]/\Q (.int (GY i:Nat)) H
theorem wV {X:Cx}:MtR X "int.bit_length" za:=by
 rintro pins s σ H x xs v us Q I rx r ⟨i,e1,e2,q⟩
 subst e1;subst e2
 cases r
 obtain ⟨t,rfl⟩:=rx
 exact call_int_bit_length ⟨.int _,H,I.tok _,⟨_,rfl⟩,q⟩
end L2
namespace L2
open PySem PySem.Spec PyProof.Rows
def zb:V->V->Hp->VK->Prop:=fun x y H Q=>∃p xs i v,x=.ref p/\y=.int (i:Nat)/\H p=some (.lst xs)/\xs[i]?=some v/\Q v H
theorem wW {X:Cx}:zY X zb:=by
 rintro pins s σ H o i ov iv Q I r1 r2 ⟨p,xs,k,z,e1,e2,hp,hz,q⟩
 subst e1;subst e2
 cases r1
 obtain ⟨t,rfl⟩:=r2
 obtain ⟨its,r,pl,hl0⟩:=I.list (show SqL X.K H p xs from .inl (.inl hp))
 obtain ⟨u,hu,ru⟩:=r.get hz
 have hk:=(List.getElem?_eq_some_iff.mp hu).1
 have hn:=fw
 have hl:=r.length
 exact getItem_listL pl.isList (by lia) (by lia) (by simpa using hu) ⟨z,H,I,ru,q⟩
end L2
namespace VL
open PySem L2
section
variable {K:FO} {X:Cx} {m:Bool} {o ie e:Expr} {ti te ta:TE} {vi va:VT} {pos posS apos:Pos} {S:List Sl}
def EM (i:Nat) (vi va:VT):VTS:=fun V S=>vi S fun ri S1=>∃(ds:List D) (j:Nat) (x:Int),S1[i]?=some (.own ds)/\get S1 ri=some (.int j)/\ds[j]?=some (.int x)/\va S1 fun r S2=>∃n,r=.d (.int n)/\S2[i]?=some (.own ds)/\V.nx (S2.set i (.own (ds.set j (.int (x+n)))))
theorem wX (i:Nat) (ho:PE X o (cA i)) (hi:VE K X false ie ti vi) (h:VE K X false e te va)
  (ha:∀ov iv new,augStore ie ov iv new=(do IY [new,ov,iv] (MJ ov iv new);release [new,ov,iv] [];pure .next):=by intros;rfl) :
  VS K X (.AugAssign (.Subscript o ie posS) .Add e pos) (yc (cA i) ti te zb (ipI fun i j=>i+j) nP) (fun V S=>(∃ds,S[i]?=some (.own ds))/\EM i vi va V S):=
 ⟨uL ho hi.pe wW h.pe zZ set_list ha,fun H0 Z σ H S V E k zq l=>by
  obtain ⟨⟨ds0,e0⟩,zq⟩:=zq
  obtain ⟨o1,g1,p,vs0,rfl,_⟩:=k.ownAt e0
  refine ⟨.ref p,g1,hi.snd H0 Z σ H S _ _ k zq fun y H2 ri S2 k2 st2 rr2 zq1=>?_⟩
  obtain ⟨ds,j,x,e1,ej,hx,t⟩:=zq1
  obtain ⟨o2,g2,p',vs,e2,h2,h3,h4⟩:=k2.ownAt e1
  rw [g1] at g2;cases g2;cases e2
  cases rr2.get k2 ej
  obtain ⟨v,hv,rv⟩:=h4.getD hx
  cases rv
  refine ⟨p,vs,j,.int x,rfl,rfl,h2,hv,h.snd H0 Z σ H2 S2 _ _ k2 t fun z H3 r S3 k3 st3 rr3 zq2=>?_⟩
  obtain ⟨n,er,e3,q⟩:=zq2
  subst er
  cases (show Rep K _ _ H3 z (.int n) from rr3)
  obtain ⟨o3,g3,p'',vs3,e4,f2,f3,f4⟩:=k3.ownAt e3
  rw [g1] at g3;cases g3;cases e4
  have hj:j < vs3.length:=by rw [f4.length];exact (List.getElem?_eq_some_iff.mp hx).1
  refine ⟨x,n,rfl,rfl,p,vs3,j,j,rfl,rfl,f2,by simp only [ixN];rw [if_pos (by lia),if_pos (by lia)];simp,?_⟩
  have na:NM Z σ S3 p->False:=fun n=>n (.inl ⟨i,_,e3,rfl,g1⟩)
  have hm:∀b,NM Z σ S3 b->H3 b≠none->NM Z σ S3 b/\upd H3 p (.lst (vs3.set j (.int (x+n)))) b=H3 b:=fun b n _=>⟨n,aw fun z=>na (by rw [<- z];exact n)⟩
  obtain ⟨k4,st4⟩:=k3.chg (s:=.own (ds.set j (.int (x+n)))) (o:=.lst (vs3.set j (.int (x+n)))) e3 rfl g1 ⟨_,rfl⟩ rfl ⟨p,_,rfl,az,f3,(f4.mono hm fun _ x=>x).set (.int _) j⟩
  exact l.nx _ _ _ k4 ((st2.trans st3).trans st4) q⟩
def zc (va:VT):VT:=fun S Q=>va S fun r S1=>∃i,r=.d (.int i)/\Q (.d (.int (GY i:Nat))) S1
theorem wY (hK:X.K=K) (h:VE K X m o ta va) (hbase:Jn o "bit_length" X.env (eval o X.env)=eval o X.env:=by rfl) (hline:(apos.endLine==pos.line)=true:=by rfl) :
  VE K X m (.Call (.Attribute o "bit_length" apos) [] [] pos) (C1 K "int" za ta) (zc va):=
 ⟨by subst hK;exact An PySem.F.plainAttrs_int PySem.F.slot_int_bit_length PySem.F.type_int_bit_length wV h.pe hbase hline,fun H0 Z σ H S Q C k t hc=>h.snd H0 Z σ H S _ _ k t fun v H1 r S1 k1 st1 rr zq1=>by
  obtain ⟨i,er,q⟩:=zq1
  subst er
  cases (show Rep K _ _ H1 v (.int i) from rr)
  exact ⟨rfl,i,rfl,rfl,hc _ H1 (.d (.int (GY i:Nat))) S1 k1 st1 (Rep.int _) q⟩⟩
def zd (Q:VR->List Sl->Prop):VR->List Sl->Prop:=fun r S1=>∃i,r=.d (.int i)/\Q (.d (.int (GY i:Nat))) S1
theorem BZ {Q:VR->List Sl->Prop} (h:va S (zd Q)):zc va S Q:=h
theorem wZ {Q:VR->List Sl->Prop} {i:Int} (h:Q (.d (.int (GY i:Nat))) S):zd Q (.d (.int i)) S:=⟨i,rfl,h⟩
end
section
variable {β:Type} {S:List Sl} {g2:VG} {vt2:VTT} {ve:VT}
theorem qc {xs:List β} {en f:β->D} {p:β->Bool} {ys:List D} {A:List D->List Sl->Prop} (hl:xs.length<=1000)
  (h:∀x∈xs,∀(A:D->List Sl->Prop) (B:List Sl->Prop),(∀S5,msk S S5=S->p x=true->A (f x) S5)->(∀S5,msk S S5=S->p x=false->B S5)->g2 (en x) S fun S3=>vt2 S3 (dh ve A B)) (h2:A (ys++(xs.filter p).map f) S):wu g2 vt2 ve ys A (xs.map en) S:=by
 refine ⟨by simpa using hl,fun j zs S'=>S'=S/\zs=ys++((xs.take j).filter p).map f,⟨rfl,by simp⟩,?_,?_⟩
 ·rintro i d zs S2 e ⟨rfl,rfl⟩
  obtain ⟨x,h1,rfl,hm,ht⟩:=aL e
  refine h x hm _ _ (fun S5 e5 hp=>⟨e5,?_⟩) (fun S5 e5 hp=>⟨e5,?_⟩)
  ·rw [ht,HW,GK,<- Gm]
   simp [hp]
  ·rw [ht,HW,GK]
   simp [hp]
 ·rintro zs S2 ⟨rfl,rfl⟩
  rw [FV,Hl]
  exact h2
end
end VL
end
section
namespace L2
open PySem PySem.Spec PyProof.Rows
theorem ml {X:Cx} (hu:X.A.units+64 < KG):IxR X (oG X.K):=by
 intro value slice pins s σ H x y v u Q I rx ry h hs
 have g:=wM hu pins s σ H x y v u Q I rx ry h
 obtain ⟨b,a,ms,es,z,ey,ex,h1,⟨ob,h2⟩,_⟩:=h
 subst ex
 cases rx
 obtain ⟨_,_,_,_,_,o,_,_,z1,z2,_⟩:=jY I h2
 exact M7 ⟨_,z1,z2.1⟩ slot_dict_getitem.lookup g hs
end L2
namespace VL
open PySem L2
section
variable {K:FO} {X:Cx} {m:Bool} {o ie:Expr} {to ti:TE} {vo vi:VT} {pos:Pos} {S:List Sl} {Q:VR->List Sl->Prop}
def EN (vo vi:VT):VT:=fun S Q=>vo S fun r S1=>vi S1 fun rk S2=>∃kvs ms i,get S2 r=some (dc kvs)/\get S2 rk=some (kT ms)/\getA kvs ms=some (.int i)/\Q (.d (.int i)) S2
theorem B0 (hK:X.K=K) (hu:X.A.units+64 < KG) (ho:VE K X false o to vo) (hi:VE K X false ie ti vi) (hs:fK ie):VE K X m (.Subscript o ie pos) (tOp (oG K) to ti) (EN vo vi):=
 ⟨by subst hK;exact lg (ml hu) ho.pe hi.pe hs,fun H0 Z σ H S Q C k t hc=>by
  refine ho.snd H0 Z σ H S _ _ k t fun x H1 ra S1 k1 st1 r1 t1=>?_
  refine hi.snd H0 Z σ H1 S1 _ _ k1 t1 fun y H2 rb S2 k2 st2 r2 zr1=>?_
  obtain ⟨kvs,ms,i,e1,e2,ei,q⟩:=zr1
  obtain ⟨b,vs,rfl,hq,rr⟩:=Rep.sqT (show Rep K _ _ H2 y (.tup (ms.map D.int)) from r2.get k2 e2)
  cases Reps.toInts rr
  obtain ⟨a,es,rfl,_,_,ha,ek,hk,_,rv⟩:=Rep.dct (show Rep K _ _ H2 x (.dic _ _) from (r1.step st2).get k2 e1)
  rcases ko (k:=ms) ek rv with ⟨z1,z2⟩ | ⟨v,d,z1,z2,r⟩
  ·rw [z2] at ei;cases ei
  ·rw [z2] at ei
   cases ei
   cases r
   exact ⟨b,a,ms,es,.int i,rfl,rfl,SqN.of hq,ha,hk,z1,hc _ H2 (.d (.int i)) S2 k2 (st1.trans st2) (Rep.int i) q⟩⟩
def ze (vi:VT) (Q:VR->List Sl->Prop):VR->List Sl->Prop:=fun r S1=>vi S1 fun rk S2=>∃kvs ms i,get S2 r=some (dc kvs)/\get S2 rk=some (kT ms)/\getA kvs ms=some (.int i)/\Q (.d (.int i)) S2
def zf (r:VR) (Q:VR->List Sl->Prop):VR->List Sl->Prop:=fun rk S2=>∃kvs ms i,get S2 r=some (dc kvs)/\get S2 rk=some (kT ms)/\getA kvs ms=some (.int i)/\Q (.d (.int i)) S2
theorem EO (h:vo S (ze vi Q)):EN vo vi S Q:=h
theorem w4 (h:vi S (zf r Q)):ze vi Q r S:=h
theorem w6 {r rk:VR} {i:Int} (e1:get S r=some (dc kvs)) (e2:get S rk=some (kT ms)) (e3:getA kvs ms=some (.int i)) (h:Q (.d (.int i)) S):zf r Q rk S:=⟨kvs,ms,i,e1,e2,e3,h⟩
end
end VL
end
section
namespace VL
open PySem L2 PySem.W
section
variable {K:FO} {X:Cx} {a b:Expr} {ta tb:TE} {pos:Pos} {S:List Sl} {Q:List D->List Sl->Prop}
theorem Reps.rep {N:AP} (h:Reps K N F H vs ds):∀k:Nat,Reps K N F H (Ga k vs).flatten (Ga k ds).flatten
 | 0=>.nil
 | k+1=>by
  rw [Hj,Ic,Hj,Ic]
  exact Reps.append h (Reps.rep h k)
def ER (t:VTN) (vb:VT):VTN:=fun S Q=>t S fun ds S1=>vb S1 fun r S2=>∃k:Nat,r=.d (.int k)/\ds.length*k<=1000000/\k<=1000000/\Q (Ga k ds).flatten S2
theorem B1 {t:VTN} {vb:VT} (h1:VN K X a ta t) (h2:VE K X false b tb vb):VN K X (.BinOp a .Mult b pos) (tOp C3 ta tb) (ER t vb):=⟨qG Ap h1.pe h2.pe,fun H0 Z σ H S Q C k t hc=>
 h1.snd H0 Z σ H S _ _ k t fun c us ds H1 H1' S1 k1 st1 ha1 hg1 hl1 rr1 t1=>h2.snd H0 Z σ H1' S1 _ _ (k1.grow hg1) t1 fun y H2 r S2 k2 st2 r2 zq1=>by
  obtain ⟨n,rfl,hlen,hn,q⟩:=zq1
  obtain ⟨ec,nc2⟩:=st2.1 c (k1.nm ha1) (by simp [hl1])
  have ec':H2 c=some (.lst us):=by rw [ec,hl1]
  have r1:Reps K (NM Z σ S2) (Fr H0) H2 us ds:=(rr1.mono (N':=NM Z σ S1) (fun b n e=>⟨n.1,rfl⟩) (fun _ x=>x)).step st2
  cases r2
  refine ⟨c,(n:Int),us,rfl,rfl,ec',by lia,by lia,by rw [rr1.length,G9,G7];exact Hr hlen (by decide),fun p hp=>?_⟩
  rw [G7]
  exact hc p _ _ H2 _ S2 k2 ((st1.trans (.grow hg1)).trans st2) hp (aQ hp) az (bJ hp ((Reps.rep r1 n).mono (fun _ n _=>⟨n,rfl⟩) fun _ x _=>x)) q⟩
@[irreducible] def oJ (vb:VT) (Q:List D->List Sl->Prop):List D->List Sl->Prop:=fun ds S1=>vb S1 fun r S2=>∃k:Nat,r=.d (.int k)/\ds.length*k<=1000000/\k<=1000000/\Q (Ga k ds).flatten S2
@[irreducible] def oK (ds:List D) (Q:List D->List Sl->Prop):VR->List Sl->Prop:=fun r S2=>∃k:Nat,r=.d (.int k)/\ds.length*k<=1000000/\k<=1000000/\Q (Ga k ds).flatten S2
theorem ES {t:VTN} {vb:VT} (h:t S (oJ vb Q)):ER t vb S Q:=by unfold oJ at h;exact h
theorem w9 {vb:VT} (h:vb S (oK ds Q)):oJ vb Q ds S:=by unfold oJ;unfold oK at h;exact h
theorem xb {k:Nat} (h1:ds.length*k<=1000000) (h2:k<=1000000) (h:Q (Ga k ds).flatten S):oK ds Q (.d (.int k)) S:=by unfold oK;exact ⟨k,rfl,h1,h2,h⟩
variable {va vb:VT} {z:Str} {QR:VR->List Sl->Prop}
end
end VL
end
section
namespace VL
open PySem L2
section
variable {K:FO} {H H' H'' H0:Hp} {Z:AP} {σ σ' σ'':St} {S S' S'':List Sl} {p b0 b1 b:Addr} {i:Nat} {w:W2}
theorem OK.chgZ (k:OK K H0 Z σ H S) {o:HO} (hz:Z b) (ho:IsM (some o)):OK K H0 Z σ (upd H b o) S where
 len:=k.len
 inj:=k.inj
 nz:=k.nz
 zl:=fun a z=>by
  by_cases e:a=b
  ·rw [e,az];exact ho
  ·rw [aw e];exact k.zl a z
 dom:=fun a e=>by
  by_cases h:a=b
  ·rw [h,az] at e;cases e
  ·rw [aw h] at e;exact k.dom a e
 at_:=fun j o' s e1 e2=>by
  have q:=k.at_ j o' s e1 e2
  have hm:∀a,NM Z σ S a->H a≠none->NM Z σ S a/\upd H b o a=H a:=fun a n _=>⟨n,aw fun e=>n (.inr (e▸hz))⟩
  have own:∀a,s.mut=true->o'=some (.ref a)->upd H b o a=H a:=fun a m e=>aw fun z=>k.nz j s a e2 m (by rw [e1,e]) (z▸hz)
  cases s with
  | no=>trivial
  | val d=>obtain ⟨v,e,r⟩:=q;exact ⟨v,e,r.mono hm fun _ x=>x⟩
  | fre d=>obtain ⟨v,e,r⟩:=q;exact ⟨v,e,r.mono hm fun _ x=>x⟩
  | own ds=>obtain ⟨a,vs,e,e',e0,r⟩:=q;exact ⟨a,vs,e,by rw [own a rfl e];exact e',e0,r.mono hm fun _ x=>x⟩
  | pen ad ns=>obtain ⟨a,e,e1,e'⟩:=q;exact ⟨a,e,e1,by rw [own a rfl e];exact e'⟩
  | odi ks ds=>obtain ⟨a,vs,e,⟨ob,e'⟩,e0,ek,r⟩:=q;exact ⟨a,vs,e,⟨ob,by rw [own a rfl e];exact e'⟩,e0,⟨ek.1,ek.2.mono hm fun _ x=>x⟩,r.mono hm fun _ x=>x⟩
  | obj kk=>obtain ⟨a,e,e0,r⟩:=q;exact ⟨a,e,e0,kk.mono hm (own a rfl e) r⟩
theorem OK.zone {Z':AP} (k:OK K H0 Z σ H S) (hn:∀a,NM Z σ S a->H a≠none->NM Z' σ S a) (hz:∀a,Z' a->IsM (H a)) (nz:∀(j:Nat) (s:Sl) (a:Addr),S[j]?=some s->s.mut=true->σ[j]?=some (some (V.ref a))->¬Z' a):OK K H0 Z' σ H S where
 len:=k.len
 inj:=k.inj
 nz:=nz
 zl:=hz
 dom:=k.dom
 at_:=fun j o' s e1 e2=>by
  have q:=k.at_ j o' s e1 e2
  have hm:∀a,NM Z σ S a->H a≠none->NM Z' σ S a/\H a=H a:=fun a n h=>⟨hn a n h,rfl⟩
  cases s with
  | no=>trivial
  | val d=>obtain ⟨v,e,r⟩:=q;exact ⟨v,e,r.mono hm fun _ x=>x⟩
  | fre d=>obtain ⟨v,e,r⟩:=q;exact ⟨v,e,r.mono hm fun _ x=>x⟩
  | own ds=>obtain ⟨a,vs,e,e',e0,r⟩:=q;exact ⟨a,vs,e,e',e0,r.mono hm fun _ x=>x⟩
  | pen ad ns=>exact q
  | odi ks ds=>obtain ⟨a,vs,e,e',e0,ek,r⟩:=q;exact ⟨a,vs,e,e',e0,⟨ek.1,ek.2.mono hm fun _ x=>x⟩,r.mono hm fun _ x=>x⟩
  | obj kk=>obtain ⟨a,e,e0,r⟩:=q;exact ⟨a,e,e0,kk.mono hm rfl r⟩
theorem OK.zoneG {Z':AP} (k:OK K H0 Z σ H S) (hm:∀a,NM Z σ S a->H a≠none->NM Z' σ S a/\H' a=H a) (dom:∀a,H' a=none->H0 a=none) (hz:∀a,Z' a->IsM (H' a)) (g:∀a,H a≠none->H' a=H a) (nz:∀(j:Nat) (s:Sl) (a:Addr),S[j]?=some s->s.mut=true->σ[j]?=some (some (V.ref a))->¬Z' a):OK K H0 Z' σ H' S where
 len:=k.len
 inj:=k.inj
 nz:=nz
 zl:=hz
 dom:=dom
 at_:=fun j o' s e1 e2=>by
  have q:=k.at_ j o' s e1 e2
  cases s with
  | no=>trivial
  | val d=>obtain ⟨v,e,r⟩:=q;exact ⟨v,e,r.mono hm fun _ x=>x⟩
  | fre d=>obtain ⟨v,e,r⟩:=q;exact ⟨v,e,r.mono hm fun _ x=>x⟩
  | own ds=>obtain ⟨a,vs,e,e',e0,r⟩:=q;exact ⟨a,vs,e,by rw [g a (by simp [e'])];exact e',e0,r.mono hm fun _ x=>x⟩
  | pen ad ns=>obtain ⟨a,e,e1,e'⟩:=q;exact ⟨a,e,e1,by rw [g a (by simp [e'])];exact e'⟩
  | odi ks ds=>obtain ⟨a,vs,e,⟨ob,e'⟩,e0,ek,r⟩:=q;exact ⟨a,vs,e,⟨ob,by rw [g a (by simp [e'])];exact e'⟩,e0,⟨ek.1,ek.2.mono hm fun _ x=>x⟩,r.mono hm fun _ x=>x⟩
  | obj kk=>obtain ⟨a,e,e0,r⟩:=q;exact ⟨a,e,e0,kk.mono hm (g a (kk.ism r).ne) r⟩
theorem OK.here (k:OK K H0 Z σ H S) {j:Nat} {s:Sl} {a:Addr} (h1:S[j]?=some s) (h2:s.mut=true) (h3:σ[j]?=some (some (V.ref a))):H a≠none:=(k.mo (.inl ⟨j,s,h1,h2,h3⟩)).ne
end
end VL
end
section
namespace VL
open PySem L2
section
variable {K:FO} {N N':AP} {F F':FP} {H:Hp}
mutual
theorem Rep.both (h1:∀a,N a->F (some a)->F' (some a)) (h2:F none->F' none) {v:V} {d:D}:Rep K N F H v d->Rep K N F' H v d
 | .int i=>.int i
 | .bl i=>.bl i
 | .non=>.non
 | .str i=>.str i
 | .ty i=>.ty i
 | .tup n h r=>.tup n h (Reps.both h1 h2 r)
 | .tupK h r=>.tupK h (Reps.both h1 h2 r)
 | .lst n f h r=>.lst n (h1 _ n f) h (Reps.both h1 h2 r)
 | .lstF n f h r=>.lstF n (h2 f) h (Reps.both h1 h2 r)
 | .lstK f h r=>.lstK (h2 f) h (Reps.both h1 h2 r)
 | .dic n f h e rk r=>.dic n (h1 _ n f) h e (Reps.both h1 h2 rk) (Reps.both h1 h2 r)
 | .exc n h e=>.exc n h e
 | .oth (k:=k) h=>.oth (k.both (fun a n _ f=>h1 a n f) h2 h)
 | .dib n f h e g rk r=>.dib n (h1 _ n f) h e g (Reps.both h1 h2 rk) (Reps.both h1 h2 r)
theorem Reps.both (h1:∀a,N a->F (some a)->F' (some a)) (h2:F none->F' none) {vs:List V} {ds:List D}:Reps K N F H vs ds->Reps K N F' H vs ds
 | .nil=>.nil
 | .cons h t=>.cons (Rep.both h1 h2 h) (Reps.both h1 h2 t)
end
end
end VL
end
section
namespace L2
open PySem PySem.Spec PyProof.Rows PySem.W
abbrev tP:=(α:Type)->Sem α->Sem α
abbrev kA:=St->List V->(List V->Hp->Prop)->Hp->Prop
abbrev goIn (c:Expr) (lev:Nat) (i:Expr) (acc:FU) (env:Env):tP:=fun _ r=>do
 let x <- eval i env;IW i.pos;let x <- Gj i env x;let _ <- runOwn (.compStart c lev (<- IY [x] (MA x)) acc env) env;r
abbrev zg (elt:Expr) (acc:FU) (env:Env):tP:=fun _ r=>do { (do { let _ <- call (.builtin "list.append") [acc,<- eval elt env] });r }
def kB (c:Expr) (lev:Nat) (t i:Expr) (act:FU->Env->tP):Prop:=(∀(it acc:FU) (env:Env),JA c lev it acc env=(do { IW i.pos;match <- Mz it with | none=>pure (.done .next) | some v=>(do { IN t it v;I0 t env v;act acc env _ (J9 (.compLoop c lev it acc env)) }) }))/\(∀(P:GD) (w:Hg) (it acc:FU) (env:Env),(GM P w).den (.compLoop c lev it acc env)=(JA c lev it acc env).onRaise (fun x=>do Lg x env;IQ x))/\∀(A:Ho) (it acc:FU) (env:Env),A.under (.compLoop c lev it acc env)=A
def kC (c:Expr) (lev:Nat):Prop:=∀{P:GD} {w:Hg} {A:Ho} {R:Result->FW->Prop} {s:FW} {it acc:FU} {env:Env},IK (GM P w) A (.compLoop c lev it acc env) R s->GU (GM P w) A (MA it) (fun y s'=>IK (GM P w) A (.compLoop c lev y acc env) R s') (notedBy (GM P w) A env fun x s'=>R (.error x) s') s->IK (GM P w) A (.compStart c lev it acc env) R s
def B4 (Y:Cx) (D:Addr) (act:tP) (ta:kA):Prop:=∀{pins:List (Addr×Obj)} {σ:St} {H:Hp} {s:FW} {ys:List V} {its:List FU} {k:Nat} {Nx:List V->Hp->Prop},Inv Y pins σ H s->(∀p∈Y.pn++pins,p.1≠D)->H D=none->s.heap.get? D=some (lso its k)->Vals ys its->ta σ ys Nx H ->
 ∀{α:Type} {r:Sem α} {Q:α->FW->Prop} {E:FU->FW->Prop},(∀s' ys' its' k' σ' H',Inv Y pins σ' H' s'->σ'=σ->H' D=none->s'.heap.get? D=some (lso its' k')->Vals ys' its'->Nx ys' H'->GU (GM Y.prog Y.w) Y.A r Q E s')->GU (GM Y.prog Y.w) Y.A (act α r) Q E s
def iS (te:TE):kA:=fun σ ys Nx H=>ys.length < GG/\te σ H fun v H6=>Nx (ys++[v]) H6
theorem qf {Y:Cx} {elt:Expr} {te:TE} {D:Addr} (hxe:∀e s,¬Y.xe e s) (he:PE Y elt te) (dL:D≠Y.env.locals) (dS:Y.s₀.heap.objs.size<=D) (dC:∀x c,Y.env.cells.lookup x=some c->c≠D) (dF:D∉Y.fs):B4 Y D (zg elt (.ref D) Y.env) (iS te):=by
 rintro pins σ H s ys its k Nx I dP dn dg vy ⟨hz,h⟩ α r Q E fin
 have nc:∀v,(lso its k).data≠.cell v:=fun v z=>by have z':KI _ _=Ji v:=z;cases z'
 have pinD:Inv Y (pins++[(D,lso its k)]) σ H s:=I.pins_of fun p hp=>by
  rcases List.mem_append.mp hp with hp | hp
  ·exact I.pin p (FQ _ hp)
  ·rw [List.mem_singleton.mp hp];exact ⟨dg,dn,dL,dF,nc⟩
 refine FR (FR (Gy (he _ s σ H _ pinD h) (fun y s10 zr1=>?_) fun e s z=>(hxe e s z).elim))
 obtain ⟨v,H10,I10,rv,nx⟩:=zr1
 have d6:=I10.pin (D,lso its k) (FQ _ (FQ _ FZ))
 have hl5:=vy.length
 refine FR (JT F.slot_list_append ⟨_,d6.1,rfl⟩ F.entry_list_append (F.args_list_append_2 _ _) (Ju D its.toArray k y (by rw [Ge];lia)) ⟨d6.1,?_⟩)
 have g10:=JH d6.1 (·.push y)
 rw [show its.toArray.push y=(its++[y]).toArray by simp] at g10
 have I12:Inv Y pins σ H10 { s10 with heap:=s10.heap.update D (Hq (·.push y)) }:=
  I10.unpinned.turned (t':=s10.toks) (fun b o hb e=>(Hw s10.heap (Hq (·.push y)) (Ia hb)).trans e) d6.2.1 dL (.inr dS) dC dP
 exact F7 (fin _ (ys++[v]) (its++[y]) _ σ H10 I12 rfl d6.2.1 g10 (vy.append (.cons rv .nil)) nx)
def mm (wi:TI) (a:Nat) (ta:kA):kA:=fun σ ys Nx H=>(∀v,σ[a]?≠some (some v))/\wi σ H fun J H1=>∃W:Nat->Nat->List V->Hp->Prop,(∃m,W 0 m ys H1)/\∀j m zs H2,W j m zs H2 ->
 (J.stop j H2/\Nx zs H2)\/(J.go j H2/\∃N2:List V->Hp->Prop,(∀zs' H',N2 zs' H'->∃m',m' < m/\W (j+1) m' zs' H')/\∀x H3,J.yld j H2 x H3->ta (σ.set a (some x)) zs N2 H3)
theorem oM {Y:Cx} {c t i:Expr} {lev a:Nat} {act:FU->Env->tP} {wi:TI} {ta:kA} {D:Addr} (hturn:kB c lev t i act) (hstart:kC c lev) (hcalm:Y.calm=true) (hxe:∀e s,¬Y.xe e s) (hi:PI Y t i wi) (hg:PG Y t (aX a)) (ha:B4 Y D (act (.ref D) Y.env) ta)
  (dL:D≠Y.env.locals) (dS:Y.s₀.heap.objs.size<=D) (dC:∀x c,Y.env.cells.lookup x=some c->c≠D) (dF:D∉Y.fs) (hs:∀x,Gj i Y.env x=pure x):B4 Y D (goIn c lev i (.ref D) Y.env) (mm wi a ta):=by
 rintro pins σ H s ys its k Nx I dP dn dg vy ⟨hu,h⟩ α r Q E fin
 have nc:∀(its:List FU) (k:Nat) v,(lso its k).data≠.cell v:=fun its k v z=>by have z':KI _ _=Ji v:=z;cases z'
 have pinD:∀{H':Hp} {s':FW} {its':List FU} {k':Nat},Inv Y pins σ H' s'->H' D=none->s'.heap.get? D=some (lso its' k')->Inv Y (pins++[(D,lso its' k')]) σ H' s':=fun I' n' g'=>I'.pins_of fun p hp=>by
  rcases List.mem_append.mp hp with hp | hp
  ·exact I'.pin p (FQ _ hp)
  ·rw [List.mem_singleton.mp hp];exact ⟨g',n',dL,dF,nc _ _⟩
 refine FR (Gy (hi _ s σ H _ (pinD I dn dg) h) (fun v s1 h1=>?_) fun e s z=>(hxe e s z).elim)
 refine FR (Hd ?_)
 rw [hs]
 refine FR (F7 (FR (Hn (Gy h1 (fun itv s2 h2=>?_) fun e s z=>(hxe e s z).elim))))
 obtain ⟨it,fp,tn,J,H2,rfl,I2,T,st2,f2',W,⟨m0,w0⟩,turn⟩:=h2
 have Dfp:D∉fp:=fun z=>(f2' D z).2.2.2.2.2 (D,lso its k) (FQ _ (FQ _ FZ)) rfl
 have stat:∀{H':Hp} {its':List FU} {k':Nat},(∀b∈fp,H' b=none)->∀b∈fp,d9 Y (pins++[(D,lso its' k')]) H' b:=fun hn b hb=>by
  obtain ⟨_,a1,a2,a3,a4,a5⟩:=f2' b hb
  refine ⟨hn b hb,a1,a2,a3,a4,fun p hp z=>?_⟩
  rcases List.mem_append.mp hp with hp | hp
  ·exact a5 p (Gu _ hp) z
  ·rcases List.mem_append.mp hp with hp | hp
   ·exact a5 p (FQ _ (Gu _ hp)) z
   ·rw [List.mem_singleton.mp hp] at z;have z:D=b:=z;exact Dfp (z▸hb)
 have d2:=I2.pin (D,lso its k) (FQ _ (FQ _ FZ))
 have loop:IK (GM Y.prog Y.w) Y.A (.compLoop c lev (.ref it) (.ref D) Y.env) (fun res s'=>match res with | .ok _=>GU (GM Y.prog Y.w) Y.A r Q E s' | .error e=>cameBackBy (GM Y.prog Y.w) Y.A Y.env E e s') s2:=by
  refine Jf rfl (fun n s'=>∃j zs its k H',Inv Y pins σ H' s'/\tn j s'.heap/\(∀b∈fp,H' b=none)/\H' D=none/\s'.heap.get? D=some (lso its k)/\Vals zs its/\W j n zs H') ?_ m0 ⟨0,ys,its,k,H2,I2.unpinned,st2,fun b hb=>(f2' b hb).1,d2.2.1,d2.1,vy,w0⟩
  rintro n s5 ⟨j,zs,its5,k5,H5,I5,st5,fr5,d5,o5,v5,w5⟩
  rw [hturn.2.1,hturn.2.2]
  refine Jw (m:=JA c lev (.ref it) (.ref D) Y.env) ?_
  rw [hturn.1]
  have pin0:=pinD I5 d5 o5
  refine FR (Hd (FR ?_))
  rcases turn j n zs H5 w5 with ⟨stop,qn⟩ | ⟨go,N2,hN,step⟩
  ·refine thn (T.done Y rfl rfl rfl hcalm j _ s5 _ H5 _ pin0 (stat fr5) st5 stop) fun r s6 zr1=>?_
   obtain ⟨hr,I6⟩:=zr1
   subst hr
   have d6:=I6.pin (D,lso its5 k5) (FQ _ (FQ _ FZ))
   exact F7 (fin s6 zs its5 k5 σ H5 I6.unpinned rfl d5 d6.1 v5 qn)
  ·refine thn (T.item Y rfl rfl rfl hcalm j _ s5 _ H5 _ pin0 (stat fr5) st5 go) fun r s6 zr1=>?_
   obtain ⟨u,hr,h6⟩:=zr1
   subst hr
   refine FR (thn h6 fun _ s7 zr1=>?_)
   obtain ⟨x,H7,I7,r7,y7,st7,fr7⟩:=zr1
   have I7':=I7.pinned (stat fr7) (T.obj _ _ st7)
   refine FR (Gy (hg _ s7 _ H7 x u (fun σ8 H8=>σ8=σ.set a (some x)/\H8=H7) I7' r7 ⟨rfl,rfl⟩) (fun _ s8 zr1=>?_) fun e s z=>(hxe e s z).elim)
   obtain ⟨σ8,H8,I8,e8,e8'⟩:=zr1
   subst e8;subst e8'
   have d8:=I8.pin (D,lso its5 k5) (FQ _ (Gu _ (FQ _ FZ)))
   have I9:Inv Y (pins++bQ fp s7.heap) (σ.set a (some x)) H8 s8:=I8.pins_of fun p hp=>by
    rcases List.mem_append.mp hp with hp | hp
    ·exact I8.pin p (FQ _ (Gu _ (Gu _ hp)))
    ·exact I8.pin p (FQ _ (FQ _ hp))
   refine ha I9 (fun p hp=>?_) d8.2.1 d8.1 v5 (step x H8 y7) fun s10 zs' its' k' σ' H10 I10 e10 d10 g10 v10 nx=>?_
   ·rcases List.mem_append.mp hp with hp | hp
    ·exact dP p (Gu _ hp)
    ·rcases List.mem_append.mp hp with hp | hp
     ·exact dP p (FQ _ hp)
     ·exact fun z=>Dfp (z▸(dt hp).1)
   ·subst e10
    have pn:=fun (b:Addr) (hb:b∈fp) (o:Obj) (e:s7.heap.get? b=some o)=>I10.pin (b,o) (FQ _ (FQ _ (aN hb e)))
    obtain ⟨m',hm,w8⟩:=hN zs' H10 nx
    refine F7 ⟨rfl,m',hm,j+1,zs',its',k',H10,I10.unpinned.weak (by simp) (fun i v e=>?_),T.keep _ _ _ st7 fun b hb o e=>(pn b hb o e).1,fun b hb=>?_,d10,g10,v10,w8⟩
    ·by_cases hia:a=i
     ·subst hia;exact (hu v e).elim
     ·rw [Gh hia];exact e
    ·obtain ⟨o,e,_⟩:=T.obj _ _ st7 b hb
     exact (pn b hb o e).2.1
 exact FR (wpAny_runOwn (hstart (A:=Y.A) loop (T.self _ 0 _ _ _ st2 loop)))
end L2
end
section
namespace L2
open PySem PySem.Spec PyProof.Rows PySem.W
section
variable {elt t1 i1 t2 i2 t3 i3:Expr} {scope:IR} {pos:Pos}
abbrev bp (elt t1 i1 t2 i2 t3 i3:Expr) (scope:IR) (pos:Pos):Expr:=.ListComp elt [⟨t1,i1,[],0⟩,⟨t2,i2,[],0⟩,⟨t3,i3,[],0⟩] scope pos
theorem xf:kB (bp elt t1 i1 t2 i2 t3 i3 scope pos) 0 t1 i1 (goIn (bp elt t1 i1 t2 i2 t3 i3 scope pos) 1 i2):=⟨fun _ _ _=>by rfl,fun _ _ _ _ _=>by rfl,fun _ _ _ _=>by rfl⟩
theorem xg:kB (bp elt t1 i1 t2 i2 t3 i3 scope pos) 1 t2 i2 (goIn (bp elt t1 i1 t2 i2 t3 i3 scope pos) 2 i3):=⟨fun _ _ _=>by rfl,fun _ _ _ _ _=>by rfl,fun _ _ _ _=>by rfl⟩
theorem xh:kB (bp elt t1 i1 t2 i2 t3 i3 scope pos) 2 t3 i3 (zg elt):=⟨fun _ _ _=>by rfl,fun _ _ _ _ _=>by rfl,fun _ _ _ _=>by rfl⟩
theorem tQ:kC (bp elt t1 i1 t2 i2 t3 i3 scope pos) 1:=fun {P w A R s it acc env} h0 h=>by
 refine Lh (Ma (m:=compStart (bp elt t1 i1 t2 i2 t3 i3 scope pos) 1 it acc env) ?_)
 unfold compStart
 refine (show GU _ _ (ask >>= _) _ _ s from FR (KU (wpAny_ite ?_)))
 split
 ·exact F7 ⟨rfl,h0⟩
 ·exact FR (IT (FR (m:=IW i2.pos) (Hd (FR (Gy h (fun y s' q=>F7 ⟨rfl,q⟩) fun _ _ x=>x)))))
theorem tR:kC (bp elt t1 i1 t2 i2 t3 i3 scope pos) 2:=fun {P w A R s it acc env} h0 h=>by
 refine Lh (Ma (m:=compStart (bp elt t1 i1 t2 i2 t3 i3 scope pos) 2 it acc env) ?_)
 unfold compStart
 refine (show GU _ _ (ask >>= _) _ _ s from FR (KU (wpAny_ite ?_)))
 split
 ·exact F7 ⟨rfl,h0⟩
 ·exact FR (IT (FR (m:=IW i3.pos) (Hd (FR (Gy h (fun y s' q=>F7 ⟨rfl,q⟩) fun _ _ x=>x)))))
end
section
variable {X:Cx}
def kE (wi:TI) (n:Nat) (ix:List Nat) (ta:kA):TE:=fun σ H Q=>wi σ H fun J H1=>∃W:Nat->Nat->List V->Hp->Prop,(∃m,W 0 m [] H1)/\∀i m ys H2,W i m ys H2 ->
 (J.stop i H2/\ys.length<=GG/\∀D,H2 D=none->Q (.ref D) (upd H2 D (.lst ys))) \/
 (J.go i H2/\∃Nx:List V->Hp->Prop,(∀ys' H',Nx ys' H'->∃m',m' < m/\W (i+1) m' ys' H')/\∀x H3,J.yld i H2 x H3->ta ((capt n ix σ).set 0 (some x)) ys Nx H3)
theorem qg {elt t1 i1 t2 i2 t3 i3:Expr} {scope:IR} {pos spos py:Pos} {yy:Str} {ii:Nat} {tg cs:List Str} {wi wi2 wi3:TI} {te:TE} (hN0:X.N.Nodup) (hi0:X.N[ii]?=some yy) (hx0:Loc X.env.scope yy)
    (S:aR X scope tg cs ix) (hcalm:X.calm=true) (hn:2 < tg.length)
    (hi:PI X t1 i1 wi) (hg:∀C fp s H,PG (aj X scope (tg++cs) C fp s H) t1 (aX 0)) (hi2:∀C fp s H,PI (aj X scope (tg++cs) C fp s H) t2 i2 wi2) (hg2:∀C fp s H,PG (aj X scope (tg++cs) C fp s H) t2 (aX 1)) (hi3:∀C fp s H,PI (aj X scope (tg++cs) C fp s H) t3 i3 wi3) (hg3:∀C fp s H,PG (aj X scope (tg++cs) C fp s H) t3 (aX 2)) (he:∀C fp s H,PE (aj X scope (tg++cs) C fp s H) elt te)
    (hf0:X.fn yy=true\/X.env.scope.names.lookup yy=some .local)
    (hsw:HJ (bp elt t1 i1 t2 i2 t3 i3 scope pos) (some (.Name yy py)) spos.line X.env=pure true)
    (hs:∀x,Gj i1 X.env x=pure x:=by intro _;rfl) (hs2:∀(e:Env) x,Gj i2 e x=pure x:=by intro _ _;rfl) (hs3:∀(e:Env) x,Gj i3 e x=pure x:=by intro _ _;rfl):PS X (.Assign [.Name yy py] (bp elt t1 i1 t2 i2 t3 i3 scope pos) spos) (cQ (kE wi tg.length ix (mm wi2 1 (mm wi3 2 (iS te)))) (aX ii)):=by
  intro pins s σ H Dn I h
  rw [JE _ _ _ _ hsw]
  refine FR (Hd (FR ?_))
  show GU _ X.A (do let _ <- KL (bp elt t1 i1 t2 i2 t3 i3 scope pos) scope X.env _ (newList []) false (eval i1 X.env) (some (I0 (.Name yy py) X.env))) _ _ s
  refine FR (Gy (HV (use:=some (I0 (.Name yy py) X.env)) (Q:=fun _ s'=>SP X pins Dn .next s') (cl:=bF X.env scope.names []) rfl hs (cS fun n hn=>I.ok.has n (S.out n hn)) S.kind S.names ?_) (fun _ s' hq=>F7 (F7 hq)) fun _ _ e=>e)
  refine Gy (hi pins s σ H _ I h) (fun v s1 h1=>Gy h1 (fun itv s2 h2=>?_) fun _ _ e=>e) fun _ _ e=>e
  obtain ⟨it,fp,tn,J,H2,rfl,I2,T,st2,fpk,W,⟨m0,w0⟩,turn⟩:=h2
  refine HC (Ip S.nocell (by intro y hy;simp at hy) (fun h1 hns1 hsb1=>?_) S.kind)
  dsimp only at hns1 hsb1 ⊢
  generalize hP:s2.heap.push { cls:=.type "list",dict:=none,data:=.seq ([]:List FU).toArray }=P2 at hns1 hsb1 ⊢
  have hCs:P2.objs.size=s2.heap.objs.size+1:=by rw [<- hP,Jz]
  have hDC:s2.heap.objs.size≠P2.objs.size:=by rw [hCs];exact GO (Ij _)
  have hCle:s2.heap.objs.size<=P2.objs.size:=by rw [hCs];exact IP _
  generalize hCg:P2.objs.size=C at *
  have old:∀b o,s2.heap.get? b=some o->h1.get? b=some o:=fun b o e=>hsb1.extBut b o (GO (Gr (Gg e) hCle)) (FT _ (hP▸FT _ e))
  generalize hDg:s2.heap.objs.size=D at *
  have hD0:h1.get? D=some { cls:=.type "list",data:=.seq ([]:List FU).toArray 0 }:=hsb1.extBut _ _ hDC (FT _ (hP▸hDg▸Gn _ rfl))
  have nC:H2 C=none:=I2.hok.fresh (by rw [hDg];exact hCle)
  have nD:H2 D=none:=I2.hok.fresh (by rw [hDg];exact FX _)
  have fo:∀b∈fp,∃o,s2.heap.get? b=some o:=fun b hb=>let ⟨o,e,_⟩:=T.obj _ _ st2 b hb;⟨o,e⟩
  have Dfp:D∉fp:=fun z=>by
    obtain ⟨o,e⟩:=fo D z
    have:=Gg e
    rw [hDg] at this
    exact absurd this (Hb _)
  have Dfs:D∉frs X.stack:=fun z=>by
    rcases List.mem_cons.mp (I2.stkSub D z) with e | e
    · have:=I2.lt
      rw [<- e,hDg] at this
      exact absurd this (Hb _)
    · exact I2.nofs (by rw [hDg];exact FX _) e
  have DcY:∀x c,(bF X.env scope.names []).lookup x=some c->c≠D:=fun x c e=>by
    rcases cR (G4 e) with h | h
    · cases h
    · exact (I2.fpOk (H':=H2) (b:=D) (by rw [hDg];exact FX _) nD).2.2.2.2.1 x c h
  -- the block's context
  have Yok:∀s4:FW,s4={ s2 with heap:=h1,toks:=s2.toks+([]:List (Str×FU)).length }->Inv (aj X scope (tg++cs) C fp s2 H2) [] (capt tg.length ix σ) H2 s4:=by
    rintro s4 rfl
    exact eh S I2 fpk fo (by rw [hDg];exact hCle) old (by simpa using hns1) rfl I2.bare nC
  -- the loop
  have loop:∀s4:FW,s4={ s2 with heap:=h1,toks:=s2.toks+([]:List (Str×FU)).length } ->
      IK (GM X.prog X.w) X.A (.compLoop (bp elt t1 i1 t2 i2 t3 i3 scope pos) 0 (.ref it) (.ref D) (ID scope (bF X.env scope.names []) C X.env)) (L7 (GM X.prog X.w) X.A X.xe (some (I0 (.Name yy py) X.env)) (fun _ s'=>SP X pins Dn .next s') (.ref D) C) s4:=by
    intro s4 e4
    refine Jf rfl (fun n s'=>∃i ys its k H',Inv (aj X scope (tg++cs) C fp s2 H2) [] (capt tg.length ix σ) H' s'/\tn i s'.heap/\(∀b∈fp,H' b=none)/\H' D=none/\s'.heap.get? D=some (lso its k)/\Vals ys its/\W i n ys H')
      ?_ m0 ⟨0,[],[],0,H2,Yok s4 e4,?_,fun b hb=>(fpk b hb).1,nD,by rw [e4];exact hD0,.nil,w0⟩
    · rintro n s5 ⟨i,ys,its,k,H5,I5,st5,fr5,d5,o5,v5,w5⟩
      show GU _ X.A ((JA (bp elt t1 i1 t2 i2 t3 i3 scope pos) 0 (.ref it) (.ref D) (ID scope (bF X.env scope.names []) C X.env)).onRaise (fun x=>do Lg x (ID scope (bF X.env scope.names []) C X.env);IQ x)) _ _ s5
      refine Jw ?_
      rw [(xf (elt:=elt) (t1:=t1) (i1:=i1) (t2:=t2) (i2:=i2) (t3:=t3) (i3:=i3) (scope:=scope) (pos:=pos)).1]
      have pin0:Inv (aj X scope (tg++cs) C fp s2 H2) [(D,(lso its k))] (capt tg.length ix σ) H5 s5:=I5.pins_of fun p hp=>by
        have e:p=(D,(lso its k)):=by simpa using hp
        subst e
        exact ⟨o5,d5,hDC,Dfs,fun v z=>by have z':KI _ _=Ji v:=z;cases z'⟩
      have fpY:∀{H':Hp},(∀b∈fp,H' b=none)->∀b∈fp,d9 (aj X scope (tg++cs) C fp s2 H2) [(D,(lso its k))] H' b:=fun hn b hb=>
        ⟨hn b hb,(I5.ok.exf b hb).1,fun z=>I5.ok.exfs b hb z,.inl hb,(I5.ok.exf b hb).2,fun p hp z=>by
          have hp:p∈([]:List (Addr×Obj))++[(D,(lso its k))]:=hp
          have e:p=(D,(lso its k)):=by simpa using hp
          subst e
          have z:D=b:=z
          exact Dfp (z▸hb)⟩
      refine FR (Hd (FR ?_))
      rcases turn i n ys H5 w5 with ⟨stop,hz,qn⟩ | ⟨go,Nx,hN,step⟩
      · refine thn (T.done (aj X scope (tg++cs) C fp s2 H2) rfl rfl rfl hcalm i _ s5 _ H5 _ pin0 (fpY fr5) st5 stop) fun r s6 zr1=>?_
        obtain ⟨hr,I6⟩:=zr1
        subst hr
        refine F7 ?_
        obtain ⟨mC,hnsC,_⟩:=id I6.loc
        have IX:Inv X pins σ H5 s6:=I2.call' (ch:=fp) I6.os I6.base I6.hok I6.bare fun b hb=>let ⟨_,a1,_,a3,a4,a5⟩:=fpk b hb;⟨a3,a1,a4,a5⟩
        obtain ⟨_,b1,_,b3,b4,b5⟩:=I2.fpOk (H':=H5) (b:=D) (by rw [hDg];exact FX _) d5
        obtain ⟨_,c1,_,c3,c4,c5⟩:=I2.fpOk (H':=H5) (b:=C) (by rw [hDg];exact hCle) I6.free
        have gD:s6.heap.get? D=some (lso its k):=(I6.pin (D,(lso its k)) (FQ _ FZ)).1
        have IXD:Inv X pins σ (upd H5 D (.lst ys)) s6:=IX.track d5 (by rw [<- hDg];exact I2.sz) b1 b4 b5 ⟨hz,its,k,v5,gD⟩
        show GU _ X.A (I0 (.Name yy py) X.env (.ref D)) _ _ s6
        refine Js (eU (v:=.ref D) IXD hN0 hi0 hx0 rfl (fun s'' I'' zr1=>?_) hf0)
        obtain ⟨a,sb,ha⟩:=zr1
        have hCa:C≠a:=by
          rcases ha with rfl | ha
          · exact c1
          · exact (c4 _ _ ha).symm
        refine ⟨mC,hnsC.sameBut sb hCa,fun h' sb'=>⟨_,_,I''.turned (t':=s''.toks) (it:=C) (fun b o hb e=>(sb'.2 b hb).trans e) (by rw [aw (Ia hDC)];exact I6.free) c1 c3 c4 c5,qn D d5⟩⟩
      · refine thn (T.item (aj X scope (tg++cs) C fp s2 H2) rfl rfl rfl hcalm i _ s5 _ H5 _ pin0 (fpY fr5) st5 go) fun r s6 zr1=>?_
        obtain ⟨u,hr,h6⟩:=zr1
        subst hr
        refine FR (thn h6 fun _ s7 zr1=>?_)
        obtain ⟨x,H7,I7,r7,y7,st7,fr7⟩:=zr1
        have I7':=I7.pinned (fpY fr7) (T.obj _ _ st7)
        -- the next turn
        have J9:∀{σ2:St} {H8:Hp} {s8:FW} {ys':List V} {its':List FU} {k':Nat} , Inv (aj X scope (tg++cs) C fp s2 H2) [] σ2 H8 s8->(σ2.length=(capt tg.length ix σ).length/\∀(i:Nat) (v:V),(capt tg.length ix σ)[i]?=some (some v)->σ2[i]?=some (some v)) ->
            (∀b∈fp,∀o,s7.heap.get? b=some o->s8.heap.get? b=some o)->(∀b∈fp,H8 b=none)->H8 D=none->s8.heap.get? D=some (lso its' k')->Vals ys' its'->Nx ys' H8 ->
            ∃m,m < n/\∃i ys its k H',Inv (aj X scope (tg++cs) C fp s2 H2) [] (capt tg.length ix σ) H' s8/\tn i s8.heap/\(∀b∈fp,H' b=none)/\H' D=none/\s8.heap.get? D=some (lso its k)/\Vals ys its/\W i m ys H':=by
          intro σ2 H8 s8 ys' its' k' I8 kp fk fn dn dg vv nx
          obtain ⟨m',hm,w8⟩:=hN ys' H8 nx
          exact ⟨m',hm,i+1,ys',its',k',H8,I8.weak kp.1.symm kp.2,T.keep _ _ _ st7 fk,fn,dn,dg,vv,w8⟩
        refine FR (Gy (hg C fp s2 H2 _ s7 _ H7 x u (fun σ8 H8=>σ8=(capt tg.length ix σ).set 0 (some x)/\H8=H7) I7' r7 ⟨rfl,rfl⟩) (fun _ s8 zr1=>?_) fun _ _ z=>z.elim)
        obtain ⟨σ8,H8,I8,e8,e8'⟩:=zr1
        subst e8;subst e8'
        have d8:=I8.pin (D,(lso its k)) (FQ _ (Gu _ FZ))
        have I9':Inv (aj X scope (tg++cs) C fp s2 H2) (bQ fp s7.heap) ((capt tg.length ix σ).set 0 (some x)) H8 s8:=I8.pins_of fun p hp=>I8.pin p (FQ _ (FQ _ hp))
        have hS:(aj X scope (tg++cs) C fp s2 H2).s₀.heap.objs.size<=D:=by show s2.heap.objs.size<=D;rw [hDg];exact FX _
        refine oM (Y:=aj X scope (tg++cs) C fp s2 H2) xg tQ hcalm (fun _ _ z=>z) (hi2 C fp s2 H2) (hg2 C fp s2 H2) (oM (Y:=aj X scope (tg++cs) C fp s2 H2) xh tR hcalm (fun _ _ z=>z) (hi3 C fp s2 H2) (hg3 C fp s2 H2) (qf (Y:=aj X scope (tg++cs) C fp s2 H2) (fun _ _ z=>z) (he C fp s2 H2) hDC hS DcY Dfs) hDC hS DcY Dfs (hs3 _)) hDC hS DcY Dfs (hs2 _) I9' (fun p hp z=>?_) d8.2.1 d8.1 v5 (step x H8 y7) fun s12 zs its' k' σ' H12 I12 e12 d12 g12 v12 n12=>?_
        · have hp:p∈bQ fp s7.heap:=hp
          exact Dfp (z▸(dt hp).1)
        · subst e12
          have pn:=fun (b:Addr) (hb:b∈fp) (o:Obj) (e:s7.heap.get? b=some o)=>I12.pin (b,o) (FQ _ (aN hb e))
          refine F7 ⟨rfl,J9 (its':=its') (I12.pins_of fun p hp=>nomatch hp) ⟨by simp,fun i v e=>?_⟩ (fun b hb o e=>(pn b hb o e).1) (fun b hb=>?_) d12 g12 v12 n12⟩
          · by_cases h0:0=i
            · subst h0;exact (bN (by lia) e).elim
            · rw [Gh h0];exact e
          · obtain ⟨o,e,_⟩:=T.obj _ _ st7 b hb
            exact (pn b hb o e).2.1
    · rw [e4];exact T.keep _ _ _ st2 fun b _ o e=>old b o e
  exact IL (loop _ rfl) (T.self _ 0 _ _ _ (T.keep _ _ _ st2 fun b _ o e=>old b o e) (loop _ rfl))
end
end L2
end
section
namespace VL
open PySem L2
abbrev gq:=List Sl->List D->(List D->List Sl->Prop)->Prop
def xi (K:FO) (U:St->Prop) (ta:kA) (va:gq):Prop:=∀H0 Z σ H S ys zs A Nx,OK K H0 Z σ H S->U σ->Reps K (NM Z σ S) (Fr H0) H ys zs->va S zs A->(∀H' S' ys' zs',OK K H0 Z σ H' S'->Step Z σ S H σ S' H'->Reps K (NM Z σ S') (Fr H0) H' ys' zs'->A zs' S'->Nx ys' H')->ta σ ys Nx H
def kF (ve:VT):gq:=fun S zs A=>zs.length < 1000000/\ve S fun r S1=>∃x,r=.d x/\A (zs++[x]) S1
def qh (vi:VTN) (a:Nat) (va:gq):gq:=fun S ys A=>vi S fun es S5=>∃Jv:Nat->List D->List Sl->Prop,Jv 0 ys S5 /\
 (∀j e zs S6,es[j]?=some e->Jv j zs S6->a < S6.length/\va (S6.set a (.val e)) zs fun ws S9=>Jv (j+1) ws (msk S6 S9))/\∀zs S6,Jv es.length zs S6->A zs S6
def Uns (a:Nat) (σ:St):Prop:=∀v,σ[a]?≠some (some v)
section
variable {K:FO} {X:Cx}
theorem tS {te:TE} {ve:VT} (se:SndE K true te ve):xi K (fun _=>True) (iS te) (kF ve):=fun H0 Z σ H S ys zs A Nx k _ rz ⟨hl,h⟩ fin=>by
 refine ⟨by rw [rz.length,G9];exact Gr hl (by decide),se H0 _ σ H S _ _ k h fun v H1 r S1 k1 st1 rr ⟨x,er,q⟩=>?_⟩
 subst er
 exact fin H1 S1 _ _ k1 st1 (Reps.append (rz.step st1) (.cons (Rep.mono (fun a n _=>⟨n,rfl⟩) (fun _ x=>x rfl) rr) .nil)) q
theorem tT {wi:TI} {vi:VTN} {a:Nat} {U:St->Prop} {ta:kA} {va:gq} (si:SndI K wi vi) (sa:xi K U ta va) (hU:∀ σ x,U σ->U (σ.set a (some x))):xi K (fun σ=>Uns a σ/\U σ) (mm wi a ta) (qh vi a va):=fun H0 Z σ H S ys zs A Nx k ⟨hu,hu2⟩ rz h fin=>by
 refine ⟨hu,si H0 _ σ H S _ _ k h fun J es H6 S6 k6 st6 gd zr1=>?_⟩
 obtain ⟨Jv,j0,hj,hd⟩:=zr1
 refine ⟨fun j m us H=>m=es.length-j/\j<=es.length/\∃S7 ws,OK K H0 Z σ H S7/\Step Z σ S6 H6 σ S7 H/\Reps K (NM Z σ S7) (Fr H0) H us ws/\Jv j ws S7,⟨es.length,by simp,HM _,S6,zs,k6,.refl,rz.step st6,j0⟩,?_⟩
 rintro j m us H7 ⟨rfl,hjl,S7,ws,k7,st7,rw7,p7⟩
 obtain ⟨a1,a2,a3⟩:=gd σ S7 H7 (fun _=>k7.nm) st7.1 j
 by_cases hlt:j < es.length
 ·refine .inr ⟨a1 hlt,fun us' H'=>∃S' ws',OK K H0 Z σ H' S'/\Step Z σ S6 H6 σ S' H'/\Reps K (NM Z σ S') (Fr H0) H' us' ws'/\Jv (j+1) ws' S',fun us' H' p=>⟨es.length-(j+1),by lia,rfl,hlt,p⟩,fun x H8 y=>?_⟩
  obtain ⟨hgr,e,he,re⟩:=a2 x H8 y hlt
  replace k7:=k7.grow hgr
  replace st7:=st7.trans (.grow hgr)
  replace rw7:=rw7.step (.grow hgr)
  obtain ⟨hal,q⟩:=hj j e ws S7 he p7
  obtain ⟨k8,st8⟩:=k7.setVal hal re
  refine sa H0 Z _ H8 _ us ws _ _ k8 (hU _ _ hu2) (rw7.step st8) q fun H9 S9 us' ws' k9 st9 rw9 q9=>?_
  obtain ⟨kf,sf,nf⟩:=k7.forget k9 (st8.trans st9) (by simp) fun i v ei=>by
   by_cases hia:a=i
   ·subst hia;exact (hu v ei).elim
   ·rw [Gh hia];exact ei
  exact ⟨_,ws',kf,st7.trans sf,rw9.mono (fun a n _=>⟨nf a n,rfl⟩) fun _ x=>x,q9⟩
 ·have e:j=es.length:=by lia
  exact .inl ⟨a3 e,fin H7 S7 us ws k7 (st6.trans st7) rw7 (hd ws S7 (by rw [<- e];exact p7))⟩
def kG (vi:VTN) (n:Nat) (ix:List Nat) (va:gq):VTN:=fun S Q=>vi S fun ds S1=>∃Iv:Nat->List D->List Sl->Prop,Iv 0 [] S1 /\
 (∀i d ys S2,ds[i]?=some d->Iv i ys S2->va ((bg n ix S2).set 0 (.val d)) ys fun zs S6=>Iv (i+1) zs (backS n ix S2 S6))/\∀ys S2,Iv ds.length ys S2->ys.length<=1000000/\Q ys S2
theorem qj {wi:TI} {vi:VTN} {n:Nat} {ta:kA} {va:gq} {U:St->Prop} (hn:0 < n) (hnd:ix.Nodup) (si:SndI K wi vi) (sa:xi K U ta va) (hU:∀ σ x,U ((L2.capt n ix σ).set 0 (some x))):SndN K (kE wi n ix ta) (kG vi n ix va):=fun H0 Z σ H S Q C k t hq=>by
 refine si H0 Z σ H S _ _ k t fun J ds H1 S1 k1 st1 gd zr1=>?_
 obtain ⟨Iv,i0,hs,hd⟩:=zr1
 refine ⟨fun i m ys H=>m=ds.length-i/\i<=ds.length/\∃S2 zs,OK K H0 Z σ H S2/\Step Z σ S1 H1 σ S2 H/\Reps K (NM Z σ S2) (Fr H0) H ys zs/\Iv i zs S2,⟨ds.length,by simp,HM _,S1,[],k1,.refl,.nil,i0⟩,?_⟩
 rintro i m ys H2 ⟨rfl,hi,S2,zs,k2,st2,rz,p⟩
 obtain ⟨g1,g2',g3⟩:=gd σ S2 H2 (fun _=>k2.nm) st2.1 i
 by_cases hlt:i < ds.length
 ·refine .inr ⟨g1 hlt,fun ys' H'=>∃S' zs',OK K H0 Z σ H' S'/\Step Z σ S1 H1 σ S' H'/\Reps K (NM Z σ S') (Fr H0) H' ys' zs'/\Iv (i+1) zs' S',fun ys' H' p=>⟨ds.length-(i+1),by lia,rfl,hlt,p⟩,fun x H3 y=>?_⟩
  obtain ⟨hgr,d,hd',rd⟩:=g2' x H3 y hlt
  replace k2:=k2.grow hgr
  replace st2:=st2.trans (.grow hgr)
  replace rz:=rz.step (.grow hgr)
  have kc:=k2.capt (n:=n) hnd
  have rd':Rep K (NM (Zin Z ix σ S2) (L2.capt n ix σ) (bg n ix S2)) AnyF H3 x d:=rd.mono (fun a n _=>⟨fun z=>n (eH.mp z),rfl⟩) fun _ x=>x
  have rzc:Reps K (NM (Zin Z ix σ S2) (L2.capt n ix σ) (bg n ix S2)) (Fr H0) H3 ys zs:=rz.mono (fun a n _=>⟨fun z=>n (eH.mp z),rfl⟩) fun _ x=>x
  have hl0:0 < (bg n ix S2).length:=by simp [bg];lia
  obtain ⟨k4,st4⟩:=kc.setVal hl0 rd'
  refine sa H0 _ _ H3 _ ys zs _ _ k4 (hU _ _) (rzc.step st4) (hs i d zs S2 hd' p) fun H5 S5 ys' zs' k5 st5 r5 q5=>?_
  obtain ⟨kb,sb,nb⟩:=k2.back k5 (st4.trans st5) fun i v ei=>by
   by_cases hia:0=i
   ·subst hia;exact (bN hn ei).elim
   ·rw [Gh hia];exact ei
  exact ⟨_,zs',kb,st2.trans sb,r5.mono (fun a n _=>⟨nb a n,rfl⟩) fun _ x=>x,q5⟩
 ·have e:i=ds.length:=by lia
  obtain ⟨hz,q⟩:=hd zs S2 (by rw [<- e];exact p)
  refine .inl ⟨g3 e,by rw [rz.length,G9];exact Hr hz (by decide),fun l hp=>?_⟩
  exact hq l ys zs H2 _ S2 k2 (st1.trans st2) hp (aQ hp) az (bJ hp (rz.mono (fun _ n _=>⟨n,rfl⟩) fun _ x _=>x)) q
theorem xj {m:Bool} {te:TE} {t:VTN} (h:SndN K te t):SndE K m te (pI t):=fun H0 Z σ H S Q C k t hc=>h H0 Z σ H S _ _ k t fun a vs ds H1 H' S1 k1 st1 ha hg hl rr q=>
 hc _ H' (.d (.lst ds)) S1 (k1.grow hg) (st1.trans (.grow hg)) (Rep.lst (k1.nm ha) (fun _=>⟨a,rfl,k1.dom a ha⟩) hl (rr.mono (fun b n e=>⟨n.1,rfl⟩) fun _ x _=>x)) q
theorem qk {elt t1 i1 t2 i2 t3 i3:Expr} {scope:IR} {pos:Pos} {spos py:Pos} {yy:Str} {ii:Nat} {tg cs:List Str} {wi wi2 wi3:TI} {vi vi2 vi3:VTN} {te:TE} {ve:VT} (hN0:X.N.Nodup) (hi0:X.N[ii]?=some yy) (hx0:Loc X.env.scope yy) (hf0:X.fn yy=true\/X.env.scope.names.lookup yy=some .local) (Sc:aR X scope tg cs ix) (hcalm:X.calm=true) (hn:2 < tg.length) (hnd:ix.Nodup)
  (hi:VI K X t1 i1 wi vi) (hg:∀C fp s H,PG (aj X scope (tg++cs) C fp s H) t1 (aX 0)) (hi2:∀C fp s H,VI K (aj X scope (tg++cs) C fp s H) t2 i2 wi2 vi2) (hg2:∀C fp s H,PG (aj X scope (tg++cs) C fp s H) t2 (aX 1)) (hi3:∀C fp s H,VI K (aj X scope (tg++cs) C fp s H) t3 i3 wi3 vi3) (hg3:∀C fp s H,PG (aj X scope (tg++cs) C fp s H) t3 (aX 2)) (he:∀C fp s H,VE K (aj X scope (tg++cs) C fp s H) true elt te ve)
  (hsw:HJ (bp elt t1 i1 t2 i2 t3 i3 scope pos) (some (.Name yy py)) spos.line X.env=pure true:=by rfl) (hs:∀x,Gj i1 X.env x=pure x:=by intro _;rfl) (hs2:∀(e:Env) x,Gj i2 e x=pure x:=by intro _ _;rfl) (hs3:∀(e:Env) x,Gj i3 e x=pure x:=by intro _ _;rfl) :
  VS K X (.Assign [.Name yy py] (bp elt t1 i1 t2 i2 t3 i3 scope pos) spos) (cQ (kE wi tg.length ix (mm wi2 1 (mm wi3 2 (iS te)))) (aX ii)) (lB (pI (kG vi tg.length ix (qh vi2 1 (qh vi3 2 (kF ve))))) (vgN ii)):=by
 have si2:SndI K wi2 vi2:=(hi2 0 [] X.s₀ (fun _=>none)).snd
 have si3:SndI K wi3 vi3:=(hi3 0 [] X.s₀ (fun _=>none)).snd
 have se:SndE K true te ve:=(he 0 [] X.s₀ (fun _=>none)).snd
 have un:∀{a b:Nat} {σ:St} {x:V},a≠b->Uns b σ->Uns b (σ.set a (some x)):=fun {a b σ x} h q v e=>by rw [Gh h] at e;exact q v e
 have h:SndN K (kE wi tg.length ix (mm wi2 1 (mm wi3 2 (iS te)))) (kG vi tg.length ix (qh vi2 1 (qh vi3 2 (kF ve)))):=
  qj (by lia) hnd hi.snd (tT si2 (tT si3 (tS se) fun _ _ _=>trivial) fun σ x q=>⟨un (by decide) q.1,trivial⟩) fun σ x=>⟨un (by decide) fun v e=>bN (by lia) e,un (by decide) fun v e=>bN hn e,trivial⟩
 exact ⟨qg hN0 hi0 hx0 Sc hcalm hn hi.pi hg (fun C fp s H=>(hi2 C fp s H).pi) hg2 (fun C fp s H=>(hi3 C fp s H).pi) hg3 (fun C fp s H=>(he C fp s H).pe) hf0 hsw hs hs2 hs3,iB (xj (m:=false) h) fun H0 Z σ H S v d Q C k r zt1 hc=>by obtain ⟨hi,q⟩:=zt1;exact hc _ _ _ (k.setVal hi r).1 (k.setVal hi r).2 q⟩
variable {S:List Sl} {β:Type}
def kIn (a:Nat) (va:gq) (ys:List D) (A:List D->List Sl->Prop):List D->List Sl->Prop:=fun es S5=>∃Jv:Nat->List D->List Sl->Prop,Jv 0 ys S5 /\
 (∀j e zs S6,es[j]?=some e->Jv j zs S6->a < S6.length/\va (S6.set a (.val e)) zs fun ws S9=>Jv (j+1) ws (msk S6 S9))/\∀zs S6,Jv es.length zs S6->A zs S6
theorem B5 {vi:VTN} {a:Nat} {va:gq} {ys:List D} {A:List D->List Sl->Prop} (h:vi S (kIn a va ys A)):qh vi a va S ys A:=h
def zh (zs:List D) (A:List D->List Sl->Prop):VR->List Sl->Prop:=fun r S1=>∃x,r=.d x/\A (zs++[x]) S1
theorem B6 {ve:VT} {zs:List D} {A:List D->List Sl->Prop} (hl:zs.length < 1000000) (h:ve S (zh zs A)):kF ve S zs A:=⟨hl,h⟩
theorem xk {zs:List D} {A:List D->List Sl->Prop} {x:D} (h:A (zs++[x]) S):zh zs A (.d x) S:=⟨x,rfl,h⟩
theorem oN {xs:List β} {en:β->D} {r:β->List D} {a:Nat} {va:gq} {ys:List D} {A:List D->List Sl->Prop} (hi:a < S.length) (n:Nat) (hr:∀x∈xs,(r x).length<=n)
  (h:∀x∈xs,∀(zs:List D) (A:List D->List Sl->Prop),zs.length<=ys.length+xs.length*n->(∀S5,msk S S5=S->A (zs++r x) S5)->va (S.set a (.val (en x))) zs A) (h2:A (ys++xs.flatMap r) S):kIn a va ys A (xs.map en) S:=by
 refine ⟨fun j zs S'=>S'=S/\zs=ys++(xs.take j).flatMap r,⟨rfl,by simp⟩,?_,?_⟩
 ·rintro i d zs S2 e ⟨rfl,rfl⟩
  obtain ⟨x,h1,rfl,hm,ht⟩:=aL e
  refine ⟨hi,h x hm _ _ ?_ fun S5 e5=>⟨e5,?_⟩⟩
  ·rw [GV,LU]
   have:∀l:List β,(∀x∈l,(r x).length<=n)->(l.map fun a=>(r a).length).sum<=l.length*n:=fun l=>by
    induction l with
    | nil=>intro _;simp
    | cons y l ih=>
     intro hl
     have h1:=ih fun x hx=>hl x (GB _ hx)
     have h2:=hl y FZ
     rw [Gq,List.sum_cons,Hf,Ld]
     lia
   have h3:=this (xs.take i) fun x hx=>hr x (HY hx)
   have h4:(xs.take i).length*n<=xs.length*n:=LD _ (by rw [JG];exact Nat.min_le_right _ _)
   lia
  ·rw [ht,IE,<- Gm]
   simp
 ·rintro zs S2 ⟨rfl,rfl⟩
  rw [FV,Hl]
  exact h2
def tU (n:Nat) (ix:List Nat) (va:gq) (Q:List D->List Sl->Prop):List D->List Sl->Prop:=fun ds S1=>∃Iv:Nat->List D->List Sl->Prop,Iv 0 [] S1 /\
 (∀i d ys S2,ds[i]?=some d->Iv i ys S2->va ((bg n ix S2).set 0 (.val d)) ys fun zs S6=>Iv (i+1) zs (backS n ix S2 S6))/\∀ys S2,Iv ds.length ys S2->ys.length<=1000000/\Q ys S2
theorem xl {vi:VTN} {n:Nat} {va:gq} {Q:List D->List Sl->Prop} (h:vi S (tU n ix va Q)):kG vi n ix va S Q:=h
theorem ql {xs:List β} {en:β->D} {r:β->List D} {n:Nat} {va:gq} {Q:List D->List Sl->Prop} (m:Nat) (hr:∀x∈xs,(r x).length<=m) (hm:xs.length*m<=1000000)
  (h:∀x∈xs,∀(zs:List D) (A:List D->List Sl->Prop),zs.length<=xs.length*m->(∀S5,backS n ix S S5=S->A (zs++r x) S5)->va ((bg n ix S).set 0 (.val (en x))) zs A) (h2:Q (xs.flatMap r) S):tU n ix va Q (xs.map en) S:=by
 have this:∀l:List β,(∀x∈l,(r x).length<=m)->(l.flatMap r).length<=l.length*m:=fun l=>by
  induction l with
  | nil=>intro _;simp
  | cons y l ih=>
   intro hl
   have h1:=ih fun x hx=>hl x (GB _ hx)
   have h2:=hl y FZ
   rw [Jy,GV,Hf,Ld]
   lia
 refine ⟨fun j zs S'=>S'=S/\zs=(xs.take j).flatMap r,⟨rfl,by simp⟩,?_,?_⟩
 ·rintro i d zs S2 e ⟨rfl,rfl⟩
  obtain ⟨x,h1,rfl,hx,ht⟩:=aL e
  refine h x hx _ _ ?_ fun S5 e5=>⟨e5,?_⟩
  ·have h3:=this (xs.take i) fun x hx=>hr x (HY hx)
   have h4:(xs.take i).length*m<=xs.length*m:=LD _ (by rw [JG];exact Nat.min_le_right _ _)
   lia
  ·rw [ht,IE]
   simp
 ·rintro zs S2 ⟨rfl,rfl⟩
  rw [FV,Hl]
  have h3:=this xs hr
  exact ⟨by lia,h2⟩
end
end VL
end
section
namespace VL
open PySem L2 PySem.W
section
variable {K:FO} {X:Cx} {o ie:Expr} {to ti:TE} {vo vi:VT} {pos:Pos} {S:List Sl} {Q:VR->List Sl->Prop}
theorem eu.delems {H0 H:Hp} {S:List Sl} (h:eu K F Z σ S H v r) (k:OK K H0 Z σ H S) (e:VL.get S r=some (dc kvs)):∃a es,v=.ref a/\(∃ob,H a=some (ck a ob es))/\es.map (·.1)=kvs.map (·.1)/\cD K H es/\Reps K (NM Z σ S) AnyF H (es.map (·.2.2)) (kvs.map (·.2)):=by
 cases r with
 | d y=>
  cases e
  obtain ⟨a,es,rfl,_,_,h1,h2,h3,_,h4⟩:=Rep.dct (show Rep K _ _ H v (.dic _ _) from h)
  exact ⟨a,es,rfl,h1,h2,h3,h4.mono (fun _ n _=>⟨n,rfl⟩) fun _ _=>trivial⟩
 | own i=>
  have h:σ[i]?=some (some v):=h
  have e:getO S[i]?=some (dc kvs):=e
  cases es:S[i]? with
  | none=>rw [es] at e;cases e
  | some s=>
   rw [es] at e
   cases s <;> first | (cases e;done) | skip
   case odi ks ds=>
    cases e
    obtain ⟨o,h1,a,es',rfl,h2,_,h3,h4⟩:=k.ownAt es
    rw [h] at h1
    cases h1
    exact ⟨a,es',rfl,h2,h3.1,dB (by rw [h3.1];exact h3.2),h4.mono (fun _ n _=>⟨n,rfl⟩) fun _ _=>trivial⟩
def zi (vo vi:VT):VT:=fun S Q=>vo S fun r S1=>vi S1 fun rk S2=>∃kvs ms d,get S2 r=some (dc kvs)/\get S2 rk=some (kT ms)/\getA kvs ms=some d/\Q (.d d) S2
theorem xm (hK:X.K=K) (hu:X.A.units+64 < KG) (ho:VE K X false o to vo) (hi:VE K X false ie ti vi) (hs:fK ie):VE K X false (.Subscript o ie pos) (tOp (oG K) to ti) (zi vo vi):=
 ⟨by subst hK;exact lg (ml hu) ho.pe hi.pe hs,fun H0 Z σ H S Q C k t hc=>by
  refine ho.snd H0 Z σ H S _ _ k t fun x H1 ra S1 k1 st1 r1 t1=>?_
  refine hi.snd H0 Z σ H1 S1 _ _ k1 t1 fun y H2 rb S2 k2 st2 r2 zr1=>?_
  obtain ⟨kvs,ms,d,e1,e2,ei,q⟩:=zr1
  obtain ⟨b,vs,rfl,hq,rr⟩:=Rep.sqT (show Rep K _ _ H2 y (.tup (ms.map D.int)) from r2.get k2 e2)
  cases Reps.toInts rr
  obtain ⟨a,es,rfl,ha,ek,hk,rv⟩:=(r1.step st2).delems k2 e1
  rcases ko (k:=ms) ek rv with ⟨z1,z2⟩ | ⟨v,d',z1,z2,r⟩
  ·rw [z2] at ei;cases ei
  ·rw [z2] at ei
   cases ei
   exact ⟨b,a,ms,es,v,rfl,rfl,SqN.of hq,ha,hk,z1,hc _ H2 (.d d) S2 k2 (st1.trans st2) (show Rep K _ _ _ v d from r.mono (fun _ n _=>⟨n,rfl⟩) fun _ _=>FM.any) q⟩⟩
def zj (vi:VT) (Q:VR->List Sl->Prop):VR->List Sl->Prop:=fun r S1=>vi S1 fun rk S2=>∃kvs ms d,get S2 r=some (dc kvs)/\get S2 rk=some (kT ms)/\getA kvs ms=some d/\Q (.d d) S2
def zk (r:VR) (Q:VR->List Sl->Prop):VR->List Sl->Prop:=fun rk S2=>∃kvs ms d,get S2 r=some (dc kvs)/\get S2 rk=some (kT ms)/\getA kvs ms=some d/\Q (.d d) S2
theorem B7 (h:vo S (zj vi Q)):zi vo vi S Q:=h
theorem xn (h:vi S (zk r Q)):zj vi Q r S:=h
theorem xo {r rk:VR} (e1:get S r=some (dc kvs)) (e2:get S rk=some (kT ms)) (e3:getA kvs ms=some d) (h:Q (.d d) S):zk r Q rk S:=⟨kvs,ms,d,e1,e2,e3,h⟩
end
end VL
end
section
namespace VL
open PySem L2
section
variable {K:FO} {X:Cx} {m:Bool} {e:Expr} {es:List Expr} {tr:TA} {vr:VTA} {x:Str} {p0 p pos:Pos} {j k:Nat} {ps:List Str} {S:List Sl} {QN:List D->List Sl->Prop}
theorem qm (hK:X.K=K) (hg:Gl X "sorted") (hm:X.mg "sorted"=none) (hb:G2 "sorted"=some (.builtin "sorted")) (ha:VA K X false [e] tr vr) (he:Gi [e] X.env=[(false,eval e X.env)]:=by rfl) :
  VN K X (.Call (.Name "sorted" p) [e] [] pos) (tCB (nh K) tr) (nj vr):=
 ⟨by subst hK;exact fI iP hg hm hb ha.pe (by decide) (by decide) he rfl,fun H0 Z σ H S Q C k t hc=>ha.snd H0 Z σ H S _ _ k t fun vs H1 rs S1 k1 st1 rrs zq1=>by
  obtain ⟨r,mss,e1,e2,h1,q⟩:=zq1
  subst e1
  obtain ⟨v,rfl,rv⟩:=rrs.one
  obtain ⟨a,ys,rfl,hq,rr⟩:=rv.elems k1 e2
  obtain ⟨ps,rfl,ht,_⟩:=gc rr
  exact ⟨a,ps,mss,rfl,hq,ht,h1,fun l ps' hl ht'=>hc l _ _ H1 _ S1 k1 st1 hl (aQ hl) az (bJ hl (dM k1.tupN ht')) q⟩⟩
end
end VL
end
section
namespace L2
open PySem PySem.Spec PyProof.Rows
theorem tV:G2 "reversed"=some (.type "reversed"):=by decide +kernel
def B8 (K:FO) (a:Addr) (n:Nat):It:=
 ⟨fun i H=>i < n/\∃xs x,SqL K H a xs/\xs.length=n/\xs[n-1-i]?=some x,fun i H x H'=>H'=H/\∀xs,SqL K H a xs->xs[n-1-i]?=some x,fun i H=>i=n/\∃xs,SqL K H a xs/\xs.length=n⟩
theorem tW {P:GD} {w:Hg} {tg:Expr} (a it:Addr) (n:Nat):Turn P w K tg (B8 K a n) [it] it (fun i h=>h.IsRevIter it a ((n:Int)-1-(i:Int))) where
 mem:=by simp
 obj:=fun i h st b hb=>by
  obtain rfl:b=it:=by simpa using hb
  obtain ⟨o,e,c,d⟩:=st
  exact ⟨o,e,fun v z=>by rw [d] at z;cases z⟩
 keep:=fun i h h' st k=>st.at fun o e=>k it (by simp) o e
 item:=by
  intro X hP hw hK hc i pins s σ H E I hf st hg
  subst hP hw hK
  obtain ⟨hi,xs,x,hq,hn,hx⟩:=hg
  obtain ⟨its,rv,p,hz⟩:=I.list hq
  obtain ⟨u,hu,ru⟩:=rv.get hx
  obtain ⟨f0,f1,f2,f3,f4,f5⟩:=hf it (by simp)
  have e1:(n:Int)-1-(i:Int)=((n-1-i:Nat):Int):=by lia
  have e2:((n-1-i:Nat):Int)-1=(n:Int)-1-((i+1:Nat):Int):=by lia
  have st:s.heap.IsRevIter it a ((n:Int)-1-(i:Int)):=st
  rw [e1] at st
  refine wpAny_pyNext_rev_item st p.isList (x:=u) (by simpa using hu) fun h' st' sb=>?_
  rw [e2] at st'
  have I1:Inv X pins σ H { s with heap:=h' }:=I.turned (t':=s.toks) (fun b o hb e=>(sb.2 b hb).trans e) f0 f1 f3 f4 f5
  obtain ⟨o,e,c,d⟩:=id st'
  exact ⟨u,rfl,kU (s:={ s with heap:=h' }) e c d (by decide) ⟨x,H,I1,ru,⟨rfl,fun ys hy=>by rw [I.list_inj hy hq];exact hx⟩,st',fun b hb=>(hf b hb).1⟩⟩
 done:=by
  intro X hP hw hK hc i pins s σ H E I hf st hg
  subst hP hw hK
  obtain ⟨rfl,xs,hq,hx⟩:=hg
  obtain ⟨f0,f1,f2,f3,f4,f5⟩:=hf it (by simp)
  have st:s.heap.IsRevIter it a ((i:Int)-1-(i:Int)):=st
  rw [show (i:Int)-1-(i:Int)=-1 by lia] at st
  exact wpAny_pyNext_rev_end (I.ok.hd hc) st fun h' eb=>⟨rfl,I.turned (t':=s.toks) (fun b o hb e=>eb b o hb e) f0 f1 f3 f4 f5⟩
 self:=fun _ _ _ _ _ st h=>LF st h
section
variable {X:Cx}
def ET (K:FO) (ta:TA):TI:=fun σ H R=>ta σ H fun vs H1=>∃l,vs=[.ref l]/\∃xs,SqL K H1 l xs/\R (B8 K l xs.length) H1
theorem B9 {tg a:Expr} {ta:TA} {p pos:Pos} (hg:Gl X "reversed") (hm:X.mg "reversed"=none) (ha:PA X [a] ta) (hs:Gi [a] X.env=[(false,eval a X.env)]:=by rfl):PI X tg (.Call (.Name "reversed" p) [a] [] pos) (ET X.K ta):=by
 intro pins s σ H R I h
 refine Call_ (d7 I hg hm tV (Hs (thn (ha pos pins s σ H _ I h) fun us s1 zr1=>?_) hs rfl))
 obtain ⟨vs,H1,I1,r1,q1⟩:=zr1
 obtain ⟨l,e,xs,hq,q⟩:=q1
 subst e
 cases r1 with
 | cons r rr=>
  cases rr
  cases r
  obtain ⟨its,rv,pl,hz⟩:=I1.list hq
  refine call_reversed_list pl.isList ?_
  have I2:Inv X pins σ H1 { s1 with heap:=s1.heap.push (revObj l (((its.toArray).size:Int)-1)) }:=I1.kept (t':=s1.toks) fun b o e=>FT _ e
  have en:(((its.toArray).size:Nat):Int)-1=(xs.length:Int)-1:=by rw [rv.length];simp
  have sz:(s1.heap.push (revObj l (((its.toArray).size:Int)-1))).IsRevIter s1.heap.objs.size l ((xs.length:Int)-1-((0:Nat):Int)):=by
   rw [<- en,Int.natCast_zero,Int.sub_zero]
   exact ⟨_,Gn _ rfl,rfl,rfl⟩
  refine LF (s:={ s1 with heap:=s1.heap.push (revObj l (((its.toArray).size:Int)-1)) }) sz ⟨s1.heap.objs.size,[s1.heap.objs.size],_,B8 X.K l xs.length,H1,rfl,I2,tW l _ _,sz,fun b hb=>?_,q⟩
  obtain rfl:=List.mem_singleton.mp hb
  exact I1.fpOk (FX _) (I1.hok.fresh (FX _))
end
end L2
namespace VL
open PySem L2
section
variable {K:FO} {X:Cx} {a tg:Expr} {tr:TA} {vr:VTA} {S:List Sl} {QN:List D->List Sl->Prop} {p pos:Pos}
def EU (vr:VTA):VTN:=fun S Q=>vr S fun rs S1=>∃ds,rs=[.d (.lst ds)]/\Q ds.reverse S1
theorem Ca (hK:X.K=K) (hg:Gl X "reversed") (hm:X.mg "reversed"=none) (ha:VA K X false [a] tr vr) (hs:Gi [a] X.env=[(false,eval a X.env)]:=by rfl) :
  VI K X tg (.Call (.Name "reversed" p) [a] [] pos) (ET K tr) (EU vr):=⟨by subst hK;exact B9 hg hm ha.pe hs,fun H0 Z σ H S Q C k t hc=>
 ha.snd H0 Z σ H S _ _ k t fun vs H1 rs S1 k1 st1 rrs zq1=>by
  obtain ⟨ds,e,q⟩:=zq1
  subst e
  obtain ⟨v,rfl,rv⟩:=rrs.one
  have rv:Rep K _ _ H1 v (.lst ds):=rv
  obtain ⟨l,xs,rfl,hq,r0⟩:=rv.sqL
  refine ⟨l,rfl,xs,hq,hc _ ds.reverse H1 S1 k1 st1 (fun σ2 S2 H2 nm st2 i=>?_) q⟩
  obtain ⟨l',xs',e,hq2,r2⟩:=(rv.stp st2).sqL
  cases e
  have hl:xs.length=ds.length:=r0.length
  have hl2:xs'.length=xs.length:=by rw [r2.length,hl]
  rw [J4]
  refine ⟨fun hi=>?_,fun x H3 hy hi=>?_,fun hi=>⟨by lia,xs',hq2,hl2⟩⟩
  ·obtain ⟨y,h1,_⟩:=r2.getD (FS (show xs.length-1-i < ds.length by lia))
   exact ⟨by lia,xs',y,hq2,hl2,h1⟩
  ·obtain ⟨rfl,hy⟩:=hy
   obtain ⟨d,h3,h4⟩:=r2.get (hy xs' hq2)
   exact ⟨fun _ _=>rfl,d,by rw [JF hi,<- hl];exact h3,h4.mono (fun b n _=>⟨n,rfl⟩) fun _ _=>trivial⟩⟩
def EW (QN:List D->List Sl->Prop):List VR->List Sl->Prop:=fun rs S1=>∃ds,rs=[.d (.lst ds)]/\QN ds.reverse S1
theorem EX (h:vr S (EW QN)):EU vr S QN:=h
theorem Cb (h:QN ds.reverse S):EW QN [.d (.lst ds)] S:=⟨ds,rfl,h⟩
end
end VL
end
section
namespace VL
open PySem L2
section
variable {K:FO} {X:Cx} {stm:Stmt} {ts:TS} {t:VTS}
def zm (i:Nat) (t:VTS):VTS:=fun V S=>∃kvs,S[i]?=some (od kvs)/\t V (S.set i (.fre (dc kvs)))
theorem xp (i:Nat) (h:VS K X stm ts t):VS K X stm ts (zm i t):=⟨h.ps,fun H0 Z σ H S V E k zq1 l=>by
 obtain ⟨kvs,e,t⟩:=zq1
 obtain ⟨k',st⟩:=k.wk (oF e)
 have hi:i < S.length:=(List.getElem?_eq_some_iff.mp e).1
 obtain ⟨o,g1,a,es,rfl,⟨ob,g2⟩,g3,g4,g5⟩:=k.ownAt e
 have na:NM Z σ (S.set i (.val (dc kvs))) a:=fun z=>by
  rcases z with ⟨j,s,z1,z2,z3⟩ | z
  ·by_cases hj:j=i
   ·subst hj
    rw [Gw hi] at z1
    cases z1
    cases z2
   ·rw [Gh (Ia hj)] at z1
    exact hj (k.inj j i a s _ z1 e z2 rfl z3 g1)
  ·exact k.nz i _ a e rfl g1 z
 have hσ:σ.set i (some (L2.V.ref a))=σ:=Ig fun n=>by
  rw [KE]
  split
  ·rename_i q
   subst q
   rw [g1,if_pos (List.getElem?_eq_some_iff.mp g1).1]
  ·rfl
 obtain ⟨k2,st2⟩:=k'.setFre (i:=i) (v:=.ref a) (d:=dc kvs) (by rw [Lb];exact hi) (.dic na ⟨a,rfl,g3⟩ g2 g4.1 (Reps.flat (g4.2.step st) (et _)) (g5.step st))
 rw [hσ,List.set_set] at k2 st2
 exact h.snd H0 Z σ H _ V E k2 t (l.step (st.trans st2))⟩
theorem Cd {i:Nat} {V:bz} (e:S[i]?=some (od kvs)) (h:t V (S.set i (.fre (dc kvs)))):zm i t V S:=⟨kvs,e,h⟩
end
end VL
end
section
namespace VL
open PySem L2
section
variable {K:FO} {X:Cx} {i:Nat} {nw:Prop} {e oi:Expr} {te:TE} {va:VT} {pos:Pos} {rest:List Stmt} {u:TS} {w:VTS}
def xq (va:VT) (w:VTS):VTG:=fun d V S=>∃d0 ds r,d=.tup (d0::.lst ds::r)/\ds.length<=1000000/\(va (lend S) fun _ _=>True)/\w V S
theorem nq {apos cpos epos spos p0:Pos} {j0:Nat} (hK:X.K=K) (hoi:PE X oi (cA i)) (h:VE K X false e te va) (g:VSs K X rest u w)
  (hbase:Jn (.Subscript oi (.Constant (.int 1) j0 p0) spos) "append" X.env (eval (.Subscript oi (.Constant (.int 1) j0 p0) spos) X.env)=eval (.Subscript oi (.Constant (.int 1) j0 p0) spos) X.env:=by rfl)
  (hfew:((IV cpos (Gi (e::[]) X.env)).all (fun x=>!x.1)&&(M8 cpos (LN [] X.env)).all (fun x=>x.1.isSome)
   && decide ((e::[]).length+([]:List LO).length+(if ([]:List LO).isEmpty then 0 else 1) < 30))=true:=by rfl)
  (hline:(apos.endLine==cpos.line)=true:=by rfl) (hs:Gi (e::[]) X.env=(false,eval e X.env)::Gi [] X.env:=by rfl) (hplain:(IV cpos (Gi [] X.env)).any (·.1)=false:=by rfl)
  (hsw:HJ (.Call (.Attribute (.Subscript oi (.Constant (.int 1) j0 p0) spos) "append" apos) [e] [] cpos) none epos.line X.env=pure false:=by rfl) :
  GSs K X i nw (.Expr (.Call (.Attribute (.Subscript oi (.Constant (.int 1) j0 p0) spos) "append" apos) [e] [] cpos) epos::rest) (mE (nJ (tBM K "list" fL (tOp (rIx K) (cA i) (tC (.int 1))) (dX te i7))) u) (xq va w):=
 ⟨dr (jQ (by subst hK;exact qQ Jo Kx Ky ji (lg qO hoi mD fun _ _=>rfl) (cL h.pe fx hs) hbase hfew hline hs hplain) hsw) g.ps,fun H0 Z P σ1 S1 H1 σ H S v d V E gd zq l=>by
  obtain ⟨d0,ds,r,rfl,hl,hva,hw⟩:=zq
  have rep:=gd.rep
  have kZ:∀H',(∀b,H b≠none->¬P b->H' b=H b)->(∀b,H' b=none->H b=none)->OK K H0 Z σ H' S:=fun H' h1 h2=>gd.ok.chP h1 h2 gd.dj
  obtain ⟨p,vs,rfl,hq,rr⟩:=Rep.sqT rep
  cases rr with
  | @cons v9 _ vs9 _ r9 rt9=>
  cases rt9 with
  | @cons v0 _ vs' _ r0 rt=>
  have inner:∃b us,v0=.ref b/\P b/\H b=some (.lst us)/\us.length<=1000000:=by
   cases r0 with
   | lst n f hh rr=>obtain ⟨c,ec,hc⟩:=f;cases ec;exact ⟨_,_,rfl,hc,hh,by rw [rr.length];exact hl⟩
   | lstF n f hh rr=>obtain ⟨c,ec,hc⟩:=f;cases ec
   | lstK f hh rr=>obtain ⟨c,ec,hc⟩:=f;cases ec
  obtain ⟨b,us,rfl,hPb,hbl,hul⟩:=inner
  refine ⟨.ref p,gd.sv,.inr (.inl ⟨p,_,1,.ref b,rfl,rfl,hq,(by unfold atI ixN;rw [if_pos (by decide),if_pos (by simp only [Hf];lia)];rfl),.inl ⟨rfl,us,.inl (.inl hbl)⟩,?_⟩)⟩
  have k0:=((kZ H (fun _ _ _=>rfl) fun _ e=>e).wk (cw S)).1
  refine h.snd H0 Z _ H _ _ _ k0 hva fun z H4 r4 S4 k4 st4 _ _=>?_
  have g4:=(eZ S).grow st4
  have hbl4:H4 b=some (.lst us):=(g4 b (by rw [hbl];exact Option.some_ne_none _)).trans hbl
  refine ⟨b,us,z,rfl,rfl,hbl4,by rw [G9];lia,?_⟩
  have h1:∀c,H c≠none->¬P c->upd H4 b (.lst (us++[z])) c=H c:=fun c hc hp=>by
   have hcb:c≠b:=fun z=>hp (by rw [z];exact hPb)
   rw [aw hcb]
   exact g4 c hc
  have h2:∀c,upd H4 b (.lst (us++[z])) c=none->H c=none:=fun c hc=>by
   by_cases hcb:c=b
   ·subst hcb
    rw [az] at hc;cases hc
   ·rw [aw hcb] at hc
    exact GF fun z=>by rw [g4 c z] at hc;exact z hc
  have stp:Step Z σ1 S1 H1 σ S (upd H4 b (.lst (us++[z]))):=⟨fun c n z=>by
    obtain ⟨y1,y2⟩:=gd.st.1 c n z
    exact ⟨(h1 c (by rw [y1];exact z) fun p=>z (gd.yo c p)).trans y1,y2⟩,fun c z=>gd.st.2.1 c (h2 c z),fun c z y=>by
    have y1:=gd.st.2.2 c z y
    exact (h1 c (by rw [y1];exact y) fun p=>gd.dj c p z).trans y1⟩
  exact g.snd H0 Z _ _ _ V E (kZ _ h1 h2) hw (l.step stp)⟩
end
end VL
end
section
namespace L2
open PySem PySem.Spec PyProof.Rows
section
variable {prog:GD} {w:Hg} {A:Ho} {E:FU->FW->Prop} {s:FW}
theorem xr (d:Addr) (n:Nat):MeetsIn prog w (Builtin.«dict.__len__» ⟨[.ref d],[]⟩) (fun _ R s=>((d==Iq)=false/\∃o es ep,s.heap.get? d=some o/\o.data=.dict es ep/\es.size=n)/\R (.ok (.ret (.int n s.toks))) { s with toks:=s.toks+1 }):=
 .of_wp fun A R s ⟨⟨hd,o,es,ep,ho,hdat,hn⟩,h⟩=>by
  show GU _ _ (dictSize d >>= _) _ _ s
  unfold dictSize
  refine FR (FR (Jx ho hdat (F7 ?_)))
  show GU _ _ (Builtin.Dict.pendingCount d >>= _) _ _ s
  refine FR (wpAny_pendingCount_other hd (wpAny_ret_mkInt ?_))
  subst hn
  exact h
theorem nu {d:Addr} {n:Nat} {Q:Bool->FW->Prop} (ty:s.TypeIs (.ref d) "dict") (hm:(d==Iq)=false/\∃o es ep,s.heap.get? d=some o/\o.data=.dict es ep/\es.size=n) (hf:n < 2 ^ 62)
  (h:Q (n != 0) { s with toks:=s.toks+1+1 }):GU (GM prog w) A (Mu (.ref d)) Q E s:=by
 have go:GU (GM prog w) A (runValue (.builtin "len" ⟨[.ref d],[]⟩)) (fun r s'=>r=.int n (s.toks+1)/\Q (n != 0) s') E s:=by
  refine wpAny_runValue (J3 entry_len ?_)
  rw [JL plain_len _]
  have body:GU (GM prog w) A.in1 (Builtin.«len» ⟨[.ref d],[]⟩) (fun fin s'=>∃r,fin=.done (.ret r)/\(r=.int n (s.toks+1)/\Q (n != 0) s')) E s:=by
   unfold Builtin.«len»
   refine FR (m:=oneArg "len" _) (F7 ?_)
   refine FR (m:=callSpecial? (.ref d) (Lk "__len__")) (Jp (name:=Lk "__len__") ty F.slot_dict_len
    (call_meetsIn F.slot_dict_len ty F.entry_dict_len (F.args_dict_len_1 _) (xr d n) ⟨hm,?_⟩))
   show GU _ _ _ _ _ { s with toks:=s.toks+1 }
   refine FR (Hn (F7 (FR (wpAny_letGo ?_))))
   show GU _ _ (if ((n:Nat):Int) < 0 then _ else _) _ _ _
   rw [if_neg (by lia)]
   show GU _ _ (if ((n:Nat):Int) >= 2 ^ 63 then _ else _) _ _ _
   rw [if_neg (by lia)]
   exact FR (MO (F7 ⟨_,rfl,rfl,h⟩))
  exact Gy body (fun fin s' z=>by obtain ⟨r,rfl,q⟩:=z;exact q) fun _ _ e=>e
 have ne:((n:Int) != 0)=(n != 0):=by cases n <;> simp <;> lia
 unfold Mu
 refine FR (wpAny_callSpecial?_none (name:="__bool__") ty noBool_dict (FR (wpAny_specialOf (name:="__len__") ty F.slot_dict_len.lookup (FR (Gy go (fun r s' z=>?_) fun _ _ z=>z)))))
 rw [z.1]
 exact F7 (ne▸z.2)
end
section
variable {X:Cx}
theorem xt {a:Expr} {ta:TE} (ha:PE X a ta) (he:∀whole,LG a X.env whole=(do let v <- whole;IW a.pos;IY [v] (Mu v))) :
  PT X a (fun σ H Q=>ta σ H fun x H'=>∃d ob es,x=.ref d/\H' d=some (ck d ob es)/\Q (es.length != 0) H'):=by
 intro pins s σ H Q I h
 refine Mw (thn (ha pins s σ H _ I h) fun v s1 zr1=>?_) (he _)
 obtain ⟨x,H1,I1,r1,d,ob,es,e1,e2,q1⟩:=zr1
 subst e1
 cases r1
 obtain ⟨⟨z,m,nd,xs,ev,o,ds,ep,ho,⟨hc,hr⟩,hdat,hl⟩,_⟩:=jX I1 e2
 have hn:ds.size=es.length:=by
  have h1:ds.toList.length=xs.length:=by rw [hl,FV]
  have h2:es.length=xs.length:=ev.length
  rw [<- GQ,h1,h2]
 refine nu (n:=es.length) ⟨o,ho,hc⟩ ⟨m,o,ds,ep,ho,hdat,hn⟩ (by rw [G9] at z;lia) ⟨H1,I1.tok _,q1⟩
end
end L2
namespace VL
open PySem L2
section
variable {K:FO} {X:Cx} {e:Expr} {te:TE} {va:VT} {S:List Sl} {QT:Bool->List Sl->Prop}
def zo (va:VT):VTT:=fun S Q=>va S fun r S1=>∃kvs,get S1 r=some (dc kvs)/\Q (kvs.length != 0) S1
theorem xu (hK:X.K=K) (h:VE K X false e te va) (he:∀whole,LG e X.env whole=(do let v <- whole;IW e.pos;IY [v] (Mu v)):=by intro _;rfl):VTe K X e (fun σ H Q=>te σ H fun x H'=>∃d ob es,x=.ref d/\H' d=some (ck d ob es)/\Q (es.length != 0) H') (zo va):=
 ⟨xt h.pe he,fun H0 Z σ H S Q C k t hc=>h.snd H0 Z σ H S _ _ k t fun v H1 r S1 k1 st1 rr ⟨kvs,e1,q⟩=>by
  obtain ⟨a,es,rfl,⟨ob,h1⟩,h2,_⟩:=rr.delems k1 e1
  refine ⟨a,ob,es,rfl,h1,?_⟩
  rw [show es.length=kvs.length by have:=congrArg KH h2;simpa using this]
  exact hc _ H1 S1 k1 st1 q⟩
def zp (QT:Bool->List Sl->Prop):VR->List Sl->Prop:=fun r S1=>∃kvs,get S1 r=some (dc kvs)/\QT (kvs.length != 0) S1
theorem Ce (h:va S (zp QT)):zo va S QT:=h
theorem xw (e:get S r=some (dc kvs)) (h:QT (kvs.length != 0) S):zp QT r S:=⟨kvs,e,h⟩
end
end VL
end
section
namespace VL
open PySem L2
section
variable {K:FO} {X:Cx} {m:Bool} {e e2:Expr} {te te2:TE} {pos:Pos}
def zr (p:List Int->List D->(D->List Int->Prop)->Prop) (t:VTN) (v2:VT):VT:=fun S Q=>t S fun ds S1=>v2 S1 fun r S2=>∃(ns:List Int) (c:D),ds=ns.map D.int/\r=.d c/\p ns [c] fun d _=>Q (.d d) S2
theorem xy {x:Str} {p0:Pos} {j k:Nat} {ps:List Str} {t:VTN} {v2:VT} {p:List Int->List D->(D->List Int->Prop)->Prop} (E:Has X.prog X.w X.K X.mg X.base k x ps (spI K 0 p)) (hr:bV j X.A) (h:VN K X e te t) (h2:VE K X false e2 te2 v2)
  (hk:k<=j:=by decide) (hg:Gl X x:=by rfl) (hdb:(x==("__debug__":Str))=false:=by decide) (he:Gi (e::[e2]) X.env=(false,eval e X.env)::Gi [e2] X.env:=by rfl)
  (he2:Gi [e2] X.env=(false,eval e2 X.env)::Gi [] X.env:=by rfl)
  (hpl:(IV pos (Gi [e2] X.env)).any (·.1)=false:=by rfl):VE K X m (.Call (.Name x p0) (e::[e2]) [] pos) (h9 (spI K 0 p) [] E0 (dX te (dX te2 i7))) (zr p t v2):=⟨nS E hr (cL h.pe (cL h2.pe fx he2) he) hk hg hdb he hpl,fun H0 Z σ H S Q C k t hc=>
 h.snd H0 Z σ H S _ _ k t fun a vs ds H1 H' S1 k1 st1 ha hg hl rr zq1=>by
  have hne:∀b,H1 b≠none->b≠a:=fun b hb z=>hb (by rw [z];exact ha)
  have k1':OK K H0 (fun b=>Z b\/b=a) σ H' S1:=k1.zoneG (fun b n e=>⟨fun z=>by
    rcases z with z | z | z
    ·exact n (.inl z)
    ·exact n (.inr z)
    ·exact hne b e z,hg b e⟩) (fun b e=>k1.dom b (GF fun z=>by rw [hg b z] at e;exact z e)) (fun b z=>by
    rcases z with z | z
    ·have q:=k1.zl b z
     rw [hg b q.ne];exact q
    ·rw [z,hl];trivial) hg fun i s b y1 y2 y3 z=>by
    rcases z with z | z
    ·exact k1.nz i s b y1 y2 y3 z
    ·exact hne b (k1.here y1 y2 y3) z
  refine h2.snd H0 _ σ H' S1 _ _ k1' zq1 fun v2 H2 r S2 k2 st2 rr2 zq2=>?_
  obtain ⟨ns,c,e1,er,q⟩:=zq2
  subst e1;subst er
  have rc:=show Rep K _ _ H2 v2 c from rr2
  cases Reps.toInts rr
  have hl2:H2 a=some (.lst (ns.map L2.V.int)):=(st2.2.2 a (.inr rfl) (by simp [hl])).trans hl
  refine ⟨a,[],[v2],ns,[],[c],_,rfl,rfl,hl2,.nil,.cons (rc.mono (fun b n _=>⟨fun z=>n (.inr (.inr z)),rfl⟩) fun _ _=>trivial) .nil,q,fun d ns' v H3 q g ga rv=>?_⟩
  have unz:∀b,NM (fun b=>Z b\/b=a) σ S2 b->NM Z σ S2 b:=fun b n z=>n (z.elim .inl fun z=>.inr (.inl z))
  have kc:=k2.chgZ (b:=a) (o:=.lst (ns'.map L2.V.int)) (.inr rfl) trivial
  have gr:∀b,upd H2 a (.lst (ns'.map L2.V.int)) b≠none->H3 b=upd H2 a (.lst (ns'.map L2.V.int)) b:=fun b hb=>by
   by_cases z:b=a
   ·rw [z,az];exact ga
   ·rw [aw z] at hb ⊢;exact g b z hb
  have kg:=kc.grow gr
  have k3:OK K H0 Z σ H3 S2:=kg.zone (fun b n _=>unz b n) (fun b z=>kg.zl b (.inl z)) fun i s b y1 y2 y3 z=>kg.nz i s b y1 y2 y3 (.inl z)
  have st3:Step Z σ S1 H1 σ S2 H3:=by
   refine ⟨fun b n e=>?_,fun b e=>?_,fun b z e=>?_⟩
   ·have n':NM (fun b=>Z b\/b=a) σ S1 b:=fun z=>by
     rcases z with z | z | z
     ·exact n (.inl z)
     ·exact n (.inr z)
     ·exact hne b e z
    have e':=hg b e
    obtain ⟨m1,m2⟩:=st2.1 b n' (by rw [e'];exact e)
    exact ⟨(g b (hne b e) (by rw [m1,e'];exact e)).trans (m1.trans e'),unz b m2⟩
   ·exact GF fun z=>by
     have e':=hg b z
     have e2:H2 b≠none:=fun y=>z (by rw [<- e'];exact st2.2.1 b y)
     rw [g b (hne b z) e2] at e
     exact e2 e
   ·have e':=hg b e
    have m1:=st2.2.2 b (.inl z) (by rw [e'];exact e)
    exact (g b (hne b e) (by rw [m1,e'];exact e)).trans (m1.trans e')
  refine hc v H3 (.d d) S2 k3 (st1.trans st3) (show Rep K _ _ H3 v d from ?_) q
  exact (Rep.avoid (N':=NM Z σ S2) (fun b z=>k3.mo (Classical.not_not.mp z)) (fun b zq1=>by obtain ⟨c,ec,f⟩:=zq1;cases ec;exact unz _ (k2.nm f)) rv).mono (fun _ n _=>⟨n,rfl⟩) (fun o zt1 _=>by obtain ⟨c,ec,f⟩:=zt1;exact ⟨c,ec,k2.dom c f⟩)⟩
variable {S:List Sl} {Q:VR->List Sl->Prop} {vn:VTN} {v2:VT}
@[irreducible] def iT (ds:List D) (p:List Int->List D->(D->List Int->Prop)->Prop) (Q:VR->List Sl->Prop):VR->List Sl->Prop:=fun r S2=>∃(ns:List Int) (c:D),ds=ns.map D.int/\r=.d c/\p ns [c] fun d _=>Q (.d d) S2
@[irreducible] def oO (v2:VT) (p:List Int->List D->(D->List Int->Prop)->Prop) (Q:VR->List Sl->Prop):List D->List Sl->Prop:=fun ds S1=>v2 S1 (iT ds p Q)
theorem Cf {p:List Int->List D->(D->List Int->Prop)->Prop} (h:vn S (oO v2 p Q)):zr p vn v2 S Q:=by unfold oO iT at h;exact h
theorem xA {p:List Int->List D->(D->List Int->Prop)->Prop} (h:v2 S (iT ds p Q)):oO v2 p Q ds S:=by unfold oO;exact h
theorem tX {p:List Int->List D->(D->List Int->Prop)->Prop} {c:D} (e:ds=ns.map D.int) (h:p ns [c] fun d _=>Q (.d d) S):iT ds p Q (.d c) S:=by unfold iT;exact ⟨ns,c,e,rfl,h⟩
end
end VL
end
local macro_rules | `(tactic| walk_at "L") => `(tactic| (intros; rename_i z; repeat' (first | (obtain ⟨e, _⟩ := z; subst e; rfl) | (obtain ⟨_, z⟩ := z))))
local macro_rules | `(tactic| walk_at "s") => `(tactic| exact ⟨rfl, rfl, rfl, by decide +kernel, rfl, by decide +kernel, by decide +kernel⟩)
theorem My.len1 {α:Type} {l:List α} (h:l.length=1):∃a0,l=[a0]:=match l,h with|[a0],_=>⟨a0,rfl⟩
local macro_rules | `(tactic| walk_at "1") => `(tactic| exact (fun _ _ _ _ _ _ us hl => by obtain ⟨_,e⟩ := My.len1 hl; subst e; exact rfl))
theorem My.len2 {α:Type} {l:List α} (h:l.length=2):∃a0 a1,l=[a0,a1]:=match l,h with|[a0,a1],_=>⟨a0,a1,rfl⟩
local macro_rules | `(tactic| walk_at "2") => `(tactic| exact (fun _ _ _ _ _ _ us hl => by obtain ⟨_,_,e⟩ := My.len2 hl; subst e; exact rfl))
theorem My.len3 {α:Type} {l:List α} (h:l.length=3):∃a0 a1 a2,l=[a0,a1,a2]:=match l,h with|[a0,a1,a2],_=>⟨a0,a1,a2,rfl⟩
local macro_rules | `(tactic| walk_at "3") => `(tactic| exact (fun _ _ _ _ _ _ us hl => by obtain ⟨_,_,_,e⟩ := My.len3 hl; subst e; exact rfl))
theorem My.len5 {α:Type} {l:List α} (h:l.length=5):∃a0 a1 a2 a3 a4,l=[a0,a1,a2,a3,a4]:=match l,h with|[a0,a1,a2,a3,a4],_=>⟨a0,a1,a2,a3,a4,rfl⟩
local macro_rules | `(tactic| walk_at "5") => `(tactic| exact (fun _ _ _ _ _ _ us hl => by obtain ⟨_,_,_,_,_,e⟩ := My.len5 hl; subst e; exact rfl))
local macro_rules | `(tactic| walk_at "rd1") => `(tactic| first
 | with_reducible refine VL.Cf ?_
 | with_reducible refine VL.xA ?_
 | with_reducible refine VL.wN ?_
 | with_reducible refine VL.tO ?_
 | with_reducible refine VL.EX ?_
 | with_reducible refine VL.Cb ?_
 | with_reducible refine VL.Ce ?_
 | with_reducible refine VL.ES ?_
 | with_reducible refine VL.w9 ?_
 | with_reducible refine VL.xl ?_
 | with_reducible refine VL.B5 ?_
 | with_reducible refine VL.B7 ?_
 | with_reducible refine VL.xn ?_
 | ((with_reducible refine' VL.lJ ?h ?_);(case h=>exact rfl))
 | with_reducible refine VL.wJ ?_
 | with_reducible refine VL.wt ?_
 | with_reducible refine VL.BK ?_
 | with_reducible refine VL.BL ?_
 | ((with_reducible refine' VL.BM ?h ?_);(case h=>exact rfl))
 | with_reducible refine VL.wz ?_
 | with_reducible refine VL.BN ?_
 | ((with_reducible refine' VL.EK ?h ?_);(case h=>exact rfl))
 | with_reducible refine VL.BY ?_
 | with_reducible refine VL.wU ?_
 | with_reducible refine VL.BZ ?_
 | with_reducible refine VL.wZ ?_
 | with_reducible refine VL.EO ?_
 | with_reducible refine VL.w4 ?_
 | ((with_reducible refine' VL.BG ?h ?_);(case h=>exact Gf rfl))
 | with_reducible refine VL.j_c ?_
 | with_reducible refine VL.j_2 ?_
 | with_reducible refine VL.Fv ?_
 | ((with_reducible refine' VL.Fw ?h1 ?h2 ?_);(case h1=>exact rfl);(case h2=>exact rfl))
 | with_reducible refine VL.DB ?_
 | with_reducible refine VL.D7 ?_
 | with_reducible refine VL.D8 ?_
 | ((with_reducible refine' VL.DC ?h ?_);(case h=>first | exact (by decide) | exact .inl ⟨by decide,by decide⟩ | exact .inr ⟨by decide,by decide⟩ | (show (0:Int) < _;lia) | (show (0:Int)<=_;lia) | exact ⟨by decide,by decide,by decide⟩ | exact ⟨by lia,by lia,by lia⟩ | exact ⟨by lia,by lia⟩ | exact .inl ⟨by lia,by lia⟩ | exact .inr ⟨by lia,by lia⟩))
 | with_reducible refine VL.AZ ?_
 | with_reducible refine VL.vB ?_
 | with_reducible refine VL.Du ?_
 | with_reducible refine VL.Dw ?_
 | with_reducible refine VL.AQ ?_
 | ((with_reducible refine' VL.Fs ?h ?_);(case h=>exact rfl);(try dsimp only [GW,Hi]))
 | with_reducible refine VL.AO ?_
 | with_reducible refine VL.DA ?_
 | with_reducible refine VL.rO ?_
 | with_reducible refine VL.rP ?_
 | with_reducible refine VL.Dz ?_
 | ((with_reducible refine' VL.AU ?h ?_);(case h=>exact rfl))
 | with_reducible refine VL.AV ?_
 | with_reducible refine VL.vz ?_
 | with_reducible refine VL.AW ?_
 | with_reducible refine VL.AX ?_
 | ((with_reducible refine' VL.vA ?h ?_);(case h=>first | exact rfl | simp only [VL.flat,VL.flats,VL.cU,VL.eT,VL.fR,Bool.and_self]))
 | with_reducible refine VL.rR ?_
 | with_reducible refine VL.Fx ?_
 | with_reducible refine VL.DE ?_
 | ((with_reducible refine' VL.cJ ?h1 ?h2 ?h3 ?_);(case h1=>exact rfl);(case h2=>exact rfl);(case h3=>exact rfl))
 | ((with_reducible refine' VL.DF ?h1 ?h2 ?h3 ?_);(case h1=>exact rfl);(case h2=>exact rfl);(case h3=>first | exact rfl | exact VL.at_0))
 | with_reducible refine VL.DL ?_
 | with_reducible refine VL.A5 ?_
 | with_reducible refine VL.vI ?_
 | with_reducible refine VL.DM ?_
 | ((with_reducible refine' VL.A6 ?h1 ?h2 ?_);(case h1=>exact rfl);(case h2=>exact rfl))
 | with_reducible refine VL.DO ?_
 | ((with_reducible refine' VL.A7 ?h1 ?h2 ?_);(case h1=>exact rfl);(case h2=>exact rfl))
 | with_reducible refine VL.DQ ?_
 | with_reducible refine VL.A8 ?_
 | with_reducible refine VL.FC ?_
 | ((with_reducible refine' VL.DR ?h ?_);(case h=>exact rfl))
 | with_reducible refine VL.A9 ?_
 | with_reducible refine VL.Ba ?_
 | with_reducible refine VL.FD ?_
 | with_reducible refine VL.FE ?_
 | with_reducible refine VL.DT ?_
 | ((with_reducible refine' VL.Bb ?h ?_);(case h=>exact rfl))
 | with_reducible refine VL.DV ?_
 | ((with_reducible refine' VL.Bc ?h1 ?h2 ?h3 ?_);(case h1=>exact rfl);(case h2=>exact rfl);(case h3=>exact rfl))
 | with_reducible refine VL.AS ?_
 | ((with_reducible refine' VL.vw ?h ?_);(case h=>exact rfl);(try dsimp only [GW,Hi]))
 | with_reducible refine VL.AT ?_
 | ((with_reducible refine' VL.j6 ?h ?_);(case h=>exact rfl);(try dsimp only [GW,Hi]))
 | with_reducible refine VL.vK ?_
 | ((with_reducible refine' VL.sd ?h1 ?h2 ?_);(case h1=>exact rfl);(case h2=>exact rfl))
 | ((with_reducible refine' VL.pM ?h1 ?h2 ?h3 ?_);(case h1=>exact rfl);(case h2=>exact rfl);(case h3=>exact rfl);(try dsimp only [GW,Hi]))
 | ((with_reducible refine' VL.DX ?h ?_);(case h=>exact rfl))
 | with_reducible refine VL.DY ?_
 | ((with_reducible refine' VL.mW ?h1 ?h2 ?_);(case h1=>exact rfl);(case h2=>first | lia | (simp only [GV,Hf,Iw,FV];lia) | exact GI rfl);(try dsimp only [GW,Hi]))
 | with_reducible refine VL.D1 ?_
 | with_reducible refine VL.D2 ?_
 | with_reducible refine VL.Bd ?_
 | with_reducible refine VL.Be ?_
 | with_reducible refine VL.D5 ?_
 | with_reducible refine VL.D6 ?_
 | ((with_reducible refine' VL.mX ?h ?_);(case h=>exact ⟨by lia,by lia⟩))
 | ((with_reducible refine' VL.Bf ?h ?_);(case h=>exact ⟨by lia,by lia,by lia,by lia⟩))
 | with_reducible refine VL.Bg ?_
 | with_reducible refine VL.Bh ?_
 | with_reducible refine VL.pN ?_
 | with_reducible refine VL.pQ ?_
 | with_reducible refine VL.lL ?_
 | with_reducible refine VL.DI ?_
 | with_reducible refine VL.FA ?_
 | with_reducible refine VL.DJ ?_
 | with_reducible refine VL.A0 ?_
 | with_reducible refine VL.rT ?_
 | with_reducible refine VL.A1 ?_
 | with_reducible refine VL.vE ?_
 | with_reducible refine VL.vF ?_
 | with_reducible refine VL.A3 ?_
 | with_reducible refine VL.A4 ?_
 | with_reducible refine VL.vG ?_
 | with_reducible refine VL.DK ?_
 | with_reducible refine VL.Fy ?_
 | ((with_reducible refine' VL.DG ?h ?_);(case h=>exact rfl))
 | ((with_reducible refine' VL.D9 ?h1 ?h2 ?_);(case h1=>(intro n z;cases z));(case h2=>first | exact L2.jZ | exact L2.ja | exact L2.isiB_list_list | exact L2.isiB_tuple_tuple | exact L2.isiB_bool_bool | exact L2.isiB_f1 | exact L2.isiB_f2 | exact L2.isiB_f3 | exact L2.isiB_f4 | exact L2.isiB_f5 | exact L2.isiB_f6 | exact L2.isiB_g1 | exact L2.isiB_g2 | exact L2.isiB_g3 | exact L2.isiB_g4 | exact L2.isiB_g5 | exact L2.isiB_g6 | exact L2.isiB_h1 | exact L2.isiB_h2 | exact L2.isiB_h3 | exact L2.isiB_h4 | exact L2.isiB_h5 | exact L2.isiB_h6 | exact L2.isiB_h7))
 | with_reducible refine VL.Ec ?_
 | with_reducible refine VL.AR ?_
 | with_reducible refine VL.vq ?_
 | ((with_reducible refine' VL.Ft ?h ?_);(case h=>exact rfl);(try simp only [Gq,G3]))
 | with_reducible refine VL.rW ?_
 | with_reducible refine VL.vJ ?_
 | ((with_reducible refine' VL.Em ?h ?_);(case h=>exact rfl))
 | with_reducible refine VL.En ?_
 | with_reducible refine VL.Ep ?_
 | with_reducible refine VL.EC ?_
 | with_reducible refine VL.EB ?_
 | ((with_reducible refine' VL.Bv ?h ?_);(case h=>exact ⟨by lia,by lia,by lia,by lia,by lia,by lia⟩))
 | with_reducible refine VL.FI ?_
 | ((with_reducible refine' VL.Ey ?h ?_);(case h=>exact ⟨by lia,by lia⟩))
 | with_reducible refine VL.Bq ?_
 | with_reducible refine VL.Br ?_
 | with_reducible refine VL.vU ?_
 | with_reducible refine VL.Bs ?_
 | ((with_reducible refine' VL.vV ?h ?_);(case h=>exact rfl);(try dsimp only [GW,Hi]))
 | with_reducible refine VL.Bt ?_
 | ((with_reducible refine' VL.vW ?h ?_);(case h=>exact rfl))
 | with_reducible refine VL.BF ?_
 | with_reducible refine VL.EG ?_)
local macro_rules | `(tactic| walk_at "rc1") => `(tactic| first
 | walk_at "rd1"
 | ((with_reducible refine' VL.Ee ?h ?_);(case h=>exact rfl))
 | ((with_reducible refine' VL.Ef ?h ?_);(case h=>exact rfl))
 | ((with_reducible refine' VL.Ed ?h ?_);(case h=>exact rfl))
 | ((with_reducible refine' VL.FF ?h ?_);(case h=>exact rfl))
 | ((with_reducible refine' VL.FG ?h ?_);(case h=>exact rfl))
 | ((with_reducible refine' VL.Eg ?h ?_);(case h=>exact rfl))
 | ((with_reducible refine' VL.Eh ?h ?_);(case h=>exact rfl)))
local macro_rules | `(tactic| walk_at "rc") => `(tactic| repeat walk_at "rc1")
local macro_rules | `(tactic| walk_at "rd") => `(tactic| repeat walk_at "rd1")
local macro_rules | `(tactic| walk_at "sl") => `(tactic| simp only [VL.slots, VL.dO, VL.eT, Gq, G3, Hf, Iw, GS, G1, Nat.reduceAdd, Nat.reduceSub, Kf, Hj, List.replicate_zero])
namespace My
open PySem L2 VL
def top (i:Nat):Stmt:=PySem.Challenge.pw_cellships_k48_a_father_told.main.body.getD i (.Pass ⟨0,0,0,0⟩)
abbrev iU:Stmt:=top 1
theorem qp:aC ["thing"] ["thing"] (ao iU):=by walk_at "s"
abbrev kH:Stmt:=top 2
theorem tY:aC ["thing"] ["thing"] (ao kH):=by walk_at "s"
abbrev kI:Stmt:=top 3
theorem kJ:aC ["picture","move","dx","dy"] ["picture","move"] (ao kI):=by walk_at "s"
abbrev iV:Stmt:=top 10
theorem qq:aC ["kind"] ["kind"] (ao iV):=by walk_at "s"
abbrev nv:Stmt:=top 12
theorem gP:aC ["rule","alive","count","kind","born","stay"] ["rule","alive","count"] (ao nv):=by walk_at "s"
abbrev gQ:Stmt:=top 14
theorem dD:aC ["size","picture","wide","high","rows","x","y"] ["size","picture"] (ao gQ):=by walk_at "s"
abbrev dR:Stmt:=top 15
theorem gC:aC ["rows","cells"] ["rows"] (ao dR):=by walk_at "s"
abbrev dU:Stmt:=top 16
theorem gE:aC ["rule","lines","x","count"] ["rule","lines","x"] (ao dU):=by walk_at "s"
abbrev eM:Stmt:=top 17
theorem jE:aC ["rule","nines"] ["rule"] (ao eM):=by walk_at "s"
abbrev cX:Stmt:=top 18
theorem bw:aC ["amid","above","row","wanted","free","found","column","may_live","x","one","two","lives"] ["amid","above","row","wanted","free"] (ao cX):=by walk_at "s"
abbrev dm:Stmt:=top 23
theorem cY:aC ["thing","wide","high"] ["thing"] (ao dm):=by walk_at "s"
abbrev gu:Stmt:=top 24
theorem ny:aC ["cell","least","size"] ["cell","least","size"] (ao gu):=by walk_at "s"
abbrev bA:Stmt:=top 25
theorem dZ:aC ["size","picture"] ["size","picture"] (ao bA):=by walk_at "s"
abbrev kK:Stmt:=top 26
theorem tZ:aC ["amid","wide","one","two","wanted"] ["amid","wide","one","two","wanted"] (ao kK):=by walk_at "s"
abbrev e6:Stmt:=top 27
theorem iW:aC ["wide","many"] ["wide"] (ao e6):=by walk_at "s"
abbrev eN:Stmt:=top 28
theorem ba:aC ["rule","size","picture","amid","ahead","found","wanted","pairs","one","two","three"] ["rule","size","picture"] (ao eN):=by walk_at "s"
abbrev gv:Stmt:=top 29
theorem cZ:aC ["found","pair","rows","pairs"] ["found"] (ao gv):=by walk_at "s"
abbrev e7:Stmt:=top 30
theorem iX:aC ["rule","size","picture","found"] ["rule","size","picture"] (ao e7):=by walk_at "s"
abbrev t4:Stmt:=top 32
theorem kL:aC ["_law_script","_law_k","_law_cell"] ["_law_script","_law_k"] (ao t4):=by walk_at "s"
abbrev nA:Stmt:=top 33
theorem f6:aC ["_law_pen_here","_law_many","_law_drawn","_law_number"] ["_law_pen_here","_law_many"] (ao nA):=by walk_at "s"
abbrev iY:Stmt:=top 34
theorem e9:aC ["_law_pen_here","_law_least","_law_kind","_law_born","_law_stay"] ["_law_pen_here","_law_least"] (ao iY):=by walk_at "s"
abbrev nB:Stmt:=top 35
theorem gR:aC ["_law_kind","_law_steps"] ["_law_kind"] (ao nB):=by walk_at "s"
abbrev gS:Stmt:=top 36
theorem mn:aC ["_law_code","_law_near_here","_law_live","_law_x","_law_y","_law_count"] ["_law_code","_law_near_here","_law_live","_law_x","_law_y"] (ao gS):=by walk_at "s"
abbrev nE:Stmt:=top 37
theorem oP:aC ["_law_pen_here","_law_at","_law_wide"] ["_law_pen_here","_law_at"] (ao nE):=by walk_at "s"
abbrev kM:Stmt:=top 38
theorem t5:aC ["_law_found"] ["_law_found"] (ao kM):=by walk_at "s"
abbrev gT:Stmt:=top 39
theorem f7:aC ["_law_pen_here","_law_size_here","_law_found","_law_thick","_law_x"] ["_law_pen_here","_law_size_here"] (ao gT):=by walk_at "s"
abbrev fc:Stmt:=top 40
theorem cq:aC ["_law_code","_law_size_here","_law_other","_law_live","_law_cell","_law_near_here","_law_found","_law_x"] ["_law_code","_law_size_here","_law_other"] (ao fc):=by walk_at "s"
abbrev fD:Stmt:=top 41
theorem eO:aC ["_law_code","_law_size_here","_law_live","_law_told","_law_k","_law_cell"] ["_law_code","_law_size_here","_law_live","_law_told"] (ao fD):=by walk_at "s"
abbrev gw:Stmt:=top 42
theorem dW:aC ["_law_code","_law_size_here","_law_live","_law_found","e"] ["_law_code","_law_size_here","_law_live"] (ao gw):=by walk_at "s"
abbrev Cg:Stmt:=top 43
theorem dG:aC ["_law_script","_law_first","_law_code","_law_k","_law_pen_here","_law_size_here","_law_live","_law_handed","_law_told","_law_bad","_law_cell"] ["_law_script"] (ao Cg):=by walk_at "s"
structure Txt (mg:Str->Option FU):Prop where
 len_:mg "len"=none
 range:mg "range"=none
 abs_:mg "abs"=none
 isinstance_:mg "isinstance"=none
 int_:mg "int"=none
 bool_:mg "bool"=none
 list_:mg "list"=none
 tuple_:mg "tuple"=none
 sorted_:mg "sorted"=none
 max_:mg "max"=none
 min_:mg "min"=none
 all_:mg "all"=none
 any_:mg "any"=none
 set_:mg "set"=none
 sum_:mg "sum"=none
 str_:mg "str"=none
 dict_:mg "dict"=none
 zip_:mg "zip"=none
 enumerate_:mg "enumerate"=none
 reversed_:mg "reversed"=none
def Pn (b:Nat) (pn:List Int):Prop:=∃x y c:Int,pn=[x,y,c]/\0<=c/\c<=b
theorem Pn.le {b b':Nat} {pn:List Int} (h:Pn b pn) (e:b<=b'):Pn b' pn:=let ⟨x,y,c,h1,h2,h3⟩:=h;⟨x,y,c,h1,h2,by lia⟩
def EY:List D->(D->Prop)->Prop:=fun ds R=>∃(ns:List Int) (k:Nat),ds=[.lst (ns.map .int),.int k]/\k<=1000/\∀x y:Int,R (.lst ([x,y,0].map .int))
def xB:List D->(D->Prop)->Prop:=fun ds R=>∃ns:List Int,ds=[.lst (ns.map .int)]/\ns.length<=63/\R (.bl true)
def jF:List Int->List D->(D->List Int->Prop)->Prop:=fun pn ds R=>∃(b:Nat) (m:Int),ds=[.int m]/\Pn b pn/\b<=1000000/\0 < m/\m < 1073741824/\∀(pn':List Int) (r:Int),Pn (b+1) pn'->0<=r->r < m->R (.int r) pn'
theorem mq {j:Nat} (h:j < ns.length):atI (ns.map D.int) (j:Int)=some (.int (ns[j])):=by
 exact fJ (by simp [h])
section
variable {P:GD} {w:Hg} {K:FO} {mg:Str->Option FU} {base:Heap}
theorem Ci (S:Src K mg "_law_pen" t4) (T:Txt mg):Has P w K mg base 1 "_law_pen" ["_law_script","_law_k"] (spP K EY):=by
 refine bD S kL (by walk_at "2") (by walk_at "L") fun f cdv A outer s H E hr=>⟨_,_,(ak (aH (i:=2) kL.nd rfl (Gf rfl) (aB bf aE (aB fu bR af (ae 1 (pv 1))) af))
  (ak (bK (aT kX aE (ae 1 (pv 1)) (aM (fV (K:=K) rfl) fQ (by rfl) T.len_ dJ (aa (ae 0 (pv 0)) ai)) (aO _)) (aq (aH (i:=2) kL.nd rfl (Gf rfl) (aF rfl (ae 0 (pv 0)) (ae 1 (pv 1)) (fun _ _=>rfl)))) (aq (bK (aT hW aE (aM (fV (K:=K) rfl) fQ (by rfl) T.len_ dJ (aa (ae 0 (pv 0)) ai)) af (aO _)) (aq (aH (i:=2) kL.nd rfl (Gf rfl) (aB bf aE (aB dI bR (aF rfl (ae 0 (pv 0)) (aB dI bR (ae 1 (pv 1)) (aM (fV (K:=K) rfl) fQ (by rfl) T.len_ dJ (aa (ae 0 (pv 0)) ai))) (fun _ _=>rfl)) af) (aB fu bR af (ae 1 (pv 1)))))) aW)))
  (ak (bK (aT yh aE (ae 2 (pv 2)) (aB mH bR af af) (aO _)) (aq (aD (aI (aV (aa (aB g9 aE (ae 2 (pv 2)) (aB mH bR af af)) (aa (aB dI bR (ae 2 (pv 2)) af) (aa af ai))))))) aW)
  (aq (aD (aI (aV (aa af (aa (aB dI bR (ae 2 (pv 2)) af) (aa af ai)))))))))),?_⟩
 rintro ds R ⟨ns,k,rfl,hk,q⟩
 have fin:∀(x y:Int),R (.lst [.int x,.int y,.int 0]):=fun x y=>q x y
 walk_at "sl"
 walk_at "rd"
 rw [FV]
 refine cC (fun h1=>?_) (fun h1=>?_)
 ·have h1':k < ns.length:=by lia
  walk_at "rd"
  refine cJ rfl rfl (mq h1') ?_
  walk_at "rd"
  refine cC (fun h1=>?_) (fun h1=>?_)
  all_goals (walk_at "rd";exact fin _ _)
 ·walk_at "rd"
  rw [FV]
  refine cC (fun h2=>?_) (fun h2=>?_)
  ·walk_at "rd"
   rw [FV]
   have h2':0 < ns.length:=by lia
   have e:((k:Int)%(ns.length:Int))=((k%ns.length:Nat):Int):=by lia
   refine DC (by show (0:Int) < _;lia) ?_
   dsimp only [ofV]
   rw [e]
   refine cJ rfl rfl (mq (Nat.mod_lt _ h2')) ?_
   walk_at "rd"
   refine cC (fun h1=>?_) (fun h1=>?_)
   all_goals (walk_at "rd";exact fin _ _)
  ·walk_at "rd"
   refine cC (fun h1=>?_) (fun h1=>?_)
   all_goals (walk_at "rd";exact fin _ _)
theorem xC (S:Src K mg "_law_draw" nA) (T:Txt mg):Has P w K mg base 1 "_law_draw" ["_law_pen_here","_law_many"] (spI K 0 jF):=by
 refine n6 0 S f6 (by walk_at "2") (by walk_at "L") fun f cdv A outer s H E hr=>⟨_,_,(ak (lC 0 (pv 0) (aB bf aE (aF rfl (ae 0 (pv 0)) af (fun _ _=>rfl)) af) af)
  (ak (bK (aT hW aE (aF rfl (ae 0 (pv 0)) af (fun _ _=>rfl)) af (aO _)) (ak (aH (i:=2) f6.nd rfl (Gf rfl) (aB dI bR (aF rfl (ae 0 (pv 0)) af (fun _ _=>rfl)) (ae 1 (pv 1))))
  (ak (lC 0 (pv 0) (aB jR bR (aF rfl (ae 0 (pv 0)) af (fun _ _=>rfl)) (ae 1 (pv 1))) af)
  (aq (aD (aG (ae 2 (pv 2))))))) aW)
  (ak (aH (i:=3) f6.nd rfl (Gf rfl) (aB dI bR (aB bf aE (aB bf aE (aF rfl (ae 0 (pv 0)) af (fun _ _=>rfl)) (aB fu bR af (aF rfl (ae 0 (pv 0)) af (fun _ _=>rfl)))) af) af))
  (ak (aH (i:=3) f6.nd rfl (Gf rfl) (aB bf aE (aB dI bR (aB fu bR (ae 3 (pv 3)) (ae 3 (pv 3))) af) (aB fu bR af (aF rfl (ae 0 (pv 0)) af (fun _ _=>rfl)))))
  (ak (aH (i:=3) f6.nd rfl (Gf rfl) (aB dI bR (aB fu bR (ae 3 (pv 3)) (ae 3 (pv 3))) af))
  (aq (aD (aB dI bR (aB jR bR (ae 3 (pv 3)) af) (ae 1 (pv 1)))))))))),?_⟩
 rintro a pn ds es R hl ⟨b,m,e,⟨x,y,c,rfl,hc0,hc1⟩,hb,hm0,hm1,q⟩
 obtain rfl:ds=[]:=HA hl
 obtain rfl:es=[.int m]:=e
 walk_at "sl"
 walk_at "rd"
 refine cC (fun h1=>?_) (fun h1=>?_)
 ·walk_at "rd"
  exact ⟨_,rfl,q _ _ ⟨_,_,_,rfl,by lia,by lia⟩ (Lo _ (by lia)) (Ki _ hm0)⟩
 ·walk_at "rd"
  exact ⟨_,rfl,q _ _ ⟨_,_,_,rfl,by lia,by lia⟩ (Lo _ (by lia)) (Ki _ hm0)⟩
end
end My
namespace My
open PySem L2 VL
def nr (k:Int):List (List Int):=if k=4 then [[-1,0],[0,-1],[0,1],[1,0]] else if k=6 then [[-1,-1],[-1,0],[0,-1],[0,1],[1,0],[1,1]] else [[-1,-1],[-1,0],[-1,1],[0,-1],[0,1],[1,-1],[1,0],[1,1]]
def rows:List (Int×List (List Int)):=[(4,nr 4),(6,nr 6),(8,nr 8)]
def Kd (k:Int):Prop:=k=4\/k=6\/k=8
theorem t6 {k:Int} (hk:Kd k):(k,nr k)∈rows:=by rcases hk with rfl | rfl | rfl <;> simp [rows]
def Pr (ms:List Int):Prop:=∃x y,ms=[x,y]
theorem t7 {k:Int} (hk:Kd k) {m:List Int} (h:m∈nr k):∃x y,m=[x,y]/\-1<=x/\x<=1/\-1<=y/\y<=1:=by
 have:(nr k).all (fun m=>match m with | [x,y]=>decide (-1<=x)&&decide (x<=1)&&decide (-1<=y)&&decide (y<=1) | _=>false)=true:=by rcases hk with rfl | rfl | rfl <;> decide +kernel
 have:=List.all_eq_true.mp this m h
 match m,this with
 | [x,y],h=>simp only [GC,decide_eq_true_eq] at h;exact ⟨x,y,rfl,h.1.1.1,h.1.1.2,h.1.2,h.2⟩
theorem EZ {k:Int} (hk:Kd k) {m:List Int} (h:m∈nr k):Pr m:=let ⟨x,y,e,_⟩:=t7 hk h;⟨x,y,e⟩
def rl (k:Int) (b s:List Int):D:=.tup [.int k,.tup (b.map .int),.tup (s.map .int)]
theorem t8:∀{xs g:List (List Int)},xs.Nodup->(∀x∈xs,x∈g)->xs.length<=g.length
 | [],_,_,_=>HM _
 | x::r,g,nd,h=>by
  rw [List.nodup_cons] at nd
  have hx:=h x FZ
  have:=t8 (xs:=r) (g:=g.erase x) nd.2 fun y hy=>(List.mem_erase_of_ne (show y≠x from fun e=>nd.1 (by subst e;exact hy))).mpr (h y (GB _ hy))
  rw [List.length_erase_of_mem hx] at this
  have:0 < g.length:=List.length_pos_of_mem hx
  simp only [Hf];lia
end My
namespace My
open PySem L2 VL
def Sp1 (m:List Int):Prop:=∃a b,m=[a,b]/\(-1<=a/\a<=1)/\(-1<=b/\b<=1)
theorem zt {k:Int} (hk:Kd k) {m:List Int} (h:m∈nr k):Sp1 m:=by
 have:(nr k).all (fun m=>match m with | [a,b]=>decide ((-1<=a/\a<=1)/\(-1<=b/\b<=1)) | _=>false)=true:=by rcases hk with rfl | rfl | rfl <;> decide +kernel
 have:=List.all_eq_true.mp this m h
 split at this
 ·rename_i a b
  exact ⟨a,b,rfl,of_decide_eq_true this⟩
 ·cases this
def bt (n:Int) (j:Int):Int:=n / 2 ^ j.toNat%2
def ln3 (a b c:Int) (dy:Int):Int:=if dy=-1 then a else if dy=0 then b else c
def bq (a b c x:Int) (m:List Int):Int:=match m with
 | [dx,dy]=>bt (ln3 a b c dy) (x+dx)
 | _=>0
def Cj (k a b c x:Int):Int:=((nr k).map (bq a b c x)).sum
def t9 (k:Int) (bo st:List Int) (a b c x:Int):Bool:=decide (Cj k a b c x∈(if bt b x=1 then st else bo))
theorem gU {i:Int} (h:0<=i):Ja i 1=i%2:=by
 unfold Ja
 rw [decide_eq_true h]
 show ((i.toNat &&& (1:Int).toNat:Nat):Int)=_
 rw [show (1:Int).toNat=1 from rfl,Nat.and_one_is_mod]
 lia
theorem ua {n:Int} (h:0<=n) (j:Int):0<=n / 2 ^ j.toNat:=HR h (LK (by decide))
def E1:List D->(D->Prop)->Prop:=fun ds R=>∃k,ds=[.int k]/\Kd k/\R (eL (nr k))
def ub:List D->(D->Prop)->Prop:=fun ds R=>∃k bo st al c,ds=[rl k bo st,.bl al,.int c]/\R (.bl (decide (c∈if al=true then st else bo)))
def zu:List D->(D->Prop)->Prop:=fun ds R=>∃k bo st a b c x,ds=[rl k bo st,.tup [.int a,.int b,.int c],.int x]/\Kd k/\0<=a/\0<=b/\0<=c/\1<=x/\R (.bl (t9 k bo st a b c x))
def Th:D->Prop
 | .int _=>True
 | .bl _=>True
 | .non=>True
 | .str _=>True
 | .lst _=>True
 | .tup _=>True
 | _=>False
def isI:D->Bool
 | .int _=>true
 | _=>false
def prOk:D->Bool
 | .tup [a,b]=>isI a&&isI b
 | _=>false
def fsOk:D->Bool
 | .tup [.int w,.int h]=>decide (1<=w)&&decide (w<=3)&&(decide (1<=h)&&decide (h<=6)&&decide (w*h<=9))
 | _=>false
theorem xD (h:prOk d=true):∃a b,d=.tup [.int a,.int b]:=by
 unfold prOk at h
 split at h
 ·rename_i a b
  cases a <;> cases b <;> first | exact ⟨_,_,rfl⟩ | cases h
 ·cases h
def Th2 (d:D):Prop:=Th d/\∀es,d=.tup es->∀e∈es,Th e
def inB (l:Int) (w h:Int) (p:List Int):Bool:=match p with
 | [x,y]=>decide (l<=x)&&decide (x < w)&&(decide (l<=y)&&decide (y < h))
 | _=>false
def pWh:List D->(D->Prop)->Prop:=fun ds R=>∃d,ds=[d]/\Th d/\R (.bl (isI d))
def pPair:List D->(D->Prop)->Prop:=fun ds R=>∃d,ds=[d]/\Th2 d/\R (.bl (prOk d))
def pFs:List D->(D->Prop)->Prop:=fun ds R=>∃d,ds=[d]/\Th2 d/\R (.bl (fsOk d))
def kO:List D->(D->Prop)->Prop:=fun ds R=>∃x y l w h,ds=[eT [x,y],.int l,eT [w,h]]/\R (.bl (inB l w h [x,y]))
theorem kP {f g:Int->Int->Bool} {va vb vc:VT} {a b c:Int} {Q:VR->List Sl->Prop} (ha:∀Q',Q' (.d (.int a)) S->va S Q') (hb:∀Q',Q' (.d (.int b)) S->vb S Q') (hc:∀Q',Q' (.d (.int c)) S->vc S Q') (h:Q (.d (.bl (f a b&&g b c))) S) :
  j9 (wI0 fun i j=>V.bl (f i j)) (wI0 fun i j=>V.bl (g i j)) va vb vc S Q:=by
 unfold j9
 refine ha _ (hb _ ⟨.int a,.int b,rfl,rfl,a,b,rfl,rfl,_,rfl,?_⟩)
 cases h1:f a b with
 | true=>
  rw [if_pos rfl]
  refine hc _ ⟨.int b,.int c,rfl,rfl,b,c,rfl,rfl,?_⟩
  rw [h1,JR] at h
  exact h
 | false=>
  rw [if_neg F4]
  rw [h1,II] at h
  exact h
theorem uc {w h:Int}:Th2 (eT [w,h]):=⟨trivial,fun es e x hx=>by
 cases e
 obtain ⟨n,_,rfl⟩:=List.mem_map.mp (show x∈[w,h].map D.int from hx)
 trivial⟩
def E2:List D->(D->Prop)->Prop:=fun ds R=>∃w h xs,ds=[eT [w,h],eL xs]/\fsOk (eT [w,h])=true/\(∀p∈xs,Pr p/\inB 0 w h p=true)/\xs.length<=100/\R .non
def Ck (cN cO:Addr) (ds:List D) (C:Addr):Prop:=(C=cN/\∃d xs,ds=[d,xs]/\Th2 d/\fsOk d=false)\/C=cO/\∃w h xs,ds=[eT [w,h],eL xs]/\fsOk (eT [w,h])=true/\(∀p∈xs,Pr p)/\xs.length<=100/\∃p∈xs,inB 0 w h p=false
theorem zv {α:Type} {xs:List α} {f:α->Bool} (h:q (.bl (xs.all f))):Ej (fun x=>x.all id) [.lst (xs.map fun d=>D.bl (f d))] q:=
 ⟨xs.map f,by rw [GP];rfl,by show q (.bl ((xs.map f).all id));rw [List.all_map];exact h⟩
section
variable {P:GD} {w:Hg} {K:FO} {mg:Str->Option FU} {base:Heap}
theorem Cm {a_OFFSETS:Addr} (S:Src K mg "offsets" iV) (T:Txt mg) (hD:mg "OFFSETS"=some (.ref a_OFFSETS)) (kD:okD K a_OFFSETS rows=true):Has P w K mg base 1 "offsets" ["kind"] (spP K E1):=by
 refine bD S qq (by walk_at "1") (by walk_at "L") fun f cdv A outer s H E hr=>⟨_,_,(aq (aD (aI (nZ rfl (by rfl) T.list_ (aa (Bk (rows:=rows) rfl kD (eV (v:=.ref a_OFFSETS) (by rfl) hD rfl) (ae 0 (pv 0)) (fun _ _=>rfl)) ai))))),?_⟩
 rintro ds R ⟨k,rfl,hk,q⟩
 walk_at "sl"
 walk_at "rd"
 refine Bl rfl (t6 hk) ?_
 walk_at "rd"
 exact rY rfl (fR _) (by walk_at "rd";exact q)
theorem ud (S:Src K mg "comes" nv) (T:Txt mg):Has P w K mg base 1 "comes" ["rule","alive","count"] (spP K ub):=by
 refine bD S gP (by walk_at "3") (by walk_at "L") fun f cdv A outer s H E hr=>⟨_,_,(ak (iC (ae 0 (pv 0)) (cV (n:=3) rfl rfl (aJ (ay (au (i:=3) gP.nd rfl (Gf rfl) (Gf rfl))) (aJ (ay (au (i:=4) gP.nd rfl (Gf rfl) (Gf rfl))) (aJ (ay (au (i:=5) gP.nd rfl (Gf rfl) (Gf rfl))) b6)))))
  (aq (aD (eE (mU (K:=K) rfl hr.units) rL (ae 2 (pv 2)) (ly (bS (ae 1 (pv 1))) (ae 5 (pv 5)) (ae 4 (pv 4))) (by with_unfolding_all rfl))))),?_⟩
 rintro ds R ⟨k,bo,st,al,c,rfl,q⟩
 walk_at "sl"
 unfold rl
 walk_at "rd"
 cases al with
 | true=>
  walk_at "rc"
  refine ki (f:=D.int) fU ?_
  walk_at "rd"
  exact q
 | false=>
  walk_at "rc"
  refine ki (f:=D.int) fU ?_
  walk_at "rd"
  exact q
theorem xE (S:Src K mg "comes_amid" dU) (T:Txt mg) (e26_:Has P w K mg base 1 "offsets" ["kind"] (spP K E1)) (e1_:Has P w K mg base 1 "comes" ["rule","alive","count"] (spP K ub)):Has P w K mg base 2 "comes_amid" ["rule","lines","x"] (spP K zu):=by
 refine bD S gE (by walk_at "3") (by walk_at "L") fun f cdv A outer s H E hr=>⟨_,_,(ak (aH (i:=3) gE.nd rfl (Gf rfl) (aM (Eu (K:=K) rfl rfl) Ex (by rfl) T.sum_ Bp (aa (aI (b8 (tg:=["dx","dy"]) (cs:=["lines","x"]) (ix:=[1,2]) (aK (ao dU) ["rule","lines","x","count"] (by decide +kernel)) rfl (gb (by decide) (by decide)) (by decide) (bG rfl (bu e26_ hr (aa (aF rfl (ae 0 (pv 0)) af (fun _ _=>rfl)) ai))) (fun _ _ _ _=>(cV (n:=2) rfl rfl (aJ (ay (au (i:=0) (show (["dx","dy","lines","x"]:List Str).Nodup by decide +kernel) rfl (Gf rfl) (by first | exact Gf rfl | exact HB rfl))) (aJ (ay (au (i:=1) (show (["dx","dy","lines","x"]:List Str).Nodup by decide +kernel) rfl (Gf rfl) (by first | exact Gf rfl | exact HB rfl))) b6)))) (fun _ _ _ _=>bU) (fun _ _ _ _=>(aB f9 aE (aB fv bR (aF rfl (ae 2 (pv 2)) (aB bf aE af (ae 1 (pv 1))) (fun _ _=>rfl)) (aB bf aE (ae 3 (pv 3)) (ae 0 (pv 0)))) af)))) ai)))
  (aq (aD (bu e1_ hr (aa (ae 0 (pv 0)) (aa (eE ef iw (aB f9 aE (aB fv bR (aF rfl (ae 1 (pv 1)) af (fun _ _=>rfl)) (ae 2 (pv 2))) af) af (aO _)) (aa (ae 3 (pv 3)) ai))))))),?_⟩
 rintro ds R ⟨k,bo,st,a,b,c,x,rfl,hk,ha,hb,hc,hx,q⟩
 walk_at "sl"
 unfold rl
 walk_at "rd"
 refine ⟨k,rfl,hk,?_⟩
 walk_at "rd"
 have hl:(nr k).length<=8:=by rcases hk with rfl | rfl | rfl <;> decide
 refine comp_map (f:=fun m=>.int (bq a b c x m)) (by lia) (fun m hm A B hA=>?_) ?_
 ·obtain ⟨dx,dy,rfl,hx1,hy1⟩:=zt hk hm
  dsimp only [bg,Ga,Gq,G3,GS,G1]
  walk_at "rd"
  have hy2:dy=-1\/dy=0\/dy=1:=by lia
  rcases hy2 with rfl | rfl | rfl
  all_goals
   walk_at "rd"
   rw [gU (ua (by assumption) _)]
   exact hA _ rfl
 ·walk_at "rd"
  rw [show (nr k).map (fun m=>D.int (bq a b c x m))=((nr k).map (bq a b c x)).map D.int by rw [GP];rfl]
  refine Ez ?_
  walk_at "rd"
  rw [gU (ua hb _)]
  walk_at "rd"
  refine ⟨k,bo,st,_,_,rfl,?_⟩
  walk_at "rd"
  unfold t9 at q
  by_cases h1:bt b x=1
  ·rw [show decide (b / 2 ^ x.toNat%2=1)=true from decide_eq_true h1]
   rw [if_pos h1] at q
   exact q
  ·rw [show decide (b / 2 ^ x.toNat%2=1)=false from decide_eq_false h1]
   rw [if_neg h1] at q
   exact q
theorem E3 (S:Src K mg "is_whole" iU) (T:Txt mg):Has P w K mg base 1 "is_whole" ["thing"] (spP K pWh):=by
 refine bD S qp (by walk_at "1") (by walk_at "L") fun f cdv A outer s H E hr=>⟨_,_,(aq (aD (eF (aM (gB (K:=K) rfl) gA (by rfl) T.isinstance_ aZ (aa (ae 0 (pv 0)) (aa (ez (cK (v:=.ty "int") (by rfl) T.int_ qS rfl) (fun _ _=>.ty _)) ai))) (iy (rh (aM (gB (K:=K) rfl) gA (by rfl) T.isinstance_ aZ (aa (ae 0 (pv 0)) (aa (ez (cK (v:=.ty "bool") (by rfl) T.bool_ nR rfl) (fun _ _=>.ty _)) ai)))))))),?_⟩
 rintro ds R ⟨d,rfl,hd,q⟩
 walk_at "sl"
 cases d with
 | int n=>walk_at "rc";exact q
 | bl b=>walk_at "rc";exact q
 | non=>walk_at "rc";exact q
 | str x=>walk_at "rc";exact q
 | lst x=>walk_at "rc";exact q
 | tup x=>walk_at "rc";exact q
 | _=>cases hd
theorem xF (S:Src K mg "is_pair" kH) (T:Txt mg) (e9_:Has P w K mg base 1 "is_whole" ["thing"] (spP K pWh)):Has P w K mg base 2 "is_pair" ["thing"] (spP K pPair):=by
 refine bD S tY (by walk_at "1") (by walk_at "L") fun f cdv A outer s H E hr=>⟨_,_,(aq (aD (eF (aM (gB (K:=K) rfl) gA (by rfl) T.isinstance_ aZ (aa (ae 0 (pv 0)) (aa (ez (cK (v:=.ty "tuple") (by rfl) T.tuple_ eg rfl) (fun _ _=>.ty _)) ai))) (eF (eE ef iw (aM (fV (K:=K) rfl) fQ (by rfl) T.len_ dJ (aa (ae 0 (pv 0)) ai)) af (aO _)) (eF (bu e9_ hr (aa (aF rfl (ae 0 (pv 0)) af (fun _ _=>rfl)) ai)) (iy (bu e9_ hr (aa (aF rfl (ae 0 (pv 0)) af (fun _ _=>rfl)) ai)))))))),?_⟩
 rintro ds R ⟨d,rfl,⟨hd,ht⟩,q⟩
 walk_at "sl"
 cases d with
 | int n=>walk_at "rc";exact q
 | bl b=>walk_at "rc";exact q
 | non=>walk_at "rc";exact q
 | str x=>walk_at "rc";exact q
 | lst x=>walk_at "rc";exact q
 | tup x=>
  match x,ht with
  | [],_=>walk_at "rc";exact q
  | [a],_=>walk_at "rc";exact q
  | [a,b],ht=>
   walk_at "rc"
   refine ⟨a,rfl,ht _ rfl a (by simp),?_⟩
   cases ha:isI a with
   | false=>walk_at "rc";simp only [prOk,ha,II] at q;exact q
   | true=>
    walk_at "rc"
    refine ⟨b,rfl,ht _ rfl b (by simp),?_⟩
    walk_at "rc"
    simp only [prOk,ha,JR] at q
    exact q
  | a::b::c::r,_=>
   walk_at "rc"
   exact q
 | _=>cases hd
theorem E4 (S:Src K mg "is_father_size" dm) (T:Txt mg) (e22_:Has P w K mg base 2 "is_pair" ["thing"] (spP K pPair)) {t1 t2 t3:Tok} (g_MOST_COLUMNS:mg "MOST_COLUMNS"=some (.int 3 t1)) (g_MOST_ROWS:mg "MOST_ROWS"=some (.int 6 t2)) (g_MOST_CELLS:mg "MOST_CELLS"=some (.int 9 t3)):Has P w K mg base 3 "is_father_size" ["thing"] (spP K pFs):=by
 refine bD S cY (by walk_at "1") (by walk_at "L") fun f cdv A outer s H E hr=>⟨_,_,(ak (bK (bZ (bS (bu e22_ hr (aa (ae 0 (pv 0)) ai)))) (aq (aD cy)) aW)
  (ak (iC (ae 0 (pv 0)) (cV (n:=2) rfl rfl (aJ (ay (au (i:=1) cY.nd rfl (Gf rfl) (Gf rfl))) (aJ (ay (au (i:=2) cY.nd rfl (Gf rfl) (Gf rfl))) b6))))
  (aq (aD (eF (fW hV aE hV aE af (ae 1 (pv 1)) (ez (eV (v:=.int 3) (by rfl) g_MOST_COLUMNS ⟨_,rfl⟩) (fun _ _=>.int _))) (eF (fW hV aE hV aE af (ae 2 (pv 2)) (ez (eV (v:=.int 6) (by rfl) g_MOST_ROWS ⟨_,rfl⟩) (fun _ _=>.int _))) (iy (eE hV aE (aB fu bR (ae 1 (pv 1)) (ae 2 (pv 2))) (ez (eV (v:=.int 9) (by rfl) g_MOST_CELLS ⟨_,rfl⟩) (fun _ _=>.int _)) (aO _))))))))),?_⟩
 rintro ds R ⟨d,rfl,hd,q⟩
 walk_at "sl"
 walk_at "rd"
 refine ⟨d,rfl,hd,?_⟩
 cases hp:prOk d with
 | false=>
  walk_at "rc"
  have e:fsOk d=false:=by
   unfold fsOk
   split
   ·cases hp
   ·rfl
  rw [e] at q
  exact q
 | true=>
  obtain ⟨a,b,rfl⟩:=xD hp
  walk_at "rc"
  refine kP (fun _ q=>j_c q) (fun _ q=>lJ rfl q) (fun _ q=>j_c q) ?_
  simp only [fsOk] at q
  cases h1:(decide (1<=a)&&decide (a<=3)) with
  | false=>walk_at "rc";rw [h1,II] at q;exact q
  | true=>
   rw [h1,JR] at q
   walk_at "rc"
   refine kP (fun _ q=>j_c q) (fun _ q=>lJ rfl q) (fun _ q=>j_c q) ?_
   cases h2:(decide (1<=b)&&decide (b<=6)) with
   | false=>walk_at "rc";rw [h2,II] at q;exact q
   | true=>
    rw [h2,JR] at q
    simp only [GC,decide_eq_true_eq] at h1 h2
    walk_at "rc"
    exact q
theorem qr (S:Src K mg "is_within" gu) (T:Txt mg):Has P w K mg base 1 "is_within" ["cell","least","size"] (spP K kO):=by
 refine bD S ny (by walk_at "3") (by walk_at "L") fun f cdv A outer s H E hr=>⟨_,_,(aq (aD (eF (fW hV aE kX aE (ae 1 (pv 1)) (aF rfl (ae 0 (pv 0)) af (fun _ _=>rfl)) (aF rfl (ae 2 (pv 2)) af (fun _ _=>rfl))) (iy (fW hV aE kX aE (ae 1 (pv 1)) (aF rfl (ae 0 (pv 0)) af (fun _ _=>rfl)) (aF rfl (ae 2 (pv 2)) af (fun _ _=>rfl))))))),?_⟩
 rintro ds R ⟨x,y,l,w,h,rfl,q⟩
 walk_at "sl"
 walk_at "rd"
 refine kP (fun _ q=>lJ rfl q) (fun _ q=>by walk_at "rd";exact q) (fun _ q=>by walk_at "rd";exact q) ?_
 simp only [inB] at q
 cases h1:(decide (l<=x)&&decide (x < w)) with
 | false=>walk_at "rc";rw [h1,II] at q;exact q
 | true=>
  rw [h1,JR] at q
  walk_at "rc"
  refine kP (fun _ q=>lJ rfl q) (fun _ q=>by walk_at "rd";exact q) (fun _ q=>by walk_at "rd";exact q) ?_
  walk_at "rc"
  exact q
theorem Co (S:Src K mg "refuse_no_child" bA) (T:Txt mg) (e3_:Has P w K mg base 3 "is_father_size" ["thing"] (spP K pFs)) (e4_:Has P w K mg base 1 "is_within" ["cell","least","size"] (spP K kO)):Has P w K mg base 4 "refuse_no_child" ["size","picture"] (spP K E2):=by
 refine bD S dZ (by walk_at "2") (by walk_at "L") fun f cdv A outer s H E hr=>⟨_,_,(ak (bK (bZ (bS (bu e3_ hr (aa (ae 0 (pv 0)) ai)))) (aq lA) aW)
  (aq (bK (bZ (bS (aM (yD (K:=K) rfl rfl) yE (by rfl) T.all_ rN (aa (aI (b8 (tg:=["cell"]) (cs:=["size"]) (ix:=[0]) (aK (ao bA) ["size","picture"] (by decide +kernel)) rfl (bh (by decide)) (by decide) (bG rfl (ae 1 (pv 1))) (fun _ _ _ _=>(ay (au (i:=0) (show (["cell","size"]:List Str).Nodup by decide +kernel) rfl (Gf rfl) (by first | exact Gf rfl | exact HB rfl)))) (fun _ _ _ _=>bU) (fun _ _ _ _=>(bu e4_ hr (aa (ae 0 (pv 0)) (aa af (aa (ae 1 (pv 1)) ai))))))) ai)))) (aq lA) aW))),?_⟩
 rintro ds R ⟨w,h,xs,rfl,hf,hx,hl,q⟩
 walk_at "sl"
 walk_at "rd"
 refine ⟨_,rfl,uc,?_⟩
 rw [show fsOk (.tup [.int w,.int h])=true from hf]
 walk_at "rc"
 refine comp_map (xs:=xs) (en:=eT) (f:=fun p=>.bl (inB 0 w h p)) (by lia) (fun p hp A B hA=>?_) ?_
 ·dsimp only [bg,Ga,Gq,G3,GS,G1]
  obtain ⟨px,py,rfl⟩:=(hx p hp).1
  walk_at "rc"
  refine ⟨px,py,0,w,h,rfl,?_⟩
  walk_at "rc"
  exact hA _ rfl
 ·walk_at "rc"
  refine zv ?_
  rw [List.all_eq_true.mpr fun p hp=>(hx p hp).2]
  walk_at "rc"
  exact q
theorem xG {c_NoSize c_Outside:Addr} (S:Src K mg "refuse_no_child" bA) (T:Txt mg) (e3_:Has P w K mg base 3 "is_father_size" ["thing"] (spP K pFs)) (e4_:Has P w K mg base 1 "is_within" ["cell","least","size"] (spP K kO)) (g_NoSize:mg "NoSize"=some (.ref c_NoSize)) (g_Outside:mg "Outside"=some (.ref c_Outside))
  (x_NoSize:KQ K c_NoSize [.type "ValueError",.type "Exception",.type "BaseException",.type "object"] "ValueError.__new__"=true) (x_Outside:KQ K c_Outside [.type "ValueError",.type "Exception",.type "BaseException",.type "object"] "ValueError.__new__"=true):m6 P w K mg base 4 "refuse_no_child" ["size","picture"] (Ck c_NoSize c_Outside):=by
 refine yR S dZ (by walk_at "2") (fun ds C h=>by rcases h with ⟨_,_,_,e,_⟩ | ⟨_,_,_,_,e,_⟩ <;> (rw [e];rfl)) fun f cdv A outer s H E hr TH=>⟨_,_,(yQ (bZ (bS (bu e3_ hr (aa (ae 0 (pv 0)) ai)))) (lU TH Kb x_NoSize g_NoSize rfl)
  (yQ (bZ (bS (aM (yD (K:=K) rfl rfl) yE (by rfl) T.all_ rN (aa (aI (b8 (tg:=["cell"]) (cs:=["size"]) (ix:=[0]) (aK (ao bA) ["size","picture"] (by decide +kernel)) rfl (bh (by decide)) (by decide) (bG rfl (ae 1 (pv 1))) (fun _ _ _ _=>(ay (au (i:=0) (show (["cell","size"]:List Str).Nodup by decide +kernel) rfl (Gf rfl) (by first | exact Gf rfl | exact HB rfl)))) (fun _ _ _ _=>bU) (fun _ _ _ _=>(bu e4_ hr (aa (ae 0 (pv 0)) (aa af (aa (ae 1 (pv 1)) ai))))))) ai)))) (lU TH Kb x_Outside g_Outside rfl)
  sP)),?_⟩
 rintro ds C (⟨rfl,d,xs,rfl,hd,hf⟩ | ⟨rfl,w,h,xs,rfl,hf,hx,hl,p,hp,hb⟩)
 ·walk_at "sl"
  walk_at "rd"
  refine ⟨_,rfl,hd,?_⟩
  rw [hf]
  walk_at "rc"
  exact if_pos rfl▸trivial
 ·walk_at "sl"
  walk_at "rd"
  refine ⟨_,rfl,uc,?_⟩
  rw [show fsOk (.tup [.int w,.int h])=true from hf]
  walk_at "rc"
  rw [if_neg (by decide)]
  walk_at "rd"
  refine comp_map (xs:=xs) (en:=eT) (f:=fun p=>.bl (inB 0 w h p)) (by lia) (fun p hp A B hA=>?_) ?_
  ·dsimp only [bg,Ga,Gq,G3,GS,G1]
   obtain ⟨px,py,rfl⟩:=hx p hp
   walk_at "rc"
   refine ⟨px,py,0,w,h,rfl,?_⟩
   walk_at "rc"
   exact hA _ rfl
  ·walk_at "rc"
   refine zv ?_
   rw [show xs.all (inB 0 w h)=false from by rw [List.all_eq_false];exact ⟨p,hp,by rw [hb];simp⟩]
   walk_at "rc"
   exact if_pos rfl▸trivial
end
end My
namespace My
open PySem L2 VL
theorem dH {p:List Int×D} {ps:List (List Int×D)} {c:List Int}:getA (p::ps) c=if p.1=c then some p.2 else getA ps c:=by
 unfold getA
 by_cases h:p.1=c <;> simp [Hz,h]
theorem jG {c m:List Int}:∀{kvs:List (List Int×D)},m∉kvs.map (·.1)->getA (kvs++[(m,d)]) c=if c=m then some d else getA kvs c
 | [],_=>by
  rw [G1,dH]
  by_cases h:c=m
  ·subst h;simp
  ·have:¬ m=c:=fun z=>h z.symm
   simp [h,this,getA]
 | p::ps,h=>by
  have h1:m≠p.1:=fun z=>h (by simp [z])
  rw [GS,dH,dH,jG (kvs:=ps) fun z=>h (by simp at z ⊢;exact .inr z)]
  by_cases e:c=m
  ·subst e;simp [Ia h1]
  ·simp [e]
theorem jH {c m:List Int}:∀{kvs:List (List Int×D)},getA (kvs.map fun x=>if x.1=m then (x.1,d) else x) c=if c=m/\m∈kvs.map (·.1) then some d else getA kvs c
 | []=>by simp [getA]
 | p::ps=>by
  rw [Gq,dH,dH,jH (kvs:=ps)]
  by_cases e:p.1=m
  ·rw [if_pos e]
   by_cases h:c=m
   ·subst h;simp [e]
   ·have:¬ p.1=c:=fun z=>h (z.symm.trans e)
    simp [h,this]
  ·rw [if_neg e]
   by_cases h:p.1=c
   ·have:¬ c=m:=fun z=>e (h.trans z)
    simp [h,this]
   ·have e':¬ m=p.1:=fun z=>e z.symm
    rw [if_neg h,if_neg h]
    simp only [Gq,L8,e',false_or]
theorem mr {m c:List Int}:getA (cE kvs m d) c=if c=m then some d else getA kvs c:=by
 unfold cE
 split
 ·next h=>
  rw [jH]
  by_cases e:c=m <;> simp [e,h]
 ·next h=>exact jG h
theorem jI {α:Type} {ky:α->List Int} {f:α->D} {c:List Int}:∀(xs:List α) (kvs:List (List Int×D)),(∀x∈xs,ky x=c->f x=d)->(c∈xs.map ky\/getA kvs c=some d)->getA (xs.foldl (fun kvs x=>cE kvs (ky x) (f x)) kvs) c=some d
 | [],kvs,_,h=>by rcases h with h | h;exact (nomatch h);exact h
 | x::xs,kvs,hf,h=>by
  rw [JV]
  refine jI xs _ (fun y hy=>hf y (GB _ hy)) ?_
  rw [mr]
  by_cases e:c=ky x
  ·rw [if_pos e]
   exact .inr (congrArg some (hf x FZ e.symm))
  ·rw [if_neg e]
   rcases h with h | h
   ·rcases List.mem_cons.mp h with h | h
    ·exact (e h).elim
    ·exact .inl h
   ·exact .inr h
def am (k:Int) (bo st:List Int) (a b c:Int):Int:=if t9 k bo st a b c 1=true then 1 else 0
def tri:List (List Int):=(FY 8).flatMap fun (a:Nat)=>(FY 8).flatMap fun (b:Nat)=>(FY 8).map fun (c:Nat)=>[0+(a:Int),0+(b:Int),0+(c:Int)]
def am3 (k:Int) (bo st:List Int) (m:List Int):Int:=am k bo st (m.getD 0 0) (m.getD 1 0) (m.getD 2 0)
def Am (f:Int->Int->Int->Int) (kvs:List (List Int×D)):Prop:=∀a b c:Int,0<=a->a < 8->0<=b->b < 8->0<=c->c < 8->getA kvs [a,b,c]=some (.int (f a b c))
theorem xH {a b c:Int} (h1:0<=a) (h2:a < 8) (h3:0<=b) (h4:b < 8) (h5:0<=c) (h6:c < 8):[a,b,c]∈tri:=
 List.mem_flatMap.mpr ⟨a.toNat,List.mem_range.mpr (by lia),List.mem_flatMap.mpr ⟨b.toNat,List.mem_range.mpr (by lia),List.mem_map.mpr ⟨c.toNat,List.mem_range.mpr (by lia),by
  rw [show (0:Int)+(a.toNat:Int)=a by lia,show (0:Int)+(b.toNat:Int)=b by lia,show (0:Int)+(c.toNat:Int)=c by lia]⟩⟩⟩
theorem Cp {m:List Int} (h:m∈tri):∃a b c:Int,m=[a,b,c]/\0<=a/\a < 8/\0<=b/\b < 8/\0<=c/\c < 8:=by
 obtain ⟨a,ha,h⟩:=List.mem_flatMap.mp h
 obtain ⟨b,hb,h⟩:=List.mem_flatMap.mp h
 obtain ⟨c,hc,rfl⟩:=List.mem_map.mp h
 have:=List.mem_range.mp ha
 have:=List.mem_range.mp hb
 have:=List.mem_range.mp hc
 exact ⟨_,_,_,rfl,by lia,by lia,by lia,by lia,by lia,by lia⟩
def zw:List D->(D->Prop)->Prop:=fun ds R=>∃k bo st,ds=[rl k bo st]/\Kd k/\∀kvs,Am (am k bo st) kvs->R (dc kvs)
def w3 (n:Int) (x:Nat):Int:=n / 2 ^ x%8
def fa (c:Nat) (b:Bool) (xs:List Int):List Int:=if b=true then [0,2 ^ c].flatMap fun m=>xs.map fun l=>l+m else xs
def fb (f:Int->Int->Int->Int) (ab ro wa:Int) (c:Nat) (xs:List Int):List Int:=if 2<=c then xs.filter fun l=>decide (f (w3 ab (c-2)) (w3 ro (c-2)) (l / 2 ^ (c-2))=wa / 2 ^ (c-1)%2) else xs
def below (f:Int->Int->Int->Int) (ab ro wa:Int) (fr:List Bool):Nat->List Int
 | 0=>[0]
 | c+1=>fb f ab ro wa c (fa c (fr.getD c false) (below f ab ro wa fr c))
theorem two_pos (c:Nat):(0:Int) < 2 ^ c:=Int.pow_pos (by decide)
theorem E5 {c:Nat} {b:Bool} {xs:List Int} (h:∀l∈xs,0<=l/\l < 2 ^ c):∀l∈fa c b xs,0<=l/\l < 2 ^ (c+1):=fun l hl=>by
 have:=two_pos c
 unfold fa at hl
 split at hl
 ·obtain ⟨m,hm,hl⟩:=List.mem_flatMap.mp hl
  obtain ⟨z,hz,rfl⟩:=List.mem_map.mp hl
  have:=h z hz
  have:m=0\/m=2 ^ c:=by simpa using hm
  rw [Lp]
  rcases this with rfl | rfl <;> lia
 ·have:=h l hl
  rw [Lp]
  lia
theorem ue {c:Nat} {b:Bool} {xs:List Int}:(fa c b xs).length<=2*xs.length:=by
 unfold fa
 split
 ·simp only [Jy,List.flatMap_nil,GV,FV,Iw];lia
 ·lia
theorem oQ {f:Int->Int->Int->Int} {ab ro wa:Int} {fr:List Bool}:∀c,(∀l∈below f ab ro wa fr c,0<=l/\l < 2 ^ c)/\(below f ab ro wa fr c).length<=2 ^ c
 | 0=>⟨fun l hl=>by rw [List.mem_singleton.mp hl];decide,FX 1⟩
 | c+1=>by
  obtain ⟨h1,h2⟩:=oQ (f:=f) (ab:=ab) (ro:=ro) (wa:=wa) (fr:=fr) c
  have h3:=ue (c:=c) (b:=fr.getD c false) (xs:=below f ab ro wa fr c)
  have h4:=E5 (b:=fr.getD c false) h1
  unfold below fb
  split
  ·refine ⟨fun l hl=>h4 l (List.mem_filter.mp hl).1,Hr (HD _ _) (Hr h3 ?_)⟩
   rw [Kj];lia
  ·exact ⟨h4,Hr h3 (by rw [Kj];lia)⟩
def E6:List D->(D->Prop)->Prop:=fun ds R=>∃(f:Int->Int->Int->Int) (kvs:List (List Int×D)) (ab ro wa:Int) (fr:List Bool),ds=[dc kvs,.int ab,.int ro,.int wa,.lst (fr.map D.bl)]/\Am f kvs/\0<=ab/\0<=ro/\0<=wa/\fr.length<=8/\R (.lst ((below f ab ro wa fr fr.length).map .int))
theorem xJ (i:Nat) (xs:List Int):([0,1*2 ^ ((i:Int)).toNat].flatMap fun m=>xs.map fun l=>D.int (l+m))=(fa i true xs).map D.int:=by
 unfold fa
 rw [if_pos rfl,JJ,MQ,G7]
 simp only [GP]
 rfl
theorem Cq (fr:List Bool):enD (fr.map D.bl)=(FY fr.length).map fun (i:Nat)=>D.tup [.int i,.bl (fr.getD i false)]:=by
 unfold enD
 rw [FV]
 refine Hk fun i hi=>?_
 have:=List.mem_range.mp hi
 rw [GR,GR,Gk,FS this]
 rfl
theorem xK {fr:List Bool} {i:Nat} (e:((FY fr.length).map fun (i:Nat)=>D.tup [.int i,.bl (fr.getD i false)])[i]?=some d):∃x,(i < fr.length/\fr.getD i false=x)/\d=.tup [.int i,.bl x]:=by
 rw [Gk] at e
 cases h:(FY fr.length)[i]? with
 | none=>rw [h] at e;cases e
 | some j=>
  rw [h] at e
  cases e
  obtain ⟨hi,h⟩:=List.getElem?_eq_some_iff.mp h
  rw [List.getElem_range] at h
  subst h
  rw [F9] at hi
  exact ⟨_,⟨hi,rfl⟩,rfl⟩
theorem uf {b:Bool} {t u:VTS} {W:bz} (P:List Sl->Prop) (fin:∀S',P S'->W.nx S') (h1:∀nx,(∀S',P S'->nx S')->b=true->t ⟨nx,W.rt,W.bk,W.ct⟩ S) (h2:∀nx,(∀S',P S'->nx S')->b=false->u ⟨nx,W.rt,W.bk,W.ct⟩ S):kIf t u W b S:=
 yw (fun h=>h1 W.nx fin h) fun h=>h2 W.nx fin h
theorem jJ {i:Int} (h:0<=i):Ja i 7=i%8:=by
 unfold Ja
 rw [decide_eq_true h]
 show ((i.toNat &&& (7:Int).toNat:Nat):Int)=_
 rw [show (7:Int).toNat=2 ^ 3-1 from rfl,Nat.and_two_pow_sub_one_eq_mod]
 lia
section
variable {P:GD} {w:Hg} {K:FO} {mg:Str->Option FU} {base:Heap}
theorem xM (S:Src K mg "centres" eM) (T:Txt mg) (e27_:Has P w K mg base 2 "comes_amid" ["rule","lines","x"] (spP K zu)):Has P w K mg base 3 "centres" ["rule"] (spP K zw):=by
 refine bD S jE (by walk_at "1") (by walk_at "L") fun f cdv A outer s H E hr=>⟨_,_,(ak (qk (ii:=1) (tg:=["above","row","below"]) (cs:=[]) (ix:=[]) jE.nd rfl (Gf rfl) (Gf rfl) (aK (ao eM) ["rule","nines"] (by decide +kernel)) rfl (by decide) (by decide) (bC rfl T.range (aa af ai)) (fun _ _ _ _=>(au (i:=0) (show (["above","row","below"]:List Str).Nodup by decide +kernel) rfl (Gf rfl) (by first | exact Gf rfl | exact HB rfl))) (fun _ _ _ _=>(bC rfl T.range (aa af ai))) (fun _ _ _ _=>(au (i:=1) (show (["above","row","below"]:List Str).Nodup by decide +kernel) rfl (Gf rfl) (by first | exact Gf rfl | exact HB rfl))) (fun _ _ _ _=>(bC rfl T.range (aa af ai))) (fun _ _ _ _=>(au (i:=2) (show (["above","row","below"]:List Str).Nodup by decide +kernel) rfl (Gf rfl) (by first | exact Gf rfl | exact HB rfl))) (fun _ _ _ _=>(aA (aa (aG (ae 0 (pv 0))) (aa (aG (ae 1 (pv 1))) (aa (aG (ae 2 (pv 2))) ai))))))
  (aq (aD (vS (wm (tg:=["nine"]) (cs:=["rule"]) (ix:=[0]) rfl hr.units (aK (ao eM) ["rule","nines"] (by decide +kernel)) rfl (bh (by decide)) (by decide) (bG rfl (ae 1 (pv 1))) (fun _ _ _ _=>(ay (au (i:=0) (show (["nine","rule"]:List Str).Nodup by decide +kernel) rfl (Gf rfl) (by first | exact Gf rfl | exact HB rfl)))) (fun _ _ _ _=>bU) (fun _ _ _ _=>(ae 0 (pv 0))) (fun _ _ _ _=>(ly (bS (bu e27_ hr (aa (ae 1 (pv 1)) (aa (ae 0 (pv 0)) (aa af ai))))) af af))))))),?_⟩
 rintro ds R ⟨k,bo,st,rfl,hk,q⟩
 walk_at "sl"
 walk_at "rd"
 refine ql (xs:=FY 8) (en:=fun (i:Nat)=>.int (0+(i:Int))) (r:=fun (a:Nat)=>(FY 8).flatMap fun (b:Nat)=>(FY 8).map fun (c:Nat)=>eT [0+(a:Int),0+(b:Int),0+(c:Int)]) 64 (fun a _=>by rw [LU];simp;decide) (by simp) (fun a ha zs B hz hB=>?_) ?_
 ·dsimp only [bg,Ga,Gq,G3,GS,G1,GW]
  rw [F9] at hz
  refine B5 ?_
  walk_at "rd"
  refine oN (xs:=FY 8) (en:=fun (i:Nat)=>.int (0+(i:Int))) (r:=fun (b:Nat)=>(FY 8).map fun (c:Nat)=>eT [0+(a:Int),0+(b:Int),0+(c:Int)]) (by simp) 8 (fun b _=>by simp) (fun b hb zs2 B2 hz2 hB2=>?_) (hB _ rfl)
  rw [F9] at hz2
  refine B5 ?_
  walk_at "rd"
  refine oN (xs:=FY 8) (en:=fun (i:Nat)=>.int (0+(i:Int))) (r:=fun (c:Nat)=>[eT [0+(a:Int),0+(b:Int),0+(c:Int)]]) (by simp) 1 (fun b _=>by simp) (fun c hc zs3 B3 hz3 hB3=>?_) ?_
  ·rw [F9] at hz3
   refine B6 (by lia) ?_
   walk_at "rd"
   exact xk (hB3 _ rfl)
  ·rw [<- List.map_eq_flatMap]
   exact hB2 _ rfl
 ·rw [show (List.flatMap (fun (a:Nat)=>List.flatMap (fun (b:Nat)=>M9 (fun (c:Nat)=>eT [0+(a:Int),0+(b:Int),0+(c:Int)]) (FY 8)) (FY 8)) (FY 8))=tri.map eT by unfold tri;simp only [JJ,GP];rfl]
  walk_at "rd"
  refine pY (xs:=tri) (ky:=id) (f:=fun m=>.int (am3 k bo st m)) (by rw [show tri.length=512 by decide +kernel];decide) (fun m hm A B hA=>?_) ?_
  ·obtain ⟨a,b,c,rfl,h1,h2,h3,h4,h5,h6⟩:=Cp hm
   dsimp only [bg,Ga,Gq,G3,GS,G1]
   walk_at "rd"
   refine ⟨k,bo,st,a,b,c,1,rfl,hk,h1,h3,h5,by decide,?_⟩
   walk_at "rd"
   have hA':∀z,am3 k bo st [a,b,c]=z->∀S5,backS 1 [0] _ S5=_->A [a,b,c] (.int z) S5:=fun z e S5 h=>e▸hA S5 h
   refine mV (fun e=>?_) (fun e=>?_)
   ·walk_at "rd"
    exact hA' _ (if_pos e) _ rfl
   ·walk_at "rd"
    exact hA' _ (if_neg fun z=>by rw [show t9 k bo st a b c 1=true from z] at e;cases e) _ rfl
  ·walk_at "rd"
   refine q _ fun a b c h1 h2 h3 h4 h5 h6=>jI (d:=.int (am k bo st a b c)) tri [] (fun x hx e=>by rw [show x=[a,b,c] from e];rfl) (.inl ?_)
   rw [MP]
   exact xH h1 h2 h3 h4 h5 h6
theorem Cr (S:Src K mg "rows_below" cX) (T:Txt mg):Has P w K mg base 1 "rows_below" ["amid","above","row","wanted","free"] (spP K E6):=by
 refine bD S bw (by walk_at "5") (by walk_at "L") fun f cdv A outer s H E hr=>⟨_,_,(ak (kn (i:=5) bw.nd rfl (HB rfl) (aI (aV (aa af ai))))
  (ak (cB Hv rfl (oI rfl (by rfl) T.enumerate_ (aa (ae 4 (pv 4)) ai)) (cV (n:=2) rfl rfl (aJ (ay (au (i:=6) bw.nd rfl (Gf rfl) (Gf rfl))) (aJ (ay (au (i:=7) bw.nd rfl (Gf rfl) (Gf rfl))) b6))) (ak (bK (bS (ae 7 (pv 7))) (aq (kn (i:=5) bw.nd rfl (HB rfl) (aI (iL (tg:=["more","line"]) (cs:=["found"]) (ix:=[5]) (aK (ao cX) ["amid","above","row","wanted","free","found","column","may_live","x","one","two","lives"] (by decide +kernel)) rfl (fY (by decide) (by decide) (by decide)) (by decide) (AI rfl (aA (aa af (aa (aB jS bR af (ae 6 (pv 6))) ai)))) (fun _ _ _ _=>(ay (au (i:=0) (show (["more","line","found"]:List Str).Nodup by decide +kernel) rfl (Gf rfl) (by first | exact Gf rfl | exact HB rfl)))) (fun _ _ _ _=>bU) (fun _ _ _ _=>(bG rfl (ae 2 (pv 2)))) (fun _ _ _ _=>(ay (au (i:=1) (show (["more","line","found"]:List Str).Nodup by decide +kernel) rfl (Gf rfl) (by first | exact Gf rfl | exact HB rfl)))) (fun _ _ _ _=>bU) (fun _ _ _ _=>(aB bf aE (ae 1 (pv 1)) (ae 0 (pv 0)))))))) aW)
  (aq (bK (aT yh aE (ae 6 (pv 6)) af (aO _)) (ak (aH (i:=8) bw.nd rfl (HB rfl) (aB g9 aE (ae 6 (pv 6)) af))
  (ak (iC (aA (aa (aB f9 aE (aB fv bR (ae 1 (pv 1)) (ae 8 (pv 8))) af) (aa (aB f9 aE (aB fv bR (ae 2 (pv 2)) (ae 8 (pv 8))) af) (aa (aB f9 aE (aB fv bR (ae 3 (pv 3)) (aB bf aE (ae 8 (pv 8)) af)) af) ai)))) (cV (n:=3) rfl rfl (aJ (ay (au (i:=9) bw.nd rfl (HB rfl) (Gf rfl))) (aJ (ay (au (i:=10) bw.nd rfl (HB rfl) (Gf rfl))) (aJ (ay (au (i:=11) bw.nd rfl (HB rfl) (Gf rfl))) b6)))))
  (aq (kn (i:=5) bw.nd rfl (HB rfl) (aI (b8 (tg:=["line"]) (cs:=["lives","amid","one","two","x"]) (ix:=[11,0,9,10,8]) (aK (ao cX) ["amid","above","row","wanted","free","found","column","may_live","x","one","two","lives"] (by decide +kernel)) rfl (bh (by decide)) (by decide) (bG rfl (ae 5 (pv 5))) (fun _ _ _ _=>(ay (au (i:=0) (show (["line","lives","amid","one","two","x"]:List Str).Nodup by decide +kernel) rfl (Gf rfl) (by first | exact Gf rfl | exact HB rfl)))) (fun _ _ _ _=>(dN (aT ef iw (B0 rfl hr.units (ae 2 (pv 2)) (aA (aa (ae 3 (pv 3)) (aa (ae 4 (pv 4)) (aa (aB fv bR (ae 0 (pv 0)) (ae 5 (pv 5))) ai)))) (fun _ _=>rfl)) (ae 1 (pv 1)) (aO _)))) (fun _ _ _ _=>(aG (ae 0 (pv 0)))))))))) aW))))
  (aq (aD (oy 5 (pv 5)))))),?_⟩
 rintro ds R ⟨g,kvs,ab,ro,wa,fr,rfl,ham,ha,hr',hw,hl,q⟩
 walk_at "sl"
 walk_at "rd"
 refine km (GI rfl) ?_
 walk_at "rd"
 rw [Cq]
 refine dQ (fun i S2=>∃s6 s7 s8 s9 s10 s11,S2=[.val (dc kvs),.val (.int ab),.val (.int ro),.val (.int wa),.val (.lst (fr.map D.bl)),.fre (.lst ((below g ab ro wa fr i).map .int)),s6,s7,s8,s9,s10,s11]) ⟨_,_,_,_,_,_,rfl⟩ ?_ ?_
 ·rintro i d S2 e ⟨s6,s7,s8,s9,s10,s11,rfl⟩
  obtain ⟨x,h1,rfl⟩:=xK e
  obtain ⟨hb,hbl⟩:=oQ (f:=g) (ab:=ab) (ro:=ro) (wa:=wa) (fr:=fr) i
  have hi8:i < 8:=by lia
  have hle:(below g ab ro wa fr i).length<=128:=Hr hbl (show 2 ^ i<=2 ^ 7 from HZ (by decide) (by lia))
  walk_at "rd"
  refine uf (fun S'=>S'=[.val (dc kvs),.val (.int ab),.val (.int ro),.val (.int wa),.val (.lst (fr.map D.bl)),.fre (.lst ((fa i x (below g ab ro wa fr i)).map .int)),.val (.int i),.val (.bl x),s8,s9,s10,s11]) ?_ ?_ ?_
  ·rintro S' rfl
   walk_at "rd"
   have hfb:=E5 (b:=x) hb
   have hfl:=ue (c:=i) (b:=x) (xs:=below g ab ro wa fr i)
   refine cC (fun h2=>?_) (fun h2=>?_)
   ·have h2':2<=i:=by lia
    have e1:((i:Int)-2).toNat=i-2:=by lia
    have e2:((i:Int)-2+1).toNat=i-1:=by lia
    have p1:∀n:Nat,(0:Int)<=2 ^ n:=fun n=>MF (two_pos n)
    walk_at "rd"
    refine df (xs:=fa i x (below g ab ro wa fr i)) (en:=D.int) (f:=D.int) (p:=fun l=>decide (g (w3 ab (i-2)) (w3 ro (i-2)) (l / 2 ^ (i-2))=wa / 2 ^ (i-1)%2)) (by lia) (fun l hm A B hA hB=>?_) ?_
    ·obtain ⟨l1,l2⟩:=hfb l hm
     have l3:l / 2 ^ (i-2) < 8:=Lq (two_pos _) (by rw [show (8:Int)=2 ^ 3 from rfl,<- KR,show 3+(i-2)=i+1 by lia];exact l2)
     have w8:∀n x,0<=w3 n x/\w3 n x < 8:=fun n x=>⟨Lo _ (by decide),Ki _ (by decide)⟩
     dsimp only [bg,Ga,Gq,G3,GS,G1]
     walk_at "rd"
     rw [jJ (HR ha (p1 _)),jJ (HR hr' (p1 _)),gU (HR hw (p1 _)),e1,e2]
     refine w6 (kvs:=kvs) (ms:=[w3 ab (i-2),w3 ro (i-2),l / 2 ^ (i-2)]) rfl rfl (ham _ _ _ (w8 _ _).1 (w8 _ _).2 (w8 _ _).1 (w8 _ _).2 (HR l1 (p1 _)) l3) ?_
     walk_at "rd"
     refine dA (fun z=>?_) (fun z=>?_)
     ·walk_at "rd"
      exact hA _ rfl z
     ·exact hB _ rfl z
    ·walk_at "rd"
     refine km (GI rfl) ?_
     walk_at "rd"
     have e3:below g ab ro wa fr (i+1)=(fa i x (below g ab ro wa fr i)).filter fun l=>decide (g (w3 ab (i-2)) (w3 ro (i-2)) (l / 2 ^ (i-2))=wa / 2 ^ (i-1)%2):=by
      show fb g ab ro wa i (fa i (fr.getD i false) _)=_
      rw [h1.2];exact if_pos h2'
     rw [e3]
     exact ⟨_,_,_,_,_,_,rfl⟩
   ·walk_at "rd"
    have e3:below g ab ro wa fr (i+1)=fa i x (below g ab ro wa fr i):=by
     show fb g ab ro wa i (fa i (fr.getD i false) _)=_
     rw [h1.2];exact if_neg (by lia)
    rw [e3]
    exact ⟨_,_,_,_,_,_,rfl⟩
  ·rintro nx fin rfl
   walk_at "rd"
   refine gm (xs:=[0,1*2 ^ ((i:Int)).toNat]) (en:=D.int) (r:=fun m=>(below g ab ro wa fr i).map fun l=>D.int (l+m)) (by simp) (fun m hm ys A B hA=>?_) ?_
   ·dsimp only [bg,Ga,Gq,G3,GS,G1]
    walk_at "rd"
    refine tf (xs:=below g ab ro wa fr i) (en:=D.int) (f:=fun l=>.int (l+m)) (by lia) (fun l hm A2 B2 hA2=>?_) (hA _ rfl)
    walk_at "rd"
    exact hA2 _ rfl
   ·rw [xJ]
    walk_at "rd"
    refine km (GI rfl) ?_
    walk_at "rd"
    exact fin _ rfl
  ·rintro nx fin rfl
   walk_at "rd"
   exact fin _ rfl
 ·rintro S2 ⟨s6,s7,s8,s9,s10,s11,rfl⟩
  walk_at "rd"
  rw [FV,F9]
  exact q
end
end My
namespace My
open PySem L2 VL
def fr (p:Nat->Bool) (w:Nat):List Nat:=(FY w).filter p
theorem oR (p:Nat->Bool) (w:Nat):fr p (w+1)=fr p w++if p w=true then [w] else []:=by
 unfold fr
 rw [IA,HW]
 congr 1
 by_cases h:p w=true <;> simp [h]
def st (k:Int):List (List Int):=if k=4 then [[-1,0],[0,-1],[0,1],[1,0]] else if k=6 then [[-1,0],[0,-1],[0,1],[1,0],[-1,-1],[1,1]] else [[-1,0],[0,-1],[0,1],[1,0],[-1,-1],[1,1],[-1,1],[1,-1]]
theorem oS {k:Int} (hk:Kd k):(st k).Perm (nr k):=by rcases hk with rfl | rfl | rfl <;> decide +kernel
def nx2 (x y:Int) (m:List Int):List Int:=match m with
 | [dx,dy]=>[x+dx,y+dy]
 | _=>[]
def lives (k:Int) (bo sy:List Int) (ks:List (List Int)) (x y:Int):Bool:=decide ((((st k).filter fun m=>decide (nx2 x y m∈ks)).length:Int)∈(if [x,y]∈ks then sy else bo))
def zx:List Int->List D->(D->List Int->Prop)->Prop:=fun pn ds R=>∃b:Nat,ds=[.int 0]/\Pn b pn/\b<=1000/\∀(k:Int) (bo sy:List Int) pn',Kd k->Pn (b+30) pn'->R (rl k bo sy) pn'
def zy:List D->(D->Prop)->Prop:=fun ds R=>∃k,ds=[.int k]/\Kd k/\R (eL (st k))
def ug:List D->(D->Prop)->Prop:=fun ds R=>∃k bo sy kvs x y,ds=[rl k bo sy,eL (st k),dc kvs,.int x,.int y]/\Kd k/\R (.bl (lives k bo sy (kvs.map (·.1)) x y))
theorem E7 {r:Int} (h0:0<=r) (h1:r < 3):∃k,Kd k/\atI [D.int 8,.int 6,.int 4] r=some (.int k):=by
 have:r=0\/r=1\/r=2:=by lia
 rcases this with rfl | rfl | rfl
 ·exact ⟨8,.inr (.inr rfl),rfl⟩
 ·exact ⟨6,.inr (.inl rfl),rfl⟩
 ·exact ⟨4,.inl rfl,rfl⟩
theorem oT (l:List Nat) (lo:Int):(l.map fun (i:Nat)=>D.int (lo+(i:Int)))=(l.map fun (i:Nat)=>lo+(i:Int)).map D.int:=by rw [GP];rfl
theorem jK (l:List Nat) (lo:Int):flats (l.map fun (i:Nat)=>D.int (lo+(i:Int)))=true:=by
 rw [show (l.map fun (i:Nat)=>D.int (lo+(i:Int)))=(l.map fun (i:Nat)=>lo+(i:Int)).map D.int by rw [GP];rfl]
 exact cU _
theorem kQ (p:Nat->Bool) (b:Bool) (w:Nat):fr (fun x=>if x=w then b else p x) (w+1)=fr p w++if b=true then [w] else []:=by
 rw [oR]
 congr 1
 ·unfold fr
  refine Ms fun x hx=>?_
  have:=List.mem_range.mp hx
  rw [if_neg (by lia)]
 ·rw [if_pos rfl]
theorem gF {T:List Sl}:∀(r:List Sl) (k:Nat),bT 1 [0] T (k+1) r=r
 | [],_=>rfl
 | s::r,k=>by
  have:([0]:List Nat).idxOf? (k+1)=none:=by simp [MM,List.findIdx?_cons]
  unfold bT
  rw [this,gF r (k+1)]
theorem jL {ad:Option Addr} {pn pn2:List Int} {rest:List Sl} {x:Sl}:backS 1 [0] (.pen ad pn::rest) [x,.pen ad pn2]=.pen ad pn2::rest:=by
 show bT 1 [0] _ 0 _=_
 unfold bT
 rw [gF]
 rfl
theorem oU {ad:Option Addr} {pn:List Int} {rest:List Sl} {QN:List D->List Sl->Prop} {vt:VTT} {lo:Int} {n b:Nat} (hb:b+n<=1000000) (hp:Pn b pn)
  (hvt:∀(b':Nat) (pn':List Int) (x:Int) (A:Bool->List Sl->Prop),Pn b' pn'->b'<=1000000->(∀v pn2,Pn (b'+1) pn2->A v [.val (.int x),.pen ad pn2])->vt [.val (.int x),.pen ad pn'] A)
  (q:∀(p:Nat->Bool) pn',Pn (b+n) pn'->QN ((fr p n).map fun (i:Nat)=>D.int (lo+(i:Int))) (.pen ad pn'::rest)):ju 1 [0] (vgN 0) vt (q0 (qZ 0)) QN (rg lo n) (.pen ad pn::rest):=by
 refine lK (fun i ys S2=>∃(p:Nat->Bool) (pn':List Int),Pn (b+i) pn'/\ys=((fr p i).map fun (i:Nat)=>D.int (lo+(i:Int)))/\S2=.pen ad pn'::rest) (by lia) ⟨fun _=>false,pn,hp,rfl,rfl⟩ ?_ ?_
 ·rintro i ys S2 hi ⟨p,pn',h1,rfl,rfl⟩
  refine ⟨(by show 0 < _;simp [bg]),?_⟩
  show vt [.val (.int (lo+(i:Int))),.pen ad pn'] _
  refine hvt (b+i) pn' _ _ h1 (by lia) fun v pn2 h2=>?_
  cases v with
  | true=>
   refine dA (fun _=>?_) (fun e=>nomatch e)
   refine ⟨.d (.int (lo+(i:Int))),rfl,rfl,?_⟩
   refine lL ?_
   rw [jL]
   exact ⟨fun x=>if x=i then true else p x,pn2,h2,by rw [kQ,GK];rfl,rfl⟩
  | false=>
   refine dA (fun e=>nomatch e) (fun _=>?_)
   rw [jL]
   exact ⟨fun x=>if x=i then false else p x,pn2,h2,by rw [kQ,GK];simp,rfl⟩
 ·rintro ys S2 ⟨p,pn',h1,rfl,rfl⟩
  exact q p pn' h1
section
variable {P:GD} {w:Hg} {K:FO} {mg:Str->Option FU} {base:Heap}
theorem xN (S:Src K mg "_law_rule" iY) (T:Txt mg) (e0_:Has P w K mg base 1 "_law_draw" ["_law_pen_here","_law_many"] (spI K 0 jF)):Has P w K mg base 2 "_law_rule" ["_law_pen_here","_law_least"] (spI K 0 zx):=by
 refine n6 0 S e9 (by walk_at "2") (by walk_at "L") fun f cdv A outer s H E hr=>⟨_,_,(ak (aH (i:=2) e9.nd rfl (Gf rfl) (aF rfl (aI (aV (aa af (aa af (aa af ai))))) (bL e0_ hr (aa (ae 0 (pv 0)) (aa af ai))) (fun _ _=>rfl)))
  (ak (bK (aT ef iw (bL e0_ hr (aa (ae 0 (pv 0)) (aa af ai))) af (aO _)) (ak (aH (i:=3) e9.nd rfl (Gf rfl) (aF rfl (aF rfl (aI (aV (aa (aI (aV (aa (aA (aa af ai)) (aa (aA (aa af ai)) (aa (aA (aa af (aa af ai))) ai))))) (aa (aI (aV (aa (aA (aa af ai)) (aa (aA (aa af ai)) (aa (aA (aa af (aa af ai))) ai))))) (aa (aI (aV (aa (aA (aa af ai)) (aa (aA (aa af ai)) (aa (aA (aa af ai)) ai))))) ai))))) (aB jR bR (aB g9 aE af (ae 2 (pv 2))) af) (fun _ _=>rfl)) (bL e0_ hr (aa (ae 0 (pv 0)) (aa af ai))) (fun _ _=>rfl)))
  (ak (aH (i:=4) e9.nd rfl (Gf rfl) (aF rfl (aI (aV (aa (aA (aa af (aa af ai))) (aa (aA (aa af (aa af ai))) (aa (aA (aa af (aa af (aa af (aa af ai))))) (aa (vT rfl (by rfl) T.tuple_ (by rfl) T.range (aa (aB bf aE (ae 2 (pv 2)) af) ai)) (aa (aA (aa af ai)) (aa (aA ai) ai)))))))) (bL e0_ hr (aa (ae 0 (pv 0)) (aa af ai))) (fun _ _=>rfl)))
  (aq (aD (aA (aa (aG (ae 2 (pv 2))) (aa (aG (ae 3 (pv 3))) (aa (aG (ae 4 (pv 4))) ai)))))))) aW)
  (ak (lG (ii:=3) (tg:=["_law_count"]) (cs:=["_law_pen_here"]) (ix:=[0]) e9.nd rfl (Gf rfl) (Gf rfl) (aK (ao iY) ["_law_pen_here","_law_least","_law_kind","_law_born","_law_stay"] (by decide +kernel)) rfl (bh (by decide)) (by decide) (gh rfl T.range (aa (ae 1 (pv 1)) (aa (aB bf aE (ae 2 (pv 2)) af) ai))) (fun _ _ _ _=>(ay (au (i:=0) (show (["_law_count","_law_pen_here"]:List Str).Nodup by decide +kernel) rfl (Gf rfl) (by first | exact Gf rfl | exact HB rfl)))) (fun _ _ _ _=>(dN (aT ef iw (bL e0_ hr (aa (ae 1 (pv 1)) (aa af ai))) af (aO _)))) (fun _ _ _ _=>(aG (ae 0 (pv 0)))))
  (ak (lG (ii:=4) (tg:=["_law_count"]) (cs:=["_law_pen_here"]) (ix:=[0]) e9.nd rfl (Gf rfl) (Gf rfl) (aK (ao iY) ["_law_pen_here","_law_least","_law_kind","_law_born","_law_stay"] (by decide +kernel)) rfl (bh (by decide)) (by decide) (bC rfl T.range (aa (aB bf aE (ae 2 (pv 2)) af) ai)) (fun _ _ _ _=>(ay (au (i:=0) (show (["_law_count","_law_pen_here"]:List Str).Nodup by decide +kernel) rfl (Gf rfl) (by first | exact Gf rfl | exact HB rfl)))) (fun _ _ _ _=>(dN (aT ef iw (bL e0_ hr (aa (ae 1 (pv 1)) (aa af ai))) af (aO _)))) (fun _ _ _ _=>(aG (ae 0 (pv 0)))))
  (aq (aD (aA (aa (aG (ae 2 (pv 2))) (aa (iA rfl (by rfl) T.tuple_ (aa (ae 3 (pv 3)) ai)) (aa (iA rfl (by rfl) T.tuple_ (aa (ae 4 (pv 4)) ai)) ai)))))))))),?_⟩
 rintro a pn ds es R hl ⟨b,e,hpn,hb,q⟩
 obtain rfl:ds=[]:=HA hl
 obtain rfl:es=[.int 0]:=e
 walk_at "sl"
 walk_at "rd"
 refine ⟨b,3,rfl,hpn,by lia,by lia,by lia,fun pn1 r1 h1 r1a r1b=>?_⟩
 walk_at "rd"
 obtain ⟨k,hk,ek⟩:=E7 r1a r1b
 have hkb:4<=k/\k<=8:=by rcases hk with rfl | rfl | rfl <;> lia
 refine cJ rfl rfl ek ?_
 walk_at "rd"
 refine ⟨b+1,2,rfl,h1,by lia,by lia,by lia,fun pn2 r2 h2 r2a r2b=>?_⟩
 walk_at "rd"
 refine cC (fun c1=>?_) (fun c1=>?_)
 ·walk_at "rd"
  have hb2:∃bl:List (List Int),bl.length=3/\atI [D.lst [.tup [.int 3],.tup [.int 2],.tup [.int 3,.int 6]],.lst [.tup [.int 2],.tup [.int 3],.tup [.int 2,.int 4]],.lst [.tup [.int 2],.tup [.int 1],.tup [.int 3]]] ((8-k) / 2)=some (.lst (bl.map eT)):=by
   rcases hk with rfl | rfl | rfl
   ·exact ⟨[[2],[1],[3]],rfl,rfl⟩
   ·exact ⟨[[2],[3],[2,4]],rfl,rfl⟩
   ·exact ⟨[[3],[2],[3,6]],rfl,rfl⟩
  obtain ⟨bl,hbl,ebl⟩:=hb2
  refine cJ rfl rfl ebl ?_
  walk_at "rd"
  refine ⟨b+2,3,rfl,h2,by lia,by lia,by lia,fun pn3 r3 h3 r3a r3b=>?_⟩
  walk_at "rd"
  obtain ⟨bo,_,_,e3⟩:=fX (f:=eT) (l:=bl) r3a (by lia)
  refine cJ rfl rfl e3 ?_
  walk_at "rd"
  refine ⟨b+3,6,rfl,h3,by lia,by lia,by lia,fun pn4 r4 h4 r4a r4b=>?_⟩
  walk_at "rd"
  obtain ⟨sy,_,_,e4⟩:=fX (f:=eT) (l:=[[2,3],[1,2],[0,1,2,3],rgI 0 (k+1).toNat,[2],[]]) r4a r4b
  rw [show D.tup (rg 0 (k+1).toNat)=eT (rgI 0 (k+1).toNat) by rw [sI]]
  refine cJ rfl rfl e4 ?_
  walk_at "rd"
  exact ⟨_,rfl,q k bo sy _ hk (h4.le (by lia))⟩
 ·walk_at "rd"
  dsimp only [GW]
  have hvt:∀(b':Nat) (pn':List Int) (x:Int) (A:Bool->List Sl->Prop),Pn b' pn'->b'<=1000000->(∀v pn2,Pn (b'+1) pn2->A v [.val (.int x),.pen (some a) pn2])->(jq (v2 wEq (AH 0 jF (nX (qZ 1) (nX (vC (D.int 2)) Ay))) (vC (D.int 1)))) [.val (.int x),.pen (some a) pn'] A:=by
   intro b' pn' x A h1 h2 h3
   walk_at "rd"
   refine ⟨b',2,rfl,h1,by lia,by lia,by lia,fun pn3 r3 h4 r3a r3b=>?_⟩
   walk_at "rd"
   exact h3 _ _ h4
  refine oU (b:=b+2) (by lia) h2 hvt fun p1 pn3 h3=>?_
  walk_at "rd"
  refine oU (b:=b+2+(k+1-0).toNat) (by lia) h3 hvt fun p2 pn4 h4=>?_
  walk_at "rd"
  refine oe rfl (jK _ _) ?_
  walk_at "rd"
  refine oe rfl (jK _ _) ?_
  walk_at "rd"
  rw [oT,oT]
  exact ⟨_,rfl,q k _ _ _ hk (h4.le (by lia))⟩
theorem xO (S:Src K mg "_law_near" nB) (T:Txt mg):Has P w K mg base 1 "_law_near" ["_law_kind"] (spP K zy):=by
 refine bD S gR (by walk_at "1") (by walk_at "L") fun f cdv A outer s H E hr=>⟨_,_,(ak (cM (fun _ h=>bP (i:=1) gR.nd rfl (Gf rfl) h) (aV (aa (aA (aa (cI bI af) (aa af ai))) (aa (aA (aa af (aa (cI bI af) ai))) (aa (aA (aa af (aa af ai))) (aa (aA (aa af (aa af ai))) ai))))))
  (ak (bK (aT hW aE (ae 0 (pv 0)) af (aO _)) (aq (cM (fun _ h=>bP (i:=1) gR.nd rfl (Gf rfl) h) (sj 1 (pv 1) (aV (aa (aA (aa (cI bI af) (aa (cI bI af) ai))) (aa (aA (aa af (aa af ai))) ai)))))) aW)
  (ak (bK (aT hW aE (ae 0 (pv 0)) af (aO _)) (aq (cM (fun _ h=>bP (i:=1) gR.nd rfl (Gf rfl) h) (sj 1 (pv 1) (aV (aa (aA (aa (cI bI af) (aa af ai))) (aa (aA (aa af (aa (cI bI af) ai))) ai)))))) aW)
  (aq (aD (aG (ae 1 (pv 1)))))))),?_⟩
 rintro ds R ⟨k,rfl,hk,q⟩
 walk_at "sl"
 rcases hk with rfl | rfl | rfl
 all_goals
  repeat first
   | walk_at "rc1"
   | refine Bj rfl (by decide) ?_
  exact q
theorem uh (S:Src K mg "_law_lives" gS) (T:Txt mg):Has P w K mg base 1 "_law_lives" ["_law_code","_law_near_here","_law_live","_law_x","_law_y"] (spP K ug):=by
 refine bD S mn (by walk_at "5") (by walk_at "L") fun f cdv A outer s H E hr=>⟨_,_,(ak (aH (i:=5) mn.nd rfl (Gf rfl) (aM (fV (K:=K) rfl) fQ (by rfl) T.len_ dJ (aa (aI (b8 (tg:=["_law_step"]) (cs:=["_law_live","_law_x","_law_y"]) (ix:=[2,3,4]) (aK (ao gS) ["_law_code","_law_near_here","_law_live","_law_x","_law_y","_law_count"] (by decide +kernel)) rfl (bh (by decide)) (by decide) (bG rfl (ae 1 (pv 1))) (fun _ _ _ _=>(ay (au (i:=0) (show (["_law_step","_law_live","_law_x","_law_y"]:List Str).Nodup by decide +kernel) rfl (Gf rfl) (by first | exact Gf rfl | exact HB rfl)))) (fun _ _ _ _=>(dN (aT (yI (K:=K) rfl hr.units) yH (aA (aa (aB bf aE (ae 2 (pv 2)) (aF rfl (ae 0 (pv 0)) af (fun _ _=>rfl))) (aa (aB bf aE (ae 3 (pv 3)) (aF rfl (ae 0 (pv 0)) af (fun _ _=>rfl))) ai))) (ae 1 (pv 1)) (by with_unfolding_all rfl)))) (fun _ _ _ _=>(aG (ae 0 (pv 0)))))) ai)))
  (ak (bK (aT (yI (K:=K) rfl hr.units) yH (aA (aa (ae 3 (pv 3)) (aa (ae 4 (pv 4)) ai))) (ae 2 (pv 2)) (by with_unfolding_all rfl)) (aq (aD (eE (mU (K:=K) rfl hr.units) rL (ae 5 (pv 5)) (aF rfl (ae 0 (pv 0)) af (fun _ _=>rfl)) (by with_unfolding_all rfl)))) aW)
  (aq (aD (eE (mU (K:=K) rfl hr.units) rL (ae 5 (pv 5)) (aF rfl (ae 0 (pv 0)) af (fun _ _=>rfl)) (by with_unfolding_all rfl)))))),?_⟩
 rintro ds R ⟨k,bo,sy,kvs,x,y,rfl,hk,q⟩
 walk_at "sl"
 unfold rl
 walk_at "rd"
 have hl:(st k).length<=8:=by rcases hk with rfl | rfl | rfl <;> decide
 refine df (xs:=st k) (en:=eT) (f:=eT) (p:=fun m=>decide (nx2 x y m∈kvs.map (·.1))) (by lia) (fun m hm A B hA hB=>?_) ?_
 ·obtain ⟨dx,dy,rfl⟩:=EZ hk ((oS hk).mem_iff.mp hm)
  dsimp only [bg,Ga,Gq,G3,GS,G1]
  walk_at "rd"
  refine sJ (ms:=[x+dx,y+dy]) (kvs:=kvs) rfl rfl ?_
  walk_at "rd"
  cases hp:decide (nx2 x y [dx,dy]∈kvs.map (·.1)) with
  | true=>
   rw [show (if false=true then !decide ([x+dx,y+dy]∈kvs.map (·.1)) else decide ([x+dx,y+dy]∈kvs.map (·.1)))=true from hp]
   walk_at "rd"
   exact hA _ rfl hp
  | false=>
   rw [show (if false=true then !decide ([x+dx,y+dy]∈kvs.map (·.1)) else decide ([x+dx,y+dy]∈kvs.map (·.1)))=false from hp]
   walk_at "rd"
   exact hB _ rfl hp
 ·walk_at "rd"
  rw [FV]
  refine sJ (ms:=[x,y]) (kvs:=kvs) rfl rfl ?_
  walk_at "rd"
  unfold lives at q
  by_cases h:[x,y]∈kvs.map (·.1)
  ·rw [show (if false=true then !decide ([x,y]∈kvs.map (·.1)) else decide ([x,y]∈kvs.map (·.1)))=true from decide_eq_true h]
   rw [if_pos h] at q
   walk_at "rd"
   refine ki (f:=D.int) fU ?_
   walk_at "rd"
   exact q
  ·rw [show (if false=true then !decide ([x,y]∈kvs.map (·.1)) else decide ([x,y]∈kvs.map (·.1)))=false from decide_eq_false h]
   rw [if_neg h] at q
   walk_at "rd"
   refine ki (f:=D.int) fU ?_
   walk_at "rd"
   exact q
end
end My
namespace My
open PySem L2 VL
def zz:List Int->List D->(D->List Int->Prop)->Prop:=fun pn ds R=>∃(b:Nat) (t:Int),ds=[.int t]/\Pn b pn/\b<=1000/\∀(w h:Int) pn',fsOk (eT [w,h])=true->Pn (b+4) pn'->R (eT [w,h]) pn'
def Row (h x:Int) (ys:List (List Int)):Prop:=ys.Nodup/\∀p∈ys,∃a b,p=[a,b]/\-1<=a/\a < x/\-1<=b/\b < h+1
def ui:List Int->List D->(D->List Int->Prop)->Prop:=fun pn ds R=>∃(b:Nat) (w h:Int),ds=[eT [w,h]]/\fsOk (eT [w,h])=true/\Pn b pn/\b<=1000/\∀ys pn',Row h (w+1) ys->ys.length<=40->Pn (b+50) pn'->R (eL ys) pn'
theorem xP {w h:Int} (hf:fsOk (eT [w,h])=true):(1<=w/\w<=3)/\1<=h/\h<=6:=by
 simp only [eT,Gq,G3,fsOk,GC,decide_eq_true_eq] at hf
 exact ⟨hf.1,hf.2.1⟩
theorem Row.add {h x:Int} {ys:List (List Int)} {p:Nat->Bool} {n:Nat} (r:Row h x ys) (hx:-1<=x) (hn:(n:Int)<=h+2):Row h (x+1) (ys++(fr p n).map fun (j:Nat)=>[x,-1+(j:Int)]):=by
 refine ⟨List.nodup_append.mpr ⟨r.1,?_,fun a ha b hb e=>?_⟩,fun q hq=>?_⟩
 ·exact List.pairwise_map.mpr ((List.Pairwise.filter _ List.nodup_range).imp fun {a b} z e=>z (by injection e with _ e;injection e with e _;lia))
 ·obtain ⟨j,_,rfl⟩:=List.mem_map.mp hb
  obtain ⟨a',b',rfl,_,h2,_⟩:=r.2 a ha
  injection e with e _
  lia
 ·rcases List.mem_append.mp hq with hq | hq
  ·obtain ⟨a,b,e,h1,h2,h3⟩:=r.2 q hq
   exact ⟨a,b,e,h1,by lia,h3⟩
  ·obtain ⟨j,hj,rfl⟩:=List.mem_map.mp hq
   have:=List.mem_range.mp (List.mem_filter.mp hj).1
   exact ⟨x,_,rfl,hx,by lia,by lia,by lia⟩
theorem Cs (p:Nat->Bool) (n:Nat):(fr p n).length<=n:=by
 unfold fr
 have:=HD p (FY n)
 rwa [F9] at this
theorem mw {k:Int} {bo sy:List Int} {ks ys:List (List Int)} (h:∀c,c∈ks↔c∈ys) (x y:Int):lives k bo sy ks x y=lives k bo sy ys x y:=by
 unfold lives
 simp only [h]
def bec (k:Int) (bo sy:List Int) (w h:Int) (ys:List (List Int)):List (List Int):=(FY w.toNat).flatMap fun (x:Nat)=>((FY h.toNat).filter fun (y:Nat)=>lives k bo sy ys (0+(x:Int)) (0+(y:Int))).map fun (y:Nat)=>[0+(x:Int),0+(y:Int)]
def Ct:List D->(D->Prop)->Prop:=fun ds R=>∃k bo sy w h ys,ds=[rl k bo sy,eT [w,h],eL ys]/\Kd k/\fsOk (eT [w,h])=true/\ys.length<=60/\R (eL (bec k bo sy w h ys))
section
variable {P:GD} {w:Hg} {K:FO} {mg:Str->Option FU} {base:Heap}
theorem uj (S:Src K mg "_law_cells" gT) (T:Txt mg) (e0_:Has P w K mg base 1 "_law_draw" ["_law_pen_here","_law_many"] (spI K 0 jF)):Has P w K mg base 2 "_law_cells" ["_law_pen_here","_law_size_here"] (spI K 0 ui):=by
 refine n6 0 S f7 (by walk_at "2") (by walk_at "L") fun f cdv A outer s H E hr=>⟨_,_,(ak (cM (fun _ h=>bP (i:=2) f7.nd rfl (Gf rfl) h) (aV ai))
  (ak (aH (i:=3) f7.nd rfl (HB rfl) (aB bf aE af (bL e0_ hr (aa (ae 0 (pv 0)) (aa af ai)))))
  (ak (cB Hv rfl (gh rfl T.range (aa (cI bI af) (aa (aB bf aE (aF rfl (ae 1 (pv 1)) af (fun _ _=>rfl)) af) ai))) (ay (au (i:=4) f7.nd rfl (HB rfl) (Gf rfl))) (aq (fS (sS 2 rfl (pv 2) (b8 (tg:=["_law_y"]) (cs:=["_law_x","_law_pen_here","_law_thick"]) (ix:=[4,0,3]) (aK (ao gT) ["_law_pen_here","_law_size_here","_law_found","_law_thick","_law_x"] (by decide +kernel)) rfl (bh (by decide)) (by decide) (gh rfl T.range (aa (cI bI af) (aa (aB bf aE (aF rfl (ae 1 (pv 1)) af (fun _ _=>rfl)) af) ai))) (fun _ _ _ _=>(ay (au (i:=0) (show (["_law_y","_law_x","_law_pen_here","_law_thick"]:List Str).Nodup by decide +kernel) rfl (Gf rfl) (by first | exact Gf rfl | exact HB rfl)))) (fun _ _ _ _=>(dN (aT ef iw (bL e0_ hr (aa (ae 2 (pv 2)) (aa (ae 3 (pv 3)) ai))) af (aO _)))) (fun _ _ _ _=>(aA (aa (aG (ae 1 (pv 1))) (aa (aG (ae 0 (pv 0))) ai)))))))))
  (aq (aD (aG (ae 2 (pv 2)))))))),?_⟩
 rintro a pn ds es R hl ⟨b,w,h,e,hf,hpn,hb,q⟩
 obtain ⟨⟨w1,w2⟩,h1,h2⟩:=xP hf
 obtain rfl:ds=[]:=HA hl
 obtain rfl:es=[eT [w,h]]:=e
 walk_at "sl"
 walk_at "rd"
 refine ⟨b,2,rfl,hpn,by lia,by lia,by lia,fun pn1 r1 p1 r1a r1b=>?_⟩
 walk_at "rd"
 refine j8 (fun i S=>∃ys pn' s4,Pn (b+1+i*8) pn'/\Row h (-1+(i:Int)) ys/\ys.length<=8*i/\S=[.pen (some a) pn',.val (eT [w,h]),.own (ys.map eT),.val (.int (2+r1)),s4]) ⟨[],pn1,_,by simpa using p1,⟨Kn,fun _ z=>(List.not_mem_nil z).elim⟩,by simp,rfl⟩ ?_ ?_
 ·rintro i S2 hi ⟨ys,pn',s4,hp',hr',hl',rfl⟩
  have hi':i < 5:=by lia
  walk_at "rd"
  refine lK (fun j zs S3=>∃(p:Nat->Bool) (pn2:List Int),Pn (b+1+i*8+j) pn2/\zs=((fr p j).map fun (t:Nat)=>eT [-1+(i:Int),-1+(t:Int)])/\S3=[.pen (some a) pn2,.val (eT [w,h]),.own (ys.map eT),.val (.int (2+r1)),.val (.int (-1+(i:Int)))]) (by lia) ⟨fun _=>false,pn',by simpa using hp',rfl,rfl⟩ ?_ ?_
  ·rintro j zs S3 hj ⟨p,pn2,hp2,rfl,rfl⟩
   have hj':j < 8:=by lia
   dsimp only [bg,Ga,Gq,G3,GS,G1]
   walk_at "rd"
   refine ⟨_,2+r1,rfl,hp2,by lia,by lia,by lia,fun pn3 r3 hp3 r3a r3b=>?_⟩
   walk_at "rd"
   refine dA (fun e=>?_) (fun e=>?_)
   ·walk_at "rd"
    exact ⟨fun x=>if x=j then true else p x,pn3,hp3,by rw [kQ,GK];rfl,rfl⟩
   ·exact ⟨fun x=>if x=j then false else p x,pn3,hp3,by rw [kQ,GK];simp,rfl⟩
  ·rintro zs S3 ⟨p,pn2,hp2,rfl,rfl⟩
   have hf':=Cs p (h+1 - -1).toNat
   refine sX rfl (by simp only [FV];lia) ?_
   walk_at "rd"
   refine ⟨ys++(fr p (h+1 - -1).toNat).map fun (j:Nat)=>[-1+(i:Int),-1+(j:Int)],pn2,_,hp2.le (by lia),?_,by rw [GV,FV];lia,by rw [GK,GP];rfl⟩
   have:=hr'.add (p:=p) (n:=(h+1 - -1).toNat) (by lia) (by lia)
   rwa [show (-1:Int)+((i+1:Nat):Int)=-1+(i:Int)+1 by lia]
 ·rintro S2 ⟨ys,pn',s4,hp',hr',hl',rfl⟩
  walk_at "rd"
  rw [show (-1:Int)+(((w+1 - -1).toNat:Nat):Int)=w+1 by lia] at hr'
  exact ⟨_,rfl,q ys _ hr' (by lia) (hp'.le (by lia))⟩
theorem Cu (S:Src K mg "_law_becomes" fc) (T:Txt mg) (e25_:Has P w K mg base 1 "_law_near" ["_law_kind"] (spP K zy)) (e21_:Has P w K mg base 1 "_law_lives" ["_law_code","_law_near_here","_law_live","_law_x","_law_y"] (spP K ug)):Has P w K mg base 2 "_law_becomes" ["_law_code","_law_size_here","_law_other"] (spP K Ct):=by
 refine bD S cq (by walk_at "3") (by walk_at "L") fun f cdv A outer s H E hr=>⟨_,_,(ak (oq (fun _ h=>bP (i:=3) cq.nd rfl (HB rfl) h) sC)
  (ak (cB Hv rfl (bG rfl (ae 2 (pv 2))) (ay (au (i:=4) cq.nd rfl (Gf rfl) (Gf rfl))) (aq (ot 3 rfl hr.units (pv 3) cy (ae 4 (pv 4)))))
  (ak (aH (i:=5) cq.nd rfl (HB rfl) (bu e25_ hr (aa (aF rfl (ae 0 (pv 0)) af (fun _ _=>rfl)) ai)))
  (ak (cM (fun _ h=>bP (i:=6) cq.nd rfl (Gf rfl) h) (aV ai))
  (ak (cB Hv rfl (bC rfl T.range (aa (aF rfl (ae 1 (pv 1)) af (fun _ _=>rfl)) ai)) (ay (au (i:=7) cq.nd rfl (HB rfl) (Gf rfl))) (aq (fS (sS 6 rfl (pv 6) (b8 (tg:=["_law_y"]) (cs:=["_law_x","_law_code","_law_near_here","_law_live"]) (ix:=[7,0,5,3]) (aK (ao fc) ["_law_code","_law_size_here","_law_other","_law_live","_law_cell","_law_near_here","_law_found","_law_x"] (by decide +kernel)) rfl (bh (by decide)) (by decide) (bC rfl T.range (aa (aF rfl (ae 1 (pv 1)) af (fun _ _=>rfl)) ai)) (fun _ _ _ _=>(ay (au (i:=0) (show (["_law_y","_law_x","_law_code","_law_near_here","_law_live"]:List Str).Nodup by decide +kernel) rfl (Gf rfl) (by first | exact Gf rfl | exact HB rfl)))) (fun _ _ _ _=>(dN (bS (bu e21_ hr (aa (ae 2 (pv 2)) (aa (ae 3 (pv 3)) (aa (ae 4 (pv 4)) (aa (ae 1 (pv 1)) (aa (ae 0 (pv 0)) ai))))))))) (fun _ _ _ _=>(aA (aa (aG (ae 1 (pv 1))) (aa (aG (ae 0 (pv 0))) ai)))))))))
  (aq (aD (aG (ae 6 (pv 6)))))))))),?_⟩
 rintro ds R ⟨k,bo,sy,w,h,ys,rfl,hk,hf,hl,q⟩
 obtain ⟨⟨w1,w2⟩,h1,h2⟩:=xP hf
 walk_at "sl"
 walk_at "rd"
 unfold rl
 refine dQ (fun i S=>∃kvs s4,(∀c,c∈kvs.map (·.1)↔c∈ys.take i)/\kvs.length<=i/\S=[.val (rl k bo sy),.val (eT [w,h]),.val (eL ys),od kvs,s4,.no,.no,.no]) ⟨[],_,fun c=>by simp,by simp,rfl⟩ ?_ ?_
 ·rintro i d S2 e ⟨kvs,s4,hc,hl',rfl⟩
  obtain ⟨p,e1,rfl,hm,ht⟩:=aL e
  have hi:i < ys.length:=(List.getElem?_eq_some_iff.mp e1).1
  walk_at "rd"
  refine lR (kvs:=kvs) (ms:=p) rfl rfl (by lia) ?_
  refine ⟨_,_,fun c=>?_,?_,rfl⟩
  ·rw [iM,hc c,ht,List.mem_append,HX,or_comm]
  ·have:(cE kvs p (.bl true)).length<=kvs.length+1:=by unfold cE;split <;> simp
   lia
 ·rintro S2 ⟨kvs,s4,hc,hl',rfl⟩
  rw [FV,Hl] at hc
  unfold rl
  walk_at "rd"
  refine ⟨k,rfl,hk,?_⟩
  walk_at "rd"
  refine j8 (fun i S=>∃s7,S=[.val (rl k bo sy),.val (eT [w,h]),.val (eL ys),od kvs,s4,.val (eL (st k)),.own (((FY i).flatMap fun (x:Nat)=>((FY h.toNat).filter fun (y:Nat)=>lives k bo sy ys (0+(x:Int)) (0+(y:Int))).map fun (y:Nat)=>[0+(x:Int),0+(y:Int)]).map eT),s7]) ⟨_,rfl⟩ ?_ ?_
  ·rintro i S2 hi ⟨s7,rfl⟩
   walk_at "rd"
   refine df (xs:=FY h.toNat) (en:=fun (j:Nat)=>.int (0+(j:Int))) (f:=fun (j:Nat)=>eT [0+(i:Int),0+(j:Int)]) (p:=fun (y:Nat)=>lives k bo sy ys (0+(i:Int)) (0+(y:Int))) (by simp;lia) (fun y hy A B hA hB=>?_) ?_
   ·dsimp only [bg,Ga,Gq,G3,GS,G1]
    walk_at "rd"
    refine ⟨k,bo,sy,kvs,0+(i:Int),0+(y:Int),rfl,hk,?_⟩
    rw [mw hc]
    cases hv:lives k bo sy ys (0+(i:Int)) (0+(y:Int)) with
    | true=>walk_at "rc";exact hA _ rfl hv
    | false=>walk_at "rc";exact hB _ rfl hv
   ·have la:((FY i).flatMap fun (x:Nat)=>((FY h.toNat).filter fun (y:Nat)=>lives k bo sy ys (0+(x:Int)) (0+(y:Int))).map fun (y:Nat)=>[0+(x:Int),0+(y:Int)]).length<=100:=by
     have hi':i < 3:=by lia
     have l1:∀x:Nat,(((FY h.toNat).filter fun (y:Nat)=>lives k bo sy ys (0+(x:Int)) (0+(y:Int))).map fun (y:Nat)=>[0+(x:Int),0+(y:Int)]).length<=6:=fun x=>by
      rw [FV]
      have:=HD (fun (y:Nat)=>lives k bo sy ys (0+(x:Int)) (0+(y:Int))) (FY h.toNat)
      rw [F9] at this
      lia
     rcases (by lia:i=0\/i=1\/i=2) with rfl | rfl | rfl
     ·simp
     ·have:=l1 0;simp at this ⊢;lia
     ·have:=l1 0;have:=l1 1;simp [IA] at *;lia
    have lb:=HD (fun (y:Nat)=>lives k bo sy ys (0+(i:Int)) (0+(y:Int))) (FY h.toNat)
    rw [F9] at lb
    refine sX rfl (by simp only [FV];lia) ?_
    walk_at "rd"
    refine ⟨.val (.int (0+(i:Int))),?_⟩
    rw [IA,IE,GK]
    simp only [Jy,List.flatMap_nil,Hy,GP]
    rfl
  ·rintro S2 ⟨s7,rfl⟩
   walk_at "rd"
   exact q
theorem xQ (S:Src K mg "_law_size" nE) (T:Txt mg) (e0_:Has P w K mg base 1 "_law_draw" ["_law_pen_here","_law_many"] (spI K 0 jF)):Has P w K mg base 2 "_law_size" ["_law_pen_here","_law_at"] (spI K 0 zz):=by
 refine n6 0 S oP (by walk_at "2") (by walk_at "L") fun f cdv A outer s H E hr=>⟨_,_,(ak (bK (jr (rf (aT ef iw (bL e0_ hr (aa (ae 0 (pv 0)) (aa af ai))) af (aO _)) (nW (aT ef iw (ae 1 (pv 1)) af (aO _))))) (aq (aD (aA (aa af (aa af ai))))) aW)
  (ak (bK (aT ef iw (bL e0_ hr (aa (ae 0 (pv 0)) (aa af ai))) af (aO _)) (aq (aD (aA (aa af (aa (aB bf aE af (bL e0_ hr (aa (ae 0 (pv 0)) (aa af ai)))) ai))))) aW)
  (ak (aH (i:=2) oP.nd rfl (Gf rfl) (aB bf aE af (bL e0_ hr (aa (ae 0 (pv 0)) (aa af ai)))))
  (aq (aD (aA (aa (aG (ae 2 (pv 2))) (aa (aB bf aE af (bL e0_ hr (aa (ae 0 (pv 0)) (aa (aF rfl (aI (aV (aa af (aa af ai)))) (aB g9 aE (ae 2 (pv 2)) af) (fun _ _=>rfl)) ai)))) ai)))))))),?_⟩
 rintro a pn ds es R hl ⟨b,t,e,hpn,hb,q⟩
 obtain rfl:ds=[]:=HA hl
 obtain rfl:es=[.int t]:=e
 walk_at "sl"
 walk_at "rd"
 have sz:∀{w h:Int},1<=w->w<=3->1<=h->h<=6->w*h<=9->fsOk (eT [w,h])=true:=fun a b c d e=>by
  simp only [eT,Gq,G3,fsOk,GC,decide_eq_true_eq]
  exact ⟨⟨a,b⟩,⟨c,d⟩,e⟩
 refine ⟨b,40,rfl,hpn,by lia,by lia,by lia,fun pn1 r1 h1 r1a r1b=>?_⟩
 walk_at "rd"
 by_cases e:r1=39
 ·rw [decide_eq_true e]
  walk_at "rc"
  refine cC (fun z=>?_) (fun z=>?_)
  ·walk_at "rd"
   exact ⟨_,rfl,q 3 1 _ (sz (by lia) (by lia) (by lia) (by lia) (by lia)) (h1.le (by lia))⟩
  walk_at "rd"
  refine ⟨b+1,4,rfl,h1,by lia,by lia,by lia,fun pn2 r2 h2 r2a r2b=>?_⟩
  walk_at "rd"
  refine cC (fun z2=>?_) (fun z2=>?_)
  ·walk_at "rd"
   refine ⟨b+2,4,rfl,h2,by lia,by lia,by lia,fun pn3 r3 h3 r3a r3b=>?_⟩
   walk_at "rd"
   exact ⟨_,rfl,q 2 (1+r3) _ (sz (by lia) (by lia) (by lia) (by lia) (by lia)) (h3.le (by lia))⟩
  ·walk_at "rd"
   refine ⟨b+2,2,rfl,h2,by lia,by lia,by lia,fun pn3 r3 h3 r3a r3b=>?_⟩
   walk_at "rd"
   have hm:∃m:Int,atI [D.int 6,.int 3] (1+r3-1)=some (.int m)/\0 < m/\m<=6/\(1+r3)*m<=6:=by
    rcases (by lia:r3=0\/r3=1) with rfl | rfl
    ·exact ⟨6,rfl,by lia⟩
    ·exact ⟨3,rfl,by lia⟩
   obtain ⟨m,em,m0,m1,m2⟩:=hm
   refine cJ rfl rfl em ?_
   walk_at "rd"
   refine ⟨b+3,m,rfl,h3,by lia,by lia,by lia,fun pn4 r4 h4 r4a r4b=>?_⟩
   walk_at "rd"
   have:(1+r3)*(1+r4)<=(1+r3)*m:=JK (by lia) (by lia)
   exact ⟨_,rfl,q (1+r3) (1+r4) _ (sz (by lia) (by lia) (by lia) (by lia) (by lia)) (h4.le (by lia))⟩
 ·rw [decide_eq_false e]
  walk_at "rc"
  walk_at "rd"
  refine ⟨b+1,4,rfl,h1,by lia,by lia,by lia,fun pn2 r2 h2 r2a r2b=>?_⟩
  walk_at "rd"
  refine cC (fun z2=>?_) (fun z2=>?_)
  ·walk_at "rd"
   refine ⟨b+2,4,rfl,h2,by lia,by lia,by lia,fun pn3 r3 h3 r3a r3b=>?_⟩
   walk_at "rd"
   exact ⟨_,rfl,q 2 (1+r3) _ (sz (by lia) (by lia) (by lia) (by lia) (by lia)) (h3.le (by lia))⟩
  ·walk_at "rd"
   refine ⟨b+2,2,rfl,h2,by lia,by lia,by lia,fun pn3 r3 h3 r3a r3b=>?_⟩
   walk_at "rd"
   have hm:∃m:Int,atI [D.int 6,.int 3] (1+r3-1)=some (.int m)/\0 < m/\m<=6/\(1+r3)*m<=6:=by
    rcases (by lia:r3=0\/r3=1) with rfl | rfl
    ·exact ⟨6,rfl,by lia⟩
    ·exact ⟨3,rfl,by lia⟩
   obtain ⟨m,em,m0,m1,m2⟩:=hm
   refine cJ rfl rfl em ?_
   walk_at "rd"
   refine ⟨b+3,m,rfl,h3,by lia,by lia,by lia,fun pn4 r4 h4 r4a r4b=>?_⟩
   walk_at "rd"
   have:(1+r3)*(1+r4)<=(1+r3)*m:=JK (by lia) (by lia)
   exact ⟨_,rfl,q (1+r3) (1+r4) _ (sz (by lia) (by lia) (by lia) (by lia) (by lia)) (h4.le (by lia))⟩
end
end My
namespace My
open PySem L2 VL
def numP (p:Nat->Bool) (w:Nat):Nat:=((fr p w).map fun x=>2 ^ x).sum
theorem jM (p:Nat->Bool) (w:Nat):numP p (w+1)=numP p w+if p w=true then 2 ^ w else 0:=by
 unfold numP
 rw [oR,GK,Lr]
 congr 1
 by_cases h:p w=true <;> simp [h]
theorem gV (p:Nat->Bool):∀w,numP p w < 2 ^ w
 | 0=>by simp [numP,fr]
 | w+1=>by
  have:=gV p w
  rw [jM,Kj]
  split <;> lia
theorem iZ (p:Nat->Bool):∀w j,numP p w / 2 ^ j%2=if j < w/\p j=true then 1 else 0
 | 0,j=>by simp [numP,fr]
 | w+1,j=>by
  have ih:=iZ p w j
  have hlt:=gV p w
  rw [jM]
  by_cases hp:p w=true
  ·rw [if_pos hp]
   rcases Kz j w with h | h | h
   ·obtain ⟨d,rfl⟩:∃d,w=j+1+d:=⟨w-j-1,by lia⟩
    have e:2 ^ (j+1+d)=2 ^ j*(2*2 ^ d):=by rw [Nat.pow_add,Kj,Nat.mul_assoc]
    rw [e,Nat.add_mul_div_left _ _ (Ls j),Nat.add_mul_mod_self_left,ih]
    have c1:j < j+1+d:=by lia
    have c2:j < j+1+d+1:=by lia
    simp [c1,c2]
   ·subst h
    rw [Nat.add_div_right _ (Ls j),Nat.div_eq_of_lt hlt]
    simp [hp]
   ·have e:2 ^ w+2 ^ w<=2 ^ j:=by
     have:=HZ (n:=2) (by decide) (show w+1<=j from h)
     rw [Kj] at this
     lia
    rw [Nat.div_eq_of_lt (by lia)]
    have c:¬ (j < w+1):=by lia
    simp [c]
  ·rw [if_neg hp,ME,ih]
   by_cases hj:j=w
   ·subst hj;simp [hp]
   ·have:(j < w/\p j=true)↔(j < w+1/\p j=true):=by constructor <;> (rintro ⟨a,b⟩;exact ⟨by lia,b⟩)
    simp only [this]
def fs (ms:List Int):Int:=ms.getD 0 0
def sn (ms:List Int):Int:=ms.getD 1 0
structure Bx (w h:Nat) (xs:List (List Int)):Prop where
 nd:xs.Nodup
 at_:∀c∈xs,∃x y:Nat,c=[(x:Int),(y:Int)]/\x < w/\y < h
 len:xs.length<=200
def rw' (xs:List (List Int)) (y:Nat):Nat:=((xs.filter fun c=>decide (sn c=(y:Int))).map fun c=>2 ^ (fs c).toNat).sum
theorem uk {w h:Nat} {xs:List (List Int)} (b:Bx w h xs) (y:Nat):rw' xs y=numP (fun x=>decide ([(x:Int),(y:Int)]∈xs)) w:=by
 unfold rw' numP
 rw [show (xs.filter fun c=>decide (sn c=(y:Int))).map (fun c=>2 ^ (fs c).toNat)=((xs.filter fun c=>decide (sn c=(y:Int))).map fun c=>(fs c).toNat).map fun x=>2 ^ x by rw [GP];rfl]
 refine (List.Perm.map _ ?_).sum_nat
 refine (List.perm_ext_iff_of_nodup ?_ (List.nodup_range.filter _)).mpr fun x=>?_
 ·unfold List.Nodup
  rw [IU]
  refine Jg (fun {c d} hc hd hcd e=>hcd ?_) (b.nd.filter _)
  obtain ⟨x1,y1,rfl,_,_⟩:=b.at_ c (List.mem_filter.mp hc).1
  obtain ⟨x2,y2,rfl,_,_⟩:=b.at_ d (List.mem_filter.mp hd).1
  have h1:=of_decide_eq_true (List.mem_filter.mp hc).2
  have h2:=of_decide_eq_true (List.mem_filter.mp hd).2
  simp only [fs,sn,LV,LW] at e h1 h2
  have e1:x1=x2:=by lia
  have e2:y1=y2:=by lia
  rw [e1,e2]
 ·rw [List.mem_map]
  rw [Lu,List.mem_range]
  constructor
  ·rintro ⟨c,hc,e⟩
   obtain ⟨x1,y1,rfl,h1,h2⟩:=b.at_ c (List.mem_filter.mp hc).1
   have h3:=of_decide_eq_true (List.mem_filter.mp hc).2
   simp only [fs,sn,LV,LW] at e h3
   have e1:x1=x:=by lia
   have e2:y1=y:=by lia
   subst e1 e2
   exact ⟨h1,decide_eq_true (List.mem_filter.mp hc).1⟩
  ·rintro ⟨h1,h2⟩
   refine ⟨_,List.mem_filter.mpr ⟨of_decide_eq_true h2,?_⟩,?_⟩
   ·simp [sn]
   ·simp [fs]
def ft (xs:List (List Int)) (h:Nat):List Int:=(FY h).map fun y=>((rw' xs y:Nat):Int)
def dq (n:Int):List Nat:=(FY (GY n)).filter fun x=>decide (n / 2 ^ x%2=1)
def cellsOf (ns:List Int):List (List Int):=(FY ns.length).flatMap fun y=>(dq (ns.getD y 0)).map fun (x:Nat)=>[(x:Int),(y:Int)]
theorem oV {n:Int} (h:0<=n) (x:Nat):x < GY n↔0 < n / 2 ^ x:=by
 unfold GY
 by_cases h0:n=0
 ·subst h0;simp
 ·have e:(n==0)=false:=by simpa using h0
  rw [e]
  obtain ⟨m,rfl⟩:∃m:Nat,n=m:=⟨n.toNat,by lia⟩
  have hm:m≠0:=by lia
  have e2:((m:Int) / 2 ^ x)=((m / 2 ^ x:Nat):Int):=by norm_cast
  rw [e2]
  simp only [HE,if_false,Int.natAbs_natCast]
  rw [show ((0:Int) < ((m / 2 ^ x:Nat):Int))↔0 < m / 2 ^ x by lia,Nat.div_pos_iff,Nat.lt_succ_iff,Nat.le_log2 hm]
  exact ⟨fun h=>⟨Ls x,h⟩,fun h=>h.2⟩
theorem fE {n:Int} (h:0<=n) {x:Nat}:x∈dq n↔n / 2 ^ x%2=1:=by
 unfold dq
 rw [Lu,List.mem_range,oV h]
 constructor
 ·rintro ⟨_,z⟩;exact of_decide_eq_true z
 ·intro z
  have:=HR h (show (0:Int)<=2 ^ x from LK (by decide))
  refine ⟨?_,decide_eq_true z⟩
  rcases Int.lt_or_eq_of_le this with q | q
  ·exact q
  ·rw [<- q] at z;simp at z
theorem eP (hn:∀n∈ns,0<=n) {c:List Int}:c∈cellsOf ns↔∃x y:Nat,c=[(x:Int),(y:Int)]/\y < ns.length/\ns.getD y 0 / 2 ^ x%2=1:=by
 unfold cellsOf
 rw [Jd]
 have nn:∀y,0<=ns.getD y 0:=fun y=>by
  by_cases h:y < ns.length
  ·rw [GR,FS h];exact hn _ (IF h)
  ·rw [GR,Ht (by lia)];exact Int.le_refl _
 constructor
 ·rintro ⟨y,hy,hc⟩
  obtain ⟨x,hx,rfl⟩:=List.mem_map.mp hc
  exact ⟨x,y,rfl,List.mem_range.mp hy,(fE (nn y)).mp hx⟩
 ·rintro ⟨x,y,rfl,hy,hb⟩
  exact ⟨y,List.mem_range.mpr hy,List.mem_map.mpr ⟨x,(fE (nn y)).mpr hb,rfl⟩⟩
theorem jb (ns:List Int):(cellsOf ns).Nodup:=by
 unfold cellsOf List.Nodup
 rw [List.pairwise_flatMap]
 refine ⟨fun y _=>?_,Mt (fun {a b} hab x hx z hz e=>?_) (List.nodup_range (n:=ns.length))⟩
 ·rw [IU]
  refine Mt (fun {c d} hcd e=>hcd ?_) (List.nodup_range.filter _)
  simp only [J1] at e
  lia
 ·obtain ⟨p,_,rfl⟩:=List.mem_map.mp hx
  obtain ⟨q,_,rfl⟩:=List.mem_map.mp hz
  simp only [J1] at e
  exact hab (by lia)
def oW:List D->(D->Prop)->Prop:=fun ds R=>∃(w h:Nat) (xs:List (List Int)),ds=[eT [(w:Int),(h:Int)],eL xs]/\w<=60/\h<=60/\Bx w h xs/\R (.lst ((ft xs h).map .int))
def um:List D->(D->Prop)->Prop:=fun ds R=>∃ns:List Int,ds=[.lst (ns.map .int)]/\ns.length<=100/\(∀n∈ns,0<=n/\n < 2 ^ 60)/\R (eL (srt (cellsOf ns)))
theorem uo (h:Nat):ft [] h=(FY h).map fun _=>(0:Int):=rfl
theorem qt {xs:List (List Int)} {x y h:Nat} (hy:y < h):((ft xs h).map D.int).set y (.int (((rw' xs y:Nat):Int)+1*2 ^ x))=(ft (xs++[[(x:Int),(y:Int)]]) h).map .int:=by
 apply Ig
 intro j
 rw [KE]
 unfold ft
 rw [GP,GP,FV,F9,Gk,Gk]
 by_cases hj:j < h
 ·rw [HN hj]
  by_cases e:y=j
  ·subst e
   rw [if_pos rfl,if_pos hy]
   have:rw' (xs++[[(x:Int),(y:Int)]]) y=rw' xs y+2 ^ x:=by
    unfold rw'
    rw [HW,GK,Lr]
    simp [sn,fs]
   show some (D.int _)=some (D.int ((rw' (xs++[[(x:Int),(y:Int)]]) y:Nat):Int))
   rw [this]
   push_cast
   rw [MQ]
  ·rw [if_neg e]
   have:rw' (xs++[[(x:Int),(y:Int)]]) j=rw' xs j:=by
    unfold rw'
    rw [HW,GK,Lr]
    have:¬ ((y:Int)=(j:Int)):=by lia
    simp [sn,this]
   show some (D.int _)=some (D.int ((rw' (xs++[[(x:Int),(y:Int)]]) j:Nat):Int))
   rw [this]
 ·rw [Ht (by rw [F9];lia)]
  have e:¬ y=j:=by lia
  rw [if_neg e]
  rfl
theorem uq (ns:List Int):enD (ns.map D.int)=(FY ns.length).map fun (y:Nat)=>D.tup [.int y,.int (ns.getD y 0)]:=by
 unfold enD
 rw [FV]
 refine Hk fun y hy=>?_
 have h:=List.mem_range.mp hy
 simp [List.getD,h]
theorem bits_le {n:Int} (h:0<=n) (h2:n < 2 ^ 60):GY n<=60:=by
 refine Nat.le_of_not_lt fun z=>?_
 have:=(oV h 60).mp z
 have e:n / 2 ^ 60=0:=K4 h h2
 lia
def mv (dx dy:Int) (ms:List Int):List Int:=match ms with
 | [x,y]=>[x+dx,y+dy]
 | _=>[]
def ur:List D->(D->Prop)->Prop:=fun ds R=>∃mss dx dy,ds=[eL mss,eT [dx,dy]]/\(∀p∈mss,Pr p)/\mss.length<=1000/\R (eL (mss.map (mv dx dy)))
section
variable {P:GD} {w:Hg} {K:FO} {mg:Str->Option FU} {base:Heap}
theorem xR (S:Src K mg "rows_of" gQ) (T:Txt mg):Has P w K mg base 1 "rows_of" ["size","picture"] (spP K oW):=by
 refine bD S dD (by walk_at "2") (by walk_at "L") fun f cdv A outer s H E hr=>⟨_,_,(ak (iC (ae 0 (pv 0)) (cV (n:=2) rfl rfl (aJ (ay (au (i:=2) dD.nd rfl (Gf rfl) (Gf rfl))) (aJ (ay (au (i:=3) dD.nd rfl (Gf rfl) (Gf rfl))) b6))))
  (ak (rH (ii:=4) (tg:=["y"]) (cs:=[]) (ix:=[]) dD.nd rfl (Gf rfl) (Gf rfl) (aK (ao gQ) ["size","picture","wide","high","rows","x","y"] (by decide +kernel)) rfl (bh (by decide)) (by decide) (bC rfl T.range (aa (ae 3 (pv 3)) ai)) (fun _ _ _ _=>(ay (au (i:=0) (show (["y"]:List Str).Nodup by decide +kernel) rfl (Gf rfl) (by first | exact Gf rfl | exact HB rfl)))) (fun _ _ _ _=>bU) (fun _ _ _ _=>af))
  (ak (cB Hv rfl (bG rfl (ae 1 (pv 1))) (cV (n:=2) rfl rfl (aJ (ay (au (i:=5) dD.nd rfl (Gf rfl) (Gf rfl))) (aJ (ay (au (i:=6) dD.nd rfl (Gf rfl) (Gf rfl))) b6))) (aq (wX 4 (pv 4) (ae 6 (pv 6)) (aB jS bR af (ae 5 (pv 5))))))
  (aq (aD (aG (ae 4 (pv 4)))))))),?_⟩
 rintro ds R ⟨w,h,xs,rfl,hw,hh,bx,q⟩
 walk_at "sl"
 walk_at "rd"
 rw [show ((h:Int)).toNat=h by lia]
 unfold rg
 refine comp_map (xs:=FY h) (en:=fun (i:Nat)=>D.int (0+(i:Int))) (f:=fun _=>D.int 0) (by rw [F9];lia) (fun i hi A B hA=>?_) ?_
 ·dsimp only [bg,Ga,Gq,G3,GS,G1]
  walk_at "rd"
  exact hA _ rfl
 walk_at "rd"
 have bl:=bx.len
 refine dQ (fun i S=>∃v5 v6,S=[.val (eT [(w:Int),(h:Int)]),.val (eL xs),.val (.int w),.val (.int h),.own ((ft (xs.take i) h).map .int),v5,v6]) ⟨_,_,by rw [Ko,uo,GP];rfl⟩ ?_ ?_
 ·rintro i d S2 e ⟨v5,v6,rfl⟩
  obtain ⟨c,h1,rfl,hm,ht⟩:=aL e
  obtain ⟨x,y,rfl,hx,hy⟩:=bx.at_ c hm
  show vgT 2 _ (.tup [.int x,.int y]) _ _
  walk_at "rd"
  refine ⟨⟨_,rfl⟩,?_⟩
  show qZ 6 _ _
  walk_at "rd"
  refine ⟨_,y,((rw' (xs.take i) y:Nat):Int),rfl,rfl,?_,?_⟩
  ·unfold ft
   rw [Gk,Gk,HN hy]
   rfl
  walk_at "rd"
  refine ⟨_,rfl,rfl,?_⟩
  dsimp only [GW,Hi]
  rw [ht,<- qt hy]
  exact ⟨_,_,rfl⟩
 ·rintro S2 ⟨v5,v6,rfl⟩
  rw [FV,Hl]
  walk_at "rd"
  exact q
theorem uu (S:Src K mg "picture_of" dR) (T:Txt mg):Has P w K mg base 1 "picture_of" ["rows"] (spP K um):=by
 refine bD S gC (by walk_at "1") (by walk_at "L") fun f cdv A outer s H E hr=>⟨_,_,(ak (pX (ii:=1) (tg:=["y","row","x"]) (cs:=[]) (ix:=[]) gC.nd rfl (Gf rfl) (Gf rfl) (aK (ao dR) ["rows","cells"] (by decide +kernel)) rfl (qb (by decide) (by decide) (by decide) (by decide) (by decide)) (by decide) (oI rfl (by rfl) T.enumerate_ (aa (ae 0 (pv 0)) ai)) (fun _ _ _ _=>(cV (n:=2) rfl rfl (aJ (ay (au (i:=0) (show (["y","row","x"]:List Str).Nodup by decide +kernel) rfl (Gf rfl) (by first | exact Gf rfl | exact HB rfl))) (aJ (ay (au (i:=1) (show (["y","row","x"]:List Str).Nodup by decide +kernel) rfl (Gf rfl) (by first | exact Gf rfl | exact HB rfl))) b6)))) (fun _ _ _ _=>bU) (fun _ _ _ _=>(bC rfl T.range (aa (wY rfl (ae 1 (pv 1))) ai))) (fun _ _ _ _=>(ay (au (i:=2) (show (["y","row","x"]:List Str).Nodup by decide +kernel) rfl (Gf rfl) (by first | exact Gf rfl | exact HB rfl)))) (fun _ _ _ _=>(dN (Bi rfl (aB f9 aE (aB fv bR (ae 1 (pv 1)) (ae 2 (pv 2))) af)))) (fun _ _ _ _=>(aA (aa (aG (ae 2 (pv 2))) (aa (aG (ae 0 (pv 0))) ai)))))
  (aq (aD (aI (tI rfl rfl (by rfl) T.sorted_ jt (aa (ae 1 (pv 1)) ai)))))),?_⟩
 rintro ds R ⟨ns,rfl,hl,hn,q⟩
 walk_at "sl"
 walk_at "rd"
 rw [uq]
 refine gm (r:=fun (y:Nat)=>((dq (ns.getD y 0)).map fun (x:Nat)=>eT [(x:Int),(y:Int)])) (by rw [F9];lia) (fun y hy ys A B hA=>?_) ?_
 ·have hy:=List.mem_range.mp hy
  have hm:ns.getD y 0∈ns:=by rw [GR,FS hy];exact IF hy
  obtain ⟨n0,n1⟩:=hn _ hm
  have bl:=bits_le n0 n1
  dsimp only [bg,Ga,Gq,G3,GS,G1]
  walk_at "rd"
  rw [show (((GY (ns.getD y 0):Nat):Int)).toNat=GY (ns.getD y 0) by lia]
  unfold rg
  refine qc (xs:=FY (GY (ns.getD y 0))) (en:=fun (i:Nat)=>D.int (0+(i:Int))) (f:=fun (x:Nat)=>eT [(x:Int),(y:Int)]) (p:=fun x=>decide (ns.getD y 0 / 2 ^ x%2=1)) (by rw [F9];lia) (fun x hx A' B' hA' hB'=>?_) ?_
  ·walk_at "rd"
   have ea:Ja (ns.getD y 0 / 2 ^ (0+(x:Int)).toNat) 1=ns.getD y 0 / 2 ^ x%2:=by
    rw [show (0+(x:Int)).toNat=x by lia]
    exact gU (HR n0 (LK (by decide)))
   rw [ea]
   by_cases hv:ns.getD y 0 / 2 ^ x%2=1
   ·rw [hv]
    refine sm (d:=.int 1) (b:=true) rfl rfl ?_
    walk_at "rc"
    rw [Il]
    exact hA' _ rfl (decide_eq_true hv)
   ·have h0:ns.getD y 0 / 2 ^ x%2=0:=by lia
    rw [h0]
    refine sm (d:=.int 0) (b:=false) rfl rfl ?_
    walk_at "rc"
    exact hB' _ rfl (decide_eq_false hv)
  ·exact hA _ rfl
 ·walk_at "rd"
  rw [show (FY ns.length).flatMap (fun (y:Nat)=>(dq (ns.getD y 0)).map fun (x:Nat)=>eT [(x:Int),(y:Int)])=(cellsOf ns).map eT by
   unfold cellsOf;rw [JJ];simp only [GP];rfl]
  refine tK (mss:=cellsOf ns) rfl (fun m hm=>?_) ?_
  ·obtain ⟨x,y,rfl,_⟩:=(eP fun n h=>(hn n h).1).mp hm
   simp
  walk_at "rd"
  exact q
theorem uv (S:Src K mg "moved" kI) (T:Txt mg):Has P w K mg base 1 "moved" ["picture","move"] (spP K ur):=by
 refine bD S kJ (by walk_at "2") (by walk_at "L") fun f cdv A outer s H E hr=>⟨_,_,(ak (iC (ae 1 (pv 1)) (cV (n:=2) rfl rfl (aJ (ay (au (i:=2) kJ.nd rfl (HB rfl) (Gf rfl))) (aJ (ay (au (i:=3) kJ.nd rfl (HB rfl) (Gf rfl))) b6))))
  (aq (aD (aI (b8 (tg:=["x","y"]) (cs:=["dx","dy"]) (ix:=[2,3]) (aK (ao kI) ["picture","move","dx","dy"] (by decide +kernel)) rfl (gb (by decide) (by decide)) (by decide) (bG rfl (ae 0 (pv 0))) (fun _ _ _ _=>(cV (n:=2) rfl rfl (aJ (ay (au (i:=0) (show (["x","y","dx","dy"]:List Str).Nodup by decide +kernel) rfl (Gf rfl) (by first | exact Gf rfl | exact HB rfl))) (aJ (ay (au (i:=1) (show (["x","y","dx","dy"]:List Str).Nodup by decide +kernel) rfl (Gf rfl) (by first | exact Gf rfl | exact HB rfl))) b6)))) (fun _ _ _ _=>bU) (fun _ _ _ _=>(aA (aa (aB bf aE (ae 0 (pv 0)) (ae 2 (pv 2))) (aa (aB bf aE (ae 1 (pv 1)) (ae 3 (pv 3))) ai))))))))),?_⟩
 rintro ds R ⟨mss,dx,dy,rfl,hp,hl,q⟩
 walk_at "sl"
 walk_at "rd"
 refine comp_map (f:=fun m=>eT (mv dx dy m)) (by lia) (fun m hm A B hA=>?_) ?_
 ·obtain ⟨x,y,rfl⟩:=hp m hm
  dsimp only [bg,Ga,Gq,G3,GS,G1]
  walk_at "rd"
  exact hA _ rfl
 ·walk_at "rd"
  rw [show mss.map (fun m=>eT (mv dx dy m))=(mss.map (mv dx dy)).map eT by rw [GP];rfl]
  exact q
end
end My
namespace My
open PySem L2 VL
theorem Cv {m:List Int} (h:(kvs.map (·.1)).Nodup):((cE kvs m d).map (·.1)).Nodup:=by
 unfold cE
 split
 ·rw [GP,show ((fun x:List Int×D=>x.1) ∘ fun x=>if x.1=m then (x.1,d) else x)=(·.1) from funext fun x=>by simp only [JN];split <;> rfl]
  exact h
 ·next z=>
  rw [GK]
  refine List.nodup_append.mpr ⟨h,by simp,fun a ha b hb e=>z ?_⟩
  obtain rfl:b=m:=by simpa using hb
  exact e▸ha
theorem Cw {z:Int} {x c:Nat} (h:x+3<=c):w3 (z+2 ^ c) x=w3 z x:=by
 obtain ⟨q,rfl⟩:∃q,c=x+(3+q):=⟨c-(x+3),by lia⟩
 unfold w3
 rw [KR,KR,show (2:Int) ^ 3=8 from rfl,Int.add_mul_ediv_left _ _ (Int.ne_of_gt (two_pos x)),Int.add_mul_emod_self_left]
def T3 (f:Int->Int->Int->Int) (w:Nat) (wa a b c:Int):Prop:=(0<=c/\c < 2 ^ (w+2))/\∀x < w,f (w3 a x) (w3 b x) (w3 c x)=wa / 2 ^ x%2
theorem Cy {c:Nat} {xs:List Int} {l:Int}:l∈fa c true xs↔l∈xs\/l-2 ^ c∈xs:=by
 unfold fa
 rw [if_pos rfl,Jd]
 constructor
 ·rintro ⟨m,hm,hl⟩
  obtain ⟨z,hz,rfl⟩:=List.mem_map.mp hl
  rcases List.mem_cons.mp hm with rfl | hm
  ·rw [Int.add_zero];exact .inl hz
  ·rw [List.mem_singleton.mp hm,Int.add_sub_cancel];exact .inr hz
 ·rintro (h | h)
  ·exact ⟨0,by simp,List.mem_map.mpr ⟨l,h,Int.add_zero l⟩⟩
  ·exact ⟨2 ^ c,by simp,List.mem_map.mpr ⟨_,h,Mb _ _⟩⟩
theorem gx {f:Int->Int->Int->Int} {a b wa:Int} {N:Nat}:∀c,c<=N->∀l:Int,l∈below f a b wa (Ga N true) c↔(0<=l/\l < 2 ^ c)/\∀x,x+2 < c->f (w3 a x) (w3 b x) (w3 l x)=wa / 2 ^ (x+1)%2
 | 0,_,l=>by
  show l∈[0]↔_
  rw [HX,Int.pow_zero]
  exact ⟨fun e=>⟨by lia,fun x h=>by lia⟩,fun h=>by lia⟩
 | c+1,hc,l=>by
  have hfa:l∈fa c true (below f a b wa (Ga N true) c)↔(0<=l/\l < 2 ^ (c+1))/\∀x,x+2 < c->f (w3 a x) (w3 b x) (w3 l x)=wa / 2 ^ (x+1)%2:=by
   rw [Cy,gx c (by lia),gx c (by lia)]
   have p:=two_pos c
   have e:=Lp (2:Int) c
   have hw:∀x,x+2 < c->w3 (l-2 ^ c) x=w3 l x:=fun x hx=>by rw [<- Cw (z:=l-2 ^ c) (c:=c) (by lia),Mb]
   constructor
   ·rintro (⟨h1,h2⟩ | ⟨h1,h2⟩)
    ·exact ⟨by lia,h2⟩
    ·exact ⟨by lia,fun x hx=>by rw [<- hw x hx];exact h2 x hx⟩
   ·rintro ⟨h1,h2⟩
    by_cases z:l < 2 ^ c
    ·exact .inl ⟨⟨h1.1,z⟩,h2⟩
    ·exact .inr ⟨by lia,fun x hx=>by rw [hw x hx];exact h2 x hx⟩
  have e:below f a b wa (Ga N true) (c+1)=fb f a b wa c (fa c true (below f a b wa (Ga N true) c)):=by
   show fb f a b wa c (fa c ((Ga N true).getD c false) _)=_
   rw [GR,IC,if_pos (by lia)];rfl
  rw [e]
  unfold fb
  by_cases h2:2<=c
  ·obtain ⟨y,rfl⟩:∃y,c=y+2:=⟨c-2,by lia⟩
   rw [if_pos h2,Lu,hfa,decide_eq_true_eq,show y+2-2=y by lia,show y+2-1=y+1 by lia]
   have h8:(0<=l/\l < 2 ^ (y+2+1))->l / 2 ^ y=w3 l y:=fun zq1=>by
    obtain ⟨h3,h4⟩:=zq1
    unfold w3
    refine (Int.emod_eq_of_lt (HR h3 (MF (two_pos y))) (Lq (two_pos _) ?_)).symm
    rw [show (8:Int)=2 ^ 3 from rfl,<- KR,show 3+y=y+2+1 by lia]
    exact h4
   constructor
   ·rintro ⟨⟨h3,h4⟩,h5⟩
    refine ⟨h3,fun x hx=>?_⟩
    by_cases hxy:x=y
    ·subst hxy;rw [<- h8 h3];exact h5
    ·exact h4 x (by lia)
   ·rintro ⟨h3,h4⟩
    exact ⟨⟨h3,fun x hx=>h4 x (by lia)⟩,by rw [h8 h3];exact h4 y (by lia)⟩
  ·rw [if_neg h2,hfa]
   exact ⟨fun zt1=>by obtain ⟨h3,h4⟩:=zt1;exact ⟨h3,fun x hx=>h4 x (by lia)⟩,fun zt1=>by obtain ⟨h3,h4⟩:=zt1;exact ⟨h3,fun x hx=>h4 x (by lia)⟩⟩
def ths (f:Int->Int->Int->Int) (w:Nat) (a b wa:Int):List Int:=below f a b (wa*2) (Ga (w+2) true) (w+2)
theorem kR {f:Int->Int->Int->Int} {w:Nat} {a b wa c:Int}:c∈ths f w a b wa↔T3 f w wa a b c:=by
 unfold ths T3
 rw [gx (w+2) (FX _)]
 have e:∀x:Nat,wa*2 / 2 ^ (x+1)%2=wa / 2 ^ x%2:=fun x=>by
  rw [Lp,Int.mul_ediv_mul_of_pos_left _ _ (by decide)]
 exact ⟨fun zt1=>by obtain ⟨h1,h2⟩:=zt1;exact ⟨h1,fun x hx=>by rw [<- e];exact h2 x (by lia)⟩,fun zt1=>by obtain ⟨h1,h2⟩:=zt1;exact ⟨h1,fun x hx=>by rw [e];exact h2 x (by lia)⟩⟩
def gK (w:Nat):List (List Int):=(FY (2 ^ (w+2))).flatMap fun (a:Nat)=>(FY (2 ^ (w+2))).map fun (b:Nat)=>[0+(a:Int),0+(b:Int)]
theorem eQ {w:Nat} {a b:Int}:[a,b]∈gK w↔(0<=a/\a < 2 ^ (w+2))/\0<=b/\b < 2 ^ (w+2):=by
 unfold gK
 have e:(2:Int) ^ (w+2)=((2 ^ (w+2):Nat):Int):=by norm_cast
 rw [e,Jd]
 constructor
 ·rintro ⟨x,hx,h⟩
  obtain ⟨y,hy,h⟩:=List.mem_map.mp h
  injection h with h1 h
  injection h with h2 h
  have:=List.mem_range.mp hx
  have:=List.mem_range.mp hy
  lia
 ·rintro ⟨h1,h2⟩
  exact ⟨a.toNat,List.mem_range.mpr (by lia),List.mem_map.mpr ⟨b.toNat,List.mem_range.mpr (by lia),by rw [show 0+((a.toNat:Nat):Int)=a by lia,show 0+((b.toNat:Nat):Int)=b by lia]⟩⟩
theorem gW {w:Nat} {m:List Int} (h:m∈gK w):Pr m:=by
 obtain ⟨x,_,h⟩:=List.mem_flatMap.mp h
 obtain ⟨y,_,rfl⟩:=List.mem_map.mp h
 exact ⟨_,_,rfl⟩
theorem mx {w:Nat} (hw:w<=3):(gK w).length<=1024:=by
 rcases (by lia:w=0\/w=1\/w=2\/w=3) with rfl | rfl | rfl | rfl <;> decide +kernel
structure Sd (w:Nat) (ts:List (List Int)) (kvs:List (List Int×D)):Prop where
 nd:(kvs.map (·.1)).Nodup
 sub:∀m∈kvs.map (·.1),m∈gK w
 val:∀m d,getA kvs m=some d->∃a b c,[a,b,c]∈ts/\m=[b,c]/\d=eT [a,b]
 has:∀a b c,[a,b,c]∈ts->[b,c]∈kvs.map (·.1)
theorem Sd.nil {w:Nat}:Sd w [] []:=⟨Kn,fun _ h=>(nomatch h),fun _ _ h=>(nomatch h),fun _ _ _ h=>(nomatch h)⟩
theorem Sd.len {w:Nat} {ts:List (List Int)} (s:Sd w ts kvs) (hw:w<=3):kvs.length<=1024:=by
 have:=t8 s.nd s.sub
 rw [FV] at this
 exact Hr this (mx hw)
theorem Sd.put {w:Nat} {ts:List (List Int)} {a b c:Int} (s:Sd w ts kvs) (h:[b,c]∈gK w):Sd w (ts++[[a,b,c]]) (cE kvs [b,c] (eT [a,b])) where
 nd:=Cv s.nd
 sub:=fun m hm=>by
  rcases iM.mp hm with rfl | hm
  ·exact h
  ·exact s.sub m hm
 val:=fun m d e=>by
  rw [mr] at e
  split at e
  ·next z=>exact ⟨a,b,c,by simp,z,by injection e with e;exact e.symm⟩
  ·obtain ⟨a',b',c',h1,h2,h3⟩:=s.val m d e
   exact ⟨a',b',c',by simp [h1],h2,h3⟩
 has:=fun a' b' c' e=>by
  rw [iM]
  rcases List.mem_append.mp e with e | e
  ·exact .inr (s.has _ _ _ e)
  ·injection List.mem_singleton.mp e with e1 e
   injection e with e2 e
   injection e with e3 e
   subst e1 e2 e3
   exact .inl rfl
def thr (f:Int->Int->Int->Int) (w:Nat) (wa:Int) (ah:List (List Int)):List (List Int):=ah.flatMap fun p=>(ths f w (p.getD 0 0) (p.getD 1 0) wa).map fun c=>p++[c]
def ahd (w:Nat) (kv:Nat->List (List Int×D)):Nat->List (List Int)
 | 0=>gK w
 | i+1=>(kv i).map (·.1)
def Chn (f:Int->Int->Int->Int) (w h:Nat) (W:Nat->Int) (kv:Nat->List (List Int×D)):Prop:=∀i < h,Sd w (thr f w (W i) (ahd w kv i)) (kv i)
theorem oX {f:Int->Int->Int->Int} {w:Nat} {wa:Int} {ah:List (List Int)} {a b c:Int} (hp:∀p∈ah,Pr p):[a,b,c]∈thr f w wa ah↔[a,b]∈ah/\T3 f w wa a b c:=by
 unfold thr
 rw [Jd]
 constructor
 ·rintro ⟨p,h1,h2⟩
  obtain ⟨x,y,rfl⟩:=hp p h1
  obtain ⟨z,h3,h4⟩:=List.mem_map.mp h2
  injection h4 with e1 h4
  injection h4 with e2 h4
  injection h4 with e3 h4
  subst e1 e2 e3
  exact ⟨h1,kR.mp h3⟩
 ·rintro ⟨h1,h2⟩
  exact ⟨_,h1,List.mem_map.mpr ⟨c,kR.mpr h2,rfl⟩⟩
section
variable {f:Int->Int->Int->Int} {w h:Nat} {W:Nat->Int} {kv:Nat->List (List Int×D)}
theorem gX (C:Chn f w h W kv):∀i≤h,∀p∈ahd w kv i,p∈gK w
 | 0,_,_,hp=>hp
 | i+1,hi,p,hp=>(C i (by lia)).sub p hp
theorem oY (C:Chn f w h W kv) (g:Nat->Int) (hg:∀y,0<=g y/\g y < 2 ^ (w+2)) (ht:∀i < h,T3 f w (W i) (g i) (g (i+1)) (g (i+2))):∀i≤h,[g i,g (i+1)]∈ahd w kv i
 | 0,_=>eQ.mpr ⟨hg 0,hg 1⟩
 | i+1,hi=>(C i (by lia)).has _ _ _ ((oX fun p hp=>gW (gX C i (by lia) p hp)).mpr ⟨oY C g hg ht i (by lia),ht i (by lia)⟩)
theorem xS (C:Chn f w h W kv) {i:Nat} (hi:i < h) {b c:Int} (hm:[b,c]∈(kv i).map (·.1)):∃a,getA (kv i) [b,c]=some (eT [a,b])/\[a,b]∈ahd w kv i/\T3 f w (W i) a b c:=by
 obtain ⟨p,hp,e⟩:=List.mem_map.mp hm
 have:∃d,getA (kv i) [b,c]=some d:=by
  unfold getA
  cases hf:(kv i).find? fun x=>decide (x.1=[b,c]) with
  | none=>exact absurd (decide_eq_true e) (by simpa using List.find?_eq_none.mp hf p hp)
  | some q=>exact ⟨_,rfl⟩
 obtain ⟨d,hd⟩:=this
 obtain ⟨a,b',c',h1,h2,rfl⟩:=(C i hi).val _ _ hd
 injection h2 with e1 h2
 injection h2 with e2 h2
 subst e1 e2
 obtain ⟨h3,h4⟩:=(oX fun p hp=>gW (gX C i (by lia) p hp)).mp h1
 exact ⟨a,hd,h3,h4⟩
end
end My
namespace My
open PySem L2 VL
theorem uw (w:Nat):(Ga w [D.bl true]).flatten=Ga w (D.bl true):=by
 induction w with
 | zero=>rfl
 | succ w ih=>rw [Hj,Hj,Ic,ih];rfl
def ux:List D->(D->Prop)->Prop:=fun ds R=>∃(f:Int->Int->Int->Int) (kvs:List (List Int×D)) (w:Nat) (a b wa:Int),ds=[dc kvs,.int (w:Int),.int a,.int b,.int wa]/\Am f kvs/\w<=3/\0<=a/\0<=b/\0<=wa/\wa < 1000/\R (.lst ((ths f w a b wa).map .int))
def zA:List D->(D->Prop)->Prop:=fun ds R=>∃w:Nat,ds=[.int (w:Int)]/\w<=3/\R (eL (gK w))
def wnt (xs:List (List Int)) (y:Nat):Int:=((rw' xs y:Nat):Int)
def E8:List D->(D->Prop)->Prop:=fun ds R=>∃(k:Int) (bo st:List Int) (w h:Nat) (xs:List (List Int)),ds=[rl k bo st,eT [(w:Int),(h:Int)],eL xs]/\Kd k/\1<=w/\w<=3/\1<=h/\h<=6/\Bx w h xs/\∀kv,Chn (am k bo st) w h (wnt xs) kv->R (.lst ((FY h).map fun i=>dc (kv i)))
theorem E9 {w h:Nat} {xs:List (List Int)} (bx:Bx w h xs) (hw:w<=3) (y:Nat):0<=wnt xs y/\wnt xs y < 1000:=by
 unfold wnt
 rw [uk bx]
 have h1:=gV (fun x=>decide ([(x:Int),(y:Int)]∈xs)) w
 have h2:2 ^ w<=2 ^ 3:=HZ (by decide) hw
 lia
section
variable {P:GD} {w:Hg} {K:FO} {mg:Str->Option FU} {base:Heap}
theorem uy (S:Src K mg "thirds" kK) (T:Txt mg) (e14_:Has P w K mg base 1 "rows_below" ["amid","above","row","wanted","free"] (spP K E6)):Has P w K mg base 2 "thirds" ["amid","wide","one","two","wanted"] (spP K ux):=by
 refine bD S tZ (by walk_at "5") (by walk_at "L") fun f cdv A outer s H E hr=>⟨_,_,(aq (aD (bu e14_ hr (aa (ae 0 (pv 0)) (aa (ae 2 (pv 2)) (aa (ae 3 (pv 3)) (aa (aB jS bR (ae 4 (pv 4)) af) (aa (aI (B1 (aV (aa cy ai)) (aB bf aE (ae 1 (pv 1)) af))) ai)))))))),?_⟩
 rintro ds R ⟨g,kvs,w,a,b,wa,rfl,ham,hw,ha,hb,hwa,hwb,q⟩
 walk_at "sl"
 walk_at "rd"
 refine xb (by simp;lia) (by lia) ?_
 rw [show (Ga (w+2) ((fun x=>D.bl true::x) [])).flatten=(Ga (w+2) true).map D.bl by rw [List.map_replicate];exact uw (w+2)]
 walk_at "rd"
 dsimp only [ofV]
 rw [show (2:Int) ^ Int.toNat 1=2 from rfl]
 refine ⟨g,kvs,a,b,wa*2,Ga (w+2) true,rfl,ham,ha,hb,by lia,by rw [HP];lia,?_⟩
 rw [HP]
 walk_at "rd"
 exact q
theorem xT (S:Src K mg "all_pairs" e6) (T:Txt mg):Has P w K mg base 1 "all_pairs" ["wide"] (spP K zA):=by
 refine bD S iW (by walk_at "1") (by walk_at "L") fun f cdv A outer s H E hr=>⟨_,_,(ak (aH (i:=1) iW.nd rfl (HB rfl) (aB jS bR af (aB bf aE (ae 0 (pv 0)) af)))
  (aq (aD (aI (iL (tg:=["one","two"]) (cs:=["many"]) (ix:=[1]) (aK (ao e6) ["wide","many"] (by decide +kernel)) rfl (fY (by decide) (by decide) (by decide)) (by decide) (bC rfl T.range (aa (ae 1 (pv 1)) ai)) (fun _ _ _ _=>(ay (au (i:=0) (show (["one","two","many"]:List Str).Nodup by decide +kernel) rfl (Gf rfl) (by first | exact Gf rfl | exact HB rfl)))) (fun _ _ _ _=>bU) (fun _ _ _ _=>(bC rfl T.range (aa (ae 2 (pv 2)) ai))) (fun _ _ _ _=>(ay (au (i:=1) (show (["one","two","many"]:List Str).Nodup by decide +kernel) rfl (Gf rfl) (by first | exact Gf rfl | exact HB rfl)))) (fun _ _ _ _=>bU) (fun _ _ _ _=>(aA (aa (aG (ae 0 (pv 0))) (aa (aG (ae 1 (pv 1))) ai))))))))),?_⟩
 rintro ds R ⟨w,rfl,hw,q⟩
 walk_at "sl"
 walk_at "rd"
 dsimp only [ofV]
 have e:(1*2 ^ ((w:Int)+2).toNat:Int)=((2 ^ (w+2):Nat):Int):=by rw [show ((w:Int)+2).toNat=w+2 by lia,MQ];norm_cast
 have h5:2 ^ (w+2)<=2 ^ 5:=HZ (by decide) (by lia)
 rw [e]
 refine mX ⟨by lia,by lia⟩ ?_
 rw [G7]
 unfold rg
 refine gm (xs:=FY (2 ^ (w+2))) (en:=fun (i:Nat)=>.int (0+(i:Int))) (r:=fun (a:Nat)=>(FY (2 ^ (w+2))).map fun (b:Nat)=>eT [0+(a:Int),0+(b:Int)]) (by rw [F9];lia) (fun a ha ys A B hA=>?_) ?_
 ·dsimp only [bg,Ga,Gq,G3,GS,G1]
  walk_at "rd"
  rw [G7]
  unfold rg
  refine tf (xs:=FY (2 ^ (w+2))) (en:=fun (i:Nat)=>.int (0+(i:Int))) (f:=fun (b:Nat)=>eT [0+(a:Int),0+(b:Int)]) (by rw [F9];lia) (fun l hm A2 B2 hA2=>?_) (hA _ rfl)
  walk_at "rd"
  exact hA2 _ rfl
 ·walk_at "rd"
  rw [show ((FY (2 ^ (w+2))).flatMap fun (a:Nat)=>(FY (2 ^ (w+2))).map fun (b:Nat)=>eT [0+(a:Int),0+(b:Int)])=(gK w).map eT by unfold gK;simp only [JJ,GP];rfl]
  exact q
theorem Cz (S:Src K mg "pairs_by_row" eN) (T:Txt mg) (e15_:Has P w K mg base 3 "centres" ["rule"] (spP K zw)) (e28_:Has P w K mg base 1 "all_pairs" ["wide"] (spP K zA)) (e23_:Has P w K mg base 1 "rows_of" ["size","picture"] (spP K oW)) (e13_:Has P w K mg base 2 "thirds" ["amid","wide","one","two","wanted"] (spP K ux)):Has P w K mg base 4 "pairs_by_row" ["rule","size","picture"] (spP K E8):=by
 refine bD S ba (by walk_at "3") (by walk_at "L") fun f cdv A outer s H E hr=>⟨_,_,(ak (aH (i:=3) ba.nd rfl (Gf rfl) (bu e15_ hr (aa (ae 0 (pv 0)) ai)))
  (ak (aH (i:=4) ba.nd rfl (Gf rfl) (bu e28_ hr (aa (aF rfl (ae 1 (pv 1)) af (fun _ _=>rfl)) ai)))
  (ak (cM (fun _ h=>bP (i:=5) ba.nd rfl (Gf rfl) h) (aV ai))
  (ak (cB Hv rfl (bG rfl (bu e23_ hr (aa (ae 1 (pv 1)) (aa (ae 2 (pv 2)) ai)))) (ay (au (i:=6) ba.nd rfl (Gf rfl) (Gf rfl))) (ak (oq (fun _ h=>bP (i:=7) ba.nd rfl (Gf rfl) h) sC)
  (ak (cB Hv rfl (bG rfl (ae 4 (pv 4))) (cV (n:=2) rfl rfl (aJ (ay (au (i:=8) ba.nd rfl (Gf rfl) (Gf rfl))) (aJ (ay (au (i:=9) ba.nd rfl (Gf rfl) (Gf rfl))) b6))) (aq (cB Hv rfl (bG rfl (bu e13_ hr (aa (ae 3 (pv 3)) (aa (aF rfl (ae 1 (pv 1)) af (fun _ _=>rfl)) (aa (ae 8 (pv 8)) (aa (ae 9 (pv 9)) (aa (ae 6 (pv 6)) ai))))))) (ay (au (i:=10) ba.nd rfl (Gf rfl) (Gf rfl))) (aq (ot 7 rfl hr.units (pv 7) (aA (aa (aG (ae 8 (pv 8))) (aa (aG (ae 9 (pv 9))) ai))) (aA (aa (ae 9 (pv 9)) (aa (ae 10 (pv 10)) ai))))))))
  (ak (xp 7 (fS (rA 5 rfl (pv 5) (oy 7 (pv 7)))))
  (aq (aH (i:=4) ba.nd rfl (Gf rfl) (aI (mj rfl (by rfl) T.list_ (aa (ae 7 (pv 7)) ai)))))))))
  (aq (aD (aG (ae 5 (pv 5))))))))),?_⟩
 rintro ds R ⟨k,bo,st,w,h,xs,rfl,hk,w1,w2,h1,h2,bx,q⟩
 walk_at "sl"
 walk_at "rd"
 refine ⟨k,bo,st,rfl,hk,fun amd ham=>?_⟩
 walk_at "rd"
 refine ⟨w,rfl,w2,?_⟩
 walk_at "rd"
 refine ⟨w,h,xs,rfl,by lia,by lia,bx,?_⟩
 walk_at "rd"
 refine dQ (fun i S=>∃kv s6 s7 s8 s9 s10,S=[.val (rl k bo st),.val (eT [(w:Int),(h:Int)]),.val (eL xs),.val (dc amd),.val (eL (ahd w kv i)),.own ((FY i).map fun j=>dc (kv j)),s6,s7,s8,s9,s10]/\Chn (am k bo st) w i (wnt xs) kv) ⟨fun _=>[],_,_,_,_,_,rfl,fun i h=>by lia⟩ ?_ ?_
 ·rintro i d S2 e ⟨kv,s6,s7,s8,s9,s10,rfl,hC⟩
  have ed:d=.int (wnt xs i)/\i < h:=by
   rw [show ft xs h=(FY h).map (wnt xs) from rfl,GP,Gk] at e
   by_cases hi:i < h
   ·rw [HN hi] at e
    cases e
    exact ⟨rfl,hi⟩
   ·rw [Ht (by rw [F9];lia)] at e
    cases e
  obtain ⟨rfl,hi⟩:=ed
  have hsub:=gX hC i (FX i)
  have hwn:=E9 bx w2 i
  have hal:(ahd w kv i).length<=1024:=by
   cases i with
   | zero=>exact mx w2
   | succ j=>rw [show ahd w kv (j+1)=(kv j).map (·.1) from rfl,FV];exact (hC j (by lia)).len w2
  walk_at "rd"
  refine dQ (fun n S=>∃kvs s8 s9 s10,S=[.val (rl k bo st),.val (eT [(w:Int),(h:Int)]),.val (eL xs),.val (dc amd),.val (eL (ahd w kv i)),.own ((FY i).map fun j=>dc (kv j)),.val (.int (wnt xs i)),od kvs,s8,s9,s10]/\Sd w (thr (am k bo st) w (wnt xs i) ((ahd w kv i).take n)) kvs) ⟨[],_,_,_,rfl,by rw [Ko];exact Sd.nil⟩ ?_ ?_
  ·rintro n d S2 e2 ⟨kvs,s8,s9,s10,rfl,hS⟩
   obtain ⟨p,e3,rfl,hm,ht⟩:=aL e2
   obtain ⟨a,b,rfl⟩:=gW (hsub p hm)
   obtain ⟨⟨a1,a2⟩,b1,b2⟩:=eQ.mp (hsub _ hm)
   walk_at "rd"
   refine ⟨am k bo st,amd,w,a,b,wnt xs i,rfl,ham,w2,a1,b1,hwn.1,hwn.2,?_⟩
   walk_at "rd"
   have hs2:thr (am k bo st) w (wnt xs i) ((ahd w kv i).take (n+1))=thr (am k bo st) w (wnt xs i) ((ahd w kv i).take n)++(ths (am k bo st) w a b (wnt xs i)).map fun c=>[a,b,c]:=by
    rw [ht]
    unfold thr
    rw [IE,List.flatMap_singleton]
    rfl
   refine dQ (fun m S=>∃kvs s10,S=[.val (rl k bo st),.val (eT [(w:Int),(h:Int)]),.val (eL xs),.val (dc amd),.val (eL (ahd w kv i)),.own ((FY i).map fun j=>dc (kv j)),.val (.int (wnt xs i)),od kvs,.val (.int a),.val (.int b),s10]/\Sd w (thr (am k bo st) w (wnt xs i) ((ahd w kv i).take n)++((ths (am k bo st) w a b (wnt xs i)).take m).map fun c=>[a,b,c]) kvs) ⟨kvs,_,rfl,by rw [Ko,G3,Hy];exact hS⟩ ?_ ?_
   ·rintro m d S3 e4 ⟨kvs,s10,rfl,hS⟩
    obtain ⟨c,e5,rfl,hm2,ht2⟩:=aL e4
    have h3:=kR.mp hm2
    have hkl:=hS.len w2
    walk_at "rd"
    refine lR (kvs:=kvs) (ms:=[b,c]) rfl rfl (by lia) ?_
    refine ⟨_,_,rfl,?_⟩
    rw [ht2,GK,<- Gm]
    exact hS.put (eQ.mpr ⟨⟨b1,b2⟩,h3.1⟩)
   ·rintro S3 ⟨kvs,s10,rfl,hS⟩
    rw [FV,Hl] at hS
    exact ⟨kvs,_,_,_,rfl,by rw [hs2];exact hS⟩
  ·rintro S2 ⟨kvs,s8,s9,s10,rfl,hS⟩
   rw [FV,Hl] at hS
   walk_at "rd"
   refine Cd (kvs:=kvs) rfl ?_
   dsimp only [GW,Hi]
   walk_at "rd"
   have hk2:∀j≤i,ahd w (fun j=>if j=i then kvs else kv j) j=ahd w kv j:=fun j hj=>by
    cases j with
    | zero=>rfl
    | succ j=>show (if j=i then kvs else kv j).map (·.1)=(kv j).map (·.1);rw [if_neg (by lia)]
   have hC2:Chn (am k bo st) w (i+1) (wnt xs) fun j=>if j=i then kvs else kv j:=fun j hj=>by
    rw [hk2 j (by lia)]
    by_cases hji:j=i
    ·subst hji;show Sd w _ (if j=j then kvs else kv j);rw [if_pos rfl];exact hS
    ·show Sd w _ (if j=i then kvs else kv j);rw [if_neg hji];exact hC j (by lia)
   have hl1:(FY (i+1)).map (fun j=>dc (if j=i then kvs else kv j))=(FY i).map (fun j=>dc (kv j))++[dc kvs]:=by
    rw [IA,GK]
    congr 1
    ·exact Hk fun j hj=>by rw [if_neg (by have:=List.mem_range.mp hj;lia)]
    ·show [dc (if i=i then kvs else kv i)]=_;rw [if_pos rfl]
   have hah:ahd w (fun j=>if j=i then kvs else kv j) (i+1)=kvs.map (·.1):=by show (if i=i then kvs else kv i).map (·.1)=_;rw [if_pos rfl]
   refine mW (ds:=(FY i).map fun j=>dc (kv j)) rfl (by rw [FV,F9];lia) ?_
   dsimp only [GW,Hi]
   walk_at "rd"
   exact ⟨fun j=>if j=i then kvs else kv j,_,_,_,_,_,by rw [hah,hl1];rfl,hC2⟩
 ·rintro S2 ⟨kv,s6,s7,s8,s9,s10,rfl,hC⟩
  walk_at "rd"
  rw [show (M9 D.int (ft xs h)).length=h by rw [FV];unfold ft;rw [FV,F9]] at hC ⊢
  exact q kv hC
end
end My
namespace My
open PySem L2 VL
def Nb (f:Int->Int->Int->Int) (w h:Nat) (W:Nat->Int) (g:Nat->Int):Prop:=(∀y,0<=g y/\g y < 2 ^ (w+2))/\∀i < h,T3 f w (W i) (g i) (g (i+1)) (g (i+2))
def zB:List D->(D->Prop)->Prop:=fun ds R=>∃(f:Int->Int->Int->Int) (w h:Nat) (W:Nat->Int) (kv:Nat->List (List Int×D)),ds=[.lst ((FY h).map fun i=>dc (kv i))]/\w<=3/\1<=h/\h<=6/\Chn f w h W kv/\kv (h-1)≠[]/\∀g,Nb f w h W g->R (.lst (((FY (h+2)).map g).map .int))
theorem my {l:List D}:atI (l++[d]) (-1)=some d:=by
 have h:ixN (l++[d]).length (-1)=some l.length:=by
  unfold ixN
  rw [GV,Lc,if_neg (by lia),if_pos (by lia)]
  congr 1
  lia
 unfold atI
 rw [h]
 show (l++[d])[l.length]?=some d
 simp
section
variable {P:GD} {w:Hg} {K:FO} {mg:Str->Option FU} {base:Heap}
theorem xU (S:Src K mg "rows_back" gv) (T:Txt mg):Has P w K mg base 1 "rows_back" ["found"] (spP K zB):=by
 refine bD S cZ (by walk_at "1") (by walk_at "L") fun f cdv A outer s H E hr=>⟨_,_,(ak (aH (i:=1) cZ.nd rfl (Gf rfl) (aF rfl (aI (mj rfl (by rfl) T.list_ (aa (aF rfl (ae 0 (pv 0)) (cI bI af) (fun _ _=>rfl)) ai))) af (fun _ _=>rfl)))
  (ak (cM (fun _ h=>bP (i:=2) cZ.nd rfl (Gf rfl) h) (aV (aa (aG (aF rfl (ae 1 (pv 1)) af (fun _ _=>rfl))) (aa (aG (aF rfl (ae 1 (pv 1)) af (fun _ _=>rfl))) ai))))
  (ak (cB Hv rfl (Ca rfl (by rfl) T.reversed_ (aa (ae 0 (pv 0)) ai)) (ay (au (i:=3) cZ.nd rfl (Gf rfl) (Gf rfl))) (ak (aH (i:=1) cZ.nd rfl (Gf rfl) (xm rfl hr.units (ae 3 (pv 3)) (ae 1 (pv 1)) (fun _ _=>rfl)))
  (aq (fS (rA 2 rfl (pv 2) (aG (aF rfl (ae 1 (pv 1)) af (fun _ _=>rfl))))))))
  (aq (aD (aI (By rfl (ae 2 (pv 2))))))))),?_⟩
 rintro ds R ⟨f,w,h,W,kv,rfl,w2,h1,h2,hC,hne,q⟩
 have hat:(FY h).map (fun i=>dc (kv i))=(FY (h-1)).map (fun i=>dc (kv i))++[dc (kv (h-1))]:=by
  obtain ⟨n,rfl⟩:∃n,h=n+1:=⟨h-1,by lia⟩
  rw [IA,GK];rfl
 obtain ⟨b,c,l,hkl,hbc⟩:∃b c l,(kv (h-1)).map (·.1)=[b,c]::l/\[b,c]∈gK w:=by
  match e:kv (h-1),hne with
  | p::l,_=>
   have hp:=(hC (h-1) (by lia)).sub p.1 (by rw [e];exact FZ)
   obtain ⟨x,y,e2⟩:=gW hp
   exact ⟨x,y,l.map (·.1),by rw [Gq,e2],e2▸hp⟩
 have hb2:=eQ.mp hbc
 obtain ⟨g0,hg0,e1,e2⟩:∃g0:Nat->Int,(∀y,0<=g0 y/\g0 y < 2 ^ (w+2))/\g0 h=b/\g0 (h+1)=c:=⟨fun t=>if t=h then b else if t=h+1 then c else 0,fun y=>by
  have:=two_pos (w+2)
  show 0<=(if y=h then b else if y=h+1 then c else 0)/\(if y=h then b else if y=h+1 then c else 0) < 2 ^ (w+2)
  split
  ·exact hb2.1
  ·split
   ·exact hb2.2
   ·exact ⟨Int.le_refl _,this⟩,if_pos rfl,by show (if h+1=h then b else if h+1=h+1 then c else 0)=c;rw [if_neg (by lia),if_pos rfl]⟩
 walk_at "sl"
 walk_at "rd"
 refine cJ rfl rfl (d:=dc (kv (h-1))) (by rw [hat];exact my) ?_
 walk_at "rd"
 refine cJ rfl rfl (d:=eT [b,c]) (by rw [hkl];exact fJ (j:=0) rfl) ?_
 walk_at "rd"
 refine dQ (fun j S=>∃(g:Nat->Int) (s3:Sl),S=[.val (.lst ((FY h).map fun i=>dc (kv i))),.val (eT [g (h-j),g (h-j+1)]),.own ((FY (j+2)).map fun t=>.int (g (h+1-t))),s3]/\(∀y,0<=g y/\g y < 2 ^ (w+2))/\(∀i,h-j<=i->i < h->T3 f w (W i) (g i) (g (i+1)) (g (i+2)))/\[g (h-j),g (h-j+1)]∈ahd w kv (h-j)) ?_ ?_ ?_
 ·refine ⟨g0,.no,?_,hg0,fun i h3 h4=>by lia,?_⟩
  ·show _=[_,Sl.val (eT [g0 h,g0 (h+1)]),.own [.int (g0 (h+1)),.int (g0 h)],_]
   rw [e1,e2]
  ·show [g0 h,g0 (h+1)]∈ahd w kv h
   rw [e1,e2]
   obtain ⟨n,rfl⟩:∃n,h=n+1:=⟨h-1,by lia⟩
   show _∈(kv n).map (·.1)
   rw [show n+1-1=n by lia] at hkl
   rw [hkl]
   exact FZ
 ·rintro j d S2 e ⟨g,s3,rfl,hg,ht,hm⟩
  have hj:j < h:=by
   have:=(List.getElem?_eq_some_iff.mp e).1
   simpa using this
  obtain ⟨n,hn⟩:∃n,h-j=n+1:=⟨h-j-1,by lia⟩
  have ed:d=dc (kv n):=by
   rw [JF (by simpa using hj),Gk] at e
   rw [FV,F9,HN (by lia)] at e
   injection e with e
   rw [<- e,show h-1-j=n by lia]
  subst ed
  rw [hn] at hm ht ⊢
  obtain ⟨a,h3,h4,h5⟩:=xS hC (i:=n) (by lia) hm
  have ha:=(eQ.mp (gX hC n (by lia) _ h4)).1
  walk_at "rd"
  refine xo (kvs:=kv n) (ms:=[g (n+1),g (n+1+1)]) rfl rfl h3 ?_
  walk_at "rd"
  refine mW (ds:=(FY (j+2)).map fun t=>.int (g (h+1-t))) rfl (by rw [FV,F9];lia) ?_
  dsimp only [GW,Hi]
  walk_at "rd"
  have g1:(fun t=>if t=n then a else g t) n=a:=if_pos rfl
  have g2:∀t,n < t->(fun t=>if t=n then a else g t) t=g t:=fun t z=>if_neg (by lia)
  have hlt:∀y < n,0<=(fun t=>if t=n then a else g t) y/\(fun t=>if t=n then a else g t) y < 2 ^ (w+2):=fun y z=>by
   rw [show (fun t=>if t=n then a else g t) y=g y from if_neg (by lia)];exact hg y
  generalize (fun t=>if t=n then a else g t)=g' at g1 g2 hlt
  have hn1:h-(j+1)=n:=by lia
  refine ⟨g',.val (dc (kv n)),?_,fun y=>?_,fun i h6 h7=>?_,?_⟩
  ·have el:(FY (j+1+2)).map (fun t=>D.int (g' (h+1-t)))=(FY (j+2)).map (fun t=>D.int (g (h+1-t)))++[D.int a]:=by
    rw [show j+1+2=j+2+1 from rfl,IA,GK]
    congr 1
    ·exact Hk fun t z=>by rw [g2 _ (by have:=List.mem_range.mp z;lia)]
    ·show [D.int (g' (h+1-(j+2)))]=_
     rw [show h+1-(j+2)=n by lia,g1]
   rw [el,hn1,g1,g2 (n+1) (by lia)]
  ·rcases Kz y n with z | z | z
   ·exact hlt y z
   ·rw [z,g1];exact ha
   ·rw [g2 y z];exact hg y
  ·rw [hn1] at h6
   by_cases z:i=n
   ·subst z
    rw [g1,g2 _ (by lia),g2 _ (by lia)]
    exact h5
   ·rw [g2 _ (by lia),g2 _ (by lia),g2 _ (by lia)]
    exact ht i (by lia) h7
  ·rw [hn1,g1,g2 _ (by lia)]
   exact h4
 ·rintro S2 ⟨g,s3,rfl,hg,ht,hm⟩
  rw [J4,FV,F9] at *
  walk_at "rd"
  have er:((FY (h+2)).map fun t=>D.int (g (h+1-t))).reverse=((FY (h+2)).map g).map .int:=by
   apply Ig
   intro i
   by_cases z:i < h+2
   ·rw [JF (by simpa using z),Gk,Gk,Gk,FV,F9,HN (by lia),HN z]
    show some (D.int (g (h+1-(h+2-1-i))))=some (D.int (g i))
    rw [show h+1-(h+2-1-i)=i by lia]
   ·rw [Ht (by simp;lia),Ht (by simp;lia)]
  refine BA (ds:=(FY (h+2)).map fun t=>D.int (g (h+1-t))) rfl (by rw [show (FY (h+2)).map (fun t=>D.int (g (h+1-t)))=((FY (h+2)).map fun t=>g (h+1-t)).map .int by rw [GP];rfl];exact cU _) ?_
  rw [er]
  walk_at "rd"
  exact q g ⟨hg,fun i hi=>ht i (by lia) hi⟩
end
end My
namespace My
open PySem L2 VL
def zC:List D->(D->Prop)->Prop:=fun ds R=>∃(k:Int) (bo st:List Int) (w h:Nat) (xs:List (List Int)) (g0:Nat->Int),ds=[rl k bo st,eT [(w:Int),(h:Int)],eL xs]/\Kd k/\fsOk (eT [(w:Int),(h:Int)])=true/\Bx w h xs/\(∀p∈xs,Pr p/\inB 0 w h p=true)/\xs.length<=100/\Nb (am k bo st) w h (wnt xs) g0/\∀g,Nb (am k bo st) w h (wnt xs) g->R (.tup [.str "father",eL ((srt (cellsOf ((FY (h+2)).map g))).map (mv (-1) (-1)))])
def xV (cN cO:Addr) (ds:List D) (C:Addr):Prop:=∃r s p,ds=[r,s,p]/\Ck cN cO [s,p] C
theorem i6 {p:List Int} (h:p∈cellsOf ns):Pr p:=by
 obtain ⟨y,_,h⟩:=List.mem_flatMap.mp h
 obtain ⟨x,_,rfl⟩:=List.mem_map.mp h
 exact ⟨_,_,rfl⟩
theorem eS {α β:Type} {F:α->List β} {m:Nat}:∀l:List α,(∀a∈l,(F a).length<=m)->(l.flatMap F).length<=l.length*m
 | [],_=>HM _
 | a::l,h=>by
  rw [Jy,GV,Hf,Ld]
  have:=eS l fun b hb=>h b (GB _ hb)
  have:=h a FZ
  lia
theorem qu (hn:∀n∈ns,0<=n/\n < 2 ^ 60):(cellsOf ns).length<=ns.length*60:=by
 have:=eS (F:=fun y=>(dq (ns.getD y 0)).map fun (x:Nat)=>[(x:Int),(y:Int)]) (m:=60) (FY ns.length) fun y hy=>by
  have hy:=List.mem_range.mp hy
  have hm:ns.getD y 0∈ns:=by rw [GR,FS hy];exact IF hy
  rw [FV]
  unfold dq
  have h1:=HD (fun x=>decide (ns.getD y 0 / 2 ^ x%2=1)) (FY (GY (ns.getD y 0)))
  have h2:=bits_le (hn _ hm).1 (hn _ hm).2
  rw [F9] at h1
  lia
 rw [F9] at this
 exact this
section
variable {P:GD} {w:Hg} {K:FO} {mg:Str->Option FU} {base:Heap}
theorem uz {c_NoSize c_Outside:Addr} (S:Src K mg "father" e7) (T:Txt mg) (EX_refuse_no_child:m6 P w K mg base 4 "refuse_no_child" ["size","picture"] (Ck c_NoSize c_Outside)):m6 P w K mg base 5 "father" ["rule","size","picture"] (xV c_NoSize c_Outside):=by
 refine yR S iX (by walk_at "3") (by walk_at "L") fun f cdv A outer s H E hr TH=>⟨_,_,(we TH EX_refuse_no_child rfl hr (aa (ae 1 (pv 1)) (aa (ae 2 (pv 2)) ai))),?_⟩
 rintro ds C ⟨r,s,p,rfl,h⟩
 walk_at "sl"
 walk_at "rd"
 exact ⟨_,C,rfl,h,rfl⟩
theorem xW (S:Src K mg "father" e7) (T:Txt mg) (e11_:Has P w K mg base 4 "refuse_no_child" ["size","picture"] (spP K E2)) (e18_:Has P w K mg base 4 "pairs_by_row" ["rule","size","picture"] (spP K E8)) (e20_:Has P w K mg base 1 "rows_back" ["found"] (spP K zB)) (e12_:Has P w K mg base 1 "picture_of" ["rows"] (spP K um)) (e19_:Has P w K mg base 1 "moved" ["picture","move"] (spP K ur)):Has P w K mg base 5 "father" ["rule","size","picture"] (spP K zC):=by
 refine bD S iX (by walk_at "3") (by walk_at "L") fun f cdv A outer s H E hr=>⟨_,_,(ak (fS (bu e11_ hr (aa (ae 1 (pv 1)) (aa (ae 2 (pv 2)) ai))))
  (ak (aH (i:=3) iX.nd rfl (Gf rfl) (bu e18_ hr (aa (ae 0 (pv 0)) (aa (ae 1 (pv 1)) (aa (ae 2 (pv 2)) ai)))))
  (ak (bK (bZ (xu rfl (aF rfl (ae 3 (pv 3)) (cI bI af) (fun _ _=>rfl)))) (aq (aD (aA (aa mS (aa (aI (b8 (tg:=["pairs"]) (cs:=[]) (ix:=[]) (aK (ao e7) ["rule","size","picture","found"] (by decide +kernel)) rfl (bh (by decide)) (by decide) (bG rfl (ae 3 (pv 3))) (fun _ _ _ _=>(ay (au (i:=0) (show (["pairs"]:List Str).Nodup by decide +kernel) rfl (Gf rfl) (by first | exact Gf rfl | exact HB rfl)))) (fun _ _ _ _=>bU) (fun _ _ _ _=>(aI (qm rfl (by rfl) T.sorted_ jt (aa (ae 0 (pv 0)) ai)))))) ai))))) aW)
  (aq (aD (aA (aa mS (aa (bu e19_ hr (aa (bu e12_ hr (aa (bu e20_ hr (aa (ae 3 (pv 3)) ai)) ai)) (aa (aA (aa (cI bI af) (aa (cI bI af) ai))) ai))) ai)))))))),?_⟩
 rintro ds R ⟨k,bo,st,w,h,xs,g0,rfl,hk,hf,bx,hp,hl,hg0,q⟩
 obtain ⟨⟨w1,w2⟩,h1,h2⟩:=xP hf
 walk_at "sl"
 walk_at "rd"
 refine ⟨w,h,xs,rfl,hf,hp,hl,?_⟩
 walk_at "rd"
 refine ⟨k,bo,st,w,h,xs,rfl,hk,by lia,by lia,by lia,by lia,bx,fun kv hC=>?_⟩
 walk_at "rd"
 have h0:1<=h:=by lia
 have hend:=oY hC g0 hg0.1 hg0.2 h (FX h)
 have hne:kv (h-1)≠[]:=by
  obtain ⟨n,rfl⟩:∃n,h=n+1:=⟨h-1,by lia⟩
  intro z
  rw [show n+1-1=n by lia] at z
  rw [show ahd w kv (n+1)=(kv n).map (·.1) from rfl,z] at hend
  cases hend
 have hat:(FY h).map (fun i=>dc (kv i))=(FY (h-1)).map (fun i=>dc (kv i))++[dc (kv (h-1))]:=by
  obtain ⟨n,rfl⟩:∃n,h=n+1:=⟨h-1,by lia⟩
  rw [IA,GK];rfl
 refine cJ rfl rfl (d:=dc (kv (h-1))) (by rw [hat];exact my) ?_
 refine xw (kvs:=kv (h-1)) rfl ?_
 rw [show ((kv (h-1)).length != 0)=true by cases z:kv (h-1) with | nil=>exact absurd z hne | cons a l=>rfl]
 walk_at "rc"
 refine ⟨am k bo st,w,h,wnt xs,kv,rfl,by lia,h0,by lia,hC,hne,fun g hg=>?_⟩
 walk_at "rd"
 have hgb:∀n∈(FY (h+2)).map g,0<=n/\n < 2 ^ 60:=fun n hn=>by
  obtain ⟨y,_,rfl⟩:=List.mem_map.mp hn
  have h5:(2:Int) ^ (w+2)<=2 ^ 60:=by
   have h6:=HZ (n:=2) (by decide) (show w+2<=60 by lia)
   have h7:((2 ^ (w+2):Nat):Int)<=((2 ^ 60:Nat):Int):=Int.ofNat_le.mpr h6
   simpa using h7
  have:=hg.1 y
  lia
 refine ⟨(FY (h+2)).map g,rfl,by rw [FV,F9];lia,hgb,?_⟩
 walk_at "rd"
 refine ⟨srt (cellsOf ((FY (h+2)).map g)),-1,-1,rfl,fun p hp=>i6 ((bY _).mem_iff.mp hp),?_,?_⟩
 ·rw [(bY _).length_eq]
  have:=qu hgb
  rw [FV,F9] at this
  lia
 walk_at "rd"
 exact q g hg
end
end My
namespace My
open PySem L2 VL
def uA:List D->(D->Prop)->Prop:=fun ds R=>∃i:Int,ds=[.int i]/\R (.bl true)
def zD (cN cO:Addr):List D->(D->Prop)->Prop:=fun ds R=>(xV cN cO ds cN/\R (.lst [.bl true,.bl false,.bl true]))\/(xV cN cO ds cO/\R (.lst [.bl false,.bl true,.bl true]))
structure Ri (w h:Int) (cs:List (List Int)):Prop where
 at_:∀p∈cs,∃a b,p=[a,b]/\-1<=a/\a<=w/\-1<=b/\b<=h
 up:∀i p q,cs[i]?=some p->cs[i+1]?=some q->HT.lexLt p q=true
 len:cs.length<=60
def Fb:List D->(D->Prop)->Prop:=fun ds R=>∃(k:Int) (bo sy:List Int) (w h:Int) (xs cs:List (List Int)),ds=[rl k bo sy,eT [w,h],eL xs,.tup [.str "father",eL cs]]/\Kd k/\fsOk (eT [w,h])=true/\Ri w h cs/\R (.bl (decide (bec k bo sy w h cs=xs)))
section
variable {P:GD} {w:Hg} {K:FO} {mg:Str->Option FU} {base:Heap}
theorem uB (S:Src K mg "_law_whole" kM) (T:Txt mg):Has P w K mg base 1 "_law_whole" ["_law_found"] (spP K uA):=by
 refine bD S t5 (by walk_at "1") (by walk_at "L") fun f cdv A outer s H E hr=>⟨_,_,(aq (aD (eF (aM (gB (K:=K) rfl) gA (by rfl) T.isinstance_ aZ (aa (ae 0 (pv 0)) (aa (ez (cK (v:=.ty "int") (by rfl) T.int_ qS rfl) (fun _ _=>.ty _)) ai))) (iy (rh (aM (gB (K:=K) rfl) gA (by rfl) T.isinstance_ aZ (aa (ae 0 (pv 0)) (aa (ez (cK (v:=.ty "bool") (by rfl) T.bool_ nR rfl) (fun _ _=>.ty _)) ai)))))))),?_⟩
 rintro ds R ⟨i,rfl,q⟩
 walk_at "sl"
 walk_at "rc"
 exact q
theorem xX {c_CellError c_NoSize c_Outside:Addr} (S:Src K mg "_law_refused" gw) (T:Txt mg) (EX_father:m6 P w K mg base 5 "father" ["rule","size","picture"] (xV c_NoSize c_Outside))
  (g_CellError:mg "CellError"=some (.ref c_CellError)) (g_ValueError:mg "ValueError"=none)
  (g_NoSize:mg "NoSize"=some (.ref c_NoSize)) (g_Outside:mg "Outside"=some (.ref c_Outside))
  (y1:Kr K (.ref c_NoSize) (.ref c_CellError)=some true) (y2:dY K c_NoSize=true) (y3:Ha K (.ref c_NoSize) (.ref c_NoSize)=some true) (y3':Ha K (.ref c_NoSize) (.ref c_Outside)=some false) (y4:Ha K (.ref c_NoSize) (.type "ValueError")=some true)
  (z1:Kr K (.ref c_Outside) (.ref c_CellError)=some true) (z2:dY K c_Outside=true) (z3:Ha K (.ref c_Outside) (.ref c_NoSize)=some false) (z3':Ha K (.ref c_Outside) (.ref c_Outside)=some true) (z4:Ha K (.ref c_Outside) (.type "ValueError")=some true):Has P w K mg base 6 "_law_refused" ["_law_code","_law_size_here","_law_live"] (spP K (zD c_NoSize c_Outside)):=by
 refine bD S dW (by walk_at "3") (fun ds R h=>by rcases h with ⟨⟨_,_,_,e,_⟩,_⟩ | ⟨⟨_,_,_,e,_⟩,_⟩ <;> (rw [e];rfl)) fun f cdv A outer s H E hr=>⟨_,_,(ak (cM (fun _ h=>bP (i:=3) dW.nd rfl (Gf rfl) h) (aV ai))
  (ak (BE (i:=4) EX_father rfl hr (aa (ae 0 (pv 0)) (aa (ae 1 (pv 1)) (aa (ae 2 (pv 2)) ai))) g_CellError (fun y=>(aq (cM (fun _ h=>bP (i:=3) dW.nd rfl (Gf rfl) h) (aV (aa (kj (i:=4) (c:=.ref c_NoSize) rfl rfl (eV (by rfl) g_NoSize rfl) rfl (Gf rfl) (by rfl) T.isinstance_) (aa (kj (i:=4) (c:=.ref c_Outside) rfl rfl (eV (by rfl) g_Outside rfl) rfl (Gf rfl) (by rfl) T.isinstance_) (aa (kj (i:=4) (c:=.type "ValueError") rfl rfl (cK (by rfl) g_ValueError PyProof.Rows.Boot.«ValueError» rfl) rfl (Gf rfl) (by rfl) T.isinstance_) ai))))))) (fun _ _ h=>h) rfl rfl rfl dW.nd rfl rfl)
  (aq (aD (aG (ae 3 (pv 3))))))),?_⟩
 rintro ds R (⟨h,q⟩ | ⟨h,q⟩)
 ·obtain ⟨r,si,p,rfl,h⟩:=h
  walk_at "sl"
  walk_at "rd"
  unfold BD
  walk_at "rd"
  refine ⟨GI rfl,[r,si,p],c_NoSize,rfl,⟨r,si,p,rfl,h⟩,y1,?_⟩
  dsimp only [Na]
  walk_at "rd"
  refine gj rfl y2 y3 ?_
  walk_at "rc"
  refine gj rfl y2 y3' ?_
  walk_at "rc"
  refine gj rfl y2 y4 ?_
  walk_at "rc"
  refine ⟨GI rfl,?_⟩
  dsimp only [Na]
  walk_at "rc"
  exact q
 ·obtain ⟨r,si,p,rfl,h⟩:=h
  walk_at "sl"
  walk_at "rd"
  unfold BD
  walk_at "rd"
  refine ⟨GI rfl,[r,si,p],c_Outside,rfl,⟨r,si,p,rfl,h⟩,z1,?_⟩
  dsimp only [Na]
  walk_at "rd"
  refine gj rfl z2 z3 ?_
  walk_at "rc"
  refine gj rfl z2 z3' ?_
  walk_at "rc"
  refine gj rfl z2 z4 ?_
  walk_at "rc"
  refine ⟨GI rfl,?_⟩
  dsimp only [Na]
  walk_at "rc"
  exact q
theorem CA (S:Src K mg "_law_is_father" fD) (T:Txt mg) (e7_:Has P w K mg base 1 "_law_whole" ["_law_found"] (spP K uA)) (e2_:Has P w K mg base 2 "_law_becomes" ["_law_code","_law_size_here","_law_other"] (spP K Ct)):Has P w K mg base 3 "_law_is_father" ["_law_code","_law_size_here","_law_live","_law_told"] (spP K Fb):=by
 refine bD S eO (fun _ _ _ _ _ _ us hl=>match us,hl with | [_,_,_,_],_=>rfl) (by walk_at "L") fun f cdv A outer s H E hr=>⟨_,_,(ak (bK (jr (fq (bZ (bS (aM (gB (K:=K) rfl) gA (by rfl) T.isinstance_ aZ (aa (ae 3 (pv 3)) (aa (ez (cK (v:=.ty "tuple") (by rfl) T.tuple_ eg rfl) (fun _ _=>.ty _)) ai))))) (fq (aT qI Ax (aM (fV (K:=K) rfl) fQ (by rfl) T.len_ dJ (aa (ae 3 (pv 3)) ai)) af (aO _)) (fq (aT qI Ax (aF rfl (ae 3 (pv 3)) af (fun _ _=>rfl)) mS (aO _)) (j4 (bZ (bS (aM (gB (K:=K) rfl) gA (by rfl) T.isinstance_ aZ (aa (aF rfl (ae 3 (pv 3)) af (fun _ _=>rfl)) (aa (ez (cK (v:=.ty "list") (by rfl) T.list_ jW rfl) (fun _ _=>.ty _)) ai)))))))))) (aq (aD cy)) aW)
  (ak (cB Hv rfl (bC rfl T.range (aa (aM (fV (K:=K) rfl) fQ (by rfl) T.len_ dJ (aa (aF rfl (ae 3 (pv 3)) af (fun _ _=>rfl)) ai)) ai)) (ay (au (i:=4) eO.nd rfl (Gf rfl) (Gf rfl))) (ak (aH (i:=5) eO.nd rfl (Gf rfl) (aF rfl (aF rfl (ae 3 (pv 3)) af (fun _ _=>rfl)) (ae 4 (pv 4)) (fun _ _=>rfl)))
  (ak (bK (jr (fq (bZ (bS (aM (gB (K:=K) rfl) gA (by rfl) T.isinstance_ aZ (aa (ae 5 (pv 5)) (aa (ez (cK (v:=.ty "tuple") (by rfl) T.tuple_ eg rfl) (fun _ _=>.ty _)) ai))))) (fq (aT qI Ax (aM (fV (K:=K) rfl) fQ (by rfl) T.len_ dJ (aa (ae 5 (pv 5)) ai)) af (aO _)) (fq (bZ (bS (bu e7_ hr (aa (aF rfl (ae 5 (pv 5)) af (fun _ _=>rfl)) ai)))) (j4 (bZ (bS (bu e7_ hr (aa (aF rfl (ae 5 (pv 5)) af (fun _ _=>rfl)) ai))))))))) (aq (aD cy)) aW)
  (ak (bK (jr (rf (aT hW aE (ae 4 (pv 4)) af (aO _)) (nW (bZ (aT (Aj hr.units0) Eb (aF rfl (aF rfl (ae 3 (pv 3)) af (fun _ _=>rfl)) (aB g9 aE (ae 4 (pv 4)) af) (fun _ _=>rfl)) (ae 5 (pv 5)) (aO _)))))) (aq (aD cy)) aW)
  (aq (bK (jr (fq (aT kX aE (aF rfl (ae 5 (pv 5)) af (fun _ _=>rfl)) (cI bI af) (aO _)) (fq (aT hW aE (aF rfl (ae 5 (pv 5)) af (fun _ _=>rfl)) (aF rfl (ae 1 (pv 1)) af (fun _ _=>rfl)) (aO _)) (fq (aT kX aE (aF rfl (ae 5 (pv 5)) af (fun _ _=>rfl)) (cI bI af) (aO _)) (j4 (aT hW aE (aF rfl (ae 5 (pv 5)) af (fun _ _=>rfl)) (aF rfl (ae 1 (pv 1)) af (fun _ _=>rfl)) (aO _))))))) (aq (aD cy)) aW))))))
  (aq (aD (eE (rJ (K:=K) rfl hr.units) n8 (bu e2_ hr (aa (ae 0 (pv 0)) (aa (ae 1 (pv 1)) (aa (aF rfl (ae 3 (pv 3)) af (fun _ _=>rfl)) ai)))) (ae 2 (pv 2)) (aO _)))))),?_⟩
 rintro ds R ⟨k,bo,sy,w,h,xs,cs,rfl,hk,hf,hr',q⟩
 walk_at "sl"
 walk_at "rc"
 have hl:=hr'.len
 refine mX ⟨by rw [FV];lia,by rw [FV];lia⟩ ?_
 rw [G7,FV]
 refine j8 (fun i S=>∃s4 s5,S=[.val (rl k bo sy),.val (eT [w,h]),.val (eL xs),.val (.tup [.str "father",eL cs]),s4,s5]) ⟨_,_,rfl⟩ ?_ ?_
 ·rintro i S2 hi ⟨s4,s5,rfl⟩
  obtain ⟨a,b,ec,a1,a2,b1,b2⟩:=hr'.at_ _ (IF hi)
  walk_at "rd"
  refine cJ rfl rfl (d:=eT [a,b]) (by rw [Il];exact fJ (by rw [Gk,FS hi,ec];rfl)) ?_
  walk_at "rc"
  refine ⟨a,rfl,?_⟩
  walk_at "rc"
  refine ⟨b,rfl,?_⟩
  walk_at "rc"
  by_cases hi0:(0:Int) < 0+(i:Int)
  ·rw [decide_eq_true hi0]
   obtain ⟨n,rfl⟩:∃n,i=n+1:=⟨i-1,by lia⟩
   obtain ⟨a',b',ec',_⟩:=hr'.at_ _ (IF (show n < cs.length by lia))
   have hup:=hr'.up n [a',b'] [a,b] (by rw [FS (by lia),ec']) (by rw [FS hi,ec])
   walk_at "rc"
   refine cJ rfl rfl (d:=eT [a',b']) (by rw [show (0:Int)+((n+1:Nat):Int)-1=(n:Int) by lia];exact fJ (by rw [Gk,FS (by lia),ec'];rfl)) ?_
   walk_at "rc"
   rw [hup]
   walk_at "rc"
   rw [decide_eq_false (show ¬ a < -1 by lia)]
   walk_at "rc"
   rw [decide_eq_false (show ¬ w < a by lia)]
   walk_at "rc"
   rw [decide_eq_false (show ¬ b < -1 by lia)]
   walk_at "rc"
   rw [decide_eq_false (show ¬ h < b by lia)]
   walk_at "rc"
   exact ⟨_,_,rfl⟩
  ·rw [decide_eq_false hi0]
   walk_at "rc"
   rw [decide_eq_false (show ¬ a < -1 by lia)]
   walk_at "rc"
   rw [decide_eq_false (show ¬ w < a by lia)]
   walk_at "rc"
   rw [decide_eq_false (show ¬ b < -1 by lia)]
   walk_at "rc"
   rw [decide_eq_false (show ¬ h < b by lia)]
   walk_at "rc"
   exact ⟨_,_,rfl⟩
 ·rintro S2 ⟨s4,s5,rfl⟩
  walk_at "rd"
  refine ⟨k,bo,sy,w,h,cs,rfl,hk,hf,hl,?_⟩
  walk_at "rd"
  refine yt (f:=eL) (x:=bec k bo sy w h cs) (y:=xs) rM ?_
  walk_at "rd"
  exact q
end
end My
namespace My
open PySem L2 VL
theorem zE (R:Int) (x j:Nat) (hj:j < 3):bt (w3 R x) (j:Int)=R / 2 ^ (x+j)%2:=by
 unfold bt w3
 rw [G7,KR,<- Int.ediv_ediv_of_nonneg (MF (two_pos x))]
 generalize R / 2 ^ x=M
 match j,hj with
 | 0,_=>simp only [Int.pow_zero];lia
 | 1,_=>simp only [show (2:Int) ^ 1=2 from rfl];lia
 | 2,_=>simp only [show (2:Int) ^ 2=4 from rfl];lia
theorem lens (p:List Int->Bool):∀l:List (List Int),(l.map fun m=>if p m=true then (1:Int) else 0).sum=((l.filter p).length:Int)
 | []=>rfl
 | m::l=>by
  have:=lens p l
  cases h:p m
  ·simp [h,this]
  ·simp [h,this];lia
def Gc (h:Nat) (g:Nat->Int) (ks:List (List Int)):Prop:=∀c i:Nat,i < h+2->(g i / 2 ^ c%2=1↔[(c:Int)-1,(i:Int)-1]∈ks)
section
variable {k:Int} {bo sy:List Int} {w h:Nat} {g:Nat->Int} {ks xs:List (List Int)}
theorem qv (hk:Kd k) (G:Gc h g ks) {i x:Nat} (hi:i < h):Cj k (w3 (g i) x) (w3 (g (i+1)) x) (w3 (g (i+2)) x) 1=((((st k).filter fun m=>decide (nx2 (x:Int) (i:Int) m∈ks)).length:Nat):Int):=by
 rw [((oS hk).filter _).length_eq,<- lens]
 unfold Cj
 congr 1
 refine Hk fun m hm=>?_
 obtain ⟨dx,dy,rfl,hx,hy⟩:=zt hk hm
 obtain ⟨u,rfl⟩:∃u:Nat,dx=(u:Int)-1:=⟨(dx+1).toNat,by lia⟩
 obtain ⟨v,rfl⟩:∃v:Nat,dy=(v:Int)-1:=⟨(dy+1).toNat,by lia⟩
 have e1:(1:Int)+((u:Int)-1)=(u:Int):=by lia
 have e2:nx2 (x:Int) (i:Int) [(u:Int)-1,(v:Int)-1]=[((x+u:Nat):Int)-1,((i+v:Nat):Int)-1]:=by
  simp only [nx2,J1,and_true]
  lia
 show bt (ln3 _ _ _ ((v:Int)-1)) (1+((u:Int)-1))=_
 rw [e1,e2,show decide ([((x+u:Nat):Int)-1,((i+v:Nat):Int)-1]∈ks)=decide (g (i+v) / 2 ^ (x+u)%2=1) from decide_eq_decide.mpr (G _ _ (by lia)).symm]
 have hv:v=0\/v=1\/v=2:=by lia
 have hb:∀j:Nat,bt (w3 (g j) x) (u:Int)=if decide (g j / 2 ^ (x+u)%2=1)=true then 1 else 0:=fun j=>by
  rw [zE _ _ _ (by lia)]
  by_cases h1:g j / 2 ^ (x+u)%2=1
  ·rw [h1];rfl
  ·rw [if_neg (by simpa using h1)];lia
 rcases hv with rfl | rfl | rfl
 ·exact hb i
 ·exact hb (i+1)
 ·exact hb (i+2)
theorem uC (hk:Kd k) (G:Gc h g ks) {i x:Nat} (hi:i < h):am k bo sy (w3 (g i) x) (w3 (g (i+1)) x) (w3 (g (i+2)) x)=if lives k bo sy ks (x:Int) (i:Int)=true then 1 else 0:=by
 unfold am t9 lives
 rw [qv hk G hi]
 have e2:g (i+1) / 2 ^ (x+1)%2=1↔[(x:Int),(i:Int)]∈ks:=by
  rw [G _ _ (by lia),show ((x+1:Nat):Int)-1=(x:Int) by lia,show ((i+1:Nat):Int)-1=(i:Int) by lia]
 have hb:bt (w3 (g (i+1)) x) 1=g (i+1) / 2 ^ (x+1)%2:=zE _ x 1 (by decide)
 rw [hb]
 have hif:(if g (i+1) / 2 ^ (x+1)%2=1 then sy else bo)=if [(x:Int),(i:Int)]∈ks then sy else bo:=by
  by_cases hm:[(x:Int),(i:Int)]∈ks
  ·rw [if_pos hm,if_pos (e2.mpr hm)]
  ·rw [if_neg hm,if_neg fun z=>hm (e2.mp z)]
 rw [hif]
theorem xY (bx:Bx w h xs) {x y:Nat} (hx:x < w):wnt xs y / 2 ^ x%2=if [(x:Int),(y:Int)]∈xs then 1 else 0:=by
 unfold wnt
 rw [uk bx]
 have e:=iZ (fun x=>decide ([(x:Int),(y:Int)]∈xs)) w x
 have e2:((numP (fun x=>decide ([(x:Int),(y:Int)]∈xs)) w:Nat):Int) / 2 ^ x%2=((numP (fun x=>decide ([(x:Int),(y:Int)]∈xs)) w / 2 ^ x%2:Nat):Int):=by norm_cast
 rw [e2,e]
 by_cases hm:[(x:Int),(y:Int)]∈xs <;> simp [hx,hm]
theorem mz (hk:Kd k) (bx:Bx w h xs) (G:Gc h g ks) {i x:Nat} (hi:i < h) (hx:x < w):am k bo sy (w3 (g i) x) (w3 (g (i+1)) x) (w3 (g (i+2)) x)=wnt xs i / 2 ^ x%2↔(lives k bo sy ks (x:Int) (i:Int)=true↔[(x:Int),(i:Int)]∈xs):=by
 rw [uC hk G hi,xY bx hx]
 by_cases h1:lives k bo sy ks (x:Int) (i:Int)=true <;> by_cases h2:[(x:Int),(i:Int)]∈xs <;> simp [h1,h2]
theorem gY {c:List Int}:c∈bec k bo sy (w:Int) (h:Int) ks↔∃x y:Nat,c=[(x:Int),(y:Int)]/\x < w/\y < h/\lives k bo sy ks (x:Int) (y:Int)=true:=by
 unfold bec
 rw [Jd,G7,G7]
 constructor
 ·rintro ⟨x,hx,hc⟩
  obtain ⟨y,hy,rfl⟩:=List.mem_map.mp hc
  obtain ⟨hy,hl⟩:=List.mem_filter.mp hy
  rw [Il,Il] at hl ⊢
  exact ⟨x,y,rfl,List.mem_range.mp hx,List.mem_range.mp hy,hl⟩
 ·rintro ⟨x,y,rfl,hx,hy,hl⟩
  refine ⟨x,List.mem_range.mpr hx,List.mem_map.mpr ⟨y,List.mem_filter.mpr ⟨List.mem_range.mpr hy,?_⟩,?_⟩⟩
  ·rw [Il,Il];exact hl
  ·rw [Il,Il]
theorem qw {ys zs:List (List Int)} (e:∀x y:Nat,x < w->y < h->lives k bo sy ys (x:Int) (y:Int)=lives k bo sy zs (x:Int) (y:Int)):bec k bo sy (w:Int) (h:Int) ys=bec k bo sy (w:Int) (h:Int) zs:=by
 unfold bec
 rw [G7,G7,List.flatMap_def,List.flatMap_def]
 congr 1
 refine Hk fun x hx=>?_
 congr 1
 refine Ms fun y hy=>?_
 rw [Il,Il]
 exact e x y (List.mem_range.mp hx) (List.mem_range.mp hy)
theorem xZ (hw:w<=3) (hh:h<=6):(bec k bo sy (w:Int) (h:Int) ks).length<=18:=by
 unfold bec
 have:=eS (F:=fun (x:Nat)=>((FY ((h:Int)).toNat).filter fun (y:Nat)=>lives k bo sy ks (0+(x:Int)) (0+(y:Int))).map fun (y:Nat)=>[0+(x:Int),0+(y:Int)]) (m:=6) (FY ((w:Int)).toNat) fun x _=>by
  rw [FV]
  have:=HD (fun (y:Nat)=>lives k bo sy ks (0+(x:Int)) (0+(y:Int))) (FY ((h:Int)).toNat)
  rw [F9] at this
  lia
 rw [F9] at this
 lia
theorem nF (hw:w<=3) (hh:h<=6):Bx w h (bec k bo sy (w:Int) (h:Int) ks) where
 nd:=by
  unfold bec
  refine List.pairwise_flatMap.mpr ⟨fun x _=>?_,?_⟩
  ·refine List.pairwise_map.mpr ((List.nodup_range.filter _).imp fun {a b} z e=>z ?_)
   injection e with _ e
   injection e with e _
   lia
  ·refine List.nodup_range.imp fun {y z} hyz a ha b hb e=>hyz ?_
   obtain ⟨x1,_,rfl⟩:=List.mem_map.mp ha
   obtain ⟨x2,_,rfl⟩:=List.mem_map.mp hb
   injection e with e _
   lia
 at_:=fun c hc=>by
  obtain ⟨x,y,e,h1,h2,_⟩:=gY.mp hc
  exact ⟨x,y,e,h1,h2⟩
 len:=by
  unfold bec
  have:=eS (F:=fun (x:Nat)=>((FY ((h:Int)).toNat).filter fun (y:Nat)=>lives k bo sy ks (0+(x:Int)) (0+(y:Int))).map fun (y:Nat)=>[0+(x:Int),0+(y:Int)]) (m:=6) (FY ((w:Int)).toNat) fun x _=>by
   rw [FV]
   have:=HD (fun (y:Nat)=>lives k bo sy ks (0+(x:Int)) (0+(y:Int))) (FY ((h:Int)).toNat)
   rw [F9] at this
   lia
  rw [F9] at this
  lia
theorem Fc (hk:Kd k) (hw:w<=3) (hh:h<=6) (r:Row (h:Int) ((w:Int)+1) ks):∃g,Nb (am k bo sy) w h (wnt (bec k bo sy (w:Int) (h:Int) ks)) g:=by
 have hb:∀i c:Nat,((numP (fun c=>decide ([(c:Int)-1,(i:Int)-1]∈ks)) (w+2):Nat):Int) / 2 ^ c%2=1↔[(c:Int)-1,(i:Int)-1]∈ks:=fun i c=>by
  have e:=iZ (fun c=>decide ([(c:Int)-1,(i:Int)-1]∈ks)) (w+2) c
  have e2:((numP (fun c=>decide ([(c:Int)-1,(i:Int)-1]∈ks)) (w+2):Nat):Int) / 2 ^ c%2=((numP (fun c=>decide ([(c:Int)-1,(i:Int)-1]∈ks)) (w+2) / 2 ^ c%2:Nat):Int):=by norm_cast
  rw [e2,e]
  by_cases hm:[(c:Int)-1,(i:Int)-1]∈ks
  ·obtain ⟨a,b,e3,h1,h2,h3⟩:=r.2 _ hm
   injection e3 with e3 _
   have:c < w+2:=by lia
   simp [hm,this]
  ·simp [hm]
 have G:Gc h (fun i=>((numP (fun c=>decide ([(c:Int)-1,(i:Int)-1]∈ks)) (w+2):Nat):Int)) ks:=fun c i _=>hb i c
 have hbd:∀i:Nat,0<=((numP (fun c=>decide ([(c:Int)-1,(i:Int)-1]∈ks)) (w+2):Nat):Int)/\((numP (fun c=>decide ([(c:Int)-1,(i:Int)-1]∈ks)) (w+2):Nat):Int) < 2 ^ (w+2):=fun i=>by
  have:=gV (fun c=>decide ([(c:Int)-1,(i:Int)-1]∈ks)) (w+2)
  exact ⟨L1 _,by exact_mod_cast this⟩
 refine ⟨fun i=>((numP (fun c=>decide ([(c:Int)-1,(i:Int)-1]∈ks)) (w+2):Nat):Int),fun y=>hbd y,fun i hi=>⟨hbd (i+2),fun x hx=>?_⟩⟩
 refine (mz hk (nF hw hh) G hi hx).mpr ?_
 rw [gY]
 constructor
 ·exact fun z=>⟨x,i,rfl,hx,hi,z⟩
 ·rintro ⟨x',i',e,_,_,z⟩
  injection e with e1 e
  injection e with e2 _
  rw [e1,e2]
  exact z
theorem CC {p q:List Int} (hp:Pr p) (hq:Pr q) (e:HT.lexLt p q=true):HT.lexLt (mv (-1) (-1) p) (mv (-1) (-1) q)=true:=by
 obtain ⟨a,b,rfl⟩:=hp
 obtain ⟨c,d,rfl⟩:=hq
 simp only [mv,HT.cj,HT.fh] at e ⊢
 by_cases h1:a=c
 ·subst h1
  rw [if_pos rfl] at e ⊢
  by_cases h2:b=d
  ·subst h2;simp at e
  ·rw [if_neg h2] at e
   rw [if_neg (by lia)]
   have:=of_decide_eq_true e
   exact decide_eq_true (by lia)
 ·rw [if_neg h1] at e
  rw [if_neg (by lia)]
  have:=of_decide_eq_true e
  exact decide_eq_true (by lia)
theorem CD {l:List (List Int)} (nd:l.Nodup) {i:Nat} {p q:List Int} (e1:(srt l)[i]?=some p) (e2:(srt l)[i+1]?=some q):HT.lexLt p q=true:=by
 obtain ⟨h1,rfl⟩:=List.getElem?_eq_some_iff.mp e1
 obtain ⟨h2,rfl⟩:=List.getElem?_eq_some_iff.mp e2
 have a:=List.pairwise_iff_getElem.mp (ir l) i (i+1) h1 h2 (Ij i)
 have b:=List.pairwise_iff_getElem.mp ((bY l).nodup_iff.mpr nd) i (i+1) h1 h2 (Ij i)
 cases z:HT.lexLt (srt l)[i] (srt l)[i+1] with
 | true=>rfl
 | false=>exact absurd (iq _ _ a (by unfold lexLe;rw [z];rfl)) b
def told (h:Nat) (g:Nat->Int):List (List Int):=(srt (cellsOf ((FY (h+2)).map g))).map (mv (-1) (-1))
theorem nG {i:Nat} (hi:i < h+2):((FY (h+2)).map g).getD i 0=g i:=by
 rw [GR,Gk,HN hi];rfl
theorem mB (hg:∀y,0<=g y/\g y < 2 ^ (w+2)) {p:List Int}:p∈told h g↔∃x y:Nat,p=[(x:Int)-1,(y:Int)-1]/\y < h+2/\g y / 2 ^ x%2=1:=by
 have hn:∀n∈(FY (h+2)).map g,0<=n:=fun n hn=>by
  obtain ⟨y,_,rfl⟩:=List.mem_map.mp hn
  exact (hg y).1
 unfold told
 rw [List.mem_map]
 constructor
 ·rintro ⟨c,hc,rfl⟩
  obtain ⟨x,y,rfl,hy,hb⟩:=(eP hn).mp ((bY _).mem_iff.mp hc)
  rw [FV,F9] at hy
  rw [nG hy] at hb
  exact ⟨x,y,rfl,hy,hb⟩
 ·rintro ⟨x,y,rfl,hy,hb⟩
  refine ⟨[(x:Int),(y:Int)],(bY _).mem_iff.mpr ((eP hn).mpr ⟨x,y,rfl,?_,?_⟩),rfl⟩
  ·rw [FV,F9];exact hy
  ·rw [nG hy];exact hb
theorem oZ {n:Int} {N x:Nat} (h0:0<=n) (h1:n < 2 ^ N) (hb:n / 2 ^ x%2=1):x < N:=by
 refine Nat.lt_of_not_le fun z=>?_
 have h2:(2:Int) ^ N<=2 ^ x:=by
  have h6:=HZ (n:=2) (by decide) z
  exact_mod_cast h6
 rw [K4 h0 (by lia)] at hb
 lia
theorem x6 (hg:∀y,0<=g y/\g y < 2 ^ (w+2)):Gc h g (told h g):=fun c i hi=>by
 rw [mB hg]
 constructor
 ·exact fun z=>⟨c,i,rfl,hi,z⟩
 ·rintro ⟨x,y,e,_,hb⟩
  injection e with e1 e
  injection e with e2 _
  obtain rfl:c=x:=by lia
  obtain rfl:i=y:=by lia
  exact hb
theorem x8 (hw:w<=3) (hh:h<=6) (hg:∀y,0<=g y/\g y < 2 ^ (w+2)):Ri (w:Int) (h:Int) (told h g) where
 at_:=fun p hp=>by
  obtain ⟨x,y,rfl,hy,hb⟩:=(mB hg).mp hp
  have:=oZ (hg y).1 (hg y).2 hb
  exact ⟨_,_,rfl,by lia,by lia,by lia,by lia⟩
 up:=fun i p q e1 e2=>by
  unfold told at e1 e2
  rw [Gk] at e1 e2
  obtain ⟨p',e3,rfl⟩:=Option.map_eq_some_iff.mp e1
  obtain ⟨q',e4,rfl⟩:=Option.map_eq_some_iff.mp e2
  exact CC (i6 ((bY _).mem_iff.mp (He e3))) (i6 ((bY _).mem_iff.mp (He e4))) (CD (jb _) e3 e4)
 len:=by
  unfold told
  rw [FV,(bY _).length_eq]
  have:=eS (F:=fun y=>(dq (((FY (h+2)).map g).getD y 0)).map fun (x:Nat)=>[(x:Int),(y:Int)]) (m:=5) (FY ((FY (h+2)).map g).length) fun y hy=>by
   have hy:=List.mem_range.mp hy
   rw [FV,F9] at hy
   rw [FV,nG hy]
   have hsub:∀x∈dq (g y),x∈FY 5:=fun x hx=>by
    have:=oZ (hg y).1 (hg y).2 ((fE (hg y).1).mp hx)
    exact List.mem_range.mpr (by lia)
   have:=List.Nodup.length_le_of_subset (List.nodup_range.filter _:(dq (g y)).Nodup) hsub
   rwa [F9] at this
  rw [F9,FV,F9] at this
  show (cellsOf _).length<=60
  unfold cellsOf
  rw [FV,F9]
  lia
theorem uD (hk:Kd k) (hw:w<=3) (hh:h<=6) (N:Nb (am k bo sy) w h (wnt (bec k bo sy (w:Int) (h:Int) ks)) g):bec k bo sy (w:Int) (h:Int) (told h g)=bec k bo sy (w:Int) (h:Int) ks:=by
 refine qw fun x y hx hy=>?_
 have e:=(mz hk (nF hw hh) (x6 N.1) hy hx).mp ((N.2 y hy).2 x hx)
 rw [gY] at e
 rw [Ih,e]
 constructor
 ·rintro ⟨x',y',e,_,_,z⟩
  injection e with e1 e
  injection e with e2 _
  rw [e1,e2]
  exact z
 ·exact fun z=>⟨x,y,rfl,hx,hy,z⟩
end
end My
namespace My
open PySem L2 VL
def eB (bs:List Bool):D:=.lst (bs.map D.bl)
theorem uE:Enc 1 eB:=AK.lst
def thb:D->Bool
 | .int _=>true
 | .bl _=>true
 | .non=>true
 | .str _=>true
 | .lst _=>true
 | .tup _=>true
 | _=>false
def Fd:D->Bool
 | .tup es=>es.all thb
 | d=>thb d
theorem zF (h:thb d=true):Th d:=by cases d <;> first | trivial | cases h
theorem CF (h:Fd d=true):Th2 d:=by
 cases d with
 | tup es=>exact ⟨trivial,fun es' e x hx=>by cases e;exact zF (List.all_eq_true.mp h x hx)⟩
 | _=>exact ⟨zF h,fun es' e=>nomatch e⟩
def b7:List D:=[.tup [.int 0,.int 2],.tup [.int 4,.int 2],.tup [.int 1,.int 7],.tup [.int 3,.int 4],.lst [.int 1,.int 1],.tup [.int 1,.bl true],.non]
def c5:List (List Int):=[[-1,0],[2,0],[0,-1],[1,3],[0,10 ^ Int.toNat 59]]
theorem CG:∀c∈c5,Pr c/\inB 0 2 3 c=false:=fun c hc=>by
 unfold c5 at hc
 simp only [L8,List.not_mem_nil,or_false] at hc
 rcases hc with rfl | rfl | rfl | rfl | rfl <;> exact ⟨⟨_,_,rfl⟩,by decide +kernel⟩
theorem CH:b7.all (fun d=>Fd d&&!fsOk d)=true:=by decide +kernel
section
variable {P:GD} {w:Hg} {K:FO} {mg:Str->Option FU} {base:Heap}
theorem CI {cN cO:Addr} (S:Src K mg "law" Cg) (T:Txt mg) (e5_:Has P w K mg base 1 "_law_pen" ["_law_script","_law_k"] (spP K EY)) (e0_:Has P w K mg base 1 "_law_draw" ["_law_pen_here","_law_many"] (spI K 0 jF)) (e16_:Has P w K mg base 2 "_law_rule" ["_law_pen_here","_law_least"] (spI K 0 zx)) (e24_:Has P w K mg base 2 "_law_size" ["_law_pen_here","_law_at"] (spI K 0 zz)) (e17_:Has P w K mg base 2 "_law_cells" ["_law_pen_here","_law_size_here"] (spI K 0 ui)) (e2_:Has P w K mg base 2 "_law_becomes" ["_law_code","_law_size_here","_law_other"] (spP K Ct))
  (e8_:Has P w K mg base 5 "father" ["rule","size","picture"] (spP K zC)) (e6_:Has P w K mg base 3 "_law_is_father" ["_law_code","_law_size_here","_law_live","_law_told"] (spP K Fb)) (e10_:Has P w K mg base 6 "_law_refused" ["_law_code","_law_size_here","_law_live"] (spP K (zD cN cO))):Has P w K mg base 7 "law" ["_law_script"] (spP K xB):=by
 refine bD S dG (by walk_at "1") (by walk_at "L") fun f cdv A outer s H E hr=>⟨_,_,(ak (n5 (fun _ h=>bP (i:=1) dG.nd rfl (Gf rfl) h) (rm e5_ hr (aa (ae 0 (pv 0)) (aa af ai))))
  (ak (aH (i:=2) dG.nd rfl (Gf rfl) (bL e16_ hr (aa (ae 1 (pv 1)) (aa af ai))))
  (ak (cB Hv rfl (pS rfl T.range (aa af (aa (aM (pz rfl) Dc (by rfl) T.max_ AM (aa af (aa (aM (pA rfl) Dc (by rfl) T.min_ AN (aa (aM (fV (K:=K) rfl) fQ (by rfl) T.len_ dJ (aa (ae 0 (pv 0)) ai)) (aa af ai))) ai))) (aa af ai)))) (ay (au (i:=3) dG.nd rfl (Gf rfl) (Gf rfl))) (ak (n5 (fun _ h=>bP (i:=4) dG.nd rfl (Gf rfl) h) (rm e5_ hr (aa (ae 0 (pv 0)) (aa (ae 3 (pv 3)) ai))))
  (ak (aH (i:=5) dG.nd rfl (Gf rfl) (bL e24_ hr (aa (ae 4 (pv 4)) (aa (ae 3 (pv 3)) ai))))
  (ak (aH (i:=6) dG.nd rfl (Gf rfl) (bu e2_ hr (aa (ae 2 (pv 2)) (aa (ae 5 (pv 5)) (aa (xy e17_ hr (rm e5_ hr (aa (ae 0 (pv 0)) (aa (aB bf aE (ae 3 (pv 3)) af) ai))) (ae 5 (pv 5))) ai)))))
  (ak (aH (i:=7) dG.nd rfl (Gf rfl) (aI (nZ rfl (by rfl) T.list_ (aa (ae 6 (pv 6)) ai))))
  (wO (i:=8) dG.nd rfl (Gf rfl) (bu e8_ hr (aa (ae 2 (pv 2)) (aa (ae 5 (pv 5)) (aa (ae 7 (pv 7)) ai))))
  (BW (jr (fq (bZ (bS (bu e6_ hr (aa (ae 2 (pv 2)) (aa (ae 5 (pv 5)) (aa (ae 6 (pv 6)) (aa (ae 8 (pv 8)) ai))))))) (j4 (aT (rK (K:=K) rfl hr.units) n8 (ae 7 (pv 7)) (ae 6 (pv 6)) (aO _))))) (VSs.ps (K:=K) (aq (aD cy)))
  (nq (i:=8) rfl (pv 8) (aA (aa af (aa af ai)))
  (aq (bK (aT ef iw (ae 3 (pv 3)) af (aO _)) (ak (aH (i:=8) dG.nd rfl (Gf rfl) (bu e8_ hr (aa (ae 2 (pv 2)) (aa (ae 5 (pv 5)) (aa (ae 7 (pv 7)) ai)))))
  (aq (bK (bZ (bS (bu e6_ hr (aa (ae 2 (pv 2)) (aa (ae 5 (pv 5)) (aa (ae 6 (pv 6)) (aa (ae 8 (pv 8)) ai))))))) (aq (aD cy)) aW))) aW))))))))))
  (ak (aH (i:=9) dG.nd rfl (Gf rfl) (aF rfl (aI (aV (aa (aA (aa af (aa af ai))) (aa (aA (aa af (aa af ai))) (aa (aA (aa af (aa af ai))) (aa (aA (aa af (aa af ai))) (aa (aI (aV (aa af (aa af ai)))) (aa (aA (aa af (aa cy ai))) (aa Av ai))))))))) (bL e0_ hr (aa (ae 1 (pv 1)) (aa af ai))) (fun _ _=>rfl)))
  (ak (cB Hv rfl (bG rfl (aI (aV (aa (aA (aa af (aa af ai))) (aa (aA (aa af (aa af ai))) ai))))) (ay (au (i:=10) dG.nd rfl (Gf rfl) (Gf rfl))) (aq (bK (aT (rK (K:=K) rfl hr.units) n8 (bu e10_ hr (aa (ae 2 (pv 2)) (aa (ae 9 (pv 9)) (aa (aI (aV (aa (aG (ae 10 (pv 10))) ai))) ai)))) (aI (aV (aa cy (aa cy (aa cy ai))))) (aO _)) (aq (aD cy)) aW)))
  (ak (aH (i:=10) dG.nd rfl (Gf rfl) (aF rfl (aI (aV (aa (aA (aa (cI bI af) (aa af ai))) (aa (aA (aa af (aa af ai))) (aa (aA (aa af (aa (cI bI af) ai))) (aa (aA (aa af (aa af ai))) (aa (aA (aa af (aa (aB mH bR af af) ai))) ai))))))) (bL e0_ hr (aa (ae 1 (pv 1)) (aa af ai))) (fun _ _=>rfl)))
  (aq (aD (eE (rJ (K:=K) rfl hr.units) n8 (bu e10_ hr (aa (ae 2 (pv 2)) (aa (aA (aa af (aa af ai))) (aa (aI (aV (aa (aG (ae 10 (pv 10))) ai))) ai)))) (aI (aV (aa cy (aa cy (aa cy ai))))) (aO _)))))))))),?_⟩
 rintro ds R ⟨ns,rfl,hn,q⟩
 walk_at "sl"
 walk_at "rd"
 refine ⟨ns,0,rfl,by lia,fun x y=>⟨_,rfl,rfl,?_⟩⟩
 refine j6 (ns:=[x,y,0]) rfl ?_
 walk_at "rd"
 refine ⟨0,rfl,⟨x,y,0,rfl,by lia,by lia⟩,by lia,fun k bo sy pn0 hk hp0=>?_⟩
 walk_at "rd"
 rw [FV]
 refine vM (xs:=FY _) (en:=fun (i:Nat)=>D.int (1+(i:Int)*2)) (fun S=>∃v3 v4 v5 v6 v7 v8 v9 v10,S=[.val (.lst (ns.map .int)),.pen none pn0,.val (rl k bo sy),v3,v4,v5,v6,v7,v8,v9,v10]) ⟨_,_,_,_,_,_,_,_,rfl⟩ ?_ ?_
 ·rintro i hi S ⟨v3,v4,v5,v6,v7,v8,v9,v10,rfl⟩ nx hnx
  have hi':i < 20:=by
   have h:=List.mem_range.mp hi
   revert h
   unfold Gp
   rw [if_pos (by decide)]
   split <;> split <;> split <;> lia
  have e1:(1+(i:Int)*2)=((1+2*i:Nat):Int):=by lia
  rw [e1]
  walk_at "rd"
  refine ⟨ns,1+2*i,rfl,by lia,fun x1 y1=>⟨_,rfl,rfl,?_⟩⟩
  refine j6 (ns:=[x1,y1,0]) rfl ?_
  walk_at "rd"
  refine ⟨0,((1+2*i:Nat):Int),rfl,⟨x1,y1,0,rfl,by lia,by lia⟩,by lia,fun w h pn1 hf h1=>?_⟩
  obtain ⟨⟨w1,w2⟩,hh1,hh2⟩:=xP hf
  obtain ⟨w,rfl⟩:∃n:Nat,w=n:=⟨w.toNat,by lia⟩
  obtain ⟨h,rfl⟩:∃n:Nat,h=n:=⟨h.toNat,by lia⟩
  walk_at "rd"
  refine ⟨ns,1+2*i+1,rfl,by lia,fun x2 y2=>⟨_,rfl,rfl,?_⟩⟩
  walk_at "rd"
  refine tX (ns:=[x2,y2,0]) rfl ?_
  refine ⟨0,w,h,rfl,hf,⟨x2,y2,0,rfl,by lia,by lia⟩,by lia,fun ys pm1 hrow hly hm1=>?_⟩
  walk_at "rd"
  refine ⟨k,bo,sy,w,h,ys,rfl,hk,hf,by lia,?_⟩
  walk_at "rd"
  have bx:Bx w h (bec k bo sy (w:Int) (h:Int) ys):=nF (by lia) (by lia)
  obtain ⟨g0,N0⟩:=Fc (k:=k) (bo:=bo) (sy:=sy) (w:=w) (h:=h) hk (by lia) (by lia) hrow
  have hbe:∀g,Nb (am k bo sy) w h (wnt (bec k bo sy (w:Int) (h:Int) ys)) g->Ri (w:Int) (h:Int) (told h g)/\bec k bo sy (w:Int) (h:Int) (told h g)=bec k bo sy (w:Int) (h:Int) ys:=fun g hg=>⟨x8 (by lia) (by lia) hg.1,uD hk (by lia) (by lia) hg⟩
  have hin:∀p∈bec k bo sy (w:Int) (h:Int) ys,Pr p/\inB 0 w h p=true:=fun p hp=>by
   obtain ⟨x,y,rfl,hx,hy,_⟩:=gY.mp hp
   refine ⟨⟨_,_,rfl⟩,?_⟩
   simp only [inB,GC,decide_eq_true_eq]
   lia
  have hlen:(bec k bo sy (w:Int) (h:Int) ys).length<=18:=by
   have:=xZ (k:=k) (bo:=bo) (sy:=sy) (ks:=ys) (w:=w) (h:=h) (by lia) (by lia)
   exact this
  generalize bec k bo sy (w:Int) (h:Int) ys=xs at bx N0 hbe hin hlen ⊢
  refine rX (ds:=xs.map eT) rfl (fR _) ?_
  walk_at "rd"
  refine ⟨by show 8 < 11;lia,?_⟩
  show vFn _ _ [.val (.lst (ns.map .int)),lendF (.pen none pn0),.val (rl k bo sy),.val (.int ((1+2*i:Nat):Int)),lendF (.pen none pn1),.val (eT [(w:Int),(h:Int)]),.val (eL xs),.val (eL xs),lendF v8,lendF v9,lendF v10] _
  walk_at "rd"
  refine ⟨k,bo,sy,w,h,xs,g0,rfl,hk,hf,bx,hin,by lia,N0,fun g hg=>?_⟩
  obtain ⟨ri,be⟩:=hbe g hg
  change (fun d=>_) (D.tup [.str "father",eL (told h g)])
  have hl:=ri.len
  refine ⟨rfl,_,rfl,?_⟩
  dsimp only [GW,Hi]
  refine ⟨?_,.str "father",(told h g).map eT,[],rfl,by rw [FV];lia,?_,?_⟩
  ·show vOr _ _ [.val (.lst (ns.map .int)),iQ (.pen none pn0),.val (rl k bo sy),.val (.int ((1+2*i:Nat):Int)),iQ (.pen none pn1),.val (eT [(w:Int),(h:Int)]),.val (eL xs),.val (eL xs),.val (.tup [.str "father",eL (told h g)]),iQ v9,iQ v10] _
   walk_at "rc"
   refine ⟨k,bo,sy,w,h,xs,told h g,rfl,hk,hf,ri,?_⟩
   rw [decide_eq_true be]
   walk_at "rc"
   refine yC rM (x:=xs) (y:=xs) rfl ?_
   walk_at "rc"
   rfl
  ·show Az _ [_,_,_,_,_,_,_,_,_,_,_] _
   walk_at "rd"
   trivial
  ·walk_at "rd"
   refine cC (fun c1=>?_) (fun c1=>?_)
   ·walk_at "rd"
    refine ⟨k,bo,sy,w,h,xs,g0,rfl,hk,hf,bx,hin,by lia,N0,fun g' hg'=>?_⟩
    obtain ⟨ri',be'⟩:=hbe g' hg'
    rw [show (srt (cellsOf ((FY (h+2)).map g'))).map (mv (-1) (-1))=told h g' from rfl]
    walk_at "rd"
    refine ⟨k,bo,sy,w,h,xs,told h g',rfl,hk,hf,ri',?_⟩
    rw [decide_eq_true be']
    walk_at "rc"
    exact hnx _ ⟨_,_,_,_,_,_,_,_,rfl⟩
   ·walk_at "rd"
    exact hnx _ ⟨_,_,_,_,_,_,_,_,rfl⟩
 ·rintro S ⟨v3,v4,v5,v6,v7,v8,v9,v10,rfl⟩
  walk_at "rd"
  refine ⟨0+30,7,rfl,hp0,by lia,by lia,by lia,fun pn1 r h1 r0 r1=>?_⟩
  walk_at "rd"
  obtain ⟨d,hd,_,ed⟩:=fX (f:=id) (l:=b7) r0 r1
  rw [MP] at ed
  have hb:=List.all_eq_true.mp CH d hd
  simp only [GC,Mp] at hb
  change atI b7 r=some d at ed
  refine cJ rfl rfl ed ?_
  walk_at "rd"
  refine dQ (fun _ S=>∃v10,S=[.val (.lst (ns.map .int)),.pen none pn1,.val (rl k bo sy),v3,v4,v5,v6,v7,v8,.val d,v10]) ⟨_,rfl⟩ ?_ ?_
  ·rintro i dd S2 e ⟨v10,rfl⟩
   have hdd:dd=eT [0,0]\/dd=eT [5,9]:=by simpa [eT] using He e
   rcases hdd with rfl | rfl
   all_goals
    walk_at "rd"
    refine .inl ⟨⟨_,_,_,rfl,.inl ⟨rfl,d,_,rfl,CF hb.1,hb.2⟩⟩,?_⟩
    walk_at "rd"
    refine yC (x:=[true,false,true]) (y:=[true,false,true]) uE rfl ?_
    walk_at "rc"
    exact ⟨_,rfl⟩
  ·rintro S2 ⟨v10,rfl⟩
   walk_at "rd"
   refine ⟨0+30+1,5,rfl,h1,by lia,by lia,by lia,fun pn2 r2 h2 r20 r21=>?_⟩
   walk_at "rd"
   obtain ⟨c,hc,_,ec⟩:=fX (f:=eT) (l:=c5) r20 r21
   obtain ⟨hp,hi⟩:=CG c hc
   refine cJ rfl rfl ec ?_
   walk_at "rd"
   refine .inr ⟨⟨_,_,_,rfl,.inr ⟨rfl,2,3,[c],rfl,by decide +kernel,fun p z=>by rw [List.mem_singleton.mp z];exact hp,by simp,c,by simp,hi⟩⟩,?_⟩
   walk_at "rd"
   refine yt (x:=[false,true,true]) (y:=[false,true,true]) uE ?_
   rw [decide_eq_true rfl]
   walk_at "rc"
   exact q
end
end My
namespace My
open PySem L2 VL
theorem CJ {l:Le} {w:Hg} {h:Heap} {mg:Str->Option FU} {fa:Addr} {a_OFFSETS:Addr} {t_MOST_COLUMNS:Tok}  {t_MOST_ROWS:Tok}  {t_MOST_CELLS:Tok} {c_NoSize:Addr}  {c_Outside:Addr}  {c_CellError:Addr} (X:K.In h) (G:h.Ns Gv mg) (hfa:mg "law"=some (.ref fa))
  (S0:Src K mg "_law_pen" t4) (S1:Src K mg "_law_draw" nA) (S2:Src K mg "is_whole" iU) (S3:Src K mg "is_pair" kH) (S4:Src K mg "is_father_size" dm) (S5:Src K mg "is_within" gu) (S6:Src K mg "offsets" iV) (S7:Src K mg "comes" nv) (S8:Src K mg "comes_amid" dU) (S9:Src K mg "refuse_no_child" bA) (S10:Src K mg "refuse_no_child" bA) (S11:Src K mg "centres" eM) (S12:Src K mg "rows_below" cX) (S13:Src K mg "rows_of" gQ) (S14:Src K mg "picture_of" dR) (S15:Src K mg "moved" kI) (S16:Src K mg "thirds" kK) (S17:Src K mg "all_pairs" e6) (S18:Src K mg "pairs_by_row" eN) (S19:Src K mg "rows_back" gv) (S20:Src K mg "father" e7) (S21:Src K mg "father" e7) (S22:Src K mg "_law_rule" iY) (S23:Src K mg "_law_near" nB) (S24:Src K mg "_law_lives" gS) (S25:Src K mg "_law_whole" kM) (S26:Src K mg "_law_refused" gw) (S27:Src K mg "_law_size" nE) (S28:Src K mg "_law_cells" gT) (S29:Src K mg "_law_becomes" fc) (S30:Src K mg "_law_is_father" fD) (S31:Src K mg "law" Cg)
  (n_OFFSETS:GH K Gv "OFFSETS"=some (some (.ref a_OFFSETS))) (k_OFFSETS:okD K a_OFFSETS rows=true) (i_MOST_COLUMNS:GH K Gv "MOST_COLUMNS"=some (some (.int 3 t_MOST_COLUMNS)))  (i_MOST_ROWS:GH K Gv "MOST_ROWS"=some (some (.int 6 t_MOST_ROWS)))  (i_MOST_CELLS:GH K Gv "MOST_CELLS"=some (some (.int 9 t_MOST_CELLS))) (h_NoSize:GH K Gv "NoSize"=some (some (.ref c_NoSize)))  (h_Outside:GH K Gv "Outside"=some (some (.ref c_Outside)))  (h_CellError:GH K Gv "CellError"=some (some (.ref c_CellError))) (y0:GH K Gv "ValueError"=some none) (y1:KQ K c_NoSize [.type "ValueError",.type "Exception",.type "BaseException",.type "object"] "ValueError.__new__"=true) (y2:KQ K c_Outside [.type "ValueError",.type "Exception",.type "BaseException",.type "object"] "ValueError.__new__"=true) (y3:Kr K (.ref c_NoSize) (.ref c_CellError)=some true) (y4:dY K c_NoSize=true) (y5:Ha K (.ref c_NoSize) (.ref c_NoSize)=some true) (y6:Ha K (.ref c_NoSize) (.ref c_Outside)=some false) (y7:Ha K (.ref c_NoSize) (.type "ValueError")=some true) (y8:Kr K (.ref c_Outside) (.ref c_CellError)=some true) (y9:dY K c_Outside=true) (y10:Ha K (.ref c_Outside) (.ref c_NoSize)=some false) (y11:Ha K (.ref c_Outside) (.ref c_Outside)=some true) (y12:Ha K (.ref c_Outside) (.type "ValueError")=some true)
  (z0:GH K Gv "len"=some none) (z1:GH K Gv "range"=some none) (z2:GH K Gv "abs"=some none) (z3:GH K Gv "isinstance"=some none) (z4:GH K Gv "int"=some none) (z5:GH K Gv "bool"=some none) (z6:GH K Gv "list"=some none) (z7:GH K Gv "tuple"=some none) (z8:GH K Gv "sorted"=some none) (z9:GH K Gv "max"=some none) (z10:GH K Gv "min"=some none) (z11:GH K Gv "all"=some none) (z12:GH K Gv "any"=some none) (z13:GH K Gv "set"=some none) (z14:GH K Gv "sum"=some none) (z15:GH K Gv "str"=some none) (z16:GH K Gv "dict"=some none) (z17:GH K Gv "zip"=some none) (z18:GH K Gv "enumerate"=some none) (z19:GH K Gv "reversed"=some none) :
  ∃fd:IB,(∀(s:FW) (v:FU),Mg s fd ⟨[v],[]⟩ [("_law_script",v)])/\∀base:Heap,K.In base->base.Ns Gv mg->gH l.prog w K mg base CX0 7 fa fd ["_law_script"] (spP K xB):=by
 have no:=fun {n:Str} (z:GH K Gv n=some none)=>PySem.W.mg_none_of X G z
 have T:Txt mg:=⟨no z0,no z1,no z2,no z3,no z4,no z5,no z6,no z7,no z8,no z9,no z10,no z11,no z12,no z13,no z14,no z15,no z16,no z17,no z18,no z19⟩
 refine uU S31 hfa (fun _ _ _ _ _ _ _=>rfl) fun base=>?_
 have e5_:=Ci (P:=l.prog) (w:=w) (base:=base) S0 T
 have e0_:=xC (P:=l.prog) (w:=w) (base:=base) S1 T
 have e9_:=E3 (P:=l.prog) (w:=w) (base:=base) S2 T
 have e22_:=xF (P:=l.prog) (w:=w) (base:=base) S3 T e9_
 have e3_:=E4 (P:=l.prog) (w:=w) (base:=base) S4 T e22_ (Ib X G i_MOST_COLUMNS) (Ib X G i_MOST_ROWS) (Ib X G i_MOST_CELLS)
 have e4_:=qr (P:=l.prog) (w:=w) (base:=base) S5 T
 have e26_:=Cm (P:=l.prog) (w:=w) (base:=base) S6 T  (Ib X G n_OFFSETS) k_OFFSETS
 have e1_:=ud (P:=l.prog) (w:=w) (base:=base) S7 T
 have e27_:=xE (P:=l.prog) (w:=w) (base:=base) S8 T e26_ e1_
 have e11_:=Co (P:=l.prog) (w:=w) (base:=base) S9 T e3_ e4_
 have e29_:=xG (P:=l.prog) (w:=w) (base:=base) S10 T e3_ e4_ (Ib X G h_NoSize) (Ib X G h_Outside) y1 y2
 have e15_:=xM (P:=l.prog) (w:=w) (base:=base) S11 T e27_
 have e14_:=Cr (P:=l.prog) (w:=w) (base:=base) S12 T
 have e23_:=xR (P:=l.prog) (w:=w) (base:=base) S13 T
 have e12_:=uu (P:=l.prog) (w:=w) (base:=base) S14 T
 have e19_:=uv (P:=l.prog) (w:=w) (base:=base) S15 T
 have e13_:=uy (P:=l.prog) (w:=w) (base:=base) S16 T e14_
 have e28_:=xT (P:=l.prog) (w:=w) (base:=base) S17 T
 have e18_:=Cz (P:=l.prog) (w:=w) (base:=base) S18 T e15_ e28_ e23_ e13_
 have e20_:=xU (P:=l.prog) (w:=w) (base:=base) S19 T
 have e30_:=uz (P:=l.prog) (w:=w) (base:=base) S20 T e29_
 have e8_:=xW (P:=l.prog) (w:=w) (base:=base) S21 T e11_ e18_ e20_ e12_ e19_
 have e16_:=xN (P:=l.prog) (w:=w) (base:=base) S22 T e0_
 have e25_:=xO (P:=l.prog) (w:=w) (base:=base) S23 T
 have e21_:=uh (P:=l.prog) (w:=w) (base:=base) S24 T
 have e7_:=uB (P:=l.prog) (w:=w) (base:=base) S25 T
 have e10_:=xX (P:=l.prog) (w:=w) (base:=base) S26 T e30_ (Ib X G h_CellError) (no y0) (Ib X G h_NoSize) (Ib X G h_Outside) y3 y4 y5 y6 y7 y8 y9 y10 y11 y12
 have e24_:=xQ (P:=l.prog) (w:=w) (base:=base) S27 T e0_
 have e17_:=uj (P:=l.prog) (w:=w) (base:=base) S28 T e0_
 have e2_:=Cu (P:=l.prog) (w:=w) (base:=base) S29 T e25_ e21_
 have e6_:=CA (P:=l.prog) (w:=w) (base:=base) S30 T e7_ e2_
 exact CI (P:=l.prog) (w:=w) (base:=base) S31 T e5_ e0_ e16_ e24_ e17_ e2_ e8_ e6_ e10_
theorem walk {l:Le} {q:GD} {loose:List Str} {XP:(Str->Option FU)->Heap->Prop} {YP:Hg->Heap->Prop} {d:DefRec} {K:Params->FO} (hn:l.most=some 63) (hdf:d.params.defaults=[])
  (hY:∀(w:Hg) (h:Heap),YP w h->(K w.params).In h)
  (F:∀(w:Hg) (mg:Str->Option FU) (fa:Addr) (h:Heap),(K w.params).In h->h.Ns Gv mg->mg d.name=some (.ref fa) ->
   ∃fd:IB,(∀(s:FW) (u:FU),Mg s fd ⟨[u],[]⟩ [("_law_script",u)])/\∀base:Heap,(K w.params).In base->base.Ns Gv mg->gH l.prog w (K w.params) mg base CX0 7 fa fd ["_law_script"] (spP (K w.params) xB)) :
  PySem.W.WalkO q loose XP YP l.row.toRowW d [] (fun f vs=>MX f vs):=
 L2.uT (n:=63) (k:=7) (x:="_law_script") (CX:=fun _=>CX0) (sp:=fun w=>spP (K w.params) xB) hn (by decide) hdf ⟨rfl,by decide,by decide,rfl⟩ hY F
  (fun _ _ a ns hl _ hS=>⟨_,fun d=>d=.bl true,.cons (Rep.of_sqL hS trivial (fun _=>trivial) Reps.ints) .nil,⟨ns,rfl,hl,rfl⟩,fun d v H' e _ r=>by subst e;cases r;rfl⟩) fun _ _ _ _ _ z=>z
end My
def PySem.W.Fast.tw952090984106020264:Unit:=()
def PySem.W.Fast.tw14551890595606082326:Unit:=()
def PySem.W.Fast.tw8155366239956273261:Unit:=()
def PySem.W.Fast.tw2137296388981040173:Unit:=()
def PySem.W.Fast.tw3632526702645855370:Unit:=()
def PySem.W.Fast.tw13938659008550176265:Unit:=()
def PySem.W.Fast.tw17553689683850686747:Unit:=()
def PySem.W.Fast.tw11548802611977762192:Unit:=()
def PySem.W.Fast.tw9313707240362100057:Unit:=()
def PySem.W.Fast.tw18225725494116813534:Unit:=()
def PySem.W.Fast.tw1044915552888605654:Unit:=()
def PySem.W.Fast.tw5197905931861888145:Unit:=()
def PySem.W.Fast.tw2166636431708501495:Unit:=()
def PySem.W.Fast.tw10090990731403799671:Unit:=()
def PySem.W.Fast.tw3378972155219839712:Unit:=()
def PySem.W.Fast.tw1527941700443958672:Unit:=()
def PySem.W.Fast.tw11036693968185429569:Unit:=()
def PySem.W.Fast.tw16923100025904365362:Unit:=()
def PySem.W.Fast.tw197672468365004740:Unit:=()
def PySem.W.Fast.tw6785719089584968502:Unit:=()
def PySem.W.Fast.tw5622554670676610178:Unit:=()
def PySem.W.Fast.tw3131431424399427715:Unit:=()
def PySem.W.Fast.tw10934235678677121387:Unit:=()
def PySem.W.Fast.tw8901615991296177492:Unit:=()
def PySem.W.Fast.tw10473609684008075619:Unit:=()
def PySem.W.Fast.tw1005747363568105021:Unit:=()
def PySem.W.Fast.tw16165036401319949817:Unit:=()
def PySem.W.Fast.tw2083978319061526708:Unit:=()
def PySem.W.Fast.tw5566800514291842239:Unit:=()
def PySem.W.Fast.tw15044222566293435923:Unit:=()
def PySem.W.Fast.tw13853775259770016140:Unit:=()
def PySem.W.Fast.tw8005505873549288698:Unit:=()
def PySem.W.Fast.tw13942288782626069048:Unit:=()
def PySem.W.Fast.tw13562751373597588856:Unit:=()
def PySem.W.Fast.tw6592345319750279676:Unit:=()
def PySem.W.Fast.tw7901398683786678391:Unit:=()
open PySem PySem.W PyProof.Rows
set_option maxRecDepth 100000 in
set_option maxHeartbeats 0 in
theorem PySem.Challenge.cw_cellships_k48_a_father_told_holds : PySem.Challenge.rw_cellships_k48_a_father_told.Holds := by
 w_on;o_law;k_head;(case hw=>w_witness2)
 k_fill
 refine My.walk (l:=PySem.Challenge.rw_cellships_k48_a_father_told) rfl rfl (fun w h Y=>PySem.W.kIn_of Y) ?F
 case F=>
  intro w mg fa h KX G hmg
  refine' My.CJ KX G hmg (L2.aP KX G ?a0 ?l0 ?c0 ?k0) (L2.aP KX G ?a1 ?l1 ?c1 ?k1) (L2.aP KX G ?a2 ?l2 ?c2 ?k2) (L2.aP KX G ?a3 ?l3 ?c3 ?k3) (L2.aP KX G ?a4 ?l4 ?c4 ?k4) (L2.aP KX G ?a5 ?l5 ?c5 ?k5) (L2.aP KX G ?a6 ?l6 ?c6 ?k6) (L2.aP KX G ?a7 ?l7 ?c7 ?k7) (L2.aP KX G ?a8 ?l8 ?c8 ?k8) (L2.aP KX G ?a9 ?l9 ?c9 ?k9) (L2.aP KX G ?a10 ?l10 ?c10 ?k10) (L2.aP KX G ?a11 ?l11 ?c11 ?k11) (L2.aP KX G ?a12 ?l12 ?c12 ?k12) (L2.aP KX G ?a13 ?l13 ?c13 ?k13) (L2.aP KX G ?a14 ?l14 ?c14 ?k14) (L2.aP KX G ?a15 ?l15 ?c15 ?k15) (L2.aP KX G ?a16 ?l16 ?c16 ?k16) (L2.aP KX G ?a17 ?l17 ?c17 ?k17) (L2.aP KX G ?a18 ?l18 ?c18 ?k18) (L2.aP KX G ?a19 ?l19 ?c19 ?k19) (L2.aP KX G ?a20 ?l20 ?c20 ?k20) (L2.aP KX G ?a21 ?l21 ?c21 ?k21) (L2.aP KX G ?a22 ?l22 ?c22 ?k22) (L2.aP KX G ?a23 ?l23 ?c23 ?k23) (L2.aP KX G ?a24 ?l24 ?c24 ?k24) (L2.aP KX G ?a25 ?l25 ?c25 ?k25) (L2.aP KX G ?a26 ?l26 ?c26 ?k26) (L2.aP KX G ?a27 ?l27 ?c27 ?k27) (L2.aP KX G ?a28 ?l28 ?c28 ?k28) (L2.aP KX G ?a29 ?l29 ?c29 ?k29) (L2.aP KX G ?a30 ?l30 ?c30 ?k30) (L2.aP KX G ?a31 ?l31 ?c31 ?k31) ?n0 ?m0 ?i0 ?i1 ?i2 ?h0 ?h1 ?h2 ?y0 ?y1 ?y2 ?y3 ?y4 ?y5 ?y6 ?y7 ?y8 ?y9 ?y10 ?y11 ?y12 ?z0 ?z1 ?z2 ?z3 ?z4 ?z5 ?z6 ?z7 ?z8 ?z9 ?z10 ?z11 ?z12 ?z13 ?z14 ?z15 ?z16 ?z17 ?z18 ?z19
  (case a0 | l0 | c0 | k0 | a1 | l1 | c1 | k1 | a2 | l2 | c2 | k2 | a3 | l3 | c3 | k3 | a4 | l4 | c4 | k4 | a5 | l5 | c5 | k5 | a6 | l6 | c6 | k6 | a7 | l7 | c7 | k7 | a8 | l8 | c8 | k8 | a9 | l9 | c9 | k9 | a10 | l10 | c10 | k10 | a11 | l11 | c11 | k11 | a12 | l12 | c12 | k12 | a13 | l13 | c13 | k13 | a14 | l14 | c14 | k14 | a15 | l15 | c15 | k15 | a16 | l16 | c16 | k16 | a17 | l17 | c17 | k17 | a18 | l18 | c18 | k18 | a19 | l19 | c19 | k19 | a20 | l20 | c20 | k20 | a21 | l21 | c21 | k21 | a22 | l22 | c22 | k22 | a23 | l23 | c23 | k23 | a24 | l24 | c24 | k24 | a25 | l25 | c25 | k25 | a26 | l26 | c26 | k26 | a27 | l27 | c27 | k27 | a28 | l28 | c28 | k28 | a29 | l29 | c29 | k29 | a30 | l30 | c30 | k30 | a31 | l31 | c31 | k31 | n0=>k_is)
  (case m0=>kernel_rfl)
  (case i0 | i1 | i2 | h0 | h1 | h2=>k_is)
  (case y0 | y1 | y2 | y3 | y4 | y5 | y6 | y7 | y8 | y9 | y10 | y11 | y12=>first | kernel_rfl | k_is)
  (case z0 | z1 | z2 | z3 | z4 | z5 | z6 | z7 | z8 | z9 | z10 | z11 | z12 | z13 | z14 | z15 | z16 | z17 | z18 | z19=>k_is)
#print axioms PySem.Challenge.cw_cellships_k48_a_father_told_holds
