import PyProof.Rows.All
import Wide.All
import OpenK.AllK
import Wide.FinOn
import Lean
import PyProof.EqAt
import PyProof.EqKinds
import PyProof.TupleCall
import PyProof.P3In
import KE.KDictLaws
import PyProof.Rows.SetFrom
import KE.KRevSl
import KE.KIntText
import KE.KLcPair
import KE.KIsAll
import PyProof.ExcArgsOwn
import PyProof.ExcAttrAll.ValueError
import PyProof.NsDelKeeps
import PyProof.Rows.CountFlat
import KE.RegKIsAll
import PyProof.WalksMore
import PyProof.FString5
import KE.KListMore
import PyProof.ZipIter
import PyProof.FString
import PyProof.StrLawsReplace
import PyProof.MinMaxWalk
import PyProof.WalkInts
import PyProof.Rows.MinMaxN
import PyProof.Rows.CallKwBuiltin
import KE.KMinKey
import KE.KSortKey
import KE.KSortTup
import PyProof.DictValues
import PyProof.DictWalks
import KE.KDictOf
import KE.KEqDict
import PyProof.NeKinds
import PyProof.NeData
import PyProof.TupleKey
import PyProof.Rows.SumAny
import PyProof.InstStoreFacts
import PySem.Challenge.RW_mailroom_k61_rows_of_no_form
set_option linter.all false
set_option bootstrap.genMatcherCode false
set_option genSizeOf false
local macro_rules|`(∅)=>`(by decide +kernel)
local macro_rules|`(⋯)=>`(by omega)
local macro_rules|`(def $i $s:optDeclSig $v:declVal)=>`(noncomputable def $i $s:optDeclSig $v:declVal)
abbrev U:=@rfl
open PySem.W(Frag findIn isFn keepIn plainGet hasDictIn plainOver makesIn excIn view recOk openGood instObj methodObj hideAll hideAll_get of_hideAll lookIn handedIn plainGet_of takerIn Looks typeIn emptyDict looks_findIn kitOne kia_one kitx_list kitx_dict callWith_K methodCall_KW callWith_K0 cellsFrom_some fnOf codeIn codeRec_of kdl_dict KdlSrc mg_of)
open Sum(inl)
open PyProof.Rows(slot_tuple_getitem le_int boot_max callWith_kw kws_cons kws_nil boot_sorted envOfC boot_isinstance boot_str boot_set boot_list boot_all lo1 boot_int boot_bool boot_tuple)
open PySem.F(slot_dict_pop slot_dict_get plainAttrs_dict slot_set_iter entry_max_loop plain_max_loop excBase_ValueError plainAttrs_list plainAttrs_str)
def qk:=@PySem.wpAny_bind
def ql:=@List.length_map
def qq:=@PySem.wpAny_pure
def qr:=@PySem.Heap.get?_push_of_some
def qt:=@List.mem_singleton
def qv:=@List.getElem?_eq_getElem
def qw:=@List.mem_map
def qx:=@decide_eq_true
def qy:=@List.mem_append_right
def qz:=@Nat.le_refl
def qA:=@List.length_append
def qB:=@List.mem_cons_self
def qC:=@List.mem_cons
def qD:=@decide_eq_false
def qE:=@List.map_append
def qF:=@List.mem_append
def qG:=@Bool.and_eq_true
def qH:=@of_decide_eq_true
def qI:=@PySem.Heap.get?_push_size
def qJ:=@if_neg
def qK:=@List.mem_cons_of_mem
def qM:=@PySem.Heap.lt_size
def qO:=@Bool.false_ne_true
def qP:=@if_pos
def qQ:=@List.getElem?_map
def qR:=@Nat.ne_of_lt
def qS:=@List.mem_append_left
def qT:=@Nat.le_of_ble_eq_true
def qU:=@Nat.lt_of_lt_of_le
def qV:=@List.size_toArray
def qW:=@Option.some.inj
def qX:=@List.mem_filter
def qY:=@List.length_singleton
def qZ:=@List.getD_eq_getElem?_getD
def za:=@Nat.zero_le
def zb:=@Nat.le_trans
def zc:=@List.length_cons
def ze:=@Array.length_toList
def zf:=@List.map_cons
def zg:=@List.map_map
def zh:=@List.length_filter_le
def zi:=@List.all_eq_true
def zk:=@List.filter_cons
def zl:=@Bool.false_eq_true
def zm:=@List.getElem?_eq_some_iff
def zp:=@List.cons_ne_nil
def zr:=@PySem.wpAny_newObj_type
def zt:=@congrArg
def zu:=@List.getElem_mem
def zv:=@List.mem_of_getElem?
def zw:=@Array.getElem?_toList
def zx:=@PySem.boot_len
def zy:=@PySem.wpAny_mono
def zz:=@List.filter_append
def zA:=@PySem.wpAny_call_entry
def zB:=@PySem.Heap.SameBut.update
def zC:=@decide_eq_true_eq
def zD:=@List.append_nil
def zE:=@Int.emod_lt_of_pos
def zF:=@List.lookup_cons
def zG:=@PySem.Heap.get?_update_other
def zH:=@PySem.wpAny_holding
def zI:=@PySem.wpAny_truthy_bool
def zJ:=@PySem.PassesOwn.never
def zK:=@PySem.mem_of_lookup
def zL:=@PySem.Heap.get?_update_self
def zM:=@Array.getElem?_eq_getElem
def zO:=@List.not_mem_nil
def zP:=@Int.emod_nonneg
def zQ:=@Nat.lt_irrefl
def zR:=@List.take_add_one
def zS:=@List.length_range
def zT:=@Nat.lt_succ_of_lt
def zU:=@PySem.wpAny_callSpecial?_slot
def zV:=@List.nodup_cons
def zW:=@PySem.Around.under_plainId
def zX:=@Bool.and_false
def zY:=@List.length_take
def zZ:=@List.filter_eq_self
def z0:=@Bool.not_eq_true'
def z1:=@PySem.strLen_append
def z6:=@List.nodup_nil
def z7:=@PySem.F.called_set
def z8:=@beq_self_eq_true
def ja:=@List.take_of_length_le
def jb:=@PySem.Calls.spliced_cons
def jc:=@PySem.Obj.data_mapFields
def jd:=@PySem.codeAny_builtin
def je:=@PySem.F.slot_list_append
def jf:=@PySem.F.type_list_append
def jh:=@Nat.lt_of_le_of_lt
def ji:=@List.pairwise_cons
def jm:=@beq_eq_false_iff_ne
def jn:=@List.filter_sublist
def jo:=@List.find?_cons
def jq:=@List.length_nil
def jr:=@PySem.Heap.size_push
def js:=@PySem.codeAny_mono
def jt:=@PySem.Calls.callWith_builtin
def ju:=@PySem.sizeLine_eq
def jv:=@List.cons.inj
def jw:=@Bool.false_and
def jx:=@if_false
def jy:=@Int.toNat_natCast
def jz:=@List.length_eq_zero_iff
def jA:=@bne_self_eq_false
def jB:=@List.filter_map
def jC:=@Nat.lt_of_succ_lt_succ
def jD:=@Sum.inr.inj
def jE:=@Nat.le_succ
def jF:=@Bool.true_and
def jG:=@List.length_drop
def jH:=@List.take_length
def jI:=@PySem.wpAny_ite_split
def jJ:=@PySem.F.slot_dict_keyiterator_next
def jK:=@List.mem_range
def jL:=@Ne.symm
def jM:=@List.concat_eq_append
def jN:=@PySem.plainId_quiet
def jP:=@PySem.wpAny_Call_Name_kw
def jQ:=@Array.toArray_toList
def jS:=@PySem.Calls.spliced_nil
def jT:=@PySem.Calls.evalArgs_plain
def jU:=@PySem.lookup_relabel_local
def jV:=@PySem.wpAny_setState_of
def jZ:=@Nat.ne_of_gt
def j0:=@beq_iff_eq
def j3:=@Option.map_eq_some_iff
def j4:=@Array.getElem?_eq_none
def j5:=@List.filter_eq_nil_iff
def j6:=@List.find?_cons_of_pos
def j7:=@List.find?_cons_of_neg
def j8:=@Int.natAbs_natCast
def j9:=@PySem.wpAny_setEntries_of
def ya:=@List.foldl_cons
def yb:=@PySem.wpAny_askSetting
def yc:=@PySem.wpAny_setField
def yd:=@or_false
def ye:=@Bool.not_true
def yf:=@and_assoc
def yg:=@List.getElem?_eq_none
def yh:=@List.nodup_append
def yi:=@PySem.wpAny_typeNameOfWhole_keyiter
def yj:=@PySem.wpAny_passesOwn
def yk:=@List.getElem?_append_right
def yl:=@Nat.le_of_lt
def yo:=@List.isEmpty_nil
def yp:=@PySem.Obj.isFreed_of_fields
def yq:=@Nat.log2_le_self
def yr:=@PySem.Heap.get?_push_ne
def yt:=@Classical.byContradiction
def yu:=@List.filterMap_cons
def yv:=@List.map_congr_left
def yA:=@Prod.mk.injEq
def yB:=@List.any_cons
def yC:=@PySem.wpAny_rule
def yF:=@Option.map_some
def yG:=@Bool.eq_iff_iff
def yH:=@List.find?_eq_none
def yI:=@List.pairwise_singleton
def yL:=@List.getElem?_set_self
def yM:=@if_true
def yN:=@List.map_nil
def yO:=@List.append_assoc
def yP:=@PySem.wpAny_attempt
def yQ:=@List.length_eq_one_iff
def yR:=@PySem.wpAny_typeNameOf_keyiter
def yV:=@PySem.tupleKind_room_in1
def yY:=@PySem.wpAny_getItem_str_slice
def yZ:=@Array.toList_map
def xb:=@PySem.wpAny_fieldsOf
def xc:=@PySem.wpAny_dictEntries
def xw:=@ne_true_of_eq_false
def xA:=@PyProof.Rows.callWith_type1
def xH:=@PySem.wpAny_newList
def xK:=@List.filter_filter
def xM:=@List.getElem_range
def xN:=@List.zip_cons_cons
def xO:=@List.take_zero
def xP:=@of_decide_eq_false
def xV:=@List.getElem?_append_left
def xW:=@List.mem_of_find?_eq_some
def xY:=@PySem.wpAny_updateSeq
def xZ:=@PySem.wpAny_dictEpoch
def kc:=@Option.isNone_iff_eq_none
def kx:=@List.filter_congr
def ky:=@Bool.eq_false_iff
def kC:=@PySem.call_meetsIn
def kL:=@PySem.Calls.Name_function_global
def kM:=@PySem.wpAny_call
def kO:=@PySem.typeIs_str
def kP:=@PySem.SeqAt.EqAt.str_str
def kQ:=@List.ext_getElem
def kR:=@List.getElem_map
def kT:=@PySem.isSubtype_type
def kW:=@PySem.wpAny_seqItems
def kX:=@PyProof.Rows.listUpdate_at
def kY:=@PySem.wpAny_tryCatch
def kZ:=@Int.eq_ofNat_of_zero_le
def vh:=@PySem.Calls.call_function_entry
def vm:=@List.of_mem_zip
def vn:=@PySem.wpAny_Call_method
def vo:=@List.range_succ
def vp:=@PySem.F.entry_str_split
def vq:=@PySem.F.plain_list_iadd
def vr:=@PySem.wpAny_pyIter_slot
def vu:=@PySem.Obj.cls_mapFields
def vv:=@beq_false_of_ne
def vx:=@PySem.wpAny_comprehension_free
def vy:=@List.take_append_drop
def vL:=@List.getElem?_set_ne
def vM:=@PySem.F.slot_str_split
def vN:=@Prod.mk.inj
def vO:=@PySem.wpAny_isInstance
def vP:=@PySem.Heap.size_update
def vQ:=@Bool.and_eq_true_iff
def vX:=@PySem.wpAny_typeOf
def vY:=@PySem.call_meets
def vZ:=@PySem.codeAny_compStart_list
def v5:=@List.toList_toArray
def wh:=@PySem.wpAny_execs_nil
def wj:=@List.all_cons
def wk:=@PySem.post_val_or_str
def wD:=@List.mem_filterMap
def wF:=@List.Nodup.sublist
def wG:=@Array.findIdx?_eq_some_iff_getElem
def wR:=@Option.some.injEq
def wU:=@Option.isSome_map
def wV:=@PySem.wpAny_newFunctionEnv
def wW:=@List.foldl_append
def wX:=@List.all_map
def wY:=@PySem.wpAny_runValue
def wZ:=@PySem.wpAny_of_eq
def w2:=@PySem.wpAny_letGo
def gw:=@PyProof.Rows.F.plain_set_update_loop
def gD:=@Nat.lt_succ_self
def gE:=@Option.getD_some
def gF:=@List.any_eq_true
def gG:=@Nat.not_lt_of_le
def gO:=@PySem.Paired.length
def gP:=@PyProof.Rows.size_push'
abbrev qg:=List PySem.Str
abbrev qh:=PySem.Value→PySem.Shared→Prop
abbrev qi:=List PySem.Value
abbrev qa:=@List
abbrev qc:=PySem.Str
abbrev qd:=PySem.Addr
abbrev qe:=PySem.Value
noncomputable section
set_option Elab.async false
set_option linter.all false
set_option maxRecDepth 100000
set_option maxHeartbeats 4000000
namespace L2
open PySem PySem.Spec PyProof.Rows
inductive V where
 |non|bl (b:Bool)|int (i:Int)|str (x:qc)|wc (b:Array UInt8)|flt (b:UInt64)|ref (a:qd)|ty (n:String)
 deriving DecidableEq
def Ry:qe->Option V
 |.none=>some .non
 |.bool b=>some (.bl b)
 |.int i _=>some (.int i)
 |.str x _=>some (.str x)
 |.bytes b _=>some (.wc b)
 |.float b _=>some (.flt b)
 |.ref a=>some (.ref a)
 |.type n=>some (.ty n)
 |_=>none
def P9(s:Stmt)(j:Nat):Stmt:=match s with
 |.ClassDef _ _ _ body _ _ _ _ _ _ _=>body.getD j (.Pass ⟨0,0,0,0⟩)
 |_=>.Pass ⟨0,0,0,0⟩
def Yi(s:Stmt):Arguments:=match s with
 |.FunctionDef _ a _ _ _ _ _ _ _ _=>a
 |_=>{posonlyargs:=[],args:=[],vararg:=none,kwonlyargs:=[],kw_defaults:=[],kwarg:=none,defaults:=[]}
def QO(s:Stmt):qa Stmt:=match s with
 |.FunctionDef _ _ b _ _ _ _ _ _ _=>b
 |_=>[]
def Qr(s:Stmt):Scope:=match s with
 |.FunctionDef _ _ _ _ _ _ sc _ _ _=>sc
 |_=>{kind:=.function,names:=[],isGenerator:=false,isCoroutine:=false}
abbrev NB:qi:=[.type "ValueError",.type "Exception",.type "BaseException",.type "object"]
end L2
namespace Hd
open PySem PySem.W PySem.Calls PyProof.Rows L2
noncomputable def xh(st:SharedT->Thread->Option (SharedT×Thread))(ok:Thread->Bool)(n:Nat):SharedT->Thread->Option SharedT:=
 @Nat.rec (λ_=>SharedT->Thread->Option SharedT) (λ_ _=>none) (λ_ a s t=>match through t with
  |true=>some s
  |false=>match ok t with
   |false=>none
   |true=>match st s t with
    |some (s',t')=>a s' t'
    |none=>none) n
theorem AB(st:SharedT->Thread->Option (SharedT×Thread))(ok:Thread->Bool)(n:Nat)(s:SharedT)(t:Thread):xh st ok (n+1) s t=(match through t with
 |true=>some s
 |false=>match ok t with
  |false=>none
  |true=>match st s t with
   |some (s',t')=>xh st ok n s' t'
   |none=>none):=rfl
def OE(t:BT)(n:Nat):qa Obj->BT
 |[]=>t
 |o::r=>OE (t.ins n o) (n+1) r
noncomputable def RY(P:Params):BT:=OE .nil 0 (boot_heap P).objs.toList
noncomputable def S0(w:World)(os:OsState):SharedT:=⟨RY w.params,11,{},#[],boot_drawn,boot_toks,os⟩
noncomputable def chk(p:Program)(P:Params)(s:Shared):Bool:=staticsOk (importedModules p.main.body) (boot_heap P) s.heap&&namesBound p s.heap&&gensDone s&&laidKept (boot_heap P) s.heap
noncomputable abbrev yE:(Code->Sem Fin)->Program->World->SharedT->Thread->Option (SharedT×Thread):=PySem.W.Fast.tw10156331382660048174
noncomputable abbrev xG:Code->Sem Fin:=PySem.W.Fast.tw11892475500146522536 PySem.W.Fast.tw14364793385576792824
noncomputable abbrev v9:Nat->Option qe->Thread->Bool:=PySem.W.Fast.tw6613529449190102663
noncomputable abbrev seenQ:=@PySem.W.Fast.tw4187177175401517315
def vc:qe->qe
 |.int n _=>.int n 0
 |.str x _=>.str x 0
 |v=>v
def HS(K:Frag):qe->Option (qi)
 |.none=>none
 |.ref D=>(match K.lookup D with
  |some ⟨_,_,.seq items _,_⟩=>some (items.toList.map vc)
  |_=>some [])
 |_=>some []
def yw:Option (Option qe)->qd
 |some (some (.ref f))=>f
 |_=>0
def see(K:Frag)(r:Option (Option qe))(q:qc):Option (FuncData×Option (qi))×Bool:=match r with
 |some (some (.ref f))=>(match K.lookup f with
  |some ⟨_,_,.func fd,_⟩=>(some ({fd with defaults:=.none,kwdefaults:=.none,doc:=.none,pyModule:=.none,annotations:=none,code:=.none,closureTuple:=.none},HS K fd.defaults),codeIn K fd.code q&&(keepIn K (.ref f)&&isFn K (.ref f)))
  |_=>(none,false))
 |_=>(none,false)
abbrev ku(x q:qc)(st:Stmt):FuncData:=fnOf x q (Yi st) (QO st) (Qr st) .none .none .none .none none .none .none
def bv:V->qe
 |.int n=>.int n 0
 |.str x=>.str x 0
 |.bl b=>.bool b
 |_=>.none
def flat:V->Bool
 |.int _|.str _|.bl _|.non=>true
 |_=>false
abbrev gl(K:Frag)(x:qc):Option (Option qe):=nsIn K mainGlobals x
abbrev cl(K:Frag)(x:qc):qd:=yw (gl K x)
def W8:qi->qg->Bool
 |[],[]=>true
 |.str x _::us,y::ys=>decide (x=y)&&W8 us ys
 |_,_=>false
def LI(o:Option Obj)(ys:qg):Bool:=match o with
 |some a=>decide (a.cls=.type "tuple")&&(match a.data with|.seq its _=>decide (its.size<=sizeLine)&&W8 its.toList ys|_=>false)
 |none=>false
def vz(K:Frag)(x:qc)(ys:qg):Bool:=decide (gl K x=some (some (.ref (yw (gl K x)))))&&LI (K.lookup (yw (gl K x))) ys
end Hd
namespace L2
open PySem PySem.Spec PyProof.Rows
abbrev Tb:=Option qc×Stmt×qa Nat
def v8(s:Stmt):qc:=match s with
 |.FunctionDef n _ _ _ _ _ _ _ _ _=>n
 |.ClassDef n _ _ _ _ _ _ _ _ _ _=>n
 |_=>""
def t0(s:Stmt)(p:qa Nat:=[]):Tb:=(none,s,p)
def t1(c:Stmt)(j:Nat)(p:qa Nat:=[]):Tb:=(some (v8 c),P9 c j,p)
def qN(t:Tb):qc:=match t.1 with
 |none=>v8 t.2.1
 |some c=>c++"."++v8 t.2.1
def rK(K:Frag)(t:Tb):Option (Option qe):=match t.1 with
 |none=>Hd.gl K (v8 t.2.1)
 |some c=>findIn K (.ref (Hd.cl K c)) (v8 t.2.1)
def lsO(b:qa Stmt):qg:=((b.filterMap λs=>match s with
 |.Assign [.Name x _] _ _=>if x="__name__" then none else some x
 |.FunctionDef n _ _ _ _ _ _ _ _ _=>if n="law" then none else some n
 |.ClassDef n _ _ _ _ _ _ _ _ _ _=>some n
 |_=>none)).eraseDups
def cvE(e:Expr):V:=match e with
 |.Constant (.str x) _ _=>.str x
 |.Constant (.int i) _ _=>.int i
 |.Constant (.bool b) _ _=>.bl b
 |_=>.non
def wy(s:Stmt):qa V:=(Yi s).defaults.map cvE
def uA(s:Stmt):Option (qi):=match wy s with
 |[]=>none
 |l=>some (l.map Hd.bv)
abbrev wu:=qa (Option (FuncData×Option (qi))×Bool)
def see(K:Frag)(l:qa Tb):wu:=l.map λt=>Hd.see K (rK K t) (qN t)
def Wo(l:qa Tb):wu:=l.map λt=>(some (Hd.ku (v8 t.2.1) (qN t) t.2.1,uA t.2.1),true)
end L2
namespace Hd
open PySem PySem.W PySem.Calls PyProof.Rows L2
noncomputable def CI(st:SharedT->Thread->Option (SharedT×Thread))(ok:Thread->Bool)(n:Nat):SharedT->Thread->Option (SharedT×Thread):=
 @Nat.rec (λ_=>SharedT->Thread->Option (SharedT×Thread)) (λs t=>some (s,t)) (λ_ a s t=>match through t with
  |true=>none
  |false=>match ok t with
   |false=>none
   |true=>match st s t with
    |some (s',t')=>a s' t'
    |none=>none) n
theorem Gb{st:SharedT->Thread->Option (SharedT×Thread)}{ok:Thread->Bool}{m:Nat}:∀(n:Nat){s:SharedT}{t:Thread}{s':SharedT}{t':Thread},CI st ok n s t=some (s',t')->xh st ok (m+n) s t=xh st ok m s' t'
 |0,_,_,_,_,h=>by cases h;rfl
 |n+1,s,t,s',t',h=>by
  have e:CI st ok (n+1) s t=(match through t with
   |true=>none
   |false=>match ok t with
    |false=>none
    |true=>match st s t with
     |some (s',t')=>CI st ok n s' t'
     |none=>none):=rfl
  rw[e] at h;show xh st ok (m+n+1) s t=_;rw[AB]
  cases a:through t with
  |true=>rw[a] at h;cases h
  |false=>
   rw[a] at h
   cases b:ok t with
   |false=>rw[b] at h;cases h
   |true=>
    rw[b] at h;dsimp only at h⊢
    cases c:st s t with
    |none=>rw[c] at h;cases h
    |some x=>
     obtain⟨d,f⟩:=x;rw[c] at h;exact Gb n h
def jX(ads:qa Nat)(s:SharedT):Frag:=ads.filterMap λa=>(match Nat.blt a s.n with|true=>alive ((s.tree.get a).getD default)|false=>none).map λo=>(a,o)
noncomputable def Mn(b:Bool)(p:Program)(w:World)(k:Nat):SharedT->Thread->Option (SharedT×Thread):=
 @Nat.rec (λ_=>SharedT->Thread->Option (SharedT×Thread)) (λs t=>some (s,t)) (λ_ a s t=>
  @Bool.rec (λ_=>Option (SharedT×Thread)) (@Bool.rec (λ_=>Option (SharedT×Thread)) none (@Option.rec (SharedT×Thread) (λ_=>Option (SharedT×Thread)) none (λy=>@Prod.rec SharedT Thread (λ_=>Option (SharedT×Thread)) (λs' t'=>a s' t') y) (yE xG p (w.withFollow "special-get-raises" b) s t)) (v9 11 (some (.ref 6)) t)) none (through t)) k
theorem CH(b:Bool)(p:Program)(w:World):∀(k:Nat)(s:SharedT)(t:Thread),Mn b p w k s t=CI (yE xG p (w.withFollow "special-get-raises" b)) (v9 11 (some (.ref 6))) k s t
 |0,_,_=>rfl
 |k+1,s,t=>by
  show @Bool.rec (λ_=>Option (SharedT×Thread)) (@Bool.rec (λ_=>Option (SharedT×Thread)) none (@Option.rec (SharedT×Thread) (λ_=>Option (SharedT×Thread)) none (λy=>@Prod.rec SharedT Thread (λ_=>Option (SharedT×Thread)) (λs' t'=>Mn b p w k s' t') y) (yE xG p (w.withFollow "special-get-raises" b) s t)) (v9 11 (some (.ref 6)) t)) none (through t)=(match through t with
   |true=>none
   |false=>match v9 11 (some (.ref 6)) t with
    |false=>none
    |true=>match yE xG p (w.withFollow "special-get-raises" b) s t with
     |some (s',t')=>CI (yE xG p (w.withFollow "special-get-raises" b)) (v9 11 (some (.ref 6))) k s' t'
     |none=>none)
  cases through t with
  |true=>rfl
  |false=>
   cases v9 11 (some (.ref 6)) t with
   |false=>rfl
   |true=>
    cases yE xG p (w.withFollow "special-get-raises" b) s t with
    |none=>rfl
    |some x=>exact CH b p w k x.1 x.2
noncomputable def runK(b:Bool)(p:Program)(w:World)(n k:Nat)(os:OsState):Option (SharedT×Thread):=@Option.rec (SharedT×Thread) (λ_=>Option (SharedT×Thread)) none (λx=>Mn b p w k x.1 x.2) (CI (yE xG p w) (v9 11 (some (.ref 6))) n (S0 w os) (topStub p))
theorem xl{α:Type}{p:Program}{w:World}{n k m:Nat}{os:OsState}{f:SharedT->α}{y:α}(h:runK false p w n k os=runK true p w n k os)
 (a:((runK false p w n k os).bind λy=>xh (yE xG p w) (v9 11 (some (.ref 6))) m y.1 y.2).map f=some y) :
 (xh (yE xG p w) (v9 11 (some (.ref 6))) (m+k+n) (S0 w os) (topStub p)).map f=some y:=by
 have e:runK (w.params.followText "special-get-raises") p w n k os=runK false p w n k os:=by
  cases w.params.followText "special-get-raises" with
  |false=>rfl
  |true=>exact h.symm
 rw[<-e] at a;unfold runK at a
 cases b:CI (yE xG p w) (v9 11 (some (.ref 6))) n (S0 w os) (topStub p) with
 |none=>rw[b] at a;cases a
 |some x=>
  obtain⟨s',t'⟩:=x;rw[b] at a;dsimp only at a;rw[CH,World.withFollow_self] at a;rw[Gb n b]
  cases c:CI (yE xG p w) (v9 11 (some (.ref 6))) k s' t' with
  |none=>rw[c] at a;cases a
  |some z=>
   obtain⟨d,g⟩:=z;rw[c] at a;rw[Gb k c];exact a
def yJ:qe->qc->Bool
 |.str y _,s=>decide (y=s)
 |_,_=>false
def kz(K:Frag):qe->qa V->Bool
 |.ref t,l=>(match K.lookup t with
  |some ⟨.type "tuple",_,.seq its _,_⟩=>decide (its.size<=sizeLine)&&decide (its.toList.map Ry=l.map some)
  |_=>false)
 |_,_=>false
def xF(K:Frag):qa DictEntry->qa (qc×qa V)->Bool
 |[],[]=>true
 |e::es,q::r=>yJ e.key q.1&&kz K e.val q.2&&xF K es r
 |_,_=>false
def uB(K:Frag)(rows:qa (qc×qa V)):Option Obj->Bool
 |some ⟨.type "dict",none,.dict es _,⟨[]⟩⟩=>xF K es.toList rows
 |_=>false
def vD(K:Frag)(x:qc)(rows:qa (qc×qa V)):Bool:=decide (gl K x=some (some (.ref (yw (gl K x)))))&&(!(yw (gl K x)==sysModules)&&uB K rows (K.lookup (yw (gl K x))))
end Hd
namespace  K61
open PySem L2
def top(i:Nat):Stmt:=PySem.Challenge.pw_mailroom_k61_rows_of_no_form.main.body.getD i (.Pass ⟨0,0,0,0⟩)
def tab:qa Tb:=[t0 (top 14),t0 (top 15),t0 (top 16),t0 (top 27),t0 (top 28),t0 (top 29),t0 (top 30),t0 (top 32),t0 (top 37),t0 (top 38),t0 (top 39),t0 (top 40),t0 (top 41),t0 (top 42),t0 (top 46),t0 (top 47),t0 (top 58),t0 (top 61),t0 (top 62),t0 (top 63),t0 (top 64),t0 (top 110),t0 (top 111),t0 (top 115),t0 (top 117),t0 (top 120),t0 (top 121),t0 (top 122),t0 (top 123),t0 (top 134),t0 (top 135),t0 (top 136),t1 (top 8) 0,t1 (top 31) 1,t1 (top 31) 2,t1 (top 31) 3,t1 (top 31) 4,t1 (top 50) 0,t1 (top 50) 2,t1 (top 50) 3,t1 (top 50) 4,t1 (top 50) 5,t1 (top 50) 6,t1 (top 50) 7,t1 (top 50) 8,t1 (top 50) 9,t1 (top 50) 10,t1 (top 50) 11,t1 (top 50) 12,t1 (top 50) 13,t1 (top 52) 0,t1 (top 52) 1,t1 (top 52) 2,t1 (top 54) 0,t1 (top 54) 1,t1 (top 54) 3,t1 (top 56) 0,t1 (top 56) 2,t1 (top 56) 5,t1 (top 56) 6,t1 (top 59) 0,t1 (top 59) 1,t1 (top 59) 2,t1 (top 59) 3,t1 (top 59) 4,t1 (top 59) 5,t1 (top 59) 8,t1 (top 65) 0,t1 (top 65) 1,t1 (top 65) 2,t1 (top 65) 3,t1 (top 65) 6,t1 (top 65) 7,t1 (top 87) 0,t1 (top 87) 2,t1 (top 87) 3,t1 (top 104) 0,t1 (top 104) 1,t1 (top 104) 2,t1 (top 104) 3,t1 (top 104) 17,t1 (top 104) 20,t1 (top 104) 22,t1 (top 118) 0,t1 (top 118) 1,t1 (top 118) 2,t1 (top 118) 3,t1 (top 31) 0,t1 (top 44) 0,t1 (top 50) 1,t1 (top 54) 2,t1 (top 56) 1,t1 (top 104) 4]
def cN:qg:=["Board","Card","Desk","Folders","Index","Ledger","Letter","MailError","NoRow","Registers","Room","Rules","Threads"]
def tb(i:Nat):Tb:=tab.getD i (t0 (top 0))
abbrev sO(i:Nat):Stmt:=(tb i).2.1
def aK(K:Frag)(i:Nat):qd:=match tab[i]? with|some t=>Hd.yw (rK K t)|none=>Hd.cl K (cN.getD (i-93) "")
inductive Fc
 |q (x:qc) (i:Nat)
 |g (x:qc) (v:V)
 |t (x:qc) (ys:qg)
 |D (x:qc) (ys:qa (qc×qa V))
 |m (i:Nat) (x:qc) (j:Nat)
 |b (x:qc)
 |c (i:Nat)
 |k (i j:Nat)
 |M (i:Nat) (x:qc) (j:Nat)
 |n (i:Nat) (x:qc)
 |x (i:Nat)
 |s (i j:Nat)
 |z
def ve(K:Frag):Fc->Bool
 |.q x i=>decide (Hd.gl K x=some (some (.ref (aK K i))))
 |.g x v=>decide ((Hd.gl K x).map (Option.map Hd.vc)=some (some (Hd.bv v)))&&Hd.flat v
 |.t x ys=>Hd.vz K x ys
 |.D x ys=>Hd.vD K x ys
 |.m i x j=>decide (findIn K (.ref (aK K i)) "__getattribute__"=some (some (.builtin "BaseException.__getattribute__")))&&decide (findIn K (.ref (aK K i)) "__getattr__"=some none)&&decide (findIn K (.ref (aK K i)) x=some (some (.ref (aK K j))))&&isFn K (.ref (aK K j))&&keepIn K (.ref (aK K j))
 |.b x=>decide (Hd.gl K x=some none)
 |.c i=>plainGet K (aK K i) Str.empty&&hasDictIn K (aK K i)&&plainOver K (aK K i)&&decide (findIn K (.ref (aK K i)) "__setattr__"=some (some (.builtin "object.__setattr__")))
 |.k i j=>makesIn K (aK K i)&&decide (findIn K (.ref (aK K i)) "__init__"=some (some (.ref (aK K j))))&&isFn K (.ref (aK K j))&&keepIn K (.ref (aK K i))
 |.M i x j=>decide (findIn K (.ref (aK K i)) x=some (some (.ref (aK K j))))&&isFn K (.ref (aK K j))&&keepIn K (.ref (aK K j))
 |.n i x=>decide (findIn K (.ref (aK K i)) x=some none)
 |.x i=>excIn K (aK K i) NB "ValueError.__new__"
 |.s i j=>decide (PySem.W.mroIn K (aK K i) (.ref (aK K j))=some true)
 |.z=>true
def fx:qa Fc:=[.c 96,
 .c 93,
 .c 99,
 .b "len",
 .c 103,
 .c 105,
 .b "isinstance",
 .c 97,
 .c 98,
 .b "str",
 .c 95,
 .n 96 "inside",
 .c 102,
 .n 96 "boxes",
 .b "sorted",
 .n 93 "letters",
 .n 93 "boxed",
 .n 99 "found",
 .c 94,
 .n 96 "tags",
 .n 97 "bearers",
 .n 105 "links",
 .n 105 "replies",
 .n 93 "facts",
 .n 103 "board",
 .n 97 "entries",
 .n 102 "drawers",
 .M 95 "say" 86,
 .n 95 "rooms",
 .x 101,
 .b "list",
 .n 98 "hand",
 .n 98 "shelves",
 .q "NoRow" 101,
 .b "range",
 .n 99 "title",
 .n 99 "body",
 .n 99 "answers",
 .n 94 "signs",
 .M 102 "get" 90,
 .n 93 "hung",
 .c 104,
 .b "int",
 .b "tuple",
 .b "all",
 .q "Letter" 99,
 .k 99 87,
 .n 99 "sender",
 .n 99 "day",
 .n 94 "box",
 .n 93 "listed",
 .n 103 "ledger",
 .g "HAND_SIGNS" (.str "abcdefghijklmnopqrstuvwxyz"),
 .g "MOST_HAND" (.int 8),
 .b "bool",
 .b "set",
 .q "Card" 94,
 .k 94 88,
 .M 96 "put_in" 39,
 .M 96 "put_out" 40,
 .M 93 "take_out" 64,
 .M 98 "shelf" 68,
 .n 104 "kept",
 .n 103 "ruling",
 .q "all_among" 0,
 .q "stamp_of" 13,
 .q "number_of" 17,
 .q "check_form" 21,
 .q "put_letter" 22,
 .g "FIGURES" (.str "0123456789"),
 .g "WORD_SIGNS" (.str "abcdefghijklmnopqrstuvwxyz0123456789"),
 .g "RUN_SIGNS" (.str "abcdefghijklmnopqrstuvwxyzABCDEFGHIJKLMNOPQRSTUVWXYZ0123456789"),
 .g "MOST_WORD" (.int 20),
 .g "MOST_TITLE" (.int 60),
 .g "MOST_BODY" (.int 400),
 .g "LAST_DAY" (.int 9999),
 .g "DAY_FIGURES" (.int 4),
 .g "SEEN" (.str "seen"),
 .t "DOING" ["place","mark","unmark","drop","sort","rule","forget"],
 .t "MEETING" ["meet","tell"],
 .D "FORMS" [("put",[.int 2,.non]),("place",[.int 2,.int 2]),("mark",[.int 2,.int 2]),("unmark",[.int 2,.int 2]),("drop",[.int 1,.int 1]),("sort",[.int 1,.int 1]),("rule",[.int 1,.non]),("rules",[.int 0,.int 0]),("forget",[.int 0,.int 0]),("meet",[.int 1,.int 1]),("tell",[.int 1,.int 1]),("folders",[.int 0,.int 0]),("folder",[.int 1,.int 1]),("thread",[.int 1,.int 1]),("threads",[.int 0,.int 0]),("find",[.int 1,.non]),("show",[.int 1,.int 1])],
 .b "dict",
 .b "max",
 .b "enumerate",
 .M 99 "twin" 33,
 .M 99 "parts" 34,
 .M 99 "known" 35,
 .M 99 "words" 36,
 .n 94 "letter",
 .q "Folders" 96,
 .k 96 37,
 .M 96 "add" 89,
 .M 96 "take_out" 38,
 .M 96 "place" 41,
 .M 96 "mark" 42,
 .M 96 "unmark" 43,
 .M 96 "folder" 44,
 .M 96 "marks" 45,
 .M 96 "counts" 46,
 .M 96 "marked" 47,
 .M 96 "names" 48,
 .M 96 "folders" 49,
 .q "Index" 97,
 .k 97 50,
 .M 97 "add" 51,
 .M 97 "take_out" 52,
 .q "Registers" 102,
 .k 102 53,
 .M 102 "keep" 54,
 .M 102 "keys_of" 55,
 .q "Threads" 105,
 .k 105 56,
 .M 105 "add" 91,
 .M 105 "take_out" 57,
 .M 105 "beside" 58,
 .M 105 "thread" 59,
 .q "Board" 93,
 .k 93 60,
 .M 93 "show" 61,
 .M 93 "bring_in" 62,
 .M 93 "marks_told" 63,
 .M 93 "change" 65,
 .M 93 "card" 66,
 .q "Ledger" 98,
 .k 98 67,
 .M 98 "next_name" 69,
 .M 98 "do" 70,
 .M 98 "weighed" 71,
 .M 98 "take" 72,
 .q "Rules" 104,
 .k 104 73,
 .M 104 "run" 74,
 .M 104 "outcome" 75,
 .q "Room" 103,
 .k 103 76,
 .M 103 "do" 77,
 .M 103 "others" 78,
 .M 103 "sort_card" 79,
 .M 103 "put" 92,
 .M 103 "thread" 80,
 .M 103 "folders" 81,
 .M 103 "names_in" 82,
 .n 103 "hand",
 .q "Desk" 95,
 .k 95 83,
 .M 95 "room" 84,
 .M 95 "answered" 85,
 .q "MailError" 100,
 .x 100,
 .s 101 100,
 .m 101 "refusal" 32]
abbrev PP:Program:=PySem.Challenge.pw_mailroom_k61_rows_of_no_form
def loose:qg:=lsO PP.main.body
noncomputable abbrev CD(w:World)(os:OsState):Option PySem.W.SharedT:=Hd.xh (Hd.yE Hd.xG PP w) (Hd.v9 11 (some (.ref 6))) 20000 (Hd.S0 w os) (PySem.W.topStub PP)
def ads:qa Nat:=[0,1,2,3,4,5,6,7,8,9,10,11,12,13,14,15,16,17,18,19,20,21,22,23,24,25,26,27,28,29,30,31,32,33,34,35,36,37,38,39,741,742,743,359,360,361,1742,1743,1744,484,485,486,540,541,542,834,835,836,260,261,262,160,161,162,583,584,585,1621,1622,1623,1265,1266,1267,659,660,661,168,175,180,187,194,201,208,272,286,293,300,307,314,321,371,378,671,753,758,763,770,1660,1667,1695,1707,1754,1761,1768,1775,1838,1845,1850,158,230,237,244,251,392,407,414,421,428,435,442,449,456,463,468,475,482,503,510,517,559,566,581,602,617,638,643,685,692,699,704,711,718,739,784,791,798,803,825,832,1232,1244,1251,1431,1438,1443,1450,1550,1571,1585,1721,1728,1735,1740,223,336,400,574,610,1458]++List.range 1851
theorem look:PySem.W.Fast.tw9446332074065402090 PySem.Challenge.rw_mailroom_k61_rows_of_no_form=true:=by
 delta PySem.W.Fast.tw9446332074065402090 PySem.W.Fast.tw17960256430627541270 PySem.W.Fast.tw2436336058641802641 PySem.W.Fast.tw12908688711261696721;repeat' (with_reducible refine PySem.W.look_both ?_ ?_)
 all_goals as_aux_lemma=>kernel_rfl
theorem opens:PySem.W.opening PP=PySem.W.plainProg PP.main.scope.names:=by kernel_rfl
theorem fence(s:Shared):fenceModules? PP s=some s:=by kernel_rfl
theorem Bf(w:World)(os:OsState):Hd.runK false PP w 12750 600 os=Hd.runK true PP w 12750 600 os:=by kernel_rfl
theorem a9(w:World)(os:OsState):(CD w os).map (λs=>(Hd.chk PP w.params s.abs,Hd.seenQ (view PP [136]) loose (PySem.importedModules PP.main.body) (λs=>recOk [] s) true s.abs))=some (true,openGood (view PP [136]) loose):=Hd.xl (n:=12750) (k:=600) (m:=6650) (Bf w os) (by kernel_rfl)
def gy(K:Frag):wu×Bool:=(see K (tab.take 18),(fx.take 30).all (ve K))
def go1:wu×Bool:=(Wo (tab.take 18),true)
theorem a8(w:World)(os:OsState):(CD w os).map (λs=>gy (Hd.jX ads s))=some go1:=Hd.xl (n:=12750) (k:=600) (m:=6650) (Bf w os) (by kernel_rfl)
def gJ(K:Frag):wu×Bool:=(see K ((tab.drop 18).take 19),((fx.drop 30).take 30).all (ve K))
def go2:wu×Bool:=(Wo ((tab.drop 18).take 19),true)
theorem a7(w:World)(os:OsState):(CD w os).map (λs=>gJ (Hd.jX ads s))=some go2:=Hd.xl (n:=12750) (k:=600) (m:=6650) (Bf w os) (by kernel_rfl)
def ob3(K:Frag):wu×Bool:=(see K (((tab.drop 18).drop 19).take 18),(((fx.drop 30).drop 30).take 30).all (ve K))
def go3:wu×Bool:=(Wo (((tab.drop 18).drop 19).take 18),true)
theorem a6(w:World)(os:OsState):(CD w os).map (λs=>ob3 (Hd.jX ads s))=some go3:=Hd.xl (n:=12750) (k:=600) (m:=6650) (Bf w os) (by kernel_rfl)
def ob4(K:Frag):wu×Bool:=(see K ((((tab.drop 18).drop 19).drop 18).take 19),((((fx.drop 30).drop 30).drop 30).take 30).all (ve K))
def go4:wu×Bool:=(Wo ((((tab.drop 18).drop 19).drop 18).take 19),true)
theorem a5(w:World)(os:OsState):(CD w os).map (λs=>ob4 (Hd.jX ads s))=some go4:=Hd.xl (n:=12750) (k:=600) (m:=6650) (Bf w os) (by kernel_rfl)
def ob5(K:Frag):wu×Bool:=(see K ((((tab.drop 18).drop 19).drop 18).drop 19),((((fx.drop 30).drop 30).drop 30).drop 30).all (ve K))
def go5:wu×Bool:=(Wo ((((tab.drop 18).drop 19).drop 18).drop 19),true)
theorem a4(w:World)(os:OsState):(CD w os).map (λs=>ob5 (Hd.jX ads s))=some go5:=Hd.xl (n:=12750) (k:=600) (m:=6650) (Bf w os) (by kernel_rfl)
def obs(K:Frag):qa (wu×Bool):=[gy K,gJ K,ob3 K,ob4 K,ob5 K]
def good:qa (wu×Bool):=[go1,go2,go3,go4,go5]
theorem seen(w:World)(os:OsState):(CD w os).map (λs=>(Hd.chk PP w.params s.abs,Hd.seenQ (view PP [136]) loose (PySem.importedModules PP.main.body) (λs=>recOk [] s) true s.abs,obs (Hd.jX ads s)))=some (true,openGood (view PP [136]) loose,good):=by
 have h0:=a9 w os;have a:=a8 w os;have b:=a7 w os;have c:=a6 w os;have d:=a5 w os;have e:=a4 w os;generalize CD w os=r at h0 a b c d e⊢
 cases r with
 |none=>cases h0
 |some s=>
  rw[yF,wR,yA] at h0;rw[yF,wR,yA,yA];refine⟨h0.1,h0.2,?_⟩;show[gy (Hd.jX ads s),gJ (Hd.jX ads s),ob3 (Hd.jX ads s),ob4 (Hd.jX ads s),ob5 (Hd.jX ads s)]=[go1,go2,go3,go4,go5];rw[show gy (Hd.jX ads s)=go1 from qW a,show gJ (Hd.jX ads s)=go2 from qW b,show ob3 (Hd.jX ads s)=go3 from qW c,show ob4 (Hd.jX ads s)=go4 from qW d,show ob5 (Hd.jX ads s)=go5 from qW e]
end K61
namespace L2
open PySem PySem.Spec PyProof.Rows
variable {vs xs:qa V}{us:qi}{C a:qd}{u:qe}{P:Program}{w:World}{base h:Heap}{i n t':Nat}{ch:qa qd}{x:qc}{M:Model}{A:Around}{v y:V}{c e tg:Expr}{s:Shared}{pos:Pos}{pins:qa (qd×Obj)}{op:CmpOp}{body:qa Stmt}{f:qe->qe->Sem qe}{pl:Sem Bool}{kw:qa (qc×qe)}{mg:qc->Option qe}{outer:qa Env}
abbrev Key:=Sum Int qc
def yJ:Key->qe->Bool
 |.inl k,v=>Value.isInt k v
 |.inr x,v=>Value.isStrOf x v
def keyH(w:World):Key->Int
 |.inl k=>hashInt k
 |.inr x=>hashStr w x
theorem Yb:∀{k:Key}{v:qe},yJ k v=true->(∃i t,k=inl i/\v=Value.int i t)\/(∃x t,k=Sum.inr x/\v=Value.str x t)
 |.inl i,v,h=>by
  obtain⟨t,e⟩:=Value.isInt_shape (k:=i) (v:=v) h;exact .inl ⟨i,t,U,e⟩
 |.inr x,v,h=>by
  obtain⟨t,e⟩:=Value.isStrOf_shape (x:=x) (v:=v) h;exact .inr ⟨x,t,U,e⟩
theorem I9(i:Int)(t:Tok):yJ (.inl i) (.int i t)=true:=by simp[yJ,Value.isInt]
theorem I8(x:qc)(t:Tok):yJ (.inr x) (.str x t)=true:=by simp[yJ,Value.isStrOf]
theorem Ts(a b:Int):decide ((inl a:Key)=inl b)=(a==b):=by
 by_cases e:a=b
 .subst e;simp
 .have h:¬(inl a:Key)=inl b:=λq=>e (inl.inj q);rw[qD h];exact(jm.mpr e).symm
theorem To(a b:qc):decide ((Sum.inr a:Key)=Sum.inr b)=decide (a=b):=by
 by_cases e:a=b
 .subst e;simp
 .have h:¬(Sum.inr a:Key)=Sum.inr b:=λq=>e (jD q);rw[qD h,qD e]
theorem Tr(a:Int)(b:qc):decide ((inl a:Key)=Sum.inr b)=false:=qD nofun
theorem Tq(a:qc)(b:Int):decide ((Sum.inr a:Key)=inl b)=false:=qD nofun
def QZ(prog:Program)(w:World):PySem.KeyKind prog w Key where
 is:=yJ
 hash:=keyH w
 inj:=λv a b g f=>by
  rcases Yb g with⟨i,t,rfl,rfl⟩|⟨x,t,rfl,rfl⟩
  .rcases Yb f with⟨j,u,rfl,e⟩|⟨y,u,rfl,e⟩
   .injection e with c _;rw[c]
   .exact nomatch e
  .rcases Yb f with⟨j,u,rfl,e⟩|⟨y,u,rfl,e⟩
   .exact nomatch e
   .injection e with c _;rw[c]
 byValue:=λk v h=>by
  rcases Yb h with⟨i,t,rfl,rfl⟩|⟨x,t,rfl,rfl⟩<;>rfl
 pyHash:=λd h=>by
  rcases Yb d with⟨i,t,rfl,rfl⟩|⟨x,t,rfl,rfl⟩
  .exact wpAny_pyHash_int h
  .exact wpAny_pyHash_str h
 eqBool:=λl d h=>by
  rcases Yb l with⟨i,t,rfl,rfl⟩|⟨x,t,rfl,rfl⟩
  .rcases Yb d with⟨j,u,rfl,rfl⟩|⟨y,u,rfl,rfl⟩
   .rw[Ts] at h;exact wpAny_eqBool_int h
   .rw[Tr] at h;exact SeqAt.EqAt.int_str i t y u _ _ _ _ h
  .rcases Yb d with⟨j,u,rfl,rfl⟩|⟨y,u,rfl,rfl⟩
   .rw[Tq] at h;exact SeqAt.EqAt.str_int x t j u _ _ _ _ h
   .rw[To] at h;exact wpAny_eqBool_str h
 «strs»:=λk x t v h=>by
  rcases Yb h with⟨i,u,rfl,e⟩|⟨y,u,rfl,e⟩
  .exact nomatch e
  .injection e with c _
   subst c;cases v<;>rfl
theorem Dc(prog:Program)(w:World)(i:Int)(t:Tok):(QZ prog w).is (.inl i) (.int i t)=true:=I9 i t
theorem C9(prog:Program)(w:World)(x:qc)(t:Tok):(QZ prog w).is (.inr x) (.str x t)=true:=I8 x t
def QJ:V->qe->Prop
 |.non,u=>u=Value.none
 |.bl b,u=>u=Value.bool b
 |.int i,u=>∃t,u=Value.int i t
 |.str x,u=>∃t,u=Value.str x t
 |.wc b,u=>∃t,u=Value.bytes b t
 |.flt b,u=>∃t,u=Value.float b t
 |.ref a,u=>u=Value.ref a
 |.ty n,u=>u=Value.type n
abbrev QB:qa V->qi->Prop:=Paired QJ
theorem QB.length(r:QB xs us):xs.length=us.length:=gO r
theorem QB.get:∀{xs:qa V}{us:qi}{i:Nat}{x:V},QB xs us->xs[i]?=some x->∃u,us[i]?=some u/\QJ x u
 |_,_,_,_,.nil,e=>by simp at e
 |_,_,0,_,.cons r _,e=>by simp at e;subst e;exact⟨_,U,r⟩
 |_,_,i+1,x,.cons _ t,e=>by
  obtain⟨u,a,b⟩:=QB.get (i:=i) (x:=x) t (by simpa using e);exact⟨u,by simpa using a,b⟩
theorem QB.append:∀{xs ys:qa V}{us ws:qi},QB xs us->QB ys ws->QB (xs++ys) (us++ws)
 |_,_,_,_,.nil,s=>s
 |_,_,_,_,.cons r t,s=>.cons r (QB.append t s)
theorem QB.take:∀{xs:qa V}{us:qi}(n:Nat),QB xs us->QB (xs.take n) (us.take n)
 |_,_,0,_=>.nil
 |_,_,_+1,.nil=>.nil
 |_,_,n+1,.cons r t=>.cons r (QB.take n t)
theorem QB.drop:∀{xs:qa V}{us:qi}(n:Nat),QB xs us->QB (xs.drop n) (us.drop n)
 |_,_,0,r=>r
 |_,_,_+1,.nil=>.nil
 |_,_,n+1,.cons _ t=>QB.drop n t
def Vg:Option V->Option qe->Prop
 |some v,some u=>QJ v u
 |none,none=>True
 |_,_=>False
def KV{a:Type}:qa (a×V)->qa (a×qe)->Prop:=Paired λ(p:a×V)(q:a×qe)=>p.1=q.1/\QJ p.2 q.2
def kV:Key->V
 |.inl i=>.int i
 |.inr x=>.str x
inductive HO where
 |lst (xs:qa V)
 |tup (xs:qa V)
 |dK (kvs:qa (Key×V))|dT (kvs:qa (qa Key×V))
 |set (S:Int->Bool) (n:Nat)
 |ins (C dx:qd) (fs:qa (qc×V))
 |own (x:qd)
 |xd (fs:qa (qc×V))
 |met (f x:qd)
 |rng (lo hi:Int)
 |jO (o:Obj) (u:HO)
 |gQ (ps:Array qe)
 |ext (φ:Heap->Prop)
variable {o:HO}
abbrev Hp:=qd->Option HO
variable {H:Hp}
def upd(H:Hp)(a:qd)(o:HO):Hp:=λb=>if b=a then some o else H b
theorem Qb   :upd H a o a=some o:=by unfold upd;rw[qP rfl]
theorem Qa{b:qd}(h:b≠a):upd H a o b=H b:=by unfold upd;rw[qJ h]
theorem VG{u:HO}:upd (upd H a o) a u=upd H a u:=by
 funext b;unfold upd;split<;>rfl
theorem QM{b:qd}{u:HO}(h:H a=some o)(h':H b=some u)(d:o≠u):a≠b:=by
 intro e;subst e;rw[h] at h';exact d (qW h')
theorem Qc{b:qd}(h:H a=some o)(h':H b=none):a≠b:=by
 intro e;subst e;rw[h] at h';cases h'
section
variable (P:Program)(w:World)
def QP(H:Hp)(h:Heap)(a:qd):HO->Prop
 |.lst xs=>xs.length<=sizeLine/\∃(its:qi)(n:Nat),QB xs its/\h.get? a=some {cls:=.type "list",data:=.seq its.toArray n}
 |.tup xs=>xs.length<=sizeLine/\∃its:qi,QB xs its/\IsTup h a its.toArray
 |.dK b=>b.length<=sizeLine/\(a==sysModules)=false/\∃vs,KV b vs/\h.DictOf (QZ P w) a vs
 |.dT b=>b.length<=sizeLine/\(a==sysModules)=false/\∃xs:qa (qa Key×qd×qe),
   Paired (λ(p:qa Key×V)(q:qa Key×qd×qe)=>p.1=q.1/\H q.2.1=some (.tup (p.1.map kV))/\QJ p.2 q.2.2) b xs /\
   ∃o es c,h.get? a=some o/\o.ExactDict/\o.data=.dict es c/\es.toList=xs.map (entryOfKey (tupleKind (QZ P w)))/\(xs.map (·.1)).Nodup
 |.set S n=>h.SetOf (intKind P w) a S n
 |.ins C d c=>H d=some (.own a)/\c.length<=1000/\d≠a/\h.get? a=some (instObj C d) /\
   ∃b,h.Ns1 d b/\(∀f,Vg (c.lookup f) (b f))/\PySem.Within b (c.map (·.1))
 |.own _=>∃o,h.get? a=some o
 |.xd c=>∃b,h.Ns1 a b/\∀f,Vg (c.lookup f) (b f)
 |.rng lo b=>∃t u v,h.get? a=some {cls:=.type "range",data:=.fields #[.int lo t,.int b u,.int 1 v]}
 |.jO o u=>h.get? a=some o/\QP H h a u
 |.gQ ps=>h.get? a=some {cls:=.none,data:=.fields ps}
 |.met f x=>h.get? a=some (methodObj (.ref f) (.ref x))
 |.ext b=>b h/\(∃o,h.get? a=some o)/\∀c d:Heap,b c->(∀o,c.get? a=some o->d.get? a=some o)->b d
def yK(H:Hp)(h:Heap):Prop:=∀a o,H a=some o->QP P w H h a o
end
section
variable {P:Program}{w:World}{H H':Hp}{h h':Heap}{a:qd}{o:HO}
theorem QP.lt(x:QP P w H h a o):a<h.objs.size:=by
 cases o with
 |lst xs=>obtain⟨_,_,_,_,e⟩:=x;exact qM e
 |tup xs=>obtain⟨_,_,_,p⟩:=x;exact p.lt
 |dK b=>obtain⟨_,_,_,_,o,_,_,e,_⟩:=x;exact qM e
 |dT b=>obtain⟨_,_,_,_,o,_,_,e,_⟩:=x;exact qM e
 |set S n=>obtain⟨o,_,_,_,e,_⟩:=x;exact qM e
 |ins C c b=>obtain⟨_,_,_,e,_⟩:=x;exact qM e
 |own y=>obtain⟨_,e⟩:=x;exact qM e
 |xd b=>obtain⟨_,⟨_,_,_,e,_⟩,_⟩:=x;exact qM e
 |rng lo b=>obtain⟨_,_,_,e⟩:=x;exact qM e
 |jO b u=>obtain⟨e,_⟩:=x;exact qM e
 |gQ ps=>exact qM (show h.get? a=some _ from x)
 |met f y=>exact qM (show h.get? a=some _ from x)
 |ext b=>obtain⟨_,⟨_,e⟩,_⟩:=x;exact qM e
theorem Paired.uu{α β:Type}{F G:α->β->Prop}:∀{c:qa α}{d:qa β},Paired F c d->(∀a b,F a b->G a b)->Paired G c d
 |_,_,.nil,_=>.nil
 |_,_,.cons r t,f=>.cons (f _ _ r) (Paired.uu t f)
theorem QP.stay(x:QP P w H h a o)(k:∀b u,(b=a\/H b=some (.own a))->h.get? b=some u->h'.get? b=some u)
 (m:∀b,H b=some (.own a)->H' b=some (.own a)) (s:∀b xs,H b=some (.tup xs)->H' b=some (.tup xs)):QP P w H' h' a o:=by
 induction o with
 |lst xs=>obtain⟨z,its,n,r,e⟩:=x;exact⟨z,its,n,r,k _ _ (.inl rfl) e⟩
 |tup xs=>obtain⟨z,its,r,g,e,c⟩:=x;exact⟨z,its,r,g,k _ _ (.inl rfl) e,c⟩
 |dK j=>obtain⟨z,y,vs,r,g,es,i,e,c⟩:=x;exact⟨z,y,vs,r,g,es,i,k _ _ (.inl rfl) e,c⟩
 |dT j=>
  obtain⟨z,y,xs,r,g,es,i,e,c⟩:=x;exact⟨z,y,xs,Paired.uu r λp q z=>⟨z.1,s _ _ z.2.1,z.2.2⟩,g,es,i,k _ _ (.inl rfl) e,c⟩
 |set S n=>obtain⟨g,es,i,t,e,c⟩:=x;exact⟨g,es,i,t,k _ _ (.inl rfl) e,c⟩
 |ins C D A=>
  obtain⟨d,z,ne,e,j,⟨l,es,i,B,c⟩,r⟩:=x;exact⟨m _ d,z,ne,k _ _ (.inl rfl) e,j,⟨l,es,i,k _ _ (.inr d) B,c⟩,r⟩
 |own y=>obtain⟨g,e⟩:=x;exact⟨g,k _ _ (.inl rfl) e⟩
 |xd A=>obtain⟨j,⟨l,es,i,e,c⟩,r⟩:=x;exact⟨j,⟨l,es,i,k _ _ (.inl rfl) e,c⟩,r⟩
 |rng lo i=>obtain⟨t,u,v,e⟩:=x;exact⟨t,u,v,k _ _ (.inl rfl) e⟩
 |jO g u i=>obtain⟨e,q⟩:=x;exact⟨k _ _ (.inl rfl) e,i q⟩
 |gQ ps=>
  have e:h.get? a=some {cls:=.none,data:=.fields ps}:=x;show h'.get? a=some {cls:=.none,data:=.fields ps};exact k a _ (.inl rfl) e
 |met f y=>
  have e:h.get? a=some (methodObj (.ref f) (.ref y)):=x;show h'.get? a=some (methodObj (.ref f) (.ref y));exact k a _ (.inl rfl) e
 |ext g=>obtain⟨p,⟨o,e⟩,st⟩:=x;exact⟨st _ _ p λo q=>k _ _ (.inl rfl) q,⟨o,k _ _ (.inl rfl) e⟩,st⟩
theorem yK.lt(x:yK P w H h)(e:H a=some o):a<h.objs.size:=(x a o e).lt
theorem yK.fresh(x:yK P w H h)(e:h.objs.size<=a):H a=none:=by
 cases q:H a with
 |none=>rfl
 |some u=>exact absurd (qU (x.lt q) e) (zQ _)
theorem yK.kept(x:yK P w H h)(k:∀b u,h.get? b=some u->h'.get? b=some u):yK P w H h':=λa o e=>
 (x a o e).stay (λb u _ q=>k b u q) (λ_ q=>q) λ_ _ q=>q
theorem yK.laid(x:yK P w H h)(k:∀b u,h.get? b=some u->h'.get? b=some u)(g:h.objs.size<=a)(new:QP P w (upd H a o) h' a o):yK P w (upd H a o) h':=λb u e=>by
 have d:=x.fresh g;by_cases f:b=a
 .subst f;rw[Qb] at e;cases e;exact new
 .rw[Qa f] at e;exact(x b u e).stay (λc v _ q=>k c v q) (λc q=>by rw[Qa (Qc q d)];exact q) λc xs q=>by rw[Qa (Qc q d)];exact q
end
def Rd(H:Hp)(a:qd)(u:HO):Prop:=H a=some u\/∃o,H a=some (.jO o u)
theorem Rd.ok{u:HO}(r:Rd H a u)(x:yK P w H h):QP P w H h a u:=by
 rcases r with r|⟨o,r⟩
 .exact x a u r
 .obtain⟨_,q⟩:=x a _ r;exact q
def Mut:Option HO->Prop
 |some (.lst _)=>True
 |some (.dK _)=>True
 |some (.dT _)=>True
 |some (.set _ _)=>True
 |some (.ins _ _ _)=>True
 |some (.ext _)=>True
 |_=>False
section
variable {P:Program}{w:World}{H:Hp}{h h':Heap}{x e:qd}{o':HO}
theorem yK.write(ok:yK P w H h)(g:Mut (H x))(he:e=x\/H e=some (.own x))(k:∀b u,b≠e->h.get? b=some u->h'.get? b=some u)(j:∃u,h'.get? e=some u)
 (new:QP P w (upd H x o') h' x o'):yK P w (upd H x o') h':=λb u q=>by
 have d:∀c y,H c=some (.own y)->c≠x:=λc y r z=>by subst z;rw[r] at g;exact g
 have f:∀c xs,H c=some (.tup xs)->c≠x:=λc xs r z=>by subst z;rw[r] at g;exact g
 by_cases i:b=x
 .subst i;rw[Qb] at q;cases q;exact new
 .rw[Qa i] at q;by_cases a:b=e
  .have l:H b=some (.own x):=by
    rcases he with z|z
    .exact absurd (a.trans z) i
    .rw[a];exact z
   rw[q] at l;cases l;obtain⟨v,m⟩:=j;exact⟨v,by rw[a];exact m⟩
  .refine(ok b u q).stay (λc v hc r=>k c v ?_ r) (λc r=>by rw[Qa (d c b r)];exact r) λc xs r=>by rw[Qa (f c xs r)];exact r
   rcases hc with rfl|hc
   .exact a
   .rintro rfl;rcases he with z|z
    .exact d c b hc z
    .rw[hc] at z;cases z;exact i rfl
end
structure Un(fs ex:qa qd)(H H':Hp)(h h':Heap):Prop where
 keep:∀b o,h.get? b=some o->H b=none->b∉fs->b∉ex->h'.get? b=some o
 slot:∀b o,h.get? b=some o->H b=none->b∈fs->b∉ex->∃sl,h'.get? b=some {o with slots:=sl}
 free:∀b o,h.get? b=some o->H b=none->b∉ex->H' b=none
 there:∀b o,h.get? b=some o->b∉ex->∃o',h'.get? b=some o'
 tups:∀b xs,H b=some (.tup xs)->H' b=some (.tup xs)
 xC:∀b o u,H b=some (.jO o u)->H' b=some (.jO o u)
 ke:∀b ps,H b=some (.gQ ps)->∃more,H' b=some (.gQ (ps++more))
section
variable {fs fs' ex ex':qa qd}{H H1 H2:Hp}{h h1 h2 h':Heap}{a x e:qd}{o:HO}
theorem Un.any(u:Un fs ex H H1 h h1){b:qd}{a:Obj}(q:h.get? b=some a)(n:H b=none)(c:b∉ex):∃sl,h1.get? b=some {a with slots:=sl}:=by
 by_cases d:b∈fs
 .exact u.slot b a q n d c
 .exact⟨a.slots,u.keep b a q n d c⟩
theorem Un.kept(k:∀b u,h.get? b=some u->h'.get? b=some u):Un fs ex H H h h':=
 ⟨λb a q _ _ _=>k b a q,λb a q _ _ _=>⟨a.slots,k b a q⟩,λ_ _ _ n _=>n,λb a q _=>⟨a,k b a q⟩,λ_ _ q=>q,λ_ _ _ q=>q,λ_ ps q=>⟨#[],by rw[q];simp⟩⟩
theorem Un.refl:Un fs ex H H h h:=Un.kept λ_ _ q=>q
theorem Un.laid(k:∀b u,h.get? b=some u->h'.get? b=some u)(d:h.objs.size<=a)(c:H a=none):Un fs ex H (upd H a o) h h' where
 keep:=λb u q _ _ _=>k b u q
 slot:=λb u q _ _ _=>⟨u.slots,k b u q⟩
 free:=λb u q n _=>by rw[Qa (qR (qU (qM q) d))];exact n
 there:=λb u q _=>⟨u,k b u q⟩
 tups:=λb xs q=>by rw[Qa (Qc q c)];exact q
 xC:=λb u xs q=>by rw[Qa (Qc q c)];exact q
 ke:=λb ps q=>⟨#[],by rw[Qa (Qc q c),q];simp⟩
theorem Un.write(c:Mut (H x))(he:e=x\/H e=some (.own x))(k:∀b u,b≠e->h.get? b=some u->h'.get? b=some u)(d:∃u,h'.get? e=some u):Un fs ex H (upd H x o) h h':=by
 have f:∀b,H b=none->b≠x:=λb n z=>by subst z;rw[n] at c;exact c
 have g:∀b,H b=none->b≠e:=λb n z=>by
  subst z;rcases he with r|r
  .exact f b n r
  .rw[n] at r;cases r
 have hm:∀b u,H b=some u->¬Mut (some u)->b≠x:=λb u q nm z=>by subst z;rw[q] at c;exact nm c
 refine⟨λb u q n _ _=>k b u (g b n) q,λb u q n _ _=>⟨u.slots,k b u (g b n) q⟩,λb u q n _=>by rw[Qa (f b n)];exact n,λb u q _=>?_,
  λb xs q=>by rw[Qa (hm b _ q λz=>z)];exact q,λb u xs q=>by rw[Qa (hm b _ q λz=>z)];exact q,λb ps q=>⟨#[],by rw[Qa (hm b _ q λz=>z),q];simp⟩⟩
 by_cases a:b=e
 .subst a;exact d
 .exact⟨u,k b u a q⟩
end
def trk(h:Heap)(H:Hp):qa qd:=(List.range h.objs.size).filter λa=>(H a).isSome
def BJ(h:Heap)(H:Hp):Heap:=hideAll h (trk h H)
theorem Lh(h:Heap)(H:Hp):(BJ h H).objs.size=h.objs.size:=PySem.W.hideAll_size _ _
theorem N9{b:qd}{o:Obj}(e:h.get? b=some o)(n:H b=none):(BJ h H).get? b=some o:=
 hideAll_get _ e λhm=>by
  have q:(H b).isSome=true:=(qX.mp hm).2;rw[n] at q;simp at q
theorem PR{b:qd}{o:Obj}(e:(BJ h H).get? b=some o):h.get? b=some o/\H b=none:=by
 have a:h.get? b=some o:=of_hideAll (trk h H) e;refine⟨a,?_⟩
 cases q:H b with
 |none=>rfl
 |some x=>
  have hm:b∈trk h H:=qX.mpr ⟨jK.mpr (qM a),by simp[q]⟩;have z:(BJ h H).get? b=none:=PySem.W.hideAll_none (trk h H) hm;rw[z] at e;cases e
structure Mod(K:Frag)(mg:qc->Option qe)(base:Heap):Prop where
 wx:K.In base
 glob:base.Ns mainGlobals mg
 blt:∃mb,base.Ns builtinsNs mb/\∀x:qc,x≠"__name__"->mb x=bootBuiltins x
 nolimit:base.NoLimit
structure Cx where
 prog:Program
 w:World
 K:Frag
 mg:qc->Option qe
 base:Heap
 A:Around
 N:qg
 s₀:Shared
 H₀:Hp
 env:Env
 outer:qa Env
 stack:qa Env
 ex:qa qd
 fn:qc->Bool
 calm:Bool
 pn:qa (qd×Obj)
 xe:qh
variable {X:Cx}
def frs(l:qa Env):qa qd:=l.filterMap (·.frame)
abbrev Cx.fs(X:Cx):qa qd:=frs X.outer
def Vis(sc:Scope)(x:qc):Prop:=sc.names.lookup x=some .local\/sc.names.lookup x=some .cell\/sc.names.lookup x=some .free
def Loc(sc:Scope)(x:qc):Prop:=sc.names.lookup x=some .local\/sc.names.lookup x=some .cell
def Look(env:Env)(h:Heap)(m:qc->Option qe)(x:qc)(u:qe):Prop:=
 (env.kindOf x=some .local/\m x=some u)\/((env.kindOf x=some .cell\/env.kindOf x=some .free)/\∃c,env.cells.lookup x=some c/\h.IsCell c (some u))
structure Cx.Ok(X:Cx):Prop where
 mod:Mod X.K X.mg X.base
 kind:X.env.scope.kind=.function
 glob:X.env.globals=mainGlobals
 blt:X.env.builtins=builtinsNs
 above:X.s₀.heap.objs.size<=X.env.locals
 inj:∀x y c,X.env.cells.lookup x=some c->X.env.cells.lookup y=some c->x=y
 has:∀x,(X.env.kindOf x=some .cell\/X.env.kindOf x=some .free)->∃c,X.env.cells.lookup x=some c
 cab:∀x c,X.fn x=true->X.env.cells.lookup x=some c->X.s₀.heap.objs.size<=c
 hd:X.calm=true->X.A.handled=none
 frames:X.A.frames=some X.stack
 gR:X.stack=X.outer\/(X.stack=X.env::X.outer/\X.env.frame=some X.env.locals)
 wM:∀b∈X.ex,b≠X.env.locals/\∀x c,X.env.cells.lookup x=some c->c≠b
 bs:∀b o,X.base.get? b=some o->X.s₀.heap.get? b=some o/\X.H₀ b=none
 vF:X.base.objs.size<=X.s₀.heap.objs.size
 va:∀b o,X.base.get? b=some o->b∉X.ex
 vb:∀b∈X.ex,b∉X.fs
 y7:X.s₀.heap.FunFrames X.base X.outer
 wI:∀b∈X.fs,X.H₀ b=none
structure Inv(X:Cx)(pins:qa (qd×Obj))(σ:qa (Option V))(H:Hp)(s:Shared):Prop where
 ok:X.Ok
 os:s.os=X.s₀.os
 bare:AllBare s.gens
 base:Un X.fs X.ex X.H₀ H X.s₀.heap s.heap
 loc:∃m,s.heap.Ns X.env.locals m/\∀(i:Nat)(x:qc)(v:V),X.N[i]?=some x->σ[i]?=some (some v)->Vis X.env.scope x->∃u,QJ v u/\Look X.env s.heap m x u
 cell:∀x c,X.env.cells.lookup x=some c->∃v,s.heap.IsCell c v
 free:H X.env.locals=none
 jR:∀x c,X.env.cells.lookup x=some c->H c=none
 pin:∀p∈X.pn++pins,s.heap.get? p.1=some p.2/\H p.1=none/\p.1≠X.env.locals/\p.1∉X.fs/\∀v,p.2.data≠.cell v
 hok:yK X.prog X.w H s.heap
 len:σ.length=X.N.length
section
variable {X:Cx}{pins:qa (qd×Obj)}{σ:qa (Option V)}{H H':Hp}{s:Shared}{h':Heap}
theorem Cx.Ok.nofr(ok:X.Ok){b:qd}{o:Obj}(e:X.base.get? b=some o):b∉X.fs:=λa=>by
 have:=(ok.y7.mem a).1;rw[e] at this;cases this
theorem Inv.bs(I:Inv X pins σ H s):∀b o,X.base.get? b=some o->s.heap.get? b=some o/\H b=none:=λb o e=>
 ⟨I.base.keep b o (I.ok.bs b o e).1 (I.ok.bs b o e).2 (I.ok.nofr e) (I.ok.va b o e),I.base.free b o (I.ok.bs b o e).1 (I.ok.bs b o e).2 (I.ok.va b o e)⟩
theorem Inv.bk(I:Inv X pins σ H s):∀b o,X.base.get? b=some o->s.heap.get? b=some o:=λb o e=>(I.bs b o e).1
theorem Inv.mod(I:Inv X pins σ H s):Mod X.K X.mg X.base:=I.ok.mod
theorem Inv.y0(I:Inv X pins σ H s):X.K.In s.heap:=I.ok.mod.wx.keeps I.bk
theorem Inv.lt(I:Inv X pins σ H s):X.env.locals<s.heap.objs.size:=let ⟨_,a,_⟩:=I.loc;a.lt
theorem Inv.sz(I:Inv X pins σ H s):X.s₀.heap.objs.size<=s.heap.objs.size:=zb I.ok.above (yl I.lt)
theorem Inv.nofs(I:Inv X pins σ H s)(h:s.heap.objs.size<=a):a∉X.fs:=λb=>by
 obtain⟨_,o,c,_⟩:=I.ok.y7.mem b;exact absurd (qU (qM c) (zb I.sz h)) (zQ _)
theorem Inv.cne(I:Inv X pins σ H s):∀x c,X.env.cells.lookup x=some c->c≠X.env.locals:=λx c e z=>by
 obtain⟨v,o,d,hd⟩:=I.cell x c e;obtain⟨m,⟨f,es,g,a,b,_⟩,_⟩:=I.loc;rw[z,a] at d;cases d;rw[b] at hd;cases hd
theorem Inv.y7(I:Inv X pins σ H s):s.heap.FunFrames X.base X.outer:=by
 have all:∀(l:qa Env),(∀b∈frs l,b∈X.fs)->X.s₀.heap.FunFrames X.base l->s.heap.FunFrames X.base l:=by
  intro l
  induction l with
  |nil=>intro _ _;trivial
  |cons env r f=>
   intro d g;obtain⟨h,⟨L,o,hf,i,j,hd⟩,k⟩:=g;have a:L∈X.fs:=d L (by unfold frs;rw[yu,hf];exact qB);obtain⟨sl,e⟩:=I.base.slot L o j (I.ok.wI L a) a λz=>I.ok.vb L z a;exact⟨h,⟨L,_,hf,i,e,hd⟩,f (λb c=>d b (by unfold frs;rw[yu,hf];exact qK _ c)) k⟩
 exact all X.outer (λ_ c=>c) I.ok.y7
theorem Inv.stack(I:Inv X pins σ H s):s.heap.FunFrames X.base X.stack:=by
 rcases I.ok.gR with e|⟨e,hf⟩
 .rw[e];exact I.y7
 .rw[e];obtain⟨m,a,_⟩:=I.loc;refine .cons (by rw[I.ok.kind];decide) hf a ?_ I.y7;exact Heap.get?_none_of_le (zb I.ok.vF I.ok.above)
theorem Inv.kh(I:Inv X pins σ H s):∀b∈frs X.stack,b∈X.env.locals::X.fs:=λb a=>by
 rcases I.ok.gR with e|⟨e,hf⟩
 .rw[e] at a;exact qK _ a
 .rw[e] at a;unfold frs at a;rw[yu,hf] at a;exact a
theorem Inv.xQ(I:Inv X pins σ H s):∀b∈frs X.stack,H b=none:=λb a=>by
 rcases qC.mp (I.kh b a) with e|a
 .rw[e];exact I.free
 .obtain⟨_,o,c,_⟩:=I.ok.y7.mem a;exact I.base.free b o c (I.ok.wI b a) λz=>I.ok.vb b z a
theorem Inv.step{g':Array GenState}{d':Drawn}(I:Inv X pins σ H s)
 (f:∀b∈ch,(b∈X.ex\/X.s₀.heap.objs.size<=b)/\b≠X.env.locals/\(∀x c,X.env.cells.lookup x=some c->c≠b)/\∀p∈X.pn++pins,p.1≠b)
 (keep:∀b o,b≠X.env.locals->b∉X.fs->b∉ch->s.heap.get? b=some o->H b=none->h'.get? b=some o)
 (slot:∀b o,b≠X.env.locals->b∈X.fs->b∉ch->s.heap.get? b=some o->H b=none->∃sl,h'.get? b=some {o with slots:=sl}) (free:∀b o,b∉ch->s.heap.get? b=some o->H b=none->H' b=none)
 (there:∀b o,b∉ch->s.heap.get? b=some o->∃y,h'.get? b=some y)
 (tups:∀b xs,H b=some (.tup xs)->H' b=some (.tup xs)) (xC:∀b o u,H b=some (.jO o u)->H' b=some (.jO o u)) (ke:∀b ps,H b=some (.gQ ps)->∃more,H' b=some (.gQ (ps++more)))
 (ns:∀m,s.heap.Ns X.env.locals m->h'.Ns X.env.locals m) (hok:yK X.prog X.w H' h') (E:AllBare g') :
 Inv X pins σ H' {s with heap:=h',gens:=g',drawn:=d',toks:=t'}:=by
 have A:∀b o,X.s₀.heap.get? b=some o->b≠X.env.locals:=λb o e=>qR (qU (qM e) I.ok.above);have h:∀b o,X.s₀.heap.get? b=some o->b∉X.ex->b∉ch:=λb o e a t=>by
  rcases (f b t).1 with z|z
  .exact a z
  .exact absurd (qU (qM e) z) (zQ _)
 have cellK:∀x c,X.env.cells.lookup x=some c->∀v,s.heap.IsCell c v->h'.IsCell c v:=λx c e v ⟨o,w,hd⟩=>by
  have g:c∉ch:=λz=>(f c z).2.2.1 x c e rfl;by_cases hc:c∈X.fs
  .obtain⟨sl,q⟩:=slot c o (I.cne x c e) hc g w (I.jR x c e);exact⟨_,q,hd⟩
  .exact⟨o,keep c o (I.cne x c e) hc g w (I.jR x c e),hd⟩
 refine⟨I.ok,I.os,E,⟨λb o e n t a=>?_,λb o e n t a=>?_,λb o e n a=>?_,λb o e a=>?_,λb xs e=>tups b xs (I.base.tups b xs e),λb o xs e=>xC b o xs (I.base.xC b o xs e),λb ps e=>?_⟩,?_,λx c e=>?_,?_,λx c e=>?_,λp D=>?_,hok,I.len⟩
 .exact keep b o (A b o e) t (h b o e a) (I.base.keep b o e n t a) (I.base.free b o e n a)
 .obtain⟨sl,j⟩:=I.base.slot b o e n t a;obtain⟨C,B⟩:=slot b _ (A b o e) t (h b o e a) j (I.base.free b o e n a);exact⟨C,B⟩
 .obtain⟨y,j⟩:=I.base.there b o e a;exact free b y (h b o e a) j (I.base.free b o e n a)
 .obtain⟨y,j⟩:=I.base.there b o e a;exact there b y (h b o e a) j
 .obtain⟨C,j⟩:=I.base.ke b ps e;obtain⟨F,B⟩:=ke b _ j;exact⟨C++F,by rw[B,Array.append_assoc]⟩
 .obtain⟨m,C,F⟩:=I.loc;refine⟨m,ns m C,λi x v j B G=>?_⟩;obtain⟨u,r,l⟩:=F i x v j B G;refine⟨u,r,?_⟩;rcases l with l|⟨k,c,e,z⟩
  .exact .inl l
  .exact .inr ⟨k,c,e,cellK x c e _ z⟩
 .obtain⟨v,z⟩:=I.cell x c e;exact⟨v,cellK x c e v z⟩
 .obtain⟨m,⟨o,_,_,w,_⟩,_⟩:=I.loc;exact free _ o (λz=>(f _ z).2.1 rfl) w I.free
 .obtain⟨v,o,w,hd⟩:=I.cell x c e;exact free c o (λz=>(f c z).2.2.1 x c e rfl) w (I.jR x c e)
 .obtain⟨e,n,ne,j,d⟩:=I.pin p D;have g:p.1∉ch:=λz=>(f p.1 z).2.2.2 p D rfl;exact⟨keep p.1 p.2 ne j g e n,free p.1 p.2 g e n,ne,j,d⟩
theorem Inv.un(I:Inv X pins σ H s)(u:Un X.fs [] H H' s.heap h')(hok:yK X.prog X.w H' h'):Inv X pins σ H' {s with heap:=h',toks:=t'}:=by
 obtain⟨m,⟨o,es,j,g,r⟩,_⟩:=id I.loc;obtain⟨sl,h⟩:=u.any g I.free (by simp);exact I.step (g':=s.gens) (d':=s.drawn) (ch:=[]) nofun (λb o _ c _ e n=>u.keep b o e n c (by simp)) (λb o _ c _ e n=>u.slot b o e n c (by simp)) (λb o _ e n=>u.free b o e n (by simp)) (λb o _ e=>u.there b o e (by simp)) u.tups u.xC u.ke (λk hm=>by
  obtain⟨l,d,f,a,i⟩:=hm;rw[g] at a;cases a;exact⟨_,d,f,h,i⟩) hok I.bare
theorem Inv.call{g':Array GenState}{d':Drawn}(I:Inv X pins σ H s)(u:Un (frs X.stack) ch H H' s.heap h')(hok:yK X.prog X.w H' h')(j:AllBare g')
 (a:∀b∈ch,(b∈X.ex\/X.s₀.heap.objs.size<=b)/\b≠X.env.locals/\(∀x c,X.env.cells.lookup x=some c->c≠b)/\∀p∈X.pn++pins,p.1≠b) :
 Inv X pins σ H' {s with heap:=h',gens:=g',drawn:=d',toks:=t'}:=by
 obtain⟨m,⟨o,es,q,i,r⟩,_⟩:=id I.loc;obtain⟨sl,f⟩:=u.any i I.free λz=>(a _ z).2.1 rfl;exact I.step (ch:=ch) a (λb o f k hc e n=>u.keep b o e n (λz=>(qC.mp (I.kh b z)).elim f k) hc) (λb o _ _ hc e n=>u.any e n hc) (λb o hc e n=>u.free b o e n hc) (λb o hc e=>u.there b o e hc) u.tups u.xC u.ke (λt hm=>by
  obtain⟨v,g,h,d,l⟩:=hm;rw[i] at d;cases d;exact⟨_,g,h,f,l⟩) hok j
theorem Inv.turned{it:qd}(I:Inv X pins σ H s)(k:∀b o,b≠it->s.heap.get? b=some o->h'.get? b=some o)(f:H it=none)(d:it≠X.env.locals)
 (g:it∈X.ex\/X.s₀.heap.objs.size<=it) (h:∀x c,X.env.cells.lookup x=some c->c≠it) (i:∀p∈X.pn++pins,p.1≠it):Inv X pins σ H {s with heap:=h',toks:=t'}:=by
 have a:∀b u,H b=some u->b≠it:=λb u e z=>by rw[z,f] at e;cases e
 refine I.step (g':=s.gens) (d':=s.drawn) (ch:=[it]) (λb j=>?_) (λb o _ _ hc e _=>k b o (λz=>hc (by simp[z])) e) (λb o _ _ hc e _=>⟨o.slots,k b o (λz=>hc (by simp[z])) e⟩) (λ_ _ _ _ n=>n)
  (λb o hc e=>⟨o,k b o (λz=>hc (by simp[z])) e⟩) (λ_ _ e=>e) (λ_ _ _ e=>e) (λb ps e=>⟨#[],by rw[e];simp⟩) (λm hm=>?_) (λb u e=>?_) I.bare
 .have e:b=it:=by simpa using j
  subst e;exact⟨g,d,h,i⟩
 .obtain⟨o,es,l,t,r⟩:=hm;exact⟨o,es,l,k _ o (jL d) t,r⟩
 .refine(I.hok b u e).stay (λc v hc q=>k c v ?_ q) (λ_ q=>q) λ_ _ q=>q;rcases hc with z|z
  .rw[z];exact a b u e
  .exact a c _ z
theorem Inv.tok(I:Inv X pins σ H s)(t:Nat):Inv X pins σ H {s with toks:=t}:=I.un (h':=s.heap) (t':=t) Un.refl I.hok
theorem Inv.kept(I:Inv X pins σ H s)(k:∀b u,s.heap.get? b=some u->h'.get? b=some u):Inv X pins σ H {s with heap:=h',toks:=t'}:=I.un (Un.kept k) (I.hok.kept k)
theorem Inv.laid(I:Inv X pins σ H s)(k:∀b u,s.heap.get? b=some u->h'.get? b=some u)(c:s.heap.objs.size<=a)(new:QP X.prog X.w (upd H a o) h' a o) :
 Inv X pins σ (upd H a o) {s with heap:=h',toks:=t'}:=I.un (Un.laid k c (I.hok.fresh c)) (I.hok.laid k c new)
theorem Inv.write{x e:qd}(I:Inv X pins σ H s)(c:Mut (H x))(he:e=x\/H e=some (.own x))(k:∀b u,b≠e->s.heap.get? b=some u->h'.get? b=some u)(a:∃u,h'.get? e=some u)
 (new:QP X.prog X.w (upd H x o) h' x o):Inv X pins σ (upd H x o) {s with heap:=h',toks:=t'}:=I.un (Un.write c he k a) (I.hok.write c he k a new)
theorem Inv.kI{a:qa (qd×Obj)}(I:Inv X pins σ H s)(h:∀p∈a,s.heap.get? p.1=some p.2/\H p.1=none/\p.1≠X.env.locals/\p.1∉X.fs/\∀v,p.2.data≠.cell v):Inv X a σ H s:=
 ⟨I.ok,I.os,I.bare,I.base,I.loc,I.cell,I.free,I.jR,λp b=>(qF.mp b).elim (λz=>I.pin p (qS _ z)) (h p),I.hok,I.len⟩
theorem Gs{N:qg}(hN:N.Nodup){j:Nat}(a:N[i]?=some x)(b:N[j]?=some x):i=j:=by
 obtain⟨e,c⟩:=zm.mp a;obtain⟨f,d⟩:=zm.mp b;exact(List.getElem_inj hN).mp (c.trans d.symm)
theorem As{E:qh}{Q:Unit->Shared->Prop}(I:Inv X pins σ H s)(hN:X.N.Nodup)(J:X.N[i]?=some x)(l:Loc X.env.scope x)(r:QJ v u)
 (h:∀s',Inv X pins (σ.set i (some v)) H s'->(∃a,Heap.SameBut a s.heap s'.heap/\(a=X.env.locals\/X.env.cells.lookup x=some a))->Q () s') (hf:X.fn x=true\/X.env.scope.names.lookup x=some .local:=by first|exact .inl rfl|exact .inr rfl|assumption):wpAny M A (storeName X.env x u) Q E s:=by
 obtain⟨m,S,hl⟩:=id I.loc;have K:(X.env.scope.kind==.class||(X.env.scope.kind==.module&&X.env.locals != X.env.globals))=false:=by rw[I.ok.kind];rfl
 have w:i<σ.length:=by rw[I.len];exact(zm.mp J).1
 have C:=I.cne;have tracked:∀{a:qd}{h':Heap},(∃o,s.heap.get? a=some o/\H a=none)->Heap.SameBut a s.heap h'->yK X.prog X.w H h':=λ{a h'} ha f b ob e=>by
  obtain⟨_,_,g⟩:=ha;refine(I.hok b ob e).stay (λc P hc q=>(f.2 c ?_).trans q) (λ_ q=>q) λ_ _ q=>q;rintro rfl;rcases hc with rfl|hc
  .rw[g] at e;cases e
  .rw[g] at hc;cases hc
 rcases l with B|B
 .refine wpAny_storeName_local B S (λh' G f=>?_) K;obtain⟨N,_,_,L,_⟩:=id S;refine h _ ⟨I.ok,I.os,I.bare,⟨λb o e n D l=>?_,λb o e n D l=>?_,I.base.free,λb o e l=>?_,I.base.tups,I.base.xC,I.base.ke⟩,⟨_,G,λj y T g t V=>?_⟩,λy c e=>?_,I.free,I.jR,λp Y=>?_,tracked ⟨N,L,I.free⟩ f,by simpa using I.len⟩ ⟨_,f,.inl rfl⟩
  .exact(f.2 b (qR (qU (qM e) I.ok.above))).trans (I.base.keep b o e n D l)
  .obtain⟨sl,g⟩:=I.base.slot b o e n D l;exact⟨sl,(f.2 b (qR (qU (qM e) I.ok.above))).trans g⟩
  .obtain⟨Z,g⟩:=I.base.there b o e l;exact⟨Z,(f.2 b (qR (qU (qM e) I.ok.above))).trans g⟩
  .by_cases F:j=i
   .subst F;rw[J] at g;cases g;rw[yL w] at t;cases t;exact⟨u,r,.inl ⟨B,by simp⟩⟩
   .rw[vL (jL F)] at t;obtain⟨u',r',q⟩:=hl j y T g t V;refine⟨u',r',?_⟩;rcases q with⟨k,e⟩|⟨k,c,e,z⟩
    .refine .inl ⟨k,?_⟩;have:y≠x:=λe=>F (Gs hN g (e▸J));simp[this,e]
    .exact .inr ⟨k,c,e,z.sameBut f (C y c e)⟩
  .obtain⟨P,z⟩:=I.cell y c e;exact⟨P,z.sameBut f (C y c e)⟩
  .obtain⟨e,n,ne,nf,d⟩:=I.pin p Y;exact⟨(f.2 p.1 ne).trans e,n,ne,nf,d⟩
 .have G:X.fn x=true:=by
   rcases hf with z|z
   .exact z
   .rw[z] at B;cases B
  obtain⟨c,hc⟩:=I.ok.has x (.inl B);obtain⟨P,z⟩:=I.cell x c hc;refine wpAny_storeName_cell I.ok.kind B hc z (λh' L f=>?_);obtain⟨oc,N,O⟩:=id z;refine h {s with heap:=h'} ⟨I.ok,I.os,I.bare,⟨λb o e n D l=>?_,λb o e n D l=>?_,I.base.free,λb o e l=>?_,I.base.tups,I.base.xC,I.base.ke⟩,⟨m,S.sameBut f (jL (C x c hc)),λj y T g t V=>?_⟩,λy R e=>?_,I.free,I.jR,λp Y=>?_,tracked ⟨oc,N,I.jR x c hc⟩ f,by simpa using I.len⟩ ⟨c,f,.inr hc⟩
  .exact(f.2 b (qR (qU (qM e) (I.ok.cab x c G hc)))).trans (I.base.keep b o e n D l)
  .obtain⟨sl,g⟩:=I.base.slot b o e n D l;exact⟨sl,(f.2 b (qR (qU (qM e) (I.ok.cab x c G hc)))).trans g⟩
  .obtain⟨Z,g⟩:=I.base.there b o e l;exact⟨Z,(f.2 b (qR (qU (qM e) (I.ok.cab x c G hc)))).trans g⟩
  .by_cases F:j=i
   .subst F;rw[J] at g;cases g;rw[yL w] at t;cases t;exact⟨u,r,.inr ⟨.inl B,c,hc,L⟩⟩
   .rw[vL (jL F)] at t;obtain⟨u',r',q⟩:=hl j y T g t V;refine⟨u',r',?_⟩;rcases q with q|⟨k,R,e,Z⟩
    .exact .inl q
    .refine .inr ⟨k,R,e,Z.sameBut f ?_⟩;rintro rfl;exact F (Gs hN g (I.ok.inj _ _ _ e hc▸J))
  .by_cases F:R=c
   .subst F;exact⟨_,L⟩
   .obtain⟨Z,z2⟩:=I.cell y R e;exact⟨Z,z2.sameBut f F⟩
  .obtain⟨e,n,ne,nf,d⟩:=I.pin p Y;refine⟨(f.2 p.1 ?_).trans e,n,ne,nf,d⟩;intro q;rw[q,N] at e;have F:oc=p.2:=qW e;exact d P (by rw[<-F];exact O)
theorem KU{E:qh}{Q:Unit->Shared->Prop}(I:Inv X pins σ H s)(hN:X.N.Nodup)(a:X.N[i]?=some x)(b:Loc X.env.scope x)(r:QJ v u)
 (h:∀s',Inv X pins (σ.set i (some v)) H s'->Q () s') (hf:X.fn x=true\/X.env.scope.names.lookup x=some .local:=by first|exact .inl rfl|exact .inr rfl|assumption):wpAny M A (storeName X.env x u) Q E s:=
 As I hN a b r (λs' c _=>h s' c) hf
theorem Inv.call'{s':Shared}(I:Inv X pins σ H s)(d:s'.os=s.os)(u:Un (frs X.stack) ch H H' s.heap s'.heap)(hok:yK X.prog X.w H' s'.heap)(f:AllBare s'.gens)
 (a:∀b∈ch,(b∈X.ex\/X.s₀.heap.objs.size<=b)/\b≠X.env.locals/\(∀x c,X.env.cells.lookup x=some c->c≠b)/\∀p∈X.pn++pins,p.1≠b):Inv X pins σ H' s':=by
 obtain⟨h',g',d',t',g⟩:=s';have e:g=s.os:=d;subst e;exact I.call (g':=g') (t':=t') (d':=d') u hok f a
end
abbrev XK:=qe->Option qd->Hp->Prop
abbrev St:=qa (Option V)
variable {σ:St}
abbrev VK:=V->Hp->Prop
variable {Q:VK}
abbrev TE:=St->Hp->VK->Prop
abbrev TT:=St->Hp->(Bool->Hp->Prop)->Prop
abbrev TA:=St->Hp->(qa V->Hp->Prop)->Prop
structure VE where
 nx:St->Hp->Prop
 rt:VK
 bk:St->Hp->Prop:=λ_ _=>False
 ct:St->Hp->Prop:=λ_ _=>False
abbrev TS:=VE->St->Hp->Prop
inductive EP(X:Cx)(pins:qa (qd×Obj))(σ:St)(Q:VK)(u:qe)(s':Shared):Prop
 |mk:∀v H',Inv X pins σ H' s'->QJ v u->Q v H'->EP X pins σ Q u s'
inductive TP(X:Cx)(pins:qa (qd×Obj))(σ:St)(Q:Bool->Hp->Prop)(b:Bool)(s':Shared):Prop
 |mk:∀H',Inv X pins σ H' s'->Q b H'->TP X pins σ Q b s'
inductive AP(X:Cx)(pins:qa (qd×Obj))(σ:St)(Q:qa V->Hp->Prop)(us:qi)(s':Shared):Prop
 |mk:∀vs H',Inv X pins σ H' s'->QB vs us->Q vs H'->AP X pins σ Q us s'
inductive SPn(X:Cx)(pins:qa (qd×Obj))(N:St->Hp->Prop)(s':Shared):Prop
 |mk:∀σ' H',Inv X pins σ' H' s'->N σ' H'->SPn X pins N s'
inductive SPr(X:Cx)(pins:qa (qd×Obj))(N:VK)(u:qe)(s':Shared):Prop
 |mk:∀v σ' H',Inv X pins σ' H' s'->QJ v u->N v H'->SPr X pins N u s'
def SP(X:Cx)(pins:qa (qd×Obj))(D:VE)(f:Flow)(s':Shared):Prop:=
 match f with
 |.next=>SPn X pins D.nx s'
 |.brk=>SPn X pins D.bk s'
 |.cont=>SPn X pins D.ct s'
 |.ret u=>SPr X pins D.rt u s'
def PE(X:Cx)(e:Expr)(t:TE):Prop:=
 ∀(pins:qa (qd×Obj))(s:Shared)(σ:St)(H:Hp)(Q:VK),Inv X pins σ H s->t σ H Q->wpAny (model X.prog X.w) X.A (eval e X.env) (EP X pins σ Q) X.xe s
def PT(X:Cx)(e:Expr)(t:TT):Prop:=
 ∀(pins:qa (qd×Obj))(s:Shared)(σ:St)(H:Hp)(Q:Bool->Hp->Prop),Inv X pins σ H s->t σ H Q->wpAny (model X.prog X.w) X.A (isTrue e X.env (eval e X.env)) (TP X pins σ Q) X.xe s
def PW(X:Cx)(e:Expr)(t:TT):Prop:=
 ∀(whole:Sem qe)(pins:qa (qd×Obj))(s:Shared)(σ:St)(H:Hp)(Q:Bool->Hp->Prop),Inv X pins σ H s->t σ H Q->wpAny (model X.prog X.w) X.A (isTrue e X.env whole) (TP X pins σ Q) X.xe s
theorem PW.pt{t:TT}(h:PW X e t):PT X e t:=h _
def PA(X:Cx)(es:qa Expr)(t:TA):Prop:=
 ∀(pos:Pos)(pins:qa (qd×Obj))(s:Shared)(σ:St)(H:Hp)(Q:qa V->Hp->Prop),Inv X pins σ H s->t σ H Q->wpAny (model X.prog X.w) X.A (spliced (backTo pos (starEach es X.env))) (AP X pins σ Q) X.xe s
def PS(X:Cx)(st:Stmt)(t:TS):Prop:=
 ∀(pins:qa (qd×Obj))(s:Shared)(σ:St)(H:Hp)(D:VE),Inv X pins σ H s->t D σ H->wpAny (model X.prog X.w) X.A (exec st X.env) (SP X pins D) X.xe s
def yU(X:Cx)(st:qa Stmt)(t:TS):Prop:=
 ∀(pins:qa (qd×Obj))(s:Shared)(σ:St)(H:Hp)(D:VE),Inv X pins σ H s->t D σ H->wpAny (model X.prog X.w) X.A (execs st X.env) (SP X pins D) X.xe s
theorem z5{α:Type}{t:Sem α}{Q Q':α->Shared->Prop}{E:qh}(h:wpAny M A t Q E s)(b:∀a s,Q a s->Q' a s):wpAny M A t Q' E s:=zy h b λ_ _ x=>x
section
variable {X:Cx}
inductive LK(i:Nat)(σ:St)(H:Hp)(Q:VK):Prop
 |mk:∀v,σ[i]?=some (some v)->Q v H->LK i σ H Q
def Se(i:Nat):TE:=λσ H Q=>LK i σ H Q
def tC(v:V):TE:=λ_ H Q=>Q v H
theorem SM(hN:X.N[i]?=some x)(f:Vis X.env.scope x)(hd:(x==("__debug__":qc))=false:=by decide)(d:(x==("__classdict__":qc))=false:=by decide):PE X (.Name x pos) (Se i):=by
 intro pins s σ H Q I h;obtain⟨v,e,h⟩:=h;obtain⟨m,g,j⟩:=I.loc;obtain⟨u,r,l⟩:=j i x v hN e f;have fin:EP X pins σ Q u s:=⟨v,H,I,r,h⟩;rcases l with⟨b,hm⟩|⟨b,c,hc,a⟩
 .exact wpAny_Name (wpAny_loadName_local I.ok.kind b g hm fin) hd
 .rcases b with b|b
  .exact wpAny_Name (wpAny_loadName_cell I.ok.kind b hc a fin) hd
  .exact wpAny_Name (wpAny_loadName_free I.ok.kind b hc a fin d) hd
theorem Qj{i j pos}:PE X (.Constant (.int i) j pos) (tC (.int i)):=λ_ _ _ H _ I h=>wpAny_Constant_int ⟨.int i,H,I.tok _,⟨_,U⟩,h⟩
theorem Uz{b j pos}:PE X (.Constant (.bool b) j pos) (tC (.bl b)):=λ_ _ _ H _ I h=>Constant_bool ⟨.bl b,H,I,U,h⟩
theorem XI{j pos}:PE X (.Constant .none j pos) (tC .non):=λ_ _ _ H _ I h=>Constant_none ⟨.non,H,I,U,h⟩
theorem Qk{x j pos}:PE X (.Constant (.str x) j pos) (tC (.str x)):=λ_ _ _ H _ I h=>Calls.Constant_str ⟨.str x,H,I.tok _,⟨_,U⟩,h⟩
def Gl(X:Cx)(x:qc):Prop:=X.env.kindOf x=some .globalImplicit
theorem WK{E:qh}{Q:qh}(I:Inv X pins σ H s)(a:Gl X x)(hm:X.mg x=some u)(h:Q u s)
 (hd:(x==("__debug__":qc))=false:=by decide):wpAny (model X.prog X.w) X.A (eval (.Name x pos) X.env) Q E s:=
 kL I.ok.kind a (Calls.loadGlobal_global (by rw[I.ok.glob];exact I.mod.glob.keeps I.bk) hm h) hd
theorem W7{E:qh}{Q:qh}(I:Inv X pins σ H s)(a:Gl X x)(hm:X.mg x=none)(b:bootBuiltins x=some u)(h:Q u s)
 (c:x≠"__name__":=by decide) (hd:(x==("__debug__":qc))=false:=by decide):wpAny (model X.prog X.w) X.A (eval (.Name x pos) X.env) Q E s:=by
 obtain⟨f,d,e⟩:=I.mod.blt;exact kL I.ok.kind a (Calls.loadGlobal_builtin (by rw[I.ok.glob];exact I.mod.glob.keeps I.bk) hm (by rw[I.ok.blt];exact d.keeps I.bk) ((e x c).trans b) h) hd
theorem WE(a:Gl X x)(hm:X.mg x=some u)(r:QJ v u)(hd:(x==("__debug__":qc))=false:=by decide):PE X (.Name x pos) (tC v):=
 λ_ _ _ H _ I h=>WK I a hm ⟨v,H,I,r,h⟩ hd
theorem YF(a:Gl X x)(hm:X.mg x=none)(b:bootBuiltins x=some u)(r:QJ v u)(c:x≠"__name__":=by decide)(hd:(x==("__debug__":qc))=false:=by decide):PE X (.Name x pos) (tC v):=
 λ_ _ _ H _ I h=>W7 I a hm b ⟨v,H,I,r,h⟩ c hd
variable {a b:Expr}{ta tb:TE}{pos:Pos}
def PC(X:Cx)(op:CmpOp)(a b:Expr)(t:TE):Prop:=
 ∀(pins:qa (qd×Obj))(s:Shared)(σ:St)(H:Hp)(Q:VK),Inv X pins σ H s->t σ H Q ->
  wpAny (model X.prog X.w) X.A (eval a X.env) (λv c=>wpAny (model X.prog X.w) X.A (eval b X.env) (λu d=>wpAny (model X.prog X.w) X.A (compareOp op v u) (EP X pins σ Q) X.xe d) X.xe c) X.xe s
theorem Nw(b:Expr)(h:op≠.In)(a:op≠.NotIn):behindInMarks op b=false:=by
 have c:(op==CmpOp.In)=false:=by cases op<;>first|rfl|exact absurd rfl h
 have d:(op==CmpOp.NotIn)=false:=by cases op<;>first|rfl|exact absurd rfl a
 cases b<;>simp[behindInMarks,c,d]
def aG(ta:TE):TE:=λσ H Q=>ta σ H λx H1=>Q (.bl (!decide (x=.non))) H1
theorem QJ.gi{x:V}{v:qe}(r:QJ x v):(v==Value.none)=decide (x=.non):=by
 cases x with
 |non=>cases r;rfl
 |bl _=>cases r;rfl
 |int _=>obtain⟨t,rfl⟩:=r;rfl
 |str _=>obtain⟨t,rfl⟩:=r;rfl
 |wc _=>obtain⟨t,rfl⟩:=r;rfl
 |flt _=>obtain⟨t,rfl⟩:=r;rfl
 |ref _=>cases r;rfl
 |ty _=>cases r;rfl
theorem Pq{j pos'}(b:PE X a ta):PC X .IsNot a (.Constant .none j pos') (aG ta):=by
 intro pins s σ H Q I h;refine z5 (b pins s σ H _ I h) λv s1 ⟨x,H1,c,d,e⟩=>?_;exact Constant_none (isnot_none_gen ⟨.bl _,H1,c,by rw[d.gi];rfl,e⟩)
inductive aR(Q:(Bool->Hp->Prop))(x:V)(H1:Hp):Prop
 |mk:∀c,x=.bl c->Q c H1->aR Q x H1
def tB(t:TE):TT:=λσ H Q=>t σ H λx H1=>aR Q x H1
theorem Y0{t:TE}(h:PC X op a b t)(e:behindInMarks op b=false:=by first|exact Nw _ ∅ ∅|rfl):PT X (.Compare a [op] [b] pos) (tB t):=by
 intro pins s σ H Q I hw;refine wpAny_isTrue_Compare1 (z5 (h pins s σ H _ I hw) λv s1 e=>z5 e λu s2 f=>z5 f λc s3 ⟨x,H1,g,i,j⟩=>?_) e;obtain⟨d,rfl,q⟩:=j;cases i;exact zI ⟨H1,g,q⟩
theorem Yk{t:TE}(h:PE X e t)(he:∀whole,isTrue e X.env whole=(do let v <-whole;standAt e.pos;holding [v] (truthy v)):=by intro _;rfl):PT X e (tB t):=by
 intro pins s σ H Q I hw;refine isTrue_plain (z5 (h pins s σ H _ I hw) λv s1 ⟨x,H1,a,b,c⟩=>?_) (he _);obtain⟨d,rfl,q⟩:=c;cases b;exact zI ⟨H1,a,q⟩
variable {tA tB':TT}{rest:qa Expr}
def tAnd(t u:TT):TT:=λσ H Q=>t σ H λc H1=>if c=true then u σ H1 Q else Q false H1
def tOr(t u:TT):TT:=λσ H Q=>t σ H λc H1=>if c=true then Q true H1 else u σ H1 Q
def tNot(t:TT):TT:=λσ H Q=>t σ H λc H1=>Q (!c) H1
theorem UX(b:PT X a tA):PW X (.BoolOp .And [a] pos) tA:=by
 intro d pins s σ H Q I h;refine isTrue_and (z5 (b pins s σ H Q I h) λc s1 e=>?_)
 cases c with
 |true=>exact isTrue_and_nil e
 |false=>exact e
theorem UQ(b:PT X a tA):PW X (.BoolOp .Or [a] pos) tA:=by
 intro d pins s σ H Q I h;refine isTrue_or (z5 (b pins s σ H Q I h) λc s1 e=>?_)
 cases c with
 |false=>exact isTrue_or_nil e
 |true=>exact e
theorem Vl(f:PT X a tA)(g:PW X (.BoolOp .And (b::rest) pos) tB'):PW X (.BoolOp .And (a::b::rest) pos) (tAnd tA tB'):=by
 intro i pins s σ H Q I h;refine isTrue_and (z5 (f pins s σ H _ I h) λc s1 ⟨H1,d,e⟩=>?_)
 cases c with
 |true=>exact g i pins s1 σ H1 Q d e
 |false=>exact⟨H1,d,e⟩
theorem Vh(f:PT X a tA)(g:PW X (.BoolOp .Or (b::rest) pos) tB'):PW X (.BoolOp .Or (a::b::rest) pos) (tOr tA tB'):=by
 intro i pins s σ H Q I h;refine isTrue_or (z5 (f pins s σ H _ I h) λc s1 ⟨H1,d,e⟩=>?_)
 cases c with
 |true=>exact⟨H1,d,e⟩
 |false=>exact g i pins s1 σ H1 Q d e
theorem Yl(b:PT X a tA):PT X (.UnaryOp .Not a pos) (tNot tA):=by
 intro pins s σ H Q I h;exact isTrue_not (z5 (b pins s σ H (λc H1=>Q (!c) H1) I h) λc s1 ⟨H1,d,e⟩=>⟨H1,d,e⟩)
inductive Fm(tb:TE)(σ:St)(Q:VK)(x:V)(H1:Hp):Prop
 |mk:∀c,x=.bl c->(if c=true then tb σ H1 Q else Q (.bl false) H1)->Fm tb σ Q x H1
def aT(ta tb:TE):TE:=λσ H Q=>ta σ H λx H1=>Fm tb σ Q x H1
inductive LM(tb:TE)(σ:St)(Q:VK)(x:V)(H1:Hp):Prop
 |mk:∀c,x=.bl c->(if c=true then Q (.bl true) H1 else tb σ H1 Q)->LM tb σ Q x H1
def tOrV(ta tb:TE):TE:=λσ H Q=>ta σ H λx H1=>LM tb σ Q x H1
inductive E9(Q:VK)(x:V)(H1:Hp):Prop
 |mk:∀c,x=.bl c->Q (.bl (!c)) H1->E9 Q x H1
def aF(ta:TE):TE:=λσ H Q=>ta σ H λx H1=>E9 Q x H1
theorem Vn{op}{t:TE}(h:PE X a t):PE X (.BoolOp op [a] pos) t:=λpins s σ H Q I hw=>BoolOp_one (h pins s σ H Q I hw)
theorem Up(f:PE X a ta)(g:PE X (.BoolOp .And (b::rest) pos) tb):PE X (.BoolOp .And (a::b::rest) pos) (aT ta tb):=by
 intro pins s σ H Q I h;refine BoolOp_and (z5 (f pins s σ H _ I h) λv s1 ⟨x,H1,e,i,d⟩=>?_);obtain⟨c,rfl,d⟩:=d;cases i;refine zI ?_
 cases c with
 |true=>exact g pins s1 σ H1 Q e d
 |false=>exact⟨.bl false,H1,e,U,d⟩
theorem bC(f:PE X a ta)(g:PE X (.BoolOp .Or (b::rest) pos) tb):PE X (.BoolOp .Or (a::b::rest) pos) (tOrV ta tb):=by
 intro pins s σ H Q I h;refine BoolOp_or (z5 (f pins s σ H _ I h) λv s1 ⟨x,H1,e,i,d⟩=>?_);obtain⟨c,rfl,d⟩:=d;cases i;refine zI ?_
 cases c with
 |false=>exact g pins s1 σ H1 Q e d
 |true=>exact⟨.bl true,H1,e,U,d⟩
theorem SO(d:PE X a ta):PE X (.UnaryOp .Not a pos) (aF ta):=by
 intro pins s σ H Q I h;refine UnaryOp_ (z5 (d pins s σ H _ I h) λv s1 ⟨x,H1,e,f,b⟩=>?_);obtain⟨c,rfl,b⟩:=b;cases f;exact not_of (zI ⟨.bl (!c),H1,e,U,b⟩)
def tIf(t:TT)(ta tb:TE):TE:=λσ H Q=>t σ H λc H1=>if c=true then ta σ H1 Q else tb σ H1 Q
theorem Gi(hc:PT X c tA)(g:PE X a ta)(i:PE X b tb):PE X (.IfExp c a b pos) (tIf tA ta tb):=by
 intro pins s σ H Q I h;refine wpAny_IfExp (z5 (hc pins s σ H _ I h) λd s1 ⟨H1,e,f⟩=>?_)
 cases d with
 |true=>exact g pins s1 σ H1 Q e f
 |false=>exact i pins s1 σ H1 Q e f
end
def zN(K:Frag)(H:Hp)(a:qd)(xs:qa V):Prop:=
 Rd H a (.lst xs) \/
  ∃(o:Obj)(its:Array qe)(n:Nat),K.lookup a=some o/\o.cls=.type "list"/\o.dict=none/\o.data=.seq its n/\its.size<=sizeLine/\QB xs its.toList
def jj(K:Frag)(H:Hp)(a:qd)(xs:qa V):Prop:=
 Rd H a (.tup xs) \/
  ∃(o:Obj)(its:Array qe)(n:Nat),K.lookup a=some o/\o.cls=.type "tuple"/\o.data=.seq its n/\its.size<=sizeLine/\QB xs its.toList
theorem QJ.abs{x:V}(r:QJ x u):Ry u=some x:=by
 cases x with
 |non=>cases r;rfl
 |bl _=>cases r;rfl
 |int _=>obtain⟨t,rfl⟩:=r;rfl
 |str _=>obtain⟨t,rfl⟩:=r;rfl
 |wc _=>obtain⟨t,rfl⟩:=r;rfl
 |flt _=>obtain⟨t,rfl⟩:=r;rfl
 |ref _=>cases r;rfl
 |ty _=>cases r;rfl
theorem QJ.inj{x:V}(r:QJ x u)(q:QJ y u):x=y:=qW (r.abs.symm.trans q.abs)
theorem QB.inj:∀{xs ys:qa V}{us:qi},QB xs us->QB ys us->xs=ys
 |_,_,_,.nil,.nil=>rfl
 |_,_,_,.cons r t,.cons a t'=>by rw[r.inj a,QB.inj t t']
section
variable {X:Cx}{pins:qa (qd×Obj)}{σ:St}{H:Hp}{s:Shared}{a:qd}{xs ys:qa V}
theorem zN.of{K:Frag}(h:H a=some (.lst xs)):zN K H a xs:=.inl (.inl h)
theorem jj.of{K:Frag}(h:H a=some (.tup xs)):jj K H a xs:=.inl (.inl h)
theorem Inv.list(I:Inv X pins σ H s)(h:zN X.K H a xs):∃its:qi,QB xs its/\PlainL s.heap a its.toArray/\xs.length<=sizeLine:=by
 rcases h with h|⟨o,its,n,b,hc,hd,c,hz,r⟩
 .obtain⟨z,its,n,r,e⟩:=h.ok I.hok;exact⟨its,r,⟨_,n,e,U,U,U⟩,z⟩
 .refine⟨its.toList,r,⟨o,n,I.y0 a o b,hc,hd,by simpa using c⟩,?_⟩;have e:=r.length;simp only[ze] at e;omega
theorem Inv.tuple(I:Inv X pins σ H s)(h:jj X.K H a xs):∃its:qi,QB xs its/\IsTup s.heap a its.toArray/\xs.length<=sizeLine:=by
 rcases h with h|⟨o,its,n,b,hc,c,hz,r⟩
 .obtain⟨z,its,r,p⟩:=h.ok I.hok;exact⟨its,r,p,z⟩
 .refine⟨its.toList,r,⟨o,I.y0 a o b,hc,n,by simpa using c⟩,?_⟩;have e:=r.length;simp only[ze] at e;omega
theorem Inv.vS(I:Inv X pins σ H s)(h:zN X.K H a xs)(h':zN X.K H a ys):xs=ys:=by
 obtain⟨its,r,⟨o,n,e,_,_,d⟩,_⟩:=I.list h;obtain⟨its',c,⟨g,i,b,_,_,d'⟩,_⟩:=I.list h';rw[e] at b;cases b;rw[d] at d'
 injection d' with f _
 have:its=its':=by simpa using zt Array.toList f
 subst this;exact r.inj c
end
abbrev Cx.wish(X:Cx)(E:qh):Cx:={X with xe:=E}
abbrev Cx.uk(X:Cx):Cx:=X.wish λ_ _=>False
theorem Cx.Ok.wish(ok:X.Ok)(E:qh):(X.wish E).Ok:=
 ⟨ok.mod,ok.kind,ok.glob,ok.blt,ok.above,ok.inj,ok.has,ok.cab,ok.hd,ok.frames,ok.gR,ok.wM,ok.bs,ok.vF,ok.va,ok.vb,ok.y7,ok.wI⟩
theorem Cx.Ok.xg{E:qh}(ok:(X.wish E).Ok):X.Ok:=
 ⟨ok.mod,ok.kind,ok.glob,ok.blt,ok.above,ok.inj,ok.has,ok.cab,ok.hd,ok.frames,ok.gR,ok.wM,ok.bs,ok.vF,ok.va,ok.vb,ok.y7,ok.wI⟩
section
variable {X:Cx}{pins:qa (qd×Obj)}{σ:St}{H:Hp}{s:Shared}{E:qh}
theorem Inv.wish(I:Inv X pins σ H s)(E:qh):Inv (X.wish E) pins σ H s:=⟨I.ok.wish E,I.os,I.bare,I.base,I.loc,I.cell,I.free,I.jR,I.pin,I.hok,I.len⟩
theorem Inv.xg(I:Inv (X.wish E) pins σ H s):Inv X pins σ H s:=⟨I.ok.xg,I.os,I.bare,I.base,I.loc,I.cell,I.free,I.jR,I.pin,I.hok,I.len⟩
theorem SP.xg{D:VE}{f:Flow}{s':Shared}(h:SP (X.wish E) pins D f s'):SP X pins D f s':=by
 cases f with
 |next=>obtain⟨a,H',I,q⟩:=h;exact⟨a,H',I.xg,q⟩
 |brk=>obtain⟨a,H',I,q⟩:=h;exact⟨a,H',I.xg,q⟩
 |cont=>obtain⟨a,H',I,q⟩:=h;exact⟨a,H',I.xg,q⟩
 |ret u=>obtain⟨v,a,H',I,r,q⟩:=h;exact⟨v,a,H',I.xg,r,q⟩
theorem yU.uk{st:qa Stmt}{t:TS}(h:yU X.uk st t):yU X st t:=λpins s σ H D I hw=>
 zy (h pins s σ H D (I.wish _) hw) (λ_ _ q=>q.xg) λ_ _ z=>False.elim z
end
section
variable {X:Cx}{st:Stmt}{rest:qa Stmt}{t u:TS}{e:Expr}{te:TE}{pos:Pos}
def LN:TS:=λD σ H=>D.nx σ H
def V0(t u:TS):TS:=λD σ H=>t {D with nx:=u D} σ H
theorem Qq:yU X [] LN:=λ_ _ σ H _ I h=>wh ⟨σ,H,I,h⟩
theorem Qd(b:PS X st t)(c:yU X rest u):yU X (st::rest) (V0 t u):=by
 intro pins s σ H D I h;refine wpAny_execs_cons (z5 (b pins s σ H {D with nx:=u D} I h) λf s1 q=>?_)
 cases f with
 |next=>
  obtain⟨a,H',d,q⟩:=q;exact c pins s1 a H' D d q
 |ret v=>exact q
 |brk=>exact q
 |cont=>exact q
theorem Qe(a:PS X st t):yU X [st] t:=by
 intro pins s σ H D I h;refine wpAny_execs_cons (z5 (a pins s σ H D I h) λf s1 q=>?_)
 cases f with
 |next=>exact wh q
 |ret v=>exact q
 |brk=>exact q
 |cont=>exact q
theorem Inv.quiet(I:Inv X pins σ H s):interactive X.env=false:=by simp[interactive,I.ok.kind]
def aN(te:TE):TS:=λD σ H=>te σ H λ_ H1=>D.nx σ H1
theorem Qw(he:PE X e te)(a:swapsWith e none pos.line X.env=pure false:=by rfl):PS X (.Expr e pos) (aN te):=by
 intro pins s σ H D I h;exact wpAny_Expr_any (z5 (he pins s σ H _ I h) λv s1 ⟨x,H1,b,d,c⟩=>⟨σ,H1,b,c⟩) I.quiet a
def tRet(te:TE):TS:=λD σ H=>te σ H D.rt
theorem Qp(he:PE X e te):PS X (.Return (some e) pos) (tRet te):=by
 intro pins s σ H D I h;exact wpAny_Return_some (z5 (he pins s σ H _ I h) λv s1 ⟨x,H1,a,b,c⟩=>⟨x,σ,H1,a,b,c⟩)
def aD:TS:=λD _ H=>D.rt .non H
theorem Hm:PS X (.Return none pos) aD:=λ_ _ σ H _ I h=>wpAny_Return_none ⟨.non,σ,H,I,U,h⟩
def O1(c:TT)(t u:TS):TS:=λD σ H=>c σ H λb H1=>if b=true then t D σ H1 else u D σ H1
theorem QG{a b:qa Stmt}{e:TT}(hc:PT X c e)(i:yU X a t)(j:yU X b u):PS X (.If c a b pos) (O1 e t u):=by
 intro pins s σ H D I h;refine wpAny_If (z5 (hc pins s σ H _ I h) λd s1 ⟨H1,f,g⟩=>?_)
 cases d with
 |true=>exact i pins s1 σ H1 D f g
 |false=>exact j pins s1 σ H1 D f g
def LO:TS:=λ_ _ _=>False
theorem Yw:PS X st LO:=λ_ _ _ _ _ _ h=>h.elim
theorem YT{a:qa Stmt}:yU X a LO:=λ_ _ _ _ _ _ h=>h.elim
end
abbrev TG:=V->St->Hp->(St->Hp->Prop)->Prop
variable {g:TG}
abbrev uG:=qa V->St->Hp->(St->Hp->Prop)->Prop
def PG(X:Cx)(target:Expr)(t:TG):Prop:=
 ∀(pins:qa (qd×Obj))(s:Shared)(σ:St)(H:Hp)(v:V)(u:qe)(Q:St->Hp->Prop),Inv X pins σ H s->QJ v u->t v σ H Q ->
  wpAny (model X.prog X.w) X.A (assign target X.env u) (λ_ s'=>∃a H',Inv X pins a H' s'/\Q a H') X.xe s
def PGs(X:Cx)(b:qa Expr)(t:uG):Prop:=
 ∀(pins:qa (qd×Obj))(s:Shared)(σ:St)(H:Hp)(vs:qa V)(us:qi)(Q:St->Hp->Prop),Inv X pins σ H s->QB vs us->t vs σ H Q ->
  wpAny (model X.prog X.w) X.A (assignInOrder ((assignEach b X.env).map (·.2)) us) (λ_ s'=>∃a H',Inv X pins a H' s'/\Q a H') X.xe s
section
variable {X:Cx}{pos:Pos}
def Q8(i:Nat):TG:=λv σ H Q=>Q (σ.set i (some v)) H
theorem Yc(hN:X.N.Nodup)(a:X.N[i]?=some x:=by rfl)(b:Loc X.env.scope x:=by first|exact Or.inl rfl|exact Or.inr rfl)(hf:X.fn x=true\/X.env.scope.names.lookup x=some .local:=by first|exact .inl rfl|exact .inr rfl|assumption):PG X (.Name x pos) (Q8 i):=by
 intro pins s σ H v u Q I r h;exact wpAny_assign_Name (KU I hN a b r (λs' c=>⟨_,H,c,h⟩) hf)
def TB:uG:=λvs σ H Q=>vs=[]/\Q σ H
def A0(t:TG)(u:uG):uG:=λvs σ H Q=>∃v r,vs=v::r/\t v σ H λa H'=>u r a H' Q
theorem Bs:PGs X [] TB:=by
 intro pins s σ H vs us Q I r h;obtain⟨e,h⟩:=h;subst e;cases r;exact assignInOrder_nil ⟨σ,H,I,h⟩
theorem U4{es:qa Expr}{t:TG}{u:uG}(b:PG X e t)(c:PGs X es u)
 (d:(assignEach (e::es) X.env).map (·.2)=assign e X.env::(assignEach es X.env).map (·.2):=by rfl):PGs X (e::es) (A0 t u):=by
 intro pins s σ H vs us Q I r h;obtain⟨v,k,f,h⟩:=h;subst f
 cases r with
 |cons r g=>
  rw[d];refine assignInOrder_cons (z5 (b pins s σ H _ _ _ I r h) λ_ s1 ⟨a,H1,i,j⟩=>?_);exact c pins s1 a H1 _ _ Q i g j
def Tz(K:Frag)(n:Nat)(t:uG):TG:=λv σ H Q=>∃a xs,v=.ref a/\jj K H a xs/\xs.length=n/\t xs σ H Q
theorem Ee{es:qa Expr}{k:Nat}{t:uG}(hc:X.calm=true)(h:PGs X es t)
 (f:(assignEach es X.env).length=n:=by rfl) (c:(assignEach es X.env).findIdx? (·.1)=none:=by rfl):PG X (.Tuple es k pos) (Tz X.K n t):=by
 intro pins s σ H v u Q I r hw;obtain⟨a,xs,g,i,j,hw⟩:=hw;subst g;cases r;obtain⟨its,d,l,hz⟩:=I.tuple i;refine assign_Tuple_tuple (I.ok.hd hc) l (by simp[f,<-j,d.length]) c λh' m=>?_;have p:Inv X pins σ H {s with heap:=h'}:=I.kept (t':=s.toks) λb o e=>m b o (qR (qM e)) e;exact h pins _ σ H xs _ Q p (by simpa using d) hw
def LX(a:TE)(g:TG):TS:=λD σ H=>a σ H λx H1=>g x σ H1 D.nx
theorem Qv{a:TE}{pos':Pos}(hN:X.N.Nodup)(he:PE X e a)(b:X.N[i]?=some x:=by rfl)(c:Loc X.env.scope x:=by first|exact Or.inl rfl|exact Or.inr rfl)(d:swapsWith e (some (.Name x pos')) pos.line X.env=pure false:=by rfl)(hf:X.fn x=true\/X.env.scope.names.lookup x=some .local:=by first|exact .inl rfl|exact .inr rfl|assumption) :
 PS X (.Assign [.Name x pos'] e pos) (LX a (Q8 i)):=by
 intro pins s σ H D I h;refine wpAny_Assign_Name (z5 (he pins s σ H _ I h) λv s1 ⟨y,H1,f,g,j⟩=>?_) d;exact KU f hN b c g (λs2 k=>⟨_,H1,k,j⟩) hf
end
section
variable {X:Cx}{pos:Pos}
inductive B2(c:TT)(tb:TS)(D:VE)(σ:St)(H:Hp):Prop
 |mk:∀W:Nat->St->Hp->Prop,(∃m,W m σ H)->(∀m σ H,W m σ H->c σ H λb H1=>if b=true then ∃N:St->Hp->Prop,(∀σ' H',N σ' H'->∃m',m'<m/\W m' σ' H')/\tb {D with nx:=N,ct:=N,bk:=D.nx} σ H1 else D.nx σ H1)->B2 c tb D σ H
def Sd(c:TT)(tb:TS):TS:=λD σ H=>B2 c tb D σ H
theorem MK{p:TT}{tb:TS}(q:PassesOwn (model X.prog X.w) X.A X.env X.xe)(hc:PT X c p)(u:yU X body tb):PS X (.While c body [] pos) (Sd p tb):=by
 intro pins s σ H D I h;obtain⟨W,⟨m0,w⟩,turn⟩:=h;refine wpAny_While (codeAny_whileLoop (λn s'=>∃e H',Inv X pins e H' s'/\W n e H') ?_ m0 ⟨σ,H,I,w⟩);rintro n s1 ⟨d,H1,x,y⟩;refine yj q (z5 (hc pins s1 d H1 _ x (turn n d H1 y)) λb s2 ⟨r,t,i⟩=>?_)
 cases b with
 |true=>
  obtain⟨N,hN,i⟩:=i;rw[qP rfl];refine yj q (z5 (u pins s2 d r _ t i) λf s3 j=>?_)
  cases f with
  |next=>
   obtain⟨a,g,k,l⟩:=j;obtain⟨m,hm,o⟩:=hN a g l;exact⟨m,hm,a,g,k,o⟩
  |cont=>
   obtain⟨a,g,k,l⟩:=j;obtain⟨m,hm,o⟩:=hN a g l;exact⟨m,hm,a,g,k,o⟩
  |brk=>exact j
  |ret v=>exact j
 |false=>
  rw[qJ qO];exact wh ⟨d,r,t,i⟩
end
structure It where
 go:Nat->Hp->Prop
 yld:Nat->Hp->V->Hp->Prop
 stop:Nat->Hp->Prop
def X5(X:Cx)(pins:qa (qd×Obj))(H:Hp)(b:qd):Prop:=
 H b=none/\b≠X.env.locals/\b∉X.fs/\(b∈X.ex\/X.s₀.heap.objs.size<=b)/\(∀x c,X.env.cells.lookup x=some c->c≠b)/\∀p∈X.pn++pins,p.1≠b
theorem Inv.vC{H':Hp}{b:qd}(I:Inv X pins σ H s)(a:s.heap.objs.size<=b)(d:H' b=none):X5 X pins H' b:=by
 refine⟨d,jZ (qU I.lt a),I.nofs a,.inr (zb I.sz a),λx c e z=>?_,λp f z=>?_⟩
 .obtain⟨v,q⟩:=I.cell x c e;exact absurd (qU q.lt (by rw[z];exact a)) (zQ _)
 .exact absurd (qU (qM (I.pin p f).1) (by rw[z];exact a)) (zQ _)
structure EV(P:Program)(w:World)(K:Frag)(tg:Expr)(J:It)(fp:qa qd)(it:qd)(tn:Nat->Heap->Prop):Prop where
 mem:it∈fp
 obj:∀i h,tn i h->∀b∈fp,∃o,h.get? b=some o/\∀v,o.data≠.cell v
 keep:∀i h h',tn i h->(∀b∈fp,∀o,h.get? b=some o->h'.get? b=some o)->tn i h'
 item:∀(X:Cx),X.prog=P->X.w=w->X.K=K->X.calm=true->∀(i:Nat)(pins:qa (qd×Obj))(s:Shared)(σ:St)(H:Hp)(E:qh),Inv X pins σ H s->(∀b∈fp,X5 X pins H b)->tn i s.heap->J.go i H ->
  wpAny (model P w) X.A (pyNext (.ref it)) (λr s1=>∃u,r=some u /\
   wpAny (model P w) X.A (letOwnedTupleGo tg (.ref it) u) (λ_ s2=>∃x H',Inv X pins σ H' s2/\QJ x u/\J.yld i H x H'/\tn (i+1) s2.heap/\∀b∈fp,H' b=none) E s1) E s
 done:∀(X:Cx),X.prog=P->X.w=w->X.K=K->X.calm=true->∀(i:Nat)(pins:qa (qd×Obj))(s:Shared)(σ:St)(H:Hp)(E:qh),Inv X pins σ H s->(∀b∈fp,X5 X pins H b)->tn i s.heap->J.stop i H ->
  wpAny (model P w) X.A (pyNext (.ref it)) (λr s1=>r=none/\Inv X pins σ H s1) E s
 self:∀(A:Around)(i:Nat)(s:Shared)(Q:qh)(E:qh),tn i s.heap->Q (.ref it) s->wpAny (model P w) A (pyIter (.ref it)) Q E s
abbrev TI:=St->Hp->(It->Hp->Prop)->Prop
def PIE(X:Cx)(pins:qa (qd×Obj))(σ:St)(tg:Expr)(R:It->Hp->Prop)(a:qe)(s2:Shared):Prop:=
 ∃(it:qd)(c:qa qd)(d:Nat->Heap->Prop)(J:It)(H':Hp),a=.ref it/\Inv X pins σ H' s2/\EV X.prog X.w X.K tg J c it d/\d 0 s2.heap/\(∀b∈c,X5 X pins H' b)/\R J H'
def PI(X:Cx)(tg iter:Expr)(a:TI):Prop:=
 ∀(pins:qa (qd×Obj))(s:Shared)(σ:St)(H:Hp)(R:It->Hp->Prop),Inv X pins σ H s->a σ H R ->
  wpAny (model X.prog X.w) X.A (eval iter X.env) (λv s1=>wpAny (model X.prog X.w) X.A (pyIter v) (PIE X pins σ tg R) X.xe s1) X.xe s
theorem Dx{E:qh}{it:qd}{o:Obj}{n:String}{vs:Array qe}{Q:Unit->Shared->Prop}(b:s.heap.get? it=some o)(hc:o.cls=.type n)(hd:o.data=.fields vs)
 (c:["enumerate","zip","dict_itemiterator","dict_reverseitemiterator","odict_iterator","itertools.zip_longest","itertools.pairwise"].contains n=false) (a:Q () s):wpAny M A (letOwnedTupleGo tg (.ref it) u) Q E s:=by
 unfold letOwnedTupleGo;cases tg<;>first
  |exact qq a
  |(cases u<;>first
     |exact qq a
     |(refine qk (wpAny_load b ?_)
       rw[hc,hd];show wpAny M A (if (["enumerate","zip","dict_itemiterator","dict_reverseitemiterator","odict_iterator","itertools.zip_longest","itertools.pairwise"].contains n&&vs[0]?==some (rawInt _))=true then _ else _) Q E s;rw[qJ (by intro h;rw[c,jw] at h;cases h)];exact qq a))
def g7(K:Frag)(a:qd):It:=
 ⟨λi H=>∃xs x,zN K H a xs/\xs[i]?=some x,λi H x H'=>H'=H/\∀xs,zN K H a xs->xs[i]?=some x,λi H=>∃xs,zN K H a xs/\xs.length<=i⟩
def Itr(lo:Int)(n:Nat):It:=⟨λi _=>i<n,λi H x H'=>H'=H/\x=.int (lo+i),λi _=>n<=i⟩
theorem Ii{K:Frag}(a it:qd):EV P w K tg (g7 K a) [it] it (λi h=>h.IsListIter it a i) where
 mem:=by simp
 obj:=λi h st b f=>by
  have e:b=it:=by simpa using f
  subst e;obtain⟨o,e,c,d⟩:=st;exact⟨o,e,λv z=>by rw[d] at z;cases z⟩
 keep:=λi h h' st k=>st.at λo e=>k it (by simp) o e
 item:=by
  intro X l hw m hc i pins s σ H E I hf st n;subst l hw m;obtain⟨xs,x,j,q⟩:=n;obtain⟨its,r,p,hz⟩:=I.list j;obtain⟨u,A,B⟩:=r.get q;obtain⟨f0,f1,f2,t,f4,y⟩:=hf it (by simp);refine wpAny_pyNext_list_item st p.isList (x:=u) (by simpa using A) λh' g C=>?_;have D:Inv X pins σ H {s with heap:=h'}:=I.turned (t':=s.toks) (λb o f e=>(C.2 b f).trans e) f0 f1 t f4 y;obtain⟨o,e,c,d⟩:=id g;exact⟨u,U,Dx (s:={s with heap:=h'}) e c d ∅ ⟨x,H,D,B,⟨U,λys F=>by rw[I.vS F j];exact q⟩,g,λb f=>(hf b f).1⟩⟩
 done:=by
  intro X l hw m hc i pins s σ H E I hf st n;subst l hw m;obtain⟨xs,j,q⟩:=n;obtain⟨its,r,p,hz⟩:=I.list j;obtain⟨f0,f1,f2,t,f4,y⟩:=hf it (by simp);have A:=r.length;exact wpAny_pyNext_list_end (I.ok.hd hc) st p.isList (by simp;omega) λh' g=>⟨U,I.turned (t':=s.toks) (λb o f e=>g b o f e) f0 f1 t f4 y⟩
 self:=λ_ _ _ _ _ st h=>wpAny_pyIter_listiter st h
theorem DZ{K:Frag}(it:qd)(lo:Int)(n:Nat):EV P w K tg (Itr lo n) [it] it (λi h=>IsRangeIter h it (lo+(i:Nat)*1) ((n:Int)-(i:Nat)) 1) where
 mem:=by simp
 obj:=λi h st b a=>by
  have e:b=it:=by simpa using a
  subst e;exact⟨_,st,λv z=>by
   have c:Data.fields _=Data.cell v:=z;cases c⟩
 keep:=λi h h' st k=>k it (by simp) _ st
 item:=by
  intro X d hw f hc i pins s σ H E I hf st g;subst d hw f;obtain⟨f0,f1,f2,j,f4,l⟩:=hf it (by simp);have W:=Walks.range (prog:=X.prog) (w:=X.w) (I.ok.hd hc) it lo 1 n;refine W.item i s _ _ g st λv h' m p c q=>?_;obtain⟨t,rfl⟩:=p;have r:Inv X pins σ H {s with heap:=h',toks:=m}:=I.turned (λb o a e=>q b o (by simpa using a) e) f0 f1 j f4 l;refine⟨_,U,Dx (s:={s with heap:=h',toks:=m}) (n:="range_iterator") c rfl rfl ∅ ⟨.int (lo+i),H,r,⟨t,?_⟩,⟨U,U⟩,c,λb a=>(hf b a).1⟩⟩;rw[Int.mul_one]
 done:=by
  intro X d hw f hc i pins s σ H E I hf st g;subst d hw f;obtain⟨f0,f1,f2,j,f4,l⟩:=hf it (by simp);exact wpAny_pyNext_range_end (I.ok.hd hc) st (by have:n<=i:=g;omega) λh' c=>⟨U,I.turned (t':=s.toks) (λb o a e=>c b o a e) f0 f1 j f4 l⟩
 self:=λ_ _ _ _ _ st h=>wpAny_pyIter_rangeiter st h
section
variable {X:Cx}{tg:Expr}
inductive HI(K:Frag)(R:(It->Hp->Prop))(x:V)(H1:Hp):Prop
 |mk:∀a,x=.ref a->(∃xs,zN K H1 a xs)->R (g7 K a) H1->HI K R x H1
def bT(K:Frag)(a:TE):TI:=λσ H R=>a σ H λx H1=>HI K R x H1
theorem Yt{l:Expr}{d:TE}(f:PE X l d):PI X tg l (bT X.K d):=by
 intro pins s σ H R I h;refine z5 (f pins s σ H _ I h) λv s1 ⟨x,H1,c,g,i⟩=>?_;obtain⟨a,e,⟨xs,j⟩,q⟩:=i;subst e;cases g;obtain⟨its,m,p,hz⟩:=c.list j;refine wpAny_pyIter_list p.isList ?_;refine⟨s1.heap.objs.size,[s1.heap.objs.size],_,_,H1,U,c.kept (t':=s1.toks) λb o e=>qr _ e,Ii a _,⟨_,qI _ rfl,U,U⟩,λb k=>?_,q⟩;have e:b=s1.heap.objs.size:=by simpa using k
 subst e;exact c.vC (qz _) (c.hok.fresh (qz _))
theorem Ms{R:It->Hp->Prop}{E:qh}{lo a:Int}{t u v:Tok}{c:Nat}(I:Inv X pins σ H s)(f : -(2^62)<=lo)(g:lo<2^62)(h : -(2^62)<=a)(i:a<2^62)
 (q:R (Itr lo (a-lo).toNat) H):wpAny (model X.prog X.w) X.A (pyIter (.ref s.heap.objs.size)) (PIE X pins σ tg R) E {s with heap:=s.heap.push {cls:=.type "range",data:=.fields #[.int lo t,.int a u,.int 1 v]},toks:=c}:=by
 refine wpAny_pyIter_range (IsRange.new ..) (small_one f g h i) ?_;have d:Inv X pins σ H {s with heap:=s.heap.push {cls:=.type "range",data:=.fields #[.int lo t,.int a u,.int 1 v]},toks:=c}:=I.kept λb o e=>qr _ e;refine⟨(s.heap.push {cls:=.type "range",data:=.fields #[.int lo t,.int a u,.int 1 v]}).objs.size,[(s.heap.push {cls:=.type "range",data:=.fields #[.int lo t,.int a u,.int 1 v]}).objs.size],_,_,H,U,
  d.kept (t':=c) λb o e=>qr _ e,DZ _ lo (a-lo).toNat,?_,λb j=>?_,q⟩
 .have k:lo+((0:Nat):Int)*1=lo:=by simp
  have l:(((a-lo).toNat:Nat):Int)-((0:Nat):Int)=Builtin.Range.rangeSize lo a 1:=by rw[rangeSize_one];split<;>omega
  show IsRangeIter _ _ (lo+((0:Nat):Int)*1) ((((a-lo).toNat:Nat):Int)-((0:Nat):Int)) 1;rw[k,l];exact qI _ rfl
 .have e:b=(s.heap.push {cls:=.type "range",data:=.fields #[.int lo t,.int a u,.int 1 v]}).objs.size:=by simpa using j
  subst e;exact d.vC (qz _) (d.hok.fresh (qz _))
inductive HH(R:(It->Hp->Prop))(vs:qa V)(H1:Hp):Prop
 |mk:∀j:Int,vs=[.int j]->-(2^62)<=j->j<2^62->R (Itr 0 j.toNat) H1->HH R vs H1
def bS(a:TA):TI:=λσ H R=>a σ H λvs H1=>HH R vs H1
theorem WD{a:Expr}{c:TA}{p:Pos}(d:Gl X "range")(hm:X.mg "range"=none)(f:PA X [a] c)(g:starEach [a] X.env=[(false,eval a X.env)]:=by rfl):PI X tg (.Call (.Name "range" p) [a] [] pos) (bS c):=by
 intro pins s σ H R I h;refine Call_ (W7 I d hm boot_range (xA (z5 (f pos pins s σ H _ I h) λus s1 ⟨vs,H1,i,k,b⟩=>?_) g rfl));obtain⟨j,e,b,l,q⟩:=b;subst e
 cases k with
 |cons r m=>
  cases m;obtain⟨t,rfl⟩:=r;exact call_range_1 (Ms i ⋯ ⋯ b l (by simpa using q))
inductive KR(g:TG)(tb:TS)(D:VE)(σ:St)(J:It)(H1:Hp):Prop
 |mk:∀W:Nat->Nat->St->Hp->Prop,(∃m,W 0 m σ H1)->(∀i m σ H,W i m σ H->(J.stop i H/\D.nx σ H)\/(J.go i H/\∃N:St->Hp->Prop,(∀σ' H',N σ' H'->∃m',m'<m/\W (i+1) m' σ' H')/\∀x H',J.yld i H x H'->g x σ H' λσ2 H2=>tb {D with nx:=N,ct:=N,bk:=D.nx} σ2 H2))->KR g tb D σ J H1
def tFor(a:TI)(g:TG)(tb:TS):TS:=λD σ H=>a σ H λJ H1=>KR g tb D σ J H1
def Vm(a:qa qd)(h:Heap):qa (qd×Obj):=a.filterMap λb=>(h.get? b).map λo=>(b,o)
theorem YO{a:qa qd}{b:qd}{o:Obj}(c:b∈a)(e:h.get? b=some o):(b,o)∈Vm a h:=wD.mpr ⟨b,c,by rw[e];rfl⟩
theorem IP{a:qa qd}{p:qd×Obj}(c:p∈Vm a h):p.1∈a/\h.get? p.1=some p.2:=by
 obtain⟨b,d,e⟩:=wD.mp c
 cases q:h.get? b with
 |none=>rw[q] at e;cases e
 |some o=>
  rw[q] at e;have f:(b,o)=p:=qW e;subst f;exact⟨d,q⟩
theorem Inv.pinned{a:qa qd}(I:Inv X pins σ H s)(hf:∀b∈a,X5 X pins H b)(g:∀b∈a,∃o,s.heap.get? b=some o/\∀v,o.data≠.cell v):Inv X (pins++Vm a s.heap) σ H s:=
 I.kI λp h=>(qF.mp h).elim (λz=>I.pin p (qy _ z)) λz=>by
  obtain⟨c,e⟩:=IP z;obtain⟨f0,f1,f2,_⟩:=hf p.1 c;obtain⟨o,f,d⟩:=g p.1 c;rw[e] at f;cases f;exact⟨e,f0,f1,f2,d⟩
theorem Inv.yS{pl:qa (qd×Obj)}(I:Inv X (pins++pl) σ H s):Inv X pins σ H s:=I.kI λp a=>I.pin p (qy _ (qS _ a))
theorem Y9{iter:Expr}{Q:TI}{tb:TS}(y:PassesOwn (model X.prog X.w) X.A X.env X.xe)(hc:X.calm=true)(Z:PI X tg iter Q)(hg:PG X tg g)(c:yU X body tb)
 (hs:∀x,foldedSetIterable iter X.env x=pure x:=by intro _;rfl):PS X (.For tg iter body [] pos) (tFor Q g tb):=by
 intro pins s σ H D I h;refine wpAny_For (z5 (Z pins s σ H _ I h) λv s1 h1=>z5 h1 λitv s2 h2=>?_) hs;obtain⟨it,z,R,J,H2,e,I2,T,F,f2,W,⟨m0,w0⟩,turn⟩:=h2;subst e;have j:∀{H':Hp},(∀b∈z,H' b=none)->∀b∈z,X5 X pins H' b:=λhn b c=>⟨hn b c,(f2 b c).2⟩;refine codeAny_forLoop_any (λn s'=>∃i k H',Inv X pins k H' s'/\R i s'.heap/\(∀b∈z,H' b=none)/\W i n k H') ?_ m0 ⟨0,σ,H2,I2,F,λb c=>(f2 b c).1,w0⟩;rintro n s3 ⟨i,l,E,V,A,B,w3⟩;rcases turn i n l E w3 with⟨stop,qn⟩|⟨go,N,hN,step⟩
 .refine yj y (z5 (T.done X rfl rfl rfl hc i pins s3 l E X.xe V (j B) A stop) λr s4 ⟨K,a⟩=>?_);subst K;exact wh ⟨l,E,a,qn⟩
 .refine yj y (z5 (T.item X rfl rfl rfl hc i pins s3 l E X.xe V (j B) A go) λr s4 ⟨u,K,h4⟩=>?_);subst K;refine yj y (z5 h4 λ_ s5 ⟨x,Y,I5,r5,y5,w,L⟩=>?_);have M:=I5.pinned (j L) (T.obj _ _ w);refine yj y (z5 (hg _ s5 l Y x u _ M r5 (step x Y y5)) λ_ s6 ⟨O,H6,I6,q6⟩=>?_);refine yj y (z5 (c _ s6 O H6 _ I6 q6) λf P t=>?_);have again:∀{a:St}{p:Hp},Inv X (pins++Vm z s5.heap) a p P->N a p->∃m,m<n/\∃i k H',Inv X pins k H' P/\R i P.heap/\(∀b∈z,H' b=none)/\W i m k H':=λ{a p} q C=>by
   obtain⟨m',hm,w7⟩:=hN a p C;refine⟨m',hm,i+1,a,p,q.yS,T.keep _ _ _ w λb c o e=>(q.pin (b,o) (qy _ (qy _ (YO c e)))).1,λb c=>?_,w7⟩;obtain⟨o,e,d⟩:=T.obj _ _ w b c;exact(q.pin (b,o) (qy _ (qy _ (YO c e)))).2.1
  cases f with
  |next=>obtain⟨a,p,q,C⟩:=t;exact again q C
  |cont=>obtain⟨a,p,q,C⟩:=t;exact again q C
  |brk=>obtain⟨a,p,q,t⟩:=t;exact⟨a,p,q.yS,t⟩
  |ret v=>obtain⟨x7,a,p,q,r7,t⟩:=t;exact⟨x7,a,p,q.yS,r7,t⟩
end
theorem YQ{K:Frag}{tb:TS}{D:VE}(Pv:Nat->St->Hp->Prop)(h0:Pv 0 σ H)(d:∀i σ H,i<=xs.length->Pv i σ H->zN K H a xs)
 (f:∀i x σ H,xs[i]?=some x->Pv i σ H->g x σ H λc h=>tb {D with nx:=Pv (i+1),ct:=Pv (i+1),bk:=D.nx} c h) (hd:∀σ H,Pv xs.length σ H->D.nx σ H) :
 KR g tb D σ (g7 K a) H:=by
 refine⟨λi m σ H=>m=xs.length-i/\i<=xs.length/\Pv i σ H,⟨xs.length,by simp,za _,h0⟩,?_⟩;rintro i m σ H ⟨rfl,j,p⟩;have q:=d i σ H j p;by_cases b:i<xs.length
 .refine .inr ⟨⟨xs,xs[i],q,by simp[b]⟩,Pv (i+1),λk H' l=>⟨xs.length-(i+1),⋯,U,b,l⟩,λx H' y=>?_⟩;obtain⟨e,y⟩:=y;subst e;exact f i x σ _ (y xs q) p
 .have e:i=xs.length:=by omega
  subst e;exact .inl ⟨⟨xs,q,qz _⟩,hd σ H p⟩
theorem XU{lo:Int}{tb:TS}{D:VE}(Pv:Nat->St->Hp->Prop)(h0:Pv 0 σ H)
 (c:∀i σ H,i<n->Pv i σ H->g (.int (lo+i)) σ H λb d=>tb {D with nx:=Pv (i+1),ct:=Pv (i+1),bk:=D.nx} b d) (hd:∀σ H,Pv n σ H->D.nx σ H) :
 KR g tb D σ (Itr lo n) H:=by
 refine⟨λi m σ H=>m=n-i/\i<=n/\Pv i σ H,⟨n,by simp,za _,h0⟩,?_⟩;rintro i m σ H ⟨rfl,j,p⟩;by_cases a:i<n
 .refine .inr ⟨a,Pv (i+1),λf H' h=>⟨n-(i+1),⋯,U,a,h⟩,λx H' y=>?_⟩;obtain⟨e,y⟩:=y;subst e y;exact c i σ _ a p
 .have e:i=n:=by omega
  subst e;exact .inl ⟨qz _,hd σ H p⟩
abbrev R2:=V->V->Hp->VK->Prop
variable {r:R2}
def y9(X:Cx)(f:qe->qe->Sem qe)(r:R2):Prop:=
 ∀(pins:qa (qd×Obj))(s:Shared)(σ:St)(H:Hp)(x y:V)(v u:qe)(Q:VK),Inv X pins σ H s->QJ x v->QJ y u->r x y H Q ->
  wpAny (model X.prog X.w) X.A (f v u) (EP X pins σ Q) X.xe s
def UnR(X:Cx)(f:qe->Sem qe)(r:V->Hp->VK->Prop):Prop:=
 ∀(pins:qa (qd×Obj))(s:Shared)(σ:St)(H:Hp)(x:V)(v:qe)(Q:VK),Inv X pins σ H s->QJ x v->r x H Q ->
  wpAny (model X.prog X.w) X.A (f v) (EP X pins σ Q) X.xe s
def Y7(X:Cx)(f:qe)(r:qa V->Hp->VK->Prop):Prop:=
 ∀(pins:qa (qd×Obj))(s:Shared)(σ:St)(H:Hp)(xs:qa V)(us:qi)(Q:VK),Inv X pins σ H s->QB xs us->r xs H Q ->
  wpAny (model X.prog X.w) X.A (call f us) (EP X pins σ Q) X.xe s
def TruR(X:Cx)(r:V->Hp->(Bool->Hp->Prop)->Prop):Prop:=
 ∀(pins:qa (qd×Obj))(s:Shared)(σ:St)(H:Hp)(x:V)(v:qe)(Q:Bool->Hp->Prop),Inv X pins σ H s->QJ x v->r x H Q ->
  wpAny (model X.prog X.w) X.A (truthy v) (TP X pins σ Q) X.xe s
def tOp(r:R2)(a tb:TE):TE:=λσ H Q=>a σ H λx H1=>tb σ H1 λy b=>r x y b Q
def tUn(r:V->Hp->VK->Prop)(a:TE):TE:=λσ H Q=>a σ H λx H1=>r x H1 Q
inductive bt(C:Int->Int->Prop)(g:Int->Int->V)(x:V)(y:V)(H:Hp)(Q:VK):Prop
 |mk:∀i j,x=.int i->y=.int j->C i j->Q (g i j) H->bt C g x y H Q
def rI(C:Int->Int->Prop)(g:Int->Int->V):R2:=λx y H Q=>bt C g x y H Q
inductive RQ(g:Int->Int->V)(x:V)(y:V)(H:Hp)(Q:VK):Prop
 |mk:∀i j,x=.int i->y=.int j->Q (g i j) H->RQ g x y H Q
def gU(g:Int->Int->V):R2:=λx y H Q=>RQ g x y H Q
inductive bh(g:Int->V)(x:V)(H:Hp)(Q:VK):Prop
 |mk:∀i,x=.int i->Q (g i) H->bh g x H Q
def rU(g:Int->V):V->Hp->VK->Prop:=λx H Q=>bh g x H Q
section
variable {X:Cx}{a b c:Expr}{ta tb tc:TE}{pos:Pos}
theorem TV(g:PE X a ta)(i:PE X b tb){R:V->V->Hp->Prop}(I:Inv X pins σ H s)
 (h:ta σ H λx H1=>tb σ H1 λy c=>R x y c) {Q:qh} {f:qe->qe->Sem qe}
 (hf:∀v u s2 x y c,Inv X pins σ c s2->QJ x v->QJ y u->R x y c->wpAny (model X.prog X.w) X.A (f v u) Q X.xe s2) :
 wpAny (model X.prog X.w) X.A (eval a X.env) (λv d=>wpAny (model X.prog X.w) X.A (eval b X.env) (λu e=>wpAny (model X.prog X.w) X.A (f v u) Q X.xe e) X.xe d) X.xe s:=by
 refine z5 (g pins s σ H _ I h) λv s1 ⟨x,H1,j,k,l⟩=>?_;refine z5 (i pins s1 σ H1 _ j l) λu s2 ⟨y,c,m,n,o⟩=>?_;exact hf v u s2 x y c m k n o
theorem Qn{op:Operator}(c:y9 X (binaryOp op) r)(d:PE X a ta)(e:PE X b tb):PE X (.BinOp a op b pos) (tOp r ta tb):=by
 intro pins s σ H Q I h;exact wpAny_BinOp (TV d e I h λv u s2 x y f g i j q=>c pins s2 σ f x y v u Q g i j q)
theorem MQ{op:UnaryOp}{r:V->Hp->VK->Prop}(b:UnR X (unaryOp op) r)(c:PE X a ta):PE X (.UnaryOp op a pos) (tUn r ta):=by
 intro pins s σ H Q I h;exact UnaryOp_ (z5 (c pins s σ H _ I h) λv s1 ⟨x,H1,d,e,f⟩=>b pins s1 σ H1 x v Q d e f)
theorem opI{C:Int->Int->Prop}{g:Int->Int->Int}
 (rule:∀(i j:Int)(t u:Tok)(s:Shared)(Q:qh)(E:qh),C i j->Q (.int (g i j) s.toks) {s with toks:=s.toks+1}->wpAny (model X.prog X.w) X.A (f (.int i t) (.int j u)) Q E s) :
 y9 X f (rI C λi j=>.int (g i j)):=by
 intro pins s σ H x y v u Q I a b h;obtain⟨i,j,rfl,rfl,hc,q⟩:=h;obtain⟨t,rfl⟩:=a;obtain⟨t',rfl⟩:=b;exact rule i j t t' s _ _ hc ⟨.int (g i j),H,I.tok _,⟨_,U⟩,q⟩
theorem bG{g:Int->Int->Int}
 (rule:∀(i j:Int)(t u:Tok)(s:Shared)(Q:qh)(E:qh),Q (.int (g i j) s.toks) {s with toks:=s.toks+1}->wpAny (model X.prog X.w) X.A (f (.int i t) (.int j u)) Q E s) :
 y9 X f (gU λi j=>.int (g i j)):=by
 intro pins s σ H x y v u Q I a b h;obtain⟨i,j,rfl,rfl,q⟩:=h;obtain⟨t,rfl⟩:=a;obtain⟨t',rfl⟩:=b;exact rule i j t t' s _ _ ⟨.int (g i j),H,I.tok _,⟨_,U⟩,q⟩
theorem Pu{g:Int->Int->Bool}
 (rule:∀(i j:Int)(t u:Tok)(s:Shared)(Q:qh)(E:qh),Q (.bool (g i j)) s->wpAny (model X.prog X.w) X.A (f (.int i t) (.int j u)) Q E s) :
 y9 X f (gU λi j=>.bl (g i j)):=by
 intro pins s σ H x y v u Q I a b h;obtain⟨i,j,rfl,rfl,q⟩:=h;obtain⟨t,rfl⟩:=a;obtain⟨t',rfl⟩:=b;exact rule i j t t' s _ _ ⟨.bl (g i j),H,I,U,q⟩
def CDiv(i j:Int):Prop:=0<j/\j<1073741824
def ai(i j:Int):Prop:=(-(2^64)<i/\i<2^64)\/(-(2^64)<j/\j<2^64)
theorem ai.ok{i j:Int}(h:ai i j):IntMulOk i j:=by
 rcases h with⟨a,b⟩|⟨a,b⟩
 .exact .of_left (intBits_le_64 a b)
 .exact .of_right (intBits_le_64 a b)
theorem Ur:y9 X (binaryOp .Add) (gU λi j=>.int (i+j)):=bG λ_ _ _ _ _ _ _ q=>add_int q
theorem Eg:y9 X (binaryOp .Sub) (gU λi j=>.int (i-j)):=bG λ_ _ _ _ _ _ _ q=>sub_int q
theorem Gm:y9 X (binaryOp .Mult) (rI ai λi j=>.int (i*j)):=opI λ_ _ _ _ _ _ _ hc q=>mul_int q hc.ok
theorem Vi:y9 X (binaryOp .FloorDiv) (rI CDiv λi j=>.int (i / j)):=opI λi j _ _ _ _ _ hc q=>by
 have a:(0:Int)<j:=hc.1;have b:j<1073741824:=hc.2;exact floordiv_int ⋯ (by rw[Int.fdiv_eq_ediv_of_nonneg i ⋯];exact q) (.inl (PyProof.noPylong_small ⋯))
theorem Ua:y9 X (binaryOp .Mod) (rI (λ_ j=>0<j) λi j=>.int (i%j)):=opI λi j _ _ _ _ _ hc q=>by
 have a:(0:Int)<j:=hc;exact mod_int' ⋯ (by rw[Int.fmod_eq_emod_of_nonneg i ⋯];exact q)
theorem unI{f:qe->Sem qe}{g:Int->Int}
 (rule:∀(i:Int)(t:Tok)(s:Shared)(Q:qh)(E:qh),Q (.int (g i) s.toks) {s with toks:=s.toks+1}->wpAny (model X.prog X.w) X.A (f (.int i t)) Q E s) :
 UnR X f (rU λi=>.int (g i)):=by
 intro pins s σ H x v Q I a h;obtain⟨i,rfl,q⟩:=h;obtain⟨t,rfl⟩:=a;exact rule i t s _ _ ⟨.int (g i),H,I.tok _,⟨_,U⟩,q⟩
theorem DY:UnR X (unaryOp .USub) (rU λi=>.int (-i)):=unI λ_ _ _ _ _ q=>neg_int q
end
def ba:V->V->Bool
 |.non,.non=>true|.non,.int _=>true|.int _,.non=>true|.non,.bl _=>true|.bl _,.non=>true|.non,.str _=>true|.str _,.non=>true
 |.int _,.int _=>true|.bl _,.bl _=>true|.str _,.str _=>true|.wc _,.wc _=>true
 |.int _,.str _=>true|.str _,.int _=>true|.bl _,.str _=>true|.str _,.bl _=>true
 |_,_=>false
def rEq:R2:=λx y H Q=>ba x y=true/\Q (.bl (decide (x=y))) H
def rNe:R2:=λx y H Q=>ba x y=true/\Q (.bl (!decide (x=y))) H
theorem HU{i j:Int}:decide (V.int i=V.int j)=(i==j):=by
 rw[yG];simp
theorem Ov{i j:Bool}:decide (V.bl i=V.bl j)=(i==j):=by
 rw[yG];simp
theorem BM{i j:qc}:decide (V.str i=V.str j)=(i==j):=by
 rw[yG];simp
theorem HV{i j:Array UInt8}:decide (V.wc i=V.wc j)=(i.toList==j.toList):=by
 rw[yG];cases i;cases j;simp
section
variable {X:Cx}{a b c:Expr}{ta tb tc:TE}{pos:Pos}
theorem QY{k a:Bool}(I:Inv X pins σ H s)(q:Q (.bl k) H)(e:k=a):EP X pins σ Q (.bool a) s:=by
 subst e;exact⟨.bl k,H,I,U,q⟩
theorem Uq:y9 X (compareOp .Eq) rEq:=by
 intro pins s σ H x y v u Q I c a h;obtain⟨b,q⟩:=h
 cases x with
 |non=>
  cases c
  cases y with
  |non=>cases a;exact PySem.EqNone.eq_none_none (QY I q (by simp))
  |bl j=>cases a;exact PySem.EqNone.eq_none_bool (QY I q (by simp))
  |int j=>obtain⟨t',rfl⟩:=a;exact PySem.EqNone.eq_none_int (QY I q (by simp))
  |str j=>obtain⟨t',rfl⟩:=a;exact PySem.EqNone.eq_none_str (QY I q (by simp))
  |_=>exact absurd (show false=true from b) qO
 |bl i=>
  cases c
  cases y with
  |non=>cases a;exact PySem.EqNone.eq_bool_none (QY I q (by simp))
  |bl j=>cases a;exact eq_bool (QY I q Ov)
  |str j=>obtain⟨t',rfl⟩:=a;exact PySem.EqMixed.eq_bool_str (QY I q (by simp))
  |_=>exact absurd (show false=true from b) qO
 |int i=>
  obtain⟨t,rfl⟩:=c
  cases y with
  |non=>cases a;exact PySem.EqNone.eq_int_none (QY I q (by simp))
  |int j=>obtain⟨t',rfl⟩:=a;exact eq_int (QY I q HU)
  |str j=>obtain⟨t',rfl⟩:=a;exact PySem.EqMixed.eq_int_str (QY I q (by simp))
  |_=>exact absurd (show false=true from b) qO
 |str i=>
  obtain⟨t,rfl⟩:=c
  cases y with
  |non=>cases a;exact PySem.EqNone.eq_str_none (QY I q (by simp))
  |bl j=>cases a;exact PySem.EqMixed.eq_str_bool (QY I q (by simp))
  |int j=>obtain⟨t',rfl⟩:=a;exact PySem.EqMixed.eq_str_int (QY I q (by simp))
  |str j=>obtain⟨t',rfl⟩:=a;exact eq_str (QY I q BM)
  |_=>exact absurd (show false=true from b) qO
 |wc i=>
  obtain⟨t,rfl⟩:=c
  cases y with
  |wc j=>obtain⟨t',rfl⟩:=a;exact PySem.W.eq_bytes (QY I q HV)
  |_=>exact absurd (show false=true from b) qO
 |_=>cases y<;>exact absurd (show false=true from b) qO
theorem We:y9 X (compareOp .NotEq) rNe:=by
 intro pins s σ H x y v u Q I c a h;obtain⟨b,q⟩:=h
 cases x with
 |non=>
  cases c
  cases y with
  |non=>cases a;exact PySem.EqNone.ne_none_none (QY I q (by simp))
  |bl j=>cases a;exact PySem.EqNone.ne_none_bool (QY I q (by simp))
  |int j=>obtain⟨t',rfl⟩:=a;exact PySem.EqNone.ne_none_int (QY I q (by simp))
  |str j=>obtain⟨t',rfl⟩:=a;exact PySem.EqNone.ne_none_str (QY I q (by simp))
  |_=>exact absurd (show false=true from b) qO
 |bl i=>
  cases c
  cases y with
  |non=>cases a;exact PySem.EqNone.ne_bool_none (QY I q (by simp))
  |bl j=>cases a;exact ne_bool (QY I q (zt not Ov))
  |str j=>obtain⟨t',rfl⟩:=a;exact PySem.EqMixed.ne_bool_str (QY I q (by simp))
  |_=>exact absurd (show false=true from b) qO
 |int i=>
  obtain⟨t,rfl⟩:=c
  cases y with
  |non=>cases a;exact PySem.EqNone.ne_int_none (QY I q (by simp))
  |int j=>obtain⟨t',rfl⟩:=a;exact ne_int (QY I q (zt not HU))
  |str j=>obtain⟨t',rfl⟩:=a;exact PySem.EqMixed.ne_int_str (QY I q (by simp))
  |_=>exact absurd (show false=true from b) qO
 |str i=>
  obtain⟨t,rfl⟩:=c
  cases y with
  |non=>cases a;exact PySem.EqNone.ne_str_none (QY I q (by simp))
  |bl j=>cases a;exact PySem.EqMixed.ne_str_bool (QY I q (by simp))
  |int j=>obtain⟨t',rfl⟩:=a;exact PySem.EqMixed.ne_str_int (QY I q (by simp))
  |str j=>obtain⟨t',rfl⟩:=a;exact ne_str (QY I q (zt not BM))
  |_=>exact absurd (show false=true from b) qO
 |wc i=>
  obtain⟨t,rfl⟩:=c
  cases y with
  |wc j=>obtain⟨t',rfl⟩:=a;exact PySem.W.ne_bytes (QY I q (zt not HV))
  |_=>exact absurd (show false=true from b) qO
 |_=>cases y<;>exact absurd (show false=true from b) qO
theorem Hu:y9 X (compareOp .Lt) (gU λi j=>.bl (decide (i<j))):=Pu λ_ _ _ _ _ _ _ q=>lt_int q
theorem Wf:y9 X (compareOp .LtE) (gU λi j=>.bl (decide (i<=j))):=Pu λ_ _ _ _ _ _ _ q=>le_int q
theorem M3:y9 X (compareOp .Gt) (gU λi j=>.bl (decide (j<i))):=Pu λ_ _ _ _ _ _ _ q=>gt_int q
theorem bF:y9 X (compareOp .GtE) (gU λi j=>.bl (decide (j<=i))):=Pu λ_ _ _ _ _ _ _ q=>ge_int q
theorem XJ:y9 X (compareOp .In) (λx y H Q=>∃i j,x=.str i/\y=.str j/\Q (.bl (!(Builtin.Str.occurrences j i 0 j.length 1).isEmpty)) H):=by
 intro pins s σ H x y v u Q I a b h;obtain⟨i,j,rfl,rfl,q⟩:=h;obtain⟨t,rfl⟩:=a;obtain⟨t',rfl⟩:=b;exact in_str (QY I q rfl)
theorem M0:y9 X (compareOp .Is) (λx y H Q=>y=.non/\Q (.bl (decide (x=.non))) H):=by
 intro pins s σ H x y v u Q I a b h;obtain⟨rfl,q⟩:=h;cases b;refine is_none_gen (QY I q ?_);cases x<;>first
  |(cases a;rfl)
  |(obtain⟨t,rfl⟩:=a;rfl)
theorem Ht:y9 X (compareOp .IsNot) (λx y H Q=>y=.non/\Q (.bl (!decide (x=.non))) H):=by
 intro pins s σ H x y v u Q I a b h;obtain⟨rfl,q⟩:=h;cases b;refine isnot_none_gen (QY I q ?_);cases x<;>first
  |(cases a;rfl)
  |(obtain⟨t,rfl⟩:=a;rfl)
theorem Nv(b:Expr)(h:op≠.In:=by decide)(a:op≠.NotIn:=by decide):behindInMarks op b=false:=by
 have c:(op==CmpOp.In)=false:=by cases op<;>first|rfl|exact absurd rfl h
 have d:(op==CmpOp.NotIn)=false:=by cases op<;>first|rfl|exact absurd rfl a
 cases b<;>simp[behindInMarks,c,d]
theorem WG(c:y9 X (compareOp op) r)(d:PE X a ta)(e:PE X b tb)(hm:behindInMarks op b=false:=by exact Nv _):PE X (.Compare a [op] [b] pos) (tOp r ta tb):=by
 intro pins s σ H Q I h;exact wpAny_Compare1 (TV d e I h λv u s2 x y f g i j q=>c pins s2 σ f x y v u Q g i j q) hm
inductive E6(Q:(Bool->Hp->Prop))(x:V)(H':Hp):Prop
 |mk:∀k,x=.bl k->Q k H'->E6 Q x H'
def RE(t:TE):TT:=λσ H Q=>t σ H λx H'=>E6 Q x H'
theorem Qx(d:y9 X (compareOp op) r)(f:PE X a ta)(g:PE X b tb)(hm:behindInMarks op b=false:=by exact Nv _):PT X (.Compare a [op] [b] pos) (RE (tOp r ta tb)):=by
 intro pins s σ H Q I h;refine wpAny_isTrue_Compare1 (z5 (f pins s σ H _ I h) λv s1 ⟨x,H1,i,j,l⟩=>z5 (g pins s1 σ H1 _ i l) λu s2 ⟨y,m,n,o,p⟩=>
  z5 (d pins s2 σ m x y v u _ n j o p) λc s3 ⟨z,q,t,w,k,e,A⟩=>?_) hm
 subst e;cases w;exact zI ⟨q,t,A⟩
def LW(r b:R2)(ta tb tc:TE):TE:=λσ H Q=>ta σ H λx H1=>tb σ H1 λy c=>r x y c λz a=>∃k,z=.bl k /\
 (if k=true then tc σ a λd e=>b y d e Q else Q (.bl false) a)
theorem Gj{f:CmpOp}{i:R2}(o:y9 X (compareOp op) r)(g:y9 X (compareOp f) i)(p:PE X a ta)(q:PE X b tb)(hc:PE X c tc)
 (hm:lastMarks [op,f] [b,c]=false:=by with_unfolding_all rfl):PE X (.Compare a [op,f] [b,c] pos) (LW r i ta tb tc):=by
 intro pins s σ H Q I h;refine Compare_chain (z5 (p pins s σ H _ I h) λv s1 ⟨x,H1,t,w,A⟩=>chain_link (z5 (q pins s1 σ H1 _ t A) λu s2 ⟨y,B,C,j,D⟩=>
  z5 (o pins s2 σ B x y v u _ C w j D) λd s3 ⟨z,l,m,E,k,e,n⟩=>?_)) hm
 subst e;cases E;refine zI ?_
 cases k with
 |false=>exact ite_ff ⟨.bl false,l,m,U,n⟩
 |true=>exact ite_tt (chain_last (z5 (hc pins s3 σ l _ m n) λF s4 ⟨G,J,K,L,M⟩=>g pins s4 σ J y G u F Q K j L M))
theorem MJ{f:CmpOp}{i:R2}(o:y9 X (compareOp op) r)(g:y9 X (compareOp f) i)(p:PE X a ta)(q:PE X b tb)(hc:PE X c tc)
 (hm:lastMarks [op,f] [b,c]=false:=by with_unfolding_all rfl):PT X (.Compare a [op,f] [b,c] pos) (RE (LW r i ta tb tc)):=by
 intro pins s σ H Q I h;refine isTrue_chain (z5 (p pins s σ H _ I h) λv s1 ⟨x,H1,t,w,A⟩=>test_link (z5 (q pins s1 σ H1 _ t A) λu s2 ⟨y,B,C,j,D⟩=>
  z5 (o pins s2 σ B x y v u _ C w j D) λd s3 ⟨z,l,m,E,k,e,n⟩=>?_)) hm
 subst e;cases E;refine zI ?_
 cases k with
 |false=>
  obtain⟨J,F,G⟩:=n;cases F;exact ite_ff ⟨l,m,G⟩
 |true=>
  refine ite_tt (test_last (z5 (hc pins s3 σ l _ m n) λF s4 ⟨G,J,K,L,M⟩=>z5 (g pins s4 σ J y G u F _ K j L M) λd' s5 ⟨T,N,O,P,k2,R,S⟩=>?_));subst R;cases P;exact zI ⟨N,O,S⟩
def cA(K:Frag)(x:V)(H:Hp)(k:Bool):Prop:=
 match x with
 |.non=>k=false
 |.bl b=>k=b
 |.int i=>k=(i != 0)
 |.str y=>y.length<=sizeLine/\k=((y.length:Int) != 0)
 |.wc y=>y.size<=sizeLine/\k=((y.size:Int) != 0)
 |.ref p=>(∃xs,zN K H p xs/\k = !xs.isEmpty)\/(∃xs,jj K H p xs/\k = !xs.isEmpty)\/∃a,H p=some (.dK a)/\k = !a.isEmpty
 |_=>False
theorem EF{b:Type}{a:qa (b×V)}{vs:qa (b×qe)}(r:KV a vs):(!vs.isEmpty) = !a.isEmpty:=by
 cases r<;>rfl
theorem GF{its:qi}(r:QB xs its):(!its.toArray.isEmpty) = !xs.isEmpty:=by
 cases r<;>simp
theorem W6:(sizeLine:Nat)<2^63:=by rw[ju];decide
theorem R9:TruR X (λx H Q=>∃k,cA X.K x H k/\Q k H):=by
 intro pins s σ H x v Q I d h;obtain⟨k,e,q⟩:=h;have g:=W6;have j:sizeLine=16777216:=ju
 cases x with
 |non=>
  cases d;have a:k=false:=e;subst a;exact truthy_none ⟨H,I,q⟩
 |bl b=>
  cases d;have a:k=b:=e;subst a;exact zI ⟨H,I,q⟩
 |int i=>
  obtain⟨t,rfl⟩:=d;have a:k=(i != 0):=e;subst a;exact PySem.P.truthy_int ⟨H,I,q⟩
 |str y=>
  obtain⟨t,rfl⟩:=d;obtain⟨c,a⟩:y.length<=sizeLine/\k=((y.length:Int) != 0):=e;subst a;exact PySem.P.truthy_str ⋯ ⟨H,I.tok _,q⟩
 |wc y=>
  obtain⟨t,rfl⟩:=d;obtain⟨c,a⟩:y.size<=sizeLine/\k=((y.size:Int) != 0):=e;subst a;exact PySem.W.truthy_bytes ⋯ ⟨H,I.tok _,q⟩
 |ref p=>
  cases d;have a:(∃xs,zN X.K H p xs/\k = !xs.isEmpty)\/(∃xs,jj X.K H p xs/\k = !xs.isEmpty)\/∃c,H p=some (.dK c)/\k = !c.isEmpty:=e;rcases a with⟨xs,f,a⟩|⟨xs,f,a⟩|⟨c,f,a⟩
  .subst a;obtain⟨its,r,pl,hz⟩:=I.list f;have hlen:=r.length;exact wpAny_truthy_list pl.isList (by simp only[qV];omega) ⟨H,I.tok _,by rw[GF r];exact q⟩
  .subst a;obtain⟨its,r,pl,hz⟩:=I.tuple f;have hlen:=r.length;exact truthy_tuple pl (by simp only[qV];omega) ⟨H,I.tok _,by rw[GF r];exact q⟩
  .subst a;obtain⟨hz,hS,vs,r,m⟩:c.length<=sizeLine/\(p==sysModules)=false/\∃vs,KV c vs/\s.heap.DictOf (QZ X.prog X.w) p vs:=I.hok p _ f;have hlen:c.length=vs.length:=gO r;exact wpAny_truthy_dict hS m ⋯ ⟨H,I.tok _,by rw[EF r];exact q⟩
 |_=>exact(show False from e).elim
theorem Xh(b:PE X a ta)(he:∀whole,isTrue a X.env whole=(do let v <-whole;standAt a.pos;holding [v] (truthy v))) :
 PT X a (λσ H Q=>ta σ H λx H'=>∃k,cA X.K x H' k/\Q k H'):=by
 intro pins s σ H Q I h;exact isTrue_plain (z5 (b pins s σ H _ I h) λv s1 ⟨x,H1,c,d,e⟩=>R9 pins s1 σ H1 x v Q c d e) (he _)
theorem Qh:y9 X (binaryOp .Add) (λx y H Q=>∃i j,x=.str i/\y=.str j/\i.length+j.length<=sizeLine/\Q (.str (i++j)) H):=by
 intro pins s σ H x y v u Q I a b h;obtain⟨i,j,rfl,rfl,hz,q⟩:=h;obtain⟨t,rfl⟩:=a;obtain⟨t',rfl⟩:=b;exact add_str (λt' c=>⟨.str (i++j),H,I.tok _,⟨_,U⟩,q⟩) hz
theorem Um{x:V}(r:QB [x] us):∃u,us=[u]/\QJ x u:=by
 cases r with
 |cons a b=>cases b;exact⟨_,U,a⟩
theorem ay{x:V}(r:QB [x,y] us):∃u a,us=[u,a]/\QJ x u/\QJ y a:=by
 cases r with
 |cons b c=>
  cases c with
  |cons d e=>cases e;exact⟨_,_,U,b,d⟩
theorem Lw:Y7 X (.type "int") (λxs H Q=>(∃i,xs=[.int i]/\Q (.int i) H)\/∃k,xs=[.bl k]/\Q (.int (if k then 1 else 0)) H):=by
 intro pins s σ H xs us Q I r h;rcases h with⟨i,rfl,q⟩|⟨k,rfl,q⟩
 .obtain⟨u,rfl,t,rfl⟩:=Um r;exact call_int_int ⟨.int i,H,I,⟨_,U⟩,q⟩
 .obtain⟨u,rfl,a⟩:=Um r;cases a;exact call_int_bool ⟨.int (if k then 1 else 0),H,I.tok _,⟨_,U⟩,q⟩
theorem YX:Y7 X (.type "str") (λxs H Q=>∃i,xs=[.int i]/\i.natAbs.log2<1920/\Q (.str (toString i)) H):=by
 intro pins s σ H xs us Q I r h;obtain⟨i,rfl,hz,q⟩:=h;obtain⟨u,rfl,t,rfl⟩:=Um r;exact PySem.P.str_of_int hz ⟨.str _,H,I.tok _,⟨_,U⟩,q⟩
end
structure EW(h:Heap)(x dx C:qd)(mA:qc->Option qe):Prop where
 obj:h.get? x=some (instObj C dx)
 ns:h.Ns1 dx mA
 ne:dx≠x
theorem I0{c:qd}{d:qc->Option qe}(n:h.Ns1 c d):∃f,h.get? c=some f/\∀name,lookIn name f=some (d name):=by
 obtain⟨o,es,k,g,hd,i,_,hm⟩:=n;refine⟨o,g,λname=>?_⟩;have e:=hm name;unfold nsFind findBy at e;rw[<-Array.find?_toList] at e;unfold lookIn;rw[hd];dsimp only;split
 .rename_i y q
  rw[q] at e;exact zt some e
 .rename_i q
  rw[q] at e;have a:es.toList.any (·.refKey)=false:=by
   rw[List.any_eq_false];intro y j;obtain⟨z,t,b⟩:=i y (Array.mem_toList_iff.mp j);simp[DictEntry.refKey,b]
  have b:¬es.toList.any (·.refKey)=true:=by rw[a];exact qO
  rw[qJ b];exact zt some e
theorem EW.look{x b:qd}{c:qc->Option qe}(I:EW h x b C c):∃a,PySem.W.InstAt h x (instObj C b) C (some a)/\∀name,lookIn name a=some (c name):=
 let ⟨a,d,e⟩:=I0 I.ns
 ⟨a,⟨I.obj,U,U,d⟩,e⟩
section
variable {prog:Program}{w:World}{A:Around}{E:qh}{s:Shared}{K:Frag}{x dx C f:qd}{mA:qc->Option qe}{name:qc}{v:qe}
theorem Rc{expr:Bool}{Q:qh}(X:K.In s.heap)(I:EW s.heap x dx C mA)(b:plainGet K C name=true)(c:hasDictIn K C=true)
 (d:findIn K (.ref C) name=some none) (e:mA name=some v) (a:handedIn v=true) (h:Q v {s with toks:=s.toks+1}) :
 wpAny (model prog w) A (getAttr (.ref x) name expr) Q E s:=by
 obtain⟨g,J,f⟩:=I.look;exact PySem.W.get_value X J (plainGet_of b).1 (PySem.W.findObj_own c d rfl (by rw[f,e])) a h
theorem Od{Q:qe×qi->Shared->Prop}(X:K.In s.heap)(I:EW s.heap x dx C mA)(a:plainGet K C name=true)
 (hf:findIn K (.ref C) name=some (some (.ref f))) (b:isFn K (.ref f)=true) (c:mA name=none) (h:Q (.ref f,[.ref x]) s) :
 wpAny (model prog w) A (getMethod (.ref x) name pl) Q E s:=by
 obtain⟨d,J,e⟩:=I.look;exact PySem.W.method_fn X J (plainGet_of a).1 (plainGet_of a).2 hf (j0.mp b) (by show(lookIn name d).map (·.isSome)=some false;rw[e,c];rfl) h
theorem O6{ns:qg}{Q:Unit->Shared->Prop}(X:K.In s.heap)(I:EW s.heap x dx C mA)
 (j:findIn K (.ref C) "__setattr__"=some (some (.builtin "object.__setattr__"))) (k:plainOver K C=true) (l:takerIn K C name=some none) (m:hasDictIn K C=true)
 (hw:PySem.Within mA ns) (hsz:ns.length<=sizeLine)
 (h:∀h',EW h' x dx C (λy=>if y=name then some v else mA y)->Heap.SameBut dx s.heap h'->Q () {s with heap:=h',toks:=s.toks+2}) :
 wpAny (model prog w) A (setAttr (.ref x) name v) Q E s:=by
 obtain⟨q,J,t⟩:=I.look;refine PySem.W.set_plain X J j (PySem.W.osa_open (s:={s with toks:=s.toks+1}) (r:=none) X J k l λb=>?_);obtain⟨cd,hc,e⟩:=PySem.W.any_some m;have n:s.heap.get? x=some ⟨.ref C,some dx,.plain,#[]⟩:=I.obj;refine qk (qq (qk (qk (wpAny_loadPart n (qk (Looks.here (s:={s with toks:=s.toks+1}) (PySem.W.looks_clsIn X hc) ?_))))));rw[e];refine qq (a:=some dx) (qk (qq (qk ?_)));refine wpAny_nsSet1 (s:={s with toks:=s.toks+1}) I.ns λh' c d=>?_;obtain⟨u,o,p,f,g,i⟩:=c.count (PySem.Within.cons name v hw);refine qk (wpAny_lookBehind f (by rw[g];exact pastItsLine_dict (zb i (by rw[zc];omega))) ?_);exact qq (h _ ⟨(d.2 _ (jL I.ne)).trans I.obj,c,I.ne⟩ d)
theorem ND{R:Result->Shared->Prop}{vs:qi}(X:K.In s.heap)(hm:makesIn K C=true)
 (a:findIn K (.ref C) "__init__"=some (some (.ref f))) (hf:typeIn K (.ref f)=some (.type "function"))
 (h:codeAny (model prog w) (A.under (.builtin "type.__call__" ⟨.ref C::vs,kw⟩)) (.call (.ref f) ⟨.ref (s.heap.objs.size+1)::vs,kw⟩) (PySem.W.InitBack (s.heap.objs.size+1) R)
   {s with heap:=(s.heap.push emptyDict).push (instObj C s.heap.objs.size)}) :
 codeAny (model prog w) A (.call (.ref C) ⟨vs,kw⟩) R s:=by
 obtain⟨b,g,d,t,os⟩:=s;exact PySem.W.make_core (PySem.W.makes_of X hm) (looks_findIn X a) (λself=>PySem.W.bind_fn X self hf) (.inl rfl) h
end
def Qz(f:qc)(v:V):qa (qc×V)->qa (qc×V)
 |[]=>[(f,v)]
 |(g,x)::r=>if g=f then (g,v)::r else (g,x)::Qz f v r
theorem Kf(f g:qc)(v:V):∀c:qa (qc×V),(Qz f v c).lookup g=if g=f then some v else c.lookup g
 |[]=>by
  show List.lookup g [(f,v)]=_;by_cases h:g=f
  .have a:(g==f)=true:=j0.mpr h;simp only[List.lookup,a,qP h]
  .have a:(g==f)=false:=jm.mpr h;simp only[List.lookup,a,qJ h]
 |(k,x)::r=>by
  have d:=Kf f g v r;rw[show Qz f v ((k,x)::r)=(if k=f then (k,v)::r else (k,x)::Qz f v r) from rfl];by_cases b:k=f
  .rw[qP b];by_cases h:g=k
   .have a:(g==k)=true:=j0.mpr h;simp only[List.lookup,a,qP (h.trans b)]
   .have a:(g==k)=false:=jm.mpr h;simp only[List.lookup,a,qJ (λe:g=f=>h (e.trans b.symm))]
  .rw[qJ b];by_cases h:g=k
   .have a:(g==k)=true:=j0.mpr h;simp only[List.lookup,a,qJ (λe:g=f=>b (h.symm.trans e))]
   .have a:(g==k)=false:=jm.mpr h;simp only[List.lookup,a];exact d
theorem XR(f:qc)(v:V):∀a:qa (qc×V),f∈(Qz f v a).map (·.1)/\∀g,g∈a.map (·.1)->g∈(Qz f v a).map (·.1)
 |[]=>⟨by simp[Qz],λg h=>by simp at h⟩
 |(k,x)::r=>by
  obtain⟨c,d⟩:=XR f v r;rw[show Qz f v ((k,x)::r)=(if k=f then (k,v)::r else (k,x)::Qz f v r) from rfl];by_cases b:k=f
  .rw[qP b];subst b;exact⟨by simp,λg h=>by simpa using h⟩
  .rw[qJ b];refine⟨?_,λg h=>?_⟩
   .rw[zf];exact qK _ c
   .rw[zf] at h⊢;rcases qC.mp h with e|e
    .exact qC.mpr (.inl e)
    .exact qK _ (d g e)
theorem Kg(f:qc)(v:V):∀a:qa (qc×V),(Qz f v a).length<=a.length+1
 |[]=>by simp[Qz]
 |(k,x)::r=>by
  have c:=Kg f v r;rw[show Qz f v ((k,x)::r)=(if k=f then (k,v)::r else (k,x)::Qz f v r) from rfl];by_cases b:k=f
  .rw[qP b,zc,zc];omega
  .rw[qJ b,zc,zc];omega
theorem Vg.some_of{o:Option qe}(r:Vg (some v) o):∃u,o=some u/\QJ v u:=by
 cases o with
 |none=>exact(show False from r).elim
 |some u=>exact⟨u,U,r⟩
theorem Vg.none_of{o:Option qe}(r:Vg none o):o=none:=by
 cases o with
 |none=>rfl
 |some u=>exact(show False from r).elim
theorem Li(r:QJ v u):handedIn u=true:=by
 cases v with
 |non=>cases (show u=Value.none from r);rfl
 |bl b=>cases (show u=Value.bool b from r);rfl
 |int i=>obtain⟨t,e⟩:=(show ∃t,u=Value.int i t from r);cases e;rfl
 |str x=>obtain⟨t,e⟩:=(show ∃t,u=Value.str x t from r);cases e;rfl
 |wc b=>obtain⟨t,e⟩:=(show ∃t,u=Value.bytes b t from r);cases e;rfl
 |flt b=>obtain⟨t,e⟩:=(show ∃t,u=Value.float b t from r);cases e;rfl
 |ref a=>cases (show u=Value.ref a from r);rfl
 |ty n=>cases (show u=Value.type n from r);rfl
section
variable {P:Program}{w:World}{H H':Hp}{h h':Heap}{a C dx:qd}{fs fs':qa (qc×V)}
theorem KC(hok:yK P w H h)(e:H a=some (.ins C dx fs)):∃b,EW h a dx C b/\(∀f,Vg (fs.lookup f) (b f))/\PySem.Within b (fs.map (·.1))/\fs.length<=1000/\H dx=some (.own a):=by
 obtain⟨d,z,ne,c,b,n,r,q⟩:=(show QP P w H h a (.ins C dx fs) from hok a _ e);exact⟨b,⟨c,n,ne⟩,r,q,z,d⟩
end
structure wg(K:Frag)(C:qd):Prop where
 pg:plainGet K C Str.empty=true
 hd:hasDictIn K C=true
 po:plainOver K C=true
 sa:findIn K (.ref C) "__setattr__"=some (some (.builtin "object.__setattr__"))
theorem wg.get{K:Frag}(c:wg K C)(f:qc):plainGet K C f=true:=c.pg
def Ww(K:Frag)(C:qd)(f:qc):Prop:=findIn K (.ref C) f=some none
theorem Ww.taker{K:Frag}{f:qc}(n:Ww K C f):takerIn K C f=some none:=by
 unfold takerIn;rw[show findIn K (.ref C) f=some none from n];rfl
structure DS(K:Frag)(C:qd)(m:qc)(f:qd):Prop where
 at_:findIn K (.ref C) m=some (some (.ref f))
 fn:isFn K (.ref f)=true
 kp:keepIn K (.ref f)=true
section
variable {X:Cx}{pins:qa (qd×Obj)}{σ:St}{H:Hp}{s:Shared}{a C dx:qd}{fs:qa (qc×V)}{f:qc}{v:V}{A:Around}{E:qh}
theorem EH{b:Bool}{Q:qh}(I:Inv X pins σ H s)(e:H a=some (.ins C dx fs))(c:wg X.K C)(n:Ww X.K C f)(l:fs.lookup f=some v)
 (h:∀u s',Inv X pins σ H s'->QJ v u->Q u s'):wpAny (model X.prog X.w) A (getAttr (.ref a) f b) Q E s:=by
 obtain⟨g,O,r,_,_,_⟩:=KC I.hok e;obtain⟨u,i,d⟩:=Vg.some_of (v:=v) (o:=g f) (by rw[<-l];exact r f);exact Rc I.y0 O (c.get f) c.hd n i (Li d) (h u _ (I.tok _) d)
theorem W9{m:qc}{g:qd}{Q:qe×qi->Shared->Prop}(I:Inv X pins σ H s)(e:H a=some (.ins C dx fs))(c:wg X.K C)(k:DS X.K C m g)(l:fs.lookup m=none)
 (h:Q (.ref g,[.ref a]) s):wpAny (model X.prog X.w) A (getMethod (.ref a) m pl) Q E s:=by
 obtain⟨b,O,r,_,_,_⟩:=KC I.hok e;have d:b m=none:=Vg.none_of (by rw[<-l];exact r m);exact Od I.y0 O (c.get m) k.at_ k.fn d h
theorem D5{Q:Unit->Shared->Prop}(I:Inv X pins σ H s)(e:H a=some (.ins C dx fs))(c:wg X.K C)(n:Ww X.K C f)(w:fs.length<1000)(l:QJ y u)
 (h:∀s',Inv X pins σ (upd H a (.ins C dx (Qz f y fs))) s'->Q () s'):wpAny (model X.prog X.w) A (setAttr (.ref a) f u) Q E s:=by
 obtain⟨i,O,r,j,_,k⟩:=KC I.hok e;have hz:(fs.map (·.1)).length<=sizeLine:=by rw[ql,ju];omega
 refine O6 I.y0 O c.sa c.po n.taker c.hd j hz λh' d m=>h _ ?_;have hd:∃o,h'.get? dx=some o:=let ⟨o,_,_,p,_⟩:=d.ns;⟨o,p⟩;refine I.write (x:=a) (e:=dx) (by rw[e];exact True.intro) (.inr k) (λb q t z=>(m.2 b t).trans z) hd ?_;refine⟨by rw[Qa O.ne];exact k,?_,O.ne,d.obj,_,d.ns,λg=>?_,λg v=>?_⟩
 .have:=Kg f y fs;omega
 .show Vg ((Qz f y fs).lookup g) (if g=f then some u else i g);rw[Kf];by_cases q:g=f
  .rw[qP q,qP q];exact l
  .rw[qJ q,qJ q];exact r g
 .by_cases q:g=f
  .rw[q];exact(XR f y fs).1
  .refine(XR f y fs).2 g (j g λz=>v ?_);show(if g=f then some u else i g)=none;rw[qJ q];exact z
theorem Inv.made(I:Inv X pins σ H s):Inv X pins σ (upd (upd H s.heap.objs.size (.own (s.heap.objs.size+1))) (s.heap.objs.size+1) (.ins C s.heap.objs.size []))
 {s with heap:=(s.heap.push emptyDict).push (instObj C s.heap.objs.size)}:=by
 have c:(s.heap.push emptyDict).get? s.heap.objs.size=some emptyDict:=qI s.heap rfl;have d:((s.heap.push emptyDict).push (instObj C s.heap.objs.size)).get? (s.heap.objs.size+1)=some (instObj C s.heap.objs.size):=by
  have:=qI (s.heap.push emptyDict) (o:=instObj C s.heap.objs.size) rfl;rwa[jr] at this
 have f:(s.heap.push emptyDict).Ns s.heap.objs.size (λ_=>none):=⟨emptyDict,#[],_,c,U,(λe he=>absurd he (by simp)),λ_=>rfl⟩;have g:=I.laid (a:=s.heap.objs.size) (o:=.own (s.heap.objs.size+1)) (h':=s.heap.push emptyDict) (t':=s.toks) (λb u q=>qr _ q) (qz _) ⟨_,c⟩;refine g.laid (a:=s.heap.objs.size+1) (o:=.ins C s.heap.objs.size []) (t':=s.toks) (λb u q=>qr _ q) (Nat.le_of_eq (jr _ _)) ?_;have ne:s.heap.objs.size≠s.heap.objs.size+1:=qR (gD _);refine⟨by rw[Qa ne,Qb],za _,ne,d,λ_=>none,(Heap.Ns1.of_empty f).at λo q=>qr _ q,λ_=>True.intro,λy h=>absurd rfl h⟩
theorem Rv{prog:Program}{env:Env}{f:qc}{s:Shared}{Q:qh}(b:attributeBase e f env (eval e env)=eval e env)
 (h:wpAny (model prog w) A (eval e env) (λo a=>wpAny (model prog w) A (getAttr o f true) Q E a) E s):wpAny (model prog w) A (eval (.Attribute e f pos) env) Q E s:=
 Attribute_any_ h (by rw[arm_eval_Attribute,b])
end
inductive LQ(K:Frag)(f:qc)(Q:VK)(x:V)(H1:Hp):Prop
 |mk:∀a C dx fs v,x=.ref a->H1 a=some (.ins C dx fs)->wg K C->Ww K C f->fs.lookup f=some v->Q v H1->LQ K f Q x H1
def aJ(K:Frag)(a:TE)(f:qc):TE:=λσ H Q=>a σ H λx H1=>LQ K f Q x H1
inductive Mm(K:Frag)(f:qc)(D:VE)(σ:St)(y:V)(x:V)(H2:Hp):Prop
 |mk:∀a C dx fs,x=.ref a->H2 a=some (.ins C dx fs)->wg K C->Ww K C f->fs.length<1000->D.nx σ (upd H2 a (.ins C dx (Qz f y fs)))->Mm K f D σ y x H2
def sFld(K:Frag)(a b:TE)(f:qc):TS:=λD σ H=>b σ H λy H1=>a σ H1 λx c=>Mm K f D σ y x c
section
variable {X:Cx}{o e value:Expr}{f:qc}{pos pos' tpos:Pos}{ta tv:TE}
theorem Ql(he:PE X e ta)(b:attributeBase e f X.env (eval e X.env)=eval e X.env):PE X (.Attribute e f pos) (aJ X.K ta f):=by
 intro pins s σ H Q I h;refine Rv b (z5 (he pins s σ H _ I h) λu s1 ⟨x,H1,d,g,a,C,m,o,v,ex,i,c,n,l,q⟩=>?_);subst ex;obtain rfl:u=Value.ref a:=g;exact EH d i c n l λp s2 j k=>⟨v,H1,j,k,q⟩
theorem QX(b:PE X o ta)(d:PE X value tv)(e:swapsWith value (some (.Attribute o f pos')) pos.line X.env=pure false):PS X (.Assign [.Attribute o f pos'] value pos) (sFld X.K ta tv f):=by
 intro pins s σ H D I h;refine plainObj_wpAny_Assign_Attribute (z5 (d pins s σ H _ I h) λu s1 ⟨y,H1,g,i,q⟩=>z5 (b pins s1 σ H1 _ g q) λj s2 ⟨x,v,k,m,a,C,w,z,ex,p,c,n,l,r⟩=>?_) e;subst ex;obtain rfl:j=Value.ref a:=m;exact D5 k p c n l i λs3 t=>⟨σ,_,t,r⟩
end
section
variable {X:Cx}{pins:qa (qd×Obj)}{σ:St}{H:Hp}{s:Shared}{A:Around}{E:qh}{Q:qh}{c:qe}{b:Bool}
inductive Vd(K:Frag)(H:Hp):V->qe->Prop where
 |non:Vd K H .non (.type "NoneType")
 |bl (x:Bool):Vd K H (.bl x) (.type "bool")
 |int (i:Int):Vd K H (.int i) (.type "int")
 |str (x:qc):Vd K H (.str x) (.type "str")
 |flt (x:UInt64):Vd K H (.flt x) (.type "float")
 |lst {a:qd} {xs:qa V} (e:H a=some (.lst xs)):Vd K H (.ref a) (.type "list")
 |jO {a:qd} {o:Obj} {xs:qa V} (e:H a=some (.jO o (.lst xs))):Vd K H (.ref a) (.type "list")
 |tup {a:qd} {xs:qa V} (e:H a=some (.tup xs)):Vd K H (.ref a) (.type "tuple")
 |dK {a:qd} {kvs:qa (Key×V)} (e:H a=some (.dK kvs)):Vd K H (.ref a) (.type "dict")
 |dT {a:qd} {kvs:qa (qa Key×V)} (e:H a=some (.dT kvs)):Vd K H (.ref a) (.type "dict")
 |ins {a C dx:qd} {fs:qa (qc×V)} (e:H a=some (.ins C dx fs)) (cl:wg K C) (ha:findIn K (.ref C) "__class__"=some (some (.builtin "object.__class__")))
   (hn:PySem.W.specialIn K (.builtin "object.__class__") "__get__"=some (some (.builtin "getset_descriptor.__get__"))) (htk:PySem.W.takesIn K (.builtin "object.__class__")=some true)
   (hm:PySem.W.mroIn K C (.type "object")=some true):Vd K H (.ref a) (.ref C)
theorem Le{x:V}{t:qe}(I:Inv X pins σ H s)(d:QJ x u)(ty:Vd X.K H x t)(e:kitOne X.K t c=some b)(h:∀l,Q (.bool b) {s with toks:=l}) :
 wpAny (model X.prog X.w) A (call (.builtin "isinstance") [u,c]) Q E s:=by
 cases ty with
 |non=>cases (show u=Value.none from d);exact kia_one PySem.W.kitx_none I.y0 True.intro e nofun h
 |bl y=>cases (show u=Value.bool y from d);exact kia_one PySem.W.kitx_bool I.y0 True.intro e nofun h
 |int i=>obtain⟨t,q⟩:=(show ∃t,u=Value.int i t from d);cases q;exact kia_one PySem.W.kitx_int I.y0 True.intro e nofun h
 |str y=>obtain⟨t,q⟩:=(show ∃t,u=Value.str y t from d);cases q;exact kia_one PySem.W.kitx_str I.y0 True.intro e nofun h
 |flt y=>obtain⟨t,q⟩:=(show ∃t,u=Value.float y t from d);cases q;exact kia_one PySem.W.kitx_float I.y0 True.intro e nofun h
 |@lst a xs f=>
  cases (show u=Value.ref a from d);obtain⟨_,_,n,_,g⟩:=(show QP X.prog X.w H s.heap a (.lst xs) from I.hok a _ f);exact kia_one kitx_list I.y0 ⟨_,g,U⟩ e nofun h
 |@jO a j xs f=>
  cases (show u=Value.ref a from d);obtain⟨_,_,_,n,_,g⟩:=(show QP X.prog X.w H s.heap a (.jO j (.lst xs)) from I.hok a _ f);exact kia_one kitx_list I.y0 ⟨_,g,U⟩ e nofun h
 |@tup a xs f=>
  cases (show u=Value.ref a from d);obtain⟨_,_,_,p⟩:=(show QP X.prog X.w H s.heap a (.tup xs) from I.hok a _ f);obtain⟨o,g,k,_⟩:=p;exact kia_one PySem.W.kitx_tuple I.y0 ⟨o,g,k⟩ e nofun h
 |@dK a j f=>
  cases (show u=Value.ref a from d);obtain⟨_,_,vs,_,p⟩:=(show QP X.prog X.w H s.heap a (.dK j) from I.hok a _ f);obtain⟨o,es,m,g,k,_⟩:=p;exact kia_one kitx_dict I.y0 ⟨o,g,k.1⟩ e nofun h
 |@dT a j f=>
  cases (show u=Value.ref a from d);obtain⟨_,_,xs,_,o,es,m,g,k,_⟩:=(show QP X.prog X.w H s.heap a (.dT j) from I.hok a _ f);exact kia_one kitx_dict I.y0 ⟨o,g,k.1⟩ e nofun h
 |@ins a C m r f cl j k g hm=>
  cases (show u=Value.ref a from d);obtain⟨v,O,_⟩:=KC I.hok f;obtain⟨w,J,_⟩:=O.look;exact kia_one (PySem.W.kitx_own (cl.get _) cl.hd j k g hm) I.y0 J e nofun h
end
structure Yf(k:Nat)(A:Around):Prop where
 hd:A.handled=none
 dp:A.depth+3*k+5<recursionLimit
 un:A.units+16*k+200<cLine
 gd:A.guards=some []
theorem Yf.mono{j k:Nat}(r:Yf k A)(h:j<=k:=by decide):Yf j A:=⟨r.hd,by have:=r.dp;omega,by have:=r.un;omega,r.gd⟩
theorem Yf.deeper{k:Nat}(r:Yf (k+1) A)(env:Env):Yf k (A.deeper env):=
 ⟨r.hd,by have:=r.dp;show A.depth+1+3*k+5<_;omega,by have:=r.un;show A.units+3+16*k+200<_;omega,r.gd⟩
theorem Yf.in1{k:Nat}(r:Yf (k+1) A):Yf k A.in1:=
 ⟨r.hd,by have:=r.dp;show A.depth+3*k+5<_;omega,by have:=r.un;show A.units+1+16*k+200<_;omega,r.gd⟩
theorem Ez    :(A.under (.builtin "type.__call__" ⟨.ref C::us,kw⟩)).depth=A.depth+1:=by
 first|rfl|simp[Around.under,Code.weight,Code.isCreation,Code.isGuard,Code.isCaller,Code.frames,Code.isFrame,guardIds]
theorem Ey    :(A.under (.builtin "type.__call__" ⟨.ref C::us,kw⟩)).units=A.units+1:=by
 first|rfl|simp[Around.under,Code.cUnits,Code.frames,Code.isFrame]
theorem Di(h:A.guards=some []):(A.under (.builtin "type.__call__" ⟨.ref C::us,kw⟩)).guards=some []:=by
 first|exact h|simp[Around.under,Code.guards,Code.isGuard,pushGuards,guardIds,h]
theorem Yf.make{k:Nat}(r:Yf (k+1) A)(C:qd)(us:qi)(kw:qa (qc×qe)):Yf k (A.under (.builtin "type.__call__" ⟨.ref C::us,kw⟩)):=
 ⟨r.hd,by have:=r.dp;rw[Ez];omega,by have:=r.un;rw[Ey];omega,Di r.gd⟩
theorem Yf.depth{k:Nat}(r:Yf k A):A.depth<recursionLimit:=by have:=r.dp;omega
theorem Yf.units{k:Nat}(r:Yf k A):A.units+64<cLine:=by have:=r.un;omega
theorem Yf.uh{k:Nat}(r:Yf k A):A.units<cLine:=by have:=r.un;omega
def Il:TA:=λ_ H Q=>Q [] H
def Cb(a:TE)(b:TA):TA:=λσ H Q=>a σ H λx H1=>b σ H1 λxs c=>Q (x::xs) c
section
variable {X:Cx}{e:Expr}{es:qa Expr}{te:TE}{t:TA}{pos:Pos}
theorem Qg:PA X [] Il:=λ_ _ _ _ H Q I h=>jS ⟨[],H,I,.nil,h⟩
theorem Hr(a:PE X e te)(b:PA X es t)(c:starEach (e::es) X.env=(false,eval e X.env)::starEach es X.env:=by rfl):PA X (e::es) (Cb te t):=by
 intro pos pins s σ H Q I h;rw[c];show wpAny _ _ (spliced ((false,eval e X.env)::backTo pos (starEach es X.env))) _ _ s;refine jb (z5 (a pins s σ H _ I h) λu s1 ⟨x,H1,d,f,g⟩=>?_);exact z5 (b pos pins s1 σ H1 _ d g) λus s2 ⟨xs,i,j,k,l⟩=>⟨x::xs,i,j,.cons f k,l⟩
def Sf(t:TA):TE:=λσ H Q=>t σ H λxs H1=>xs.length<=sizeLine/\∀p,H1 p=none->Q (.ref p) (upd H1 p (.tup xs))
def Sk(t:TA):TE:=λσ H Q=>t σ H λxs H1=>xs.length<=sizeLine/\∀p,H1 p=none->Q (.ref p) (upd H1 p (.lst xs))
theorem SN{c}(h:PA X es t):PE X (.Tuple es c pos) (Sf t):=by
 intro pins s σ H Q I d;refine wpAny_Tuple_spliced (z5 (h pos pins s σ H _ I d) λus s1 ⟨xs,H1,a,r,z,q⟩=>⟨by rw[<-r.length];exact z,?_⟩);have hf:H1 s1.heap.objs.size=none:=a.hok.fresh (qz _);refine⟨.ref s1.heap.objs.size,upd H1 s1.heap.objs.size (.tup xs),a.laid (t':=s1.toks) (λb u e=>qr _ e) (qz _) ?_,U,q _ hf⟩;exact⟨z,us,r,⟨_,qI _ rfl,U,_,U⟩⟩
theorem MS(h:PA X es t):PE X (.List es pos) (Sk t):=by
 intro pins s σ H Q I c;refine wpAny_List_spliced (z5 (h pos pins s σ H _ I c) λus s1 ⟨xs,H1,a,r,z,q⟩=>⟨by rw[<-r.length];exact z,?_⟩);have hf:H1 s1.heap.objs.size=none:=a.hok.fresh (qz _);refine⟨.ref s1.heap.objs.size,upd H1 s1.heap.objs.size (.lst xs),a.laid (t':=s1.toks) (λb u e=>qr _ e) (qz _) ?_,U,q _ hf⟩;exact⟨z,us,0,r,qI _ rfl⟩
end
abbrev Sp:=qa V->Hp->VK->XK->Prop
abbrev wC:=qa Env->Hp->Shared->XK->qe->Shared->Prop
structure Ks(P:Program)(w:World)(K:Frag)(mg:qc->Option qe)(base:Heap)(A:Around)(outer:qa Env)(s:Shared)(H:Hp):Prop where
 frames:A.frames=some outer
 mod:Mod K mg base
 bs:∀b o,base.get? b=some o->s.heap.get? b=some o/\H b=none
 vF:base.objs.size<=s.heap.objs.size
 y7:s.heap.FunFrames base outer
 wI:∀b∈frs outer,H b=none
 hok:yK P w H s.heap
 bare:AllBare s.gens
def CE(outer:qa Env)(P:Program)(w:World)(H:Hp)(s:Shared)(Q:VK)(u:qe)(s':Shared):Prop:=
 ∃v H',s'.os=s.os/\AllBare s'.gens/\Un (frs outer) [] H H' s.heap s'.heap/\yK P w H' s'.heap/\QJ v u/\Q v H'
def CR(a:wC)(outer:qa Env)(P:Program)(w:World)(H:Hp)(s:Shared)(Q:VK)(E:XK)(r:Result)(s':Shared):Prop:=
 match r with
 |.ok (.ret u)=>CE outer P w H s Q u s'
 |.ok _=>False
 |.error e=>a outer H s E e s'
structure U1(P:Program)(w:World)(K:Frag)(mg:qc->Option qe)(base:Heap)(CX:wC)(k:Nat)(f:qd)(fd:FuncData)(ps:qg)(sp:Sp):Prop where
 len:∀vs H Q E,sp vs H Q E->vs.length=ps.length
 run:∀(A:Around)(outer:qa Env)(s:Shared)(H:Hp)(args:Args)(us:qi)(vs:qa V)(Q:VK)(E:XK),Yf k A->Ks P w K mg base A outer s H->BindsTo s fd args (ps.zip us)->QB vs us->sp vs H Q E ->
  codeAny (model P w) A (.call (.ref f) args) (CR CX outer P w H s Q E) s
theorem Ks.make{K:Frag}(e:Ks P w K mg base A outer s H)(C:qd)(us:qi)(kw:qa (qc×qe)) :
 Ks P w K mg base (A.under (.builtin "type.__call__" ⟨.ref C::us,kw⟩)) outer s H:=⟨by first|exact e.frames|(simpa[Around.under,Code.envs,Code.isFrame,pushEnvs] using e.frames),e.mod,e.bs,e.vF,e.y7,e.wI,e.hok,e.bare⟩
theorem Ks.in1{K:Frag}(e:Ks P w K mg base A outer s H) :
 Ks P w K mg base A.in1 outer s H:=⟨e.frames,e.mod,e.bs,e.vF,e.y7,e.wI,e.hok,e.bare⟩
section
variable {X:Cx}{pins:qa (qd×Obj)}{σ:St}{H:Hp}{s s':Shared}
theorem Inv.env0(I:Inv X pins σ H s):Ks X.prog X.w X.K X.mg X.base X.A X.stack s H:=
 ⟨I.ok.frames,I.ok.mod,I.bs,zb I.ok.vF I.sz,I.stack,I.xQ,I.hok,I.bare⟩
theorem Inv.after(I:Inv X pins σ H s)(h:CE X.stack X.prog X.w H s Q u s'):EP X pins σ Q u s':=by
 obtain⟨v,H',os,bare,un,hok,r,q⟩:=h;obtain⟨c,g,d,t,a⟩:=s';obtain rfl:a=s.os:=os;exact⟨v,H',I.call (h':=c) (g':=g) (d':=d) (t':=t) (ch:=[]) un hok bare (λb z=>absurd z (by simp)),r,q⟩
end
def RG(sp:Sp)(a:qa V)(E:XK)(t:TA):TE:=λσ H Q=>t σ H λvs H1=>sp (vs++a) H1 Q E
inductive Fb(C:qd)(m:qc)(sp:Sp)(xk:qa V)(E:XK)(t:TA)(σ:St)(Q:VK)(x:V)(H1:Hp):Prop
 |mk:∀a dx fs,x=.ref a->H1 a=some (.ins C dx fs)->fs.lookup m=none->(t σ H1 λvs H2=>sp (x::(vs++xk)) H2 Q E)->Fb C m sp xk E t σ Q x H1
def Fd(C:qd)(m:qc)(sp:Sp)(a:qa V)(E:XK)(b:TE)(t:TA):TE:=λσ H Q=>b σ H λx H1=>Fb C m sp a E t σ Q x H1
def LP(C:qd)(sp:Sp)(b:qa V)(E:XK)(t:TA):TE:=λσ H Q=>t σ H λvs H1=>∀x a,H1 x=none->H1 a=none->a≠x ->
 sp (.ref x::(vs++b)) (upd (upd H1 a (.own x)) x (.ins C a [])) (λv c=>v=.non/\Q (.ref x) c) E
def Yy(K:Frag)(fd:FuncData)(ps:qg)(ds:qi):Prop:=
 ∀(s:Shared)(us:qi),K.In s.heap->(us++ds).length=ps.length->BindsTo s fd ⟨us,[]⟩ (ps.zip (us++ds))
theorem Yy.all{K:Frag}{fd:FuncData}{ps:qg}(h:∀us:qi,us.length=ps.length->bindArgs fd ⟨us,[]⟩=pure (ps.zip us)):Yy K fd ps []:=λs us _ a=>by
 rw[zD] at a⊢;exact .of_eq (h us a)
def VW(a:wC)(X:Cx)(E:XK):Prop:=∀(pins:qa (qd×Obj))(σ:St)(H:Hp)(s:Shared)(e:qe)(s':Shared),Inv X pins σ H s->a X.stack H s E e s'->X.xe e s'
section
variable {X:Cx}{CX:wC}{k:Nat}{f C:qd}{fd:FuncData}{ps:qg}{sp:Sp}{xk:qa V}{ds:qi}{E:XK}{x m:qc}{p pos apos:Pos}{e o:Expr}{es:qa Expr}{ta:TE}{t:TA}
theorem D6(F:U1 X.prog X.w X.K X.mg X.base CX k f fd ps sp)(c:Yf k X.A)(d:Yy X.K fd ps ds)(hd:QB xk ds)(g:VW CX X E)
 (I:Inv X pins σ H s) (r:QB vs us) (h:sp (vs++xk) H Q E):wpAny (model X.prog X.w) X.A (call (.ref f) us) (EP X pins σ Q) X.xe s:=by
 have b:QB (vs++xk) (us++ds):=r.append hd;have i:(us++ds).length=ps.length:=by rw[<-b.length];exact F.len _ _ _ _ h
 refine kM (js (F.run X.A X.stack s H ⟨us,[]⟩ (us++ds) (vs++xk) Q E c I.env0 (d s us I.y0 i) b h) λr s' a=>?_)
 cases r with
 |error e=>exact g pins σ H s e s' I a
 |ok j=>
  cases j with
  |ret u=>exact I.after a
  |next=>exact False.elim a
  |brk=>exact False.elim a
  |cont=>exact False.elim a
theorem Ky(F:U1 X.prog X.w X.K X.mg X.base CX k f fd ps sp)(d:Yf k X.A)(g:Gl X x)(hm:X.mg x=some (.ref f))(i:keepIn X.K (.ref f)=true)(j:Yy X.K fd ps ds)(hd:QB xk ds)(l:VW CX X E)
 (m:PA X (e::es) t) (a:(x==("__debug__":qc))=false:=by decide) (he:starEach (e::es) X.env=(false,eval e X.env)::starEach es X.env:=by rfl) (b:(backTo pos (starEach es X.env)).any (·.1)=false:=by rfl) :
 PE X (.Call (.Name x p) (e::es) [] pos) (RG sp xk E t):=by
 intro pins s σ H Q I h;refine jP (WK I g hm ?_ a);refine callWith_K (h₀:=X.base) I.ok.mod.wx i (z5 (m pos pins s σ H _ I h) λus s1 ⟨vs,H1,c,r,q⟩=>⟨c.y0,?_⟩) he b;exact D6 F d j hd l c r q
theorem Kv(he:PE X o ta)(c:wg X.K C)(hm:DS X.K C m f)(F:U1 X.prog X.w X.K X.mg X.base CX k f fd ps sp)(n:Yf k X.A)(p:Yy X.K fd ps ds)(hd:QB xk ds)(v:VW CX X E)(w:PA X (e::es) t)
 (b:starEach (e::es) X.env=(false,eval e X.env)::starEach es X.env:=by rfl) (d:(backTo pos (starEach es X.env)).any (·.1)=false:=by rfl)
 (y:eval (.Call (.Attribute o m apos) (e::es) [] pos) X.env=(do
   let g <-eval o X.env
   standAt apos.atName
   let (f,first) <-holding [g] (getMethod g m pl)
   callWith pos f first (backTo pos (starEach (e::es) X.env)) (backToKw pos (keywordEach [] X.env))):=by rfl) :
 PE X (.Call (.Attribute o m apos) (e::es) [] pos) (Fd C m sp xk E ta t):=by
 intro pins s σ H Q I h;refine methodCall_KW (pl:=pl) (z5 (he pins s σ H _ I h) λu s1 ⟨x,H1,i,z,a,D,G,ex,A,l,q⟩=>?_) y;subst ex;obtain rfl:u=Value.ref a:=z;refine W9 i A c hm l ?_;refine callWith_K (first:=[.ref a]) (h₀:=X.base) I.ok.mod.wx hm.kp (z5 (w pos pins s1 σ H1 _ i q) λus s2 ⟨vs,J,j,r,B⟩=>⟨j.y0,?_⟩) b d;exact D6 (us:=.ref a::us) (vs:=.ref a::vs) F n p hd v j (.cons rfl r) B
theorem CT(he:PE X o ta)(c:wg X.K C)(hm:DS X.K C m f)(F:U1 X.prog X.w X.K X.mg X.base CX k f fd ps sp)(e:Yf k X.A)(g:Yy X.K fd ps ds)(hd:QB xk ds)(i:VW CX X E)
 (j:eval (.Call (.Attribute o m apos) [] [] pos) X.env=(do
   let d <-eval o X.env
   standAt apos.atName
   let (f,first) <-holding [d] (getMethod d m pl)
   callWith pos f first (backTo pos (starEach [] X.env)) (backToKw pos (keywordEach [] X.env))):=by rfl) :
 PE X (.Call (.Attribute o m apos) [] [] pos) (Fd C m sp xk E ta Il):=by
 intro pins s σ H Q I h;refine methodCall_KW (pl:=pl) (z5 (he pins s σ H _ I h) λu s1 ⟨x,H1,b,n,a,r,t,ex,p,l,q⟩=>?_) j;subst ex;obtain rfl:u=Value.ref a:=n;refine W9 b p c hm l ?_;exact callWith_K0 (first:=[.ref a]) b.y0 hm.kp (D6 (us:=[.ref a]) (vs:=[.ref a]) F e g hd i b (.cons rfl .nil) q)
structure Mk(K:Frag)(C f:qd):Prop where
 makes:makesIn K C=true
 init:findIn K (.ref C) "__init__"=some (some (.ref f))
 fn:isFn K (.ref f)=true
 kp:keepIn K (.ref C)=true
theorem CG(M:Mk X.K C f)(F:U1 X.prog X.w X.K X.mg X.base CX k f fd ps sp)(i:Yf (k+1) X.A)(j:Yy X.K fd ps ds)(hd:QB xk ds)
 (l:VW CX X E) (I:Inv X pins σ H s) (r:QB vs us)
 (h:∀x b,H x=none->H b=none->b≠x->sp (.ref x::(vs++xk)) (upd (upd H b (.own x)) x (.ins C b [])) (λv m=>v=.non/\Q (.ref x) m) E) :
 wpAny (model X.prog X.w) X.A (call (.ref C) us) (EP X pins σ Q) X.xe s:=by
 have d:=h (s.heap.objs.size+1) s.heap.objs.size (I.hok.fresh (jE _)) (I.hok.fresh (qz _)) (qR (gD _));have c:=Inv.made (C:=C) I;have g:QB (V.ref (s.heap.objs.size+1)::(vs++xk)) (Value.ref (s.heap.objs.size+1)::(us++ds)):=.cons rfl (r.append hd);have n:(Value.ref (s.heap.objs.size+1)::us++ds).length=ps.length:=by
  have e:=g.length;rw[F.len _ _ _ _ d] at e;exact e.symm
 refine kM (ND (f:=f) I.y0 M.makes M.init (j0.mp M.fn) (js (F.run _ X.stack _ _ ⟨Value.ref (s.heap.objs.size+1)::us,[]⟩ (Value.ref (s.heap.objs.size+1)::(us++ds)) _ _ E (i.make C us [])
  (c.env0.make C us []) (j _ (Value.ref (s.heap.objs.size+1)::us) c.y0 n) g d) λr s' a=>?_))
 cases r with
 |error e=>exact l pins σ _ _ e s' c a
 |ok o=>
  cases o with
  |ret u=>
   obtain⟨v,H',p,q,ev,t⟩:=c.after a;subst ev;exact⟨q,⟨V.ref (s.heap.objs.size+1),H',p,U,t⟩⟩
  |next=>exact False.elim a
  |brk=>exact False.elim a
  |cont=>exact False.elim a
theorem Hq(M:Mk X.K C f)(F:U1 X.prog X.w X.K X.mg X.base CX k f fd ps sp)(d:Yf (k+1) X.A)(g:Gl X x)(hm:X.mg x=some (.ref C))(i:Yy X.K fd ps ds)(hd:QB xk ds)(j:VW CX X E)
 (l:PA X (e::es) t) (a:(x==("__debug__":qc))=false:=by decide) (he:starEach (e::es) X.env=(false,eval e X.env)::starEach es X.env:=by rfl) (b:(backTo pos (starEach es X.env)).any (·.1)=false:=by rfl) :
 PE X (.Call (.Name x p) (e::es) [] pos) (LP C sp xk E t):=by
 intro pins s σ H Q I h;refine jP (WK I g hm ?_ a);refine callWith_K (h₀:=X.base) I.ok.mod.wx M.kp (z5 (l pos pins s σ H _ I h) λus s1 ⟨vs,H1,c,r,q⟩=>⟨c.y0,?_⟩) he b;exact CG M F d i hd j c r q
theorem Vt(M:Mk X.K C f)(F:U1 X.prog X.w X.K X.mg X.base CX k f fd ps sp)(b:Yf (k+1) X.A)(c:Gl X x)(hm:X.mg x=some (.ref C))(d:Yy X.K fd ps ds)(hd:QB xk ds)(e:VW CX X E)
 (a:(x==("__debug__":qc))=false:=by decide):PE X (.Call (.Name x p) [] [] pos) (LP C sp xk E Il):=by
 intro pins s σ H Q I h;refine jP (WK I c hm ?_ a);exact callWith_K0 I.y0 M.kp (CG (us:=[]) M F b d hd e I .nil h)
end
structure UL(N P:qg)(sc:Scope):Prop where
 kind:sc.kind=.function
 co:sc.isCoroutine=false
 gen:sc.isGenerator=false
 nd:N.Nodup
 pre:N.take P.length=P
 par:∀x∈P,sc.names.lookup x=some .local\/sc.names.lookup x=some .cell
 um:∀y∈sc.names,y.2≠.free
theorem Ba{kindOf:qc->Option NameKind}{x:qc}:∀{binds:qa (qc×qe)}{m:qc->Option qe},(∀v,(x,v)∉binds)->bindL kindOf binds m x=m x
 |[],_,_=>rfl
 |(n,v)::r,m,h=>by
  unfold bindL;rw[Ba λw hw=>h w (qK _ hw)];split
  .have:x≠n:=by rintro rfl;exact h v qB
   simp[this]
  .rfl
theorem Bc{kindOf:qc->Option NameKind}{x:qc}:∀{binds:qa (qc×qe)}{m:qc->Option qe},(∀v,(x,v)∉binds)->bindC kindOf binds m x=m x
 |[],_,_=>rfl
 |(n,v)::r,m,h=>by
  unfold bindC;rw[Bc λw hw=>h w (qK _ hw)];split
  .rfl
  .have:x≠n:=by rintro rfl;exact h v qB
   simp[this]
theorem Bb{kindOf:qc->Option NameKind}{x:qc}{v:qe}:∀{P:qg}{vs:qi}{i:Nat}{m:qc->Option qe},P.Nodup->P[i]?=some x->vs[i]?=some v->kindOf x=some .local ->
 bindL kindOf (P.zip vs) m x=some v
 |[],_,_,_,_,h,_,_=>by simp at h
 |_::_,[],_,_,_,_,h,_=>by simp at h
 |p::P,w::vs,0,m,c,a,b,d=>by
  simp at a b;subst a;subst b;show bindL kindOf ((p,w)::P.zip vs) m p=_;unfold bindL;rw[Ba λv e=>(zV.mp c).1 (vm e).1,qP d];simp
 |p::P,w::vs,i+1,m,c,a,b,d=>by
  show bindL kindOf ((p,w)::P.zip vs) m x=_;unfold bindL;exact Bb (i:=i) (zV.mp c).2 (by simpa using a) (by simpa using b) d
theorem Be{kindOf:qc->Option NameKind}{x:qc}{v:qe}:∀{P:qg}{vs:qi}{i:Nat}{m:qc->Option qe},P.Nodup->P[i]?=some x->vs[i]?=some v->kindOf x≠some .local ->
 bindC kindOf (P.zip vs) m x=some v
 |[],_,_,_,_,h,_,_=>by simp at h
 |_::_,[],_,_,_,_,h,_=>by simp at h
 |p::P,w::vs,0,m,c,a,b,d=>by
  simp at a b;subst a;subst b;show bindC kindOf ((p,w)::P.zip vs) m p=_;unfold bindC;rw[Bc λv e=>(zV.mp c).1 (vm e).1,qJ d];simp
 |p::P,w::vs,i+1,m,c,a,b,d=>by
  show bindC kindOf ((p,w)::P.zip vs) m x=_;unfold bindC;exact Be (i:=i) (zV.mp c).2 (by simpa using a) (by simpa using b) d
def start(N:qg)(vs:qa V):St:=vs.map some++List.replicate (N.length-vs.length) none
def Uw(b:wC)(P:Program)(w:World)(K:Frag)(mg:qc->Option qe)(base:Heap)(N:qg)(qual:qc)(scope:Scope)(f:qd)(cd:qe)(A:Around)(outer:qa Env)(s:Shared)(H:Hp)(E:XK):Cx where
 prog:=P
 w:=w
 K:=K
 mg:=mg
 base:=base
 A:=A.deeper (envOfC qual scope s.heap.objs.size f cd)
 N:=N
 s₀:=s
 H₀:=H
 env:=envOfC qual scope s.heap.objs.size f cd
 outer:=outer
 stack:=envOfC qual scope s.heap.objs.size f cd::outer
 ex:=[]
 calm:=true
 fn:=λ_=>true
 pn:=[]
 xe:=λe s'=>wpAny (model P w) (A.deeper (envOfC qual scope s.heap.objs.size f cd)) (leaving (envOfC qual scope s.heap.objs.size f cd) e) (λ_ a=>b outer H s E e a) (λc a=>b outer H s E c a) s'
theorem DG{sc:Scope}(h:sc.names.lookup x=some .cell):∃c,(cellsFrom n sc.names []).lookup x=some c:=by
 have q:=cellsFrom_some sc.names n [] (.inl h);exact Option.isSome_iff_exists.mp q
theorem AX{C:wC}{K:Frag}{N ps:qg}{qual:qc}{scope:Scope}{f:qd}{cd:qe}{s1:Shared}{E:XK}
 (S:UL N ps scope) (hd:A.handled=none) (g:Ks P w K mg base A outer s H) (L:vs.length=ps.length) (r:QB vs us)
 (x:InCallC s s.heap.objs.size (bindL (envOfC qual scope s.heap.objs.size f cd).kindOf (ps.zip us) λ_=>none) (cellsFrom (s.heap.objs.size+1) scope.names []) (bindC (envOfC qual scope s.heap.objs.size f cd).kindOf (ps.zip us) λ_=>none) s1) :
 Inv (Uw C P w K mg base N qual scope f cd A outer s H E) [] (start N vs) H s1:=by
 have G:ps.length<=N.length:=by have:=zt List.length S.pre;rw[zY] at this;omega
 obtain⟨t,M,rfl,D⟩:=x.done;have j:∀b:qd,b∉(Uw C P w K mg base N qual scope f cd A outer s H E).ex:=λb z=>absurd (show b∈([]:qa qd) from z) (by simp);refine⟨⟨g.mod,S.kind,U,U,qz _,λy z c t d=>?_,λy l=>?_,λy c _ h=>?_,λ_=>hd,Around.frames_deeper g.frames,.inr ⟨U,U⟩,λb z=>absurd z (j b),g.bs,g.vF,λb _ _=>j b,λb z=>absurd z (j b),g.y7,g.wI⟩,
  rfl,g.bare,Un.kept D,⟨_,x.toInCall.ns,λi y v t d o=>?_⟩,λy c h=>⟨_,x.cell y c h⟩,g.hok.fresh (qz _),λy c h=>?_,λp m=>absurd (show p∈([]:qa (qd×Obj)) from m) (by simp),g.hok.kept D,?_⟩
 .exact name_of_addr x.apart (zK t) (zK d)
 .have l:scope.names.lookup y=some .cell\/scope.names.lookup y=some .free:=l;rcases l with l|l
  .exact DG l
  .exact absurd rfl (S.um _ (zK l))
 .exact yl (x.above y c (zK h))
 .have B:i<vs.length:=by
   unfold start at d;by_cases B:i<vs.length
   .exact B
   .rw[yk (by simpa using B)] at d;rw[List.getElem?_replicate] at d;split at d<;>cases d
  have I:vs[i]?=some v:=by
   unfold start at d;rw[xV (by simpa using B),qQ] at d
   cases e:vs[i]? with
   |none=>rw[e] at d;cases d
   |some a=>rw[e] at d;cases d;rfl
  obtain⟨u,F,J⟩:=r.get I;have m:ps[i]?=some y:=by
   rw[<-S.pre,List.getElem?_take_of_lt ⋯];exact t
  have o:ps.Nodup:=by rw[<-S.pre];exact S.nd.sublist (List.take_sublist _ _)
  refine⟨u,J,?_⟩;rcases S.par y (zv m) with k|k
  .exact .inl ⟨k,Bb o m F k⟩
  .obtain⟨c,e⟩:=DG (n:=s.heap.objs.size+1) k;refine .inr ⟨.inl k,c,e,?_⟩;have q:=x.cell y c e;rw[Be o m F (by show scope.names.lookup y≠_;rw[k];decide)] at q;exact q
 .exact g.hok.fresh (yl (x.above y c (zK h)))
 .unfold start;show _=N.length;rw[qA,ql,List.length_replicate];omega
theorem Oj{l:wC}{K:Frag}{k:Nat}{f:qd}{name qual:qc}{params:Arguments}{scope:Scope}{C kV doc pm a ct F:qe}{an G:Option qd}
 {m:Array (Option qe)} {N ps:qg} {sp:Sp} (lk:K.lookup f=some ⟨F,G,.func (fnOf name qual params body scope C kV doc pm an a ct),m⟩) (p:codeIn K a qual=true) (S:UL N ps scope)
 (len:∀vs H Q E,sp vs H Q E->vs.length=ps.length)
 (d:∀(A:Around)(outer:qa Env)(s:Shared)(H:Hp)(vs:qa V)(Q:VK)(E:XK),Yf k (A.deeper (envOfC qual scope s.heap.objs.size f a))->sp vs H Q E ->
   ∃t,yU (Uw l P w K mg base N qual scope f a A outer s H E) body t/\t {nx:=λ_ H'=>Q .non H',rt:=Q} (start N vs) H) :
 U1 P w K mg base l (k+1) f (fnOf name qual params body scope C kV doc pm an a ct) ps sp:=by
 refine⟨len,λA outer s H args us vs Q E z i L r j=>?_⟩;have M:=len _ _ _ _ j;have D:K.In s.heap:=i.mod.wx.keeps λb o e=>(i.bs b o e).1;have lim:s.heap.NoLimit:=i.mod.nolimit.keeps λb o e=>(i.bs b o e).1;have g:∀y∈ps.zip us,scope.names.lookup y.1=some .local\/(scope.names.lookup y.1=some .cell/\((cellsFrom (s.heap.objs.size+1) scope.names []).lookup y.1).isSome=true):=λ⟨n,v⟩ O=>by
  rcases S.par n (vm O).1 with q|q
  .exact .inl q
  .exact .inr ⟨q,cellsFrom_some _ _ _ (.inl q)⟩
 refine codeAny_call_function z.depth (D _ _ lk) rfl S.co S.gen rfl (codeRec_of D p) (L _ _ _ _ ?_);refine wpAny_newFunctionEnv_cells S.kind g λenv he s1 x=>?_;subst he;refine⟨lim.keeps x.toInCall.keep,codeAny_func ?_⟩;obtain⟨t,R,T⟩:=d A outer s H vs Q E (z.deeper _) j;have I:Inv (Uw l P w K mg base N qual scope f a A outer s H E) [] (start N vs) H s1:=AX S z.hd i M r x;refine zy (R [] s1 (start N vs) H _ I T) (λX s' h=>?_) λe s' h=>h;have fin:∀{c:St}{H':Hp}{v:V}{u:qe},Inv (Uw l P w K mg base N qual scope f a A outer s H E) [] c H' s'->QJ v u->Q v H'->CE outer P w H s Q u s':=
  λ{c H' v u} J B q=>⟨v,H',J.os,J.bare,J.base,J.hok,B,q⟩
 cases X with
 |ret u=>
  obtain⟨v,c,H',J,B,q⟩:=h;exact fin J B q
 |next=>
  obtain⟨c,H',J,q⟩:=h;exact fin (v:=V.non) (u:=Value.none) J rfl q
 |brk=>
  obtain⟨_,_,_,q⟩:=h;exact False.elim q
 |cont=>
  obtain⟨_,_,_,q⟩:=h;exact False.elim q
section
variable {X:Cx}{x:qc}{p pos:Pos}{e:Expr}{es:qa Expr}{t:TA}{id T:String}{r:qa V->Hp->VK->Prop}
def tCB(r:qa V->Hp->VK->Prop)(t:TA):TE:=λσ H Q=>t σ H λvs H1=>r vs H1 Q
theorem Qs(hc:Y7 X (.builtin id) r)(c:Gl X x)(hm:X.mg x=none)(d:bootBuiltins x=some (.builtin id))(f:PA X (e::es) t)(g:x≠"__name__":=by decide)(a:(x==("__debug__":qc))=false:=by decide)
 (he:starEach (e::es) X.env=(false,eval e X.env)::starEach es X.env:=by rfl) (b:(backTo pos (starEach es X.env)).any (·.1)=false:=by rfl):PE X (.Call (.Name x p) (e::es) [] pos) (tCB r t):=by
 intro pins s σ H Q I h;refine jP (W7 I c hm d ?_ g a);exact PyProof.Rows.callWith_builtin1 (z5 (f pos pins s σ H _ I h) λus s1 ⟨vs,H1,i,j,k⟩=>hc pins s1 σ H1 vs us Q i j k) he b
theorem Yn(hc:Y7 X (.type T) r)(c:Gl X x)(hm:X.mg x=none)(d:bootBuiltins x=some (.type T))(f:PA X (e::es) t)(g:x≠"__name__":=by decide)(a:(x==("__debug__":qc))=false:=by decide)
 (he:starEach (e::es) X.env=(false,eval e X.env)::starEach es X.env:=by rfl) (b:(backTo pos (starEach es X.env)).any (·.1)=false:=by rfl):PE X (.Call (.Name x p) (e::es) [] pos) (tCB r t):=by
 intro pins s σ H Q I h;refine jP (W7 I c hm d ?_ g a);exact xA (z5 (f pos pins s σ H _ I h) λus s1 ⟨vs,H1,i,j,k⟩=>hc pins s1 σ H1 vs us Q i j k) he b
end
end L2
namespace HT
open PySem PyProof.Rows
theorem Oo(A:Around)(s:Shared)(a:Int)(t:Tok)(c:Int)(u:Tok):∃e,SeqAt.EqAt A s (.int a t) (.int c u) e/\(e=true↔a=c):=
 ⟨(a==c),SeqAt.EqAt.int_int a t c u,by simp⟩
section
variable {prog:Program}{w:World}{A:Around}{E:qh}{s:Shared}
def jW(n d:Nat):Option Int->Nat
 |none=>d
 |some v=>if v<0 then (v+(n:Int)).toNat else min v.toNat n
theorem w9(n d:Nat):jW n d none=d:=rfl
theorem wq(n d k:Nat):jW n d (some (k:Int))=min k n:=by
 show(if (k:Int)<0 then ((k:Int)+(n:Int)).toNat else min (k:Int).toNat n)=min k n;rw[qJ ⋯,jy]
theorem Sz(n d:Nat)(hd:d<=n)(o:Option Int):jW n d o<=n:=by
 cases o with
 |none=>exact hd
 |some v=>
  show(if v<0 then (v+(n:Int)).toNat else min v.toNat n)<=n;by_cases a:v<0
  .rw[qP a];omega
  .rw[qJ a];exact Nat.min_le_right _ _
theorem HY(v:Int)(n d:Nat):(if v<0 then max (v+(n:Int)) 0 else min v (n:Int))=((jW n d (some v):Nat):Int):=by
 show(if v<0 then max (v+(n:Int)) 0 else min v (n:Int))=(((if v<0 then (v+(n:Int)).toNat else min v.toNat n):Nat):Int);by_cases a:v<0
 .simp only[qP a];omega
 .simp only[qJ a];omega
theorem ET(lo a:Option Int)(n:Nat):Builtin.Slice.sliceAdjust lo a 1 (n:Int)=(((jW n 0 lo:Nat):Int),((jW n n a:Nat):Int)):=by
 have b:¬((1:Int)<0):=by omega
 unfold Builtin.Slice.sliceAdjust;simp only[b,jx];refine Prod.ext ?_ ?_
 .cases lo with
  |none=>rfl
  |some v=>exact HY v n 0
 .cases a with
  |none=>rfl
  |some v=>exact HY v n n
theorem Eb(i j:Nat):Builtin.Slice.slicePlaces (i:Int) (j:Int) 1=j-i:=by
 unfold Builtin.Slice.slicePlaces;have a:(1:Int) > 0:=by omega
 simp only[a,yM,Int.ediv_one];split<;>omega
theorem K6{v:qe}{o:Option Int}{Q:Option Int->Shared->Prop}(p:IsPart v o)(h:Q o s):wpAny (model prog w) A (Builtin.Slice.slicePartIndex v) Q E s:=by
 cases p with
 |none=>exact slicePart_none h
 |int i t=>exact slicePart_int h
theorem Vq{sl:qd}{d e:qe}{lo a:Option Int}{n:Nat}{Q:Int×Int×Nat->Shared->Prop}(f:s.heap.IsSliceOf sl d e .none)(pl:IsPart d lo)(pu:IsPart e a)
 (h:Q (((jW n 0 lo:Nat):Int),1,jW n n a-jW n 0 lo) s):wpAny (model prog w) A (Builtin.Slice.sliceApplied (.ref sl) (pure (n:Int))) Q E s:=by
 obtain⟨os,b,g,c⟩:=id f;unfold Builtin.Slice.sliceApplied Builtin.Slice.sliceFields;refine qk (qk (wpAny_field b c (x:=d) rfl (qk (wpAny_field b c (x:=e) rfl (qk (wpAny_field b c (x:=.none) rfl (qq ?_)))))));refine qk (slicePart_none ?_);show wpAny _ _ (if ((1:Int)==0)=true then _ else _) _ _ s;rw[qJ ∅];refine qk (K6 pl (qk (K6 pu (qk (qq ?_)))));show wpAny _ _ (match Builtin.Slice.sliceAdjust lo a 1 (n:Int) with|(lo,a)=>pure (lo,(1:Int),Builtin.Slice.slicePlaces lo a 1)) _ _ s;rw[ET lo a n];show wpAny _ _ (pure (((jW n 0 lo:Nat):Int),(1:Int),Builtin.Slice.slicePlaces ((jW n 0 lo:Nat):Int) ((jW n n a:Nat):Int) 1)) _ _ s;rw[Eb];exact qq h
theorem MN(xs:Array qe)(i k:Nat):((List.range k).filterMap λ(m:Nat)=>xs[((i:Int)+(m:Int)*1).toNat]?).toArray=((xs.toList.drop i).take k).toArray:=by
 have e:(λ(m:Nat)=>xs[((i:Int)+(m:Int)*1).toNat]?)=λm=>xs[i+m]?:=by
  funext m;have:((i:Int)+(m:Int)*1).toNat=i+m:=by omega
  rw[this]
 rw[e];have:=pick_run xs i k;rw[List.filterMap_map] at this;have a:((λx=>xs[x]?)∘λx=>i+x)=λm=>xs[i+m]?:=rfl;rw[a] at this;rw[this]
theorem xU{t sl:qd}{items:Array qe}{i j:qe}{lo b:Option Int}{Q:qh}(c:IsTup s.heap t items)(k:s.heap.IsSliceOf sl i j .none)(pl:IsPart i lo)(pu:IsPart j b)
 (hw:¬(jW items.size 0 lo=0/\jW items.size items.size b=items.size))
 (h:Q (.ref s.heap.objs.size) {s with heap:=s.heap.push {cls:=.type "tuple",data:=.seq ((items.toList.drop (jW items.size 0 lo)).take (jW items.size items.size b-jW items.size 0 lo)).toArray}})
 (hsz:items.size<=sizeLine):wpAny (model prog w) A (getItem (.ref t) (.ref sl)) Q E s:=by
 have a:sizeOk (.seq ((items.toList.drop (jW items.size 0 lo)).take (jW items.size items.size b-jW items.size 0 lo)).toArray):=by
  show((items.toList.drop (jW items.size 0 lo)).take (jW items.size items.size b-jW items.size 0 lo)).toArray.size<=sizeLine;rw[qV,zY,jG,ze];omega
 have n:jW items.size items.size b<=items.size:=Sz _ _ (qz _) b;obtain⟨os,d,e,l⟩:=id k;have f:s.TypeIs (.ref sl) "slice":=⟨os,d,e⟩;unfold getItem
 try with_reducible refine zH ?_
 first|refine qk (qq ?_)|skip
 refine qk (wpAny_sequenceKey c.typeIs ∅ ?_);refine qk (zU (name:=Str.ofString "__getitem__") c.typeIs slot_tuple_getitem
  (zA slot_tuple_getitem c.typeIs entry_tuple_getitem ?_ (args_tuple_getitem _ _)))
 show wpAny _ _ (Builtin.Tuple.tupleItemsOf (.ref t)>>=_) _ _ s;refine qk (tupleItemsOf_ c ?_);refine qk (vX f ?_);rw[qP ∅];refine qk (Vq k pl pu ?_);have g:¬((((jW items.size 0 lo:Nat):Int)==0&&(1:Int)==1&&(jW items.size items.size b-jW items.size 0 lo)==items.size)=true):=by
  intro q;rw[qG,qG] at q;have o:((jW items.size 0 lo:Nat):Int)=0:=eq_of_beq q.1.1;have p:jW items.size items.size b-jW items.size 0 lo=items.size:=eq_of_beq q.2;exact hw ⟨⋯,⋯⟩
 show wpAny _ _ (if (((jW items.size 0 lo:Nat):Int)==0&&(1:Int)==1&&(jW items.size items.size b-jW items.size 0 lo)==items.size)=true then _ else _) _ _ s;rw[qJ g,MN]
 first
  |exact qk (m:=Builtin.Tuple.tupleExact _) (zr (qq ⟨_,rfl,qq h⟩) a)
  |exact qk (m:=Builtin.Tuple.tupleExact _) (zr (qk (qq (qq ⟨_,rfl,qq h⟩))) a)
  |exact qk (qk (m:=Builtin.Tuple.tupleExact _) (zr (qq (qq ⟨_,rfl,qq h⟩)) a))
  |exact qk (qk (m:=Builtin.Tuple.tupleExact _) (zr (qq ⟨_,rfl,qq h⟩) a))
end
end HT
namespace L2
open PySem PySem.Spec PyProof.Rows
variable {s:Shared}{v x y:V}{u:qe}{pins:qa (qd×Obj)}{σ:St}{H H':Hp}{t':Nat}{o:Option V}{P:Program}{w:World}{kvs:qa (qa Key×V)}{xs:qa (qa Key×qd×qe)}{a:qd}{pos:Pos}{X:Cx}
abbrev TO:=St->Hp->(Option Int->Hp->Prop)->Prop
def PO(X:Cx)(e:Option Expr)(t:TO):Prop:=
 ∀(pins:qa (qd×Obj))(s:Shared)(σ:St)(H:Hp)(Q:Option Int->Hp->Prop),Inv X pins σ H s->t σ H Q ->
  wpAny (model X.prog X.w) X.A (evalPart e X.env) (λu s'=>∃o H',Inv X pins σ H' s'/\IsPart u o/\Q o H') X.xe s
def O0:TO:=λ_ H Q=>Q none H
inductive E8(Q:(Option Int->Hp->Prop))(x:V)(H1:Hp):Prop
 |mk:∀i,x=.int i->Q (some i) H1->E8 Q x H1
def aE(t:TE):TO:=λσ H Q=>t σ H λx H1=>E8 Q x H1
section
variable {X:Cx}{e:Expr}{te:TE}{lo hi:Option Expr}{tl th:TO}{pos p2:Pos}
theorem VP:PO X none O0:=by
 intro pins s σ H Q I h;rw[evalPart_none];exact qq ⟨none,H,I,.none,h⟩
theorem VO(h:PE X e te):PO X (some e) (aE te):=by
 intro pins s σ H Q I hw;rw[evalPart_some];refine z5 (h pins s σ H _ I hw) λu s1 ⟨x,H1,a,b,c⟩=>?_;obtain⟨i,rfl,q⟩:=c;obtain⟨t,rfl⟩:=b;exact⟨some i,H1,a,.int i t,q⟩
def gM(X:Cx)(r:V->Option Int->Option Int->Hp->VK->Prop):Prop:=
 ∀(pins:qa (qd×Obj))(s:Shared)(σ:St)(H:Hp)(x:V)(v a b:qe)(lo hi:Option Int)(sl:qd)(Q:VK),Inv X pins σ H s->QJ x v->s.heap.IsSliceOf sl a b .none->IsPart a lo->IsPart b hi->r x lo hi H Q ->
  ∃T id,typeLookup (.type T) "__getitem__"=pure (some (.builtin id))/\s.TypeIs v T/\wpAny (model X.prog X.w) X.A (getItem v (.ref sl)) (EP X pins σ Q) X.xe s
def tSl(r:V->Option Int->Option Int->Hp->VK->Prop)(te:TE)(tl th:TO):TE:=λσ H Q=>te σ H λx H1=>tl σ H1 λl a=>th σ a λu b=>r x l u b Q
theorem U5{r:V->Option Int->Option Int->Hp->VK->Prop}(f:gM X r)(he:PE X e te)(g:PO X lo tl)(i:PO X hi th):PE X (.Subscript e (.Slice lo hi none p2) pos) (tSl r te tl th):=by
 intro pins s σ H Q I h;refine Subscript_ (z5 (he pins s σ H _ I h) λv s1 ⟨x,H1,j,k,m⟩=>?_);refine wpAny_Slice (z5 (g pins s1 σ H1 _ j m) λa s2 ⟨l,n,o,pl,p⟩=>z5 (i pins s2 σ n _ o p) λc s3 ⟨u,d,t,pu,w⟩=>?_);rw[evalPart_none];refine qq ?_;have y:Inv X pins σ d {s3 with heap:=s3.heap.push {cls:=.type "slice",data:=.fields #[a,c,.none]}}:=t.kept (t':=s3.toks) λb C q=>qr _ q;obtain⟨T,id,z,A,B⟩:=f pins {s3 with heap:=s3.heap.push {cls:=.type "slice",data:=.fields #[a,c,.none]}} σ d x v a c l u s3.heap.objs.size Q y k (Heap.IsSliceOf.new ..) pl pu w;show wpAny (model X.prog X.w) X.A (subscriptTail e (.Slice lo hi none p2) v (.ref s3.heap.objs.size)) (EP X pins σ Q) X.xe {s3 with heap:=s3.heap.push {cls:=.type "slice",data:=.fields #[a,c,.none]}};exact tail_any (ops:=[.ref s3.heap.objs.size,v]) A z B (by with_unfolding_all rfl)
def XY(xs:qa V)(lo hi:Option Int):qa V:=(xs.drop (HT.jW xs.length 0 lo)).take (HT.jW xs.length xs.length hi-HT.jW xs.length 0 lo)
theorem Kk(xs:qa V)(lo hi:Option Int):(XY xs lo hi).length<=xs.length:=by
 unfold XY;rw[zY,jG];omega
inductive Mt(K:Frag)(x:V)(lo:Option Int)(hi:Option Int)(H:Hp)(Q:VK):Prop
 |mk:∀a xs,x=.ref a->jj K H a xs->¬(HT.jW xs.length 0 lo=0/\HT.jW xs.length xs.length hi=xs.length)->(∀p,H p=none->Q (.ref p) (upd H p (.tup (XY xs lo hi))))->Mt K x lo hi H Q
def rSlT(K:Frag):V->Option Int->Option Int->Hp->VK->Prop:=λx lo hi H Q=>Mt K x lo hi H Q
theorem Sw:gM X (rSlT X.K):=by
 intro pins s σ H x v g i lo hi sl Q I d e pl pu h;obtain⟨a,xs,rfl,f,hw,q⟩:=h;cases d;obtain⟨its,r,c,hz⟩:=I.tuple f;have hlen:its.toArray.size=xs.length:=by rw[qV];exact r.length.symm
 refine⟨"tuple",_,slot_tuple_getitem.lookup,c.typeIs,?_⟩;refine HT.xU c e pl pu (by rw[hlen];exact hw) ?_ (by rw[hlen];exact hz);rw[hlen];refine⟨.ref s.heap.objs.size,_,I.laid (t':=s.toks) (o:=.tup (XY xs lo hi)) (λb j q=>qr _ q) (qz _) ?_,U,q _ (I.hok.fresh (qz _))⟩;exact⟨zb (Kk xs lo hi) hz,_,(r.drop (HT.jW xs.length 0 lo)).take (HT.jW xs.length xs.length hi-HT.jW xs.length 0 lo),IsTup.new _ _⟩
end
def gL(n:Nat)(i:Int):Option Nat:=if 0<=i then (if i<n then some i.toNat else none) else if -(n:Int)<=i then some (i+n).toNat else none
def xx{α:Type}(xs:qa α)(i:Int):Option α:=(gL xs.length i).bind λj=>xs[j]?
theorem P6{n:Nat}{i:Int}{j:Nat}(h:gL n i=some j):seqIndex? i n=some j/\j<n/\-(n:Int)<=i/\i<n:=by
 unfold gL at h;by_cases h0:0<=i
 .rw[qP h0] at h;by_cases a:i<n
  .rw[qP a] at h;have e:i.toNat=j:=qW h;exact⟨by rw[seqIndex_of h0 a,e],⋯,⋯,a⟩
  .rw[qJ a] at h;cases h
 .rw[qJ h0] at h;by_cases a : -(n:Int)<=i
  .rw[qP a] at h;have e:(i+n).toNat=j:=qW h;exact⟨by rw[seqIndex_neg ⋯ a,e],⋯,a,⋯⟩
  .rw[qJ a] at h;cases h
theorem BR{α:Type}{xs:qa α}{i:Int}{v:α}(h:xx xs i=some v):∃j,seqIndex? i xs.length=some j/\xs[j]?=some v/\j<xs.length/\-(xs.length:Int)<=i/\i<xs.length:=by
 unfold xx at h
 cases e:gL xs.length i with
 |none=>rw[e] at h;cases h
 |some j=>
  rw[e] at h;obtain⟨a,b,c,d⟩:=P6 e;exact⟨j,a,h,b,c,d⟩
theorem QF{α:Type}{xs:qa α}{j:Nat}{v:α}(h:xs[j]?=some v):xx xs (j:Int)=some v:=by
 have a:j<xs.length:=(zm.mp h).1;have e:gL xs.length (j:Int)=some j:=by
  unfold gL;rw[qP ⋯,qP ⋯];simp
 unfold xx;rw[e];exact h
theorem DQ{α:Type}(xs:qa α)(v:α):xx (xs++[v]) (-1)=some v:=by
 have a:(xs++[v]).length=xs.length+1:=by simp
 have e:gL (xs++[v]).length (-1)=some xs.length:=by
  unfold gL;rw[a,qJ ∅,qP ⋯];congr 1;omega
 unfold xx;rw[e];show(xs++[v])[xs.length]?=some v;simp
def RA(b:Expr):Prop:=∀o i,subscripted b false o i=operate [o,i] (getItem o i)
def uJ(X:Cx)(r:R2):Prop:=
 ∀(value slice:Expr)(pins:qa (qd×Obj))(s:Shared)(σ:St)(H:Hp)(x y:V)(v u:qe)(Q:VK),Inv X pins σ H s->QJ x v->QJ y u->r x y H Q ->
  subscripted slice false v u=operate [v,u] (getItem v u)->wpAny (model X.prog X.w) X.A (subscriptTail value slice v u) (EP X pins σ Q) X.xe s
def wO(X:Cx)(id:String)(r:V->qa V->Hp->VK->Prop):Prop:=
 ∀(pins:qa (qd×Obj))(s:Shared)(σ:St)(H:Hp)(x:V)(xs:qa V)(v:qe)(us:qi)(Q:VK),Inv X pins σ H s->QJ x v->QB xs us->r x xs H Q ->
  wpAny (model X.prog X.w) X.A (call (.builtin id) (v::us)) (EP X pins σ Q) X.xe s
section
variable {X:Cx}{a b:Expr}{ta tb:TE}{pos:Pos}
theorem Qt{r:R2}(c:uJ X r)(d:PE X a ta)(e:PE X b tb)(f:RA b:=by exact λ_ _=>rfl):PE X (.Subscript a b pos) (tOp r ta tb):=by
 intro pins s σ H Q I h;exact Subscript_ (TV d e I h λv u s2 x y g i j k q=>c a b pins s2 σ g x y v u Q i j k q (f _ _))
inductive MB(K:Frag)(x:V)(y:V)(H:Hp)(Q:VK):Prop
 |mk:∀p xs i v,x=.ref p->y=.int i->zN K H p xs->xx xs i=some v->Q v H->MB K x y H Q
def bq(K:Frag):R2:=λx y H Q=>MB K x y H Q
inductive Mz(K:Frag)(x:V)(y:V)(H:Hp)(Q:VK):Prop
 |mk:∀p xs i v,x=.ref p->y=.int i->jj K H p xs->xx xs i=some v->Q v H->Mz K x y H Q
def bp(K:Frag):R2:=λx y H Q=>Mz K x y H Q
inductive MA(x:V)(y:V)(H:Hp)(Q:VK):Prop
 |mk:∀z i c,x=.str z->y=.int i->z.length<=sizeLine->xx z.cps.toList i=some c->Q (.str ⟨#[c]⟩) H->MA x y H Q
def rIxS:R2:=λx y H Q=>MA x y H Q
theorem Q2:uJ X (bq X.K):=by
 intro value slice pins s σ H x y v u Q I f g h d;obtain⟨p,xs,i,z,rfl,rfl,k,he,q⟩:=h;cases f;obtain⟨t,rfl⟩:=g;obtain⟨its,r,pl,hz⟩:=I.list k;obtain⟨j,a,l,A,m,n⟩:=BR he;obtain⟨w,e,b⟩:=r.get l;have o:=r.length;have B:=W6;have fin:EP X pins σ Q w s:=⟨z,H,I,b,q⟩;by_cases h0:0<=i
 .have c:i.toNat=j:=by
   rw[seqIndex_of h0 n] at a;exact qW a
  exact item_listR pl.isList h0 ⋯ (by rw[c];simpa using e) fin d
 .have c:(i+(its.toArray.size:Int)).toNat=j:=by
   rw[seqIndex_neg ⋯ m] at a;rw[qV,<-o];exact qW a
  exact subscriptTail_builtinR (x:=w) pl.isList.typeIs slot_list_getitem.lookup
   (wpAny_getItem_list_neg (Q:=λr s'=>r=w/\EP X pins σ Q r s') pl.isList ⋯ (by rw[qV]<;>omega) ⋯ (by rw[c];simpa using e) ⟨U,fin⟩) d
theorem QA:uJ X (bp X.K):=by
 intro value slice pins s σ H x y v u Q I b c h d;obtain⟨p,xs,i,z,rfl,rfl,e,he,q⟩:=h;cases b;obtain⟨t,rfl⟩:=c;obtain⟨its,r,pl,hz⟩:=I.tuple e;obtain⟨j,f,g,m,n,o⟩:=BR he;obtain⟨w,k,a⟩:=r.get g;have l:=r.length;have A:=W6;have fin:EP X pins σ Q w s:=⟨z,H,I,a,q⟩;exact subscriptTail_builtinR (x:=w) pl.typeIs slot_tuple_getitem.lookup
  (getItem_tuple (j:=j) (Q:=λr s'=>r=w/\EP X pins σ Q r s') pl ⋯ ⋯ (by rw[qV,<-l];exact f) (by simpa using k) ⟨U,fin⟩) d
theorem ED:uJ X rIxS:=by
 intro value slice pins s σ H x y v u Q I b d h e;obtain⟨z,i,c,rfl,rfl,hz,he,q⟩:=h;obtain⟨t,rfl⟩:=b;obtain⟨t',rfl⟩:=d;obtain⟨j,a,f,o,g,k⟩:=BR he;have l:z.cps.toList.length=z.length:=by simp[Str.length]
 rw[l] at a g k;have p:=W6;exact tail_any (kO s z t) slot_str_getitem.lookup (getItem_str (c:=c) (by
  have m:decide (i < -(2^63:Int))=false:=qD ⋯;have n:decide (i>=2^63)=false:=qD ⋯;rw[m,n,Bool.or_false]) (by rw[a];simpa using f) ⟨.str ⟨#[c]⟩,H,I.tok _,⟨_,U⟩,q⟩) e
theorem Bo(lo a:Option Int)(n:Nat):(sliceBounds lo a none n).1=((HT.jW n 0 lo:Nat):Int)/\(sliceBounds lo a none n).2.1=((HT.jW n n a:Nat):Int)/\(sliceBounds lo a none n).2.2=1:=by
 refine⟨?_,?_,U⟩
 .cases lo with
  |none=>simp[sliceBounds,HT.jW]
  |some i=>
   simp only[sliceBounds,HT.jW,Option.getD_none,show(1:Int) > 0 by decide,yM];by_cases h:i<0
   .simp only[h,yM]<;>omega
   .simp only[h,jx]<;>omega
 .cases a with
  |none=>simp[sliceBounds,HT.jW]
  |some i=>
   simp only[sliceBounds,HT.jW,Option.getD_none,show(1:Int) > 0 by decide,yM];by_cases h:i<0
   .simp only[h,yM]<;>omega
   .simp only[h,jx]<;>omega
theorem Ad(its:qi)(lo a:Option Int):slicePick its.toArray lo a none=((its.drop (HT.jW its.length 0 lo)).take (HT.jW its.length its.length a-HT.jW its.length 0 lo)).toArray:=by
 obtain⟨b,c,d⟩:=Bo lo a its.toArray.size;unfold slicePick;rw[b,c,d];simp only[sliceRange_one,pick_run,qV]<;>rfl
inductive Mv(K:Frag)(x:V)(lo:Option Int)(hi:Option Int)(H:Hp)(Q:VK):Prop
 |mk:∀a xs,x=.ref a->zN K H a xs->(∀p,H p=none->Q (.ref p) (upd H p (.lst (XY xs lo hi))))->Mv K x lo hi H Q
def rSlL(K:Frag):V->Option Int->Option Int->Hp->VK->Prop:=λx lo a H Q=>Mv K x lo a H Q
theorem O5:gM X (rSlL X.K):=by
 intro pins s σ H x v i j lo c sl Q I e f pl pu h;obtain⟨a,xs,rfl,g,q⟩:=h;cases e;obtain⟨its,r,d,hz⟩:=I.list g;have hlen:=r.length;refine⟨"list",_,slot_list_getitem.lookup,d.isList.typeIs,?_⟩;refine wpAny_getItem_list_slice d.isList f pl pu .none (by simp) ?_ (by rw[qV]<;>omega);rw[Ad,<-hlen];refine⟨.ref s.heap.objs.size,_,I.laid (t':=s.toks) (o:=.lst (XY xs lo c)) (λb k q=>qr _ q) (qz _) ?_,U,q _ (I.hok.fresh (qz _))⟩;exact⟨zb (Kk xs lo c) hz,_,0,(r.drop (HT.jW xs.length 0 lo)).take (HT.jW xs.length xs.length c-HT.jW xs.length 0 lo),qI _ rfl⟩
def Wr:V->Bool
 |.non=>true
 |.bl _=>true
 |.int _=>true
 |.str _=>true
 |_=>false
def gW:V->V->Bool
 |.non,.non=>true
 |.bl a,.bl b=>a==b
 |.bl a,.int b=>(if a then 1 else 0)==b
 |.int a,.bl b=>a==(if b then 1 else 0)
 |.int a,.int b=>a==b
 |.str a,.str b=>a==b
 |_,_=>false
theorem TL{A:Around}{v:qe}(d:QJ y u)(c:QJ x v)(e:Wr y=true)(fx:Wr x=true):SeqAt.EqAt A s u v (gW y x):=by
 cases y with
 |non=>
  cases d
  cases x with
  |non=>cases c;exact SeqAt.EqAt.same _
  |bl b=>cases c;exact SeqAt.EqAt.none_bool b
  |int b=>obtain⟨t,rfl⟩:=c;exact SeqAt.EqAt.none_int b t
  |str b=>obtain⟨t,rfl⟩:=c;exact SeqAt.EqAt.none_str b t
  |_=>exact absurd (show false=true from fx) qO
 |bl a=>
  cases d
  cases x with
  |non=>cases c;exact SeqAt.EqAt.bool_none a
  |bl b=>cases c;exact SeqAt.EqAt.bool_bool a b
  |int b=>obtain⟨t,rfl⟩:=c;exact SeqAt.EqAt.bool_int a b t
  |str b=>obtain⟨t,rfl⟩:=c;exact SeqAt.EqAt.bool_str a b t
  |_=>exact absurd (show false=true from fx) qO
 |int a=>
  obtain⟨t',rfl⟩:=d
  cases x with
  |non=>cases c;exact SeqAt.EqAt.int_none a t'
  |bl b=>cases c;exact SeqAt.EqAt.int_bool a t' b
  |int b=>obtain⟨t,rfl⟩:=c;exact SeqAt.EqAt.int_int a t' b t
  |str b=>obtain⟨t,rfl⟩:=c;exact SeqAt.EqAt.int_str a t' b t
  |_=>exact absurd (show false=true from fx) qO
 |str a=>
  obtain⟨t',rfl⟩:=d
  cases x with
  |non=>cases c;exact SeqAt.EqAt.str_none a t'
  |bl b=>cases c;exact SeqAt.EqAt.str_bool a t' b
  |int b=>obtain⟨t,rfl⟩:=c;exact SeqAt.EqAt.str_int a t' b t
  |str b=>obtain⟨t,rfl⟩:=c;exact kP a t' b t
  |_=>exact absurd (show false=true from fx) qO
 |_=>exact absurd (show false=true from e) qO
def wb(x:V)(u:qe):Bool:=match u with
 |.none=>gW .non x
 |.bool b=>gW (.bl b) x
 |.int i _=>gW (.int i) x
 |.str z _=>gW (.str z) x
 |_=>false
theorem Om(r:QJ y u)(f:Wr y=true):wb x u=gW y x:=by
 cases y with
 |non=>cases r;rfl
 |bl b=>cases r;rfl
 |int i=>obtain⟨t,rfl⟩:=r;rfl
 |str z=>obtain⟨t,rfl⟩:=r;rfl
 |_=>exact absurd (show false=true from f) qO
theorem Xw{x:V}:∀{xs:qa V}{us:qi},QB xs us->xs.all Wr=true->us.any (wb x)=xs.any λy=>gW y x
 |_,_,.nil,_=>rfl
 |y::xs,u::us,.cons r t,f=>by
  rw[wj,qG] at f;rw[yB,yB,Om r f.1,Xw t f.2]
theorem Wk{A:Around}{s:Shared}{x:V}{v:qe}(b:QJ x v)(fx:Wr x=true):∀{xs:qa V}{us:qi},QB xs us->xs.all Wr=true->∀u∈us,SeqAt.EqAt A s u v (wb x u)
 |_,_,.nil,_=>λu a=>by cases a
 |y::xs,u::us,.cons r t,f=>λc a=>by
  rw[wj,qG] at f;rcases qC.mp a with rfl|a
  .rw[Om r f.1];exact TL r b f.1 fx
  .exact Wk b fx t f.2 c a
def inV(x:V)(xs:qa V):Bool:=xs.any λy=>gW y x
inductive RP(K:Frag)(neg:Bool)(x:V)(y:V)(H:Hp)(Q:VK):Prop
 |mk:∀p xs,y=.ref p->(zN K H p xs\/jj K H p xs)->Wr x=true->xs.all Wr=true->Q (.bl (if neg then !inV x xs else inV x xs)) H->RP K neg x y H Q
def rIn(K:Frag)(neg:Bool):R2:=λx y H Q=>RP K neg x y H Q
theorem AI:y9 X (compareOp .In) (rIn X.K false):=by
 intro pins s σ H x y v u Q I c d h;obtain⟨p,xs,rfl,a,fx,b,q⟩:=h;cases d;rcases a with a|a
 .obtain⟨its,r,pl,hz⟩:=I.list a;refine SeqAt.in_listAt (wb x) pl.isList (λw hw=>Wk c fx r b w (by simpa using hw)) ⟨.bl _,H,I,U,?_⟩;rw[show its.toArray.any (wb x)=its.any (wb x) by simp,Xw r b];exact q
 .obtain⟨its,r,pl,hz⟩:=I.tuple a;refine SeqAt.in_tupleAt (wb x) pl (λw hw=>Wk c fx r b w (by simpa using hw)) ⟨.bl _,H,I,U,?_⟩;rw[show its.toArray.any (wb x)=its.any (wb x) by simp,Xw r b];exact q
theorem Xl:y9 X (compareOp .NotIn) (rIn X.K true):=by
 intro pins s σ H x y v u Q I c d h;obtain⟨p,xs,rfl,a,fx,b,q⟩:=h;cases d;rcases a with a|a
 .obtain⟨its,r,pl,hz⟩:=I.list a;refine SeqAt.notIn_listAt (wb x) pl.isList (λw hw=>Wk c fx r b w (by simpa using hw)) ⟨.bl _,H,I,U,?_⟩;rw[show its.toArray.any (wb x)=its.any (wb x) by simp,Xw r b];exact q
 .obtain⟨its,r,pl,hz⟩:=I.tuple a;refine SeqAt.notIn_tupleAt (wb x) pl (λw hw=>Wk c fx r b w (by simpa using hw)) ⟨.bl _,H,I,U,?_⟩;rw[show its.toArray.any (wb x)=its.any (wb x) by simp,Xw r b];exact q
theorem QU:Y7 X (.builtin "len") (λxs H Q=>∃p ys,xs=[.ref p]/\(zN X.K H p ys\/jj X.K H p ys)/\Q (.int ys.length) H):=by
 intro pins s σ H xs us Q I r h;obtain⟨p,ys,rfl,a,q⟩:=h;obtain⟨u,rfl,c⟩:=Um r;cases c;have d:=W6;rcases a with a|a
 .obtain⟨its,b,pl,hz⟩:=I.list a;have hlen:=b.length;exact Calls.call_len_list pl.isList (by simp only[qV]<;>omega) ⟨.int ys.length,H,I.tok _,⟨s.toks+1,by rw[qV,hlen]⟩,q⟩
 .obtain⟨its,b,pl,hz⟩:=I.tuple a;have hlen:=b.length;exact len_tuple pl (by simp only[qV]<;>omega) ⟨.int ys.length,H,I.tok _,⟨s.toks+1,by rw[qV,hlen]⟩,q⟩
theorem Ux:Y7 X (.builtin "len") (λxs H Q=>∃z,xs=[.str z]/\z.length<=sizeLine/\Q (.int z.length) H):=by
 intro pins s σ H xs us Q I r h;obtain⟨z,rfl,hz,q⟩:=h;obtain⟨u,rfl,t,rfl⟩:=Um r;have a:=W6;exact len_str ⋯ ⟨.int z.length,H,I.tok _,⟨_,U⟩,q⟩
theorem BO:Y7 X (.type "list") (λxs H Q=>∃p ys,xs=[.ref p]/\(zN X.K H p ys\/jj X.K H p ys)/\∀l,H l=none->Q (.ref l) (upd H l (.lst ys))):=by
 intro pins s σ H xs us Q I r h;obtain⟨p,ys,rfl,d,q⟩:=h;obtain⟨u,rfl,j⟩:=Um r;cases j;have fin:∀(its:qi),QB ys its->ys.length<=sizeLine->∀(h':Heap)(a:Nat),(∀b i,s.heap.get? b=some i->h'.get? b=some i) ->
  h'.get? s.heap.objs.size=some {cls:=.type "list",dict:=none,data:=.seq its.toArray a,slots:=#[]}->EP X pins σ Q (.ref s.heap.objs.size) {s with heap:=h'}:=λits c hz h' a f e=>
  ⟨.ref s.heap.objs.size,_,I.laid (t':=s.toks) f (qz _) (show QP X.prog X.w _ h' _ (.lst ys) from⟨hz,its,a,c,e⟩),U,q _ (I.hok.fresh (qz _))⟩
 rcases d with d|d
 .obtain⟨its,c,pl,hz⟩:=I.list d;have hlen:=c.length;obtain⟨o,g,hc,n,hd⟩:=pl.isList;exact call_list_seq p (.inl rfl) g hc hd (λh' a f e=>fin its c hz h' a f e) (by simp only[qV]<;>omega)
 .obtain⟨its,c,pl,hz⟩:=I.tuple d;have hlen:=c.length;obtain⟨o,g,hc,n,hd⟩:=pl;exact call_list_seq p (.inr rfl) g hc hd (λh' a f e=>fin its c hz h' a f e) (by simp only[qV]<;>omega)
def tyV(K:Frag)(T:String)(x:V)(H:Hp):Prop:=match x with
 |.str _=>T="str"
 |.int _=>T="int"
 |.ref p=>(T="list"/\∃xs,zN K H p xs)\/(T="tuple"/\∃o,K.lookup p=some o/\o.cls=.type "tuple"/\o.dict=none) \/
   (T="dict"/\((∃kvs,H p=some (.dK kvs))\/∃kvs,H p=some (.dT kvs)))\/(T="set"/\∃S n,H p=some (.set S n))
 |_=>False
theorem LH{T:String}{v:qe}(I:Inv X pins σ H s)(r:QJ x v)(ty:tyV X.K T x H) :
 s.TypeIs v T/\∀a,v=.ref a->∃f,s.heap.get? a=some f/\f.dict=none:=by
 cases x with
 |str z=>
  obtain⟨t,rfl⟩:=r;cases (show T="str" from ty);exact⟨kO s z t,λ_ e=>nomatch e⟩
 |int i=>
  obtain⟨t,rfl⟩:=r;cases (show T="int" from ty);exact⟨typeIs_int s i t,λ_ e=>nomatch e⟩
 |ref p=>
  cases r;rcases ty with⟨rfl,xs,g⟩|⟨rfl,o,b,hc,hd⟩|⟨rfl,b⟩|⟨rfl,S,n,b⟩
  .obtain⟨its,_,pl,_⟩:=I.list g;refine⟨pl.isList.typeIs,λa e=>?_⟩;cases e;obtain⟨o,n,e,c,hd,_⟩:=pl;exact⟨o,e,hd⟩
  .refine⟨⟨o,I.y0 p o b,hc⟩,λa e=>?_⟩;cases e;exact⟨o,I.y0 _ o b,hd⟩
  .have z:∃o,s.heap.get? p=some o/\o.ExactDict:=by
    rcases b with⟨kvs,b⟩|⟨kvs,b⟩
    .obtain⟨_,_,_,_,o,_,_,e,ex,_⟩:=I.hok p _ b;exact⟨o,e,ex⟩
    .obtain⟨_,_,_,_,o,_,_,e,ex,_⟩:=I.hok p _ b;exact⟨o,e,ex⟩
   obtain⟨o,e,ex⟩:=z;refine⟨⟨o,e,ex.1⟩,λa d=>?_⟩;cases d;exact⟨o,e,ex.2.1⟩
  .obtain⟨o,_,_,_,e,ex,_⟩:=I.hok p _ b;refine⟨⟨o,e,ex.1⟩,λa d=>?_⟩;cases d;exact⟨o,e,ex.2.1⟩
 |_=>exact False.elim ty
def aS(K:Frag)(T:String)(r:V->qa V->Hp->VK->Prop)(to:TE):TE:=λσ H Q=>to σ H λx H1=>tyV K T x H1/\r x [] H1 Q
def tBM(K:Frag)(T:String)(r:V->qa V->Hp->VK->Prop)(to:TE)(t:TA):TE:=λσ H Q=>to σ H λx H1=>tyV K T x H1/\t σ H1 λxs a=>r x xs a Q
variable {o e:Expr}{es:qa Expr}{to:TE}{t:TA}{name:qc}{apos cpos:Pos}{T id:String}{r:V->qa V->Hp->VK->Prop}
theorem Gk(f:PlainAttrs T)(slot:Slot T name id)(c:typeOf (.builtin id)=pure (.type "method_descriptor"))(hm:wO X id r)(g:PE X o to)
 (a:attributeBase o name X.env (eval o X.env)=eval o X.env:=by rfl) (b:(apos.endLine==cpos.line)=true:=by rfl):PE X (.Call (.Attribute o name apos) [] [] cpos) (aS X.K T r to):=by
 intro pins s σ H Q I h;refine wpAny_Call_method0_late a b (z5 (g pins s σ H _ I h) λv s1 ⟨x,H1,d,e,ty,i⟩=>?_);obtain⟨j,k⟩:=LH d e ty;exact⟨T,id,f,slot,c,j,k,jt rfl (PySem.evalArgs_none (hm pins s1 σ H1 x [] v [] Q d e .nil i))⟩
theorem WW(j:PlainAttrs T)(slot:Slot T name id)(d:typeOf (.builtin id)=pure (.type "method_descriptor"))(hm:wO X id r)(k:PE X o to)(l:PA X (e::es) t)
 (a:attributeBase o name X.env (eval o X.env)=eval o X.env:=by rfl)
 (c:((backTo cpos (starEach (e::es) X.env)).all (λx=>!x.1)&&(backToKw cpos (keywordEach [] X.env)).all (λx=>x.1.isSome)
   &&decide ((e::es).length+([]:qa Keyword).length+(if ([]:qa Keyword).isEmpty then 0 else 1)<30))=true:=by rfl)
 (b:(apos.endLine==cpos.line)=true:=by rfl) (m:starEach (e::es) X.env=(false,eval e X.env)::starEach es X.env:=by rfl) (hplain:(backTo cpos (starEach es X.env)).any (·.1)=false:=by rfl) :
 PE X (.Call (.Attribute o name apos) (e::es) [] cpos) (tBM X.K T r to t):=by
 intro pins s σ H Q I h;refine wpAny_Call_method_late a c b rfl (z5 (k pins s σ H _ I h) λv s1 ⟨x,H1,f,g,ty,n⟩=>?_);obtain⟨p,q⟩:=LH f g ty;refine⟨T,id,j,slot,d,p,q,?_⟩;have i:=l cpos pins s1 σ H1 _ f n;rw[m] at i⊢;refine jt (by show(false||(backTo cpos (starEach es X.env)).any (·.1))=false;rw[hplain]<;>rfl) (jT ?_);exact z5 i λus s2 ⟨vs,u,w,y,z⟩=>hm pins s2 σ u x vs v us Q w g y z
end
def MtM(X:Cx)(id:String)(r:V->qa V->Hp->VK->Prop):Prop:=
 ∀(pins:qa (qd×Obj))(s:Shared)(σ:St)(H:Hp)(x:V)(xs:qa V)(v:qe)(us:qi)(Q:VK),Inv X pins σ H s->QJ x v->QB xs us->r x xs H Q ->
  wpAny (model X.prog X.w) X.A (call (.builtin id) (v::us)) (EP X pins σ Q) X.xe s
theorem QB.one:∀{x:V}{us:qi},QB [x] us->∃u,us=[u]/\QJ x u
 |_,_,.cons r .nil=>⟨_,U,r⟩
theorem QB.zero:∀{us:qi},QB [] us->us=[]
 |_,.nil=>rfl
theorem QB.dropLast{xs:qa V}{us:qi}(h:QB xs us):QB xs.dropLast us.dropLast:=by
 induction h with
 |nil=>exact .nil
 |cons r t a=>
  cases t with
  |nil=>exact .nil
  |cons q t'=>exact .cons r a
theorem EM{α:Type}(l:qa α):l.eraseIdx (l.length-1)=l.dropLast:=by
 induction l with
 |nil=>rfl
 |cons a r c=>
  cases r with
  |nil=>rfl
  |cons b r=>
   have e:(a::b::r).length-1=((b::r).length-1)+1:=by
    have d:(a::b::r).length=r.length+2:=rfl;have f:(b::r).length=r.length+1:=rfl;omega
   rw[e,List.eraseIdx_cons_succ,c]
   all_goals rfl
section
variable {X:Cx}{pins:qa (qd×Obj)}{σ:St}{H:Hp}{s:Shared}{l b:qd}{xs ys zs:qa V}
theorem Inv.lset{its its':qi}{n:Nat}{f:Array qe->Array qe}(I:Inv X pins σ H s)(a:H l=some (.lst xs))
 (e:s.heap.get? l=some {cls:=.type "list",data:=.seq its.toArray n}) (hf:f its.toArray=its'.toArray) (b:QB ys its') (hz:ys.length<=sizeLine) :
 Inv X pins σ (upd H l (.lst ys)) {s with heap:=s.heap.update l (Obj.mapSeq f),toks:=t'}:=by
 have q:=PySem.IsL.update e f;rw[hf] at q;refine I.write (x:=l) (e:=l) (by rw[a];exact trivial) (.inl rfl) (λg u c d=>(zG s.heap (Obj.mapSeq f) (jL c)).trans d) ⟨_,q⟩ ?_;exact⟨hz,its',_,b,q⟩
theorem Inv.wa{its:qi}(I:Inv X pins σ H s)(a:QB ys its)(hz:ys.length<=sizeLine) :
 Inv X pins σ (upd H s.heap.objs.size (.lst ys)) {s with heap:=s.heap.push {cls:=.type "list",data:=.seq its.toArray},toks:=t'}:=
 I.laid (λ_ _ q=>qr _ q) (qz _) ⟨hz,its,0,a,qI _ rfl⟩
theorem Inv.fresh(I:Inv X pins σ H s):H s.heap.objs.size=none:=I.hok.fresh (qz _)
theorem Inv.gK(I:Inv X pins σ H s)(a:H l=some (.lst xs)):xs.length<=sizeLine/\∃(its:qi)(n:Nat),QB xs its/\xs.length=its.length/\s.heap.get? l=some {cls:=.type "list",data:=.seq its.toArray n}:=by
 obtain⟨z,its,n,r,e⟩:=I.hok l _ a;exact⟨z,its,n,r,r.length,e⟩
end
section
variable {X:Cx}
inductive AG(x:V)(vs:qa V)(H:Hp)(Q:VK):Prop
 |mk:∀l xs y,x=.ref l->vs=[y]->H l=some (.lst xs)->xs.length<sizeLine->Q .non (upd H l (.lst (xs++[y])))->AG x vs H Q
def Pg:V->qa V->Hp->VK->Prop:=λx vs H Q=>AG x vs H Q
theorem YL:MtM X "list.append" Pg:=by
 intro pins s σ H x vs v us Q I b c h;obtain⟨l,xs,y,rfl,rfl,a,hz,q⟩:=h;cases b;obtain⟨u,rfl,d⟩:=c.one;obtain⟨z,its,n,r,f,e⟩:=I.gK a;refine vY F.slot_list_append ⟨_,e,U⟩ F.entry_list_append (F.args_list_append_2 _ _) (PySem.list_append l its.toArray n u (by rw[qV];omega)) ⟨e,?_⟩;refine⟨.non,_,I.lset (its':=its++[u]) a e (by simp) (r.append (.cons d .nil)) ?_,U,q⟩;rw[qA,qY];omega
inductive Mx(x:V)(vs:qa V)(H:Hp)(Q:VK):Prop
 |mk:∀l xs y,x=.ref l->vs=[]->H l=some (.lst xs)->xs[xs.length-1]?=some y->Q y (upd H l (.lst xs.dropLast))->Mx x vs H Q
def rPop:V->qa V->Hp->VK->Prop:=λx vs H Q=>Mx x vs H Q
theorem Tf:MtM X "list.pop" rPop:=by
 intro pins s σ H x vs v us Q I d f h;obtain⟨l,xs,y,rfl,rfl,c,g,q⟩:=h;cases d;have a:=f.zero;subst a;obtain⟨z,its,n,r,i,e⟩:=I.gK c;obtain⟨u,j,k⟩:=r.get g;have b:its.toArray[its.toArray.size-1]?=some u:=by
  show its.toArray[its.length-1]?=some u;rw[<-zw,<-i];exact j
 refine vY F.slot_list_pop ⟨_,e,U⟩ F.entry_list_pop (F.args_list_pop_1 _) (MeetsSeq.list_pop_last l its.toArray n u b (by rw[qV];omega)) ⟨e,?_⟩;refine⟨y,_,I.lset (its':=its.dropLast) c e ?_ r.dropLast ?_,k,q⟩
 .show its.toArray.eraseIdxIfInBounds (its.toArray.size-1)=its.dropLast.toArray;rw[qV,List.eraseIdxIfInBounds_toArray,EM]
 .rw[List.length_dropLast];omega
inductive ME(x:V)(y:V)(H:Hp)(Q:VK):Prop
 |mk:∀l b xs zs,x=.ref l->y=.ref b->H l=some (.lst xs)->H b=some (.lst zs)->xs.length+zs.length<=sizeLine->(∀p,H p=none->Q (.ref p) (upd H p (.lst (xs++zs))))->ME x y H Q
def rCat:R2:=λx y H Q=>ME x y H Q
theorem M4:y9 X (binaryOp .Add) rCat:=by
 intro pins s σ H x y v u Q I c d h;obtain⟨l,b,xs,zs,rfl,rfl,f,g,hz,q⟩:=h;cases c;cases d;obtain⟨z,its,n,r,o,e⟩:=I.gK f;obtain⟨p,a,t,i,j,k⟩:=I.gK g;refine PySem.P.add_list e k ?_ (by rw[qV,qV];omega);have m:its.toArray++a.toArray=(its++a).toArray:=by simp
 rw[m];exact⟨.ref _,_,I.wa (t':=s.toks) (r.append i) (by rw[qA];omega),U,q _ I.fresh⟩
end
section
variable {κ:Type}[DecidableEq κ]
def Qy(kvs:qa (κ×V))(k:κ):Option V:=(kvs.find? λa=>decide (a.1=k)).map (·.2)
def Ye(kvs:qa (κ×V))(k:κ)(v:V):qa (κ×V):=
 if (kvs.any λa=>decide (a.1=k))=true then kvs.map (λa=>if a.1=k then (a.1,v) else a) else kvs++[(k,v)]
def YR(kvs:qa (κ×V))(k:κ):qa (κ×V):=kvs.filter λa=>decide (a.1≠k)
theorem Yq{p:κ×V}{r:qa (κ×V)}{k:κ}(e:p.1=k):Qy (p::r) k=some p.2:=by simp[Qy,jo,e]
theorem Yj{p:κ×V}{r:qa (κ×V)}{k:κ}(e:¬p.1=k):Qy (p::r) k=Qy r k:=by simp[Qy,jo,e]
theorem U3(k:κ):∀kvs:qa (κ×V),(kvs.any λa=>decide (a.1=k))=(Qy kvs k).isSome
 |[]=>rfl
 |p::r=>by
  rw[yB];by_cases e:p.1=k
  .simp only[Yq e,qx e,Bool.true_or,Option.isSome_some]
  .rw[Yj e,qD e,Bool.false_or];exact U3 k r
theorem BY(k j:κ)(y:V):∀kvs:qa (κ×V),Qy (kvs.map λa=>if a.1=k then (a.1,y) else a) j=(Qy kvs j).map λx=>if j=k then y else x
 |[]=>rfl
 |p::r=>by
  have b:=BY k j y r;rw[zf];by_cases h:p.1=k
  .rw[qP h];by_cases e:p.1=j
   .rw[Yq (p:=(p.1,y)) e,Yq e,yF,qP (e.symm.trans h)]
   .rw[Yj (p:=(p.1,y)) e,Yj e,b]
  .rw[qJ h];by_cases e:p.1=j
   .rw[Yq (p:=p) e,Yq e,yF,qJ (λz=>h (e.trans z))]
   .rw[Yj (p:=p) e,Yj e,b]
theorem Xz(k j:κ)(y:V):∀kvs:qa (κ×V),Qy kvs k=none->Qy (kvs++[(k,y)]) j=if j=k then some y else Qy kvs j
 |[],_=>by
  by_cases e:k=j
  .rw[qP e.symm];exact Yq (p:=(k,y)) e
  .rw[qJ (λz=>e z.symm)];exact Yj (p:=(k,y)) e
 |p::r,a=>by
  rw[List.cons_append];have b:¬p.1=k:=λz=>by rw[Yq z] at a;cases a
  rw[Yj b] at a;have c:=Xz k j y r a;by_cases e:p.1=j
  .rw[Yq e,Yq e,qJ (λz=>b (e.trans z))]
  .rw[Yj e,Yj e,c]
theorem KN(kvs:qa (κ×V))(k j:κ)(y:V):Qy (Ye kvs k y) j=if j=k then some y else Qy kvs j:=by
 unfold Ye;by_cases a:(kvs.any λb=>decide (b.1=k))=true
 .rw[qP a,BY];rw[U3] at a;by_cases e:j=k
  .obtain⟨x,c⟩:=Option.isSome_iff_exists.mp a;rw[qP e,e,c,yF,qP rfl]
  .rw[qJ e]
   cases Qy kvs j with
   |none=>rfl
   |some x=>rw[yF,qJ e]
 .rw[qJ a];refine Xz k j y kvs ?_;rw[U3] at a
  cases q:Qy kvs k with
  |none=>rfl
  |some x=>rw[q] at a;exact(a rfl).elim
theorem UO(kvs:qa (κ×V))(k:κ)(v:V):(Ye kvs k v).length<=kvs.length+1:=by
 unfold Ye;split
 .rw[ql];omega
 .rw[qA,zc,jq];omega
theorem Xg{kvs:qa (κ×V)}{k:κ}(v:V)(h:Qy kvs k=none):Ye kvs k v=kvs++[(k,v)]:=by
 unfold Ye;rw[U3,h];exact qJ ∅
theorem Vg.yT{u:Option qe}(r:Vg o u):o.isSome=u.isSome:=by
 cases o with
 |none=>cases u with
  |none=>rfl
  |some _=>exact(show False from r).elim
 |some _=>cases u with
  |none=>exact(show False from r).elim
  |some _=>rfl
theorem Vg.getD{u:Option qe}{d:V}{d':qe}(r:Vg o u)(a:QJ d d'):QJ (o.getD d) (u.getD d'):=by
 cases o with
 |none=>cases u with
  |none=>exact a
  |some _=>exact(show False from r).elim
 |some _=>cases u with
  |none=>exact(show False from r).elim
  |some _=>exact r
theorem KV.val{kvs:qa (κ×V)}{vs:qa (κ×qe)}(r:KV kvs vs)(k:κ):Vg (Qy kvs k) (valueAt vs k):=by
 unfold KV at r
 induction r with
 |nil=>exact True.intro
 |@cons p q ps qs h t d=>
  obtain⟨c,f⟩:=h;by_cases e:p.1=k
  .have a:q.1=k:=c.symm.trans e;have b:valueAt (q::qs) k=some q.2:=by simp[valueAt,jo,a]
   rw[Yq e,b];exact f
  .have a:¬q.1=k:=λz=>e (c.trans z);have b:valueAt (q::qs) k=valueAt qs k:=by simp[valueAt,jo,a]
   rw[Yj e,b];exact d
theorem KV.any{kvs:qa (κ×V)}{vs:qa (κ×qe)}(r:KV kvs vs)(k:κ):(kvs.any λa=>decide (a.1=k))=vs.any λa=>decide (a.1=k):=by
 unfold KV at r
 induction r with
 |nil=>rfl
 |cons h t b=>rw[yB,yB,b,h.1]
theorem KV.repl{kvs:qa (κ×V)}{vs:qa (κ×qe)}(r:KV kvs vs)(k:κ)(c:QJ y u) :
 KV (kvs.map λa=>if a.1=k then (a.1,y) else a) (vs.map λa=>if a.1=k then (a.1,u) else a):=by
 unfold KV at r⊢
 induction r with
 |nil=>exact .nil
 |@cons p q ps qs h t d=>
  rw[zf,zf];refine .cons ?_ d;obtain⟨b,f⟩:=h;by_cases e:p.1=k
  .rw[qP e,qP (b.symm.trans e)];exact⟨b,c⟩
  .rw[qJ e,qJ (λz=>e (b.trans z))];exact⟨b,f⟩
theorem KV.put{kvs:qa (κ×V)}{vs:qa (κ×qe)}(r:KV kvs vs)(k:κ)(a:QJ y u):KV (Ye kvs k y) (stored vs k u):=by
 unfold Ye stored;rw[r.any k];by_cases e:(vs.any λb=>decide (b.1=k))=true
 .rw[qP e,qP e];exact r.repl k a
 .rw[qJ e,qJ e];exact Paired.snoc r ⟨U,a⟩
theorem KV.drop{kvs:qa (κ×V)}{vs:qa (κ×qe)}(r:KV kvs vs)(k:κ):KV (YR kvs k) (without vs k):=by
 unfold KV at r⊢;unfold YR without
 induction r with
 |nil=>exact .nil
 |@cons p q ps qs h t d=>
  obtain⟨c,f⟩:=h;rw[zk,zk];by_cases e:p.1=k
  .have a:¬decide (p.1≠k)=true:=by simp[e]
   have b:¬decide (q.1≠k)=true:=by simp[c.symm.trans e]
   rw[qJ a,qJ b];exact d
  .have g:¬q.1=k:=λz=>e (c.trans z);have a:decide (p.1≠k)=true:=by simp[e]
   have b:decide (q.1≠k)=true:=by simp[g]
   rw[qP a,qP b];exact .cons ⟨c,f⟩ d
theorem KV.length{kvs:qa (κ×V)}{vs:qa (κ×qe)}(r:KV kvs vs):kvs.length=vs.length:=gO r
theorem Ou(kvs:qa (κ×V))(k:κ):(YR kvs k).length<=kvs.length:=zh _ _
end
theorem W0{k:Key}(r:QJ (kV k) u):(QZ P w).is k u=true:=by
 cases k with
 |inl i=>obtain⟨t,e⟩:=(show ∃t,u=Value.int i t from r);subst e;exact Dc P w i t
 |inr x=>obtain⟨t,e⟩:=(show ∃t,u=Value.str x t from r);subst e;exact C9 P w x t
theorem AW{P:Program}{w:World}:∀{ks:qa Key}{us:qi},QB (ks.map kV) us->ItemsAre (QZ P w) ks us
 |[],_,r=>by rw[yN] at r;cases r;exact .nil
 |k::ks,_,r=>by
  rw[zf] at r
  cases r with
  |cons h t=>exact .cons (W0 h) (AW t)
abbrev KT(H:Hp):qa (qa Key×V)->qa (qa Key×qd×qe)->Prop:=Paired λp q=>p.1=q.1/\H q.2.1=some (.tup (p.1.map kV))/\QJ p.2 q.2.2
theorem KT.val(r:KT H kvs xs)(k:qa Key):Vg (Qy kvs k) ((atKey xs k).map (·.2)):=by
 induction r with
 |nil=>exact True.intro
 |@cons p q ps qs h t d=>
  obtain⟨c,_,f⟩:=h;by_cases e:p.1=k
  .have a:q.1=k:=c.symm.trans e;have b:atKey (q::qs) k=some q.2:=by simp[atKey,jo,a]
   rw[Yq e,b];exact f
  .have a:¬q.1=k:=λz=>e (c.trans z);have b:atKey (q::qs) k=atKey qs k:=by simp[atKey,jo,a]
   rw[Yj e,b];exact d
theorem KT.repl(r:KT H kvs xs)(k:qa Key)(d:QJ y u) :
 KT H (kvs.map λb=>if b.1=k then (b.1,y) else b) (xs.map (putAt k u)):=by
 induction r with
 |nil=>exact .nil
 |@cons p q ps qs h t f=>
  rw[zf,zf];refine .cons ?_ f;obtain⟨a,c,g⟩:=h;unfold putAt;by_cases e:p.1=k
  .rw[qP e,qP (a.symm.trans e)];exact⟨a,c,d⟩
  .rw[qJ e,qJ (λz=>e (a.trans z))];exact⟨a,c,g⟩
theorem KT.put(r:KT H kvs xs)(k:qa Key){b:qd}(c:H b=some (.tup (k.map kV)))(a:QJ y u) :
 KT H (Ye kvs k y) (storedH xs k b u):=by
 have e:(kvs.any λd=>decide (d.1=k))=(atKey xs k).isSome:=by
  rw[U3,(r.val k).yT,wU]
 unfold Ye storedH;rw[e];by_cases q:(atKey xs k).isSome=true
 .rw[qP q,qP q];exact r.repl k a
 .rw[qJ q,qJ q];exact Paired.snoc r ⟨U,c,a⟩
theorem KT.keeps(r:KT H kvs xs)(a:∀b ys,H b=some (.tup ys)->H' b=some (.tup ys)):KT H' kvs xs:=
 Paired.uu r λ_ _ z=>⟨z.1,a _ _ z.2.1,z.2.2⟩
section
variable {P:Program}{w:World}{H:Hp}{h:Heap}{a:qd}
theorem RO{u:HO}(ok:yK P w H h)(e:Rd H a u):QP P w H h a u:=e.ok ok
theorem Xr{kvs:qa (Key×V)}(ok:yK P w H h)(e:Rd H a (.dK kvs)):kvs.length<=sizeLine/\(a==sysModules)=false/\∃vs,KV kvs vs/\h.DictOf (QZ P w) a vs:=
 show QP P w H h a (.dK kvs) from RO ok e
theorem GU{kvs:qa (Key×V)}(ok:yK P w H h)(e:H a=some (.dK kvs)):kvs.length<=sizeLine/\(a==sysModules)=false/\∃vs,KV kvs vs/\h.DictOf (QZ P w) a vs:=Xr ok (.inl e)
theorem XS{ks:qa Key}(ok:yK P w H h)(e:H a=some (.tup (ks.map kV))):(tupleKind (QZ P w)).is h ks a:=by
 obtain⟨_,its,r,o,b,c,n,d⟩:=(show QP P w H h a (.tup (ks.map kV)) from ok a _ e);exact⟨o,its.toArray,n,b,c,d,by simpa using AW r⟩
theorem GS(ok:yK P w H h)(e:Rd H a (.dT kvs)):kvs.length<=sizeLine/\(a==sysModules)=false /\
 ∃xs,KT H kvs xs/\h.DictOfH (tupleKind (QZ P w)) a xs:=by
 obtain⟨z,y,xs,r,o,es,d,f,g,i,j,k⟩:=(show QP P w H h a (.dT kvs) from RO ok e);refine⟨z,y,xs,r,o,es,d,f,g,i,j,λx b=>?_,k⟩;have all:∀{l:qa (qa Key×V)}{m:qa (qa Key×qd×qe)},KT H l m->∀x∈m,(tupleKind (QZ P w)).is h x.1 x.2.1:=by
  intro l m q
  induction q with
  |nil=>intro x b;exact nomatch b
  |@cons p q ps qs c t n=>
   intro x b;rcases qC.mp b with e|b
   .subst e;exact XS ok (by rw[<-c.1];exact c.2.1)
   .exact n x b
 exact all r x b
theorem b0(ok:yK P w H h)(e:H a=some (.dT kvs)):kvs.length<=sizeLine/\(a==sysModules)=false /\
 ∃xs,KT H kvs xs/\h.DictOfH (tupleKind (QZ P w)) a xs:=GS ok (.inl e)
end
def Yg(H:Hp)(a:qd)(y:V)(r:Option V):Prop:=
 (∃kvs k,Rd H a (.dK kvs)/\y=kV k/\r=Qy kvs k)\/∃kvs k b,Rd H a (.dT kvs)/\y=.ref b/\H b=some (.tup (k.map kV))/\r=Qy kvs k
def Uy(H:Hp)(a:qd)(y v:V)(H':Hp):Prop:=
 (∃kvs k,H a=some (.dK kvs)/\y=kV k/\kvs.length<sizeLine/\H'=upd H a (.dK (Ye kvs k v))) \/
 ∃kvs k b,H a=some (.dT kvs)/\y=.ref b/\H b=some (.tup (k.map kV))/\kvs.length<sizeLine/\H'=upd H a (.dT (Ye kvs k v))
theorem Yg.k{kvs:qa (Key×V)}{k:Key}(e:H a=some (.dK kvs)):Yg H a (kV k) (Qy kvs k):=.inl ⟨kvs,k,.inl e,U,U⟩
theorem Yg.t{b:qd}{k:qa Key}(e:H a=some (.dT kvs))(c:H b=some (.tup (k.map kV))):Yg H a (.ref b) (Qy kvs k):=.inr ⟨kvs,k,b,.inl e,U,c,U⟩
theorem Uy.k{kvs:qa (Key×V)}{k:Key}(e:H a=some (.dK kvs))(b:kvs.length<sizeLine):Uy H a (kV k) v (upd H a (.dK (Ye kvs k v))):=.inl ⟨kvs,k,e,U,b,U⟩
theorem Uy.t{b:qd}{k:qa Key}(e:H a=some (.dT kvs))(c:H b=some (.tup (k.map kV)))(d:kvs.length<sizeLine) :
 Uy H a (.ref b) v (upd H a (.dT (Ye kvs k v))):=.inr ⟨kvs,k,b,e,U,c,d,U⟩
section
variable {X:Cx}{pins:qa (qd×Obj)}{σ:St}{H:Hp}{s:Shared}{a:qd}{y v:V}{u r:qe}{o:Option V}{A:Around}{E:qh}
theorem Inv.big(I:Inv X pins σ H s):sysModules<s.heap.objs.size:=by
 have h:mainGlobals<s.heap.objs.size:=(I.mod.glob.keeps I.bk).lt;exact Nat.lt_trans ∅ h
theorem Ln{Q:qh}(m:A.units+1<cLine)(I:Inv X pins σ H s)(g:Yg H a y (some v))(j:QJ y u)(h:∀d s',Inv X pins σ H s'->QJ v d->Q d s') :
 wpAny (model X.prog X.w) A (getItem (.ref a) u) Q E s:=by
 rcases g with⟨kvs,k,e,f,l⟩|⟨kvs,k,b,e,f,n,l⟩
 .subst f;obtain⟨z,hd,vs,rel,dd⟩:=Xr I.hok e;obtain⟨d,hw,c⟩:=Vg.some_of (v:=v) (o:=valueAt vs k) (by rw[l];exact rel.val k);exact wpAny_getItem_of (W0 j) dd.mapOf hw (h d _ (I.tok _) c)
 .subst f;cases (show u=Value.ref b from j);obtain⟨z,hd,xs,rel,dd⟩:=GS I.hok e;obtain⟨d,hw,c⟩:=Vg.some_of (v:=v) (o:=(atKey xs k).map (·.2)) (by rw[l];exact rel.val k);obtain⟨p,q,i⟩:=j3.mp hw;refine wpAny_getItem_heap (yV m) (XS I.hok n) dd q ?_;rw[i];exact h d _ (I.tok _) c
theorem d_in{Q:qh}(f:A.units+1<cLine)(I:Inv X pins σ H s)(g:Yg H a y o)(d:QJ y u)(h:∀s',Inv X pins σ H s'->Q (.bool o.isSome) s') :
 wpAny (model X.prog X.w) A (compareOp .In u (.ref a)) Q E s:=by
 rcases g with⟨kvs,k,e,c,l⟩|⟨kvs,k,b,e,c,i,l⟩
 .subst c;obtain⟨z,hd,vs,rel,dd⟩:=Xr I.hok e;refine wpAny_in_of (W0 d) hd dd.mapOf ?_;rw[<-(rel.val k).yT,<-l];exact h _ (I.tok _)
 .subst c;cases (show u=Value.ref b from d);obtain⟨z,hd,xs,rel,dd⟩:=GS I.hok e;refine wpAny_in_heap (yV f) (XS I.hok i) hd dd ?_;have q:=(rel.val k).yT;rw[wU] at q;rw[<-q,<-l];exact h _ (I.tok _)
theorem Ro{Q:qh}(f:A.units+1<cLine)(I:Inv X pins σ H s)(g:Yg H a y o)(d:QJ y u)(h:∀s',Inv X pins σ H s'->Q (.bool (!o.isSome)) s') :
 wpAny (model X.prog X.w) A (compareOp .NotIn u (.ref a)) Q E s:=by
 rcases g with⟨kvs,k,e,c,l⟩|⟨kvs,k,b,e,c,i,l⟩
 .subst c;obtain⟨z,hd,vs,rel,dd⟩:=Xr I.hok e;refine wpAny_notIn_of (W0 d) hd dd.mapOf ?_;rw[<-(rel.val k).yT,<-l];exact h _ (I.tok _)
 .subst c;cases (show u=Value.ref b from d);obtain⟨z,hd,xs,rel,dd⟩:=GS I.hok e;refine wpAny_notIn_heap (yV f) (XS I.hok i) hd dd ?_;have q:=(rel.val k).yT;rw[wU] at q;rw[<-q,<-l];exact h _ (I.tok _)
theorem Xs{h':Heap}{c:HO}(I:Inv X pins σ H s)(d:Mut (H a))(f:Heap.SameBut a s.heap h')(he:∃q,h'.get? a=some q)(new:QP X.prog X.w (upd H a c) h' a c) :
 Inv X pins σ (upd H a c) {s with heap:=h',toks:=t'}:=
 I.write (x:=a) (e:=a) d (.inl rfl) (λb q g z=>(f.2 b g).trans z) he new
theorem BL{h':Heap}{kvs:qa (Key×V)}{vs:qa (Key×qe)}(z:kvs.length<=sizeLine)(hd:(a==sysModules)=false)(rel:KV kvs vs)(dd:h'.DictOf (QZ P w) a vs) :
 QP P w H' h' a (.dK kvs):=⟨z,hd,vs,rel,dd⟩
theorem Lm{Q:Unit->Shared->Prop}(x:A.units+1<cLine)(I:Inv X pins σ H s)(g:Uy H a y v H')(o:QJ y u)(p:QJ v r)(h:∀s',Inv X pins σ H' s'->Q () s') :
 wpAny (model X.prog X.w) A (setItem (.ref a) u r) Q E s:=by
 rcases g with⟨kvs,k,e,i,l,j⟩|⟨kvs,k,b,e,i,t,l,j⟩
 .subst i j;obtain⟨z,hd,vs,rel,dd⟩:=GU I.hok e;have hz:vs.length<=sizeLine:=by rw[<-rel.length];exact z
  have m:(Ye kvs k v).length<=sizeLine:=by have:=UO kvs k v;omega
  refine wpAny_setItem_pairs (hsz:=hz) (W0 o) dd λh' d n=>h _ ?_;have he:∃q,h'.get? a=some q:=let ⟨q,_,_,f,_⟩:=d;⟨q,f⟩;exact Xs I (by rw[e];exact True.intro) n he (BL m hd (rel.put k p) d)
 .subst i j;cases (show u=Value.ref b from o);obtain⟨z,hd,xs,rel,dd⟩:=b0 I.hok e;have hz:xs.length<=sizeLine:=by rw[<-gO rel];exact z
  have m:(Ye kvs k v).length<=sizeLine:=by have:=UO kvs k v;omega
  refine wpAny_setItem_heap (hsz:=hz) (yV x) (XS I.hok t) dd λh' d n=>h _ ?_;obtain⟨q,es,B,f,C,D,F,_,G⟩:=d;refine Xs I (by rw[e];exact True.intro) n ⟨q,f⟩ ⟨m,hd,_,(rel.put k t p).keeps λc ys w=>?_,q,es,B,f,C,D,F,G⟩;rw[Qa (QM w e nofun)];exact w
end
section
variable {X:Cx}{pins:qa (qd×Obj)}{σ:St}{H:Hp}{s:Shared}{a:qd}{kvs:qa (Key×V)}{k:Key}{u:qe}{A:Around}{E:qh}
theorem RX{more:qi}{Q:qh}(I:Inv X pins σ H s)(e:H a=some (.dK kvs))(d:QJ (kV k) u)(l:Qy kvs k=some v)(hm:more=[]\/∃x,more=[x])
 (h:∀b s',Inv X pins σ (upd H a (.dK (YR kvs k))) s'->QJ v b->Q b s'):wpAny (model X.prog X.w) A (call (.builtin "dict.pop") (.ref a::u::more)) Q E s:=by
 obtain⟨z,hd,vs,rel,dd⟩:=GU I.hok e;obtain⟨b,hw,f⟩:=Vg.some_of (v:=v) (o:=valueAt vs k) (by rw[<-l];exact rel.val k);have g:(keyPart u).isSome=true:=by
  cases k with
  |inl i=>obtain⟨t,q⟩:=(show ∃t,u=Value.int i t from d);subst q;rfl
  |inr x=>obtain⟨t,q⟩:=(show ∃t,u=Value.str x t from d);subst q;rfl
 have j:argsOk "dict.pop" ⟨.ref a::u::more,[]⟩:=by
  rcases hm with q|⟨x,q⟩
  .subst q;exact PySem.F.args_dict_pop_2 _ _
  .subst q;exact PySem.F.args_dict_pop_3 _ _ _
 refine kC slot_dict_pop dd.typeIs PySem.F.entry_dict_pop j (meets_dict_pop_there (QZ X.prog X.w) a (W0 d) more hm g)
  ⟨vs,b,dd,by rw[<-rel.length];exact z,hw,λh' c m=>h b _ ?_ f⟩
 have he:∃q,h'.get? a=some q:=let ⟨q,_,_,n,_⟩:=c;⟨q,n⟩;exact Xs I (by rw[e];exact True.intro) m he (BL (zb (Ou kvs k) z) hd (rel.drop k) c)
theorem TR{r:qe}{Q:qh}(I:Inv X pins σ H s)(e:H a=some (.dK kvs))(b:QJ (kV k) u)(l:Qy kvs k=none)(h:∀s',Inv X pins σ H s'->Q r s') :
 wpAny (model X.prog X.w) A (call (.builtin "dict.pop") [.ref a,u,r]) Q E s:=by
 obtain⟨z,hd,vs,rel,dd⟩:=GU I.hok e;have c:valueAt vs k=none:=Vg.none_of (by rw[<-l];exact rel.val k);have d:(keyPart u).isSome=true:=by
  cases k with
  |inl i=>obtain⟨t,q⟩:=(show ∃t,u=Value.int i t from b);subst q;rfl
  |inr x=>obtain⟨t,q⟩:=(show ∃t,u=Value.str x t from b);subst q;rfl
 exact kC slot_dict_pop dd.typeIs PySem.F.entry_dict_pop (PySem.F.args_dict_pop_3 _ _ _) (meets_dict_pop_default (QZ X.prog X.w) a (W0 b) hd d r) ⟨vs,dd,c,h _ (I.tok _)⟩
theorem cb{Q:qh}(I:Inv X pins σ H s)(e:Rd H a (.dK kvs))(h:∀t s',Inv X pins σ H s'->Q (.int kvs.length t) s'):wpAny (model X.prog X.w) A (call (.builtin "len") [.ref a]) Q E s:=by
 obtain⟨z,hd,vs,rel,dd⟩:=Xr I.hok e;refine call_len_dict hd dd (by rw[<-rel.length];rw[ju] at z;omega) ?_;rw[<-rel.length];exact h _ _ (I.tok _)
end
def cD(i:Expr):Prop:=∀a b,subscripted i false a b=operate [a,b] (getItem a b)
theorem O3{prog:Program}{A:Around}{E:qh}{env:Env}{value slice:Expr}{T id:String}{Q:qh}
 (j:typeLookup (.type T) "__getitem__"=pure (some (.builtin id))) (k:cD slice)
 (h:wpAny (model prog w) A (eval value env) (λo c=>wpAny (model prog w) A (eval slice env) (λi a=>a.TypeIs o T/\wpAny (model prog w) A (getItem o i) Q E a) E c) E s) :
 wpAny (model prog w) A (eval (.Subscript value slice pos) env) Q E s:=by
 refine Subscript_ (zy h (λo c e=>zy e (λi a b=>?_) λ_ _ x=>x) λ_ _ x=>x);obtain⟨g,b⟩:=b;unfold subscriptTail;refine qk ?_;rw[getitemInPython_of_ne g.not_modules];refine qk (wpAny_specialOf g j ?_);have fin:wpAny (model prog w) A (subscripted slice false o i) (λr d=>wpAny (model prog w) A (letTemporaryGo value o r>>=λ_=>pure r) Q E d) E a:=by
  rw[k o i];exact wpAny_operating (zy b (λr d f=>qk (wpAny_letTemporaryGo (qq f))) λ_ _ x=>x)
 first
  |exact qq (qk fin)
  |exact qk (qq (qk fin))
  |exact qk fin
theorem DA(I:Inv X pins σ H s)(g:Yg H a y o):s.TypeIs (.ref a) "dict":=by
 rcases g with⟨kvs,k,e,_,_⟩|⟨kvs,k,b,e,_,_,_⟩
 .obtain⟨_,_,vs,_,dd⟩:=Xr I.hok e;exact dd.typeIs
 .obtain⟨_,_,xs,_,dd⟩:=GS I.hok e;exact dd.typeIs
inductive Fl(Q:VK)(x:V)(y:V)(H2:Hp):Prop
 |mk:∀a v,x=.ref a->Yg H2 a y (some v)->Q v H2->Fl Q x y H2
def aQ(a ty:TE):TE:=λσ H Q=>a σ H λx H1=>ty σ H1 λy b=>Fl Q x y b
inductive LR(Q:VK)(y:V)(x:V)(H2:Hp):Prop
 |mk:∀a o,x=.ref a->Yg H2 a y o->Q (.bl o.isSome) H2->LR Q y x H2
def tDIn(ty a:TE):TE:=λσ H Q=>ty σ H λy H1=>a σ H1 λx b=>LR Q y x b
inductive Aq(Q:VK)(y:V)(x:V)(H2:Hp):Prop
 |mk:∀a o,x=.ref a->Yg H2 a y o->Q (.bl (!o.isSome)) H2->Aq Q y x H2
def O2(ty a:TE):TE:=λσ H Q=>ty σ H λy H1=>a σ H1 λx b=>Aq Q y x b
inductive F5(D:VE)(σ:St)(v:V)(x:V)(y:V)(H3:Hp):Prop
 |mk:∀a H4,x=.ref a->Uy H3 a y v H4->D.nx σ H4->F5 D σ v x y H3
def bc(a ty b:TE):TS:=λD σ H=>b σ H λv H1=>a σ H1 λx c=>ty σ c λy d=>F5 D σ v x y d
section
variable {X:Cx}{o i e value:Expr}{pos pos' tpos:Pos}{td ty tv:TE}
theorem Ym(d:X.A.units+1<cLine)(e:PE X o td)(f:PE X i ty)(j:cD i:=by exact λ_ _=>rfl):PE X (.Subscript o i pos) (aQ td ty):=by
 intro pins s σ H Q I h;refine O3 PySem.F.slot_dict_getitem.lookup j (z5 (e pins s σ H _ I h) λu s1 ⟨x,H1,k,l,m⟩=>z5 (f pins s1 σ H1 _ k m) λt s2 ⟨y,n,c,p,a,v,ex,g,q⟩=>?_);subst ex;obtain rfl:u=Value.ref a:=l;exact⟨DA c g,Ln d c g p λw s3 r b=>⟨v,n,r,b,q⟩⟩
theorem W4(b:X.A.units+1<cLine)(c:PE X i ty)(d:PE X o td):PC X .In i o (tDIn ty td):=by
 intro pins s σ H Q I h;refine z5 (c pins s σ H _ I h) λr s1 ⟨y,H1,e,f,j⟩=>z5 (d pins s1 σ H1 _ e j) λu s2 ⟨x,k,l,m,a,n,ex,g,p⟩=>?_;subst ex;obtain rfl:u=Value.ref a:=m;exact d_in b l g f λs3 q=>⟨.bl n.isSome,k,q,U,p⟩
theorem Ug(b:X.A.units+1<cLine)(c:PE X i ty)(d:PE X o td):PC X .NotIn i o (O2 ty td):=by
 intro pins s σ H Q I h;refine z5 (c pins s σ H _ I h) λr s1 ⟨y,H1,e,f,j⟩=>z5 (d pins s1 σ H1 _ e j) λu s2 ⟨x,k,l,m,a,n,ex,g,p⟩=>?_;subst ex;obtain rfl:u=Value.ref a:=m;exact Ro b l g f λs3 q=>⟨.bl (!n.isSome),k,q,U,p⟩
theorem Ys(b:X.A.units+1<cLine)(c:PE X o td)(d:PE X i ty)(e:PE X value tv)(f:swapsWith value (some (.Subscript o i pos')) pos.line X.env=pure false) :
 PS X (.Assign [.Subscript o i pos'] value pos) (bc td ty tv):=by
 intro pins s σ H D I h;refine wpAny_Assign_Subscript (z5 (e pins s σ H _ I h) λr s1 ⟨v,H1,j,k,l⟩=>z5 (c pins s1 σ H1 _ j l) λu s2 ⟨x,m,n,p,q⟩=>z5 (d pins s2 σ m _ n q) λC s3 ⟨y,E,t,w,a,z,ex,g,A⟩=>?_) f;subst ex;obtain rfl:u=Value.ref a:=p;exact Lm b t g w k λs4 B=>⟨σ,z,B,A⟩
end
theorem Dz(h:Heap)(a:sysModules<h.objs.size):QP P w H (h.push {cls:=.type "dict",data:=.dict #[]}) h.objs.size (.dK []):=
 ⟨za _,jm.mpr (jL (qR a)),[],.nil,Heap.DictOf.new h⟩
theorem Ot(h:Heap)(a:sysModules<h.objs.size):QP P w H (h.push {cls:=.type "dict",data:=.dict #[]}) h.objs.size (.dT []):=
 ⟨za _,jm.mpr (jL (qR a)),[],.nil,_,#[],0,qI _ rfl,⟨U,U,U⟩,U,U,z6⟩
def So:TE:=λ_ H Q=>∀p,H p=none->Q (.ref p) (upd H p (.dK []))
def Sn:TE:=λ_ H Q=>∀p,H p=none->Q (.ref p) (upd H p (.dT []))
section
variable {X:Cx}{pos:Pos}
theorem Q7:PE X (.Dict [] [] pos) So:=λpins s σ H Q I h=>
 wpAny_Dict_empty ⟨.ref s.heap.objs.size,_,I.laid (a:=s.heap.objs.size) (o:=.dK []) (t':=s.toks) (λ_ _ q=>qr _ q) (qz _) (Dz s.heap I.big),U,h _ (I.hok.fresh (qz _))⟩
theorem Xj:PE X (.Dict [] [] pos) Sn:=λpins s σ H Q I h=>
 wpAny_Dict_empty ⟨.ref s.heap.objs.size,_,I.laid (a:=s.heap.objs.size) (o:=.dT []) (t':=s.toks) (λ_ _ q=>qr _ q) (qz _) (Ot s.heap I.big),U,h _ (I.hok.fresh (qz _))⟩
end
def D0:qa (TE×TE)->St->Hp->(qa (V×V)->Hp->Prop)->Prop
 |[],_,H,Q=>Q [] H
 |(a,b)::r,σ,H,Q=>a σ H λx H1=>b σ H1 λy c=>D0 r σ c λps d=>Q ((x,y)::ps) d
abbrev VV:qa (V×V)->qa (qe×qe)->Prop:=Paired λp q=>QJ p.1 q.1/\QJ p.2 q.2
def PPs(X:Cx)(pos:Pos)(keys:qa (Option Expr))(values:qa Expr)(a:qa (TE×TE)):Prop:=
 ∀(pins:qa (qd×Obj))(s:Shared)(σ:St)(H:Hp)(Q:qa (V×V)->Hp->Prop),Inv X pins σ H s->D0 a σ H Q ->
  wpAny (model X.prog X.w) X.A (evalPairs (pairTrees keys values X.env pos)) (λvs s'=>∃ps H',Inv X pins σ H' s'/\VV ps vs/\Q ps H') X.xe s
theorem Pj  :PPs X pos [] [] []:=λpins s σ H Q I h=>pairTrees_nil_walk ⟨[],H,I,.nil,h⟩
theorem MM{k v:Expr}{ks:qa (Option Expr)}{vs:qa Expr}{b c:TE}{a:qa (TE×TE)}(d:PE X k b)(e:PE X v c)(f:PPs X pos ks vs a) :
 PPs X pos (some k::ks) (v::vs) ((b,c)::a):=λpins s σ H Q I h=>
 pairTrees_cons_walk (z5 (d pins s σ H _ I h) λu s1 ⟨x,H1,g,i,j⟩=>z5 (e pins s1 σ H1 _ g j) λt s2 ⟨y,l,m,n,o⟩=>
  z5 (f pins s2 σ l _ m o) λws s3 ⟨ps,p,q,rel,r⟩=>⟨(x,y)::ps,p,q,.cons ⟨i,n⟩ rel,r⟩)
def XO(kvs more:qa (Key×V)):qa (Key×V):=more.foldl (λacc a=>Ye acc a.1 a.2) kvs
theorem KV.merge:∀{more:qa (Key×V)}{rs:qa (Key×qe)}{kvs:qa (Key×V)}{vs:qa (Key×qe)},KV more rs->KV kvs vs->KV (XO kvs more) (merged vs rs):=by
 intro more rs kvs vs r;unfold KV at r
 induction r generalizing kvs vs with
 |nil=>intro q;exact q
 |@cons p q ps qs h t a=>
  intro b;have e:KV (Ye kvs p.1 p.2) (stored vs q.1 q.2):=by
   have:=b.put p.1 h.2;rw[<-h.1];exact this
  exact a e
theorem WZ:∀(more kvs:qa (Key×V)),(XO kvs more).length<=kvs.length+more.length
 |[],kvs=>by show kvs.length<=kvs.length+0;omega
 |p::r,kvs=>by
  have a:=WZ r (Ye kvs p.1 p.2);have b:=UO kvs p.1 p.2;show(XO (Ye kvs p.1 p.2) r).length<=_;rw[zc];omega
theorem GX{P:Program}{w:World}:∀{kvs:qa (Key×V)}{ws:qa (qe×qe)},VV (kvs.map λd=>(kV d.1,d.2)) ws->∃rs,Carries (QZ P w) ws rs/\KV kvs rs
 |[],_,r=>by rw[yN] at r;cases r;exact⟨[],True.intro,.nil⟩
 |p::kvs,_,r=>by
  rw[zf] at r
  cases r with
  |@cons a b as bs h t=>
   obtain⟨rs,c,q⟩:=GX (P:=P) (w:=w) t;obtain⟨f,e⟩:=b;exact⟨(p.1,e)::rs,⟨W0 h.1,U,c⟩,.cons ⟨U,h.2⟩ q⟩
def aO(a:qa (TE×TE)):TE:=λσ H Q=>∀p,H p=none->D0 a σ (upd H p (.dK [])) λps b=>b p=some (.dK [])/\∃kvs:qa (Key×V),ps=kvs.map (λc=>(kV c.1,c.2))/\kvs.length<=15/\Q (.ref p) (upd b p (.dK (XO [] kvs)))
theorem Po{keys:qa (Option Expr)}{values:qa Expr}{b:qa (TE×TE)}(h:PPs X pos keys values b)(d:keys.all (·.isSome)=true)(j:keys.length=values.length)(h0:keys≠[])
 (g:keys.length<=15):PE X (.Dict keys values pos) (aO b):=by
 intro pins s σ H Q I q;have k:=I.hok.fresh (qz s.heap.objs.size);have l:=I.laid (a:=s.heap.objs.size) (o:=.dK []) (h':=s.heap.push {cls:=.type "dict",data:=.dict #[]}) (t':=s.toks) (λ_ _ q=>qr _ q) (qz _) (Dz s.heap I.big);refine wpAny_Dict_walk (knd:=QZ X.prog X.w) d j h0 g (z5 (h pins _ σ _ _ l (q _ k)) λws s2 ⟨ps,x,i,rel,e,kvs,m,lk,n⟩=>?_);subst m;obtain⟨rs,c,p⟩:=GX (P:=X.prog) (w:=X.w) rel;obtain⟨z,hd,r,t,dd⟩:=GU i.hok e;cases t;refine⟨rs,c,dd,λh' f u=>⟨.ref s.heap.objs.size,_,?_,U,n⟩⟩;have hz:(XO [] kvs).length<=sizeLine:=by
  have v:=WZ kvs [];rw[jq] at v;rw[ju];omega
 have he:∃q,h'.get? s.heap.objs.size=some q:=let ⟨q,_,_,v,_⟩:=f;⟨q,v⟩;exact Xs i (by rw[e];exact True.intro) u he (BL hz hd (p.merge .nil) f)
structure M1(X:Cx)(o:Expr)(m:qc)(apos:Pos)(e:Expr)(cpos:Pos):Prop where
 base:attributeBase o m X.env (eval o X.env)=eval o X.env
 few:((backTo cpos (starEach [e] X.env)).all (λx=>!x.1)&&(backToKw cpos (keywordEach [] X.env)).all (λx=>x.1.isSome)
  &&decide (([e]:qa Expr).length+([]:qa Keyword).length+(if ([]:qa Keyword).isEmpty then 0 else 1)<30))=true
 line:(apos.endLine==cpos.line)=true
 trees:backTo cpos (starEach [e] X.env)=[(false,eval e X.env)]
structure M2(X:Cx)(o:Expr)(m:qc)(apos:Pos)(e f:Expr)(cpos:Pos):Prop where
 base:attributeBase o m X.env (eval o X.env)=eval o X.env
 few:((backTo cpos (starEach [e,f] X.env)).all (λx=>!x.1)&&(backToKw cpos (keywordEach [] X.env)).all (λx=>x.1.isSome)
  &&decide (([e,f]:qa Expr).length+([]:qa Keyword).length+(if ([]:qa Keyword).isEmpty then 0 else 1)<30))=true
 line:(apos.endLine==cpos.line)=true
 trees:backTo cpos (starEach [e,f] X.env)=[(false,eval e X.env),(false,eval f X.env)]
def IsD(H:Hp)(a:qd):Prop:=(∃kvs,Rd H a (.dK kvs))\/∃kvs,Rd H a (.dT kvs)
theorem GG(I:Inv X pins σ H s)(d:IsD H a) :
 s.TypeIs (.ref a) "dict"/\(∀b,Value.ref a=.ref b->∃c,s.heap.get? b=some c/\c.dict=none)/\(a==sysModules)=false:=by
 rcases d with⟨kvs,e⟩|⟨kvs,e⟩
 .obtain⟨_,hd,vs,_,dd⟩:=Xr I.hok e;refine⟨dd.typeIs,λb q=>?_,hd⟩;cases q;obtain⟨c,_,_,f,g,_⟩:=dd;exact⟨c,f,g.2.1⟩
 .obtain⟨_,hd,xs,_,dd⟩:=GS I.hok e;refine⟨dd.typeIs,λb q=>?_,hd⟩;cases q;obtain⟨c,_,_,f,g,_⟩:=dd;exact⟨c,f,g.2.1⟩
section
variable {X:Cx}{pins:qa (qd×Obj)}{σ:St}{H:Hp}{s:Shared}{a:qd}{y d:V}{u r:qe}{o:Option V}{A:Around}{E:qh}
theorem TU{Q:qh}(m:A.units+1<cLine)(I:Inv X pins σ H s)(g:Yg H a y o)(f:QJ y u)(i:QJ d r)(h:∀j s',Inv X pins σ H s'->QJ (o.getD d) j->Q j s') :
 wpAny (model X.prog X.w) A (call (.builtin "dict.get") [.ref a,u,r]) Q E s:=by
 rcases g with⟨kvs,k,e,c,l⟩|⟨kvs,k,b,e,c,n,l⟩
 .subst c;obtain⟨z,hd,vs,rel,dd⟩:=Xr I.hok e;refine kC slot_dict_get dd.typeIs PySem.F.entry_dict_get (PySem.F.args_dict_get_3 _ _ _) (meets_dict_get_default (QZ X.prog X.w) a (W0 f) hd r) ⟨_,dd.mapOf,h _ _ (I.tok _) ?_⟩;rw[l];exact(rel.val k).getD i
 .subst c;cases (show u=Value.ref b from f);obtain⟨z,hd,xs,rel,dd⟩:=GS I.hok e;refine kC slot_dict_get dd.typeIs PySem.F.entry_dict_get (PySem.F.args_dict_get_3 _ _ _) (meetsH_dict_get_default (tupleKind (QZ X.prog X.w)) a b hd r) ⟨yV m,k,xs,XS I.hok n,dd,h _ _ (I.tok _) ?_⟩;rw[l];exact(rel.val k).getD i
end
inductive Ar(Q:VK)(a:qd)(y:V)(z:V)(H3:Hp):Prop
 |mk:∀o,Yg H3 a y o->Q (o.getD z) H3->Ar Q a y z H3
inductive Ca(ty:TE)(tx:TE)(σ:St)(Q:VK)(x:V)(H1:Hp):Prop
 |mk:∀a,x=.ref a->IsD H1 a->(ty σ H1 λy H2=>tx σ H2 λz H3=>Ar Q a y z H3)->Ca ty tx σ Q x H1
def Sq(a ty b:TE):TE:=λσ H Q=>a σ H λx H1=>Ca ty b σ Q x H1
inductive Ap(Q:VK)(a:qd)(y:V)(H2:Hp):Prop
 |mk:∀kvs k v,H2 a=some (.dK kvs)->y=kV k->Qy kvs k=some v->Q v (upd H2 a (.dK (YR kvs k)))->Ap Q a y H2
inductive B9(ty:TE)(σ:St)(Q:VK)(x:V)(H1:Hp):Prop
 |mk:∀a,x=.ref a->IsD H1 a->(ty σ H1 λy H2=>Ap Q a y H2)->B9 ty σ Q x H1
def Sm(a ty:TE):TE:=λσ H Q=>a σ H λx H1=>B9 ty σ Q x H1
inductive Ao(Q:VK)(a:qd)(y:V)(z:V)(H3:Hp):Prop
 |mk:∀kvs k,H3 a=some (.dK kvs)->y=kV k->((∀v,Qy kvs k=some v->Q v (upd H3 a (.dK (YR kvs k)))))->((Qy kvs k=none->Q z H3))->Ao Q a y z H3
inductive B8(ty:TE)(tx:TE)(σ:St)(Q:VK)(x:V)(H1:Hp):Prop
 |mk:∀a,x=.ref a->IsD H1 a->(ty σ H1 λy H2=>tx σ H2 λz H3=>Ao Q a y z H3)->B8 ty tx σ Q x H1
def Sl(a ty b:TE):TE:=λσ H Q=>a σ H λx H1=>B8 ty b σ Q x H1
section
variable {X:Cx}{o e f:Expr}{apos cpos:Pos}{td ty tx:TE}
theorem Uo(i:X.A.units+1<cLine)(j:PE X o td)(he:PE X e ty)(hf:PE X f tx)(m:M2 X o "get" apos e f cpos):PE X (.Call (.Attribute o "get" apos) [e,f] [] cpos) (Sq td ty tx):=by
 intro pins s σ H Q I h;refine vn m.base m.few m.line plainAttrs_dict slot_dict_get PySem.F.type_dict_get (z5 (j pins s σ H _ I h) λu s1 ⟨x,H1,c,k,a,ex,d,l⟩=>?_);subst ex;obtain rfl:u=Value.ref a:=k;obtain⟨t1,n,_⟩:=GG c d;refine⟨t1,n,?_⟩;rw[m.trees];refine jt rfl (jT (jb (z5 (he pins s1 σ H1 _ c l) λD s2 ⟨y,p,q,r,t⟩=>
  jb (z5 (hf pins s2 σ p _ q t) λb s3 ⟨z,v,w,A,C,g,B⟩=>jS ?_))))
 exact TU i w g r A λE s4 C b=>⟨_,v,C,b,B⟩
theorem Y4(f:PE X o td)(he:PE X e ty)(m:M1 X o "pop" apos e cpos):PE X (.Call (.Attribute o "pop" apos) [e] [] cpos) (Sm td ty):=by
 intro pins s σ H Q I h;refine vn m.base m.few m.line plainAttrs_dict slot_dict_pop PySem.F.type_dict_pop (z5 (f pins s σ H _ I h) λu s1 ⟨x,H1,c,g,a,ex,d,i⟩=>?_);subst ex;obtain rfl:u=Value.ref a:=g;obtain⟨t1,j,_⟩:=GG c d;refine⟨t1,j,?_⟩;rw[m.trees];refine jt rfl (jT (jb (z5 (he pins s1 σ H1 _ c i) λz s2 ⟨y,A,n,p,kvs,k,v,q,r,l,t⟩=>jS ?_)));subst r;exact RX n q p l (.inl rfl) λB s3 w b=>⟨v,_,w,b,t⟩
theorem MV(p:PE X o td)(he:PE X e ty)(hf:PE X f tx)(m:M2 X o "pop" apos e f cpos):PE X (.Call (.Attribute o "pop" apos) [e,f] [] cpos) (Sl td ty tx):=by
 intro pins s σ H Q I h;refine vn m.base m.few m.line plainAttrs_dict slot_dict_pop PySem.F.type_dict_pop (z5 (p pins s σ H _ I h) λu s1 ⟨x,H1,g,q,a,ex,d,r⟩=>?_);subst ex;obtain rfl:u=Value.ref a:=q;obtain⟨t1,t,_⟩:=GG g d;refine⟨t1,t,?_⟩;rw[m.trees];refine jt rfl (jT (jb (z5 (he pins s1 σ H1 _ g r) λK s2 ⟨y,w,A,i,B⟩=>
  jb (z5 (hf pins s2 σ w _ A B) λC s3 ⟨z,D,j,E,kvs,k,n,F,G,J⟩=>jS ?_))))
 subst F
 cases l:Qy kvs k with
 |some v=>exact RX j n i l (.inr ⟨C,U⟩) λL s4 b c=>⟨v,_,b,c,G v l⟩
 |none=>exact TR j n i l λs4 b=>⟨z,D,b,E,J l⟩
end
end L2
namespace Att
open PySem PySem.W PySem.Calls PyProof.Rows
theorem Kr{P:Params}{h:Heap}:∀(ns:qa Int)(vs:qi),WellAll P h vs (ns.map WData.int)->IntsAre vs ns:=by
 intro ns
 induction ns with
 |nil=>
  intro vs w;rw[yN] at w;cases w;exact .nil
 |cons n ns c=>
  intro vs w;rw[zf] at w
  cases w with
  |cons a b=>
   cases a;exact .cons _ _ (c _ b)
theorem Io{l:OpenLaw}{n:Nat}(i:l.most=some n){P:Params}{h:Heap}{args:qa WData}{vals:qi}
 (b:l.row.toRowW.claim.pre args=true) (f:WellAll P h vals args) :
 ∃a vs ns,vals=[Value.ref a]/\args=[WData.list (ns.map WData.int)]/\h.get? a=some {cls:=.type "list",data:=.seq vs.toArray}/\IntsAre vs ns/\ns.length<=n:=by
 have g:WShape.hasAll [] args [.list .int]=true:=(pre_splitW b).1;have hc:l.pre.holds [] {args:=args}=true:=(pre_splitW b).2;obtain⟨d,r,rfl,j,k⟩:=hasAllW_cons g;obtain rfl:=hasAllW_nil k;obtain⟨xs,rfl,m⟩:=hasW_list j;obtain⟨ns,rfl⟩:=items_int m;have hlen:ns.length<=n:=by
  unfold OpenLaw.pre at hc;have c:(WTm.not (.lt (.lit (.int (n:Int))) (.len (.arg 0)))).holds [] {args:=[.list (ns.map .int)]}=true:=by
   have c:=(holds_andW hc).1;rw[i] at c;exact c
  have e:=condW_of c (w_not (w_lt w_lit (w_len_list (w_arg rfl))));rw[ql] at e;refine Nat.le_of_not_lt λq=>?_;have o:(n:Int)<((ns.length:Nat):Int):=by omega
  first
   |(rw[qx o] at e;exact absurd e ∅)
   |(simp at e;omega)
 cases f with
 |cons e o=>
  cases o
  cases e with
  |list p c=>exact⟨_,_,ns,U,U,p,Kr ns _ c,hlen⟩
theorem Iw(l:OpenLaw)(args:qa WData):l.row.toRowW.claim.post args (.bool true) args=true:=
 postW_of (r:=l.row.toRowW) (X:=(true==true))
  (show WShape.has [] (.bool true) .bool=true by first|rfl|decide|simp[WShape.has,WShape.arms,WShape.armsAll])
  (show(WTm.eq .res (.lit (.bool true))).value [] {args:=args,res:=some (.bool true),after:=args}=some (.bool (true==true)) from w_eq_bool (w_res rfl) w_lit) rfl
theorem vV{l:OpenLaw}{n:Nat}{q:Program}{loose:qg}{XP:(qc->Option qe)->Heap->Prop}{YP:World->Heap->Prop}{d:DefRec}
 (t:l.most=some n) (h:d.params.defaults=[])
 (call:∀(w:World)(s₀ b:Shared)(mg i:qc->Option qe)(c:qd)(o:Obj)(pm cd doc:qe)(a:qd)(vs:qi)(ns:qa Int),
   Ground q loose [] XP w s₀ mg i b.heap->YP w b.heap ->
   b.heap.get? c=some o->o.data=.func (docDef d.name d.params d.body d.scope pm cd doc)->b.heap.CodeRec cd d.name->mg d.name=some (.ref c) ->
   b.heap.get? a=some {cls:=.type "list",data:=.seq vs.toArray}->IntsAre vs ns->ns.length<=n->b.gens=#[] ->
   codeAny (model l.prog w) callerA (.call (.ref c) ⟨[.ref a],[]⟩) (λr s'=>r=.ok (.ret (.bool true))/\OldK b.heap s'.heap/\s'.os=b.os/\AllBare s'.gens) b) :
 WalkO q loose XP YP l.row.toRowW d [] (λf vs=>PySem.call f vs):=by
 intro w s₀ b mg i G Y c o pm cd doc u kV v hd j p k x args vals as e s y m z;obtain rfl:u=.none:=Dflts.none p h;obtain rfl:kV=.none:=Dflts.noKw p;obtain⟨a,vs,ns,rfl,rfl,g,hints,hlen⟩:=Io t e m;refine enter_call (js (call w s₀ b mg i c o pm cd doc a vs ns G Y v (fd_plain hd) j k g hints hlen x) λr s' A=>?_);obtain⟨rfl,B,C,D⟩:=A;exact⟨.inl ⟨.bool true,.bool true,[],U,λ_=>rfl,.bool true,Iw l _,λ_=>⟨List.Pairwise.nil,λ_ hm=>(nomatch hm)⟩⟩,B,C,D⟩
end Att
namespace L2
open PySem PySem.Spec PyProof.Rows
variable {fd:FuncData}{qual x:qc}{f:qd}{H:Hp}
theorem Aj:∀{vs:qi}{ns:qa Int},IntsAre vs ns->QB (ns.map V.int) vs
 |_,_,.nil=>.nil
 |_,_,.cons n t h=>.cons ⟨t,U⟩ (Aj h)
def ae(H:Hp):Prop:=∀b,H b=none\/∃o xs,H b=some (.jO o (.lst xs))
theorem NJ{P:Program}{w:World}{K:Frag}{mg D:qc->Option qe}{N:wC}{k:Nat}{E a:qd}{sp:Sp}{c:Shared}{vs:qi}{ns:qa Int}
 (O:K.In c.heap) (j:c.heap.Ns mainGlobals mg) (f:c.heap.Ns builtinsNs D) (G:∀x:qc,x≠"__name__"->D x=bootBuiltins x) (l:c.heap.NoLimit) (Z:c.gens=#[])
 (C:c.heap.get? a=some {cls:=.type "list",data:=.seq vs.toArray}) (Q:IntsAre vs ns) (R:ns.length<=sizeLine) (hr:Yf k callerA)
 (F:∀base:Heap,K.In base->base.Ns mainGlobals mg->U1 P w K mg base N k E fd [x] sp) (i:∀(s:Shared)(u:qe),BindsTo s fd ⟨[u],[]⟩ [(x,u)])
 (I:∀H:Hp,ae H->zN K H a (ns.map V.int)->sp [.ref a] H (λv _=>v=.bl true) λ_ _ _=>False)
 (J:∀H e s',N [] H c (λ_ _ _=>False) e s'->False) :
 codeAny (model P w) callerA (.call (.ref E) ⟨[.ref a],[]⟩) (λr s'=>r=.ok (.ret (.bool true))/\OldK c.heap s'.heap/\s'.os=c.os/\AllBare s'.gens) c:=by
 have S:=Aj Q;have p:=Q.length;have core:∀H:Hp,ae H->zN K H a (ns.map V.int)->yK P w H c.heap->(∀b,H b≠none->b=a)->(H a≠none->K.lookup a=none) ->
  codeAny (model P w) callerA (.call (.ref E) ⟨[.ref a],[]⟩) (λr s'=>r=.ok (.ret (.bool true))/\OldK c.heap s'.heap/\s'.os=c.os/\AllBare s'.gens) c:=by
  intro H T hS hok X hK;have wA:∀{b:qd}{o:Obj},c.heap.get? b=some o->H b=none->(BJ c.heap H).get? b=some o:=λe n=>N9 e n;have M:∀{b:qd}{o:Obj}{es:Array DictEntry}{y:Nat},c.heap.get? b=some o->o.data=.dict es y->H b=none:=λ{b o es y} e d=>by
   cases q:H b with
   |none=>rfl
   |some u=>
    have B:b=a:=X b (by rw[q];simp);subst B;rw[C] at e;cases e;have d':Data.seq vs.toArray _=Data.dict es y:=d;cases d'
  have g:∀{b:qd}{m:qc->Option qe},c.heap.Ns b m->(BJ c.heap H).Ns b m:=λ{b m} ⟨o,es,y,e,d,r⟩=>⟨o,es,y,wA e (M e d),d,r⟩;have A:K.In (BJ c.heap H):=λb o e=>wA (O b o e) (by
   cases q:H b with
   |none=>rfl
   |some u=>
    have B:b=a:=X b (by rw[q];simp);subst B;rw[hK (by rw[q];simp)] at e;cases e)
  have hM:Mod K mg (BJ c.heap H):=⟨A,g j,⟨D,g f,G⟩,let ⟨mc,h1,h2⟩:=l;⟨mc,g h1,h2⟩⟩;have e0:Ks P w K mg (BJ c.heap H) callerA [] c H:=⟨U,hM,λb o e=>PR e,Nat.le_of_eq (Lh _ _),trivial,λb f=>absurd (show b∈([]:qa qd) from f) (by simp),hok,.of_eq Z⟩;refine js ((F _ A (g j)).run callerA [] c H ⟨[.ref a],[]⟩ [.ref a] [.ref a] _ _ hr e0 (i c (.ref a)) (.cons rfl .nil) (I H T hS)) λr s' h=>?_
  cases r with
  |error e=>exact(J H e s' h).elim
  |ok fl=>
   cases fl with
   |next=>exact False.elim h
   |brk=>exact False.elim h
   |cont=>exact False.elim h
   |ret u=>
    obtain⟨v,H',os,bare,un,B,r',q⟩:=h;have q':v=.bl true:=q;subst q';obtain rfl:u=Value.bool true:=r';refine⟨U,OldK.of_keep λb o e=>?_,os,bare⟩
    cases q:H b with
    |none=>exact un.keep b o e q (by intro z;exact absurd (show b∈([]:qa qd) from z) (by simp)) (by simp)
    |some u=>
     rcases T b with z|⟨ob,xs,z⟩
     .rw[q] at z;cases z
     .have z2:=un.xC b ob _ z;obtain⟨Y,_⟩:=hok b _ z;obtain⟨e2,_⟩:=B b _ z2;rw[e] at Y;cases Y;exact e2
 cases y:K.lookup a with
 |some o=>
  have e:=O a o y;rw[C] at e;cases e;refine core (λ_=>none) (λ_=>.inl rfl) (.inr ⟨_,vs.toArray,_,y,U,U,U,by rw[qV,p];exact R,by simpa using S⟩) (λb u z=>by have g:(none:Option HO)=some u:=z;cases g) (λb z=>absurd rfl z) λz=>absurd rfl z
 |none=>
  refine core (λb=>if b=a then some (.jO {cls:=.type "list",data:=.seq vs.toArray} (.lst (ns.map V.int))) else none) (λb=>?_) (.inl (.inr ⟨{cls:=.type "list",data:=.seq vs.toArray},qP rfl⟩)) (λb u z=>?_) (λb z=>?_) λ_=>y
  .by_cases f:b=a
   .exact .inr ⟨_,_,qP f⟩
   .exact .inl (qJ f)
  .by_cases f:b=a
   .have g:=(qP f).symm.trans z;cases g;subst f;exact⟨C,by rw[ql];exact R,vs,_,S,C⟩
   .have g:=(qJ f).symm.trans z;cases g
  .by_cases f:b=a
   .exact f
   .exact absurd (qJ f) z
abbrev jg:wC:=λ_ _ _ _ _ _=>False
abbrev E0:XK:=λ_ _ _=>False
theorem UN{X:Cx}:VW jg X E0:=λ_ _ _ _ _ _ _ h=>h.elim
structure vK(K:Frag)(x qual:qc)(st:Stmt)(f:qd)(fd:FuncData):Prop where
 ex:∃(oc:qe)(od:Option qd)(kV doc pm:qe)(an:Option qd)(cdv ct:qe)(osl:Array (Option qe)),
  fd=fnOf x qual (Yi st) (QO st) (Qr st) .none kV doc pm an cdv ct/\K.lookup f=some ⟨oc,od,.func fd,osl⟩/\codeIn K cdv qual=true
 kp:keepIn K (.ref f)=true
section
variable {P:Program}{w:World}{K:Frag}{mg:qc->Option qe}{base:Heap}
theorem vK.ok{st:Stmt}{N ps:qg}{k:Nat}{sp:Sp}(F:vK K x qual st f fd)(S:UL N ps (Qr st))
 (b:∀(a:qe)(A:Around)(outer:qa Env)(s:Shared)(H:Hp)(vs:qa V)(Q:VK)(E:XK),Yf k (A.deeper (envOfC qual (Qr st) s.heap.objs.size f a))->sp vs H Q E ->
   ∃t,yU (Uw jg P w K mg base N qual (Qr st) f a A outer s H E).uk (QO st) t/\t {nx:=λ_ H'=>Q .non H',rt:=Q} (start N vs) H) (len:∀vs H Q E,sp vs H Q E->vs.length=ps.length:=by intro _ _ _ _ h;cases h;subst_vars;rfl):U1 P w K mg base jg (k+1) f fd ps sp:=by
 obtain⟨i,j,kV,doc,pm,an,a,ct,e,rfl,lk,c⟩:=F.ex;refine Oj lk c S len λA outer s H vs Q E g d=>?_;obtain⟨t,h,q⟩:=b a A outer s H vs Q E g d;exact⟨t,h.uk,q⟩
theorem vK.binds{st:Stmt}{ps:qg}(F:vK K x qual st f fd)
 (h:∀(kV doc pm:qe)(an:Option qd)(a ct:qe)(us:qi),us.length=ps.length->bindArgs (fnOf x qual (Yi st) (QO st) (Qr st) .none kV doc pm an a ct) ⟨us,[]⟩=pure (ps.zip us)):Yy K fd ps []:=by
 obtain⟨d,e,kV,doc,pm,an,a,ct,b,rfl,lk,c⟩:=F.ex;exact .all (h kV doc pm an a ct)
theorem TC{st:Stmt}{d:qe}{e an:Option qd}{b:Array (Option qe)}{kV doc pm a ct:qe}(l:K.lookup f=some ⟨d,e,.func (fnOf x qual (Yi st) (QO st) (Qr st) .none kV doc pm an a ct),b⟩)
 (c:codeIn K a qual=true) (k:keepIn K (.ref f)=true):vK K x qual st f (fnOf x qual (Yi st) (QO st) (Qr st) .none kV doc pm an a ct):=⟨⟨d,e,kV,doc,pm,an,a,ct,b,U,l,c⟩,k⟩
end
theorem Yx{A:Around}{k:Nat}(a:Yf k A):A.units+1<cLine:=jh (Nat.add_le_add_left (by decide:1<=64) _) a.units
theorem QI{n:Nat}(h:n<=1000):n<sizeLine:=jh h ∅
theorem Yd{n:Nat}(h:n<=1000):n<=sizeLine:=yl (QI h)
theorem LG:0<=sizeLine:=by decide
theorem G9:1<=sizeLine:=by decide
theorem V1:2<=sizeLine:=by decide
theorem H0:3<=sizeLine:=by decide
theorem LF:4<=sizeLine:=by decide
theorem R5:5<=sizeLine:=by decide
theorem aj:6<=sizeLine:=by decide
theorem zl_7:7<=sizeLine:=by decide
theorem zl_9:9<=sizeLine:=by decide
theorem ak:12<=sizeLine:=by decide
theorem zi_3:(0:Int)<3:=by decide
theorem aq:(0:Int)<4:=by decide
theorem zi_5:(0:Int)<5:=by decide
theorem zi_6:(0:Int)<6:=by decide
theorem au:(0:Int)<21:=by decide
theorem ar:(0:Int)<36:=by decide
theorem ao:(0:Int)<48:=by decide
theorem Ab:(0:Int)<2147483629:=by decide
theorem Aa:(0:Int)<2147483647:=by decide
section
variable {X:Cx}
theorem pv(i:Nat){pos:Pos}(hN:X.N[i]?=some x:=by rfl)(b:Vis X.env.scope x:=by first|exact Or.inl rfl|exact Or.inr (Or.inl rfl)|exact Or.inr (Or.inr rfl))(hd:(x==("__debug__":qc))=false:=by decide)
 (a:(x==("__classdict__":qc))=false:=by decide):PE X (.Name x pos) (Se i):=SM hN b hd a
end
theorem QC{A B:Prop}(h:B):if false=true then A else B:=by
 rw[qJ qO];exact h
theorem QT{A B:Prop}(h:A):if true=true then A else B:=by
 rw[qP rfl];exact h
theorem P7{c A B:Prop}[Decidable c](a:c->A)(b:¬c->B):if c then A else B:=by
 by_cases h:c
 .rw[qP h];exact a h
 .rw[qJ h];exact b h
def Qi(H H':Hp):Prop:=∀b o,H b=some o->H' b=some o
theorem Qi.refl(H:Hp):Qi H H:=λ_ _ h=>h
theorem Qi.trans{H1 d:Hp}(a:Qi H H1)(b:Qi H1 d):Qi H d:=λc o h=>b c o (a c o h)
theorem Qi.free{H':Hp}(e:Qi H H'){l:qd}(h:H' l=Option.none):H l=Option.none:=by
 cases q:H l with
 |none=>rfl
 |some o=>
  rw[e l o q] at h;cases h
theorem Qi.seq{K:Frag}{H':Hp}{a:qd}{xs:qa V}(e:Qi H H')(h:zN K H a xs):zN K H' a xs:=by
 rcases h with(h|⟨o,h⟩)|h
 .exact .inl (.inl (e _ _ h))
 .exact .inl (.inr ⟨o,e _ _ h⟩)
 .exact .inr h
section
variable {X:Cx}
theorem Lv:Y7 X (.builtin "len") (λxs H Q=>∃a b,xs=[V.ref a]/\H a=some (.dK b)/\Q (.int b.length) H):=by
 intro pins s σ H xs us Q I r h;obtain⟨a,b,rfl,c,q⟩:=h;obtain⟨u,rfl,d⟩:=Um r;cases d;exact cb I (.inl c) λt s' e=>⟨.int b.length,H,e,⟨t,U⟩,q⟩
end
section
variable {κ:Type}[DecidableEq κ]
theorem XW{p:κ×V}{r:qa (κ×V)}{k:κ}(e:p.1=k):YR (p::r) k=YR r k:=by
 unfold YR;rw[zk,qJ (by simp[e])]
theorem XX{p:κ×V}{r:qa (κ×V)}{k:κ}(e:¬p.1=k):YR (p::r) k=p::YR r k:=by
 unfold YR;rw[zk,qP (by simp[e])]
end
variable {x:qc}{X:Cx}{scope:Scope}{env:Env}{N:qg}{fr:qa (Nat×qc)}{pos px:Pos}{elt iter:Expr}{ifs:qa Expr}{wi:TI}{tt:TT}{te:TE}
def Its(x:qc):It:=⟨λi _=>i<x.cps.size,λi H y H'=>H'=H/\∃c,x.cps[i]?=some c/\y=.str ⟨#[c]⟩,λi _=>i=x.cps.size⟩
theorem Al{P:Program}{w:World}{K:Frag}{C:Expr}{t:Tok}{it:qd}{ty:String}
 (D:["enumerate","zip","dict_itemiterator","dict_reverseitemiterator","odict_iterator","itertools.zip_longest","itertools.pairwise"].contains ty=false)
 (W:∀B:Around,B.handled=none->Walks P w B it [it] [it] x.cps.size (SignAt x) (λi h=>h.IsStrIter it ty x t i))
 (a:∀(A:Around)(i:Nat)(s:Shared)(Q:qh)(E:qh),s.heap.IsStrIter it ty x t i->Q (.ref it) s->wpAny (model P w) A (pyIter (.ref it)) Q E s) :
 EV P w K C (Its x) [it] it (λi h=>h.IsStrIter it ty x t i) where
 mem:=qt.mpr rfl
 obj:=λi h st b e=>by
  cases qt.mp e;obtain⟨o,q,_,d⟩:=st;exact⟨o,q,λv z=>by rw[d] at z;cases z⟩
 keep:=λi h h' st k=>by
  obtain⟨o,q,r⟩:=st;exact⟨o,k it (qt.mpr rfl) o q,r⟩
 item:=by
  intro X j l m hc i pins s σ H E I hf st n;subst j l m;have F:=hf it (qt.mpr rfl);refine(W X.A (I.ok.hd hc)).item i s _ _ n st λv h' p G f y=>?_;obtain⟨c,u,L,rfl⟩:=G;have J:Inv X pins σ H {s with heap:=h',toks:=p}:=I.turned (λb o e q=>y b o (λz=>e (qt.mp z)) q) F.1 F.2.1 F.2.2.2.1 F.2.2.2.2.1 F.2.2.2.2.2;obtain⟨o,q,M,d⟩:=id f;exact⟨_,U,Dx (s:={s with heap:=h',toks:=p}) q M d D ⟨.str ⟨#[c]⟩,H,J,⟨u,U⟩,⟨U,c,L,U⟩,f,λb e=>(hf b e).1⟩⟩
 done:=by
  intro X j l m hc i pins s σ H E I hf st n;subst j l m;have F:=hf it (qt.mpr rfl);have g:i=x.cps.size:=n;subst g;exact(W X.A (I.ok.hd hc)).done s _ _ st λh' p y=>⟨U,I.turned (λb o e q=>y b o (λz=>e (qt.mp z)) q) F.1 F.2.1 F.2.2.2.1 F.2.2.2.2.1 F.2.2.2.2.2⟩
 self:=a
inductive N7(R:(It->Hp->Prop))(x:V)(H1:Hp):Prop
 |mk:∀y,x=.str y->R (Its y) H1->N7 R x H1
def iStr(te:TE):TI:=λσ H R=>te σ H λx H1=>N7 R x H1
theorem MO{j l:Expr}{f:TE}(k:PE X l f):PI X j l (iStr f):=by
 intro pins s σ H R I h;refine z5 (k pins s σ H _ I h) λv s1 ⟨x,H1,a,m,y,e,q⟩=>?_;subst e;obtain⟨t,rfl⟩:=m;have g:∀b∈[s1.heap.objs.size],X5 X pins H1 b:=λb n=>by
  cases qt.mp n;exact a.vC (qz _) (a.hok.fresh (qz _))
 cases i:y.cps.all (·<128)
 .refine wpAny_pyIter_wide i ?_;exact⟨s1.heap.objs.size,[s1.heap.objs.size],_,_,H1,U,a.kept (t':=s1.toks) λb o z=>qr _ z,
   Al (x:=y) (t:=t) (ty:="str_iterator") ∅ (λp c=>Walks.strWide c _ y t) (λ_ _ _ _ _ st d=>wpAny_pyIter_striter_wide st d),⟨_,qI _ rfl,U,U⟩,g,q⟩
 .refine wpAny_pyIter_ascii i ?_;exact⟨s1.heap.objs.size,[s1.heap.objs.size],_,_,H1,U,a.kept (t':=s1.toks) λb o z=>qr _ z,
   Al (x:=y) (t:=t) (ty:="str_ascii_iterator") ∅ (λp c=>Walks.strAscii c _ y t) (λ_ _ _ _ _ st d=>wpAny_pyIter_striter_ascii st d),⟨_,qI _ rfl,U,U⟩,g,q⟩
def Ud(cells:qa (qc×qd)):qa (qc×NameKind)->qa (qc×qd)->qa (qc×qd)
 |[],cs=>cs
 |(n,k)::r,cs=>Ud cells r (if k==.free then (match cells.lookup n with|some c=>(n,c)::cs|none=>cs) else cs)
theorem Vp(h:∀y∈scope.names,y.2=.free->∃c,env.cells.lookup y.1=some c):closureFor scope env=pure (Ud env.cells scope.names []):=by
 unfold closureFor;generalize ([]:qa (qc×qd))=cs
 revert cs
 generalize scope.names=names at h
 induction names with
 |nil=>intro cs;rfl
 |cons p r d=>
  obtain⟨n,k⟩:=p;intro cs;have a:=d λy f=>h y (qK _ f);by_cases b:k=.free
  .subst b;obtain⟨c,hc⟩:=h (n,.free) qB rfl;have e:cellOf env n=pure c:=by unfold cellOf;rw[hc]<;>rfl
   dsimp only at hc⊢;rw[List.forIn_cons];simp only[z8,yM,Ud,hc];rw[e];exact a _
  .have g:(k==NameKind.free)=false:=by simpa using b
   dsimp only;rw[List.forIn_cons];simp only[g,zl,jx,Ud];exact a _
theorem VT{cells:qa (qc×qd)}:∀(names:qa (qc×NameKind))(cs:qa (qc×qd)){y:qc}{c:qd},(Ud cells names cs).lookup y=some c->cells.lookup y=some c\/cs.lookup y=some c
 |[],cs,y,c,h=>.inr h
 |(n,k)::r,cs,y,c,h=>by
  rcases VT r _ (show(Ud cells r _).lookup y=some c from h) with a|a
  .exact .inl a
  .split at a
   .split at a
    .rename_i d b
     rw[zF] at a;split at a
     .rename_i e
      cases a;exact .inl (by rw[eq_of_beq e];exact b)
     .exact .inr a
    .exact .inr a
   .exact .inr a
theorem Kn{cells:qa (qc×qd)}:∀(names:qa (qc×NameKind))(cs:qa (qc×qd)){y:qc},(∃c,cs.lookup y=some c)->∃c,(Ud cells names cs).lookup y=some c
 |[],cs,y,h=>h
 |(n,k)::r,cs,y,h=>by
  refine Kn r _ ?_;split
  .split
   .rw[zF];split
    .exact⟨_,U⟩
    .exact h
   .exact h
  .exact h
theorem Uc{cells:qa (qc×qd)}:∀(names:qa (qc×NameKind))(cs:qa (qc×qd)){y:qc},(y,NameKind.free)∈names->(∃c,cells.lookup y=some c)->∃c,(Ud cells names cs).lookup y=some c
 |(n,k)::r,cs,y,a,hc=>by
  rcases qC.mp a with e|a
  .cases e;refine Kn r _ ?_;obtain⟨c,hc⟩:=hc;simp only[z8,yM,hc];exact⟨c,by simp[zF]⟩
  .exact Uc r _ a hc
def SD(env:Env)(p:qc×NameKind):qc×NameKind:=if (p.2==NameKind.free&&env.scope.kind==.function&&env.kindOf p.1==some .cell)=true then (p.1,NameKind.cell) else (p.1,p.2)
theorem AD{env:Env}:∀{names:qa (qc×NameKind)}{x:qc},names.lookup x=some .free->(names.map (SD env)).lookup x=some .cell\/(names.map (SD env)).lookup x=some .free
 |[],_,h=>by simp at h
 |(n,k)::r,x,h=>by
  have b:=@AD env r x;rw[zf];unfold SD
  cases a:x==n with
  |true=>
   rw[zF,a] at h;cases h;by_cases hc:(NameKind.free==NameKind.free&&env.scope.kind==.function&&env.kindOf n==some .cell)=true
   .left;rw[qP hc,zF,a]
   .right;rw[qJ hc,zF,a]
  |false=>
   rw[zF,a] at h;by_cases hc:(k==NameKind.free&&env.scope.kind==.function&&env.kindOf n==some .cell)=true
   .rw[qP hc,zF,a];exact b h
   .rw[qJ hc,zF,a];exact b h
theorem Y1(h:scope.names.lookup x=some .free):(relabel scope env).names.lookup x=some .cell\/(relabel scope env).names.lookup x=some .free:=
 AD (env:=env) h
theorem VN(b:∀y∈scope.names,y.2≠.cell){y:qc}(h:(relabel scope env).names.lookup y=some .cell\/(relabel scope env).names.lookup y=some .free):(y,NameKind.free)∈scope.names:=by
 have key:∀k,(relabel scope env).names.lookup y=some k->k=.cell\/k=.free->(y,NameKind.free)∈scope.names:=λk e d=>by
  have m:=zK e;obtain⟨⟨n,a⟩,hm,q⟩:=qw.mp m;dsimp only at q;split at q
  .rename_i c
   have f:(a==NameKind.free)=true:=by
    simp only[qG] at c;exact c.1.1
   have g:a=.free:=eq_of_beq f;cases q;rw[g] at hm;exact hm
  .cases q;rcases d with z|z
   .exact absurd z (b _ hm)
   .rw[z] at hm;exact hm
 rcases h with h|h
 .exact key _ h (.inl rfl)
 .exact key _ h (.inr rfl)
structure WO(sc scope:Scope)(N:qg)(x:qc)(fr:qa (Nat×qc)):Prop where
 kind:scope.kind=.function
 loc:scope.names.lookup x=some .local
 names:∀y∈scope.names,y.2=.local->scope.names.lookup y.1=some .local
 xj:∀y∈scope.names,y.2≠.cell
 free:∀y∈scope.names,y.2=.free->sc.names.lookup y.1=some .cell\/sc.names.lookup y.1=some .free
 frk:∀p∈fr,N[p.1]?=some p.2/\scope.names.lookup p.2=some .free
 nd:(x::fr.map (·.2)).Nodup
theorem wN{sc:Scope}(k:scope.kind=.function)(l:scope.names.lookup x=some .local)(h:((∀y∈scope.names,y.2=.local->scope.names.lookup y.1=some .local)/\(∀y∈scope.names,y.2≠.cell)/\(∀y∈scope.names,y.2=.free->sc.names.lookup y.1=some .cell\/sc.names.lookup y.1=some .free))/\(∀p∈fr,N[p.1]?=some p.2/\scope.names.lookup p.2=some .free)/\(x::fr.map (·.2)).Nodup:=by decide +kernel):WO sc scope N x fr:=⟨k,l,h.1.1,h.1.2.1,h.1.2.2,h.2.1,h.2.2⟩
def Yo(X:Cx)(scope:Scope)(C:qd)(N:qg)(s:Shared)(H:Hp)(a:qa qd):Cx where
 prog:=X.prog
 w:=X.w
 K:=X.K
 mg:=X.mg
 base:=X.base
 A:=X.A
 N:=N
 s₀:=s
 H₀:=H
 env:=compEnvC scope (Ud X.env.cells scope.names []) C X.env
 outer:=X.stack
 stack:=X.stack
 ex:=a
 fn:=λ_=>false
 calm:=X.calm
 pn:=[]
 xe:=λ_ _=>False
def yx(σ:St)(fr:qa (Nat×qc)):St:=fr.map λp=>(σ[p.1]?).join
def PTs(X:Cx)(ifs:qa Expr)(t:TT):Prop:=
 ∀(pins:qa (qd×Obj))(s:Shared)(σ:St)(H:Hp)(Q:Bool->Hp->Prop),Inv X pins σ H s->t σ H Q ->
  wpAny (model X.prog X.w) X.A (forIn ifs true λc r=>if r=true then do let ok <-isTrue c X.env (eval c X.env);pure (ForInStep.yield ok) else pure (ForInStep.yield r)) (TP X pins σ Q) X.xe s
def E5:TT:=λ_ H Q=>Q true H
theorem B3{σ:St}{H:Hp}{Q:Bool->Hp->Prop}(h:Q true H):E5 σ H Q:=h
theorem WB :PTs X [] E5:=λ_ _ _ H _ I h=>wpAny_tests_nil ⟨H,I,h⟩
theorem WA{c:Expr}{t:TT}(hc:PT X c t):PTs X [c] t:=λpins s σ H Q I h=>wpAny_tests_one (hc pins s σ H Q I h)
def YB(J:It)(fr:qa (Nat×qc))(tt:TT)(te:TE)(σ:St)(H1:Hp)(Q:VK):Prop:=∀D,H1 D=none ->
 ∃W:Nat->Nat->qa V->Hp->Prop,(∃m,W 0 m [] (upd H1 D (.lst [])))/\∀i m ys a,W i m ys a->a D=some (.lst ys) /\
  ((J.stop i a/\Q (.ref D) a)\/(J.go i a/\∀v d,J.yld i a v d->tt (some v::yx σ fr) d λb e=>
    if b=true then te (some v::yx σ fr) e λy f=>f D=some (.lst ys)/\ys.length<sizeLine/\∃c,c<m/\W (i+1) c (ys++[y]) (upd f D (.lst (ys++[y])))
    else ∃c,c<m/\W (i+1) c ys e))
def LV(wi:TI)(fr:qa (Nat×qc))(tt:TT)(te:TE):TE:=λσ H Q=>wi σ H λJ H1=>YB J fr tt te σ H1 Q
structure EY(X:Cx)(pins:qa (qd×Obj))(H:Hp)(C:qd):Prop where
 hn:H C=none
 hL:C≠X.env.locals
 h1:C∈X.ex\/X.s₀.heap.objs.size<=C
 h2:∀x c,X.env.cells.lookup x=some c->c≠C
 h3:∀p∈X.pn++pins,p.1≠C
theorem DC{sc:Scope}{pos':Pos}
 {pins:qa (qd×Obj)} {s:Shared} {σ:St} {H:Hp} {Q:VK} {Q':qh} {use:Option (qe->Sem Unit)}
 (S:WO sc scope N x fr) (hsc:X.env.scope=sc) (hN:X.N=N) (hc:X.calm=true) (hi:PI X (.Name x px) iter wi)
 (ht:∀(C:qd)(s:Shared)(H:Hp)(f:qa qd),PTs (Yo X scope C (x::fr.map (·.2)) s H f) ifs tt)
 (he:∀(C:qd)(s:Shared)(H:Hp)(f:qa qd),PE (Yo X scope C (x::fr.map (·.2)) s H f) elt te)
 (hs:∀z,foldedSetIterable iter X.env z=pure z) (I:Inv X pins σ H s) (h:LV wi fr tt te σ H Q)
 (hfin:∀(D C:qd)(H':Hp)(s':Shared)(m:qc->Option qe),Inv X pins σ H' s'->s'.heap.Ns C m->EY X pins H' C->Q (.ref D) H'->compPost (model X.prog X.w) X.A X.xe use Q' (.ref D) C (.ok .next) s') :
 wpAny (model X.prog X.w) X.A (comprehension (.ListComp elt [⟨.Name x px,iter,ifs,0⟩] scope pos) scope X.env pos' (newList []) false (eval iter X.env) use) Q' X.xe s:=by
 have wx:∀y,scope.names.lookup y=some .free->X.env.kindOf y=some .cell\/X.env.kindOf y=some .free:=λy M=>by
  show X.env.scope.names.lookup y=_\/X.env.scope.names.lookup y=_;rw[hsc];exact S.free (y,.free) (zK M) rfl
 have gj:∀y∈scope.names,y.2=.free->X.env.kindOf y.1=some .cell\/X.env.kindOf y.1=some .free:=λy M hf=>by
  show X.env.scope.names.lookup y.1=_\/X.env.scope.names.lookup y.1=_;rw[hsc];exact S.free y M hf
 have hkc:∀y∈scope.names,y.2=.free->∃c,X.env.cells.lookup y.1=some c:=λy M hf=>I.ok.has y.1 (gj y M hf);refine vx (use:=use) rfl hs (Vp hkc) S.kind S.names ?_;refine z5 (hi pins s σ H _ I h) λxv s1 h1=>z5 h1 λitv s2 h2=>?_;obtain⟨it,f,tn,J,H2,rfl,w,T,O,f2,q2⟩:=h2;refine zr (wV S.xj (by intro y M;simp at M) (λB g j=>?_) S.kind);dsimp only at g j⊢;have A:Inv X pins σ (upd H2 s2.heap.objs.size (.lst [])) {s2 with heap:=s2.heap.push {cls:=.type "list",data:=.seq ([]:qi).toArray}}:=
  w.wa (its:=[]) (t':=s2.toks) .nil (za _)
 unfold YB at q2;obtain⟨W,⟨m0,w0⟩,turn⟩:=q2 s2.heap.objs.size (w.hok.fresh (qz _));generalize hG:s2.heap.push {cls:=.type "list",dict:=none,data:=.seq ([]:qi).toArray}=G at g j A⊢;generalize hD:s2.heap.objs.size=D at A turn w0⊢;generalize hH3:upd H2 D (.lst [])=P at A w0;have Z:∀b o,G.get? b=some o->b≠G.objs.size:=λb o e=>qR (qM e);have old:∀b o,G.get? b=some o->B.get? b=some o:=λb o e=>(j.2 b (Z b o e)).trans (qr _ e);have E:∀b o,s2.heap.get? b=some o->G.get? b=some o:=λb o e=>by rw[<-hG];exact qr _ e
 have gV:∀b∈f,b<G.objs.size:=λb a=>by
  obtain⟨o,e,_⟩:=T.obj _ _ O b a;exact qM (E b o e)
 have sub:∀{y:qc}{c:qd},(Ud X.env.cells scope.names []).lookup y=some c->X.env.cells.lookup y=some c:=λ{y c} e=>by
  rcases VT _ _ e with z|z
  .exact z
  .simp at z
 have t:∀b∈f,(b∈X.ex\/X.s₀.heap.objs.size<=b)/\b≠X.env.locals/\(∀x c,X.env.cells.lookup x=some c->c≠b)/\∀p∈X.pn++pins,p.1≠b:=λb a=>
  ⟨(f2 b a).2.2.2.1,(f2 b a).2.1,(f2 b a).2.2.2.2.1,(f2 b a).2.2.2.2.2⟩
 have hCL:G.objs.size≠X.env.locals:=jZ A.lt;have hC1:X.s₀.heap.objs.size<=G.objs.size:=A.sz;have hC2:∀x c,X.env.cells.lookup x=some c->c≠G.objs.size:=λx c e=>by
  obtain⟨v,o,ho,_⟩:=A.cell x c e;exact Z c o ho
 have hC3:∀p∈X.pn++pins,p.1≠G.objs.size:=λp R=>Z p.1 p.2 (A.pin p R).1;have gh:(Yo X scope G.objs.size (x::fr.map (·.2)) {s2 with heap:=G} P f).Ok:=by
  refine⟨w.ok.mod,S.kind,w.ok.glob,w.ok.blt,qz _,λy z c e1 e2=>w.ok.inj y z c (sub e1) (sub e2),λy M=>?_,λy c z=>Bool.noConfusion z,w.ok.hd,w.ok.frames,.inl rfl,λb a=>⟨qR (gV b a),λy c e=>(t b a).2.2.1 y c (sub e)⟩,
   λb o e=>A.bs b o e,zb w.ok.vF A.sz,λb o e a=>?_,λb a hf=>?_,A.stack,A.xQ⟩
  .have m:=VN S.xj M;exact Uc _ _ m (hkc _ m rfl)
  .rcases (t b a).1 with z|z
   .exact w.ok.va b o e z
   .exact absurd (qU (qM e) (zb w.ok.vF z)) (zQ _)
  .rcases qC.mp (w.kh b hf) with z|z
   .exact(t b a).2.1 z
   .exact(f2 b a).2.2.1 z
 have I4:∀tk:Nat,Inv (Yo X scope G.objs.size (x::fr.map (·.2)) {s2 with heap:=G} P f) [] (none::yx σ fr) P {s2 with heap:=B,toks:=tk}:=λtk=>by
  refine⟨gh,U,w.bare,Un.kept old,⟨_,g,λi y v e1 e2 _=>?_⟩,λy c e=>?_,A.hok.fresh (qz _),λy c e=>A.jR y c (sub e),λp R=>absurd (show p∈([]:qa (qd×Obj)) from R) (by simp),A.hok.kept old,?_⟩
  .cases i with
   |zero=>simp at e2
   |succ i=>
    have F:(fr.map (·.2))[i]?=some y:=e1;have K:(fr.map λp=>(σ[p.1]?).join)[i]?=some (some v):=e2;rw[qQ] at F K
    cases R:fr[i]? with
    |none=>rw[R] at F;cases F
    |some p=>
     rw[R] at F K;have ey:p.2=y:=qW F;have ev:(σ[p.1]?).join=some v:=qW K;have ev':σ[p.1]?=some (some v):=by
      cases q:σ[p.1]? with
      |none=>rw[q] at ev;cases ev
      |some o=>rw[q] at ev;simp only[Option.join] at ev;exact zt some ev
     have hf:=S.frk p (zv R);rw[ey] at hf;have L:=wx y hf.2;obtain⟨m,_,hl⟩:=w.loc;obtain⟨u,ru,l⟩:=hl p.1 y v (by rw[hN];exact hf.1) ev' (.inr L);refine⟨u,ru,.inr ⟨Y1 hf.2,?_⟩⟩;rcases l with⟨k,_⟩|⟨_,c,e,z⟩
     .rcases L with L|L
      .rw[L] at k;cases k
      .rw[L] at k;cases k
     .obtain⟨c',ec⟩:=Uc (cells:=X.env.cells) scope.names [] (zK hf.2) ⟨c,e⟩;have:=sub ec;rw[e] at this;cases this;obtain⟨o,ho,hd⟩:=z;exact⟨c,ec,o,old c o (E c o ho),hd⟩
  .obtain⟨v,o,ho,hd⟩:=w.cell y c (sub e);exact⟨v,o,old c o (E c o ho),hd⟩
  .show(none::yx σ fr).length=(x::fr.map (·.2)).length;simp[yx]
 have F:(Yo X scope G.objs.size (x::fr.map (·.2)) {s2 with heap:=G} P f).env.scope.names.lookup x=some .local:=jU S.loc;generalize K:Yo X scope G.objs.size (x::fr.map (·.2)) {s2 with heap:=G} P f=Y at I4 F;have eP:Y.prog=X.prog:=by rw[<-K];rfl
 have eW:Y.w=X.w:=by rw[<-K];rfl
 have eK:Y.K=X.K:=by rw[<-K];rfl
 have eA:Y.A=X.A:=by rw[<-K];rfl
 have eC:Y.calm=true:=by rw[<-K];exact hc
 have eE:Y.env=compEnvC scope (Ud X.env.cells scope.names []) G.objs.size X.env:=by rw[<-K];rfl
 have eN:Y.N=x::fr.map (·.2):=by rw[<-K];rfl
 have eX:Y.xe=λ_ _=>False:=by rw[<-K];rfl
 have eB:∀{σ':St}{H':Hp}{s':Shared}{L:qa (qd×Obj)},Inv Y L σ' H' s'->s'.os=s2.os/\Un (frs X.stack) f P H' G s'.heap:=λ{σ' H' s' L} J=>by
  subst K;exact⟨J.os,J.base⟩
 have hT:=ht G.objs.size {s2 with heap:=G} P f;have hE:=he G.objs.size {s2 with heap:=G} P f;rw[K] at hT hE;have gn:∀{H':Hp},(∀b∈f,H' b=none)->∀b∈f,X5 Y [] H' b:=λ{H'} hn b a=>by
  subst K;refine⟨hn b a,qR (gV b a),gh.vb b a,.inl a,λy c e=>(gh.wM b a).2 y c e,λp R=>absurd (show p∈([]:qa (qd×Obj)) from R) (by simp)⟩
 have loop:∀s3:Shared,(∃tk,s3={s2 with heap:=B,toks:=tk}) ->
  codeAny (model X.prog X.w) X.A (.compLoop (.ListComp elt [⟨.Name x px,iter,ifs,0⟩] scope pos) 0 (.ref it) (.ref D) Y.env)
   (compPost (model X.prog X.w) X.A X.xe use Q' (.ref D) G.objs.size) s3:=by
  rintro s3 ⟨tk,rfl⟩;refine codeAny_compLoop_tests (λn s'=>∃i ys o H',Inv Y [] (o::yx σ fr) H' s'/\tn i s'.heap/\(∀b∈f,H' b=none)/\W i n ys H') ?_ m0
   ⟨0,[],none,P,I4 tk,T.keep _ _ _ O λb a o e=>old b o (E b o e),λb a=>?_,w0⟩
  .rintro n s' ⟨i,ys,o,H',J',st',fr',w'⟩;obtain⟨hD',hgo⟩:=turn i n ys H' w';rcases hgo with⟨stop,qn⟩|⟨go,step⟩
   .have Q1:=T.done Y eP eW eK eC i [] s' (o::yx σ fr) H' (notedBy (model X.prog X.w) X.A Y.env λe s''=>compPost (model X.prog X.w) X.A X.xe use Q' (.ref D) G.objs.size (.error e) s'') J' (gn fr') st' stop;rw[eA] at Q1;refine z5 Q1 λr s4 ⟨hr,J4⟩=>?_;subst hr;obtain⟨m,hn,_⟩:=J4.loc;rw[eE] at hn;obtain⟨os4,u4⟩:=eB J4;have vT:H' G.objs.size=none:=by have:=J4.free;rw[eE] at this;exact this
    have gm:yK X.prog X.w H' s4.heap:=by have:=J4.hok;rw[eP,eW] at this;exact this
    exact hfin D G.objs.size H' s4 m (A.call' (ch:=f) (s':=s4) os4 u4 gm J4.bare t) hn ⟨vT,hCL,.inr hC1,hC2,hC3⟩ qn
   .have Q1:=T.item Y eP eW eK eC i [] s' (o::yx σ fr) H' (notedBy (model X.prog X.w) X.A Y.env λe s''=>compPost (model X.prog X.w) X.A X.xe use Q' (.ref D) G.objs.size (.error e) s'') J' (gn fr') st' go;rw[eA] at Q1;refine z5 Q1 λr s4 ⟨u,hr,h4⟩=>?_;subst hr;show wpAny _ _ (letOwnedTupleGo (.Name x px) (.ref it) u>>=λ_=>assign (.Name x px) Y.env u) _ _ s4;refine qk (z5 h4 λ_ s5 ⟨v,H5,J5,r5,y5,w5,fr5⟩=>?_);have J5':=J5.pinned (gn fr5) (T.obj _ _ w5);have G5:=Yc (X:=Y) (i:=0) (x:=x) (pos:=px) (by rw[eN];exact S.nd) (by rw[eN];rfl) (.inl F) (.inr F) ([]++Vm f s5.heap) s5 (o::yx σ fr) H5 v u (λσ6 H6=>σ6=some v::yx σ fr/\H6=H5) J5' r5 ⟨U,U⟩;rw[eP,eW,eA,eX] at G5;refine zy G5 (λ_ s6 ⟨σ6,H6,J6,e6,e6'⟩=>?_) λ_ _ z=>z.elim;subst e6 e6';have T6:=hT _ s6 _ _ _ J6 (step v _ y5);rw[eP,eW,eA,eX] at T6;have again:∀{s7:Shared}{H7:Hp}{zs:qa V},Inv Y ([]++Vm f s5.heap) (some v::yx σ fr) H7 s7->(∃m',m'<n/\W (i+1) m' zs H7)->∃m,m<n/\∃i ys o H',Inv Y [] (o::yx σ fr) H' s7/\tn i s7.heap/\(∀b∈f,H' b=none)/\W i m ys H':=λ{s7 H7 zs} J7 ⟨m',hm,w7⟩=>by
     refine⟨m',hm,i+1,zs,some v,H7,J7.yS,T.keep _ _ _ w5 λb a o e=>(J7.pin (b,o) (qy _ (qy _ (YO a e)))).1,λb a=>?_,w7⟩;obtain⟨o,e,d⟩:=T.obj _ _ w5 b a;exact(J7.pin (b,o) (qy _ (qy _ (YO a e)))).2.1
    refine zy T6 (λok s7 ⟨H7,J7,q7⟩=>?_) λ_ _ z=>z.elim
    cases ok with
    |false=>exact again J7 q7
    |true=>
     have E7:=hE _ s7 _ _ _ J7 q7;rw[eP,eW,eA,eX] at E7;show wpAny _ _ (eval elt Y.env) _ _ s7;refine zy E7 (λu8 s8 ⟨y8,H8,J8,r8,hD8,hz8,w8⟩=>?_) λ_ _ z=>z.elim;have A8:=YL (X:=Y) _ s8 _ H8 (.ref D) [y8] (.ref D) [u8] (λz H9=>H9=upd H8 D (.lst (ys++[y8]))) J8 rfl (.cons r8 .nil) ⟨D,ys,y8,U,U,hD8,hz8,U⟩;rw[eP,eW,eA,eX] at A8;refine zy A8 (λ_ s9 ⟨z9,H9,J9,_,e9⟩=>?_) λ_ _ z=>z.elim;subst e9;exact again J9 w8
  .rw[<-hH3];have hbD:b≠D:=by
    rw[<-hD];obtain⟨o,e,_⟩:=T.obj _ _ O b a;exact qR (qM e)
   rw[Qa hbD];exact(f2 b a).1
 rw[eE] at loop;exact vZ (loop _ ⟨_,U⟩) (T.self _ 0 _ _ _ (T.keep _ _ _ O λb a o e=>old b o (E b o e)) (loop _ ⟨_,U⟩))
theorem UZ{sc:Scope}
 (S:WO sc scope N x fr) (c:X.env.scope=sc) (hN:X.N=N) (hc:X.calm=true) (g:PI X (.Name x px) iter wi)
 (i:∀(C:qd)(s:Shared)(H:Hp)(d:qa qd),PTs (Yo X scope C (x::fr.map (·.2)) s H d) ifs tt)
 (he:∀(C:qd)(s:Shared)(H:Hp)(d:qa qd),PE (Yo X scope C (x::fr.map (·.2)) s H d) elt te)
 (j:∀z,foldedSetIterable iter X.env z=pure z:=by intro _;rfl) :
 PE X (.ListComp elt [⟨.Name x px,iter,ifs,0⟩] scope pos) (LV wi fr tt te):=by
 intro pins s σ H Q I h;rw[eval_ListComp];refine DC (use:=none) S c hN hc g i he j I h λD C H' s' m J k a q=>?_;exact⟨m,k,λh' f=>⟨.ref D,H',J.turned (t':=s'.toks) (λb o l e=>(f.2 b l).trans e) a.hn a.hL a.h1 a.h2 a.h3,U,q⟩⟩
theorem W3{y:qc}{py c:Pos}{i:Nat}{sc:Scope}
 (S:WO sc scope N x fr) (f:X.env.scope=sc) (hN:X.N=N) (hc:X.calm=true) (hnd:X.N.Nodup) (g:X.N[i]?=some y) (r:X.env.scope.names.lookup y=some .local) (t:PI X (.Name x px) iter wi)
 (u:∀(C:qd)(s:Shared)(H:Hp)(j:qa qd),PTs (Yo X scope C (x::fr.map (·.2)) s H j) ifs tt)
 (he:∀(C:qd)(s:Shared)(H:Hp)(j:qa qd),PE (Yo X scope C (x::fr.map (·.2)) s H j) elt te)
 (w:∀z,foldedSetIterable iter X.env z=pure z:=by intro _;rfl)
 (k:swapsWith (.ListComp elt [⟨.Name x px,iter,ifs,0⟩] scope pos) (some (.Name y py)) c.line X.env=pure true:=by rfl) :
 PS X (.Assign [.Name y py] (.ListComp elt [⟨.Name x px,iter,ifs,0⟩] scope pos) c) (LX (LV wi fr tt te) (Q8 i)):=by
 intro pins s σ H A I h;rw[exec_Assign_Name_used _ _ _ _ k];refine qk (wpAny_standAt (qk ?_));show wpAny _ X.A (do let _ <-comprehension (.ListComp elt [⟨.Name x px,iter,ifs,0⟩] scope pos) scope X.env _ (newList []) false (eval iter X.env) (some (assign (.Name y py) X.env))) _ _ s;refine qk (z5 (DC (use:=some (assign (.Name y py) X.env)) (Q':=λ_ s'=>SP X pins A .next s') S f hN hc t u he w I h λD C H' s' m J B d q=>?_) λ_ s' E=>qq (qq E));show wpAny _ _ (assign (.Name y py) X.env (.ref D)) _ _ s';refine wpAny_assign_Name (As J hnd g (.inl r) (v:=.ref D) rfl (λs5 F l=>?_) (.inr r));obtain⟨a,G,K⟩:=l;have n:C≠a:=by
  rcases K with z|z
  .rw[z];exact d.hL
  .exact jL (d.h2 _ _ z)
 refine⟨m,B.sameBut G n,λh' p=>⟨_,H',F.turned (t':=s5.toks) (λb o L e=>(p.2 b L).trans e) d.hn d.hL d.h1 d.h2 d.h3,q⟩⟩
theorem LB{bs:qa Bool}:(List.range bs.length).all (λi=>bs.getD i true)=bs.all id:=by
 rw[yG,zi,zi];constructor
 .intro h b a;obtain⟨i,c,e⟩:=List.mem_iff_getElem.mp a;have q:=h i (jK.mpr c);simp only[qZ,qv c,gE] at q;rw[<-e];exact q
 .intro h i c;have a:=jK.mp c;simp only[qZ,qv a,gE];exact h _ (zu a)
theorem GY(hc:X.calm=true):Y7 X (.builtin "all") (λxs H Q=>∃(p:qd)(bs:qa Bool),xs=[.ref p]/\zN X.K H p (bs.map V.bl)/\Q (.bl (bs.all id)) H):=by
 intro pins s σ H xs us Q I r h;obtain⟨p,bs,rfl,j,q⟩:=h;obtain⟨u,rfl,k⟩:=Um r;cases k;obtain⟨its,f,pl,hz⟩:=I.list j;have hlen:=f.length;rw[ql] at hlen;have c:p<s.heap.objs.size:=by obtain⟨o,e,_⟩:=pl.isList;exact qM e
 refine call_all_walk (wpAny_pyIter_list pl.isList ?_);refine⟨s.heap.objs.size,_,[s.heap.objs.size],its.toArray.size,_,_,λi=>bs.getD i true,U,Walks.list (A:=X.A.in1) (I.ok.hd hc) s.heap.objs.size p (qR c) its.toArray,⟨⟨_,qI _ rfl,U,U⟩,pl.isList.push _⟩,?_,?_⟩
 .intro i v s' Q' t l d;have a:its[i]?=some v:=by simpa using l
  have w:i<its.length:=(zm.mp a).1;have m:(bs.map V.bl)[i]?=some (V.bl (bs.getD i true)):=by
   rw[qQ,qv ⋯];simp[qZ,qv (show i<bs.length by omega)]
  obtain⟨u,g,n⟩:=f.get m;rw[a] at g;cases g;cases n;exact zI d
 .intro h' a d;have hsz:its.toArray.size=bs.length:=by rw[qV];exact hlen.symm
  rw[hsz,LB];exact⟨.bl (bs.all id),H,I.kept (t':=a) λb o e=>d b o (λz=>absurd (qM e) (by rw[qt.mp z];exact zQ _)) (qr _ e),U,q⟩
def cc:V->Option qe
 |.ty n=>some (.type n)
 |.ref a=>some (.ref a)
 |_=>none
theorem QR :Y7 X (.builtin "isinstance") (λxs H Q=>∃x c f t b,xs=[x,c]/\cc c=some f/\Vd X.K H x t/\kitOne X.K t f=some b/\Q (.bl b) H):=by
 intro pins s σ H xs us Q I r h;obtain⟨x,c,f,t,b,rfl,d,ty,g,q⟩:=h;obtain⟨u,i,rfl,j,rc⟩:=ay r;have e:i=f:=by
  cases c with
  |ty n=>cases d;exact rc
  |ref a=>cases d;exact rc
  |_=>cases d
 subst e;exact Le I j ty g λk=>⟨.bl b,H,I.tok k,U,q⟩
theorem UC{xs:qg}:∀{us:qi},QB (xs.map V.str) us->StrsAre us xs:=by
 induction xs with
 |nil=>intro us r;rw[yN] at r;cases r;exact .nil
 |cons y ys a=>
  intro us r;rw[zf] at r
  cases r with
  |cons b c=>
   obtain⟨t,e⟩:=b;subst e;exact .cons y t (a c)
inductive Hj(K:Frag)(x:V)(xs:qa V)(H:Hp)(Q:VK):Prop
 |mk:∀(sep:qc)(p:qd)(ys:qg),x=.str sep->xs=[.ref p]->zN K H p (ys.map V.str)->(ys.map (·.length)).sum+ys.length*sep.length<=16777216->Q (.str (Txt.join sep ys)) H->Hj K x xs H Q
def bo(K:Frag):V->qa V->Hp->VK->Prop:=λx xs H Q=>Hj K x xs H Q
theorem Hy :wO X "str.join" (bo X.K):=by
 intro pins s σ H x xs v us Q I a b h;obtain⟨sep,p,ys,rfl,rfl,c,hz,q⟩:=h;obtain⟨t,rfl⟩:=a;obtain⟨u,rfl,d⟩:=Um b;cases d;obtain⟨its,r,pl,_⟩:=I.list c;exact join_list pl.isList (by have:=UC r;simpa using this) hz λt' k=>⟨.str (Txt.join sep ys),H,I.tok k,⟨t',U⟩,q⟩
inductive Mu(x:V)(lo:Option Int)(hi:Option Int)(H:Hp)(Q:VK):Prop
 |mk:∀y,x=.str y->y.length<=sizeLine->Q (.str (Txt.slice y lo hi)) H->Mu x lo hi H Q
def rSlS:V->Option Int->Option Int->Hp->VK->Prop:=λx lo a H Q=>Mu x lo a H Q
theorem Mj :gM X rSlS:=by
 intro pins s σ H x v f g lo a sl Q I e b pl pu h;obtain⟨y,rfl,hz,q⟩:=h;obtain⟨t,rfl⟩:=e;refine⟨"str",_,F.slot_str_getitem.lookup,kO _ _ _,?_⟩;have fin:∀lo a,Q (.str (Txt.slice y lo a)) H->(Txt.slice y lo a).length<=sizeLine/\∀t' k,EP X pins σ Q (.str (Txt.slice y lo a) t') {s with toks:=k}:=λlo a q=>
  ⟨zb (Txt.slice_le y _ _) hz,λt' k=>⟨.str _,H,I.tok k,⟨t',U⟩,q⟩⟩
 cases pl with
 |none=>
  cases pu with
  |none=>exact yY (l:=none) (u:=none) (st:=none) b rfl (wk (fin _ _ q))
  |int j c=>exact yY (l:=none) (u:=some (j,c)) (st:=none) b rfl (wk (fin _ _ q))
 |int i d=>
  cases pu with
  |none=>exact yY (l:=some (i,d)) (u:=none) (st:=none) b rfl (wk (fin _ _ q))
  |int j c=>exact yY (l:=some (i,d)) (u:=some (j,c)) (st:=none) b rfl (wk (fin _ _ q))
mutual
inductive RD(K:Frag)(H:Hp):V->PyData->Prop
 |non:RD K H .non .none
 |bl (b:Bool):RD K H (.bl b) (.bool b)
 |int (i:Int):RD K H (.int i) (.int i)
 |str (x:qc):RD K H (.str x) (.str x)
 |lst {a:qd} {xs:qa V} {ds:qa PyData}:zN K H a xs->gu K H xs ds->RD K H (.ref a) (.list ds)
 |tup {a:qd} {xs:qa V} {ds:qa PyData}:jj K H a xs->gu K H xs ds->RD K H (.ref a) (.tuple ds)
inductive gu(K:Frag)(H:Hp):qa V->qa PyData->Prop
 |nil:gu K H [] []
 |cons {x:V} {xs:qa V} {d:PyData} {ds:qa PyData}:RD K H x d->gu K H xs ds->gu K H (x::xs) (d::ds)
end
mutual
theorem RD.reads{X:Cx}{pins:qa (qd×Obj)}{σ:St}{H:Hp}{s:Shared}(I:Inv X pins σ H s):∀{x:V}{d:PyData}{u:qe},RD X.K H x d->QJ x u->∃as,Reads s.heap u d as
 |_,_,_,.non,r=>by cases (show _=Value.none from r);exact⟨_,.none⟩
 |_,_,_,.bl b,r=>by cases (show _=Value.bool b from r);exact⟨_,.bool b⟩
 |_,_,_,.int i,r=>by obtain⟨t,e⟩:=r;subst e;exact⟨_,.int i t⟩
 |_,_,_,.str x,r=>by obtain⟨t,e⟩:=r;subst e;exact⟨_,.str x t⟩
 |_,_,_,.lst (a:=a) f g,r=>by
  cases (show _=Value.ref a from r);obtain⟨its,h,pl,_⟩:=I.list f;obtain⟨as,j⟩:=gu.reads I g h;obtain⟨o,e,c,n,d⟩:=pl.isList;exact⟨_,.list e c d (by simpa using j)⟩
 |_,_,_,.tup (a:=a) f g,r=>by
  cases (show _=Value.ref a from r);obtain⟨its,h,pl,_⟩:=I.tuple f;obtain⟨as,j⟩:=gu.reads I g h;obtain⟨o,e,c,n,d⟩:=pl;exact⟨_,.tuple e c d (by simpa using j)⟩
theorem gu.reads{X:Cx}{pins:qa (qd×Obj)}{σ:St}{H:Hp}{s:Shared}(I:Inv X pins σ H s):∀{xs:qa V}{ds:qa PyData}{us:qi},gu X.K H xs ds->QB xs us->∃as,ReadsAll s.heap us ds as
 |_,_,_,.nil,r=>by cases r;exact⟨_,.nil⟩
 |_,_,_,.cons a b,r=>by
  cases r with
  |cons c d=>
   obtain⟨as,a1⟩:=RD.reads I a c;obtain⟨bs,a2⟩:=gu.reads I b d;exact⟨_,.cons a1 a2⟩
end
inductive MD(K:Frag)(x:V)(y:V)(H:Hp)(Q:VK):Prop
 |mk:∀d e,RD K H x d->RD K H y e->SeqAt.shaped d=true->SeqAt.shaped e=true->Q (.bl (PyData.eqv d e)) H->MD K x y H Q
def bu(K:Frag):R2:=λx y H Q=>MD K x y H Q
inductive My(K:Frag)(x:V)(y:V)(H:Hp)(Q:VK):Prop
 |mk:∀d e,RD K H x d->RD K H y e->SeqAt.shaped d=true->SeqAt.shaped e=true->Q (.bl (!PyData.eqv d e)) H->My K x y H Q
def bj(K:Frag):R2:=λx y H Q=>My K x y H Q
theorem Bu(a:X.A.units+64<cLine):y9 X (compareOp .Eq) (bu X.K):=by
 intro pins s σ H x y v u Q I b c h;obtain⟨d,e,hd,he,f,g,q⟩:=h;obtain⟨as,i⟩:=hd.reads I b;obtain⟨bs,j⟩:=he.reads I c;exact eq_dataH i j f g a ⟨.bl _,H,I,U,q⟩
theorem MZ(a:X.A.units+64<cLine):y9 X (compareOp .NotEq) (bj X.K):=by
 intro pins s σ H x y v u Q I b c h;obtain⟨d,e,hd,he,f,g,q⟩:=h;obtain⟨as,i⟩:=hd.reads I b;obtain⟨bs,j⟩:=he.reads I c;exact ne_dataH i j f g a ⟨.bl _,H,I,U,q⟩
inductive Ex2{α0 α1:Type}(P:α0->α1->Prop):Prop
 |mk:∀x0 x1,P x0 x1->Ex2 P
inductive Ex3{α0 α1 α2:Type}(P:α0->α1->α2->Prop):Prop
 |mk:∀x0 x1 x2,P x0 x1 x2->Ex3 P
inductive cG(p0 p1 p2 p3 p4 p5 p6:Prop):Prop
 |mk:p0->p1->p2->p3->p4->p5->p6->cG p0 p1 p2 p3 p4 p5 p6
inductive cF(p0 p1 p2 p3 p4 p5 p6 p7:Prop):Prop
 |mk:p0->p1->p2->p3->p4->p5->p6->p7->cF p0 p1 p2 p3 p4 p5 p6 p7
inductive cE(p0 p1 p2 p3 p4 p5 p6 p7 p8:Prop):Prop
 |mk:p0->p1->p2->p3->p4->p5->p6->p7->p8->cE p0 p1 p2 p3 p4 p5 p6 p7 p8
variable {X:Cx}{x:qc}{pos:Pos}{e:Expr}{es:qa Expr}{te:TE}
theorem Xv{α:Type}{xs:qa α}{i:Int}(h0:0<=i)(b:i<(xs.length:Int)):∃v,xx xs i=some v/\v∈xs/\xs[i.toNat]?=some v:=by
 have a:i.toNat<xs.length:=by omega
 refine⟨xs[i.toNat],?_,zu a,qv a⟩;have e:((i.toNat:Nat):Int)=i:=by omega
 have q:=QF (xs:=xs) (j:=i.toNat) (qv a);rw[e] at q;exact q
theorem Df{ns:qa Int}{v:V}(h:v∈ns.map V.int):∃z,v=.int z/\z∈ns:=by
 obtain⟨z,hz,e⟩:=qw.mp h;exact⟨z,e.symm,hz⟩
theorem Qi.zq{H:Hp}{p:qd}{o:HO}(h:H p=none):Qi H (upd H p o):=λb u e=>by rw[Qa (Qc e h)];exact e
theorem Qi.jl{H H':Hp}{p:qd}{o:HO}(s:Qi H H')(h:H p=none):Qi H (upd H' p o):=λb u e=>by rw[Qa (Qc e h)];exact s b u e
theorem Vu{v:V}(a:Gl X x)(h:∃u,X.mg x=some u/\QJ v u)(hd:(x==("__debug__":qc))=false:=by decide):PE X (.Name x pos) (tC v):=by
 obtain⟨u,hm,r⟩:=h;exact WE a hm r hd
theorem NX(K:Frag)(a:X.K=K:=by rfl):uJ X (bq K):=a▸Q2
theorem Xo(K:Frag)(a:X.K=K:=by rfl):uJ X (bp K):=a▸QA
section
variable {X:Cx}{o e:Expr}{es:qa Expr}{to:TE}{t:TA}{name:qc}{apos cpos:Pos}{T id:String}{r:V->qa V->Hp->VK->Prop}
theorem Pp(K:Frag)(d:PlainAttrs T)(slot:Slot T name id)(c:typeOf (.builtin id)=pure (.type "method_descriptor"))(hm:wO X id r)(e:PE X o to)(f:X.K=K:=by rfl)
 (a:attributeBase o name X.env (eval o X.env)=eval o X.env:=by rfl) (b:(apos.endLine==cpos.line)=true:=by rfl):PE X (.Call (.Attribute o name apos) [] [] cpos) (aS K T r to):=
 f▸Gk d slot c hm e a b
end
def Ea:Expr->Bool
 |.Starred ..=>false
 |_=>true
theorem KW{env:Env}(h:Ea e=true):starEach (e::es) env=(false,eval e env)::starEach es env:=by
 cases e<;>first|rfl|(cases h)
theorem zj{t:TA}(a:PE X e te)(b:PA X es t)(h:Ea e=true:=by rfl):PA X (e::es) (Cb te t):=Hr a b (KW h)
structure g5(X:Cx)(es:qa Expr)(t:TA):Prop where
 h:PA X es t
theorem Qu :g5 X [] Il:=⟨Qg⟩
theorem Qf{t:TA}(a:PE X e te)(b:g5 X es t)(h:Ea e=true:=by rfl):g5 X (e::es) (Cb te t):=⟨zj a b.h h⟩
theorem Kw{t:TA}(h:g5 X es t):PE X (.List es pos) (Sk t):=MS h.h
theorem UY{t:TA}{a:Nat}(h:g5 X es t):PE X (.Tuple es a pos) (Sf t):=SN h.h
structure QE(X:Cx)(e:Expr)(t:TE):Prop where
 h:PE X e t
structure QS(X:Cx)(st:Stmt)(t:TS):Prop where
 h:PS X st t
structure QSs(X:Cx)(st:qa Stmt)(t:TS):Prop where
 h:yU X st t
theorem MG{t:TA}(h:g5 X es t):QE X (.List es pos) (Sk t):=⟨MS h.h⟩
theorem bz{st:Stmt}{t:TS}(h:PS X st t):QS X st t:=⟨h⟩
theorem MF{i:Nat}{pos':Pos}(hN:X.N.Nodup)(a:X.N[i]?=some x)(b:Loc X.env.scope x)(he:QE X e te)(c:swapsWith e (some (.Name x pos')) pos.line X.env=pure false:=by rfl)(hf:X.fn x=true\/X.env.scope.names.lookup x=some .local:=by first|exact .inl rfl|exact .inr rfl|assumption) :
 QS X (.Assign [.Name x pos'] e pos) (LX te (Q8 i)):=⟨Qv hN he.h a b c hf⟩
theorem bA{c:Expr}{a b:qa Stmt}{d:TT}{t u:TS}(hc:PT X c d)(e:QSs X a t)(f:yU X b u):QS X (.If c a b pos) (O1 d t u):=⟨QG hc e.h f⟩
theorem Gg{st:Stmt}{rest:qa Stmt}{t u:TS}(a:QS X st t)(b:QSs X rest u):QSs X (st::rest) (V0 t u):=⟨Qd a.h b.h⟩
theorem Ph{st:Stmt}{t:TS}(a:QS X st t):QSs X [st] t:=⟨Qe a.h⟩
theorem DB{fr:qa (Nat×qc)}{σ:St}{H1:Hp}{Q:VK}(f:Nat->V)(hz:x.cps.size<=sizeLine)
 (d:∀(c:Nat)(g:Hp)(Q':VK),c∈x.cps.toList->Q' (f c) g->te (some (.str ⟨#[c]⟩)::yx σ fr) g Q')
 (j:∀D,H1 D=none->Q (.ref D) (upd H1 D (.lst (x.cps.toList.map f)))) :
 YB (Its x) fr E5 te σ H1 Q:=by
 unfold YB;intro D k;refine⟨λi m ys h=>m=x.cps.size-i/\i<=x.cps.size/\ys=(x.cps.toList.take i).map f/\h=upd H1 D (.lst ys),⟨x.cps.size,by simp,za _,by simp,U⟩,?_⟩;rintro i m ys h ⟨rfl,l,rfl,rfl⟩;refine⟨Qb,?_⟩;by_cases a:i<x.cps.size
 .refine .inr ⟨a,?_⟩;rintro v g ⟨rfl,c,hc,rfl⟩;refine B3 (QT ?_);have b:x.cps.toList[i]?=some c:=by simpa using hc
  refine d c _ _ (zv b) ⟨Qb,?_,x.cps.size-(i+1),⋯,U,a,?_,VG⟩
  .rw[ql,zY];simp only[ze];omega
  .rw[zR,b];simp
 .have e:i=x.cps.size:=by omega
  subst e;have b:x.cps.toList.take x.cps.size=x.cps.toList:=ja (by simp);refine .inl ⟨U,?_⟩;rw[b];exact j D k
theorem EN{lo:Int}{n:Nat}{fr:qa (Nat×qc)}{σ:St}{H1:Hp}{Q:VK}(f:Nat->V)(hz:n<=sizeLine)
 (c:∀(i:Nat)(b:Hp)(Q':VK),i<n->Qi H1 b->Q' (f i) b->te (some (.int (lo+i))::yx σ fr) b Q')
 (h:∀D,H1 D=none->Q (.ref D) (upd H1 D (.lst ((List.range n).map f)))) :
 YB (Itr lo n) fr E5 te σ H1 Q:=by
 unfold YB;intro D d;refine⟨λi m ys g=>m=n-i/\i<=n/\ys=(List.range i).map f/\g=upd H1 D (.lst ys),⟨n,by simp,za _,by simp,U⟩,?_⟩;rintro i m ys g ⟨rfl,j,rfl,rfl⟩;refine⟨Qb,?_⟩;by_cases a:i<n
 .refine .inr ⟨a,?_⟩;rintro v b ⟨rfl,rfl⟩;refine B3 (QT ?_);refine c i _ _ a (Qi.zq d) ⟨Qb,?_,n-(i+1),⋯,U,a,?_,VG⟩
  .rw[ql,zS];omega
  .rw[vo,qE,List.map_singleton]
 .have e:i=n:=by omega
  subst e;exact .inl ⟨qz _,h D d⟩
theorem KS{α:Type}(g:α->Nat):∀(l:qa α),(∀x∈l,g x=1)->(l.map g).sum=l.length
 |[],_=>rfl
 |a::r,h=>by
  rw[zf,List.sum_cons,h a qB,KS g r λx b=>h x (qK _ b),zc];omega
theorem Rr(x y:qc):(x++y).length=x.length+y.length:=by
 show(x.cps++y.cps).size=_;rw[Array.size_append];rfl
theorem Hv(c:Nat):(⟨#[c]⟩:qc).length=1:=rfl
variable {X:Cx}
def kK(x:qc):Prop:=∀c∈x.cps.toList,c<128
theorem kK.ok{x:qc}(h:kK x):PyData.strOk x=true:=by
 unfold PyData.strOk;rw[Array.all_eq_true'];intro c hc;have:=h c (Array.mem_toList_iff.mpr hc);exact qx ⋯
theorem kK.one{x:qc}{c:Nat}(h:kK x)(hc:c∈x.cps.toList):kK ⟨#[c]⟩:=λd hd=>by
 have:d=c:=by simpa using hd
 rw[this];exact h c hc
inductive CN(x:V)(xs:qa V)(H:Hp)(Q:VK):Prop
 |mk:∀y,x=.str y->xs=[]->kK y->y.length<=1000000->Q (.str ⟨y.cps.map up1⟩) H->CN x xs H Q
def SF:V->qa V->Hp->VK->Prop:=λx xs H Q=>CN x xs H Q
theorem C8 :wO X "str.upper" SF:=by
 intro pins s σ H x xs v us Q I a b h;obtain⟨y,rfl,rfl,c,hz,q⟩:=h;obtain⟨t,rfl⟩:=a;cases b;refine SCL.upper ⋯ λ_=>?_;rw[upper_ascii c];exact⟨.str _,H,I.tok _,⟨_,U⟩,q⟩
inductive CO(x:V)(xs:qa V)(H:Hp)(Q:VK):Prop
 |mk:∀y,x=.str y->xs=[]->kK y->y.length<=1000000->Q (.str ⟨y.cps.map lo1⟩) H->CO x xs H Q
def SG:V->qa V->Hp->VK->Prop:=λx xs H Q=>CO x xs H Q
theorem Nz :wO X "str.lower" SG:=by
 intro pins s σ H x xs v us Q I a b h;obtain⟨y,rfl,rfl,c,hz,q⟩:=h;obtain⟨t,rfl⟩:=a;cases b;refine SCL.lower ⋯ λ_=>?_;rw[lower_ascii c];exact⟨.str _,H,I.tok _,⟨_,U⟩,q⟩
theorem V4:∀{xs:qa V}{us:qi},xs.length=us.length->(∀(j:Nat)(x:V)(u:qe),xs[j]?=some x->us[j]?=some u->QJ x u)->QB xs us
 |[],[],_,_=>.nil
 |[],_::_,h,_=>by cases h
 |_::_,[],h,_=>by cases h
 |x::xs,u::us,b,a=>.cons (a 0 x u rfl rfl) (V4 (by simpa using b) λj y w c d=>a (j+1) y w (by simpa using c) (by simpa using d))
theorem KV.at{b:Type}:∀{a:qa (b×V)}{vs:qa (b×qe)}{j:Nat}{p:b×V}{q:b×qe},KV a vs->a[j]?=some p->vs[j]?=some q->p.1=q.1
 |_,_,_,_,_,.nil,h,_=>by simp at h
 |_,_,0,_,_,.cons r _,c,d=>by
  simp only[List.getElem?_cons_zero,wR] at c d;subst c d;exact r.1
 |_,_,j+1,_,_,.cons _ t,c,d=>KV.at (j:=j) (show KV _ _ from t) (by simpa using c) (by simpa using d)
theorem Wv(hc:X.calm=true):Y7 X (.type "list") (λxs H Q=>∃p a,xs=[.ref p]/\H p=some (.dK a)/\∀l,H l=none->Q (.ref l) (upd H l (.lst (a.map λd=>kV d.1)))):=by
 intro pins s σ H xs us Q I r h;obtain⟨p,a,rfl,n,q⟩:=h;obtain⟨u,rfl,v⟩:=Um r;cases v;obtain⟨hz,f,vs,m,o,es,w,A,B,C,D,E,F⟩:=GU I.hok n;have G:s.heap.DictAt (QZ X.prog X.w) p vs w:=⟨o,es,A,B,C,D,E,F⟩;have hlen:a.length=vs.length:=KV.length m;refine PySem.W.kdl_call (kdl_dict f) (I.ok.hd hc) G (by rw[<-hlen];exact hz) λh' J b K L hS c=>?_;have M:QB (a.map λd=>kV d.1) b.toList:=by
  refine V4 (by rw[ql,hlen];exact c.1.symm.trans (by simp)) λj x u e N=>?_;rw[qQ] at e
  cases g:a[j]? with
  |none=>rw[g] at e;cases e
  |some d=>
   rw[g] at e;cases e;obtain⟨k,y,O,P⟩:=c.2 j u (by rw[<-zw];exact N);have R:d.1=k:=KV.at m g O;show QJ (kV d.1) u;rw[R];rcases Yb (show yJ k u=true from P) with⟨i,t,rfl,rfl⟩|⟨z,t,rfl,rfl⟩
   .exact⟨t,U⟩
   .exact⟨t,U⟩
 exact⟨.ref s.heap.objs.size,_,I.laid (t':=J) L (qz _) (show QP X.prog X.w _ h' _ (.lst _) from⟨by rw[ql];exact hz,b.toList,K,M,by rw[jQ];exact hS⟩),U,q _ (I.hok.fresh (qz _))⟩
theorem Ul:∀l:qa (qc×Tok),QB ((l.map (·.1)).map V.str) (strValues l)
 |[]=>.nil
 |p::r=>.cons ⟨p.2,U⟩ (Ul r)
inductive AF(x:V)(xs:qa V)(H:Hp)(Q:VK):Prop
 |mk:∀y,x=.str y->xs=[]->y.length<=1000000->(∀l,H l=none->Q (.ref l) (upd H l (.lst ((Txt.words y).map V.str))))->AF x xs H Q
def Pf:V->qa V->Hp->VK->Prop:=λx xs H Q=>AF x xs H Q
variable {xs:qg}
theorem CL{K:Frag}{H:Hp}:∀xs:qg,gu K H (xs.map V.str) (xs.map PyData.str)
 |[]=>.nil
 |x::r=>.cons (.str x) (CL r)
theorem Ku{K:Frag}{H:Hp}{a:qd}(h:zN K H a (xs.map V.str)):RD K H (.ref a) (.list (xs.map PyData.str)):=.lst h (CL xs)
theorem Gy:∀{xs:qg},(∀x∈xs,kK x)->PyData.canLayAll0 (xs.map PyData.str)=true/\PyData.depthAll (xs.map PyData.str)=0
 |[],_=>⟨U,U⟩
 |x::r,h=>by
  have q:=Gy (xs:=r) λy a=>h y (qK _ a);have e:=(h x qB).ok;simp only[zf,PyData.canLayAll0,PyData.canLay0,PyData.depthAll,PyData.depth,q.1,q.2,e];exact⟨U,U⟩
theorem X8(h:∀x∈xs,kK x):SeqAt.shaped (.list (xs.map PyData.str))=true:=by
 have q:=Gy h;unfold SeqAt.shaped;simp only[PyData.canLay0,PyData.depth,q.1,q.2];rfl
def Us(acc:qg)(t:qc):qg:=if t∈acc then acc else acc++[t]
def UR(xs:qg):qg:=xs.foldl Us []
theorem AJ(xs:qg)(t:qc):UR (xs++[t])=Us (UR xs) t:=by
 unfold UR;rw[wW];rfl
theorem WX:∀(xs acc:qg),(xs.foldl Us acc).length<=acc.length+xs.length
 |[],acc=>qz _
 |t::r,acc=>by
  rw[ya];refine zb (WX r _) ?_;unfold Us;split
  .rw[zc];omega
  .rw[qA,qY,zc];omega
theorem M5(xs:qg):(UR xs).length<=xs.length:=by
 have:=WX xs [];rw[jq,Nat.zero_add] at this;exact this
theorem Wn{t:qc}:inV (.str t) (xs.map V.str)=decide (t∈xs):=by
 unfold inV;rw[List.any_map,yG,gF,zC];constructor
 .rintro⟨x,a,e⟩;have:x=t:=eq_of_beq (show(x==t)=true from e);rw[<-this];exact a
 .intro h;exact⟨t,h,show(t==t)=true from z8 t⟩
theorem WM(xs:qg):(xs.map V.str).all Wr=true:=by
 rw[wX,zi];intro x _;rfl
abbrev aZ:qc:="abcdefghijklmnopqrstuvwxyz0123456789"
theorem OP:aZ.cps.toList.length=36:=by decide +kernel
theorem OQ:kK aZ:=by
 have h:(aZ.cps.toList.all λc=>decide (c<128))=true:=by decide +kernel
 intro c hc;exact qH (zi.mp h c hc)
theorem OO:aZ.length<=sizeLine:=by
 have:aZ.length=36:=by decide +kernel
 rw[this];decide
structure Uj(x:qc):Prop where
 lo:1<=x.length
 hi:x.length<=20
 gz:∀c∈x.cps.toList,c∈aZ.cps.toList
theorem Uj.asc{x:qc}(h:Uj x):kK x:=λc hc=>OQ c (h.gz c hc)
theorem HC(ys:qg):(Txt.join "" ys).cps.toList=(ys.map (·.cps.toList)).flatten:=by
 have key:∀(r:qg)(acc:Array Nat),(r.foldl (λacc p=>acc++("":qc).cps++p.cps) acc).toList=acc.toList++(r.map (·.cps.toList)).flatten:=by
  intro r
  induction r with
  |nil=>intro acc;simp
  |cons y r a=>
   intro acc;rw[ya,a,zf,List.flatten_cons];have e:("":qc).cps=#[]:=by decide +kernel
   rw[e];simp
 cases ys with
 |nil=>rfl
 |cons y r=>exact(key r y.cps).trans (by rw[zf,List.flatten_cons])
theorem Vy(x:qc):x.length=x.cps.toList.length:=by simp[Str.length]
theorem Lb{ys:qg}(h:∀y∈ys,y.length=1):(Txt.join "" ys).length=ys.length:=by
 rw[Vy,HC,List.length_flatten,zg];exact KS _ _ λy a=>by
  have:=h y a;rw[Vy] at this;exact this
theorem Yr(x y:qc):(x++y).cps.toList=x.cps.toList++y.cps.toList:=by show(x.cps++y.cps).toList=_;simp
theorem A3:("":qc).length=0:=by decide +kernel
theorem NV{ys:qg}(h:∀y∈ys,y.length=1)(a:ys.length<=100000):(ys.map (·.length)).sum+ys.length*("":qc).length<=16777216:=by
 rw[KS _ _ h,A3];omega
theorem WC{z:qc}{i:Int}(h0:0<=i)(d:i<(z.cps.toList.length:Int)):∃c,xx z.cps.toList i=some c/\c∈z.cps.toList:=by
 obtain⟨c,a,b,_⟩:=Xv h0 d;exact⟨c,a,b⟩
theorem cm:1000002<=sizeLine:=by decide
theorem IV{X:Cx}:wO X "str.split" Pf:=by
 intro pins s σ H x xs v us Q I d e h;obtain⟨y,rfl,rfl,hz,q⟩:=h;obtain⟨t,rfl⟩:=d;cases e;have i:=cm;have j:=(StrLaws.sw_weight y).1;have k:=StrLaws.len_le_wsum (Builtin.Str.spaceWords y (y.length+1));have c:(Builtin.Str.spaceWords y (y.length+1)).length<=sizeLine:=by omega
 have f:(Builtin.Str.spaceWords y (y.length+1)).length<=y.length+1:=by omega
 refine vY vM (kO _ _ _) vp (F.args_str_split_1 _) (meets_str_split_space y t ⋯ c) ?_;cases hw:Builtin.Str.spaceWords y (y.length+1)==[(0,y.length)]
 .simp only[zl,jx];rw[strsFrom_eq];have a:(numbered s.toks (wordsOf y)).map (·.1)=Txt.words y:=(numbered_texts _ _).trans (qJ (xw hw)).symm;have g:(Txt.words y).length<=sizeLine:=by
   rw[<-a,numbered_texts];show(List.map _ _).length<=_;rw[ql];exact c
  have b:=Ul (numbered s.toks (wordsOf y));rw[a] at b;exact⟨.ref s.heap.objs.size,_,I.wa b (by rw[ql];exact g),U,q _ I.fresh⟩
 .simp only[yM];have a:([(y,t)]:qa (qc×Tok)).map (·.1)=Txt.words y:=(qP hw).symm;have b:=Ul [(y,t)];rw[a] at b;exact⟨.ref s.heap.objs.size,_,I.wa (t':=s.toks) b (by rw[ql,<-a];show 1<=sizeLine;decide),U,q _ I.fresh⟩
abbrev rS:qc:="abcdefghijklmnopqrstuvwxyzABCDEFGHIJKLMNOPQRSTUVWXYZ0123456789"
def SA(c:Nat):Bool:=decide (c∈rS.cps.toList)
def gS(c:Nat):Nat:=if SA c=true then lo1 c else 32
theorem CF:(rS.cps.toList.all λc=>!Unicode.isSpace (lo1 c))=true:=by decide +kernel
theorem DK:Unicode.isSpace 32=true:=by decide +kernel
def wK(st:qg×qc)(c:Nat):qg×qc:=if SA c=true then (st.1,st.2++⟨#[lo1 c]⟩) else (st.1++[st.2],Str.empty)
def ug(l:qa Nat):qg×qc:=l.foldl wK ([],Str.empty)
def GN(w:qc):Bool:=!(w==Str.empty)
def yD(x:qc):qg:=((ug x.cps.toList).1++[(ug x.cps.toList).2]).filter GN
theorem WJ(w:qc):(w.length=0)↔w=Str.empty:=⟨KWd.len0,λh=>by rw[h];rfl⟩
theorem CC:∀(l:qa Nat)(st q:qg×qc),q.2=st.2->q.1=st.1.filter GN->((l.map gS).foldl KWd.step q).2=(l.foldl wK st).2/\((l.map gS).foldl KWd.step q).1=(l.foldl wK st).1.filter GN
 |[],st,q,a,b=>⟨a,b⟩
 |c::l,st,q,a,b=>by
  rw[zf,ya,ya];refine CC l _ _ ?_ ?_
  all_goals
   unfold KWd.step wK gS;cases d:SA c
   .simp only[zl,jx,DK,yM];by_cases he:q.2.length=0
    .rw[qP he];have e:=(WJ _).mp he
     first
     |exact e
     |(rw[b,zz,<-a,e];simp[GN])
    .have e:GN q.2=true:=by
      unfold GN;rw[z0,jm];exact λz=>he ((WJ _).mpr z)
     first
     |(rw[qJ he];done)
     |(rw[qJ he,b,zz,<-a];simp[e])
   .have f:Unicode.isSpace (lo1 c)=false:=by
     have:=zi.mp CF c (qH d);simpa using this
    simp only[yM,f,zl,jx]
    first
    |exact b
    |rw[a]
theorem Ia{x y:qc}(h:y.cps.toList=x.cps.toList.map gS):Txt.words y=yD x:=by
 rw[KWd.words_scan];have q:=CC x.cps.toList ([],Str.empty) ([],Str.empty) rfl rfl;unfold KWd.fin KWd.scan yD ug;rw[h,zz,q.1,q.2];by_cases he:(List.foldl wK ([],Str.empty) x.cps.toList).2.length=0
 .rw[qP he];have e:=(WJ _).mp he;rw[e];simp[GN]
 .rw[qJ he];have e:GN (List.foldl wK ([],Str.empty) x.cps.toList).2=true:=by
   unfold GN;rw[z0,jm];exact λz=>he ((WJ _).mpr z)
  rw[zk,e];simp
theorem bB{X:Cx}{a b:Expr}{c tb:TE}{pos:Pos}{op:Operator}{r:R2}(d:y9 X (binaryOp op) r)(e:PE X a c)(f:QE X b tb):QE X (.BinOp a op b pos) (tOp r c tb):=⟨Qn d e f.h⟩
theorem SH{X:Cx}{st:qa Stmt}{t:TS}(h:yU X st t):QSs X st t:=⟨h⟩
theorem Rw{α β:Type}(f:α->β)(xs:qa α)(i:Int):xx (xs.map f) i=(xx xs i).map f:=by
 unfold xx;rw[ql]
 cases gL xs.length i with
 |none=>rfl
 |some j=>simp
abbrev uD:qc:="abcde1"
theorem ON:uD.cps.toList.length=6:=by decide +kernel
theorem OM:uD.length<=sizeLine:=by decide +kernel
def U6:qg:=["and","or","not","then","if","thread","to","any","day","stop","place","answers","before","after","word","title","from","in","marked","mark","unmark"]
theorem Hs:U6.length=21:=rfl
def YJ(b i:Int)(j:Nat):Nat:=if (j:Int)=b / 4%6 then (xx uD.cps.toList i).getD 0 else (xx aZ.cps.toList ((b / 500+7*(j:Int))%36)).getD 0
def V3(b i:Int):qc:=if b%4=1 then (xx U6 ((b / 4+5*i)%21)).getD "" else ⟨((List.range (b / 4%6+1+b / 24%(20-b / 4%6)).toNat).map (YJ b i)).toArray⟩
theorem SR:(U6.all λw=>decide (1<=w.length)&&decide (w.length<=20)&&w.cps.toList.all λc=>decide (c∈aZ.cps.toList))=true:=by decide +kernel
theorem cy:(uD.cps.toList.all λc=>decide (c∈aZ.cps.toList))=true:=by decide +kernel
theorem Ib{b i:Int}(d:0<=i)(e:i<6):Uj (V3 b i):=by
 unfold V3;split
 .obtain⟨v,f,a,_⟩:=Xv (xs:=U6) (i:=(b / 4+5*i)%21) (zP _ ∅) (by rw[Hs];exact zE _ ∅);rw[f];have q:=zi.mp SR v a;rw[qG,qG] at q;exact⟨qH q.1.1,qH q.1.2,λc hc=>qH (zi.mp q.2 c hc)⟩
 .have h:0<=b / 4%6:=zP _ ∅;have k:b / 4%6<6:=zE _ ∅;have l:0<=b / 24%(20-b / 4%6):=zP _ ⋯;have m:b / 24%(20-b / 4%6)<20-b / 4%6:=zE _ ⋯;have g:(⟨((List.range (b / 4%6+1+b / 24%(20-b / 4%6)).toNat).map (YJ b i)).toArray⟩:qc).length=(b / 4%6+1+b / 24%(20-b / 4%6)).toNat:=by
   rw[Vy,v5,ql,zS]
  refine⟨by rw[g];omega,by rw[g];omega,λc hc=>?_⟩;have f:c∈(List.range (b / 4%6+1+b / 24%(20-b / 4%6)).toNat).map (YJ b i):=hc;obtain⟨j,_,rfl⟩:=qw.mp f;unfold YJ;split
  .obtain⟨c,hc,a⟩:=WC (z:=uD) (i:=i) d (by rw[ON];exact e);rw[hc];exact qH (zi.mp cy c a)
  .obtain⟨c,hc,a⟩:=WC (z:=aZ) (i:=(b / 500+7*(j:Int))%36) (zP _ ∅) (by rw[OP];exact zE _ ∅);rw[hc];exact a
structure BU(K:Frag)(x qual:qc)(st:Stmt)(f:qd)(fd:FuncData):Prop where
 ex:∃(oc:qe)(od:Option qd)(dV kV doc pm:qe)(an:Option qd)(cdv ct:qe)(osl:Array (Option qe)),
  fd=fnOf x qual (Yi st) (QO st) (Qr st) dV kV doc pm an cdv ct/\K.lookup f=some ⟨oc,od,.func fd,osl⟩/\codeIn K cdv qual=true
 kp:keepIn K (.ref f)=true
theorem BU.ok{P:Program}{w:World}{K:Frag}{mg:qc->Option qe}{base:Heap}{x qual:qc}{st:Stmt}{f:qd}{fd:FuncData}{N ps:qg}{k:Nat}{sp:Sp}(F:BU K x qual st f fd)(S:UL N ps (Qr st))
 (b:∀(a:qe)(A:Around)(outer:qa Env)(s:Shared)(H:Hp)(vs:qa V)(Q:VK)(E:XK),Yf k (A.deeper (envOfC qual (Qr st) s.heap.objs.size f a))->sp vs H Q E ->
   ∃t,yU (Uw jg P w K mg base N qual (Qr st) f a A outer s H E).uk (QO st) t/\t {nx:=λ_ H'=>Q .non H',rt:=Q} (start N vs) H) (len:∀vs H Q E,sp vs H Q E->vs.length=ps.length:=by intro _ _ _ _ h;cases h;subst_vars;rfl):U1 P w K mg base jg (k+1) f fd ps sp:=by
 obtain⟨i,j,l,kV,doc,pm,an,a,ct,e,rfl,lk,c⟩:=F.ex;refine Oj lk c S len λA outer s H vs Q E g d=>?_;obtain⟨t,h,q⟩:=b a A outer s H vs Q E g d;exact⟨t,h.uk,q⟩
theorem Rf{K:Frag}{x qual:qc}{st:Stmt}{f:qd}{e d:qe}{g an:Option qd}{b:Array (Option qe)}{kV doc pm a ct:qe}(l:K.lookup f=some ⟨e,g,.func (fnOf x qual (Yi st) (QO st) (Qr st) d kV doc pm an a ct),b⟩)
 (c:codeIn K a qual=true) (k:keepIn K (.ref f)=true):BU K x qual st f (fnOf x qual (Yi st) (QO st) (Qr st) d kV doc pm an a ct):=⟨⟨e,g,d,kV,doc,pm,an,a,ct,b,U,l,c⟩,k⟩
theorem Hx{K:Frag}{H:Hp}{x y:V}{d:PyData}{Q:VK}(a:RD K H x d)(b:RD K H y d)(h:SeqAt.shaped d=true)(q:Q (.bl false) H):bj K x y H Q:=
 ⟨d,d,a,b,h,h,by rw[SeqAt.eqv_refl d (SeqAt.canLay_of_shaped h)];exact q⟩
theorem VJ{x y:qc}(h:x.cps.toList=y.cps.toList):x=y:=by
 cases x;cases y;have:=Array.toList_inj.mp h;simp only at this;rw[this]
variable {X:Cx}
theorem SJ{body:qa Stmt}{h₀:ExceptHandler}{c:qa ExceptHandler}{pos:Pos}{t:TS}(d:∀e s,X.xe e s->False)(h:yU X body t):PS X (.Try body (h₀::c) [] [] pos) t:=by
 intro pins s σ H D I q;refine wpAny_Try_except (zy (h pins s σ H D I q) (λf b a=>?_) λe b a=>(d e b a).elim)
 cases f with
 |next=>rw[arm_execs_nil];exact qq a
 |_=>exact a
inductive AE(x:V)(xs:qa V)(H:Hp)(Q:VK):Prop
 |mk:∀(z y:qc),x=.str z->xs=[.str y]->(y.length==0)=false->z.length<=1000000->(∀l,H l=none->Q (.ref l) (upd H l (.lst ((Txt.split z y).map V.str))))->AE x xs H Q
def Pe:V->qa V->Hp->VK->Prop:=λx xs H Q=>AE x xs H Q
theorem MY(x y:qc):(Builtin.Str.partsBetween x (Builtin.Str.occurrences x y 0 x.length (x.length+1)) y.length).length<=x.length+2:=by
 rw[StrLaws.partsBetween_eq];have h:=StrLaws.occ_length_le_len x y 0 x.length (x.length+1);have e:∀(b:qa Nat)(w a:Nat),(StrLaws.partsFrom x w a b).length<=b.length+1:=by
  intro b
  induction b with
  |nil=>intro w a;simp[StrLaws.partsFrom]
  |cons c r d=>
   intro w a;have:=d w (c+w);simp only[StrLaws.partsFrom,zc];omega
 have:=e (Builtin.Str.occurrences x y 0 x.length (x.length+1)) y.length 0;omega
theorem IU :wO X "str.split" Pe:=by
 intro pins s σ H x xs v us Q I c d h;obtain⟨x,y,rfl,rfl,b,hz,q⟩:=h;obtain⟨t,rfl⟩:=c;obtain⟨u,rfl,f⟩:=Um d;obtain⟨t',rfl⟩:=f;have i:=cm;have j:=MY x y;have g:=split_le x y;have fin:∀(l:qa (qc×Tok))(k:Nat),l.map (·.1)=Txt.split x y->EP X pins σ Q (.ref s.heap.objs.size) {s with toks:=k,heap:=s.heap.push {cls:=.type "list",data:=.seq (strValues l).toArray}}:=λl k e=>by
  have a:=Ul l;rw[e] at a;exact⟨.ref s.heap.objs.size,_,I.wa (t':=k) a (by rw[ql];omega),U,q _ I.fresh⟩
 cases a:(decide (x.length<y.length)||decide (Builtin.Str.strKind x<Builtin.Str.strKind y))
 .cases hf:(Builtin.Str.occurrences x y 0 x.length (x.length+1)).isEmpty
  .refine vY vM (kO _ _ _) vp (F.args_str_split_2 _ _) (meets_str_split_sep x y t t' a b hf ⋯ ⋯) ?_;show wants _ _ _ {s with toks:=_,heap:=s.heap.push {cls:=.type "list",data:=.seq (strsFrom s.toks (Builtin.Str.partsBetween x (Builtin.Str.occurrences x y 0 x.length (x.length+1)) y.length)).toArray}};rw[strsFrom_eq];exact fin (numbered s.toks _) _ ((numbered_texts _ _).trans ((qJ (xw a)).trans (qJ (xw hf))).symm)
  .exact vY vM (kO _ _ _) vp (F.args_str_split_2 _ _) (meets_str_split_not_found x y t t' a b hf) (fin [(x,t)] _ ((qJ (xw a)).trans (qP hf)).symm)
 .exact vY vM (kO _ _ _) vp (F.args_str_split_2 _ _) (meets_str_split_cannot_occur x y t t' a) (fin [(x,t)] _ (qP a).symm)
theorem Af :Y7 X (.type "int") (λxs H Q=>∃(x:qc)(n:Int),xs=[.str x]/\x.length<=640/\PySem.intText? x=some n/\Q (.int n) H):=by
 intro pins s σ H xs us Q I r h;obtain⟨x,n,rfl,a,b,q⟩:=h;obtain⟨u,rfl,t,rfl⟩:=Um r;exact PySem.W.KIN.call_text b a ⟨.int n,H,I.tok _,⟨_,U⟩,q⟩
theorem OB{c:Nat}:∀{p q X Y:qa Nat},¬c∈p->¬c∈q->p++c::X=q++c::Y->p=q/\X=Y
 |[],[],_,_,_,_,h=>⟨U,(jv h).2⟩
 |[],b::q,_,_,_,d,h=>absurd (by rw[(jv h).1];exact qB) d
 |a::p,[],_,_,e,_,h=>absurd (by rw[<-(jv h).1];exact qB) e
 |a::p,b::q,X,Y,e,d,h=>by
  obtain⟨f,g⟩:=jv h;obtain⟨i,j⟩:=OB (λz=>e (qK _ z)) (λz=>d (qK _ z)) g;exact⟨by rw[f,i],j⟩
abbrev Ae:qc:="0123456789"
def wL(a b:qc):Bool:=!ltCps b.cps.toList a.cps.toList
def Lg(x:qc):qg->qg
 |[]=>[x]
 |y::r=>if wL x y=true then x::y::r else y::Lg x r
def Q3:qg->qg
 |[]=>[]
 |x::r=>Lg x (Q3 r)
theorem KA(a b:qc):wL a b=true↔¬b.cps.toList<a.cps.toList:=by
 unfold wL;rw[ltCps_eq];simp
theorem I7(a b:qc):wL a b=true\/wL b a=true:=by
 rw[KA,KA];by_cases h:b.cps.toList<a.cps.toList
 .exact .inr (List.lt_asymm h)
 .exact .inl h
theorem AU{a b c:qc}(d:wL a b=true)(e:wL b c=true):wL a c=true:=by
 rw[KA] at *
 intro h;rcases strKind.negTrans c.cps.toList b.cps.toList a.cps.toList (by simpa using h) with z|z
 .exact e (by simpa using z)
 .exact d (by simpa using z)
theorem BC{a b:qc}(c:wL a b=true)(d:wL b a=true):a=b:=by
 rw[KA] at *
 exact VJ (List.le_antisymm (List.not_lt.mp c) (List.not_lt.mp d))
abbrev g4(l:qg):Prop:=l.Pairwise λa b=>wL a b=true
theorem Ge:∀(p:qc)(l:qg),risingS p l=true->g4 (p::l)
 |p,[],_=>yI _ _
 |p,x::r,h=>by
  have h:(wL p x&&risingS x r)=true:=h;rw[qG] at h;have b:=Ge x r h.2;refine ji.mpr ⟨λy a=>?_,b⟩;rcases qC.mp a with rfl|a
  .exact h.1
  .exact AU h.1 ((ji.mp b).1 y a)
theorem D4:∀{l:qg},sortedS l=true->g4 l
 |[],_=>List.Pairwise.nil
 |x::r,h=>Ge x r h
theorem GI(x:qc):∀l:qg,(Lg x l).Perm (x::l)
 |[]=>.refl _
 |y::r=>by
  unfold Lg;split
  .exact .refl _
  .exact((GI x r).cons y).trans (.swap x y r)
theorem UD:∀l:qg,(Q3 l).Perm l
 |[]=>.refl _
 |x::r=>(GI x (Q3 r)).trans ((UD r).cons x)
theorem HD(x:qc):∀{l:qg},g4 l->g4 (Lg x l)
 |[],_=>yI _ _
 |y::r,h=>by
  unfold Lg;obtain⟨b,c⟩:=ji.mp h;split
  .rename_i a
   refine ji.mpr ⟨λz hz=>?_,h⟩;rcases qC.mp hz with rfl|hz
   .exact a
   .exact AU a (b z hz)
  .rename_i a
   refine ji.mpr ⟨λz hz=>?_,HD x c⟩;rcases qC.mp ((GI x r).mem_iff.mp hz) with rfl|hz
   .exact(I7 y z).resolve_right a
   .exact b z hz
theorem XC:∀l:qg,g4 (Q3 l)
 |[]=>.nil
 |x::r=>HD x (XC r)
theorem K5:∀{a b:qg},a.Perm b->g4 a->g4 b->a=b
 |[],b,p,_,_=>(List.nil_perm.mp p).symm
 |x::r,[],p,_,_=>absurd p.symm.nil_eq (by simp)
 |x::r,y::t,p,f,g=>by
  have e:x=y:=by
   have c:x∈y::t:=p.mem_iff.mp qB;have d:y∈x::r:=p.mem_iff.mpr qB;rcases qC.mp c with e|c
   .exact e
   .rcases qC.mp d with e|d
    .exact e.symm
    .exact BC ((ji.mp f).1 y d) ((ji.mp g).1 x c)
  subst e;rw[K5 (List.perm_cons _ |>.mp p) (ji.mp f).2 (ji.mp g).2]
theorem Xe{a b:qg}(p:a.Perm b)(h:g4 a):a=Q3 b:=K5 (p.trans (UD b).symm) h (XC b)
theorem V8{a b:qg}(p:a.Perm b):Q3 a=Q3 b:=Xe ((UD a).trans p) (XC a)
theorem UE(l:qg):(Q3 l).length=l.length:=(UD l).length_eq
theorem XE{l:qg}{x:qc}:x∈Q3 l↔x∈l:=(UD l).mem_iff
theorem UU:∀{us:qi}{ss:qg},StrsAre us ss->QB (ss.map V.str) us
 |_,_,.nil=>.nil
 |_,_,.cons x t h=>.cons ⟨t,U⟩ (UU h)
theorem Ko{X:Cx}:Y7 X (.builtin "sorted") (λxs H Q=>∃p ss,xs=[.ref p]/\zN X.K H p (ss.map V.str)/\ss.length<64/\∀l,H l=none->Q (.ref l) (upd H l (.lst ((Q3 ss).map V.str)))):=by
 intro pins s σ H xs us Q I r h;obtain⟨p,ss,rfl,hS,j,q⟩:=h;obtain⟨u,rfl,f⟩:=Um r;cases f;obtain⟨its,d,pl,_⟩:=I.list hS;have a:=UC d;have hlen:its.length=ss.length:=by have:=d.length;rw[ql] at this;exact this.symm
 refine sorted_strs pl.isList a ⋯ λout c a1 a2 g=>?_;obtain⟨e,he⟩:=sortedAll_at s.heap its out;have es:c=Q3 ss:=Xe a2 (D4 g);subst es;have hsz:s.heap.objs.size<=s.heap.objs.size+1:=jE _;refine⟨.ref (s.heap.objs.size+1),_,I.laid (t':=s.toks) (λb u i=>sortedAll_old i) hsz (show QP X.prog X.w _ _ _ (.lst ((Q3 ss).map V.str)) from⟨?_,out.toList,e,UU a1,?_⟩),U,q _ (I.hok.fresh hsz)⟩
 .rw[ql,UE];exact Yd (⋯)
 .rw[jQ];exact he
theorem Km{prog:Program}{w:World}{A:Around}{E:qh}{s:Shared}{T:String}{r d:qd}{n:Nat}{P:Nat->qe->Prop}{j:Heap->Prop}{R:qi->Shared->Prop}
 (src:KdlSrc prog w T r d n P j) (calm:A.handled=none) (ok:j s.heap) (i:n<=sizeLine)
 (fin:∀(g:Heap)(k:Nat)(got:Array qe),(∀b o,s.heap.get? b=some o->g.get? b=some o)->s.heap.objs.size<g.objs.size->ItemsOf P got n->R got.toList {s with heap:=g,toks:=k}) :
 wpAny (model prog w) A (collect (.ref r)) R E s:=by
 obtain⟨l,ld⟩:=src.there _ ok
 let new:Obj:={cls:=.type "list",data:=.seq ([]:qi).toArray}
 have there:(s.heap.push new).get? s.heap.objs.size=some new:=qI _ rfl;have a:=src.keep _ _ ok (λb _ o e=>qr (h:=s.heap) new e);have walked:=PySem.W.kdl_extend (A:=A) (s:={s with heap:=s.heap.push new})
  (R:=λq t=>∃(g:Heap)(k:Nat)(got:Array qe)(c:Nat),q=Except.ok (Flow.ret (.ref s.heap.objs.size))/\t={s with heap:=g,toks:=k}/\(∀b o,s.heap.get? b=some o->g.get? b=some o) /\
    g.get? s.heap.objs.size=some {cls:=.type "list",dict:=none,data:=.seq got c,slots:=#[]}/\ItemsOf P got n)
  src calm a s.heap.objs.size (jZ l) (jZ ld) (.ref s.heap.objs.size) 0 there
  (λg k got c keep at' all=>⟨g,k,got,c,U,U,λb o e=>keep b o (qR (qM e)) (qr _ e),at',all⟩) i
 have done:∀(g:Heap)(k:Nat)(got:Array qe)(c:Nat),(∀b o,s.heap.get? b=some o->g.get? b=some o)->g.get? s.heap.objs.size=some {cls:=.type "list",dict:=none,data:=.seq got c,slots:=#[]}->ItemsOf P got n ->
  wpAny (model prog w) A (do match (<-load s.heap.objs.size).data with
   |.seq xs _=>pure xs.toList
   |_=>unsupported "internal:collect") R E {s with heap:=g,toks:=k}:=λg k got c keep at' all=>
  qk (wpAny_load at' (qq (fin g k got keep (qM at') all)))
 unfold collect;apply qk;apply wY;apply jd entry_proto_collect';rw[zW F.plain_proto_collect _];show wpAny _ A.in1 (newList []>>=λz=>again (.builtin "list.__iadd__" ⟨[z,.ref r],[]⟩)) _ _ s;apply qk;refine zr ?_;apply qq;refine⟨jN vq _,?_⟩;apply jd entry_list_iadd';rw[zW vq _];refine zy walked (λf t q=>?_) (λe t q=>?_)
 .cases f with
  |done f=>
   obtain⟨g,k,got,c,e,rfl,keep,at',all⟩:=q;cases e;exact done g k got c keep at' all
  |again m=>
   refine⟨q.1,js q.2 λz p y=>?_⟩;obtain⟨g,k,got,c,rfl,rfl,keep,at',all⟩:=y;exact done g k got c keep at' all
 .obtain⟨_,_,_,_,m,_⟩:=q;cases m
theorem UH{X:Cx}(hc:X.calm=true):Y7 X (.builtin "sorted") (λxs H Q=>∃p a ss,xs=[.ref p]/\H p=some (.dK a)/\a.map (λg=>kV g.1)=ss.map V.str/\ss.length<64/\∀l,H l=none->Q (.ref l) (upd H l (.lst ((Q3 ss).map V.str)))):=by
 intro pins s σ H xs us Q I r h;obtain⟨p,a,ss,rfl,N,B,hl,q⟩:=h;obtain⟨u,rfl,O⟩:=Um r;cases O;obtain⟨hz,C,vs,K,o,es,P,R,S,T,Y,Z,h6⟩:=GU I.hok N;have da:s.heap.DictAt (QZ X.prog X.w) p vs P:=⟨o,es,R,S,T,Y,Z,h6⟩;have hlen:a.length=vs.length:=KV.length K;have hh:X.A.in1.handled=none:=I.ok.hd hc;refine vh kind_sorted plain_sorted entry_sorted (args_sorted1 _) ?_;unfold Builtin.«sorted»;refine qk (m:=checkCount "sorted" 1 1 _) (qq ?_);refine qk (Km (A:=X.A.in1) (kdl_dict C) hh da (by rw[<-hlen];exact hz) λh' tk acc hk D c=>?_);have E:QB (a.map λg=>kV g.1) acc.toList:=by
  refine V4 (by rw[ql,hlen];exact c.1.symm.trans (by simp)) λj x u d n=>?_;rw[qQ] at d
  cases f:a[j]? with
  |none=>rw[f] at d;cases d
  |some g=>
   rw[f] at d;cases d;obtain⟨k,y,v,w⟩:=c.2 j u (by rw[<-zw];exact n);have F:g.1=k:=KV.at K f v;show QJ (kV g.1) u;rw[F];rcases Yb (show yJ k u=true from w) with⟨i,t,rfl,rfl⟩|⟨z,t,rfl,rfl⟩
   .exact⟨t,U⟩
   .exact⟨t,U⟩
 rw[B] at E;have d:=UC E;have F:acc.toList.length=ss.length:=by have:=E.length;rw[ql] at this;exact this.symm
 refine qk (xH ?_ (by rw[F];exact Yd (⋯)));have f:(h'.push (seqObj "list" acc.toList.toArray 0)).get? h'.objs.size=some (seqObj "list" acc.toList.toArray 0):=qI _ rfl;refine qk (zH (zA slot_list_sort ⟨_,f,U⟩ entry_list_sort (list_sort_treeK strKind_oneLt f d.keysOf (λL M rest e=>keyKind_strs (by rw[<-e];exact d)) ⋯ λn a1 a2=>⟨_,U,?_⟩) (args_list_sort _)));refine qq ⟨_,U,?_⟩;obtain⟨G,b1,b2,b3⟩:=sorted_out_str d a1 a2;obtain⟨e,he⟩:=sortedHeap_at (out:=(arrOf n).map (·.2)) f;have J:G=Q3 ss:=Xe b2 (D4 b3);subst J;have hsz:s.heap.objs.size<=h'.objs.size:=yl D;refine⟨.ref h'.objs.size,_,I.laid (t':=tk) (λb u hb=>?_) hsz (show QP X.prog X.w _ _ _ (.lst ((Q3 ss).map V.str)) from⟨?_,((arrOf n).map (·.2)).toList,e,UU b1,?_⟩),U,q _ (I.hok.fresh hsz)⟩
 .have v:=hk b u hb;have w:=qM v;rw[sortedHeap_old (qR w) (by rw[gP];exact zT w)];exact qr _ v
 .rw[ql,UE];exact Yd (⋯)
 .rw[jQ];exact he
theorem Wt{K:Frag}{a:qd}{α:Type}{xs:qa α}{fr:qa (Nat×qc)}{tt:TT}{n:TE}{σ:St}{H1:Hp}{Q:VK}(g:α->V)(pr:α->Bool)(f:α->V)(hz:xs.length<=sizeLine)(hS:zN K H1 a (xs.map g))
 (j:∀(x:α)(c:Hp)(Q':Bool->Hp->Prop),x∈xs->Qi H1 c->Q' (pr x) c->tt (some (g x)::yx σ fr) c Q')
 (k:∀(x:α)(c:Hp)(Q':VK),x∈xs->Qi H1 c->pr x=true->Q' (f x) c->n (some (g x)::yx σ fr) c Q')
 (s:∀D,H1 D=none->Q (.ref D) (upd H1 D (.lst ((xs.filter pr).map f)))) :
 YB (g7 K a) fr tt n σ H1 Q:=by
 unfold YB;intro D o;refine⟨λi m ys p=>m=xs.length-i/\i<=xs.length/\ys=((xs.take i).filter pr).map f/\p=upd H1 D (.lst ys),⟨xs.length,by simp,za _,by simp,U⟩,?_⟩;rintro i m ys p ⟨rfl,u,rfl,rfl⟩;refine⟨Qb,?_⟩;have s1:Qi H1 (upd H1 D (.lst (((xs.take i).filter pr).map f))):=Qi.zq o;have d:=s1.seq hS;by_cases b:i<xs.length
 .have h:(xs.map g)[i]?=some (g xs[i]):=by rw[qQ,qv b];rfl
  refine .inr ⟨⟨xs.map g,g xs[i],d,h⟩,?_⟩;rintro v c ⟨rfl,t⟩;have q:(xs.map g)[i]?=some v:=t _ d;rw[h] at q;cases q;have hm:xs[i]∈xs:=zu b;have r:xs.take (i+1)=xs.take i++[xs[i]]:=by rw[zR,qv b];rfl
  refine j xs[i] _ _ hm s1 ?_;cases l:pr xs[i]
  .refine QC ⟨xs.length-(i+1),⋯,U,b,?_,U⟩;rw[r,zz,zk,l];simp
  .refine QT (k xs[i] _ _ hm s1 l ⟨Qb,?_,xs.length-(i+1),⋯,U,b,?_,VG⟩)
   .have:=zh pr (xs.take i);rw[zY] at this;rw[ql];omega
   .rw[r,zz,zk,l];simp
 .have e:i=xs.length:=by omega
  subst e;have h:xs.take xs.length=xs:=ja (qz _);refine .inl ⟨⟨xs.map g,d,by rw[ql];exact qz _⟩,?_⟩;rw[h];exact s D o
structure G8(sc scope:Scope)(N:qg)(x y:qc)(fr:qa (Nat×qc)):Prop where
 kind:scope.kind=.function
 loc:scope.names.lookup x=some .local
 uw:scope.names.lookup y=some .local
 names:∀y∈scope.names,y.2=.local->scope.names.lookup y.1=some .local
 xj:∀y∈scope.names,y.2≠.cell
 free:∀y∈scope.names,y.2=.free->sc.names.lookup y.1=some .cell\/sc.names.lookup y.1=some .free
 frk:∀p∈fr,N[p.1]?=some p.2/\scope.names.lookup p.2=some .free
 nd:(x::y::fr.map (·.2)).Nodup
def X0(K:Frag)(J:It)(fr:qa (Nat×qc))(e:TE)(σ:St)(H1:Hp)(Q:VK):Prop:=∀D,H1 D=none ->
 ∃W:Nat->Nat->qa V->Hp->Prop,(∃m,W 0 m [] (upd H1 D (.lst [])))/\∀i m ys a,W i m ys a->a D=some (.lst ys) /\
  ((J.stop i a/\Q (.ref D) a)\/(J.go i a/\∀v b,J.yld i a v b->∃p v1 v2,v=.ref p/\jj K b p [v1,v2]/\e (some v1::some v2::yx σ fr) b λy c=>c D=some (.lst ys)/\ys.length<sizeLine/\∃d,d<m/\W (i+1) d (ys++[y]) (upd c D (.lst (ys++[y])))))
def LU(K:Frag)(a:TI)(fr:qa (Nat×qc))(b:TE):TE:=λσ H Q=>a σ H λJ H1=>X0 K J fr b σ H1 Q
theorem Lq{X:Cx}{x y:qc}{px py pt:Pos}{kt:Nat}{iter elt:Expr}{scope sc:Scope}{pos pos':Pos}{N:qg}{fr:qa (Nat×qc)}{wi:TI}{te:TE}
 {pins:qa (qd×Obj)} {s:Shared} {σ:St} {H:Hp} {Q:VK} {Q':qh} {use:Option (qe->Sem Unit)}
 (S:G8 sc scope N x y fr) (hsc:X.env.scope=sc) (hN:X.N=N) (hc:X.calm=true) (hi:PI X (.Tuple [.Name x px,.Name y py] kt pt) iter wi)
 (he:∀(C:qd)(s:Shared)(H:Hp)(t:qa qd),PE (Yo X scope C (x::y::fr.map (·.2)) s H t) elt te)
 (hs:∀z,foldedSetIterable iter X.env z=pure z) (I:Inv X pins σ H s) (h:LU X.K wi fr te σ H Q)
 (hfin:∀(D C:qd)(H':Hp)(s':Shared)(m:qc->Option qe),Inv X pins σ H' s'->s'.heap.Ns C m->EY X pins H' C->Q (.ref D) H'->compPost (model X.prog X.w) X.A X.xe use Q' (.ref D) C (.ok .next) s') :
 wpAny (model X.prog X.w) X.A (comprehension (.ListComp elt [⟨.Tuple [.Name x px,.Name y py] kt pt,iter,[],0⟩] scope pos) scope X.env pos' (newList []) false (eval iter X.env) use) Q' X.xe s:=by
 have wx:∀y,scope.names.lookup y=some .free->X.env.kindOf y=some .cell\/X.env.kindOf y=some .free:=λy O=>by
  show X.env.scope.names.lookup y=_\/X.env.scope.names.lookup y=_;rw[hsc];exact S.free (y,.free) (zK O) rfl
 have gj:∀y∈scope.names,y.2=.free->X.env.kindOf y.1=some .cell\/X.env.kindOf y.1=some .free:=λy O hf=>by
  show X.env.scope.names.lookup y.1=_\/X.env.scope.names.lookup y.1=_;rw[hsc];exact S.free y O hf
 have hkc:∀y∈scope.names,y.2=.free->∃c,X.env.cells.lookup y.1=some c:=λy O hf=>I.ok.has y.1 (gj y O hf);refine vx (use:=use) rfl hs (Vp hkc) S.kind S.names ?_;refine z5 (hi pins s σ H _ I h) λxv s1 h1=>z5 h1 λitv s2 h2=>?_;obtain⟨it,t,tn,J,H2,rfl,w,T,P,f2,q2⟩:=h2;refine zr (wV S.xj (by intro y O;simp at O) (λB f g=>?_) S.kind);dsimp only at f g⊢;have A:Inv X pins σ (upd H2 s2.heap.objs.size (.lst [])) {s2 with heap:=s2.heap.push {cls:=.type "list",data:=.seq ([]:qi).toArray}}:=
  w.wa (its:=[]) (t':=s2.toks) .nil (za _)
 unfold X0 at q2;obtain⟨W,⟨m0,w0⟩,turn⟩:=q2 s2.heap.objs.size (w.hok.fresh (qz _));generalize hG:s2.heap.push {cls:=.type "list",dict:=none,data:=.seq ([]:qi).toArray}=G at f g A⊢;generalize hD:s2.heap.objs.size=D at A turn w0⊢;generalize hH3:upd H2 D (.lst [])=R at A w0;have ur:∀b o,G.get? b=some o->b≠G.objs.size:=λb o e=>qR (qM e);have old:∀b o,G.get? b=some o->B.get? b=some o:=λb o e=>(g.2 b (ur b o e)).trans (qr _ e);have E:∀b o,s2.heap.get? b=some o->G.get? b=some o:=λb o e=>by rw[<-hG];exact qr _ e
 have gV:∀b∈t,b<G.objs.size:=λb a=>by
  obtain⟨o,e,_⟩:=T.obj _ _ P b a;exact qM (E b o e)
 have sub:∀{y:qc}{c:qd},(Ud X.env.cells scope.names []).lookup y=some c->X.env.cells.lookup y=some c:=λ{y c} e=>by
  rcases VT _ _ e with z|z
  .exact z
  .simp at z
 have j:∀b∈t,(b∈X.ex\/X.s₀.heap.objs.size<=b)/\b≠X.env.locals/\(∀x c,X.env.cells.lookup x=some c->c≠b)/\∀p∈X.pn++pins,p.1≠b:=λb a=>
  ⟨(f2 b a).2.2.2.1,(f2 b a).2.1,(f2 b a).2.2.2.2.1,(f2 b a).2.2.2.2.2⟩
 have hCL:G.objs.size≠X.env.locals:=jZ A.lt;have hC1:X.s₀.heap.objs.size<=G.objs.size:=A.sz;have hC2:∀x c,X.env.cells.lookup x=some c->c≠G.objs.size:=λx c e=>by
  obtain⟨v,o,M,_⟩:=A.cell x c e;exact ur c o M
 have hC3:∀p∈X.pn++pins,p.1≠G.objs.size:=λp Z=>ur p.1 p.2 (A.pin p Z).1;have gh:(Yo X scope G.objs.size (x::y::fr.map (·.2)) {s2 with heap:=G} R t).Ok:=by
  refine⟨w.ok.mod,S.kind,w.ok.glob,w.ok.blt,qz _,λy z c e1 e2=>w.ok.inj y z c (sub e1) (sub e2),λy O=>?_,λy c z=>Bool.noConfusion z,w.ok.hd,w.ok.frames,.inl rfl,λb a=>⟨qR (gV b a),λy c e=>(j b a).2.2.1 y c (sub e)⟩,
   λb o e=>A.bs b o e,zb w.ok.vF A.sz,λb o e a=>?_,λb a hf=>?_,A.stack,A.xQ⟩
  .have m:=VN S.xj O;exact Uc _ _ m (hkc _ m rfl)
  .rcases (j b a).1 with z|z
   .exact w.ok.va b o e z
   .exact absurd (qU (qM e) (zb w.ok.vF z)) (zQ _)
  .rcases qC.mp (w.kh b hf) with z|z
   .exact(j b a).2.1 z
   .exact(f2 b a).2.2.1 z
 have I4:∀tk:Nat,Inv (Yo X scope G.objs.size (x::y::fr.map (·.2)) {s2 with heap:=G} R t) [] (none::none::yx σ fr) R {s2 with heap:=B,toks:=tk}:=λtk=>by
  refine⟨gh,U,w.bare,Un.kept old,⟨_,f,λi y v e1 e2 _=>?_⟩,λy c e=>?_,A.hok.fresh (qz _),λy c e=>A.jR y c (sub e),λp Z=>absurd (show p∈([]:qa (qd×Obj)) from Z) (by simp),A.hok.kept old,?_⟩
  .cases i with
   |zero=>simp at e2
   |succ i=>cases i with
    |zero=>simp at e2
    |succ i=>
     have F:(fr.map (·.2))[i]?=some y:=e1;have K:(fr.map λp=>(σ[p.1]?).join)[i]?=some (some v):=e2;rw[qQ] at F K
     cases Z:fr[i]? with
     |none=>rw[Z] at F;cases F
     |some p=>
      rw[Z] at F K;have ey:p.2=y:=qW F;have ev:(σ[p.1]?).join=some v:=qW K;have ev':σ[p.1]?=some (some v):=by
       cases q:σ[p.1]? with
       |none=>rw[q] at ev;cases ev
       |some o=>rw[q] at ev;simp only[Option.join] at ev;exact zt some ev
      have hf:=S.frk p (zv Z);rw[ey] at hf;have L:=wx y hf.2;obtain⟨m,_,hl⟩:=w.loc;obtain⟨u,ru,l⟩:=hl p.1 y v (by rw[hN];exact hf.1) ev' (.inr L);refine⟨u,ru,.inr ⟨Y1 hf.2,?_⟩⟩;rcases l with⟨k,_⟩|⟨_,c,e,z⟩
      .rcases L with L|L
       .rw[L] at k;cases k
       .rw[L] at k;cases k
      .obtain⟨c',ec⟩:=Uc (cells:=X.env.cells) scope.names [] (zK hf.2) ⟨c,e⟩;have:=sub ec;rw[e] at this;cases this;obtain⟨o,M,hd⟩:=z;exact⟨c,ec,o,old c o (E c o M),hd⟩
  .obtain⟨v,o,M,hd⟩:=w.cell y c (sub e);exact⟨v,o,old c o (E c o M),hd⟩
  .show(none::none::yx σ fr).length=(x::y::fr.map (·.2)).length;simp[yx]
 have F:(Yo X scope G.objs.size (x::y::fr.map (·.2)) {s2 with heap:=G} R t).env.scope.names.lookup y=some .local:=jU S.uw;have K:(Yo X scope G.objs.size (x::y::fr.map (·.2)) {s2 with heap:=G} R t).env.scope.names.lookup x=some .local:=jU S.loc;generalize L:Yo X scope G.objs.size (x::y::fr.map (·.2)) {s2 with heap:=G} R t=Y at I4 K F;have eP:Y.prog=X.prog:=by rw[<-L];rfl
 have eW:Y.w=X.w:=by rw[<-L];rfl
 have eK:Y.K=X.K:=by rw[<-L];rfl
 have eA:Y.A=X.A:=by rw[<-L];rfl
 have eC:Y.calm=true:=by rw[<-L];exact hc
 have eE:Y.env=compEnvC scope (Ud X.env.cells scope.names []) G.objs.size X.env:=by rw[<-L];rfl
 have eN:Y.N=x::y::fr.map (·.2):=by rw[<-L];rfl
 have eX:Y.xe=λ_ _=>False:=by rw[<-L];rfl
 have eB:∀{σ':St}{H':Hp}{s':Shared}{M:qa (qd×Obj)},Inv Y M σ' H' s'->s'.os=s2.os/\Un (frs X.stack) t R H' G s'.heap:=λ{σ' H' s' M} J=>by
  subst L;exact⟨J.os,J.base⟩
 have hE:=he G.objs.size {s2 with heap:=G} R t;rw[L] at hE;have gn:∀{H':Hp},(∀b∈t,H' b=none)->∀b∈t,X5 Y [] H' b:=λ{H'} hn b a=>by
  subst L;refine⟨hn b a,qR (gV b a),gh.vb b a,.inl a,λy c e=>(gh.wM b a).2 y c e,λp Z=>absurd (show p∈([]:qa (qd×Obj)) from Z) (by simp)⟩
 have loop:∀s3:Shared,(∃tk,s3={s2 with heap:=B,toks:=tk}) ->
  codeAny (model X.prog X.w) X.A (.compLoop (.ListComp elt [⟨.Tuple [.Name x px,.Name y py] kt pt,iter,[],0⟩] scope pos) 0 (.ref it) (.ref D) Y.env)
   (compPost (model X.prog X.w) X.A X.xe use Q' (.ref D) G.objs.size) s3:=by
  rintro s3 ⟨tk,rfl⟩;refine LCp.codeAny_compLoop_pair (λn s'=>∃i ys o o' H',Inv Y [] (o::o'::yx σ fr) H' s'/\tn i s'.heap/\(∀b∈t,H' b=none)/\W i n ys H') ?_ m0
   ⟨0,[],none,none,R,I4 tk,T.keep _ _ _ P λb a o e=>old b o (E b o e),λb a=>?_,w0⟩
  .rintro n s' ⟨i,ys,o,o',H',J',st',fr',w'⟩;obtain⟨hD',hgo⟩:=turn i n ys H' w';rcases hgo with⟨stop,qn⟩|⟨go,step⟩
   .have Q1:=T.done Y eP eW eK eC i [] s' (o::o'::yx σ fr) H' (notedBy (model X.prog X.w) X.A Y.env λe s''=>compPost (model X.prog X.w) X.A X.xe use Q' (.ref D) G.objs.size (.error e) s'') J' (gn fr') st' stop;rw[eA] at Q1;refine z5 Q1 λr s4 ⟨hr,J4⟩=>?_;subst hr;obtain⟨m,hn,_⟩:=J4.loc;rw[eE] at hn;obtain⟨os4,u4⟩:=eB J4;have vT:H' G.objs.size=none:=by have:=J4.free;rw[eE] at this;exact this
    have gm:yK X.prog X.w H' s4.heap:=by have:=J4.hok;rw[eP,eW] at this;exact this
    exact hfin D G.objs.size H' s4 m (A.call' (ch:=t) (s':=s4) os4 u4 gm J4.bare j) hn ⟨vT,hCL,.inr hC1,hC2,hC3⟩ qn
   .have Q1:=T.item Y eP eW eK eC i [] s' (o::o'::yx σ fr) H' (notedBy (model X.prog X.w) X.A Y.env λe s''=>compPost (model X.prog X.w) X.A X.xe use Q' (.ref D) G.objs.size (.error e) s'') J' (gn fr') st' go;rw[eA] at Q1;refine z5 Q1 λr s4 ⟨u,hr,h4⟩=>?_;subst hr;refine z5 h4 λ_ s5 ⟨v,H5,J5,r5,y5,w5,fr5⟩=>?_;have J5':=J5.pinned (gn fr5) (T.obj _ _ w5);obtain⟨p5,v1,v2,ev5,hp5,w4⟩:=step v _ y5;have N5:Y.N.Nodup:=by rw[eN];exact S.nd
    have P1:PG Y (.Name x px) (Q8 0):=Yc (X:=Y) (i:=0) (x:=x) (pos:=px) N5 (by rw[eN];rfl) (.inl K) (.inr K);have P2:PG Y (.Name y py) (Q8 1):=Yc (X:=Y) (i:=1) (x:=y) (pos:=py) N5 (by rw[eN];rfl) (.inl F) (.inr F);have PT:PG Y (.Tuple [.Name x px,.Name y py] kt pt) (Tz Y.K 2 (A0 (Q8 0) (A0 (Q8 1) TB))):=Ee eC (U4 P1 (U4 P2 Bs));have G5:=PT ([]++Vm t s5.heap) s5 (o::o'::yx σ fr) H5 v u (λσ6 H6=>σ6=some v1::some v2::yx σ fr/\H6=H5) J5' r5 ⟨p5,[v1,v2],ev5,by rw[eK];exact hp5,U,v1,[v2],U,v2,[],U,U,U,U⟩;rw[eP,eW,eA,eX] at G5;refine zy G5 (λ_ s6 ⟨σ6,H6,J6,e6,e6'⟩=>?_) λ_ _ z=>z.elim;subst e6 e6';have again:∀{s7:Shared}{H7:Hp}{zs:qa V},Inv Y ([]++Vm t s5.heap) (some v1::some v2::yx σ fr) H7 s7->(∃m',m'<n/\W (i+1) m' zs H7)->∃m,m<n/\∃i ys o o' H',Inv Y [] (o::o'::yx σ fr) H' s7/\tn i s7.heap/\(∀b∈t,H' b=none)/\W i m ys H':=λ{s7 H7 zs} J7 ⟨m',hm,w7⟩=>by
     refine⟨m',hm,i+1,zs,some v1,some v2,H7,J7.yS,T.keep _ _ _ w5 λb a o e=>(J7.pin (b,o) (qy _ (qy _ (YO a e)))).1,λb a=>?_,w7⟩;obtain⟨o,e,d⟩:=T.obj _ _ w5 b a;exact(J7.pin (b,o) (qy _ (qy _ (YO a e)))).2.1
    have E7:=hE _ s6 _ _ _ J6 w4;rw[eP,eW,eA,eX] at E7;refine zy E7 (λu8 s8 ⟨y8,H8,J8,r8,hD8,hz8,w8⟩=>?_) λ_ _ z=>z.elim;have A8:=YL (X:=Y) _ s8 _ H8 (.ref D) [y8] (.ref D) [u8] (λz H9=>H9=upd H8 D (.lst (ys++[y8]))) J8 rfl (.cons r8 .nil) ⟨D,ys,y8,U,U,hD8,hz8,U⟩;rw[eP,eW,eA,eX] at A8;refine zy A8 (λ_ s9 ⟨z9,H9,J9,_,e9⟩=>?_) λ_ _ z=>z.elim;subst e9;exact again J9 w8
  .rw[<-hH3];have hbD:b≠D:=by
    rw[<-hD];obtain⟨o,e,_⟩:=T.obj _ _ P b a;exact qR (qM e)
   rw[Qa hbD];exact(f2 b a).1
 rw[eE] at loop;exact vZ (loop _ ⟨_,U⟩) (T.self _ 0 _ _ _ (T.keep _ _ _ P λb a o e=>old b o (E b o e)) (loop _ ⟨_,U⟩))
theorem MX{X:Cx}{x y:qc}{f py pt:Pos}{kt:Nat}{iter elt:Expr}{scope sc:Scope}{pos:Pos}{N:qg}{fr:qa (Nat×qc)}{g:TI}{i:TE}
 (S:G8 sc scope N x y fr) (c:X.env.scope=sc) (hN:X.N=N) (hc:X.calm=true) (j:PI X (.Tuple [.Name x f,.Name y py] kt pt) iter g)
 (he:∀(C:qd)(s:Shared)(H:Hp)(k:qa qd),PE (Yo X scope C (x::y::fr.map (·.2)) s H k) elt i)
 (l:∀z,foldedSetIterable iter X.env z=pure z:=by intro _;rfl) :
 PE X (.ListComp elt [⟨.Tuple [.Name x f,.Name y py] kt pt,iter,[],0⟩] scope pos) (LU X.K g fr i):=by
 intro pins s σ H Q I h;rw[eval_ListComp];refine Lq (use:=none) S c hN hc j he l I h λD C H' s' m J n a q=>?_;exact⟨m,n,λh' d=>⟨.ref D,H',J.turned (t':=s'.toks) (λb o p e=>(d.2 b p).trans e) a.hn a.hL a.h1 a.h2 a.h3,U,q⟩⟩
variable {a n:qc}{H:Hp}
abbrev Rows:=qa (qc×qc)
variable {rows:Rows}
def up(rows:Rows)(n:qc):Option qc:=(rows.find? λr=>decide (r.1=n)).map (·.2)
def QL(rows:Rows)(t:qc):qg:=(rows.filter λr=>decide (r.2=t)).map (·.1)
def QK(rows:Rows):qa (Key×V):=rows.map λr=>(Sum.inr r.1,V.str r.2)
def Qo(ns:qg):qa (Key×V):=ns.map λn=>(Sum.inr n,V.bl true)
def without(rows:Rows)(n:qc):Rows:=rows.filter λr=>decide (r.1≠n)
theorem Yp(n:qc):∀rows:Rows,Qy (QK rows) (Sum.inr n)=(up rows n).map V.str
 |[]=>rfl
 |r::rows=>by
  show Qy ((Sum.inr r.1,V.str r.2)::QK rows) (Sum.inr n)=_;by_cases h:r.1=n
  .rw[Yq (by rw[h])];simp[up,jo,h]
  .rw[Yj (λe=>h (jD e)),Yp n rows];simp[up,jo,h]
theorem Bk(h:up rows n=some a):(n,a)∈rows:=by
 unfold up at h
 cases e:rows.find? λr=>decide (r.1=n) with
 |none=>rw[e] at h;cases h
 |some r=>
  rw[e] at h;have b:=List.find?_some e;have c:=xW e;have d:r.1=n:=qH b;have f:r.2=a:=qW h;rw[<-d,<-f];exact c
theorem UI  :up rows n=none↔¬n∈rows.map (·.1):=by
 unfold up;rw[Option.map_eq_none_iff,yH];constructor
 .intro h z;obtain⟨r,a,e⟩:=qw.mp z;exact h r a (qx e)
 .intro h r a z;exact h (qw.mpr ⟨r,a,qH z⟩)
theorem VH(h:n∈rows.map (·.1)):∃a,up rows n=some a:=by
 cases e:up rows n with
 |none=>exact absurd h (UI.mp e)
 |some a=>exact⟨a,U⟩
theorem WN(n:qc):∀rows:Rows,YR (QK rows) (Sum.inr n)=QK (without rows n)
 |[]=>rfl
 |r::rows=>by
  show YR ((Sum.inr r.1,V.str r.2)::QK rows) (Sum.inr n)=_;by_cases h:r.1=n
  .rw[XW (by rw[h]),WN n rows];simp[without,zk,h]
  .rw[XX (λe=>h (jD e)),WN n rows];simp[without,zk,h,QK]
theorem U2(n:qc):∀ns:qg,YR (Qo ns) (Sum.inr n)=Qo (ns.filter λm=>decide (m≠n))
 |[]=>rfl
 |m::ns=>by
  show YR ((Sum.inr m,V.bl true)::Qo ns) (Sum.inr n)=_;by_cases h:m=n
  .rw[XW (by rw[h]),U2 n ns];simp[zk,h]
  .rw[XX (λe=>h (jD e)),U2 n ns];simp[zk,h,Qo]
theorem UM(n:qc):∀ns:qg,Qy (Qo ns) (Sum.inr n)=if n∈ns then some (V.bl true) else none
 |[]=>rfl
 |m::ns=>by
  show Qy ((Sum.inr m,V.bl true)::Qo ns) (Sum.inr n)=_;by_cases h:m=n
  .rw[Yq (by rw[h]),qP (by rw[h];exact qB)]
  .rw[Yj (λe=>h (jD e)),UM n ns];by_cases a:n∈ns
   .rw[qP a,qP (qK _ a)]
   .rw[qJ a,qJ (λz=>(qC.mp z).elim (λe=>h e.symm) a)]
theorem CP(h:up rows n=none):Ye (QK rows) (Sum.inr n) (.str a)=QK (rows++[(n,a)]):=by
 rw[Xg _ (by rw[Yp,h];rfl)];simp[QK]
theorem Wd{ns:qg}(h:¬n∈ns):Ye (Qo ns) (Sum.inr n) (.bl true)=Qo (ns++[n]):=by
 rw[Xg _ (by rw[UM,qJ h])];simp[Qo]
theorem XF(rows:Rows)(n a t:qc):QL (rows++[(n,a)]) t=QL rows t++if a=t then [n] else []:=by
 unfold QL;rw[zz,qE];by_cases h:a=t<;>simp[zk,h]
theorem Wa{t:qc}(h:n∈QL rows t):n∈rows.map (·.1):=by
 obtain⟨r,a,e⟩:=qw.mp h;exact qw.mpr ⟨r,(qX.mp a).1,e⟩
theorem UW(rows:Rows)(n t:qc):QL (without rows n) t=(QL rows t).filter λm=>decide (m≠n):=by
 unfold QL without;rw[jB,xK,xK];congr 1;refine kx λr _=>?_;show(decide (r.2=t)&&decide (r.1≠n))=(decide (r.1≠n)&&decide (r.2=t));rw[Bool.and_comm]
theorem Wb(rows:Rows)(t:qc):(QL rows t).length<=rows.length:=by
 unfold QL;rw[ql];exact zh _ _
theorem Ei{b:qc}(e:(rows.map (·.1)).Nodup)(d:(n,a)∈rows)(c:(n,b)∈rows):a=b:=by
 induction rows with
 |nil=>cases d
 |cons r rows h=>
  rw[zf,zV] at e;rcases qC.mp d with f|d
  .rcases qC.mp c with g|c
   .rw[<-g] at f;exact(vN f).2
   .exact absurd (qw.mpr ⟨_,c,by rw[<-f]⟩) e.1
  .rcases qC.mp c with g|c
   .exact absurd (qw.mpr ⟨_,d,by rw[<-g]⟩) e.1
   .exact h e.2 d c
theorem C6{t:qc}(b:(rows.map (·.1)).Nodup)(h:up rows n=some a)(c:t≠a):¬n∈QL rows t:=λz=>by
 obtain⟨r,d,e⟩:=qw.mp z;obtain⟨f,g⟩:=qX.mp d;have i:r.2=t:=qH g;have:(n,t)∈rows:=by rw[<-e,<-i];exact f
 exact c (Ei b this (Bk h))
theorem Xa{l:qg}(h:¬n∈l):(l.filter λm=>decide (m≠n))=l:=zZ.mpr λm hm=>qx λe=>h (e▸hm)
theorem HE(h:up rows n=some a):n∈QL rows a:=qw.mpr ⟨(n,a),qX.mpr ⟨Bk h,qx rfl⟩,U⟩
theorem VF(a:(rows.map (·.1)).Nodup):((without rows n).map (·.1)).Nodup:=by
 unfold without;exact wF (List.Sublist.map _ jn) a
theorem FZ(c:(rows.map (·.1)).Nodup)(h:up rows n=none):((rows++[(n,a)]).map (·.1)).Nodup:=by
 rw[qE];refine yh.mpr ⟨c,by simp,λx b y d e=>?_⟩;have:y=n:=by simpa using d
 rw[e,this] at b;exact UI.mp h b
theorem Ut:∀{ms l:qg},ms.Nodup->(∀m∈ms,m∈l)->ms.length<=l.length
 |[],_,_,_=>za _
 |m::ms,l,d,h=>by
  obtain⟨f,g⟩:=zV.mp d;have hm:=h m qB;have e:=List.length_erase_of_mem hm;have i:=List.length_pos_of_mem hm;have:=Ut (l:=l.erase m) g λx c=>(List.mem_erase_of_ne (a:=x) (b:=m) (λz=>f (by rw[<-z];exact c))).mpr (h x (qK _ c));rw[zc];omega
def wB(H H':Hp):Prop:=∀c o,H c=some o->(∀a,o≠.dK a)->H' c=some o
def Kp2(H H':Hp):Prop:=∀c o,H c=some o->(∀xs,o≠.lst xs)->H' c=some o
theorem Qi.uy{H':Hp}(s:Qi H H'):Kp2 H H':=λc o e _=>s c o e
theorem wB.trans{H1 d:Hp}(a:wB H H1)(b:wB H1 d):wB H d:=λc o e n=>b c o (a c o e n) n
theorem wB.upd{p:qd}{a b:qa (Key×V)}(h:H p=some (.dK a)):wB H (upd H p (.dK b)):=λc o e n=>by
 by_cases z:c=p
 .rw[z,h] at e;cases e;exact absurd rfl (n a)
 .rw[Qa z];exact e
section
variable {X:Cx}{pins:qa (qd×Obj)}{σ:St}{H:Hp}{s:Shared}{a:qd}{oa:Obj}{kvs:qa (Key×V)}
theorem Inv.freeze(I:Inv X pins σ H s)(e:H a=some (.dK kvs)):∃oa,Inv X pins σ (upd H a (.jO oa (.dK kvs))) s:=by
 obtain⟨z,y,vs,r,b,es,f,d,c⟩:=(show QP X.prog X.w H s.heap a (.dK kvs) from I.hok a _ e);exact⟨b,I.write (x:=a) (e:=a) (o:=.jO b (.dK kvs)) (t':=s.toks) (h':=s.heap) (by rw[e];exact True.intro) (.inl rfl) (λ_ _ _ q=>q) ⟨b,d⟩ ⟨d,z,y,vs,r,b,es,f,d,c⟩⟩
theorem Inv.gH(I:Inv X pins σ H s)(j:∀o u,X.H₀ a≠some (.jO o u))(e:H a=some (.jO oa (.dK kvs))):Inv X pins σ (upd H a (.dK kvs)) s:=by
 have d:∀b,H b=none->b≠a:=λb n z=>by rw[z,e] at n;cases n
 have ne1:∀b o,H b=some o->o≠.jO oa (.dK kvs)->b≠a:=λb o q n z=>by rw[z,e] at q;cases q;exact n rfl
 obtain⟨_,g⟩:=(show QP X.prog X.w H s.heap a (.jO oa (.dK kvs)) from I.hok a _ e);refine⟨I.ok,I.os,I.bare,⟨I.base.keep,I.base.slot,λb o q n k=>?_,I.base.there,λb xs q=>?_,λb o u q=>?_,λb ps q=>?_⟩,I.loc,I.cell,?_,λx c q=>?_,λp l=>?_,λb u q=>?_,I.len⟩
 .have:=I.base.free b o q n k;rw[Qa (d b this)];exact this
 .have:=I.base.tups b xs q;rw[Qa (ne1 b _ this (λz=>by cases z))];exact this
 .have f:b≠a:=λz=>j o u (by rw[<-z];exact q);rw[Qa f];exact I.base.xC b o u q
 .obtain⟨m,h⟩:=I.base.ke b ps q;exact⟨m,by rw[Qa (ne1 b _ h (λz=>by cases z))];exact h⟩
 .rw[Qa (d _ I.free)];exact I.free
 .rw[Qa (d _ (I.jR x c q))];exact I.jR x c q
 .obtain⟨r,i,t⟩:=I.pin p l;exact⟨r,by rw[Qa (d _ i)];exact i,t⟩
 .by_cases f:b=a
  .subst f;rw[Qb] at q;cases q;exact QP.stay (show QP X.prog X.w H s.heap b (.dK kvs) from g) (λ_ _ _ z=>z) (λc z=>by rw[Qa (ne1 c _ z (λy=>by cases y))];exact z) λc xs z=>by rw[Qa (ne1 c _ z (λy=>by cases y))];exact z
  .rw[Qa f] at q;exact(I.hok b u q).stay (λ_ _ _ z=>z) (λc z=>by rw[Qa (ne1 c _ z (λy=>by cases y))];exact z) λc xs z=>by rw[Qa (ne1 c _ z (λy=>by cases y))];exact z
end
variable {P:Program}{w:World}
def aA(a:qd)(c:Obj)(b:qa (Key×V))(D:VE):VE:={nx:=λσ H=>H a=some (.jO c (.dK b))/\D.nx σ (upd H a (.dK b)),rt:=λv H=>H a=some (.jO c (.dK b))/\D.rt v (upd H a (.dK b)),bk:=λσ H=>H a=some (.jO c (.dK b))/\D.bk σ (upd H a (.dK b)),ct:=λσ H=>H a=some (.jO c (.dK b))/\D.ct σ (upd H a (.dK b))}
inductive Fg(ts:TS)(D:VE)(σ:St)(H:Hp):Prop
 |mk:∀a kvs,H a=some (.dK kvs)->(∀oa,ts (aA a oa kvs D) σ (upd H a (.jO oa (.dK kvs))))->Fg ts D σ H
def aL(a:TS):TS:=λD σ H=>Fg a D σ H
theorem Hn{X:Cx}{st:Stmt}{j:TS}(k:PS X st j):PS X st (aL j):=by
 rintro pins s σ H D I ⟨a,l,e,h⟩;obtain⟨m,J⟩:=I.freeze e;have g:∀o u,X.H₀ a≠some (.jO o u):=λo u z=>by have:=I.base.xC a o u z;rw[e] at this;cases this
 refine z5 (k pins s σ _ _ J (h m)) λf s' q=>?_
 cases f with
 |next=>obtain⟨b,i,d,c⟩:=q;exact⟨b,_,d.gH g c.1,c.2⟩
 |cont=>obtain⟨b,i,d,c⟩:=q;exact⟨b,_,d.gH g c.1,c.2⟩
 |brk=>obtain⟨b,i,d,c⟩:=q;exact⟨b,_,d.gH g c.1,c.2⟩
 |ret v=>obtain⟨n,b,i,d,p,c⟩:=q;exact⟨n,b,_,d.gH g c.1,p,c.2⟩
def Itd(a:qd)(c:Obj)(b:qa (Key×V)):It:=⟨λi H=>H a=some (.jO c (.dK b))/\i<b.length,λi H x H'=>H'=H/\∃d,b[i]?=some d/\x=kV d.1,λi H=>H a=some (.jO c (.dK b))/\b.length<=i⟩
theorem Vj{H:Hp}{h:Heap}{a:qd}{c:Obj}{b:qa (Key×V)}(ok:yK P w H h)(e:H a=some (.jO c (.dK b))) :
 (a==sysModules)=false/\∃vs es d,KV b vs/\c.data=.dict es d/\h.DictAt (QZ P w) a vs d:=by
 obtain⟨f,z,y,vs,r,l,es,d,g,j,i,k⟩:=(show QP P w H h a (.jO c (.dK b)) from ok a _ e);rw[f] at g;cases g;exact⟨y,vs,es,d,r,i,c,es,f,j,i,k⟩
theorem Pb{k:Key}{u:qe}(e:(QZ P w).is k u=true):QJ (kV k) u:=by
 rcases Yb (show yJ k u=true from e) with⟨i,t,rfl,rfl⟩|⟨z,t,rfl,rfl⟩
 .exact⟨t,U⟩
 .exact⟨t,U⟩
theorem Am{K:Frag}{G:Expr}(a it:qd)(F:Obj)(f:qa (Key×V))(es:Array DictEntry)(p:Nat)(hd:F.data=.dict es p):EV P w K G (Itd a F f) [it] it (λi h=>h.IsKeyIter it a i f.length p) where
 mem:=by simp
 obj:=λi h st b j=>by
  have e:b=it:=by simpa using j
  subst e;obtain⟨o,e,c,d⟩:=st;exact⟨o,e,λv z=>by rw[d] at z;cases z⟩
 keep:=λi h h' st k=>by
  obtain⟨o,e,c⟩:=st;exact⟨o,k it (by simp) o e,c⟩
 item:=by
  intro X t hw u hc i pins s σ H E I hf st x;subst t hw u;obtain⟨y,n⟩:=x;obtain⟨_,vs,A,B,q,g,hm⟩:=Vj I.hok y;rw[hd] at g;cases g;have r:=KV.length q;have l:s.heap.IsKeyIter it a i vs.length p:=by rw[<-r];exact st
  obtain⟨f0,f1,f2,C,f4,D⟩:=hf it (by simp);refine wpAny_pyNext_dict_item (k:=(vs[i]'⋯).1) (v:=(vs[i]'⋯).2) l hm (qv ⋯) λkey h' J m L=>?_;have M:Inv X pins σ H {s with heap:=h'}:=I.turned (t':=s.toks) (λb o j e=>(L.2 b j).trans e) f0 f1 C f4 D;have N:f[i].1=(vs[i]'⋯).1:=KV.at q (qv n) (qv ⋯);rw[<-r] at m;obtain⟨o,e,c,d⟩:=id m;exact⟨key,U,Dx (s:={s with heap:=h'}) e c d ∅ ⟨kV f[i].1,H,M,by rw[N];exact Pb J,⟨U,f[i],qv n,U⟩,m,λb j=>(hf b j).1⟩⟩
 done:=by
  intro X t hw u hc i pins s σ H E I hf st x;subst t hw u;obtain⟨y,m⟩:=x;obtain⟨_,vs,A,B,q,g,hm⟩:=Vj I.hok y;rw[hd] at g;cases g;have r:=KV.length q;have l:s.heap.IsKeyIter it a i vs.length p:=by rw[<-r];exact st
  obtain⟨f0,f1,f2,C,f4,D⟩:=hf it (by simp);exact wpAny_pyNext_dict_end (I.ok.hd hc) l hm (yg ⋯) λh' n=>⟨U,I.turned (t':=s.toks) (λb o j e=>n b o j e) f0 f1 C f4 D⟩
 self:=λ_ _ _ _ _ st h=>wpAny_pyIter_keyiter st h
inductive HK(R:(It->Hp->Prop))(x:V)(H1:Hp):Prop
 |mk:∀a oa kvs,x=.ref a->H1 a=some (.jO oa (.dK kvs))->R (Itd a oa kvs) H1->HK R x H1
def bV(a:TE):TI:=λσ H R=>a σ H λx H1=>HK R x H1
theorem Pm{X:Cx}{j l:Expr}{i:TE}(d:PE X l i):PI X j l (bV i):=by
 intro pins s σ H R I h;refine z5 (d pins s σ H _ I h) λv s1 ⟨x,H1,c,k,m⟩=>?_;obtain⟨a,n,f,e,p,q⟩:=m;subst e;cases k;obtain⟨g,vs,es,r,t,hd,hm⟩:=Vj c.hok p;have d:=KV.length t;refine wpAny_pyIter_dict g hm ?_;refine⟨s1.heap.objs.size,[s1.heap.objs.size],_,_,H1,U,c.kept (t':=s1.toks) λb o e=>qr _ e,Am a _ n f es r hd,⟨_,qI _ rfl,U,by rw[d];rfl⟩,λb u=>?_,q⟩;have e:b=s1.heap.objs.size:=by simpa using u
 subst e;exact c.vC (qz _) (c.hok.fresh (qz _))
theorem Wu{a:qd}{r:Obj}{c:qa (Key×V)}{α:Type}{xs:qa α}{fr:qa (Nat×qc)}{tt:TT}{s:TE}{σ:St}{H1:Hp}{Q:VK}(g:α->V)(pr:α->Bool)(f:α->V)(hz:xs.length<=sizeLine)(hS:H1 a=some (.jO r (.dK c)))(t:c.map (λk=>kV k.1)=xs.map g)
 (l:∀(x:α)(d:Hp)(Q':Bool->Hp->Prop),x∈xs->Qi H1 d->Q' (pr x) d->tt (some (g x)::yx σ fr) d Q')
 (n:∀(x:α)(d:Hp)(Q':VK),x∈xs->Qi H1 d->pr x=true->Q' (f x) d->s (some (g x)::yx σ fr) d Q')
 (z:∀D,H1 D=none->Q (.ref D) (upd H1 D (.lst ((xs.filter pr).map f)))) :
 YB (Itd a r c) fr tt s σ H1 Q:=by
 have A:c.length=xs.length:=by have:=zt List.length t;simpa using this
 unfold YB;intro D u;refine⟨λi m ys w=>m=xs.length-i/\i<=xs.length/\ys=((xs.take i).filter pr).map f/\w=upd H1 D (.lst ys),⟨xs.length,by simp,za _,by simp,U⟩,?_⟩;rintro i m ys w ⟨rfl,B,rfl,rfl⟩;refine⟨Qb,?_⟩;have s1:Qi H1 (upd H1 D (.lst (((xs.take i).filter pr).map f))):=Qi.zq u;have h:=s1 _ _ hS;by_cases b:i<xs.length
 .have o:(xs.map g)[i]?=some (g xs[i]):=by rw[qQ,qv b];rfl
  refine .inr ⟨⟨h,⋯⟩,?_⟩;rintro v d ⟨rfl,k,p,rfl⟩;have j:(xs.map g)[i]?=some (kV k.1):=by rw[<-t,qQ,p];rfl
  rw[o] at j;have j:=qW j;rw[<-j];have hm:xs[i]∈xs:=zu b;have y:xs.take (i+1)=xs.take i++[xs[i]]:=by rw[zR,qv b];rfl
  refine l xs[i] _ _ hm s1 ?_;cases q:pr xs[i]
  .refine QC ⟨xs.length-(i+1),⋯,U,b,?_,U⟩;rw[y,zz,zk,q];simp
  .refine QT (n xs[i] _ _ hm s1 q ⟨Qb,?_,xs.length-(i+1),⋯,U,b,?_,VG⟩)
   .have:=zh pr (xs.take i);rw[zY] at this;rw[ql];omega
   .rw[y,zz,zk,q,qE];simp
 .have e:i=xs.length:=by omega
  subst e;refine .inl ⟨⟨h,⋯⟩,?_⟩;have:=z D u;rw[jH];exact this
variable {rows:Rows}{here m n:qc}{rc wt:qg}
def upL(rows:Rows)(n:qc):qg:=match up rows n with
 |some a=>if a="" then [] else [a]
 |none=>[]
def vB(rows:Rows)(n:qc):qg:=QL rows n++upL rows n
inductive wJ(rows:Rows)(n:qc):qc->Prop
 |refl:wJ rows n n
 |step {m k:qc}:wJ rows n m->k∈vB rows m->wJ rows n k
theorem Hz{k:qc}:k∈upL rows n↔up rows n=some k/\k≠"":=by
 unfold upL
 cases up rows n with
 |none=>simp
 |some a=>
  by_cases h:a=""
  .subst h;simp;intro e;exact e.symm
  .simp[h];constructor
   .rintro rfl;exact⟨U,h⟩
   .rintro⟨e,_⟩;exact e.symm
def NoE(rows:Rows):Prop:=∀n:qc,n∈rows.map (·.1)->n≠""
theorem Te(ne:NoE rows){k:qc}(h:k∈vB rows m):k≠"":=by
 rcases qF.mp h with h|h
 .exact ne k (Wa h)
 .exact(Hz.mp h).2
theorem wJ.ne(ne:NoE rows){k:qc}(a:n≠"")(h:wJ rows n k):k≠"":=by
 cases h with
 |refl=>exact a
 |step _ h=>exact Te ne h
open Classical in
noncomputable def Xc(rows:Rows)(n:qc):qg:=Q3 ((rows.map (·.1)).filter λm=>decide (wJ rows n m))
theorem PX  :m∈Xc rows n↔m∈rows.map (·.1)/\wJ rows n m:=by
 unfold Xc;rw[XE,qX];simp
theorem Sa(a:(rows.map (·.1)).Nodup){l:qg}(b:l.Nodup)(h:∀m,m∈l↔m∈rows.map (·.1)/\wJ rows n m):Q3 l=Xc rows n:=by
 unfold Xc;refine V8 ((List.perm_ext_iff_of_nodup b (a.filter _)).mpr λm=>?_);rw[h,qX];simp
theorem OY  :(Xc rows n).length<=rows.length:=by
 unfold Xc;rw[UE];have:=zh (λm=>@decide (wJ rows n m) (Classical.propDecidable _)) (rows.map (·.1));rw[ql] at this;exact this
structure gv(rows:Rows)(n:qc)(rc wt:qg):Prop where
 nd:rc.Nodup
 start:n∈rc
 sound:∀m∈rc,wJ rows n m
 sub:∀m∈wt,m∈rc
 clo:∀m∈rc,m∉wt->∀k∈vB rows m,k∈rc
def R7(rows:Rows):qg:=rows.map (·.1)++rows.map (·.2)
theorem CM(a:n∈rows.map (·.1))(h:wJ rows n m):m∈R7 rows:=by
 cases h with
 |refl=>exact qS _ a
 |step _ h=>
  rcases qF.mp h with h|h
  .exact qS _ (Wa h)
  .exact qy _ (qw.mpr ⟨_,Bk (Hz.mp h).1,U⟩)
theorem gv.len(d:gv rows n rc wt)(a:n∈rows.map (·.1)):rc.length<=2*rows.length:=by
 have:=Ut d.nd λm hm=>CM a (d.sound m hm);unfold R7 at this;rw[qA,ql,ql] at this;omega
theorem gv.init  :gv rows n [n] [n]:=
 ⟨by simp,by simp,λm hm=>by rw[qt.mp hm];exact .refl,λm hm=>hm,λm hm h=>absurd hm h⟩
theorem gv.done(nd:(rows.map (·.1)).Nodup)(d:gv rows n rc []):Q3 (rc.filter λm=>decide (m∈rows.map (·.1)))=Xc rows n:=by
 have all:∀m,wJ rows n m->m∈rc:=λm h=>by
  induction h with
  |refl=>exact d.start
  |step _ h a=>exact d.clo _ a (by simp) _ h
 refine Sa nd (d.nd.filter _) λm=>?_;rw[qX];constructor
 .rintro⟨a,b⟩;exact⟨qH b,d.sound m a⟩
 .rintro⟨a,b⟩;exact⟨all m b,qx a⟩
structure Wx(rows:Rows)(n here:qc)(seen:qg)(rc wt:qg):Prop where
 nd:rc.Nodup
 start:n∈rc
 hr:here∈rc
 sound:∀m∈rc,wJ rows n m
 sub:∀m∈wt,m∈rc
 clo:∀m∈rc,m∉wt->m≠here->∀k∈vB rows m,k∈rc
 got:∀k∈seen,k∈rc
theorem gv.pop(d:gv rows n rc (wt++[here])):Wx rows n here [] rc wt:=
 ⟨d.nd,d.start,d.sub here (by simp),d.sound,λm hm=>d.sub m (qS _ hm),λm hm a b=>d.clo m hm λz=>(qF.mp z).elim a λy=>b (qt.mp y),λk c=>by cases c⟩
theorem Wx.old{k:qc}{seen:qg}(d:Wx rows n here seen rc wt)(a:k∈rc):Wx rows n here (seen++[k]) rc wt:=
 ⟨d.nd,d.start,d.hr,d.sound,d.sub,d.clo,λm hm=>(qF.mp hm).elim (d.got m) λy=>by rw[qt.mp y];exact a⟩
theorem Wx.new{k:qc}{seen:qg}(d:Wx rows n here seen rc wt)(c:¬k∈rc)(f:k∈vB rows here):Wx rows n here (seen++[k]) (rc++[k]) (wt++[k]):=by
 refine⟨yh.mpr ⟨d.nd,by simp,λx g y h e=>c ?_⟩,qS _ d.start,qS _ d.hr,λm hm=>?_,λm hm=>?_,λm hm b i=>?_,λm hm=>?_⟩
 .rw[qt.mp h] at e;rw[<-e];exact g
 .rcases qF.mp hm with z|z
  .exact d.sound m z
  .rw[qt.mp z];exact .step (d.sound here d.hr) f
 .rcases qF.mp hm with z|z
  .exact qS _ (d.sub m z)
  .exact qy _ z
 .rcases qF.mp hm with z|z
  .intro j a;exact qS _ (d.clo m z (λy=>b (qS _ y)) i j a)
  .exact absurd (qy _ z) b
 .rcases qF.mp hm with z|z
  .exact qS _ (d.got m z)
  .exact qy _ z
theorem Wx.out(d:Wx rows n here (vB rows here) rc wt):gv rows n rc wt:=
 ⟨d.nd,d.start,d.sound,d.sub,λm hm a=>by
   by_cases e:m=here
   .subst e;exact d.got
   .exact d.clo m hm a e⟩
variable {ns:qg}{n:qc}
theorem Kx{X:Cx}(K:Frag){e:Expr}{f:qc}{pos:Pos}{a:TE}(he:PE X e a)(b:attributeBase e f X.env (eval e X.env)=eval e X.env)(c:X.K=K:=by rfl):PE X (.Attribute e f pos) (aJ K a f):=c▸Ql he b
theorem Bq(h:n∈ns):Ye (Qo ns) (Sum.inr n) (.bl true)=Qo ns:=by
 unfold Ye;have hc:((Qo ns).any λa=>decide (a.1=(Sum.inr n:Key)))=true:=gF.mpr ⟨(Sum.inr n,.bl true),qw.mpr ⟨n,h,U⟩,qx rfl⟩;rw[qP hc];unfold Qo;rw[zg];apply yv;intro m _;show(if (Sum.inr m:Key)=Sum.inr n then (Sum.inr m,V.bl true) else (Sum.inr m,V.bl true))=_;split<;>rfl
def YG(ns:qg)(n:qc):qg:=if n∈ns then ns else ns++[n]
theorem Hl(ns:qg)(n:qc):Ye (Qo ns) (Sum.inr n) (.bl true)=Qo (YG ns n):=by
 unfold YG;split
 .exact Bq ‹_›
 .exact Wd ‹_›
theorem Bz{m:qc}:m∈YG ns n↔m∈ns\/m=n:=by
 unfold YG;split
 .exact⟨.inl,λh=>h.elim id λe=>e▸‹_›⟩
 .rw[qF,qt]
theorem EU(h:ns.Nodup):(YG ns n).Nodup:=by
 unfold YG;split
 .exact h
 .rename_i c
  rw[yh];exact⟨h,yI _ _,λa d b f e=>c (by rw[qt.mp f] at e;rw[<-e];exact d)⟩
open PySem PySem.Spec
variable {T xs:qg}{w:qc}{x:qd}{H:Hp}
inductive B7(Q:VK)(a:qd)(y:V)(z:V)(H3:Hp):Prop
 |mk:∀kvs k,H3 a=some (.dK kvs)->y=kV k->kvs.length<sizeLine->((∀v,Qy kvs k=some v->Q v H3))->((Qy kvs k=none->Q z (upd H3 a (.dK (Ye kvs k z)))))->B7 Q a y z H3
inductive Fj(ty:TE)(tx:TE)(σ:St)(Q:VK)(x:V)(H1:Hp):Prop
 |mk:∀a,x=.ref a->IsD H1 a->(ty σ H1 λy H2=>tx σ H2 λz H3=>B7 Q a y z H3)->Fj ty tx σ Q x H1
def aP(a ty b:TE):TE:=λσ H Q=>a σ H λx H1=>Fj ty b σ Q x H1
section
variable {X:Cx}{pins:qa (qd×Obj)}{σ:St}{H:Hp}{s:Shared}{a:qd}{kvs:qa (Key×V)}{k:Key}{z:V}{u r:qe}{A:Around}{E:qh}
theorem Oz{Q:qh}(I:Inv X pins σ H s)(e:H a=some (.dK kvs))(g:QJ (kV k) u)(h:QJ z r)(l:kvs.length<sizeLine)
 (i:∀v,Qy kvs k=some v->∀f s',Inv X pins σ H s'->QJ v f->Q f s') (j:Qy kvs k=none->∀s',Inv X pins σ (upd H a (.dK (Ye kvs k z))) s'->Q r s') :
 wpAny (model X.prog X.w) A (call (.builtin "dict.setdefault") [.ref a,u,r]) Q E s:=by
 obtain⟨hz,hd,vs,rel,dd⟩:=GU I.hok e;refine kC PySem.F.slot_dict_setdefault dd.typeIs PySem.F.entry_dict_setdefault (PySem.F.args_dict_setdefault_3 _ _ _) (kt_meets_setdefault (QZ X.prog X.w) a (W0 g) hd r) ⟨vs,dd,by rw[<-rel.length];exact hz,λf hw=>?_,λm h' d n=>?_⟩
 .have b:=rel.val k;rw[hw] at b
  cases c:Qy kvs k with
  |none=>rw[c] at b;exact absurd b (by simp[Vg])
  |some v=>rw[c] at b;exact i v c f _ (I.tok _) b
 .have b:=rel.val k;rw[m] at b
  cases c:Qy kvs k with
  |some v=>rw[c] at b;exact absurd b (by simp[Vg])
  |none=>
   have he:∃q,h'.get? a=some q:=let ⟨q,_,_,o,_⟩:=d;⟨q,o⟩;have p:(Ye kvs k z).length<=sizeLine:=by have:=UO kvs k z;omega
   exact j c _ (Xs I (by rw[e];exact True.intro) n he (BL p hd (rel.put k h) d))
end
section
variable {X:Cx}{o e f:Expr}{apos cpos:Pos}{td ty tx:TE}
theorem MU(j:PE X o td)(he:PE X e ty)(hf:PE X f tx)(m:M2 X o "setdefault" apos e f cpos):PE X (.Call (.Attribute o "setdefault" apos) [e,f] [] cpos) (aP td ty tx):=by
 intro pins s σ H Q I h;refine vn m.base m.few m.line plainAttrs_dict PySem.F.slot_dict_setdefault PySem.F.type_dict_setdefault (z5 (j pins s σ H _ I h) λu s1 ⟨x,H1,g,n,a,ex,d,p⟩=>?_);subst ex;obtain rfl:u=Value.ref a:=n;obtain⟨t1,q,_⟩:=GG g d;refine⟨t1,q,?_⟩;rw[m.trees];refine jt rfl (jT (jb (z5 (he pins s1 σ H1 _ g p) λL s2 ⟨y,r,t,w,A⟩=>jb (z5 (hf pins s2 σ r _ t A) λM s3 ⟨z,B,C,i,D,k,E,F,l,G,J⟩=>jS ?_))));subst F;exact Oz C E w i l (λv ev N s4 b c=>⟨_,B,b,c,G v ev⟩) λK s4 b=>⟨z,_,b,i,J K⟩
end
theorem Wg:∀(xs acc:qg){t:qc},t∈acc\/t∈xs->t∈xs.foldl Us acc
 |[],acc,t,h=>h.elim id λz=>nomatch z
 |x::xs,acc,t,h=>by
  refine Wg xs (Us acc x) ?_;unfold Us;rcases h with h|h
  .left;split
   .exact h
   .exact qS _ h
  .rcases qC.mp h with rfl|h
   .left;split
    .assumption
    .exact qy _ (qt.mpr rfl)
   .exact .inr h
theorem NC{t:qc}(h:t∈xs):t∈UR xs:=Wg xs [] (.inr h)
def kn(T xs:qg):qa (Key×V):=(UR xs).map λw=>(Sum.inr w,V.bl (decide (w∈T)))
theorem NN(T xs:qg):(kn T xs).length<=xs.length:=by unfold kn;rw[ql];exact M5 xs
theorem P0(T xs:qg):(kn T xs).map (λa=>kV a.1)=(UR xs).map V.str:=by unfold kn;rw[zg];rfl
theorem AV(T:qg)(w:qc):∀ys:qg,Qy (ys.map λw=>((Sum.inr w:Key),V.bl (decide (w∈T)))) (Sum.inr w)=if w∈ys then some (V.bl (decide (w∈T))) else none
 |[]=>rfl
 |y::ys=>by
  rw[zf];by_cases e:y=w
  .subst e;rw[Yq rfl,qP (qB ..)]
  .rw[Yj (λz=>e (jD z)),AV T w ys];by_cases m:w∈ys
   .rw[qP m,qP (qK _ m)]
   .rw[qJ m,qJ (λz=>(qC.mp z).elim (λq=>e q.symm) m)]
theorem EB(T xs:qg)(w:qc):Qy (kn T xs) (Sum.inr w)=if w∈UR xs then some (V.bl (decide (w∈T))) else none:=AV T w (UR xs)
theorem NL(h:w∈UR xs):kn T (xs++[w])=kn T xs:=by
 unfold kn;rw[AJ];unfold Us;rw[qP h]
theorem NM(h:¬w∈UR xs):kn T (xs++[w])=kn T xs++[(Sum.inr w,V.bl (decide (w∈T)))]:=by
 unfold kn;rw[AJ];unfold Us;rw[qJ h,qE];rfl
theorem Tn(h:w∈T):Ye (kn T xs) (Sum.inr w) (.bl true)=kn T (xs++[w]):=by
 unfold Ye;rw[U3,EB];by_cases m:w∈UR xs
 .rw[qP m,NL m,qP (show(some _:Option V).isSome=true from rfl)];unfold kn;rw[zg];refine yv λu _=>?_;show(if (Sum.inr u:Key)=Sum.inr w then ((Sum.inr u:Key),V.bl true) else (Sum.inr u,V.bl (decide (u∈T))))=_;by_cases e:u=w
  .subst e;rw[qP rfl,qx h]
  .rw[qJ (λz=>e (jD z))]
 .rw[qJ m,qJ nofun,NM m,qx h]
theorem Dn(a:∀u∈T,u∈xs)(h:Qy (kn T xs) (Sum.inr w)=none):Ye (kn T xs) (Sum.inr w) (.bl false)=kn T (xs++[w]):=by
 have m:¬w∈UR xs:=λm=>by rw[EB,qP m] at h;cases h
 unfold Ye;rw[U3,h,qJ nofun,NM m,qD (λz=>m (NC (a w z)))]
theorem Dm{v:V}(h:Qy (kn T xs) (Sum.inr w)=some v):kn T (xs++[w])=kn T xs:=by
 refine NL ?_;by_cases m:w∈UR xs
 .exact m
 .rw[EB,qJ m] at h;cases h
def SX(x:qd)(H H':Hp):Prop:=∀c o,c≠x->H c=some o->H' c=some o
theorem SX.of{H':Hp}(h:Qi H H'):SX x H H':=λc o _ e=>h c o e
theorem SX.trans{H1 a:Hp}(h:SX x H H1)(g:SX x H1 a):SX x H a:=λc o n e=>g c o n (h c o n e)
theorem SX.free{l:qd}{H1:Hp}{o:HO}(h:SX x H H1)(e:H1 x=some o)(n:H1 l=none):H l=none:=by
 cases q:H l with
 |none=>rfl
 |some u=>
  by_cases z:l=x
  .rw[z,e] at n;cases n
  .rw[h l u z q] at n;cases n
variable {led:Bool}{a:qd}{ks:qg}
def WT:qe->qc
 |.str x _=>x
 |_=>""
def Vf(prog:Program)(w:World)(led:Bool)(a:qd)(ks:qg)(h:Heap):Prop:=∃o es b t,h.get? a=some o/\o.ExactSet/\o.data=.set es b t/\ElemsOf (strKind prog w) es.toList/\es.size<scanBound/\t.fits es.size=true/\t.led=led /\
 (t.plain=true->es.size=0)/\(es.toList.map λe=>WT e.2).Perm ks
theorem Vf.at{prog:Program}{w:World}{h h':Heap}(x:Vf prog w led a ks h)(k:∀o,h.get? a=some o->h'.get? a=some o):Vf prog w led a ks h':=
 let ⟨o,es,b,t,e,r⟩:=x;⟨o,es,b,t,k o e,r⟩
theorem GP{prog:Program}{w:World}{l:qa (Int×qe)}(h:ElemsOf (strKind prog w) l){e:Int×qe}(he:e∈l):∃t,e.2=.str (WT e.2) t:=by
 obtain⟨⟨k,a,_⟩,_⟩:=h e he;obtain⟨t,q⟩:=Value.isStrOf_shape (show Value.isStrOf k e.2=true from a);exact⟨t,by rw[q];rfl⟩
theorem N0{k:qc}{v:qe}{t:Tok}(h:v=.str (WT v) t):Value.isStrOf k v=decide (k=WT v):=by
 rw[h];show Value.isStrOf k (.str (WT v) t)=decide (k=WT v);by_cases e:k=WT v
 .rw[<-e,qx rfl];simp[Value.isStrOf]
 .rw[qD e];simp[Value.isStrOf];exact λz=>e z.symm
theorem EA(t:SetTable)(es:Array (Int×qe))(h:Int)(x:qe):(layNew t es h x).2.1.led=t.led:=by
 unfold layNew;split
 .show(SetTable.orStandIn _ _).led=_;unfold SetTable.orStandIn;split<;>rfl
 .rfl
theorem Bp(t:SetTable)(es:Array (Int×qe))(wanted:Nat):(relayAll t es wanted).2.1.led=t.led/\((relayAll t es wanted).2.1.plain=true->t.plain=true):=by
 unfold relayAll;split
 .rename_i t' order he
  have e:t'.led=t.led/\t'.plain=t.plain:=by
   unfold SetTable.relaid SetTable.laid at he
   cases hc:SetTable.layClean (SetTable.sizeAbove wanted-1) (es.map (·.1)) with
   |none=>rw[hc] at he;cases he
   |some a=>rw[hc] at he;cases he;exact⟨U,U⟩
  dsimp only;split
  .exact⟨e.1,λz=>by rw[<-e.2];exact z⟩
  .exact⟨U,λz=>by cases z⟩
 .exact⟨U,λz=>by cases z⟩
section
variable {prog:Program}{w:World}{A:Around}{E:qh}{s:Shared}
theorem Ga{h:Heap}{o:Obj}{es:Array (Int×qe)}{c:Nat}{t:SetTable}(j:h.get? a=some o)(hex:o.ExactSet)(hd:o.data=.set es c t){b:Array (Int×qe)}{t':SetTable}
 (d:ElemsOf (strKind prog w) b.toList) (k:b.size<scanBound) (hf:t'.fits b.size=true) (l:t'.led=led) (m:t'.plain=true->b.size=0) (n:(b.toList.map λe=>WT e.2).Perm ks) :
 (h.update a (Obj.putSet b t')).get? a=some {o with data:=.set b (c+1) t'}/\Vf prog w led a ks (h.update a (Obj.putSet b t')):=by
 have f:(h.update a (Obj.putSet b t')).get? a=some {o with data:=.set b (c+1) t'}:=by
  have g:=putSet_of b t' hd;have i:=zL (Obj.putSet b t') j (by rw[g];rfl);rw[g] at i;exact i
 exact⟨f,_,b,c+1,t',f,hex,U,d,k,hf,l,m,n⟩
theorem LJ{g:Bool->Sem Unit}(v:∀(b:Bool)(z:Shared)(R:Unit->Shared->Prop),R () z->wpAny (model prog w) A (g b) R E z){o:Obj}{es:Array (Int×qe)}{x:Nat}{t:SetTable}
 (m:s.heap.get? a=some o) (hex:o.ExactSet) (hd:o.data=.set es x t) {c:Array (Int×qe)} {d:SetTable} (f:ElemsOf (strKind prog w) c.toList) (i:c.size<scanBound) (hf:d.fits c.size=true) (n:d.led=led) (p:d.plain=false)
 (q:(c.toList.map λe=>WT e.2).Perm ks) {j:Bool} {R:Option Bool->Shared->Prop} (h:∀h',Heap.SameBut a s.heap h'->Vf prog w led a ks h'->R (some true) {s with heap:=h'}) :
 wpAny (model prog w) A (do
  storeSet a c d
  if (!j&&d.tooFull)=true then do
      g (relayAll d c (SetTable.grown c.size)).2.2
      storeSet a (relayAll d c (SetTable.grown c.size)).1 (relayAll d c (SetTable.grown c.size)).2.1
      pure (some true)
   else pure (some true)) R E s:=by
 refine qk (wpAny_storeSet_of m hd ?_ (fits_of_scanBound i));obtain⟨g1,y⟩:=Ga (prog:=prog) (w:=w) m hex hd f i hf n (λz=>by rw[p] at z;cases z) q;have r:=zB s.heap a (Obj.putSet c d);split
 .have pm:=relayAll_perm d c (SetTable.grown c.size);have k:=relayAll_fits d c (SetTable.grown c.size);have ld:=Bp d c (SetTable.grown c.size);generalize relayAll d c (SetTable.grown c.size)=Z at pm k ld⊢;obtain⟨l,t3,C⟩:=Z;dsimp only at pm k ld⊢;have u:l.size=c.size:=by rw[<-ze,pm.length_eq,ze]
  refine qk (v _ _ _ (qk (wpAny_storeSet_of g1 rfl ?_ (fits_of_scanBound (by rw[u];exact i)))));obtain⟨_,B⟩:=Ga (prog:=prog) (w:=w) (led:=led) (ks:=ks) g1 hex rfl (f.perm pm) (by rw[u];exact i) k (ld.1.trans n) (λz=>by have:=ld.2 z;rw[p] at this;cases this) ((pm.map _).trans q);exact qq (h _ (r.trans (zB _ a _)) B)
 .exact qq (h _ r y)
theorem Ml{k:qc}{u:Tok}{Q:Bool->Shared->Prop}(hS:Vf prog w led a ks s.heap)(r:ks.length+1<scanBound)
 (h:∀(b:Bool)(h':Heap),Heap.SameBut a s.heap h'->Vf prog w led a (YG ks k) h'->Q b {s with heap:=h'}):wpAny (model prog w) A (setAddHashed a (.str k u) (hashStr w k)) Q E s:=by
 obtain⟨o,es,L,t,B,hex,hd,f,I,hf,g,F,i⟩:=hS;have n:(strKind prog w).is k (.str k u)=true:=by show Value.isStrOf k (.str k u)=true;simp[Value.isStrOf]
 have v:(Value.str k u).scannable=true:=rfl;have hlen:es.size=ks.length:=by rw[<-i.length_eq,ql,ze]
 unfold setAddHashed setAddHashedIn;refine zH (qk (jV B hd hf ?_));dsimp only;rw[byScan_of v I f];simp only[↓reduceIte];unfold setAddByScan;refine qk (qk (yC (qk (wpAny_setScan_of (knd:=strKind prog w) n B hd hf f ?_))))
 cases J:List.findIdx? (λe=>(strKind prog w).is k e.2) es.toList with
 |some j=>
  dsimp only;obtain⟨m,c,_⟩:=List.findIdx?_eq_some_iff_getElem.mp J;have hm:=zu m;obtain⟨x,p⟩:=GP f hm;have d:k∈ks:=i.mem_iff.mp (qw.mpr ⟨_,hm,by
   have l:Value.isStrOf k es.toList[j].2=true:=c;rw[N0 p] at l;exact(qH l).symm⟩)
  refine qq (qq ?_);have e:s={s with heap:=s.heap}:=by cases s;rfl
  rw[e];exact h false s.heap (Heap.SameBut.refl a s.heap) ⟨o,es,L,t,B,hex,hd,f,I,hf,g,F,by unfold YG;rw[qP d];exact i⟩
 |none=>
  dsimp only;have C:¬k∈ks:=λz=>by
   obtain⟨e,he,d⟩:=qw.mp (i.mem_iff.mpr z);obtain⟨p,l⟩:=GP f he;have m:=List.findIdx?_eq_none_iff.mp J e he;have c:Value.isStrOf k e.2=false:=m;rw[N0 l,d,qx rfl] at c;cases c
  have c:=layNew_perm t es (hashStr w k) (.str k u);have d:=layNew_fits t es (hashStr w k) (.str k u);have l:=EA t es (hashStr w k) (.str k u);have G:(YG ks k)=ks++[k]:=by unfold YG;rw[qJ C]
  generalize layNew t es (hashStr w k) (.str k u)=Z at c d l⊢;obtain⟨m,t1,M,K⟩:=Z;dsimp only at c d l⊢;rw[Array.toList_push] at c;have p:ElemsOf (strKind prog w) m.toList:=(f.push (k:=k) n v).perm c;have N:m.size=es.size+1:=by rw[<-ze,c.length_eq,qA,ze];rfl
  have hb1:m.size<scanBound:=by rw[N,hlen];exact r
  have D:(m.toList.map λe=>WT e.2).Perm (YG ks k):=by
   rw[G];refine(c.map _).trans ?_;rw[qE];exact i.append_right _
  have O:∀(b:Bool)(z:Shared)(R:Unit->Shared->Prop),R () z->wpAny (model prog w) A (match b with|true=>rule "set.scan.the-table-gave-way"|false=>pure ()) R E z:=λb z R q=>by cases b<;>first|exact qq q|exact yC q
  refine qk (O _ _ _ ?_);split
  .refine qk ?_;rw[hashByValue_scannable 8 v];refine qq ?_;refine LJ (led:=led) (ks:=YG ks k) ?_ B hex hd p hb1 ?_ ?_ ?_ D ?_
   .intro b z R q;cases b<;>first|exact qq q|exact yC q
   .exact SetTable.fits_plain_off d
   .exact l.trans g
   .rfl
   .intro h' x y;dsimp only;exact qq (h true h' x y)
  .rename_i H
   refine qk (qq ?_);simp only[↓reduceIte];refine LJ (led:=led) (ks:=YG ks k) ?_ B hex hd p hb1 d ?_ ?_ D ?_
   .intro b z R q;cases b<;>first|exact qq q|exact yC q
   .exact l.trans g
   .exact ky.mpr H
   .intro h' x y;dsimp only;exact qq (h true h' x y)
def Gw(val:Nat->qc)(i:Nat):qg:=((List.range i).map val).foldl YG []
theorem AR(val:Nat->qc)(i:Nat):Gw val (i+1)=YG (Gw val i) (val i):=by
 unfold Gw;rw[vo,qE,wW];rfl
theorem De(val:Nat->qc):∀i,(Gw val i).length<=i
 |0=>qz _
 |i+1=>by
  rw[AR];have a:=De val i;unfold YG;split
  .omega
  .rw[qA,qY];omega
theorem K9{R:Result->Shared->Prop}{I:qd}{x wr:qa qd}{G:Array GenState->Array GenState->Prop}{n:Nat}{P:Nat->qe->Prop}{St:Nat->Shared->Prop}(W:WalksS prog w A.in1 I x wr G n P St)(S:qd)(y:S∉x)
 (val:Nat->qc) (d:∀i v,P i v->∃t,v=.str (val i) t) (c:n+1<scanBound):∀(k i:Nat)(s:Shared),n-i=k->i<=n->St i s->Vf prog w led S (Gw val i) s.heap ->
   (∀s',Moved (S::wr) G s s'->Vf prog w led S (Gw val n) s'.heap->R (.ok (.ret .none)) s')->codeAny (model prog w) A (.builtin "set.update.loop" ⟨[.ref S,.ref I],[]⟩) R s:=by
 have nw:S∉wr:=λh=>y (W.sub _ h);have sub:∀b∈wr,b∈S::wr:=λb c=>qK _ c;intro k
 induction k with
 |zero=>
  intro i s B C a hS p;obtain rfl:i=n:=by omega
  refine jd F.entry_set_update_loop ?_;rw[zW gw _];refine qk (m:=pyNext (.ref I)) (W.done s _ _ a λs' f=>?_);exact qq (p s' (f.mono sub) (hS.at λo e=>f.heap S o nw e))
 |succ k D=>
  intro i s B C a hS p;have lt:i<n:=by omega
  refine jd F.entry_set_update_loop ?_;rw[zW gw _];refine qk (m:=pyNext (.ref I)) (W.item i s _ _ lt a λv s' E g f=>?_);obtain⟨t,rfl⟩:=d i v E;have q:=hS.at (h':=s'.heap) λo e=>f.heap S o nw e;refine qk (m:=holding [Value.str (val i) t] (setAdd S (.str (val i) t))) (zH ?_);unfold setAdd;refine zH (qk ((strKind prog w).pyHash (k:=val i) (show Value.isStrOf (val i) (.str (val i) t)=true by simp[Value.isStrOf]) ?_));have room:(Gw val i).length+1<scanBound:=by have:=De val i;omega
  refine Ml (s:={s' with toks:=s'.toks+1}) (led:=led) q room λb h' z j=>?_;rw[<-AR] at j;refine qq ⟨jN gw _,D (i+1) _ ⋯ lt (W.frame _ s' _ _ g (jE _) λb c o e=>?_) j λr u l=>?_⟩
  .rw[z.2 b (λh:b=S=>y (by rw[<-h];exact c))];exact e
  .refine p r (Moved.trans W.gtrans ((f.mono sub).then_heap (jE _) λb o c e=>?_) u) l;rw[z.2 b (λh:b=S=>c (by rw[h];exact qB))];exact e
def YZ(w:World):Obj:={cls:=.type "set",dict:=none,data:=.set #[] 0 (.fresh 0 0 (!w.params.followText "set-order"))}
theorem AQ(v:qe){R:qh}(h:R (.ref s.heap.objs.size) {s with heap:=s.heap.push (YZ w)}):codeAny (model prog w) A (.call (.builtin "set.__new__") ⟨[.type "set",v],[]⟩) (wants R E) s:=by
 refine codeAny_of_tree ?_;refine qk (m:=checkBuiltinCall "set.__new__" ⟨[.type "set",v],[]⟩) (wZ (F.newCall_set_1 v) (qq ⟨jN F.plain_set_new _,jd F.entry_set_new ?_⟩));rw[zW F.plain_set_new _];unfold Builtin.«set.__new__» Builtin.Frozenset.newClass;have sub:=sub_set_self;obtain⟨a,g,d,b,os⟩:=s;dsimp only
 wp_walk
 refine yb (qq ?_);dsimp only;simp only[newObj];exact qk (wpAny_alloc (qq (qq h)))
theorem Bm:∀{vs:qi}{ss:qg},StrsAre vs ss->∀(i:Nat)(v:qe),vs[i]?=some v->∃t,v=.str (ss.getD i "") t
 |_,_,.nil,i,v,h=>by simp at h
 |_,_,.cons x t r,0,v,h=>by simp at h;exact⟨t,by rw[<-h];rfl⟩
 |_,_,.cons x t r,i+1,v,h=>by
  rw[List.getElem?_cons_succ] at h;obtain⟨t',e⟩:=Bm r i v h;exact⟨t',by rw[e];rfl⟩
theorem V7:∀{vs:qi}{ss:qg},StrsAre vs ss->vs.length=ss.length
 |_,_,.nil=>rfl
 |_,_,.cons x t r=>by rw[zc,zc,V7 r]
theorem Gf(ss:qg):(List.range ss.length).map (λi=>ss.getD i "")=ss:=by
 apply kQ
 .rw[ql,zS]
 .intro i b a;rw[kR,xM,qZ,qv a];rfl
theorem RR:Vf prog w (!w.params.followText "set-order") s.heap.objs.size [] (s.heap.push (YZ w)):=
 ⟨_,#[],0,_,qI _ rfl,⟨U,U,U⟩,U,(λe he=>by simp at he),∅,by rfl,U,(λ_=>rfl),by simp⟩
end
section
variable {prog:Program}{w:World}{A:Around}{E:qh}{s:Shared}
set_option maxHeartbeats 3200000 in
theorem ER{l:qd}{items:Array qe}{ss:qg}{Q:qh}(M:A.handled=none)(N:s.heap.IsList l items)(C:StrsAre items.toList ss)(k:items.size+1<scanBound)
 (h:∀(h':Heap)(m:Nat),Vf prog w (!w.params.followText "set-order") s.heap.objs.size (ss.foldl YG []) h'->(∀b o,b<s.heap.objs.size->s.heap.get? b=some o->h'.get? b=some o)->Q (.ref s.heap.objs.size) {s with heap:=h',toks:=m}) :
 wpAny (model prog w) A (call (.type "set") [.ref l]) Q E s:=by
 obtain⟨c,Z,m1⟩:=z7.mro;have m2:=z7.made;have m3:=z7.sub;have m4:=z7.notType;have m5:=z7.canCreate;have m6:=F.typeCall_set_1 (.ref l);refine kM (codeAny_of_tree ?_);show wpAny _ _ (callAny (.type "set") _) _ _ _;refine qq ⟨Code.quiet_builtin _ ∅,jd F.entry_type_call ?_⟩;rw[Around.under_plain (weight_type_call_type "set" [.ref l] []) rfl]
 repeat (any_goals (first|assumption|wp_step))
 refine js (AQ (.ref l) (E:=E) (R:=λz n=>z=.ref s.heap.objs.size/\n={s with heap:=s.heap.push (YZ w)}) ⟨U,U⟩) λr D p=>?_
 cases r with
 |error e=>exact p
 |ok O=>
  cases O with
  |ret z=>
   obtain⟨rfl,rfl⟩:=p;have n:(s.heap.push (YZ w)).get? s.heap.objs.size=some (YZ w):=qI _ rfl;have G:Shared.TypeIs {s with heap:=s.heap.push (YZ w)} (.ref s.heap.objs.size) "set":=⟨_,n,U⟩;have z3:=z7.init.lookup;have z4:=z7.init.bind (.ref s.heap.objs.size)
   repeat (any_goals (first|assumption|wp_step))
   refine js (codeAny_call_builtin (R:=wants (λr d=>r=.none/\∃h' m,d={s with heap:=h',toks:=m}/\Vf prog w (!w.params.followText "set-order") s.heap.objs.size (ss.foldl YG []) h' /\
    (∀b o,b<s.heap.objs.size->s.heap.get? b=some o->h'.get? b=some o)) E) z7.init.plain F.entry_set_init (check_set_init_1 G ?_)) λg d a=>?_
   .obtain⟨ol,H,I,nl,J⟩:=N;obtain⟨K,f,q,oslots⟩:=ol;simp only at I J;subst I;subst J;have L:(s.heap.push (YZ w)).get? l=some {cls:=.type "list",dict:=f,data:=.seq items nl,slots:=oslots}:=qr _ H;have y2:=F.sub_list_set;have y3:=F.sub_list_frozenset;have y4:(Value.type "list"==Value.type "dict")=false:=by decide
    have u:(s.heap.push (YZ w)).IsList l items:=⟨_,L,U,nl,U⟩;unfold Builtin.«set.__init__» noKeywords Builtin.Frozenset.updateFrom;generalize x:pyIter=PI;unfold YZ at n G L u⊢
    wp_walk
    subst x;refine wpAny_pyIter_list u ?_;refine qk (wY ?_);have lt:l<s.heap.objs.size:=qM H;have P:A.in1.in1.in1.handled=none:=by simp[M]
    have ne:l≠(s.heap.push {cls:=.type "set",dict:=none,data:=.set #[] 0 (.fresh 0 0 (!w.params.followText "set-order"))}).objs.size:=by
     rw[jr];exact qR (zT lt)
    have S:s.heap.objs.size∉[(s.heap.push {cls:=.type "set",dict:=none,data:=.set #[] 0 (.fresh 0 0 (!w.params.followText "set-order"))}).objs.size,l]:=by
     rw[jr];intro z;rcases qC.mp z with z|z
     .omega
     .rw[qt.mp z] at lt;exact zQ _ lt
    have T:∀(i:Nat)(v:qe),items[i]?=some v->∃t,v=.str ((λi=>ss.getD i "") i) t:=λi v e=>Bm C i v (by rw[zw];exact e);have es:Gw (λi=>ss.getD i "") items.size=ss.foldl YG []:=by
     unfold Gw;rw[<-ze,V7 C,Gf]
    refine K9 (led:=!w.params.followText "set-order") ((Walks.list P _ l ne items).toS) s.heap.objs.size S (λi=>ss.getD i "") T k (items.size-0) 0 _ ⋯ (za _) ⟨⟨_,qI _ rfl,U,U⟩,u.push _⟩ ?S0 ?R0
    case S0=>exact(RR (prog:=prog) (w:=w) (s:=s)).at λo e=>qr _ e
    case R0=>
     intro s' hm j;obtain⟨h',g',d',y,B⟩:=s';have V:g'=s.gens:=hm.gens;have X:d'=s.drawn:=hm.drawn;have Y:B=s.os:=hm.os;subst V;subst X;subst Y;rw[es] at j;refine qq (qq ⟨U,h',y,U,j,λb o k e=>?_⟩);refine hm.heap b o (λz=>?_) (qr _ (qr _ e));rcases qC.mp z with z|z
     .exact absurd z (qR k)
     .have z:=qt.mp z;rw[jr] at z;exact absurd z (qR (zT k))
   .cases g with
    |error e=>exact a
    |ok f=>
     cases f with
     |ret r=>
      obtain⟨rfl,h',m,rfl,a1,a2⟩:=a
      repeat (any_goals (first|assumption|wp_step))
      exact h _ _ a1 a2
     |_=>exact a.elim
  |_=>exact p.elim
end
variable {i:Nat}
theorem Xb{α:Type}:∀(l:qa α)(i:Nat)(h:i<l.length),(l[i]::l.eraseIdx i).Perm l
 |x::l,0,_=>.refl _
 |x::l,i+1,h=>by
  show(l[i]'(jC h)::x::l.eraseIdx i).Perm (x::l);exact(List.Perm.swap x _ _).trans ((Xb l i (jC h)).cons x)
theorem Ho{α:Type}(next:Nat->Nat):∀(fuel k:Nat)(left:qa α)(out:Array α),left.length=fuel->(pickOrder.go next fuel k left out).toList.Perm (out.toList++left)
 |0,k,left,out,h=>by
  obtain rfl:left=[]:=jz.mp h;rw[zD];exact .refl _
 |n+1,k,left,out,h=>by
  have a:next k%left.length<left.length:=Nat.mod_lt _ ⋯;unfold pickOrder.go;rw[qv a];dsimp only;refine(Ho next n (k+1) _ _ (by rw[List.length_eraseIdx_of_lt a,h];rfl)).trans ?_;rw[Array.toList_push,yO];exact(Xb left _ a).append_left _
theorem XH{α:Type}(next:Nat->Nat)(xs:Array α):(pickOrder next xs).toList.Perm xs.toList:=by
 have:=Ho next xs.size 0 xs.toList #[] (by simp);exact this
theorem Q0:Slot "set_iterator" "__next__" "set_iterator.__next__":=.of (owner:="set_iterator") (n:="__next__") (by rw[typeLookup_type,builtinLookup_eq_fast];kernel_rfl) ∅ ∅ ∅ (by first|exact .inl ∅|exact .inr ∅) (by rw[kT];kernel_rfl)
theorem Uv:entryFor table "set_iterator.__next__"=some Builtin.«set_iterator.__next__»:=entryFor_of_tree (by kernel_rfl)
theorem UK(a:qe):argsOk "set_iterator.__next__" ⟨[a],[]⟩:=by unfold argsOk;kernel_rfl
theorem Ws:entryFor table "set.__iter__"=some Builtin.«frozenset.__iter__»:=entryFor_alias (id':="frozenset.__iter__") (by kernel_rfl) rfl ∅ (by kernel_rfl)
theorem WV:Slot "set_iterator" "__iter__" "set_iterator.__iter__":=.of (owner:="set_iterator") (n:="__iter__") (by rw[typeLookup_type,builtinLookup_eq_fast];kernel_rfl) ∅ ∅ ∅ (by first|exact .inl ∅|exact .inr ∅) (by rw[kT];kernel_rfl)
theorem Bh{M:Model}{A:Around}{E:qh}{s:Shared}{src:Source}{n:Nat}{Q:Nat->Shared->Prop}(a:n≠0)(h:∀i d',i<n->Q i {s with drawn:=d'}):wpAny M A (choose src n) Q E s:=
 λ_ _ _=>⟨a,h _ _ (Nat.mod_lt _ (Nat.pos_of_ne_zero a))⟩
theorem VX{M:Model}{A:Around}{E:qh}{α:Type}:∀(n:Nat)(xs:qa α)(s:Shared)(Q:qa α->Shared->Prop),xs.length=n->(∀ys d',ys.Perm xs->Q ys {s with drawn:=d'})->wpAny M A (drawOrder n xs) Q E s
 |0,xs,s,Q,a,h=>by
  obtain rfl:xs=[]:=jz.mp a;have e:s={s with drawn:=s.drawn}:=by cases s;rfl
  unfold drawOrder;refine qq ?_;rw[e];exact h [] _ (.refl _)
 |n+1,[],s,Q,a,h=>by cases a
 |n+1,x::xs,s,Q,a,h=>by
  unfold drawOrder;refine qk (Bh (by simp) λi d' b=>?_);have e:(x::xs)[i]?=some (x::xs)[i]:=qv b;rw[e];dsimp only;refine qk (VX n ((x::xs).eraseIdx i) _ _ (by rw[List.length_eraseIdx_of_lt b,a];rfl) λys c d=>qq ?_);exact h _ c ((d.cons _).trans (Xb _ i b))
def UB(h:Heap)(it a:qd)(first:qe)(i n b:Nat):Prop:=∃o,h.get? it=some o/\o.cls=.type "set_iterator"/\o.data=.fields #[first,.int i 0,.ref a,.int n 0,.int b 0]
def vJ(h:Heap)(a:qd)(es:Array (Int×qe))(b:Nat)(t:SetTable):Prop:=∃o,h.get? a=some o/\o.cls=.type "set"/\o.data=.set es b t
section
variable {prog:Program}{w:World}{A:Around}{E:qh}{s:Shared}{a it:qd}{es:Array (Int×qe)}{ep:Nat}{t:SetTable}
theorem UB.typeIs{first:qe}{n:Nat}(h:UB s.heap it a first i n ep):s.TypeIs (.ref it) "set_iterator":=let ⟨o,e,c,_⟩:=h;⟨o,e,c⟩
theorem Wm{Q:qh}(hS:vJ s.heap a es ep t)(hf:t.fits es.size=true)(hnd:(!w.params.followText "set-order"&&(!t.plain&&decide (es.size > 1)))=false)
 (h:Q (.ref s.heap.objs.size) {s with heap:=s.heap.push {cls:=.type "set_iterator",data:=.fields #[.int 0 0,.int 0 0,.ref a,.int es.size 0,.int ep 0]}}) :
 wpAny (model prog w) A (pyIter (.ref a)) Q E s:=by
 obtain⟨o,b,hc,hd⟩:=hS;have c:s.TypeIs (.ref a) "set":=⟨o,b,hc⟩;refine vr c slot_set_iter (zA slot_set_iter c Ws ?_ (PySem.F.args_set_iter_1 _));unfold Builtin.«frozenset.__iter__» Builtin.Frozenset.slot0 slotArgs;simp only[yo,ye,zl,↓reduceIte,bind_assoc,jq,jA];unfold Builtin.Frozenset.addrOf Builtin.Frozenset.sizeOf;refine qk (qq ?_)
 try dsimp only
 refine qk (qq ?_);refine qk (qk (j9 b hd hf (qq ?_)));unfold setDrawn setsByText;refine qk (qk (jV b hd hf ?_));refine qk (qk (yb (qq ?_)));refine qq ?_;refine jI (λz=>?_) (λ_=>?_)
 .have d:(!w.params.followText "set-order"&&(!t.plain&&decide (es.size > 1)))=true:=z;rw[hnd] at d;cases d
 refine qk (qq ?_);refine qk (wpAny_setEpoch_of b hd hf ?_);unfold newFields;refine qk (zr (qq ⟨_,U,"set_iterator",_,⟨_,qI _ rfl,U⟩,Q0.lookup,?_⟩));exact h
def YU(ps:qa Nat):Obj:={cls:=.type "tuple",data:=.seq (ps.map λ(i:Nat)=>rawInt i).toArray}
theorem GD{Q:qh}(hS:vJ s.heap a es ep t)(hf:t.fits es.size=true)(hnd:(!w.params.followText "set-order"&&(!t.plain&&decide (es.size > 1)))=true)(hz:es.size<=sizeLine)
 (h:∀ps d',ps.Perm (List.range es.size)->Q (.ref (s.heap.push (YU ps)).objs.size) {s with heap:=(s.heap.push (YU ps)).push {cls:=.type "set_iterator",data:=.fields #[.ref s.heap.objs.size,.int 0 0,.ref a,.int es.size 0,.int ep 0]},drawn:=d'}) :
 wpAny (model prog w) A (pyIter (.ref a)) Q E s:=by
 obtain⟨o,b,hc,hd⟩:=hS;have c:s.TypeIs (.ref a) "set":=⟨o,b,hc⟩;refine vr c slot_set_iter (zA slot_set_iter c Ws ?_ (PySem.F.args_set_iter_1 _));unfold Builtin.«frozenset.__iter__» Builtin.Frozenset.slot0 slotArgs;simp only[yo,ye,zl,↓reduceIte,bind_assoc,jq,jA];unfold Builtin.Frozenset.addrOf Builtin.Frozenset.sizeOf;refine qk (qq ?_)
 try dsimp only
 refine qk (qq ?_);refine qk (qk (j9 b hd hf (qq ?_)));unfold setDrawn setsByText;refine qk (qk (jV b hd hf ?_));refine qk (qk (yb (qq ?_)));refine qq ?_;refine jI (λ_=>?_) (λz=>absurd (show(!w.params.followText "set-order"&&(!t.plain&&decide (es.size > 1)))=true from hnd) z);refine qk (VX _ _ _ _ zS λps d' d=>?_);have e:(ps.map λi:Nat=>rawInt i).length<=sizeLine:=by rw[ql,d.length_eq,zS];exact hz
 refine qk (wpAny_newTuple ?_ e);refine qk (wpAny_setEpoch_of (s:={s with heap:=s.heap.push (YU ps),drawn:=d'}) (qr _ b) hd hf ?_);unfold newFields;refine qk (zr (qq ⟨_,U,"set_iterator",_,⟨_,qI _ rfl,U⟩,Q0.lookup,?_⟩));exact h ps d' d
theorem Wh{Q:Option qe->Shared->Prop}{slot:Nat}(d:UB s.heap it a (.int slot 0) i es.size ep)(hS:vJ s.heap a es ep t)(hf:t.fits es.size=true)(g:a≠it)(x:qe)(nx:Nat)
 (hN:∀(j:Around)(k:qh)(R:Option (qe×Nat)->Shared->Prop),R (some (x,nx)) s->wpAny (model prog w) j (setNext a slot i ep) R k s)
 (h:∀h',UB h' it a (.int nx 0) (i+1) es.size ep->Heap.SameBut it s.heap h'->Q (some x) {s with heap:=h'}):wpAny (model prog w) A (pyNext (.ref it)) Q E s:=by
 obtain⟨n,c,e,b⟩:=id d;obtain⟨o,l,hc,hd⟩:=hS;unfold pyNext;refine qk (yP (zU (name:=Str.ofString "__next__") d.typeIs Q0 (zA Q0 d.typeIs Uv ?_ (UK _))));unfold Builtin.«set_iterator.__next__» slotArgs;simp only[yo,ye,zl,↓reduceIte,bind_assoc,jq,jA];refine qk (qq ?_);refine qk (xb c b ?_);dsimp only;refine qk (j9 l hd hf ?_);rw[qJ (by simp)];simp only[jy];refine qk (hN _ _ _ ?_);dsimp only;refine qk (yc c b (by simp) ?_);have g1:=zL (Obj.mapFields (·.setIfInBounds 0 (rawInt (nx:Int)))) c (yp (jc b _));have f:=jc b (·.setIfInBounds 0 (rawInt (nx:Int)));refine qk (yc (s:={s with heap:=s.heap.update it (Obj.mapFields (·.setIfInBounds 0 (rawInt (nx:Int))))}) g1 f (by simp) ?_);have g2:=zL (Obj.mapFields (·.setIfInBounds 1 (rawInt ((i:Int)+1)))) g1 (yp (jc f _));have m:=jc f (·.setIfInBounds 1 (rawInt ((i:Int)+1)));refine qq ⟨_,U,qq (h _ ⟨_,g2,(vu ..).trans ((vu ..).trans e),?_⟩ ?_)⟩
 .rw[m];simp[rawInt]
 .exact(zB ..).trans (zB ..)
theorem Vo{Q:Option qe->Shared->Prop}{slot:Nat}(f:A.handled=none)(e:UB s.heap it a (.int slot 0) i es.size ep)(hS:vJ s.heap a es ep t)(hf:t.fits es.size=true)
 (hN:∀(g:Around)(j:qh)(R:Option (qe×Nat)->Shared->Prop),R none s->wpAny (model prog w) g (setNext a slot i ep) R j s)
 (h:∀h',Heap.ExtBut it s.heap h'->Q none {s with heap:=h'}):wpAny (model prog w) A (pyNext (.ref it)) Q E s:=by
 obtain⟨n,c,k,d⟩:=id e;obtain⟨o,l,hc,hd⟩:=hS;unfold pyNext;refine qk (yP (zU (name:=Str.ofString "__next__") e.typeIs Q0 (zA Q0 e.typeIs Uv ?_ (UK _))));unfold Builtin.«set_iterator.__next__» slotArgs;simp only[yo,ye,zl,↓reduceIte,bind_assoc,jq,jA];refine qk (qq ?_);refine qk (xb c d ?_);dsimp only;refine qk (j9 l hd hf ?_);rw[qJ (by simp)];simp only[jy];refine qk (hN _ _ _ ?_);dsimp only;refine qk (yc c d (by simp) ?_);refine qk ?_;simp only[newExc,newTuple];refine qk (zr ?_ (by size_fits));refine qk (m:=firstArgMember _ _) (wZ (a:=Value.none) (by first|rfl|(simp only[firstArgMember];rfl)) ?_);refine zr ?_ (by size_fits);simp only[raiseNew];refine qk (wpAny_handled ?_);rw[show A.in1.handled=none from f];refine qk (qq (wpAny_throw ?_));refine qk (vO (T:="StopIteration") (b:=true) ⟨_,qI _ rfl,U⟩ isSubtype_stop ?_);exact qq (h _ (((zB ..).extBut.push _).push _))
theorem Gv{Q:Option qe->Shared->Prop}{T:qd}{ps:qa Nat}{p:Nat}(d:UB s.heap it a (.ref T) i es.size ep)(j:s.heap.get? T=some (YU ps))(hS:vJ s.heap a es ep t)(hf:t.fits es.size=true)(k:ps[i]?=some p){e:Int×qe}(he:es[p]?=some e)
 (h:∀h',UB h' it a (.ref T) (i+1) es.size ep->Heap.SameBut it s.heap h'->Q (some e.2) {s with heap:=h'}):wpAny (model prog w) A (pyNext (.ref it)) Q E s:=by
 obtain⟨n,c,f,b⟩:=id d;obtain⟨o,g,hc,hd⟩:=hS;unfold pyNext;refine qk (yP (zU (name:=Str.ofString "__next__") d.typeIs Q0 (zA Q0 d.typeIs Uv ?_ (UK _))));unfold Builtin.«set_iterator.__next__» slotArgs;simp only[yo,ye,zl,↓reduceIte,bind_assoc,jq,jA];refine qk (qq ?_);refine qk (xb c b ?_);dsimp only;refine qk (j9 g hd hf ?_);rw[qJ (by simp)];simp only[jy];refine qk (kW j rfl ?_);dsimp only;have l:((ps.map λ(i:Nat)=>rawInt i).toArray)[i]?=some (rawInt p):=by rw[List.getElem?_toArray,qQ,k];rfl
 rw[l];dsimp only[rawInt];unfold setNextDrawn;simp only[jy,bind_assoc];refine qk (jV g hd hf ?_);rw[qJ (by simp)];rw[he];dsimp only;simp only[pure_bind];refine qk (yc c b (by simp) ?_);have g1:=zL (Obj.mapFields (·.setIfInBounds 1 (rawInt ((i:Int)+1)))) c (yp (jc b _));have m:=jc b (·.setIfInBounds 1 (rawInt ((i:Int)+1)));refine qq ⟨_,U,qq (h _ ⟨_,g1,(vu ..).trans f,?_⟩ (zB ..))⟩;rw[m];simp[rawInt]
theorem WS{Q:Option qe->Shared->Prop}{T:qd}{ps:qa Nat}(f:A.handled=none)(e:UB s.heap it a (.ref T) i es.size ep)(g:s.heap.get? T=some (YU ps))(hS:vJ s.heap a es ep t)(hf:t.fits es.size=true)(j:ps[i]?=none)
 (h:∀h',Heap.ExtBut it s.heap h'->Q none {s with heap:=h'}):wpAny (model prog w) A (pyNext (.ref it)) Q E s:=by
 obtain⟨q,d,k,c⟩:=id e;obtain⟨o,l,hc,hd⟩:=hS;unfold pyNext;refine qk (yP (zU (name:=Str.ofString "__next__") e.typeIs Q0 (zA Q0 e.typeIs Uv ?_ (UK _))));unfold Builtin.«set_iterator.__next__» slotArgs;simp only[yo,ye,zl,↓reduceIte,bind_assoc,jq,jA];refine qk (qq ?_);refine qk (xb d c ?_);dsimp only;refine qk (j9 l hd hf ?_);rw[qJ (by simp)];simp only[jy];refine qk (kW g rfl ?_);dsimp only;have n:((ps.map λ(i:Nat)=>rawInt i).toArray)[i]?=none:=by rw[List.getElem?_toArray,qQ,j];rfl
 rw[n];dsimp only;refine qk (yc d c (by simp) ?_);have g1:=zL (Obj.mapFields (·.setIfInBounds 0 (rawInt 0))) d (yp (jc c _));have p:=jc c (·.setIfInBounds 0 (rawInt 0));refine qk (yc (s:={s with heap:=s.heap.update it (Obj.mapFields (·.setIfInBounds 0 (rawInt 0)))}) g1 p (by simp) ?_);refine qk ?_;simp only[newExc,newTuple];refine qk (zr ?_ (by size_fits));refine qk (m:=firstArgMember _ _) (wZ (a:=Value.none) (by first|rfl|(simp only[firstArgMember];rfl)) ?_);refine zr ?_ (by size_fits);simp only[raiseNew];refine qk (wpAny_handled ?_);rw[show A.in1.handled=none from f];refine qk (qq (wpAny_throw ?_));refine qk (vO (T:="StopIteration") (b:=true) ⟨_,qI _ rfl,U⟩ isSubtype_stop ?_);exact qq (h _ ((((zB ..).trans (zB ..)).extBut.push _).push _))
end
section
variable {prog:Program}{w:World}{A:Around}{E:qh}{s:Shared}{a it:qd}{es:Array (Int×qe)}{ep:Nat}{t:SetTable}
theorem Xf{i slot:Nat}{R:Option (qe×Nat)->Shared->Prop}(hS:vJ s.heap a es ep t)(hf:t.fits es.size=true)(b:w.params.followText "set-order"=true)
 (h:R (((pickOrder (w.params.setOrder a ep) es)[i]?).map λe=>(e.2,slot)) s):wpAny (model prog w) A (setNext a slot i ep) R E s:=by
 obtain⟨o,c,hc,hd⟩:=hS;unfold setNext setsByText;refine qk (jV c hd hf ?_);refine qk (qk (yb (qq ?_)));refine jI (λ_=>?_) (λz=>absurd (show w.params.followText "set-order"=true from b) z);rw[qJ (by simp)];refine qk ?_;unfold setWalk setsByText;refine qk (jV c hd hf ?_);refine qk (qk (yb (qq ?_)));refine jI (λ_=>?_) (λz=>absurd (show w.params.followText "set-order"=true from b) z);refine qk (yb ?_);exact qq (qq h)
theorem V9{i slot:Nat}{R:Option (qe×Nat)->Shared->Prop}(hS:vJ s.heap a es ep t)(hf:t.fits es.size=true)(c:w.params.followText "set-order"=false)(d:t.led=true)(hz:es.size<=1)
 (h:R (match es[SetTable.below t.place slot]?,t.place[SetTable.below t.place slot]? with|some (_,x),some j=>some (x,j+1)|_,_=>none) s):wpAny (model prog w) A (setNext a slot i ep) R E s:=by
 obtain⟨o,e,hc,hd⟩:=hS;unfold setNext setsByText;refine qk (jV e hd hf ?_);refine qk (qk (yb (qq ?_)));refine jI (λz=>absurd (show w.params.followText "set-order"=true from z) (by rw[c];exact qO)) (λ_=>?_);refine jI (λz=>?_) (λ_=>?_)
 .have b:(!t.plain&&decide (es.size > 1))=true:=z;rw[qG] at b;have:=qH b.2;omega
 refine qk ?_;show wpAny _ _ (if (!t.led&&!es.isEmpty)=true then _ else pure ()) _ _ s;rw[qJ (by rw[d];simp)];exact qq (qq h)
theorem vJ.at{h h':Heap}(x:vJ h a es ep t)(k:∀o,h.get? a=some o->h'.get? a=some o):vJ h' a es ep t:=let ⟨o,e,r⟩:=x;⟨o,k o e,r⟩
theorem UB.at{h h':Heap}{first:qe}{i n:Nat}(x:UB h it a first i n ep)(k:∀o,h.get? it=some o->h'.get? it=some o):UB h' it a first i n ep:=let ⟨o,e,r⟩:=x;⟨o,k o e,r⟩
theorem GO:entryFor table "set_iterator.__iter__"=some Builtin.«dict_keyiterator.__iter__»:=entryFor_alias (id':="dict_keyiterator.__iter__") (by kernel_rfl) rfl ∅ (by kernel_rfl)
theorem Ag(a:qe):argsOk "set_iterator.__iter__" ⟨[a],[]⟩:=by unfold argsOk;kernel_rfl
theorem K8{first:qe}{i n:Nat}{Q:qh}(b:UB s.heap it a first i n ep)(h:Q (.ref it) s):wpAny (model prog w) A (pyIter (.ref it)) Q E s:=by
 refine vr b.typeIs WV (zA WV b.typeIs GO ?_ (Ag _));show wpAny _ _ (ret (.ref it)) _ _ s;exact qq ⟨_,U,"set_iterator",_,b.typeIs,Q0.lookup,h⟩
theorem DW(c:w.params.followText "set-order"=true)(hf:t.fits es.size=true)(m:A.handled=none)(d:a≠it) :
 Walks prog w A it [it,a] [it] es.size (λi v=>((pickOrder (w.params.setOrder a ep) es).toList.map (·.2))[i]?=some v) (λi h=>UB h it a (.int 0 0) i es.size ep/\vJ h a es ep t) where
 sub:=λb c=>by simp at c;simp[c]
 frame:=λ_ _ _ st j=>⟨st.1.at λo e=>j it (by simp) o e,st.2.at λo e=>j a (by simp) o e⟩
 item:=λi s Q E u st f=>by
  have n:(pickOrder (w.params.setOrder a ep) es).size=es.size:=by have:=(XH (w.params.setOrder a ep) es).length_eq;simpa using this
  have k:(pickOrder (w.params.setOrder a ep) es)[i]?=some ((pickOrder (w.params.setOrder a ep) es)[i]'⋯):=zM ⋯;refine Wh (slot:=0) (nx:=0) st.1 st.2 hf d _ (λp q R r=>Xf st.2 hf c (by rw[k];exact r)) λh' g l=>?_;refine f _ h' s.toks ?_ ⟨g,st.2.at λo e=>(l.2 a d).trans e⟩ λb o c e=>(l.2 b (λz=>c (by simp[z]))).trans e;rw[qQ,zw,k];rfl
 done:=λs Q E st f=>by
  have n:(pickOrder (w.params.setOrder a ep) es).size=es.size:=by have:=(XH (w.params.setOrder a ep) es).length_eq;simpa using this
  refine Vo (slot:=0) m st.1 st.2 hf (λp q R r=>Xf st.2 hf c (by rw[j4 ⋯];exact r)) λh' g=>f h' s.toks λb o c e=>g b o (λz=>c (by simp[z])) e
 self:=λ_ _ _ _ st f=>K8 st.1 f
theorem DO(j:Nat):SetTable.below #[j] 0=0:=by
 unfold SetTable.below;simp[SetTable.below.go]
theorem DN(j:Nat):SetTable.below #[j] (j+1)=1:=by
 unfold SetTable.below;simp[SetTable.below.go]
theorem HP(es:Array (Int×qe))(pl:Array Nat)(a:es.size=1)(b:pl.size=es.size):∃e j,es=#[e]/\pl=#[j]:=by
 obtain⟨l⟩:=es;obtain⟨m⟩:=pl;simp only[qV] at a b;obtain⟨e,rfl⟩:=yQ.mp a;obtain⟨j,rfl⟩:=yQ.mp (b.trans a);exact⟨e,j,U,U⟩
theorem Ic(c:w.params.followText "set-order"=false)(hf:t.fits es.size=true)(n:t.led=true)(hz:es.size<=1)(x:A.handled=none)(f:a≠it) :
 Walks prog w A it [it,a] [it] es.size (λi v=>(es.toList.map (·.2))[i]?=some v) (λi h=>UB h it a (.int ((if i=0 then 0 else t.place.getD 0 0+1:Nat):Int) 0) i es.size ep/\vJ h a es ep t) where
 sub:=λb c=>by simp at c;simp[c]
 frame:=λ_ _ _ st y=>⟨st.1.at λo e=>y it (by simp) o e,st.2.at λo e=>y a (by simp) o e⟩
 item:=λi s Q E D st d=>by
  have l:es.size=1:=by omega
  have h0:i=0:=by omega
  subst h0;have p:t.place.size=es.size:=by unfold SetTable.fits at hf;rw[qG] at hf;exact eq_of_beq hf.1
  obtain⟨e,j,m,g⟩:=HP es t.place l p;refine Wh (slot:=0) (nx:=j+1) st.1 st.2 hf f e.2 (λB C R r=>V9 st.2 hf c n hz (by rw[g,DO,m];exact r)) λh' k u=>?_;refine d _ h' s.toks (by rw[m];rfl) ⟨?_,st.2.at λo e=>(u.2 a f).trans e⟩ λb o c e=>(u.2 b (λz=>c (by simp[z]))).trans e;have q:(if 0+1=0 then 0 else t.place.getD 0 0+1:Nat)=j+1:=by rw[g];rfl
  rw[q];exact k
 done:=λs Q E st d=>by
  by_cases l:es.size=1
  .have p:t.place.size=es.size:=by unfold SetTable.fits at hf;rw[qG] at hf;exact eq_of_beq hf.1
   obtain⟨e,j,m,g⟩:=HP es t.place l p;have q:(if es.size=0 then 0 else t.place.getD 0 0+1:Nat)=j+1:=by rw[l,g];rfl
   have k:=st.1;rw[q] at k;refine Vo (slot:=j+1) x k st.2 hf (λB C R r=>V9 st.2 hf c n hz (by rw[g,DN,m];exact r)) λh' u=>d h' s.toks λb o c e=>u b o (λz=>c (by simp[z])) e
  .refine Vo x st.1 st.2 hf (λB C R r=>V9 st.2 hf c n hz (by rw[j4 ⋯];exact r)) λh' u=>d h' s.toks λb o c e=>u b o (λz=>c (by simp[z])) e
 self:=λ_ _ _ _ st d=>K8 st.1 d
theorem BX{T:qd}{ps:qa Nat}(c:ps.Perm (List.range es.size))(hf:t.fits es.size=true)(r:A.handled=none)(g:a≠it)(j:T≠it) :
 Walks prog w A it [it,a,T] [it] es.size (λi v=>((ps.map λp=>es.toList.getD p (0,.none)).map (·.2))[i]?=some v) (λi h=>UB h it a (.ref T) i es.size ep/\vJ h a es ep t/\h.get? T=some (YU ps)) where
 sub:=λb d=>by simp at d;simp[d]
 frame:=λ_ _ _ st k=>⟨st.1.at λo e=>k it (by simp) o e,st.2.1.at λo e=>k a (by simp) o e,k T (by simp) _ st.2.2⟩
 item:=λi s Q E y st f=>by
  have u:ps.length=es.size:=by rw[c.length_eq,zS]
  have q:ps[i]?=some (ps[i]'⋯):=qv ⋯;have l:ps[i]'⋯<es.size:=jK.mp (c.mem_iff.mp (zu ⋯));have x:es[ps[i]'⋯]?=some (es.toList.getD (ps[i]'⋯) (0,.none)):=by
   rw[qZ,zw,zM l];rfl
  refine Gv st.1 st.2.2 st.2.1 hf q x λh' m n=>?_;refine f _ h' s.toks ?_ ⟨m,st.2.1.at λo e=>(n.2 a g).trans e,(n.2 T j).trans st.2.2⟩ λb o d e=>(n.2 b (λz=>d (by simp[z]))).trans e;rw[qQ,qQ,q];rfl
 done:=λs Q E st f=>by
  have u:ps.length=es.size:=by rw[c.length_eq,zS]
  refine WS r st.1 st.2.2 st.2.1 hf (yg ⋯) λh' l=>f h' s.toks λb o d e=>l b o (λz=>d (by simp[z])) e
 self:=λ_ _ _ _ st f=>K8 st.1 f
theorem VI:∀{l:qa (Int×qe)},ElemsOf (strKind prog w) l->StrsAre (l.map (·.2)) (l.map λe=>WT e.2)
 |[],_=>.nil
 |e::l,h=>by
  obtain⟨t,q⟩:=GP h (qB ..);have a:=VI (l:=l) λe he=>h e (qK _ he);show StrsAre (e.2::l.map (·.2)) (WT e.2::l.map λe=>WT e.2);rw[q];exact .cons _ _ a
theorem D9{α:Type}(l:qa α)(d:α):(List.range l.length).map (λi=>l.getD i d)=l:=by
 apply kQ
 .rw[ql,zS]
 .intro i b a;rw[kR,xM,qZ,qv a];rfl
theorem Br(h:Heap)(o:Obj):h.objs.size<(h.push o).objs.size:=by rw[jr];exact gD _
theorem Lc{ks:qg}{Q:qh}(hS:Vf prog w (!w.params.followText "set-order") a ks s.heap)
 (h:∀(I:qd)(h':Heap)(d':Drawn)(z:qa qd)(vs:qi)(ss:qg)(St:Nat->Heap->Prop),(∀b o,s.heap.get? b=some o->h'.get? b=some o)->s.heap.objs.size<=I->I<h'.objs.size->(∀b∈z,b=a\/s.heap.objs.size<=b) ->
   StrsAre vs ss->ss.Perm ks->(∀l:Around,l.handled=none->Walks prog w l I z [I] vs.length (λi v=>vs[i]?=some v) St)->St 0 h'->Q (.ref I) {s with heap:=h',drawn:=d'}) :
 wpAny (model prog w) A (pyIter (.ref a)) Q E s:=by
 obtain⟨o,es,ep,t,B,hex,hd,f,c,hf,m,x,g⟩:=hS;have hS:vJ s.heap a es ep t:=⟨o,B,hex.1,hd⟩;have lt:a<s.heap.objs.size:=qM B;have ne:a≠s.heap.objs.size:=qR lt;have n:∀b∈[s.heap.objs.size,a],b=a\/s.heap.objs.size<=b:=λb c=>by
  rcases qC.mp c with e|c
  .exact .inr ⋯
  .exact .inl (qt.mp c)
 by_cases j:w.params.followText "set-order"=true
 .have pp:=XH (w.params.setOrder a ep) es;have q:((pickOrder (w.params.setOrder a ep) es).toList.map (·.2)).length=es.size:=by rw[ql,pp.length_eq,ze]
  refine Wm hS hf (by rw[j];rfl) ?_;refine h s.heap.objs.size _ s.drawn [s.heap.objs.size,a] ((pickOrder (w.params.setOrder a ep) es).toList.map (·.2)) ((pickOrder (w.params.setOrder a ep) es).toList.map λe=>WT e.2) (λi h=>UB h s.heap.objs.size a (.int 0 0) i es.size ep/\vJ h a es ep t) (λb o e=>qr _ e) (qz _) (Br _ _) n
   (VI (f.perm pp)) ((pp.map _).trans g) (λl d=>by rw[q];exact DW j hf d ne) ⟨⟨_,qI _ rfl,U,U⟩,hS.at λo e=>qr _ e⟩
 .have k:w.params.followText "set-order"=false:=ky.mpr j;by_cases hz:es.size<=1
  .have q:(es.toList.map (·.2)).length=es.size:=by rw[ql,ze]
   refine Wm hS hf (by rw[qD (show ¬es.size > 1 by omega),zX,zX]) ?_;refine h s.heap.objs.size _ s.drawn [s.heap.objs.size,a] (es.toList.map (·.2)) (es.toList.map λe=>WT e.2) (λi h=>UB h s.heap.objs.size a (.int ((if i=0 then 0 else t.place.getD 0 0+1:Nat):Int) 0) i es.size ep/\vJ h a es ep t) (λb o e=>qr _ e) (qz _) (Br _ _) n
    (VI f) g (λl d=>by rw[q];exact Ic k hf (by rw[m,k];rfl) hz d ne) ⟨⟨_,qI _ rfl,U,U⟩,hS.at λo e=>qr _ e⟩
  .have C:t.plain=false:=by
    cases e:t.plain with
    |false=>rfl
    |true=>have:=x e;omega
   refine GD hS hf (by rw[k,C,qx (show es.size > 1 by omega)];rfl) (yl (qU c ∅)) λps d' r=>?_;have pp:(ps.map λp=>es.toList.getD p (0,Value.none)).Perm es.toList:=by
    have u:=r.map (λp=>es.toList.getD p (0,Value.none));have y:=D9 es.toList (0,Value.none);rw[ze] at y;rw[y] at u;exact u
   have q:((ps.map λp=>es.toList.getD p (0,Value.none)).map (·.2)).length=es.size:=by rw[ql,pp.length_eq,ze]
   have u:(s.heap.push (YU ps)).objs.size=s.heap.objs.size+1:=jr ..;have y:a≠(s.heap.push (YU ps)).objs.size:=by rw[u];exact qR (zT lt)
   have neT:s.heap.objs.size≠(s.heap.push (YU ps)).objs.size:=by rw[u];omega
   refine h (s.heap.push (YU ps)).objs.size _ d' [(s.heap.push (YU ps)).objs.size,a,s.heap.objs.size] ((ps.map λp=>es.toList.getD p (0,Value.none)).map (·.2)) ((ps.map λp=>es.toList.getD p (0,Value.none)).map λe=>WT e.2) (λi h=>UB h (s.heap.push (YU ps)).objs.size a (.ref s.heap.objs.size) i es.size ep/\vJ h a es ep t/\h.get? s.heap.objs.size=some (YU ps))
    (λb o e=>qr _ (qr _ e)) (by rw[u];omega) (Br _ _) (λb c=>?_)
    (VI (f.perm pp)) ((pp.map _).trans g) (λl d=>by rw[q];exact BX r hf d y neT) ⟨⟨_,qI _ rfl,U,U⟩,hS.at λo e=>qr _ (qr _ e),qr _ (qI _ rfl)⟩
   rcases qC.mp c with e|c
   .exact .inr (by rw[e,u];omega)
   .rcases qC.mp c with e|c
    .exact .inl e
    .exact .inr (by rw[qt.mp c];exact qz _)
end
section
variable {prog:Program}{w:World}{A:Around}{E:qh}{s:Shared}
theorem N8{r:qd}{Q:Bool->Shared->Prop}(d:s.TypeIs (.ref r) "set")(h:Q false s):wpAny (model prog w) A (Builtin.List.listLengthHint (.ref r)) Q E s:=by
 unfold Builtin.List.listLengthHint;refine qk (wpAny_specialOf d PySem.F.slot_set_len.lookup ?_);generalize c:("set.__len__":String)=e
 wp_delta
 rw[show splitId e=some ("set","__len__") from by subst c;decide +kernel];subst c;refine qk (vO (T:="set") (b:=true) d (by rw[kT];kernel_rfl) ?_);refine jI (λa=>absurd a ∅) (λ_=>?_);refine jI (λ_=>?_) (λa=>absurd ∅ a);refine qk (vX d ?_);exact qq h
theorem Vf.typeIs{led:Bool}{a:qd}{ks:qg}(x:Vf prog w led a ks s.heap):s.TypeIs (.ref a) "set":=let ⟨o,_,_,_,e,hex,_⟩:=x;⟨o,e,hex.1⟩
theorem Vf.lt{led:Bool}{a:qd}{ks:qg}{h:Heap}(x:Vf prog w led a ks h):a<h.objs.size:=let ⟨o,_,_,_,e,_⟩:=x;qM e
theorem NZ{acc:Array qe}{vs:qi}(h:ItemsOf (λi v=>vs[i]?=some v) acc vs.length):acc.toList=vs:=by
 have b:acc.size=vs.length:=h.1;apply List.ext_getElem?;intro i;by_cases a:i<acc.size
 .rw[zw,zM a];exact(h.2 i _ (zM a)).symm
 .rw[yg (by rw[ze];omega),yg ⋯]
theorem EL{R:Result->Shared->Prop}{r:qd}{ks:qg}(C:A.handled=none)(hok:Vf prog w (!w.params.followText "set-order") r ks s.heap)(S:qd)(k:S≠r)(res:qe)(c₀:Nat)(hS:s.heap.get? S=some {cls:=.type "list",data:=.seq #[] c₀})(v:ks.length<=sizeLine)
 (D:∀h' t d' c j ss,(∀b o,b≠S->s.heap.get? b=some o->h'.get? b=some o)->h'.get? S=some {cls:=.type "list",dict:=none,data:=.seq c j,slots:=#[]}->StrsAre c.toList ss->ss.Perm ks->R (.ok (.ret res)) {s with heap:=h',toks:=t,drawn:=d'}) :
 wpAny (model prog w) A.in1 (Builtin.List.listExtendWith (.ref S) (.ref r) res)
  (λfin s'=>match fin with|.done f=>R (.ok f) s'|.again j=>j.quiet=true/\codeAny (model prog w) A j R s') (λe s'=>R (.error e) s') s:=by
 have x:=qM hS;unfold Builtin.List.listExtendWith;refine qk (vX (T:="set") hok.typeIs ?_);have u:Builtin.List.listSameRef (.ref S) (.ref r)=false:=by simp[Builtin.List.listSameRef,k]
 simp only[u,show(Value.type "set"==Value.type "list")=false by decide,show(Value.type "set"==Value.type "tuple")=false by decide,Bool.or_false,zl,jx];refine qk (Lc hok λI u d' E vs ss St keep y ltI B l m W st=>?_);have n:S∉E:=λz=>by
  rcases B S z with e|e
  .exact k e
  .exact zQ _ (qU x e)
 have hlen:vs.length<=sizeLine:=by rw[V7 l,m.length_eq];exact v
 have key:∀(h:Heap)(c₁ t:Nat),St 0 h->(∀b o,b≠S->s.heap.get? b=some o->h.get? b=some o)->h.get? S=some {cls:=.type "list",data:=.seq #[] c₁} ->
  codeAny (model prog w) A (.builtin "list.extend.loop" ⟨[.ref S,.ref I,res],[]⟩) R {s with heap:=h,toks:=t,drawn:=d'}:=by
  intro h c₁ t i F a;refine codeAny_extend_loopS (W A.in1 C).toS hlen S n res vs.length 0 _ #[] c₁ rfl (za _) i a (ItemsOf.nil _) λs' c j hm q p=>?_;rw[Moved.eq_with hm];refine D s'.heap s'.toks d' c j ss (λb o g e=>hm.heap b o (λd=>?_) (F b o g e)) q (by rw[NZ p];exact l) m;rcases qC.mp d with G|d
  .exact g G
  .exact absurd (qM e) (by rw[qt.mp d];exact Nat.not_lt.mpr y)
 have a:=keep _ _ hS;have p:=hok.at (h':=u) λo e=>keep _ _ e;refine qk (zH (N8 (s:={s with heap:=u,drawn:=d'}) p.typeIs ?_));refine jI (λ_=>?_) (λ_=>qq ⟨jN PySem.F.plain_extend_loop _,key _ c₀ _ st (λb o _ e=>keep _ _ e) a⟩);refine qk (yC ?_);refine qk ?_;show wpAny _ _ (updateSeq S (·.push .none)>>=λ_=>updateSeq S (·.pop)) _ _ _;refine qk (xY a rfl ?_);have d:=zL (Obj.mapSeq (·.push Value.none)) a rfl;refine xY (hz:=by seq_fits) d rfl ?_;have i:=zL (Obj.mapSeq (·.pop)) d rfl;refine qq ⟨jN PySem.F.plain_extend_loop _,key _ _ _ ?_ (λb o g e=>?_) i⟩
 .refine(W A.in1 C).frame 0 _ _ st λb g o e=>?_;have q:b≠S:=λh=>n (h▸g);exact(zG _ _ (jL q)).trans ((zG _ _ (jL q)).trans e)
 .exact(zG _ _ (jL g)).trans ((zG _ _ (jL g)).trans (keep _ _ e))
theorem DF{r:qd}{ks:qg}{R:qi->Shared->Prop}(calm:A.handled=none)(ok:Vf prog w (!w.params.followText "set-order") r ks s.heap)(d:ks.length<=sizeLine)
 (fin:∀(g:Heap)(k:Nat)(d':Drawn)(got:qi)(ss:qg),(∀b o,s.heap.get? b=some o->g.get? b=some o)->s.heap.objs.size<g.objs.size->StrsAre got ss->ss.Perm ks->R got {s with heap:=g,toks:=k,drawn:=d'}) :
 wpAny (model prog w) A (collect (.ref r)) R E s:=by
 have i:=ok.lt
 let new:Obj:={cls:=.type "list",data:=.seq ([]:qi).toArray}
 have there:(s.heap.push new).get? s.heap.objs.size=some new:=qI _ rfl;have a:=ok.at (h':=s.heap.push new) λo e=>qr (h:=s.heap) new e;have walked:=EL (A:=A) (s:={s with heap:=s.heap.push new})
  (R:=λq t=>∃(g:Heap)(k:Nat)(d':Drawn)(got:Array qe)(c:Nat)(ss:qg),q=Except.ok (Flow.ret (.ref s.heap.objs.size))/\t={s with heap:=g,toks:=k,drawn:=d'}/\(∀b o,s.heap.get? b=some o->g.get? b=some o) /\
    g.get? s.heap.objs.size=some {cls:=.type "list",dict:=none,data:=.seq got c,slots:=#[]}/\StrsAre got.toList ss/\ss.Perm ks)
  calm a s.heap.objs.size (jZ i) (.ref s.heap.objs.size) 0 there d
  (λg k d' got c ss keep at' all pm=>⟨g,k,d',got,c,ss,U,U,λb o e=>keep b o (qR (qM e)) (qr _ e),at',all,pm⟩)
 have done:∀(g:Heap)(k:Nat)(d':Drawn)(got:Array qe)(c:Nat)(ss:qg),(∀b o,s.heap.get? b=some o->g.get? b=some o)->g.get? s.heap.objs.size=some {cls:=.type "list",dict:=none,data:=.seq got c,slots:=#[]}->StrsAre got.toList ss->ss.Perm ks ->
  wpAny (model prog w) A (do match (<-load s.heap.objs.size).data with
   |.seq xs _=>pure xs.toList
   |_=>unsupported "internal:collect") R E {s with heap:=g,toks:=k,drawn:=d'}:=λg k d' got c ss keep at' all pm=>
  qk (wpAny_load at' (qq (fin g k d' got.toList ss keep (qM at') all pm)))
 unfold collect;apply qk;apply wY;apply jd entry_proto_collect';rw[zW F.plain_proto_collect _];show wpAny _ A.in1 (newList []>>=λz=>again (.builtin "list.__iadd__" ⟨[z,.ref r],[]⟩)) _ _ s;apply qk;refine zr ?_;apply qq;refine⟨jN vq _,?_⟩;apply jd entry_list_iadd';rw[zW vq _];refine zy walked (λf t q=>?_) (λe t q=>?_)
 .cases f with
  |done f=>
   obtain⟨g,k,d',got,c,ss,e,rfl,keep,at',all,pm⟩:=q;cases e;exact done g k d' got c ss keep at' all pm
  |again j=>
   refine⟨q.1,js q.2 λz l y=>?_⟩;obtain⟨g,k,d',got,c,ss,rfl,rfl,keep,at',all,pm⟩:=y;exact done g k d' got c ss keep at' all pm
 .obtain⟨_,_,_,_,_,_,j,_⟩:=q;cases j
end
variable {X:Cx}
theorem Inv.drew{pins:qa (qd×Obj)}{σ:St}{H:Hp}{s:Shared}(I:Inv X pins σ H s)(d:Drawn):Inv X pins σ H {s with drawn:=d}:=
 ⟨I.ok,I.os,I.bare,I.base,I.loc,I.cell,I.free,I.jR,I.pin,I.hok,I.len⟩
def VU(P:Program)(w:World)(a:qd)(ks:qg):HO:=.ext λh=>Vf P w (!w.params.followText "set-order") a ks h
theorem F1{P:Program}{w:World}{a:qd}{ks:qg}{H:Hp}{h:Heap}(x:Vf P w (!w.params.followText "set-order") a ks h):QP P w H h a (VU P w a ks):=
 ⟨x,let ⟨o,_,_,_,e,_⟩:=x;⟨o,e⟩,λ_ _ y k=>y.at k⟩
theorem OD(hc:X.calm=true):Y7 X (.type "set") (λxs H Q=>∃(p:qd)(ss:qg),xs=[.ref p]/\zN X.K H p (ss.map V.str)/\ss.length<=1000/\∀l,H l=none->Q (.ref l) (upd H l (VU X.prog X.w l (ss.foldl YG [])))):=by
 intro pins s σ H xs us Q I r h;obtain⟨p,ss,rfl,hS,g,q⟩:=h;obtain⟨u,rfl,e⟩:=Um r;cases e;obtain⟨its,c,pl,_⟩:=I.list hS;have a:=UC c;have hlen:its.length=ss.length:=by have:=c.length;rw[ql] at this;exact this.symm
 refine ER (ss:=ss) (I.ok.hd hc) pl.isList (by simpa using a) (by rw[qV];show _<4096;omega) λh' f a1 a2=>?_;exact⟨.ref s.heap.objs.size,_,I.laid (t':=f) (λb u d=>a2 b u (qM d) d) (qz _) (F1 a1),U,q _ (I.hok.fresh (qz _))⟩
theorem VY(hc:X.calm=true):Y7 X (.builtin "sorted") (λxs H Q=>∃p ks,xs=[.ref p]/\H p=some (VU X.prog X.w p ks)/\ks.length<64/\∀l,H l=none->Q (.ref l) (upd H l (.lst ((Q3 ks).map V.str)))):=by
 intro pins s σ H xs us Q I r h;obtain⟨p,ks,rfl,w,K,q⟩:=h;obtain⟨u,rfl,x⟩:=Um r;cases x;obtain⟨hS,_,_⟩:=(show QP X.prog X.w H s.heap p (VU X.prog X.w p ks) from I.hok p _ w);have y:X.A.in1.handled=none:=I.ok.hd hc;refine vh kind_sorted plain_sorted entry_sorted (args_sorted1 _) ?_;unfold Builtin.«sorted»;refine qk (m:=checkCount "sorted" 1 1 _) (qq ?_);refine qk (DF (A:=X.A.in1) y hS (Yd (⋯)) λh' z d' acc ss B j a f=>?_);have k:acc.length=ss.length:=V7 a;have C:ss.length=ks.length:=f.length_eq;refine qk (xH ?_ (by rw[k];exact Yd (⋯)));have c:(h'.push (seqObj "list" acc.toArray 0)).get? h'.objs.size=some (seqObj "list" acc.toArray 0):=qI _ rfl;refine qk (zH (zA slot_list_sort ⟨_,c,U⟩ entry_list_sort (list_sort_treeK strKind_oneLt c a.keysOf (λt v rest e=>keyKind_strs (by rw[<-e];exact a)) ⋯ λd a1 a2=>⟨_,U,?_⟩) (args_list_sort _)));refine qq ⟨_,U,?_⟩;obtain⟨n,D,E,F⟩:=sorted_out_str a a1 a2;obtain⟨e,he⟩:=sortedHeap_at (out:=(arrOf d).map (·.2)) c;have o:n=Q3 ks:=(Xe E (D4 F)).trans (V8 f);subst o;have hsz:s.heap.objs.size<=h'.objs.size:=yl j;have old:∀b u,s.heap.get? b=some u->(sortedHeap (h'.push (seqObj "list" acc.toArray 0)) h'.objs.size acc ((arrOf d).map (·.2))).get? b=some u:=λb u G=>by
  have g:=B b u G;have i:=qM g;rw[sortedHeap_old (qR i) (by rw[gP];exact zT i)];exact qr _ g
 have J:=I.laid (t':=z) old hsz (show QP X.prog X.w (upd H h'.objs.size (.lst ((Q3 ks).map V.str))) _ _ (.lst ((Q3 ks).map V.str)) from⟨by rw[ql,UE];exact Yd (⋯),((arrOf d).map (·.2)).toList,e,UU D,by rw[jQ];exact he⟩);exact⟨.ref h'.objs.size,_,J.drew d',U,q _ (I.hok.fresh hsz)⟩
theorem Ac:isSubtype (.type "tuple") (.type "set")=pure false:=by rw[kT];kernel_rfl
theorem WQ:isSubtype (.type "tuple") (.type "frozenset")=pure false:=by rw[kT];kernel_rfl
section
variable {prog:Program}{w:World}{A:Around}{E:qh}{s:Shared}
set_option maxHeartbeats 3200000 in
theorem DH{l:qd}{items:Array qe}{ss:qg}{Q:qh}(M:A.handled=none)(N:s.heap.IsTuple l items)(C:StrsAre items.toList ss)(k:items.size+1<scanBound)
 (h:∀(h':Heap)(m:Nat),Vf prog w (!w.params.followText "set-order") s.heap.objs.size (ss.foldl YG []) h'->(∀b o,b<s.heap.objs.size->s.heap.get? b=some o->h'.get? b=some o)->Q (.ref s.heap.objs.size) {s with heap:=h',toks:=m}) :
 wpAny (model prog w) A (call (.type "set") [.ref l]) Q E s:=by
 obtain⟨c,Z,m1⟩:=z7.mro;have m2:=z7.made;have m3:=z7.sub;have m4:=z7.notType;have m5:=z7.canCreate;have m6:=F.typeCall_set_1 (.ref l);refine kM (codeAny_of_tree ?_);show wpAny _ _ (callAny (.type "set") _) _ _ _;refine qq ⟨Code.quiet_builtin _ ∅,jd F.entry_type_call ?_⟩;rw[Around.under_plain (weight_type_call_type "set" [.ref l] []) rfl]
 repeat (any_goals (first|assumption|wp_step))
 refine js (AQ (.ref l) (E:=E) (R:=λz n=>z=.ref s.heap.objs.size/\n={s with heap:=s.heap.push (YZ w)}) ⟨U,U⟩) λr D p=>?_
 cases r with
 |error e=>exact p
 |ok O=>
  cases O with
  |ret z=>
   obtain⟨rfl,rfl⟩:=p;have n:(s.heap.push (YZ w)).get? s.heap.objs.size=some (YZ w):=qI _ rfl;have G:Shared.TypeIs {s with heap:=s.heap.push (YZ w)} (.ref s.heap.objs.size) "set":=⟨_,n,U⟩;have z3:=z7.init.lookup;have z4:=z7.init.bind (.ref s.heap.objs.size)
   repeat (any_goals (first|assumption|wp_step))
   refine js (codeAny_call_builtin (R:=wants (λr d=>r=.none/\∃h' m,d={s with heap:=h',toks:=m}/\Vf prog w (!w.params.followText "set-order") s.heap.objs.size (ss.foldl YG []) h' /\
    (∀b o,b<s.heap.objs.size->s.heap.get? b=some o->h'.get? b=some o)) E) z7.init.plain F.entry_set_init (check_set_init_1 G ?_)) λg d a=>?_
   .obtain⟨ol,H,I,nl,J⟩:=N;obtain⟨K,f,q,oslots⟩:=ol;simp only at I J;subst I;subst J;have L:(s.heap.push (YZ w)).get? l=some {cls:=.type "tuple",dict:=f,data:=.seq items nl,slots:=oslots}:=qr _ H;have y2:=Ac;have y3:=WQ;have y4:(Value.type "tuple"==Value.type "dict")=false:=by decide
    have u:(s.heap.push (YZ w)).IsTuple l items:=⟨_,L,U,nl,U⟩;unfold Builtin.«set.__init__» noKeywords Builtin.Frozenset.updateFrom;generalize x:pyIter=PI;unfold YZ at n G L u⊢
    wp_walk
    subst x;refine wpAny_pyIter_tuple u ?_;refine qk (wY ?_);have lt:l<s.heap.objs.size:=qM H;have P:A.in1.in1.in1.handled=none:=by simp[M]
    have ne:l≠(s.heap.push {cls:=.type "set",dict:=none,data:=.set #[] 0 (.fresh 0 0 (!w.params.followText "set-order"))}).objs.size:=by
     rw[jr];exact qR (zT lt)
    have S:s.heap.objs.size∉[(s.heap.push {cls:=.type "set",dict:=none,data:=.set #[] 0 (.fresh 0 0 (!w.params.followText "set-order"))}).objs.size,l]:=by
     rw[jr];intro z;rcases qC.mp z with z|z
     .omega
     .rw[qt.mp z] at lt;exact zQ _ lt
    have T:∀(i:Nat)(v:qe),items[i]?=some v->∃t,v=.str ((λi=>ss.getD i "") i) t:=λi v e=>Bm C i v (by rw[zw];exact e);have es:Gw (λi=>ss.getD i "") items.size=ss.foldl YG []:=by
     unfold Gw;rw[<-ze,V7 C,Gf]
    refine K9 (led:=!w.params.followText "set-order") ((Walks.tuple P _ l ne items).toS) s.heap.objs.size S (λi=>ss.getD i "") T k (items.size-0) 0 _ ⋯ (za _) ⟨⟨_,qI _ rfl,U,U⟩,u.push _⟩ ?S0 ?R0
    case S0=>exact(RR (prog:=prog) (w:=w) (s:=s)).at λo e=>qr _ e
    case R0=>
     intro s' hm j;obtain⟨h',g',d',y,B⟩:=s';have V:g'=s.gens:=hm.gens;have X:d'=s.drawn:=hm.drawn;have Y:B=s.os:=hm.os;subst V;subst X;subst Y;rw[es] at j;refine qq (qq ⟨U,h',y,U,j,λb o k e=>?_⟩);refine hm.heap b o (λz=>?_) (qr _ (qr _ e));rcases qC.mp z with z|z
     .exact absurd z (qR k)
     .have z:=qt.mp z;rw[jr] at z;exact absurd z (qR (zT k))
   .cases g with
    |error e=>exact a
    |ok f=>
     cases f with
     |ret r=>
      obtain⟨rfl,h',m,rfl,a1,a2⟩:=a
      repeat (any_goals (first|assumption|wp_step))
      exact h _ _ a1 a2
     |_=>exact a.elim
  |_=>exact p.elim
end
theorem DI{X:Cx}(hc:X.calm=true):Y7 X (.type "set") (λxs H Q=>∃(p:qd)(ss:qg),xs=[.ref p]/\jj X.K H p (ss.map V.str)/\ss.length<=1000/\∀l,H l=none->Q (.ref l) (upd H l (VU X.prog X.w l (ss.foldl YG [])))):=by
 intro pins s σ H xs us Q I r h;obtain⟨p,ss,rfl,hS,g,q⟩:=h;obtain⟨u,rfl,e⟩:=Um r;cases e;obtain⟨its,c,pl,_⟩:=I.tuple hS;have a:=UC c;have hlen:its.length=ss.length:=by have:=c.length;rw[ql] at this;exact this.symm
 refine DH (ss:=ss) (I.ok.hd hc) pl (by simpa using a) (by rw[qV];show _<4096;omega) λh' f a1 a2=>?_;exact⟨.ref s.heap.objs.size,_,I.laid (t':=f) (λb u d=>a2 b u (qM d) d) (qz _) (F1 a1),U,q _ (I.hok.fresh (qz _))⟩
def dd(ss:qg):qg:=ss.foldl YG []
theorem HW:∀(ss acc:qg){x:qc},x∈ss.foldl YG acc↔x∈acc\/x∈ss
 |[],acc,x=>by simp
 |y::ss,acc,x=>by
  rw[ya,HW ss (YG acc y),Bz,qC,or_assoc]
theorem Ow:∀(ss acc:qg),acc.Nodup->(ss.foldl YG acc).Nodup
 |[],_,h=>h
 |y::ss,acc,h=>Ow ss (YG acc y) (EU h)
theorem Eu{ss:qg}{x:qc}:x∈dd ss↔x∈ss:=by unfold dd;rw[HW];simp
theorem Ox(ss:qg):(dd ss).Nodup:=Ow ss [] z6
theorem HX:∀(ss acc:qg),(ss.foldl YG acc).length<=acc.length+ss.length
 |[],acc=>by simp
 |y::ss,acc=>by
  have a:=HX ss (YG acc y);have:(YG acc y).length<=acc.length+1:=by unfold YG;split<;>simp
  rw[ya,zc];omega
theorem Oy(ss:qg):(dd ss).length<=ss.length:=by have:=HX ss [];simpa[dd] using this
def SS(ss:qg):qg:=Q3 (dd ss)
theorem Ew{ss:qg}{x:qc}:x∈SS ss↔x∈ss:=XE.trans Eu
theorem OR{a b:qg}(h:∀x,x∈a↔x∈b):SS a=SS b:=V8 ((List.perm_ext_iff_of_nodup (Ox a) (Ox b)).mpr λx=>Eu.trans ((h x).trans Eu.symm))
theorem R3(ss:qg):(SS ss).Nodup:=(UD _).nodup_iff.mpr (Ox ss)
theorem Rz(l:qg):SS (SS l)=SS l:=OR λ_=>Ew
theorem Kp{X:Cx}(hc:X.calm=true):Y7 X (.type "set") (λxs H Q=>∃(p:qd)(ss:qg),xs=[.ref p]/\(zN X.K H p (ss.map V.str)\/jj X.K H p (ss.map V.str))/\ss.length<=1000/\∀l,H l=none->Q (.ref l) (upd H l (VU X.prog X.w l (dd ss)))):=by
 intro pins s σ H xs us Q I r h;obtain⟨p,ss,e,hS|hS,a,q⟩:=h
 .exact OD hc pins s σ H xs us Q I r ⟨p,ss,e,hS,a,q⟩
 .exact DI hc pins s σ H xs us Q I r ⟨p,ss,e,hS,a,q⟩
inductive Dv(R:(It->Hp->Prop))(x:V)(H1:Hp):Prop
 |mk:∀a kvs,x=.ref a->((∃oa,H1 a=some (.jO oa (.dK kvs))/\R (Itd a oa kvs) H1)\/(H1 a=some (.dK kvs)/\∀oa,R (Itd a oa kvs) (upd H1 a (.jO oa (.dK kvs)))))->Dv R x H1
def Tw(a:TE):TI:=λσ H R=>a σ H λx H1=>Dv R x H1
theorem MP{X:Cx}{n l:Expr}{k:TE}(p:PE X l k):PI X n l (Tw k):=by
 intro pins s σ H R I h;refine z5 (p pins s σ H _ I h) λv s1 ⟨x,H1,m,r,t⟩=>?_;obtain⟨a,d,e,q⟩:=t;subst e;cases r;obtain⟨c,f,i,g,u⟩:∃(c:Obj)(f:Hp),Inv X pins σ f s1/\f a=some (.jO c (.dK d))/\R (Itd a c d) f:=by
  rcases q with⟨c,g,q⟩|⟨g,q⟩
  .exact⟨c,H1,m,g,q⟩
  .obtain⟨c,J⟩:=m.freeze g;exact⟨c,_,J,Qb,q c⟩
 obtain⟨j,vs,es,w,y,hd,hm⟩:=Vj i.hok g;have z:=KV.length y;refine wpAny_pyIter_dict j hm ⟨s1.heap.objs.size,[s1.heap.objs.size],_,_,f,U,i.kept (t':=s1.toks) λb o e=>qr _ e,Am a _ c d es w hd,⟨_,qI _ rfl,U,by rw[z];rfl⟩,λb A=>?_,u⟩;obtain rfl:b=s1.heap.objs.size:=by simpa using A
 exact i.vC (qz _) (i.hok.fresh (qz _))
theorem Kl{K:Frag}{a:qd}{α:Type}{xs:qa α}{fr:qa (Nat×qc)}{tt:TT}{r:TE}{σ:St}{H1:Hp}{Q:VK}(g:α->V)(pr:α->Bool)(f:α->V)(hz:xs.length<=sizeLine)(hS:zN K H1 a (xs.map g))
 (n:∀(x:α)(c:Hp)(Q':Bool->Hp->Prop),x∈xs->Qi H1 c->(∀j,Qi c j->Q' (pr x) j)->tt (some (g x)::yx σ fr) c Q')
 (o:∀(x:α)(c:Hp)(Q':VK),x∈xs->Qi H1 c->pr x=true->(∀j,Qi c j->Q' (f x) j)->r (some (g x)::yx σ fr) c Q')
 (u:∀D d,H1 D=none->Qi H1 d->d D=some (.lst ((xs.filter pr).map f))->Q (.ref D) d) :
 YB (g7 K a) fr tt r σ H1 Q:=by
 intro D p;refine⟨λi m ys d=>m=xs.length-i/\i<=xs.length/\ys=((xs.take i).filter pr).map f/\Qi H1 d/\d D=some (.lst ys),⟨xs.length,by simp,za _,by simp,Qi.zq p,Qb⟩,?_⟩;rintro i m ys d ⟨rfl,y,rfl,s2,k⟩;refine⟨k,?_⟩;have h:=s2.seq hS;by_cases b:i<xs.length
 .have l:(xs.map g)[i]?=some (g xs[i]):=by rw[qQ,qv b];rfl
  refine .inr ⟨⟨xs.map g,g xs[i],h,l⟩,?_⟩;rintro v c ⟨rfl,w⟩;have s:(xs.map g)[i]?=some v:=w _ h;rw[l] at s;cases s;have hm:xs[i]∈xs:=zu b;have t:xs.take (i+1)=xs.take i++[xs[i]]:=by rw[zR,qv b];rfl
  refine n xs[i] _ _ hm s2 λj s4=>?_
  cases q:pr xs[i] with
  |false=>
   refine QC ⟨xs.length-(i+1),⋯,U,b,?_,s2.trans s4,s4 _ _ k⟩;rw[t,zz,zk,q];simp
  |true=>
   refine QT (o xs[i] _ _ hm (s2.trans s4) q λz s5=>⟨s5 _ _ (s4 _ _ k),?_,xs.length-(i+1),⋯,U,b,?_,((s2.trans s4).trans s5).jl p,Qb⟩)
   .have:=zh pr (xs.take i);rw[zY] at this;rw[ql];omega
   .rw[t,zz,zk,q];simp
 .have e:i=xs.length:=by omega
  subst e;have l:xs.take xs.length=xs:=ja (qz _);rw[l] at k;exact .inl ⟨⟨xs.map g,h,by rw[ql];exact qz _⟩,u D d p s2 k⟩
variable {P:Program}{w:World}{H:Hp}{B h h1 h2:Heap}{C e:qd}
theorem QP.there{a:qd}{o:HO}(x:QP P w H h a o):∃b,h.get? a=some b:=by
 cases o with
 |lst xs=>obtain⟨_,_,_,_,e⟩:=x;exact⟨_,e⟩
 |tup xs=>obtain⟨_,_,_,b,e,_⟩:=x;exact⟨_,e⟩
 |dK c=>obtain⟨_,_,_,_,o,_,_,e,_⟩:=x;exact⟨_,e⟩
 |dT c=>obtain⟨_,_,_,_,o,_,_,e,_⟩:=x;exact⟨_,e⟩
 |set S n=>obtain⟨o,_,_,_,e,_⟩:=x;exact⟨_,e⟩
 |ins C d c=>obtain⟨_,_,_,e,_⟩:=x;exact⟨_,e⟩
 |own y=>exact x
 |xd c=>obtain⟨_,⟨_,_,_,e,_⟩,_⟩:=x;exact⟨_,e⟩
 |rng lo c=>obtain⟨_,_,_,e⟩:=x;exact⟨_,e⟩
 |jO b u=>obtain⟨e,_⟩:=x;exact⟨_,e⟩
 |gQ ps=>exact⟨_,(show h.get? a=some _ from x)⟩
 |met f y=>exact⟨_,(show h.get? a=some _ from x)⟩
 |ext c=>obtain⟨_,e,_⟩:=x;exact e
def Cov(c:qa qd)(H:Hp)(h B:Heap):Prop:=∀b o,h.get? b=some o->b∉c->∃a,B.get? b=some a/\(H b=none->a=o)
def uE(H:Hp)(h B:Heap):Prop:=∀b o,H b≠none->h.get? b=some o->B.get? b=some o
theorem Un.flown{c:qa qd}{H':Hp}(u:Un c [] H H' h h1)(g:Cov c H h B)(st:B.StaysIn h2)(sl:h1.UpToSlots h2)(fr:∀b∈c,∀o,h1.get? b=some o->∀vs,o.data≠.fields vs):Un c [] H H' h h2 where
 keep:=λb o q n a _=>by
  obtain⟨i,e,z⟩:=g b o q a;rw[z n] at e;exact st _ _ e
 slot:=λb o q n a f=>by
  obtain⟨s0,e⟩:=u.slot b o q n a f;obtain⟨s1,d⟩:=sl b _ e (fr b a _ e);exact⟨s1,d⟩
 free:=u.free
 there:=λb o q f=>by
  by_cases a:b∈c
  .obtain⟨j,d⟩:=u.there b o q f;obtain⟨_,k⟩:=sl b j d (fr b a j d);exact⟨_,k⟩
  .obtain⟨i,e,_⟩:=g b o q a;exact⟨i,st _ _ e⟩
 tups:=u.tups
 xC:=u.xC
 ke:=u.ke
theorem yK.flown(x:yK P w H h1)(ct:uE H h1 B)(st:B.StaysIn h2):yK P w H h2:=λa o e=>
 (x a o e).stay (λb u c q=>st b u (ct b u (λz=>by
   rcases c with rfl|c
   .rw[z] at e;cases e
   .rw[z] at c;cases c) q)) (λ_ q=>q) λ_ _ q=>q
theorem uE.flown(x:yK P w H h1)(ct:uE H h1 B)(st:B.StaysIn h2):uE H h2 B:=λb o n q=>by
 cases e:H b with
 |none=>exact absurd e n
 |some u=>
  obtain⟨d,f⟩:=(x b u e).there;have a:=ct b d n f;have c:=st _ _ a;rw[q] at c;cases c;exact a
structure Fly(P:Program)(w:World)(l:qa Env)(H:Hp)(s:Shared)(e C:qd)(H':Hp)(s':Shared):Prop where
 os:s'.os=s.os
 bare:AllBare s'.gens
 un:Un (frs l) [] H H' s.heap s'.heap
 hok:yK P w H' s'.heap
 fr:H' e=none
 nw:s.heap.get? e=none
 fly:∃(B:Heap)(a0:qe),Heap.FlyingW B l e (.ref C) a0 s'.heap/\Cov (frs l) H s.heap B/\uE H' s'.heap B
section
variable {X:Cx}{pins:qa (qd×Obj)}{σ:St}{Hc H':Hp}{sc:Shared}
theorem HN{s1:Shared}{g:qe}(I:Inv X pins σ Hc sc)(hex:X.ex=[])(un:Un (frs X.stack) [] Hc H' sc.heap s1.heap)(os:s1.os=sc.os)(bare:AllBare s1.gens)(hok:yK X.prog X.w H' s1.heap)
 (he:H' e=none) (nw:sc.heap.get? e=none) (d:Heap.FlyingW B X.outer e (.ref C) g h2) (h:Cov (frs X.stack) Hc sc.heap B) (ct:uE H' s1.heap B) (sl:s1.heap.UpToSlots h2) (l:∀b∈frs X.stack,∀o,s1.heap.get? b=some o->∀vs,o.data≠.fields vs) :
 Fly X.prog X.w X.outer X.H₀ X.s₀ e C H' {s1 with heap:=h2}:=by
 have f:=un.flown h d.1 sl l;have c:=hok.flown ct d.1;have J:Inv X pins σ H' {s1 with heap:=h2}:=I.call' (s':={s1 with heap:=h2}) (ch:=[]) os f c bare nofun;have base:=J.base;rw[hex] at base;have a:=I.base;rw[hex] at a;refine⟨J.os,J.bare,base,J.hok,he,?_,B,g,d,λb o e i=>?_,ct.flown hok d.1⟩
 .cases q:X.s₀.heap.get? e with
  |none=>rfl
  |some o=>
   obtain⟨j,k⟩:=a.there e o q nofun;rw[nw] at k;cases k
 .obtain⟨m,k⟩:=a.there b o e nofun;have nb:b∉frs X.stack:=λz=>(qC.mp (I.kh b z)).elim (λz=>absurd (qU (qM e) I.ok.above) (by rw[z];exact zQ _)) i;obtain⟨j,p,z⟩:=h b m k nb;refine⟨j,p,λn=>?_⟩;have:=a.keep b o e n i nofun;rw[k] at this;cases this;exact z (a.free b o e n nofun)
end
structure Xcl(K:Frag)(C:qd):Prop where
 q:excIn K C NB "ValueError.__new__"=true
inductive cz(h:Heap)(C:qd):Prop
 |mk:∀bm N nm q bs hdct sn sub ab col dd k0 k1 k2 k3 k5 mN,h.get? C=some (excClassObj nm q C N bs bm hdct sn sub ab col dd k0 k1 k2 k3 k5 "ValueError.__new__")->h.Ns N mN->mN "__init__"=none->OwnTail h NB bm->cz h C
theorem Xcl.obj{K:Frag}(x:Xcl K C)(X:K.In h):cz h C:=by
 have q:=x.q;unfold excIn at q;split at q
 .rename_i dd cd sl i
  split at q
  .rename_i t bm k0 k1 k2 k3 n k5 hm g
   rw[qG,qG,qG,qG,qG] at q;obtain⟨⟨⟨⟨⟨b,c⟩,d⟩,j⟩,e⟩,a⟩:=q;have b:=j0.mp b;have c:=j0.mp c;rw[z0] at d;obtain⟨a1,a2,u,k,l,m,o,p,r,f,s⟩:=cd;obtain⟨ls⟩:=sl;dsimp only at hm d e a g;have a:=j0.mp a;subst hm d g b c;exact⟨bm,k,a1,l,a2,m,o,p,r,f,dd,k0,k1,k2,k3,k5,_,X _ _ i,.of_isNs (PySem.W.isNs_of_in X e),PySem.W.nsMap_none_of_in X e a,PySem.W.tail_of_in X j⟩
  .cases q
 .cases q
def Si(C:qd)(E:XK)(a:TA):TS:=λ_ σ H=>a σ H λvs H1=>vs.length<=sizeLine/\E (.ref C) none H1
def BS(a:wC)(X:Cx)(R:St->XK):Prop:=∀(pins:qa (qd×Obj))(σ:St)(H:Hp)(s:Shared)(e:qe)(s':Shared),Inv X pins σ H s->a X.stack H s (R σ) e s'->X.xe e s'
inductive B6(C:qd)(m:qc)(sp:Sp)(xk:qa V)(R:St->XK)(t:TA)(σ:St)(Q:VK)(x:V)(H1:Hp):Prop
 |mk:∀a dx fs,x=.ref a->H1 a=some (.ins C dx fs)->fs.lookup m=none->(t σ H1 λvs H2=>sp (x::(vs++xk)) H2 Q (R σ))->B6 C m sp xk R t σ Q x H1
def Sj(C:qd)(m:qc)(sp:Sp)(a:qa V)(R:St->XK)(b:TE)(t:TA):TE:=λσ H Q=>b σ H λx H1=>B6 C m sp a R t σ Q x H1
section
variable {X:Cx}{CX:wC}{k:Nat}{f C:qd}{fd:FuncData}{ps:qg}{sp:Sp}{xk:qa V}{ds:qi}{R:St->XK}{x m:qc}{p pos apos:Pos}{e o:Expr}{es:qa Expr}{ta:TE}{t:TA}
theorem O8{pins:qa (qd×Obj)}{σ:St}{s:Shared}{Q:VK}{us:qi}{vs:qa V}(F:U1 X.prog X.w X.K X.mg X.base CX k f fd ps sp)(c:Yf k X.A)(d:Yy X.K fd ps ds)(hd:QB xk ds)(g:BS CX X R)
 (I:Inv X pins σ H s) (r:QB vs us) (h:sp (vs++xk) H Q (R σ)):wpAny (model X.prog X.w) X.A (call (.ref f) us) (EP X pins σ Q) X.xe s:=by
 have b:QB (vs++xk) (us++ds):=r.append hd;have i:(us++ds).length=ps.length:=by rw[<-b.length];exact F.len _ _ _ _ h
 refine kM (js (F.run X.A X.stack s H ⟨us,[]⟩ (us++ds) (vs++xk) Q (R σ) c I.env0 (d s us I.y0 i) b h) λr s' a=>?_)
 cases r with
 |error e=>exact g pins σ H s e s' I a
 |ok j=>cases j with
  |ret u=>exact I.after a
  |_=>exact False.elim a
theorem MR{pl:Sem Bool}(he:PE X o ta)(c:wg X.K C)(hm:DS X.K C m f)(F:U1 X.prog X.w X.K X.mg X.base CX k f fd ps sp)(n:Yf k X.A)(p:Yy X.K fd ps ds)(hd:QB xk ds)(v:BS CX X R)(w:PA X (e::es) t)
 (b:starEach (e::es) X.env=(false,eval e X.env)::starEach es X.env:=by rfl) (d:(backTo pos (starEach es X.env)).any (·.1)=false:=by rfl)
 (y:eval (.Call (.Attribute o m apos) (e::es) [] pos) X.env=(do
   let g <-eval o X.env
   standAt apos.atName
   let (f,first) <-holding [g] (getMethod g m pl)
   callWith pos f first (backTo pos (starEach (e::es) X.env)) (backToKw pos (keywordEach [] X.env))):=by rfl) :
 PE X (.Call (.Attribute o m apos) (e::es) [] pos) (Sj C m sp xk R ta t):=by
 intro pins s σ H Q I h;refine methodCall_KW (pl:=pl) (z5 (he pins s σ H _ I h) λu s1 ⟨x,H1,i,z,a,D,E,ex,A,l,q⟩=>?_) y;subst ex;obtain rfl:u=Value.ref a:=z;refine W9 i A c hm l ?_;refine callWith_K (first:=[.ref a]) (h₀:=X.base) I.ok.mod.wx hm.kp (z5 (w pos pins s1 σ H1 _ i q) λus s2 ⟨vs,G,j,r,B⟩=>⟨j.y0,?_⟩) b d;exact O8 (us:=.ref a::us) (vs:=.ref a::vs) F n p hd v j (.cons rfl r) B
end
def mroIn(K:Frag)(C D:qd):Bool:=match K.lookup C with
 |some ⟨_,_,.cls cd,_⟩=>cd.mro.contains (.ref D)
 |_=>false
structure Sub(K:Frag)(C D:qd):Prop where
 c:Xcl K C
 s:mroIn K C D=true
theorem Sub.has{K:Frag}{D N:qd}(x:Sub K C D)(X:K.In h){nm q:qc}{bs bm:qi}{hdct:Bool}{sn:qg}{sub:qi}{ab:Bool}{col:Option Bool}{dd:Option qd}{k0 k1 k2 k3 k5:Option qe}{newId:String}
 (a:h.get? C=some (excClassObj nm q C N bs bm hdct sn sub ab col dd k0 k1 k2 k3 k5 newId)):(Value.ref C::bm).contains (.ref D)=true:=by
 have s:=x.s;unfold mroIn at s;split at s
 .rename_i b
  have e:=X _ _ b;rw[a] at e;cases e;exact s
 .cases s
theorem Dg{M:Model}{A:Around}{E:qh}{g:Array GenState}{d:Drawn}{t:Nat}{os:OsState}{D N N':qd}{s:Obj}{Q:Bool->Shared->Prop}
 {nm q m v:qc} {bs bm n a:qi} {hdct b:Bool} {sn o:qg} {sub i:qi} {ab p:Bool} {col j:Option Bool} {dd r:Option qd} {k0 k1 k2 k3 k5 w x y z B:Option qe} {newId newId':String}
 (F:h.get? C=some (excClassObj nm q C N bs bm hdct sn sub ab col dd k0 k1 k2 k3 k5 newId)) (u:h.get? D=some (excClassObj m v D N' n a b o i p j r w x y z B newId')) (he:h.get? e=some s) (k:s.cls=.ref C)
 (c:a.contains (.type "BaseException")=true) (l:(Value.ref C::bm).contains (.ref D)=true) (G:Q true ⟨h,g,d,t,os⟩):wpAny M A (excMatches (.ref e) (.ref D)) Q E ⟨h,g,d,t,os⟩:=by
 have H:(Value.ref D::a).contains (.type "BaseException")=true:=by rw[List.contains_cons,c,Bool.or_true]
 have f:=tc_notTuple;unfold excMatches
 repeat (first|(with_reducible refine wpAny_loadPart_at he ?_;rw[k])|(with_reducible refine wpAny_loadPart_at u ?_)|(with_reducible refine wpAny_isSubtype_exc u ?_;rw[H])|(with_reducible refine wpAny_isSubtype_exc F ?_;rw[l])|wp_step)
 exact G
def hnd(X:Cx)(ev:qe):Cx:={X with A:=X.A.mark (some ev),calm:=false,xe:=λ_ _=>False}
section
variable {X:Cx}{pins gc:qa (qd×Obj)}{σ:St}{H:Hp}{s:Shared}{R:St->XK}
theorem Inv.inhnd(I:Inv X pins σ H s)(ev:qe):Inv (hnd X ev) pins σ H s:=
 ⟨⟨I.ok.mod,I.ok.kind,I.ok.glob,I.ok.blt,I.ok.above,I.ok.inj,I.ok.has,I.ok.cab,nofun,I.ok.frames,I.ok.gR,I.ok.wM,I.ok.bs,I.ok.vF,I.ok.va,I.ok.vb,I.ok.y7,I.ok.wI⟩,I.os,I.bare,I.base,I.loc,I.cell,I.free,I.jR,I.pin,I.hok,I.len⟩
theorem Inv.vA{ev:qe}(ok:X.Ok)(I:Inv (hnd X ev) pins σ H s):Inv X pins σ H s:=
 ⟨ok,I.os,I.bare,I.base,I.loc,I.cell,I.free,I.jR,I.pin,I.hok,I.len⟩
theorem SP.vA{ev:qe}{D:VE}{f:Flow}(ok:X.Ok)(h:SP (hnd X ev) pins D f s):SP X pins D f s:=by
 cases f with
 |ret u=>obtain⟨v,a,H',I,r,q⟩:=h;exact⟨v,a,H',I.vA ok,r,q⟩
 |_=>obtain⟨a,H',I,q⟩:=h;exact⟨a,H',I.vA ok,q⟩
theorem Fly.inv{H':Hp}{s1:Shared}{l:qa Env}{c:qe}(F:Fly X.prog X.w X.stack H s e C H' s1)(I:Inv X pins σ H s)(f:Heap.FlyingW B X.stack e (.ref C) c s1.heap)(g:Cov (frs X.stack) H s.heap B)(ct:uE H' s1.heap B)
 (st:B.StaysIn h2) (sl:s1.heap.UpToSlots h2):Inv X pins σ H' {s1 with heap:=h2}:=
 I.call' (s':={s1 with heap:=h2}) (ch:=[]) F.os (F.un.flown g st sl λb h o e=>by
  obtain⟨_,i,a,d⟩:=f.2.2.1.mem h;rw[e] at a;cases a;exact d) (F.hok.flown ct st) F.bare nofun
end
theorem Vr{t u:TS}{D:VE}{σ:St}{H:Hp}(h:∀N:St->Hp->Prop,N=u D->t {D with nx:=N} σ H):V0 t u D σ H:=h _ rfl
theorem Tg{K:Frag}{C D:qd}(e:PySem.W.mroIn K C (.ref D)=some true):L2.mroIn K C D=true:=by
 unfold PySem.W.mroIn PySem.W.clsIn at e;unfold L2.mroIn
 cases h:K.lookup C with
 |none=>rw[h] at e;cases e
 |some o=>
  rw[h] at e;obtain⟨c,d,dat,sl⟩:=o
  cases dat with
  |cls cd=>
   obtain⟨b,f,a⟩:=Option.bind_eq_some_iff.mp e;cases f;split at a
   .cases a
   .exact qW a
  |_=>cases e
end L2
set_option maxHeartbeats 400000
namespace L2
open PySem PySem.Spec PyProof.Rows
open PySem.Builtin PySem.Builtin.ObjectAttr PySem.Builtin.Getset_descriptor
def XAt(C e:qd)(h:Heap):Prop:=∃o,h.get? e=some o/\o.cls=.ref C
theorem XAt.type{C e:qd}{h:Heap}(x:XAt C e h){M:Model}:Looks M h (typeOf (.ref e)) (.ref C):=by
 obtain⟨o,a,b⟩:=x;exact b▸(Looks.ld a).andThen .now
end L2
set_option maxHeartbeats 4000000
namespace L2
open PySem PySem.Spec PyProof.Rows
section
variable {X:Cx}{pins:qa (qd×Obj)}{σ:St}{H:Hp}{s:Shared}
theorem Inv.track{e:qd}{o:HO}(I:Inv X pins σ H s)(d:H e=none)(h0:X.s₀.heap.get? e=none)(g:e≠X.env.locals)(h:∀x c,X.env.cells.lookup x=some c->c≠e)(i:∀p∈X.pn++pins,p.1≠e)
 (ok:QP X.prog X.w (upd H e o) s.heap e o):Inv X pins σ (upd H e o) s where
 ok:=I.ok
 os:=I.os
 bare:=I.bare
 base:=⟨I.base.keep,I.base.slot,λb j q n k=>by
  have f:b≠e:=λz=>by rw[z,h0] at q;cases q
  rw[Qa f];exact I.base.free b j q n k,I.base.there,
  λb xs q=>by have:=I.base.tups b xs q;rw[Qa (Qc this d)];exact this,
  λb o u q=>by have:=I.base.xC b o u q;rw[Qa (Qc this d)];exact this,
  λb ps q=>by obtain⟨more,this⟩:=I.base.ke b ps q;exact⟨more,by rw[Qa (Qc this d)];exact this⟩⟩
 loc:=I.loc
 cell:=I.cell
 free:=by rw[Qa (jL g)];exact I.free
 jR:=λx c q=>by rw[Qa (h x c q)];exact I.jR x c q
 pin:=λp q=>by
  obtain⟨a,b,c⟩:=I.pin p q;exact⟨a,by rw[Qa (i p q)];exact b,c⟩
 hok:=λb u q=>by
  by_cases f:b=e
  .subst f;rw[Qb] at q;cases q;exact ok
  .rw[Qa f] at q;exact(I.hok b u q).stay (λ_ _ _ z=>z) (λc z=>by rw[Qa (Qc z d)];exact z) λc xs z=>by rw[Qa (Qc z d)];exact z
 len:=I.len
theorem KI{M:Model}{A:Around}{E:qh}{i:Nat}{x:qc}{pos:Pos}{Q:Unit->Shared->Prop}(I:Inv X pins σ H s)(hN:X.N.Nodup)(D:X.N[i]?=some x)(J:X.env.scope.names.lookup x=some .local)
 (h:∀s',Inv X pins (σ.set i none) H s'->Q () s'):wpAny M A (do bindName X.env x .none;unbindBehindTheSuite X.env x pos) Q E s:=by
 obtain⟨m,F,K⟩:=id I.loc;have l:(X.env.scope.kind==.class||(X.env.scope.kind==.module&&X.env.locals != X.env.globals))=false:=by rw[I.ok.kind];rfl
 have r:=I.cne;have t:i<σ.length:=by rw[I.len];exact(zm.mp D).1
 obtain⟨V,_,_,L,_⟩:=id F;refine wpAny_nameGoes_keeps J F l λh' v B a=>?_;have f:∀b o,X.s₀.heap.get? b=some o->b≠X.env.locals:=λb o e=>qR (qU (qM e) I.ok.above);refine h _ ⟨I.ok,I.os,I.bare,⟨λb o e n C u=>?_,λb o e n C u=>?_,I.base.free,λb o e u=>?_,I.base.tups,I.base.xC,I.base.ke⟩,⟨_,B,λj y N g w O=>?_⟩,λy c e=>?_,I.free,I.jR,λp P=>?_,λb R e=>?_,by simpa using I.len⟩
 .exact(a.2 b (f b o e)).trans (I.base.keep b o e n C u)
 .obtain⟨sl,g⟩:=I.base.slot b o e n C u;exact⟨sl,(a.2 b (f b o e)).trans g⟩
 .obtain⟨G,g⟩:=I.base.there b o e u;exact⟨G,(a.2 b (f b o e)).trans g⟩
 .have G:j≠i:=λz=>by
   subst z;rw[yL t] at w;cases w
  rw[vL (jL G)] at w;obtain⟨S,T,q⟩:=K j y N g w O;refine⟨S,T,?_⟩;rcases q with⟨k,e⟩|⟨k,c,e,z⟩
  .refine .inl ⟨k,?_⟩;have:y≠x:=λe=>G (Gs hN g (e▸D));simp[this,e]
  .exact .inr ⟨k,c,e,z.sameBut a (r y c e)⟩
 .obtain⟨G,z⟩:=I.cell y c e;exact⟨G,z.sameBut a (r y c e)⟩
 .obtain⟨e,n,ne,S,d⟩:=I.pin p P;exact⟨(a.2 p.1 ne).trans e,n,ne,S,d⟩
 .refine(I.hok b R e).stay (λc G hc q=>(a.2 c ?_).trans q) (λ_ q=>q) λ_ _ q=>q;rintro rfl;rcases hc with rfl|hc
  .rw[I.free] at e;cases e
  .rw[I.free] at hc;cases hc
end
def unb(i:Nat)(D:VE):VE:={nx:=λσ H=>D.nx (σ.set i none) H,rt:=D.rt,bk:=λσ H=>D.bk (σ.set i none) H,ct:=λσ H=>D.ct (σ.set i none) H}
end L2
set_option maxHeartbeats 400000
namespace L2
open PySem PySem.Spec PyProof.Rows
variable {A:Around}{P:Program}{w:World}{mg:qc->Option qe}{base:Heap}{qual:qc}{f:qd}
structure Vk(k:Nat)(A:Around):Prop where
 dp:A.depth+3*k+5<recursionLimit
 un:A.units+16*k+200<cLine
 gd:A.guards=some []
theorem Yf.toU{k:Nat}(r:Yf k A):Vk k A:=⟨r.dp,r.un,r.gd⟩
theorem Vk.mark{k:Nat}(r:Vk k A)(ev:Option qe):Vk k (A.mark ev):=⟨r.dp,r.un,r.gd⟩
theorem Vk.deeper{k:Nat}(r:Vk (k+1) A)(env:Env):Vk k (A.deeper env):=
 ⟨by have:=r.dp;show A.depth+1+3*k+5<_;omega,by have:=r.un;show A.units+3+16*k+200<_;omega,r.gd⟩
theorem Vk.depth{k:Nat}(r:Vk k A):A.depth<recursionLimit:=by have:=r.dp;omega
structure DV(P:Program)(w:World)(K:Frag)(mg:qc->Option qe)(base:Heap)(k:Nat)(f:qd)(fd:FuncData)(ps:qg)(sp:Sp):Prop where
 len:∀vs H Q E,sp vs H Q E->vs.length=ps.length
 run:∀(A:Around)(outer:qa Env)(s:Shared)(H:Hp)(args:Args)(us:qi)(vs:qa V)(Q:VK)(E:XK),Vk k A->Ks P w K mg base A outer s H->BindsTo s fd args (ps.zip us)->QB vs us->sp vs H Q E ->
  codeAny (model P w) A (.call (.ref f) args) (CR jg outer P w H s Q E) s
def cxU(P:Program)(w:World)(K:Frag)(mg:qc->Option qe)(base:Heap)(N:qg)(qual:qc)(scope:Scope)(f:qd)(cd:qe)(A:Around)(outer:qa Env)(s:Shared)(H:Hp)(E:XK):Cx:=
 {Uw jg P w K mg base N qual scope f cd A outer s H E with calm:=false,xe:=λ_ _=>False}
theorem Inv.toU{K:Frag}{N:qg}{scope:Scope}{cd:qe}{outer:qa Env}{s s1:Shared}{H H1:Hp}{E:XK}{σ:St}{pins:qa (qd×Obj)}
 (I:Inv (Uw jg P w K mg base N qual scope f cd {A with handled:=none} outer s H E) pins σ H1 s1):Inv (cxU P w K mg base N qual scope f cd A outer s H E) pins σ H1 s1:=
 ⟨⟨I.ok.mod,I.ok.kind,I.ok.glob,I.ok.blt,I.ok.above,I.ok.inj,I.ok.has,I.ok.cab,nofun,I.ok.frames,I.ok.gR,I.ok.wM,I.ok.bs,I.ok.vF,I.ok.va,I.ok.vb,I.ok.y7,I.ok.wI⟩,I.os,I.bare,I.base,I.loc,I.cell,I.free,I.jR,I.pin,I.hok,I.len⟩
theorem TJ{K:Frag}{k:Nat}{name:qc}{params:Arguments}{body:qa Stmt}{scope:Scope}{B kV doc pm a ct F:qe}{an G:Option qd}
 {l:Array (Option qe)} {N ps:qg} {sp:Sp} (lk:K.lookup f=some ⟨F,G,.func (fnOf name qual params body scope B kV doc pm an a ct),l⟩) (m:codeIn K a qual=true) (S:UL N ps scope)
 (len:∀vs H Q E,sp vs H Q E->vs.length=ps.length)
 (g:∀(A:Around)(outer:qa Env)(s:Shared)(H:Hp)(vs:qa V)(Q:VK)(E:XK),Vk k (A.deeper (envOfC qual scope s.heap.objs.size f a))->sp vs H Q E ->
   ∃t,yU (cxU P w K mg base N qual scope f a A outer s H E) body t/\t {nx:=λ_ H'=>Q .non H',rt:=Q} (start N vs) H) :
 DV P w K mg base (k+1) f (fnOf name qual params body scope B kV doc pm an a ct) ps sp:=by
 refine⟨len,λA outer s H args us vs Q E C c L r j=>?_⟩;have M:=len _ _ _ _ j;have D:K.In s.heap:=c.mod.wx.keeps λb o e=>(c.bs b o e).1;have lim:s.heap.NoLimit:=c.mod.nolimit.keeps λb o e=>(c.bs b o e).1;have h:∀y∈ps.zip us,scope.names.lookup y.1=some .local\/(scope.names.lookup y.1=some .cell/\((cellsFrom (s.heap.objs.size+1) scope.names []).lookup y.1).isSome=true):=λ⟨n,v⟩ O=>by
  rcases S.par n (vm O).1 with q|q
  .exact .inl q
  .exact .inr ⟨q,cellsFrom_some _ _ _ (.inl q)⟩
 refine codeAny_call_function C.depth (D _ _ lk) rfl S.co S.gen rfl (codeRec_of D m) (L _ _ _ _ ?_);refine wpAny_newFunctionEnv_cells S.kind h λenv he s1 x=>?_;subst he;refine⟨lim.keeps x.toInCall.keep,codeAny_func ?_⟩;obtain⟨t,R,T⟩:=g A outer s H vs Q E (C.deeper _) j;have p:Ks P w K mg base {A with handled:=none} outer s H:=⟨c.frames,c.mod,c.bs,c.vF,c.y7,c.wI,c.hok,c.bare⟩;have X:Inv (Uw jg P w K mg base N qual scope f a {A with handled:=none} outer s H E) [] (start N vs) H s1:=AX S rfl p M r x;have I:Inv (cxU P w K mg base N qual scope f a A outer s H E) [] (start N vs) H s1:=X.toU;refine zy (R [] s1 (start N vs) H _ I T) (λY s' i=>?_) λe s' i=>i.elim;have fin:∀{d:St}{H':Hp}{v:V}{u:qe},Inv (cxU P w K mg base N qual scope f a A outer s H E) [] d H' s'->QJ v u->Q v H'->CE outer P w H s Q u s':=
  λ{d H' v u} J z q=>⟨v,H',J.os,J.bare,J.base,J.hok,z,q⟩
 cases Y with
 |ret u=>
  obtain⟨v,d,H',J,z,q⟩:=i;exact fin J z q
 |next=>
  obtain⟨d,H',J,q⟩:=i;exact fin (v:=V.non) (u:=Value.none) J rfl q
 |brk=>
  obtain⟨_,_,_,q⟩:=i;exact False.elim q
 |cont=>
  obtain⟨_,_,_,q⟩:=i;exact False.elim q
theorem vK.okU{K:Frag}{x:qc}{st:Stmt}{fd:FuncData}{N ps:qg}{k:Nat}{sp:Sp}(F:vK K x qual st f fd)(S:UL N ps (Qr st))(len:∀vs H Q E,sp vs H Q E->vs.length=ps.length)
 (b:∀(a:qe)(A:Around)(outer:qa Env)(s:Shared)(H:Hp)(vs:qa V)(Q:VK)(E:XK),Vk k (A.deeper (envOfC qual (Qr st) s.heap.objs.size f a))->sp vs H Q E ->
   ∃t,yU (cxU P w K mg base N qual (Qr st) f a A outer s H E) (QO st) t/\t {nx:=λ_ H'=>Q .non H',rt:=Q} (start N vs) H):DV P w K mg base (k+1) f fd ps sp:=by
 obtain⟨h,i,kV,doc,pm,an,a,ct,e,rfl,lk,c⟩:=F.ex;exact TJ lk c S len λA outer s H vs Q E g d=>b a A outer s H vs Q E g d
section
variable {X:Cx}{k:Nat}{f:qd}{fd:FuncData}{ps:qg}{sp:Sp}{xk:qa V}{ds:qi}{E:XK}{x:qc}{p pos:Pos}{e:Expr}{es:qa Expr}{t:TA}
theorem O9{pins:qa (qd×Obj)}{σ:St}{H:Hp}{s:Shared}{Q:VK}{us:qi}{vs:qa V}(F:DV X.prog X.w X.K X.mg X.base k f fd ps sp)(c:Vk k X.A)(d:Yy X.K fd ps ds)(hd:QB xk ds)
 (I:Inv X pins σ H s) (r:QB vs us) (h:sp (vs++xk) H Q E):wpAny (model X.prog X.w) X.A (call (.ref f) us) (EP X pins σ Q) X.xe s:=by
 have b:QB (vs++xk) (us++ds):=r.append hd;have g:(us++ds).length=ps.length:=by rw[<-b.length];exact F.len _ _ _ _ h
 refine kM (js (F.run X.A X.stack s H ⟨us,[]⟩ (us++ds) (vs++xk) Q E c I.env0 (d s us I.y0 g) b h) λr s' a=>?_)
 cases r with
 |error e=>exact False.elim a
 |ok i=>
  cases i with
  |ret u=>exact I.after a
  |next=>exact False.elim a
  |brk=>exact False.elim a
  |cont=>exact False.elim a
end
end L2
set_option maxHeartbeats 4000000
namespace L2
open PySem PySem.Spec PyProof.Rows
variable {n:Nat}{p:Array Nat}{x:qc}
def xh{α:Type}(lt:Nat->Nat->Bool):W.KasT α->α
 |.ret a=>a
 |.ask i j k=>xh lt (k (lt i j))
inductive xJ{α:Type}(n:Nat)(R:α->Prop):W.KasT α->Prop
 |ret {a:α} (h:R a):xJ n R (.ret a)
 |ask {i j:Nat} {k:Bool->W.KasT α} (hi:i<n) (hj:j<n) (h:∀b,xJ n R (k b)):xJ n R (.ask i j k)
theorem xJ.end_{α:Type}{R:α->Prop}{lt:Nat->Nat->Bool}{t:W.KasT α}(h:xJ n R t):R (xh lt t):=by
 induction h with
 |ret h=>exact h
 |ask _ _ _ a=>exact a _
theorem xJ.wp{α:Type}{n:Nat}{R:α->Prop}{lt:Nat->Nat->Bool}{cmp:Nat->Nat->(Bool->Shared->Prop)->Shared->Prop}{s:Shared}{post:α->Shared->Prop}(hc:∀(i j:Nat)(C:Bool->Shared->Prop),i<n->j<n->C (lt i j) s->cmp i j C s):∀{t:W.KasT α},xJ n R t->post (xh lt t) s->W.KasT.kasWp cmp t post s
 |_,.ret _,a=>a
 |.ask i j k,.ask b c h,a=>hc i j _ b c (xJ.wp hc (h _) a)
theorem xJ.bind{α β:Type}{n:Nat}{R:α->Prop}{c:β->Prop}{f:α->W.KasT β}(hf:∀a,R a->xJ n c (f a)):∀{t:W.KasT α},xJ n R t->xJ n c (t.bind f)
 |_,.ret h=>hf _ h
 |_,.ask d e h=>.ask d e λb=>xJ.bind hf (h b)
def US(n:Nat)(p:Array Nat):Prop:=p.toList.Perm (List.range n)
theorem US.lt(h:US n p)(a:0<n)(i:Nat):p.getD i 0<n:=by
 unfold Array.getD;split
 .rename_i b
  have:p.toList[i]'(by simpa using b)∈List.range n:=h.mem_iff.mp (zu _);exact jK.mp this
 .exact a
theorem LY(i j:Nat):(p.swapIfInBounds i j).toList.Perm p.toList:=by
 unfold Array.swapIfInBounds;split
 .split
  .exact(Array.swap_perm _ _).toList
  .exact .refl _
 .exact .refl _
theorem XA(f g:Nat->Nat):∀(l:qa Nat)(p:Array Nat),(l.foldl (λa k=>a.swapIfInBounds (f k) (g k)) p).toList.Perm p.toList
 |[],_=>.refl _
 |k::l,p=>(XA f g l _).trans (LY _ _)
theorem US.rev(h:US n p)(i j:Nat):US n (W.kas_rev p i j):=(XA (λk=>i+k) (λk=>j-1-k) _ p).trans h
theorem US.bubble(h:US n p)(i j:Nat):US n (PyProof.Rows.bubble p i j):=(XA (λk=>i-k) (λk=>i-k-1) _ p).trans h
section
variable {n:Nat}
theorem EG(a:0<n){p:Array Nat}(h:US n p):∀(m k:Nat),xJ n (λ_=>True) (W.kas_asc p m k)
 |0,_=>.ret trivial
 |m+1,k=>.ask (h.lt a _) (h.lt a _) λb=>by
  cases b with
  |true=>exact .ret trivial
  |false=>exact EG a h m (k+1)
theorem KH(a:0<n):∀(m:Nat){p:Array Nat}(k q:Nat),US n p->xJ n (λr=>US n r.1) (W.kas_desc m p k q)
 |0,_,_,_,h=>.ret h
 |m+1,p,k,q,h=>.ask (h.lt a _) (h.lt a _) λb=>by
  cases b with
  |true=>
   show xJ n _ (if q > 0 then _ else _);split
   .exact KH a m _ _ (h.rev _ _)
   .exact KH a m _ _ h
  |false=>
   refine .ask (h.lt a _) (h.lt a _) λc=>?_
   cases c with
   |true=>exact .ret h
   |false=>exact KH a m _ _ h
theorem Du(c:0<n)(h:US n p)(a b:Nat):xJ n (λr=>US n r.2) (W.kas_tail3 a b p):=
 xJ.bind (R:=λ_=>True) (f:=λm=>.ret (m,W.kas_rev p 0 a)) (λ_ _=>.ret (h.rev _ _)) (EG c (h.rev _ _) _ _)
theorem Kj(c:0<n)(h:US n p)(a b:Nat):xJ n (λr=>US n r.2) (W.kas_descPart a b p):=by
 refine xJ.bind (R:=λr=>US n r.1) (λr d=>?_) (KH c _ _ _ h);split
 .exact Du c (d.rev _ _) _ _
 .exact Du c d _ _
theorem N3(a:0<n)(h:US n p)(m:Nat):xJ n (λr=>US n r.2) (W.kas_count m p):=by
 refine xJ.bind (R:=λ_=>True) (λk _=>?_) (EG a h _ _);split
 .exact .ret h
 .split
  .refine .ask (h.lt a _) (h.lt a _) λb=>?_
   cases b with
   |true=>exact .ret h
   |false=>exact Kj a (h.rev _ _) _ _
  .exact Kj a h _ _
theorem GJ(a:0<n){p:Array Nat}(h:US n p)(k:Nat):∀(m l r:Nat),xJ n (λ_=>True) (W.kas_place p k m l r)
 |0,_,_=>.ret trivial
 |m+1,l,r=>by
  show xJ n _ (if l>=r then _ else _);split
  .exact .ret trivial
  .refine .ask (h.lt a _) (h.lt a _) λb=>?_
   cases b with
   |true=>exact GJ a h k m _ _
   |false=>exact GJ a h k m _ _
theorem N4(a:0<n):∀(m:Nat){p:Array Nat}(k:Nat),US n p->xJ n (US n) (W.kas_bin m p k)
 |0,_,_,h=>.ret h
 |m+1,p,k,h=>xJ.bind (R:=λ_=>True) (λl _=>N4 a m _ (h.bubble _ _)) (GJ a h k _ _ _)
theorem KG(a:0<n):xJ n (US n) (W.kas_sort n):=by
 refine xJ.bind (R:=λr=>US n r.2) (λr b=>?_) (N3 a (p:=(List.range n).toArray) (.refl _) _);split
 .exact N4 a _ _ b
 .exact .ret b
end
def I3(fin:Bool):qg->qg->Bool
 |x::xs,y::ys=>if x=y then I3 fin xs ys else decide (x.cps.toList<y.cps.toList)
 |_,_=>fin
def bM(xs ys:qg):Bool:=I3 (decide (xs.length<ys.length)) xs ys
def U9(a:qa (qg)):qa Nat:=if a.length<2 then List.range a.length else (xh (λi j=>bM (a.getD i []) (a.getD j [])) (W.kas_sort a.length)).toList
theorem AY(a:qa (qg)):(U9 a).Perm (List.range a.length):=by
 unfold U9;split
 .exact .refl _
 .rename_i h
  exact(KG (n:=a.length) ⋯).end_
theorem GK(a:qa (qg)):(U9 a).length=a.length:=by rw[(AY a).length_eq,zS]
theorem HF{a:qa (qg)}{i:Nat}(h:i∈U9 a):i<a.length:=jK.mp ((AY a).mem_iff.mp h)
inductive YI(h:Heap)(a:qd):qi->qa (qg)->Prop
 |nil:YI h a [] []
 |cons {b:qd} {ob:Obj} {xs:Array qe} {k:Nat} {t:qg} {vs:qi} {ts:qa (qg)} (ne:b≠a) (e:h.get? b=some ob) (c:ob.cls=.type "tuple") (d:ob.data=.seq xs k) (st:StrsAre xs.toList t) (t0:t≠[]) (r:YI h a vs ts):YI h a (.ref b::vs) (t::ts)
theorem YI.len{h:Heap}{a:qd}:∀{vs:qi}{b:qa (qg)},YI h a vs b->vs.length=b.length
 |_,_,.nil=>rfl
 |_,_,.cons _ _ _ _ _ _ r=>zt (·+1) (YI.len r)
theorem YI.mono{h h':Heap}{a f:qd}(k:∀b o,b≠a->h.get? b=some o->h'.get? b=some o/\b≠f):∀{vs:qi}{g:qa (qg)},YI h a vs g->YI h' f vs g
 |_,_,.nil=>.nil
 |_,_,.cons ne e c d st t0 r=>.cons (k _ _ ne e).2 (k _ _ ne e).1 c d st t0 (YI.mono k r)
theorem YI.at{h:Heap}{a:qd}:∀{vs:qi}{c:qa (qg)}(i:Nat),YI h a vs c->i<c.length->∃b g xs k,vs.getD i .none=.ref b/\h.get? b=some g/\g.data=.seq xs k/\StrsAre xs.toList (c.getD i [])
 |_,_,i,.nil,f=>absurd f (Nat.not_lt_zero _)
 |_,_,0,.cons _ e _ d st _ _,_=>⟨_,_,_,_,U,e,d,st⟩
 |_,_,i+1,.cons _ _ _ _ _ _ r,f=>YI.at i r (jC f)
theorem YI.firsts{h:Heap}{a:qd}:∀{vs:qi}{i:qa (qg)},YI h a vs i->∃f,W.KatTups h vs f/\f.length=i.length/\∀v∈f,∃x t,v=.str x t
 |_,_,.nil=>⟨[],trivial,U,λ_ z=>nomatch z⟩
 |_,_,.cons (xs:=xs) (t:=t) ne e c d st t0 r=>by
  obtain⟨f,j,k,l⟩:=YI.firsts r;obtain⟨x,b,m⟩:∃x b,xs[0]?=some (.str x b):=by
   rw[<-zw]
   cases g:xs.toList with
   |nil=>rw[g] at st;cases st;exact absurd rfl t0
   |cons v vs=>rw[g] at st;cases st with|cons x b _=>exact⟨x,b,rfl⟩
  refine⟨.str x b::f,⟨⟨_,_,_,_,U,e,c,d,m⟩,j⟩,zt (·+1) k,λv g=>?_⟩;rcases qC.mp g with rfl|g
  .exact⟨x,b,U⟩
  .exact l v g
theorem NG{fin:Bool}{xs ys:qg}:I3 fin (x::xs) (x::ys)=I3 fin xs ys:=qP rfl
theorem NI{fin:Bool}{y:qc}{xs ys:qg}(h:x≠y):I3 fin (x::xs) (y::ys)=decide (x.cps.toList<y.cps.toList):=qJ h
theorem NH{prog:Program}{w:World}{A:Around}{fin:Bool}{Q:Bool->Shared->Prop}{s:Shared}:∀{us vs:qi}{xs ys:qg}(i:Nat),StrsAre us xs->StrsAre vs ys->Q (I3 fin xs ys) s->W.KatLex prog w A true fin Q (us.zip vs) i s
 |_,_,_,_,i,.nil,a,q=>by cases a<;>exact q
 |_,_,_,_,i,.cons _ _ _,.nil,q=>q
 |_,_,_,_,i,.cons x t c,.cons y u a,q=>by
  refine W.kat_cons (kP x t y u _ _ _ _ ?_);refine W.kat_go (λe=>?_) (λe=>?_)
  .have e:x=y:=eq_of_beq e;subst e;refine W.kat_yes (NH (i+1) c a ?_);rw[NG] at q;exact q
  .have ne:x≠y:=λz=>by rw[z,z8] at e;cases e
   have b:Q (decide (x.cps.toList<y.cps.toList)) s:=by
    rw[NI ne] at q;exact q
   refine W.kat_no ?_
   cases i with
   |zero=>exact strKind_oneLt prog w A _ s _ _ x.cps.toList y.cps.toList rfl rfl b
   |succ i=>exact W.kat_one _ _ (lt_str b)
theorem XB:∀{us:qi}{xs:qg},StrsAre us xs->us.length=xs.length
 |_,_,.nil=>rfl
 |_,_,.cons _ _ h=>zt (·+1) (XB h)
theorem IY{M:Model}{h:Heap}{t:Tok}:W.Looks M h (typeOf (.str x t)) (.type "str"):=λA Q E s _ q=>qq q
theorem Dj{prog:Program}{w:World}{A:Around}{E:qh}{s:Shared}{a:qd}{vs:qi}{c:qa (qg)}{P:PySem.Fin->Shared->Prop}(z:s.heap.get? a=some (seqObj "list" vs.toArray n))(F:YI s.heap a vs c)(B:vs.length<64)
 (h:P (.done (.ret .none)) {s with heap:=sortedHeap s.heap a vs ((U9 c).map λi=>vs.getD i .none).toArray}):wpAny (model prog w) A (Builtin.«list.sort» {pos:=[.ref a]}) P E s:=by
 have hlen:=F.len;have t:vs.length<=sizeLine:=Yd (⋯);have H:=qM z;rw[list_sort_plain a];refine qk (listItems_at z rfl (qk (kX z rfl ?_ (by simpa using t) (za _))));obtain⟨f,u⟩:∃f,(s.heap.update a (Obj.mapSeq λx=>#[])).get? a=some (seqObj "list" #[] f):=⟨_,get?_update_seq z λx=>#[]⟩;refine qk (seqEpoch_at u rfl (qk (wpAny_newTuple ?_ (by simpa using t))));refine qk (xH ?_ (za _));refine zH ?_;have d:(s.heap.update a (Obj.mapSeq λx=>#[])).objs.size=s.heap.objs.size:=vP _ _ _;have y:(((s.heap.update a (Obj.mapSeq λx=>#[])).push (seqObj "tuple" vs.toArray 0)).push (seqObj "list" #[] 0)).get? a=some (seqObj "list" #[] f):=by
  rw[yr _ a _ (by rw[gP,d];exact qR (zT H)),yr _ a _ (by rw[d];exact qR H)];exact u
 have k:YI (((s.heap.update a (Obj.mapSeq λx=>#[])).push (seqObj "tuple" vs.toArray 0)).push (seqObj "list" #[] 0)) a vs c:=F.mono λb o ne e=>by
  refine⟨?_,ne⟩;have m:=qM e;rw[yr _ b _ (by rw[gP,d];exact qR (zT m)),yr _ b _ (by rw[d];exact qR m)];exact(Heap.get?_update_ne _ _ _ _ ne).trans e
 have fin:∀st:SortSt,(arrOf st).map (λx=>x.2)=((U9 c).map λi=>vs.getD i .none).toArray->failedOf st=none ->
  wpAny (model prog w) A (do
   let __do_lift <-seqEpoch a
   Builtin.List.listUpdate (Value.ref a) λx=>Array.map (λx=>x.snd) (arrOf st)
   match failedOf st with
    |some e=>do
     rule "list.sort.comparison-raised"
     throw e
     if (__do_lift != f)=true then do
         rule "list.sort.modified"
         raiseErrorWords "ValueError" "list modified during sort"
         ret Value.none
      else ret Value.none
    |x=>
     if (__do_lift != f)=true then do
      rule "list.sort.modified"
      raiseErrorWords "ValueError" "list modified during sort"
      ret Value.none
     else ret Value.none) P E {s with heap:=((s.heap.update a (Obj.mapSeq λx=>#[])).push (seqObj "tuple" vs.toArray 0)).push (seqObj "list" #[] 0)}:=λst m D=>by
  refine qk (seqEpoch_at y rfl (qk (kX y rfl ?_ (za _) ?_)))
  .rw[D];simp only[jA,zl,jx];rw[m];exact qq h
  .rw[m];simp only[qV,ql,GK];omega
 have hsz:vs.toArray.size=vs.length:=by simp
 have got:∀l:qa Nat,l=List.range vs.length->l.map (λi=>vs.getD i Value.none)=vs:=λl e=>by
  subst e;refine kQ (by simp) λi D m=>?_;simp only[kR,xM];rw[qZ,qv m];rfl
 by_cases m:vs.toArray.size<2
 .show wpAny _ _ (if vs.toArray.size<2 then _ else _) _ _ _;rw[qP m];refine qk (qq ?_);dsimp only;rw[qP m,StateT.run_pure];refine qk (qq ?_);refine fin _ ?_ rfl;have f:U9 c=List.range vs.length:=by
   unfold U9;rw[qP ⋯,hlen]
  rw[got _ f];show Array.map (λx=>x.2) (vs.toArray.zip vs.toArray)=vs.toArray;rw[show(λx:qe×qe=>x.2)=Prod.snd from rfl];apply Array.ext';rw[yZ,Array.toList_zip];exact List.map_snd_zip (qz _)
 .show wpAny _ _ (if vs.toArray.size<2 then _ else _) _ _ _;rw[qJ m];obtain⟨fs,k1,k2,k3⟩:=k.firsts;have L:2<=vs.length:=by omega
  refine qk (W.kat_kind (T:=.type "str") k1 ⋯ (λv M=>?_) ∅ ?_)
  .obtain⟨x,D,rfl⟩:=k3 v M;exact IY
  rw[qJ m];refine qk (zy (W.kat_run (E:=E) (ks:=vs) (Q:=λst s'=>(arrOf st).map (λx=>x.2)=((U9 c).map λi=>vs.getD i .none).toArray/\failedOf st=none/\s'={s with heap:=((s.heap.update a (Obj.mapSeq λx=>#[])).push (seqObj "tuple" vs.toArray 0)).push (seqObj "list" #[] 0)}) (G:=λp s'=>p.toList=U9 c/\s'={s with heap:=((s.heap.update a (Obj.mapSeq λx=>#[])).push (seqObj "tuple" vs.toArray 0)).push (seqObj "list" #[] 0)}) rfl L B (λp N s' _ O S g=>?_) ?_) (λr s' q=>?_) λ_ _ x=>x)
  rotate_left
  rotate_left
  .obtain⟨D,I,rfl⟩:=q;exact fin r.2 D I
  .obtain⟨g1,g2⟩:=g;refine⟨?_,S,g2⟩;rw[O];apply Array.ext';simp only[yZ,zg];rw[g1];refine yv λi _=>?_;show(W.kas_item (pairsOf vs) i).2=_;rw[W.kas_item_eq]
  .refine xJ.wp (n:=vs.length) (R:=US vs.length) (lt:=λi j=>bM (c.getD i []) (c.getD j [])) (λi j C hi hj q=>?_) (KG ⋯) ⟨?_,U⟩
   .obtain⟨b1,o1,x1,n1,a1,a2,V,D⟩:=k.at i ⋯;obtain⟨b2,o2,x2,n2,X,Y,Z,I⟩:=k.at j ⋯;show wpAny _ _ (keyLt' _ (vs.getD i .none) (vs.getD j .none)) _ _ _;rw[a1,X];refine W.kat_lt a2 V Y Z (NH 0 D I ?_);have J:=XB D;have K:=XB I;rw[ze] at J K;rw[J,K];exact q
   .unfold U9;rw[qJ ⋯,hlen]
inductive Ve(H:Hp):qa qd->qa (qg)->Prop
 |nil:Ve H [] []
 |cons {b:qd} {t:qg} {bs:qa qd} {ts:qa (qg)} (e:H b=some (.tup (t.map V.str))) (t0:t≠[]) (r:Ve H bs ts):Ve H (b::bs) (t::ts)
theorem Ve.len{H:Hp}:∀{bs:qa qd}{a:qa (qg)},Ve H bs a->bs.length=a.length
 |_,_,.nil=>rfl
 |_,_,.cons _ _ r=>zt (·+1) (Ve.len r)
theorem Ve.of{X:Cx}{pins:qa (qd×Obj)}{σ:St}{H:Hp}{s:Shared}{h':Heap}{a:qd}(I:Inv X pins σ H s)(k:∀b o,s.heap.get? b=some o->h'.get? b=some o/\b≠a):∀{bs:qa qd}{c:qa (qg)}{us:qi},Ve H bs c->QB (bs.map V.ref) us->YI h' a us c
 |_,_,_,.nil,v=>by cases v;exact .nil
 |_,_,_,.cons e t0 r,v=>by
  cases v with
  |cons h v=>
   cases h;obtain⟨its,f,⟨o,d,hc,n,hd⟩,_⟩:=I.tuple (jj.of e);exact .cons (k _ _ d).2 (k _ _ d).1 hc hd (by simpa using UC f) t0 (Ve.of I k r v)
theorem Ak:∀{xs:qa V}{us:qi}(i:Nat),QB xs us->i<xs.length->QJ (xs.getD i .non) (us.getD i .none)
 |_,_,0,.cons h _,_=>h
 |_,_,i+1,.cons _ v,a=>Ak i v (jC a)
theorem KJ{xs:qa V}{us:qi}(v:QB xs us):∀{l:qa Nat},(∀i∈l,i<xs.length)->QB (l.map λi=>xs.getD i .non) (l.map λi=>us.getD i .none)
 |[],_=>.nil
 |i::l,h=>.cons (Ak i v (h i qB)) (KJ v λj a=>h j (qK _ a))
section
variable {X:Cx}{pins:qa (qd×Obj)}{σ:St}{H:Hp}{s:Shared}{h':Heap}
theorem Inv.wm{t':Nat}{ch:qa qd}(I:Inv X pins σ H s)(k:∀b o,b∉ch->s.heap.get? b=some o->h'.get? b=some o)(f:∀b∈ch,X5 X pins H b):Inv X pins σ H {s with heap:=h',toks:=t'}:=by
 have a:∀b u,H b=some u->b∉ch:=λb u e z=>by rw[(f b z).1] at e;cases e
 refine I.step (g':=s.gens) (d':=s.drawn) (ch:=ch) (λb d=>?_) (λb o _ _ hc e _=>k b o hc e) (λb o _ _ hc e _=>⟨o.slots,k b o hc e⟩) (λ_ _ _ _ n=>n)
  (λb o hc e=>⟨o,k b o hc e⟩) (λ_ _ e=>e) (λ_ _ _ e=>e) (λb ps e=>⟨#[],by rw[e];simp⟩) (λm hm=>?_) (λb u e=>?_) I.bare
 .obtain⟨_,f1,_,g,f4,h⟩:=f b d;exact⟨g,f1,f4,h⟩
 .obtain⟨o,es,g,h,r⟩:=hm;exact⟨o,es,g,k _ o (λz=>(f _ z).2.1 rfl) h,r⟩
 .refine(I.hok b u e).stay (λc v hc q=>k c v ?_ q) (λ_ q=>q) λ_ _ q=>q;rcases hc with z|z
  .rw[z];exact a b u e
  .exact a c _ z
end
def Ite(K:Frag)(l:qd):It:=
 ⟨λi H=>∃xs x,zN K H l xs/\xs[i]?=some x,λi H v H'=>∃(T:qd)(x:V),(∀xs,zN K H l xs->xs[i]?=some x)/\H T=none/\v=.ref T/\H'=upd H T (.tup [.int i,x]),λi H=>∃xs,zN K H l xs/\xs.length=i⟩
theorem Ij{P:Program}{w:World}{K:Frag}{elts:qa Expr}{kt:Nat}{pt:Pos}(l e it:qd)(Y:e≠it)(Z:l≠e)(h3:l≠it):EV P w K (.Tuple elts kt pt) (Ite K l) [e,it] e (λi h=>(∃old,IsEnum h e it (i:Int) old)/\h.IsListIter it l i) where
 mem:=by simp
 obj:=λi h st b f=>by
  obtain⟨⟨old,s1⟩,o,s2,c,d⟩:=st;rcases qC.mp f with rfl|f
  .exact⟨_,s1,λv z=>by cases z⟩
  .have e:=qt.mp f;subst e;exact⟨o,s2,λv z=>by rw[d] at z;cases z⟩
 keep:=λi h h' st k=>⟨let ⟨old,s1⟩:=st.1;⟨old,k e (by simp) _ s1⟩,st.2.at λo q=>k it (by simp) o q⟩
 item:=by
  intro X D hw F hc i pins s σ H E I hf st G;subst D hw F;obtain⟨xs,x,B,J⟩:=G;obtain⟨its,L,p,hz⟩:=I.list B;obtain⟨u,hu,ru⟩:=L.get J;have M:i<its.length:=(zm.mp hu).1;have W:=WalksT.enumerate (prog:=X.prog) (w:=X.w) (I.ok.hd hc) e it l Y Z h3 its.toArray;refine W.item i s _ E (by simpa using M) ⟨st.1,st.2,p.isList⟩ λT vals h' C hv N O mid same=>⟨.ref T,U,?_⟩;obtain⟨t,R,j,rfl⟩:=hv;have ex:R=u:=by
   have:its.toArray[i]?=some u:=by simpa using hu
   rw[this] at j;exact(qW j).symm
  subst ex;refine W.go elts kt pt i T _ _ E mid λm r a=>?_;have g:∀b∈[e,it],X5 X pins H b:=hf;have I1:Inv X pins σ H {s with heap:=m,toks:=C}:=I.wm (t':=C) (ch:=[e,it]) (λb o f q=>a b o f (same b o f q)) g;have nT:T∉[e,it]:=W.apart _ _ _ mid;obtain⟨o,oT,oc,n,od⟩:=id O;have y:m.IsTuple T #[.int (i:Int) t,R]:=⟨o,a T o nT oT,oc,n,od⟩;have S:H T=none:=I.hok.fresh N;have V:=I.vC (b:=T) (H':=H) N S;have h0:X.s₀.heap.get? T=none:=by
   cases q:X.s₀.heap.get? T with
   |none=>rfl
   |some o=>exact absurd (qU (qM q) (zb I.sz N)) (zQ _)
  refine⟨.ref T,upd H T (.tup [.int i,x]),I1.track S h0 V.2.1 V.2.2.2.2.1 V.2.2.2.2.2 ?_,U,⟨T,x,λys hy=>by rw[I.vS hy B];exact J,S,U,U⟩,⟨r.1,r.2.1⟩,λb f=>?_⟩
  .exact⟨by show 2<=sizeLine;decide,[.int i t,R],.cons ⟨t,U⟩ (.cons ru .nil),y⟩
  .rw[Qa (λz=>nT (by rw[<-z];exact f))];exact(hf b f).1
 done:=by
  intro X D hw F hc i pins s σ H E I hf st G;subst D hw F;obtain⟨xs,B,J⟩:=G;obtain⟨its,L,p,hz⟩:=I.list B;have j:=L.length;have W:=WalksT.enumerate (prog:=X.prog) (w:=X.w) (I.ok.hd hc) e it l Y Z h3 its.toArray;have a:its.toArray.size=i:=by simp;omega
  have g:∀b∈[e,it],X5 X pins H b:=hf;refine W.done s _ E (by rw[a];exact⟨st.1,st.2,p.isList⟩) λh' C same=>⟨U,I.wm (t':=C) (ch:=[e,it]) same g⟩
 self:=λA i s Q E st h=>let ⟨_,s1⟩:=st.1;wpAny_pyIter_enum s1 h
inductive HJ(K:Frag)(R:(It->Hp->Prop))(vs:qa V)(H1:Hp):Prop
 |mk:∀(l:qd)(xs:qa V),vs=[.ref l]->H1 l=some (.lst xs)->R (Ite K l) H1->HJ K R vs H1
def bU(K:Frag)(a:TA):TI:=λσ H R=>a σ H λvs H1=>HJ K R vs H1
theorem Pl{X:Cx}{elts:qa Expr}{kt:Nat}{pt:Pos}{a:Expr}{f:TA}{p pos:Pos}(k:Gl X "enumerate")(hm:X.mg "enumerate"=none)(m:PA X [a] f)(n:starEach [a] X.env=[(false,eval a X.env)]:=by rfl):PI X (.Tuple elts kt pt) (.Call (.Name "enumerate" p) [a] [] pos) (bU X.K f):=by
 intro pins s σ H R I h;refine Call_ (W7 I k hm boot_enumerate (xA (z5 (m pos pins s σ H _ I h) λus s1 ⟨vs,H1,c,o,t⟩=>?_) n rfl));obtain⟨l,xs,e,g,q⟩:=t;subst e
 cases o with
 |cons r u=>
  cases u;cases r;obtain⟨its,x,p,_⟩:=c.list (zN.of g);have i:l<s1.heap.objs.size:=(c.hok l _ g).lt;refine call_enumerate_list p.isList λh' j v hz keep=>?_;have w:Inv X pins σ H1 {s1 with heap:=h'}:=c.kept (t':=s1.toks) keep;refine wpAny_pyIter_enum j ⟨s1.heap.objs.size+1,[s1.heap.objs.size+1,s1.heap.objs.size],_,_,H1,U,w,Ij l (s1.heap.objs.size+1) s1.heap.objs.size (Nat.succ_ne_self _) (qR (zT i)) (qR i),⟨⟨_,j⟩,v⟩,λb d=>?_,q⟩;rcases qC.mp d with rfl|d
  .exact c.vC (jE _) (c.hok.fresh (jE _))
  .rw[qt.mp d];exact c.vC (qz _) (c.hok.fresh (qz _))
end L2
namespace HT
open PySem PyProof.Rows
def k7(a:Int)(x:qc)(c:Int)(y:qc):Bool:=if a=c then (if x=y then true else !decide (y.cps.toList<x.cps.toList)) else decide (a<=c)
section
open PySem.SeqAt
open PySem.AutoSeq1 (wpAny_loadPart')
open PySem.MeetsSeq PySem.MeetsSeq2 PySem.MeetsSeq3
theorem Lk(A:Around)(s:Shared)(a:qc)(t:Tok)(c:qc)(u:Tok):∃e,SeqAt.EqAt A s (.str a t) (.str c u) e/\(e=true↔a=c):=
 ⟨(a==c),kP a t c u,by simp⟩
theorem Iu(A:Around)(s:Shared)(a:Int)(t:Tok)(c:Int)(u:Tok)(prog:Program)(w:World)(E:qh)(Q:qh)(h:Q (.bool (decide (a<=c))) s) :
 wpAny (model prog w) A (richCompare .LtE (.int a t) (.int c u)) Q E s:=
 (le_int h:wpAny (model prog w) A (compareOp .LtE (.int a t) (.int c u)) Q E s)
theorem Ir(A:Around)(s:Shared)(a:qc)(t:Tok)(c:qc)(u:Tok)(prog:Program)(w:World)(E:qh)(Q:qh)(h:Q (.bool (!decide (c.cps.toList<a.cps.toList))) s) :
 wpAny (model prog w) A (richCompare .LtE (.str a t) (.str c u)) Q E s:=
 (PySem.P.le_str h:wpAny (model prog w) A (compareOp .LtE (.str a t) (.str c u)) Q E s)
inductive Xx(a:Int)(x:qc)(c:Int)(y:qc):qa (qe×qe)->Prop
 |both (t1 t2 u1 u2:Tok):Xx a x c y [(.int a t1,.int c u1),(.str x t2,.str y u2)]
 |one (e:a=c) (t2 u2:Tok):Xx a x c y [(.str x t2,.str y u2)]
 |none (e:a=c) (e2:x=y):Xx a x c y []
theorem vj(l b:qd)(n B:Nat)(dd u:Option qd)(sl v:Array (Option qe))(a:Int)(x:qc)(c:Int)(y:qc)(t1 k r m:Tok) :
 Meets (Builtin.«tuple.__le__» ⟨[.ref l,.ref b],[]⟩)
  (λ_ R s=>s.heap.get? l=some {cls:=.type "tuple",dict:=dd,data:=.seq #[.int a t1,.str x k] n,slots:=sl}/\s.heap.get? b=some {cls:=.type "tuple",dict:=u,data:=.seq #[.int c r,.str y m] B,slots:=v} /\
    R (.ok (.ret (.bool (k7 a x c y)))) s):=
 .of_wp λprog w A R s h=>by
  obtain⟨o,g,d,p,os⟩:=s;obtain⟨C,D,h⟩:=h;have f2:=AutoSeq1.sub_tuple_tuple
  wp_walk using wpAny_loadPart' C,wpAny_loadPart' D,wpAny_forIn_list _ (λrest b s'=>b.1=none/\s'=⟨o,g,d,p,os⟩/\Xx a x c y rest) _
  case turn=>
   rintro⟨E,F⟩ rest b s' ⟨i,rfl,z⟩
   cases z with
   |both t1 k r m=>
    obtain⟨e,he,f⟩:=Oo A.in1 ⟨o,g,d,p,os⟩ a t1 c r;refine qk (he prog w _ _ ?_)
    cases e with
    |true=>
     wp_walk
     exact⟨U,U,.one (f.mp rfl) _ _⟩
    |false=>
     have ne:a≠c:=λq=>absurd (f.mpr q) qO;have j:=Iu A.in1 ⟨o,g,d,p,os⟩ a t1 c r prog w
     wp_walk using j
     unfold k7 at h;rw[qJ ne] at h;exact⟨_,U,by simpa using h⟩
   |one t k m=>
    obtain⟨e,he,f⟩:=Lk A.in1 ⟨o,g,d,p,os⟩ x k y m;refine qk (he prog w _ _ ?_)
    cases e with
    |true=>
     wp_walk
     exact⟨U,U,.none t (f.mp rfl)⟩
    |false=>
     have ne:x≠y:=λq=>absurd (f.mpr q) qO;have j:=Ir A.in1 ⟨o,g,d,p,os⟩ x k y m prog w
     wp_walk using j
     unfold k7 at h;rw[qP t,qJ ne] at h;exact⟨_,U,h⟩
  case fin=>
   rintro⟨j,E⟩ s' ⟨i,rfl,z⟩;simp only at i;subst i
   cases z with
   |none t f=>
    unfold k7 at h;rw[qP t,qP f] at h
    wp_walk
    exact⟨_,U,by simpa[Builtin.Tuple.tupleCompareSizes] using h⟩
  case h=>
   exact⟨U,U,.both _ _ _ _⟩
end
end HT
namespace L2
open PySem PySem.Spec PyProof.Rows
inductive Hk(K:Frag)(f:Int->qc->Int->qc->Bool)(x:V)(y:V)(H:Hp)(Q:VK):Prop
 |mk:∀p q a s c t,x=.ref p->y=.ref q->jj K H p [.int a,.str s]->jj K H q [.int c,.str t]->Q (.bl (f a s c t)) H->Hk K f x y H Q
def bw(K:Frag)(f:Int->qc->Int->qc->Bool):R2:=λx y H Q=>Hk K f x y H Q
theorem AH{a:Int}{s:qc}{its:qi}(r:QB [.int a,.str s] its):∃t1 b,its=[.int a t1,.str s b]:=by
 cases r with
 |cons h r=>
  cases r with
  |cons c r=>
   cases r;obtain⟨t1,rfl⟩:=h;obtain⟨b,rfl⟩:=c;exact⟨t1,b,U⟩
theorem SU{X:Cx}(l:X.A.units<cLine):y9 X (compareOp .LtE) (bw X.K HT.k7):=by
 intro pins s σ H x y v u Q I m o h;obtain⟨p,q,a,z,c,r,rfl,rfl,t,w,k⟩:=h;cases m;cases o;obtain⟨its,A,B,_⟩:=I.tuple t;obtain⟨g,C,D,_⟩:=I.tuple w;obtain⟨t1,E,rfl⟩:=AH A;obtain⟨F,G,rfl⟩:=AH C;obtain⟨⟨cls,dd,data,sl⟩,i,hc,n,hd⟩:=id B;obtain⟨⟨j,e,data2,f⟩,b,d,J,hd2⟩:=id D;simp only at hc hd d hd2;subst hc hd d hd2;exact richCompare_meets_room (op:=.LtE) ⟨_,i,U⟩ ⟨_,b,U⟩ PySem.F.slot_tuple_le PySem.F.entry_tuple_le (PySem.F.args_tuple_le_2 _ _) (HT.vj p q n J dd e sl f a z c r t1 E F G)
  ⟨i,b,⟨nofun,.bl _,H,I,U,k⟩⟩ l
variable {d:qd}{es:Array DictEntry}{ep:Nat}
def YY(h:Heap)(d:qd)(es:Array DictEntry)(ep:Nat):Prop:=∃o,h.get? d=some o/\o.ExactDict/\o.data=.dict es ep
theorem YY.lt{h:Heap}(x:YY h d es ep):d<h.objs.size:=let ⟨_,e,_⟩:=x;qM e
theorem YY.at{h h':Heap}(x:YY h d es ep)(k:∀o,h.get? d=some o->h'.get? d=some o):YY h' d es ep:=let ⟨o,e,r⟩:=x;⟨o,k o e,r⟩
theorem YY.ty{s:Shared}(x:YY s.heap d es ep):s.TypeIs (.ref d) "dict":=let ⟨o,e,c,_⟩:=x;⟨o,e,c.1⟩
section
variable {prog:Program}{w:World}{A:Around}{E:qh}{s:Shared}{d it:qd}{es:Array DictEntry}{ep i:Nat}
theorem Mq{Q:qh}(hd:(d==sysModules)=false)(hm:YY s.heap d es ep)
 (e:Q (.ref s.heap.objs.size) {s with heap:=s.heap.push {cls:=.type "dict_keyiterator",data:=.fields #[.ref d,.int 0 0,.int es.size 0,.int ep 0]}}):wpAny (model prog w) A (pyIter (.ref d)) Q E s:=by
 have b:=hm.ty;obtain⟨o,c,_,a⟩:=hm;refine vr b F.slot_dict_iter (zA F.slot_dict_iter b F.entry_dict_iter ?_ (F.args_dict_iter_1 _));unfold Builtin.«dict.__iter__»;refine qk ?_;unfold Builtin.Dict.dictSlotNone;refine qk (wpAny_notOrdered_dict b (qq ?_));show wpAny _ _ (Builtin.Dict.showsAll d>>=_) _ _ s;unfold Builtin.Dict.showsAll;rw[qJ (by rw[hd];exact qO)];refine qk (qq (qk (xc c a (qk (xZ c a ?_)))));exact qk (zr (qq ⟨_,U,"dict_keyiterator",_,⟨_,qI _ rfl,U⟩,jJ.lookup,by simpa[rawInt] using e⟩))
theorem Mr{Q:Option qe->Shared->Prop}(hit:s.heap.IsKeyIter it d i es.size ep)(hm:YY s.heap d es ep){f:DictEntry}(h:es[i]?=some f)
 (j:∀h',h'.IsKeyIter it d (i+1) es.size ep->Heap.SameBut it s.heap h'->Q (some f.key) {s with heap:=h'}):wpAny (model prog w) A (pyNext (.ref it)) Q E s:=by
 obtain⟨o,g,hc,hd⟩:=id hit;obtain⟨k,b,_,c⟩:=hm;unfold pyNext;refine qk (yP (zU (name:=Str.ofString "__next__") hit.typeIs jJ
  (zA jJ hit.typeIs F.entry_dict_keyiterator_next ?_ (F.args_dict_keyiterator_next_1 _))))
 refine qk (qq (qk (qk ?_)))
 first|refine qk (yi hit.typeIs (qq ?_))|refine qk (yR hit.typeIs (qq ?_))
 refine qk (xb g hd ?_);have e:Builtin.Dict_items.ownsTuple "dict_keyiterator"=false:=by decide
 simp only[e,zl,jx];show wpAny _ _ (if (Value.ref d==Value.none)=true then _ else _) _ _ s;rw[qJ (show ¬((Value.ref d==Value.none)=true) from qO)];refine qk (qq (qk (xc b c ?_)));rw[qJ (by simp)];refine qk (qq (qk (xZ b c ?_)));rw[qJ (by simp)];refine qq ?_;simp only[show ¬((i:Int)<0) from by omega,jx,jy,h];refine qk ?_
 first|refine qk (yi hit.typeIs (qq ?_))|refine qk (yR hit.typeIs (qq ?_))
 refine qk (wpAny_isOneOf_keyiter hit.typeIs ?_);show wpAny _ _ (setField (.ref it) 1 (rawInt ((i:Int)+1))>>=_) _ _ s;refine qk (yc g hd (by simp) ?_);have a:(s.heap.update it (Obj.mapFields (·.setIfInBounds 1 (rawInt ((i:Int)+1))))).IsKeyIter it d (i+1) es.size ep:=
  ⟨_,zL _ g (yp (jc hd _)),(vu ..).trans hc,by rw[jc hd];simp[rawInt]⟩
 refine qk (zH (qk (wpAny_isOneOf_keyiter (s:={s with heap:=s.heap.update it (Obj.mapFields (·.setIfInBounds 1 (rawInt ((i:Int)+1))))}) a.typeIs ?_)));show wpAny _ _ (pure f.key) _ _ _;exact qq (qq ⟨_,U,qq (j _ a (zB ..))⟩)
theorem Pd{Q:Option qe->Shared->Prop}(h:A.handled=none)(hit:s.heap.IsKeyIter it d i es.size ep)(hm:YY s.heap d es ep)(j:es.size<=i)
 (k:∀h',Heap.ExtBut it s.heap h'->Q none {s with heap:=h'}):wpAny (model prog w) A (pyNext (.ref it)) Q E s:=by
 obtain⟨o,g,hc,hd⟩:=id hit;obtain⟨l,c,_,e⟩:=hm;unfold pyNext;refine qk (yP (zU (name:=Str.ofString "__next__") hit.typeIs jJ
  (zA jJ hit.typeIs F.entry_dict_keyiterator_next ?_ (F.args_dict_keyiterator_next_1 _))))
 refine qk (qq (qk (qk ?_)))
 first|refine qk (yi hit.typeIs (qq ?_))|refine qk (yR hit.typeIs (qq ?_))
 refine qk (xb g hd ?_);have f:Builtin.Dict_items.ownsTuple "dict_keyiterator"=false:=by decide
 simp only[f,zl,jx];show wpAny _ _ (if (Value.ref d==Value.none)=true then _ else _) _ _ s;rw[qJ (show ¬((Value.ref d==Value.none)=true) from qO)];refine qk (qq (qk (xc c e ?_)));rw[qJ (by simp)];refine qk (qq (qk (xZ c e ?_)));rw[qJ (by simp)];refine qq ?_;simp only[show ¬((i:Int)<0) from by omega,jx,jy,j4 j];refine qk ?_
 first|refine qk (yi hit.typeIs (qq ?_))|refine qk (yR hit.typeIs (qq ?_))
 show wpAny _ _ (setField (.ref it) 0 .none>>=_) _ _ s;refine qk (yc g hd (by simp) ?_);show wpAny _ _ (newExc (.type "StopIteration") []>>=_) _ _ _;refine qk ?_;simp only[newExc,newTuple];refine qk (zr ?_ (by size_fits));refine qk (m:=firstArgMember _ _) (wZ (a:=Value.none) (by first|rfl|(simp only[firstArgMember];rfl)) ?_);refine zr ?_ (by size_fits);simp only[raiseNew];refine qk (wpAny_handled ?_);rw[show A.in1.handled=none from h];refine qk (qq (wpAny_throw ?_));refine qk (vO (T:="StopIteration") (b:=true) ⟨_,qI _ rfl,U⟩ isSubtype_stop ?_);exact qq (k _ (((zB ..).extBut.push _).push _))
theorem Pc(lo:(d==sysModules)=false):KdlSrc prog w "dict" d d es.size (λi v=>∃l,es[i]?=some l/\v=l.key) (λh=>YY h d es ep) where
 type:=λ_ hm=>hm.ty
 there:=λ_ hm=>⟨hm.lt,hm.lt⟩
 keep:=λ_ _ hm j=>hm.at λo e=>j d (.inl rfl) o e
 notList:=by decide
 notTuple:=by decide
 hint:=λ_ _ _ _ hm k=>PySem.W.kdl_hint_dict hm.ty k
 iter:=λA s n hm=>⟨_,λi h=>h.IsKeyIter s.heap.objs.size d i es.size ep/\YY h d es ep,(λ_ _ k=>Mq lo hm k),{
  sub:=λb a=>by simp at a;simp[a]
  frame:=λ_ _ _ st j=>⟨st.1.at λo e=>j _ (by simp) o e,st.2.at λo e=>j d (by simp) o e⟩
  item:=λi s2 Q E p st c=>by
   have m:es[i]?=some es[i]:=zM p;refine Mr st.1 st.2 m λh' f g=>?_;exact c _ h' s2.toks ⟨_,m,U⟩ ⟨f,st.2.at λo e=>g.extBut d o (qR hm.lt) e⟩ λb o a e=>g.extBut b o (λh=>a (by simp[h])) e
  done:=λs2 Q E st c=>Pd n st.1 st.2 (qz _) λh' f=>c h' s2.toks λb o a e=>f b o (λh=>a (by simp[h])) e
  self:=λ_ _ _ _ st c=>wpAny_pyIter_keyiter st.1 c},⟨⟨_,qI _ rfl,U,U⟩,hm.at λ_ e=>qr _ e⟩⟩
end
inductive Kq(H:Hp):qa qd->qa (qa Key)->Prop
 |nil:Kq H [] []
 |cons {b:qd} {k:qa Key} {bs:qa qd} {ks:qa (qa Key)} (e:H b=some (.tup (k.map kV))) (r:Kq H bs ks):Kq H (b::bs) (k::ks)
def Ya(t:qg):qa Key:=t.map Sum.inr
theorem Gz(t:qg):(Ya t).map kV=t.map V.str:=by unfold Ya;rw[zg];rfl
theorem Kq.texts{H:Hp}:∀{bs:qa qd}{a:qa (qg)},Kq H bs (a.map Ya)->(∀t∈a,t≠[])->Ve H bs a
 |[],[],_,_=>.nil
 |_::_,t::a,.cons e r,h=>.cons (by rw[e,Gz]) (h t qB) (Kq.texts r λz hz=>h z (qK _ hz))
theorem PZ{H:Hp}{a:qa (qa Key×V)}{xs:qa (qa Key×qd×qe)}(r:KT H a xs):Kq H (xs.map (·.2.1)) (a.map (·.1)):=by
 induction r with
 |nil=>exact .nil
 |cons h _ b=>exact .cons (h.2.1) b
theorem Ai:∀bs:qa qd,QB (bs.map V.ref) (bs.map Value.ref)
 |[]=>.nil
 |_::bs=>.cons rfl (Ai bs)
theorem SE{P:Program}{w:World}{H:Hp}{h:Heap}{a:qd}{b:qa (qa Key×V)}(ok:QP P w H h a (.dT b)) :
 b.length<=sizeLine/\(a==sysModules)=false/\∃(bs:qa qd)(es:Array DictEntry)(c:Nat),Kq H bs (b.map (·.1))/\YY h a es c/\es.toList.map (·.key)=bs.map Value.ref:=by
 obtain⟨z,y,xs,r,o,es,c,d,e,f,g,_⟩:=ok;refine⟨z,y,xs.map (·.2.1),es,c,PZ r,⟨o,d,e,f⟩,?_⟩;rw[g,zg,zg];rfl
inductive XG(xs:qa V)(H:Hp)(Q:VK):Prop
 |mk:∀(p:qd)(kvs:qa (qa Key×V))(ts:qa (qg)),xs=[.ref p]->H p=some (.dT kvs)->kvs.map (·.1)=ts.map Ya->(∀t∈ts,t≠[])->ts.length<64->(∀l bs,H l=none->Ve H bs ts->Q (.ref l) (upd H l (.lst ((U9 ts).map λi=>(bs.map V.ref).getD i .non))))->XG xs H Q
theorem Xu{X:Cx}(hc:X.calm=true):Y7 X (.builtin "sorted") (λxs H Q=>XG xs H Q):=by
 intro pins s σ H xs us Q I r h;obtain⟨p,n,k,rfl,F,t,h0,O,q⟩:=h;obtain⟨u,rfl,G⟩:=Um r;cases G;obtain⟨hz,v,bs,es,P,l,hm,C⟩:=SE (show QP X.prog X.w H s.heap p (.dT n) from I.hok p _ F);rw[t] at l;have w:=l.texts h0;have f:bs.length=k.length:=w.len;have hsz:es.size=bs.length:=by have:=zt List.length C;simpa using this
 have J:X.A.in1.handled=none:=I.ok.hd hc;refine vh kind_sorted plain_sorted entry_sorted (args_sorted1 _) ?_;unfold Builtin.«sorted»;refine qk (m:=checkCount "sorted" 1 1 _) (qq ?_);refine qk (Km (A:=X.A.in1) (Pc v) J hm (by rw[hsz,f];exact Yd (⋯)) λh' K acc x y c=>?_);have L:acc.toList=bs.map Value.ref:=by
  rw[<-C];refine List.ext_getElem? λj=>?_;rw[qQ];by_cases z:j<es.size
  .have d:j<acc.size:=by rw[c.1];exact z
   obtain⟨D,g,B⟩:=c.2 j acc[j] (zM d);rw[zw,zw,g,zM d,B];rfl
  .rw[zw,zw,j4 (by rw[c.1];omega),j4 ⋯];rfl
 rw[L];have D:=Ai bs;have z:(bs.map Value.ref).length<=sizeLine:=by rw[ql];exact Yd (⋯)
 refine qk (xH ?_ z);have d:(h'.push (seqObj "list" (bs.map Value.ref).toArray 0)).get? h'.objs.size=some (seqObj "list" (bs.map Value.ref).toArray 0):=qI _ rfl;have old:∀b o,s.heap.get? b=some o->(h'.push (seqObj "list" (bs.map Value.ref).toArray 0)).get? b=some o/\b≠h'.objs.size:=λb o e=>by
  have g:=x b o e;exact⟨qr _ g,qR (qM g)⟩
 have B:=w.of I (a:=h'.objs.size) old D;refine qk (zH (zA slot_list_sort ⟨_,d,U⟩ entry_list_sort (Dj d B (by rw[ql];omega) ⟨_,U,?_⟩) (args_list_sort _)));refine qq ⟨_,U,?_⟩;obtain⟨e,he⟩:=sortedHeap_at (out:=((U9 k).map λi=>(bs.map Value.ref).getD i .none).toArray) d;have g:s.heap.objs.size<=h'.objs.size:=yl y;refine⟨.ref h'.objs.size,_,I.laid (t':=K) (λb u l=>?_) g (show QP X.prog X.w _ _ _ (.lst ((U9 k).map λi=>(bs.map V.ref).getD i .non)) from⟨?_,(U9 k).map (λi=>(bs.map Value.ref).getD i .none),e,KJ D λi M=>?_,he⟩),U,q _ bs (I.hok.fresh g) w⟩
 .obtain⟨E,N⟩:=old b u l;rw[sortedHeap_old N (qM E)];exact E
 .rw[ql,GK];exact Yd (⋯)
 .rw[ql,f];exact HF M
end L2
namespace HT
open PySem PyProof.Rows
variable {prog:Program}{w:World}{A:Around}{E:qh}{s:Shared}
theorem xu{t sl:qd}{items:Array qe}{f g:qe}{lo b:Option Int}{Q:qh}(a:IsTup s.heap t items)(i:s.heap.IsSliceOf sl f g .none)(pl:IsPart f lo)(pu:IsPart g b)
 (hw:jW items.size 0 lo=0/\jW items.size items.size b=items.size) (h:Q (.ref t) s):wpAny (model prog w) A (getItem (.ref t) (.ref sl)) Q E s:=by
 have c:s.TypeIs (.ref sl) "slice":=let ⟨os,d,e,_⟩:=i;⟨os,d,e⟩;unfold getItem
 try with_reducible refine zH ?_
 first|refine qk (qq ?_)|skip
 refine qk (wpAny_sequenceKey a.typeIs ∅ ?_);refine qk (zU (name:=Str.ofString "__getitem__") a.typeIs slot_tuple_getitem
  (zA slot_tuple_getitem a.typeIs entry_tuple_getitem ?_ (args_tuple_getitem _ _)))
 show wpAny _ _ (Builtin.Tuple.tupleItemsOf (.ref t)>>=_) _ _ s;refine qk (tupleItemsOf_ a (qk (vX c ?_)));rw[qP ∅];refine qk (Vq i pl pu ?_);show wpAny _ _ (if (((jW items.size 0 lo:Nat):Int)==0&&(1:Int)==1&&(jW items.size items.size b-jW items.size 0 lo)==items.size)=true then _ else _) _ _ s;rw[qP (by rw[hw.1,hw.2];simp)];show wpAny _ _ (Builtin.Tuple.tupleIsExact (.ref t)>>=_) _ _ s;unfold Builtin.Tuple.tupleIsExact;refine qk ?_;refine qk (vX a.typeIs (qq ?_));show wpAny _ _ (if (Value.type "tuple"==Value.type "tuple")=true then _ else _) _ _ s;rw[qP ∅];refine qk (yC ?_);exact qq ⟨_,U,qq h⟩
end HT
namespace L2
open PySem PySem.Spec PyProof.Rows
inductive Mw(K:Frag)(x:V)(lo:Option Int)(hi:Option Int)(H:Hp)(Q:VK):Prop
 |mk:∀a xs,x=.ref a->jj K H a xs->((HT.jW xs.length 0 lo=0/\HT.jW xs.length xs.length hi=xs.length)->Q (.ref a) H)->(∀p,H p=none->Q (.ref p) (upd H p (.tup (XY xs lo hi))))->Mw K x lo hi H Q
def rSlA(K:Frag):V->Option Int->Option Int->Hp->VK->Prop:=λx lo a H Q=>Mw K x lo a H Q
theorem F0{X:Cx}:gM X (rSlA X.K):=by
 intro pins s σ H x v g i lo b sl Q I c d pl pu h;obtain⟨a,xs,rfl,e,j,k⟩:=h;by_cases hw:HT.jW xs.length 0 lo=0/\HT.jW xs.length xs.length b=xs.length
 .cases c;obtain⟨its,r,f,hz⟩:=I.tuple e;have hlen:its.toArray.size=xs.length:=by rw[qV];exact r.length.symm
  exact⟨"tuple",_,slot_tuple_getitem.lookup,f.typeIs,HT.xu f d pl pu (by rw[hlen];exact hw) ⟨.ref a,H,I,U,j hw⟩⟩
 .exact Sw pins s σ H (.ref a) v g i lo b sl Q I c d pl pu ⟨a,xs,U,e,hw,k⟩
end L2
namespace Hd
open PySem PySem.W PySem.Calls PyProof.Rows L2
variable {r:Option (Option qe)}{q x:qc}
theorem F6{tb:String->Option Builtin}{p:Program}{w:World}{a:Nat}{ann:Option qe}:∀(n:Nat)(s:SharedT)(t:Thread)(s':SharedT),
 xh (stepT (denote tb) p w) (stepOk a ann) n s t=some s'->topRun tb p w a ann n s.abs t=some s'.abs
 |0,_,_,_,h=>nomatch (h:none=some _)
 |n+1,s,t,s',h=>by
  rw[AB] at h;unfold topRun
  cases e:through t with
  |true=>rw[e] at h;cases h;rfl
  |false=>
   rw[e] at h
   cases f:stepOk a ann t with
   |false=>rw[f] at h;cases h
   |true=>
    rw[f] at h;dsimp only at h⊢
    cases d:stepT (denote tb) p w s t with
    |none=>rw[d] at h;cases h
    |some x=>
     obtain⟨b,c⟩:=x;rw[d] at h;rw[stepT_spec d];exact F6 n b c s' h
theorem Lz(P:Params):((boot_heap P).isNs mainGlobals,(boot_heap P).objs.size,(boot_heap P).nsMap mainGlobals "__annotations__")=(true,11,some (.ref 6)):=by kernel_rfl
theorem OF(P:Params):absHeap (RY P) 11 {}=boot_heap P:=by kernel_rfl
theorem aa(w:World)(os:OsState):(S0 w os).abs=⟨boot_heap w.params,#[],boot_drawn,boot_toks,os⟩:=zt (λh=>(⟨h,#[],boot_drawn,boot_toks,os⟩:Shared)) (OF w.params)
theorem left{p q:Program}{loose:qg}{Xt:Shared->Bool}{α:Type}{a:Shared->α}{b:World->α}{N:Nat}(e:opening p=plainProg p.main.scope.names)(hN:Nat.ble 600 N=true)(f:∀s,fenceModules? p s=some s)
 (h:∀(w:World)(os:OsState),(xh (yE xG p w) (v9 11 (some (.ref 6))) N (S0 w os) (topStub p)).map (λs=>(chk p w.params s.abs,seenQ q loose (importedModules p.main.body) Xt true s.abs,a s.abs))=some (true,openGood q loose,b w)) :
 LeftO p q loose Xt a b N:=λw=>by
 obtain⟨⟨c,g,d,k,os⟩,i,j⟩:=j3.mp (boot_open e hN f w);obtain⟨rfl,rfl,rfl,rfl⟩:c=boot_heap w.params/\g=#[]/\d=boot_drawn/\k=boot_toks:=by simpa using j
 have h:=h w os;unfold yE xG v9 seenQ at h;rw[<-PySem.W.Fast.te10156331382660048174,<-PySem.W.Fast.te11892475500146522536,<-PySem.W.Fast.te14364793385576792824,<-PySem.W.Fast.te6613529449190102663,<-PySem.W.Fast.te4187177175401517315] at h;obtain⟨s,r,l⟩:=j3.mp h;obtain⟨m,n,o⟩:_/\_/\_:=by simpa only[yA] using l
 have r:=F6 N _ _ _ r;rw[aa] at r;obtain⟨u,v,x⟩:_/\_/\_:=by simpa only[yA] using Lz w.params
 have t:topFrom treeTable p w N ⟨boot_heap w.params,#[],boot_drawn,boot_toks,os⟩=some s.abs:=by
  unfold topFrom;dsimp only;rw[u,v,x,r];show(match staticsOk (importedModules p.main.body) (boot_heap w.params) s.abs.heap&&namesBound p s.abs.heap&&gensDone s.abs&&laidKept (boot_heap w.params) s.abs.heap with|true=>_|false=>_)=_;rw[show(staticsOk (importedModules p.main.body) (boot_heap w.params) s.abs.heap&&namesBound p s.abs.heap&&gensDone s.abs&&laidKept (boot_heap w.params) s.abs.heap)=true from m]
 unfold openEnds;rw[i];show(topFrom treeTable p w N _).map _=_;rw[t];exact zt some (Prod.ext n o)
theorem Gx(f:Nat->Option Obj)(a:qd)(o:Obj):∀l:qa Nat,(l.filterMap λa=>(f a).map λo=>(a,o)).lookup a=some o->f a=some o
 |[],e=>nomatch e
 |b::l,e=>by
  cases c:f b with
  |none=>rw[List.filterMap_cons_none (by rw[c];rfl)] at e;exact Gx f a o l e
  |some x=>
   rw[List.filterMap_cons_some (by rw[c];rfl),zF] at e;split at e
   .rename_i q;cases e;rw[j0.mp q];exact c
   .exact Gx f a o l e
def Sy{α:Type}(obs:Frag->α)(good:α)(_:World)(h:Heap):Prop:=∃K:Frag,K.In h/\obs K=good
theorem F4{K:Frag}{st:Stmt}{ds:Option (qi)}(h:see K r q=(some (ku x q st,ds),true)):∃(e:qe)(i:Option qd)(d kV doc pm:qe)(an:Option qd)(a ct:qe)(c:Array (Option qe)),
 r=some (some (.ref (yw r)))/\K.lookup (yw r)=some ⟨e,i,.func (fnOf x q (Yi st) (QO st) (Qr st) d kV doc pm an a ct),c⟩/\HS K d=ds/\codeIn K a q=true/\keepIn K (.ref (yw r))=true/\isFn K (.ref (yw r))=true:=by
 unfold see at h;split at h
 .rename_i f
  split at h
  .rename_i e i fd c l
   obtain⟨m,o⟩:=vN h;obtain⟨k,p⟩:=vN (qW m);obtain⟨s,j⟩:=vQ.mp o;obtain⟨j,t⟩:=vQ.mp j;obtain⟨n,u,ps,b,sc,g,cl,d,kV,doc,pm,an,a,ct,bs⟩:=fd;simp only[FuncData.mk.injEq] at k;obtain⟨rfl,rfl,rfl,rfl,rfl,rfl,rfl,-,-,-,-,-,-,-,rfl⟩:=k;exact⟨e,i,d,kV,doc,pm,an,a,ct,c,U,l,p,s,j,t⟩
  .cases h
 .cases h
theorem gI{K:Frag}{st:Stmt}(h:see K r q=(some (ku x q st,none),true)):r=some (some (.ref (yw r)))/\keepIn K (.ref (yw r))=true/\isFn K (.ref (yw r))=true/\∃fd,vK K x q st (yw r) fd:=by
 obtain⟨k,l,b,kV,doc,pm,an,d,ct,e,f,g,a,i,c,j⟩:=F4 h;have:b=.none:=by
  cases b with
  |none=>rfl
  |ref D=>simp only[HS] at a;split at a<;>cases a
  |_=>cases a
 subst this;exact⟨f,c,j,_,TC g i c⟩
theorem w6{K:Frag}{st:Stmt}{b:qe}{bs:qi}(h:see K r q=(some (ku x q st,some (b::bs)),true)):r=some (some (.ref (yw r)))/\keepIn K (.ref (yw r))=true/\isFn K (.ref (yw r))=true /\
 ∃(D:qd)(kV doc pm:qe)(an:Option qd)(a ct:qe)(o:Obj)(items:qi)(n:Nat),BU K x q st (yw r) (fnOf x q (Yi st) (QO st) (Qr st) (.ref D) kV doc pm an a ct)/\K.lookup D=some o/\o.data=.seq items.toArray n/\items.map vc=b::bs:=by
 obtain⟨p,s,f,kV,doc,pm,an,a,ct,g,i,j,d,k,e,l⟩:=F4 h
 cases f with
 |none=>cases d
 |ref D=>
  simp only[HS] at d;split at d
  .rename_i c dd items n sl m
   refine⟨i,e,l,D,kV,doc,pm,an,a,ct,_,items.toList,n,Rf j k e,m,?_,qW d⟩;rw[jQ]
  .cases d
 |_=>cases d
theorem vU{v:V}{u:qe}(h:vc u=bv v)(b:flat v=true:=by rfl):QJ v u:=by
 cases v<;>first|(cases b;done)|skip
 all_goals (cases u<;>first|(cases h;done)|skip)
 all_goals first|rfl|(injection h with a;subst a;exact⟨_,rfl⟩)|(injection h with a _;subst a;exact⟨_,rfl⟩)|(injection h with a;subst a;rfl)
theorem eq_at{α:Type}{l m:qa α}(h:l=m)(i:Nat){a b:α}(e:l[i]?=some a)(c:m[i]?=some b):a=b:=by
 subst h;exact qW (e.symm.trans c)
theorem walk{l:OpenLaw}{n k:Nat}{q:Program}{loose:qg}{XP:(qc->Option qe)->Heap->Prop}{α:Type}{obs:Frag->α}{good:α}{d:DefRec}{sp:Frag->Sp}
 (r:l.most=some n) (e:n<=sizeLine) (g:d.params.defaults=[]) (t:Yf k callerA)
 (F:∀(w:World)(K:Frag)(mg:qc->Option qe)(c:qd)(h:Heap),K.In h->obs K=good->h.Ns mainGlobals mg->mg d.name=some (.ref c) ->
   ∃fd:FuncData,(∀(s:Shared)(u:qe),BindsTo s fd ⟨[u],[]⟩ [(x,u)])/\∀base:Heap,K.In base->base.Ns mainGlobals mg->U1 l.prog w K mg base jg k c fd [x] (sp K))
 (i:∀(K:Frag)(H:Hp)(a:qd)(ns:qa Int),ns.length<=n->ae H->zN K H a (ns.map V.int)->sp K [.ref a] H (λv _=>v=.bl true) λ_ _ _=>False) :
 WalkO q loose XP (Sy obs good) l.row.toRowW d [] (λf vs=>PySem.call f vs):=by
 refine Att.vV r g λw s₀ m mg I c o pm cd doc a vs ns G Y J hd A j b hints hlen B=>?_;obtain⟨K,p,y⟩:=Y;obtain⟨fd,C,D⟩:=F w K mg c _ p y G.T.g j;exact NJ p G.T.g G.T.b G.T.builtins G.T.nolimit B b hints (zb hlen e) t D C (λH E hS=>i K H a ns hlen E hS) λ_ _ _ z=>z
theorem gq{K:Frag}{h:Heap}{mg:qc->Option qe}{v:V}(X:K.In h)(G:h.Ns mainGlobals mg)(e:(gl K x).map (Option.map vc)=some (some (bv v)))(a:flat v=true:=by rfl):∃u,mg x=some u/\QJ v u:=by
 obtain⟨r,b,c⟩:=j3.mp e;obtain⟨u,d,f⟩:=j3.mp c;subst d;exact⟨u,mg_of X G b,vU f a⟩
end Hd
namespace L2
open PySem PySem.Spec PyProof.Rows
variable {X:Cx}
abbrev VZ(o:HO)(H:Hp)(Q:VK):Prop:=∀p H',H p=none->Qi H H'->H' p=some o->Q (.ref p) H'
theorem VZ.put{o:HO}{H:Hp}{Q:VK}(k:VZ o H Q){p:qd}(a:H p=none):Q (.ref p) (upd H p o):=k p _ a (Qi.zq a) Qb
inductive RW(xs:qa V)(H:Hp)(Q:VK):Prop
 |mk:xs.length<=sizeLine->VZ (.lst xs) H Q->RW xs H Q
inductive RV(xs:qa V)(H:Hp)(Q:VK):Prop
 |mk:xs.length<=sizeLine->VZ (.tup xs) H Q->RV xs H Q
def aI(t:TA):TE:=λσ H Q=>t σ H λxs H1=>RW xs H1 Q
def aC(t:TA):TE:=λσ H Q=>t σ H λxs H1=>RV xs H1 Q
theorem QW{es:qa Expr}{t:TA}{pos:Pos}(h:g5 X es t):PE X (.List es pos) (aI t):=by
 intro pins s σ H Q I c;refine wpAny_List_spliced (z5 (h.h pos pins s σ H _ I c) λus s1 ⟨xs,H1,a,r,z,q⟩=>⟨by rw[<-r.length];exact z,?_⟩);have hf:H1 s1.heap.objs.size=none:=a.hok.fresh (qz _);refine⟨.ref s1.heap.objs.size,upd H1 s1.heap.objs.size (.lst xs),a.laid (t':=s1.toks) (λb u e=>qr _ e) (qz _) ?_,U,VZ.put q hf⟩;exact⟨z,us,0,r,qI _ rfl⟩
theorem YV{es:qa Expr}{t:TA}{c:Nat}{pos:Pos}(h:g5 X es t):PE X (.Tuple es c pos) (aC t):=by
 intro pins s σ H Q I d;refine wpAny_Tuple_spliced (z5 (h.h pos pins s σ H _ I d) λus s1 ⟨xs,H1,a,r,z,q⟩=>⟨by rw[<-r.length];exact z,?_⟩);have hf:H1 s1.heap.objs.size=none:=a.hok.fresh (qz _);refine⟨.ref s1.heap.objs.size,upd H1 s1.heap.objs.size (.tup xs),a.laid (t':=s1.toks) (λb u e=>qr _ e) (qz _) ?_,U,VZ.put q hf⟩;exact⟨z,us,r,⟨_,qI _ rfl,U,_,U⟩⟩
theorem gM.mono{r b:V->Option Int->Option Int->Hp->VK->Prop}(h:gM X r)(k:∀x lo a H Q,b x lo a H Q->r x lo a H Q):gM X b:=
 λpins s σ H x v c d lo a sl Q I e f pl pu q=>h pins s σ H x v c d lo a sl Q I e f pl pu (k _ _ _ _ _ q)
theorem y9.mono{f:qe->qe->Sem qe}{r a:R2}(h:y9 X f r)(k:∀x y H Q,a x y H Q->r x y H Q):y9 X f a:=
 λpins s σ H x y v u Q I b c q=>h pins s σ H x y v u Q I b c (k _ _ _ _ q)
theorem wO.mono{id:String}{r a:V->qa V->Hp->VK->Prop}(h:wO X id r)(k:∀x y H Q,a x y H Q->r x y H Q):wO X id a:=
 λpins s σ H x xs v us Q I b c q=>h pins s σ H x xs v us Q I b c (k _ _ _ _ q)
inductive bX(K:Frag)(x:V)(lo hi:Option Int)(H:Hp)(Q:VK):Prop
 |mk:∀a xs,x=.ref a->zN K H a xs->VZ (.lst (XY xs lo hi)) H Q->bX K x lo hi H Q
theorem K7 :gM X (bX X.K):=O5.mono λx lo c H Q ⟨a,xs,e,h,k⟩=>⟨a,xs,e,h,λp b=>VZ.put k b⟩
inductive bY(x y:V)(H:Hp)(Q:VK):Prop
 |mk:∀l b xs zs,x=.ref l->y=.ref b->H l=some (.lst xs)->H b=some (.lst zs)->xs.length+zs.length<=sizeLine->VZ (.lst (xs++zs)) H Q->bY x y H Q
theorem U0 :y9 X (binaryOp .Add) bY:=M4.mono λx y H Q ⟨l,b,xs,zs,a,c,d,e,hz,k⟩=>⟨l,b,xs,zs,a,c,d,e,hz,λp f=>VZ.put k f⟩
inductive Oe(x:V)(xs:qa V)(H:Hp)(Q:VK):Prop
 |mk:∀(z y:qc),x=.str z->xs=[.str y]->(y.length==0)=false->z.length<=1000000->VZ (.lst ((Txt.split z y).map V.str)) H Q->Oe x xs H Q
theorem IT :wO X "str.split" Oe:=IU.mono λx xs H Q ⟨z,y,a,b,c,hz,k⟩=>⟨z,y,a,b,c,hz,λp d=>VZ.put k d⟩
theorem OA{α:Type}(f:α->V)(xs:qa α)(v:Int)(h:0<=v):XY (xs.map f) (some v) none=(xs.drop v.toNat).map f:=by
 have a:¬v<0:=by omega
 simp only[XY,HT.jW,qJ a,ql,<-List.map_drop,<-List.map_take];congr 1;by_cases b:v.toNat<=xs.length
 .rw[show min v.toNat xs.length=v.toNat by omega];exact ja (by rw[jG];omega)
 .rw[show min v.toNat xs.length=xs.length by omega,List.drop_eq_nil_of_le (qz _),List.drop_eq_nil_of_le (show xs.length<=v.toNat by omega)];simp
theorem Yz{x y:qc}:decide (V.str x=V.str y)=decide (x=y):=by
 by_cases h:x=y
 .rw[h,qx rfl,qx rfl]
 .rw[qD h,qD λz=>h (V.str.inj z)]
end L2
namespace Hd
open PySem PySem.W L2
theorem Ki:∀{us:qi}{ys:qg},W8 us ys=true->QB (ys.map V.str) us
 |[],[],_=>.nil
 |[],_::_,h=>by simp[W8] at h
 |u::us,[],h=>by cases u<;>simp[W8] at h
 |u::us,y::ys,h=>by
  cases u with
  |str x t=>
   rw[W8,qG] at h;have e:=qH h.1;subst e;exact .cons ⟨t,U⟩ (Ki h.2)
  |_=>simp[W8] at h
theorem ui{K:Frag}{h:Heap}{mg:qc->Option qe}{x:qc}{ys:qg}(X:K.In h)(G:h.Ns mainGlobals mg)(e:vz K x ys=true):∃p,mg x=some (.ref p)/\∀H,jj K H p (ys.map V.str):=by
 unfold vz at e;rw[qG] at e;refine⟨_,mg_of X G (qH e.1),λH=>.inr ?_⟩;have a:=e.2;unfold LI at a
 cases c:K.lookup (yw (gl K x)) with
 |none=>rw[c] at a;cases a
 |some d=>
  rw[c] at a;dsimp only at a;rw[qG] at a;obtain⟨f,b⟩:=a
  cases hd:d.data with
  |seq its n=>
   rw[hd] at b;dsimp only at b;rw[qG] at b;exact⟨d,its,n,U,qH f,hd,qH b.1,Ki b.2⟩
  |_=>rw[hd] at b;cases b
end Hd
namespace L2
open PySem PySem.Spec PyProof.Rows
abbrev TF:=St->Hp->qc->(qc->Hp->Prop)->Prop
def PF(X:Cx)(es:qa Expr)(t:TF):Prop:=∀(pins:qa (qd×Obj))(s:Shared)(σ:St)(H:Hp)(acc:qc)(Q:qc->Hp->Prop),Inv X pins σ H s->t σ H acc Q ->
 Joins (model X.prog X.w) X.A X.xe (evalEach es X.env) acc (λout s1=>∃H',Inv X pins σ H' s1/\Q out H') s
def aB:TF:=λ_ H acc Q=>Q acc H
inductive RB(t:TF)(σ:St)(acc:qc)(Q:qc->Hp->Prop)(v:V)(H1:Hp):Prop
 |mk:∀y:qc,v=.str y->(acc++y).length<=sizeLine->t σ H1 (acc++y) Q->RB t σ acc Q v H1
def Sb(a:TE)(t:TF):TF:=λσ H acc Q=>a σ H λv H1=>RB t σ acc Q v H1
section
variable {X:Cx}{e:Expr}{es:qa Expr}{te:TE}{t:TF}{pos:Pos}
theorem SK:PF X [] aB:=λ_ s _ H _ _ I h=>⟨H,I,h⟩
theorem Xi(he:PE X e te)(h:PF X es t)(a:evalEach (e::es) X.env=eval e X.env::evalEach es X.env:=by rfl):PF X (e::es) (Sb te t):=by
 intro pins s σ H acc Q I q;rw[a];refine z5 (he pins s σ H _ I q) λu s1 ⟨v,H1,b,r,y,ev,hz,c⟩=>?_;subst ev;obtain⟨d,rfl⟩:=r;exact⟨y,d,U,hz,h pins s1 σ H1 _ Q b c⟩
inductive RF(Q:VK)(out:qc)(H':Hp):Prop
 |mk:out.length<=sizeLine->Q (.str out) H'->RF Q out H'
def tFs(t:TF):TE:=λσ H Q=>t σ H Str.empty λout H'=>RF Q out H'
theorem bD{v1 v2:Expr}{rest:qa Expr}(h:PF X (v1::v2::rest) t):PE X (.JoinedStr (v1::v2::rest) pos) (tFs t):=by
 intro pins s σ H Q I q;refine wpAny_JoinedStr ?_;have c:=h pins s σ H Str.empty _ I q;have mono:∀(ps:qa (Sem qe))(acc:qc)(a b:qc->Shared->Prop)(s:Shared),(∀o s,a o s->b o s)->Joins (model X.prog X.w) X.A X.xe ps acc a s->Joins (model X.prog X.w) X.A X.xe ps acc b s:=by
  intro ps
  induction ps with
  |nil=>intro acc a b s k j;exact k _ _ j
  |cons p ps d=>
   intro acc a b s k j;exact z5 j λv s1 ⟨y,t,ev,hz,e⟩=>⟨y,t,ev,hz,d _ a b s1 k e⟩
 refine mono _ _ _ _ _ (λout s1 ⟨H',d,hz,e⟩=>⟨hz,⟨.str out,H',d.tok _,⟨_,U⟩,e⟩⟩) c
inductive D1(Q:VK)(v:V)(H1:Hp):Prop
 |str:∀y:qc,v=.str y->y.length<=sizeLine->Q (.str y) H1->D1 Q v H1
 |int:∀i:Int,v=.int i->i.natAbs.log2<1920->Q (.str (toString i)) H1->D1 Q v H1
def tFmt(te:TE):TE:=λσ H Q=>te σ H λv H1=>D1 Q v H1
theorem Ef(he:PE X e te):PE X (.FormattedValue e (-1) none pos) (tFmt te):=by
 intro pins s σ H Q I q;refine wpAny_FormattedValue_plain (z5 (he pins s σ H _ I q) λu s1 ⟨v,H1,b,r,a⟩=>?_)
 cases a with
 |str y ev hz a=>
  subst ev;obtain⟨c,rfl⟩:=r;exact wpAny_formatField_str ⟨.str y,H1,b,⟨c,U⟩,a⟩ ⟨.str y,H1,b.tok _,⟨_,U⟩,a⟩ hz
 |int i ev hz a=>
  subst ev;obtain⟨c,rfl⟩:=r;exact wpAny_formatField_int hz ⟨.str _,H1,b.tok _,⟨_,U⟩,a⟩
end
theorem DE{K:Frag}{a:qd}{α:Type}{xs:qa α}{fr:qa (Nat×qc)}{q:TE}{σ:St}{H1:Hp}{Q:VK}(g:α->qd)(f1 f2:α->V)(Pv:qd->Nat->qa V->Hp->Prop)(hz:xs.length<=sizeLine)(hS:zN K H1 a (xs.map λx=>V.ref (g x)))(h0:∀D,H1 D=none->Pv D 0 [] (upd H1 D (.lst [])))(hlen:∀D i ys H,Pv D i ys H->ys.length=i)
 (n:∀x∈xs,∀b,Qi H1 b->jj K b (g x) [f1 x,f2 x])
 (o:∀(D:qd)(i:Nat)(x:α)(ys:qa V)(b:Hp)(Q':VK),xs[i]?=some x->H1 D=none->Pv D i ys b->b D=some (.lst ys)->Qi H1 b->(∀y k,Qi b k->Pv D (i+1) (ys++[y]) (upd k D (.lst (ys++[y])))->Q' y k)->q (some (f1 x)::some (f2 x)::yx σ fr) b Q')
 (r:∀D ys c,H1 D=none->Pv D xs.length ys c->Qi H1 c->c D=some (.lst ys)->Q (.ref D) c) :
 X0 K (g7 K a) fr q σ H1 Q:=by
 intro D h;refine⟨λi m ys c=>m=xs.length-i/\i<=xs.length/\Pv D i ys c/\Qi H1 c/\c D=some (.lst ys),⟨xs.length,by simp,za _,h0 D h,Qi.zq h,Qb⟩,?_⟩;rintro i m ys c ⟨rfl,t,p,s2,l⟩;refine⟨l,?_⟩;have f:=s2.seq hS;by_cases d:i<xs.length
 .have j:(xs.map λx=>V.ref (g x))[i]?=some (V.ref (g xs[i])):=by rw[qQ,qv d];rfl
  refine .inr ⟨⟨_,_,f,j⟩,?_⟩;rintro v b ⟨rfl,s⟩;have ev:=s _ f;rw[j] at ev;cases ev;refine⟨g xs[i],_,_,U,n xs[i] (zu d) b s2,o D i xs[i] ys b _ (qv d) h p l s2 λy k s5 pv=>⟨s5 _ _ l,?_,xs.length-(i+1),⋯,U,d,pv,(s2.trans s5).jl h,Qb⟩⟩;rw[hlen D i ys _ p];omega
 .have e:i=xs.length:=by omega
  subst e;exact .inl ⟨⟨_,f,by rw[ql];exact qz _⟩,r D ys c h p s2 l⟩
section
variable {prog:Program}{w:World}{A:Around}{R:Result->Shared->Prop}{I:qd}{fp wr:qa qd}{n:Nat}{P:Nat->qe->Prop}{St:Nat->Heap->Prop}{dv:qe}
theorem XQ:(toString "max"++toString ".loop":String)="max.loop":=by decide
theorem IW(W:Walks prog w A.in1 I fp wr n P St)(y:Nat->Nat->Bool)(z:CmpOf prog w A.in1 .Gt P y)(S:qd)(B:S∉fp):∀(k j:Nat)(s:Shared)(m:qe)(c:Nat),n-(j+1)=k->j+1<=n->St (j+1) s.heap->P (argBest y j) m->s.heap.get? S=some {cls:=.type "list",dict:=none,data:=.seq #[m,m] c,slots:=#[]} ->
 (∀v h' D,P (argBest y (n-1)) v->(∀b o,b∉wr->b≠S->s.heap.get? b=some o->h'.get? b=some o)->R (.ok (.ret v)) {s with heap:=h',toks:=D})->codeAny (model prog w) A (.builtin "max.loop" ⟨[.ref I,.none,.ref S],[(Str.ofString "default",dv)]⟩) R s:=by
 have C:S∉wr:=λh=>B (W.sub _ h);intro k
 induction k with
 |zero=>
  intro j s m c L M r p hS E;have i:j+1=n:=by omega
  refine jd entry_max_loop ?_;rw[zW plain_max_loop _];show wpAny _ A.in1 (seqItems? (.ref S)>>=_) _ _ s;refine qk (kW hS rfl ?_);show wpAny _ A.in1 (tryCatch (pyNext (.ref I)) _>>=_) _ _ s;refine qk (kY (W.done s _ _ (i▸r) λh' D d=>?_));have g:=d S _ C hS;show wpAny _ A.in1 (updateSeq S (λ_=>#[])>>=_) _ _ _;refine qk ?_;refine xY g rfl (qk (w2 (qq ?_)));refine E m _ D (by rw[<-i];exact p) λb o a f e=>(zG _ _ (jL f)).trans (d b o a e)
 |succ k H=>
  intro j s m c L M r p hS E;have t:j+1<n:=by omega
  refine jd entry_max_loop ?_;rw[zW plain_max_loop _];show wpAny _ A.in1 (seqItems? (.ref S)>>=_) _ _ s;refine qk (kW hS rfl ?_);show wpAny _ A.in1 (tryCatch (pyNext (.ref I)) _>>=_) _ _ s;refine qk (kY (W.item (j+1) s _ _ t r λv h' D J q d=>?_));have g:=d S _ C hS;show wpAny _ A.in1 (tryCatch (holding [v,v] (richCompare .Gt v m>>=_)) _>>=_) _ _ _;refine qk (kY (zH (qk (z (j+1) (argBest y j) v m _ _ _ J p ?_))));refine qk (zH (zI ?_));refine qk (w2 (qq ?_))
  cases K:y (j+1) (argBest y j) with
  |true=>
   simp only[yM];refine qk ?_;refine xY g rfl (qk (w2 ?_));rw[XQ];refine qq ⟨jN plain_max_loop _,H (j+1) _ v _ ⋯ t (W.frame _ _ _ q λb F o e=>(zG _ _ (λh:S=b=>B (by rw[h];exact F))).trans e) (by simp only[argBest,K,yM];exact J) (zL _ g rfl) λG u i x l=>?_⟩;exact E G u i x λb o a f e=>l b o a f ((zG _ _ (jL f)).trans (d b o a e))
  |false=>
   simp only[zl,jx];refine qk (w2 ?_);rw[XQ];refine qq ⟨jN plain_max_loop _,H (j+1) _ m c ⋯ t q (by simp only[argBest,K,zl,jx];exact p) g λG u i x l=>E G u i x λb o a f e=>l b o a f (d b o a e)⟩
theorem Ex(W:Walks prog w A.in1 I fp wr n P St)(r:Nat->Nat->Bool)(g:CmpOf prog w A.in1 .Gt P r)(S:qd)(f:S∉fp){s:Shared}{c:Nat}(i:St 0 s.heap)(hS:s.heap.get? S=some {cls:=.type "list",dict:=none,data:=.seq #[] c,slots:=#[]})
 (B:∀v h' q,(0<n/\P (argBest r (n-1)) v\/n=0/\v=dv)->(∀b o,b∉wr->b≠S->s.heap.get? b=some o->h'.get? b=some o)->R (.ok (.ret v)) {s with heap:=h',toks:=q}):codeAny (model prog w) A (.builtin "max.loop" ⟨[.ref I,.none,.ref S],[(Str.ofString "default",dv)]⟩) R s:=by
 have t:S∉wr:=λh=>f (W.sub _ h);refine jd entry_max_loop ?_;rw[zW plain_max_loop _];show wpAny _ A.in1 (seqItems? (.ref S)>>=_) _ _ s;refine qk (kW hS rfl ?_);show wpAny _ A.in1 (tryCatch (pyNext (.ref I)) _>>=_) _ _ s;by_cases u:0<n
 .refine qk (kY (W.item 0 s _ _ u i λv h' q C j a=>?_));have k:=a S _ t hS;show wpAny _ A.in1 (updateSeq S (λ_=>#[v,v])>>=_) _ _ _;refine qk ?_;refine xY k rfl ?_;rw[XQ];refine qq ⟨jN plain_max_loop _,IW W r g S f _ 0 _ v _ rfl u (W.frame _ _ _ j λb x o e=>(zG _ _ (λh:S=b=>f (by rw[h];exact x))).trans e) C (zL _ k rfl) λD y l z m=>?_⟩;exact B D y l (.inl ⟨u,z⟩) λb o d p e=>m b o d p ((zG _ _ (jL p)).trans (a b o d e))
 .have h0:n=0:=by omega
  refine qk (kY (W.done s _ _ (h0▸i) λh' q a=>?_));refine qk (yC (qq ?_));exact B dv h' q (.inr ⟨h0,U⟩) λb o d _ e=>a b o d e
end
def mxd(d:Int):qa Int->Int
 |[]=>d
 |n::ns=>ns.foldl max n
theorem PV{d:Int}{ns:qa Int}(h:0<ns.length){M:Int}(hm:M∈ns)(f:∀a∈ns,a<=M):M=mxd d ns:=by
 cases ns with
 |nil=>cases hm
 |cons n ns=>
  have key:∀(l:qa Int)(z:Int),z<=l.foldl max z/\(∀a∈l,a<=l.foldl max z)/\(l.foldl max z=z\/l.foldl max z∈l):=by
   intro l
   induction l with
   |nil=>intro z;exact⟨Int.le_refl _,nofun,.inl rfl⟩
   |cons y l i=>
    intro z;obtain⟨g,c,b⟩:=i (max z y);refine⟨by show z<=l.foldl max (max z y);omega,λa e=>?_,?_⟩
    .rcases qC.mp e with rfl|e
     .show a<=l.foldl max (max z a);omega
     .exact c a e
    .show l.foldl max (max z y)=z\/l.foldl max (max z y)∈y::l;rcases b with b|b
     .rw[b];by_cases hz:y<=z
      .left;omega
      .right;rw[show max z y=y by omega];exact qB
     .exact .inr (qK _ b)
  obtain⟨g,c,b⟩:=key ns n;show M=ns.foldl max n;have e:M<=ns.foldl max n:=by
   rcases qC.mp hm with rfl|hm
   .exact g
   .exact c M hm
  have i:ns.foldl max n<=M:=by
   rcases b with b|b
   .rw[b];exact f n qB
   .exact f _ (qK _ b)
  omega
theorem GH:∀{us:qi}{ns:qa Int},QB (ns.map V.int) us->∃xs:Array (Int×Tok),us.toArray=intItems xs/\ns=xs.toList.map (·.1)
 |_,[],.nil=>⟨#[],by simp[intItems],U⟩
 |_,n::ns,.cons r rs=>by
  obtain⟨t,rfl⟩:=r;obtain⟨xs,a,b⟩:=GH rs;refine⟨#[(n,t)]++xs,?_,?_⟩
  .have:=zt Array.toList a;simp only[intItems,yZ] at this;apply Array.ext';simp[intItems,this]
  .simp[b]
theorem X2(a v:qe):argsOk "max" ⟨[a],[(Str.ofString "default",v)]⟩:=by unfold argsOk;kernel_rfl
inductive Fe(K:Frag)(d:Int)(Q:VK)(x:V)(H1:Hp):Prop
 |mk:∀l (ns:qa Int),x=.ref l->zN K H1 l (ns.map V.int)->Q (.int (mxd d ns)) H1->Fe K d Q x H1
def aH(K:Frag)(a:TE)(d:Int):TE:=λσ H Q=>a σ H λx H1=>Fe K d Q x H1
theorem Pn{X:Cx}{e:Expr}{B:TE}{d:Int}{j:Nat}{p pos G J:Pos}(hc:X.calm=true)(K:Gl X "max")(hm:X.mg "max"=none)(c:PE X e B)
 (he:starEach [e] X.env=[(false,eval e X.env)]:=by rfl) :
 PE X (.Call (.Name "max" p) [e] [⟨some "default",.Constant (.int d) j G,J⟩] pos) (aH X.K B d):=by
 intro pins s σ H Q I h;refine jP (W7 I K hm boot_max ?_ ∅ ∅);refine callWith_kw ?_ (by rw[he];rfl) (by rw[he];rfl) (by rfl) (by rfl);rw[he];show wpAny _ _ (spliced ((false,eval e X.env)::backTo pos [])) _ _ s;refine jb (z5 (c pins s σ H _ I h) λu s1 ⟨x,H1,C,L,M⟩=>jS ?_);obtain⟨l,ns,rfl,N,q⟩:=M;cases L;refine kws_cons (wpAny_Constant_int (kws_nil ?_));show wpAny _ _ (call (.builtin "max") [.ref l] [(Str.ofString "default",.int d s1.toks)]) _ _ {s1 with toks:=s1.toks+1};obtain⟨its,O,pl,_⟩:=C.list N;obtain⟨xs,g,f⟩:=GH O;have k:s1.heap.IsList l (intItems xs):=by rw[<-g];exact pl.isList
 have m:X.A.handled=none:=I.ok.hd hc;refine kmk_tree PySem.F.kind_max PySem.F.plain_max PySem.F.entry_max (X2 _ _) ?_;show wpAny _ X.A.in1 (Builtin.Builtins.bindParams "max" ["key","default"] 0 ⟨[],[(Str.ofString "default",.int d s1.toks)]⟩>>=_) _ _ _;refine qk (wZ (show Builtin.Builtins.bindParams "max" ["key","default"] 0 ⟨[],[(Str.ofString "default",.int d s1.toks)]⟩=pure [none,some (.int d s1.toks)] from rfl) ?_);refine qk (qq ?_);refine qk (iter_intList (s:={s1 with toks:=s1.toks+1}) k λs2 n st r y=>?_);subst n;refine qk (zr ?_);have W:=Walks.list (prog:=X.prog) (w:=X.w) (A:=X.A.in1) m s1.heap.objs.size l y (intItems xs);have z:(s1.heap.push {cls:=.type "list_iterator",data:=.fields #[.ref l,.int 0 0]}).objs.size∉[s1.heap.objs.size,l]:=λhm=>zQ _ (r _ hm);refine qq ⟨jN plain_max_loop _,?_⟩;refine Ex W (λi j=>decide (numAt xs i > numAt xs j)) (CmpOf.ints_gt (numAt xs) (λ_ _=>intItems_at)) _ z (W.frame _ _ _ st λb _ o e=>qr _ e) (qI _ rfl) λv h' D P R=>?_;have E:Inv X pins σ H1 {s1 with heap:=h',toks:=D}:=C.kept (t':=D) λb o e=>by
  have F:=qM e;refine R b o (λhm=>?_) (qR (qU F (by rw[jr];exact jE _))) (qr _ (qr _ e));rcases qC.mp hm with g|hm
  .exact absurd (g▸F) (zQ _)
  .cases hm
 have hsz:(intItems xs).size=ns.length:=by rw[f];simp[intItems]
 rcases P with⟨F,S⟩|⟨F,rfl⟩
 .obtain⟨t,rfl⟩:=intItems_at S;obtain⟨h1,T⟩:=argBest_gt (numAt xs) ((intItems xs).size-1);have V:xs.size=ns.length:=by rw[f];simp
  have Y:numAt xs (argBest (λi j=>decide (numAt xs i > numAt xs j)) ((intItems xs).size-1))=mxd d ns:=by
   refine PV ⋯ ?_ λa c=>?_
   .rw[f,numAt_eq];exact getD_mem (by rw[ql,ze];omega)
   .rw[f] at c;obtain⟨i,Z,rfl⟩:=mem_getD c;rw[ql,ze] at Z;rw[<-numAt_eq];exact T i ⋯
  exact⟨.int (mxd d ns),H1,E,⟨t,by rw[Y]⟩,q⟩
 .have T:ns=[]:=jz.mp ⋯;subst T;exact⟨.int d,H1,E,⟨_,U⟩,q⟩
theorem OG:(" ":qc).cps.toList=[32]:=by decide +kernel
theorem cg:(" ":qc)=⟨#[32]⟩:=by decide +kernel
theorem Ui(a b:qc)(r:qg):(Str.join " " (a::b::r)).cps.toList=a.cps.toList++32::(Str.join " " (b::r)).cps.toList:=by
 show((a++" ")++Str.join " " (b::r)).cps.toList=_;rw[Yr,Yr,OG,yO];rfl
theorem A7:∀{ps qs:qg},ps≠[]->qs≠[]->(∀p∈ps,¬32∈p.cps.toList)->(∀p∈qs,¬32∈p.cps.toList)->Str.join " " ps=Str.join " " qs->ps=qs
 |[],_,h,_,_,_,_=>absurd rfl h
 |_,[],_,h,_,_,_=>absurd rfl h
 |[p],[q],_,_,_,_,h=>by have h:p=q:=h;rw[h]
 |[p],q::a::r,_,_,b,_,h=>by
  have h:p=Str.join " " (q::a::r):=h;have:=b p qB;rw[h,Ui] at this;exact absurd (qy _ qB) this
 |p::c::r,[q],_,_,_,d,h=>by
  have h:Str.join " " (p::c::r)=q:=h;have:=d q qB;rw[<-h,Ui] at this;exact absurd (qy _ qB) this
 |p::c::r,q::a::f,_,_,b,d,h=>by
  have e:(Str.join " " (p::c::r)).cps.toList=(Str.join " " (q::a::f)).cps.toList:=by rw[h]
  rw[Ui,Ui] at e;obtain⟨g,i⟩:=OB (b p qB) (d q qB) e;have j:=A7 (ps:=c::r) (qs:=a::f) (by simp) (by simp) (λz hz=>b z (qK _ hz)) (λz hz=>d z (qK _ hz)) (VJ i);rw[VJ g,j]
theorem Lx(x:qc):Txt.split x " "≠[]:=λz=>by
 have:=split_pos x " ";rw[z] at this;exact absurd this ∅
theorem DJ(x:qc):∀p∈Txt.split x " ",¬32∈p.cps.toList:=λp a=>by
 rw[cg] at a;exact StrLaws.split_free _ 32 p a
theorem Ly{x:qc}{ps:qg}(h0:ps≠[])(h:∀p∈ps,¬32∈p.cps.toList)(e:Str.join " " ps=x):Txt.split x " "=ps:=by
 refine A7 (Lx x) h0 (DJ x) h ?_;rw[e];exact StrLaws.join_split _ _
theorem A9:∀{ps qs:qg},ps≠[]->qs≠[]->Str.join " " (ps++qs)=(Str.join " " ps++" ")++Str.join " " qs
 |[],_,h,_=>absurd rfl h
 |[p],q::qs,_,_=>rfl
 |[p],[],_,h=>absurd rfl h
 |p::a::r,qs,_,b=>by
  have c:=A9 (ps:=a::r) (qs:=qs) (by simp) b;apply VJ;show(Str.join " " (p::a::(r++qs))).cps.toList=_;rw[Ui,Yr,Yr,Ui,show a::(r++qs)=(a::r)++qs from rfl,c,Yr,Yr];simp
theorem BP{X:Cx}(K:Frag)(d:X.K=K:=by rfl):Y7 X (.builtin "isinstance") (λxs H Q=>∃x c a t b,xs=[x,c]/\cc c=some a/\Vd K H x t/\kitOne K t a=some b/\Q (.bl b) H):=d▸QR
end L2
namespace HT
open PySem PyProof.Rows
end HT
namespace L2
open PySem PySem.Spec PyProof.Rows
theorem bZ{N P:qg}{sc:Scope}(h:(sc.kind=.function/\sc.isCoroutine=false/\sc.isGenerator=false)/\N.Nodup/\N.take P.length=P/\(∀x∈P,sc.names.lookup x=some .local\/sc.names.lookup x=some .cell)/\∀y∈sc.names,y.2≠.free:=by decide +kernel):UL N P sc:=⟨h.1.1,h.1.2.1,h.1.2.2,h.2.1,h.2.2.1,h.2.2.2.1,h.2.2.2.2⟩
variable {ps:qg}{us:qi}{q x:qc}{fd:FuncData}{s:Stmt}
theorem BW(g:ps.Nodup)(f:ps.length=us.length):ps.filterMap (λn=>((ps.zip us).lookup n).map (n,·))=ps.zip us:=by
 induction ps generalizing us with
 |nil=>rfl
 |cons p r i=>
  cases us with
  |nil=>simp at f
  |cons u us=>
   have a:=zV.mp g;rw[xN,List.filterMap_cons_some (b:=(p,u)) (by rw[zF,z8];rfl)];congr 1
   suffices h:∀l:qg,(∀n∈l,n≠p)->l.filterMap (λn=>(List.lookup n ((p,u)::r.zip us)).map (n,·))=l.filterMap (λn=>(List.lookup n (r.zip us)).map (n,·)) from(h r λn j z=>a.1 (z▸j)).trans (i a.2 (by simpa using f))
   intro l c
   induction l with
   |nil=>rfl
   |cons n l d=>
    have e:((n,p).1==p)=false:=vv (c n qB);have k:List.lookup n ((p,u)::r.zip us)=List.lookup n (r.zip us):=by rw[zF,show(n==p)=false from e]
    rw[yu,yu,k,d λm hm=>c m (qK _ hm)]
theorem IZ{sl:qa (qc×qe)}(h:q∉sl.map (·.1)):sl.lookup q=none:=by
 induction sl with
 |nil=>rfl
 |cons x r a=>
  rw[zF,show(q==x.1)=false from vv λz=>h (by rw[z];exact qB)];exact a λz=>h (qK _ z)
theorem fill{qs:qg}{ds:qi}{sl:qa (qc×qe)}{m:Nat}(c:qs.length=ds.length)(i:qs.Nodup)(g:∀q∈qs.take m,(sl.lookup q).isNone=false)(f:∀q∈qs.drop m,q∉sl.map (·.1)) :
 (forIn (qs.zip ds) sl λx r=>if (List.lookup x.1 r).isNone=true then pure (ForInStep.yield (r++[(x.1,x.2)])) else pure (ForInStep.yield r):Sem (qa (qc×qe)))=pure (sl++(qs.drop m).zip (ds.drop m)):=by
 induction qs generalizing ds sl m with
 |nil=>simp
 |cons q r h=>
  cases ds with
  |nil=>simp at c
  |cons d ds=>
   have a:=zV.mp i;rw[xN,List.forIn_cons]
   cases m with
   |zero=>
    have e:=IZ (f q qB);simp only[e,Option.isNone_none,yM,pure_bind];rw[h (m:=0) (by simpa using c) a.2 nofun (λx b=>?_)]
    .simp
    .rw[qE];intro z;rcases qF.mp z with z|z
     .exact f x (qK _ b) z
     .rw[qt.mp z] at b;exact a.1 b
   |succ m=>
    have e:=g q qB;simp only[e,zl,jx,pure_bind];rw[h (m:=m) (by simpa using c) a.2 (λx b=>g x (qK _ b)) (λx b=>f x b)];simp
theorem OW{vs:qi}:ps.zip us++(ps.drop us.length).zip vs=ps.zip (us++vs):=by
 induction us generalizing ps with
 |nil=>simp
 |cons u us a=>cases ps with
  |nil=>simp
  |cons p ps=>simp[a]
theorem OV(h:q∈(ps.zip us).map (·.1)):q∈ps.take us.length:=by
 induction us generalizing ps with
 |nil=>simp at h
 |cons u us a=>cases ps with
  |nil=>simp at h
  |cons p ps=>
   rw[xN,zf] at h;rcases qC.mp h with h|h
   .rw[h];exact qB
   .exact qK _ (a h)
theorem Bg(h:q∈ps.take us.length):((ps.zip us).lookup q).isNone=false:=by
 induction us generalizing ps with
 |nil=>simp at h
 |cons u us a=>cases ps with
  |nil=>simp at h
  |cons p ps=>
   rw[xN,zF];by_cases e:q=p
   .rw[e];simp
   .rw[show(q==p)=false from vv e];exact a ((qC.mp h).resolve_left e)
theorem ck(b:fd.params.posonlyargs=[])(c:fd.params.kwonlyargs=[])(d:fd.params.vararg=none)(e:fd.params.kwarg=none)(hd:fd.defaults=.none)(f:(fd.params.args.map (·.arg)).Nodup)(a:us.length=(fd.params.args.map (·.arg)).length):bindArgs fd ⟨us,[]⟩=pure ((fd.params.args.map (·.arg)).zip us):=by
 unfold bindArgs;simp only[b,c,d,e,hd,yN,List.nil_append,zD];generalize fd.params.args.map (·.arg)=ps at f a⊢;have g:ps.filter (λn=>((ps.zip us).lookup n).isNone)=[]:=j5.mpr λn h=>by rw[Bg (q:=n) (by rw[a,jH];exact h)];decide
 have i:=BW f a.symm;have j:seqItems? Value.none=pure none:=rfl;simp[g,i,j,a]
theorem cj{K:Frag}{D:qd}{o:Obj}{items:qi}{n:Nat}(f:fd.params.posonlyargs=[])(g:fd.params.kwonlyargs=[])(i:fd.params.vararg=none)(j:fd.params.kwarg=none)(hd:fd.defaults=.ref D)(t:K.lookup D=some o)(u:o.data=.seq items.toArray n)
 (e:(fd.params.args.map (·.arg)).Nodup) (v:items.length<=(fd.params.args.map (·.arg)).length) (m:Nat):Yy K fd (fd.params.args.map (·.arg)) (items.drop m):=λs us X r=>by
 refine PySem.W.binds_K (k:=?k) X hd t u ?a ?b
 case a=>
  unfold bindArgs;simp only[f,g,i,j,yN,List.nil_append,zD,List.forIn_nil,pure_bind];rfl
 case b=>
  simp only[gE,v5];generalize fd.params.args.map (·.arg)=ps at e r v⊢;have w:List.drop (items.length-ps.length) items=items:=by rw[show items.length-ps.length=0 by omega];rfl
  rw[qA,jG] at r;have hm:(ps.take (ps.length-items.length)).filter (λn=>(List.lookup n (ps.zip us)).isNone)=[]:=j5.mpr λq c=>by
   rw[Bg (q:=q) (by have:ps.take (ps.length-items.length)=(ps.take us.length).take (ps.length-items.length):=by{rw[List.take_take];congr 1;omega}
                    rw[this] at c;exact List.mem_of_mem_take c)]
   decide
  obtain⟨d,x,em⟩:∃d,d<=items.length/\items.drop m=items.drop d:=by
   by_cases h:m<=items.length
   .exact⟨m,h,U⟩
   .exact⟨items.length,qz _,by rw[List.drop_of_length_le ⋯,List.drop_of_length_le (qz _)]⟩
  rw[em];have l:us.length=ps.length-items.length+d:=by
   have:=zt List.length em;rw[jG,jG] at this;omega
  have hf:=fill (qs:=ps.drop (ps.length-items.length)) (ds:=items) (sl:=ps.zip us) (m:=d) (by rw[jG];omega) (e.sublist (List.drop_sublist _ _)) (λq c=>Bg (by
   rw[l,List.take_add];exact qy _ c)) (λq c z=>by
   have z:=OV z;rw[List.drop_drop,<-l] at c;have p:(ps.take us.length++ps.drop us.length).Nodup:=by rw[vy];exact e
   exact(yh.mp p).2.2 q z q c rfl)
  rw[List.drop_drop,<-l,OW] at hf;simp only[w,hm,hf];have p:=BW (us:=us++items.drop d) e (by rw[qA,jG];omega);simp[p];omega
def km(s:Stmt):qg:=(Yi s).args.map (·.arg)
def plA(s:Stmt):Bool:=(Yi s).posonlyargs.isEmpty&&(Yi s).kwonlyargs.isEmpty&&(Yi s).vararg.isNone&&(Yi s).kwarg.isNone&&decide (km s).Nodup&&Nat.ble (Yi s).defaults.length (km s).length
theorem vK.bd0{K:Frag}{qual:qc}{st:Stmt}{f:qd}(F:vK K x qual st f fd)(h:plA st=true):Yy K fd (km st) []:=F.binds λkV doc pm an a ct us b=>by
 simp only[plA,qG,zC,List.isEmpty_iff,kc] at h;exact ck (fd:=fnOf x qual (Yi st) (QO st) (Qr st) .none kV doc pm an a ct) h.1.1.1.1.1 h.1.1.1.1.2 h.1.1.1.2 h.1.1.2 rfl h.1.2 b
def loc(s:Stmt):qg:=(Qr s).names.filterMap λx=>match x.2 with
 |.local=>some x.1
 |.cell=>some x.1
 |_=>none
def nmO(t:Tb):qg:=match t.2.2 with
 |[]=>loc t.2.1
 |p=>p.map λk=>(loc t.2.1).getD k ""
def scO(N:qg)(s:Stmt):Bool:=decide (((Qr s).kind=.function/\(Qr s).isCoroutine=false/\(Qr s).isGenerator=false)/\N.Nodup/\N.take (km s).length=km s/\(∀x∈km s,(Qr s).names.lookup x=some .local\/(Qr s).names.lookup x=some .cell)/\∀y∈(Qr s).names,y.2≠.free)
theorem bb{N:qg}(h:scO N s=true):UL N (km s) (Qr s):=bZ (qH h)
theorem Rq(e:Expr):Hd.flat (cvE e)=true:=by
 unfold cvE;split<;>rfl
theorem E3:∀{es:qa Expr}{us:qi},us.map Hd.vc=(es.map cvE).map Hd.bv->QB (es.map cvE) us
 |[],[],_=>.nil
 |e::es,u::us,h=>by
  obtain⟨a,b⟩:=jv h;exact .cons (Hd.vU a (Rq e)) (E3 b)
theorem QB.dropN{vs:qa V}(h:QB vs us):∀n,QB (vs.drop n) (us.drop n):=λn=>by
 induction h generalizing n with
 |nil=>cases n<;>exact .nil
 |cons r a b=>cases n with
  |zero=>exact .cons r a
  |succ n=>exact b n
structure OU(K:Frag)(fd:FuncData)(s:Stmt):Prop where
 all:Yy K fd (km s) []
 df:∀j,Nat.ble j (wy s).length=true->∃ds,QB ((wy s).drop ((wy s).length-j)) ds/\Yy K fd (km s) ds
theorem vK.D{K:Frag}{f:qd}(F:vK K x q s f fd):BU K x q s f fd:=⟨let ⟨c,d,kV,doc,pm,an,a,ct,b,h⟩:=F.ex;⟨c,d,.none,kV,doc,pm,an,a,ct,b,h⟩,F.kp⟩
theorem O7{K:Frag}{r:Option (Option qe)}(e:Hd.see K r q=(some (Hd.ku x q s,uA s),true))(h:plA s=true):∃fd,r=some (some (.ref (Hd.yw r)))/\BU K x q s (Hd.yw r) fd/\(wy s=[]->vK K x q s (Hd.yw r) fd)/\OU K fd s:=by
 cases hd:wy s with
 |nil=>
  rw[show uA s=none by unfold uA;rw[hd]] at e;obtain⟨a1,_,_,fd,F⟩:=Hd.gI e;exact⟨fd,a1,F.D,λ_=>F,F.bd0 h,λj c=>⟨[],by rw[hd,List.drop_nil];exact .nil,F.bd0 h⟩⟩
 |cons b bs=>
  rw[show uA s=some (Hd.bv b::bs.map Hd.bv) by unfold uA;rw[hd];rfl] at e;obtain⟨a1,_,_,D,kV,doc,pm,an,a,ct,o,items,n,F,d,f,hm⟩:=Hd.w6 e;have hm:items.map Hd.vc=((Yi s).defaults.map cvE).map Hd.bv:=by rw[hm];show _=(wy s).map Hd.bv;rw[hd];rfl
  have g:=E3 hm;have i:items.length=(wy s).length:=by have:=zt List.length hm;simpa[wy] using this
  simp only[plA,qG,zC,List.isEmpty_iff,kc] at h;have hle:items.length<=(km s).length:=by
   have:=qT h.2;have e:(wy s).length=(Yi s).defaults.length:=ql ..;omega
  have B:=cj (K:=K) (fd:=fnOf x q (Yi s) (QO s) (Qr s) (.ref D) kV doc pm an a ct) h.1.1.1.1.1 h.1.1.1.1.2 h.1.1.1.2 h.1.1.2 rfl d f h.1.2 hle;refine⟨_,a1,F,nofun,?_,λj c=>⟨items.drop ((wy s).length-j),g.dropN _,B _⟩⟩;have:=B items.length;rw[List.drop_length] at this;exact this
theorem Yf.up{j k:Nat}{A:Around}(r:Yf k A)(h:j<=k:=by first|decide|omega):Yf j A:=r.mono h
structure HZ(X:Cx)(P:Program)(w:World)(K:Frag)(mg:qc->Option qe)(base:Heap):Prop where
 p:X.prog=P
 w:X.w=w
 k:X.K=K
 m:X.mg=mg
 b:X.base=base
section
variable {X:Cx}{pins:qa (qd×Obj)}{σ:St}{H:Hp}{s:Shared}{a:qd}
structure Ah(X:Cx)(pins:qa (qd×Obj))(a:qd):Prop where
 sz:X.s₀.heap.objs.size<=a
 loc:a≠X.env.locals
 cell:∀x c,X.env.cells.lookup x=some c->c≠a
 pin:∀p∈X.pn++pins,p.1≠a
 fs:a∉X.fs
theorem Inv.ours(I:Inv X pins σ H s)(h:s.heap.objs.size<=a):Ah X pins a:=
 ⟨zb I.sz h,λz=>absurd I.lt (by rw[<-z];exact gG h),λx c e z=>by obtain⟨v,o,b,_⟩:=I.cell x c e;exact absurd (qM b) (by rw[z];exact gG h),λp d z=>absurd (qM (I.pin p d).1) (by rw[z];exact gG h),I.nofs h⟩
theorem Inv.kJ{h':Heap}{t':Nat}(I:Inv X pins σ H s)(o:Ah X pins a)(c:H a=none)(k:∀b u,b≠a->s.heap.get? b=some u->h'.get? b=some u):Inv X pins σ H {s with heap:=h',toks:=t'}:=I.turned k c o.loc (.inr o.sz) o.cell o.pin
theorem yK.adopt{P:Program}{w:World}{h:Heap}{o:HO}(x:yK P w H h)(f:H a=none)(new:QP P w (upd H a o) h a o):yK P w (upd H a o) h:=λb u e=>by
 by_cases d:b=a
 .subst d;rw[Qb] at e;cases e;exact new
 .rw[Qa d] at e;have nn:∀c v,H c=some v->(upd H a o) c=some v:=λc v q=>by rw[Qa (λz=>by rw[z,f] at q;cases q)];exact q
  exact(x b u e).stay (λ_ _ _ q=>q) (λ_ q=>nn _ _ q) λ_ _ q=>nn _ _ q
theorem Inv.adopt{o:HO}(I:Inv X pins σ H s)(d:Ah X pins a)(f:H a=none)(new:QP X.prog X.w (upd H a o) s.heap a o):Inv X pins σ (upd H a o) s:=by
 have nn:∀c v,H c=some v->(upd H a o) c=some v:=λc v q=>by rw[Qa (λz=>by rw[z,f] at q;cases q)];exact q
 refine I.step (h':=s.heap) (g':=s.gens) (t':=s.toks) (d':=s.drawn) (ch:=[a]) (λb g=>?_) (λb o _ _ _ e _=>e) (λb o _ _ _ e _=>⟨o.slots,e⟩) (λb h hc _ n=>by rw[Qa (λz=>hc (by simp[z]))];exact n) (λb o _ e=>⟨o,e⟩) (λb xs e=>nn _ _ e) (λb o u e=>nn _ _ e) (λb ps e=>⟨#[],by rw[nn _ _ e];simp⟩) (λm hm=>hm) (I.hok.adopt f new) I.bare;have e:b=a:=by simpa using g
 subst e;exact⟨.inr d.sz,d.loc,d.cell,d.pin⟩
abbrev KD:=Int ⊕ (Int×qc)
def uI(G:Hp)(k:V):KD->Prop
 |.inl n=>k=.int n
 |.inr (n,x)=>∃t,k=.ref t/\G t=some (.tup [.int n,.str x])
theorem uI.mono{G a:Hp}{k:V}{d:KD}(s:Qi G a)(h:uI G k d):uI a k d:=by
 cases d with
 |inl n=>exact h
 |inr p=>obtain⟨t,e,q⟩:=h;exact⟨t,e,s _ _ q⟩
def uv:KD->KD->Bool
 |.inl n,.inl m=>decide (n<m)
 |.inr (n,x),.inr (m,y)=>if n=m then (if x=y then false else decide (x.cps.toList<y.cps.toList)) else decide (n<m)
 |_,_=>false
def Xp(ds:qa KD):qa Nat:=if ds.length<2 then List.range ds.length else (xh (λi j=>uv (ds.getD i (.inl 0)) (ds.getD j (.inl 0))) (W.kas_sort ds.length)).toList
theorem AZ(ds:qa KD):(Xp ds).Perm (List.range ds.length):=by
 unfold Xp;split
 .exact .refl _
 .exact(KG (n:=ds.length) ⋯).end_
theorem N6(ds:qa KD):(Xp ds).length=ds.length:=by rw[(AZ ds).length_eq,zS]
theorem NQ{k:Nat}{f:qd}{fd:FuncData}{p:qc}{sp:Sp}{x:V}{u:qe}{Q:VK}{E:qh}(F:U1 X.prog X.w X.K X.mg X.base jg k f fd [p] sp)(b:Yf k X.A.in1.in1)(c:Yy X.K fd [p] [])(I:Inv X pins σ H s)(r:QJ x u)(h:sp [x] H Q E0) :
 wpAny (model X.prog X.w) X.A.in1.in1 (call (.ref f) [u]) (EP X pins σ Q) E s:=by
 refine kM (js (F.run X.A.in1.in1 X.stack s H ⟨[u],[]⟩ [u] [x] Q E0 b I.env0.in1.in1 (c s [u] I.y0 rfl) (.cons r .nil) h) λr s' a=>?_)
 cases r with
 |error e=>exact False.elim a
 |ok d=>
  cases d with
  |ret u=>exact I.after a
  |next=>exact False.elim a
  |brk=>exact False.elim a
  |cont=>exact False.elim a
def G0(G:Hp)(ks:qa V)(ds:qa KD):Prop:=∀(i:Nat)(k:V)(d:KD),ks[i]?=some k->ds[i]?=some d->uI G k d
theorem Bi:∀{xs:qa V}{us:qi}{i:Nat}{u:qe},QB xs us->us[i]?=some u->∃x,xs[i]?=some x/\QJ x u
 |_,_,0,_,.cons r _,e=>by cases e;exact⟨_,U,r⟩
 |_,_,i+1,_,.cons _ rs,e=>Bi (i:=i) rs e
theorem Dt:∀{ks:qa V}{us:qi}{ds:qa KD}{G:Hp},QB ks us->ks.length=ds.length->G0 G ks ds->(∀d∈ds,∃n,d=.inl n)->IntsAre us (ds.map λd=>d.elim id (·.1))
 |_,_,[],_,.nil,_,_,_=>.nil
 |_,_,[],_,.cons _ _,h,_,_=>by simp at h
 |_,_,_::_,_,.nil,h,_,_=>by simp at h
 |_,_,d::ds,G,.cons r rs,h,c,f=>by
  obtain⟨n,rfl⟩:=f d (qB ..);have e:=c 0 _ _ rfl rfl;cases e;obtain⟨t,rfl⟩:=r;exact .cons n t (Dt rs (by simpa using h) (λi k d a b=>c (i+1) k d a b) λd hd=>f d (qK _ hd))
theorem B0:∀{ks:qa V}{us:qi}{ds:qa KD},Inv X pins σ H s->QB ks us->ks.length=ds.length->G0 H ks ds->(∀d∈ds,∃n x,d=.inr (n,x))->∃c,W.KatTups s.heap us c/\c.length=ds.length/\∀v∈c,∃n t,v=.int n t
 |_,_,[],_,.nil,_,_,_=>⟨[],W.KatTups.nil,U,λv f=>nomatch f⟩
 |_,_,[],_,.cons _ _,h,_,_=>by simp at h
 |_,_,_::_,_,.nil,h,_,_=>by simp at h
 |_,_,d::ds,I,.cons r rs,h,g,j=>by
  obtain⟨n,x,rfl⟩:=j d (qB ..);obtain⟨t,e,q⟩:=g 0 _ _ rfl rfl;cases e;cases r;obtain⟨c,a1,a2,l⟩:=B0 I rs (by simpa using h) (λi k d a b=>g (i+1) k d a b) λd hd=>j d (qK _ hd);obtain⟨_,its,m,y,o,p,z,u⟩:=(show QP X.prog X.w H s.heap t (.tup [.int n,.str x]) from I.hok t _ q)
  cases m with
  |cons w A=>
   obtain⟨t1,rfl⟩:=w;exact⟨.int n t1::c,W.KatTups.cons o p u rfl a1,zt (·+1) a2,λv f=>by
    rcases qC.mp f with rfl|f
    .exact⟨n,t1,U⟩
    .exact l v f⟩
theorem BK{α:Type}{l:qa α}{i:Nat}{d:α}(h:i<l.length):l.getD i d∈l:=by
 rw[qZ,qv h];exact zu h
theorem F9{t:qd}{v:qe}(h:QJ (.ref t) v):v=.ref t:=by cases h;rfl
theorem BE{ks:qa V}{us:qi}{ds:qa KD}(a:QB ks us)(b:ks.length=ds.length)(c:G0 H ks ds){i:Nat}(d:i<ds.length):∃k,QJ k (us.getD i .none)/\uI H k (ds.getD i (.inl 0)):=by
 have z:us.length=ds.length:=by rw[<-a.length];exact b
 have f:us[i]?=some (us.getD i .none):=by rw[qZ,qv ⋯];rfl
 have g:ds[i]?=some (ds.getD i (.inl 0)):=by rw[qZ,qv d];rfl
 obtain⟨k,e,r⟩:=Bi a f;exact⟨k,r,c i _ _ e g⟩
theorem Pr{A:Around}{E:qh}{Q:Bool->Shared->Prop}{t1 b:qd}{n m:Int}{x y:qc}(I:Inv X pins σ H s)(g:H t1=some (.tup [.int n,.str x]))(h:H b=some (.tup [.int m,.str y]))(q:Q (uv (.inr (n,x)) (.inr (m,y))) s) :
 wpAny (model X.prog X.w) A (keyLt' (tuples' true) (.ref t1) (.ref b)) Q E s:=by
 obtain⟨_,its,i,u,a1,a2,v,j⟩:=(show QP X.prog X.w H s.heap t1 (.tup [.int n,.str x]) from I.hok t1 _ g);obtain⟨_,its',c,k,l,w,B,o⟩:=(show QP X.prog X.w H s.heap b (.tup [.int m,.str y]) from I.hok b _ h)
 cases i with
 |cons d a=>
  cases a with
  |cons f a=>
   cases a;obtain⟨C,rfl⟩:=d;obtain⟨p,rfl⟩:=f
   cases c with
   |cons d a=>
    cases a with
    |cons f a=>
     cases a;obtain⟨D,rfl⟩:=d;obtain⟨r,rfl⟩:=f;refine W.kat_lt a1 j l o ?_;refine W.kat_cons (wpAny_eqBool_int (W.kat_go (λe=>?_) (λe=>?_)))
     .have e:n=m:=by simpa using e
      subst e;refine W.kat_yes (W.kat_cons (kP x p y r _ _ _ _ (W.kat_go (λe=>?_) (λe=>?_))))
      .have e:x=y:=eq_of_beq e;subst e;refine W.kat_yes (W.kat_nil ?_);simpa[uv] using q
      .have ne:x≠y:=λz=>by rw[z,z8] at e;cases e
       have eq:uv (.inr (n,x)) (.inr (n,y))=decide (x.cps.toList<y.cps.toList):=by
        show(if n=n then (if x=y then false else decide (x.cps.toList<y.cps.toList)) else decide (n<n))=_;rw[qP rfl,qJ ne]
       have t:Q (decide (x.cps.toList<y.cps.toList)) s:=by rw[<-eq];exact q
       exact W.kat_no (W.kat_one _ _ (lt_str t))
     .have ne:n≠m:=λz=>by rw[z] at e;simp at e
      refine W.kat_no (oneLt_int ?_);simpa[uv,ne] using q
theorem NR{A:Around}{E:qh}{P:PySem.Fin->Shared->Prop}{st:SortSt}{kS:qd}{j:Array qe}{e d:Nat}{ys:qa V}{out:qi}(I:Inv X pins σ H s)(k:Ah X pins a)(ok:Ah X pins kS)(ne:kS≠a)(na:H a=none)(m:H kS=none)
 (n:s.heap.get? a=some (seqObj "list" #[] d)) (o:s.heap.get? kS=some (seqObj "list" j e)) (p:j.size<64) (r:(arrOf st).map (·.2)=out.toArray) (hf:failedOf st=none) (l:QB ys out) (hz:ys.length<64)
 (h:∀s',Inv X pins σ (upd H a (.lst ys)) s'->P (.done (.ret .none)) s'):wpAny (model X.prog X.w) A (ksk_tail a false d (.ref kS) st) P E s:=by
 have t:out.length=ys.length:=l.length.symm;have s1:=zB s.heap kS (Obj.mapSeq λ_=>(#[]:Array qe));have c:(s.heap.update kS (Obj.mapSeq λ_=>(#[]:Array qe))).get? a=some (seqObj "list" #[] d):=(s1.2 a ne.symm).trans n;have s2:=zB (s.heap.update kS (Obj.mapSeq λ_=>(#[]:Array qe))) a (Obj.mapSeq λ_=>out.toArray);obtain⟨f,g⟩:∃f,((s.heap.update kS (Obj.mapSeq λ_=>(#[]:Array qe))).update a (Obj.mapSeq λ_=>out.toArray)).get? a=some (seqObj "list" out.toArray f):=⟨_,get?_update_seq c λ_=>out.toArray⟩;unfold ksk_tail
 try dsimp only
 refine qk (kX o rfl ?_ (by rw[ju];omega) (za _));refine qk (w2 ?_);refine qk (seqEpoch_at c rfl ?_);simp only[zl,jx];rw[r];refine qk (kX c rfl ?_ (za _) (by rw[qV,ju];omega));rw[hf];simp only[jA,zl,jx];refine qq (h _ ?_);have v:=I.kJ (t':=s.toks) ok m λb u i q=>(s1.2 b i).trans q;have w:=v.kJ (t':=s.toks) k na λb u i q=>(s2.2 b i).trans q;exact w.adopt k na ⟨by rw[ju];omega,out,f,l,g⟩
theorem P4{A:Around}{E:qh}{P:PySem.Fin->Shared->Prop}{kS:qd}{b:Array qe}{e w:Nat}{xs ks:qa V}{vs:qi}{ds:qa KD}(I:Inv X pins σ H s)(oa:Ah X pins a)(ok:Ah X pins kS)(ne:kS≠a)(na:H a=none)(nk:H kS=none)
 (ea:s.heap.get? a=some (seqObj "list" #[] w)) (ek:s.heap.get? kS=some (seqObj "list" b e)) (Y:QB xs vs) (m:QB ks b.toList) (z:xs.length=ds.length) (c:ks.length=ds.length) (y:G0 H ks ds) (F:ds.length<64)
 (k:(∀d∈ds,∃n,d=.inl n)\/(∀d∈ds,∃n x,d=.inr (n,x)))
 (h:∀s',Inv X pins σ (upd H a (.lst ((Xp ds).map λi=>xs.getD i .non))) s'->P (.done (.ret .none)) s'):wpAny (model X.prog X.w) A (ksk_end a false vs.toArray w (.ref kS) b) P E s:=by
 have lv:vs.length=ds.length:=by rw[<-Y.length];exact z
 have lk:b.toList.length=ds.length:=by rw[<-m.length];exact c
 have lk':b.size=ds.length:=by rw[<-ze];exact lk
 have o:b=b.toList.toArray:=by rw[jQ]
 have ro:QB ((Xp ds).map λi=>xs.getD i .non) ((Xp ds).map λi=>vs.getD i .none):=KJ Y λi l=>by rw[z];exact jK.mp ((AZ ds).mem_iff.mp l)
 have fin:∀st:SortSt,(arrOf st).map (·.2)=((Xp ds).map λi=>vs.getD i .none).toArray->failedOf st=none->wpAny (model X.prog X.w) A (ksk_tail a false w (.ref kS) st) P E s:=λst Z f=>
  NR I oa ok ne na nk ea ek ⋯ Z f ro (by rw[ql,N6];exact F) h
 unfold ksk_end
 try dsimp only
 simp only[zl,jx];by_cases f:vs.toArray.size<2
 .rw[qP f,qP f];refine qk (qq ?_);rw[StateT.run_pure];refine qk (qq ?_);refine fin (SortSt.mk' general' (b.zip vs.toArray) #[] 7 none) ?_ rfl;rw[qV] at f;have w:(Xp ds).map (λi=>vs.getD i Value.none)=vs:=by
   unfold Xp;rw[qP ⋯,<-lv];refine kQ (by simp) λi Z f=>?_;simp only[kR,xM];rw[qZ,qv f];rfl
  rw[w];show Array.map (λx=>x.2) (b.zip vs.toArray)=vs.toArray;rw[show(λx:qe×qe=>x.2)=Prod.snd from rfl];apply Array.ext';rw[yZ,Array.toList_zip];exact List.map_snd_zip (by rw[lk];show vs.length<=_;omega)
 .rw[qJ f,qJ f];rw[qV] at f;have run:∀J,(∀i j (C:Bool->Shared->Prop),i<ds.length->j<ds.length->C (uv (ds.getD i (.inl 0)) (ds.getD j (.inl 0))) s->W.kas_ask X.prog X.w A J b.toList i j C s) ->
   wpAny (model X.prog X.w) A (do
    let x <-sortRuns'.run (SortSt.mk' J (b.zip vs.toArray) #[] 7 none)
    ksk_tail a false w (.ref kS) x.2) P E s:=λJ hc=>by
   rw[o];refine qk (zy (W.kat_run (E:=E) (ks:=b.toList) (vs:=vs) (Q:=λst s'=>(arrOf st).map (λx=>x.2)=((Xp ds).map λi=>vs.getD i .none).toArray/\failedOf st=none/\s'=s) (G:=λp s'=>p.toList=Xp ds/\s'=s) ⋯ ⋯ ⋯ (λp B s' N D K g=>?_) ?_) (λr s' q=>?_) λ_ _ x=>x)
   .obtain⟨g1,g2⟩:=g;refine⟨?_,K,g2⟩;rw[W.kat_snds ⋯ D,g1]
   .refine xJ.wp (n:=ds.length) (R:=US ds.length) (lt:=λi j=>uv (ds.getD i (.inl 0)) (ds.getD j (.inl 0))) (λi j C l u q=>hc i j C l u q) (by rw[lv];exact KG ⋯) ⟨?_,U⟩;unfold Xp;rw[qJ ⋯,lv]
   .obtain⟨L,M,rfl⟩:=q;exact fin r.2 L M
  rcases k with k|k
  .rw[ksk_kind (Dt m c y k) ⋯];refine qk (qq (run _ λi j C l u q=>?_));obtain⟨k1,K,B⟩:=BE m c y l;obtain⟨k2,L,D⟩:=BE m c y u;obtain⟨n1,M⟩:=k _ (BK (d:=.inl 0) l);obtain⟨n2,N⟩:=k _ (BK (d:=.inl 0) u);rw[M] at B q;rw[N] at D q;cases B;cases D;obtain⟨t1,O⟩:=K;obtain⟨t2,S⟩:=L;show wpAny _ _ (keyLt' _ (b.toList.getD i .none) (b.toList.getD j .none)) _ _ _;rw[O,S];exact W.kat_lt_int q
  .obtain⟨fs,k1,k2,k3⟩:=B0 I m c y k;rw[o];refine qk (W.kat_kind (T:=.type "int") k1 ⋯ (λv hv=>?_) ∅ ?_)
   .obtain⟨n,t,rfl⟩:=k3 v hv;exact λA Q E s _ q=>qq q
   rw[<-o];refine run _ λi j C l u q=>?_;obtain⟨k1,K,B⟩:=BE m c y l;obtain⟨k2,L,D⟩:=BE m c y u;obtain⟨n1,x1,M⟩:=k _ (BK (d:=.inl 0) l);obtain⟨n2,x2,N⟩:=k _ (BK (d:=.inl 0) u);rw[M] at B q;rw[N] at D q;obtain⟨t1,rfl,g1⟩:=B;obtain⟨t2,rfl,g2⟩:=D;have O:=F9 K;have S:=F9 L;show wpAny _ _ (keyLt' _ (b.toList.getD i .none) (b.toList.getD j .none)) _ _ _;rw[O,S];exact Pr I g1 g2 q
theorem NS{k:Nat}{f:qd}{fd:FuncData}{p:qc}{sp:Sp}{E:qh}{P:PySem.Fin->Shared->Prop}{kS:qd}{t:Nat}{xs:qa V}{vs:qi}{ds:qa KD}(F:U1 X.prog X.w X.K X.mg X.base jg k f fd [p] sp)(hr:Yf k X.A.in1.in1)(N:Yy X.K fd [p] [])
 (I:Inv X pins σ H s) (O:Ah X pins a) (ok:Ah X pins kS) (ne:kS≠a) (na:H a=none) (nk:H kS=none)
 (ea:s.heap.get? a=some (seqObj "list" #[] t)) (ek:s.heap.get? kS=some (seqObj "list" #[] 0)) (Q:QB xs vs) (w:xs.length=ds.length) (R:ds.length<64)
 (hu:(∀d∈ds,∃n,d=.inl n)\/(∀d∈ds,∃n x,d=.inr (n,x)))
 (hk:∀(i:Nat) x d,xs[i]?=some x->ds[i]?=some d->∀G,Qi H G->sp [x] G (λk y=>Qi G y/\uI y k d) E0)
 (h:∀G s',Qi H G->G a=none->Inv X pins σ (upd G a (.lst ((Xp ds).map λi=>xs.getD i .non))) s'->P (.done (.ret .none)) s') :
 wpAny (model X.prog X.w) X.A.in1.in1 (ksk_rest a (.ref f) false vs.toArray t (.ref kS)) P E s:=by
 have lv:vs.length=ds.length:=by rw[<-Q.length];exact w
 unfold ksk_rest;refine qk (yC ?_)
 first
  |rw[List.forIn_toArray]
  |(rw[<-Array.forIn_toList];simp only[v5])
  |rw[<-Array.forIn_toList]
 refine qk (ksk_fold (λi s'=>∃(G:Hp)(g:Array qe)(e:Nat)(ks:qa V),Inv X pins σ G s'/\Qi H G/\G a=none/\G kS=none/\s'.heap.get? a=some (seqObj "list" #[] t)/\s'.heap.get? kS=some (seqObj "list" g e)/\QB ks g.toList/\ks.length=i/\G0 G ks ds) vs 0 s
  ⟨H,#[],0,[],I,Qi.refl _,na,nk,ea,ek,.nil,U,λi k d z=>by simp at z⟩ ?step ?done)
 case step=>
  rintro j x s' hx ⟨G,g,e,ks,J,D,ga,S,o,l,K,A,r⟩;simp only[Nat.zero_add] at A⊢;have hj:j<ds.length:=by have:=(zm.mp hx).1;omega
  obtain⟨xv,T,Y⟩:=Bi Q hx;obtain⟨d,hd⟩:∃d,ds[j]?=some d:=⟨_,qv hj⟩;have Z:Inv X (pins++[(a,seqObj "list" #[] t),(kS,seqObj "list" g e)]) σ G s':=J.kI λp m=>by
   rcases qF.mp m with m|m
   .exact J.pin p (qy _ m)
   .rcases qC.mp m with rfl|m
    .exact⟨o,ga,O.loc,O.fs,λv z=>nomatch z⟩
    .rw[qt.mp m];exact⟨l,S,ok.loc,ok.fs,λv z=>nomatch z⟩
  have hz:g.size=j:=by rw[<-ze,<-K.length];exact A
  refine qk (yP (zy (NQ (E:=λ_ _=>False) F hr N Z Y (hk j xv d T hd G D)) (λv c he=>?_) λ_ _ hF=>hF.elim));obtain⟨kv,y,L,rkv,B,okv⟩:=he
  try dsimp only
  have pa:=L.pin (a,seqObj "list" #[] t) (qy _ (qy _ (.head _)));have M:=L.pin (kS,seqObj "list" g e) (qy _ (qy _ (.tail _ (.head _))));have s1:=zB c.heap kS (Obj.mapSeq (·.push v));obtain⟨c2,hc2⟩:∃c2,(c.heap.update kS (Obj.mapSeq (·.push v))).get? kS=some (seqObj "list" (g.push v) c2):=⟨_,get?_update_seq M.1 (·.push v)⟩;have ea':(g.push v).toList=g.toList++[v]:=by simp
  refine qk (kX M.1 rfl ?_ (by rw[ju];omega) (zb (Nat.le_of_eq (Array.size_push ..)) (by rw[ju];omega)));have J3:Inv X pins σ y c:=L.kI λp m=>L.pin p (qy _ (qS _ m));refine qq ⟨U,y,g.push v,c2,ks++[kv],J3.kJ (t':=c.toks) ok M.2.1 (λb u N q=>(s1.2 b N).trans q),D.trans B,pa.2.1,M.2.1,(s1.2 a ne.symm).trans pa.1,hc2,by rw[ea'];exact K.append (.cons rkv .nil),by rw[qA,A];rfl,λi k d' C z2=>?_⟩;by_cases hi:i<ks.length
  .rw[xV hi] at C;exact(r i k d' C z2).mono B
  .have hij:i=j:=by
    have:=(zm.mp C).1;rw[qA,qY] at this;omega
   subst hij;rw[yk ⋯,A,Nat.sub_self] at C;cases C;rw[hd] at z2;cases z2;exact okv
 case done=>
  rintro s' ⟨G,g,e,ks,J,D,ga,S,o,l,K,A,r⟩
  try dsimp only
  refine qk (listItems_at l rfl ?_);exact P4 J O ok ne ga S o l Q K w ⋯ r R hu λc Z=>h G c D ga Z
end
variable {f:qd}{fd:FuncData}{p:qc}{sp:Sp}{ds:qa KD}{A:Around}{e1:Nat}
inductive B4(K:Frag)(sp:Sp)(Q:VK)(x:V)(H:Hp):Prop
 |mk:∀(l:qd)(xs:qa V)(ds:qa KD),x=.ref l->zN K H l xs->xs.length=ds.length->ds.length<64->((∀d∈ds,∃n,d=.inl n)\/(∀d∈ds,∃n x,d=.inr (n,x))) ->
   (∀(i:Nat) x d,xs[i]?=some x->ds[i]?=some d->∀G,Qi H G->sp [x] G (λk G'=>Qi G G'/\uI G' k d) E0) ->
   (∀a G,H a=none->Qi H G->G a=some (.lst ((Xp ds).map λi=>xs.getD i .non))->Q (.ref a) G)->B4 K sp Q x H
def Sh(K:Frag)(sp:Sp)(a:TE):TE:=λσ H Q=>a σ H λx H1=>B4 K sp Q x H1
theorem CS{X:Cx}{e:Expr}{C:TE}{k:Nat}{g:qc}{L M pos N:Pos}(F:U1 X.prog X.w X.K X.mg X.base jg k f fd [p] sp)(O:Yf (k+2) X.A)(P:Gl X "sorted")(hm:X.mg "sorted"=none)(r:Gl X g)(t:X.mg g=some (.ref f))(v:Yy X.K fd [p] [])(w:PE X e C)
 (y:(g==("__debug__":qc))=false:=by decide) (he:starEach [e] X.env=[(false,eval e X.env)]:=by rfl) :
 PE X (.Call (.Name "sorted" L) [e] [⟨some "key",.Name g M,N⟩] pos) (Sh X.K sp C):=by
 intro pins s σ H Q I h;refine jP (W7 I P hm boot_sorted ?_ ∅ ∅);refine callWith_kw ?_ (by rw[he];rfl) (by rw[he];rfl) (by rfl) (by rfl);rw[he];show wpAny _ _ (spliced ((false,eval e X.env)::backTo pos [])) _ _ s;refine jb (z5 (w pins s σ H _ I h) λu s1 ⟨x,H1,i,R,S⟩=>jS ?_);obtain⟨l,xs,ds,rfl,T,j,z,V,Y,q⟩:=S;cases R;refine kws_cons (WK i r t (kws_nil ?_) y);show wpAny _ _ (call (.builtin "sorted") [.ref l] [(Str.ofString "key",.ref f)]) _ _ s1;obtain⟨vs,D,pl,_⟩:=i.list T;have lv:vs.length=ds.length:=by rw[<-D.length];exact j
 refine call_function_entry_kw kind_sorted plain_sorted entry_sorted (ksk_s1 _ _) ?_;unfold Builtin.«sorted»;refine qk (m:=checkCount "sorted" 1 1 _) (qq ?_);refine qk (collect_list pl.isList ?_ (by rw[ju];omega));refine qk (xH ?_ (by rw[ju];omega));have hsz:((s1.heap.push (seqObj "list" #[] 0)).update s1.heap.objs.size (Obj.mapSeq (·++vs.toArray))).objs.size=s1.heap.objs.size+1:=by
  rw[vP,gP]
 have c:(((s1.heap.push (seqObj "list" #[] 0)).update s1.heap.objs.size (Obj.mapSeq (·++vs.toArray))).push (seqObj "list" vs.toArray 0)).get? (s1.heap.objs.size+1)=some (seqObj "list" vs.toArray 0):=by
  rw[<-hsz];exact qI _ rfl
 have keep:∀b o,s1.heap.get? b=some o->(((s1.heap.push (seqObj "list" #[] 0)).update s1.heap.objs.size (Obj.mapSeq (·++vs.toArray))).push (seqObj "list" vs.toArray 0)).get? b=some o:=λb o q=>by
  have d:b<s1.heap.objs.size:=qM q;rw[yr _ _ _ (by rw[hsz];exact qR (zT d)),Heap.get?_update_ne _ _ _ _ (qR d),yr _ _ _ (qR d)];exact q
 have A:Ah X pins (s1.heap.objs.size+1):=i.ours (jE _);have na:H1 (s1.heap.objs.size+1)=none:=i.hok.fresh (jE _);have E:Inv X pins σ H1 {s1 with heap:=((s1.heap.push (seqObj "list" #[] 0)).update s1.heap.objs.size (Obj.mapSeq (·++vs.toArray))).push (seqObj "list" vs.toArray 0)}:=i.kept (t':=s1.toks) keep;show wpAny _ _ _ _ _ {s1 with heap:=((s1.heap.push (seqObj "list" #[] 0)).update s1.heap.objs.size (Obj.mapSeq (·++vs.toArray))).push (seqObj "list" vs.toArray 0)};rw[hsz];generalize ((s1.heap.push (seqObj "list" #[] 0)).update s1.heap.objs.size (Obj.mapSeq (·++vs.toArray))).push (seqObj "list" vs.toArray 0)=g2 at c E⊢;generalize s1.heap.objs.size+1=a at c A na⊢;clear keep hsz;refine qk (zH (wpAny_call_entry_kw slot_list_sort ⟨_,c,U⟩ entry_list_sort ?body (ksk_l1 _ _)))
 case body=>
  show wpAny (model X.prog X.w) X.A.in1.in1 (Builtin.«list.sort» ⟨[.ref a],[(Str.ofString "key",.ref f)]⟩) _ _ _;rw[ksk_t1];have w:a<g2.objs.size:=qM c;have s2:=zB g2 a (Obj.mapSeq λ_=>(#[]:Array qe));obtain⟨e1,d⟩:∃e1,(g2.update a (Obj.mapSeq λ_=>(#[]:Array qe))).get? a=some (seqObj "list" #[] e1):=⟨_,get?_update_seq c λ_=>#[]⟩;have B:Inv X pins σ H1 {s1 with heap:=g2.update a (Obj.mapSeq λ_=>(#[]:Array qe))}:=E.kJ (t':=s1.toks) A na λb u v q=>(s2.2 b v).trans q;have n:((g2.update a (Obj.mapSeq λ_=>(#[]:Array qe))).push (seqObj "tuple" vs.toArray 0)).objs.size=g2.objs.size+1:=by rw[gP,vP]
  unfold ksk_tree;refine qk (listItems_at c rfl ?_);refine qk (kX c rfl ?_ (by rw[qV,ju];omega) (za _));refine qk (seqEpoch_at d rfl ?_);refine qk (wpAny_newTuple ?_ (by show vs.length<=_;rw[ju];omega));refine qk (xH ?_ (za _));refine zH ?_;have K:∀b o,(g2.update a (Obj.mapSeq λ_=>(#[]:Array qe))).get? b=some o->(((g2.update a (Obj.mapSeq λ_=>(#[]:Array qe))).push (seqObj "tuple" vs.toArray 0)).push (seqObj "list" #[] 0)).get? b=some o:=λb o q=>qr _ (qr _ q);have Z:Inv X pins σ H1 {s1 with heap:=((g2.update a (Obj.mapSeq λ_=>(#[]:Array qe))).push (seqObj "tuple" vs.toArray 0)).push (seqObj "list" #[] 0)}:=B.kept (t':=s1.toks) K;have lk:(g2.update a (Obj.mapSeq λ_=>(#[]:Array qe))).objs.size<=((g2.update a (Obj.mapSeq λ_=>(#[]:Array qe))).push (seqObj "tuple" vs.toArray 0)).objs.size:=by rw[n,vP];exact jE _
  refine NS (H:=H1) F (O.in1.in1) v Z A (B.ours lk) (by rw[n];exact jZ (zT w)) na (B.hok.fresh lk) (K _ _ d) (qI _ rfl) D j z V Y λG s' sG ga J=>⟨_,U,qq ⟨_,U,.ref a,_,J,U,q a _ na ?_ Qb⟩⟩;exact λb o e=>by rw[Qa (Qc e na)];exact sG b o e
variable {X:Cx}
def Itv(a:qd)(c:Obj)(b:qa (Key×V)):It:=⟨λi H=>H a=some (.jO c (.dK b))/\i<b.length,λi H x H'=>H'=H/\∃d,b[i]?=some d/\x=d.2,λi H=>H a=some (.jO c (.dK b))/\b.length<=i⟩
theorem NK{b:Type}:∀{a:qa (b×V)}{vs:qa (b×qe)}{j:Nat}{p:b×V}{q:b×qe},KV a vs->a[j]?=some p->vs[j]?=some q->QJ p.2 q.2
 |_,_,0,_,_,.cons r _,c,d=>by cases c;cases d;exact r.2
 |_,_,j+1,_,_,.cons _ rs,c,d=>NK (j:=j) rs c d
theorem Ih{P:Program}{w:World}{K:Frag}{G:Expr}(a it:qd)(F:Obj)(f:qa (Key×V))(es:Array DictEntry)(p:Nat)(hd:F.data=.dict es p):EV P w K G (Itv a F f) [it] it (λi h=>h.IsValIter it a i f.length p) where
 mem:=by simp
 obj:=λi h st b j=>by
  have e:b=it:=by simpa using j
  subst e;obtain⟨o,e,c,d⟩:=st;exact⟨o,e,λv z=>by rw[d] at z;cases z⟩
 keep:=λi h h' st k=>by
  obtain⟨o,e,c⟩:=st;exact⟨o,k it (by simp) o e,c⟩
 item:=by
  intro X t hw u hc i pins s σ H E I hf st x;subst t hw u;obtain⟨y,n⟩:=x;obtain⟨_,vs,A,B,q,g,hm⟩:=Vj I.hok y;rw[hd] at g;cases g;have r:=KV.length q;have l:s.heap.IsValIter it a i vs.length p:=by rw[<-r];exact st
  obtain⟨f0,f1,f2,C,f4,D⟩:=hf it (by simp);refine wpAny_pyNext_values_item (k:=(vs[i]'⋯).1) (v:=(vs[i]'⋯).2) l hm (qv ⋯) λh' m J=>?_;have L:Inv X pins σ H {s with heap:=h'}:=I.turned (t':=s.toks) (λb o j e=>(J.2 b j).trans e) f0 f1 C f4 D;have M:QJ f[i].2 (vs[i]'⋯).2:=NK q (qv n) (qv ⋯);rw[<-r] at m;obtain⟨o,e,c,d⟩:=id m;exact⟨_,U,Dx (s:={s with heap:=h'}) e c d ∅ ⟨f[i].2,H,L,M,⟨U,f[i],qv n,U⟩,m,λb j=>(hf b j).1⟩⟩
 done:=by
  intro X t hw u hc i pins s σ H E I hf st x;subst t hw u;obtain⟨y,m⟩:=x;obtain⟨_,vs,A,B,q,g,hm⟩:=Vj I.hok y;rw[hd] at g;cases g;have r:=KV.length q;have l:s.heap.IsValIter it a i vs.length p:=by rw[<-r];exact st
  obtain⟨f0,f1,f2,C,f4,D⟩:=hf it (by simp);exact wpAny_pyNext_values_end (I.ok.hd hc) l hm (yg ⋯) λh' n=>⟨U,I.turned (t':=s.toks) (λb o j e=>n b o j e) f0 f1 C f4 D⟩
 self:=λ_ _ _ _ _ st h=>wpAny_pyIter_valiter st h
inductive HG(R:(It->Hp->Prop))(x:V)(H1:Hp):Prop
 |mk:∀a kvs,x=.ref a->((∃oa,H1 a=some (.jO oa (.dK kvs))/\R (Itv a oa kvs) H1)\/(H1 a=some (.dK kvs)/\∀oa,R (Itv a oa kvs) (upd H1 a (.jO oa (.dK kvs)))))->HG R x H1
def bR(a:TE):TI:=λσ H R=>a σ H λx H1=>HG R x H1
theorem Pk{z o:Expr}{w:TE}{apos f:Pos}(A:PE X o w)(g:attributeBase o "values" X.env (eval o X.env)=eval o X.env:=by rfl)(i:(apos.endLine==f.line)=true:=by rfl):PI X z (.Call (.Attribute o "values" apos) [] [] f) (bR w):=by
 intro pins s σ H R I h;refine wpAny_Call_method0_late g i (z5 (A pins s σ H _ I h) λv s1 ⟨x,H1,y,B,C⟩=>?_);obtain⟨a,d,e,q⟩:=C;subst e;cases B;obtain⟨c,k,n,j,D⟩:∃(c:Obj)(k:Hp),Inv X pins σ k s1/\k a=some (.jO c (.dK d))/\R (Itv a c d) k:=by
  rcases q with⟨c,j,q⟩|⟨j,q⟩
  .exact⟨c,H1,y,j,q⟩
  .obtain⟨c,J⟩:=y.freeze j;exact⟨c,_,J,Qb,q c⟩
 obtain⟨t1,E,_⟩:=GG n (.inl ⟨d,.inr ⟨c,j⟩⟩);obtain⟨p,vs,es,F,G,hd,hm⟩:=Vj n.hok j;have O:=KV.length G;have m:Inv X pins σ k {s1 with heap:=s1.heap.push {cls:=.type "dict_values",data:=.fields #[.ref a]}}:=n.kept (t':=s1.toks) λb o e=>qr _ e;obtain⟨_,K,L,M,r,l,t⟩:=Vj m.hok j;rw[hd] at l;cases l;have u:=KV.length r;refine⟨"dict","dict.values",plainAttrs_dict,PySem.F.slot_dict_values,PySem.F.type_dict_values,t1,E,jt rfl (PySem.evalArgs_none ?_)⟩;refine kC PySem.F.slot_dict_values t1 PySem.F.entry_dict_values (PySem.F.args_dict_values_1 _) (meets_dict_values (QZ X.prog X.w) a p) ⟨⟨vs,hm.dictOf⟩,?_⟩;refine wpAny_pyIter_values (s:={s1 with heap:=s1.heap.push {cls:=.type "dict_values",data:=.fields #[.ref a]}}) ⟨_,qI _ rfl,U,U⟩ t ⟨_,[_],_,_,k,U,m.kept (t':=s1.toks) λb o e=>qr _ e,Ih a _ c d es F hd,⟨_,qI _ rfl,U,by rw[u];rfl⟩,λb N=>?_,D⟩;obtain rfl:=qt.mp N;exact m.vC (qz _) (m.hok.fresh (qz _))
theorem Lo{a:qd}{q:Obj}{b:qa (Key×V)}{α:Type}{xs:qa α}{fr:qa (Nat×qc)}{tt:TT}{r:TE}{σ:St}{H1:Hp}{Q:VK}(g:α->V)(f:α->V)(hz:xs.length<=sizeLine)(hS:H1 a=some (.jO q (.dK b)))(s:b.map (λk=>k.2)=xs.map g)
 (l:∀(x:α)(d:Hp)(Q':Bool->Hp->Prop),x∈xs->Qi H1 d->Q' true d->tt (some (g x)::yx σ fr) d Q')
 (n:∀(x:α)(d:Hp)(Q':VK),x∈xs->Qi H1 d->Q' (f x) d->r (some (g x)::yx σ fr) d Q')
 (w:∀D,H1 D=none->Q (.ref D) (upd H1 D (.lst (xs.map f)))) :
 YB (Itv a q b) fr tt r σ H1 Q:=by
 have z:b.length=xs.length:=by have:=zt List.length s;simpa using this
 unfold YB;intro D t;refine⟨λi m ys u=>m=xs.length-i/\i<=xs.length/\ys=(xs.take i).map f/\u=upd H1 D (.lst ys),⟨xs.length,by simp,za _,by simp,U⟩,?_⟩;rintro i m ys u ⟨rfl,A,rfl,rfl⟩;refine⟨Qb,?_⟩;have s1:Qi H1 (upd H1 D (.lst ((xs.take i).map f))):=Qi.zq t;have h:=s1 _ _ hS;by_cases c:i<xs.length
 .have o:(xs.map g)[i]?=some (g xs[i]):=by rw[qQ,qv c];rfl
  refine .inr ⟨⟨h,⋯⟩,?_⟩;rintro v d ⟨rfl,k,p,rfl⟩;have j:(xs.map g)[i]?=some k.2:=by rw[<-s,qQ,p];rfl
  rw[o] at j;have j:=qW j;rw[<-j];have hm:xs[i]∈xs:=zu c;have y:xs.take (i+1)=xs.take i++[xs[i]]:=by rw[zR,qv c];rfl
  refine l xs[i] _ _ hm s1 (QT (n xs[i] _ _ hm s1 ⟨Qb,?_,xs.length-(i+1),⋯,U,c,?_,VG⟩))
  .rw[ql,zY];omega
  .rw[y,qE];rfl
 .have e:i=xs.length:=by omega
  subst e;refine .inl ⟨⟨h,⋯⟩,?_⟩;have:=w D t;rw[jH];exact this
theorem ES :Y7 X (.type "dict") (λxs H Q=>∃(p:qd)(a:qa (Key×V)),xs=[.ref p]/\Rd H p (.dK a)/\∀l,H l=none->Q (.ref l) (upd H l (.dK a))):=by
 intro pins s σ H xs us Q I r h;obtain⟨p,a,rfl,d,q⟩:=h;obtain⟨u,rfl,f⟩:=Um r;cases f;obtain⟨hz,hd,vs,c,dd⟩:=Xr I.hok d;have i:=KV.length c;refine kt_call_dict hd dd ⋯ λh' d' g=>?_;have k:∀b o,s.heap.get? b=some o->h'.get? b=some o:=λb o e=>(g.2 b (qR (qM e))).trans (qr _ e);have ne:(s.heap.objs.size==sysModules)=false:=by
  have:=I.big;exact vv (jZ this)
 exact⟨.ref s.heap.objs.size,_,I.laid (t':=s.toks) k (qz _) (show QP X.prog X.w _ _ _ (.dK a) from⟨hz,ne,vs,c,d'⟩),U,q _ (I.hok.fresh (qz _))⟩
theorem ML{st:Stmt}{d:TS}(f:PS X st d):PS X st (λD σ H=>∃a b,H a=some (.dK b)/\∀c,d D σ (upd H a (.jO c (.dK b)))):=by
 rintro pins s σ H D I ⟨a,b,e,h⟩;obtain⟨c,J⟩:=I.freeze e;exact f pins s σ _ _ J (h c)
end L2
namespace Hd
open PySem PySem.W PySem.Calls PyProof.Rows L2
end Hd
namespace Hd
open PySem PySem.W PySem.Calls PyProof.Rows L2
def XT(ads:qa Nat)(h:Heap):Frag:=ads.filterMap λa=>(h.get? a).map λo=>(a,o)
theorem Og(ads:qa Nat)(h:Heap):(XT ads h).In h:=λa o e=>Gx h.get? a o _ e
theorem Oh(ads:qa Nat)(s:SharedT):jX ads s=XT ads s.abs.heap:=by
 unfold jX XT;show _=ads.filterMap λa=>((absHeap s.tree s.n s.life).get? a).map λo=>(a,o);congr 1;funext a;congr 1;unfold Heap.get?;rw[absHeap_at]
 cases h:Nat.blt a s.n with
 |true=>
  rw[qP (show a<s.n from qT h)];dsimp only
  cases (s.tree.get a).getD default with
  |mk c d b sl=>cases b<;>rfl
 |false=>
  rw[qJ (λq=>by rw[show Nat.blt a s.n=true from Nat.ble_eq_true_of_le q] at h;cases h)]
theorem uC{l:OpenLaw}{q:Program}{loose:qg}{d:DefRec}{α:Type}{obs:Frag->α}{good:α}{N:Nat}(ads:qa Nat)
 (look:PySem.W.Fast.tw9446332074065402090 l=true) (e:opening l.prog=plainProg l.prog.main.scope.names) (hN:Nat.ble 600 N=true) (f:∀s,fenceModules? l.prog s=some s)
 (h:∀(w:World)(os:OsState),(xh (yE xG l.prog w) (v9 11 (some (.ref 6))) N (S0 w os) (topStub l.prog)).map (λs=>(chk l.prog w.params s.abs,seenQ q loose (importedModules l.prog.main.body) (λs=>recOk [] s) true s.abs,obs (jX ads s)))=some (true,openGood q loose,good))
 (a:defOf q l.name=some (d,[])) (g:l.prog.theDef l.name=some (d.params,d.body,d.scope)) (i:kwWritten? d.params.kwonlyargs d.params.kw_defaults=some []) (c:(!l.writes||([]:WRecords).isEmpty)=true)
 (ok:(chainsOk q&&opensWell l.prog&&(frees l.row.toRowW&&l.row.within.isEmpty))=true) (j:l.prog.bare) (hw:l.row.toRowW.promised)
 (call:WalkO q loose (λ_ _=>True) (Sy obs good) l.row.toRowW d [] λf vs=>PySem.call f vs):l.Holds:=by
 rw[<-PySem.W.Fast.te9446332074065402090] at look;refine holds_law look λb=>?_;have lf:LeftO l.prog q loose (λs=>recOk [] s) (λs=>obs (XT ads s.heap)) (λ_=>good) N:=left e hN f λw os=>by
  have:=h w os;rw[show(λs:SharedT=>(chk l.prog w.params s.abs,seenQ q loose (importedModules l.prog.main.body) (λs=>recOk [] s) true s.abs,obs (jX ads s)))=λs=>(chk l.prog w.params s.abs,seenQ q loose (importedModules l.prog.main.body) (λs=>recOk [] s) true s.abs,obs (XT ads s.abs.heap)) from funext λs=>by rw[Oh]] at this;exact this
 exact holds_open (r:=l.row) (q:=q) (loose:=loose) (Xt:=λs=>recOk [] s) (XP:=λ_ _=>True) (YP:=Sy obs good) lf (λ_ s y=>⟨XT ads s.heap,Og _ _,y⟩) (λ_ _ _ ⟨K,X,y⟩ k=>⟨K,X.keeps k,y⟩) (λ_ _=>trivial) (λ_ _ _ _ _=>trivial) a g i (λ_ e=>recFacts_of e) c b ok j hw call
end Hd
namespace Hd
open PySem PySem.W PySem.Calls PyProof.Rows L2
end Hd
namespace L2
open PySem PySem.Spec PyProof.Rows
variable {e:qd}{d:Option qd}
def Dk(e:qd)(d:Option qd)(h:Heap):Prop:=∃o,h.get? e=some o/\o.dict=d
def jY{α:Type}:Sem α->Prop
 |.pure _=>True
 |.raise _=>True
 |.unsupported _=>True
 |.finish _=>True
 |.rule _ k=>jY (k ())
 |.at _ k=>jY (k ())
 |.load _ _ k=>∀o,jY (k o)
 |.update _ _ f k=>(∀o,(f o).dict=o.dict/\(f o).isFreed=o.isFreed)/\jY (k ())
 |.loadIfAlive _ k=>∀o,jY (k o)
 |.alloc _ k=>∀a,jY (k a)
 |.stack k=>∀l,jY (k l)
 |_=>False
theorem jY.bind{α β:Type}(t:Sem α){f:α->Sem β}(h:jY t)(hf:∀a,jY (f a)):jY (t.bind f):=by
 induction t with
 |pure a=>exact hf a
 |raise _=>trivial
 |unsupported _=>trivial
 |finish _=>trivial
 |rule _ k b=>exact b () h
 | «at» _ k b=>exact b () h
 |load _ _ k b=>exact λo=>b o (h o)
 |update _ _ _ k b=>exact⟨h.1,b () h.2⟩
 |loadIfAlive _ k b=>exact λo=>b o (h o)
 |alloc _ k b=>exact λo=>b o (h o)
 |stack k b=>exact λo=>b o (h o)
 |_=>exact False.elim h
theorem Dk.update{a:qd}{h:Heap}{f:Obj->Obj}(x:Dk e d h)(hf:∀o,(f o).dict=o.dict/\(f o).isFreed=o.isFreed):Dk e d (h.update a f):=by
 obtain⟨o,b,c⟩:=x;by_cases q:a=e
 .subst q;exact⟨f o,zL f b ((hf o).2.trans (Heap.get?_some_iff.mp b).2),(hf o).1.trans c⟩
 .exact⟨o,(zG _ _ q).trans b,c⟩
theorem aw{α:Type}{M:Model}{i:PySem.Ctx}(t:Sem α):∀{Q:α->Pos->Shared->Prop}{E:qe->Pos->Shared->Prop}{p:Pos}{s:Shared},jY t->Dk e d s.heap->Sem.wp M i t (λa g s'=>Dk e d s'.heap->Q a g s') (λx g s'=>Dk e d s'.heap->E x g s') p s->Sem.wp M i t Q E p s:=by
 induction t with
 |pure a=>intro Q E p s b c h;exact h c
 |raise e=>intro Q E p s b c h;exact h c
 |unsupported _=>intro Q E p s b c h;exact h
 |finish _=>intro Q E p s b c h;exact h
 |rule _ k f=>intro Q E p s b c h;exact f _ b c h
 | «at» _ k f=>intro Q E p s b c h;exact f _ b c h
 |load _ _ k f=>intro Q E p s b c h;obtain⟨o,e,h⟩:=h;exact⟨o,e,f _ (b _) c h⟩
 |update _ _ _ k f=>intro Q E p s b c h;exact⟨h.1,f _ b.2 (c.update b.1) h.2⟩
 |loadIfAlive _ k f=>intro Q E p s b c h;exact f _ (b _) c h
 |alloc _ k f=>intro Q E p s b c h;exact f _ (b _) (by obtain⟨o,j,l⟩:=c;exact⟨o,qr _ j,l⟩) h
 |stack k f=>intro Q E p s b c h;exact f _ (b _) c h
 |_=>intro Q E p s b c h;exact False.elim b
theorem V2{α:Type}{M:Model}{A:Around}{t:Sem α}{Q:α->Shared->Prop}{E:qh}{s:Shared}(c:jY t)(f:Dk e d s.heap)(h:wpAny M A t (λa s'=>Dk e d s'.heap->Q a s') (λx s'=>Dk e d s'.heap->E x s') s):wpAny M A t Q E s:=
 λg p b=>aw t c f (h g p b)
theorem Tu{f:Array qe->Array qe}(o:Obj):(Obj.mapFields f o).dict=o.dict/\(Obj.mapFields f o).isFreed=o.isFreed:=by
 obtain⟨c,d,a,sl⟩:=o;cases a<;>exact⟨U,U⟩
theorem jY.bnd{α β:Type}{t:Sem α}{f:α->Sem β}(h:jY t)(hf:∀a,jY (f a)):jY (t>>=f):=jY.bind t h hf
theorem Tt{α:Type}(w:String):jY (unsupported w:Sem α):=trivial
theorem BH(a:qd):jY (load a):=λ_=>trivial
theorem GA:jY stack:=λ_=>trivial
theorem Dr(v:qe):jY (fieldsOf v):=by
 unfold fieldsOf
 cases v with
 |ref a=>exact jY.bnd (BH a) λo=>by split<;>trivial
 |_=>trivial
theorem Xn(v:qe)(i:Nat):jY (field v i):=jY.bnd (Dr v) λvs=>by split<;>trivial
theorem Wl(v:qe)(i:Nat)(x:qe):jY (setField v i x):=by
 unfold setField
 cases v with
 |ref a=>
  refine jY.bnd (BH a) λo=>?_;split
  .split
   .exact⟨λo=>Tu o,trivial⟩
   .trivial
  .trivial
 |_=>trivial
theorem VQ(e:qe)(f:Option qd):jY (setFlight e f):=jY.bnd (Xn e 1) λtb=>by
 split
 .exact Wl _ _ _
 .trivial
theorem BI:jY frameEnvs:=jY.bnd GA λ_=>trivial
theorem La(env:Env)(l:qa Env):jY (behindIsImport env l):=by
 unfold behindIsImport;split
 .trivial
 .split
  .trivial
  .exact jY.bnd (Xn _ _) λ_=>trivial
theorem P5(env:Env)(b:Bool)(l:qa Env):jY (keptBack env b l):=by
 cases l with
 |nil=>
  show jY (if (env.scope.isGenerator||env.scope.isCoroutine)=true then pure Value.none else do let x <-underTheClaimsCaller;pure (if x=true then Value.notImplemented else Value.none));split
  .trivial
  .exact jY.bnd (t:=underTheClaimsCaller) (jY.bnd GA λ_=>trivial) λ_=>trivial
 |cons c l=>trivial
theorem Dp:∀l:qa Env,jY (readyFrames l)
 |[]=>trivial
 |env::outer=>by
  unfold readyFrames;split
  .refine jY.bnd (BH _) λo=>?_;split
   .trivial
   .refine jY.bnd (La _ _) λb=>jY.bnd (P5 _ _ _) λv=>?_;exact jY.bnd (t:=update _ _) ⟨λo=>⟨U,by obtain⟨c,d,a,sl⟩:=o;cases a<;>rfl⟩,trivial⟩ λ_=>Dp outer
  .trivial
theorem EC(env:Env):jY (PySem.frameOf env):=by
 unfold PySem.frameOf;refine jY.bnd BI λl=>jY.bnd ?_ λr=>?_
 .cases List.dropWhile (λx=>x.frame != env.frame) l with
  |nil=>trivial
  |cons a t=>exact jY.bnd (Dp _) λ_=>trivial
 .cases r<;>trivial
theorem NU(f:qd)(b:Bool):jY (entryPlaceOf f b):=jY.bnd GA λl=>by split<;>trivial
theorem HB(c:String)(a:Data)(d:Option qd):jY (newObjAsIs (.type c) a d):=λ_=>trivial
theorem BG(ty:String)(vs:qi):jY (newFields ty vs):=by
 unfold newFields newObj;dsimp only;split
 .exact jY.bnd (Tt _) λ_=>HB _ _ _
 .exact HB _ _ _
theorem Dq(a b c d e:qe)(l:qi):jY (EntryCells.newEntry a b c d e l):=BG _ _
theorem HA(e:qe)(env:Env):jY (noteFrame e env):=by
 have fin:∀(f:qd)(hd:qe),jY (do let a <-PySem.frameOf env;let pl <-entryPlaceOf f (hd != .none);let b <-EntryCells.newEntry hd a .none (rawInt f) .none pl;setField e 1 b):=λf hd=>
  jY.bnd (EC env) λ_=>jY.bnd (NU _ _) λ_=>jY.bnd (Dq _ _ _ _ _ _) λ_=>Wl _ _ _
 unfold noteFrame;split
 .refine jY.bnd (Xn _ _) λhd=>?_;split
  .refine jY.bnd (Xn _ _) λx=>?_;split
   .trivial
   .exact jY.bnd (Wl _ _ _) λ_=>fin _ _
  .exact fin _ _
 .trivial
theorem GB(env:Env)(e:qe):jY (leaving env e):=jY.bnd (HA e env) λ_=>VQ e none
inductive ah(P:Program)(w:World)(l:qa Env)(H:Hp)(s:Shared)(E:XK)(ev:qe)(s':Shared):Prop
 |mk:∀e C H' d,ev=.ref e->Fly P w l H s e C H' s'->Dk e d s'.heap->E (.ref C) d H'->ah P w l H s E ev s'
def vd(P:Program)(w:World):wC:=λl H s E ev s'=>ah P w l H s E ev s'
section
variable {P:Program}{w:World}{K:Frag}{mg:qc->Option qe}{base:Heap}{N:qg}{qual:qc}{scope:Scope}{f:qd}{cd:qe}{A:Around}{outer:qa Env}{s:Shared}{H:Hp}{E:XK}
theorem bE:VW (vd P w) (Uw (vd P w) P w K mg base N qual scope f cd A outer s H E) E:=by
 intro pins σ r sc ev s1 I h;obtain⟨e,C,H',d,rfl,F,k,q⟩:=h;obtain⟨B,l,i,m,ct⟩:=F.fly;refine V2 (GB _ _) k (zy (wpAny_leaves_onW (Q:=λ_ s2=>∃c,s2={s1 with heap:=c}/\Heap.FlyingW B (Uw (vd P w) P w K mg base N qual scope f cd A outer s H E).outer e (.ref C) l c/\s1.heap.UpToSlots c) (base:=B) I.ok.frames rfl i λc a sl=>⟨c,U,a,sl⟩) (λ_ s2 z g=>?_) λ_ _ z _=>z);obtain⟨c,rfl,a,sl⟩:=z;have n:∀b∈frs (Uw (vd P w) P w K mg base N qual scope f cd A outer s H E).stack,∀o,s1.heap.get? b=some o->∀vs,o.data≠.fields vs:=λb p o e=>by
  obtain⟨_,t,j,d⟩:=i.2.2.1.mem p;rw[e] at j;cases j;exact d
 exact⟨e,C,H',d,U,HN I rfl F.un F.os F.bare F.hok F.fr F.nw a m ct sl n,g,q⟩
end
def KQ(X:Cx)(pn:qa (qd×Obj))(R:St->XK):Cx:={X with pn:=X.pn++pn,xe:=λev s'=>∃(σ:St)(a:Hp)(sc:Shared),Inv X pn σ a sc/\ah X.prog X.w X.stack a sc (R σ) ev s'}
section
variable {X:Cx}{pins gc:qa (qd×Obj)}{σ:St}{H:Hp}{s:Shared}{R:St->XK}
theorem Inv.uz(I:Inv X pins σ H s):Inv (KQ X pins R) [] σ H s:=
 ⟨⟨I.ok.mod,I.ok.kind,I.ok.glob,I.ok.blt,I.ok.above,I.ok.inj,I.ok.has,I.ok.cab,I.ok.hd,I.ok.frames,I.ok.gR,I.ok.wM,I.ok.bs,I.ok.vF,I.ok.va,I.ok.vb,I.ok.y7,I.ok.wI⟩,I.os,I.bare,I.base,I.loc,I.cell,I.free,I.jR,λp a=>I.pin p (by
   rw[zD] at a;exact a),I.hok,I.len⟩
theorem Inv.xS(I:Inv (KQ X pins R) gc σ H s):Inv X pins σ H s:=
 ⟨⟨I.ok.mod,I.ok.kind,I.ok.glob,I.ok.blt,I.ok.above,I.ok.inj,I.ok.has,I.ok.cab,I.ok.hd,I.ok.frames,I.ok.gR,I.ok.wM,I.ok.bs,I.ok.vF,I.ok.va,I.ok.vb,I.ok.y7,I.ok.wI⟩,I.os,I.bare,I.base,I.loc,I.cell,I.free,I.jR,λp a=>I.pin p (qS _ a),I.hok,I.len⟩
theorem SP.xS{D:VE}{f:Flow}(h:SP (KQ X pins R) gc D f s):SP X pins D f s:=by
 cases f with
 |ret u=>obtain⟨v,a,H',I,r,q⟩:=h;exact⟨v,a,H',I.xS,r,q⟩
 |_=>obtain⟨a,H',I,q⟩:=h;exact⟨a,H',I.xS,q⟩
theorem SQ{pn:qa (qd×Obj)}:BS (vd X.prog X.w) (KQ X pn R) R:=by
 intro pins σ H s ev s' I h;exact⟨σ,H,s,I.xS,h⟩
end
inductive R1(h:Heap)(C D:qd):Prop
 |mk:∀bm N nm q bs hdct sn sub ab col dd k0 k1 k2 k3 k5 nw,h.get? C=some (excClassObj nm q C N bs bm hdct sn sub ab col dd k0 k1 k2 k3 k5 nw)->(Value.ref C::bm).contains (.ref D)=true->R1 h C D
structure cC(K:Frag)(C D:qd):Prop where
 c:∀h:Heap,K.In h->R1 h C D
theorem Sub.subX{K:Frag}{C D:qd}(x:Sub K C D):cC K C D:=⟨λh a=>by
 obtain⟨bm,N,nm,c,bs,hdct,sn,sub,ab,col,dd,k0,k1,k2,k3,k5,mN,b,hN,d,e⟩:=x.c.obj a;exact⟨bm,N,nm,c,bs,hdct,sn,sub,ab,col,dd,k0,k1,k2,k3,k5,_,b,x.has a b⟩⟩
section
variable {M:Model}{A:Around}{E:qh}{s:Shared}{B:Heap}{l:qa Env}{e L:qd}{cls a0:qe}{d:Option qd}{Q:Unit->Shared->Prop}
theorem Th{env:Env}{outer:qa Env}(b:A.frames=some (env::outer))(hf:env.frame=some L)(f:Heap.FlyingW B (env::outer) e cls a0 s.heap)(g:Dk e d s.heap)
 (h:∀h',Heap.HeldW B (env::outer) e cls a0 L h'->s.heap.UpToSlots h'->Dk e d h'->Q () {s with heap:=h'}):wpAny M A (noteFrame (.ref e) env) Q E s:=
 V2 (HA _ _) g (zy (wpAny_looks_onW (Q:=λ_ s2=>∃a,s2={s with heap:=a}/\Heap.HeldW B (env::outer) e cls a0 L a/\s.heap.UpToSlots a) b hf f λa x y=>⟨a,U,x,y⟩) (λ_ _ ⟨a,q,x,y⟩ c=>by
  subst q;exact h a x y c) λ_ _ z _=>z)
theorem Tj(c:Heap.HeldW B l e cls a0 L s.heap)(f:Dk e d s.heap)(g:∀h',Heap.FlyingW B l e cls a0 h'->s.heap.UpToSlots h'->Dk e d h'->Q () {s with heap:=h'}):wpAny M A (setFlight (.ref e) none) Q E s:=
 V2 (VQ _ _) f (zy (wpAny_landsW (Q:=λ_ s2=>∃a,s2={s with heap:=a}/\Heap.FlyingW B l e cls a0 a/\s.heap.UpToSlots a) c λa x y=>⟨a,U,x,y⟩) (λ_ _ ⟨a,q,x,y⟩ b=>by
  subst q;exact g a x y b) λ_ _ z _=>z)
theorem Dl(c:Heap.FlyingW B l e cls a0 s.heap)(f:Dk e d s.heap)(g:∀h',Heap.FlyingW B l e cls a0 h'->s.heap.UpToSlots h'->Dk e d h'->Q () {s with heap:=h'}):wpAny M A (setFlight (.ref e) none) Q E s:=
 V2 (VQ _ _) f (zy (lands_againW (Q:=λ_ s2=>∃a,s2={s with heap:=a}/\Heap.FlyingW B l e cls a0 a/\s.heap.UpToSlots a) c λa x y=>⟨a,U,x,y⟩) (λ_ _ ⟨a,q,x,y⟩ b=>by
  subst q;exact g a x y b) λ_ _ z _=>z)
end
def T9(C:qd)(d:Option qd)(e:qd)(h:Heap):Prop:=∃o,h.get? e=some o/\o.cls=.ref C/\o.dict=d/\∃vs,o.data=.fields vs
def BV(C:qd)(d:Option qd)(e:qd):HO:=.ext (T9 C d e)
theorem Ri{P:Program}{w:World}{H:Hp}{h:Heap}{C e:qd}{d:Option qd}(x:T9 C d e h):QP P w H h e (BV C d e):=⟨x,let ⟨o,a,_⟩:=x;⟨o,a⟩,λ_ _ y k=>let ⟨o,a,b⟩:=y;⟨o,k o a,b⟩⟩
def OZ(i:Nat)(R:St->XK)(tb b:TS):TS:=λD σ H=>(∀a C d H' e,R a (.ref C) d H'->H' e=none->b (unb i D) (a.set i (some (.ref e))) (upd H' e (BV C d e)))/\tb D σ H
theorem Iv{X:Cx}{body:qa Stmt}{x n:qc}{i:Nat}{D:qd}{w:Stmt}{g:qa Stmt}{np Z pos:Pos}{R:St->XK}{tb ts:TS}(hg:Gl X x)(hm:X.mg x=some (.ref D))(d:Xcl X.K D)(hst:X.stack=X.env::X.outer)(hf:X.env.frame=some X.env.locals)(hex:X.ex=[])
 (hN:X.N.Nodup) (hi:X.N[i]?=some n) (a:X.env.scope.names.lookup n=some .local)
 (hsub:∀σ C d H,R σ (.ref C) d H->cC X.K C D) (hb:∀pn,yU (KQ X pn R) body tb) (hs:∀ev,yU (hnd X ev) (w::g) ts) (hdb:(x==("__debug__":qc))=false:=by decide) :
 PS X (.Try body [.ExceptHandler (some (.Name x np)) (some n) (w::g) Z] [] [] pos) (OZ i R tb ts):=by
 intro pins s σ H Dd I h;obtain⟨hh,hq⟩:=h;refine wpAny_Try_except (zy (hb pins [] s σ H Dd I.uz hq) (λf b j=>?_) λev b j=>?_)
 .have k:SP X pins Dd f b:=SP.xS j
  cases f with
  |next=>rw[arm_execs_nil];exact qq k
  |_=>exact k
 .obtain⟨k,Hc,sc,Y,e,C,H',dx,rfl,F,dk,q⟩:=j;obtain⟨B,a0,fl,cv,ct⟩:=F.fly;have fr:X.A.frames=some (X.env::X.outer):=by rw[I.ok.frames,hst]
  have fl':=fl;rw[hst] at fl';refine Th fr hf fl' dk λh4 J y dk4=>?_;refine Tj J dk4 λh5 K A dk5=>?_;have J5:Inv X pins k H' {b with heap:=h5}:=F.inv (l:=X.stack) Y fl cv ct K.1 (y.trans A);refine wpAny_handleBy_cons (codeAny_handlers_test ?_) (by intro q;cases q);refine kL I.ok.kind hg (Calls.loadGlobal_global (by rw[I.ok.glob];exact I.mod.glob.keeps J5.bk) hm ?_) hdb;obtain⟨bm,N,nm,qn,bs,hdct,sn,sub,ab,col,dd,k0,k1,k2,k3,k5,nw,hC,hsb⟩:=(hsub k C dx H' q).c _ J5.y0;obtain⟨bm',N',nm',qn',bs',hdct',sn',sub',ab',col',dd',l0,l1,l2,l3,l5,mN',hD,hN'',hni',TL'⟩:=d.obj J5.y0;obtain⟨ob,hob,hobc⟩:=K.there;refine Dg hC hD hob hobc (TL'.hasType excBase_ValueError.hasBase) hsb ?_;refine codeAny_handlers_suite_as ?_;refine Dl K dk5 λh6 fl6 hsm6 dk6=>?_;have J6:Inv X pins k H' {b with heap:=h6}:=F.inv (l:=X.stack) Y fl cv ct fl6.1 ((y.trans A).trans hsm6);have t:=Y.base;rw[hex] at t;have e0:X.s₀.heap.get? e=none:=by
   cases z:X.s₀.heap.get? e with
   |none=>rfl
   |some o=>
    obtain⟨G,E⟩:=t.there e o z nofun;rw[F.nw] at E;cases E
  obtain⟨ob6,vs6,E,L,M,_⟩:=fl6.first;obtain⟨ob7,G,O⟩:=dk6;have eL:e≠X.env.locals:=λz=>by
   obtain⟨m,Q,_⟩:=Y.loc;obtain⟨S,_,_,P,_⟩:=Q;rw[<-z,F.nw] at P;cases P
  have eC:∀x c,X.env.cells.lookup x=some c->c≠e:=λx c hc z=>by
   obtain⟨v,o,P,_⟩:=Y.cell x c hc;rw[z,F.nw] at P;cases P
  have eP:∀p∈X.pn++pins,p.1≠e:=λp hp z=>by
   obtain⟨P,_⟩:=Y.pin p hp;rw[z,F.nw] at P;cases P
  have J7:Inv X pins k (upd H' e (BV C dx e)) {b with heap:=h6}:=J6.track F.fr e0 eL eC eP (Ri ⟨ob6,E,L,by
   rw[E] at G;cases G;exact O,_,M⟩)
  refine KU J7 hN hi (.inl a) (v:=.ref e) rfl (λs2 J8=>?_) (.inr a);refine zy (hs (.ref e) pins s2 _ _ (unb i Dd) (J8.inhnd _) (hh k C dx H' e q F.fr)) (λf s3 z=>?_) (λ_ _ z=>z.elim);have z':SP X pins (unb i Dd) f s3:=SP.vA I.ok z
  cases f with
  |ret u=>
   obtain⟨v,P,Q,S,r,T⟩:=z';exact KI S hN hi a λs4 V=>⟨v,_,Q,V,r,T⟩
  |next=>
   obtain⟨P,Q,S,T⟩:=z';exact KI S hN hi a λs4 V=>⟨_,Q,V,T⟩
  |brk=>
   obtain⟨P,Q,S,T⟩:=z';exact KI S hN hi a λs4 V=>⟨_,Q,V,T⟩
  |cont=>
   obtain⟨P,Q,S,T⟩:=z';exact KI S hN hi a λs4 V=>⟨_,Q,V,T⟩
end L2
set_option maxHeartbeats 400000
namespace L2
open PySem PySem.Spec PyProof.Rows
open PySem.Builtin PySem.Builtin.ObjectAttr
open PySem.Builtin PySem.Builtin.ObjectAttr
section
variable {P:Program}{w:World}{K:Frag}{mg:qc->Option qe}{base:Heap}{N:qg}{qual:qc}{f:qd}
theorem vK.okXD{x:qc}{st:Stmt}{fd:FuncData}{ps:qg}{k:Nat}{sp:Sp}(F:vK K x qual st f fd)(S:UL N ps (Qr st))(len:∀vs H Q E,sp vs H Q E->vs.length=ps.length)
 (b:∀(a:qe)(A:Around)(outer:qa Env)(s:Shared)(H:Hp)(vs:qa V)(Q:VK)(E:XK),Yf k (A.deeper (envOfC qual (Qr st) s.heap.objs.size f a))->sp vs H Q E ->
   ∃t,yU (Uw (vd P w) P w K mg base N qual (Qr st) f a A outer s H E) (QO st) t/\t {nx:=λ_ H'=>Q .non H',rt:=Q} (start N vs) H):U1 P w K mg base (vd P w) (k+1) f fd ps sp:=by
 obtain⟨h,i,kV,doc,pm,an,a,ct,e,rfl,lk,c⟩:=F.ex;exact Oj lk c S len λA outer s H vs Q E g d=>b a A outer s H vs Q E g d
end
end L2
set_option maxHeartbeats 4000000
namespace L2
open PySem PySem.Spec PyProof.Rows
section
variable {P:Program}{w:World}{K:Frag}{mg:qc->Option qe}{base:Heap}{N:qg}{qual:qc}{scope:Scope}{f:qd}{cd:qe}{A:Around}{outer:qa Env}{s:Shared}{H:Hp}{E:XK}
theorem Lj{pins:qa (qd×Obj)}{σ:St}{H1:Hp}{s2:Shared}{e C:qd}{h':Heap}{vs:qi}(I:Inv (Uw (vd P w) P w K mg base N qual scope f cd A outer s H E) pins σ H1 s2)(a:Heap.MadeExcOf s2.heap h' e (.ref C) vs)(q:E (.ref C) none H1) :
 (Uw (vd P w) P w K mg base N qual scope f cd A outer s H E).xe (.ref e) {s2 with heap:=h'}:=by
 have p:(hideAll s2.heap (frs (Uw (vd P w) P w K mg base N qual scope f cd A outer s H E).stack)).StaysIn s2.heap:=λb o q=>of_hideAll _ q;have l:Dk e none h':=let ⟨t,r,_⟩:=a.there;⟨_,r,U⟩;refine V2 (GB _ _) l (zy (wpAny_leaves_madeW (s:={s2 with heap:=h'}) (Q:=λ_ s3=>∃g t,s3={s2 with heap:=g}/\Heap.FlyingW (hideAll s2.heap (frs (Uw (vd P w) P w K mg base N qual scope f cd A outer s H E).stack)) outer e (.ref C) (.ref t) g/\h'.UpToSlots g) (h:=s2.heap) I.ok.frames rfl p (PySem.W.funFrames_hide I.stack λenv he b c=>wD.mpr ⟨env,he,c⟩) a λg t m tup y sl=>⟨g,t,U,m,sl⟩) (λ_ s3 z v=>?_) λ_ _ z _=>z);obtain⟨g,t,rfl,m,sl⟩:=z;have un:Un (frs (Uw (vd P w) P w K mg base N qual scope f cd A outer s H E).stack) [] H1 H1 s2.heap h':=Un.kept a.keeps;have he:H1 e=none:=by
  cases z:H1 e with
  |none=>rfl
  |some o=>
   obtain⟨x,i⟩:=(I.hok e o z).there;rw[a.new] at i;cases i
 refine⟨e,C,H1,none,U,HN (s1:={s2 with heap:=h'}) I rfl un rfl I.bare (I.hok.kept a.keeps) he a.new m (λb o e c=>⟨o,hideAll_get _ e c,λ_=>rfl⟩) (λb o n e=>?_) sl (λb c o e=>?_),v,q⟩
 .cases z:H1 b with
  |none=>exact absurd z n
  |some u=>
   obtain⟨x,i⟩:=(I.hok b u z).there;have j:=a.keeps _ _ i;have k:h'.get? b=some o:=e;rw[k] at j;cases j;exact hideAll_get _ i λc=>n (I.xQ b c)
 .obtain⟨_,i,j,d⟩:=I.stack.mem c;have k:h'.get? b=some o:=e;rw[a.keeps _ _ j] at k;cases k;exact d
theorem Vs{x:qc}{C:qd}{a:Expr}{rest:qa Expr}{k:TA}{np b pos:Pos}(c:Xcl K C)(hm:mg x=some (.ref C))(m:A.handled=none)
 (n:Gl (Uw (vd P w) P w K mg base N qual scope f cd A outer s H E) x) (o:PA (Uw (vd P w) P w K mg base N qual scope f cd A outer s H E) (a::rest) k)
 (g:(x==("__debug__":qc))=false:=by decide)
 (he:starEach (a::rest) (Uw (vd P w) P w K mg base N qual scope f cd A outer s H E).env=(false,eval a (Uw (vd P w) P w K mg base N qual scope f cd A outer s H E).env)::starEach rest (Uw (vd P w) P w K mg base N qual scope f cd A outer s H E).env:=by rfl)
 (i:(backTo b (starEach rest (Uw (vd P w) P w K mg base N qual scope f cd A outer s H E).env)).any (·.1)=false:=by rfl) :
 PS (Uw (vd P w) P w K mg base N qual scope f cd A outer s H E) (.Raise (some (.Call (.Name x np) (a::rest) [] b)) none pos) (Si C E k):=by
 intro pins s0 σ p D I h;obtain⟨t,u,nm,q,bs,hdct,sn,sub,ab,col,dd,k0,k1,k2,k3,k5,mN,v,hN,j,T⟩:=c.obj I.ok.mod.wx;refine wpAny_Raise_call_subT (C:=C) (nm:=nm) (q:=q) (N:=u) (bs:=bs) (bm:=t) (hdct:=hdct) (sn:=sn) (sub:=sub) (ab:=ab) (col:=col) (dd:=dd) (k0:=k0) (k1:=k1) (k2:=k2) (k3:=k3) (k5:=k5)
  excBase_ValueError (mN:=mN) (T.hasType excBase_ValueError.hasBase) m ?_ j (WK I n hm ⟨U,?_⟩ g)
 .rw[he];show(false||(backTo b (starEach rest (Uw (vd P w) P w K mg base N qual scope f cd A outer s H E).env)).any (·.1))=false;rw[i];rfl
 .have l:=o b pins s0 σ p _ I h;rw[he] at l⊢;refine jT (z5 l λus s2 z=>?_);obtain⟨vs,H1,d,r,y,B⟩:=z;exact⟨U,by rw[<-r.length];exact y,d.bk _ _ v,hN.keeps d.bk,T.keeps d.bk,λh' e F=>Lj d F B⟩
end
variable {C:qd}
structure XM(K:Frag)(C:qd)(m:qc)(f:qd):Prop where
 ga:findIn K (.ref C) "__getattribute__"=some (some (.builtin "BaseException.__getattribute__"))
 gt:findIn K (.ref C) "__getattr__"=some none
 mt:DS K C m f
theorem Lu:(Manifest.canonical "BaseException.__getattribute__" != "object.__getattribute__")=false:=by decide +kernel
theorem av{prog:Program}{w:World}{A:Around}{E:qh}{K:Frag}{x f:qd}{s:Shared}{name:qc}{pl:Sem Bool}{Q:qe×qi->Shared->Prop}(X:K.In s.heap)(I:T9 C none x s.heap)(Z:XM K C name f)(h:Q (.ref f,[.ref x]) s) :
 wpAny (model prog w) A (getMethod (.ref x) name pl) Q E s:=by
 obtain⟨b,a,c,d,vs,g⟩:=I;have ty:Looks (model prog w) s.heap (typeOf (.ref x)) (.ref C):=XAt.type ⟨b,a,c⟩;have e:typeIn K (.ref f)=some (.type "function"):=j0.mp Z.mt.fn;unfold getMethod specialOf;refine qk (qk (ty.here ((looks_findIn X Z.ga).here ?_)));dsimp only;rw[Lu,qJ ∅];refine qk (qk (ty.here ((looks_findIn X Z.gt).here ?_)));refine qk (qk (ty.here ((looks_findIn X Z.mt.at_).here (qk ((PySem.W.looks_typeIn X e).here ?_)))));rw[qJ ∅];refine qk (wpAny_loadPart a ?_);rw[d];exact qk (yC (qq h))
inductive Fh(C:qd)(sp:Sp)(Q:VK)(x:V)(H1:Hp):Prop
 |mk:∀a,x=.ref a->H1 a=some (BV C none a)->sp [x] H1 Q E0->Fh C sp Q x H1
def aM(C:qd)(sp:Sp)(a:TE):TE:=λσ H Q=>a σ H λx H1=>Fh C sp Q x H1
theorem MT{X:Cx}{o:Expr}{c:TE}{m:qc}{apos pos:Pos}{f:qd}{k:Nat}{fd:FuncData}{ps:qg}{sp:Sp}{pl:Sem Bool}(he:PE X o c)(Z:XM X.K C m f)(F:DV X.prog X.w X.K X.mg X.base k f fd ps sp)(e:Vk k X.A)(g:Yy X.K fd ps [])
 (i:eval (.Call (.Attribute o m apos) [] [] pos) X.env=(do
   let d <-eval o X.env
   standAt apos.atName
   let (f,first) <-holding [d] (getMethod d m pl)
   callWith pos f first (backTo pos (starEach [] X.env)) (backToKw pos (keywordEach [] X.env))):=by rfl) :
 PE X (.Call (.Attribute o m apos) [] [] pos) (aM C sp c):=by
 intro pins s σ H Q I h;refine methodCall_KW (pl:=pl) (z5 (he pins s σ H _ I h) λu s1 ⟨x,H1,b,j,a,ex,l,q⟩=>?_) i;subst ex;obtain rfl:u=Value.ref a:=j;obtain⟨n,_⟩:=(show QP X.prog X.w H1 s1.heap a (BV C none a) from b.hok a _ l);refine av b.y0 n Z ?_;exact callWith_K0 (first:=[.ref a]) b.y0 Z.mt.kp (O9 (us:=[.ref a]) (vs:=[.ref a]) F e g .nil b (.cons rfl .nil) (by rw[zD];exact q))
end L2
namespace Hd
open PySem PySem.W PySem.Calls PyProof.Rows L2
end Hd
namespace L2
open PySem PySem.Spec PyProof.Rows
variable {rows:qa (qc×qa V)}
structure gN(K:Frag)(p:qd)(rows:qa (qc×qa V)):Prop where
 n:(p==sysModules)=false
 o:Hd.uB K rows (K.lookup p)=true
theorem TQ{K:Frag}{h:Heap}{mg:qc->Option qe}{x:qc}(X:K.In h)(G:h.Ns mainGlobals mg)(e:Hd.vD K x rows=true):∃p,mg x=some (.ref p)/\gN K p rows:=by
 unfold Hd.vD at e;rw[qG,qG,z0] at e;exact⟨_,mg_of X G (qH e.1),e.2.1,e.2.2⟩
theorem Rx:∀{u:qe}{x:V},Ry u=some x->QJ x u:=by
 intro u x h;cases u<;>first|(cases h;done)|skip
 all_goals (injection h with h;subst h)
 all_goals first|rfl|exact⟨_,rfl⟩
theorem DR:∀{us:qi}{xs:qa V},us.map Ry=xs.map some->QB xs us
 |[],[],_=>.nil
 |u::us,x::xs,h=>by
  obtain⟨a,b⟩:=jv h;exact .cons (Rx a) (DR b)
theorem R8{K:Frag}{v:qe}{l:qa V}(h:Hd.kz K v l=true):∃t,v=.ref t/\∀H,jj K H t l:=by
 cases v with
 |ref t=>
  refine⟨t,U,λH=>.inr ?_⟩;unfold Hd.kz at h;dsimp only at h;split at h
  .rename_i b its n sl a
   rw[qG] at h;exact⟨_,its,n,a,U,U,qH h.1,DR (qH h.2)⟩
  .cases h
 |_=>cases h
theorem NT{v:qe}{x:qc}(h:Hd.yJ v x=true):∃t,v=.str x t:=by
 cases v with
 |str y t=>exact⟨t,by rw[qH h]⟩
 |_=>cases h
theorem Dy{K:Frag}:∀{es:qa DictEntry}{rows:qa (qc×qa V)},Hd.xF K es rows=true->(es.all λe=>isExactStrKey e.key)=true
 |[],_,_=>rfl
 |e::es,q::r,h=>by
  have h:(Hd.yJ e.key q.1&&Hd.kz K e.val q.2&&Hd.xF K es r)=true:=h;rw[qG,qG] at h;obtain⟨t,a⟩:=NT h.1.1;rw[wj,Dy h.2,Bool.and_true,a];rfl
 |_::_,[],h=>nomatch (h:false=true)
theorem A1{K:Frag}{x:qc}:∀{es:qa DictEntry}{rows:qa (qc×qa V)},Hd.xF K es rows=true ->
 (match es.find? (λe=>e.key.isStr x),rows.find? (λq=>decide (q.1=x)) with
   |none,none=>True
   |some e,some q=>Hd.kz K e.val q.2=true
   |_,_=>False)
 |[],[],_=>trivial
 |e::es,q::r,h=>by
  have h:(Hd.yJ e.key q.1&&Hd.kz K e.val q.2&&Hd.xF K es r)=true:=h;rw[qG,qG] at h;obtain⟨t,a⟩:=NT h.1.1;have b:e.key.isStr x=decide (q.1=x):=by
   rw[a];show(q.1==x)=_;rfl
  rw[jo,jo,b]
  cases decide (q.1=x) with
  |true=>exact h.1.2
  |false=>exact A1 h.2
 |_::_,[],h=>nomatch (h:false=true)
 |[],_::_,h=>nomatch (h:false=true)
section
variable {prog:Program}{w:World}{A:Around}{E:qh}{K:Frag}{s:Shared}{p:qd}{rows:qa (qc×qa V)}{x:qc}{t:Tok}
theorem gN.obj(d:gN K p rows)(X:K.In s.heap):∃es a,s.heap.get? p=some ⟨.type "dict",none,.dict es a,#[]⟩/\Hd.xF K es.toList rows=true:=by
 have h:=d.o;unfold Hd.uB at h;split at h
 .rename_i es a b
  exact⟨es,a,X _ _ b,h⟩
 .cases h
theorem TK{o:Obj}{es:Array DictEntry}{b:Nat}{g:Int}{Q:Option Nat->Shared->Prop}(c:s.heap.get? p=some o)(hd:o.data=.dict es b)(j:(es.all λe=>isExactStrKey e.key)=true)(h:Q (es.findIdx? λe=>e.key.isStr x) s) :
 wpAny (model prog w) A (dictFind p (.str x t) g) Q E s:=by
 unfold dictFind
 try with_reducible refine zH ?_
 refine qk (xc c hd ?_);dsimp only;rw[qP j];unfold foundByValue
 cases hf:es.findIdx? (λe=>e.key.isStr x) with
 |none=>
  rw[hf] at h;exact qk (qq (qq h))
 |some i=>
  rw[hf] at h;obtain⟨d,a,_⟩:=wG.mp hf;obtain⟨u,k⟩:∃u,es[i].key=.str x u:=by
   cases f:es[i].key with
   |str y u=>rw[f] at a;exact⟨u,by rw[show y=x from j0.mp a]⟩
   |_=>rw[f] at a;cases a
  simp only[zM d];refine qk (xZ c hd (qk ?_));rw[k];refine wpAny_eqBool_str (qk (xZ c hd ?_));show wpAny _ _ (if (b != b)=true then _ else _) _ E _;rw[qJ (by simp),qx rfl];exact qk (yC (qq h))
theorem RU{Q:Option qe->Shared->Prop}(d:gN K p rows)(X:K.In s.heap)
 (h:∀r,(match r,rows.find? (λq=>decide (q.1=x)) with
   |none,none=>True
   |some v,some q=>Hd.kz K v q.2=true
   |_,_=>False)->Q r {s with toks:=s.toks+1}):wpAny (model prog w) A (dictGet p (.str x t)) Q E s:=by
 obtain⟨es,o,f,he⟩:=d.obj X;have k:(es.all λe=>isExactStrKey e.key)=true:=by rw[<-Array.all_toList];exact Dy he
 have a:=A1 (x:=x) he;unfold dictGet
 try with_reducible refine zH ?_
 refine qk (wpAny_pyHash_str (qk (TK (s:={s with toks:=s.toks+1}) f rfl k ?_)))
 cases g:es.findIdx? λe=>e.key.isStr x with
 |none=>
  refine qq (h none ?_);have:es.toList.find? (λe=>e.key.isStr x)=none:=by
   rw[yH];intro e hm;exact ky.mp (Array.findIdx?_eq_none_iff.mp g e (by simpa using hm))
  rw[this] at a
  cases c:rows.find? (λq=>decide (q.1=x)) with
  |none=>trivial
  |some q=>rw[c] at a;exact False.elim a
 |some i=>
  obtain⟨b,l,m⟩:=wG.mp g;refine qk (xc (s:={s with toks:=s.toks+1}) f rfl (qq ?_));rw[zM b];refine h (some es[i].val) ?_;have:es.toList.find? (λe=>e.key.isStr x)=some es[i]:=by
   rw[List.find?_eq_some_iff_getElem];exact⟨l,i,by simpa using b,by simp,λj n=>by simpa using m j n⟩
  rw[this] at a
  cases c:rows.find? (λq=>decide (q.1=x)) with
  |none=>rw[c] at a;exact False.elim a
  |some q=>rw[c] at a;exact a
theorem bK{Q:qh}(d:gN K p rows)(X:K.In s.heap)(h:Q (.bool (!(rows.find? (λq=>decide (q.1=x))).isSome)) {s with toks:=s.toks+1}) :
 wpAny (model prog w) A (compareOp .NotIn (.str x t) (.ref p)) Q E s:=by
 obtain⟨es,c,b,he⟩:=d.obj X;have ty:s.TypeIs (.ref p) "dict":=⟨_,b,U⟩;show wpAny _ _ (do return .bool (!(<-contains (.ref p) (.str x t)))) Q E s;refine qk ?_;unfold contains
 try with_reducible refine zH ?_
 refine qk (wpAny_specialOf ty slot_dict_contains.lookup ?_);show wpAny _ _ (if (some (Value.builtin "dict.__contains__")==some Value.none)=true then _ else _) _ E s;rw[qJ (by rw[beq_builtin_none];exact qO)];refine qk (wpAny_callSpecialUnlessNone?_slot (name:=Str.ofString "__contains__") ty slot_dict_contains
  (zA slot_dict_contains ty entry_dict_contains ?_ (args_dict_contains _ _)))
 show wpAny _ _ (dictGet p (.str x t)>>=_) _ _ s;refine qk (RU d X λr a=>?_)
 cases hf:rows.find? (λq=>decide (q.1=x)) with
 |some q=>
  rw[hf] at h a
  cases r with
  |none=>exact False.elim a
  |some v=>
   show wpAny _ _ (ret (.bool true)) _ _ _;exact qq ⟨_,U,zI (qq h)⟩
 |none=>
  rw[hf] at h a
  cases r with
  |some v=>exact False.elim a
  |none=>
   show wpAny _ _ (Builtin.Dict.pendingKey? p (.str x t)>>=_) _ _ _;exact qk (wpAny_pendingKey_other d.n (qq ⟨_,U,zI (qq h)⟩))
theorem Tv{Q:qh}{q:qc×qa V}(d:gN K p rows)(X:K.In s.heap)(b:rows.find? (λq=>decide (q.1=x))=some q)(h:∀v,Hd.kz K v q.2=true->Q v {s with toks:=s.toks+1}) :
 wpAny (model prog w) A (getItem (.ref p) (.str x t)) Q E s:=by
 obtain⟨es,e,c,he⟩:=d.obj X;have ty:s.TypeIs (.ref p) "dict":=⟨_,c,U⟩;unfold getItem
 try with_reducible refine zH ?_
 refine qk (wpAny_sequenceKey ty ∅ ?_);refine qk (zU (name:=Str.ofString "__getitem__") ty slot_dict_getitem
  (zA slot_dict_getitem ty entry_dict_getitem ?_ (args_dict_getitem _ _)))
 show wpAny _ _ (dictGet p (.str x t)>>=_) _ _ s;refine qk (RU d X λr a=>?_);rw[b] at a
 cases r with
 |none=>exact False.elim a
 |some v=>exact qq ⟨v,U,qq (h v a)⟩
end
inductive Ha(K:Frag)(rows:qa (qc×qa V))(x y:V)(H:Hp)(Q:VK):Prop
 |mk:∀p k,y=.ref p->x=.str k->gN K p rows->Q (.bl (!(rows.find? (λq=>decide (q.1=k))).isSome)) H->Ha K rows x y H Q
theorem Pt{X:Cx} :y9 X (compareOp .NotIn) (λx y H Q=>Ha X.K rows x y H Q):=by
 intro pins s σ H x y v u Q I a b h;obtain⟨p,k,rfl,rfl,d,q⟩:=h;obtain⟨t,rfl⟩:=(show ∃t,v=Value.str k t from a);obtain rfl:u=Value.ref p:=b;exact bK d I.y0 ⟨.bl _,H,I.tok _,U,q⟩
inductive MC(K:Frag)(rows:qa (qc×qa V))(x y:V)(H:Hp)(Q:VK):Prop
 |mk:∀p k q,x=.ref p->y=.str k->gN K p rows->rows.find? (λq=>decide (q.1=k))=some q->(∀t,(∀H',jj K H' t q.2)->Q (.ref t) H)->MC K rows x y H Q
theorem NY{X:Cx} :uJ X (λx y H Q=>MC X.K rows x y H Q):=by
 intro value slice pins s σ H x y v u Q I a b h c;obtain⟨p,k,r,rfl,rfl,d,e,q⟩:=h;obtain rfl:v=Value.ref p:=a;obtain⟨t,rfl⟩:=(show ∃t,u=Value.str k t from b);obtain⟨es,i,f,he⟩:=d.obj I.y0;exact tail_any (show s.TypeIs (.ref p) "dict" from⟨_,f,U⟩) PySem.F.slot_dict_getitem.lookup (Tv d I.y0 e λv g=>by
  obtain⟨tt,rfl,hS⟩:=R8 g;exact⟨.ref tt,H,I.tok _,U,q tt hS⟩) c
structure G7(sc scope:Scope)(N:qg)(x y z3:qc)(fr:qa (Nat×qc)):Prop where
 kind:scope.kind=.function
 loc:scope.names.lookup x=some .local
 uw:scope.names.lookup y=some .local
 loc3:scope.names.lookup z3=some .local
 names:∀y∈scope.names,y.2=.local->scope.names.lookup y.1=some .local
 xj:∀y∈scope.names,y.2≠.cell
 free:∀y∈scope.names,y.2=.free->sc.names.lookup y.1=some .cell\/sc.names.lookup y.1=some .free
 frk:∀p∈fr,N[p.1]?=some p.2/\scope.names.lookup p.2=some .free
 nd:(x::y::z3::fr.map (·.2)).Nodup
def XZ(K:Frag)(J:It)(fr:qa (Nat×qc))(f:TE)(σ:St)(H1:Hp)(Q:VK):Prop:=∀D,H1 D=none ->
 ∃W:Nat->Nat->qa V->Hp->Prop,(∃m,W 0 m [] (upd H1 D (.lst [])))/\∀i m ys a,W i m ys a->a D=some (.lst ys) /\
  ((J.stop i a/\Q (.ref D) a)\/(J.go i a/\∀v b,J.yld i a v b->∃p v1 v2 c,v=.ref p/\jj K b p [v1,v2,c]/\f (some v1::some v2::some c::yx σ fr) b λy d=>d D=some (.lst ys)/\ys.length<sizeLine/\∃e,e<m/\W (i+1) e (ys++[y]) (upd d D (.lst (ys++[y])))))
def LS(K:Frag)(a:TI)(fr:qa (Nat×qc))(b:TE):TE:=λσ H Q=>a σ H λJ H1=>XZ K J fr b σ H1 Q
theorem Lp{X:Cx}{x y w:qc}{px py pz pt:Pos}{kt:Nat}{iter elt:Expr}{scope sc:Scope}{pos pos':Pos}{N:qg}{fr:qa (Nat×qc)}{wi:TI}{te:TE}
 {pins:qa (qd×Obj)} {s:Shared} {σ:St} {H:Hp} {Q:VK} {Q':qh} {use:Option (qe->Sem Unit)}
 (S:G7 sc scope N x y w fr) (hsc:X.env.scope=sc) (hN:X.N=N) (hc:X.calm=true) (hi:PI X (.Tuple [.Name x px,.Name y py,.Name w pz] kt pt) iter wi)
 (he:∀(C:qd)(s:Shared)(H:Hp)(f:qa qd),PE (Yo X scope C (x::y::w::fr.map (·.2)) s H f) elt te)
 (hs:∀z,foldedSetIterable iter X.env z=pure z) (I:Inv X pins σ H s) (h:LS X.K wi fr te σ H Q)
 (hfin:∀(D C:qd)(H':Hp)(s':Shared)(m:qc->Option qe),Inv X pins σ H' s'->s'.heap.Ns C m->EY X pins H' C->Q (.ref D) H'->compPost (model X.prog X.w) X.A X.xe use Q' (.ref D) C (.ok .next) s') :
 wpAny (model X.prog X.w) X.A (comprehension (.ListComp elt [⟨.Tuple [.Name x px,.Name y py,.Name w pz] kt pt,iter,[],0⟩] scope pos) scope X.env pos' (newList []) false (eval iter X.env) use) Q' X.xe s:=by
 have wx:∀y,scope.names.lookup y=some .free->X.env.kindOf y=some .cell\/X.env.kindOf y=some .free:=λy Z=>by
  show X.env.scope.names.lookup y=_\/X.env.scope.names.lookup y=_;rw[hsc];exact S.free (y,.free) (zK Z) rfl
 have gj:∀y∈scope.names,y.2=.free->X.env.kindOf y.1=some .cell\/X.env.kindOf y.1=some .free:=λy Z hf=>by
  show X.env.scope.names.lookup y.1=_\/X.env.scope.names.lookup y.1=_;rw[hsc];exact S.free y Z hf
 have hkc:∀y∈scope.names,y.2=.free->∃c,X.env.cells.lookup y.1=some c:=λy Z hf=>I.ok.has y.1 (gj y Z hf);refine vx (use:=use) rfl hs (Vp hkc) S.kind S.names ?_;refine z5 (hi pins s σ H _ I h) λxv s1 h1=>z5 h1 λitv s2 h2=>?_;obtain⟨it,f,tn,J,H2,rfl,A,T,st2,f2,q2⟩:=h2;refine zr (wV S.xj (by intro y Z;simp at Z) (λE g j=>?_) S.kind);dsimp only at g j⊢;have B:Inv X pins σ (upd H2 s2.heap.objs.size (.lst [])) {s2 with heap:=s2.heap.push {cls:=.type "list",data:=.seq ([]:qi).toArray}}:=
  A.wa (its:=[]) (t':=s2.toks) .nil (za _)
 unfold XZ at q2;obtain⟨W,⟨m0,w0⟩,turn⟩:=q2 s2.heap.objs.size (A.hok.fresh (qz _));generalize hG:s2.heap.push {cls:=.type "list",dict:=none,data:=.seq ([]:qi).toArray}=G at g j B⊢;generalize hD:s2.heap.objs.size=D at B turn w0⊢;generalize hH3:upd H2 D (.lst [])=R at B w0;have ur:∀b o,G.get? b=some o->b≠G.objs.size:=λb o e=>qR (qM e);have old:∀b o,G.get? b=some o->E.get? b=some o:=λb o e=>(j.2 b (ur b o e)).trans (qr _ e);have F:∀b o,s2.heap.get? b=some o->G.get? b=some o:=λb o e=>by rw[<-hG];exact qr _ e
 have gV:∀b∈f,b<G.objs.size:=λb a=>by
  obtain⟨o,e,_⟩:=T.obj _ _ st2 b a;exact qM (F b o e)
 have sub:∀{y:qc}{c:qd},(Ud X.env.cells scope.names []).lookup y=some c->X.env.cells.lookup y=some c:=λ{y c} e=>by
  rcases VT _ _ e with z|z
  .exact z
  .simp at z
 have t:∀b∈f,(b∈X.ex\/X.s₀.heap.objs.size<=b)/\b≠X.env.locals/\(∀x c,X.env.cells.lookup x=some c->c≠b)/\∀p∈X.pn++pins,p.1≠b:=λb a=>
  ⟨(f2 b a).2.2.2.1,(f2 b a).2.1,(f2 b a).2.2.2.2.1,(f2 b a).2.2.2.2.2⟩
 have hCL:G.objs.size≠X.env.locals:=jZ B.lt;have hC1:X.s₀.heap.objs.size<=G.objs.size:=B.sz;have hC2:∀x c,X.env.cells.lookup x=some c->c≠G.objs.size:=λx c e=>by
  obtain⟨v,o,P,_⟩:=B.cell x c e;exact ur c o P
 have hC3:∀p∈X.pn++pins,p.1≠G.objs.size:=λp hp=>ur p.1 p.2 (B.pin p hp).1;have gh:(Yo X scope G.objs.size (x::y::w::fr.map (·.2)) {s2 with heap:=G} R f).Ok:=by
  refine⟨A.ok.mod,S.kind,A.ok.glob,A.ok.blt,qz _,λy z c e1 M=>A.ok.inj y z c (sub e1) (sub M),λy Z=>?_,λy c z=>Bool.noConfusion z,A.ok.hd,A.ok.frames,.inl rfl,λb a=>⟨qR (gV b a),λy c e=>(t b a).2.2.1 y c (sub e)⟩,
   λb o e=>B.bs b o e,zb A.ok.vF B.sz,λb o e a=>?_,λb a hf=>?_,B.stack,B.xQ⟩
  .have m:=VN S.xj Z;exact Uc _ _ m (hkc _ m rfl)
  .rcases (t b a).1 with z|z
   .exact A.ok.va b o e z
   .exact absurd (qU (qM e) (zb A.ok.vF z)) (zQ _)
  .rcases qC.mp (A.kh b hf) with z|z
   .exact(t b a).2.1 z
   .exact(f2 b a).2.2.1 z
 have I4:∀tk:Nat,Inv (Yo X scope G.objs.size (x::y::w::fr.map (·.2)) {s2 with heap:=G} R f) [] (none::none::none::yx σ fr) R {s2 with heap:=E,toks:=tk}:=λtk=>by
  refine⟨gh,U,A.bare,Un.kept old,⟨_,g,λi y v e1 M _=>?_⟩,λy c e=>?_,B.hok.fresh (qz _),λy c e=>B.jR y c (sub e),λp hp=>absurd (show p∈([]:qa (qd×Obj)) from hp) (by simp),B.hok.kept old,?_⟩
  .cases i with
   |zero=>simp at M
   |succ i=>cases i with
    |zero=>simp at M
    |succ i=>cases i with
     |zero=>simp at M
     |succ i=>
      have K:(fr.map (·.2))[i]?=some y:=e1;have L:(fr.map λp=>(σ[p.1]?).join)[i]?=some (some v):=M;rw[qQ] at K L
      cases hp:fr[i]? with
      |none=>rw[hp] at K;cases K
      |some p=>
       rw[hp] at K L;have ey:p.2=y:=qW K;have ev:(σ[p.1]?).join=some v:=qW L;have ev':σ[p.1]?=some (some v):=by
        cases q:σ[p.1]? with
        |none=>rw[q] at ev;cases ev
        |some o=>rw[q] at ev;simp only[Option.join] at ev;exact zt some ev
       have hf:=S.frk p (zv hp);rw[ey] at hf;have O:=wx y hf.2;obtain⟨m,_,hl⟩:=A.loc;obtain⟨u,ru,l⟩:=hl p.1 y v (by rw[hN];exact hf.1) ev' (.inr O);refine⟨u,ru,.inr ⟨Y1 hf.2,?_⟩⟩;rcases l with⟨k,_⟩|⟨_,c,e,z⟩
       .rcases O with O|O
        .rw[O] at k;cases k
        .rw[O] at k;cases k
       .obtain⟨c',ec⟩:=Uc (cells:=X.env.cells) scope.names [] (zK hf.2) ⟨c,e⟩;have:=sub ec;rw[e] at this;cases this;obtain⟨o,P,hd⟩:=z;exact⟨c,ec,o,old c o (F c o P),hd⟩
  .obtain⟨v,o,P,hd⟩:=A.cell y c (sub e);exact⟨v,o,old c o (F c o P),hd⟩
  .show(none::none::none::yx σ fr).length=(x::y::w::fr.map (·.2)).length;simp[yx]
 have K:(Yo X scope G.objs.size (x::y::w::fr.map (·.2)) {s2 with heap:=G} R f).env.scope.names.lookup y=some .local:=jU S.uw;have L:(Yo X scope G.objs.size (x::y::w::fr.map (·.2)) {s2 with heap:=G} R f).env.scope.names.lookup x=some .local:=jU S.loc;have M:(Yo X scope G.objs.size (x::y::w::fr.map (·.2)) {s2 with heap:=G} R f).env.scope.names.lookup w=some .local:=jU S.loc3;generalize O:Yo X scope G.objs.size (x::y::w::fr.map (·.2)) {s2 with heap:=G} R f=Y at I4 L K M;have eP:Y.prog=X.prog:=by rw[<-O];rfl
 have eW:Y.w=X.w:=by rw[<-O];rfl
 have eK:Y.K=X.K:=by rw[<-O];rfl
 have eA:Y.A=X.A:=by rw[<-O];rfl
 have eC:Y.calm=true:=by rw[<-O];exact hc
 have eE:Y.env=compEnvC scope (Ud X.env.cells scope.names []) G.objs.size X.env:=by rw[<-O];rfl
 have eN:Y.N=x::y::w::fr.map (·.2):=by rw[<-O];rfl
 have eX:Y.xe=λ_ _=>False:=by rw[<-O];rfl
 have eB:∀{σ':St}{H':Hp}{s':Shared}{P:qa (qd×Obj)},Inv Y P σ' H' s'->s'.os=s2.os/\Un (frs X.stack) f R H' G s'.heap:=λ{σ' H' s' P} J=>by
  subst O;exact⟨J.os,J.base⟩
 have hE:=he G.objs.size {s2 with heap:=G} R f;rw[O] at hE;have gn:∀{H':Hp},(∀b∈f,H' b=none)->∀b∈f,X5 Y [] H' b:=λ{H'} hn b a=>by
  subst O;refine⟨hn b a,qR (gV b a),gh.vb b a,.inl a,λy c e=>(gh.wM b a).2 y c e,λp hp=>absurd (show p∈([]:qa (qd×Obj)) from hp) (by simp)⟩
 have loop:∀s3:Shared,(∃tk,s3={s2 with heap:=E,toks:=tk}) ->
  codeAny (model X.prog X.w) X.A (.compLoop (.ListComp elt [⟨.Tuple [.Name x px,.Name y py,.Name w pz] kt pt,iter,[],0⟩] scope pos) 0 (.ref it) (.ref D) Y.env)
   (compPost (model X.prog X.w) X.A X.xe use Q' (.ref D) G.objs.size) s3:=by
  rintro s3 ⟨tk,rfl⟩;refine LCp.codeAny_compLoop_pair (λn s'=>∃i ys o o' o3 H',Inv Y [] (o::o'::o3::yx σ fr) H' s'/\tn i s'.heap/\(∀b∈f,H' b=none)/\W i n ys H') ?_ m0
   ⟨0,[],none,none,none,R,I4 tk,T.keep _ _ _ st2 λb a o e=>old b o (F b o e),λb a=>?_,w0⟩
  .rintro n s' ⟨i,ys,o,o',o3,H',J',st',fr',w'⟩;obtain⟨hD',hgo⟩:=turn i n ys H' w';rcases hgo with⟨stop,qn⟩|⟨go,step⟩
   .have Q1:=T.done Y eP eW eK eC i [] s' (o::o'::o3::yx σ fr) H' (notedBy (model X.prog X.w) X.A Y.env λe s''=>compPost (model X.prog X.w) X.A X.xe use Q' (.ref D) G.objs.size (.error e) s'') J' (gn fr') st' stop;rw[eA] at Q1;refine z5 Q1 λr s4 ⟨hr,J4⟩=>?_;subst hr;obtain⟨m,hn,_⟩:=J4.loc;rw[eE] at hn;obtain⟨os4,u4⟩:=eB J4;have vT:H' G.objs.size=none:=by have:=J4.free;rw[eE] at this;exact this
    have gm:yK X.prog X.w H' s4.heap:=by have:=J4.hok;rw[eP,eW] at this;exact this
    exact hfin D G.objs.size H' s4 m (B.call' (ch:=f) (s':=s4) os4 u4 gm J4.bare t) hn ⟨vT,hCL,.inr hC1,hC2,hC3⟩ qn
   .have Q1:=T.item Y eP eW eK eC i [] s' (o::o'::o3::yx σ fr) H' (notedBy (model X.prog X.w) X.A Y.env λe s''=>compPost (model X.prog X.w) X.A X.xe use Q' (.ref D) G.objs.size (.error e) s'') J' (gn fr') st' go;rw[eA] at Q1;refine z5 Q1 λr s4 ⟨u,hr,h4⟩=>?_;subst hr;refine z5 h4 λ_ s5 ⟨v,H5,J5,r5,y5,w5,fr5⟩=>?_;have J5':=J5.pinned (gn fr5) (T.obj _ _ w5);obtain⟨p5,v1,v2,v3,ev5,hp5,w4⟩:=step v _ y5;have N5:Y.N.Nodup:=by rw[eN];exact S.nd
    have P1:PG Y (.Name x px) (Q8 0):=Yc (X:=Y) (i:=0) (x:=x) (pos:=px) N5 (by rw[eN];rfl) (.inl L) (.inr L);have P2:PG Y (.Name y py) (Q8 1):=Yc (X:=Y) (i:=1) (x:=y) (pos:=py) N5 (by rw[eN];rfl) (.inl K) (.inr K);have P3:PG Y (.Name w pz) (Q8 2):=Yc (X:=Y) (i:=2) (x:=w) (pos:=pz) N5 (by rw[eN];rfl) (.inl M) (.inr M);have PT:PG Y (.Tuple [.Name x px,.Name y py,.Name w pz] kt pt) (Tz Y.K 3 (A0 (Q8 0) (A0 (Q8 1) (A0 (Q8 2) TB)))):=Ee eC (U4 P1 (U4 P2 (U4 P3 Bs)));have G5:=PT ([]++Vm f s5.heap) s5 (o::o'::o3::yx σ fr) H5 v u (λσ6 H6=>σ6=some v1::some v2::some v3::yx σ fr/\H6=H5) J5' r5 ⟨p5,[v1,v2,v3],ev5,by rw[eK];exact hp5,U,v1,[v2,v3],U,v2,[v3],U,v3,[],U,U,U,U⟩;rw[eP,eW,eA,eX] at G5;refine zy G5 (λ_ s6 ⟨σ6,H6,J6,e6,e6'⟩=>?_) λ_ _ z=>z.elim;subst e6 e6';have again:∀{s7:Shared}{H7:Hp}{zs:qa V},Inv Y ([]++Vm f s5.heap) (some v1::some v2::some v3::yx σ fr) H7 s7->(∃m',m'<n/\W (i+1) m' zs H7)->∃m,m<n/\∃i ys o o' o3 H',Inv Y [] (o::o'::o3::yx σ fr) H' s7/\tn i s7.heap/\(∀b∈f,H' b=none)/\W i m ys H':=λ{s7 H7 zs} J7 ⟨m',hm,w7⟩=>by
     refine⟨m',hm,i+1,zs,some v1,some v2,some v3,H7,J7.yS,T.keep _ _ _ w5 λb a o e=>(J7.pin (b,o) (qy _ (qy _ (YO a e)))).1,λb a=>?_,w7⟩;obtain⟨o,e,d⟩:=T.obj _ _ w5 b a;exact(J7.pin (b,o) (qy _ (qy _ (YO a e)))).2.1
    have E7:=hE _ s6 _ _ _ J6 w4;rw[eP,eW,eA,eX] at E7;refine zy E7 (λu8 s8 ⟨y8,H8,J8,r8,hD8,hz8,w8⟩=>?_) λ_ _ z=>z.elim;have A8:=YL (X:=Y) _ s8 _ H8 (.ref D) [y8] (.ref D) [u8] (λz H9=>H9=upd H8 D (.lst (ys++[y8]))) J8 rfl (.cons r8 .nil) ⟨D,ys,y8,U,U,hD8,hz8,U⟩;rw[eP,eW,eA,eX] at A8;refine zy A8 (λ_ s9 ⟨z9,H9,J9,_,e9⟩=>?_) λ_ _ z=>z.elim;subst e9;exact again J9 w8
  .rw[<-hH3];have hbD:b≠D:=by
    rw[<-hD];obtain⟨o,e,_⟩:=T.obj _ _ st2 b a;exact qR (qM e)
   rw[Qa hbD];exact(f2 b a).1
 rw[eE] at loop;exact vZ (loop _ ⟨_,U⟩) (T.self _ 0 _ _ _ (T.keep _ _ _ st2 λb a o e=>old b o (F b o e)) (loop _ ⟨_,U⟩))
theorem MW{X:Cx}{x y c:qc}{g py i pt:Pos}{kt:Nat}{iter elt:Expr}{scope sc:Scope}{pos:Pos}{N:qg}{fr:qa (Nat×qc)}{j:TI}{k:TE}
 (S:G7 sc scope N x y c fr) (d:X.env.scope=sc) (hN:X.N=N) (hc:X.calm=true) (l:PI X (.Tuple [.Name x g,.Name y py,.Name c i] kt pt) iter j)
 (he:∀(C:qd)(s:Shared)(H:Hp)(n:qa qd),PE (Yo X scope C (x::y::c::fr.map (·.2)) s H n) elt k)
 (p:∀z,foldedSetIterable iter X.env z=pure z:=by intro _;rfl) :
 PE X (.ListComp elt [⟨.Tuple [.Name x g,.Name y py,.Name c i] kt pt,iter,[],0⟩] scope pos) (LS X.K j fr k):=by
 intro pins s σ H Q I h;rw[eval_ListComp];refine Lp (use:=none) S d hN hc l he p I h λD C H' s' m J r a q=>?_;exact⟨m,r,λh' f=>⟨.ref D,H',J.turned (t':=s'.toks) (λb o t e=>(f.2 b t).trans e) a.hn a.hL a.h1 a.h2 a.h3,U,q⟩⟩
end L2
variable {i:Nat}{r:qd}{ks:qg}
namespace K61
open PySem L2
abbrev ZZ:qc:="inbox"
abbrev ZJ:qc:="put"
abbrev Za:qc:="folders"
abbrev Zb:qc:="facts"
abbrev Zc:qc:="letters"
abbrev Zd:qc:="boxes"
abbrev Ze:qc:="entries"
abbrev Zf:qc:="ledger"
abbrev Zg:qc:="mark"
abbrev Zh:qc:="folder"
abbrev Zi:qc:="hand"
abbrev Zj:qc:="links"
abbrev Zk:qc:="drop"
abbrev Zl:qc:="meet"
abbrev Zm:qc:="tell"
abbrev Zn:qc:="bearers"
abbrev Zo:qc:="replies"
abbrev Zp:qc:="place"
abbrev Zq:qc:="shelves"
abbrev Zr:qc:="tags"
abbrev Zs:qc:="hung"
abbrev Zt:qc:="listed"
abbrev Zu:qc:="abcdefgh"
abbrev Zv:qc:="inside"
abbrev Zw:qc:="board"
abbrev Zx:qc:="drawers"
abbrev Zy:qc:="threads"
abbrev Zz:qc:="a1"
abbrev ZA:qc:="ruling"
abbrev ZC:qc:="thread"
abbrev jk:=Nat->qd
abbrev nn(i:Nat):qg:=nmO (tb i)
theorem Sx:∀t∈tab,scO (nmO t) t.2.1=true:=by decide +kernel
theorem RC{i:Nat}(h:i<93):tb i∈tab:=by unfold tb;rw[qZ,qv (show i<tab.length from h)];exact zu _
theorem sc(i:Nat)(h:i<93:=by decide):UL (nn i) (km (sO i)) (Qr (sO i)):=bb (Sx _ (RC h))
noncomputable def ag(K:Frag)(mg:qc->Option qe)(a:jk)(f:Fc):Prop:=Fc.rec (motive:=λ_=>Prop) (λx i=>mg x=some (.ref (a i))) (λx v=>∃u,mg x=some u/\QJ v u) (λx ys=>∃p,mg x=some (.ref p)/\∀H,jj K H p (ys.map V.str)) (λx ys=>∃p,mg x=some (.ref p)/\gN K p ys) (λi x j=>XM K (a i) x (a j)) (λx=>mg x=none) (λi=>wg K (a i)) (λi j=>Mk K (a i) (a j)) (λi x j=>DS K (a i) x (a j)) (λi x=>Ww K (a i) x) (λi=>Xcl K (a i)) (λi j=>mroIn K (a i) (a j)=true) True f
noncomputable def nF(l:qa Fc):Nat->Fc:=List.rec (motive:=λ_=>Nat->Fc) (λ_=>.z) (λp _ a n=>Nat.rec (motive:=λ_=>Fc) p (λm _=>a m) n) l
structure Txt(P:Program)(w:World)(K:Frag)(mg:qc->Option qe)(base:Heap)(a:jk)(fd:Nat->FuncData):Prop where
 h:∀i,ag K mg a (nF fx i)
 m:∀(i:Nat)(_:i<32:=by decide),mg (v8 (sO i))=some (.ref (a i))
 F:∀(i:Nat)(_:i<87:=by decide),vK K (v8 (sO i)) (qN (tb i)) (sO i) (a i) (fd i)
 D:∀(i:Nat)(_:i<93:=by decide)(_:87<=i:=by decide),BU K (v8 (sO i)) (qN (tb i)) (sO i) (a i) (fd i)
 B:∀(i:Nat)(_:i<93:=by decide),Yy K (fd i) (km (sO i)) []
 d87_0:∃ds,QB [.str ""] ds/\Yy K (fd 87) (km (sO 87)) ds
 d88_0:∃ds,QB [.str ZZ,.non] ds/\Yy K (fd 88) (km (sO 88)) ds
 d88_1:∃ds,QB [.non] ds/\Yy K (fd 88) (km (sO 88)) ds
 d89_0:∃ds,QB [.str ZZ,.non] ds/\Yy K (fd 89) (km (sO 89)) ds
 d89_1:∃ds,QB [.non] ds/\Yy K (fd 89) (km (sO 89)) ds
 gX:∃ds,QB [.non] ds/\Yy K (fd 90) (km (sO 90)) ds
 d91_0:∃ds,QB [.str ""] ds/\Yy K (fd 91) (km (sO 91)) ds
 d92_0:∃ds,QB [.str ""] ds/\Yy K (fd 92) (km (sO 92)) ds
section Z
variable {fd:Nat->FuncData}{P:Program}{w:World}{K:Frag}{mg:qc->Option qe}{base:Heap}{a:jk}
instance:CoeFun (Txt P w K mg base a fd) (λ_=>∀i,ag K mg a (nF fx i)):=⟨Txt.h⟩
abbrev Txt.k(_:Txt P w K mg base a fd)(C:wC)(n i:Nat)(sp:Sp):Prop:=U1 P w K mg base C n (a i) (fd i) (km (sO i)) sp
abbrev Txt.kU(_:Txt P w K mg base a fd)(n i:Nat)(sp:Sp):Prop:=DV P w K mg base n (a i) (fd i) (km (sO i)) sp
abbrev Txt.cx(_:Txt P w K mg base a fd)(i:Nat)(b:qe)(A:Around)(outer:qa Env)(s:Shared)(H:Hp)(E:XK):Cx:=(Uw jg P w K mg base (nn i) (qN (tb i)) (Qr (sO i)) (a i) b A outer s H E).uk
theorem Txt.ok(T:Txt P w K mg base a fd)(i:Nat){k:Nat}{sp:Sp}(b:∀(c:qe)(A:Around)(outer:qa Env)(s:Shared)(H:Hp)(vs:qa V)(Q:VK)(E:XK),Yf k (A.deeper (envOfC (qN (tb i)) (Qr (sO i)) s.heap.objs.size (a i) c))->sp vs H Q E->∃t,yU (T.cx i c A outer s H E) (QO (sO i)) t/\t {nx:=λ_ H'=>Q .non H',rt:=Q} (start (nn i) vs) H)(len:∀vs H Q E,sp vs H Q E->vs.length=(km (sO i)).length:=by intro _ _ _ _ h;cases h<;>subst_vars<;>rfl)(h:i<87:=by decide):T.k jg (k+1) i sp:=(T.F i h).ok (sc i (qU h ∅)) b len
variable {X:Cx}{CX:wC}{i k:Nat}{sp:Sp}{E:XK}{x m:qc}{p pos apos:Pos}{e o:Expr}{es:qa Expr}{ta:TE}{t:TA}{C:qd}{pl:Sem Bool}
theorem Txt.cl(T:Txt P w K mg base a fd)(G:U1 P w K mg base jg k (a i) (fd i) (km (sO i)) sp)(f:PA X (e::es) t)(g:HZ X P w K mg base:=by exact⟨U,U,U,U,U⟩)(h:Yf k X.A:=by exact Yf.up (by assumption))(j:Gl X x:=by rfl)(l:v8 (sO i)=x:=by rfl)(b:i<32:=by decide)(c:(x==("__debug__":qc))=false:=by decide)(he:starEach (e::es) X.env=(false,eval e X.env)::starEach es X.env:=by rfl)(d:(backTo pos (starEach es X.env)).any (·.1)=false:=by rfl):PE X (.Call (.Name x p) (e::es) [] pos) (RG sp [] E0 t):=by
 obtain⟨rfl,rfl,rfl,rfl,rfl⟩:=g;exact Ky G h j (by rw[<-l];exact T.m i b) (T.F i (qU b ∅)).kp (T.B i (qU b ∅)) .nil UN f c he d
theorem Txt.me(T:Txt P w K mg base a fd)(g:PE X o ta)(c:wg K C)(hm:DS K C m (a i))(G:U1 P w K mg base jg k (a i) (fd i) (km (sO i)) sp)(h:PA X (e::es) t)(j:HZ X P w K mg base:=by exact⟨U,U,U,U,U⟩)(l:Yf k X.A:=by exact Yf.up (by assumption))(n:i<93:=by decide)(he:starEach (e::es) X.env=(false,eval e X.env)::starEach es X.env:=by rfl)(b:(backTo pos (starEach es X.env)).any (·.1)=false:=by rfl)
 (p:eval (.Call (.Attribute o m apos) (e::es) [] pos) X.env=(do
   let d <-eval o X.env
   standAt apos.atName
   let (f,first) <-holding [d] (getMethod d m pl)
   callWith pos f first (backTo pos (starEach (e::es) X.env)) (backToKw pos (keywordEach [] X.env))):=by rfl):PE X (.Call (.Attribute o m apos) (e::es) [] pos) (Fd C m sp [] E0 ta t):=by
 obtain⟨rfl,rfl,rfl,rfl,rfl⟩:=j;exact Kv (pl:=pl) g c hm G l (T.B i n) .nil UN h he b p
theorem Txt.mn(T:Txt P w K mg base a fd)(d:PE X o ta)(c:wg K C)(hm:DS K C m (a i))(G:U1 P w K mg base jg k (a i) (fd i) (km (sO i)) sp)(e:HZ X P w K mg base:=by exact⟨U,U,U,U,U⟩)(g:Yf k X.A:=by exact Yf.up (by assumption))(h:i<93:=by decide)
 (j:eval (.Call (.Attribute o m apos) [] [] pos) X.env=(do
   let b <-eval o X.env
   standAt apos.atName
   let (f,first) <-holding [b] (getMethod b m pl)
   callWith pos f first (backTo pos (starEach [] X.env)) (backToKw pos (keywordEach [] X.env))):=by rfl):PE X (.Call (.Attribute o m apos) [] [] pos) (Fd C m sp [] E0 ta Il):=by
 obtain⟨rfl,rfl,rfl,rfl,rfl⟩:=e;exact CT (pl:=pl) d c hm G g (T.B i h) .nil UN j
theorem Txt.ma(T:Txt P w K mg base a fd)(M:Mk K C (a i))(hm:mg x=some (.ref C))(G:U1 P w K mg base jg k (a i) (fd i) (km (sO i)) sp)(d:PA X (e::es) t)(f:HZ X P w K mg base:=by exact⟨U,U,U,U,U⟩)(g:Yf (k+1) X.A:=by exact Yf.up (by assumption))(h:Gl X x:=by rfl)(j:i<93:=by decide)(b:(x==("__debug__":qc))=false:=by decide)(he:starEach (e::es) X.env=(false,eval e X.env)::starEach es X.env:=by rfl)(c:(backTo pos (starEach es X.env)).any (·.1)=false:=by rfl):PE X (.Call (.Name x p) (e::es) [] pos) (LP C sp [] E0 t):=by
 obtain⟨rfl,rfl,rfl,rfl,rfl⟩:=f;exact Hq M G g h hm (T.B i j) .nil UN d b he c
end Z
variable {P:Program}{w:World}{K:Frag}{mg:qc->Option qe}{base:Heap}{a:jk}{fd:Nat->FuncData}{i j n:Nat}{an f h hd r s t x y:qc}{cs xs:qa V}{v:V}{bf mk:qc->qg}{M N W WI gs ws ys:qg}{H H' H1:Hp}{B D E L T1 c db dx l p u xf xi xr xt:qd}{bs mr tg:qa (qc×qd)}{d:Int}{F:qa qd}{o:HO}{bx rows:Rows}{kr:qa (Key×V)}{kd:qa (qa Key×V)}{own:qd->Nat}{Q:VK}{σ:St}
inductive Cf(vs:qa V)(H:Hp)(Q:VK)(E:XK):Prop
 |mk:∀(nm:qc)(L:qd)(kvs:qa (Key×V))(v:V),vs=[.str nm,.ref L]->H L=some (.dK kvs)->Qy kvs (Sum.inr nm)=some v->Q .non H->Cf vs H Q E
inductive Mb(vs:qa V)(H:Hp)(Q:VK)(E:XK):Prop
 |mk:∀(nm:qc)(L:qd)(kvs:qa (Key×V)),vs=[.str nm,.ref L]->H L=some (.dK kvs)->Qy kvs (Sum.inr nm)=none->Q .non H->Mb vs H Q E
theorem Kh :kitOne K (.type "str") (.type "str")=some true:=by unfold kitOne;rw[qP (z8 _)]
theorem Y5(T:Txt P w K mg base a fd):T.k jg 1 14 Cf:=by
 refine T.ok 14 (λb A outer st H vs Q E c h=>?_)
 .obtain⟨nm,L,d,v,rfl,e,f,k⟩:=h;have g:=Yx c;refine⟨_,(Qe (QG (Y0 (Ug g (pv 0) (pv 1))) (Qe Yw) Qq)),?_⟩;refine⟨_,U,_,U,L,_,U,Yg.k (k:=Sum.inr nm) e,_,U,?_⟩;rw[f];exact QC k
theorem Em(T:Txt P w K mg base a fd):T.k jg 1 15 Mb:=by
 refine T.ok 15 (λb A outer st H vs Q E c h=>?_)
 .obtain⟨nm,L,d,rfl,e,f,k⟩:=h;have g:=Yx c;refine⟨_,(Qe (QG (PW.pt (Vh (Yl (Yk (Qs QR rfl (T 6) boot_isinstance (zj (pv 0) (zj (YF (v:=.ty "str") rfl (T 9) boot_str rfl) Qg))))) (UQ (Y0 (W4 g (pv 0) (pv 1)))))) (Qe Yw) Qq)),?_⟩;refine⟨_,U,_,_,_,_,_,U,U,Vd.str nm,Kh,_,U,QC ?_⟩;refine⟨_,U,_,U,L,_,U,Yg.k (k:=Sum.inr nm) e,_,U,?_⟩;rw[f];exact QC k
section
variable {α:Type}
def dG(f:α->qc)(g:α->V)(xs:qa α):qa (Key×V):=xs.map λr=>(Sum.inr (f r),g r)
theorem UJ{f:α->qc}{g:α->V}{n:qc}:∀{xs:qa α},¬n∈xs.map f->Qy (dG f g xs) (Sum.inr n)=none
 |[],_=>rfl
 |r::xs,h=>by
  show Qy ((Sum.inr (f r),g r)::dG f g xs) (Sum.inr n)=_;rw[Yj λe=>h (by rw[<-jD e];exact qB)];exact UJ λz=>h (qK _ z)
theorem Q9{f:α->qc}{g:α->V}{r:α}:∀{xs:qa α},(xs.map f).Nodup->r∈xs->Qy (dG f g xs) (Sum.inr (f r))=some (g r)
 |[],_,h=>nomatch h
 |y::xs,a,h=>by
  rw[zf,zV] at a;show Qy ((Sum.inr (f y),g y)::dG f g xs) (Sum.inr (f r))=_;rcases qC.mp h with rfl|h
  .exact Yq rfl
  .rw[Yj λe=>a.1 (by rw[jD e];exact qw.mpr ⟨r,h,U⟩)];exact Q9 a.2 h
theorem GV{f:α->qc}{g:α->V}{xs:qa α}{n:qc}(r:α)(h:¬n∈xs.map f)(a:f r=n)(b:g r=v):Ye (dG f g xs) (Sum.inr n) v=dG f g (xs++[r]):=by
 rw[Xg _ (UJ h)];simp[dG,a,b]
theorem VS(f:α->qc)(g:α->V)(n:qc):∀xs:qa α,YR (dG f g xs) (Sum.inr n)=dG f g (xs.filter λr=>decide (f r≠n))
 |[]=>rfl
 |r::xs=>by
  show YR ((Sum.inr (f r),g r)::dG f g xs) (Sum.inr n)=_;by_cases h:f r=n
  .rw[XW (by rw[h]),VS f g n xs];simp[zk,h]
  .rw[XX (λe=>h (jD e)),VS f g n xs];simp[zk,h,dG]
theorem GW(f:α->qc)(g:α->V)(xs:qa α):(dG f g xs).length=xs.length:=ql _
theorem Rp(f:α->qc)(g:α->V)(xs:qa α):(dG f g xs).map (λa=>kV a.1)=(xs.map f).map V.str:=by
 unfold dG;rw[zg,zg];rfl
end
def YS(bf:qc->qg)(w:qc)(ys:qg):qc->qg:=λt=>if t=w then ys else bf t
theorem Yv(bf:qc->qg)(w:qc)(ys:qg):YS bf w ys w=ys:=qP rfl
theorem YE{w:qc}(h:t≠w):YS bf w ys t=bf t:=qJ h
abbrev yz(bs:qa (qc×qd)):qa (Key×V):=dG (·.1) (λb=>V.ref b.2) bs
structure BD(H:Hp)(E B:qd)(bs:qa (qc×qd))(bf:qc->qg)(W:qg):Prop where
 nd:(bs.map (·.1)).Nodup
 wH:(bs.map (·.2)).Nodup
 at_:∀p∈bs,H p.2=some (.dK (Qo (bf p.1)))/\p.2≠E/\p.2≠B/\bf p.1≠[]/\p.1∈W
 ko:∀t,¬t∈bs.map (·.1)->bf t=[]
theorem BD.len(h:BD H E B bs bf W):bs.length<=W.length:=by
 have:=Ut h.nd λm hm=>by
  obtain⟨p,a,rfl⟩:=qw.mp hm;exact(h.at_ p a).2.2.2.2
 rw[ql] at this;exact this
theorem BD.congr{a:qc->qg}(h:BD H E B bs bf W)(k:∀p∈bs,∀o,H p.2=some o->H' p.2=some o)(e:∀t,a t=bf t):BD H' E B bs a W:=
 ⟨h.nd,h.wH,λp b=>by rw[e];exact⟨k p b _ (h.at_ p b).1,(h.at_ p b).2⟩,λt c=>by rw[e];exact h.ko t c⟩
theorem U7{α β:Type}{f:α->β}{xs:qa α}(g:(xs.map f).Nodup){a b:α}(h:a∈xs)(i:b∈xs)(e:f a=f b):a=b:=by
 induction xs with
 |nil=>cases h
 |cons x xs j=>
  rw[zf,zV] at g;rcases qC.mp h with d|d
  .rcases qC.mp i with c|c
   .rw[d,c]
   .exact absurd (qw.mpr ⟨b,c,by rw[<-e,d]⟩) g.1
  .rcases qC.mp i with c|c
   .exact absurd (qw.mpr ⟨a,d,by rw[e,c]⟩) g.1
   .exact j g.2 d c
theorem YC{α:Type}{xs:qa α}{a:α}(h:xs.Nodup)(n:¬a∈xs):(xs++[a]).Nodup:=by
 rw[yh];exact⟨h,yI _ _,λx b y c e=>n (by rw[qt.mp c] at e;rw[<-e];exact b)⟩
theorem BD.new{w:qc}(h:BD H E B bs bf W)(hw:¬w∈bs.map (·.1))(b:¬p∈bs.map (·.2))(c:p≠E)(d:p≠B)(f:w∈W)(g:ys≠[])
 (k:∀q∈bs,∀o,H q.2=some o->H' q.2=some o) (e:H' p=some (.dK (Qo ys))):BD H' E B (bs++[(w,p)]) (YS bf w ys) W:=by
 refine⟨by rw[qE];exact YC h.nd hw,by rw[qE];exact YC h.wH b,λq i=>?_,λt a=>?_⟩
 .rcases qF.mp i with z|z
  .rw[YE (λe=>hw (by rw[<-e];exact qw.mpr ⟨q,z,U⟩))];exact⟨k q z _ (h.at_ q z).1,(h.at_ q z).2⟩
  .rw[qt.mp z];show H' p=some (.dK (Qo (YS bf w ys w)))/\p≠E/\p≠B/\YS bf w ys w≠[]/\w∈W;rw[Yv];exact⟨e,c,d,g,f⟩
 .rw[qE] at a;rw[YE (λe=>a (qy _ (by rw[e];exact qB)))];exact h.ko t λz=>a (qS _ z)
theorem BD.set{d:qd}{w:qc}(h:BD H E B bs bf W)(hw:(w,d)∈bs)(c:ys≠[])
 (k:∀q∈bs,q.2≠d->∀o,H q.2=some o->H' q.2=some o) (e:H' d=some (.dK (Qo ys))):BD H' E B bs (YS bf w ys) W:=by
 refine⟨h.nd,h.wH,λq a=>?_,λt b=>?_⟩
 .by_cases z:q.1=w
  .have eq:q=(w,d):=U7 h.nd a hw z;rw[eq];show H' d=some (.dK (Qo (YS bf w ys w)))/\d≠E/\d≠B/\YS bf w ys w≠[]/\w∈W;rw[Yv];have:=h.at_ _ hw;exact⟨e,this.2.1,this.2.2.1,c,this.2.2.2.2⟩
  .rw[YE z];refine⟨k q a (λu=>z ?_) _ (h.at_ q a).1,(h.at_ q a).2⟩;have:q=(w,d):=U7 h.wH a hw u;rw[this]
 .rw[YE (λe=>b (by rw[e];exact qw.mpr ⟨_,hw,U⟩))];exact h.ko t b
theorem BD.del{d:qd}{w:qc}(h:BD H E B bs bf W)(hw:(w,d)∈bs)
 (k:∀q∈bs,q.2≠d->∀o,H q.2=some o->H' q.2=some o):BD H' E B (bs.filter λr=>decide (r.1≠w)) (YS bf w []) W:=by
 refine⟨h.nd.sublist (jn.map _),h.wH.sublist (jn.map _),λq b=>?_,λt c=>?_⟩
 .obtain⟨a,f⟩:=qX.mp b;have z:q.1≠w:=qH f;rw[YE z];refine⟨k q a (λu=>z ?_) _ (h.at_ q a).1,(h.at_ q a).2⟩;have:q=(w,d):=U7 h.wH a hw u;rw[this]
 .by_cases e:t=w
  .rw[e,Yv]
  .rw[YE e];refine h.ko t λz=>c ?_;obtain⟨q,b,rfl⟩:=qw.mp z;exact qw.mpr ⟨q,qX.mpr ⟨b,qx e⟩,U⟩
theorem YN{w:qc}(h:w∈bs.map (·.1)):∃d,(w,d)∈bs:=by
 obtain⟨p,a,rfl⟩:=qw.mp h;exact⟨p.2,a⟩
def xI(F:qa qd)(H H':Hp):Prop:=∀c o,¬c∈F->H c=some o->H' c=some o
theorem xI.upd{b:qd}(k:xI F H H1)(h:b∈F\/H b=none):xI F H (upd H1 b o):=λc u hc e=>by
 have:c≠b:=λz=>h.elim (λq=>hc (by rw[z];exact q)) λq=>by rw[z,q] at e;cases e
 rw[Qa this];exact k c u hc e
theorem EK{b:qd}{a:HO}(e:H b=some o)(h:(upd H b a) c=none):H c=none:=by
 by_cases z:c=b
 .rw[z,Qb] at h;cases h
 .rw[Qa z] at h;exact h
structure FI(H:Hp)(X1 N1:qd)(bx:Rows)(bs:qa (qc×qd))(W:qg):Prop where
 vE:H X1=some (.dK (QK bx))
 br:H N1=some (.dK (yz bs))
 ne:X1≠N1
 nd:(bx.map (·.1)).Nodup
 few:bx.length<=40
 wf:W.length<=20
 bd:BD H X1 N1 bs (QL bx) W
def xm(a b:qd)(bs:qa (qc×qd)):qa qd:=a::b::bs.map (·.2)
theorem QH{a b:qd} :c∈xm a b bs↔c=a\/c=b\/c∈bs.map (·.2):=by unfold xm;rw[qC,qC]
structure FT(H:Hp)(T1:qd)(tg:qa (qc×qd))(mk:qc->qg)(M:qg):Prop where
 t_:H T1=some (.dK (yz tg))
 nd:(tg.map (·.1)).Nodup
 wH:(tg.map (·.2)).Nodup
 at_:∀p∈tg,H p.2=some (.dK (Qo (mk p.1)))/\p.2≠T1/\(mk p.1).Nodup/\∀y∈mk p.1,y∈M
 few:tg.length<=40
 mf:M.length<=20
def vg(T1:qd)(tg:qa (qc×qd)):qa qd:=T1::tg.map (·.2)
theorem Q4  :c∈vg T1 tg↔c=T1\/c∈tg.map (·.2):=by unfold vg;rw[qC]
abbrev VA(a T1 b:qd):qa (qc×V):=[(Zd,.ref a),(Zr,.ref T1),(Zv,.ref b)]
theorem Y6(a T1 b:qd):(VA a T1 b).lookup Zd=some (V.ref a):=by simp[List.lookup]
theorem Va(a T1 b:qd):(VA a T1 b).lookup Zr=some (V.ref T1):=by
 have e:(Zr==Zd)=false:=by decide +kernel
 simp[List.lookup,e]
theorem YK(b T1 a:qd):(VA b T1 a).lookup Zv=some (V.ref a):=by
 have e:(Zv==Zd)=false:=by decide +kernel
 have c:(Zv==Zr)=false:=by decide +kernel
 simp[List.lookup,e,c]
theorem FI.keep{a b:qd}(h:FI H a b bx bs W)(k:∀c o,c∈xm a b bs->H c=some o->H' c=some o):FI H' a b bx bs W:=
 ⟨k _ _ (QH.mpr (.inl rfl)) h.vE,k _ _ (QH.mpr (.inr (.inl rfl))) h.br,h.ne,h.nd,h.few,h.wf,h.bd.congr (λp d o e=>k _ _ (QH.mpr (.inr (.inr (qw.mpr ⟨p,d,U⟩)))) e) λ_=>rfl⟩
theorem FT.keep(h:FT H T1 tg mk M)(k:∀c o,c∈vg T1 tg->H c=some o->H' c=some o):FT H' T1 tg mk M:=
 ⟨k _ _ (Q4.mpr (.inl rfl)) h.t_,h.nd,h.wH,λp a=>⟨k _ _ (Q4.mpr (.inr (qw.mpr ⟨p,a,U⟩))) (h.at_ p a).1,(h.at_ p a).2⟩,h.few,h.mf⟩
theorem FI.kind{b d:qd}(h:FI H b d bx bs W)(hc:c∈xm b d bs):∃a,H c=some (.dK a):=by
 rcases QH.mp hc with z|z|z
 .rw[z];exact⟨_,h.vE⟩
 .rw[z];exact⟨_,h.br⟩
 .obtain⟨p,e,rfl⟩:=qw.mp z;exact⟨_,(h.bd.at_ p e).1⟩
theorem FT.kind(h:FT H T1 tg mk M)(hc:c∈vg T1 tg):∃a,H c=some (.dK a):=by
 rcases Q4.mp hc with z|z
 .rw[z];exact⟨_,h.t_⟩
 .obtain⟨p,b,rfl⟩:=qw.mp z;exact⟨_,(h.at_ p b).1⟩
inductive Fw(a:jk)(vs:qa V)(H:Hp)(Q:VK)(E:XK):Prop
 |mk:∀(x dx X1 T1 N1:qd)(bx:Rows)(bs:qa (qc×qd))(W:qg)(nm fo:qc),vs=[.ref x,.str nm,.str fo]->H x=some (.ins (a 96) dx (VA X1 T1 N1))->FI H X1 N1 bx bs W->up bx nm=none->bx.length<40->fo∈W->(∀H' bs',FI H' X1 N1 (bx++[(nm,fo)]) bs' W->xI (xm X1 N1 bs) H H'->(∀q∈bs',q∈bs\/H q.2=none)->Q .non H')->Fw a vs H Q E
inductive Ck(a:jk)(vs:qa V)(H:Hp)(Q:VK)(E:XK):Prop
 |mk:∀(x dx X1 T1 N1:qd)(bx:Rows)(bs:qa (qc×qd))(W:qg)(nm fo:qc),vs=[.ref x,.str nm]->H x=some (.ins (a 96) dx (VA X1 T1 N1))->FI H X1 N1 bx bs W->up bx nm=some fo->(∀H' bs',FI H' X1 N1 (without bx nm) bs' W->xI (xm X1 N1 bs) H H'->(∀q∈bs',q∈bs)->(∀c,H' c=none->H c=none)->Q .non H')->Ck a vs H Q E
theorem CY(T:Txt P w K mg base a fd):T.k jg 1 39 (Fw a):=by
 refine T.ok 39 (λcdv A outer st H vs Q E hr h=>?_)
 .obtain⟨x,dx,f,T1,i,bx,bs,W,nm,b,rfl,obj,n,D,h40,N,k⟩:=h;have F:=Yx hr;have hwf:=n.wf;have hbl:=n.bd.len;refine⟨_,(Qd (Ys F (Ql (pv 0) U) (pv 1) (pv 2) U)
   (Qd (QG (Y0 (Ug F (pv 2) (Ql (pv 0) U))) (Qe (Ys F (Ql (pv 0) U) (pv 2) Q7 rfl)) Qq)
   (Qe (Ys F (Ym F (Ql (pv 0) U) (pv 2)) (pv 1) Uz rfl)))),?_⟩
  refine⟨_,U,_,U,x,_,dx,_,_,U,obj,(T 0),(T 13),Y6 f T1 i,_,U,f,_,U,Uy.k (k:=Sum.inr nm) n.vE (by rw[QK,ql];exact QI ⋯),?_⟩;rw[CP D];have O:f∈xm f i bs:=QH.mpr (.inl rfl);have R:i∈xm f i bs:=QH.mpr (.inr (.inl rfl));have xX:x≠f:=QM obj n.vE λz=>nomatch z;have g:(upd H f (.dK (QK (bx++[(nm,b)])))) x=some (.ins (a 96) dx (VA f T1 i)):=by rw[Qa xX];exact obj
  have v:(upd H f (.dK (QK (bx++[(nm,b)])))) f=some (.dK (QK (bx++[(nm,b)]))):=Qb;have m:(upd H f (.dK (QK (bx++[(nm,b)])))) i=some (.dK (yz bs)):=by rw[Qa n.ne.symm];exact n.br
  have j:BD (upd H f (.dK (QK (bx++[(nm,b)])))) f i bs (QL bx) W:=n.bd.congr (λq u o e=>by rw[Qa (n.bd.at_ q u).2.1];exact e) λ_=>rfl;have y:xI (xm f i bs) H (upd H f (.dK (QK (bx++[(nm,b)])))):=xI.upd (λc o _ e=>e) (.inl O);show V0 _ _ _ _ (upd H f (.dK (QK (bx++[(nm,b)]))));generalize upd H f (.dK (QK (bx++[(nm,b)])))=S at g v m j y;have G:((bx++[(nm,b)]).map (·.1)).Nodup:=FZ n.nd D;have C:(bx++[(nm,b)]).length<=40:=by rw[qA,qY];omega
  have I:∀t,QL (bx++[(nm,b)]) t=YS (QL bx) b (QL bx b++[nm]) t:=λt=>by
   rw[XF];by_cases e:t=b
   .subst e;rw[qP rfl,Yv]
   .rw[qJ λz=>e z.symm,zD,YE e]
  refine⟨_,U,_,U,x,_,dx,_,_,U,g,(T 0),(T 11),YK f T1 i,i,_,U,Yg.k (k:=Sum.inr b) m,_,U,?_⟩;by_cases s:b∈bs.map (·.1)
  .obtain⟨d,hd⟩:=YN s;have B:Qy (yz bs) (Sum.inr b)=some (V.ref d):=Q9 (r:=((b,d):qc×qd)) j.nd hd;obtain⟨J,L,M,_,_⟩:=j.at_ _ hd;have J:S d=some (.dK (Qo (QL bx b))):=J;have X:=Wb bx b;rw[B];have l:¬nm∈QL bx b:=λz=>UI.mp D (Wa z);refine QC ⟨_,U,x,_,dx,_,_,U,g,(T 0),(T 11),YK f T1 i,_,U,i,_,U,(by rw[<-B];exact Yg.k (k:=Sum.inr b) m),_,U,d,_,U,Uy.k (k:=Sum.inr nm) J (by rw[Qo,ql];exact QI ⋯),?_⟩;rw[Wd l];exact k _ bs ⟨by rw[Qa L.symm];exact v,by rw[Qa M.symm];exact m,n.ne,G,C,n.wf,(j.set hd (by simp) (λq _ ne o e=>by rw[Qa ne];exact e) Qb).congr (λ_ _ _ e=>e) I⟩ (y.upd (.inl (QH.mpr (.inr (.inr (qw.mpr ⟨_,hd,U⟩)))))) λq u=>.inl u
  .have B:Qy (yz bs) (Sum.inr b)=none:=UJ s;rw[B];refine QT ?_;intro d l;have xd:x≠d:=Qc g l;have M:f≠d:=Qc v l;have J:i≠d:=Qc m l;have xB:x≠i:=QM g m λz=>nomatch z;have X:H d=none:=by
    cases e:H d with
    |none=>rfl
    |some o=>
     by_cases L:d∈xm f i bs
     .rcases QH.mp L with z|z|z
      .exact absurd z.symm M
      .exact absurd z.symm J
      .obtain⟨q,u,eq⟩:=qw.mp z;have:=(j.at_ q u).1;rw[eq,l] at this;cases this
     .have:=y d o L e;rw[l] at this;cases this
   refine⟨_,U,x,_,dx,_,_,U,(by rw[Qa xd];exact g),(T 0),(T 11),YK f T1 i,_,U,i,_,U,Uy.k (k:=Sum.inr b) (by rw[Qa J];exact m) (by rw[GW];exact QI ⋯),?_⟩;rw[GV ((b,d):qc×qd) s rfl rfl];have L:((bs++[((b,d):qc×qd)]).map (·.1)).Nodup:=by rw[qE];exact YC j.nd s
   have Y:Qy (yz (bs++[((b,d):qc×qd)])) (Sum.inr b)=some (V.ref d):=Q9 (r:=((b,d):qc×qd)) L (qy _ qB);have Z:(upd (upd S d (.dK [])) i (.dK (yz (bs++[((b,d):qc×qd)])))) i=some (.dK (yz (bs++[((b,d):qc×qd)]))):=Qb;have d5:(upd (upd S d (.dK [])) i (.dK (yz (bs++[((b,d):qc×qd)])))) d=some (.dK []):=by rw[Qa J.symm];exact Qb
   refine⟨_,U,x,_,dx,_,_,U,(by rw[Qa xB,Qa xd];exact g),(T 0),(T 11),YK f T1 i,_,U,i,_,U,(by rw[<-Y];exact Yg.k (k:=Sum.inr b) Z),_,U,d,_,U,Uy.k (k:=Sum.inr nm) d5 ∅,?_⟩;have ek:Ye ([]:qa (Key×V)) (Sum.inr nm) (.bl true)=Qo [nm]:=rfl;rw[ek];have e0:QL bx b=[]:=j.ko b s;refine k _ (bs++[((b,d):qc×qd)]) ⟨by rw[Qa M,Qa n.ne,Qa M];exact v,by rw[Qa J];exact Qb,n.ne,G,C,n.wf,?_⟩ (((y.upd (.inr X)).upd (.inl R)).upd (.inr X)) λq u=>?_
   .refine(j.new (p:=d) (ys:=QL bx b++[nm]) s (λz=>?_) M.symm J.symm N (by simp) (λq u o e=>?_) ?_).congr (λ_ _ _ e=>e) I
    .obtain⟨q,u,eq⟩:=qw.mp z;have:=(j.at_ q u).1;rw[eq,l] at this;cases this
    .rw[Qa (Qc e l),Qa (j.at_ q u).2.2.1,Qa (Qc e l)];exact e
    .rw[e0,Qb];rfl
   .rcases qF.mp u with z|z
    .exact .inl z
    .rw[qt.mp z];exact .inr X
theorem AK(T:Txt P w K mg base a fd):T.k jg 1 40 (Ck a):=by
 refine T.ok 40 (λcdv A outer st H vs Q E hr h=>?_)
 .obtain⟨x,dx,f,T1,g,bx,bs,W,nm,b,rfl,obj,j,X,k⟩:=h;have hu:=Yx hr;refine⟨_,(Qd (Qv (i:=2) (sc 40).nd (Y4 (Ql (pv 0) U) (pv 1) ⟨U,U,U,U⟩))
   (Qd (Qw (Y4 (Ym hu (Ql (pv 0) U) (pv 2)) (pv 1) ⟨U,U,U,U⟩))
   (Qe (QG (Yl (Xh (Ym hu (Ql (pv 0) U) (pv 2)) (λ_=>rfl))) (Qe (Qw (Y4 (Ql (pv 0) U) (pv 2) ⟨U,U,U,U⟩))) Qq)))),?_⟩
  refine⟨_,U,x,_,dx,_,_,U,obj,(T 0),(T 13),Y6 f T1 g,f,U,.inl ⟨_,.inl j.vE⟩,_,U,_,Sum.inr nm,.str b,j.vE,U,(by rw[Yp,X];rfl),?_⟩;rw[WN];have Y:f∈xm f g bs:=QH.mpr (.inl rfl);have Z:g∈xm f g bs:=QH.mpr (.inr (.inl rfl));have xX:x≠f:=QM obj j.vE λz=>nomatch z;have p:(upd H f (.dK (QK (without bx nm)))) x=some (.ins (a 96) dx (VA f T1 g)):=by rw[Qa xX];exact obj
  have M:(upd H f (.dK (QK (without bx nm)))) f=some (.dK (QK (without bx nm))):=Qb;have y:(upd H f (.dK (QK (without bx nm)))) g=some (.dK (yz bs)):=by rw[Qa j.ne.symm];exact j.br
  have l:BD (upd H f (.dK (QK (without bx nm)))) f g bs (QL bx) W:=j.bd.congr (λq v o e=>by rw[Qa (j.bd.at_ q v).2.1];exact e) λ_=>rfl;have N:xI (xm f g bs) H (upd H f (.dK (QK (without bx nm)))):=xI.upd (λc o _ e=>e) (.inl Y);show V0 _ _ _ _ (upd H f (.dK (QK (without bx nm))));have O:∀c,(upd H f (.dK (QK (without bx nm)))) c=none->H c=none:=λc e=>EK j.vE e;generalize upd H f (.dK (QK (without bx nm)))=u at p M y l N O;have B:nm∈QL bx b:=HE X;have hyb:b∈bs.map (·.1):=yt λz=>by
   have:=l.ko b z;rw[this] at B;cases B
  obtain⟨d,hd⟩:=YN hyb;have C:Qy (yz bs) (Sum.inr b)=some (V.ref d):=Q9 (r:=((b,d):qc×qd)) l.nd hd;obtain⟨L,dE,dB,_,_⟩:=l.at_ _ hd;have L:u d=some (.dK (Qo (QL bx b))):=L;have xd:x≠d:=QM p L λz=>nomatch z;have hdF:d∈xm f g bs:=QH.mpr (.inr (.inr (qw.mpr ⟨_,hd,U⟩)));have wl:(without bx nm).length<=bx.length:=zh _ _;have hfew:=j.few;have R:∀t,QL (without bx nm) t=YS (QL bx) b ((QL bx b).filter λm=>decide (m≠nm)) t:=λt=>by
   rw[UW];by_cases e:t=b
   .subst e;rw[Yv]
   .rw[YE e];exact Xa (C6 j.nd X e)
  refine⟨_,U,x,_,dx,_,_,U,p,(T 0),(T 11),YK f T1 g,_,U,g,_,U,(by rw[<-C];exact Yg.k (k:=Sum.inr b) y),d,U,.inl ⟨_,.inl L⟩,_,U,_,Sum.inr nm,.bl true,L,U,(by rw[UM,qP B]),?_⟩;rw[U2];have s:(upd u d (.dK (Qo ((QL bx b).filter λm=>decide (m≠nm))))) x=some (.ins (a 96) dx (VA f T1 g)):=by rw[Qa xd];exact p
  have D:(upd u d (.dK (Qo ((QL bx b).filter λm=>decide (m≠nm))))) f=some (.dK (QK (without bx nm))):=by rw[Qa dE.symm];exact M
  have n:(upd u d (.dK (Qo ((QL bx b).filter λm=>decide (m≠nm))))) g=some (.dK (yz bs)):=by rw[Qa dB.symm];exact y
  have S:(upd u d (.dK (Qo ((QL bx b).filter λm=>decide (m≠nm))))) d=some (.dK (Qo ((QL bx b).filter λm=>decide (m≠nm)))):=Qb;have F:xI (xm f g bs) H (upd u d (.dK (Qo ((QL bx b).filter λm=>decide (m≠nm))))):=N.upd (.inl hdF);have G:∀q∈bs,q.2≠d->∀o,u q.2=some o->(upd u d (.dK (Qo ((QL bx b).filter λm=>decide (m≠nm))))) q.2=some o:=λq _ ne o e=>by rw[Qa ne];exact e
  show V0 _ _ _ _ (upd u d (.dK (Qo ((QL bx b).filter λm=>decide (m≠nm)))));have I:∀c,(upd u d (.dK (Qo ((QL bx b).filter λm=>decide (m≠nm))))) c=none->H c=none:=λc e=>O c (EK L e);generalize upd u d (.dK (Qo ((QL bx b).filter λm=>decide (m≠nm))))=H5 at s D n S F G I;refine⟨_,U,x,_,dx,_,_,U,s,(T 0),(T 11),YK f T1 g,_,U,g,.ref d,U,(by rw[<-C];exact Yg.k (k:=Sum.inr b) n),!(Qo ((QL bx b).filter λm=>decide (m≠nm))).isEmpty,Or.inr (Or.inr ⟨_,S,U⟩),?_⟩
  cases J:(QL bx b).filter λm=>decide (m≠nm) with
  |cons z zs=>
   rw[J] at S;refine QC (k H5 bs ⟨D,n,j.ne,VF j.nd,⋯,j.wf,(l.set hd (ys:=z::zs) (by simp) G S).congr (λ_ _ _ e=>e) λt=>?_⟩ F (λq v=>v) I);rw[R,J]
  |nil=>
   have xB:x≠g:=QM s n λz=>nomatch z;refine QT ⟨_,U,x,_,dx,_,_,U,s,(T 0),(T 11),YK f T1 g,g,U,.inl ⟨_,.inl n⟩,_,U,_,Sum.inr b,.ref d,n,U,C,?_⟩;rw[VS];refine k _ (bs.filter λr=>decide (r.1≠b)) ⟨by rw[Qa j.ne];exact D,Qb,j.ne,VF j.nd,⋯,j.wf,(l.del hd λq v ne o e=>?_).congr (λ_ _ _ e=>e) λt=>?_⟩ (F.upd (.inl Z)) (λq v=>(qX.mp v).1) λc e=>I c (EK n e)
   .rw[Qa (l.at_ q v).2.2.1];exact G q v ne o e
   .rw[R,J]
theorem Wi{α:Type}{f:α->qc}{l:qa α}{n m:qc}:m∈(l.filter λr=>decide (f r≠n)).map f↔m∈l.map f/\m≠n:=by
 rw[qw,qw];constructor
 .rintro⟨r,a,rfl⟩;exact⟨⟨r,(qX.mp a).1,U⟩,qH (qX.mp a).2⟩
 .rintro⟨⟨r,a,rfl⟩,b⟩;exact⟨r,qX.mpr ⟨a,qx b⟩,U⟩
theorem FT.new{nm:qc}(h:FT H T1 tg mk M)(a:¬nm∈tg.map (·.1))(b:¬p∈tg.map (·.2))(c:p≠T1)(few:tg.length<40)(d:ys.Nodup)(f:∀y∈ys,y∈M)
 (k:∀q∈tg,∀o,H q.2=some o->H' q.2=some o) (e:H' p=some (.dK (Qo ys))) (g:H' T1=some (.dK (yz (tg++[((nm,p):qc×qd)])))):FT H' T1 (tg++[((nm,p):qc×qd)]) (YS mk nm ys) M:=by
 refine⟨g,by rw[qE];exact YC h.nd a,by rw[qE];exact YC h.wH b,λq i=>?_,by rw[qA,qY];omega,h.mf⟩;rcases qF.mp i with z|z
 .rw[YE (λe=>a (by rw[<-e];exact qw.mpr ⟨q,z,U⟩))];exact⟨k q z _ (h.at_ q z).1,(h.at_ q z).2⟩
 .rw[qt.mp z];show H' p=some (.dK (Qo (YS mk nm ys nm)))/\p≠T1/\(YS mk nm ys nm).Nodup/\∀y∈YS mk nm ys nm,y∈M;rw[Yv];exact⟨e,c,d,f⟩
theorem FT.set{d:qd}{nm:qc}(h:FT H T1 tg mk M)(hw:(nm,d)∈tg)(b:ys.Nodup)(c:∀y∈ys,y∈M)
 (k:∀q∈tg,q.2≠d->∀o,H q.2=some o->H' q.2=some o) (e:H' d=some (.dK (Qo ys))) (f:H' T1=some (.dK (yz tg))):FT H' T1 tg (YS mk nm ys) M:=by
 refine⟨f,h.nd,h.wH,λq a=>?_,h.few,h.mf⟩;by_cases z:q.1=nm
 .have eq:q=(nm,d):=U7 h.nd a hw z;rw[eq];show H' d=some (.dK (Qo (YS mk nm ys nm)))/\d≠T1/\(YS mk nm ys nm).Nodup/\∀y∈YS mk nm ys nm,y∈M;rw[Yv];exact⟨e,(h.at_ _ hw).2.1,b,c⟩
 .rw[YE z];refine⟨k q a (λu=>z ?_) _ (h.at_ q a).1,(h.at_ q a).2⟩;have:q=(nm,d):=U7 h.wH a hw u;rw[this]
theorem FT.del(h:FT H T1 tg mk M)(nm:qc)(k:∀q∈tg,∀o,H q.2=some o->H' q.2=some o)(b:H' T1=some (.dK (yz (tg.filter λr=>decide (r.1≠nm))))):FT H' T1 (tg.filter λr=>decide (r.1≠nm)) mk M:=
 ⟨b,h.nd.sublist (jn.map _),h.wH.sublist (jn.map _),λq a=>⟨k q (qX.mp a).1 _ (h.at_ q (qX.mp a).1).1,(h.at_ q (qX.mp a).1).2⟩,zb (zh _ _) h.few,h.mf⟩
theorem FT.congr{mk':qc->qg}(h:FT H T1 tg mk M)(e:∀t,mk' t=mk t):FT H T1 tg mk' M:=⟨h.t_,h.nd,h.wH,λq a=>by rw[e];exact h.at_ q a,h.few,h.mf⟩
theorem FT.len(h:FT H T1 tg mk M){p:qc×qd}(a:p∈tg):(mk p.1).length<=20:=zb (Ut (h.at_ p a).2.2.1 (h.at_ p a).2.2.2) h.mf
def FO(a:jk)(H:Hp)(x:qd)(bx:Rows)(mk:qc->qg)(W M:qg)(n:Nat)(F:qa qd):Prop:=∃dx b T1 d bs tg,H x=some (.ins (a 96) dx (VA b T1 d))/\FI H b d bx bs W/\FT H T1 tg mk M/\(∀c∈xm b d bs,¬c∈vg T1 tg)/\(∀m,m∈tg.map (·.1)↔m∈bx.map (·.1))/\bx.length<=n/\F=xm b d bs++vg T1 tg
section
variable {a:jk}{fd:Nat->FuncData}{H H':Hp}{x:qd}{bx:Rows}{mk:qc->qg}{W M:qg}{n:Nat}{F:qa qd}
theorem FO.keep(h:FO a H x bx mk W M n F)(k:∀c o,(c=x\/c∈F)->H c=some o->H' c=some o):FO a H' x bx mk W M n F:=by
 obtain⟨dx,b,T1,d,bs,tg,obj,f,g,i,nm,l,rfl⟩:=h;exact⟨dx,b,T1,d,bs,tg,k _ _ (.inl rfl) obj,f.keep λc o hc e=>k c o (.inr (qS _ hc)) e,g.keep λc o hc e=>k c o (.inr (qy _ hc)) e,i,nm,l,U⟩
theorem FO.same(h:FO a H x bx mk W M n F)(s:Qi H H'):FO a H' x bx mk W M n F:=h.keep λc o _ e=>s c o e
theorem FO.up(h:FO a H x bx mk W M n F):FO a H x bx mk W M (n+1) F:=by
 obtain⟨dx,b,T1,c,bs,tg,obj,d,f,g,nm,l,e⟩:=h;exact⟨dx,b,T1,c,bs,tg,obj,d,f,g,nm,⋯,e⟩
theorem FO.kind(h:FO a H x bx mk W M n F)(hc:c∈F):∃b,H c=some (.dK b):=by
 obtain⟨dx,f,T1,g,bs,tg,obj,d,e,i,nm,l,rfl⟩:=h;rcases qF.mp hc with z|z
 .exact d.kind z
 .exact e.kind z
theorem FO.obj(h:FO a H x bx mk W M n F):∃dx b T1 c,H x=some (.ins (a 96) dx (VA b T1 c)):=let ⟨dx,b,T1,c,_,_,e,_⟩:=h;⟨dx,b,T1,c,e⟩
theorem FO.mk_ok(h:FO a H x bx mk W M n F){nm:qc}(c:nm∈bx.map (·.1)):(mk nm).Nodup/\(∀y∈mk nm,y∈M)/\(mk nm).length<=20:=by
 obtain⟨dx,f,T1,g,bs,tg,obj,i,b,j,e,l,rfl⟩:=h;obtain⟨d,hd⟩:=YN ((e nm).mpr c);exact⟨(b.at_ _ hd).2.2.1,(b.at_ _ hd).2.2.2,b.len hd⟩
end
inductive FJ(a:jk)(vs:qa V)(H:Hp)(Q:VK)(E:XK):Prop
 |mk:∀(x dx:qd)(mk:qc->qg)(W M:qg),vs=[.ref x]->W.length<=20->M.length<=20->H x=some (.ins (a 96) dx [])->(∀H' F,(∀c o,c≠x->H c=some o->H' c=some o)->(∀c∈F,H c=none)->FO a H' x [] mk W M 0 F->Q .non H')->FJ a vs H Q E
inductive Mg(a:jk)(vs:qa V)(H:Hp)(Q:VK)(E:XK):Prop
 |mk:∀(x m:qd)(bx:Rows)(mk:qc->qg)(W M:qg)(n:Nat)(F:qa qd)(nm fo:qc)(ss:qg),vs=[.ref x,.str nm,.str fo,.ref m]->FO a H x bx mk W M n F->n<40->up bx nm=none->fo∈W->H m=some (.lst (ss.map V.str))->(∀y∈ss,y∈M)->(∀H' F',FO a H' x (bx++[(nm,fo)]) (YS mk nm (dd ss)) W M (n+1) F'->xI F H H'->(∀c∈F',c∈F\/H c=none)->Q .non H')->Mg a vs H Q E
inductive FG(a:jk)(vs:qa V)(H:Hp)(Q:VK)(E:XK):Prop
 |mk:∀(x:qd)(bx:Rows)(mk:qc->qg)(W M:qg)(n:Nat)(F:qa qd)(nm:qc),vs=[.ref x,.str nm]->FO a H x bx mk W M n F->nm∈bx.map (·.1)->(∀H' F',FO a H' x (without bx nm) mk W M n F'->xI F H H'->(∀c∈F',c∈F)->Q .non H')->FG a vs H Q E
inductive Cv(a:jk)(vs:qa V)(H:Hp)(Q:VK)(E:XK):Prop
 |mk:∀(x:qd)(bx:Rows)(mk:qc->qg)(W M:qg)(n:Nat)(F:qa qd)(nm fo:qc),vs=[.ref x,.str nm,.str fo]->FO a H x bx mk W M n F->nm∈bx.map (·.1)->fo∈W->(∀H' F',FO a H' x (without bx nm++[(nm,fo)]) mk W M n F'->xI F H H'->(∀c∈F',c∈F\/H c=none)->Q .non H')->Cv a vs H Q E
inductive FH(a:jk)(vs:qa V)(H:Hp)(Q:VK)(E:XK):Prop
 |mk:∀(x:qd)(bx:Rows)(mk:qc->qg)(W M:qg)(n:Nat)(F:qa qd)(nm y:qc),vs=[.ref x,.str nm,.str y]->FO a H x bx mk W M n F->nm∈bx.map (·.1)->y∈M->(∀H',FO a H' x bx (YS mk nm (YG (mk nm) y)) W M n F->xI F H H'->Q .non H')->FH a vs H Q E
inductive Aw(a:jk)(vs:qa V)(H:Hp)(Q:VK)(E:XK):Prop
 |mk:∀(x:qd)(bx:Rows)(mk:qc->qg)(W M:qg)(n:Nat)(F:qa qd)(nm y:qc),vs=[.ref x,.str nm,.str y]->FO a H x bx mk W M n F->nm∈bx.map (·.1)->(∀H',FO a H' x bx (YS mk nm ((mk nm).filter λz=>decide (z≠y))) W M n F->xI F H H'->Q .non H')->Aw a vs H Q E
inductive Ay(a:jk)(vs:qa V)(H:Hp)(Q:VK)(E:XK):Prop
 |mk:∀(x:qd)(bx:Rows)(mk:qc->qg)(W M:qg)(n:Nat)(F:qa qd)(nm fo:qc),vs=[.ref x,.str nm]->FO a H x bx mk W M n F->up bx nm=some fo->Q (.str fo) H->Ay a vs H Q E
inductive Cy(a:jk)(vs:qa V)(H:Hp)(Q:VK)(E:XK):Prop
 |mk:∀(x:qd)(bx:Rows)(mk:qc->qg)(W M:qg)(n:Nat)(F:qa qd)(nm:qc),vs=[.ref x,.str nm]->FO a H x bx mk W M n F->nm∈bx.map (·.1)->(∀l H',H l=none->Qi H H'->H' l=some (.lst ((Q3 (mk nm)).map V.str))->Q (.ref l) H')->Cy a vs H Q E
inductive K1(a:jk)(vs:qa V)(H:Hp)(Q:VK):Prop
 |mk:∀(x:qd)(bx:Rows)(mk:qc->qg)(W M:qg)(n:Nat)(F:qa qd)(fo:qc),vs=[.ref x,.str fo]->FO a H x bx mk W M n F->(∀l H',H l=none->Qi H H'->H' l=some (.lst ((Q3 (QL bx fo)).map V.str))->Q (.ref l) H')->K1 a vs H Q
def Cw(a:jk):Sp:=λvs H Q _=>K1 a vs H Q
theorem Nj(T:Txt P w K mg base a fd):T.k jg 1 37 (FJ a):=by
 refine T.ok 37 (λL A outer st H vs Q E V h=>?_)
 .obtain⟨x,dx,mk,W,M,rfl,N,O,I,k⟩:=h;refine⟨_,(Qd (QX (pv 0) Q7 rfl)
   (Qd (QX (pv 0) Q7 rfl)
   (Qe (QX (pv 0) Q7 rfl)))),?_⟩
  intro b l;have s:x≠b:=Qc I l;refine⟨_,U,x,_,dx,_,U,(by rw[Qa s];exact I),(T 0),(T 13),∅,?_⟩;have f:SX x H (upd (upd H b (.dK [])) x (.ins (a 96) dx (Qz Zd (.ref b) []))):=λc o ne e=>by rw[Qa ne,Qa (Qc e l)];exact e
  have gy:(upd (upd H b (.dK [])) x (.ins (a 96) dx (Qz Zd (.ref b) []))) x=some (.ins (a 96) dx (Qz Zd (.ref b) [])):=Qb;have v:(upd (upd H b (.dK [])) x (.ins (a 96) dx (Qz Zd (.ref b) []))) b=some (.dK []):=by rw[Qa s.symm];exact Qb
  show V0 _ _ _ _ (upd (upd H b (.dK [])) x (.ins (a 96) dx (Qz Zd (.ref b) [])));generalize upd (upd H b (.dK [])) x (.ins (a 96) dx (Qz Zd (.ref b) []))=H1 at f gy v;intro T1 j;have y:x≠T1:=Qc gy j;refine⟨_,U,x,_,dx,_,U,(by rw[Qa y];exact gy),(T 0),(T 19),(by show 1<1000;decide),?_⟩;have g:SX x H1 (upd (upd H1 T1 (.dK [])) x (.ins (a 96) dx (Qz Zr (.ref T1) (Qz Zd (.ref b) [])))):=λc o ne e=>by rw[Qa ne,Qa (Qc e j)];exact e
  have gJ:(upd (upd H1 T1 (.dK [])) x (.ins (a 96) dx (Qz Zr (.ref T1) (Qz Zd (.ref b) [])))) x=some (.ins (a 96) dx (Qz Zr (.ref T1) (Qz Zd (.ref b) []))):=Qb;have B:(upd (upd H1 T1 (.dK [])) x (.ins (a 96) dx (Qz Zr (.ref T1) (Qz Zd (.ref b) [])))) T1=some (.dK []):=by rw[Qa y.symm];exact Qb
  show V0 _ _ _ _ (upd (upd H1 T1 (.dK [])) x (.ins (a 96) dx (Qz Zr (.ref T1) (Qz Zd (.ref b) []))));generalize upd (upd H1 T1 (.dK [])) x (.ins (a 96) dx (Qz Zr (.ref T1) (Qz Zd (.ref b) [])))=t at g gJ B;intro d n;have J:x≠d:=Qc gJ n;refine⟨_,U,x,_,dx,_,U,(by rw[Qa J];exact gJ),(T 0),(T 11),(by show 2<1000;decide),?_⟩;have i:SX x t (upd (upd t d (.dK [])) x (.ins (a 96) dx (Qz Zv (.ref d) (Qz Zr (.ref T1) (Qz Zd (.ref b) []))))):=λc o ne e=>by rw[Qa ne,Qa (Qc e n)];exact e
  have ob3:(upd (upd t d (.dK [])) x (.ins (a 96) dx (Qz Zv (.ref d) (Qz Zr (.ref T1) (Qz Zd (.ref b) []))))) x=some (.ins (a 96) dx (VA b T1 d)):=Qb;have R:(upd (upd t d (.dK [])) x (.ins (a 96) dx (Qz Zv (.ref d) (Qz Zr (.ref T1) (Qz Zd (.ref b) []))))) d=some (.dK []):=by rw[Qa J.symm];exact Qb
  have p:=g _ _ s.symm v;have q:=i _ _ s.symm p;have C:=i _ _ y.symm B;have D:b≠T1:=Qc v j;have F:b≠d:=Qc p n;have G:T1≠d:=Qc B n;have S:=(f.trans g).trans i;refine k _ (xm b d []++vg T1 []) (λc o ne e=>S c o ne e) (λc hc=>?_) ⟨dx,b,T1,d,[],[],ob3,⟨q,R,F,z6,za _,N,⟨z6,z6,nofun,λ_ _=>rfl⟩⟩,⟨C,z6,z6,nofun,za _,O⟩,λc l j=>?_,λm=>Iff.rfl,qz _,U⟩
  .rcases qF.mp hc with z|z
   .rcases QH.mp z with z|z|z
    .rw[z];exact l
    .rw[z];exact f.free gy (g.free gJ n)
    .cases z
   .rcases Q4.mp z with z|z
    .rw[z];exact f.free gy j
    .cases z
  .rcases Q4.mp j with u|u
   .rcases QH.mp l with r|r|r
    .exact D (r.symm.trans u)
    .exact G (u.symm.trans r)
    .cases r
   .cases u
theorem Ep(T:Txt P w K mg base a fd):T.k jg 2 44 (Ay a):=by
 refine T.ok 44 (λf A outer st H vs Q E g h=>?_)
 .obtain⟨x,bx,mk,W,M,n,o,nm,i,rfl,⟨dx,b,T1,c,bs,tg,obj,d,p,q,r,l,rfl⟩,j,k⟩:=h;have m:=Yx g;refine⟨_,(Qd (Qw (T.cl (Y5 T) (zj (pv 1) (zj (Ql (pv 0) U) Qg))))
   (Qe (Qp (Ym m (Ql (pv 0) U) (pv 1))))),?_⟩
  have e:Qy (QK bx) (Sum.inr nm)=some (V.str i):=by rw[Yp,j];rfl
  refine⟨_,U,_,U,x,_,dx,_,_,U,obj,(T 0),(T 13),Y6 b T1 c,nm,b,_,_,U,d.vE,e,?_⟩;exact⟨_,U,x,_,dx,_,_,U,obj,(T 0),(T 13),Y6 b T1 c,_,U,b,_,U,(by rw[<-e];exact Yg.k (k:=Sum.inr nm) d.vE),k⟩
theorem IK(T:Txt P w K mg base a fd):T.k jg 2 45 (Cy a):=by
 refine T.ok 45 (λm A outer st H vs Q E o h=>?_)
 .obtain⟨x,bx,mk,W,M,n,u,nm,rfl,⟨dx,e,T1,g,bs,tg,obj,p,c,v,q,l,rfl⟩,i,k⟩:=h;have s:=Yx o;refine⟨_,(Qd (Qw (T.cl (Y5 T) (zj (pv 1) (zj (Ql (pv 0) U) Qg))))
   (Qe (Qp (Qs (UH rfl) rfl (T 14) boot_sorted (zj (Ym s (Ql (pv 0) U) (pv 1)) Qg))))),?_⟩
  obtain⟨y,t⟩:=VH i;obtain⟨d,hd⟩:=YN ((q nm).mpr i);have f:Qy (yz tg) (Sum.inr nm)=some (V.ref d):=Q9 (r:=((nm,d):qc×qd)) c.nd hd;have b:=c.len hd;have b:(mk nm).length<=20:=b;refine⟨_,U,_,U,x,_,dx,_,_,U,obj,(T 0),(T 13),Y6 e T1 g,nm,e,_,_,U,p.vE,(by rw[Yp,t];rfl),?_⟩;refine⟨_,U,x,_,dx,_,_,U,obj,(T 0),(T 19),Va e T1 g,_,U,T1,_,U,(by rw[<-f];exact Yg.k (k:=Sum.inr nm) c.t_),d,Qo (mk nm),mk nm,U,(c.at_ _ hd).1,?_,⋯,λl j=>k l _ j (Qi.zq j) Qb⟩;unfold Qo;rw[zg];rfl
theorem IJ(T:Txt P w K mg base a fd):T.k jg 1 48 (Cw a):=by
 refine T.ok 48 (λj A outer st H vs Q E m h=>?_)
 .obtain⟨x,bx,mk,W,M,n,v,t,rfl,⟨dx,o,T1,g,bs,tg,obj,b,y,z,B,l,rfl⟩,k⟩:=h;have q:=Yx m;refine⟨_,(Qe (Qp (Qs (UH rfl) rfl (T 14) boot_sorted (zj (Uo q (Ql (pv 0) U) (pv 1) Q7 ⟨U,U,U,U⟩) Qg)))),?_⟩;refine⟨_,U,x,_,dx,_,_,U,obj,(T 0),(T 11),YK o T1 g,g,U,.inl ⟨_,.inl b.br⟩,_,U,λp s=>?_⟩;have s1:Qi H (upd H p (.dK [])):=Qi.zq s;have i:=b.few;have u:=Wb bx t;refine⟨_,Yg.k (k:=Sum.inr t) (s1 _ _ b.br),?_⟩;by_cases e:t∈bs.map (·.1)
  .obtain⟨d,hd⟩:=YN e;have f:Qy (yz bs) (Sum.inr t)=some (V.ref d):=Q9 (r:=((t,d):qc×qd)) b.bd.nd hd;rw[f];refine⟨d,Qo (QL bx t),QL bx t,U,s1 _ _ (b.bd.at_ _ hd).1,?_,⋯,λl c=>k l _ (s1.free c) (s1.jl (s1.free c)) Qb⟩;unfold Qo;rw[zg];rfl
  .have f:Qy (yz bs) (Sum.inr t)=none:=UJ e;rw[f];refine⟨p,[],[],U,Qb,U,∅,λl c=>?_⟩;refine k l _ (s1.free c) (s1.jl (s1.free c)) ?_;rw[Qb,b.bd.ko t e]
theorem Ni(T:Txt P w K mg base a fd):T.k jg 2 42 (FH a):=by
 refine T.ok 42 (λC A outer st H vs Q E D h=>?_)
 .obtain⟨x,bx,mk,W,M,n,J,nm,y,rfl,⟨dx,g,T1,i,bs,tg,obj,m,b,p,s,l,rfl⟩,t,F,k⟩:=h;have v:=Yx D;refine⟨_,(Qd (Qw (T.cl (Y5 T) (zj (pv 1) (zj (Ql (pv 0) U) Qg))))
   (Qe (Ys v (Ym v (Ql (pv 0) U) (pv 1)) (pv 2) Uz rfl))),?_⟩
  obtain⟨L,G⟩:=VH t;obtain⟨d,hd⟩:=YN ((s nm).mpr t);have j:Qy (yz tg) (Sum.inr nm)=some (V.ref d):=Q9 (r:=((nm,d):qc×qd)) b.nd hd;have I:(mk nm).length<=20:=b.len hd;have B:H d=some (.dK (Qo (mk nm))):=(b.at_ _ hd).1;have dT:d≠T1:=(b.at_ _ hd).2.1;have f:d∈vg T1 tg:=Q4.mpr (.inr (qw.mpr ⟨_,hd,U⟩));refine⟨_,U,_,U,x,_,dx,_,_,U,obj,(T 0),(T 13),Y6 g T1 i,nm,g,_,_,U,m.vE,(by rw[Yp,G];rfl),?_⟩;refine⟨_,U,x,_,dx,_,_,U,obj,(T 0),(T 19),Va g T1 i,_,U,T1,_,U,(by rw[<-j];exact Yg.k (k:=Sum.inr nm) b.t_),_,U,d,_,U,Uy.k (k:=Sum.inr y) B (by rw[Qo,ql];exact QI ⋯),?_⟩;rw[Hl];have xd:x≠d:=QM obj B λz=>nomatch z;refine k _ ⟨dx,g,T1,i,bs,tg,by rw[Qa xd];exact obj,m.keep λc o hc e=>by rw[Qa (λz=>p c hc (by rw[z];exact f))];exact e,b.set hd (EU (b.at_ _ hd).2.2.1) (λz hz=>?_) (λq _ ne o e=>by rw[Qa ne];exact e) Qb (by rw[Qa dT.symm];exact b.t_),p,s,l,U⟩ (xI.upd (λc o _ e=>e) (.inl (qy _ f)));rcases Bz.mp hz with u|u
  .exact(b.at_ _ hd).2.2.2 z u
  .rw[u];exact F
theorem En(T:Txt P w K mg base a fd):T.k jg 2 43 (Aw a):=by
 refine T.ok 43 (λD A outer st H vs Q E F h=>?_)
 .obtain⟨x,bx,mk,W,M,n,L,nm,y,rfl,⟨dx,f,T1,i,bs,tg,obj,j,b,m,p,l,rfl⟩,B,k⟩:=h;have G:=Yx F;refine⟨_,(Qd (Qw (T.cl (Y5 T) (zj (pv 1) (zj (Ql (pv 0) U) Qg))))
   (Qe (Qw (MV (Ym G (Ql (pv 0) U) (pv 1)) (pv 2) XI ⟨U,U,U,U⟩)))),?_⟩
  obtain⟨N,I⟩:=VH B;obtain⟨d,hd⟩:=YN ((p nm).mpr B);have s:Qy (yz tg) (Sum.inr nm)=some (V.ref d):=Q9 (r:=((nm,d):qc×qd)) b.nd hd;have u:H d=some (.dK (Qo (mk nm))):=(b.at_ _ hd).1;have dT:d≠T1:=(b.at_ _ hd).2.1;have g:d∈vg T1 tg:=Q4.mpr (.inr (qw.mpr ⟨_,hd,U⟩));refine⟨_,U,_,U,x,_,dx,_,_,U,obj,(T 0),(T 13),Y6 f T1 i,nm,f,_,_,U,j.vE,(by rw[Yp,I];rfl),?_⟩;have xd:x≠d:=QM obj u λz=>nomatch z;refine⟨_,U,x,_,dx,_,_,U,obj,(T 0),(T 19),Va f T1 i,_,U,T1,_,U,(by rw[<-s];exact Yg.k (k:=Sum.inr nm) b.t_),d,U,.inl ⟨_,.inl u⟩,_,U,_,Sum.inr y,u,U,λv _=>?_,λC=>?_⟩
  .rw[U2];exact k _ ⟨dx,f,T1,i,bs,tg,by rw[Qa xd];exact obj,j.keep λc o hc e=>by rw[Qa (λz=>m c hc (by rw[z];exact g))];exact e,b.set hd ((b.at_ _ hd).2.2.1.filter _) (λz hz=>(b.at_ _ hd).2.2.2 z (qX.mp hz).1) (λq _ ne o e=>by rw[Qa ne];exact e) Qb (by rw[Qa dT.symm];exact b.t_),m,p,l,U⟩ (xI.upd (λc o _ e=>e) (.inl (qy _ g)))
  .have J:¬y∈mk nm:=λz=>by rw[UM,qP z] at C;cases C
   refine k _ ⟨dx,f,T1,i,bs,tg,obj,j,b.congr λt=>?_,m,p,l,U⟩ λc o _ e=>e;by_cases e:t=nm
   .rw[e,Yv];exact Xa J
   .exact YE e
theorem Nh(T:Txt P w K mg base a fd):T.k jg 2 38 (FG a):=by
 refine T.ok 38 (λR A outer st H vs Q E S h=>?_)
 .obtain⟨x,bx,mk,W,M,n,Fo,nm,rfl,⟨dx,i,T1,p,bs,tg,obj,B,C,D,L,l,rfl⟩,N,k⟩:=h;have hu:=Yx S;refine⟨_,(Qd (Qw (T.cl (Y5 T) (zj (pv 1) (zj (Ql (pv 0) U) Qg))))
   (Qd (Qw (T.me (pv 0) (T 0) (T 59) (AK T) (zj (pv 1) Qg)))
   (Qe (Qw (Y4 (Ql (pv 0) U) (pv 1) ⟨U,U,U,U⟩))))),?_⟩
  obtain⟨X,O⟩:=VH N;obtain⟨d,hd⟩:=YN ((L nm).mpr N);have F:Qy (yz tg) (Sum.inr nm)=some (V.ref d):=Q9 (r:=((nm,d):qc×qd)) C.nd hd;refine⟨_,U,_,U,x,_,dx,_,_,U,obj,(T 0),(T 13),Y6 i T1 p,nm,i,_,_,U,B.vE,(by rw[Yp,O];rfl),?_⟩;refine⟨_,U,x,dx,_,U,obj,U,_,U,x,dx,i,T1,p,bx,bs,W,nm,X,U,obj,B,O,λY t G u I Z=>?_⟩;have J:¬x∈xm i p bs:=λz=>by obtain⟨_,e⟩:=B.kind z;rw[obj] at e;cases e
  have b:=u _ _ J obj;have j:=C.keep (H':=Y) λc o hc e=>u c o (λz=>D c z hc) e;refine⟨_,U,x,_,dx,_,_,U,b,(T 0),(T 19),Va i T1 p,T1,U,.inl ⟨_,.inl j.t_⟩,_,U,_,Sum.inr nm,.ref d,j.t_,U,F,?_⟩;rw[VS];have v:T1∈vg T1 tg:=Q4.mpr (.inl rfl);have g:∀c∈xm i p t,c∈xm i p bs:=λc hc=>by
   rcases QH.mp hc with z|z|z
   .exact QH.mpr (.inl z)
   .exact QH.mpr (.inr (.inl z))
   .obtain⟨q,y,rfl⟩:=qw.mp z;exact QH.mpr (.inr (.inr (qw.mpr ⟨q,I q y,U⟩)))
  have s:∀c∈vg T1 (tg.filter λr=>decide (r.1≠nm)),c∈vg T1 tg:=λc hc=>by
   rcases Q4.mp hc with z|z
   .exact Q4.mpr (.inl z)
   .obtain⟨q,y,rfl⟩:=qw.mp z;exact Q4.mpr (.inr (qw.mpr ⟨q,(qX.mp y).1,U⟩))
  have xT:x≠T1:=QM b j.t_ λz=>nomatch z;have wl:(without bx nm).length<=bx.length:=zh _ _;refine k _ (xm i p t++vg T1 (tg.filter λr=>decide (r.1≠nm))) ⟨dx,i,T1,p,t,_,by rw[Qa xT];exact b,G.keep λc o hc e=>by rw[Qa (λz=>D c (g c hc) (by rw[z];exact v))];exact e,j.del nm (λq y o e=>by rw[Qa (C.at_ q y).2.1];exact e) Qb,λc h1 h2=>D c (g c h1) (s c h2),λm=>?_,⋯,U⟩
   (λc o hc e=>by rw[Qa (λz=>hc (qy _ (by rw[z];exact v)))];exact u c o (λz=>hc (qS _ z)) e) λc hc=>(qF.mp hc).elim (λz=>qS _ (g c z)) λz=>qy _ (s c z)
  rw[Wi (f:=λr:qc×qd=>r.1),L m];unfold L2.without;rw[Wi (f:=λr:qc×qc=>r.1)]
theorem II(T:Txt P w K mg base a fd):T.k jg 2 41 (Cv a):=by
 refine T.ok 41 (λcdv A outer st H vs Q E hr h=>?_)
 .obtain⟨x,bx,mk,W,M,n,Fo,nm,J,rfl,⟨dx,g,T1,i,bs,tg,obj,u,ft,v,nq,l,rfl⟩,L,N,k⟩:=h;refine⟨_,(Qd (Qw (T.cl (Y5 T) (zj (pv 1) (zj (Ql (pv 0) U) Qg))))
   (Qd (Qw (T.me (pv 0) (T 0) (T 59) (AK T) (zj (pv 1) Qg)))
   (Qe (Qw (T.me (pv 0) (T 0) (T 58) (CY T) (zj (pv 1) (zj (pv 2) Qg))))))),?_⟩
  obtain⟨fo,Z⟩:=VH L;refine⟨_,U,_,U,x,_,dx,_,_,U,obj,(T 0),(T 13),Y6 g T1 i,nm,g,_,_,U,u.vE,(by rw[Yp,Z];rfl),?_⟩;refine⟨_,U,x,dx,_,U,obj,U,_,U,x,dx,g,T1,i,bx,bs,W,nm,fo,U,obj,u,Z,λH5 j O p R S=>?_⟩;have B:¬x∈xm g i bs:=λz=>by obtain⟨_,e⟩:=u.kind z;rw[obj] at e;cases e
  have d:=p _ _ B obj;have C:=ft.keep (H':=H5) λc o hc e=>p c o (λz=>v c z hc) e;have b:∀c∈xm g i j,c∈xm g i bs:=λc hc=>by
   rcases QH.mp hc with z|z|z
   .exact QH.mpr (.inl z)
   .exact QH.mpr (.inr (.inl z))
   .obtain⟨q,D,rfl⟩:=qw.mp z;exact QH.mpr (.inr (.inr (qw.mpr ⟨q,R q D,U⟩)))
  have F:¬nm∈(without bx nm).map (·.1):=λz=>by
   unfold L2.without at z;exact(Wi (f:=λr:qc×qc=>r.1).mp z).2 rfl
  have wl:(without bx nm).length<bx.length:=by
   have V:((without bx nm).map (·.1)++[nm]).Nodup:=YC (VF u.nd) F;have t:=Ut V (l:=bx.map (·.1)) λm hm=>by
    rcases qF.mp hm with z|z
    .unfold L2.without at z;exact(Wi (f:=λr:qc×qc=>r.1).mp z).1
    .rw[qt.mp z];exact L
   rw[qA,qY,ql,ql] at t;omega
  have hfew:=u.few;refine⟨_,U,x,dx,_,U,d,U,_,U,_,U,x,dx,g,T1,i,without bx nm,j,W,nm,J,U,d,O,UI.mpr F,⋯,N,λH6 G X s I=>?_⟩;have Y:¬x∈xm g i j:=λz=>B (b x z);refine k H6 (xm g i G++vg T1 tg) ⟨dx,g,T1,i,G,tg,s _ _ Y d,X,C.keep λc o hc e=>s c o (λz=>v c (b c z) hc) e,λc V t=>?_,λm=>?_,by rw[qA,qY];omega,U⟩ (λc o hc e=>s c o (λz=>hc (qS _ (b c z))) (p c o (λz=>hc (qS _ z)) e)) λc hc=>?_
  .rcases QH.mp V with z|z|z
   .exact v c (QH.mpr (.inl z)) t
   .exact v c (QH.mpr (.inr (.inl z))) t
   .obtain⟨q,D,rfl⟩:=qw.mp z;rcases I q D with y|y
    .exact v _ (b _ (QH.mpr (.inr (.inr (qw.mpr ⟨q,y,U⟩))))) t
    .obtain⟨_,e⟩:=C.kind t;rw[y] at e;cases e
  .rw[nq m,qE,qF];unfold L2.without;rw[Wi (f:=λr:qc×qc=>r.1)];constructor
   .intro h;by_cases e:m=nm
    .exact .inr (by rw[e];exact qB)
    .exact .inl ⟨h,e⟩
   .rintro(h|h)
    .exact h.1
    .rw[qt.mp h];exact L
  .rcases qF.mp hc with z|z
   .rcases QH.mp z with z|z|z
    .exact .inl (qS _ (QH.mpr (.inl z)))
    .exact .inl (qS _ (QH.mpr (.inr (.inl z))))
    .obtain⟨q,D,rfl⟩:=qw.mp z;rcases I q D with y|y
     .exact .inl (qS _ (b _ (QH.mpr (.inr (.inr (qw.mpr ⟨q,y,U⟩))))))
     .exact .inr (S _ y)
   .exact .inl (qy _ z)
theorem PM(T:Txt P w K mg base a fd):T.k jg 2 89 (Mg a):=by
 refine(T.D 89).ok (sc 89) (λcdv A outer st H vs Q E hr h=>?_) (λvs H Q E h=>by obtain⟨x,m,bx,mk,W,M,n,Fo,nm,fo,ss,rfl,_⟩:=h;rfl)
 .obtain⟨x,m,bx,mk,W,M,n,Fo,nm,fo,ss,rfl,⟨dx,f,T1,g,bs,tg,obj,fi,G,dj,nq,l,rfl⟩,hn40,L,hfo,hm,hss,k⟩:=h;have hu:=Yx hr;refine⟨_,(Qd (Qw (T.cl (Em T) (zj (pv 1) (zj (Ql (pv 0) U) Qg))))
   (Qd (Ys hu (Ql (pv 0) U) (pv 1) Q7 rfl)
   (Qd (QG (Qx Ht (pv 3) XI) (Qe (Y9 zJ rfl (Yt (pv 3)) (Yc (i:=4) (sc 89).nd) (Qe (Ys hu (Ym hu (Ql (pv 0) U) (pv 1)) (pv 4) Uz rfl)))) Qq)
   (Qe (Qw (T.me (pv 0) (T 0) (T 58) (CY T) (zj (pv 1) (zj (pv 2) Qg)))))))),?_⟩
  have O:¬nm∈tg.map (·.1):=λz=>UI.mp L ((nq nm).mp z);have tl:tg.length<=bx.length:=by
   have:=Ut G.nd λm hm=>(nq m).mp hm;rw[ql,ql] at this;exact this
  have hmf:=G.mf;have R:T1∈vg T1 tg:=Q4.mpr (.inl rfl);refine⟨_,U,_,U,x,_,dx,_,_,U,obj,(T 0),(T 13),Y6 f T1 g,nm,f,_,U,fi.vE,(by rw[Yp,L];rfl),?_⟩;intro p J;have xp:x≠p:=Qc obj J;have Tp:T1≠p:=Qc G.t_ J;have mp:m≠p:=Qc hm J;have mT:m≠T1:=QM hm G.t_ λz=>nomatch z;have xT:x≠T1:=QM obj G.t_ λz=>nomatch z;refine⟨_,U,x,_,dx,_,_,U,(by rw[Qa xp];exact obj),(T 0),(T 19),Va f T1 g,_,U,T1,_,U,Uy.k (k:=Sum.inr nm) (by rw[Qa Tp];exact G.t_) (by rw[GW];exact QI ⋯),?_⟩;rw[GV ((nm,p):qc×qd) O rfl rfl];have k2:∀c o,c≠T1->H c=some o->(upd (upd H p (.dK [])) T1 (.dK (yz (tg++[((nm,p):qc×qd)])))) c=some o:=λc o ne e=>by rw[Qa ne,Qa (Qc e J)];exact e
  have t2:(upd (upd H p (.dK [])) T1 (.dK (yz (tg++[((nm,p):qc×qd)])))) T1=some (.dK (yz (tg++[((nm,p):qc×qd)]))):=Qb;have p2:(upd (upd H p (.dK [])) T1 (.dK (yz (tg++[((nm,p):qc×qd)])))) p=some (.dK (Qo [])):=by rw[Qa Tp.symm];exact Qb
  show V0 _ _ _ _ (upd (upd H p (.dK [])) T1 (.dK (yz (tg++[((nm,p):qc×qd)]))));generalize upd (upd H p (.dK [])) T1 (.dK (yz (tg++[((nm,p):qc×qd)])))=H2 at k2 t2 p2;have ntp:¬p∈tg.map (·.2):=λz=>by
   obtain⟨q,N,eq⟩:=qw.mp z;have:=(G.at_ q N).1;rw[eq,J] at this;cases this
  have S:FT H2 T1 (tg++[((nm,p):qc×qd)]) (YS mk nm []) M:=G.new O ntp Tp.symm ⋯ z6 nofun (λq N o e=>k2 _ _ (G.at_ q N).2.1 e) p2 t2;have fi2:FI H2 f g bx bs W:=fi.keep λc o hc e=>k2 c o (λz=>dj c hc (by rw[z];exact R)) e;have s:∀c∈xm f g bs,¬c∈vg T1 (tg++[((nm,p):qc×qd)]):=λc hc z=>by
   rcases Q4.mp z with z|z
   .exact dj c hc (Q4.mpr (.inl z))
   .rw[qE] at z;rcases qF.mp z with z|z
    .exact dj c hc (Q4.mpr (.inr z))
    .obtain⟨_,e⟩:=fi.kind hc;rw[qt.mp z,J] at e;cases e
  have I:((nm,p):qc×qd)∈tg++[((nm,p):qc×qd)]:=qy _ qB;have hpF:p∈vg T1 (tg++[((nm,p):qc×qd)]):=Q4.mpr (.inr (qw.mpr ⟨_,I,U⟩));have uy:xI (xm f g bs++vg T1 tg) H H2:=λc o hc e=>k2 c o (λz=>hc (qy _ (by rw[z];exact R))) e;refine⟨_,U,U,_,U,QT ?_⟩;refine⟨_,U,m,U,⟨_,zN.of (k2 _ _ mT hm)⟩,YQ (K:=K) (a:=m) (xs:=ss.map V.str) (λj σ F=>∃(o:Option V),σ=[some (.ref x),some (.str nm),some (.str fo),some (.ref m),o]/\F x=some (.ins (a 96) dx (VA f T1 g))/\FI F f g bx bs W/\FT F T1 (tg++[((nm,p):qc×qd)]) (YS mk nm ((ss.take j).foldl YG [])) M/\F m=some (.lst (ss.map V.str))/\xI (xm f g bs++vg T1 tg) H F)
   ⟨none,U,k2 _ _ xT obj,fi2,by rw[xO];exact S,k2 _ _ mT hm,uy⟩ ?_ ?_ ?_⟩
  .rintro j σ F _ ⟨o,rfl,b,B,d,m4,C⟩;exact zN.of m4
  .rintro j v σ F X ⟨o,rfl,b,B,d,m4,C⟩;obtain⟨y,hy,rfl⟩:∃y,ss[j]?=some y/\V.str y=v:=by
    rw[qQ] at X
    cases e:ss[j]? with
    |none=>rw[e] at X;cases X
    |some t=>rw[e] at X;exact⟨t,U,qW X⟩
   have et:ss.take (j+1)=ss.take j++[y]:=by rw[zR,hy];rfl
   have hvd:Qy (yz (tg++[((nm,p):qc×qd)])) (Sum.inr nm)=some (V.ref p):=Q9 (r:=((nm,p):qc×qd)) d.nd I;obtain⟨Z,_,D,Y⟩:=d.at_ _ I;have Z:F p=some (.dK (Qo (YS mk nm ((ss.take j).foldl YG []) nm))):=Z;have D:(YS mk nm ((ss.take j).foldl YG []) nm).Nodup:=D;have Y:∀z∈YS mk nm ((ss.take j).foldl YG []) nm,z∈M:=Y;rw[Yv] at Z D Y;have hyl:=Ut D Y;refine⟨_,U,x,_,dx,_,_,U,b,(T 0),(T 19),Va f T1 g,_,U,T1,_,U,(by rw[<-hvd];exact Yg.k (k:=Sum.inr nm) d.t_),_,U,p,_,U,Uy.k (k:=Sum.inr y) Z (by rw[Qo,ql];exact QI ⋯),?_⟩;rw[Hl];refine⟨_,U,by rw[Qa xp];exact b,B.keep λc o hc e=>by rw[Qa (λz=>s c hc (by rw[z];exact hpF))];exact e,?_,by rw[Qa mp];exact m4,C.upd (.inr J)⟩;rw[et,wW];refine(d.set I (ys:=YG ((ss.take j).foldl YG []) y) (EU D) (λz hz=>?_) (λq _ ne o e=>by rw[Qa ne];exact e) Qb (by rw[Qa Tp];exact d.t_)).congr λt=>?_
   .rcases Bz.mp hz with u|u
    .exact Y z u
    .rw[u];exact hss y (zv hy)
   .by_cases e:t=nm
    .rw[e,Yv,Yv];rfl
    .rw[YE e,YE e,YE e]
  .rintro σ F ⟨o,rfl,b,B,d,m4,C⟩;rw[ql,jH] at d;refine⟨_,U,x,dx,_,U,b,U,_,U,_,U,x,dx,f,T1,g,bx,bs,W,nm,fo,U,b,B,L,⋯,hfo,λH5 X fi5 D Y=>?_⟩;have nx1:¬x∈xm f g bs:=λz=>by obtain⟨_,e⟩:=fi.kind z;rw[obj] at e;cases e
   have fr4:∀c,F c=none->H c=none:=λc e=>by
    cases q:H c with
    |none=>rfl
    |some o=>
     by_cases z:c∈xm f g bs++vg T1 tg
     .rcases qF.mp z with z|z
      .obtain⟨_,Z⟩:=B.kind z;rw[e] at Z;cases Z
      .have z2:c∈vg T1 (tg++[((nm,p):qc×qd)]):=by
        rcases Q4.mp z with u|u
        .exact Q4.mpr (.inl u)
        .exact Q4.mpr (.inr (by rw[qE];exact qS _ u))
       obtain⟨_,Z⟩:=d.kind z2;rw[e] at Z;cases Z
     .rw[C c o z q] at e;cases e
   refine k H5 (xm f g X++vg T1 (tg++[((nm,p):qc×qd)])) ⟨dx,f,T1,g,X,_,D _ _ nx1 b,fi5,d.keep λc o hc e=>D c o (λz=>s c z hc) e,λc h1 Z=>?_,λm=>?_,by rw[qA,qY];omega,U⟩ (λc o hc e=>D c o (λz=>hc (qS _ z)) (C c o hc e)) λc hc=>?_
   .rcases QH.mp h1 with z|z|z
    .exact s c (QH.mpr (.inl z)) Z
    .exact s c (QH.mpr (.inr (.inl z))) Z
    .obtain⟨q,N,rfl⟩:=qw.mp z;rcases Y q N with y|y
     .exact s _ (QH.mpr (.inr (.inr (qw.mpr ⟨q,y,U⟩)))) Z
     .obtain⟨_,e⟩:=d.kind Z;rw[y] at e;cases e
   .rw[qE,qE,qF,qF,nq m];exact Iff.rfl
   .rcases qF.mp hc with z|z
    .rcases QH.mp z with z|z|z
     .exact .inl (qS _ (QH.mpr (.inl z)))
     .exact .inl (qS _ (QH.mpr (.inr (.inl z))))
     .obtain⟨q,N,rfl⟩:=qw.mp z;rcases Y q N with y|y
      .exact .inl (qS _ (QH.mpr (.inr (.inr (qw.mpr ⟨q,y,U⟩)))))
      .exact .inr (fr4 _ y)
    .rcases Q4.mp z with z|z
     .exact .inl (qy _ (Q4.mpr (.inl z)))
     .rw[qE] at z;rcases qF.mp z with u|u
      .exact .inl (qy _ (Q4.mpr (.inr u)))
      .rw[qt.mp u];exact .inr J
def nMk(bx:Rows)(mk:qc->qg)(a y:qc):Nat:=((QL bx a).filter λn=>decide (y∈mk n)).length
inductive Ax(a:jk)(vs:qa V)(H:Hp)(Q:VK)(E:XK):Prop
 |mk:∀(x:qd)(bx:Rows)(mk:qc->qg)(W M:qg)(n:Nat)(F:qa qd)(fo y:qc),vs=[.ref x,.str fo,.str y]->FO a H x bx mk W M n F->(∀H',Qi H H'->Q (.int (nMk bx mk fo y)) H')->Ax a vs H Q E
inductive Az(a:jk)(vs:qa V)(H:Hp)(Q:VK)(E:XK):Prop
 |mk:∀(x:qd)(bx:Rows)(mk:qc->qg)(W M:qg)(n:Nat)(F:qa qd)(fo:qc),vs=[.ref x,.str fo]->FO a H x bx mk W M n F->(∀l H',H l=none->Qi H H'->H' l=some (.tup [.int ((QL bx fo).length:Nat),.int (((QL bx fo).length:Nat)-(nMk bx mk fo "seen":Nat))])->Q (.ref l) H')->Az a vs H Q E
theorem AA{d:qd}(e:H d=some o)(s:∀b u,b≠d->H b=some u->H1 b=some u):Qi H (upd H1 d o):=λb u q=>by
 by_cases z:b=d
 .rw[z] at q⊢;rw[e] at q;cases q;exact Qb
 .rw[Qa z];exact s b u z q
theorem Eo(T:Txt P w K mg base a fd):T.k jg 1 47 (Ax a):=by
 refine T.ok 47 (λcdv A outer st H vs Q E hr h=>?_)
 .obtain⟨x,bx,mk,W,M,n,Fo,f,y,rfl,⟨dx,g,T1,q,bs,tg,obj,i,J,Y,nq,l,rfl⟩,k⟩:=h;have L:=Yx hr;have Z:=i.few;have hrl:=Wb bx f;refine⟨_,(Qe (Hn (Qp (Qs QU rfl (T 3) zx (zj (UZ (sc:=Qr (sO 47)) (N:=(nn 47)) (fr:=[(2,"word"),(0,"self")]) (wN rfl rfl) rfl rfl rfl (MP (Uo L (Ql (pv 0) U) (pv 1) Q7 ⟨U,U,U,U⟩)) (λ_ _ _ _=>WA (Y0 (W4 L (pv 1) (Ym L (Kx K (pv 2) U) (pv 0))))) (λ_ _ _ _=>(pv 0))) Qg))))),?_⟩;by_cases O:f∈bs.map (·.1)
  .obtain⟨d,hd⟩:=YN O;have R:Qy (yz bs) (Sum.inr f)=some (V.ref d):=Q9 (r:=((f,d):qc×qd)) i.bd.nd hd;obtain⟨v,dX,dN,_,_⟩:=i.bd.at_ _ hd;have v:H d=some (.dK (Qo (QL bx f))):=v;have B:d∈xm g q bs:=QH.mpr (.inr (.inr (qw.mpr ⟨_,hd,U⟩)));have xd:x≠d:=QM obj v λz=>nomatch z;refine⟨d,_,v,λj=>?_⟩;have k1:∀c o,c≠d->H c=some o->(upd H d (.jO j (.dK (Qo (QL bx f))))) c=some o:=λc o ne e=>by rw[Qa ne];exact e
   have s:(upd H d (.jO j (.dK (Qo (QL bx f))))) d=some (.jO j (.dK (Qo (QL bx f)))):=Qb;generalize upd H d (.jO j (.dK (Qo (QL bx f))))=H1 at k1 s;refine⟨_,U,x,_,dx,_,_,U,k1 _ _ xd obj,(T 0),(T 11),YK g T1 q,q,U,.inl ⟨_,.inl (k1 _ _ dN.symm i.br)⟩,_,U,λp C=>?_⟩;have s2:Qi H1 (upd H1 p (.dK [])):=Qi.zq C;refine⟨_,Yg.k (k:=Sum.inr f) (s2 _ _ (k1 _ _ dN.symm i.br)),?_⟩;rw[R];generalize upd H1 p (.dK [])=F at s2;have I:=s2 _ _ s;refine⟨d,Qo (QL bx f),U,.inl ⟨j,I,Wu (xs:=QL bx f) V.str (λz=>decide (y∈mk z)) V.str (Yd (⋯)) I (by unfold Qo;rw[zg];rfl) ?_ ?_ ?_⟩⟩
   .intro z H5 Q' hz s5 t;have S:=(nq z).mpr (Wa hz);obtain⟨G,m⟩:=YN S;have X:Qy (yz tg) (Sum.inr z)=some (V.ref G):=Q9 (r:=((z,G):qc×qd)) J.nd m;have ez:H G=some (.dK (Qo (mk z))):=(J.at_ _ m).1;have zd:G≠d:=λe=>Y d B (Q4.mpr (.inr (qw.mpr ⟨_,m,e⟩)));have Td:T1≠d:=λe=>Y d B (Q4.mpr (.inl e.symm));refine⟨_,U,_,U,x,_,dx,_,_,U,s5 _ _ (s2 _ _ (k1 _ _ xd obj)),(T 0),(T 19),Va g T1 q,_,U,T1,_,U,(by rw[<-X];exact Yg.k (k:=Sum.inr z) (s5 _ _ (s2 _ _ (k1 _ _ Td J.t_)))),G,_,U,Yg.k (k:=Sum.inr y) (s5 _ _ (s2 _ _ (k1 _ _ zd ez))),_,U,?_⟩;rw[UM];by_cases e:y∈mk z
    .rw[qP e];rw[qx e] at t;exact t
    .rw[qJ e];rw[qD e] at t;exact t
   .intro z H5 Q' hz s5 _ t;exact⟨_,U,t⟩
   .intro D m;have t:d≠D:=Qc I m;refine⟨D,_,U,.inl (zN.of Qb),⟨by rw[Qa t];exact I,?_⟩⟩;rw[ql];exact k _ (AA v λb u ne e=>by rw[Qa (Qc (s2 _ _ (k1 b u ne e)) m)];exact s2 _ _ (k1 b u ne e))
  .have R:Qy (yz bs) (Sum.inr f)=none:=UJ O;have I:QL bx f=[]:=i.bd.ko f O;have S:x≠g:=QM obj i.vE λz=>nomatch z;refine⟨g,_,i.vE,λj=>?_⟩;have k1:∀c o,c≠g->H c=some o->(upd H g (.jO j (.dK (QK bx)))) c=some o:=λc o ne e=>by rw[Qa ne];exact e
   have s:(upd H g (.jO j (.dK (QK bx)))) g=some (.jO j (.dK (QK bx))):=Qb;generalize upd H g (.jO j (.dK (QK bx)))=H1 at k1 s;refine⟨_,U,x,_,dx,_,_,U,k1 _ _ S obj,(T 0),(T 11),YK g T1 q,q,U,.inl ⟨_,.inl (k1 _ _ i.ne.symm i.br)⟩,_,U,λp C=>?_⟩;have s2:Qi H1 (upd H1 p (.dK [])):=Qi.zq C;have B:(upd H1 p (.dK [])) p=some (.dK []):=Qb;refine⟨_,Yg.k (k:=Sum.inr f) (s2 _ _ (k1 _ _ i.ne.symm i.br)),?_⟩;rw[R];have X:g≠p:=Qc s C;generalize upd H1 p (.dK [])=F at s2 B;refine⟨p,[],U,.inr ⟨B,λt=>?_⟩⟩;have v:(upd F p (.jO t (.dK []))) g=some (.jO j (.dK (QK bx))):=by rw[Qa X];exact s2 _ _ s
   have G:(upd F p (.jO t (.dK []))) p=some (.jO t (.dK [])):=Qb;have k3:∀c o,H1 c=some o->(upd F p (.jO t (.dK []))) c=some o:=λc o e=>by rw[Qa (Qc e C)];exact s2 _ _ e
   generalize upd F p (.jO t (.dK []))=H3 at v G k3;refine Wu (xs:=([]:qg)) V.str (λz=>decide (y∈mk z)) V.str (za _) G rfl nofun nofun λD m=>?_;have XD:g≠D:=Qc v m;refine⟨D,_,U,.inl (zN.of Qb),⟨by rw[Qa XD];exact v,?_⟩⟩;have en:((([]:qg).filter λz=>decide (y∈mk z)).map V.str).length=nMk bx mk f y:=by unfold nMk;rw[I];rfl
   rw[en];exact k _ (AA i.vE λb u ne e=>by rw[Qa (Qc (k3 _ _ (k1 b u ne e)) m)];exact k3 _ _ (k1 b u ne e))
theorem Er(T:Txt P w K mg base a fd):T.k jg 2 46 (Az a):=by
 refine T.ok 46 (λo A outer st H vs Q E q h=>?_)
 .obtain⟨x,bx,mk,W,M,n,s,b,rfl,hf,k⟩:=h;obtain⟨dx,t,T1,j,bs,tg,obj,c,B,C,D,l,e⟩:=id hf;have v:=Yx q;refine⟨_,(Qd (Qv (i:=2) (sc 46).nd (Qs Lv rfl (T 3) zx (zj (Uo v (Ql (pv 0) U) (pv 1) Q7 ⟨U,U,U,U⟩) Qg)))
   (Qe (Qp (UY (Qf (pv 2) (Qf (Qn Eg (pv 2) (T.me (pv 0) (T 0) (T 99) (Eo T) (zj (pv 1) (zj (Vu rfl (T 77)) Qg)))) Qu)))))),?_⟩
  refine⟨_,U,x,_,dx,_,_,U,obj,(T 0),(T 11),YK t T1 j,j,U,.inl ⟨_,.inl c.br⟩,_,U,λp y=>?_⟩;have s1:Qi H (upd H p (.dK [])):=Qi.zq y;refine⟨_,Yg.k (k:=Sum.inr b) (s1 _ _ c.br),?_⟩;have hd:∃d,((Qy (yz bs) (Sum.inr b)).getD (V.ref p))=V.ref d/\(upd H p (.dK [])) d=some (.dK (Qo (QL bx b))):=by
   by_cases f:b∈bs.map (·.1)
   .obtain⟨d,hd⟩:=YN f;have g:Qy (yz bs) (Sum.inr b)=some (V.ref d):=Q9 (r:=((b,d):qc×qd)) c.bd.nd hd;rw[g];exact⟨d,U,s1 _ _ (c.bd.at_ _ hd).1⟩
   .have g:Qy (yz bs) (Sum.inr b)=none:=UJ f;rw[g];exact⟨p,U,by rw[Qb,c.bd.ko b f];rfl⟩
  obtain⟨d,z,m⟩:=hd;rw[z];refine⟨d,_,U,m,?_⟩;have f:(Qo (QL bx b)).length=(QL bx b).length:=by unfold Qo;rw[ql]
  rw[f];generalize upd H p (.dK [])=H1 at s1 m;refine⟨_,U,_,U,_,U,x,dx,_,U,s1 _ _ obj,U,_,U,x,bx,mk,W,M,n,s,b,"seen",U,hf.same s1,λF s2=>?_⟩;refine⟨_,_,U,U,V1,λu g=>?_⟩;exact k u _ ((s1.trans s2).free g) ((s1.trans s2).jl ((s1.trans s2).free g)) Qb
abbrev OT:=qd×qc
def gY(bx:Rows)(f:qc):Int:=((QL bx f).length:Nat)
def cU(bx:Rows)(mk:qc->qg)(f:qc):Int:=((QL bx f).length:Nat)-(nMk bx mk f "seen":Nat)
def R4(H:Hp)(l:qd)(bx:Rows)(mk:qc->qg)(a:qa OT):Prop:=H l=some (.lst (a.map λq=>V.ref q.1))/\∀q∈a,H q.1=some (.tup [.str q.2,.int (gY bx q.2),.int (cU bx mk q.2)])
inductive Xd(a:jk)(vs:qa V)(H:Hp)(Q:VK):Prop
 |mk:∀(x:qd)(bx:Rows)(mk:qc->qg)(W M:qg)(n:Nat)(F:qa qd),vs=[.ref x]->FO a H x bx mk W M n F->(∀l H' fs ks,ks.Nodup->ks.length<=20->(∀t,t∈ks↔QL bx t≠[])->fs.map (·.2)=Q3 ks->H l=none->Qi H H'->R4 H' l bx mk fs->Q (.ref l) H')->Xd a vs H Q
def K2(a:jk):Sp:=λvs H Q _=>Xd a vs H Q
theorem C2(T:Txt P w K mg base a fd):T.k jg 3 49 (K2 a):=by
 refine T.ok 49 (λY A outer st H vs Q E hr h=>?_)
 .obtain⟨x,bx,mk,W,M,n,Z,rfl,hf,k⟩:=h;obtain⟨dx,X1,T1,L,bs,tg,obj,g,ft,dj,nq,l,e⟩:=id hf;have hbl:=g.bd.len;have hwf:=g.wf;refine⟨_,(Qd (Qv (i:=1) (sc 49).nd (Kw Qu))
   (Qd (Y9 zJ rfl (Yt (Qs (UH rfl) rfl (T 14) boot_sorted (zj (Ql (pv 0) U) Qg))) (Yc (i:=2) (sc 49).nd) (Qd (Qv (i:=3) (sc 49).nd (T.me (pv 0) (T 0) (T 98) (Er T) (zj (pv 2) Qg)))
   (Qe (Qw (WW plainAttrs_list je jf YL (pv 1) (zj (UY (Qf (pv 2) (Qf (Qt QA (pv 3) Qj) (Qf (Qt QA (pv 3) Qj) Qu)))) Qg))))))
   (Qe (Qp (pv 1))))),?_⟩
  refine⟨LG,λq N=>?_⟩;have s1:Qi H (upd H q (.lst [])):=Qi.zq N;have F:(upd H q (.lst [])) q=some (.lst []):=Qb;show V0 _ _ _ _ (upd H q (.lst []));generalize upd H q (.lst [])=H1 at s1 F;refine⟨_,U,x,_,dx,_,_,U,s1 _ _ obj,(T 0),(T 11),YK X1 T1 L,L,yz bs,bs.map (·.1),U,s1 _ _ g.br,Rp _ _ _,by rw[ql];omega,λm hm=>?_⟩;have s2:Qi H1 (upd H1 m (.lst ((Q3 (bs.map (·.1))).map V.str))):=Qi.zq hm;have r:(upd H1 m (.lst ((Q3 (bs.map (·.1))).map V.str))) m=some (.lst ((Q3 (bs.map (·.1))).map V.str)):=Qb;have O:=s2 _ _ F;have qm:q≠m:=Qc F hm;generalize upd H1 m (.lst ((Q3 (bs.map (·.1))).map V.str))=H2 at s2 r O;have G:(Q3 (bs.map (·.1))).length<=20:=by rw[UE,ql];omega
  generalize I:Q3 (bs.map (·.1))=ns at r G;have R:H q=none:=N;refine⟨m,U,⟨_,zN.of r⟩,YQ (K:=K) (a:=m) (xs:=ns.map V.str) (λi σ f=>∃(b:qa OT)(s B:Option V),σ=[some (.ref x),some (.ref q),s,B]/\Qi H f/\R4 f q bx mk b/\b.map (·.2)=ns.take i/\f m=some (.lst (ns.map V.str)))
   ⟨[],none,none,U,s1.trans s2,⟨O,nofun⟩,by rw[xO];rfl,r⟩ ?_ ?_ ?_⟩
  .rintro i σ f _ ⟨b,s,B,rfl,s4,f4,j,C⟩;exact zN.of C
  .rintro i v σ f o ⟨b,s,B,rfl,s4,f4,j,C⟩;obtain⟨t,p,rfl⟩:∃y,ns[i]?=some y/\V.str y=v:=by
    rw[qQ] at o
    cases e:ns[i]? with
    |none=>rw[e] at o;cases o
    |some t=>rw[e] at o;exact⟨t,U,qW o⟩
   have et:ns.take (i+1)=ns.take i++[t]:=by rw[zR,p];rfl
   have hfl:b.length<=20:=by
    have:=zt List.length j;rw[ql,zY] at this;omega
   refine⟨_,U,x,dx,_,U,s4 _ _ obj,U,_,U,x,bx,mk,W,M,n,Z,t,U,hf.same s4,λc J nc s5 S=>?_⟩;refine⟨_,U,.inl ⟨U,_,zN.of (s5 _ _ f4.1)⟩,_,U,_,U,c,_,_,_,U,U,jj.of S,U,_,U,c,_,_,_,U,U,jj.of S,U,H0,λu X=>?_⟩;have D:Qi J (upd J u (.tup [.str t,.int (gY bx t),.int (cU bx mk t)])):=Qi.zq X;have u6:(upd J u (.tup [.str t,.int (gY bx t),.int (cU bx mk t)])) u=some (.tup [.str t,.int (gY bx t),.int (cU bx mk t)]):=Qb;refine⟨q,_,_,U,U,D _ _ (s5 _ _ f4.1),(by rw[ql];exact QI ⋯),?_⟩;have uq:u≠q:=(Qc (s5 _ _ f4.1) X).symm;have el:(b.map λq=>V.ref q.1)++[V.ref u]=(b++[((u,t):OT)]).map λq=>V.ref q.1:=by rw[qE];rfl
   rw[el];refine⟨b++[((u,t):OT)],_,_,U,((s4.trans s5).trans D).jl R,⟨Qb,λz hz=>?_⟩,by rw[qE,j,et];rfl,by rw[Qa qm.symm];exact D _ _ (s5 _ _ C)⟩;rcases qF.mp hz with y|y
   .rw[Qa (QM (f4.2 z y) f4.1 λz=>nomatch z)];exact D _ _ (s5 _ _ (f4.2 z y))
   .rw[qt.mp y,Qa uq];exact u6
  .rintro σ f ⟨b,s,B,rfl,s4,f4,j,C⟩;rw[ql,jH] at j;refine⟨_,U,k q f b (bs.map (·.1)) g.bd.nd (by rw[ql];omega) (λt=>⟨λp=>?_,λp=>?_⟩) (by rw[I];exact j) R s4 f4⟩
   .obtain⟨d,hd⟩:=YN p;exact(g.bd.at_ _ hd).2.2.2.1
   .exact yt λz=>p (g.bd.ko t z)
inductive wo(K:Frag)(vs:qa V)(H:Hp)(Q:VK)(E:XK):Prop
 |mk:∀(a:qd)(ns:qa Int),vs=[.ref a]->zN K H a (ns.map V.int)->ns.length<=63->(∀H',Q (.bl true) H')->wo K vs H Q E
theorem RS :kitOne K (.type "list") (.type "list")=some true:=by unfold kitOne;rw[qP (z8 _)]
theorem BM{a b:qc}:decide (V.str a=V.str b)=decide (a=b):=by
 by_cases h:a=b
 .rw[h,qx rfl,qx rfl]
 .rw[qD h,qD λz=>h (V.str.inj z)]
abbrev NW:=qa (qc×qg)
variable {R:NW}
def Y2(R:NW)(t:qc):qg:=(R.filter λr=>decide (t∈r.2)).map (·.1)
theorem LA(R:NW)(n:qc)(ws:qg)(t:qc):Y2 (R++[(n,ws)]) t=Y2 R t++if t∈ws then [n] else []:=by
 unfold Y2;rw[zz,qE];by_cases h:t∈ws<;>simp[zk,h]
theorem GZ{n:qc}:n∈Y2 R t↔∃ws,(n,ws)∈R/\t∈ws:=by
 unfold Y2;constructor
 .intro h;obtain⟨r,a,rfl⟩:=qw.mp h;exact⟨r.2,(qX.mp a).1,qH (qX.mp a).2⟩
 .rintro⟨ws,a,b⟩;exact qw.mpr ⟨(n,ws),qX.mpr ⟨a,qx b⟩,U⟩
theorem OH{n:qc}(h:n∈Y2 R t):n∈R.map (·.1):=let ⟨ws,a,_⟩:=GZ.mp h;qw.mpr ⟨(n,ws),a,U⟩
theorem OJ(R:NW)(t:qc):(Y2 R t).length<=R.length:=by unfold Y2;rw[ql];exact zh _ _
def uo(R:NW)(n:qc):NW:=R.filter λr=>decide (r.1≠n)
theorem OI(R:NW)(n t:qc):Y2 (uo R n) t=(Y2 R t).filter λm=>decide (m≠n):=by
 unfold Y2 uo;rw[jB,xK,xK];congr 1;refine kx λr _=>?_;show(decide (t∈r.2)&&decide (r.1≠n))=(decide (r.1≠n)&&decide (t∈r.2));rw[Bool.and_comm]
theorem S9(e:(R.map (·.1)).Nodup){n:qc}{a b:qg}(d:(n,a)∈R)(c:(n,b)∈R):a=b:=by
 induction R with
 |nil=>cases d
 |cons r R h=>
  rw[zf,zV] at e;rcases qC.mp d with f|d
  .rcases qC.mp c with g|c
   .rw[<-g] at f;exact(vN f).2
   .exact absurd (qw.mpr ⟨_,c,by rw[<-f]⟩) e.1
  .rcases qC.mp c with g|c
   .exact absurd (qw.mpr ⟨_,d,by rw[<-g]⟩) e.1
   .exact h e.2 d c
abbrev Ue:=qc×qd×qg
abbrev UP(rows:qa Ue):qa (Key×V):=dG (·.1) (λr=>V.ref r.2.1) rows
def YD(rows:qa Ue):NW:=rows.map λr=>(r.1,r.2.2)
theorem Gq(rows:qa Ue):(YD rows).map (·.1)=rows.map (·.1):=by unfold YD;rw[zg];rfl
theorem Gr(rows:qa Ue):(YD rows).length=rows.length:=ql _
structure IX(a:jk)(H:Hp)(x dx E B:qd)(rows:qa Ue)(bs:qa (qc×qd))(W:qg):Prop where
 obj:H x=some (.ins (a 97) dx [(Ze,.ref E),(Zn,.ref B)])
 en:H E=some (.dK (UP rows))
 br:H B=some (.dK (yz bs))
 eb:E≠B
 ls:∀r∈rows,H r.2.1=some (.lst (r.2.2.map V.str))/\SS r.2.2=r.2.2/\∀w∈r.2.2,w∈W
 nd:(rows.map (·.1)).Nodup
 few:rows.length<=40
 wf:W.length<=20
 bd:BD H E B bs (Y2 (YD rows)) W
def vI(E B:qd)(rows:qa Ue)(bs:qa (qc×qd)):qa qd:=E::B::(bs.map (·.2)++rows.map (·.2.1))
inductive vG(a:jk)(H:Hp)(x:qd)(R:NW)(W:qg)(n:Nat)(F:qa qd):Prop
 |mk:∀dx E B rows bs,IX a H x dx E B rows bs W->YD rows=R->R.length<=n->F=vI E B rows bs->vG a H x R W n F
theorem Yh{rows:qa Ue}  :c∈vI E B rows bs↔c=E\/c=B\/c∈bs.map (·.2)\/c∈rows.map (·.2.1):=by
 unfold vI;rw[qC,qC,qF]
theorem IX.keep{x:qd}{rows:qa Ue}(h:IX a H x dx E B rows bs W)(k:∀c o,(c=x\/c∈vI E B rows bs)->H c=some o->H' c=some o):IX a H' x dx E B rows bs W:=
 ⟨k _ _ (.inl rfl) h.obj,k _ _ (.inr (Yh.mpr (.inl rfl))) h.en,k _ _ (.inr (Yh.mpr (.inr (.inl rfl)))) h.br,h.eb,
   λr b=>⟨k _ _ (.inr (Yh.mpr (.inr (.inr (.inr (qw.mpr ⟨r,b,U⟩)))))) (h.ls r b).1,(h.ls r b).2⟩,h.nd,h.few,h.wf,
   h.bd.congr (λp d o e=>k _ _ (.inr (Yh.mpr (.inr (.inr (.inl (qw.mpr ⟨p,d,U⟩)))))) e) λ_=>rfl⟩
theorem vG.keep{x:qd}(h:vG a H x R W n F)(k:∀c o,(c=x\/c∈F)->H c=some o->H' c=some o):vG a H' x R W n F:=by
 obtain⟨dx,E,B,rows,bs,i,b,d,rfl⟩:=h;exact⟨dx,E,B,rows,bs,i.keep k,b,d,U⟩
theorem vG.kind{x:qd}(h:vG a H x R W n F)(hc:c∈F):(∃b,H c=some (.dK b))\/∃xs,H c=some (.lst xs):=by
 obtain⟨dx,E,B,rows,bs,i,e,f,rfl⟩:=h;rcases Yh.mp hc with z|z|z|z
 .rw[z];exact .inl ⟨_,i.en⟩
 .rw[z];exact .inl ⟨_,i.br⟩
 .obtain⟨p,d,rfl⟩:=qw.mp z;exact .inl ⟨_,(i.bd.at_ p d).1⟩
 .obtain⟨r,d,rfl⟩:=qw.mp z;exact .inr ⟨_,(i.ls r d).1⟩
theorem vG.obj{x:qd}(h:vG a H x R W n F):∃dx E B,H x=some (.ins (a 97) dx [(Ze,.ref E),(Zn,.ref B)]):=let ⟨_,_,_,_,_,i,_,_,_⟩:=h;⟨_,_,_,i.obj⟩
inductive FD(a:jk)(vs:qa V)(H:Hp)(Q:VK)(E:XK):Prop
 |mk:∀(x dx:qd)(W:qg),vs=[.ref x]->W.length<=20->H x=some (.ins (a 97) dx [])->(∀H' F,(∀c o,c≠x->H c=some o->H' c=some o)->(∀c∈F,H c=none)->vG a H' x [] W 0 F->Q .non H')->FD a vs H Q E
inductive Me(a:jk)(vs:qa V)(H:Hp)(Q:VK)(E:XK):Prop
 |mk:∀(x p:qd)(R:NW)(W:qg)(n:Nat)(F:qa qd)(nm:qc)(ss:qg),vs=[.ref x,.str nm,.ref p]->vG a H x R W n F->n<40->¬nm∈R.map (·.1)->H p=some (.lst (ss.map V.str))->(∀w∈ss,w∈W)->ss.length<=60->(∀H' F',vG a H' x (R++[(nm,SS ss)]) W (n+1) F'->xI F H H'->(∀c∈F',c∈F\/H c=none)->Q .non H')->Me a vs H Q E
inductive FC(a:jk)(vs:qa V)(H:Hp)(Q:VK)(E:XK):Prop
 |mk:∀(x:qd)(R:NW)(W:qg)(n:Nat)(F:qa qd)(nm:qc),vs=[.ref x,.str nm]->vG a H x R W n F->nm∈R.map (·.1)->(∀H' F',vG a H' x (uo R nm) W n F'->xI F H H'->(∀c∈F',c∈F)->Q .non H')->FC a vs H Q E
theorem Wq(E B:qd):([(Ze,V.ref E),(Zn,V.ref B)]:qa (qc×V)).lookup Ze=some (V.ref E):=by simp[List.lookup]
theorem Vb(E B:qd):([(Ze,V.ref E),(Zn,V.ref B)]:qa (qc×V)).lookup Zn=some (V.ref B):=by
 have e:(Zn==Ze)=false:=by decide +kernel
 simp[List.lookup,e]
theorem Ng(T:Txt P w K mg base a fd):T.k jg 1 50 (FD a):=by
 refine T.ok 50 (λl A outer st H vs Q E n h=>?_)
 .obtain⟨x,dx,W,rfl,m,j,k⟩:=h;refine⟨_,(Qd (QX (pv 0) Q7 rfl)
   (Qe (QX (pv 0) Q7 rfl))),?_⟩
  intro L f;have ne1:x≠L:=Qc j f;refine⟨_,U,x,_,dx,_,U,(by rw[Qa ne1];exact j),(T 7),(T 25),∅,?_⟩;intro B b;have d:(upd (upd H L (.dK [])) x (.ins (a 97) dx (Qz Ze (.ref L) []))) x=some (.ins (a 97) dx (Qz Ze (.ref L) [])):=Qb;have g:(upd (upd H L (.dK [])) x (.ins (a 97) dx (Qz Ze (.ref L) []))) L=some (.dK []):=by rw[Qa ne1.symm];exact Qb
  have ne2:x≠B:=Qc d b;have ne3:L≠B:=Qc g b;refine⟨_,U,x,_,dx,_,U,(by rw[Qa ne2];exact d),(T 7),(T 20),(by show 1<1000;decide),?_⟩;have i:H B=none:=by rw[Qa ne2.symm,Qa ne3.symm] at b;exact b
  refine k _ (vI L B [] []) (λc o ne e=>?_) (λc hc=>?_) ⟨dx,L,B,[],[],⟨Qb,?_,?_,ne3,nofun,z6,za _,m,⟨z6,z6,nofun,λ_ _=>rfl⟩⟩,U,qz _,U⟩
  .rw[Qa ne,Qa (Qc (by rw[Qa ne,Qa (Qc e f)];exact e) b),Qa ne,Qa (Qc e f)];exact e
  .rcases Yh.mp hc with z|z|z|z
   .rw[z];exact f
   .rw[z];exact i
   .cases z
   .cases z
  .rw[Qa ne1.symm,Qa ne3,Qa ne1.symm];exact Qb
  .rw[Qa ne2.symm];exact Qb
theorem PU{rows:qa Ue}{nm:qc}(h:(nm,ws)∈YD rows):∃l,((nm,l,ws):Ue)∈rows:=by
 obtain⟨r,a,e⟩:=qw.mp h;obtain⟨b,c⟩:=vN e;exact⟨r.2.1,by rw[<-b,<-c];exact a⟩
def wz(R:NW)(nm:qc)(pre:qg):qc->qg:=λt=>Y2 R t++if t∈pre then [nm] else []
theorem DM{nm:qc}{pre:qg}(h:¬y∈pre)(t:qc):wz R nm (pre++[y]) t=YS (wz R nm pre) y (wz R nm pre y++[nm]) t:=by
 by_cases e:t=y
 .subst e;rw[Yv];unfold wz;rw[qJ h,qP (qy _ qB),zD]
 .rw[YE e];unfold wz;have:t∈pre++[y]↔t∈pre:=by rw[qF,qt];exact⟨λz=>z.elim id λq=>absurd q e,.inl⟩
  by_cases z:t∈pre
  .rw[qP z,qP (this.mpr z)]
  .rw[qJ z,qJ λq=>z (this.mp q)]
def gZ(R:NW)(nm:qc)(pre:qg):qc->qg:=λt=>if t∈pre then (Y2 R t).filter λm=>decide (m≠nm) else Y2 R t
theorem DL{nm:qc}{pre:qg}(t:qc):gZ R nm (pre++[y]) t=YS (gZ R nm pre) y ((Y2 R y).filter λm=>decide (m≠nm)) t:=by
 by_cases e:t=y
 .subst e;rw[Yv];exact qP (qy _ qB)
 .rw[YE e];unfold gZ;have:t∈pre++[y]↔t∈pre:=by rw[qF,qt];exact⟨λz=>z.elim id λq=>absurd q e,.inl⟩
  by_cases z:t∈pre
  .rw[qP z,qP (this.mpr z)]
  .rw[qJ z,qJ λq=>z (this.mp q)]
theorem Hw(rows:qa Ue)(r:Ue):YD (rows++[r])=YD rows++[(r.1,r.2.2)]:=by unfold YD;rw[qE];rfl
theorem Es(rows:qa Ue)(nm:qc):YD (rows.filter λr=>decide (r.1≠nm))=uo (YD rows) nm:=by
 unfold YD uo;rw[jB];rfl
theorem Ec{xs:qg}(h:(xs.map V.str)[i]?=some v):∃y,xs[i]?=some y/\v=V.str y:=by
 rw[qQ] at h
 cases e:xs[i]? with
 |none=>rw[e] at h;cases h
 |some t=>rw[e] at h;exact⟨t,U,(qW h).symm⟩
theorem V6{xs:qg}(h:xs[i]?=some y):xs.take (i+1)=xs.take i++[y]:=by rw[zR,h];rfl
theorem Nx{xs:qg}(b:xs.Nodup)(h:xs[i]?=some y):¬y∈xs.take i:=λz=>by
 have a:(xs.take i++[y]).Nodup:=by rw[<-V6 h];exact b.sublist (List.take_sublist _ _)
 rw[yh] at a;exact a.2.2 y z y qB rfl
theorem PK(T:Txt P w K mg base a fd):T.k jg 2 51 (Me a):=by
 refine T.ok 51 (λcdv A outer st H vs Q E D h=>?_)
 .obtain⟨x,p,R,W,n,Fo,nm,ss,rfl,⟨dx,E,B,rows,bs,i,rfl,hRn,rfl⟩,hn40,M,hp,hW,hss,k⟩:=h;have Z:=Yx D;rw[Gq] at M;rw[Gr] at hRn;have hwf:=i.wf;have hdd:=Oy ss;have hv0:Qy (UP rows) (Sum.inr nm)=none:=UJ M;refine⟨_,(Qd (Qw (T.cl (Em T) (zj (pv 1) (zj (Ql (pv 0) U) Qg))))
   (Qd (Ys Z (Ql (pv 0) U) (pv 1) (Qs (VY rfl) rfl (T 14) boot_sorted (zj (Yn (Kp rfl) rfl (T 55) boot_set (zj (pv 2) Qg)) Qg)) rfl)
   (Qe (Y9 zJ rfl (Yt (Ym Z (Ql (pv 0) U) (pv 1))) (Yc (i:=3) (sc 51).nd) (Qd (QG (Y0 (Ug Z (pv 3) (Ql (pv 0) U))) (Qe (Ys Z (Ql (pv 0) U) (pv 3) Q7 rfl)) Qq)
   (Qe (Ys Z (Ym Z (Ql (pv 0) U) (pv 3)) (pv 1) Uz rfl))))))),?_⟩
  refine⟨_,U,_,U,x,_,dx,_,_,U,i.obj,(T 7),(T 25),Wq E B,nm,E,_,U,i.en,hv0,?_⟩;refine⟨_,U,p,ss,U,.inl (zN.of hp),⋯,λu hu0=>⟨u,dd ss,U,Qb,⋯,λl hl=>?_⟩⟩;have s1:Qi H (upd H u (VU P w u (dd ss))):=Qi.zq hu0;have l0:H l=none:=s1.free hl;have s2:Qi H (upd (upd H u (VU P w u (dd ss))) l (.lst ((SS ss).map V.str))):=s1.jl l0;have l2:(upd (upd H u (VU P w u (dd ss))) l (.lst ((SS ss).map V.str))) l=some (.lst ((SS ss).map V.str)):=Qb;refine⟨_,U,x,_,dx,_,_,U,s2 _ _ i.obj,(T 7),(T 25),Wq E B,_,U,E,_,U,Uy.k (k:=Sum.inr nm) (s2 _ _ i.en) (by rw[GW];exact QI ⋯),?_⟩;rw[GV ((nm,l,SS ss):Ue) M rfl rfl];have xE:x≠E:=QM i.obj i.en λz=>nomatch z;have lE:l≠E:=(Qc i.en l0).symm;have N:(upd (upd (upd H u (VU P w u (dd ss))) l (.lst ((SS ss).map V.str))) E (.dK (UP (rows++[((nm,l,SS ss):Ue)])))) x=some (.ins (a 97) dx [(Ze,.ref E),(Zn,.ref B)]):=by rw[Qa xE];exact s2 _ _ i.obj
  have Y:(upd (upd (upd H u (VU P w u (dd ss))) l (.lst ((SS ss).map V.str))) E (.dK (UP (rows++[((nm,l,SS ss):Ue)])))) E=some (.dK (UP (rows++[((nm,l,SS ss):Ue)]))):=Qb;have br3:(upd (upd (upd H u (VU P w u (dd ss))) l (.lst ((SS ss).map V.str))) E (.dK (UP (rows++[((nm,l,SS ss):Ue)])))) B=some (.dK (yz bs)):=by rw[Qa i.eb.symm];exact s2 _ _ i.br
  have l3:(upd (upd (upd H u (VU P w u (dd ss))) l (.lst ((SS ss).map V.str))) E (.dK (UP (rows++[((nm,l,SS ss):Ue)])))) l=some (.lst ((SS ss).map V.str)):=by rw[Qa lE];exact l2
  have ls3:∀r∈rows,(upd (upd (upd H u (VU P w u (dd ss))) l (.lst ((SS ss).map V.str))) E (.dK (UP (rows++[((nm,l,SS ss):Ue)])))) r.2.1=some (.lst (r.2.2.map V.str)):=λr D=>by
   rw[Qa (QM (i.ls r D).1 i.en λz=>nomatch z)];exact s2 _ _ (i.ls r D).1
  have bd3:BD (upd (upd (upd H u (VU P w u (dd ss))) l (.lst ((SS ss).map V.str))) E (.dK (UP (rows++[((nm,l,SS ss):Ue)])))) E B bs (wz (YD rows) nm []) W:=i.bd.congr (λq O o e=>by rw[Qa (i.bd.at_ q O).2.1];exact s2 _ _ e) λt=>by
   show Y2 (YD rows) t++(if t∈([]:qg) then [nm] else [])=_;rw[qJ nofun,zD]
  have kp3:xI (vI E B rows bs) H (upd (upd (upd H u (VU P w u (dd ss))) l (.lst ((SS ss).map V.str))) E (.dK (UP (rows++[((nm,l,SS ss):Ue)])))):=xI.upd (λc o _ e=>s2 c o e) (.inl (Yh.mpr (.inl rfl)));show V0 _ _ _ _ (upd (upd (upd H u (VU P w u (dd ss))) l (.lst ((SS ss).map V.str))) E (.dK (UP (rows++[((nm,l,SS ss):Ue)]))));generalize upd (upd (upd H u (VU P w u (dd ss))) l (.lst ((SS ss).map V.str))) E (.dK (UP (rows++[((nm,l,SS ss):Ue)])))=H3 at N Y br3 l3 ls3 bd3 kp3;have nd3:((rows++[((nm,l,SS ss):Ue)]).map (·.1)).Nodup:=by rw[qE];exact YC i.nd M
  have hv3:Qy (UP (rows++[((nm,l,SS ss):Ue)])) (Sum.inr nm)=some (V.ref l):=Q9 (r:=((nm,l,SS ss):Ue)) nd3 (qy _ qB);have hfew:=i.few;have ndS:=R3 ss;refine⟨_,U,x,_,dx,_,_,U,N,(T 7),(T 25),Wq E B,_,U,E,_,U,(by rw[<-hv3];exact Yg.k (k:=Sum.inr nm) Y),l,U,⟨_,zN.of l3⟩,YQ (K:=K) (a:=l) (xs:=(SS ss).map V.str)
   (λj σ F=>Ex2 λ(f:qa (qc×qd))(o:Option V)=>cE (σ=[some (.ref x),some (.str nm),some (.ref p),o]) (F x=some (.ins (a 97) dx [(Ze,.ref E),(Zn,.ref B)])) (F E=some (.dK (UP (rows++[((nm,l,SS ss):Ue)])))) (F B=some (.dK (yz f))) (F l=some (.lst ((SS ss).map V.str))) ((∀r∈rows,F r.2.1=some (.lst (r.2.2.map V.str)))) (BD F E B f (wz (YD rows) nm ((SS ss).take j)) W) (xI (vI E B rows bs) H F) ((∀q∈f,q.2∈vI E B rows bs\/H q.2=none)))
   ⟨bs,none,U,N,Y,br3,l3,ls3,by rw[xO];exact bd3,kp3,λq O=>.inl (Yh.mpr (.inr (.inr (.inl (qw.mpr ⟨q,O,U⟩)))))⟩ ?_ ?_ ?_⟩
  .rintro j σ F _ ⟨f,o,rfl,b,I,m,S,C,g,J,in4⟩;exact zN.of S
  .rintro j v σ F hv ⟨f,o,rfl,b,I,m,S,C,g,J,in4⟩;obtain⟨y,hy,rfl⟩:=Ec hv;have ym:y∈SS ss:=zv hy;have yW:y∈W:=hW y (Ew.mp ym);have G:=Nx ndS hy;have hl4:=g.len;have hBF:B∈vI E B rows bs:=Yh.mpr (.inr (.inl rfl));refine⟨_,U,_,U,x,_,dx,_,_,U,b,(T 7),(T 20),Vb E B,B,_,U,Yg.k (k:=Sum.inr y) m,_,U,?_⟩;by_cases L:y∈f.map (·.1)
   .obtain⟨d,hd⟩:=YN L;have X:Qy (yz f) (Sum.inr y)=some (V.ref d):=Q9 (r:=((y,d):qc×qd)) g.nd hd;obtain⟨s,dE,dB,_,_⟩:=g.at_ _ hd;have s:F d=some (.dK (Qo (wz (YD rows) nm ((SS ss).take j) y))):=s;rw[X];have nrep:¬nm∈wz (YD rows) nm ((SS ss).take j) y:=λz=>by
     unfold wz at z;rw[qJ G,zD] at z;exact M (by rw[<-Gq];exact OH z)
    have lenb:(wz (YD rows) nm ((SS ss).take j) y).length<=40:=by
     unfold wz;rw[qJ G,zD];have:=OJ (YD rows) y;rw[Gr] at this;omega
    refine QC ⟨_,U,x,_,dx,_,_,U,b,(T 7),(T 20),Vb E B,_,U,B,_,U,(by rw[<-X];exact Yg.k (k:=Sum.inr y) m),_,U,d,_,U,Uy.k (k:=Sum.inr nm) s (by rw[Qo,ql];exact QI ⋯),?_⟩;rw[Wd nrep];have xd:x≠d:=QM b s λz=>nomatch z;have ld:l≠d:=QM S s λz=>nomatch z;refine⟨f,_,U,by rw[Qa xd];exact b,by rw[Qa dE.symm];exact I,by rw[Qa dB.symm];exact m,by rw[Qa ld];exact S,λr D=>by rw[Qa (QM (C r D) s λz=>nomatch z)];exact C r D,?_,J.upd (in4 _ hd),in4⟩;rw[V6 hy];exact(g.set hd (by simp) (λq _ ne o e=>by rw[Qa ne];exact e) Qb).congr (λ_ _ _ e=>e) λt=>DM G t
   .have X:Qy (yz f) (Sum.inr y)=none:=UJ L;rw[X];refine QT ?_;intro d s;have xd:x≠d:=Qc b s;have Ed:E≠d:=Qc I s;have Bd:B≠d:=Qc m s;have ld:l≠d:=Qc S s;have xB:x≠B:=QM b m λz=>nomatch z;have lB:l≠B:=QM S m λz=>nomatch z;have dn:d∈vI E B rows bs\/H d=none:=by
     cases e:H d with
     |none=>exact .inr rfl
     |some o=>
      by_cases hin:d∈vI E B rows bs
      .exact .inl hin
      .have:=J d o hin e;rw[s] at this;cases this
    refine⟨_,U,x,_,dx,_,_,U,(by rw[Qa xd];exact b),(T 7),(T 20),Vb E B,_,U,B,_,U,Uy.k (k:=Sum.inr y) (by rw[Qa Bd];exact m) (by rw[GW];exact QI ⋯),?_⟩;rw[GV ((y,d):qc×qd) L rfl rfl];have nd5:((f++[((y,d):qc×qd)]).map (·.1)).Nodup:=by rw[qE];exact YC g.nd L
    have hv5:Qy (yz (f++[((y,d):qc×qd)])) (Sum.inr y)=some (V.ref d):=Q9 (r:=((y,d):qc×qd)) nd5 (qy _ qB);have br5:(upd (upd F d (.dK [])) B (.dK (yz (f++[((y,d):qc×qd)])))) B=some (.dK (yz (f++[((y,d):qc×qd)]))):=Qb;have d5:(upd (upd F d (.dK [])) B (.dK (yz (f++[((y,d):qc×qd)])))) d=some (.dK []):=by rw[Qa Bd.symm];exact Qb
    refine⟨_,U,x,_,dx,_,_,U,(by rw[Qa xB,Qa xd];exact b),(T 7),(T 20),Vb E B,_,U,B,_,U,(by rw[<-hv5];exact Yg.k (k:=Sum.inr y) br5),_,U,d,_,U,Uy.k (k:=Sum.inr nm) d5 ∅,?_⟩;have ek:Ye ([]:qa (Key×V)) (Sum.inr nm) (.bl true)=Qo [nm]:=rfl;rw[ek];have e0:wz (YD rows) nm ((SS ss).take j) y=[]:=g.ko y L;refine⟨f++[((y,d):qc×qd)],_,U,by rw[Qa xd,Qa xB,Qa xd];exact b,by rw[Qa Ed,Qa i.eb,Qa Ed];exact I,by rw[Qa Bd];exact Qb,by rw[Qa ld,Qa lB,Qa ld];exact S,λr D=>?_,?_,((J.upd dn).upd (.inl hBF)).upd dn,λq O=>?_⟩
    .rw[Qa (Qc (C r D) s),Qa (QM (C r D) m λz=>nomatch z),Qa (Qc (C r D) s)];exact C r D
    .rw[V6 hy];refine(g.new (p:=d) (ys:=wz (YD rows) nm ((SS ss).take j) y++[nm]) L (λz=>?_) Ed.symm Bd.symm yW (by simp) (λq O o e=>?_) ?_).congr (λ_ _ _ e=>e) λt=>DM G t
     .obtain⟨q,O,eq⟩:=qw.mp z;have:=(g.at_ q O).1;rw[eq,s] at this;cases this
     .rw[Qa (Qc e s),Qa (g.at_ q O).2.2.1,Qa (Qc e s)];exact e
     .rw[e0,Qb];rfl
    .rcases qF.mp O with z|z
     .exact in4 q z
     .rw[qt.mp z];exact dn
  .rintro σ F ⟨f,o,rfl,b,I,m,S,C,g,J,in4⟩;rw[ql,jH] at g;refine k F (vI E B (rows++[((nm,l,SS ss):Ue)]) f) ⟨dx,E,B,rows++[((nm,l,SS ss):Ue)],f,⟨b,I,m,i.eb,λr D=>?_,nd3,by rw[qA,qY];omega,i.wf,g.congr (λ_ _ _ e=>e) λt=>?_⟩,Hw _ _,?_,U⟩ J λc hc=>?_
   .rcases qF.mp D with z|z
    .exact⟨C r z,(i.ls r z).2⟩
    .rw[qt.mp z];exact⟨S,Rz ss,λy hy=>hW y (Ew.mp hy)⟩
   .rw[Hw];exact LA _ _ _ _
   .rw[qA,qY,Gr];omega
   .rcases Yh.mp hc with z|z|z|z
    .exact .inl (Yh.mpr (.inl z))
    .exact .inl (Yh.mpr (.inr (.inl z)))
    .obtain⟨q,O,rfl⟩:=qw.mp z;exact in4 q O
    .rw[qE] at z;rcases qF.mp z with y|y
     .exact .inl (Yh.mpr (.inr (.inr (.inr y))))
     .rw[qt.mp y];exact .inr l0
theorem Nf(T:Txt P w K mg base a fd):T.k jg 2 52 (FC a):=by
 refine T.ok 52 (λcdv A outer st H vs Q E C h=>?_)
 .obtain⟨x,R,W,n,Fo,nm,rfl,⟨dx,E,B,rows,bs,i,rfl,hRn,rfl⟩,hm,k⟩:=h;have hu:=Yx C;obtain⟨r0,O,e0⟩:=qw.mp hm;obtain⟨b,ws⟩:=r0;obtain rfl:b=nm:=e0;obtain⟨l,hl⟩:=PU O;have hnd:((YD rows).map (·.1)).Nodup:=by rw[Gq];exact i.nd
  have hv0:Qy (UP rows) (Sum.inr b)=some (V.ref l):=Q9 (r:=((b,l,ws):Ue)) i.nd hl;obtain⟨el,eS,eW⟩:=i.ls _ hl;have eS:SS ws=ws:=eS;refine⟨_,(Qd (Qw (T.cl (Y5 T) (zj (pv 1) (zj (Ql (pv 0) U) Qg))))
   (Qd (Qv (i:=2) (sc 52).nd (Y4 (Ql (pv 0) U) (pv 1) ⟨U,U,U,U⟩))
   (Qe (Y9 zJ rfl (Yt (pv 2)) (Yc (i:=3) (sc 52).nd) (Qd (Qw (Y4 (Ym hu (Ql (pv 0) U) (pv 3)) (pv 1) ⟨U,U,U,U⟩))
   (Qe (QG (Yl (Xh (Ym hu (Ql (pv 0) U) (pv 3)) (λ_=>rfl))) (Qe (Qw (Y4 (Ql (pv 0) U) (pv 3) ⟨U,U,U,U⟩))) Qq))))))),?_⟩
  refine⟨_,U,_,U,x,_,dx,_,_,U,i.obj,(T 7),(T 25),Wq E B,b,E,_,_,U,i.en,hv0,?_⟩;refine⟨_,U,x,_,dx,_,_,U,i.obj,(T 7),(T 25),Wq E B,E,U,.inl ⟨_,.inl i.en⟩,_,U,_,Sum.inr b,.ref l,i.en,U,hv0,?_⟩;rw[VS];have xE:x≠E:=QM i.obj i.en λz=>nomatch z;have N:(upd H E (.dK (UP (rows.filter λr=>decide (r.1≠b))))) x=some (.ins (a 97) dx [(Ze,.ref E),(Zn,.ref B)]):=by rw[Qa xE];exact i.obj
  have en3:(upd H E (.dK (UP (rows.filter λr=>decide (r.1≠b))))) E=some (.dK (UP (rows.filter λr=>decide (r.1≠b)))):=Qb;have br3:(upd H E (.dK (UP (rows.filter λr=>decide (r.1≠b))))) B=some (.dK (yz bs)):=by rw[Qa i.eb.symm];exact i.br
  have S:∀r∈rows,(upd H E (.dK (UP (rows.filter λr=>decide (r.1≠b))))) r.2.1=some (.lst (r.2.2.map V.str)):=λr C=>by
   rw[Qa (QM (i.ls r C).1 i.en λz=>nomatch z)];exact(i.ls r C).1
  have bd3:BD (upd H E (.dK (UP (rows.filter λr=>decide (r.1≠b))))) E B bs (gZ (YD rows) b []) W:=i.bd.congr (λq I o e=>by rw[Qa (i.bd.at_ q I).2.1];exact e) λt=>qJ λz=>nomatch z;have kp3:xI (vI E B rows bs) H (upd H E (.dK (UP (rows.filter λr=>decide (r.1≠b))))):=xI.upd (λc o _ e=>e) (.inl (Yh.mpr (.inl rfl)));show V0 _ _ _ _ (upd H E (.dK (UP (rows.filter λr=>decide (r.1≠b)))));generalize upd H E (.dK (UP (rows.filter λr=>decide (r.1≠b))))=H3 at N en3 br3 S bd3 kp3;have ndS:ws.Nodup:=by rw[<-eS];exact R3 ws
  refine⟨_,U,l,U,⟨_,zN.of (S _ hl)⟩,YQ (K:=K) (a:=l) (xs:=ws.map V.str)
   (λj σ p=>Ex2 λ(f:qa (qc×qd))(o:Option V)=>cF (σ=[some (.ref x),some (.str b),some (.ref l),o]) (p x=some (.ins (a 97) dx [(Ze,.ref E),(Zn,.ref B)])) (p E=some (.dK (UP (rows.filter λr=>decide (r.1≠b))))) (p B=some (.dK (yz f))) ((∀r∈rows,p r.2.1=some (.lst (r.2.2.map V.str)))) (BD p E B f (gZ (YD rows) b (ws.take j)) W) (xI (vI E B rows bs) H p) ((∀q∈f,q∈bs)))
   ⟨bs,none,U,N,en3,br3,S,by rw[xO];exact bd3,kp3,λq I=>I⟩ ?_ ?_ ?_⟩
  .rintro j σ p _ ⟨f,o,rfl,g,J,D,F,s,L,in4⟩;exact zN.of (F _ hl)
  .rintro j v σ p hv ⟨f,o,rfl,g,J,D,F,s,L,in4⟩;obtain⟨y,hy,rfl⟩:=Ec hv;have ym:y∈ws:=zv hy;have npre:=Nx ndS hy;have hbe:gZ (YD rows) b (ws.take j) y=Y2 (YD rows) y:=qJ npre;have X:b∈Y2 (YD rows) y:=GZ.mpr ⟨ws,O,ym⟩;have hyb:y∈f.map (·.1):=yt λz=>by
    have:=s.ko y z;rw[hbe] at this;rw[this] at X;cases X
   obtain⟨d,hd⟩:=YN hyb;have Y:Qy (yz f) (Sum.inr y)=some (V.ref d):=Q9 (r:=((y,d):qc×qd)) s.nd hd;obtain⟨ed,dE,dB,_,_⟩:=s.at_ _ hd;have ed:p d=some (.dK (Qo (Y2 (YD rows) y))):=by rw[ed];show some (HO.dK (Qo (gZ (YD rows) b (ws.take j) y)))=_;rw[hbe]
   have xd:x≠d:=QM g ed λz=>nomatch z;have xB:x≠B:=QM g D λz=>nomatch z;have hdF:d∈vI E B rows bs:=Yh.mpr (.inr (.inr (.inl (qw.mpr ⟨_,in4 _ hd,U⟩))));have hBF:B∈vI E B rows bs:=Yh.mpr (.inr (.inl rfl));refine⟨_,U,x,_,dx,_,_,U,g,(T 7),(T 20),Vb E B,_,U,B,_,U,(by rw[<-Y];exact Yg.k (k:=Sum.inr y) D),d,U,.inl ⟨_,.inl ed⟩,_,U,_,Sum.inr b,.bl true,ed,U,(by rw[UM,qP X]),?_⟩;rw[U2];have u:(upd p d (.dK (Qo ((Y2 (YD rows) y).filter λm=>decide (m≠b))))) x=some (.ins (a 97) dx [(Ze,.ref E),(Zn,.ref B)]):=by rw[Qa xd];exact g
   have Z:(upd p d (.dK (Qo ((Y2 (YD rows) y).filter λm=>decide (m≠b))))) E=some (.dK (UP (rows.filter λr=>decide (r.1≠b)))):=by rw[Qa dE.symm];exact J
   have G:(upd p d (.dK (Qo ((Y2 (YD rows) y).filter λm=>decide (m≠b))))) B=some (.dK (yz f)):=by rw[Qa dB.symm];exact D
   have d5:(upd p d (.dK (Qo ((Y2 (YD rows) y).filter λm=>decide (m≠b))))) d=some (.dK (Qo ((Y2 (YD rows) y).filter λm=>decide (m≠b)))):=Qb;have M:∀r∈rows,(upd p d (.dK (Qo ((Y2 (YD rows) y).filter λm=>decide (m≠b))))) r.2.1=some (.lst (r.2.2.map V.str)):=λr C=>by rw[Qa (QM (F r C) ed λz=>nomatch z)];exact F r C
   have kp5:xI (vI E B rows bs) H (upd p d (.dK (Qo ((Y2 (YD rows) y).filter λm=>decide (m≠b))))):=L.upd (.inl hdF);have ot5:∀q∈f,q.2≠d->∀o,p q.2=some o->(upd p d (.dK (Qo ((Y2 (YD rows) y).filter λm=>decide (m≠b))))) q.2=some o:=λq _ ne o e=>by rw[Qa ne];exact e
   show V0 _ _ _ _ (upd p d (.dK (Qo ((Y2 (YD rows) y).filter λm=>decide (m≠b)))));generalize upd p d (.dK (Qo ((Y2 (YD rows) y).filter λm=>decide (m≠b))))=H5 at u Z G d5 M kp5 ot5;refine⟨_,U,x,_,dx,_,_,U,u,(T 7),(T 20),Vb E B,_,U,B,.ref d,U,(by rw[<-Y];exact Yg.k (k:=Sum.inr y) G),!(Qo ((Y2 (YD rows) y).filter λm=>decide (m≠b))).isEmpty,Or.inr (Or.inr ⟨_,d5,U⟩),?_⟩
   cases hys:(Y2 (YD rows) y).filter λm=>decide (m≠b) with
   |cons z zs=>
    refine QC ⟨f,_,U,u,Z,G,M,?_,kp5,in4⟩;rw[V6 hy];rw[hys] at d5;refine(s.set hd (ys:=z::zs) (by simp) ot5 d5).congr (λ_ _ _ e=>e) λt=>?_;rw[DL,hys]
   |nil=>
    refine QT ⟨_,U,x,_,dx,_,_,U,u,(T 7),(T 20),Vb E B,B,U,.inl ⟨_,.inl G⟩,_,U,_,Sum.inr y,.ref d,G,U,Y,?_⟩;rw[VS];refine⟨f.filter λr=>decide (r.1≠y),_,U,by rw[Qa xB];exact u,by rw[Qa i.eb];exact Z,Qb,λr C=>by rw[Qa (QM (M r C) G λz=>nomatch z)];exact M r C,?_,kp5.upd (.inl hBF),λq I=>in4 q (qX.mp I).1⟩;rw[V6 hy];refine(s.del hd λq I ne o e=>?_).congr (λ_ _ _ e=>e) λt=>?_
    .rw[Qa (s.at_ q I).2.2.1];exact ot5 q I ne o e
    .rw[DL,hys]
  .rintro σ p ⟨f,o,rfl,g,J,D,F,s,L,in4⟩;rw[ql,jH] at s;have X:(rows.filter λr=>decide (r.1≠b)).length<=rows.length:=zh _ _;have G:=i.few;rw[Gr] at hRn;refine k p (vI E B (rows.filter λr=>decide (r.1≠b)) f) ⟨dx,E,B,_,f,⟨g,J,D,i.eb,λr C=>⟨F r (qX.mp C).1,(i.ls r (qX.mp C).1).2⟩,i.nd.sublist (jn.map _),⋯,i.wf,s.congr (λ_ _ _ e=>e) λt=>?_⟩,Es _ _,by rw[<-Es,Gr];omega,U⟩ L λc hc=>?_
   .rw[Es,OI];by_cases u:t∈ws
    .exact(qP u).symm
    .have e:gZ (YD rows) b ws t=Y2 (YD rows) t:=qJ u;rw[e];refine zZ.mpr λm hm=>qx λz=>u ?_;obtain⟨Y,M,Z⟩:=GZ.mp hm;rw[z] at M;rw[S9 hnd O M];exact Z
   .rcases Yh.mp hc with z|z|z|z
    .exact Yh.mpr (.inl z)
    .exact Yh.mpr (.inr (.inl z))
    .obtain⟨q,I,rfl⟩:=qw.mp z;exact Yh.mpr (.inr (.inr (.inl (qw.mpr ⟨q,in4 q I,U⟩))))
    .obtain⟨q,I,rfl⟩:=qw.mp z;exact Yh.mpr (.inr (.inr (.inr (qw.mpr ⟨q,(qX.mp I).1,U⟩))))
structure TH(a:jk)(H:Hp)(x dx L R:qd)(rows:Rows)(kr:qa (Key×V)):Prop where
 obj:H x=some (.ins (a 105) dx [(Zj,.ref L),(Zo,.ref R)])
 lk:H L=some (.dK (QK rows))
 rp:H R=some (.dK kr)
 lr:L≠R
 nd:(rows.map (·.1)).Nodup
 few:rows.length<=40
 gp:kr.length<=40
 yX:∀t v,Qy kr (Sum.inr t)=some v->∃d,v=.ref d/\H d=some (.dK (Qo (QL rows t)))/\d≠L/\d≠R
 ko:∀t:qc,t≠""->Qy kr (Sum.inr t)=none->QL rows t=[]
 e_:Qy kr (Sum.inr ("":qc))=none
 inj:∀t t' d,Qy kr (Sum.inr t)=some (.ref d)->Qy kr (Sum.inr t')=some (.ref d)->t=t'
theorem TH.uy{x R:qd}(h:TH a H x dx L R rows kr)(k:Kp2 H H'):TH a H' x dx L R rows kr:=
 ⟨k _ _ h.obj nofun,k _ _ h.lk nofun,k _ _ h.rp nofun,h.lr,h.nd,h.few,h.gp,λt v e=>let ⟨d,b,c,f⟩:=h.yX t v e;⟨d,b,k _ _ c nofun,f⟩,h.ko,h.e_,h.inj⟩
inductive uF(a:jk)(H:Hp)(x:qd)(rows:Rows)(n:Nat):Prop
 |mk:∀dx L R kr,TH a H x dx L R rows kr->rows.length<=n->kr.length<=n->uF a H x rows n
theorem uF.uy{x:qd}(h:uF a H x rows n)(k:Kp2 H H'):uF a H' x rows n:=let ⟨dx,L,R,kr,t,b,c⟩:=h;⟨dx,L,R,kr,t.uy k,b,c⟩
theorem Ub(L R:qd):([(Zj,V.ref L),(Zo,V.ref R)]:qa (qc×V)).lookup Zj=some (V.ref L):=by simp[List.lookup]
theorem YW(L R:qd):([(Zj,V.ref L),(Zo,V.ref R)]:qa (qc×V)).lookup Zo=some (V.ref R):=by
 have e:(Zo==Zj)=false:=by decide +kernel
 simp[List.lookup,e]
theorem TH.add{x R:qd}{b:qa (Key×V)}{nm:qc}(i:TH a H x dx L R rows kr)(s:up rows nm=none)(few:rows.length<40)
 (k:H' x=some (.ins (a 105) dx [(Zj,.ref L),(Zo,.ref R)])) (n:H' L=some (.dK (QK (rows++[(nm,an)])))) (o:H' R=some (.dK b)) (l:b.length<=40)
 (old:∀t d,t≠an->Qy kr (Sum.inr t)=some (.ref d)->H' d=some (.dK (Qo (QL rows t)))) (c:∀t,t≠an->Qy b (Sum.inr t)=Qy kr (Sum.inr t))
 (new:an≠""->∃d,Qy b (Sum.inr an)=some (.ref d)/\H' d=some (.dK (Qo (QL rows an++[nm])))/\d≠L/\d≠R/\∀t,t≠an->Qy kr (Sum.inr t)≠some (.ref d)) (emp:an=""->b=kr):TH a H' x dx L R (rows++[(nm,an)]) b:=by
 have ex:∀t,t≠an->QL (rows++[(nm,an)]) t=QL rows t:=λt h=>by rw[XF,qJ (jL h),zD]
 have u:QL (rows++[(nm,an)]) an=QL rows an++[nm]:=by rw[XF,qP rfl]
 have m:Qy b (Sum.inr ("":qc))=none:=by
  by_cases h:an=""
  .rw[emp h];exact i.e_
  .rw[c "" (jL h)];exact i.e_
 refine⟨k,n,o,i.lr,FZ i.nd s,by rw[qA,qY];omega,l,λt v e=>?_,λt q e=>?_,m,λt t' d f g=>?_⟩
 .by_cases h:t=an
  .subst h;have h0:t≠"":=λz=>by rw[z,m] at e;cases e
   obtain⟨d,j,r,p,w,_⟩:=new h0;rw[j] at e;cases e;rw[u];exact⟨d,U,r,p,w⟩
  .rw[c t h] at e;obtain⟨d,rfl,r,p⟩:=i.yX t v e;rw[ex t h];exact⟨d,U,old t d h e,p⟩
 .by_cases h:t=an
  .subst h;obtain⟨d,j,_⟩:=new q;rw[j] at e;cases e
  .rw[ex t h];rw[c t h] at e;exact i.ko t q e
 .by_cases h:t=an
  .by_cases h':t'=an
   .rw[h,h']
   .subst h;have h0:t≠"":=λz=>by rw[z,m] at f;cases f
    obtain⟨r,j,_,_,_,p⟩:=new h0;rw[j] at f;cases f;rw[c t' h'] at g;exact absurd g (p t' h')
  .by_cases h':t'=an
   .subst h';have h0:t'≠"":=λz=>by rw[z,m] at g;cases g
    obtain⟨r,j,_,_,_,p⟩:=new h0;rw[j] at g;cases g;rw[c t h] at f;exact absurd f (p t h)
   .rw[c t h] at f;rw[c t' h'] at g;exact i.inj t t' d f g
theorem TH.take{x R:qd}{nm:qc}(b:TH a H x dx L R rows kr)(j:up rows nm=some an)
 (c:H' x=some (.ins (a 105) dx [(Zj,.ref L),(Zo,.ref R)])) (f:H' L=some (.dK (QK (without rows nm)))) (g:H' R=some (.dK kr))
 (old:∀t d,t≠an->Qy kr (Sum.inr t)=some (.ref d)->H' d=some (.dK (Qo (QL rows t))))
 (new:∀d,Qy kr (Sum.inr an)=some (.ref d)->H' d=some (.dK (Qo ((QL rows an).filter λm=>decide (m≠nm))))):TH a H' x dx L R (without rows nm) kr:=by
 have l:(without rows nm).length<=rows.length:=zh _ _;have hf:=b.few;have ex:∀t,t≠an->QL (without rows nm) t=QL rows t:=λt h=>by rw[UW];exact Xa (C6 b.nd j h)
 refine⟨c,f,g,b.lr,VF b.nd,⋯,b.gp,λt v e=>?_,λt k e=>?_,b.e_,b.inj⟩
 .obtain⟨d,rfl,n,i⟩:=b.yX t v e;by_cases h:t=an
  .subst h;rw[UW];exact⟨d,U,new d e,i⟩
  .rw[ex t h];exact⟨d,U,old t d h e,i⟩
 .have i:=b.ko t k e;rw[UW,i];rfl
structure THo(B:Hp)(L R:qd)(kr:qa (Key×V)):Prop where
 hL:B L=none
 hR:B R=none
 hd:∀(t:qc)(d:qd),Qy kr (Sum.inr t)=some (.ref d)->B d=none
inductive g0(a:jk)(B H:Hp)(x:qd)(rows:Rows)(n:Nat):Prop
 |mk:∀(dx L R:qd)(kr:qa (Key×V)),TH a H x dx L R rows kr->rows.length<=n->kr.length<=n->THo B L R kr->Qi B H->g0 a B H x rows n
inductive Cg(a:jk)(vs:qa V)(H:Hp)(Q:VK)(E:XK):Prop
 |mk:∀(B:Hp)(x dx:qd),vs=[.ref x]->H x=some (.ins (a 105) dx [])->(∀c o,B c=some o->H c=some o/\c≠x)->(∀H',g0 a B H' x [] 0->Q .non H')->Cg a vs H Q E
inductive Mi(a:jk)(vs:qa V)(H:Hp)(Q:VK)(E:XK):Prop
 |mk:∀(B:Hp)(x:qd)(rows:Rows)(n:Nat)(nm an:qc),vs=[.ref x,.str nm,.str an]->g0 a B H x rows n->n<40->up rows nm=none->(∀H',g0 a B H' x (rows++[(nm,an)]) (n+1)->wB H H'->Q .non H')->Mi a vs H Q E
inductive Ft(a:jk)(vs:qa V)(H:Hp)(Q:VK)(E:XK):Prop
 |mk:∀(B:Hp)(x:qd)(rows:Rows)(n:Nat)(nm:qc),vs=[.ref x,.str nm]->g0 a B H x rows n->nm∈rows.map (·.1)->(∀H',g0 a B H' x (without rows nm) n->wB H H'->Q .non H')->Ft a vs H Q E
theorem Iz(T:Txt P w K mg base a fd):T.k jg 1 56 (Cg a):=by
 refine T.ok 56 (λn A outer st H vs Q E r h=>?_)
 .obtain⟨B,x,dx,rfl,m,j,k⟩:=h;refine⟨_,(Qd (QX (pv 0) Q7 rfl)
   (Qe (QX (pv 0) Q7 rfl))),?_⟩
  intro L i;have ne1:x≠L:=Qc m i;refine⟨_,U,x,_,dx,_,U,(by rw[Qa ne1];exact m),(T 5),(T 21),∅,?_⟩;intro R f;have g:(upd (upd H L (.dK [])) x (.ins (a 105) dx (Qz Zj (.ref L) []))) x=some (.ins (a 105) dx (Qz Zj (.ref L) [])):=Qb;have l:(upd (upd H L (.dK [])) x (.ins (a 105) dx (Qz Zj (.ref L) []))) L=some (.dK []):=by rw[Qa ne1.symm];exact Qb
  have ne2:x≠R:=Qc g f;have ne3:L≠R:=Qc l f;refine⟨_,U,x,_,dx,_,U,(by rw[Qa ne2];exact g),(T 5),(T 22),(by show 1<1000;decide),?_⟩;refine k _ ⟨dx,L,R,[],⟨Qb,?_,?_,ne3,by simp,∅,∅,λt v z=>(by cases z),λ_ _ _=>rfl,rfl,λ_ _ _ z=>(by cases z)⟩,qz _,qz _,⟨?_,?_,λt d z=>(by cases z)⟩,λc o e=>?_⟩
  .rw[Qa ne1.symm,Qa ne3,Qa ne1.symm];exact Qb
  .rw[Qa ne2.symm];exact Qb
  .cases q:B L with
   |none=>rfl
   |some o=>have:=(j L o q).1;rw[i] at this;cases this
  .cases q:B R with
   |none=>rfl
   |some o=>
    obtain⟨b,p⟩:=j R o q;rw[Qa p,Qa ne3.symm,b] at f;cases f
  .obtain⟨b,ne⟩:=j c o e;rw[Qa ne,Qa (Qc (by rw[Qa ne,Qa (Qc b i)];exact b) f),Qa ne,Qa (Qc b i)];exact b
theorem PQ(T:Txt P w K mg base a fd):T.k jg 2 91 (Mi a):=by
 refine(T.D 91).ok (sc 91) (λcdv A outer st H vs Q E hr h=>?_) (λvs H Q E h=>by obtain⟨B,x,rows,n,nm,an,rfl,_⟩:=h;rfl)
 .obtain⟨B,x,rows,n,nm,an,rfl,⟨dx,L,R,kr,f,hl1,hl2,C,sB⟩,hn40,F,k⟩:=h;have G:=Yx hr;refine⟨_,(Qd (Qw (T.cl (Em T) (zj (pv 1) (zj (Ql (pv 0) U) Qg))))
   (Qd (Ys G (Ql (pv 0) U) (pv 1) (pv 2) U)
   (Qe (QG (Qx We (pv 2) Qk) (Qd (QG (Y0 (Ug G (pv 2) (Ql (pv 0) U))) (Qe (Ys G (Ql (pv 0) U) (pv 2) Q7 rfl)) Qq)
   (Qe (Ys G (Ym G (Ql (pv 0) U) (pv 2)) (pv 1) Uz rfl))) Qq)))),?_⟩
  have xL:x≠L:=λz=>by have I:=f.obj;rw[z,f.lk] at I;cases I
  have xR:x≠R:=λz=>by have I:=f.obj;rw[z,f.rp] at I;cases I
  refine⟨_,U,_,U,x,_,dx,_,_,U,f.obj,(T 5),(T 21),Ub L R,nm,L,_,U,f.lk,(by rw[Yp,F];rfl),?_⟩;refine⟨_,U,_,U,x,_,dx,_,_,U,f.obj,(T 5),(T 21),Ub L R,_,U,L,_,U,Uy.k (k:=Sum.inr nm) f.lk (by rw[QK,ql];exact QI ⋯),?_⟩;rw[CP F];have O:wB H (upd H L (.dK (QK (rows++[(nm,an)])))):=wB.upd f.lk;have b:(upd H L (.dK (QK (rows++[(nm,an)])))) x=some (.ins (a 105) dx [(Zj,.ref L),(Zo,.ref R)]):=by rw[Qa xL];exact f.obj
  have i:(upd H L (.dK (QK (rows++[(nm,an)])))) R=some (.dK kr):=by rw[Qa f.lr.symm];exact f.rp
  have j:(upd H L (.dK (QK (rows++[(nm,an)])))) L=some (.dK (QK (rows++[(nm,an)]))):=Qb;have g:∀t d,Qy kr (Sum.inr t)=some (.ref d)->(upd H L (.dK (QK (rows++[(nm,an)])))) d=some (.dK (Qo (QL rows t)))/\d≠L/\d≠R:=λt d e=>by
   obtain⟨d',J,m,l,r⟩:=f.yX t _ e;cases J;exact⟨by rw[Qa l];exact m,l,r⟩
  have up1:∀c o,H c=some o->c≠L->(upd H L (.dK (QK (rows++[(nm,an)])))) c=some o:=λc o e ne=>by rw[Qa ne];exact e
  generalize upd H L (.dK (QK (rows++[(nm,an)])))=H1 at O b i j g up1;have y:Qi B H1:=λc o e=>up1 c o (sB c o e) (Qc e C.hL);have l:(rows++[(nm,an)]).length<=n+1:=by rw[qA,qY];omega
  refine⟨_,U,U,_,U,?_⟩;by_cases m:an=""
  .have e:decide (V.str an=V.str "")=true:=by rw[m];simp
   rw[e];exact QC (k H1 ⟨dx,L,R,kr,f.add F ⋯ b j i f.gp (λt d _ e=>(g t d e).1) (λ_ _=>rfl) (λz=>absurd m z) (λ_=>rfl),l,⋯,C,y⟩ O)
  .have e:decide (V.str an=V.str "")=false:=by simp[m]
   rw[e];have M:¬nm∈QL rows an:=λz=>UI.mp F (Wa z);refine QT ⟨_,U,_,U,x,_,dx,_,_,U,b,(T 5),(T 22),YW L R,R,_,U,Yg.k (k:=Sum.inr an) i,_,U,?_⟩
   cases s:Qy kr (Sum.inr an) with
   |none=>
    refine QT ?_;intro p u;have S:x≠p:=Qc b u;have Z:L≠p:=Qc j u;have X:R≠p:=Qc i u;refine⟨_,U,x,_,dx,_,_,U,(by rw[Qa S];exact b),(T 5),(T 22),YW L R,_,U,R,_,U,Uy.k (k:=Sum.inr an) (by rw[Qa X];exact i) (QI ⋯),?_⟩;rw[Xg _ s];have vk:∀t,Qy (kr++[(Sum.inr an,V.ref p)]) (Sum.inr t)=if (Sum.inr t:Key)=Sum.inr an then some (V.ref p) else Qy kr (Sum.inr t):=λt=>Xz _ _ _ _ s
    have D:Qy (kr++[(Sum.inr an,V.ref p)]) (Sum.inr an)=some (V.ref p):=by rw[vk,qP rfl]
    have N:∀t,t≠an->Qy (kr++[(Sum.inr an,V.ref p)]) (Sum.inr t)=Qy kr (Sum.inr t):=λt h=>by rw[vk,qJ (λz=>h (jD z))]
    have rp2:(upd (upd H1 p (.dK [])) R (.dK (kr++[(Sum.inr an,V.ref p)]))) R=some (.dK (kr++[(Sum.inr an,V.ref p)])):=Qb;have dp2:(upd (upd H1 p (.dK [])) R (.dK (kr++[(Sum.inr an,V.ref p)]))) p=some (.dK []):=by rw[Qa X.symm];exact Qb
    refine⟨_,U,x,_,dx,_,_,U,(by rw[Qa xR,Qa S];exact b),(T 5),(T 22),YW L R,_,U,R,_,U,(by rw[<-D];exact Yg.k (k:=Sum.inr an) rp2),_,U,p,_,U,Uy.k (k:=Sum.inr nm) dp2 ∅,?_⟩;have ek:Ye ([]:qa (Key×V)) (Sum.inr nm) (.bl true)=Qo [nm]:=rfl;rw[ek];refine k _ ⟨dx,L,R,_,f.add F ⋯ ?_ ?_ ?_ ?_ ?_ N ?_ ?_,l,?_,?_,?_⟩ ?_
    .rw[Qa S,Qa xR,Qa S];exact b
    .rw[Qa Z,Qa f.lr,Qa Z];exact j
    .rw[Qa X];exact Qb
    .rw[qA,qY];omega
    .intro t d h e;obtain⟨r,q2,Y⟩:=g t d e;rw[Qa (Qc r u),Qa Y,Qa (Qc r u)];exact r
    .intro _;have er:QL rows an=[]:=f.ko an m s;refine⟨p,D,?_,Z.symm,X.symm,λt h e=>?_⟩
     .rw[Qb,er];rfl
     .obtain⟨r,_,_⟩:=g t p e;rw[u] at r;cases r
    .exact λz=>absurd z m
    .rw[qA,qY];omega
    .refine⟨C.hL,C.hR,λt d e=>?_⟩;by_cases h:t=an
     .rw[h,D] at e;cases e
      cases q:B p with
      |none=>rfl
      |some o=>have:=y p o q;rw[u] at this;cases this
     .rw[N t h] at e;exact C.hd t d e
    .intro c o e;have J:=y c o e;rw[Qa (Qc J u),Qa (Qc e C.hR),Qa (Qc J u)];exact J
    .refine O.trans λc o e nd=>?_;have J:c≠p:=Qc e u;have cR:c≠R:=λz=>by rw[z,i] at e;cases e;exact nd _ rfl
     rw[Qa J,Qa cR,Qa J];exact e
   |some v=>
    obtain⟨d,rfl,_,_,_⟩:=f.yX an v s;obtain⟨r,q2,Y⟩:=g an d s;refine QC ?_;have u:=Wb rows an;refine⟨_,U,x,_,dx,_,_,U,b,(T 5),(T 22),YW L R,_,U,R,_,U,(by rw[<-s];exact Yg.k (k:=Sum.inr an) i),_,U,d,_,U,Uy.k (k:=Sum.inr nm) r (by rw[Qo,ql];exact QI ⋯),?_⟩;rw[Wd M];have xd:x≠d:=λz=>by rw[<-z,b] at r;cases r
    refine k _ ⟨dx,L,R,kr,f.add F ⋯ ?_ ?_ ?_ f.gp ?_ (λ_ _=>rfl) ?_ (λ_=>rfl),l,⋯,C,λc o e=>by rw[Qa (Qc e (C.hd an d s))];exact y c o e⟩ (O.trans (wB.upd r))
    .rw[Qa xd];exact b
    .rw[Qa q2.symm];exact j
    .rw[Qa Y.symm];exact i
    .intro t d' h e;obtain⟨D,_,_⟩:=g t d' e;have:d'≠d:=λz=>h (f.inj t an d (by rw[<-z];exact e) s);rw[Qa this];exact D
    .intro _;refine⟨d,s,Qb,q2,Y,λt h e=>h (f.inj t an d e s)⟩
theorem M8(T:Txt P w K mg base a fd):T.k jg 2 57 (Ft a):=by
 refine T.ok 57 (λG A outer st H vs Q E I h=>?_)
 .obtain⟨B,x,rows,n,nm,rfl,C,hm,k⟩:=h;obtain⟨dx,L,R,kr,b,J,r,y,sB⟩:=id C;have M:=Yx I;refine⟨_,(Qd (Qw (T.cl (Y5 T) (zj (pv 1) (zj (Ql (pv 0) U) Qg))))
   (Qd (Qv (i:=2) (sc 57).nd (Y4 (Ql (pv 0) U) (pv 1) ⟨U,U,U,U⟩))
   (Qe (QG (Qx We (pv 2) Qk) (Qe (Qw (Y4 (Ym M (Ql (pv 0) U) (pv 2)) (pv 1) ⟨U,U,U,U⟩))) Qq)))),?_⟩
  have xL:x≠L:=λz=>by have F:=b.obj;rw[z,b.lk] at F;cases F
  obtain⟨an,s⟩:=VH hm;have N:(without rows nm).length<=rows.length:=zh _ _;refine⟨_,U,_,U,x,_,dx,_,_,U,b.obj,(T 5),(T 21),Ub L R,nm,L,_,_,U,b.lk,(by rw[Yp,s];rfl),?_⟩;refine⟨_,U,x,_,dx,_,_,U,b.obj,(T 5),(T 21),Ub L R,L,U,.inl ⟨_,.inl b.lk⟩,_,U,_,Sum.inr nm,.str an,b.lk,U,(by rw[Yp,s];rfl),?_⟩;rw[WN];have D:wB H (upd H L (.dK (QK (without rows nm)))):=wB.upd b.lk;have f:(upd H L (.dK (QK (without rows nm)))) x=some (.ins (a 105) dx [(Zj,.ref L),(Zo,.ref R)]):=by rw[Qa xL];exact b.obj
  have j:(upd H L (.dK (QK (without rows nm)))) R=some (.dK kr):=by rw[Qa b.lr.symm];exact b.rp
  have p:(upd H L (.dK (QK (without rows nm)))) L=some (.dK (QK (without rows nm))):=Qb;have g:∀t d,Qy kr (Sum.inr t)=some (.ref d)->(upd H L (.dK (QK (without rows nm)))) d=some (.dK (Qo (QL rows t)))/\d≠L/\d≠R:=λt d e=>by
   obtain⟨d',m,q,l,u⟩:=b.yX t _ e;cases m;exact⟨by rw[Qa l];exact q,l,u⟩
  have q:Qi B (upd H L (.dK (QK (without rows nm)))):=λc o e=>by rw[Qa (Qc e y.hL)];exact sB c o e
  generalize upd H L (.dK (QK (without rows nm)))=H1 at D f j p g q;refine⟨_,U,U,_,U,?_⟩;by_cases l:an=""
  .have e:decide (V.str an=V.str "")=true:=by rw[l];simp
   rw[e];refine QC (k H1 ⟨dx,L,R,kr,b.take s f p j (λt d _ e=>(g t d e).1) (λd e=>?_),⋯,r,y,q⟩ D);rw[l,b.e_] at e;cases e
  .have e:decide (V.str an=V.str "")=false:=by simp[l]
   rw[e];have inr:=HE s;obtain⟨v,m⟩:∃v,Qy kr (Sum.inr an)=some v:=by
    cases m:Qy kr (Sum.inr an) with
    |none=>
     have:=b.ko an l m;rw[this] at inr;cases inr
    |some v=>exact⟨v,U⟩
   obtain⟨d,rfl,_,_,_⟩:=b.yX an v m;obtain⟨u,O,S⟩:=g an d m;have xd:x≠d:=λz=>by rw[<-z,f] at u;cases u
   refine QT ⟨_,U,x,_,dx,_,_,U,f,(T 5),(T 22),YW L R,_,U,R,_,U,(by rw[<-m];exact Yg.k (k:=Sum.inr an) j),d,U,.inl ⟨_,.inl u⟩,_,U,_,Sum.inr nm,.bl true,u,U,(by rw[UM,qP inr]),?_⟩;rw[U2];refine k _ ⟨dx,L,R,kr,b.take s ?_ ?_ ?_ ?_ ?_,⋯,r,y,λc o e=>by rw[Qa (Qc e (y.hd an d m))];exact q c o e⟩ (D.trans (wB.upd u))
   .rw[Qa xd];exact f
   .rw[Qa O.symm];exact p
   .rw[Qa S.symm];exact j
   .intro t d' h e;obtain⟨X,_,_⟩:=g t d' e;have:d'≠d:=λz=>h (b.inj t an d (by rw[<-z];exact e) m);rw[Qa this];exact X
   .intro d' e;rw[m] at e;cases e;exact Qb
inductive CA(a:jk)(vs:qa V)(H:Hp)(Q:VK)(E:XK):Prop
 |mk:∀x rows n nm,vs=[.ref x,.str nm]->uF a H x rows n->nm≠""->(∀l H',H l=none->Qi H H'->H' l=some (.lst ((vB rows nm).map V.str))->Q (.ref l) H')->CA a vs H Q E
inductive KY(a:jk)(vs:qa V)(H:Hp)(Q:VK):Prop
 |mk:∀x rows n nm,vs=[.ref x,.str nm]->uF a H x rows n->NoE rows->nm∈rows.map (·.1)->(∀l H',H l=none->Qi H H'->H' l=some (.lst ((Xc rows nm).map V.str))->Q (.ref l) H')->KY a vs H Q
def Ce(a:jk):Sp:=λvs H Q _=>KY a vs H Q
theorem IM(T:Txt P w K mg base a fd):T.k jg 1 58 (CA a):=by
 refine T.ok 58 (λt A outer st H vs Q E u h=>?_)
 .obtain⟨x,rows,n,nm,rfl,⟨dx,L,R,kr,b,_,_⟩,m,k⟩:=h;have q:=Yx u;have r:=b.few;have y:=Wb rows nm;refine⟨_,(Qd (Qv (i:=2) (sc 58).nd (Yn (Wv rfl) rfl (T 30) boot_list (zj (Uo q (Ql (pv 0) U) (pv 1) Q7 ⟨U,U,U,U⟩) Qg)))
   (Qd (Qv (i:=3) (sc 58).nd (Uo q (Ql (pv 0) U) (pv 1) Qk ⟨U,U,U,U⟩))
   (Qd (QG (Qx We (pv 3) Qk) (Qe (Qw (WW plainAttrs_list je jf YL (pv 2) (zj (pv 3) Qg)))) Qq)
   (Qe (Qp (pv 2)))))),?_⟩
  refine⟨_,U,x,_,dx,_,_,U,b.obj,(T 5),(T 22),YW L R,R,U,.inl ⟨kr,.inl b.rp⟩,_,U,λp z=>?_⟩;have s1:Qi H (upd H p (.dK [])):=Qi.zq z;refine⟨_,Yg.k (k:=Sum.inr nm) (s1 _ _ b.rp),?_⟩;have fin:∀(l:qd)(g:Hp),H l=none->Qi H g->g l=some (.lst ((QL rows nm).map V.str)) ->
   ∃v,Qy (QK rows) (Sum.inr nm)=v:=λ_ _ _ _ _=>⟨_,U⟩
  have hd:∃(d:qd),(match Qy kr (Sum.inr nm) with|some v=>v|none=>V.ref p)=V.ref d/\(upd H p (.dK [])) d=some (.dK (Qo (QL rows nm))):=by
   cases c:Qy kr (Sum.inr nm) with
   |none=>exact⟨p,U,by rw[Qb,b.ko nm m c];rfl⟩
   |some v=>
    obtain⟨d,rfl,hd,_⟩:=b.yX nm v c;exact⟨d,U,s1 _ _ hd⟩
  obtain⟨d,s,o⟩:=hd;refine⟨d,Qo (QL rows nm),by first|(rw[<-s];cases Qy kr (Sum.inr nm)<;>rfl)|(rw[<-s]),o,λl B=>?_⟩;have C:(Qo (QL rows nm)).map (λD=>kV D.1)=(QL rows nm).map V.str:=by unfold Qo;rw[zg];rfl
  rw[C];have nl:H l=none:=s1.free B;have s2:Qi H (upd (upd H p (.dK [])) l (.lst ((QL rows nm).map V.str))):=s1.jl nl;have j:(upd (upd H p (.dK [])) l (.lst ((QL rows nm).map V.str))) l=some (.lst ((QL rows nm).map V.str)):=Qb;generalize upd (upd H p (.dK [])) l (.lst ((QL rows nm).map V.str))=g at s2 j;refine⟨_,U,x,_,dx,_,_,U,s2 _ _ b.obj,(T 5),(T 21),Ub L R,L,U,.inl ⟨_,.inl (s2 _ _ b.lk)⟩,_,U,_,Yg.k (k:=Sum.inr nm) (s2 _ _ b.lk),?_⟩;rw[Yp]
  cases f:up rows nm with
  |none=>
   refine⟨_,U,U,_,U,QC ⟨_,U,k l g nl s2 ?_⟩⟩;rw[j,vB,upL,f];simp
  |some an=>
   refine⟨_,U,U,_,U,?_⟩;by_cases c:an=""
   .have e:decide (V.str an=V.str "")=true:=by rw[c];simp
    show(if (!decide (V.str an=V.str ""))=true then _ else _);rw[e];refine QC ⟨_,U,k l g nl s2 ?_⟩;rw[j,vB,upL,f];simp[c]
   .have e:decide (V.str an=V.str "")=false:=by simp[c]
    show(if (!decide (V.str an=V.str ""))=true then _ else _);rw[e];refine QT ⟨_,U,.inl ⟨U,_,zN.of j⟩,_,U,l,_,_,U,U,j,(by rw[ql];exact QI ⋯),?_⟩;refine⟨_,U,k l _ nl (s2.jl nl) ?_⟩;rw[Qb,vB,upL,f];simp[c]
theorem A5{n here:qc}{seen rc a:qg}(d:Wx rows n here seen rc a)(b:n∈rows.map (·.1)):rc.length<=2*rows.length:=by
 have:=Ut d.nd λm hm=>CM b (d.sound m hm);unfold R7 at this;rw[qA,ql,ql] at this;omega
theorem IA(T:Txt P w K mg base a fd):T.k jg 2 59 (Ce a):=by
 refine T.ok 59 (λcdv A outer st H vs Q E hr h=>?_)
 .obtain⟨x,rows,n,nm,rfl,J,M,hm,k⟩:=h;obtain⟨dx,L,R,kr,s,hl1,hl2⟩:=id J;have hfew:=s.few;have hu:=Yx hr;have nm0:nm≠"":=M nm hm;refine⟨_,(Qd (Qw (T.cl (Y5 T) (zj (pv 1) (zj (Ql (pv 0) U) Qg))))
   (Qd (Qv (i:=2) (sc 59).nd (Po (MM (pv 1) Uz Pj) rfl rfl (by simp) ∅))
   (Qd (Qv (i:=3) (sc 59).nd (Kw (Qf (pv 1) Qu)))
   (Qd (MK zJ (Xh (pv 3) (λ_=>rfl)) (Qd (Qv (i:=4) (sc 59).nd (Gk plainAttrs_list PySem.F.slot_list_pop PySem.F.type_list_pop Tf (pv 3)))
     (Qe (Y9 zJ rfl (Yt (T.me (pv 0) (T 5) (T 114) (IM T) (zj (pv 4) Qg))) (Yc (i:=5) (sc 59).nd) (Qe (QG (Y0 (Ug hu (pv 5) (pv 2))) (Qd (Ys hu (pv 2) (pv 5) Uz rfl) (Qe (Qw (WW plainAttrs_list je jf YL (pv 3) (zj (pv 5) Qg))))) Qq))))))
   (Qe (Hn (Qp (Qs Ko rfl (T 14) boot_sorted (zj (UZ (sc:=Qr (sO 59)) (N:=(nn 59)) (fr:=[(0,"self")]) (wN rfl rfl) rfl rfl rfl (Pm (pv 2)) (λ_ _ _ _=>WA (Y0 (W4 hu (pv 0) (Kx K (pv 1) U)))) (λ_ _ _ _=>(pv 0))) Qg))))))))),?_⟩
  obtain⟨an,eu⟩:=VH hm;refine⟨_,U,_,U,x,_,dx,_,_,U,s.obj,(T 5),(T 21),Ub L R,nm,L,_,_,U,s.lk,(by rw[Yp,eu];rfl),?_⟩;intro p G;refine⟨_,U,Qb,[(Sum.inr nm,.bl true)],U,(by show 1<=15;decide),?_⟩;have ek:XO [] [(Sum.inr nm,V.bl true)]=Qo [nm]:=rfl;rw[ek,VG];have s1:Qi H (upd H p (.dK (Qo [nm]))):=Qi.zq G;have p1:(upd H p (.dK (Qo [nm]))) p=some (.dK (Qo [nm])):=Qb;show V0 _ _ _ _ (upd H p (.dK (Qo [nm])));generalize upd H p (.dK (Qo [nm]))=H1 at s1 p1;refine⟨_,U,G9,λq hq=>?_⟩;have qn:H q=none:=s1.free hq;have pq:p≠q:=Qc p1 hq;have s2:Qi H (upd H1 q (.lst [.str nm])):=s1.jl qn;have p2:(upd H1 q (.lst [.str nm])) p=some (.dK (Qo [nm])):=by rw[Qa pq];exact p1
  have q2:(upd H1 q (.lst [.str nm])) q=some (.lst ([nm].map V.str)):=Qb;show V0 _ _ _ _ (upd H1 q (.lst [.str nm]));generalize upd H1 q (.lst [.str nm])=H2 at s2 p2 q2;refine⟨λm σ g=>∃(rc u:qg)(o4 o5:Option V),m=2*(2*rows.length-rc.length)+u.length/\m<=200/\σ=[some (.ref x),some (.str nm),some (.ref p),some (.ref q),o4,o5]/\Qi H g/\g p=some (.dK (Qo rc))/\g q=some (.lst (u.map V.str))/\gv rows nm rc u,
   ⟨_,[nm],[nm],none,none,U,by show 2*(2*rows.length-1)+1<=200;omega,U,s2,p2,q2,gv.init⟩,?_⟩
  rintro m σ g ⟨rc,u,o4,o5,rfl,C,rfl,s3,p3,q3,d⟩;have dl:=d.len hm;refine⟨_,U,!(u.map V.str).isEmpty,.inl ⟨_,zN.of q3,U⟩,?_⟩;by_cases hw:u=[]
  .subst hw;refine QC ?_;refine⟨p,Qo rc,p3,λb=>?_⟩;have O:x≠p:=Qc s.obj G;have S:L≠p:=Qc s.lk G;have c:(upd g p (.jO b (.dK (Qo rc)))) x=some (.ins (a 105) dx [(Zj,.ref L),(Zo,.ref R)]):=by rw[Qa O];exact s3 _ _ s.obj
   have j:(upd g p (.jO b (.dK (Qo rc)))) L=some (.dK (QK rows)):=by rw[Qa S];exact s3 _ _ s.lk
   have s4:Qi H (upd g p (.jO b (.dK (Qo rc)))):=s3.jl G;have B:(upd g p (.jO b (.dK (Qo rc)))) p=some (.jO b (.dK (Qo rc))):=Qb;generalize upd g p (.jO b (.dK (Qo rc)))=H4 at c j s4 B;refine⟨_,U,p,b,Qo rc,U,B,Wu (xs:=rc) V.str (λy=>decide (y∈rows.map (·.1))) V.str (Yd (⋯)) B (by unfold Qo;rw[zg];rfl) ?_ ?_ ?_⟩
   .intro y H5 Q' hy s5 f;refine⟨_,U,_,U,x,_,dx,_,_,U,s5 _ _ c,(T 5),(T 21),Ub L R,L,_,U,Yg.k (k:=Sum.inr y) (s5 _ _ j),_,U,?_⟩;rw[Yp]
    cases e:up rows y with
    |none=>
     rw[qD (UI.mp e)] at f;exact f
    |some z=>
     rw[qx (qw.mpr ⟨_,Bk e,U⟩)] at f;exact f
   .intro y H5 Q' hy s5 _ f;exact⟨_,U,f⟩
   .intro D I;have f:=Ut (d.nd.filter (λy=>decide (y∈rows.map (·.1)))) (l:=rows.map (·.1)) λm hm=>qH (qX.mp hm).2;rw[ql] at f;refine⟨D,_,U,zN.of Qb,⋯,λl r=>?_⟩;have X:p≠D:=Qc B I;have F:(upd H4 D (.lst ((rc.filter λy=>decide (y∈rows.map (·.1))).map V.str))) p=some (.jO b (.dK (Qo rc))):=by rw[Qa X];exact B
    have s5:Qi H (upd H4 D (.lst ((rc.filter λy=>decide (y∈rows.map (·.1))).map V.str))):=s4.jl (s4.free I);generalize upd H4 D (.lst ((rc.filter λy=>decide (y∈rows.map (·.1))).map V.str))=H5 at r F s5;have pl:p≠l:=Qc F r;have nl:H l=none:=s5.free r;refine⟨by rw[Qa pl];exact F,?_⟩;refine k l _ nl ((s5.jl nl).jl G) ?_;rw[Qa pl.symm,Qb,d.done s.nd]
  .obtain⟨c,here,rfl⟩:∃c here,u=c++[here]:=⟨u.dropLast,u.getLast hw,(List.dropLast_concat_getLast hw).symm⟩;have hk:(!((c++[here]).map V.str).isEmpty)=true:=by simp
   rw[hk];rw[qA,qY] at C;refine QT ⟨_,λσ' H' z=>z,?_⟩;refine⟨_,U,.inl ⟨U,_,zN.of q3⟩,q,_,.str here,U,U,q3,by simp,?_⟩;have edl:((c++[here]).map V.str).dropLast=c.map V.str:=by simp
   rw[edl];have s4:Qi H (upd g q (.lst (c.map V.str))):=s3.jl qn;have B:(upd g q (.lst (c.map V.str))) p=some (.dK (Qo rc)):=by rw[Qa pq];exact p3
   have q4:(upd g q (.lst (c.map V.str))) q=some (.lst (c.map V.str)):=Qb;generalize upd g q (.lst (c.map V.str))=H4 at s4 B q4⊢;have O:=J.uy s4.uy;have hh:here∈rc:=d.sub here (by simp);have h0:here≠"":=(d.sound here hh).ne M nm0;refine⟨_,U,x,dx,_,U,s4 _ _ s.obj,U,_,U,x,rows,n,here,U,O,h0,λl H5 nl s5 el=>?_⟩;have lp:l≠p:=(Qc B nl).symm;have lq:l≠q:=(Qc q4 nl).symm;refine⟨l,U,⟨_,zN.of el⟩,YQ (K:=K) (a:=l) (xs:=(vB rows here).map V.str) (λi σ j=>Ex3 λ(b f:qg)(o:Option V)=>cG (σ=[some (.ref x),some (.str nm),some (.ref p),some (.ref q),some (.str here),o]) (Qi H j) (j p=some (.dK (Qo b))) (j q=some (.lst (f.map V.str))) (j l=some (.lst ((vB rows here).map V.str))) (Wx rows nm here ((vB rows here).take i) b f) (2*(2*rows.length-b.length)+f.length<=2*(2*rows.length-rc.length)+c.length))
    ⟨rc,c,o5,U,s4.trans s5,s5 _ _ B,s5 _ _ q4,el,by simpa using d.pop,qz _⟩ ?_ ?_ ?_⟩
   .rintro i σ j _ ⟨b,f,o,rfl,S,I,X,Y,F,m6⟩;exact zN.of Y
   .rintro i v σ j Z ⟨b,f,o,rfl,S,I,X,Y,F,m6⟩;obtain⟨y,hy,rfl⟩:∃y,(vB rows here)[i]?=some y/\V.str y=v:=by
     rw[qQ] at Z
     cases e:(vB rows here)[i]? with
     |none=>rw[e] at Z;cases Z
     |some t=>rw[e] at Z;exact⟨t,U,qW Z⟩
    have et:(vB rows here).take (i+1)=(vB rows here).take i++[y]:=by rw[zR,hy];rfl
    have ym:y∈vB rows here:=zv hy;have l6':=A5 F hm;refine⟨_,U,_,U,p,_,U,Yg.k (k:=Sum.inr y) I,_,U,?_⟩;rw[UM];by_cases r:y∈b
    .rw[qP r];refine QC ⟨b,f,_,U,S,I,X,Y,?_,m6⟩;rw[et];exact F.old r
    .rw[qJ r];refine QT ⟨_,U,_,U,p,_,U,Uy.k (k:=Sum.inr y) I (by rw[Qo,ql];exact QI ⋯),?_⟩;rw[Wd r];have d7:=F.new r ym;have l7:=A5 d7 hm;rw[qA,qY] at l7;have s7:Qi H (upd j p (.dK (Qo (b++[y])))):=S.jl G;have q7:(upd j p (.dK (Qo (b++[y])))) q=some (.lst (f.map V.str)):=by rw[Qa pq.symm];exact X
     have p7:(upd j p (.dK (Qo (b++[y])))) p=some (.dK (Qo (b++[y]))):=Qb;have l7':(upd j p (.dK (Qo (b++[y])))) l=some (.lst ((vB rows here).map V.str)):=by rw[Qa lp];exact Y
     generalize upd j p (.dK (Qo (b++[y])))=H7 at s7 q7 p7 l7';refine⟨_,U,.inl ⟨U,_,zN.of q7⟩,_,U,q,_,_,U,U,q7,(by rw[ql];exact QI ⋯),?_⟩;refine⟨b++[y],f++[y],_,U,s7.jl qn,by rw[Qa pq];exact p7,by rw[Qb,qE];rfl,by rw[Qa lq];exact l7',?_,?_⟩
     .rw[et];exact d7
     .rw[qA,qA,qY];omega
   .rintro σ j ⟨b,f,o,rfl,S,I,X,Y,F,m6⟩;rw[ql,jH] at F;refine⟨_,?_,b,f,_,_,U,⋯,U,S,I,X,F.out⟩;rw[qA,qY];omega
abbrev Ent:=qg×Int×qc×V
variable {es:qa Ent}{e:Ent}
theorem WL{s t:qg}(h:Ya s=Ya t):s=t:=List.map_inj_right (f:=Sum.inr) (λ_ _ z=>jD z) |>.mp h
inductive QV(H:Hp):qa (qa Key×V)->qa Ent->Prop
 |nil:QV H [] []
 |cons {k:qg} {c:Int} {h:qc} {v:V} {p st:qd} {kvs:qa (qa Key×V)} {es:qa Ent} (e1:H p=some (.tup [.ref st,v])) (e2:H st=some (.tup [.int c,.str h])) (r:QV H kvs es):QV H ((Ya k,.ref p)::kvs) ((k,c,h,v)::es)
def Dw(es:qa Ent)(k:qg):Bool:=es.any λx=>decide (x.1=k)
def WR(es:qa Ent)(e:Ent):qa Ent:=if Dw es e.1=true then es.map (λx=>if x.1=e.1 then e else x) else es++[e]
def Y3(es:qa Ent)(k:qg):Option Ent:=es.find? λx=>decide (x.1=k)
theorem QV.mono{H H':Hp}(s:∀c xs,H c=some (.tup xs)->H' c=some (.tup xs)):∀{a:qa (qa Key×V)}{es:qa Ent},QV H a es->QV H' a es
 |_,_,.nil=>.nil
 |_,_,.cons b d r=>.cons (s _ _ b) (s _ _ d) (QV.mono s r)
theorem QV.len{H:Hp}:∀{a:qa (qa Key×V)}{es:qa Ent},QV H a es->a.length=es.length
 |_,_,.nil=>rfl
 |_,_,.cons _ _ r=>zt (·+1) (QV.len r)
theorem QV.keys{H:Hp}:∀{a:qa (qa Key×V)}{es:qa Ent},QV H a es->a.map (·.1)=(es.map (·.1)).map Ya
 |_,_,.nil=>rfl
 |_,_,.cons _ _ r=>by rw[zf,zf,zf,QV.keys r]
theorem QV.any{H:Hp}{k:qg}:∀{a:qa (qa Key×V)}{es:qa Ent},QV H a es->(a.any λc=>decide (c.1=Ya k))=Dw es k
 |_,_,.nil=>rfl
 |_,_,.cons (k:=b) _ _ r=>by
  unfold Dw;rw[yB,yB,QV.any r];have:decide (Ya b=Ya k)=decide (b=k):=by
   by_cases h:b=k
   .rw[qx h,qx (by rw[h])]
   .rw[qD h,qD λz=>h (WL z)]
  rw[this];rfl
theorem QV.app{H:Hp}{k:qg}{c:Int}{h:qc}{v:V}{p st:qd}(b:H p=some (.tup [.ref st,v]))(d:H st=some (.tup [.int c,.str h])):∀{a:qa (qa Key×V)}{es:qa Ent},QV H a es->QV H (a++[(Ya k,.ref p)]) (es++[(k,c,h,v)])
 |_,_,.nil=>.cons b d .nil
 |_,_,.cons a1 a2 r=>.cons a1 a2 (QV.app b d r)
theorem QV.rep{H:Hp}{k:qg}{c:Int}{h:qc}{v:V}{p st:qd}(b:H p=some (.tup [.ref st,v]))(d:H st=some (.tup [.int c,.str h])):∀{a:qa (qa Key×V)}{es:qa Ent},QV H a es->QV H (a.map λe=>if e.1=Ya k then (e.1,V.ref p) else e) (es.map λx=>if x.1=k then (k,c,h,v) else x)
 |_,_,.nil=>.nil
 |_,_,.cons (k:=f) a1 a2 r=>by
  rw[zf,zf];by_cases h:f=k
  .subst h;rw[qP rfl,qP rfl];exact .cons b d (QV.rep b d r)
  .rw[qJ (λz=>h (WL z)),qJ h];exact .cons a1 a2 (QV.rep b d r)
theorem QV.put{k:qg}{c:Int}{st:qd}{a:qa (qa Key×V)}(r:QV H a es)(b:H p=some (.tup [.ref st,v]))(d:H st=some (.tup [.int c,.str h])):QV H (Ye a (Ya k) (.ref p)) (WR es (k,c,h,v)):=by
 unfold Ye WR;rw[r.any];split
 .exact r.rep b d
 .exact r.app b d
inductive Got(H:Hp):Option V->Option Ent->Prop
 |no:Got H none none
 |yes {e:Ent} {p st:qd} (e1:H p=some (.tup [.ref st,e.2.2.2])) (e2:H st=some (.tup [.int e.2.1,.str e.2.2.1])):Got H (some (.ref p)) (some e)
theorem QV.get{H:Hp}(k:qg):∀{a:qa (qa Key×V)}{es:qa Ent},QV H a es->Got H (Qy a (Ya k)) (Y3 es k)
 |_,_,.nil=>.no
 |_,_,.cons (k:=b) a1 a2 r=>by
  by_cases h:b=k
  .subst h;have e:∀x es,Y3 ((b,x)::es) b=some (b,x):=λx es=>by unfold Y3;rw[j6 (by simp)]
   rw[Yq rfl,e];exact .yes a1 a2
  .have e:∀x es,Y3 ((b,x)::es) k=Y3 es k:=λx es=>by unfold Y3;rw[j7 (by simp[h])]
   rw[Yj (λz=>h (WL z)),e];exact QV.get k r
def sel(f:qg)(es:qa Ent):qa Ent:=es.filter λx=>decide (x.1.take 1=f)
theorem Ob{k f:qg}(h:k.take 1=f):Dw (sel f es) k=Dw es k:=by
 unfold Dw sel;rw[List.any_filter];congr 1;funext x;by_cases e:x.1=k
 .rw[qx e,e,h];simp
 .rw[qD e,zX]
theorem V5{k f:qg}(h:k.take 1=f):∀es:qa Ent,Y3 (sel f es) k=Y3 es k
 |[]=>rfl
 |x::es=>by
  have a:=V5 h es;unfold Y3 sel at *
  by_cases e:x.1=k
  .rw[zk,qP (by rw[e];exact qx h),j6 (by simp[e]),j6 (by simp[e])]
  .rw[j7 (by simp[e]) (l:=es),zk];split
   .rw[j7 (by simp[e])];exact a
   .exact a
theorem F2{f:qg}(h:e.1.take 1=f):sel f (WR es e)=WR (sel f es) e:=by
 unfold WR;rw[Ob h];split
 .unfold sel;rw[jB];congr 1;apply kx;intro x _;show decide ((if x.1=e.1 then e else x).1.take 1=f)=decide (x.1.take 1=f);by_cases z:x.1=e.1
  .rw[qP z,z]
  .rw[qJ z]
 .unfold sel;rw[zz,zk,qP (qx h),List.filter_nil]
theorem Im{f:qg}(h:e.1.take 1≠f):sel f (WR es e)=sel f es:=by
 unfold WR;split
 .unfold sel;rw[jB];have b:(es.filter ((λx:Ent=>decide (x.1.take 1=f))∘λx=>if x.1=e.1 then e else x))=es.filter λx=>decide (x.1.take 1=f):=by
   apply kx;intro x _;show decide ((if x.1=e.1 then e else x).1.take 1=f)=decide (x.1.take 1=f);by_cases z:x.1=e.1
   .rw[qP z,z]
   .rw[qJ z]
  rw[b];refine(yv λx c=>?_).trans (List.map_id _);have a:=qH (qX.mp c).2;rw[qJ (λz=>h (by rw[<-z];exact a))];rfl
 .unfold sel;rw[zz,zk,qJ (by simp[h]),List.filter_nil,zD]
theorem CQ(es:qa Ent)(e:Ent):(WR es e).length<=es.length+1/\es.length<=(WR es e).length:=by
 unfold WR;split
 .rw[ql];omega
 .rw[qA,qY];omega
theorem MI(h:Y3 es e.1=none):WR es e=es++[e]:=by
 have:Dw es e.1=false:=by
  unfold Y3 at h;unfold Dw;rw[List.any_eq_false];intro x a;have:=yH.mp h x a;exact this
 unfold WR;rw[this];exact qJ qO
structure Reg(a:jk)(H:Hp)(x dx D:qd)(kd:qa (qa Key×V))(es:qa Ent):Prop where
 obj:H x=some (.ins (a 102) dx [(Zx,.ref D)])
 dr:H D=some (.dT kd)
 yX:∀f v,Qy kd (Ya f)=some v->∃d kvs,v=.ref d/\d≠D/\H d=some (.dT kvs)/\QV H kvs (sel f es)
 ko:∀f,Qy kd (Ya f)=none->sel f es=[]
 inj:∀f f' d,Qy kd (Ya f)=some (.ref d)->Qy kd (Ya f')=some (.ref d)->f=f'
 few:kd.length<=es.length
def FP(D:qd)(kd:qa (qa Key×V))(c:qd):Prop:=c=D\/∃f,Qy kd (Ya f)=some (.ref c)
theorem Reg.fp{x:qd}(h:Reg a H x dx D kd es)(hc:FP D kd c):∃b,H c=some (.dT b):=by
 rcases hc with rfl|⟨f,e⟩
 .exact⟨_,h.dr⟩
 .obtain⟨d,b,g,_,i,_⟩:=h.yX f _ e;cases g;exact⟨_,i⟩
theorem Reg.frame{x:qd}(h:Reg a H x dx D kd es)(k1:∀c o,H c=some o->(∀b,o≠.dT b)->(∀xs,o≠.lst xs)->H' c=some o)(k2:∀c o,H c=some o->FP D kd c->H' c=some o):Reg a H' x dx D kd es:=
 ⟨k1 _ _ h.obj nofun nofun,k2 _ _ h.dr (.inl rfl),λf v e=>let ⟨d,b,g,i,j,k⟩:=h.yX f v e;⟨d,b,g,i,k2 _ _ j (.inr ⟨f,by rw[e,g]⟩),k.mono λc xs z=>k1 _ _ z nofun nofun⟩,h.ko,h.inj,h.few⟩
theorem Reg.same{x:qd}(h:Reg a H x dx D kd es)(s:Qi H H'):Reg a H' x dx D kd es:=h.frame (λc o e _ _=>s _ _ e) λc o e _=>s _ _ e
def U8(es:qa Ent)(e:Ent):Bool:=match Y3 es e.1 with
 |none=>true
 |some o=>!HT.k7 e.2.1 e.2.2.1 o.2.1 o.2.2.1
def UT(es:qa Ent)(e:Ent):qa Ent:=if U8 es e=true then WR es e else es
inductive Fv(a:jk)(vs:qa V)(H:Hp)(Q:VK)(E:XK):Prop
 |mk:∀(x dx:qd),vs=[.ref x]->H x=some (.ins (a 102) dx [])->(∀D H',H D=none->Reg a H' x dx D [] []->(∀c o,H c=some o->c≠x->H' c=some o)->Q .non H')->Fv a vs H Q E
inductive Mc(a:jk)(vs:qa V)(H:Hp)(Q:VK)(E:XK):Prop
 |mk:∀(x dx D:qd)(kd:qa (qa Key×V))(es:qa Ent)(kp sp:qd)(k:qg)(c:Int)(h:qc)(v:V),vs=[.ref x,.ref kp,.ref sp,v]->Reg a H x dx D kd es->es.length<=900->k≠[]->H kp=some (.tup (k.map V.str))->H sp=some (.tup [.int c,.str h]) ->
  (∀kd' H',Reg a H' x dx D kd' (UT es (k,c,h,v))->(∀c o,H c=some o->¬FP D kd c->H' c=some o)->(∀c,FP D kd' c->FP D kd c\/H c=none)->Q (.bl (U8 es (k,c,h,v))) H')->Mc a vs H Q E
inductive RL(a:jk)(vs:qa V)(H:Hp)(Q:VK)(E:XK):Prop
 |mk:∀(x dx D:qd)(kd:qa (qa Key×V))(es:qa Ent)(kp:qd)(k:qg)(v:V),vs=[.ref x,.ref kp,v]->Reg a H x dx D kd es->k≠[]->H kp=some (.tup (k.map V.str))->(∀H',Qi H H'->Q (((Y3 es k).map (·.2.2.2)).getD v) H')->RL a vs H Q E
inductive Cq(a:jk)(vs:qa V)(H:Hp)(Q:VK)(E:XK):Prop
 |mk:∀(x dx D:qd)(kd:qa (qa Key×V))(es:qa Ent)(f:qc),vs=[.ref x,.str f]->Reg a H x dx D kd es->(∀e∈es,e.1≠[])->es.length<64->(∀l bs H',H l=none->Qi H H'->Ve H' bs ((sel [f] es).map (·.1))->H' l=some (.lst ((U9 ((sel [f] es).map (·.1))).map λi=>(bs.map V.ref).getD i .non))->Q (.ref l) H')->Cq a vs H Q E
theorem An(k:qg):XY (k.map V.str) none (some 1)=(k.take 1).map V.str:=by
 unfold XY;rw[show(1:Int)=((1:Nat):Int) from rfl,HT.w9,HT.wq,List.drop_zero,Nat.sub_zero,ql,<-List.map_take]
 cases k with
 |nil=>rfl
 |cons x k=>rw[zc,Nat.min_eq_left ⋯]
theorem X7{k:qg}(h0:k≠[])(h:HT.jW (k.map V.str).length (k.map V.str).length (some 1)=(k.map V.str).length):k.map V.str=(k.take 1).map V.str:=by
 rw[show(1:Int)=((1:Nat):Int) from rfl,HT.wq,ql] at h;rw[ja ⋯]
theorem Xq(D:qd):List.lookup Zx ([(Zx,.ref D)]:qa (qc×V))=some (V.ref D):=by
 rw[zF,show((Zx)==(Zx))=true by decide +kernel]
theorem F3(f:qg)(es:qa Ent):(sel f es).length<=es.length:=zh _ _
theorem KP{H H':Hp}(s:Qi H H'):∀{bs:qa qd}{a:qa (qg)},Ve H bs a->Ve H' bs a
 |_,_,.nil=>.nil
 |_,_,.cons e t0 r=>.cons (s _ _ e) t0 (KP s r)
theorem M9(T:Txt P w K mg base a fd):T.k jg 1 53 (Fv a):=by
 refine T.ok 53 (λg A outer st H vs Q E i h=>?_)
 .obtain⟨x,dx,rfl,d,k⟩:=h;refine⟨_,(Qe (QX (pv 0) Xj rfl)),?_⟩;intro D b;have ne1:x≠D:=Qc d b;refine⟨_,U,x,_,dx,_,U,(by rw[Qa ne1];exact d),(T 12),(T 26),∅,?_⟩;refine k D _ b ⟨Qb,?_,λf v z=>(by cases z),λf _=>rfl,λ_ _ _ z=>(by cases z),qz _⟩ λc o e ne=>?_
  .rw[Qa ne1.symm];exact Qb
  .rw[Qa ne,Qa (Qc e b)];exact e
theorem PJ(T:Txt P w K mg base a fd):T.k jg 1 54 (Mc a):=by
 refine T.ok 54 (λcdv A outer st H vs Q E hr h=>?_)
 .obtain⟨x,dx,D,kd,es,kp,sp,k,c,h,v,rfl,R,hl,hk0,hkp,hsp,kq⟩:=h;have hu:=Yx hr;have hu0:=hr.uh;refine⟨_,(Qd (Qv (i:=4) (sc 54).nd (U5 F0 (pv 1) VP (VO Qj)))
   (Qd (QG (Y0 (Ug hu (pv 4) (Ql (pv 0) U))) (Qe (Ys hu (Ql (pv 0) U) (pv 4) Xj rfl)) Qq)
   (Qd (Qv (i:=5) (sc 54).nd (Ym hu (Ql (pv 0) U) (pv 4)))
   (Qd (QG (PW.pt (Vl (Y0 (W4 hu (pv 1) (pv 5))) (UX (Qx (SU hu0) (pv 2) (Qt QA (Ym hu (pv 5) (pv 1)) Qj))))) (Qe (Qp Uz)) Qq)
   (Qd (Ys hu (pv 5) (pv 1) (UY (Qf (pv 2) (Qf (pv 3) Qu))) rfl)
   (Qe (Qp Uz))))))),?_⟩
  refine Vr (t:=LX _ _) λN hN=>?_;have rest:∀(fp:qd)(H1:Hp),Qi H H1->H1 fp=some (.tup ((k.take 1).map V.str))->N [some (.ref x),some (.ref kp),some (.ref sp),some v,some (.ref fp),none] H1:=λfp H1 s1 J=>by
   subst hN;have r:=R.same s1;have hkp1:=s1 _ _ hkp;have hsp1:=s1 _ _ hsp;have key:∀{G:Hp}{b:qd}{t:qg},G b=some (.tup (t.map V.str))->G b=some (.tup ((Ya t).map kV)):=λe=>by rw[Gz];exact e
   refine Vr (t:=O1 _ _ _) λN2 hN2=>?_;have L:∀(l:qa (qa Key×V))(y:Hp)(d:qd)(m:qa (qa Key×V)),y D=some (.dT l)->Qy l (Ya (k.take 1))=some (.ref d)->d≠D->y d=some (.dT m)->QV y m (sel (k.take 1) es)->(∀j,j≠k.take 1->Qy l (Ya j)=Qy kd (Ya j)) ->
    l.length<=es.length+1->(l.length<=es.length\/sel (k.take 1) es=[])->(∀c o,H1 c=some o->c≠D->y c=some o)->(FP D kd d\/H1 d=none)->(∀j,Qy kd (Ya j)=some (.ref d)->j=k.take 1)->N2 [some (.ref x),some (.ref kp),some (.ref sp),some v,some (.ref fp),none] y:=λl y d m hD2 hv dD hd2 eo s hln hsl g hfresh M=>by
    subst hN2;have xD:x≠D:=QM r.obj r.dr nofun;have C:=g _ _ r.obj xD;have kD:kp≠D:=QM hkp1 r.dr nofun;have u:=g _ _ hkp1 kD;have hsp2:=g _ _ hsp1 (QM hsp1 r.dr nofun);have hfp2:=g _ _ J (QM J r.dr nofun);have vs0:=V5 (k:=k) rfl es;have O:∀{G:Hp}{F:qa (qa Key×V)}{S:qa Ent},(∀c o,y c=some o->c≠d->G c=some o)->G d=some (.dT F)->QV G F (sel (k.take 1) S)->(∀j,j≠k.take 1->sel j S=sel j es)->l.length<=S.length->Reg a G x dx D l S:=λ{G F S} Y hd' eo' hs' hl'=>by
     have kt:∀c xs,H1 c=some (.tup xs)->G c=some (.tup xs):=λc xs e=>Y _ _ (g _ _ e (QM e r.dr nofun)) (λz=>by have:=g _ _ e (QM e r.dr nofun);rw[z,hd2] at this;cases this);refine⟨Y _ _ C (λz=>by rw[z,hd2] at C;cases C),Y _ _ hD2 dD.symm,λj v' B=>?_,λj B=>?_,λf1 f2 d' I X=>?_,hl'⟩
     .by_cases hf:j=k.take 1
      .subst hf;rw[hv] at B;cases B;exact⟨d,F,U,dD,hd',eo'⟩
      .rw[s j hf] at B;obtain⟨d',kv,rfl,q1,q2,q3⟩:=r.yX j _ B;have dd:d'≠d:=λz=>hf (M j (by rw[<-z];exact B));exact⟨d',kv,U,q1,Y _ _ (g _ _ q2 q1) dd,by rw[hs' j hf];exact q3.mono kt⟩
     .have hf:j≠k.take 1:=λz=>by rw[z,hv] at B;cases B
      rw[s j hf] at B;rw[hs' j hf];exact r.ko j B
     .by_cases h1:f1=k.take 1
      .by_cases Z:f2=k.take 1
       .rw[h1,Z]
       .rw[h1,hv] at I;cases I;rw[s f2 Z] at X;exact absurd (M f2 X) Z
      .by_cases Z:f2=k.take 1
       .rw[Z,hv] at X;cases X;rw[s f1 h1] at I;exact absurd (M f1 I) h1
       .rw[s f1 h1] at I;rw[s f2 Z] at X;exact r.inj f1 f2 d' I X
    have M:∀c o,H c=some o->¬FP D kd c->y c=some o/\c≠d:=λc o e nf=>by
     have I:=s1 _ _ e;refine⟨g _ _ I (λz=>nf (.inl z)),λz=>?_⟩;rcases hfresh with q|q
     .exact nf (by rw[z];exact q)
     .rw[z,q] at I;cases I
    have fpC:∀c,FP D l c->FP D kd c\/H c=none:=λc hc=>by
     rcases hc with rfl|⟨j,B⟩
     .exact .inl (.inl rfl)
     .by_cases hf:j=k.take 1
      .rw[hf,hv] at B;cases B;rcases hfresh with q|q
       .exact .inl q
       .refine .inr ?_
        cases z:H d with
        |none=>rfl
        |some o=>have:=s1 _ _ z;rw[q] at this;cases this
      .rw[s j hf] at B;exact .inl (.inr ⟨j,B⟩)
    have B:U8 es (k,c,h,v)=true->(Y3 es k=none\/l.length<=es.length)->(∀p,y p=none->Q (.bl true) (upd (upd y p (.tup [.ref sp,v])) d (.dT (Ye m (Ya k) (.ref p))))):=λZ hnv p s=>by
     have pd:d≠p:=Qc hd2 s;have sH:Qi y (upd y p (.tup [.ref sp,v])):=Qi.zq s;have e:∀c o,y c=some o->c≠d->(upd (upd y p (.tup [.ref sp,v])) d (.dT (Ye m (Ya k) (.ref p)))) c=some o:=λc o q n=>by rw[Qa n];exact sH _ _ q
     have ep:(upd (upd y p (.tup [.ref sp,v])) d (.dT (Ye m (Ya k) (.ref p)))) p=some (.tup [.ref sp,v]):=by rw[Qa pd.symm];exact Qb
     have tk:∀c xs,y c=some (.tup xs)->(upd (upd y p (.tup [.ref sp,v])) d (.dT (Ye m (Ya k) (.ref p)))) c=some (.tup xs):=λc xs q=>e _ _ q (QM q hd2 nofun);have kE:UT es (k,c,h,v)=WR es (k,c,h,v):=qP Z;have:=kq l _ (by
      rw[kE];refine O e Qb ?_ (λj hf=>Im (λz=>hf z.symm)) ?_
      .rw[F2 (e:=(k,c,h,v)) (f:=k.take 1) rfl];exact(eo.mono tk).put ep (tk _ _ hsp2)
      .rcases hnv with q|q
       .rw[MI q,qA,qY];exact hln
       .exact zb q (CQ _ _).2) (λc o q nf=>let ⟨q1,q2⟩:=M c o q nf;e c o q1 q2) fpC
     rw[Z] at this;exact this
    refine⟨_,U,x,_,dx,_,_,U,C,(T 12),(T 26),Xq D,_,U,D,_,U,(by rw[<-hv];exact Yg.t hD2 (key hfp2)),?_⟩;have gt:=eo.get k;rw[vs0] at gt;refine⟨_,U,_,U,d,_,U,Yg.t hd2 (key u),_,U,?_⟩;have hkl:m.length<sizeLine:=by rw[eo.len];have:=F3 (k.take 1) es;exact QI ⋯
    cases hg:Y3 es k with
    |none=>
     rw[hg] at gt;have Z:U8 es (k,c,h,v)=true:=by unfold U8;rw[show Y3 es (k,c,h,v).1=none from hg]
     generalize hvv:Qy m (Ya k)=o at gt;cases gt;refine QC (QC ?_);exact⟨_,U,_,U,V1,λp s=>⟨_,U,_,U,d,_,U,Uy.t (by rw[Qa (Qc hd2 s)];exact hd2) (key (by rw[Qa (Qc u s)];exact u)) hkl,B Z (.inl hg) p s⟩⟩
    |some en=>
     rw[hg] at gt;have hlen:l.length<=es.length:=by
      rcases hsl with q|q
      .exact q
      .rw[<-vs0,q] at hg;cases hg
     generalize hvv:Qy m (Ya k)=o at gt
     cases gt with
     |@yes en p0 st0 I X=>
      refine QT ?_;refine⟨_,U,_,U,_,U,d,_,U,(by rw[<-hvv];exact Yg.t hd2 (key u)),p0,_,_,_,U,U,jj.of I,U,sp,st0,c,h,_,_,U,U,jj.of hsp2,jj.of X,_,U,?_⟩
      cases hle:HT.k7 c h en.2.1 en.2.2.1 with
      |true=>
       refine QT ?_;have Z:U8 es (k,c,h,v)=false:=by unfold U8;rw[show Y3 es (k,c,h,v).1=some en from hg];show(!HT.k7 c h en.2.1 en.2.2.1)=false;rw[hle];rfl
       have kE:UT es (k,c,h,v)=es:=qJ (by rw[Z];exact qO);have:=kq l y (by rw[kE];exact O (λ_ _ q _=>q) hd2 eo (λ_ _=>rfl) hlen) (λc o q nf=>(M c o q nf).1) fpC;rw[Z] at this;exact this
      |false=>
       refine QC ?_;have Z:U8 es (k,c,h,v)=true:=by unfold U8;rw[show Y3 es (k,c,h,v).1=some en from hg];show(!HT.k7 c h en.2.1 en.2.2.1)=true;rw[hle];rfl
       exact⟨_,U,_,U,V1,λp s=>⟨_,U,_,U,d,_,U,Uy.t (by rw[Qa (Qc hd2 s)];exact hd2) (key (by rw[Qa (Qc u s)];exact u)) hkl,B Z (.inr hlen) p s⟩⟩
   have B:=r.few;refine⟨_,U,_,U,x,_,dx,_,_,U,r.obj,(T 12),(T 26),Xq D,D,_,U,Yg.t r.dr (key J),_,U,?_⟩
   cases g:Qy kd (Ya (k.take 1)) with
   |some v0=>
    refine QC ?_;obtain⟨d,m,rfl,q1,q2,q3⟩:=r.yX _ _ g;exact L kd H1 d m r.dr g q1 q2 q3 (λ_ _=>rfl) ⋯ (.inl B) (λ_ _ e _=>e) (.inl (.inr ⟨_,g⟩)) λj e=>r.inj _ _ d e g
   |none=>
    refine QT ?_;intro p s;have C:D≠p:=Qc r.dr s;have F:x≠p:=Qc r.obj s;refine⟨_,U,x,_,dx,_,_,U,(by rw[Qa F];exact r.obj),(T 12),(T 26),Xq D,_,U,D,_,U,Uy.t (by rw[Qa C];exact r.dr) (key (by rw[Qa (Qc J s)];exact J)) (QI ⋯),?_⟩;have u:=r.ko _ g;refine L _ _ p [] Qb (by rw[KN,qP rfl]) C.symm (by rw[Qa C.symm];exact Qb) (by rw[u];exact .nil) (λj hf=>by rw[KN,qJ (λz=>hf (WL z))]) ?_ (.inr u) (λc o e n=>by rw[Qa n,Qa (Qc e s)];exact e) (.inr s) λj e=>?_
    .have:=UO kd (Ya (k.take 1)) (V.ref p);omega
    .obtain⟨d',kv,I,_,X,_⟩:=r.yX j _ e;cases I;rw[s] at X;cases X
  refine⟨_,U,_,U,kp,_,U,jj.of hkp,λhw=>?_,λp s=>?_⟩
  .exact rest kp H (Qi.refl H) (by rw[hkp,<-X7 hk0 hw.2])
  .exact rest p _ (Qi.zq s) (by rw[Qb,An])
theorem Bx(T:Txt P w K mg base a fd):T.k jg 1 90 (RL a):=by
 refine(T.D 90).ok (sc 90) (λC A outer st H vs Q E F h=>?_) (λvs H Q E h=>by obtain⟨x,dx,D,kd,es,l,k,v,rfl,_⟩:=h;rfl)
 .obtain⟨x,dx,D,kd,es,l,k,v,rfl,R,r,f,I⟩:=h;have s:=Yx F;refine⟨_,(Qd (Qv (i:=3) (sc 90).nd (Uo s (Ql (pv 0) U) (U5 F0 (pv 1) VP (VO Qj)) Xj ⟨U,U,U,U⟩))
   (Qe (Qp (Gi (Y0 (W4 s (pv 1) (pv 3))) (Qt QA (Ym s (pv 3) (pv 1)) Qj) (pv 2))))),?_⟩
  have key:∀{G:Hp}{b:qd}{t:qg},G b=some (.tup (t.map V.str))->G b=some (.tup ((Ya t).map kV)):=λe=>by rw[Gz];exact e
  refine Vr (t:=LX _ _) λN hN=>?_;have last:∀(d:qd)(c:qa (qa Key×V))(G:Hp)(g:qa Ent),Qi H G->G d=some (.dT c)->QV G c g->Y3 g k=Y3 es k->N [some (.ref x),some (.ref l),some v,some (.ref d)] G:=λd c G g B hd J he=>by
   subst hN;have gt:=J.get k;rw[he] at gt;have m:=B _ _ f;refine⟨_,U,_,U,d,_,U,Yg.t hd (key m),_,U,?_⟩;have n:=I G B;generalize u:Qy c (Ya k)=o at gt;generalize Y3 es k=M at gt n
   cases gt with
   |no=>exact QC ⟨_,U,n⟩
   |@yes O y z L S=>exact QT ⟨_,U,_,U,d,_,U,(by rw[<-u];exact Yg.t hd (key m)),y,_,_,_,U,U,jj.of L,QF (j:=1) rfl,n⟩
  have rest:∀(u:qd)(H1:Hp),Qi H H1->H1 u=some (.tup ((k.take 1).map V.str))->∀p,H1 p=none->∃o,Yg (upd H1 p (.dT [])) D (.ref u) o/\N [some (.ref x),some (.ref l),some v,some (o.getD (.ref p))] (upd H1 p (.dT [])):=λu H1 s1 y p m=>by
   have s2:Qi H1 (upd H1 p (.dT [])):=Qi.zq m;have R2:=(R.same s1).same s2;refine⟨_,Yg.t R2.dr (key (s2 _ _ y)),?_⟩
   cases n:Qy kd (Ya (k.take 1)) with
   |none=>
    refine last p [] _ [] (s1.trans s2) Qb .nil ?_;rw[<-V5 rfl es,R2.ko _ n]
   |some v0=>
    obtain⟨d,c,rfl,M,z,L⟩:=R2.yX _ _ n;exact last d c _ _ (s1.trans s2) z L (V5 rfl es)
  refine⟨_,U,x,_,dx,_,_,U,R.obj,(T 12),(T 26),Xq D,D,U,.inr ⟨_,.inl R.dr⟩,_,U,_,U,l,_,U,jj.of f,λhw=>?_,λq L=>?_⟩
  .intro p m;obtain⟨o,n,z⟩:=rest l H (Qi.refl H) (by rw[f,<-X7 r hw.2]) p m;exact⟨o,n,z⟩
  .intro p m;obtain⟨o,n,z⟩:=rest q _ (Qi.zq L) (by rw[Qb,An]) p m;exact⟨o,n,z⟩
theorem IH(T:Txt P w K mg base a fd):T.k jg 1 55 (Cq a):=by
 refine T.ok 55 (λs A outer st H vs Q E u h=>?_)
 .obtain⟨x,dx,D,kd,es,f,rfl,R,h0,v,y⟩:=h;have B:=Yx u;refine⟨_,(Qe (Qp (Qs (Xu rfl) rfl (T 14) boot_sorted (zj (Uo B (Ql (pv 0) U) (UY (Qf (pv 1) Qu)) Xj ⟨U,U,U,U⟩) Qg)))),?_⟩;refine⟨_,U,x,_,dx,_,_,U,R.obj,(T 12),(T 26),Xq D,D,U,.inr ⟨_,.inl R.dr⟩,_,U,G9,λk m=>?_⟩;have s1:Qi H (upd H k (.tup [.str f])):=Qi.zq m;have c:(upd H k (.tup [.str f])) k=some (.tup ((Ya [f]).map kV)):=Qb;generalize upd H k (.tup [.str f])=H1 at s1 c⊢;intro p C;have s2:Qi H1 (upd H1 p (.dT [])):=Qi.zq C;have n:(upd H1 p (.dT [])) p=some (.dT []):=Qb;have R2:=(R.same s1).same s2;refine⟨_,Yg.t R2.dr (s2 _ _ c),?_⟩;generalize upd H1 p (.dT [])=g at s2 R2 n⊢;have fin:∀(d:qd)(b:qa (qa Key×V)),g d=some (.dT b)->QV g b (sel [f] es)->XG [.ref d] g Q:=λd b hd F=>
   ⟨d,b,(sel [f] es).map (·.1),U,hd,F.keys,λt j=>by
     obtain⟨e,he,rfl⟩:=qw.mp j;exact h0 e (qX.mp he).1,by rw[ql];exact jh (F3 _ _) v,λl bs q j=>by
     have r:Qi g (upd g l (.lst ((U9 ((sel [f] es).map (·.1))).map λi=>(bs.map V.ref).getD i .non))):=Qi.zq q;refine y l bs _ ?_ ((s1.trans s2).trans r) (KP r j) Qb
     cases z:H l with
     |none=>rfl
     |some o=>have:=s2 _ _ (s1 _ _ z);rw[q] at this;cases this⟩
  cases j:Qy kd (Ya [f]) with
  |none=>exact fin p [] n (by rw[R2.ko _ j];exact .nil)
  |some v0=>
   obtain⟨d,b,rfl,G,q,r⟩:=R2.yX _ _ j;exact fin d b q r
def isW(x:qc):Bool:=decide (1<=(x.length:Int))&&(decide ((x.length:Int)<=20)&&x.cps.toList.all λc=>decide (c∈aZ.cps.toList))
theorem bP :kitOne K (.type "bool") (.type "bool")=some true:=by unfold kitOne;rw[qP (z8 _)]
inductive FY(vs:qa V)(H:Hp)(Q:VK)(E:XK):Prop
 |mk:∀x y:qc,vs=[.str x,.str y]->x.length<=1000->(∀H',Qi H H'->Q (.bl (x.cps.toList.all λc=>decide (c∈y.cps.toList))) H')->FY vs H Q E
def Md(K:Frag):Sp:=λvs H Q _=>(∃x:qc,vs=[.str x]/\x.length<=1000/\∀H',Qi H H'->Q (.bl (isW x)) H') \/
 ∃v t,vs=[v]/\Vd K H v t/\kitOne K t (.type "str")=some false/\Q (.bl false) H
theorem Xm(T:Txt P w K mg base a fd):T.k jg 1 0 FY:=by
 refine T.ok 0 (λb A outer s H vs Q E f h=>?_)
 .obtain⟨x,y,rfl,d,k⟩:=h;refine⟨_,Qe (Qp (Qs (GY rfl) rfl (T 44) boot_all (zj (UZ (sc:=Qr (sO 0)) (N:=(nn 0)) (fr:=[(1,"signs")]) (wN rfl rfl) rfl rfl rfl (MO (pv 0))
   (λ_ _ _ _=>WB) (λ_ _ _ _=>WG XJ (pv 0) (pv 1) (by with_unfolding_all rfl))) Qg))),?_⟩
  refine⟨_,U,x,U,DB (λc=>.bl (decide (c∈y.cps.toList))) (Yd (d)) ?_ ?_⟩
  .intro c e Q' hc q;refine⟨_,U,_,U,_,_,U,U,?_⟩;rw[StrLaws.found_one];exact q
  .intro D e;refine⟨D,x.cps.toList.map λc=>decide (c∈y.cps.toList),U,zN.of (by rw[zg];exact Qb),?_⟩;rw[wX];exact k _ (Qi.zq e)
theorem Vw(T:Txt P w K mg base a fd):T.k jg 2 1 (Md K):=by
 refine T.ok 1 (λg A outer s H vs Q E i h=>?_) (λvs H Q E h=>by rcases h with⟨x,rfl,_⟩|⟨v,t,rfl,_⟩<;>rfl)
 .refine⟨_,Qe (Qp (Up (Qs QR rfl (T 6) boot_isinstance (zj (pv 0) (zj (YF (v:=.ty "str") rfl (T 9) boot_str rfl) Qg)))
   (Up (Gj Wf Wf Qj (Qs Ux rfl (T 3) zx (zj (pv 0) Qg)) (Vu rfl (T 72)))
   (Vn (Ky (Xm T) i rfl (T 64) (T.F 0).kp (T.B 0) .nil UN (zj (pv 0) (zj (Vu rfl (T 70)) Qg))))))),?_⟩
  rcases h with⟨x,rfl,f,k⟩|⟨v,t,rfl,ty,j,k⟩
  .refine⟨_,U,_,_,_,_,_,U,U,Vd.str x,Kh,_,U,QT ?_⟩;refine⟨_,U,x,U,Yd (f),_,_,U,U,_,U,?_⟩;have b:isW x=(decide (1<=(x.length:Int))&&(decide ((x.length:Int)<=20)&&x.cps.toList.all λc=>decide (c∈aZ.cps.toList))):=rfl;by_cases d:(1:Int)<=(x.length:Int)
   .rw[qx d];rw[qx d,jF] at b;refine QT ⟨_,_,U,U,_,U,?_⟩;by_cases e:(x.length:Int)<=20
    .rw[qx e];rw[qx e,jF] at b;refine QT ⟨_,U,x,aZ,U,f,λH' s'=>?_⟩;rw[<-b];exact k H' s'
    .rw[qD e];rw[qD e,jw] at b;refine QC ?_;rw[<-b];exact k H (Qi.refl H)
   .rw[qD d];rw[qD d,jw] at b;refine QC ⟨_,U,QC ?_⟩;rw[<-b];exact k H (Qi.refl H)
  .exact⟨_,U,_,_,_,_,_,U,U,ty,j,_,U,QC k⟩
theorem EZ:∀(l:qa Nat)(st:qg×qc),(l.foldl wK st).1.length<=st.1.length+l.length/\(l.foldl wK st).2.length<=st.2.length+l.length
 |[],st=>⟨qz _,qz _⟩
 |c::l,st=>by
  rw[ya,zc];have q:=EZ l (wK st c);have e:(wK st c).1.length<=st.1.length+1/\(wK st c).2.length<=st.2.length+1:=by
   unfold wK;split
   .exact⟨jE _,by rw[Rr,Hv];exact qz _⟩
   .refine⟨by rw[qA];exact qz _,?_⟩;show Str.empty.length<=_;exact za _
  omega
theorem OX(l:qa Nat):(ug l).1.length<=l.length/\(ug l).2.length<=l.length:=by
 have q:=EZ l ([],Str.empty);have e:Str.empty.length=0:=rfl;rw[jq,e,Nat.zero_add] at q;exact q
theorem E2(x:qc):(yD x).length<=x.length+1:=by
 have q:=OX x.cps.toList;have e:=zh GN ((ug x.cps.toList).1++[(ug x.cps.toList).2]);rw[qA,qY] at e;rw[Vy];show(List.filter GN _).length<=_;omega
inductive Fn(vs:qa V)(H:Hp)(Q:VK)(E:XK):Prop
 |mk:∀x:qc,vs=[.str x]->kK x->x.length<=900->(∀(l:qd)(H':Hp),H l=none->Qi H H'->H' l=some (.lst ((yD x).map V.str))->Q (.ref l) H')->Fn vs H Q E
theorem Kc(T:Txt P w K mg base a fd):T.k jg 1 2 Fn:=by
 refine T.ok 2 (λp A outer s H vs Q E v h=>?_)
 .obtain⟨x,rfl,g,t,k⟩:=h;refine⟨_,(Qd (W3 (sc:=Qr (sO 2)) (N:=(nn 2)) (i:=1) (fr:=[]) (wN rfl rfl) rfl rfl rfl (sc 2).nd U rfl (MO (pv 0)) (λ_ _ _ _=>WB) (λ_ _ _ _=>(Gi (Qx XJ (pv 0) (Vu rfl (T 71)) (by with_unfolding_all rfl)) (Pp K plainAttrs_str PySem.F.slot_str_lower PySem.F.type_str_lower Nz (pv 0)) Qk)))
   (Qe (Qp (Gk plainAttrs_str PySem.F.slot_str_split PySem.F.type_str_split IV (WW plainAttrs_str PySem.F.slot_str_join PySem.F.type_str_join Hy Qk (zj (pv 1) Qg)))))),?_⟩
  refine⟨_,U,x,U,DB (λc=>.str ⟨#[gS c]⟩) (Yd ((by show x.length<=1000;omega))) ?_ ?_⟩
  .intro c b Q' hc q;refine⟨_,U,_,_,U,U,_,U,?_⟩;rw[StrLaws.found_one];have d:gS c=if decide (c∈rS.cps.toList)=true then lo1 c else 32:=rfl
   rw[d] at q;refine P7 (λh=>?_) (λh=>?_)
   .rw[qP h] at q;refine⟨_,U,U,⟨#[c]⟩,U,U,g.one hc,(by show 1<=1000000;decide),?_⟩;have e:(#[c]:Array Nat).map lo1=#[lo1 c]:=by simp
    show Q' (.str ⟨(#[c]:Array Nat).map lo1⟩) b;rw[e];exact q
   .rw[qJ h] at q;exact q
  .intro D j;generalize b:x.cps.toList.map (λc=>(⟨#[gS c]⟩:qc))=ys;have m:x.cps.toList.map (λc=>V.str ⟨#[gS c]⟩)=ys.map V.str:=by rw[<-b,zg];rfl
   have d:∀y∈ys,y.length=1:=λy n=>by
    rw[<-b] at n;obtain⟨c,_,rfl⟩:=qw.mp n;rfl
   have f:ys.length=x.length:=by rw[<-b,ql,Vy]
   have u:(Txt.join "" ys).cps.toList=x.cps.toList.map gS:=by
    rw[HC,<-b,zg];clear g t k b m d f j
    induction x.cps.toList with
    |nil=>rfl
    |cons c r o=>simpa using o
   rw[m];refine⟨U,_,U,"",D,ys,U,U,zN.of Qb,NV d ⋯,U,_,U,U,(by rw[Lb d];omega),λl o=>?_⟩;rw[Ia u];have s1:Qi H (upd H D (.lst (ys.map V.str))):=Qi.zq j;exact k l _ (s1.free o) (s1.jl (s1.free o)) Qb
theorem LZ{xs:qg}{y:V}(h:(xs.map V.str)[i]?=some y):∃t,y=.str t/\xs[i]?=some t:=by
 rw[qQ] at h
 cases e:xs[i]? with
 |none=>rw[e] at h;cases h
 |some t=>rw[e] at h;exact⟨t,(qW h).symm,U⟩
structure WU(s t b:qc)(d:Int)(an:qc):Prop where
 s_:Uj s
 t_:kK t
 tl:t.length<=60
 tn:¬10∈t.cps.toList
 b_:kK b
 bl:b.length<=400
 d0:0<=d
 d1:d<=9999
 a_:an=""\/Uj an
abbrev ux(s t b:qc)(d:Int)(an:qc)(f:V):qa (qc×V):=[("sender",.str s),("title",.str t),("body",.str b),("day",.int d),("answers",.str an),("found",f)]
def DT(a:jk)(H:Hp)(x:qd)(s t b:qc)(d:Int)(an:qc)(D:qd):Prop:=(∃dx,H x=some (.ins (a 99) dx (ux s t b d an (.ref D))))/\H D=some (.dK (kn (yD t) (yD t++yD b)))
def Uk(a:jk)(H:Hp)(x:qd)(s t b:qc)(d:Int)(an:qc):Prop:=(∃dx,H x=some (.ins (a 99) dx (ux s t b d an .non)))\/∃D,DT a H x s t b d an D
theorem Uk.mono{x:qd}{b:qc}(h:Uk a H x s t b d an)(q:Qi H H'):Uk a H' x s t b d an:=by
 rcases h with⟨dx,e⟩|⟨D,⟨dx,e⟩,c⟩
 .exact .inl ⟨dx,q _ _ e⟩
 .exact .inr ⟨D,⟨dx,q _ _ e⟩,q _ _ c⟩
theorem Uk.at{x:qd}{b:qc}(h:Uk a H x s t b d an):∃dx f,H x=some (.ins (a 99) dx (ux s t b d an f)):=by
 rcases h with⟨dx,e⟩|⟨D,⟨dx,e⟩,c⟩
 .exact⟨dx,_,e⟩
 .exact⟨dx,_,e⟩
theorem Uk.other{x y:qd}{b:qc}{C f:qd}{g:qa (qc×V)}(h:Uk a H x s t b d an)(ne:x≠y)(i:H y=some (.ins C f g))(q:SX y H H'):Uk a H' x s t b d an:=by
 rcases h with⟨dx,e⟩|⟨D,⟨dx,e⟩,c⟩
 .exact .inl ⟨dx,q _ _ ne e⟩
 .exact .inr ⟨D,⟨dx,q _ _ ne e⟩,q _ _ (QM c i nofun) c⟩
theorem EE(h:Uj x):isW x=true:=by
 unfold isW;have a:=h.lo;have b:=h.hi;rw[qx ⋯,qx ⋯,jF,jF];exact zi.mpr λc hc=>qx (h.gz c hc)
theorem Lf:isW ""=false:=by decide +kernel
inductive Cr(vs:qa V)(H:Hp)(Q:VK)(E:XK):Prop
 |mk:∀(x:qc)(m:Int),vs=[.str x,.int m]->x.length<=1000->Q (.bl (decide ((x.length:Int)<=m))) H->Cr vs H Q E
inductive Fp(vs:qa V)(H:Hp)(Q:VK)(E:XK):Prop
 |mk:∀i:Int,vs=[.int i]->Q (.bl true) H->Fp vs H Q E
inductive K4(vs:qa V)(H:Hp)(Q:VK)(E:XK):Prop
 |mk:∀x:qc,vs=[.str x]->(x=""\/Uj x)->(∀H',Qi H H'->Q (.bl true) H')->K4 vs H Q E
inductive FN(vs:qa V)(H:Hp)(Q:VK)(E:XK):Prop
 |mk:∀s t b d an,vs=[.str s,.str t,.str b,.int d,.str an]->WU s t b d an->(∀H',Qi H H'->Q .non H')->FN vs H Q E
inductive Bn(a:jk)(vs:qa V)(H:Hp)(Q:VK)(E:XK):Prop
 |mk:∀x dx s t b d an,vs=[.ref x,.str s,.str t,.str b,.int d,.str an]->WU s t b d an->H x=some (.ins (a 99) dx [])->(∀H',(∀c o,c≠x->H c=some o->H' c=some o)->H' x=some (.ins (a 99) dx (ux s t b d an .non))->Q .non H')->Bn a vs H Q E
inductive Fx(a:jk)(vs:qa V)(H:Hp)(Q:VK)(E:XK):Prop
 |mk:∀x s t b d an,vs=[.ref x]->Uk a H x s t b d an->(∀p,H p=none->Q (.ref p) (upd H p (.tup [.str s,.str t,.str b,.int d,.str an])))->Fx a vs H Q E
theorem NO :kitOne K (.type "tuple") (.type "tuple")=some true:=by unfold kitOne;rw[qP (z8 _)]
theorem bN :kitOne K (.type "int") (.type "int")=some true:=by unfold kitOne;rw[qP (z8 _)]
theorem bO :kitOne K (.type "int") (.type "bool")=some false:=by kernel_rfl
theorem Tc:("\n":qc)=⟨#[10]⟩:=by decide +kernel
theorem Et{b:qc}{R:VK}{E:XK}{x:qd}(h:H x=none)(hd:H dx=none)(ne:dx≠x)(g:WU s t b d an)(k:∀H',Qi H H'->Uk a H' x s t b d an->R .non H') :
 Bn a [.ref x,.str s,.str t,.str b,.int d,.str an] (upd (upd H dx (.own x)) x (.ins (a 99) dx [])) R E:=by
 refine⟨x,dx,s,t,b,d,an,U,g,Qb,λH' i f=>k H' (λc o e=>i c o (Qc e h) ?_) (.inl ⟨dx,f⟩)⟩;rw[Qa (Qc e h),Qa (Qc e hd)];exact e
theorem Gn(T:Txt P w K mg base a fd):T.k jg 1 3 Cr:=by
 refine T.ok 3 (λb A outer s H vs Q E d h=>?_)
 .obtain⟨x,m,rfl,c,k⟩:=h;refine⟨_,(Qe (Qp (Up (Qs QR rfl (T 6) boot_isinstance (zj (pv 0) (zj (YF (v:=.ty "str") rfl (T 9) boot_str rfl) Qg))) (Vn (WG Wf (Qs Ux rfl (T 3) zx (zj (pv 0) Qg)) (pv 1)))))),?_⟩;exact⟨_,U,_,_,_,_,_,U,U,Vd.str x,Kh,_,U,QT ⟨_,U,x,U,Yd (c),_,U,_,_,U,U,k⟩⟩
theorem Kd(T:Txt P w K mg base a fd):T.k jg 1 4 Fp:=by
 refine T.ok 4 (λb A outer s H vs Q E c h=>?_)
 .obtain⟨x,rfl,k⟩:=h;refine⟨_,(Qe (Qp (Up (Qs QR rfl (T 6) boot_isinstance (zj (pv 0) (zj (YF (v:=.ty "int") rfl (T 42) boot_int rfl) Qg))) (Vn (SO (Qs QR rfl (T 6) boot_isinstance (zj (pv 0) (zj (YF (v:=.ty "bool") rfl (T 54) boot_bool rfl) Qg)))))))),?_⟩;exact⟨_,U,_,_,_,_,_,U,U,Vd.int x,bN,_,U,QT ⟨_,U,_,_,_,_,_,U,U,Vd.int x,bO,_,U,k⟩⟩
theorem Gp(T:Txt P w K mg base a fd):T.k jg 3 5 K4:=by
 refine T.ok 5 (λc A outer s H vs Q E d h=>?_)
 .obtain⟨x,rfl,b,k⟩:=h;refine⟨_,(Qe (Qp (bC (T.cl (Vw T) (zj (pv 0) Qg)) (Vn (Up (Qs QR rfl (T 6) boot_isinstance (zj (pv 0) (zj (YF (v:=.ty "str") rfl (T 9) boot_str rfl) Qg))) (Vn (WG Uq (pv 0) Qk))))))),?_⟩;rcases b with rfl|b
  .refine⟨_,U,.inl ⟨_,U,by rw[A3];omega,λH' s'=>?_⟩⟩;rw[Lf];refine⟨_,U,QC ⟨_,U,_,_,_,_,_,U,U,Vd.str _,Kh,_,U,QT ⟨_,U,U,?_⟩⟩⟩;rw[qx rfl];exact k H' s'
  .have:=b.hi;refine⟨_,U,.inl ⟨_,U,⋯,λH' s'=>?_⟩⟩;rw[EE b];exact⟨_,U,QT (k H' s')⟩
theorem Np(T:Txt P w K mg base a fd):T.k jg 4 6 FN:=by
 refine T.ok 6 (λc A outer s H vs Q E f h=>?_)
 .obtain⟨s,t,b,d,an,rfl,g,k⟩:=h;refine⟨_,(Qd (QG (Yl (Yk (T.cl (Vw T) (zj (pv 0) Qg)))) (Qe Yw) Qq)
   (Qd (QG (PW.pt (Vh (Yl (Yk (T.cl (Gn T) (zj (pv 1) (zj (Vu rfl (T 73)) Qg))))) (UQ (Qx XJ Qk (pv 1) (by with_unfolding_all rfl))))) (Qe Yw) Qq)
   (Qd (QG (Yl (Yk (T.cl (Gn T) (zj (pv 2) (zj (Vu rfl (T 74)) Qg))))) (Qe Yw) Qq)
   (Qd (QG (PW.pt (Vh (Yl (Yk (T.cl (Kd T) (zj (pv 3) Qg)))) (UQ (Yl (MJ Wf Wf Qj (pv 3) (Vu rfl (T 75))))))) (Qe Yw) Qq)
   (Qe (QG (Yl (Yk (T.cl (Gp T) (zj (pv 4) Qg)))) (Qe Yw) Qq)))))),?_⟩
  have i:=g.s_.hi;refine⟨_,U,.inl ⟨s,U,⋯,λH1 s1=>?_⟩⟩;rw[EE g.s_];refine⟨_,U,QC ?_⟩;refine⟨_,U,t,60,U,by have:=g.tl;omega,?_⟩;rw[qx (by have:=g.tl;omega)];refine⟨_,U,QC ⟨_,U,_,_,U,U,_,U,?_⟩⟩;rw[Tc,StrLaws.found_one,qD g.tn];refine QC ⟨_,U,b,400,U,by have:=g.bl;omega,?_⟩;rw[qx (by have:=g.bl;omega)];refine⟨_,U,QC ⟨_,U,d,U,_,U,QC ?_⟩⟩;refine⟨_,U,_,_,U,U,_,U,?_⟩;rw[qx g.d0];refine QT ⟨_,_,U,U,_,U,?_⟩;rw[qx g.d1];refine QC ⟨_,U,an,U,g.a_,λe s2=>⟨_,U,QC (k e (s1.trans s2))⟩⟩
theorem Bw(T:Txt P w K mg base a fd):T.k jg 5 87 (Bn a):=by
 refine(T.D 87).ok (sc 87) (λf A outer s H vs Q E j h=>?_) (λvs H Q E h=>by obtain⟨x,dx,s,t,b,d,an,rfl,_⟩:=h;rfl)
 .obtain⟨x,dx,s,t,b,d,an,rfl,g,i,k⟩:=h;refine⟨_,(Qd (Qw (T.cl (Np T) (zj (pv 1) (zj (pv 2) (zj (pv 3) (zj (pv 4) (zj (pv 5) Qg)))))))
   (Qd (QX (pv 0) (pv 1) U)
   (Qd (QX (pv 0) (pv 2) U)
   (Qd (QX (pv 0) (pv 3) U)
   (Qd (QX (pv 0) (pv 4) U)
   (Qd (QX (pv 0) (pv 5) U)
   (Qe (QX (pv 0) XI rfl)))))))),?_⟩
  refine⟨_,U,_,U,_,U,_,U,_,U,s,t,b,d,an,U,g,λH1 s1=>?_⟩;refine⟨_,U,_,U,x,_,dx,_,U,s1 _ _ i,(T 2),(T 47),∅,?_⟩;refine⟨_,U,_,U,x,_,dx,_,U,Qb,(T 2),(T 35),(by show 1<1000;decide),?_⟩;refine⟨_,U,_,U,x,_,dx,_,U,Qb,(T 2),(T 36),(by show 2<1000;decide),?_⟩;refine⟨_,U,_,U,x,_,dx,_,U,Qb,(T 2),(T 48),(by show 3<1000;decide),?_⟩;refine⟨_,U,_,U,x,_,dx,_,U,Qb,(T 2),(T 37),(by show 4<1000;decide),?_⟩;refine⟨_,U,x,_,dx,_,U,Qb,(T 2),(T 17),(by show 5<1000;decide),?_⟩;refine k _ (λc o ne e=>?_) ?_
  .rw[Qa ne,Qa ne,Qa ne,Qa ne,Qa ne,Qa ne];exact s1 _ _ e
  .exact Qb
theorem Na(T:Txt P w K mg base a fd):T.k jg 1 34 (Fx a):=by
 refine T.ok 34 (λe A outer s H vs Q E i h=>?_)
 .obtain⟨x,s,t,b,d,an,rfl,g,k⟩:=h;obtain⟨dx,f,c⟩:=g.at
  refine⟨_,(Qe (Qp (UY (Qf (Ql (pv 0) U) (Qf (Ql (pv 0) U) (Qf (Ql (pv 0) U) (Qf (Ql (pv 0) U) (Qf (Ql (pv 0) U) Qu)))))))),?_⟩;exact⟨_,U,x,_,dx,_,_,U,c,(T 2),(T 47),U,_,U,x,_,dx,_,_,U,c,(T 2),(T 35),U,_,U,x,_,dx,_,_,U,c,(T 2),(T 36),U,_,U,x,_,dx,_,_,U,c,(T 2),(T 48),U,_,U,x,_,dx,_,_,U,c,(T 2),(T 37),U,R5,k⟩
abbrev cfs(y:qd)(a:qc)(g:qd):qa (qc×V):=[("letter",.ref y),("box",.str a),("signs",.ref g)]
def EX(a:jk)(H:Hp)(x g:qd)(s t b:qc)(d:Int)(an c:qc)(ms:qg):Prop:=(∃dx y,H x=some (.ins (a 94) dx (cfs y c g))/\Uk a H y s t b d an)/\H g=some (.lst (ms.map V.str))
def Xy(H:Hp)(m:V)(ss:qg):Prop:=(m=.non/\ss=[])\/∃p,m=.ref p/\(H p=some (.lst (ss.map V.str))\/H p=some (.tup (ss.map V.str)))
theorem Xy.mono{m:V}{ss:qg}(h:Xy H m ss)(q:Qi H H'):Xy H' m ss:=by
 rcases h with h|⟨p,e,h|h⟩
 .exact .inl h
 .exact .inr ⟨p,e,.inl (q _ _ h)⟩
 .exact .inr ⟨p,e,.inr (q _ _ h)⟩
def Ss(a:jk):Sp:=λvs H Q _=>∃x s t b d an,vs=[.ref x]/\Uk a H x s t b d an/\WU s t b d an/\∀y H',H y=none->Qi H H'->Uk a H' y s t b d an->Q (.ref y) H'
def FU(a:jk):Sp:=λvs H Q _=>∃x dx lt e m s t b d an ss,vs=[.ref x,.ref lt,.str e,m]/\H x=some (.ins (a 94) dx [])/\Uk a H lt s t b d an/\WU s t b d an/\Xy H m ss/\ss.length<=60 /\
 ∀H' g,(∀c o,c≠x->H c=some o->H' c=some o)->H g=none->EX a H' x g s t b d an e (SS ss)->Q .non H'
theorem C7{b:qc}{h:qc}{m:V}{ss:qg}{R:VK}{E:XK}{x lt:qd}(i:H x=none)(hd:H dx=none)(ne:dx≠x)(j:Uk a H lt s t b d an)(l:WU s t b d an)(hm:Xy H m ss)(hz:ss.length<=60)
 (k:∀H' g,Qi H H'->H g=none->EX a H' x g s t b d an h (SS ss)->R .non H'):FU a [.ref x,.ref lt,.str h,m] (upd (upd H dx (.own x)) x (.ins (a 94) dx [])) R E:=by
 have f:Qi H (upd (upd H dx (.own x)) x (.ins (a 94) dx [])):=λc o e=>by rw[Qa (Qc e i),Qa (Qc e hd)];exact e
 refine⟨x,dx,lt,h,m,s,t,b,d,an,ss,U,Qb,j.mono f,l,hm.mono f,hz,λH' g n p hc=>k H' g (λc o e=>n c o (Qc e i) (f _ _ e)) (f.free p) hc⟩
theorem Px(T:Txt P w K mg base a fd):T.k jg 7 33 (Ss a):=by
 refine T.ok 33 (λq A outer s H vs Q E z h=>?_) (λvs H Q E h=>by obtain⟨x,s,t,b,d,an,rfl,_⟩:=h;rfl)
 .obtain⟨x,s,t,b,d,an,rfl,o,g,k⟩:=h;obtain⟨dx,f,c⟩:=o.at
  refine⟨_,(Qd (Qv (i:=1) (sc 33).nd (T.ma (T 46) (T 45) (Bw T) (zj (Ql (pv 0) U) (zj (Ql (pv 0) U) (zj (Ql (pv 0) U) (zj (Ql (pv 0) U) (zj (Ql (pv 0) U) Qg)))))))
   (Qd (QX (pv 1) (Ql (pv 0) U) rfl)
   (Qe (Qp (pv 1))))),?_⟩
  refine⟨_,U,x,_,dx,_,_,U,c,(T 2),(T 47),U,_,U,x,_,dx,_,_,U,c,(T 2),(T 35),U,_,U,x,_,dx,_,_,U,c,(T 2),(T 36),U,_,U,x,_,dx,_,_,U,c,(T 2),(T 48),U,_,U,x,_,dx,_,_,U,c,(T 2),(T 37),U,λy B m r ne=>Et m r ne g λH1 s1 u=>⟨U,?_⟩⟩;obtain⟨j,f2,v⟩:=u.at
  refine⟨_,U,x,_,dx,_,_,U,s1 _ _ c,(T 2),(T 17),U,_,U,y,_,j,_,U,v,(T 2),(T 17),(by show 6<1000;decide),?_⟩;refine⟨_,U,k y _ m (s1.jl m) ?_⟩;rcases o with⟨n,l⟩|⟨D,⟨n,l⟩,p⟩
  .have e:=c.symm.trans l
   injection e with e
   injection e with _ _ e
   simp only[List.cons.injEq,yA,true_and,and_true] at e;subst e;exact .inl ⟨j,Qb⟩
  .have e:=c.symm.trans l
   injection e with e
   injection e with _ _ e
   simp only[List.cons.injEq,yA,true_and,and_true] at e;subst e;exact .inr ⟨D,⟨j,Qb⟩,by rw[Qa (Qc p m)];exact s1 _ _ p⟩
theorem C3(T:Txt P w K mg base a fd):T.k jg 8 88 (FU a):=by
 refine(T.D 88).ok (sc 88) (λcdv A outer st H vs Q E hr h=>?_) (λvs H Q E h=>by obtain⟨x,dx,lt,F,m,s,t,b,d,an,ss,rfl,_⟩:=h;rfl)
 .obtain⟨x,dx,lt,F,m,s,t,b,d,an,ss,rfl,B,Y,gd,hm,hz,k⟩:=h;refine⟨_,(Qd (QX (pv 0) (T.mn (pv 1) (T 2) (T 84) (Px T)) rfl)
   (Qd (QX (pv 0) (pv 2) U)
   (Qe (QX (pv 0) (Gi (Qx M0 (pv 3) XI) (Kw Qu) (Qs (VY rfl) rfl (T 14) boot_sorted (zj (Yn (Kp rfl) rfl (T 55) boot_set (zj (pv 3) Qg)) Qg))) rfl)))),?_⟩
  obtain⟨dl,fl,el⟩:=Y.at
  refine⟨_,U,lt,dl,_,U,el,U,lt,s,t,b,d,an,U,Y,gd,λy H1 ny s1 hy=>?_⟩;have u:=s1 _ _ B;have xy:x≠y:=Qc B ny;refine⟨_,U,x,_,dx,_,U,u,(T 18),(T 88),(by show 0<1000;decide),?_⟩;refine⟨_,U,_,U,x,_,dx,_,U,Qb,(T 18),(T 49),(by show 1<1000;decide),?_⟩;rw[VG];generalize v:upd H1 x (.ins (a 94) dx (Qz "box" (.str F) (Qz "letter" (.ref y) [])))=i;have f:∀c o,c≠x->H1 c=some o->i c=some o:=λc o n e=>by rw[<-v,Qa n];exact e
  have G:i x=some (.ins (a 94) dx [("letter",.ref y),("box",.str F)]):=by rw[<-v];exact Qb
  have Z:y≠x:=xy.symm;have I:Uk a i y s t b d an:=hy.other Z u f;have fin:∀(r:Hp)(g:qd)(ms:qg),Qi i r->r g=none->ms=SS ss ->
   ∃q C j z,V.ref x=.ref q/\(upd r g (.lst (ms.map V.str))) q=some (.ins C j z)/\wg K C/\Ww K C "signs"/\z.length<1000/\Q .non (upd (upd r g (.lst (ms.map V.str))) q (.ins C j (Qz "signs" (.ref g) z))):=by
   intro r g ms s3 j J;have q:=s3 _ _ G;have D:x≠g:=Qc q j;refine⟨x,_,dx,_,U,(by rw[Qa D];exact q),(T 18),(T 38),(by show 2<1000;decide),?_⟩;have z:i g=none:=s3.free j;have N:H g=none:=by
    cases e:H g with
    |none=>rfl
    |some o=>rw[f g o D.symm (s1 _ _ e)] at z;cases z
   have L:Uk a (upd r g (.lst (ms.map V.str))) y s t b d an:=(I.mono s3).mono (Qi.zq j);refine k _ g (λc o n e=>?_) N ⟨⟨dx,y,Qb,?_⟩,?_⟩
   .have M:=s3 _ _ (f c o n (s1 _ _ e));rw[Qa n,Qa (Qc M j)];exact M
   .exact L.other Z (by rw[Qa D];exact q) λc o n e=>by rw[Qa n];exact e
   .rw[Qa D.symm,Qb,J]
  rcases hm with⟨rfl,rfl⟩|⟨p,rfl,hS⟩
  .refine⟨_,U,U,_,U,QT ⟨LG,λg j=>⟨_,U,?_⟩⟩⟩;obtain⟨q,z,D,J,L,M,N,O,R,S⟩:=fin i g [] (Qi.refl _) j rfl;exact⟨q,z,D,J,L,M,N,O,R,S⟩
  .have X:zN K i p (ss.map V.str)\/jj K i p (ss.map V.str):=by
    rcases hS with hS|hS
    .exact .inl (zN.of (f _ _ (QM hS B nofun) (s1 _ _ hS)))
    .exact .inr (jj.of (f _ _ (QM hS B nofun) (s1 _ _ hS)))
   refine⟨_,U,U,_,U,QC ⟨_,U,p,ss,U,X,⋯,λl nl=>?_⟩⟩;have s3:Qi i (upd i l (VU P w l (dd ss))):=Qi.zq nl;have hdl:=Oy ss;refine⟨l,dd ss,U,Qb,⋯,λg j=>⟨_,U,?_⟩⟩;obtain⟨q,z,D,J,L,M,N,O,R,S⟩:=fin _ g (SS ss) s3 j rfl;exact⟨q,z,D,J,L,M,N,O,R,S⟩
def Ik:HO->Bool
 |.tup _=>true
 |_=>false
def rest(own:qd->Nat)(i:Nat)(H:Hp):Hp:=λc=>if own c=i then (match H c with|some (.tup xs)=>some (.tup xs)|_=>none) else H c
def QQ(own:qd->Nat)(i:Nat)(H:Hp):qd->Nat:=λc=>match H c with
 |none=>i
 |some _=>own c
theorem Qm(e:H c=some o):QQ own i H c=own c:=by unfold QQ;rw[e]
theorem Uu(e:H c=none):QQ own i H c=i:=by unfold QQ;rw[e]
theorem Vz(h:own c=i\/H c=none):QQ own i H c=i:=by
 cases e:H c with
 |none=>exact Uu e
 |some o=>rw[Qm e];exact h.resolve_right (λz=>by rw[e] at z;cases z)
def xo(own:qd->Nat)(i:Nat)(H H':Hp):Prop:=∀c o,H c=some o->(own c≠i\/Ik o=true)->H' c=some o
theorem xo.of(s:Qi H H'):xo own i H H':=λc o e _=>s c o e
theorem xo.tup(k:xo own i H H')(e:H c=some (.tup xs)):H' c=some (.tup xs):=k c _ e (.inr rfl)
theorem xo.rest(s:Qi (rest own i H) H'):xo own i H H':=λc o e h=>s c o (by
 unfold K61.rest;by_cases z:own c=i
 .rw[qP z,e]
  cases o with
  |tup xs=>rfl
  |_=>exact absurd (h.resolve_left (λy=>y z)) (by intro q;cases q)
 .rw[qJ z];exact e)
theorem Ip(h:rest own i H c=none):own c=i\/H c=none:=by
 unfold rest at h;by_cases z:own c=i
 .exact .inl z
 .rw[qJ z] at h;exact .inr h
theorem Iq(z:own c=i)(h:∀xs,H c≠some (.tup xs)):rest own i H c=none:=by
 unfold rest;rw[qP z];split
 .rename_i xs e;exact absurd e (h xs)
 .rfl
theorem Mp(own:qd->Nat)(i:Nat)(H:Hp):Qi (rest own i H) H:=λc o e=>by
 unfold rest at e;by_cases z:own c=i
 .rw[qP z] at e;split at e
  .rename_i xs q;rw[q];exact e
  .cases e
 .rw[qJ z] at e;exact e
section
variable {a:jk}{fd:Nat->FuncData}{own:qd->Nat}{H H':Hp}{x:qd}
def wQ(a:jk)(H:Hp)(own:qd->Nat)(x:qd)(bx:Rows)(mk:qc->qg)(W M:qg)(n:Nat):Prop:=∃F,FO a H x bx mk W M n F/\own x=0/\∀c∈F,own c=3
theorem wQ.step(h:wQ a H own x bx mk W M n)(k:xo own j H H')(g:j≠3:=by decide)(h0:j≠0:=by decide):wQ a H' (QQ own j H) x bx mk W M n:=by
 obtain⟨F,f,b,d⟩:=h;obtain⟨dx,l,T1,m,ex⟩:=f.obj;refine⟨F,f.keep λc o hc e=>k c o e (.inl ?_),by rw[Qm ex];exact b,λc hc=>?_⟩
 .rcases hc with rfl|hc
  .rw[b];exact λz=>h0 z.symm
  .rw[d c hc];exact λz=>g z.symm
 .obtain⟨i,e⟩:=f.kind hc;rw[Qm e];exact d c hc
theorem wQ.own'{b:Rows}{mk':qc->qg}{g i:qg}{j:Nat}{d:qa qd}(f:FO a H x bx mk W M n F)(p:own x=0)(l:∀c∈F,own c=3)(q:FO a H' x b mk' g i j d)(k:xI F H H')(r:∀c∈d,c∈F\/H c=none):wQ a H' (QQ own 3 H) x b mk' g i j/\xo own 3 H H':=by
 obtain⟨dx,t,T1,u,ex⟩:=f.obj;refine⟨⟨d,q,by rw[Qm ex];exact p,λc hc=>Vz ((r c hc).imp (l c) id)⟩,λc o e h=>k c o (λhc=>?_) e⟩;rcases h with h|h
 .exact h (l c hc)
 .obtain⟨s,m⟩:=f.kind hc;rw[e] at m;cases m;cases h
def g6(a:jk)(H:Hp)(own:qd->Nat)(x:qd)(R:NW)(W:qg)(n:Nat):Prop:=∃F,vG a H x R W n F/\own x=0/\∀c∈F,own c=2
theorem vG.there(h:vG a H x R W n F)(hc:c∈F):∃o,H c=some o/\Ik o=false:=by
 rcases h.kind hc with⟨b,e⟩|⟨xs,e⟩
 .exact⟨_,e,U⟩
 .exact⟨_,e,U⟩
theorem g6.step(h:g6 a H own x R W n)(k:xo own j H H')(g:j≠2:=by decide)(h0:j≠0:=by decide):g6 a H' (QQ own j H) x R W n:=by
 obtain⟨F,f,b,d⟩:=h;obtain⟨dx,E,B,ex⟩:=f.obj;refine⟨F,f.keep λc o hc e=>k c o e (.inl ?_),by rw[Qm ex];exact b,λc hc=>?_⟩
 .rcases hc with rfl|hc
  .rw[b];exact λz=>h0 z.symm
  .rw[d c hc];exact λz=>g z.symm
 .obtain⟨o,e,_⟩:=f.there hc;rw[Qm e];exact d c hc
theorem g6.own'{d:NW}{g:qg}{i:Nat}{b:qa qd}(f:vG a H x R W n F)(m:own x=0)(j:∀c∈F,own c=2)(p:vG a H' x d g i b)(k:xI F H H')(r:∀c∈b,c∈F\/H c=none):g6 a H' (QQ own 2 H) x d g i/\xo own 2 H H':=by
 obtain⟨dx,E,B,ex⟩:=f.obj;refine⟨⟨b,p,by rw[Qm ex];exact m,λc hc=>Vz ((r c hc).imp (j c) id)⟩,λc o e h=>k c o (λhc=>?_) e⟩;rcases h with h|h
 .exact h (j c hc)
 .obtain⟨s,l,q⟩:=f.there hc;rw[e] at l;cases l;rw[q] at h;cases h
def thF(L R:qd)(kr:qa (Key×V))(c:qd):Prop:=c=L\/c=R\/∃t:qc,Qy kr (Sum.inr t)=some (.ref c)
theorem TH.kind{R:qd}(h:TH a H x dx L R rows kr)(hc:thF L R kr c):∃b,H c=some (.dK b):=by
 rcases hc with rfl|rfl|⟨t,e⟩
 .exact⟨_,h.lk⟩
 .exact⟨_,h.rp⟩
 .obtain⟨d,f,g,_⟩:=h.yX t _ e;cases f;exact⟨_,g⟩
theorem TH.keep{R:qd}(h:TH a H x dx L R rows kr)(k:∀c o,(c=x\/thF L R kr c)->H c=some o->H' c=some o):TH a H' x dx L R rows kr:=
 ⟨k _ _ (.inl rfl) h.obj,k _ _ (.inr (.inl rfl)) h.lk,k _ _ (.inr (.inr (.inl rfl))) h.rp,h.lr,h.nd,h.few,h.gp,λt v e=>let ⟨d,b,f,g⟩:=h.yX t v e;⟨d,b,k _ _ (.inr (.inr (.inr ⟨t,by rw[e,b]⟩))) f,g⟩,h.ko,h.e_,h.inj⟩
def gA(a:jk)(H:Hp)(own:qd->Nat)(x:qd)(rows:Rows)(n:Nat):Prop:=∃dx L R kr,TH a H x dx L R rows kr/\rows.length<=n/\kr.length<=n/\own x=0/\∀c,thF L R kr c->own c=1
theorem gA.step(h:gA a H own x rows n)(k:xo own j H H')(g:j≠1:=by decide)(h0:j≠0:=by decide):gA a H' (QQ own j H) x rows n:=by
 obtain⟨dx,L,R,kr,b,i,l,d,f⟩:=h;refine⟨dx,L,R,kr,b.keep λc o hc e=>k c o e (.inl ?_),i,l,by rw[Qm b.obj];exact d,λc hc=>?_⟩
 .rcases hc with rfl|hc
  .rw[d];exact λz=>h0 z.symm
  .rw[f c hc];exact λz=>g z.symm
 .obtain⟨m,e⟩:=b.kind hc;rw[Qm e];exact f c hc
theorem gA.thf(h:gA a H own x rows n):g0 a (rest own 1 H) H x rows n:=by
 obtain⟨dx,L,R,kr,b,f,g,k,i⟩:=h;have q:∀c,thF L R kr c->rest own 1 H c=none:=λc hc=>Iq (i c hc) λxs z=>by obtain⟨j,e⟩:=b.kind hc;rw[e] at z;cases z
 exact⟨dx,L,R,kr,b,f,g,⟨q L (.inl rfl),q R (.inr (.inl rfl)),λt d e=>q d (.inr (.inr ⟨t,e⟩))⟩,Mp _ _ _⟩
theorem gA.of(d:own x=0)(f:∃o,H x=some o)(h:g0 a (rest own 1 H) H' x rows n):gA a H' (QQ own 1 H) x rows n/\xo own 1 H H':=by
 obtain⟨dx,L,R,kr,g,i,j,b,s⟩:=h;obtain⟨o,ex⟩:=f;refine⟨⟨dx,L,R,kr,g,i,j,by rw[Qm ex];exact d,λc hc=>Vz (Ip ?_)⟩,xo.rest s⟩;rcases hc with rfl|rfl|⟨t,e⟩
 .exact b.hL
 .exact b.hR
 .exact b.hd t c e
end
section
variable {a:jk}{fd:Nat->FuncData}{own:qd->Nat}{H H':Hp}{x:qd}
theorem Reg.keep(h:Reg a H x dx D kd es)(k:∀c o,(c=x\/FP D kd c)->H c=some o->H' c=some o)(kt:∀c xs,H c=some (.tup xs)->H' c=some (.tup xs)):Reg a H' x dx D kd es:=
 ⟨k _ _ (.inl rfl) h.obj,k _ _ (.inr (.inl rfl)) h.dr,λf v e=>let ⟨d,b,g,i,j,l⟩:=h.yX f v e;⟨d,b,g,i,k _ _ (.inr (.inr ⟨f,by rw[e,g]⟩)) j,l.mono kt⟩,h.ko,h.inj,h.few⟩
def uH(a:jk)(H:Hp)(own:qd->Nat)(x:qd)(es:qa Ent):Prop:=∃dx D kd,Reg a H x dx D kd es/\own x=0/\∀c,FP D kd c->own c=4
theorem uH.step(h:uH a H own x es)(k:xo own j H H')(f:j≠4:=by decide)(h0:j≠0:=by decide):uH a H' (QQ own j H) x es:=by
 obtain⟨dx,D,kd,r,b,d⟩:=h;refine⟨dx,D,kd,r.keep (λc o hc e=>k c o e (.inl ?_)) λc xs e=>k.tup e,by rw[Qm r.obj];exact b,λc hc=>?_⟩
 .rcases hc with rfl|hc
  .rw[b];exact λz=>h0 z.symm
  .rw[d c hc];exact λz=>f z.symm
 .obtain⟨g,e⟩:=r.fp hc;rw[Qm e];exact d c hc
theorem uH.own'{b:qa (qa Key×V)}{d:qa Ent}(r:Reg a H x dx D kd es)(i:own x=0)(f:∀c,FP D kd c->own c=4)(j:Reg a H' x dx D b d)(k:∀c o,H c=some o->¬FP D kd c->H' c=some o)(l:∀c,FP D b c->FP D kd c\/H c=none):uH a H' (QQ own 4 H) x d/\xo own 4 H H':=by
 refine⟨⟨dx,D,b,j,by rw[Qm r.obj];exact i,λc hc=>Vz ((l c hc).imp (f c) id)⟩,λc o e h=>k c o e (λhc=>?_)⟩;rcases h with h|h
 .exact h (f c hc)
 .obtain⟨m,g⟩:=r.fp hc;rw[e] at g;cases g;cases h
end
structure LD where
 s:qc
 t:qc
 b:qc
 d:Int
 an:qc
structure LE where
 nm:qc
 y:qd
 p:LD
variable {ls:qa LE}
def gB(a:jk)(H:Hp)(own:qd->Nat)(y:qd)(p:LD):Prop:=own y=6/\((∃dx,H y=some (.ins (a 99) dx (ux p.s p.t p.b p.d p.an .non)))\/∃D,DT a H y p.s p.t p.b p.d p.an D/\own D=6)
theorem gB.let{y:qd}{p:LD}(h:gB a H own y p):Uk a H y p.s p.t p.b p.d p.an:=h.2.imp id λ⟨D,e,_⟩=>⟨D,e⟩
theorem gB.there{y:qd}{p:LD}(h:gB a H own y p):∃o,H y=some o:=by
 obtain⟨dx,f,e⟩:=h.let.at
 exact⟨_,e⟩
theorem gB.step{y:qd}{p:LD}(h:gB a H own y p)(k:xo own j H H')(c:j≠6):gB a H' (QQ own j H) y p:=by
 obtain⟨b,h⟩:=h;rcases h with⟨dx,e⟩|⟨D,⟨⟨dx,e⟩,d⟩,f⟩
 .exact⟨by rw[Qm e];exact b,.inl ⟨dx,k _ _ e (.inl (by rw[b];exact λz=>c z.symm))⟩⟩
 .exact⟨by rw[Qm e];exact b,.inr ⟨D,⟨⟨dx,k _ _ e (.inl (by rw[b];exact λz=>c z.symm))⟩,k _ _ d (.inl (by rw[f];exact λz=>c z.symm))⟩,by rw[Qm d];exact f⟩⟩
structure vW(a:jk)(H:Hp)(own:qd->Nat)(L:qd)(ls:qa LE):Prop where
 e:H L=some (.dK (dG LE.nm (λl=>V.ref l.y) ls))
 o:own L=5
 nd:(ls.map LE.nm).Nodup
 na:(ls.map LE.y).Nodup
 at_:∀l∈ls,gB a H own l.y l.p/\WU l.p.s l.p.t l.p.b l.p.d l.p.an
theorem vW.step(h:vW a H own L ls)(k:xo own j H H')(c:j≠5:=by decide)(d:j≠6:=by decide):vW a H' (QQ own j H) L ls:=
 ⟨k _ _ h.e (.inl (by rw[h.o];exact λz=>c z.symm)),by rw[Qm h.e];exact h.o,h.nd,h.na,λl b=>⟨(h.at_ l b).1.step k d,(h.at_ l b).2⟩⟩
abbrev bfs(xr L xt xi xf:qd):qa (qc×V):=[(Zb,.ref xr),(Zc,.ref L),(Zs,.ref xt),(Zt,.ref xi),("boxed",.ref xf)]
def lwd(p:LD):qg:=SS (UR (yD p.t++yD p.b))
structure xq(a:jk)(H:Hp)(own:qd->Nat)(b db xr L xt xi xf:qd)(es:qa Ent)(ls:qa LE)(bx:Rows)(mk:qc->qg)(WI W M:qg)(n:Nat):Prop where
 e:H b=some (.ins (a 93) db (bfs xr L xt xi xf))
 o:own b=0
 r:uH a H own xr es
 l:vW a H own L ls
 t:gA a H own xt (ls.map λl=>(l.nm,l.p.an)) n
 i:g6 a H own xi (ls.map λl=>(l.nm,lwd l.p)) WI n
 f:wQ a H own xf bx mk W M n
theorem xq.quiet{b:qd}(h:xq a H own b db xr L xt xi xf es ls bx mk WI W M n)(s:Qi H H'):xq a H' (QQ own 7 H) b db xr L xt xi xf es ls bx mk WI W M n:=
 have k:xo own 7 H H':=xo.of s
 ⟨s _ _ h.e,by rw[Qm h.e];exact h.o,h.r.step k,h.l.step k,h.t.step k,h.i.step k,h.f.step k⟩
theorem Uh{y a C:qd}(d:H y=none)(f:H a=none)(k:∀c o,c≠y->(upd (upd H a (.own y)) y (.ins C a [])) c=some o->H' c=some o):Qi H H':=λc o e=>by
 have b:=Qc e d;exact k c o b (by rw[Qa b,Qa (Qc e f)];exact e)
theorem Vx{y a C:qd}(h:(upd (upd H a (.own y)) y (.ins C a [])) c=none):H c=none:=by
 by_cases z:c=y
 .rw[z,Qb] at h;cases h
 .rw[Qa z] at h;by_cases b:c=a
  .rw[b,Qb] at h;cases h
  .rw[Qa b] at h;exact h
noncomputable def Xk(D L L2 R2:qd)(a b:qa qd):qd->Nat:=λc=>if c=D then 4 else if c=L then 5 else if c=L2\/c=R2 then 1 else if c∈a then 2 else if c∈b then 3 else 0
inductive FW(a:jk)(vs:qa V)(H:Hp)(Q:VK)(E:XK):Prop
 |mk:∀(x dx:qd)(mk:qc->qg)(WI W M:qg),vs=[.ref x]->WI.length<=20->W.length<=20->M.length<=20->H x=some (.ins (a 93) dx [])->(∀H' own xr L xt xi xf,(∀c o,c≠x->H c=some o->H' c=some o)->(∀c o,c≠x->H c=some o->own c=0)->xq a H' own x dx xr L xt xi xf [] [] [] mk WI W M 0->Q .non H')->FW a vs H Q E
theorem Nr(T:Txt P w K mg base a fd):T.k jg 3 60 (FW a):=by
 refine T.ok 60 (λcdv A outer st H vs Q E hr h=>?_)
 .obtain⟨x,dx,mk,WI,W,M,rfl,hWI,hW,hM,hx,k⟩:=h;refine⟨_,(Qd (QX (pv 0) (Vt (T 107) (M9 T) hr.up rfl (T 106) (T.B 53) .nil UN) rfl)
   (Qd (QX (pv 0) Q7 rfl)
   (Qd (QX (pv 0) (Vt (T 111) (Iz T) hr.up rfl (T 110) (T.B 56) .nil UN) rfl)
   (Qd (QX (pv 0) (Vt (T 103) (Ng T) hr.up rfl (T 102) (T.B 50) .nil UN) rfl)
   (Qe (QX (pv 0) (Vt (T 90) (Nj T) hr.up rfl (T 89) (T.B 37) .nil UN) rfl)))))),?_⟩
  intro xr dr nxr ndr ner;refine⟨xr,dr,U,Qb,λD J nD rg ka=>⟨U,?_⟩⟩;have sa:Qi H J:=Uh nxr ndr λc o n e=>ka c o e n;have hxa:=sa _ _ hx;refine⟨_,U,x,_,dx,_,U,hxa,(T 1),(T 23),∅,?_⟩;have N:(upd J x (.ins (a 93) dx (Qz Zb (.ref xr) []))) x=some (.ins (a 93) dx (Qz Zb (.ref xr) [])):=Qb;have kb:SX x J (upd J x (.ins (a 93) dx (Qz Zb (.ref xr) []))):=λc o n e=>by rw[Qa n];exact e
  generalize upd J x (.ins (a 93) dx (Qz Zb (.ref xr) []))=Hb at N kb;intro L nL;have sc:Qi Hb (upd Hb L (.dK [])):=Qi.zq nL;have eL:(upd Hb L (.dK [])) L=some (.dK []):=Qb;generalize upd Hb L (.dK [])=Hc at sc eL;have hxc:=sc _ _ N;refine⟨_,U,x,_,dx,_,U,hxc,(T 1),(T 15),(by show 1<1000;decide),?_⟩;have r:(upd Hc x (.ins (a 93) dx (Qz Zc (.ref L) (Qz Zb (.ref xr) [])))) x=some (.ins (a 93) dx (Qz Zc (.ref L) (Qz Zb (.ref xr) []))):=Qb;have kd:SX x Hc (upd Hc x (.ins (a 93) dx (Qz Zc (.ref L) (Qz Zb (.ref xr) [])))):=λc o n e=>by rw[Qa n];exact e
  generalize upd Hc x (.ins (a 93) dx (Qz Zc (.ref L) (Qz Zb (.ref xr) [])))=Hd at r kd;intro xt dt u ndt net;refine⟨Hd,xt,dt,U,Qb,λc o e=>⟨(by rw[Qa (Qc e u),Qa (Qc e ndt)];exact e),Qc e u⟩,λHe ht=>⟨U,?_⟩⟩;obtain⟨dxt,L2,R2,kr,th,hk0,hk1,oo,se⟩:=ht;have hxe:=se _ _ r;refine⟨_,U,x,_,dx,_,U,hxe,(T 1),(T 40),(by show 2<1000;decide),?_⟩;have v:(upd He x (.ins (a 93) dx (Qz Zs (.ref xt) (Qz Zc (.ref L) (Qz Zb (.ref xr) []))))) x=some (.ins (a 93) dx (Qz Zs (.ref xt) (Qz Zc (.ref L) (Qz Zb (.ref xr) [])))):=Qb;have kf:SX x He (upd He x (.ins (a 93) dx (Qz Zs (.ref xt) (Qz Zc (.ref L) (Qz Zb (.ref xr) []))))):=λc o n e=>by rw[Qa n];exact e
  generalize upd He x (.ins (a 93) dx (Qz Zs (.ref xt) (Qz Zc (.ref L) (Qz Zb (.ref xr) []))))=Hf at v kf;intro xi di O ndi nei;refine⟨xi,di,WI,U,hWI,Qb,λHg g kg fi ix=>⟨U,?_⟩⟩;have sg:Qi Hf Hg:=Uh O ndi kg;have hxg:=sg _ _ v;refine⟨_,U,x,_,dx,_,U,hxg,(T 1),(T 50),(by show 3<1000;decide),?_⟩;have y:(upd Hg x (.ins (a 93) dx (Qz Zt (.ref xi) (Qz Zs (.ref xt) (Qz Zc (.ref L) (Qz Zb (.ref xr) [])))))) x=some (.ins (a 93) dx (Qz Zt (.ref xi) (Qz Zs (.ref xt) (Qz Zc (.ref L) (Qz Zb (.ref xr) []))))):=Qb;have R:SX x Hg (upd Hg x (.ins (a 93) dx (Qz Zt (.ref xi) (Qz Zs (.ref xt) (Qz Zc (.ref L) (Qz Zb (.ref xr) [])))))):=λc o n e=>by rw[Qa n];exact e
  generalize upd Hg x (.ins (a 93) dx (Qz Zt (.ref xi) (Qz Zs (.ref xt) (Qz Zc (.ref L) (Qz Zb (.ref xr) [])))))=Hh at y R;intro xf df S ndf nef;refine⟨xf,df,mk,W,M,U,hW,hM,Qb,λHi m ki fF fo=>⟨U,?_⟩⟩;have si:Qi Hh Hi:=Uh S ndf ki;have hxi:=si _ _ y;refine⟨_,U,x,_,dx,_,U,hxi,(T 1),(T 16),(by show 4<1000;decide),?_⟩;have X:(upd Hi x (.ins (a 93) dx (Qz "boxed" (.ref xf) (Qz Zt (.ref xi) (Qz Zs (.ref xt) (Qz Zc (.ref L) (Qz Zb (.ref xr) []))))))) x=some (.ins (a 93) dx (bfs xr L xt xi xf)):=by
   rw[Qb];congr 2
  have kj:SX x Hi (upd Hi x (.ins (a 93) dx (Qz "boxed" (.ref xf) (Qz Zt (.ref xi) (Qz Zs (.ref xt) (Qz Zc (.ref L) (Qz Zb (.ref xr) []))))))):=λc o n e=>by rw[Qa n];exact e
  generalize upd Hi x (.ins (a 93) dx (Qz "boxed" (.ref xf) (Qz Zt (.ref xi) (Qz Zs (.ref xt) (Qz Zc (.ref L) (Qz Zb (.ref xr) []))))))=p at X kj;have fj:SX x Hi p:=kj;have fh:SX x Hg p:=λc o n e=>fj c o n (si _ _ (R c o n e));have ff:SX x He p:=λc o n e=>fh c o n (sg _ _ (kf c o n e));have fd':SX x Hc p:=λc o n e=>ff c o n (se _ _ (kd c o n e));have fa:SX x J p:=λc o n e=>fd' c o n (sc _ _ (kb c o n e));have nx:∀{c:qd},H c=none->c≠x:=λh z=>by rw[z,hx] at h;cases h
  have dD:H D=none:=Vx nD;have xa:∀{c:qd},J c=none->H c=none:=λ{c} h=>by
   cases e:H c with
   |none=>rfl
   |some o=>rw[sa _ _ e] at h;cases h
  have up:∀{G G':Hp}{c:qd},SX x G G'->c≠x->G' c=none->G c=none:=λ{G G' c} k n h=>by
   cases e:G c with
   |none=>rfl
   |some o=>rw[k c o n e] at h;cases h
  have B:L≠x:=λz=>by rw[z,N] at nL;cases nL
  have Y:L2≠x:=λz=>by have:=oo.hL;rw[z,r] at this;cases this
  have Z:R2≠x:=λz=>by have:=oo.hR;rw[z,r] at this;cases this
  have s:∀c∈g,Hf c=none:=λc hc=>Vx (fi c hc);have i:∀c∈m,Hh c=none:=λc hc=>Vx (fF c hc);have xFi:∀c∈g,c≠x:=λc hc z=>by have:=s c hc;rw[z,v] at this;cases this
  have xFf:∀c∈m,c≠x:=λc hc z=>by have:=i c hc;rw[z,y] at this;cases this
  have b:Reg a p xr dr D [] []:=rg.keep (λc o hc e=>fa c o (by
   rcases hc with rfl|hc
   .exact nx nxr
   .rcases hc with rfl|⟨f,z⟩
    .exact nx dD
    .cases z) e) λc xs e=>fa c _ (λz=>by rw[z,hxa] at e;cases e) e
  have kr0:kr=[]:=jz.mp ⋯;subst kr0;have j:TH a p xt dxt L2 R2 [] []:=th.keep λc o hc e=>ff c o (by
   rcases hc with rfl|rfl|rfl|⟨t,z⟩
   .exact λz=>by rw[z,r] at u;cases u
   .exact Y
   .exact Z
   .cases z) e
  have F:vG a p xi [] WI 0 g:=ix.keep λc o hc e=>fh c o (by
   rcases hc with rfl|hc
   .exact λz=>by rw[z,v] at O;cases O
   .exact xFi c hc) e
  have I:FO a p xf [] mk W M 0 m:=fo.keep λc o hc e=>fj c o (by
   rcases hc with rfl|hc
   .exact λz=>by rw[z,y] at S;cases S
   .exact xFf c hc) e
  have eLj:p L=some (.dK []):=fd' L _ B eL;have hLd:Hd L=some (.dK []):=kd L _ B eL;have hLf:Hf L=some (.dK []):=kf L _ B (se _ _ hLd);have hLh:Hh L=some (.dK []):=R L _ B (sg _ _ hLf);have h2f:Hf L2=some (.dK (QK [])):=kf L2 _ Y th.lk;have h3f:Hf R2=some (.dK []):=kf R2 _ Z th.rp;have h2h:Hh L2=some (.dK (QK [])):=R L2 _ Y (sg _ _ h2f);have h3h:Hh R2=some (.dK []):=R R2 _ Z (sg _ _ h3f);have hih:∀c∈g,∃o,Hh c=some o:=λc hc=>by
   obtain⟨o,e,_⟩:=ix.there hc;exact⟨o,R c o (xFi c hc) e⟩
  have ne2:∀{G:Hp}{c d:qd}{o:HO},G c=none->G d=some o->c≠d:=λh1 h2 z=>by rw[z,h2] at h1;cases h1
  have o0:∀{c C d:qd}{fs:qa (qc×V)},p c=some (.ins C d fs)->Xk D L L2 R2 g m c=0:=λ{c C d fs} e=>by
   unfold Xk;rw[qJ (λz=>by rw[z,b.dr] at e;cases e),qJ (λz=>by rw[z,eLj] at e;cases e),qJ (λz=>by
    rcases z with z|z
    .rw[z,j.lk] at e;cases e
    .rw[z,j.rp] at e;cases e),qJ (λz=>by
    rcases F.kind z with⟨kvs,q⟩|⟨xs,q⟩
    .rw[q] at e;cases e
    .rw[q] at e;cases e),qJ (λz=>by obtain⟨kvs,q⟩:=I.kind z;rw[q] at e;cases e)]
  have oL:Xk D L L2 R2 g m L=5:=by
   unfold Xk;rw[qJ (λz=>by have:=b.dr;rw[<-z,eLj] at this;cases this),qP rfl]
  have oT:∀c,(c=L2\/c=R2)->Xk D L L2 R2 g m c=1:=λc hc=>by
   unfold Xk;rw[qJ (λz=>by
    rcases hc with h|h
    .have:=j.lk;rw[<-h,z,b.dr] at this;cases this
    .have:=j.rp;rw[<-h,z,b.dr] at this;cases this),qJ (λz=>by
    rcases hc with h|h
    .exact ne2 oo.hL hLd (h.symm.trans z)
    .exact ne2 oo.hR hLd (h.symm.trans z)),qP hc]
  have oI:∀c∈g,Xk D L L2 R2 g m c=2:=λc hc=>by
   unfold Xk;rw[qJ (λz=>by
    rcases F.kind hc with⟨kvs,q⟩|⟨xs,q⟩
    .rw[z,b.dr] at q;cases q
    .rw[z,b.dr] at q;cases q),qJ (ne2 (s c hc) hLf),qJ (λz=>z.elim (ne2 (s c hc) h2f) (ne2 (s c hc) h3f)),qP hc]
  have oF:∀c∈m,Xk D L L2 R2 g m c=3:=λc hc=>by
   unfold Xk;rw[qJ (λz=>by obtain⟨kvs,q⟩:=I.kind hc;rw[z,b.dr] at q;cases q),qJ (ne2 (i c hc) hLh),qJ (λz=>z.elim (ne2 (i c hc) h2h) (ne2 (i c hc) h3h)),qJ (λz=>by obtain⟨o,q⟩:=hih c z;exact ne2 (i c hc) q rfl),qP hc]
  obtain⟨di',E',B',ei⟩:=F.obj;obtain⟨df',X1,T1,N1,ef⟩:=I.obj;have oz:∀c o,c≠x->H c=some o->Xk D L L2 R2 g m c=0:=λc o n e=>by
   have A2:=kb c o n (sa _ _ e);have A4:=kd c o n (sc _ _ A2);have A6:=kf c o n (se _ _ A4);have A8:=R c o n (sg _ _ A6);unfold Xk;rw[qJ (Qc e dD),qJ (Qc A2 nL),qJ (λz=>z.elim (Qc A4 oo.hL) (Qc A4 oo.hR)),qJ (λz=>by have:=s c z;rw[A6] at this;cases this),qJ (λz=>by have:=i c z;rw[A8] at this;cases this)]
  refine k p (Xk D L L2 R2 g m) xr L xt xi xf (λc o n e=>fa c o n (sa _ _ e)) oz ⟨X,o0 X,⟨dr,D,[],b,o0 b.obj,λc hc=>?_⟩,⟨eLj,oL,z6,z6,λl hl=>nomatch hl⟩,⟨dxt,L2,R2,[],j,qz _,qz _,o0 j.obj,λc hc=>?_⟩,⟨g,F,o0 ei,oI⟩,⟨m,I,o0 ef,oF⟩⟩
  .rcases hc with rfl|⟨f,z⟩
   .unfold Xk;rw[qP rfl]
   .cases z
  .rcases hc with h|h|⟨t,z⟩
   .exact oT c (.inl h)
   .exact oT c (.inr h)
   .cases z
structure KB(own own':qd->Nat)(H H':Hp):Prop where
 k:∀c o,H c=some o->(own c=0\/7<=own c\/Ik o=true)->H' c=some o
 g:∀c o,H c=some o->(own c=0\/7<=own c\/Ik o=true)->own' c=own c
theorem KB.of(k:xo own j H H')(a:1<=j)(b:j<=6):KB own (QQ own j H) H H':=
 ⟨λc o e h=>k c o e (h.elim (λz=>.inl ⋯) λh=>h.imp (λz=>by omega) id),λc o e _=>Qm e⟩
theorem KB.trans{b a:qd->Nat}{d:Hp}(x:KB own b H H')(y:KB b a H' d):KB own a H d:=
 ⟨λc o e h=>y.k c o (x.k c o e h) (by rw[x.g c o e h];exact h),λc o e h=>by rw[y.g c o (x.k c o e h) (by rw[x.g c o e h];exact h),x.g c o e h]⟩
theorem vW.pop(h:vW a H own L ls)(nm:qc) :
 vW a (upd H L (.dK (YR (dG LE.nm (λl=>V.ref l.y) ls) (Sum.inr nm)))) (QQ own 5 H) L (ls.filter λl=>decide (l.nm≠nm))/\xo own 5 H (upd H L (.dK (YR (dG LE.nm (λl=>V.ref l.y) ls) (Sum.inr nm)))):=by
 have k:xo own 5 H (upd H L (.dK (YR (dG LE.nm (λl=>V.ref l.y) ls) (Sum.inr nm)))):=λc o e q=>by
  have n:c≠L:=λz=>by
   rcases q with q|q
   .rw[z] at q;exact q h.o
   .rw[z,h.e] at e;cases e;cases q
  rw[Qa n];exact e
 refine⟨⟨by rw[Qb,VS],by rw[Qm h.e];exact h.o,(wF ((jn).map _) h.nd),(wF ((jn).map _) h.na),λl b=>?_⟩,k⟩;have b:=(qX.mp b).1;exact⟨(h.at_ l b).1.step k ∅,(h.at_ l b).2⟩
theorem Dh(ls:qa LE)(nm:qc):L2.without (ls.map λl=>(l.nm,l.p.an)) nm=(ls.filter λl=>decide (l.nm≠nm)).map λl=>(l.nm,l.p.an):=by
 unfold L2.without;rw[jB];rfl
theorem PY(ls:qa LE)(nm:qc):uo (ls.map λl=>(l.nm,lwd l.p)) nm=(ls.filter λl=>decide (l.nm≠nm)).map λl=>(l.nm,lwd l.p):=by
 unfold uo;rw[jB];rfl
inductive FV(a:jk)(vs:qa V)(H:Hp)(Q:VK)(E:XK):Prop
 |mk:∀(own:qd->Nat)(b db xr L xt xi xf:qd)(es:qa Ent)(ls:qa LE)(bx:Rows)(mk:qc->qg)(WI W M:qg)(n:Nat)(nm:qc),vs=[.ref b,.str nm]->xq a H own b db xr L xt xi xf es ls bx mk WI W M n->nm∈ls.map LE.nm->nm∈bx.map (·.1) ->
   (∀H' own',xq a H' own' b db xr L xt xi xf es (ls.filter λl=>decide (l.nm≠nm)) (L2.without bx nm) mk WI W M n->KB own own' H H'->Q .non H')->FV a vs H Q E
theorem C4(T:Txt P w K mg base a fd):T.k jg 3 64 (FV a):=by
 refine T.ok 64 (λcdv A outer st H vs Q E hr h=>?_)
 .obtain⟨own,b,db,xr,L,xt,xi,xf,es,ls,bx,mk,WI,W,M,n,nm,rfl,h,hl,hb,k⟩:=h;refine⟨_,(Qd (Qw (Y4 (Ql (pv 0) U) (pv 1) ⟨U,U,U,U⟩))
   (Qd (Qw (T.me (Ql (pv 0) U) (T 5) (T 113) (M8 T) (zj (pv 1) Qg)))
   (Qd (Qw (T.me (Ql (pv 0) U) (T 7) (T 105) (Nf T) (zj (pv 1) Qg)))
   (Qe (Qw (T.me (Ql (pv 0) U) (T 0) (T 92) (Nh T) (zj (pv 1) Qg))))))),?_⟩
  obtain⟨le,hle,rfl⟩:=qw.mp hl;obtain⟨p,k1⟩:=h.l.pop le.nm;refine⟨_,U,b,_,db,_,_,U,h.e,(T 1),(T 15),U,L,U,.inl ⟨_,.inl h.l.e⟩,_,U,_,Sum.inr le.nm,_,h.l.e,U,Q9 h.l.nd hle,?_⟩;have j:=k1 _ _ h.e (.inl (by rw[h.o];decide));have q:QQ own 5 H b=0:=by rw[Qm h.e];exact h.o
  have r:=h.r.step k1;have t1:=h.t.step k1;have s:=h.i.step k1;have f1:=h.f.step k1;show V0 _ _ _ _ (upd H L (.dK (YR (dG LE.nm (λl=>V.ref l.y) ls) (Sum.inr le.nm))));generalize upd H L (.dK (YR (dG LE.nm (λl=>V.ref l.y) ls) (Sum.inr le.nm)))=H1 at p k1 j r t1 s f1⊢;have kb1:KB own (QQ own 5 H) H H1:=KB.of k1 ∅ ∅;generalize QQ own 5 H=d at p q r t1 s f1 kb1;obtain⟨t,L2,R2,krT,f,_,_,u,_⟩:=id t1;refine⟨_,U,b,_,db,_,_,U,j,(T 1),(T 40),U,xt,t,_,U,f.obj,U,_,U,rest d 1 H1,xt,_,n,le.nm,U,t1.thf,(by rw[zg];exact qw.mpr ⟨le,hle,U⟩),λZ ht _=>?_⟩;obtain⟨v,k2⟩:=gA.of u ⟨_,f.obj⟩ ht;rw[Dh] at v;have m:=k2 _ _ j (.inl (by rw[q];decide));have x:QQ d 1 H1 b=0:=by rw[Qm j];exact q
  have r2:=r.step k2;have l2:=p.step k2;have i2:=s.step k2;have f2:=f1.step k2;have kb2:=kb1.trans (KB.of k2 ∅ ∅);generalize QQ d 1 H1=g at v m x r2 l2 i2 f2 kb2;obtain⟨Fi,y,z,B⟩:=i2;obtain⟨C,E1,B1,D⟩:=y.obj;refine⟨_,U,b,_,db,_,_,U,m,(T 1),(T 50),U,xi,C,_,U,D,U,_,U,xi,_,WI,n,Fi,le.nm,U,y,(by rw[zg];exact qw.mpr ⟨le,hle,U⟩),λH3 Fi' F kF hF=>?_⟩;obtain⟨G,k3⟩:=g6.own' y z B F kF (λc hc=>.inl (hF c hc));rw[PY] at G;have o:=k3 _ _ m (.inl (by rw[x];decide));have I:QQ g 2 Z b=0:=by rw[Qm m];exact x
  have r3:=r2.step k3;have l3:=l2.step k3;have t3:=v.step k3;have f3:=f2.step k3;have i:=kb2.trans (KB.of k3 ∅ ∅);generalize QQ g 2 Z=J at t3 o I r3 l3 G f3 i;obtain⟨Ff,N,O,R⟩:=f3;obtain⟨S,X1,T1,N1,X⟩:=N.obj;refine⟨_,U,b,_,db,_,_,U,o,(T 1),(T 16),U,xf,S,_,U,X,U,_,U,xf,_,mk,W,M,n,Ff,le.nm,U,N,hb,λH4 Ff' Y kG hG=>?_⟩;obtain⟨f4,e⟩:=wQ.own' N O R Y kG (λc hc=>.inl (hG c hc));exact k H4 (QQ J 3 H3) ⟨e _ _ o (.inl (by rw[I];decide)),by rw[Qm o];exact I,r3.step e,l3.step e,t3.step e,G.step e,f4⟩ (i.trans (KB.of e ∅ ∅))
theorem uj{A B:Prop}(h:decide (x=y)=false)(k:B):if decide (V.str x=V.str y)=true then A else B:=by
 rw[Yz,h];exact QC k
theorem Rb{A B:Prop}(k:A):if decide (V.str x=V.str x)=true then A else B:=by
 rw[qx rfl];exact QT k
inductive Dd where
 |put (nm:qc) (p:LD)
 |place (nm fo:qc)
 |mark (nm y:qc) (on:Bool)
 |drop (nm:qc)
def Dd.nm:Dd->qc
 |.put nm _=>nm
 |.place nm _=>nm
 |.mark nm _ _=>nm
 |.drop nm=>nm
inductive gC(H:Hp)(q:qd):Dd->Prop
 |put {nm:qc} {p:LD} {u:qd}:H q=some (.tup [.str ZJ,.str nm,.ref u])->H u=some (.tup [.str p.s,.str p.t,.str p.b,.int p.d,.str p.an])->gC H q (.put nm p)
 |place {nm fo:qc}:H q=some (.tup [.str Zp,.str nm,.str fo])->gC H q (.place nm fo)
 |mark {nm y:qc} {on:Bool}:H q=some (.tup [.str Zg,.str nm,.str y,.bl on])->gC H q (.mark nm y on)
 |drop {nm:qc}:H q=some (.tup [.str Zk,.str nm])->gC H q (.drop nm)
theorem gC.tups{q:qd}{d:Dd}(h:gC H q d)(k:∀c xs,H c=some (.tup xs)->H' c=some (.tup xs)):gC H' q d:=by
 cases h with
 |put e a=>exact .put (k _ _ e) (k _ _ a)
 |place e=>exact .place (k _ _ e)
 |mark e=>exact .mark (k _ _ e)
 |drop e=>exact .drop (k _ _ e)
def chL(ls:qa LE):Dd->qa LE
 |.drop nm=>ls.filter λl=>decide (l.nm≠nm)
 |_=>ls
def chB(bx:Rows):Dd->Rows
 |.drop nm=>L2.without bx nm
 |.place nm a=>L2.without bx nm++[(nm,a)]
 |_=>bx
def chM(mk:qc->qg):Dd->qc->qg
 |.mark nm y true=>YS mk nm (YG (mk nm) y)
 |.mark nm y false=>YS mk nm ((mk nm).filter λz=>decide (z≠y))
 |_=>mk
def dOk(W M:qg):Dd->Prop
 |.put _ _=>False
 |.place _ a=>a∈W
 |.mark _ y _=>y∈M
 |.drop _=>True
inductive RN(a:jk)(vs:qa V)(H:Hp)(Q:VK)(E:XK):Prop
 |mk:∀(own:qd->Nat)(b db xr L xt xi xf:qd)(es:qa Ent)(ls:qa LE)(bx:Rows)(mk:qc->qg)(WI W M:qg)(n:Nat)(q:qd)(d:Dd),vs=[.ref b,.ref q]->xq a H own b db xr L xt xi xf es ls bx mk WI W M n->gC H q d->dOk W M d->d.nm∈ls.map LE.nm->d.nm∈bx.map (·.1) ->
   (∀H' own',xq a H' own' b db xr L xt xi xf es (chL ls d) (chB bx d) (chM mk d) WI W M n->KB own own' H H'->Q .non H')->RN a vs H Q E
theorem xq.fold{b:qd}{c:Rows}{mk':qc->qg}(h:xq a H own b db xr L xt xi xf es ls bx mk WI W M n)(f:wQ a H' (QQ own 3 H) xf c mk' W M n)(k:xo own 3 H H'):xq a H' (QQ own 3 H) b db xr L xt xi xf es ls c mk' WI W M n:=
 ⟨k _ _ h.e (.inl (by rw[h.o];decide)),by rw[Qm h.e];exact h.o,h.r.step k,h.l.step k,h.t.step k,h.i.step k,f⟩
theorem S8(T:Txt P w K mg base a fd):T.k jg 4 65 (RN a):=by
 refine T.ok 65 (λx A outer st H vs Q E G h=>?_)
 .obtain⟨own,b,db,xr,L,xt,xi,xf,es,ls,bx,mk,WI,W,M,n,q,d,rfl,h,hd,v,z,t,k⟩:=h;refine⟨_,(Qd (Qv (i:=2) (sc 65).nd (Qt QA (pv 1) Qj))
   (Qe (QG (Qx Uq (Qt QA (pv 1) Qj) Qk) (Qe (Qw (T.me (pv 0) (T 1) (T 60) (C4 T) (zj (pv 2) Qg)))) (Qe (QG (Qx Uq (Qt QA (pv 1) Qj) Qk) (Qe (Qw (T.me (Ql (pv 0) U) (T 0) (T 93) (II T) (zj (pv 2) (zj (Qt QA (pv 1) Qj) Qg))))) (Qe (QG (Yk (Qt QA (pv 1) Qj)) (Qe (Qw (T.me (Ql (pv 0) U) (T 0) (T 94) (Ni T) (zj (pv 2) (zj (Qt QA (pv 1) Qj) Qg))))) (Qe (Qw (T.me (Ql (pv 0) U) (T 0) (T 95) (En T) (zj (pv 2) (zj (Qt QA (pv 1) Qj) Qg)))))))))))),?_⟩
  cases hd with
  |put e f=>exact v.elim
  |drop e=>
   refine⟨_,U,q,_,_,_,U,U,jj.of e,QF (j:=1) rfl,?_⟩;refine⟨_,U,q,_,_,_,U,U,jj.of e,QF (j:=0) rfl,U,_,U,Rb ?_⟩;exact⟨_,U,b,db,_,U,h.e,U,_,U,own,b,db,xr,L,xt,xi,xf,es,ls,bx,mk,WI,W,M,n,_,U,h,z,t,λH' f g l=>k H' f g l⟩
  |place e=>
   obtain⟨u,g,l,m⟩:=id h.f;obtain⟨o,B,T1,C,p⟩:=g.obj;refine⟨_,U,q,_,_,_,U,U,jj.of e,QF (j:=1) rfl,?_⟩;refine⟨_,U,q,_,_,_,U,U,jj.of e,QF (j:=0) rfl,U,_,U,uj ∅ ⟨_,U,q,_,_,_,U,U,jj.of e,QF (j:=0) rfl,U,_,U,Rb ?_⟩⟩;refine⟨_,U,b,_,db,_,_,U,h.e,(T 1),(T 16),U,xf,o,_,U,p,U,_,U,_,U,q,_,_,_,U,U,jj.of e,QF (j:=2) rfl,xf,_,mk,W,M,n,u,_,_,U,g,t,v,λH' D f s F=>?_⟩;obtain⟨f4,r⟩:=wQ.own' g l m f s F;exact k H' _ (h.fold f4 r) (KB.of r ∅ ∅)
  |mark e=>
   rename_i nm y on
   obtain⟨u,g,l,m⟩:=id h.f;obtain⟨o,B,T1,C,p⟩:=g.obj;refine⟨_,U,q,_,_,_,U,U,jj.of e,QF (j:=1) rfl,?_⟩;refine⟨_,U,q,_,_,_,U,U,jj.of e,QF (j:=0) rfl,U,_,U,uj ∅ ⟨_,U,q,_,_,_,U,U,jj.of e,QF (j:=0) rfl,U,_,U,uj ∅ ?_⟩⟩;refine⟨_,U,q,_,_,_,U,U,jj.of e,QF (j:=3) rfl,_,U,?_⟩
   cases on with
   |true=>
    refine QT ⟨_,U,b,_,db,_,_,U,h.e,(T 1),(T 16),U,xf,o,_,U,p,U,_,U,_,U,q,_,_,_,U,U,jj.of e,QF (j:=2) rfl,xf,_,mk,W,M,n,u,_,_,U,g,t,v,λH' f s=>?_⟩;obtain⟨f4,r⟩:=wQ.own' g l m f s (λc hc=>.inl hc);exact k H' _ (h.fold f4 r) (KB.of r ∅ ∅)
   |false=>
    refine QC ⟨_,U,b,_,db,_,_,U,h.e,(T 1),(T 16),U,xf,o,_,U,p,U,_,U,_,U,q,_,_,_,U,U,jj.of e,QF (j:=2) rfl,xf,_,mk,W,M,n,u,_,_,U,g,t,λH' f s=>?_⟩;obtain⟨f4,r⟩:=wQ.own' g l m f s (λc hc=>.inl hc);exact k H' _ (h.fold f4 r) (KB.of r ∅ ∅)
inductive FX(a:jk)(vs:qa V)(H:Hp)(Q:VK)(E:XK):Prop
 |mk:∀(own:qd->Nat)(b db xr L xt xi xf:qd)(es:qa Ent)(ls:qa LE)(bx:Rows)(mk:qc->qg)(WI W M:qg)(n:Nat)(l:LE)(fo:qc),vs=[.ref b,.str l.nm]->xq a H own b db xr L xt xi xf es ls bx mk WI W M n->l∈ls->L2.up bx l.nm=some fo->l.nm∈bx.map (·.1) ->
   (∀y g H',H y=none->H g=none->Qi H H'->EX a H' y g l.p.s l.p.t l.p.b l.p.d l.p.an fo (SS (Q3 (mk l.nm)))->Q (.ref y) H')->FX a vs H Q E
theorem Nt(T:Txt P w K mg base a fd):T.k jg 10 66 (FX a):=by
 refine T.ok 66 (λs A outer st H vs Q E t h=>?_)
 .obtain⟨own,b,db,xr,L,xt,xi,xf,es,ls,bx,mk,WI,W,M,n,l,u,rfl,h,m,f,o,k⟩:=h;have v:=Yx t;refine⟨_,(Qd (Qw (T.cl (Y5 T) (zj (pv 1) (zj (Ql (pv 0) U) Qg))))
   (Qe (Qp (T.ma (T 57) (T 56) (C3 T) (zj (Ym v (Ql (pv 0) U) (pv 1)) (zj (T.me (Ql (pv 0) U) (T 0) (T 96) (Ep T) (zj (pv 1) Qg)) (zj (T.me (Ql (pv 0) U) (T 0) (T 97) (IK T) (zj (pv 1) Qg)) Qg))))))),?_⟩
  have p:=Q9 (g:=λl=>V.ref l.y) h.l.nd m;obtain⟨i,x⟩:=h.l.at_ l m;obtain⟨q,e,z,B⟩:=h.f;obtain⟨c,I,T1,J,d⟩:=e.obj;have j:=e.mk_ok o;refine⟨_,U,_,U,b,_,db,_,_,U,h.e,(T 1),(T 15),U,l.nm,L,_,_,U,h.l.e,p,?_⟩;refine⟨_,U,b,_,db,_,_,U,h.e,(T 1),(T 15),U,_,U,L,_,U,.inl ⟨_,Sum.inr l.nm,.inl h.l.e,U,p.symm⟩,?_⟩;refine⟨_,U,b,_,db,_,_,U,h.e,(T 1),(T 16),U,xf,c,_,U,d,U,_,U,xf,bx,mk,W,M,n,q,l.nm,u,U,e,f,?_⟩;refine⟨_,U,b,_,db,_,_,U,h.e,(T 1),(T 16),U,xf,c,_,U,d,U,_,U,xf,bx,mk,W,M,n,q,l.nm,U,e,o,λlm H1 nl s1 C=>?_⟩;exact λy N r D ne=>C7 r D ne (i.let.mono s1) x (.inr ⟨lm,U,.inl C⟩) (by rw[UE];have:=j.2.2;omega) λF g s2 G hc=>⟨U,k y g F (s1.free r) (s1.free G) (s1.trans s2) hc⟩
def BF(es:qa Ent)(k:qg):Bool:=decide (k.getD 1 ""=Zg)&&(match Y3 es k with|some e=>decide (e.2.2.2=V.bl true)|none=>false)
def NP(es:qa Ent)(nm:qc):qa (qg):=(U9 ((sel [nm] es).map (·.1))).map λi=>((sel [nm] es).map (·.1)).getD i []
def W5(es:qa Ent)(nm:qc):qg:=((NP es nm).filter (BF es)).map λk=>k.getD 2 ""
structure af(es:qa Ent):Prop where
 ne:∀e∈es,e.1≠[]
 two:∀e∈es,2<=e.1.length
 mw:∀e∈es,e.1.getD 1 ""=Zg->(∃on,e.2.2.2=V.bl on)/\e.1.length=3
theorem BZ{H:Hp}:∀{bs:qa qd}{a:qa (qg)}(i:Nat),Ve H bs a->i<a.length->H (bs.getD i 0)=some (.tup ((a.getD i []).map V.str))
 |_,_,i,.nil,b=>absurd b (Nat.not_lt_zero _)
 |_,_,0,.cons e _ _,_=>e
 |_,_,i+1,.cons _ _ r,b=>BZ i r (jC b)
theorem CK:∀(bs:qa qd)(i:Nat),i<bs.length->(bs.map V.ref).getD i .non=V.ref (bs.getD i 0)
 |[],i,h=>absurd h (Nat.not_lt_zero _)
 |_::_,0,_=>rfl
 |_::bs,i+1,h=>CK bs i (jC h)
theorem KO{k:qg}(h:Y3 es k=some e):e∈es/\e.1=k:=⟨xW h,by have z:=List.find?_some h;exact qH z⟩
theorem OL{k:qg}(h:j<k.length):xx (k.map V.str) (j:Int)=some (V.str (k.getD j "")):=QF (by
 rw[qQ,qZ,qv h];rfl)
theorem DX(h:e∈es):∃a,Y3 es e.1=some a:=by
 cases q:Y3 es e.1 with
 |some a=>exact⟨a,U⟩
 |none=>
  have:=yH.mp q e h;exact absurd (qx rfl) this
inductive aW(a:jk)(vs:qa V)(H:Hp)(Q:VK)(E:XK):Prop
 |mk:∀(own:qd->Nat)(b db xr L xt xi xf:qd)(es:qa Ent)(ls:qa LE)(bx:Rows)(mk:qc->qg)(WI W M:qg)(n:Nat)(nm:qc),vs=[.ref b,.str nm]->xq a H own b db xr L xt xi xf es ls bx mk WI W M n->af es->es.length<64 ->
   (∀l H',H l=none->Qi H H'->H' l=some (.lst ((W5 es nm).map V.str))->Q (.ref l) H')->aW a vs H Q E
theorem bI(T:Txt P w K mg base a fd):T.k jg 2 63 (aW a):=by
 obtain⟨ds,y,kH⟩:=T.gX;refine T.ok 63 (λO A outer st H vs Q E R h=>?_)
 .obtain⟨own,b,db,xr,L,xt,xi,xf,es,ls,bx,mk,WI,W,M,n,nm,rfl,h,hm,B,k⟩:=h;refine⟨_,(Qe (Qp (UZ (sc:=Qr (sO 63)) (N:=(nn 63)) (fr:=[(0,"self")]) (wN rfl rfl) rfl rfl rfl (Yt (T.me (Ql (pv 0) U) (T 12) (T 109) (IH T) (zj (pv 1) Qg))) (λ_ _ _ _=>WA (PW.pt (Vl (Qx Uq (Qt (Xo K) (pv 0) Qj) Qk) (UX (Yk (Kv (Kx K (pv 1) U) (T 12) (T 39) (Bx T) R.up kH y UN (zj (pv 0) Qg))))))) (λ_ _ _ _=>(Qt (Xo K) (pv 0) Qj))))),?_⟩;obtain⟨c,D,kd,t,S,Z⟩:=h.r;refine⟨_,U,b,_,db,_,_,U,h.e,(T 1),(T 23),U,xr,c,_,U,t.obj,U,_,U,xr,c,D,kd,es,nm,U,t,hm.ne,B,λl bs H1 nl s1 I C=>?_⟩;have d:∀i∈U9 ((sel [nm] es).map (·.1)),i<((sel [nm] es).map (·.1)).length:=λi m=>HF m;have X:=I.len;have ex:(U9 ((sel [nm] es).map (·.1))).map (λi=>(bs.map V.ref).getD i .non)=((U9 ((sel [nm] es).map (·.1))).map λi=>(bs.getD i 0,((sel [nm] es).map (·.1)).getD i [])).map λx=>V.ref x.1:=by
   rw[zg];refine yv λi m=>?_;exact CK bs i (by have:=d i m;omega)
  rw[ex] at C;have o:∀x∈(U9 ((sel [nm] es).map (·.1))).map (λi=>(bs.getD i 0,((sel [nm] es).map (·.1)).getD i [])),H1 x.1=some (.tup (x.2.map V.str))/\∃e∈es,e.1=x.2:=λx p=>by
   obtain⟨i,m,rfl⟩:=qw.mp p;refine⟨BZ i I (d i m),?_⟩;have f:((sel [nm] es).map (·.1)).getD i []∈(sel [nm] es).map (·.1):=by
    rw[qZ,qv (d i m)];exact zu _
   obtain⟨e,he,q⟩:=qw.mp f;exact⟨e,(qX.mp he).1,q⟩
  have hlen:((U9 ((sel [nm] es).map (·.1))).map (λi=>(bs.getD i 0,((sel [nm] es).map (·.1)).getD i []))).length<=sizeLine:=by
   rw[ql,GK,ql];have:(sel [nm] es).length<=es.length:=zh _ _;exact Yd (⋯)
  refine⟨l,U,⟨_,zN.of C⟩,Kl (λx=>V.ref x.1) (λx=>BF es x.2) (λx=>V.str (x.2.getD 2 "")) hlen (zN.of C) ?_ ?_ ?_⟩
  .intro x F Q' p s3 u;obtain⟨v,e,he,q⟩:=o x p;obtain⟨J,r⟩:=DX he;rw[q] at r;have two:2<=x.2.length:=by rw[<-q];exact hm.two e he
   have f:=s1.trans s3;refine⟨_,U,x.1,_,_,_,U,U,jj.of (s3 _ _ v),OL (j:=1) ⋯,U,_,U,?_⟩;by_cases g:x.2.getD 1 ""=Zg
   .obtain⟨⟨on,s⟩,_⟩:=hm.mw J (KO r).1 (by rw[(KO r).2];exact g);rw[g];refine Rb ⟨_,U,b,_,db,_,_,U,f _ _ h.e,(T 1),(T 23),U,xr,c,_,U,f _ _ t.obj,U,_,U,xr,c,D,kd,es,x.1,x.2,.non,U,t.same f,(by intro z;rw[z] at two;exact absurd two ∅),s3 _ _ v,λY s4=>?_⟩;rw[r];have:=u Y s4;have G:BF es x.2=on:=by
     unfold BF;rw[qx g,r];show(true&&decide (J.2.2.2=V.bl true))=on;rw[s];cases on<;>decide
    rw[G] at this;exact⟨on,s,this⟩
   .refine uj (qD g) ?_;have:=u F (Qi.refl _);have G:BF es x.2=false:=by unfold BF;rw[qD g];rfl
    rw[G] at this;exact this
  .intro x F Q' p s3 f u;obtain⟨v,e,he,q⟩:=o x p;have g:x.2.getD 1 ""=Zg:=by
    unfold BF at f;exact qH (vQ.mp f).1
   have three:=(hm.mw e he (by rw[q];exact g)).2;rw[q] at three;exact⟨_,U,x.1,_,_,_,U,U,jj.of (s3 _ _ v),OL (j:=2) ⋯,u F (Qi.refl _)⟩
  .intro f g r s2 s;refine k f g (s1.free r) (s1.trans s2) ?_;rw[s];congr 2;unfold W5 NP;rw[zg,jB,jB,zg,zg];rfl
inductive Cp(a:jk)(vs:qa V)(H:Hp)(Q:VK)(E:XK):Prop
 |mk:∀x s t b d an,vs=[.ref x]->Uk a H x s t b d an->WU s t b d an->(∀D H',SX x H H'->DT a H' x s t b d an D->(H D=none\/DT a H x s t b d an D)->Q (.ref D) H')->Cp a vs H Q E
inductive L0(a:jk)(vs:qa V)(H:Hp)(Q:VK)(E:XK):Prop
 |mk:∀x s t b d an,vs=[.ref x]->Uk a H x s t b d an->WU s t b d an->(∀(l:qd)(H':Hp),H l=none->SX x H H'->(∃D,DT a H' x s t b d an D/\(H D=none\/DT a H x s t b d an D))->H' l=some (.lst ((UR (yD t++yD b)).map V.str))->Q (.ref l) H')->L0 a vs H Q E
theorem IG(T:Txt P w K mg base a fd):T.k jg 2 35 (Cp a):=by
 refine T.ok 35 (λY A outer s H vs Q E Z h=>?_)
 .obtain⟨x,s,t,b,d,an,rfl,hL,g,k⟩:=h;have hu:=Yx Z;refine⟨_,(Qd (QG (Qx M0 (Ql (pv 0) U) XI) (Qd (Qv (i:=1) (sc 35).nd Q7)
   (Qd (Y9 zJ rfl (Yt (T.cl (Kc T) (zj (Ql (pv 0) U) Qg))) (Yc (i:=2) (sc 35).nd) (Qe (Ys hu (pv 1) (pv 2) Uz rfl)))
   (Qd (Y9 zJ rfl (Yt (T.cl (Kc T) (zj (Ql (pv 0) U) Qg))) (Yc (i:=2) (sc 35).nd) (Qe (Qw (MU (pv 1) (pv 2) Uz ⟨U,U,U,U⟩))))
   (Qe (QX (pv 0) (pv 1) U))))) Qq)
   (Qe (Qp (Ql (pv 0) U)))),?_⟩
  have h1:=g.tl;have h2:=E2 t;have h3:=g.bl;have h4:=E2 b;rcases hL with⟨dx,f⟩|⟨D,⟨dx,f⟩,S⟩
  .refine⟨_,U,x,_,dx,_,_,U,f,(T 2),(T 17),U,U,_,U,QT ?_⟩;refine λD F=>?_;have s1:Qi H (upd H D (.dK [])):=Qi.zq F;have J:(upd H D (.dK [])) D=some (.dK []):=Qb;show V0 _ _ _ _ (upd H D (.dK []));generalize upd H D (.dK [])=H1 at s1 J;refine⟨_,U,x,_,dx,_,_,U,s1 _ _ f,(T 2),(T 35),U,t,U,g.t_,⋯,λG H2 n1 s2 q=>?_⟩;have s3:=s1.trans s2;have lD:G≠D:=(Qc J n1).symm;refine⟨G,U,⟨_,zN.of q⟩,YQ (K:=K) (a:=G) (xs:=(yD t).map V.str) (λi σ m=>∃o:Option V,σ=[some (.ref x),some (.ref D),o]/\Qi H m/\m D=some (.dK (kn (yD t) ((yD t).take i)))/\m G=some (.lst ((yD t).map V.str)))
    ⟨none,U,s3,s2 _ _ J,q⟩ (λi σ m _ ⟨_,_,_,_,h⟩=>zN.of h) ?_ ?_⟩
   .rintro i y σ m L ⟨o,rfl,s4,r,X⟩;obtain⟨u,rfl,j⟩:=LZ L;have M:=NN (yD t) ((yD t).take i);rw[zY] at M;refine⟨_,U,_,U,D,_,U,Uy.k (k:=Sum.inr u) r (QI ⋯),_,U,s4.jl F,?_,by rw[Qa lD];exact X⟩;rw[Qb,Tn (zv j),zR,j];rfl
   .rintro σ m ⟨o,rfl,s4,r,X⟩;rw[ql,ja (qz _)] at r;refine⟨_,U,x,_,dx,_,_,U,s4 _ _ f,(T 2),(T 36),U,b,U,g.b_,⋯,λI H4 n2 s5 B=>?_⟩;have s6:=s4.trans s5;have N:I≠D:=(Qc r n2).symm;refine⟨I,U,⟨_,zN.of B⟩,YQ (K:=K) (a:=I) (xs:=(yD b).map V.str) (λi σ n=>∃o:Option V,σ=[some (.ref x),some (.ref D),o]/\Qi H n/\n D=some (.dK (kn (yD t) (yD t++(yD b).take i)))/\n I=some (.lst ((yD b).map V.str)))
     ⟨o,U,s6,by rw[xO,zD];exact s5 _ _ r,B⟩ (λi σ n _ ⟨_,_,_,_,h⟩=>zN.of h) ?_ ?_⟩
    .rintro i y σ n L ⟨o2,rfl,p,l,O⟩;obtain⟨u,rfl,j⟩:=LZ L;have M:=NN (yD t) (yD t++(yD b).take i);rw[qA,zY] at M;have C:yD t++(yD b).take (i+1)=(yD t++(yD b).take i)++[u]:=by rw[zR,j,yO];rfl
     refine⟨_,U,D,U,.inl ⟨_,.inl l⟩,_,U,_,Sum.inr u,l,U,QI ⋯,λv R=>?_,λR=>?_⟩
     .exact⟨_,U,p,by rw[C,Dm R];exact l,O⟩
     .exact⟨_,U,p.jl F,by rw[Qb,C,Dn (λz hz=>qS _ hz) R],by rw[Qa N];exact O⟩
    .rintro σ n ⟨o2,rfl,p,l,O⟩;rw[ql,ja (qz _)] at l;refine⟨_,U,_,U,x,_,dx,_,U,p _ _ f,(T 2),(T 17),(by show 6<1000;decide),?_⟩;refine⟨_,U,x,_,dx,_,_,U,Qb,(T 2),(T 17),U,?_⟩;refine k D _ (λc o ne e=>?_) ⟨⟨dx,Qb⟩,?_⟩ (.inl F)
     .rw[Qa ne];exact p _ _ e
     .rw[Qa (QM l (p _ _ f) nofun)];exact l
  .refine⟨_,U,x,_,dx,_,_,U,f,(T 2),(T 17),U,U,_,U,QC ?_⟩;exact⟨_,U,x,_,dx,_,_,U,f,(T 2),(T 17),U,k D H (λ_ _ _ e=>e) ⟨⟨dx,f⟩,S⟩ (.inr ⟨⟨dx,f⟩,S⟩)⟩
theorem Pw(T:Txt P w K mg base a fd):T.k jg 3 36 (L0 a):=by
 refine T.ok 36 (λn A outer s H vs Q E r h=>?_)
 .obtain⟨x,s,t,b,d,an,rfl,i,g,k⟩:=h;obtain⟨dx,f,o⟩:=i.at
  refine⟨_,(Qe (Qp (Yn (Wv rfl) rfl (T 30) boot_list (Hr (T.mn (pv 0) (T 2) (T 86) (IG T)) Qg)))),?_⟩;refine⟨_,U,x,dx,_,U,o,U,x,s,t,b,d,an,U,i,g,λD H1 s1 p q=>?_⟩;obtain⟨⟨e,j⟩,m⟩:=id p;refine⟨D,_,U,m,λl c=>k l _ (s1.free j c) (s1.trans (SX.of (Qi.zq c))) ⟨D,⟨⟨e,Qi.zq c _ _ j⟩,Qi.zq c _ _ m⟩,q⟩ ?_⟩;rw[Qb,P0]
inductive Co(a:jk)(vs:qa V)(H:Hp)(Q:VK)(E:XK):Prop
 |mk:∀p s t b d an,vs=[.ref p]->H p=some (.tup [.str s,.str t,.str b,.int d,.str an])->WU s t b d an->(∀x H',H x=none->Qi H H'->(∃dx,H' x=some (.ins (a 99) dx (ux s t b d an .non)))->Q (.ref x) H')->Co a vs H Q E
theorem BA{b:qc}{E:XK}(g:WU s t b d an)(k:∀x H',H x=none->Qi H H'->(∃dx,H' x=some (.ins (a 99) dx (ux s t b d an .non)))->Q (.ref x) H') :
 ∀x dx,H x=none->H dx=none->dx≠x->Bn a (.ref x::[.str s,.str t,.str b,.int d,.str an]) (upd (upd H dx (.own x)) x (.ins (a 99) dx [])) (λv i=>v=.non/\Q (.ref x) i) E:=by
 intro x dx f hd ne;refine⟨x,dx,s,t,b,d,an,U,g,Qb,λH' j h=>⟨U,k x H' f (λc o e=>j c o (Qc e f) ?_) ⟨dx,h⟩⟩⟩;rw[Qa (Qc e f),Qa (Qc e hd)];exact e
theorem WY(T:Txt P w K mg base a fd):T.k jg 7 7 (Co a):=by
 refine T.ok 7 (λe A outer s H vs Q E f h=>?_)
 .obtain⟨p,s,t,b,d,an,rfl,c,g,k⟩:=h;refine⟨_,(Qd (QG (PW.pt (Vh (Yl (Yk (Qs QR rfl (T 6) boot_isinstance (zj (pv 0) (zj (YF (v:=.ty "tuple") rfl (T 43) boot_tuple rfl) Qg))))) (UQ (Qx We (Qs QU rfl (T 3) zx (zj (pv 0) Qg)) Qj)))) (Qe Yw) Qq)
   (Qe (Qp (T.ma (T 46) (T 45) (Bw T) (zj (Qt QA (pv 0) Qj) (zj (Qt QA (pv 0) Qj) (zj (Qt QA (pv 0) Qj) (zj (Qt QA (pv 0) Qj) (zj (Qt QA (pv 0) Qj) Qg))))))))),?_⟩
  have hS:jj K H p [.str s,.str t,.str b,.int d,.str an]:=jj.of c;refine⟨_,U,_,_,_,_,_,U,U,Vd.tup c,NO,_,U,QC ?_⟩;refine⟨_,U,p,_,U,.inr hS,U,_,U,QC ?_⟩;exact⟨_,U,p,_,_,_,U,U,hS,U,_,U,p,_,_,_,U,U,hS,U,_,U,p,_,_,_,U,U,hS,U,_,U,p,_,_,_,U,U,hS,U,_,U,p,_,_,_,U,U,hS,U,BA g k⟩
theorem AO:∀{ls:qa LE}{z l:LE},(ls.map LE.y).Nodup->z∈ls->l∈ls->z.y=l.y->z=l
 |[],_,_,_,h,_,_=>nomatch h
 |x::xs,z,l,c,hz,d,e=>by
  rw[zf,zV] at c;rcases qC.mp hz with b|b
  .rcases qC.mp d with a|a
   .rw[b,a]
   .exact absurd (qw.mpr ⟨l,a,by rw[<-e,b]⟩) c.1
  .rcases qC.mp d with a|a
   .exact absurd (qw.mpr ⟨z,b,by rw[e,a]⟩) c.1
   .exact AO c.2 b a e
theorem vW.put(h:vW a H own L ls){l:LE}(b:¬l.nm∈ls.map LE.nm)(d:¬l.y∈ls.map LE.y)(f:gB a H own l.y l.p)(g:WU l.p.s l.p.t l.p.b l.p.d l.p.an) :
 vW a (upd H L (.dK (Ye (dG LE.nm (λl=>V.ref l.y) ls) (Sum.inr l.nm) (.ref l.y)))) (QQ own 5 H) L (ls++[l])/\xo own 5 H (upd H L (.dK (Ye (dG LE.nm (λl=>V.ref l.y) ls) (Sum.inr l.nm) (.ref l.y)))):=by
 have k:xo own 5 H (upd H L (.dK (Ye (dG LE.nm (λl=>V.ref l.y) ls) (Sum.inr l.nm) (.ref l.y)))):=λc o e q=>by
  have n:c≠L:=λz=>by
   rcases q with q|q
   .rw[z] at q;exact q h.o
   .rw[z,h.e] at e;cases e;cases q
  rw[Qa n];exact e
 refine⟨⟨by rw[Qb,GV l b rfl rfl],by rw[Qm h.e];exact h.o,by rw[qE];exact YC h.nd b,by rw[qE];exact YC h.na d,λz hz=>?_⟩,k⟩;rcases qF.mp hz with hz|hz
 .exact⟨(h.at_ z hz).1.step k ∅,(h.at_ z hz).2⟩
 .rw[qt.mp hz];exact⟨f.step k ∅,g⟩
theorem vW.words(h:vW a H own L ls){l:LE}(m:l∈ls)(s:SX l.y H H')(p:∃D,DT a H' l.y l.p.s l.p.t l.p.b l.p.d l.p.an D/\(H D=none\/DT a H l.y l.p.s l.p.t l.p.b l.p.d l.p.an D)) :
 vW a H' (QQ own 6 H) L ls/\xo own 6 H H':=by
 have d:=(h.at_ l m).1;obtain⟨w,f,g⟩:=d.let.at
 have k:xo own 6 H H':=λc o e q=>s c o (λz=>by
  rcases q with q|q
  .rw[z] at q;exact q d.1
  .rw[z,g] at e;cases e;cases q) e
 refine⟨⟨s _ _ (QM h.e g nofun) h.e,by rw[Qm h.e];exact h.o,h.nd,h.na,λz hz=>⟨?_,(h.at_ z hz).2⟩⟩,k⟩;have i:=(h.at_ z hz).1;by_cases e:z.y=l.y
 .obtain⟨D,r,j⟩:=p;have t:z=l:=AO h.na hz m e;rw[t];refine⟨by rw[Qm g];exact d.1,.inr ⟨D,r,Vz ?_⟩⟩;rcases j with j|⟨⟨x,n⟩,_⟩
  .exact .inr j
  .left
   rcases d.2 with⟨u,b⟩|⟨y,⟨⟨u,b⟩,_⟩,v⟩
   .rw[n] at b;injection b with b;injection b with _ _ b;simp at b
   .rw[n] at b;injection b with b;injection b with _ _ b;simp at b;rw[b];exact v
 .rcases i with⟨j,⟨dx,ex⟩|⟨D,⟨⟨dx,ex⟩,b⟩,n⟩⟩
  .exact⟨by rw[Qm ex];exact j,.inl ⟨dx,s _ _ e ex⟩⟩
  .exact⟨by rw[Qm ex];exact j,.inr ⟨D,⟨⟨dx,s _ _ e ex⟩,s _ _ (QM b g nofun) b⟩,by rw[Qm b];exact n⟩⟩
structure OS(H:Hp)(es:qa Ent)(nm:qc)(p:LD)(u:qd)(fo:qc)(dr:Bool)(WI W M:qg):Prop where
 mk_:af es
 few:es.length<64
 pt:((Y3 es [nm,ZJ]).map (·.2.2.2)).getD .non=.ref u
 tu:H u=some (.tup [.str p.s,.str p.t,.str p.b,.int p.d,.str p.an])
 g:WU p.s p.t p.b p.d p.an
 wi:∀w∈UR (yD p.t++yD p.b),w∈WI
 wl:(UR (yD p.t++yD p.b)).length<=60
 d0:dr=false->((Y3 es [nm,Zk]).map (·.2.2.2)).getD .non=.non
 d1:dr=true->∃z,((Y3 es [nm,Zk]).map (·.2.2.2)).getD .non=.str z
 pl:((Y3 es [nm,Zp]).map (·.2.2.2)).getD (.str ZZ)=.str fo
 fw:fo∈W
 mm:∀y∈W5 es nm,y∈M
theorem vW.same(j:Nat)(h:vW a H own L ls)(s:Qi H H'):vW a H' (QQ own j H) L ls:=by
 refine⟨s _ _ h.e,by rw[Qm h.e];exact h.o,h.nd,h.na,λl b=>⟨?_,(h.at_ l b).2⟩⟩;rcases (h.at_ l b).1 with⟨c,⟨dx,ex⟩|⟨D,⟨⟨dx,ex⟩,d⟩,e⟩⟩
 .exact⟨by rw[Qm ex];exact c,.inl ⟨dx,s _ _ ex⟩⟩
 .exact⟨by rw[Qm ex];exact c,.inr ⟨D,⟨⟨dx,s _ _ ex⟩,s _ _ d⟩,by rw[Qm d];exact e⟩⟩
theorem KB.same(j:Nat)(s:Qi H H'):KB own (QQ own j H) H H':=⟨λc o e _=>s c o e,λc o e _=>Qm e⟩
inductive RM(a:jk)(vs:qa V)(H:Hp)(Q:VK)(E:XK):Prop
 |mk:∀(own:qd->Nat)(b db xr L xt xi xf:qd)(es:qa Ent)(ls:qa LE)(bx:Rows)(mk:qc->qg)(WI W M:qg)(n:Nat)(nm:qc)(p:LD)(u:qd)(fo:qc)(dr:Bool),vs=[.ref b,.str nm]->xq a H own b db xr L xt xi xf es ls bx mk WI W M n->OS H es nm p u fo dr WI W M->n<40->(∀m,m∈bx.map (·.1)↔m∈ls.map LE.nm) ->
   (dr=true->∀H' own',xq a H' own' b db xr L xt xi xf es (ls.filter λl=>decide (l.nm≠nm)) (L2.without bx nm) mk WI W M n->KB own own' H H'->Q .non H') ->
   (dr=false->∀y H' own',xq a H' own' b db xr L xt xi xf es ((ls.filter λl=>decide (l.nm≠nm))++[⟨nm,y,p⟩]) (L2.without bx nm++[(nm,fo)]) (YS mk nm (dd (W5 es nm))) WI W M (n+1)->KB own own' H H'->Q .non H')->RM a vs H Q E
theorem S7(T:Txt P w K mg base a fd):T.k jg 8 62 (RM a):=by
 obtain⟨ds,hds,gr⟩:=T.gX;refine T.ok 62 (λcdv A outer st H vs Q E hr h=>?_)
 .obtain⟨own,b,db,xr,L,xt,xi,xf,es,ls,bx,mk,WI,W,M,n,nm,p,u,fo,dr,rfl,h,j,hn,v,kD,kN⟩:=h;have hu:=Yx hr;obtain⟨t1,f,sp1⟩:∃t,yU (T.cx 62 cdv A outer st H E) ((QO (sO 62)).drop 1) t /\
   ∀(H1:Hp)(d:qd->Nat),xq a H1 d b db xr L xt xi xf es (ls.filter λl=>decide (l.nm≠nm)) (L2.without bx nm) mk WI W M n->KB own d H H1 ->
    t {nx:=λ_ H'=>Q .non H',rt:=Q} [some (.ref b),some (.str nm),none] H1:=by
   refine⟨_,(Qd (QG (Qx Ht (Kv (Ql (pv 0) U) (T 12) (T 39) (Bx T) hr.up gr hds UN (zj (YV (Qf (pv 1) (Qf Qk Qu))) Qg)) XI) (Qe Hm) Qq)
    (Qd (Qv (i:=2) (sc 62).nd (T.cl (WY T) (zj (Kv (Ql (pv 0) U) (T 12) (T 39) (Bx T) hr.up gr hds UN (zj (YV (Qf (pv 1) (Qf Qk Qu))) Qg)) Qg)))
    (Qd (Ys hu (Ql (pv 0) U) (pv 1) (pv 2) U)
    (Qd (Qw (T.me (Ql (pv 0) U) (T 5) (T 112) (PQ T) (zj (pv 1) (zj (Ql (pv 2) U) Qg))))
    (Qd (Qw (T.me (Ql (pv 0) U) (T 7) (T 104) (PK T) (zj (pv 1) (zj (T.mn (pv 2) (T 2) (T 87) (Pw T)) Qg))))
    (Qe (Qw (T.me (Ql (pv 0) U) (T 0) (T 91) (PM T) (zj (pv 1) (zj (T.me (Ql (pv 0) U) (T 12) (T 39) (Bx T) (zj (YV (Qf (pv 1) (Qf Qk Qu))) (zj Qk Qg))) (zj (T.me (pv 0) (T 1) (T 120) (bI T) (zj (pv 1) Qg)) Qg))))))))))),λH1 d f kb1=>?_⟩
   obtain⟨C,D,kd,rg,oxr,oF⟩:=id f.r;have hlen:(ls.filter λl=>decide (l.nm≠nm)).length<=n:=by obtain⟨_,_,_,_,_,q,_⟩:=id f.t;rw[ql] at q;exact q
   refine⟨_,U,b,_,db,_,_,U,f.e,(T 1),(T 23),U,xr,C,_,U,rg.obj,U,_,U,V1,λq2 H2 n2 s2 e2=>⟨xr,C,D,kd,es,q2,[nm,Zk],.non,U,rg.same s2,(by intro z;cases z),e2,λH3 s3=>⟨rfl,_,rfl,?_⟩⟩⟩;have m:=s2.trans s3
   cases dr with
   |true=>
    obtain⟨z,hz⟩:=j.d1 rfl;rw[hz];exact QT (kD rfl H3 _ (f.quiet m) (kb1.trans (KB.same 7 m)))
   |false=>
    rw[j.d0 rfl];refine QC ⟨_,U,b,_,db,_,_,U,m _ _ f.e,(T 1),(T 23),U,xr,C,_,U,m _ _ rg.obj,U,_,U,V1,λq4 H4 n4 s4 e4=>⟨xr,C,D,kd,es,q4,[nm,ZJ],.non,U,rg.same (m.trans s4),(by intro z;cases z),e4,λH5 s5=>?_⟩⟩;rw[j.pt];have Z:=(m.trans s4).trans s5;refine⟨u,_,_,_,_,_,U,Z _ _ (kb1.k _ _ j.tu (.inr (.inr rfl))),j.g,λy H6 ny s6 ⟨dy,ey⟩=>?_⟩;have S:=Z.trans s6;have ny1:H1 y=none:=Z.free ny;have k6:xo d 6 H1 H6:=xo.of S;have b6:=S _ _ f.e;have o6:QQ d 6 H1 b=0:=by rw[Qm f.e];exact f.o
    have r6:=f.r.step k6;have t6:=f.t.step k6;have i6:=f.i.step k6;have f6:=f.f.step k6;have l6:=f.l.same 6 S;have kb6:=kb1.trans (KB.same (own:=d) 6 S);have y6:gB a H6 (QQ d 6 H1) y p:=⟨Uu ny1,.inl ⟨dy,ey⟩⟩;have yn:¬y∈(ls.filter λl=>decide (l.nm≠nm)).map LE.y:=λhy=>by
     obtain⟨l,hl,e⟩:=qw.mp hy;obtain⟨o,q⟩:=(f.l.at_ l hl).1.there;rw[e,ny1] at q;cases q
    have nq:¬nm∈(ls.filter λl=>decide (l.nm≠nm)).map LE.nm:=λhy=>by
     obtain⟨l,hl,e⟩:=qw.mp hy;exact qH (qX.mp hl).2 e
    generalize QQ d 6 H1=I at o6 r6 t6 i6 f6 l6 kb6 y6;obtain⟨l7,J⟩:=l6.put (l:=⟨nm,y,p⟩) nq yn y6 j.g;refine⟨_,U,_,U,b,_,db,_,_,U,b6,(T 1),(T 15),U,_,U,L,_,U,Uy.k (k:=Sum.inr nm) l6.e (by rw[GW];exact QI ⋯),?_⟩;have b7:=J _ _ b6 (.inl (by rw[o6];decide));have o7:QQ I 5 H6 b=0:=by rw[Qm b6];exact o6
    have r7:=r6.step J;have t7:=t6.step J;have i7:=i6.step J;have f7:=f6.step J;have kb7:=kb6.trans (KB.of J ∅ ∅);have e7:=J _ _ ey (.inl (by rw[y6.1];decide));show V0 _ _ _ _ (upd H6 L (.dK (Ye (dG LE.nm (λl=>V.ref l.y) (ls.filter λl=>decide (l.nm≠nm))) (Sum.inr nm) (.ref y))));generalize upd H6 L (.dK (Ye (dG LE.nm (λl=>V.ref l.y) (ls.filter λl=>decide (l.nm≠nm))) (Sum.inr nm) (.ref y)))=H7 at l7 J b7 r7 t7 i7 f7 kb7 e7⊢;generalize QQ I 5 H6=x at o7 l7 r7 t7 i7 f7 kb7;generalize hls:(ls.filter λl=>decide (l.nm≠nm))=ls1 at l7 t7 i7 nq yn;obtain⟨dxt,L2',R2',krT,thT,hrl,_,oxt,_⟩:=id t7;refine⟨_,U,b,_,db,_,_,U,b7,(T 1),(T 40),U,xt,dxt,_,U,thT.obj,U,_,U,_,U,y,_,dy,_,_,U,e7,(T 2),(T 37),U,rest x 1 H7,xt,_,n,nm,p.an,U,t7.thf,hn,UI.mpr (by rw[zg];exact nq),λH8 ht _=>?_⟩;obtain⟨t8,k8⟩:=gA.of oxt ⟨_,thT.obj⟩ ht;have b8:=k8 _ _ b7 (.inl (by rw[o7];decide));have o8:QQ x 1 H7 b=0:=by rw[Qm b7];exact o7
    have r8:=r7.step k8;have l8:=l7.step k8;have i8:=i7.step k8;have f8:=f7.step k8;have kb8:=kb7.trans (KB.of k8 ∅ ∅);generalize QQ x 1 H7=N at o8 l8 r8 t8 i8 f8 kb8;have hy8:(⟨nm,y,p⟩:LE)∈ls1++[⟨nm,y,p⟩]:=qy _ (qt.mpr rfl);have lt8:=(l8.at_ _ hy8).1;obtain⟨dy8,fy8,ey8⟩:=lt8.let.at
    obtain⟨Fi,ix,oxi,oFi⟩:=id i8;obtain⟨dxi,E1,B1,exi⟩:=ix.obj;refine⟨_,U,b,_,db,_,_,U,b8,(T 1),(T 50),U,xi,dxi,_,U,exi,U,_,U,_,U,y,dy8,_,U,ey8,U,y,_,_,_,_,_,U,lt8.let,j.g,λlw H9 nlw sx hk e9=>?_⟩;obtain⟨l9,k9⟩:=l8.words hy8 sx hk;have b9:=k9 _ _ b8 (.inl (by rw[o8];decide));have o9:QQ N 6 H8 b=0:=by rw[Qm b8];exact o8
    have r9:=r8.step k9;have t9:=t8.step k9;have i9:=i8.step k9;have f9:=f8.step k9;have kb9:=kb8.trans (KB.of k9 ∅ ∅);generalize QQ N 6 H8=O at o9 l9 r9 t9 i9 f9 kb9;obtain⟨Fi9,ix9,oxi9,oFi9⟩:=id i9;refine⟨xi,lw,_,WI,n,Fi9,nm,_,U,ix9,hn,(by rw[zg];exact nq),e9,j.wi,j.wl,λH10 Fi' ix' kF hF=>?_⟩;obtain⟨i10,s⟩:=g6.own' ix9 oxi9 oFi9 ix' kF hF;have F:=s _ _ b9 (.inl (by rw[o9];decide));have o10:QQ O 2 H9 b=0:=by rw[Qm b9];exact o9
    have r10:=r9.step s;have l10:=l9.step s;have t10:=t9.step s;have f10:=f9.step s;have R:=kb9.trans (KB.of s ∅ ∅);generalize QQ O 2 H9=B at o10 l10 r10 t10 i10 f10 R;obtain⟨X,D10,kd10,Y,_,_⟩:=id r10;obtain⟨Ff,ff,oxf,oFf⟩:=id f10;obtain⟨dxf,X1,T1,N1,wM⟩:=ff.obj;have B10:xq a H10 B b db xr L xt xi xf es (ls1++[⟨nm,y,p⟩]) (L2.without bx nm) mk WI W M (n+1):=⟨F,o10,r10,l10,by rw[qE];exact t10,by rw[qE];exact i10,⟨Ff,ff.up,oxf,oFf⟩⟩;refine⟨_,U,b,_,db,_,_,U,F,(T 1),(T 16),U,xf,dxf,_,U,wM,U,_,U,_,U,b,_,db,_,_,U,F,(T 1),(T 23),U,xr,X,_,U,Y.obj,U,_,U,V1,λq11 H11 n11 s11 e11=>⟨xr,X,D10,kd10,es,q11,[nm,Zp],.str ZZ,U,Y.same s11,(by intro z;cases z),e11,λH12 s12=>?_⟩⟩;rw[j.pl];have S12:=s11.trans s12;refine⟨_,U,b,db,_,U,S12 _ _ F,U,_,U,_,b,db,xr,L,xt,xi,xf,es,_,_,mk,WI,W,M,n+1,nm,U,B10.quiet S12,j.mk_,j.few,λlm H13 nl s13' e13=>?_⟩;have G:=S12.trans s13';have B13:=B10.quiet G;have wn:¬nm∈(L2.without bx nm).map (·.1):=λhm=>by
     obtain⟨r,hr',e⟩:=qw.mp hm;exact qH (qX.mp hr').2 e
    refine⟨xf,lm,_,mk,W,M,n,Ff,nm,fo,_,U,ff.same G,hn,UI.mpr wn,j.fw,e13,j.mm,λH14 Ff' fo' kG hG=>?_⟩;obtain⟨f14,k14⟩:=wQ.own' (own:=QQ B 7 H10) (ff.same G) (by rw[Qm wM];exact oxf) (λc hc=>by obtain⟨kvs,e⟩:=ff.kind hc;rw[Qm e];exact oFf c hc) fo' kG hG;subst hls;exact kN rfl y H14 _ (B13.fold f14 k14) ((R.trans (KB.same 7 G)).trans (KB.of k14 ∅ ∅))
  refine⟨_,(Qd (QG (Y0 (W4 hu (pv 1) (Ql (pv 0) U))) (Qe (Qw (T.me (pv 0) (T 1) (T 60) (C4 T) (zj (pv 1) Qg)))) Qq) f),?_⟩;by_cases hm:nm∈ls.map LE.nm
  .obtain⟨le,hle,rfl⟩:=qw.mp hm;refine⟨_,U,_,U,b,_,db,_,_,U,h.e,(T 1),(T 15),U,L,some (.ref le.y),U,.inl ⟨_,Sum.inr le.nm,.inl h.l.e,U,(Q9 (g:=λl=>V.ref l.y) h.l.nd hle).symm⟩,?_⟩;refine⟨_,U,QT ⟨_,U,b,db,_,U,h.e,U,_,U,own,b,db,xr,L,xt,xi,xf,es,ls,bx,mk,WI,W,M,n,le.nm,U,h,hm,(v _).mpr hm,λH' d m s=>sp1 H' d m s⟩⟩
  .refine⟨_,U,_,U,b,_,db,_,_,U,h.e,(T 1),(T 15),U,L,none,U,.inl ⟨_,Sum.inr nm,.inl h.l.e,U,(UJ hm).symm⟩,?_⟩;have d:(ls.filter λl=>decide (l.nm≠nm))=ls:=zZ.mpr λl hl=>qx λe=>hm (qw.mpr ⟨l,hl,e⟩);have q2:L2.without bx nm=bx:=zZ.mpr λr hr'=>qx λe=>hm ((v _).mp (qw.mpr ⟨r,hr',e⟩));exact⟨_,U,QC (sp1 H own (by rw[d,q2];exact h) ⟨λc o e _=>e,λc o _ _=>rfl⟩)⟩
def VB:Dd->qg
 |.put nm _=>[nm,ZJ]
 |.place nm _=>[nm,Zp]
 |.mark nm y _=>[nm,Zg,y]
 |.drop nm=>[nm,Zk]
inductive RK(vs:qa V)(H:Hp)(Q:VK)(E:XK):Prop
 |mk:∀(q:qd)(d:Dd),vs=[.ref q]->gC H q d->(∀k H',H k=none->Qi H H'->H' k=some (.tup ((VB d).map V.str))->Q (.ref k) H')->RK vs H Q E
inductive RH(vs:qa V)(H:Hp)(Q:VK)(E:XK):Prop
 |mk:∀(q:qd)(c:Int)(h:qc)(r:qa V),vs=[.ref q]->H q=some (.tup (.int c::.str h::r))->(∀k H',H k=none->Qi H H'->H' k=some (.tup [.int c,.str h])->Q (.ref k) H')->RH vs H Q E
theorem S2(T:Txt P w K mg base a fd):T.k jg 1 16 RK:=by
 refine T.ok 16 (λc A outer st H vs Q E f h=>?_)
 .obtain⟨q,d,rfl,hd,k⟩:=h;refine⟨_,(Qd (QG (Qx Uq (Qt QA (pv 0) Qj) Qk) (Qe (Qp (YV (Qf (Qt QA (pv 0) Qj) (Qf Qk (Qf (Qt QA (pv 0) Qj) Qu)))))) Qq)
   (Qe (Qp (YV (Qf (Qt QA (pv 0) Qj) (Qf (Qt QA (pv 0) Qj) Qu)))))),?_⟩
  cases hd with
  |put e g=>
   exact⟨_,U,q,_,_,_,U,U,jj.of e,QF (j:=0) rfl,U,_,U,uj ∅ ⟨_,U,q,_,_,_,U,U,jj.of e,QF (j:=1) rfl,_,U,q,_,_,_,U,U,jj.of e,QF (j:=0) rfl,V1,λx H' nx s' b=>k x H' nx s' b⟩⟩
  |place e=>
   exact⟨_,U,q,_,_,_,U,U,jj.of e,QF (j:=0) rfl,U,_,U,uj ∅ ⟨_,U,q,_,_,_,U,U,jj.of e,QF (j:=1) rfl,_,U,q,_,_,_,U,U,jj.of e,QF (j:=0) rfl,V1,λx H' nx s' b=>k x H' nx s' b⟩⟩
  |mark e=>
   exact⟨_,U,q,_,_,_,U,U,jj.of e,QF (j:=0) rfl,U,_,U,Rb ⟨_,U,q,_,_,_,U,U,jj.of e,QF (j:=1) rfl,_,U,q,_,_,_,U,U,jj.of e,QF (j:=2) rfl,H0,λx H' nx s' b=>k x H' nx s' b⟩⟩
  |drop e=>
   exact⟨_,U,q,_,_,_,U,U,jj.of e,QF (j:=0) rfl,U,_,U,uj ∅ ⟨_,U,q,_,_,_,U,U,jj.of e,QF (j:=1) rfl,_,U,q,_,_,_,U,U,jj.of e,QF (j:=0) rfl,V1,λx H' nx s' b=>k x H' nx s' b⟩⟩
theorem SV(T:Txt P w K mg base a fd):T.k jg 1 13 RH:=by
 refine T.ok 13 (λb A outer st H vs Q E f h=>?_)
 .obtain⟨q,c,h,r,rfl,e,k⟩:=h;refine⟨_,(Qe (Qp (YV (Qf (Qt QA (pv 0) Qj) (Qf (Qt QA (pv 0) Qj) Qu))))),?_⟩;exact⟨_,U,q,_,_,_,U,U,jj.of e,QF (j:=0) rfl,_,U,q,_,_,_,U,U,jj.of e,QF (j:=1) rfl,V1,λx H' nx s' d=>k x H' nx s' d⟩
def Oq(u:qd):Dd->qa V
 |.put nm _=>[.str ZJ,.str nm,.ref u]
 |.place nm a=>[.str Zp,.str nm,.str a]
 |.mark nm y on=>[.str Zg,.str nm,.str y,.bl on]
 |.drop nm=>[.str Zk,.str nm]
def UA(u:qd):Dd->V
 |.put _ _=>.ref u
 |.place _ a=>.str a
 |.mark _ _ on=>.bl on
 |.drop nm=>.str nm
def TN:Dd->qc
 |.put _ _=>ZJ
 |.place _ _=>Zp
 |.mark _ _ _=>Zg
 |.drop _=>Zk
structure DU(H:Hp)(q u:qd)(d:Dd):Prop where
 e:H q=some (.tup (Oq u d))
 p:∀nm p,d=.put nm p->H u=some (.tup [.str p.s,.str p.t,.str p.b,.int p.d,.str p.an])
theorem DU.at{q:qd}{d:Dd}(h:DU H q u d):gC H q d:=by
 cases d with
 |put nm p=>exact .put h.e (h.p nm p rfl)
 |place nm a=>exact .place h.e
 |mark nm y on=>exact .mark h.e
 |drop nm=>exact .drop h.e
theorem GR(u:qd)(d:Dd):xx (Oq u d) 0=some (V.str (TN d)):=by cases d<;>exact QF (j:=0) rfl
theorem GQ(u:qd)(d:Dd):xx (Oq u d) 1=some (V.str d.nm):=by cases d<;>exact QF (j:=1) rfl
theorem TM(u:qd)(d:Dd):xx (Oq u d) (-1)=some (UA u d):=by cases d<;>rfl
def W2:Dd->Bool
 |.put _ _=>true
 |_=>false
theorem Gh(d:Dd):decide (TN d=ZJ)=W2 d:=by
 cases d with
 |put nm p=>show decide (ZJ=ZJ)=true;decide +kernel
 |place nm a=>show decide (Zp=ZJ)=false;decide +kernel
 |mark nm y on=>show decide (Zg=ZJ)=false;decide +kernel
 |drop nm=>show decide (Zk=ZJ)=false;decide +kernel
theorem HR(d:Dd):VB d≠[]:=by cases d<;>exact λz=>nomatch z
theorem OS.kept{nm:qc}{p:LD}{a:qc}{b:Bool}(h:OS H es nm p u a b WI W M)(k:∀c xs,H c=some (.tup xs)->H' c=some (.tup xs)):OS H' es nm p u a b WI W M:=
 ⟨h.mk_,h.few,h.pt,k _ _ h.tu,h.g,h.wi,h.wl,h.d0,h.d1,h.pl,h.fw,h.mm⟩
inductive L5(a:jk)(vs:qa V)(H:Hp)(Q:VK)(E:XK):Prop
 |mk:∀(own:qd->Nat)(b db xr L xt xi xf:qd)(es:qa Ent)(ls:qa LE)(bx:Rows)(mk:qc->qg)(WI W M:qg)(n:Nat)(x:qd)(c:Int)(hd:qc)(num:Int)(q u:qd)(d:Dd),vs=[.ref b,.ref x]->xq a H own b db xr L xt xi xf es ls bx mk WI W M n->H x=some (.tup [.int c,.str hd,.int num,.ref q])->DU H q u d->es.length<=900->(∀m,m∈bx.map (·.1)↔m∈ls.map LE.nm) ->
   (U8 es (VB d,c,hd,UA u d)=false->∀H' own',xq a H' own' b db xr L xt xi xf (UT es (VB d,c,hd,UA u d)) ls bx mk WI W M n->KB own own' H H'->Q .non H') ->
   (U8 es (VB d,c,hd,UA u d)=true->∀nm p,d=.put nm p->∃fo dr,OS H (UT es (VB d,c,hd,UA u d)) nm p u fo dr WI W M/\n<40 /\
     (dr=true->∀H' own',xq a H' own' b db xr L xt xi xf (UT es (VB d,c,hd,UA u d)) (ls.filter λl=>decide (l.nm≠nm)) (L2.without bx nm) mk WI W M n->KB own own' H H'->Q .non H') /\
     (dr=false->∀y H' own',xq a H' own' b db xr L xt xi xf (UT es (VB d,c,hd,UA u d)) ((ls.filter λl=>decide (l.nm≠nm))++[⟨nm,y,p⟩]) (L2.without bx nm++[(nm,fo)]) (YS mk nm (dd (W5 (UT es (VB d,c,hd,UA u d)) nm))) WI W M (n+1)->KB own own' H H'->Q .non H')) ->
   (U8 es (VB d,c,hd,UA u d)=true->W2 d=false->dOk W M d/\(d.nm∈ls.map LE.nm->∀H' own',xq a H' own' b db xr L xt xi xf (UT es (VB d,c,hd,UA u d)) (chL ls d) (chB bx d) (chM mk d) WI W M n->KB own own' H H'->Q .non H') /\
     (¬d.nm∈ls.map LE.nm->∀H' own',xq a H' own' b db xr L xt xi xf (UT es (VB d,c,hd,UA u d)) ls bx mk WI W M n->KB own own' H H'->Q .non H'))->L5 a vs H Q E
theorem Pz(T:Txt P w K mg base a fd):T.k jg 9 61 (L5 a):=by
 refine T.ok 61 (λcdv A outer st H vs Q E hr h=>?_)
 .obtain⟨own,b,db,xr,L,xt,xi,xf,es,ls,bx,mk,WI,W,M,n,x,c,hd,num,q,u,d,rfl,h,hx,t,B,r,k0,k1,k2⟩:=h;have hu:=Yx hr;refine⟨_,(Qd (Qv (i:=2) (sc 61).nd (Qt QA (pv 1) Qj))
   (Qd (QG (Yl (Yk (T.me (Ql (pv 0) U) (T 12) (T 108) (PJ T) (zj (T.cl (S2 T) (zj (pv 2) Qg)) (zj (T.cl (SV T) (zj (pv 1) Qg)) (zj (Qt QA (pv 2) (MQ DY Qj)) Qg)))))) (Qe Hm) Qq)
   (Qe (QG (Qx Uq (Qt QA (pv 2) Qj) Qk) (Qe (Qw (T.me (pv 0) (T 1) (T 119) (S7 T) (zj (Qt QA (pv 2) Qj) Qg)))) (Qe (QG (Y0 (W4 hu (Qt QA (pv 2) Qj) (Ql (pv 0) U))) (Qe (Qw (T.me (pv 0) (T 1) (T 121) (S8 T) (zj (pv 2) Qg)))) Qq)))))),?_⟩
  obtain⟨C,D,kd,F,R,oF⟩:=id h.r;refine⟨_,U,x,_,_,_,U,U,jj.of hx,QF (j:=3) rfl,?_⟩;refine⟨_,U,b,_,db,_,_,U,h.e,(T 1),(T 23),U,xr,C,_,U,F.obj,U,_,U,q,d,U,t.at,λkp H1 nk s1 ek=>?_⟩;refine⟨_,U,x,c,hd,_,U,s1 _ _ hx,λsp S ns s2 X=>?_⟩;have s:=s1.trans s2;have Y:QQ own 7 H xr=0:=by rw[Qm F.obj];exact R
  have Z:∀c,FP D kd c->QQ own 7 H c=4:=λc hc=>by obtain⟨kvs,e⟩:=F.fp hc;rw[Qm e];exact oF c hc
  have v:=h.quiet s;refine⟨_,U,_,U,q,_,_,_,U,U,jj.of (s _ _ t.e),TM u d,xr,C,D,kd,es,kp,sp,VB d,c,hd,UA u d,U,F.same s,B,HR d,s2 _ _ ek,X,λkd' G rg' kk hF=>⟨_,U,?_⟩⟩;obtain⟨r3,k3⟩:=uH.own' (F.same s) Y Z rg' kk hF;have o:xq a G (QQ (QQ own 7 H) 4 S) b db xr L xt xi xf (UT es (VB d,c,hd,UA u d)) ls bx mk WI W M n:=⟨k3 _ _ v.e (.inl (by rw[v.o];decide)),by rw[Qm v.e];exact v.o,r3,v.l.step k3,v.t.step k3,v.i.step k3,v.f.step k3⟩;have k:KB own (QQ (QQ own 7 H) 4 S) H G:=(KB.same 7 s).trans (KB.of k3 ∅ ∅);have kt:∀c xs,H c=some (.tup xs)->G c=some (.tup xs):=λc xs e=>k.k _ _ e (.inr (.inr rfl));generalize QQ (QQ own 7 H) 4 S=m at o k;have N:=kt _ _ t.e
  cases hk:U8 es (VB d,c,hd,UA u d) with
  |false=>exact QT (k0 hk G m o k)
  |true=>
   refine QC ⟨_,U,q,_,_,_,U,U,jj.of N,GR u d,U,_,U,?_⟩;rw[Yz,Gh]
   cases O:W2 d with
   |true=>
    cases d with
    |put nm p=>
     obtain⟨fo,dr,hI,hn,j1,j2⟩:=k1 hk nm p rfl;exact QT ⟨_,U,b,db,_,U,o.e,U,_,U,q,_,_,_,U,U,jj.of N,GQ u (.put nm p),m,b,db,xr,L,xt,xi,xf,_,ls,bx,mk,WI,W,M,n,nm,p,u,fo,dr,U,o,hI.kept kt,hn,r,λz H' f I J=>j1 z H' f I (k.trans J),λz y H' f I J=>j2 z y H' f I (k.trans J)⟩
    |place nm fo=>cases O
    |mark nm y on=>cases O
    |drop nm=>cases O
   |false=>
    obtain⟨dk,j1,j2⟩:=k2 hk O;by_cases hm:d.nm∈ls.map LE.nm
    .obtain⟨le,hle,en⟩:=qw.mp hm;refine QC ⟨_,U,q,_,_,_,U,U,jj.of N,GQ u d,_,U,b,_,db,_,_,U,o.e,(T 1),(T 15),U,L,some (.ref le.y),U,.inl ⟨_,Sum.inr d.nm,.inl o.l.e,U,by rw[<-en];exact(Q9 (g:=λl=>V.ref l.y) o.l.nd hle).symm⟩,_,U,QT ?_⟩;exact⟨_,U,b,db,_,U,o.e,U,_,U,m,b,db,xr,L,xt,xi,xf,_,ls,bx,mk,WI,W,M,n,q,d,U,o,t.at.tups kt,dk,hm,(r _).mpr hm,λH' f I J=>j1 hm H' f I (k.trans J)⟩
    .refine QC ⟨_,U,q,_,_,_,U,U,jj.of N,GQ u d,_,U,b,_,db,_,_,U,o.e,(T 1),(T 15),U,L,none,U,.inl ⟨_,Sum.inr d.nm,.inl o.l.e,U,(UJ hm).symm⟩,_,U,QC ?_⟩;exact j2 hm G m o k
def hS:qc:="abcdefghijklmnopqrstuvwxyz"
structure QN(x:qc):Prop where
 lo:(1:Int)<=(x.length:Int)
 hi:(x.length:Int)<=8
 gz:(x.cps.toList.all λc=>decide (c∈hS.cps.toList))=true
structure G6(d:Dd):Prop where
 n:isW d.nm=true/\d.nm.length<=1000
 p:∀nm p,d=.put nm p->WU p.s p.t p.b p.d p.an
 f:∀nm fo,d=.place nm fo->isW fo=true/\fo.length<=1000
 m:∀nm y on,d=.mark nm y on->isW y=true/\y.length<=1000
inductive FF(vs:qa V)(H:Hp)(Q:VK)(E:XK):Prop
 |mk:∀(x:qc),vs=[.str x]->QN x->(∀H',Qi H H'->Q (.bl true) H')->FF vs H Q E
inductive Cm(vs:qa V)(H:Hp)(Q:VK)(E:XK):Prop
 |mk:∀(u:qd)(p:LD),vs=[.ref u]->H u=some (.tup [.str p.s,.str p.t,.str p.b,.int p.d,.str p.an])->WU p.s p.t p.b p.d p.an->(∀H',Qi H H'->Q (.bl true) H')->Cm vs H Q E
inductive Cz(vs:qa V)(H:Hp)(Q:VK)(E:XK):Prop
 |mk:∀(i:Int),vs=[.int i]->1<=i->Q (.bl true) H->Cz vs H Q E
inductive FK(vs:qa V)(H:Hp)(Q:VK)(E:XK):Prop
 |mk:∀(q u:qd)(d:Dd),vs=[.ref q]->DU H q u d->G6 d->(∀H',Qi H H'->Q (.bl true) H')->FK vs H Q E
inductive Ci(vs:qa V)(H:Hp)(Q:VK)(E:XK):Prop
 |mk:∀(x q u:qd)(c n:Int)(hd:qc)(d:Dd),vs=[.ref x]->H x=some (.tup [.int c,.str hd,.int n,.ref q])->1<=c->1<=n->QN hd->DU H q u d->G6 d->(∀H',Qi H H'->Q (.bl true) H')->Ci vs H Q E
theorem Ol(f g:qc)(n m:Int):PyData.eqv (.tuple [.str f,.int n]) (.tuple [.str g,.int m])=(decide (f=g)&&decide (n=m)):=by
 have e:PyData.eqv (.tuple [.str f,.int n]) (.tuple [.str g,.int m])=(decide (f=g)&&(decide (n=m)&&true)):=rfl;rw[e,Bool.and_true]
theorem X9(n:Int)(h:kK f):SeqAt.shaped (.tuple [.str f,.int n])=true:=by
 unfold SeqAt.shaped;have:=(Gy (xs:=[f]) λy a=>by rw[qt.mp a];exact h).1;have e:(PyData.canLay0 (.str f)&&true)=true:=this;rw[Bool.and_true] at e;have b:PyData.canLay0 (.tuple [.str f,.int n])=(PyData.canLay0 (.str f)&&(true&&true)):=rfl;rw[b,e];rfl
theorem Y8(h:(x.cps.toList.all λc=>decide (c<128))=true:=by decide +kernel):kK x:=λc hc=>qH (zi.mp h c hc)
theorem Vc:∀d:Dd,kK (TN d)
 |.put _ _=>Y8 (x:=ZJ)
 |.place _ _=>Y8 (x:=Zp)
 |.mark _ _ _=>Y8 (x:=Zg)
 |.drop _=>Y8 (x:=Zk)
theorem Ld{g:qc}{b:Bool}{A B:Prop}(h:decide (f=g)=false)(k:B):if (decide (f=g)&&b)=true then A else B:=by rw[h];exact QC k
theorem VR{g:qc}{n m:Int}(h0:σ[1]?=some (some (.ref p)))(a:H p=some (.tup [.str f,.int n]))(hf:kK f)(b:kK g)(k:∀H',Qi H H'->Q (.bl (decide (f=g)&&decide (n=m))) H') :
 tOp (bu K) (Se 1) (Sf (Cb (tC (.str g)) (Cb (tC (.int m)) Il))) σ H Q:=by
 refine⟨_,h0,V1,λq c=>?_⟩;have s1:Qi H (upd H q (.tup [.str g,.int m])):=Qi.zq c;refine⟨_,_,.tup (jj.of (s1 _ _ a)) (.cons (.str f) (.cons (.int n) .nil)),.tup (jj.of Qb) (.cons (.str g) (.cons (.int m) .nil)),X9 n hf,X9 m b,?_⟩;rw[Ol];exact k _ s1
theorem at0{x:V} :xx (x::xs) 0=some x:=QF (j:=0) rfl
theorem at1{x y:V} :xx (x::y::xs) 1=some y:=QF (j:=1) rfl
theorem at2{x y z:V} :xx (x::y::z::xs) 2=some z:=QF (j:=2) rfl
theorem at3{x y z u:V} :xx (x::y::z::u::xs) 3=some u:=QF (j:=3) rfl
def b5:Dd->Int
 |.put _ _=>3
 |.place _ _=>3
 |.mark _ _ _=>4
 |.drop _=>2
theorem HQ(u:qd)(d:Dd):((Oq u d).length:Int)=b5 d:=by cases d<;>rfl
theorem DU.mono{q:qd}{d:Dd}(h:DU H q u d)(s:∀c xs,H c=some (.tup xs)->H' c=some (.tup xs)):DU H' q u d:=⟨s _ _ h.e,λnm p e=>s _ _ (h.p nm p e)⟩
theorem C1(T:Txt P w K mg base a fd):T.k jg 2 8 FF:=by
 refine T.ok 8 (λc A outer s H vs Q E d h=>?_)
 .obtain⟨x,rfl,b,k⟩:=h;refine⟨_,(Qe (Qp (Up (Qs QR rfl (T 6) boot_isinstance (zj (pv 0) (zj (YF (v:=.ty "str") rfl (T 9) boot_str rfl) Qg))) (Up (Gj Wf Wf Qj (Qs Ux rfl (T 3) zx (zj (pv 0) Qg)) (Vu rfl (T 53))) (Vn (T.cl (Xm T) (zj (pv 0) (zj (Vu rfl (T 52)) Qg)))))))),?_⟩;have e:=b.hi;refine⟨_,U,_,_,_,_,_,U,U,.str x,Kh,_,U,QT ⟨_,U,x,U,Yd (⋯),_,_,U,U,_,U,?_⟩⟩;rw[qx b.lo];refine QT ⟨_,_,U,U,_,U,?_⟩;rw[qx b.hi];exact QT ⟨_,U,x,hS,U,⋯,λH' s'=>by rw[b.gz];exact k H' s'⟩
theorem IE(T:Txt P w K mg base a fd):T.k jg 8 9 Cm:=by
 refine T.ok 9 (λb A outer s H vs Q E d h=>?_)
 .obtain⟨u,p,rfl,c,g,k⟩:=h;refine⟨_,(Qd (SJ (λ_ _ z=>z) (Qe (Qw (T.cl (WY T) (zj (pv 0) Qg)))))
   (Qe (Qp Uz))),?_⟩
  exact⟨_,U,u,_,_,_,_,_,U,c,g,λx H' nx s' _=>k H' s'⟩
theorem AM(T:Txt P w K mg base a fd):T.k jg 2 11 Cz:=by
 refine T.ok 11 (λb A outer s H vs Q E d h=>?_)
 .obtain⟨i,rfl,c,k⟩:=h;refine⟨_,(Qe (Qp (Up (T.cl (Kd T) (zj (pv 0) Qg)) (Vn (WG bF (pv 0) Qj))))),?_⟩;refine⟨_,U,i,U,_,U,QT ⟨_,U,_,_,U,U,?_⟩⟩;rw[qx c];exact k
theorem Nm(T:Txt P w K mg base a fd):T.k jg 9 10 FK:=by
 refine T.ok 10 (λx A outer s H vs Q E z h=>?_)
 .obtain⟨q,u,d,rfl,o,j,k⟩:=h;have b:=z.units;refine⟨_,(Qd (QG (PW.pt (Vh (Yl (Yk (Qs QR rfl (T 6) boot_isinstance (zj (pv 0) (zj (YF (v:=.ty "tuple") rfl (T 43) boot_tuple rfl) Qg))))) (Vh (Qx Hu (Qs QU rfl (T 3) zx (zj (pv 0) Qg)) Qj) (Vh (Yl (Yk (Qs QR rfl (T 6) boot_isinstance (zj (Qt QA (pv 0) Qj) (zj (YF (v:=.ty "str") rfl (T 9) boot_str rfl) Qg))))) (UQ (Yl (Yk (T.cl (Vw T) (zj (Qt QA (pv 0) Qj) Qg))))))))) (Qe (Qp Uz)) Qq)
   (Qd (Qv (i:=1) (sc 10).nd (YV (Qf (Qt QA (pv 0) Qj) (Qf (Qs QU rfl (T 3) zx (zj (pv 0) Qg)) Qu))))
   (Qd (QG (Qx (Bu b) (pv 1) (UY (Qf Qk (Qf Qj Qu)))) (Qe (Qp (T.cl (IE T) (zj (Qt QA (pv 0) Qj) Qg)))) Qq)
   (Qd (QG (Qx (Bu b) (pv 1) (UY (Qf Qk (Qf Qj Qu)))) (Qe (Qp (T.cl (Vw T) (zj (Qt QA (pv 0) Qj) Qg)))) Qq)
   (Qd (QG (Qx (Bu b) (pv 1) (UY (Qf Qk (Qf Qj Qu)))) (Qe (Qp (Up (T.cl (Vw T) (zj (Qt QA (pv 0) Qj) Qg)) (Vn (Qs QR rfl (T 6) boot_isinstance (zj (Qt QA (pv 0) Qj) (zj (YF (v:=.ty "bool") rfl (T 54) boot_bool rfl) Qg))))))) Qq)
   (Qe (Qp (WG (Bu b) (pv 1) (UY (Qf Qk (Qf Qj Qu))))))))))),?_⟩
  have e:=o.e;refine⟨_,U,_,_,_,_,_,U,U,.tup e,NO,_,U,QC ⟨_,U,q,_,U,.inr (jj.of e),_,_,U,U,_,U,?_⟩⟩;rw[HQ,show decide (b5 d<2)=false by cases d<;>rfl];refine QC ⟨_,U,q,_,_,_,U,U,jj.of e,GR u d,_,_,_,_,_,U,U,.str _,Kh,_,U,QC ⟨_,U,q,_,_,_,U,U,jj.of e,GQ u d,.inl ⟨_,U,j.n.2,λH1 s1=>⟨_,U,?_⟩⟩⟩⟩;rw[j.n.1];have r:=s1 _ _ e;refine QC ⟨_,U,q,_,_,_,U,U,jj.of r,GR u d,_,U,q,_,U,.inr (jj.of r),V1,λf D F s2 g=>?_⟩;rw[HQ] at g;have n:=s1.trans s2;refine VR (K:=K) rfl g (Vc d) Y8 λG s3=>⟨_,U,?_⟩;have c:=n.trans s3;have l:=c _ _ e
  cases d with
  |put nm p=>exact QT ⟨_,U,q,_,_,_,U,U,jj.of l,at2,u,p,U,c _ _ (o.p nm p rfl),j.p nm p rfl,λH' s'=>k _ (c.trans s')⟩
  |place nm m=>
   refine Ld (f:=Zp) ∅ (VR (K:=K) rfl (s3 _ _ g) (Vc (.place nm m)) Y8 λt s4=>⟨_,U,?_⟩);obtain⟨f1,f2⟩:=j.f nm m rfl;exact QT ⟨_,U,q,_,_,_,U,U,jj.of (s4 _ _ l),at2,.inl ⟨_,U,f2,λH' s'=>by rw[f1];exact k _ ((c.trans s4).trans s')⟩⟩
  |mark nm y on=>
   refine Ld (f:=Zg) ∅ (VR (K:=K) rfl (s3 _ _ g) (Vc (.mark nm y on)) Y8 λt s4=>⟨_,U,?_⟩);refine Ld (f:=Zg) ∅ (VR (K:=K) rfl (s4 _ _ (s3 _ _ g)) (Vc (.mark nm y on)) Y8 λB s5=>⟨_,U,?_⟩);obtain⟨f1,f2⟩:=j.m nm y on rfl;refine QT ⟨_,U,q,_,_,_,U,U,jj.of (s5 _ _ (s4 _ _ l)),at2,.inl ⟨_,U,f2,λC m=>⟨_,U,?_⟩⟩⟩;rw[f1];exact QT ⟨_,U,q,_,_,_,U,U,jj.of (m _ _ (s5 _ _ (s4 _ _ l))),at3,_,_,_,_,_,U,U,.bl on,bP,k _ (((c.trans s4).trans s5).trans m)⟩
  |drop nm=>
   refine Ld (f:=Zk) ∅ (VR (K:=K) rfl (s3 _ _ g) (Vc (.drop nm)) Y8 λt s4=>⟨_,U,?_⟩);refine Ld (f:=Zk) ∅ (VR (K:=K) rfl (s4 _ _ (s3 _ _ g)) (Vc (.drop nm)) Y8 λB s5=>⟨_,U,?_⟩);exact Ld (f:=Zk) ∅ (VR (K:=K) rfl (s5 _ _ (s4 _ _ (s3 _ _ g))) (Vc (.drop nm)) Y8 λC m=>k _ (((c.trans s4).trans s5).trans m))
theorem IC(T:Txt P w K mg base a fd):T.k jg 10 12 Ci:=by
 refine T.ok 12 (λb A outer s H vs Q E l h=>?_)
 .obtain⟨x,q,u,c,n,hd,d,rfl,e,hc,f,g,i,j,k⟩:=h;refine⟨_,(Qd (QG (PW.pt (Vh (Yl (Yk (Qs QR rfl (T 6) boot_isinstance (zj (pv 0) (zj (YF (v:=.ty "tuple") rfl (T 43) boot_tuple rfl) Qg))))) (UQ (Qx We (Qs QU rfl (T 3) zx (zj (pv 0) Qg)) Qj)))) (Qe (Qp Uz)) Qq)
   (Qe (Qp (Up (T.cl (AM T) (zj (Qt QA (pv 0) Qj) Qg)) (Up (T.cl (C1 T) (zj (Qt QA (pv 0) Qj) Qg)) (Up (T.cl (AM T) (zj (Qt QA (pv 0) Qj) Qg)) (Vn (T.cl (Nm T) (zj (Qt QA (pv 0) Qj) Qg))))))))),?_⟩
  refine⟨_,U,_,_,_,_,_,U,U,.tup e,NO,_,U,QC ⟨_,U,x,_,U,.inr (jj.of e),U,_,U,QC ?_⟩⟩;refine⟨_,U,x,_,_,_,U,U,jj.of e,at0,c,U,hc,_,U,QT ⟨_,U,x,_,_,_,U,U,jj.of e,at1,hd,U,g,λH1 s1=>⟨_,U,QT ⟨_,U,x,_,_,_,U,U,jj.of (s1 _ _ e),at2,n,U,f,_,U,QT ⟨_,U,x,_,_,_,U,U,jj.of (s1 _ _ e),at3,q,u,d,U,i.mono (λc xs z=>s1 _ _ z),j,λm s2=>k _ (s1.trans s2)⟩⟩⟩⟩⟩
theorem WH:∀n:Nat,n<202->(Str.ofString (toString (n:Int))).length<=3/\1<=(Str.ofString (toString (n:Int))).length/\((Str.ofString (toString (n:Int))).cps.toList.all λc=>decide (c∈aZ.cps.toList))=true:=by decide +kernel
structure Lr where
 x:qd
 p:qd
 u:qd
 d:Dd
structure LC(H:Hp)(hd:qc)(i:Nat)(r:Lr):Prop where
 e:H r.x=some (.tup [.int ((i:Nat)+1:Int),.str hd,.int ((i:Nat)+1:Int),.ref r.p])
 du:DU H r.p r.u r.d
theorem LC.tups{r:Lr}(h:LC H hd i r)(k:∀c xs,H c=some (.tup xs)->H' c=some (.tup xs)):LC H' hd i r:=⟨k _ _ h.e,h.du.mono k⟩
def Kb(rs:qa Lr):Nat:=(rs.filter λr=>W2 r.d).length
def VC(hd:qc)(rs:qa Lr):qc:=hd++Str.ofString (toString ((Kb rs+1:Nat):Int))
def okN(hd:qc)(rs:qa Lr)(d:Dd):Prop:=W2 d=true->d.nm=VC hd rs
inductive K0(vs:qa V)(H:Hp)(Q:VK)(E:XK):Prop
 |mk:∀(x:qd)(c h d:V)(n:Int),vs=[.ref x]->H x=some (.tup [c,h,.int n,d])->Q (.int n) H->K0 vs H Q E
inductive CB(K:Frag)(vs:qa V)(H:Hp)(Q:VK)(E:XK):Prop
 |mk:∀(l:qd)(hd:qc)(rs:qa Lr),vs=[.str hd,.ref l]->zN K H l (rs.map λr=>V.ref r.x)->QN hd->rs.length<=63->(∀i r,rs[i]?=some r->LC H hd i r)->(∀H',Qi H H'->Q (.str (hd++Str.ofString (toString ((Kb rs+1:Nat):Int)))) H')->CB K vs H Q E
def vR(hd:qc)(sh:qd)(rs:qa Lr):qa (Key×V):=if rs=[] then [] else [(Sum.inr hd,.ref sh)]
structure X4(a:jk)(H:Hp)(l S sh:qd)(hd:qc)(rs:qa Lr):Prop where
 e:∃dl,H l=some (.ins (a 98) dl [(Zi,.str hd),(Zq,.ref S)])
 s:∃oa,H S=some (.jO oa (.dK (vR hd sh rs)))
 l:rs≠[]->H sh=some (.lst (rs.map λr=>V.ref r.x))
 r:∀i r,rs[i]?=some r->LC H hd i r
theorem X4.sx{S sh:qd}{rs:qa Lr}(h:X4 a H l S sh hd rs)(s:Qi H H'):X4 a H' l S sh hd rs:=
 ⟨let ⟨dl,e⟩:=h.e;⟨dl,s _ _ e⟩,(let ⟨o,e⟩:=h.s;⟨o,s _ _ e⟩),λn=>s _ _ (h.l n),λi r e=>(h.r i r e).tups λc xs q=>s _ _ q⟩
theorem X4.rd{S sh:qd}{rs:qa Lr}(h:X4 a H l S sh hd rs)(s:Qi H H'):Rd H' S (.dK (vR hd sh rs)):=.inr (let ⟨o,e⟩:=h.s;⟨o,s _ _ e⟩)
inductive Av(vs:qa V)(H:Hp)(Q:VK)(E:XK):Prop
 |mk:∀(l x q u:qd)(c n:Int)(hd:qc)(d:Dd),vs=[.ref l]->H l=some (.lst [.ref x])->H x=some (.tup [.int c,.str hd,.int n,.ref q])->1<=c->1<=n->QN hd->DU H q u d->G6 d->(∀H',Qi H H'->Q .non H')->Av vs H Q E
inductive FQ(K:Frag)(vs:qa V)(H:Hp)(Q:VK)(E:XK):Prop
 |mk:∀(x l p u:qd)(hd:qc)(rs:qa Lr)(d:Dd),vs=[.ref x,.ref l]->H x=some (.tup [.int ((rs.length:Nat)+1:Int),.str hd,.int ((rs.length:Nat)+1:Int),.ref p])->DU H p u d->zN K H l (rs.map λr=>V.ref r.x)->QN hd->rs.length<=62->(∀i r,rs[i]?=some r->LC H hd i r)->okN hd rs d->(∀H',Qi H H'->Q .non H')->FQ K vs H Q E
inductive FA(a:jk)(vs:qa V)(H:Hp)(Q:VK)(E:XK):Prop
 |mk:∀(x dx:qd)(hd:qc),vs=[.ref x,.str hd]->H x=some (.ins (a 98) dx [])->QN hd->(∀S H',SX x H H'->H' x=some (.ins (a 98) dx [(Zi,.str hd),(Zq,.ref S)])->H' S=some (.dK [])->H S=none->Q .non H')->FA a vs H Q E
inductive Fu(K:Frag)(a:jk)(vs:qa V)(H:Hp)(Q:VK)(E:XK):Prop
 |mk:∀(l S sh:qd)(hd:qc)(rs:qa Lr),vs=[.ref l,.str hd]->X4 a H l S sh hd rs->(∀z H',Qi H H'->zN K H' z (rs.map λr=>V.ref r.x)->Q (.ref z) H')->Fu K a vs H Q E
inductive KZ(vs:qa V)(H:Hp)(Q:VK)(E:XK):Prop
 |mk:∀(x:qd)(c:Int)(hd:qc)(n d:V),vs=[.ref x]->H x=some (.tup [.int c,.str hd,n,d])->(∀t H',Qi H H'->H' t=some (.tup [.int c,.str hd])->Q (.ref t) H')->KZ vs H Q E
inductive Fq(a:jk)(vs:qa V)(H:Hp)(Q:VK)(E:XK):Prop
 |mk:∀(l S sh pl x p u:qd)(hd:qc)(rs:qa Lr)(d:Dd),vs=[.ref l,.ref pl]->X4 a H l S sh hd rs->QN hd->rs.length<=60->H pl=some (.lst [.ref x])->H x=some (.tup [.int ((rs.length:Nat)+1:Int),.str hd,.int ((rs.length:Nat)+1:Int),.ref p])->DU H p u d->G6 d->okN hd rs d ->
   (∀t S' sh' fl H',Qi H H'->H S'=none->H sh'=none->H' t=some (.tup [.ref S',.ref fl])->H' S'=some (.dK [(Sum.inr hd,.ref sh')])->H' sh'=some (.lst (rs.map (λr=>V.ref r.x)++[.ref x]))->H' fl=some (.lst [.ref x])->Q (.ref t) H')->Fq a vs H Q E
inductive Fs(a:jk)(vs:qa V)(H:Hp)(Q:VK)(E:XK):Prop
 |mk:∀(l S sh pl x p u:qd)(hd:qc)(rs:qa Lr)(d:Dd),vs=[.ref l,.ref pl]->X4 a H l S sh hd rs->QN hd->rs.length<=60->H pl=some (.lst [.ref x])->H x=some (.tup [.int ((rs.length:Nat)+1:Int),.str hd,.int ((rs.length:Nat)+1:Int),.ref p])->DU H p u d->G6 d->okN hd rs d ->
   (∀fl S' sh' H',SX l H H'->H S'=none->H sh'=none->X4 a H' l S' sh' hd (rs++[⟨x,p,u,d⟩])->Q (.ref fl) H')->Fs a vs H Q E
inductive aX(a:jk)(vs:qa V)(H:Hp)(Q:VK)(E:XK):Prop
 |mk:∀(l S sh p u:qd)(hd:qc)(rs:qa Lr)(d:Dd),vs=[.ref l,.ref p]->X4 a H l S sh hd rs->QN hd->rs.length<=60->DU H p u d->G6 d->okN hd rs d ->
   (∀x S' sh' H',H x=none->SX l H H'->H S'=none->H sh'=none->X4 a H' l S' sh' hd (rs++[⟨x,p,u,d⟩])->Q (.ref x) H')->aX a vs H Q E
theorem SI{sh a:qd}{rs:qa Lr}:Ye (vR hd sh rs) (Sum.inr hd) (V.ref a)=[(Sum.inr hd,V.ref a)]:=by
 unfold vR;split
 .rfl
 .unfold Ye;simp
theorem CZ(T:Txt P w K mg base a fd):T.k jg 1 17 K0:=by
 refine T.ok 17 (λb A outer s H vs Q E f h=>?_)
 .obtain⟨x,c,h,d,n,rfl,e,q⟩:=h;refine⟨_,(Qe (Qp (Qt QA (pv 0) Qj))),?_⟩;exact⟨_,U,x,_,_,_,U,U,jj.of e,at2,q⟩
theorem AN(T:Txt P w K mg base a fd):T.k jg 1 18 (CB K):=by
 refine T.ok 18 (λd A outer s H vs Q E b h=>?_)
 .obtain⟨l,hd,rs,rfl,hS,f,g,c,k⟩:=h;refine⟨_,(Qd (W3 (sc:=Qr (sO 18)) (N:=(nn 18)) (i:=2) (fr:=[]) (wN rfl rfl) rfl rfl rfl (sc 18).nd U rfl (Yt (pv 1)) (λ_ _ _ _=>WA (Qx Uq (Qt (Xo K) (Qt (Xo K) (pv 0) Qj) Qj) Qk)) (λ_ _ _ _=>(pv 0)))
   (Qe (Qp (Qn Qh (pv 0) (Yn YX rfl (T 9) boot_str (zj (Qn Ur (Qs QU rfl (T 3) zx (zj (pv 2) Qg)) Qj) Qg)))))),?_⟩
  refine⟨_,U,l,U,⟨_,hS⟩,Wt (K:=K) (xs:=rs) (λr=>V.ref r.x) (λr=>W2 r.d) (λr=>V.ref r.x) (Yd (⋯)) hS (λr j Q' b s3 q=>?_) (λr j Q' b s3 _ q=>⟨_,U,q⟩) λD m=>?_⟩
  .obtain⟨i,n⟩:=List.mem_iff_getElem?.mp b;have at_:=c i r n;refine⟨_,U,r.x,_,_,_,U,U,jj.of (s3 _ _ at_.e),at3,r.p,_,_,_,U,U,jj.of (s3 _ _ at_.du.e),GR _ _,U,_,U,?_⟩;rw[Yz,Gh];exact q
  .have n:Kb rs<=rs.length:=zh _ _;obtain⟨o,p,_⟩:=WH (Kb rs+1) ⋯;have e:((((rs.filter λr=>W2 r.d).map λr=>V.ref r.x).length:Nat):Int)+1=((Kb rs+1:Nat):Int):=by rw[ql];rfl
   refine⟨_,U,_,U,D,_,U,.inl (zN.of Qb),_,_,U,U,_,U,?_,hd,_,U,U,?_,?_⟩
   .rw[e,j8];exact jh (yq _) ⋯
   .rw[e];have:=f.hi;exact Yd (⋯)
   .rw[e];exact k _ (Qi.zq m)
theorem El(T:Txt P w K mg base a fd):T.k jg 11 19 Av:=by
 refine T.ok 19 (λf A outer s H vs Q E r h=>?_)
 .obtain⟨l,x,q,u,c,n,hd,d,rfl,b,ex,hc,g,i,j,m,k⟩:=h;refine⟨_,(Qe (QG (PW.pt (Vh (Yl (Yk (Qs QR rfl (T 6) boot_isinstance (zj (pv 0) (zj (YF (v:=.ty "list") rfl (T 30) boot_list rfl) Qg))))) (UQ (Yl (Yk (Qs (GY rfl) rfl (T 44) boot_all (zj (UZ (sc:=Qr (sO 19)) (N:=(nn 19)) (fr:=[]) (wN rfl rfl) rfl rfl rfl (Yt (pv 0)) (λ_ _ _ _=>WB) (λ_ _ _ _=>(T.cl (IC T) (zj (pv 0) Qg)))) Qg))))))) (Qe Yw) Qq)),?_⟩;refine⟨_,U,_,_,_,_,_,U,U,.lst b,RS,_,U,QC ?_⟩;refine⟨_,U,l,U,⟨_,zN.of b⟩,Kl (K:=K) (xs:=[x]) V.ref (λ_=>true) (λ_=>V.bl true) G9 (zN.of b) (λy o Q' _ _ k=>k _ (Qi.refl _)) (λy o Q' hm s3 _ k=>?_) λD p t s2 e=>?_⟩
  .rw[qt.mp hm];exact⟨_,U,x,q,u,c,n,hd,d,U,s3 _ _ ex,hc,g,i,j.mono (λc xs z=>s3 _ _ z),m,λB s4=>k _ s4⟩
  .have e:p D=some (.lst ([true].map V.bl)):=e;exact⟨D,_,U,zN.of e,_,U,QC (k _ s2)⟩
theorem Nn(T:Txt P w K mg base a fd):T.k jg 2 20 (FQ K):=by
 refine T.ok 20 (λm A outer s H vs Q E q h=>?_)
 .obtain⟨x,l,p,u,hd,rs,d,rfl,ex,j,hS,n,o,c,f,k⟩:=h;refine⟨_,(Qd (QG (Qx We (Qt QA (pv 0) Qj) (Qn Ur (Qs QU rfl (T 3) zx (zj (pv 1) Qg)) Qj)) (Qe Yw) Qq)
   (Qd (QG (PW.pt (Vl (Xh (pv 1) (λ_=>rfl)) (UX (Qx Wf (Qt QA (pv 0) Qj) (Qt QA (Qt Q2 (pv 1) (MQ DY Qj)) Qj))))) (Qe Yw) Qq)
   (Qd (Qv (i:=2) (sc 20).nd (Qt QA (pv 0) Qj))
   (Qe (QG (PW.pt (Vl (Qx Uq (Qt QA (pv 2) Qj) Qk) (UX (Qx We (Qt QA (pv 2) Qj) (T.cl (AN T) (zj (Qt QA (pv 0) Qj) (zj (pv 1) Qg))))))) (Qe Yw) Qq))))),?_⟩
  refine⟨_,U,x,_,_,_,U,U,jj.of ex,at2,_,U,l,_,U,.inl hS,_,_,U,U,U,_,U,?_⟩;rw[show(!decide (V.int ((rs.length:Nat)+1:Int)=V.int ((((rs.map λr=>V.ref r.x).length:Nat):Int)+1)))=false by rw[ql,qx rfl];rfl];refine QC ?_;dsimp only[LN];refine Vr (t:=O1 _ _ _) λN hN=>?_;have rest:N [some (.ref x),some (.ref l),none] H:=by
   subst hN;refine⟨_,U,x,_,_,_,U,U,jj.of ex,at3,?_⟩;refine⟨_,U,p,_,_,_,U,U,jj.of j.e,GR u d,U,_,U,?_⟩;rw[Yz,Gh]
   cases b:W2 d with
   |false=>exact QC (QC (k _ (Qi.refl _)))
   |true=>
    refine QT ⟨_,U,p,_,_,_,U,U,jj.of j.e,GQ u d,_,U,x,_,_,_,U,U,jj.of ex,at1,_,U,l,hd,rs,U,hS,n,⋯,c,λH' s'=>⟨U,_,U,?_⟩⟩;rw[f b,show(!decide (V.str (VC hd rs)=V.str (hd++Str.ofString (toString ((Kb rs+1:Nat):Int)))))=false by unfold VC;rw[qx rfl];rfl];exact QC (k _ s')
  rcases List.eq_nil_or_concat rs with e|⟨b,r,e⟩
  .exact⟨_,U,false,.inl ⟨_,hS,by rw[e];rfl⟩,QC (QC rest)⟩
  .have g:rs[b.length]?=some r:=by rw[e,jM];simp
   have at_:=c _ _ g;have em:rs.map (λr=>V.ref r.x)=b.map (λr=>V.ref r.x)++[V.ref r.x]:=by rw[e,jM,qE];rfl
   have v:rs.length=b.length+1:=by rw[e,jM,qA];rfl
   refine⟨_,U,true,.inl ⟨_,hS,by rw[em];simp⟩,QT ⟨_,U,x,_,_,_,U,U,jj.of ex,at0,_,U,_,U,l,_,_,_,U,U,hS,(by rw[em];exact DQ _ _),r.x,_,_,_,U,U,jj.of at_.e,at0,_,_,U,U,_,U,?_⟩⟩;rw[show decide (((rs.length:Nat):Int)+1<=((b.length:Nat):Int)+1)=false from qD ⋯];exact QC rest
theorem Nd(T:Txt P w K mg base a fd):T.k jg 3 67 (FA a):=by
 refine T.ok 67 (λj A outer s H vs Q E m h=>?_)
 .obtain⟨x,dx,hd,rfl,ex,k,l⟩:=h;refine⟨_,(Qd (QG (Yl (Yk (T.cl (C1 T) (zj (pv 1) Qg)))) (Qe Yw) Qq)
   (Qd (QX (pv 0) (pv 1) U)
   (Qe (QX (pv 0) Q7 rfl)))),?_⟩
  refine⟨_,U,hd,U,k,λH1 s1=>⟨_,U,QC ?_⟩⟩;dsimp only[LN];have d:=s1 _ _ ex;refine⟨_,U,_,U,x,_,dx,_,U,d,(T 8),(T 31),∅,?_⟩;intro S f;have g:x≠S:=Qc Qb f;refine⟨_,U,x,_,dx,_,U,(by rw[Qa g];exact Qb),(T 8),(T 32),(by show 1<1000;decide),?_⟩;have b:H1 S=none:=by rw[Qa g.symm] at f;exact f
  refine l S _ (λc o n e=>?_) Qb (by rw[Qa g.symm];exact Qb) (s1.free b);have i:=s1 _ _ e;rw[Qa n,Qa (Qc i b),Qa n];exact i
theorem CV(T:Txt P w K mg base a fd):T.k jg 1 68 (Fu K a):=by
 refine T.ok 68 (λd A outer s H vs Q E e h=>?_)
 .obtain⟨l,S,sh,hd,rs,rfl,c,k⟩:=h;have f:=Yx e;obtain⟨dl,g⟩:=c.e;refine⟨_,(Qe (Qp (Uo f (Ql (pv 0) U) (pv 1) (QW Qu) ⟨U,U,U,U⟩))),?_⟩;refine⟨_,U,l,_,dl,_,_,U,g,(T 8),(T 32),U,S,U,.inl ⟨_,c.rd (Qi.refl _)⟩,_,U,za _,λz H1 j s1 i=>?_⟩;by_cases b:rs=[]
  .subst b;exact⟨none,.inl ⟨_,Sum.inr hd,c.rd s1,U,U⟩,k z _ s1 (zN.of i)⟩
  .refine⟨some (.ref sh),.inl ⟨_,Sum.inr hd,c.rd s1,U,?_⟩,k sh _ s1 (zN.of (s1 _ _ (c.l b)))⟩;unfold vR;rw[qJ b];show some (V.ref sh)=Qy [(Sum.inr hd,V.ref sh)] (Sum.inr hd);unfold Qy;simp
theorem CU(T:Txt P w K mg base a fd):T.k jg 1 13 KZ:=by
 refine T.ok 13 (λb A outer s H vs Q E g h=>?_)
 .obtain⟨x,c,hd,n,d,rfl,e,k⟩:=h;refine⟨_,(Qe (Qp (YV (Qf (Qt QA (pv 0) Qj) (Qf (Qt QA (pv 0) Qj) Qu))))),?_⟩;exact⟨_,U,x,_,_,_,U,U,jj.of e,at0,_,U,x,_,_,_,U,U,jj.of e,at1,V1,λt H1 i s1 f=>k t H1 s1 f⟩
theorem M6(T:Txt P w K mg base a fd):T.k jg 12 71 (Fq a):=by
 refine T.ok 71 (λcdv A outer s H vs Q E hr h=>?_)
 .obtain⟨l,S,sh,pl,x,p,u,hd,rs,d,rfl,lg,hh,h60,M,ex,du,dg,okn,kg⟩:=h;have hu:=Yx hr;obtain⟨dl,el⟩:=lg.e;refine⟨_,(Qd (Qw (T.cl (El T) (zj (pv 1) Qg)))
   (Qd (Qv (i:=2) (sc 71).nd (Yn ES rfl (T 81) PyProof.Rows.boot_dict (zj (Ql (pv 0) U) Qg)))
   (Qd (Qv (i:=3) (sc 71).nd (QW Qu))
   (Qd (Y9 zJ rfl (Yt (CS (CZ T) hr.up rfl (T 14) rfl (T 66) (T.B 17) (pv 1))) (Yc (i:=4) (sc 71).nd) (Qd (Qv (i:=5) (sc 71).nd (Qt QA (pv 4) Qj))
   (Qd (Qv (i:=6) (sc 71).nd (Uo hu (pv 2) (pv 5) (QW Qu) ⟨U,U,U,U⟩))
   (Qe (QG (Qx M3 (Qt QA (pv 4) Qj) (Qs QU rfl (T 3) zx (zj (pv 6) Qg))) (Qd (Qw (T.cl (Nn T) (zj (pv 4) (zj (pv 6) Qg))))
   (Qd (Ys hu (pv 2) (pv 5) (Qn U0 (pv 6) (QW (Qf (pv 4) Qu))) rfl)
   (Qe (Qw (WW plainAttrs_list je jf YL (pv 3) (zj (pv 4) Qg)))))) (Qe (QG (Qx We (pv 4) (Qt Q2 (pv 6) (Qn Eg (Qt QA (pv 4) Qj) Qj))) (Qe Yw) Qq)))))))
   (Qe (Qp (YV (Qf (pv 2) (Qf (CS (CU T) hr.up rfl (T 14) rfl (T 65) (T.B 13) (pv 3)) Qu))))))))),?_⟩
  refine⟨_,U,pl,x,p,u,_,_,hd,d,U,M,ex,⋯,⋯,hh,du,dg,λH1 s1=>?_⟩;refine⟨_,U,l,_,dl,_,_,U,s1 _ _ el,(T 8),(T 32),U,S,_,U,lg.rd s1,λf N=>?_⟩;have s2:Qi H1 (upd H1 f (.dK (vR hd sh rs))):=Qi.zq N;have v:(upd H1 f (.dK (vR hd sh rs))) f=some (.dK (vR hd sh rs)):=Qb;generalize upd H1 f (.dK (vR hd sh rs))=H2 at s2 v⊢;have nS:H f=none:=s1.free N;refine⟨za _,λk H3 O s3 R=>?_⟩;have I:Qi H H3:=(s1.trans s2).trans s3;have D:f≠k:=Qc v O;refine⟨_,U,pl,[.ref x],[.inl ((rs.length:Nat)+1:Int)],U,zN.of (I _ _ M),U,(by show 1<64;decide),.inl (λd hd=>⟨_,qt.mp hd⟩),(λi y d F hd G B=>?_),λsl H4 X s4 C=>?_⟩
  .have Y:i=0:=by have:=(zm.mp F).1;simp at this;exact this
   subst Y;cases F;cases hd;exact⟨x,_,_,_,_,U,B _ _ (I _ _ ex),Qi.refl _,U⟩
  have C:H4 sl=some (.lst [.ref x]):=C;have s14:=I.trans s4;have Z:f≠sl:=Qc (s3 _ _ v) X;have flsl:k≠sl:=Qc R X;have nfl1:H k=none:=(s1.trans s2).free O;refine⟨sl,U,⟨_,zN.of C⟩,YQ (K:=K) (a:=sl) (xs:=[.ref x]) (λi σ G=>∃(b:qd)(o4 o5 o6:Option V),σ=[some (.ref l),some (.ref pl),some (.ref f),some (.ref k),o4,o5,o6]/\Qi H G/\G sl=some (.lst [.ref x])/\((i=0/\G f=some (.dK (vR hd sh rs))/\G k=some (.lst []))\/(i=1/\H b=none/\G f=some (.dK [(Sum.inr hd,.ref b)])/\G b=some (.lst (rs.map (λr=>V.ref r.x)++[.ref x]))/\G k=some (.lst [.ref x]))))
   ⟨sh,none,none,none,U,s14,C,.inl ⟨U,s4 _ _ (s3 _ _ v),s4 _ _ R⟩⟩ ?_ ?_ ?_⟩
  .rintro i σ G _ ⟨b,o4,o5,o6,rfl,_,e,_⟩;exact zN.of e
  .rintro i y σ G F ⟨b,o4,o5,o6,rfl,B,eG,J⟩;have Y:i=0:=by have:=(zm.mp F).1;simp at this;exact this
   subst Y;cases F;rcases J with⟨_,gS,gf⟩|⟨z,_⟩
   .refine⟨_,U,x,_,_,_,U,U,jj.of (B _ _ ex),at1,?_⟩;dsimp only[Q8];refine⟨_,U,f,U,.inl ⟨_,.inl gS⟩,_,U,za _,λz G1 nz t1 ez=>?_⟩;obtain⟨z',dgt,hz'⟩:∃z',Yg G1 f (.str hd) z'/\∃q,z'.getD (.ref z)=.ref q/\G1 q=some (.lst (rs.map λr=>V.ref r.x)):=by
     by_cases g:rs=[]
     .exact⟨none,.inl ⟨_,Sum.inr hd,.inl (t1 _ _ gS),U,by unfold vR;rw[qP g];rfl⟩,z,U,by rw[g];exact ez⟩
     .exact⟨some (.ref sh),.inl ⟨_,Sum.inr hd,.inl (t1 _ _ gS),U,by unfold vR;rw[qJ g];unfold Qy;simp⟩,sh,U,t1 _ _ (B _ _ (lg.l g))⟩
    obtain⟨q,eq,hq⟩:=hz';refine⟨z',dgt,?_⟩;rw[eq];have g:=B.trans t1;refine⟨_,U,x,_,_,_,U,U,jj.of (g _ _ ex),at2,_,U,q,_,U,.inl (zN.of hq),_,_,U,U,_,U,?_⟩;rw[show decide ((((rs.map λr=>V.ref r.x).length:Nat):Int)<((rs.length:Nat)+1:Int))=true from qx (by rw[ql];omega)];refine QT ?_;refine⟨_,U,_,U,x,q,p,u,hd,rs,d,U,g _ _ ex,du.mono (λc xs e=>g _ _ e),zN.of hq,hh,⋯,(λi r e=>(lg.r i r e).tups λc xs e=>g _ _ e),okn,λG2 j=>?_⟩;have sG2:=g.trans j;refine⟨_,U,_,U,G9,λy1 G3 ny1 t3 ey1=>?_⟩;refine⟨q,y1,_,_,U,U,t3 _ _ (j _ _ hq),ey1,?_,λL G4 m t4 esh2=>?_⟩
    .rw[ql];exact Yd ((by show rs.length+1<=1000;omega))
    have n:Qi G G4:=((t1.trans j).trans t3).trans t4;have gS4:=n _ _ gS;have S'sh:f≠L:=Qc (t3 _ _ (j _ _ (t1 _ _ gS))) m;refine⟨_,U,_,U,f,_,U,.inl ⟨_,Sum.inr hd,gS4,U,?_,U⟩,?_⟩
    .unfold vR;split
     .show 0<sizeLine;decide
     .show 1<sizeLine;decide
    rw[SI];have fS':k≠f:=D.symm;refine⟨_,U,.inl ⟨U,_,zN.of (by rw[Qa fS'];exact n _ _ gf)⟩,_,U,k,_,_,U,U,(by rw[Qa fS'];exact n _ _ gf),∅,?_⟩;have nS0:∀{c:qd}{o:HO},H c=some o->c≠f:=λe=>Qc e nS;have nf0:∀{c:qd}{o:HO},H c=some o->c≠k:=λe=>Qc e nfl1;refine⟨L,_,_,_,U,(λc o e=>by rw[Qa (nf0 e),Qa (nS0 e)];exact n _ _ (B _ _ e)),(by rw[Qa flsl.symm,Qa Z.symm];exact n _ _ eG),.inr ⟨U,(g.trans (j.trans t3)).free m,by rw[Qa D];exact Qb,?_,Qb⟩⟩;have fsh:L≠k:=(Qc (t3 _ _ (j _ _ (t1 _ _ gf))) m).symm;rw[Qa fsh,Qa S'sh.symm];exact esh2
   .cases z
  .rintro σ G ⟨b,o4,o5,o6,rfl,B,eG,J⟩;obtain⟨m,gS,L,gf⟩:H b=none/\G f=some (.dK [(Sum.inr hd,.ref b)])/\G b=some (.lst (rs.map (λr=>V.ref r.x)++[.ref x]))/\G k=some (.lst [.ref x]):=by
    rcases J with⟨z,_⟩|⟨_,q⟩
    .cases z
    .exact q
   refine⟨_,U,_,U,k,[.ref x],[.inr (((rs.length:Nat)+1:Int),hd)],U,zN.of gf,U,(by show 1<64;decide),.inr (λd h=>⟨_,_,qt.mp h⟩),(λi y d F h G1 t1=>?_),λf2 G1 nf2 t1 g=>?_⟩
   .have Y:i=0:=by have:=(zm.mp F).1;simp at this;exact this
    subst Y;cases F;cases h;exact⟨x,_,_,_,_,U,t1 _ _ (B _ _ ex),λt G2 j n=>⟨j,t,U,n⟩⟩
   have g:G1 f2=some (.lst [.ref x]):=g;exact⟨V1,λt G2 Y j n=>kg t f b f2 G2 ((B.trans t1).trans j) nS m n (j _ _ (t1 _ _ gS)) (j _ _ (t1 _ _ L)) (j _ _ g)⟩
theorem M7(T:Txt P w K mg base a fd):T.k jg 13 72 (Fs a):=by
 refine T.ok 72 (λcdv A outer s H vs Q E q h=>?_)
 .obtain⟨l,S,sh,pl,x,p,u,hd,rs,d,rfl,G,hh,I,J,ex,Y,dg,L,kg⟩:=h;obtain⟨dl,v⟩:=G.e;refine⟨_,(Qd (Qv (i:=2) (sc 72).nd (T.me (pv 0) (T 8) (T 127) (M6 T) (zj (pv 1) Qg)))
   (Qd (QX (pv 0) (Qt QA (pv 2) Qj) rfl)
   (Qe (ML (Qp (Qt QA (pv 2) Qj)))))),?_⟩
  refine⟨_,U,l,dl,_,U,v,U,_,U,l,S,sh,pl,x,p,u,hd,rs,d,U,G,hh,I,J,ex,Y,dg,L,λt b g fl H1 s1 f M D j k efl=>?_⟩;refine⟨_,U,t,_,_,_,U,U,jj.of D,at0,?_⟩;refine⟨_,U,l,_,dl,_,U,s1 _ _ v,(T 8),(T 32),(by show 2<1000;decide),?_⟩;have y:l≠b:=Qc v f;have B:(upd H1 l (.ins (a 98) dl (Qz Zq (.ref b) [(Zi,.str hd),(Zq,.ref S)]))) l=some (.ins (a 98) dl [(Zi,.str hd),(Zq,.ref b)]):=by rw[Qb];rfl
  have F:SX l H1 (upd H1 l (.ins (a 98) dl (Qz Zq (.ref b) [(Zi,.str hd),(Zq,.ref S)]))):=λc o n e=>by rw[Qa n];exact e
  generalize upd H1 l (.ins (a 98) dl (Qz Zq (.ref b) [(Zi,.str hd),(Zq,.ref S)]))=Z at B F⊢;have C:=s1 _ _ v;have N:=F _ _ (QM D C λz=>nomatch z) D;refine⟨b,_,F _ _ y.symm j,λO=>?_⟩;have R:∀{c o},c≠l->c≠b->H1 c=some o->(upd Z b (.jO O (.dK [(Sum.inr hd,.ref g)]))) c=some o:=λn m e=>by rw[Qa m];exact F _ _ n e
  have V:t≠b:=QM D j λz=>nomatch z;refine⟨_,U,t,_,_,_,U,U,jj.of (by rw[Qa V];exact N),at1,?_⟩;have xt:∀{c xs},H c=some (.tup xs)->(upd Z b (.jO O (.dK [(Sum.inr hd,.ref g)]))) c=some (.tup xs):=λ{c xs} e=>R (QM e v λz=>nomatch z) (Qc e f) (s1 _ _ e);refine kg fl b g _ (λc o n e=>R n (Qc e f) (s1 _ _ e)) f M ⟨⟨dl,by rw[Qa y];exact B⟩,⟨O,?_⟩,λ_=>?_,λi r q=>?_⟩
  .rw[Qb];unfold vR;rw[qJ (by simp)]
  .rw[qE];exact R (QM k C λz=>nomatch z) (QM k j λz=>nomatch z) k
  .by_cases hi:i<rs.length
   .rw[xV hi] at q;exact(G.r i r q).tups λc xs e=>xt e
   .have X:i=rs.length:=by
     have:=(zm.mp q).1;rw[qA,qY] at this;omega
    subst X;rw[yk (qz _),Nat.sub_self] at q;cases q;exact⟨xt ex,Y.mono λc xs e=>xt e⟩
theorem bJ(T:Txt P w K mg base a fd):T.k jg 14 70 (aX a):=by
 refine T.ok 70 (λY A outer s H vs Q E hr h=>?_)
 .obtain⟨l,S,sh,p,u,hd,rs,d,rfl,j,Z,k,du,dg,m,kg⟩:=h;obtain⟨dl,f⟩:=j.e;obtain⟨oa,O⟩:=j.s;refine⟨_,(Qd (Qv (i:=2) (sc 70).nd (Qn Ur (Pn rfl rfl (T 82) (UZ (sc:=Qr (sO 70)) (N:=(nn 70)) (fr:=[]) (wN rfl rfl) rfl rfl rfl (Pk (Ql (pv 0) U)) (λ_ _ _ _=>WB) (λ_ _ _ _=>(Qt (Xo K) (Qt (NX K) (pv 0) (MQ DY Qj)) Qj)))) Qj))
   (Qd (Qv (i:=3) (sc 70).nd (YV (Qf (pv 2) (Qf (Ql (pv 0) U) (Qf (Qn Ur (Qs QU rfl (T 3) zx (zj (T.me (pv 0) (T 8) (T 61) (CV T) (zj (Ql (pv 0) U) Qg)) Qg)) Qj) (Qf (pv 1) Qu))))))
   (Qd (Qw (T.me (pv 0) (T 8) (T 128) (M7 T) (zj (QW (Qf (pv 3) Qu)) Qg)))
   (Qe (Qp (pv 3)))))),?_⟩
  refine⟨_,U,l,_,dl,_,_,U,f,(T 8),(T 32),U,S,_,U,.inl ⟨oa,O,?_⟩⟩;obtain⟨cs,t,v,y,B⟩:∃cs:qa qd,(vR hd sh rs).map (λkv=>kv.2)=cs.map V.ref/\cs.length<=1/\(∀x∈cs,rs≠[]/\x=sh)/\mxd 0 (cs.map λ_=>((rs.length:Nat):Int))=((rs.length:Nat):Int):=by
   by_cases b:rs=[]
   .exact⟨[],by unfold vR;rw[qP b];rfl,za _,nofun,by rw[b];rfl⟩
   .exact⟨[sh],by unfold vR;rw[qJ b];rfl,qz _,(λx C=>⟨b,qt.mp C⟩),U⟩
  refine Lo (xs:=cs) V.ref (λ_=>V.int ((rs.length:Nat):Int)) (zb v ∅) O t (λx R Q' _ _ q=>q) (λx R Q' C s3 q=>?_) λD nD=>?_
  .obtain⟨b,rfl⟩:=y x C;rcases List.eq_nil_or_concat rs with e|⟨g,r,e⟩
   .exact absurd e b
   .have F:rs[g.length]?=some r:=by rw[e,jM];simp
    have at_:=j.r _ _ F;have em:rs.map (λr=>V.ref r.x)=g.map (λr=>V.ref r.x)++[V.ref r.x]:=by rw[e,jM,qE];rfl
    have f:((rs.length:Nat):Int)=((g.length:Nat):Int)+1:=by rw[e,jM,qA];rfl
    rw[f] at q;exact⟨_,U,_,U,x,_,_,_,U,U,zN.of (s3 _ _ (j.l b)),(by rw[em];exact DQ _ _),r.x,_,_,_,U,U,jj.of (s3 _ _ at_.e),at0,q⟩
  have s1:Qi H (upd H D (.lst (cs.map λ_=>V.int ((rs.length:Nat):Int)))):=Qi.zq nD;have X:(upd H D (.lst (cs.map λ_=>V.int ((rs.length:Nat):Int)))) D=some (.lst ((cs.map λ_=>((rs.length:Nat):Int)).map V.int)):=by rw[Qb,zg];rfl
  generalize upd H D (.lst (cs.map λ_=>V.int ((rs.length:Nat):Int)))=H1 at s1 X⊢;refine⟨D,_,U,zN.of X,_,_,U,U,?_⟩;rw[B];dsimp only[Q8];have F:=j.sx s1;refine⟨_,U,_,U,l,_,dl,_,_,U,s1 _ _ f,(T 8),(T 31),U,_,U,l,dl,_,U,s1 _ _ f,U,_,U,l,_,dl,_,_,U,s1 _ _ f,(T 8),(T 31),U,l,S,sh,hd,rs,U,F,λz H2 s2 hz=>?_⟩;refine⟨z,_,U,.inl hz,_,_,U,U,_,U,LF,λx R nx s3 ex=>?_⟩;rw[ql] at ex;have g:=(s1.trans s2).trans s3;dsimp only[Q8];refine⟨_,U,l,dl,_,U,g _ _ f,U,_,U,G9,λpl H4 npl s4 G=>?_⟩;have b:=g.trans s4;exact⟨l,S,sh,pl,x,p,u,hd,rs,d,U,j.sx b,Z,k,G,s4 _ _ ex,du.mono (λc xs e=>b _ _ e),dg,m,λfl S' I H5 x5 J L M=>⟨_,U,kg x S' I H5 ((s1.trans s2).free nx) (λc o n e=>x5 _ _ n (b _ _ e)) (b.free J) (b.free L) M⟩⟩
theorem Oi{a:qd}{g:TG}{tb:TS}{D:VE}(Pv:Nat->St->Hp->Prop)(h0:Pv 0 σ H)(d:∀i σ H,i<=xs.length->Pv i σ H->zN K H a xs)
 (f:∀i x σ H T,xs[i]?=some x->Pv i σ H->H T=none->g (.ref T) σ (upd H T (.tup [.int i,x])) λc h=>tb {D with nx:=Pv (i+1),ct:=Pv (i+1),bk:=D.nx} c h) (hd:∀σ H,Pv xs.length σ H->D.nx σ H) :
 KR g tb D σ (Ite K a) H:=by
 refine⟨λi m σ H=>m=xs.length-i/\i<=xs.length/\Pv i σ H,⟨xs.length,by simp,za _,h0⟩,?_⟩;rintro i m σ H ⟨rfl,j,p⟩;have q:=d i σ H j p;by_cases b:i<xs.length
 .refine .inr ⟨⟨xs,xs[i],q,by simp[b]⟩,Pv (i+1),λk H' l=>⟨xs.length-(i+1),⋯,U,b,l⟩,λv H' y=>?_⟩;obtain⟨T,x,y,n,rfl,rfl⟩:=y;exact f i x σ _ T (y xs q) p n
 .have e:i=xs.length:=by omega
  subst e;exact .inl ⟨⟨xs,q,U⟩,hd σ H p⟩
theorem Bt{X:Cx}{e:Expr}:PE X e (λ_ _ _=>False):=λ_ _ _ _ _ _ h=>h.elim
inductive aV(a:jk)(vs:qa V)(H:Hp)(Q:VK)(E:XK):Prop
 |mk:∀x dx L,vs=[.ref x,.ref L]->H x=some (.ins (a 104) dx [])->H L=some (.lst [])->(∀H' l,(∀c o,c≠x->H c=some o->H' c=some o)->H l=none->H' x=some (.ins (a 104) dx [("kept",.ref l)])->H' l=some (.lst [])->Q .non H')->aV a vs H Q E
inductive L6(a:jk)(vs:qa V)(H:Hp)(Q:VK)(E:XK):Prop
 |mk:∀x dx kp c o,vs=[.ref x,.ref c,.ref o]->H x=some (.ins (a 104) dx [("kept",.ref kp)])->H kp=some (.lst [])->(∀t D H',Qi H H'->H' t=some (.tup [.ref c,.ref D])->Q (.ref t) H')->L6 a vs H Q E
inductive RJ(a:jk)(vs:qa V)(H:Hp)(Q:VK)(E:XK):Prop
 |mk:∀x dx kp c o dc y fo g (ms:qg),vs=[.ref x,.ref c,.ref o]->H x=some (.ins (a 104) dx [("kept",.ref kp)])->H kp=some (.lst [])->H c=some (.ins (a 94) dc (cfs y fo g))->H g=some (.lst (ms.map V.str))->(∀t l H',Qi H H'->H' t=some (.tup [.str fo,.ref l])->H' l=some (.lst (ms.map V.str))->Q (.ref t) H')->RJ a vs H Q E
theorem bH(T:Txt P w K mg base a fd):T.k jg 1 73 (aV a):=by
 refine T.ok 73 (λj A outer st H vs Q E q h=>?_)
 .obtain⟨x,dx,L,rfl,ex,d,k⟩:=h;refine⟨_,(Qe (QX (pv 0) (MX (sc:=Qr (sO 73)) (N:=(nn 73)) (fr:=[]) ⟨U,U,U,∅,∅,∅,∅,∅⟩ rfl rfl rfl (Yt (pv 1)) (λ_ _ _ _=>Bt)) rfl)),?_⟩;refine⟨_,U,L,U,⟨_,zN.of d⟩,DE (xs:=([]:qa qd)) id V.ref V.ref (λD i ys e=>ys=[]/\i=0) ∅ (zN.of d) (λD f=>⟨U,U⟩) (λD i ys e h=>by rw[h.1,h.2];rfl) nofun (λD i r ys e Q' l=>by cases l) ?_⟩;rintro D ys s f ⟨rfl,_⟩ s2 g;have b:=s2 _ _ ex;have m:D≠x:=QM g b nofun;refine⟨_,U,x,_,dx,_,U,b,(T 41),(T 62),(by show 0<1000;decide),?_⟩;exact k _ D (λc o n p=>by rw[Qa n];exact s2 _ _ p) f Qb (by rw[Qa m];exact g)
theorem PB(T:Txt P w K mg base a fd):T.k jg 1 74 (L6 a):=by
 refine T.ok 74 (λf A outer st H vs Q E n h=>?_)
 .obtain⟨x,dx,d,c,o,rfl,ex,e,k⟩:=h;refine⟨_,(Qd (Qv (i:=3) (sc 74).nd (QW Qu))
   (Qd (Y9 zJ rfl (Pl rfl (T 83) (zj (Ql (pv 0) U) Qg)) (Ee rfl (U4 (Yc (i:=4) (sc 74).nd) (U4 (Yc (i:=5) (sc 74).nd) Bs))) YT)
   (Qe (Qp (YV (Qf (pv 1) (Qf (pv 3) Qu))))))),?_⟩
  refine⟨LG,λD H1 p s1 g=>?_⟩;refine⟨_,U,x,_,dx,_,_,U,s1 _ _ ex,(T 41),(T 62),U,d,_,U,s1 _ _ e,?_⟩;refine Oi (K:=K) (a:=d) (xs:=[]) (λi σ b=>Qi H b/\σ=[some (.ref x),some (.ref c),some (.ref o),some (.ref D),none,none]) ⟨s1,U⟩ (λi σ b _ h=>zN.of (h.1 _ _ e)) (λi y σ b T j=>by cases j) λσ b h=>?_;obtain⟨s2,rfl⟩:=h;exact⟨_,U,_,U,V1,λt l q s3 m=>k t D l (s2.trans s3) m⟩
theorem SY(T:Txt P w K mg base a fd):T.k jg 2 75 (RJ a):=by
 refine T.ok 75 (λj A outer st H vs Q E r h=>?_)
 .obtain⟨x,dx,m,c,o,d,y,s,g,ms,rfl,ex,n,e,p,k⟩:=h;refine⟨_,(Qd (Qv (i:=3) (sc 75).nd (Qt QA (T.me (pv 0) (T 41) (T 131) (PB T) (zj (pv 1) (zj (pv 2) Qg))) Qj))
   (Qe (Qp (YV (Qf (Ql (pv 3) U) (Qf (Yn BO rfl (T 30) boot_list (zj (Ql (pv 3) U) Qg)) Qu)))))),?_⟩
  refine⟨_,U,x,dx,_,U,ex,U,_,U,_,U,x,dx,m,c,o,U,ex,n,λt D H1 s1 b=>⟨t,_,_,_,U,U,jj.of b,at0,?_⟩⟩;refine⟨_,U,c,_,d,_,_,U,s1 _ _ e,(T 18),(T 49),U,_,U,c,_,d,_,_,U,s1 _ _ e,(T 18),(T 38),U,g,_,U,.inl (zN.of (s1 _ _ p)),λl nl=>?_⟩;have s2:Qi H1 (upd H1 l (.lst (ms.map V.str))):=Qi.zq nl;have f:(upd H1 l (.lst (ms.map V.str))) l=some (.lst (ms.map V.str)):=Qb;generalize upd H1 l (.lst (ms.map V.str))=u at s2 f;exact⟨V1,λt q v s3 b=>k t l q ((s1.trans s2).trans s3) b (s3 _ _ f)⟩
abbrev rfs(a b c:qd)(hd:qc):qa (qc×V):=[(Zf,.ref a),(Zi,.str hd),(Zw,.ref b),(ZA,.ref c)]
structure Sg where
 x:qd
 dx:qd
 lg:qd
 S:qd
 sh:qd
 b:qd
 db:qd
 xr:qd
 L:qd
 xt:qd
 xi:qd
 xf:qd
 ru:qd
 dru:qd
 kp:qd
 own:qd->Nat
 rs:qa Lr
 es:qa Ent
 ls:qa LE
 bx:Rows
 mm:qc->qg
 n:Nat
variable {g:Sg}
abbrev Sg.qu(g:Sg)(H:Hp):Sg:=⟨g.x,g.dx,g.lg,g.S,g.sh,g.b,g.db,g.xr,g.L,g.xt,g.xi,g.xf,g.ru,g.dru,g.kp,QQ g.own 7 H,g.rs,g.es,g.ls,g.bx,g.mm,g.n⟩
structure EI(es:qa Ent)(c:Nat)(N:qg):Prop where
 len:es.length<=c
 clk:∀e∈es,e.2.1<=(c:Int)
 nm:∀e∈es,∃m∈N,e.1.take 1=[m]
 mo:af es
structure Rm(a:jk)(H:Hp)(hd:qc)(ws N:qg)(g:Sg):Prop where
 e:H g.x=some (.ins (a 103) g.dx (rfs g.lg g.b g.ru hd))
 o:g.own g.x=9
 l:X4 a H g.lg g.S g.sh hd g.rs
 o8:g.own g.lg=8/\g.own g.S=8/\(g.rs≠[]->g.own g.sh=8)
 u:H g.ru=some (.ins (a 104) g.dru [("kept",.ref g.kp)])/\H g.kp=some (.lst [])/\g.own g.ru=9/\g.own g.kp=9
 B:xq a H g.own g.b g.db g.xr g.L g.xt g.xi g.xf g.es g.ls g.bx g.mm ws ws ws g.n
 hh:QN hd
 ei:EI g.es g.rs.length N
 nm:∀m,m∈g.bx.map (·.1)↔m∈g.ls.map LE.nm
 nN:∀m∈g.ls.map LE.nm,m∈N
 n_:g.n<=g.rs.length
 ib:ZZ∈ws
 w_:∀m∈N,Uj m
theorem xq.out{b:qd}(h:xq a H own b db xr L xt xi xf es ls bx mk WI W M n)(k:xo own j H H')(c:7<=j):xq a H' (QQ own j H) b db xr L xt xi xf es ls bx mk WI W M n:=
 ⟨k _ _ h.e (.inl (by rw[h.o];omega)),by rw[Qm h.e];exact h.o,h.r.step k ⋯ ⋯,h.l.step k ⋯ ⋯,h.t.step k ⋯ ⋯,h.i.step k ⋯ ⋯,h.f.step k ⋯ ⋯⟩
def KL(own a:qd->Nat)(H H':Hp):Prop:=∀c o,H c=some o->(own c=0\/own c=7\/Ik o=true)->H' c=some o/\a c=own c
theorem KL.trans{a b d:qd->Nat}{f g:Hp}(x:KL a b H1 f)(y:KL b d f g):KL a d H1 g:=λc o e h=>by
 obtain⟨j,i⟩:=x c o e h;obtain⟨k,l⟩:=y c o j (by rw[i];exact h);exact⟨k,l.trans i⟩
theorem KL.same(j:Nat)(s:Qi H H'):KL own (QQ own j H) H H':=λc o e _=>⟨s _ _ e,Qm e⟩
theorem KB.kl{a:qd->Nat}(k:KB own a H H'):KL own a H H':=λc o e h=>
 have q:own c=0\/7<=own c\/Ik o=true:=h.imp id λh=>h.imp (λz=>by omega) id
 ⟨k.k c o e q,k.g c o e q⟩
section
variable {a:jk}{fd:Nat->FuncData}{H H':Hp}{hd:qc}{ws N:qg}{g:Sg}
theorem Rm.law(h:Rm a H hd ws N g)(k:xo g.own 7 H H'):Rm a H' hd ws N (g.qu H):=by
 have b:∀{c:qd}{o:HO}{j:Nat},H c=some o->g.own c=j->j≠7->H' c=some o:=λe z n=>k _ _ e (.inl (by rw[z];exact n));obtain⟨dl,d⟩:=h.l.e;obtain⟨l,f⟩:=h.l.s;refine⟨k _ _ h.e (.inl (by rw[h.o];decide)),(Qm h.e).trans h.o,⟨⟨dl,b d h.o8.1 ∅⟩,⟨l,b f h.o8.2.1 ∅⟩,λn=>b (h.l.l n) (h.o8.2.2 n) ∅,λi r e=>(h.l.r i r e).tups λc xs q=>k.tup q⟩,⟨(Qm d).trans h.o8.1,(Qm f).trans h.o8.2.1,λn=>(Qm (h.l.l n)).trans (h.o8.2.2 n)⟩,
  ⟨b h.u.1 h.u.2.2.1 ∅,b h.u.2.1 h.u.2.2.2 ∅,(Qm h.u.1).trans h.u.2.2.1,(Qm h.u.2.1).trans h.u.2.2.2⟩,h.B.out k ∅,h.hh,h.ei,h.nm,h.nN,h.n_,h.ib,h.w_⟩
theorem Rm.quiet(h:Rm a H hd ws N g)(s:Qi H H'):Rm a H' hd ws N (g.qu H):=h.law (xo.of s)
end
theorem Wj{x:Ent}(h:e∈WR es x):e=x\/e∈es:=by
 unfold WR at h;split at h
 .obtain⟨y,a,q⟩:=qw.mp h;by_cases z:y.1=x.1
  .rw[qP z] at q;exact .inl q.symm
  .rw[qJ z] at q;exact .inr (q▸a)
 .exact(qF.mp h).elim .inr λq=>.inl (qt.mp q)
theorem EI.keep{c:Nat}(h:EI es c N)(k:qg)(v:V):U8 es (k,(c:Int)+1,hd,v)=true:=by
 unfold U8
 cases e:Y3 es k with
 |none=>rfl
 |some o=>
  have:=h.clk o (KO e).1;show(!HT.k7 ((c:Int)+1) hd o.2.1 o.2.2.1)=true;unfold HT.k7;rw[qJ ⋯,qD ⋯];rfl
theorem Ll(d:Dd):(VB d).take 1=[d.nm]:=by cases d<;>rfl
theorem EI.step{c:Nat}{N':qg}(h:EI es c N)(d:Dd)(u:qd)(hN:∀m∈N,m∈N')(a:d.nm∈N'):EI (UT es (VB d,(c:Int)+1,hd,UA u d)) (c+1) N':=by
 unfold UT;rw[qP (h.keep _ _)];refine⟨zb (CQ _ _).1 (Nat.succ_le_succ h.len),λe he=>?_,λe he=>?_,⟨λe he=>?_,λe he=>?_,λe he hm=>?_⟩⟩
 .rcases Wj he with rfl|q
  .exact Int.le_refl _
  .have:=h.clk e q;omega
 .rcases Wj he with rfl|q
  .exact⟨_,a,Ll d⟩
  .obtain⟨m,hm,b⟩:=h.nm e q;exact⟨m,hN m hm,b⟩
 .rcases Wj he with rfl|q
  .exact HR d
  .exact h.mo.ne e q
 .rcases Wj he with rfl|q
  .cases d with
   |mark nm y on=>exact jE _
   |_=>exact qz _
  .exact h.mo.two e q
 .rcases Wj he with rfl|q
  .cases d with
   |mark nm y on=>exact⟨⟨on,U⟩,U⟩
   |put nm p=>exact absurd (show ZJ=Zg from hm) ∅
   |place nm b=>exact absurd (show Zp=Zg from hm) ∅
   |drop nm=>exact absurd (show Zk=Zg from hm) ∅
  .exact h.mo.mw e q hm
def stL(ls:qa LE)(y:qd):Dd->qa LE
 |.put nm p=>ls++[⟨nm,y,p⟩]
 |d=>chL ls d
def stB(bx:Rows):Dd->Rows
 |.put nm _=>bx++[(nm,ZZ)]
 |d=>chB bx d
def stM(mk:qc->qg):Dd->qc->qg
 |.put nm _=>YS mk nm []
 |d=>chM mk d
def stW(N:qg):Dd->qg
 |.put nm _=>nm::N
 |_=>N
structure DoOk(ws N:qg)(g:Sg)(hd:qc)(d:Dd):Prop where
 gd:G6 d
 k:okN hd g.rs d
 p:∀nm p,d=.put nm p->Uj nm/\nm∉N/\(∀w∈UR (yD p.t++yD p.b),w∈ws)/\(UR (yD p.t++yD p.b)).length<=60
 o:W2 d=false->dOk ws ws d/\d.nm∈g.ls.map LE.nm
theorem EI.fresh{c:Nat}(h:EI es c N){nm:qc}(a:nm∉N):sel [nm] es=[]:=j5.mpr λe he z=>by
 obtain⟨m,hm,q⟩:=h.nm e he;have z:=qH z;rw[q] at z;cases z;exact a hm
theorem EI.put{c:Nat}{nm:qc}{p:LD}(h:EI es c N)(a:nm∉N):sel [nm] (UT es (VB (.put nm p),(c:Int)+1,hd,UA u (.put nm p)))=[([nm,ZJ],(c:Int)+1,hd,.ref u)]:=by
 unfold UT;rw[qP (h.keep _ _),F2 (f:=[nm]) rfl,h.fresh a];rfl
theorem AS(nm:qc){c:Int}(h:sel [nm] es=[([nm,ZJ],c,hd,v)]):W5 es nm=[]:=by
 unfold W5 NP;rw[h];show(([[nm,ZJ]]:qa (qg)).filter (BF es)).map _=[];rw[List.filter_cons_of_neg]
 .rfl
 .unfold BF;rw[show decide (([nm,ZJ]:qg).getD 1 ""=Zg)=false from qD (show ¬ZJ=Zg by decide +kernel)];exact qO
theorem Bj{nm k:qc}{c:Int}(h:sel [nm] es=[([nm,ZJ],c,hd,v)]):Y3 es [nm,k]=if ZJ=k then some ([nm,ZJ],c,hd,v) else none:=by
 rw[<-V5 (f:=[nm]) rfl,h];unfold Y3;by_cases z:ZJ=k
 .subst z;rw[qP rfl];simp
 .rw[qJ z,j7 (by simpa using λq=>z q)];rfl
inductive RI(a:jk)(vs:qa V)(H:Hp)(Q:VK)(E:XK):Prop
 |mk:∀(hd:qc)(ws N:qg)(g:Sg)(q u:qd)(d:Dd),vs=[.ref g.x,.ref q]->Rm a H hd ws N g->DU H q u d->DoOk ws N g hd d->g.rs.length<=30 ->
   (∀H' (g':Sg) x y,Rm a H' hd ws (stW N d) g'->g'.x=g.x->g'.rs=g.rs++[⟨x,q,u,d⟩]->g'.ls=stL g.ls y d->g'.bx=stB g.bx d->g'.mm=stM g.mm d->KL g.own g'.own H H'->Q .non H')->RI a vs H Q E
theorem bL{nm:qc}(h:nm∉ls.map LE.nm):(ls.filter λl=>decide (l.nm≠nm))=ls:=zZ.mpr λl a=>qx λe=>h (qw.mpr ⟨l,a,e⟩)
theorem cf{nm:qc}(h:nm∉bx.map (·.1)):L2.without bx nm=bx:=zZ.mpr λr a=>qx λe=>h (qw.mpr ⟨r,a,e⟩)
theorem OC{d:Dd}(b:W2 d=false)(h:∀m,m∈bx.map (·.1)↔m∈ls.map LE.nm)(hd:d.nm∈ls.map LE.nm):(∀m,m∈(chB bx d).map (·.1)↔m∈(chL ls d).map LE.nm)/\∀m∈(chL ls d).map LE.nm,m∈ls.map LE.nm:=by
 have a:∀nm m,m∈(L2.without bx nm).map (·.1)↔m∈bx.map (·.1)/\m≠nm:=λnm m=>Wi (f:=λr:qc×qc=>r.1)
 cases d with
 |put nm p=>cases b
 |mark nm y on=>exact⟨h,λm hm=>hm⟩
 |drop nm=>exact⟨λm=>by rw[show chB bx (.drop nm)=L2.without bx nm from rfl,a,h];exact(Wi (f:=LE.nm)).symm,λm hm=>((Wi (f:=LE.nm)).mp hm).1⟩
 |place nm c=>
  refine⟨λm=>?_,λm hm=>hm⟩;show m∈(L2.without bx nm++[(nm,c)]).map (·.1)↔m∈ls.map LE.nm;rw[qE,qF,a,h];constructor
  .rintro(z|z)
   .exact z.1
   .rw[qt.mp z];exact hd
  .intro z;by_cases e:m=nm
   .exact .inr (qt.mpr e)
   .exact .inl ⟨z,e⟩
theorem SW(T:Txt P w K mg base a fd):T.k jg 15 77 (RI a):=by
 refine T.ok 77 (λcdv A outer st H vs Q E hr h=>?_)
 .obtain⟨hd,ws,N,g,q,u,d,rfl,R,du,ok,h30,k⟩:=h;refine⟨_,(Qe (Qw (T.me (Ql (pv 0) U) (T 1) (T 118) (Pz T) (zj (T.me (Ql (pv 0) U) (T 8) (T 126) (bJ T) (zj (pv 1) Qg)) Qg)))),?_⟩;obtain⟨dl,V⟩:=R.l.e;have hB:=R.B;refine⟨_,U,g.x,_,g.dx,_,_,U,R.e,(T 4),(T 24),U,g.b,g.db,_,U,hB.e,U,_,U,g.x,_,g.dx,_,_,U,R.e,(T 4),(T 51),U,g.lg,dl,_,U,V,U,_,U,g.lg,g.S,g.sh,q,u,hd,g.rs,d,U,R.l,R.hh,⋯,du,ok.gd,ok.k,λx S' X H1 nx sx nS nsh s=>?_⟩;have k8:xo g.own 8 H H1:=λc o e z=>sx c o (λy=>by
   subst y;rw[V] at e;cases e;exact z.elim (λz=>z R.o8.1) λz=>nomatch z) e
  have B1:=hB.out k8 ∅;have x1:=k8 _ _ R.e (.inl (by rw[R.o];decide));have nru:g.ru≠g.lg:=QM R.u.1 V λz=>by injection z with _ _ z;exact absurd (show(1:Nat)=2 from zt List.length z) ∅
  have r1:=sx _ _ nru R.u.1;have Y:=sx _ _ (QM R.u.2.1 V λz=>nomatch z) R.u.2.1;obtain⟨dl1,Z⟩:=s.e;obtain⟨oS1,eS1⟩:=s.s;have hne:g.rs++[⟨x,q,u,d⟩]≠[]:=by simp
  have F:=s.l hne;have ol:QQ g.own 8 H g.lg=8:=(Qm V).trans R.o8.1;have oS:QQ g.own 8 H S'=8:=Uu nS;have J:QQ g.own 8 H X=8:=Uu nsh;have L:QQ g.own 8 H g.ru=9:=(Qm R.u.1).trans R.u.2.2.1;have M:QQ g.own 8 H g.kp=9:=(Qm R.u.2.1).trans R.u.2.2.2;have ox:QQ g.own 8 H g.x=9:=(Qm R.e).trans R.o;have kl1:KL g.own (QQ g.own 8 H) H H1:=λc o e z=>⟨k8 c o e (z.elim (λz=>.inl ⋯) λz=>z.imp (λz=>by omega) id),Qm e⟩;generalize QQ g.own 8 H=t at B1 ol oS J L M ox kl1;have lr:=s.r g.rs.length ⟨x,q,u,d⟩ (by rw[yk (qz _),Nat.sub_self];rfl);have fin:∀C b v l B D n2 y,xq a C b g.b g.db g.xr g.L g.xt g.xi g.xf v l B D ws ws ws n2->KB t b H1 C->EI v (g.rs.length+1) (stW N d)->(∀m,m∈B.map (·.1)↔m∈l.map LE.nm)->(∀m∈l.map LE.nm,m∈stW N d)->n2<=g.rs.length+1->l=stL g.ls y d->B=stB g.bx d->D=stM g.mm d->Q .non C:=λC b v l B D n2 y O G ei2 nm2 nN2 hn2 I e2 e3=>by
   have f:∀{c:qd}{o:HO}{j:Nat},H1 c=some o->t c=j->(h:7<=j:=by decide)->C c=some o/\b c=j:=λ{c o j} e z h=>⟨G.k _ _ e (.inr (.inl ⋯)),(G.g _ _ e (.inr (.inl ⋯))).trans z⟩;have hl:(g.rs++[(⟨x,q,u,d⟩:Lr)]).length=g.rs.length+1:=by rw[qA];rfl
   refine k C {g with S:=S',sh:=X,own:=b,rs:=g.rs++[⟨x,q,u,d⟩],es:=v,ls:=l,bx:=B,mm:=D,n:=n2} x y ⟨(f x1 ox).1,(f x1 ox).2,⟨⟨dl1,(f Z ol).1⟩,⟨oS1,(f eS1 oS).1⟩,λ_=>(f F J).1,λi r e=>(s.r i r e).tups λc xs z=>G.k _ _ z (.inr (.inr rfl))⟩,⟨(f Z ol).2,(f eS1 oS).2,λ_=>(f F J).2⟩,⟨(f r1 L).1,(f Y M).1,(f r1 L).2,(f Y M).2⟩,O,R.hh,hl▸ei2,nm2,nN2,hl▸hn2,R.ib,λm hm=>by
    cases d with
    |put nm p=>exact(qC.mp hm).elim (λz=>z▸(ok.p nm p rfl).1) (R.w_ m)
    |_=>exact R.w_ m hm⟩ rfl rfl I e2 e3 (kl1.trans G.kl)
  have kB:=R.ei.keep (hd:=hd) (VB d) (UA u d);have kt:∀c xs,H c=some (.tup xs)->H1 c=some (.tup xs):=λc xs e=>k8.tup e;have hel:=R.ei.len;have hn:=R.n_;refine⟨t,g.b,g.db,g.xr,g.L,g.xt,g.xi,g.xf,g.es,g.ls,g.bx,g.mm,ws,ws,ws,g.n,x,(g.rs.length:Int)+1,hd,(g.rs.length:Int)+1,q,u,d,U,B1,lr.e,du.mono kt,⋯,R.nm,λz=>absurd (z.symm.trans kB) ∅,λ_ nm p e=>?_,λ_ f=>?_⟩
  .subst e;obtain⟨_,p1,p2,p3⟩:=ok.p nm p rfl;have nls:nm∉g.ls.map LE.nm:=λz=>p1 (R.nN nm z);have nbx:nm∉g.bx.map (·.1):=λz=>nls ((R.nm nm).mp z);have es:=R.ei.step (hd:=hd) (.put nm p) u (N':=stW N (.put nm p)) (λm hm=>qK _ hm) qB;have I:=R.ei.put (hd:=hd) (p:=p) (u:=u) p1;generalize UT g.es (VB (.put nm p),(g.rs.length:Int)+1,hd,UA u (.put nm p))=v at es I;have v1:=Bj (k:=ZJ) I;have v2:=Bj (k:=Zk) I;have v3:=Bj (k:=Zp) I;rw[qP rfl] at v1;rw[qJ ∅] at v2 v3;have e5:=es.len;refine⟨ZZ,false,⟨es.mo,⋯,by rw[v1];rfl,kt _ _ (du.p nm p rfl),ok.gd.p nm p rfl,p2,p3,λ_=>by rw[v2];rfl,nofun,by rw[v3];rfl,R.ib,(by rw[AS nm I];exact λy hy=>nomatch hy)⟩,⋯,nofun,λ_ y C b O G=>?_⟩;rw[bL nls,cf nbx,AS nm I] at O;refine fin C b _ _ _ _ _ y O G es (λm=>?_) (λm hm=>?_) ⋯ rfl rfl rfl
   .rw[qE,qE,qF,qF,R.nm];rfl
   .rw[qE] at hm;rcases qF.mp hm with z|z
    .exact qK _ (R.nN m z)
    .rw[qt.mp z];exact qB
  .obtain⟨o1,o2⟩:=ok.o f;have eW:stW N d=N:=by cases d<;>first|rfl|cases f
   have eL:∀y,chL g.ls d=stL g.ls y d:=λy=>by cases d<;>first|rfl|cases f
   have eB:chB g.bx d=stB g.bx d:=by cases d<;>first|rfl|cases f
   have eM:chM g.mm d=stM g.mm d:=by cases d<;>first|rfl|cases f
   obtain⟨c1,c2⟩:=OC f R.nm o2;exact⟨o1,λ_ C b O G=>fin C b _ _ _ _ _ g.x O G (R.ei.step d u (λm hm=>by rw[eW];exact hm) (by rw[eW];exact R.nN _ o2)) c1 (λm hm=>by rw[eW];exact R.nN m (c2 m hm)) ⋯ (eL _) eB eM,λz=>absurd o2 z⟩
theorem xq.gT{g:qd->Nat}{b:qd}(h:xq a H own b db xr L xt xi xf es ls bx mk WI W M n)(k:∀c,own c≠0->g c=own c)(p:∀c C d (f:qc) (q:V×qa (qc×V)),(f=Zb\/f=Zx\/f=Zj\/f=Ze\/f=Zd)->H c=some (.ins C d (((f:qc),q.1)::q.2))->own c=0->g c=0):xq a H g b db xr L xt xi xf es ls bx mk WI W M n:=by
 have i:∀{c j},own c=j->j≠0->g c=j:=λ{c j} e n=>(k c (by rw[e];exact n)).trans e;refine⟨h.e,p _ _ _ _ (_,_) (.inl rfl) h.e h.o,?_,?_,?_,?_,?_⟩
 .obtain⟨dx,D,kd,r,m,o⟩:=h.r;exact⟨dx,D,kd,r,p _ _ _ _ (_,_) (.inr (.inl rfl)) r.obj m,λc hc=>i (o c hc) ∅⟩
 .refine⟨h.l.e,i h.l.o ∅,h.l.nd,h.l.na,λl s=>⟨?_,(h.l.at_ l s).2⟩⟩;obtain⟨t,u⟩:=(h.l.at_ l s).1;exact⟨i t ∅,u.imp id λ⟨D,e,z⟩=>⟨D,e,i z ∅⟩⟩
 .obtain⟨dx,L2,R2,kr,s,t,u,m,o⟩:=h.t;exact⟨dx,L2,R2,kr,s,t,u,p _ _ _ _ (_,_) (.inr (.inr (.inl rfl))) s.obj m,λc hc=>i (o c hc) ∅⟩
 .obtain⟨F,f,m,o⟩:=h.i;obtain⟨dx,E,B,ex⟩:=f.obj;exact⟨F,f,p _ _ _ _ (_,_) (.inr (.inr (.inr (.inl rfl)))) ex m,λc hc=>i (o c hc) ∅⟩
 .obtain⟨F,f,m,o⟩:=h.f;obtain⟨dx,s,T1,t,ex⟩:=f.obj;exact⟨F,f,p _ _ _ _ (_,_) (.inr (.inr (.inr (.inr rfl)))) ex m,λc hc=>i (o c hc) ∅⟩
inductive Cj(a:jk)(vs:qa V)(H:Hp)(Q:VK)(E:XK):Prop
 |mk:∀(x dx:qd)(hd:qc)(ws:qg),vs=[.ref x,.str hd]->H x=some (.ins (a 103) dx [])->QN hd->ZZ∈ws->ws.length<=20->(∀H' (g:Sg),(∀c o,c≠x->H c=some o->H' c=some o/\g.own c=0)->g.x=x->Rm a H' hd ws [] g->g.rs=[]->g.ls=[]->g.bx=[]->Q .non H')->Cj a vs H Q E
theorem ID(T:Txt P w K mg base a fd):T.k jg 5 76 (Cj a):=by
 refine T.ok 76 (λcdv A outer st H vs Q E hr h=>?_)
 .obtain⟨x,dx,hd,ws,rfl,ex,hh,ib,t,k⟩:=h;refine⟨_,(Qd (QX (pv 0) (T.ma (T 124) (T 123) (Nd T) (zj (pv 1) Qg)) rfl)
   (Qd (ML (QX (pv 0) (pv 1) U))
   (Qd (QX (pv 0) (Vt (T 117) (Nr T) hr.up rfl (T 116) (T.B 60) .nil UN) rfl)
   (Qe (QX (pv 0) (T.ma (T 130) (T 129) (bH T) (zj (QW Qu) Qg)) rfl))))),?_⟩
  refine⟨_,U,?_⟩;intro g dl u ndl nel;refine⟨g,dl,hd,U,Qb,hh,λS H1 sx1 I J nS1=>⟨U,?_⟩⟩;have sa:Qi H H1:=Uh u ndl λc o n e=>sx1 c o n e;have x1:=sa _ _ ex;have l:x≠g:=Qc ex u;have nS:H S=none:=Vx nS1;have F:x≠S:=Qc ex nS;have lS:g≠S:=QM I J λz=>nomatch z;refine⟨_,U,x,_,dx,_,U,x1,(T 4),(T 51),∅,?_⟩;have x2:(upd H1 x (.ins (a 103) dx (Qz Zf (.ref g) []))) x=some (.ins (a 103) dx [(Zf,.ref g)]):=by rw[Qb];rfl
  have k2:SX x H1 (upd H1 x (.ins (a 103) dx (Qz Zf (.ref g) []))):=λc o n e=>by rw[Qa n];exact e
  generalize upd H1 x (.ins (a 103) dx (Qz Zf (.ref g) []))=M at x2 k2;refine⟨S,[],k2 _ _ F.symm J,λv=>?_⟩;have x3:(upd M S (.jO v (.dK []))) x=_:=(Qa F).trans x2;have l3:(upd M S (.jO v (.dK []))) g=_:=(Qa lS).trans (k2 _ _ l.symm I);have S3:(upd M S (.jO v (.dK []))) S=some (.jO v (.dK [])):=Qb;have k3:∀c o,c≠x->H c=some o->(upd M S (.jO v (.dK []))) c=some o:=λc o n e=>by rw[Qa (Qc e nS)];exact k2 _ _ n (sa _ _ e)
  generalize upd M S (.jO v (.dK []))=H3 at x3 l3 S3 k3;refine⟨_,U,_,U,x,_,dx,_,U,x3,(T 4),(T 142),(by show 1<1000;decide),?_⟩;have x4:(upd H3 x (.ins (a 103) dx (Qz Zi (.str hd) [(Zf,.ref g)]))) x=some (.ins (a 103) dx [(Zf,.ref g),(Zi,.str hd)]):=by rw[Qb];rfl
  have G:SX x H3 (upd H3 x (.ins (a 103) dx (Qz Zi (.str hd) [(Zf,.ref g)]))):=λc o n e=>by rw[Qa n];exact e
  generalize upd H3 x (.ins (a 103) dx (Qz Zi (.str hd) [(Zf,.ref g)]))=H4 at x4 G;intro b db nb N neb;refine⟨b,db,(λ_=>[]),ws,ws,ws,U,t,t,t,Qb,λj own xr L xt xi xf kb0 ko0 B=>⟨U,?_⟩⟩;have O:Qi H4 j:=Uh nb N λc o n e=>kb0 c o n e;have zo:∀{c o},H4 c=some o->own c=0:=λ{c o} e=>by
   have n1:=Qc e nb;exact ko0 c o n1 (by rw[Qa n1,Qa (Qc e N)];exact e)
  have x5:=O _ _ x4;have l5:=O _ _ (G _ _ l.symm l3);have S5:=O _ _ (G _ _ F.symm S3);obtain⟨s,R,hl8,hS8,hk,h0⟩:∃s:qd->Nat,s x=9/\s g=8/\s S=8/\(∀c,c≠x->c≠g->c≠S->s c=own c)/\True:=⟨λc=>if c=x then 9 else if c=g\/c=S then 8 else own c,qP rfl,(qJ l.symm).trans (qP (.inl rfl)),(qJ F.symm).trans (qP (.inr rfl)),(λc n1 n2 n3=>(qJ n1).trans (qJ λz=>z.elim n2 n3)),trivial⟩;have B5:xq a j s b db xr L xt xi xf [] [] [] (λ_=>[]) ws ws ws 0:=B.gT (λc hc=>hk c (λz=>hc (z▸zo x4)) (λz=>hc (z▸zo (G _ _ l.symm l3))) (λz=>hc (z▸zo (G _ _ F.symm S3)))) λc C d f fs hf e z=>by
   refine(hk c (λy=>?_) (λy=>?_) (λy=>?_)).trans z
   .rw[y,x5] at e
    injection e with e;injection e with _ _ e;injection e with e _;injection e with e _
    subst e
    revert hf;decide +kernel
   .rw[y,l5] at e
    injection e with e;injection e with _ _ e;injection e with e _;injection e with e _
    subst e
    revert hf;decide +kernel
   .rw[y,S5] at e;cases e
  refine⟨_,U,x,_,dx,_,U,x5,(T 4),(T 24),(by show 2<1000;decide),?_⟩;have x6:(upd j x (.ins (a 103) dx (Qz Zw (.ref b) [(Zf,.ref g),(Zi,.str hd)]))) x=some (.ins (a 103) dx [(Zf,.ref g),(Zi,.str hd),(Zw,.ref b)]):=by rw[Qb];rfl
  have k6:SX x j (upd j x (.ins (a 103) dx (Qz Zw (.ref b) [(Zf,.ref g),(Zi,.str hd)]))):=λc o n e=>by rw[Qa n];exact e
  generalize upd j x (.ins (a 103) dx (Qz Zw (.ref b) [(Zf,.ref g),(Zi,.str hd)]))=H6 at x6 k6;refine⟨LG,λlr H7 nlr V D=>?_⟩;intro p dr q X ner;have Y:(upd (upd H7 dr (.own p)) p (.ins (a 104) dr [])) lr=some (.lst []):=by rw[Qa (Qc D q),Qa (Qc D X)];exact D
  refine⟨p,dr,lr,U,Qb,Y,λZ kp k8 nkp er8 ekp=>⟨U,?_⟩⟩;have s8:Qi H7 Z:=Uh q X λc o n e=>k8 c o n e;have x8:=s8 _ _ (V _ _ x6);refine⟨_,U,x,_,dx,_,U,x8,(T 4),(T 63),(by show 3<1000;decide),?_⟩;have x9:(upd Z x (.ins (a 103) dx (Qz ZA (.ref p) [(Zf,.ref g),(Zi,.str hd),(Zw,.ref b)]))) x=some (.ins (a 103) dx (rfs g b p hd)):=by rw[Qb];rfl
  have k9:SX x Z (upd Z x (.ins (a 103) dx (Qz ZA (.ref p) [(Zf,.ref g),(Zi,.str hd),(Zw,.ref b)]))):=λc o n e=>by rw[Qa n];exact e
  generalize upd Z x (.ins (a 103) dx (Qz ZA (.ref p) [(Zf,.ref g),(Zi,.str hd),(Zw,.ref b)]))=H9 at x9 k9;have f9:SX x j H9:=λc o n e=>k9 c o n (s8 _ _ (V _ _ (k6 c o n e)));have kp9:xo s 9 j H9:=λc o e z=>f9 c o (λy=>by
   subst y;rw[x5] at e;cases e;exact z.elim (λz=>z R) λz=>nomatch z) e
  have n6:∀{c},c≠x->H6 c=none->j c=none:=λ{c} n h=>by
   cases e:j c with
   |none=>rfl
   |some o=>rw[k6 c o n e] at h;cases h
  have xru:p≠x:=λz=>by have:=V _ _ x6;rw[<-z,q] at this;cases this
  have xkp:kp≠x:=(QM x8 ekp λz=>nomatch z).symm;have nru5:j p=none:=n6 xru (V.free q);have nkp5:j kp=none:=n6 xkp (V.free (Vx nkp));refine k H9 ⟨x,dx,g,S,S,b,db,xr,L,xt,xi,xf,p,dr,kp,QQ s 9 j,[],[],[],[],(λ_=>[]),0⟩ (λc o n e=>?_) rfl ⟨x9,(Qm x5).trans R,⟨⟨dl,f9 _ _ l.symm l5⟩,⟨v,f9 _ _ F.symm S5⟩,λz=>absurd rfl z,λi r z=>by cases z⟩,⟨(Qm l5).trans hl8,(Qm S5).trans hS8,λz=>absurd rfl z⟩,⟨k9 _ _ xru er8,k9 _ _ xkp ekp,Uu nru5,Uu nkp5⟩,B5.out kp9 ∅,hh,⟨qz _,nofun,nofun,⟨nofun,nofun,nofun⟩⟩,λm=>Iff.rfl,nofun,qz _,ib,nofun⟩ rfl rfl rfl;have e4:=G _ _ n (k3 c o n e);have nlgc:c≠g:=Qc e u;have nSc:c≠S:=Qc e nS;exact⟨f9 _ _ n (O _ _ e4),(Qm (O _ _ e4)).trans ((hk c n nlgc nSc).trans (zo e4))⟩
inductive via(a:jk)(m:qc)(C:qd)(p:qd->qd->qd->qd->qd)(n:Nat)(sp:Sp)(vs:qa V)(H:Hp)(Q:VK)(E:XK):Prop
 |mk:∀(x dx lg b ru db xr L xt xi xf d:qd)(hd:qc)(fs:qa (qc×V))(rest:qa V),vs=.ref x::rest->rest.length=n->H x=some (.ins (a 103) dx (rfs lg b ru hd))->H b=some (.ins (a 93) db (bfs xr L xt xi xf))->H (p b xt xi xf)=some (.ins C d fs)->fs.lookup m=none->sp (.ref (p b xt xi xf)::rest) H Q E->via a m C p n sp vs H Q E
abbrev pt':qd->qd->qd->qd->qd:=λ_ t _ _=>t
abbrev pf:qd->qd->qd->qd->qd:=λ_ _ _ f=>f
section
variable {a:jk}{fd:Nat->FuncData}{H:Hp}{hd:qc}{ws N:qg}{g:Sg}{sp:Sp}{rest:qa V}{Q:VK}{E:XK}{n:Nat}{m:qc}
theorem Rm.vt(h:Rm a H hd ws N g)(s:sp (.ref g.xt::rest) H Q E)(l:rest.length=n:=by rfl)(q:∀L R,([(Zj,V.ref L),(Zo,V.ref R)]:qa (qc×V)).lookup m=none:=by intros;rfl):via a m (a 105) pt' n sp (.ref g.x::rest) H Q E:=
 let ⟨_,_,_,_,b,_⟩:=h.B.t
 .mk _ _ _ _ _ _ _ _ _ _ _ _ _ _ _ rfl l h.e h.B.e b.obj (q _ _) s
theorem Rm.vf(h:Rm a H hd ws N g)(s:sp (.ref g.xf::rest) H Q E)(l:rest.length=n:=by rfl)(q:∀X T N,(VA X T N).lookup m=none:=by intros;rfl):via a m (a 96) pf n sp (.ref g.x::rest) H Q E:=
 let ⟨_,f,_⟩:=h.B.f
 let ⟨_,_,_,_,e⟩:=f.obj
 .mk _ _ _ _ _ _ _ _ _ _ _ _ _ _ _ rfl l h.e h.B.e e (q _ _ _) s
end
theorem Ej(T:Txt P w K mg base a fd):T.k jg 3 80 (via a ZC (a 105) pt' 1 (Ce a)):=by
 refine T.ok 80 (λb A outer st H vs Q E g h=>?_) (λvs H Q E h=>by obtain⟨_,_,_,_,_,_,_,_,_,_,_,_,_,_,rest,rfl,l,_⟩:=h;rw[zc,l];rfl)
 .obtain⟨x,dx,i,c,j,db,xr,L,xt,xi,xf,d,hd,k,rest,rfl,l,ex,e,f,z,s⟩:=h;obtain⟨v1,rfl⟩:=yQ.mp l;exact⟨_,(Qe (Qp (T.me (Ql (Ql (pv 0) U) rfl) (T 5) (T 115) (IA T) (zj (pv 1) Qg)))),_,U,x,_,dx,_,_,U,ex,(T 4),(T 24),U,c,_,db,_,_,U,e,(T 1),(T 40),U,xt,d,_,U,f,z,_,U,s⟩
theorem CW(T:Txt P w K mg base a fd):T.k jg 4 81 (via a Za (a 96) pf 0 (K2 a)):=by
 refine T.ok 81 (λb A outer st H vs Q E g h=>?_) (λvs H Q E h=>by obtain⟨_,_,_,_,_,_,_,_,_,_,_,_,_,_,rest,rfl,l,_⟩:=h;rw[zc,l];rfl)
 .obtain⟨x,dx,i,c,j,db,xr,L,xt,xi,xf,d,hd,k,rest,rfl,l,ex,e,f,z,s⟩:=h;obtain rfl:rest=[]:=jz.mp l;exact⟨_,(Qe (Qp (T.mn (Ql (Ql (pv 0) U) rfl) (T 0) (T 101) (C2 T)))),_,U,x,_,dx,_,_,U,ex,(T 4),(T 24),U,c,_,db,_,_,U,e,(T 1),(T 16),U,xf,d,_,U,f,z,s⟩
theorem Bv(T:Txt P w K mg base a fd):T.k jg 2 82 (via a "names" (a 96) pf 1 (Cw a)):=by
 refine T.ok 82 (λb A outer st H vs Q E g h=>?_) (λvs H Q E h=>by obtain⟨_,_,_,_,_,_,_,_,_,_,_,_,_,_,rest,rfl,l,_⟩:=h;rw[zc,l];rfl)
 .obtain⟨x,dx,i,c,j,db,xr,L,xt,xi,xf,d,hd,k,rest,rfl,l,ex,e,f,z,s⟩:=h;obtain⟨v1,rfl⟩:=yQ.mp l;exact⟨_,(Qe (Qp (T.me (Ql (Ql (pv 0) U) rfl) (T 0) (T 100) (IJ T) (zj (pv 1) Qg)))),_,U,x,_,dx,_,_,U,ex,(T 4),(T 24),U,c,_,db,_,_,U,e,(T 1),(T 16),U,xf,d,_,U,f,z,_,U,s⟩
theorem EO{a:qd}{α:Type}{xs:qa α}{fr:qa (Nat×qc)}{tt:TT}{p:TE}(g:α->V)(pr:α->Bool)(hz:xs.length<=sizeLine)(hS:zN K H1 a (xs.map g))
 (l:∀(x:α)(c:Hp)(Q':Bool->Hp->Prop),x∈xs->Qi H1 c->(∀h,Qi c h->Q' (pr x) h)->tt (some (g x)::yx σ fr) c Q')
 (n:∀(x:α)(c:Hp)(Q':VK),x∈xs->Qi H1 c->pr x=true->(∀y h,Qi c h->Q' y h)->p (some (g x)::yx σ fr) c Q')
 (r:∀D ys d,H1 D=none->Qi H1 d->d D=some (.lst ys)->Q (.ref D) d) :
 YB (g7 K a) fr tt p σ H1 Q:=by
 intro D o;refine⟨λi m ys d=>m=xs.length-i/\i<=xs.length/\ys.length<=i/\Qi H1 d/\d D=some (.lst ys),⟨xs.length,by simp,za _,by simp,Qi.zq o,Qb⟩,?_⟩;rintro i m ys d ⟨rfl,w,s,s2,k⟩;refine⟨k,?_⟩;have f:=s2.seq hS;by_cases b:i<xs.length
 .have j:(xs.map g)[i]?=some (g xs[i]):=by rw[qQ,qv b];rfl
  refine .inr ⟨⟨xs.map g,g xs[i],f,j⟩,?_⟩;rintro v c ⟨rfl,t⟩;have q:(xs.map g)[i]?=some v:=t _ f;rw[j] at q;cases q;have hm:xs[i]∈xs:=zu b;refine l xs[i] _ _ hm s2 λh s4=>?_
  cases u:pr xs[i] with
  |false=>exact QC ⟨xs.length-(i+1),⋯,U,b,⋯,s2.trans s4,s4 _ _ k⟩
  |true=>exact QT (n xs[i] _ _ hm (s2.trans s4) u λy z s5=>⟨s5 _ _ (s4 _ _ k),⋯,xs.length-(i+1),⋯,U,b,by rw[qA];exact Nat.succ_le_succ s,((s2.trans s4).trans s5).jl o,Qb⟩)
 .have e:i=xs.length:=by omega
  subst e;exact .inl ⟨⟨xs.map g,f,by rw[ql];exact qz _⟩,r D ys d o s2 k⟩
theorem Rm.noE(R:Rm a H hd ws N g):NoE (g.ls.map λl=>(l.nm,l.p.an)):=λn b z=>by
 rw[zg] at b;have:=(R.w_ n (R.nN n b)).lo;rw[z] at this;exact absurd this ∅
theorem Rm.ths(R:Rm a H hd ws N g):uF a H g.xt (g.ls.map λl=>(l.nm,l.p.an)) g.n:=
 let ⟨_,_,_,_,b,c,d,_⟩:=R.B.t
 .mk _ _ _ _ b c d
theorem Rm.up(R:Rm a H hd ws N g){nm:qc}(h:nm∈g.ls.map LE.nm):∃b,L2.up g.bx nm=some b:=by
 cases e:L2.up g.bx nm with
 |some b=>exact⟨b,U⟩
 |none=>exact absurd ((R.nm nm).mpr h) (UI.mp e)
inductive Cn(a:jk)(vs:qa V)(H:Hp)(Q:VK)(E:XK):Prop
 |mk:∀(hd:qc)(ws N:qg)(g:Sg)(nm:qc),vs=[.ref g.x,.str nm]->Rm a H hd ws N g->g.rs.length<=40->nm∈g.ls.map LE.nm->(∀l H',Qi H H'->Q (.ref l) H')->Cn a vs H Q E
inductive L3(a:jk)(vs:qa V)(H:Hp)(Q:VK)(E:XK):Prop
 |mk:∀(hd:qc)(ws N:qg)(g:Sg)(nm:qc)(c dc y gg:qd)(fo:qc)(ms:qg),vs=[.ref g.x,.str nm,.ref c]->Rm a H hd ws N g->g.rs.length<=40->nm∈g.ls.map LE.nm->H c=some (.ins (a 94) dc (cfs y fo gg))->H gg=some (.lst (ms.map V.str))->ms.length<=100->(∀H',Qi H H'->Q .non H')->L3 a vs H Q E
theorem IF(T:Txt P w K mg base a fd):T.k jg 11 78 (Cn a):=by
 refine T.ok 78 (λn A outer st H vs Q E o h=>?_)
 .obtain⟨hd,ws,N,g,nm,rfl,R,p,hm,k⟩:=h;have q:=Yx o;refine⟨_,(Qd (QG (Y0 (Ug q (pv 1) (Ql (Ql (pv 0) U) rfl))) (Qe (Qp (QW Qu))) Qq)
   (Qe (Qp (UZ (sc:=Qr (sO 78)) (N:=(nn 78)) (fr:=[(0,"self"),(1,"name")]) (wN rfl rfl) rfl rfl rfl (Yt (T.me (pv 0) (T 4) (T 139) (Ej T) (zj (pv 1) Qg))) (λ_ _ _ _=>WA (Qx We (pv 0) (pv 2))) (λ_ _ _ _=>(T.me (Kx K (pv 1) U) (T 1) (T 122) (Nt T) (zj (pv 0) Qg))))))),?_⟩
  obtain⟨le,hle,rfl⟩:=qw.mp hm;refine⟨_,U,_,U,g.x,_,g.dx,_,_,U,R.e,(T 4),(T 24),U,g.b,_,g.db,_,_,U,R.B.e,(T 1),(T 15),U,g.L,some (.ref le.y),U,.inl ⟨_,Sum.inr le.nm,.inl R.B.l.e,U,(Q9 (g:=λl=>V.ref l.y) R.B.l.nd hle).symm⟩,_,U,QC ?_⟩;have z:(g.ls.map λl=>(l.nm,l.p.an)).length<=40:=by obtain⟨_,_,_,_,r,_⟩:=R.B.t;exact r.few
  refine⟨_,U,g.x,g.dx,_,U,R.e,U,_,U,R.vt ⟨g.xt,_,_,le.nm,U,R.ths,R.noE,by rw[zg];exact hm,λl H1 nl s1 j=>⟨l,U,⟨_,zN.of j⟩,EO (K:=K) (xs:=Xc (g.ls.map λl=>(l.nm,l.p.an)) le.nm) V.str (λm=>!decide (m=le.nm)) (Yd ((zb OY ⋯))) (zN.of j) (λm s Q' _ s3 c=>⟨_,U,_,U,U,_,U,by rw[Yz];exact c _ (Qi.refl _)⟩) (λm s Q' d s3 _ c=>?_) λD ys t B s2 _=>k D t (s1.trans s2)⟩⟩⟩;have u:=s1.trans s3;have e:=R.quiet u;have b:=(PX.mp d).1;rw[zg] at b;obtain⟨v,f,rfl⟩:=qw.mp b;obtain⟨x,i⟩:=R.up b;exact⟨_,U,g.x,_,g.dx,_,_,U,e.e,(T 4),(T 24),U,g.b,g.db,_,U,e.B.e,U,_,U,_,g.b,g.db,g.xr,g.L,g.xt,g.xi,g.xf,_,_,_,_,_,_,_,_,v,x,U,e.B,f,i,(R.nm _).mpr b,λy C F G I s4 _=>c _ _ s4⟩
theorem Py(T:Txt P w K mg base a fd):T.k jg 16 79 (L3 a):=by
 refine T.ok 79 (λF A outer st H vs Q E J h=>?_)
 .obtain⟨hd,ws,N,g,nm,c,m,y,n,q,ms,rfl,R,r,hm,u,x,B,k⟩:=h;refine⟨_,(Qd (Qv (i:=3) (sc 79).nd (T.me (Ql (pv 0) U) (T 41) (T 132) (SY T) (zj (pv 2) (zj (T.me (pv 0) (T 4) (T 136) (IF T) (zj (pv 1) Qg)) Qg))))
   (Qd (Qv (i:=4) (sc 79).nd (Qt QA (pv 3) Qj))
   (Qd (Qv (i:=5) (sc 79).nd (Qt QA (pv 3) Qj))
   (Qd (QG (Qx We (pv 4) (Ql (pv 2) U)) YT Qq)
   (Qd (Y9 zJ rfl (Yt (pv 5)) (Yc (i:=6) (sc 79).nd) (Qe (QG (Qx Xl (pv 6) (Ql (pv 2) U) (by with_unfolding_all rfl)) YT Qq)))
   (Qe (Y9 zJ rfl (Yt (Ql (pv 2) U)) (Yc (i:=6) (sc 79).nd) (Qe (QG (Qx Xl (pv 6) (pv 5) (by with_unfolding_all rfl)) YT Qq))))))))),?_⟩
  refine⟨_,U,g.x,_,g.dx,_,_,U,R.e,(T 4),(T 63),U,g.ru,g.dru,_,U,R.u.1,U,_,U,_,U,g.x,g.dx,_,U,R.e,U,_,U,hd,ws,N,g,nm,U,R,r,hm,λo H1 s1=>⟨g.ru,g.dru,g.kp,c,o,m,y,q,n,ms,U,s1 _ _ R.u.1,s1 _ _ R.u.2.1,s1 _ _ u,s1 _ _ x,λt l I s2 C s=>?_⟩⟩;have d:=s1.trans s2;have e:=d _ _ u;have f:=d _ _ x;dsimp only[Q8];refine⟨_,U,t,_,_,_,U,U,jj.of C,at0,?_⟩;refine⟨_,U,t,_,_,_,U,U,jj.of C,at1,?_⟩;refine⟨_,U,_,U,c,_,m,_,_,U,e,(T 18),(T 49),U,U,_,U,?_⟩;rw[qx rfl];refine QC ?_;have key:∀i (v:V),(ms.map V.str)[i]?=some v->Wr v=true/\inV v (ms.map V.str)=true:=λi v j=>by
   obtain⟨z,hz,rfl⟩:=Ec j;exact⟨U,by rw[Wn];exact qx (zv hz)⟩
  have D:(ms.map V.str).all Wr=true:=by rw[wX];exact zi.mpr λ_ _=>rfl
  refine⟨_,U,l,U,⟨_,zN.of s⟩,YQ (K:=K) (a:=l) (xs:=ms.map V.str) (λi σ G=>∃b,σ=[some (.ref g.x),some (.str nm),some (.ref c),some (.ref t),some (.str q),some (.ref l),b]/\G=I) ⟨none,U,U⟩ (λi σ G _ h=>by obtain⟨_,_,rfl⟩:=h;exact zN.of s) ?_ ?_⟩
  .rintro i v σ G j ⟨b,rfl,rfl⟩;obtain⟨k1,k2⟩:=key i v j;refine⟨_,U,_,U,c,_,m,_,_,U,e,(T 18),(T 38),U,n,_,U,.inl (zN.of f),k1,D,_,U,?_⟩;rw[qP rfl,k2];exact QC ⟨_,U,U⟩
  .rintro σ G ⟨b,rfl,rfl⟩;refine⟨_,U,c,_,m,_,_,U,e,(T 18),(T 38),U,n,U,⟨_,zN.of f⟩,YQ (K:=K) (a:=n) (xs:=ms.map V.str) (λi σ p=>∃b,σ=[some (.ref g.x),some (.str nm),some (.ref c),some (.ref t),some (.str q),some (.ref l),b]/\p=G) ⟨b,U,U⟩ (λi σ p _ h=>by obtain⟨_,_,rfl⟩:=h;exact zN.of f) ?_ ?_⟩
   .rintro i v σ p j ⟨b,rfl,rfl⟩;obtain⟨k1,k2⟩:=key i v j;refine⟨_,U,_,U,l,_,U,.inl (zN.of s),k1,D,_,U,?_⟩;rw[qP rfl,k2];exact QC ⟨_,U,U⟩
   .rintro σ p ⟨b,rfl,rfl⟩;exact k _ d
structure Stp(H H':Hp)(g g':Sg)(d:Dd):Prop where
 x:g'.x=g.x
 rs:∃x q u,g'.rs=g.rs++[⟨x,q,u,d⟩]
 ls:∃y,g'.ls=stL g.ls y d
 bx:g'.bx=stB g.bx d
 mm:g'.mm=stM g.mm d
 kl:KL g.own g'.own H H'
inductive Fy(a:jk)(vs:qa V)(H:Hp)(Q:VK)(E:XK):Prop
 |mk:∀(l S sh:qd)(hd:qc)(rs:qa Lr),vs=[.ref l]->X4 a H l S sh hd rs->QN hd->rs.length<=60->(∀H',Qi H H'->Q (.str (VC hd rs)) H')->Fy a vs H Q E
inductive L8(a:jk)(vs:qa V)(H:Hp)(Q:VK)(E:XK):Prop
 |mk:∀(hd:qc)(ws N:qg)(g:Sg)(p:LD),vs=[.ref g.x,.str p.s,.str p.t,.str p.b,.int p.d,.str p.an]->Rm a H hd ws N g->g.rs.length<=30->WU p.s p.t p.b p.d p.an->Uj (VC hd g.rs)->VC hd g.rs∉N->(∀w∈UR (yD p.t++yD p.b),w∈ws)->(UR (yD p.t++yD p.b)).length<=60->(∀H' g',Rm a H' hd ws (VC hd g.rs::N) g'->Stp H H' g g' (.put (VC hd g.rs) p)->Q (.str (VC hd g.rs)) H')->L8 a vs H Q E
theorem ww(h:Uj x):isW x=true/\x.length<=1000:=⟨EE h,by have:=h.hi;omega⟩
theorem Nb(T:Txt P w K mg base a fd):T.k jg 2 69 (Fy a):=by
 refine T.ok 69 (λf A outer st H vs Q E m h=>?_)
 .obtain⟨l,S,sh,hd,rs,rfl,b,g,j,k⟩:=h;obtain⟨dl,d⟩:=b.e;refine⟨_,(Qe (Qp (T.cl (AN T) (zj (Ql (pv 0) U) (zj (T.me (pv 0) (T 8) (T 61) (CV T) (zj (Ql (pv 0) U) Qg)) Qg))))),?_⟩;exact⟨_,U,l,_,dl,_,_,U,d,(T 8),(T 31),U,_,U,l,dl,_,U,d,U,_,U,l,_,dl,_,_,U,d,(T 8),(T 31),U,l,S,sh,hd,rs,U,b,λz H1 s1 hz=>⟨z,hd,rs,U,hz,g,⋯,λi r e=>(b.r i r e).tups λc xs q=>s1 _ _ q,λn s2=>k _ (s1.trans s2)⟩⟩
theorem PD(T:Txt P w K mg base a fd):T.k jg 17 92 (L8 a):=by
 obtain⟨Y,vi,vl⟩:=T.d88_0;refine(T.D 92).ok (sc 92) (λZ A outer st H vs Q E hr h=>?_) (λvs H Q E h=>by obtain⟨hd,ws,N,g,p,rfl,_⟩:=h;rfl)
 .obtain⟨hd,ws,N,g,p,rfl,R,n,o,hw,hn,r,hl,k⟩:=h;refine⟨_,(Qd (Qv (i:=6) (sc 92).nd (T.ma (T 46) (T 45) (Bw T) (zj (pv 1) (zj (pv 2) (zj (pv 3) (zj (pv 4) (zj (pv 5) Qg)))))))
   (Qd (Qv (i:=7) (sc 92).nd (T.mn (Ql (pv 0) U) (T 8) (T 125) (Nb T)))
   (Qd (Qw (T.me (pv 0) (T 4) (T 135) (SW T) (zj (YV (Qf Qk (Qf (pv 7) (Qf (T.mn (pv 6) (T 2) (T 85) (Na T)) Qu)))) Qg)))
   (Qd (Qw (T.me (pv 0) (T 4) (T 137) (Py T) (zj (pv 7) (zj (Hq (T 57) (C3 T) hr.up rfl (T 56) vl vi UN (zj (pv 6) Qg)) Qg))))
   (Qe (Qp (pv 7))))))),?_⟩
  refine⟨_,U,_,U,_,U,_,U,_,U,?_⟩;intro y j L s ney;refine⟨y,j,_,_,_,_,_,U,o,Qb,λH1 k1 ey=>⟨U,?_⟩⟩;have s1:Qi H H1:=Uh L s k1;dsimp only[Q8];have t:=R.quiet s1;obtain⟨dl,el⟩:=t.l.e;refine⟨_,U,g.x,_,g.dx,_,_,U,t.e,(T 4),(T 51),U,g.lg,dl,_,U,el,U,g.lg,g.S,g.sh,hd,g.rs,U,t.l,R.hh,⋯,λl s2=>?_⟩;dsimp only[Q8];have d:=s1.trans s2;have b:=s2 _ _ ey;refine⟨_,U,g.x,g.dx,_,U,d _ _ R.e,U,_,U,_,U,y,j,_,U,b,U,y,_,_,_,_,_,U,.inl ⟨j,b⟩,λu nu=>?_⟩;have s3:Qi l (upd l u (.tup [.str p.s,.str p.t,.str p.b,.int p.d,.str p.an])):=Qi.zq nu;have M:(upd l u (.tup [.str p.s,.str p.t,.str p.b,.int p.d,.str p.an])) u=some (.tup [.str p.s,.str p.t,.str p.b,.int p.d,.str p.an]):=Qb;generalize upd l u (.tup [.str p.s,.str p.t,.str p.b,.int p.d,.str p.an])=H3 at s3 M;refine⟨H0,λq H4 nq s4 eq=>?_⟩;have e:=(d.trans s3).trans s4;have v:=s4 _ _ (s3 _ _ b);have oy:(g.qu H).own y=7:=Uu L;refine⟨hd,ws,N,g.qu H,q,u,.put (VC hd g.rs) p,U,R.quiet e,⟨eq,λ_ _ z=>by cases z;exact s4 _ _ M⟩,⟨⟨ww hw,(λ_ _ z=>by cases z;exact o),nofun,nofun⟩,(λ_=>rfl),(λ_ _ z=>by cases z;exact⟨hw,hn,r,hl⟩),nofun⟩,n,λm g' x yy B C O S e4 e5 V=>?_⟩;have D:=(V y _ v (.inr (.inl oy))).1;have hm:VC hd g.rs∈g'.ls.map LE.nm:=by
   rw[S];show _∈(g.ls++[(⟨VC hd g.rs,yy,p⟩:LE)]).map LE.nm;rw[qE];exact qy _ (qt.mpr rfl)
  have F:g'.rs.length<=40:=by rw[O,qA];show g.rs.length+1<=40;omega
  have x5:m g.x=some _:=C▸B.e;refine⟨_,U,g.x,g'.dx,_,U,x5,U,_,U,_,U,λc dc nc G I=>C7 nc G I (.inl ⟨j,D⟩) o (.inl ⟨U,U⟩) ∅ λH6 gg X ng hc=>⟨U,?_⟩⟩;obtain⟨⟨J,y',ec,_⟩,eg⟩:=hc;refine⟨hd,ws,_,g'.qu m,VC hd g.rs,c,J,y',gg,_,_,by rw[show(g'.qu m).x=g.x from C];rfl,B.quiet X,F,hm,ec,eg,∅,λH7 s7=>⟨_,U,?_⟩⟩;have f:=X.trans s7;exact k H7 (g'.qu m) (B.quiet f) ⟨C,⟨_,_,_,O⟩,⟨_,S⟩,e4,e5,((KL.same 7 e).trans V).trans (KL.same 7 f)⟩
def FR:qa (qc×qa V):=[(ZJ,[.int 2,.non]),(Zp,[.int 2,.int 2]),(Zg,[.int 2,.int 2]),("unmark",[.int 2,.int 2]),(Zk,[.int 1,.int 1]),("sort",[.int 1,.int 1]),("rule",[.int 1,.non]),("rules",[.int 0,.int 0]),("forget",[.int 0,.int 0]),(Zl,[.int 1,.int 1]),(Zm,[.int 1,.int 1]),(Za,[.int 0,.int 0]),(Zh,[.int 1,.int 1]),(ZC,[.int 1,.int 1]),(Zy,[.int 0,.int 0]),("find",[.int 1,.non]),("show",[.int 1,.int 1])]
def Ae:qc:="0123456789"
def YA(x:qc):Bool:=decide (1<=(x.length:Int))&&(decide ((x.length:Int)<=8)&&x.cps.toList.all λc=>decide (c∈hS.cps.toList))
def Ke(n:Int):qa V->Bool
 |[.int lo,.non]=>decide (lo<=n)
 |[.int lo,.int a]=>decide (lo<=n)&&decide (n<=a)
 |_=>false
def BN(gs:qg):Bool:=decide (((gs.getD 1 "").length:Int)<=4)&&(gs.getD 1 "").cps.toList.all λc=>decide (c∈Ae.cps.toList)
def YM(f:qc)(gs:qg):Bool:=match FR.find? (λq=>decide (q.1=f)) with
 |none=>false
 |some q=>Ke gs.length q.2&&((!decide (f=ZJ)||BN gs)&&(!decide (f∈([Zl,Zm]:qg))||YA (gs.getD 0 "")))
def VM(ps:qg):Bool:=match ps with
 |h::f::gs=>YA h&&YM f gs
 |_=>false
theorem Rg:(FR.all λq=>match q.2 with
 |[.int _,.non]=>true
 |[.int _,.int _]=>true
 |_=>false)=true:=by decide +kernel
theorem Rh{q:qc×qa V}(h:FR.find? (λq=>decide (q.1=f))=some q):q.1=f/\((∃lo,q.2=[.int lo,.non])\/∃lo b,q.2=[.int lo,.int b]):=by
 obtain⟨n,l⟩:=q;have c:=List.find?_some h;have a:=zi.mp Rg _ (xW h);refine⟨qH c,?_⟩;dsimp only at a⊢;split at a
 .exact .inl ⟨_,U⟩
 .exact .inr ⟨_,_,U⟩
 .cases a
theorem QN.b(h:QN x):YA x=true:=by
 unfold YA;rw[qx h.lo,qx h.hi,h.gz];rfl
theorem GL(h:YA x=true):QN x:=by
 unfold YA at h;rw[qG,qG] at h;exact⟨qH h.1,qH h.2.1,h.2.2⟩
inductive FE(vs:qa V)(H:Hp)(Q:VK)(E:XK):Prop
 |mk:∀(x:qc),vs=[.str x]->x.length<=1000->(∀H',Qi H H'->Q (.bl (YA x)) H')->FE vs H Q E
inductive Ct(K:Frag)(a:jk)(vs:qa V)(H:Hp)(Q:VK)(E:XK):Prop
 |mk:∀(f:qc)(L:qd)(gs:qg),vs=[.str f,.ref L]->zN K H L (gs.map V.str)->gs.length<=1000->(∀g∈gs,g.length<=1000)->(YM f gs=true->∀H',Qi H H'->Q .non H')->(YM f gs=false->∀H',Qi H H'->E (.ref (a 101)) none H')->Ct K a vs H Q E
def Su(K:Frag)(a:jk):Sp:=λvs H Q E=>Ct K a vs H Q E
inductive Au(vs:qa V)(H:Hp)(Q:VK)(E:XK):Prop
 |mk:∀x,vs=[x]->Q (.str "NoRow") H->Au vs H Q E
theorem Ek(T:Txt P w K mg base a fd):T.kU 1 32 Au:=by
 refine(T.F 32).okU (sc 32) (λvs H Q E h=>?_) (λb A outer s H vs Q E c h=>?_)
 .obtain⟨x,rfl,_⟩:=h;rfl
 .obtain⟨x,rfl,k⟩:=h;exact⟨_,Qe (Qp Qk),k⟩
theorem C0(T:Txt P w K mg base a fd):T.k jg 2 8 FE:=by
 refine T.ok 8 (λg A outer s H vs Q E i h=>?_)
 .obtain⟨x,rfl,f,k⟩:=h;refine⟨_,(Qe (Qp (Up (Qs QR rfl (T 6) boot_isinstance (zj (pv 0) (zj (YF (v:=.ty "str") rfl (T 9) boot_str rfl) Qg))) (Up (Gj Wf Wf Qj (Qs Ux rfl (T 3) zx (zj (pv 0) Qg)) (Vu rfl (T 53))) (Vn (T.cl (Xm T) (zj (pv 0) (zj (Vu rfl (T 52)) Qg)))))))),?_⟩;refine⟨_,U,_,_,_,_,_,U,U,.str x,Kh,_,U,QT ⟨_,U,x,U,Yd (f),_,_,U,U,_,U,?_⟩⟩;have b:YA x=(decide (1<=(x.length:Int))&&(decide ((x.length:Int)<=8)&&x.cps.toList.all λc=>decide (c∈hS.cps.toList))):=rfl;by_cases d:(1:Int)<=(x.length:Int)
  .rw[qx d];rw[qx d,jF] at b;refine QT ⟨_,_,U,U,_,U,?_⟩;by_cases e:(x.length:Int)<=8
   .rw[qx e];rw[qx e,jF] at b;refine QT ⟨_,U,x,hS,U,f,λH' s'=>?_⟩;rw[<-b];exact k H' s'
   .rw[qD e];rw[qD e,jw] at b;refine QC ?_;rw[<-b];exact k H (Qi.refl H)
  .rw[qD d];rw[qD d,jw] at b;refine QC ⟨_,U,QC ?_⟩;rw[<-b];exact k H (Qi.refl H)
theorem Nq(T:Txt P w K mg base a fd):T.k (vd P w) 3 21 (Su K a):=by
 obtain⟨x,F,G⟩:=(T 80);obtain⟨R,Y,Z⟩:=(T 79);refine(T.F 21).okXD (sc 21) (λvs H Q E h=>?_) (λcdv A outer s H vs Q E D h=>?_)
 .obtain⟨f,L,gs,rfl,_⟩:=h;rfl
 .obtain⟨f,L,gs,rfl,hS,I,S,kt,y⟩:=h;refine⟨_,(Qd (QG (Qx (Pt (rows:=FR)) (pv 0) (WE (v:=.ref x) rfl F rfl) (by with_unfolding_all rfl)) (Qe (Vs (T 29) (T 33) D.hd rfl (zj Qk Qg))) Qq)
   (Qd (Qv (i:=2) (sc 21).nd (Qt QA (Qt (NY (rows:=FR)) (WE (v:=.ref x) rfl F rfl) (pv 0)) Qj))
   (Qd (Qv (i:=3) (sc 21).nd (Qt QA (Qt (NY (rows:=FR)) (WE (v:=.ref x) rfl F rfl) (pv 0)) Qj))
   (Qd (QG (PW.pt (Vh (Qx Hu (Qs QU rfl (T 3) zx (zj (pv 1) Qg)) (pv 2)) (UQ (PW.pt (Vl (Y0 (Pq (pv 3))) (UX (Qx M3 (Qs QU rfl (T 3) zx (zj (pv 1) Qg)) (pv 3)))))))) (Qe (Vs (T 29) (T 33) D.hd rfl (zj Qk Qg))) Qq)
   (Qd (QG (PW.pt (Vl (Qx Uq (pv 0) Qk) (UX (Yl (PW.pt (Vl (Qx Wf (Qs Ux rfl (T 3) zx (zj (Qt Q2 (pv 1) Qj) Qg)) (Vu rfl (T 76))) (UX (Yk (T.cl (Xm T) (zj (Qt Q2 (pv 1) Qj) (zj (Vu rfl (T 69)) Qg))))))))))) (Qe (Vs (T 29) (T 33) D.hd rfl (zj Qk Qg))) Qq)
   (Qe (QG (PW.pt (Vl (Qx AI (pv 0) (WE (v:=.ref R) rfl Y rfl) (by with_unfolding_all rfl)) (UX (Yl (Yk (T.cl (C0 T) (zj (Qt Q2 (pv 1) Qj) Qg))))))) (Qe (Vs (T 29) (T 33) D.hd rfl (zj Qk Qg))) Qq))))))),?_⟩
  refine⟨_,U,x,f,U,U,G,_,U,?_⟩
  cases m:FR.find? (λq=>decide (q.1=f)) with
  |none=>exact QT ⟨by show 1<=sizeLine;decide,y (by unfold YM;rw[m]) H (Qi.refl H)⟩
  |some q=>
   refine QC ?_;have b:YM f gs=(Ke gs.length q.2&&((!decide (f=ZJ)||BN gs)&&(!decide (f∈([Zl,Zm]:qg))||YA (gs.getD 0 "")))):=by unfold YM;rw[m]
   obtain⟨e1,l⟩:=Rh m;obtain⟨lo,j,l,n⟩:∃lo j,q.2=[.int lo,j]/\((j=.non/\Ke gs.length q.2=decide (lo<=(gs.length:Int)))\/∃r,j=.int r/\Ke gs.length q.2=(decide (lo<=(gs.length:Int))&&decide ((gs.length:Int)<=r))):=by
    rcases l with⟨lo,l⟩|⟨lo,r,l⟩
    .exact⟨lo,_,l,.inl ⟨U,by rw[l];rfl⟩⟩
    .exact⟨lo,_,l,.inr ⟨r,U,by rw[l];rfl⟩⟩
   refine⟨_,U,x,f,q,U,U,G,m,λt hT=>⟨t,_,0,.int lo,U,U,l▸hT H,at0,?_⟩⟩;refine⟨_,U,x,f,q,U,U,G,m,λt2 J=>⟨t2,_,1,j,U,U,l▸J H,at1,?_⟩⟩;have hlen:((gs.map V.str).length:Int)=(gs.length:Int):=by rw[ql]
   dsimp only[Q8];refine Vr λN hN=>?_;have put2:f=ZJ->lo=2:=λz=>by
    subst z;have e:FR.find? (λq=>decide (q.1=ZJ))=some (ZJ,[V.int 2,V.non]):=by decide +kernel
    rw[e] at m;cases m
    injection l with h _
    injection h with h
    exact h.symm
   have u:f∈([Zl,Zm]:qg)->lo=1:=λz=>by
    have d:FR.find? (λq=>decide (q.1=Zl))=some (Zl,[V.int 1,V.int 1]):=by decide +kernel
    have o:FR.find? (λq=>decide (q.1=Zm))=some (Zm,[V.int 1,V.int 1]):=by decide +kernel
    rcases qC.mp z with z|z
    .subst z;rw[d] at m;cases m
     injection l with h _
     injection h with h
     exact h.symm
    .rw[qt.mp z] at m;rw[o] at m;cases m
     injection l with h _
     injection h with h
     exact h.symm
   have rest:lo<=(gs.length:Int)->Ke gs.length q.2=true->N [some (.str f),some (.ref L),some (.int lo),some j] H:=λo hm=>by
    rw[hm,jF] at b;rw[hN];have at_:∀{k:Nat}{g:qc},gs[k]?=some g->xx (gs.map V.str) (k:Int)=some (.str g):=λe=>QF (by rw[qQ,e];rfl);refine Vr λN2 M=>?_;have fin:(!decide (f=ZJ)||BN gs)=true->∀H1,Qi H H1->N2 [some (.str f),some (.ref L),some (.int lo),some j] H1:=λhd H1 s1=>by
     rw[hd,jF] at b;rw[M];refine⟨_,U,R,_,U,.inr (Z H1),U,WM _,decide (f∈([Zl,Zm]:qg)),by rw[qJ qO,Wn],?_⟩;by_cases d:f∈([Zl,Zm]:qg)
     .have C:=u d;rw[qx d,ye,Bool.false_or] at b;rw[qx d];obtain⟨g,p⟩:∃g,gs[0]?=some g:=⟨_,qv ⋯⟩;rw[show gs.getD 0 ""=g by rw[qZ,p];rfl] at b;refine QT ⟨_,U,L,_,_,_,U,U,s1.seq hS,at_ p,?_⟩;refine⟨g,U,S g (zv p),λO s2=>⟨_,U,?_⟩⟩
      cases B:YA g with
      |true=>exact QC (kt (by rw[b,B]) _ (s1.trans s2))
      |false=>exact QT ⟨by show 1<=sizeLine;decide,y (by rw[b,B]) _ (s1.trans s2)⟩
     .rw[qD d] at b⊢;exact QC (QC (kt b _ s1))
    refine⟨_,U,U,_,U,?_⟩;rw[Yz];by_cases O:f=ZJ
    .have l2:=put2 O;rw[qx O] at b fin⊢;rw[ye,Bool.false_or] at b fin;obtain⟨g,p⟩:∃g,gs[1]?=some g:=⟨_,qv ⋯⟩;have C:=S g (zv p);have d:BN gs=(decide ((g.length:Int)<=4)&&g.cps.toList.all λc=>decide (c∈Ae.cps.toList)):=by unfold BN;rw[show gs.getD 1 ""=g by rw[qZ,p];rfl]
     refine QT ⟨_,U,L,_,_,_,U,U,hS,at_ p,g,U,Yd (C),_,_,U,U,_,U,?_⟩;by_cases X:(g.length:Int)<=4
     .rw[qx X] at d⊢;rw[jF] at d;refine QT ⟨_,U,L,_,_,_,U,U,hS,at_ p,g,Ae,U,C,λH1 s1=>⟨_,U,?_⟩⟩;rw[<-d]
      cases B:BN gs with
      |true=>exact QC (fin B _ s1)
      |false=>
       have:=y (by rw[b,B];rfl) _ s1;rw[qP (show(!false)=true from rfl)];exact⟨by show 1<=sizeLine;decide,this⟩
     .rw[qD X] at d⊢;rw[jw] at d;refine QC ?_;show if (!false)=true then _ else _
      rw[qP (show(!false)=true from rfl)];exact⟨by show 1<=sizeLine;decide,y (by rw[b,d];rfl) _ (Qi.refl H)⟩
    .rw[qD O] at fin⊢;exact QC (QC (fin rfl _ (Qi.refl H)))
   refine⟨_,U,L,_,U,.inl hS,_,U,_,_,U,U,_,U,?_⟩;rw[hlen];by_cases d:(gs.length:Int)<lo
   .rw[qx d];refine QT (QT ⟨by show 1<=sizeLine;decide,y ?_ H (Qi.refl H)⟩);have hf:decide (lo<=(gs.length:Int))=false:=qD ⋯;rw[b,show Ke gs.length q.2=false by rcases n with⟨_,e⟩|⟨_,_,e⟩<;>rw[e,hf]<;>rfl];rfl
   .rw[qD d];have o:lo<=(gs.length:Int):=by omega
    refine QC ?_;rcases n with⟨rfl,e⟩|⟨r,rfl,e⟩
    .exact⟨_,U,_,U,QC (QC (rest o (by rw[e];exact qx o)))⟩
    .refine⟨_,U,_,U,QT ?_⟩;refine⟨_,U,L,_,U,.inl hS,_,U,_,_,U,U,_,U,?_⟩;rw[hlen];by_cases p:r<(gs.length:Int)
     .rw[qx p];refine QT ⟨by show 1<=sizeLine;decide,y ?_ H (Qi.refl H)⟩;rw[b,e,show decide ((gs.length:Int)<=r)=false from qD ⋯,zX];rfl
     .rw[qD p];refine QC (rest o ?_);rw[e,qx o,qx (show(gs.length:Int)<=r by omega)];rfl
abbrev IB:qg:=[ZZ]
abbrev vH(a:qa (qc×qd)):qa (Key×V):=a.map λr=>(Sum.inr r.1,V.ref r.2)
structure X6(a:jk)(H:Hp)(dk D:qd)(gb:qa (qc×qd)):Prop where
 e:∃dd,H dk=some (.ins (a 95) dd [("rooms",.ref D)])
 d:H D=some (.dK (vH gb))
theorem Rm.seven{h:qa (Key×V)}(R:Rm a H hd ws N g)(h0:g.own D=0)(i:H D=some (.dK h)):Rm a H hd ws N {g with own:=λc=>if c=D then 7 else g.own c}:=by
 have b:∀{c:qd}{j:Nat},g.own c=j->j≠0->(if c=D then 7 else g.own c)=j:=λ{c j} e n=>by
  rw[qJ (λz:c=D=>n (e.symm.trans (by rw[z];exact h0)))];exact e
 exact⟨R.e,b R.o ∅,R.l,⟨b R.o8.1 ∅,b R.o8.2.1 ∅,λn=>b (R.o8.2.2 n) ∅⟩,⟨R.u.1,R.u.2.1,b R.u.2.2.1 ∅,b R.u.2.2.2 ∅⟩,
  R.B.gT (λc hc=>qJ (λz:c=D=>hc (by rw[z];exact h0))) (λc C d f k _ e z=>(qJ (QM e i λy=>nomatch y)).trans z),R.hh,R.ei,R.nm,R.nN,R.n_,R.ib,R.w_⟩
inductive FL(a:jk)(vs:qa V)(H:Hp)(Q:VK)(E:XK):Prop
 |mk:∀(x dx:qd),vs=[.ref x]->H x=some (.ins (a 95) dx [])->(∀D H',SX x H H'->H D=none->X6 a H' x D []->Q .non H')->FL a vs H Q E
inductive Wz(a:jk)(vs:qa V)(H:Hp)(Q:VK):Prop
 |old:∀(dk D x:qd)(h:qc)(gb:qa (qc×qd)),vs=[.ref dk,.str h]->X6 a H dk D gb->Qy (vH gb) (Sum.inr h)=some (.ref x)->Q (.ref x) H->Wz a vs H Q
 |new:∀(dk D:qd)(h:qc)(gb:qa (qc×qd)),vs=[.ref dk,.str h]->X6 a H dk D gb->Qy (vH gb) (Sum.inr h)=none->gb.length<=10->QN h ->
   (∀H' (g:Sg),(∀c o,c≠D->H c=some o->H' c=some o/\g.own c=0)->g.own D=7->H g.x=none->X6 a H' dk D (gb++[(h,g.x)])->Rm a H' h IB [] g->g.rs=[]->g.ls=[]->g.bx=[]->Q (.ref g.x) H')->Wz a vs H Q
def O4(a:jk):Sp:=λvs H Q _=>Wz a vs H Q
theorem MH{a:qa (qc×qd)}{x:qd}(e:Qy (vH a) (Sum.inr h)=none):Ye (vH a) (Sum.inr h) (V.ref x)=vH (a++[(h,x)]):=by
 unfold Ye;have n:(vH a).any (λb=>decide (b.1=Sum.inr h))=false:=by
  rw[ky];intro z;unfold Qy at e;rw[Option.map_eq_none_iff,yH] at e;obtain⟨b,c,q⟩:=gF.mp z;exact e b c q
 rw[qJ (by rw[n];exact qO)];show _=List.map _ _;rw[qE];rfl
theorem R6{a:qa (qc×qd)}{x:qd}(e:Qy (vH a) (Sum.inr h)=none):Qy (vH (a++[(h,x)])) (Sum.inr h)=some (.ref x):=by
 rw[<-MH e,KN,qP rfl]
theorem Nl(T:Txt P w K mg base a fd):T.k jg 1 83 (FL a):=by
 refine T.ok 83 (λf A outer st H vs Q E g h=>?_)
 .obtain⟨x,dx,rfl,ex,k⟩:=h;refine⟨_,(Qe (QX (pv 0) Q7 rfl)),?_⟩;intro D b;have d:x≠D:=Qc ex b;refine⟨_,U,x,_,dx,_,U,(Qa d).trans ex,(T 10),(T 28),∅,?_⟩;exact k D _ (λc o n e=>by rw[Qa n,Qa (Qc e b)];exact e) b ⟨⟨dx,by rw[Qb];rfl⟩,(Qa d.symm).trans Qb⟩
theorem Nk(T:Txt P w K mg base a fd):T.k jg 7 84 (O4 a):=by
 refine T.ok 84 (λM A outer st H vs Q E N h=>?_) (λvs H Q E h=>by rcases h with⟨i,D,x,h,b,rfl,_⟩|⟨i,D,h,b,rfl,_⟩<;>rfl)
 .have p:=Yx N;refine⟨_,(Qd (QG (Y0 (Ug p (pv 1) (Ql (pv 0) U))) (Qe (Ys p (Ql (pv 0) U) (pv 1) (T.ma (T 134) (T 133) (ID T) (zj (pv 1) Qg)) rfl)) Qq)
   (Qe (Qp (Ym p (Ql (pv 0) U) (pv 1))))),?_⟩
  rcases h with⟨i,D,x,h,b,rfl,kd,e,k⟩|⟨i,D,h,b,rfl,kd,e,O,S,k⟩
  .obtain⟨dd,j⟩:=kd.e;refine⟨_,U,_,U,i,_,dd,_,_,U,j,(T 10),(T 28),U,D,some (.ref x),U,.inl ⟨_,Sum.inr h,.inl kd.d,U,e.symm⟩,_,U,QC ?_⟩;exact⟨_,U,i,_,dd,_,_,U,j,(T 10),(T 28),U,_,U,D,_,U,.inl ⟨_,Sum.inr h,.inl kd.d,U,e.symm⟩,k⟩
  .obtain⟨dd,j⟩:=kd.e;refine⟨_,U,_,U,i,_,dd,_,_,U,j,(T 10),(T 28),U,D,none,U,.inl ⟨_,Sum.inr h,.inl kd.d,U,e.symm⟩,_,U,QT ?_⟩;refine⟨_,U,?_⟩;intro x dx nx r V;refine⟨x,dx,h,IB,U,Qb,S,qt.mpr rfl,∅,λH1 g X Y R Z h2 h3=>⟨U,?_⟩⟩;have s:∀c o,H c=some o->H1 c=some o/\g.own c=0:=λc o q=>X c o (Qc q nx) (by rw[Qa (Qc q nx),Qa (Qc q r)];exact q);obtain⟨l,oD⟩:=s _ _ kd.d;obtain⟨t,_⟩:=s _ _ j;have nD:∀{c:qd}{o:HO},H1 c=some o->(∀u,o≠.dK u)->c≠D:=λq n z=>by
    rw[z,l] at q
    injection q with q
    exact n _ q.symm
   refine⟨_,U,i,_,dd,_,_,U,t,(T 10),(T 28),U,_,U,D,_,U,Uy.k (k:=Sum.inr h) l (QI (by rw[ql];omega)),?_⟩;have G:=R.seven oD l;have m:({g with own:=λc=>if c=D then 7 else g.own c}:Sg).x=x:=Y;generalize d:({g with own:=λc=>if c=D then 7 else g.own c}:Sg)=f at G m;have I:f.own D=7:=by subst d;exact qP rfl
   have o0:∀c,c≠D->f.own c=g.own c:=λc n=>by subst d;exact qJ n
   have r1:f.rs=[]:=by subst d;exact Z
   have r2:f.ls=[]:=by subst d;exact h2
   have r3:f.bx=[]:=by subst d;exact h3
   have J:=G.law (H':=upd H1 D (.dK (Ye (vH b) (Sum.inr h) (.ref x)))) λc o q z=>by
    by_cases y:c=D
    .subst y;rw[l] at q;cases q;exact z.elim (λz=>absurd I z) λz=>nomatch z
    .rw[Qa y];exact q
   have L:∀c o,H1 c=some o->(f.qu H1).own c=f.own c:=λc o q=>Qm q;have v:(upd H1 D (.dK (Ye (vH b) (Sum.inr h) (.ref x)))) i=some (.ins (a 95) dd [("rooms",.ref D)]):=(Qa (nD t λ_ z=>nomatch z)).trans t;have B:(upd H1 D (.dK (Ye (vH b) (Sum.inr h) (.ref x)))) D=some (.dK (vH (b++[(h,x)]))):=Qb.trans (by rw[MH e]);have keep:∀c o,c≠D->H c=some o->(upd H1 D (.dK (Ye (vH b) (Sum.inr h) (.ref x)))) c=some o/\(f.qu H1).own c=0:=λc o n q=>by
    obtain⟨C,F⟩:=s c o q;exact⟨by rw[Qa n];exact C,(L c o C).trans ((o0 c n).trans F)⟩
   have C:(f.qu H1).own D=7:=(L _ _ l).trans I;generalize upd H1 D (.dK (Ye (vH b) (Sum.inr h) (.ref x)))=H2 at J v B keep;refine⟨_,U,i,_,dd,_,_,U,v,(T 10),(T 28),U,_,U,D,_,U,.inl ⟨_,Sum.inr h,.inl B,U,(R6 e).symm⟩,?_⟩;have F:(f.qu H1).x=x:=m;have:=k H2 (f.qu H1) keep C (by rw[F];exact nx) ⟨⟨dd,v⟩,by rw[F];exact B⟩ J r1 r2 r3;rw[F] at this;exact this
theorem DD{a:qd}{α:Type}{xs:qa α}{fr:qa (Nat×qc)}{q:TE}(g:α->qd)(f1 f2 r f:α->V)(hz:xs.length<=sizeLine)(hS:zN K H1 a (xs.map λx=>V.ref (g x)))
 (k:∀x∈xs,∀c,Qi H1 c->jj K c (g x) [f1 x,f2 x,r x])
 (l:∀(x:α)(c:Hp)(Q':VK),x∈xs->Qi H1 c->(∀n,Qi c n->Q' (f x) n)->q (some (f1 x)::some (f2 x)::some (r x)::yx σ fr) c Q')
 (s:∀D d,H1 D=none->Qi H1 d->d D=some (.lst (xs.map f))->Q (.ref D) d) :
 XZ K (g7 K a) fr q σ H1 Q:=by
 intro D o;refine⟨λi m ys d=>m=xs.length-i/\i<=xs.length/\ys=(xs.map f).take i/\Qi H1 d/\d D=some (.lst ys),⟨xs.length,by simp,za _,by simp,Qi.zq o,Qb⟩,?_⟩;rintro i m ys d ⟨rfl,u,rfl,s2,p⟩;refine⟨p,?_⟩;have h:=s2.seq hS;by_cases b:i<xs.length
 .have j:(xs.map λx=>V.ref (g x))[i]?=some (V.ref (g xs[i])):=by rw[qQ,qv b];rfl
  refine .inr ⟨⟨_,_,h,j⟩,?_⟩;rintro v c ⟨rfl,t⟩;have ev:=t _ h;rw[j] at ev;cases ev;refine⟨g xs[i],_,_,_,U,k xs[i] (zu b) c s2,l xs[i] c _ (zu b) s2 λn s4=>⟨s4 _ _ p,?_,xs.length-(i+1),⋯,U,b,?_,(s2.trans s4).jl o,Qb⟩⟩
  .rw[zY,ql];omega
  .rw[zR,qQ,qv b];rfl
 .have e:i=xs.length:=by omega
  subst e;refine .inl ⟨⟨_,h,by rw[ql];exact qz _⟩,s D d o s2 ?_⟩;rw[p,ja (by rw[ql];exact qz _)]
def vw(hd:qc)(i:Nat):qc:=hd++Str.ofString (toString ((i+1:Nat):Int))
theorem IQ:∀i:Nat,i<40->∀j:Nat,j<40->Str.ofString (toString ((i+1:Nat):Int))=Str.ofString (toString ((j+1:Nat):Int))->i=j:=by decide +kernel
theorem RT:∀c∈hS.cps.toList,c∈aZ.cps.toList:=by decide +kernel
theorem Rt{z:qc}(h:x++y=x++z):y=z:=VJ (List.append_cancel_left (by rw[<-Yr,<-Yr,h]))
theorem Ta(a:i<40)(b:j<40)(h:vw hd i=vw hd j):i=j:=IQ i a j b (Rt h)
theorem By(h:QN hd)(b:i<200):Uj (vw hd i):=by
 obtain⟨d,f,a⟩:=WH (i+1) ⋯;have g:=h.lo;have j:=h.hi;have e:(vw hd i).length=hd.length+(Str.ofString (toString ((i+1:Nat):Int))).length:=z1 _ _;refine⟨⋯,⋯,λc hc=>?_⟩;unfold vw at hc;rw[Yr] at hc;rcases qF.mp hc with z|z
 .exact RT c (qH (zi.mp h.gz c z))
 .exact qH (zi.mp a c z)
def nms(hd:qc)(n:Nat):qg:=(List.range n).map (vw hd)
theorem Gu(hd:qc)(n:Nat):nms hd (n+1)=nms hd n++[vw hd n]:=by unfold nms;rw[vo,qE];rfl
theorem IS(b:n<40):vw hd n∉nms hd n:=λz=>by
 obtain⟨i,a,e⟩:=qw.mp z;have a:=jK.mp a;have:=Ta ⋯ b e;omega
structure we(a:jk)(H:Hp)(dk D:qd)(hd:qc)(n:Nat)(mr:qa (qc×qd))(g:Sg):Prop where
 k:X6 a H dk D ((hd,g.x)::mr)
 R:Rm a H hd IB (nms hd n).reverse g
 o7:g.own D=7
 ok:g.own dk=0\/g.own dk=7
 pn:Kb g.rs=n
 rn:g.rs.length=n
 bx:g.bx=(nms hd n).map λm=>(m,ZZ)
 mm:∀m∈nms hd n,g.mm m=[]
theorem we.quiet{b:qd}(h:we a H b D hd n mr g)(s:Qi H H'):we a H' b D hd n mr (g.qu H):=
 ⟨⟨let ⟨dd,e⟩:=h.k.e;⟨dd,s _ _ e⟩,s _ _ h.k.d⟩,h.R.quiet s,(Qm h.k.d).trans h.o7,(let ⟨_,e⟩:=h.k.e;by show QQ _ _ _ _=_\/QQ _ _ _ _=_;rw[Qm e];exact h.ok),h.pn,h.rn,h.bx,h.mm⟩
theorem we.beh{b:qd}(h:we a H b D hd n mr g):VC hd g.rs=vw hd n:=by unfold VC vw;rw[h.pn]
theorem we.step{f:qd}{g':Sg}{p:LD}(h:we a H f D hd n mr g)(R:Rm a H' hd IB (VC hd g.rs::(nms hd n).reverse) g')(st:Stp H H' g g' (.put (VC hd g.rs) p)):we a H' f D hd (n+1) mr g':=by
 obtain⟨dd,e⟩:=h.k.e;obtain⟨k1,k2⟩:=st.kl _ _ h.k.d (.inr (.inl h.o7));obtain⟨k3,j⟩:=st.kl _ _ e (h.ok.elim .inl λz=>.inr (.inl z));obtain⟨x,q,u,d⟩:=st.rs;have i:=h.beh;rw[i] at R d;have b:=st.bx;have c:=st.mm;rw[i] at b c;refine⟨⟨⟨dd,k3⟩,by rw[st.x];exact k1⟩,by rw[Gu,List.reverse_append];exact R,k2.trans h.o7,by rw[j];exact h.ok,?_,by rw[d,qA,h.rn];rfl,?_,λm hm=>?_⟩
 .have:=h.pn;unfold Kb at this⊢;rw[d,zz,qA,this];rfl
 .rw[b,Gu,qE,<-h.bx];rfl
 .rw[c];show(if m=vw hd n then [] else g.mm m)=[];rw[Gu] at hm;rcases qF.mp hm with z|z
  .rw[h.mm m z];exact ite_self _
  .rw[qt.mp z,qP rfl]
theorem we.first{b:qd}(k:X6 a H b D [(hd,g.x)])(R:Rm a H hd IB [] g)(o7:g.own D=7)(ok:g.own b=0\/g.own b=7)(c:g.rs=[])(d:g.bx=[]):we a H b D hd 0 [] g:=
 ⟨k,R,o7,ok,by rw[c];rfl,by rw[c];rfl,by rw[d];rfl,λm hm=>nomatch hm⟩
def tS(n:Nat):qc:=Str.ofString (toString ((n:Nat):Int))
def EJ(n:Nat):qc:=((("inbox ":qc)++tS n)++" ")++tS n
theorem P8:(Str.empty++ZZ)++" "=("inbox ":qc):=by decide +kernel
theorem LL(h:n<=100):(tS n).length<=3:=(WH n ⋯).1
theorem Of(h:n<=100):(EJ n).length<=1000:=by
 have:=LL h;have a:("inbox ":qc).length=6:=by decide +kernel
 have b:(" ":qc).length=1:=by decide +kernel
 unfold EJ;rw[z1,z1,z1,a,b];omega
inductive Ma(K:Frag)(a:jk)(vs:qa V)(H:Hp)(Q:VK)(E:XK):Prop
 |mk:∀(dk D:qd)(hd:qc)(n:Nat)(mr:qa (qc×qd))(g:Sg)(L:qd)(w d:qc)(k:Int),vs=[.ref g.x,.ref L]->we a H dk D hd n mr g->zN K H L [.str w,.str d]->Uj w->PySem.intText? d=some k->d.length<=640->0<=k->k<=9999->n<=20 ->
   (∀H' g',we a H' dk D hd (n+1) mr g'->KL g.own g'.own H H'->g'.x=g.x->Q (.str (vw hd n)) H')->Ma K a vs H Q E
inductive Mf(vs:qa V)(H:Hp)(Q:VK)(E:XK):Prop
 |mk:∀n:Nat,vs=[.str ZZ,.int n,.int n]->n<=100->Q (.str (EJ n)) H->Mf vs H Q E
theorem ax:UR (yD ""++yD "")=[]:=by decide +kernel
theorem HC:Txt.join " " []="":=by decide +kernel
theorem PH(T:Txt P w K mg base a fd):T.k jg 18 22 (Ma K a):=by
 refine T.ok 22 (λl A outer st H vs Q E u h=>?_)
 .obtain⟨v,D,hd,n,mr,g,L,w,d,i,rfl,ds,hS,hw,m,o,q,r,x,k⟩:=h;refine⟨_,(Qd (Qv (i:=2) (sc 22).nd Qk)
   (Qd (Qv (i:=3) (sc 22).nd (U5 K7 (pv 1) (VO Qj) VP))
   (Qd (QG (PW.pt (Vl (Qx M3 (Qs QU rfl (T 3) zx (zj (pv 3) Qg)) Qj) (Vl (Qx Uq Bt Bt) (UX (Yk Bt))))) YT Qq)
   (Qe (Qp (T.me (pv 0) (T 4) (T 138) (PD T) (zj (Qt Q2 (pv 1) Qj) (zj (WW plainAttrs_str PySem.F.slot_str_join PySem.F.type_str_join Hy Qk (zj (pv 3) Qg)) (zj Qk (zj (Yn Af rfl (T 42) boot_int (zj (Qt Q2 (pv 1) Qj) Qg)) (zj (pv 2) Qg))))))))))),?_⟩
  refine⟨_,U,_,U,L,_,U,hS,λp H1 y s1 c=>?_⟩;have c:H1 p=some (.lst []):=c;dsimp only[Q8];have b:=ds.quiet s1;refine⟨_,U,p,_,U,.inl (zN.of c),_,_,U,U,_,U,QC (QC ?_)⟩;have s:=b.R.e;have f:=s1.seq hS;refine⟨_,U,g.x,g.dx,_,U,s,U,_,U,L,_,_,_,U,U,f,at0,U,_,U," ",p,[],U,U,zN.of c,∅,?_⟩;rw[HC];refine⟨_,U,L,_,_,_,U,U,f,at1,d,i,U,o,m,_,U,?_⟩;have e:=ds.beh;refine⟨hd,IB,_,g.qu H,⟨w,"","",i,""⟩,U,b.R,by show g.rs.length<=30;rw[ds.rn];omega,⟨hw,nofun,za _,nofun,nofun,za _,q,r,.inl rfl⟩,?_,?_,?_,?_,λj g' t st=>?_⟩
  .show Uj (VC hd g.rs);rw[e];exact By ds.R.hh ⋯
  .show VC hd g.rs∉_;rw[e];exact λz=>IS ⋯ (List.mem_reverse.mp z)
  .show ∀w∈UR (yD ""++yD ""),w∈IB;rw[ax];exact λ_ z=>nomatch z
  .show(UR (yD ""++yD "")).length<=60;rw[ax];decide
  .show Q (.str (VC hd g.rs)) j;rw[e];exact k j g' (b.step t st) ((KL.same 7 s1).trans st.kl) st.x
theorem PL(T:Txt P w K mg base a fd):T.k jg 1 23 Mf:=by
 refine T.ok 23 (λf A outer st H vs Q E l h=>?_)
 .obtain⟨n,rfl,b,k⟩:=h;refine⟨_,(Qe (Qp (bD (Xi (Ef (pv 0)) (Xi Qk (Xi (Ef (pv 1)) (Xi Qk (Xi (Ef (pv 2)) SK)))))))),?_⟩;have m:=LL b;have c:(n:Int).natAbs.log2<1920:=by rw[j8];exact jh (yq _) ⋯
  have d:("inbox ":qc).length=6:=by decide +kernel
  have g:(" ":qc).length=1:=by decide +kernel
  have i:(((Str.empty++ZZ)++" ")++tS n).length<=sizeLine:=by rw[P8,z1,d];exact Yd (⋯)
  have j:((((Str.empty++ZZ)++" ")++tS n)++" ").length<=sizeLine:=by rw[P8,z1,z1,d,g];exact Yd (⋯)
  have e:(((((Str.empty++ZZ)++" ")++tS n)++" ")++tS n).length<=sizeLine:=by rw[P8];exact Yd ((Of b))
  refine⟨_,U,.str _ rfl ∅ ⟨_,U,∅,_,U,∅,_,U,.int _ rfl c ⟨_,U,i,_,U,j,_,U,.int _ rfl c ⟨_,U,e,e,?_⟩⟩⟩⟩;show Q (.str (((((Str.empty++ZZ)++" ")++tS n)++" ")++tS n)) H;rw[P8];exact k
def due(n:Nat):qg:=if n=0 then [] else [EJ n]
abbrev gk(ms:qg):Rows:=ms.map λm=>(m,ZZ)
theorem Wc(ms:qg):QL (gk ms) ZZ=ms:=by
 unfold QL;rw[zZ.mpr (λr a=>by obtain⟨m,_,rfl⟩:=qw.mp a;exact qx rfl),zg];exact List.map_id' _
theorem Pa{ms:qg}(h:t≠ZZ):QL (gk ms) t=[]:=by
 unfold QL;rw[j5.mpr (λr a=>by obtain⟨m,_,rfl⟩:=qw.mp a;exact λz=>h (qH z).symm)];rfl
inductive K3(K:Frag)(a:jk)(vs:qa V)(H:Hp)(Q:VK):Prop
 |fol:∀(hd:qc)(N ms:qg)(g:Sg)(L:qd),vs=[.ref g.x,.str Za,.ref L]->Rm a H hd IB N g->g.bx=gk ms->(∀m∈ms,g.mm m=[])->ms.length<=100->(∀l H',H l=none->Qi H H'->H' l=some (.lst ((due ms.length).map V.str))->Q (.ref l) H')->K3 K a vs H Q
 |nam:∀(hd:qc)(N ms:qg)(g:Sg)(L:qd),vs=[.ref g.x,.str Zh,.ref L]->zN K H L [.str ZZ]->Rm a H hd IB N g->g.bx=gk ms->(∀l H',H l=none->Qi H H'->H' l=some (.lst ((Q3 ms).map V.str))->Q (.ref l) H')->K3 K a vs H Q
def Sv(K:Frag)(a:jk):Sp:=λvs H Q _=>K3 K a vs H Q
theorem Eh{ms ks:qg}{a:qa OT}(f:ks.Nodup)(h:∀t,t∈ks↔QL (gk ms) t≠[])(e:a.map (·.2)=Q3 ks):(ms=[]/\a=[])\/(ms≠[]/\∃u,a=[(u,ZZ)]):=by
 have only:∀t∈ks,t=ZZ:=λt b=>yt λn=>(h t).mp b (Pa n)
 cases ms with
 |nil=>
  have:ks=[]:=List.eq_nil_iff_forall_not_mem.mpr λt b=>(h t).mp b (by rw[only t b,Wc]);subst this;have:a.map (·.2)=[]:=e;exact .inl ⟨U,List.map_eq_nil_iff.mp this⟩
 |cons m r=>
  have g:ZZ∈ks:=(h _).mpr (by rw[Wc];exact zp _ _);have i:ks=[ZZ]:=by
   cases ks with
   |nil=>cases g
   |cons k j=>
    have d:=only k qB
    cases j with
    |nil=>rw[d]
    |cons k2 l=>
     have c:=only k2 (qK _ qB);exact absurd (d.trans c.symm▸qB:k∈k2::l) (zV.mp f).1
  subst i;have c:Q3 [ZZ]=[ZZ]:=by decide +kernel
  rw[c] at e;refine .inr ⟨zp _ _,?_⟩
  match a,e with
  |[(u,t)],e=>exact⟨u,by injection e with e _;rw[show t=ZZ from e]⟩
theorem Nu(T:Txt P w K mg base a fd):T.k jg 5 24 (Sv K a):=by
 refine T.ok 24 (λy A outer st H vs Q E B h=>?_) (λvs H Q E h=>by rcases h with⟨hd,N,ms,g,L,rfl,_⟩|⟨hd,N,ms,g,L,rfl,_⟩<;>rfl)
 .have j:Yf 4 _:=B;refine⟨_,(Qd (QG (Qx Uq (pv 1) Qk) (Qe Yw) Qq)
   (Qd (QG (Qx Uq (pv 1) Qk) (Qe (Qp (MW (sc:=Qr (sO 24)) (N:=(nn 24)) (fr:=[]) ⟨U,U,U,U,∅,∅,∅,∅,∅⟩ rfl rfl rfl (Yt (CT (pv 0) (T 4) (T 140) (CW T) j (T.B 81) .nil UN)) (λ_ _ _ _=>(T.cl (PL T) (zj (pv 0) (zj (pv 1) (zj (pv 2) Qg)))))))) Qq)
   (Qd (QG (Qx Uq (pv 1) Qk) (Qe (Qp (T.me (pv 0) (T 4) (T 141) (Bv T) (zj (Qt Q2 (pv 2) Qj) Qg)))) Qq)
   YT))),?_⟩
  rcases h with⟨hd,N,ms,g,L,rfl,R,n,hm,d,k⟩|⟨hd,N,ms,g,L,rfl,hS,R,n,k⟩
  .obtain⟨b,i,_⟩:=R.B.f;refine⟨_,U,U,_,U,?_⟩;rw[Yz,qD ∅];refine QC ⟨_,U,U,_,U,?_⟩;rw[Yz,qx rfl];rw[n] at i;refine QT ⟨_,U,g.x,g.dx,_,U,R.e,U,R.vf ⟨g.xf,_,_,_,_,_,b,U,i,λl H1 v ks C _ p r nl s1 s=>?_⟩⟩;have hf:=Eh C p r;have F:v.length<=1:=by rcases hf with⟨_,e⟩|⟨_,u,e⟩<;>rw[e]<;>first|exact za _|exact qz _
   have G:gY (gk ms) ZZ=(ms.length:Int):=by unfold gY;rw[Wc]
   have I:cU (gk ms) g.mm ZZ=(ms.length:Int):=by
    unfold cU nMk;rw[Wc,j5.mpr λm c=>by rw[hm m c];exact λz=>nomatch (qH z:_∈([]:qg))];show((ms.length:Nat):Int)-0=_;omega
   refine⟨l,U,⟨_,zN.of s.1⟩,DD (K:=K) (xs:=v) (λq=>q.1) (λq=>.str q.2) (λq=>.int (gY (gk ms) q.2)) (λq=>.int (cU (gk ms) g.mm q.2)) (λ_=>.str (EJ ms.length)) (Yd (⋯)) (zN.of s.1) (λq c J s3=>jj.of (s3 _ _ (s.2 q c))) (λq J Q' c s3 M=>?_) λD O x s2 S=>?_⟩
   .obtain⟨u,rfl⟩:∃u,q=(u,ZZ):=by
     rcases hf with⟨_,e⟩|⟨_,u,e⟩
     .rw[e] at c;cases c
     .rw[e] at c;exact⟨u,qt.mp c⟩
    refine⟨_,U,_,U,_,U,ms.length,?_,d,M _ (Qi.refl _)⟩;show[V.str ZZ,.int (gY (gk ms) ZZ),.int (cU (gk ms) g.mm ZZ)]++[]=_;rw[G,I];rfl
   .refine k D O (by cases z:H D with|none=>rfl|some o=>rw[s1 _ _ z] at x;cases x) (s1.trans s2) ?_;rw[S];rcases hf with⟨f,t⟩|⟨f,u,t⟩
    .subst f t;rfl
    .subst t;unfold due;rw[qJ λz=>f (jz.mp z)];rfl
  .obtain⟨b,i,_⟩:=R.B.f;refine⟨_,U,U,_,U,?_⟩;rw[Yz,qD ∅];refine QC ⟨_,U,U,_,U,?_⟩;rw[Yz,qD ∅];refine QC ⟨_,U,U,_,U,?_⟩;rw[Yz,qx rfl];refine QT ⟨_,U,g.x,g.dx,_,U,R.e,U,_,U,L,_,_,_,U,U,hS,at0,R.vf ⟨_,_,_,_,_,_,b,ZZ,U,i,λl H1 nl s1 f=>k l H1 nl s1 ?_⟩⟩;rw[f,n,Wc]
inductive kA(a:jk)(H:Hp)(dk D:qd)(hd:qc)(cl:qd)(cs:qa V)(n:Nat)(mr:qa (qc×qd)):Prop
 |mk:∀(g:Sg),we a H dk D hd n mr g->H cl=some (.lst cs)->(g.own cl=0\/g.own cl=7)->kA a H dk D hd cl cs n mr
inductive Ds(a:jk)(H:Hp)(dk D:qd)(hd:qc)(cl:qd)(cs:qa V)(n:Nat):Prop
 |no:n=0->X6 a H dk D []->H cl=some (.lst cs)->Ds a H dk D hd cl cs n
 |yes:kA a H dk D hd cl cs n []->Ds a H dk D hd cl cs n
section
variable {a:jk}{fd:Nat->FuncData}{H H':Hp}{dk D:qd}{hd:qc}{cl:qd}{cs:qa V}{n:Nat}{mr:qa (qc×qd)}
theorem kA.quiet(h:kA a H dk D hd cl cs n mr)(s:Qi H H'):kA a H' dk D hd cl cs n mr:=by
 obtain⟨g,d,e,o⟩:=h;refine⟨g.qu H,d.quiet s,s _ _ e,?_⟩;show QQ _ _ _ _=_\/QQ _ _ _ _=_;rw[Qm e];exact o
theorem X6.quiet{b:qa (qc×qd)}(h:X6 a H dk D b)(s:Qi H H'):X6 a H' dk D b:=⟨let ⟨dd,e⟩:=h.e;⟨dd,s _ _ e⟩,s _ _ h.d⟩
theorem Ds.quiet(h:Ds a H dk D hd cl cs n)(s:Qi H H'):Ds a H' dk D hd cl cs n:=by
 cases h with
 |no h0 k e=>exact .no h0 (k.quiet s) (s _ _ e)
 |yes h=>exact .yes (h.quiet s)
theorem kA.fresh(h:kA a H dk D hd cl cs n mr)(nl:H l=none)(s:Qi H H1)(f:∃xs,H1 l=some (.lst xs)):kA a (upd H1 l o) dk D hd cl cs n mr:=by
 obtain⟨g,d,e,r⟩:=h;obtain⟨xs,f⟩:=f;have b:=d.quiet s;have ol:(g.qu H).own l=7:=Uu nl;obtain⟨dd,k⟩:=b.k.e;have p:=s _ _ e;have i:cl≠l:=Qc e nl;have j:dk≠l:=QM k f λz=>nomatch z;have m:D≠l:=QM b.k.d f λz=>nomatch z;have R:=b.R.law (H':=upd H1 l o) λc u q z=>by
  by_cases y:c=l
  .subst y;rw[f] at q;cases q;exact z.elim (λz=>absurd ol z) λz=>nomatch z
  .rw[Qa y];exact q
 refine⟨(g.qu H).qu H1,⟨⟨⟨dd,(Qa j).trans k⟩,(Qa m).trans b.k.d⟩,R,(Qm b.k.d).trans b.o7,?_,b.pn,b.rn,b.bx,b.mm⟩,(Qa i).trans p,?_⟩
 .show QQ _ _ _ _=_\/QQ _ _ _ _=_;rw[Qm k];exact b.ok
 .show QQ _ _ _ _=_\/QQ _ _ _ _=_;rw[Qm p];show QQ _ _ _ _=_\/QQ _ _ _ _=_;rw[Qm e];exact r
theorem Ds.fresh(h:Ds a H dk D hd cl cs n)(nl:H l=none)(s:Qi H H1)(c:∃xs,H1 l=some (.lst xs)):Ds a (upd H1 l o) dk D hd cl cs n:=by
 cases h with
 |no h0 k e=>
  obtain⟨dd,b⟩:=k.e;exact .no h0 ⟨⟨dd,(Qa (Qc b nl)).trans (s _ _ b)⟩,(Qa (Qc k.d nl)).trans (s _ _ k.d)⟩ ((Qa (Qc e nl)).trans (s _ _ e))
 |yes h=>exact .yes (h.fresh nl s c)
end
structure cB(a:jk)(H:Hp)(dk D:qd)(hd:qc)(cl:qd)(cs:qa V)(n:Nat)(l:qd)(xs:qg):Prop where
 e:H l=some (.lst (xs.map V.str))
 d:Ds a H dk D hd cl cs n
 w:∀(H1:Hp)(o:HO),Qi H H1->Ds a (upd H1 l o) dk D hd cl cs n
theorem Ds.told{dk:qd}{cl:qd}{xs:qg}(h:Ds a H dk D hd cl cs n)(nl:H l=none)(s:Qi H H')(e:H' l=some (.lst (xs.map V.str))):cB a H' dk D hd cl cs n l xs:=
 ⟨e,h.quiet s,λH1 o s1=>h.fresh nl (s.trans s1) ⟨_,s1 _ _ e⟩⟩
structure VD(a:jk)(H:Hp)(dk D:qd)(hd:qc)(cl:qd)(cs:qa V)(n:Nat)(mr:qa (qc×qd))(l:qd)(xs:qg):Prop where
 e:H l=some (.lst (xs.map V.str))
 d:kA a H dk D hd cl cs n mr
 w:∀(H1:Hp)(o:HO),Qi H H1->kA a (upd H1 l o) dk D hd cl cs n mr
theorem kA.told{b:qd}{cl:qd}{xs:qg}(h:kA a H b D hd cl cs n mr)(nl:H l=none)(s:Qi H H')(e:H' l=some (.lst (xs.map V.str))):VD a H' b D hd cl cs n mr l xs:=
 ⟨e,h.quiet s,λH1 o s1=>h.fresh nl (s.trans s1) ⟨_,s1 _ _ e⟩⟩
inductive VL(K:Frag)(a:jk)(vs:qa V)(H:Hp)(Q:VK)(E:XK):Prop
 |bad:∀(dk L:qd)(ps:qg),vs=[.ref dk,.ref L]->zN K H L (ps.map V.str)->ps.length<=1000->(∀p∈ps,p.length<=1000)->VM ps=false->(∀H',Qi H H'->E (.ref (a 101)) none H')->VL K a vs H Q E
 |put:∀(dk D L:qd)(hd w d:qc)(cl:qd)(cs:qa V)(n:Nat)(i:Int),vs=[.ref dk,.ref L]->zN K H L ([hd,ZJ,w,d].map V.str)->Ds a H dk D hd cl cs n->QN hd->Uj w->PySem.intText? d=some i->d.length<=4->(d.cps.toList.all λc=>decide (c∈Ae.cps.toList))=true->0<=i->i<=9999->n<=20->(∀l H',VD a H' dk D hd cl cs (n+1) [] l [vw hd n]->Q (.ref l) H')->VL K a vs H Q E
 |fol:∀(dk D L:qd)(hd:qc)(cl:qd)(cs:qa V)(n:Nat),vs=[.ref dk,.ref L]->zN K H L ([hd,Za].map V.str)->Ds a H dk D hd cl cs n->QN hd->n<=20->(∀l H',VD a H' dk D hd cl cs n [] l (due n)->Q (.ref l) H')->VL K a vs H Q E
 |oth:∀(dk D L:qd)(hd ot:qc)(cl:qd)(cs:qa V)(n:Nat),vs=[.ref dk,.ref L]->zN K H L ([ot,Za].map V.str)->kA a H dk D hd cl cs n []->QN ot->ot≠hd->(∀x l H',VD a H' dk D hd cl cs n [(ot,x)] l []->Q (.ref l) H')->VL K a vs H Q E
 |nam:∀(dk D L:qd)(hd:qc)(cl:qd)(cs:qa V)(n:Nat)(mr:qa (qc×qd)),vs=[.ref dk,.ref L]->zN K H L ([hd,Zh,ZZ].map V.str)->kA a H dk D hd cl cs n mr->QN hd->n<=20->(∀l H',VD a H' dk D hd cl cs n mr l (Q3 (nms hd n))->Q (.ref l) H')->VL K a vs H Q E
def aY(K:Frag)(a:jk):Sp:=λvs H Q E=>VL K a vs H Q E
theorem Sr{b:Hp}{a:qa (Key×V)}(k:∀c o,c≠D->H c=some o->b c=some o)(d:H D=some (.dK a))(h:zN K H L xs):zN K b L xs:=by
 rcases h with(h|⟨o,h⟩)|h
 .exact .inl (.inl (k _ _ (QM h d λz=>nomatch z) h))
 .exact .inl (.inr ⟨o,k _ _ (QM h d λz=>nomatch z) h⟩)
 .exact .inr h
theorem Ds.dk{dk:qd}{cl:qd}(h:Ds a H dk D hd cl cs n):∃b,X6 a H dk D b:=by
 cases h with
 |no _ k _=>exact⟨_,k⟩
 |yes h=>obtain⟨g,d,_⟩:=h;exact⟨_,d.k⟩
theorem Ds.room{dk:qd}{cl:qd}(h:Ds a H dk D hd cl cs n)(l:QN hd)(k:∀b g,(∀c o,c≠D->H c=some o->b c=some o)->we a b dk D hd n [] g->b cl=some (.lst cs)->(g.own cl=0\/g.own cl=7)->Q (.ref g.x) b):Wz a [.ref dk,.str hd] H Q:=by
 cases h with
 |no h0 kd e=>
  subst h0;obtain⟨dd,j⟩:=kd.e;refine .new dk D hd [] rfl kd rfl ∅ l λb g f m nx i R p v r=>?_;obtain⟨s,t⟩:=f cl _ (QM e kd.d λz=>nomatch z) e;obtain⟨_,u⟩:=f dk _ (QM j kd.d λz=>nomatch z) j;exact k b g (λc o n q=>(f c o n q).1) (.first i R m (.inl u) p r) s (.inl t)
 |yes h=>
  obtain⟨g,d,e,o⟩:=h;refine .old dk D g.x hd _ rfl d.k ?_ (k H g (λc o _ q=>q) d e o);show Option.map _ (List.find? _ ((Sum.inr hd,V.ref g.x)::[]))=_;rw[j6 (by exact qx rfl)];rfl
theorem Ie{a:qc}{x:qd}(h:a≠hd):Qy (vH [(hd,x)]) (Sum.inr a)=none:=by
 show Option.map _ (List.find? _ ((Sum.inr hd,V.ref x)::[]))=_;rw[j7 (by simpa using λz:hd=a=>h z.symm)];rfl
theorem Ig{x:qd} :Qy (vH ((hd,x)::mr)) (Sum.inr hd)=some (.ref x):=by
 show Option.map _ (List.find? _ ((Sum.inr hd,V.ref x)::vH mr))=_;rw[j6 (by exact qx rfl)];rfl
theorem Kz(hd:qc)(n:Nat):(nms hd n).length=n:=by unfold nms;rw[ql,zS]
theorem F7{w d:qc}(h:QN hd)(f:d.length<=4)(hf:(d.cps.toList.all λc=>decide (c∈Ae.cps.toList))=true):VM [hd,ZJ,w,d]=true:=by
 have e:FR.find? (λq=>decide (q.1=ZJ))=some (ZJ,[V.int 2,V.non]):=by decide +kernel
 have a:(!decide (ZJ∈([Zl,Zm]:qg)))=true:=by decide +kernel
 have b:BN [w,d]=true:=by
  show(decide ((d.length:Int)<=4)&&d.cps.toList.all λc=>decide (c∈Ae.cps.toList))=true;rw[hf,qx ⋯];rfl
 show(YA hd&&YM ZJ [w,d])=true;unfold YM;rw[h.b,e];show(true&&(true&&((_||BN [w,d])&&(!decide (ZJ∈([Zl,Zm]:qg))||_))))=true;rw[a,b,Bool.or_true];rfl
theorem Kt(h:QN hd):VM [hd,Za]=true:=by
 show(YA hd&&YM Za [])=true;rw[h.b,show YM Za []=true by decide +kernel];rfl
theorem F8(h:QN hd):VM [hd,Zh,ZZ]=true:=by
 show(YA hd&&YM Zh [ZZ])=true;rw[h.b,show YM Zh [ZZ]=true by decide +kernel];rfl
theorem C5(T:Txt P w K mg base a fd):T.k (vd P w) 19 85 (aY K a):=by
 obtain⟨X,mD,Z⟩:=(T 78);refine(T.F 85).okXD (sc 85) (λvs H Q E h=>?_) (λcdv A outer s H vs Q E hr h=>?_)
 .rcases h with⟨b,L,ps,rfl,_⟩|⟨b,D,L,hd,w,d,cl,cs,n,i,rfl,_⟩|⟨b,D,L,hd,cl,cs,n,rfl,_⟩|⟨b,D,L,hd,B,cl,cs,n,rfl,_⟩|⟨b,D,L,hd,cl,cs,n,mr,rfl,_⟩<;>rfl
 .have R:Yf 18 _:=hr;have hz:=W6;obtain⟨t5,h5,qp,qf,qo,qn⟩:∃t,yU (Uw (vd P w) P w K mg base (nn 85) "Desk.answered" (Qr (sO 85)) (a 85) cdv A outer s H E) ((QO (sO 85)).drop 4) t /\
   (∀(b D L j:qd)(hd w d:qc)(cl:qd)(cs:qa V)(n:Nat)(i:Int)(H1:Hp),zN K H1 L ([hd,ZJ,w,d].map V.str)->zN K H1 j ([w,d].map V.str)->Ds a H1 b D hd cl cs n->QN hd->Uj w->PySem.intText? d=some i->d.length<=4->0<=i->i<=9999->n<=20->(∀l H',VD a H' b D hd cl cs (n+1) [] l [vw hd n]->Q (.ref l) H')->t {nx:=λ_ H'=>Q .non H',rt:=Q} [some (.ref b),some (.ref L),some (.str ZJ),some (.ref j),none] H1) /\
   (∀(b D L j:qd)(hd:qc)(cl:qd)(cs:qa V)(n:Nat)(H1:Hp),zN K H1 L ([hd,Za].map V.str)->Ds a H1 b D hd cl cs n->QN hd->n<=20->(∀l H',VD a H' b D hd cl cs n [] l (due n)->Q (.ref l) H')->t {nx:=λ_ H'=>Q .non H',rt:=Q} [some (.ref b),some (.ref L),some (.str Za),some (.ref j),none] H1) /\
   (∀(b D L j:qd)(hd B:qc)(cl:qd)(cs:qa V)(n:Nat)(H1:Hp),zN K H1 L ([B,Za].map V.str)->kA a H1 b D hd cl cs n []->QN B->B≠hd->(∀x l H',VD a H' b D hd cl cs n [(B,x)] l []->Q (.ref l) H')->t {nx:=λ_ H'=>Q .non H',rt:=Q} [some (.ref b),some (.ref L),some (.str Za),some (.ref j),none] H1) /\
   (∀(b D L j:qd)(hd:qc)(cl:qd)(cs:qa V)(n:Nat)(mr:qa (qc×qd))(H1:Hp),zN K H1 L ([hd,Zh,ZZ].map V.str)->zN K H1 j ([ZZ].map V.str)->kA a H1 b D hd cl cs n mr->QN hd->n<=20->(∀l H',VD a H' b D hd cl cs n mr l (Q3 (nms hd n))->Q (.ref l) H')->t {nx:=λ_ H'=>Q .non H',rt:=Q} [some (.ref b),some (.ref L),some (.str Zh),some (.ref j),none] H1):=by
   refine⟨_,(Qd (Qv (i:=4) (sc 85).nd (T.me (pv 0) (T 10) (T 145) (Nk T) (zj (Qt Q2 (pv 1) Qj) Qg)))
    (Qd (QG (Qx Uq (pv 2) Qk) (Qe (Qp (QW (Qf (Ky (PH T) R rfl (T 68) (T.F 22).kp (T.B 22) .nil UN (zj (pv 4) (zj (pv 3) Qg))) Qu)))) Qq)
    (Qd (QG (Qx Uq (pv 2) Qk) YT Qq)
    (Qd (QG (Qx Uq (pv 2) Qk) YT Qq)
    (Qd (QG (Qx AI (pv 2) (WE (v:=.ref X) rfl mD rfl) (by with_unfolding_all rfl)) YT Qq)
    (Qe (Qp (T.cl (Nu T) (zj (pv 4) (zj (pv 2) (zj (pv 3) Qg))))))))))),?_,?_,?_,?_⟩
   .intro b D L j hd w d cl cs n i H1 G I ds m hw hi hd4 i0 i1 J k;obtain⟨gb,kd⟩:=ds.dk;obtain⟨dd,r⟩:=kd.e;refine⟨_,U,b,dd,_,U,r,U,_,U,L,_,_,_,U,U,G,at0,ds.room m λM g S N O Y=>?_⟩;dsimp only[Q8];refine⟨_,U,U,_,U,?_⟩;rw[Yz,qx rfl];refine QT ⟨_,U,_,U,b,D,hd,n,[],g,j,w,d,i,U,N,Sr S kd.d I,hw,hi,⋯,i0,i1,J,λF g' d3 kl gx=>⟨by show 1<=sizeLine;decide,λl H4 hl s4 e4=>?_⟩⟩;obtain⟨C,o3⟩:=kl _ _ O (Y.elim .inl λz=>.inr (.inl z));have D3:kA a F b D hd cl cs (n+1) []:=.mk g' d3 C (by rw[o3];exact Y);exact k l H4 (D3.told hl s4 e4)
   .intro b D L j hd cl cs n H1 G ds m J k;obtain⟨gb,kd⟩:=ds.dk;obtain⟨dd,r⟩:=kd.e;refine⟨_,U,b,dd,_,U,r,U,_,U,L,_,_,_,U,U,G,at0,ds.room m λM g S N O Y=>?_⟩;dsimp only[Q8];refine⟨_,U,U,_,U,?_⟩;rw[Yz,qD ∅];refine QC ⟨_,U,U,_,U,?_⟩;rw[Yz,qD ∅];refine QC ⟨_,U,U,_,U,?_⟩;rw[Yz,qD ∅];refine QC ⟨_,U,X,_,U,.inr (Z M),U,WM _,false,(by rw[qJ qO,Wn];exact zt V.bl (qD ∅)),QC ?_⟩;refine⟨_,U,_,U,_,U,.fol hd _ (nms hd n) g j rfl N.R N.bx N.mm (by rw[Kz];omega) λl F nl s3 C=>?_⟩;rw[Kz] at C;have D2:kA a M b D hd cl cs n []:=.mk g N O Y;exact k l F (D2.told nl s3 C)
   .intro b D L j hd B cl cs n H1 G ds m Y k;obtain⟨g,d,e,o⟩:=ds;obtain⟨dd,r⟩:=d.k.e;refine⟨_,U,b,dd,_,U,r,U,_,U,L,_,_,_,U,U,G,at0,.new b D B [(hd,g.x)] rfl d.k (Ie Y) (qT rfl) m λM g2 S o7 nx N R2 r1 r2 r3=>?_⟩;have dH:we a M b D hd n [(B,g2.x)] (g.qu H1):=⟨N,d.R.law λc u q z=>by
     by_cases y:c=D
     .subst y;rw[d.k.d] at q;cases q;exact z.elim (λz=>absurd d.o7 z) λz=>nomatch z
     .exact(S c u y q).1,(Qm d.k.d).trans d.o7,(by show QQ _ _ _ _=_\/QQ _ _ _ _=_;rw[Qm r];exact d.ok),d.pn,d.rn,d.bx,d.mm⟩
    have D2:kA a M b D hd cl cs n [(B,g2.x)]:=.mk _ dH (S cl _ (QM e d.k.d λz=>nomatch z) e).1 (by show QQ _ _ _ _=_\/QQ _ _ _ _=_;rw[Qm e];exact o);dsimp only[Q8];refine⟨_,U,U,_,U,?_⟩;rw[Yz,qD ∅];refine QC ⟨_,U,U,_,U,?_⟩;rw[Yz,qD ∅];refine QC ⟨_,U,U,_,U,?_⟩;rw[Yz,qD ∅];refine QC ⟨_,U,X,_,U,.inr (Z M),U,WM _,false,(by rw[qJ qO,Wn];exact zt V.bl (qD ∅)),QC ?_⟩;exact⟨_,U,_,U,_,U,.fol B _ [] g2 j rfl R2 r3 nofun (za _) λl F nl s3 C=>k g2.x l F (D2.told nl s3 C)⟩
   .intro b D L j hd cl cs n mr H1 G I ds m J k;obtain⟨g,d,e,o⟩:=id ds;obtain⟨dd,r⟩:=d.k.e;refine⟨_,U,b,dd,_,U,r,U,_,U,L,_,_,_,U,U,G,at0,.old b D g.x hd _ rfl d.k Ig ?_⟩;dsimp only[Q8];refine⟨_,U,U,_,U,?_⟩;rw[Yz,qD ∅];refine QC ⟨_,U,U,_,U,?_⟩;rw[Yz,qD ∅];refine QC ⟨_,U,U,_,U,?_⟩;rw[Yz,qD ∅];refine QC ⟨_,U,X,_,U,.inr (Z H1),U,WM _,false,(by rw[qJ qO,Wn];exact zt V.bl (qD ∅)),QC ?_⟩;exact⟨_,U,_,U,_,U,.nam hd _ (nms hd n) g j rfl I d.R d.bx λl F nl s3 C=>k l F (ds.told nl s3 C)⟩
  refine⟨_,(Qd (QG (PW.pt (Vh (Qx Hu (Qs QU rfl (T 3) zx (zj (pv 1) Qg)) Qj) (UQ (Yl (Yk (T.cl (C0 T) (zj (Qt Q2 (pv 1) Qj) Qg))))))) (Qe (Vs (T 29) (T 33) hr.hd rfl (zj Qk Qg))) Qq)
   (Qd (Qv (i:=2) (sc 85).nd (Qt Q2 (pv 1) Qj))
   (Qd (Qv (i:=3) (sc 85).nd (U5 K7 (pv 1) (VO Qj) VP))
   (Qd (Qw (Ky (Nq T) hr.up rfl (T 67) (T.F 21).kp (T.B 21) .nil bE (zj (pv 2) (zj (pv 3) Qg))))
   h5)))),?_⟩
  obtain⟨b,L,ps,rfl,hS,r,N,G,kg⟩:∃(b L:qd)(ps:qg),vs=[.ref b,.ref L]/\zN K H L (ps.map V.str)/\ps.length<=1000/\(∀p∈ps,p.length<=1000)/\(VM ps=false->∀H',Qi H H'->E (.ref (a 101)) none H') /\
   (∀x f gs,ps=x::f::gs->VM ps=true->∀j H1,Qi H H1->zN K H1 j (gs.map V.str)->t5 {nx:=λ_ H'=>Q .non H',rt:=Q} [some (.ref b),some (.ref L),some (.str f),some (.ref j),none] H1):=by
   have hlen:∀{x:qc},QN x->x.length<=1000:=λh=>by have:=h.hi;omega
   have l1:ZJ.length<=1000:=by decide +kernel
   have l2:Za.length<=1000:=by decide +kernel
   have l3:Zh.length<=1000:=by decide +kernel
   have l4:ZZ.length<=1000:=by decide +kernel
   rcases h with⟨b,L,ps,rfl,hS,h1,h2,S,G⟩|⟨b,D,L,hd,w,d,cl,cs,n,i,rfl,hS,ds,m,hw,hi,h4,hf,i0,i1,J,k⟩|⟨b,D,L,hd,cl,cs,n,rfl,hS,ds,m,J,k⟩|⟨b,D,L,hd,B,cl,cs,n,rfl,hS,ds,m,Y,k⟩|⟨b,D,L,hd,cl,cs,n,mr,rfl,hS,ds,m,J,k⟩
   .exact⟨b,L,ps,U,hS,h1,h2,λ_=>G,λx f gs e z=>by rw[S] at z;cases z⟩
   .refine⟨b,L,_,U,hS,qT rfl,λp C=>?_,(λz=>by rw[F7 m h4 hf] at z;cases z),λx f gs e _ j H1 s1 I=>?_⟩
    .have:=hw.hi;have:=hlen m;simp only[qC,zO,yd] at C;rcases C with rfl|rfl|rfl|rfl<;>omega
    .cases e;exact qp b D L j hd w d cl cs n i H1 (s1.seq hS) I (ds.quiet s1) m hw hi h4 i0 i1 J k
   .refine⟨b,L,_,U,hS,qT rfl,λp C=>?_,(λz=>by rw[Kt m] at z;cases z),λx f gs e _ j H1 s1 I=>?_⟩
    .have:=hlen m;simp only[qC,zO,yd] at C;rcases C with rfl|rfl<;>omega
    .cases e;exact qf b D L j hd cl cs n H1 (s1.seq hS) (ds.quiet s1) m J k
   .refine⟨b,L,_,U,hS,qT rfl,λp C=>?_,(λz=>by rw[Kt m] at z;cases z),λx f gs e _ j H1 s1 I=>?_⟩
    .have:=hlen m;simp only[qC,zO,yd] at C;rcases C with rfl|rfl<;>omega
    .cases e;exact qo b D L j hd B cl cs n H1 (s1.seq hS) (ds.quiet s1) m Y k
   .refine⟨b,L,_,U,hS,qT rfl,λp C=>?_,(λz=>by rw[F8 m] at z;cases z),λx f gs e _ j H1 s1 I=>?_⟩
    .have:=hlen m;simp only[qC,zO,yd] at C;rcases C with rfl|rfl|rfl<;>omega
    .cases e;exact qn b D L j hd cl cs n mr H1 (s1.seq hS) I (ds.quiet s1) m J k
  refine⟨_,U,L,_,U,.inl hS,_,_,U,U,_,U,?_⟩
  match ps,hS,r,N,G,kg with
  |[],_,_,_,G,_=>exact QT (QT ⟨by show 1<=sizeLine;decide,G rfl _ (Qi.refl H)⟩)
  |[p],_,_,_,G,_=>exact QT (QT ⟨by show 1<=sizeLine;decide,G rfl _ (Qi.refl H)⟩)
  |x::f::gs,hS,r,N,G,kg=>
   have C:decide ((((x::f::gs).map V.str).length:Int)<2)=false:=qD (by rw[ql,zc,zc];omega);rw[C];have m:VM (x::f::gs)=(YA x&&YM f gs):=rfl;refine QC ⟨_,U,L,_,_,_,U,U,hS,at0,x,U,N x qB,λH1 s1=>⟨_,U,?_⟩⟩
   cases S:YA x with
   |false=>exact QT ⟨by show 1<=sizeLine;decide,G (by rw[m,S];rfl) _ s1⟩
   |true=>
    rw[S,jF] at m;refine QC ⟨_,U,L,_,_,_,U,U,s1.seq hS,at1,_,U,_,U,L,_,U,s1.seq hS,λj M J s2 O=>?_⟩;have O:M j=some (.lst (gs.map V.str)):=by rw[O,OA _ _ 2 ∅];rfl
    have I:gs.length<=1000:=by rw[zc,zc] at r;omega
    dsimp only[Q8];refine⟨_,U,_,U,f,j,gs,U,zN.of O,I,(λg Y=>N g (qK _ (qK _ Y))),(λhok F s3=>?_),λB F s3=>G (m.trans B) _ ((s1.trans s2).trans s3)⟩;exact kg x f gs rfl (m.trans hok) j F ((s1.trans s2).trans s3) (zN.of (s3 _ _ O))
structure X3(r:qc)(ps:qg):Prop where
 q:∃qs:qg,qs≠[]/\(∀q∈qs,¬32∈q.cps.toList)/\Str.join " " qs=r/\(qs.filter λq=>!decide (q=("":qc)))=ps/\qs.length<=1000/\∀q∈qs,q.length<=1000
 l:r.length<=1000
inductive Wy(a:jk)(vs:qa V)(H:Hp)(Q:VK):Prop
 |bad:∀(dk D:qd)(hd r:qc)(ps:qg)(cl:qd)(cs:qa V)(n:Nat),vs=[.ref dk,.str r]->X3 r ps->VM ps=false->Ds a H dk D hd cl cs n->(∀l H',cB a H' dk D hd cl cs n l ["refused: NoRow"]->Q (.ref l) H')->Wy a vs H Q
 |put:∀(dk D:qd)(hd r w d:qc)(cl:qd)(cs:qa V)(n:Nat)(i:Int),vs=[.ref dk,.str r]->X3 r [hd,ZJ,w,d]->Ds a H dk D hd cl cs n->QN hd->Uj w->PySem.intText? d=some i->d.length<=4->(d.cps.toList.all λc=>decide (c∈Ae.cps.toList))=true->0<=i->i<=9999->n<=20->(∀l H',VD a H' dk D hd cl cs (n+1) [] l [vw hd n]->Q (.ref l) H')->Wy a vs H Q
 |fol:∀(dk D:qd)(hd r:qc)(cl:qd)(cs:qa V)(n:Nat),vs=[.ref dk,.str r]->X3 r [hd,Za]->Ds a H dk D hd cl cs n->QN hd->n<=20->(∀l H',VD a H' dk D hd cl cs n [] l (due n)->Q (.ref l) H')->Wy a vs H Q
 |oth:∀(dk D:qd)(hd ot r:qc)(cl:qd)(cs:qa V)(n:Nat),vs=[.ref dk,.str r]->X3 r [ot,Za]->kA a H dk D hd cl cs n []->QN ot->ot≠hd->(∀x l H',VD a H' dk D hd cl cs n [(ot,x)] l []->Q (.ref l) H')->Wy a vs H Q
 |nam:∀(dk D:qd)(hd r:qc)(cl:qd)(cs:qa V)(n:Nat)(mr:qa (qc×qd)),vs=[.ref dk,.str r]->X3 r [hd,Zh,ZZ]->kA a H dk D hd cl cs n mr->QN hd->n<=20->(∀l H',VD a H' dk D hd cl cs n mr l (Q3 (nms hd n))->Q (.ref l) H')->Wy a vs H Q
def aU(a:jk):Sp:=λvs H Q _=>Wy a vs H Q
theorem bg:("refused: ":qc)++"NoRow"="refused: NoRow":=by decide +kernel
theorem kA.dk1{c:qd}{cl:qd}(h:kA a H c D hd cl cs n mr):∃b,X6 a H c D b:=by obtain⟨g,d,_⟩:=h;exact⟨_,d.k⟩
theorem XN(T:Txt P w K mg base a fd):T.k jg 20 86 (aU a):=by
 refine T.ok 86 (λcdv A outer s H vs Q E X h=>?_) (λvs H Q E h=>by rcases h with⟨b,D,hd,r,ps,cl,cs,n,rfl,_⟩|⟨b,D,hd,r,w,d,cl,cs,n,i,rfl,_⟩|⟨b,D,hd,r,cl,cs,n,rfl,_⟩|⟨b,D,hd,Y,r,cl,cs,n,rfl,_⟩|⟨b,D,hd,r,cl,cs,n,mr,rfl,_⟩<;>rfl)
 .have m:Yf 19 _:=X;have y:=(X.mono (by decide:1<=19)).toU;obtain⟨b,r,ps,rfl,f,⟨D,t,kd⟩,B,u⟩:∃(b:qd)(r:qc)(ps:qg),vs=[.ref b,.str r]/\X3 r ps/\(∃D t,X6 a H b D t)/\(∀L H1,Qi H H1->zN K H1 L (ps.map V.str)->ps.length<=1000->(∀p∈ps,p.length<=1000)->∀E:XK,(∀H',Qi H1 H'->VM ps=false->E (.ref (a 101)) none H')->VL K a [.ref b,.ref L] H1 Q E) /\
   (VM ps=false->∀l H',H l=none->Qi H H'->H' l=some (.lst [.str "refused: NoRow"])->Q (.ref l) H'):=by
   rcases h with⟨b,D,hd,r,ps,cl,cs,n,rfl,f,j,ds,k⟩|⟨b,D,hd,r,w,d,cl,cs,n,i,rfl,f,ds,g,hw,I,F,hf,J,M,v,k⟩|⟨b,D,hd,r,cl,cs,n,rfl,f,ds,g,v,k⟩|⟨b,D,hd,Y,r,cl,cs,n,rfl,f,ds,g,O,k⟩|⟨b,D,hd,r,cl,cs,n,mr,rfl,f,ds,g,v,k⟩
   .exact⟨b,r,ps,U,f,⟨D,ds.dk⟩,λL H1 s1 hS Z h2 E kE=>.bad b L ps rfl hS Z h2 j λH' s=>kE H' s j,λ_ l H' nl s e=>k l H' (ds.told nl s e)⟩
   .exact⟨b,r,_,U,f,⟨D,ds.dk⟩,λL H1 s1 hS _ _ E _=>.put b D L hd w d cl cs n i rfl hS (ds.quiet s1) g hw I F hf J M v k,λz=>by rw[F7 g F hf] at z;cases z⟩
   .exact⟨b,r,_,U,f,⟨D,ds.dk⟩,λL H1 s1 hS _ _ E _=>.fol b D L hd cl cs n rfl hS (ds.quiet s1) g v k,λz=>by rw[Kt g] at z;cases z⟩
   .exact⟨b,r,_,U,f,⟨D,ds.dk1⟩,λL H1 s1 hS _ _ E _=>.oth b D L hd Y cl cs n rfl hS (ds.quiet s1) g O k,λz=>by rw[Kt g] at z;cases z⟩
   .exact⟨b,r,_,U,f,⟨D,ds.dk1⟩,λL H1 s1 hS _ _ E _=>.nam b D L hd cl cs n mr rfl hS (ds.quiet s1) g v k,λz=>by rw[F8 g] at z;cases z⟩
  refine⟨_,(Qd (W3 (sc:=Qr (sO 86)) (N:=(nn 86)) (i:=2) (fr:=[]) (wN rfl rfl) rfl rfl rfl (sc 86).nd U rfl (Yt (WW plainAttrs_str PySem.F.slot_str_split PySem.F.type_str_split IT (pv 1) (zj Qk Qg))) (λ_ _ _ _=>WA (Qx We (pv 0) Qk)) (λ_ _ _ _=>(pv 0)))
   (Qe (Iv (i:=3) (R:=λσ c d H'=>σ.length=4/\c=.ref (a 101)/\d=none/\Qi H H'/\VM ps=false) rfl (T 147) (T 148) rfl rfl rfl (sc 86).nd U rfl (λσ C d H' q=>by obtain⟨_,e,_⟩:=q;cases e;exact Sub.subX ⟨(T 29),(T 149)⟩)
     (λpn=>Qe (Qp (MR (R:=λσ c d H'=>σ.length=4/\c=.ref (a 101)/\d=none/\Qi H H'/\VM ps=false) (pv 0) (T 10) (T 146) (C5 T) m (T.B 85) .nil SQ (zj (pv 2) Qg))))
     (λev=>Qe (Qp (QW (Qf (Qn Qh Qk (MT (pv 3) (T 150) (Ek T) (y.mark _) (T.B 32))) Qu))))))),?_⟩
  obtain⟨qs,q0,qb,qj,g,Z,qL⟩:=f.q;have v:Txt.split r " "=qs:=Ly q0 qb qj;refine⟨_,U,U,r," ",U,U,∅,zb f.l ∅,λp H1 I s1 J=>?_⟩;rw[v] at J;refine⟨p,U,⟨_,zN.of J⟩,Wt (K:=K) (xs:=qs) V.str (λq=>!decide (q=("":qc))) V.str (Yd (Z)) (zN.of J) (λx H3 Q' hx s3 q=>⟨_,U,U,_,U,by rw[Yz];exact q⟩) (λx H3 Q' hx s3 _ q=>⟨_,U,q⟩) λL nL=>?_⟩;rw[g];have s2:Qi H1 (upd H1 L (.lst (ps.map V.str))):=Qi.zq nL;have e2:(upd H1 L (.lst (ps.map V.str))) L=some (.lst (ps.map V.str)):=Qb;generalize upd H1 L (.lst (ps.map V.str))=H2 at s2 e2;have S:=s1.trans s2;have M:ps.length<=1000:=by rw[<-g];exact zb (zh _ _) Z
  have O:∀p∈ps,p.length<=1000:=λp I=>by rw[<-g] at I;exact qL p (qX.mp I).1
  dsimp only[Q8];refine⟨λσ' C d H' e hq he=>?_,?_⟩
  .obtain⟨F,hC,rfl,sH,j⟩:=hq;cases hC;have ee:(upd H' e (BV (a 101) none e)) e=some (BV (a 101) none e):=Qb;have s0:Qi H' (upd H' e (BV (a 101) none e)):=Qi.zq he;generalize upd H' e (BV (a 101) none e)=G at ee s0;refine⟨_,by rw[yL ⋯],e,U,ee,_,U,?_⟩;refine⟨_,_,U,U,∅,G9,λl H4 hl s4 e4=>?_⟩;rw[bg] at e4;have nl:H l=none:=by cases z:H l with|none=>rfl|some o=>rw[(sH.trans s0) _ _ z] at hl;cases hl
   exact u j l H4 nl ((sH.trans s0).trans s4) e4
  .obtain⟨dd,F⟩:=kd.e;refine⟨_,U,b,dd,_,U,S _ _ F,U,_,U,?_⟩;exact B L H2 S (zN.of e2) M O _ λH' s j=>⟨U,U,U,S.trans s,j⟩
inductive Mh(K:Frag)(vs:qa V)(H:Hp)(Q:VK)(E:XK):Prop
 |mk:∀(a:qd)(ns:qa Int)(k:Int),vs=[.ref a,.int k]->zN K H a (ns.map V.int)->0<=k->(∀z:Int,Q (.int z) H)->Mh K vs H Q E
inductive Fz(K:Frag)(vs:qa V)(H:Hp)(Q:VK)(E:XK):Prop
 |mk:∀(a:qd)(ns:qa Int)(st:Int)(n:Nat),vs=[.ref a,.int st,.int n]->zN K H a (ns.map V.int)->0<=st->n<=1000->(∀(p:qd)(rs:qa Int)(H':Hp),rs.length=n->(∀r∈rs,0<=r/\r<2147483629)->H p=none->Qi H H'->H' p=some (.lst (rs.map V.int))->Q (.ref p) H')->Fz K vs H Q E
inductive Cc(vs:qa V)(H:Hp)(Q:VK)(E:XK):Prop
 |mk:∀(b k:Int),vs=[.int b,.int k]->0<=b->b<2147483647->0<=k->k<6->(∀H',Qi H H'->Q (.str (V3 b k)) H')->Cc vs H Q E
theorem PN(T:Txt P w K mg base a fd):T.k jg 1 25 (Mh K):=by
 refine T.ok 25 (λb A outer s H vs Q E e h=>?_)
 .obtain⟨q,ns,i,rfl,hS,c,k⟩:=h;refine⟨_,(Qd (QG (Qx Hu (pv 1) (Qs QU rfl (T 3) zx (zj (pv 0) Qg))) (Qe (Qp (Qt Q2 (pv 0) (pv 1)))) Qq)
   (Qe (Qp Qj))),?_⟩
  refine⟨_,U,_,U,q,_,U,.inl hS,_,_,U,U,_,U,?_⟩;refine P7 (λh=>?_) (λ_=>k 0);obtain⟨v,d,hm,_⟩:=Xv (xs:=ns.map V.int) c (qH h);obtain⟨z,rfl,_⟩:=Df hm;exact⟨_,U,_,U,q,_,_,_,U,U,hS,d,k z⟩
theorem Nc(T:Txt P w K mg base a fd):T.k jg 2 26 (Fz K):=by
 refine T.ok 26 (λo A outer s H vs Q E c h=>?_)
 .obtain⟨q,ns,st,n,rfl,hS,t,B,k⟩:=h;refine⟨_,(Qd (Qv (i:=3) (sc 26).nd (Kw Qu))
   (Qd (Qv (i:=4) (sc 26).nd Qj)
   (Qd (Y9 zJ rfl (WD rfl (T 34) (zj (pv 2) Qg)) (Yc (i:=5) (sc 26).nd) (Qd (Qv (i:=4) (sc 26).nd (Qn Ua (Qn Ur (Qn Ur (Qn Ur (Qn Gm (pv 4) Qj) (T.cl (PN T) (zj (pv 0) (zj (Qn Ur (pv 1) (pv 5)) Qg)))) (Qn Gm Qj (pv 5))) Qj) Qj))
   (Qe (Qw (WW plainAttrs_list je jf YL (pv 3) (zj (Qn Ua (Qn Gm (pv 4) (pv 4)) Qj) Qg))))))
   (Qe (Qp (pv 3)))))),?_⟩
  refine⟨za _,λp f=>?_⟩;refine⟨_,U,(n:Int),U,⋯,⋯,XU (n:=(n:Int).toNat) (λi σ d=>∃(rs:qa Int)(more:Int)(g:Option V),σ=[some (.ref q),some (.int st),some (.int n),some (.ref p),some (.int more),g]/\0<=more/\more<2147483647 /\
   rs.length=i/\(∀r∈rs,0<=r/\r<2147483629)/\d p=some (.lst (rs.map V.int))/\Qi H d)
   ⟨[],7,none,U,∅,∅,U,nofun,Qb,Qi.zq f⟩ ?_ ?_⟩
  .rintro i σ d C ⟨rs,more,g,rfl,h0,u,m,j,b,e⟩;have l:=e.seq hS;have v:i<n:=by omega
   refine⟨_,U,_,_,U,U,.inl ⟨⋯,⋯⟩,_,U,_,U,_,U,_,_,U,U,q,ns,_,U,l,⋯,λz=>?_⟩;refine⟨_,_,U,U,_,U,_,_,U,U,.inl ⟨∅,∅⟩,_,_,U,U,_,_,U,U,_,_,U,U,Aa,?_⟩;have x:0<=(more*48271+z+31*(0+(i:Int))+1)%2147483647:=zP _ ∅;have y:(more*48271+z+31*(0+(i:Int))+1)%2147483647<2147483647:=zE _ ∅;refine⟨_,U,.inl ⟨U,_,zN.of b⟩,_,U,_,U,_,_,U,U,.inl ⟨⋯,⋯⟩,_,_,U,U,Ab,p,_,_,U,U,b,(by rw[ql];exact QI ⋯),?_⟩;refine⟨rs++[_],_,_,U,x,y,by rw[qA,m];rfl,λr c=>?_,by rw[qE];exact Qb,e.jl f⟩;rcases qF.mp c with c|c
   .exact j r c
   .rw[qt.mp c];exact⟨zP _ ∅,zE _ ∅⟩
  .rintro σ d ⟨rs,more,g,rfl,h0,u,m,j,b,e⟩;exact⟨_,U,k p rs d ⋯ j f e b⟩
theorem Iy(T:Txt P w K mg base a fd):T.k jg 1 27 Cc:=by
 refine T.ok 27 (λd A outer s H vs Q E G h=>?_)
 .obtain⟨b,i,rfl,hb0,hb1,f,g,k⟩:=h;have l:∀n:Nat,n<=1000->n<=sizeLine:=λn h=>Yd (h);obtain⟨t1,u,m⟩:∃t,yU (T.cx 27 d A outer s H E) ((QO (sO 27)).drop 1) t /\
   (¬b%4=1->t {nx:=λ_ H'=>Q .non H',rt:=Q} [some (.int b),some (.int i),none,none,none,none] H):=by
   refine⟨_,(Qd (Qv (i:=3) (sc 27).nd (Qn Ua (Qn Vi (pv 0) Qj) Qj))
    (Qd (Qv (i:=4) (sc 27).nd Qk)
    (Qd (Y9 zJ rfl (WD rfl (T 34) (zj (Qn Ur (Qn Ur (pv 3) Qj) (Qn Ua (Qn Vi (pv 0) Qj) (Qn Eg Qj (pv 3)))) Qg)) (Yc (i:=5) (sc 27).nd) (Qe (QG (Qx Uq (pv 5) (pv 3)) (Qe (Qv (i:=4) (sc 27).nd (Qn Qh (pv 4) (Qt ED Qk (pv 1))))) (Qe (Qv (i:=4) (sc 27).nd (Qn Qh (pv 4) (Qt ED Qk (Qn Ua (Qn Ur (Qn Vi (pv 0) Qj) (Qn Gm Qj (pv 5))) Qj))))))))
    (Qe (Qp (pv 4)))))),λp=>?_⟩
   have x:0<=b / 4%6:=zP _ ∅;have y:b / 4%6<6:=zE _ ∅;have B:0<=b / 24%(20-b / 4%6):=zP _ ⋯;have C:b / 24%(20-b / 4%6)<20-b / 4%6:=zE _ ⋯;refine⟨_,U,_,_,U,U,⟨∅,∅⟩,_,_,U,U,zi_6,?_⟩;refine⟨_,U,_,_,U,U,_,U,_,_,U,U,⟨∅,∅⟩,_,U,_,_,U,U,_,_,U,U,(by show(0:Int)<20-b / 4%6;omega),_,_,U,U,_,U,(by show -2^62<=b / 4%6+1+b / 24%(20-b / 4%6);omega),(by show b / 4%6+1+b / 24%(20-b / 4%6)<2^62;omega),XU (n:=(b / 4%6+1+b / 24%(20-b / 4%6)).toNat)
    (λj σ q=>∃(o:Option V),σ=[some (.int b),some (.int i),none,some (.int (b / 4%6)),some (.str ⟨((List.range j).map (YJ b i)).toArray⟩),o]/\q=H) ⟨none,U,U⟩ ?_ ?_⟩
   .rintro j σ q D ⟨o,rfl,rfl⟩;have r:j<20:=by omega
    have fit:∀c:Nat,(⟨((List.range j).map (YJ b i)).toArray⟩:qc).length+(⟨#[c]⟩:qc).length<=sizeLine:=λc=>l _ (by
     rw[Hv,Vy,ql,zS];omega)
    have app:∀c:Nat,YJ b i j=c->(⟨((List.range j).map (YJ b i)).toArray⟩:qc)++(⟨#[c]⟩:qc)=⟨((List.range (j+1)).map (YJ b i)).toArray⟩:=λc hc=>by
     rw[vo,qE,List.map_singleton,hc];refine Str.ext' ?_;rw[Str.cps_append];simp
    refine⟨_,U,_,U,U,_,U,?_⟩;refine P7 (λh=>?_) (λh=>?_)
    .have he:(0:Int)+(j:Int)=b / 4%6:=by
      have:=qH h;exact V.int.inj this
     obtain⟨c,hc,_⟩:=WC (z:=uD) (i:=i) f (by rw[ON];exact g);refine⟨_,U,_,U,uD,_,c,U,U,OM,hc,_,_,U,U,fit c,?_⟩;refine⟨some (.int (0+(j:Int))),?_,U⟩;rw[app c (by unfold YJ;rw[qP ⋯,hc];rfl)];rfl
    .have he:¬(0:Int)+(j:Int)=b / 4%6:=λz=>h (qx (by rw[z]));obtain⟨c,hc,_⟩:=WC (z:=aZ) (i:=(b / 500+7*(0+(j:Int)))%36) (zP _ ∅) (by rw[OP];exact zE _ ∅);refine⟨_,U,_,U,_,_,U,U,⟨∅,∅⟩,_,U,_,_,U,U,.inl ⟨∅,∅⟩,_,_,U,U,_,_,U,U,ar,aZ,_,c,U,U,OO,hc,_,_,U,U,fit c,?_⟩;refine⟨some (.int (0+(j:Int))),?_,U⟩;rw[app c (by unfold YJ;rw[qJ ⋯,show(7*(j:Int))=7*(0+(j:Int)) by omega,hc];rfl)];rfl
   .rintro σ q ⟨o,rfl,rfl⟩;refine⟨_,U,?_⟩;have e:V3 b i=⟨((List.range (b / 4%6+1+b / 24%(20-b / 4%6)).toNat).map (YJ b i)).toArray⟩:=by
     unfold V3;rw[qJ p]
    rw[<-e];exact k _ (Qi.refl _)
  refine⟨_,(Gg (bA (Qx Uq (Qn Ua (pv 0) Qj) Qj) (Gg (MF (i:=2) (sc 27).nd U (Or.inl U) (MG (Qf Qk (Qf Qk (Qf Qk (Qf Qk (Qf Qk (Qf Qk (Qf Qk (Qf Qk (Qf Qk (Qf Qk (Qf Qk (Qf Qk Qu))))))))))))))
   (Gg (MF (i:=2) (sc 27).nd U (Or.inl U) (bB M4 (pv 2) (MG (Qf Qk (Qf Qk (Qf Qk (Qf Qk (Qf Qk (Qf Qk (Qf Qk (Qf Qk (Qf Qk Qu))))))))))))
   (Ph (bz (Qp (Qt Q2 (pv 2) (Qn Ua (Qn Ur (Qn Vi (pv 0) Qj) (Qn Gm Qj (pv 1))) Qj))))))) Qq)
   (SH u)).h,?_⟩
  refine⟨_,U,_,_,U,U,aq,U,_,U,?_⟩;refine P7 (λh=>?_) (λh=>m λz=>h (qx (zt V.int z)));have he:b%4=1:=by
   have:=qH h;exact V.int.inj this
  obtain⟨v,q,x,_⟩:=Xv (xs:=U6) (i:=(b / 4+5*i)%21) (zP _ ∅) (by rw[Hs];exact zE _ ∅);have p:xx (U6.map V.str) ((b / 4+5*i)%21)=some (V.str v):=by
   rw[Rw,q];rfl
  refine⟨ak,λy B=>?_⟩;refine⟨_,U,zl_9,λC r=>⟨y,C,_,_,U,U,(by rw[Qa (Qc Qb r)];exact Qb),Qb,(by show 12+9<=sizeLine;decide),λD F=>?_⟩⟩;refine⟨_,U,_,U,_,_,U,U,⟨∅,∅⟩,_,U,_,_,U,U,.inl ⟨∅,∅⟩,_,_,U,U,_,_,U,U,au,D,U6.map V.str,_,_,U,U,zN.of Qb,p,?_⟩;have e:V3 b i=v:=by unfold V3;rw[qP he,q];rfl
  rw[<-e];exact k _ (((Qi.zq B).trans (Qi.zq r)).trans (Qi.zq F))
inductive Cd(K:Frag)(vs:qa V)(H:Hp)(Q:VK)(E:XK):Prop
 |mk:∀(l d:qd)(xs:qg),vs=[.ref l,.ref d]->H l=some (.lst (xs.map V.str))->zN K H d (xs.map V.str)->(∀x∈xs,kK x)->xs.length<=100->(∀H',Qi (upd H l (.lst ((xs++[("zz":qc)]).map V.str))) H'->Q (.bl true) H')->Cd K vs H Q E
theorem Vv(T:Txt P w K mg base a fd):T.k jg 2 29 (Cd K):=by
 refine T.ok 29 (λf A outer s H vs Q E g h=>?_)
 .obtain⟨l,d,xs,rfl,c,hd,asc,o,k⟩:=h;have b:=g.units;refine⟨_,(Qd (QG (PW.pt (Vh (Yl (Yk (Qs QR rfl (T 6) boot_isinstance (zj (pv 0) (zj (YF (v:=.ty "list") rfl (T 30) boot_list rfl) Qg))))) (UQ (Qx (MZ b) (pv 0) (pv 1))))) (Qe (Qp Uz)) Qq)
   (Qd (Qw (WW plainAttrs_list je jf YL (pv 0) (zj Qk Qg)))
   (Qe (Qp (Qs (GY rfl) rfl (T 44) boot_all (zj (UZ (sc:=Qr (sO 29)) (N:=(nn 29)) (fr:=[]) (wN rfl rfl) rfl rfl rfl (Yt (pv 0)) (λ_ _ _ _=>WB) (λ_ _ _ _=>(Qs (BP K) rfl (T 6) boot_isinstance (zj (pv 0) (zj (YF (v:=.ty "str") rfl (T 9) boot_str rfl) Qg))))) Qg)))))),?_⟩
  refine⟨_,U,_,_,_,_,_,U,U,Vd.lst c,RS,_,U,QC ?_⟩;refine⟨_,U,_,U,Hx (Ku (zN.of c)) (Ku hd) (X8 asc) ⟨_,U,QC ?_⟩⟩;refine⟨_,U,.inl ⟨U,_,zN.of c⟩,l,_,_,U,U,c,(by rw[ql];exact QI ⋯),?_⟩;have i:xs.map V.str++[V.str "zz"]=(xs++[("zz":qc)]).map V.str:=by rw[qE];rfl
  rw[i];have e:(upd H l (.lst ((xs++[("zz":qc)]).map V.str))) l=some (.lst ((xs++[("zz":qc)]).map V.str)):=Qb;refine⟨_,U,l,U,⟨_,zN.of e⟩,Wt (K:=K) (xs:=xs++[("zz":qc)]) V.str (λ_=>true) (λ_=>V.bl true) (Yd ((by rw[qA];exact Nat.succ_le_of_lt (by show xs.length<1000;omega)))) (zN.of e) (λx j Q' m s3 q=>q) (λx j Q' m s3 _ q=>⟨_,U,_,_,_,_,_,U,U,.str x,Kh,q⟩) λD n=>?_⟩;refine⟨D,(xs++[("zz":qc)]).map λ_=>true,U,zN.of ?_,?_⟩
  .rw[Qb,zZ.mpr λ_ _=>rfl,zg];rfl
  .rw[show(((xs++[("zz":qc)]).map λ_=>true).all id)=true by rw[wX];exact zi.mpr λ_ _=>rfl];exact k _ (Qi.zq n)
def hb0:Nat->qc
 |0=>"xy"
 |1=>"an"
 |_=>"pq"
def hb1:Nat->qc
 |0=>""
 |1=>"n"
 |_=>"nn"
def hN(p q r t k:Nat):qc:=(Txt.slice (hb0 p) none (some ((q:Nat):Int))++⟨#[97+k]⟩)++Txt.slice (hb1 r) none (some ((t:Nat):Int))
theorem bW:∀p:Nat,p<3->∀q:Nat,q<3->∀r:Nat,r<3->∀t:Nat,t<3 ->
 ((YA (hN p q r t 0)&&YA (hN p q r t 1)&&YA (hN p q r t 0++"n")&&!decide (hN p q r t 1=hN p q r t 0)&&!decide (hN p q r t 0++"n"=hN p q r t 0)) &&
   (FR.find? (λf=>decide (f.1=hN p q r t 0))).isNone)=true:=by decide +kernel
def NF(x:qc):Prop:=FR.find? (λf=>decide (f.1=x))=none
inductive Cs(vs:qa V)(H:Hp)(Q:VK)(E:XK):Prop
 |mk:∀(s:Int)(k:Nat),vs=[.int s,.int k]->0<=s->k<2->(∀p q r t:Nat,p<3->q<3->r<3->t<3->(p:Int)=s%3->(q:Int)=s / 3%3->(r:Int)=s / 9%3->(t:Int)=s / 27%3->∀H',Qi H H'->Q (.str (hN p q r t k)) H')->Cs vs H Q E
theorem three{x:Int}:∃p:Nat,p<3/\(p:Int)=x%3:=by
 have a:=zP x (b:=3) ∅;have a1:=zE x (b:=3) ∅;obtain⟨i,c⟩:=kZ a;exact⟨i,⋯,c.symm⟩
theorem T8{p:Nat}(h:p<3):xx [V.str "xy",.str "an",.str "pq"] (p:Int)=some (.str (hb0 p)):=by
 match p,h with
 |0,_=>rfl
 |1,_=>rfl
 |2,_=>rfl
theorem T7{p:Nat}(h:p<3):xx [V.str "",.str "n",.str "nn"] (p:Int)=some (.str (hb1 p)):=by
 match p,h with
 |0,_=>rfl
 |1,_=>rfl
 |2,_=>rfl
theorem Oa:∀p:Nat,p<3->∀q:Nat,q<3->(Txt.slice (hb0 p) none (some ((q:Nat):Int))).length<=2/\(Txt.slice (hb1 p) none (some ((q:Nat):Int))).length<=2/\(hb0 p).length<=2/\(hb1 p).length<=2:=by decide +kernel
theorem AL(T:Txt P w K mg base a fd):T.k jg 1 28 Cs:=by
 refine T.ok 28 (λn A outer st H vs Q E D h=>?_)
 .obtain⟨s,k,rfl,s0,o,u⟩:=h;refine⟨_,(Qd (Qv (i:=2) (sc 28).nd (Qn Ua (pv 0) Qj))
   (Qd (Qv (i:=3) (sc 28).nd (U5 Mj (Qt Q2 (QW (Qf Qk (Qf Qk (Qf Qk Qu)))) (pv 2)) VP (VO (Qn Ua (Qn Vi (pv 0) Qj) Qj))))
   (Qe (Qp (Qn Qh (Qn Qh (pv 3) (Qt ED Qk (pv 1))) (U5 Mj (Qt Q2 (QW (Qf Qk (Qf Qk (Qf Qk Qu)))) (Qn Ua (Qn Vi (pv 0) Qj) Qj)) VP (VO (Qn Ua (Qn Vi (pv 0) Qj) Qj)))))))),?_⟩
  obtain⟨p,e,f⟩:=three (x:=s);obtain⟨q,g,eq⟩:=three (x:=s / 3);obtain⟨r,b,j⟩:=three (x:=s / 9);obtain⟨t,l,m⟩:=three (x:=s / 27);have F:=Oa p e q g;have G:=Oa r b t l;have d:(0:Int)<3:=by decide
  refine⟨_,U,_,_,U,U,d,?_⟩;rw[<-f];dsimp only[Q8];refine⟨H0,λL H1 I s1 v=>?_⟩;refine⟨_,U,L,_,_,_,U,U,zN.of v,T8 e,?_⟩;refine⟨_,U,_,_,U,U,⟨∅,∅⟩,_,_,U,U,d,_,U,hb0 p,U,Yd (⋯),?_⟩;rw[<-eq];dsimp only[Q8];obtain⟨c,hc,y⟩:∃c:Nat,c=97+k/\xx ("abcd":qc).cps.toList (k:Int)=some c:=by
   match k,o with
   |0,_=>exact⟨97,U,∅⟩
   |1,_=>exact⟨98,U,∅⟩
  refine⟨_,U,_,U,"abcd",_,c,U,U,∅,y,_,_,U,U,Yd ((by show _+1<=1000;omega)),?_⟩;refine⟨H0,λL2 z B s2 C=>?_⟩;refine⟨_,U,_,_,U,U,⟨∅,∅⟩,_,_,U,U,d,?_⟩;rw[<-j];refine⟨L2,_,_,_,U,U,zN.of C,T7 b,?_⟩;refine⟨_,U,_,_,U,U,⟨∅,∅⟩,_,_,U,U,d,_,U,hb1 r,U,Yd (⋯),?_⟩;rw[<-m];subst hc;refine⟨_,_,U,U,Yd ((by rw[z1];show _+1+_<=1000;omega)),u p q r t e g b l f eq j m z (s1.trans s2)⟩
structure Bad(r:qc):Prop where
 q:∃qs:qg,qs≠[]/\(∀q∈qs,¬32∈q.cps.toList)/\Str.join " " qs=r/\VM (qs.filter λq=>!decide (q=("":qc)))=false/\qs.length<=20/\∀q∈qs,q.length<=100
 l:r.length<=900
theorem Bad.row(h:Bad r):∃ps,X3 r ps/\VM ps=false:=by
 obtain⟨qs,a,b,c,d,g,e⟩:=h.q;exact⟨_,⟨⟨qs,a,b,c,U,⋯,λq f=>zb (e q f) ∅⟩,zb h.l ∅⟩,d⟩
theorem Bad.blank(h:Bad r):∃ps,X3 (r++" ") ps/\VM ps=false:=by
 obtain⟨qs,b,c,d,f,i,g⟩:=h.q;refine⟨_,⟨⟨qs++[("":qc)],List.append_ne_nil_of_left_ne_nil b _,λq a=>?_,?_,U,by rw[qA];show _+1<=_;omega,λq a=>?_⟩,?_⟩,?_⟩
 .rcases qF.mp a with z|z
  .exact c q z
  .rw[qt.mp z];decide +kernel
 .rw[A9 b (zp _ _),d];exact VJ (by rw[Yr];show _++[]=_;rw[zD])
 .rcases qF.mp a with z|z
  .exact zb (g q z) ∅
  .rw[qt.mp z];decide +kernel
 .have:=h.l;have e:(" ":qc).length=1:=by decide +kernel
  rw[z1,e];omega
 .rw[zz,show([("":qc)].filter λq=>!decide (q=("":qc)))=[] by decide +kernel,zD];exact f
theorem YH(a b c:qc):(a++b)++c=a++(b++c):=VJ (by rw[Yr,Yr,Yr,Yr,yO])
structure xn(x:qc):Prop where
 b:¬32∈x.cps.toList
 n:x≠""
 l:x.length<=60
theorem xn.lit(h:(!decide (32∈x.cps.toList)&&(!decide (x="")&&Nat.ble x.length 60))=true:=by decide +kernel):xn x:=by
 rw[qG,qG,z0,z0] at h;exact⟨xP h.1,xP h.2.1,qT h.2.2⟩
theorem xn.hand(h:QN x):xn x:=by
 have:=h.hi;have:=h.lo;refine⟨λz=>?_,λz=>?_,⋯⟩
 .have:=qH (zi.mp h.gz _ z);exact absurd this ∅
 .subst z;exact absurd h.lo ∅
theorem xn.word(h:Uj x):xn x:=by
 have:=h.hi;refine⟨λz=>absurd (h.gz _ z) ∅,λz=>?_,⋯⟩;subst z;exact absurd h.lo ∅
theorem Bad.of(qs:qg)(b:qs≠[])(a:∀q∈qs,xn q)(c:Str.join " " qs=r)(d:VM qs=false)(e:qs.length<=10)(hz:r.length<=900):Bad r:=
 ⟨⟨qs,b,λq h=>(a q h).b,c,by rw[zZ.mpr λq h=>by rw[qD (a q h).n];rfl];exact d,⋯,λq h=>zb (a q h).l ∅⟩,hz⟩
theorem GC:∀{qs:qg},(∀q∈qs,q.length<=60)->(Str.join " " qs).length<=61*qs.length
 |[],_=>by decide +kernel
 |[p],h=>by show p.length<=61;exact zb (h p qB) ∅
 |p::q::r,h=>by
  have b:=h p qB;have a:=GC (qs:=q::r) λz hz=>h z (qK _ hz);have e:(" ":qc).length=1:=by decide +kernel
  show((p++" ")++Str.join " " (q::r)).length<=_;rw[z1,z1,e];simp only[zc] at a⊢;omega
theorem Bad.of'(qs:qg)(c:qs≠[])(a:∀q∈qs,xn q)(b:Str.join " " qs=r)(d:VM qs=false)(e:qs.length<=10):Bad r:=
 .of qs c a b d e (by rw[<-b];have:=GC (qs:=qs) λq h=>(a q h).l;omega)
theorem Ka(h:YM f gs=false):VM (x::f::gs)=false:=by
 show(YA x&&YM f gs)=false;rw[h,zX]
theorem Mo(h:YA x=false):VM (x::f::gs)=false:=by
 show(YA x&&YM f gs)=false;rw[h,jw]
def Ti(t:qc)(a:qg):Bool:=decide (t=" "++Str.join " " a)&&(a.all (λq=>!decide (32∈q.cps.toList)&&(!decide (q=("":qc))&&Nat.ble q.length 60))&&(Nat.ble a.length 9&&(match a with|f::gs=>!YM f gs|[]=>false)))
theorem Q6(c:xn x)(b:qg)(h:Ti t b=true:=by decide +kernel):Bad (x++t):=by
 unfold Ti at h;rw[qG,qG,qG] at h;obtain⟨d,e,g,a⟩:=h
 cases b with
 |nil=>cases a
 |cons f gs=>
  rw[z0] at a;refine .of' (x::f::gs) (zp _ _) (λq i=>?_) ?_ (Ka a) (by have:=qT g;simp only[zc] at this⊢;omega)
  .rcases qC.mp i with z|z
   .rw[z];exact c
   .exact .lit (zi.mp e q z)
  .rw[qH d];show(x++" ")++Str.join " " (f::gs)=_;rw[YH]
abbrev v7(y:qc):qc:=⟨y.cps.map PyProof.Rows.up1⟩
theorem Yu{i j:qc}{m:Nat}(a:i.length<=m)(b:j.length<=n):(i++j).length<=m+n:=by rw[z1];omega
theorem QD{i j:qc}{m:Nat}(a:i.length<=m)(b:j.length<=n)(h:m+n<=1000:=by decide):i.length+j.length<=sizeLine:=Yd (⋯)
theorem lq(x:qc)(h:Nat.ble x.length 20=true:=by decide +kernel):x.length<=20:=qT h
theorem Bl(x:qc):(v7 x).length=x.length:=by unfold Str.length;exact Array.size_map
theorem cw:Bad "":=⟨⟨[""],zp _ _,∅,U,∅,∅,∅⟩,∅⟩
theorem cu:Bad " ":=⟨⟨["",""],zp _ _,∅,∅,∅,∅,∅⟩,∅⟩
theorem cq:Bad "9 threads":=⟨⟨["9",Zy],zp _ _,∅,∅,∅,∅,∅⟩,∅⟩
theorem TZ:Bad "\t":=⟨⟨["\t"],zp _ _,∅,U,∅,∅,∅⟩,∅⟩
theorem UG{p:qc->Prop}{a:qc}(h:p a):∀q∈[a],p q:=λq b=>by rw[qt.mp b];exact h
theorem Q5{p:qc->Prop}{a:qc}{l:qg}(h:p a)(t:∀q∈l,p q):∀q∈a::l,p q:=λq b=>(qC.mp b).elim (λz=>z▸h) (t q)
theorem RZ(a:xn x):Bad x:=.of' [x] (zp _ _) (UG a) rfl rfl (qT rfl)
theorem BB{q:qc×qa V}(a:FR.find? (λq=>decide (q.1=f))=some q)(hm:Ke gs.length q.2=false):YM f gs=false:=by
 unfold YM;rw[a];show(Ke gs.length q.2&&_)=false;rw[hm,jw]
theorem Rn(h:BN gs=false):YM ZJ gs=false:=by
 have e:FR.find? (λq=>decide (q.1=ZJ))=some (ZJ,[V.int 2,V.non]):=by decide +kernel
 unfold YM;rw[e,h];show(_&&((!decide (ZJ=ZJ)||false)&&_))=false;rw[show decide (ZJ=ZJ)=true from qx rfl];exact zX _
theorem NA(hf:f∈([Zl,Zm]:qg))(h:YA (gs.getD 0 "")=false):YM f gs=false:=by
 unfold YM
 cases FR.find? (λq=>decide (q.1=f)) with
 |none=>rfl
 |some q=>
  show(_&&(_&&(!decide (f∈([Zl,Zm]:qg))||YA (gs.getD 0 ""))))=false;rw[h,qx hf];show(_&&(_&&false))=false;rw[zX,zX]
theorem T3{w:qc}(a:xn x)(b:xn w):Bad ((x++" put ")++w):=by
 refine .of' [x,ZJ,w] (zp _ _) (Q5 a (Q5 (.lit) (UG b))) ?_ (Ka (BB (q:=(ZJ,[V.int 2,V.non])) ∅ rfl)) (qT rfl);rw[show(" put ":qc)=(" "++ZJ)++" " by decide +kernel];show(x++" ")++((ZJ++" ")++w)=_;simp only[YH]
def dyB(a:qg):Bool:=!(decide (((a.headD "").length:Int)<=4)&&(a.headD "").cps.toList.all λc=>decide (c∈Ae.cps.toList))&&a.all (λq=>!decide (32∈q.cps.toList)&&(!decide (q=("":qc))&&Nat.ble q.length 60))&&Nat.ble a.length 5
theorem BQ{w:qc}(c:xn x)(d:xn w)(a:qg)(e:decide (t=" "++Str.join " " a)=true:=by decide +kernel)(hd:dyB a=true:=by decide +kernel):Bad (((x++" put ")++w)++t):=by
 unfold dyB at hd;rw[qG,qG,z0] at hd;obtain⟨⟨b,g⟩,h⟩:=hd
 cases a with
 |nil=>exact absurd b ∅
 |cons f gs=>
  refine .of' (x::ZJ::w::f::gs) (zp _ _) (Q5 c (Q5 (.lit) (Q5 d λq i=>.lit (zi.mp g q i)))) ?_ (Ka (Rn b)) (by have:=qT h;simp only[zc] at this⊢;omega);rw[qH e,show(" put ":qc)=(" "++ZJ)++" " by decide +kernel];show(x++" ")++((ZJ++" ")++((w++" ")++Str.join " " (f::gs)))=_;simp only[YH]
theorem Oc(o:qc):YA (o++"1")=false:=by
 unfold YA;have:((o++"1").cps.toList.all λc=>decide (c∈hS.cps.toList))=false:=by
  rw[Yr,List.all_append,show(("1":qc).cps.toList.all λc=>decide (c∈hS.cps.toList))=false by decide +kernel,zX]
 rw[this,zX,zX]
theorem Tx(h:QN x):YA (x++Zu)=false:=by
 unfold YA;have a:=h.lo;have e:Zu.length=8:=by decide +kernel
 rw[show decide (((x++Zu).length:Int)<=8)=false from qD (by rw[z1,e];omega),jw,zX]
theorem az:(hS.cps.toList.all λc=>!decide (PyProof.Rows.up1 c∈hS.cps.toList)&&!decide (PyProof.Rows.up1 c=32))=true:=by decide +kernel
theorem HM(h:QN x){c:Nat}(hc:c∈x.cps.toList):PyProof.Rows.up1 c∉hS.cps.toList/\PyProof.Rows.up1 c≠32:=by
 have:=zi.mp az c (qH (zi.mp h.gz c hc));rw[qG,z0,z0] at this;exact⟨xP this.1,xP this.2⟩
theorem E4(x:qc):(v7 x).cps.toList=x.cps.toList.map PyProof.Rows.up1:=yZ
theorem HL(h:QN x):YA (v7 x)=false:=by
 have b:=h.lo;unfold YA;have:((v7 x).cps.toList.all λc=>decide (c∈hS.cps.toList))=false:=by
  rw[E4]
  cases a:x.cps.toList with
  |nil=>exact absurd (show(1:Int)<=((x.length:Nat):Int) from b) (by rw[show x.length=x.cps.toList.length from(ze).symm,a];decide)
  |cons c r=>
   rw[zf,wj,qD (HM h (by rw[a];exact qB)).1,jw]
 rw[this,zX,zX]
theorem xn.up(h:QN x):xn (v7 x):=by
 have a:=h.lo;have b:=h.hi;refine⟨λz=>?_,λz=>?_,by rw[Bl];omega⟩
 .rw[E4] at z;obtain⟨c,hc,e⟩:=qw.mp z;exact(HM h hc).2 e
 .have:=zt Str.length z;rw[Bl] at this;rw[this] at a;exact absurd a ∅
theorem xn.cat(h:QN x)(a:¬32∈y.cps.toList)(c:y.length<=20):xn (x++y):=by
 have b:=xn.hand h;have d:=h.lo;have e:=h.hi;refine⟨λz=>?_,λz=>?_,by rw[z1];omega⟩
 .rw[Yr] at z;exact(qF.mp z).elim b.b a
 .have:=zt Str.length z;rw[z1,show("":qc).length=0 by decide +kernel] at this;omega
theorem cp{o:qc}(a:xn x)(b:QN o):Bad (((x++" meet ")++o)++"1"):=by
 refine .of' [x,Zl,o++"1"] (zp _ _) (Q5 a (Q5 (.lit) (UG (.cat b ∅ ∅)))) ?_ (Ka (NA (qB) (Oc o))) (qT rfl);rw[show(" meet ":qc)=(" "++Zl)++" " by decide +kernel];show(x++" ")++((Zl++" ")++(o++"1"))=_;simp only[YH]
theorem cn{o:qc}(b:xn x)(a:QN o):Bad ((x++" tell ")++v7 o):=by
 refine .of' [x,Zm,v7 o] (zp _ _) (Q5 b (Q5 (.lit) (UG (.up a)))) ?_ (Ka (NA (qK _ qB) (HL a))) (qT rfl);rw[show(" tell ":qc)=(" "++Zm)++" " by decide +kernel];show(x++" ")++((Zm++" ")++v7 o)=_;simp only[YH]
theorem TY{o:qc}(a:xn x)(po:xn o):Bad ((x++" threads ")++o):=by
 refine .of' [x,Zy,o] (zp _ _) (Q5 a (Q5 (.lit) (UG po))) ?_ (Ka (BB (q:=(Zy,[V.int 0,V.int 0])) ∅ rfl)) (qT rfl);rw[show(" threads ":qc)=(" "++Zy)++" " by decide +kernel];show(x++" ")++((Zy++" ")++o)=_;simp only[YH]
theorem T5(a:QN x):Bad (x++"1 folders"):=by
 refine .of' [x++"1",Za] (zp _ _) (Q5 (.cat a ∅ ∅) (UG (.lit))) ?_ (Mo (Oc x)) (qT rfl);rw[show("1 folders":qc)=("1"++" ")++Za by decide +kernel];show((x++"1")++" ")++Za=_;simp only[YH]
theorem TX(a:QN x):Bad (v7 x++" folders"):=by
 refine .of' [v7 x,Za] (zp _ _) (Q5 (.up a) (UG (.lit))) ?_ (Mo (HL a)) (qT rfl);rw[show(" folders":qc)=" "++Za by decide +kernel];show(v7 x++" ")++Za=_;simp only[YH]
theorem T4(a:QN x):Bad (x++"abcdefgh folders"):=by
 refine .of' [x++Zu,Za] (zp _ _) (Q5 (.cat a ∅ ∅) (UG (.lit))) ?_ (Mo (Tx a)) (qT rfl);rw[show("abcdefgh folders":qc)=(Zu++" ")++Za by decide +kernel];show((x++Zu)++" ")++Za=_;simp only[YH]
theorem T2(a:QN x)(b:NF x):Bad ("put "++x):=by
 refine .of' [ZJ,x] (zp _ _) (Q5 (.lit) (UG (.hand a))) ?_ (Ka ?_) (qT rfl)
 .rw[show("put ":qc)=ZJ++" " by decide +kernel];rfl
 .unfold YM;rw[show FR.find? (λq=>decide (q.1=x))=none from b]
theorem Ru(a:QN x):Bad (x++"\tfolders"):=RZ (.cat a ∅ ∅)
theorem DP(b:xn x)(a:qg)(h:Ti (" "++(y++" c")) a=true:=by decide +kernel):Bad (((x++" ")++y)++" c"):=by
 rw[YH,YH];exact Q6 b a h
theorem OK{o:qc}(a:xn x)(po:xn o)(m:qc)(b:(!decide (32∈m.cps.toList)&&(!decide (m="")&&Nat.ble m.length 60))=true:=by decide +kernel)(c:FR.find? (λq=>decide (q.1=m))=some (m,[V.int 1,V.int 1]):=by decide +kernel):Bad (((x++" ")++((m++" ")++o))++" c"):=by
 refine .of' [x,m,o,"c"] (zp _ _) (Q5 a (Q5 (.lit b) (Q5 po (UG (.lit))))) ?_ (Ka (BB c rfl)) (qT rfl);rw[show(" c":qc)=" "++"c" by decide +kernel];show(x++" ")++((m++" ")++((o++" ")++"c"))=_;simp only[YH]
theorem none_of{a:Hp}(s:Qi H a)(h:a p=none):H p=none:=by
 cases z:H p with
 |none=>rfl
 |some o=>rw[s _ _ z] at h;cases h
inductive Cu(vs:qa V)(H:Hp)(Q:VK)(E:XK):Prop
 |mk:∀(x o wd:qc)(c:Int),vs=[.str x,.str o,.int c,.str wd]->QN x->NF x->QN o->Uj wd->(∀r H',Bad r->Qi H H'->Q (.str r) H')->Cu vs H Q E
theorem QN.asc(h:QN x):kK x:=λc hc=>by
 have:=qH (zi.mp h.gz c hc);exact OQ c (RT c this)
theorem IL(T:Txt P w K mg base a fd):T.k jg 1 30 Cu:=by
 refine T.ok 30 (λC A outer st H vs Q E D h=>?_)
 .obtain⟨x,o,I,c,rfl,Z,nf,ho,hw,kk⟩:=h;have f:=xn.hand Z;have po:=xn.hand ho;have pw:=xn.word hw;have d:x.length<=20:=by have:=Z.hi;omega
  have m:o.length<=20:=by have:=ho.hi;omega
  have k:I.length<=20:=hw.hi;have hux:(v7 x).length<=20:=by rw[Bl];exact d
  have huo:(v7 o).length<=20:=by rw[Bl];exact m
  have hxa:=Z.asc;have hoa:=ho.asc;have hxb:x.length<=1000000:=by omega
  have hob:o.length<=1000000:=by omega
  obtain⟨t10,h10,q10⟩:∃t,yU (T.cx 30 C A outer st H E) ((QO (sO 30)).drop 10) t/\∀(L:qd)(rs:qg)(H1:Hp)(g:Option V),Qi H H1->H L=none->H1 L=some (.lst (rs.map V.str))->rs.length=48->(∀r∈rs,Bad r)->t {nx:=λ_ H'=>Q .non H',rt:=Q} [some (.str x),some (.str o),some (.int c),some (.str I),some (.ref L),g] H1:=by
   refine⟨_,Qe (Qp (Qt Q2 (pv 4) (Qn Ua (pv 2) Qj))),λL rs H1 g s1 Y B l F=>?_⟩;refine⟨_,U,_,U,_,_,U,U,ao,?_⟩;obtain⟨i,hi,n⟩:∃i:Nat,i<48/\c%48=(i:Int):=by
    have j:=zP c (b:=48) ∅;have a1:=zE c (b:=48) ∅;obtain⟨i,hi⟩:=kZ j;exact⟨i,⋯,hi⟩
   rw[n];have j:i<rs.length:=by rw[l];exact hi
   have D:=F rs[i] (zu j);exact⟨L,_,_,_,U,U,zN.of B,QF (by rw[qQ,qv j];rfl),kk _ H1 D s1⟩
  obtain⟨t9,h9,q9⟩:∃t,yU (T.cx 30 C A outer st H E) ((QO (sO 30)).drop 9) t/\∀(L:qd)(rs:qg)(H1:Hp)(g:Option V),Qi H H1->H L=none->H1 L=some (.lst (rs.map V.str))->rs.length=43->(∀r∈rs,Bad r)->t {nx:=λ_ H'=>Q .non H',rt:=Q} [some (.str x),some (.str o),some (.int c),some (.str I),some (.ref L),g] H1:=by
   refine⟨_,Qd (Qv (i:=4) (sc 30).nd (Qn U0 (pv 4) (QW (Qf (Qn Qh (pv 0) Qk) (Qf (Qn Qh (pv 0) Qk) (Qf (Qn Qh (pv 0) Qk) (Qf (Qn Qh (pv 0) Qk) (Qf Qk Qu)))))))) h10,λL rs H1 g s1 Y B l F=>?_⟩;refine⟨_,U,_,U,_,_,U,U,QD d (lq " unmark a1 b c"),_,U,_,_,U,U,QD d (lq " mark a1"),_,U,_,_,U,U,QD d (lq " folders\n"),_,U,_,_,U,U,QD d (lq "\tfolders"),R5,λs J X s2 M=>?_⟩;obtain⟨ys,G,n,N⟩:∃ys:qg,J s=some (.lst (ys.map V.str))/\ys.length=5/\∀y∈ys,Bad y:=⟨[(x++(" unmark a1 b c":qc)),(x++(" mark a1":qc)),(x++(" folders\n":qc)),(x++("\tfolders":qc)),("\t":qc)],M,U,λy j=>by
    simp only[qC,zO,yd] at j;rcases j with rfl|rfl|rfl|rfl|rfl
    .exact Q6 f [("unmark":qc),Zz,("b":qc),("c":qc)]
    .exact Q6 f [Zg,Zz]
    .exact Q6 f [("folders\n":qc)]
    .exact Ru Z
    .exact TZ⟩
   refine⟨L,s,_,_,U,U,s2 _ _ B,G,by rw[ql,ql,l,n];decide,λp O R s3 S=>?_⟩;exact q10 p (rs++ys) O g ((s1.trans s2).trans s3) (none_of (s1.trans s2) R) (by rw[qE];exact S) (by rw[qA,l,n]) (λr D=>(qF.mp D).elim (F r) (N r))
  obtain⟨t8,h8,q8⟩:∃t,yU (T.cx 30 C A outer st H E) ((QO (sO 30)).drop 8) t/\∀(L:qd)(rs:qg)(H1:Hp)(g:Option V),Qi H H1->H L=none->H1 L=some (.lst (rs.map V.str))->rs.length=36->(∀r∈rs,Bad r)->t {nx:=λ_ H'=>Q .non H',rt:=Q} [some (.str x),some (.str o),some (.int c),some (.str I),some (.ref L),g] H1:=by
   refine⟨_,Qd (Y9 zJ rfl (Yt (QW (Qf Qk (Qf Qk (Qf Qk (Qf Qk (Qf (Qn Qh Qk (pv 1)) (Qf (Qn Qh Qk (pv 1)) (Qf Qk Qu))))))))) (Yc (i:=5) (sc 30).nd) (Qe (Qw (WW plainAttrs_list je jf YL (pv 4) (zj (Qn Qh (Qn Qh (Qn Qh (pv 0) Qk) (pv 5)) Qk) Qg))))) h9,λL rs H1 g s1 Y B l F=>?_⟩;refine⟨_,U,_,_,U,U,QD (lq "meet ") m,_,U,_,_,U,U,QD (lq "tell ") m,zl_7,λLs J X s2 M=>?_⟩;obtain⟨ys,G,n,N⟩:∃ys:qg,J Ls=some (.lst (ys.map V.str))/\ys.length=7/\∀y∈ys,y.length<=40/\Bad (((x++" ")++y)++" c"):=⟨[("folder a":qc),("thread a1":qc),("show a1":qc),("sort a1":qc),(("meet ":qc)++o),(("tell ":qc)++o),("mark a1 b":qc)],M,U,λy j=>by
    simp only[qC,zO,yd] at j;rcases j with rfl|rfl|rfl|rfl|rfl|rfl|rfl
    .exact⟨∅,DP f [Zh,("a":qc),("c":qc)]⟩
    .exact⟨∅,DP f [ZC,Zz,("c":qc)]⟩
    .exact⟨∅,DP f [("show":qc),Zz,("c":qc)]⟩
    .exact⟨∅,DP f [("sort":qc),Zz,("c":qc)]⟩
    .exact⟨Yu (lq "meet ") m,OK f po Zl⟩
    .exact⟨Yu (lq "tell ") m,OK f po Zm⟩
    .exact⟨∅,DP f [Zg,Zz,("b":qc),("c":qc)]⟩⟩
   have LsL:Ls≠L:=λz=>by rw[z] at X;rw[B] at X;cases X
   refine⟨Ls,U,⟨_,zN.of G⟩,YQ (K:=K) (a:=Ls) (xs:=ys.map V.str) (λi σ H4=>∃(zs:qg)(v:Option V),σ=[some (.str x),some (.str o),some (.int c),some (.str I),some (.ref L),v]/\Qi H H4/\H4 L=some (.lst ((rs++zs).map V.str))/\zs.length=i/\(∀z∈zs,Bad z)/\H4 Ls=some (.lst (ys.map V.str)))
    ⟨[],g,U,s1.trans s2,by rw[zD];exact s2 _ _ B,U,nofun,G⟩ ?_ ?_ ?_⟩
   .rintro i σ H4 _ ⟨zs,v,rfl,s4,e4,l4,b4,y4⟩;exact zN.of y4
   .rintro i u σ H4 hv ⟨zs,v,rfl,s4,e4,l4,b4,y4⟩;obtain⟨sg,j,rfl⟩:∃y,ys[i]?=some y/\V.str y=u:=by
     rw[qQ] at hv
     cases e:ys[i]? with
     |none=>rw[e] at hv;cases hv
     |some t=>rw[e] at hv;exact⟨t,U,qW hv⟩
    have hi:i<7:=by rw[<-n];exact(zm.mp j).1
    obtain⟨hs40,hbad⟩:=N sg (zv j);refine⟨_,U,.inl ⟨U,_,zN.of e4⟩,_,U,_,_,U,U,QD d (lq " "),_,U,_,_,U,U,QD (Yu d (lq " ")) hs40,_,_,U,U,QD (Yu (Yu d (lq " ")) hs40) (lq " c"),L,_,_,U,U,e4,(by rw[ql,qA,l,l4];exact QI ⋯),?_⟩;refine⟨zs++[((x++" ")++sg)++" c"],_,U,s4.jl Y,?_,by rw[qA,l4];rfl,(λz hz=>(qF.mp hz).elim (b4 z) λq=>by rw[qt.mp q];exact hbad),(Qa LsL).trans y4⟩;rw[Qb];simp only[qE,zf,yN,yO]
   .rintro σ H4 ⟨zs,v,rfl,s4,e4,l4,b4,y4⟩;exact q9 L (rs++zs) H4 v s4 Y e4 (by rw[qA,l,l4,ql,n]) (λr D=>(qF.mp D).elim (F r) (b4 r))
  obtain⟨t7,h7,q7⟩:∃t,yU (T.cx 30 C A outer st H E) ((QO (sO 30)).drop 7) t/\∀(L:qd)(rs:qg)(H1:Hp)(g:Option V),Qi H H1->H L=none->H1 L=some (.lst (rs.map V.str))->rs.length=33->(∀r∈rs,Bad r)->t {nx:=λ_ H'=>Q .non H',rt:=Q} [some (.str x),some (.str o),some (.int c),some (.str I),some (.ref L),g] H1:=by
   refine⟨_,Qd (Qv (i:=4) (sc 30).nd (Qn U0 (pv 4) (QW (Qf (Qn Qh (pv 0) Qk) (Qf (Qn Qh (pv 0) Qk) (Qf Qk Qu)))))) h8,λL rs H1 g s1 Y B l F=>?_⟩;refine⟨_,U,_,U,_,_,U,U,QD d (lq " jump"),_,U,_,_,U,U,QD d (lq " Folders"),H0,λs J X s2 M=>?_⟩;obtain⟨ys,G,n,N⟩:∃ys:qg,J s=some (.lst (ys.map V.str))/\ys.length=3/\∀y∈ys,Bad y:=⟨[(x++(" jump":qc)),(x++(" Folders":qc)),("9 threads":qc)],M,U,λy j=>by
    simp only[qC,zO,yd] at j;rcases j with rfl|rfl|rfl
    .exact Q6 f [("jump":qc)]
    .exact Q6 f [("Folders":qc)]
    .exact cq⟩
   refine⟨L,s,_,_,U,U,s2 _ _ B,G,by rw[ql,ql,l,n];decide,λp O R s3 S=>?_⟩;exact q8 p (rs++ys) O g ((s1.trans s2).trans s3) (none_of (s1.trans s2) R) (by rw[qE];exact S) (by rw[qA,l,n]) (λr D=>(qF.mp D).elim (F r) (N r))
  obtain⟨t6,h6,q6⟩:∃t,yU (T.cx 30 C A outer st H E) ((QO (sO 30)).drop 6) t/\∀(L:qd)(rs:qg)(H1:Hp)(g:Option V),Qi H H1->H L=none->H1 L=some (.lst (rs.map V.str))->rs.length=29->(∀r∈rs,Bad r)->t {nx:=λ_ H'=>Q .non H',rt:=Q} [some (.str x),some (.str o),some (.int c),some (.str I),some (.ref L),g] H1:=by
   refine⟨_,Qd (Qv (i:=4) (sc 30).nd (Qn U0 (pv 4) (QW (Qf (Qn Qh (pv 0) Qk) (Qf (Qn Qh (pv 0) Qk) (Qf (Qn Qh (Qn Qh (Qn Qh (pv 0) Qk) (pv 3)) Qk) (Qf (Qn Qh (Qn Qh (Qn Qh (pv 0) Qk) (pv 3)) Qk) Qu))))))) h7,λL rs H1 g s1 Y B l F=>?_⟩;refine⟨_,U,_,U,_,_,U,U,QD d (lq " show"),_,U,_,_,U,U,QD d (lq " thread"),_,U,_,_,U,U,QD d (lq " put "),_,U,_,_,U,U,QD (Yu d (lq " put ")) k,_,_,U,U,QD (Yu (Yu d (lq " put ")) k) (lq " -5 t"),_,U,_,_,U,U,QD d (lq " put "),_,U,_,_,U,U,QD (Yu d (lq " put ")) k,_,_,U,U,QD (Yu (Yu d (lq " put ")) k) (lq " +5"),LF,λs J X s2 M=>?_⟩;obtain⟨ys,G,n,N⟩:∃ys:qg,J s=some (.lst (ys.map V.str))/\ys.length=4/\∀y∈ys,Bad y:=⟨[(x++(" show":qc)),(x++(" thread":qc)),(((x++(" put ":qc))++I)++(" -5 t":qc)),(((x++(" put ":qc))++I)++(" +5":qc))],M,U,λy j=>by
    simp only[qC,zO,yd] at j;rcases j with rfl|rfl|rfl|rfl
    .exact Q6 f [("show":qc)]
    .exact Q6 f [ZC]
    .exact BQ f pw [("-5":qc),("t":qc)]
    .exact BQ f pw [("+5":qc)]⟩
   refine⟨L,s,_,_,U,U,s2 _ _ B,G,by rw[ql,ql,l,n];decide,λp O R s3 S=>?_⟩;exact q7 p (rs++ys) O g ((s1.trans s2).trans s3) (none_of (s1.trans s2) R) (by rw[qE];exact S) (by rw[qA,l,n]) (λr D=>(qF.mp D).elim (F r) (N r))
  obtain⟨t5,h5,q5⟩:∃t,yU (T.cx 30 C A outer st H E) ((QO (sO 30)).drop 5) t/\∀(L:qd)(rs:qg)(H1:Hp)(g:Option V),Qi H H1->H L=none->H1 L=some (.lst (rs.map V.str))->rs.length=25->(∀r∈rs,Bad r)->t {nx:=λ_ H'=>Q .non H',rt:=Q} [some (.str x),some (.str o),some (.int c),some (.str I),some (.ref L),g] H1:=by
   refine⟨_,Qd (Qv (i:=4) (sc 30).nd (Qn U0 (pv 4) (QW (Qf (Qn Qh (pv 0) Qk) (Qf (Qn Qh (Gk plainAttrs_str PySem.F.slot_str_upper PySem.F.type_str_upper C8 (pv 0)) Qk) (Qf (Qn Qh (pv 0) Qk) (Qf (Qn Qh Qk (pv 0)) Qu))))))) h6,λL rs H1 g s1 Y B l F=>?_⟩;refine⟨_,U,_,U,_,_,U,U,QD d (lq "1 folders"),_,U,U,x,U,U,hxa,hxb,_,_,U,U,QD hux (lq " folders"),_,U,_,_,U,U,QD d (lq "abcdefgh folders"),_,U,_,_,U,U,QD (lq "put ") d,LF,λs J X s2 M=>?_⟩;obtain⟨ys,G,n,N⟩:∃ys:qg,J s=some (.lst (ys.map V.str))/\ys.length=4/\∀y∈ys,Bad y:=⟨[(x++("1 folders":qc)),((v7 x)++(" folders":qc)),(x++("abcdefgh folders":qc)),(("put ":qc)++x)],M,U,λy j=>by
    simp only[qC,zO,yd] at j;rcases j with rfl|rfl|rfl|rfl
    .exact T5 Z
    .exact TX Z
    .exact T4 Z
    .exact T2 Z nf⟩
   refine⟨L,s,_,_,U,U,s2 _ _ B,G,by rw[ql,ql,l,n];decide,λp O R s3 S=>?_⟩;exact q6 p (rs++ys) O g ((s1.trans s2).trans s3) (none_of (s1.trans s2) R) (by rw[qE];exact S) (by rw[qA,l,n]) (λr D=>(qF.mp D).elim (F r) (N r))
  obtain⟨t4,h4,q4⟩:∃t,yU (T.cx 30 C A outer st H E) ((QO (sO 30)).drop 4) t/\∀(L:qd)(rs:qg)(H1:Hp)(g:Option V),Qi H H1->H L=none->H1 L=some (.lst (rs.map V.str))->rs.length=21->(∀r∈rs,Bad r)->t {nx:=λ_ H'=>Q .non H',rt:=Q} [some (.str x),some (.str o),some (.int c),some (.str I),some (.ref L),g] H1:=by
   refine⟨_,Qd (Qv (i:=4) (sc 30).nd (Qn U0 (pv 4) (QW (Qf (Qn Qh (Qn Qh (pv 0) Qk) (pv 1)) (Qf (Qn Qh (pv 0) Qk) (Qf (Qn Qh (pv 0) Qk) (Qf (Qn Qh (pv 0) Qk) Qu))))))) h5,λL rs H1 g s1 Y B l F=>?_⟩;refine⟨_,U,_,U,_,_,U,U,QD d (lq " threads "),_,U,_,_,U,U,QD (Yu d (lq " threads ")) m,_,U,_,_,U,U,QD d (lq " rules all"),_,U,_,_,U,U,QD d (lq " forget it"),_,U,_,_,U,U,QD d (lq " folder"),LF,λs J X s2 M=>?_⟩;obtain⟨ys,G,n,N⟩:∃ys:qg,J s=some (.lst (ys.map V.str))/\ys.length=4/\∀y∈ys,Bad y:=⟨[((x++(" threads ":qc))++o),(x++(" rules all":qc)),(x++(" forget it":qc)),(x++(" folder":qc))],M,U,λy j=>by
    simp only[qC,zO,yd] at j;rcases j with rfl|rfl|rfl|rfl
    .exact TY f po
    .exact Q6 f [("rules":qc),("all":qc)]
    .exact Q6 f [("forget":qc),("it":qc)]
    .exact Q6 f [Zh]⟩
   refine⟨L,s,_,_,U,U,s2 _ _ B,G,by rw[ql,ql,l,n];decide,λp O R s3 S=>?_⟩;exact q5 p (rs++ys) O g ((s1.trans s2).trans s3) (none_of (s1.trans s2) R) (by rw[qE];exact S) (by rw[qA,l,n]) (λr D=>(qF.mp D).elim (F r) (N r))
  obtain⟨t3,h3,q3⟩:∃t,yU (T.cx 30 C A outer st H E) ((QO (sO 30)).drop 3) t/\∀(L:qd)(rs:qg)(H1:Hp)(g:Option V),Qi H H1->H L=none->H1 L=some (.lst (rs.map V.str))->rs.length=17->(∀r∈rs,Bad r)->t {nx:=λ_ H'=>Q .non H',rt:=Q} [some (.str x),some (.str o),some (.int c),some (.str I),some (.ref L),g] H1:=by
   refine⟨_,Qd (Qv (i:=4) (sc 30).nd (Qn U0 (pv 4) (QW (Qf (Qn Qh (Qn Qh (Qn Qh (pv 0) Qk) (pv 1)) Qk) (Qf (Qn Qh (Qn Qh (pv 0) Qk) (Gk plainAttrs_str PySem.F.slot_str_upper PySem.F.type_str_upper C8 (pv 1))) (Qf (Qn Qh (pv 0) Qk) (Qf (Qn Qh (pv 0) Qk) Qu))))))) h4,λL rs H1 g s1 Y B l F=>?_⟩;refine⟨_,U,_,U,_,_,U,U,QD d (lq " meet "),_,U,_,_,U,U,QD (Yu d (lq " meet ")) m,_,_,U,U,QD (Yu (Yu d (lq " meet ")) m) (lq "1"),_,U,_,_,U,U,QD d (lq " tell "),_,U,U,o,U,U,hoa,hob,_,_,U,U,QD (Yu d (lq " tell ")) huo,_,U,_,_,U,U,QD d (lq " tell"),_,U,_,_,U,U,QD d (lq " folders x"),LF,λs J X s2 M=>?_⟩;obtain⟨ys,G,n,N⟩:∃ys:qg,J s=some (.lst (ys.map V.str))/\ys.length=4/\∀y∈ys,Bad y:=⟨[(((x++(" meet ":qc))++o)++("1":qc)),((x++(" tell ":qc))++(v7 o)),(x++(" tell":qc)),(x++(" folders x":qc))],M,U,λy j=>by
    simp only[qC,zO,yd] at j;rcases j with rfl|rfl|rfl|rfl
    .exact cp f ho
    .exact cn f ho
    .exact Q6 f [Zm]
    .exact Q6 f [Za,("x":qc)]⟩
   refine⟨L,s,_,_,U,U,s2 _ _ B,G,by rw[ql,ql,l,n];decide,λp O R s3 S=>?_⟩;exact q4 p (rs++ys) O g ((s1.trans s2).trans s3) (none_of (s1.trans s2) R) (by rw[qE];exact S) (by rw[qA,l,n]) (λr D=>(qF.mp D).elim (F r) (N r))
  obtain⟨t2,h2,q2⟩:∃t,yU (T.cx 30 C A outer st H E) ((QO (sO 30)).drop 2) t/\∀(L:qd)(rs:qg)(H1:Hp)(g:Option V),Qi H H1->H L=none->H1 L=some (.lst (rs.map V.str))->rs.length=11->(∀r∈rs,Bad r)->t {nx:=λ_ H'=>Q .non H',rt:=Q} [some (.str x),some (.str o),some (.int c),some (.str I),some (.ref L),g] H1:=by
   refine⟨_,Qd (Qv (i:=4) (sc 30).nd (Qn U0 (pv 4) (QW (Qf (Qn Qh (pv 0) Qk) (Qf (Qn Qh (pv 0) Qk) (Qf (Qn Qh (pv 0) Qk) (Qf (Qn Qh (pv 0) Qk) (Qf (Qn Qh (pv 0) Qk) (Qf (Qn Qh (pv 0) Qk) Qu))))))))) h3,λL rs H1 g s1 Y B l F=>?_⟩;refine⟨_,U,_,U,_,_,U,U,QD d (lq " drop"),_,U,_,_,U,U,QD d (lq " drop a1 b"),_,U,_,_,U,U,QD d (lq " sort"),_,U,_,_,U,U,QD d (lq " rule"),_,U,_,_,U,U,QD d (lq " find"),_,U,_,_,U,U,QD d (lq " meet"),aj,λs J X s2 M=>?_⟩;obtain⟨ys,G,n,N⟩:∃ys:qg,J s=some (.lst (ys.map V.str))/\ys.length=6/\∀y∈ys,Bad y:=⟨[(x++(" drop":qc)),(x++(" drop a1 b":qc)),(x++(" sort":qc)),(x++(" rule":qc)),(x++(" find":qc)),(x++(" meet":qc))],M,U,λy j=>by
    simp only[qC,zO,yd] at j;rcases j with rfl|rfl|rfl|rfl|rfl|rfl
    .exact Q6 f [Zk]
    .exact Q6 f [Zk,Zz,("b":qc)]
    .exact Q6 f [("sort":qc)]
    .exact Q6 f [("rule":qc)]
    .exact Q6 f [("find":qc)]
    .exact Q6 f [Zl]⟩
   refine⟨L,s,_,_,U,U,s2 _ _ B,G,by rw[ql,ql,l,n];decide,λp O R s3 S=>?_⟩;exact q3 p (rs++ys) O g ((s1.trans s2).trans s3) (none_of (s1.trans s2) R) (by rw[qE];exact S) (by rw[qA,l,n]) (λr D=>(qF.mp D).elim (F r) (N r))
  obtain⟨t1,h1,q1⟩:∃t,yU (T.cx 30 C A outer st H E) ((QO (sO 30)).drop 1) t/\∀(L:qd)(rs:qg)(H1:Hp)(g:Option V),Qi H H1->H L=none->H1 L=some (.lst (rs.map V.str))->rs.length=6->(∀r∈rs,Bad r)->t {nx:=λ_ H'=>Q .non H',rt:=Q} [some (.str x),some (.str o),some (.int c),some (.str I),some (.ref L),g] H1:=by
   refine⟨_,Qd (Qv (i:=4) (sc 30).nd (Qn U0 (pv 4) (QW (Qf (Qn Qh (pv 0) Qk) (Qf (Qn Qh (pv 0) Qk) (Qf (Qn Qh (pv 0) Qk) (Qf (Qn Qh (pv 0) Qk) (Qf (Qn Qh (pv 0) Qk) Qu)))))))) h2,λL rs H1 g s1 Y B l F=>?_⟩;refine⟨_,U,_,U,_,_,U,U,QD d (lq " put"),_,U,_,_,U,U,QD d (lq " place a1"),_,U,_,_,U,U,QD d (lq " place a1 b c"),_,U,_,_,U,U,QD d (lq " mark"),_,U,_,_,U,U,QD d (lq " unmark a1"),R5,λs J X s2 M=>?_⟩;obtain⟨ys,G,n,N⟩:∃ys:qg,J s=some (.lst (ys.map V.str))/\ys.length=5/\∀y∈ys,Bad y:=⟨[(x++(" put":qc)),(x++(" place a1":qc)),(x++(" place a1 b c":qc)),(x++(" mark":qc)),(x++(" unmark a1":qc))],M,U,λy j=>by
    simp only[qC,zO,yd] at j;rcases j with rfl|rfl|rfl|rfl|rfl
    .exact Q6 f [ZJ]
    .exact Q6 f [Zp,Zz]
    .exact Q6 f [Zp,Zz,("b":qc),("c":qc)]
    .exact Q6 f [Zg]
    .exact Q6 f [("unmark":qc),Zz]⟩
   refine⟨L,s,_,_,U,U,s2 _ _ B,G,by rw[ql,ql,l,n];decide,λp O R s3 S=>?_⟩;exact q2 p (rs++ys) O g ((s1.trans s2).trans s3) (none_of (s1.trans s2) R) (by rw[qE];exact S) (by rw[qA,l,n]) (λr D=>(qF.mp D).elim (F r) (N r))
  refine⟨_,Qd (Qv (i:=4) (sc 30).nd (QW (Qf Qk (Qf Qk (Qf (pv 0) (Qf (Qn Qh (Qn Qh (pv 0) Qk) (pv 3)) (Qf (Qn Qh (Qn Qh (Qn Qh (pv 0) Qk) (pv 3)) Qk) (Qf (Qn Qh (Qn Qh (Qn Qh (pv 0) Qk) (pv 3)) Qk) Qu)))))))) h1,?_⟩;refine⟨_,U,_,U,_,_,U,U,QD d (lq " put "),_,U,_,_,U,U,QD (Yu d (lq " put ")) k,_,U,_,_,U,U,QD d (lq " put "),_,U,_,_,U,U,QD (Yu d (lq " put ")) k,_,_,U,U,QD (Yu (Yu d (lq " put ")) k) (lq " x"),_,U,_,_,U,U,QD d (lq " put "),_,U,_,_,U,U,QD (Yu d (lq " put ")) k,_,_,U,U,QD (Yu (Yu d (lq " put ")) k) (lq " 12345 t"),aj,λL H1 X s1 B=>?_⟩;refine q1 L [("":qc),(" ":qc),x,((x++(" put ":qc))++I),(((x++(" put ":qc))++I)++(" x":qc)),(((x++(" put ":qc))++I)++(" 12345 t":qc))] H1 none s1 X B rfl λy j=>?_;simp only[qC,zO,yd] at j;rcases j with rfl|rfl|rfl|rfl|rfl|rfl
  .exact cw
  .exact cu
  .exact RZ f
  .exact T3 f pw
  .exact BQ f pw [("x":qc)]
  .exact BQ f pw [("12345":qc),("t":qc)]
theorem X3.of(qs:qg)(c:qs≠[])(a:∀q∈qs,xn q)(b:Str.join " " qs=r)(d:qs.length<=10):X3 r qs:=
 ⟨⟨qs,c,λq h=>(a q h).b,b,zZ.mpr λq h=>by rw[qD (a q h).n];rfl,⋯,λq h=>zb (a q h).l ∅⟩,by rw[<-b];have:=GC (qs:=qs) λq h=>(a q h).l;omega⟩
def kS(i:Nat):qc:=Str.ofString (toString ((i:Nat):Int))
theorem bQ:∀i:Nat,i<4->(PySem.intText? (kS i)=some (i:Int)/\(kS i).length<=4/\((kS i).cps.toList.all λc=>decide (c∈Ae.cps.toList))=true/\(!decide (32∈(kS i).cps.toList)&&(!decide (kS i="")&&Nat.ble (kS i).length 60))=true):=by decide +kernel
theorem D7{w:qc}(a:xn x)(b:xn w)(c:i<4):X3 ((((x++" put ")++w)++" ")++kS i) [x,ZJ,w,kS i]:=by
 refine .of _ (zp _ _) (Q5 a (Q5 (.lit) (Q5 b (UG (.lit (bQ i c).2.2.2))))) ?_ (qT rfl);rw[show(" put ":qc)=(" "++ZJ)++" " by decide +kernel];show(x++" ")++((ZJ++" ")++((w++" ")++kS i))=_;simp only[YH]
theorem Gd(a:xn x):X3 (x++" folders") [x,Za]:=by
 refine .of _ (zp _ _) (Q5 a (UG (.lit))) ?_ (qT rfl);rw[show(" folders":qc)=" "++Za by decide +kernel];show(x++" ")++Za=_;simp only[YH]
theorem D8(a:xn x):X3 (x++" folder inbox") [x,Zh,ZZ]:=by
 refine .of _ (zp _ _) (Q5 a (Q5 (.lit) (UG (.lit)))) ?_ (qT rfl);rw[show(" folder inbox":qc)=(" "++Zh)++(" "++ZZ) by decide +kernel];show(x++" ")++((Zh++" ")++ZZ)=_;simp only[YH]
theorem Rk:∀n:Nat,n<4->XY [V.str (EJ n)] none (some (n:Int))=(due n).map V.str:=λn h=>by
 match n,h with
 |0,_=>rfl
 |1,_=>rfl
 |2,_=>rfl
 |3,_=>rfl
theorem Rl(h:n<4):∀x∈due n,kK x:=λx a=>by
 have:∀n:Nat,n<4->((due n).all λx=>x.cps.toList.all λc=>decide (c<128))=true:=by decide +kernel
 have:=zi.mp (this n h) x a;exact λc hc=>qH (zi.mp this c hc)
theorem Rj(n:Nat):(due n).length<=1:=by unfold due;split<;>simp
theorem CJ:∀x∈[("refused: NoRow":qc)],kK x:=λx a=>by
 rw[qt.mp a];exact Y8
theorem Ds.track{dk:qd}{cl:qd}(h:Ds a H dk D hd cl cs n)(s:Qi H H')(nl:H l=none)(e:H' l=some (.lst xs)):Ds a H' dk D hd l xs n:=by
 cases h with
 |no h0 k _=>exact .no h0 (k.quiet s) e
 |yes h=>
  obtain⟨g,d,_,_⟩:=h;exact .yes (.mk (g.qu H) (d.quiet s) e (.inr (Uu nl)))
theorem Ds.at{dk:qd}{cl:qd}(h:Ds a H dk D hd cl cs n):H cl=some (.lst cs):=by
 cases h with
 |no _ _ e=>exact e
 |yes h=>obtain⟨_,_,e,_⟩:=h;exact e
theorem kA.at{b:qd}{cl:qd}(h:kA a H b D hd cl cs n mr):H cl=some (.lst cs):=by obtain⟨_,_,e,_⟩:=h;exact e
theorem S1(T:Txt P w K mg base a fd):T.k jg 60 31 (wo K):=by
 refine T.ok 31 (λM A outer st H vs Q E hr h=>?_)
 .obtain⟨p,ns,rfl,hS,h63,k⟩:=h;have hu64:=hr.units;obtain⟨t12,h12,q12⟩:∃t,yU (T.cx 31 M A outer st H E) ((QO (sO 31)).drop 12) t /\
   ∀(sc cl d D C:qd)(s:Int)(hd f v:qc)(n:Nat)(cs:qa V)(mr:qa (qc×qd))(y F v10:Option V)(H1:Hp),n<4->QN hd->kA a H1 d D hd C cs n mr->t {nx:=λ_ H'=>Q .non H',rt:=Q} [some (.ref sc),some (.ref cl),some (.int s),some (.str hd),some (.str f),some (.str v),some (.ref d),some (.int n),y,F,v10] H1:=by
   refine⟨_,(Qe (Qp (T.cl (Vv T) (zj (T.me (pv 6) (T 10) (T 27) (XN T) (zj (Qn Qh (pv 3) Qk) Qg)) (zj (Qs Ko rfl (T 14) boot_sorted (zj (UZ (sc:=Qr (sO 31)) (N:=(nn 31)) (fr:=[(3,"_law_hand")]) (wN rfl rfl) rfl rfl rfl (WD rfl (T 34) (zj (pv 7) Qg)) (λ_ _ _ _=>WB) (λ_ _ _ _=>(Qn Qh (pv 1) (Yn YX rfl (T 9) boot_str (zj (Qn Ur (pv 0) Qj) Qg))))) Qg)) Qg))))),?_⟩;intro sc cl d D C s hd f v n cs mr y F v10 H1 G g ds;obtain⟨O,kd⟩:=ds.dk1;obtain⟨dd,ek⟩:=kd.e;have l8:=g.hi;refine⟨_,U,d,dd,_,U,ek,U,_,U,_,_,U,U,QD (m:=20) (n:=20) ⋯ (lq " folder inbox"),.nam d D hd _ C cs n mr rfl (D8 (.hand g)) ds g ⋯ λl I B=>?_⟩;refine⟨_,U,(n:Int),U,⋯,⋯,EN (λi=>.str (vw hd i)) (by show(n:Int).toNat<=sizeLine;exact Yd (⋯)) (λi H3 Q' R s3 q=>?_) λu J=>?_⟩
   .refine⟨_,U,_,U,_,_,U,U,_,U,by rw[show(0:Int)+(i:Int)+1=((i+1:Nat):Int) by omega,j8];exact jh (yq _) ⋯,?_⟩;have S:i<40:=by omega
    have l3:=(WH (i+1) ⋯).1;rw[show(0:Int)+(i:Int)+1=((i+1:Nat):Int) by omega];exact⟨_,_,U,U,QD (m:=20) (n:=20) ⋯ (zb l3 ∅),q⟩
   .have Y:(List.range (n:Int).toNat).map (λi=>V.str (vw hd i))=(nms hd n).map V.str:=by
     show _=((List.range n).map (vw hd)).map V.str;rw[zg];rfl
    rw[Y];have s3:Qi I (upd I u (.lst ((nms hd n).map V.str))):=Qi.zq J;have e3:(upd I u (.lst ((nms hd n).map V.str))) u=some (.lst ((nms hd n).map V.str)):=Qb;generalize upd I u (.lst ((nms hd n).map V.str))=H3 at s3 e3;refine⟨u,nms hd n,U,zN.of e3,by rw[Kz];omega,λX L=>?_⟩;have s4:Qi H3 (upd H3 X (.lst ((Q3 (nms hd n)).map V.str))):=Qi.zq L;refine⟨l,X,Q3 (nms hd n),U,s4 _ _ (s3 _ _ B.e),zN.of Qb,λm hm=>?_,by rw[UE,Kz];omega,λH' _=>k H'⟩;obtain⟨i,R,rfl⟩:=qw.mp (XE.mp hm);exact(By g (by have:=jK.mp R;omega)).asc
  obtain⟨t10,h10,q10⟩:∃t,yU (T.cx 31 M A outer st H E) ((QO (sO 31)).drop 10) t /\
   ∀(sc cl d D:qd)(s:Int)(hd f v:qc)(n:Nat)(cs:qa V)(y F v10:Option V)(H1:Hp),n<4->QN hd->QN f->f≠hd->Ds a H1 d D hd cl cs n->t {nx:=λ_ H'=>Q .non H',rt:=Q} [some (.ref sc),some (.ref cl),some (.int s),some (.str hd),some (.str f),some (.str v),some (.ref d),some (.int n),y,F,v10] H1:=by
   refine⟨_,(Qd (Qv (i:=10) (sc 31).nd (U5 K7 (QW (Qf (Qn Qh (Qn Qh (Qn Qh Qk (Yn YX rfl (T 9) boot_str (zj (pv 7) Qg))) Qk) (Yn YX rfl (T 9) boot_str (zj (pv 7) Qg))) Qu)) VP (VO (pv 7))))
    (Qd (QG (PW.pt (Vh (Yl (Yk (T.cl (Vv T) (zj (T.me (pv 6) (T 10) (T 27) (XN T) (zj (Qn Qh (pv 3) Qk) Qg)) (zj (pv 10) Qg))))) (UQ (Yl (Yk (T.cl (Vv T) (zj (T.me (pv 6) (T 10) (T 27) (XN T) (zj (Qn Qh (pv 4) Qk) Qg)) (zj (QW Qu) Qg)))))))) (Qe (Qp Uz)) Qq)
    h12)),?_⟩
   intro sc cl d D s hd f v n cs y F v10 H1 G g J C ds;have l8:=g.hi;have l9:=J.hi;have lg:(n:Int).natAbs.log2<1920:=by rw[j8];exact jh (yq _) ⋯
   have t3:(Str.ofString (toString (n:Int))).length<=20:=zb (WH n ⋯).1 ∅;refine⟨_,U,_,U,lg,_,_,U,U,QD (lq "inbox ") t3,_,_,U,U,QD (Yu (lq "inbox ") t3) (lq " "),_,U,_,U,lg,_,_,U,U,QD (Yu (Yu (lq "inbox ") t3) (lq " ")) t3,G9,λL1 I hL1 s2 e2=>?_⟩;have e2:I L1=some (.lst [.str (EJ n)]):=e2;refine⟨_,U,_,U,L1,_,U,zN.of e2,λL2 H3 hL2 s3 e3=>?_⟩;rw[Rk n G] at e3;dsimp only[Q8];have d3:=ds.track (s2.trans s3) (none_of s2 hL2) e3;obtain⟨O,kd⟩:=d3.dk;obtain⟨dd,ek⟩:=kd.e;refine⟨_,U,d,dd,_,U,ek,U,_,U,_,_,U,U,QD (m:=20) (n:=20) ⋯ (lq " folders"),.fol d D hd _ L2 _ n rfl (Gd (.hand g)) d3 g ⋯ λl H4 B=>?_⟩;refine⟨_,U,l,L2,due n,U,B.e,zN.of B.d.at,Rl G,by have:=Rj n;omega,λH5 s5=>⟨_,U,QC ?_⟩⟩;have d5:=(B.w H4 _ (Qi.refl _)).quiet s5;obtain⟨rms5,X⟩:=d5.dk1;obtain⟨Y,Z⟩:=X.e;refine⟨_,U,d,Y,_,U,Z,U,_,U,_,_,U,U,QD (m:=20) (n:=20) ⋯ (lq " folders"),.oth d D hd f _ L2 _ n rfl (Gd (.hand J)) d5 J C λx l6 H6 u=>?_⟩;refine⟨LG,λL7 L hL7 s7 e7=>⟨l6,L7,[],U,s7 _ _ u.e,zN.of e7,nofun,za _,λH8 s8=>⟨_,U,QC ?_⟩⟩⟩;exact q12 sc cl d D L2 s hd f v n _ _ y F _ H8 G g ((u.w L _ s7).quiet s8)
  obtain⟨t8,h8,q8⟩:∃t,yU (T.cx 31 M A outer st H E) ((QO (sO 31)).drop 8) t /\
   ∀(sc cl d D:qd)(s:Int)(hd f v:qc)(n:Nat)(rs:qa Int)(y F v10:Option V)(H1:Hp),n<4->QN hd->NF hd->QN f->f≠hd->Uj v->rs.length=12->Ds a H1 d D hd cl (rs.map V.int) n->t {nx:=λ_ H'=>Q .non H',rt:=Q} [some (.ref sc),some (.ref cl),some (.int s),some (.str hd),some (.str f),some (.str v),some (.ref d),some (.int n),y,F,v10] H1:=by
   refine⟨_,(Qd (Qv (i:=9) (sc 31).nd (T.cl (IL T) (zj (pv 3) (zj (pv 4) (zj (Qt Q2 (pv 1) Qj) (zj (pv 5) Qg))))))
    (Qd (QG (PW.pt (Vh (Yl (Yk (T.cl (Vv T) (zj (T.me (pv 6) (T 10) (T 27) (XN T) (zj (pv 9) Qg)) (zj (QW (Qf Qk Qu)) Qg))))) (UQ (Yl (Yk (T.cl (Vv T) (zj (T.me (pv 6) (T 10) (T 27) (XN T) (zj (Qn Qh (pv 9) Qk) Qg)) (zj (QW (Qf Qk Qu)) Qg)))))))) (Qe (Qp Uz)) Qq)
    h10)),?_⟩
   intro sc cl d D s hd f v n rs y F v10 H1 G g nf J C hw hrs ds;have h4:(4:Nat)<rs.length:=by omega
   refine⟨_,U,_,U,_,U,cl,_,_,_,U,U,zN.of ds.at,QF (j:=4) (by rw[qQ,qv h4];rfl),_,U,hd,f,v,rs[4],U,g,nf,J,hw,λr I hb s2=>?_⟩;dsimp only[Q8];have d2:=ds.quiet s2;obtain⟨O,kd⟩:=d2.dk;obtain⟨dd,ek⟩:=kd.e;obtain⟨ps,rq,hps⟩:=hb.row;refine⟨_,U,d,dd,_,U,ek,U,_,U,.bad d D hd r ps cl _ n rfl rq hps d2 λl H3 B=>?_⟩;refine⟨G9,λL4 H4 hL4 s4 e4=>⟨l,L4,["refused: NoRow"],U,s4 _ _ B.e,zN.of e4,CJ,qT rfl,λH5 s5=>⟨_,U,QC ?_⟩⟩⟩;have d5:=(B.w H4 _ s4).quiet s5;obtain⟨rms5,X⟩:=d5.dk;obtain⟨Y,Z⟩:=X.e;obtain⟨ps2,rq2,hps2⟩:=hb.blank;have hl:=hb.l;refine⟨_,U,d,Y,_,U,Z,U,_,U,_,_,U,U,QD (m:=900) (n:=20) hl (lq " "),.bad d D hd _ ps2 cl _ n rfl rq2 hps2 d5 λl6 H6 u=>?_⟩;refine⟨G9,λL7 L hL7 s7 e7=>⟨l6,L7,["refused: NoRow"],U,s7 _ _ u.e,zN.of e7,CJ,qT rfl,λH8 s8=>⟨_,U,QC ?_⟩⟩⟩;exact q10 sc cl d D s hd f v n _ y _ v10 H8 G g J C ((u.w L _ s7).quiet s8)
  refine⟨_,(Qd (Qv (i:=1) (sc 31).nd (T.cl (Nc T) (zj (pv 0) (zj Qj (zj Qj Qg)))))
   (Qd (Qv (i:=2) (sc 31).nd (Qt Q2 (pv 1) Qj))
   (Qd (Qv (i:=3) (sc 31).nd (T.cl (AL T) (zj (Qt Q2 (pv 1) Qj) (zj Qj Qg))))
   (Qd (Qv (i:=4) (sc 31).nd (Qt Q2 (QW (Qf (T.cl (AL T) (zj (Qt Q2 (pv 1) Qj) (zj Qj Qg))) (Qf (Qn Qh (pv 3) Qk) Qu))) (Yn Lw rfl (T 42) boot_int (zj (WG Uq (Qn Ua (Qn Vi (Qt Q2 (pv 1) Qj) Qj) Qj) Qj) Qg))))
   (Qd (Qv (i:=5) (sc 31).nd (T.cl (Iy T) (zj (pv 2) (zj (Qn Ua (Qt Q2 (pv 1) Qj) Qj) Qg))))
   (Qd (Qv (i:=6) (sc 31).nd (Vt (T 144) (Nl T) hr.up rfl (T 143) (T.B 83) .nil UN))
   (Qd (Qv (i:=7) (sc 31).nd (Qn Ua (Qt Q2 (pv 1) Qj) Qj))
   (Qd (Y9 zJ rfl (WD rfl (T 34) (zj (pv 7) Qg)) (Yc (i:=8) (sc 31).nd) (Qe (QG (Qx (MZ hu64) (T.me (pv 6) (T 10) (T 27) (XN T) (zj (Qn Qh (Qn Qh (Qn Qh (Qn Qh (pv 3) Qk) (pv 5)) Qk) (Yn YX rfl (T 9) boot_str (zj (pv 8) Qg))) Qg)) (QW (Qf (Qn Qh (pv 3) (Yn YX rfl (T 9) boot_str (zj (Qn Ur (pv 8) Qj) Qg))) Qu))) (Qe (Qp Uz)) Qq)))
   h8)))))))),?_⟩
  refine⟨_,U,p,ns,0,12,U,hS,∅,∅,λcl rs H1 hrl hrb ncl s1 Y=>?_⟩;dsimp only[Q8];have at_:∀j:Nat,j<12->∃r:Int,xx (rs.map V.int) (j:Int)=some (.int r)/\0<=r/\r<2147483629:=λj h=>
   have hj:j<rs.length:=by omega
   ⟨rs[j],QF (by rw[qQ,qv hj];rfl),hrb _ (zu hj)⟩
  obtain⟨Z,a0,b00,b01⟩:=at_ 0 ∅;obtain⟨r1,a1,b10,b11⟩:=at_ 1 ∅;obtain⟨r2,a2,b20,b21⟩:=at_ 2 ∅;obtain⟨r3,a3,b30,b31⟩:=at_ 3 ∅;refine⟨_,U,cl,_,_,_,U,U,zN.of Y,a0,?_⟩;dsimp only[Q8];refine⟨_,U,cl,_,_,_,U,U,zN.of Y,a1,r1,0,U,b10,∅,λi j m t R hj hm ht ei ej em et I s2=>?_⟩;dsimp only[Q8];have hok:=bW i R j hj m hm t ht;simp only[qG,z0,decide_eq_false_iff_not] at hok;obtain⟨⟨⟨⟨⟨ok1,ok2⟩,ok3⟩,X⟩,ok5⟩,ok6⟩:=hok;have g:QN (hN i j m t 0):=GL ok1;have nf:NF (hN i j m t 0):=kc.mp ok6;have l8:=g.hi;refine⟨_,U,cl,_,_,_,U,U,zN.of (s2 _ _ Y),a1,r1,1,U,b10,∅,λi' j' m' t' hi' hj' hm' ht' ei' ej' em' et' H3 s3=>?_⟩;obtain rfl:i'=i:=by omega
  obtain rfl:j'=j:=by omega
  obtain rfl:m'=m:=by omega
  obtain rfl:t'=t:=by omega
  generalize hN i' j' m' t' 0=hd at g nf l8 ok3 X ok5;generalize hN i' j' m' t' 1=o1 at ok2 X;refine⟨_,U,_,_,U,U,QD (m:=20) (n:=20) ⋯ (lq "n"),V1,λL4 H4 hL4 s4 e4=>?_⟩;have S4:=(s2.trans s3).trans s4;refine⟨_,U,cl,_,_,_,U,U,zN.of (S4 _ _ Y),a1,_,_,U,U,⟨∅,∅⟩,_,_,U,U,zi_3,U,.inr ⟨_,U,?_⟩⟩;obtain⟨f,eo,J,C⟩:∃f:qc,xx [V.str o1,.str (hd++"n")] (if decide (V.int (r1 / 81%3)=V.int 1)=true then 1 else 0)=some (.str f)/\QN f/\f≠hd:=by
   by_cases z:V.int (r1 / 81%3)=V.int 1
   .rw[qx z];exact⟨_,U,GL ok3,ok5⟩
   .rw[qD z];exact⟨_,U,GL ok2,X⟩
  refine⟨L4,_,_,_,U,U,zN.of e4,eo,?_⟩;dsimp only[Q8];have w0:=zP r2 (b:=5) ∅;have w1:=zE r2 (b:=5) ∅;refine⟨_,U,_,U,cl,_,_,_,U,U,zN.of (S4 _ _ Y),a2,_,_,U,U,zi_5,Z,r2%5,U,b00,⋯,w0,⋯,λH5 s5=>?_⟩;have hw:=Ib (b:=Z) (i:=r2%5) w0 ⋯;generalize V3 Z (r2%5)=v at hw;dsimp only[Q8];intro d dd nk nd nkd;refine⟨d,dd,U,Qb,λD H6 sx nD kd=>⟨U,?_⟩⟩;dsimp only[Q8];have S6:Qi H1 H6:=(S4.trans s5).trans (Uh nk nd λc o n e=>sx c o n e);have e6:=S6 _ _ Y;refine⟨_,U,cl,_,_,_,U,U,zN.of e6,a3,_,_,U,U,aq,?_⟩;dsimp only[Q8];obtain⟨n,G,en⟩:∃n:Nat,n<4/\r3%4=(n:Int):=by
   have a0:=zP r3 (b:=4) ∅;have a1:=zE r3 (b:=4) ∅;obtain⟨i,R⟩:=kZ a0;exact⟨i,⋯,R⟩
  rw[en];refine⟨_,U,(n:Int),U,⋯,⋯,XU (n:=(n:Int).toNat) (λi σ L=>∃y:Option V,σ=[some (.ref p),some (.ref cl),some (.int Z),some (.str hd),some (.str f),some (.str v),some (.ref d),some (.int n),y,none,none]/\Ds a L d D hd cl (rs.map V.int) i)
   ⟨none,U,.no rfl kd e6⟩ ?_ ?_⟩
  .rintro i σ L R ⟨y,rfl,ds⟩;have S:i<4:=by omega
   obtain⟨O,kd7⟩:=ds.dk;obtain⟨dd7,ek7⟩:=kd7.e;have F:=hw.hi;obtain⟨k1,k2,k3,k4⟩:=bQ i S;have lg:(i:Int).natAbs.log2<1920:=by rw[j8];exact jh (yq _) ⋯
   have lg1:((i+1:Nat):Int).natAbs.log2<1920:=by rw[j8];exact jh (yq _) ⋯
   have u:hd.length<=20:=by omega
   have k20:(Str.ofString (toString (i:Int))).length<=20:=zb k2 ∅;rw[show(0:Int)+(i:Int)=(i:Int) by omega];refine⟨_,U,d,dd7,_,U,ek7,U,_,U,_,_,U,U,QD u (lq " put "),_,U,_,_,U,U,QD (Yu u (lq " put ")) F,_,_,U,U,QD (Yu (Yu u (lq " put ")) F) (lq " "),_,U,_,U,lg,_,_,U,U,QD (Yu (Yu (Yu u (lq " put ")) F) (lq " ")) k20,?_⟩;refine .put d D hd _ v (kS i) cl _ i i rfl (D7 (.hand g) (.word hw) S) ds g hw k1 k2 k3 ⋯ ⋯ ⋯ λl H8 B=>?_;have l3:=(WH (i+1) ⋯).1;refine⟨_,U,_,U,_,_,U,U,_,U,lg1,_,_,U,U,QD (m:=20) (n:=20) u (zb l3 ∅),G9,λL9 H9 hL9 s9 e9=>?_⟩;have asc:∀x∈[vw hd i],kK x:=λx hx=>by rw[qt.mp hx];exact(By g ⋯).asc
   have e9:H9 L9=some (.lst ([vw hd i].map V.str)):=e9;refine Hx (Ku (zN.of (s9 _ _ B.e))) (Ku (zN.of e9)) (X8 asc) ⟨_,U,QC ?_⟩;exact⟨_,U,.yes (B.d.quiet s9)⟩
  .rintro σ L ⟨y,rfl,ds⟩;exact q8 p cl d D Z hd f v n rs y none none L G g nf J C hw hrl ds
theorem Ny:∀(l:qa Fc)(i:Nat),nF l i=.z\/nF l i∈l
 |[],_=>.inl rfl
 |p::l,0=>.inr qB
 |p::l,i+1=>(Ny l i).imp id λh=>qK _ h
theorem Ra{h:Heap}(X:K.In h)(G:h.Ns mainGlobals mg):∀f:Fc,ve K f=true->ag K mg (aK K) f
 |.q x i,h=>by
  simp only[ve,qG,zC,yf] at h;have a:=h;exact mg_of X G a
 |.g x v,h=>by
  simp only[ve,qG,zC,yf] at h;obtain⟨a,b⟩:=h;exact Hd.gq X G a b
 |.t x ys,h=>by
  simp only[ve,qG,zC,yf] at h;have a:=h;exact Hd.ui X G a
 |.D x ys,h=>by
  simp only[ve,qG,zC,yf] at h;have a:=h;exact TQ X G a
 |.m i x j,h=>by
  simp only[ve,qG,zC,yf] at h;obtain⟨a,b,c,d,e⟩:=h;exact⟨a,b,⟨c,d,e⟩⟩
 |.b x,h=>by
  simp only[ve,qG,zC,yf] at h;have a:=h;exact PySem.W.mg_none_of X G a
 |.c i,h=>by
  simp only[ve,qG,zC,yf] at h;obtain⟨a,b,c,d⟩:=h;exact⟨a,b,c,d⟩
 |.k i j,h=>by
  simp only[ve,qG,zC,yf] at h;obtain⟨a,b,c,d⟩:=h;exact⟨a,b,c,d⟩
 |.M i x j,h=>by
  simp only[ve,qG,zC,yf] at h;obtain⟨a,b,c⟩:=h;exact⟨a,b,c⟩
 |.n i x,h=>by
  simp only[ve,qG,zC,yf] at h;have a:=h;exact a
 |.x i,h=>by
  simp only[ve,qG,zC,yf] at h;have a:=h;exact⟨a⟩
 |.s i j,h=>by
  simp only[ve,qG,zC,yf] at h;have a:=h;exact Tg a
 |.z,_=>trivial
theorem all_mk{l:PySem.W.OpenLaw}{h:Heap}{k:qd}(X:K.In h)(E:obs K=good)(G:h.Ns mainGlobals mg)(m:mg "law"=some (.ref k)) :
 ∃fd:FuncData,(∀(s:Shared)(v:qe),BindsTo s fd ⟨[v],[]⟩ [("_law_script",v)])/\∀base:Heap,K.In base->base.Ns mainGlobals mg->U1 l.prog w K mg base jg 60 k fd ["_law_script"] (wo K):=by
 have u:see K tab=Wo tab/\fx.all (ve K)=true:=by
  unfold obs good at E;obtain⟨d,E⟩:=jv E;obtain⟨g,E⟩:=jv E;obtain⟨o,E⟩:=jv E;obtain⟨p,E⟩:=jv E;obtain⟨r,E⟩:=jv E;refine⟨?_,?_⟩
  .have s:∀(l:qa Tb)(n:Nat),see K (l.take n)=Wo (l.take n)->see K (l.drop n)=Wo (l.drop n)->see K l=Wo l:=λl n c j=>by unfold see Wo at c j⊢;rw[<-vy n l,qE,qE,c,j]
   exact s _ 18 (zt Prod.fst d) (s _ 19 (zt Prod.fst g) (s _ 18 (zt Prod.fst o) (s _ 19 (zt Prod.fst p) (zt Prod.fst r))))
  .have s:∀(l:qa Fc)(n:Nat),(l.take n).all (ve K)=true->(l.drop n).all (ve K)=true->l.all (ve K)=true:=λl n c j=>by rw[<-vy n l,List.all_append,c,j];rfl
   exact s _ 30 (zt Prod.snd d) (s _ 30 (zt Prod.snd g) (s _ 30 (zt Prod.snd o) (s _ 30 (zt Prod.snd p) (zt Prod.snd r))))
 obtain⟨d,g⟩:=u;have pl:∀i,i<93->∃fd,rK K (tb i)=some (some (.ref (aK K i)))/\BU K (v8 (sO i)) (qN (tb i)) (sO i) (aK K i) fd/\(wy (sO i)=[]->vK K (v8 (sO i)) (qN (tb i)) (sO i) (aK K i) fd)/\OU K fd (sO i):=λi r=>by
  have o:i<tab.length:=r;have j:=qv o;have c:tb i=tab[i]:=by unfold tb;rw[qZ,j];rfl
  have x:aK K i=Hd.yw (rK K (tb i)):=by unfold aK;rw[j,c]
  have eq:=Hd.eq_at d i (a:=Hd.see K (rK K (tb i)) (qN (tb i))) (b:=(some (Hd.ku (v8 (sO i)) (qN (tb i)) (sO i),uA (sO i)),true)) (by unfold see;rw[qQ,j,<-c];rfl) (by unfold Wo;rw[qQ,j,<-c];rfl);have p:∀t∈tab,plA t.2.1=true:=by decide +kernel
  rw[x];exact O7 eq (p (tb i) (RC r))
 let fd:Nat->FuncData:=λi=>if h:i<93 then Classical.choose (pl i h) else Classical.choose (pl 0 ∅)
 have q:∀i (h:i<93),rK K (tb i)=some (some (.ref (aK K i)))/\BU K (v8 (sO i)) (qN (tb i)) (sO i) (aK K i) (fd i)/\(wy (sO i)=[]->vK K (v8 (sO i)) (qN (tb i)) (sO i) (aK K i) (fd i))/\OU K (fd i) (sO i):=λi h=>by
  have e:fd i=Classical.choose (pl i h):=dif_pos h;rw[e];exact Classical.choose_spec (pl i h)
 have gl:∀t∈tab.take 32,t.1=none:=by decide +kernel
 have p:∀t∈tab.take 87,wy t.2.1=[]:=by decide +kernel
 have j:∀{n i:Nat},i<n->i<93->tb i∈tab.take n:=λ{n i} h h'=>by have o:i<tab.length:=h';have c:tb i=tab[i]:=by{unfold tb;rw[qZ,qv o];rfl};rw[c];exact List.mem_take_iff_getElem.mpr ⟨i,⋯,U⟩
 have T:∀{P:Program}{w:World}{base:Heap},Txt P w K mg base (aK K) fd:=⟨λi=>Ra X G _ ((Ny fx i).elim (λh=>by rw[h];rfl) λh=>zi.mp g _ h),λi h=>by have e:=(q i (qU h ∅)).1;unfold rK at e;rw[gl _ (j h (qU h ∅))] at e;exact mg_of X G e,λi h=>(q i (qU h ∅)).2.2.1 (p _ (j h (qU h ∅))),λi h _=>(q i h).2.1,λi h=>(q i h).2.2.2.all,(q 87 ∅).2.2.2.df 1 rfl,(q 88 ∅).2.2.2.df 2 rfl,(q 88 ∅).2.2.2.df 1 rfl,(q 89 ∅).2.2.2.df 2 rfl,(q 89 ∅).2.2.2.df 1 rfl,(q 90 ∅).2.2.2.df 1 rfl,(q 91 ∅).2.2.2.df 1 rfl,(q 92 ∅).2.2.2.df 1 rfl⟩;have e:Value.ref k=.ref (aK K 31):=qW (m.symm.trans (T (P:=PP) (w:=w) (base:=h).m 31))
 injection e with e
 subst e;refine⟨fd 31,λs v=>?_,λbase _ _=>S1 T⟩;have F:=(T (P:=PP) (w:=w) (base:=h)).F 31;generalize fd 31=f at F⊢;obtain⟨_,_,kV,doc,pm,an,x,ct,_,rfl,_,_⟩:=F.ex;exact .of_eq rfl
end K61
open PySem PySem.W PyProof.Rows
set_option maxRecDepth 100000 in
set_option maxHeartbeats 0 in
theorem PySem.Challenge.cw_mailroom_k61_rows_of_no_form_holds : PySem.Challenge.rw_mailroom_k61_rows_of_no_form.Holds := by
 refine Hd.uC K61.ads (q:=view K61.PP [136]) (loose:=K61.loose) (N:=20000) (obs:=K61.obs) (good:=K61.good) K61.look K61.opens rfl K61.fence K61.seen rfl rfl rfl rfl (by decide +kernel) ⟨rfl,rfl,rfl,rfl,rfl,by decide +kernel⟩ ?hw ?hc
 case hw=>w_witness2
 case hc=>exact Hd.walk (n:=63) (k:=60) (x:="_law_script") (sp:=K61.wo) rfl (by decide) rfl ⟨rfl,by decide,by decide,rfl⟩ (fun w K mg fa h KX y G hmg=>K61.all_mk KX y G hmg) (fun _ _ a ns hl _ hS=>⟨a,ns,rfl,hS,hl,fun _=>rfl⟩)
#print axioms PySem.Challenge.cw_mailroom_k61_rows_of_no_form_holds
