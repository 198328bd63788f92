import PyProof.Rows.All
import Wide.All
import OpenK.AllK
import Wide.FinOn
import Lean
import PyProof.EqAt
import PyProof.EqKinds
import PyProof.TupleCall
import PyProof.P3In
import KE.KDictLaws
import PyProof.Rows.SetFrom
import KE.KRevSl
import KE.KIntText
import KE.KLcPair
import KE.KIsAll
import PyProof.ExcArgsOwn
import PyProof.ExcAttrAll.ValueError
import PyProof.NsDelKeeps
import PyProof.Rows.CountFlat
import KE.RegKIsAll
import PyProof.WalksMore
import PyProof.FString5
import KE.KListMore
import PyProof.ZipIter
import PyProof.FString
import PyProof.StrLawsReplace
import PyProof.MinMaxWalk
import PyProof.WalkInts
import PyProof.Rows.MinMaxN
import PyProof.Rows.CallKwBuiltin
import KE.KMinKey
import PyProof.InstStoreFacts
import PyProof.ReprStr
import PyProof.StrLawsRepr
import KE.IntTextLaws
import PyProof.WalksEnum
import PyProof.EnumMake
import PySem.Challenge.RW_mailroom_k17_whole_rules_by_text
set_option linter.all false
set_option bootstrap.genMatcherCode false
set_option genSizeOf false
local macro_rules|`(∅)=>`(by decide +kernel)
local macro_rules|`(⋯)=>`(by omega)
local macro_rules|`(def $i $s:optDeclSig $v:declVal)=>`(noncomputable def $i $s:optDeclSig $v:declVal)
abbrev U:=@rfl
open PySem.W(Frag clsIn findIn plainGet hasDictIn plainOver makesIn isFn keepIn specialIn readsIn findCls kitOne excIn takesIn mroIn view recOk openGood instObj methodObj hideAll hideAll_get of_hideAll hideAll_none lookIn handedIn plainGet_of takerIn set_plain any_some Looks looks_clsIn emptyDict looks_findIn kia_one kitx_list kitx_dict callWith_K methodCall_KW callWith_K0 cellsFrom_some fnOf codeIn codeRec_of tail_of_in looks_mroIn check_slot handed_on method_cls cls_value mg_of)
open PySem.PyData(canLay0 canLayAll0)
open Sum(inl inr)
open PyProof.Rows(iadd_int slot_tuple_getitem boot_max kws_cons kws_nil envOfC boot_all boot_isinstance boot_str lo1 boot_int boot_bool up1 boot_sorted boot_set boot_any boot_tuple boot_list split_le)
open PySem.F(slot_dict_pop slot_dict_get plainAttrs_dict slot_set_iter plainAttrs_str entry_max_loop plain_max_loop excBase_ValueError called_enumerate slot_enumerate_next slot_str_split type_str_split slot_str_join type_str_join plainAttrs_list)
def qi:=@List.length_map
def qj:=@PySem.wpAny_bind
def qk:=@PySem.Heap.get?_push_of_some
def ql:=@List.length_singleton
def qm:=@List.length_append
def qo:=@List.mem_cons_self
def qp:=@Nat.le_refl
def qq:=@List.mem_singleton
def qr:=@decide_eq_false
def qt:=@List.mem_cons_of_mem
def qu:=@PySem.wpAny_pure
def qv:=@decide_eq_true
def qw:=@List.length_cons
def qx:=@List.getElem?_eq_getElem
def qy:=@List.mem_cons
def qz:=@if_neg
def qA:=@Int.emod_lt_of_pos
def qB:=@Bool.and_eq_true
def qC:=@List.getElem?_map
def qE:=@Nat.lt_of_lt_of_le
def qF:=@Int.emod_nonneg
def qG:=@if_pos
def qH:=@List.map_append
def qI:=@PySem.Heap.lt_size
def qJ:=@List.getElem?_eq_some_iff
def qK:=@PySem.Heap.get?_push_size
def qL:=@List.mem_of_getElem?
def qM:=@of_decide_eq_true
def qO:=@Nat.le_trans
def qP:=@List.take_of_length_le
def qQ:=@Array.length_toList
def qR:=@Nat.ne_of_lt
def qS:=@Bool.false_ne_true
def qT:=@List.mem_append
def qU:=@List.mem_append_right
def qW:=@decide_eq_true_eq
def qX:=@List.map_cons
def qY:=@List.size_toArray
def qZ:=@List.length_drop
def q4:=@List.getD_eq_getElem?_getD
def q5:=@List.not_mem_nil
def q8:=@congrArg
def za:=@Option.some.inj
def zb:=@Nat.zero_le
def ze:=@List.append_nil
def zf:=@List.all_eq_true
def zg:=@PySem.PassesOwn.never
def zh:=@List.append_assoc
def zi:=@List.length_take
def zj:=@Option.bind_some
def zk:=@PySem.F.slot_list_append
def zl:=@PySem.F.type_list_append
def zo:=@List.take_add_one
def zp:=@PySem.strLen_append
def zq:=@Option.bind_eq_some_iff
def zr:=@List.mem_map
def zt:=@PySem.wpAny_mono
def zv:=@PySem.Heap.get?_update_other
def zw:=@Nat.lt_irrefl
def zx:=@Bool.false_eq_true
def zy:=@PySem.boot_len
def zz:=@PySem.Heap.get?_update_self
def zA:=@PySem.Calls.spliced_cons
def zB:=@Option.map_eq_some_iff
def zC:=@Nat.le_succ
def zD:=@List.lookup_cons
def zF:=@List.length_filter_le
def zG:=@List.take_append_drop
def zH:=@PySem.wpAny_newObj_type
def zI:=@PySem.sizeLine_eq
def zJ:=@List.length_nil
def zK:=@List.mem_append_left
def zM:=@PySem.wpAny_Call_Name_kw
def zN:=@Nat.lt_succ_self
def zP:=@List.drop_eq_getElem_cons
def zQ:=@PySem.wpAny_truthy_bool
def zR:=@PySem.wpAny_holding
def zT:=@PySem.codeAny_mono
def zU:=@List.getElem_mem
def zV:=@beq_eq_false_iff_ne
def zW:=@PySem.mem_of_lookup
def zX:=@List.filterMap_append
def zY:=@PySem.Heap.size_push
def zZ:=@PySem.wpAny_call_entry
def ja:=@List.filter_append
def jb:=@PySem.F.called_set
def jc:=@List.mem_of_mem_take
def jd:=@List.mem_filter
def je:=@PySem.wpAny_callSpecial?_slot
def jf:=@List.filter_cons
def jg:=@PySem.codeAny_call_builtin
def jh:=@PySem.Obj.data_mapFields
def ji:=@or_false
def jj:=@PySem.wpAny_passesOwn
def jk:=@PySem.codeAny_builtin
def jl:=@Nat.lt_succ_of_lt
def jm:=@beq_iff_eq
def jn:=@List.pairwise_cons
def jo:=@PySem.Around.under_plainId
def jq:=@PySem.wpAny_of_eq
def jr:=@Int.toNat_natCast
def js:=@List.flatMap_cons
def jt:=@List.drop_of_length_le
def ju:=@and_assoc
def jv:=@Bool.eq_iff_iff
def jw:=@List.foldl_cons
def jy:=@Ne.symm
def jz:=@Array.getElem?_eq_getElem
def jA:=@PySem.Calls.callWith_builtin
def jB:=@PySem.Heap.SameBut.update
def jC:=@Nat.lt_of_le_of_lt
def jE:=@List.mem_range
def jF:=@PySem.StrLaws.glued_eq_join
def jG:=@List.mem_of_mem_drop
def jH:=@PySem.wpAny_call
def jI:=@PySem.StrLaws.join_split
def jJ:=@List.length_range
def jK:=@List.nil_append
def jM:=@List.replicate_succ
def jO:=@PySem.wpAny_ite_split
def jQ:=@Array.getElem?_toList
def jR:=@PySem.Calls.Constant_str
def jS:=@List.flatten_cons
def jU:=@List.filterMap_cons_none
def jV:=@List.filterMap_cons_some
def jW:=@PySem.Calls.spliced_nil
def jX:=@PySem.wpAny_field
def jY:=@PySem.Calls.evalArgs_plain
def jZ:=@beq_self_eq_true
def j0:=@List.any_eq_true
def j3:=@List.pairwise_singleton
def j5:=@PySem.wpAny_setState_of
def j6:=@PySem.wpAny_loadPart_at
def j8:=@PySem.plainId_quiet
def ya:=@PySem.wpAny_attempt
def yd:=@Nat.ne_of_gt
def ye:=@List.mem_filterMap
def yf:=@List.map_map
def yg:=@PySem.wpAny_setEntries_of
def yh:=@List.nodup_cons
def yi:=@PySem.wpAny_askSetting
def yj:=@List.sum_append
def yk:=@Prod.mk.injEq
def ym:=@List.any_cons
def yn:=@List.map_take
def yo:=@List.cons.inj
def yp:=@Bool.true_and
def yq:=@PyProof.Rows.callWith_type1
def yr:=@bne_self_eq_false
def yt:=@PySem.Code.quiet_builtin
def yw:=@Bool.false_and
def yx:=@List.mem_iff_getElem
def yy:=@Nat.pow_le_pow_right
def yA:=@List.map_nil
def yB:=@List.isEmpty_nil
def yC:=@PySem.Obj.isFreed_of_fields
def yE:=@List.filterMap_cons
def yF:=@PySem.wpAny_loadName_local
def yG:=@PySem.wpAny_setField
def yH:=@if_true
def yI:=@List.find?_cons
def yJ:=@Nat.not_lt_zero
def yL:=@List.length_eq_zero_iff
def yP:=@List.getElem?_set_self
def yQ:=@if_false
def yR:=@List.foldl_append
def yS:=@Bool.not_eq_true'
def yT:=@List.drop_eq_nil_of_le
def yU:=@PySem.wpAny_execs_nil
def yW:=@PySem.wpAny_setField_rec
def xa:=@Option.getD_some
def xb:=@List.perm_middle
def xc:=@List.mem_flatMap
def xg:=@List.sum_cons
def xh:=@Bool.not_true
def xi:=@List.getElem?_set_ne
def xj:=@PySem.wpAny_pyIter_list
def xk:=@Array.toArray_toList
def xm:=@PySem.wpAny_pyIter_enum
def xt:=@PySem.plainObj_wpAny_Assign_Attribute
def xu:=@List.of_mem_zip
def xB:=@ne_true_of_eq_false
def xC:=@List.length_zipWith
def xE:=@Nat.le_of_lt
def xF:=@PySem.typeIs_str
def xG:=@PySem.call_meets
def xH:=@PySem.wpAny_rule
def xJ:=@PySem.Heap.get?_none_of_le
def xK:=@List.drop_zero
def xM:=@PySem.F.excAttr_ValueError
def xN:=@List.zip_cons_cons
def xO:=@List.append_of_mem
def xP:=@List.count_pos_iff
def xQ:=@List.getElem?_drop
def xR:=@of_decide_eq_false
def xZ:=@PySem.codeAny_of_tree
def x9:=@PySem.wpAny_updateSeq
def ka:=@Option.isNone_iff_eq_none
def ke:=@List.nodup_append
def kf:=@PySem.wpAny_isSubtype_exc
def ku:=@PySem.Calls.Name_function_global
def kx:=@PySem.wpAny_newFunctionEnv_cells
def ky:=@PySem.tupleKind_room_in1
def kz:=@Int.eq_ofNat_of_zero_le
def kA:=@List.getElem_map
def kB:=@PySem.isSubtype_type
def kC:=@PySem.wpAny_seqItems
def kD:=@PySem.wpAny_tryCatch
def kM:=@Nat.sub_zero
def kN:=@Array.getElem?_eq_none
def kO:=@Int.zero_add
def kS:=@PySem.F.entry_str_split
def kW:=@PySem.Obj.cls_mapFields
def kX:=@PySem.wpAny_letGo
def kY:=@PySem.PassesOwn.leaving
def k8:=@PySem.W.KIN.signs_num
def va:=@List.getElem?_eq_none
def vb:=@Nat.le_of_ble_eq_true
def vc:=@List.getElem?_zipWith
def vo:=@Sum.inr.inj
def vp:=@PySem.wpAny_execs_cons
def vq:=@PySem.F.slot_str_split
def vr:=@PySem.wpAny_isInstance
def vt:=@Bool.and_false
def vF:=@PySem.wpAny_Name
def vG:=@PySem.wpAny_typeOf
def vH:=@PySem.wpAny_Call_method_late
def vI:=@PySem.call_meetsIn
def vJ:=@PySem.SeqAt.canLay_of_shaped
def vK:=@List.map_eq_nil_iff
def vQ:=@List.map_drop
def vW:=@PySem.wpAny_storeName_local
def vX:=@PySem.codeAny_call_function
def vY:=@PySem.weight_type_call_type
def vZ:=@List.contains_cons
def wk:=@Option.some.injEq
def wm:=@Nat.lt_trans
def wo:=@PySem.lookup_relabel_local
def wq:=@Bool.eq_false_iff
def wt:=@PySem.wpAny_fieldsOf
def wu:=@Nat.pow_succ
def wL:=@PyProof.Rows.F.plain_set_update_loop
def wM:=@List.takeWhile_append_dropWhile
def wU:=@PySem.wpAny_Tuple_spliced
def wV:=@PyProof.Rows.callWith_builtin1
def wW:=@PySem.W.Looks.ld
def gg:=@PySem.wpAny_standAt
def gh:=@PySem.F.args_enumerate_next_1
abbrev qf:=List PySem.Str
abbrev qg:=PySem.Value→PySem.Shared→Prop
abbrev qh:=List PySem.Value
abbrev qb:=@List
abbrev qc:=PySem.Str
abbrev qd:=PySem.Addr
abbrev qe:=PySem.Value
noncomputable section
set_option Elab.async false
set_option maxRecDepth 100000
set_option maxHeartbeats 4000000
namespace L2
open PySem PySem.Spec PyProof.Rows
inductive V where
 |non|bl (b:Bool)|int (i:Int)|str (x:qc)|wg (b:Array UInt8)|flt (b:UInt64)|ref (a:qd)|ty (n:String)
 deriving DecidableEq
def Pk(s:Stmt)(j:Nat):Stmt:=match s with
 |.ClassDef _ _ _ body _ _ _ _ _ _ _=>body.getD j (.Pass ⟨0,0,0,0⟩)
 |_=>.Pass ⟨0,0,0,0⟩
def Yb(s:Stmt):Arguments:=match s with
 |.FunctionDef _ a _ _ _ _ _ _ _ _=>a
 |_=>{posonlyargs:=[],args:=[],vararg:=none,kwonlyargs:=[],kw_defaults:=[],kwarg:=none,defaults:=[]}
def QK(s:Stmt):qb Stmt:=match s with
 |.FunctionDef _ _ b _ _ _ _ _ _ _=>b
 |_=>[]
def Qr(s:Stmt):Scope:=match s with
 |.FunctionDef _ _ _ _ _ _ sc _ _ _=>sc
 |_=>{kind:=.function,names:=[],isGenerator:=false,isCoroutine:=false}
abbrev C3:qh:=[.type "ValueError",.type "Exception",.type "BaseException",.type "object"]
end L2
namespace Hd
open PySem PySem.W PySem.Calls PyProof.Rows L2
def v7(st:SharedT->Thread->Option (SharedT×Thread))(ok:Thread->Bool)(n:Nat):SharedT->Thread->Option SharedT:=
 @Nat.rec (λ_=>SharedT->Thread->Option SharedT) (λ_ _=>none) (λ_ a s t=>match through t with
  |true=>some s
  |false=>match ok t with
   |false=>none
   |true=>match st s t with
    |some (s',t')=>a s' t'
    |none=>none) n
def NO(t:BT)(n:Nat):qb Obj->BT
 |[]=>t
 |o::r=>NO (t.ins n o) (n+1) r
def RH(P:Params):BT:=NO .nil 0 (boot_heap P).objs.toList
def S0(w:World)(os:OsState):SharedT:=⟨RH w.params,11,{},#[],boot_drawn,boot_toks,os⟩
def chk(p:Program)(P:Params)(s:Shared):Bool:=staticsOk (importedModules p.main.body) (boot_heap P) s.heap&&namesBound p s.heap&&gensDone s&&laidKept (boot_heap P) s.heap
noncomputable abbrev vR:(Code->Sem Fin)->Program->World->SharedT->Thread->Option (SharedT×Thread):=PySem.W.Fast.tw10156331382660048174
noncomputable abbrev w5:Code->Sem Fin:=PySem.W.Fast.tw11892475500146522536 PySem.W.Fast.tw14364793385576792824
noncomputable abbrev okQ:Nat->Option qe->Thread->Bool:=PySem.W.Fast.tw6613529449190102663
noncomputable abbrev seenQ:=@PySem.W.Fast.tw4187177175401517315
def yM(s:SharedT):Frag:=(List.range s.n).filterMap λa=>(match Nat.blt a s.n with|true=>alive ((s.tree.get a).getD default)|false=>none).map λo=>(a,o)
def kH:qe->qe
 |.int n _=>.int n 0
 |.str x _=>.str x 0
 |v=>v
def Hf(K:Frag):qe->Option (qh)
 |.none=>none
 |.ref D=>(match K.lookup D with
  |some ⟨_,_,.seq items _,_⟩=>some (items.toList.map kH)
  |_=>some [])
 |_=>some []
def yN:Option (Option qe)->qd
 |some (some (.ref f))=>f
 |_=>0
def see(K:Frag)(r:Option (Option qe))(q:qc):Option (FuncData×Option (qh))×Bool:=match r with
 |some (some (.ref f))=>(match K.lookup f with
  |some ⟨_,_,.func fd,_⟩=>(some ({fd with defaults:=.none,kwdefaults:=.none,doc:=.none,pyModule:=.none,annotations:=none,code:=.none,closureTuple:=.none},Hf K fd.defaults),codeIn K fd.code q&&(keepIn K (.ref f)&&isFn K (.ref f)))
  |_=>(none,false))
 |_=>(none,false)
abbrev kd(x q:qc)(st:Stmt):FuncData:=fnOf x q (Yb st) (QK st) (Qr st) .none .none .none .none none .none .none
def bv:V->qe
 |.int n=>.int n 0
 |.str x=>.str x 0
 |.bl b=>.bool b
 |_=>.none
def flat:V->Bool
 |.int _|.str _|.bl _|.non=>true
 |_=>false
abbrev gl(K:Frag)(x:qc):Option (Option qe):=nsIn K mainGlobals x
abbrev cl(K:Frag)(x:qc):qd:=yN (gl K x)
def isVal(o:Option CFound)(v:qe):Bool:=match o with|some (.val u)=>decide (u=v)|_=>false
def Xd:qh->qf->Bool
 |[],[]=>true
 |.str x _::us,y::ys=>decide (x=y)&&Xd us ys
 |_,_=>false
def Lb(o:Option Obj)(ys:qf):Bool:=match o with
 |some a=>decide (a.cls=.type "tuple")&&(match a.data with|.seq its _=>decide (its.size<=sizeLine)&&Xd its.toList ys|_=>false)
 |none=>false
def ve(K:Frag)(x:qc)(ys:qf):Bool:=decide (gl K x=some (some (.ref (yN (gl K x)))))&&Lb (K.lookup (yN (gl K x))) ys
end Hd
namespace L2
open PySem PySem.Spec PyProof.Rows
def BP:qh->Bool
 |.ref _::r=>BP r
 |l=>l==[.type "ValueError",.type "Exception",.type "BaseException",.type "object"]
def BO(K:Frag)(C:qd):Bool:=(clsIn K C).any λcd=>BP cd.mro
def Ee(K:Frag)(C D:qd):Bool:=match K.lookup C with
 |some ⟨.type "type",_,.cls cd,sl⟩=>(match cd.mro,sl.toList with
  |.ref a::bm,[_,_,_,_,some (.builtin _),_]=>a==C&&!cd.hasDel&&(Value.ref C::bm).contains (.ref D)
  |_,_=>false)
 |_=>false
def EL(K:Frag)(C:qd):Bool:=match K.lookup C with
 |some ⟨.type "type",_,.cls cd,sl⟩=>(match cd.mro,sl.toList with
  |.ref a::bm,[_,_,_,_,some (.builtin n),_]=>a==C&&n=="ValueError.__new__"&&!cd.hasDel&&PySem.W.tailIn K C3 bm
  |_,_=>false)
 |_=>false
abbrev Tb:=Option qc×Stmt×qb Nat
def vL(s:Stmt):qc:=match s with
 |.FunctionDef n _ _ _ _ _ _ _ _ _=>n
 |.ClassDef n _ _ _ _ _ _ _ _ _ _=>n
 |_=>""
def t0(s:Stmt)(p:qb Nat:=[]):Tb:=(none,s,p)
def t1(c:Stmt)(j:Nat)(p:qb Nat:=[]):Tb:=(some (vL c),Pk c j,p)
def qN(t:Tb):qc:=match t.1 with
 |none=>vL t.2.1
 |some c=>c++"."++vL t.2.1
def rK(K:Frag)(t:Tb):Option (Option qe):=match t.1 with
 |none=>Hd.gl K (vL t.2.1)
 |some c=>findIn K (.ref (Hd.cl K c)) (vL t.2.1)
def lsO(b:qb Stmt):qf:=((b.filterMap λs=>match s with
 |.Assign [.Name x _] _ _=>if x="__name__" then none else some x
 |.FunctionDef n _ _ _ _ _ _ _ _ _=>if n="law" then none else some n
 |.ClassDef n _ _ _ _ _ _ _ _ _ _=>some n
 |_=>none)).eraseDups
def cvE(e:Expr):V:=match e with
 |.Constant (.str x) _ _=>.str x
 |.Constant (.int i) _ _=>.int i
 |.Constant (.bool b) _ _=>.bl b
 |_=>.non
def vU(s:Stmt):qb V:=(Yb s).defaults.map cvE
def g0(s:Stmt):Option (qh):=match vU s with
 |[]=>none
 |l=>some (l.map Hd.bv)
abbrev wN:=qb (Option (FuncData×Option (qh))×Bool)
def see(K:Frag)(l:qb Tb):wN:=l.map λt=>Hd.see K (rK K t) (qN t)
def Xz(l:qb Tb):wN:=l.map λt=>(some (Hd.kd (vL t.2.1) (qN t) t.2.1,g0 t.2.1),true)
end L2
namespace  K17
open PySem L2
def top(i:Nat):Stmt:=PySem.Challenge.pw_mailroom_k17_whole_rules_by_text.main.body.getD i (.Pass ⟨0,0,0,0⟩)
def tab:qb Tb:=[t0 (top 25),t0 (top 31),t0 (top 32),t0 (top 33),t0 (top 39),t0 (top 40),t0 (top 41),t0 (top 42),t0 (top 48),t0 (top 59),t0 (top 60),t0 (top 62),t0 (top 63),t0 (top 65),t0 (top 66),t0 (top 67),t0 (top 68),t0 (top 69),t0 (top 70),t0 (top 71),t0 (top 72),t0 (top 73),t0 (top 74),t0 (top 75),t0 (top 76),t0 (top 77),t0 (top 78),t0 (top 79),t0 (top 80),t0 (top 81),t0 (top 82),t0 (top 83),t0 (top 84),t0 (top 85),t0 (top 86),t0 (top 87),t0 (top 88),t0 (top 89),t0 (top 90) [0,1,2,4,5,6,3,7,8,9,10],t1 (top 10) 0,t1 (top 10) 1,t1 (top 10) 2,t1 (top 10) 3,t1 (top 12) 0,t1 (top 13) 0,t1 (top 14) 0,t1 (top 15) 0,t1 (top 16) 0,t1 (top 17) 0,t1 (top 18) 0,t1 (top 19) 0,t1 (top 20) 0,t1 (top 20) 1,t1 (top 21) 0,t1 (top 21) 1,t1 (top 22) 0,t1 (top 23) 0,t1 (top 23) 1,t1 (top 24) 0,t1 (top 24) 1,t1 (top 43) 1,t1 (top 43) 3,t1 (top 49) 0,t1 (top 49) 1,t1 (top 49) 2,t1 (top 49) 3,t1 (top 49) 4,t1 (top 61) 0,t1 (top 61) 1,t1 (top 61) 2,t1 (top 61) 3,t1 (top 61) 4,t1 (top 61) 5,t1 (top 61) 6,t1 (top 61) 7,t1 (top 61) 8,t1 (top 61) 9,t1 (top 61) 10,t1 (top 61) 11,t1 (top 61) 12,t1 (top 61) 13,t1 (top 5) 0,t1 (top 43) 0,t1 (top 45) 0]
def cN:qf:=["Always","Both","Card","Condition","DoesAnswer","Either","HasTitleWord","HasWord","InThread","IsFrom","IsIn","IsMarked","IsOfDays","Letter","MailError","NoLetter","NoName","NoParcel","NoRow","NoRule","NoWord","Not","Reader","Rules"]
def tb(i:Nat):Tb:=tab.getD i (t0 (top 0))
abbrev sO(i:Nat):Stmt:=(tb i).2.1
def aK(K:Frag)(i:Nat):qd:=match tab[i]? with|some t=>Hd.yN (rK K t)|none=>Hd.cl K (cN.getD (i-84) "")
inductive Fc
 |q (x:qc) (i:Nat)
 |g (x:qc) (v:V)
 |t (x:qc) (ys:qf)
 |b (x:qc)
 |c (i:Nat)
 |k (i j:Nat)
 |M (i:Nat) (x:qc) (j:Nat)
 |n (i:Nat) (x:qc)
 |f (i j:Nat) (x:qc)
 |I (i j:Nat) (b:Bool)
 |v (i:Nat)
 |x (i:Nat)
 |G (i:Nat)
 |X (i:Nat)
 |S (i:Nat) (x:qc)
 |p (i:Nat)
 |u (i j:Nat)
 |J (i:Nat)
 |z
def kh(K:Frag):Fc->Bool
 |.q x i=>decide (Hd.gl K x=some (some (.ref (aK K i))))
 |.g x v=>decide ((Hd.gl K x).map (Option.map Hd.kH)=some (some (Hd.bv v)))&&Hd.flat v
 |.t x ys=>Hd.ve K x ys
 |.b x=>decide (Hd.gl K x=some none)
 |.c i=>plainGet K (aK K i) Str.empty&&hasDictIn K (aK K i)&&plainOver K (aK K i)&&decide (findIn K (.ref (aK K i)) "__setattr__"=some (some (.builtin "object.__setattr__")))
 |.k i j=>makesIn K (aK K i)&&decide (findIn K (.ref (aK K i)) "__init__"=some (some (.ref (aK K j))))&&isFn K (.ref (aK K j))&&keepIn K (.ref (aK K i))
 |.M i x j=>decide (findIn K (.ref (aK K i)) x=some (some (.ref (aK K j))))&&isFn K (.ref (aK K j))&&keepIn K (.ref (aK K j))
 |.n i x=>decide (findIn K (.ref (aK K i)) x=some none)
 |.f i j x=>decide (specialIn K (.ref (aK K i)) "__getattribute__"=some (some (.builtin "type.__getattribute__")))&&readsIn K (aK K i) (.type "type")&&Hd.isVal (findCls K (.ref (aK K i)) (.type "type") x) (.ref (aK K j))&&keepIn K (.ref (aK K j))
 |.I i j b=>decide (kitOne K (.ref (aK K i)) (.ref (aK K j))=some b)
 |.v i=>decide (kitOne K (.ref (aK K i)) (.type "ValueError")=some true)
 |.x i=>excIn K (aK K i) C3 "ValueError.__new__"
 |.G i=>decide (findIn K (.ref (aK K i)) "__getattribute__"=some (some (.builtin "BaseException.__getattribute__")))&&decide (findIn K (.ref (aK K i)) "__getattr__"=some none)&&hasDictIn K (aK K i)&&decide (findIn K (.ref (aK K i)) "__class__"=some (some (.builtin "object.__class__")))&&decide (specialIn K (.builtin "object.__class__") "__get__"=some (some (.builtin "getset_descriptor.__get__")))&&decide (takesIn K (.builtin "object.__class__")=some true)&&decide (mroIn K (aK K i) (.type "object")=some true)&&decide (mroIn K (aK K i) (.type "BaseException")=some true)
 |.X i=>EL K (aK K i)
 |.S i x=>decide (findIn K (.ref (aK K i)) "__setattr__"=some (some (.builtin "object.__setattr__")))&&BO K (aK K i)&&decide (findIn K (.ref (aK K i)) x=some none)&&hasDictIn K (aK K i)
 |.p i=>keepIn K (.ref (aK K i))
 |.u i j=>Ee K (aK K i) (aK K j)
 |.J i=>decide (specialIn K (.ref (aK K i)) "__getattribute__"=some (some (.builtin "type.__getattribute__")))&&readsIn K (aK K i) (.type "type")&&Hd.isVal (findCls K (.ref (aK K i)) (.type "type") "__init__") (.builtin "ValueError.__init__")
 |.z=>true
def fx:qb Fc:=[.c 106,
 .c 97,
 .b "len",
 .X 103,
 .b "isinstance",
 .c 86,
 .b "range",
 .c 107,
 .q "NoRule" 103,
 .G 103,
 .n 97 "found",
 .M 103 "__init__" 81,
 .p 103,
 .n 86 "letter",
 .n 106 "at",
 .q "_law_holds" 26,
 .g "LAST_DAY" (.int 9999),
 .b "int",
 .c 85,
 .c 89,
 .q "_law_tokens" 29,
 .M 106 "passes" 70,
 .n 106 "row",
 .b "str",
 .b "list",
 .b "tuple",
 .c 96,
 .n 96 "shape",
 .c 105,
 .c 92,
 .n 86 "box",
 .n 86 "signs",
 .M 106 "step" 69,
 .M 106 "expect" 71,
 .M 106 "read_number" 73,
 .q "condition_of" 0,
 .b "sorted",
 .c 91,
 .n 91 "shape",
 .c 90,
 .n 90 "shape",
 .c 93,
 .n 93 "shape",
 .c 94,
 .n 94 "shape",
 .c 95,
 .n 95 "shape",
 .n 105 "inner",
 .n 92 "inner",
 .n 85 "one",
 .n 85 "other",
 .n 89 "one",
 .n 89 "other",
 .n 97 "sender",
 .n 97 "title",
 .n 97 "body",
 .n 97 "day",
 .n 97 "answers",
 .q "Card" 86,
 .k 86 83,
 .n 107 "kept",
 .M 106 "ahead" 68,
 .M 106 "checked" 75,
 .M 106 "read_single" 76,
 .n 106 "pieces",
 .S 103 "row",
 .q "read_rules" 12,
 .q "_law_runs" 25,
 .g "END" (.str ""),
 .t "STOP" ["stop"],
 .b "bool",
 .b "max",
 .b "enumerate",
 .b "zip",
 .q "Condition" 87,
 .c 84,
 .n 84 "shape",
 .c 88,
 .n 88 "shape",
 .n 105 "shape",
 .n 92 "shape",
 .n 85 "shape",
 .n 89 "shape",
 .q "Letter" 97,
 .k 97 82,
 .M 97 "known" 61,
 .M 107 "run" 64,
 .M 107 "met" 66,
 .M 106 "read_word" 72,
 .M 106 "read_both" 77,
 .M 106 "read_either" 78,
 .M 106 "read_act" 80,
 .f 87 39 "__init__",
 .q "MailError" 98,
 .q "all_among" 1,
 .q "pieces_of" 9,
 .q "deep" 10,
 .q "read_row" 11,
 .q "_law_whole" 14,
 .q "_law_threads" 23,
 .q "_law_day_tokens" 28,
 .g "FIGURES" (.str "0123456789"),
 .g "WORD_SIGNS" (.str "abcdefghijklmnopqrstuvwxyz0123456789"),
 .g "RUN_SIGNS" (.str "abcdefghijklmnopqrstuvwxyzABCDEFGHIJKLMNOPQRSTUVWXYZ0123456789"),
 .g "MOST_WORD" (.int 20),
 .g "MOST_TITLE" (.int 60),
 .g "MOST_BODY" (.int 400),
 .g "DAY_FIGURES" (.int 4),
 .g "MOST_DEEP" (.int 30),
 .g "MOST_WITHIN" (.int 40),
 .g "MOST_THREADS" (.int 2),
 .t "BARE" ["any","answers"],
 .t "WORDED" ["word","title","from","in","marked"],
 .t "OPENING" ["(","not","thread"],
 .t "WORDED_ACTS" ["place","mark","unmark"],
 .b "set",
 .b "all",
 .b "any",
 .q "Always" 84,
 .k 84 39,
 .M 84 "holds" 40,
 .M 84 "truths" 41,
 .M 84 "tree" 42,
 .q "HasWord" 91,
 .k 91 39,
 .M 91 "holds" 43,
 .M 91 "truths" 41,
 .M 91 "tree" 42,
 .q "HasTitleWord" 90,
 .k 90 39,
 .M 90 "holds" 44,
 .M 90 "truths" 41,
 .M 90 "tree" 42,
 .q "IsFrom" 93,
 .k 93 39,
 .M 93 "holds" 45,
 .M 93 "truths" 41,
 .M 93 "tree" 42,
 .q "IsOfDays" 96,
 .k 96 39,
 .M 96 "holds" 46,
 .M 96 "truths" 41,
 .M 96 "tree" 42,
 .q "IsIn" 94,
 .k 94 39,
 .M 94 "holds" 47,
 .M 94 "truths" 41,
 .M 94 "tree" 42,
 .q "IsMarked" 95,
 .k 95 39,
 .M 95 "holds" 48,
 .M 95 "truths" 41,
 .M 95 "tree" 42,
 .q "DoesAnswer" 88,
 .k 88 39,
 .M 88 "holds" 49,
 .M 88 "truths" 41,
 .M 88 "tree" 42,
 .q "Not" 105,
 .k 105 50,
 .M 105 "holds" 51,
 .M 105 "truths" 52,
 .M 105 "tree" 42,
 .q "InThread" 92,
 .k 92 50,
 .M 92 "holds" 53,
 .M 92 "truths" 54,
 .M 92 "tree" 42,
 .q "Both" 85,
 .k 85 55,
 .M 85 "holds" 56,
 .M 85 "truths" 57,
 .M 85 "tree" 42,
 .q "Either" 89,
 .k 89 55,
 .M 89 "holds" 58,
 .M 89 "truths" 59,
 .M 89 "tree" 42,
 .M 97 "twin" 60,
 .q "Rules" 107,
 .k 107 62,
 .M 107 "rows" 63,
 .M 107 "outcome" 65,
 .q "Reader" 106,
 .k 106 67,
 .M 106 "read_leaf" 74,
 .M 106 "read_whole" 79,
 .x 98,
 .q "NoLetter" 99,
 .u 103 98,
 .J 98,
 .q "NoWord" 104,
 .q "NoName" 100,
 .q "NoParcel" 101,
 .q "NoRow" 102,
 .I 103 99 false,
 .I 103 100 false,
 .I 103 101 false,
 .I 103 102 false,
 .I 103 104 false,
 .I 103 103 true,
 .v 103,
 .b "ValueError"]
abbrev PP:Program:=PySem.Challenge.pw_mailroom_k17_whole_rules_by_text
def loose:qf:=lsO PP.main.body
noncomputable abbrev HG(w:World)(os:OsState):Option PySem.W.SharedT:=Hd.v7 (Hd.vR Hd.w5 PP w) (Hd.okQ 11 (some (.ref 6))) 20000 (Hd.S0 w os) (PySem.W.topStub PP)
def ob1(K:Frag):wN×Bool:=(see K (tab.take 30),(fx.take 90).all (kh K))
def go1:wN×Bool:=(Xz (tab.take 30),true)
def bc(w:World)(os:OsState):(HG w os).map (λs=>(Hd.chk PP w.params s.abs,Hd.seenQ (view PP [90]) loose (PySem.importedModules PP.main.body) (λs=>recOk [] s) true s.abs,ob1 (Hd.yM s)))=some (true,openGood (view PP [90]) loose,go1):=by kernel_rfl
def ob2(K:Frag):wN×Bool:=(see K (tab.drop 30),(fx.drop 90).all (kh K))
def go2:wN×Bool:=(Xz (tab.drop 30),true)
def ba(w:World)(os:OsState):(HG w os).map (λs=>ob2 (Hd.yM s))=some go2:=by kernel_rfl
def obs(K:Frag):qb (wN×Bool):=[ob1 K,ob2 K]
def good:qb (wN×Bool):=[go1,go2]
def seen(w:World)(os:OsState):(HG w os).map (λs=>(Hd.chk PP w.params s.abs,Hd.seenQ (view PP [90]) loose (PySem.importedModules PP.main.body) (λs=>recOk [] s) true s.abs,obs (Hd.yM s)))=some (true,openGood (view PP [90]) loose,good):=by
 have h0:=bc w os;have a:=ba w os;generalize HG w os=r at h0 a⊢
 cases r with
 |none=>cases h0
 |some s=>
  rw[Option.map_some,wk,yk,yk] at h0;rw[Option.map_some,wk,yk,yk];refine⟨h0.1,h0.2.1,?_⟩;show[ob1 (Hd.yM s),ob2 (Hd.yM s)]=[go1,go2];rw[h0.2.2,show ob2 (Hd.yM s)=go2 from za a]
def look:PySem.W.Fast.tw9446332074065402090 PySem.Challenge.rw_mailroom_k17_whole_rules_by_text=true:=by kernel_rfl
def opens:PySem.W.opening PP=PySem.W.plainProg PP.main.scope.names:=by kernel_rfl
def fence(s:Shared):fenceModules? PP s=some s:=by kernel_rfl
end K17
namespace L2
open PySem PySem.Spec PyProof.Rows
variable {vs xs:qb V}{us:qh}{C a b:qd}{u:qe}{P:Program}{w:World}{base h:Heap}{i j n t':Nat}{ch fp:qb qd}{x:qc}{M:Model}{A:Around}{v y:V}{c e tg:Expr}{pos:Pos}{pins:qb (qd×Obj)}{op:CmpOp}{body:qb Stmt}{f:qe->qe->Sem qe}{pl:Sem Bool}{kw:qb (qc×qe)}{mg:qc->Option qe}{ps:qf}
abbrev Key:=Sum Int qc
def GZ:Key->qe->Bool
 |.inl k,v=>Value.isInt k v
 |.inr x,v=>Value.isStrOf x v
def keyH(w:World):Key->Int
 |.inl k=>hashInt k
 |.inr x=>hashStr w x
def Yk:∀{k:Key}{v:qe},GZ k v=true->(∃i t,k=inl i/\v=Value.int i t)\/(∃x t,k=inr x/\v=Value.str x t)
 |.inl i,v,h=>by
  obtain⟨t,e⟩:=Value.isInt_shape (k:=i) (v:=v) h;exact .inl ⟨i,t,U,e⟩
 |.inr x,v,h=>by
  obtain⟨t,e⟩:=Value.isStrOf_shape (x:=x) (v:=v) h;exact .inr ⟨x,t,U,e⟩
def Ip(i:Int)(t:Tok):GZ (.inl i) (.int i t)=true:=by simp[GZ,Value.isInt]
def Io(x:qc)(t:Tok):GZ (.inr x) (.str x t)=true:=by simp[GZ,Value.isStrOf]
def S1(a b:Int):decide ((inl a:Key)=inl b)=(a==b):=by
 by_cases e:a=b
 .subst e;simp
 .have h:¬(inl a:Key)=inl b:=λq=>e (inl.inj q);rw[qr h];exact(zV.mpr e).symm
def SV(a b:qc):decide ((inr a:Key)=inr b)=decide (a=b):=by
 by_cases e:a=b
 .subst e;simp
 .have h:¬(inr a:Key)=inr b:=λq=>e (vo q);rw[qr h,qr e]
def SY(a:Int)(b:qc):decide ((inl a:Key)=inr b)=false:=qr nofun
def SW(a:qc)(b:Int):decide ((inr a:Key)=inl b)=false:=qr nofun
def Ya(prog:Program)(w:World):PySem.KeyKind prog w Key where
 is:=GZ
 hash:=keyH w
 inj:=λv a b f d=>by
  rcases Yk f with⟨i,t,rfl,rfl⟩|⟨x,t,rfl,rfl⟩
  .rcases Yk d with⟨j,u,rfl,e⟩|⟨y,u,rfl,e⟩
   .injection e with e1 _;rw[e1]
   .exact nomatch e
  .rcases Yk d with⟨j,u,rfl,e⟩|⟨y,u,rfl,e⟩
   .exact nomatch e
   .injection e with e1 _;rw[e1]
 byValue:=λk v h=>by
  rcases Yk h with⟨i,t,rfl,rfl⟩|⟨x,t,rfl,rfl⟩<;>rfl
 pyHash:=λc h=>by
  rcases Yk c with⟨i,t,rfl,rfl⟩|⟨x,t,rfl,rfl⟩
  .exact wpAny_pyHash_int h
  .exact wpAny_pyHash_str h
 eqBool:=λg c h=>by
  rcases Yk g with⟨i,t,rfl,rfl⟩|⟨x,t,rfl,rfl⟩
  .rcases Yk c with⟨j,u,rfl,rfl⟩|⟨y,u,rfl,rfl⟩
   .rw[S1] at h;exact wpAny_eqBool_int h
   .rw[SY] at h;exact SeqAt.EqAt.int_str i t y u _ _ _ _ h
  .rcases Yk c with⟨j,u,rfl,rfl⟩|⟨y,u,rfl,rfl⟩
   .rw[SW] at h;exact SeqAt.EqAt.str_int x t j u _ _ _ _ h
   .rw[SV] at h;exact wpAny_eqBool_str h
 «strs»:=λk x t v h=>by
  rcases Yk h with⟨i,u,rfl,e⟩|⟨y,u,rfl,e⟩
  .exact nomatch e
  .injection e with e1 _
   subst e1;cases v<;>rfl
def C5(prog:Program)(w:World)(i:Int)(t:Tok):(Ya prog w).is (.inl i) (.int i t)=true:=Ip i t
def C4(prog:Program)(w:World)(x:qc)(t:Tok):(Ya prog w).is (.inr x) (.str x t)=true:=Io x t
def QL:V->qe->Prop
 |.non,u=>u=Value.none
 |.bl b,u=>u=Value.bool b
 |.int i,u=>∃t,u=Value.int i t
 |.str x,u=>∃t,u=Value.str x t
 |.wg b,u=>∃t,u=Value.bytes b t
 |.flt b,u=>∃t,u=Value.float b t
 |.ref a,u=>u=Value.ref a
 |.ty n,u=>u=Value.type n
abbrev QD:qb V->qh->Prop:=Paired QL
def QD.length(r:QD xs us):xs.length=us.length:=Paired.length r
theorem QD.get:∀{xs:qb V}{us:qh}{i:Nat}{x:V},QD xs us->xs[i]?=some x->∃u,us[i]?=some u/\QL x u
 |_,_,_,_,.nil,e=>by simp at e
 |_,_,0,_,.cons r _,e=>by simp at e;subst e;exact⟨_,U,r⟩
 |_,_,i+1,x,.cons _ t,e=>by
  obtain⟨u,a,b⟩:=QD.get (i:=i) (x:=x) t (by simpa using e);exact⟨u,by simpa using a,b⟩
def QD.append:∀{xs ys:qb V}{us ws:qh},QD xs us->QD ys ws->QD (xs++ys) (us++ws)
 |_,_,_,_,.nil,s=>s
 |_,_,_,_,.cons r t,s=>.cons r (QD.append t s)
def QD.take:∀{xs:qb V}{us:qh}(n:Nat),QD xs us->QD (xs.take n) (us.take n)
 |_,_,0,_=>.nil
 |_,_,_+1,.nil=>.nil
 |_,_,n+1,.cons r t=>.cons r (QD.take n t)
def QD.drop:∀{xs:qb V}{us:qh}(n:Nat),QD xs us->QD (xs.drop n) (us.drop n)
 |_,_,0,r=>r
 |_,_,_+1,.nil=>.nil
 |_,_,n+1,.cons _ t=>QD.drop n t
def U1:Option V->Option qe->Prop
 |some v,some u=>QL v u
 |none,none=>True
 |_,_=>False
def KV{a:Type}:qb (a×V)->qb (a×qe)->Prop:=Paired λ(p:a×V)(q:a×qe)=>p.1=q.1/\QL p.2 q.2
def kV:Key->V
 |.inl i=>.int i
 |.inr x=>.str x
inductive HO where
 |lst (xs:qb V)
 |tup (xs:qb V)
 |dK (kvs:qb (Key×V))|dT (kvs:qb (qb Key×V))
 |set (S:Int->Bool) (n:Nat)
 |ins (C dx:qd) (fs:qb (qc×V))
 |own (x:qd)
 |xd (fs:qb (qc×V))
 |met (f x:qd)
 |rng (lo hi:Int)
 |vN (o:Obj) (u:HO)
 |gi (ps:Array qe)
 |ext (φ:Heap->Prop)
variable {o:HO}
abbrev Hp:=qd->Option HO
variable {H:Hp}
def upd(H:Hp)(a:qd)(o:HO):Hp:=λb=>if b=a then some o else H b
def Qg   :upd H a o a=some o:=by unfold upd;rw[qG rfl]
def Qj(h:b≠a):upd H a o b=H b:=by unfold upd;rw[qz h]
def Xk{u:HO}:upd (upd H a o) a u=upd H a u:=by
 funext b;unfold upd;split<;>rfl
def QX{u:HO}(h:H a=some o)(h':H b=some u)(d:o≠u):a≠b:=by
 intro e;subst e;rw[h] at h';exact d (za h')
def Qo(h:H a=some o)(h':H b=none):a≠b:=by
 intro e;subst e;rw[h] at h';cases h'
section
variable (P:Program)(w:World)
def QY(H:Hp)(h:Heap)(a:qd):HO->Prop
 |.lst xs=>xs.length<=sizeLine/\∃(its:qh)(n:Nat),QD xs its/\h.get? a=some {cls:=.type "list",data:=.seq its.toArray n}
 |.tup xs=>xs.length<=sizeLine/\∃its:qh,QD xs its/\IsTup h a its.toArray
 |.dK b=>b.length<=sizeLine/\(a==sysModules)=false/\∃vs,KV b vs/\h.DictOf (Ya P w) a vs
 |.dT b=>b.length<=sizeLine/\(a==sysModules)=false/\∃xs:qb (qb Key×qd×qe),
   Paired (λ(p:qb Key×V)(q:qb Key×qd×qe)=>p.1=q.1/\H q.2.1=some (.tup (p.1.map kV))/\QL p.2 q.2.2) b xs /\
   ∃o c d,h.get? a=some o/\o.ExactDict/\o.data=.dict c d/\c.toList=xs.map (entryOfKey (tupleKind (Ya P w)))/\(xs.map (·.1)).Nodup
 |.set S n=>h.SetOf (intKind P w) a S n
 |.ins C d c=>H d=some (.own a)/\c.length<=1000/\d≠a/\h.get? a=some (instObj C d) /\
   ∃b,h.Ns1 d b/\(∀f,U1 (c.lookup f) (b f))/\PySem.Within b (c.map (·.1))
 |.own _=>∃o,h.get? a=some o
 |.xd c=>∃b,h.Ns1 a b/\∀f,U1 (c.lookup f) (b f)
 |.rng lo hi=>∃t u v,h.get? a=some {cls:=.type "range",data:=.fields #[.int lo t,.int hi u,.int 1 v]}
 |.vN o u=>h.get? a=some o/\QY H h a u
 |.gi ps=>h.get? a=some {cls:=.none,data:=.fields ps}
 |.met f x=>h.get? a=some (methodObj (.ref f) (.ref x))
 |.ext b=>b h/\(∃o,h.get? a=some o)/\∀c d:Heap,b c->(∀o,c.get? a=some o->d.get? a=some o)->b d
def yu(H:Hp)(h:Heap):Prop:=∀a o,H a=some o->QY P w H h a o
end
section
variable {P:Program}{w:World}{H H':Hp}{h h':Heap}{a:qd}{o:HO}
def QY.lt(x:QY P w H h a o):a<h.objs.size:=by
 cases o with
 |lst xs=>obtain⟨_,_,_,_,e⟩:=x;exact qI e
 |tup xs=>obtain⟨_,_,_,p⟩:=x;exact p.lt
 |dK b=>obtain⟨_,_,_,_,o,_,_,e,_⟩:=x;exact qI e
 |dT b=>obtain⟨_,_,_,_,o,_,_,e,_⟩:=x;exact qI e
 |set S n=>obtain⟨o,_,_,_,e,_⟩:=x;exact qI e
 |ins C c b=>obtain⟨_,_,_,e,_⟩:=x;exact qI e
 |own y=>obtain⟨_,e⟩:=x;exact qI e
 |xd b=>obtain⟨_,⟨_,_,_,e,_⟩,_⟩:=x;exact qI e
 |rng lo hi=>obtain⟨_,_,_,e⟩:=x;exact qI e
 |vN b u=>obtain⟨e,_⟩:=x;exact qI e
 |gi ps=>exact qI (show h.get? a=some _ from x)
 |met f y=>exact qI (show h.get? a=some _ from x)
 |ext b=>obtain⟨_,⟨_,e⟩,_⟩:=x;exact qI e
def Paired.gU{α β:Type}{F G:α->β->Prop}:∀{l₁:qb α}{c:qb β},Paired F l₁ c->(∀a b,F a b->G a b)->Paired G l₁ c
 |_,_,.nil,_=>.nil
 |_,_,.cons r t,f=>.cons (f _ _ r) (Paired.gU t f)
def QY.stay(x:QY P w H h a o)(k:∀b u,(b=a\/H b=some (.own a))->h.get? b=some u->h'.get? b=some u)
 (s:∀b,H b=some (.own a)->H' b=some (.own a)) (A:∀b xs,H b=some (.tup xs)->H' b=some (.tup xs)):QY P w H' h' a o:=by
 induction o with
 |lst xs=>obtain⟨z,its,n,r,e⟩:=x;exact⟨z,its,n,r,k _ _ (.inl rfl) e⟩
 |tup xs=>obtain⟨z,its,r,g,e,c⟩:=x;exact⟨z,its,r,g,k _ _ (.inl rfl) e,c⟩
 |dK l=>obtain⟨z,y,vs,r,g,i,j,e,c⟩:=x;exact⟨z,y,vs,r,g,i,j,k _ _ (.inl rfl) e,c⟩
 |dT l=>
  obtain⟨z,y,xs,r,g,i,j,e,c⟩:=x;exact⟨z,y,xs,Paired.gU r λp q z=>⟨z.1,A _ _ z.2.1,z.2.2⟩,g,i,j,k _ _ (.inl rfl) e,c⟩
 |set S n=>obtain⟨g,i,j,t,e,c⟩:=x;exact⟨g,i,j,t,k _ _ (.inl rfl) e,c⟩
 |ins C E B=>
  obtain⟨d,z,ne,e,l,⟨m,i,j,D,c⟩,r⟩:=x;exact⟨s _ d,z,ne,k _ _ (.inl rfl) e,l,⟨m,i,j,k _ _ (.inr d) D,c⟩,r⟩
 |own y=>obtain⟨g,e⟩:=x;exact⟨g,k _ _ (.inl rfl) e⟩
 |xd B=>obtain⟨l,⟨m,i,j,e,c⟩,r⟩:=x;exact⟨l,⟨m,i,j,k _ _ (.inl rfl) e,c⟩,r⟩
 |rng lo hi=>obtain⟨t,u,v,e⟩:=x;exact⟨t,u,v,k _ _ (.inl rfl) e⟩
 |vN g u i=>obtain⟨e,q⟩:=x;exact⟨k _ _ (.inl rfl) e,i q⟩
 |gi ps=>
  have e:h.get? a=some {cls:=.none,data:=.fields ps}:=x;show h'.get? a=some {cls:=.none,data:=.fields ps};exact k a _ (.inl rfl) e
 |met f y=>
  have e:h.get? a=some (methodObj (.ref f) (.ref y)):=x;show h'.get? a=some (methodObj (.ref f) (.ref y));exact k a _ (.inl rfl) e
 |ext g=>obtain⟨p,⟨o,e⟩,st⟩:=x;exact⟨st _ _ p λo q=>k _ _ (.inl rfl) q,⟨o,k _ _ (.inl rfl) e⟩,st⟩
def yu.lt(x:yu P w H h)(e:H a=some o):a<h.objs.size:=(x a o e).lt
def yu.fresh(x:yu P w H h)(e:h.objs.size<=a):H a=none:=by
 cases q:H a with
 |none=>rfl
 |some u=>exact absurd (qE (x.lt q) e) (zw _)
def yu.kept(x:yu P w H h)(k:∀b u,h.get? b=some u->h'.get? b=some u):yu P w H h':=λa o e=>
 (x a o e).stay (λb u _ q=>k b u q) (λ_ q=>q) λ_ _ q=>q
def yu.laid(x:yu P w H h)(k:∀b u,h.get? b=some u->h'.get? b=some u)(g:h.objs.size<=a)(new:QY P w (upd H a o) h' a o):yu P w (upd H a o) h':=λb u e=>by
 have d:=x.fresh g;by_cases f:b=a
 .subst f;rw[Qg] at e;cases e;exact new
 .rw[Qj f] at e;exact(x b u e).stay (λc v _ q=>k c v q) (λc q=>by rw[Qj (Qo q d)];exact q) λc xs q=>by rw[Qj (Qo q d)];exact q
end
def Rd(H:Hp)(a:qd)(u:HO):Prop:=H a=some u\/∃o,H a=some (.vN o u)
def Rd.ok{u:HO}(r:Rd H a u)(x:yu P w H h):QY P w H h a u:=by
 rcases r with r|⟨o,r⟩
 .exact x a u r
 .obtain⟨_,q⟩:=x a _ r;exact q
def Mut:Option HO->Prop
 |some (.lst _)=>True
 |some (.dK _)=>True
 |some (.dT _)=>True
 |some (.set _ _)=>True
 |some (.ins _ _ _)=>True
 |some (.ext _)=>True
 |_=>False
section
variable {P:Program}{w:World}{H:Hp}{h h':Heap}{x e:qd}{o':HO}
def yu.write(ok:yu P w H h)(g:Mut (H x))(he:e=x\/H e=some (.own x))(k:∀b u,b≠e->h.get? b=some u->h'.get? b=some u)(j:∃u,h'.get? e=some u)
 (new:QY P w (upd H x o') h' x o'):yu P w (upd H x o') h':=λb u q=>by
 have d:∀c y,H c=some (.own y)->c≠x:=λc y r z=>by subst z;rw[r] at g;exact g
 have f:∀c xs,H c=some (.tup xs)->c≠x:=λc xs r z=>by subst z;rw[r] at g;exact g
 by_cases i:b=x
 .subst i;rw[Qg] at q;cases q;exact new
 .rw[Qj i] at q;by_cases a:b=e
  .have l:H b=some (.own x):=by
    rcases he with z|z
    .exact absurd (a.trans z) i
    .rw[a];exact z
   rw[q] at l;cases l;obtain⟨v,m⟩:=j;exact⟨v,by rw[a];exact m⟩
  .refine(ok b u q).stay (λc v hc r=>k c v ?_ r) (λc r=>by rw[Qj (d c b r)];exact r) λc xs r=>by rw[Qj (f c xs r)];exact r
   rcases hc with rfl|hc
   .exact a
   .rintro rfl;rcases he with z|z
    .exact d c b hc z
    .rw[hc] at z;cases z;exact i rfl
end
structure Un(fs ex:qb qd)(H H':Hp)(h h':Heap):Prop where
 keep:∀b o,h.get? b=some o->H b=none->b∉fs->b∉ex->h'.get? b=some o
 slot:∀b o,h.get? b=some o->H b=none->b∈fs->b∉ex->∃sl,h'.get? b=some {o with slots:=sl}
 free:∀b o,h.get? b=some o->H b=none->b∉ex->H' b=none
 there:∀b o,h.get? b=some o->b∉ex->∃o',h'.get? b=some o'
 tups:∀b xs,H b=some (.tup xs)->H' b=some (.tup xs)
 xx:∀b o u,H b=some (.vN o u)->H' b=some (.vN o u)
 xS:∀b ps,H b=some (.gi ps)->∃more,H' b=some (.gi (ps++more))
section
variable {fs fs' ex ex':qb qd}{H H1 H2:Hp}{h h1 h2 h':Heap}{a x e:qd}{o:HO}
def Un.any(u:Un fs ex H H1 h h1){a:Obj}(q:h.get? b=some a)(n:H b=none)(c:b∉ex):∃sl,h1.get? b=some {a with slots:=sl}:=by
 by_cases d:b∈fs
 .exact u.slot b a q n d c
 .exact⟨a.slots,u.keep b a q n d c⟩
def Un.kept(k:∀b u,h.get? b=some u->h'.get? b=some u):Un fs ex H H h h':=
 ⟨λb a q _ _ _=>k b a q,λb a q _ _ _=>⟨a.slots,k b a q⟩,λ_ _ _ n _=>n,λb a q _=>⟨a,k b a q⟩,λ_ _ q=>q,λ_ _ _ q=>q,λ_ ps q=>⟨#[],by rw[q];simp⟩⟩
def Un.refl:Un fs ex H H h h:=Un.kept λ_ _ q=>q
def Un.laid(k:∀b u,h.get? b=some u->h'.get? b=some u)(d:h.objs.size<=a)(c:H a=none):Un fs ex H (upd H a o) h h' where
 keep:=λb u q _ _ _=>k b u q
 slot:=λb u q _ _ _=>⟨u.slots,k b u q⟩
 free:=λb u q n _=>by rw[Qj (qR (qE (qI q) d))];exact n
 there:=λb u q _=>⟨u,k b u q⟩
 tups:=λb xs q=>by rw[Qj (Qo q c)];exact q
 xx:=λb u xs q=>by rw[Qj (Qo q c)];exact q
 xS:=λb ps q=>⟨#[],by rw[Qj (Qo q c),q];simp⟩
def Un.write(c:Mut (H x))(he:e=x\/H e=some (.own x))(k:∀b u,b≠e->h.get? b=some u->h'.get? b=some u)(d:∃u,h'.get? e=some u):Un fs ex H (upd H x o) h h':=by
 have f:∀b,H b=none->b≠x:=λb n z=>by subst z;rw[n] at c;exact c
 have g:∀b,H b=none->b≠e:=λb n z=>by
  subst z;rcases he with r|r
  .exact f b n r
  .rw[n] at r;cases r
 have hm:∀b u,H b=some u->¬Mut (some u)->b≠x:=λb u q nm z=>by subst z;rw[q] at c;exact nm c
 refine⟨λb u q n _ _=>k b u (g b n) q,λb u q n _ _=>⟨u.slots,k b u (g b n) q⟩,λb u q n _=>by rw[Qj (f b n)];exact n,λb u q _=>?_,
  λb xs q=>by rw[Qj (hm b _ q λz=>z)];exact q,λb u xs q=>by rw[Qj (hm b _ q λz=>z)];exact q,λb ps q=>⟨#[],by rw[Qj (hm b _ q λz=>z),q];simp⟩⟩
 by_cases a:b=e
 .subst a;exact d
 .exact⟨u,k b u a q⟩
end
def trk(h:Heap)(H:Hp):qb qd:=(List.range h.objs.size).filter λa=>(H a).isSome
def B2(h:Heap)(H:Hp):Heap:=hideAll h (trk h H)
def IC(h:Heap)(H:Hp):(B2 h H).objs.size=h.objs.size:=PySem.W.hideAll_size _ _
def Nq{o:Obj}(e:h.get? b=some o)(n:H b=none):(B2 h H).get? b=some o:=
 hideAll_get _ e λhm=>by
  have q:(H b).isSome=true:=(jd.mp hm).2;rw[n] at q;simp at q
def O4{o:Obj}(e:(B2 h H).get? b=some o):h.get? b=some o/\H b=none:=by
 have a:h.get? b=some o:=of_hideAll (trk h H) e;refine⟨a,?_⟩
 cases q:H b with
 |none=>rfl
 |some x=>
  have hm:b∈trk h H:=jd.mpr ⟨jE.mpr (qI a),by simp[q]⟩;have z:(B2 h H).get? b=none:=hideAll_none (trk h H) hm;rw[z] at e;cases e
structure Mod(K:Frag)(mg:qc->Option qe)(base:Heap):Prop where
 vh:K.In base
 glob:base.Ns mainGlobals mg
 blt:∃mb,base.Ns builtinsNs mb/\∀x:qc,x≠"__name__"->mb x=bootBuiltins x
 nolimit:base.NoLimit
structure Cx where
 prog:Program
 w:World
 K:Frag
 mg:qc->Option qe
 base:Heap
 A:Around
 N:qf
 s₀:Shared
 H₀:Hp
 env:Env
 outer:qb Env
 stack:qb Env
 ex:qb qd
 fn:qc->Bool
 calm:Bool
 pn:qb (qd×Obj)
 xe:qg
variable {X:Cx}
def frs(l:qb Env):qb qd:=l.filterMap (·.frame)
abbrev Cx.fs(X:Cx):qb qd:=frs X.outer
def Vis(sc:Scope)(x:qc):Prop:=sc.names.lookup x=some .local\/sc.names.lookup x=some .cell\/sc.names.lookup x=some .free
def Loc(sc:Scope)(x:qc):Prop:=sc.names.lookup x=some .local\/sc.names.lookup x=some .cell
def cD(env:Env)(h:Heap)(m:qc->Option qe)(x:qc)(u:qe):Prop:=
 (env.kindOf x=some .local/\m x=some u)\/((env.kindOf x=some .cell\/env.kindOf x=some .free)/\∃c,env.cells.lookup x=some c/\h.IsCell c (some u))
structure Cx.Ok(X:Cx):Prop where
 mod:Mod X.K X.mg X.base
 kind:X.env.scope.kind=.function
 glob:X.env.globals=mainGlobals
 blt:X.env.builtins=builtinsNs
 above:X.s₀.heap.objs.size<=X.env.locals
 inj:∀x y c,X.env.cells.lookup x=some c->X.env.cells.lookup y=some c->x=y
 has:∀x,(X.env.kindOf x=some .cell\/X.env.kindOf x=some .free)->∃c,X.env.cells.lookup x=some c
 cab:∀x c,X.fn x=true->X.env.cells.lookup x=some c->X.s₀.heap.objs.size<=c
 hd:X.calm=true->X.A.handled=none
 frames:X.A.frames=some X.stack
 gj:X.stack=X.outer\/(X.stack=X.env::X.outer/\X.env.frame=some X.env.locals)
 gq:∀b∈X.ex,b≠X.env.locals/\∀x c,X.env.cells.lookup x=some c->c≠b
 bs:∀b o,X.base.get? b=some o->X.s₀.heap.get? b=some o/\X.H₀ b=none
 vB:X.base.objs.size<=X.s₀.heap.objs.size
 kP:∀b o,X.base.get? b=some o->b∉X.ex
 kQ:∀b∈X.ex,b∉X.fs
 xq:X.s₀.heap.FunFrames X.base X.outer
 wd:∀b∈X.fs,X.H₀ b=none
structure Inv(X:Cx)(pins:qb (qd×Obj))(σ:qb (Option V))(H:Hp)(s:Shared):Prop where
 ok:X.Ok
 os:s.os=X.s₀.os
 bare:AllBare s.gens
 base:Un X.fs X.ex X.H₀ H X.s₀.heap s.heap
 loc:∃m,s.heap.Ns X.env.locals m/\∀(i:Nat)(x:qc)(v:V),X.N[i]?=some x->σ[i]?=some (some v)->Vis X.env.scope x->∃u,QL v u/\cD X.env s.heap m x u
 cell:∀x c,X.env.cells.lookup x=some c->∃v,s.heap.IsCell c v
 free:H X.env.locals=none
 j7:∀x c,X.env.cells.lookup x=some c->H c=none
 pin:∀p∈X.pn++pins,s.heap.get? p.1=some p.2/\H p.1=none/\p.1≠X.env.locals/\p.1∉X.fs/\∀v,p.2.data≠.cell v
 hok:yu X.prog X.w H s.heap
 len:σ.length=X.N.length
section
variable {X:Cx}{pins:qb (qd×Obj)}{σ:qb (Option V)}{H H':Hp}{s:Shared}{h':Heap}
def Cx.Ok.gQ(ok:X.Ok){o:Obj}(e:X.base.get? b=some o):b∉X.fs:=λa=>by
 have:=(ok.xq.mem a).1;rw[e] at this;cases this
def Inv.bs(I:Inv X pins σ H s):∀b o,X.base.get? b=some o->s.heap.get? b=some o/\H b=none:=λb o e=>
 ⟨I.base.keep b o (I.ok.bs b o e).1 (I.ok.bs b o e).2 (I.ok.gQ e) (I.ok.kP b o e),I.base.free b o (I.ok.bs b o e).1 (I.ok.bs b o e).2 (I.ok.kP b o e)⟩
def Inv.bk(I:Inv X pins σ H s):∀b o,X.base.get? b=some o->s.heap.get? b=some o:=λb o e=>(I.bs b o e).1
def Inv.mod(I:Inv X pins σ H s):Mod X.K X.mg X.base:=I.ok.mod
def Inv.yz(I:Inv X pins σ H s):X.K.In s.heap:=I.ok.mod.vh.keeps I.bk
def Inv.lt(I:Inv X pins σ H s):X.env.locals<s.heap.objs.size:=let ⟨_,a,_⟩:=I.loc;a.lt
def Inv.sz(I:Inv X pins σ H s):X.s₀.heap.objs.size<=s.heap.objs.size:=qO I.ok.above (xE I.lt)
def Inv.nofs(I:Inv X pins σ H s)(h:s.heap.objs.size<=a):a∉X.fs:=λb=>by
 obtain⟨_,o,c,_⟩:=I.ok.xq.mem b;exact absurd (qE (qI c) (qO I.sz h)) (zw _)
def Inv.gv(I:Inv X pins σ H s):∀x c,X.env.cells.lookup x=some c->c≠X.env.locals:=λx c e z=>by
 obtain⟨v,o,d,hd⟩:=I.cell x c e;obtain⟨m,⟨f,g,h,a,b,_⟩,_⟩:=I.loc;rw[z,a] at d;cases d;rw[b] at hd;cases hd
def Inv.xq(I:Inv X pins σ H s):s.heap.FunFrames X.base X.outer:=by
 have all:∀(l:qb Env),(∀b∈frs l,b∈X.fs)->X.s₀.heap.FunFrames X.base l->s.heap.FunFrames X.base l:=by
  intro l
  induction l with
  |nil=>intro _ _;trivial
  |cons env r f=>
   intro d g;obtain⟨h,⟨L,o,hf,i,j,hd⟩,k⟩:=g;have a:L∈X.fs:=d L (by unfold frs;rw[yE,hf];exact qo);obtain⟨sl,e⟩:=I.base.slot L o j (I.ok.wd L a) a λz=>I.ok.kQ L z a;exact⟨h,⟨L,_,hf,i,e,hd⟩,f (λb c=>d b (by unfold frs;rw[yE,hf];exact qt _ c)) k⟩
 exact all X.outer (λ_ c=>c) I.ok.xq
def Inv.stack(I:Inv X pins σ H s):s.heap.FunFrames X.base X.stack:=by
 rcases I.ok.gj with e|⟨e,hf⟩
 .rw[e];exact I.xq
 .rw[e];obtain⟨m,a,_⟩:=I.loc;refine .cons (by rw[I.ok.kind];decide) hf a ?_ I.xq;exact xJ (qO I.ok.vB I.ok.above)
def Inv.kb(I:Inv X pins σ H s):∀b∈frs X.stack,b∈X.env.locals::X.fs:=λb a=>by
 rcases I.ok.gj with e|⟨e,hf⟩
 .rw[e] at a;exact qt _ a
 .rw[e] at a;unfold frs at a;rw[yE,hf] at a;exact a
def Inv.xT(I:Inv X pins σ H s):∀b∈frs X.stack,H b=none:=λb a=>by
 rcases qy.mp (I.kb b a) with e|a
 .rw[e];exact I.free
 .obtain⟨_,o,c,_⟩:=I.ok.xq.mem a;exact I.base.free b o c (I.ok.wd b a) λz=>I.ok.kQ b z a
def Inv.step{g':Array GenState}{d':Drawn}(I:Inv X pins σ H s)
 (f:∀b∈ch,(b∈X.ex\/X.s₀.heap.objs.size<=b)/\b≠X.env.locals/\(∀x c,X.env.cells.lookup x=some c->c≠b)/\∀p∈X.pn++pins,p.1≠b)
 (keep:∀b o,b≠X.env.locals->b∉X.fs->b∉ch->s.heap.get? b=some o->H b=none->h'.get? b=some o)
 (slot:∀b o,b≠X.env.locals->b∈X.fs->b∉ch->s.heap.get? b=some o->H b=none->∃sl,h'.get? b=some {o with slots:=sl}) (free:∀b o,b∉ch->s.heap.get? b=some o->H b=none->H' b=none)
 (there:∀b o,b∉ch->s.heap.get? b=some o->∃w,h'.get? b=some w)
 (tups:∀b xs,H b=some (.tup xs)->H' b=some (.tup xs)) (xx:∀b o u,H b=some (.vN o u)->H' b=some (.vN o u)) (xS:∀b ps,H b=some (.gi ps)->∃more,H' b=some (.gi (ps++more)))
 (ns:∀m,s.heap.Ns X.env.locals m->h'.Ns X.env.locals m) (hok:yu X.prog X.w H' h') (D:AllBare g') :
 Inv X pins σ H' {s with heap:=h',gens:=g',drawn:=d',toks:=t'}:=by
 have y:∀b o,X.s₀.heap.get? b=some o->b≠X.env.locals:=λb o e=>qR (qE (qI e) I.ok.above);have h:∀b o,X.s₀.heap.get? b=some o->b∉X.ex->b∉ch:=λb o e a j=>by
  rcases (f b j).1 with z|z
  .exact a z
  .exact absurd (qE (qI e) z) (zw _)
 have cellK:∀x c,X.env.cells.lookup x=some c->∀v,s.heap.IsCell c v->h'.IsCell c v:=λx c e v ⟨o,t,hd⟩=>by
  have g:c∉ch:=λz=>(f c z).2.2.1 x c e rfl;by_cases hc:c∈X.fs
  .obtain⟨sl,q⟩:=slot c o (I.gv x c e) hc g t (I.j7 x c e);exact⟨_,q,hd⟩
  .exact⟨o,keep c o (I.gv x c e) hc g t (I.j7 x c e),hd⟩
 refine⟨I.ok,I.os,D,⟨λb o e n j a=>?_,λb o e n j a=>?_,λb o e n a=>?_,λb o e a=>?_,λb xs e=>tups b xs (I.base.tups b xs e),λb o xs e=>xx b o xs (I.base.xx b o xs e),λb ps e=>?_⟩,?_,λx c e=>?_,?_,λx c e=>?_,λp C=>?_,hok,I.len⟩
 .exact keep b o (y b o e) j (h b o e a) (I.base.keep b o e n j a) (I.base.free b o e n a)
 .obtain⟨sl,e1⟩:=I.base.slot b o e n j a;obtain⟨B,A⟩:=slot b _ (y b o e) j (h b o e a) e1 (I.base.free b o e n a);exact⟨B,A⟩
 .obtain⟨w,e1⟩:=I.base.there b o e a;exact free b w (h b o e a) e1 (I.base.free b o e n a)
 .obtain⟨w,e1⟩:=I.base.there b o e a;exact there b w (h b o e a) e1
 .obtain⟨B,e1⟩:=I.base.xS b ps e;obtain⟨E,A⟩:=xS b _ e1;exact⟨B++E,by rw[A,Array.append_assoc]⟩
 .obtain⟨m,B,E⟩:=I.loc;refine⟨m,ns m B,λi x v e1 A F=>?_⟩;obtain⟨u,r,l⟩:=E i x v e1 A F;refine⟨u,r,?_⟩;rcases l with l|⟨k,c,e,z⟩
  .exact .inl l
  .exact .inr ⟨k,c,e,cellK x c e _ z⟩
 .obtain⟨v,z⟩:=I.cell x c e;exact⟨v,cellK x c e v z⟩
 .obtain⟨m,⟨o,_,_,t,_⟩,_⟩:=I.loc;exact free _ o (λz=>(f _ z).2.1 rfl) t I.free
 .obtain⟨v,o,t,hd⟩:=I.cell x c e;exact free c o (λz=>(f c z).2.2.1 x c e rfl) t (I.j7 x c e)
 .obtain⟨e,n,ne,A,d⟩:=I.pin p C;have g:p.1∉ch:=λz=>(f p.1 z).2.2.2 p C rfl;exact⟨keep p.1 p.2 ne A g e n,free p.1 p.2 g e n,ne,A,d⟩
def Inv.un(I:Inv X pins σ H s)(u:Un X.fs [] H H' s.heap h')(hok:yu X.prog X.w H' h'):Inv X pins σ H' {s with heap:=h',toks:=t'}:=by
 obtain⟨m,⟨o,j,k,g,r⟩,_⟩:=id I.loc;obtain⟨sl,h⟩:=u.any g I.free (by simp);exact I.step (g':=s.gens) (d':=s.drawn) (ch:=[]) nofun (λb o _ c _ e n=>u.keep b o e n c (by simp)) (λb o _ c _ e n=>u.slot b o e n c (by simp)) (λb o _ e n=>u.free b o e n (by simp)) (λb o _ e=>u.there b o e (by simp)) u.tups u.xx u.xS (λm' hm=>by
  obtain⟨l,d,f,a,i⟩:=hm;rw[g] at a;cases a;exact⟨_,d,f,h,i⟩) hok I.bare
def Inv.call{g':Array GenState}{d':Drawn}(I:Inv X pins σ H s)(u:Un (frs X.stack) ch H H' s.heap h')(hok:yu X.prog X.w H' h')(j:AllBare g')
 (a:∀b∈ch,(b∈X.ex\/X.s₀.heap.objs.size<=b)/\b≠X.env.locals/\(∀x c,X.env.cells.lookup x=some c->c≠b)/\∀p∈X.pn++pins,p.1≠b) :
 Inv X pins σ H' {s with heap:=h',gens:=g',drawn:=d',toks:=t'}:=by
 obtain⟨m,⟨o,q,t,i,r⟩,_⟩:=id I.loc;obtain⟨sl,f⟩:=u.any i I.free λz=>(a _ z).2.1 rfl;exact I.step (ch:=ch) a (λb o f k hc e n=>u.keep b o e n (λz=>(qy.mp (I.kb b z)).elim f k) hc) (λb o _ _ hc e n=>u.any e n hc) (λb o hc e n=>u.free b o e n hc) (λb o hc e=>u.there b o e hc) u.tups u.xx u.xS (λm' hm=>by
  obtain⟨v,g,h,d,l⟩:=hm;rw[i] at d;cases d;exact⟨_,g,h,f,l⟩) hok j
def Inv.turned{it:qd}(I:Inv X pins σ H s)(k:∀b o,b≠it->s.heap.get? b=some o->h'.get? b=some o)(f:H it=none)(d:it≠X.env.locals)
 (g:it∈X.ex\/X.s₀.heap.objs.size<=it) (h:∀x c,X.env.cells.lookup x=some c->c≠it) (i:∀p∈X.pn++pins,p.1≠it):Inv X pins σ H {s with heap:=h',toks:=t'}:=by
 have a:∀b u,H b=some u->b≠it:=λb u e z=>by rw[z,f] at e;cases e
 refine I.step (g':=s.gens) (d':=s.drawn) (ch:=[it]) (λb j=>?_) (λb o _ _ hc e _=>k b o (λz=>hc (by simp[z])) e) (λb o _ _ hc e _=>⟨o.slots,k b o (λz=>hc (by simp[z])) e⟩) (λ_ _ _ _ n=>n)
  (λb o hc e=>⟨o,k b o (λz=>hc (by simp[z])) e⟩) (λ_ _ e=>e) (λ_ _ _ e=>e) (λb ps e=>⟨#[],by rw[e];simp⟩) (λm hm=>?_) (λb u e=>?_) I.bare
 .have e:b=it:=by simpa using j
  subst e;exact⟨g,d,h,i⟩
 .obtain⟨o,l,t,w,r⟩:=hm;exact⟨o,l,t,k _ o (jy d) w,r⟩
 .refine(I.hok b u e).stay (λc v hc q=>k c v ?_ q) (λ_ q=>q) λ_ _ q=>q;rcases hc with z|z
  .rw[z];exact a b u e
  .exact a c _ z
def Inv.tok(I:Inv X pins σ H s)(t:Nat):Inv X pins σ H {s with toks:=t}:=I.un (h':=s.heap) (t':=t) Un.refl I.hok
def Inv.kept(I:Inv X pins σ H s)(k:∀b u,s.heap.get? b=some u->h'.get? b=some u):Inv X pins σ H {s with heap:=h',toks:=t'}:=I.un (Un.kept k) (I.hok.kept k)
def Inv.laid(I:Inv X pins σ H s)(k:∀b u,s.heap.get? b=some u->h'.get? b=some u)(c:s.heap.objs.size<=a)(new:QY X.prog X.w (upd H a o) h' a o) :
 Inv X pins σ (upd H a o) {s with heap:=h',toks:=t'}:=I.un (Un.laid k c (I.hok.fresh c)) (I.hok.laid k c new)
def Inv.write{x e:qd}(I:Inv X pins σ H s)(c:Mut (H x))(he:e=x\/H e=some (.own x))(k:∀b u,b≠e->s.heap.get? b=some u->h'.get? b=some u)(a:∃u,h'.get? e=some u)
 (new:QY X.prog X.w (upd H x o) h' x o):Inv X pins σ (upd H x o) {s with heap:=h',toks:=t'}:=I.un (Un.write c he k a) (I.hok.write c he k a new)
def Inv.vS{a:qb (qd×Obj)}(I:Inv X pins σ H s)(h:∀p∈a,s.heap.get? p.1=some p.2/\H p.1=none/\p.1≠X.env.locals/\p.1∉X.fs/\∀v,p.2.data≠.cell v):Inv X a σ H s:=
 ⟨I.ok,I.os,I.bare,I.base,I.loc,I.cell,I.free,I.j7,λp b=>(qT.mp b).elim (λz=>I.pin p (zK _ z)) (h p),I.hok,I.len⟩
def Xw{N:qf}(c:N.Nodup)(a:N[i]?=some x)(b:N[j]?=some x):i=j:=by
 obtain⟨e,e1⟩:=qJ.mp a;obtain⟨f,d⟩:=qJ.mp b;exact(List.getElem_inj c).mp (e1.trans d.symm)
def AF{E:qg}{Q:Unit->Shared->Prop}(I:Inv X pins σ H s)(hN:X.N.Nodup)(hi:X.N[i]?=some x)(g:Loc X.env.scope x)(r:QL v u)
 (h:∀s',Inv X pins (σ.set i (some v)) H s'->(∃a,Heap.SameBut a s.heap s'.heap/\(a=X.env.locals\/X.env.cells.lookup x=some a))->Q () s') (hf:X.fn x=true\/X.env.scope.names.lookup x=some .local:=by first|exact .inl rfl|exact .inr rfl|assumption):wpAny M A (storeName X.env x u) Q E s:=by
 obtain⟨m,P,hl⟩:=id I.loc;have G:(X.env.scope.kind==.class||(X.env.scope.kind==.module&&X.env.locals != X.env.globals))=false:=by rw[I.ok.kind];rfl
 have t:i<σ.length:=by rw[I.len];exact(qJ.mp hi).1
 have B:=I.gv;have tracked:∀{a:qd}{h':Heap},(∃o,s.heap.get? a=some o/\H a=none)->Heap.SameBut a s.heap h'->yu X.prog X.w H h':=λ{a h'} ha f b ob e=>by
  obtain⟨_,_,l⟩:=ha;refine(I.hok b ob e).stay (λc N hc q=>(f.2 c ?_).trans q) (λ_ q=>q) λ_ _ q=>q;rintro rfl;rcases hc with rfl|hc
  .rw[l] at e;cases e
  .rw[l] at hc;cases hc
 rcases g with w|w
 .refine vW w P (λh' F f=>?_) G;obtain⟨K,_,_,J,_⟩:=id P;refine h _ ⟨I.ok,I.os,I.bare,⟨λb o e n C g=>?_,λb o e n C g=>?_,I.base.free,λb o e g=>?_,I.base.tups,I.base.xx,I.base.xS⟩,⟨_,F,λj y R e1 l S=>?_⟩,λy c e=>?_,I.free,I.j7,λp T=>?_,tracked ⟨K,J,I.free⟩ f,by simpa using I.len⟩ ⟨_,f,.inl rfl⟩
  .exact(f.2 b (qR (qE (qI e) I.ok.above))).trans (I.base.keep b o e n C g)
  .obtain⟨sl,e1⟩:=I.base.slot b o e n C g;exact⟨sl,(f.2 b (qR (qE (qI e) I.ok.above))).trans e1⟩
  .obtain⟨V,e1⟩:=I.base.there b o e g;exact⟨V,(f.2 b (qR (qE (qI e) I.ok.above))).trans e1⟩
  .by_cases D:j=i
   .subst D;rw[hi] at e1;cases e1;rw[yP t] at l;cases l;exact⟨u,r,.inl ⟨w,by simp⟩⟩
   .rw[xi (jy D)] at l;obtain⟨Y,Z,q⟩:=hl j y R e1 l S;refine⟨Y,Z,?_⟩;rcases q with⟨k,e⟩|⟨k,c,e,z⟩
    .refine .inl ⟨k,?_⟩;have:y≠x:=λe=>D (Xw hN e1 (e▸hi));simp[this,e]
    .exact .inr ⟨k,c,e,z.sameBut f (B y c e)⟩
  .obtain⟨N,z⟩:=I.cell y c e;exact⟨N,z.sameBut f (B y c e)⟩
  .obtain⟨e,n,ne,nf,d⟩:=I.pin p T;exact⟨(f.2 p.1 ne).trans e,n,ne,nf,d⟩
 .have F:X.fn x=true:=by
   rcases hf with z|z
   .exact z
   .rw[z] at w;cases w
  obtain⟨c,hc⟩:=I.ok.has x (.inl w);obtain⟨N,z⟩:=I.cell x c hc;refine wpAny_storeName_cell I.ok.kind w hc z (λh' J f=>?_);obtain⟨oc,K,L⟩:=id z;refine h {s with heap:=h'} ⟨I.ok,I.os,I.bare,⟨λb o e n C g=>?_,λb o e n C g=>?_,I.base.free,λb o e g=>?_,I.base.tups,I.base.xx,I.base.xS⟩,⟨m,P.sameBut f (jy (B x c hc)),λj y R e1 l S=>?_⟩,λy O e=>?_,I.free,I.j7,λp T=>?_,tracked ⟨oc,K,I.j7 x c hc⟩ f,by simpa using I.len⟩ ⟨c,f,.inr hc⟩
  .exact(f.2 b (qR (qE (qI e) (I.ok.cab x c F hc)))).trans (I.base.keep b o e n C g)
  .obtain⟨sl,e1⟩:=I.base.slot b o e n C g;exact⟨sl,(f.2 b (qR (qE (qI e) (I.ok.cab x c F hc)))).trans e1⟩
  .obtain⟨V,e1⟩:=I.base.there b o e g;exact⟨V,(f.2 b (qR (qE (qI e) (I.ok.cab x c F hc)))).trans e1⟩
  .by_cases D:j=i
   .subst D;rw[hi] at e1;cases e1;rw[yP t] at l;cases l;exact⟨u,r,.inr ⟨.inl w,c,hc,J⟩⟩
   .rw[xi (jy D)] at l;obtain⟨Y,Z,q⟩:=hl j y R e1 l S;refine⟨Y,Z,?_⟩;rcases q with q|⟨k,O,e,V⟩
    .exact .inl q
    .refine .inr ⟨k,O,e,V.sameBut f ?_⟩;rintro rfl;exact D (Xw hN e1 (I.ok.inj _ _ _ e hc▸hi))
  .by_cases D:O=c
   .subst D;exact⟨_,J⟩
   .obtain⟨V,Y⟩:=I.cell y O e;exact⟨V,Y.sameBut f D⟩
  .obtain⟨e,n,ne,nf,d⟩:=I.pin p T;refine⟨(f.2 p.1 ?_).trans e,n,ne,nf,d⟩;intro q;rw[q,K] at e;have D:oc=p.2:=za e;exact d N (by rw[<-D];exact L)
def V5{E:qg}{Q:Unit->Shared->Prop}(I:Inv X pins σ H s)(a:X.N.Nodup)(hi:X.N[i]?=some x)(b:Loc X.env.scope x)(r:QL v u)
 (h:∀s',Inv X pins (σ.set i (some v)) H s'->Q () s') (hf:X.fn x=true\/X.env.scope.names.lookup x=some .local:=by first|exact .inl rfl|exact .inr rfl|assumption):wpAny M A (storeName X.env x u) Q E s:=
 AF I a hi b r (λs' c _=>h s' c) hf
def Inv.call'{s':Shared}(I:Inv X pins σ H s)(d:s'.os=s.os)(u:Un (frs X.stack) ch H H' s.heap s'.heap)(hok:yu X.prog X.w H' s'.heap)(f:AllBare s'.gens)
 (a:∀b∈ch,(b∈X.ex\/X.s₀.heap.objs.size<=b)/\b≠X.env.locals/\(∀x c,X.env.cells.lookup x=some c->c≠b)/\∀p∈X.pn++pins,p.1≠b):Inv X pins σ H' s':=by
 obtain⟨h',g',d',t',g⟩:=s';have e:g=s.os:=d;subst e;exact I.call (g':=g') (t':=t') (d':=d') u hok f a
end
abbrev XK:=qe->Option qd->Hp->Prop
abbrev St:=qb (Option V)
variable {σ:St}
abbrev VK:=V->Hp->Prop
variable {Q:VK}
abbrev TE:=St->Hp->VK->Prop
variable {t te:TE}
abbrev TT:=St->Hp->(Bool->Hp->Prop)->Prop
abbrev TA:=St->Hp->(qb V->Hp->Prop)->Prop
structure Uu where
 nx:St->Hp->Prop
 rt:VK
 bk:St->Hp->Prop:=λ_ _=>False
 ct:St->Hp->Prop:=λ_ _=>False
abbrev TS:=Uu->St->Hp->Prop
inductive EP(X:Cx)(pins:qb (qd×Obj))(σ:St)(Q:VK)(u:qe)(s':Shared):Prop
 |mk:∀v H',Inv X pins σ H' s'->QL v u->Q v H'->EP X pins σ Q u s'
inductive TP(X:Cx)(pins:qb (qd×Obj))(σ:St)(Q:Bool->Hp->Prop)(b:Bool)(s':Shared):Prop
 |mk:∀H',Inv X pins σ H' s'->Q b H'->TP X pins σ Q b s'
inductive AP(X:Cx)(pins:qb (qd×Obj))(σ:St)(Q:qb V->Hp->Prop)(us:qh)(s':Shared):Prop
 |mk:∀vs H',Inv X pins σ H' s'->QD vs us->Q vs H'->AP X pins σ Q us s'
inductive SPn(X:Cx)(pins:qb (qd×Obj))(N:St->Hp->Prop)(s':Shared):Prop
 |mk:∀σ' H',Inv X pins σ' H' s'->N σ' H'->SPn X pins N s'
inductive SPr(X:Cx)(pins:qb (qd×Obj))(N:VK)(u:qe)(s':Shared):Prop
 |mk:∀v σ' H',Inv X pins σ' H' s'->QL v u->N v H'->SPr X pins N u s'
def SP(X:Cx)(pins:qb (qd×Obj))(D:Uu)(f:Flow)(s':Shared):Prop:=
 match f with
 |.next=>SPn X pins D.nx s'
 |.brk=>SPn X pins D.bk s'
 |.cont=>SPn X pins D.ct s'
 |.ret u=>SPr X pins D.rt u s'
def PE(X:Cx)(e:Expr)(t:TE):Prop:=
 ∀(pins:qb (qd×Obj))(s:Shared)(σ:St)(H:Hp)(Q:VK),Inv X pins σ H s->t σ H Q->wpAny (model X.prog X.w) X.A (eval e X.env) (EP X pins σ Q) X.xe s
def PT(X:Cx)(e:Expr)(t:TT):Prop:=
 ∀(pins:qb (qd×Obj))(s:Shared)(σ:St)(H:Hp)(Q:Bool->Hp->Prop),Inv X pins σ H s->t σ H Q->wpAny (model X.prog X.w) X.A (isTrue e X.env (eval e X.env)) (TP X pins σ Q) X.xe s
def PW(X:Cx)(e:Expr)(t:TT):Prop:=
 ∀(whole:Sem qe)(pins:qb (qd×Obj))(s:Shared)(σ:St)(H:Hp)(Q:Bool->Hp->Prop),Inv X pins σ H s->t σ H Q->wpAny (model X.prog X.w) X.A (isTrue e X.env whole) (TP X pins σ Q) X.xe s
def PW.pt{t:TT}(h:PW X e t):PT X e t:=h _
def PA(X:Cx)(a:qb Expr)(t:TA):Prop:=
 ∀(pos:Pos)(pins:qb (qd×Obj))(s:Shared)(σ:St)(H:Hp)(Q:qb V->Hp->Prop),Inv X pins σ H s->t σ H Q->wpAny (model X.prog X.w) X.A (spliced (backTo pos (starEach a X.env))) (AP X pins σ Q) X.xe s
def PS(X:Cx)(st:Stmt)(t:TS):Prop:=
 ∀(pins:qb (qd×Obj))(s:Shared)(σ:St)(H:Hp)(D:Uu),Inv X pins σ H s->t D σ H->wpAny (model X.prog X.w) X.A (exec st X.env) (SP X pins D) X.xe s
def yV(X:Cx)(st:qb Stmt)(t:TS):Prop:=
 ∀(pins:qb (qd×Obj))(s:Shared)(σ:St)(H:Hp)(D:Uu),Inv X pins σ H s->t D σ H->wpAny (model X.prog X.w) X.A (execs st X.env) (SP X pins D) X.xe s
def zS{α:Type}{t:Sem α}{Q Q':α->Shared->Prop}{E:qg}{s:Shared}(h:wpAny M A t Q E s)(b:∀a s,Q a s->Q' a s):wpAny M A t Q' E s:=zt h b λ_ _ x=>x
section
variable {X:Cx}
inductive Lg(i:Nat)(σ:St)(H:Hp)(Q:VK):Prop
 |mk:∀v,σ[i]?=some (some v)->Q v H->Lg i σ H Q
def Eb(i:Nat):TE:=λσ H Q=>Lg i σ H Q
def tC(v:V):TE:=λ_ H Q=>Q v H
def Sr(f:X.N[i]?=some x)(g:Vis X.env.scope x)(hd:(x==("__debug__":qc))=false:=by decide)(d:(x==("__classdict__":qc))=false:=by decide):PE X (.Name x pos) (Eb i):=by
 intro pins s σ H Q I h;obtain⟨v,e,h⟩:=h;obtain⟨m,j,k⟩:=I.loc;obtain⟨u,r,l⟩:=k i x v f e g;have fin:EP X pins σ Q u s:=⟨v,H,I,r,h⟩;rcases l with⟨b,hm⟩|⟨b,c,hc,a⟩
 .exact vF (yF I.ok.kind b j hm fin) hd
 .rcases b with b|b
  .exact vF (wpAny_loadName_cell I.ok.kind b hc a fin) hd
  .exact vF (wpAny_loadName_free I.ok.kind b hc a fin d) hd
def Qa{i j pos}:PE X (.Constant (.int i) j pos) (tC (.int i)):=λ_ _ _ H _ I h=>wpAny_Constant_int ⟨.int i,H,I.tok _,⟨_,U⟩,h⟩
def Ur{b j pos}:PE X (.Constant (.bool b) j pos) (tC (.bl b)):=λ_ _ _ H _ I h=>Constant_bool ⟨.bl b,H,I,U,h⟩
def BJ{j pos}:PE X (.Constant .none j pos) (tC .non):=λ_ _ _ H _ I h=>Constant_none ⟨.non,H,I,U,h⟩
def Qf{x j pos}:PE X (.Constant (.str x) j pos) (tC (.str x)):=λ_ _ _ H _ I h=>jR ⟨.str x,H,I.tok _,⟨_,U⟩,h⟩
def Gl(X:Cx)(x:qc):Prop:=X.env.kindOf x=some .globalImplicit
def UZ{E:qg}{s:Shared}{Q:qg}(I:Inv X pins σ H s)(a:Gl X x)(hm:X.mg x=some u)(h:Q u s)
 (hd:(x==("__debug__":qc))=false:=by decide):wpAny (model X.prog X.w) X.A (eval (.Name x pos) X.env) Q E s:=
 ku I.ok.kind a (Calls.loadGlobal_global (by rw[I.ok.glob];exact I.mod.glob.keeps I.bk) hm h) hd
def Wm{E:qg}{s:Shared}{Q:qg}(I:Inv X pins σ H s)(a:Gl X x)(hm:X.mg x=none)(b:bootBuiltins x=some u)(h:Q u s)
 (c:x≠"__name__":=by decide) (hd:(x==("__debug__":qc))=false:=by decide):wpAny (model X.prog X.w) X.A (eval (.Name x pos) X.env) Q E s:=by
 obtain⟨f,d,e⟩:=I.mod.blt;exact ku I.ok.kind a (Calls.loadGlobal_builtin (by rw[I.ok.glob];exact I.mod.glob.keeps I.bk) hm (by rw[I.ok.blt];exact d.keeps I.bk) ((e x c).trans b) h) hd
def BK(a:Gl X x)(hm:X.mg x=some u)(r:QL v u)(hd:(x==("__debug__":qc))=false:=by decide):PE X (.Name x pos) (tC v):=
 λ_ _ _ H _ I h=>UZ I a hm ⟨v,H,I,r,h⟩ hd
def UJ(a:Gl X x)(hm:X.mg x=none)(b:bootBuiltins x=some u)(r:QL v u)(c:x≠"__name__":=by decide)(hd:(x==("__debug__":qc))=false:=by decide):PE X (.Name x pos) (tC v):=
 λ_ _ _ H _ I h=>Wm I a hm b ⟨v,H,I,r,h⟩ c hd
variable {a b:Expr}{ta tb:TE}{pos:Pos}
def PC(X:Cx)(op:CmpOp)(a b:Expr)(t:TE):Prop:=
 ∀(pins:qb (qd×Obj))(s:Shared)(σ:St)(H:Hp)(Q:VK),Inv X pins σ H s->t σ H Q ->
  wpAny (model X.prog X.w) X.A (eval a X.env) (λv c=>wpAny (model X.prog X.w) X.A (eval b X.env) (λu d=>wpAny (model X.prog X.w) X.A (compareOp op v u) (EP X pins σ Q) X.xe d) X.xe c) X.xe s
inductive ax(Q:(Bool->Hp->Prop))(x:V)(H1:Hp):Prop
 |mk:∀c,x=.bl c->Q c H1->ax Q x H1
def tB(t:TE):TT:=λσ H Q=>t σ H λx H1=>ax Q x H1
def Sv(h:PC X op a b t)(c:behindInMarks op b=false:=by first|exact nobehind _ ∅ ∅|rfl):PE X (.Compare a [op] [b] pos) t:=λpins s σ H Q I hw=>wpAny_Compare1 (h pins s σ H Q I hw) c
def Q5(h:PE X e t)(he:∀whole,isTrue e X.env whole=(do let v <-whole;standAt e.pos;holding [v] (truthy v)):=by intro _;rfl):PT X e (tB t):=by
 intro pins s σ H Q I hw;refine isTrue_plain (zS (h pins s σ H _ I hw) λv s1 ⟨x,H1,a,b,c⟩=>?_) (he _);obtain⟨d,rfl,q⟩:=c;cases b;exact zQ ⟨H1,a,q⟩
variable {tA tB':TT}{rest:qb Expr}
def tAnd(t u:TT):TT:=λσ H Q=>t σ H λc H1=>if c=true then u σ H1 Q else Q false H1
def tOr(t u:TT):TT:=λσ H Q=>t σ H λc H1=>if c=true then Q true H1 else u σ H1 Q
def tNot(t:TT):TT:=λσ H Q=>t σ H λc H1=>Q (!c) H1
def Vb(b:PT X a tA):PW X (.BoolOp .And [a] pos) tA:=by
 intro d pins s σ H Q I h;refine isTrue_and (zS (b pins s σ H Q I h) λc s1 e=>?_)
 cases c with
 |true=>exact isTrue_and_nil e
 |false=>exact e
def Wa(b:PT X a tA):PW X (.BoolOp .Or [a] pos) tA:=by
 intro d pins s σ H Q I h;refine isTrue_or (zS (b pins s σ H Q I h) λc s1 e=>?_)
 cases c with
 |false=>exact isTrue_or_nil e
 |true=>exact e
def UP(f:PT X a tA)(g:PW X (.BoolOp .And (b::rest) pos) tB'):PW X (.BoolOp .And (a::b::rest) pos) (tAnd tA tB'):=by
 intro i pins s σ H Q I h;refine isTrue_and (zS (f pins s σ H _ I h) λc s1 ⟨H1,d,e⟩=>?_)
 cases c with
 |true=>exact g i pins s1 σ H1 Q d e
 |false=>exact⟨H1,d,e⟩
def Wb(f:PT X a tA)(g:PW X (.BoolOp .Or (b::rest) pos) tB'):PW X (.BoolOp .Or (a::b::rest) pos) (tOr tA tB'):=by
 intro i pins s σ H Q I h;refine isTrue_or (zS (f pins s σ H _ I h) λc s1 ⟨H1,d,e⟩=>?_)
 cases c with
 |true=>exact⟨H1,d,e⟩
 |false=>exact g i pins s1 σ H1 Q d e
def Uj(b:PT X a tA):PT X (.UnaryOp .Not a pos) (tNot tA):=by
 intro pins s σ H Q I h;exact isTrue_not (zS (b pins s σ H (λc H1=>Q (!c) H1) I h) λc s1 ⟨H1,d,e⟩=>⟨H1,d,e⟩)
inductive Fl(tb:TE)(σ:St)(Q:VK)(x:V)(H1:Hp):Prop
 |mk:∀c,x=.bl c->(if c=true then tb σ H1 Q else Q (.bl false) H1)->Fl tb σ Q x H1
def az(ta tb:TE):TE:=λσ H Q=>ta σ H λx H1=>Fl tb σ Q x H1
inductive Lj(tb:TE)(σ:St)(Q:VK)(x:V)(H1:Hp):Prop
 |mk:∀c,x=.bl c->(if c=true then Q (.bl true) H1 else tb σ H1 Q)->Lj tb σ Q x H1
def tOrV(ta tb:TE):TE:=λσ H Q=>ta σ H λx H1=>Lj tb σ Q x H1
inductive Fb(Q:VK)(x:V)(H1:Hp):Prop
 |mk:∀c,x=.bl c->Q (.bl (!c)) H1->Fb Q x H1
def aj(ta:TE):TE:=λσ H Q=>ta σ H λx H1=>Fb Q x H1
def UC{op}(h:PE X a t):PE X (.BoolOp op [a] pos) t:=λpins s σ H Q I hw=>BoolOp_one (h pins s σ H Q I hw)
def Vi(f:PE X a ta)(g:PE X (.BoolOp .And (b::rest) pos) tb):PE X (.BoolOp .And (a::b::rest) pos) (az ta tb):=by
 intro pins s σ H Q I h;refine BoolOp_and (zS (f pins s σ H _ I h) λv s1 ⟨x,H1,e,i,d⟩=>?_);obtain⟨c,rfl,d⟩:=d;cases i;refine zQ ?_
 cases c with
 |true=>exact g pins s1 σ H1 Q e d
 |false=>exact⟨.bl false,H1,e,U,d⟩
def FN(f:PE X a ta)(g:PE X (.BoolOp .Or (b::rest) pos) tb):PE X (.BoolOp .Or (a::b::rest) pos) (tOrV ta tb):=by
 intro pins s σ H Q I h;refine BoolOp_or (zS (f pins s σ H _ I h) λv s1 ⟨x,H1,e,i,d⟩=>?_);obtain⟨c,rfl,d⟩:=d;cases i;refine zQ ?_
 cases c with
 |false=>exact g pins s1 σ H1 Q e d
 |true=>exact⟨.bl true,H1,e,U,d⟩
def GC(d:PE X a ta):PE X (.UnaryOp .Not a pos) (aj ta):=by
 intro pins s σ H Q I h;refine UnaryOp_ (zS (d pins s σ H _ I h) λv s1 ⟨x,H1,e,f,b⟩=>?_);obtain⟨c,rfl,b⟩:=b;cases f;exact not_of (zQ ⟨.bl (!c),H1,e,U,b⟩)
def tIf(t:TT)(ta tb:TE):TE:=λσ H Q=>t σ H λc H1=>if c=true then ta σ H1 Q else tb σ H1 Q
def Vt(hc:PT X c tA)(g:PE X a ta)(i:PE X b tb):PE X (.IfExp c a b pos) (tIf tA ta tb):=by
 intro pins s σ H Q I h;refine wpAny_IfExp (zS (hc pins s σ H _ I h) λd s1 ⟨H1,e,f⟩=>?_)
 cases d with
 |true=>exact g pins s1 σ H1 Q e f
 |false=>exact i pins s1 σ H1 Q e f
end
def zm(K:Frag)(H:Hp)(a:qd)(xs:qb V):Prop:=
 Rd H a (.lst xs) \/
  ∃(o:Obj)(its:Array qe)(n:Nat),K.lookup a=some o/\o.cls=.type "list"/\o.dict=none/\o.data=.seq its n/\its.size<=sizeLine/\QD xs its.toList
def zu(K:Frag)(H:Hp)(a:qd)(xs:qb V):Prop:=
 Rd H a (.tup xs) \/
  ∃(o:Obj)(its:Array qe)(n:Nat),K.lookup a=some o/\o.cls=.type "tuple"/\o.data=.seq its n/\its.size<=sizeLine/\QD xs its.toList
def absV:qe->Option V
 |.none=>some .non
 |.bool b=>some (.bl b)
 |.int i _=>some (.int i)
 |.str x _=>some (.str x)
 |.bytes b _=>some (.wg b)
 |.float b _=>some (.flt b)
 |.ref a=>some (.ref a)
 |.type n=>some (.ty n)
 |_=>none
def QL.abs{x:V}(r:QL x u):absV u=some x:=by
 cases x with
 |non=>cases r;rfl
 |bl _=>cases r;rfl
 |int _=>obtain⟨t,rfl⟩:=r;rfl
 |str _=>obtain⟨t,rfl⟩:=r;rfl
 |wg _=>obtain⟨t,rfl⟩:=r;rfl
 |flt _=>obtain⟨t,rfl⟩:=r;rfl
 |ref _=>cases r;rfl
 |ty _=>cases r;rfl
def QL.inj{x:V}(r:QL x u)(q:QL y u):x=y:=za (r.abs.symm.trans q.abs)
def QD.inj:∀{xs ys:qb V}{us:qh},QD xs us->QD ys us->xs=ys
 |_,_,_,.nil,.nil=>rfl
 |_,_,_,.cons r t,.cons a t'=>by rw[r.inj a,QD.inj t t']
section
variable {X:Cx}{pins:qb (qd×Obj)}{σ:St}{H:Hp}{s:Shared}{a:qd}{xs ys:qb V}
def zm.of{K:Frag}(h:H a=some (.lst xs)):zm K H a xs:=.inl (.inl h)
def zu.of{K:Frag}(h:H a=some (.tup xs)):zu K H a xs:=.inl (.inl h)
def Inv.list(I:Inv X pins σ H s)(h:zm X.K H a xs):∃its:qh,QD xs its/\PlainL s.heap a its.toArray/\xs.length<=sizeLine:=by
 rcases h with h|⟨o,its,n,b,hc,hd,c,hz,r⟩
 .obtain⟨z,its,n,r,e⟩:=h.ok I.hok;exact⟨its,r,⟨_,n,e,U,U,U⟩,z⟩
 .refine⟨its.toList,r,⟨o,n,I.yz a o b,hc,hd,by simpa using c⟩,?_⟩;have e:=r.length;simp only[qQ] at e;omega
def Inv.tuple(I:Inv X pins σ H s)(h:zu X.K H a xs):∃its:qh,QD xs its/\IsTup s.heap a its.toArray/\xs.length<=sizeLine:=by
 rcases h with h|⟨o,its,n,b,hc,c,hz,r⟩
 .obtain⟨z,its,r,p⟩:=h.ok I.hok;exact⟨its,r,p,z⟩
 .refine⟨its.toList,r,⟨o,I.yz a o b,hc,n,by simpa using c⟩,?_⟩;have e:=r.length;simp only[qQ] at e;omega
def Inv.xp(I:Inv X pins σ H s)(h:zm X.K H a xs)(h':zm X.K H a ys):xs=ys:=by
 obtain⟨its,r,⟨o,n,e,_,_,d⟩,_⟩:=I.list h;obtain⟨its',c,⟨g,n',b,_,_,d'⟩,_⟩:=I.list h';rw[e] at b;cases b;rw[d] at d'
 injection d' with f _
 have:its=its':=by simpa using q8 Array.toList f
 subst this;exact r.inj c
def Inv.v5(I:Inv X pins σ H s)(h:zu X.K H a xs)(h':zu X.K H a ys):xs=ys:=by
 obtain⟨its,r,⟨o,e,_,n,d⟩,_⟩:=I.tuple h;obtain⟨its',c,⟨g,b,_,n',d'⟩,_⟩:=I.tuple h';rw[e] at b;cases b;rw[d] at d'
 injection d' with f _
 have:its=its':=by simpa using q8 Array.toList f
 subst this;exact r.inj c
end
abbrev Cx.wish(X:Cx)(E:qg):Cx:={X with xe:=E}
abbrev Cx.wB(X:Cx):Cx:=X.wish λ_ _=>False
def Cx.Ok.wish(ok:X.Ok)(E:qg):(X.wish E).Ok:=
 ⟨ok.mod,ok.kind,ok.glob,ok.blt,ok.above,ok.inj,ok.has,ok.cab,ok.hd,ok.frames,ok.gj,ok.gq,ok.bs,ok.vB,ok.kP,ok.kQ,ok.xq,ok.wd⟩
def Cx.Ok.yX{E:qg}(ok:(X.wish E).Ok):X.Ok:=
 ⟨ok.mod,ok.kind,ok.glob,ok.blt,ok.above,ok.inj,ok.has,ok.cab,ok.hd,ok.frames,ok.gj,ok.gq,ok.bs,ok.vB,ok.kP,ok.kQ,ok.xq,ok.wd⟩
section
variable {X:Cx}{pins:qb (qd×Obj)}{σ:St}{H:Hp}{s:Shared}{E:qg}
def Inv.wish(I:Inv X pins σ H s)(E:qg):Inv (X.wish E) pins σ H s:=⟨I.ok.wish E,I.os,I.bare,I.base,I.loc,I.cell,I.free,I.j7,I.pin,I.hok,I.len⟩
def Inv.yX(I:Inv (X.wish E) pins σ H s):Inv X pins σ H s:=⟨I.ok.yX,I.os,I.bare,I.base,I.loc,I.cell,I.free,I.j7,I.pin,I.hok,I.len⟩
def SP.yX{D:Uu}{f:Flow}{s':Shared}(h:SP (X.wish E) pins D f s'):SP X pins D f s':=by
 cases f with
 |next=>obtain⟨a,H',I,q⟩:=h;exact⟨a,H',I.yX,q⟩
 |brk=>obtain⟨a,H',I,q⟩:=h;exact⟨a,H',I.yX,q⟩
 |cont=>obtain⟨a,H',I,q⟩:=h;exact⟨a,H',I.yX,q⟩
 |ret u=>obtain⟨v,a,H',I,r,q⟩:=h;exact⟨v,a,H',I.yX,r,q⟩
def yV.wB{st:qb Stmt}{t:TS}(h:yV X.wB st t):yV X st t:=λpins s σ H D I hw=>
 zt (h pins s σ H D (I.wish _) hw) (λ_ _ q=>q.yX) λ_ _ z=>False.elim z
end
section
variable {X:Cx}{st:Stmt}{rest:qb Stmt}{t u:TS}{e:Expr}{te:TE}{pos:Pos}
def P6:TS:=λD σ H=>D.nx σ H
def Hz(t u:TS):TS:=λD σ H=>t {D with nx:=u D} σ H
def Qq:yV X [] P6:=λ_ _ σ H _ I h=>yU ⟨σ,H,I,h⟩
def Qb(b:PS X st t)(c:yV X rest u):yV X (st::rest) (Hz t u):=by
 intro pins s σ H D I h;refine vp (zS (b pins s σ H {D with nx:=u D} I h) λf s1 q=>?_)
 cases f with
 |next=>
  obtain⟨a,H',d,q⟩:=q;exact c pins s1 a H' D d q
 |ret v=>exact q
 |brk=>exact q
 |cont=>exact q
def Qd(a:PS X st t):yV X [st] t:=by
 intro pins s σ H D I h;refine vp (zS (a pins s σ H D I h) λf s1 q=>?_)
 cases f with
 |next=>exact yU q
 |ret v=>exact q
 |brk=>exact q
 |cont=>exact q
def R1:TS:=λD σ H=>D.bk σ H
def CJ:PS X (.Break pos) R1:=λ_ _ σ H _ I h=>wpAny_Break ⟨σ,H,I,h⟩
def Inv.quiet{s:Shared}(I:Inv X pins σ H s):interactive X.env=false:=by simp[interactive,I.ok.kind]
def Ra(te:TE):TS:=λD σ H=>te σ H λ_ H1=>D.nx σ H1
def Q4(he:PE X e te)(a:swapsWith e none pos.line X.env=pure false:=by rfl):PS X (.Expr e pos) (Ra te):=by
 intro pins s σ H D I h;exact wpAny_Expr_any (zS (he pins s σ H _ I h) λv s1 ⟨x,H1,b,d,c⟩=>⟨σ,H1,b,c⟩) I.quiet a
def tRet(te:TE):TS:=λD σ H=>te σ H D.rt
def Qk(he:PE X e te):PS X (.Return (some e) pos) (tRet te):=by
 intro pins s σ H D I h;exact wpAny_Return_some (zS (he pins s σ H _ I h) λv s1 ⟨x,H1,a,b,c⟩=>⟨x,σ,H1,a,b,c⟩)
def RU(c:TT)(t u:TS):TS:=λD σ H=>c σ H λb H1=>if b=true then t D σ H1 else u D σ H1
def Qu{a b:qb Stmt}{e:TT}(hc:PT X c e)(i:yV X a t)(j:yV X b u):PS X (.If c a b pos) (RU e t u):=by
 intro pins s σ H D I h;refine wpAny_If (zS (hc pins s σ H _ I h) λd s1 ⟨H1,f,g⟩=>?_)
 cases d with
 |true=>exact i pins s1 σ H1 D f g
 |false=>exact j pins s1 σ H1 D f g
def RR:TS:=λ_ _ _=>False
def Wd:PS X st RR:=λ_ _ _ _ _ _ h=>h.elim
end
abbrev TG:=V->St->Hp->(St->Hp->Prop)->Prop
variable {g:TG}
abbrev g6:=qb V->St->Hp->(St->Hp->Prop)->Prop
def PG(X:Cx)(target:Expr)(t:TG):Prop:=
 ∀(pins:qb (qd×Obj))(s:Shared)(σ:St)(H:Hp)(v:V)(u:qe)(Q:St->Hp->Prop),Inv X pins σ H s->QL v u->t v σ H Q ->
  wpAny (model X.prog X.w) X.A (assign target X.env u) (λ_ s'=>∃a H',Inv X pins a H' s'/\Q a H') X.xe s
def PGs(X:Cx)(b:qb Expr)(t:g6):Prop:=
 ∀(pins:qb (qd×Obj))(s:Shared)(σ:St)(H:Hp)(vs:qb V)(us:qh)(Q:St->Hp->Prop),Inv X pins σ H s->QD vs us->t vs σ H Q ->
  wpAny (model X.prog X.w) X.A (assignInOrder ((assignEach b X.env).map (·.2)) us) (λ_ s'=>∃a H',Inv X pins a H' s'/\Q a H') X.xe s
abbrev TIp:=V->V->Hp->VK->Prop
def PIp(X:Cx)(op:Operator)(t:TIp):Prop:=
 ∀(pins:qb (qd×Obj))(s:Shared)(σ:St)(H:Hp)(x y:V)(v u:qe)(Q:VK),Inv X pins σ H s->QL x v->QL y u->t x y H Q ->
  wpAny (model X.prog X.w) X.A (inplaceOp op v u) (EP X pins σ Q) X.xe s
section
variable {X:Cx}{pos:Pos}
def XB(i:Nat):TG:=λv σ H Q=>Q (σ.set i (some v)) H
def QG(a:X.N.Nodup)(hi:X.N[i]?=some x:=by rfl)(b:Loc X.env.scope x:=by first|exact Or.inl rfl|exact Or.inr rfl)(hf:X.fn x=true\/X.env.scope.names.lookup x=some .local:=by first|exact .inl rfl|exact .inr rfl|assumption):PG X (.Name x pos) (XB i):=by
 intro pins s σ H v u Q I r h;exact wpAny_assign_Name (V5 I a hi b r (λs' c=>⟨_,H,c,h⟩) hf)
def b5:g6:=λvs σ H Q=>vs=[]/\Q σ H
def Nu(t:TG)(u:g6):g6:=λvs σ H Q=>∃v r,vs=v::r/\t v σ H λa H'=>u r a H' Q
def WI:PGs X [] b5:=by
 intro pins s σ H vs us Q I r h;obtain⟨e,h⟩:=h;subst e;cases r;exact assignInOrder_nil ⟨σ,H,I,h⟩
def Yu{a:qb Expr}{t:TG}{u:g6}(c:PG X e t)(d:PGs X a u)
 (f:(assignEach (e::a) X.env).map (·.2)=assign e X.env::(assignEach a X.env).map (·.2):=by rfl):PGs X (e::a) (Nu t u):=by
 intro pins s σ H vs us Q I r h;obtain⟨v,k,e1,h⟩:=h;subst e1
 cases r with
 |cons r g=>
  rw[f];refine assignInOrder_cons (zS (c pins s σ H _ _ _ I r h) λ_ s1 ⟨b,H1,i,j⟩=>?_);exact d pins s1 b H1 _ _ Q i g j
def bZ(K:Frag)(n:Nat)(t:g6):TG:=λv σ H Q=>∃a xs,v=.ref a/\zu K H a xs/\xs.length=n/\t xs σ H Q
def XY{c:qb Expr}{k:Nat}{t:g6}(hc:X.calm=true)(h:PGs X c t)
 (g:(assignEach c X.env).length=n:=by rfl) (d:(assignEach c X.env).findIdx? (·.1)=none:=by rfl):PG X (.Tuple c k pos) (bZ X.K n t):=by
 intro pins s σ H v u Q I r hw;obtain⟨a,xs,e1,i,j,hw⟩:=hw;subst e1;cases r;obtain⟨its,f,l,hz⟩:=I.tuple i;refine assign_Tuple_tuple (I.ok.hd hc) l (by simp[g,<-j,f.length]) d λh' m=>?_;have p:Inv X pins σ H {s with heap:=h'}:=I.kept (t':=s.toks) λb o e=>m b o (qR (qI e)) e;exact h pins _ σ H xs _ Q p (by simpa using f) hw
def Ls(te:TE)(g:TG):TS:=λD σ H=>te σ H λx H1=>g x σ H1 D.nx
def Eo(he:PE X e te)(b:PG X tg g)(c:swapsWithSole [tg] e pos.line X.env=pure false:=by rfl)(hw:swappedStores [tg] e X.env=pure none:=by rfl)
 (d:(assignEach [tg] X.env).map (·.2)=[assign tg X.env]:=by rfl):PS X (.Assign [tg] e pos) (Ls te g):=by
 intro pins s σ H D I h;refine wpAny_Assign_stores (zS (he pins s σ H _ I h) λv s1 ⟨x,H1,f,i,j⟩=>?_) c hw;rw[d];exact zS (b pins s1 σ H1 x v _ f i j) λ_ s2 ⟨a,H2,k,l⟩=>⟨a,H2,k,l⟩
def Ql{pos':Pos}(a:X.N.Nodup)(he:PE X e te)(hi:X.N[i]?=some x:=by rfl)(b:Loc X.env.scope x:=by first|exact Or.inl rfl|exact Or.inr rfl)(c:swapsWith e (some (.Name x pos')) pos.line X.env=pure false:=by rfl)(hf:X.fn x=true\/X.env.scope.names.lookup x=some .local:=by first|exact .inl rfl|exact .inr rfl|assumption) :
 PS X (.Assign [.Name x pos'] e pos) (Ls te (XB i)):=by
 intro pins s σ H D I h;refine wpAny_Assign_Name (zS (he pins s σ H _ I h) λv s1 ⟨y,H1,d,f,g⟩=>?_) c;exact V5 d a hi b f (λs2 j=>⟨_,H1,j,g⟩) hf
inductive Lr(i:Nat)(te:TE)(ti:TIp)(D:Uu)(σ:St)(H:Hp):Prop
 |mk:∀x,σ[i]?=some (some x)->(te σ H λy H1=>ti x y H1 λz H2=>D.nx (σ.set i (some z)) H2)->Lr i te ti D σ H
def tAug(i:Nat)(te:TE)(a:TIp):TS:=λD σ H=>Lr i te a D σ H
def Mc{op:Operator}{n:TIp}{pos':Pos}(o:X.N.Nodup)(hi:X.N[i]?=some x)(g:Loc X.env.scope x)(he:PE X e te)(p:PIp X op n)(hf:X.fn x=true\/X.env.scope.names.lookup x=some .local:=by first|exact .inl rfl|exact .inr rfl|assumption) :
 PS X (.AugAssign (.Name x pos') op e pos) (tAug i te n):=by
 intro pins s σ H D I h;obtain⟨v,e1,h⟩:=h;obtain⟨m,q,t⟩:=I.loc;have j:Vis X.env.scope x:=by rcases g with k|k;exact .inl k;exact .inr (.inl k)
 obtain⟨u,r,l⟩:=t i x v hi e1 j;refine wpAny_AugAssign_Name ?_;have go:wpAny (model X.prog X.w) X.A (eval e X.env) (λw d=>wpAny (model X.prog X.w) X.A (inplaceOp op u w) (λr f=>wpAny (model X.prog X.w) X.A (storeName X.env x r) (λ_=>SP X pins D .next) X.xe f) X.xe d) X.xe s:=by
  refine zS (he pins s σ H _ I h) λw s1 ⟨y,H1,a,b,A⟩=>?_;refine zS (p pins s1 σ H1 v y u w _ a r b A) λz s2 ⟨G,H2,B,C,E⟩=>?_;exact V5 B o hi g C (λs3 F=>⟨_,H2,F,E⟩) hf
 rcases l with⟨a,hm⟩|⟨a,c,hc,b⟩
 .exact yF I.ok.kind a q hm go
 .rcases a with a|a
  .exact wpAny_loadName_cell I.ok.kind a hc b go
  .rcases g with k|k
   .have:X.env.scope.names.lookup x=some .free:=a;rw[k] at this;cases this
   .have:X.env.scope.names.lookup x=some .free:=a;rw[k] at this;cases this
def ipI(f:Int->Int->Int):TIp:=λx y H Q=>∃i j,x=.int i/\y=.int j/\Q (.int (f i j)) H
def Nj:PIp X .Add (ipI λi j=>i+j):=by
 intro pins s σ H x y v u Q I a b h;obtain⟨i,j,e1,c,q⟩:=h;subst e1;subst c;obtain⟨t,rfl⟩:=a;obtain⟨t',rfl⟩:=b;exact iadd_int ⟨.int _,H,I.tok _,⟨_,U⟩,q⟩
end
section
variable {X:Cx}{pos:Pos}
inductive Cp(c:TT)(tb:TS)(D:Uu)(σ:St)(H:Hp):Prop
 |mk:∀W:Nat->St->Hp->Prop,(∃m,W m σ H)->(∀m σ H,W m σ H->c σ H λb H1=>if b=true then ∃N:St->Hp->Prop,(∀σ' H',N σ' H'->∃m',m'<m/\W m' σ' H')/\tb {D with nx:=N,ct:=N,bk:=D.nx} σ H1 else D.nx σ H1)->Cp c tb D σ H
def Lf(c:TT)(tb:TS):TS:=λD σ H=>Cp c tb D σ H
def Wc{o:TT}{tb:TS}(p:PassesOwn (model X.prog X.w) X.A X.env X.xe)(hc:PT X c o)(t:yV X body tb):PS X (.While c body [] pos) (Lf o tb):=by
 intro pins s σ H D I h;obtain⟨W,⟨m0,u⟩,turn⟩:=h;refine wpAny_While (codeAny_whileLoop (λn s'=>∃e H',Inv X pins e H' s'/\W n e H') ?_ m0 ⟨σ,H,I,u⟩);rintro n s1 ⟨d,H1,w,x⟩;refine jj p (zS (hc pins s1 d H1 _ w (turn n d H1 x)) λb s2 ⟨H2,q,i⟩=>?_)
 cases b with
 |true=>
  obtain⟨N,r,i⟩:=i;rw[qG rfl];refine jj p (zS (t pins s2 d H2 _ q i) λf s3 j=>?_)
  cases f with
  |next=>
   obtain⟨a,g,k,l⟩:=j;obtain⟨m',hm,m⟩:=r a g l;exact⟨m',hm,a,g,k,m⟩
  |cont=>
   obtain⟨a,g,k,l⟩:=j;obtain⟨m',hm,m⟩:=r a g l;exact⟨m',hm,a,g,k,m⟩
  |brk=>exact j
  |ret v=>exact j
 |false=>
  rw[qz qS];exact yU ⟨d,H2,q,i⟩
end
structure It where
 go:Nat->Hp->Prop
 yld:Nat->Hp->V->Hp->Prop
 stop:Nat->Hp->Prop
def WX(X:Cx)(pins:qb (qd×Obj))(H:Hp)(b:qd):Prop:=
 H b=none/\b≠X.env.locals/\b∉X.fs/\(b∈X.ex\/X.s₀.heap.objs.size<=b)/\(∀x c,X.env.cells.lookup x=some c->c≠b)/\∀p∈X.pn++pins,p.1≠b
def Inv.xW{H':Hp}{s:Shared}(I:Inv X pins σ H s)(a:s.heap.objs.size<=b)(d:H' b=none):WX X pins H' b:=by
 refine⟨d,yd (qE I.lt a),I.nofs a,.inr (qO I.sz a),λx c e z=>?_,λp f z=>?_⟩
 .obtain⟨v,q⟩:=I.cell x c e;exact absurd (qE q.lt (by rw[z];exact a)) (zw _)
 .exact absurd (qE (qI (I.pin p f).1) (by rw[z];exact a)) (zw _)
structure DW(P:Program)(w:World)(K:Frag)(tg:Expr)(J:It)(fp:qb qd)(it:qd)(tn:Nat->Heap->Prop):Prop where
 mem:it∈fp
 obj:∀i h,tn i h->∀b∈fp,∃o,h.get? b=some o/\∀v,o.data≠.cell v
 keep:∀i h h',tn i h->(∀b∈fp,∀o,h.get? b=some o->h'.get? b=some o)->tn i h'
 item:∀(X:Cx),X.prog=P->X.w=w->X.K=K->X.calm=true->∀(i:Nat)(pins:qb (qd×Obj))(s:Shared)(σ:St)(H:Hp)(E:qg),Inv X pins σ H s->(∀b∈fp,WX X pins H b)->tn i s.heap->J.go i H ->
  wpAny (model P w) X.A (pyNext (.ref it)) (λr s1=>∃u,r=some u /\
   wpAny (model P w) X.A (letOwnedTupleGo tg (.ref it) u) (λ_ s2=>∃x H',Inv X pins σ H' s2/\QL x u/\J.yld i H x H'/\tn (i+1) s2.heap/\∀b∈fp,H' b=none) E s1) E s
 done:∀(X:Cx),X.prog=P->X.w=w->X.K=K->X.calm=true->∀(i:Nat)(pins:qb (qd×Obj))(s:Shared)(σ:St)(H:Hp)(E:qg),Inv X pins σ H s->(∀b∈fp,WX X pins H b)->tn i s.heap->J.stop i H ->
  wpAny (model P w) X.A (pyNext (.ref it)) (λr s1=>r=none/\Inv X pins σ H s1) E s
 self:∀(A:Around)(i:Nat)(s:Shared)(Q:qg)(E:qg),tn i s.heap->Q (.ref it) s->wpAny (model P w) A (pyIter (.ref it)) Q E s
abbrev TI:=St->Hp->(It->Hp->Prop)->Prop
def PIE(X:Cx)(pins:qb (qd×Obj))(σ:St)(tg:Expr)(R:It->Hp->Prop)(a:qe)(s2:Shared):Prop:=
 ∃(it:qd)(fp:qb qd)(c:Nat->Heap->Prop)(J:It)(H':Hp),a=.ref it/\Inv X pins σ H' s2/\DW X.prog X.w X.K tg J fp it c/\c 0 s2.heap/\(∀b∈fp,WX X pins H' b)/\R J H'
def PI(X:Cx)(tg iter:Expr)(a:TI):Prop:=
 ∀(pins:qb (qd×Obj))(s:Shared)(σ:St)(H:Hp)(R:It->Hp->Prop),Inv X pins σ H s->a σ H R ->
  wpAny (model X.prog X.w) X.A (eval iter X.env) (λv s1=>wpAny (model X.prog X.w) X.A (pyIter v) (PIE X pins σ tg R) X.xe s1) X.xe s
def Dy{E:qg}{s:Shared}{it:qd}{o:Obj}{n:String}{vs:Array qe}{Q:Unit->Shared->Prop}(b:s.heap.get? it=some o)(hc:o.cls=.type n)(hd:o.data=.fields vs)
 (c:["enumerate","zip","dict_itemiterator","dict_reverseitemiterator","odict_iterator","itertools.zip_longest","itertools.pairwise"].contains n=false) (a:Q () s):wpAny M A (letOwnedTupleGo tg (.ref it) u) Q E s:=by
 unfold letOwnedTupleGo;cases tg<;>first
  |exact qu a
  |(cases u<;>first
     |exact qu a
     |(refine qj (wpAny_load b ?_)
       rw[hc,hd];show wpAny M A (if (["enumerate","zip","dict_itemiterator","dict_reverseitemiterator","odict_iterator","itertools.zip_longest","itertools.pairwise"].contains n&&vs[0]?==some (rawInt _))=true then _ else _) Q E s;rw[qz (by intro h;rw[c,yw] at h;cases h)];exact qu a))
def g7(K:Frag)(a:qd):It:=
 ⟨λi H=>∃xs x,zm K H a xs/\xs[i]?=some x,λi H x H'=>H'=H/\∀xs,zm K H a xs->xs[i]?=some x,λi H=>∃xs,zm K H a xs/\xs.length<=i⟩
def Itt(K:Frag)(a:qd):It:=
 ⟨λi H=>∃xs x,zu K H a xs/\xs[i]?=some x,λi H x H'=>H'=H/\∀xs,zu K H a xs->xs[i]?=some x,λi H=>∃xs,zu K H a xs/\xs.length<=i⟩
def Itr(lo:Int)(n:Nat):It:=⟨λi _=>i<n,λi H x H'=>H'=H/\x=.int (lo+i),λi _=>n<=i⟩
def Hx{K:Frag}(a it:qd):DW P w K tg (g7 K a) [it] it (λi h=>h.IsListIter it a i) where
 mem:=by simp
 obj:=λi h st b f=>by
  have e:b=it:=by simpa using f
  subst e;obtain⟨o,e,c,d⟩:=st;exact⟨o,e,λv z=>by rw[d] at z;cases z⟩
 keep:=λi h h' st k=>st.at λo e=>k it (by simp) o e
 item:=by
  intro X l hw m hc i pins s σ H E I hf st n;subst l hw m;obtain⟨xs,x,j,q⟩:=n;obtain⟨its,r,p,hz⟩:=I.list j;obtain⟨u,A,B⟩:=r.get q;obtain⟨f0,f1,f2,t,f4,y⟩:=hf it (by simp);refine wpAny_pyNext_list_item st p.isList (x:=u) (by simpa using A) λh' g C=>?_;have D:Inv X pins σ H {s with heap:=h'}:=I.turned (t':=s.toks) (λb o f e=>(C.2 b f).trans e) f0 f1 t f4 y;obtain⟨o,e,c,d⟩:=id g;exact⟨u,U,Dy (s:={s with heap:=h'}) e c d ∅ ⟨x,H,D,B,⟨U,λys F=>by rw[I.xp F j];exact q⟩,g,λb f=>(hf b f).1⟩⟩
 done:=by
  intro X l hw m hc i pins s σ H E I hf st n;subst l hw m;obtain⟨xs,j,q⟩:=n;obtain⟨its,r,p,hz⟩:=I.list j;obtain⟨f0,f1,f2,t,f4,y⟩:=hf it (by simp);have A:=r.length;exact wpAny_pyNext_list_end (I.ok.hd hc) st p.isList (by simp;omega) λh' g=>⟨U,I.turned (t':=s.toks) (λb o f e=>g b o f e) f0 f1 t f4 y⟩
 self:=λ_ _ _ _ _ st h=>wpAny_pyIter_listiter st h
def D8{K:Frag}(a it:qd):DW P w K tg (Itt K a) [it] it (λi h=>h.IsTupleIter it a i) where
 mem:=by simp
 obj:=λi h st b f=>by
  have e:b=it:=by simpa using f
  subst e;obtain⟨o,e,c,d⟩:=st;exact⟨o,e,λv z=>by rw[d] at z;cases z⟩
 keep:=λi h h' st k=>st.at λo e=>k it (by simp) o e
 item:=by
  intro X l hw m hc i pins s σ H E I hf st n;subst l hw m;obtain⟨xs,x,j,q⟩:=n;obtain⟨its,r,p,hz⟩:=I.tuple j;obtain⟨u,A,B⟩:=r.get q;obtain⟨f0,f1,f2,t,f4,y⟩:=hf it (by simp);refine wpAny_pyNext_tuple_item st (show s.heap.IsTuple a its.toArray from p) (x:=u) (by simpa using A) λh' g C=>?_;have D:Inv X pins σ H {s with heap:=h'}:=I.turned (t':=s.toks) (λb o f e=>(C.2 b f).trans e) f0 f1 t f4 y;obtain⟨o,e,c,d⟩:=id g;exact⟨u,U,Dy (s:={s with heap:=h'}) e c d ∅ ⟨x,H,D,B,⟨U,λys F=>by rw[I.v5 F j];exact q⟩,g,λb f=>(hf b f).1⟩⟩
 done:=by
  intro X l hw m hc i pins s σ H E I hf st n;subst l hw m;obtain⟨xs,j,q⟩:=n;obtain⟨its,r,p,hz⟩:=I.tuple j;obtain⟨f0,f1,f2,t,f4,y⟩:=hf it (by simp);have A:=r.length;exact wpAny_pyNext_tuple_end (I.ok.hd hc) st (show s.heap.IsTuple a its.toArray from p) (by simp;omega) λh' g=>⟨U,I.turned (t':=s.toks) (λb o f e=>g b o f e) f0 f1 t f4 y⟩
 self:=λ_ _ _ _ _ st h=>wpAny_pyIter_tupleiter st h
def D9{K:Frag}(it:qd)(lo:Int)(n:Nat):DW P w K tg (Itr lo n) [it] it (λi h=>IsRangeIter h it (lo+(i:Nat)*1) ((n:Int)-(i:Nat)) 1) where
 mem:=by simp
 obj:=λi h st b a=>by
  have e:b=it:=by simpa using a
  subst e;exact⟨_,st,λv z=>by
   have c:Data.fields _=Data.cell v:=z;cases c⟩
 keep:=λi h h' st k=>k it (by simp) _ st
 item:=by
  intro X d hw f hc i pins s σ H E I hf st g;subst d hw f;obtain⟨f0,f1,f2,j,f4,l⟩:=hf it (by simp);have W:=Walks.range (prog:=X.prog) (w:=X.w) (I.ok.hd hc) it lo 1 n;refine W.item i s _ _ g st λv h' m p c q=>?_;obtain⟨t,rfl⟩:=p;have r:Inv X pins σ H {s with heap:=h',toks:=m}:=I.turned (λb o a e=>q b o (by simpa using a) e) f0 f1 j f4 l;refine⟨_,U,Dy (s:={s with heap:=h',toks:=m}) (n:="range_iterator") c rfl rfl ∅ ⟨.int (lo+i),H,r,⟨t,?_⟩,⟨U,U⟩,c,λb a=>(hf b a).1⟩⟩;rw[Int.mul_one]
 done:=by
  intro X d hw f hc i pins s σ H E I hf st g;subst d hw f;obtain⟨f0,f1,f2,j,f4,l⟩:=hf it (by simp);exact wpAny_pyNext_range_end (I.ok.hd hc) st (by have:n<=i:=g;omega) λh' c=>⟨U,I.turned (t':=s.toks) (λb o a e=>c b o a e) f0 f1 j f4 l⟩
 self:=λ_ _ _ _ _ st h=>wpAny_pyIter_rangeiter st h
section
variable {X:Cx}{tg:Expr}
inductive F9(K:Frag)(R:(It->Hp->Prop))(x:V)(H1:Hp):Prop
 |mk:∀a,x=.ref a->(∃xs,zm K H1 a xs)->R (g7 K a) H1->F9 K R x H1
def bX(K:Frag)(a:TE):TI:=λσ H R=>a σ H λx H1=>F9 K R x H1
inductive Nm(K:Frag)(R:(It->Hp->Prop))(x:V)(H1:Hp):Prop
 |mk:∀a,x=.ref a->(∃xs,zu K H1 a xs)->R (Itt K a) H1->Nm K R x H1
def iTup(K:Frag)(a:TE):TI:=λσ H R=>a σ H λx H1=>Nm K R x H1
def Y1{l:Expr}{d:TE}(f:PE X l d):PI X tg l (bX X.K d):=by
 intro pins s σ H R I h;refine zS (f pins s σ H _ I h) λv s1 ⟨x,H1,c,g,i⟩=>?_;obtain⟨a,e,⟨xs,j⟩,q⟩:=i;subst e;cases g;obtain⟨its,m,p,hz⟩:=c.list j;refine xj p.isList ?_;refine⟨s1.heap.objs.size,[s1.heap.objs.size],_,_,H1,U,c.kept (t':=s1.toks) λb o e=>qk _ e,Hx a _,⟨_,qK _ rfl,U,U⟩,λb k=>?_,q⟩;have e:b=s1.heap.objs.size:=by simpa using k
 subst e;exact c.xW (qp _) (c.hok.fresh (qp _))
def GB{l:Expr}{d:TE}(f:PE X l d):PI X tg l (iTup X.K d):=by
 intro pins s σ H R I h;refine zS (f pins s σ H _ I h) λv s1 ⟨x,H1,c,g,i⟩=>?_;obtain⟨a,e,⟨xs,j⟩,q⟩:=i;subst e;cases g;obtain⟨its,m,p,hz⟩:=c.tuple j;refine wpAny_pyIter_tuple (show s1.heap.IsTuple a its.toArray from p) ?_;refine⟨s1.heap.objs.size,[s1.heap.objs.size],_,_,H1,U,c.kept (t':=s1.toks) λb o e=>qk _ e,D8 a _,⟨_,qK _ rfl,U,U⟩,λb k=>?_,q⟩;have e:b=s1.heap.objs.size:=by simpa using k
 subst e;exact c.xW (qp _) (c.hok.fresh (qp _))
theorem LQ{s:Shared}{R:It->Hp->Prop}{E:qg}{lo hi:Int}{t u v:Tok}{a:Nat}(I:Inv X pins σ H s)(d : -(2^62)<=lo)(f:lo<2^62)(g : -(2^62)<=hi)(h:hi<2^62)
 (q:R (Itr lo (hi-lo).toNat) H):wpAny (model X.prog X.w) X.A (pyIter (.ref s.heap.objs.size)) (PIE X pins σ tg R) E {s with heap:=s.heap.push {cls:=.type "range",data:=.fields #[.int lo t,.int hi u,.int 1 v]},toks:=a}:=by
 refine wpAny_pyIter_range (IsRange.new ..) (small_one d f g h) ?_;have c:Inv X pins σ H {s with heap:=s.heap.push {cls:=.type "range",data:=.fields #[.int lo t,.int hi u,.int 1 v]},toks:=a}:=I.kept λb o e=>qk _ e;refine⟨(s.heap.push {cls:=.type "range",data:=.fields #[.int lo t,.int hi u,.int 1 v]}).objs.size,[(s.heap.push {cls:=.type "range",data:=.fields #[.int lo t,.int hi u,.int 1 v]}).objs.size],_,_,H,U,
  c.kept (t':=a) λb o e=>qk _ e,D9 _ lo (hi-lo).toNat,?_,λb i=>?_,q⟩
 .have e1:lo+((0:Nat):Int)*1=lo:=by simp
  have j:(((hi-lo).toNat:Nat):Int)-((0:Nat):Int)=Builtin.Range.rangeSize lo hi 1:=by rw[rangeSize_one];split<;>omega
  show IsRangeIter _ _ (lo+((0:Nat):Int)*1) ((((hi-lo).toNat:Nat):Int)-((0:Nat):Int)) 1;rw[e1,j];exact qK _ rfl
 .have e:b=(s.heap.push {cls:=.type "range",data:=.fields #[.int lo t,.int hi u,.int 1 v]}).objs.size:=by simpa using i
  subst e;exact c.xW (qp _) (c.hok.fresh (qp _))
inductive F8(R:(It->Hp->Prop))(vs:qb V)(H1:Hp):Prop
 |mk:∀j:Int,vs=[.int j]->-(2^62)<=j->j<2^62->R (Itr 0 j.toNat) H1->F8 R vs H1
def bW(a:TA):TI:=λσ H R=>a σ H λvs H1=>F8 R vs H1
def Yq{a:Expr}{c:TA}{p:Pos}(d:Gl X "range")(hm:X.mg "range"=none)(f:PA X [a] c)(g:starEach [a] X.env=[(false,eval a X.env)]:=by rfl):PI X tg (.Call (.Name "range" p) [a] [] pos) (bW c):=by
 intro pins s σ H R I h;refine Call_ (Wm I d hm boot_range (yq (zS (f pos pins s σ H _ I h) λus s1 ⟨vs,H1,i,k,b⟩=>?_) g rfl));obtain⟨j,e,b,l,q⟩:=b;subst e
 cases k with
 |cons r m=>
  cases m;obtain⟨t,rfl⟩:=r;exact call_range_1 (LQ i ⋯ ⋯ b l (by simpa using q))
inductive V2(g:TG)(tb:TS)(D:Uu)(σ:St)(J:It)(H1:Hp):Prop
 |mk:∀W:Nat->Nat->St->Hp->Prop,(∃m,W 0 m σ H1)->(∀i m σ H,W i m σ H->(J.stop i H/\D.nx σ H)\/(J.go i H/\∃N:St->Hp->Prop,(∀σ' H',N σ' H'->∃m',m'<m/\W (i+1) m' σ' H')/\∀x H',J.yld i H x H'->g x σ H' λσ2 H2=>tb {D with nx:=N,ct:=N,bk:=D.nx} σ2 H2))->V2 g tb D σ J H1
def tFor(a:TI)(g:TG)(tb:TS):TS:=λD σ H=>a σ H λJ H1=>V2 g tb D σ J H1
def We(fp:qb qd)(h:Heap):qb (qd×Obj):=fp.filterMap λb=>(h.get? b).map λo=>(b,o)
def UE{o:Obj}(a:b∈fp)(e:h.get? b=some o):(b,o)∈We fp h:=ye.mpr ⟨b,a,by rw[e];rfl⟩
def Ia{p:qd×Obj}(a:p∈We fp h):p.1∈fp/\h.get? p.1=some p.2:=by
 obtain⟨b,c,e⟩:=ye.mp a
 cases q:h.get? b with
 |none=>rw[q] at e;cases e
 |some o=>
  rw[q] at e;have d:(b,o)=p:=za e;subst d;exact⟨c,q⟩
def Inv.pinned{s:Shared}(I:Inv X pins σ H s)(hf:∀b∈fp,WX X pins H b)(f:∀b∈fp,∃o,s.heap.get? b=some o/\∀v,o.data≠.cell v):Inv X (pins++We fp s.heap) σ H s:=
 I.vS λp g=>(qT.mp g).elim (λz=>I.pin p (qU _ z)) λz=>by
  obtain⟨a,e⟩:=Ia z;obtain⟨f0,f1,f2,_⟩:=hf p.1 a;obtain⟨o,c,d⟩:=f p.1 a;rw[e] at c;cases c;exact⟨e,f0,f1,f2,d⟩
def Inv.xo{pl:qb (qd×Obj)}{s:Shared}(I:Inv X (pins++pl) σ H s):Inv X pins σ H s:=I.vS λp a=>I.pin p (qU _ (zK _ a))
def Ym{iter:Expr}{P:TI}{tb:TS}(y:PassesOwn (model X.prog X.w) X.A X.env X.xe)(hc:X.calm=true)(hi:PI X tg iter P)(Y:PG X tg g)(c:yV X body tb)
 (Z:∀x,foldedSetIterable iter X.env x=pure x:=by intro _;rfl):PS X (.For tg iter body [] pos) (tFor P g tb):=by
 intro pins s σ H D I h;refine wpAny_For (zS (hi pins s σ H _ I h) λv s1 h1=>zS h1 λitv s2 h2=>?_) Z;obtain⟨it,fp,Q,J,H2,e,I2,T,E,f2,W,⟨m0,w0⟩,turn⟩:=h2;subst e;have j:∀{H':Hp},(∀b∈fp,H' b=none)->∀b∈fp,WX X pins H' b:=λhn b c=>⟨hn b c,(f2 b c).2⟩;refine codeAny_forLoop_any (λn s'=>∃i k H',Inv X pins k H' s'/\Q i s'.heap/\(∀b∈fp,H' b=none)/\W i n k H') ?_ m0 ⟨0,σ,H2,I2,E,λb c=>(f2 b c).1,w0⟩;rintro n s3 ⟨i,l,C,S,z,A,w3⟩;rcases turn i n l C w3 with⟨stop,qn⟩|⟨go,N,hN,step⟩
 .refine jj y (zS (T.done X rfl rfl rfl hc i pins s3 l C X.xe S (j A) z stop) λr s4 ⟨G,a⟩=>?_);subst G;exact yU ⟨l,C,a,qn⟩
 .refine jj y (zS (T.item X rfl rfl rfl hc i pins s3 l C X.xe S (j A) z go) λr s4 ⟨u,G,h4⟩=>?_);subst G;refine jj y (zS h4 λ_ s5 ⟨x,V,I5,r5,y5,w,K⟩=>?_);have L:=I5.pinned (j K) (T.obj _ _ w);refine jj y (zS (Y _ s5 l V x u _ L r5 (step x V y5)) λ_ s6 ⟨M,H6,I6,q6⟩=>?_);refine jj y (zS (c _ s6 M H6 _ I6 q6) λf O t=>?_);have again:∀{a:St}{p:Hp},Inv X (pins++We fp s5.heap) a p O->N a p->∃m,m<n/\∃i k H',Inv X pins k H' O/\Q i O.heap/\(∀b∈fp,H' b=none)/\W i m k H':=λ{a p} q B=>by
   obtain⟨m',hm,w7⟩:=hN a p B;refine⟨m',hm,i+1,a,p,q.xo,T.keep _ _ _ w λb c o e=>(q.pin (b,o) (qU _ (qU _ (UE c e)))).1,λb c=>?_,w7⟩;obtain⟨o,e,d⟩:=T.obj _ _ w b c;exact(q.pin (b,o) (qU _ (qU _ (UE c e)))).2.1
  cases f with
  |next=>obtain⟨a,p,q,B⟩:=t;exact again q B
  |cont=>obtain⟨a,p,q,B⟩:=t;exact again q B
  |brk=>obtain⟨a,p,q,t⟩:=t;exact⟨a,p,q.xo,t⟩
  |ret v=>obtain⟨x7,a,p,q,r7,t⟩:=t;exact⟨x7,a,p,q.xo,r7,t⟩
end
theorem Wt{K:Frag}{tb:TS}{D:Uu}(Pv:Nat->St->Hp->Prop)(h0:Pv 0 σ H)(d:∀i σ H,i<=xs.length->Pv i σ H->zm K H a xs)
 (f:∀i x σ H,xs[i]?=some x->Pv i σ H->g x σ H λc H2=>tb {D with nx:=Pv (i+1),ct:=Pv (i+1),bk:=D.nx} c H2) (hd:∀σ H,Pv xs.length σ H->D.nx σ H) :
 V2 g tb D σ (g7 K a) H:=by
 refine⟨λi m σ H=>m=xs.length-i/\i<=xs.length/\Pv i σ H,⟨xs.length,by simp,zb _,h0⟩,?_⟩;rintro i m σ H ⟨rfl,hi,p⟩;have q:=d i σ H hi p;by_cases b:i<xs.length
 .refine .inr ⟨⟨xs,xs[i],q,by simp[b]⟩,Pv (i+1),λh H' j=>⟨xs.length-(i+1),⋯,U,b,j⟩,λx H' y=>?_⟩;obtain⟨e,y⟩:=y;subst e;exact f i x σ _ (y xs q) p
 .have e:i=xs.length:=by omega
  subst e;exact .inl ⟨⟨xs,q,qp _⟩,hd σ H p⟩
def K1{K:Frag}{tb:TS}{D:Uu}(Pv:Nat->St->Hp->Prop)(h0:Pv 0 σ H)(d:∀i σ H,i<=xs.length->Pv i σ H->zu K H a xs)
 (f:∀i x σ H,xs[i]?=some x->Pv i σ H->g x σ H λc H2=>tb {D with nx:=Pv (i+1),ct:=Pv (i+1),bk:=D.nx} c H2) (hd:∀σ H,Pv xs.length σ H->D.nx σ H) :
 V2 g tb D σ (Itt K a) H:=by
 refine⟨λi m σ H=>m=xs.length-i/\i<=xs.length/\Pv i σ H,⟨xs.length,by simp,zb _,h0⟩,?_⟩;rintro i m σ H ⟨rfl,hi,p⟩;have q:=d i σ H hi p;by_cases b:i<xs.length
 .refine .inr ⟨⟨xs,xs[i],q,by simp[b]⟩,Pv (i+1),λh H' j=>⟨xs.length-(i+1),⋯,U,b,j⟩,λx H' y=>?_⟩;obtain⟨e,y⟩:=y;subst e;exact f i x σ _ (y xs q) p
 .have e:i=xs.length:=by omega
  subst e;exact .inl ⟨⟨xs,q,qp _⟩,hd σ H p⟩
theorem YD{lo:Int}{tb:TS}{D:Uu}(Pv:Nat->St->Hp->Prop)(h0:Pv 0 σ H)
 (c:∀i σ H,i<n->Pv i σ H->g (.int (lo+i)) σ H λb H2=>tb {D with nx:=Pv (i+1),ct:=Pv (i+1),bk:=D.nx} b H2) (hd:∀σ H,Pv n σ H->D.nx σ H) :
 V2 g tb D σ (Itr lo n) H:=by
 refine⟨λi m σ H=>m=n-i/\i<=n/\Pv i σ H,⟨n,by simp,zb _,h0⟩,?_⟩;rintro i m σ H ⟨rfl,hi,p⟩;by_cases a:i<n
 .refine .inr ⟨a,Pv (i+1),λd H' f=>⟨n-(i+1),⋯,U,a,f⟩,λx H' y=>?_⟩;obtain⟨e,y⟩:=y;subst e y;exact c i σ _ a p
 .have e:i=n:=by omega
  subst e;exact .inl ⟨qp _,hd σ H p⟩
def VX{c:TT}{tb:TS}{D:Uu}(Pv:St->Hp->Prop)(d:St->Hp->Nat)(h0:Pv σ H)
 (e:∀σ H,Pv σ H->c σ H λb H1=>if b=true then tb {D with nx:=λa H'=>Pv a H'/\d a H'<d σ H,ct:=λa H'=>Pv a H'/\d a H'<d σ H,bk:=D.nx} σ H1 else D.nx σ H1)
 (mono:∀σ H Q Q',(∀b H1,Q b H1->Q' b H1)->c σ H Q->c σ H Q'):Lf c tb D σ H:=by
 refine⟨λm σ H=>m=d σ H/\Pv σ H,⟨_,U,h0⟩,?_⟩;rintro m σ H ⟨rfl,p⟩;refine mono σ H _ _ (λb H1 q=>?_) (e σ H p)
 cases b with
 |true=>exact⟨_,λa H' ⟨f,l⟩=>⟨_,l,U,f⟩,q⟩
 |false=>exact q
abbrev R2:=V->V->Hp->VK->Prop
def xf(X:Cx)(f:qe->qe->Sem qe)(r:R2):Prop:=
 ∀(pins:qb (qd×Obj))(s:Shared)(σ:St)(H:Hp)(x y:V)(v u:qe)(Q:VK),Inv X pins σ H s->QL x v->QL y u->r x y H Q ->
  wpAny (model X.prog X.w) X.A (f v u) (EP X pins σ Q) X.xe s
def UnR(X:Cx)(f:qe->Sem qe)(r:V->Hp->VK->Prop):Prop:=
 ∀(pins:qb (qd×Obj))(s:Shared)(σ:St)(H:Hp)(x:V)(v:qe)(Q:VK),Inv X pins σ H s->QL x v->r x H Q ->
  wpAny (model X.prog X.w) X.A (f v) (EP X pins σ Q) X.xe s
def YO(X:Cx)(f:qe)(r:qb V->Hp->VK->Prop):Prop:=
 ∀(pins:qb (qd×Obj))(s:Shared)(σ:St)(H:Hp)(xs:qb V)(us:qh)(Q:VK),Inv X pins σ H s->QD xs us->r xs H Q ->
  wpAny (model X.prog X.w) X.A (call f us) (EP X pins σ Q) X.xe s
def tOp(r:R2)(a tb:TE):TE:=λσ H Q=>a σ H λx H1=>tb σ H1 λy H2=>r x y H2 Q
def tUn(r:V->Hp->VK->Prop)(a:TE):TE:=λσ H Q=>a σ H λx H1=>r x H1 Q
inductive bB(C:Int->Int->Prop)(g:Int->Int->V)(x:V)(y:V)(H:Hp)(Q:VK):Prop
 |mk:∀i j,x=.int i->y=.int j->C i j->Q (g i j) H->bB C g x y H Q
def rI(C:Int->Int->Prop)(g:Int->Int->V):R2:=λx y H Q=>bB C g x y H Q
inductive Ro(g:Int->Int->V)(x:V)(y:V)(H:Hp)(Q:VK):Prop
 |mk:∀i j,x=.int i->y=.int j->Q (g i j) H->Ro g x y H Q
def gN(g:Int->Int->V):R2:=λx y H Q=>Ro g x y H Q
inductive br(g:Int->V)(x:V)(H:Hp)(Q:VK):Prop
 |mk:∀i,x=.int i->Q (g i) H->br g x H Q
def rU(g:Int->V):V->Hp->VK->Prop:=λx H Q=>br g x H Q
section
variable {X:Cx}{a b c:Expr}{ta tb tc:TE}{pos:Pos}
def Tp(e:PE X a ta)(g:PE X b tb){s:Shared}{R:V->V->Hp->Prop}(I:Inv X pins σ H s)
 (h:ta σ H λx H1=>tb σ H1 λy H2=>R x y H2) {Q:qg} {f:qe->qe->Sem qe}
 (hf:∀v u s2 x y H2,Inv X pins σ H2 s2->QL x v->QL y u->R x y H2->wpAny (model X.prog X.w) X.A (f v u) Q X.xe s2) :
 wpAny (model X.prog X.w) X.A (eval a X.env) (λv c=>wpAny (model X.prog X.w) X.A (eval b X.env) (λu d=>wpAny (model X.prog X.w) X.A (f v u) Q X.xe d) X.xe c) X.xe s:=by
 refine zS (e pins s σ H _ I h) λv s1 ⟨x,H1,i,j,k⟩=>?_;refine zS (g pins s1 σ H1 _ i k) λu s2 ⟨y,H2,l,m,n⟩=>?_;exact hf v u s2 x y H2 l j m n
def Qh{op:Operator}{r:R2}(c:xf X (binaryOp op) r)(d:PE X a ta)(e:PE X b tb):PE X (.BinOp a op b pos) (tOp r ta tb):=by
 intro pins s σ H Q I h;exact wpAny_BinOp (Tp d e I h λv u s2 x y H2 f g i q=>c pins s2 σ H2 x y v u Q f g i q)
def VP{op:UnaryOp}{r:V->Hp->VK->Prop}(b:UnR X (unaryOp op) r)(c:PE X a ta):PE X (.UnaryOp op a pos) (tUn r ta):=by
 intro pins s σ H Q I h;exact UnaryOp_ (zS (c pins s σ H _ I h) λv s1 ⟨x,H1,d,e,f⟩=>b pins s1 σ H1 x v Q d e f)
def opI{C:Int->Int->Prop}{g:Int->Int->Int}
 (rule:∀(i j:Int)(t u:Tok)(s:Shared)(Q:qg)(E:qg),C i j->Q (.int (g i j) s.toks) {s with toks:=s.toks+1}->wpAny (model X.prog X.w) X.A (f (.int i t) (.int j u)) Q E s) :
 xf X f (rI C λi j=>.int (g i j)):=by
 intro pins s σ H x y v u Q I a b h;obtain⟨i,j,rfl,rfl,hc,q⟩:=h;obtain⟨t,rfl⟩:=a;obtain⟨t',rfl⟩:=b;exact rule i j t t' s _ _ hc ⟨.int (g i j),H,I.tok _,⟨_,U⟩,q⟩
def bH{g:Int->Int->Int}
 (rule:∀(i j:Int)(t u:Tok)(s:Shared)(Q:qg)(E:qg),Q (.int (g i j) s.toks) {s with toks:=s.toks+1}->wpAny (model X.prog X.w) X.A (f (.int i t) (.int j u)) Q E s) :
 xf X f (gN λi j=>.int (g i j)):=by
 intro pins s σ H x y v u Q I a b h;obtain⟨i,j,rfl,rfl,q⟩:=h;obtain⟨t,rfl⟩:=a;obtain⟨t',rfl⟩:=b;exact rule i j t t' s _ _ ⟨.int (g i j),H,I.tok _,⟨_,U⟩,q⟩
def SF{g:Int->Int->Bool}
 (rule:∀(i j:Int)(t u:Tok)(s:Shared)(Q:qg)(E:qg),Q (.bool (g i j)) s->wpAny (model X.prog X.w) X.A (f (.int i t) (.int j u)) Q E s) :
 xf X f (gN λi j=>.bl (g i j)):=by
 intro pins s σ H x y v u Q I a b h;obtain⟨i,j,rfl,rfl,q⟩:=h;obtain⟨t,rfl⟩:=a;obtain⟨t',rfl⟩:=b;exact rule i j t t' s _ _ ⟨.bl (g i j),H,I,U,q⟩
def CDiv(i j:Int):Prop:=0<j/\j<1073741824
def TN(i j:Int):Prop:=(-(2^64)<i/\i<2^64)\/(-(2^64)<j/\j<2^64)
def TN.ok{i j:Int}(h:TN i j):IntMulOk i j:=by
 rcases h with⟨a,b⟩|⟨a,b⟩
 .exact .of_left (intBits_le_64 a b)
 .exact .of_right (intBits_le_64 a b)
def QV:xf X (binaryOp .Add) (gN λi j=>.int (i+j)):=bH λ_ _ _ _ _ _ _ q=>add_int q
def Xc:xf X (binaryOp .Sub) (gN λi j=>.int (i-j)):=bH λ_ _ _ _ _ _ _ q=>sub_int q
def UR:xf X (binaryOp .Mult) (rI TN λi j=>.int (i*j)):=opI λ_ _ _ _ _ _ _ hc q=>mul_int q hc.ok
theorem Qz:xf X (binaryOp .FloorDiv) (rI CDiv λi j=>.int (i / j)):=opI λi j _ _ _ _ _ hc q=>by
 have a:(0:Int)<j:=hc.1;have b:j<1073741824:=hc.2;exact floordiv_int ⋯ (by rw[Int.fdiv_eq_ediv_of_nonneg i ⋯];exact q) (.inl (PyProof.noPylong_small ⋯))
def Qx:xf X (binaryOp .Mod) (rI (λ_ j=>0<j) λi j=>.int (i%j)):=opI λi j _ _ _ _ _ hc q=>by
 have a:(0:Int)<j:=hc;exact mod_int' ⋯ (by rw[Int.fmod_eq_emod_of_nonneg i ⋯];exact q)
def unI{f:qe->Sem qe}{g:Int->Int}
 (rule:∀(i:Int)(t:Tok)(s:Shared)(Q:qg)(E:qg),Q (.int (g i) s.toks) {s with toks:=s.toks+1}->wpAny (model X.prog X.w) X.A (f (.int i t)) Q E s) :
 UnR X f (rU λi=>.int (g i)):=by
 intro pins s σ H x v Q I a h;obtain⟨i,rfl,q⟩:=h;obtain⟨t,rfl⟩:=a;exact rule i t s _ _ ⟨.int (g i),H,I.tok _,⟨_,U⟩,q⟩
def UO:UnR X (unaryOp .USub) (rU λi=>.int (-i)):=unI λ_ _ _ _ _ q=>neg_int q
end
def bf:V->V->Bool
 |.non,.non=>true|.non,.int _=>true|.int _,.non=>true|.non,.bl _=>true|.bl _,.non=>true|.non,.str _=>true|.str _,.non=>true
 |.int _,.int _=>true|.bl _,.bl _=>true|.str _,.str _=>true|.wg _,.wg _=>true
 |.int _,.str _=>true|.str _,.int _=>true|.bl _,.str _=>true|.str _,.bl _=>true
 |_,_=>false
def rEq:R2:=λx y H Q=>bf x y=true/\Q (.bl (decide (x=y))) H
def rNe:R2:=λx y H Q=>bf x y=true/\Q (.bl (!decide (x=y))) H
def Hh{i j:Int}:decide (V.int i=V.int j)=(i==j):=by
 rw[jv];simp
def NG{i j:Bool}:decide (V.bl i=V.bl j)=(i==j):=by
 rw[jv];simp
def Hg{i j:qc}:decide (V.str i=V.str j)=(i==j):=by
 rw[jv];simp
def Hi{i j:Array UInt8}:decide (V.wg i=V.wg j)=(i.toList==j.toList):=by
 rw[jv];cases i;cases j;simp
section
variable {X:Cx}{a b c:Expr}{ta tb tc:TE}{pos:Pos}
def Q0{s:Shared}{k a:Bool}(I:Inv X pins σ H s)(q:Q (.bl k) H)(e:k=a):EP X pins σ Q (.bool a) s:=by
 subst e;exact⟨.bl k,H,I,U,q⟩
def QH:xf X (compareOp .Eq) rEq:=by
 intro pins s σ H x y v u Q I c a h;obtain⟨b,q⟩:=h
 cases x with
 |non=>
  cases c
  cases y with
  |non=>cases a;exact PySem.EqNone.eq_none_none (Q0 I q (by simp))
  |bl j=>cases a;exact PySem.EqNone.eq_none_bool (Q0 I q (by simp))
  |int j=>obtain⟨t',rfl⟩:=a;exact PySem.EqNone.eq_none_int (Q0 I q (by simp))
  |str j=>obtain⟨t',rfl⟩:=a;exact PySem.EqNone.eq_none_str (Q0 I q (by simp))
  |_=>exact absurd (show false=true from b) qS
 |bl i=>
  cases c
  cases y with
  |non=>cases a;exact PySem.EqNone.eq_bool_none (Q0 I q (by simp))
  |bl j=>cases a;exact eq_bool (Q0 I q NG)
  |str j=>obtain⟨t',rfl⟩:=a;exact PySem.EqMixed.eq_bool_str (Q0 I q (by simp))
  |_=>exact absurd (show false=true from b) qS
 |int i=>
  obtain⟨t,rfl⟩:=c
  cases y with
  |non=>cases a;exact PySem.EqNone.eq_int_none (Q0 I q (by simp))
  |int j=>obtain⟨t',rfl⟩:=a;exact eq_int (Q0 I q Hh)
  |str j=>obtain⟨t',rfl⟩:=a;exact PySem.EqMixed.eq_int_str (Q0 I q (by simp))
  |_=>exact absurd (show false=true from b) qS
 |str i=>
  obtain⟨t,rfl⟩:=c
  cases y with
  |non=>cases a;exact PySem.EqNone.eq_str_none (Q0 I q (by simp))
  |bl j=>cases a;exact PySem.EqMixed.eq_str_bool (Q0 I q (by simp))
  |int j=>obtain⟨t',rfl⟩:=a;exact PySem.EqMixed.eq_str_int (Q0 I q (by simp))
  |str j=>obtain⟨t',rfl⟩:=a;exact eq_str (Q0 I q Hg)
  |_=>exact absurd (show false=true from b) qS
 |wg i=>
  obtain⟨t,rfl⟩:=c
  cases y with
  |wg j=>obtain⟨t',rfl⟩:=a;exact PySem.W.eq_bytes (Q0 I q Hi)
  |_=>exact absurd (show false=true from b) qS
 |_=>cases y<;>exact absurd (show false=true from b) qS
def Km:xf X (compareOp .NotEq) rNe:=by
 intro pins s σ H x y v u Q I c a h;obtain⟨b,q⟩:=h
 cases x with
 |non=>
  cases c
  cases y with
  |non=>cases a;exact PySem.EqNone.ne_none_none (Q0 I q (by simp))
  |bl j=>cases a;exact PySem.EqNone.ne_none_bool (Q0 I q (by simp))
  |int j=>obtain⟨t',rfl⟩:=a;exact PySem.EqNone.ne_none_int (Q0 I q (by simp))
  |str j=>obtain⟨t',rfl⟩:=a;exact PySem.EqNone.ne_none_str (Q0 I q (by simp))
  |_=>exact absurd (show false=true from b) qS
 |bl i=>
  cases c
  cases y with
  |non=>cases a;exact PySem.EqNone.ne_bool_none (Q0 I q (by simp))
  |bl j=>cases a;exact ne_bool (Q0 I q (q8 not NG))
  |str j=>obtain⟨t',rfl⟩:=a;exact PySem.EqMixed.ne_bool_str (Q0 I q (by simp))
  |_=>exact absurd (show false=true from b) qS
 |int i=>
  obtain⟨t,rfl⟩:=c
  cases y with
  |non=>cases a;exact PySem.EqNone.ne_int_none (Q0 I q (by simp))
  |int j=>obtain⟨t',rfl⟩:=a;exact ne_int (Q0 I q (q8 not Hh))
  |str j=>obtain⟨t',rfl⟩:=a;exact PySem.EqMixed.ne_int_str (Q0 I q (by simp))
  |_=>exact absurd (show false=true from b) qS
 |str i=>
  obtain⟨t,rfl⟩:=c
  cases y with
  |non=>cases a;exact PySem.EqNone.ne_str_none (Q0 I q (by simp))
  |bl j=>cases a;exact PySem.EqMixed.ne_str_bool (Q0 I q (by simp))
  |int j=>obtain⟨t',rfl⟩:=a;exact PySem.EqMixed.ne_str_int (Q0 I q (by simp))
  |str j=>obtain⟨t',rfl⟩:=a;exact ne_str (Q0 I q (q8 not Hg))
  |_=>exact absurd (show false=true from b) qS
 |wg i=>
  obtain⟨t,rfl⟩:=c
  cases y with
  |wg j=>obtain⟨t',rfl⟩:=a;exact PySem.W.ne_bytes (Q0 I q (q8 not Hi))
  |_=>exact absurd (show false=true from b) qS
 |_=>cases y<;>exact absurd (show false=true from b) qS
def Kn:xf X (compareOp .Lt) (gN λi j=>.bl (decide (i<j))):=SF λ_ _ _ _ _ _ _ q=>lt_int q
def Vu:xf X (compareOp .LtE) (gN λi j=>.bl (decide (i<=j))):=SF λ_ _ _ _ _ _ _ q=>le_int q
def W0:xf X (compareOp .Gt) (gN λi j=>.bl (decide (j<i))):=SF λ_ _ _ _ _ _ _ q=>gt_int q
def X0:xf X (compareOp .In) (λx y H Q=>∃i j,x=.str i/\y=.str j/\Q (.bl (!(Builtin.Str.occurrences j i 0 j.length 1).isEmpty)) H):=by
 intro pins s σ H x y v u Q I a b h;obtain⟨i,j,rfl,rfl,q⟩:=h;obtain⟨t,rfl⟩:=a;obtain⟨t',rfl⟩:=b;exact in_str (Q0 I q rfl)
def Mx:xf X (compareOp .Is) (λx y H Q=>y=.non/\Q (.bl (decide (x=.non))) H):=by
 intro pins s σ H x y v u Q I a b h;obtain⟨rfl,q⟩:=h;cases b;refine is_none_gen (Q0 I q ?_);cases x<;>first
  |(cases a;rfl)
  |(obtain⟨t,rfl⟩:=a;rfl)
def Ez(b:Expr)(h:op≠.In:=by decide)(a:op≠.NotIn:=by decide):behindInMarks op b=false:=by
 have e1:(op==CmpOp.In)=false:=by cases op<;>first|rfl|exact absurd rfl h
 have c:(op==CmpOp.NotIn)=false:=by cases op<;>first|rfl|exact absurd rfl a
 cases b<;>simp[behindInMarks,e1,c]
def YH{r:R2}(c:xf X (compareOp op) r)(d:PE X a ta)(e:PE X b tb)(hm:behindInMarks op b=false:=by exact Ez _):PE X (.Compare a [op] [b] pos) (tOp r ta tb):=by
 intro pins s σ H Q I h;exact wpAny_Compare1 (Tp d e I h λv u s2 x y H2 f g i q=>c pins s2 σ H2 x y v u Q f g i q) hm
inductive E8(Q:(Bool->Hp->Prop))(x:V)(H':Hp):Prop
 |mk:∀k,x=.bl k->Q k H'->E8 Q x H'
def Lh(t:TE):TT:=λσ H Q=>t σ H λx H'=>E8 Q x H'
def Qn{r:R2}(d:xf X (compareOp op) r)(f:PE X a ta)(g:PE X b tb)(hm:behindInMarks op b=false:=by exact Ez _):PT X (.Compare a [op] [b] pos) (Lh (tOp r ta tb)):=by
 intro pins s σ H Q I h;refine wpAny_isTrue_Compare1 (zS (f pins s σ H _ I h) λv s1 ⟨x,H1,i,j,l⟩=>zS (g pins s1 σ H1 _ i l) λu s2 ⟨y,H2,m,n,o⟩=>
  zS (d pins s2 σ H2 x y v u _ m j n o) λc s3 ⟨z,p,q,t,k,e,w⟩=>?_) hm
 subst e;cases t;exact zQ ⟨p,q,w⟩
def Lq(r b:R2)(ta tb tc:TE):TE:=λσ H Q=>ta σ H λx H1=>tb σ H1 λy H2=>r x y H2 λz a=>∃k,z=.bl k /\
 (if k=true then tc σ a λc d=>b y c d Q else Q (.bl false) a)
def GD{f:CmpOp}{r i:R2}(o:xf X (compareOp op) r)(g:xf X (compareOp f) i)(p:PE X a ta)(q:PE X b tb)(hc:PE X c tc)
 (hm:lastMarks [op,f] [b,c]=false:=by with_unfolding_all rfl):PE X (.Compare a [op,f] [b,c] pos) (Lq r i ta tb tc):=by
 intro pins s σ H Q I h;refine Compare_chain (zS (p pins s σ H _ I h) λv s1 ⟨x,H1,t,w,A⟩=>chain_link (zS (q pins s1 σ H1 _ t A) λu s2 ⟨y,H2,B,j,C⟩=>
  zS (o pins s2 σ H2 x y v u _ B w j C) λd s3 ⟨z,l,m,D,k,e,n⟩=>?_)) hm
 subst e;cases D;refine zQ ?_
 cases k with
 |false=>exact ite_ff ⟨.bl false,l,m,U,n⟩
 |true=>exact ite_tt (chain_last (zS (hc pins s3 σ l _ m n) λE s4 ⟨F,G,J,K,L⟩=>g pins s4 σ G y F u E Q J j K L))
def Gy{f:CmpOp}{r i:R2}(o:xf X (compareOp op) r)(g:xf X (compareOp f) i)(p:PE X a ta)(q:PE X b tb)(hc:PE X c tc)
 (hm:lastMarks [op,f] [b,c]=false:=by with_unfolding_all rfl):PT X (.Compare a [op,f] [b,c] pos) (Lh (Lq r i ta tb tc)):=by
 intro pins s σ H Q I h;refine isTrue_chain (zS (p pins s σ H _ I h) λv s1 ⟨x,H1,t,w,A⟩=>test_link (zS (q pins s1 σ H1 _ t A) λu s2 ⟨y,H2,B,j,C⟩=>
  zS (o pins s2 σ H2 x y v u _ B w j C) λd s3 ⟨z,l,m,D,k,e,n⟩=>?_)) hm
 subst e;cases D;refine zQ ?_
 cases k with
 |false=>
  obtain⟨G,E,F⟩:=n;cases E;exact ite_ff ⟨l,m,F⟩
 |true=>
  refine ite_tt (test_last (zS (hc pins s3 σ l _ m n) λE s4 ⟨F,G,J,K,L⟩=>zS (g pins s4 σ G y F u E _ J j K L) λd' s5 ⟨S,M,N,O,T,P,R⟩=>?_));subst P;cases O;exact zQ ⟨M,N,R⟩
def GW:(sizeLine:Nat)<2^63:=by rw[zI];decide
def QU:xf X (binaryOp .Add) (λx y H Q=>∃i j,x=.str i/\y=.str j/\i.length+j.length<=sizeLine/\Q (.str (i++j)) H):=by
 intro pins s σ H x y v u Q I a b h;obtain⟨i,j,rfl,rfl,hz,q⟩:=h;obtain⟨t,rfl⟩:=a;obtain⟨t',rfl⟩:=b;exact add_str (λt' c=>⟨.str (i++j),H,I.tok _,⟨_,U⟩,q⟩) hz
def Ul{x:V}(r:QD [x] us):∃u,us=[u]/\QL x u:=by
 cases r with
 |cons a b=>cases b;exact⟨_,U,a⟩
def E5{x:V}(r:QD [x,y] us):∃u a,us=[u,a]/\QL x u/\QL y a:=by
 cases r with
 |cons b c=>
  cases c with
  |cons d e=>cases e;exact⟨_,_,U,b,d⟩
def IY(hc:X.calm=true):YO X (.builtin "max") (λxs H Q=>∃i j,xs=[.int i,.int j]/\Q (.int (if j > i then j else i)) H):=by
 intro pins s σ H xs us Q I r h;obtain⟨i,j,rfl,q⟩:=h;obtain⟨u,b,rfl,⟨t,rfl⟩,⟨t',rfl⟩⟩:=E5 r;refine max_two_ints (I.ok.hd hc) λh' c k=>⟨_,H,I.kept k,?_,q⟩;by_cases a:j > i
 .rw[qG a,qG a];exact⟨_,U⟩
 .rw[qz a,qz a];exact⟨_,U⟩
def Kd:YO X (.type "int") (λxs H Q=>(∃i,xs=[.int i]/\Q (.int i) H)\/∃k,xs=[.bl k]/\Q (.int (if k then 1 else 0)) H):=by
 intro pins s σ H xs us Q I r h;rcases h with⟨i,rfl,q⟩|⟨k,rfl,q⟩
 .obtain⟨u,rfl,t,rfl⟩:=Ul r;exact call_int_int ⟨.int i,H,I,⟨_,U⟩,q⟩
 .obtain⟨u,rfl,a⟩:=Ul r;cases a;exact call_int_bool ⟨.int (if k then 1 else 0),H,I.tok _,⟨_,U⟩,q⟩
def B6:YO X (.type "str") (λxs H Q=>∃i,xs=[.int i]/\i.natAbs.log2<1920/\Q (.str (toString i)) H):=by
 intro pins s σ H xs us Q I r h;obtain⟨i,rfl,hz,q⟩:=h;obtain⟨u,rfl,t,rfl⟩:=Ul r;exact PySem.P.str_of_int hz ⟨.str _,H,I.tok _,⟨_,U⟩,q⟩
end
structure EY(h:Heap)(x dx C:qd)(mA:qc->Option qe):Prop where
 obj:h.get? x=some (instObj C dx)
 ns:h.Ns1 dx mA
 ne:dx≠x
def Ik{c:qd}{d:qc->Option qe}(n:h.Ns1 c d):∃f,h.get? c=some f/\∀name,lookIn name f=some (d name):=by
 obtain⟨o,g,l,i,hd,j,_,hm⟩:=n;refine⟨o,i,λname=>?_⟩;have e:=hm name;unfold nsFind findBy at e;rw[<-Array.find?_toList] at e;unfold lookIn;rw[hd];dsimp only;split
 .rename_i y q
  rw[q] at e;exact q8 some e
 .rename_i q
  rw[q] at e;have a:g.toList.any (·.refKey)=false:=by
   rw[List.any_eq_false];intro y k;obtain⟨z,t,b⟩:=j y (Array.mem_toList_iff.mp k);simp[DictEntry.refKey,b]
  have b:¬g.toList.any (·.refKey)=true:=by rw[a];exact qS
  rw[qz b];exact q8 some e
def EY.look{x b:qd}{c:qc->Option qe}(I:EY h x b C c):∃a,PySem.W.InstAt h x (instObj C b) C (some a)/\∀name,lookIn name a=some (c name):=
 let ⟨a,d,e⟩:=Ik I.ns
 ⟨a,⟨I.obj,U,U,d⟩,e⟩
section
variable {prog:Program}{w:World}{A:Around}{E:qg}{s:Shared}{K:Frag}{x dx C f:qd}{mA:qc->Option qe}{name:qc}{v:qe}
def Pm{expr:Bool}{Q:qg}(X:K.In s.heap)(I:EY s.heap x dx C mA)(b:plainGet K C name=true)(c:hasDictIn K C=true)
 (d:findIn K (.ref C) name=some none) (e:mA name=some v) (a:handedIn v=true) (h:Q v {s with toks:=s.toks+1}) :
 wpAny (model prog w) A (getAttr (.ref x) name expr) Q E s:=by
 obtain⟨g,J,f⟩:=I.look;exact PySem.W.get_value X J (plainGet_of b).1 (PySem.W.findObj_own c d rfl (by rw[f,e])) a h
def Nr{Q:qe×qh->Shared->Prop}(X:K.In s.heap)(I:EY s.heap x dx C mA)(a:plainGet K C name=true)
 (hf:findIn K (.ref C) name=some (some (.ref f))) (b:isFn K (.ref f)=true) (c:mA name=none) (h:Q (.ref f,[.ref x]) s) :
 wpAny (model prog w) A (getMethod (.ref x) name pl) Q E s:=by
 obtain⟨d,J,e⟩:=I.look;exact PySem.W.method_fn X J (plainGet_of a).1 (plainGet_of a).2 hf (jm.mp b) (by show(lookIn name d).map (·.isSome)=some false;rw[e,c];rfl) h
def Ou{ns:qf}{Q:Unit->Shared->Prop}(X:K.In s.heap)(I:EY s.heap x dx C mA)
 (j:findIn K (.ref C) "__setattr__"=some (some (.builtin "object.__setattr__"))) (k:plainOver K C=true) (l:takerIn K C name=some none) (m:hasDictIn K C=true)
 (hw:PySem.Within mA ns) (hsz:ns.length<=sizeLine)
 (h:∀h',EY h' x dx C (λy=>if y=name then some v else mA y)->Heap.SameBut dx s.heap h'->Q () {s with heap:=h',toks:=s.toks+2}) :
 wpAny (model prog w) A (setAttr (.ref x) name v) Q E s:=by
 obtain⟨q,J,t⟩:=I.look;refine set_plain X J j (PySem.W.osa_open (s:={s with toks:=s.toks+1}) (r:=none) X J k l λb=>?_);obtain⟨cd,hc,e⟩:=any_some m;have n:s.heap.get? x=some ⟨.ref C,some dx,.plain,#[]⟩:=I.obj;refine qj (qu (qj (qj (wpAny_loadPart n (qj (Looks.here (s:={s with toks:=s.toks+1}) (looks_clsIn X hc) ?_))))));rw[e];refine qu (a:=some dx) (qj (qu (qj ?_)));refine wpAny_nsSet1 (s:={s with toks:=s.toks+1}) I.ns λh' c d=>?_;obtain⟨u,o,p,f,g,i⟩:=c.count (PySem.Within.cons name v hw);refine qj (wpAny_lookBehind f (by rw[g];exact pastItsLine_dict (qO i (by rw[qw];omega))) ?_);exact qu (h _ ⟨(d.2 _ (jy I.ne)).trans I.obj,c,I.ne⟩ d)
def C9{R:Result->Shared->Prop}{vs:qh}(X:K.In s.heap)(hm:makesIn K C=true)
 (hi:findIn K (.ref C) "__init__"=some (some (.ref f))) (hf:PySem.W.typeIn K (.ref f)=some (.type "function"))
 (h:codeAny (model prog w) (A.under (.builtin "type.__call__" ⟨.ref C::vs,kw⟩)) (.call (.ref f) ⟨.ref (s.heap.objs.size+1)::vs,kw⟩) (PySem.W.InitBack (s.heap.objs.size+1) R)
   {s with heap:=(s.heap.push emptyDict).push (instObj C s.heap.objs.size)}) :
 codeAny (model prog w) A (.call (.ref C) ⟨vs,kw⟩) R s:=by
 obtain⟨a,g,d,t,os⟩:=s;exact PySem.W.make_core (PySem.W.makes_of X hm) (looks_findIn X hi) (λself=>PySem.W.bind_fn X self hf) (.inl rfl) h
end
def UQ(f:qc)(v:V):qb (qc×V)->qb (qc×V)
 |[]=>[(f,v)]
 |(g,x)::r=>if g=f then (g,v)::r else (g,x)::UQ f v r
theorem Kq(f g:qc)(v:V):∀c:qb (qc×V),(UQ f v c).lookup g=if g=f then some v else c.lookup g
 |[]=>by
  show List.lookup g [(f,v)]=_;by_cases h:g=f
  .have a:(g==f)=true:=jm.mpr h;simp only[List.lookup,a,qG h]
  .have a:(g==f)=false:=zV.mpr h;simp only[List.lookup,a,qz h]
 |(k,x)::r=>by
  have d:=Kq f g v r;rw[show UQ f v ((k,x)::r)=(if k=f then (k,v)::r else (k,x)::UQ f v r) from rfl];by_cases b:k=f
  .rw[qG b];by_cases h:g=k
   .have a:(g==k)=true:=jm.mpr h;simp only[List.lookup,a,qG (h.trans b)]
   .have a:(g==k)=false:=zV.mpr h;simp only[List.lookup,a,qz (λe:g=f=>h (e.trans b.symm))]
  .rw[qz b];by_cases h:g=k
   .have a:(g==k)=true:=jm.mpr h;simp only[List.lookup,a,qz (λe:g=f=>b (h.symm.trans e))]
   .have a:(g==k)=false:=zV.mpr h;simp only[List.lookup,a];exact d
theorem X6(f:qc)(v:V):∀a:qb (qc×V),f∈(UQ f v a).map (·.1)/\∀g,g∈a.map (·.1)->g∈(UQ f v a).map (·.1)
 |[]=>⟨by simp[UQ],λg h=>by simp at h⟩
 |(k,x)::r=>by
  obtain⟨c,d⟩:=X6 f v r;rw[show UQ f v ((k,x)::r)=(if k=f then (k,v)::r else (k,x)::UQ f v r) from rfl];by_cases b:k=f
  .rw[qG b];subst b;exact⟨by simp,λg h=>by simpa using h⟩
  .rw[qz b];refine⟨?_,λg h=>?_⟩
   .rw[qX];exact qt _ c
   .rw[qX] at h⊢;rcases qy.mp h with e|e
    .exact qy.mpr (.inl e)
    .exact qt _ (d g e)
theorem Kr(f:qc)(v:V):∀a:qb (qc×V),(UQ f v a).length<=a.length+1
 |[]=>by simp[UQ]
 |(k,x)::r=>by
  have c:=Kr f v r;rw[show UQ f v ((k,x)::r)=(if k=f then (k,v)::r else (k,x)::UQ f v r) from rfl];by_cases b:k=f
  .rw[qG b,qw,qw];omega
  .rw[qz b,qw,qw];omega
def U1.some_of{o:Option qe}(r:U1 (some v) o):∃u,o=some u/\QL v u:=by
 cases o with
 |none=>exact(show False from r).elim
 |some u=>exact⟨u,U,r⟩
def U1.none_of{o:Option qe}(r:U1 none o):o=none:=by
 cases o with
 |none=>rfl
 |some u=>exact(show False from r).elim
def A4(r:QL v u):handedIn u=true:=by
 cases v with
 |non=>cases (show u=Value.none from r);rfl
 |bl b=>cases (show u=Value.bool b from r);rfl
 |int i=>obtain⟨t,e⟩:=(show ∃t,u=Value.int i t from r);cases e;rfl
 |str x=>obtain⟨t,e⟩:=(show ∃t,u=Value.str x t from r);cases e;rfl
 |wg b=>obtain⟨t,e⟩:=(show ∃t,u=Value.bytes b t from r);cases e;rfl
 |flt b=>obtain⟨t,e⟩:=(show ∃t,u=Value.float b t from r);cases e;rfl
 |ref a=>cases (show u=Value.ref a from r);rfl
 |ty n=>cases (show u=Value.type n from r);rfl
section
variable {P:Program}{w:World}{H H':Hp}{h h':Heap}{a C dx:qd}{fs fs':qb (qc×V)}
def KZ(hok:yu P w H h)(e:H a=some (.ins C dx fs)):∃b,EY h a dx C b/\(∀f,U1 (fs.lookup f) (b f))/\PySem.Within b (fs.map (·.1))/\fs.length<=1000/\H dx=some (.own a):=by
 obtain⟨d,z,ne,c,b,n,r,q⟩:=(show QY P w H h a (.ins C dx fs) from hok a _ e);exact⟨b,⟨c,n,ne⟩,r,q,z,d⟩
end
structure kJ(K:Frag)(C:qd):Prop where
 pg:plainGet K C Str.empty=true
 hd:hasDictIn K C=true
 po:plainOver K C=true
 sa:findIn K (.ref C) "__setattr__"=some (some (.builtin "object.__setattr__"))
def kJ.get{K:Frag}(c:kJ K C)(f:qc):plainGet K C f=true:=c.pg
def Yp(K:Frag)(C:qd)(f:qc):Prop:=findIn K (.ref C) f=some none
def Yp.taker{K:Frag}{f:qc}(n:Yp K C f):takerIn K C f=some none:=by
 unfold takerIn;rw[show findIn K (.ref C) f=some none from n];rfl
structure Xh(K:Frag)(C:qd)(m:qc)(f:qd):Prop where
 at_:findIn K (.ref C) m=some (some (.ref f))
 fn:isFn K (.ref f)=true
 kp:keepIn K (.ref f)=true
section
variable {X:Cx}{pins:qb (qd×Obj)}{σ:St}{H:Hp}{s:Shared}{a C dx:qd}{fs:qb (qc×V)}{f:qc}{v:V}{A:Around}{E:qg}
def G6{b:Bool}{Q:qg}(I:Inv X pins σ H s)(e:H a=some (.ins C dx fs))(c:kJ X.K C)(n:Yp X.K C f)(l:fs.lookup f=some v)
 (h:∀u s',Inv X pins σ H s'->QL v u->Q u s'):wpAny (model X.prog X.w) A (getAttr (.ref a) f b) Q E s:=by
 obtain⟨g,O,r,_,_,_⟩:=KZ I.hok e;obtain⟨u,i,d⟩:=U1.some_of (v:=v) (o:=g f) (by rw[<-l];exact r f);exact Pm I.yz O (c.get f) c.hd n i (A4 d) (h u _ (I.tok _) d)
def VJ{m:qc}{g:qd}{Q:qe×qh->Shared->Prop}(I:Inv X pins σ H s)(e:H a=some (.ins C dx fs))(c:kJ X.K C)(k:Xh X.K C m g)(l:fs.lookup m=none)
 (h:Q (.ref g,[.ref a]) s):wpAny (model X.prog X.w) A (getMethod (.ref a) m pl) Q E s:=by
 obtain⟨b,O,r,_,_,_⟩:=KZ I.hok e;have d:b m=none:=U1.none_of (by rw[<-l];exact r m);exact Nr I.yz O (c.get m) k.at_ k.fn d h
theorem Xa{Q:Unit->Shared->Prop}(I:Inv X pins σ H s)(e:H a=some (.ins C dx fs))(c:kJ X.K C)(n:Yp X.K C f)(w:fs.length<1000)(l:QL y u)
 (h:∀s',Inv X pins σ (upd H a (.ins C dx (UQ f y fs))) s'->Q () s'):wpAny (model X.prog X.w) A (setAttr (.ref a) f u) Q E s:=by
 obtain⟨i,O,r,j,_,k⟩:=KZ I.hok e;have hz:(fs.map (·.1)).length<=sizeLine:=by rw[qi,zI];omega
 refine Ou I.yz O c.sa c.po n.taker c.hd j hz λh' d m=>h _ ?_;have hd:∃o,h'.get? dx=some o:=let ⟨o,_,_,p,_⟩:=d.ns;⟨o,p⟩;refine I.write (x:=a) (e:=dx) (by rw[e];exact True.intro) (.inr k) (λb q t z=>(m.2 b t).trans z) hd ?_;refine⟨by rw[Qj O.ne];exact k,?_,O.ne,d.obj,_,d.ns,λg=>?_,λg v=>?_⟩
 .have:=Kr f y fs;omega
 .show U1 ((UQ f y fs).lookup g) (if g=f then some u else i g);rw[Kq];by_cases q:g=f
  .rw[qG q,qG q];exact l
  .rw[qz q,qz q];exact r g
 .by_cases q:g=f
  .rw[q];exact(X6 f y fs).1
  .refine(X6 f y fs).2 g (j g λz=>v ?_);show(if g=f then some u else i g)=none;rw[qz q];exact z
def Inv.made(I:Inv X pins σ H s):Inv X pins σ (upd (upd H s.heap.objs.size (.own (s.heap.objs.size+1))) (s.heap.objs.size+1) (.ins C s.heap.objs.size []))
 {s with heap:=(s.heap.push emptyDict).push (instObj C s.heap.objs.size)}:=by
 have e1:(s.heap.push emptyDict).get? s.heap.objs.size=some emptyDict:=qK s.heap rfl;have c:((s.heap.push emptyDict).push (instObj C s.heap.objs.size)).get? (s.heap.objs.size+1)=some (instObj C s.heap.objs.size):=by
  have:=qK (s.heap.push emptyDict) (o:=instObj C s.heap.objs.size) rfl;rwa[zY] at this
 have d:(s.heap.push emptyDict).Ns s.heap.objs.size (λ_=>none):=⟨emptyDict,#[],_,e1,U,(λe he=>absurd he (by simp)),λ_=>rfl⟩;have f:=I.laid (a:=s.heap.objs.size) (o:=.own (s.heap.objs.size+1)) (h':=s.heap.push emptyDict) (t':=s.toks) (λb u q=>qk _ q) (qp _) ⟨_,e1⟩;refine f.laid (a:=s.heap.objs.size+1) (o:=.ins C s.heap.objs.size []) (t':=s.toks) (λb u q=>qk _ q) (Nat.le_of_eq (zY _ _)) ?_;have ne:s.heap.objs.size≠s.heap.objs.size+1:=qR (zN _);refine⟨by rw[Qj ne,Qg],zb _,ne,c,λ_=>none,(Heap.Ns1.of_empty d).at λo q=>qk _ q,λ_=>True.intro,λy g=>absurd rfl g⟩
def Hr{prog:Program}{env:Env}{f:qc}{s:Shared}{Q:qg}(b:attributeBase e f env (eval e env)=eval e env)
 (h:wpAny (model prog w) A (eval e env) (λo a=>wpAny (model prog w) A (getAttr o f true) Q E a) E s):wpAny (model prog w) A (eval (.Attribute e f pos) env) Q E s:=
 Attribute_any_ h (by rw[arm_eval_Attribute,b])
end
inductive Lm(K:Frag)(f:qc)(Q:VK)(x:V)(H1:Hp):Prop
 |mk:∀a C dx fs v,x=.ref a->H1 a=some (.ins C dx fs)->kJ K C->Yp K C f->fs.lookup f=some v->Q v H1->Lm K f Q x H1
def Oo(K:Frag)(a:TE)(f:qc):TE:=λσ H Q=>a σ H λx H1=>Lm K f Q x H1
inductive LK(K:Frag)(f:qc)(D:Uu)(σ:St)(y:V)(x:V)(H2:Hp):Prop
 |mk:∀a C dx fs,x=.ref a->H2 a=some (.ins C dx fs)->kJ K C->Yp K C f->fs.length<1000->D.nx σ (upd H2 a (.ins C dx (UQ f y fs)))->LK K f D σ y x H2
def bp(K:Frag)(a b:TE)(f:qc):TS:=λD σ H=>b σ H λy H1=>a σ H1 λx H2=>LK K f D σ y x H2
def cE(X:Cx)(op:Operator)(a:V->V->Hp->VK->Prop):Prop:=
 ∀(pins:qb (qd×Obj))(s:Shared)(σ:St)(H:Hp)(x y:V)(u v:qe)(Q:VK),Inv X pins σ H s->QL x u->QL y v->a x y H Q->wpAny (model X.prog X.w) X.A (inplaceOp op u v) (EP X pins σ Q) X.xe s
inductive AG(K:Frag)(tv:TE)(rd:V->V->Hp->VK->Prop)(f:qc)(D:Uu)(σ:St)(x:V)(H1:Hp):Prop
 |mk:∀a C dx fs v,x=.ref a->H1 a=some (.ins C dx fs)->kJ K C->Yp K C f->fs.lookup f=some v->(tv σ H1 λy H2=>rd v y H2 λz H3=>∃dx' fs',H3 a=some (.ins C dx' fs')/\fs'.length<1000/\D.nx σ (upd H3 a (.ins C dx' (UQ f z fs'))))->AG K tv rd f D σ x H1
def Ow(K:Frag)(a b:TE)(c:V->V->Hp->VK->Prop)(f:qc):TS:=λD σ H=>a σ H λx H1=>AG K b c f D σ x H1
section
variable {X:Cx}{o e value:Expr}{f:qc}{pos pos' tpos:Pos}{ta tv:TE}
def Qw(he:PE X e ta)(b:attributeBase e f X.env (eval e X.env)=eval e X.env):PE X (.Attribute e f pos) (Oo X.K ta f):=by
 intro pins s σ H Q I h;refine Hr b (zS (he pins s σ H _ I h) λu s1 ⟨x,H1,d,g,a,C,m,o,v,ex,i,c,n,l,q⟩=>?_);subst ex;obtain rfl:u=Value.ref a:=g;exact G6 d i c n l λp s2 j k=>⟨v,H1,j,k,q⟩
def YR(b:PE X o ta)(d:PE X value tv)(e:swapsWith value (some (.Attribute o f pos')) pos.line X.env=pure false):PS X (.Assign [.Attribute o f pos'] value pos) (bp X.K ta tv f):=by
 intro pins s σ H D I h;refine xt (zS (d pins s σ H _ I h) λu s1 ⟨y,H1,g,i,q⟩=>zS (b pins s1 σ H1 _ g q) λj s2 ⟨x,H2,k,m,a,C,v,w,ex,p,c,n,l,r⟩=>?_) e;subst ex;obtain rfl:j=Value.ref a:=m;exact Xa k p c n l i λs3 t=>⟨σ,_,t,r⟩
def AO{op:Operator}{e:V->V->Hp->VK->Prop}(g:PE X o ta)(i:PE X value tv)(b:cE X op e):PS X (.AugAssign (.Attribute o f tpos) op value pos) (Ow X.K ta tv e f):=by
 intro pins s σ H D I h;refine wpAny_AugAssign_AttributeAny (zS (g pins s σ H _ I h) λj s1 ⟨x,H1,k,m,a,C,O,P,v,ex,p,c,n,l,q⟩=>?_);subst ex;obtain rfl:j=Value.ref a:=m;refine G6 k p c n l λu s2 r t=>zS (i pins s2 σ H1 _ r q) λw s3 ⟨y,H2,A,B,E⟩=>zS (b pins s3 σ H2 v y u w _ A t B E) λQ s4 ⟨z,R,F,G,J,K,d,L,M⟩=>?_;exact Xa F d c n L G λs5 N=>⟨σ,_,N,M⟩
inductive L4(x:V)(y:V)(H:Hp)(Q:VK):Prop
 |mk:∀i j,x=.int i->y=.int j->Q (.int (i+j)) H->L4 x y H Q
def rAdd:V->V->Hp->VK->Prop:=λx y H Q=>L4 x y H Q
def Nk:cE X .Add rAdd:=by
 rintro pins s σ H x y u v Q I a b ⟨i,j,rfl,rfl,q⟩;obtain⟨t,rfl⟩:=(show ∃t,u=Value.int i t from a);obtain⟨t',rfl⟩:=(show ∃t',v=Value.int j t' from b);exact iadd_int ⟨.int (i+j),H,I.tok _,⟨_,U⟩,q⟩
end
section
variable {X:Cx}{pins:qb (qd×Obj)}{σ:St}{H:Hp}{s:Shared}{A:Around}{E:qg}{Q:qg}{c:qe}{b:Bool}
inductive Uw(K:Frag)(H:Hp):V->qe->Prop where
 |non:Uw K H .non (.type "NoneType")
 |bl (x:Bool):Uw K H (.bl x) (.type "bool")
 |int (i:Int):Uw K H (.int i) (.type "int")
 |str (x:qc):Uw K H (.str x) (.type "str")
 |flt (x:UInt64):Uw K H (.flt x) (.type "float")
 |lst {a:qd} {xs:qb V} (e:H a=some (.lst xs)):Uw K H (.ref a) (.type "list")
 |vN {a:qd} {o:Obj} {xs:qb V} (e:H a=some (.vN o (.lst xs))):Uw K H (.ref a) (.type "list")
 |tup {a:qd} {xs:qb V} (e:H a=some (.tup xs)):Uw K H (.ref a) (.type "tuple")
 |dK {a:qd} {kvs:qb (Key×V)} (e:H a=some (.dK kvs)):Uw K H (.ref a) (.type "dict")
 |dT {a:qd} {kvs:qb (qb Key×V)} (e:H a=some (.dT kvs)):Uw K H (.ref a) (.type "dict")
 |ins {a C dx:qd} {fs:qb (qc×V)} (e:H a=some (.ins C dx fs)) (cl:kJ K C) (ha:findIn K (.ref C) "__class__"=some (some (.builtin "object.__class__")))
   (hn:specialIn K (.builtin "object.__class__") "__get__"=some (some (.builtin "getset_descriptor.__get__"))) (htk:takesIn K (.builtin "object.__class__")=some true)
   (hm:mroIn K C (.type "object")=some true):Uw K H (.ref a) (.ref C)
def Iy{x:V}{t:qe}(I:Inv X pins σ H s)(d:QL x u)(ty:Uw X.K H x t)(e:kitOne X.K t c=some b)(h:∀l,Q (.bool b) {s with toks:=l}) :
 wpAny (model X.prog X.w) A (call (.builtin "isinstance") [u,c]) Q E s:=by
 cases ty with
 |non=>cases (show u=Value.none from d);exact kia_one PySem.W.kitx_none I.yz True.intro e nofun h
 |bl y=>cases (show u=Value.bool y from d);exact kia_one PySem.W.kitx_bool I.yz True.intro e nofun h
 |int i=>obtain⟨t,q⟩:=(show ∃t,u=Value.int i t from d);cases q;exact kia_one PySem.W.kitx_int I.yz True.intro e nofun h
 |str y=>obtain⟨t,q⟩:=(show ∃t,u=Value.str y t from d);cases q;exact kia_one PySem.W.kitx_str I.yz True.intro e nofun h
 |flt y=>obtain⟨t,q⟩:=(show ∃t,u=Value.float y t from d);cases q;exact kia_one PySem.W.kitx_float I.yz True.intro e nofun h
 |@lst a xs f=>
  cases (show u=Value.ref a from d);obtain⟨_,_,n,_,g⟩:=(show QY X.prog X.w H s.heap a (.lst xs) from I.hok a _ f);exact kia_one kitx_list I.yz ⟨_,g,U⟩ e nofun h
 |@vN a j xs f=>
  cases (show u=Value.ref a from d);obtain⟨_,_,_,n,_,g⟩:=(show QY X.prog X.w H s.heap a (.vN j (.lst xs)) from I.hok a _ f);exact kia_one kitx_list I.yz ⟨_,g,U⟩ e nofun h
 |@tup a xs f=>
  cases (show u=Value.ref a from d);obtain⟨_,_,_,p⟩:=(show QY X.prog X.w H s.heap a (.tup xs) from I.hok a _ f);obtain⟨o,g,k,_⟩:=p;exact kia_one PySem.W.kitx_tuple I.yz ⟨o,g,k⟩ e nofun h
 |@dK a j f=>
  cases (show u=Value.ref a from d);obtain⟨_,_,vs,_,p⟩:=(show QY X.prog X.w H s.heap a (.dK j) from I.hok a _ f);obtain⟨o,m,r,g,k,_⟩:=p;exact kia_one kitx_dict I.yz ⟨o,g,k.1⟩ e nofun h
 |@dT a j f=>
  cases (show u=Value.ref a from d);obtain⟨_,_,xs,_,o,m,r,g,k,_⟩:=(show QY X.prog X.w H s.heap a (.dT j) from I.hok a _ f);exact kia_one kitx_dict I.yz ⟨o,g,k.1⟩ e nofun h
 |@ins a C m r f cl j k g hm=>
  cases (show u=Value.ref a from d);obtain⟨v,O,_⟩:=KZ I.hok f;obtain⟨w,J,_⟩:=O.look;exact kia_one (PySem.W.kitx_own (cl.get _) cl.hd j k g hm) I.yz J e nofun h
end
structure QF(k:Nat)(A:Around):Prop where
 hd:A.handled=none
 dp:A.depth+3*k+5<recursionLimit
 un:A.units+16*k+200<cLine
 gd:A.guards=some []
theorem QF.mono{k:Nat}(r:QF k A)(h:j<=k:=by decide):QF j A:=⟨r.hd,by have:=r.dp;omega,by have:=r.un;omega,r.gd⟩
theorem QF.deeper{k:Nat}(r:QF (k+1) A)(env:Env):QF k (A.deeper env):=
 ⟨r.hd,by have:=r.dp;show A.depth+1+3*k+5<_;omega,by have:=r.un;show A.units+3+16*k+200<_;omega,r.gd⟩
def EE    :(A.under (.builtin "type.__call__" ⟨.ref C::us,kw⟩)).depth=A.depth+1:=by
 first|rfl|simp[Around.under,Code.weight,Code.isCreation,Code.isGuard,Code.isCaller,Code.frames,Code.isFrame,guardIds]
def ED    :(A.under (.builtin "type.__call__" ⟨.ref C::us,kw⟩)).units=A.units+1:=by
 first|rfl|simp[Around.under,Code.cUnits,Code.frames,Code.isFrame]
def Dc(h:A.guards=some []):(A.under (.builtin "type.__call__" ⟨.ref C::us,kw⟩)).guards=some []:=by
 first|exact h|simp[Around.under,Code.guards,Code.isGuard,pushGuards,guardIds,h]
theorem QF.make{k:Nat}(r:QF (k+1) A)(C:qd)(us:qh)(kw:qb (qc×qe)):QF k (A.under (.builtin "type.__call__" ⟨.ref C::us,kw⟩)):=
 ⟨r.hd,by have:=r.dp;rw[EE];omega,by have:=r.un;rw[ED];omega,Dc r.gd⟩
theorem QF.depth{k:Nat}(r:QF k A):A.depth<recursionLimit:=by have:=r.dp;omega
theorem QF.units{k:Nat}(r:QF k A):A.units+64<cLine:=by have:=r.un;omega
def Cq:TA:=λ_ H Q=>Q [] H
def WY(a:TE)(b:TA):TA:=λσ H Q=>a σ H λx H1=>b σ H1 λxs H2=>Q (x::xs) H2
section
variable {X:Cx}{e:Expr}{es:qb Expr}{te:TE}{t:TA}{pos:Pos}
def Qe:PA X [] Cq:=λ_ _ _ _ H Q I h=>jW ⟨[],H,I,.nil,h⟩
def OU(a:PE X e te)(b:PA X es t)(c:starEach (e::es) X.env=(false,eval e X.env)::starEach es X.env:=by rfl):PA X (e::es) (WY te t):=by
 intro pos pins s σ H Q I h;rw[c];show wpAny _ _ (spliced ((false,eval e X.env)::backTo pos (starEach es X.env))) _ _ s;refine zA (zS (a pins s σ H _ I h) λu s1 ⟨x,H1,d,f,g⟩=>?_);exact zS (b pos pins s1 σ H1 _ d g) λus s2 ⟨xs,H2,i,j,k⟩=>⟨x::xs,H2,i,.cons f j,k⟩
def ah(t:TA):TE:=λσ H Q=>t σ H λxs H1=>xs.length<=sizeLine/\∀p,H1 p=none->Q (.ref p) (upd H1 p (.tup xs))
def RT(t:TA):TE:=λσ H Q=>t σ H λxs H1=>xs.length<=sizeLine/\∀p,H1 p=none->Q (.ref p) (upd H1 p (.lst xs))
def Ss{c}(h:PA X es t):PE X (.Tuple es c pos) (ah t):=by
 intro pins s σ H Q I d;refine wU (zS (h pos pins s σ H _ I d) λus s1 ⟨xs,H1,a,r,z,q⟩=>⟨by rw[<-r.length];exact z,?_⟩);have hf:H1 s1.heap.objs.size=none:=a.hok.fresh (qp _);refine⟨.ref s1.heap.objs.size,upd H1 s1.heap.objs.size (.tup xs),a.laid (t':=s1.toks) (λb u e=>qk _ e) (qp _) ?_,U,q _ hf⟩;exact⟨z,us,r,⟨_,qK _ rfl,U,_,U⟩⟩
def Mj(h:PA X es t):PE X (.List es pos) (RT t):=by
 intro pins s σ H Q I c;refine wpAny_List_spliced (zS (h pos pins s σ H _ I c) λus s1 ⟨xs,H1,a,r,z,q⟩=>⟨by rw[<-r.length];exact z,?_⟩);have hf:H1 s1.heap.objs.size=none:=a.hok.fresh (qp _);refine⟨.ref s1.heap.objs.size,upd H1 s1.heap.objs.size (.lst xs),a.laid (t':=s1.toks) (λb u e=>qk _ e) (qp _) ?_,U,q _ hf⟩;exact⟨z,us,0,r,qK _ rfl⟩
end
abbrev Sp:=qb V->Hp->VK->XK->Prop
abbrev vj:=qb Env->Hp->Shared->XK->qe->Shared->Prop
variable {CX:vj}
structure Aw(P:Program)(w:World)(K:Frag)(mg:qc->Option qe)(base:Heap)(A:Around)(outer:qb Env)(s:Shared)(H:Hp):Prop where
 frames:A.frames=some outer
 mod:Mod K mg base
 bs:∀b o,base.get? b=some o->s.heap.get? b=some o/\H b=none
 vB:base.objs.size<=s.heap.objs.size
 xq:s.heap.FunFrames base outer
 wd:∀b∈frs outer,H b=none
 hok:yu P w H s.heap
 bare:AllBare s.gens
def CE(outer:qb Env)(P:Program)(w:World)(H:Hp)(s:Shared)(Q:VK)(u:qe)(s':Shared):Prop:=
 ∃v H',s'.os=s.os/\AllBare s'.gens/\Un (frs outer) [] H H' s.heap s'.heap/\yu P w H' s'.heap/\QL v u/\Q v H'
def CR(CX:vj)(outer:qb Env)(P:Program)(w:World)(H:Hp)(s:Shared)(Q:VK)(E:XK)(r:Result)(s':Shared):Prop:=
 match r with
 |.ok (.ret u)=>CE outer P w H s Q u s'
 |.ok _=>False
 |.error e=>CX outer H s E e s'
structure Y6(P:Program)(w:World)(K:Frag)(mg:qc->Option qe)(base:Heap)(CX:vj)(k:Nat)(f:qd)(fd:FuncData)(ps:qf)(sp:Sp):Prop where
 len:∀vs H Q E,sp vs H Q E->vs.length=ps.length
 run:∀(A:Around)(outer:qb Env)(s:Shared)(H:Hp)(args:Args)(us:qh)(vs:qb V)(Q:VK)(E:XK),QF k A->Aw P w K mg base A outer s H->BindsTo s fd args (ps.zip us)->QD vs us->sp vs H Q E ->
  codeAny (model P w) A (.call (.ref f) args) (CR CX outer P w H s Q E) s
def Y6.mono{K:Frag}{k:Nat}{f:qd}{fd:FuncData}{sp:Sp}(F:Y6 P w K mg base CX j f fd ps sp)(h:j<=k) :
 Y6 P w K mg base CX k f fd ps sp:=⟨F.len,λA outer s H args us vs Q E a=>F.run A outer s H args us vs Q E (a.mono h)⟩
def Aw.make{K:Frag}{outer:qb Env}{s:Shared}(e:Aw P w K mg base A outer s H)(C:qd)(us:qh)(kw:qb (qc×qe)) :
 Aw P w K mg base (A.under (.builtin "type.__call__" ⟨.ref C::us,kw⟩)) outer s H:=⟨by first|exact e.frames|(simpa[Around.under,Code.envs,Code.isFrame,pushEnvs] using e.frames),e.mod,e.bs,e.vB,e.xq,e.wd,e.hok,e.bare⟩
section
variable {X:Cx}{pins:qb (qd×Obj)}{σ:St}{H:Hp}{s s':Shared}
def Inv.env0(I:Inv X pins σ H s):Aw X.prog X.w X.K X.mg X.base X.A X.stack s H:=
 ⟨I.ok.frames,I.ok.mod,I.bs,qO I.ok.vB I.sz,I.stack,I.xT,I.hok,I.bare⟩
def Inv.after(I:Inv X pins σ H s)(h:CE X.stack X.prog X.w H s Q u s'):EP X pins σ Q u s':=by
 obtain⟨v,H',os,bare,un,hok,r,q⟩:=h;obtain⟨c,g,d,t,a⟩:=s';obtain rfl:a=s.os:=os;exact⟨v,H',I.call (h':=c) (g':=g) (d':=d) (t':=t) (ch:=[]) un hok bare (λb z=>absurd z (by simp)),r,q⟩
end
def AE(sp:Sp)(a:qb V)(E:XK)(t:TA):TE:=λσ H Q=>t σ H λvs H1=>sp (vs++a) H1 Q E
inductive Fd(C:qd)(m:qc)(sp:Sp)(yO:qb V)(E:XK)(t:TA)(σ:St)(Q:VK)(x:V)(H1:Hp):Prop
 |mk:∀a dx fs,x=.ref a->H1 a=some (.ins C dx fs)->fs.lookup m=none->(t σ H1 λvs H2=>sp (x::(vs++yO)) H2 Q E)->Fd C m sp yO E t σ Q x H1
def Fe(C:qd)(m:qc)(sp:Sp)(a:qb V)(E:XK)(b:TE)(t:TA):TE:=λσ H Q=>b σ H λx H1=>Fd C m sp a E t σ Q x H1
def Ll(C:qd)(sp:Sp)(b:qb V)(E:XK)(t:TA):TE:=λσ H Q=>t σ H λvs H1=>∀x a,H1 x=none->H1 a=none->a≠x ->
 sp (.ref x::(vs++b)) (upd (upd H1 a (.own x)) x (.ins C a [])) (λv H2=>v=.non/\Q (.ref x) H2) E
def Yl(K:Frag)(fd:FuncData)(ps:qf)(ds:qh):Prop:=
 ∀(s:Shared)(us:qh),K.In s.heap->(us++ds).length=ps.length->BindsTo s fd ⟨us,[]⟩ (ps.zip (us++ds))
def Yl.all{K:Frag}{fd:FuncData}(h:∀us:qh,us.length=ps.length->bindArgs fd ⟨us,[]⟩=pure (ps.zip us)):Yl K fd ps []:=λs us _ a=>by
 rw[ze] at a⊢;exact .of_eq (h us a)
def US(CX:vj)(X:Cx)(E:XK):Prop:=∀(pins:qb (qd×Obj))(σ:St)(H:Hp)(s:Shared)(e:qe)(s':Shared),Inv X pins σ H s->CX X.stack H s E e s'->X.xe e s'
section
variable {X:Cx}{CX:vj}{k:Nat}{f C:qd}{fd:FuncData}{ps:qf}{sp:Sp}{yO:qb V}{ds:qh}{E:XK}{x m:qc}{p pos apos:Pos}{e o:Expr}{es:qb Expr}{ta:TE}{t:TA}
def XT{s:Shared}(F:Y6 X.prog X.w X.K X.mg X.base CX k f fd ps sp)(c:QF k X.A)(d:Yl X.K fd ps ds)(hd:QD yO ds)(g:US CX X E)
 (I:Inv X pins σ H s) (r:QD vs us) (h:sp (vs++yO) H Q E):wpAny (model X.prog X.w) X.A (call (.ref f) us) (EP X pins σ Q) X.xe s:=by
 have b:QD (vs++yO) (us++ds):=r.append hd;have i:(us++ds).length=ps.length:=by rw[<-b.length];exact F.len _ _ _ _ h
 refine jH (zT (F.run X.A X.stack s H ⟨us,[]⟩ (us++ds) (vs++yO) Q E c I.env0 (d s us I.yz i) b h) λr s' a=>?_)
 cases r with
 |error e=>exact g pins σ H s e s' I a
 |ok j=>
  cases j with
  |ret u=>exact I.after a
  |next=>exact False.elim a
  |brk=>exact False.elim a
  |cont=>exact False.elim a
def Q7(F:Y6 X.prog X.w X.K X.mg X.base CX k f fd ps sp)(d:QF k X.A)(g:Gl X x)(hm:X.mg x=some (.ref f))(i:keepIn X.K (.ref f)=true)(j:Yl X.K fd ps ds)(hd:QD yO ds)(l:US CX X E)
 (m:PA X (e::es) t) (a:(x==("__debug__":qc))=false:=by decide) (he:starEach (e::es) X.env=(false,eval e X.env)::starEach es X.env:=by rfl) (b:(backTo pos (starEach es X.env)).any (·.1)=false:=by rfl) :
 PE X (.Call (.Name x p) (e::es) [] pos) (AE sp yO E t):=by
 intro pins s σ H Q I h;refine zM (UZ I g hm ?_ a);refine callWith_K (h₀:=X.base) I.ok.mod.vh i (zS (m pos pins s σ H _ I h) λus s1 ⟨vs,H1,c,r,q⟩=>⟨c.yz,?_⟩) he b;exact XT F d j hd l c r q
def Q3(he:PE X o ta)(c:kJ X.K C)(hm:Xh X.K C m f)(F:Y6 X.prog X.w X.K X.mg X.base CX k f fd ps sp)(n:QF k X.A)(p:Yl X.K fd ps ds)(hd:QD yO ds)(v:US CX X E)(w:PA X (e::es) t)
 (b:starEach (e::es) X.env=(false,eval e X.env)::starEach es X.env:=by rfl) (d:(backTo pos (starEach es X.env)).any (·.1)=false:=by rfl)
 (y:eval (.Call (.Attribute o m apos) (e::es) [] pos) X.env=(do
   let g <-eval o X.env
   standAt apos.atName
   let (f,first) <-holding [g] (getMethod g m pl)
   callWith pos f first (backTo pos (starEach (e::es) X.env)) (backToKw pos (keywordEach [] X.env))):=by rfl) :
 PE X (.Call (.Attribute o m apos) (e::es) [] pos) (Fe C m sp yO E ta t):=by
 intro pins s σ H Q I h;refine methodCall_KW (pl:=pl) (zS (he pins s σ H _ I h) λu s1 ⟨x,H1,i,z,a,D,G,ex,A,l,q⟩=>?_) y;subst ex;obtain rfl:u=Value.ref a:=z;refine VJ i A c hm l ?_;refine callWith_K (first:=[.ref a]) (h₀:=X.base) I.ok.mod.vh hm.kp (zS (w pos pins s1 σ H1 _ i q) λus s2 ⟨vs,H2,j,r,B⟩=>⟨j.yz,?_⟩) b d;exact XT (us:=.ref a::us) (vs:=.ref a::vs) F n p hd v j (.cons rfl r) B
def Ud(he:PE X o ta)(c:kJ X.K C)(hm:Xh X.K C m f)(F:Y6 X.prog X.w X.K X.mg X.base CX k f fd ps sp)(e:QF k X.A)(g:Yl X.K fd ps ds)(hd:QD yO ds)(i:US CX X E)
 (j:eval (.Call (.Attribute o m apos) [] [] pos) X.env=(do
   let d <-eval o X.env
   standAt apos.atName
   let (f,first) <-holding [d] (getMethod d m pl)
   callWith pos f first (backTo pos (starEach [] X.env)) (backToKw pos (keywordEach [] X.env))):=by rfl) :
 PE X (.Call (.Attribute o m apos) [] [] pos) (Fe C m sp yO E ta Cq):=by
 intro pins s σ H Q I h;refine methodCall_KW (pl:=pl) (zS (he pins s σ H _ I h) λu s1 ⟨x,H1,b,n,a,r,t,ex,p,l,q⟩=>?_) j;subst ex;obtain rfl:u=Value.ref a:=n;refine VJ b p c hm l ?_;exact callWith_K0 (first:=[.ref a]) b.yz hm.kp (XT (us:=[.ref a]) (vs:=[.ref a]) F e g hd i b (.cons rfl .nil) q)
structure Mk(K:Frag)(C f:qd):Prop where
 makes:makesIn K C=true
 init:findIn K (.ref C) "__init__"=some (some (.ref f))
 fn:isFn K (.ref f)=true
 kp:keepIn K (.ref C)=true
def LL{s:Shared}(M:Mk X.K C f)(F:Y6 X.prog X.w X.K X.mg X.base CX k f fd ps sp)(i:QF (k+1) X.A)(j:Yl X.K fd ps ds)(hd:QD yO ds)
 (l:US CX X E) (I:Inv X pins σ H s) (r:QD vs us)
 (h:∀x b,H x=none->H b=none->b≠x->sp (.ref x::(vs++yO)) (upd (upd H b (.own x)) x (.ins C b [])) (λv H2=>v=.non/\Q (.ref x) H2) E) :
 wpAny (model X.prog X.w) X.A (call (.ref C) us) (EP X pins σ Q) X.xe s:=by
 have d:=h (s.heap.objs.size+1) s.heap.objs.size (I.hok.fresh (zC _)) (I.hok.fresh (qp _)) (qR (zN _));have c:=Inv.made (C:=C) I;have g:QD (V.ref (s.heap.objs.size+1)::(vs++yO)) (Value.ref (s.heap.objs.size+1)::(us++ds)):=.cons rfl (r.append hd);have m:(Value.ref (s.heap.objs.size+1)::us++ds).length=ps.length:=by
  have e:=g.length;rw[F.len _ _ _ _ d] at e;exact e.symm
 refine jH (C9 (f:=f) I.yz M.makes M.init (jm.mp M.fn) (zT (F.run _ X.stack _ _ ⟨Value.ref (s.heap.objs.size+1)::us,[]⟩ (Value.ref (s.heap.objs.size+1)::(us++ds)) _ _ E (i.make C us [])
  (c.env0.make C us []) (j _ (Value.ref (s.heap.objs.size+1)::us) c.yz m) g d) λr s' a=>?_))
 cases r with
 |error e=>exact l pins σ _ _ e s' c a
 |ok n=>
  cases n with
  |ret u=>
   obtain⟨v,H',o,p,ev,q⟩:=c.after a;subst ev;exact⟨p,⟨V.ref (s.heap.objs.size+1),H',o,U,q⟩⟩
  |next=>exact False.elim a
  |brk=>exact False.elim a
  |cont=>exact False.elim a
def Y3(M:Mk X.K C f)(F:Y6 X.prog X.w X.K X.mg X.base CX k f fd ps sp)(d:QF (k+1) X.A)(g:Gl X x)(hm:X.mg x=some (.ref C))(i:Yl X.K fd ps ds)(hd:QD yO ds)(j:US CX X E)
 (l:PA X (e::es) t) (a:(x==("__debug__":qc))=false:=by decide) (he:starEach (e::es) X.env=(false,eval e X.env)::starEach es X.env:=by rfl) (b:(backTo pos (starEach es X.env)).any (·.1)=false:=by rfl) :
 PE X (.Call (.Name x p) (e::es) [] pos) (Ll C sp yO E t):=by
 intro pins s σ H Q I h;refine zM (UZ I g hm ?_ a);refine callWith_K (h₀:=X.base) I.ok.mod.vh M.kp (zS (l pos pins s σ H _ I h) λus s1 ⟨vs,H1,c,r,q⟩=>⟨c.yz,?_⟩) he b;exact LL M F d i hd j c r q
end
structure Y5(N P:qf)(sc:Scope):Prop where
 kind:sc.kind=.function
 co:sc.isCoroutine=false
 gen:sc.isGenerator=false
 nd:N.Nodup
 pre:N.take P.length=P
 par:∀x∈P,sc.names.lookup x=some .local\/sc.names.lookup x=some .cell
 gP:∀y∈sc.names,y.2≠.free
def Bk{kindOf:qc->Option NameKind}{x:qc}:∀{binds:qb (qc×qe)}{m:qc->Option qe},(∀v,(x,v)∉binds)->bindL kindOf binds m x=m x
 |[],_,_=>rfl
 |(n,v)::r,m,h=>by
  unfold bindL;rw[Bk λw hw=>h w (qt _ hw)];split
  .have:x≠n:=by rintro rfl;exact h v qo
   simp[this]
  .rfl
theorem Bm{kindOf:qc->Option NameKind}{x:qc}:∀{binds:qb (qc×qe)}{m:qc->Option qe},(∀v,(x,v)∉binds)->bindC kindOf binds m x=m x
 |[],_,_=>rfl
 |(n,v)::r,m,h=>by
  unfold bindC;rw[Bm λw hw=>h w (qt _ hw)];split
  .rfl
  .have:x≠n:=by rintro rfl;exact h v qo
   simp[this]
theorem Bl{kindOf:qc->Option NameKind}{x:qc}{v:qe}:∀{P:qf}{vs:qh}{i:Nat}{m:qc->Option qe},P.Nodup->P[i]?=some x->vs[i]?=some v->kindOf x=some .local ->
 bindL kindOf (P.zip vs) m x=some v
 |[],_,_,_,_,h,_,_=>by simp at h
 |_::_,[],_,_,_,_,h,_=>by simp at h
 |p::P,w::vs,0,m,c,a,b,d=>by
  simp at a b;subst a;subst b;show bindL kindOf ((p,w)::P.zip vs) m p=_;unfold bindL;rw[Bk λv e=>(yh.mp c).1 (xu e).1,qG d];simp
 |p::P,w::vs,i+1,m,c,a,b,d=>by
  show bindL kindOf ((p,w)::P.zip vs) m x=_;unfold bindL;exact Bl (i:=i) (yh.mp c).2 (by simpa using a) (by simpa using b) d
theorem Bn{kindOf:qc->Option NameKind}{x:qc}{v:qe}:∀{P:qf}{vs:qh}{i:Nat}{m:qc->Option qe},P.Nodup->P[i]?=some x->vs[i]?=some v->kindOf x≠some .local ->
 bindC kindOf (P.zip vs) m x=some v
 |[],_,_,_,_,h,_,_=>by simp at h
 |_::_,[],_,_,_,_,h,_=>by simp at h
 |p::P,w::vs,0,m,c,a,b,d=>by
  simp at a b;subst a;subst b;show bindC kindOf ((p,w)::P.zip vs) m p=_;unfold bindC;rw[Bm λv e=>(yh.mp c).1 (xu e).1,qz d];simp
 |p::P,w::vs,i+1,m,c,a,b,d=>by
  show bindC kindOf ((p,w)::P.zip vs) m x=_;unfold bindC;exact Bn (i:=i) (yh.mp c).2 (by simpa using a) (by simpa using b) d
def start(N:qf)(vs:qb V):St:=vs.map some++List.replicate (N.length-vs.length) none
def Ua(CX:vj)(P:Program)(w:World)(K:Frag)(mg:qc->Option qe)(base:Heap)(N:qf)(qual:qc)(scope:Scope)(f:qd)(cd:qe)(A:Around)(outer:qb Env)(s:Shared)(H:Hp)(E:XK):Cx where
 prog:=P
 w:=w
 K:=K
 mg:=mg
 base:=base
 A:=A.deeper (envOfC qual scope s.heap.objs.size f cd)
 N:=N
 s₀:=s
 H₀:=H
 env:=envOfC qual scope s.heap.objs.size f cd
 outer:=outer
 stack:=envOfC qual scope s.heap.objs.size f cd::outer
 ex:=[]
 calm:=true
 fn:=λ_=>true
 pn:=[]
 xe:=λe s'=>wpAny (model P w) (A.deeper (envOfC qual scope s.heap.objs.size f cd)) (leaving (envOfC qual scope s.heap.objs.size f cd) e) (λ_ a=>CX outer H s E e a) (λb a=>CX outer H s E b a) s'
def DJ{sc:Scope}(h:sc.names.lookup x=some .cell):∃c,(cellsFrom n sc.names []).lookup x=some c:=by
 have q:=cellsFrom_some sc.names n [] (.inl h);exact Option.isSome_iff_exists.mp q
theorem X8{K:Frag}{N:qf}{qual:qc}{scope:Scope}{f:qd}{cd:qe}{outer:qb Env}{s s1:Shared}{E:XK}
 (S:Y5 N ps scope) (hd:A.handled=none) (g:Aw P w K mg base A outer s H) (I:vs.length=ps.length) (r:QD vs us)
 (x:InCallC s s.heap.objs.size (bindL (envOfC qual scope s.heap.objs.size f cd).kindOf (ps.zip us) λ_=>none) (cellsFrom (s.heap.objs.size+1) scope.names []) (bindC (envOfC qual scope s.heap.objs.size f cd).kindOf (ps.zip us) λ_=>none) s1) :
 Inv (Ua CX P w K mg base N qual scope f cd A outer s H E) [] (start N vs) H s1:=by
 have D:ps.length<=N.length:=by have:=q8 List.length S.pre;rw[zi] at this;omega
 obtain⟨t,J,rfl,B⟩:=x.done;have j:∀b:qd,b∉(Ua CX P w K mg base N qual scope f cd A outer s H E).ex:=λb z=>absurd (show b∈([]:qb qd) from z) (by simp);refine⟨⟨g.mod,S.kind,U,U,qp _,λy z c t d=>?_,λy l=>?_,λy c _ h=>?_,λ_=>hd,Around.frames_deeper g.frames,.inr ⟨U,U⟩,λb z=>absurd z (j b),g.bs,g.vB,λb _ _=>j b,λb z=>absurd z (j b),g.xq,g.wd⟩,
  rfl,g.bare,Un.kept B,⟨_,x.toInCall.ns,λi y v t d o=>?_⟩,λy c h=>⟨_,x.cell y c h⟩,g.hok.fresh (qp _),λy c h=>?_,λp m=>absurd (show p∈([]:qb (qd×Obj)) from m) (by simp),g.hok.kept B,?_⟩
 .exact name_of_addr x.apart (zW t) (zW d)
 .have l:scope.names.lookup y=some .cell\/scope.names.lookup y=some .free:=l;rcases l with l|l
  .exact DJ l
  .exact absurd rfl (S.gP _ (zW l))
 .exact xE (x.above y c (zW h))
 .have hi:i<vs.length:=by
   unfold start at d;by_cases hi:i<vs.length
   .exact hi
   .rw[List.getElem?_append_right (by simpa using hi)] at d;rw[List.getElem?_replicate] at d;split at d<;>cases d
  have F:vs[i]?=some v:=by
   unfold start at d;rw[List.getElem?_append_left (by simpa using hi),qC] at d
   cases e:vs[i]? with
   |none=>rw[e] at d;cases d
   |some a=>rw[e] at d;cases d;rfl
  obtain⟨u,C,G⟩:=r.get F;have m:ps[i]?=some y:=by
   rw[<-S.pre,List.getElem?_take_of_lt ⋯];exact t
  have o:ps.Nodup:=by rw[<-S.pre];exact S.nd.sublist (List.take_sublist _ _)
  refine⟨u,G,?_⟩;rcases S.par y (qL m) with k|k
  .exact .inl ⟨k,Bl o m C k⟩
  .obtain⟨c,e⟩:=DJ (n:=s.heap.objs.size+1) k;refine .inr ⟨.inl k,c,e,?_⟩;have q:=x.cell y c e;rw[Bn o m C (by show scope.names.lookup y≠_;rw[k];decide)] at q;exact q
 .exact g.hok.fresh (xE (x.above y c (zW h)))
 .unfold start;show _=N.length;rw[qm,qi,List.length_replicate];omega
def Ny{K:Frag}{k:Nat}{f:qd}{name qual:qc}{params:Arguments}{scope:Scope}{B kV doc pm a ct D:qe}{an F:Option qd}
 {l:Array (Option qe)} {N ps:qf} {sp:Sp} (lk:K.lookup f=some ⟨D,F,.func (fnOf name qual params body scope B kV doc pm an a ct),l⟩) (m:codeIn K a qual=true) (S:Y5 N ps scope)
 (len:∀vs H Q E,sp vs H Q E->vs.length=ps.length)
 (d:∀(A:Around)(outer:qb Env)(s:Shared)(H:Hp)(vs:qb V)(Q:VK)(E:XK),QF k (A.deeper (envOfC qual scope s.heap.objs.size f a))->sp vs H Q E ->
   ∃t,yV (Ua CX P w K mg base N qual scope f a A outer s H E) body t/\t {nx:=λ_ H'=>Q .non H',rt:=Q} (start N vs) H) :
 Y6 P w K mg base CX (k+1) f (fnOf name qual params body scope B kV doc pm an a ct) ps sp:=by
 refine⟨len,λA outer s H args us vs Q E p i G r j=>?_⟩;have L:=len _ _ _ _ j;have C:K.In s.heap:=i.mod.vh.keeps λb o e=>(i.bs b o e).1;have lim:s.heap.NoLimit:=i.mod.nolimit.keeps λb o e=>(i.bs b o e).1;have g:∀y∈ps.zip us,scope.names.lookup y.1=some .local\/(scope.names.lookup y.1=some .cell/\((cellsFrom (s.heap.objs.size+1) scope.names []).lookup y.1).isSome=true):=λ⟨n,v⟩ M=>by
  rcases S.par n (xu M).1 with q|q
  .exact .inl q
  .exact .inr ⟨q,cellsFrom_some _ _ _ (.inl q)⟩
 refine vX p.depth (C _ _ lk) rfl S.co S.gen rfl (codeRec_of C m) (G _ _ _ _ ?_);refine kx S.kind g λenv he s1 x=>?_;subst he;refine⟨lim.keeps x.toInCall.keep,codeAny_func ?_⟩;obtain⟨t,O,R⟩:=d A outer s H vs Q E (p.deeper _) j;have I:Inv (Ua CX P w K mg base N qual scope f a A outer s H E) [] (start N vs) H s1:=X8 S p.hd i L r x;refine zt (O [] s1 (start N vs) H _ I R) (λT s' h=>?_) λe s' h=>h;have fin:∀{c:St}{H':Hp}{v:V}{u:qe},Inv (Ua CX P w K mg base N qual scope f a A outer s H E) [] c H' s'->QL v u->Q v H'->CE outer P w H s Q u s':=
  λ{c H' v u} J z q=>⟨v,H',J.os,J.bare,J.base,J.hok,z,q⟩
 cases T with
 |ret u=>
  obtain⟨v,c,H',J,z,q⟩:=h;exact fin J z q
 |next=>
  obtain⟨c,H',J,q⟩:=h;exact fin (v:=V.non) (u:=Value.none) J rfl q
 |brk=>
  obtain⟨_,_,_,q⟩:=h;exact False.elim q
 |cont=>
  obtain⟨_,_,_,q⟩:=h;exact False.elim q
section
variable {X:Cx}{x:qc}{p pos:Pos}{e:Expr}{es:qb Expr}{t:TA}{id T:String}{r:qb V->Hp->VK->Prop}
def tCB(r:qb V->Hp->VK->Prop)(t:TA):TE:=λσ H Q=>t σ H λvs H1=>r vs H1 Q
def Qv(hc:YO X (.builtin id) r)(c:Gl X x)(hm:X.mg x=none)(d:bootBuiltins x=some (.builtin id))(f:PA X (e::es) t)(g:x≠"__name__":=by decide)(a:(x==("__debug__":qc))=false:=by decide)
 (he:starEach (e::es) X.env=(false,eval e X.env)::starEach es X.env:=by rfl) (b:(backTo pos (starEach es X.env)).any (·.1)=false:=by rfl):PE X (.Call (.Name x p) (e::es) [] pos) (tCB r t):=by
 intro pins s σ H Q I h;refine zM (Wm I c hm d ?_ g a);exact wV (zS (f pos pins s σ H _ I h) λus s1 ⟨vs,H1,i,j,k⟩=>hc pins s1 σ H1 vs us Q i j k) he b
def Yr(hc:YO X (.type T) r)(c:Gl X x)(hm:X.mg x=none)(d:bootBuiltins x=some (.type T))(f:PA X (e::es) t)(g:x≠"__name__":=by decide)(a:(x==("__debug__":qc))=false:=by decide)
 (he:starEach (e::es) X.env=(false,eval e X.env)::starEach es X.env:=by rfl) (b:(backTo pos (starEach es X.env)).any (·.1)=false:=by rfl):PE X (.Call (.Name x p) (e::es) [] pos) (tCB r t):=by
 intro pins s σ H Q I h;refine zM (Wm I c hm d ?_ g a);exact yq (zS (f pos pins s σ H _ I h) λus s1 ⟨vs,H1,i,j,k⟩=>hc pins s1 σ H1 vs us Q i j k) he b
end
end L2
namespace HT
open PySem PyProof.Rows
section
variable {prog:Program}{w:World}{A:Around}{E:qg}{s:Shared}
def jP(n d:Nat):Option Int->Nat
 |none=>d
 |some v=>if v<0 then (v+(n:Int)).toNat else min v.toNat n
theorem Se(n d:Nat)(hd:d<=n)(o:Option Int):jP n d o<=n:=by
 cases o with
 |none=>exact hd
 |some v=>
  show(if v<0 then (v+(n:Int)).toNat else min v.toNat n)<=n;by_cases a:v<0
  .rw[qG a];omega
  .rw[qz a];exact Nat.min_le_right _ _
theorem Hm(v:Int)(n d:Nat):(if v<0 then max (v+(n:Int)) 0 else min v (n:Int))=((jP n d (some v):Nat):Int):=by
 show(if v<0 then max (v+(n:Int)) 0 else min v (n:Int))=(((if v<0 then (v+(n:Int)).toNat else min v.toNat n):Nat):Int);by_cases a:v<0
 .simp only[qG a];exact(Int.toNat_eq_max _).symm
 .simp only[qz a];obtain⟨k,rfl⟩:=Int.eq_ofNat_of_zero_le (Int.not_lt.mp a);show min (k:Int) n=((min k n:Nat):Int);omega
def EV(lo hi:Option Int)(n:Nat):Builtin.Slice.sliceAdjust lo hi 1 (n:Int)=(((jP n 0 lo:Nat):Int),((jP n n hi:Nat):Int)):=by
 have a:¬((1:Int)<0):=by omega
 unfold Builtin.Slice.sliceAdjust;simp only[a,yQ];refine Prod.ext ?_ ?_
 .cases lo with
  |none=>rfl
  |some v=>exact Hm v n 0
 .cases hi with
  |none=>rfl
  |some v=>exact Hm v n n
theorem Er(i j:Nat):Builtin.Slice.slicePlaces (i:Int) (j:Int) 1=j-i:=by
 unfold Builtin.Slice.slicePlaces;have a:(1:Int) > 0:=by omega
 simp only[a,yH,Int.ediv_one];split<;>omega
def Gm{v:qe}{o:Option Int}{Q:Option Int->Shared->Prop}(p:IsPart v o)(h:Q o s):wpAny (model prog w) A (Builtin.Slice.slicePartIndex v) Q E s:=by
 cases p with
 |none=>exact slicePart_none h
 |int i t=>exact slicePart_int h
def Vq{sl:qd}{c d:qe}{lo hi:Option Int}{n:Nat}{Q:Int×Int×Nat->Shared->Prop}(e:s.heap.IsSliceOf sl c d .none)(pl:IsPart c lo)(pu:IsPart d hi)
 (h:Q (((jP n 0 lo:Nat):Int),1,jP n n hi-jP n 0 lo) s):wpAny (model prog w) A (Builtin.Slice.sliceApplied (.ref sl) (pure (n:Int))) Q E s:=by
 obtain⟨os,a,f,b⟩:=id e;unfold Builtin.Slice.sliceApplied Builtin.Slice.sliceFields;refine qj (qj (jX a b (x:=c) rfl (qj (jX a b (x:=d) rfl (qj (jX a b (x:=.none) rfl (qu ?_)))))));refine qj (slicePart_none ?_);show wpAny _ _ (if ((1:Int)==0)=true then _ else _) _ _ s;rw[qz ∅];refine qj (Gm pl (qj (Gm pu (qj (qu ?_)))));show wpAny _ _ (match Builtin.Slice.sliceAdjust lo hi 1 (n:Int) with|(lo,hi)=>pure (lo,(1:Int),Builtin.Slice.slicePlaces lo hi 1)) _ _ s;rw[EV lo hi n];show wpAny _ _ (pure (((jP n 0 lo:Nat):Int),(1:Int),Builtin.Slice.slicePlaces ((jP n 0 lo:Nat):Int) ((jP n n hi:Nat):Int) 1)) _ _ s;rw[Er];exact qu h
theorem Md(xs:Array qe)(i k:Nat):((List.range k).filterMap λ(m:Nat)=>xs[((i:Int)+(m:Int)*1).toNat]?).toArray=((xs.toList.drop i).take k).toArray:=by
 have e:(λ(m:Nat)=>xs[((i:Int)+(m:Int)*1).toNat]?)=λm=>xs[i+m]?:=by
  funext m;have:((i:Int)+(m:Int)*1).toNat=i+m:=by omega
  rw[this]
 rw[e];have:=pick_run xs i k;rw[List.filterMap_map] at this;have a:((λx=>xs[x]?)∘λx=>i+x)=λm=>xs[i+m]?:=rfl;rw[a] at this;rw[this]
theorem xV{t sl:qd}{items:Array qe}{g i:qe}{lo hi:Option Int}{Q:qg}(b:IsTup s.heap t items)(j:s.heap.IsSliceOf sl g i .none)(pl:IsPart g lo)(pu:IsPart i hi)
 (hw:¬(jP items.size 0 lo=0/\jP items.size items.size hi=items.size))
 (h:Q (.ref s.heap.objs.size) {s with heap:=s.heap.push {cls:=.type "tuple",data:=.seq ((items.toList.drop (jP items.size 0 lo)).take (jP items.size items.size hi-jP items.size 0 lo)).toArray}})
 (hsz:items.size<=sizeLine):wpAny (model prog w) A (getItem (.ref t) (.ref sl)) Q E s:=by
 have a:sizeOk (.seq ((items.toList.drop (jP items.size 0 lo)).take (jP items.size items.size hi-jP items.size 0 lo)).toArray):=by
  show((items.toList.drop (jP items.size 0 lo)).take (jP items.size items.size hi-jP items.size 0 lo)).toArray.size<=sizeLine;rw[qY,zi,qZ,qQ];omega
 have l:jP items.size items.size hi<=items.size:=Se _ _ (qp _) hi;obtain⟨os,c,d,k⟩:=id j;have e:s.TypeIs (.ref sl) "slice":=⟨os,c,d⟩;unfold getItem
 try with_reducible refine zR ?_
 first|refine qj (qu ?_)|skip
 refine qj (wpAny_sequenceKey b.typeIs ∅ ?_);refine qj (je (name:=Str.ofString "__getitem__") b.typeIs slot_tuple_getitem
  (zZ slot_tuple_getitem b.typeIs entry_tuple_getitem ?_ (args_tuple_getitem _ _)))
 show wpAny _ _ (Builtin.Tuple.tupleItemsOf (.ref t)>>=_) _ _ s;refine qj (tupleItemsOf_ b ?_);refine qj (vG e ?_);rw[qG ∅];refine qj (Vq j pl pu ?_);have f:¬((((jP items.size 0 lo:Nat):Int)==0&&(1:Int)==1&&(jP items.size items.size hi-jP items.size 0 lo)==items.size)=true):=by
  intro q;rw[qB,qB] at q;have n:((jP items.size 0 lo:Nat):Int)=0:=eq_of_beq q.1.1;have o:jP items.size items.size hi-jP items.size 0 lo=items.size:=eq_of_beq q.2;exact hw ⟨⋯,⋯⟩
 show wpAny _ _ (if (((jP items.size 0 lo:Nat):Int)==0&&(1:Int)==1&&(jP items.size items.size hi-jP items.size 0 lo)==items.size)=true then _ else _) _ _ s;rw[qz f,Md]
 first
  |exact qj (m:=Builtin.Tuple.tupleExact _) (zH (qu ⟨_,rfl,qu h⟩) a)
  |exact qj (m:=Builtin.Tuple.tupleExact _) (zH (qj (qu (qu ⟨_,rfl,qu h⟩))) a)
  |exact qj (qj (m:=Builtin.Tuple.tupleExact _) (zH (qu (qu ⟨_,rfl,qu h⟩)) a))
  |exact qj (qj (m:=Builtin.Tuple.tupleExact _) (zH (qu ⟨_,rfl,qu h⟩) a))
end
end HT
namespace L2
open PySem PySem.Spec PyProof.Rows
variable {n t':Nat}{x y:V}{u:qe}{pins:qb (qd×Obj)}{σ:St}{H H':Hp}{o:Option V}{P:Program}{w:World}{kvs:qb (qb Key×V)}{xs:qb (qb Key×qd×qe)}{a:qd}{pos:Pos}{X:Cx}
abbrev TO:=St->Hp->(Option Int->Hp->Prop)->Prop
def PO(X:Cx)(e:Option Expr)(t:TO):Prop:=
 ∀(pins:qb (qd×Obj))(s:Shared)(σ:St)(H:Hp)(Q:Option Int->Hp->Prop),Inv X pins σ H s->t σ H Q ->
  wpAny (model X.prog X.w) X.A (evalPart e X.env) (λu s'=>∃o H',Inv X pins σ H' s'/\IsPart u o/\Q o H') X.xe s
def Om:TO:=λ_ H Q=>Q none H
inductive E9(Q:(Option Int->Hp->Prop))(x:V)(H1:Hp):Prop
 |mk:∀i,x=.int i->Q (some i) H1->E9 Q x H1
def ai(t:TE):TO:=λσ H Q=>t σ H λx H1=>E9 Q x H1
section
variable {X:Cx}{e:Expr}{te:TE}{lo hi:Option Expr}{tl th:TO}{pos p2:Pos}
def Yn:PO X none Om:=by
 intro pins s σ H Q I h;rw[evalPart_none];exact qu ⟨none,H,I,.none,h⟩
def QR(h:PE X e te):PO X (some e) (ai te):=by
 intro pins s σ H Q I hw;rw[evalPart_some];refine zS (h pins s σ H _ I hw) λu s1 ⟨x,H1,a,b,c⟩=>?_;obtain⟨i,rfl,q⟩:=c;obtain⟨t,rfl⟩:=b;exact⟨some i,H1,a,.int i t,q⟩
def wQ(X:Cx)(r:V->Option Int->Option Int->Hp->VK->Prop):Prop:=
 ∀(pins:qb (qd×Obj))(s:Shared)(σ:St)(H:Hp)(x:V)(v a b:qe)(lo hi:Option Int)(sl:qd)(Q:VK),Inv X pins σ H s->QL x v->s.heap.IsSliceOf sl a b .none->IsPart a lo->IsPart b hi->r x lo hi H Q ->
  ∃T id,typeLookup (.type T) "__getitem__"=pure (some (.builtin id))/\s.TypeIs v T/\wpAny (model X.prog X.w) X.A (getItem v (.ref sl)) (EP X pins σ Q) X.xe s
def tSl(r:V->Option Int->Option Int->Hp->VK->Prop)(te:TE)(tl th:TO):TE:=λσ H Q=>te σ H λx H1=>tl σ H1 λl H2=>th σ H2 λu a=>r x l u a Q
def QT{r:V->Option Int->Option Int->Hp->VK->Prop}(f:wQ X r)(he:PE X e te)(g:PO X lo tl)(i:PO X hi th):PE X (.Subscript e (.Slice lo hi none p2) pos) (tSl r te tl th):=by
 intro pins s σ H Q I h;refine Subscript_ (zS (he pins s σ H _ I h) λv s1 ⟨x,H1,j,k,m⟩=>?_);refine wpAny_Slice (zS (g pins s1 σ H1 _ j m) λa s2 ⟨l,H2,n,pl,o⟩=>zS (i pins s2 σ H2 _ n o) λc s3 ⟨u,d,p,pu,t⟩=>?_);rw[evalPart_none];refine qu ?_;have w:Inv X pins σ d {s3 with heap:=s3.heap.push {cls:=.type "slice",data:=.fields #[a,c,.none]}}:=p.kept (t':=s3.toks) λb B q=>qk _ q;obtain⟨T,id,y,z,A⟩:=f pins {s3 with heap:=s3.heap.push {cls:=.type "slice",data:=.fields #[a,c,.none]}} σ d x v a c l u s3.heap.objs.size Q w k (Heap.IsSliceOf.new ..) pl pu t;show wpAny (model X.prog X.w) X.A (subscriptTail e (.Slice lo hi none p2) v (.ref s3.heap.objs.size)) (EP X pins σ Q) X.xe {s3 with heap:=s3.heap.push {cls:=.type "slice",data:=.fields #[a,c,.none]}};exact tail_any (ops:=[.ref s3.heap.objs.size,v]) z y A (by with_unfolding_all rfl)
def Ub(xs:qb V)(lo hi:Option Int):qb V:=(xs.drop (HT.jP xs.length 0 lo)).take (HT.jP xs.length xs.length hi-HT.jP xs.length 0 lo)
theorem Ku(xs:qb V)(lo hi:Option Int):(Ub xs lo hi).length<=xs.length:=by
 unfold Ub;rw[zi,qZ];omega
inductive LR(K:Frag)(x:V)(lo:Option Int)(hi:Option Int)(H:Hp)(Q:VK):Prop
 |mk:∀a xs,x=.ref a->zu K H a xs->¬(HT.jP xs.length 0 lo=0/\HT.jP xs.length xs.length hi=xs.length)->(∀p,H p=none->Q (.ref p) (upd H p (.tup (Ub xs lo hi))))->LR K x lo hi H Q
def rSlT(K:Frag):V->Option Int->Option Int->Hp->VK->Prop:=λx lo hi H Q=>LR K x lo hi H Q
def Sa:wQ X (rSlT X.K):=by
 intro pins s σ H x v g i lo hi sl Q I d e pl pu h;obtain⟨a,xs,rfl,f,hw,q⟩:=h;cases d;obtain⟨its,r,c,hz⟩:=I.tuple f;have hlen:its.toArray.size=xs.length:=by rw[qY];exact r.length.symm
 refine⟨"tuple",_,slot_tuple_getitem.lookup,c.typeIs,?_⟩;refine HT.xV c e pl pu (by rw[hlen];exact hw) ?_ (by rw[hlen];exact hz);rw[hlen];refine⟨.ref s.heap.objs.size,_,I.laid (t':=s.toks) (o:=.tup (Ub xs lo hi)) (λb j q=>qk _ q) (qp _) ?_,U,q _ (I.hok.fresh (qp _))⟩;exact⟨qO (Ku xs lo hi) hz,_,(r.drop (HT.jP xs.length 0 lo)).take (HT.jP xs.length xs.length hi-HT.jP xs.length 0 lo),IsTup.new _ _⟩
end
def wD(n:Nat)(i:Int):Option Nat:=if 0<=i then (if i<n then some i.toNat else none) else if -(n:Int)<=i then some (i+n).toNat else none
def xX{α:Type}(xs:qb α)(i:Int):Option α:=(wD xs.length i).bind λj=>xs[j]?
theorem Pj{i:Int}{j:Nat}(h:wD n i=some j):seqIndex? i n=some j/\j<n/\-(n:Int)<=i/\i<n:=by
 unfold wD at h;by_cases h0:0<=i
 .rw[qG h0] at h;by_cases a:i<n
  .rw[qG a] at h;have e:i.toNat=j:=za h;exact⟨by rw[seqIndex_of h0 a,e],⋯,⋯,a⟩
  .rw[qz a] at h;cases h
 .rw[qz h0] at h;by_cases a : -(n:Int)<=i
  .rw[qG a] at h;have e:(i+n).toNat=j:=za h;exact⟨by rw[seqIndex_neg ⋯ a,e],⋯,a,⋯⟩
  .rw[qz a] at h;cases h
def B9{α:Type}{xs:qb α}{i:Int}{v:α}(h:xX xs i=some v):∃j,seqIndex? i xs.length=some j/\xs[j]?=some v/\j<xs.length/\-(xs.length:Int)<=i/\i<xs.length:=by
 unfold xX at h
 cases e:wD xs.length i with
 |none=>rw[e] at h;cases h
 |some j=>
  rw[e] at h;obtain⟨a,b,c,d⟩:=Pj e;exact⟨j,a,h,b,c,d⟩
theorem QB{α:Type}{xs:qb α}{j:Nat}{v:α}(h:xs[j]?=some v):xX xs (j:Int)=some v:=by
 have a:j<xs.length:=(qJ.mp h).1;have e:wD xs.length (j:Int)=some j:=by
  unfold wD;rw[qG ⋯,qG ⋯];simp
 unfold xX;rw[e];exact h
theorem XG{α:Type}(xs:qb α)(v:α):xX (xs++[v]) (-1)=some v:=by
 have a:(xs++[v]).length=xs.length+1:=by simp
 have e:wD (xs++[v]).length (-1)=some xs.length:=by
  unfold wD;rw[a,qz ∅,qG ⋯];congr 1;omega
 unfold xX;rw[e];show(xs++[v])[xs.length]?=some v;simp
def PY(b:Expr):Prop:=∀o i,subscripted b false o i=operate [o,i] (getItem o i)
def IxR(X:Cx)(r:R2):Prop:=
 ∀(value slice:Expr)(pins:qb (qd×Obj))(s:Shared)(σ:St)(H:Hp)(x y:V)(v u:qe)(Q:VK),Inv X pins σ H s->QL x v->QL y u->r x y H Q ->
  subscripted slice false v u=operate [v,u] (getItem v u)->wpAny (model X.prog X.w) X.A (subscriptTail value slice v u) (EP X pins σ Q) X.xe s
def vz(X:Cx)(id:String)(r:V->qb V->Hp->VK->Prop):Prop:=
 ∀(pins:qb (qd×Obj))(s:Shared)(σ:St)(H:Hp)(x:V)(xs:qb V)(v:qe)(us:qh)(Q:VK),Inv X pins σ H s->QL x v->QD xs us->r x xs H Q ->
  wpAny (model X.prog X.w) X.A (call (.builtin id) (v::us)) (EP X pins σ Q) X.xe s
section
variable {X:Cx}{a b:Expr}{ta tb:TE}{pos:Pos}
def Qp{r:R2}(c:IxR X r)(d:PE X a ta)(e:PE X b tb)(f:PY b:=by exact λ_ _=>rfl):PE X (.Subscript a b pos) (tOp r ta tb):=by
 intro pins s σ H Q I h;exact Subscript_ (Tp d e I h λv u s2 x y H2 g i j q=>c a b pins s2 σ H2 x y v u Q g i j q (f _ _))
inductive LZ(K:Frag)(x:V)(y:V)(H:Hp)(Q:VK):Prop
 |mk:∀p xs i v,x=.ref p->y=.int i->zm K H p xs->xX xs i=some v->Q v H->LZ K x y H Q
def rIxL(K:Frag):R2:=λx y H Q=>LZ K x y H Q
inductive LX(K:Frag)(x:V)(y:V)(H:Hp)(Q:VK):Prop
 |mk:∀p xs i v,x=.ref p->y=.int i->zu K H p xs->xX xs i=some v->Q v H->LX K x y H Q
def bz(K:Frag):R2:=λx y H Q=>LX K x y H Q
inductive LY(x:V)(y:V)(H:Hp)(Q:VK):Prop
 |mk:∀z i c,x=.str z->y=.int i->z.length<=sizeLine->xX z.cps.toList i=some c->Q (.str ⟨#[c]⟩) H->LY x y H Q
def rIxS:R2:=λx y H Q=>LY x y H Q
theorem Qs:IxR X (rIxL X.K):=by
 intro value slice pins s σ H x y v u Q I f g h d;obtain⟨p,xs,i,z,rfl,rfl,k,he,q⟩:=h;cases f;obtain⟨t,rfl⟩:=g;obtain⟨its,r,pl,hz⟩:=I.list k;obtain⟨j,a,l,A,m,n⟩:=B9 he;obtain⟨w,e,b⟩:=r.get l;have o:=r.length;have B:=GW;have fin:EP X pins σ Q w s:=⟨z,H,I,b,q⟩;by_cases h0:0<=i
 .have c:i.toNat=j:=by
   rw[seqIndex_of h0 n] at a;exact za a
  exact item_listR pl.isList h0 ⋯ (by rw[c];simpa using e) fin d
 .have c:(i+(its.toArray.size:Int)).toNat=j:=by
   rw[seqIndex_neg ⋯ m] at a;rw[qY,<-o];exact za a
  exact subscriptTail_builtinR (x:=w) pl.isList.typeIs slot_list_getitem.lookup
   (wpAny_getItem_list_neg (Q:=λr s'=>r=w/\EP X pins σ Q r s') pl.isList ⋯ (by rw[qY]<;>omega) ⋯ (by rw[c];simpa using e) ⟨U,fin⟩) d
theorem Qt:IxR X (bz X.K):=by
 intro value slice pins s σ H x y v u Q I b c h d;obtain⟨p,xs,i,z,rfl,rfl,e,he,q⟩:=h;cases b;obtain⟨t,rfl⟩:=c;obtain⟨its,r,pl,hz⟩:=I.tuple e;obtain⟨j,f,g,m,n,o⟩:=B9 he;obtain⟨w,k,a⟩:=r.get g;have l:=r.length;have A:=GW;have fin:EP X pins σ Q w s:=⟨z,H,I,a,q⟩;exact subscriptTail_builtinR (x:=w) pl.typeIs slot_tuple_getitem.lookup
  (getItem_tuple (j:=j) (Q:=λr s'=>r=w/\EP X pins σ Q r s') pl ⋯ ⋯ (by rw[qY,<-l];exact f) (by simpa using k) ⟨U,fin⟩) d
theorem Ng:IxR X rIxS:=by
 intro value slice pins s σ H x y v u Q I b d h e;obtain⟨z,i,c,rfl,rfl,hz,he,q⟩:=h;obtain⟨t,rfl⟩:=b;obtain⟨t',rfl⟩:=d;obtain⟨j,a,f,n,g,k⟩:=B9 he;have l:z.cps.toList.length=z.length:=by simp[Str.length]
 rw[l] at a g k;have o:=GW;exact tail_any (xF s z t) slot_str_getitem.lookup (getItem_str (c:=c) (by
  have e1:decide (i < -(2^63:Int))=false:=qr ⋯;have m:decide (i>=2^63)=false:=qr ⋯;rw[e1,m,Bool.or_false]) (by rw[a];simpa using f) ⟨.str ⟨#[c]⟩,H,I.tok _,⟨_,U⟩,q⟩) e
theorem bqq(i:Int)(n:Nat):max 0 (min (if i<0 then i+n else i) n)=((if i<0 then (i+n).toNat else min i.toNat n:Nat):Int):=by
 by_cases h:i<0
 .rw[qG h,qG h,Int.min_eq_left ⋯,Int.max_comm];exact(Int.toNat_eq_max _).symm
 .rw[qz h,qz h];obtain⟨k,rfl⟩:=Int.eq_ofNat_of_zero_le (Int.not_lt.mp h);show max 0 (min (k:Int) n)=((min k n:Nat):Int);omega
theorem BB(lo hi:Option Int)(n:Nat):(sliceBounds lo hi none n).1=((HT.jP n 0 lo:Nat):Int)/\(sliceBounds lo hi none n).2.1=((HT.jP n n hi:Nat):Int)/\(sliceBounds lo hi none n).2.2=1:=by
 refine⟨?_,?_,U⟩
 .cases lo with
  |none=>simp[sliceBounds,HT.jP]
  |some i=>
   simp only[sliceBounds,HT.jP,Option.getD_none,show(1:Int) > 0 by decide,yH];exact bqq i n
 .cases hi with
  |none=>simp[sliceBounds,HT.jP]
  |some i=>
   simp only[sliceBounds,HT.jP,Option.getD_none,show(1:Int) > 0 by decide,yH];exact bqq i n
def Ao(its:qh)(lo hi:Option Int):slicePick its.toArray lo hi none=((its.drop (HT.jP its.length 0 lo)).take (HT.jP its.length its.length hi-HT.jP its.length 0 lo)).toArray:=by
 obtain⟨a,b,c⟩:=BB lo hi its.toArray.size;unfold slicePick;rw[a,b,c];simp only[sliceRange_one,pick_run,qY]<;>rfl
inductive LS(K:Frag)(x:V)(lo:Option Int)(hi:Option Int)(H:Hp)(Q:VK):Prop
 |mk:∀a xs,x=.ref a->zm K H a xs->(∀p,H p=none->Q (.ref p) (upd H p (.lst (Ub xs lo hi))))->LS K x lo hi H Q
def bt(K:Frag):V->Option Int->Option Int->Hp->VK->Prop:=λx lo hi H Q=>LS K x lo hi H Q
def Xo:wQ X (bt X.K):=by
 intro pins s σ H x v g i lo hi sl Q I d e pl pu h;obtain⟨a,xs,rfl,f,q⟩:=h;cases d;obtain⟨its,r,c,hz⟩:=I.list f;have hlen:=r.length;refine⟨"list",_,slot_list_getitem.lookup,c.isList.typeIs,?_⟩;refine wpAny_getItem_list_slice c.isList e pl pu .none (by simp) ?_ (by rw[qY]<;>omega);rw[Ao,<-hlen];refine⟨.ref s.heap.objs.size,_,I.laid (t':=s.toks) (o:=.lst (Ub xs lo hi)) (λb j q=>qk _ q) (qp _) ?_,U,q _ (I.hok.fresh (qp _))⟩;exact⟨qO (Ku xs lo hi) hz,_,0,(r.drop (HT.jP xs.length 0 lo)).take (HT.jP xs.length xs.length hi-HT.jP xs.length 0 lo),qK _ rfl⟩
def XC:V->Bool
 |.non=>true
 |.bl _=>true
 |.int _=>true
 |.str _=>true
 |_=>false
def gr:V->V->Bool
 |.non,.non=>true
 |.bl a,.bl b=>a==b
 |.bl a,.int b=>(if a then 1 else 0)==b
 |.int a,.bl b=>a==(if b then 1 else 0)
 |.int a,.int b=>a==b
 |.str a,.str b=>a==b
 |_,_=>false
def Tf{A:Around}{s:Shared}{v:qe}(d:QL y u)(c:QL x v)(e:XC y=true)(fx:XC x=true):SeqAt.EqAt A s u v (gr y x):=by
 cases y with
 |non=>
  cases d
  cases x with
  |non=>cases c;exact SeqAt.EqAt.same _
  |bl b=>cases c;exact SeqAt.EqAt.none_bool b
  |int b=>obtain⟨t,rfl⟩:=c;exact SeqAt.EqAt.none_int b t
  |str b=>obtain⟨t,rfl⟩:=c;exact SeqAt.EqAt.none_str b t
  |_=>exact absurd (show false=true from fx) qS
 |bl a=>
  cases d
  cases x with
  |non=>cases c;exact SeqAt.EqAt.bool_none a
  |bl b=>cases c;exact SeqAt.EqAt.bool_bool a b
  |int b=>obtain⟨t,rfl⟩:=c;exact SeqAt.EqAt.bool_int a b t
  |str b=>obtain⟨t,rfl⟩:=c;exact SeqAt.EqAt.bool_str a b t
  |_=>exact absurd (show false=true from fx) qS
 |int a=>
  obtain⟨t',rfl⟩:=d
  cases x with
  |non=>cases c;exact SeqAt.EqAt.int_none a t'
  |bl b=>cases c;exact SeqAt.EqAt.int_bool a t' b
  |int b=>obtain⟨t,rfl⟩:=c;exact SeqAt.EqAt.int_int a t' b t
  |str b=>obtain⟨t,rfl⟩:=c;exact SeqAt.EqAt.int_str a t' b t
  |_=>exact absurd (show false=true from fx) qS
 |str a=>
  obtain⟨t',rfl⟩:=d
  cases x with
  |non=>cases c;exact SeqAt.EqAt.str_none a t'
  |bl b=>cases c;exact SeqAt.EqAt.str_bool a t' b
  |int b=>obtain⟨t,rfl⟩:=c;exact SeqAt.EqAt.str_int a t' b t
  |str b=>obtain⟨t,rfl⟩:=c;exact SeqAt.EqAt.str_str a t' b t
  |_=>exact absurd (show false=true from fx) qS
 |_=>exact absurd (show false=true from e) qS
def vO(x:V)(u:qe):Bool:=match u with
 |.none=>gr .non x
 |.bool b=>gr (.bl b) x
 |.int i _=>gr (.int i) x
 |.str z _=>gr (.str z) x
 |_=>false
def NC(r:QL y u)(f:XC y=true):vO x u=gr y x:=by
 cases y with
 |non=>cases r;rfl
 |bl b=>cases r;rfl
 |int i=>obtain⟨t,rfl⟩:=r;rfl
 |str z=>obtain⟨t,rfl⟩:=r;rfl
 |_=>exact absurd (show false=true from f) qS
theorem XI{x:V}:∀{xs:qb V}{us:qh},QD xs us->xs.all XC=true->us.any (vO x)=xs.any λy=>gr y x
 |_,_,.nil,_=>rfl
 |y::xs,u::us,.cons r t,f=>by
  rw[List.all_cons,qB] at f;rw[ym,ym,NC r f.1,XI t f.2]
theorem Wk{A:Around}{s:Shared}{x:V}{v:qe}(b:QL x v)(fx:XC x=true):∀{xs:qb V}{us:qh},QD xs us->xs.all XC=true->∀u∈us,SeqAt.EqAt A s u v (vO x u)
 |_,_,.nil,_=>λu a=>by cases a
 |y::xs,u::us,.cons r t,f=>λc a=>by
  rw[List.all_cons,qB] at f;rcases qy.mp a with rfl|a
  .rw[NC r f.1];exact Tf r b f.1 fx
  .exact Wk b fx t f.2 c a
def inV(x:V)(xs:qb V):Bool:=xs.any λy=>gr y x
inductive Rn(K:Frag)(neg:Bool)(x:V)(y:V)(H:Hp)(Q:VK):Prop
 |mk:∀p xs,y=.ref p->(zm K H p xs\/zu K H p xs)->XC x=true->xs.all XC=true->Q (.bl (if neg then !inV x xs else inV x xs)) H->Rn K neg x y H Q
def rIn(K:Frag)(neg:Bool):R2:=λx y H Q=>Rn K neg x y H Q
def Vv:xf X (compareOp .In) (rIn X.K false):=by
 intro pins s σ H x y v u Q I c d h;obtain⟨p,xs,rfl,a,fx,b,q⟩:=h;cases d;rcases a with a|a
 .obtain⟨its,r,pl,hz⟩:=I.list a;refine SeqAt.in_listAt (vO x) pl.isList (λw hw=>Wk c fx r b w (by simpa using hw)) ⟨.bl _,H,I,U,?_⟩;rw[show its.toArray.any (vO x)=its.any (vO x) by simp,XI r b];exact q
 .obtain⟨its,r,pl,hz⟩:=I.tuple a;refine SeqAt.in_tupleAt (vO x) pl (λw hw=>Wk c fx r b w (by simpa using hw)) ⟨.bl _,H,I,U,?_⟩;rw[show its.toArray.any (vO x)=its.any (vO x) by simp,XI r b];exact q
def UY:xf X (compareOp .NotIn) (rIn X.K true):=by
 intro pins s σ H x y v u Q I c d h;obtain⟨p,xs,rfl,a,fx,b,q⟩:=h;cases d;rcases a with a|a
 .obtain⟨its,r,pl,hz⟩:=I.list a;refine SeqAt.notIn_listAt (vO x) pl.isList (λw hw=>Wk c fx r b w (by simpa using hw)) ⟨.bl _,H,I,U,?_⟩;rw[show its.toArray.any (vO x)=its.any (vO x) by simp,XI r b];exact q
 .obtain⟨its,r,pl,hz⟩:=I.tuple a;refine SeqAt.notIn_tupleAt (vO x) pl (λw hw=>Wk c fx r b w (by simpa using hw)) ⟨.bl _,H,I,U,?_⟩;rw[show its.toArray.any (vO x)=its.any (vO x) by simp,XI r b];exact q
theorem QQ:YO X (.builtin "len") (λxs H Q=>∃p ys,xs=[.ref p]/\(zm X.K H p ys\/zu X.K H p ys)/\Q (.int ys.length) H):=by
 intro pins s σ H xs us Q I r h;obtain⟨p,ys,rfl,a,q⟩:=h;obtain⟨u,rfl,c⟩:=Ul r;cases c;have d:=GW;rcases a with a|a
 .obtain⟨its,b,pl,hz⟩:=I.list a;have hlen:=b.length;exact Calls.call_len_list pl.isList (by simp only[qY]<;>omega) ⟨.int ys.length,H,I.tok _,⟨s.toks+1,by rw[qY,hlen]⟩,q⟩
 .obtain⟨its,b,pl,hz⟩:=I.tuple a;have hlen:=b.length;exact len_tuple pl (by simp only[qY]<;>omega) ⟨.int ys.length,H,I.tok _,⟨s.toks+1,by rw[qY,hlen]⟩,q⟩
theorem U0:YO X (.builtin "len") (λxs H Q=>∃z,xs=[.str z]/\z.length<=sizeLine/\Q (.int z.length) H):=by
 intro pins s σ H xs us Q I r h;obtain⟨z,rfl,hz,q⟩:=h;obtain⟨u,rfl,t,rfl⟩:=Ul r;have a:=GW;exact len_str ⋯ ⟨.int z.length,H,I.tok _,⟨_,U⟩,q⟩
def XF:YO X (.type "list") (λxs H Q=>∃p ys,xs=[.ref p]/\(zm X.K H p ys\/zu X.K H p ys)/\∀l,H l=none->Q (.ref l) (upd H l (.lst ys))):=by
 intro pins s σ H xs us Q I r h;obtain⟨p,ys,rfl,d,q⟩:=h;obtain⟨u,rfl,j⟩:=Ul r;cases j;have fin:∀(its:qh),QD ys its->ys.length<=sizeLine->∀(h':Heap)(a:Nat),(∀b i,s.heap.get? b=some i->h'.get? b=some i) ->
  h'.get? s.heap.objs.size=some {cls:=.type "list",dict:=none,data:=.seq its.toArray a,slots:=#[]}->EP X pins σ Q (.ref s.heap.objs.size) {s with heap:=h'}:=λits c hz h' a f e=>
  ⟨.ref s.heap.objs.size,_,I.laid (t':=s.toks) f (qp _) (show QY X.prog X.w _ h' _ (.lst ys) from⟨hz,its,a,c,e⟩),U,q _ (I.hok.fresh (qp _))⟩
 rcases d with d|d
 .obtain⟨its,c,pl,hz⟩:=I.list d;have hlen:=c.length;obtain⟨o,g,hc,n,hd⟩:=pl.isList;exact call_list_seq p (.inl rfl) g hc hd (λh' a f e=>fin its c hz h' a f e) (by simp only[qY]<;>omega)
 .obtain⟨its,c,pl,hz⟩:=I.tuple d;have hlen:=c.length;obtain⟨o,g,hc,n,hd⟩:=pl;exact call_list_seq p (.inr rfl) g hc hd (λh' a f e=>fin its c hz h' a f e) (by simp only[qY]<;>omega)
def Ap:YO X (.type "tuple") (λxs H Q=>∃p ys,xs=[.ref p]/\((zm X.K H p ys/\∀l,H l=none->Q (.ref l) (upd H l (.tup ys)))\/(zu X.K H p ys/\Q (.ref p) H))):=by
 intro pins s σ H xs us Q I r h;obtain⟨p,ys,rfl,h⟩:=h;obtain⟨u,rfl,f⟩:=Ul r;cases f;rcases h with⟨a,q⟩|⟨a,q⟩
 .obtain⟨its,c,pl,hz⟩:=I.list a;have hlen:=c.length;refine call_tuple_list pl.isList (λh' g=>?_) (by simp only[qY]<;>omega);have d:Inv X pins σ H {s with heap:=h'}:=I.kept (t':=s.toks) g;have i:Inv X pins σ (upd H h'.objs.size (.tup ys)) {s with heap:=h'.push {cls:=.type "tuple",data:=.seq its.toArray}}:=
   d.laid (t':=s.toks) (λb o e=>qk _ e) (qp _) (show QY X.prog X.w _ _ _ (.tup ys) from⟨hz,its,c,IsTup.new _ _⟩)
  exact⟨.ref h'.objs.size,_,i,U,q _ (d.hok.fresh (qp _))⟩
 .obtain⟨its,c,pl,hz⟩:=I.tuple a;exact call_tuple_same pl ⟨.ref p,H,I,U,q⟩
def tyV(K:Frag)(T:String)(x:V)(H:Hp):Prop:=match x with
 |.str _=>T="str"
 |.int _=>T="int"
 |.ref p=>(T="list"/\∃xs,zm K H p xs)\/(T="tuple"/\∃o,K.lookup p=some o/\o.cls=.type "tuple"/\o.dict=none) \/
   (T="dict"/\((∃kvs,H p=some (.dK kvs))\/∃kvs,H p=some (.dT kvs)))\/(T="set"/\∃S n,H p=some (.set S n))
 |_=>False
def D7{s:Shared}{T:String}{v:qe}(I:Inv X pins σ H s)(r:QL x v)(ty:tyV X.K T x H) :
 s.TypeIs v T/\∀a,v=.ref a->∃f,s.heap.get? a=some f/\f.dict=none:=by
 cases x with
 |str z=>
  obtain⟨t,rfl⟩:=r;cases (show T="str" from ty);exact⟨xF s z t,λ_ e=>nomatch e⟩
 |int i=>
  obtain⟨t,rfl⟩:=r;cases (show T="int" from ty);exact⟨typeIs_int s i t,λ_ e=>nomatch e⟩
 |ref p=>
  cases r;rcases ty with⟨rfl,xs,g⟩|⟨rfl,o,b,hc,hd⟩|⟨rfl,b⟩|⟨rfl,S,n,b⟩
  .obtain⟨its,_,pl,_⟩:=I.list g;refine⟨pl.isList.typeIs,λa e=>?_⟩;cases e;obtain⟨o,n,e,c,hd,_⟩:=pl;exact⟨o,e,hd⟩
  .refine⟨⟨o,I.yz p o b,hc⟩,λa e=>?_⟩;cases e;exact⟨o,I.yz _ o b,hd⟩
  .have z:∃o,s.heap.get? p=some o/\o.ExactDict:=by
    rcases b with⟨kvs,b⟩|⟨kvs,b⟩
    .obtain⟨_,_,_,_,o,_,_,e,ex,_⟩:=I.hok p _ b;exact⟨o,e,ex⟩
    .obtain⟨_,_,_,_,o,_,_,e,ex,_⟩:=I.hok p _ b;exact⟨o,e,ex⟩
   obtain⟨o,e,ex⟩:=z;refine⟨⟨o,e,ex.1⟩,λa d=>?_⟩;cases d;exact⟨o,e,ex.2.1⟩
  .obtain⟨o,_,_,_,e,ex,_⟩:=I.hok p _ b;refine⟨⟨o,e,ex.1⟩,λa d=>?_⟩;cases d;exact⟨o,e,ex.2.1⟩
 |_=>exact False.elim ty
def ay(K:Frag)(T:String)(r:V->qb V->Hp->VK->Prop)(to:TE):TE:=λσ H Q=>to σ H λx H1=>tyV K T x H1/\r x [] H1 Q
def tBM(K:Frag)(T:String)(r:V->qb V->Hp->VK->Prop)(to:TE)(t:TA):TE:=λσ H Q=>to σ H λx H1=>tyV K T x H1/\t σ H1 λxs H2=>r x xs H2 Q
variable {o e:Expr}{es:qb Expr}{to:TE}{t:TA}{name:qc}{apos cpos:Pos}{T id:String}{r:V->qb V->Hp->VK->Prop}
def GF(f:PlainAttrs T)(slot:Slot T name id)(c:typeOf (.builtin id)=pure (.type "method_descriptor"))(hm:vz X id r)(g:PE X o to)
 (a:attributeBase o name X.env (eval o X.env)=eval o X.env:=by rfl) (b:(apos.endLine==cpos.line)=true:=by rfl):PE X (.Call (.Attribute o name apos) [] [] cpos) (ay X.K T r to):=by
 intro pins s σ H Q I h;refine wpAny_Call_method0_late a b (zS (g pins s σ H _ I h) λv s1 ⟨x,H1,d,e,ty,i⟩=>?_);obtain⟨j,k⟩:=D7 d e ty;exact⟨T,id,f,slot,c,j,k,jA rfl (PySem.evalArgs_none (hm pins s1 σ H1 x [] v [] Q d e .nil i))⟩
def Ue(j:PlainAttrs T)(slot:Slot T name id)(d:typeOf (.builtin id)=pure (.type "method_descriptor"))(hm:vz X id r)(k:PE X o to)(l:PA X (e::es) t)
 (a:attributeBase o name X.env (eval o X.env)=eval o X.env:=by rfl)
 (c:((backTo cpos (starEach (e::es) X.env)).all (λx=>!x.1)&&(backToKw cpos (keywordEach [] X.env)).all (λx=>x.1.isSome)
   &&decide ((e::es).length+([]:qb Keyword).length+(if ([]:qb Keyword).isEmpty then 0 else 1)<30))=true:=by rfl)
 (b:(apos.endLine==cpos.line)=true:=by rfl) (m:starEach (e::es) X.env=(false,eval e X.env)::starEach es X.env:=by rfl) (hplain:(backTo cpos (starEach es X.env)).any (·.1)=false:=by rfl) :
 PE X (.Call (.Attribute o name apos) (e::es) [] cpos) (tBM X.K T r to t):=by
 intro pins s σ H Q I h;refine vH a c b rfl (zS (k pins s σ H _ I h) λv s1 ⟨x,H1,f,g,ty,n⟩=>?_);obtain⟨p,q⟩:=D7 f g ty;refine⟨T,id,j,slot,d,p,q,?_⟩;have i:=l cpos pins s1 σ H1 _ f n;rw[m] at i⊢;refine jA (by show(false||(backTo cpos (starEach es X.env)).any (·.1))=false;rw[hplain]<;>rfl) (jY ?_);exact zS i λus s2 ⟨vs,H2,u,w,y⟩=>hm pins s2 σ H2 x vs v us Q u g w y
end
def MtM(X:Cx)(id:String)(r:V->qb V->Hp->VK->Prop):Prop:=
 ∀(pins:qb (qd×Obj))(s:Shared)(σ:St)(H:Hp)(x:V)(xs:qb V)(v:qe)(us:qh)(Q:VK),Inv X pins σ H s->QL x v->QD xs us->r x xs H Q ->
  wpAny (model X.prog X.w) X.A (call (.builtin id) (v::us)) (EP X pins σ Q) X.xe s
def QD.one:∀{x:V}{us:qh},QD [x] us->∃u,us=[u]/\QL x u
 |_,_,.cons r .nil=>⟨_,U,r⟩
def QD.rep{xs:qb V}{us:qh}(h:QD xs us):∀k:Nat,QD (List.replicate k xs).flatten (List.replicate k us).flatten
 |0=>.nil
 |k+1=>by
  rw[jM,jM,jS,jS];exact QD.append h (QD.rep h k)
theorem A6(its:qh):∀(k:Nat)(acc:qh),
 List.foldl (λa b=>a++b) acc.toArray (List.replicate k its.toArray)=(acc++(List.replicate k its).flatten).toArray
 |0,acc=>by simp
 |k+1,acc=>by
  have e:acc.toArray++its.toArray=(acc++its).toArray:=by simp
  have c:(acc++its)++(List.replicate k its).flatten=acc++(List.replicate (k+1) its).flatten:=by
   rw[jM,jS,zh]
  rw[<-c,<-A6 its k (acc++its),<-e,jM,jw]
section
variable {X:Cx}{pins:qb (qd×Obj)}{σ:St}{H:Hp}{s:Shared}{l b:qd}{xs ys zs:qb V}
def Inv.lset{its its':qh}{f:Array qe->Array qe}(I:Inv X pins σ H s)(a:H l=some (.lst xs))
 (e:s.heap.get? l=some {cls:=.type "list",data:=.seq its.toArray n}) (hf:f its.toArray=its'.toArray) (b:QD ys its') (hz:ys.length<=sizeLine) :
 Inv X pins σ (upd H l (.lst ys)) {s with heap:=s.heap.update l (Obj.mapSeq f),toks:=t'}:=by
 have q:=PySem.IsL.update e f;rw[hf] at q;refine I.write (x:=l) (e:=l) (by rw[a];exact trivial) (.inl rfl) (λg u c d=>(zv s.heap (Obj.mapSeq f) (jy c)).trans d) ⟨_,q⟩ ?_;exact⟨hz,its',_,b,q⟩
def Inv.vM{its:qh}(I:Inv X pins σ H s)(a:QD ys its)(hz:ys.length<=sizeLine) :
 Inv X pins σ (upd H s.heap.objs.size (.lst ys)) {s with heap:=s.heap.push {cls:=.type "list",data:=.seq its.toArray},toks:=t'}:=
 I.laid (λ_ _ q=>qk _ q) (qp _) ⟨hz,its,0,a,qK _ rfl⟩
def Inv.fresh(I:Inv X pins σ H s):H s.heap.objs.size=none:=I.hok.fresh (qp _)
def Inv.wC(I:Inv X pins σ H s)(a:H l=some (.lst xs)):xs.length<=sizeLine/\∃(its:qh)(n:Nat),QD xs its/\xs.length=its.length/\s.heap.get? l=some {cls:=.type "list",data:=.seq its.toArray n}:=by
 obtain⟨z,its,n,r,e⟩:=I.hok l _ a;exact⟨z,its,n,r,r.length,e⟩
def MW(h:n<=sizeLine):Builtin.List.listTooLong n=false:=by
 unfold Builtin.List.listTooLong;exact qr ⋯
end
section
variable {X:Cx}
inductive AN(x:V)(vs:qb V)(H:Hp)(Q:VK):Prop
 |mk:∀l xs y,x=.ref l->vs=[y]->H l=some (.lst xs)->xs.length<sizeLine->Q .non (upd H l (.lst (xs++[y])))->AN x vs H Q
def OH:V->qb V->Hp->VK->Prop:=λx vs H Q=>AN x vs H Q
theorem Q8:MtM X "list.append" OH:=by
 intro pins s σ H x vs v us Q I b c h;obtain⟨l,xs,y,rfl,rfl,a,hz,q⟩:=h;cases b;obtain⟨u,rfl,d⟩:=c.one;obtain⟨z,its,n,r,f,e⟩:=I.wC a;refine xG F.slot_list_append ⟨_,e,U⟩ F.entry_list_append (F.args_list_append_2 _ _) (PySem.list_append l its.toArray n u (by rw[qY];omega)) ⟨e,?_⟩;refine⟨.non,_,I.lset (its':=its++[u]) a e (by simp) (r.append (.cons d .nil)) ?_,U,q⟩;rw[qm,ql];omega
inductive L3(x:V)(y:V)(H:Hp)(Q:VK):Prop
 |mk:∀l b xs zs,x=.ref l->y=.ref b->H l=some (.lst xs)->H b=some (.lst zs)->xs.length+zs.length<=sizeLine->(∀p,H p=none->Q (.ref p) (upd H p (.lst (xs++zs))))->L3 x y H Q
def rCat:R2:=λx y H Q=>L3 x y H Q
theorem Mz:xf X (binaryOp .Add) rCat:=by
 intro pins s σ H x y v u Q I c d h;obtain⟨l,b,xs,zs,rfl,rfl,f,g,hz,q⟩:=h;cases c;cases d;obtain⟨z,its,n,r,o,e⟩:=I.wC f;obtain⟨p,a,t,i,j,k⟩:=I.wC g;refine PySem.P.add_list e k ?_ (by rw[qY,qY];omega);have m:its.toArray++a.toArray=(its++a).toArray:=by simp
 rw[m];exact⟨.ref _,_,I.vM (t':=s.toks) (r.append i) (by rw[qm];omega),U,q _ I.fresh⟩
inductive LV(x:V)(y:V)(H:Hp)(Q:VK):Prop
 |mk:∀l k xs,x=.ref l->y=.int k->H l=some (.lst xs)->-(2^63)<=k->k<2^63->xs.length*k.toNat<=sizeLine->(∀p,H p=none->Q (.ref p) (upd H p (.lst (List.replicate k.toNat xs).flatten)))->LV x y H Q
def rRep:R2:=λx y H Q=>LV x y H Q
def Pd{α:Type}(xs:qb α)(k:Nat):(List.replicate k xs).flatten.length=k*xs.length:=by
 induction k with
 |zero=>simp
 |succ k a=>rw[jM,jS,qm,a,Nat.succ_mul,Nat.add_comm]
theorem SE:xf X (binaryOp .Mult) rRep:=by
 intro pins s σ H x y v u Q I j o h;obtain⟨l,k,xs,rfl,rfl,p,w,A,hz,q⟩:=h;cases j;obtain⟨t,rfl⟩:=o;obtain⟨z,its,n,r,B,e⟩:=I.wC p;have hlen:its.toArray.size*k.toNat<=sizeLine:=by rw[qY,<-B];exact hz
 have c:¬its.toArray.size*k.toNat > (2^63-1) / 8:=by
  have:(sizeLine:Nat)<=(2^63-1) / 8:=by decide
  omega
 have d:¬(!Builtin.List.listFitsIndex k)=true:=by
  rw[fitsIndex_both w A];exact qS
 have b:¬Builtin.List.listTooLong (its.toArray.size*k.toNat)=true:=by
  rw[MW hlen];exact qS
 have f:List.foldl (λg i=>g++i) #[] (List.replicate (if its.toArray.isEmpty=true then 0 else k.toNat) its.toArray)=(List.replicate k.toNat its).flatten.toArray:=by
  have f0:∀m:Nat,List.foldl (λg i=>g++i) #[] (List.replicate m its.toArray)=(List.replicate m its).flatten.toArray:=λm=>by
   have:=A6 its m [];rw[jK] at this;exact this
  rw[f0]
  cases its with
  |nil=>simp
  |cons a C=>rw[qz (by simp)]
 refine wpAny_binaryOp_repeat_ref (T:="list") (U:="int") ∅ ⟨_,e,U⟩ (λs'=>typeIs_int s' k t) noFill_list_mul F.fills_int_mul F.slot_int_rmul repeat_list F.slot_int_index.lookup
  (xG F.slot_int_rmul (typeIs_int s k t) F.entry_int_rmul (F.args_int_rmul_2 _ _) (int___rmul___int_list k t l its.toArray n)
    ⟨e,U,⟨_,e,U⟩,xG F.slot_list_mul ⟨_,e,U⟩ F.entry_list_mul (F.args_list_mul_2 _ _) (AutoListH.list___mul___list_int_3 l its.toArray n k t d c b) ⟨e,?_⟩⟩)
 rw[f];exact⟨.ref _,_,I.vM (t':=s.toks) (r.rep k.toNat) (by rw[Pd,Nat.mul_comm];exact hz),U,q _ I.fresh⟩
end
section
variable {κ:Type}[DecidableEq κ]
def YQ(kvs:qb (κ×V))(k:κ):Option V:=(kvs.find? λa=>decide (a.1=k)).map (·.2)
def Yh(kvs:qb (κ×V))(k:κ)(v:V):qb (κ×V):=
 if (kvs.any λa=>decide (a.1=k))=true then kvs.map (λa=>if a.1=k then (a.1,v) else a) else kvs++[(k,v)]
def Vx(kvs:qb (κ×V))(k:κ):qb (κ×V):=kvs.filter λa=>decide (a.1≠k)
def VY{p:κ×V}{r:qb (κ×V)}{k:κ}(e:p.1=k):YQ (p::r) k=some p.2:=by simp[YQ,yI,e]
def VZ{p:κ×V}{r:qb (κ×V)}{k:κ}(e:¬p.1=k):YQ (p::r) k=YQ r k:=by simp[YQ,yI,e]
theorem V0(k:κ):∀kvs:qb (κ×V),(kvs.any λa=>decide (a.1=k))=(YQ kvs k).isSome
 |[]=>rfl
 |p::r=>by
  rw[ym];by_cases e:p.1=k
  .simp only[VY e,qv e,Bool.true_or,Option.isSome_some]
  .rw[VZ e,qr e,Bool.false_or];exact V0 k r
theorem Vc(kvs:qb (κ×V))(k:κ)(v:V):(Yh kvs k v).length<=kvs.length+1:=by
 unfold Yh;split
 .rw[qi];omega
 .rw[qm,qw,zJ];omega
def L8{kvs:qb (κ×V)}{k:κ}(v:V)(h:YQ kvs k=none):Yh kvs k v=kvs++[(k,v)]:=by
 unfold Yh;rw[V0,h];exact qz ∅
def U1.kc{u:Option qe}(r:U1 o u):o.isSome=u.isSome:=by
 cases o with
 |none=>cases u with
  |none=>rfl
  |some _=>exact(show False from r).elim
 |some _=>cases u with
  |none=>exact(show False from r).elim
  |some _=>rfl
def U1.getD{u:Option qe}{d:V}{d':qe}(r:U1 o u)(a:QL d d'):QL (o.getD d) (u.getD d'):=by
 cases o with
 |none=>cases u with
  |none=>exact a
  |some _=>exact(show False from r).elim
 |some _=>cases u with
  |none=>exact(show False from r).elim
  |some _=>exact r
def KV.val{kvs:qb (κ×V)}{vs:qb (κ×qe)}(r:KV kvs vs)(k:κ):U1 (YQ kvs k) (valueAt vs k):=by
 unfold KV at r
 induction r with
 |nil=>exact True.intro
 |@cons p q ps qs h t d=>
  obtain⟨c,f⟩:=h;by_cases e:p.1=k
  .have a:q.1=k:=c.symm.trans e;have b:valueAt (q::qs) k=some q.2:=by simp[valueAt,yI,a]
   rw[VY e,b];exact f
  .have a:¬q.1=k:=λz=>e (c.trans z);have b:valueAt (q::qs) k=valueAt qs k:=by simp[valueAt,yI,a]
   rw[VZ e,b];exact d
def KV.any{kvs:qb (κ×V)}{vs:qb (κ×qe)}(r:KV kvs vs)(k:κ):(kvs.any λa=>decide (a.1=k))=vs.any λa=>decide (a.1=k):=by
 unfold KV at r
 induction r with
 |nil=>rfl
 |cons h t b=>rw[ym,ym,b,h.1]
def KV.repl{kvs:qb (κ×V)}{vs:qb (κ×qe)}(r:KV kvs vs)(k:κ)(c:QL y u) :
 KV (kvs.map λa=>if a.1=k then (a.1,y) else a) (vs.map λa=>if a.1=k then (a.1,u) else a):=by
 unfold KV at r⊢
 induction r with
 |nil=>exact .nil
 |@cons p q ps qs h t d=>
  rw[qX,qX];refine .cons ?_ d;obtain⟨b,f⟩:=h;by_cases e:p.1=k
  .rw[qG e,qG (b.symm.trans e)];exact⟨b,c⟩
  .rw[qz e,qz (λz=>e (b.trans z))];exact⟨b,f⟩
def KV.put{kvs:qb (κ×V)}{vs:qb (κ×qe)}(r:KV kvs vs)(k:κ)(a:QL y u):KV (Yh kvs k y) (stored vs k u):=by
 unfold Yh stored;rw[r.any k];by_cases e:(vs.any λb=>decide (b.1=k))=true
 .rw[qG e,qG e];exact r.repl k a
 .rw[qz e,qz e];exact Paired.snoc r ⟨U,a⟩
def KV.drop{kvs:qb (κ×V)}{vs:qb (κ×qe)}(r:KV kvs vs)(k:κ):KV (Vx kvs k) (without vs k):=by
 unfold KV at r⊢;unfold Vx without
 induction r with
 |nil=>exact .nil
 |@cons p q ps qs h t d=>
  obtain⟨c,f⟩:=h;rw[jf,jf];by_cases e:p.1=k
  .have a:¬decide (p.1≠k)=true:=by simp[e]
   have b:¬decide (q.1≠k)=true:=by simp[c.symm.trans e]
   rw[qz a,qz b];exact d
  .have g:¬q.1=k:=λz=>e (c.trans z);have a:decide (p.1≠k)=true:=by simp[e]
   have b:decide (q.1≠k)=true:=by simp[g]
   rw[qG a,qG b];exact .cons ⟨c,f⟩ d
def KV.length{kvs:qb (κ×V)}{vs:qb (κ×qe)}(r:KV kvs vs):kvs.length=vs.length:=Paired.length r
def NF(kvs:qb (κ×V))(k:κ):(Vx kvs k).length<=kvs.length:=zF _ _
end
def Xy{k:Key}(r:QL (kV k) u):(Ya P w).is k u=true:=by
 cases k with
 |inl i=>obtain⟨t,e⟩:=(show ∃t,u=Value.int i t from r);subst e;exact C5 P w i t
 |inr x=>obtain⟨t,e⟩:=(show ∃t,u=Value.str x t from r);subst e;exact C4 P w x t
theorem A2{P:Program}{w:World}:∀{ks:qb Key}{us:qh},QD (ks.map kV) us->ItemsAre (Ya P w) ks us
 |[],_,r=>by rw[yA] at r;cases r;exact .nil
 |k::ks,_,r=>by
  rw[qX] at r
  cases r with
  |cons h t=>exact .cons (Xy h) (A2 t)
abbrev KT(H:Hp):qb (qb Key×V)->qb (qb Key×qd×qe)->Prop:=Paired λp q=>p.1=q.1/\H q.2.1=some (.tup (p.1.map kV))/\QL p.2 q.2.2
def KT.val(r:KT H kvs xs)(k:qb Key):U1 (YQ kvs k) ((atKey xs k).map (·.2)):=by
 induction r with
 |nil=>exact True.intro
 |@cons p q ps qs h t d=>
  obtain⟨c,_,f⟩:=h;by_cases e:p.1=k
  .have a:q.1=k:=c.symm.trans e;have b:atKey (q::qs) k=some q.2:=by simp[atKey,yI,a]
   rw[VY e,b];exact f
  .have a:¬q.1=k:=λz=>e (c.trans z);have b:atKey (q::qs) k=atKey qs k:=by simp[atKey,yI,a]
   rw[VZ e,b];exact d
def KT.repl(r:KT H kvs xs)(k:qb Key)(d:QL y u) :
 KT H (kvs.map λb=>if b.1=k then (b.1,y) else b) (xs.map (putAt k u)):=by
 induction r with
 |nil=>exact .nil
 |@cons p q ps qs h t f=>
  rw[qX,qX];refine .cons ?_ f;obtain⟨a,c,g⟩:=h;unfold putAt;by_cases e:p.1=k
  .rw[qG e,qG (a.symm.trans e)];exact⟨a,c,d⟩
  .rw[qz e,qz (λz=>e (a.trans z))];exact⟨a,c,g⟩
def KT.put(r:KT H kvs xs)(k:qb Key){b:qd}(c:H b=some (.tup (k.map kV)))(a:QL y u) :
 KT H (Yh kvs k y) (storedH xs k b u):=by
 have e:(kvs.any λd=>decide (d.1=k))=(atKey xs k).isSome:=by
  rw[V0,(r.val k).kc,Option.isSome_map]
 unfold Yh storedH;rw[e];by_cases q:(atKey xs k).isSome=true
 .rw[qG q,qG q];exact r.repl k a
 .rw[qz q,qz q];exact Paired.snoc r ⟨U,c,a⟩
def KT.keeps(r:KT H kvs xs)(a:∀b ys,H b=some (.tup ys)->H' b=some (.tup ys)):KT H' kvs xs:=
 Paired.gU r λ_ _ z=>⟨z.1,a _ _ z.2.1,z.2.2⟩
section
variable {P:Program}{w:World}{H:Hp}{h:Heap}{a:qd}
def Rm{u:HO}(ok:yu P w H h)(e:Rd H a u):QY P w H h a u:=e.ok ok
def Bd{kvs:qb (Key×V)}(ok:yu P w H h)(e:Rd H a (.dK kvs)):kvs.length<=sizeLine/\(a==sysModules)=false/\∃vs,KV kvs vs/\h.DictOf (Ya P w) a vs:=
 show QY P w H h a (.dK kvs) from Rm ok e
def Be{kvs:qb (Key×V)}(ok:yu P w H h)(e:H a=some (.dK kvs)):kvs.length<=sizeLine/\(a==sysModules)=false/\∃vs,KV kvs vs/\h.DictOf (Ya P w) a vs:=Bd ok (.inl e)
def GY{ks:qb Key}(ok:yu P w H h)(e:H a=some (.tup (ks.map kV))):(tupleKind (Ya P w)).is h ks a:=by
 obtain⟨_,its,r,o,b,c,n,d⟩:=(show QY P w H h a (.tup (ks.map kV)) from ok a _ e);exact⟨o,its.toArray,n,b,c,d,by simpa using A2 r⟩
def Bc(ok:yu P w H h)(e:Rd H a (.dT kvs)):kvs.length<=sizeLine/\(a==sysModules)=false /\
 ∃xs,KT H kvs xs/\h.DictOfH (tupleKind (Ya P w)) a xs:=by
 obtain⟨z,y,xs,r,o,d,f,g,i,j,k,n⟩:=(show QY P w H h a (.dT kvs) from Rm ok e);refine⟨z,y,xs,r,o,d,f,g,i,j,k,λx b=>?_,n⟩;have all:∀{l:qb (qb Key×V)}{m:qb (qb Key×qd×qe)},KT H l m->∀x∈m,(tupleKind (Ya P w)).is h x.1 x.2.1:=by
  intro l m q
  induction q with
  |nil=>intro x b;exact nomatch b
  |@cons p q ps qs c t s=>
   intro x b;rcases qy.mp b with e|b
   .subst e;exact GY ok (by rw[<-c.1];exact c.2.1)
   .exact s x b
 exact all r x b
def b8(ok:yu P w H h)(e:H a=some (.dT kvs)):kvs.length<=sizeLine/\(a==sysModules)=false /\
 ∃xs,KT H kvs xs/\h.DictOfH (tupleKind (Ya P w)) a xs:=Bc ok (.inl e)
end
def Xi(H:Hp)(a:qd)(y:V)(r:Option V):Prop:=
 (∃kvs k,Rd H a (.dK kvs)/\y=kV k/\r=YQ kvs k)\/∃kvs k b,Rd H a (.dT kvs)/\y=.ref b/\H b=some (.tup (k.map kV))/\r=YQ kvs k
def Ci(H:Hp)(a:qd)(y v:V)(H':Hp):Prop:=
 (∃kvs k,H a=some (.dK kvs)/\y=kV k/\kvs.length<sizeLine/\H'=upd H a (.dK (Yh kvs k v))) \/
 ∃kvs k b,H a=some (.dT kvs)/\y=.ref b/\H b=some (.tup (k.map kV))/\kvs.length<sizeLine/\H'=upd H a (.dT (Yh kvs k v))
def Xi.k{kvs:qb (Key×V)}{k:Key}(e:H a=some (.dK kvs)):Xi H a (kV k) (YQ kvs k):=.inl ⟨kvs,k,.inl e,U,U⟩
def Ci.k{kvs:qb (Key×V)}{k:Key}{v:V}(e:H a=some (.dK kvs))(b:kvs.length<sizeLine):Ci H a (kV k) v (upd H a (.dK (Yh kvs k v))):=.inl ⟨kvs,k,e,U,b,U⟩
section
variable {X:Cx}{pins:qb (qd×Obj)}{σ:St}{H:Hp}{s:Shared}{a:qd}{y v:V}{u r:qe}{o:Option V}{A:Around}{E:qg}
def Inv.big(I:Inv X pins σ H s):sysModules<s.heap.objs.size:=by
 have h:mainGlobals<s.heap.objs.size:=(I.mod.glob.keeps I.bk).lt;exact wm ∅ h
def IT{Q:qg}(m:A.units+1<cLine)(I:Inv X pins σ H s)(g:Xi H a y (some v))(j:QL y u)(h:∀d s',Inv X pins σ H s'->QL v d->Q d s') :
 wpAny (model X.prog X.w) A (getItem (.ref a) u) Q E s:=by
 rcases g with⟨kvs,k,e,f,l⟩|⟨kvs,k,b,e,f,n,l⟩
 .subst f;obtain⟨z,hd,vs,rel,dd⟩:=Bd I.hok e;obtain⟨d,hw,c⟩:=U1.some_of (v:=v) (o:=valueAt vs k) (by rw[l];exact rel.val k);exact wpAny_getItem_of (Xy j) dd.mapOf hw (h d _ (I.tok _) c)
 .subst f;cases (show u=Value.ref b from j);obtain⟨z,hd,xs,rel,dd⟩:=Bc I.hok e;obtain⟨d,hw,c⟩:=U1.some_of (v:=v) (o:=(atKey xs k).map (·.2)) (by rw[l];exact rel.val k);obtain⟨p,q,i⟩:=zB.mp hw;refine wpAny_getItem_heap (ky m) (GY I.hok n) dd q ?_;rw[i];exact h d _ (I.tok _) c
def d_in{Q:qg}(f:A.units+1<cLine)(I:Inv X pins σ H s)(g:Xi H a y o)(d:QL y u)(h:∀s',Inv X pins σ H s'->Q (.bool o.isSome) s') :
 wpAny (model X.prog X.w) A (compareOp .In u (.ref a)) Q E s:=by
 rcases g with⟨kvs,k,e,c,l⟩|⟨kvs,k,b,e,c,i,l⟩
 .subst c;obtain⟨z,hd,vs,rel,dd⟩:=Bd I.hok e;refine wpAny_in_of (Xy d) hd dd.mapOf ?_;rw[<-(rel.val k).kc,<-l];exact h _ (I.tok _)
 .subst c;cases (show u=Value.ref b from d);obtain⟨z,hd,xs,rel,dd⟩:=Bc I.hok e;refine wpAny_in_heap (ky f) (GY I.hok i) hd dd ?_;have q:=(rel.val k).kc;rw[Option.isSome_map] at q;rw[<-q,<-l];exact h _ (I.tok _)
def XE{h':Heap}{c:HO}(I:Inv X pins σ H s)(d:Mut (H a))(f:Heap.SameBut a s.heap h')(he:∃q,h'.get? a=some q)(new:QY X.prog X.w (upd H a c) h' a c) :
 Inv X pins σ (upd H a c) {s with heap:=h',toks:=t'}:=
 I.write (x:=a) (e:=a) d (.inl rfl) (λb q g z=>(f.2 b g).trans z) he new
def B4{h':Heap}{kvs:qb (Key×V)}{vs:qb (Key×qe)}(z:kvs.length<=sizeLine)(hd:(a==sysModules)=false)(rel:KV kvs vs)(dd:h'.DictOf (Ya P w) a vs) :
 QY P w H' h' a (.dK kvs):=⟨z,hd,vs,rel,dd⟩
theorem IS{Q:Unit->Shared->Prop}(x:A.units+1<cLine)(I:Inv X pins σ H s)(g:Ci H a y v H')(o:QL y u)(p:QL v r)(h:∀s',Inv X pins σ H' s'->Q () s') :
 wpAny (model X.prog X.w) A (setItem (.ref a) u r) Q E s:=by
 rcases g with⟨kvs,k,e,i,l,j⟩|⟨kvs,k,b,e,i,t,l,j⟩
 .subst i j;obtain⟨z,hd,vs,rel,dd⟩:=Be I.hok e;have hz:vs.length<=sizeLine:=by rw[<-rel.length];exact z
  have m:(Yh kvs k v).length<=sizeLine:=by have:=Vc kvs k v;omega
  refine wpAny_setItem_pairs (hsz:=hz) (Xy o) dd λh' d n=>h _ ?_;have he:∃q,h'.get? a=some q:=let ⟨q,_,_,f,_⟩:=d;⟨q,f⟩;exact XE I (by rw[e];exact True.intro) n he (B4 m hd (rel.put k p) d)
 .subst i j;cases (show u=Value.ref b from o);obtain⟨z,hd,xs,rel,dd⟩:=b8 I.hok e;have hz:xs.length<=sizeLine:=by rw[<-Paired.length rel];exact z
  have m:(Yh kvs k v).length<=sizeLine:=by have:=Vc kvs k v;omega
  refine wpAny_setItem_heap (hsz:=hz) (ky x) (GY I.hok t) dd λh' d n=>h _ ?_;obtain⟨q,B,C,f,D,F,G,_,J⟩:=d;refine XE I (by rw[e];exact True.intro) n ⟨q,f⟩ ⟨m,hd,_,(rel.put k t p).keeps λc ys w=>?_,q,B,C,f,D,F,G,J⟩;rw[Qj (QX w e nofun)];exact w
end
section
variable {X:Cx}{pins:qb (qd×Obj)}{σ:St}{H:Hp}{s:Shared}{a:qd}{kvs:qb (Key×V)}{k:Key}{u:qe}{A:Around}{E:qg}
def b9{v:V}{more:qh}{Q:qg}(I:Inv X pins σ H s)(e:H a=some (.dK kvs))(d:QL (kV k) u)(l:YQ kvs k=some v)(hm:more=[]\/∃x,more=[x])
 (h:∀b s',Inv X pins σ (upd H a (.dK (Vx kvs k))) s'->QL v b->Q b s'):wpAny (model X.prog X.w) A (call (.builtin "dict.pop") (.ref a::u::more)) Q E s:=by
 obtain⟨z,hd,vs,rel,dd⟩:=Be I.hok e;obtain⟨b,hw,f⟩:=U1.some_of (v:=v) (o:=valueAt vs k) (by rw[<-l];exact rel.val k);have g:(keyPart u).isSome=true:=by
  cases k with
  |inl i=>obtain⟨t,q⟩:=(show ∃t,u=Value.int i t from d);subst q;rfl
  |inr x=>obtain⟨t,q⟩:=(show ∃t,u=Value.str x t from d);subst q;rfl
 have j:argsOk "dict.pop" ⟨.ref a::u::more,[]⟩:=by
  rcases hm with q|⟨x,q⟩
  .subst q;exact PySem.F.args_dict_pop_2 _ _
  .subst q;exact PySem.F.args_dict_pop_3 _ _ _
 refine vI slot_dict_pop dd.typeIs PySem.F.entry_dict_pop j (meets_dict_pop_there (Ya X.prog X.w) a (Xy d) more hm g)
  ⟨vs,b,dd,by rw[<-rel.length];exact z,hw,λh' c m=>h b _ ?_ f⟩
 have he:∃q,h'.get? a=some q:=let ⟨q,_,_,n,_⟩:=c;⟨q,n⟩;exact XE I (by rw[e];exact True.intro) m he (B4 (qO (NF kvs k) z) hd (rel.drop k) c)
def Th{r:qe}{Q:qg}(I:Inv X pins σ H s)(e:H a=some (.dK kvs))(b:QL (kV k) u)(l:YQ kvs k=none)(h:∀s',Inv X pins σ H s'->Q r s') :
 wpAny (model X.prog X.w) A (call (.builtin "dict.pop") [.ref a,u,r]) Q E s:=by
 obtain⟨z,hd,vs,rel,dd⟩:=Be I.hok e;have c:valueAt vs k=none:=U1.none_of (by rw[<-l];exact rel.val k);have d:(keyPart u).isSome=true:=by
  cases k with
  |inl i=>obtain⟨t,q⟩:=(show ∃t,u=Value.int i t from b);subst q;rfl
  |inr x=>obtain⟨t,q⟩:=(show ∃t,u=Value.str x t from b);subst q;rfl
 exact vI slot_dict_pop dd.typeIs PySem.F.entry_dict_pop (PySem.F.args_dict_pop_3 _ _ _) (meets_dict_pop_default (Ya X.prog X.w) a (Xy b) hd d r) ⟨vs,dd,c,h _ (I.tok _)⟩
end
def cC(i:Expr):Prop:=∀a b,subscripted i false a b=operate [a,b] (getItem a b)
def Oq{prog:Program}{A:Around}{E:qg}{s:Shared}{env:Env}{value slice:Expr}{T id:String}{Q:qg}
 (j:typeLookup (.type T) "__getitem__"=pure (some (.builtin id))) (k:cC slice)
 (h:wpAny (model prog w) A (eval value env) (λo c=>wpAny (model prog w) A (eval slice env) (λi a=>a.TypeIs o T/\wpAny (model prog w) A (getItem o i) Q E a) E c) E s) :
 wpAny (model prog w) A (eval (.Subscript value slice pos) env) Q E s:=by
 refine Subscript_ (zt h (λo c e=>zt e (λi a b=>?_) λ_ _ x=>x) λ_ _ x=>x);obtain⟨g,b⟩:=b;unfold subscriptTail;refine qj ?_;rw[getitemInPython_of_ne g.not_modules];refine qj (wpAny_specialOf g j ?_);have fin:wpAny (model prog w) A (subscripted slice false o i) (λr d=>wpAny (model prog w) A (letTemporaryGo value o r>>=λ_=>pure r) Q E d) E a:=by
  rw[k o i];exact wpAny_operating (zt b (λr d f=>qj (wpAny_letTemporaryGo (qu f))) λ_ _ x=>x)
 first
  |exact qu (qj fin)
  |exact qj (qu (qj fin))
  |exact qj fin
def DB{s:Shared}(I:Inv X pins σ H s)(g:Xi H a y o):s.TypeIs (.ref a) "dict":=by
 rcases g with⟨kvs,k,e,_,_⟩|⟨kvs,k,b,e,_,_,_⟩
 .obtain⟨_,_,vs,_,dd⟩:=Bd I.hok e;exact dd.typeIs
 .obtain⟨_,_,xs,_,dd⟩:=Bc I.hok e;exact dd.typeIs
inductive Fj(Q:VK)(x:V)(y:V)(H2:Hp):Prop
 |mk:∀a v,x=.ref a->Xi H2 a y (some v)->Q v H2->Fj Q x y H2
def aw(a ty:TE):TE:=λσ H Q=>a σ H λx H1=>ty σ H1 λy H2=>Fj Q x y H2
inductive Ln(Q:VK)(y:V)(x:V)(H2:Hp):Prop
 |mk:∀a o,x=.ref a->Xi H2 a y o->Q (.bl o.isSome) H2->Ln Q y x H2
def tDIn(ty a:TE):TE:=λσ H Q=>ty σ H λy H1=>a σ H1 λx H2=>Ln Q y x H2
inductive FD(D:Uu)(σ:St)(v:V)(x:V)(y:V)(H3:Hp):Prop
 |mk:∀a H4,x=.ref a->Ci H3 a y v H4->D.nx σ H4->FD D σ v x y H3
def bq(a ty b:TE):TS:=λD σ H=>b σ H λv H1=>a σ H1 λx H2=>ty σ H2 λy c=>FD D σ v x y c
section
variable {X:Cx}{o i e value:Expr}{pos pos' tpos:Pos}{td ty tv:TE}
def FO(d:X.A.units+1<cLine)(e:PE X o td)(hi:PE X i ty)(f:cC i:=by exact λ_ _=>rfl):PE X (.Subscript o i pos) (aw td ty):=by
 intro pins s σ H Q I h;refine Oq PySem.F.slot_dict_getitem.lookup f (zS (e pins s σ H _ I h) λu s1 ⟨x,H1,j,k,l⟩=>zS (hi pins s1 σ H1 _ j l) λq s2 ⟨y,H2,c,m,a,v,ex,g,n⟩=>?_);subst ex;obtain rfl:u=Value.ref a:=k;exact⟨DB c g,IT d c g m λr s3 p b=>⟨v,H2,p,b,n⟩⟩
def Sx(b:X.A.units+1<cLine)(hi:PE X i ty)(c:PE X o td):PC X .In i o (tDIn ty td):=by
 intro pins s σ H Q I h;refine zS (hi pins s σ H _ I h) λp s1 ⟨y,H1,d,e,f⟩=>zS (c pins s1 σ H1 _ d f) λu s2 ⟨x,H2,j,k,a,l,ex,g,m⟩=>?_;subst ex;obtain rfl:u=Value.ref a:=k;exact d_in b j g e λs3 n=>⟨.bl l.isSome,H2,n,U,m⟩
def Xr(b:X.A.units+1<cLine)(c:PE X o td)(hi:PE X i ty)(d:PE X value tv)(e:swapsWith value (some (.Subscript o i pos')) pos.line X.env=pure false) :
 PS X (.Assign [.Subscript o i pos'] value pos) (bq td ty tv):=by
 intro pins s σ H D I h;refine wpAny_Assign_Subscript (zS (d pins s σ H _ I h) λr s1 ⟨v,H1,f,j,k⟩=>zS (c pins s1 σ H1 _ f k) λu s2 ⟨x,H2,l,m,n⟩=>zS (hi pins s2 σ H2 _ l n) λA s3 ⟨y,B,p,q,a,t,ex,g,w⟩=>?_) e;subst ex;obtain rfl:u=Value.ref a:=m;exact IS b p g q j λs4 z=>⟨σ,t,z,w⟩
end
def DA(h:Heap)(a:sysModules<h.objs.size):QY P w H (h.push {cls:=.type "dict",data:=.dict #[]}) h.objs.size (.dK []):=
 ⟨zb _,zV.mpr (jy (qR a)),[],.nil,Heap.DictOf.new h⟩
def RX:TE:=λ_ H Q=>∀p,H p=none->Q (.ref p) (upd H p (.dK []))
section
variable {X:Cx}{pos:Pos}
def CL:PE X (.Dict [] [] pos) RX:=λpins s σ H Q I h=>
 wpAny_Dict_empty ⟨.ref s.heap.objs.size,_,I.laid (a:=s.heap.objs.size) (o:=.dK []) (t':=s.toks) (λ_ _ q=>qk _ q) (qp _) (DA s.heap I.big),U,h _ (I.hok.fresh (qp _))⟩
end
def Ec:qb (TE×TE)->St->Hp->(qb (V×V)->Hp->Prop)->Prop
 |[],_,H,Q=>Q [] H
 |(a,b)::r,σ,H,Q=>a σ H λx H1=>b σ H1 λy H2=>Ec r σ H2 λps c=>Q ((x,y)::ps) c
abbrev VV:qb (V×V)->qb (qe×qe)->Prop:=Paired λp q=>QL p.1 q.1/\QL p.2 q.2
def PPs(X:Cx)(pos:Pos)(keys:qb (Option Expr))(values:qb Expr)(yv:qb (TE×TE)):Prop:=
 ∀(pins:qb (qd×Obj))(s:Shared)(σ:St)(H:Hp)(Q:qb (V×V)->Hp->Prop),Inv X pins σ H s->Ec yv σ H Q ->
  wpAny (model X.prog X.w) X.A (evalPairs (pairTrees keys values X.env pos)) (λvs s'=>∃ps H',Inv X pins σ H' s'/\VV ps vs/\Q ps H') X.xe s
def OM  :PPs X pos [] [] []:=λpins s σ H Q I h=>pairTrees_nil_walk ⟨[],H,I,.nil,h⟩
def Gz{k v:Expr}{ks:qb (Option Expr)}{vs:qb Expr}{a b:TE}{yv:qb (TE×TE)}(c:PE X k a)(d:PE X v b)(e:PPs X pos ks vs yv) :
 PPs X pos (some k::ks) (v::vs) ((a,b)::yv):=λpins s σ H Q I h=>
 pairTrees_cons_walk (zS (c pins s σ H _ I h) λu s1 ⟨x,H1,f,g,i⟩=>zS (d pins s1 σ H1 _ f i) λq s2 ⟨y,H2,j,l,m⟩=>
  zS (e pins s2 σ H2 _ j m) λws s3 ⟨ps,n,o,rel,p⟩=>⟨(x,y)::ps,n,o,.cons ⟨g,l⟩ rel,p⟩)
def Yf(kvs more:qb (Key×V)):qb (Key×V):=more.foldl (λacc a=>Yh acc a.1 a.2) kvs
def KV.merge:∀{more:qb (Key×V)}{rs:qb (Key×qe)}{kvs:qb (Key×V)}{vs:qb (Key×qe)},KV more rs->KV kvs vs->KV (Yf kvs more) (merged vs rs):=by
 intro more rs kvs vs r;unfold KV at r
 induction r generalizing kvs vs with
 |nil=>intro q;exact q
 |@cons p q ps qs h t a=>
  intro b;have e:KV (Yh kvs p.1 p.2) (stored vs q.1 q.2):=by
   have:=b.put p.1 h.2;rw[<-h.1];exact this
  exact a e
theorem W6:∀(more kvs:qb (Key×V)),(Yf kvs more).length<=kvs.length+more.length
 |[],kvs=>by show kvs.length<=kvs.length+0;omega
 |p::r,kvs=>by
  have a:=W6 r (Yh kvs p.1 p.2);have b:=Vc kvs p.1 p.2;show(Yf (Yh kvs p.1 p.2) r).length<=_;rw[qw];omega
theorem Aa{P:Program}{w:World}:∀{kvs:qb (Key×V)}{ws:qb (qe×qe)},VV (kvs.map λd=>(kV d.1,d.2)) ws->∃rs,Carries (Ya P w) ws rs/\KV kvs rs
 |[],_,r=>by rw[yA] at r;cases r;exact⟨[],True.intro,.nil⟩
 |p::kvs,_,r=>by
  rw[qX] at r
  cases r with
  |@cons a b as bs h t=>
   obtain⟨rs,c,q⟩:=Aa (P:=P) (w:=w) t;obtain⟨f,e⟩:=b;exact⟨(p.1,e)::rs,⟨Xy h.1,U,c⟩,.cons ⟨U,h.2⟩ q⟩
def au(yv:qb (TE×TE)):TE:=λσ H Q=>∀p,H p=none->Ec yv σ (upd H p (.dK [])) λps H2=>H2 p=some (.dK [])/\∃kvs:qb (Key×V),ps=kvs.map (λa=>(kV a.1,a.2))/\kvs.length<=15/\Q (.ref p) (upd H2 p (.dK (Yf [] kvs)))
theorem OR{keys:qb (Option Expr)}{values:qb Expr}{yv:qb (TE×TE)}(h:PPs X pos keys values yv)(b:keys.all (·.isSome)=true)(i:keys.length=values.length)(h0:keys≠[])
 (f:keys.length<=15):PE X (.Dict keys values pos) (au yv):=by
 intro pins s σ H Q I q;have j:=I.hok.fresh (qp s.heap.objs.size);have k:=I.laid (a:=s.heap.objs.size) (o:=.dK []) (h':=s.heap.push {cls:=.type "dict",data:=.dict #[]}) (t':=s.toks) (λ_ _ q=>qk _ q) (qp _) (DA s.heap I.big);refine wpAny_Dict_walk (knd:=Ya X.prog X.w) b i h0 f (zS (h pins _ σ _ _ k (q _ j)) λws s2 ⟨ps,H2,g,rel,e,kvs,l,lk,m⟩=>?_);subst l;obtain⟨rs,c,n⟩:=Aa (P:=X.prog) (w:=X.w) rel;obtain⟨z,hd,p,r,dd⟩:=Be g.hok e;cases r;refine⟨rs,c,dd,λh' d t=>⟨.ref s.heap.objs.size,_,?_,U,m⟩⟩;have hz:(Yf [] kvs).length<=sizeLine:=by
  have u:=W6 kvs [];rw[zJ] at u;rw[zI];omega
 have he:∃q,h'.get? s.heap.objs.size=some q:=let ⟨q,_,_,u,_⟩:=d;⟨q,u⟩;exact XE g (by rw[e];exact True.intro) t he (B4 hz hd (n.merge .nil) d)
structure M2(X:Cx)(o:Expr)(m:qc)(apos:Pos)(e f:Expr)(cpos:Pos):Prop where
 base:attributeBase o m X.env (eval o X.env)=eval o X.env
 few:((backTo cpos (starEach [e,f] X.env)).all (λx=>!x.1)&&(backToKw cpos (keywordEach [] X.env)).all (λx=>x.1.isSome)
  &&decide (([e,f]:qb Expr).length+([]:qb Keyword).length+(if ([]:qb Keyword).isEmpty then 0 else 1)<30))=true
 line:(apos.endLine==cpos.line)=true
 trees:backTo cpos (starEach [e,f] X.env)=[(false,eval e X.env),(false,eval f X.env)]
def IsD(H:Hp)(a:qd):Prop:=(∃kvs,Rd H a (.dK kvs))\/∃kvs,Rd H a (.dT kvs)
def EH{s:Shared}(I:Inv X pins σ H s)(d:IsD H a) :
 s.TypeIs (.ref a) "dict"/\(∀b,Value.ref a=.ref b->∃c,s.heap.get? b=some c/\c.dict=none)/\(a==sysModules)=false:=by
 rcases d with⟨kvs,e⟩|⟨kvs,e⟩
 .obtain⟨_,hd,vs,_,dd⟩:=Bd I.hok e;refine⟨dd.typeIs,λb q=>?_,hd⟩;cases q;obtain⟨c,_,_,f,g,_⟩:=dd;exact⟨c,f,g.2.1⟩
 .obtain⟨_,hd,xs,_,dd⟩:=Bc I.hok e;refine⟨dd.typeIs,λb q=>?_,hd⟩;cases q;obtain⟨c,_,_,f,g,_⟩:=dd;exact⟨c,f,g.2.1⟩
section
variable {X:Cx}{pins:qb (qd×Obj)}{σ:St}{H:Hp}{s:Shared}{a:qd}{y d:V}{u r:qe}{o:Option V}{A:Around}{E:qg}
def Ti{Q:qg}(m:A.units+1<cLine)(I:Inv X pins σ H s)(g:Xi H a y o)(f:QL y u)(i:QL d r)(h:∀j s',Inv X pins σ H s'->QL (o.getD d) j->Q j s') :
 wpAny (model X.prog X.w) A (call (.builtin "dict.get") [.ref a,u,r]) Q E s:=by
 rcases g with⟨kvs,k,e,c,l⟩|⟨kvs,k,b,e,c,n,l⟩
 .subst c;obtain⟨z,hd,vs,rel,dd⟩:=Bd I.hok e;refine vI slot_dict_get dd.typeIs PySem.F.entry_dict_get (PySem.F.args_dict_get_3 _ _ _) (meets_dict_get_default (Ya X.prog X.w) a (Xy f) hd r) ⟨_,dd.mapOf,h _ _ (I.tok _) ?_⟩;rw[l];exact(rel.val k).getD i
 .subst c;cases (show u=Value.ref b from f);obtain⟨z,hd,xs,rel,dd⟩:=Bc I.hok e;refine vI slot_dict_get dd.typeIs PySem.F.entry_dict_get (PySem.F.args_dict_get_3 _ _ _) (meetsH_dict_get_default (tupleKind (Ya X.prog X.w)) a b hd r) ⟨ky m,k,xs,GY I.hok n,dd,h _ _ (I.tok _) ?_⟩;rw[l];exact(rel.val k).getD i
end
inductive AD(Q:VK)(a:qd)(y:V)(z:V)(H3:Hp):Prop
 |mk:∀o,Xi H3 a y o->Q (o.getD z) H3->AD Q a y z H3
inductive Cu(ty:TE)(tx:TE)(σ:St)(Q:VK)(x:V)(H1:Hp):Prop
 |mk:∀a,x=.ref a->IsD H1 a->(ty σ H1 λy H2=>tx σ H2 λz H3=>AD Q a y z H3)->Cu ty tx σ Q x H1
def RY(a ty b:TE):TE:=λσ H Q=>a σ H λx H1=>Cu ty b σ Q x H1
inductive AB(Q:VK)(a:qd)(y:V)(z:V)(H3:Hp):Prop
 |mk:∀kvs k,H3 a=some (.dK kvs)->y=kV k->((∀v,YQ kvs k=some v->Q v (upd H3 a (.dK (Vx kvs k)))))->((YQ kvs k=none->Q z H3))->AB Q a y z H3
inductive Ct(ty:TE)(tx:TE)(σ:St)(Q:VK)(x:V)(H1:Hp):Prop
 |mk:∀a,x=.ref a->IsD H1 a->(ty σ H1 λy H2=>tx σ H2 λz H3=>AB Q a y z H3)->Ct ty tx σ Q x H1
def RV(a ty b:TE):TE:=λσ H Q=>a σ H λx H1=>Ct ty b σ Q x H1
section
variable {X:Cx}{o e f:Expr}{apos cpos:Pos}{td ty tx:TE}
def Mn(i:X.A.units+1<cLine)(j:PE X o td)(he:PE X e ty)(hf:PE X f tx)(m:M2 X o "get" apos e f cpos):PE X (.Call (.Attribute o "get" apos) [e,f] [] cpos) (RY td ty tx):=by
 intro pins s σ H Q I h;refine wpAny_Call_method m.base m.few m.line plainAttrs_dict slot_dict_get PySem.F.type_dict_get (zS (j pins s σ H _ I h) λu s1 ⟨x,H1,c,k,a,ex,d,l⟩=>?_);subst ex;obtain rfl:u=Value.ref a:=k;obtain⟨t1,n,_⟩:=EH c d;refine⟨t1,n,?_⟩;rw[m.trees];refine jA rfl (jY (zA (zS (he pins s1 σ H1 _ c l) λC s2 ⟨y,H2,p,q,r⟩=>
  zA (zS (hf pins s2 σ H2 _ p r) λb s3 ⟨z,t,v,w,B,g,A⟩=>jW ?_))))
 exact Ti i v g q w λD s4 B b=>⟨_,t,B,b,A⟩
def Mm(p:PE X o td)(he:PE X e ty)(hf:PE X f tx)(m:M2 X o "pop" apos e f cpos):PE X (.Call (.Attribute o "pop" apos) [e,f] [] cpos) (RV td ty tx):=by
 intro pins s σ H Q I h;refine wpAny_Call_method m.base m.few m.line plainAttrs_dict slot_dict_pop PySem.F.type_dict_pop (zS (p pins s σ H _ I h) λu s1 ⟨x,H1,g,q,a,ex,d,r⟩=>?_);subst ex;obtain rfl:u=Value.ref a:=q;obtain⟨t1,t,_⟩:=EH g d;refine⟨t1,t,?_⟩;rw[m.trees];refine jA rfl (jY (zA (zS (he pins s1 σ H1 _ g r) λJ s2 ⟨y,H2,w,i,A⟩=>
  zA (zS (hf pins s2 σ H2 _ w A) λB s3 ⟨z,C,j,D,kvs,k,n,E,F,G⟩=>jW ?_))))
 subst E
 cases l:YQ kvs k with
 |some v=>exact b9 j n i l (.inr ⟨B,U⟩) λK s4 b c=>⟨v,_,b,c,F v l⟩
 |none=>exact Th j n i l λs4 b=>⟨z,C,b,D,G l⟩
end
end L2
namespace Att
open PySem PySem.W PySem.Calls PyProof.Rows
def KA{P:Params}{h:Heap}:∀(ns:qb Int)(vs:qh),WellAll P h vs (ns.map WData.int)->IntsAre vs ns:=by
 intro ns
 induction ns with
 |nil=>
  intro vs w;rw[yA] at w;cases w;exact .nil
 |cons n ns c=>
  intro vs w;rw[qX] at w
  cases w with
  |cons a b=>
   cases a;exact .cons _ _ (c _ b)
def HF{l:OpenLaw}{n:Nat}(i:l.most=some n){P:Params}{h:Heap}{args:qb WData}{vals:qh}
 (b:l.row.toRowW.claim.pre args=true) (f:WellAll P h vals args) :
 ∃a vs ns,vals=[Value.ref a]/\args=[WData.list (ns.map WData.int)]/\h.get? a=some {cls:=.type "list",data:=.seq vs.toArray}/\IntsAre vs ns/\ns.length<=n:=by
 have g:WShape.hasAll [] args [.list .int]=true:=(pre_splitW b).1;have hc:l.pre.holds [] {args:=args}=true:=(pre_splitW b).2;obtain⟨d,r,rfl,j,k⟩:=hasAllW_cons g;obtain rfl:=hasAllW_nil k;obtain⟨xs,rfl,m⟩:=hasW_list j;obtain⟨ns,rfl⟩:=items_int m;have hlen:ns.length<=n:=by
  unfold OpenLaw.pre at hc;have c:(WTm.not (.lt (.lit (.int (n:Int))) (.len (.arg 0)))).holds [] {args:=[.list (ns.map .int)]}=true:=by
   have c:=(holds_andW hc).1;rw[i] at c;exact c
  have e:=condW_of c (w_not (w_lt w_lit (w_len_list (w_arg rfl))));rw[qi] at e;refine Nat.le_of_not_lt λq=>?_;have o:(n:Int)<((ns.length:Nat):Int):=by omega
  first
   |(rw[qv o] at e;exact absurd e ∅)
   |(simp at e;omega)
 cases f with
 |cons e o=>
  cases o
  cases e with
  |list p c=>exact⟨_,_,ns,U,U,p,KA ns _ c,hlen⟩
def HM(l:OpenLaw)(args:qb WData):l.row.toRowW.claim.post args (.bool true) args=true:=
 postW_of (r:=l.row.toRowW) (X:=(true==true))
  (show WShape.has [] (.bool true) .bool=true by first|rfl|decide|simp[WShape.has,WShape.arms,WShape.armsAll])
  (show(WTm.eq .res (.lit (.bool true))).value [] {args:=args,res:=some (.bool true),after:=args}=some (.bool (true==true)) from w_eq_bool (w_res rfl) w_lit) rfl
def vy{l:OpenLaw}{n:Nat}{q:Program}{loose:qf}{XP:(qc->Option qe)->Heap->Prop}{YP:World->Heap->Prop}{d:DefRec}
 (t:l.most=some n) (h:d.params.defaults=[])
 (call:∀(w:World)(s₀ b:Shared)(mg i:qc->Option qe)(c:qd)(o:Obj)(pm cd doc:qe)(a:qd)(vs:qh)(ns:qb Int),
   Ground q loose [] XP w s₀ mg i b.heap->YP w b.heap ->
   b.heap.get? c=some o->o.data=.func (docDef d.name d.params d.body d.scope pm cd doc)->b.heap.CodeRec cd d.name->mg d.name=some (.ref c) ->
   b.heap.get? a=some {cls:=.type "list",data:=.seq vs.toArray}->IntsAre vs ns->ns.length<=n->b.gens=#[] ->
   codeAny (model l.prog w) callerA (.call (.ref c) ⟨[.ref a],[]⟩) (λr s'=>r=.ok (.ret (.bool true))/\OldK b.heap s'.heap/\s'.os=b.os/\AllBare s'.gens) b) :
 WalkO q loose XP YP l.row.toRowW d [] (λf vs=>PySem.call f vs):=by
 intro w s₀ b mg i G Y c o pm cd doc u kV v hd j p k x args vals as e s y m z;obtain rfl:u=.none:=Dflts.none p h;obtain rfl:kV=.none:=Dflts.noKw p;obtain⟨a,vs,ns,rfl,rfl,g,hints,hlen⟩:=HF t e m;refine enter_call (zT (call w s₀ b mg i c o pm cd doc a vs ns G Y v (fd_plain hd) j k g hints hlen x) λr s' A=>?_);obtain⟨rfl,B,C,D⟩:=A;exact⟨.inl ⟨.bool true,.bool true,[],U,λ_=>rfl,.bool true,HM l _,λ_=>⟨List.Pairwise.nil,λ_ hm=>(nomatch hm)⟩⟩,B,C,D⟩
end Att
namespace L2
open PySem PySem.Spec PyProof.Rows
variable {fd:FuncData}{qual x:qc}{f:qd}{H:Hp}
def Ax:∀{vs:qh}{ns:qb Int},IntsAre vs ns->QD (ns.map V.int) vs
 |_,_,.nil=>.nil
 |_,_,.cons n t h=>.cons ⟨t,U⟩ (Ax h)
def TH(H:Hp):Prop:=∀b,H b=none\/∃o xs,H b=some (.vN o (.lst xs))
def M6{P:Program}{w:World}{K:Frag}{mg E:qc->Option qe}{O:vj}{k:Nat}{G a:qd}{sp:Sp}{c:Shared}{vs:qh}{ns:qb Int}
 (Q:K.In c.heap) (j:c.heap.Ns mainGlobals mg) (f:c.heap.Ns builtinsNs E) (I:∀x:qc,x≠"__name__"->E x=bootBuiltins x) (l:c.heap.NoLimit) (Y:c.gens=#[])
 (D:c.heap.get? a=some {cls:=.type "list",data:=.seq vs.toArray}) (hi:IntsAre vs ns) (R:ns.length<=sizeLine) (Z:QF k callerA)
 (F:∀base:Heap,K.In base->base.Ns mainGlobals mg->Y6 P w K mg base O k G fd [x] sp) (i:∀(s:Shared)(u:qe),BindsTo s fd ⟨[u],[]⟩ [(x,u)])
 (J:∀H:Hp,TH H->zm K H a (ns.map V.int)->sp [.ref a] H (λv _=>v=.bl true) λ_ _ _=>False)
 (L:∀H e s',O [] H c (λ_ _ _=>False) e s'->False) :
 codeAny (model P w) callerA (.call (.ref G) ⟨[.ref a],[]⟩) (λr s'=>r=.ok (.ret (.bool true))/\OldK c.heap s'.heap/\s'.os=c.os/\AllBare s'.gens) c:=by
 have S:=Ax hi;have p:=hi.length;have core:∀H:Hp,TH H->zm K H a (ns.map V.int)->yu P w H c.heap->(∀b,H b≠none->b=a)->(H a≠none->K.lookup a=none) ->
  codeAny (model P w) callerA (.call (.ref G) ⟨[.ref a],[]⟩) (λr s'=>r=.ok (.ret (.bool true))/\OldK c.heap s'.heap/\s'.os=c.os/\AllBare s'.gens) c:=by
  intro H T hS hok X hK;have vV:∀{b:qd}{o:Obj},c.heap.get? b=some o->H b=none->(B2 c.heap H).get? b=some o:=λe n=>Nq e n;have N:∀{b:qd}{o:Obj}{y:Array DictEntry}{A:Nat},c.heap.get? b=some o->o.data=.dict y A->H b=none:=λ{b o y A} e d=>by
   cases q:H b with
   |none=>rfl
   |some u=>
    have C:b=a:=X b (by rw[q];simp);subst C;rw[D] at e;cases e;have d':Data.seq vs.toArray _=Data.dict y A:=d;cases d'
  have g:∀{b:qd}{m:qc->Option qe},c.heap.Ns b m->(B2 c.heap H).Ns b m:=λ{b m} ⟨o,y,A,e,d,r⟩=>⟨o,y,A,vV e (N e d),d,r⟩;have B:K.In (B2 c.heap H):=λb o e=>vV (Q b o e) (by
   cases q:H b with
   |none=>rfl
   |some u=>
    have C:b=a:=X b (by rw[q];simp);subst C;rw[hK (by rw[q];simp)] at e;cases e)
  have hM:Mod K mg (B2 c.heap H):=⟨B,g j,⟨E,g f,I⟩,let ⟨mc,h1,h2⟩:=l;⟨mc,g h1,h2⟩⟩;have e0:Aw P w K mg (B2 c.heap H) callerA [] c H:=⟨U,hM,λb o e=>O4 e,Nat.le_of_eq (IC _ _),trivial,λb f=>absurd (show b∈([]:qb qd) from f) (by simp),hok,.of_eq Y⟩;refine zT ((F _ B (g j)).run callerA [] c H ⟨[.ref a],[]⟩ [.ref a] [.ref a] _ _ Z e0 (i c (.ref a)) (.cons rfl .nil) (J H T hS)) λr s' h=>?_
  cases r with
  |error e=>exact(L H e s' h).elim
  |ok fl=>
   cases fl with
   |next=>exact False.elim h
   |brk=>exact False.elim h
   |cont=>exact False.elim h
   |ret u=>
    obtain⟨v,H',os,bare,un,C,r',q⟩:=h;have q':v=.bl true:=q;subst q';obtain rfl:u=Value.bool true:=r';refine⟨U,OldK.of_keep λb o e=>?_,os,bare⟩
    cases q:H b with
    |none=>exact un.keep b o e q (by intro z;exact absurd (show b∈([]:qb qd) from z) (by simp)) (by simp)
    |some u=>
     rcases T b with z|⟨ob,xs,z⟩
     .rw[q] at z;cases z
     .have z2:=un.xx b ob _ z;obtain⟨e1,_⟩:=hok b _ z;obtain⟨e2,_⟩:=C b _ z2;rw[e] at e1;cases e1;exact e2
 cases y:K.lookup a with
 |some o=>
  have e:=Q a o y;rw[D] at e;cases e;refine core (λ_=>none) (λ_=>.inl rfl) (.inr ⟨_,vs.toArray,_,y,U,U,U,by rw[qY,p];exact R,by simpa using S⟩) (λb u z=>by have g:(none:Option HO)=some u:=z;cases g) (λb z=>absurd rfl z) λz=>absurd rfl z
 |none=>
  refine core (λb=>if b=a then some (.vN {cls:=.type "list",data:=.seq vs.toArray} (.lst (ns.map V.int))) else none) (λb=>?_) (.inl (.inr ⟨{cls:=.type "list",data:=.seq vs.toArray},qG rfl⟩)) (λb u z=>?_) (λb z=>?_) λ_=>y
  .by_cases f:b=a
   .exact .inr ⟨_,_,qG f⟩
   .exact .inl (qz f)
  .by_cases f:b=a
   .have g:=(qG f).symm.trans z;cases g;subst f;exact⟨D,by rw[qi];exact R,vs,_,S,D⟩
   .have g:=(qz f).symm.trans z;cases g
  .by_cases f:b=a
   .exact f
   .exact absurd (qz f) z
abbrev jx:vj:=λ_ _ _ _ _ _=>False
abbrev E0:XK:=λ_ _ _=>False
def QP{X:Cx}:US jx X E0:=λ_ _ _ _ _ _ _ h=>h.elim
structure kL(K:Frag)(x qual:qc)(st:Stmt)(f:qd)(fd:FuncData):Prop where
 ex:∃(oc:qe)(od:Option qd)(kV doc pm:qe)(an:Option qd)(cdv ct:qe)(osl:Array (Option qe)),
  fd=fnOf x qual (Yb st) (QK st) (Qr st) .none kV doc pm an cdv ct/\K.lookup f=some ⟨oc,od,.func fd,osl⟩/\codeIn K cdv qual=true
 kp:keepIn K (.ref f)=true
section
variable {P:Program}{w:World}{K:Frag}{mg:qc->Option qe}{base:Heap}
def kL.ok{st:Stmt}{N ps:qf}{k:Nat}{sp:Sp}(F:kL K x qual st f fd)(S:Y5 N ps (Qr st))
 (b:∀(a:qe)(A:Around)(outer:qb Env)(s:Shared)(H:Hp)(vs:qb V)(Q:VK)(E:XK),QF k (A.deeper (envOfC qual (Qr st) s.heap.objs.size f a))->sp vs H Q E ->
   ∃t,yV (Ua jx P w K mg base N qual (Qr st) f a A outer s H E).wB (QK st) t/\t {nx:=λ_ H'=>Q .non H',rt:=Q} (start N vs) H) (len:∀vs H Q E,sp vs H Q E->vs.length=ps.length:=by intro _ _ _ _ h;cases h;subst_vars;rfl):Y6 P w K mg base jx (k+1) f fd ps sp:=by
 obtain⟨i,j,kV,doc,pm,an,a,ct,e,rfl,lk,c⟩:=F.ex;refine Ny lk c S len λA outer s H vs Q E g d=>?_;obtain⟨t,h,q⟩:=b a A outer s H vs Q E g d;exact⟨t,h.wB,q⟩
def kL.binds{st:Stmt}{ps:qf}(F:kL K x qual st f fd)
 (h:∀(kV doc pm:qe)(an:Option qd)(a ct:qe)(us:qh),us.length=ps.length->bindArgs (fnOf x qual (Yb st) (QK st) (Qr st) .none kV doc pm an a ct) ⟨us,[]⟩=pure (ps.zip us)):Yl K fd ps []:=by
 obtain⟨d,e,kV,doc,pm,an,a,ct,b,rfl,lk,c⟩:=F.ex;exact .all (h kV doc pm an a ct)
def S8{st:Stmt}{d:qe}{e an:Option qd}{b:Array (Option qe)}{kV doc pm a ct:qe}(l:K.lookup f=some ⟨d,e,.func (fnOf x qual (Yb st) (QK st) (Qr st) .none kV doc pm an a ct),b⟩)
 (c:codeIn K a qual=true) (k:keepIn K (.ref f)=true):kL K x qual st f (fnOf x qual (Yb st) (QK st) (Qr st) .none kV doc pm an a ct):=⟨⟨d,e,kV,doc,pm,an,a,ct,b,U,l,c⟩,k⟩
end
def Dv{A:Around}{k:Nat}(a:QF k A):A.units+1<cLine:=jC (Nat.add_le_add_left (by decide:1<=64) _) a.units
def QN{n:Nat}(h:n<=1000):n<sizeLine:=jC h ∅
def Yj{n:Nat}(h:n<=1000):n<=sizeLine:=xE (QN h)
def K3:0<=sizeLine:=by decide
def Uv:1<=sizeLine:=by decide
def U2:2<=sizeLine:=by decide
def VS:3<=sizeLine:=by decide
def DY:4<=sizeLine:=by decide
def RN:5<=sizeLine:=by decide
def TQ:6<=sizeLine:=by decide
def zl_7:7<=sizeLine:=by decide
def zl_9:9<=sizeLine:=by decide
def PZ:12<=sizeLine:=by decide
def TX:17<=sizeLine:=by decide
def TV:20<=sizeLine:=by decide
def TU:21<=sizeLine:=by decide
def TR:22<=sizeLine:=by decide
def DZ:(0:Int)<2:=by decide
def K4:(0:Int)<3:=by decide
def Aj:(0:Int)<4:=by decide
def Bs:(0:Int)<5:=by decide
def RO:(0:Int)<6:=by decide
def zi_8:(0:Int)<8:=by decide
def Oc:(0:Int)<9:=by decide
def T4:(0:Int)<11:=by decide
def T3:(0:Int)<20:=by decide
def T2:(0:Int)<21:=by decide
def T1:(0:Int)<22:=by decide
def TZ:(0:Int)<36:=by decide
def TY:(0:Int)<39:=by decide
def K5:(0:Int)<10000:=by decide
def Al:(0:Int)<2147483629:=by decide
def Ak:(0:Int)<2147483647:=by decide
section
variable {X:Cx}
def pv(i:Nat){pos:Pos}(b:X.N[i]?=some x:=by rfl)(c:Vis X.env.scope x:=by first|exact Or.inl rfl|exact Or.inr (Or.inl rfl)|exact Or.inr (Or.inr rfl))(hd:(x==("__debug__":qc))=false:=by decide)
 (a:(x==("__classdict__":qc))=false:=by decide):PE X (.Name x pos) (Eb i):=Sr b c hd a
end
def QA{A B:Prop}(h:B):if false=true then A else B:=by
 rw[qz qS];exact h
def QI{A B:Prop}(h:A):if true=true then A else B:=by
 rw[qG rfl];exact h
def Iw{c A B:Prop}[Decidable c](a:c->A)(b:¬c->B):if c then A else B:=by
 by_cases h:c
 .rw[qG h];exact a h
 .rw[qz h];exact b h
def Qi(H H':Hp):Prop:=∀b o,H b=some o->H' b=some o
def Qi.refl(H:Hp):Qi H H:=λ_ _ h=>h
def Qi.trans{H1 H2:Hp}(a:Qi H H1)(b:Qi H1 H2):Qi H H2:=λc o h=>b c o (a c o h)
def Qi.free{H':Hp}(e:Qi H H'){l:qd}(h:H' l=Option.none):H l=Option.none:=by
 cases q:H l with
 |none=>rfl
 |some o=>
  rw[e l o q] at h;cases h
def Qi.seq{K:Frag}{H':Hp}{a:qd}{xs:qb V}(e:Qi H H')(h:zm K H a xs):zm K H' a xs:=by
 rcases h with(h|⟨o,h⟩)|h
 .exact .inl (.inl (e _ _ h))
 .exact .inl (.inr ⟨o,e _ _ h⟩)
 .exact .inr h
section
variable {κ:Type}[DecidableEq κ]
def IM{p:κ×V}{r:qb (κ×V)}{k:κ}(e:p.1=k):Vx (p::r) k=Vx r k:=by
 unfold Vx;rw[jf,qz (by simp[e])]
def IP{p:κ×V}{r:qb (κ×V)}{k:κ}(e:¬p.1=k):Vx (p::r) k=p::Vx r k:=by
 unfold Vx;rw[jf,qG (by simp[e])]
end
variable {x:qc}{X:Cx}{scope:Scope}{env:Env}{N:qf}{fr:qb (Nat×qc)}{pos px:Pos}{elt iter:Expr}{ifs:qb Expr}{wi:TI}{tt:TT}{te:TE}
def Its(x:qc):It:=⟨λi _=>i<x.cps.size,λi H y H'=>H'=H/\∃c,x.cps[i]?=some c/\y=.str ⟨#[c]⟩,λi _=>i=x.cps.size⟩
def Ay{P:Program}{w:World}{K:Frag}{B:Expr}{t:Tok}{it:qd}{ty:String}
 (C:["enumerate","zip","dict_itemiterator","dict_reverseitemiterator","odict_iterator","itertools.zip_longest","itertools.pairwise"].contains ty=false)
 (W:∀y:Around,y.handled=none->Walks P w y it [it] [it] x.cps.size (SignAt x) (λi h=>h.IsStrIter it ty x t i))
 (a:∀(A:Around)(i:Nat)(s:Shared)(Q:qg)(E:qg),s.heap.IsStrIter it ty x t i->Q (.ref it) s->wpAny (model P w) A (pyIter (.ref it)) Q E s) :
 DW P w K B (Its x) [it] it (λi h=>h.IsStrIter it ty x t i) where
 mem:=qq.mpr rfl
 obj:=λi h st b e=>by
  cases qq.mp e;obtain⟨o,q,_,d⟩:=st;exact⟨o,q,λv z=>by rw[d] at z;cases z⟩
 keep:=λi h h' st k=>by
  obtain⟨o,q,r⟩:=st;exact⟨o,k it (qq.mpr rfl) o q,r⟩
 item:=by
  intro X e1 j l hc i pins s σ H E I hf st m;subst e1 j l;have F:=hf it (qq.mpr rfl);refine(W X.A (I.ok.hd hc)).item i s _ _ m st λv h' n D f p=>?_;obtain⟨c,u,G,rfl⟩:=D;have J:Inv X pins σ H {s with heap:=h',toks:=n}:=I.turned (λb o e q=>p b o (λz=>e (qq.mp z)) q) F.1 F.2.1 F.2.2.2.1 F.2.2.2.2.1 F.2.2.2.2.2;obtain⟨o,q,L,d⟩:=id f;exact⟨_,U,Dy (s:={s with heap:=h',toks:=n}) q L d C ⟨.str ⟨#[c]⟩,H,J,⟨u,U⟩,⟨U,c,G,U⟩,f,λb e=>(hf b e).1⟩⟩
 done:=by
  intro X e1 j l hc i pins s σ H E I hf st m;subst e1 j l;have F:=hf it (qq.mpr rfl);have g:i=x.cps.size:=m;subst g;exact(W X.A (I.ok.hd hc)).done s _ _ st λh' n p=>⟨U,I.turned (λb o e q=>p b o (λz=>e (qq.mp z)) q) F.1 F.2.1 F.2.2.2.1 F.2.2.2.2.1 F.2.2.2.2.2⟩
 self:=a
inductive Nn(R:(It->Hp->Prop))(x:V)(H1:Hp):Prop
 |mk:∀y,x=.str y->R (Its y) H1->Nn R x H1
def iStr(te:TE):TI:=λσ H R=>te σ H λx H1=>Nn R x H1
def Es{j l:Expr}{f:TE}(k:PE X l f):PI X j l (iStr f):=by
 intro pins s σ H R I h;refine zS (k pins s σ H _ I h) λv s1 ⟨x,H1,a,m,y,e,q⟩=>?_;subst e;obtain⟨t,rfl⟩:=m;have g:∀b∈[s1.heap.objs.size],WX X pins H1 b:=λb n=>by
  cases qq.mp n;exact a.xW (qp _) (a.hok.fresh (qp _))
 cases i:y.cps.all (·<128)
 .refine wpAny_pyIter_wide i ?_;exact⟨s1.heap.objs.size,[s1.heap.objs.size],_,_,H1,U,a.kept (t':=s1.toks) λb o z=>qk _ z,
   Ay (x:=y) (t:=t) (ty:="str_iterator") ∅ (λp c=>Walks.strWide c _ y t) (λ_ _ _ _ _ st d=>wpAny_pyIter_striter_wide st d),⟨_,qK _ rfl,U,U⟩,g,q⟩
 .refine wpAny_pyIter_ascii i ?_;exact⟨s1.heap.objs.size,[s1.heap.objs.size],_,_,H1,U,a.kept (t':=s1.toks) λb o z=>qk _ z,
   Ay (x:=y) (t:=t) (ty:="str_ascii_iterator") ∅ (λp c=>Walks.strAscii c _ y t) (λ_ _ _ _ _ st d=>wpAny_pyIter_striter_ascii st d),⟨_,qK _ rfl,U,U⟩,g,q⟩
theorem Pr{g:TG}{tb:TS}{D:Uu}{σ:St}{H:Hp}(Pv:Nat->St->Hp->Prop)(h0:Pv 0 σ H)
 (d:∀i c σ H,x.cps[i]?=some c->Pv i σ H->g (.str ⟨#[c]⟩) σ H λb H2=>tb {D with nx:=Pv (i+1),ct:=Pv (i+1),bk:=D.nx} b H2) (hd:∀σ H,Pv x.cps.size σ H->D.nx σ H) :
 V2 g tb D σ (Its x) H:=by
 refine⟨λi m σ H=>m=x.cps.size-i/\i<=x.cps.size/\Pv i σ H,⟨x.cps.size,by simp,zb _,h0⟩,?_⟩;rintro i m σ H ⟨rfl,hi,p⟩;by_cases a:i<x.cps.size
 .refine .inr ⟨a,Pv (i+1),λf H' h=>⟨x.cps.size-(i+1),⋯,U,a,h⟩,?_⟩;rintro v H' ⟨rfl,c,hc,rfl⟩;exact d i c σ _ hc p
 .have e:i=x.cps.size:=by omega
  subst e;exact .inl ⟨U,hd σ H p⟩
def UG(cells:qb (qc×qd)):qb (qc×NameKind)->qb (qc×qd)->qb (qc×qd)
 |[],cs=>cs
 |(n,k)::r,cs=>UG cells r (if k==.free then (match cells.lookup n with|some c=>(n,c)::cs|none=>cs) else cs)
def W7(h:∀y∈scope.names,y.2=.free->∃c,env.cells.lookup y.1=some c):closureFor scope env=pure (UG env.cells scope.names []):=by
 unfold closureFor;generalize ([]:qb (qc×qd))=cs
 revert cs
 generalize scope.names=names at h
 induction names with
 |nil=>intro cs;rfl
 |cons p r d=>
  obtain⟨n,k⟩:=p;intro cs;have a:=d λy f=>h y (qt _ f);by_cases b:k=.free
  .subst b;obtain⟨c,hc⟩:=h (n,.free) qo rfl;have e:cellOf env n=pure c:=by unfold cellOf;rw[hc]<;>rfl
   dsimp only at hc⊢;rw[List.forIn_cons];simp only[jZ,yH,UG,hc];rw[e];exact a _
  .have g:(k==NameKind.free)=false:=by simpa using b
   dsimp only;rw[List.forIn_cons];simp only[g,zx,yQ,UG];exact a _
theorem Xf{cells:qb (qc×qd)}:∀(names:qb (qc×NameKind))(cs:qb (qc×qd)){y:qc}{c:qd},(UG cells names cs).lookup y=some c->cells.lookup y=some c\/cs.lookup y=some c
 |[],cs,y,c,h=>.inr h
 |(n,k)::r,cs,y,c,h=>by
  rcases Xf r _ (show(UG cells r _).lookup y=some c from h) with a|a
  .exact .inl a
  .split at a
   .split at a
    .rename_i d b
     rw[zD] at a;split at a
     .rename_i e
      cases a;exact .inl (by rw[eq_of_beq e];exact b)
     .exact .inr a
    .exact .inr a
   .exact .inr a
theorem Kw{cells:qb (qc×qd)}:∀(names:qb (qc×NameKind))(cs:qb (qc×qd)){y:qc},(∃c,cs.lookup y=some c)->∃c,(UG cells names cs).lookup y=some c
 |[],cs,y,h=>h
 |(n,k)::r,cs,y,h=>by
  refine Kw r _ ?_;split
  .split
   .rw[zD];split
    .exact⟨_,U⟩
    .exact h
   .exact h
  .exact h
theorem U6{cells:qb (qc×qd)}:∀(names:qb (qc×NameKind))(cs:qb (qc×qd)){y:qc},(y,NameKind.free)∈names->(∃c,cells.lookup y=some c)->∃c,(UG cells names cs).lookup y=some c
 |(n,k)::r,cs,y,a,hc=>by
  rcases qy.mp a with e|a
  .cases e;refine Kw r _ ?_;obtain⟨c,hc⟩:=hc;simp only[jZ,yH,hc];exact⟨c,by simp[zD]⟩
  .exact U6 r _ a hc
def Si(env:Env)(p:qc×NameKind):qc×NameKind:=if (p.2==NameKind.free&&env.scope.kind==.function&&env.kindOf p.1==some .cell)=true then (p.1,NameKind.cell) else (p.1,p.2)
theorem AI{env:Env}:∀{names:qb (qc×NameKind)}{x:qc},names.lookup x=some .free->(names.map (Si env)).lookup x=some .cell\/(names.map (Si env)).lookup x=some .free
 |[],_,h=>by simp at h
 |(n,k)::r,x,h=>by
  have b:=@AI env r x;rw[qX];unfold Si
  cases a:x==n with
  |true=>
   rw[zD,a] at h;cases h;by_cases hc:(NameKind.free==NameKind.free&&env.scope.kind==.function&&env.kindOf n==some .cell)=true
   .left;rw[qG hc,zD,a]
   .right;rw[qz hc,zD,a]
  |false=>
   rw[zD,a] at h;by_cases hc:(k==NameKind.free&&env.scope.kind==.function&&env.kindOf n==some .cell)=true
   .rw[qG hc,zD,a];exact b h
   .rw[qz hc,zD,a];exact b h
def UU(h:scope.names.lookup x=some .free):(relabel scope env).names.lookup x=some .cell\/(relabel scope env).names.lookup x=some .free:=
 AI (env:=env) h
def Xq(b:∀y∈scope.names,y.2≠.cell){y:qc}(h:(relabel scope env).names.lookup y=some .cell\/(relabel scope env).names.lookup y=some .free):(y,NameKind.free)∈scope.names:=by
 have key:∀k,(relabel scope env).names.lookup y=some k->k=.cell\/k=.free->(y,NameKind.free)∈scope.names:=λk e d=>by
  have m:=zW e;obtain⟨⟨n,a⟩,hm,q⟩:=zr.mp m;dsimp only at q;split at q
  .rename_i c
   have f:(a==NameKind.free)=true:=by
    simp only[qB] at c;exact c.1.1
   have g:a=.free:=eq_of_beq f;cases q;rw[g] at hm;exact hm
  .cases q;rcases d with z|z
   .exact absurd z (b _ hm)
   .rw[z] at hm;exact hm
 rcases h with h|h
 .exact key _ h (.inl rfl)
 .exact key _ h (.inr rfl)
structure WQ(sc scope:Scope)(N:qf)(x:qc)(fr:qb (Nat×qc)):Prop where
 kind:scope.kind=.function
 loc:scope.names.lookup x=some .local
 names:∀y∈scope.names,y.2=.local->scope.names.lookup y.1=some .local
 kG:∀y∈scope.names,y.2≠.cell
 free:∀y∈scope.names,y.2=.free->sc.names.lookup y.1=some .cell\/sc.names.lookup y.1=some .free
 frk:∀p∈fr,N[p.1]?=some p.2/\scope.names.lookup p.2=some .free
 nd:(x::fr.map (·.2)).Nodup
def wO{sc:Scope}(k:scope.kind=.function)(l:scope.names.lookup x=some .local)(h:((∀y∈scope.names,y.2=.local->scope.names.lookup y.1=some .local)/\(∀y∈scope.names,y.2≠.cell)/\(∀y∈scope.names,y.2=.free->sc.names.lookup y.1=some .cell\/sc.names.lookup y.1=some .free))/\(∀p∈fr,N[p.1]?=some p.2/\scope.names.lookup p.2=some .free)/\(x::fr.map (·.2)).Nodup:=by decide +kernel):WQ sc scope N x fr:=⟨k,l,h.1.1,h.1.2.1,h.1.2.2,h.2.1,h.2.2⟩
def YY(X:Cx)(scope:Scope)(C:qd)(N:qf)(s:Shared)(H:Hp)(a:qb qd):Cx where
 prog:=X.prog
 w:=X.w
 K:=X.K
 mg:=X.mg
 base:=X.base
 A:=X.A
 N:=N
 s₀:=s
 H₀:=H
 env:=compEnvC scope (UG X.env.cells scope.names []) C X.env
 outer:=X.stack
 stack:=X.stack
 ex:=a
 fn:=λ_=>false
 calm:=X.calm
 pn:=[]
 xe:=λ_ _=>False
def xA(σ:St)(fr:qb (Nat×qc)):St:=fr.map λp=>(σ[p.1]?).join
def PTs(X:Cx)(ifs:qb Expr)(t:TT):Prop:=
 ∀(pins:qb (qd×Obj))(s:Shared)(σ:St)(H:Hp)(Q:Bool->Hp->Prop),Inv X pins σ H s->t σ H Q ->
  wpAny (model X.prog X.w) X.A (forIn ifs true λc r=>if r=true then do let ok <-isTrue c X.env (eval c X.env);pure (ForInStep.yield ok) else pure (ForInStep.yield r)) (TP X pins σ Q) X.xe s
def AA:TT:=λ_ H Q=>Q true H
def Xl{σ:St}{H:Hp}{Q:Bool->Hp->Prop}(h:Q true H):AA σ H Q:=h
def VF :PTs X [] AA:=λ_ _ _ H _ I h=>wpAny_tests_nil ⟨H,I,h⟩
def BI{c:Expr}{t:TT}(hc:PT X c t):PTs X [c] t:=λpins s σ H Q I h=>wpAny_tests_one (hc pins s σ H Q I h)
def Ug(J:It)(fr:qb (Nat×qc))(tt:TT)(te:TE)(σ:St)(H1:Hp)(Q:VK):Prop:=∀D,H1 D=none ->
 ∃W:Nat->Nat->qb V->Hp->Prop,(∃m,W 0 m [] (upd H1 D (.lst [])))/\∀i m ys H2,W i m ys H2->H2 D=some (.lst ys) /\
  ((J.stop i H2/\Q (.ref D) H2)\/(J.go i H2/\∀v a,J.yld i H2 v a->tt (some v::xA σ fr) a λb c=>
    if b=true then te (some v::xA σ fr) c λy d=>d D=some (.lst ys)/\ys.length<sizeLine/\∃m',m'<m/\W (i+1) m' (ys++[y]) (upd d D (.lst (ys++[y])))
    else ∃m',m'<m/\W (i+1) m' ys c))
def Lp(wi:TI)(fr:qb (Nat×qc))(tt:TT)(te:TE):TE:=λσ H Q=>wi σ H λJ H1=>Ug J fr tt te σ H1 Q
structure N8(X:Cx)(pins:qb (qd×Obj))(H:Hp)(C:qd):Prop where
 hn:H C=none
 hL:C≠X.env.locals
 h1:C∈X.ex\/X.s₀.heap.objs.size<=C
 h2:∀x c,X.env.cells.lookup x=some c->c≠C
 h3:∀p∈X.pn++pins,p.1≠C
def DG{sc:Scope}{pos':Pos}
 {pins:qb (qd×Obj)} {s:Shared} {σ:St} {H:Hp} {Q:VK} {Q':qg} {use:Option (qe->Sem Unit)}
 (S:WQ sc scope N x fr) (hsc:X.env.scope=sc) (hN:X.N=N) (hc:X.calm=true) (hi:PI X (.Name x px) iter wi)
 (ht:∀(C:qd)(s:Shared)(H:Hp)(f:qb qd),PTs (YY X scope C (x::fr.map (·.2)) s H f) ifs tt)
 (he:∀(C:qd)(s:Shared)(H:Hp)(f:qb qd),PE (YY X scope C (x::fr.map (·.2)) s H f) elt te)
 (hs:∀z,foldedSetIterable iter X.env z=pure z) (I:Inv X pins σ H s) (h:Lp wi fr tt te σ H Q)
 (hfin:∀(D C:qd)(H':Hp)(s':Shared)(m:qc->Option qe),Inv X pins σ H' s'->s'.heap.Ns C m->N8 X pins H' C->Q (.ref D) H'->compPost (model X.prog X.w) X.A X.xe use Q' (.ref D) C (.ok .next) s') :
 wpAny (model X.prog X.w) X.A (comprehension (.ListComp elt [⟨.Name x px,iter,ifs,0⟩] scope pos) scope X.env pos' (newList []) false (eval iter X.env) use) Q' X.xe s:=by
 have vh:∀y,scope.names.lookup y=some .free->X.env.kindOf y=some .cell\/X.env.kindOf y=some .free:=λy M=>by
  show X.env.scope.names.lookup y=_\/X.env.scope.names.lookup y=_;rw[hsc];exact S.free (y,.free) (zW M) rfl
 have gW:∀y∈scope.names,y.2=.free->X.env.kindOf y.1=some .cell\/X.env.kindOf y.1=some .free:=λy M hf=>by
  show X.env.scope.names.lookup y.1=_\/X.env.scope.names.lookup y.1=_;rw[hsc];exact S.free y M hf
 have hkc:∀y∈scope.names,y.2=.free->∃c,X.env.cells.lookup y.1=some c:=λy M hf=>I.ok.has y.1 (gW y M hf);refine wpAny_comprehension_free (use:=use) rfl hs (W7 hkc) S.kind S.names ?_;refine zS (hi pins s σ H _ I h) λxv s1 h1=>zS h1 λitv s2 h2=>?_;obtain⟨it,f,tn,J,H2,rfl,w,T,O,f2,q2⟩:=h2;refine zH (wpAny_newFunctionEnv S.kG (by intro y M;simp at M) (λB g j=>?_) S.kind);dsimp only at g j⊢;have A:Inv X pins σ (upd H2 s2.heap.objs.size (.lst [])) {s2 with heap:=s2.heap.push {cls:=.type "list",data:=.seq ([]:qh).toArray}}:=
  w.vM (its:=[]) (t':=s2.toks) .nil (zb _)
 unfold Ug at q2;obtain⟨W,⟨m0,w0⟩,turn⟩:=q2 s2.heap.objs.size (w.hok.fresh (qp _));generalize hG:s2.heap.push {cls:=.type "list",dict:=none,data:=.seq ([]:qh).toArray}=G at g j A⊢;generalize hD:s2.heap.objs.size=D at A turn w0⊢;generalize hH3:upd H2 D (.lst [])=P at A w0;have Z:∀b o,G.get? b=some o->b≠G.objs.size:=λb o e=>qR (qI e);have old:∀b o,G.get? b=some o->B.get? b=some o:=λb o e=>(j.2 b (Z b o e)).trans (qk _ e);have E:∀b o,s2.heap.get? b=some o->G.get? b=some o:=λb o e=>by rw[<-hG];exact qk _ e
 have fpG:∀b∈f,b<G.objs.size:=λb a=>by
  obtain⟨o,e,_⟩:=T.obj _ _ O b a;exact qI (E b o e)
 have sub:∀{y:qc}{c:qd},(UG X.env.cells scope.names []).lookup y=some c->X.env.cells.lookup y=some c:=λ{y c} e=>by
  rcases Xf _ _ e with z|z
  .exact z
  .simp at z
 have t:∀b∈f,(b∈X.ex\/X.s₀.heap.objs.size<=b)/\b≠X.env.locals/\(∀x c,X.env.cells.lookup x=some c->c≠b)/\∀p∈X.pn++pins,p.1≠b:=λb a=>
  ⟨(f2 b a).2.2.2.1,(f2 b a).2.1,(f2 b a).2.2.2.2.1,(f2 b a).2.2.2.2.2⟩
 have hCL:G.objs.size≠X.env.locals:=yd A.lt;have hC1:X.s₀.heap.objs.size<=G.objs.size:=A.sz;have hC2:∀x c,X.env.cells.lookup x=some c->c≠G.objs.size:=λx c e=>by
  obtain⟨v,o,ho,_⟩:=A.cell x c e;exact Z c o ho
 have hC3:∀p∈X.pn++pins,p.1≠G.objs.size:=λp R=>Z p.1 p.2 (A.pin p R).1;have gO:(YY X scope G.objs.size (x::fr.map (·.2)) {s2 with heap:=G} P f).Ok:=by
  refine⟨w.ok.mod,S.kind,w.ok.glob,w.ok.blt,qp _,λy z c e1 e2=>w.ok.inj y z c (sub e1) (sub e2),λy M=>?_,λy c z=>Bool.noConfusion z,w.ok.hd,w.ok.frames,.inl rfl,λb a=>⟨qR (fpG b a),λy c e=>(t b a).2.2.1 y c (sub e)⟩,
   λb o e=>A.bs b o e,qO w.ok.vB A.sz,λb o e a=>?_,λb a hf=>?_,A.stack,A.xT⟩
  .have m:=Xq S.kG M;exact U6 _ _ m (hkc _ m rfl)
  .rcases (t b a).1 with z|z
   .exact w.ok.kP b o e z
   .exact absurd (qE (qI e) (qO w.ok.vB z)) (zw _)
  .rcases qy.mp (w.kb b hf) with z|z
   .exact(t b a).2.1 z
   .exact(f2 b a).2.2.1 z
 have I4:∀tk:Nat,Inv (YY X scope G.objs.size (x::fr.map (·.2)) {s2 with heap:=G} P f) [] (none::xA σ fr) P {s2 with heap:=B,toks:=tk}:=λtk=>by
  refine⟨gO,U,w.bare,Un.kept old,⟨_,g,λi y v e1 e2 _=>?_⟩,λy c e=>?_,A.hok.fresh (qp _),λy c e=>A.j7 y c (sub e),λp R=>absurd (show p∈([]:qb (qd×Obj)) from R) (by simp),A.hok.kept old,?_⟩
  .cases i with
   |zero=>simp at e2
   |succ i=>
    have F:(fr.map (·.2))[i]?=some y:=e1;have K:(fr.map λp=>(σ[p.1]?).join)[i]?=some (some v):=e2;rw[qC] at F K
    cases R:fr[i]? with
    |none=>rw[R] at F;cases F
    |some p=>
     rw[R] at F K;have ey:p.2=y:=za F;have ev:(σ[p.1]?).join=some v:=za K;have ev':σ[p.1]?=some (some v):=by
      cases q:σ[p.1]? with
      |none=>rw[q] at ev;cases ev
      |some o=>rw[q] at ev;simp only[Option.join] at ev;exact q8 some ev
     have hf:=S.frk p (qL R);rw[ey] at hf;have L:=vh y hf.2;obtain⟨m,_,hl⟩:=w.loc;obtain⟨u,ru,l⟩:=hl p.1 y v (by rw[hN];exact hf.1) ev' (.inr L);refine⟨u,ru,.inr ⟨UU hf.2,?_⟩⟩;rcases l with⟨k,_⟩|⟨_,c,e,z⟩
     .rcases L with L|L
      .rw[L] at k;cases k
      .rw[L] at k;cases k
     .obtain⟨c',ec⟩:=U6 (cells:=X.env.cells) scope.names [] (zW hf.2) ⟨c,e⟩;have:=sub ec;rw[e] at this;cases this;obtain⟨o,ho,hd⟩:=z;exact⟨c,ec,o,old c o (E c o ho),hd⟩
  .obtain⟨v,o,ho,hd⟩:=w.cell y c (sub e);exact⟨v,o,old c o (E c o ho),hd⟩
  .show(none::xA σ fr).length=(x::fr.map (·.2)).length;simp[xA]
 have F:(YY X scope G.objs.size (x::fr.map (·.2)) {s2 with heap:=G} P f).env.scope.names.lookup x=some .local:=wo S.loc;generalize K:YY X scope G.objs.size (x::fr.map (·.2)) {s2 with heap:=G} P f=Y at I4 F;have eP:Y.prog=X.prog:=by rw[<-K];rfl
 have eW:Y.w=X.w:=by rw[<-K];rfl
 have eK:Y.K=X.K:=by rw[<-K];rfl
 have eA:Y.A=X.A:=by rw[<-K];rfl
 have eC:Y.calm=true:=by rw[<-K];exact hc
 have eE:Y.env=compEnvC scope (UG X.env.cells scope.names []) G.objs.size X.env:=by rw[<-K];rfl
 have eN:Y.N=x::fr.map (·.2):=by rw[<-K];rfl
 have eX:Y.xe=λ_ _=>False:=by rw[<-K];rfl
 have eB:∀{σ':St}{H':Hp}{s':Shared}{L:qb (qd×Obj)},Inv Y L σ' H' s'->s'.os=s2.os/\Un (frs X.stack) f P H' G s'.heap:=λ{σ' H' s' L} J=>by
  subst K;exact⟨J.os,J.base⟩
 have hT:=ht G.objs.size {s2 with heap:=G} P f;have hE:=he G.objs.size {s2 with heap:=G} P f;rw[K] at hT hE;have gZ:∀{H':Hp},(∀b∈f,H' b=none)->∀b∈f,WX Y [] H' b:=λ{H'} hn b a=>by
  subst K;refine⟨hn b a,qR (fpG b a),gO.kQ b a,.inl a,λy c e=>(gO.gq b a).2 y c e,λp R=>absurd (show p∈([]:qb (qd×Obj)) from R) (by simp)⟩
 have loop:∀s3:Shared,(∃tk,s3={s2 with heap:=B,toks:=tk}) ->
  codeAny (model X.prog X.w) X.A (.compLoop (.ListComp elt [⟨.Name x px,iter,ifs,0⟩] scope pos) 0 (.ref it) (.ref D) Y.env)
   (compPost (model X.prog X.w) X.A X.xe use Q' (.ref D) G.objs.size) s3:=by
  rintro s3 ⟨tk,rfl⟩;refine codeAny_compLoop_tests (λn s'=>∃i ys o H',Inv Y [] (o::xA σ fr) H' s'/\tn i s'.heap/\(∀b∈f,H' b=none)/\W i n ys H') ?_ m0
   ⟨0,[],none,P,I4 tk,T.keep _ _ _ O λb a o e=>old b o (E b o e),λb a=>?_,w0⟩
  .rintro n s' ⟨i,ys,o,H',J',st',fr',w'⟩;obtain⟨hD',hgo⟩:=turn i n ys H' w';rcases hgo with⟨stop,qn⟩|⟨go,step⟩
   .have Q1:=T.done Y eP eW eK eC i [] s' (o::xA σ fr) H' (notedBy (model X.prog X.w) X.A Y.env λe s''=>compPost (model X.prog X.w) X.A X.xe use Q' (.ref D) G.objs.size (.error e) s'') J' (gZ fr') st' stop;rw[eA] at Q1;refine zS Q1 λr s4 ⟨hr,J4⟩=>?_;subst hr;obtain⟨m,hn,_⟩:=J4.loc;rw[eE] at hn;obtain⟨os4,u4⟩:=eB J4;have wF:H' G.objs.size=none:=by have:=J4.free;rw[eE] at this;exact this
    have gY:yu X.prog X.w H' s4.heap:=by have:=J4.hok;rw[eP,eW] at this;exact this
    exact hfin D G.objs.size H' s4 m (A.call' (ch:=f) (s':=s4) os4 u4 gY J4.bare t) hn ⟨wF,hCL,.inr hC1,hC2,hC3⟩ qn
   .have Q1:=T.item Y eP eW eK eC i [] s' (o::xA σ fr) H' (notedBy (model X.prog X.w) X.A Y.env λe s''=>compPost (model X.prog X.w) X.A X.xe use Q' (.ref D) G.objs.size (.error e) s'') J' (gZ fr') st' go;rw[eA] at Q1;refine zS Q1 λr s4 ⟨u,hr,h4⟩=>?_;subst hr;show wpAny _ _ (letOwnedTupleGo (.Name x px) (.ref it) u>>=λ_=>assign (.Name x px) Y.env u) _ _ s4;refine qj (zS h4 λ_ s5 ⟨v,H5,J5,r5,y5,gK,fr5⟩=>?_);have J5':=J5.pinned (gZ fr5) (T.obj _ _ gK);have G5:=QG (X:=Y) (i:=0) (x:=x) (pos:=px) (by rw[eN];exact S.nd) (by rw[eN];rfl) (.inl F) (.inr F) ([]++We f s5.heap) s5 (o::xA σ fr) H5 v u (λσ6 H6=>σ6=some v::xA σ fr/\H6=H5) J5' r5 ⟨U,U⟩;rw[eP,eW,eA,eX] at G5;refine zt G5 (λ_ s6 ⟨σ6,H6,J6,e6,e6'⟩=>?_) λ_ _ z=>z.elim;subst e6 e6';have T6:=hT _ s6 _ _ _ J6 (step v _ y5);rw[eP,eW,eA,eX] at T6;have again:∀{s7:Shared}{H7:Hp}{zs:qb V},Inv Y ([]++We f s5.heap) (some v::xA σ fr) H7 s7->(∃m',m'<n/\W (i+1) m' zs H7)->∃m,m<n/\∃i ys o H',Inv Y [] (o::xA σ fr) H' s7/\tn i s7.heap/\(∀b∈f,H' b=none)/\W i m ys H':=λ{s7 H7 zs} J7 ⟨m',hm,w7⟩=>by
     refine⟨m',hm,i+1,zs,some v,H7,J7.xo,T.keep _ _ _ gK λb a o e=>(J7.pin (b,o) (qU _ (qU _ (UE a e)))).1,λb a=>?_,w7⟩;obtain⟨o,e,d⟩:=T.obj _ _ gK b a;exact(J7.pin (b,o) (qU _ (qU _ (UE a e)))).2.1
    refine zt T6 (λok s7 ⟨H7,J7,q7⟩=>?_) λ_ _ z=>z.elim
    cases ok with
    |false=>exact again J7 q7
    |true=>
     have E7:=hE _ s7 _ _ _ J7 q7;rw[eP,eW,eA,eX] at E7;show wpAny _ _ (eval elt Y.env) _ _ s7;refine zt E7 (λu8 s8 ⟨y8,H8,J8,r8,hD8,hz8,w8⟩=>?_) λ_ _ z=>z.elim;have A8:=Q8 (X:=Y) _ s8 _ H8 (.ref D) [y8] (.ref D) [u8] (λz H9=>H9=upd H8 D (.lst (ys++[y8]))) J8 rfl (.cons r8 .nil) ⟨D,ys,y8,U,U,hD8,hz8,U⟩;rw[eP,eW,eA,eX] at A8;refine zt A8 (λ_ s9 ⟨z9,H9,J9,_,e9⟩=>?_) λ_ _ z=>z.elim;subst e9;exact again J9 w8
  .rw[<-hH3];have hbD:b≠D:=by
    rw[<-hD];obtain⟨o,e,_⟩:=T.obj _ _ O b a;exact qR (qI e)
   rw[Qj hbD];exact(f2 b a).1
 rw[eE] at loop;exact codeAny_compStart_list (loop _ ⟨_,U⟩) (T.self _ 0 _ _ _ (T.keep _ _ _ O λb a o e=>old b o (E b o e)) (loop _ ⟨_,U⟩))
def WK{sc:Scope}
 (S:WQ sc scope N x fr) (c:X.env.scope=sc) (g:X.N=N) (hc:X.calm=true) (hi:PI X (.Name x px) iter wi)
 (i:∀(C:qd)(s:Shared)(H:Hp)(d:qb qd),PTs (YY X scope C (x::fr.map (·.2)) s H d) ifs tt)
 (he:∀(C:qd)(s:Shared)(H:Hp)(d:qb qd),PE (YY X scope C (x::fr.map (·.2)) s H d) elt te)
 (j:∀z,foldedSetIterable iter X.env z=pure z:=by intro _;rfl) :
 PE X (.ListComp elt [⟨.Name x px,iter,ifs,0⟩] scope pos) (Lp wi fr tt te):=by
 intro pins s σ H Q I h;rw[eval_ListComp];refine DG (use:=none) S c g hc hi i he j I h λD C H' s' m J k a q=>?_;exact⟨m,k,λh' f=>⟨.ref D,H',J.turned (t':=s'.toks) (λb o l e=>(f.2 b l).trans e) a.hn a.hL a.h1 a.h2 a.h3,U,q⟩⟩
def VG{y:qc}{py c:Pos}{i:Nat}{sc:Scope}
 (S:WQ sc scope N x fr) (f:X.env.scope=sc) (t:X.N=N) (hc:X.calm=true) (hnd:X.N.Nodup) (g:X.N[i]?=some y) (r:X.env.scope.names.lookup y=some .local) (hi:PI X (.Name x px) iter wi)
 (u:∀(C:qd)(s:Shared)(H:Hp)(j:qb qd),PTs (YY X scope C (x::fr.map (·.2)) s H j) ifs tt)
 (he:∀(C:qd)(s:Shared)(H:Hp)(j:qb qd),PE (YY X scope C (x::fr.map (·.2)) s H j) elt te)
 (w:∀z,foldedSetIterable iter X.env z=pure z:=by intro _;rfl)
 (k:swapsWith (.ListComp elt [⟨.Name x px,iter,ifs,0⟩] scope pos) (some (.Name y py)) c.line X.env=pure true:=by rfl) :
 PS X (.Assign [.Name y py] (.ListComp elt [⟨.Name x px,iter,ifs,0⟩] scope pos) c) (Ls (Lp wi fr tt te) (XB i)):=by
 intro pins s σ H A I h;rw[exec_Assign_Name_used _ _ _ _ k];refine qj (gg (qj ?_));show wpAny _ X.A (do let _ <-comprehension (.ListComp elt [⟨.Name x px,iter,ifs,0⟩] scope pos) scope X.env _ (newList []) false (eval iter X.env) (some (assign (.Name y py) X.env))) _ _ s;refine qj (zS (DG (use:=some (assign (.Name y py) X.env)) (Q':=λ_ s'=>SP X pins A .next s') S f t hc hi u he w I h λD C H' s' m J B d q=>?_) λ_ s' E=>qu (qu E));show wpAny _ _ (assign (.Name y py) X.env (.ref D)) _ _ s';refine wpAny_assign_Name (AF J hnd g (.inl r) (v:=.ref D) rfl (λs5 F l=>?_) (.inr r));obtain⟨a,G,K⟩:=l;have n:C≠a:=by
  rcases K with z|z
  .rw[z];exact d.hL
  .exact jy (d.h2 _ _ z)
 refine⟨m,B.sameBut G n,λh' p=>⟨_,H',F.turned (t':=s5.toks) (λb o L e=>(p.2 b L).trans e) d.hn d.hL d.h1 d.h2 d.h3,q⟩⟩
def I7{bs:qb Bool}:(List.range bs.length).all (λi=>bs.getD i true)=bs.all id:=by
 rw[jv,zf,zf];constructor
 .intro h b a;obtain⟨i,hi,e⟩:=yx.mp a;have q:=h i (jE.mpr hi);simp only[q4,qx hi,xa] at q;rw[<-e];exact q
 .intro h i hi;have a:=jE.mp hi;simp only[q4,qx a,xa];exact h _ (zU a)
theorem NN(hc:X.calm=true):YO X (.builtin "all") (λxs H Q=>∃(p:qd)(bs:qb Bool),xs=[.ref p]/\zm X.K H p (bs.map V.bl)/\Q (.bl (bs.all id)) H):=by
 intro pins s σ H xs us Q I r h;obtain⟨p,bs,rfl,g,q⟩:=h;obtain⟨u,rfl,j⟩:=Ul r;cases j;obtain⟨its,f,pl,hz⟩:=I.list g;have hlen:=f.length;rw[qi] at hlen;have c:p<s.heap.objs.size:=by obtain⟨o,e,_⟩:=pl.isList;exact qI e
 refine call_all_walk (xj pl.isList ?_);refine⟨s.heap.objs.size,_,[s.heap.objs.size],its.toArray.size,_,_,λi=>bs.getD i true,U,Walks.list (A:=X.A.in1) (I.ok.hd hc) s.heap.objs.size p (qR c) its.toArray,⟨⟨_,qK _ rfl,U,U⟩,pl.isList.push _⟩,?_,?_⟩
 .intro i v s' Q' n k d;have a:its[i]?=some v:=by simpa using k
  have hi:i<its.length:=(qJ.mp a).1;have l:(bs.map V.bl)[i]?=some (V.bl (bs.getD i true)):=by
   rw[qC,qx ⋯];simp[q4,qx (show i<bs.length by omega)]
  obtain⟨u,e1,m⟩:=f.get l;rw[a] at e1;cases e1;cases m;exact zQ d
 .intro h' a d;have hsz:its.toArray.size=bs.length:=by rw[qY];exact hlen.symm
  rw[hsz,I7];exact⟨.bl (bs.all id),H,I.kept (t':=a) λb o e=>d b o (λz=>absurd (qI e) (by rw[qq.mp z];exact zw _)) (qk _ e),U,q⟩
def PK:V->Option qe
 |.ty n=>some (.type n)
 |.ref a=>some (.ref a)
 |_=>none
def Yw :YO X (.builtin "isinstance") (λxs H Q=>∃x c f t b,xs=[x,c]/\PK c=some f/\Uw X.K H x t/\kitOne X.K t f=some b/\Q (.bl b) H):=by
 intro pins s σ H xs us Q I r h;obtain⟨x,c,f,t,b,rfl,d,ty,g,q⟩:=h;obtain⟨u,i,rfl,j,rc⟩:=E5 r;have e:i=f:=by
  cases c with
  |ty n=>cases d;exact rc
  |ref a=>cases d;exact rc
  |_=>cases d
 subst e;exact Iy I j ty g λk=>⟨.bl b,H,I.tok k,U,q⟩
def VC{xs:qf}:∀{us:qh},QD (xs.map V.str) us->StrsAre us xs:=by
 induction xs with
 |nil=>intro us r;rw[yA] at r;cases r;exact .nil
 |cons y ys a=>
  intro us r;rw[qX] at r
  cases r with
  |cons b c=>
   obtain⟨t,e⟩:=b;subst e;exact .cons y t (a c)
inductive FH(K:Frag)(x:V)(xs:qb V)(H:Hp)(Q:VK):Prop
 |mk:∀(sep:qc)(p:qd)(ys:qf),x=.str sep->xs=[.ref p]->zm K H p (ys.map V.str)->(ys.map (·.length)).sum+ys.length*sep.length<=16777216->Q (.str (Txt.join sep ys)) H->FH K x xs H Q
def bx(K:Frag):V->qb V->Hp->VK->Prop:=λx xs H Q=>FH K x xs H Q
def KW :vz X "str.join" (bx X.K):=by
 intro pins s σ H x xs v us Q I a b h;obtain⟨sep,p,ys,rfl,rfl,c,hz,q⟩:=h;obtain⟨t,rfl⟩:=a;obtain⟨u,rfl,d⟩:=Ul b;cases d;obtain⟨its,r,pl,_⟩:=I.list c;exact join_list pl.isList (by have:=VC r;simpa using this) hz λt' k=>⟨.str (Txt.join sep ys),H,I.tok k,⟨t',U⟩,q⟩
mutual
inductive RD(K:Frag)(H:Hp):V->PyData->Prop
 |non:RD K H .non .none
 |bl (b:Bool):RD K H (.bl b) (.bool b)
 |int (i:Int):RD K H (.int i) (.int i)
 |str (x:qc):RD K H (.str x) (.str x)
 |lst {a:qd} {xs:qb V} {ds:qb PyData}:zm K H a xs->kR K H xs ds->RD K H (.ref a) (.list ds)
 |tup {a:qd} {xs:qb V} {ds:qb PyData}:zu K H a xs->kR K H xs ds->RD K H (.ref a) (.tuple ds)
inductive kR(K:Frag)(H:Hp):qb V->qb PyData->Prop
 |nil:kR K H [] []
 |cons {x:V} {xs:qb V} {d:PyData} {ds:qb PyData}:RD K H x d->kR K H xs ds->kR K H (x::xs) (d::ds)
end
mutual
theorem RD.reads{X:Cx}{pins:qb (qd×Obj)}{σ:St}{H:Hp}{s:Shared}(I:Inv X pins σ H s):∀{x:V}{d:PyData}{u:qe},RD X.K H x d->QL x u->∃as,Reads s.heap u d as
 |_,_,_,.non,r=>by cases (show _=Value.none from r);exact⟨_,.none⟩
 |_,_,_,.bl b,r=>by cases (show _=Value.bool b from r);exact⟨_,.bool b⟩
 |_,_,_,.int i,r=>by obtain⟨t,e⟩:=r;subst e;exact⟨_,.int i t⟩
 |_,_,_,.str x,r=>by obtain⟨t,e⟩:=r;subst e;exact⟨_,.str x t⟩
 |_,_,_,.lst (a:=a) f g,r=>by
  cases (show _=Value.ref a from r);obtain⟨its,h,pl,_⟩:=I.list f;obtain⟨as,j⟩:=kR.reads I g h;obtain⟨o,e,c,n,d⟩:=pl.isList;exact⟨_,.list e c d (by simpa using j)⟩
 |_,_,_,.tup (a:=a) f g,r=>by
  cases (show _=Value.ref a from r);obtain⟨its,h,pl,_⟩:=I.tuple f;obtain⟨as,j⟩:=kR.reads I g h;obtain⟨o,e,c,n,d⟩:=pl;exact⟨_,.tuple e c d (by simpa using j)⟩
theorem kR.reads{X:Cx}{pins:qb (qd×Obj)}{σ:St}{H:Hp}{s:Shared}(I:Inv X pins σ H s):∀{xs:qb V}{ds:qb PyData}{us:qh},kR X.K H xs ds->QD xs us->∃as,ReadsAll s.heap us ds as
 |_,_,_,.nil,r=>by cases r;exact⟨_,.nil⟩
 |_,_,_,.cons a b,r=>by
  cases r with
  |cons c d=>
   obtain⟨as,a1⟩:=RD.reads I a c;obtain⟨bs,a2⟩:=kR.reads I b d;exact⟨_,.cons a1 a2⟩
end
inductive L1(K:Frag)(x:V)(y:V)(H:Hp)(Q:VK):Prop
 |mk:∀d e,RD K H x d->RD K H y e->SeqAt.shaped d=true->SeqAt.shaped e=true->Q (.bl (PyData.eqv d e)) H->L1 K x y H Q
def bC(K:Frag):R2:=λx y H Q=>L1 K x y H Q
inductive LW(K:Frag)(x:V)(y:V)(H:Hp)(Q:VK):Prop
 |mk:∀d e,RD K H x d->RD K H y e->SeqAt.shaped d=true->SeqAt.shaped e=true->Q (.bl (!PyData.eqv d e)) H->LW K x y H Q
def bu(K:Frag):R2:=λx y H Q=>LW K x y H Q
def My(a:X.A.units+64<cLine):xf X (compareOp .Eq) (bC X.K):=by
 intro pins s σ H x y v u Q I b c h;obtain⟨d,e,hd,he,f,g,q⟩:=h;obtain⟨as,i⟩:=hd.reads I b;obtain⟨bs,j⟩:=he.reads I c;exact eq_dataH i j f g a ⟨.bl _,H,I,U,q⟩
def Et(a:X.A.units+64<cLine):xf X (compareOp .NotEq) (bu X.K):=by
 intro pins s σ H x y v u Q I b c h;obtain⟨d,e,hd,he,f,g,q⟩:=h;obtain⟨as,i⟩:=hd.reads I b;obtain⟨bs,j⟩:=he.reads I c;exact ne_dataH i j f g a ⟨.bl _,H,I,U,q⟩
variable {H:Hp}{X:Cx}{x:qc}{pos:Pos}{e:Expr}{es:qb Expr}{te:TE}{t:TA}
theorem Yx{α:Type}{xs:qb α}{i:Int}(h0:0<=i)(b:i<(xs.length:Int)):∃v,xX xs i=some v/\v∈xs/\xs[i.toNat]?=some v:=by
 have a:i.toNat<xs.length:=by omega
 refine⟨xs[i.toNat],?_,zU a,qx a⟩;have e:((i.toNat:Nat):Int)=i:=by omega
 have q:=QB (xs:=xs) (j:=i.toNat) (qx a);rw[e] at q;exact q
def C7{ns:qb Int}{v:V}(h:v∈ns.map V.int):∃z,v=.int z/\z∈ns:=by
 obtain⟨z,hz,e⟩:=zr.mp h;exact⟨z,e.symm,hz⟩
def Qi.zL{p:qd}{o:HO}(h:H p=none):Qi H (upd H p o):=λb u e=>by rw[Qj (Qo e h)];exact e
def Qi.zE{H':Hp}{p:qd}{o:HO}(s:Qi H H')(h:H p=none):Qi H (upd H' p o):=λb u e=>by rw[Qj (Qo e h)];exact s b u e
def Qi.tup{K:Frag}{H':Hp}{a:qd}{xs:qb V}(e:Qi H H')(h:zu K H a xs):zu K H' a xs:=by
 rcases h with(h|⟨o,h⟩)|h
 .exact .inl (.inl (e _ _ h))
 .exact .inl (.inr ⟨o,e _ _ h⟩)
 .exact .inr h
def Yo{v:V}(a:Gl X x)(h:∃u,X.mg x=some u/\QL v u)(hd:(x==("__debug__":qc))=false:=by decide):PE X (.Name x pos) (tC v):=by
 obtain⟨u,hm,r⟩:=h;exact BK a hm r hd
def Ph(K:Frag)(a:X.K=K:=by rfl):IxR X (bz K):=a▸Qt
def LI(K:Frag)(a:X.K=K:=by rfl):wQ X (bt K):=a▸Xo
section
variable {X:Cx}{o e:Expr}{es:qb Expr}{to:TE}{t:TA}{name:qc}{apos cpos:Pos}{T id:String}{r:V->qb V->Hp->VK->Prop}
def OS(K:Frag)(d:PlainAttrs T)(slot:Slot T name id)(c:typeOf (.builtin id)=pure (.type "method_descriptor"))(hm:vz X id r)(e:PE X o to)(f:X.K=K:=by rfl)
 (a:attributeBase o name X.env (eval o X.env)=eval o X.env:=by rfl) (b:(apos.endLine==cpos.line)=true:=by rfl):PE X (.Call (.Attribute o name apos) [] [] cpos) (ay K T r to):=
 f▸GF d slot c hm e a b
end
def Ep:Expr->Bool
 |.Starred ..=>false
 |_=>true
def Gf{env:Env}(h:Ep e=true):starEach (e::es) env=(false,eval e env)::starEach es env:=by
 cases e<;>first|rfl|(cases h)
def qV(a:PE X e te)(b:PA X es t)(h:Ep e=true:=by rfl):PA X (e::es) (WY te t):=OU a b (Gf h)
structure gx(X:Cx)(es:qb Expr)(t:TA):Prop where
 h:PA X es t
def Qm :gx X [] Cq:=⟨Qe⟩
def Qc(a:PE X e te)(b:gx X es t)(h:Ep e=true:=by rfl):gx X (e::es) (WY te t):=⟨qV a b.h h⟩
def VH(h:gx X es t):PE X (.List es pos) (RT t):=Mj h.h
def FL{a:Nat}(h:gx X es t):PE X (.Tuple es a pos) (ah t):=Ss h.h
structure QE(X:Cx)(e:Expr)(t:TE):Prop where
 h:PE X e t
structure QS(X:Cx)(st:Stmt)(t:TS):Prop where
 h:PS X st t
structure QSs(X:Cx)(st:qb Stmt)(t:TS):Prop where
 h:yV X st t
def L6(h:gx X es t):QE X (.List es pos) (RT t):=⟨Mj h.h⟩
def bD{st:Stmt}{t:TS}(h:PS X st t):QS X st t:=⟨h⟩
def L5{i:Nat}{pos':Pos}(a:X.N.Nodup)(hi:X.N[i]?=some x)(b:Loc X.env.scope x)(he:QE X e te)(c:swapsWith e (some (.Name x pos')) pos.line X.env=pure false:=by rfl)(hf:X.fn x=true\/X.env.scope.names.lookup x=some .local:=by first|exact .inl rfl|exact .inr rfl|assumption) :
 QS X (.Assign [.Name x pos'] e pos) (Ls te (XB i)):=⟨Ql a he.h hi b c hf⟩
def bE{c:Expr}{a b:qb Stmt}{d:TT}{t u:TS}(hc:PT X c d)(e:QSs X a t)(f:yV X b u):QS X (.If c a b pos) (RU d t u):=⟨Qu hc e.h f⟩
def Gx{st:Stmt}{rest:qb Stmt}{t u:TS}(a:QS X st t)(b:QSs X rest u):QSs X (st::rest) (Hz t u):=⟨Qb a.h b.h⟩
def OI{st:Stmt}{t:TS}(a:QS X st t):QSs X [st] t:=⟨Qd a.h⟩
theorem DF{fr:qb (Nat×qc)}{σ:St}{H1:Hp}{Q:VK}(f:Nat->V)(hz:x.cps.size<=sizeLine)
 (d:∀(c:Nat)(g:Hp)(Q':VK),c∈x.cps.toList->Q' (f c) g->te (some (.str ⟨#[c]⟩)::xA σ fr) g Q')
 (h:∀D,H1 D=none->Q (.ref D) (upd H1 D (.lst (x.cps.toList.map f)))) :
 Ug (Its x) fr AA te σ H1 Q:=by
 unfold Ug;intro D j;refine⟨λi m ys H2=>m=x.cps.size-i/\i<=x.cps.size/\ys=(x.cps.toList.take i).map f/\H2=upd H1 D (.lst ys),⟨x.cps.size,by simp,zb _,by simp,U⟩,?_⟩;rintro i m ys H2 ⟨rfl,hi,rfl,rfl⟩;refine⟨Qg,?_⟩;by_cases a:i<x.cps.size
 .refine .inr ⟨a,?_⟩;rintro v g ⟨rfl,c,hc,rfl⟩;refine Xl (QI ?_);have b:x.cps.toList[i]?=some c:=by simpa using hc
  refine d c _ _ (qL b) ⟨Qg,?_,x.cps.size-(i+1),⋯,U,a,?_,Xk⟩
  .rw[qi,zi];simp only[qQ];omega
  .rw[zo,b];simp
 .have e:i=x.cps.size:=by omega
  subst e;have b:x.cps.toList.take x.cps.size=x.cps.toList:=qP (by simp);refine .inl ⟨U,?_⟩;rw[b];exact h D j
theorem Ga{α:Type}(g:α->Nat):∀(l:qb α),(∀x∈l,g x=1)->(l.map g).sum=l.length
 |[],_=>rfl
 |a::r,h=>by
  rw[qX,xg,h a qo,Ga g r λx b=>h x (qt _ b),qw];omega
def Y4(x y:qc):(x++y).length=x.length+y.length:=by
 show(x.cps++y.cps).size=_;rw[Array.size_append];rfl
def FQ(c:Nat):(⟨#[c]⟩:qc).length=1:=rfl
variable {X:Cx}
def vn(x:qc):Prop:=∀c∈x.cps.toList,c<128
def vn.ok{x:qc}(h:vn x):PyData.strOk x=true:=by
 unfold PyData.strOk;rw[Array.all_eq_true'];intro c hc;have:=h c (Array.mem_toList_iff.mpr hc);exact qv ⋯
def vn.one{x:qc}{c:Nat}(h:vn x)(hc:c∈x.cps.toList):vn ⟨#[c]⟩:=λd hd=>by
 have:d=c:=by simpa using hd
 rw[this];exact h c hc
inductive CG(x:V)(xs:qb V)(H:Hp)(Q:VK):Prop
 |mk:∀y,x=.str y->xs=[]->vn y->y.length<=1000000->Q (.str ⟨y.cps.map up1⟩) H->CG x xs H Q
def Sj:V->qb V->Hp->VK->Prop:=λx xs H Q=>CG x xs H Q
def M0 :vz X "str.upper" Sj:=by
 intro pins s σ H x xs v us Q I a b h;obtain⟨y,rfl,rfl,c,hz,q⟩:=h;obtain⟨t,rfl⟩:=a;cases b;refine SCL.upper ⋯ λ_=>?_;rw[upper_ascii c];exact⟨.str _,H,I.tok _,⟨_,U⟩,q⟩
inductive CI(x:V)(xs:qb V)(H:Hp)(Q:VK):Prop
 |mk:∀y,x=.str y->xs=[]->vn y->y.length<=1000000->Q (.str ⟨y.cps.map lo1⟩) H->CI x xs H Q
def Sl:V->qb V->Hp->VK->Prop:=λx xs H Q=>CI x xs H Q
def C2 :vz X "str.lower" Sl:=by
 intro pins s σ H x xs v us Q I a b h;obtain⟨y,rfl,rfl,c,hz,q⟩:=h;obtain⟨t,rfl⟩:=a;cases b;refine SCL.lower ⋯ λ_=>?_;rw[lower_ascii c];exact⟨.str _,H,I.tok _,⟨_,U⟩,q⟩
theorem Kk:∀{xs:qb V}{us:qh},xs.length=us.length->(∀(j:Nat)(x:V)(u:qe),xs[j]?=some x->us[j]?=some u->QL x u)->QD xs us
 |[],[],_,_=>.nil
 |[],_::_,h,_=>by cases h
 |_::_,[],h,_=>by cases h
 |x::xs,u::us,b,a=>.cons (a 0 x u rfl rfl) (Kk (by simpa using b) λj y w c d=>a (j+1) y w (by simpa using c) (by simpa using d))
theorem KV.at{b:Type}:∀{a:qb (b×V)}{vs:qb (b×qe)}{j:Nat}{p:b×V}{q:b×qe},KV a vs->a[j]?=some p->vs[j]?=some q->p.1=q.1
 |_,_,_,_,_,.nil,h,_=>by simp at h
 |_,_,0,_,_,.cons r _,c,d=>by
  simp only[List.getElem?_cons_zero,wk] at c d;subst c d;exact r.1
 |_,_,j+1,_,_,.cons _ t,c,d=>KV.at (j:=j) (show KV _ _ from t) (by simpa using c) (by simpa using d)
def Ab(hc:X.calm=true):YO X (.type "list") (λxs H Q=>∃p a,xs=[.ref p]/\H p=some (.dK a)/\∀l,H l=none->Q (.ref l) (upd H l (.lst (a.map λd=>kV d.1)))):=by
 intro pins s σ H xs us Q I r h;obtain⟨p,a,rfl,m,q⟩:=h;obtain⟨u,rfl,n⟩:=Ul r;cases n;obtain⟨hz,e,vs,g,o,v,w,A,B,C,D,E,F⟩:=Be I.hok m;have G:s.heap.DictAt (Ya X.prog X.w) p vs w:=⟨o,v,A,B,C,D,E,F⟩;have hlen:a.length=vs.length:=KV.length g;refine PySem.W.kdl_call (PySem.W.kdl_dict e) (I.ok.hd hc) G (by rw[<-hlen];exact hz) λh' J b K L M c=>?_;have N:QD (a.map λd=>kV d.1) b.toList:=by
  refine Kk (by rw[qi,hlen];exact c.1.symm.trans (by simp)) λj x u e1 O=>?_;rw[qC] at e1
  cases f:a[j]? with
  |none=>rw[f] at e1;cases e1
  |some d=>
   rw[f] at e1;cases e1;obtain⟨k,y,P,R⟩:=c.2 j u (by rw[<-jQ];exact O);have S:d.1=k:=KV.at g f P;show QL (kV d.1) u;rw[S];rcases Yk (show GZ k u=true from R) with⟨i,t,rfl,rfl⟩|⟨z,t,rfl,rfl⟩
   .exact⟨t,U⟩
   .exact⟨t,U⟩
 exact⟨.ref s.heap.objs.size,_,I.laid (t':=J) L (qp _) (show QY X.prog X.w _ h' _ (.lst _) from⟨by rw[qi];exact hz,b.toList,K,N,by rw[xk];exact M⟩),U,q _ (I.hok.fresh (qp _))⟩
def Uo:∀l:qb (qc×Tok),QD ((l.map (·.1)).map V.str) (strValues l)
 |[]=>.nil
 |p::r=>.cons ⟨p.2,U⟩ (Uo r)
inductive AK(x:V)(xs:qb V)(H:Hp)(Q:VK):Prop
 |mk:∀y,x=.str y->xs=[]->y.length<=1000000->(∀l,H l=none->Q (.ref l) (upd H l (.lst ((Txt.words y).map V.str))))->AK x xs H Q
def OD:V->qb V->Hp->VK->Prop:=λx xs H Q=>AK x xs H Q
variable {xs:qf}
def Vr{K:Frag}{H:Hp}:∀xs:qf,kR K H (xs.map V.str) (xs.map PyData.str)
 |[]=>.nil
 |x::r=>.cons (.str x) (Vr r)
def FF{K:Frag}{H:Hp}{a:qd}(h:zm K H a (xs.map V.str)):RD K H (.ref a) (.list (xs.map PyData.str)):=.lst h (Vr xs)
theorem Wn:∀{xs:qf},(∀x∈xs,vn x)->canLayAll0 (xs.map PyData.str)=true/\PyData.depthAll (xs.map PyData.str)=0
 |[],_=>⟨U,U⟩
 |x::r,h=>by
  have q:=Wn (xs:=r) λy a=>h y (qt _ a);have e:=(h x qo).ok;simp only[qX,canLayAll0,canLay0,PyData.depthAll,PyData.depth,q.1,q.2,e];exact⟨U,U⟩
theorem Kt:∀xs ys:qf,PyData.eqvAll (xs.map PyData.str) (ys.map PyData.str)=decide (xs=ys)
 |[],[]=>by simp[PyData.eqvAll]
 |[],_::_=>by simp[PyData.eqvAll]
 |_::_,[]=>by simp[PyData.eqvAll]
 |x::r,y::t=>by
  simp only[qX,PyData.eqvAll,PyData.eqv,Kt r t];by_cases h:x=y<;>by_cases h':r=t<;>simp[h,h']
def YW(acc:qf)(t:qc):qf:=if t∈acc then acc else acc++[t]
def Xu(xs:qf):qf:=xs.foldl YW []
def AR(xs:qf)(t:qc):Xu (xs++[t])=YW (Xu xs) t:=by
 unfold Xu;rw[yR];rfl
theorem W4:∀(xs acc:qf),(xs.foldl YW acc).length<=acc.length+xs.length
 |[],acc=>qp _
 |t::r,acc=>by
  rw[jw];refine qO (W4 r _) ?_;unfold YW;split
  .rw[qw];omega
  .rw[qm,ql,qw];omega
def MA(xs:qf):(Xu xs).length<=xs.length:=by
 have:=W4 xs [];rw[zJ,Nat.zero_add] at this;exact this
theorem W3:∀(xs acc:qf){t:qc},t∈xs.foldl YW acc->t∈acc\/t∈xs
 |[],acc,t,h=>.inl h
 |u::r,acc,t,h=>by
  rw[jw] at h;rcases W3 r _ h with z|z
  .unfold YW at z;split at z
   .exact .inl z
   .rcases qT.mp z with y|y
    .exact .inl y
    .exact .inr (by rw[qq.mp y];exact qo)
  .exact .inr (qt _ z)
def CO{t:qc}(h:t∈Xu xs):t∈xs:=by
 rcases W3 xs [] h with z|z
 .exact nomatch z
 .exact z
def YC{t:qc}:inV (.str t) (xs.map V.str)=decide (t∈xs):=by
 unfold inV;rw[List.any_map,jv,j0,qW];constructor
 .rintro⟨x,a,e⟩;have:x=t:=eq_of_beq (show(x==t)=true from e);rw[<-this];exact a
 .intro h;exact⟨t,h,show(t==t)=true from jZ t⟩
def Q2(xs:qf):(xs.map V.str).all XC=true:=by
 rw[List.all_map,zf];intro x _;rfl
theorem Bg{α:Type}(f:α->V)(xs:qb α)(v:Int)(h:0<=v):Ub (xs.map f) none (some v)=(xs.take v.toNat).map f:=by
 have a:¬v<0:=by omega
 simp only[Ub,HT.jP,qz a,xK,qi,kM,<-yn];congr 1;by_cases b:v.toNat<=xs.length
 .rw[Nat.min_eq_left b]
 .rw[Nat.min_eq_right ⋯,qP (qp _),qP ⋯]
theorem DC{α:Type}(f:α->V)(xs:qb α)(x:α):Ub ((xs++[x]).map f) none (some (-1))=xs.map f:=by
 have a:(-1:Int)<0:=by decide
 simp only[Ub,HT.jP,qG a,xK,qi,qm,ql,kM,<-yn];congr 1;have e:(-1+((xs.length+1:Nat):Int)).toNat=xs.length:=by omega
 rw[e,List.take_left]
abbrev aZ:qc:="abcdefghijklmnopqrstuvwxyz0123456789"
def N1:aZ.cps.toList.length=36:=by decide +kernel
def Tx:vn aZ:=by
 have h:(aZ.cps.toList.all λc=>decide (c<128))=true:=by decide +kernel
 intro c hc;exact qM (zf.mp h c hc)
def N0:aZ.length<=sizeLine:=by
 have:aZ.length=36:=by decide +kernel
 rw[this];decide
structure QO(x:qc):Prop where
 lo:1<=x.length
 hi:x.length<=20
 in_:∀c∈x.cps.toList,c∈aZ.cps.toList
def QO.asc{x:qc}(h:QO x):vn x:=λc hc=>Tx c (h.in_ c hc)
def RA(ys:qf):(Txt.join "" ys).cps.toList=(ys.map (·.cps.toList)).flatten:=by
 have key:∀(r:qf)(acc:Array Nat),(r.foldl (λacc p=>acc++("":qc).cps++p.cps) acc).toList=acc.toList++(r.map (·.cps.toList)).flatten:=by
  intro r
  induction r with
  |nil=>intro acc;simp
  |cons y r a=>
   intro acc;rw[jw,a,qX,jS];have e:("":qc).cps=#[]:=by decide +kernel
   rw[e];simp
 cases ys with
 |nil=>rfl
 |cons y r=>exact(key r y.cps).trans (by rw[qX,jS])
def YX(x:qc):x.length=x.cps.toList.length:=by simp[Str.length]
def Iu{ys:qf}(h:∀y∈ys,y.length=1):(Txt.join "" ys).length=ys.length:=by
 rw[YX,RA,List.length_flatten,yf];exact Ga _ _ λy a=>by
  have:=h y a;rw[YX] at this;exact this
def QM(x y:qc):(x++y).cps.toList=x.cps.toList++y.cps.toList:=by show(x.cps++y.cps).toList=_;simp
def Bb:("":qc).length=0:=by decide +kernel
def Nf{ys:qf}(h:∀y∈ys,y.length=1)(a:ys.length<=100000):(ys.map (·.length)).sum+ys.length*("":qc).length<=16777216:=by
 rw[Ga _ _ h,Bb];omega
def WH{z:qc}{i:Int}(h0:0<=i)(d:i<(z.cps.toList.length:Int)):∃c,xX z.cps.toList i=some c/\c∈z.cps.toList:=by
 obtain⟨c,a,b,_⟩:=Yx h0 d;exact⟨c,a,b⟩
def cj:1000002<=sizeLine:=by decide
theorem Ie{X:Cx}:vz X "str.split" OD:=by
 intro pins s σ H x xs v us Q I d e h;obtain⟨y,rfl,rfl,hz,q⟩:=h;obtain⟨t,rfl⟩:=d;cases e;have i:=cj;have e1:=(StrLaws.sw_weight y).1;have j:=StrLaws.len_le_wsum (Builtin.Str.spaceWords y (y.length+1));have c:(Builtin.Str.spaceWords y (y.length+1)).length<=sizeLine:=by omega
 have f:(Builtin.Str.spaceWords y (y.length+1)).length<=y.length+1:=by omega
 refine xG vq (xF _ _ _) kS (F.args_str_split_1 _) (meets_str_split_space y t ⋯ c) ?_;cases hw:Builtin.Str.spaceWords y (y.length+1)==[(0,y.length)]
 .simp only[zx,yQ];rw[strsFrom_eq];have a:(numbered s.toks (wordsOf y)).map (·.1)=Txt.words y:=(numbered_texts _ _).trans (qz (xB hw)).symm;have g:(Txt.words y).length<=sizeLine:=by
   rw[<-a,numbered_texts];show(List.map _ _).length<=_;rw[qi];exact c
  have b:=Uo (numbered s.toks (wordsOf y));rw[a] at b;exact⟨.ref s.heap.objs.size,_,I.vM b (by rw[qi];exact g),U,q _ I.fresh⟩
 .simp only[yH];have a:([(y,t)]:qb (qc×Tok)).map (·.1)=Txt.words y:=(qG hw).symm;have b:=Uo [(y,t)];rw[a] at b;exact⟨.ref s.heap.objs.size,_,I.vM (t':=s.toks) b (by rw[qi,<-a];show 1<=sizeLine;decide),U,q _ I.fresh⟩
abbrev rS:qc:="abcdefghijklmnopqrstuvwxyzABCDEFGHIJKLMNOPQRSTUVWXYZ0123456789"
def LM(c:Nat):Bool:=decide (c∈rS.cps.toList)
def gS(c:Nat):Nat:=if LM c=true then lo1 c else 32
def CA:(rS.cps.toList.all λc=>!Unicode.isSpace (lo1 c))=true:=by decide +kernel
def DP:Unicode.isSpace 32=true:=by decide +kernel
def vu(st:qf×qc)(c:Nat):qf×qc:=if LM c=true then (st.1,st.2++⟨#[lo1 c]⟩) else (st.1++[st.2],Str.empty)
def vd(l:qb Nat):qf×qc:=l.foldl vu ([],Str.empty)
def Ws(w:qc):Bool:=!(w==Str.empty)
def xD(x:qc):qf:=((vd x.cps.toList).1++[(vd x.cps.toList).2]).filter Ws
def WM(w:qc):(w.length=0)↔w=Str.empty:=⟨KWd.len0,λh=>by rw[h];rfl⟩
theorem Cz:∀(l:qb Nat)(st q:qf×qc),q.2=st.2->q.1=st.1.filter Ws->((l.map gS).foldl KWd.step q).2=(l.foldl vu st).2/\((l.map gS).foldl KWd.step q).1=(l.foldl vu st).1.filter Ws
 |[],st,q,a,b=>⟨a,b⟩
 |c::l,st,q,a,b=>by
  rw[qX,jw,jw];refine Cz l _ _ ?_ ?_
  all_goals
   unfold KWd.step vu gS;cases d:LM c
   .simp only[zx,yQ,DP,yH];by_cases he:q.2.length=0
    .rw[qG he];have e:=(WM _).mp he
     first
     |exact e
     |(rw[b,ja,<-a,e];simp[Ws])
    .have e:Ws q.2=true:=by
      unfold Ws;rw[yS,zV];exact λz=>he ((WM _).mpr z)
     first
     |(rw[qz he];done)
     |(rw[qz he,b,ja,<-a];simp[e])
   .have f:Unicode.isSpace (lo1 c)=false:=by
     have:=zf.mp CA c (qM d);simpa using this
    simp only[yH,f,zx,yQ]
    first
    |exact b
    |rw[a]
def Hu{x y:qc}(h:y.cps.toList=x.cps.toList.map gS):Txt.words y=xD x:=by
 rw[KWd.words_scan];have q:=Cz x.cps.toList ([],Str.empty) ([],Str.empty) rfl rfl;unfold KWd.fin KWd.scan xD vd;rw[h,ja,q.1,q.2];by_cases he:(List.foldl vu ([],Str.empty) x.cps.toList).2.length=0
 .rw[qG he];have e:=(WM _).mp he;rw[e];simp[Ws]
 .rw[qz he];have e:Ws (List.foldl vu ([],Str.empty) x.cps.toList).2=true:=by
   unfold Ws;rw[yS,zV];exact λz=>he ((WM _).mpr z)
  rw[jf,e];simp
def bF{X:Cx}{a b:Expr}{c tb:TE}{pos:Pos}{op:Operator}{r:R2}(d:xf X (binaryOp op) r)(e:PE X a c)(f:QE X b tb):QE X (.BinOp a op b pos) (tOp r c tb):=⟨Qh d e f.h⟩
def Sm{X:Cx}{st:qb Stmt}{t:TS}(h:yV X st t):QSs X st t:=⟨h⟩
def PQ{α β:Type}(f:α->β)(xs:qb α)(i:Int):xX (xs.map f) i=(xX xs i).map f:=by
 unfold xX;rw[qi]
 cases wD xs.length i with
 |none=>rfl
 |some j=>simp
abbrev g4:qc:="abcde1"
def NZ:g4.cps.toList.length=6:=by decide +kernel
def NY:g4.length<=sizeLine:=by decide +kernel
def U4:qf:=["and","or","not","then","if","thread","to","any","day","stop","place","answers","before","after","word","title","from","in","marked","mark","unmark"]
def FP:U4.length=21:=rfl
def YJ(b i:Int)(j:Nat):Nat:=if (j:Int)=b / 4%6 then (xX g4.cps.toList i).getD 0 else (xX aZ.cps.toList ((b / 500+7*(j:Int))%36)).getD 0
def YG(b i:Int):qc:=if b%4=1 then (xX U4 ((b / 4+5*i)%21)).getD "" else ⟨((List.range (b / 4%6+1+b / 24%(20-b / 4%6)).toNat).map (YJ b i)).toArray⟩
def SD:(U4.all λw=>decide (1<=w.length)&&decide (w.length<=20)&&w.cps.toList.all λc=>decide (c∈aZ.cps.toList))=true:=by decide +kernel
def cu:(g4.cps.toList.all λc=>decide (c∈aZ.cps.toList))=true:=by decide +kernel
theorem UA{b i:Int}(d:0<=i)(e:i<6):QO (YG b i):=by
 unfold YG;split
 .obtain⟨v,f,a,_⟩:=Yx (xs:=U4) (i:=(b / 4+5*i)%21) (qF _ ∅) (by rw[FP];exact qA _ ∅);rw[f];have q:=zf.mp SD v a;rw[qB,qB] at q;exact⟨qM q.1.1,qM q.1.2,λc hc=>qM (zf.mp q.2 c hc)⟩
 .have h:0<=b / 4%6:=qF _ ∅;have k:b / 4%6<6:=qA _ ∅;have l:0<=b / 24%(20-b / 4%6):=qF _ ⋯;have m:b / 24%(20-b / 4%6)<20-b / 4%6:=qA _ ⋯;have g:(⟨((List.range (b / 4%6+1+b / 24%(20-b / 4%6)).toNat).map (YJ b i)).toArray⟩:qc).length=(b / 4%6+1+b / 24%(20-b / 4%6)).toNat:=by
   rw[YX,List.toList_toArray,qi,jJ]
  refine⟨by rw[g];omega,by rw[g];omega,λc hc=>?_⟩;have f:c∈(List.range (b / 4%6+1+b / 24%(20-b / 4%6)).toNat).map (YJ b i):=hc;obtain⟨j,_,rfl⟩:=zr.mp f;unfold YJ;split
  .obtain⟨c,hc,a⟩:=WH (z:=g4) (i:=i) d (by rw[NZ];exact e);rw[hc];exact qM (zf.mp cu c a)
  .obtain⟨c,hc,a⟩:=WH (z:=aZ) (i:=(b / 500+7*(j:Int))%36) (qF _ ∅) (by rw[N1];exact qA _ ∅);rw[hc];exact a
variable {x:qc}
structure Cg(K:Frag)(x qual:qc)(st:Stmt)(f:qd)(fd:FuncData):Prop where
 ex:∃(oc:qe)(od:Option qd)(dV kV doc pm:qe)(an:Option qd)(cdv ct:qe)(osl:Array (Option qe)),
  fd=fnOf x qual (Yb st) (QK st) (Qr st) dV kV doc pm an cdv ct/\K.lookup f=some ⟨oc,od,.func fd,osl⟩/\codeIn K cdv qual=true
 kp:keepIn K (.ref f)=true
def Cg.ok{P:Program}{w:World}{K:Frag}{mg:qc->Option qe}{base:Heap}{qual:qc}{st:Stmt}{f:qd}{fd:FuncData}{N ps:qf}{k:Nat}{sp:Sp}(F:Cg K x qual st f fd)(S:Y5 N ps (Qr st))
 (b:∀(a:qe)(A:Around)(outer:qb Env)(s:Shared)(H:Hp)(vs:qb V)(Q:VK)(E:XK),QF k (A.deeper (envOfC qual (Qr st) s.heap.objs.size f a))->sp vs H Q E ->
   ∃t,yV (Ua jx P w K mg base N qual (Qr st) f a A outer s H E).wB (QK st) t/\t {nx:=λ_ H'=>Q .non H',rt:=Q} (start N vs) H) (len:∀vs H Q E,sp vs H Q E->vs.length=ps.length:=by intro _ _ _ _ h;cases h;subst_vars;rfl):Y6 P w K mg base jx (k+1) f fd ps sp:=by
 obtain⟨i,j,l,kV,doc,pm,an,a,ct,e,rfl,lk,c⟩:=F.ex;refine Ny lk c S len λA outer s H vs Q E g d=>?_;obtain⟨t,h,q⟩:=b a A outer s H vs Q E g d;exact⟨t,h.wB,q⟩
def Pn{K:Frag}{qual:qc}{st:Stmt}{f:qd}{e d:qe}{g an:Option qd}{b:Array (Option qe)}{kV doc pm a ct:qe}(l:K.lookup f=some ⟨e,g,.func (fnOf x qual (Yb st) (QK st) (Qr st) d kV doc pm an a ct),b⟩)
 (c:codeIn K a qual=true) (k:keepIn K (.ref f)=true):Cg K x qual st f (fnOf x qual (Yb st) (QK st) (Qr st) d kV doc pm an a ct):=⟨⟨e,g,d,kV,doc,pm,an,a,ct,b,U,l,c⟩,k⟩
def BS{K:Frag}{H:Hp}{x y:V}{d:PyData}{Q:VK}(a:RD K H x d)(b:RD K H y d)(h:SeqAt.shaped d=true)(q:Q (.bl false) H):bu K x y H Q:=
 ⟨d,d,a,b,h,h,by rw[SeqAt.eqv_refl d (vJ h)];exact q⟩
def Pz{K:Frag}{H:Hp}{x y:V}{d:PyData}{Q:VK}(a:RD K H x d)(b:RD K H y d)(h:SeqAt.shaped d=true)(q:Q (.bl true) H):bC K x y H Q:=
 ⟨d,d,a,b,h,h,by rw[SeqAt.eqv_refl d (vJ h)];exact q⟩
def kI(x:qc):Prop:=∀c∈x.cps.toList,32<=c/\c<127
def kI.asc(h:kI x):vn x:=λc hc=>wm (h c hc).2 ∅
def kI.app{y:qc}(a:kI x)(b:kI y):kI (x++y):=λc hc=>by
 rw[QM] at hc;rcases qT.mp hc with z|z
 .exact a c z
 .exact b c z
def Vh(h:(x.cps.toList.all λc=>decide (32<=c/\c<127))=true):kI x:=λc hc=>qM (zf.mp h c hc)
def Yt{x y:qc}(h:x.cps.toList=y.cps.toList):x=y:=by
 cases x;cases y;have:=Array.toList_inj.mp h;simp only at this;rw[this]
def Yg{rs:qb Int}{m:Int}(b:∀r∈rs,0<=r/\r<m)(i:Int)(h0:0<=i)(c:i<(rs.length:Int)):∃z,xX (rs.map V.int) i=some (V.int z)/\0<=z/\z<m:=by
 obtain⟨v,d,a,_⟩:=Yx (xs:=rs.map V.int) h0 (by rw[qi];exact c);obtain⟨z,hz,rfl⟩:=zr.mp a;exact⟨z,d,b z hz⟩
inductive AJ(x:V)(xs:qb V)(H:Hp)(Q:VK):Prop
 |mk:∀(z y:qc),x=.str z->xs=[.str y]->(y.length==0)=false->z.length<=1000000->(∀l,H l=none->Q (.ref l) (upd H l (.lst ((Txt.split z y).map V.str))))->AJ x xs H Q
def OC:V->qb V->Hp->VK->Prop:=λx xs H Q=>AJ x xs H Q
theorem Mw(x y:qc):(Builtin.Str.partsBetween x (Builtin.Str.occurrences x y 0 x.length (x.length+1)) y.length).length<=x.length+2:=by
 rw[StrLaws.partsBetween_eq];have h:=StrLaws.occ_length_le_len x y 0 x.length (x.length+1);have e:∀(b:qb Nat)(w a:Nat),(StrLaws.partsFrom x w a b).length<=b.length+1:=by
  intro b
  induction b with
  |nil=>intro w a;simp[StrLaws.partsFrom]
  |cons c r d=>
   intro w a;have:=d w (c+w);simp only[StrLaws.partsFrom,qw];omega
 have:=e (Builtin.Str.occurrences x y 0 x.length (x.length+1)) y.length 0;omega
theorem Ic{X:Cx}:vz X "str.split" OC:=by
 intro pins s σ H x xs v us Q I c d h;obtain⟨x,y,rfl,rfl,b,hz,q⟩:=h;obtain⟨t,rfl⟩:=c;obtain⟨u,rfl,f⟩:=Ul d;obtain⟨t',rfl⟩:=f;have i:=cj;have j:=Mw x y;have g:=split_le x y;have fin:∀(l:qb (qc×Tok))(k:Nat),l.map (·.1)=Txt.split x y->EP X pins σ Q (.ref s.heap.objs.size) {s with toks:=k,heap:=s.heap.push {cls:=.type "list",data:=.seq (strValues l).toArray}}:=λl k e=>by
  have a:=Uo l;rw[e] at a;exact⟨.ref s.heap.objs.size,_,I.vM (t':=k) a (by rw[qi];omega),U,q _ I.fresh⟩
 cases a:(decide (x.length<y.length)||decide (Builtin.Str.strKind x<Builtin.Str.strKind y))
 .cases hf:(Builtin.Str.occurrences x y 0 x.length (x.length+1)).isEmpty
  .refine xG vq (xF _ _ _) kS (F.args_str_split_2 _ _) (meets_str_split_sep x y t t' a b hf ⋯ ⋯) ?_;show wants _ _ _ {s with toks:=_,heap:=s.heap.push {cls:=.type "list",data:=.seq (strsFrom s.toks (Builtin.Str.partsBetween x (Builtin.Str.occurrences x y 0 x.length (x.length+1)) y.length)).toArray}};rw[strsFrom_eq];exact fin (numbered s.toks _) _ ((numbered_texts _ _).trans ((qz (xB a)).trans (qz (xB hf))).symm)
  .exact xG vq (xF _ _ _) kS (F.args_str_split_2 _ _) (meets_str_split_not_found x y t t' a b hf) (fin [(x,t)] _ ((qz (xB a)).trans (qG hf)).symm)
 .exact xG vq (xF _ _ _) kS (F.args_str_split_2 _ _) (meets_str_split_cannot_occur x y t t' a) (fin [(x,t)] _ (qG a).symm)
def Aq{X:Cx}:YO X (.type "int") (λxs H Q=>∃(x:qc)(n:Int),xs=[.str x]/\x.length<=640/\PySem.intText? x=some n/\Q (.int n) H):=by
 intro pins s σ H xs us Q I r h;obtain⟨x,n,rfl,a,b,q⟩:=h;obtain⟨u,rfl,t,rfl⟩:=Ul r;exact PySem.W.KIN.call_text b a ⟨.int n,H,I.tok _,⟨_,U⟩,q⟩
theorem EN{c:Nat}:∀{p q X Y:qb Nat},¬c∈p->¬c∈q->p++c::X=q++c::Y->p=q/\X=Y
 |[],[],_,_,_,_,h=>⟨U,(yo h).2⟩
 |[],b::q,_,_,_,d,h=>absurd (by rw[(yo h).1];exact qo) d
 |a::p,[],_,_,e,_,h=>absurd (by rw[<-(yo h).1];exact qo) e
 |a::p,b::q,X,Y,e,d,h=>by
  obtain⟨f,g⟩:=yo h;obtain⟨e1,i⟩:=EN (λz=>e (qt _ z)) (λz=>d (qt _ z)) g;exact⟨by rw[f,e1],i⟩
def CW:("\n":qc).cps.toList=[10]:=by decide +kernel
def Uk(a b:qc)(r:qf):(Str.join "\n" (a::b::r)).cps.toList=a.cps.toList++10::(Str.join "\n" (b::r)).cps.toList:=by
 show((a++"\n")++Str.join "\n" (b::r)).cps.toList=_;rw[QM,QM,CW,zh];rfl
theorem Ds:∀{ps qs:qf},ps≠[]->qs≠[]->(∀p∈ps,¬10∈p.cps.toList)->(∀p∈qs,¬10∈p.cps.toList)->Str.join "\n" ps=Str.join "\n" qs->ps=qs
 |[],_,h,_,_,_,_=>absurd rfl h
 |_,[],_,h,_,_,_=>absurd rfl h
 |[p],[q],_,_,_,_,h=>by
  have h:p=q:=h;rw[h]
 |[p],q::a::r,_,_,b,_,h=>by
  have h:p=Str.join "\n" (q::a::r):=h;have:=b p qo;rw[h,Uk] at this;exact absurd (qU _ qo) this
 |p::c::r,[q],_,_,_,d,h=>by
  have h:Str.join "\n" (p::c::r)=q:=h;have:=d q qo;rw[<-h,Uk] at this;exact absurd (qU _ qo) this
 |p::c::r,q::a::f,_,_,b,d,h=>by
  have e:(Str.join "\n" (p::c::r)).cps.toList=(Str.join "\n" (q::a::f)).cps.toList:=by rw[h]
  rw[Uk,Uk] at e;obtain⟨e1,g⟩:=EN (b p qo) (d q qo) e;have i:=Ds (ps:=c::r) (qs:=a::f) (by simp) (by simp) (λz hz=>b z (qt _ hz)) (λz hz=>d z (qt _ hz)) (Yt g);rw[Yt e1,i]
def bT:("\n":qc)=⟨#[10]⟩:=by decide +kernel
def Gg{ps:qf}(h0:ps≠[])(h:∀p∈ps,¬10∈p.cps.toList):Txt.split (Txt.join "\n" ps) "\n"=ps:=by
 have e:Txt.join "\n" ps=Str.join "\n" ps:=jF _ _;rw[e];refine Ds (λz=>?_) h0 (λp a=>?_) h (jI _ _)
 .have:=split_pos (Str.join "\n" ps) "\n";rw[z] at this;exact absurd this ∅
 .rw[bT] at a;exact StrLaws.split_free _ 10 p a
variable {d:Int}
def Ey(h0:0<=d):PySem.NumText.AllDigits (Str.ofString (toString d)).cps.toList:=by
 obtain⟨m,rfl⟩:=kz h0;intro c hc;rw[k8] at hc;obtain⟨ch,a,e⟩:=zr.mp hc;have r:=digit_range (Nat.isDigit_of_mem_toDigits ∅ ∅ a);rw[<-e];exact r
def O5(h0:0<=d):((PySem.NumText.digitsVal (Str.ofString (toString d)).cps.toList:Nat):Int)=d:=by
 obtain⟨m,rfl⟩:=kz h0;rw[k8,PySem.W.KIN.val_back]
def FY(h0:0<=d)(a:d<=9999):(Str.ofString (toString d)).length<=4:=toString_length_le h0 ∅ ⋯
def O6(h0:0<=d):1<=(Str.ofString (toString d)).length:=by
 obtain⟨m,rfl⟩:=kz h0;rw[YX,k8,qi];exact toDigits_len_ge 10 m
def wc(a b:qc):Bool:=!ltCps b.cps.toList a.cps.toList
def IA(x:qc):qf->qf
 |[]=>[x]
 |y::r=>if wc x y=true then x::y::r else y::IA x r
def YA:qf->qf
 |[]=>[]
 |x::r=>IA x (YA r)
def KY(a b:qc):wc a b=true↔¬b.cps.toList<a.cps.toList:=by
 unfold wc;rw[ltCps_eq];simp
def Im(a b:qc):wc a b=true\/wc b a=true:=by
 rw[KY,KY];by_cases h:b.cps.toList<a.cps.toList
 .exact .inr (List.lt_asymm h)
 .exact .inl h
def AZ{a b c:qc}(d:wc a b=true)(e:wc b c=true):wc a c=true:=by
 rw[KY] at *
 intro h;rcases strKind.negTrans c.cps.toList b.cps.toList a.cps.toList (by simpa using h) with z|z
 .exact e (by simpa using z)
 .exact d (by simpa using z)
def BX{a b:qc}(c:wc a b=true)(d:wc b a=true):a=b:=by
 rw[KY] at *
 exact Yt (List.le_antisymm (List.not_lt.mp c) (List.not_lt.mp d))
abbrev w9(l:qf):Prop:=l.Pairwise λa b=>wc a b=true
theorem Gs:∀(p:qc)(l:qf),risingS p l=true->w9 (p::l)
 |p,[],_=>j3 _ _
 |p,x::r,h=>by
  have h:(wc p x&&risingS x r)=true:=h;rw[qB] at h;have b:=Gs x r h.2;refine jn.mpr ⟨λy a=>?_,b⟩;rcases qy.mp a with rfl|a
  .exact h.1
  .exact AZ h.1 ((jn.mp b).1 y a)
def LH:∀{l:qf},sortedS l=true->w9 l
 |[],_=>List.Pairwise.nil
 |x::r,h=>Gs x r h
def G4(x:qc):∀l:qf,(IA x l).Perm (x::l)
 |[]=>.refl _
 |y::r=>by
  unfold IA;split
  .exact .refl _
  .exact((G4 x r).cons y).trans (.swap x y r)
def UB:∀l:qf,(YA l).Perm l
 |[]=>.refl _
 |x::r=>(G4 x (YA r)).trans ((UB r).cons x)
theorem F7(x:qc):∀{l:qf},w9 l->w9 (IA x l)
 |[],_=>j3 _ _
 |y::r,h=>by
  unfold IA;obtain⟨b,c⟩:=jn.mp h;split
  .rename_i a
   refine jn.mpr ⟨λz hz=>?_,h⟩;rcases qy.mp hz with rfl|hz
   .exact a
   .exact AZ a (b z hz)
  .rename_i a
   refine jn.mpr ⟨λz hz=>?_,F7 x c⟩;rcases qy.mp ((G4 x r).mem_iff.mp hz) with rfl|hz
   .exact(Im y z).resolve_right a
   .exact b z hz
def WD:∀l:qf,w9 (YA l)
 |[]=>.nil
 |x::r=>F7 x (WD r)
theorem Gk:∀{a b:qf},a.Perm b->w9 a->w9 b->a=b
 |[],b,p,_,_=>(List.nil_perm.mp p).symm
 |x::r,[],p,_,_=>absurd p.symm.nil_eq (by simp)
 |x::r,y::t,p,f,g=>by
  have e:x=y:=by
   have c:x∈y::t:=p.mem_iff.mp qo;have d:y∈x::r:=p.mem_iff.mpr qo;rcases qy.mp c with e|c
   .exact e
   .rcases qy.mp d with e|d
    .exact e.symm
    .exact BX ((jn.mp f).1 y d) ((jn.mp g).1 x c)
  subst e;rw[Gk (List.perm_cons _ |>.mp p) (jn.mp f).2 (jn.mp g).2]
def Xn{a b:qf}(p:a.Perm b)(h:w9 a):a=YA b:=Gk (p.trans (UB b).symm) h (WD b)
def V6{a b:qf}(p:a.Perm b):YA a=YA b:=Xn ((UB a).trans p) (WD a)
def XR(l:qf):(YA l).length=l.length:=(UB l).length_eq
def HD{l:qf}{x:qc}:x∈YA l↔x∈l:=(UB l).mem_iff
def VA:∀{us:qh}{ss:qf},StrsAre us ss->QD (ss.map V.str) us
 |_,_,.nil=>.nil
 |_,_,.cons x t h=>.cons ⟨t,U⟩ (VA h)
theorem Ky{X:Cx}:YO X (.builtin "sorted") (λxs H Q=>∃p ss,xs=[.ref p]/\zm X.K H p (ss.map V.str)/\ss.length<64/\∀l,H l=none->Q (.ref l) (upd H l (.lst ((YA ss).map V.str)))):=by
 intro pins s σ H xs us Q I r h;obtain⟨p,ss,rfl,f,m,q⟩:=h;obtain⟨u,rfl,g⟩:=Ul r;cases g;obtain⟨its,d,pl,_⟩:=I.list f;have a:=VC d;have hlen:its.length=ss.length:=by have:=d.length;rw[qi] at this;exact this.symm
 refine sorted_strs pl.isList a ⋯ λout c a1 a2 i=>?_;obtain⟨e,he⟩:=sortedAll_at s.heap its out;have j:c=YA ss:=Xn a2 (LH i);subst j;have hsz:s.heap.objs.size<=s.heap.objs.size+1:=zC _;refine⟨.ref (s.heap.objs.size+1),_,I.laid (t':=s.toks) (λb u k=>sortedAll_old k) hsz (show QY X.prog X.w _ _ _ (.lst ((YA ss).map V.str)) from⟨?_,out.toList,e,VA a1,?_⟩),U,q _ (I.hok.fresh hsz)⟩
 .rw[qi,XR];exact Yj (⋯)
 .rw[xk];exact he
structure Ai(sc scope:Scope)(N:qf)(x y:qc)(fr:qb (Nat×qc)):Prop where
 kind:scope.kind=.function
 loc:scope.names.lookup x=some .local
 loc2:scope.names.lookup y=some .local
 names:∀y∈scope.names,y.2=.local->scope.names.lookup y.1=some .local
 kG:∀y∈scope.names,y.2≠.cell
 free:∀y∈scope.names,y.2=.free->sc.names.lookup y.1=some .cell\/sc.names.lookup y.1=some .free
 frk:∀p∈fr,N[p.1]?=some p.2/\scope.names.lookup p.2=some .free
 nd:(x::y::fr.map (·.2)).Nodup
def WN(K:Frag)(J:It)(fr:qb (Nat×qc))(c:TE)(σ:St)(H1:Hp)(Q:VK):Prop:=∀D,H1 D=none ->
 ∃W:Nat->Nat->qb V->Hp->Prop,(∃m,W 0 m [] (upd H1 D (.lst [])))/\∀i m ys H2,W i m ys H2->H2 D=some (.lst ys) /\
  ((J.stop i H2/\Q (.ref D) H2)\/(J.go i H2/\∀v a,J.yld i H2 v a->∃p v1 v2,v=.ref p/\zu K a p [v1,v2]/\c (some v1::some v2::xA σ fr) a λy b=>b D=some (.lst ys)/\ys.length<sizeLine/\∃m',m'<m/\W (i+1) m' (ys++[y]) (upd b D (.lst (ys++[y])))))
def Lo(K:Frag)(a:TI)(fr:qb (Nat×qc))(b:TE):TE:=λσ H Q=>a σ H λJ H1=>WN K J fr b σ H1 Q
def IX{X:Cx}{x y:qc}{px py pt:Pos}{kt:Nat}{iter elt:Expr}{scope sc:Scope}{pos pos':Pos}{N:qf}{fr:qb (Nat×qc)}{wi:TI}{te:TE}
 {pins:qb (qd×Obj)} {s:Shared} {σ:St} {H:Hp} {Q:VK} {Q':qg} {use:Option (qe->Sem Unit)}
 (S:Ai sc scope N x y fr) (hsc:X.env.scope=sc) (hN:X.N=N) (hc:X.calm=true) (hi:PI X (.Tuple [.Name x px,.Name y py] kt pt) iter wi)
 (he:∀(C:qd)(s:Shared)(H:Hp)(t:qb qd),PE (YY X scope C (x::y::fr.map (·.2)) s H t) elt te)
 (hs:∀z,foldedSetIterable iter X.env z=pure z) (I:Inv X pins σ H s) (h:Lo X.K wi fr te σ H Q)
 (hfin:∀(D C:qd)(H':Hp)(s':Shared)(m:qc->Option qe),Inv X pins σ H' s'->s'.heap.Ns C m->N8 X pins H' C->Q (.ref D) H'->compPost (model X.prog X.w) X.A X.xe use Q' (.ref D) C (.ok .next) s') :
 wpAny (model X.prog X.w) X.A (comprehension (.ListComp elt [⟨.Tuple [.Name x px,.Name y py] kt pt,iter,[],0⟩] scope pos) scope X.env pos' (newList []) false (eval iter X.env) use) Q' X.xe s:=by
 have vh:∀y,scope.names.lookup y=some .free->X.env.kindOf y=some .cell\/X.env.kindOf y=some .free:=λy O=>by
  show X.env.scope.names.lookup y=_\/X.env.scope.names.lookup y=_;rw[hsc];exact S.free (y,.free) (zW O) rfl
 have gW:∀y∈scope.names,y.2=.free->X.env.kindOf y.1=some .cell\/X.env.kindOf y.1=some .free:=λy O hf=>by
  show X.env.scope.names.lookup y.1=_\/X.env.scope.names.lookup y.1=_;rw[hsc];exact S.free y O hf
 have hkc:∀y∈scope.names,y.2=.free->∃c,X.env.cells.lookup y.1=some c:=λy O hf=>I.ok.has y.1 (gW y O hf);refine wpAny_comprehension_free (use:=use) rfl hs (W7 hkc) S.kind S.names ?_;refine zS (hi pins s σ H _ I h) λxv s1 h1=>zS h1 λitv s2 h2=>?_;obtain⟨it,t,tn,J,H2,rfl,w,T,P,f2,q2⟩:=h2;refine zH (wpAny_newFunctionEnv S.kG (by intro y O;simp at O) (λB f g=>?_) S.kind);dsimp only at f g⊢;have A:Inv X pins σ (upd H2 s2.heap.objs.size (.lst [])) {s2 with heap:=s2.heap.push {cls:=.type "list",data:=.seq ([]:qh).toArray}}:=
  w.vM (its:=[]) (t':=s2.toks) .nil (zb _)
 unfold WN at q2;obtain⟨W,⟨m0,w0⟩,turn⟩:=q2 s2.heap.objs.size (w.hok.fresh (qp _));generalize hG:s2.heap.push {cls:=.type "list",dict:=none,data:=.seq ([]:qh).toArray}=G at f g A⊢;generalize hD:s2.heap.objs.size=D at A turn w0⊢;generalize hH3:upd H2 D (.lst [])=R at A w0;have neG:∀b o,G.get? b=some o->b≠G.objs.size:=λb o e=>qR (qI e);have old:∀b o,G.get? b=some o->B.get? b=some o:=λb o e=>(g.2 b (neG b o e)).trans (qk _ e);have E:∀b o,s2.heap.get? b=some o->G.get? b=some o:=λb o e=>by rw[<-hG];exact qk _ e
 have fpG:∀b∈t,b<G.objs.size:=λb a=>by
  obtain⟨o,e,_⟩:=T.obj _ _ P b a;exact qI (E b o e)
 have sub:∀{y:qc}{c:qd},(UG X.env.cells scope.names []).lookup y=some c->X.env.cells.lookup y=some c:=λ{y c} e=>by
  rcases Xf _ _ e with z|z
  .exact z
  .simp at z
 have j:∀b∈t,(b∈X.ex\/X.s₀.heap.objs.size<=b)/\b≠X.env.locals/\(∀x c,X.env.cells.lookup x=some c->c≠b)/\∀p∈X.pn++pins,p.1≠b:=λb a=>
  ⟨(f2 b a).2.2.2.1,(f2 b a).2.1,(f2 b a).2.2.2.2.1,(f2 b a).2.2.2.2.2⟩
 have hCL:G.objs.size≠X.env.locals:=yd A.lt;have hC1:X.s₀.heap.objs.size<=G.objs.size:=A.sz;have hC2:∀x c,X.env.cells.lookup x=some c->c≠G.objs.size:=λx c e=>by
  obtain⟨v,o,M,_⟩:=A.cell x c e;exact neG c o M
 have hC3:∀p∈X.pn++pins,p.1≠G.objs.size:=λp Z=>neG p.1 p.2 (A.pin p Z).1;have gO:(YY X scope G.objs.size (x::y::fr.map (·.2)) {s2 with heap:=G} R t).Ok:=by
  refine⟨w.ok.mod,S.kind,w.ok.glob,w.ok.blt,qp _,λy z c e1 e2=>w.ok.inj y z c (sub e1) (sub e2),λy O=>?_,λy c z=>Bool.noConfusion z,w.ok.hd,w.ok.frames,.inl rfl,λb a=>⟨qR (fpG b a),λy c e=>(j b a).2.2.1 y c (sub e)⟩,
   λb o e=>A.bs b o e,qO w.ok.vB A.sz,λb o e a=>?_,λb a hf=>?_,A.stack,A.xT⟩
  .have m:=Xq S.kG O;exact U6 _ _ m (hkc _ m rfl)
  .rcases (j b a).1 with z|z
   .exact w.ok.kP b o e z
   .exact absurd (qE (qI e) (qO w.ok.vB z)) (zw _)
  .rcases qy.mp (w.kb b hf) with z|z
   .exact(j b a).2.1 z
   .exact(f2 b a).2.2.1 z
 have I4:∀tk:Nat,Inv (YY X scope G.objs.size (x::y::fr.map (·.2)) {s2 with heap:=G} R t) [] (none::none::xA σ fr) R {s2 with heap:=B,toks:=tk}:=λtk=>by
  refine⟨gO,U,w.bare,Un.kept old,⟨_,f,λi y v e1 e2 _=>?_⟩,λy c e=>?_,A.hok.fresh (qp _),λy c e=>A.j7 y c (sub e),λp Z=>absurd (show p∈([]:qb (qd×Obj)) from Z) (by simp),A.hok.kept old,?_⟩
  .cases i with
   |zero=>simp at e2
   |succ i=>cases i with
    |zero=>simp at e2
    |succ i=>
     have F:(fr.map (·.2))[i]?=some y:=e1;have K:(fr.map λp=>(σ[p.1]?).join)[i]?=some (some v):=e2;rw[qC] at F K
     cases Z:fr[i]? with
     |none=>rw[Z] at F;cases F
     |some p=>
      rw[Z] at F K;have ey:p.2=y:=za F;have ev:(σ[p.1]?).join=some v:=za K;have ev':σ[p.1]?=some (some v):=by
       cases q:σ[p.1]? with
       |none=>rw[q] at ev;cases ev
       |some o=>rw[q] at ev;simp only[Option.join] at ev;exact q8 some ev
      have hf:=S.frk p (qL Z);rw[ey] at hf;have L:=vh y hf.2;obtain⟨m,_,hl⟩:=w.loc;obtain⟨u,ru,l⟩:=hl p.1 y v (by rw[hN];exact hf.1) ev' (.inr L);refine⟨u,ru,.inr ⟨UU hf.2,?_⟩⟩;rcases l with⟨k,_⟩|⟨_,c,e,z⟩
      .rcases L with L|L
       .rw[L] at k;cases k
       .rw[L] at k;cases k
      .obtain⟨c',ec⟩:=U6 (cells:=X.env.cells) scope.names [] (zW hf.2) ⟨c,e⟩;have:=sub ec;rw[e] at this;cases this;obtain⟨o,M,hd⟩:=z;exact⟨c,ec,o,old c o (E c o M),hd⟩
  .obtain⟨v,o,M,hd⟩:=w.cell y c (sub e);exact⟨v,o,old c o (E c o M),hd⟩
  .show(none::none::xA σ fr).length=(x::y::fr.map (·.2)).length;simp[xA]
 have F:(YY X scope G.objs.size (x::y::fr.map (·.2)) {s2 with heap:=G} R t).env.scope.names.lookup y=some .local:=wo S.loc2;have K:(YY X scope G.objs.size (x::y::fr.map (·.2)) {s2 with heap:=G} R t).env.scope.names.lookup x=some .local:=wo S.loc;generalize L:YY X scope G.objs.size (x::y::fr.map (·.2)) {s2 with heap:=G} R t=Y at I4 K F;have eP:Y.prog=X.prog:=by rw[<-L];rfl
 have eW:Y.w=X.w:=by rw[<-L];rfl
 have eK:Y.K=X.K:=by rw[<-L];rfl
 have eA:Y.A=X.A:=by rw[<-L];rfl
 have eC:Y.calm=true:=by rw[<-L];exact hc
 have eE:Y.env=compEnvC scope (UG X.env.cells scope.names []) G.objs.size X.env:=by rw[<-L];rfl
 have eN:Y.N=x::y::fr.map (·.2):=by rw[<-L];rfl
 have eX:Y.xe=λ_ _=>False:=by rw[<-L];rfl
 have eB:∀{σ':St}{H':Hp}{s':Shared}{M:qb (qd×Obj)},Inv Y M σ' H' s'->s'.os=s2.os/\Un (frs X.stack) t R H' G s'.heap:=λ{σ' H' s' M} J=>by
  subst L;exact⟨J.os,J.base⟩
 have hE:=he G.objs.size {s2 with heap:=G} R t;rw[L] at hE;have gZ:∀{H':Hp},(∀b∈t,H' b=none)->∀b∈t,WX Y [] H' b:=λ{H'} hn b a=>by
  subst L;refine⟨hn b a,qR (fpG b a),gO.kQ b a,.inl a,λy c e=>(gO.gq b a).2 y c e,λp Z=>absurd (show p∈([]:qb (qd×Obj)) from Z) (by simp)⟩
 have loop:∀s3:Shared,(∃tk,s3={s2 with heap:=B,toks:=tk}) ->
  codeAny (model X.prog X.w) X.A (.compLoop (.ListComp elt [⟨.Tuple [.Name x px,.Name y py] kt pt,iter,[],0⟩] scope pos) 0 (.ref it) (.ref D) Y.env)
   (compPost (model X.prog X.w) X.A X.xe use Q' (.ref D) G.objs.size) s3:=by
  rintro s3 ⟨tk,rfl⟩;refine LCp.codeAny_compLoop_pair (λn s'=>∃i ys o o' H',Inv Y [] (o::o'::xA σ fr) H' s'/\tn i s'.heap/\(∀b∈t,H' b=none)/\W i n ys H') ?_ m0
   ⟨0,[],none,none,R,I4 tk,T.keep _ _ _ P λb a o e=>old b o (E b o e),λb a=>?_,w0⟩
  .rintro n s' ⟨i,ys,o,o',H',J',st',fr',w'⟩;obtain⟨hD',hgo⟩:=turn i n ys H' w';rcases hgo with⟨stop,qn⟩|⟨go,step⟩
   .have Q1:=T.done Y eP eW eK eC i [] s' (o::o'::xA σ fr) H' (notedBy (model X.prog X.w) X.A Y.env λe s''=>compPost (model X.prog X.w) X.A X.xe use Q' (.ref D) G.objs.size (.error e) s'') J' (gZ fr') st' stop;rw[eA] at Q1;refine zS Q1 λr s4 ⟨hr,J4⟩=>?_;subst hr;obtain⟨m,hn,_⟩:=J4.loc;rw[eE] at hn;obtain⟨os4,u4⟩:=eB J4;have wF:H' G.objs.size=none:=by have:=J4.free;rw[eE] at this;exact this
    have gY:yu X.prog X.w H' s4.heap:=by have:=J4.hok;rw[eP,eW] at this;exact this
    exact hfin D G.objs.size H' s4 m (A.call' (ch:=t) (s':=s4) os4 u4 gY J4.bare j) hn ⟨wF,hCL,.inr hC1,hC2,hC3⟩ qn
   .have Q1:=T.item Y eP eW eK eC i [] s' (o::o'::xA σ fr) H' (notedBy (model X.prog X.w) X.A Y.env λe s''=>compPost (model X.prog X.w) X.A X.xe use Q' (.ref D) G.objs.size (.error e) s'') J' (gZ fr') st' go;rw[eA] at Q1;refine zS Q1 λr s4 ⟨u,hr,h4⟩=>?_;subst hr;refine zS h4 λ_ s5 ⟨v,H5,J5,r5,y5,gK,fr5⟩=>?_;have J5':=J5.pinned (gZ fr5) (T.obj _ _ gK);obtain⟨p5,v1,v2,ev5,hp5,step5⟩:=step v _ y5;have N5:Y.N.Nodup:=by rw[eN];exact S.nd
    have P1:PG Y (.Name x px) (XB 0):=QG (X:=Y) (i:=0) (x:=x) (pos:=px) N5 (by rw[eN];rfl) (.inl K) (.inr K);have P2:PG Y (.Name y py) (XB 1):=QG (X:=Y) (i:=1) (x:=y) (pos:=py) N5 (by rw[eN];rfl) (.inl F) (.inr F);have PT:PG Y (.Tuple [.Name x px,.Name y py] kt pt) (bZ Y.K 2 (Nu (XB 0) (Nu (XB 1) b5))):=XY eC (Yu P1 (Yu P2 WI));have G5:=PT ([]++We t s5.heap) s5 (o::o'::xA σ fr) H5 v u (λσ6 H6=>σ6=some v1::some v2::xA σ fr/\H6=H5) J5' r5 ⟨p5,[v1,v2],ev5,by rw[eK];exact hp5,U,v1,[v2],U,v2,[],U,U,U,U⟩;rw[eP,eW,eA,eX] at G5;refine zt G5 (λ_ s6 ⟨σ6,H6,J6,e6,e6'⟩=>?_) λ_ _ z=>z.elim;subst e6 e6';have again:∀{s7:Shared}{H7:Hp}{zs:qb V},Inv Y ([]++We t s5.heap) (some v1::some v2::xA σ fr) H7 s7->(∃m',m'<n/\W (i+1) m' zs H7)->∃m,m<n/\∃i ys o o' H',Inv Y [] (o::o'::xA σ fr) H' s7/\tn i s7.heap/\(∀b∈t,H' b=none)/\W i m ys H':=λ{s7 H7 zs} J7 ⟨m',hm,w7⟩=>by
     refine⟨m',hm,i+1,zs,some v1,some v2,H7,J7.xo,T.keep _ _ _ gK λb a o e=>(J7.pin (b,o) (qU _ (qU _ (UE a e)))).1,λb a=>?_,w7⟩;obtain⟨o,e,d⟩:=T.obj _ _ gK b a;exact(J7.pin (b,o) (qU _ (qU _ (UE a e)))).2.1
    have E7:=hE _ s6 _ _ _ J6 step5;rw[eP,eW,eA,eX] at E7;refine zt E7 (λu8 s8 ⟨y8,H8,J8,r8,hD8,hz8,w8⟩=>?_) λ_ _ z=>z.elim;have A8:=Q8 (X:=Y) _ s8 _ H8 (.ref D) [y8] (.ref D) [u8] (λz H9=>H9=upd H8 D (.lst (ys++[y8]))) J8 rfl (.cons r8 .nil) ⟨D,ys,y8,U,U,hD8,hz8,U⟩;rw[eP,eW,eA,eX] at A8;refine zt A8 (λ_ s9 ⟨z9,H9,J9,_,e9⟩=>?_) λ_ _ z=>z.elim;subst e9;exact again J9 w8
  .rw[<-hH3];have hbD:b≠D:=by
    rw[<-hD];obtain⟨o,e,_⟩:=T.obj _ _ P b a;exact qR (qI e)
   rw[Qj hbD];exact(f2 b a).1
 rw[eE] at loop;exact codeAny_compStart_list (loop _ ⟨_,U⟩) (T.self _ 0 _ _ _ (T.keep _ _ _ P λb a o e=>old b o (E b o e)) (loop _ ⟨_,U⟩))
def Xs{X:Cx}{x y:qc}{f py pt:Pos}{kt:Nat}{iter elt:Expr}{scope sc:Scope}{pos:Pos}{N:qf}{fr:qb (Nat×qc)}{g:TI}{i:TE}
 (S:Ai sc scope N x y fr) (c:X.env.scope=sc) (j:X.N=N) (hc:X.calm=true) (hi:PI X (.Tuple [.Name x f,.Name y py] kt pt) iter g)
 (he:∀(C:qd)(s:Shared)(H:Hp)(k:qb qd),PE (YY X scope C (x::y::fr.map (·.2)) s H k) elt i)
 (l:∀z,foldedSetIterable iter X.env z=pure z:=by intro _;rfl) :
 PE X (.ListComp elt [⟨.Tuple [.Name x f,.Name y py] kt pt,iter,[],0⟩] scope pos) (Lo X.K g fr i):=by
 intro pins s σ H Q I h;rw[eval_ListComp];refine IX (use:=none) S c j hc hi he l I h λD C H' s' m J n a q=>?_;exact⟨m,n,λh' d=>⟨.ref D,H',J.turned (t':=s'.toks) (λb o p e=>(d.2 b p).trans e) a.hn a.hL a.h1 a.h2 a.h3,U,q⟩⟩
def YE(ns:qf):qb (Key×V):=ns.map λn=>(inr n,V.bl true)
theorem Kb(n:qc):∀ns:qf,Vx (YE ns) (inr n)=YE (ns.filter λm=>decide (m≠n))
 |[]=>rfl
 |m::ns=>by
  show Vx ((inr m,V.bl true)::YE ns) (inr n)=_;by_cases h:m=n
  .rw[IM (by rw[h]),Kb n ns];simp[jf,h]
  .rw[IP (λe=>h (vo e)),Kb n ns];simp[jf,h,YE]
theorem K7(n:qc):∀ns:qf,YQ (YE ns) (inr n)=if n∈ns then some (V.bl true) else none
 |[]=>rfl
 |m::ns=>by
  show YQ ((inr m,V.bl true)::YE ns) (inr n)=_;by_cases h:m=n
  .rw[VY (by rw[h]),qG (by rw[h];exact qo)]
  .rw[VZ (λe=>h (vo e)),K7 n ns];by_cases a:n∈ns
   .rw[qG a,qG (qt _ a)]
   .rw[qz a,qz (λz=>(qy.mp z).elim (λe=>h e.symm) a)]
def L7{ns:qf}{n:qc}(h:¬n∈ns):Yh (YE ns) (inr n) (.bl true)=YE (ns++[n]):=by
 rw[L8 _ (by rw[K7,qz h])];simp[YE]
theorem CC(x:qc):∀(n:Nat)(acc:Array Nat),((List.replicate n x.cps).foldl (·++·) acc).toList=acc.toList++(List.replicate n x.cps.toList).flatten
 |0,acc=>by simp
 |n+1,acc=>by
  rw[jM,jw,CC x n (acc++x.cps),jM,jS,Array.toList_append,zh]
theorem Ib(x:qc)(n:Int):(Txt.mul x n).cps.toList=(List.replicate n.toNat x.cps.toList).flatten:=by
 unfold Txt.mul;by_cases h:n<1
 .rw[qG h,show n.toNat=0 by omega];rfl
 .rw[qz h];split
  .rename_i a
   rw[Bool.or_eq_true] at a;rcases a with a|a
   .have:n=1:=by simpa using a
    rw[this];show _=(List.replicate 1 x.cps.toList).flatten;simp
   .have b:x.cps.toList=[]:=List.eq_nil_of_length_eq_zero (by rw[<-YX];simpa using a);rw[b];simp
  .show((List.replicate n.toNat x.cps).foldl (·++·) #[]).toList=_;rw[CC];rfl
def O9(x:qc)(n:Int):(Txt.mul x n).length=n.toNat*x.length:=by
 rw[YX,Ib,YX,List.length_flatten];simp
inductive FG(x:V)(y:V)(H:Hp)(Q:VK):Prop
 |mk:∀(s:qc)(n:Int),x=.str s->y=.int n->s.length<=100->-1000<=n->n<=1000->Q (.str (Txt.mul s n)) H->FG x y H Q
def bw:R2:=λx y H Q=>FG x y H Q
theorem U5{X:Cx}:xf X (binaryOp .Mult) bw:=by
 intro pins s σ H x y v u Q I a b h;obtain⟨z,n,rfl,rfl,hz,h0,c,q⟩:=h;obtain⟨t,rfl⟩:=a;obtain⟨t',rfl⟩:=b;refine SB.mul ⟨?_,λd _=>?_,λd _=>?_⟩ λt' k=>⟨.str _,H,I.tok _,⟨_,U⟩,q⟩
 .rw[Bool.or_eq_false_iff];exact⟨qr ⋯,qr ⋯⟩
 .have e:(z.length:Int)*n<=100*1000:=Int.mul_le_mul ⋯ c ⋯ ∅;have f:(z.length:Int)<=(2^63-1) / n:=Int.le_ediv_of_mul_le ⋯ (Int.le_trans e ∅);omega
 .have e:z.length*n.toNat<=100*1000:=Nat.mul_le_mul hz ⋯;have f:100*1000<=sizeLine:=by decide
  unfold Builtin.Str.tooLong;exact qr ⋯
variable {ns:qf}{n:qc}
def BG(h:n∈ns):Yh (YE ns) (inr n) (.bl true)=YE ns:=by
 unfold Yh;have hc:((YE ns).any λa=>decide (a.1=(inr n:Key)))=true:=j0.mpr ⟨(inr n,.bl true),zr.mpr ⟨n,h,U⟩,qv rfl⟩;rw[qG hc];unfold YE;rw[yf];apply List.map_congr_left;intro m _;show(if (inr m:Key)=inr n then (inr m,V.bl true) else (inr m,V.bl true))=_;split<;>rfl
def YM(ns:qf)(n:qc):qf:=if n∈ns then ns else ns++[n]
def FJ(ns:qf)(n:qc):Yh (YE ns) (inr n) (.bl true)=YE (YM ns n):=by
 unfold YM;split
 .exact BG ‹_›
 .exact L7 ‹_›
def BV{m:qc}:m∈YM ns n↔m∈ns\/m=n:=by
 unfold YM;split
 .exact⟨.inl,λh=>h.elim id λe=>e▸‹_›⟩
 .rw[qT,qq]
def Tu(h:ns.Nodup):(YM ns n).Nodup:=by
 unfold YM;split
 .exact h
 .rename_i c
  rw[ke];exact⟨h,j3 _ _,λa d b f e=>c (by rw[qq.mp f] at e;rw[<-e];exact d)⟩
open PySem PySem.Spec
variable {T xs:qf}{w:qc}
inductive Cs(Q:VK)(a:qd)(y:V)(z:V)(H3:Hp):Prop
 |mk:∀kvs k,H3 a=some (.dK kvs)->y=kV k->kvs.length<sizeLine->((∀v,YQ kvs k=some v->Q v H3))->((YQ kvs k=none->Q z (upd H3 a (.dK (Yh kvs k z)))))->Cs Q a y z H3
inductive Fi(ty:TE)(tx:TE)(σ:St)(Q:VK)(x:V)(H1:Hp):Prop
 |mk:∀a,x=.ref a->IsD H1 a->(ty σ H1 λy H2=>tx σ H2 λz H3=>Cs Q a y z H3)->Fi ty tx σ Q x H1
def av(a ty b:TE):TE:=λσ H Q=>a σ H λx H1=>Fi ty b σ Q x H1
section
variable {X:Cx}{pins:qb (qd×Obj)}{σ:St}{H:Hp}{s:Shared}{a:qd}{kvs:qb (Key×V)}{k:Key}{z:V}{u r:qe}{A:Around}{E:qg}
theorem NJ{Q:qg}(I:Inv X pins σ H s)(e:H a=some (.dK kvs))(g:QL (kV k) u)(h:QL z r)(l:kvs.length<sizeLine)
 (i:∀v,YQ kvs k=some v->∀f s',Inv X pins σ H s'->QL v f->Q f s') (j:YQ kvs k=none->∀s',Inv X pins σ (upd H a (.dK (Yh kvs k z))) s'->Q r s') :
 wpAny (model X.prog X.w) A (call (.builtin "dict.setdefault") [.ref a,u,r]) Q E s:=by
 obtain⟨hz,hd,vs,rel,dd⟩:=Be I.hok e;refine vI PySem.F.slot_dict_setdefault dd.typeIs PySem.F.entry_dict_setdefault (PySem.F.args_dict_setdefault_3 _ _ _) (kt_meets_setdefault (Ya X.prog X.w) a (Xy g) hd r) ⟨vs,dd,by rw[<-rel.length];exact hz,λf hw=>?_,λm h' d n=>?_⟩
 .have b:=rel.val k;rw[hw] at b
  cases c:YQ kvs k with
  |none=>rw[c] at b;exact absurd b (by simp[U1])
  |some v=>rw[c] at b;exact i v c f _ (I.tok _) b
 .have b:=rel.val k;rw[m] at b
  cases c:YQ kvs k with
  |some v=>rw[c] at b;exact absurd b (by simp[U1])
  |none=>
   have he:∃q,h'.get? a=some q:=let ⟨q,_,_,o,_⟩:=d;⟨q,o⟩;have p:(Yh kvs k z).length<=sizeLine:=by have:=Vc kvs k z;omega
   exact j c _ (XE I (by rw[e];exact True.intro) n he (B4 p hd (rel.put k h) d))
end
section
variable {X:Cx}{o e f:Expr}{apos cpos:Pos}{td ty tx:TE}
def Ml(j:PE X o td)(he:PE X e ty)(hf:PE X f tx)(m:M2 X o "setdefault" apos e f cpos):PE X (.Call (.Attribute o "setdefault" apos) [e,f] [] cpos) (av td ty tx):=by
 intro pins s σ H Q I h;refine wpAny_Call_method m.base m.few m.line plainAttrs_dict PySem.F.slot_dict_setdefault PySem.F.type_dict_setdefault (zS (j pins s σ H _ I h) λu s1 ⟨x,H1,g,n,a,ex,d,p⟩=>?_);subst ex;obtain rfl:u=Value.ref a:=n;obtain⟨t1,q,_⟩:=EH g d;refine⟨t1,q,?_⟩;rw[m.trees];refine jA rfl (jY (zA (zS (he pins s1 σ H1 _ g p) λK s2 ⟨y,H2,r,t,w⟩=>zA (zS (hf pins s2 σ H2 _ r w) λL s3 ⟨z,A,B,i,C,k,D,E,l,F,G⟩=>jW ?_))));subst E;exact NJ B D t i l (λv ev M s4 b c=>⟨_,A,b,c,F v ev⟩) λJ s4 b=>⟨z,_,b,i,G J⟩
end
theorem Wg:∀(xs acc:qf){t:qc},t∈acc\/t∈xs->t∈xs.foldl YW acc
 |[],acc,t,h=>h.elim id λz=>nomatch z
 |x::xs,acc,t,h=>by
  refine Wg xs (YW acc x) ?_;unfold YW;rcases h with h|h
  .left;split
   .exact h
   .exact zK _ h
  .rcases qy.mp h with rfl|h
   .left;split
    .assumption
    .exact qU _ (qq.mpr rfl)
   .exact .inr h
def GS{t:qc}(h:t∈xs):t∈Xu xs:=Wg xs [] (.inr h)
def kn(T xs:qf):qb (Key×V):=(Xu xs).map λw=>(inr w,V.bl (decide (w∈T)))
def M9(T xs:qf):(kn T xs).length<=xs.length:=by unfold kn;rw[qi];exact MA xs
theorem A0(T:qf)(w:qc):∀ys:qf,YQ (ys.map λw=>((inr w:Key),V.bl (decide (w∈T)))) (inr w)=if w∈ys then some (V.bl (decide (w∈T))) else none
 |[]=>rfl
 |y::ys=>by
  rw[qX];by_cases e:y=w
  .subst e;rw[VY rfl,qG (qo ..)]
  .rw[VZ (λz=>e (vo z)),A0 T w ys];by_cases m:w∈ys
   .rw[qG m,qG (qt _ m)]
   .rw[qz m,qz (λz=>(qy.mp z).elim (λq=>e q.symm) m)]
def GX(T xs:qf)(w:qc):YQ (kn T xs) (inr w)=if w∈Xu xs then some (V.bl (decide (w∈T))) else none:=A0 T w (Xu xs)
def M7(h:w∈Xu xs):kn T (xs++[w])=kn T xs:=by
 unfold kn;rw[AR];unfold YW;rw[qG h]
def M8(h:¬w∈Xu xs):kn T (xs++[w])=kn T xs++[(inr w,V.bl (decide (w∈T)))]:=by
 unfold kn;rw[AR];unfold YW;rw[qz h,qH];rfl
def SR(h:w∈T):Yh (kn T xs) (inr w) (.bl true)=kn T (xs++[w]):=by
 unfold Yh;rw[V0,GX];by_cases m:w∈Xu xs
 .rw[qG m,M7 m,qG (show(some _:Option V).isSome=true from rfl)];unfold kn;rw[yf];refine List.map_congr_left λu _=>?_;show(if (inr u:Key)=inr w then ((inr u:Key),V.bl true) else (inr u,V.bl (decide (u∈T))))=_;by_cases e:u=w
  .subst e;rw[qG rfl,qv h]
  .rw[qz (λz=>e (vo z))]
 .rw[qz m,qz nofun,M8 m,qv h]
def Dn(a:∀u∈T,u∈xs)(h:YQ (kn T xs) (inr w)=none):Yh (kn T xs) (inr w) (.bl false)=kn T (xs++[w]):=by
 have m:¬w∈Xu xs:=λm=>by rw[GX,qG m] at h;cases h
 unfold Yh;rw[V0,h,qz nofun,M8 m,qr (λz=>m (GS (a w z)))]
def Dl{v:V}(h:YQ (kn T xs) (inr w)=some v):kn T (xs++[w])=kn T xs:=by
 refine M7 ?_;by_cases m:w∈Xu xs
 .exact m
 .rw[GX,qz m] at h;cases h
def SX(x:qd)(H H':Hp):Prop:=∀c o,c≠x->H c=some o->H' c=some o
def C1:HO->Bool
 |.ins _ _ _=>false
 |_=>true
variable {led:Bool}{a:qd}{ks:qf}
def WV:qe->qc
 |.str x _=>x
 |_=>""
def U7(prog:Program)(w:World)(led:Bool)(a:qd)(ks:qf)(h:Heap):Prop:=∃o b c t,h.get? a=some o/\o.ExactSet/\o.data=.set b c t/\ElemsOf (strKind prog w) b.toList/\b.size<scanBound/\t.fits b.size=true/\t.led=led /\
 (t.plain=true->b.size=0)/\(b.toList.map λe=>WV e.2).Perm ks
def U7.at{prog:Program}{w:World}{h h':Heap}(x:U7 prog w led a ks h)(k:∀o,h.get? a=some o->h'.get? a=some o):U7 prog w led a ks h':=
 let ⟨o,b,c,t,e,r⟩:=x;⟨o,b,c,t,k o e,r⟩
def G9{prog:Program}{w:World}{l:qb (Int×qe)}(h:ElemsOf (strKind prog w) l){e:Int×qe}(he:e∈l):∃t,e.2=.str (WV e.2) t:=by
 obtain⟨⟨k,a,_⟩,_⟩:=h e he;obtain⟨t,q⟩:=Value.isStrOf_shape (show Value.isStrOf k e.2=true from a);exact⟨t,by rw[q];rfl⟩
def Ni{k:qc}{v:qe}{t:Tok}(h:v=.str (WV v) t):Value.isStrOf k v=decide (k=WV v):=by
 rw[h];show Value.isStrOf k (.str (WV v) t)=decide (k=WV v);by_cases e:k=WV v
 .rw[<-e,qv rfl];simp[Value.isStrOf]
 .rw[qr e];simp[Value.isStrOf];exact λz=>e z.symm
def EF(t:SetTable)(a:Array (Int×qe))(h:Int)(x:qe):(layNew t a h x).2.1.led=t.led:=by
 unfold layNew;split
 .show(SetTable.orStandIn _ _).led=_;unfold SetTable.orStandIn;split<;>rfl
 .rfl
def BE(t:SetTable)(a:Array (Int×qe))(wanted:Nat):(relayAll t a wanted).2.1.led=t.led/\((relayAll t a wanted).2.1.plain=true->t.plain=true):=by
 unfold relayAll;split
 .rename_i t' order he
  have e:t'.led=t.led/\t'.plain=t.plain:=by
   unfold SetTable.relaid SetTable.laid at he
   cases hc:SetTable.layClean (SetTable.sizeAbove wanted-1) (a.map (·.1)) with
   |none=>rw[hc] at he;cases he
   |some b=>rw[hc] at he;cases he;exact⟨U,U⟩
  dsimp only;split
  .exact⟨e.1,λz=>by rw[<-e.2];exact z⟩
  .exact⟨U,λz=>by cases z⟩
 .exact⟨U,λz=>by cases z⟩
section
variable {prog:Program}{w:World}{A:Around}{E:qg}{s:Shared}
def Gq{h:Heap}{o:Obj}{i:Array (Int×qe)}{c:Nat}{t:SetTable}(j:h.get? a=some o)(hex:o.ExactSet)(hd:o.data=.set i c t){b:Array (Int×qe)}{t':SetTable}
 (d:ElemsOf (strKind prog w) b.toList) (k:b.size<scanBound) (hf:t'.fits b.size=true) (l:t'.led=led) (m:t'.plain=true->b.size=0) (n:(b.toList.map λe=>WV e.2).Perm ks) :
 (h.update a (Obj.putSet b t')).get? a=some {o with data:=.set b (c+1) t'}/\U7 prog w led a ks (h.update a (Obj.putSet b t')):=by
 have f:(h.update a (Obj.putSet b t')).get? a=some {o with data:=.set b (c+1) t'}:=by
  have e1:=putSet_of b t' hd;have g:=zz (Obj.putSet b t') j (by rw[e1];rfl);rw[e1] at g;exact g
 exact⟨f,_,b,c+1,t',f,hex,U,d,k,hf,l,m,n⟩
def Le{g:Bool->Sem Unit}(v:∀(b:Bool)(z:Shared)(R:Unit->Shared->Prop),R () z->wpAny (model prog w) A (g b) R E z){o:Obj}{x:Array (Int×qe)}{y:Nat}{t:SetTable}
 (m:s.heap.get? a=some o) (hex:o.ExactSet) (hd:o.data=.set x y t) {c:Array (Int×qe)} {d:SetTable} (f:ElemsOf (strKind prog w) c.toList) (i:c.size<scanBound) (hf:d.fits c.size=true) (n:d.led=led) (p:d.plain=false)
 (q:(c.toList.map λe=>WV e.2).Perm ks) {j:Bool} {R:Option Bool->Shared->Prop} (h:∀h',Heap.SameBut a s.heap h'->U7 prog w led a ks h'->R (some true) {s with heap:=h'}) :
 wpAny (model prog w) A (do
  storeSet a c d
  if (!j&&d.tooFull)=true then do
      g (relayAll d c (SetTable.grown c.size)).2.2
      storeSet a (relayAll d c (SetTable.grown c.size)).1 (relayAll d c (SetTable.grown c.size)).2.1
      pure (some true)
   else pure (some true)) R E s:=by
 refine qj (wpAny_storeSet_of m hd ?_ (fits_of_scanBound i));obtain⟨g1,B⟩:=Gq (prog:=prog) (w:=w) m hex hd f i hf n (λz=>by rw[p] at z;cases z) q;have r:=jB s.heap a (Obj.putSet c d);split
 .have pm:=relayAll_perm d c (SetTable.grown c.size);have k:=relayAll_fits d c (SetTable.grown c.size);have ld:=BE d c (SetTable.grown c.size);generalize relayAll d c (SetTable.grown c.size)=Z at pm k ld⊢;obtain⟨l,t3,D⟩:=Z;dsimp only at pm k ld⊢;have u:l.size=c.size:=by rw[<-qQ,pm.length_eq,qQ]
  refine qj (v _ _ _ (qj (wpAny_storeSet_of g1 rfl ?_ (fits_of_scanBound (by rw[u];exact i)))));obtain⟨_,C⟩:=Gq (prog:=prog) (w:=w) (led:=led) (ks:=ks) g1 hex rfl (f.perm pm) (by rw[u];exact i) k (ld.1.trans n) (λz=>by have:=ld.2 z;rw[p] at this;cases this) ((pm.map _).trans q);exact qu (h _ (r.trans (jB _ a _)) C)
 .exact qu (h _ r B)
def LJ{k:qc}{u:Tok}{Q:Bool->Shared->Prop}(N:U7 prog w led a ks s.heap)(v:ks.length+1<scanBound)
 (h:∀(b:Bool)(h':Heap),Heap.SameBut a s.heap h'->U7 prog w led a (YM ks k) h'->Q b {s with heap:=h'}):wpAny (model prog w) A (setAddHashed a (.str k u) (hashStr w k)) Q E s:=by
 obtain⟨o,l,O,t,C,hex,hd,f,K,hf,g,H,i⟩:=N;have p:(strKind prog w).is k (.str k u)=true:=by show Value.isStrOf k (.str k u)=true;simp[Value.isStrOf]
 have x:(Value.str k u).scannable=true:=rfl;have hlen:l.size=ks.length:=by rw[<-i.length_eq,qi,qQ]
 unfold setAddHashed setAddHashedIn;refine zR (qj (j5 C hd hf ?_));dsimp only;rw[byScan_of x K f];simp only[↓reduceIte];unfold setAddByScan;refine qj (qj (xH (qj (wpAny_setScan_of (knd:=strKind prog w) p C hd hf f ?_))))
 cases L:List.findIdx? (λe=>(strKind prog w).is k e.2) l.toList with
 |some j=>
  dsimp only;obtain⟨m,c,_⟩:=List.findIdx?_eq_some_iff_getElem.mp L;have hm:=zU m;obtain⟨r,n⟩:=G9 f hm;have d:k∈ks:=i.mem_iff.mp (zr.mpr ⟨_,hm,by
   have e1:Value.isStrOf k l.toList[j].2=true:=c;rw[Ni n] at e1;exact(qM e1).symm⟩)
  refine qu (qu ?_);have e:s={s with heap:=s.heap}:=by cases s;rfl
  rw[e];exact h false s.heap (Heap.SameBut.refl a s.heap) ⟨o,l,O,t,C,hex,hd,f,K,hf,g,H,by unfold YM;rw[qG d];exact i⟩
 |none=>
  dsimp only;have D:¬k∈ks:=λz=>by
   obtain⟨e,he,d⟩:=zr.mp (i.mem_iff.mpr z);obtain⟨r,m⟩:=G9 f he;have n:=List.findIdx?_eq_none_iff.mp L e he;have c:Value.isStrOf k e.2=false:=n;rw[Ni m,d,qv rfl] at c;cases c
  have c:=layNew_perm t l (hashStr w k) (.str k u);have d:=layNew_fits t l (hashStr w k) (.str k u);have m:=EF t l (hashStr w k) (.str k u);have I:(YM ks k)=ks++[k]:=by unfold YM;rw[qz D]
  generalize layNew t l (hashStr w k) (.str k u)=Z at c d m⊢;obtain⟨n,t1,P,M⟩:=Z;dsimp only at c d m⊢;rw[Array.toList_push] at c;have r:ElemsOf (strKind prog w) n.toList:=(f.push (k:=k) p x).perm c;have S:n.size=l.size+1:=by rw[<-qQ,c.length_eq,qm,qQ];rfl
  have F:n.size<scanBound:=by rw[S,hlen];exact v
  have G:(n.toList.map λe=>WV e.2).Perm (YM ks k):=by
   rw[I];refine(c.map _).trans ?_;rw[qH];exact i.append_right _
  have T:∀(b:Bool)(z:Shared)(R:Unit->Shared->Prop),R () z->wpAny (model prog w) A (match b with|true=>rule "set.scan.the-table-gave-way"|false=>pure ()) R E z:=λb z R q=>by cases b<;>first|exact qu q|exact xH q
  refine qj (T _ _ _ ?_);split
  .refine qj ?_;rw[hashByValue_scannable 8 x];refine qu ?_;refine Le (led:=led) (ks:=YM ks k) ?_ C hex hd r F ?_ ?_ ?_ G ?_
   .intro b z R q;cases b<;>first|exact qu q|exact xH q
   .exact SetTable.fits_plain_off d
   .exact m.trans g
   .rfl
   .intro h' y B;dsimp only;exact qu (h true h' y B)
  .rename_i J
   refine qj (qu ?_);simp only[↓reduceIte];refine Le (led:=led) (ks:=YM ks k) ?_ C hex hd r F d ?_ ?_ G ?_
   .intro b z R q;cases b<;>first|exact qu q|exact xH q
   .exact m.trans g
   .exact wq.mpr J
   .intro h' y B;dsimp only;exact qu (h true h' y B)
def GR(val:Nat->qc)(i:Nat):qf:=((List.range i).map val).foldl YM []
def AX(val:Nat->qc)(i:Nat):GR val (i+1)=YM (GR val i) (val i):=by
 unfold GR;rw[List.range_succ,qH,yR];rfl
theorem C6(val:Nat->qc):∀i,(GR val i).length<=i
 |0=>qp _
 |i+1=>by
  rw[AX];have a:=C6 val i;unfold YM;split
  .omega
  .rw[qm,ql];omega
theorem Gp{R:Result->Shared->Prop}{I:qd}{y wr:qb qd}{G:Array GenState->Array GenState->Prop}{n:Nat}{P:Nat->qe->Prop}{St:Nat->Shared->Prop}(W:WalksS prog w A.in1 I y wr G n P St)(S:qd)(z:S∉y)
 (val:Nat->qc) (d:∀i v,P i v->∃t,v=.str (val i) t) (c:n+1<scanBound):∀(k i:Nat)(s:Shared),n-i=k->i<=n->St i s->U7 prog w led S (GR val i) s.heap ->
   (∀s',Moved (S::wr) G s s'->U7 prog w led S (GR val n) s'.heap->R (.ok (.ret .none)) s')->codeAny (model prog w) A (.builtin "set.update.loop" ⟨[.ref S,.ref I],[]⟩) R s:=by
 have nw:S∉wr:=λh=>z (W.sub _ h);have sub:∀b∈wr,b∈S::wr:=λb c=>qt _ c;intro k
 induction k with
 |zero=>
  intro i s C hi a p q;obtain rfl:i=n:=by omega
  refine jk F.entry_set_update_loop ?_;rw[jo wL _];refine qj (m:=pyNext (.ref I)) (W.done s _ _ a λs' f=>?_);exact qu (q s' (f.mono sub) (p.at λo e=>f.heap S o nw e))
 |succ k D=>
  intro i s C hi a p q;have lt:i<n:=by omega
  refine jk F.entry_set_update_loop ?_;rw[jo wL _];refine qj (m:=pyNext (.ref I)) (W.item i s _ _ lt a λv s' E g f=>?_);obtain⟨t,rfl⟩:=d i v E;have r:=p.at (h':=s'.heap) λo e=>f.heap S o nw e;refine qj (m:=holding [Value.str (val i) t] (setAdd S (.str (val i) t))) (zR ?_);unfold setAdd;refine zR (qj ((strKind prog w).pyHash (k:=val i) (show Value.isStrOf (val i) (.str (val i) t)=true by simp[Value.isStrOf]) ?_));have room:(GR val i).length+1<scanBound:=by have:=C6 val i;omega
  refine LJ (s:={s' with toks:=s'.toks+1}) (led:=led) r room λb h' B j=>?_;rw[<-AX] at j;refine qu ⟨j8 wL _,D (i+1) _ ⋯ lt (W.frame _ s' _ _ g (zC _) λb c o e=>?_) j λu x l=>?_⟩
  .rw[B.2 b (λh:b=S=>z (by rw[<-h];exact c))];exact e
  .refine q u (Moved.trans W.gtrans ((f.mono sub).then_heap (zC _) λb o c e=>?_) x) l;rw[B.2 b (λh:b=S=>c (by rw[h];exact qo))];exact e
def Y7(w:World):Obj:={cls:=.type "set",dict:=none,data:=.set #[] 0 (.fresh 0 0 (!w.params.followText "set-order"))}
def AV(v:qe){R:qg}(h:R (.ref s.heap.objs.size) {s with heap:=s.heap.push (Y7 w)}):codeAny (model prog w) A (.call (.builtin "set.__new__") ⟨[.type "set",v],[]⟩) (wants R E) s:=by
 refine xZ ?_;refine qj (m:=checkBuiltinCall "set.__new__" ⟨[.type "set",v],[]⟩) (jq (F.newCall_set_1 v) (qu ⟨j8 F.plain_set_new _,jk F.entry_set_new ?_⟩));rw[jo F.plain_set_new _];unfold Builtin.«set.__new__» Builtin.Frozenset.newClass;have sub:=sub_set_self;obtain⟨a,g,d,b,os⟩:=s;dsimp only
 wp_walk
 refine yi (qu ?_);dsimp only;simp only[newObj];exact qj (wpAny_alloc (qu (qu h)))
theorem Bx:∀{vs:qh}{ss:qf},StrsAre vs ss->∀(i:Nat)(v:qe),vs[i]?=some v->∃t,v=.str (ss.getD i "") t
 |_,_,.nil,i,v,h=>by simp at h
 |_,_,.cons x t r,0,v,h=>by simp at h;exact⟨t,by rw[<-h];rfl⟩
 |_,_,.cons x t r,i+1,v,h=>by
  rw[List.getElem?_cons_succ] at h;obtain⟨t',e⟩:=Bx r i v h;exact⟨t',by rw[e];rfl⟩
def V3:∀{vs:qh}{ss:qf},StrsAre vs ss->vs.length=ss.length
 |_,_,.nil=>rfl
 |_,_,.cons x t r=>by rw[qw,qw,V3 r]
def Gw(ss:qf):(List.range ss.length).map (λi=>ss.getD i "")=ss:=by
 apply List.ext_getElem
 .rw[qi,jJ]
 .intro i b a;rw[kA,List.getElem_range,q4,qx a];rfl
def Ru:U7 prog w (!w.params.followText "set-order") s.heap.objs.size [] (s.heap.push (Y7 w)):=
 ⟨_,#[],0,_,qK _ rfl,⟨U,U,U⟩,U,(λe he=>by simp at he),∅,by rfl,U,(λ_=>rfl),by simp⟩
end
section
variable {prog:Program}{w:World}{A:Around}{E:qg}{s:Shared}
set_option maxHeartbeats 3200000 in
theorem ET{l:qd}{items:Array qe}{ss:qf}{Q:qg}(K:A.handled=none)(L:s.heap.IsList l items)(hi:StrsAre items.toList ss)(k:items.size+1<scanBound)
 (h:∀(h':Heap)(m:Nat),U7 prog w (!w.params.followText "set-order") s.heap.objs.size (ss.foldl YM []) h'->(∀b o,b<s.heap.objs.size->s.heap.get? b=some o->h'.get? b=some o)->Q (.ref s.heap.objs.size) {s with heap:=h',toks:=m}) :
 wpAny (model prog w) A (call (.type "set") [.ref l]) Q E s:=by
 obtain⟨c,Y,Z⟩:=jb.mro;have m2:=jb.made;have m3:=jb.sub;have m4:=jb.notType;have m5:=jb.canCreate;have m6:=F.typeCall_set_1 (.ref l);refine jH (xZ ?_);show wpAny _ _ (callAny (.type "set") _) _ _ _;refine qu ⟨yt _ ∅,jk F.entry_type_call ?_⟩;rw[Around.under_plain (vY "set" [.ref l] []) rfl]
 repeat (any_goals (first|assumption|wp_step))
 refine zT (AV (.ref l) (E:=E) (R:=λz n=>z=.ref s.heap.objs.size/\n={s with heap:=s.heap.push (Y7 w)}) ⟨U,U⟩) λr C p=>?_
 cases r with
 |error e=>exact p
 |ok M=>
  cases M with
  |ret z=>
   obtain⟨rfl,rfl⟩:=p;have n:(s.heap.push (Y7 w)).get? s.heap.objs.size=some (Y7 w):=qK _ rfl;have D:Shared.TypeIs {s with heap:=s.heap.push (Y7 w)} (.ref s.heap.objs.size) "set":=⟨_,n,U⟩;have z3:=jb.init.lookup;have z4:=jb.init.bind (.ref s.heap.objs.size)
   repeat (any_goals (first|assumption|wp_step))
   refine zT (jg (R:=wants (λr d=>r=.none/\∃h' m,d={s with heap:=h',toks:=m}/\U7 prog w (!w.params.followText "set-order") s.heap.objs.size (ss.foldl YM []) h' /\
    (∀b o,b<s.heap.objs.size->s.heap.get? b=some o->h'.get? b=some o)) E) jb.init.plain F.entry_set_init (check_set_init_1 D ?_)) λg d a=>?_
   .obtain⟨ol,e1,G,nl,H⟩:=L;obtain⟨I,f,q,oslots⟩:=ol;simp only at G H;subst G;subst H;have J:(s.heap.push (Y7 w)).get? l=some {cls:=.type "list",dict:=f,data:=.seq items nl,slots:=oslots}:=qk _ e1;have y2:=F.sub_list_set;have y3:=F.sub_list_frozenset;have y4:(Value.type "list"==Value.type "dict")=false:=by decide
    have u:(s.heap.push (Y7 w)).IsList l items:=⟨_,J,U,nl,U⟩;unfold Builtin.«set.__init__» noKeywords Builtin.Frozenset.updateFrom;generalize x:pyIter=PI;unfold Y7 at n D J u⊢
    wp_walk
    subst x;refine xj u ?_;refine qj (wpAny_runValue ?_);have lt:l<s.heap.objs.size:=qI e1;have N:A.in1.in1.in1.handled=none:=by simp[K]
    have ne:l≠(s.heap.push {cls:=.type "set",dict:=none,data:=.set #[] 0 (.fresh 0 0 (!w.params.followText "set-order"))}).objs.size:=by
     rw[zY];exact qR (jl lt)
    have O:s.heap.objs.size∉[(s.heap.push {cls:=.type "set",dict:=none,data:=.set #[] 0 (.fresh 0 0 (!w.params.followText "set-order"))}).objs.size,l]:=by
     rw[zY];intro z;rcases qy.mp z with z|z
     .omega
     .rw[qq.mp z] at lt;exact zw _ lt
    have P:∀(i:Nat)(v:qe),items[i]?=some v->∃t,v=.str ((λi=>ss.getD i "") i) t:=λi v e=>Bx hi i v (by rw[jQ];exact e);have S:GR (λi=>ss.getD i "") items.size=ss.foldl YM []:=by
     unfold GR;rw[<-qQ,V3 hi,Gw]
    refine Gp (led:=!w.params.followText "set-order") ((Walks.list N _ l ne items).toS) s.heap.objs.size O (λi=>ss.getD i "") P k (items.size-0) 0 _ ⋯ (zb _) ⟨⟨_,qK _ rfl,U,U⟩,u.push _⟩ ?S0 ?R0
    case S0=>exact(Ru (prog:=prog) (w:=w) (s:=s)).at λo e=>qk _ e
    case R0=>
     intro s' hm j;obtain⟨h',g',d',y,B⟩:=s';have T:g'=s.gens:=hm.gens;have V:d'=s.drawn:=hm.drawn;have X:B=s.os:=hm.os;subst T;subst V;subst X;rw[S] at j;refine qu (qu ⟨U,h',y,U,j,λb o k e=>?_⟩);refine hm.heap b o (λz=>?_) (qk _ (qk _ e));rcases qy.mp z with z|z
     .exact absurd z (qR k)
     .have z:=qq.mp z;rw[zY] at z;exact absurd z (qR (jl k))
   .cases g with
    |error e=>exact a
    |ok f=>
     cases f with
     |ret r=>
      obtain⟨rfl,h',m,rfl,a1,a2⟩:=a
      repeat (any_goals (first|assumption|wp_step))
      exact h _ _ a1 a2
     |_=>exact a.elim
  |_=>exact p.elim
end
variable {i:Nat}
def Xe{α:Type}:∀(l:qb α)(i:Nat)(h:i<l.length),(l[i]::l.eraseIdx i).Perm l
 |x::l,0,_=>.refl _
 |x::l,i+1,h=>by
  show(l[i]'(Nat.lt_of_succ_lt_succ h)::x::l.eraseIdx i).Perm (x::l);exact(List.Perm.swap x _ _).trans ((Xe l i (Nat.lt_of_succ_lt_succ h)).cons x)
theorem FK{α:Type}(next:Nat->Nat):∀(fuel k:Nat)(left:qb α)(out:Array α),left.length=fuel->(pickOrder.go next fuel k left out).toList.Perm (out.toList++left)
 |0,k,left,out,h=>by
  obtain rfl:left=[]:=yL.mp h;rw[ze];exact .refl _
 |n+1,k,left,out,h=>by
  have hi:next k%left.length<left.length:=Nat.mod_lt _ ⋯;unfold pickOrder.go;rw[qx hi];dsimp only;refine(FK next n (k+1) _ _ (by rw[List.length_eraseIdx_of_lt hi,h];rfl)).trans ?_;rw[Array.toList_push,zh];exact(Xe left _ hi).append_left _
def XX{α:Type}(next:Nat->Nat)(xs:Array α):(pickOrder next xs).toList.Perm xs.toList:=by
 have:=FK next xs.size 0 xs.toList #[] (by simp);exact this
def QZ:Slot "set_iterator" "__next__" "set_iterator.__next__":=.of (owner:="set_iterator") (n:="__next__") (by rw[typeLookup_type,builtinLookup_eq_fast];kernel_rfl) ∅ ∅ ∅ (by first|exact .inl ∅|exact .inr ∅) (by rw[kB];kernel_rfl)
def Ut:entryFor table "set_iterator.__next__"=some Builtin.«set_iterator.__next__»:=entryFor_of_tree (by kernel_rfl)
def UL(a:qe):argsOk "set_iterator.__next__" ⟨[a],[]⟩:=by unfold argsOk;kernel_rfl
def Wu:entryFor table "set.__iter__"=some Builtin.«frozenset.__iter__»:=entryFor_alias (id':="frozenset.__iter__") (by kernel_rfl) rfl ∅ (by kernel_rfl)
def WZ:Slot "set_iterator" "__iter__" "set_iterator.__iter__":=.of (owner:="set_iterator") (n:="__iter__") (by rw[typeLookup_type,builtinLookup_eq_fast];kernel_rfl) ∅ ∅ ∅ (by first|exact .inl ∅|exact .inr ∅) (by rw[kB];kernel_rfl)
def Bu{M:Model}{A:Around}{E:qg}{s:Shared}{src:Source}{n:Nat}{Q:Nat->Shared->Prop}(a:n≠0)(h:∀i d',i<n->Q i {s with drawn:=d'}):wpAny M A (choose src n) Q E s:=
 λ_ _ _=>⟨a,h _ _ (Nat.mod_lt _ (Nat.pos_of_ne_zero a))⟩
theorem VO{M:Model}{A:Around}{E:qg}{α:Type}:∀(n:Nat)(xs:qb α)(s:Shared)(Q:qb α->Shared->Prop),xs.length=n->(∀ys d',ys.Perm xs->Q ys {s with drawn:=d'})->wpAny M A (drawOrder n xs) Q E s
 |0,xs,s,Q,a,h=>by
  obtain rfl:xs=[]:=yL.mp a;have e:s={s with drawn:=s.drawn}:=by cases s;rfl
  unfold drawOrder;refine qu ?_;rw[e];exact h [] _ (.refl _)
 |n+1,[],s,Q,a,h=>by cases a
 |n+1,x::xs,s,Q,a,h=>by
  unfold drawOrder;refine qj (Bu (by simp) λi d' hi=>?_);have e:(x::xs)[i]?=some (x::xs)[i]:=qx hi;rw[e];dsimp only;refine qj (VO n ((x::xs).eraseIdx i) _ _ (by rw[List.length_eraseIdx_of_lt hi,a];rfl) λys b c=>qu ?_);exact h _ b ((c.cons _).trans (Xe _ i hi))
def Uy(h:Heap)(it a:qd)(first:qe)(i n b:Nat):Prop:=∃o,h.get? it=some o/\o.cls=.type "set_iterator"/\o.data=.fields #[first,.int i 0,.ref a,.int n 0,.int b 0]
def vl(h:Heap)(a:qd)(b:Array (Int×qe))(c:Nat)(t:SetTable):Prop:=∃o,h.get? a=some o/\o.cls=.type "set"/\o.data=.set b c t
section
variable {prog:Program}{w:World}{A:Around}{E:qg}{s:Shared}{a it:qd}{es:Array (Int×qe)}{ep:Nat}{t:SetTable}
def Uy.typeIs{first:qe}{n:Nat}(h:Uy s.heap it a first i n ep):s.TypeIs (.ref it) "set_iterator":=let ⟨o,e,c,_⟩:=h;⟨o,e,c⟩
def Wq{Q:qg}(e:vl s.heap a es ep t)(hf:t.fits es.size=true)(hnd:(!w.params.followText "set-order"&&(!t.plain&&decide (es.size > 1)))=false)
 (h:Q (.ref s.heap.objs.size) {s with heap:=s.heap.push {cls:=.type "set_iterator",data:=.fields #[.int 0 0,.int 0 0,.ref a,.int es.size 0,.int ep 0]}}) :
 wpAny (model prog w) A (pyIter (.ref a)) Q E s:=by
 obtain⟨o,b,hc,hd⟩:=e;have c:s.TypeIs (.ref a) "set":=⟨o,b,hc⟩;refine wpAny_pyIter_slot c slot_set_iter (zZ slot_set_iter c Wu ?_ (PySem.F.args_set_iter_1 _));unfold Builtin.«frozenset.__iter__» Builtin.Frozenset.slot0 slotArgs;simp only[yB,xh,zx,↓reduceIte,bind_assoc,zJ,yr];unfold Builtin.Frozenset.addrOf Builtin.Frozenset.sizeOf;refine qj (qu ?_)
 try dsimp only
 refine qj (qu ?_);refine qj (qj (yg b hd hf (qu ?_)));unfold setDrawn setsByText;refine qj (qj (j5 b hd hf ?_));refine qj (qj (yi (qu ?_)));refine qu ?_;refine jO (λz=>?_) (λ_=>?_)
 .have d:(!w.params.followText "set-order"&&(!t.plain&&decide (es.size > 1)))=true:=z;rw[hnd] at d;cases d
 refine qj (qu ?_);refine qj (wpAny_setEpoch_of b hd hf ?_);unfold newFields;refine qj (zH (qu ⟨_,U,"set_iterator",_,⟨_,qK _ rfl,U⟩,QZ.lookup,?_⟩));exact h
def Y0(ps:qb Nat):Obj:={cls:=.type "tuple",data:=.seq (ps.map λ(i:Nat)=>rawInt i).toArray}
def G2{Q:qg}(e:vl s.heap a es ep t)(hf:t.fits es.size=true)(hnd:(!w.params.followText "set-order"&&(!t.plain&&decide (es.size > 1)))=true)(hz:es.size<=sizeLine)
 (h:∀ps d',ps.Perm (List.range es.size)->Q (.ref (s.heap.push (Y0 ps)).objs.size) {s with heap:=(s.heap.push (Y0 ps)).push {cls:=.type "set_iterator",data:=.fields #[.ref s.heap.objs.size,.int 0 0,.ref a,.int es.size 0,.int ep 0]},drawn:=d'}) :
 wpAny (model prog w) A (pyIter (.ref a)) Q E s:=by
 obtain⟨o,b,hc,hd⟩:=e;have c:s.TypeIs (.ref a) "set":=⟨o,b,hc⟩;refine wpAny_pyIter_slot c slot_set_iter (zZ slot_set_iter c Wu ?_ (PySem.F.args_set_iter_1 _));unfold Builtin.«frozenset.__iter__» Builtin.Frozenset.slot0 slotArgs;simp only[yB,xh,zx,↓reduceIte,bind_assoc,zJ,yr];unfold Builtin.Frozenset.addrOf Builtin.Frozenset.sizeOf;refine qj (qu ?_)
 try dsimp only
 refine qj (qu ?_);refine qj (qj (yg b hd hf (qu ?_)));unfold setDrawn setsByText;refine qj (qj (j5 b hd hf ?_));refine qj (qj (yi (qu ?_)));refine qu ?_;refine jO (λ_=>?_) (λz=>absurd (show(!w.params.followText "set-order"&&(!t.plain&&decide (es.size > 1)))=true from hnd) z);refine qj (VO _ _ _ _ jJ λps d' d=>?_);have f:(ps.map λi:Nat=>rawInt i).length<=sizeLine:=by rw[qi,d.length_eq,jJ];exact hz
 refine qj (wpAny_newTuple ?_ f);refine qj (wpAny_setEpoch_of (s:={s with heap:=s.heap.push (Y0 ps),drawn:=d'}) (qk _ b) hd hf ?_);unfold newFields;refine qj (zH (qu ⟨_,U,"set_iterator",_,⟨_,qK _ rfl,U⟩,QZ.lookup,?_⟩));exact h ps d' d
def Wj{Q:Option qe->Shared->Prop}{slot:Nat}(d:Uy s.heap it a (.int slot 0) i es.size ep)(g:vl s.heap a es ep t)(hf:t.fits es.size=true)(j:a≠it)(x:qe)(nx:Nat)
 (k:∀(l:Around)(m:qg)(R:Option (qe×Nat)->Shared->Prop),R (some (x,nx)) s->wpAny (model prog w) l (setNext a slot i ep) R m s)
 (h:∀h',Uy h' it a (.int nx 0) (i+1) es.size ep->Heap.SameBut it s.heap h'->Q (some x) {s with heap:=h'}):wpAny (model prog w) A (pyNext (.ref it)) Q E s:=by
 obtain⟨q,c,e,b⟩:=id d;obtain⟨o,n,hc,hd⟩:=g;unfold pyNext;refine qj (ya (je (name:=Str.ofString "__next__") d.typeIs QZ (zZ QZ d.typeIs Ut ?_ (UL _))));unfold Builtin.«set_iterator.__next__» slotArgs;simp only[yB,xh,zx,↓reduceIte,bind_assoc,zJ,yr];refine qj (qu ?_);refine qj (wt c b ?_);dsimp only;refine qj (yg n hd hf ?_);rw[qz (by simp)];simp only[jr];refine qj (k _ _ _ ?_);dsimp only;refine qj (yG c b (by simp) ?_);have g1:=zz (Obj.mapFields (·.setIfInBounds 0 (rawInt (nx:Int)))) c (yC (jh b _));have f:=jh b (·.setIfInBounds 0 (rawInt (nx:Int)));refine qj (yG (s:={s with heap:=s.heap.update it (Obj.mapFields (·.setIfInBounds 0 (rawInt (nx:Int))))}) g1 f (by simp) ?_);have g2:=zz (Obj.mapFields (·.setIfInBounds 1 (rawInt ((i:Int)+1)))) g1 (yC (jh f _));have p:=jh f (·.setIfInBounds 1 (rawInt ((i:Int)+1)));refine qu ⟨_,U,qu (h _ ⟨_,g2,(kW ..).trans ((kW ..).trans e),?_⟩ ?_)⟩
 .rw[p];simp[rawInt]
 .exact(jB ..).trans (jB ..)
def Vk{Q:Option qe->Shared->Prop}{slot:Nat}(f:A.handled=none)(e:Uy s.heap it a (.int slot 0) i es.size ep)(g:vl s.heap a es ep t)(hf:t.fits es.size=true)
 (j:∀(k:Around)(l:qg)(R:Option (qe×Nat)->Shared->Prop),R none s->wpAny (model prog w) k (setNext a slot i ep) R l s)
 (h:∀h',Heap.ExtBut it s.heap h'->Q none {s with heap:=h'}):wpAny (model prog w) A (pyNext (.ref it)) Q E s:=by
 obtain⟨q,c,n,d⟩:=id e;obtain⟨o,p,hc,hd⟩:=g;unfold pyNext;refine qj (ya (je (name:=Str.ofString "__next__") e.typeIs QZ (zZ QZ e.typeIs Ut ?_ (UL _))));unfold Builtin.«set_iterator.__next__» slotArgs;simp only[yB,xh,zx,↓reduceIte,bind_assoc,zJ,yr];refine qj (qu ?_);refine qj (wt c d ?_);dsimp only;refine qj (yg p hd hf ?_);rw[qz (by simp)];simp only[jr];refine qj (j _ _ _ ?_);dsimp only;refine qj (yG c d (by simp) ?_);refine qj ?_;simp only[newExc,newTuple];refine qj (zH ?_ (by size_fits));refine qj (m:=firstArgMember _ _) (jq (a:=Value.none) (by first|rfl|(simp only[firstArgMember];rfl)) ?_);refine zH ?_ (by size_fits);simp only[raiseNew];refine qj (wpAny_handled ?_);rw[show A.in1.handled=none from f];refine qj (qu (wpAny_throw ?_));refine qj (vr (T:="StopIteration") (b:=true) ⟨_,qK _ rfl,U⟩ isSubtype_stop ?_);exact qu (h _ (((jB ..).extBut.push _).push _))
def GP{Q:Option qe->Shared->Prop}{T:qd}{ps:qb Nat}{p:Nat}(d:Uy s.heap it a (.ref T) i es.size ep)(j:s.heap.get? T=some (Y0 ps))(k:vl s.heap a es ep t)(hf:t.fits es.size=true)(l:ps[i]?=some p){e:Int×qe}(he:es[p]?=some e)
 (h:∀h',Uy h' it a (.ref T) (i+1) es.size ep->Heap.SameBut it s.heap h'->Q (some e.2) {s with heap:=h'}):wpAny (model prog w) A (pyNext (.ref it)) Q E s:=by
 obtain⟨n,c,f,b⟩:=id d;obtain⟨o,g,hc,hd⟩:=k;unfold pyNext;refine qj (ya (je (name:=Str.ofString "__next__") d.typeIs QZ (zZ QZ d.typeIs Ut ?_ (UL _))));unfold Builtin.«set_iterator.__next__» slotArgs;simp only[yB,xh,zx,↓reduceIte,bind_assoc,zJ,yr];refine qj (qu ?_);refine qj (wt c b ?_);dsimp only;refine qj (yg g hd hf ?_);rw[qz (by simp)];simp only[jr];refine qj (kC j rfl ?_);dsimp only;have e1:((ps.map λ(i:Nat)=>rawInt i).toArray)[i]?=some (rawInt p):=by rw[List.getElem?_toArray,qC,l];rfl
 rw[e1];dsimp only[rawInt];unfold setNextDrawn;simp only[jr,bind_assoc];refine qj (j5 g hd hf ?_);rw[qz (by simp)];rw[he];dsimp only;simp only[pure_bind];refine qj (yG c b (by simp) ?_);have g1:=zz (Obj.mapFields (·.setIfInBounds 1 (rawInt ((i:Int)+1)))) c (yC (jh b _));have m:=jh b (·.setIfInBounds 1 (rawInt ((i:Int)+1)));refine qu ⟨_,U,qu (h _ ⟨_,g1,(kW ..).trans f,?_⟩ (jB ..))⟩;rw[m];simp[rawInt]
def WU{Q:Option qe->Shared->Prop}{T:qd}{ps:qb Nat}(f:A.handled=none)(e:Uy s.heap it a (.ref T) i es.size ep)(g:s.heap.get? T=some (Y0 ps))(j:vl s.heap a es ep t)(hf:t.fits es.size=true)(k:ps[i]?=none)
 (h:∀h',Heap.ExtBut it s.heap h'->Q none {s with heap:=h'}):wpAny (model prog w) A (pyNext (.ref it)) Q E s:=by
 obtain⟨q,d,l,c⟩:=id e;obtain⟨o,n,hc,hd⟩:=j;unfold pyNext;refine qj (ya (je (name:=Str.ofString "__next__") e.typeIs QZ (zZ QZ e.typeIs Ut ?_ (UL _))));unfold Builtin.«set_iterator.__next__» slotArgs;simp only[yB,xh,zx,↓reduceIte,bind_assoc,zJ,yr];refine qj (qu ?_);refine qj (wt d c ?_);dsimp only;refine qj (yg n hd hf ?_);rw[qz (by simp)];simp only[jr];refine qj (kC g rfl ?_);dsimp only;have e1:((ps.map λ(i:Nat)=>rawInt i).toArray)[i]?=none:=by rw[List.getElem?_toArray,qC,k];rfl
 rw[e1];dsimp only;refine qj (yG d c (by simp) ?_);have g1:=zz (Obj.mapFields (·.setIfInBounds 0 (rawInt 0))) d (yC (jh c _));have p:=jh c (·.setIfInBounds 0 (rawInt 0));refine qj (yG (s:={s with heap:=s.heap.update it (Obj.mapFields (·.setIfInBounds 0 (rawInt 0)))}) g1 p (by simp) ?_);refine qj ?_;simp only[newExc,newTuple];refine qj (zH ?_ (by size_fits));refine qj (m:=firstArgMember _ _) (jq (a:=Value.none) (by first|rfl|(simp only[firstArgMember];rfl)) ?_);refine zH ?_ (by size_fits);simp only[raiseNew];refine qj (wpAny_handled ?_);rw[show A.in1.handled=none from f];refine qj (qu (wpAny_throw ?_));refine qj (vr (T:="StopIteration") (b:=true) ⟨_,qK _ rfl,U⟩ isSubtype_stop ?_);exact qu (h _ ((((jB ..).trans (jB ..)).extBut.push _).push _))
end
section
variable {prog:Program}{w:World}{A:Around}{E:qg}{s:Shared}{a it:qd}{es:Array (Int×qe)}{ep:Nat}{t:SetTable}
def Xp{i slot:Nat}{R:Option (qe×Nat)->Shared->Prop}(d:vl s.heap a es ep t)(hf:t.fits es.size=true)(b:w.params.followText "set-order"=true)
 (h:R (((pickOrder (w.params.setOrder a ep) es)[i]?).map λe=>(e.2,slot)) s):wpAny (model prog w) A (setNext a slot i ep) R E s:=by
 obtain⟨o,c,hc,hd⟩:=d;unfold setNext setsByText;refine qj (j5 c hd hf ?_);refine qj (qj (yi (qu ?_)));refine jO (λ_=>?_) (λz=>absurd (show w.params.followText "set-order"=true from b) z);rw[qz (by simp)];refine qj ?_;unfold setWalk setsByText;refine qj (j5 c hd hf ?_);refine qj (qj (yi (qu ?_)));refine jO (λ_=>?_) (λz=>absurd (show w.params.followText "set-order"=true from b) z);refine qj (yi ?_);exact qu (qu h)
def V7{i slot:Nat}{R:Option (qe×Nat)->Shared->Prop}(c:vl s.heap a es ep t)(hf:t.fits es.size=true)(d:w.params.followText "set-order"=false)(e:t.led=true)(hz:es.size<=1)
 (h:R (match es[SetTable.below t.place slot]?,t.place[SetTable.below t.place slot]? with|some (_,x),some j=>some (x,j+1)|_,_=>none) s):wpAny (model prog w) A (setNext a slot i ep) R E s:=by
 obtain⟨o,f,hc,hd⟩:=c;unfold setNext setsByText;refine qj (j5 f hd hf ?_);refine qj (qj (yi (qu ?_)));refine jO (λz=>absurd (show w.params.followText "set-order"=true from z) (by rw[d];exact qS)) (λ_=>?_);refine jO (λz=>?_) (λ_=>?_)
 .have b:(!t.plain&&decide (es.size > 1))=true:=z;rw[qB] at b;have:=qM b.2;omega
 refine qj ?_;show wpAny _ _ (if (!t.led&&!es.isEmpty)=true then _ else pure ()) _ _ s;rw[qz (by rw[e];simp)];exact qu (qu h)
def vl.at{h h':Heap}(x:vl h a es ep t)(k:∀o,h.get? a=some o->h'.get? a=some o):vl h' a es ep t:=let ⟨o,e,r⟩:=x;⟨o,k o e,r⟩
def Uy.at{h h':Heap}{first:qe}{i n:Nat}(x:Uy h it a first i n ep)(k:∀o,h.get? it=some o->h'.get? it=some o):Uy h' it a first i n ep:=let ⟨o,e,r⟩:=x;⟨o,k o e,r⟩
def G7:entryFor table "set_iterator.__iter__"=some Builtin.«dict_keyiterator.__iter__»:=entryFor_alias (id':="dict_keyiterator.__iter__") (by kernel_rfl) rfl ∅ (by kernel_rfl)
def Au(a:qe):argsOk "set_iterator.__iter__" ⟨[a],[]⟩:=by unfold argsOk;kernel_rfl
def Gn{first:qe}{i n:Nat}{Q:qg}(b:Uy s.heap it a first i n ep)(h:Q (.ref it) s):wpAny (model prog w) A (pyIter (.ref it)) Q E s:=by
 refine wpAny_pyIter_slot b.typeIs WZ (zZ WZ b.typeIs G7 ?_ (Au _));show wpAny _ _ (ret (.ref it)) _ _ s;exact qu ⟨_,U,"set_iterator",_,b.typeIs,QZ.lookup,h⟩
theorem D4(c:w.params.followText "set-order"=true)(hf:t.fits es.size=true)(l:A.handled=none)(d:a≠it) :
 Walks prog w A it [it,a] [it] es.size (λi v=>((pickOrder (w.params.setOrder a ep) es).toList.map (·.2))[i]?=some v) (λi h=>Uy h it a (.int 0 0) i es.size ep/\vl h a es ep t) where
 sub:=λb c=>by simp at c;simp[c]
 frame:=λ_ _ _ st j=>⟨st.1.at λo e=>j it (by simp) o e,st.2.at λo e=>j a (by simp) o e⟩
 item:=λi s Q E hi st f=>by
  have m:(pickOrder (w.params.setOrder a ep) es).size=es.size:=by have:=(XX (w.params.setOrder a ep) es).length_eq;simpa using this
  have e1:(pickOrder (w.params.setOrder a ep) es)[i]?=some ((pickOrder (w.params.setOrder a ep) es)[i]'⋯):=jz ⋯;refine Wj (slot:=0) (nx:=0) st.1 st.2 hf d _ (λn p R r=>Xp st.2 hf c (by rw[e1];exact r)) λh' g k=>?_;refine f _ h' s.toks ?_ ⟨g,st.2.at λo e=>(k.2 a d).trans e⟩ λb o c e=>(k.2 b (λz=>c (by simp[z]))).trans e;rw[qC,jQ,e1];rfl
 done:=λs Q E st f=>by
  have m:(pickOrder (w.params.setOrder a ep) es).size=es.size:=by have:=(XX (w.params.setOrder a ep) es).length_eq;simpa using this
  refine Vk (slot:=0) l st.1 st.2 hf (λn p R r=>Xp st.2 hf c (by rw[kN ⋯];exact r)) λh' g=>f h' s.toks λb o c e=>g b o (λz=>c (by simp[z])) e
 self:=λ_ _ _ _ st f=>Gn st.1 f
def DR(j:Nat):SetTable.below #[j] 0=0:=by
 unfold SetTable.below;simp[SetTable.below.go]
def DQ(j:Nat):SetTable.below #[j] (j+1)=1:=by
 unfold SetTable.below;simp[SetTable.below.go]
def He(es:Array (Int×qe))(pl:Array Nat)(a:es.size=1)(b:pl.size=es.size):∃e j,es=#[e]/\pl=#[j]:=by
 obtain⟨l⟩:=es;obtain⟨m⟩:=pl;simp only[qY] at a b;obtain⟨e,rfl⟩:=List.length_eq_one_iff.mp a;obtain⟨j,rfl⟩:=List.length_eq_one_iff.mp (b.trans a);exact⟨e,j,U,U⟩
theorem Hw(c:w.params.followText "set-order"=false)(hf:t.fits es.size=true)(m:t.led=true)(hz:es.size<=1)(u:A.handled=none)(f:a≠it) :
 Walks prog w A it [it,a] [it] es.size (λi v=>(es.toList.map (·.2))[i]?=some v) (λi h=>Uy h it a (.int ((if i=0 then 0 else t.place.getD 0 0+1:Nat):Int) 0) i es.size ep/\vl h a es ep t) where
 sub:=λb c=>by simp at c;simp[c]
 frame:=λ_ _ _ st x=>⟨st.1.at λo e=>x it (by simp) o e,st.2.at λo e=>x a (by simp) o e⟩
 item:=λi s Q E hi st d=>by
  have l:es.size=1:=by omega
  have h0:i=0:=by omega
  subst h0;have n:t.place.size=es.size:=by unfold SetTable.fits at hf;rw[qB] at hf;exact eq_of_beq hf.1
  obtain⟨e,j,e1,g⟩:=He es t.place l n;refine Wj (slot:=0) (nx:=j+1) st.1 st.2 hf f e.2 (λy B R r=>V7 st.2 hf c m hz (by rw[g,DR,e1];exact r)) λh' k q=>?_;refine d _ h' s.toks (by rw[e1];rfl) ⟨?_,st.2.at λo e=>(q.2 a f).trans e⟩ λb o c e=>(q.2 b (λz=>c (by simp[z]))).trans e;have p:(if 0+1=0 then 0 else t.place.getD 0 0+1:Nat)=j+1:=by rw[g];rfl
  rw[p];exact k
 done:=λs Q E st d=>by
  by_cases l:es.size=1
  .have n:t.place.size=es.size:=by unfold SetTable.fits at hf;rw[qB] at hf;exact eq_of_beq hf.1
   obtain⟨e,j,e1,g⟩:=He es t.place l n;have p:(if es.size=0 then 0 else t.place.getD 0 0+1:Nat)=j+1:=by rw[l,g];rfl
   have k:=st.1;rw[p] at k;refine Vk (slot:=j+1) u k st.2 hf (λy B R r=>V7 st.2 hf c m hz (by rw[g,DQ,e1];exact r)) λh' q=>d h' s.toks λb o c e=>q b o (λz=>c (by simp[z])) e
  .refine Vk u st.1 st.2 hf (λy B R r=>V7 st.2 hf c m hz (by rw[kN ⋯];exact r)) λh' q=>d h' s.toks λb o c e=>q b o (λz=>c (by simp[z])) e
 self:=λ_ _ _ _ st d=>Gn st.1 d
theorem Cn{T:qd}{ps:qb Nat}(c:ps.Perm (List.range es.size))(hf:t.fits es.size=true)(r:A.handled=none)(g:a≠it)(j:T≠it) :
 Walks prog w A it [it,a,T] [it] es.size (λi v=>((ps.map λp=>es.toList.getD p (0,.none)).map (·.2))[i]?=some v) (λi h=>Uy h it a (.ref T) i es.size ep/\vl h a es ep t/\h.get? T=some (Y0 ps)) where
 sub:=λb d=>by simp at d;simp[d]
 frame:=λ_ _ _ st k=>⟨st.1.at λo e=>k it (by simp) o e,st.2.1.at λo e=>k a (by simp) o e,k T (by simp) _ st.2.2⟩
 item:=λi s Q E hi st f=>by
  have u:ps.length=es.size:=by rw[c.length_eq,jJ]
  have q:ps[i]?=some (ps[i]'⋯):=qx ⋯;have l:ps[i]'⋯<es.size:=jE.mp (c.mem_iff.mp (zU ⋯));have e1:es[ps[i]'⋯]?=some (es.toList.getD (ps[i]'⋯) (0,.none)):=by
   rw[q4,jQ,jz l];rfl
  refine GP st.1 st.2.2 st.2.1 hf q e1 λh' m n=>?_;refine f _ h' s.toks ?_ ⟨m,st.2.1.at λo e=>(n.2 a g).trans e,(n.2 T j).trans st.2.2⟩ λb o d e=>(n.2 b (λz=>d (by simp[z]))).trans e;rw[qC,qC,q];rfl
 done:=λs Q E st f=>by
  have u:ps.length=es.size:=by rw[c.length_eq,jJ]
  refine WU r st.1 st.2.2 st.2.1 hf (va ⋯) λh' l=>f h' s.toks λb o d e=>l b o (λz=>d (by simp[z])) e
 self:=λ_ _ _ _ st f=>Gn st.1 f
def VB:∀{l:qb (Int×qe)},ElemsOf (strKind prog w) l->StrsAre (l.map (·.2)) (l.map λe=>WV e.2)
 |[],_=>.nil
 |e::l,h=>by
  obtain⟨t,q⟩:=G9 h (qo ..);have a:=VB (l:=l) λe he=>h e (qt _ he);show StrsAre (e.2::l.map (·.2)) (WV e.2::l.map λe=>WV e.2);rw[q];exact .cons _ _ a
def En{α:Type}(l:qb α)(d:α):(List.range l.length).map (λi=>l.getD i d)=l:=by
 apply List.ext_getElem
 .rw[qi,jJ]
 .intro i b a;rw[kA,List.getElem_range,q4,qx a];rfl
def BH(h:Heap)(o:Obj):h.objs.size<(h.push o).objs.size:=by rw[zY];exact zN _
theorem Iv{ks:qf}{Q:qg}(f:U7 prog w (!w.params.followText "set-order") a ks s.heap)
 (h:∀(I:qd)(h':Heap)(d':Drawn)(B:qb qd)(vs:qh)(ss:qf)(St:Nat->Heap->Prop),(∀b o,s.heap.get? b=some o->h'.get? b=some o)->s.heap.objs.size<=I->I<h'.objs.size->(∀b∈B,b=a\/s.heap.objs.size<=b) ->
   StrsAre vs ss->ss.Perm ks->(∀m:Around,m.handled=none->Walks prog w m I B [I] vs.length (λi v=>vs[i]?=some v) St)->St 0 h'->Q (.ref I) {s with heap:=h',drawn:=d'}) :
 wpAny (model prog w) A (pyIter (.ref a)) Q E s:=by
 obtain⟨o,es,ep,t,C,hex,hd,g,c,hf,n,y,j⟩:=f;have f:vl s.heap a es ep t:=⟨o,C,hex.1,hd⟩;have lt:a<s.heap.objs.size:=qI C;have ne:a≠s.heap.objs.size:=qR lt;have q:∀b∈[s.heap.objs.size,a],b=a\/s.heap.objs.size<=b:=λb c=>by
  rcases qy.mp c with e|c
  .exact .inr ⋯
  .exact .inl (qq.mp c)
 by_cases k:w.params.followText "set-order"=true
 .have pp:=XX (w.params.setOrder a ep) es;have r:((pickOrder (w.params.setOrder a ep) es).toList.map (·.2)).length=es.size:=by rw[qi,pp.length_eq,qQ]
  refine Wq f hf (by rw[k];rfl) ?_;refine h s.heap.objs.size _ s.drawn [s.heap.objs.size,a] ((pickOrder (w.params.setOrder a ep) es).toList.map (·.2)) ((pickOrder (w.params.setOrder a ep) es).toList.map λe=>WV e.2) (λi h=>Uy h s.heap.objs.size a (.int 0 0) i es.size ep/\vl h a es ep t) (λb o e=>qk _ e) (qp _) (BH _ _) q
   (VB (g.perm pp)) ((pp.map _).trans j) (λm d=>by rw[r];exact D4 k hf d ne) ⟨⟨_,qK _ rfl,U,U⟩,f.at λo e=>qk _ e⟩
 .have l:w.params.followText "set-order"=false:=wq.mpr k;by_cases hz:es.size<=1
  .have r:(es.toList.map (·.2)).length=es.size:=by rw[qi,qQ]
   refine Wq f hf (by rw[qr (show ¬es.size > 1 by omega),vt,vt]) ?_;refine h s.heap.objs.size _ s.drawn [s.heap.objs.size,a] (es.toList.map (·.2)) (es.toList.map λe=>WV e.2) (λi h=>Uy h s.heap.objs.size a (.int ((if i=0 then 0 else t.place.getD 0 0+1:Nat):Int) 0) i es.size ep/\vl h a es ep t) (λb o e=>qk _ e) (qp _) (BH _ _) q
    (VB g) j (λm d=>by rw[r];exact Hw l hf (by rw[n,l];rfl) hz d ne) ⟨⟨_,qK _ rfl,U,U⟩,f.at λo e=>qk _ e⟩
  .have D:t.plain=false:=by
    cases e:t.plain with
    |false=>rfl
    |true=>have:=y e;omega
   refine G2 f hf (by rw[l,D,qv (show es.size > 1 by omega)];rfl) (xE (qE c ∅)) λps d' u=>?_;have pp:(ps.map λp=>es.toList.getD p (0,Value.none)).Perm es.toList:=by
    have e1:=u.map (λp=>es.toList.getD p (0,Value.none));have x:=En es.toList (0,Value.none);rw[qQ] at x;rw[x] at e1;exact e1
   have r:((ps.map λp=>es.toList.getD p (0,Value.none)).map (·.2)).length=es.size:=by rw[qi,pp.length_eq,qQ]
   have x:(s.heap.push (Y0 ps)).objs.size=s.heap.objs.size+1:=zY ..;have z:a≠(s.heap.push (Y0 ps)).objs.size:=by rw[x];exact qR (jl lt)
   have neT:s.heap.objs.size≠(s.heap.push (Y0 ps)).objs.size:=by rw[x];omega
   refine h (s.heap.push (Y0 ps)).objs.size _ d' [(s.heap.push (Y0 ps)).objs.size,a,s.heap.objs.size] ((ps.map λp=>es.toList.getD p (0,Value.none)).map (·.2)) ((ps.map λp=>es.toList.getD p (0,Value.none)).map λe=>WV e.2) (λi h=>Uy h (s.heap.push (Y0 ps)).objs.size a (.ref s.heap.objs.size) i es.size ep/\vl h a es ep t/\h.get? s.heap.objs.size=some (Y0 ps))
    (λb o e=>qk _ (qk _ e)) (by rw[x];omega) (BH _ _) (λb c=>?_)
    (VB (g.perm pp)) ((pp.map _).trans j) (λm d=>by rw[r];exact Cn u hf d z neT) ⟨⟨_,qK _ rfl,U,U⟩,f.at λo e=>qk _ (qk _ e),qk _ (qK _ rfl)⟩
   rcases qy.mp c with e|c
   .exact .inr (by rw[e,x];omega)
   .rcases qy.mp c with e|c
    .exact .inl e
    .exact .inr (by rw[qq.mp c];exact qp _)
end
section
variable {prog:Program}{w:World}{A:Around}{E:qg}{s:Shared}
def Np{r:qd}{Q:Bool->Shared->Prop}(d:s.TypeIs (.ref r) "set")(h:Q false s):wpAny (model prog w) A (Builtin.List.listLengthHint (.ref r)) Q E s:=by
 unfold Builtin.List.listLengthHint;refine qj (wpAny_specialOf d PySem.F.slot_set_len.lookup ?_);generalize c:("set.__len__":String)=e
 wp_delta
 rw[show splitId e=some ("set","__len__") from by subst c;decide +kernel];subst c;refine qj (vr (T:="set") (b:=true) d (by rw[kB];kernel_rfl) ?_);refine jO (λa=>absurd a ∅) (λ_=>?_);refine jO (λ_=>?_) (λa=>absurd ∅ a);refine qj (vG d ?_);exact qu h
def U7.typeIs{led:Bool}{a:qd}{ks:qf}(x:U7 prog w led a ks s.heap):s.TypeIs (.ref a) "set":=let ⟨o,_,_,_,e,hex,_⟩:=x;⟨o,e,hex.1⟩
def U7.lt{led:Bool}{a:qd}{ks:qf}{h:Heap}(x:U7 prog w led a ks h):a<h.objs.size:=let ⟨o,_,_,_,e,_⟩:=x;qI e
theorem Nh{acc:Array qe}{vs:qh}(h:ItemsOf (λi v=>vs[i]?=some v) acc vs.length):acc.toList=vs:=by
 have a:acc.size=vs.length:=h.1;apply List.ext_getElem?;intro i;by_cases hi:i<acc.size
 .rw[jQ,jz hi];exact(h.2 i _ (jz hi)).symm
 .rw[va (by rw[qQ];omega),va ⋯]
def EJ{R:Result->Shared->Prop}{r:qd}{ks:qf}(C:A.handled=none)(hok:U7 prog w (!w.params.followText "set-order") r ks s.heap)(S:qd)(k:S≠r)(res:qe)(c₀:Nat)(D:s.heap.get? S=some {cls:=.type "list",data:=.seq #[] c₀})(v:ks.length<=sizeLine)
 (E:∀h' t d' c j ss,(∀b o,b≠S->s.heap.get? b=some o->h'.get? b=some o)->h'.get? S=some {cls:=.type "list",dict:=none,data:=.seq c j,slots:=#[]}->StrsAre c.toList ss->ss.Perm ks->R (.ok (.ret res)) {s with heap:=h',toks:=t,drawn:=d'}) :
 wpAny (model prog w) A.in1 (Builtin.List.listExtendWith (.ref S) (.ref r) res)
  (λfin s'=>match fin with|.done f=>R (.ok f) s'|.again j=>j.quiet=true/\codeAny (model prog w) A j R s') (λe s'=>R (.error e) s') s:=by
 have x:=qI D;unfold Builtin.List.listExtendWith;refine qj (vG (T:="set") hok.typeIs ?_);have u:Builtin.List.listSameRef (.ref S) (.ref r)=false:=by simp[Builtin.List.listSameRef,k]
 simp only[u,show(Value.type "set"==Value.type "list")=false by decide,show(Value.type "set"==Value.type "tuple")=false by decide,Bool.or_false,zx,yQ];refine qj (Iv hok λI u d' F vs ss St keep y ltI B l m W st=>?_);have n:S∉F:=λz=>by
  rcases B S z with e|e
  .exact k e
  .exact zw _ (qE x e)
 have hlen:vs.length<=sizeLine:=by rw[V3 l,m.length_eq];exact v
 have key:∀(h:Heap)(c₁ t:Nat),St 0 h->(∀b o,b≠S->s.heap.get? b=some o->h.get? b=some o)->h.get? S=some {cls:=.type "list",data:=.seq #[] c₁} ->
  codeAny (model prog w) A (.builtin "list.extend.loop" ⟨[.ref S,.ref I,res],[]⟩) R {s with heap:=h,toks:=t,drawn:=d'}:=by
  intro h c₁ t i G a;refine codeAny_extend_loopS (W A.in1 C).toS hlen S n res vs.length 0 _ #[] c₁ rfl (zb _) i a (ItemsOf.nil _) λs' c j hm q p=>?_;rw[Moved.eq_with hm];refine E s'.heap s'.toks d' c j ss (λb o g e=>hm.heap b o (λd=>?_) (G b o g e)) q (by rw[Nh p];exact l) m;rcases qy.mp d with H|d
  .exact g H
  .exact absurd (qI e) (by rw[qq.mp d];exact Nat.not_lt.mpr y)
 have a:=keep _ _ D;have p:=hok.at (h':=u) λo e=>keep _ _ e;refine qj (zR (Np (s:={s with heap:=u,drawn:=d'}) p.typeIs ?_));refine jO (λ_=>?_) (λ_=>qu ⟨j8 PySem.F.plain_extend_loop _,key _ c₀ _ st (λb o _ e=>keep _ _ e) a⟩);refine qj (xH ?_);refine qj ?_;show wpAny _ _ (updateSeq S (·.push .none)>>=λ_=>updateSeq S (·.pop)) _ _ _;refine qj (x9 a rfl ?_);have d:=zz (Obj.mapSeq (·.push Value.none)) a rfl;refine x9 (hz:=by seq_fits) d rfl ?_;have i:=zz (Obj.mapSeq (·.pop)) d rfl;refine qu ⟨j8 PySem.F.plain_extend_loop _,key _ _ _ ?_ (λb o g e=>?_) i⟩
 .refine(W A.in1 C).frame 0 _ _ st λb g o e=>?_;have q:b≠S:=λh=>n (h▸g);exact(zv _ _ (jy q)).trans ((zv _ _ (jy q)).trans e)
 .exact(zv _ _ (jy g)).trans ((zv _ _ (jy g)).trans (keep _ _ e))
def DI{r:qd}{ks:qf}{R:qh->Shared->Prop}(calm:A.handled=none)(ok:U7 prog w (!w.params.followText "set-order") r ks s.heap)(d:ks.length<=sizeLine)
 (fin:∀(g:Heap)(k:Nat)(d':Drawn)(got:qh)(ss:qf),(∀b o,s.heap.get? b=some o->g.get? b=some o)->s.heap.objs.size<g.objs.size->StrsAre got ss->ss.Perm ks->R got {s with heap:=g,toks:=k,drawn:=d'}) :
 wpAny (model prog w) A (collect (.ref r)) R E s:=by
 have i:=ok.lt
 let new:Obj:={cls:=.type "list",data:=.seq ([]:qh).toArray}
 have there:(s.heap.push new).get? s.heap.objs.size=some new:=qK _ rfl;have a:=ok.at (h':=s.heap.push new) λo e=>qk (h:=s.heap) new e;have walked:=EJ (A:=A) (s:={s with heap:=s.heap.push new})
  (R:=λq t=>∃(g:Heap)(k:Nat)(d':Drawn)(got:Array qe)(c:Nat)(ss:qf),q=Except.ok (Flow.ret (.ref s.heap.objs.size))/\t={s with heap:=g,toks:=k,drawn:=d'}/\(∀b o,s.heap.get? b=some o->g.get? b=some o) /\
    g.get? s.heap.objs.size=some {cls:=.type "list",dict:=none,data:=.seq got c,slots:=#[]}/\StrsAre got.toList ss/\ss.Perm ks)
  calm a s.heap.objs.size (yd i) (.ref s.heap.objs.size) 0 there d
  (λg k d' got c ss keep at' all pm=>⟨g,k,d',got,c,ss,U,U,λb o e=>keep b o (qR (qI e)) (qk _ e),at',all,pm⟩)
 have done:∀(g:Heap)(k:Nat)(d':Drawn)(got:Array qe)(c:Nat)(ss:qf),(∀b o,s.heap.get? b=some o->g.get? b=some o)->g.get? s.heap.objs.size=some {cls:=.type "list",dict:=none,data:=.seq got c,slots:=#[]}->StrsAre got.toList ss->ss.Perm ks ->
  wpAny (model prog w) A (do match (<-load s.heap.objs.size).data with
   |.seq xs _=>pure xs.toList
   |_=>unsupported "internal:collect") R E {s with heap:=g,toks:=k,drawn:=d'}:=λg k d' got c ss keep at' all pm=>
  qj (wpAny_load at' (qu (fin g k d' got.toList ss keep (qI at') all pm)))
 unfold collect;apply qj;apply wpAny_runValue;apply jk entry_proto_collect';rw[jo F.plain_proto_collect _];show wpAny _ A.in1 (newList []>>=λz=>again (.builtin "list.__iadd__" ⟨[z,.ref r],[]⟩)) _ _ s;apply qj;refine zH ?_;apply qu;refine⟨j8 F.plain_list_iadd _,?_⟩;apply jk entry_list_iadd';rw[jo F.plain_list_iadd _];refine zt walked (λf t q=>?_) (λe t q=>?_)
 .cases f with
  |done f=>
   obtain⟨g,k,d',got,c,ss,e,rfl,keep,at',all,pm⟩:=q;cases e;exact done g k d' got c ss keep at' all pm
  |again j=>
   refine⟨q.1,zT q.2 λz l y=>?_⟩;obtain⟨g,k,d',got,c,ss,rfl,rfl,keep,at',all,pm⟩:=y;exact done g k d' got c ss keep at' all pm
 .obtain⟨_,_,_,_,_,_,j,_⟩:=q;cases j
end
variable {X:Cx}
def Inv.drew{pins:qb (qd×Obj)}{σ:St}{H:Hp}{s:Shared}(I:Inv X pins σ H s)(d:Drawn):Inv X pins σ H {s with drawn:=d}:=
 ⟨I.ok,I.os,I.bare,I.base,I.loc,I.cell,I.free,I.j7,I.pin,I.hok,I.len⟩
def EX(P:Program)(w:World)(a:qd)(ks:qf):HO:=.ext λh=>U7 P w (!w.params.followText "set-order") a ks h
def Fz{P:Program}{w:World}{a:qd}{ks:qf}{H:Hp}{h:Heap}(x:U7 P w (!w.params.followText "set-order") a ks h):QY P w H h a (EX P w a ks):=
 ⟨x,let ⟨o,_,_,_,e,_⟩:=x;⟨o,e⟩,λ_ _ y k=>y.at k⟩
theorem NK(hc:X.calm=true):YO X (.type "set") (λxs H Q=>∃(p:qd)(ss:qf),xs=[.ref p]/\zm X.K H p (ss.map V.str)/\ss.length<=1000/\∀l,H l=none->Q (.ref l) (upd H l (EX X.prog X.w l (ss.foldl YM [])))):=by
 intro pins s σ H xs us Q I r h;obtain⟨p,ss,rfl,e,i,q⟩:=h;obtain⟨u,rfl,f⟩:=Ul r;cases f;obtain⟨its,c,pl,_⟩:=I.list e;have a:=VC c;have hlen:its.length=ss.length:=by have:=c.length;rw[qi] at this;exact this.symm
 refine ET (ss:=ss) (I.ok.hd hc) pl.isList (by simpa using a) (by rw[qY];show _<4096;omega) λh' g a1 a2=>?_;exact⟨.ref s.heap.objs.size,_,I.laid (t':=g) (λb u d=>a2 b u (qI d) d) (qp _) (Fz a1),U,q _ (I.hok.fresh (qp _))⟩
theorem KC(hc:X.calm=true):YO X (.builtin "sorted") (λxs H Q=>∃p ks,xs=[.ref p]/\H p=some (EX X.prog X.w p ks)/\ks.length<64/\∀l,H l=none->Q (.ref l) (upd H l (.lst ((YA ks).map V.str)))):=by
 intro pins s σ H xs us Q I r h;obtain⟨p,ks,rfl,w,L,q⟩:=h;obtain⟨u,rfl,x⟩:=Ul r;cases x;obtain⟨y,_,_⟩:=(show QY X.prog X.w H s.heap p (EX X.prog X.w p ks) from I.hok p _ w);have z:X.A.in1.handled=none:=I.ok.hd hc;refine Calls.call_function_entry kind_sorted plain_sorted entry_sorted (args_sorted1 _) ?_;unfold Builtin.«sorted»;refine qj (m:=checkCount "sorted" 1 1 _) (qu ?_);refine qj (DI (A:=X.A.in1) z y (Yj (⋯)) λh' B d' acc ss C j a f=>?_);have k:acc.length=ss.length:=V3 a;have D:ss.length=ks.length:=f.length_eq;refine qj (wpAny_newList ?_ (by rw[k];exact Yj (⋯)));have c:(h'.push (seqObj "list" acc.toArray 0)).get? h'.objs.size=some (seqObj "list" acc.toArray 0):=qK _ rfl;refine qj (zR (zZ slot_list_sort ⟨_,c,U⟩ entry_list_sort (list_sort_treeK strKind_oneLt c a.keysOf (λt v rest e=>keyKind_strs (by rw[<-e];exact a)) ⋯ λd a1 a2=>⟨_,U,?_⟩) (args_list_sort _)));refine qu ⟨_,U,?_⟩;obtain⟨n,E,F,G⟩:=sorted_out_str a a1 a2;obtain⟨e,he⟩:=sortedHeap_at (out:=(arrOf d).map (·.2)) c;have o:n=YA ks:=(Xn F (LH G)).trans (V6 f);subst o;have hsz:s.heap.objs.size<=h'.objs.size:=xE j;have old:∀b u,s.heap.get? b=some u->(sortedHeap (h'.push (seqObj "list" acc.toArray 0)) h'.objs.size acc ((arrOf d).map (·.2))).get? b=some u:=λb u K=>by
  have g:=C b u K;have i:=qI g;rw[sortedHeap_old (qR i) (by rw[size_push'];exact jl i)];exact qk _ g
 have J:=I.laid (t':=B) old hsz (show QY X.prog X.w (upd H h'.objs.size (.lst ((YA ks).map V.str))) _ _ (.lst ((YA ks).map V.str)) from⟨by rw[qi,XR];exact Yj (⋯),((arrOf d).map (·.2)).toList,e,VA E,by rw[xk];exact he⟩);exact⟨.ref h'.objs.size,_,J.drew d',U,q _ (I.hok.fresh hsz)⟩
inductive AL(x:V)(xs:qb V)(H:Hp)(Q:VK):Prop
 |mk:∀(z y:qc),x=.str z->xs=[.str y]->z.length<=1000000->Q (.str (Txt.rstripChars z y)) H->AL x xs H Q
def OE:V->qb V->Hp->VK->Prop:=λx xs H Q=>AL x xs H Q
def Ig{X:Cx}:vz X "str.rstrip" OE:=by
 intro pins s σ H x xs v us Q I a b h;obtain⟨z,y,rfl,rfl,hz,q⟩:=h;obtain⟨t,rfl⟩:=a;obtain⟨u,rfl,c⟩:=Ul b;obtain⟨t',rfl⟩:=c;exact SCL.rstripChars (λ_ _ _=>⟨.str _,H,I.tok _,⟨_,U⟩,q⟩) (by show z.length<=2^24;omega)
def El{x y:qc}{c:Nat}(h:c∈(Txt.rstripChars x y).cps.toList):c∈x.cps.toList:=by
 obtain⟨j,_,e⟩:=rstripChars_is_prefix x y;rw[e] at h;have h:c∈(x.cps.extract 0 j).toList:=h;rw[Array.toList_extract] at h;exact jG (jc h)
def An:isSubtype (.type "tuple") (.type "set")=pure false:=by rw[kB];kernel_rfl
def WR:isSubtype (.type "tuple") (.type "frozenset")=pure false:=by rw[kB];kernel_rfl
section
variable {prog:Program}{w:World}{A:Around}{E:qg}{s:Shared}
set_option maxHeartbeats 3200000 in
def DK{l:qd}{items:Array qe}{ss:qf}{Q:qg}(K:A.handled=none)(L:s.heap.IsTuple l items)(hi:StrsAre items.toList ss)(k:items.size+1<scanBound)
 (h:∀(h':Heap)(m:Nat),U7 prog w (!w.params.followText "set-order") s.heap.objs.size (ss.foldl YM []) h'->(∀b o,b<s.heap.objs.size->s.heap.get? b=some o->h'.get? b=some o)->Q (.ref s.heap.objs.size) {s with heap:=h',toks:=m}) :
 wpAny (model prog w) A (call (.type "set") [.ref l]) Q E s:=by
 obtain⟨c,Y,Z⟩:=jb.mro;have m2:=jb.made;have m3:=jb.sub;have m4:=jb.notType;have m5:=jb.canCreate;have m6:=F.typeCall_set_1 (.ref l);refine jH (xZ ?_);show wpAny _ _ (callAny (.type "set") _) _ _ _;refine qu ⟨yt _ ∅,jk F.entry_type_call ?_⟩;rw[Around.under_plain (vY "set" [.ref l] []) rfl]
 repeat (any_goals (first|assumption|wp_step))
 refine zT (AV (.ref l) (E:=E) (R:=λz n=>z=.ref s.heap.objs.size/\n={s with heap:=s.heap.push (Y7 w)}) ⟨U,U⟩) λr C p=>?_
 cases r with
 |error e=>exact p
 |ok M=>
  cases M with
  |ret z=>
   obtain⟨rfl,rfl⟩:=p;have n:(s.heap.push (Y7 w)).get? s.heap.objs.size=some (Y7 w):=qK _ rfl;have D:Shared.TypeIs {s with heap:=s.heap.push (Y7 w)} (.ref s.heap.objs.size) "set":=⟨_,n,U⟩;have z3:=jb.init.lookup;have z4:=jb.init.bind (.ref s.heap.objs.size)
   repeat (any_goals (first|assumption|wp_step))
   refine zT (jg (R:=wants (λr d=>r=.none/\∃h' m,d={s with heap:=h',toks:=m}/\U7 prog w (!w.params.followText "set-order") s.heap.objs.size (ss.foldl YM []) h' /\
    (∀b o,b<s.heap.objs.size->s.heap.get? b=some o->h'.get? b=some o)) E) jb.init.plain F.entry_set_init (check_set_init_1 D ?_)) λg d a=>?_
   .obtain⟨ol,e1,G,nl,H⟩:=L;obtain⟨I,f,q,oslots⟩:=ol;simp only at G H;subst G;subst H;have J:(s.heap.push (Y7 w)).get? l=some {cls:=.type "tuple",dict:=f,data:=.seq items nl,slots:=oslots}:=qk _ e1;have y2:=An;have y3:=WR;have y4:(Value.type "tuple"==Value.type "dict")=false:=by decide
    have u:(s.heap.push (Y7 w)).IsTuple l items:=⟨_,J,U,nl,U⟩;unfold Builtin.«set.__init__» noKeywords Builtin.Frozenset.updateFrom;generalize x:pyIter=PI;unfold Y7 at n D J u⊢
    wp_walk
    subst x;refine wpAny_pyIter_tuple u ?_;refine qj (wpAny_runValue ?_);have lt:l<s.heap.objs.size:=qI e1;have N:A.in1.in1.in1.handled=none:=by simp[K]
    have ne:l≠(s.heap.push {cls:=.type "set",dict:=none,data:=.set #[] 0 (.fresh 0 0 (!w.params.followText "set-order"))}).objs.size:=by
     rw[zY];exact qR (jl lt)
    have O:s.heap.objs.size∉[(s.heap.push {cls:=.type "set",dict:=none,data:=.set #[] 0 (.fresh 0 0 (!w.params.followText "set-order"))}).objs.size,l]:=by
     rw[zY];intro z;rcases qy.mp z with z|z
     .omega
     .rw[qq.mp z] at lt;exact zw _ lt
    have P:∀(i:Nat)(v:qe),items[i]?=some v->∃t,v=.str ((λi=>ss.getD i "") i) t:=λi v e=>Bx hi i v (by rw[jQ];exact e);have S:GR (λi=>ss.getD i "") items.size=ss.foldl YM []:=by
     unfold GR;rw[<-qQ,V3 hi,Gw]
    refine Gp (led:=!w.params.followText "set-order") ((Walks.tuple N _ l ne items).toS) s.heap.objs.size O (λi=>ss.getD i "") P k (items.size-0) 0 _ ⋯ (zb _) ⟨⟨_,qK _ rfl,U,U⟩,u.push _⟩ ?S0 ?R0
    case S0=>exact(Ru (prog:=prog) (w:=w) (s:=s)).at λo e=>qk _ e
    case R0=>
     intro s' hm j;obtain⟨h',g',d',y,B⟩:=s';have T:g'=s.gens:=hm.gens;have V:d'=s.drawn:=hm.drawn;have X:B=s.os:=hm.os;subst T;subst V;subst X;rw[S] at j;refine qu (qu ⟨U,h',y,U,j,λb o k e=>?_⟩);refine hm.heap b o (λz=>?_) (qk _ (qk _ e));rcases qy.mp z with z|z
     .exact absurd z (qR k)
     .have z:=qq.mp z;rw[zY] at z;exact absurd z (qR (jl k))
   .cases g with
    |error e=>exact a
    |ok f=>
     cases f with
     |ret r=>
      obtain⟨rfl,h',m,rfl,a1,a2⟩:=a
      repeat (any_goals (first|assumption|wp_step))
      exact h _ _ a1 a2
     |_=>exact a.elim
  |_=>exact p.elim
end
def DL{X:Cx}(hc:X.calm=true):YO X (.type "set") (λxs H Q=>∃(p:qd)(ss:qf),xs=[.ref p]/\zu X.K H p (ss.map V.str)/\ss.length<=1000/\∀l,H l=none->Q (.ref l) (upd H l (EX X.prog X.w l (ss.foldl YM [])))):=by
 intro pins s σ H xs us Q I r h;obtain⟨p,ss,rfl,e,i,q⟩:=h;obtain⟨u,rfl,f⟩:=Ul r;cases f;obtain⟨its,c,pl,_⟩:=I.tuple e;have a:=VC c;have hlen:its.length=ss.length:=by have:=c.length;rw[qi] at this;exact this.symm
 refine DK (ss:=ss) (I.ok.hd hc) pl (by simpa using a) (by rw[qY];show _<4096;omega) λh' g a1 a2=>?_;exact⟨.ref s.heap.objs.size,_,I.laid (t':=g) (λb u d=>a2 b u (qI d) d) (qp _) (Fz a1),U,q _ (I.hok.fresh (qp _))⟩
def dd(ss:qf):qf:=ss.foldl YM []
theorem Hj:∀(ss acc:qf){x:qc},x∈ss.foldl YM acc↔x∈acc\/x∈ss
 |[],acc,x=>by simp
 |y::ss,acc,x=>by
  rw[jw,Hj ss (YM acc y),BV,qy,or_assoc]
def NH:∀(ss acc:qf),acc.Nodup->(ss.foldl YM acc).Nodup
 |[],_,h=>h
 |y::ss,acc,h=>NH ss (YM acc y) (Tu h)
def BU{ss:qf}{x:qc}:x∈dd ss↔x∈ss:=by unfold dd;rw[Hj];simp
def Hl(ss:qf):(dd ss).Nodup:=NH ss [] List.nodup_nil
theorem Hk:∀(ss acc:qf),(ss.foldl YM acc).length<=acc.length+ss.length
 |[],acc=>by simp
 |y::ss,acc=>by
  have a:=Hk ss (YM acc y);have:(YM acc y).length<=acc.length+1:=by unfold YM;split<;>simp
  rw[jw,qw];omega
def NI(ss:qf):(dd ss).length<=ss.length:=by have:=Hk ss [];simpa[dd] using this
def SS(ss:qf):qf:=YA (dd ss)
def GU{ss:qf}{x:qc}:x∈SS ss↔x∈ss:=HD.trans BU
def N6(ss:qf):(SS ss).length<=ss.length:=by unfold SS;rw[XR];exact NI ss
def XM{a b:qf}(h:∀x,x∈a↔x∈b):SS a=SS b:=V6 ((List.perm_ext_iff_of_nodup (Hl a) (Hl b)).mpr λx=>BU.trans ((h x).trans BU.symm))
def N4(ss:qf):(SS ss).Nodup:=(UB _).nodup_iff.mpr (Hl ss)
def N3{l:qf}(a:l.Nodup):SS l=YA l:=V6 ((List.perm_ext_iff_of_nodup (Hl l) a).mpr λx=>BU)
def PX{l:qf}(a:w9 l)(b:l.Nodup):SS l=l:=by rw[N3 b];exact(Xn (.refl l) a).symm
def Cc(l:qf):SS (SS l)=SS l:=XM λ_=>GU
def Bq(l:qf)(p:qc->Bool):SS ((SS l).filter p)=(SS l).filter p:=PX ((WD _).filter _) ((N4 l).filter _)
def DM{X:Cx}(hc:X.calm=true):YO X (.type "set") (λxs H Q=>∃(p:qd)(ss:qf),xs=[.ref p]/\(zm X.K H p (ss.map V.str)\/zu X.K H p (ss.map V.str))/\ss.length<=1000/\∀l,H l=none->Q (.ref l) (upd H l (EX X.prog X.w l (dd ss)))):=by
 intro pins s σ H xs us Q I r h;obtain⟨p,ss,e,a|a,b,q⟩:=h
 .exact NK hc pins s σ H xs us Q I r ⟨p,ss,e,a,b,q⟩
 .exact DL hc pins s σ H xs us Q I r ⟨p,ss,e,a,b,q⟩
theorem Wx{K:Frag}{a:qd}{α:Type}{xs:qb α}{fr:qb (Nat×qc)}{tt:TT}{q:TE}{σ:St}{H1:Hp}{Q:VK}(g:α->V)(pr:α->Bool)(f:α->V)(hz:xs.length<=sizeLine)(t:zm K H1 a (xs.map g))
 (l:∀(x:α)(c:Hp)(Q':Bool->Hp->Prop),x∈xs->Qi H1 c->(∀h,Qi c h->Q' (pr x) h)->tt (some (g x)::xA σ fr) c Q')
 (n:∀(x:α)(c:Hp)(Q':VK),x∈xs->Qi H1 c->pr x=true->(∀h,Qi c h->Q' (f x) h)->q (some (g x)::xA σ fr) c Q')
 (u:∀D H2,H1 D=none->Qi H1 H2->H2 D=some (.lst ((xs.filter pr).map f))->Q (.ref D) H2) :
 Ug (g7 K a) fr tt q σ H1 Q:=by
 intro D o;refine⟨λi m ys H2=>m=xs.length-i/\i<=xs.length/\ys=((xs.take i).filter pr).map f/\Qi H1 H2/\H2 D=some (.lst ys),⟨xs.length,by simp,zb _,by simp,Qi.zL o,Qg⟩,?_⟩;rintro i m ys H2 ⟨rfl,hi,rfl,s2,j⟩;refine⟨j,?_⟩;have d:=s2.seq t;by_cases b:i<xs.length
 .have k:(xs.map g)[i]?=some (g xs[i]):=by rw[qC,qx b];rfl
  refine .inr ⟨⟨xs.map g,g xs[i],d,k⟩,?_⟩;rintro v c ⟨rfl,w⟩;have r:(xs.map g)[i]?=some v:=w _ d;rw[k] at r;cases r;have hm:xs[i]∈xs:=zU b;have s:xs.take (i+1)=xs.take i++[xs[i]]:=by rw[zo,qx b];rfl
  refine l xs[i] _ _ hm s2 λh s4=>?_
  cases p:pr xs[i] with
  |false=>
   refine QA ⟨xs.length-(i+1),⋯,U,b,?_,s2.trans s4,s4 _ _ j⟩;rw[s,ja,jf,p];simp
  |true=>
   refine QI (n xs[i] _ _ hm (s2.trans s4) p λy s5=>⟨s5 _ _ (s4 _ _ j),?_,xs.length-(i+1),⋯,U,b,?_,((s2.trans s4).trans s5).zE o,Qg⟩)
   .have:=zF pr (xs.take i);rw[zi] at this;rw[qi];omega
   .rw[s,ja,jf,p];simp
 .have e:i=xs.length:=by omega
  subst e;have k:xs.take xs.length=xs:=qP (qp _);rw[k] at j;exact .inl ⟨⟨xs.map g,d,by rw[qi];exact qp _⟩,u D H2 o s2 j⟩
def ER{K:Frag}{a:qd}{xs:qb V}{fr:qb (Nat×qc)}{k:TE}{σ:St}{H1:Hp}{Q:VK}(Pv:qd->Nat->qb V->Hp->Prop)(hz:xs.length<=sizeLine)(l:zm K H1 a xs)(h0:∀D,H1 D=none->Pv D 0 [] (upd H1 D (.lst [])))(hlen:∀D i ys H,Pv D i ys H->ys.length=i)
 (j:∀(D:qd)(i:Nat)(x:V)(ys:qb V)(c:Hp)(Q':VK),xs[i]?=some x->H1 D=none->Pv D i ys c->c D=some (.lst ys)->Qi H1 c->(∀y g,Qi c g->Pv D (i+1) (ys++[y]) (upd g D (.lst (ys++[y])))->Q' y g)->k (some x::xA σ fr) c Q')
 (n:∀D ys H2,H1 D=none->Pv D xs.length ys H2->Qi H1 H2->H2 D=some (.lst ys)->Q (.ref D) H2) :
 Ug (g7 K a) fr AA k σ H1 Q:=by
 intro D d;refine⟨λi m ys H2=>m=xs.length-i/\i<=xs.length/\Pv D i ys H2/\Qi H1 H2/\H2 D=some (.lst ys),⟨xs.length,by simp,zb _,h0 D d,Qi.zL d,Qg⟩,?_⟩;rintro i m ys H2 ⟨rfl,hi,p,s2,h⟩;refine⟨h,?_⟩;have b:=s2.seq l;by_cases f:i<xs.length
 .refine .inr ⟨⟨xs,xs[i],b,qx f⟩,?_⟩;rintro v c ⟨rfl,o⟩;refine Xl (QI ?_);refine j D i v ys _ _ (o xs b) d p h s2 λy g s5 q=>⟨s5 _ _ h,?_,xs.length-(i+1),⋯,U,f,q,(s2.trans s5).zE d,Qg⟩;rw[hlen D i ys _ p];omega
 .have e:i=xs.length:=by omega
  subst e;exact .inl ⟨⟨xs,b,qp _⟩,n D ys H2 d p s2 h⟩
variable {P:Program}{w:World}{H:Hp}{B h h1 h2:Heap}{C e:qd}
def QY.there{a:qd}{o:HO}(x:QY P w H h a o):∃b,h.get? a=some b:=by
 cases o with
 |lst xs=>obtain⟨_,_,_,_,e⟩:=x;exact⟨_,e⟩
 |tup xs=>obtain⟨_,_,_,b,e,_⟩:=x;exact⟨_,e⟩
 |dK c=>obtain⟨_,_,_,_,o,_,_,e,_⟩:=x;exact⟨_,e⟩
 |dT c=>obtain⟨_,_,_,_,o,_,_,e,_⟩:=x;exact⟨_,e⟩
 |set S n=>obtain⟨o,_,_,_,e,_⟩:=x;exact⟨_,e⟩
 |ins C d c=>obtain⟨_,_,_,e,_⟩:=x;exact⟨_,e⟩
 |own y=>exact x
 |xd c=>obtain⟨_,⟨_,_,_,e,_⟩,_⟩:=x;exact⟨_,e⟩
 |rng lo hi=>obtain⟨_,_,_,e⟩:=x;exact⟨_,e⟩
 |vN b u=>obtain⟨e,_⟩:=x;exact⟨_,e⟩
 |gi ps=>exact⟨_,(show h.get? a=some _ from x)⟩
 |met f y=>exact⟨_,(show h.get? a=some _ from x)⟩
 |ext c=>obtain⟨_,e,_⟩:=x;exact e
def Cov(c:qb qd)(H:Hp)(h B:Heap):Prop:=∀b o,h.get? b=some o->b∉c->∃a,B.get? b=some a/\(H b=none->a=o)
def gw(H:Hp)(h B:Heap):Prop:=∀b o,H b≠none->h.get? b=some o->B.get? b=some o
def Un.flown{c:qb qd}{H':Hp}(u:Un c [] H H' h h1)(f:Cov c H h B)(st:B.StaysIn h2)(sl:h1.UpToSlots h2)(fr:∀b∈c,∀o,h1.get? b=some o->∀vs,o.data≠.fields vs):Un c [] H H' h h2 where
 keep:=λb o q n a _=>by
  obtain⟨g,e,z⟩:=f b o q a;rw[z n] at e;exact st _ _ e
 slot:=λb o q n a d=>by
  obtain⟨s0,e⟩:=u.slot b o q n a d;obtain⟨s1,e1⟩:=sl b _ e (fr b a _ e);exact⟨s1,e1⟩
 free:=u.free
 there:=λb o q d=>by
  by_cases a:b∈c
  .obtain⟨i,e1⟩:=u.there b o q d;obtain⟨_,j⟩:=sl b i e1 (fr b a i e1);exact⟨_,j⟩
  .obtain⟨g,e,_⟩:=f b o q a;exact⟨g,st _ _ e⟩
 tups:=u.tups
 xx:=u.xx
 xS:=u.xS
def yu.flown(x:yu P w H h1)(ct:gw H h1 B)(st:B.StaysIn h2):yu P w H h2:=λa o e=>
 (x a o e).stay (λb u c q=>st b u (ct b u (λz=>by
   rcases c with rfl|c
   .rw[z] at e;cases e
   .rw[z] at c;cases c) q)) (λ_ q=>q) λ_ _ q=>q
def gw.flown(x:yu P w H h1)(ct:gw H h1 B)(st:B.StaysIn h2):gw H h2 B:=λb o n q=>by
 cases e:H b with
 |none=>exact absurd e n
 |some u=>
  obtain⟨c,d⟩:=(x b u e).there;have e1:=ct b c n d;have a:=st _ _ e1;rw[q] at a;cases a;exact e1
structure Fly(P:Program)(w:World)(l:qb Env)(H:Hp)(s:Shared)(e C:qd)(H':Hp)(s':Shared):Prop where
 os:s'.os=s.os
 bare:AllBare s'.gens
 un:Un (frs l) [] H H' s.heap s'.heap
 hok:yu P w H' s'.heap
 fr:H' e=none
 nw:s.heap.get? e=none
 fly:∃(B:Heap)(a0:qe),Heap.FlyingW B l e (.ref C) a0 s'.heap/\Cov (frs l) H s.heap B/\gw H' s'.heap B
section
variable {X:Cx}{pins:qb (qd×Obj)}{σ:St}{Hc H':Hp}{sc:Shared}
def Inv.gQ(I:Inv X pins σ Hc sc):∀b∈frs X.stack,∀o,sc.heap.get? b=some o->∀vs,o.data≠.fields vs:=λb a o e=>by
 obtain⟨_,c,e1,d⟩:=I.stack.mem a;rw[e] at e1;cases e1;exact d
def Pt{s1:Shared}{g:qe}(I:Inv X pins σ Hc sc)(hex:X.ex=[])(un:Un (frs X.stack) [] Hc H' sc.heap s1.heap)(os:s1.os=sc.os)(bare:AllBare s1.gens)(hok:yu X.prog X.w H' s1.heap)
 (he:H' e=none) (nw:sc.heap.get? e=none) (d:Heap.FlyingW B X.outer e (.ref C) g h2) (h:Cov (frs X.stack) Hc sc.heap B) (ct:gw H' s1.heap B) (sl:s1.heap.UpToSlots h2) (l:∀b∈frs X.stack,∀o,s1.heap.get? b=some o->∀vs,o.data≠.fields vs) :
 Fly X.prog X.w X.outer X.H₀ X.s₀ e C H' {s1 with heap:=h2}:=by
 have f:=un.flown h d.1 sl l;have c:=hok.flown ct d.1;have J:Inv X pins σ H' {s1 with heap:=h2}:=I.call' (s':={s1 with heap:=h2}) (ch:=[]) os f c bare nofun;have base:=J.base;rw[hex] at base;have a:=I.base;rw[hex] at a;refine⟨J.os,J.bare,base,J.hok,he,?_,B,g,d,λb o e i=>?_,ct.flown hok d.1⟩
 .cases q:X.s₀.heap.get? e with
  |none=>rfl
  |some o=>
   obtain⟨j,k⟩:=a.there e o q nofun;rw[nw] at k;cases k
 .obtain⟨k,e1⟩:=a.there b o e nofun;have nb:b∉frs X.stack:=λz=>(qy.mp (I.kb b z)).elim (λz=>absurd (qE (qI e) I.ok.above) (by rw[z];exact zw _)) i;obtain⟨j,m,z⟩:=h b k e1 nb;refine⟨j,m,λn=>?_⟩;have:=a.keep b o e n i nofun;rw[e1] at this;cases this;exact z (a.free b o e n nofun)
end
structure Xcl(K:Frag)(C:qd):Prop where
 q:excIn K C C3 "ValueError.__new__"=true
inductive cA(h:Heap)(C:qd):Prop
 |mk:∀bm N nm q bs hdct sn sub ab col dd k0 k1 k2 k3 k5 mN,h.get? C=some (excClassObj nm q C N bs bm hdct sn sub ab col dd k0 k1 k2 k3 k5 "ValueError.__new__")->h.Ns N mN->mN "__init__"=none->OwnTail h C3 bm->cA h C
def Xcl.obj{K:Frag}(x:Xcl K C)(X:K.In h):cA h C:=by
 have q:=x.q;unfold excIn at q;split at q
 .rename_i dd cd sl i
  split at q
  .rename_i z bm j k l m n o hm g
   rw[qB,qB,qB,qB,qB] at q;obtain⟨⟨⟨⟨⟨b,c⟩,d⟩,p⟩,e⟩,a⟩:=q;have b:=jm.mp b;have c:=jm.mp c;rw[yS] at d;obtain⟨a1,a2,A,r,s,t,u,v,w,f,y⟩:=cd;obtain⟨ls⟩:=sl;dsimp only at hm d e a g;have a:=jm.mp a;subst hm d g b c;exact⟨bm,r,a1,s,a2,t,u,v,w,f,dd,j,k,l,m,o,_,X _ _ i,.of_isNs (PySem.W.isNs_of_in X e),PySem.W.nsMap_none_of_in X e a,tail_of_in X p⟩
  .cases q
 .cases q
def Cd(a:vj)(X:Cx)(R:St->XK):Prop:=∀(pins:qb (qd×Obj))(σ:St)(H:Hp)(s:Shared)(e:qe)(s':Shared),Inv X pins σ H s->a X.stack H s (R σ) e s'->X.xe e s'
def RZ(sp:Sp)(a:qb V)(R:St->XK)(t:TA):TE:=λσ H Q=>t σ H λvs H1=>sp (vs++a) H1 Q (R σ)
section
variable {X:Cx}{CX:vj}{k:Nat}{f C:qd}{fd:FuncData}{ps:qf}{sp:Sp}{yO:qb V}{ds:qh}{R:St->XK}{x m:qc}{p pos apos:Pos}{e o:Expr}{es:qb Expr}{ta:TE}{t:TA}
def Oy{pins:qb (qd×Obj)}{σ:St}{s:Shared}{Q:VK}{us:qh}{vs:qb V}(F:Y6 X.prog X.w X.K X.mg X.base CX k f fd ps sp)(c:QF k X.A)(d:Yl X.K fd ps ds)(hd:QD yO ds)(g:Cd CX X R)
 (I:Inv X pins σ H s) (r:QD vs us) (h:sp (vs++yO) H Q (R σ)):wpAny (model X.prog X.w) X.A (call (.ref f) us) (EP X pins σ Q) X.xe s:=by
 have b:QD (vs++yO) (us++ds):=r.append hd;have i:(us++ds).length=ps.length:=by rw[<-b.length];exact F.len _ _ _ _ h
 refine jH (zT (F.run X.A X.stack s H ⟨us,[]⟩ (us++ds) (vs++yO) Q (R σ) c I.env0 (d s us I.yz i) b h) λr s' a=>?_)
 cases r with
 |error e=>exact g pins σ H s e s' I a
 |ok j=>cases j with
  |ret u=>exact I.after a
  |_=>exact False.elim a
def Mo(F:Y6 X.prog X.w X.K X.mg X.base CX k f fd ps sp)(d:QF k X.A)(g:Gl X x)(hm:X.mg x=some (.ref f))(i:keepIn X.K (.ref f)=true)(j:Yl X.K fd ps ds)(hd:QD yO ds)(l:Cd CX X R)
 (m:PA X (e::es) t) (a:(x==("__debug__":qc))=false:=by decide) (he:starEach (e::es) X.env=(false,eval e X.env)::starEach es X.env:=by rfl) (b:(backTo pos (starEach es X.env)).any (·.1)=false:=by rfl) :
 PE X (.Call (.Name x p) (e::es) [] pos) (RZ sp yO R t):=by
 intro pins s σ H Q I h;refine zM (UZ I g hm (callWith_K (h₀:=X.base) I.ok.mod.vh i (zS (m pos pins s σ H _ I h) λus s1 ⟨vs,H1,c,r,q⟩=>⟨c.yz,Oy F d j hd l c r q⟩) he b) a)
end
def C8{M:Model}{A:Around}{E:qg}{g:Array GenState}{d:Drawn}{t:Nat}{os:OsState}{D N w:qd}{u:Obj}{Q:Bool->Shared->Prop}
 {nm q n x:qc} {bs bm o a:qh} {i b:Bool} {sn p:qf} {sub j:qh} {y r:Bool} {col k:Option Bool} {dd s:Option qd} {z B F G H I J K L O:Option qe} {newId newId':String}
 (P:h.get? C=some (excClassObj nm q C N bs bm i sn sub y col dd z B F G H newId)) (v:h.get? D=some (excClassObj n x D w o a b p j r k s I J K L O newId')) (he:h.get? e=some u) (l:u.cls=.ref C)
 (c:a.contains (.type "BaseException")=true) (m:(Value.ref C::bm).contains (.ref D)=true) (R:Q true ⟨h,g,d,t,os⟩):wpAny M A (excMatches (.ref e) (.ref D)) Q E ⟨h,g,d,t,os⟩:=by
 have S:(Value.ref D::a).contains (.type "BaseException")=true:=by rw[vZ,c,Bool.or_true]
 have f:=tc_notTuple;unfold excMatches
 repeat (first|(with_reducible refine j6 he ?_;rw[l])|(with_reducible refine j6 v ?_)|(with_reducible refine kf v ?_;rw[S])|(with_reducible refine kf P ?_;rw[m])|wp_step)
 exact R
def hnd(X:Cx)(ev:qe):Cx:={X with A:=X.A.mark (some ev),calm:=false,xe:=λ_ _=>False}
section
variable {X:Cx}{pins wA:qb (qd×Obj)}{σ:St}{H:Hp}{s:Shared}{R:St->XK}
def Inv.inhnd(I:Inv X pins σ H s)(ev:qe):Inv (hnd X ev) pins σ H s:=
 ⟨⟨I.ok.mod,I.ok.kind,I.ok.glob,I.ok.blt,I.ok.above,I.ok.inj,I.ok.has,I.ok.cab,nofun,I.ok.frames,I.ok.gj,I.ok.gq,I.ok.bs,I.ok.vB,I.ok.kP,I.ok.kQ,I.ok.xq,I.ok.wd⟩,I.os,I.bare,I.base,I.loc,I.cell,I.free,I.j7,I.pin,I.hok,I.len⟩
def Inv.vf{ev:qe}(ok:X.Ok)(I:Inv (hnd X ev) pins σ H s):Inv X pins σ H s:=
 ⟨ok,I.os,I.bare,I.base,I.loc,I.cell,I.free,I.j7,I.pin,I.hok,I.len⟩
def SP.vf{ev:qe}{D:Uu}{f:Flow}(ok:X.Ok)(h:SP (hnd X ev) pins D f s):SP X pins D f s:=by
 cases f with
 |ret u=>obtain⟨v,a,H',I,r,q⟩:=h;exact⟨v,a,H',I.vf ok,r,q⟩
 |_=>obtain⟨a,H',I,q⟩:=h;exact⟨a,H',I.vf ok,q⟩
def Fly.inv{H':Hp}{s1:Shared}{l:qb Env}{a:qe}(F:Fly X.prog X.w X.stack H s e C H' s1)(I:Inv X pins σ H s)(c:Heap.FlyingW B X.stack e (.ref C) a s1.heap)(f:Cov (frs X.stack) H s.heap B)(ct:gw H' s1.heap B)
 (st:B.StaysIn h2) (sl:s1.heap.UpToSlots h2):Inv X pins σ H' {s1 with heap:=h2}:=
 I.call' (s':={s1 with heap:=h2}) (ch:=[]) F.os (F.un.flown f st sl λb g o e=>by
  obtain⟨_,h,e1,d⟩:=c.2.2.1.mem g;rw[e] at e1;cases e1;exact d) (F.hok.flown ct st) F.bare nofun
end
end L2
set_option maxHeartbeats 400000
namespace L2
open PySem PySem.Spec PyProof.Rows
variable {M:Model}{tk:Tok}
open PySem.Builtin PySem.Builtin.ObjectAttr PySem.Builtin.Getset_descriptor
structure Xg(K:Frag)(C:qd):Prop where
 ga:findIn K (.ref C) "__getattribute__"=some (some (.builtin "BaseException.__getattribute__"))
 gt:findIn K (.ref C) "__getattr__"=some none
 cl:hasDictIn K C=true
 ca:findIn K (.ref C) "__class__"=some (some (.builtin "object.__class__"))
 hn:specialIn K (.builtin "object.__class__") "__get__"=some (some (.builtin "getset_descriptor.__get__"))
 tk:takesIn K (.builtin "object.__class__")=some true
 mo:mroIn K C (.type "object")=some true
 mb:mroIn K C (.type "BaseException")=some true
def w6(C e:qd)(h:Heap):Prop:=∃o,h.get? e=some o/\o.cls=.ref C
def w6.type{C e:qd}{h:Heap}(x:w6 C e h) :Looks M h (typeOf (.ref e)) (.ref C):=by
 obtain⟨o,a,b⟩:=x;exact b▸(wW a).andThen .now
section
variable {prog:Program}{w:World}{A:Around}{E:qg}{K:Frag}{x C:qd}{h:Heap}{g:Array GenState}{d:Drawn}{t:Nat}{os:OsState}
def VU{α:Type}{A:Around}{c:Bool}{a b:Sem α}{Q:α->Shared->Prop}{E:qg}{s:Shared}(hc:c=false)(h:wpAny M A b Q E s):wpAny M A (if c=true then a else b) Q E s:=by
 rw[hc,qz qS];exact h
def Xg.find(Z:Xg K C)(X:K.In h) :Looks M h (Builtin.ObjectAttr.find (.ref x) (.ref C) "__class__") (.bind (.builtin "getset_descriptor.__get__") (.builtin "object.__class__")):=by
 have a:=looks_findIn (M:=M) X Z.ca;have L2:Looks M h (Builtin.ObjectAttr.getOf (some (.builtin "object.__class__"))) (some (.builtin "getset_descriptor.__get__")):=PySem.W.looks_specialIn X Z.hn;have b:Looks M h (Builtin.ObjectAttr.dataDescriptor? (some (.builtin "object.__class__")) (some (.builtin "getset_descriptor.__get__"))) (some (.builtin "getset_descriptor.__get__",.builtin "object.__class__")):=(PySem.W.looks_takesIn X Z.tk).andThen .now;exact a.andThen (L2.andThen (b.andThen (Looks.tag .now)))
def Px{R:Result->Shared->Prop}{a:qe}(Z:Xg K C)(X:K.In h)(I:w6 C x h)(b:R (.ok (.ret (.ref C))) ⟨h,g,d,t,os⟩) :
 codeAny (model prog w) A (.call (.builtin "getset_descriptor.__get__") ⟨[.builtin "object.__class__",.ref x,a],[]⟩) R ⟨h,g,d,t,os⟩:=by
 have c:=I.type (M:=model prog w);have e:=looks_mroIn (M:=model prog w) X Z.mo;refine jg PySem.W.KF.slot_gs.plain PySem.W.KF.entry_gs (PySem.W.KF.slot_gs.check _ _ _ _ _ _ _ _ PySem.W.KF.type_class (PySem.W.KF.args_gs _ _ _) ?_);unfold Builtin.«getset_descriptor.__get__» descrGet;rw[PySem.W.dga_obj];refine qj (qu ?_);unfold descrGetter descrCheckInstance descrNameAndClass isInstance;simp only[PySem.W.KF.owner_class];repeat lk
 refine⟨yt _ ∅,jk PySem.W.KF.entry_class ?_⟩;unfold Builtin.«object.__class__» shownTypeOf;repeat lk
 exact b
def II{Q:Fin->Shared->Prop}(Z:Xg K C)(X:K.In h)(I:w6 C x h)(a:Q (.done (.ret (.ref C))) ⟨h,g,d,t,os⟩) :
 wpAny (model prog w) A (Builtin.«object.__getattribute__» ⟨[.ref x,.str "__class__" tk],[]⟩) Q E ⟨h,g,d,t,os⟩:=by
 have b:=I.type (M:=model prog w);have c:=Z.find (x:=x) X (M:=model prog w);refine qj (qu (qj (qu (qj (b.at (qj (c.at ?_)))))));show wpAny _ _ (Builtin.ObjectAttr.bindTo (.builtin "getset_descriptor.__get__") (.builtin "object.__class__") (.ref x) (.ref C)) _ _ _;unfold Builtin.ObjectAttr.bindTo
 repeat (any_goals (first|assumption|wp_step))
 exact Px Z X I (qu a)
def A9{a:qe}{Q:Unit->Shared->Prop}(L:Looks M h (isInstance (.ref x) (.type "BaseException")) true)(b:Q () ⟨h,g,d,t,os⟩):wpAny M A (checkBuiltinCall "BaseException.__getattribute__" ⟨[.ref x,a],[]⟩) Q E ⟨h,g,d,t,os⟩:=by
 have c:builtinKind "BaseException.__getattribute__"=some .slot:=by decide +kernel
 have e:splitId "BaseException.__getattribute__"=some ("BaseException","__getattribute__"):=by decide +kernel
 have f:argsOk "BaseException.__getattribute__" ⟨[.ref x,a],[]⟩:=F.args_bexc_ga (.ref x) a;have j:Looks M (⟨h,g,d,t,os⟩:Shared).heap (isInstance (.ref x) (.type "BaseException")) true:=L;have key:=check_slot (M:=M) (A:=A) (E:=E) (s:=⟨h,g,d,t,os⟩) (i:="BaseException.__getattribute__") (owner:="BaseException") (n:="__getattribute__") (self:=.ref x) (rest:=[a]) (kw:=[]) (Q:=Q) c e j;exact key f b
def NB{R:Result->Shared->Prop}(Z:Xg K C)(X:K.In h)(I:w6 C x h)(a:R (.ok (.ret (.ref C))) ⟨h,g,d,t,os⟩) :
 codeAny (model prog w) A (.call (.builtin "BaseException.__getattribute__") ⟨[.ref x,.str "__class__" tk],[]⟩) R ⟨h,g,d,t,os⟩:=by
 have L:Looks (model prog w) h (isInstance (.ref x) (.type "BaseException")) true:=(I.type (M:=model prog w)).andThen (looks_mroIn (M:=model prog w) X Z.mb);exact jg xM.ga.plain F.entry_bexc_ga (A9 L (II Z X I a))
def Te{Q:qg}(Z:Xg K C)(X:K.In h)(I:w6 C x h)(c:Q (.ref C) ⟨h,g,d,t,os⟩) :
 wpAny (model prog w) A (getAttrBy (.ref x) (.str "__class__" tk) false) Q E ⟨h,g,d,t,os⟩:=by
 have e:=I.type (M:=model prog w);have f:=looks_findIn (M:=model prog w) X Z.ga;have L2:=looks_findIn (M:=model prog w) X Z.gt;have i:=xM.ga.bind (.ref x);have a:(Value.builtin "BaseException.__getattribute__"==Value.builtin "object.__getattribute__")=false:=by decide +kernel
 have b:(onTheHeap (Value.ref C)&&Value.builtin "BaseException.__getattribute__"==Value.builtin "object.__getattribute__")=false:=by rw[a];rfl
 refine zR (qj (e.at (qj (f.at ?_))));refine VU b ?_;refine qj (L2.at ?_);refine qj (ya (zR ?_));show wpAny _ _ (boundAndCalled (.builtin "BaseException.__getattribute__") (.ref x) (.str "__class__" tk)) _ _ _;unfold boundAndCalled;rw[i];refine qj (qu ?_);refine jH (NB Z X I ?_);exact handed_on rfl c
def IJ{Q:Option qe->Shared->Prop}(Z:Xg K C)(X:K.In h)(I:w6 C x h)(a:Q (some (.ref C)) ⟨h,g,d,t+1,os⟩):wpAny (model prog w) A (getAttr? (.ref x) "__class__") Q E ⟨h,g,d,t,os⟩:=by
 unfold getAttr? getAttrBy?;refine qj (wpAny_mkText (qj (ya (Te Z X I ?_))));exact qu a
def Na(Z:Xg K C):PySem.W.KitX K (.ref x) (.ref C) (w6 C x) where
 ty:=λ_ _ _ I=>I.type
 it:=λ_ _ X _=>by
  obtain⟨cd,hc,_⟩:=any_some Z.cl;unfold clsIn at hc;split at hc
  .rename_i b
   intro a Q' c s' k q;unfold isType loadHead;exact qj (wpAny_loadPart (k _ _ (X _ _ b)) (qu q))
  .cases hc
 ne:=λh c dd its n sl X a=>by
  obtain⟨cd,hc,_⟩:=any_some Z.cl;refine wq.mpr λq=>?_;have e:C=c:=Value.ref.inj (jm.mp q);rw[<-e] at a;unfold clsIn at hc;split at hc
  .rename_i b
   have z:=(X _ _ b).symm.trans a;cases z
  .cases hc
 ca:=λ{prog w A E Q s} X I k=>by
  obtain⟨h,g,d,t,os⟩:=s;exact IJ Z X I k
end
end L2
set_option maxHeartbeats 4000000
namespace L2
open PySem PySem.Spec PyProof.Rows
section
variable {X:Cx}{pins:qb (qd×Obj)}{σ:St}{H:Hp}{s:Shared}
def Inv.track{e:qd}{o:HO}(I:Inv X pins σ H s)(d:H e=none)(h0:X.s₀.heap.get? e=none)(g:e≠X.env.locals)(h:∀x c,X.env.cells.lookup x=some c->c≠e)(i:∀p∈X.pn++pins,p.1≠e)
 (ok:QY X.prog X.w (upd H e o) s.heap e o):Inv X pins σ (upd H e o) s where
 ok:=I.ok
 os:=I.os
 bare:=I.bare
 base:=⟨I.base.keep,I.base.slot,λb j q n k=>by
  have f:b≠e:=λz=>by rw[z,h0] at q;cases q
  rw[Qj f];exact I.base.free b j q n k,I.base.there,
  λb xs q=>by have:=I.base.tups b xs q;rw[Qj (Qo this d)];exact this,
  λb o u q=>by have:=I.base.xx b o u q;rw[Qj (Qo this d)];exact this,
  λb ps q=>by obtain⟨more,this⟩:=I.base.xS b ps q;exact⟨more,by rw[Qj (Qo this d)];exact this⟩⟩
 loc:=I.loc
 cell:=I.cell
 free:=by rw[Qj (jy g)];exact I.free
 j7:=λx c q=>by rw[Qj (h x c q)];exact I.j7 x c q
 pin:=λp q=>by
  obtain⟨a,b,c⟩:=I.pin p q;exact⟨a,by rw[Qj (i p q)];exact b,c⟩
 hok:=λb u q=>by
  by_cases f:b=e
  .subst f;rw[Qg] at q;cases q;exact ok
  .rw[Qj f] at q;exact(I.hok b u q).stay (λ_ _ _ z=>z) (λc z=>by rw[Qj (Qo z d)];exact z) λc xs z=>by rw[Qj (Qo z d)];exact z
 len:=I.len
def K0{M:Model}{A:Around}{E:qg}{i:Nat}{x:qc}{pos:Pos}{Q:Unit->Shared->Prop}(I:Inv X pins σ H s)(F:X.N.Nodup)(hi:X.N[i]?=some x)(G:X.env.scope.names.lookup x=some .local)
 (h:∀s',Inv X pins (σ.set i none) H s'->Q () s'):wpAny M A (do bindName X.env x .none;unbindBehindTheSuite X.env x pos) Q E s:=by
 obtain⟨m,C,J⟩:=id I.loc;have g:(X.env.scope.kind==.class||(X.env.scope.kind==.module&&X.env.locals != X.env.globals))=false:=by rw[I.ok.kind];rfl
 have l:=I.gv;have r:i<σ.length:=by rw[I.len];exact(qJ.mp hi).1
 obtain⟨T,_,_,K,_⟩:=id C;refine wpAny_nameGoes_keeps G C g λh' v w a=>?_;have f:∀b o,X.s₀.heap.get? b=some o->b≠X.env.locals:=λb o e=>qR (qE (qI e) I.ok.above);refine h _ ⟨I.ok,I.os,I.bare,⟨λb o e n B t=>?_,λb o e n B t=>?_,I.base.free,λb o e t=>?_,I.base.tups,I.base.xx,I.base.xS⟩,⟨_,w,λj y L e1 u N=>?_⟩,λy c e=>?_,I.free,I.j7,λp O=>?_,λb P e=>?_,by simpa using I.len⟩
 .exact(a.2 b (f b o e)).trans (I.base.keep b o e n B t)
 .obtain⟨sl,e1⟩:=I.base.slot b o e n B t;exact⟨sl,(a.2 b (f b o e)).trans e1⟩
 .obtain⟨D,e1⟩:=I.base.there b o e t;exact⟨D,(a.2 b (f b o e)).trans e1⟩
 .have D:j≠i:=λz=>by
   subst z;rw[yP r] at u;cases u
  rw[xi (jy D)] at u;obtain⟨R,S,q⟩:=J j y L e1 u N;refine⟨R,S,?_⟩;rcases q with⟨k,e⟩|⟨k,c,e,z⟩
  .refine .inl ⟨k,?_⟩;have:y≠x:=λe=>D (Xw F e1 (e▸hi));simp[this,e]
  .exact .inr ⟨k,c,e,z.sameBut a (l y c e)⟩
 .obtain⟨D,z⟩:=I.cell y c e;exact⟨D,z.sameBut a (l y c e)⟩
 .obtain⟨e,n,ne,R,d⟩:=I.pin p O;exact⟨(a.2 p.1 ne).trans e,n,ne,R,d⟩
 .refine(I.hok b P e).stay (λc D hc q=>(a.2 c ?_).trans q) (λ_ q=>q) λ_ _ q=>q;rintro rfl;rcases hc with rfl|hc
  .rw[I.free] at e;cases e
  .rw[I.free] at hc;cases hc
end
def unb(i:Nat)(D:Uu):Uu:={nx:=λσ H=>D.nx (σ.set i none) H,rt:=D.rt,bk:=λσ H=>D.bk (σ.set i none) H,ct:=λσ H=>D.ct (σ.set i none) H}
end L2
set_option maxHeartbeats 400000
namespace L2
open PySem PySem.Spec PyProof.Rows
theorem Co{k:Bool}:∀{bs:qb Bool}{us:qh},QD (bs.map V.bl) us->(∀y∈us,∃b,y=Value.bool b)/\us.countP (isBoolOf k)=bs.count k
 |[],us,r=>by
  cases r;exact⟨λy a=>(q5 a).elim,U⟩
 |b::bs,us,r=>by
  cases r with
  |cons c d=>
   rename_i u e
   obtain rfl:u=Value.bool b:=c;obtain⟨f,g⟩:=Co (k:=k) d;refine⟨λy a=>?_,?_⟩
   .rcases qy.mp a with rfl|a
    .exact⟨b,U⟩
    .exact f y a
   .rw[List.countP_cons,List.count_cons,g];rfl
inductive AM(x:V)(vs:qb V)(H:Hp)(Q:VK):Prop
 |mk:∀(l:qd)(bs:qb Bool)(k:Bool),x=.ref l->vs=[.bl k]->H l=some (.lst (bs.map V.bl))->Q (.int (bs.count k:Nat)) H->AM x vs H Q
def OG:V->qb V->Hp->VK->Prop:=λx vs H Q=>AM x vs H Q
def Ih{X:Cx}:vz X "list.count" OG:=by
 intro pins s σ H x vs v us Q I a c h;obtain⟨l,bs,k,rfl,rfl,d,q⟩:=h;cases a;obtain⟨u,rfl,f⟩:=Ul c;obtain rfl:u=Value.bool k:=f;obtain⟨z,its,n,r,m,e⟩:=I.wC d;obtain⟨g,i⟩:=Co (k:=k) r;refine xG F.slot_list_count ⟨_,e,U⟩ F.entry_list_count (F.args_list_count_2 _ _) (SeqAt.list_countAt l its.toArray n _ _ (.bool k) (isBoolOf k)) ⟨e,λy j=>?_,?_⟩
 .obtain⟨b,rfl⟩:=g y (by simpa using j);exact SeqAt.EqAt.bool_bool b k
 .rw[show its.toArray.toList=its from rfl,i];exact⟨.int (bs.count k:Nat),H,I.tok _,⟨_,U⟩,q⟩
variable {A:Around}{P:Program}{w:World}{mg:qc->Option qe}{base:Heap}{qual:qc}{f:qd}
structure Vf(k:Nat)(A:Around):Prop where
 dp:A.depth+3*k+5<recursionLimit
 un:A.units+16*k+200<cLine
 gd:A.guards=some []
def QF.toU{k:Nat}(r:QF k A):Vf k A:=⟨r.dp,r.un,r.gd⟩
def Vf.mark{k:Nat}(r:Vf k A)(ev:Option qe):Vf k (A.mark ev):=⟨r.dp,r.un,r.gd⟩
def Vf.deeper{k:Nat}(r:Vf (k+1) A)(env:Env):Vf k (A.deeper env):=
 ⟨by have:=r.dp;show A.depth+1+3*k+5<_;omega,by have:=r.un;show A.units+3+16*k+200<_;omega,r.gd⟩
def Vf.depth{k:Nat}(r:Vf k A):A.depth<recursionLimit:=by have:=r.dp;omega
structure DX(P:Program)(w:World)(K:Frag)(mg:qc->Option qe)(base:Heap)(k:Nat)(f:qd)(fd:FuncData)(ps:qf)(sp:Sp):Prop where
 len:∀vs H Q E,sp vs H Q E->vs.length=ps.length
 run:∀(A:Around)(outer:qb Env)(s:Shared)(H:Hp)(args:Args)(us:qh)(vs:qb V)(Q:VK)(E:XK),Vf k A->Aw P w K mg base A outer s H->BindsTo s fd args (ps.zip us)->QD vs us->sp vs H Q E ->
  codeAny (model P w) A (.call (.ref f) args) (CR jx outer P w H s Q E) s
def cxU(P:Program)(w:World)(K:Frag)(mg:qc->Option qe)(base:Heap)(N:qf)(qual:qc)(scope:Scope)(f:qd)(cd:qe)(A:Around)(outer:qb Env)(s:Shared)(H:Hp)(E:XK):Cx:=
 {Ua jx P w K mg base N qual scope f cd A outer s H E with calm:=false,xe:=λ_ _=>False}
def Inv.toU{K:Frag}{N:qf}{scope:Scope}{cd:qe}{outer:qb Env}{s s1:Shared}{H H1:Hp}{E:XK}{σ:St}{pins:qb (qd×Obj)}
 (I:Inv (Ua jx P w K mg base N qual scope f cd {A with handled:=none} outer s H E) pins σ H1 s1):Inv (cxU P w K mg base N qual scope f cd A outer s H E) pins σ H1 s1:=
 ⟨⟨I.ok.mod,I.ok.kind,I.ok.glob,I.ok.blt,I.ok.above,I.ok.inj,I.ok.has,I.ok.cab,nofun,I.ok.frames,I.ok.gj,I.ok.gq,I.ok.bs,I.ok.vB,I.ok.kP,I.ok.kQ,I.ok.xq,I.ok.wd⟩,I.os,I.bare,I.base,I.loc,I.cell,I.free,I.j7,I.pin,I.hok,I.len⟩
def S9{K:Frag}{k:Nat}{name:qc}{params:Arguments}{body:qb Stmt}{scope:Scope}{B kV doc pm a ct F:qe}{an G:Option qd}
 {l:Array (Option qe)} {N ps:qf} {sp:Sp} (lk:K.lookup f=some ⟨F,G,.func (fnOf name qual params body scope B kV doc pm an a ct),l⟩) (m:codeIn K a qual=true) (S:Y5 N ps scope)
 (len:∀vs H Q E,sp vs H Q E->vs.length=ps.length)
 (g:∀(A:Around)(outer:qb Env)(s:Shared)(H:Hp)(vs:qb V)(Q:VK)(E:XK),Vf k (A.deeper (envOfC qual scope s.heap.objs.size f a))->sp vs H Q E ->
   ∃t,yV (cxU P w K mg base N qual scope f a A outer s H E) body t/\t {nx:=λ_ H'=>Q .non H',rt:=Q} (start N vs) H) :
 DX P w K mg base (k+1) f (fnOf name qual params body scope B kV doc pm an a ct) ps sp:=by
 refine⟨len,λA outer s H args us vs Q E C c L r j=>?_⟩;have M:=len _ _ _ _ j;have D:K.In s.heap:=c.mod.vh.keeps λb o e=>(c.bs b o e).1;have lim:s.heap.NoLimit:=c.mod.nolimit.keeps λb o e=>(c.bs b o e).1;have h:∀y∈ps.zip us,scope.names.lookup y.1=some .local\/(scope.names.lookup y.1=some .cell/\((cellsFrom (s.heap.objs.size+1) scope.names []).lookup y.1).isSome=true):=λ⟨n,v⟩ O=>by
  rcases S.par n (xu O).1 with q|q
  .exact .inl q
  .exact .inr ⟨q,cellsFrom_some _ _ _ (.inl q)⟩
 refine vX C.depth (D _ _ lk) rfl S.co S.gen rfl (codeRec_of D m) (L _ _ _ _ ?_);refine kx S.kind h λenv he s1 x=>?_;subst he;refine⟨lim.keeps x.toInCall.keep,codeAny_func ?_⟩;obtain⟨t,R,T⟩:=g A outer s H vs Q E (C.deeper _) j;have p:Aw P w K mg base {A with handled:=none} outer s H:=⟨c.frames,c.mod,c.bs,c.vB,c.xq,c.wd,c.hok,c.bare⟩;have X:Inv (Ua jx P w K mg base N qual scope f a {A with handled:=none} outer s H E) [] (start N vs) H s1:=X8 S rfl p M r x;have I:Inv (cxU P w K mg base N qual scope f a A outer s H E) [] (start N vs) H s1:=X.toU;refine zt (R [] s1 (start N vs) H _ I T) (λY s' i=>?_) λe s' i=>i.elim;have fin:∀{d:St}{H':Hp}{v:V}{u:qe},Inv (cxU P w K mg base N qual scope f a A outer s H E) [] d H' s'->QL v u->Q v H'->CE outer P w H s Q u s':=
  λ{d H' v u} J z q=>⟨v,H',J.os,J.bare,J.base,J.hok,z,q⟩
 cases Y with
 |ret u=>
  obtain⟨v,d,H',J,z,q⟩:=i;exact fin J z q
 |next=>
  obtain⟨d,H',J,q⟩:=i;exact fin (v:=V.non) (u:=Value.none) J rfl q
 |brk=>
  obtain⟨_,_,_,q⟩:=i;exact False.elim q
 |cont=>
  obtain⟨_,_,_,q⟩:=i;exact False.elim q
def kL.okU{K:Frag}{x:qc}{st:Stmt}{fd:FuncData}{N ps:qf}{k:Nat}{sp:Sp}(F:kL K x qual st f fd)(S:Y5 N ps (Qr st))(len:∀vs H Q E,sp vs H Q E->vs.length=ps.length)
 (b:∀(a:qe)(A:Around)(outer:qb Env)(s:Shared)(H:Hp)(vs:qb V)(Q:VK)(E:XK),Vf k (A.deeper (envOfC qual (Qr st) s.heap.objs.size f a))->sp vs H Q E ->
   ∃t,yV (cxU P w K mg base N qual (Qr st) f a A outer s H E) (QK st) t/\t {nx:=λ_ H'=>Q .non H',rt:=Q} (start N vs) H):DX P w K mg base (k+1) f fd ps sp:=by
 obtain⟨h,i,kV,doc,pm,an,a,ct,e,rfl,lk,c⟩:=F.ex;exact S9 lk c S len λA outer s H vs Q E g d=>b a A outer s H vs Q E g d
section
variable {X:Cx}{k:Nat}{f:qd}{fd:FuncData}{ps:qf}{sp:Sp}{yO:qb V}{ds:qh}{E:XK}{x:qc}{p pos:Pos}{e:Expr}{es:qb Expr}{t:TA}
def Oz{pins:qb (qd×Obj)}{σ:St}{H:Hp}{s:Shared}{Q:VK}{us:qh}{vs:qb V}(F:DX X.prog X.w X.K X.mg X.base k f fd ps sp)(c:Vf k X.A)(d:Yl X.K fd ps ds)(hd:QD yO ds)
 (I:Inv X pins σ H s) (r:QD vs us) (h:sp (vs++yO) H Q E):wpAny (model X.prog X.w) X.A (call (.ref f) us) (EP X pins σ Q) X.xe s:=by
 have b:QD (vs++yO) (us++ds):=r.append hd;have g:(us++ds).length=ps.length:=by rw[<-b.length];exact F.len _ _ _ _ h
 refine jH (zT (F.run X.A X.stack s H ⟨us,[]⟩ (us++ds) (vs++yO) Q E c I.env0 (d s us I.yz g) b h) λr s' a=>?_)
 cases r with
 |error e=>exact False.elim a
 |ok i=>
  cases i with
  |ret u=>exact I.after a
  |next=>exact False.elim a
  |brk=>exact False.elim a
  |cont=>exact False.elim a
def Mp(F:DX X.prog X.w X.K X.mg X.base k f fd ps sp)(d:Vf k X.A)(g:Gl X x)(hm:X.mg x=some (.ref f))(i:keepIn X.K (.ref f)=true)(j:Yl X.K fd ps ds)(hd:QD yO ds)
 (l:PA X (e::es) t) (a:(x==("__debug__":qc))=false:=by decide) (he:starEach (e::es) X.env=(false,eval e X.env)::starEach es X.env:=by rfl) (b:(backTo pos (starEach es X.env)).any (·.1)=false:=by rfl) :
 PE X (.Call (.Name x p) (e::es) [] pos) (AE sp yO E t):=by
 intro pins s σ H Q I h;refine zM (UZ I g hm ?_ a);refine callWith_K (h₀:=X.base) I.ok.mod.vh i (zS (l pos pins s σ H _ I h) λus s1 ⟨vs,H1,c,r,q⟩=>⟨c.yz,?_⟩) he b;exact Oz F d j hd c r q
end
def PM:bootBuiltins "ValueError"=some (.type "ValueError"):=by decide +kernel
end L2
set_option maxHeartbeats 4000000
namespace L2
open PySem PySem.Spec PyProof.Rows
section
variable {X:Cx}{pins:qb (qd×Obj)}{σ:St}{H:Hp}{s:Shared}{h':Heap}
def Inv.xr{t':Nat}{ch:qb qd}(I:Inv X pins σ H s)(k:∀b o,b∉ch->s.heap.get? b=some o->h'.get? b=some o)(f:∀b∈ch,WX X pins H b):Inv X pins σ H {s with heap:=h',toks:=t'}:=by
 have a:∀b u,H b=some u->b∉ch:=λb u e z=>by rw[(f b z).1] at e;cases e
 refine I.step (g':=s.gens) (d':=s.drawn) (ch:=ch) (λb d=>?_) (λb o _ _ hc e _=>k b o hc e) (λb o _ _ hc e _=>⟨o.slots,k b o hc e⟩) (λ_ _ _ _ n=>n)
  (λb o hc e=>⟨o,k b o hc e⟩) (λ_ _ e=>e) (λ_ _ _ e=>e) (λb ps e=>⟨#[],by rw[e];simp⟩) (λm hm=>?_) (λb u e=>?_) I.bare
 .obtain⟨_,f1,_,g,f4,h⟩:=f b d;exact⟨g,f1,f4,h⟩
 .obtain⟨o,g,h,i,r⟩:=hm;exact⟨o,g,h,k _ o (λz=>(f _ z).2.1 rfl) i,r⟩
 .refine(I.hok b u e).stay (λc v hc q=>k c v ?_ q) (λ_ q=>q) λ_ _ q=>q;rcases hc with z|z
  .rw[z];exact a b u e
  .exact a c _ z
end
def Ite(K:Frag)(l:qd):It:=
 ⟨λi H=>∃xs x,zm K H l xs/\xs[i]?=some x,λi H v H'=>∃(T:qd)(x:V),(∀xs,zm K H l xs->xs[i]?=some x)/\H T=none/\v=.ref T/\H'=upd H T (.tup [.int i,x]),λi H=>∃xs,zm K H l xs/\xs.length=i⟩
theorem Hy{P:Program}{w:World}{K:Frag}{elts:qb Expr}{kt:Nat}{pt:Pos}(l e it:qd)(Y:e≠it)(Z:l≠e)(h3:l≠it):DW P w K (.Tuple elts kt pt) (Ite K l) [e,it] e (λi h=>(∃old,IsEnum h e it (i:Int) old)/\h.IsListIter it l i) where
 mem:=by simp
 obj:=λi h st b f=>by
  obtain⟨⟨old,s1⟩,o,s2,c,d⟩:=st;rcases qy.mp f with rfl|f
  .exact⟨_,s1,λv z=>by cases z⟩
  .have e:=qq.mp f;subst e;exact⟨o,s2,λv z=>by rw[d] at z;cases z⟩
 keep:=λi h h' st k=>⟨let ⟨old,s1⟩:=st.1;⟨old,k e (by simp) _ s1⟩,st.2.at λo q=>k it (by simp) o q⟩
 item:=by
  intro X D hw F hc i pins s σ H E I hf st G;subst D hw F;obtain⟨xs,x,B,J⟩:=G;obtain⟨its,L,p,hz⟩:=I.list B;obtain⟨u,hu,ru⟩:=L.get J;have M:i<its.length:=(qJ.mp hu).1;have W:=WalksT.enumerate (prog:=X.prog) (w:=X.w) (I.ok.hd hc) e it l Y Z h3 its.toArray;refine W.item i s _ E (by simpa using M) ⟨st.1,st.2,p.isList⟩ λT vals h' C hv N O mid same=>⟨.ref T,U,?_⟩;obtain⟨t,R,j,rfl⟩:=hv;have ex:R=u:=by
   have:its.toArray[i]?=some u:=by simpa using hu
   rw[this] at j;exact(za j).symm
  subst ex;refine W.go elts kt pt i T _ _ E mid λm r a=>?_;have g:∀b∈[e,it],WX X pins H b:=hf;have I1:Inv X pins σ H {s with heap:=m,toks:=C}:=I.xr (t':=C) (ch:=[e,it]) (λb o f q=>a b o f (same b o f q)) g;have nT:T∉[e,it]:=W.apart _ _ _ mid;obtain⟨o,oT,oc,n,od⟩:=id O;have y:m.IsTuple T #[.int (i:Int) t,R]:=⟨o,a T o nT oT,oc,n,od⟩;have S:H T=none:=I.hok.fresh N;have V:=I.xW (b:=T) (H':=H) N S;have h0:X.s₀.heap.get? T=none:=by
   cases q:X.s₀.heap.get? T with
   |none=>rfl
   |some o=>exact absurd (qE (qI q) (qO I.sz N)) (zw _)
  refine⟨.ref T,upd H T (.tup [.int i,x]),I1.track S h0 V.2.1 V.2.2.2.2.1 V.2.2.2.2.2 ?_,U,⟨T,x,λys hy=>by rw[I.xp hy B];exact J,S,U,U⟩,⟨r.1,r.2.1⟩,λb f=>?_⟩
  .exact⟨by show 2<=sizeLine;decide,[.int i t,R],.cons ⟨t,U⟩ (.cons ru .nil),y⟩
  .rw[Qj (λz=>nT (by rw[<-z];exact f))];exact(hf b f).1
 done:=by
  intro X D hw F hc i pins s σ H E I hf st G;subst D hw F;obtain⟨xs,B,J⟩:=G;obtain⟨its,L,p,hz⟩:=I.list B;have j:=L.length;have W:=WalksT.enumerate (prog:=X.prog) (w:=X.w) (I.ok.hd hc) e it l Y Z h3 its.toArray;have a:its.toArray.size=i:=by simp;omega
  have g:∀b∈[e,it],WX X pins H b:=hf;refine W.done s _ E (by rw[a];exact⟨st.1,st.2,p.isList⟩) λh' C same=>⟨U,I.xr (t':=C) (ch:=[e,it]) same g⟩
 self:=λA i s Q E st h=>let ⟨_,s1⟩:=st.1;xm s1 h
inductive Ha(K:Frag)(R:(It->Hp->Prop))(vs:qb V)(H1:Hp):Prop
 |mk:∀(l:qd)(xs:qb V),vs=[.ref l]->H1 l=some (.lst xs)->R (Ite K l) H1->Ha K R vs H1
def bY(K:Frag)(a:TA):TI:=λσ H R=>a σ H λvs H1=>Ha K R vs H1
def ON{X:Cx}{elts:qb Expr}{kt:Nat}{pt:Pos}{a:Expr}{f:TA}{p pos:Pos}(k:Gl X "enumerate")(hm:X.mg "enumerate"=none)(m:PA X [a] f)(n:starEach [a] X.env=[(false,eval a X.env)]:=by rfl):PI X (.Tuple elts kt pt) (.Call (.Name "enumerate" p) [a] [] pos) (bY X.K f):=by
 intro pins s σ H R I h;refine Call_ (Wm I k hm boot_enumerate (yq (zS (m pos pins s σ H _ I h) λus s1 ⟨vs,H1,c,o,t⟩=>?_) n rfl));obtain⟨l,xs,e,g,q⟩:=t;subst e
 cases o with
 |cons r u=>
  cases u;cases r;obtain⟨its,x,p,_⟩:=c.list (zm.of g);have i:l<s1.heap.objs.size:=(c.hok l _ g).lt;refine call_enumerate_list p.isList λh' j v hz keep=>?_;have w:Inv X pins σ H1 {s1 with heap:=h'}:=c.kept (t':=s1.toks) keep;refine xm j ⟨s1.heap.objs.size+1,[s1.heap.objs.size+1,s1.heap.objs.size],_,_,H1,U,w,Hy l (s1.heap.objs.size+1) s1.heap.objs.size (Nat.succ_ne_self _) (qR (jl i)) (qR i),⟨⟨_,j⟩,v⟩,λb d=>?_,q⟩;rcases qy.mp d with rfl|d
  .exact c.xW (zC _) (c.hok.fresh (zC _))
  .rw[qq.mp d];exact c.xW (qp _) (c.hok.fresh (qp _))
end L2
namespace HT
open PySem PyProof.Rows
end HT
namespace L2
open PySem PySem.Spec PyProof.Rows
end L2
namespace HT
open PySem PyProof.Rows
variable {prog:Program}{w:World}{A:Around}{E:qg}{s:Shared}
def xw{t sl:qd}{items:Array qe}{e f:qe}{lo hi:Option Int}{Q:qg}(a:IsTup s.heap t items)(g:s.heap.IsSliceOf sl e f .none)(pl:IsPart e lo)(pu:IsPart f hi)
 (hw:jP items.size 0 lo=0/\jP items.size items.size hi=items.size) (h:Q (.ref t) s):wpAny (model prog w) A (getItem (.ref t) (.ref sl)) Q E s:=by
 have b:s.TypeIs (.ref sl) "slice":=let ⟨os,c,d,_⟩:=g;⟨os,c,d⟩;unfold getItem
 try with_reducible refine zR ?_
 first|refine qj (qu ?_)|skip
 refine qj (wpAny_sequenceKey a.typeIs ∅ ?_);refine qj (je (name:=Str.ofString "__getitem__") a.typeIs slot_tuple_getitem
  (zZ slot_tuple_getitem a.typeIs entry_tuple_getitem ?_ (args_tuple_getitem _ _)))
 show wpAny _ _ (Builtin.Tuple.tupleItemsOf (.ref t)>>=_) _ _ s;refine qj (tupleItemsOf_ a (qj (vG b ?_)));rw[qG ∅];refine qj (Vq g pl pu ?_);show wpAny _ _ (if (((jP items.size 0 lo:Nat):Int)==0&&(1:Int)==1&&(jP items.size items.size hi-jP items.size 0 lo)==items.size)=true then _ else _) _ _ s;rw[qG (by rw[hw.1,hw.2];simp)];show wpAny _ _ (Builtin.Tuple.tupleIsExact (.ref t)>>=_) _ _ s;unfold Builtin.Tuple.tupleIsExact;refine qj ?_;refine qj (vG a.typeIs (qu ?_));show wpAny _ _ (if (Value.type "tuple"==Value.type "tuple")=true then _ else _) _ _ s;rw[qG ∅];refine qj (xH ?_);exact qu ⟨_,U,qu h⟩
end HT
namespace L2
open PySem PySem.Spec PyProof.Rows
inductive LU(K:Frag)(x:V)(lo:Option Int)(hi:Option Int)(H:Hp)(Q:VK):Prop
 |mk:∀a xs,x=.ref a->zu K H a xs->((HT.jP xs.length 0 lo=0/\HT.jP xs.length xs.length hi=xs.length)->Q (.ref a) H)->(∀p,H p=none->Q (.ref p) (upd H p (.tup (Ub xs lo hi))))->LU K x lo hi H Q
def rSlA(K:Frag):V->Option Int->Option Int->Hp->VK->Prop:=λx lo hi H Q=>LU K x lo hi H Q
def Ot{X:Cx}:wQ X (rSlA X.K):=by
 intro pins s σ H x v f g lo hi sl Q I b c pl pu h;obtain⟨a,xs,rfl,d,i,j⟩:=h;by_cases hw:HT.jP xs.length 0 lo=0/\HT.jP xs.length xs.length hi=xs.length
 .cases b;obtain⟨its,r,e,hz⟩:=I.tuple d;have hlen:its.toArray.size=xs.length:=by rw[qY];exact r.length.symm
  exact⟨"tuple",_,slot_tuple_getitem.lookup,e.typeIs,HT.xw e c pl pu (by rw[hlen];exact hw) ⟨.ref a,H,I,U,i hw⟩⟩
 .exact Sa pins s σ H (.ref a) v f g lo hi sl Q I b c pl pu ⟨a,xs,U,d,hw,j⟩
end L2
namespace Hd
open PySem PySem.W PySem.Calls PyProof.Rows L2
variable {q:Program}{x:qc}
def HI(st:SharedT->Thread->Option (SharedT×Thread))(ok:Thread->Bool)(n:Nat)(s:SharedT)(t:Thread):v7 st ok (n+1) s t=(match through t with
 |true=>some s
 |false=>match ok t with
  |false=>none
  |true=>match st s t with
   |some (s',t')=>v7 st ok n s' t'
   |none=>none):=rfl
theorem FE{tb:String->Option Builtin}{p:Program}{w:World}{a:Nat}{ann:Option qe}:∀(n:Nat)(s:SharedT)(t:Thread)(s':SharedT),
 v7 (stepT (denote tb) p w) (stepOk a ann) n s t=some s'->topRun tb p w a ann n s.abs t=some s'.abs
 |0,_,_,_,h=>nomatch (h:none=some _)
 |n+1,s,t,s',h=>by
  rw[HI] at h;unfold topRun
  cases e:through t with
  |true=>rw[e] at h;cases h;rfl
  |false=>
   rw[e] at h
   cases f:stepOk a ann t with
   |false=>rw[f] at h;cases h
   |true=>
    rw[f] at h;dsimp only at h⊢
    cases d:stepT (denote tb) p w s t with
    |none=>rw[d] at h;cases h
    |some x=>
     obtain⟨b,c⟩:=x;rw[d] at h;rw[stepT_spec d];exact FE n b c s' h
def IZ(P:Params):((boot_heap P).isNs mainGlobals,(boot_heap P).objs.size,(boot_heap P).nsMap mainGlobals "__annotations__")=(true,11,some (.ref 6)):=by kernel_rfl
def NP(P:Params):absHeap (RH P) 11 {}=boot_heap P:=by kernel_rfl
def TC(w:World)(os:OsState):(S0 w os).abs=⟨boot_heap w.params,#[],boot_drawn,boot_toks,os⟩:=q8 (λh=>(⟨h,#[],boot_drawn,boot_toks,os⟩:Shared)) (NP w.params)
def left{p:Program}{loose:qf}{Xt:Shared->Bool}{α:Type}{a:Shared->α}{b:World->α}{N:Nat}(e:opening p=plainProg p.main.scope.names)(c:Nat.ble 600 N=true)(f:∀s,fenceModules? p s=some s)
 (h:∀(w:World)(os:OsState),(v7 (vR w5 p w) (okQ 11 (some (.ref 6))) N (S0 w os) (topStub p)).map (λs=>(chk p w.params s.abs,seenQ q loose (importedModules p.main.body) Xt true s.abs,a s.abs))=some (true,openGood q loose,b w)) :
 LeftO p q loose Xt a b N:=λw=>by
 obtain⟨⟨g,i,d,k,os⟩,e1,j⟩:=zB.mp (boot_open e c f w);obtain⟨rfl,rfl,rfl,rfl⟩:g=boot_heap w.params/\i=#[]/\d=boot_drawn/\k=boot_toks:=by simpa using j
 have h:=h w os;unfold vR w5 okQ seenQ at h;rw[<-PySem.W.Fast.te10156331382660048174,<-PySem.W.Fast.te11892475500146522536,<-PySem.W.Fast.te14364793385576792824,<-PySem.W.Fast.te6613529449190102663,<-PySem.W.Fast.te4187177175401517315] at h;obtain⟨s,r,l⟩:=zB.mp h;obtain⟨m,n,o⟩:_/\_/\_:=by simpa only[yk] using l
 have r:=FE N _ _ _ r;rw[TC] at r;obtain⟨u,v,x⟩:_/\_/\_:=by simpa only[yk] using IZ w.params
 have t:topFrom treeTable p w N ⟨boot_heap w.params,#[],boot_drawn,boot_toks,os⟩=some s.abs:=by
  unfold topFrom;dsimp only;rw[u,v,x,r];show(match staticsOk (importedModules p.main.body) (boot_heap w.params) s.abs.heap&&namesBound p s.abs.heap&&gensDone s.abs&&laidKept (boot_heap w.params) s.abs.heap with|true=>_|false=>_)=_;rw[show(staticsOk (importedModules p.main.body) (boot_heap w.params) s.abs.heap&&namesBound p s.abs.heap&&gensDone s.abs&&laidKept (boot_heap w.params) s.abs.heap)=true from m]
 unfold openEnds;rw[e1];show(topFrom treeTable p w N _).map _=_;rw[t];exact q8 some (Prod.ext n o)
def A5(h:Heap):Frag:=(List.range h.objs.size).filterMap λa=>(h.get? a).map λo=>(a,o)
theorem GV(f:Nat->Option Obj)(a:qd)(o:Obj):∀l:qb Nat,(l.filterMap λa=>(f a).map λo=>(a,o)).lookup a=some o->f a=some o
 |[],e=>nomatch e
 |b::l,e=>by
  cases c:f b with
  |none=>rw[jU (by rw[c];rfl)] at e;exact GV f a o l e
  |some x=>
   rw[jV (by rw[c];rfl),zD] at e;split at e
   .rename_i q;cases e;rw[jm.mp q];exact c
   .exact GV f a o l e
def Pp(h:Heap):(A5 h).In h:=λa o e=>GV h.get? a o _ e
def Nv(s:SharedT):yM s=A5 s.abs.heap:=by
 unfold yM A5;show _=(List.range (absHeap s.tree s.n s.life).objs.size).filterMap λa=>((absHeap s.tree s.n s.life).get? a).map λo=>(a,o);rw[absHeap_size];congr 1;funext a;congr 1;unfold Heap.get?;rw[absHeap_at]
 cases h:Nat.blt a s.n with
 |true=>
  rw[qG (show a<s.n from vb h)];dsimp only
  cases (s.tree.get a).getD default with
  |mk c d b sl=>cases b<;>rfl
 |false=>
  rw[qz (λq=>by rw[show Nat.blt a s.n=true from Nat.ble_eq_true_of_le q] at h;cases h)]
def Sd{α:Type}(obs:Frag->α)(good:α)(_:World)(h:Heap):Prop:=∃K:Frag,K.In h/\obs K=good
def close{l:OpenLaw}{loose:qf}{d:DefRec}{α:Type}{obs:Frag->α}{good:α}{N:Nat}
 (look:PySem.W.Fast.tw9446332074065402090 l=true) (e:opening l.prog=plainProg l.prog.main.scope.names) (g:Nat.ble 600 N=true) (f:∀s,fenceModules? l.prog s=some s)
 (h:∀(w:World)(os:OsState),(v7 (vR w5 l.prog w) (okQ 11 (some (.ref 6))) N (S0 w os) (topStub l.prog)).map (λs=>(chk l.prog w.params s.abs,seenQ q loose (importedModules l.prog.main.body) (λs=>recOk [] s) true s.abs,obs (yM s)))=some (true,openGood q loose,good))
 (a:defOf q l.name=some (d,[])) (i:l.prog.theDef l.name=some (d.params,d.body,d.scope)) (j:kwWritten? d.params.kwonlyargs d.params.kw_defaults=some []) (c:(!l.writes||([]:WRecords).isEmpty)=true)
 (ok:(chainsOk q&&opensWell l.prog&&(frees l.row.toRowW&&l.row.within.isEmpty))=true) (m:l.prog.bare) (hw:l.row.toRowW.promised)
 (call:WalkO q loose (λ_ _=>True) (Sd obs good) l.row.toRowW d [] λf vs=>PySem.call f vs):l.Holds:=by
 rw[<-PySem.W.Fast.te9446332074065402090] at look;refine holds_law look λb=>?_;have lf:LeftO l.prog q loose (λs=>recOk [] s) (λs=>obs (A5 s.heap)) (λ_=>good) N:=left e g f λw os=>by
  have:=h w os;rw[show(λs:SharedT=>(chk l.prog w.params s.abs,seenQ q loose (importedModules l.prog.main.body) (λs=>recOk [] s) true s.abs,obs (yM s)))=λs=>(chk l.prog w.params s.abs,seenQ q loose (importedModules l.prog.main.body) (λs=>recOk [] s) true s.abs,obs (A5 s.abs.heap)) from funext λs=>by rw[Nv]] at this;exact this
 exact holds_open (r:=l.row) (q:=q) (loose:=loose) (Xt:=λs=>recOk [] s) (XP:=λ_ _=>True) (YP:=Sd obs good) lf (λ_ s y=>⟨A5 s.heap,Pp _,y⟩) (λ_ _ _ ⟨K,X,y⟩ k=>⟨K,X.keeps k,y⟩) (λ_ _=>trivial) (λ_ _ _ _ _=>trivial) a i j (λ_ e=>recFacts_of e) c b ok m hw call
def FA{K:Frag}{r:Option (Option qe)}{q:qc}{st:Stmt}{ds:Option (qh)}(h:see K r q=(some (kd x q st,ds),true)):∃(e:qe)(i:Option qd)(d kV doc pm:qe)(an:Option qd)(a ct:qe)(c:Array (Option qe)),
 r=some (some (.ref (yN r)))/\K.lookup (yN r)=some ⟨e,i,.func (fnOf x q (Yb st) (QK st) (Qr st) d kV doc pm an a ct),c⟩/\Hf K d=ds/\codeIn K a q=true/\keepIn K (.ref (yN r))=true/\isFn K (.ref (yN r))=true:=by
 unfold see at h;split at h
 .rename_i f
  split at h
  .rename_i e i fd c l
   obtain⟨m,o⟩:=Prod.mk.inj h;obtain⟨k,p⟩:=Prod.mk.inj (za m);obtain⟨s,j⟩:=Bool.and_eq_true_iff.mp o;obtain⟨j,t⟩:=Bool.and_eq_true_iff.mp j;obtain⟨n,u,ps,b,sc,g,cl,d,kV,doc,pm,an,a,ct,bs⟩:=fd;simp only[FuncData.mk.injEq] at k;obtain⟨rfl,rfl,rfl,rfl,rfl,rfl,rfl,-,-,-,-,-,-,-,rfl⟩:=k;exact⟨e,i,d,kV,doc,pm,an,a,ct,c,U,l,p,s,j,t⟩
  .cases h
 .cases h
def wY{K:Frag}{r:Option (Option qe)}{q:qc}{st:Stmt}(h:see K r q=(some (kd x q st,none),true)):r=some (some (.ref (yN r)))/\keepIn K (.ref (yN r))=true/\isFn K (.ref (yN r))=true/\∃fd,kL K x q st (yN r) fd:=by
 obtain⟨k,l,b,kV,doc,pm,an,d,ct,e,f,g,a,i,c,j⟩:=FA h;have:b=.none:=by
  cases b with
  |none=>rfl
  |ref D=>simp only[Hf] at a;split at a<;>cases a
  |_=>cases a
 subst this;exact⟨f,c,j,_,S8 g i c⟩
def wy{K:Frag}{r:Option (Option qe)}{q:qc}{st:Stmt}{b:qe}{bs:qh}(h:see K r q=(some (kd x q st,some (b::bs)),true)):r=some (some (.ref (yN r)))/\keepIn K (.ref (yN r))=true/\isFn K (.ref (yN r))=true /\
 ∃(D:qd)(kV doc pm:qe)(an:Option qd)(a ct:qe)(o:Obj)(items:qh)(n:Nat),Cg K x q st (yN r) (fnOf x q (Yb st) (QK st) (Qr st) (.ref D) kV doc pm an a ct)/\K.lookup D=some o/\o.data=.seq items.toArray n/\items.map kH=b::bs:=by
 obtain⟨p,s,f,kV,doc,pm,an,a,ct,g,i,j,d,k,e,l⟩:=FA h
 cases f with
 |none=>cases d
 |ref D=>
  simp only[Hf] at d;split at d
  .rename_i c dd items n sl m
   refine⟨i,e,l,D,kV,doc,pm,an,a,ct,_,items.toList,n,Pn j k e,m,?_,za d⟩;rw[xk]
  .cases d
 |_=>cases d
def vx{v:V}{u:qe}(h:kH u=bv v)(b:flat v=true:=by rfl):QL v u:=by
 cases v<;>first|(cases b;done)|skip
 all_goals (cases u<;>first|(cases h;done)|skip)
 all_goals first|rfl|(injection h with a;subst a;exact⟨_,rfl⟩)|(injection h with a _;subst a;exact⟨_,rfl⟩)|(injection h with a;subst a;rfl)
def eq_at{α:Type}{l m:qb α}(h:l=m)(i:Nat){a b:α}(e:l[i]?=some a)(c:m[i]?=some b):a=b:=by
 subst h;exact za (e.symm.trans c)
def walk{l:OpenLaw}{n k:Nat}{loose:qf}{XP:(qc->Option qe)->Heap->Prop}{α:Type}{obs:Frag->α}{good:α}{d:DefRec}{sp:Frag->Sp}
 (r:l.most=some n) (e:n<=sizeLine) (g:d.params.defaults=[]) (t:QF k callerA)
 (F:∀(w:World)(K:Frag)(mg:qc->Option qe)(c:qd)(h:Heap),K.In h->obs K=good->h.Ns mainGlobals mg->mg d.name=some (.ref c) ->
   ∃fd:FuncData,(∀(s:Shared)(u:qe),BindsTo s fd ⟨[u],[]⟩ [(x,u)])/\∀base:Heap,K.In base->base.Ns mainGlobals mg->Y6 l.prog w K mg base jx k c fd [x] (sp K))
 (i:∀(K:Frag)(H:Hp)(a:qd)(ns:qb Int),ns.length<=n->TH H->zm K H a (ns.map V.int)->sp K [.ref a] H (λv _=>v=.bl true) λ_ _ _=>False) :
 WalkO q loose XP (Sd obs good) l.row.toRowW d [] (λf vs=>PySem.call f vs):=by
 refine Att.vy r g λw s₀ m mg J c o pm cd doc a vs ns G Y L hd A j b hints hlen B=>?_;obtain⟨K,p,y⟩:=Y;obtain⟨fd,C,D⟩:=F w K mg c _ p y G.T.g j;exact M6 p G.T.g G.T.b G.T.builtins G.T.nolimit B b hints (qO hlen e) t D C (λH E I=>i K H a ns hlen E I) λ_ _ _ z=>z
def wG{K:Frag}{h:Heap}{mg:qc->Option qe}{v:V}(X:K.In h)(G:h.Ns mainGlobals mg)(e:(gl K x).map (Option.map kH)=some (some (bv v)))(a:flat v=true:=by rfl):∃u,mg x=some u/\QL v u:=by
 obtain⟨r,b,c⟩:=zB.mp e;obtain⟨u,d,f⟩:=zB.mp c;subst d;exact⟨u,mg_of X G b,vx f a⟩
def vw{o:Option CFound}{v:qe}(h:isVal o v=true):o=some (.val v):=by
 unfold isVal at h;split at h
 .rw[qM h]
 .cases h
end Hd
namespace L2
open PySem PySem.Spec PyProof.Rows
variable {X:Cx}
abbrev Uz(o:HO)(H:Hp)(Q:VK):Prop:=∀p H',H p=none->Qi H H'->H' p=some o->Q (.ref p) H'
def Uz.put{o:HO}{H:Hp}{Q:VK}(k:Uz o H Q){p:qd}(a:H p=none):Q (.ref p) (upd H p o):=k p _ a (Qi.zL a) Qg
inductive Hb(xs:qb V)(H:Hp)(Q:VK):Prop
 |mk:xs.length<=sizeLine->Uz (.lst xs) H Q->Hb xs H Q
inductive RC(xs:qb V)(H:Hp)(Q:VK):Prop
 |mk:xs.length<=sizeLine->Uz (.tup xs) H Q->RC xs H Q
def ao(t:TA):TE:=λσ H Q=>t σ H λxs H1=>Hb xs H1 Q
def af(t:TA):TE:=λσ H Q=>t σ H λxs H1=>RC xs H1 Q
def Qy{a:qb Expr}{t:TA}{pos:Pos}(h:gx X a t):PE X (.List a pos) (ao t):=by
 intro pins s σ H Q I d;refine wpAny_List_spliced (zS (h.h pos pins s σ H _ I d) λus s1 ⟨xs,H1,c,r,z,q⟩=>⟨by rw[<-r.length];exact z,?_⟩);have hf:H1 s1.heap.objs.size=none:=c.hok.fresh (qp _);refine⟨.ref s1.heap.objs.size,upd H1 s1.heap.objs.size (.lst xs),c.laid (t':=s1.toks) (λb u e=>qk _ e) (qp _) ?_,U,Uz.put q hf⟩;exact⟨z,us,0,r,qK _ rfl⟩
def QJ{a:qb Expr}{t:TA}{d:Nat}{pos:Pos}(h:gx X a t):PE X (.Tuple a d pos) (af t):=by
 intro pins s σ H Q I f;refine wU (zS (h.h pos pins s σ H _ I f) λus s1 ⟨xs,H1,c,r,z,q⟩=>⟨by rw[<-r.length];exact z,?_⟩);have hf:H1 s1.heap.objs.size=none:=c.hok.fresh (qp _);refine⟨.ref s1.heap.objs.size,upd H1 s1.heap.objs.size (.tup xs),c.laid (t':=s1.toks) (λb u e=>qk _ e) (qp _) ?_,U,Uz.put q hf⟩;exact⟨z,us,r,⟨_,qK _ rfl,U,_,U⟩⟩
def wQ.mono{r a:V->Option Int->Option Int->Hp->VK->Prop}(h:wQ X r)(k:∀x lo hi H Q,a x lo hi H Q->r x lo hi H Q):wQ X a:=
 λpins s σ H x v b c lo hi sl Q I d e pl pu q=>h pins s σ H x v b c lo hi sl Q I d e pl pu (k _ _ _ _ _ q)
def xf.mono{f:qe->qe->Sem qe}{r a:R2}(h:xf X f r)(k:∀x y H Q,a x y H Q->r x y H Q):xf X f a:=
 λpins s σ H x y v u Q I b c q=>h pins s σ H x y v u Q I b c (k _ _ _ _ q)
def vz.mono{id:String}{r a:V->qb V->Hp->VK->Prop}(h:vz X id r)(k:∀x y H Q,a x y H Q->r x y H Q):vz X id a:=
 λpins s σ H x xs v us Q I b c q=>h pins s σ H x xs v us Q I b c (k _ _ _ _ q)
inductive b4(K:Frag)(x:V)(lo hi:Option Int)(H:Hp)(Q:VK):Prop
 |mk:∀a xs,x=.ref a->zm K H a xs->Uz (.lst (Ub xs lo hi)) H Q->b4 K x lo hi H Q
def Yd :wQ X (b4 X.K):=Xo.mono λx lo hi H Q ⟨a,xs,e,h,k⟩=>⟨a,xs,e,h,λp b=>Uz.put k b⟩
inductive S7(x y:V)(H:Hp)(Q:VK):Prop
 |mk:∀l b xs zs,x=.ref l->y=.ref b->H l=some (.lst xs)->H b=some (.lst zs)->xs.length+zs.length<=sizeLine->Uz (.lst (xs++zs)) H Q->S7 x y H Q
def QW :xf X (binaryOp .Add) S7:=Mz.mono λx y H Q ⟨l,b,xs,zs,e1,a,c,d,hz,k⟩=>⟨l,b,xs,zs,e1,a,c,d,hz,λp e=>Uz.put k e⟩
inductive Nt(x:V)(xs:qb V)(H:Hp)(Q:VK):Prop
 |mk:∀(z y:qc),x=.str z->xs=[.str y]->(y.length==0)=false->z.length<=1000000->Uz (.lst ((Txt.split z y).map V.str)) H Q->Nt x xs H Q
def AW :vz X "str.split" Nt:=Ic.mono λx xs H Q ⟨z,y,e1,a,b,hz,k⟩=>⟨z,y,e1,a,b,hz,λp c=>Uz.put k c⟩
inductive b3(K:Frag)(x:V)(lo hi:Option Int)(H:Hp)(Q:VK):Prop
 |mk:∀a xs,x=.ref a->H a=some (.tup xs)->(∀p H',Qi H H'->H' p=some (.tup (Ub xs lo hi))->Q (.ref p) H')->b3 K x lo hi H Q
def IU{xs:qb V}{lo hi:Option Int}(h:HT.jP xs.length 0 lo=0/\HT.jP xs.length xs.length hi=xs.length):Ub xs lo hi=xs:=by
 unfold Ub;rw[h.1,h.2];simp
def Fy :wQ X (b3 X.K):=Ot.mono λx lo hi H Q ⟨a,xs,e,h,k⟩=>⟨a,xs,e,zu.of h,λc=>k a H (Qi.refl H) (by rw[IU c];exact h),λp b=>k p _ (Qi.zL b) Qg⟩
theorem Ww{α:Type}(f:α->V)(xs:qb α)(v:Int)(h:0<=v):Ub (xs.map f) (some v) none=(xs.drop v.toNat).map f:=by
 have a:¬v<0:=by omega
 simp only[Ub,HT.jP,qz a,qi,<-vQ,<-yn];congr 1;by_cases b:v.toNat<=xs.length
 .rw[show min v.toNat xs.length=v.toNat by omega];exact qP (by rw[qZ];omega)
 .rw[show min v.toNat xs.length=xs.length by omega,yT (qp _),yT (show xs.length<=v.toNat by omega)];simp
theorem PH{α:Type}(f:α->V)(xs:qb α)(v u:Int)(h:0<=v)(d:v<=u):Ub (xs.map f) (some v) (some u)=((xs.drop v.toNat).take (u.toNat-v.toNat)).map f:=by
 have a:¬v<0:=by omega
 have b:¬u<0:=by omega
 simp only[Ub,HT.jP,qz a,qz b,qi,<-vQ,<-yn];congr 1;by_cases e:v.toNat<=xs.length
 .rw[show min v.toNat xs.length=v.toNat by omega];by_cases c:u.toNat<=xs.length
  .rw[show min u.toNat xs.length=u.toNat by omega]
  .rw[show min u.toNat xs.length=xs.length by omega,qP (by rw[qZ];omega),qP (by rw[qZ];omega)]
 .rw[show min v.toNat xs.length=xs.length by omega,yT (qp _),yT (show xs.length<=v.toNat by omega)];simp
def Vg{x y:qc}:(!decide (V.str x=V.str y)) = !decide (x=y):=by
 by_cases h:x=y
 .rw[h,qv rfl,qv rfl]
 .rw[qr h,qr λz=>h (V.str.inj z)]
def Gd{x y:qc}:decide (V.str x=V.str y)=decide (x=y):=by
 by_cases h:x=y
 .rw[h,qv rfl,qv rfl]
 .rw[qr h,qr λz=>h (V.str.inj z)]
def Wr{x y:Int}:decide (V.int x=V.int y)=decide (x=y):=by
 by_cases h:x=y
 .rw[h,qv rfl,qv rfl]
 .rw[qr h,qr λz=>h (V.int.inj z)]
variable {pl:Sem Bool}
inductive Cr(P:Program)(w:World)(K:Frag)(mg:qc->Option qe)(base:Heap)(A:Around)(m:qc)(t:TA)(σ:St)(Q:VK)(x:V)(H1:Hp):Prop
 |mk:∀(a dx:qd)(fs:qb (qc×V))(C f:qd)(fd:FuncData)(ps:qf)(sp:Sp)(k:Nat),x=.ref a->H1 a=some (.ins C dx fs)->kJ K C->Xh K C m f->Y6 P w K mg base jx k f fd ps sp->QF k A->Yl K fd ps []->fs.lookup m=none->(t σ H1 λvs H2=>sp (x::vs) H2 Q E0)->Cr P w K mg base A m t σ Q x H1
def Lk(P:Program)(w:World)(K:Frag)(mg:qc->Option qe)(base:Heap)(A:Around)(m:qc)(a:TE)(t:TA):TE:=λσ H Q=>a σ H λx H1=>Cr P w K mg base A m t σ Q x H1
section
variable {X:Cx}{o e:Expr}{es:qb Expr}{ta:TE}{t:TA}{m:qc}{apos pos:Pos}
def Yv{P:Program}{w:World}{K:Frag}{mg:qc->Option qe}{base:Heap}{A:Around}(he:PE X o ta)(v:PA X (e::es) t)(y:X.prog=P:=by rfl)(hw:X.w=w:=by rfl)(z:X.K=K:=by rfl)(b:X.mg=mg:=by rfl)(d:X.base=base:=by rfl)(B:X.A=A:=by rfl)
 (g:starEach (e::es) X.env=(false,eval e X.env)::starEach es X.env:=by rfl) (i:(backTo pos (starEach es X.env)).any (·.1)=false:=by rfl)
 (D:eval (.Call (.Attribute o m apos) (e::es) [] pos) X.env=(do
   let j <-eval o X.env
   standAt apos.atName
   let (f,first) <-holding [j] (getMethod j m pl)
   callWith pos f first (backTo pos (starEach (e::es) X.env)) (backToKw pos (keywordEach [] X.env))):=by rfl) :
 PE X (.Call (.Attribute o m apos) (e::es) [] pos) (Lk P w K mg base A m ta t):=by
 subst y hw z b d B;intro pins s σ H Q I h;refine methodCall_KW (pl:=pl) (zS (he pins s σ H _ I h) λu s1 ⟨x,H1,n,E,a,N,O,C,f,fd,ps,sp,k,ex,G,c,hm,F,J,L,l,q⟩=>?_) D;subst ex;obtain rfl:u=Value.ref a:=E;refine VJ n G c hm l ?_;refine callWith_K (first:=[.ref a]) (h₀:=X.base) I.ok.mod.vh hm.kp (zS (v pos pins s1 σ H1 _ n q) λus s2 ⟨vs,H2,p,r,M⟩=>⟨p.yz,?_⟩) g i;exact XT (us:=.ref a::us) (vs:=.ref a::vs) F J L .nil QP p (.cons rfl r) (by rw[ze];exact M)
def HP{P:Program}{w:World}{K:Frag}{mg:qc->Option qe}{base:Heap}{A:Around}(he:PE X o ta)(i:X.prog=P:=by rfl)(hw:X.w=w:=by rfl)(j:X.K=K:=by rfl)(b:X.mg=mg:=by rfl)(d:X.base=base:=by rfl)(n:X.A=A:=by rfl)
 (p:eval (.Call (.Attribute o m apos) [] [] pos) X.env=(do
   let g <-eval o X.env
   standAt apos.atName
   let (f,first) <-holding [g] (getMethod g m pl)
   callWith pos f first (backTo pos (starEach [] X.env)) (backToKw pos (keywordEach [] X.env))):=by rfl) :
 PE X (.Call (.Attribute o m apos) [] [] pos) (Lk P w K mg base A m ta Cq):=by
 subst i hw j b d n;intro pins s σ H Q I h;refine methodCall_KW (pl:=pl) (zS (he pins s σ H _ I h) λu s1 ⟨x,H1,e,r,a,z,B,C,f,fd,ps,sp,k,ex,t,c,hm,F,v,y,l,q⟩=>?_) p;subst ex;obtain rfl:u=Value.ref a:=r;refine VJ e t c hm l ?_;exact callWith_K0 (first:=[.ref a]) e.yz hm.kp (XT (us:=[.ref a]) (vs:=[.ref a]) F v y .nil QP e (.cons rfl .nil) (by rw[ze];exact q))
structure CFn(K:Frag)(C f:qd)(m:qc):Prop where
 ga:specialIn K (.ref C) "__getattribute__"=some (some (.builtin "type.__getattribute__"))
 rd:readsIn K C (.type "type")=true
 fc:findCls K (.ref C) (.type "type") m=some (.val (.ref f))
 hn:handedIn (.ref f)=true
 kp:keepIn K (.ref f)=true
def CM{C f:qd}{k:Nat}{fd:FuncData}{ps:qf}{sp:Sp}{x:qc}{np:Pos}(n:Gl X x)(a:X.mg x=some (.ref C))(c:CFn X.K C f m)(F:Y6 X.prog X.w X.K X.mg X.base jx k f fd ps sp)(o:QF k X.A)(p:Yl X.K fd ps [])(q:PA X (e::es) t)
 (b:(x==("__debug__":qc))=false:=by decide)
 (d:starEach (e::es) X.env=(false,eval e X.env)::starEach es X.env:=by rfl) (g:(backTo pos (starEach es X.env)).any (·.1)=false:=by rfl)
 (w:eval (.Call (.Attribute (.Name x np) m apos) (e::es) [] pos) X.env=(do
   let j <-eval (.Name x np) X.env
   standAt apos.atName
   let (f,first) <-holding [j] (getMethod j m pl)
   callWith pos f first (backTo pos (starEach (e::es) X.env)) (backToKw pos (keywordEach [] X.env))):=by rfl) :
 PE X (.Call (.Attribute (.Name x np) m apos) (e::es) [] pos) (AE sp [] E0 t):=by
 intro pins s σ H Q I h;refine methodCall_KW (pl:=pl) (zS (BK (v:=.ref C) n a rfl b pins s σ H (λv H1=>v=.ref C/\H1=H) I ⟨U,U⟩) λu s1 ⟨y,H1,i,z,A,B⟩=>?_) w;subst A B;obtain rfl:u=Value.ref C:=z;refine method_cls i.yz c.ga (cls_value i.yz c.rd c.fc c.hn ?_);have D:Inv X pins σ H1 {s1 with toks:=s1.toks+1}:=i.tok _;refine callWith_K (first:=[]) (h₀:=X.base) I.ok.mod.vh c.kp (zS (q pos pins _ σ H1 _ D h) λus s2 ⟨vs,H2,l,r,E⟩=>⟨l.yz,?_⟩) d g;exact XT (us:=us) (vs:=vs) F o p .nil QP l r E
end
variable {X:Cx}
def Itz(K:Frag)(l m:qd):It:=
 ⟨λi H=>∃xs ys x y,zm K H l xs/\zm K H m ys/\xs[i]?=some x/\ys[i]?=some y,
  λi H v H'=>∃(T:qd)(x y:V),(∀xs,zm K H l xs->xs[i]?=some x)/\(∀ys,zm K H m ys->ys[i]?=some y)/\H T=none/\v=.ref T/\H'=upd H T (.tup [x,y]),
  λi H=>∃xs ys,zm K H l xs/\zm K H m ys/\min xs.length ys.length=i⟩
theorem La{P:Program}{w:World}{K:Frag}{elts:qb Expr}{kt:Nat}{pt:Pos}(l m z TI TO f g:qd)(D:ZipApart z TI TO f g l m) :
 DW P w K (.Tuple elts kt pt) (Itz K l m) [z,TI,TO,f,g] z (λi h=>IsZip h z TI TO .none/\IsPair h TI (.ref f) (.ref g)/\(∃a b,IsPair h TO a b)/\h.IsListIter f l i/\h.IsListIter g m i) where
 mem:=by simp
 obj:=λi h st b c=>by
  obtain⟨s1,s2,⟨a,d,s3⟩,⟨j,s4,_,r⟩,⟨t,s5,_,B⟩⟩:=st;simp only[qy,q5,ji] at c;rcases c with rfl|rfl|rfl|rfl|rfl
  .exact⟨_,s1,λv z=>by cases z⟩
  .exact⟨_,s2,λv z=>by cases z⟩
  .exact⟨_,s3,λv z=>by cases z⟩
  .exact⟨j,s4,λv z=>by rw[r] at z;cases z⟩
  .exact⟨t,s5,λv z=>by rw[B] at z;cases z⟩
 keep:=λi h h' st k=>by
  obtain⟨s1,s2,⟨a,d,s3⟩,s4,s5⟩:=st;exact⟨k z (by simp) _ s1,k TI (by simp) _ s2,⟨a,d,k TO (by simp) _ s3⟩,s4.at λo q=>k f (by simp) o q,s5.at λo q=>k g (by simp) o q⟩
 item:=by
  intro X S hw V hc i pins s σ H E I hf st Y;subst S hw V;obtain⟨xs,ys,x,y,N,r,Z,hy⟩:=Y;obtain⟨its,rv,p,hz⟩:=I.list N;obtain⟨d,t,p2,hz2⟩:=I.list r;obtain⟨u,hu,ru⟩:=rv.get Z;obtain⟨u2,F,ru2⟩:=t.get hy;have hlt:i<its.length:=(qJ.mp hu).1;have hlt2:i<d.length:=(qJ.mp F).1;have W:=WalksT.zip2 (prog:=X.prog) (w:=X.w) (I.ok.hd hc) z TI TO f g l m D its.toArray d.toArray;obtain⟨s1,s2,s3,s4,s5⟩:=st;refine W.item i s _ E (by simp;omega) ⟨s1,s2,s3,s4,s5,p.isList,p2.isList⟩ λT vals h' O hv R isT mid same=>⟨.ref T,U,?_⟩;obtain⟨x',y',G,J,rfl⟩:=hv;have ex:x'=u:=by
   have:its.toArray[i]?=some u:=by simpa using hu
   rw[this] at G;exact(za G).symm
  have ey:y'=u2:=by
   have:d.toArray[i]?=some u2:=by simpa using F
   rw[this] at J;exact(za J).symm
  subst ex ey;refine W.go elts kt pt i T _ _ E mid λL st2 j=>?_;have sub:∀b,b∈[z,TO,f,g]->b∈[z,TI,TO,f,g]:=λb c=>by simp at c⊢;rcases c with rfl|rfl|rfl|rfl<;>simp
  have I1:Inv X pins σ H {s with heap:=L,toks:=O}:=I.xr (t':=O) (ch:=[z,TO,f,g]) (λb o c q=>j b o c (same b o c q)) λb c=>hf b (sub b c);have C:T∉[z,TO,f,g]:=W.apart _ _ _ mid;have nTI:T≠TI:=λe=>absurd (qI s2) (Nat.not_lt.mpr (by rw[<-e];exact R));obtain⟨o,oT,oc,n,od⟩:=id isT;have M:L.IsTuple T #[x',y']:=⟨o,j T o C oT,oc,n,od⟩;have hn:H T=none:=I.hok.fresh R;have fp:=I.xW (b:=T) (H':=H) R hn;have h0:X.s₀.heap.get? T=none:=by
   cases q:X.s₀.heap.get? T with
   |none=>rfl
   |some o=>exact absurd (qE (qI q) (qO I.sz R)) (zw _)
  obtain⟨t1,t2,t3,t4,t5,_,_⟩:=st2;refine⟨.ref T,upd H T (.tup [x,y]),I1.track hn h0 fp.2.1 fp.2.2.2.2.1 fp.2.2.2.2.2 ?_,U,⟨T,x,y,λzs B=>by rw[I.xp B N];exact Z,λzs B=>by rw[I.xp B r];exact hy,hn,U,U⟩,⟨t1,t2,t3,t4,t5⟩,λb c=>?_⟩
  .exact⟨by show 2<=sizeLine;decide,[x',y'],.cons ru (.cons ru2 .nil),M⟩
  .rw[Qj (λe=>by
    rw[e] at c;simp only[qy,q5,ji] at c C;rcases c with q|q|q|q|q
    .exact C (.inl q)
    .exact nTI q
    .exact C (.inr (.inl q))
    .exact C (.inr (.inr (.inl q)))
    .exact C (.inr (.inr (.inr q))))]
   exact(hf b c).1
 done:=by
  intro X S hw V hc i pins s σ H E I hf st Y;subst S hw V;obtain⟨xs,ys,N,r,Z⟩:=Y;obtain⟨its,rv,p,hz⟩:=I.list N;obtain⟨d,t,p2,hz2⟩:=I.list r;have C:=rv.length;have j:=t.length;have W:=WalksT.zip2 (prog:=X.prog) (w:=X.w) (I.ok.hd hc) z TI TO f g l m D its.toArray d.toArray;have B:min its.toArray.size d.toArray.size=i:=by simp;omega
  have sub:∀b,b∈[z,TO,f,g]->b∈[z,TI,TO,f,g]:=λb c=>by simp at c⊢;rcases c with rfl|rfl|rfl|rfl<;>simp
  obtain⟨s1,s2,s3,s4,s5⟩:=st;refine W.done s _ E (by rw[B];exact⟨s1,s2,s3,s4,s5,p.isList,p2.isList⟩) λh' O same=>⟨U,I.xr (t':=O) (ch:=[z,TO,f,g]) same λb c=>hf b (sub b c)⟩
 self:=λA i s Q E st h=>wpAny_pyIter_zip st.1 h
inductive Nl(K:Frag)(R:(It->Hp->Prop))(vs:qb V)(H1:Hp):Prop
 |mk:∀(l m:qd)(xs ys:qb V),vs=[.ref l,.ref m]->H1 l=some (.lst xs)->H1 m=some (.lst ys)->R (Itz K l m) H1->Nl K R vs H1
def iZip(K:Frag)(a:TA):TI:=λσ H R=>a σ H λvs H1=>Nl K R vs H1
theorem Me{elts:qb Expr}{kt:Nat}{pt:Pos}{a b:Expr}{i:TA}{p pos:Pos}(t:Gl X "zip")(hm:X.mg "zip"=none)(u:PA X [a,b] i)(v:starEach [a,b] X.env=(false,eval a X.env)::starEach [b] X.env:=by rfl)(f:(backTo pos (starEach [b] X.env)).any (·.1)=false:=by rfl):PI X (.Tuple elts kt pt) (.Call (.Name "zip" p) [a,b] [] pos) (iZip X.K i):=by
 intro pins s σ H R I h;refine Call_ (Wm I t hm boot_zip (yq (zS (u pos pins s σ H _ I h) λus s1 ⟨vs,H1,c,w,x⟩=>?_) v f));obtain⟨l,m,xs,ys,e,j,hm,q⟩:=x;subst e
 cases w with
 |cons r g=>
  cases g with
  |cons y g=>
   cases g;cases r;cases y;obtain⟨its,J,p,_⟩:=c.list (zm.of j);obtain⟨k,z,A,_⟩:=c.list (zm.of hm);have B:l<s1.heap.objs.size:=(c.hok l _ j).lt;have lm:m<s1.heap.objs.size:=(c.hok m _ hm).lt;refine call_zip_2 p.isList A.isList λh' n C D E F hz keep=>?_;have G:Inv X pins σ H1 {s1 with heap:=h'}:=c.kept (t':=s1.toks) keep;refine wpAny_pyIter_zip n ⟨s1.heap.objs.size+4,[s1.heap.objs.size+4,s1.heap.objs.size+2,s1.heap.objs.size+3,s1.heap.objs.size,s1.heap.objs.size+1],_,_,H1,U,G,La l m _ _ _ _ _ (PyProof.Rows.zipApart_new B lm),⟨n,C,⟨_,_,D⟩,E,F⟩,λb o=>?_,q⟩;have d:s1.heap.objs.size<=b:=by
    simp only[qy,q5,ji] at o;rcases o with rfl|rfl|rfl|rfl|rfl<;>omega
   exact c.xW d (c.hok.fresh d)
theorem DE{K:Frag}{α β:Type}{l m:qd}{xs:qb α}{ys:qb β}{fr:qb (Nat×qc)}{q:TE}{σ:St}{H1:Hp}{Q:VK}(g1:α->V)(g2:β->V)(f:α->β->V)(hz:xs.length<=sizeLine)(A:xs.length=ys.length)(t:zm K H1 l (xs.map g1))(d:zm K H1 m (ys.map g2))
 (g:∀(x:α)(y:β)(h:Hp)(Q':VK),Q' (f x y) h->q (some (g1 x)::some (g2 y)::xA σ fr) h Q')
 (u:∀D H2,H1 D=none->Qi H1 H2->H2 D=some (.lst (List.zipWith f xs ys))->Q (.ref D) H2) :
 WN K (Itz K l m) fr q σ H1 Q:=by
 intro D j;refine⟨λi n zs H2=>n=xs.length-i/\i<=xs.length/\zs=(List.zipWith f xs ys).take i/\Qi H1 H2/\H2 D=some (.lst zs),⟨xs.length,by simp,zb _,by simp,Qi.zL j,Qg⟩,?_⟩;rintro i n zs H2 ⟨rfl,hi,rfl,s2,k⟩;refine⟨k,?_⟩;have o:=s2.seq t;have b:=s2.seq d;by_cases c:i<xs.length
 .have a:i<ys.length:=by omega
  have e1:(xs.map g1)[i]?=some (g1 xs[i]):=by rw[qC,qx c];rfl
  have r:(ys.map g2)[i]?=some (g2 ys[i]):=by rw[qC,qx a];rfl
  refine .inr ⟨⟨_,_,_,_,o,b,e1,r⟩,?_⟩;rintro v h ⟨T,x,y,w,z,p,rfl,rfl⟩;have ex:=w _ o;have s:=z _ b;rw[e1] at ex;rw[r] at s;cases ex;cases s;have s3:Qi H2 (upd H2 T (.tup [g1 xs[i],g2 ys[i]])):=Qi.zL p;refine⟨T,_,_,U,zu.of Qg,?_⟩;refine g xs[i] ys[i] _ _ ⟨s3 _ _ k,?_,xs.length-(i+1),⋯,U,c,?_,(s2.trans s3).zE j,Qg⟩
  .rw[zi,xC];omega
  .rw[zo,vc,qx c,qx a];rfl
 .have e:i=xs.length:=by omega
  subst e;refine .inl ⟨⟨_,_,o,b,by rw[qi,qi];omega⟩,u D H2 j s2 ?_⟩;rw[k,qP (by rw[xC];omega)]
def I0{bs:qb Bool}:(List.range bs.length).any (λi=>bs.getD i true)=bs.any id:=by
 rw[jv,j0,j0];constructor
 .rintro⟨i,hi,h⟩;have a:=jE.mp hi;simp only[q4,qx a,xa] at h;exact⟨_,zU a,h⟩
 .rintro⟨b,a,h⟩;obtain⟨i,hi,e⟩:=yx.mp a;refine⟨i,jE.mpr hi,?_⟩;simp only[q4,qx hi,xa];rw[e];exact h
def NM(hc:X.calm=true):YO X (.builtin "any") (λxs H Q=>∃(p:qd)(bs:qb Bool),xs=[.ref p]/\zm X.K H p (bs.map V.bl)/\Q (.bl (bs.any id)) H):=by
 intro pins s σ H xs us Q I r h;obtain⟨p,bs,rfl,g,q⟩:=h;obtain⟨u,rfl,j⟩:=Ul r;cases j;obtain⟨its,f,pl,hz⟩:=I.list g;have hlen:=f.length;rw[qi] at hlen;have c:p<s.heap.objs.size:=by obtain⟨o,e,_⟩:=pl.isList;exact qI e
 refine call_any_walk (xj pl.isList ?_);refine⟨s.heap.objs.size,_,[s.heap.objs.size],its.toArray.size,_,_,λi=>bs.getD i true,U,Walks.list (A:=X.A.in1) (I.ok.hd hc) s.heap.objs.size p (qR c) its.toArray,⟨⟨_,qK _ rfl,U,U⟩,pl.isList.push _⟩,?_,?_⟩
 .intro i v s' Q' n k d;have a:its[i]?=some v:=by simpa using k
  have hi:i<its.length:=(qJ.mp a).1;have l:(bs.map V.bl)[i]?=some (V.bl (bs.getD i true)):=by
   rw[qC,qx ⋯];simp[q4,qx (show i<bs.length by omega)]
  obtain⟨u,e1,m⟩:=f.get l;rw[a] at e1;cases e1;cases m;exact zQ d
 .intro h' a d;have hsz:its.toArray.size=bs.length:=by rw[qY];exact hlen.symm
  rw[hsz,I0];exact⟨.bl (bs.any id),H,I.kept (t':=a) λb o e=>d b o (λz=>absurd (qI e) (by rw[qq.mp z];exact zw _)) (qk _ e),U,q⟩
inductive L0(x:V)(xs:qb V)(H:Hp)(Q:VK):Prop
 |mk:∀y:qc,x=.str y->xs=[]->Q (.bl (Txt.isalnum y)) H->L0 x xs H Q
def EB :vz X "str.isalnum" L0:=by
 intro pins s σ H x xs v us Q I a b h;obtain⟨y,rfl,rfl,q⟩:=h;obtain⟨t,rfl⟩:=a;cases b;exact call_gives F.slot_str_isalnum (xF _ _ _) F.entry_str_isalnum (F.args_str_isalnum_1 _) (gives_str_isalnum y t) ⟨.bl _,H,I,U,q⟩
end L2
namespace Hd
open PySem PySem.W L2
theorem Ks:∀{us:qh}{ys:qf},Xd us ys=true->QD (ys.map V.str) us
 |[],[],_=>.nil
 |[],_::_,h=>by simp[Xd] at h
 |u::us,[],h=>by cases u<;>simp[Xd] at h
 |u::us,y::ys,h=>by
  cases u with
  |str x t=>
   rw[Xd,qB] at h;have e:=qM h.1;subst e;exact .cons ⟨t,U⟩ (Ks h.2)
  |_=>simp[Xd] at h
def gJ{K:Frag}{h:Heap}{mg:qc->Option qe}{x:qc}{ys:qf}(X:K.In h)(G:h.Ns mainGlobals mg)(e:ve K x ys=true):∃p,mg x=some (.ref p)/\∀H,zu K H p (ys.map V.str):=by
 unfold ve at e;rw[qB] at e;refine⟨_,mg_of X G (qM e.1),λH=>.inr ?_⟩;have a:=e.2;unfold Lb at a
 cases c:K.lookup (yN (gl K x)) with
 |none=>rw[c] at a;cases a
 |some d=>
  rw[c] at a;dsimp only at a;rw[qB] at a;obtain⟨f,b⟩:=a
  cases hd:d.data with
  |seq its n=>
   rw[hd] at b;dsimp only at b;rw[qB] at b;exact⟨d,its,n,U,qM f,hd,qM b.1,Ks b.2⟩
  |_=>rw[hd] at b;cases b
end Hd
namespace L2
open PySem PySem.Spec PyProof.Rows
abbrev TF:=St->Hp->qc->(qc->Hp->Prop)->Prop
def PF(X:Cx)(a:qb Expr)(t:TF):Prop:=∀(pins:qb (qd×Obj))(s:Shared)(σ:St)(H:Hp)(acc:qc)(Q:qc->Hp->Prop),Inv X pins σ H s->t σ H acc Q ->
 Joins (model X.prog X.w) X.A X.xe (evalEach a X.env) acc (λout s1=>∃H',Inv X pins σ H' s1/\Q out H') s
def Ld:TF:=λ_ H acc Q=>Q acc H
inductive P4(t:TF)(σ:St)(acc:qc)(Q:qc->Hp->Prop)(v:V)(H1:Hp):Prop
 |mk:∀y:qc,v=.str y->(acc++y).length<=sizeLine->t σ H1 (acc++y) Q->P4 t σ acc Q v H1
def K9(a:TE)(t:TF):TF:=λσ H acc Q=>a σ H λv H1=>P4 t σ acc Q v H1
section
variable {X:Cx}{e:Expr}{es:qb Expr}{te:TE}{t:TF}{pos:Pos}
def XZ:PF X [] Ld:=λ_ s _ H _ _ I h=>⟨H,I,h⟩
def Y2(he:PE X e te)(h:PF X es t)(a:evalEach (e::es) X.env=eval e X.env::evalEach es X.env:=by rfl):PF X (e::es) (K9 te t):=by
 intro pins s σ H acc Q I q;rw[a];refine zS (he pins s σ H _ I q) λu s1 ⟨v,H1,b,r,y,ev,hz,c⟩=>?_;subst ev;obtain⟨d,rfl⟩:=r;exact⟨y,d,U,hz,h pins s1 σ H1 _ Q b c⟩
inductive P7(Q:VK)(out:qc)(H':Hp):Prop
 |mk:out.length<=sizeLine->Q (.str out) H'->P7 Q out H'
def tFs(t:TF):TE:=λσ H Q=>t σ H Str.empty λout H'=>P7 Q out H'
def AQ{v1 v2:Expr}{rest:qb Expr}(h:PF X (v1::v2::rest) t):PE X (.JoinedStr (v1::v2::rest) pos) (tFs t):=by
 intro pins s σ H Q I q;refine wpAny_JoinedStr ?_;have c:=h pins s σ H Str.empty _ I q;have mono:∀(ps:qb (Sem qe))(acc:qc)(a b:qc->Shared->Prop)(s:Shared),(∀o s,a o s->b o s)->Joins (model X.prog X.w) X.A X.xe ps acc a s->Joins (model X.prog X.w) X.A X.xe ps acc b s:=by
  intro ps
  induction ps with
  |nil=>intro acc a b s k j;exact k _ _ j
  |cons p ps d=>
   intro acc a b s k j;exact zS j λv s1 ⟨y,t,ev,hz,e⟩=>⟨y,t,ev,hz,d _ a b s1 k e⟩
 refine mono _ _ _ _ _ (λout s1 ⟨H',d,hz,e⟩=>⟨hz,⟨.str out,H',d.tok _,⟨_,U⟩,e⟩⟩) c
inductive Ed(Q:VK)(v:V)(H1:Hp):Prop
 |str:∀y:qc,v=.str y->y.length<=sizeLine->Q (.str y) H1->Ed Q v H1
 |int:∀i:Int,v=.int i->i.natAbs.log2<1920->Q (.str (toString i)) H1->Ed Q v H1
def ar(te:TE):TE:=λσ H Q=>te σ H λv H1=>Ed Q v H1
def Su(he:PE X e te):PE X (.FormattedValue e (-1) none pos) (ar te):=by
 intro pins s σ H Q I q;refine wpAny_FormattedValue_plain (zS (he pins s σ H _ I q) λu s1 ⟨v,H1,b,r,a⟩=>?_)
 cases a with
 |str y ev hz a=>
  subst ev;obtain⟨c,rfl⟩:=r;exact wpAny_formatField_str ⟨.str y,H1,b,⟨c,U⟩,a⟩ ⟨.str y,H1,b.tok _,⟨_,U⟩,a⟩ hz
 |int i ev hz a=>
  subst ev;obtain⟨c,rfl⟩:=r;exact wpAny_formatField_int hz ⟨.str _,H1,b.tok _,⟨_,U⟩,a⟩
end
theorem Kv{K:Frag}{a:qd}{α:Type}{xs:qb α}{fr:qb (Nat×qc)}{o:TE}{σ:St}{H1:Hp}{Q:VK}(g:α->qd)(f1 f2:α->V)(Pv:qd->Nat->qb V->Hp->Prop)(hz:xs.length<=sizeLine)(q:zm K H1 a (xs.map λx=>V.ref (g x)))(h0:∀D,H1 D=none->Pv D 0 [] (upd H1 D (.lst [])))(hlen:∀D i ys H,Pv D i ys H->ys.length=i)
 (l:∀x∈xs,∀b,Qi H1 b->zu K b (g x) [f1 x,f2 x])
 (n:∀(D:qd)(i:Nat)(x:α)(ys:qb V)(b:Hp)(Q':VK),xs[i]?=some x->H1 D=none->Pv D i ys b->b D=some (.lst ys)->Qi H1 b->(∀y j,Qi b j->Pv D (i+1) (ys++[y]) (upd j D (.lst (ys++[y])))->Q' y j)->o (some (f1 x)::some (f2 x)::xA σ fr) b Q')
 (r:∀D ys H2,H1 D=none->Pv D xs.length ys H2->Qi H1 H2->H2 D=some (.lst ys)->Q (.ref D) H2) :
 WN K (g7 K a) fr o σ H1 Q:=by
 intro D f;refine⟨λi m ys H2=>m=xs.length-i/\i<=xs.length/\Pv D i ys H2/\Qi H1 H2/\H2 D=some (.lst ys),⟨xs.length,by simp,zb _,h0 D f,Qi.zL f,Qg⟩,?_⟩;rintro i m ys H2 ⟨rfl,hi,p,s2,k⟩;refine⟨k,?_⟩;have d:=s2.seq q;by_cases c:i<xs.length
 .have h:(xs.map λx=>V.ref (g x))[i]?=some (V.ref (g xs[i])):=by rw[qC,qx c];rfl
  refine .inr ⟨⟨_,_,d,h⟩,?_⟩;rintro v b ⟨rfl,s⟩;have ev:=s _ d;rw[h] at ev;cases ev;refine⟨g xs[i],_,_,U,l xs[i] (zU c) b s2,n D i xs[i] ys b _ (qx c) f p k s2 λy j s5 pv=>⟨s5 _ _ k,?_,xs.length-(i+1),⋯,U,c,pv,(s2.trans s5).zE f,Qg⟩⟩;rw[hlen D i ys _ p];omega
 .have e:i=xs.length:=by omega
  subst e;exact .inl ⟨⟨_,d,by rw[qi];exact qp _⟩,r D ys H2 f p s2 k⟩
inductive FI(K:Frag)(x:V)(y:V)(H:Hp)(Q:VK):Prop
 |mk:∀d ds,RD K H x d->RD K H y (.tuple ds)->canLayAll0 ds=true->d.canLay0=true->d.depth<=20->Q (.bl (ds.any λe=>PyData.eqv e d)) H->FI K x y H Q
def bA(K:Frag):R2:=λx y H Q=>FI K x y H Q
theorem OV{X:Cx}(j:X.A.units+64<cLine):xf X (compareOp .In) (bA X.K):=by
 intro pins s σ H x y v u Q I a b h;obtain⟨d,ds,hd,c,e,f,k,q⟩:=h;obtain⟨as,g⟩:=hd.reads I a;obtain⟨bs,i⟩:=c.reads I b;refine SeqAt.in_tuple_reads i g e f ?_ ⟨.bl _,H,I,U,q⟩;have:=Nat.min_le_right (PyData.depthAll ds) d.depth;omega
variable {M:Model}{Γ:PySem.Ctx}
def XS{p:Pos}{t:Sem Fin}{d:qb Frame}{s:Shared}{e:End}{s':Shared}(h:Runs M Γ p t d s e s'):s.toks<=s'.toks:=by
 induction h with
 |fresh _ a=>exact qO (zC _) a
 |call _ _ b c=>exact qO b c
 |resumeFresh _ _ _ _ b c=>exact qO b c
 |resumeSuspended _ _ _ _ b c=>exact qO b c
 |segRet _ _ b c=>exact qO b c
 |segGen _ _ b c=>exact qO b c
 |segSuspGen _ _ _ _ b c=>exact qO b c
 |done=>exact qp _
 |raise=>exact qp _
 |yield=>exact qp _
 |again _ _ a=>exact a
 |rule _ a=>exact a
 | «at» _ a=>exact a
 |load _ _ a=>exact a
 |update _ _ a=>exact a
 |loadIfAlive _ a=>exact a
 |point _ a=>exact a
 |alloc _ a=>exact a
 |ask _ a=>exact a
 |choose _ _ a=>exact a
 |os _ a=>exact a
 |handled _ a=>exact a
 |genState _ _ a=>exact a
 |stack _ a=>exact a
 |thread _ a=>exact a
 |newGen _ a=>exact a
 |callSusp _ a=>exact a
 |resumeJustStarted _ _ _ a=>exact a
 |resumeThrowFresh _ _ a=>exact a
 |resumeRunning _ _ a=>exact a
 |resumeFinished _ _ a=>exact a
 |segSuspOut _ _ a=>exact a
def D6{p:Pos}{g:Nat}{r:Resume}{s:Shared}{res:GenResult}{s':Shared}(h:Wakes M Γ p g r s res s'):s.toks<=s'.toks:=by
 unfold Wakes at h;split at h
 .exact h.elim
 .split at h
  .obtain⟨e1,s1,a,_,_,rfl⟩:=h;exact(XS a:(s.setGen g .running).toks<=s1.toks)
  .obtain⟨_,rfl⟩:=h;exact qp _
  .obtain⟨_,rfl⟩:=h;exact qp _
 .obtain⟨e1,s1,a,_,_,rfl⟩:=h;exact(XS a:(s.setGen g .running).toks<=s1.toks)
 .obtain⟨_,rfl⟩:=h;exact qp _
 .obtain⟨_,rfl⟩:=h;exact qp _
def Od{α:Type}{n:Nat}(t:Sem α):∀{Q:α->Pos->Shared->Prop}{E:qe->Pos->Shared->Prop}{p:Pos}{s:Shared},n<=s.toks->Sem.wp M Γ t (λa f s'=>n<=s'.toks->Q a f s') (λe f s'=>n<=s'.toks->E e f s') p s->Sem.wp M Γ t Q E p s:=by
 induction t with
 |pure a=>intro Q E p s b h;exact h b
 |raise e=>intro Q E p s b h;exact h b
 |unsupported _=>intro Q E p s b h;exact h
 |finish _=>intro Q E p s b h;exact h
 |rule _ k c=>intro Q E p s b h;exact c _ b h
 | «at» _ k c=>intro Q E p s b h;exact c _ b h
 |load _ _ k c=>intro Q E p s b h;obtain⟨o,e,h⟩:=h;exact⟨o,e,c _ b h⟩
 |update _ _ _ k c=>intro Q E p s b h;exact⟨h.1,c _ b h.2⟩
 |loadIfAlive _ k c=>intro Q E p s b h;exact c _ b h
 |point _ k c=>intro Q E p s b h;exact c _ b h
 |register _ _=>intro Q E p s b h;exact h
 |alloc _ k c=>intro Q E p s b h;exact c _ b h
 |fresh k c=>intro Q E p s b h;exact c _ (Nat.le_succ_of_le b) h
 |ask k c=>intro Q E p s b h;exact c _ b h
 |choose _ _ k c=>intro Q E p s b h;exact⟨h.1,c _ b h.2⟩
 |os _ _ k c=>intro Q E p s b h;exact c _ b h
 |call _ _ _ _ k c=>intro Q E p s b h;obtain⟨r,s',d,h⟩:=h;exact⟨r,s',d,c _ (qO b (XS d)) h⟩
 |handled _ k c=>intro Q E p s b h;exact c _ b h
 |genState _ k c=>intro Q E p s b h;obtain⟨st,e,h⟩:=h;exact⟨st,e,c _ b h⟩
 |newGen _ k c=>intro Q E p s b h;exact c _ b h
 |resume _ _ _ k c=>intro Q E p s b h;obtain⟨r,s',d,h⟩:=h;exact⟨r,s',d,c _ (qO b (D6 d)) h⟩
 |yield _ _ _ _=>intro Q E p s b h;exact h
 |stack k c=>intro Q E p s b h;exact c _ b h
 |fork _ _=>intro Q E p s b h;exact h
 |thread k c=>intro Q E p s b h;exact c _ b h
 |await _ _ _ _ _=>intro Q E p s b h;exact h
def K6{α:Type}{A:Around}{t:Sem α}{Q:α->Shared->Prop}{E:qg}{s:Shared}(h:wpAny M A t (λa s'=>s.toks<=s'.toks->Q a s') (λe s'=>s.toks<=s'.toks->E e s') s):wpAny M A t Q E s:=
 λΓ p b=>Od t (qp _) (h Γ p b)
def XO{α:Type}{A:Around}{t:Sem α}{Q Q':α->Shared->Prop}{E:qg}{s:Shared}(h:wpAny M A t Q E s)(k:∀a s',s.toks<=s'.toks->Q a s'->Q' a s'):wpAny M A t Q' E s:=
 K6 (zt h (λa s' q b=>k a s' b q) λe s' q _=>q)
section
variable {X:Cx}{pins:qb (qd×Obj)}{σ:qb (Option V)}{H:Hp}{s:Shared}
abbrev EZ(X:Cx)(σ:qb (Option V))(h:Heap)(m:qc->Option qe):Prop:=∀(i:Nat)(x:qc)(v:V),X.N[i]?=some x->σ[i]?=some (some v)->Vis X.env.scope x->∃u,QL v u/\cD X.env h m x u
def Inv.stored{i:Nat}{x:qc}{v:V}{u:qe}{m:qc->Option qe}{h':Heap}{k:Nat}(I:Inv X pins σ H s)(B:X.N.Nodup)(hi:X.N[i]?=some x)(C:X.env.kindOf x=some .local)(r:QL v u)(D:s.heap.Ns X.env.locals m)(E:EZ X σ s.heap m)
 (l:h'.Ns X.env.locals (λy=>if y=x then some u else m y)) (a:Heap.SameBut X.env.locals s.heap h'):Inv X pins (σ.set i (some v)) H {s with heap:=h',toks:=k}/\EZ X (σ.set i (some v)) h' (λy=>if y=x then some u else m y):=by
 have f:i<σ.length:=by rw[I.len];exact(qJ.mp hi).1
 have gv:=I.gv;obtain⟨N,_,_,F,_⟩:=id D;have tracked:yu X.prog X.w H h':=λb G e=>by
  refine(I.hok b G e).stay (λc w hc q=>(a.2 c ?_).trans q) (λ_ q=>q) λ_ _ q=>q;rintro rfl;rcases hc with rfl|hc
  .rw[I.free] at e;cases e
  .rw[I.free] at hc;cases hc
 have A:EZ X (σ.set i (some v)) h' (λy=>if y=x then some u else m y):=λj y J e1 h K=>by
  by_cases g:j=i
  .subst g;rw[hi] at e1;cases e1;rw[yP f] at h;cases h;exact⟨u,r,.inl ⟨C,by simp⟩⟩
  .rw[xi (jy g)] at h;obtain⟨t,L,q⟩:=E j y J e1 h K;refine⟨t,L,?_⟩;rcases q with⟨k,e⟩|⟨k,c,e,z⟩
   .refine .inl ⟨k,?_⟩;have:y≠x:=λe=>g (Xw B e1 (e▸hi));simp[this,e]
   .exact .inr ⟨k,c,e,z.sameBut a (gv y c e)⟩
 refine⟨⟨I.ok,I.os,I.bare,⟨λb o e n t g=>?_,λb o e n t g=>?_,I.base.free,λb o e g=>?_,I.base.tups,I.base.xx,I.base.xS⟩,⟨_,l,A⟩,λy c e=>?_,I.free,I.j7,λp L=>?_,tracked,by simpa using I.len⟩,A⟩
 .exact(a.2 b (qR (qE (qI e) I.ok.above))).trans (I.base.keep b o e n t g)
 .obtain⟨sl,e1⟩:=I.base.slot b o e n t g;exact⟨sl,(a.2 b (qR (qE (qI e) I.ok.above))).trans e1⟩
 .obtain⟨M,e1⟩:=I.base.there b o e g;exact⟨M,(a.2 b (qR (qE (qI e) I.ok.above))).trans e1⟩
 .obtain⟨w,z⟩:=I.cell y c e;exact⟨w,z.sameBut a (gv y c e)⟩
 .obtain⟨e,n,ne,w,d⟩:=I.pin p L;exact⟨(a.2 p.1 ne).trans e,n,ne,w,d⟩
abbrev Vj(y:qc):qc:=((" ":qc)++y)++" "
def SA(y:qc):(y==Vj y)=false:=by
 rw[zV];intro e;have h:=q8 Str.length e;have q:(" ":qc).length=1:=by decide +kernel
 rw[zp,zp,q] at h;omega
theorem LP{m:qc->Option qe}{txt sg:qc}{x y:qc}{w t:Tok}{E:qg}{Q:qg}{o p d e f g h apos a:Pos}{i j:Nat}(I:Inv X pins σ H s)(u:s.heap.Ns X.env.locals m)
 (B:m txt=some (.str x w)) (z:m sg=some (.str y t)) (kt:X.env.kindOf txt=some .local) (ks:X.env.kindOf sg=some .local) (h0:0<t) (C:t<s.toks) (l:y.length=1) (D:x.length<=1000000)
 (q:∀t' k,Q (.str (Txt.replace x y (Vj y)) t') {s with toks:=k})
 (hd1:(txt==("__debug__":qc))=false) (hd2:(sg==("__debug__":qc))=false)
 (b:attributeBase (.Name txt o) "replace" X.env (eval (.Name txt o) X.env)=eval (.Name txt o) X.env) (c:(apos.endLine==a.line)=true)
 (n:((backTo a (starEach [.Name sg p,.BinOp (.BinOp (.Constant (.str " ") i d) .Add (.Name sg e) f) .Add (.Constant (.str " ") j g) h] X.env)).all (λx=>!x.1)&&(backToKw a (keywordEach [] X.env)).all (λx=>x.1.isSome)
   &&decide ([Expr.Name sg p,.BinOp (.BinOp (.Constant (.str " ") i d) .Add (.Name sg e) f) .Add (.Constant (.str " ") j g) h].length+([]:qb Keyword).length+(if ([]:qb Keyword).isEmpty then 0 else 1)<30))=true) :
 wpAny (model X.prog X.w) X.A (eval (.Call (.Attribute (.Name txt o) "replace" apos) [.Name sg p,.BinOp (.BinOp (.Constant (.str " ") i d) .Add (.Name sg e) f) .Add (.Constant (.str " ") j g) h] [] a) X.env) Q E s:=by
 have r:(" ":qc).length=1:=by decide +kernel
 refine vH b n c rfl (vF (yF I.ok.kind kt u B ?_) hd1);refine⟨"str","str.replace",plainAttrs_str,PySem.F.slot_str_replace,PySem.F.type_str_replace,xF s x w,nofun,?_⟩;refine jA (by rfl) (jY ?_);show wpAny _ _ (spliced ((false,eval (.Name sg p) X.env)::backTo a (starEach [.BinOp (.BinOp (.Constant (.str " ") i d) .Add (.Name sg e) f) .Add (.Constant (.str " ") j g) h] X.env))) _ _ s;refine zA (vF (yF I.ok.kind ks u z ?_) hd2);show wpAny _ _ (spliced ((false,eval (.BinOp (.BinOp (.Constant (.str " ") i d) .Add (.Name sg e) f) .Add (.Constant (.str " ") j g) h) X.env)::backTo a (starEach [] X.env))) _ _ s;refine zA (wpAny_BinOp (wpAny_BinOp (jR (vF (yF I.ok.kind ks (s:={s with toks:=s.toks+1}) u z ?_) hd2))));refine PySem.P.add_str ?_;rw[qz (by rw[r];decide),qz (by rw[l];decide)];have v:((" ":qc)++y).length=2:=by rw[zp,r,l]
 refine⟨by rw[v];decide,?_⟩;refine jR ?_;refine PySem.P.add_str ?_;rw[qz (by rw[v];decide),qz (by rw[r];decide)];have A:(((" ":qc)++y)++" ").length=3:=by rw[zp,v,r]
 refine⟨by rw[A];decide,?_⟩;refine jW ?_;refine SC.replace (Nat.pos_iff_ne_zero.mp h0) (Nat.succ_ne_zero _) (qR (qE C (Nat.le_add_right s.toks 3))) (SA y) ?_ λt' k=>q t' k;show x.length+(x.length+1)*(((" ":qc)++y)++" ").length<=16777216;rw[A];omega
def PST(X:Cx)(st:Stmt)(t:TS):Prop:=
 ∀(pins:qb (qd×Obj))(s:Shared)(σ:St)(H:Hp)(D:Uu),Inv X pins σ H s->0<s.toks->t D σ H->wpAny (model X.prog X.w) X.A (exec st X.env) (SP X pins D) X.xe s
def Ce(X:Cx)(st:qb Stmt)(t:TS):Prop:=
 ∀(pins:qb (qd×Obj))(s:Shared)(σ:St)(H:Hp)(D:Uu),Inv X pins σ H s->0<s.toks->t D σ H->wpAny (model X.prog X.w) X.A (execs st X.env) (SP X pins D) X.xe s
def PET(X:Cx)(e:Expr)(t:TE):Prop:=
 ∀(pins:qb (qd×Obj))(s:Shared)(σ:St)(H:Hp)(Q:VK),Inv X pins σ H s->0<s.toks->t σ H Q->wpAny (model X.prog X.w) X.A (eval e X.env) (EP X pins σ Q) X.xe s
def YV(x a b c:qc):qc:=Txt.replace (Txt.replace (Txt.replace x a (Vj a)) b (Vj b)) c (Vj c)
inductive Li(a b c:qc)(D:Uu)(σ:St)(H:Hp):Prop
 |mk:∀(x:qc)(o:Option V),σ=[some (.str x),o]->x.length<=1000000->(Txt.replace x a (Vj a)).length<=1000000->(Txt.replace (Txt.replace x a (Vj a)) b (Vj b)).length<=1000000->D.nx [some (.str (YV x a b c)),some (.str c)] H->Li a b c D σ H
def tRep(a b c:qc):TS:=λD σ H=>Li a b c D σ H
theorem Sn{txt sg a b c:qc}{L p2 p3 p4 p5 p6 p7 apos d pg pt p f pos q1 q2 M:Pos}{k1 k2 j1 j2 N ctx:Nat}
 (hN:X.N=[txt,sg]) (hne:txt≠sg) (kt:X.env.kindOf txt=some .local) (ks:X.env.kindOf sg=some .local) (hc:X.calm=true) (ha:a.length=1) (O:b.length=1) (hcl:c.length=1)
 (P:PassesOwn (model X.prog X.w) X.A X.env X.xe)
 (hd1:(txt==("__debug__":qc))=false) (hd2:(sg==("__debug__":qc))=false)
 (t:attributeBase (.Name txt L) "replace" X.env (eval (.Name txt L) X.env)=eval (.Name txt L) X.env) (w:(apos.endLine==d.line)=true)
 (Q:((backTo d (starEach [.Name sg p2,.BinOp (.BinOp (.Constant (.str " ") k1 p3) .Add (.Name sg p4) p5) .Add (.Constant (.str " ") k2 p6) p7] X.env)).all (λx=>!x.1)&&(backToKw d (keywordEach [] X.env)).all (λx=>x.1.isSome)
   &&decide ([Expr.Name sg p2,.BinOp (.BinOp (.Constant (.str " ") k1 p3) .Add (.Name sg p4) p5) .Add (.Constant (.str " ") k2 p6) p7].length+([]:qb Keyword).length+(if ([]:qb Keyword).isEmpty then 0 else 1)<30))=true)
 (hsw:swapsWith (.Call (.Attribute (.Name txt L) "replace" apos) [.Name sg p2,.BinOp (.BinOp (.Constant (.str " ") k1 p3) .Add (.Name sg p4) p5) .Add (.Constant (.str " ") k2 p6) p7] [] d) (some (.Name txt pt)) p.line X.env=pure false)
 (hs:∀x,foldedSetIterable (.Tuple [.Constant (.str a) j1 q1,.Constant (.str b) j2 q2,.Constant (.str c) N M] ctx f) X.env x=pure x) :
 PST X (.For (.Name sg pg) (.Tuple [.Constant (.str a) j1 q1,.Constant (.str b) j2 q2,.Constant (.str c) N M] ctx f) [.Assign [.Name txt pt] (.Call (.Attribute (.Name txt L) "replace" apos) [.Name sg p2,.BinOp (.BinOp (.Constant (.str " ") k1 p3) .Add (.Name sg p4) p5) .Add (.Constant (.str " ") k2 p6) p7] [] d) p] [] pos) (tRep a b c):=by
 intro pins s σ H D I h0 h;obtain⟨x,o,rfl,hx0,hx1,hx2,q⟩:=h;have i0:X.N[0]?=some txt:=by rw[hN];rfl
 have i1:X.N[1]?=some sg:=by rw[hN];rfl
 have hnd:X.N.Nodup:=by rw[hN];simp[hne]
 refine wpAny_For (wU ?_) hs;show wpAny _ _ (spliced ((false,eval (.Constant (.str a) j1 q1) X.env)::backTo f (starEach [.Constant (.str b) j2 q2,.Constant (.str c) N M] X.env))) _ _ s;refine zA (jR ?_);show wpAny _ _ (spliced ((false,eval (.Constant (.str b) j2 q2) X.env)::backTo f (starEach [.Constant (.str c) N M] X.env))) _ _ _;refine zA (jR ?_);show wpAny _ _ (spliced ((false,eval (.Constant (.str c) N M) X.env)::backTo f (starEach [] X.env))) _ _ _;refine zA (jR (jW ⟨by show 3<=sizeLine;decide,?_⟩));have hT:(s.heap.push {cls:=.type "tuple",data:=.seq #[.str a s.toks,.str b (s.toks+1),.str c (s.toks+1+1)]}).IsTuple s.heap.objs.size #[.str a s.toks,.str b (s.toks+1),.str c (s.toks+1+1)]:=⟨_,qK _ rfl,U,_,U⟩;refine wpAny_pyIter_tuple hT ?_;have R:(s.heap.push {cls:=.type "tuple",data:=.seq #[.str a s.toks,.str b (s.toks+1),.str c (s.toks+1+1)]}).objs.size=s.heap.objs.size+1:=size_push' ..;generalize hh1:s.heap.push {cls:=.type "tuple",data:=.seq #[.str a s.toks,.str b (s.toks+1),.str c (s.toks+1+1)]}=h1 at hT R;have k1':∀b u,s.heap.get? b=some u->h1.get? b=some u:=λb u e=>by rw[<-hh1];exact qk _ e
 have fa:WX X pins H s.heap.objs.size:=I.xW (qp _) (I.hok.fresh (qp _));have fi:WX X pins H h1.objs.size:=I.xW (by rw[R];exact zC _) (I.hok.fresh (by rw[R];exact zC _));have A:s.heap.objs.size≠h1.objs.size:=by rw[R];exact qR (zN _)
 generalize s.heap.objs.size=J at hT fa A R;generalize hit:h1.objs.size=it at fi A;have S:∀i v,(#[Value.str a s.toks,.str b (s.toks+1),.str c (s.toks+1+1)])[i]?=some v->∃y K,v=.str y K/\y.length=1/\0<K/\K<s.toks+1+1+1/\((i=0/\y=a)\/(i=1/\y=b)\/(i=2/\y=c)):=by
  intro i v j
  match i,j with
  |0,j=>cases j;exact⟨a,_,U,ha,h0,jl (jl (zN _)),.inl ⟨U,U⟩⟩
  |1,j=>cases j;exact⟨b,_,U,O,Nat.succ_pos _,zN _ |> λz=>wm z (zN _),.inr (.inl ⟨U,U⟩)⟩
  |2,j=>cases j;exact⟨c,_,U,hcl,Nat.succ_pos _,zN _,.inr (.inr ⟨U,U⟩)⟩
  |n+3,j=>exact absurd j (by simp)
 refine codeAny_forLoop_any (λn s'=>∃i g T,n=3-i/\i<=3/\Inv X pins [some (.str g),T] H s'/\s'.heap.IsTupleIter it J i/\s'.heap.IsTuple J #[.str a s.toks,.str b (s.toks+1),.str c (s.toks+1+1)]/\s.toks+1+1+1<=s'.toks/\((i=0/\g=x)\/(i=1/\g=Txt.replace x a (Vj a))\/(i=2/\g=Txt.replace (Txt.replace x a (Vj a)) b (Vj b))\/(i=3/\g=YV x a b c/\T=some (.str c)))) ?_ 3 ⟨0,x,o,U,∅,?_,?_,?_,qp _,.inl ⟨U,U⟩⟩
 .rintro n s3 ⟨i,g,T,rfl,hi3,I3,V,B,Y,rel⟩;obtain⟨f0,f1,f2,f3,f4,f5⟩:=id fi;by_cases hi:i=3
  .subst hi;obtain⟨rfl,rfl⟩:g=YV x a b c/\T=some (.str c):=by
    rcases rel with⟨z,_⟩|⟨z,_⟩|⟨z,_⟩|⟨_,z⟩
    .cases z
    .cases z
    .cases z
    .exact z
   exact jj P (wpAny_pyNext_tuple_end (I.ok.hd hc) V B rfl λh' l=>yU ⟨_,H,I3.turned (t':=s3.toks) (λb o O e=>l b o O e) f0 f1 f3 f4 f5,q⟩)
  .obtain⟨v,j⟩:∃v,(#[Value.str a s.toks,.str b (s.toks+1),.str c (s.toks+1+1)])[i]?=some v:=⟨_,jz (show i<3 by omega)⟩;obtain⟨y,K,rfl,hy1,ht0,ht1,C⟩:=S i v j;refine jj P (wpAny_pyNext_tuple_item V B j λh' Z sb=>?_);have I4:Inv X pins [some (.str g),T] H {s3 with heap:=h'}:=I3.turned (t':=s3.toks) (λb o O e=>(sb.2 b O).trans e) f0 f1 f3 f4 f5;have tp4:h'.IsTuple J #[.str a s.toks,.str b (s.toks+1),.str c (s.toks+1+1)]:=by
    obtain⟨ot,e1,E⟩:=B;exact⟨ot,(sb.2 J A).trans e1,E⟩
   obtain⟨oi,ei,ci,di⟩:=id Z;refine jj P (Dy (s:={s3 with heap:=h'}) ei ci di ∅ ?_);obtain⟨m,hn,hl⟩:=id I4.loc;have r:(X.env.scope.kind==.class||(X.env.scope.kind==.module&&X.env.locals != X.env.globals))=false:=by rw[I.ok.kind];rfl
   refine jj P (wpAny_assign_Name (vW ks hn (λh5 l F=>?_) r));obtain⟨I5,lr5⟩:=I4.stored (k:=s3.toks+1) hnd i1 ks (v:=.str y) ⟨K,U⟩ hn hl l F;obtain⟨u,ru,lu⟩:=lr5 0 txt (.str g) i0 rfl (.inl kt);obtain⟨tx,rfl⟩:=ru;have mtx:(λy'=>if y'=sg then some (Value.str y K) else m y') txt=some (.str g tx):=by
    rcases lu with⟨_,e⟩|⟨z,_⟩
    .exact e
    .rcases z with z|z
     .rw[kt] at z;cases z
     .rw[kt] at z;cases z
   have hxx:g.length<=1000000:=by
    rcases rel with⟨_,z⟩|⟨_,z⟩|⟨_,z⟩|⟨z,_⟩
    .rw[z];exact hx0
    .rw[z];exact hx1
    .rw[z];exact hx2
    .exact absurd z hi
   refine jj P (vp (wpAny_Assign_Name (K6 (LP I5 l mtx (by simp) kt ks ht0 (qE ht1 (qO Y (zC _))) hy1 hxx (λt' k htk=>?_) hd1 hd2 t w Q)) hsw));refine vW kt l (λh6 hn6 G=>?_) r;obtain⟨I6,_⟩:=(I5.tok k).stored (k:=k+1) hnd i0 kt (v:=.str (Txt.replace g y (Vj y))) ⟨t',U⟩ l lr5 hn6 G;refine yU ⟨3-(i+1),⋯,i+1,Txt.replace g y (Vj y),some (.str y),U,⋯,I6,?_,?_,?_,?_⟩
   .obtain⟨o9,e1,E⟩:=Z;exact⟨o9,(G.2 it f1).trans ((F.2 it f1).trans e1),E⟩
   .obtain⟨o9,e1,E⟩:=tp4;exact⟨o9,(G.2 J fa.2.1).trans ((F.2 J fa.2.1).trans e1),E⟩
   .exact qO Y (qO (zC _) (qO htk (zC _)))
   .rcases rel with⟨z,rfl⟩|⟨z,rfl⟩|⟨z,rfl⟩|⟨z,_⟩
    .subst z;rcases C with⟨_,rfl⟩|⟨z,_⟩|⟨z,_⟩
     .exact .inr (.inl ⟨U,U⟩)
     .cases z
     .cases z
    .subst z;rcases C with⟨z,_⟩|⟨_,rfl⟩|⟨z,_⟩
     .cases z
     .exact .inr (.inr (.inl ⟨U,U⟩))
     .cases z
    .subst z;rcases C with⟨z,_⟩|⟨z,_⟩|⟨_,rfl⟩
     .cases z
     .cases z
     .exact .inr (.inr (.inr ⟨U,U,U⟩))
    .exact absurd z hi
 .exact I.kept (t':=s.toks+1+1+1) λb u e=>qk _ (k1' b u e)
 .subst hit;exact⟨_,qK _ rfl,U,U⟩
 .obtain⟨ot,e1,E⟩:=hT;exact⟨ot,qk _ e1,E⟩
end
structure Ah(P:Program)(w:World)(K:Frag)(mg:qc->Option qe)(base:Heap)(CX:vj)(k:Nat)(f:qd)(fd:FuncData)(ps:qf)(sp:Sp):Prop where
 len:∀vs H Q E,sp vs H Q E->vs.length=ps.length
 run:∀(A:Around)(outer:qb Env)(s:Shared)(H:Hp)(args:Args)(us:qh)(vs:qb V)(Q:VK)(E:XK),QF k A->Aw P w K mg base A outer s H->0<s.toks->BindsTo s fd args (ps.zip us)->QD vs us->sp vs H Q E ->
  codeAny (model P w) A (.call (.ref f) args) (CR CX outer P w H s Q E) s
def Nx{l:vj}{P:Program}{w:World}{K:Frag}{mg:qc->Option qe}{base:Heap}{k:Nat}{f:qd}{name qual:qc}{params:Arguments}{body:qb Stmt}{scope:Scope}{D kV doc pm a ct G:qe}{an L:Option qd}
 {m:Array (Option qe)} {N ps:qf} {sp:Sp} (lk:K.lookup f=some ⟨G,L,.func (fnOf name qual params body scope D kV doc pm an a ct),m⟩) (p:codeIn K a qual=true) (S:Y5 N ps scope)
 (len:∀vs H Q E,sp vs H Q E->vs.length=ps.length)
 (d:∀(A:Around)(outer:qb Env)(s:Shared)(H:Hp)(vs:qb V)(Q:VK)(E:XK),QF k (A.deeper (envOfC qual scope s.heap.objs.size f a))->sp vs H Q E ->
   ∃t,Ce (Ua l P w K mg base N qual scope f a A outer s H E) body t/\t {nx:=λ_ H'=>Q .non H',rt:=Q} (start N vs) H) :
 Ah P w K mg base l (k+1) f (fnOf name qual params body scope D kV doc pm an a ct) ps sp:=by
 refine⟨len,λA outer s H args us vs Q E z i B M r j=>?_⟩;have O:=len _ _ _ _ j;have F:K.In s.heap:=i.mod.vh.keeps λb o e=>(i.bs b o e).1;have lim:s.heap.NoLimit:=i.mod.nolimit.keeps λb o e=>(i.bs b o e).1;have g:∀y∈ps.zip us,scope.names.lookup y.1=some .local\/(scope.names.lookup y.1=some .cell/\((cellsFrom (s.heap.objs.size+1) scope.names []).lookup y.1).isSome=true):=λ⟨n,v⟩ R=>by
  rcases S.par n (xu R).1 with q|q
  .exact .inl q
  .exact .inr ⟨q,cellsFrom_some _ _ _ (.inl q)⟩
 refine vX z.depth (F _ _ lk) rfl S.co S.gen rfl (codeRec_of F p) (M _ _ _ _ ?_);refine K6 (kx S.kind g λenv he s1 x T=>?_);subst he;refine⟨lim.keeps x.toInCall.keep,codeAny_func ?_⟩;obtain⟨t,X,Y⟩:=d A outer s H vs Q E (z.deeper _) j;have I:Inv (Ua l P w K mg base N qual scope f a A outer s H E) [] (start N vs) H s1:=X8 S z.hd i O r x;refine zt (X [] s1 (start N vs) H _ I (qE B T) Y) (λZ s' h=>?_) λe s' h=>h;have fin:∀{c:St}{H':Hp}{v:V}{u:qe},Inv (Ua l P w K mg base N qual scope f a A outer s H E) [] c H' s'->QL v u->Q v H'->CE outer P w H s Q u s':=
  λ{c H' v u} J C q=>⟨v,H',J.os,J.bare,J.base,J.hok,C,q⟩
 cases Z with
 |ret u=>
  obtain⟨v,c,H',J,C,q⟩:=h;exact fin J C q
 |next=>
  obtain⟨c,H',J,q⟩:=h;exact fin (v:=V.non) (u:=Value.none) J rfl q
 |brk=>
  obtain⟨_,_,_,q⟩:=h;exact False.elim q
 |cont=>
  obtain⟨_,_,_,q⟩:=h;exact False.elim q
def Ce.wB{X:Cx}{st:qb Stmt}{t:TS}(h:Ce X.wB st t):Ce X st t:=λpins s σ H D I h0 hw=>
 zt (h pins s σ H D (I.wish _) h0 hw) (λ_ _ q=>q.yX) λ_ _ z=>False.elim z
section
variable {P:Program}{w:World}{K:Frag}{mg:qc->Option qe}{base:Heap}
def kL.okT{x qual:qc}{st:Stmt}{f:qd}{fd:FuncData}{N ps:qf}{k:Nat}{sp:Sp}(F:kL K x qual st f fd)(S:Y5 N ps (Qr st))(len:∀vs H Q E,sp vs H Q E->vs.length=ps.length)
 (b:∀(a:qe)(A:Around)(outer:qb Env)(s:Shared)(H:Hp)(vs:qb V)(Q:VK)(E:XK),QF k (A.deeper (envOfC qual (Qr st) s.heap.objs.size f a))->sp vs H Q E ->
   ∃t,Ce (Ua jx P w K mg base N qual (Qr st) f a A outer s H E).wB (QK st) t/\t {nx:=λ_ H'=>Q .non H',rt:=Q} (start N vs) H):Ah P w K mg base jx (k+1) f fd ps sp:=by
 obtain⟨i,j,kV,doc,pm,an,a,ct,e,rfl,lk,c⟩:=F.ex;exact Nx lk c S len λA outer s H vs Q E g d=>let ⟨t,h,q⟩:=b a A outer s H vs Q E g d;⟨t,h.wB,q⟩
end
section
variable {X:Cx}{CX:vj}{k:Nat}{f C:qd}{fd:FuncData}{ps:qf}{ds:qh}{yO:qb V}{sp:Sp}{E:XK}{x:qc}{p pos:Pos}{e o:Expr}{es:qb Expr}{t:TA}{st:Stmt}{rest:qb Stmt}{ts u:TS}{te ta tv:TE}
def Mh(F:Ah X.prog X.w X.K X.mg X.base CX k f fd ps sp)(j:QF k X.A)(l:Gl X x)(hm:X.mg x=some (.ref f))(m:keepIn X.K (.ref f)=true)(n:Yl X.K fd ps ds)(hd:QD yO ds)(o:US CX X E)
 (v:PA X (e::es) t) (c:(x==("__debug__":qc))=false:=by decide) (he:starEach (e::es) X.env=(false,eval e X.env)::starEach es X.env:=by rfl) (d:(backTo pos (starEach es X.env)).any (·.1)=false:=by rfl) :
 PET X (.Call (.Name x p) (e::es) [] pos) (AE sp yO E t):=by
 intro pins s σ H Q I g h;refine zM (UZ I l hm ?_ c);refine callWith_K (h₀:=X.base) I.ok.mod.vh m (XO (v pos pins s σ H _ I h) λus s1 w ⟨vs,H1,a,r,q⟩=>⟨a.yz,?_⟩) he d;have i:QD (vs++yO) (us++ds):=r.append hd;have y:(us++ds).length=ps.length:=by rw[<-i.length];exact F.len _ _ _ _ q
 refine jH (zT (F.run X.A X.stack s1 H1 ⟨us,[]⟩ (us++ds) (vs++yO) Q E j a.env0 (qE g w) (n s1 us a.yz y) i q) λr s' b=>?_)
 cases r with
 |error e=>exact o pins σ H1 s1 e s' a b
 |ok z=>
  cases z with
  |ret u=>exact a.after b
  |next=>exact False.elim b
  |brk=>exact False.elim b
  |cont=>exact False.elim b
def OK{f:qc}{pos':Pos}{value:Expr}(d:PE X o ta)(e:PET X value tv)(g:swapsWith value (some (.Attribute o f pos')) pos.line X.env=pure false):PST X (.Assign [.Attribute o f pos'] value pos) (bp X.K ta tv f):=by
 intro pins s σ H D I b h;refine xt (zS (e pins s σ H _ I b h) λu s1 ⟨y,H1,i,j,q⟩=>zS (d pins s1 σ H1 _ i q) λk s2 ⟨x,H2,m,p,a,C,w,z,ex,r,c,n,l,t⟩=>?_) g;subst ex;obtain rfl:k=Value.ref a:=p;exact Xa m r c n l j λs3 v=>⟨σ,_,v,t⟩
def WG(c:PST X st ts)(d:yV X rest u):Ce X (st::rest) (Hz ts u):=by
 intro pins s σ H D I a h;refine vp (zS (c pins s σ H {D with nx:=u D} I a h) λf s1 q=>?_)
 cases f with
 |next=>
  obtain⟨b,H',e,q⟩:=q;exact d pins s1 b H' D e q
 |ret v=>exact q
 |brk=>exact q
 |cont=>exact q
end
section
variable {prog:Program}{w:World}{A:Around}{R:Result->Shared->Prop}{I:qd}{fp wr:qb qd}{n:Nat}{P:Nat->qe->Prop}{St:Nat->Heap->Prop}{dv:qe}
def X4:(toString "max"++toString ".loop":String)="max.loop":=by decide
theorem Ii(W:Walks prog w A.in1 I fp wr n P St)(y:Nat->Nat->Bool)(z:CmpOf prog w A.in1 .Gt P y)(S:qd)(B:S∉fp):∀(k j:Nat)(s:Shared)(m:qe)(c:Nat),n-(j+1)=k->j+1<=n->St (j+1) s.heap->P (argBest y j) m->s.heap.get? S=some {cls:=.type "list",dict:=none,data:=.seq #[m,m] c,slots:=#[]} ->
 (∀v h' E,P (argBest y (n-1)) v->(∀b o,b∉wr->b≠S->s.heap.get? b=some o->h'.get? b=some o)->R (.ok (.ret v)) {s with heap:=h',toks:=E})->codeAny (model prog w) A (.builtin "max.loop" ⟨[.ref I,.none,.ref S],[(Str.ofString "default",dv)]⟩) R s:=by
 have C:S∉wr:=λh=>B (W.sub _ h);intro k
 induction k with
 |zero=>
  intro j s m c M N r p D F;have i:j+1=n:=by omega
  refine jk entry_max_loop ?_;rw[jo plain_max_loop _];show wpAny _ A.in1 (seqItems? (.ref S)>>=_) _ _ s;refine qj (kC D rfl ?_);show wpAny _ A.in1 (tryCatch (pyNext (.ref I)) _>>=_) _ _ s;refine qj (kD (W.done s _ _ (i▸r) λh' E d=>?_));have g:=d S _ C D;show wpAny _ A.in1 (updateSeq S (λ_=>#[])>>=_) _ _ _;refine qj ?_;refine x9 g rfl (qj (kX (qu ?_)));refine F m _ E (by rw[<-i];exact p) λb o a f e=>(zv _ _ (jy f)).trans (d b o a e)
 |succ k J=>
  intro j s m c M N r p D F;have t:j+1<n:=by omega
  refine jk entry_max_loop ?_;rw[jo plain_max_loop _];show wpAny _ A.in1 (seqItems? (.ref S)>>=_) _ _ s;refine qj (kC D rfl ?_);show wpAny _ A.in1 (tryCatch (pyNext (.ref I)) _>>=_) _ _ s;refine qj (kD (W.item (j+1) s _ _ t r λv h' E K q d=>?_));have g:=d S _ C D;show wpAny _ A.in1 (tryCatch (holding [v,v] (richCompare .Gt v m>>=_)) _>>=_) _ _ _;refine qj (kD (zR (qj (z (j+1) (argBest y j) v m _ _ _ K p ?_))));refine qj (zR (zQ ?_));refine qj (kX (qu ?_))
  cases L:y (j+1) (argBest y j) with
  |true=>
   simp only[yH];refine qj ?_;refine x9 g rfl (qj (kX ?_));rw[X4];refine qu ⟨j8 plain_max_loop _,J (j+1) _ v _ ⋯ t (W.frame _ _ _ q λb G o e=>(zv _ _ (λh:S=b=>B (by rw[h];exact G))).trans e) (by simp only[argBest,L,yH];exact K) (zz _ g rfl) λH u i x l=>?_⟩;exact F H u i x λb o a f e=>l b o a f ((zv _ _ (jy f)).trans (d b o a e))
  |false=>
   simp only[zx,yQ];refine qj (kX ?_);rw[X4];refine qu ⟨j8 plain_max_loop _,J (j+1) _ m c ⋯ t q (by simp only[argBest,L,zx,yQ];exact p) g λH u i x l=>F H u i x λb o a f e=>l b o a f (d b o a e)⟩
theorem EC(W:Walks prog w A.in1 I fp wr n P St)(r:Nat->Nat->Bool)(g:CmpOf prog w A.in1 .Gt P r)(S:qd)(f:S∉fp){s:Shared}{c:Nat}(i:St 0 s.heap)(B:s.heap.get? S=some {cls:=.type "list",dict:=none,data:=.seq #[] c,slots:=#[]})
 (C:∀v h' q,(0<n/\P (argBest r (n-1)) v\/n=0/\v=dv)->(∀b o,b∉wr->b≠S->s.heap.get? b=some o->h'.get? b=some o)->R (.ok (.ret v)) {s with heap:=h',toks:=q}):codeAny (model prog w) A (.builtin "max.loop" ⟨[.ref I,.none,.ref S],[(Str.ofString "default",dv)]⟩) R s:=by
 have t:S∉wr:=λh=>f (W.sub _ h);refine jk entry_max_loop ?_;rw[jo plain_max_loop _];show wpAny _ A.in1 (seqItems? (.ref S)>>=_) _ _ s;refine qj (kC B rfl ?_);show wpAny _ A.in1 (tryCatch (pyNext (.ref I)) _>>=_) _ _ s;by_cases u:0<n
 .refine qj (kD (W.item 0 s _ _ u i λv h' q D j a=>?_));have k:=a S _ t B;show wpAny _ A.in1 (updateSeq S (λ_=>#[v,v])>>=_) _ _ _;refine qj ?_;refine x9 k rfl ?_;rw[X4];refine qu ⟨j8 plain_max_loop _,Ii W r g S f _ 0 _ v _ rfl u (W.frame _ _ _ j λb x o e=>(zv _ _ (λh:S=b=>f (by rw[h];exact x))).trans e) D (zz _ k rfl) λE y l z m=>?_⟩;exact C E y l (.inl ⟨u,z⟩) λb o d p e=>m b o d p ((zv _ _ (jy p)).trans (a b o d e))
 .have h0:n=0:=by omega
  refine qj (kD (W.done s _ _ (h0▸i) λh' q a=>?_));refine qj (xH (qu ?_));exact C dv h' q (.inr ⟨h0,U⟩) λb o d _ e=>a b o d e
end
def mxd(d:Int):qb Int->Int
 |[]=>d
 |n::ns=>ns.foldl max n
theorem O8{d:Int}{ns:qb Int}(h:0<ns.length){M:Int}(hm:M∈ns)(f:∀a∈ns,a<=M):M=mxd d ns:=by
 cases ns with
 |nil=>cases hm
 |cons n ns=>
  have key:∀(l:qb Int)(z:Int),z<=l.foldl max z/\(∀a∈l,a<=l.foldl max z)/\(l.foldl max z=z\/l.foldl max z∈l):=by
   intro l
   induction l with
   |nil=>intro z;exact⟨Int.le_refl _,nofun,.inl rfl⟩
   |cons y l i=>
    intro z;obtain⟨g,c,b⟩:=i (max z y);refine⟨by show z<=l.foldl max (max z y);omega,λa e=>?_,?_⟩
    .rcases qy.mp e with rfl|e
     .show a<=l.foldl max (max z a);omega
     .exact c a e
    .show l.foldl max (max z y)=z\/l.foldl max (max z y)∈y::l;rcases b with b|b
     .rw[b];by_cases hz:y<=z
      .left;omega
      .right;rw[show max z y=y by omega];exact qo
     .exact .inr (qt _ b)
  obtain⟨g,c,b⟩:=key ns n;show M=ns.foldl max n;have e:M<=ns.foldl max n:=by
   rcases qy.mp hm with rfl|hm
   .exact g
   .exact c M hm
  have i:ns.foldl max n<=M:=by
   rcases b with b|b
   .rw[b];exact f n qo
   .exact f _ (qt _ b)
  omega
theorem G3:∀{us:qh}{ns:qb Int},QD (ns.map V.int) us->∃xs:Array (Int×Tok),us.toArray=intItems xs/\ns=xs.toList.map (·.1)
 |_,[],.nil=>⟨#[],by simp[intItems],U⟩
 |_,n::ns,.cons r rs=>by
  obtain⟨t,rfl⟩:=r;obtain⟨xs,e1,a⟩:=G3 rs;refine⟨#[(n,t)]++xs,?_,?_⟩
  .have:=q8 Array.toList e1;simp only[intItems,Array.toList_map] at this;apply Array.ext';simp[intItems,this]
  .simp[a]
def Kg(a v:qe):argsOk "max" ⟨[a],[(Str.ofString "default",v)]⟩:=by unfold argsOk;kernel_rfl
inductive Ff(K:Frag)(d:Int)(Q:VK)(x:V)(H1:Hp):Prop
 |mk:∀l (ns:qb Int),x=.ref l->zm K H1 l (ns.map V.int)->Q (.int (mxd d ns)) H1->Ff K d Q x H1
def ak(K:Frag)(a:TE)(d:Int):TE:=λσ H Q=>a σ H λx H1=>Ff K d Q x H1
theorem OP{X:Cx}{e:Expr}{z:TE}{d:Int}{j:Nat}{p pos F G:Pos}(hc:X.calm=true)(J:Gl X "max")(hm:X.mg "max"=none)(c:PE X e z)
 (he:starEach [e] X.env=[(false,eval e X.env)]:=by rfl) :
 PE X (.Call (.Name "max" p) [e] [⟨some "default",.Constant (.int d) j F,G⟩] pos) (ak X.K z d):=by
 intro pins s σ H Q I h;refine zM (Wm I J hm boot_max ?_ ∅ ∅);refine PyProof.Rows.callWith_kw ?_ (by rw[he];rfl) (by rw[he];rfl) (by rfl) (by rfl);rw[he];show wpAny _ _ (spliced ((false,eval e X.env)::backTo pos [])) _ _ s;refine zA (zS (c pins s σ H _ I h) λu s1 ⟨x,H1,B,K,L⟩=>jW ?_);obtain⟨l,ns,rfl,M,q⟩:=L;cases K;refine kws_cons (wpAny_Constant_int (kws_nil ?_));show wpAny _ _ (call (.builtin "max") [.ref l] [(Str.ofString "default",.int d s1.toks)]) _ _ {s1 with toks:=s1.toks+1};obtain⟨its,N,pl,_⟩:=B.list M;obtain⟨xs,e1,f⟩:=G3 N;have g:s1.heap.IsList l (intItems xs):=by rw[<-e1];exact pl.isList
 have k:X.A.handled=none:=I.ok.hd hc;refine kmk_tree PySem.F.kind_max PySem.F.plain_max PySem.F.entry_max (Kg _ _) ?_;show wpAny _ X.A.in1 (Builtin.Builtins.bindParams "max" ["key","default"] 0 ⟨[],[(Str.ofString "default",.int d s1.toks)]⟩>>=_) _ _ _;refine qj (jq (show Builtin.Builtins.bindParams "max" ["key","default"] 0 ⟨[],[(Str.ofString "default",.int d s1.toks)]⟩=pure [none,some (.int d s1.toks)] from rfl) ?_);refine qj (qu ?_);refine qj (iter_intList (s:={s1 with toks:=s1.toks+1}) g λs2 m st n r=>?_);subst m;refine qj (zH ?_);have W:=Walks.list (prog:=X.prog) (w:=X.w) (A:=X.A.in1) k s1.heap.objs.size l r (intItems xs);have y:(s1.heap.push {cls:=.type "list_iterator",data:=.fields #[.ref l,.int 0 0]}).objs.size∉[s1.heap.objs.size,l]:=λhm=>zw _ (n _ hm);refine qu ⟨j8 plain_max_loop _,?_⟩;refine EC W (λi j=>decide (numAt xs i > numAt xs j)) (CmpOf.ints_gt (numAt xs) (λ_ _=>intItems_at)) _ y (W.frame _ _ _ st λb _ o e=>qk _ e) (qK _ rfl) λv h' C O P=>?_;have D:Inv X pins σ H1 {s1 with heap:=h',toks:=C}:=B.kept (t':=C) λb o e=>by
  have E:=qI e;refine P b o (λhm=>?_) (qR (qE E (by rw[zY];exact zC _))) (qk _ (qk _ e));rcases qy.mp hm with e1|hm
  .exact absurd (e1▸E) (zw _)
  .cases hm
 have hsz:(intItems xs).size=ns.length:=by rw[f];simp[intItems]
 rcases O with⟨E,R⟩|⟨E,rfl⟩
 .obtain⟨t,rfl⟩:=intItems_at R;obtain⟨Y,S⟩:=argBest_gt (numAt xs) ((intItems xs).size-1);have T:xs.size=ns.length:=by rw[f];simp
  have V:numAt xs (argBest (λi j=>decide (numAt xs i > numAt xs j)) ((intItems xs).size-1))=mxd d ns:=by
   refine O8 ⋯ ?_ λa c=>?_
   .rw[f,numAt_eq];exact getD_mem (by rw[qi,qQ];omega)
   .rw[f] at c;obtain⟨i,hi,rfl⟩:=mem_getD c;rw[qi,qQ] at hi;rw[<-numAt_eq];exact S i ⋯
  exact⟨.int (mxd d ns),H1,D,⟨t,by rw[V]⟩,q⟩
 .have S:ns=[]:=yL.mp ⋯;subst S;exact⟨.int d,H1,D,⟨_,U⟩,q⟩
variable {x:qc}
def NQ:(" ":qc).cps.toList=[32]:=by decide +kernel
def RI:(" ":qc)=⟨#[32]⟩:=by decide +kernel
def YF(a b:qc)(r:qf):(Str.join " " (a::b::r)).cps.toList=a.cps.toList++32::(Str.join " " (b::r)).cps.toList:=by
 show((a++" ")++Str.join " " (b::r)).cps.toList=_;rw[QM,QM,NQ,zh];rfl
theorem Bi:∀{ps qs:qf},ps≠[]->qs≠[]->(∀p∈ps,¬32∈p.cps.toList)->(∀p∈qs,¬32∈p.cps.toList)->Str.join " " ps=Str.join " " qs->ps=qs
 |[],_,h,_,_,_,_=>absurd rfl h
 |_,[],_,h,_,_,_=>absurd rfl h
 |[p],[q],_,_,_,_,h=>by have h:p=q:=h;rw[h]
 |[p],q::a::r,_,_,b,_,h=>by
  have h:p=Str.join " " (q::a::r):=h;have:=b p qo;rw[h,YF] at this;exact absurd (qU _ qo) this
 |p::c::r,[q],_,_,_,d,h=>by
  have h:Str.join " " (p::c::r)=q:=h;have:=d q qo;rw[<-h,YF] at this;exact absurd (qU _ qo) this
 |p::c::r,q::a::f,_,_,b,d,h=>by
  have e:(Str.join " " (p::c::r)).cps.toList=(Str.join " " (q::a::f)).cps.toList:=by rw[h]
  rw[YF,YF] at e;obtain⟨e1,g⟩:=EN (b p qo) (d q qo) e;have i:=Bi (ps:=c::r) (qs:=a::f) (by simp) (by simp) (λz hz=>b z (qt _ hz)) (λz hz=>d z (qt _ hz)) (Yt g);rw[Yt e1,i]
def WO(x:qc):Txt.split x " "≠[]:=λz=>by
 have:=split_pos x " ";rw[z] at this;exact absurd this ∅
def Vd(x:qc):∀p∈Txt.split x " ",¬32∈p.cps.toList:=λp a=>by
 rw[RI] at a;exact StrLaws.split_free _ 32 p a
def Ke{ps:qf}(h0:ps≠[])(h:∀p∈ps,¬32∈p.cps.toList)(e:Str.join " " ps=x):Txt.split x " "=ps:=by
 refine Bi (WO x) h0 (Vd x) h ?_;rw[e];exact jI _ _
theorem Bj:∀{ps qs:qf},ps≠[]->qs≠[]->Str.join " " (ps++qs)=(Str.join " " ps++" ")++Str.join " " qs
 |[],_,h,_=>absurd rfl h
 |[p],q::qs,_,_=>rfl
 |[p],[],_,h=>absurd rfl h
 |p::a::r,qs,_,b=>by
  have c:=Bj (ps:=a::r) (qs:=qs) (by simp) b;apply Yt;show(Str.join " " (p::a::(r++qs))).cps.toList=_;rw[YF,QM,QM,YF,show a::(r++qs)=(a::r)++qs from rfl,c,QM,QM];simp
def v3(x:qc):qf:=(Txt.split x " ").filter λp=>!decide (p=("":qc))
def UI(x y:qc):v3 ((x++" ")++y)=v3 x++v3 y:=by
 unfold v3;rw[<-ja];congr 1;refine Ke (by simp[WO x]) (λp a=>?_) ?_
 .rcases qT.mp a with a|a
  .exact Vd x p a
  .exact Vd y p a
 .rw[Bj (WO x) (WO y),show Str.join " " (Txt.split x " ")=x from jI _ _,show Str.join " " (Txt.split y " ")=y from jI _ _]
def WB:v3 ""=[]:=by
 unfold v3;rw[Ke (x:="") (ps:=[""]) (by simp) (λp a=>by rw[qq.mp a];decide +kernel) rfl];decide +kernel
def KO(h:¬32∈x.cps.toList)(a:x≠""):v3 x=[x]:=by
 unfold v3;rw[Ke (x:=x) (ps:=[x]) (by simp) (λp b=>by rw[qq.mp b];exact h) rfl];simp[a]
def Vm(c:Nat)(z l:qb Nat):qb Nat:=l.flatMap λd=>if d=c then z else [d]
def Ka{c:Nat}{z:qb Nat}:∀{l:qb Nat},¬c∈l->Vm c z l=l
 |[],_=>rfl
 |k::r,h=>by
  have a:¬k=c:=λe=>h (e▸qo ..);unfold Vm;rw[js,qz a];show[k]++Vm c z r=k::r;rw[Ka λm=>h (qt _ m)];rfl
def XD{c:Nat}{z a b:qb Nat}:Vm c z (a++b)=Vm c z a++Vm c z b:=by unfold Vm;rw[List.flatMap_append]
theorem A7(c:Nat)(z:qc):∀parts:qf,(∀p∈parts,c∉p.cps.toList)->Vm c z.cps.toList (Str.join ⟨#[c]⟩ parts).cps.toList=(Str.join z parts).cps.toList
 |[],_=>rfl
 |[p],h=>Ka (h p (qq.mpr rfl))
 |p::q::r,h=>by
  have b:=A7 c z (q::r) λa d=>h a (qt _ d);show Vm c z.cps.toList ((p++⟨#[c]⟩)++Str.join ⟨#[c]⟩ (q::r)).cps.toList=((p++z)++Str.join z (q::r)).cps.toList;rw[QM,QM,XD,XD,b,Ka (h p (qo ..)),QM,QM];congr 2;show Vm c z.cps.toList [c]=_;simp[Vm]
def UX(x z:qc)(c:Nat):(Txt.replace x ⟨#[c]⟩ z).cps.toList=Vm c z.cps.toList x.cps.toList:=by
 rw[StrLaws.replace_one,<-A7 c z _ (StrLaws.split_free x c),jI]
def e1(d:Nat):qb Nat:=if d=40\/d=41\/d=44 then [32,d,32] else [d]
theorem b7(l:qb Nat):Vm 44 [32,44,32] (Vm 41 [32,41,32] (Vm 40 [32,40,32] l))=l.flatMap e1:=by
 induction l with
 |nil=>rfl
 |cons d r c=>
  rw[js,<-c];show Vm 44 _ (Vm 41 _ ((if d=40 then [32,40,32] else [d])++Vm 40 _ r))=_;rw[XD,XD];congr 1;unfold e1;by_cases h0:d=40
  .subst h0;decide
  .rw[qz h0];by_cases a:d=41
   .subst a;decide
   .by_cases b:d=44
    .subst b;decide
    .rw[qz ⋯];simp[Vm,a,b]
def YB(x:qc):(YV x "(" ")" ",").cps.toList=x.cps.toList.flatMap e1:=by
 have a:("(":qc)=⟨#[40]⟩:=by decide +kernel
 have b:(")":qc)=⟨#[41]⟩:=by decide +kernel
 have c:(",":qc)=⟨#[44]⟩:=by decide +kernel
 have d:(Vj ⟨#[40]⟩).cps.toList=[32,40,32]:=by decide +kernel
 have e:(Vj ⟨#[41]⟩).cps.toList=[32,41,32]:=by decide +kernel
 have f:(Vj ⟨#[44]⟩).cps.toList=[32,44,32]:=by decide +kernel
 unfold YV;rw[a,b,c,UX,UX,UX,d,e,f,b7]
theorem Dz{c:Nat}{z:qb Nat}(hz:z.length=3):∀l:qb Nat,(Vm c z l).length<=3*l.length
 |[]=>qp _
 |k::r=>by
  have a:=Dz (c:=c) hz r;show((if k=c then z else [k])++Vm c z r).length<=_;rw[qm,qw];split<;>simp[hz]<;>omega
theorem Gu(x:qc):(YV x "(" ")" ",").length<=3*x.length:=by
 have key:∀l:qb Nat,(l.flatMap e1).length<=3*l.length:=by
  intro l
  induction l with
  |nil=>exact qp _
  |cons d r a=>
   rw[js,qm,qw];have:(e1 d).length<=3:=by unfold e1;split<;>simp
   omega
 have h:=key x.cps.toList;rw[<-YB] at h;have a:(YV x "(" ")" ",").cps.toList.length=(YV x "(" ")" ",").length:=qQ;have b:x.cps.toList.length=x.length:=qQ;rw[a,b] at h;exact h
def yb(x:qc):qf:=v3 (YV x "(" ")" ",")
def U3(x y:qc):YV (x++y) "(" ")" ","=YV x "(" ")" ","++YV y "(" ")" ",":=Yt (by rw[YB,QM,QM,List.flatMap_append,YB,YB])
theorem XU(h:∀c∈x.cps.toList,c≠40/\c≠41/\c≠44):YV x "(" ")" ","=x:=Yt (by
 rw[YB];generalize x.cps.toList=l at h
 induction l with
 |nil=>rfl
 |cons c r a=>
  have hc:=h c qo;rw[js,a λd hd=>h d (qt _ hd)];unfold e1;rw[qz ⋯];rfl)
def OB:YV " " "(" ")" ","=" ":=XU ∅
def BN(x y:qc):yb ((x++" ")++y)=yb x++yb y:=by
 unfold yb;rw[U3,U3,OB,UI]
def WL:yb ""=[]:=by
 unfold yb;rw[XU (x:="") ∅,WB]
def AH:YV "(" "(" ")" ","=((("":qc)++" ")++"(")++" ":=Yt (by rw[YB];decide +kernel)
def Gv:YV ")" "(" ")" ","=((("":qc)++" ")++")")++" ":=Yt (by rw[YB];decide +kernel)
def YU(x y z:qc):(x++y)++z=x++(y++z):=Yt (by rw[QM,QM,QM,QM,zh])
def Vp(x:qc):("":qc)++x=x:=Yt (by rw[QM];rfl)
def V4(x:qc):x++("":qc)=x:=Yt (by rw[QM];exact ze _)
def Mr(x:qc):yb (("(":qc)++x)=("(":qc)::yb x:=by
 unfold yb;rw[U3,AH,YU (("":qc)++" ") "(" " ",YU (("":qc)++" "),UI,WB,UI,KO ∅ ∅];rfl
def HR(x:qc):yb (x++(")":qc))=yb x++[(")":qc)]:=by
 unfold yb;rw[U3,Gv,Vp,<-YU,<-YU];have e:((YV x "(" ")" ","++" ")++")")++" "=(((YV x "(" ")" ","++" ")++")")++" ")++"":=(V4 _).symm;rw[e,UI,UI,WB,KO (x:=")") ∅ ∅,ze]
def BM(h:∀c∈x.cps.toList,c≠32/\c≠40/\c≠41/\c≠44)(a:x≠""):yb x=[x]:=by
 unfold yb;rw[XU λc hc=>(h c hc).2];exact KO (λz=>(h 32 z).1 rfl) a
def EO{K:Frag}{a:qd}{α:Type}{xs:qb α}{fr:qb (Nat×qc)}{tt:TT}{q:TE}{σ:St}{H1:Hp}{Q:VK}(g:α->V)(pr:α->Bool)(f:α->V)(hz:xs.length<=sizeLine)(t:zu K H1 a (xs.map g))
 (l:∀(x:α)(c:Hp)(Q':Bool->Hp->Prop),x∈xs->Qi H1 c->(∀h,Qi c h->Q' (pr x) h)->tt (some (g x)::xA σ fr) c Q')
 (n:∀(x:α)(c:Hp)(Q':VK),x∈xs->Qi H1 c->pr x=true->(∀h,Qi c h->Q' (f x) h)->q (some (g x)::xA σ fr) c Q')
 (u:∀D H2,H1 D=none->Qi H1 H2->H2 D=some (.lst ((xs.filter pr).map f))->Q (.ref D) H2) :
 Ug (Itt K a) fr tt q σ H1 Q:=by
 intro D o;refine⟨λi m ys H2=>m=xs.length-i/\i<=xs.length/\ys=((xs.take i).filter pr).map f/\Qi H1 H2/\H2 D=some (.lst ys),⟨xs.length,by simp,zb _,by simp,Qi.zL o,Qg⟩,?_⟩;rintro i m ys H2 ⟨rfl,hi,rfl,s2,j⟩;refine⟨j,?_⟩;have d:=s2.tup t;by_cases b:i<xs.length
 .have k:(xs.map g)[i]?=some (g xs[i]):=by rw[qC,qx b];rfl
  refine .inr ⟨⟨xs.map g,g xs[i],d,k⟩,?_⟩;rintro v c ⟨rfl,w⟩;have r:(xs.map g)[i]?=some v:=w _ d;rw[k] at r;cases r;have hm:xs[i]∈xs:=zU b;have s:xs.take (i+1)=xs.take i++[xs[i]]:=by rw[zo,qx b];rfl
  refine l xs[i] _ _ hm s2 λh s4=>?_
  cases p:pr xs[i] with
  |false=>
   refine QA ⟨xs.length-(i+1),⋯,U,b,?_,s2.trans s4,s4 _ _ j⟩;rw[s,ja,jf,p];simp
  |true=>
   refine QI (n xs[i] _ _ hm (s2.trans s4) p λy s5=>⟨s5 _ _ (s4 _ _ j),?_,xs.length-(i+1),⋯,U,b,?_,((s2.trans s4).trans s5).zE o,Qg⟩)
   .have:=zF pr (xs.take i);rw[zi] at this;rw[qi];omega
   .rw[s,ja,jf,p];simp
 .have e:i=xs.length:=by omega
  subst e;have k:xs.take xs.length=xs:=qP (qp _);rw[k] at j;exact .inl ⟨⟨xs.map g,d,by rw[qi];exact qp _⟩,u D H2 o s2 j⟩
def B7{X:Cx}(K:Frag)(d:X.K=K:=by rfl):YO X (.builtin "isinstance") (λxs H Q=>∃x c a t b,xs=[x,c]/\PK c=some a/\Uw K H x t/\kitOne K t a=some b/\Q (.bl b) H):=d▸Yw
variable {e:qd}{d:Option qd}
def Dk(e:qd)(d:Option qd)(h:Heap):Prop:=∃o,h.get? e=some o/\o.dict=d
def KD{α:Type}:Sem α->Prop
 |.pure _=>True
 |.raise _=>True
 |.unsupported _=>True
 |.finish _=>True
 |.rule _ k=>KD (k ())
 |.at _ k=>KD (k ())
 |.load _ _ k=>∀o,KD (k o)
 |.update _ _ f k=>(∀o,(f o).dict=o.dict/\(f o).isFreed=o.isFreed)/\KD (k ())
 |.loadIfAlive _ k=>∀o,KD (k o)
 |.alloc _ k=>∀a,KD (k a)
 |.stack k=>∀l,KD (k l)
 |_=>False
def KD.bind{α β:Type}(t:Sem α){f:α->Sem β}(h:KD t)(hf:∀a,KD (f a)):KD (t.bind f):=by
 induction t with
 |pure a=>exact hf a
 |raise _=>trivial
 |unsupported _=>trivial
 |finish _=>trivial
 |rule _ k b=>exact b () h
 | «at» _ k b=>exact b () h
 |load _ _ k b=>exact λo=>b o (h o)
 |update _ _ _ k b=>exact⟨h.1,b () h.2⟩
 |loadIfAlive _ k b=>exact λo=>b o (h o)
 |alloc _ k b=>exact λo=>b o (h o)
 |stack k b=>exact λo=>b o (h o)
 |_=>exact False.elim h
def Dk.update{a:qd}{h:Heap}{f:Obj->Obj}(x:Dk e d h)(hf:∀o,(f o).dict=o.dict/\(f o).isFreed=o.isFreed):Dk e d (h.update a f):=by
 obtain⟨o,e1,b⟩:=x;by_cases q:a=e
 .subst q;exact⟨f o,zz f e1 ((hf o).2.trans (Heap.get?_some_iff.mp e1).2),(hf o).1.trans b⟩
 .exact⟨o,(zv _ _ q).trans e1,b⟩
def T5{α:Type}{M:Model}{i:PySem.Ctx}(t:Sem α):∀{Q:α->Pos->Shared->Prop}{E:qe->Pos->Shared->Prop}{p:Pos}{s:Shared},KD t->Dk e d s.heap->Sem.wp M i t (λa g s'=>Dk e d s'.heap->Q a g s') (λx g s'=>Dk e d s'.heap->E x g s') p s->Sem.wp M i t Q E p s:=by
 induction t with
 |pure a=>intro Q E p s b c h;exact h c
 |raise e=>intro Q E p s b c h;exact h c
 |unsupported _=>intro Q E p s b c h;exact h
 |finish _=>intro Q E p s b c h;exact h
 |rule _ k f=>intro Q E p s b c h;exact f _ b c h
 | «at» _ k f=>intro Q E p s b c h;exact f _ b c h
 |load _ _ k f=>intro Q E p s b c h;obtain⟨o,e,h⟩:=h;exact⟨o,e,f _ (b _) c h⟩
 |update _ _ _ k f=>intro Q E p s b c h;exact⟨h.1,f _ b.2 (c.update b.1) h.2⟩
 |loadIfAlive _ k f=>intro Q E p s b c h;exact f _ (b _) c h
 |alloc _ k f=>intro Q E p s b c h;exact f _ (b _) (by obtain⟨o,e1,j⟩:=c;exact⟨o,qk _ e1,j⟩) h
 |stack k f=>intro Q E p s b c h;exact f _ (b _) c h
 |_=>intro Q E p s b c h;exact False.elim b
def VW{α:Type}{M:Model}{A:Around}{t:Sem α}{Q:α->Shared->Prop}{E:qg}{s:Shared}(c:KD t)(f:Dk e d s.heap)(h:wpAny M A t (λa s'=>Dk e d s'.heap->Q a s') (λx s'=>Dk e d s'.heap->E x s') s):wpAny M A t Q E s:=
 λg p b=>T5 t c f (h g p b)
def Nd{f:Array qe->Array qe}(o:Obj):(Obj.mapFields f o).dict=o.dict/\(Obj.mapFields f o).isFreed=o.isFreed:=by
 obtain⟨c,d,a,sl⟩:=o;cases a<;>exact⟨U,U⟩
def KD.bnd{α β:Type}{t:Sem α}{f:α->Sem β}(h:KD t)(hf:∀a,KD (f a)):KD (t>>=f):=KD.bind t h hf
def S2{α:Type}(w:String):KD (unsupported w:Sem α):=trivial
def B0(a:qd):KD (load a):=λ_=>trivial
def G0:KD stack:=λ_=>trivial
def Dr(v:qe):KD (fieldsOf v):=by
 unfold fieldsOf
 cases v with
 |ref a=>exact KD.bnd (B0 a) λo=>by split<;>trivial
 |_=>trivial
def Xx(v:qe)(i:Nat):KD (field v i):=KD.bnd (Dr v) λvs=>by split<;>trivial
def Wo(v:qe)(i:Nat)(x:qe):KD (setField v i x):=by
 unfold setField
 cases v with
 |ref a=>
  refine KD.bnd (B0 a) λo=>?_;split
  .split
   .exact⟨λo=>Nd o,trivial⟩
   .trivial
  .trivial
 |_=>trivial
def VI(e:qe)(f:Option qd):KD (setFlight e f):=KD.bnd (Xx e 1) λtb=>by
 split
 .exact Wo _ _ _
 .trivial
def B1:KD frameEnvs:=KD.bnd G0 λ_=>trivial
def Iq(env:Env)(l:qb Env):KD (behindIsImport env l):=by
 unfold behindIsImport;split
 .trivial
 .split
  .trivial
  .exact KD.bnd (Xx _ _) λ_=>trivial
def Pg(env:Env)(b:Bool)(l:qb Env):KD (keptBack env b l):=by
 cases l with
 |nil=>
  show KD (if (env.scope.isGenerator||env.scope.isCoroutine)=true then pure Value.none else do let x <-underTheClaimsCaller;pure (if x=true then Value.notImplemented else Value.none));split
  .trivial
  .exact KD.bnd (t:=underTheClaimsCaller) (KD.bnd G0 λ_=>trivial) λ_=>trivial
 |cons c l=>trivial
theorem Dp:∀l:qb Env,KD (readyFrames l)
 |[]=>trivial
 |env::outer=>by
  unfold readyFrames;split
  .refine KD.bnd (B0 _) λo=>?_;split
   .trivial
   .refine KD.bnd (Iq _ _) λb=>KD.bnd (Pg _ _ _) λv=>?_;exact KD.bnd (t:=update _ _) ⟨λo=>⟨U,by obtain⟨c,d,a,sl⟩:=o;cases a<;>rfl⟩,trivial⟩ λ_=>Dp outer
  .trivial
def EG(env:Env):KD (PySem.frameOf env):=by
 unfold PySem.frameOf;refine KD.bnd B1 λl=>KD.bnd ?_ λr=>?_
 .cases List.dropWhile (λx=>x.frame != env.frame) l with
  |nil=>trivial
  |cons a t=>exact KD.bnd (Dp _) λ_=>trivial
 .cases r<;>trivial
def Nc(f:qd)(b:Bool):KD (entryPlaceOf f b):=KD.bnd G0 λl=>by split<;>trivial
def F4(c:String)(a:Data)(d:Option qd):KD (newObjAsIs (.type c) a d):=λ_=>trivial
def BZ(ty:String)(vs:qh):KD (newFields ty vs):=by
 unfold newFields newObj;dsimp only;split
 .exact KD.bnd (S2 _) λ_=>F4 _ _ _
 .exact F4 _ _ _
def Dq(a b c d e:qe)(l:qh):KD (EntryCells.newEntry a b c d e l):=BZ _ _
def F3(e:qe)(env:Env):KD (noteFrame e env):=by
 have fin:∀(f:qd)(hd:qe),KD (do let a <-PySem.frameOf env;let pl <-entryPlaceOf f (hd != .none);let b <-EntryCells.newEntry hd a .none (rawInt f) .none pl;setField e 1 b):=λf hd=>
  KD.bnd (EG env) λ_=>KD.bnd (Nc _ _) λ_=>KD.bnd (Dq _ _ _ _ _ _) λ_=>Wo _ _ _
 unfold noteFrame;split
 .refine KD.bnd (Xx _ _) λhd=>?_;split
  .refine KD.bnd (Xx _ _) λx=>?_;split
   .trivial
   .exact KD.bnd (Wo _ _ _) λ_=>fin _ _
  .exact fin _ _
 .trivial
def G1(env:Env)(e:qe):KD (leaving env e):=KD.bnd (F3 e env) λ_=>VI e none
inductive TL(P:Program)(w:World)(l:qb Env)(H:Hp)(s:Shared)(E:XK)(ev:qe)(s':Shared):Prop
 |mk:∀e C H' d,ev=.ref e->Fly P w l H s e C H' s'->Dk e d s'.heap->E (.ref C) d H'->TL P w l H s E ev s'
def yZ(P:Program)(w:World):vj:=λl H s E ev s'=>TL P w l H s E ev s'
section
variable {P:Program}{w:World}{K:Frag}{mg:qc->Option qe}{base:Heap}{N:qf}{qual:qc}{scope:Scope}{f:qd}{cd:qe}{A:Around}{outer:qb Env}{s:Shared}{H:Hp}{E:XK}
def YL:US (yZ P w) (Ua (yZ P w) P w K mg base N qual scope f cd A outer s H E) E:=by
 intro pins σ p sc ev s1 I h;obtain⟨e,C,H',d,rfl,F,j,q⟩:=h;obtain⟨B,k,i,l,ct⟩:=F.fly;refine VW (G1 _ _) j (zt (wpAny_leaves_onW (Q:=λ_ s2=>∃c,s2={s1 with heap:=c}/\Heap.FlyingW B (Ua (yZ P w) P w K mg base N qual scope f cd A outer s H E).outer e (.ref C) k c/\s1.heap.UpToSlots c) (base:=B) I.ok.frames rfl i λc a sl=>⟨c,U,a,sl⟩) (λ_ s2 z g=>?_) λ_ _ z _=>z);obtain⟨c,rfl,a,sl⟩:=z;have m:∀b∈frs (Ua (yZ P w) P w K mg base N qual scope f cd A outer s H E).stack,∀o,s1.heap.get? b=some o->∀vs,o.data≠.fields vs:=λb n o e=>by
  obtain⟨_,r,e1,d⟩:=i.2.2.1.mem n;rw[e] at e1;cases e1;exact d
 exact⟨e,C,H',d,U,Pt I rfl F.un F.os F.bare F.hok F.fr F.nw a l ct sl m,g,q⟩
end
def K8(X:Cx)(pn:qb (qd×Obj))(R:St->XK):Cx:={X with pn:=X.pn++pn,xe:=λev s'=>∃(σ:St)(a:Hp)(sc:Shared),Inv X pn σ a sc/\TL X.prog X.w X.stack a sc (R σ) ev s'}
section
variable {X:Cx}{pins wA:qb (qd×Obj)}{σ:St}{H:Hp}{s:Shared}{R:St->XK}
def Inv.gX(I:Inv X pins σ H s):Inv (K8 X pins R) [] σ H s:=
 ⟨⟨I.ok.mod,I.ok.kind,I.ok.glob,I.ok.blt,I.ok.above,I.ok.inj,I.ok.has,I.ok.cab,I.ok.hd,I.ok.frames,I.ok.gj,I.ok.gq,I.ok.bs,I.ok.vB,I.ok.kP,I.ok.kQ,I.ok.xq,I.ok.wd⟩,I.os,I.bare,I.base,I.loc,I.cell,I.free,I.j7,λp a=>I.pin p (by
   rw[ze] at a;exact a),I.hok,I.len⟩
def Inv.xU(I:Inv (K8 X pins R) wA σ H s):Inv X pins σ H s:=
 ⟨⟨I.ok.mod,I.ok.kind,I.ok.glob,I.ok.blt,I.ok.above,I.ok.inj,I.ok.has,I.ok.cab,I.ok.hd,I.ok.frames,I.ok.gj,I.ok.gq,I.ok.bs,I.ok.vB,I.ok.kP,I.ok.kQ,I.ok.xq,I.ok.wd⟩,I.os,I.bare,I.base,I.loc,I.cell,I.free,I.j7,λp a=>I.pin p (zK _ a),I.hok,I.len⟩
def SP.xU{D:Uu}{f:Flow}(h:SP (K8 X pins R) wA D f s):SP X pins D f s:=by
 cases f with
 |ret u=>obtain⟨v,a,H',I,r,q⟩:=h;exact⟨v,a,H',I.xU,r,q⟩
 |_=>obtain⟨a,H',I,q⟩:=h;exact⟨a,H',I.xU,q⟩
def Sy{pn:qb (qd×Obj)}:Cd (yZ X.prog X.w) (K8 X pn R) R:=by
 intro pins σ H s ev s' I h;exact⟨σ,H,s,I.xU,h⟩
end
inductive RK(h:Heap)(C D:qd):Prop
 |mk:∀bm N nm q bs hdct sn sub ab col dd k0 k1 k2 k3 k5 nw,h.get? C=some (excClassObj nm q C N bs bm hdct sn sub ab col dd k0 k1 k2 k3 k5 nw)->(Value.ref C::bm).contains (.ref D)=true->RK h C D
structure N2(K:Frag)(C D:qd):Prop where
 c:∀h:Heap,K.In h->RK h C D
section
variable {M:Model}{A:Around}{E:qg}{s:Shared}{B:Heap}{l:qb Env}{e L:qd}{cls a0:qe}{d:Option qd}{Q:Unit->Shared->Prop}
def SO{env:Env}{outer:qb Env}(b:A.frames=some (env::outer))(hf:env.frame=some L)(f:Heap.FlyingW B (env::outer) e cls a0 s.heap)(g:Dk e d s.heap)
 (h:∀h',Heap.HeldW B (env::outer) e cls a0 L h'->s.heap.UpToSlots h'->Dk e d h'->Q () {s with heap:=h'}):wpAny M A (noteFrame (.ref e) env) Q E s:=
 VW (F3 _ _) g (zt (wpAny_looks_onW (Q:=λ_ s2=>∃a,s2={s with heap:=a}/\Heap.HeldW B (env::outer) e cls a0 L a/\s.heap.UpToSlots a) b hf f λa x y=>⟨a,U,x,y⟩) (λ_ _ ⟨a,q,x,y⟩ c=>by
  subst q;exact h a x y c) λ_ _ z _=>z)
def SQ(c:Heap.HeldW B l e cls a0 L s.heap)(f:Dk e d s.heap)(g:∀h',Heap.FlyingW B l e cls a0 h'->s.heap.UpToSlots h'->Dk e d h'->Q () {s with heap:=h'}):wpAny M A (setFlight (.ref e) none) Q E s:=
 VW (VI _ _) f (zt (wpAny_landsW (Q:=λ_ s2=>∃a,s2={s with heap:=a}/\Heap.FlyingW B l e cls a0 a/\s.heap.UpToSlots a) c λa x y=>⟨a,U,x,y⟩) (λ_ _ ⟨a,q,x,y⟩ b=>by
  subst q;exact g a x y b) λ_ _ z _=>z)
def Dj(c:Heap.FlyingW B l e cls a0 s.heap)(f:Dk e d s.heap)(g:∀h',Heap.FlyingW B l e cls a0 h'->s.heap.UpToSlots h'->Dk e d h'->Q () {s with heap:=h'}):wpAny M A (setFlight (.ref e) none) Q E s:=
 VW (VI _ _) f (zt (lands_againW (Q:=λ_ s2=>∃a,s2={s with heap:=a}/\Heap.FlyingW B l e cls a0 a/\s.heap.UpToSlots a) c λa x y=>⟨a,U,x,y⟩) (λ_ _ ⟨a,q,x,y⟩ b=>by
  subst q;exact g a x y b) λ_ _ z _=>z)
end
def Av(C:qd)(d:Option qd)(e:qd)(h:Heap):Prop:=∃o,h.get? e=some o/\o.cls=.ref C/\o.dict=d/\∃vs,o.data=.fields vs
def Ki(C:qd)(d:Option qd)(e:qd):HO:=.ext (Av C d e)
def Py{P:Program}{w:World}{H:Hp}{h:Heap}{C e:qd}{d:Option qd}(x:Av C d e h):QY P w H h e (Ki C d e):=⟨x,let ⟨o,a,_⟩:=x;⟨o,a⟩,λ_ _ y k=>let ⟨o,a,b⟩:=y;⟨o,k o a,b⟩⟩
def DN{X:Cx}:YO X (.builtin "isinstance") (λxs H Q=>∃e C d c g b,xs=[.ref e,c]/\H e=some (Ki C d e)/\Xg X.K C/\PK c=some g/\kitOne X.K (.ref C) g=some b/\Q (.bl b) H):=by
 intro pins s σ H xs us Q I r h;obtain⟨e,C,d,c,g,b,rfl,he,Z,f,i,q⟩:=h;obtain⟨u,j,rfl,k,rc⟩:=E5 r;have l:j=g:=by
  cases c with
  |ty n=>cases f;exact rc
  |ref a=>cases f;exact rc
  |_=>cases f
 subst l;obtain rfl:u=Value.ref e:=k;obtain⟨x,_⟩:=(show QY X.prog X.w H s.heap e (Ki C d e) from I.hok e _ he);exact kia_one (Na Z) I.yz (let ⟨o,m,p,_⟩:=x;⟨o,m,p⟩) i (by intro q;cases q) λt=>⟨.bl b,H,I.tok t,rfl,q⟩
def Ol(i:Nat)(R:St->XK)(tb b:TS):TS:=λD σ H=>(∀a C d H' e,R a (.ref C) d H'->H' e=none->b (unb i D) (a.set i (some (.ref e))) (upd H' e (Ki C d e)))/\tb D σ H
def HL{X:Cx}{body:qb Stmt}{x n:qc}{i:Nat}{D:qd}{w:Stmt}{g:qb Stmt}{np Y pos:Pos}{R:St->XK}{tb ts:TS}(hg:Gl X x)(hm:X.mg x=some (.ref D))(d:Xcl X.K D)(Z:X.stack=X.env::X.outer)(hf:X.env.frame=some X.env.locals)(hex:X.ex=[])
 (hN:X.N.Nodup) (hi:X.N[i]?=some n) (a:X.env.scope.names.lookup n=some .local)
 (hsub:∀σ C d H,R σ (.ref C) d H->N2 X.K C D) (hb:∀pn,yV (K8 X pn R) body tb) (hs:∀ev,yV (hnd X ev) (w::g) ts) (hdb:(x==("__debug__":qc))=false:=by decide) :
 PS X (.Try body [.ExceptHandler (some (.Name x np)) (some n) (w::g) Y] [] [] pos) (Ol i R tb ts):=by
 intro pins s σ H Dd I h;obtain⟨hh,hq⟩:=h;refine wpAny_Try_except (zt (hb pins [] s σ H Dd I.gX hq) (λf b j=>?_) λev b j=>?_)
 .have k:SP X pins Dd f b:=SP.xU j
  cases f with
  |next=>rw[arm_execs_nil];exact qu k
  |_=>exact k
 .obtain⟨k,Hc,sc,V,e,C,H',dx,rfl,F,dk,q⟩:=j;obtain⟨B,a0,fl,cv,ct⟩:=F.fly;have fr:X.A.frames=some (X.env::X.outer):=by rw[I.ok.frames,Z]
  have fl':=fl;rw[Z] at fl';refine SO fr hf fl' dk λh4 J y dk4=>?_;refine SQ J dk4 λh5 K A dk5=>?_;have J5:Inv X pins k H' {b with heap:=h5}:=F.inv (l:=X.stack) V fl cv ct K.1 (y.trans A);refine wpAny_handleBy_cons (codeAny_handlers_test ?_) (by intro q;cases q);refine ku I.ok.kind hg (Calls.loadGlobal_global (by rw[I.ok.glob];exact I.mod.glob.keeps J5.bk) hm ?_) hdb;obtain⟨bm,N,nm,qn,bs,hdct,sn,sub,ab,col,dd,k0,k1,k2,k3,k5,nw,hC,hsb⟩:=(hsub k C dx H' q).c _ J5.yz;obtain⟨bm',N',nm',qn',bs',hdct',sn',sub',ab',col',dd',l0,l1,l2,l3,l5,mN',hD,hN'',hni',TL'⟩:=d.obj J5.yz;obtain⟨ob,hob,hobc⟩:=K.there;refine C8 hC hD hob hobc (TL'.hasType excBase_ValueError.hasBase) hsb ?_;refine codeAny_handlers_suite_as ?_;refine Dj K dk5 λh6 fl6 hsm6 dk6=>?_;have J6:Inv X pins k H' {b with heap:=h6}:=F.inv (l:=X.stack) V fl cv ct fl6.1 ((y.trans A).trans hsm6);have t:=V.base;rw[hex] at t;have e0:X.s₀.heap.get? e=none:=by
   cases z:X.s₀.heap.get? e with
   |none=>rfl
   |some o=>
    obtain⟨G,E⟩:=t.there e o z nofun;rw[F.nw] at E;cases E
  obtain⟨ob6,vs6,E,L,M,_⟩:=fl6.first;obtain⟨ob7,G,O⟩:=dk6;have eL:e≠X.env.locals:=λz=>by
   obtain⟨m,Q,_⟩:=V.loc;obtain⟨S,_,_,P,_⟩:=Q;rw[<-z,F.nw] at P;cases P
  have eC:∀x c,X.env.cells.lookup x=some c->c≠e:=λx c hc z=>by
   obtain⟨v,o,P,_⟩:=V.cell x c hc;rw[z,F.nw] at P;cases P
  have eP:∀p∈X.pn++pins,p.1≠e:=λp hp z=>by
   obtain⟨P,_⟩:=V.pin p hp;rw[z,F.nw] at P;cases P
  have J7:Inv X pins k (upd H' e (Ki C dx e)) {b with heap:=h6}:=J6.track F.fr e0 eL eC eP (Py ⟨ob6,E,L,by
   rw[E] at G;cases G;exact O,_,M⟩)
  refine V5 J7 hN hi (.inl a) (v:=.ref e) rfl (λs2 J8=>?_) (.inr a);refine zt (hs (.ref e) pins s2 _ _ (unb i Dd) (J8.inhnd _) (hh k C dx H' e q F.fr)) (λf s3 z=>?_) (λ_ _ z=>z.elim);have z':SP X pins (unb i Dd) f s3:=SP.vf I.ok z
  cases f with
  |ret u=>
   obtain⟨v,P,H2,Q,r,S⟩:=z';exact K0 Q hN hi a λs4 T=>⟨v,_,H2,T,r,S⟩
  |next=>
   obtain⟨P,H2,Q,S⟩:=z';exact K0 Q hN hi a λs4 T=>⟨_,H2,T,S⟩
  |brk=>
   obtain⟨P,H2,Q,S⟩:=z';exact K0 Q hN hi a λs4 T=>⟨_,H2,T,S⟩
  |cont=>
   obtain⟨P,H2,Q,S⟩:=z';exact K0 Q hN hi a λs4 T=>⟨_,H2,T,S⟩
end L2
set_option maxHeartbeats 400000
namespace L2
open PySem PySem.Spec PyProof.Rows
variable {M:Model}{tk:Tok}
open PySem.Builtin PySem.Builtin.ObjectAttr
section
variable {prog:Program}{w:World}{A:Around}{E:qg}{K:Frag}{x C dx:qd}{h:Heap}{g:Array GenState}{d:Drawn}{t:Nat}{os:OsState}{name:qc}{mA:qc->Option qe}{v:qe}
def Av.at{d:Option qd}(I:Av C d x h):w6 C x h:=let ⟨o,a,b,_⟩:=I;⟨o,a,b⟩
def Df(n:h.Ns dx mA):Looks M h (nsGet dx name) (mA name):=λA Q E s k q=>wpAny_nsGet (n.keeps k) q
def IF(hd:hasDictIn K C=true)(X:K.In h)(I:Av C (some dx) x h):Looks M h (ownDict x) (some dx):=by
 obtain⟨o,e,hc,a,vs,d⟩:=I;obtain⟨cd,b,c⟩:=any_some hd;have L:=looks_clsIn (M:=M) X b;unfold ownDict;refine(wW e).andThen ?_;rw[d];show Looks M h (instanceDict x false) _;unfold instanceDict;refine(wW e).andThen ?_;rw[hc,a];refine L.andThen ?_;rw[c];exact .now
def IE(hd:hasDictIn K C=true)(hf:findIn K (.ref C) name=some none)(X:K.In h)(I:Av C (some dx) x h)(n:h.Ns dx mA)(b:mA name=some v):Looks M h (find (.ref x) (.ref C) name) (.value v):=by
 refine(looks_findIn X hf).andThen (Looks.now.andThen (Looks.now.andThen ?_));show Looks M h (ownThenClass (.ref x) name none none) _;unfold ownThenClass;refine Looks.andThen (a:=some v) ?_ (Looks.tag .now);show Looks M h (do inDict name (<-ownDict x)) _;exact(IF hd X I).andThen (b▸Df n)
def EK{Q:Fin->Shared->Prop}(hd:hasDictIn K C=true)(hf:findIn K (.ref C) name=some none)(X:K.In h)(I:Av C (some dx) x h)(n:h.Ns dx mA)(a:mA name=some v)(b:Q (.done (.ret v)) ⟨h,g,d,t,os⟩) :
 wpAny (model prog w) A (Builtin.«object.__getattribute__» ⟨[.ref x,.str name tk],[]⟩) Q E ⟨h,g,d,t,os⟩:=by
 have c:=I.at.type (M:=model prog w);have e:=IE hd hf X I n a (M:=model prog w);refine qj (qu (qj (qu (qj (c.at (qj (e.at ?_)))))));exact qu b
def IG{R:Result->Shared->Prop}(Z:Xg K C)(hf:findIn K (.ref C) name=some none)(X:K.In h)(I:Av C (some dx) x h)(n:h.Ns dx mA)(a:mA name=some v)(b:R (.ok (.ret v)) ⟨h,g,d,t,os⟩) :
 codeAny (model prog w) A (.call (.builtin "BaseException.__getattribute__") ⟨[.ref x,.str name tk],[]⟩) R ⟨h,g,d,t,os⟩:=by
 have L:Looks (model prog w) h (isInstance (.ref x) (.type "BaseException")) true:=(I.at.type (M:=model prog w)).andThen (looks_mroIn (M:=model prog w) X Z.mb);exact jg xM.ga.plain F.entry_bexc_ga (A9 L (EK Z.cl hf X I n a b))
def Pw{fill expr:Bool}{Q:qg}(Z:Xg K C)(hf:findIn K (.ref C) name=some none)(X:K.In h)(I:Av C (some dx) x h)(n:h.Ns dx mA)(e:mA name=some v)(f:handedIn v=true)(i:Q v ⟨h,g,d,t,os⟩) :
 wpAny (model prog w) A (getAttrBy (.ref x) (.str name tk) fill expr) Q E ⟨h,g,d,t,os⟩:=by
 have j:=I.at.type (M:=model prog w);have k:=looks_findIn (M:=model prog w) X Z.ga;have L2:=looks_findIn (M:=model prog w) X Z.gt;have l:=xM.ga.bind (.ref x);have a:(Value.builtin "BaseException.__getattribute__"==Value.builtin "object.__getattribute__")=false:=by decide +kernel
 have b:(onTheHeap (Value.ref C)&&Value.builtin "BaseException.__getattribute__"==Value.builtin "object.__getattribute__")=false:=by rw[a];rfl
 refine zR (qj (j.at (qj (k.at ?_))));refine VU b ?_;refine qj (L2.at ?_);refine qj (ya (zR ?_));have c:(expr&&onTheHeap (Value.builtin "BaseException.__getattribute__"))=false:=by cases expr<;>rfl
 unfold callGetattribute;refine VU c ?_;unfold boundAndCalled;rw[l];refine qj (qu ?_);refine jH (IG Z hf X I n e ?_);exact handed_on f i
def IH{expr:Bool}{Q:qg}(Z:Xg K C)(hf:findIn K (.ref C) name=some none)(X:K.In h)(I:Av C (some dx) x h)(n:h.Ns dx mA)(a:mA name=some v)(b:handedIn v=true)(c:Q v ⟨h,g,d,t+1,os⟩) :
 wpAny (model prog w) A (getAttr (.ref x) name expr) Q E ⟨h,g,d,t,os⟩:=by
 unfold getAttr;exact qj (wpAny_mkText (Pw Z hf X I n a b c))
end
inductive Fh(K:Frag)(f:qc)(Q:VK)(x:V)(H1:Hp):Prop
 |mk:∀a C dx fs v,x=.ref a->H1 a=some (Ki C (some dx) a)->H1 dx=some (.xd fs)->Xg K C->findIn K (.ref C) f=some none->fs.lookup f=some v->Q v H1->Fh K f Q x H1
def P9(K:Frag)(a:TE)(f:qc):TE:=λσ H Q=>a σ H λx H1=>Fh K f Q x H1
section
variable {X:Cx}{e:Expr}{f:qc}{pos:Pos}{ta:TE}
def OQ(he:PE X e ta)(g:attributeBase e f X.env (eval e X.env)=eval e X.env):PE X (.Attribute e f pos) (P9 X.K ta f):=by
 intro pins s σ H Q I h;refine Hr g (zS (he pins s σ H _ I h) λu s1 ⟨x,H1,c,i,a,C,d,j,v,ex,k,m,Z,hf,l,q⟩=>?_);subst ex;obtain rfl:u=Value.ref a:=i;obtain⟨n,_⟩:=(show QY X.prog X.w H1 s1.heap a (Ki C (some d) a) from c.hok a _ k);obtain⟨o,ns,r⟩:=(show QY X.prog X.w H1 s1.heap d (.xd j) from c.hok d _ m);have b:=r f;rw[l] at b
 cases hm:o f with
 |none=>rw[hm] at b;exact False.elim b
 |some t=>
  rw[hm] at b;obtain⟨w,g1,y,t1,p⟩:=s1;exact IH Z hf c.yz n ns.ns hm (A4 b) ⟨v,H1,c.tok _,b,q⟩
end
open PySem.Builtin PySem.Builtin.ObjectAttr
theorem W2(self:qe):∀{l:qh},BP l=true->refuseLoop self "__setattr__" l=pure ()
 |[],e=>by cases e
 |v::r,e=>by
  cases v with
  |ref c=>rw[refuseLoop_ref];exact W2 self e
  |_=>have z:=jm.mp e;rw[z];exact PySem.F.store_ValueError.passes self
theorem GH:∀{l:qh},BP l=true->l.contains (.type "object")=true
 |[],e=>by cases e
 |v::r,e=>by
  cases v with
  |ref c=>rw[vZ,GH (l:=r) e,Bool.or_true]
  |_=>have z:=jm.mp e;rw[z];rfl
section
variable {prog:Program}{w:World}{A:Around}{E:qg}{K:Frag}{x C:qd}{s:Shared}{name:qc}{v:qe}
def HU{b:Tok}{R:Result->Shared->Prop}{g:Obj}(X:K.In s.heap)(I:PySem.W.InstAt s.heap x g C none)(i:BO K C=true)(j:findIn K (.ref C) name=some none)
 (h:wpAny (model prog w) A.in1 (storeInOwnDict (.ref x) (.ref C) (.str name b) name v false)
   (λfin s'=>match fin with|.done f=>R (.ok f) s'|.again d=>d.quiet=true/\codeAny (model prog w) A d R s') (λe s'=>R (.error e) s') s) :
 codeAny (model prog w) A (.call (.builtin "object.__setattr__") ⟨[.ref x,.str name b,v],[]⟩) R s:=by
 have a:=PySem.F.store_object;obtain⟨cd,hc,c⟩:=any_some i;have ne:cd.mro.isEmpty=false:=by cases q:cd.mro with|nil=>rw[q] at c;cases c|cons _ _=>rfl
 have sub:Looks (model prog w) s.heap (isInstance (.ref x) (.type "object")) true:=I.type.andThen (looks_mroIn X (by unfold mroIn;rw[hc,zj,qz (by rw[ne];decide),GH c]));have hm:Looks (model prog w) s.heap (mroOf (.ref C)) cd.mro:=(looks_clsIn X hc).andThen .now;refine jg a.slot.plain a.entry (@check_slot (model prog w) _ _ s "object.__setattr__" "object" "__setattr__" (.ref x) [.str name b,v] [] _ a.kind a.split sub (a.args (.ref x) (.str name b) v) ?_);rw[PySem.W.osa_eq,refuse_eq];refine qj (qj (I.type.here (qj (hm.here ?_))));rw[W2 _ c];exact qu (qj (I.type.here (qj ((looks_findIn X j).here (qj (qu h))))))
def R5{Q:Unit->Shared->Prop}{o:Obj}{vs:Array qe}(X:K.In s.heap)(i:s.heap.get? x=some o)(hc:o.cls=.ref C)(c:o.dict=none)(j:o.data=.fields vs)
 (B:findIn K (.ref C) "__setattr__"=some (some (.builtin "object.__setattr__"))) (D:BO K C=true) (F:findIn K (.ref C) name=some none) (G:hasDictIn K C=true)
 (h:∀h' n,s.heap.get? n=none->n≠x->h'.get? x=some {o with dict:=some n}->h'.Ns1 n (λy=>if y=name then some v else none)->(∀b k,b≠x->s.heap.get? b=some k->h'.get? b=some k)->Q () {s with heap:=h',toks:=s.toks+2}) :
 wpAny (model prog w) A (setAttr (.ref x) name v) Q E s:=by
 have I:PySem.W.InstAt s.heap x o C none:=⟨i,hc,by unfold PySem.W.notCls;rw[j],by rw[c];trivial⟩;refine set_plain X I B (HU (s:={s with toks:=s.toks+1}) X I D F ?_);obtain⟨cd,l,m⟩:=any_some G;refine qj (qu (qj (qj (wpAny_loadPart i ?_))));rw[hc];refine qj (Looks.here (s:={s with toks:=s.toks+1}) (looks_clsIn X l) ?_);rw[m,c,j];have a:x≠s.heap.objs.size:=qR (qI i);have d:(s.heap.push {cls:=.type "dict",data:=.dict #[]}).get? x=some o:=qk _ i;refine qj (wpAny_alloc' ?_);refine qj (wpAny_update' d ?_);refine qu ?_;have p:((s.heap.push {cls:=.type "dict",data:=.dict #[]}).update x λo=>{o with dict:=some s.heap.objs.size}).get? s.heap.objs.size=some {cls:=.type "dict",data:=.dict #[]}:=
  (Heap.get?_update_ne _ _ _ _ a.symm).trans (Heap.get?_push_at rfl rfl)
 have hnd:((s.heap.push {cls:=.type "dict",data:=.dict #[]}).update x λo=>{o with dict:=some s.heap.objs.size}).Ns s.heap.objs.size (λ_=>none):=⟨_,#[],_,p,U,λe he=>absurd he (by simp),λ_=>rfl⟩;refine qj (qu (qj (wpAny_nsSet1 (Heap.Ns1.of_empty hnd) λh' f g=>?_)));obtain⟨N,H,J,q,r,t⟩:=f.count (Within.cons name v Within.nil);refine qj (wpAny_lookBehind q (by rw[r];exact pastItsLine_dict (qO t (by rw[qw,zJ,zI];omega))) ?_);refine qu (h h' s.heap.objs.size (xJ (qp _)) a.symm ?_ f λb k u z=>?_)
 .refine(g.2 x a).trans (zz _ d ?_);obtain⟨O,P,L,M⟩:=o;dsimp only at j;subst j;rfl
 .exact(g.2 b (qR (qI z))).trans ((Heap.get?_update_ne _ _ _ _ u).trans (qk _ z))
end
structure cz(K:Frag)(C:qd)(f:qc):Prop where
 sa:findIn K (.ref C) "__setattr__"=some (some (.builtin "object.__setattr__"))
 ov:BO K C=true
 no:findIn K (.ref C) f=some none
 hd:hasDictIn K C=true
def cB(C:qd)(d:Option qd)(e:qd)(h:Heap):Prop:=∃(o:Obj)(vs:Array qe)(a:qd),h.get? e=some o/\o.cls=.ref C/\o.dict=d/\o.data=.fields vs/\vs[1]?=some .none/\vs[0]?=some (.ref a)
def Vz(C:qd)(d:Option qd)(e:qd):HO:=.ext (cB C d e)
def B3{P:Program}{w:World}{H:Hp}{h:Heap}{C e:qd}{d:Option qd}(x:cB C d e h):QY P w H h e (Vz C d e):=⟨x,let ⟨o,_,_,a,_⟩:=x;⟨o,a⟩,λ_ _ y k=>let ⟨o,vs,b,a,c⟩:=y;⟨o,vs,b,k o a,c⟩⟩
inductive FC(K:Frag)(f:qc)(D:Uu)(σ:St)(y:V)(x:V)(H1:Hp):Prop
 |mk:∀a C,x=.ref a->H1 a=some (Vz C none a)->cz K C f->(∀n,H1 n=none->n≠a->D.nx σ (upd (upd H1 a (Vz C (some n) a)) n (.xd [(f,y)])))->FC K f D σ y x H1
def bo(K:Frag)(a b:TE)(f:qc):TS:=λD σ H=>b σ H λy H1=>a σ H1 λx H2=>FC K f D σ y x H2
section
variable {X:Cx}{o value:Expr}{f:qc}{pos pos':Pos}{ta tv:TE}
def OL(A:PE X o ta)(B:PE X value tv)(E:swapsWith value (some (.Attribute o f pos')) pos.line X.env=pure false)(hex:X.ex=[]):PS X (.Assign [.Attribute o f pos'] value pos) (bo X.K ta tv f):=by
 intro pins s σ H D I h;refine xt (zS (B pins s σ H _ I h) λu s1 ⟨y,H1,F,G,q⟩=>zS (A pins s1 σ H1 _ F q) λJ s2 ⟨x,H2,d,K,a,C,ex,l,c,L⟩=>?_) E;subst ex;obtain rfl:J=Value.ref a:=K;obtain⟨⟨V,vs,M,N,hc,j,i,v1,v0⟩,_⟩:=(show QY X.prog X.w H2 s2.heap a (Vz C none a) from d.hok a _ l);refine R5 d.yz N hc j i c.sa c.ov c.no c.hd λh' n nn na r k O=>?_;have t:H2 n=none:=by
  cases z:H2 n with
  |none=>rfl
  |some u=>
   obtain⟨w,b⟩:=(d.hok n u z).there;rw[nn] at b;cases b
 have P:Inv X pins σ (upd H2 a (Vz C (some n) a)) {s2 with heap:=h',toks:=s2.toks+2}:=
  d.write (x:=a) (e:=a) (by rw[l];exact True.intro) (.inl rfl) O ⟨_,r⟩ (B3 ⟨_,vs,M,r,hc,rfl,i,v1,v0⟩)
 have Q:X.s₀.heap.get? n=none:=by
  cases z:X.s₀.heap.get? n with
  |none=>rfl
  |some o=>
   have b:=d.base;rw[hex] at b;obtain⟨R,w⟩:=b.there n o z nofun;rw[nn] at w;cases w
 have w:n≠X.env.locals:=λz=>by
  obtain⟨m,k,_⟩:=d.loc;obtain⟨R,_,_,b,_⟩:=k;rw[<-z,nn] at b;cases b
 have R:∀x c,X.env.cells.lookup x=some c->c≠n:=λx c hc z=>by
  obtain⟨v,o,b,_⟩:=d.cell x c hc;rw[z,nn] at b;cases b
 have S:∀p∈X.pn++pins,p.1≠n:=λp T z=>by
  obtain⟨b,_⟩:=d.pin p T;rw[z,nn] at b;cases b
 refine⟨σ,_,P.track (by rw[Qj na];exact t) Q w R S ?_,L n t na⟩;refine⟨_,k,λg=>?_⟩;by_cases q:g=f
 .subst q;show U1 (List.lookup g [(g,y)]) (if g=g then some u else none);rw[qG rfl,List.lookup_cons_self];exact G
 .show U1 (List.lookup g [(f,y)]) (if g=f then some u else none);rw[qz q,zD,show(g==f)=false from zV.mpr q];trivial
end
section
variable {P:Program}{w:World}{K:Frag}{mg:qc->Option qe}{base:Heap}{N:qf}{qual:qc}{f:qd}
def kL.kF{x:qc}{st:Stmt}{fd:FuncData}{ps:qf}{k:Nat}{sp:Sp}(F:kL K x qual st f fd)(S:Y5 N ps (Qr st))(len:∀vs H Q E,sp vs H Q E->vs.length=ps.length)
 (b:∀(a:qe)(A:Around)(outer:qb Env)(s:Shared)(H:Hp)(vs:qb V)(Q:VK)(E:XK),QF k (A.deeper (envOfC qual (Qr st) s.heap.objs.size f a))->sp vs H Q E ->
   ∃t,yV (Ua (yZ P w) P w K mg base N qual (Qr st) f a A outer s H E) (QK st) t/\t {nx:=λ_ H'=>Q .non H',rt:=Q} (start N vs) H):Y6 P w K mg base (yZ P w) (k+1) f fd ps sp:=by
 obtain⟨h,i,kV,doc,pm,an,a,ct,e,rfl,lk,c⟩:=F.ex;exact Ny lk c S len λA outer s H vs Q E g d=>b a A outer s H vs Q E g d
end
def N2.of{K:Frag}{C D:qd}(q:Ee K C D=true):N2 K C D:=⟨λh X=>by
 unfold Ee at q;split at q
 .rename_i dd cd sl e
  split at q
  .rename_i v bm f g i j n k hm d
   rw[qB,qB] at q;obtain⟨⟨a,b⟩,l⟩:=q;have a:=jm.mp a;rw[yS] at b;obtain⟨a1,a2,w,m,o,p,r,s,t,c,u⟩:=cd;obtain⟨ls⟩:=sl;dsimp only at hm b d;subst hm b d a;exact⟨bm,m,a1,o,a2,p,r,s,t,c,dd,f,g,i,j,k,_,X _ _ e,l⟩
  .cases q
 .cases q⟩
inductive RJ(h:Heap)(C:qd):Prop
 |mk:∀bm N nm q bs hdct sn sub ab col dd k0 k1 k2 k3 k5,h.get? C=some (excClassObj nm q C N bs bm hdct sn sub ab col dd k0 k1 k2 k3 k5 "ValueError.__new__")->OwnTail h C3 bm->RJ h C
structure Af(K:Frag)(C:qd):Prop where
 q:EL K C=true
def Af.obj{K:Frag}{h:Heap}{C:qd}(x:Af K C)(X:K.In h):RJ h C:=by
 have q:=x.q;unfold EL at q;split at q
 .rename_i dd cd sl f
  split at q
  .rename_i w bm g i j k n l hm e
   rw[qB,qB,qB] at q;obtain⟨⟨⟨a,b⟩,c⟩,m⟩:=q;have a:=jm.mp a;have b:=jm.mp b;rw[yS] at c;obtain⟨a1,a2,y,o,p,r,s,t,u,d,v⟩:=cd;obtain⟨ls⟩:=sl;dsimp only at hm c e;subst hm c e a b;exact⟨bm,o,a1,p,a2,r,s,t,u,d,dd,g,i,j,k,l,X _ _ f,tail_of_in X m⟩
  .cases q
 .cases q
structure cF(K:Frag)(C:qd):Prop where
 ga:specialIn K (.ref C) "__getattribute__"=some (some (.builtin "type.__getattribute__"))
 rd:readsIn K C (.type "type")=true
 fc:findCls K (.ref C) (.type "type") "__init__"=some (.val (.builtin "ValueError.__init__"))
section
variable {prog:Program}{w:World}{A:Around}{E:qg}{h:Heap}{g:Array GenState}{d:Drawn}{t:Nat}{os:OsState}{K:Frag}{C f:qd}
def ES{e:qd}{a:Obj}{vs:Array qe}{rest:qh}{Q:qg}(x:Af K C)(X:K.In h)(he:h.get? e=some a)(hc:a.cls=.ref C)(hd:a.data=.fields vs){i:qd}(h0:vs[0]?=some (.ref i))(n:rest.length<=sizeLine)
 (j:∀h' k,(∀b o,b≠e->h.get? b=some o->h'.get? b=some o)->h'.get? e=some (Obj.mapFields (·.setIfInBounds 0 (.ref k)) a)->Q .none ⟨h',g,d,t,os⟩) :
 wpAny (model prog w) A (call (.builtin "ValueError.__init__") (.ref e::rest)) Q E ⟨h,g,d,t,os⟩:=by
 obtain⟨bm,N,nm,q,bs,f,sn,sub,p,col,dd,r,s,u,v,y,l,T⟩:=x.obj X;have F:=excBase_ValueError;refine jH (jg F.init.plain F.initEntry (wpAny_check_init_subU F T l he hc ?_));have c:=qk (h:=h) {cls:=.type "tuple",data:=.seq rest.toArray} he;have hz:0<vs.size:=(Array.getElem?_eq_some_iff.mp h0).1
 repeat (first|with_reducible refine jX c hd h0 ?_|with_reducible refine yG c hd hz ?_|with_reducible refine kX ?_|wp_step)
 refine j _ h.objs.size (λb o m q=>?_) ?_
 .rw[zv _ _ (jy m)];exact qk _ q
 .exact zz _ c (yC (jh hd _))
end
inductive E6(K:Frag)(Q:VK)(vs:qb V)(H1:Hp):Prop
 |mk:∀a v C d,vs=[.ref a,v]->H1 a=some (Vz C d a)->Af K C->Q .non H1->E6 K Q vs H1
def ae(K:Frag)(t:TA):TE:=λσ H Q=>t σ H λvs H1=>E6 K Q vs H1
section
variable {X:Cx}{e:Expr}{es:qb Expr}{t:TA}{apos pos np:Pos}{x:qc}{B:qd}
def Mi{pl:Sem Bool}(K:Gl X x)(g:X.mg x=some (.ref B))(c:cF X.K B)(L:PA X (e::es) t)
 (i:(x==("__debug__":qc))=false:=by decide)
 (j:starEach (e::es) X.env=(false,eval e X.env)::starEach es X.env:=by rfl) (k:(backTo pos (starEach es X.env)).any (·.1)=false:=by rfl)
 (M:eval (.Call (.Attribute (.Name x np) "__init__" apos) (e::es) [] pos) X.env=(do
   let A <-eval (.Name x np) X.env
   standAt apos.atName
   let (f,first) <-holding [A] (getMethod A "__init__" pl)
   callWith pos f first (backTo pos (starEach (e::es) X.env)) (backToKw pos (keywordEach [] X.env))):=by rfl) :
 PE X (.Call (.Attribute (.Name x np) "__init__" apos) (e::es) [] pos) (ae X.K t):=by
 intro pins s σ H Q I h;refine methodCall_KW (pl:=pl) (zS (BK (v:=.ref B) K g rfl i pins s σ H (λv H1=>v=.ref B/\H1=H) I ⟨U,U⟩) λu s1 ⟨y,H1,l,N,O,m⟩=>?_) M;subst O m;obtain rfl:u=Value.ref B:=N;refine method_cls l.yz c.ga (cls_value l.yz c.rd c.fc rfl ?_);have P:Inv X pins σ H1 {s1 with toks:=s1.toks+1}:=l.tok _;refine wV (zS (L pos pins _ σ H1 _ P h) λus s2 ⟨vs,H2,n,r,a,v,C,d,ev,p,R,q⟩=>?_) j k;subst ev;obtain⟨S,T,rfl,V,r1⟩:=E5 r;obtain rfl:S=Value.ref a:=V;obtain⟨⟨o,Y,a0,e1,D,Z,E,e5,F⟩,_⟩:=(show QY X.prog X.w H2 s2.heap a (Vz C d a) from n.hok a _ p);obtain⟨h3,g3,d3,t3,w⟩:=s2;refine ES (rest:=[T]) R n.yz e1 D E F Uv λh' tp kp G=>?_;have m:upd H2 a (Vz C d a)=H2:=by
  funext b;by_cases z:b=a
  .subst z;rw[Qg,p]
  .rw[Qj z]
 have hsz:0<Y.size:=(Array.getElem?_eq_some_iff.mp F).1;have J:Inv X pins σ (upd H2 a (Vz C d a)) {({heap:=h3,gens:=g3,drawn:=d3,toks:=t3,os:=w}:Shared) with heap:=h',toks:=t3}:=
  n.write (x:=a) (e:=a) (by rw[p];exact True.intro) (.inl rfl) kp ⟨_,G⟩ (B3 ⟨_,_,tp,G,(kW _ _).trans D,(Nd o).1.trans Z,jh E _,by
   rw[Array.getElem?_setIfInBounds_ne ∅];exact e5,by simp[hsz]⟩)
 rw[m] at J;exact⟨.non,H2,J,U,q⟩
end
section
variable {prog:Program}{w:World}{A:Around}{E:qg}{h:Heap}{g:Array GenState}{d:Drawn}{t:Nat}{os:OsState}{K:Frag}{C f:qd}
def Am{rest:qh}{Q:Fin->Shared->Prop}(x:Af K C)(X:K.In h)(m:Xh K C "__init__" f)(i:rest.length<=sizeLine)
 (p:∀h' e,Heap.MadeExcOf h h' e (.ref C) rest->wpAny (model prog w) A (call (.ref f) (.ref e::rest)) (λr s'=>r=.none/\Q (.done (.ret (.ref e))) s') E ⟨h',g,d,t,os⟩) :
 wpAny (model prog w) A (Builtin.«type.__call__» ⟨.ref C::rest,[]⟩) Q E ⟨h,g,d,t,os⟩:=by
 obtain⟨bm,N,nm,q,bs,n,sn,sub,y,col,dd,z,B,D,G,H,k,T⟩:=x.obj X;have F:=excBase_ValueError
 repeat (first|with_reducible refine j6 k ?_|with_reducible refine wpAny_madeBy_exc k ?_|wp_step)
 refine codeAny_call_builtin_code (yt _ F.quiet) (wpAny_check_new_subU F F.hasB T k ?_);refine codeAny_exc_new_subU F F.hasB F T k ?_ i;show wpAny _ _ _ _ _ _;have j:=qk {cls:=.ref C,data:=.fields #[.ref h.objs.size,.none,.none,.none,.bool false,.none]}
  (qk {cls:=.type "tuple",data:=.seq rest.toArray} k)
 have a:K.In ((h.push {cls:=.type "tuple",data:=.seq rest.toArray}).push {cls:=.ref C,data:=.fields #[.ref h.objs.size,.none,.none,.none,.bool false,.none]}):=
  X.keeps λb o e=>qk _ (qk _ e)
 have c:((h.push {cls:=.type "tuple",data:=.seq rest.toArray}).push
  {cls:=.ref C,data:=.fields #[.ref h.objs.size,.none,.none,.none,.bool false,.none]}).get? (h.objs.size+1)=some
  {cls:=.ref C,data:=.fields #[.ref h.objs.size,.none,.none,.none,.bool false,.none]}:=by heap_get
 have l:(Value.ref C::bm).contains (.ref C)=true:=by simp
 unfold isInstance
 repeat (first|with_reducible refine j6 c ?_|(with_reducible refine kf j ?_;rw[l])|wp_step)
 show wpAny _ _ (typeLookup (.ref C) _) _ _ _;refine(looks_findIn a m.at_).at ?_;refine zR (qj ?_);unfold bindSpecial;refine qj ((PySem.W.looks_typeIn a (jm.mp m.fn)).at ?_);rw[qG ∅];refine qu (qj (zt (p _ (h.objs.size+1) ⟨λb o s=>qk _ (qk _ s),xJ (zC _),h.objs.size,c,xJ (qp _),?_⟩) (λr s' u=>?_) λ_ _ x=>x))
 .exact qk _ (Heap.get?_push_at rfl rfl)
 .obtain⟨rfl,v⟩:=u
  wp_walk
  exact v
def NL{rest:qh}{Q:qg}(x:Af K C)(X:K.In h)(m:Xh K C "__init__" f)(a:rest.length<=sizeLine)
 (i:∀h' e,Heap.MadeExcOf h h' e (.ref C) rest->wpAny (model prog w) (A.under (.builtin "type.__call__" ⟨.ref C::rest,[]⟩)) (call (.ref f) (.ref e::rest)) (λr s'=>r=.none/\Q (.ref e) s') E ⟨h',g,d,t,os⟩) :
 wpAny (model prog w) A (call (.ref C) rest) Q E ⟨h,g,d,t,os⟩:=by
 obtain⟨bm,N,nm,q,bs,c,sn,sub,j,col,dd,k,l,n,o,p,b,T⟩:=x.obj X;have f1:=tc_lookup;have f2:=tc_bind (.ref C);have s:(⟨h,g,d,t,os⟩:Shared).TypeIs (.ref C) "type":=⟨_,b,U⟩;refine jH (xZ ?_);show wpAny _ _ (callAny (.ref C) _) _ _ _
 repeat (any_goals (first|assumption|with_reducible refine j6 b ?_|wp_step))
 refine⟨U,?_⟩;refine codeAny_call_builtin_at (yt _ ∅) entry_typeCall (wpAny_check_type_call_sub b (Am x X m a λh' e hm=>?_));exact i h' e hm
def HJ{M:Model}{s:Shared}{env:Env}{y:Sem qe}{Q:Flow->Shared->Prop}(x:Af K C)(k:A.handled=none)
 (h:wpAny M A y (λv a=>∃e c vs,v=.ref e/\K.In a.heap/\a.heap.get? e=some c/\c.cls=.ref C/\c.data=.fields vs/\vs[1]?=some .none/\E (.ref e) a) E s) :
 wpAny M A (raiseStmt env (some y) none) Q E s:=by
 unfold raiseStmt;refine qj (zt h (λv a b=>?_) λ_ _ x=>x);obtain⟨e,c,vs,rfl,X,he,hc,hd,l,m⟩:=b;obtain⟨bm,N,nm,q,bs,i,sn,sub,n,col,dd,o,p,r,t,u,j,T⟩:=x.obj X;have f:(Value.ref C::bm).contains (.type "BaseException")=true:=by rw[vZ,T.hasType excBase_ValueError.hasBase,Bool.or_true]
 obtain⟨w,g,d,z,os⟩:=a
 repeat (first|with_reducible refine jX he hd l ?_|(with_reducible refine j6 he ?_;first|rw[hc]|rw[hd])|with_reducible refine j6 j ?_|(with_reducible refine kf j ?_;rw[f])|wp_step)
 exact wpAny_raiseNew_none k m
end
variable {C e:qd}
def Bw(C:qd)(sp:Sp)(t:TA):TE:=λσ H Q=>t σ H λvs H1=>vs.length<=sizeLine/\∀e,H1 e=none->sp (.ref e::vs) (upd H1 e (Vz C none e)) (λv H2=>v=.non/\Q (.ref e) H2) E0
section
variable {X:Cx}{k:Nat}{f C:qd}{fd:FuncData}{ps:qf}{sp:Sp}{x:qc}{p pos:Pos}{e:Expr}{es:qb Expr}{t:TA}
def HH{pins:qb (qd×Obj)}{σ:St}{H:Hp}{s:Shared}{Q:VK}{us:qh}{vs:qb V}(y:Af X.K C)(m:Xh X.K C "__init__" f)(F:Y6 X.prog X.w X.K X.mg X.base jx k f fd ps sp)(A:QF (k+1) X.A)(B:Yl X.K fd ps [])(hex:X.ex=[])
 (I:Inv X pins σ H s) (r:QD vs us) (D:vs.length<=sizeLine) (h:∀e,H e=none->sp (.ref e::vs) (upd H e (Vz C none e)) (λv H2=>v=.non/\Q (.ref e) H2) E0) :
 wpAny (model X.prog X.w) X.A (call (.ref C) us) (EP X pins σ Q) X.xe s:=by
 obtain⟨T,g,d,t,os⟩:=s;refine NL y I.yz m (by rw[<-r.length];exact D) λh' e hm=>?_;have l:H e=none:=by
  cases z:H e with
  |none=>rfl
  |some u=>
   obtain⟨b,a⟩:=(I.hok e u z).there;rw[hm.new] at a;cases a
 have a:=I.base;rw[hex] at a;have E:X.s₀.heap.get? e=none:=by
  cases z:X.s₀.heap.get? e with
  |none=>rfl
  |some o=>
   obtain⟨i,b⟩:=a.there e o z nofun;rw[hm.new] at b;cases b
 have G:e≠X.env.locals:=λz=>by
  obtain⟨j,i,_⟩:=I.loc;obtain⟨n,_,_,b,_⟩:=i;rw[<-z,hm.new] at b;cases b
 have J:∀x c,X.env.cells.lookup x=some c->c≠e:=λx c hc z=>by
  obtain⟨v,o,b,_⟩:=I.cell x c hc;rw[z,hm.new] at b;cases b
 have K:∀p∈X.pn++pins,p.1≠e:=λp L z=>by
  obtain⟨b,_⟩:=I.pin p L;rw[z,hm.new] at b;cases b
 have M:Inv X pins σ H ⟨h',g,d,t,os⟩:=I.call' (s':=⟨h',g,d,t,os⟩) (ch:=[]) rfl (Un.kept hm.keeps) (I.hok.kept hm.keeps) I.bare nofun;obtain⟨N,he,_,_⟩:=hm.there;have i:Inv X pins σ (upd H e (Vz C none e)) ⟨h',g,d,t,os⟩:=M.track l E G J K (B3 ⟨_,_,N,he,U,U,U,U,U⟩);have n:=h e l;have q:QD (V.ref e::vs) (Value.ref e::us):=.cons rfl r;have j:(Value.ref e::us++[]).length=ps.length:=by
  have e:=q.length;rw[F.len _ _ _ _ n] at e;rw[ze];exact e.symm
 have w:=B _ (Value.ref e::us) i.yz j;rw[ze] at w;refine jH (zT (F.run _ X.stack _ _ ⟨Value.ref e::us,[]⟩ (Value.ref e::us) _ _ E0 (A.make C us []) (i.env0.make C us []) w q n) λr s' b=>?_)
 cases r with
 |error e=>exact False.elim b
 |ok O=>
  cases O with
  |ret u=>
   obtain⟨v,H',P,R,ev,S⟩:=i.after b;subst ev;exact⟨R,⟨V.ref e,H',P,U,S⟩⟩
  |next=>exact False.elim b
  |brk=>exact False.elim b
  |cont=>exact False.elim b
def UM(d:Af X.K C)(m:Xh X.K C "__init__" f)(g:keepIn X.K (.ref C)=true)(F:Y6 X.prog X.w X.K X.mg X.base jx k f fd ps sp)(i:QF (k+1) X.A)(j:Gl X x)(hm:X.mg x=some (.ref C))(l:Yl X.K fd ps [])(hex:X.ex=[])
 (n:PA X (e::es) t) (a:(x==("__debug__":qc))=false:=by decide) (he:starEach (e::es) X.env=(false,eval e X.env)::starEach es X.env:=by rfl) (b:(backTo pos (starEach es X.env)).any (·.1)=false:=by rfl) :
 PE X (.Call (.Name x p) (e::es) [] pos) (Bw C sp t):=by
 intro pins s σ H Q I h;refine zM (UZ I j hm ?_ a);refine callWith_K (h₀:=X.base) I.ok.mod.vh g (zS (n pos pins s σ H _ I h) λus s1 ⟨vs,H1,c,r,o,q⟩=>⟨c.yz,?_⟩) he b;exact HH d m F i l hex c r o q
end
def we(H:Hp)(e:qd):Hp:=λb=>if b=e then none else H b
def Wv(H:Hp)(e:qd):we H e e=none:=by unfold we;rw[qG rfl]
def Vn(H:Hp){b:qd}(n:b≠e):we H e b=H b:=by unfold we;rw[qz n]
inductive XQ(C:qd)(H₀:Hp)(E:XK)(v:V)(H1:Hp):Prop
 |mk:∀e d,v=.ref e->H1 e=some (Vz C d e)->H₀ e=none->E (.ref C) d (we H1 e)->XQ C H₀ E v H1
def KQ(C:qd)(H₀:Hp)(E:XK)(a:TE):TS:=λ_ σ H=>a σ H λv H1=>XQ C H₀ E v H1
section
variable {P:Program}{w:World}{K:Frag}{mg:qc->Option qe}{base:Heap}{N:qf}{qual:qc}{scope:Scope}{f:qd}{cd:qe}{A:Around}{outer:qb Env}{s:Shared}{H:Hp}{E:XK}
def yu.we{h:Heap}{H:Hp}{d:Option qd}(x:yu P w H h)(he:H e=some (Vz C d e)):yu P w (we H e) h:=λa o q=>by
 have n:a≠e:=λz=>by rw[z,Wv] at q;cases q
 rw[Vn H n] at q;refine(x a o q).stay (λ_ _ _ z=>z) (λb z=>?_) λb xs z=>?_
 .rw[Vn H (λy=>by rw[y,he] at z;cases z)];exact z
 .rw[Vn H (λy=>by rw[y,he] at z;cases z)];exact z
def Pu{pins:qb (qd×Obj)}{σ:St}{H1:Hp}{s2:Shared}{d:Option qd}(v:H e=none)(I:Inv (Ua (yZ P w) P w K mg base N qual scope f cd A outer s H E) pins σ H1 s2)(he:H1 e=some (Vz C d e))(q:E (.ref C) d (we H1 e)) :
 (Ua (yZ P w) P w K mg base N qual scope f cd A outer s H E).xe (.ref e) s2:=by
 obtain⟨⟨l,vs,x,m,B,D,F,G,J⟩,_⟩:=(show QY P w H1 s2.heap e (Vz C d e) from I.hok e _ he);have X:e∉frs (Ua (yZ P w) P w K mg base N qual scope f cd A outer s H E).stack:=λz=>by
  have:=I.xT e z;rw[he] at this;cases this
 have L:(hideAll s2.heap (e::frs (Ua (yZ P w) P w K mg base N qual scope f cd A outer s H E).stack)).StaysIn s2.heap:=λb o q=>of_hideAll _ q;have M:=PySem.W.funFrames_hide (as:=e::frs (Ua (yZ P w) P w K mg base N qual scope f cd A outer s H E).stack) I.stack λenv he b c=>qt _ (ye.mpr ⟨env,he,c⟩);refine VW (d:=d) (G1 _ _) ⟨l,m,D⟩ (zt (wpAny_leaving_firstW (Q:=λ_ s3=>∃h,s3={s2 with heap:=h}/\Heap.LeftW (hideAll s2.heap (e::frs (Ua (yZ P w) P w K mg base N qual scope f cd A outer s H E).stack)) (Ua (yZ P w) P w K mg base N qual scope f cd A outer s H E).stack e l.cls (.ref x) s2.heap h) I.ok.frames M rfl m L (hideAll_none _ (.head _)) F G J λh' z=>⟨h',rfl,z⟩) (λ_ s3 z O=>?_) λ_ _ z _=>z);obtain⟨h,rfl,g,⟨_,_,R⟩,p,S⟩:=z;rw[B] at p;have a:Un (frs outer) [] H H1 s.heap s2.heap:=I.base;have r:s.heap.get? e=none:=by
  cases z:s.heap.get? e with
  |none=>rfl
  |some o=>
   have:=a.free e o z v nofun;rw[he] at this;cases this
 have i:Un (frs outer) [] H (we H1 e) s.heap s2.heap:=by
  have j:∀b o,H1 b=some o->(∀t,o≠.ext t)->b≠e:=λb o q T z=>by
   rw[z,he] at q
   injection q with q
   exact T _ q.symm
  exact⟨a.keep,a.slot,λb o q n V=>by
   have:=a.free b o q n V;by_cases z:b=e
   .rw[z,Wv]
   .rw[Vn _ z];exact this,a.there,λb xs q=>by rw[Vn _ (j b _ (a.tups b xs q) λ_ z=>nomatch z)];exact a.tups b xs q,λb o u q=>by rw[Vn _ (j b _ (a.xx b o u q) λ_ z=>nomatch z)];exact a.xx b o u q,λb ps q=>by
    obtain⟨more,k⟩:=a.xS b ps q;exact⟨more,by rw[Vn _ (j b _ k λ_ z=>nomatch z)];exact k⟩⟩
 have j:∀b,b∈frs outer->b∈frs (Ua (yZ P w) P w K mg base N qual scope f cd A outer s H E).stack:=λb c=>by
  obtain⟨env,k,t⟩:=ye.mp c;exact ye.mpr ⟨env,qt _ k,t⟩
 have ct:gw (we H1 e) s2.heap (hideAll s2.heap (e::frs (Ua (yZ P w) P w K mg base N qual scope f cd A outer s H E).stack)):=λb o n q=>hideAll_get _ q λz=>by
  rcases qy.mp z with z|z
  .exact n (by rw[z,Wv])
  .refine n ?_;by_cases y:b=e
   .rw[y,Wv]
   .rw[Vn _ y];exact I.xT b z
 have t:Cov (frs outer) H s.heap (hideAll s2.heap (e::frs (Ua (yZ P w) P w K mg base N qual scope f cd A outer s H E).stack)):=λb o q nb=>by
  obtain⟨T,e1⟩:=a.there b o q nofun;have be:b≠e:=λz=>by rw[z,r] at q;cases q
  have k:b∉e::frs (Ua (yZ P w) P w K mg base N qual scope f cd A outer s H E).stack:=λz=>by
   rcases qy.mp z with z|z
   .exact be z
   .exact(qy.mp (I.kb b z)).elim (λz=>absurd (qE (qI q) I.ok.above) (by rw[z];exact zw _)) nb
  refine⟨T,hideAll_get _ e1 k,λn=>?_⟩;have:=a.keep b o q n nb nofun;rw[e1] at this;cases this;rfl
 have hok:=I.hok.we he;exact⟨e,C,we H1 e,d,U,⟨I.os,I.bare,i.flown t g S λb c=>I.gQ b (j b c),hok.flown ct g,Wv _ _,r,_,_,⟨g,hideAll_none _ (.head _),R,p⟩,t,ct.flown hok g⟩,O,q⟩
def Um{exc:Expr}{pos:Pos}{g:TE}(j:Af K C)(k:A.handled=none)(he:PE (Ua (yZ P w) P w K mg base N qual scope f cd A outer s H E) exc g):PS (Ua (yZ P w) P w K mg base N qual scope f cd A outer s H E) (.Raise (some exc) none pos) (KQ C H E g):=by
 intro pins s0 σ l D I h;rw[arm_exec_Raise];refine qj (gg (HJ j k (qj (zt (he pins s0 σ l _ I h) (λv a b=>qj (gg (qu ?_))) λ_ _ x=>x))));obtain⟨y,H1,c,m,e,d,ev,i,n,q⟩:=b;subst ev;obtain rfl:v=Value.ref e:=m;obtain⟨⟨o,vs,z,p,r,B,t,u,F⟩,_⟩:=(show QY P w H1 a.heap e (Vz C d e) from c.hok e _ i);exact⟨e,o,vs,U,c.yz,p,r,t,u,Pu n c i q⟩
end
inductive Fg(Q:VK)(v:V)(H1:Hp):Prop
 |mk:∀y:qc,v=.str y->(reprText y).length<=sizeLine->Q (.str (reprText y)) H1->Fg Q v H1
def P8(a:TE):TE:=λσ H Q=>a σ H λv H1=>Fg Q v H1
def WJ{X:Cx}{e:Expr}{a:TE}{pos:Pos}(he:PE X e a):PE X (.FormattedValue e 114 none pos) (P8 a):=by
 intro pins s σ H Q I q;refine wpAny_FormattedValue_repr (zS (he pins s σ H _ I q) λu s1 ⟨v,H1,b,r,y,ev,hz,c⟩=>?_);subst ev;obtain⟨d,rfl⟩:=r;exact wpAny_pyReprObj_str (wpAny_formatField_str ⟨.str _,H1,b.tok _,⟨_,U⟩,c⟩ ⟨.str _,H1,(b.tok _).tok _,⟨_,U⟩,c⟩ hz) hz
def PAT(X:Cx)(a:qb Expr)(t:TA):Prop:=
 ∀(pos:Pos)(pins:qb (qd×Obj))(s:Shared)(σ:St)(H:Hp)(Q:qb V->Hp->Prop),Inv X pins σ H s->0<s.toks->t σ H Q->wpAny (model X.prog X.w) X.A (spliced (backTo pos (starEach a X.env))) (AP X pins σ Q) X.xe s
def PEz(X:Cx)(e:Expr)(t:TE):Prop:=
 ∀(pins:qb (qd×Obj))(s:Shared)(σ:St)(H:Hp)(Q:VK),Inv X pins σ H s->t σ H Q->wpAny (model X.prog X.w) X.A (eval e X.env) (λu s'=>EP X pins σ Q u s'/\0<s'.toks) X.xe s
section
variable {X:Cx}{e o a b:Expr}{es:qb Expr}{te ta tb to:TE}{t:TA}{pos p apos cpos:Pos}{x name:qc}{st:Stmt}{rest:qb Stmt}{ts u:TS}
def PA.toT(h:PA X es t):PAT X es t:=λpos pins s σ H Q I _ q=>h pos pins s σ H Q I q
def Mv(a:PET X e te)(b:PAT X es t)(c:starEach (e::es) X.env=(false,eval e X.env)::starEach es X.env:=by rfl):PAT X (e::es) (WY te t):=by
 intro pos pins s σ H Q I h0 h;rw[c];show wpAny _ _ (spliced ((false,eval e X.env)::backTo pos (starEach es X.env))) _ _ s;refine zA (XO (a pins s σ H _ I h0 h) λu s1 d ⟨x,H1,f,g,i⟩=>?_);exact zS (b pos pins s1 σ H1 _ f (qE h0 d) i) λus s2 ⟨xs,H2,j,k,l⟩=>⟨x::xs,H2,j,.cons g k,l⟩
def OJ{i:Nat}{pos':Pos}(a:X.N.Nodup)(hi:X.N[i]?=some x)(b:Loc X.env.scope x)(he:PET X e te)(c:swapsWith e (some (.Name x pos')) pos.line X.env=pure false:=by rfl)(hf:X.fn x=true\/X.env.scope.names.lookup x=some .local:=by first|exact .inl rfl|exact .inr rfl|assumption) :
 PST X (.Assign [.Name x pos'] e pos) (Ls te (XB i)):=by
 intro pins s σ H D I h0 h;refine wpAny_Assign_Name (zS (he pins s σ H _ I h0 h) λv s1 ⟨y,H1,d,f,g⟩=>?_) c;exact V5 d a hi b f (λs2 j=>⟨_,H1,j,g⟩) hf
def Mb(h:PST X st ts):Ce X [st] (Hz ts P6):=WG h Qq
def Sq{T id:String}{r:V->qb V->Hp->VK->Prop}(j:PlainAttrs T)(slot:Slot T name id)(d:typeOf (.builtin id)=pure (.type "method_descriptor"))(hm:vz X id r)(k:PE X o to)(l:PAT X (e::es) t)
 (a:attributeBase o name X.env (eval o X.env)=eval o X.env:=by rfl)
 (c:((backTo cpos (starEach (e::es) X.env)).all (λx=>!x.1)&&(backToKw cpos (keywordEach [] X.env)).all (λx=>x.1.isSome)
   &&decide ((e::es).length+([]:qb Keyword).length+(if ([]:qb Keyword).isEmpty then 0 else 1)<30))=true:=by rfl)
 (b:(apos.endLine==cpos.line)=true:=by rfl) (m:starEach (e::es) X.env=(false,eval e X.env)::starEach es X.env:=by rfl) (hplain:(backTo cpos (starEach es X.env)).any (·.1)=false:=by rfl) :
 PET X (.Call (.Attribute o name apos) (e::es) [] cpos) (tBM X.K T r to t):=by
 intro pins s σ H Q I h0 h;refine vH a c b rfl (XO (k pins s σ H _ I h) λv s1 n ⟨x,H1,f,g,ty,p⟩=>?_);obtain⟨q,u⟩:=D7 f g ty;refine⟨T,id,j,slot,d,q,u,?_⟩;have i:=l cpos pins s1 σ H1 _ f (qE h0 n) p;rw[m] at i⊢;refine jA (by show(false||(backTo cpos (starEach es X.env)).any (·.1))=false;rw[hplain]<;>rfl) (jY ?_);exact zS i λus s2 ⟨vs,H2,w,y,z⟩=>hm pins s2 σ H2 x vs v us Q w g y z
end
section
variable {X:Cx}{CX:vj}{k:Nat}{f:qd}{fd:FuncData}{ps:qf}{ds:qh}{yO:qb V}{sp:Sp}{E:XK}{x:qc}{p pos:Pos}{e a b:Expr}{es:qb Expr}{te ta tb:TE}{t:TA}
def HN(F:Ah X.prog X.w X.K X.mg X.base CX k f fd ps sp)(j:QF k X.A)(l:Gl X x)(hm:X.mg x=some (.ref f))(m:keepIn X.K (.ref f)=true)(n:Yl X.K fd ps ds)(hd:QD yO ds)(o:US CX X E)
 (v:PAT X (e::es) t) (d:(x==("__debug__":qc))=false:=by decide) (he:starEach (e::es) X.env=(false,eval e X.env)::starEach es X.env:=by rfl) (g:(backTo pos (starEach es X.env)).any (·.1)=false:=by rfl) :
 PET X (.Call (.Name x p) (e::es) [] pos) (AE sp yO E t):=by
 intro pins s σ H Q I a h;refine zM (UZ I l hm ?_ d);refine callWith_K (h₀:=X.base) I.ok.mod.vh m (XO (v pos pins s σ H _ I a h) λus s1 w ⟨vs,H1,b,r,q⟩=>⟨b.yz,?_⟩) he g;have i:QD (vs++yO) (us++ds):=r.append hd;have y:(us++ds).length=ps.length:=by rw[<-i.length];exact F.len _ _ _ _ q
 refine jH (zT (F.run X.A X.stack s1 H1 ⟨us,[]⟩ (us++ds) (vs++yO) Q E j b.env0 (qE a w) (n s1 us b.yz y) i q) λr s' c=>?_)
 cases r with
 |error e=>exact o pins σ H1 s1 e s' b c
 |ok z=>
  cases z with
  |ret u=>exact b.after c
  |next=>exact False.elim c
  |brk=>exact False.elim c
  |cont=>exact False.elim c
def OO{x:qc}{j}:PEz X (.Constant (.str x) j pos) (tC (.str x)):=λ_ _ _ H _ I h=>jR ⟨⟨.str x,H,I.tok _,⟨_,U⟩,h⟩,Nat.succ_pos _⟩
def PTz(X:Cx)(e:Expr)(t:TT):Prop:=
 ∀(pins:qb (qd×Obj))(s:Shared)(σ:St)(H:Hp)(Q:Bool->Hp->Prop),Inv X pins σ H s->t σ H Q->wpAny (model X.prog X.w) X.A (isTrue e X.env (eval e X.env)) (λb s'=>TP X pins σ Q b s'/\0<s'.toks) X.xe s
def L9{op:CmpOp}{r:R2}(d:xf X (compareOp op) r)(f:PE X a ta)(g:PEz X b tb)(hm:behindInMarks op b=false):PTz X (.Compare a [op] [b] pos) (Lh (tOp r ta tb)):=by
 intro pins s σ H Q I h;refine wpAny_isTrue_Compare1 (zS (f pins s σ H _ I h) λv s1 ⟨x,H1,i,j,l⟩=>zS (g pins s1 σ H1 _ i l) λu s2 ⟨⟨y,H2,m,n,o⟩,p⟩=>
  XO (d pins s2 σ H2 x y v u _ m j n o) λc s3 q ⟨z,t,w,A,k,e,B⟩=>?_) hm
 subst e;cases A;exact zQ ⟨⟨t,w,B⟩,qE p q⟩
def So{c:Expr}{a b:qb Stmt}{e:TT}{t u:TS}(hc:PTz X c e)(i:Ce X a t)(j:yV X b u):PS X (.If c a b pos) (RU e t u):=by
 intro pins s σ H D I h;refine wpAny_If (zS (hc pins s σ H _ I h) λd s1 ⟨⟨H1,f,g⟩,k⟩=>?_)
 cases d with
 |true=>exact i pins s1 σ H1 D f k (by simpa using g)
 |false=>exact j pins s1 σ H1 D f (by simpa using g)
def Ma(he:PET X e te)(a:swapsWith e none pos.line X.env=pure false:=by rfl):PST X (.Expr e pos) (Ra te):=by
 intro pins s σ H D I h0 h;exact wpAny_Expr_any (zS (he pins s σ H _ I h0 h) λv s1 ⟨x,H1,b,d,c⟩=>⟨σ,H1,b,c⟩) I.quiet a
def Mg{C:qd}(M:Mk X.K C f)(F:Ah X.prog X.w X.K X.mg X.base CX k f fd ps sp)(m:QF (k+1) X.A)(n:Gl X x)(hm:X.mg x=some (.ref C))(o:Yl X.K fd ps [])(q:US CX X E)
 (w:PA X (e::es) t) (g:(x==("__debug__":qc))=false:=by decide) (he:starEach (e::es) X.env=(false,eval e X.env)::starEach es X.env:=by rfl) (i:(backTo pos (starEach es X.env)).any (·.1)=false:=by rfl) :
 PET X (.Call (.Name x p) (e::es) [] pos) (Ll C sp [] E t):=by
 intro pins s σ H Q I h0 h;refine zM (UZ I n hm ?_ g);refine callWith_K (h₀:=X.base) I.ok.mod.vh M.kp (XO (w pos pins s σ H _ I h) λus s1 y ⟨vs,H1,b,r,h⟩=>⟨b.yz,?_⟩) he i;have j:=h (s1.heap.objs.size+1) s1.heap.objs.size (b.hok.fresh (zC _)) (b.hok.fresh (qp _)) (qR (zN _));rw[ze] at j;have d:=Inv.made (C:=C) b;have l:QD (V.ref (s1.heap.objs.size+1)::vs) (Value.ref (s1.heap.objs.size+1)::us):=.cons rfl r;have z:(Value.ref (s1.heap.objs.size+1)::us).length=ps.length:=by
  have e:=l.length;rw[F.len _ _ _ _ j] at e;exact e.symm
 have c:=o _ (Value.ref (s1.heap.objs.size+1)::us) d.yz (by rw[ze];exact z);rw[ze] at c;refine jH (C9 (f:=f) b.yz M.makes M.init (jm.mp M.fn) (zT (F.run _ X.stack _ _ ⟨Value.ref (s1.heap.objs.size+1)::us,[]⟩ (Value.ref (s1.heap.objs.size+1)::us) _ _ E (m.make C us [])
  (d.env0.make C us []) (qE h0 y) c l j) λr s' a=>?_))
 cases r with
 |error e=>exact q pins σ _ _ e s' d a
 |ok A=>
  cases A with
  |ret u=>
   obtain⟨v,H',B,D,ev,G⟩:=d.after a;subst ev;exact⟨D,⟨V.ref (s1.heap.objs.size+1),H',B,U,G⟩⟩
  |next=>exact False.elim a
  |brk=>exact False.elim a
  |cont=>exact False.elim a
end
section
variable {P:Program}{w:World}{K:Frag}{mg:qc->Option qe}{base:Heap}{N:qf}{qual:qc}{f:qd}
def kL.okXDT{x:qc}{st:Stmt}{fd:FuncData}{ps:qf}{k:Nat}{sp:Sp}(F:kL K x qual st f fd)(S:Y5 N ps (Qr st))(len:∀vs H Q E,sp vs H Q E->vs.length=ps.length)
 (b:∀(a:qe)(A:Around)(outer:qb Env)(s:Shared)(H:Hp)(vs:qb V)(Q:VK)(E:XK),QF k (A.deeper (envOfC qual (Qr st) s.heap.objs.size f a))->sp vs H Q E ->
   ∃t,Ce (Ua (yZ P w) P w K mg base N qual (Qr st) f a A outer s H E) (QK st) t/\t {nx:=λ_ H'=>Q .non H',rt:=Q} (start N vs) H):Ah P w K mg base (yZ P w) (k+1) f fd ps sp:=by
 obtain⟨h,i,kV,doc,pm,an,a,ct,e,rfl,lk,c⟩:=F.ex;exact Nx lk c S len λA outer s H vs Q E g d=>b a A outer s H vs Q E g d
end
end L2
set_option maxHeartbeats 4000000
namespace L2
open PySem PySem.Spec PyProof.Rows
open AutoSeq1 (wpAny_loadPart')
section
variable {prog:Program}{w:World}{A:Around}{E:qg}{s:Shared}
def DO{T newId initId:String}{q t:Builtin}{args:qh}{kw:qb (qc×qe)}{S:PySem.Spec}{Q Q₁:qg}(d:TypeCalled T newId initId)
 (x:checkTypeCall T ⟨args,kw⟩=pure ()) (l:checkBuiltinCall newId ⟨.type T::args,kw⟩=pure ())
 (entryN:entryFor table newId=some q) (entryI:entryFor table initId=some t) (g:Meets (q ⟨.type T::args,kw⟩) S)
 (h:S A.in1 (wants Q₁ E) s)
 (i:∀obj a,Q₁ obj a->a.TypeIs obj T/\argsOk initId ⟨obj::args,kw⟩/\∃m,Meets (t ⟨obj::args,kw⟩) m/\m A.in1 (wants (λr f=>r=.none/\Q obj f) E) a) :
 wpAny (model prog w) A (call (.type T) args kw) Q E s:=by
 obtain⟨c,G,u⟩:=d.mro;have n:=d.made;have v:=d.sub;refine jH (xZ ?_);show wpAny _ _ (callAny (.type T) _) _ _ _;refine qu ⟨yt _ ∅,jk F.entry_type_call ?_⟩;rw[Around.under_plain (vY T args kw) (units_type_call_type T args kw)];have H:=d.notType;have I:=d.canCreate
 repeat (any_goals (first|assumption|wp_step))
 refine zT (jg d.plain entryN (jq l (g prog w A.in1 _ s h))) λr a o=>?_
 cases r with
 |error e=>exact o
 |ok y=>
  cases y with
  |ret obj=>
   obtain⟨z,hok,m,B,p⟩:=i _ _ o;have C:=d.init.lookup;have D:=d.init.bind obj
   repeat (any_goals (first|assumption|wp_step))
   refine zT (jg d.init.plain entryI (d.init.check _ _ _ _ _ _ _ _ z hok (B prog w A.in1 _ a p))) λk f b=>?_
   cases k with
   |error e=>exact b
   |ok j=>
    cases j with
    |ret r=>
     obtain⟨rfl,J⟩:=b
     repeat (any_goals (first|assumption|wp_step))
    |_=>exact b.elim
  |_=>exact o.elim
def GO{T newId:String}{self:qe}{rest:qh}{kw:qb (qc×qe)}(e:typeLookup (.type T) "__init__"=pure (some (.builtin "object.__init__")))
 (hm:Bind.madeBy (.type T)=pure (some newId)) (c:(some newId != some "object.__new__")=true) :
 Meets (Builtin.«object.__init__» ⟨self::rest,kw⟩) (λ_ R s=>s.TypeIs self T/\R (.ok (.ret .none)) s):=by
 refine Meets.of_wp λprog w A R s d=>?_;obtain⟨f,b⟩:=d
 cases rest with
 |nil=>
  cases kw with
  |nil=>exact qu ⟨_,U,b⟩
  |cons a kw=>
   repeat (any_goals (first|assumption|wp_step))
   exact⟨_,U,b⟩
 |cons a rest=>
  repeat (any_goals (first|assumption|wp_step))
  exact⟨_,U,b⟩
def IL(a v:qe):checkTypeCall "enumerate" ⟨[a],[(Str.ofString "start",v)]⟩=pure ():=by kernel_rfl
def ND(a v:qe):checkBuiltinCall "enumerate.__new__" ⟨[.type "enumerate",a],[(Str.ofString "start",v)]⟩=pure ():=by kernel_rfl
def IK(obj a v:qe):argsOk "object.__init__" ⟨[obj,a],[(Str.ofString "start",v)]⟩:=by unfold argsOk;kernel_rfl
def X3(l:qd)(items:Array qe)(n:Nat)(b:Option qd)(sl:Array (Option qe))(t:Tok) :
 Meets (Builtin.«enumerate.__new__» ⟨[.type "enumerate",.ref l],[(Str.ofString "start",.int 1 t)]⟩) (λ_ R s=>s.heap.get? l=some {cls:=.type "list",dict:=b,data:=.seq items n,slots:=sl} /\
  R (.ok (.ret (.ref (s.heap.push {cls:=.type "list_iterator",data:=.fields #[.ref l,.int 0 0]}).objs.size)))
   {s with heap:=(s.heap.push {cls:=.type "list_iterator",data:=.fields #[.ref l,.int 0 0]}).push {cls:=.type "enumerate",data:=.fields #[.none,.bool false,.ref s.heap.objs.size,rawInt 1,.none,.none]}}):=
 .of_wp λprog w A R s h=>by
  obtain⟨i,g,d,j,os⟩:=s;obtain⟨f,h⟩:=h;have k:=sub_enumerate;have m:Heap.IsList (Shared.heap ⟨i,g,d,j,os⟩) l items:=⟨_,f,U,n,U⟩
  wp_walk using wpAny_loadPart' f
  refine wpAny_stack_any λst=>qu ?_;have fin:wpAny (model prog w) A.in1 (pyIter (.ref l)>>=λx=>Builtin.SmallTypes.newRecord (Value.type "enumerate") (Builtin.SmallTypes.ownedTupleFields++[x,rawInt 1,Value.none,Value.none])>>=λr=>ret r) (λfin s'=>∃v,fin=Fin.done (Flow.ret v)/\R (Except.ok (Flow.ret v)) s') (λe s'=>R (Except.error e) s') {heap:=i,gens:=g,drawn:=d,toks:=j,os:=os}:=by
   wp_walk using wpAny_loadPart' f,xj m
   exact⟨_,U,h⟩
  split
  .rename_i c _ _ _ _ _
   cases (c==Value.type "enumerate")
   .refine qj (jq (a:=(Value.ref l,some (Value.int 1 t))) (by kernel_rfl) ?_);refine qj (jq (a:=Value.int 1 t) (by kernel_rfl) ?_);refine qj (jq (a:=some (1:Int)) (by kernel_rfl) ?_);exact fin
   .refine qj (jq (a:=(Value.ref l,some (Value.int 1 t))) (by kernel_rfl) ?_);refine qj (jq (a:=Value.int 1 t) (by kernel_rfl) ?_);refine qj (jq (a:=some (1:Int)) (by kernel_rfl) ?_);exact fin
  .refine qj (jq (a:=(Value.ref l,some (Value.int 1 t))) (by kernel_rfl) ?_);refine qj (jq (a:=Value.int 1 t) (by kernel_rfl) ?_);refine qj (jq (a:=some (1:Int)) (by kernel_rfl) ?_);exact fin
def KG{l:qd}{items:Array qe}{t:Tok}{Q:qg}(f:s.heap.IsList l items)
 (h:∀h',IsEnum h' (s.heap.objs.size+1) s.heap.objs.size 1 .none->h'.IsListIter s.heap.objs.size l 0->h'.objs.size=s.heap.objs.size+2 ->
   (∀b o,s.heap.get? b=some o->h'.get? b=some o)->Q (.ref (s.heap.objs.size+1)) {s with heap:=h'}) :
 wpAny (model prog w) A (call (.type "enumerate") [.ref l] [(Str.ofString "start",.int 1 t)]) Q E s:=by
 obtain⟨⟨c,d,g,sl⟩,i,hc,n,hd⟩:=f;replace hc:c=.type "list":=hc;replace hd:g=.seq items n:=hd;subst hc hd;refine DO (Q₁:=λobj a=>a.TypeIs obj "enumerate"/\Q obj a) called_enumerate (IL _ _) (ND _ _) PySem.F.entry_enumerate_new PySem.F.entry_object_init (X3 l items n d sl t) ⟨i,?_⟩ λobj _ e=>
  ⟨e.1,IK obj _ _,_,GO called_enumerate.init.lookup called_enumerate.made ∅,e.1,U,e.2⟩
 have hz:(s.heap.push {cls:=.type "list_iterator",data:=.fields #[.ref l,.int 0 0]}).objs.size=s.heap.objs.size+1:=zY ..;show _/\_;rw[hz];have he:IsEnum ((s.heap.push {cls:=.type "list_iterator",data:=.fields #[.ref l,.int 0 0]}).push
  {cls:=.type "enumerate",data:=.fields #[.none,.bool false,.ref s.heap.objs.size,rawInt 1,.none,.none]}) (s.heap.objs.size+1) s.heap.objs.size 1 .none:=by
  have:=qK (s.heap.push {cls:=.type "list_iterator",data:=.fields #[.ref l,.int 0 0]})
   (o:={cls:=.type "enumerate",data:=.fields #[.none,.bool false,.ref s.heap.objs.size,rawInt 1,.none,.none]}) rfl
  rw[hz] at this;exact this
 refine⟨⟨_,he,U⟩,h _ he ⟨_,qk _ (qK _ rfl),U,U⟩ (by rw[zY,hz]) λb o x=>qk _ (qk _ x)⟩
end
end L2
set_option maxHeartbeats 400000
namespace L2
open PySem PySem.Spec PyProof.Rows
section
variable {prog:Program}{w:World}{A:Around}{E:qg}{s:Shared}
def Bt(e it:qd)(h h':Heap):Prop:=∀b o,b≠e->b≠it->h.get? b=some o->h'.get? b=some o
def Bt.trans{e it:qd}{h h' a:Heap}(p:Bt e it h h')(q:Bt e it h' a):Bt e it h a:=λb o c d x=>q b o c d (p b o c d x)
def Bt.l{e it:qd}{h h':Heap}(p:Heap.SameBut e h h'):Bt e it h h':=λb o a _ x=>p.extBut b o a x
def Bt.r{e it:qd}{h h':Heap}(p:Heap.SameBut it h h'):Bt e it h h':=λb o _ a x=>p.extBut b o a x
def EM{e it l:qd}{i j:Nat}{items:Array qe}{x old:qe}{Q:qg}
 (he:IsEnum s.heap e it j old) (hit:s.heap.IsListIter it l i) (H:s.heap.IsList l items) (L:items[i]?=some x) (c:e≠it)
 (M:∀h',IsEnumOut h' e it ((j:Int)+1) x s.heap.objs.size->h'.IsListIter it l (i+1)->h'.get? s.heap.objs.size=some {cls:=.type "tuple",data:=.seq #[.int j s.toks,x]}->h'.objs.size=s.heap.objs.size+1->Bt e it s.heap h'->Q (.ref s.heap.objs.size) {s with heap:=h',toks:=s.toks+1}) :
 wpAny (model prog w) A (Builtin.«enumerate.__next__» ⟨[.ref e],[]⟩) (λfin s'=>∃v,fin=.done (.ret v)/\Q v s') E s:=by
 have p:=qI he;have t:it<s.heap.objs.size:=let ⟨_,q,_⟩:=hit;qI q;refine qj (jq (a:=(Value.ref e,[])) rfl ?_);refine qj (jX he rfl (x:=.ref it) rfl (qj (wpAny_nextOf_list_item hit H L λg N k=>?_)));have e1:IsEnum g e it j old:=(k.2 e c).trans he;have O:g.objs.size=s.heap.objs.size:=k.1;have P:Bt e it s.heap g:=.r k;clear he hit H k;refine qj (jX (s:={s with heap:=g}) e1 rfl (x:=rawInt j) rfl (qj (jX (s:={s with heap:=g}) e1 rfl (x:=.none) rfl (qj (m:=mkInt j) (wpAny_mkInt ?_)))));refine qj (yW (s:={s with heap:=g,toks:=s.toks+1}) e1 (by simp) λI (R:IsEnum I e it ((j:Int)+1) old) u=>?_);refine qj (yW (s:={s with heap:=I,toks:=s.toks+1}) R (by simp) λn (S:IsEnum n e it ((j:Int)+1) old) y=>qj (wpAny_newTuple ?_));have z:n.objs.size=s.heap.objs.size:=(y.1.trans u.1).trans O;have T:=(N.extBut u.extBut (jy c)).extBut y.extBut (jy c);have V:Bt e it s.heap n:=P.trans ((Bt.l u).trans (.l y));dsimp only;obtain⟨f,d⟩:∃h,h=n.push {cls:=.type "tuple",data:=.seq #[.int j s.toks,x]}:=⟨_,U⟩;have B:IsEnum f e it ((j:Int)+1) old:=d▸qk _ S;have X:f.IsListIter it l (i+1):=let ⟨o,q,r⟩:=T;⟨o,d▸qk _ q,r⟩;have Y:f.get? s.heap.objs.size=some {cls:=.type "tuple",data:=.seq #[.int j s.toks,x]}:=by rw[<-z,d];exact qK _ rfl
 have Z:f.objs.size=s.heap.objs.size+1:=by rw[d,zY,z]
 have k4:Bt e it s.heap f:=V.trans λb o _ _ q=>d▸qk _ q;rw[z,<-d];unfold Builtin.SmallTypes.ownedTupleIsFree Builtin.SmallTypes.ownedTupleHandOut;refine qj (qj (jX (s:={s with heap:=f,toks:=s.toks+1}) B rfl (x:=.none) rfl (qu ?_)));simp only[yH];refine qj (xH (qj (jX (s:={s with heap:=f,toks:=s.toks+1}) B rfl (x:=old) rfl (qj (yW (s:={s with heap:=f,toks:=s.toks+1}) B (by simp) λJ (e5:IsEnum J e it ((j:Int)+1) x) C=>?_)))));refine qj (qj (yW (s:={s with heap:=J,toks:=s.toks+1}) e5 (by simp) λK (e6:IsEnumOut K e it ((j:Int)+1) x s.heap.objs.size) D=>yW (s:={s with heap:=K,toks:=s.toks+1}) e6 (by simp) λF (e7:IsEnumOut F e it ((j:Int)+1) x s.heap.objs.size) G=>?_));have b:Bt e it f F:=((Bt.l C).trans (.l D)).trans (.l G);exact qj (kX (qu ⟨_,U,M F e7 (((X.extBut C.extBut (jy c)).extBut D.extBut (jy c)).extBut G.extBut (jy c)) (b _ _ (yd p) (yd t) Y) (by rw[G.1,D.1,C.1,Z]) (k4.trans b)⟩))
def BF{e it l:qd}{i j:Nat}{items:Array qe}{x old:qe}{Q:Option qe->Shared->Prop}
 (he:IsEnum s.heap e it j old) (hit:s.heap.IsListIter it l i) (h:s.heap.IsList l items) (m:items[i]?=some x) (f:e≠it)
 (n:∀h',IsEnumOut h' e it ((j:Int)+1) x s.heap.objs.size->h'.IsListIter it l (i+1) ->
   h'.get? s.heap.objs.size=some {cls:=.type "tuple",data:=.seq #[.int j s.toks,x]}->h'.objs.size=s.heap.objs.size+1 ->
   (∀b o,b≠e->b≠it->s.heap.get? b=some o->h'.get? b=some o)->Q (some (.ref s.heap.objs.size)) {s with heap:=h',toks:=s.toks+1}) :
 wpAny (model prog w) A (pyNext (.ref e)) Q E s:=by
 have g:s.TypeIs (.ref e) "enumerate":=⟨_,he,U⟩;unfold pyNext;exact qj (ya (je (name:=Str.ofString "__next__") g slot_enumerate_next
  (zZ slot_enumerate_next g PySem.F.entry_enumerate_next
    (EM he hit h m f λh' a b c d k=>qu (n h' a b c d k)) (gh _))))
def XW{e it l:qd}{i j:Nat}{items:Array qe}{old:qe}{Q:Option qe->Shared->Prop}(f:A.handled=none)
 (he:IsEnum s.heap e it j old) (hit:s.heap.IsListIter it l i) (g:s.heap.IsList l items) (h:items[i]?=none)
 (k:∀h',Heap.ExtBut it s.heap h'->Q none {s with heap:=h'}):wpAny (model prog w) A (pyNext (.ref e)) Q E s:=by
 have d:s.TypeIs (.ref e) "enumerate":=⟨_,he,U⟩;unfold pyNext;refine qj (ya (je (name:=Str.ofString "__next__") d slot_enumerate_next
  (zZ slot_enumerate_next d PySem.F.entry_enumerate_next ?_ (gh _))))
 show wpAny _ _ (field (.ref e) 2>>=_) _ _ _;refine qj (jX he rfl (x:=.ref it) rfl ?_);refine qj (wpAny_nextOf_list_end f hit g h λh' x a c=>?_);obtain⟨o,m,hc⟩:=c;refine qj (vr (T:="StopIteration") (b:=true) ⟨o,m,hc⟩ isSubtype_stop ?_);exact qu (k _ a)
end
variable {e it:qd}{h h':Heap}{i j:Nat}{items:Array qe}{old:qe}
def Kj{prog:Program}{w:World}{A:Around}(C:A.handled=none)(e it l:qd)(p:e≠it)(hle:l≠e)(v:l≠it)(items:Array qe) :
 WalksT prog w A e [e,it,l] [e,it] items.size
  (λi vals=>∃t x,items[i]?=some x/\vals=#[.int ((i+1:Nat):Int) t,x])
  (λi h=>(∃old,IsEnum h e it ((i+1:Nat):Int) old)/\h.IsListIter it l i/\h.IsList l items)
  (λi T h=>(∃x,IsEnumOut h e it (((i+1:Nat):Int)+1) x T)/\h.IsListIter it l (i+1)/\h.IsList l items/\T≠e/\T≠it) where
 sub:=λb c=>by
  rcases qy.mp c with rfl|c
  .exact qo ..
  .exact qt _ (by rcases qy.mp c with rfl|c;exact qo ..;cases c)
 frame:=λi h h' a n=>by
  obtain⟨⟨old,he⟩,hit,d⟩:=a;exact⟨⟨old,n e (by simp) _ he⟩,hit.at λo x=>n it (by simp) o x,d.at λo x=>n l (by simp) o x⟩
 item:=λi s Q E hi a f=>by
  obtain⟨⟨old,he⟩,hit,d⟩:=a;have u:items[i]?=some items[i]:=jz hi;refine BF he hit d u p λh' z m g hsz n=>?_;have q:e<s.heap.objs.size:=qI he;have r:it<s.heap.objs.size:=by obtain⟨_,x,_⟩:=hit;exact qI x
  exact f s.heap.objs.size #[.int ((i+1:Nat):Int) s.toks,items[i]] h' (s.toks+1) ⟨_,_,u,U⟩ (qp _) ⟨_,g,U,_,U⟩
   ⟨⟨_,z⟩,m,d.at λo x=>n l o hle v x,yd q,yd r⟩
   λb o c x=>n b o (λj=>c (by simp[j])) (λj=>c (by simp[j])) x
 go:=λelts k pos i T s Q E hm f=>by
  obtain⟨⟨x,z⟩,hit,d,q,r⟩:=hm;refine wpAny_letOwnedTupleGo_enum z λh' B m=>f h' ⟨⟨x,by simpa using B⟩,hit.at λo y=>(m.2 it p.symm).trans y,d.at λo y=>(m.2 l hle).trans y⟩ λb o c y=>?_;exact(m.2 b λj=>c (by simp[j])).trans y
 apart:=λi T h hm g=>by
  obtain⟨_,_,_,q,r⟩:=hm;rcases qy.mp g with rfl|g
  .exact q rfl
  .rcases qy.mp g with rfl|g
   .exact r rfl
   .cases g
 done:=λs Q E a f=>by
  obtain⟨⟨old,he⟩,hit,d⟩:=a;exact XW C he hit d (kN (qp _)) λh' u=>f h' s.toks λb o c y=>u b o (λj=>c (by simp[j])) y
 self:=λi s Q E a f=>by
  obtain⟨⟨old,he⟩,_,_⟩:=a;exact xm he f
def TJ(K:Frag)(l:qd):It:=
 ⟨λi H=>∃xs x,zm K H l xs/\xs[i]?=some x,λi H v H'=>∃(T:qd)(x:V),(∀xs,zm K H l xs->xs[i]?=some x)/\H T=none/\v=.ref T/\H'=upd H T (.tup [.int (i+1:Nat),x]),λi H=>∃xs,zm K H l xs/\xs.length=i⟩
def Ea{P:Program}{w:World}{K:Frag}{elts:qb Expr}{kt:Nat}{pt:Pos}(l e it:qd)(Y:e≠it)(Z:l≠e)(h3:l≠it):DW P w K (.Tuple elts kt pt) (TJ K l) [e,it] e (λi h=>(∃old,IsEnum h e it ((i+1:Nat):Int) old)/\h.IsListIter it l i) where
 mem:=by simp
 obj:=λi h st b f=>by
  obtain⟨⟨old,s1⟩,o,s2,c,d⟩:=st;rcases qy.mp f with rfl|f
  .exact⟨_,s1,λv z=>by cases z⟩
  .have e:=qq.mp f;subst e;exact⟨o,s2,λv z=>by rw[d] at z;cases z⟩
 keep:=λi h h' st k=>⟨let ⟨old,s1⟩:=st.1;⟨old,k e (by simp) _ s1⟩,st.2.at λo q=>k it (by simp) o q⟩
 item:=by
  intro X D hw F hc i pins s σ H E I hf st G;subst D hw F;obtain⟨xs,x,B,J⟩:=G;obtain⟨its,L,p,hz⟩:=I.list B;obtain⟨u,hu,ru⟩:=L.get J;have M:i<its.length:=(qJ.mp hu).1;have W:=Kj (prog:=X.prog) (w:=X.w) (I.ok.hd hc) e it l Y Z h3 its.toArray;refine W.item i s _ E (by simpa using M) ⟨st.1,st.2,p.isList⟩ λT vals h' C hv N O mid same=>⟨.ref T,U,?_⟩;obtain⟨t,R,j,rfl⟩:=hv;have ex:R=u:=by
   have:its.toArray[i]?=some u:=by simpa using hu
   rw[this] at j;exact(za j).symm
  subst ex;refine W.go elts kt pt i T _ _ E mid λm r a=>?_;have g:∀b∈[e,it],WX X pins H b:=hf;have I1:Inv X pins σ H {s with heap:=m,toks:=C}:=I.xr (t':=C) (ch:=[e,it]) (λb o f q=>a b o f (same b o f q)) g;have nT:T∉[e,it]:=W.apart _ _ _ mid;obtain⟨o,oT,oc,n,od⟩:=id O;have y:m.IsTuple T #[.int ((i+1:Nat):Int) t,R]:=⟨o,a T o nT oT,oc,n,od⟩;have S:H T=none:=I.hok.fresh N;have V:=I.xW (b:=T) (H':=H) N S;have h0:X.s₀.heap.get? T=none:=by
   cases q:X.s₀.heap.get? T with
   |none=>rfl
   |some o=>exact absurd (qE (qI q) (qO I.sz N)) (zw _)
  refine⟨.ref T,upd H T (.tup [.int (i+1:Nat),x]),I1.track S h0 V.2.1 V.2.2.2.2.1 V.2.2.2.2.2 ?_,U,⟨T,x,λys hy=>by rw[I.xp hy B];exact J,S,U,U⟩,⟨r.1,r.2.1⟩,λb f=>?_⟩
  .exact⟨by show 2<=sizeLine;decide,[.int ((i+1:Nat):Int) t,R],.cons ⟨t,U⟩ (.cons ru .nil),y⟩
  .rw[Qj (λz=>nT (by rw[<-z];exact f))];exact(hf b f).1
 done:=by
  intro X D hw F hc i pins s σ H E I hf st G;subst D hw F;obtain⟨xs,B,J⟩:=G;obtain⟨its,L,p,hz⟩:=I.list B;have j:=L.length;have W:=Kj (prog:=X.prog) (w:=X.w) (I.ok.hd hc) e it l Y Z h3 its.toArray;have a:its.toArray.size=i:=by simp;omega
  have g:∀b∈[e,it],WX X pins H b:=hf;refine W.done s _ E (by rw[a];exact⟨st.1,st.2,p.isList⟩) λh' C same=>⟨U,I.xr (t':=C) (ch:=[e,it]) same g⟩
 self:=λA i s Q E st h=>let ⟨_,s1⟩:=st.1;xm s1 h
end L2
set_option maxHeartbeats 200000
namespace L2
open PySem PySem.Spec PyProof.Rows
def cw_typeK{M:Model}{A:Around}{E:qg}{s:Shared}{pos:Pos}{T:String}{args:qb (Bool×Sem qe)}{c:qb (Option qc×Sem qe)}{Q:qg}
 (e:args.any (·.1)=false) (f:c.any (·.1.isNone)=false)
 (h:wpAny M A (evalArgs (.type T) true args c) (λa b=>wpAny M A (call (.type T) a.pos a.kw) Q E b) E s):wpAny M A (callWith pos (.type T) [] args c) Q E s:=by
 unfold callWith;refine qj (zR (zt h (λa b q=>qj (gg ?_)) λ_ _ z=>z));simp only[e,f,Bool.or_false];exact qj (qu (qj (zt q (λr d g=>qj (zR (wpAny_point (qu g)))) λ_ _ z=>z)))
inductive Du(K:Frag)(R:(It->Hp->Prop))(vs:qb V)(H1:Hp):Prop
 |mk:∀(l:qd)(xs:qb V),vs=[.ref l]->H1 l=some (.lst xs)->R (TJ K l) H1->Du K R vs H1
def S5(K:Frag)(a:TA):TI:=λσ H R=>a σ H λvs H1=>Du K R vs H1
def Mf{X:Cx}{elts:qb Expr}{kt:Nat}{pt:Pos}{a:Expr}{g:TA}{j:Nat}{p pos o t:Pos}(u:Gl X "enumerate")(hm:X.mg "enumerate"=none)(v:PA X [a] g)(i:starEach [a] X.env=[(false,eval a X.env)]:=by rfl):PI X (.Tuple elts kt pt) (.Call (.Name "enumerate" p) [a] [⟨some "start",.Constant (.int 1) j o,t⟩] pos) (S5 X.K g):=by
 intro pins s σ H R I h;refine zM (Wm I u hm boot_enumerate ?_ ∅ ∅);have d:backTo pos (starEach [a] X.env)=(false,eval a X.env)::backTo pos []:=by rw[i];rfl
 refine cw_typeK (by rw[i];rfl) (by rfl) ?_;have f:=v pos pins s σ H _ I h;rw[d] at f⊢;refine PyProof.Rows.evalArgs_kwB (by rfl) ?_;refine zS f λus s1 ⟨vs,H1,c,w,x⟩=>?_;obtain⟨l,xs,e,k,q⟩:=x;subst e
 cases w with
 |cons r y=>
  cases y;cases r;obtain⟨its,B,p,_⟩:=c.list (zm.of k);have m:l<s1.heap.objs.size:=(c.hok l _ k).lt;refine kws_cons (wpAny_Constant_int (kws_nil ?_));refine KG (s:={s1 with toks:=s1.toks+1}) p.isList λh' n z hz keep=>?_;have A:Inv X pins σ H1 {s1 with heap:=h',toks:=s1.toks+1}:=c.kept (t':=s1.toks+1) keep;refine xm n ⟨s1.heap.objs.size+1,[s1.heap.objs.size+1,s1.heap.objs.size],_,_,H1,U,A,Ea l (s1.heap.objs.size+1) s1.heap.objs.size (Nat.succ_ne_self _) (qR (jl m)) (qR m),⟨⟨_,n⟩,z⟩,λb d=>?_,q⟩;rcases qy.mp d with rfl|d
  .exact c.xW (zC _) (c.hok.fresh (zC _))
  .rw[qq.mp d];exact c.xW (qp _) (c.hok.fresh (qp _))
end L2
set_option maxHeartbeats 400000
namespace L2
open PySem PySem.Spec PyProof.Rows
def OF(K:Frag):qb V->Hp->VK->Prop:=λxs H Q=>∃e C d c a b,xs=[.ref e,c]/\H e=some (Ki C d e)/\Xg K C/\PK c=some a/\kitOne K (.ref C) a=some b/\Q (.bl b) H
def YI{X:Cx}(K:Frag)(a:X.K=K:=by rfl):YO X (.builtin "isinstance") (OF K):=a▸DN
def CK{X:Cx}{e:Expr}{f:qc}{pos:Pos}{a:TE}(K:Frag)(he:PE X e a)(b:attributeBase e f X.env (eval e X.env)=eval e X.env)(c:X.K=K:=by rfl):PE X (.Attribute e f pos) (P9 K a f):=c▸OQ he b
end L2
set_option maxHeartbeats 4000000
namespace HT
open PySem PyProof.Rows
end HT
namespace L2
open PySem PySem.Spec PyProof.Rows
def b6{N P:qf}{sc:Scope}(h:(sc.kind=.function/\sc.isCoroutine=false/\sc.isGenerator=false)/\N.Nodup/\N.take P.length=P/\(∀x∈P,sc.names.lookup x=some .local\/sc.names.lookup x=some .cell)/\∀y∈sc.names,y.2≠.free:=by decide +kernel):Y5 N P sc:=⟨h.1.1,h.1.2.1,h.1.2.2,h.2.1,h.2.2.1,h.2.2.2.1,h.2.2.2.2⟩
variable {ps:qf}{us:qh}{q x:qc}{fd:FuncData}
def Cj(g:ps.Nodup)(f:ps.length=us.length):ps.filterMap (λn=>((ps.zip us).lookup n).map (n,·))=ps.zip us:=by
 induction ps generalizing us with
 |nil=>rfl
 |cons p r i=>
  cases us with
  |nil=>simp at f
  |cons u us=>
   have a:=yh.mp g;rw[xN,jV (b:=(p,u)) (by rw[zD,jZ];rfl)];congr 1
   suffices h:∀l:qf,(∀n∈l,n≠p)->l.filterMap (λn=>(List.lookup n ((p,u)::r.zip us)).map (n,·))=l.filterMap (λn=>(List.lookup n (r.zip us)).map (n,·)) from(h r λn j z=>a.1 (z▸j)).trans (i a.2 (by simpa using f))
   intro l c
   induction l with
   |nil=>rfl
   |cons n l d=>
    have e:((n,p).1==p)=false:=beq_false_of_ne (c n qo);have k:List.lookup n ((p,u)::r.zip us)=List.lookup n (r.zip us):=by rw[zD,show(n==p)=false from e]
    rw[yE,yE,k,d λm hm=>c m (qt _ hm)]
def Ij{sl:qb (qc×qe)}(h:q∉sl.map (·.1)):sl.lookup q=none:=by
 induction sl with
 |nil=>rfl
 |cons x r a=>
  rw[zD,show(q==x.1)=false from beq_false_of_ne λz=>h (by rw[z];exact qo)];exact a λz=>h (qt _ z)
def fill{qs:qf}{ds:qh}{sl:qb (qc×qe)}{m:Nat}(c:qs.length=ds.length)(i:qs.Nodup)(g:∀q∈qs.take m,(sl.lookup q).isNone=false)(f:∀q∈qs.drop m,q∉sl.map (·.1)) :
 (forIn (qs.zip ds) sl λx r=>if (List.lookup x.1 r).isNone=true then pure (ForInStep.yield (r++[(x.1,x.2)])) else pure (ForInStep.yield r):Sem (qb (qc×qe)))=pure (sl++(qs.drop m).zip (ds.drop m)):=by
 induction qs generalizing ds sl m with
 |nil=>simp
 |cons q r h=>
  cases ds with
  |nil=>simp at c
  |cons d ds=>
   have a:=yh.mp i;rw[xN,List.forIn_cons]
   cases m with
   |zero=>
    have e:=Ij (f q qo);simp only[e,Option.isNone_none,yH,pure_bind];rw[h (m:=0) (by simpa using c) a.2 nofun (λx b=>?_)]
    .simp
    .rw[qH];intro z;rcases qT.mp z with z|z
     .exact f x (qt _ b) z
     .rw[qq.mp z] at b;exact a.1 b
   |succ m=>
    have e:=g q qo;simp only[e,zx,yQ,pure_bind];rw[h (m:=m) (by simpa using c) a.2 (λx b=>g x (qt _ b)) (λx b=>f x b)];simp
def Ob{vs:qh}:ps.zip us++(ps.drop us.length).zip vs=ps.zip (us++vs):=by
 induction us generalizing ps with
 |nil=>simp
 |cons u us a=>cases ps with
  |nil=>simp
  |cons p ps=>simp[a]
def Oa(h:q∈(ps.zip us).map (·.1)):q∈ps.take us.length:=by
 induction us generalizing ps with
 |nil=>simp at h
 |cons u us a=>cases ps with
  |nil=>simp at h
  |cons p ps=>
   rw[xN,qX] at h;rcases qy.mp h with h|h
   .rw[h];exact qo
   .exact qt _ (a h)
def Br(h:q∈ps.take us.length):((ps.zip us).lookup q).isNone=false:=by
 induction us generalizing ps with
 |nil=>simp at h
 |cons u us a=>cases ps with
  |nil=>simp at h
  |cons p ps=>
   rw[xN,zD];by_cases e:q=p
   .rw[e];simp
   .rw[show(q==p)=false from beq_false_of_ne e];exact a ((qy.mp h).resolve_left e)
def cg(b:fd.params.posonlyargs=[])(c:fd.params.kwonlyargs=[])(d:fd.params.vararg=none)(e:fd.params.kwarg=none)(hd:fd.defaults=.none)(f:(fd.params.args.map (·.arg)).Nodup)(a:us.length=(fd.params.args.map (·.arg)).length):bindArgs fd ⟨us,[]⟩=pure ((fd.params.args.map (·.arg)).zip us):=by
 unfold bindArgs;simp only[b,c,d,e,hd,yA,jK,ze];generalize fd.params.args.map (·.arg)=ps at f a⊢;have g:ps.filter (λn=>((ps.zip us).lookup n).isNone)=[]:=List.filter_eq_nil_iff.mpr λn h=>by rw[Br (q:=n) (by rw[a,List.take_length];exact h)];decide
 have i:=Cj f a.symm;have j:seqItems? Value.none=pure none:=rfl;simp[g,i,j,a]
theorem cf{K:Frag}{D:qd}{o:Obj}{items:qh}{n:Nat}(e:fd.params.posonlyargs=[])(f:fd.params.kwonlyargs=[])(g:fd.params.vararg=none)(i:fd.params.kwarg=none)(hd:fd.defaults=.ref D)(r:K.lookup D=some o)(t:o.data=.seq items.toArray n)
 (d:(fd.params.args.map (·.arg)).Nodup) (hi:items.length<=(fd.params.args.map (·.arg)).length) (m:Nat):Yl K fd (fd.params.args.map (·.arg)) (items.drop m):=λs us X p=>by
 refine PySem.W.binds_K (k:=?k) X hd r t ?a ?b
 case a=>
  unfold bindArgs;simp only[e,f,g,i,yA,jK,ze,List.forIn_nil,pure_bind];rfl
 case b=>
  simp only[xa,List.toList_toArray];generalize fd.params.args.map (·.arg)=ps at d p hi⊢;have e1:List.drop (items.length-ps.length) items=items:=by rw[show items.length-ps.length=0 by omega];rfl
  rw[qm,qZ] at p;have hm:(ps.take (ps.length-items.length)).filter (λn=>(List.lookup n (ps.zip us)).isNone)=[]:=List.filter_eq_nil_iff.mpr λq c=>by
   rw[Br (q:=q) (by have:ps.take (ps.length-items.length)=(ps.take us.length).take (ps.length-items.length):=by{rw[List.take_take];congr 1;omega}
                    rw[this] at c;exact jc c)]
   decide
  obtain⟨m',u,em⟩:∃m',m'<=items.length/\items.drop m=items.drop m':=by
   by_cases h:m<=items.length
   .exact⟨m,h,U⟩
   .exact⟨items.length,qp _,by rw[jt ⋯,jt (qp _)]⟩
  rw[em];have j:us.length=ps.length-items.length+m':=by
   have:=q8 List.length em;rw[qZ,qZ] at this;omega
  have hf:=fill (qs:=ps.drop (ps.length-items.length)) (ds:=items) (sl:=ps.zip us) (m:=m') (by rw[qZ];omega) (d.sublist (List.drop_sublist _ _)) (λq c=>Br (by
   rw[j,List.take_add];exact qU _ c)) (λq c z=>by
   have z:=Oa z;rw[List.drop_drop,<-j] at c;have l:(ps.take us.length++ps.drop us.length).Nodup:=by rw[zG];exact d
   exact(ke.mp l).2.2 q z q c rfl)
  rw[List.drop_drop,<-j,Ob] at hf;simp only[e1,hm,hf];have l:=Cj (us:=us++items.drop m') d (by rw[qm,qZ];omega);simp[l];omega
def kj(s:Stmt):qf:=(Yb s).args.map (·.arg)
def plA(s:Stmt):Bool:=(Yb s).posonlyargs.isEmpty&&(Yb s).kwonlyargs.isEmpty&&(Yb s).vararg.isNone&&(Yb s).kwarg.isNone&&decide (kj s).Nodup&&Nat.ble (Yb s).defaults.length (kj s).length
def kL.bd0{K:Frag}{qual:qc}{st:Stmt}{f:qd}(F:kL K x qual st f fd)(h:plA st=true):Yl K fd (kj st) []:=F.binds λkV doc pm an a ct us b=>by
 simp only[plA,qB,qW,List.isEmpty_iff,ka] at h;exact cg (fd:=fnOf x qual (Yb st) (QK st) (Qr st) .none kV doc pm an a ct) h.1.1.1.1.1 h.1.1.1.1.2 h.1.1.1.2 h.1.1.2 rfl h.1.2 b
def loc(s:Stmt):qf:=(Qr s).names.filterMap λx=>match x.2 with
 |.local=>some x.1
 |.cell=>some x.1
 |_=>none
def nmO(t:Tb):qf:=match t.2.2 with
 |[]=>loc t.2.1
 |p=>p.map λk=>(loc t.2.1).getD k ""
def scO(N:qf)(s:Stmt):Bool:=decide (((Qr s).kind=.function/\(Qr s).isCoroutine=false/\(Qr s).isGenerator=false)/\N.Nodup/\N.take (kj s).length=kj s/\(∀x∈kj s,(Qr s).names.lookup x=some .local\/(Qr s).names.lookup x=some .cell)/\∀y∈(Qr s).names,y.2≠.free)
def bj{N:qf}{s:Stmt}(h:scO N s=true):Y5 N (kj s) (Qr s):=b6 (qM h)
def PD(e:Expr):Hd.flat (cvE e)=true:=by
 unfold cvE;split<;>rfl
def E4:∀{a:qb Expr}{us:qh},us.map Hd.kH=(a.map cvE).map Hd.bv->QD (a.map cvE) us
 |[],[],_=>.nil
 |e::a,u::us,h=>by
  obtain⟨b,c⟩:=yo h;exact .cons (Hd.vx b (PD e)) (E4 c)
def QD.dropN{vs:qb V}(h:QD vs us):∀n,QD (vs.drop n) (us.drop n):=λn=>by
 induction h generalizing n with
 |nil=>cases n<;>exact .nil
 |cons r a b=>cases n with
  |zero=>exact .cons r a
  |succ n=>exact b n
structure N9(K:Frag)(fd:FuncData)(s:Stmt):Prop where
 all:Yl K fd (kj s) []
 df:∀j,Nat.ble j (vU s).length=true->∃ds,QD ((vU s).drop ((vU s).length-j)) ds/\Yl K fd (kj s) ds
def kL.D{K:Frag}{s:Stmt}{f:qd}(F:kL K x q s f fd):Cg K x q s f fd:=⟨let ⟨c,d,kV,doc,pm,an,a,ct,b,h⟩:=F.ex;⟨c,d,.none,kV,doc,pm,an,a,ct,b,h⟩,F.kp⟩
theorem Ov{K:Frag}{r:Option (Option qe)}{s:Stmt}(e:Hd.see K r q=(some (Hd.kd x q s,g0 s),true))(h:plA s=true):∃fd,r=some (some (.ref (Hd.yN r)))/\Cg K x q s (Hd.yN r) fd/\(vU s=[]->kL K x q s (Hd.yN r) fd)/\N9 K fd s:=by
 cases hd:vU s with
 |nil=>
  rw[show g0 s=none by unfold g0;rw[hd]] at e;obtain⟨a1,_,_,fd,F⟩:=Hd.wY e;exact⟨fd,a1,F.D,λ_=>F,F.bd0 h,λj c=>⟨[],by rw[hd,List.drop_nil];exact .nil,F.bd0 h⟩⟩
 |cons b bs=>
  rw[show g0 s=some (Hd.bv b::bs.map Hd.bv) by unfold g0;rw[hd];rfl] at e;obtain⟨a1,_,_,D,kV,doc,pm,an,a,ct,o,items,n,F,d,f,hm⟩:=Hd.wy e;have hm:items.map Hd.kH=((Yb s).defaults.map cvE).map Hd.bv:=by rw[hm];show _=(vU s).map Hd.bv;rw[hd];rfl
  have g:=E4 hm;have i:items.length=(vU s).length:=by have:=q8 List.length hm;simpa[vU] using this
  simp only[plA,qB,qW,List.isEmpty_iff,ka] at h;have hle:items.length<=(kj s).length:=by
   have:=vb h.2;have e:(vU s).length=(Yb s).defaults.length:=qi ..;omega
  have B:=cf (K:=K) (fd:=fnOf x q (Yb s) (QK s) (Qr s) (.ref D) kV doc pm an a ct) h.1.1.1.1.1 h.1.1.1.1.2 h.1.1.1.2 h.1.1.2 rfl d f h.1.2 hle;refine⟨_,a1,F,nofun,?_,λj c=>⟨items.drop ((vU s).length-j),g.dropN _,B _⟩⟩;have:=B items.length;rw[List.drop_length] at this;exact this
def QF.up{j k:Nat}{A:Around}(r:QF k A)(h:j<=k:=by first|decide|omega):QF j A:=r.mono h
structure Ht(X:Cx)(P:Program)(w:World)(K:Frag)(mg:qc->Option qe)(base:Heap):Prop where
 p:X.prog=P
 w:X.w=w
 k:X.K=K
 m:X.mg=mg
 b:X.base=base
end L2
variable {i:Nat}{ks:qf}
namespace K17
open PySem L2
abbrev ZZ:qc:="thread"
abbrev ZJ:qc:="title"
abbrev Za:qc:="shape"
abbrev Zb:qc:="marked"
abbrev Zc:qc:="from"
abbrev Zd:qc:="then"
abbrev Ze:qc:="word"
abbrev Zf:qc:="in"
abbrev Zg:qc:="stop"
abbrev Zh:qc:="unmark"
abbrev Zi:qc:="place"
abbrev Zj:qc:="if"
abbrev Zk:qc:="day"
abbrev Zl:qc:="answers"
abbrev Zm:qc:="mark"
abbrev Zn:qc:="not"
abbrev Zo:qc:="and"
abbrev Zp:qc:="to"
abbrev Zq:qc:="either"
abbrev Zr:qc:="or"
abbrev Zs:qc:="row"
abbrev Zt:qc:="both"
abbrev Zu:qc:="one"
abbrev Zv:qc:="pieces"
abbrev Zw:qc:="inner"
abbrev Zx:qc:="other"
abbrev Zy:qc:="before"
abbrev Zz:qc:="after"
abbrev jT:=Nat->qd
abbrev nn(i:Nat):qf:=nmO (tb i)
def Sb:∀t∈tab,scO (nmO t) t.2.1=true:=by decide +kernel
def P5{i:Nat}(h:i<84):tb i∈tab:=by unfold tb;rw[q4,qx (show i<tab.length from h)];exact zU _
def sc(i:Nat)(h:i<84:=by decide):Y5 (nn i) (kj (sO i)) (Qr (sO i)):=bj (Sb _ (P5 h))
def TK(K:Frag)(mg:qc->Option qe)(a:jT)(f:Fc):Prop:=Fc.rec (motive:=λ_=>Prop) (λx i=>mg x=some (.ref (a i))) (λx v=>∃u,mg x=some u/\QL v u) (λx ys=>∃p,mg x=some (.ref p)/\∀H,zu K H p (ys.map V.str)) (λx=>mg x=none) (λi=>kJ K (a i)) (λi j=>Mk K (a i) (a j)) (λi x j=>Xh K (a i) x (a j)) (λi x=>Yp K (a i) x) (λi j x=>CFn K (a i) (a j) x) (λi j b=>kitOne K (.ref (a i)) (.ref (a j))=some b) (λi=>kitOne K (.ref (a i)) (.type "ValueError")=some true) (λi=>Xcl K (a i)) (λi=>Xg K (a i)) (λi=>Af K (a i)) (λi x=>cz K (a i) x) (λi=>keepIn K (.ref (a i))=true) (λi j=>N2 K (a i) (a j)) (λi=>cF K (a i)) True f
def nF(l:qb Fc):Nat->Fc:=List.rec (motive:=λ_=>Nat->Fc) (λ_=>.z) (λp _ a n=>Nat.rec (motive:=λ_=>Fc) p (λm _=>a m) n) l
structure Txt(P:Program)(w:World)(K:Frag)(mg:qc->Option qe)(base:Heap)(a:jT)(fd:Nat->FuncData):Prop where
 h:∀i,TK K mg a (nF fx i)
 m:∀(i:Nat)(_:i<39:=by decide),mg (vL (sO i))=some (.ref (a i))
 F:∀(i:Nat)(_:i<81:=by decide),kL K (vL (sO i)) (qN (tb i)) (sO i) (a i) (fd i)
 D:∀(i:Nat)(_:i<84:=by decide)(_:81<=i:=by decide),Cg K (vL (sO i)) (qN (tb i)) (sO i) (a i) (fd i)
 B:∀(i:Nat)(_:i<84:=by decide),Yl K (fd i) (kj (sO i)) []
 d81_0:∃ds,QD [.str "",.int 0] ds/\Yl K (fd 81) (kj (sO 81)) ds
 d81_1:∃ds,QD [.int 0] ds/\Yl K (fd 81) (kj (sO 81)) ds
 d82_0:∃ds,QD [.str ""] ds/\Yl K (fd 82) (kj (sO 82)) ds
 d83_0:∃ds,QD [.str "inbox",.non] ds/\Yl K (fd 83) (kj (sO 83)) ds
 d83_1:∃ds,QD [.non] ds/\Yl K (fd 83) (kj (sO 83)) ds
section Z
variable {fd:Nat->FuncData}{P:Program}{w:World}{K:Frag}{mg:qc->Option qe}{base:Heap}{a:jT}
instance:CoeFun (Txt P w K mg base a fd) (λ_=>∀i,TK K mg a (nF fx i)):=⟨Txt.h⟩
abbrev Txt.k(_:Txt P w K mg base a fd)(C:vj)(n i:Nat)(sp:Sp):Prop:=Y6 P w K mg base C n (a i) (fd i) (kj (sO i)) sp
abbrev Txt.kT(_:Txt P w K mg base a fd)(C:vj)(n i:Nat)(sp:Sp):Prop:=Ah P w K mg base C n (a i) (fd i) (kj (sO i)) sp
abbrev Txt.kU(_:Txt P w K mg base a fd)(n i:Nat)(sp:Sp):Prop:=DX P w K mg base n (a i) (fd i) (kj (sO i)) sp
abbrev Txt.cx(_:Txt P w K mg base a fd)(i:Nat)(b:qe)(A:Around)(outer:qb Env)(s:Shared)(H:Hp)(E:XK):Cx:=(Ua jx P w K mg base (nn i) (qN (tb i)) (Qr (sO i)) (a i) b A outer s H E).wB
def Txt.ok(T:Txt P w K mg base a fd)(i:Nat){k:Nat}{sp:Sp}(b:∀(c:qe)(A:Around)(outer:qb Env)(s:Shared)(H:Hp)(vs:qb V)(Q:VK)(E:XK),QF k (A.deeper (envOfC (qN (tb i)) (Qr (sO i)) s.heap.objs.size (a i) c))->sp vs H Q E->∃t,yV (T.cx i c A outer s H E) (QK (sO i)) t/\t {nx:=λ_ H'=>Q .non H',rt:=Q} (start (nn i) vs) H)(len:∀vs H Q E,sp vs H Q E->vs.length=(kj (sO i)).length:=by intro _ _ _ _ h;cases h<;>subst_vars<;>rfl)(h:i<81:=by decide):T.k jx (k+1) i sp:=(T.F i h).ok (sc i (qE h ∅)) b len
variable {X:Cx}{CX:vj}{i k:Nat}{sp:Sp}{E:XK}{x m:qc}{p pos apos:Pos}{e o:Expr}{es:qb Expr}{ta:TE}{t:TA}{C:qd}{pl:Sem Bool}
def Txt.cl(T:Txt P w K mg base a fd)(G:Y6 P w K mg base jx k (a i) (fd i) (kj (sO i)) sp)(d:PA X (e::es) t)(f:Ht X P w K mg base:=by exact⟨U,U,U,U,U⟩)(g:QF k X.A:=by exact QF.up (by assumption))(h:Gl X x:=by rfl)(j:vL (sO i)=x:=by rfl)(hi:i<39:=by decide)(b:(x==("__debug__":qc))=false:=by decide)(he:starEach (e::es) X.env=(false,eval e X.env)::starEach es X.env:=by rfl)(c:(backTo pos (starEach es X.env)).any (·.1)=false:=by rfl):PE X (.Call (.Name x p) (e::es) [] pos) (AE sp [] E0 t):=by
 obtain⟨rfl,rfl,rfl,rfl,rfl⟩:=f;exact Q7 G g h (by rw[<-j];exact T.m i hi) (T.F i (qE hi ∅)).kp (T.B i (qE hi ∅)) .nil QP d b he c
def Txt.me(T:Txt P w K mg base a fd)(g:PE X o ta)(c:kJ K C)(hm:Xh K C m (a i))(G:Y6 P w K mg base jx k (a i) (fd i) (kj (sO i)) sp)(h:PA X (e::es) t)(j:Ht X P w K mg base:=by exact⟨U,U,U,U,U⟩)(l:QF k X.A:=by exact QF.up (by assumption))(hi:i<84:=by decide)(he:starEach (e::es) X.env=(false,eval e X.env)::starEach es X.env:=by rfl)(b:(backTo pos (starEach es X.env)).any (·.1)=false:=by rfl)
 (n:eval (.Call (.Attribute o m apos) (e::es) [] pos) X.env=(do
   let d <-eval o X.env
   standAt apos.atName
   let (f,first) <-holding [d] (getMethod d m pl)
   callWith pos f first (backTo pos (starEach (e::es) X.env)) (backToKw pos (keywordEach [] X.env))):=by rfl):PE X (.Call (.Attribute o m apos) (e::es) [] pos) (Fe C m sp [] E0 ta t):=by
 obtain⟨rfl,rfl,rfl,rfl,rfl⟩:=j;exact Q3 (pl:=pl) g c hm G l (T.B i hi) .nil QP h he b n
def Txt.mn(T:Txt P w K mg base a fd)(d:PE X o ta)(c:kJ K C)(hm:Xh K C m (a i))(G:Y6 P w K mg base jx k (a i) (fd i) (kj (sO i)) sp)(e:Ht X P w K mg base:=by exact⟨U,U,U,U,U⟩)(g:QF k X.A:=by exact QF.up (by assumption))(hi:i<84:=by decide)
 (h:eval (.Call (.Attribute o m apos) [] [] pos) X.env=(do
   let b <-eval o X.env
   standAt apos.atName
   let (f,first) <-holding [b] (getMethod b m pl)
   callWith pos f first (backTo pos (starEach [] X.env)) (backToKw pos (keywordEach [] X.env))):=by rfl):PE X (.Call (.Attribute o m apos) [] [] pos) (Fe C m sp [] E0 ta Cq):=by
 obtain⟨rfl,rfl,rfl,rfl,rfl⟩:=e;exact Ud (pl:=pl) d c hm G g (T.B i hi) .nil QP h
def Txt.ma(T:Txt P w K mg base a fd)(M:Mk K C (a i))(hm:mg x=some (.ref C))(G:Y6 P w K mg base jx k (a i) (fd i) (kj (sO i)) sp)(d:PA X (e::es) t)(f:Ht X P w K mg base:=by exact⟨U,U,U,U,U⟩)(g:QF (k+1) X.A:=by exact QF.up (by assumption))(h:Gl X x:=by rfl)(hi:i<84:=by decide)(b:(x==("__debug__":qc))=false:=by decide)(he:starEach (e::es) X.env=(false,eval e X.env)::starEach es X.env:=by rfl)(c:(backTo pos (starEach es X.env)).any (·.1)=false:=by rfl):PE X (.Call (.Name x p) (e::es) [] pos) (Ll C sp [] E0 t):=by
 obtain⟨rfl,rfl,rfl,rfl,rfl⟩:=f;exact Y3 M G g h hm (T.B i hi) .nil QP d b he c
end Z
def isW(x:qc):Bool:=decide (1<=(x.length:Int))&&(decide ((x.length:Int)<=20)&&x.cps.toList.all λc=>decide (c∈aZ.cps.toList))
def Nb{K:Frag}:kitOne K (.type "str") (.type "str")=some true:=by unfold kitOne;rw[qG (jZ _)]
inductive Fw(vs:qb V)(H:Hp)(Q:VK)(E:XK):Prop
 |mk:∀x y:qc,vs=[.str x,.str y]->x.length<=300000->(∀H',Qi H H'->Q (.bl (x.cps.toList.all λc=>decide (c∈y.cps.toList))) H')->Fw vs H Q E
def LC(K:Frag):Sp:=λvs H Q _=>(∃x:qc,vs=[.str x]/\x.length<=300000/\∀H',Qi H H'->Q (.bl (isW x)) H') \/
 ∃v t,vs=[v]/\Uw K H v t/\kitOne K t (.type "str")=some false/\Q (.bl false) H
variable {P:Program}{w:World}{K:Frag}{mg:qc->Option qe}{base:Heap}{a:jT}{fd:Nat->FuncData}{i m m' n:Nat}{C D R a1 a2 a3 a5 dx l p q y:qd}{xs ys:qb V}{H H' H0 H1 H2:Hp}{an b fo msg x:qc}{d hi:Int}{E:XK}{W ms ps r rest rs ts us:qf}{o:HO}{X:Cx}{A B:Prop}{σ:St}{Q:VK}
def CU(T:Txt P w K mg base a fd):T.k jx 1 1 Fw:=by
 refine T.ok 1 (λb A outer s H vs Q E f h=>?_)
 .obtain⟨x,y,rfl,d,k⟩:=h;refine⟨_,Qd (Qk (Qv (NN rfl) rfl (T 116) boot_all (qV (WK (sc:=Qr (sO 1)) (N:=(nn 1)) (fr:=[(1,"signs")]) (wO rfl rfl) rfl rfl rfl (Es (pv 0))
   (λ_ _ _ _=>VF) (λ_ _ _ _=>YH X0 (pv 0) (pv 1) (by with_unfolding_all rfl))) Qe))),?_⟩
  refine⟨_,U,x,U,DF (λc=>.bl (decide (c∈y.cps.toList))) ((qO d (by rw[zI];decide))) ?_ ?_⟩
  .intro c e Q' hc q;refine⟨_,U,_,U,_,_,U,U,?_⟩;rw[StrLaws.found_one];exact q
  .intro D e;refine⟨D,x.cps.toList.map λc=>decide (c∈y.cps.toList),U,zm.of (by rw[yf];exact Qg),?_⟩;rw[List.all_map];exact k _ (Qi.zL e)
def X1(T:Txt P w K mg base a fd):T.k jx 2 2 (LC K):=by
 refine T.ok 2 (λg A outer s H vs Q E i h=>?_) (λvs H Q E h=>by rcases h with⟨x,rfl,_⟩|⟨v,t,rfl,_⟩<;>rfl)
 .refine⟨_,Qd (Qk (Vi (Qv Yw rfl (T 4) boot_isinstance (qV (pv 0) (qV (UJ (v:=.ty "str") rfl (T 23) boot_str rfl) Qe)))
   (Vi (GD Vu Vu Qa (Qv U0 rfl (T 2) zy (qV (pv 0) Qe)) (Yo rfl (T 104)))
   (UC (Q7 (CU T) i rfl (T 94) (T.F 1).kp (T.B 1) .nil QP (qV (pv 0) (qV (Yo rfl (T 102)) Qe))))))),?_⟩
  rcases h with⟨x,rfl,f,k⟩|⟨v,t,rfl,ty,j,k⟩
  .refine⟨_,U,_,_,_,_,_,U,U,Uw.str x,Nb,_,U,QI ?_⟩;refine⟨_,U,x,U,(qO f (by rw[zI];decide)),_,_,U,U,_,U,?_⟩;have b:isW x=(decide (1<=(x.length:Int))&&(decide ((x.length:Int)<=20)&&x.cps.toList.all λc=>decide (c∈aZ.cps.toList))):=rfl;by_cases d:(1:Int)<=(x.length:Int)
   .rw[qv d];rw[qv d,yp] at b;refine QI ⟨_,_,U,U,_,U,?_⟩;by_cases e:(x.length:Int)<=20
    .rw[qv e];rw[qv e,yp] at b;refine QI ⟨_,U,x,aZ,U,f,λH' s'=>?_⟩;rw[<-b];exact k H' s'
    .rw[qr e];rw[qr e,yw] at b;refine QA ?_;rw[<-b];exact k H (Qi.refl H)
   .rw[qr d];rw[qr d,yw] at b;refine QA ⟨_,U,QA ?_⟩;rw[<-b];exact k H (Qi.refl H)
  .exact⟨_,U,_,_,_,_,_,U,U,ty,j,_,U,QA k⟩
def G8:("":qc)=Str.empty:=by decide +kernel
theorem E2:∀(l:qb Nat)(st:qf×qc),(l.foldl vu st).1.length<=st.1.length+l.length/\(l.foldl vu st).2.length<=st.2.length+l.length
 |[],st=>⟨qp _,qp _⟩
 |c::l,st=>by
  rw[jw,qw];have q:=E2 l (vu st c);have e:(vu st c).1.length<=st.1.length+1/\(vu st c).2.length<=st.2.length+1:=by
   unfold vu;split
   .exact⟨zC _,by rw[Y4,FQ];exact qp _⟩
   .refine⟨by rw[qm];exact qp _,?_⟩;show Str.empty.length<=_;exact zb _
  omega
def E3(l:qb Nat):(vd l).1.length<=l.length/\(vd l).2.length<=l.length:=by
 have q:=E2 l ([],Str.empty);have e:Str.empty.length=0:=rfl;rw[zJ,e,Nat.zero_add] at q;exact q
def I8{l:qb Nat}{c:Nat}(h:l[i]?=some c):vd (l.take (i+1))=vu (vd (l.take i)) c:=by
 rw[zo,h];unfold vd;rw[yR];rfl
theorem KP(x:qc):(xD x).length<=x.length+1:=by
 have q:=E3 x.cps.toList;have e:=zF Ws ((vd x.cps.toList).1++[(vd x.cps.toList).2]);rw[qm,ql] at e;rw[YX];show(List.filter Ws _).length<=_;omega
inductive By(vs:qb V)(H:Hp)(Q:VK)(E:XK):Prop
 |mk:∀x:qc,vs=[.str x]->vn x->x.length<=900->(∀(l:qd)(H':Hp),H l=none->Qi H H'->H' l=some (.lst ((xD x).map V.str))->Q (.ref l) H')->By vs H Q E
theorem Ko(T:Txt P w K mg base a fd):T.k jx 1 3 By:=by
 refine T.ok 3 (λo A outer s H vs Q E u h=>?_)
 .obtain⟨x,rfl,g,p,k⟩:=h;refine⟨_,(Qb (VG (sc:=Qr (sO 3)) (N:=(nn 3)) (i:=1) (fr:=[]) (wO rfl rfl) rfl rfl rfl (sc 3).nd U rfl (Es (pv 0)) (λ_ _ _ _=>VF) (λ_ _ _ _=>(Vt (Qn X0 (pv 0) (Yo rfl (T 103)) (by with_unfolding_all rfl)) (OS K plainAttrs_str PySem.F.slot_str_lower PySem.F.type_str_lower C2 (pv 0)) Qf)))
   (Qd (Qk (GF plainAttrs_str slot_str_split type_str_split Ie (Ue plainAttrs_str slot_str_join type_str_join KW Qf (qV (pv 1) Qe)))))),?_⟩
  refine⟨_,U,x,U,DF (λc=>.str ⟨#[gS c]⟩) (Yj ((by show x.length<=1000;omega))) ?_ ?_⟩
  .intro c b Q' hc q;refine⟨_,U,_,_,U,U,_,U,?_⟩;rw[StrLaws.found_one];have d:gS c=if decide (c∈rS.cps.toList)=true then lo1 c else 32:=rfl
   rw[d] at q;refine Iw (λh=>?_) (λh=>?_)
   .rw[qG h] at q;refine⟨_,U,U,⟨#[c]⟩,U,U,g.one hc,(by show 1<=1000000;decide),?_⟩;have e:(#[c]:Array Nat).map lo1=#[lo1 c]:=by simp
    show Q' (.str ⟨(#[c]:Array Nat).map lo1⟩) b;rw[e];exact q
   .rw[qz h] at q;exact q
  .intro D j;generalize b:x.cps.toList.map (λc=>(⟨#[gS c]⟩:qc))=ys;have e1:x.cps.toList.map (λc=>V.str ⟨#[gS c]⟩)=ys.map V.str:=by rw[<-b,yf];rfl
   have d:∀y∈ys,y.length=1:=λy m=>by
    rw[<-b] at m;obtain⟨c,_,rfl⟩:=zr.mp m;rfl
   have f:ys.length=x.length:=by rw[<-b,qi,YX]
   have t:(Txt.join "" ys).cps.toList=x.cps.toList.map gS:=by
    rw[RA,<-b,yf];clear g p k b e1 d f j
    induction x.cps.toList with
    |nil=>rfl
    |cons c r n=>simpa using n
   rw[e1];refine⟨U,_,U,"",D,ys,U,U,zm.of Qg,Nf d ⋯,U,_,U,U,(by rw[Iu d];omega),λl n=>?_⟩;rw[Hu t];have s1:Qi H (upd H D (.lst (ys.map V.str))):=Qi.zL j;exact k l _ (s1.free n) (s1.zE (s1.free n)) Qg
def Ef{xs:qf}{y:V}(h:(xs.map V.str)[i]?=some y):∃t,y=.str t/\xs[i]?=some t:=by
 rw[qC] at h
 cases e:xs[i]? with
 |none=>rw[e] at h;cases h
 |some t=>rw[e] at h;exact⟨t,(za h).symm,U⟩
structure Ag(s t b:qc)(d:Int)(an:qc):Prop where
 s_:QO s
 t_:vn t
 tl:t.length<=60
 tn:¬10∈t.cps.toList
 b_:vn b
 bl:b.length<=400
 d0:0<=d
 d1:d<=9999
 a_:an=""\/QO an
abbrev gV(s t b:qc)(d:Int)(an:qc)(f:V):qb (qc×V):=[("sender",.str s),(ZJ,.str t),("body",.str b),(Zk,.int d),(Zl,.str an),("found",f)]
def E1(a:jT)(H:Hp)(x:qd)(s t b:qc)(d:Int)(an:qc)(D:qd):Prop:=(∃dx,H x=some (.ins (a 97) dx (gV s t b d an (.ref D))))/\H D=some (.dK (kn (xD t) (xD t++xD b)))
def YN(a:jT)(H:Hp)(x:qd)(s t b:qc)(d:Int)(an:qc):Prop:=(∃dx,H x=some (.ins (a 97) dx (gV s t b d an .non)))\/∃D,E1 a H x s t b d an D
def YN.mono{x:qd}{s t:qc}(h:YN a H x s t b d an)(q:Qi H H'):YN a H' x s t b d an:=by
 rcases h with⟨dx,e⟩|⟨D,⟨dx,e⟩,c⟩
 .exact .inl ⟨dx,q _ _ e⟩
 .exact .inr ⟨D,⟨dx,q _ _ e⟩,q _ _ c⟩
def YN.at{x:qd}{s t:qc}(h:YN a H x s t b d an):∃dx f,H x=some (.ins (a 97) dx (gV s t b d an f)):=by
 rcases h with⟨dx,e⟩|⟨D,⟨dx,e⟩,c⟩
 .exact⟨dx,_,e⟩
 .exact⟨dx,_,e⟩
def YN.other{x:qd}{s t:qc}{f:qd}{g:qb (qc×V)}(h:YN a H x s t b d an)(ne:x≠y)(i:H y=some (.ins C f g))(q:SX y H H'):YN a H' x s t b d an:=by
 rcases h with⟨dx,e⟩|⟨D,⟨dx,e⟩,c⟩
 .exact .inl ⟨dx,q _ _ ne e⟩
 .exact .inr ⟨D,⟨dx,q _ _ ne e⟩,q _ _ (QX c i nofun) c⟩
def YN.list{x:qd}{s t:qc}(h:YN a H x s t b d an)(e:H l=some (.lst xs)):YN a (upd H l (.lst ys)) x s t b d an:=by
 rcases h with⟨dx,ex⟩|⟨D,⟨dx,ex⟩,c⟩
 .exact .inl ⟨dx,by rw[Qj (QX ex e nofun)];exact ex⟩
 .exact .inr ⟨D,⟨dx,by rw[Qj (QX ex e nofun)];exact ex⟩,by rw[Qj (QX c e nofun)];exact c⟩
def Vl(h:QO x):isW x=true:=by
 unfold isW;have a:=h.lo;have b:=h.hi;rw[qv ⋯,qv ⋯,yp,yp];exact zf.mpr λc hc=>qv (h.in_ c hc)
def Iz:isW ""=false:=by decide +kernel
inductive Cy(vs:qb V)(H:Hp)(Q:VK)(E:XK):Prop
 |mk:∀(x:qc)(m:Int),vs=[.str x,.int m]->x.length<=1000->Q (.bl (decide ((x.length:Int)<=m))) H->Cy vs H Q E
inductive Bz(vs:qb V)(H:Hp)(Q:VK)(E:XK):Prop
 |mk:∀i:Int,vs=[.int i]->Q (.bl true) H->Bz vs H Q E
inductive Gj(vs:qb V)(H:Hp)(Q:VK)(E:XK):Prop
 |mk:∀x:qc,vs=[.str x]->(x=""\/QO x)->(∀H',Qi H H'->Q (.bl true) H')->Gj vs H Q E
inductive Fu(vs:qb V)(H:Hp)(Q:VK)(E:XK):Prop
 |mk:∀s t b d an,vs=[.str s,.str t,.str b,.int d,.str an]->Ag s t b d an->(∀H',Qi H H'->Q .non H')->Fu vs H Q E
inductive Ei(a:jT)(vs:qb V)(H:Hp)(Q:VK)(E:XK):Prop
 |mk:∀x dx s t b d an,vs=[.ref x,.str s,.str t,.str b,.int d,.str an]->Ag s t b d an->H x=some (.ins (a 97) dx [])->(∀H',(∀c o,c≠x->H c=some o->H' c=some o)->H' x=some (.ins (a 97) dx (gV s t b d an .non))->Q .non H')->Ei a vs H Q E
inductive Fs(a:jT)(vs:qb V)(H:Hp)(Q:VK)(E:XK):Prop
 |mk:∀x s t b d an,vs=[.ref x]->YN a H x s t b d an->Ag s t b d an->(∀D H',SX x H H'->E1 a H' x s t b d an D->Q (.ref D) H')->Fs a vs H Q E
def Rv :kitOne K (.type "tuple") (.type "tuple")=some true:=by unfold kitOne;rw[qG (jZ _)]
def Ry :kitOne K (.type "int") (.type "int")=some true:=by unfold kitOne;rw[qG (jZ _)]
def Rz :kitOne K (.type "int") (.type "bool")=some false:=by kernel_rfl
def SN:("\n":qc)=⟨#[10]⟩:=by decide +kernel
def GQ{s t:qc}{R:VK}{x:qd}(h:H x=none)(hd:H dx=none)(ne:dx≠x)(g:Ag s t b d an)(k:∀H',Qi H H'->YN a H' x s t b d an->R .non H') :
 Ei a [.ref x,.str s,.str t,.str b,.int d,.str an] (upd (upd H dx (.own x)) x (.ins (a 97) dx [])) R E:=by
 refine⟨x,dx,s,t,b,d,an,U,g,Qg,λH' i f=>k H' (λc o e=>i c o (Qo e h) ?_) (.inl ⟨dx,f⟩)⟩;rw[Qj (Qo e h),Qj (Qo e hd)];exact e
def GK(T:Txt P w K mg base a fd):T.k jx 1 4 Cy:=by
 refine T.ok 4 (λb A outer s H vs Q E d h=>?_)
 .obtain⟨x,m,rfl,c,k⟩:=h;refine⟨_,(Qd (Qk (Vi (Qv Yw rfl (T 4) boot_isinstance (qV (pv 0) (qV (UJ (v:=.ty "str") rfl (T 23) boot_str rfl) Qe))) (UC (YH Vu (Qv U0 rfl (T 2) zy (qV (pv 0) Qe)) (pv 1)))))),?_⟩;exact⟨_,U,_,_,_,_,_,U,U,Uw.str x,Nb,_,U,QI ⟨_,U,x,U,Yj (c),_,U,_,_,U,U,k⟩⟩
def CQ(T:Txt P w K mg base a fd):T.k jx 1 5 Bz:=by
 refine T.ok 5 (λb A outer s H vs Q E c h=>?_)
 .obtain⟨x,rfl,k⟩:=h;refine⟨_,(Qd (Qk (Vi (Qv Yw rfl (T 4) boot_isinstance (qV (pv 0) (qV (UJ (v:=.ty "int") rfl (T 17) boot_int rfl) Qe))) (UC (GC (Qv Yw rfl (T 4) boot_isinstance (qV (pv 0) (qV (UJ (v:=.ty "bool") rfl (T 70) boot_bool rfl) Qe)))))))),?_⟩;exact⟨_,U,_,_,_,_,_,U,U,Uw.int x,Ry,_,U,QI ⟨_,U,_,_,_,_,_,U,U,Uw.int x,Rz,_,U,k⟩⟩
def GL(T:Txt P w K mg base a fd):T.k jx 3 6 Gj:=by
 refine T.ok 6 (λc A outer s H vs Q E d h=>?_)
 .obtain⟨x,rfl,b,k⟩:=h;refine⟨_,(Qd (Qk (FN (T.cl (X1 T) (qV (pv 0) Qe)) (UC (Vi (Qv Yw rfl (T 4) boot_isinstance (qV (pv 0) (qV (UJ (v:=.ty "str") rfl (T 23) boot_str rfl) Qe))) (UC (YH QH (pv 0) Qf))))))),?_⟩;rcases b with rfl|b
  .refine⟨_,U,.inl ⟨_,U,by rw[Bb];omega,λH' s'=>?_⟩⟩;rw[Iz];refine⟨_,U,QA ⟨_,U,_,_,_,_,_,U,U,Uw.str _,Nb,_,U,QI ⟨_,U,U,?_⟩⟩⟩;rw[qv rfl];exact k H' s'
  .have:=b.hi;refine⟨_,U,.inl ⟨_,U,⋯,λH' s'=>?_⟩⟩;rw[Vl b];exact⟨_,U,QI (k H' s')⟩
theorem MU(T:Txt P w K mg base a fd):T.k jx 4 7 Fu:=by
 refine T.ok 7 (λc A outer s H vs Q E e h=>?_)
 .obtain⟨s,t,b,d,an,rfl,g,k⟩:=h;refine⟨_,(Qb (Qu (Uj (Q5 (T.cl (X1 T) (qV (pv 0) Qe)))) (Qd Wd) Qq)
   (Qb (Qu (PW.pt (Wb (Uj (Q5 (T.cl (GK T) (qV (pv 1) (qV (Yo rfl (T 105)) Qe))))) (Wa (Qn X0 Qf (pv 1) (by with_unfolding_all rfl))))) (Qd Wd) Qq)
   (Qb (Qu (Uj (Q5 (T.cl (GK T) (qV (pv 2) (qV (Yo rfl (T 106)) Qe))))) (Qd Wd) Qq)
   (Qb (Qu (PW.pt (Wb (Uj (Q5 (T.cl (CQ T) (qV (pv 3) Qe)))) (Wa (Uj (Gy Vu Vu Qa (pv 3) (Yo rfl (T 16))))))) (Qd Wd) Qq)
   (Qd (Qu (Uj (Q5 (T.cl (GL T) (qV (pv 4) Qe)))) (Qd Wd) Qq)))))),?_⟩
  have f:=g.s_.hi;refine⟨_,U,.inl ⟨s,U,⋯,λH1 s1=>?_⟩⟩;rw[Vl g.s_];refine⟨_,U,QA ?_⟩;refine⟨_,U,t,60,U,by have:=g.tl;omega,?_⟩;rw[qv (by have:=g.tl;omega)];refine⟨_,U,QA ⟨_,U,_,_,U,U,_,U,?_⟩⟩;rw[SN,StrLaws.found_one,qr g.tn];refine QA ⟨_,U,b,400,U,by have:=g.bl;omega,?_⟩;rw[qv (by have:=g.bl;omega)];refine⟨_,U,QA ⟨_,U,d,U,_,U,QA ?_⟩⟩;refine⟨_,U,_,_,U,U,_,U,?_⟩;rw[qv g.d0];refine QI ⟨_,_,U,U,_,U,?_⟩;rw[qv g.d1];refine QA ⟨_,U,an,U,g.a_,λH2 s2=>⟨_,U,QA (k H2 (s1.trans s2))⟩⟩
def FU(T:Txt P w K mg base a fd):T.k jx 5 82 (Ei a):=by
 refine(T.D 82).ok (sc 82) (λf A outer s H vs Q E j h=>?_) (λvs H Q E h=>by obtain⟨x,dx,s,t,b,d,an,rfl,_⟩:=h;rfl)
 .obtain⟨x,dx,s,t,b,d,an,rfl,g,i,k⟩:=h;refine⟨_,(Qb (Q4 (T.cl (MU T) (qV (pv 1) (qV (pv 2) (qV (pv 3) (qV (pv 4) (qV (pv 5) Qe)))))))
   (Qb (YR (pv 0) (pv 1) U)
   (Qb (YR (pv 0) (pv 2) U)
   (Qb (YR (pv 0) (pv 3) U)
   (Qb (YR (pv 0) (pv 4) U)
   (Qb (YR (pv 0) (pv 5) U)
   (Qd (YR (pv 0) BJ rfl)))))))),?_⟩
  refine⟨_,U,_,U,_,U,_,U,_,U,s,t,b,d,an,U,g,λH1 s1=>?_⟩;refine⟨_,U,_,U,x,_,dx,_,U,s1 _ _ i,(T 1),(T 53),∅,?_⟩;refine⟨_,U,_,U,x,_,dx,_,U,Qg,(T 1),(T 54),(by show 1<1000;decide),?_⟩;refine⟨_,U,_,U,x,_,dx,_,U,Qg,(T 1),(T 55),(by show 2<1000;decide),?_⟩;refine⟨_,U,_,U,x,_,dx,_,U,Qg,(T 1),(T 56),(by show 3<1000;decide),?_⟩;refine⟨_,U,_,U,x,_,dx,_,U,Qg,(T 1),(T 57),(by show 4<1000;decide),?_⟩;refine⟨_,U,x,_,dx,_,U,Qg,(T 1),(T 10),(by show 5<1000;decide),?_⟩;refine k _ (λc o ne e=>?_) ?_
  .rw[Qj ne,Qj ne,Qj ne,Qj ne,Qj ne,Qj ne];exact s1 _ _ e
  .exact Qg
theorem CP(T:Txt P w K mg base a fd):T.k jx 2 61 (Fs a):=by
 refine T.ok 61 (λS A outer s H vs Q E X h=>?_)
 .obtain⟨x,s,t,b,d,an,rfl,Y,g,k⟩:=h;have Z:=Dv X;refine⟨_,(Qb (Qu (Qn Mx (Qw (pv 0) U) BJ) (Qb (Ql (i:=1) (sc 61).nd CL)
   (Qb (Ym zg rfl (Y1 (T.cl (Ko T) (qV (Qw (pv 0) U) Qe))) (QG (i:=2) (sc 61).nd) (Qd (Xr Z (pv 1) (pv 2) Ur rfl)))
   (Qb (Ym zg rfl (Y1 (T.cl (Ko T) (qV (Qw (pv 0) U) Qe))) (QG (i:=2) (sc 61).nd) (Qd (Q4 (Ml (pv 1) (pv 2) Ur ⟨U,U,U,U⟩))))
   (Qd (YR (pv 0) (pv 1) U))))) Qq)
   (Qd (Qk (Qw (pv 0) U)))),?_⟩
  have h1:=g.tl;have h2:=KP t;have h3:=g.bl;have h4:=KP b;rcases Y with⟨dx,f⟩|⟨D,⟨dx,f⟩,hD⟩
  .refine⟨_,U,x,_,dx,_,_,U,f,(T 1),(T 10),U,U,_,U,QI ?_⟩;refine λD I=>?_;have s1:Qi H (upd H D (.dK [])):=Qi.zL I;have J:(upd H D (.dK [])) D=some (.dK []):=Qg;show Hz _ _ _ _ (upd H D (.dK []));generalize upd H D (.dK [])=H1 at s1 J;refine⟨_,U,x,_,dx,_,_,U,s1 _ _ f,(T 1),(T 54),U,t,U,g.t_,⋯,λF H2 n1 s2 q=>?_⟩;have s3:=s1.trans s2;have lD:F≠D:=(Qo J n1).symm;refine⟨F,U,⟨_,zm.of q⟩,Wt (K:=K) (a:=F) (xs:=(xD t).map V.str) (λi σ m=>∃o:Option V,σ=[some (.ref x),some (.ref D),o]/\Qi H m/\m D=some (.dK (kn (xD t) ((xD t).take i)))/\m F=some (.lst ((xD t).map V.str)))
    ⟨none,U,s3,s2 _ _ J,q⟩ (λi σ m _ ⟨_,_,_,_,h⟩=>zm.of h) ?_ ?_⟩
   .rintro i y σ m hi ⟨o,rfl,s4,r,R⟩;obtain⟨u,rfl,j⟩:=Ef hi;have L:=M9 (xD t) ((xD t).take i);rw[zi] at L;refine⟨_,U,_,U,D,_,U,Ci.k (k:=inr u) r (QN ⋯),_,U,s4.zE I,?_,by rw[Qj lD];exact R⟩;rw[Qg,SR (qL j),zo,j];rfl
   .rintro σ m ⟨o,rfl,s4,r,R⟩;rw[qi,qP (qp _)] at r;refine⟨_,U,x,_,dx,_,_,U,s4 _ _ f,(T 1),(T 55),U,b,U,g.b_,⋯,λG H4 n2 s5 B=>?_⟩;have s6:=s4.trans s5;have M:G≠D:=(Qo r n2).symm;refine⟨G,U,⟨_,zm.of B⟩,Wt (K:=K) (a:=G) (xs:=(xD b).map V.str) (λi σ n=>∃o:Option V,σ=[some (.ref x),some (.ref D),o]/\Qi H n/\n D=some (.dK (kn (xD t) (xD t++(xD b).take i)))/\n G=some (.lst ((xD b).map V.str)))
     ⟨o,U,s6,by rw[List.take_zero,ze];exact s5 _ _ r,B⟩ (λi σ n _ ⟨_,_,_,_,h⟩=>zm.of h) ?_ ?_⟩
    .rintro i y σ n hi ⟨o2,rfl,p,l,N⟩;obtain⟨u,rfl,j⟩:=Ef hi;have L:=M9 (xD t) (xD t++(xD b).take i);rw[qm,zi] at L;have C:xD t++(xD b).take (i+1)=(xD t++(xD b).take i)++[u]:=by rw[zo,j,zh];rfl
     refine⟨_,U,D,U,.inl ⟨_,.inl l⟩,_,U,_,inr u,l,U,QN ⋯,λv O=>?_,λO=>?_⟩
     .exact⟨_,U,p,by rw[C,Dl O];exact l,N⟩
     .exact⟨_,U,p.zE I,by rw[Qg,C,Dn (λz hz=>zK _ hz) O],by rw[Qj M];exact N⟩
    .rintro σ n ⟨o2,rfl,p,l,N⟩;rw[qi,qP (qp _)] at l;refine⟨_,U,_,U,x,_,dx,_,U,p _ _ f,(T 1),(T 10),(by show 6<1000;decide),?_⟩;refine⟨_,U,x,_,dx,_,_,U,Qg,(T 1),(T 10),U,?_⟩;refine k D _ (λc o ne e=>?_) ⟨⟨dx,Qg⟩,?_⟩
     .rw[Qj ne];exact p _ _ e
     .rw[Qj (QX l (p _ _ f) nofun)];exact l
  .refine⟨_,U,x,_,dx,_,_,U,f,(T 1),(T 10),U,U,_,U,QA ?_⟩;exact⟨_,U,x,_,dx,_,_,U,f,(T 1),(T 10),U,k D H (λ_ _ _ e=>e) ⟨⟨dx,f⟩,hD⟩⟩
inductive LF(K:Frag)(vs:qb V)(H:Hp)(Q:VK)(E:XK):Prop
 |mk:∀(a:qd)(ns:qb Int)(k:Int),vs=[.ref a,.int k]->zm K H a (ns.map V.int)->0<=k->(∀z:Int,Q (.int z) H)->LF K vs H Q E
inductive Fq(K:Frag)(vs:qb V)(H:Hp)(Q:VK)(E:XK):Prop
 |mk:∀(a:qd)(ns:qb Int)(st:Int)(n:Nat),vs=[.ref a,.int st,.int n]->zm K H a (ns.map V.int)->0<=st->n<=1000->(∀(p:qd)(rs:qb Int)(H':Hp),rs.length=n->(∀r∈rs,0<=r/\r<2147483629)->H p=none->Qi H H'->H' p=some (.lst (rs.map V.int))->Q (.ref p) H')->Fq K vs H Q E
inductive Cw(vs:qb V)(H:Hp)(Q:VK)(E:XK):Prop
 |mk:∀(b k:Int),vs=[.int b,.int k]->0<=b->b<2147483647->0<=k->k<6->(∀H',Qi H H'->Q (.str (YG b k)) H')->Cw vs H Q E
def O3(T:Txt P w K mg base a fd):T.k jx 1 13 (LF K):=by
 refine T.ok 13 (λc A outer s H vs Q E e h=>?_)
 .obtain⟨q,ns,i,rfl,b,hi,k⟩:=h;refine⟨_,(Qb (Qu (Qn Kn (pv 1) (Qv QQ rfl (T 2) zy (qV (pv 0) Qe))) (Qd (Qk (Qp Qs (pv 0) (pv 1)))) Qq)
   (Qd (Qk Qa))),?_⟩
  refine⟨_,U,_,U,q,_,U,.inl b,_,_,U,U,_,U,?_⟩;refine Iw (λh=>?_) (λ_=>k 0);obtain⟨v,d,hm,_⟩:=Yx (xs:=ns.map V.int) hi (qM h);obtain⟨z,rfl,_⟩:=C7 hm;exact⟨_,U,_,U,q,_,_,_,U,U,b,d,k z⟩
theorem MK(T:Txt P w K mg base a fd):T.k jx 2 15 (Fq K):=by
 refine T.ok 15 (λm A outer s H vs Q E c h=>?_)
 .obtain⟨q,ns,st,n,rfl,o,t,B,k⟩:=h;refine⟨_,(Qb (Ql (i:=3) (sc 15).nd (VH Qm))
   (Qb (Ql (i:=4) (sc 15).nd Qa)
   (Qb (Ym zg rfl (Yq rfl (T 6) (qV (pv 2) Qe)) (QG (i:=5) (sc 15).nd) (Qb (Ql (i:=4) (sc 15).nd (Qh Qx (Qh QV (Qh QV (Qh QV (Qh UR (pv 4) Qa) (T.cl (O3 T) (qV (pv 0) (qV (Qh QV (pv 1) (pv 5)) Qe)))) (Qh UR Qa (pv 5))) Qa) Qa))
   (Qd (Q4 (Ue plainAttrs_list zk zl Q8 (pv 3) (qV (Qh Qx (Qh UR (pv 4) (pv 4)) Qa) Qe))))))
   (Qd (Qk (pv 3)))))),?_⟩
  refine⟨zb _,λp e=>?_⟩;refine⟨_,U,(n:Int),U,⋯,⋯,YD (n:=(n:Int).toNat) (λi σ H2=>∃(rs:qb Int)(more:Int)(f:Option V),σ=[some (.ref q),some (.int st),some (.int n),some (.ref p),some (.int more),f]/\0<=more/\more<2147483647 /\
   rs.length=i/\(∀r∈rs,0<=r/\r<2147483629)/\H2 p=some (.lst (rs.map V.int))/\Qi H H2)
   ⟨[],7,none,U,∅,∅,U,nofun,Qg,Qi.zL e⟩ ?_ ?_⟩
  .rintro i σ H2 hi ⟨rs,more,f,rfl,h0,u,l,g,b,d⟩;have j:=d.seq o;have v:i<n:=by omega
   refine⟨_,U,_,_,U,U,.inl ⟨⋯,⋯⟩,_,U,_,U,_,U,_,_,U,U,q,ns,_,U,j,⋯,λz=>?_⟩;refine⟨_,_,U,U,_,U,_,_,U,U,.inl ⟨∅,∅⟩,_,_,U,U,_,_,U,U,_,_,U,U,Ak,?_⟩;have x:0<=(more*48271+z+31*(0+(i:Int))+1)%2147483647:=qF _ ∅;have y:(more*48271+z+31*(0+(i:Int))+1)%2147483647<2147483647:=qA _ ∅;refine⟨_,U,.inl ⟨U,_,zm.of b⟩,_,U,_,U,_,_,U,U,.inl ⟨⋯,⋯⟩,_,_,U,U,Al,p,_,_,U,U,b,(by rw[qi];exact QN ⋯),?_⟩;refine⟨rs++[_],_,_,U,x,y,by rw[qm,l];rfl,λr c=>?_,by rw[qH];exact Qg,d.zE e⟩;rcases qT.mp c with c|c
   .exact g r c
   .rw[qq.mp c];exact⟨qF _ ∅,qA _ ∅⟩
  .rintro σ H2 ⟨rs,more,f,rfl,h0,u,l,g,b,d⟩;exact⟨_,U,k p rs H2 ⋯ g e d b⟩
theorem UD(T:Txt P w K mg base a fd):T.k jx 1 16 Cw:=by
 refine T.ok 16 (λd A outer s H vs Q E J h=>?_)
 .obtain⟨b,i,rfl,u,x,f,g,k⟩:=h;have l:∀n:Nat,n<=1000->n<=sizeLine:=λn h=>Yj (h);obtain⟨t1,y,m⟩:∃t,yV (T.cx 16 d A outer s H E) ((QK (sO 16)).drop 1) t /\
   (¬b%4=1->t {nx:=λ_ H'=>Q .non H',rt:=Q} [some (.int b),some (.int i),none,none,none,none] H):=by
   refine⟨_,(Qb (Ql (i:=3) (sc 16).nd (Qh Qx (Qh Qz (pv 0) Qa) Qa))
    (Qb (Ql (i:=4) (sc 16).nd Qf)
    (Qb (Ym zg rfl (Yq rfl (T 6) (qV (Qh QV (Qh QV (pv 3) Qa) (Qh Qx (Qh Qz (pv 0) Qa) (Qh Xc Qa (pv 3)))) Qe)) (QG (i:=5) (sc 16).nd) (Qd (Qu (Qn QH (pv 5) (pv 3)) (Qd (Ql (i:=4) (sc 16).nd (Qh QU (pv 4) (Qp Ng Qf (pv 1))))) (Qd (Ql (i:=4) (sc 16).nd (Qh QU (pv 4) (Qp Ng Qf (Qh Qx (Qh QV (Qh Qz (pv 0) Qa) (Qh UR Qa (pv 5))) Qa))))))))
    (Qd (Qk (pv 4)))))),λp=>?_⟩
   have r:0<=b / 4%6:=qF _ ∅;have B:b / 4%6<6:=qA _ ∅;have C:0<=b / 24%(20-b / 4%6):=qF _ ⋯;have D:b / 24%(20-b / 4%6)<20-b / 4%6:=qA _ ⋯;refine⟨_,U,_,_,U,U,⟨∅,∅⟩,_,_,U,U,RO,?_⟩;refine⟨_,U,_,_,U,U,_,U,_,_,U,U,⟨∅,∅⟩,_,U,_,_,U,U,_,_,U,U,(by show(0:Int)<20-b / 4%6;omega),_,_,U,U,_,U,(by show -2^62<=b / 4%6+1+b / 24%(20-b / 4%6);omega),(by show b / 4%6+1+b / 24%(20-b / 4%6)<2^62;omega),YD (n:=(b / 4%6+1+b / 24%(20-b / 4%6)).toNat)
    (λj σ H2=>∃(o:Option V),σ=[some (.int b),some (.int i),none,some (.int (b / 4%6)),some (.str ⟨((List.range j).map (YJ b i)).toArray⟩),o]/\H2=H) ⟨none,U,U⟩ ?_ ?_⟩
   .rintro j σ H2 F ⟨o,rfl,rfl⟩;have q:j<20:=by omega
    have fit:∀c:Nat,(⟨((List.range j).map (YJ b i)).toArray⟩:qc).length+(⟨#[c]⟩:qc).length<=sizeLine:=λc=>l _ (by
     rw[FQ,YX,qi,jJ];omega)
    have app:∀c:Nat,YJ b i j=c->(⟨((List.range j).map (YJ b i)).toArray⟩:qc)++(⟨#[c]⟩:qc)=⟨((List.range (j+1)).map (YJ b i)).toArray⟩:=λc hc=>by
     rw[List.range_succ,qH,List.map_singleton,hc];refine Str.ext' ?_;rw[Str.cps_append];simp
    refine⟨_,U,_,U,U,_,U,?_⟩;refine Iw (λh=>?_) (λh=>?_)
    .have he:(0:Int)+(j:Int)=b / 4%6:=by
      have:=qM h;exact V.int.inj this
     obtain⟨c,hc,_⟩:=WH (z:=g4) (i:=i) f (by rw[NZ];exact g);refine⟨_,U,_,U,g4,_,c,U,U,NY,hc,_,_,U,U,fit c,?_⟩;refine⟨some (.int (0+(j:Int))),?_,U⟩;rw[app c (by unfold YJ;rw[qG ⋯,hc];rfl)];rfl
    .have he:¬(0:Int)+(j:Int)=b / 4%6:=λz=>h (qv (by rw[z]));obtain⟨c,hc,_⟩:=WH (z:=aZ) (i:=(b / 500+7*(0+(j:Int)))%36) (qF _ ∅) (by rw[N1];exact qA _ ∅);refine⟨_,U,_,U,_,_,U,U,⟨∅,∅⟩,_,U,_,_,U,U,.inl ⟨∅,∅⟩,_,_,U,U,_,_,U,U,TZ,aZ,_,c,U,U,N0,hc,_,_,U,U,fit c,?_⟩;refine⟨some (.int (0+(j:Int))),?_,U⟩;rw[app c (by unfold YJ;rw[qz ⋯,show(7*(j:Int))=7*(0+(j:Int)) by omega,hc];rfl)];rfl
   .rintro σ H2 ⟨o,rfl,rfl⟩;refine⟨_,U,?_⟩;have e:YG b i=⟨((List.range (b / 4%6+1+b / 24%(20-b / 4%6)).toNat).map (YJ b i)).toArray⟩:=by
     unfold YG;rw[qz p]
    rw[<-e];exact k _ (Qi.refl _)
  refine⟨_,(Gx (bE (Qn QH (Qh Qx (pv 0) Qa) Qa) (Gx (L5 (i:=2) (sc 16).nd U (Or.inl U) (L6 (Qc Qf (Qc Qf (Qc Qf (Qc Qf (Qc Qf (Qc Qf (Qc Qf (Qc Qf (Qc Qf (Qc Qf (Qc Qf (Qc Qf Qm))))))))))))))
   (Gx (L5 (i:=2) (sc 16).nd U (Or.inl U) (bF Mz (pv 2) (L6 (Qc Qf (Qc Qf (Qc Qf (Qc Qf (Qc Qf (Qc Qf (Qc Qf (Qc Qf (Qc Qf Qm))))))))))))
   (OI (bD (Qk (Qp Qs (pv 2) (Qh Qx (Qh QV (Qh Qz (pv 0) Qa) (Qh UR Qa (pv 1))) Qa))))))) Qq)
   (Sm y)).h,?_⟩
  refine⟨_,U,_,_,U,U,Aj,U,_,U,?_⟩;refine Iw (λh=>?_) (λh=>m λz=>h (qv (q8 V.int z)));have he:b%4=1:=by
   have:=qM h;exact V.int.inj this
  obtain⟨v,q,B,_⟩:=Yx (xs:=U4) (i:=(b / 4+5*i)%21) (qF _ ∅) (by rw[FP];exact qA _ ∅);have p:xX (U4.map V.str) ((b / 4+5*i)%21)=some (V.str v):=by
   rw[PQ,q];rfl
  refine⟨PZ,λC D=>?_⟩;refine⟨_,U,zl_9,λF r=>⟨C,F,_,_,U,U,(by rw[Qj (Qo Qg r)];exact Qg),Qg,(by show 12+9<=sizeLine;decide),λG I=>?_⟩⟩;refine⟨_,U,_,U,_,_,U,U,⟨∅,∅⟩,_,U,_,_,U,U,.inl ⟨∅,∅⟩,_,_,U,U,_,_,U,U,T2,G,U4.map V.str,_,_,U,U,zm.of Qg,p,?_⟩;have e:YG b i=v:=by unfold YG;rw[qG he,q];rfl
  rw[<-e];exact k _ (((Qi.zL D).trans (Qi.zL r)).trans (Qi.zL I))
def Lx:Sp:=λvs H Q _=>∃(a:Int)(p:qd)(cs:qb Int),vs=[.int a,.ref p]/\0<=a/\a<2147483629/\H p=some (.lst (cs.map V.int))/\(∀c∈cs,0<=c)/\cs.length<=12/\∀(x:qc)(H':Hp),kI x->x.length<=23*cs.length->Qi H H'->Q (.str x) H'
def HB:Sp:=λvs H Q _=>∃(a:Int)(p:qd)(cs:qb Int),vs=[.int a,.ref p]/\0<=a/\a<2147483629/\H p=some (.lst (cs.map V.int))/\(∀c∈cs,0<=c/\c<2147483629)/\10<=cs.length/\∀q s t b d an H',Ag s t b d an->H q=none->Qi H H'->H' q=some (.tup [.str s,.str t,.str b,.int d,.str an])->Q (.ref q) H'
def LG:Sp:=λvs H Q _=>∃(a:Int)(p:qd)(cs:qb Int),vs=[.int a,.ref p]/\0<=a/\a<2147483629/\H p=some (.lst (cs.map V.int))/\(∀c∈cs,0<=c/\c<2147483629)/\10<=cs.length /\
 ∀u q m s t b d an fo ms H',Ag s t b d an->QO fo->(∀x∈ms,QO x)->ms.Nodup->ms.length<=4->Qi H H'->H' u=some (.tup [.ref q,.str fo,.ref m])->H' q=some (.tup [.str s,.str t,.str b,.int d,.str an])->H m=none->H' m=some (.lst ((YA ms).map V.str))->Q (.ref u) H'
def Og(x:qc):(⟨x.cps.map up1⟩:qc).length=x.length:=by show(x.cps.map _).size=x.cps.size;simp
theorem Oh{c:Nat}(h:32<=c/\c<127):32<=up1 c/\up1 c<127:=by unfold up1;split<;>omega
def kI.up(h:kI x):kI ⟨x.cps.map up1⟩:=λc hc=>by
 have:c∈x.cps.toList.map up1:=by simpa using hc
 obtain⟨d,hd,rfl⟩:=zr.mp this;exact Oh (h d hd)
def Tw:kI aZ:=Vh ∅
def Ck(h:QO x):kI x:=λc hc=>Tw c (h.in_ c hc)
def Pq:∀v∈([.str "",.str " ",.str "!",.str "("]:qb V),∃y:qc,v=.str y/\kI y/\y.length<=1:=by
 intro v a;simp only[qy,q5,ji] at a;rcases a with rfl|rfl|rfl|rfl
 .exact⟨_,U,Vh ∅,∅⟩
 .exact⟨_,U,Vh ∅,∅⟩
 .exact⟨_,U,Vh ∅,∅⟩
 .exact⟨_,U,Vh ∅,∅⟩
def Ts:∀v∈([.str " ",.str ", ",.str "-",.str ": "]:qb V),∃y:qc,v=.str y/\kI y/\y.length<=2:=by
 intro v a;simp only[qy,q5,ji] at a;rcases a with rfl|rfl|rfl|rfl
 .exact⟨_,U,Vh ∅,∅⟩
 .exact⟨_,U,Vh ∅,∅⟩
 .exact⟨_,U,Vh ∅,∅⟩
 .exact⟨_,U,Vh ∅,∅⟩
theorem AU(T:Txt P w K mg base a fd):T.k jx 2 17 Lx:=by
 refine T.ok 17 (λN A outer s H vs Q E Z h=>?_) (λvs H Q E h=>by obtain⟨f,p,cs,rfl,_⟩:=h;rfl)
 .obtain⟨f,p,cs,rfl,z,O,L,hc,u,k⟩:=h;have b:∀n:Nat,n<=1000->n<=sizeLine:=λn h=>Yj (h);refine⟨_,(Qb (Ql (i:=2) (sc 17).nd Qf)
   (Qb (Ym zg rfl (Y1 (pv 1)) (QG (i:=3) (sc 17).nd) (Qb (Ql (i:=4) (sc 17).nd (T.cl (UD T) (qV (pv 0) (qV (Qh Qx (pv 3) Qa) Qe))))
   (Qb (Qu (Qn QH (Qh Qx (Qh Qz (pv 3) Qa) Qa) Qa) (Qd (Ql (i:=4) (sc 17).nd (GF plainAttrs_str PySem.F.slot_str_upper PySem.F.type_str_upper M0 (pv 4)))) Qq)
   (Qb (Ql (i:=2) (sc 17).nd (Qh QU (Qh QU (pv 2) (Qp Qs (VH (Qc Qf (Qc Qf (Qc Qf (Qc Qf Qm))))) (Qh Qx (Qh Qz (pv 3) Qa) Qa))) (pv 4)))
   (Qd (Ql (i:=2) (sc 17).nd (Qh QU (pv 2) (Qp Qs (VH (Qc Qf (Qc Qf (Qc Qf (Qc Qf Qm))))) (Qh Qx (Qh Qz (pv 3) Qa) Qa)))))))))
   (Qd (Qk (pv 2))))),?_⟩
  refine⟨_,U,p,U,⟨_,zm.of L⟩,Wt (K:=K) (a:=p) (xs:=cs.map V.int) (λi σ H2=>∃(x:qc)(B C:Option V),σ=[some (.int f),some (.ref p),some (.str x),B,C]/\Qi H H2/\kI x/\x.length<=23*i)
   ⟨"",none,none,U,Qi.refl H,Vh ∅,∅⟩ (λi σ H2 _ ⟨_,_,_,_,s2,_⟩=>zm.of (s2 _ _ L)) ?_ ?_⟩
  .rintro i y σ H2 hi ⟨x,B,C,rfl,s2,v,d⟩;obtain⟨c,rfl,D⟩:∃c:Int,y=.int c/\c∈cs:=by
    obtain⟨c,e,g⟩:=zr.mp (qL hi);exact⟨c,g.symm,e⟩
   have R:i<cs.length:=by have:=(qJ.mp hi).1;rw[qi] at this;exact this
   have c0:=hc c D;have m0:0<=c%5:=qF _ ∅;have m1:c%5<5:=qA _ ∅;have hw:QO (YG f (c%5)):=UA m0 ⋯;refine⟨_,U,_,U,_,_,U,U,Bs,?_⟩;refine⟨f,c%5,U,z,⋯,m0,⋯,λg s3=>?_⟩;have s4:=s2.trans s3;obtain⟨v1,j,F,_⟩:=Yx (xs:=([.str "",.str " ",.str "!",.str "("]:qb V)) (i:=c / 15%4) (qF _ ∅) (qA _ ∅);obtain⟨v2,m,G,_⟩:=Yx (xs:=([.str " ",.str ", ",.str "-",.str ": "]:qb V)) (i:=c / 60%4) (qF _ ∅) (qA _ ∅);obtain⟨y1,rfl,o,S⟩:=Pq v1 F;obtain⟨y2,rfl,q,X⟩:=Ts v2 G;have M:=hw.hi;refine⟨_,U,_,_,U,U,⟨∅,∅⟩,_,_,U,U,K4,U,_,U,?_⟩;refine Iw (λ_=>?_) (λ_=>?_)
   .have Y:kI ⟨(YG f (c%5)).cps.map up1⟩:=kI.up (Ck hw);have lU:=Og (YG f (c%5));refine⟨_,U,U,_,U,U,hw.asc,⋯,?_⟩;refine⟨_,U,DY,λl u=>?_⟩;have s5:Qi H (upd g l (.lst [.str "",.str " ",.str "!",.str "("])):=s4.zE (s4.free u);have r:(upd g l (.lst [.str "",.str " ",.str "!",.str "("])) l=some (.lst [.str "",.str " ",.str "!",.str "("]):=Qg;generalize upd g l (.lst [.str "",.str " ",.str "!",.str "("])=I at s5 r;refine⟨_,U,_,_,U,U,⟨∅,∅⟩,_,_,U,U,Aj,l,_,_,_,U,U,zm.of r,j,_,_,U,U,b _ ⋯,_,U,_,_,U,U,b _ (by rw[Y4];omega),?_⟩;refine⟨_,U,DY,λt e=>?_⟩;have J:Qi H (upd I t (.lst [.str " ",.str ", ",.str "-",.str ": "])):=s5.zE (s5.free e);refine⟨_,U,_,_,U,U,⟨∅,∅⟩,_,_,U,U,Aj,t,_,_,_,U,U,zm.of Qg,m,_,_,U,U,b _ (by rw[Y4,Y4];omega),?_⟩;exact⟨_,_,_,U,J,((v.app o).app Y).app q,by rw[Y4,Y4,Y4];omega⟩
   .skip
    refine⟨_,U,DY,λl u=>?_⟩;have s5:Qi H (upd g l (.lst [.str "",.str " ",.str "!",.str "("])):=s4.zE (s4.free u);have r:(upd g l (.lst [.str "",.str " ",.str "!",.str "("])) l=some (.lst [.str "",.str " ",.str "!",.str "("]):=Qg;generalize upd g l (.lst [.str "",.str " ",.str "!",.str "("])=I at s5 r;refine⟨_,U,_,_,U,U,⟨∅,∅⟩,_,_,U,U,Aj,l,_,_,_,U,U,zm.of r,j,_,_,U,U,b _ ⋯,_,U,_,_,U,U,b _ (by rw[Y4];omega),?_⟩;refine⟨_,U,DY,λt e=>?_⟩;have J:Qi H (upd I t (.lst [.str " ",.str ", ",.str "-",.str ": "])):=s5.zE (s5.free e);refine⟨_,U,_,_,U,U,⟨∅,∅⟩,_,_,U,U,Aj,t,_,_,_,U,U,zm.of Qg,m,_,_,U,U,b _ (by rw[Y4,Y4];omega),?_⟩;exact⟨_,_,_,U,J,((v.app o).app (Ck hw)).app q,by rw[Y4,Y4,Y4];omega⟩
  .rintro σ H2 ⟨x,B,C,rfl,s2,v,d⟩;rw[qi] at d;exact⟨_,U,k x H2 v d s2⟩
theorem DD{cs:qb Int}{lo m:Int}(h0:0<=lo)(b:lo<=(cs.length:Int))(hm:0<=m):∃a:qb Int,Ub (cs.map V.int) (some lo) (some (lo+m))=a.map V.int/\(∀c∈a,c∈cs)/\(a.length:Int)<=m:=by
 refine⟨(cs.drop (HT.jP cs.length 0 (some lo))).take (HT.jP cs.length cs.length (some (lo+m))-HT.jP cs.length 0 (some lo)),?_,λc hc=>jG (jc hc),?_⟩
 .unfold Ub;rw[qi,<-vQ,<-yn]
 .rw[zi];have e1:HT.jP cs.length 0 (some lo)=lo.toNat:=by simp only[HT.jP];split<;>omega
  have d:HT.jP cs.length cs.length (some (lo+m))<=(lo+m).toNat:=by simp only[HT.jP];split<;>omega
  rw[e1];exact Int.le_trans (Int.ofNat_le.mpr (Nat.min_le_left _ _)) ⋯
def Ek{y:qc}(h:kI x):kI (Txt.rstripChars x y):=λc hc=>h c (El hc)
theorem Eu(T:Txt P w K mg base a fd):T.k jx 3 18 HB:=by
 refine T.ok 18 (λD A outer s H vs Q E hr h=>?_) (λvs H Q E h=>by obtain⟨o,p,cs,rfl,_⟩:=h;rfl)
 .obtain⟨o,p,cs,rfl,r,F,hp,hc,hl,k⟩:=h;have hsm:∀n:Nat,n<=1000->n<=sizeLine:=λn h=>Yj (h);obtain⟨b,J,b00,b01⟩:=Yg hc 0 ∅ ⋯;obtain⟨j,G,b80,b81⟩:=Yg hc 8 ∅ ⋯;have e:∀{H1:Hp},Qi H H1->zm K H1 p (cs.map V.int):=λs1=>zm.of (s1 _ _ hp);obtain⟨t3,h3,N⟩:∃t,yV (T.cx 18 D A outer s H E) ((QK (sO 18)).drop 3) t /\
   ∀(H1:Hp)(t1 B:qc),Qi H H1->kI t1->t1.length<=60->kI B->B.length<=400->t {nx:=λ_ H'=>Q .non H',rt:=Q} [some (.int o),some (.ref p),some (.str t1),some (.str B),none,none] H1:=by
   refine⟨_,(Qb (Ql (i:=4) (sc 18).nd (Qp Qs (VH (Qc Qa (Qc Qa (Qc (Qh Qx (Qh Qz (Qp Qs (pv 1) Qa) Qa) Qa) (Qc (Qh Qx (Qh Qz (Qp Qs (pv 1) Qa) Qa) Qa) Qm))))) (Qh Qx (Qp Qs (pv 1) Qa) Qa)))
    (Qb (Ql (i:=5) (sc 18).nd (Qp Qs (VH (Qc Qf (Qc (T.cl (UD T) (qV (pv 0) (qV (Qh Qx (Qh Qz (Qp Qs (pv 1) Qa) Qa) Qa) Qe))) Qm))) (Qh Qx (Qh Qz (Qp Qs (pv 1) Qa) Qa) Qa)))
    (Qd (Qk (FL (Qc (T.cl (UD T) (qV (pv 0) (qV (Qh Qx (Qh Qz (Qp Qs (pv 1) Qa) Qa) Qa) Qe))) (Qc (pv 2) (Qc (pv 3) (Qc (pv 4) (Qc (pv 5) Qm)))))))))),λH1 t1 B s1 L u hb I=>?_⟩
   refine⟨_,U,p,_,_,_,U,U,e s1,J,_,_,U,U,⟨∅,∅⟩,_,_,U,U,K5,_,U,p,_,_,_,U,U,e s1,J,_,_,U,U,⟨∅,∅⟩,_,_,U,U,Oc,DY,λl f=>?_⟩;have s2:Qi H (upd H1 l (.lst [.int 0,.int 9999,.int (b / 18%10000),.int (b / 18%9)])):=s1.zE (s1.free f);obtain⟨v,hv,C,_⟩:=Yx (xs:=[V.int 0,V.int 9999,V.int (b / 18%10000),V.int (b / 18%9)]) (i:=j%4) (qF _ ∅) (qA _ ∅);obtain⟨d,rfl,M,hd1⟩:∃d:Int,v=.int d/\0<=d/\d<=9999:=by
    have y:0<=b / 18%10000:=qF _ ∅;have O:b / 18%10000<10000:=qA _ ∅;have R:0<=b / 18%9:=qF _ ∅;have m4:b / 18%9<9:=qA _ ∅;simp only[qy,q5,ji] at C;rcases C with rfl|rfl|rfl|rfl
    .exact⟨_,U,∅,∅⟩
    .exact⟨_,U,∅,∅⟩
    .exact⟨_,U,⋯,⋯⟩
    .exact⟨_,U,⋯,⋯⟩
   refine⟨_,U,p,_,_,_,U,U,e s2,G,_,_,U,U,Aj,l,_,_,_,U,U,zm.of Qg,hv,?_⟩;have y:0<=j / 4%5:=qF _ ∅;have O:j / 4%5<5:=qA _ ∅;have R:0<=j / 40%5:=qF _ ∅;have m4:j / 40%5<5:=qA _ ∅;refine⟨_,U,_,U,p,_,_,_,U,U,e s2,G,_,_,U,U,⟨∅,∅⟩,_,_,U,U,Bs,?_⟩;refine⟨o,j / 4%5,U,r,⋯,y,⋯,λH3 s3=>?_⟩;have s4:=s2.trans s3;refine⟨U2,λl2 S=>?_⟩;have s5:Qi H (upd H3 l2 (.lst [.str "",.str (YG o (j / 4%5))])):=s4.zE (s4.free S);obtain⟨v2,X,g,_⟩:=Yx (xs:=[V.str "",V.str (YG o (j / 4%5))]) (i:=j / 20%2) (qF _ ∅) (qA _ ∅);obtain⟨an,rfl,Y⟩:∃an:qc,v2=.str an/\(an=""\/QO an):=by
    simp only[qy,q5,ji] at g;rcases g with rfl|rfl
    .exact⟨_,U,.inl rfl⟩
    .exact⟨_,U,.inr (UA y ⋯)⟩
   refine⟨_,U,p,_,_,_,U,U,e s5,G,_,_,U,U,⟨∅,∅⟩,_,_,U,U,DZ,l2,_,_,_,U,U,zm.of Qg,X,?_⟩;refine⟨_,U,_,U,p,_,_,_,U,U,e s5,G,_,_,U,U,⟨∅,∅⟩,_,_,U,U,Bs,?_⟩;refine⟨o,j / 40%5,U,r,⋯,R,⋯,λH4 s6=>?_⟩;have Z:=s5.trans s6;refine⟨_,U,_,U,_,U,_,U,RN,λq hq=>?_⟩;exact k q _ t1 B d an _ ⟨UA R ⋯,L.asc,u,(λz=>absurd (L 10 z).1 ∅),hb.asc,I,M,hd1,Y⟩ (Z.free hq) (Z.zE (Z.free hq)) Qg
  obtain⟨Z,Y,I⟩:∃t,yV (T.cx 18 D A outer s H E) ((QK (sO 18)).drop 2) t /\
   ∀(H1:Hp)(t1:qc),Qi H H1->kI t1->t1.length<=60->t {nx:=λ_ H'=>Q .non H',rt:=Q} [some (.int o),some (.ref p),some (.str t1),none,none,none] H1:=by
   refine⟨_,(Qb (Ql (i:=3) (sc 18).nd (T.cl (AU T) (qV (pv 0) (qV (QT Xo (pv 1) (QR Qa) (QR (Qh QV Qa (Qh Qx (Qh Qz (Qp Qs (pv 1) Qa) Qa) Qa)))) Qe))))
    h3),λH1 t1 s1 L u=>?_⟩
   have y:0<=b / 3%6:=qF _ ∅;have O:b / 3%6<6:=qA _ ∅;obtain⟨g,R,B,S⟩:=DD (cs:=cs) (lo:=3) (m:=b / 3%6) ∅ ⋯ y;refine⟨_,U,_,U,_,U,_,U,p,_,_,_,U,U,e s1,J,_,_,U,U,⟨∅,∅⟩,_,_,U,U,RO,_,_,U,U,_,U,p,_,U,e s1,λl f=>?_⟩;rw[R];have s2:Qi H (upd H1 l (.lst (g.map V.int))):=s1.zE (s1.free f);refine⟨o,l,g,U,r,F,Qg,λc C=>(hc c (B c C)).1,⋯,λx H2 M X s3=>?_⟩;exact N H2 t1 x (s2.trans s3) L u M ⋯
  refine⟨_,(Qb (Ql (i:=2) (sc 18).nd (T.cl (AU T) (qV (pv 0) (qV (QT Xo (pv 1) (QR Qa) (QR (Qh QV Qa (Qh Qx (Qp Qs (pv 1) Qa) Qa)))) Qe))))
   (Qb (Qu (Qn QH (Qh Qx (Qh Qz (Qp Qs (pv 1) Qa) Qa) Qa) Qa) (Qd (Ql (i:=2) (sc 18).nd (Ue plainAttrs_str PySem.F.slot_str_rstrip PySem.F.type_str_rstrip Ig (pv 2) (qV Qf Qe)))) Qq)
   Y)),?_⟩
  have y:0<=b%3:=qF _ ∅;have O:b%3<3:=qA _ ∅;obtain⟨g,R,B,S⟩:=DD (cs:=cs) (lo:=1) (m:=b%3) ∅ ⋯ y;have s1:Qi H H:=Qi.refl H;refine⟨_,U,_,U,_,U,_,U,p,_,_,_,U,U,e s1,J,_,_,U,U,K4,_,_,U,U,_,U,p,_,U,e s1,λl f=>?_⟩;rw[R];have s2:Qi H (upd H l (.lst (g.map V.int))):=s1.zE (s1.free f);refine⟨o,l,g,U,r,F,Qg,λc C=>(hc c (B c C)).1,⋯,λx H2 M X s3=>?_⟩;have s4:=s2.trans s3;refine⟨_,U,p,_,_,_,U,U,e s4,G,_,_,U,U,⟨∅,∅⟩,_,_,U,U,DZ,U,_,U,?_⟩;have u:=PyProof.Rows.len_rstripChars x " ,-:";refine Iw (λ_=>⟨_,U,U,x," ,-:",U,U,⋯,I H2 _ s4 (Ek M) ⋯⟩) (λ_=>I H2 x s4 M ⋯)
theorem HZ(T:Txt P w K mg base a fd):T.k jx 4 19 LG:=by
 refine T.ok 19 (λY A outer s H vs Q E hr h=>?_) (λvs H Q E h=>by obtain⟨o,p,cs,rfl,_⟩:=h;rfl)
 .obtain⟨o,p,cs,rfl,r,G,R,hc,Z,k⟩:=h;obtain⟨c,I,b90,b91⟩:=Yg hc 9 ∅ ⋯;have J:∀{H1:Hp},Qi H H1->zm K H1 p (cs.map V.int):=λs1=>zm.of (s1 _ _ R);refine⟨_,(Qb (Ql (i:=2) (sc 19).nd (T.cl (UD T) (qV (pv 0) (qV (Qh Qx (Qp Qs (pv 1) Qa) Qa) Qe))))
   (Qb (Ql (i:=3) (sc 19).nd (VH Qm))
   (Qb (Ym zg rfl (Yq rfl (T 6) (qV (Qh Qx (Qh Qz (Qp Qs (pv 1) Qa) Qa) Qa) Qe)) (QG (i:=4) (sc 19).nd) (Qb (Ql (i:=5) (sc 19).nd (T.cl (UD T) (qV (pv 0) (qV (Qh Qx (Qh Qz (Qp Qs (pv 1) Qa) (Qh QV Qa (Qh UR Qa (pv 4)))) Qa) Qe))))
   (Qd (Qu (Qn UY (pv 5) (pv 3) (by with_unfolding_all rfl)) (Qd (Q4 (Ue plainAttrs_list zk zl Q8 (pv 3) (qV (pv 5) Qe)))) Qq))))
   (Qd (Qk (FL (Qc (T.cl (Eu T) (qV (pv 0) (qV (pv 1) Qe))) (Qc (pv 2) (Qc (Qv Ky rfl (T 36) boot_sorted (qV (pv 3) Qe)) Qm))))))))),?_⟩
  have m0:0<=c%5:=qF _ ∅;have m1:c%5<5:=qA _ ∅;refine⟨_,U,_,U,p,_,_,_,U,U,J (Qi.refl H),I,_,_,U,U,Bs,?_⟩;refine⟨o,c%5,U,r,⋯,m0,⋯,λH1 s1=>?_⟩;refine⟨K3,λm hm=>?_⟩;have nm:H m=none:=s1.free hm;have s2:Qi H (upd H1 m (.lst [])):=s1.zE nm;have n0:0<=c / 5%4:=qF _ ∅;have n1:c / 5%4<4:=qA _ ∅;refine⟨_,U,p,_,_,_,U,U,J s2,I,_,_,U,U,⟨∅,∅⟩,_,_,U,U,Aj,c / 5%4,U,⋯,⋯,YD (n:=(c / 5%4).toNat) (λi σ H2=>∃(ms:qf)(L M:Option V),σ=[some (.int o),some (.ref p),some (.str (YG o (c%5))),some (.ref m),L,M]/\Qi H H2/\H2 m=some (.lst (ms.map V.str))/\ms.length<=i/\ms.Nodup/\∀x∈ms,QO x)
   ⟨[],none,none,U,s2,Qg,qp _,List.nodup_nil,λ_ z=>nomatch z⟩ ?_ ?_⟩
  .rintro i σ H2 hi ⟨ms,L,M,rfl,s3,v,N,f,j⟩;have hi4:i<4:=by omega
   have dv:(0:Int)<20+5*(0+(i:Int)):=by omega
   have O:20+5*(0+(i:Int))<1073741824:=by omega
   have S:0<=c / (20+5*(0+(i:Int)))%5:=qF _ ∅;have k1:c / (20+5*(0+(i:Int)))%5<5:=qA _ ∅;refine⟨_,U,_,U,p,_,_,_,U,U,J s3,I,_,U,_,_,U,U,.inl ⟨∅,∅⟩,_,_,U,U,_,_,U,U,⟨dv,O⟩,_,_,U,U,Bs,?_⟩;refine⟨o,c / (20+5*(0+(i:Int)))%5,U,r,⋯,S,⋯,λF s4=>?_⟩;have l:=s4 _ _ v;have s5:=s3.trans s4;have D:QO (YG o (c / (20+5*(0+(i:Int)))%5)):=UA S ⋯;generalize YG o (c / (20+5*(0+(i:Int)))%5)=X at D;refine⟨_,U,_,U,m,_,U,.inl (zm.of l),U,Q2 _,_,U,?_⟩;rw[qG rfl,YC];by_cases B:X∈ms
   .rw[qv B];exact QA ⟨ms,_,_,U,s5,l,⋯,f,j⟩
   .rw[qr B];refine QI ⟨_,U,.inl ⟨U,_,zm.of l⟩,_,U,m,_,_,U,U,l,(by rw[qi];exact QN ⋯),?_⟩;refine⟨ms++[X],_,_,U,s5.zE nm,by rw[Qg,qH];rfl,by rw[qm,ql];omega,?_,λx C=>?_⟩
    .rw[ke];exact⟨f,j3 _ _,λx C y hy e=>B (by rw[qq.mp hy] at e;rw[<-e];exact C)⟩
    .rcases qT.mp C with C|C
     .exact j x C
     .rw[qq.mp C];exact D
  .rintro σ H2 ⟨ms,L,M,rfl,s3,v,N,f,j⟩;refine⟨_,U,_,U,?_⟩;refine⟨o,p,cs,U,r,G,s3 _ _ R,hc,Z,λq s t b d an F g nq s4 D=>?_⟩;refine⟨_,U,_,U,m,ms,U,zm.of (s4 _ _ v),⋯,λB l=>?_⟩;have s5:=s3.trans s4;have O:Qi H (upd F B (.lst ((YA ms).map V.str))):=s5.zE (s5.free l);have S:(upd F B (.lst ((YA ms).map V.str))) q=some (.tup [.str s,.str t,.str b,.int d,.str an]):=by rw[Qj (Qo D l)];exact D
   have X:(upd F B (.lst ((YA ms).map V.str))) B=some (.lst ((YA ms).map V.str)):=Qg;refine⟨VS,λu C=>?_⟩;exact k u q B s t b d an _ ms _ g (UA m0 ⋯) j f ⋯ (O.zE (O.free C)) Qg (by rw[Qj (Qo S C)];exact S) (s5.free l) (by rw[Qj (Qo X C)];exact X)
abbrev cfs(y:qd)(fo:qc)(g:qd):qb (qc×V):=[("letter",.ref y),("box",.str fo),("signs",.ref g)]
def UH(a:jT)(H:Hp)(x g:qd)(s t b:qc)(d:Int)(an fo:qc)(ms:qf):Prop:=(∃dx y,H x=some (.ins (a 86) dx (cfs y fo g))/\YN a H y s t b d an)/\H g=some (.lst (ms.map V.str))
def UH.mono{x g:qd}{s t:qc}(h:UH a H x g s t b d an fo ms)(q:Qi H H'):UH a H' x g s t b d an fo ms:=let ⟨⟨dx,y,e,l⟩,c⟩:=h;⟨⟨dx,y,q _ _ e,l.mono q⟩,q _ _ c⟩
def UH.list{x g:qd}{s t:qc}(h:UH a H x g s t b d an fo ms)(e:H l=some (.lst xs))(ne:g≠l):UH a (upd H l (.lst ys)) x g s t b d an fo ms:=by
 obtain⟨⟨dx,y,ex,c⟩,f⟩:=h;exact⟨⟨dx,y,by rw[Qj (QX ex e nofun)];exact ex,c.list e⟩,by rw[Qj ne];exact f⟩
def XN(H:Hp)(m:V)(ss:qf):Prop:=(m=.non/\ss=[])\/∃p,m=.ref p/\(H p=some (.lst (ss.map V.str))\/H p=some (.tup (ss.map V.str)))
def XN.mono{m:V}{ss:qf}(h:XN H m ss)(q:Qi H H'):XN H' m ss:=by
 rcases h with h|⟨p,e,h|h⟩
 .exact .inl h
 .exact .inr ⟨p,e,.inl (q _ _ h)⟩
 .exact .inr ⟨p,e,.inr (q _ _ h)⟩
def R6(a:jT):Sp:=λvs H Q _=>∃x s t b d an,vs=[.ref x]/\YN a H x s t b d an/\Ag s t b d an/\∀y H',H y=none->Qi H H'->YN a H' y s t b d an->Q (.ref y) H'
def Fv(a:jT):Sp:=λvs H Q _=>∃x dx lt fo m s t b d an ss,vs=[.ref x,.ref lt,.str fo,m]/\H x=some (.ins (a 86) dx [])/\YN a H lt s t b d an/\Ag s t b d an/\XN H m ss/\ss.length<=60 /\
 ∀H' g,(∀c o,c≠x->H c=some o->H' c=some o)->H g=none->UH a H' x g s t b d an fo (SS ss)->Q .non H'
def C0{s t:qc}{m:V}{ss:qf}{R:VK}{x lt:qd}(h:H x=none)(hd:H dx=none)(ne:dx≠x)(i:YN a H lt s t b d an)(j:Ag s t b d an)(hm:XN H m ss)(hz:ss.length<=60)
 (k:∀H' g,Qi H H'->H g=none->UH a H' x g s t b d an fo (SS ss)->R .non H'):Fv a [.ref x,.ref lt,.str fo,m] (upd (upd H dx (.own x)) x (.ins (a 86) dx [])) R E:=by
 have f:Qi H (upd (upd H dx (.own x)) x (.ins (a 86) dx [])):=λc o e=>by rw[Qj (Qo e h),Qj (Qo e hd)];exact e
 refine⟨x,dx,lt,fo,m,s,t,b,d,an,ss,U,Qg,i.mono f,j,hm.mono f,hz,λH' g l n hc=>k H' g (λc o e=>l c o (Qo e h) (f _ _ e)) (f.free n) hc⟩
def OW(T:Txt P w K mg base a fd):T.k jx 7 60 (R6 a):=by
 refine T.ok 60 (λq A outer s H vs Q E z h=>?_) (λvs H Q E h=>by obtain⟨x,s,t,b,d,an,rfl,_⟩:=h;rfl)
 .obtain⟨x,s,t,b,d,an,rfl,o,g,k⟩:=h;obtain⟨dx,f,c⟩:=o.at
  refine⟨_,(Qb (Ql (i:=1) (sc 60).nd (T.ma (T 84) (T 83) (FU T) (qV (Qw (pv 0) U) (qV (Qw (pv 0) U) (qV (Qw (pv 0) U) (qV (Qw (pv 0) U) (qV (Qw (pv 0) U) Qe)))))))
   (Qb (YR (pv 1) (Qw (pv 0) U) rfl)
   (Qd (Qk (pv 1))))),?_⟩
  refine⟨_,U,x,_,dx,_,_,U,c,(T 1),(T 53),U,_,U,x,_,dx,_,_,U,c,(T 1),(T 54),U,_,U,x,_,dx,_,_,U,c,(T 1),(T 55),U,_,U,x,_,dx,_,_,U,c,(T 1),(T 56),U,_,U,x,_,dx,_,_,U,c,(T 1),(T 57),U,λy B m r ne=>GQ m r ne g λH1 s1 u=>⟨U,?_⟩⟩;obtain⟨j,f2,v⟩:=u.at
  refine⟨_,U,x,_,dx,_,_,U,s1 _ _ c,(T 1),(T 10),U,_,U,y,_,j,_,U,v,(T 1),(T 10),(by show 6<1000;decide),?_⟩;refine⟨_,U,k y _ m (s1.zE m) ?_⟩;rcases o with⟨n,l⟩|⟨D,⟨n,l⟩,p⟩
  .have e:=c.symm.trans l
   injection e with e
   injection e with _ _ e
   simp only[List.cons.injEq,yk,true_and,and_true] at e;subst e;exact .inl ⟨j,Qg⟩
  .have e:=c.symm.trans l
   injection e with e
   injection e with _ _ e
   simp only[List.cons.injEq,yk,true_and,and_true] at e;subst e;exact .inr ⟨D,⟨j,Qg⟩,by rw[Qj (Qo p m)];exact s1 _ _ p⟩
theorem CT(T:Txt P w K mg base a fd):T.k jx 8 83 (Fv a):=by
 refine(T.D 83).ok (sc 83) (λZ A outer st H vs Q E hr h=>?_) (λvs H Q E h=>by obtain⟨x,dx,lt,fo,m,s,t,b,d,an,ss,rfl,_⟩:=h;rfl)
 .obtain⟨x,dx,lt,fo,m,s,t,b,d,an,ss,rfl,z,X,gd,hm,hz,k⟩:=h;refine⟨_,(Qb (YR (pv 0) (T.mn (pv 1) (T 1) (T 178) (OW T)) rfl)
   (Qb (YR (pv 0) (pv 2) U)
   (Qd (YR (pv 0) (Vt (Qn Mx (pv 3) BJ) (VH Qm) (Qv (KC rfl) rfl (T 36) boot_sorted (qV (Yr (DM rfl) rfl (T 115) boot_set (qV (pv 3) Qe)) Qe))) rfl)))),?_⟩
  obtain⟨dl,fl,el⟩:=X.at
  refine⟨_,U,lt,dl,_,U,el,U,lt,s,t,b,d,an,U,X,gd,λy H1 ny s1 hy=>?_⟩;have r:=s1 _ _ z;have xy:x≠y:=Qo z ny;refine⟨_,U,x,_,dx,_,U,r,(T 5),(T 13),(by show 0<1000;decide),?_⟩;refine⟨_,U,_,U,x,_,dx,_,U,Qg,(T 5),(T 30),(by show 1<1000;decide),?_⟩;rw[Xk];generalize u:upd H1 x (.ins (a 86) dx (UQ "box" (.str fo) (UQ "letter" (.ref y) [])))=H2;have f:∀c o,c≠x->H1 c=some o->H2 c=some o:=λc o n e=>by rw[<-u,Qj n];exact e
  have D:H2 x=some (.ins (a 86) dx [("letter",.ref y),("box",.str fo)]):=by rw[<-u];exact Qg
  have Y:y≠x:=xy.symm;have F:YN a H2 y s t b d an:=hy.other Y r f;have fin:∀(q:Hp)(g:qd)(ms:qf),Qi H2 q->q g=none->ms=SS ss ->
   ∃j C i v,V.ref x=.ref j/\(upd q g (.lst (ms.map V.str))) j=some (.ins C i v)/\kJ K C/\Yp K C "signs"/\v.length<1000/\Q .non (upd (upd q g (.lst (ms.map V.str))) j (.ins C i (UQ "signs" (.ref g) v))):=by
   intro q g ms s3 i G;have j:=s3 _ _ D;have B:x≠g:=Qo j i;refine⟨x,_,dx,_,U,(by rw[Qj B];exact j),(T 5),(T 31),(by show 2<1000;decide),?_⟩;have v:H2 g=none:=s3.free i;have L:H g=none:=by
    cases e:H g with
    |none=>rfl
    |some o=>rw[f g o B.symm (s1 _ _ e)] at v;cases v
   have I:YN a (upd q g (.lst (ms.map V.str))) y s t b d an:=(F.mono s3).mono (Qi.zL i);refine k _ g (λc o n e=>?_) L ⟨⟨dx,y,Qg,?_⟩,?_⟩
   .have J:=s3 _ _ (f c o n (s1 _ _ e));rw[Qj n,Qj (Qo J i)];exact J
   .exact I.other Y (by rw[Qj B];exact j) λc o n e=>by rw[Qj n];exact e
   .rw[Qj B.symm,Qg,G]
  rcases hm with⟨rfl,rfl⟩|⟨p,rfl,j⟩
  .refine⟨_,U,U,_,U,QI ⟨K3,λg i=>⟨_,U,?_⟩⟩⟩;obtain⟨v,B,G,I,J,L,M,N,O,R⟩:=fin H2 g [] (Qi.refl _) i rfl;exact⟨v,B,G,I,J,L,M,N,O,R⟩
  .have S:zm K H2 p (ss.map V.str)\/zu K H2 p (ss.map V.str):=by
    rcases j with j|j
    .exact .inl (zm.of (f _ _ (QX j z nofun) (s1 _ _ j)))
    .exact .inr (zu.of (f _ _ (QX j z nofun) (s1 _ _ j)))
   refine⟨_,U,U,_,U,QA ⟨_,U,p,ss,U,S,⋯,λl nl=>?_⟩⟩;have s3:Qi H2 (upd H2 l (EX P w l (dd ss))):=Qi.zL nl;have hdl:=NI ss;refine⟨l,dd ss,U,Qg,⋯,λg i=>⟨_,U,?_⟩⟩;obtain⟨v,B,G,I,J,L,M,N,O,R⟩:=fin _ g (SS ss) s3 i rfl;exact⟨v,B,G,I,J,L,M,N,O,R⟩
def KL(a:jT)(H H':Hp):Prop:=∀c o,H c=some o->H' c=some o\/∃dx f s t b d an D,o=.ins (a 97) dx (gV s t b d an f)/\E1 a H' c s t b d an D
def KL.of(h:Qi H H'):KL a H H':=λc o e=>.inl (h c o e)
def KL.refl(a:jT)(H:Hp):KL a H H:=λc o e=>.inl e
def KL.keep{c:qd}(k:KL a H H')(e:H c=some o)(n:C1 o=true):H' c=some o:=by
 rcases k c o e with z|⟨_,_,_,_,_,_,_,_,rfl,_⟩
 .exact z
 .cases n
def KL.inst{c:qd}{g:qb (qc×V)}(k:KL a H H')(e:H c=some (.ins C dx g))(n:g.lookup ("found":qc)=none):H' c=some (.ins C dx g):=by
 rcases k c _ e with z|⟨h,f,s,t,b,d,an,D,q,_⟩
 .exact z
 .injection q with _ _ q
  subst q;exact absurd (show some f=none from n) (by simp)
def F2{s t s' t' c:qc}{d':Int}{a:qc}{f e:V}(h:gV s t b d an f=gV s' t' c d' a e):s=s'/\t=t'/\b=c/\d=d'/\an=a/\f=e:=by
 simp only[List.cons.injEq,yk,true_and,and_true,V.str.injEq,V.int.injEq] at h;exact h
def E1.kl{x:qd}{s t:qc}(h:E1 a H x s t b d an D)(k:KL a H H'):∃c,E1 a H' x s t b d an c:=by
 obtain⟨⟨dx,e⟩,g⟩:=h;rcases k x _ e with z|⟨i,f,s',t',m,d',j,c,q,l⟩
 .exact⟨D,⟨dx,z⟩,k.keep g rfl⟩
 .injection q with _ _ q
  obtain⟨rfl,rfl,rfl,rfl,rfl,_⟩:=F2 q;exact⟨c,l⟩
def KL.trans(h:KL a H H1)(g:KL a H1 H2):KL a H H2:=λc o e=>by
 rcases h c o e with z|⟨dx,f,s,t,b,d,an,D,rfl,j⟩
 .exact g c o z
 .obtain⟨k,i⟩:=j.kl g;exact .inr ⟨dx,f,s,t,b,d,an,k,U,i⟩
def YN.kl{x:qd}{s t:qc}(h:YN a H x s t b d an)(k:KL a H H'):YN a H' x s t b d an:=by
 rcases h with⟨dx,e⟩|⟨D,c⟩
 .rcases k x _ e with z|⟨g,f,s',t',l,d',i,j,q,c⟩
  .exact .inl ⟨dx,z⟩
  .injection q with _ _ q
   obtain⟨rfl,rfl,rfl,rfl,rfl,_⟩:=F2 q;exact .inr ⟨j,c⟩
 .exact .inr (c.kl k)
def KL.free(k:KL a H H')(n:H' p=none):H p=none:=by
 cases e:H p with
 |none=>rfl
 |some o=>
  rcases k p o e with z|⟨_,_,_,_,_,_,_,_,_,⟨dx,z⟩,_⟩
  .rw[n] at z;cases z
  .rw[n] at z;cases z
def KL.zE(k:KL a H H')(j:H p=none)(l:∀m,H' p≠some (.dK m)):KL a H (upd H' p o):=λc u e=>by
 have h:c≠p:=λz=>by rw[z,j] at e;cases e
 rcases k c u e with z|⟨dx,f,s,t,b,d,an,D,q,⟨g,z⟩,i⟩
 .exact .inl (by rw[Qj h];exact z)
 .exact .inr ⟨dx,f,s,t,b,d,an,D,q,⟨g,by rw[Qj h];exact z⟩,by rw[Qj (λy=>l _ (by rw[<-y];exact i))];exact i⟩
def KL.known{x:qd}{s t:qc}(h:YN a H x s t b d an)(q:SX x H H')(g:E1 a H' x s t b d an D):KL a H H':=λc o e=>by
 by_cases z:c=x
 .subst z;obtain⟨dx,f,i⟩:=h.at
  rw[i] at e;cases e;exact .inr ⟨dx,f,s,t,b,d,an,D,U,g⟩
 .exact .inl (q c o z e)
structure CD where
 s:qc
 t:qc
 b:qc
 d:Int
 an:qc
 fo:qc
 ms:qf
variable {c:CD}{cs os:qb CD}
structure Yy(c:CD):Prop where
 g:Ag c.s c.t c.b c.d c.an
 f:QO c.fo
 m:∀x∈c.ms,QO x
 l:c.ms.length<=50
def UT(a:jT)(H:Hp)(x:qd)(c:CD):Prop:=∃g,UH a H x g c.s c.t c.b c.d c.an c.fo c.ms
def UT.kl{x:qd}(h:UT a H x c)(k:KL a H H'):UT a H' x c:=by
 obtain⟨g,⟨dx,y,e,l⟩,b⟩:=h;exact⟨g,⟨dx,y,k.inst e rfl,l.kl k⟩,k.keep b rfl⟩
inductive Yi(a:jT)(H:Hp):qb V->qb CD->Prop
 |nil:Yi a H [] []
 |cons {x:qd} {c:CD} {xs:qb V} {cs:qb CD}:UT a H x c->Yi a H xs cs->Yi a H (.ref x::xs) (c::cs)
def Yi.kl(h:Yi a H xs cs)(k:KL a H H'):Yi a H' xs cs:=by
 induction h with
 |nil=>exact .nil
 |cons h _ b=>exact .cons (h.kl k) b
def Yi.len(h:Yi a H xs cs):xs.length=cs.length:=by
 induction h with
 |nil=>rfl
 |cons _ _ b=>rw[qw,qw,b]
def Yi.at(h:Yi a H xs cs):∀(i:Nat)(v:V),xs[i]?=some v->∃x c,v=.ref x/\cs[i]?=some c/\UT a H x c:=by
 induction h with
 |nil=>intro i v e;cases e
 |cons h _ b=>
  intro i v e
  cases i with
  |zero=>cases e;exact⟨_,_,U,U,h⟩
  |succ i=>exact b i v e
inductive Tr where
 |any
 |ans
 |word (w:qc)
 |title (w:qc)
 |frm (w:qc)
 |days (l h:Int)
 |inn (w:qc)
 |yK (w:qc)
 |nt (t:Tr)
 |thr (t:Tr)
 |jN (u v:Tr)
 |jL (u v:Tr)
variable {t u v:Tr}{mk:Tr->Tr->Tr}{S:qf->Option (Tr×qf)}
def Tr.dp:Tr->Nat
 |.nt t=>t.dp+1
 |.thr t=>t.dp+1
 |.jN u v=>max u.dp v.dp+1
 |.jL u v=>max u.dp v.dp+1
 |_=>0
def TM(l h:Int):Prop:=0<=l/\l<=9999/\0<=h/\h<=9999
inductive jD(H:Hp):qd->Tr->Prop
 |any {p:qd}:H p=some (.tup [.str "any"])->jD H p .any
 |ans {p:qd}:H p=some (.tup [.str Zl])->jD H p .ans
 |word {p:qd} {w:qc}:H p=some (.tup [.str Ze,.str w])->QO w->jD H p (.word w)
 |title {p:qd} {w:qc}:H p=some (.tup [.str ZJ,.str w])->QO w->jD H p (.title w)
 |frm {p:qd} {w:qc}:H p=some (.tup [.str Zc,.str w])->QO w->jD H p (.frm w)
 |days {p:qd} {l h:Int}:H p=some (.tup [.str Zk,.int l,.int h])->TM l h->jD H p (.days l h)
 |inn {p:qd} {w:qc}:H p=some (.tup [.str Zf,.str w])->QO w->jD H p (.inn w)
 |yK {p:qd} {w:qc}:H p=some (.tup [.str Zb,.str w])->QO w->jD H p (.yK w)
 |nt {p q:qd} {t:Tr}:H p=some (.tup [.str Zn,.ref q])->jD H q t->jD H p (.nt t)
 |thr {p q:qd} {t:Tr}:H p=some (.tup [.str ZZ,.ref q])->jD H q t->jD H p (.thr t)
 |jN {p q r:qd} {u v:Tr}:H p=some (.tup [.str Zt,.ref q,.ref r])->jD H q u->jD H r v->jD H p (.jN u v)
 |jL {p q r:qd} {u v:Tr}:H p=some (.tup [.str Zq,.ref q,.ref r])->jD H q u->jD H r v->jD H p (.jL u v)
def jD.kl(h:jD H p t)(k:KL a H H'):jD H' p t:=by
 induction h with
 |any e=>exact .any (k.keep e rfl)
 |ans e=>exact .ans (k.keep e rfl)
 |word e w=>exact .word (k.keep e rfl) w
 |title e w=>exact .title (k.keep e rfl) w
 |frm e w=>exact .frm (k.keep e rfl) w
 |days e b=>exact .days (k.keep e rfl) b
 |inn e w=>exact .inn (k.keep e rfl) w
 |yK e w=>exact .yK (k.keep e rfl) w
 |nt e _ c=>exact .nt (k.keep e rfl) c
 |thr e _ c=>exact .thr (k.keep e rfl) c
 |jN e _ _ c d=>exact .jN (k.keep e rfl) c d
 |jL e _ _ c d=>exact .jL (k.keep e rfl) c d
def jD.mono(h:jD H p t)(k:Qi H H'):jD H' p t:=by
 induction h with
 |any e=>exact .any (k _ _ e)
 |ans e=>exact .ans (k _ _ e)
 |word e w=>exact .word (k _ _ e) w
 |title e w=>exact .title (k _ _ e) w
 |frm e w=>exact .frm (k _ _ e) w
 |days e b=>exact .days (k _ _ e) b
 |inn e w=>exact .inn (k _ _ e) w
 |yK e w=>exact .yK (k _ _ e) w
 |nt e _ a=>exact .nt (k _ _ e) a
 |thr e _ a=>exact .thr (k _ _ e) a
 |jN e _ _ a c=>exact .jN (k _ _ e) a c
 |jL e _ _ a c=>exact .jL (k _ _ e) a c
def VQ(a:jT):Tr->qd
 |.any=>(a 84)
 |.ans=>(a 88)
 |.word _=>(a 91)
 |.title _=>(a 90)
 |.frm _=>(a 93)
 |.days _ _=>(a 96)
 |.inn _=>(a 94)
 |.yK _=>(a 95)
 |.nt _=>(a 105)
 |.thr _=>(a 92)
 |.jN _ _=>(a 85)
 |.jL _ _=>(a 89)
def X7:Tr->Bool
 |.nt _|.thr _|.jN _ _|.jL _ _=>false
 |_=>true
inductive QC(a:jT)(H:Hp):qd->Tr->Prop
 |lf {x dx p:qd} {t:Tr}:X7 t=true->H x=some (.ins (VQ a t) dx [(Za,.ref p)])->jD H p t->QC a H x t
 |nt {x dx p y:qd} {u:Tr}:H x=some (.ins (a 105) dx [(Za,.ref p),(Zw,.ref y)])->jD H p (.nt u)->QC a H y u->QC a H x (.nt u)
 |thr {x dx p y:qd} {u:Tr}:H x=some (.ins (a 92) dx [(Za,.ref p),(Zw,.ref y)])->jD H p (.thr u)->QC a H y u->QC a H x (.thr u)
 |jN {x dx p y z:qd} {u v:Tr}:H x=some (.ins (a 85) dx [(Za,.ref p),(Zu,.ref y),(Zx,.ref z)])->jD H p (.jN u v)->QC a H y u->QC a H z v->QC a H x (.jN u v)
 |jL {x dx p y z:qd} {u v:Tr}:H x=some (.ins (a 89) dx [(Za,.ref p),(Zu,.ref y),(Zx,.ref z)])->jD H p (.jL u v)->QC a H y u->QC a H z v->QC a H x (.jL u v)
def QC.kl{x:qd}(h:QC a H x t)(k:KL a H H'):QC a H' x t:=by
 induction h with
 |lf l e t=>exact .lf l (k.inst e rfl) (t.kl k)
 |nt e t _ b=>exact .nt (k.inst e rfl) (t.kl k) b
 |thr e t _ b=>exact .thr (k.inst e rfl) (t.kl k) b
 |jN e t _ _ b c=>exact .jN (k.inst e rfl) (t.kl k) b c
 |jL e t _ _ b c=>exact .jL (k.inst e rfl) (t.kl k) b c
def QC.mono{x:qd}(h:QC a H x t)(k:Qi H H'):QC a H' x t:=h.kl (KL.of k)
def Dh(c:CD):Tr->Bool
 |.ans=>!decide (c.an="")
 |.word w=>decide (w∈xD c.t++xD c.b)
 |.title w=>decide (w∈xD c.t)
 |.frm w=>decide (c.s=w)
 |.days l h=>decide (l<=c.d)&&decide (c.d<=h)
 |.inn w=>decide (c.fo=w)
 |.yK w=>decide (w∈c.ms)
 |_=>true
def yv:Tr->qb CD->qb Bool
 |.nt u,cs=>(yv u cs).map (!·)
 |.thr u,cs=>(yv u cs).map λb=>decide (((yv u cs).count true:Int) > if b then 1 else 0)
 |.jN u v,cs=>List.zipWith (·&& ·) (yv u cs) (yv v cs)
 |.jL u v,cs=>List.zipWith (·|| ·) (yv u cs) (yv v cs)
 |t,cs=>cs.map λc=>Dh c t
def YT:Tr->CD->qb CD->Bool
 |.nt u,c,os=>!YT u c os
 |.thr u,c,os=>((yv u (c::os)).drop 1).any id
 |.jN u v,c,os=>YT u c os&&YT v c os
 |.jL u v,c,os=>YT u c os||YT v c os
 |t,c,_=>Dh c t
theorem Ye:∀(t:Tr)(cs:qb CD),(yv t cs).length=cs.length
 |.nt u,cs=>by show((yv u cs).map _).length=_;rw[qi,Ye u]
 |.thr u,cs=>by show((yv u cs).map _).length=_;rw[qi,Ye u]
 |.jN u v,cs=>by show(List.zipWith _ _ _).length=_;rw[xC,Ye u,Ye v,Nat.min_self]
 |.jL u v,cs=>by show(List.zipWith _ _ _).length=_;rw[xC,Ye u,Ye v,Nat.min_self]
 |.any,cs=>qi _
 |.ans,cs=>qi _
 |.word _,cs=>qi _
 |.title _,cs=>qi _
 |.frm _,cs=>qi _
 |.days _ _,cs=>qi _
 |.inn _,cs=>qi _
 |.yK _,cs=>qi _
def HK{ss:qb Stmt}:yV X ss (λ_ _ _=>False):=λ_ _ _ _ _ _ h=>h.elim
def zO{y:qc}(h:decide (x=y)=false)(k:B):if decide (V.str x=V.str y)=true then A else B:=by
 rw[Gd,h];exact QA k
def Us(k:A):if decide (V.str x=V.str x)=true then A else B:=by
 rw[qv rfl];exact QI k
def jD.nin(h:jD H p t)(k:∀c o,H c=some o->C1 o=true->H' c=some o):jD H' p t:=by
 induction h with
 |any e=>exact .any (k _ _ e rfl)
 |ans e=>exact .ans (k _ _ e rfl)
 |word e w=>exact .word (k _ _ e rfl) w
 |title e w=>exact .title (k _ _ e rfl) w
 |frm e w=>exact .frm (k _ _ e rfl) w
 |days e b=>exact .days (k _ _ e rfl) b
 |inn e w=>exact .inn (k _ _ e rfl) w
 |yK e w=>exact .yK (k _ _ e rfl) w
 |nt e _ a=>exact .nt (k _ _ e rfl) a
 |thr e _ a=>exact .thr (k _ _ e rfl) a
 |jN e _ _ a d=>exact .jN (k _ _ e rfl) a d
 |jL e _ _ a d=>exact .jL (k _ _ e rfl) a d
def VN(a:jT)(H H':Hp)(y:qd)(t:Tr):Prop:=∀b,(∀c o,H' c=some o->(H c=none\/C1 o=true)->b c=some o)->QC a b y t
def VN.at(h:VN a H H' y t):QC a H' y t:=h H' λ_ _ e _=>e
def aU(K:Frag):Sp:=λvs H Q _=>∃x dx C p,vs=[.ref x,p]/\kJ K C/\Yp K C Za/\H x=some (.ins C dx [])/\Q .non (upd H x (.ins C dx [(Za,p)]))
def Ej(a:jT)(n:Nat):Sp:=λvs H Q _=>∃p t,vs=[.ref p]/\jD H p t/\t.dp<n/\∀y H',Qi H H'->VN a H H' y t->Q (.ref y) H'
def aB(K:Frag)(a:jT)(n:Nat):Sp:=λvs H Q _=>∃x dx C p s q u,vs=[.ref x,.ref p]/\kJ K C/\Yp K C Za/\Yp K C Zw/\H x=some (.ins C dx [])/\H p=some (.tup [.str s,.ref q])/\jD H q u/\u.dp<n /\
 ∀y H',(∀c o,c≠x->H c=some o->H' c=some o)->H' x=some (.ins C dx [(Za,.ref p),(Zw,.ref y)])->VN a H H' y u->Q .non H'
def aR(K:Frag)(a:jT)(n:Nat):Sp:=λvs H Q _=>∃x dx C p s q u r v,vs=[.ref x,.ref p]/\kJ K C/\Yp K C Za/\Yp K C Zu/\Yp K C Zx/\H x=some (.ins C dx [])/\H p=some (.tup [.str s,.ref q,.ref r])/\jD H q u/\jD H r v/\u.dp<n/\v.dp<n /\
 ∀y z H',(∀c o,c≠x->H c=some o->H' c=some o)->H' x=some (.ins C dx [(Za,.ref p),(Zu,.ref y),(Zx,.ref z)])->VN a H H' y u->VN a H H' z v->Q .non H'
def VN.back(h:VN a H1 H2 y t)(d:∀c,H1 c=none->H c=none):VN a H H2 y t:=λb k=>h b λc u e hc=>k c u e (hc.imp (d c) id)
def VN.fwd{x:qd}(h:VN a H H1 y t)(d:∀c o,c≠x->H1 c=some o->H2 c=some o)(f:∀o,H1 x=some o->C1 o=false)(g:H x≠none):VN a H H2 y t:=λb k=>h b λc u e hc=>by
 have i:c≠x:=λz=>by
  subst z;rcases hc with hc|hc
  .exact g hc
  .rw[f u e] at hc;cases hc
 exact k c u (d c u i e) hc
def X5{x:qd}(nx:H x=none)(a:H dx=none):Qi H (upd (upd H dx (.own x)) x (.ins C dx [])):=λc o e=>by rw[Qj (Qo e nx),Qj (Qo e a)];exact e
def UN{R:VK}(c:kJ K (VQ a t))(n:Yp K (VQ a t) Za)(l:X7 t=true)(tt:jD H p t)(k:∀y H',Qi H H'->VN a H H' y t->R (.ref y) H')(x dx:qd)(nx:H x=none)(d:H dx=none)(ne:dx≠x) :
 aU K [.ref x,.ref p] (upd (upd H dx (.own x)) x (.ins (VQ a t) dx [])) (λv H2=>v=.non/\R (.ref x) H2) E:=by
 have s1:=X5 (C:=VQ a t) nx d;refine⟨x,dx,_,_,U,c,n,Qg,U,k x _ (s1.zE nx) λf b=>?_⟩;refine .lf l (b x _ Qg (.inl nx)) (tt.nin λc o e z=>b c o (s1.zE nx _ _ e) (.inr z))
def CY{s:qc}{R:VK}(c:kJ K C)(f:Yp K C Za)(g:Yp K C Zw)(tt:jD H p t)(e:H p=some (.tup [.str s,.ref q]))(h:jD H q u)(hd:u.dp<n)(k:∀y H',Qi H H'->VN a H H' y t->R (.ref y) H')
 (mk:∀x dx p y H',H' x=some (.ins C dx [(Za,.ref p),(Zw,.ref y)])->jD H' p t->QC a H' y u->QC a H' x t) (x dx:qd) (nx:H x=none) (i:H dx=none) (ne:dx≠x) :
 aB K a n [.ref x,.ref p] (upd (upd H dx (.own x)) x (.ins C dx [])) (λv H2=>v=.non/\R (.ref x) H2) E:=by
 have s1:=X5 (C:=C) nx i;refine⟨x,dx,C,p,s,q,u,U,c,f,g,Qg,s1 _ _ e,h.mono s1,hd,λy H' j ex l=>⟨U,?_⟩⟩;have s2:Qi H H':=λc o z=>j c o (Qo z nx) (s1 _ _ z);refine k x H' s2 λb d=>mk x dx p y b (d x _ ex (.inl nx)) (tt.nin λc o z w=>d c o (s2 _ _ z) (.inr w)) (l b λc o z w=>d c o z (w.imp s1.free id))
def CZ{s:qc}{r:qd}{R:VK}(c:kJ K C)(g:Yp K C Za)(h:Yp K C Zu)(i:Yp K C Zx)(tt:jD H p t)(e:H p=some (.tup [.str s,.ref q,.ref r]))(j:jD H q u)(l:jD H r v)(hd:u.dp<n)(hd2:v.dp<n)(k:∀y H',Qi H H'->VN a H H' y t->R (.ref y) H')
 (mk:∀x dx p y z H',H' x=some (.ins C dx [(Za,.ref p),(Zu,.ref y),(Zx,.ref z)])->jD H' p t->QC a H' y u->QC a H' z v->QC a H' x t) (x dx:qd) (nx:H x=none) (m:H dx=none) (ne:dx≠x) :
 aR K a n [.ref x,.ref p] (upd (upd H dx (.own x)) x (.ins C dx [])) (λv H2=>v=.non/\R (.ref x) H2) E:=by
 have s1:=X5 (C:=C) nx m;refine⟨x,dx,C,p,s,q,u,r,v,U,c,g,h,i,Qg,s1 _ _ e,j.mono s1,l.mono s1,hd,hd2,λy z H' A ex B f=>⟨U,?_⟩⟩;have s2:Qi H H':=λc o z=>A c o (Qo z nx) (s1 _ _ z);refine k x H' s2 λb d=>mk x dx p y z b (d x _ ex (.inl nx)) (tt.nin λc o z w=>d c o (s2 _ _ z) (.inr w)) (B b λc o z w=>d c o z (w.imp s1.free id)) (f b λc o z w=>d c o z (w.imp s1.free id))
def W5(T:Txt P w K mg base a fd):T.k jx 1 39 (aU K):=by
 refine T.ok 39 (λb A outer s H vs Q E d h=>?_) (λvs H Q E h=>by obtain⟨x,dx,C,p,rfl,_⟩:=h;rfl)
 .obtain⟨x,dx,C,p,rfl,c,n,e,k⟩:=h;exact⟨_,(Qd (YR (pv 0) (pv 1) U)),⟨_,U,_,U,x,_,dx,_,U,e,c,n,(by show 0<1000;decide),k⟩⟩
def Rq(T:Txt P w K mg base a fd)(j:T.k jx (3*n+3) 0 (Ej a n)):T.k jx (3*n+4) 50 (aB K a n):=by
 refine T.ok 50 (λr A outer st H vs Q E t h=>?_) (λvs H Q E h=>by obtain⟨x,dx,C,p,s,q,u,rfl,_⟩:=h;rfl)
 .obtain⟨x,dx,C,p,s,q,u,rfl,c,v,B,ex,D,F,hd,k⟩:=h;have d:QF (3*n+3) _:=t;have l:QF 1 _:=d.mono ⋯;refine⟨_,(Qb (Q4 (CM rfl (T 74) (T 92) (W5 T) l (T.B 39) (qV (pv 0) (qV (pv 1) Qe))))
   (Qd (YR (pv 0) (Q7 j d rfl (T 35) (T.F 0).kp (T.B 0) .nil QP (qV (Qp Qt (pv 1) Qa) Qe)) rfl))),?_⟩
  refine⟨_,U,_,U,x,dx,C,_,U,c,v,ex,?_⟩;have f:∀b o,b≠x->H b=some o->(upd H x (.ins C dx [(Za,.ref p)])) b=some o:=λb o z e=>by rw[Qj z];exact e
  have i:∀b o,H b=some o->C1 o=true->(upd H x (.ins C dx [(Za,.ref p)])) b=some o:=λb o e z=>f b o (λy=>by rw[y,ex] at e;cases e;cases z) e;have g:(upd H x (.ins C dx [(Za,.ref p)])) x=some (.ins C dx [(Za,.ref p)]):=Qg;generalize upd H x (.ins C dx [(Za,.ref p)])=H1 at f i g⊢;refine⟨_,U,p,_,_,_,U,U,zu.of (i _ _ D rfl),U,q,u,U,F.nin i,hd,λy H2 s2 G=>?_⟩;have m:=s2 _ _ g;refine⟨_,U,x,_,dx,_,U,m,c,B,(by show 1<1000;decide),?_⟩;refine k y _ (λb o z e=>by rw[Qj z];exact s2 _ _ (f b o z e)) Qg ?_;refine(G.fwd (x:=x) (H2:=upd H2 x _) (λb o z e=>by rw[Qj z];exact e) (λo z=>by rw[m] at z;cases z;rfl) (by rw[g];exact λz=>nomatch z)).back λb e=>?_
  cases z:H b with
  |none=>rfl
  |some o=>
   have I:b≠x:=λy=>by rw[y,g] at e;cases e
   rw[f b o I z] at e;cases e
def Rt(T:Txt P w K mg base a fd)(m:T.k jx (3*n+3) 0 (Ej a n)):T.k jx (3*n+4) 55 (aR K a n):=by
 refine T.ok 55 (λV A outer st H vs Q E X h=>?_) (λvs H Q E h=>by obtain⟨x,dx,C,p,s,q,u,r,v,rfl,_⟩:=h;rfl)
 .obtain⟨x,dx,C,p,s,q,u,r,v,rfl,c,Y,Z,n3,ex,S,hq,J,hd,hd2,k⟩:=h;have d:QF (3*n+3) _:=X;have F:QF 1 _:=d.mono ⋯;refine⟨_,(Qb (Q4 (CM rfl (T 74) (T 92) (W5 T) F (T.B 39) (qV (pv 0) (qV (pv 1) Qe))))
   (Qb (YR (pv 0) (Q7 m d rfl (T 35) (T.F 0).kp (T.B 0) .nil QP (qV (Qp Qt (pv 1) Qa) Qe)) rfl)
   (Qd (YR (pv 0) (Q7 m d rfl (T 35) (T.F 0).kp (T.B 0) .nil QP (qV (Qp Qt (pv 1) Qa) Qe)) rfl)))),?_⟩
  refine⟨_,U,_,U,x,dx,C,_,U,c,Y,ex,?_⟩;have f:∀b o,b≠x->H b=some o->(upd H x (.ins C dx [(Za,.ref p)])) b=some o:=λb o z e=>by rw[Qj z];exact e
  have j:∀b o,H b=some o->C1 o=true->(upd H x (.ins C dx [(Za,.ref p)])) b=some o:=λb o e z=>f b o (λy=>by rw[y,ex] at e;cases e;cases z) e;have g:(upd H x (.ins C dx [(Za,.ref p)])) x=some (.ins C dx [(Za,.ref p)]):=Qg;generalize upd H x (.ins C dx [(Za,.ref p)])=H1 at f j g⊢;have L:∀b,H1 b=none->H b=none:=λb e=>by
   cases z:H b with
   |none=>rfl
   |some o=>
    have I:b≠x:=λy=>by rw[y,g] at e;cases e
    rw[f b o I z] at e;cases e
  refine⟨_,U,p,_,_,_,U,U,zu.of (j _ _ S rfl),U,q,u,U,hq.nin j,hd,λy H2 s2 cn=>?_⟩;have B:=s2 _ _ g;refine⟨_,U,x,_,dx,_,U,B,c,Z,(by show 1<1000;decide),?_⟩;have i:∀b o,b≠x->H2 b=some o->(upd H2 x (.ins C dx (UQ Zu (.ref y) [(Za,.ref p)]))) b=some o:=λb o z e=>by rw[Qj z];exact e
  have G:∀b o,H2 b=some o->C1 o=true->(upd H2 x (.ins C dx (UQ Zu (.ref y) [(Za,.ref p)]))) b=some o:=λb o e z=>i b o (λy=>by rw[y,B] at e;cases e;cases z) e;have l:(upd H2 x (.ins C dx (UQ Zu (.ref y) [(Za,.ref p)]))) x=some (.ins C dx [(Za,.ref p),(Zu,.ref y)]):=Qg;generalize upd H2 x (.ins C dx (UQ Zu (.ref y) [(Za,.ref p)]))=M at i G l⊢;have N:VN a H1 M y u:=cn.fwd (x:=x) i (λo z=>by rw[B] at z;cases z;rfl) (by rw[g];exact λz=>nomatch z);have t:∀b o,H b=some o->C1 o=true->M b=some o:=λb o e z=>G b o (s2 _ _ (j b o e z)) z;refine⟨_,U,p,_,_,_,U,U,zu.of (t _ _ S rfl),U,r,v,U,J.nin t,hd2,λy2 H4 s4 O=>?_⟩;have D:=s4 _ _ l;refine⟨_,U,x,_,dx,_,U,D,c,n3,(by show 2<1000;decide),?_⟩;refine k y y2 _ (λb o z e=>by rw[Qj z];exact s4 _ _ (i b o z (s2 _ _ (f b o z e)))) Qg ?_ ?_
  .refine VN.back (H1:=H1) ?_ L;have c4:VN a H1 H4 y u:=λR kk=>N R λc o e z=>kk c o (s4 _ _ e) z;exact c4.fwd (x:=x) (λb o z e=>by rw[Qj z];exact e) (λo z=>by rw[D] at z;cases z;rfl) (by rw[g];exact λz=>nomatch z)
  .refine VN.back (H1:=M) (O.fwd (x:=x) (λb o z e=>by rw[Qj z];exact e) (λo z=>by rw[D] at z;cases z;rfl) (by rw[l];exact λz=>nomatch z)) λb e=>?_;have I:b≠x:=λy=>by rw[y,l] at e;cases e
   cases z:H b with
   |none=>rfl
   |some o=>rw[i b o I (s2 _ _ (f b o I z))] at e;cases e
theorem CS(T:Txt P w K mg base a fd):∀n,T.k jx (3*n+3) 0 (Ej a n)
 |0=>by
  refine T.ok 0 (λo A outer st H vs Q E u h=>?_) (λvs H Q E h=>by obtain⟨p,t,rfl,_⟩:=h;rfl)
  .obtain⟨p,t,_,_,h,_⟩:=h;exact absurd h (yJ _)
 |n+1=>by
  refine T.ok 0 (λo A outer st H vs Q E u h=>?_) (λvs H Q E h=>by obtain⟨p,t,rfl,_⟩:=h;rfl);obtain⟨p,t,rfl,tt,hd,k⟩:=h;have c:QF (3*n+4+1) _:=u;have d:=c;have b:QF (1+1) _:=c.mono ⋯;refine⟨_,(Qb (Ql (i:=1) (sc 0).nd (Qp Qt (pv 0) Qa))
   (Qb (Qu (Qn QH (pv 1) Qf) (Qd (Qk (Y3 (T 119) (W5 T) b rfl (T 118) (T.B 39) .nil QP (qV (pv 0) Qe)))) Qq)
   (Qb (Qu (Qn QH (pv 1) Qf) (Qd (Qk (Y3 (T 124) (W5 T) b rfl (T 123) (T.B 39) .nil QP (qV (pv 0) Qe)))) Qq)
   (Qb (Qu (Qn QH (pv 1) Qf) (Qd (Qk (Y3 (T 129) (W5 T) b rfl (T 128) (T.B 39) .nil QP (qV (pv 0) Qe)))) Qq)
   (Qb (Qu (Qn QH (pv 1) Qf) (Qd (Qk (Y3 (T 134) (W5 T) b rfl (T 133) (T.B 39) .nil QP (qV (pv 0) Qe)))) Qq)
   (Qb (Qu (Qn QH (pv 1) Qf) (Qd (Qk (Y3 (T 139) (W5 T) b rfl (T 138) (T.B 39) .nil QP (qV (pv 0) Qe)))) Qq)
   (Qb (Qu (Qn QH (pv 1) Qf) (Qd (Qk (Y3 (T 144) (W5 T) b rfl (T 143) (T.B 39) .nil QP (qV (pv 0) Qe)))) Qq)
   (Qb (Qu (Qn QH (pv 1) Qf) (Qd (Qk (Y3 (T 149) (W5 T) b rfl (T 148) (T.B 39) .nil QP (qV (pv 0) Qe)))) Qq)
   (Qb (Qu (Qn QH (pv 1) Qf) (Qd (Qk (Y3 (T 154) (W5 T) b rfl (T 153) (T.B 39) .nil QP (qV (pv 0) Qe)))) Qq)
   (Qb (Qu (Qn QH (pv 1) Qf) (Qd (Qk (Y3 (T 159) (Rq T (CS T n)) c rfl (T 158) (T.B 50) .nil QP (qV (pv 0) Qe)))) Qq)
   (Qb (Qu (Qn QH (pv 1) Qf) (Qd (Qk (Y3 (T 169) (Rt T (CS T n)) d rfl (T 168) (T.B 55) .nil QP (qV (pv 0) Qe)))) Qq)
   (Qb (Qu (Qn QH (pv 1) Qf) (Qd (Qk (Y3 (T 174) (Rt T (CS T n)) d rfl (T 173) (T.B 55) .nil QP (qV (pv 0) Qe)))) Qq)
   (Qb (Qu (Qn QH (pv 1) Qf) (Qd (Qk (Y3 (T 164) (Rq T (CS T n)) c rfl (T 163) (T.B 50) .nil QP (qV (pv 0) Qe)))) Qq)
   HK))))))))))))),?_⟩
  have q:=tt
  cases q with
  |any e=>
   refine⟨_,U,p,_,_,_,U,U,zu.of e,U,?_⟩;refine⟨_,U,U,_,U,Us ?_⟩;exact⟨_,U,UN (a:=a) (t:=.any) (T 75) (T 76) rfl tt k⟩
  |word e hw=>
   refine⟨_,U,p,_,_,_,U,U,zu.of e,U,?_⟩;refine⟨_,U,U,_,U,zO ∅ ?_⟩;refine⟨_,U,U,_,U,Us ?_⟩;exact⟨_,U,UN (a:=a) (t:=.word _) (T 37) (T 38) rfl tt k⟩
  |title e hw=>
   refine⟨_,U,p,_,_,_,U,U,zu.of e,U,?_⟩;(iterate 2 refine⟨_,U,U,_,U,zO ∅ ?_⟩);refine⟨_,U,U,_,U,Us ?_⟩;exact⟨_,U,UN (a:=a) (t:=.title _) (T 39) (T 40) rfl tt k⟩
  |frm e hw=>
   refine⟨_,U,p,_,_,_,U,U,zu.of e,U,?_⟩;(iterate 3 refine⟨_,U,U,_,U,zO ∅ ?_⟩);refine⟨_,U,U,_,U,Us ?_⟩;exact⟨_,U,UN (a:=a) (t:=.frm _) (T 41) (T 42) rfl tt k⟩
  |days e f=>
   refine⟨_,U,p,_,_,_,U,U,zu.of e,U,?_⟩;(iterate 4 refine⟨_,U,U,_,U,zO ∅ ?_⟩);refine⟨_,U,U,_,U,Us ?_⟩;exact⟨_,U,UN (a:=a) (t:=.days _ _) (T 26) (T 27) rfl tt k⟩
  |inn e hw=>
   refine⟨_,U,p,_,_,_,U,U,zu.of e,U,?_⟩;(iterate 5 refine⟨_,U,U,_,U,zO ∅ ?_⟩);refine⟨_,U,U,_,U,Us ?_⟩;exact⟨_,U,UN (a:=a) (t:=.inn _) (T 43) (T 44) rfl tt k⟩
  |yK e hw=>
   refine⟨_,U,p,_,_,_,U,U,zu.of e,U,?_⟩;(iterate 6 refine⟨_,U,U,_,U,zO ∅ ?_⟩);refine⟨_,U,U,_,U,Us ?_⟩;exact⟨_,U,UN (a:=a) (t:=.yK _) (T 45) (T 46) rfl tt k⟩
  |ans e=>
   refine⟨_,U,p,_,_,_,U,U,zu.of e,U,?_⟩;(iterate 7 refine⟨_,U,U,_,U,zO ∅ ?_⟩);refine⟨_,U,U,_,U,Us ?_⟩;exact⟨_,U,UN (a:=a) (t:=.ans) (T 77) (T 78) rfl tt k⟩
  |nt e f=>
   refine⟨_,U,p,_,_,_,U,U,zu.of e,U,?_⟩;(iterate 8 refine⟨_,U,U,_,U,zO ∅ ?_⟩);refine⟨_,U,U,_,U,Us ?_⟩;exact⟨_,U,CY (a:=a) (n:=n) (T 28) (T 79) (T 47) tt e f (by simp only[Tr.dp] at hd;omega) k λx dx r y H' g j l=>.nt g j l⟩
  |jN e f m=>
   refine⟨_,U,p,_,_,_,U,U,zu.of e,U,?_⟩;(iterate 9 refine⟨_,U,U,_,U,zO ∅ ?_⟩);refine⟨_,U,U,_,U,Us ?_⟩;exact⟨_,U,CZ (a:=a) (n:=n) (T 18) (T 81) (T 49) (T 50) tt e f m (by simp only[Tr.dp] at hd;omega) (by simp only[Tr.dp] at hd;omega) k λx dx r y z H' g j l s=>.jN g j l s⟩
  |jL e f m=>
   refine⟨_,U,p,_,_,_,U,U,zu.of e,U,?_⟩;(iterate 10 refine⟨_,U,U,_,U,zO ∅ ?_⟩);refine⟨_,U,U,_,U,Us ?_⟩;exact⟨_,U,CZ (a:=a) (n:=n) (T 19) (T 82) (T 51) (T 52) tt e f m (by simp only[Tr.dp] at hd;omega) (by simp only[Tr.dp] at hd;omega) k λx dx r y z H' g j l s=>.jL g j l s⟩
  |thr e f=>
   refine⟨_,U,p,_,_,_,U,U,zu.of e,U,?_⟩;(iterate 11 refine⟨_,U,U,_,U,zO ∅ ?_⟩);refine⟨_,U,U,_,U,Us ?_⟩;exact⟨_,U,CY (a:=a) (n:=n) (T 29) (T 80) (T 48) tt e f (by simp only[Tr.dp] at hd;omega) k λx dx r y H' g j l=>.thr g j l⟩
inductive Xm(a:jT)(t:Tr)(vs:qb V)(H:Hp)(Q:VK)(E:XK):Prop
 |mk:∀x c l ys cd cs,vs=[.ref x,.ref c,.ref l]->QC a H x t->UT a H c cd->Yy cd->H l=some (.lst ys)->Yi a H ys cs->(∀z∈cs,Yy z)->cs.length<=100->(∀H',KL a H H'->Q (.bl (YT t cd cs)) H')->Xm a t vs H Q E
inductive Eg(a:jT)(t:Tr)(vs:qb V)(H:Hp)(Q:VK)(E:XK):Prop
 |mk:∀x l ys cs,vs=[.ref x,.ref l]->QC a H x t->H l=some (.lst ys)->Yi a H ys cs->(∀z∈cs,Yy z)->cs.length<=200->(∀H' m,KL a H H'->H m=none->H' m=some (.lst ((yv t cs).map V.bl))->Q (.ref m) H')->Eg a t vs H Q E
def Pf{T xs:qf}{w:qc}:(YQ (kn T xs) (inr w)).isSome=decide (w∈xs):=by
 rw[GX];by_cases h:w∈xs
 .rw[qG (GS h),qv h];rfl
 .rw[qz λz=>h (CO z),qr h];rfl
def SU{T xs:qf}{w:qc}(a:∀u∈T,u∈xs):(YQ (kn T xs) (inr w)).getD (V.bl false)=.bl (decide (w∈T)):=by
 rw[GX];by_cases h:w∈xs
 .rw[qG (GS h)];rfl
 .rw[qz λz=>h (CO z),qr λz=>h (a _ z)];rfl
def MS(T:Txt P w K mg base a fd):T.k jx 3 40 (Xm a .any):=by
 refine T.ok 40 (λb A outer s H vs Q E f h=>?_)
 .obtain⟨x,c,l,ys,cd,cs,rfl,g,hc,i,j,d,e,m,k⟩:=h;exact⟨_,(Qd (Qk Ur)),k H (KL.refl a H)⟩
def HX{u:qc}(T:Txt P w K mg base a fd):T.k jx 3 43 (Xm a (.word u)):=by
 refine T.ok 43 (λe A outer s H vs Q E i h=>?_)
 .obtain⟨x,c,l,ys,cd,cs,rfl,j,hc,m,B,n,o,C,k⟩:=h;have p:=Dv i;obtain⟨g,⟨F,y,q,b⟩,G⟩:=hc;obtain⟨r,f,t⟩:=b.at
  cases j with
  |lf _ ex tt=>
   cases tt with
   |word v hw=>
    refine⟨_,(Qd (Qk (Sv (Sx p (Qp Qt (Qw (pv 0) U) Qa) (T.mn (Qw (pv 1) U) (T 1) (T 85) (CP T)))))),?_⟩;refine⟨_,U,x,_,_,_,_,U,ex,(T 37),(T 38),U,_,_,_,_,U,U,zu.of v,U,?_⟩;refine⟨_,U,c,_,_,_,_,U,q,(T 5),(T 13),U,y,r,_,U,t,U,?_⟩;refine⟨y,_,_,_,_,_,U,b,m.g,λD H' z d=>?_⟩;refine⟨D,_,U,.inl ⟨_,inr u,.inl d.2,U,U⟩,?_⟩;rw[Pf];exact k H' (KL.known b z d)
def Ew{u:qc}(T:Txt P w K mg base a fd):T.k jx 3 44 (Xm a (.title u)):=by
 refine T.ok 44 (λi A outer s H vs Q E j h=>?_)
 .obtain⟨x,c,l,ys,cd,cs,rfl,m,hc,n,F,o,p,G,k⟩:=h;have q:=Dv j;obtain⟨g,⟨I,y,r,b⟩,J⟩:=hc;obtain⟨t,f,v⟩:=b.at
  cases m with
  |lf _ ex tt=>
   cases tt with
   |title B hw=>
    refine⟨_,(Qd (Qk (Mn q (T.mn (Qw (pv 1) U) (T 1) (T 85) (CP T)) (Qp Qt (Qw (pv 0) U) Qa) Ur ⟨U,U,U,U⟩))),?_⟩;refine⟨_,U,c,_,_,_,_,U,r,(T 5),(T 13),U,y,t,_,U,v,U,?_⟩;refine⟨y,_,_,_,_,_,U,b,n.g,λD H' C d=>?_⟩;have e:=KL.known b C d;refine⟨D,U,.inl ⟨_,.inl d.2⟩,_,U,x,_,_,_,_,U,e.inst ex rfl,(T 39),(T 40),U,_,_,_,_,U,U,zu.of (e.keep B rfl),U,?_⟩;refine⟨_,.inl ⟨_,inr u,.inl d.2,U,U⟩,?_⟩;rw[SU λz hz=>zK _ hz];exact k H' e
def MP{u:qc}(T:Txt P w K mg base a fd):T.k jx 3 45 (Xm a (.frm u)):=by
 refine T.ok 45 (λb A outer s H vs Q E q h=>?_)
 .obtain⟨x,c,l,ys,cd,cs,rfl,d,hc,r,t,e,i,v,k⟩:=h;obtain⟨g,⟨z,y,j,m⟩,B⟩:=hc;obtain⟨n,f,o⟩:=m.at
  cases d with
  |lf _ ex tt=>
   cases tt with
   |frm p hw=>
    refine⟨_,(Qd (Qk (YH QH (Qw (Qw (pv 1) U) rfl) (Qp Qt (Qw (pv 0) U) Qa)))),?_⟩;refine⟨_,U,c,_,_,_,_,U,j,(T 5),(T 13),U,y,_,n,_,_,U,o,(T 1),(T 53),U,_,U,x,_,_,_,_,U,ex,(T 41),(T 42),U,_,_,_,_,U,U,zu.of p,U,U,?_⟩;rw[Gd];exact k H (KL.refl a H)
def MO{u:qc}(T:Txt P w K mg base a fd):T.k jx 3 47 (Xm a (.inn u)):=by
 refine T.ok 47 (λb A outer s H vs Q E m h=>?_)
 .obtain⟨x,c,l,ys,cd,cs,rfl,d,hc,n,o,e,f,p,k⟩:=h;obtain⟨g,⟨q,y,i,r⟩,t⟩:=hc
  cases d with
  |lf _ ex tt=>
   cases tt with
   |inn j hw=>
    refine⟨_,(Qd (Qk (YH QH (Qw (pv 1) U) (Qp Qt (Qw (pv 0) U) Qa)))),?_⟩;refine⟨_,U,c,_,_,_,_,U,i,(T 5),(T 30),U,_,U,x,_,_,_,_,U,ex,(T 43),(T 44),U,_,_,_,_,U,U,zu.of j,U,U,?_⟩;rw[Gd];exact k H (KL.refl a H)
def MN{u:qc}(T:Txt P w K mg base a fd):T.k jx 3 48 (Xm a (.yK u)):=by
 refine T.ok 48 (λb A outer s H vs Q E n h=>?_)
 .obtain⟨x,c,l,ys,cd,cs,rfl,d,hc,o,p,e,f,q,k⟩:=h;obtain⟨g,⟨r,y,i,t⟩,j⟩:=hc
  cases d with
  |lf _ ex tt=>
   cases tt with
   |yK m hw=>
    refine⟨_,(Qd (Qk (YH Vv (Qp Qt (Qw (pv 0) U) Qa) (Qw (pv 1) U) (by with_unfolding_all rfl)))),?_⟩;refine⟨_,U,x,_,_,_,_,U,ex,(T 45),(T 46),U,_,_,_,_,U,U,zu.of m,U,_,U,c,_,_,_,_,U,i,(T 5),(T 31),U,g,_,U,.inl (zm.of j),U,Q2 _,?_⟩;rw[qz ∅,YC];exact k H (KL.refl a H)
def MT(T:Txt P w K mg base a fd):T.k jx 3 49 (Xm a .ans):=by
 refine T.ok 49 (λb A outer s H vs Q E o h=>?_)
 .obtain⟨x,c,l,ys,cd,cs,rfl,p,hc,q,r,d,e,t,k⟩:=h;obtain⟨g,⟨u,y,i,j⟩,v⟩:=hc;obtain⟨m,f,n⟩:=j.at
  refine⟨_,(Qd (Qk (YH Km (Qw (Qw (pv 1) U) rfl) Qf))),?_⟩;refine⟨_,U,c,_,_,_,_,U,i,(T 5),(T 13),U,y,_,m,_,_,U,n,(T 1),(T 57),U,U,?_⟩;rw[Vg];exact k H (KL.refl a H)
def HY{lo:Int}(T:Txt P w K mg base a fd):T.k jx 3 46 (Xm a (.days lo hi)):=by
 refine T.ok 46 (λj A outer s H vs Q E u h=>?_)
 .obtain⟨x,c,l,ys,cd,cs,rfl,m,hc,v,z,n,o,B,k⟩:=h;obtain⟨g,⟨C,y,p,q⟩,D⟩:=hc;obtain⟨r,f,t⟩:=q.at
  cases m with
  |lf _ ex tt=>
   cases tt with
   |days i F=>
    refine⟨_,(Qd (Qk (GD Vu Vu (Qp Qt (Qw (pv 0) U) Qa) (Qw (Qw (pv 1) U) rfl) (Qp Qt (Qw (pv 0) U) Qa)))),?_⟩;have b:=k H (KL.refl a H);refine⟨_,U,x,_,_,_,_,U,ex,(T 26),(T 27),U,_,_,_,_,U,U,zu.of i,U,_,U,c,_,_,_,_,U,p,(T 5),(T 13),U,y,_,r,_,_,U,t,(T 1),(T 56),U,_,_,U,U,_,U,?_⟩;by_cases d:lo<=cd.d
    .rw[qv d];refine QI ⟨_,U,x,_,_,_,_,U,ex,(T 26),(T 27),U,_,_,_,_,U,U,zu.of i,U,_,_,U,U,?_⟩;have e:YT (.days lo hi) cd cs=decide (cd.d<=hi):=by show(decide (lo<=cd.d)&&decide (cd.d<=hi))=_;rw[qv d,yp]
     rw[e] at b;exact b
    .rw[qr d];refine QA ?_;have e:YT (.days lo hi) cd cs=false:=by show(decide (lo<=cd.d)&&decide (cd.d<=hi))=_;rw[qr d,yw]
     rw[e] at b;exact b
theorem B5{zs:qb V}{fr:qb (Nat×qc)}{k:TE}(hz:xs.length<=sizeLine)(t:zs.length=xs.length)(q:H1 l=some (.lst xs))
 (f:∀(i:Nat)(x z:V)(c:Hp)(Q':VK),xs[i]?=some x->zs[i]?=some z->KL a H1 c->(∀g,KL a c g->Q' z g)->k (some x::xA σ fr) c Q')
 (r:∀D H2,H1 D=none->KL a H1 H2->H2 D=some (.lst zs)->Q (.ref D) H2) :
 Ug (g7 K l) fr AA k σ H1 Q:=by
 intro D h;refine⟨λi m ys H2=>m=xs.length-i/\i<=xs.length/\ys=zs.take i/\KL a H1 H2/\H2 D=some (.lst ys),⟨xs.length,by simp,zb _,by simp,KL.of (Qi.zL h),Qg⟩,?_⟩;rintro i m ys H2 ⟨rfl,hi,rfl,s2,j⟩;refine⟨j,?_⟩;have b:zm K H2 l xs:=zm.of (s2.keep q rfl);by_cases d:i<xs.length
 .refine .inr ⟨⟨xs,xs[i],b,qx d⟩,?_⟩;rintro v c ⟨rfl,s⟩;refine Xl (QI ?_);have n:zs[i]?=some zs[i]:=qx ⋯;refine f i v zs[i] c _ (by rw[s xs b]) n s2 λg o=>?_;have p:=o.keep j rfl;refine⟨p,by rw[zi];omega,xs.length-(i+1),⋯,U,d,by rw[zo,n];rfl,(s2.trans o).zE h (λu z=>by rw[p] at z;cases z),Qg⟩
 .have e:i=xs.length:=by omega
  subst e;refine .inl ⟨⟨xs,b,qp _⟩,r D H2 h s2 ?_⟩;rw[j,qP ⋯]
def QC.obj{x:qd}(h:QC a H x t):∃dx b,H x=some (.ins (VQ a t) dx b)/\b.lookup ("holds":qc)=none/\b.lookup ("truths":qc)=none/\b.lookup ("tree":qc)=none/\∃p,b.lookup Za=some (.ref p)/\jD H p t:=by
 cases h with
 |lf l e t=>exact⟨_,_,e,U,U,U,_,U,t⟩
 |nt e t _=>exact⟨_,_,e,U,U,U,_,U,t⟩
 |thr e t _=>exact⟨_,_,e,U,U,U,_,U,t⟩
 |jN e t _ _=>exact⟨_,_,e,U,U,U,_,U,t⟩
 |jL e t _ _=>exact⟨_,_,e,U,U,U,_,U,t⟩
def IB(h:X7 t=true):YT t c os=Dh c t:=by cases t<;>first|rfl|cases h
def Lc(h:X7 t=true):yv t cs=cs.map λc=>Dh c t:=by cases t<;>first|rfl|cases h
def Txt.cls(T:Txt P w K mg base a fd):∀t:Tr,kJ K (VQ a t)
 |.any=>(T 75)
 |.ans=>(T 77)
 |.word _=>(T 37)
 |.title _=>(T 39)
 |.frm _=>(T 41)
 |.days _ _=>(T 26)
 |.inn _=>(T 43)
 |.yK _=>(T 45)
 |.nt _=>(T 28)
 |.thr _=>(T 29)
 |.jN _ _=>(T 18)
 |.jL _ _=>(T 19)
def Txt.wZ(T:Txt P w K mg base a fd):∀t:Tr,Yp K (VQ a t) Za
 |.any=>(T 76)
 |.ans=>(T 78)
 |.word _=>(T 38)
 |.title _=>(T 40)
 |.frm _=>(T 42)
 |.days _ _=>(T 27)
 |.inn _=>(T 44)
 |.yK _=>(T 46)
 |.nt _=>(T 79)
 |.thr _=>(T 80)
 |.jN _ _=>(T 81)
 |.jL _ _=>(T 82)
variable (P w K mg base a)
def yu(k:Nat)(t:Tr):Prop:=∃f fd,Xh K (VQ a t) "holds" f/\Yl K fd ["self","card","others"] []/\Y6 P w K mg base jx k f fd ["self","card","others"] (Xm a t)
def wh(k:Nat)(t:Tr):Prop:=∃f fd,Xh K (VQ a t) "truths" f/\Yl K fd ["self","cards"] []/\Y6 P w K mg base jx k f fd ["self","cards"] (Eg a t)
variable {P w K mg base a}
theorem HV{k:Nat}(lf:X7 t=true)(T:Txt P w K mg base a fd)(G:yu P w K mg base a k t):T.k jx (k+1) 41 (Eg a t):=by
 obtain⟨f,j,M,b,G⟩:=G;refine T.ok 41 (λu A outer s H vs Q E v h=>?_)
 .obtain⟨x,l,ys,cs,rfl,B,o,d,m,S,C⟩:=h;have n:QF k _:=v;refine⟨_,(Qd (Qk (WK (sc:=Qr (sO 41)) (N:=(nn 41)) (fr:=[(0,"self")]) (wO rfl rfl) rfl rfl rfl (Y1 (pv 1)) (λ_ _ _ _=>VF) (λ_ _ _ _=>(Yv (pv 1) (qV (pv 0) (qV (Qy Qm) Qe))))))),?_⟩;refine⟨_,U,l,U,⟨_,zm.of o⟩,B5 (a:=a) (zs:=(yv t cs).map V.bl) (Yj ((by rw[d.len];omega))) (by rw[qi,Ye,d.len]) o ?_ ?_⟩
  .intro i y z X Q' hi hz r q;obtain⟨c,cd,rfl,e,hc⟩:=d.at i y hi;rw[qC,Lc lf,qC,e] at hz;cases hz;have F:=m _ (qL e);have g:=B.kl r;obtain⟨dx,I,ex,J,Y,Z,_⟩:=g.obj;refine⟨_,U,x,dx,I,_,f,j,_,_,k,U,ex,T.cls t,M,G,n,b,J,_,U,K3,λp H4 hp s4 L=>?_⟩;refine⟨x,c,p,[],cd,[],U,g.mono s4,(hc.kl r).kl (KL.of s4),F,L,.nil,nofun,zb _,λO R=>?_⟩;rw[IB lf];exact q O ((KL.of s4).trans R)
  .intro D H2 e g r;exact C H2 D g e r
def O2{k:Nat}(T:Txt P w K mg base a fd)(G:yu P w K mg base a k u):T.k jx (k+1) 51 (Xm a (.nt u)):=by
 obtain⟨f,d,M,b,G⟩:=G;refine T.ok 51 (λm A outer s H vs Q E n h=>?_)
 .obtain⟨x,c,l,ys,cd,cs,rfl,o,hc,p,q,e,g,r,t⟩:=h;have i:QF k _:=n
  cases o with
  |lf z _ _=>cases z
  |nt ex tt j=>
   obtain⟨v,y,B,C,F,I,_⟩:=j.obj;refine⟨_,(Qd (Qk (GC (Yv (Qw (pv 0) U) (qV (pv 1) (qV (pv 2) Qe)))))),?_⟩;refine⟨_,U,x,_,_,_,_,U,ex,(T 28),(T 47),U,_,v,y,_,f,d,_,_,k,U,B,T.cls u,M,G,i,b,C,_,U,_,U,?_⟩;exact⟨_,c,l,ys,cd,cs,U,j,hc,p,q,e,g,r,λH' D=>⟨_,U,t H' D⟩⟩
theorem OY{k:Nat}(T:Txt P w K mg base a fd)(G:wh P w K mg base a k u):T.k jx (k+1) 52 (Eg a (.nt u)):=by
 obtain⟨f,c,M,b,G⟩:=G;refine T.ok 52 (λr A outer s H vs Q E t h=>?_)
 .obtain⟨x,l,ys,cs,rfl,v,B,d,e,C,F⟩:=h;have g:QF k _:=t
  cases v with
  |lf z _ _=>cases z
  |nt ex tt j=>
   obtain⟨I,J,L,Y,O,Z,_⟩:=j.obj;refine⟨_,(Qd (Qk (WK (sc:=Qr (sO 52)) (N:=(nn 52)) (fr:=[]) (wO rfl rfl) rfl rfl rfl (Y1 (Yv (Qw (pv 0) U) (qV (pv 1) Qe))) (λ_ _ _ _=>VF) (λ_ _ _ _=>(GC (pv 0)))))),?_⟩;refine⟨_,U,x,_,_,_,_,U,ex,(T 28),(T 47),U,_,I,J,_,f,c,_,_,k,U,L,T.cls u,M,G,g,b,O,_,U,?_⟩;refine⟨_,l,ys,cs,U,j,B,d,e,C,λH' m n nm em=>?_⟩;have hlen:=Ye u cs;refine⟨m,U,⟨_,zm.of em⟩,B5 (a:=a) (zs:=(yv (.nt u) cs).map V.bl) (Yj ((by rw[qi];omega))) (by rw[qi,qi,Ye,Ye]) em ?_ λD H2 R S X=>F H2 D (n.trans S) (n.free R) X⟩;intro i y z o Q' hi hz k3 q;rw[qC,show yv (.nt u) cs=(yv u cs).map (!·) from rfl,qC] at hz;rw[qC] at hi
   cases p:(yv u cs)[i]? with
   |none=>rw[p] at hi;cases hi
   |some bb=>
    rw[p] at hi hz;cases hi;cases hz;exact⟨_,U,_,U,q o (KL.refl a o)⟩
theorem MM{k:Nat}(T:Txt P w K mg base a fd)(G:wh P w K mg base a k u):T.k jx (k+1) 53 (Xm a (.thr u)):=by
 obtain⟨f,g,M,b,G⟩:=G;refine T.ok 53 (λq A outer s H vs Q E r h=>?_)
 .obtain⟨x,c,l,ys,cd,cs,rfl,t,hc,v,y,e,i,X,B⟩:=h;have j:QF k _:=r
  cases t with
  |lf z _ _=>cases z
  |thr ex tt o=>
   obtain⟨C,D,F,Y,I,Z,_⟩:=o.obj;refine⟨_,(Qd (Qk (Qv (NM rfl) rfl (T 117) boot_any (qV (QT Yd (Yv (Qw (pv 0) U) (qV (Qh QW (Qy (Qc (pv 1) Qm)) (pv 2)) Qe)) (QR Qa) Yn) Qe)))),?_⟩;refine⟨_,U,x,_,_,_,_,U,ex,(T 29),(T 48),U,_,C,D,_,f,g,_,_,k,U,F,T.cls u,M,G,j,b,I,_,U,Uv,λJ H1 n1 s1 e1=>?_⟩;have n:=s1 _ _ y;have hlen:=e.len;refine⟨_,U,J,l,_,_,U,U,e1,n,Yj ((by rw[ql];omega)),λL H2 n2 s2 N=>?_⟩;have d:=s1.trans s2;refine⟨_,L,_,cd::cs,U,o.mono d,N,.cons (hc.kl (KL.of d)) (e.kl (KL.of d)),(λz hz=>by rcases qy.mp hz with rfl|hz;exact v;exact i z hz),by rw[qw];omega,λH' m O nm em=>?_⟩;refine⟨_,U,m,_,U,zm.of em,λR S n3 s3 p=>?_⟩;rw[Ww V.bl _ 1 ∅] at p;exact⟨R,_,U,zm.of p,B S (((KL.of d).trans O).trans (KL.of s3))⟩
def MD{k:Nat}(T:Txt P w K mg base a fd)(G:wh P w K mg base a k u):T.k jx (k+1) 54 (Eg a (.thr u)):=by
 obtain⟨f,d,M,b,G⟩:=G;refine T.ok 54 (λr A outer s H vs Q E t h=>?_)
 .obtain⟨x,l,ys,cs,rfl,v,B,e,g,C,F⟩:=h;have j:QF k _:=t
  cases v with
  |lf z _ _=>cases z
  |thr ex tt n=>
   obtain⟨I,J,L,Z,O,l3,_⟩:=n.obj;refine⟨_,(Qb (Ql (i:=2) (sc 54).nd (Yv (Qw (pv 0) U) (qV (pv 1) Qe)))
    (Qb (Ql (i:=3) (sc 54).nd (Ue plainAttrs_list PySem.F.slot_list_count PySem.F.type_list_count Ih (pv 2) (qV Ur Qe)))
    (Qd (Qk (WK (sc:=Qr (sO 54)) (N:=(nn 54)) (fr:=[(3,"holding")]) (wO rfl rfl) rfl rfl rfl (Y1 (pv 2)) (λ_ _ _ _=>VF) (λ_ _ _ _=>(YH W0 (pv 1) (Vt (Q5 (pv 0)) Qa Qa)))))))),?_⟩
   refine⟨_,U,x,_,_,_,_,U,ex,(T 29),(T 48),U,_,I,J,_,f,d,_,_,k,U,L,T.cls u,M,G,j,b,O,_,U,?_⟩;refine⟨_,l,ys,cs,U,n,B,e,g,C,λH' m o nm em=>?_⟩;have hlen:=Ye u cs;refine⟨_,U,.inl ⟨U,_,zm.of em⟩,m,_,_,U,U,em,?_⟩;refine⟨_,U,m,U,⟨_,zm.of em⟩,B5 (a:=a) (zs:=(yv (.thr u) cs).map V.bl) (Yj ((by rw[qi];omega))) (by rw[qi,qi,Ye,Ye]) em ?_ λD H2 R S X=>F H2 D (o.trans S) (o.free R) X⟩;intro i y z c Q' hi hz k3 q;rw[qC,show yv (.thr u) cs=(yv u cs).map (λb=>decide (((yv u cs).count true:Int) > if b then 1 else 0)) from rfl,qC] at hz;rw[qC] at hi
   cases p:(yv u cs)[i]? with
   |none=>rw[p] at hi;cases hi
   |some Y=>
    rw[p] at hi hz;cases hi;cases hz;refine⟨_,U,_,U,_,U,?_⟩;cases Y
    .exact QA ⟨_,_,U,U,q c (KL.refl a c)⟩
    .exact QI ⟨_,_,U,U,q c (KL.refl a c)⟩
def MR{k:Nat}(T:Txt P w K mg base a fd)(G:yu P w K mg base a k u)(o:yu P w K mg base a k v):T.k jx (k+1) 56 (Xm a (.jN u v)):=by
 obtain⟨f,p,M,b,G⟩:=G;obtain⟨f2,g,M2,D,o⟩:=o;refine T.ok 56 (λF A outer s H vs Q E I h=>?_)
 .obtain⟨x,c,l,ys,cd,cs,rfl,J,hc,r,t,i,j,y,B⟩:=h;have m:QF k _:=I
  cases J with
  |lf z _ _=>cases z
  |jN ex tt C hz=>
   obtain⟨L,N,O,R,l2,l3,_⟩:=C.obj;refine⟨_,(Qd (Qk (Vi (Yv (Qw (pv 0) U) (qV (pv 1) (qV (pv 2) Qe))) (UC (Yv (Qw (pv 0) U) (qV (pv 1) (qV (pv 2) Qe))))))),?_⟩;refine⟨_,U,x,_,_,_,_,U,ex,(T 18),(T 49),U,_,L,N,_,f,p,_,_,k,U,O,T.cls u,M,G,m,b,R,_,U,_,U,?_⟩;refine⟨_,c,l,ys,cd,cs,U,C,hc,r,t,i,j,y,λH1 d=>⟨_,U,?_⟩⟩;cases e:YT u cd cs
   .refine QA ?_;have q:=B H1 d;rw[show YT (.jN u v) cd cs=(YT u cd cs&&YT v cd cs) from rfl,e,yw] at q;exact q
   .have n:=hz.kl d;obtain⟨S,V,X,Y,m2,m3,_⟩:=n.obj;refine QI ⟨_,U,x,_,_,_,_,U,d.inst ex rfl,(T 18),(T 50),U,_,S,V,_,f2,g,_,_,k,U,X,T.cls v,M2,o,m,D,Y,_,U,_,U,?_⟩;refine⟨_,c,l,ys,cd,cs,U,n,hc.kl d,r,d.keep t rfl,i.kl d,j,y,λH2 Z=>?_⟩;have q:=B H2 (d.trans Z);rw[show YT (.jN u v) cd cs=(YT u cd cs&&YT v cd cs) from rfl,e,yp] at q;exact q
def MF{k:Nat}(T:Txt P w K mg base a fd)(G:wh P w K mg base a k u)(o:wh P w K mg base a k v):T.k jx (k+1) 57 (Eg a (.jN u v)):=by
 obtain⟨f,p,M,b,G⟩:=G;obtain⟨f2,e,M2,B,o⟩:=o;refine T.ok 57 (λL A outer s H vs Q E O h=>?_)
 .obtain⟨x,l,ys,cs,rfl,R,C,g,i,F,S⟩:=h;have j:QF k _:=O
  cases R with
  |lf z _ _=>cases z
  |jN ex tt I hz=>
   obtain⟨X,Y,Z,l1,l2,l3,_⟩:=I.obj;refine⟨_,(Qd (Qk (Xs (sc:=Qr (sO 57)) (N:=(nn 57)) (fr:=[]) ⟨U,U,U,∅,∅,∅,∅,∅⟩ rfl rfl rfl (Me rfl (T 73) (qV (Yv (Qw (pv 0) U) (qV (pv 1) Qe)) (qV (Yv (Qw (pv 0) U) (qV (pv 1) Qe)) Qe))) (λ_ _ _ _=>(Vi (pv 0) (UC (pv 1))))))),?_⟩;refine⟨_,U,x,_,_,_,_,U,ex,(T 18),(T 49),U,_,X,Y,_,f,p,_,_,k,U,Z,T.cls u,M,G,j,b,l2,_,U,?_⟩;refine⟨_,l,ys,cs,U,I,C,g,i,F,λH1 m1 d vA r=>?_⟩;have m:=hz.kl d;obtain⟨dz,gs,ez,q1,q2,q3,_⟩:=m.obj;refine⟨_,U,x,_,_,_,_,U,d.inst ex rfl,(T 18),(T 50),U,_,dz,gs,_,f2,e,_,_,k,U,ez,T.cls v,M2,o,j,B,q2,_,U,?_⟩;refine⟨_,l,ys,cs,U,m,d.keep C rfl,g.kl d,i,F,λH2 m2 t nm2 n=>?_⟩;have c:=t.keep r rfl;refine⟨m1,m2,_,_,U,c,n,DE (xs:=yv u cs) (ys:=yv v cs) V.bl V.bl (λx y=>.bl (x&&y)) (Yj ((by rw[Ye];omega))) (by rw[Ye,Ye]) (zm.of c) (zm.of n) ?_ λD J nD s3 e3=>S J D ((d.trans t).trans (KL.of s3)) ((d.trans t).free nD) ?_⟩
   .intro b1 B J Q' q;refine⟨_,U,_,U,?_⟩;cases b1
    .exact QA q
    .exact QI ⟨_,U,q⟩
   .rw[e3,show yv (.jN u v) cs=List.zipWith (·&& ·) (yv u cs) (yv v cs) from rfl,List.map_zipWith]
def MQ{k:Nat}(T:Txt P w K mg base a fd)(G:yu P w K mg base a k u)(o:yu P w K mg base a k v):T.k jx (k+1) 58 (Xm a (.jL u v)):=by
 obtain⟨f,p,M,b,G⟩:=G;obtain⟨f2,g,M2,D,o⟩:=o;refine T.ok 58 (λF A outer s H vs Q E I h=>?_)
 .obtain⟨x,c,l,ys,cd,cs,rfl,J,hc,r,t,i,j,y,B⟩:=h;have m:QF k _:=I
  cases J with
  |lf z _ _=>cases z
  |jL ex tt C hz=>
   obtain⟨L,N,O,R,l2,l3,_⟩:=C.obj;refine⟨_,(Qd (Qk (FN (Yv (Qw (pv 0) U) (qV (pv 1) (qV (pv 2) Qe))) (UC (Yv (Qw (pv 0) U) (qV (pv 1) (qV (pv 2) Qe))))))),?_⟩;refine⟨_,U,x,_,_,_,_,U,ex,(T 19),(T 51),U,_,L,N,_,f,p,_,_,k,U,O,T.cls u,M,G,m,b,R,_,U,_,U,?_⟩;refine⟨_,c,l,ys,cd,cs,U,C,hc,r,t,i,j,y,λH1 d=>⟨_,U,?_⟩⟩;cases e:YT u cd cs
   .have n:=hz.kl d;obtain⟨S,V,X,Y,m2,m3,_⟩:=n.obj;refine QA ⟨_,U,x,_,_,_,_,U,d.inst ex rfl,(T 19),(T 52),U,_,S,V,_,f2,g,_,_,k,U,X,T.cls v,M2,o,m,D,Y,_,U,_,U,?_⟩;refine⟨_,c,l,ys,cd,cs,U,n,hc.kl d,r,d.keep t rfl,i.kl d,j,y,λH2 Z=>?_⟩;have q:=B H2 (d.trans Z);rw[show YT (.jL u v) cd cs=(YT u cd cs||YT v cd cs) from rfl,e,Bool.false_or] at q;exact q
   .refine QI ?_;have q:=B H1 d;rw[show YT (.jL u v) cd cs=(YT u cd cs||YT v cd cs) from rfl,e,Bool.true_or] at q;exact q
def ME{k:Nat}(T:Txt P w K mg base a fd)(G:wh P w K mg base a k u)(o:wh P w K mg base a k v):T.k jx (k+1) 59 (Eg a (.jL u v)):=by
 obtain⟨f,p,M,b,G⟩:=G;obtain⟨f2,e,M2,B,o⟩:=o;refine T.ok 59 (λL A outer s H vs Q E O h=>?_)
 .obtain⟨x,l,ys,cs,rfl,R,C,g,i,F,S⟩:=h;have j:QF k _:=O
  cases R with
  |lf z _ _=>cases z
  |jL ex tt I hz=>
   obtain⟨X,Y,Z,l1,l2,l3,_⟩:=I.obj;refine⟨_,(Qd (Qk (Xs (sc:=Qr (sO 59)) (N:=(nn 59)) (fr:=[]) ⟨U,U,U,∅,∅,∅,∅,∅⟩ rfl rfl rfl (Me rfl (T 73) (qV (Yv (Qw (pv 0) U) (qV (pv 1) Qe)) (qV (Yv (Qw (pv 0) U) (qV (pv 1) Qe)) Qe))) (λ_ _ _ _=>(FN (pv 0) (UC (pv 1))))))),?_⟩;refine⟨_,U,x,_,_,_,_,U,ex,(T 19),(T 51),U,_,X,Y,_,f,p,_,_,k,U,Z,T.cls u,M,G,j,b,l2,_,U,?_⟩;refine⟨_,l,ys,cs,U,I,C,g,i,F,λH1 m1 d vA r=>?_⟩;have m:=hz.kl d;obtain⟨dz,gs,ez,q1,q2,q3,_⟩:=m.obj;refine⟨_,U,x,_,_,_,_,U,d.inst ex rfl,(T 19),(T 52),U,_,dz,gs,_,f2,e,_,_,k,U,ez,T.cls v,M2,o,j,B,q2,_,U,?_⟩;refine⟨_,l,ys,cs,U,m,d.keep C rfl,g.kl d,i,F,λH2 m2 t nm2 n=>?_⟩;have c:=t.keep r rfl;refine⟨m1,m2,_,_,U,c,n,DE (xs:=yv u cs) (ys:=yv v cs) V.bl V.bl (λx y=>.bl (x||y)) (Yj ((by rw[Ye];omega))) (by rw[Ye,Ye]) (zm.of c) (zm.of n) ?_ λD J nD s3 e3=>S J D ((d.trans t).trans (KL.of s3)) ((d.trans t).free nD) ?_⟩
   .intro b1 B J Q' q;refine⟨_,U,_,U,?_⟩;cases b1
    .exact QA ⟨_,U,q⟩
    .exact QI q
   .rw[e3,show yv (.jL u v) cs=List.zipWith (·|| ·) (yv u cs) (yv v cs) from rfl,List.map_zipWith]
inductive Lw(a:jT)(vs:qb V)(H:Hp)(Q:VK)(E:XK):Prop
 |mk:∀x t,vs=[.ref x]->QC a H x t->(∀p,jD H p t->Q (.ref p) H)->Lw a vs H Q E
def OX(T:Txt P w K mg base a fd):T.k jx 1 42 (Lw a):=by
 refine T.ok 42 (λb A outer s H vs Q E g h=>?_)
 .obtain⟨x,t,rfl,c,k⟩:=h;obtain⟨dx,d,ex,i,j,l,p,e,f⟩:=c.obj;exact⟨_,(Qd (Qk (Qw (pv 0) U))),⟨_,U,x,_,dx,d,_,U,ex,T.cls t,T.wZ t,e,k p f⟩⟩
def yu.up{j k:Nat}(h:yu P w K mg base a j t)(l:j<=k):yu P w K mg base a k t:=let ⟨f,fd,m,b,g⟩:=h;⟨f,fd,m,b,g.mono l⟩
def wh.up{j k:Nat}(h:wh P w K mg base a j t)(l:j<=k):wh P w K mg base a k t:=let ⟨f,fd,m,b,g⟩:=h;⟨f,fd,m,b,g.mono l⟩
theorem ask(T:Txt P w K mg base a fd):∀t:Tr,yu P w K mg base a (t.dp+4) t/\wh P w K mg base a (t.dp+4) t:=by
 have leaf:∀t,X7 t=true->Xh K (VQ a t) "truths" (a 41)->yu P w K mg base a 3 t->yu P w K mg base a (t.dp+4) t/\wh P w K mg base a (t.dp+4) t:=λt l m h=>⟨h.up ⋯,⟨_,(fd 41),m,(T.B 41),(HV l T h).mono ⋯⟩⟩;intro t
 induction t with
 |any=>
  exact leaf _ rfl (T 121) ⟨_,(fd 40),(T 120),(T.B 40),MS T⟩
 |ans=>
  exact leaf _ rfl (T 156) ⟨_,(fd 49),(T 155),(T.B 49),MT T⟩
 |word u=>
  exact leaf _ rfl (T 126) ⟨_,(fd 43),(T 125),(T.B 43),HX T⟩
 |title u=>
  exact leaf _ rfl (T 131) ⟨_,(fd 44),(T 130),(T.B 44),Ew T⟩
 |frm u=>
  exact leaf _ rfl (T 136) ⟨_,(fd 45),(T 135),(T.B 45),MP T⟩
 |days l h=>
  exact leaf _ rfl (T 141) ⟨_,(fd 46),(T 140),(T.B 46),HY T⟩
 |inn u=>
  exact leaf _ rfl (T 146) ⟨_,(fd 47),(T 145),(T.B 47),MO T⟩
 |yK u=>
  exact leaf _ rfl (T 151) ⟨_,(fd 48),(T 150),(T.B 48),MN T⟩
 |nt u b=>
  exact⟨⟨_,(fd 51),(T 160),(T.B 51),(O2 T b.1).mono (by show u.dp+4+1<=u.dp+1+4;omega)⟩,⟨_,(fd 52),(T 161),(T.B 52),(OY T b.2).mono (by show u.dp+4+1<=u.dp+1+4;omega)⟩⟩
 |thr u b=>
  exact⟨⟨_,(fd 53),(T 165),(T.B 53),(MM T b.2).mono (by show u.dp+4+1<=u.dp+1+4;omega)⟩,⟨_,(fd 54),(T 166),(T.B 54),(MD T b.2).mono (by show u.dp+4+1<=u.dp+1+4;omega)⟩⟩
 |jN u v b c=>
  have le:max u.dp v.dp+4+1<=(Tr.jN u v).dp+4:=by show max u.dp v.dp+4+1<=max u.dp v.dp+1+4;omega
  exact⟨⟨_,(fd 56),(T 170),(T.B 56),(MR T (b.1.up ⋯) (c.1.up ⋯)).mono le⟩,⟨_,(fd 57),(T 171),(T.B 57),(MF T (b.2.up ⋯) (c.2.up ⋯)).mono le⟩⟩
 |jL u v b c=>
  have le:max u.dp v.dp+4+1<=(Tr.jL u v).dp+4:=by show max u.dp v.dp+4+1<=max u.dp v.dp+1+4;omega
  exact⟨⟨_,(fd 58),(T 175),(T.B 58),(MQ T (b.1.up ⋯) (c.1.up ⋯)).mono le⟩,⟨_,(fd 59),(T 176),(T.B 59),(ME T (b.2.up ⋯) (c.2.up ⋯)).mono le⟩⟩
def U9(H:Hp)(u:qd)(c:CD):Prop:=∃q m,H u=some (.tup [.ref q,.str c.fo,.ref m])/\H q=some (.tup [.str c.s,.str c.t,.str c.b,.int c.d,.str c.an])/\H m=some (.lst (c.ms.map V.str))
def U9.kl{u:qd}(h:U9 H u c)(k:KL a H H'):U9 H' u c:=let ⟨q,m,e1,b,d⟩:=h;⟨q,m,k.keep e1 rfl,k.keep b rfl,k.keep d rfl⟩
def U9.mono{u:qd}(h:U9 H u c)(k:Qi H H'):U9 H' u c:=let ⟨q,m,e1,a,b⟩:=h;⟨q,m,k _ _ e1,k _ _ a,k _ _ b⟩
inductive Rk(a:jT)(vs:qb V)(H:Hp)(Q:VK)(E:XK):Prop
 |mk:∀q s t b d an,vs=[.ref q]->H q=some (.tup [.str s,.str t,.str b,.int d,.str an])->Ag s t b d an->(∀x H',H x=none->Qi H H'->YN a H' x s t b d an->Q (.ref x) H')->Rk a vs H Q E
inductive LB(vs:qb V)(H:Hp)(Q:VK)(E:XK):Prop
 |mk:∀(sh c:Int),vs=[.int sh,.int c]->0<=sh->sh<2147483629->0<=c->(∀t p H',H p=none->Qi H H'->jD H' p t->t.dp=0->Q (.ref p) H')->LB vs H Q E
def EU :YO X (.type "list") (λxs H Q=>∃p ys,xs=[.ref p]/\(zm X.K H p ys\/zu X.K H p ys)/\Uz (.lst ys) H Q):=by
 intro pins s σ H xs us Q I r h;obtain⟨p,ys,e,a,q⟩:=h;exact XF pins s σ H xs us Q I r ⟨p,ys,e,a,λl b=>Uz.put q b⟩
def aln1:∀c:Nat,c<128->PySem.Txt.isalnum ⟨#[c]⟩=LM c:=by decide +kernel
def Po(x:qc):(!decide (x=("":qc)))=Ws x:=by
 unfold Ws;rw[G8];by_cases h:x=Str.empty
 .rw[qv h,h];rfl
 .rw[qr h];have e:(x==Str.empty)=false:=by rw[zV];exact h
  rw[e]
def HW(T:Txt P w K mg base a fd):T.k jx 7 20 (Rk a):=by
 refine T.ok 20 (λf A outer st H vs Q E l h=>?_)
 .obtain⟨q,s,t,b,d,an,rfl,e,g,k⟩:=h;refine⟨_,(Qd (Qk (T.ma (T 84) (T 83) (FU T) (qV (Qp Qt (pv 0) Qa) (qV (Qp Qt (pv 0) Qa) (qV (Qp Qt (pv 0) Qa) (qV (Qp Qt (pv 0) Qa) (qV (Qp Qt (pv 0) Qa) Qe)))))))),?_⟩;exact⟨_,U,q,_,_,_,U,U,zu.of e,U,_,U,q,_,_,_,U,U,zu.of e,U,_,U,q,_,_,_,U,U,zu.of e,U,_,U,q,_,_,_,U,U,zu.of e,U,_,U,q,_,_,_,U,U,zu.of e,U,λy m c i ne=>GQ c i ne g λH1 s1 j=>⟨U,k y H1 c s1 j⟩⟩
theorem FT(T:Txt P w K mg base a fd):T.k jx 1 25 By:=by
 refine T.ok 25 (λt A outer st H vs Q E C h=>?_)
 .obtain⟨x,rfl,u,F,k⟩:=h;refine⟨_,(Qb (Ql (i:=1) (sc 25).nd (Qy Qm))
   (Qb (Ql (i:=2) (sc 25).nd Qf)
   (Qb (Ym zg rfl (Es (Qh QU (pv 0) Qf)) (QG (i:=3) (sc 25).nd) (Qd (Qu (Q5 (GF plainAttrs_str PySem.F.slot_str_isalnum PySem.F.type_str_isalnum EB (pv 3))) (Qd (Ql (i:=2) (sc 25).nd (Qh QU (pv 2) (GF plainAttrs_str PySem.F.slot_str_lower PySem.F.type_str_lower C2 (pv 3))))) (Qd (Qu (Qn Km (pv 2) Qf) (Qb (Q4 (Ue plainAttrs_list zk zl Q8 (pv 1) (qV (pv 2) Qe)))
   (Qd (Ql (i:=2) (sc 25).nd Qf))) Qq)))))
   (Qd (Qk (pv 1)))))),?_⟩
  refine⟨K3,λD H1 s s1 e1=>?_⟩;have l:=YX x;have m:(x++(" ":qc)).cps.toList=x.cps.toList++[32]:=by
   show(x.cps++(" ":qc).cps).toList=_;rw[Array.toList_append];rfl
  have n:∀c∈(x++(" ":qc)).cps.toList,c<128:=λc hc=>by
   rw[m] at hc;rcases qT.mp hc with hc|hc
   .exact u c hc
   .rw[qq.mp hc];decide
  have v:(x++(" ":qc)).cps.toList.length=x.length+1:=by rw[m,qm,ql,l]
  refine⟨_,U,_,_,U,U,Yj ((by show x.length+1<=1000;omega)),x++(" ":qc),U,?_⟩;refine Pr (x:=x++(" ":qc)) (λi σ H2=>∃(o:Option V),σ=[some (.str x),some (.ref D),some (.str (vd ((x++(" ":qc)).cps.toList.take i)).2),o]/\Qi H H2/\H2 D=some (.lst (((vd ((x++(" ":qc)).cps.toList.take i)).1.filter Ws).map V.str)))
   ⟨none,by rw[List.take_zero];show _=[_,_,some (V.str Str.empty),_];rw[<-G8];rfl,s1,by rw[List.take_zero];exact e1⟩ ?_ ?_
  .rintro i c σ H2 hc ⟨o,rfl,s2,b⟩;have j:(x++(" ":qc)).cps.toList[i]?=some c:=by simpa using hc
   have y:i<(x++(" ":qc)).cps.toList.length:=(qJ.mp j).1;have hw:=E3 ((x++(" ":qc)).cps.toList.take i);rw[zi] at hw;have p:=I8 j;have e:=n c (qL j);generalize vd ((x++(" ":qc)).cps.toList.take i)=q at b hw p;obtain⟨r,wr⟩:=q;dsimp only at b hw⊢;have hf:=zF Ws r;refine⟨_,U,U,_,U,U,_,U,?_⟩;rw[aln1 c e];cases g:LM c
   .refine QA ⟨_,U,U,_,U,?_⟩;rw[Vg,Po];have d:vd ((x++(" ":qc)).cps.toList.take (i+1))=(r++[wr],Str.empty):=by rw[p];unfold vu;rw[qz (by rw[g];decide)]
    cases f:Ws wr
    .refine QA ⟨some (.str ⟨#[c]⟩),?_,s2,?_⟩
     .rw[d];have B:wr=Str.empty:=by
       unfold Ws at f;simpa using f
      rw[B];rfl
     .rw[d,b];dsimp only;rw[ja,List.filter_cons_of_neg (by rw[f];decide),List.filter_nil,ze]
    .refine QI ⟨_,U,.inl ⟨U,_,zm.of b⟩,_,U,D,_,_,U,U,b,(by rw[qi];exact QN ⋯),some (.str ⟨#[c]⟩),?_,s2.zE s,?_⟩
     .rw[d,<-G8];rfl
     .rw[Qg,d];dsimp only;rw[ja,List.filter_cons_of_pos f,List.filter_nil,qH];rfl
   .have d:vd ((x++(" ":qc)).cps.toList.take (i+1))=(r,wr++⟨#[lo1 c]⟩):=by rw[p];unfold vu;rw[qG g]
    have em:(⟨(⟨#[c]⟩:qc).cps.map lo1⟩:qc)=⟨#[lo1 c]⟩:=by simp
    refine QI ⟨_,U,_,U,U,_,U,U,(λz hz=>?_),(by show 1<=1000000;decide),_,_,U,U,Yj (?_),?_⟩
    .have:z=c:=by simpa using hz
     rw[this];exact e
    .rw[em];show wr.length+1<=1000;omega
    .exact⟨_,by rw[d,em];rfl,s2,by rw[d];exact b⟩
  .rintro σ H2 ⟨o,rfl,s2,b⟩;refine⟨_,U,k D H2 s s2 ?_⟩;have e:(x++(" ":qc)).cps.toList.take (x++(" ":qc)).cps.size=x.cps.toList++[32]:=by rw[<-m];exact qP (by simp)
   rw[e] at b;have d:vd (x.cps.toList++[32])=((vd x.cps.toList).1++[(vd x.cps.toList).2],Str.empty):=by
    unfold vd;rw[yR];show vu _ 32=_;unfold vu;rw[qz ∅]
   rw[d] at b;exact b
def Tr.sz:Tr->Nat
 |.nt t=>t.sz+1
 |.thr t=>t.sz+1
 |.jN u v=>u.sz+v.sz+1
 |.jL u v=>u.sz+v.sz+1
 |_=>1
def Tr.th:Tr->Nat
 |.nt t=>t.th
 |.thr t=>t.th+1
 |.jN u v=>max u.th v.th
 |.jL u v=>max u.th v.th
 |_=>0
def jD.tups(h:jD H p t)(k:∀c xs,H c=some (.tup xs)->H' c=some (.tup xs)):jD H' p t:=by
 induction h with
 |any e=>exact .any (k _ _ e)
 |ans e=>exact .ans (k _ _ e)
 |word e w=>exact .word (k _ _ e) w
 |title e w=>exact .title (k _ _ e) w
 |frm e w=>exact .frm (k _ _ e) w
 |days e b=>exact .days (k _ _ e) b
 |inn e w=>exact .inn (k _ _ e) w
 |yK e w=>exact .yK (k _ _ e) w
 |nt e _ a=>exact .nt (k _ _ e) a
 |thr e _ a=>exact .thr (k _ _ e) a
 |jN e _ _ a d=>exact .jN (k _ _ e) a d
 |jL e _ _ a d=>exact .jL (k _ _ e) a d
def Rw :kitOne K (.type "str") (.type "tuple")=some false:=by kernel_rfl
def Rx :kitOne K (.type "int") (.type "tuple")=some false:=by kernel_rfl
inductive Rb(n:Nat)(vs:qb V)(H:Hp)(Q:VK)(E:XK):Prop
 |mk:∀p t,vs=[.ref p]->jD H p t->t.dp<n->(∀H',Qi H H'->Q (.int (t.th:Int)) H')->Rb n vs H Q E
def Il:∀v∈([.str Ze,.str ZJ,.str Zc,.str Zf,.str Zb,.str Ze,.str Zb]:qb V),∃(s:qc)(f:qc->Tr),v=.str s/\(∀u,(f u).dp=0)/\∀(H:Hp) p u,H p=some (.tup [.str s,.str u])->QO u->jD H p (f u):=by
 intro v a;simp only[qy,q5,ji] at a;rcases a with rfl|rfl|rfl|rfl|rfl|rfl|rfl
 .exact⟨_,.word,U,λ_=>rfl,λH p u e w=>.word e w⟩
 .exact⟨_,.title,U,λ_=>rfl,λH p u e w=>.title e w⟩
 .exact⟨_,.frm,U,λ_=>rfl,λH p u e w=>.frm e w⟩
 .exact⟨_,.inn,U,λ_=>rfl,λH p u e w=>.inn e w⟩
 .exact⟨_,.yK,U,λ_=>rfl,λH p u e w=>.yK e w⟩
 .exact⟨_,.word,U,λ_=>rfl,λH p u e w=>.word e w⟩
 .exact⟨_,.yK,U,λ_=>rfl,λH p u e w=>.yK e w⟩
def B8{xs:qb Int}{i:Int}(h0:0<=i)(a:i<(xs.length:Int)):∃z∈xs,xX (xs.map V.int) i=some (.int z):=by
 obtain⟨v,b,hm,_⟩:=Yx (xs:=xs.map V.int) (i:=i) h0 (by rw[qi];exact a);obtain⟨z,hz,rfl⟩:=zr.mp hm;exact⟨z,hz,b⟩
theorem O1(T:Txt P w K mg base a fd):T.k jx 2 22 LB:=by
 refine T.ok 22 (λB A outer st H vs Q E J h=>?_)
 .obtain⟨o,c,rfl,q,C,hc,k⟩:=h;refine⟨_,(Qb (Ql (i:=2) (sc 22).nd (T.cl (UD T) (qV (pv 0) (qV (Qh Qx (Qh Qz (pv 1) Qa) Qa) Qe))))
   (Qb (Ql (i:=3) (sc 22).nd (Qh Qx (pv 1) Qa))
   (Qb (Qu (Qn QH (pv 3) Qa) (Qd (Qk (QJ (Qc Qf Qm)))) Qq)
   (Qb (Qu (Qn QH (pv 3) Qa) (Qd (Qk (QJ (Qc Qf Qm)))) Qq)
   (Qb (Qu (Qn Kn (pv 3) Qa) (Qb (Ql (i:=4) (sc 22).nd (Qp Qs (Qy (Qc Qa (Qc (Qh Qx (Qh Qz (pv 1) Qa) Qa) (Qc (Qh Qx (Qh Qz (pv 1) Qa) Qa) Qm)))) (Qh Qx (Qh Qz (pv 1) Qa) Qa)))
   (Qd (Qk (QJ (Qc Qf (Qc (pv 4) (Qc (Qp Qs (Qy (Qc (pv 4) (Qc Qa (Qc (Qh Qx (Qh Qz (pv 1) Qa) Qa) (Qc (Qh Qx (Qh Qz (pv 1) Qa) Qa) Qm))))) (Qh Qx (Qh Qz (pv 1) Qa) Qa)) Qm))))))) Qq)
   (Qd (Qk (QJ (Qc (Qp Qs (Qy (Qc Qf (Qc Qf (Qc Qf (Qc Qf (Qc Qf (Qc Qf (Qc Qf Qm)))))))) (Qh Xc (pv 3) Qa)) (Qc (pv 2) Qm)))))))))),?_⟩
  have m0:0<=c / 11%5:=qF _ ∅;have L:c / 11%5<5:=qA _ ∅;have M:0<=c%11:=qF _ ∅;have N:c%11<11:=qA _ ∅;refine⟨_,U,_,U,_,_,U,U,⟨∅,∅⟩,_,_,U,U,Bs,o,c / 11%5,U,q,⋯,m0,⋯,λH1 s1=>?_⟩;have d:QO (YG o (c / 11%5)):=UA m0 ⋯;generalize YG o (c / 11%5)=r at d;refine⟨_,U,_,_,U,U,T4,?_⟩;refine⟨_,U,U,_,U,?_⟩;rw[Wr];by_cases h0:c%11=0
  .rw[qv h0];exact QI ⟨Uv,λp H2 np s2 b=>k .any p H2 (s1.free np) (s1.trans s2) (.any b) rfl⟩
  rw[qr h0];refine QA ⟨_,U,U,_,U,?_⟩;rw[Wr];by_cases y:c%11=1
  .rw[qv y];exact QI ⟨Uv,λp H2 np s2 b=>k .ans p H2 (s1.free np) (s1.trans s2) (.ans b) rfl⟩
  rw[qr y];refine QA ⟨_,U,_,_,U,U,_,U,?_⟩;by_cases z:c%11<4
  .rw[qv z];have O:∀n:Int,True:=λ_=>trivial;refine QI ⟨_,U,_,_,U,U,⟨∅,∅⟩,_,_,U,U,K5,_,U,_,_,U,U,⟨∅,∅⟩,_,_,U,U,Oc,VS,λl H2 nl s2 b=>?_⟩;obtain⟨lo,e,s⟩:=B8 (xs:=[0,c / 55%10000,c / 55%9]) (i:=c / 3%3) (qF _ ∅) (qA _ ∅);refine⟨_,U,_,_,U,U,⟨∅,∅⟩,_,_,U,U,K4,l,_,_,_,U,U,zm.of b,s,?_⟩;refine⟨_,U,_,U,_,U,_,_,U,U,⟨∅,∅⟩,_,_,U,U,K5,_,U,_,_,U,U,⟨∅,∅⟩,_,_,U,U,Oc,DY,λD t F s3 u=>?_⟩;obtain⟨hi,g,x⟩:=B8 (xs:=[lo,9999,c / 77%10000,c / 77%9]) (i:=c / 5%4) (qF _ ∅) (qA _ ∅);refine⟨_,U,_,_,U,U,⟨∅,∅⟩,_,_,U,U,Aj,D,_,_,_,U,U,zm.of u,x,VS,λp G np s4 I=>?_⟩;have R:0<=c / 55%10000/\c / 55%10000<10000:=⟨qF _ ∅,qA _ ∅⟩;have S:0<=c / 55%9/\c / 55%9<9:=⟨qF _ ∅,qA _ ∅⟩;have X:0<=c / 77%10000/\c / 77%10000<10000:=⟨qF _ ∅,qA _ ∅⟩;have Y:0<=c / 77%9/\c / 77%9<9:=⟨qF _ ∅,qA _ ∅⟩;have j:0<=lo/\lo<=9999:=by
    simp only[qy,q5,ji] at e;rcases e with rfl|rfl|rfl<;>omega
   have m:0<=hi/\hi<=9999:=by
    simp only[qy,q5,ji] at g;rcases g with rfl|rfl|rfl|rfl<;>omega
   exact k (.days lo hi) p G (s1.free (s2.free (s3.free np))) (((s1.trans s2).trans s3).trans s4) (.days I ⟨j.1,j.2,m.1,m.2⟩) rfl
  .rw[qr z];refine QA ⟨zl_7,λl H2 nl s2 b=>?_⟩;obtain⟨v,j,e,_⟩:=Yx (xs:=[V.str Ze,V.str ZJ,V.str Zc,V.str Zf,V.str Zb,V.str Ze,V.str Zb]) (i:=c%11-4) ⋯ (by show c%11-4<7;omega);obtain⟨nm,f,rfl,g,m⟩:=Il v e;refine⟨_,U,_,_,U,U,l,_,_,_,U,U,zm.of b,j,_,U,U2,λp t np s3 u=>?_⟩;exact k (f r) p t (s1.free (s2.free np)) ((s1.trans s2).trans s3) (m t p r u d) (g r)
theorem W9:∀t:Tr,t.sz+1<=2^(t.dp+1)
 |.nt u=>by have:=W9 u;show u.sz+1+1<=2^(u.dp+1+1);rw[wu];omega
 |.thr u=>by have:=W9 u;show u.sz+1+1<=2^(u.dp+1+1);rw[wu];omega
 |.jN u v=>by
  have a:=W9 u;have b:=W9 v;have c:2^(u.dp+1)<=2^(max u.dp v.dp+1):=yy ∅ ⋯;have d:2^(v.dp+1)<=2^(max u.dp v.dp+1):=yy ∅ ⋯;show u.sz+v.sz+1+1<=2^(max u.dp v.dp+1+1);rw[wu];omega
 |.jL u v=>by
  have a:=W9 u;have b:=W9 v;have c:2^(u.dp+1)<=2^(max u.dp v.dp+1):=yy ∅ ⋯;have d:2^(v.dp+1)<=2^(max u.dp v.dp+1):=yy ∅ ⋯;show u.sz+v.sz+1+1<=2^(max u.dp v.dp+1+1);rw[wu];omega
 |.any=>by decide
 |.ans=>by decide
 |.word _=>by show 1+1<=2^1;decide
 |.title _=>by show 1+1<=2^1;decide
 |.frm _=>by show 1+1<=2^1;decide
 |.days _ _=>by show 1+1<=2^1;decide
 |.inn _=>by show 1+1<=2^1;decide
 |.yK _=>by show 1+1<=2^1;decide
def R4:Tr->qb Tr
 |.nt u=>[u]
 |.thr u=>[u]
 |.jN u v=>[u,v]
 |.jL u v=>[u,v]
 |_=>[]
def vA:Tr->qc
 |.any=>"any"
 |.ans=>Zl
 |.word _=>Ze
 |.title _=>ZJ
 |.frm _=>Zc
 |.days _ _=>Zk
 |.inn _=>Zf
 |.yK _=>Zb
 |.nt _=>Zn
 |.thr _=>ZZ
 |.jN _ _=>Zt
 |.jL _ _=>Zq
def gc(H:Hp)(t:Tr)(k:V×Option Tr):Prop:=match k.2 with
 |none=>(∃z,k.1=.str z)\/∃i,k.1=.int i
 |some u=>∃q,k.1=.ref q/\jD H q u/\u.dp<t.dp/\u.sz<t.sz
theorem jD.kids(h:jD H p t):∃ks:qb (V×Option Tr),H p=some (.tup (V.str (vA t)::ks.map (·.1)))/\ks.length<=2/\R4 t=ks.filterMap (·.2)/\∀k∈ks,gc H t k:=by
 have one:∀{k:V×Option Tr}{t:Tr},gc H t k->∀c∈[k],gc H t c:=λh c a=>by rw[qq.mp a];exact h
 have two:∀{g i:V×Option Tr}{t:Tr},gc H t g->gc H t i->∀c∈[g,i],gc H t c:=λd f c a=>by
  rcases qy.mp a with rfl|a
  .exact d
  .rw[qq.mp a];exact f
 cases h with
 |any e=>exact⟨[],e,by simp,U,λk a=>nomatch a⟩
 |ans e=>exact⟨[],e,by simp,U,λk a=>nomatch a⟩
 |word e w=>exact⟨[(_,none)],e,by simp,U,one (.inl ⟨_,U⟩)⟩
 |title e w=>exact⟨[(_,none)],e,by simp,U,one (.inl ⟨_,U⟩)⟩
 |frm e w=>exact⟨[(_,none)],e,by simp,U,one (.inl ⟨_,U⟩)⟩
 |days e b=>exact⟨[(_,none),(_,none)],e,by simp,U,two (.inr ⟨_,U⟩) (.inr ⟨_,U⟩)⟩
 |inn e w=>exact⟨[(_,none)],e,by simp,U,one (.inl ⟨_,U⟩)⟩
 |yK e w=>exact⟨[(_,none)],e,by simp,U,one (.inl ⟨_,U⟩)⟩
 |nt e h=>exact⟨[(_,some _)],e,by simp,U,one ⟨_,U,h,zN _,zN _⟩⟩
 |thr e h=>exact⟨[(_,some _)],e,by simp,U,one ⟨_,U,h,zN _,zN _⟩⟩
 |jN e d f=>exact⟨[(_,some _),(_,some _)],e,by simp,U,two ⟨_,U,d,(by show _<max _ _+1;omega),(by show _<_+_+1;omega)⟩ ⟨_,U,f,(by show _<max _ _+1;omega),(by show _<_+_+1;omega)⟩⟩
 |jL e d f=>exact⟨[(_,some _),(_,some _)],e,by simp,U,two ⟨_,U,d,(by show _<max _ _+1;omega),(by show _<_+_+1;omega)⟩ ⟨_,U,f,(by show _<max _ _+1;omega),(by show _<_+_+1;omega)⟩⟩
def gc.mono{k:V×Option Tr}(h:gc H t k)(s:Qi H H'):gc H' t k:=by
 obtain⟨v,o⟩:=k
 cases o with
 |none=>exact h
 |some u=>obtain⟨q,e,a,l⟩:=h;exact⟨q,e,a.mono s,l⟩
def IW(x:V)(xs:qb V):Ub (x::xs) (some 1) none=xs:=by
 have h:=Ww (λv:V=>v) (x::xs) 1 ∅;simpa using h
def gn(f:Tr->Nat)(us:qb Tr):Nat:=us.foldl (λz u=>max z (f u)) 0
def MZ(f:Tr->Nat)(us:qb Tr)(u:Tr):gn f (us++[u])=max (gn f us) (f u):=by unfold gn;rw[yR];rfl
theorem Oj(t:Tr):t.th=gn Tr.th (R4 t)+(if vA t=ZZ then 1 else 0):=by
 cases t with
 |thr u=>show u.th+1=max 0 u.th+1;rw[Nat.zero_max]
 |nt u=>rw[qz (show ¬vA (.nt u)=ZZ by show ¬Zn=ZZ;decide +kernel)];exact(Nat.zero_max _).symm
 |jN u v=>rw[qz (show ¬vA (.jN u v)=ZZ by show ¬Zt=ZZ;decide +kernel)];show max u.th v.th=max (max 0 u.th) v.th;rw[Nat.zero_max]
 |jL u v=>rw[qz (show ¬vA (.jL u v)=ZZ by show ¬Zq=ZZ;decide +kernel)];show max u.th v.th=max (max 0 u.th) v.th;rw[Nat.zero_max]
 |any=>decide +kernel
 |ans=>decide +kernel
 |word w=>rw[qz (show ¬vA (.word w)=ZZ by show ¬Ze=ZZ;decide +kernel)];rfl
 |title w=>rw[qz (show ¬vA (.title w)=ZZ by show ¬ZJ=ZZ;decide +kernel)];rfl
 |frm w=>rw[qz (show ¬vA (.frm w)=ZZ by show ¬Zc=ZZ;decide +kernel)];rfl
 |days l h=>rw[qz (show ¬vA (.days l h)=ZZ by show ¬Zk=ZZ;decide +kernel)];rfl
 |inn w=>rw[qz (show ¬vA (.inn w)=ZZ by show ¬Zf=ZZ;decide +kernel)];rfl
 |yK w=>rw[qz (show ¬vA (.yK w)=ZZ by show ¬Zb=ZZ;decide +kernel)];rfl
theorem MC(T:Txt P w K mg base a fd):∀n,T.k jx (n+1) 23 (Rb n)
 |0=>by
  refine T.ok 23 (λm A outer st H vs Q E x h=>?_) (λvs H Q E h=>by obtain⟨p,t,rfl,_⟩:=h;rfl)
  .obtain⟨p,t,_,_,h,_⟩:=h;exact absurd h (yJ _)
 |n+1=>by
  refine T.ok 23 (λm A outer st H vs Q E x h=>?_) (λvs H Q E h=>by obtain⟨p,t,rfl,_⟩:=h;rfl);obtain⟨p,t,rfl,tt,hd,k⟩:=h;have vi:QF (n+1) _:=x;refine⟨_,(Qb (Ql (i:=1) (sc 23).nd Qa)
   (Qb (Ym zg rfl (GB (QT Fy (pv 0) (QR Qa) Yn)) (QG (i:=2) (sc 23).nd) (Qd (Qu (Q5 (Qv Yw rfl (T 4) boot_isinstance (qV (pv 2) (qV (UJ (v:=.ty "tuple") rfl (T 25) boot_tuple rfl) Qe)))) (Qd (Ql (i:=1) (sc 23).nd (Qv (IY rfl) rfl (T 71) boot_max (qV (pv 1) (qV (Q7 (MC T n) vi rfl (T 99) (T.F 23).kp (T.B 23) .nil QP (qV (pv 2) Qe)) Qe))))) Qq)))
   (Qd (Qk (Qh QV (pv 1) (Yr Kd rfl (T 17) boot_int (qV (YH QH (Qp Qt (pv 0) Qa) Qf) Qe))))))),?_⟩
  obtain⟨ks,e,I,b,hm⟩:=tt.kids;have B:Ub (V.str (vA t)::ks.map (·.1)) (some 1) none=ks.map (·.1):=IW _ _;refine⟨_,U,_,U,p,_,U,e,λq H1 s1 e1=>?_⟩;rw[B] at e1;refine⟨q,U,⟨_,zu.of e1⟩,K1 (K:=K) (a:=q) (xs:=ks.map (·.1)) (λi σ H2=>∃(o:Option V),σ=[some (.ref p),some (.int (gn Tr.th ((ks.take i).filterMap (·.2)):Int)),o]/\Qi H H2/\H2 q=some (.tup (ks.map (·.1)))) ⟨none,U,s1,e1⟩ (λi σ H2 _ ⟨_,_,_,h⟩=>zu.of h) ?_ ?_⟩
  .rintro i v σ H2 hi ⟨o,rfl,s2,f⟩;rw[qC] at hi
   cases g:ks[i]? with
   |none=>rw[g] at hi;cases hi
   |some s=>
    rw[g] at hi;cases hi;have c:=(hm s (qL g)).mono s2;have d:ks.take (i+1)=ks.take i++[s]:=by rw[zo,g];rfl
    obtain⟨v,C⟩:=s
    cases C with
    |none=>
     have l:(ks.take (i+1)).filterMap (·.2)=(ks.take i).filterMap (·.2):=by rw[d,zX];simp
     rcases c with⟨y,rfl⟩|⟨y,rfl⟩
     .exact⟨_,U,_,_,_,_,_,U,U,Uw.str _,Rw,_,U,QA ⟨_,by rw[l];rfl,s2,f⟩⟩
     .exact⟨_,U,_,_,_,_,_,U,U,Uw.int _,Rx,_,U,QA ⟨_,by rw[l];rfl,s2,f⟩⟩
    |some u=>
     obtain⟨r,rfl,z,D,_⟩:=c;have l:(ks.take (i+1)).filterMap (·.2)=(ks.take i).filterMap (·.2)++[u]:=by rw[d,zX];simp
     obtain⟨F,G,_⟩:=z.kids;refine⟨_,U,_,_,_,_,_,U,U,Uw.tup G,Rv,_,U,QI ⟨_,U,_,U,r,u,U,z,⋯,λJ s3=>?_⟩⟩;refine⟨_,_,U,some (.ref r),?_,s2.trans s3,s3 _ _ f⟩;rw[l,MZ];show _=[_,some (V.int _),_];rw[show(if (u.th:Int) > (gn Tr.th ((ks.take i).filterMap (·.2)):Int) then (u.th:Int) else (gn Tr.th ((ks.take i).filterMap (·.2)):Int))=((max (gn Tr.th ((ks.take i).filterMap (·.2))) u.th:Nat):Int) by split<;>omega];rfl
  .rintro σ H2 ⟨o,rfl,s2,f⟩;rw[qi,qP (qp _),<-b];have c:=k H2 s2;rw[Oj t] at c;refine⟨_,U,_,U,p,_,_,V.str (vA t),U,U,zu.of (s2 _ _ e),QB (j:=0) rfl,U,.inr ⟨_,U,_,_,U,U,?_⟩⟩;rw[Gd];by_cases d:vA t=ZZ
   .rw[qG d] at c;rw[qv d,qG rfl];exact c
   .rw[qz d] at c;rw[qr d,qz ∅];exact c
structure TB(H:Hp)(p:qd)(t:Tr):Prop where
 a:jD H p t
 th:t.th<=2
def TB.mono(h:TB H p t)(k:Qi H H'):TB H' p t:=⟨h.a.mono k,h.th⟩
def TB.tups(h:TB H p t)(k:∀c xs,H c=some (.tup xs)->H' c=some (.tup xs)):TB H' p t:=⟨h.a.tups k,h.th⟩
def Pe:∀{t:Tr},t.dp=0->t.th=0
 |.any,_=>rfl
 |.ans,_=>rfl
 |.word _,_=>rfl
 |.title _,_=>rfl
 |.frm _,_=>rfl
 |.days _ _,_=>rfl
 |.inn _,_=>rfl
 |.yK _,_=>rfl
structure PL(H0 H:Hp)(D:qd)(ps:qb (qd×Tr))(n:Nat):Prop where
 s:Qi H0 H
 nD:H0 D=none
 e:H D=some (.lst (ps.map λx=>V.ref x.1))
 t:∀x∈ps,TB H x.1 x.2/\x.2.dp+ps.length<=n
theorem PL.app{ps:qb (qd×Tr)}(h:PL H0 H D ps n)(s:Qi H H')(b:jD H' q t)(hd:t.dp=0)(f:ps.length<=n):PL H0 (upd H' D (.lst ((ps.map λx=>V.ref x.1)++[.ref q]))) D (ps++[(q,t)]) (n+1):=by
 have d:=s _ _ h.e;have kt:∀c xs,H' c=some (.tup xs)->(upd H' D (.lst ((ps.map λx=>V.ref x.1)++[.ref q]))) c=some (.tup xs):=λc xs e=>by rw[Qj (QX e d nofun)];exact e
 refine⟨(h.s.trans s).zE h.nD,h.nD,by rw[Qg,qH];rfl,λx a=>?_⟩;rw[qm,ql];rcases qT.mp a with a|a
 .exact⟨((h.t x a).1.mono s).tups kt,by have:=(h.t x a).2;omega⟩
 .rw[qq.mp a];exact⟨⟨b.tups kt,by have:=Pe hd;dsimp only;omega⟩,by dsimp only;omega⟩
theorem PL.repl{b:qd}{ps l:qb (qd×Tr)}{n':Nat}(h:PL H0 H D (ps++l) n)(s:Qi H H')(nD:H b=none)(e:H' b=some (.lst ((ps.map λx=>V.ref x.1)++[.ref p])))(c:TB H' p t)(d:1<=l.length)(hd:t.dp+ps.length+1<=n')(f:n<=n'):PL H0 H' b (ps++[(p,t)]) n':=by
 refine⟨h.s.trans s,h.s.free nD,by rw[e,qH];rfl,λx a=>?_⟩;rw[qm,ql];rcases qT.mp a with a|a
 .have q:=h.t x (zK _ a);rw[qm] at q;exact⟨q.1.mono s,by have:=q.2;omega⟩
 .rw[qq.mp a];exact⟨c,by dsimp only;omega⟩
def Va{α:Type}{l:qb α}(h:0<l.length):∃a x,l=a++[x]:=⟨l.dropLast,l.getLast (by intro z;rw[z] at h;cases h),(List.dropLast_concat_getLast _).symm⟩
def S4{cs:qb Int}{x:V}(h:(cs.map V.int)[i]?=some x):∃c,x=.int c/\cs[i]?=some c:=by
 rw[qC] at h
 cases e:cs[i]? with
 |none=>rw[e] at h;cases h
 |some c=>rw[e] at h;cases h;exact⟨c,U,U⟩
def bU(H:Hp):Option V->Nat
 |some (.ref D)=>(match H D with|some (.lst xs)=>xs.length|_=>0)
 |_=>0
theorem Bf{α:Type}(f:α->V)(xs:qb α)(x y:α):Ub ((xs++[x,y]).map f) none (some (-2))=xs.map f:=by
 have a:(-2:Int)<0:=by decide
 simp only[Ub,HT.jP,qG a,xK,qi,qm,qw,zJ,kM,<-yn];congr 1;have e:(-2+((xs.length+(0+1+1):Nat):Int)).toNat=xs.length:=by omega
 rw[e,List.take_left]
theorem Bo{α:Type}(xs:qb α)(u v:α):xX (xs++[u,v]) (-2)=some u:=by
 have a:(xs++[u,v]).length=xs.length+2:=by simp
 have e:wD (xs++[u,v]).length (-2)=some xs.length:=by
  unfold wD;rw[a,qz ∅,qG ⋯];congr 1;omega
 unfold xX;rw[e];show(xs++[u,v])[xs.length]?=some u;simp
def Bp{α:Type}(xs:qb α)(u v:α):xX (xs++[u,v]) (-1)=some v:=by
 have:=XG (xs++[u]) v;rwa[zh] at this
theorem A1:∀v∈([.str Zt,.str Zq]:qb V),∃(s:qc)(f:Tr->Tr->Tr),v=.str s/\(∀u v,(f u v).dp=max u.dp v.dp+1)/\∀(H:Hp) p q r u v,H p=some (.tup [.str s,.ref q,.ref r])->TB H q u->TB H r v->TB H p (f u v):=by
 intro v c;simp only[qy,q5,ji] at c;rcases c with rfl|rfl
 .exact⟨_,.jN,U,λ_ _=>rfl,λH p q r u v e a b=>⟨.jN e a.a b.a,by have:=a.th;have:=b.th;show max _ _<=2;omega⟩⟩
 .exact⟨_,.jL,U,λ_ _=>rfl,λH p q r u v e a b=>⟨.jL e a.a b.a,by have:=a.th;have:=b.th;show max _ _<=2;omega⟩⟩
inductive aE(vs:qb V)(H:Hp)(Q:VK)(E:XK):Prop
 |mk:∀(sh:Int)(p:qd)(cs:qb Int),vs=[.int sh,.ref p]->0<=sh->sh<2147483629->H p=some (.lst (cs.map V.int))->(∀c∈cs,0<=c)->1<=cs.length->cs.length<=10->(∀t q H',Qi H H'->TB H' q t->t.dp<cs.length->Q (.ref q) H')->aE vs H Q E
theorem bK(T:Txt P w K mg base a fd):T.k jx 13 24 aE:=by
 refine T.ok 24 (λcdv A outer st H vs Q E hr h=>?_)
 .obtain⟨X,p,cs,rfl,y,B,hp,hcs,hl1,hl8,k⟩:=h;refine⟨_,(Qb (Ql (i:=2) (sc 24).nd (Qy Qm))
   (Qb (Ym zg rfl (Y1 (pv 1)) (QG (i:=3) (sc 24).nd) (Qb (Ql (i:=4) (sc 24).nd (Qh Qx (pv 3) Qa))
   (Qd (Qu (PW.pt (UP (Qn Kn (pv 4) Qa) (Vb (Qn W0 (Qv QQ rfl (T 2) zy (qV (pv 2) Qe)) Qa)))) (Qd (Ql (i:=2) (sc 24).nd (Qh QW (QT Yd (pv 2) Yn (QR (VP UO Qa))) (Qy (Qc (QJ (Qc Qf (Qc (Qp Qs (pv 2) (VP UO Qa)) Qm))) Qm))))) (Qd (Qu (PW.pt (UP (Qn QH (pv 4) Qa) (UP (Qn W0 (Qv QQ rfl (T 2) zy (qV (pv 2) Qe)) Qa) (Vb (Qn Kn (T.cl (MC T 11) (qV (Qp Qs (pv 2) (VP UO Qa)) Qe)) Qa))))) (Qd (Ql (i:=2) (sc 24).nd (Qh QW (QT Yd (pv 2) Yn (QR (VP UO Qa))) (Qy (Qc (QJ (Qc Qf (Qc (Qp Qs (pv 2) (VP UO Qa)) Qm))) Qm))))) (Qd (Qu (PW.pt (UP (Qn W0 (pv 4) Qa) (Vb (Qn W0 (Qv QQ rfl (T 2) zy (qV (pv 2) Qe)) Qa)))) (Qd (Ql (i:=2) (sc 24).nd (Qh QW (QT Yd (pv 2) Yn (QR (VP UO Qa))) (Qy (Qc (QJ (Qc (Qp Qs (Qy (Qc Qf (Qc Qf Qm))) (Qh Qx (pv 4) Qa)) (Qc (Qp Qs (pv 2) (VP UO Qa)) (Qc (Qp Qs (pv 2) (VP UO Qa)) Qm)))) Qm))))) (Qd (Q4 (Ue plainAttrs_list zk zl Q8 (pv 2) (qV (T.cl (O1 T) (qV (pv 0) (qV (Qh Qz (pv 3) Qa) Qe))) Qe))))))))))))
   (Qb (Wc zg (Qn W0 (Qv QQ rfl (T 2) zy (qV (pv 2) Qe)) Qa) (Qd (Ql (i:=2) (sc 24).nd (Qh QW (QT Yd (pv 2) Yn (QR (VP UO Qa))) (Qy (Qc (QJ (Qc (Qp Qs (Qy (Qc Qf (Qc Qf Qm))) (Qh Qx (Qh Qz (Qp Qs (pv 1) Qa) Qa) Qa)) (Qc (Qp Qs (pv 2) (VP UO Qa)) (Qc (Qp Qs (pv 2) (VP UO Qa)) Qm)))) Qm))))))
   (Qd (Qk (Qp Qs (pv 2) Qa)))))),?_⟩
  refine⟨K3,λD0 H1 nD0 s1 e1=>?_⟩;refine⟨_,U,p,U,⟨_,zm.of (s1 _ _ hp)⟩,Wt (K:=K) (a:=p) (xs:=cs.map V.int) (λi σ H2=>∃(D:qd)(ps:qb (qd×Tr))(o3 o4:Option V),σ=[some (.int X),some (.ref p),some (.ref D),o3,o4]/\PL H H2 D ps i/\(1<=i->0<ps.length)/\ps.length<=i)
   ⟨D0,[],none,none,U,⟨s1,nD0,e1,λx b=>nomatch b⟩,(λz=>absurd z ∅),qp _⟩ (λi σ H2 _ ⟨_,_,_,_,_,h,_⟩=>zm.of (h.s _ _ hp)) ?_ ?_⟩
  .rintro i x σ H2 hi ⟨D,ps,o3,o4,rfl,pl,Y,hle⟩;obtain⟨c,rfl,hci⟩:=S4 hi;have hi8:i<cs.length:=(qJ.mp hci).1;have hc0:=hcs c (qL hci);have C:0<=c / 9:=Int.ediv_nonneg hc0 ∅;have n0:0<=c%9:=qF _ ∅;have n1:c%9<9:=qA _ ∅;have d:=pl.e;have n:((ps.map λx=>V.ref x.1).length:Int)=(ps.length:Int):=by rw[qi]
   refine⟨_,U,_,_,U,U,Oc,?_⟩;by_cases k2:c%9<2
   .by_cases hlen:0<ps.length
    .refine⟨_,U,_,_,U,U,_,U,?_⟩;rw[qv (k2)];refine QI ⟨_,U,D,_,U,.inl (zm.of d),_,_,U,U,_,U,?_⟩;rw[qv (by rw[n];omega)];refine QI ?_;obtain⟨b,⟨q,t⟩,rfl⟩:=Va (l:=ps) ⋯;have j:=pl.t (q,t) (by simp);rw[qm,ql] at j hle;dsimp only at j;refine⟨_,U,_,U,_,U,D,_,U,zm.of d,λZ M n1 s3 s=>?_⟩;rw[DC] at s;refine⟨_,U,_,U,D,_,_,V.ref q,U,U,zm.of (s3 _ _ d),(by rw[qH];exact XG _ _),U2,λI N np s4 J=>⟨Uv,λl2 H5 n5 s5 L=>?_⟩⟩;refine⟨Z,l2,_,_,U,U,s5 _ _ (s4 _ _ s),L,Yj ((by rw[qi,ql];omega)),λO R n6 F S=>?_⟩;have g:Qi H2 R:=((s3.trans s4).trans s5).trans F;exact⟨O,b++[(I,.nt t)],_,_,U,pl.repl (l:=[(q,t)]) ( g) (s3.free (s4.free (s5.free n6))) S ⟨.nt (F _ _ (s5 _ _ J)) (j.1.a.mono g),j.1.th⟩ (qp _) (by show t.dp+1+b.length+1<=i+1;omega) (zC _),(λ_=>by rw[qm,ql];omega),by rw[qm,ql];omega⟩
    .refine⟨_,U,_,_,U,U,_,U,?_⟩;rw[qv (k2)];refine QI ⟨_,U,D,_,U,.inl (zm.of d),_,_,U,U,_,U,?_⟩;rw[qr (by rw[n];omega)];refine QA ⟨_,U,U,_,U,?_⟩;rw[Wr,qr ⋯];refine QA (QA ⟨_,U,_,_,U,U,_,U,?_⟩);rw[qr ⋯];refine QA (QA ?_);refine⟨_,U,.inl ⟨U,_,zm.of d⟩,_,U,_,U,_,_,U,U,⟨∅,∅⟩,X,c / 9,U,y,B,C,λt q N nq s4 j o=>?_⟩;exact⟨D,_,_,U,U,s4 _ _ d,(by rw[qi];exact QN ⋯),D,ps++[(q,t)],_,_,U,pl.app (s4) j o hle,(λ_=>by rw[qm,ql];omega),by rw[qm,ql];omega⟩
   .refine⟨_,U,_,_,U,U,_,U,?_⟩;rw[qr (k2)];refine QA (QA ⟨_,U,U,_,U,?_⟩);rw[Wr];by_cases k3:c%9=2
    .rw[qv k3];by_cases hlen:0<ps.length
     .refine QI ⟨_,U,D,_,U,.inl (zm.of d),_,_,U,U,_,U,?_⟩;rw[qv (by rw[n];omega)];have hlast:∃q t b,ps=b++[(q,t)]:=by
       obtain⟨b,⟨q,t⟩,e⟩:=Va hlen;exact⟨q,t,b,e⟩
      obtain⟨q9,t9,ps9,e9⟩:=hlast;have ht9:=pl.t (q9,t9) (by rw[e9];simp);refine QI ⟨_,U,_,U,D,_,_,V.ref q9,U,U,zm.of d,(by rw[e9,qH];exact XG _ _),q9,t9,U,ht9.1.a,(by have:=ht9.2;dsimp only at this;omega),λH2b m=>?_⟩;have G:=m _ _ d;refine⟨_,_,U,U,_,U,?_⟩;by_cases hz:(t9.th:Int)<2
      .rw[qv (hz)];refine QI ?_;obtain⟨b,⟨q,t⟩,rfl⟩:=Va (l:=ps) ⋯;have j:=pl.t (q,t) (by simp);have ht9e:t9=t:=by
        have e9':=q8 List.getLast? e9;rw[List.getLast?_append,List.getLast?_append] at e9';simp at e9';exact e9'.2.symm
       rw[qm,ql] at j hle;dsimp only at j;refine⟨_,U,_,U,_,U,D,_,U,zm.of G,λZ M n1 s3 s=>?_⟩;rw[DC] at s;refine⟨_,U,_,U,D,_,_,V.ref q,U,U,zm.of (s3 _ _ G),(by rw[qH];exact XG _ _),U2,λI N np s4 J=>⟨Uv,λl2 H5 n5 s5 L=>?_⟩⟩;refine⟨Z,l2,_,_,U,U,s5 _ _ (s4 _ _ s),L,Yj ((by rw[qi,ql];omega)),λO R n6 F S=>?_⟩;have g:Qi H2b R:=((s3.trans s4).trans s5).trans F;exact⟨O,b++[(I,.thr t)],_,_,U,pl.repl (l:=[(q,t)]) (m.trans g) (m.free (s3.free (s4.free (s5.free n6)))) S ⟨.thr (F _ _ (s5 _ _ J)) (j.1.a.mono (m.trans g)),by show t.th+1<=2;rw[ht9e] at hz;omega⟩ (qp _) (by show t.dp+1+b.length+1<=i+1;omega) (zC _),(λ_=>by rw[qm,ql];omega),by rw[qm,ql];omega⟩
      .rw[qr (hz)];refine QA ⟨_,U,_,_,U,U,_,U,?_⟩;rw[qr ⋯];refine QA (QA ?_);refine⟨_,U,.inl ⟨U,_,zm.of G⟩,_,U,_,U,_,_,U,U,⟨∅,∅⟩,X,c / 9,U,y,B,C,λt q N nq s4 j o=>?_⟩;exact⟨D,_,_,U,U,s4 _ _ G,(by rw[qi];exact QN ⋯),D,ps++[(q,t)],_,_,U,pl.app (m.trans s4) j o hle,(λ_=>by rw[qm,ql];omega),by rw[qm,ql];omega⟩
     .refine QI ⟨_,U,D,_,U,.inl (zm.of d),_,_,U,U,_,U,?_⟩;rw[qr (by rw[n];omega)];refine QA (QA ⟨_,U,_,_,U,U,_,U,?_⟩);rw[qr ⋯];refine QA (QA ?_);refine⟨_,U,.inl ⟨U,_,zm.of d⟩,_,U,_,U,_,_,U,U,⟨∅,∅⟩,X,c / 9,U,y,B,C,λt q N nq s4 j o=>?_⟩;exact⟨D,_,_,U,U,s4 _ _ d,(by rw[qi];exact QN ⋯),D,ps++[(q,t)],_,_,U,pl.app (s4) j o hle,(λ_=>by rw[qm,ql];omega),by rw[qm,ql];omega⟩
    .rw[qr k3];refine QA (QA ⟨_,U,_,_,U,U,_,U,?_⟩);by_cases k5:4<c%9
     .rw[qv (k5)];by_cases hlen:1<ps.length
      .refine QI ⟨_,U,D,_,U,.inl (zm.of d),_,_,U,U,_,U,?_⟩;rw[qv (by rw[n];omega)];refine QI ?_;obtain⟨ps1,⟨r,v⟩,rfl⟩:=Va (l:=ps) ⋯;rw[qm,ql] at hlen hle;obtain⟨b,⟨q,u⟩,rfl⟩:=Va (l:=ps1) ⋯;rw[zh] at pl d;have hu:=pl.t (q,u) (by simp);have hv:=pl.t (r,v) (by simp);have hln:(b++([(q,u)]++[(r,v)])).length=b.length+2:=by simp
       rw[hln] at hu hv;dsimp only at hu hv;rw[qm,ql] at hle;refine⟨_,U,_,U,_,U,D,_,U,zm.of d,λZ M nl1 s3 s=>?_⟩;rw[show b++([(q,u)]++[(r,v)])=b++[(q,u),(r,v)] from rfl,Bf] at s;refine⟨U2,λlb H3b nlb G e3b=>?_⟩;obtain⟨vv,hvv,hvm,_⟩:=Yx (xs:=[V.str Zt,V.str Zq]) (i:=(c%9)%2) (qF _ ∅) (qA _ ∅);obtain⟨nm,f,rfl,fdp,ft⟩:=A1 vv hvm;have m:=s3.trans G;refine⟨_,U,_,_,U,U,DZ,lb,_,_,_,U,U,zm.of e3b,hvv,?_⟩;refine⟨_,U,_,U,D,_,_,V.ref q,U,U,zm.of (m _ _ d),(by rw[qH];exact Bo _ _ _),_,U,_,U,D,_,_,V.ref r,U,U,zm.of (m _ _ d),(by rw[qH];exact Bp _ _ _),VS,λI N np s4 J=>⟨Uv,λl2 H5 n5 s5 L=>?_⟩⟩;refine⟨Z,l2,_,_,U,U,s5 _ _ (s4 _ _ (G _ _ s)),L,Yj ((by rw[qi,ql];omega)),λO R n6 F S=>?_⟩;have g:Qi H2 R:=((m.trans s4).trans s5).trans F;have pl2:=pl.repl (l:=[(q,u),(r,v)]) (n':=i+1) g (m.free (s4.free (s5.free n6))) S (ft _ I q r u v (F _ _ (s5 _ _ J)) (hu.1.mono g) (hv.1.mono g)) (by show 1<=2;decide) (by rw[fdp];omega) ⋯;exact⟨O,b++[(I,f u v)],_,_,U,pl2,(λ_=>by rw[qm,ql];omega),by rw[qm,ql];omega⟩
      .refine QI ⟨_,U,D,_,U,.inl (zm.of d),_,_,U,U,_,U,?_⟩;rw[qr (by rw[n];omega)];refine QA ?_;refine⟨_,U,.inl ⟨U,_,zm.of d⟩,_,U,_,U,_,_,U,U,⟨∅,∅⟩,X,c / 9,U,y,B,C,λt q N nq s4 j o=>?_⟩;exact⟨D,_,_,U,U,s4 _ _ d,(by rw[qi];exact QN ⋯),D,ps++[(q,t)],_,_,U,pl.app (s4) j o hle,(λ_=>by rw[qm,ql];omega),by rw[qm,ql];omega⟩
     .rw[qr (k5)];refine QA (QA ?_);refine⟨_,U,.inl ⟨U,_,zm.of d⟩,_,U,_,U,_,_,U,U,⟨∅,∅⟩,X,c / 9,U,y,B,C,λt q N nq s4 j o=>?_⟩;exact⟨D,_,_,U,U,s4 _ _ d,(by rw[qi];exact QN ⋯),D,ps++[(q,t)],_,_,U,pl.app (s4) j o hle,(λ_=>by rw[qm,ql];omega),by rw[qm,ql];omega⟩
  .rintro σ H2 ⟨D,ps,o3,o4,rfl,pl,Y,hle⟩;rw[qi] at Y hle pl;have o:=Y hl1;obtain⟨z0,_,C⟩:=B8 (xs:=cs) (i:=0) (Int.le_refl _) ⋯;refine VX (λσ M=>∃(D:qd)(ps:qb (qd×Tr)),σ=[some (.int X),some (.ref p),some (.ref D),o3,o4]/\PL H M D ps cs.length/\0<ps.length/\ps.length<=cs.length) (λσ M=>bU M (σ.getD 2 none)) ⟨D,ps,U,pl,o,hle⟩ ?_ ?_
   .rintro σ H2 ⟨D,ps,rfl,pl,o,hle⟩;have d:=pl.e;have n:((ps.map λx=>V.ref x.1).length:Int)=(ps.length:Int):=by rw[qi]
    refine⟨_,U,D,_,U,.inl (zm.of d),_,_,U,U,_,U,?_⟩;by_cases hlen:1<ps.length
    .rw[qv (by rw[n];omega)];refine QI ?_;obtain⟨ps1,⟨r,v⟩,rfl⟩:=Va (l:=ps) ⋯;rw[qm,ql] at hlen hle;obtain⟨b,⟨q,u⟩,rfl⟩:=Va (l:=ps1) ⋯;rw[zh] at pl d;have hu:=pl.t (q,u) (by simp);have hv:=pl.t (r,v) (by simp);have hln:(b++([(q,u)]++[(r,v)])).length=b.length+2:=by simp
     rw[hln] at hu hv;dsimp only at hu hv;rw[qm,ql] at hle;refine⟨_,U,_,U,_,U,D,_,U,zm.of d,λZ M nl1 s3 s=>?_⟩;rw[show b++([(q,u)]++[(r,v)])=b++[(q,u),(r,v)] from rfl,Bf] at s;refine⟨U2,λlb H3b nlb G e3b=>?_⟩;obtain⟨vv,hvv,hvm,_⟩:=Yx (xs:=[V.str Zt,V.str Zq]) (i:=(z0 / 9)%2) (qF _ ∅) (qA _ ∅);obtain⟨nm,f,rfl,fdp,ft⟩:=A1 vv hvm;have m:=s3.trans G;refine⟨_,U,p,_,_,_,U,U,zm.of ((pl.s.trans m) _ _ hp),C,_,_,U,U,⟨∅,∅⟩,_,_,U,U,DZ,lb,_,_,_,U,U,zm.of e3b,hvv,?_⟩;refine⟨_,U,_,U,D,_,_,V.ref q,U,U,zm.of (m _ _ d),(by rw[qH];exact Bo _ _ _),_,U,_,U,D,_,_,V.ref r,U,U,zm.of (m _ _ d),(by rw[qH];exact Bp _ _ _),VS,λI N np s4 J=>⟨Uv,λl2 H5 n5 s5 L=>?_⟩⟩;refine⟨Z,l2,_,_,U,U,s5 _ _ (s4 _ _ (G _ _ s)),L,Yj ((by rw[qi,ql];omega)),λO R n6 F S=>?_⟩;have g:Qi H2 R:=((m.trans s4).trans s5).trans F;have pl2:=pl.repl (l:=[(q,u),(r,v)]) (n':=cs.length) g (m.free (s4.free (s5.free n6))) S (ft _ I q r u v (F _ _ (s5 _ _ J)) (hu.1.mono g) (hv.1.mono g)) (by show 1<=2;decide) (by rw[fdp];omega) ⋯;refine⟨⟨O,b++[(I,f u v)],U,pl2,by rw[qm,ql];omega,by rw[qm,ql];omega⟩,?_⟩;show(match R O with|some (.lst xs)=>xs.length|_=>0)<(match H2 D with|some (.lst xs)=>xs.length|_=>0);rw[S,d];simp
    .rw[qr (by rw[n];omega)];refine QA ?_;obtain⟨b,⟨q,t⟩,rfl⟩:=Va (l:=ps) o;have g:b=[]:=by
      rw[qm,ql] at hlen;exact yL.mp ⋯
     subst g;have j:=pl.t (q,t) (by simp);exact⟨_,U,D,_,_,V.ref q,U,U,zm.of d,U,k t q H2 pl.s j.1 (by have:=j.2;simp at this;omega)⟩
   .rintro σ M F G b ⟨x,e,d,xs,e1,g,j,m,s,J,n,L,h⟩;exact⟨x,e,d,xs,e1,g,j,m,s,J,n,L,b _ _ h⟩
def Q9:Tr->CD->qb CD->Bool
 |.nt u,c,os=>!Q9 u c os
 |.jN u v,c,os=>Q9 u c os&&Q9 v c os
 |.jL u v,c,os=>Q9 u c os||Q9 v c os
 |.thr u,c,os=>(List.range os.length).any λk=>Q9 u (os.getD k c) (c::(os.take k++os.drop (k+1)))
 |t,c,_=>Dh c t
def Tj{α:Type}(f:α->V)(xs:qb α)(v:Int)(h:0<=v):Ub (xs.map f) none (some v)=(xs.take v.toNat).map f:=by
 have a:¬v<0:=by omega
 simp only[Ub,HT.jP,qz a,qi,xK,kM,<-yn];congr 1;by_cases b:v.toNat<=xs.length
 .rw[show min v.toNat xs.length=v.toNat by omega]
 .rw[show min v.toNat xs.length=xs.length by omega,qP (qp _),qP ⋯]
inductive aP(n:Nat)(vs:qb V)(H:Hp)(Q:VK)(E:XK):Prop
 |mk:∀p t u l c (xs:qb (qd×CD)),vs=[.ref p,.ref u,.ref l]->jD H p t->t.dp<n->U9 H u c->Yy c->H l=some (.lst (xs.map λx=>V.ref x.1))->(∀x∈xs,U9 H x.1 x.2/\Yy x.2)->xs.length<=100->(∀H',Qi H H'->Q (.bl (Q9 t c (xs.map (·.2)))) H')->aP n vs H Q E
def F0{y:qc}:decide (x∈[y])=decide (y=x):=by
 by_cases h:y=x
 .rw[qv h,qv (qq.mpr h.symm)]
 .rw[qr h,qr λz=>h (qq.mp z).symm]
def Oe{m:qd}:YQ (Yh (Yh (Yf [] [(inr ZJ,V.ref a1),(inr Zc,V.ref a2),(inr Zf,V.ref a3)]) (inr Ze) (.ref a5)) (inr Zb) (.ref m)) (inr Ze)=some (V.ref a5):=by kernel_rfl
def I9{m:qd}:YQ (Yh (Yh (Yf [] [(inr ZJ,V.ref a1),(inr Zc,V.ref a2),(inr Zf,V.ref a3)]) (inr Ze) (.ref a5)) (inr Zb) (.ref m)) (inr ZJ)=some (V.ref a1):=by kernel_rfl
def Of{m:qd}:YQ (Yh (Yh (Yf [] [(inr ZJ,V.ref a1),(inr Zc,V.ref a2),(inr Zf,V.ref a3)]) (inr Ze) (.ref a5)) (inr Zb) (.ref m)) (inr Zc)=some (V.ref a2):=by kernel_rfl
def T7{m:qd}:YQ (Yh (Yh (Yf [] [(inr ZJ,V.ref a1),(inr Zc,V.ref a2),(inr Zf,V.ref a3)]) (inr Ze) (.ref a5)) (inr Zb) (.ref m)) (inr Zf)=some (V.ref a3):=by kernel_rfl
def Hv{m:qd}:YQ (Yh (Yh (Yf [] [(inr ZJ,V.ref a1),(inr Zc,V.ref a2),(inr Zf,V.ref a3)]) (inr Ze) (.ref a5)) (inr Zb) (.ref m)) (inr Zb)=some (V.ref m):=by kernel_rfl
def RP :(Yh (Yf [] [(inr ZJ,V.ref a1),(inr Zc,V.ref a2),(inr Zf,V.ref a3)]) (inr Ze) (.ref a5)).length=4:=by kernel_rfl
theorem GJ(T:Txt P w K mg base a fd):∀n,T.k jx (n+1) 26 (aP n)
 |0=>by
  refine T.ok 26 (λY A outer st H vs Q E hr h=>?_) (λvs H Q E h=>by obtain⟨p,t,u,l,c,xs,rfl,_⟩:=h;rfl)
  .obtain⟨p,t,u,l,c,xs,_,_,h,_⟩:=h;exact absurd h (yJ _)
 |n+1=>by
  refine T.ok 26 (λY A outer st H vs Q E hr h=>?_) (λvs H Q E h=>by obtain⟨p,t,u,l,c,xs,rfl,_⟩:=h;rfl);obtain⟨p,t,u,l,c,xs,rfl,tt,hd,⟨q,m,e1,y,N⟩,G,O,d,Z,k⟩:=h;have r:QF (n+1) _:=hr;have kZ:QF 1 _:=r.mono ⋯;have hu:=Dv hr;obtain⟨t9,h9,B⟩:∃t,yV (T.cx 26 Y A outer st H E) ((QK (sO 26)).drop 9) t /\
   ∀(nm b:qc),H p=some (.tup [.str nm,.str b]) ->
    ((nm=Ze/\∀H',Qi H H'->Q (.bl (decide (b∈xD c.t++xD c.b))) H')\/(nm=ZJ/\∀H',Qi H H'->Q (.bl (decide (b∈xD c.t))) H')\/(nm=Zc/\∀H',Qi H H'->Q (.bl (decide (b∈[c.s]))) H')\/(nm=Zf/\∀H',Qi H H'->Q (.bl (decide (b∈[c.fo]))) H')\/(nm=Zb/\∀H',Qi H H'->Q (.bl (decide (b∈c.ms))) H')) ->
    t {nx:=λ_ H'=>Q .non H',rt:=Q} [some (.ref p),some (.ref u),some (.ref l),some (.ref q),some (.str c.fo),some (.ref m),some (.str nm),none,none] H:=by
   refine⟨_,(Qb (Ql (i:=8) (sc 26).nd (OR (Gz Qf (Q7 (FT T) kZ rfl (T 67) (T.F 25).kp (T.B 25) .nil QP (qV (Qp Qt (pv 3) Qa) Qe)) (Gz Qf (Qy (Qc (Qp Qt (pv 3) Qa) Qm)) (Gz Qf (Qy (Qc (pv 4) Qm)) OM))) rfl rfl (by simp) ∅))
    (Qb (Xr hu (pv 8) Qf (Qh QW (FO hu (pv 8) Qf) (Q7 (FT T) kZ rfl (T 67) (T.F 25).kp (T.B 25) .nil QP (qV (Qp Qt (pv 3) Qa) Qe))) rfl)
    (Qb (Xr hu (pv 8) Qf (pv 5) U)
    (Qd (Qk (YH Vv (Qp Qt (pv 0) Qa) (FO hu (pv 8) (pv 6)) (by with_unfolding_all rfl))))))),λnm b ep C=>?_⟩
   intro D nD;have s1:Qi H (upd H D (.dK [])):=Qi.zL nD;have eD1:(upd H D (.dK [])) D=some (.dK []):=Qg;generalize upd H D (.dK [])=H1 at s1 eD1⊢;have s:=G.g.tl;have h3:=G.g.bl;have w1:=KP c.t;have w2:=KP c.b;refine⟨_,U,q,_,_,_,U,U,zu.of (s1 _ _ y),U,c.t,U,G.g.t_,⋯,λa1 H2 n2 s2 ea1=>?_⟩;refine⟨_,U,q,_,_,_,U,U,zu.of (s2 _ _ (s1 _ _ y)),U,Uv,λa2 H3 n3 s3 ea2=>?_⟩;refine⟨_,U,Uv,λa3 J n4 s4 ea3=>?_⟩;have I:=s4 _ _ (s3 _ _ (s2 _ _ eD1));refine⟨I,[(inr ZJ,.ref a1),(inr Zc,.ref a2),(inr Zf,.ref a3)],U,(by show 3<=15;decide),?_⟩;have L:=s4 _ _ (s3 _ _ ea1);have M:=s4 _ _ ea2;have s04:Qi H J:=((s1.trans s2).trans s3).trans s4;have sub:∀o,Qi H (upd J D o):=λo=>s04.zE nD;have a1D:a1≠D:=QX L I nofun;have a2D:a2≠D:=QX M I nofun;have a3D:a3≠D:=QX ea3 I nofun;have ek1:YQ (Yf [] [(inr ZJ,V.ref a1),(inr Zc,.ref a2),(inr Zf,.ref a3)]) (inr ZJ)=some (V.ref a1):=by kernel_rfl
   have kl:(Yf [] [(inr ZJ,V.ref a1),(inr Zc,V.ref a2),(inr Zf,V.ref a3)]).length=3:=by kernel_rfl
   have s5:=sub (.dK (Yf [] [(inr ZJ,V.ref a1),(inr Zc,V.ref a2),(inr Zf,V.ref a3)]));have R:(upd J D (.dK (Yf [] [(inr ZJ,V.ref a1),(inr Zc,V.ref a2),(inr Zf,V.ref a3)]))) D=some (.dK (Yf [] [(inr ZJ,V.ref a1),(inr Zc,V.ref a2),(inr Zf,V.ref a3)])):=Qg;have f1:(upd J D (.dK (Yf [] [(inr ZJ,V.ref a1),(inr Zc,V.ref a2),(inr Zf,V.ref a3)]))) a1=some (.lst ((xD c.t).map V.str)):=by rw[Qj a1D];exact L
   have f2:(upd J D (.dK (Yf [] [(inr ZJ,V.ref a1),(inr Zc,V.ref a2),(inr Zf,V.ref a3)]))) a2=some (.lst [V.str c.s]):=by rw[Qj a2D];exact M
   have f3:(upd J D (.dK (Yf [] [(inr ZJ,V.ref a1),(inr Zc,V.ref a2),(inr Zf,V.ref a3)]))) a3=some (.lst [V.str c.fo]):=by rw[Qj a3D];exact ea3
   generalize upd J D (.dK (Yf [] [(inr ZJ,V.ref a1),(inr Zc,V.ref a2),(inr Zf,V.ref a3)]))=H5 at s5 R f1 f2 f3⊢;refine⟨_,U,D,V.ref a1,U,(by have z:=Xi.k (k:=inr ZJ) R;rw[ek1] at z;exact z),?_⟩;refine⟨_,U,q,_,_,_,U,U,zu.of (s5 _ _ y),U,c.b,U,G.g.b_,⋯,λa4 H6 n6 s6 ea4=>?_⟩;refine⟨a1,a4,_,_,U,U,s6 _ _ f1,ea4,Yj ((by rw[qi,qi];omega)),λa5 X n7 s7 ea5=>?_⟩;have F:=s6.trans s7;have eD7:=F _ _ R;have f:=s5.trans F;refine⟨_,U,D,_,U,Ci.k (k:=inr Ze) eD7 (by rw[kl];exact QN ∅),?_⟩;refine⟨_,U,_,U,D,_,U,Ci.k (k:=inr Zb) Qg (by rw[RP];exact QN ∅),?_⟩;rw[Xk];have g:∀(x:qd)(xs:qb V),X x=some (.lst xs)->(upd X D (.dK (Yh (Yh (Yf [] [(inr ZJ,V.ref a1),(inr Zc,V.ref a2),(inr Zf,V.ref a3)]) (inr Ze) (.ref a5)) (inr Zb) (.ref m)))) x=some (.lst xs):=λx xs ex=>by rw[Qj (QX ex eD7 nofun)];exact ex
   have v:(upd X D (.dK (Yh (Yh (Yf [] [(inr ZJ,V.ref a1),(inr Zc,V.ref a2),(inr Zf,V.ref a3)]) (inr Ze) (.ref a5)) (inr Zb) (.ref m)))) D=some (.dK (Yh (Yh (Yf [] [(inr ZJ,V.ref a1),(inr Zc,V.ref a2),(inr Zf,V.ref a3)]) (inr Ze) (.ref a5)) (inr Zb) (.ref m))):=Qg;have b:Qi H (upd X D (.dK (Yh (Yh (Yf [] [(inr ZJ,V.ref a1),(inr Zc,V.ref a2),(inr Zf,V.ref a3)]) (inr Ze) (.ref a5)) (inr Zb) (.ref m)))):=f.zE nD;have g1:=g a1 _ (F _ _ f1);have g2:=g a2 _ (F _ _ f2);have g3:=g a3 _ (F _ _ f3);have g5:=g a5 _ ea5;have gm:=g m _ (f _ _ N);generalize upd X D (.dK (Yh (Yh (Yf [] [(inr ZJ,V.ref a1),(inr Zc,V.ref a2),(inr Zf,V.ref a3)]) (inr Ze) (.ref a5)) (inr Zb) (.ref m)))=S at v b g1 g2 g3 g5 gm⊢;rw[<-qH] at g5;refine⟨_,U,p,_,_,_,U,U,zu.of (b _ _ ep),U,_,U,_,U,?_⟩;rcases C with⟨rfl,C⟩|⟨rfl,C⟩|⟨rfl,C⟩|⟨rfl,C⟩|⟨rfl,C⟩
   .refine⟨D,V.ref a5,U,(by have z:=Xi.k (k:=inr Ze) v;rw[Oe] at z;exact z),a5,_,U,.inl (zm.of g5),U,Q2 _,?_⟩;rw[qz ∅,YC];exact C S b
   .refine⟨D,V.ref a1,U,(by have z:=Xi.k (k:=inr ZJ) v;rw[I9] at z;exact z),a1,_,U,.inl (zm.of g1),U,Q2 _,?_⟩;rw[qz ∅,YC];exact C S b
   .refine⟨D,V.ref a2,U,(by have z:=Xi.k (k:=inr Zc) v;rw[Of] at z;exact z),a2,([c.s].map V.str),U,.inl (zm.of g2),U,Q2 _,?_⟩;rw[qz ∅,YC];exact C S b
   .refine⟨D,V.ref a3,U,(by have z:=Xi.k (k:=inr Zf) v;rw[T7] at z;exact z),a3,([c.fo].map V.str),U,.inl (zm.of g3),U,Q2 _,?_⟩;rw[qz ∅,YC];exact C S b
   .refine⟨D,V.ref m,U,(by have z:=Xi.k (k:=inr Zb) v;rw[Hv] at z;exact z),m,_,U,.inl (zm.of gm),U,Q2 _,?_⟩;rw[qz ∅,YC];exact C S b
  refine⟨_,(Qb (Eo (pv 1) (XY rfl (Yu (QG (i:=3) (sc 26).nd) (Yu (QG (i:=4) (sc 26).nd) (Yu (QG (i:=5) (sc 26).nd) WI)))))
   (Qb (Ql (i:=6) (sc 26).nd (Qp Qt (pv 0) Qa))
   (Qb (Qu (Qn QH (pv 6) Qf) (Qd (Qk Ur)) Qq)
   (Qb (Qu (Qn QH (pv 6) Qf) (Qd (Qk (YH Km (Qp Qt (pv 3) Qa) Qf))) Qq)
   (Qb (Qu (Qn QH (pv 6) Qf) (Qd (Qk (GD Vu Vu (Qp Qt (pv 0) Qa) (Qp Qt (pv 3) Qa) (Qp Qt (pv 0) Qa)))) Qq)
   (Qb (Qu (Qn QH (pv 6) Qf) (Qd (Qk (GC (Q7 (GJ T n) r rfl (T 15) (T.F 26).kp (T.B 26) .nil QP (qV (Qp Qt (pv 0) Qa) (qV (pv 1) (qV (pv 2) Qe))))))) Qq)
   (Qb (Qu (Qn QH (pv 6) Qf) (Qd (Qk (Vi (Q7 (GJ T n) r rfl (T 15) (T.F 26).kp (T.B 26) .nil QP (qV (Qp Qt (pv 0) Qa) (qV (pv 1) (qV (pv 2) Qe)))) (UC (Q7 (GJ T n) r rfl (T 15) (T.F 26).kp (T.B 26) .nil QP (qV (Qp Qt (pv 0) Qa) (qV (pv 1) (qV (pv 2) Qe)))))))) Qq)
   (Qb (Qu (Qn QH (pv 6) Qf) (Qd (Qk (FN (Q7 (GJ T n) r rfl (T 15) (T.F 26).kp (T.B 26) .nil QP (qV (Qp Qt (pv 0) Qa) (qV (pv 1) (qV (pv 2) Qe)))) (UC (Q7 (GJ T n) r rfl (T 15) (T.F 26).kp (T.B 26) .nil QP (qV (Qp Qt (pv 0) Qa) (qV (pv 1) (qV (pv 2) Qe)))))))) Qq)
   (Qb (Qu (Qn QH (pv 6) Qf) (Qb (Ym zg rfl (Yq rfl (T 6) (qV (Qv QQ rfl (T 2) zy (qV (pv 2) Qe)) Qe)) (QG (i:=7) (sc 26).nd) (Qd (Qu (Q5 (Q7 (GJ T n) r rfl (T 15) (T.F 26).kp (T.B 26) .nil QP (qV (Qp Qt (pv 0) Qa) (qV (Qp Qs (pv 2) (pv 7)) (qV (Qh QW (Qh QW (Qy (Qc (pv 1) Qm)) (QT Yd (pv 2) Yn (QR (pv 7)))) (QT Yd (pv 2) (QR (Qh QV (pv 7) Qa)) Yn)) Qe))))) (Qd (Qk Ur)) Qq)))
   (Qd (Qk Ur))) Qq)
   h9))))))))),?_⟩
  have tt':=tt
  cases tt' with
  |any e=>
   refine⟨_,U,u,_,U,zu.of e1,U,_,_,U,_,_,U,_,_,U,U,?_⟩;refine⟨_,U,p,_,_,_,U,U,zu.of e,U,?_⟩;refine⟨_,U,U,_,U,Us ?_⟩;exact k H (Qi.refl H)
  |ans e=>
   refine⟨_,U,u,_,U,zu.of e1,U,_,_,U,_,_,U,_,_,U,U,?_⟩;refine⟨_,U,p,_,_,_,U,U,zu.of e,U,?_⟩;refine⟨_,U,U,_,U,zO ∅ ?_⟩;refine⟨_,U,U,_,U,Us ?_⟩;refine⟨_,U,q,_,_,_,U,U,zu.of y,U,U,?_⟩;rw[Vg];exact k H (Qi.refl H)
  |days e v=>
   refine⟨_,U,u,_,U,zu.of e1,U,_,_,U,_,_,U,_,_,U,U,?_⟩;refine⟨_,U,p,_,_,_,U,U,zu.of e,U,?_⟩;(iterate 2 refine⟨_,U,U,_,U,zO ∅ ?_⟩);refine⟨_,U,U,_,U,Us ?_⟩
   rename_i lo hi
   have b:=k H (Qi.refl H);refine⟨_,U,p,_,_,_,U,U,zu.of e,U,_,U,q,_,_,_,U,U,zu.of y,U,_,_,U,U,_,U,?_⟩;by_cases s:lo<=c.d
   .rw[qv s];refine QI ⟨_,U,p,_,_,_,U,U,zu.of e,U,_,_,U,U,?_⟩;rw[show Q9 (.days lo hi) c (xs.map (·.2))=(decide (lo<=c.d)&&decide (c.d<=hi)) from rfl,qv s,yp] at b;exact b
   .rw[qr s];refine QA ?_;rw[show Q9 (.days lo hi) c (xs.map (·.2))=(decide (lo<=c.d)&&decide (c.d<=hi)) from rfl,qr s,yw] at b;exact b
  |nt e s=>
   refine⟨_,U,u,_,U,zu.of e1,U,_,_,U,_,_,U,_,_,U,U,?_⟩;refine⟨_,U,p,_,_,_,U,U,zu.of e,U,?_⟩;(iterate 3 refine⟨_,U,U,_,U,zO ∅ ?_⟩);refine⟨_,U,U,_,U,Us ?_⟩;refine⟨_,U,p,_,_,_,U,U,zu.of e,U,_,U,_,U,?_⟩;exact⟨_,_,u,l,c,xs,U,s,(by simp only[Tr.dp] at hd;omega),⟨q,m,e1,y,N⟩,G,O,d,Z,λH' s'=>⟨_,U,k H' s'⟩⟩
  |jN e s C=>
   refine⟨_,U,u,_,U,zu.of e1,U,_,_,U,_,_,U,_,_,U,U,?_⟩;refine⟨_,U,p,_,_,_,U,U,zu.of e,U,?_⟩;(iterate 4 refine⟨_,U,U,_,U,zO ∅ ?_⟩);refine⟨_,U,U,_,U,Us ?_⟩
   rename_i a1 a2
   refine⟨_,U,p,_,_,_,U,U,zu.of e,U,_,U,_,U,?_⟩;refine⟨_,_,u,l,c,xs,U,s,(by simp only[Tr.dp] at hd;omega),⟨q,m,e1,y,N⟩,G,O,d,Z,λH' s'=>⟨_,U,?_⟩⟩;cases F:Q9 a1 c (xs.map (·.2))
   .skip
    refine QA ?_;have b:=k H' s';rw[show Q9 (.jN a1 a2) c (xs.map (·.2))=(Q9 a1 c (xs.map (·.2))&&Q9 a2 c (xs.map (·.2))) from rfl,F,yw] at b;exact b
   .skip
    refine QI ⟨_,U,p,_,_,_,U,U,zu.of (s' _ _ e),U,_,U,_,U,?_⟩;refine⟨_,_,u,l,c,xs,U,C.mono s',(by simp only[Tr.dp] at hd;omega),U9.mono ⟨q,m,e1,y,N⟩ s',G,s' _ _ O,(λx v=>⟨(d x v).1.mono s',(d x v).2⟩),Z,λH2 s2=>?_⟩;have b:=k H2 (s'.trans s2);rw[show Q9 (.jN a1 a2) c (xs.map (·.2))=(Q9 a1 c (xs.map (·.2))&&Q9 a2 c (xs.map (·.2))) from rfl,F,yp] at b;exact b
  |jL e s C=>
   refine⟨_,U,u,_,U,zu.of e1,U,_,_,U,_,_,U,_,_,U,U,?_⟩;refine⟨_,U,p,_,_,_,U,U,zu.of e,U,?_⟩;(iterate 5 refine⟨_,U,U,_,U,zO ∅ ?_⟩);refine⟨_,U,U,_,U,Us ?_⟩
   rename_i a1 a2
   refine⟨_,U,p,_,_,_,U,U,zu.of e,U,_,U,_,U,?_⟩;refine⟨_,_,u,l,c,xs,U,s,(by simp only[Tr.dp] at hd;omega),⟨q,m,e1,y,N⟩,G,O,d,Z,λH' s'=>⟨_,U,?_⟩⟩;cases F:Q9 a1 c (xs.map (·.2))
   .skip
    refine QA ⟨_,U,p,_,_,_,U,U,zu.of (s' _ _ e),U,_,U,_,U,?_⟩;refine⟨_,_,u,l,c,xs,U,C.mono s',(by simp only[Tr.dp] at hd;omega),U9.mono ⟨q,m,e1,y,N⟩ s',G,s' _ _ O,(λx v=>⟨(d x v).1.mono s',(d x v).2⟩),Z,λH2 s2=>?_⟩;have b:=k H2 (s'.trans s2);rw[show Q9 (.jL a1 a2) c (xs.map (·.2))=(Q9 a1 c (xs.map (·.2))||Q9 a2 c (xs.map (·.2))) from rfl,F,Bool.false_or] at b;exact b
   .skip
    refine QI ?_;have b:=k H' s';rw[show Q9 (.jL a1 a2) c (xs.map (·.2))=(Q9 a1 c (xs.map (·.2))||Q9 a2 c (xs.map (·.2))) from rfl,F,Bool.true_or] at b;exact b
  |thr e s=>
   refine⟨_,U,u,_,U,zu.of e1,U,_,_,U,_,_,U,_,_,U,U,?_⟩;refine⟨_,U,p,_,_,_,U,U,zu.of e,U,?_⟩;(iterate 6 refine⟨_,U,U,_,U,zO ∅ ?_⟩);refine⟨_,U,U,_,U,Us ?_⟩
   rename_i q1 a1
   have hll:(xs.map λx=>V.ref x.1).length=xs.length:=qi _;refine⟨_,U,l,_,U,.inl (zm.of O),((xs.map λx=>V.ref x.1).length:Int),U,⋯,⋯,YD (n:=((xs.map λx=>V.ref x.1).length:Int).toNat) (λi σ H2=>∃(o7:Option V),σ=[some (.ref p),some (.ref u),some (.ref l),some (.ref q),some (.str c.fo),some (.ref m),some (.str ZZ),o7,none]/\Qi H H2/\∀j,j<i->Q9 a1 ((xs.map (·.2)).getD j c) (c::((xs.map (·.2)).take j++(xs.map (·.2)).drop (j+1)))=false)
    ⟨none,U,Qi.refl H,λj z=>absurd z (yJ j)⟩ ?_ ?_⟩
   .rintro i σ H2 hi ⟨o7,rfl,s2,C⟩;have I:i<xs.length:=by omega
    have M:xs[i]?=some xs[i]:=qx I;have R:=d xs[i] (zU I);have L:=s2 _ _ O;have eat:xX (xs.map λx=>V.ref x.1) (0+(i:Int))=some (V.ref xs[i].1):=by
     rw[kO];exact QB (by rw[qC,M];rfl)
    refine⟨_,U,p,_,_,_,U,U,zu.of (s2 _ _ e),U,_,U,_,U,l,_,_,_,U,U,zm.of L,eat,?_⟩;refine⟨_,U,Uv,λl1 H3 n3 s3 e3'=>?_⟩;refine⟨_,U,_,U,_,U,l,_,U,zm.of (s3 _ _ L),λl2 J n4 s4 e4=>?_⟩;rw[Tj _ _ _ ⋯] at e4;refine⟨l1,l2,_,_,U,U,s4 _ _ e3',e4,Yj ((by rw[ql,qi,zi];omega)),λl3 H5 n5 s5 e5=>?_⟩;have s25:=(s3.trans s4).trans s5;refine⟨_,U,_,U,_,_,U,U,_,U,l,_,U,zm.of (s25 _ _ L),λl4 H6 n6 s6 e6=>?_⟩;rw[Ww _ _ _ ⋯] at e6;refine⟨l3,l4,_,_,U,U,s6 _ _ e5,e6,Yj ((by rw[qm,ql,qi,qi,zi,qZ];omega)),λl5 X n7 s7 e7=>?_⟩;have s27:=(s25.trans s6).trans s7;have f:=s2.trans s27;have t1:(0+(i:Int)).toNat=i:=by omega
    have t2:(0+(i:Int)+1).toNat=i+1:=by omega
    rw[t1,t2] at e7;refine⟨q1,a1,xs[i].1,l5,xs[i].2,(u,c)::(xs.take i++xs.drop (i+1)),U,s.mono f,(by simp only[Tr.dp] at hd;omega),R.1.mono f,R.2,?_,?_,?_,λS s8=>⟨_,U,?_⟩⟩
    .rw[e7];simp
    .intro x v;rcases qy.mp v with rfl|v
     .exact⟨U9.mono ⟨q,m,e1,y,N⟩ f,G⟩
     .have hx':x∈xs:=by
       rcases qT.mp v with v|v
       .exact jc v
       .exact jG v
      exact⟨(d x hx').1.mono f,(d x hx').2⟩
    .rw[qw,qm,zi,qZ];omega
    have ed:((u,c)::(xs.take i++xs.drop (i+1))).map (·.2)=c::((xs.map (·.2)).take i++(xs.map (·.2)).drop (i+1)):=by
     rw[qX,qH,yn,vQ]
    have eg:(xs.map (·.2)).getD i c=xs[i].2:=by
     rw[q4,qC,M];rfl
    rw[ed,<-eg];cases F:Q9 a1 ((xs.map (·.2)).getD i c) (c::((xs.map (·.2)).take i++(xs.map (·.2)).drop (i+1)))
    .refine QA ⟨_,U,f.trans s8,λj hj=>?_⟩;by_cases v:j=i
     .rw[v];exact F
     .exact C j ⋯
    .refine QI ?_;have b:=k S (f.trans s8);have v:Q9 (.thr a1) c (xs.map (·.2))=true:=by
      show(List.range (xs.map (·.2)).length).any _=true;rw[j0];exact⟨i,jE.mpr (by rw[qi];exact I),F⟩
     rw[v] at b;exact b
   .rintro σ H2 ⟨o7,rfl,s2,C⟩;have b:=k H2 s2;have v:Q9 (.thr a1) c (xs.map (·.2))=false:=by
     show(List.range (xs.map (·.2)).length).any _=false;rw[List.any_eq_false];intro j hj;have f:=jE.mp hj;rw[qi] at f;rw[C j ⋯];decide
    rw[v] at b;exact b
  |word e hw=>
   refine⟨_,U,u,_,U,zu.of e1,U,_,_,U,_,_,U,_,_,U,U,?_⟩;refine⟨_,U,p,_,_,_,U,U,zu.of e,U,?_⟩;(iterate 7 refine⟨_,U,U,_,U,zO ∅ ?_⟩);exact B Ze _ e (.inl ⟨U,k⟩)
  |title e hw=>
   refine⟨_,U,u,_,U,zu.of e1,U,_,_,U,_,_,U,_,_,U,U,?_⟩;refine⟨_,U,p,_,_,_,U,U,zu.of e,U,?_⟩;(iterate 7 refine⟨_,U,U,_,U,zO ∅ ?_⟩);exact B ZJ _ e (.inr (.inl ⟨U,k⟩))
  |frm e hw=>
   refine⟨_,U,u,_,U,zu.of e1,U,_,_,U,_,_,U,_,_,U,U,?_⟩;refine⟨_,U,p,_,_,_,U,U,zu.of e,U,?_⟩;(iterate 7 refine⟨_,U,U,_,U,zO ∅ ?_⟩);exact B Zc _ e (.inr (.inr (.inl ⟨U,λH' s'=>by rw[F0];exact k H' s'⟩)))
  |inn e hw=>
   refine⟨_,U,u,_,U,zu.of e1,U,_,_,U,_,_,U,_,_,U,U,?_⟩;refine⟨_,U,p,_,_,_,U,U,zu.of e,U,?_⟩;(iterate 7 refine⟨_,U,U,_,U,zO ∅ ?_⟩);exact B Zf _ e (.inr (.inr (.inr (.inl ⟨U,λH' s'=>by rw[F0];exact k H' s'⟩))))
  |yK e hw=>
   refine⟨_,U,u,_,U,zu.of e1,U,_,_,U,_,_,U,_,_,U,U,?_⟩;refine⟨_,U,p,_,_,_,U,U,zu.of e,U,?_⟩;(iterate 7 refine⟨_,U,U,_,U,zO ∅ ?_⟩);exact B Zb _ e (.inr (.inr (.inr (.inr ⟨U,k⟩))))
def RM(u:Tr):Prop:=∀c os a,List.Perm os a->Q9 u c os=Q9 u c a
def Bv(h:RM u)  :Q9 (.thr u) c os=true↔∃d rest,List.Perm os (d::rest)/\Q9 u d (c::rest)=true:=by
 show(List.range os.length).any _=true↔_;rw[j0];constructor
 .rintro⟨k,f,e⟩;have a:=jE.mp f;have g:os.getD k c=os[k]:=by rw[q4,qx a];rfl
  refine⟨os[k],os.take k++os.drop (k+1),?_,by rw[<-g];exact e⟩;have b:os=os.take k++os[k]::os.drop (k+1):=by rw[<-zP a,zG]
  exact(List.Perm.of_eq b).trans xb
 .rintro⟨d,rest,a,e⟩;obtain⟨s,t,rfl⟩:=xO (a.mem_iff.mpr qo);refine⟨s.length,jE.mpr (by simp),?_⟩;have f:List.Perm (s++t) rest:=List.Perm.cons_inv (xb.symm.trans a);have e1:(s++d::t).getD s.length c=d:=by simp[q4]
  have b:(s++d::t).take s.length=s:=by simp
  have g:(s++d::t).drop (s.length+1)=t:=by
   rw[List.drop_append];simp
  rw[e1,b,g,h d _ _ (f.cons c)];exact e
theorem Wf:∀u:Tr,RM u
 |.nt u=>λc os a h=>by show(!Q9 u c os) = !Q9 u c a;rw[Wf u c os a h]
 |.jN u v=>λc os a h=>by show(Q9 u c os&&Q9 v c os)=(Q9 u c a&&Q9 v c a);rw[Wf u c os a h,Wf v c os a h]
 |.jL u v=>λc os a h=>by show(Q9 u c os||Q9 v c os)=(Q9 u c a||Q9 v c a);rw[Wf u c os a h,Wf v c os a h]
 |.thr u=>λc os a h=>by
  rw[jv,Bv (Wf u),Bv (Wf u)];exact⟨λ⟨d,r,p,e⟩=>⟨d,r,h.symm.trans p,e⟩,λ⟨d,r,p,e⟩=>⟨d,r,h.trans p,e⟩⟩
 |.any=>λ_ _ _ _=>rfl
 |.ans=>λ_ _ _ _=>rfl
 |.word _=>λ_ _ _ _=>rfl
 |.title _=>λ_ _ _ _=>rfl
 |.frm _=>λ_ _ _ _=>rfl
 |.days _ _=>λ_ _ _ _=>rfl
 |.inn _=>λ_ _ _ _=>rfl
 |.yK _=>λ_ _ _ _=>rfl
def TrI(u:Tr):Prop:=∀pre c post,(yv u (pre++c::post))[pre.length]?=some (Q9 u c (pre++post))
def PU{bs:qb Bool}:bs.any id=true↔∃j:Nat,bs[j]?=some true:=by
 rw[j0];constructor
 .rintro⟨b,a,e⟩;obtain⟨j,c,rfl⟩:=yx.mp a;exact⟨j,by rw[qx c];exact q8 some e⟩
 .rintro⟨j,e⟩;exact⟨true,qL e,U⟩
theorem GG(h:TrI u)(pre:qb CD)(c:CD)(post:qb CD):(∃j:Nat,j≠pre.length/\(yv u (pre++c::post))[j]?=some true)↔Q9 (.thr u) c (pre++post)=true:=by
 rw[Bv (Wf u)];have cancel:∀(s t:qb CD)(d:CD)(rest:qb CD),s++d::t=pre++c::post->List.Perm (pre++post) (d::rest)->List.Perm (s++t) (c::rest):=λs t d rest e b=>by
  have a:List.Perm (d::(s++t)) (c::(pre++post)):=(xb.symm.trans (List.Perm.of_eq e)).trans xb;exact List.Perm.cons_inv ((a.trans (b.cons c)).trans (List.Perm.swap d c rest))
 constructor
 .rintro⟨j,m,e⟩;have k:j<(yv u (pre++c::post)).length:=(qJ.mp e).1;rw[Ye] at k;have a:pre++c::post=(pre++c::post).take j++(pre++c::post)[j]::(pre++c::post).drop (j+1):=by rw[<-zP k,zG]
  have hlen:((pre++c::post).take j).length=j:=by rw[zi];omega
  have f:=h ((pre++c::post).take j) (pre++c::post)[j] ((pre++c::post).drop (j+1));rw[<-a,hlen,e] at f;have hm:(pre++c::post)[j]∈pre++post:=by
   by_cases g:j<pre.length
   .rw[List.getElem_append_left g];exact zK _ (zU g)
   .have l:(pre++c::post)[j]?=post[j-pre.length-1]?:=by
     obtain⟨i,hi⟩:∃i,j-pre.length=i+1:=⟨j-pre.length-1,⋯⟩;rw[List.getElem?_append_right ⋯,hi,List.getElem?_cons_succ,Nat.add_sub_cancel]
    rw[qx k] at l;exact qU _ (qL l.symm)
  obtain⟨s,t,g⟩:=xO hm;have b:List.Perm (pre++post) ((pre++c::post)[j]::(s++t)):=(List.Perm.of_eq g).trans xb;refine⟨_,s++t,b,?_⟩;rw[<-Wf u _ _ _ (cancel _ _ _ _ a.symm b)];exact(za f).symm
 .rintro⟨d,rest,b,e⟩;rcases qT.mp (b.mem_iff.mpr qo) with hm|hm
  .obtain⟨s,t,rfl⟩:=xO hm;have a:s++d::(t++c::post)=(s++d::t)++c::post:=by simp
   refine⟨s.length,by simp,?_⟩;rw[<-a,h s d (t++c::post),Wf u _ _ _ (cancel _ _ _ _ a b),e]
  .obtain⟨s,t,rfl⟩:=xO hm;have a:(pre++c::s)++d::t=pre++c::(s++d::t):=by simp
   refine⟨(pre++c::s).length,by simp,?_⟩;rw[<-a,h (pre++c::s) d t,Wf u _ _ _ (cancel _ _ _ _ a b),e]
theorem PJ{bs:qb Bool}{b:Bool}(d:bs[n]?=some b):decide ((bs.count true:Int) > if b then 1 else 0)=true↔∃j:Nat,j≠n/\bs[j]?=some true:=by
 rw[decide_eq_true_iff];have f:n<bs.length:=(qJ.mp d).1;have g:bs[n]=b:=(qJ.mp d).2;have e:bs=bs.take n++b::bs.drop (n+1):=by rw[<-g,<-zP f,zG]
 have k:bs.count true=(bs.take n).count true+(bs.drop (n+1)).count true+if b then 1 else 0:=by
  conv=>lhs;rw[e]
  rw[List.count_append,List.count_cons];cases b<;>simp<;>omega
 have e1:((bs.count true:Int) > if b then 1 else 0)↔0<(bs.take n).count true+(bs.drop (n+1)).count true:=by
  rw[k];cases b<;>simp<;>omega
 rw[e1];constructor
 .intro h;by_cases c:0<(bs.take n).count true
  .obtain⟨j,a,e⟩:=yx.mp (xP.mp c);rw[zi] at a;refine⟨j,⋯,?_⟩;rw[List.getElem_take] at e;rw[qx ⋯,e]
  .obtain⟨j,a,e⟩:=yx.mp (xP.mp (show 0<(bs.drop (n+1)).count true by omega));rw[qZ] at a;refine⟨n+1+j,⋯,?_⟩;rw[List.getElem_drop] at e;rw[qx ⋯,e]
 .rintro⟨j,a,e⟩;by_cases c:j<n
  .have:0<(bs.take n).count true:=xP.mpr (qL (i:=j) (by rw[List.getElem?_take_of_lt c];exact e));omega
  .have:0<(bs.drop (n+1)).count true:=xP.mpr (qL (i:=j-(n+1)) (by rw[xQ,show n+1+(j-(n+1))=j by omega];exact e));omega
def Wl{f:CD->Bool}(pre:qb CD)(c:CD)(post:qb CD):((pre++c::post).map f)[pre.length]?=some (f c):=by simp
theorem wX:∀u:Tr,TrI u
 |.nt u=>λpre c post=>by
  show((yv u (pre++c::post)).map (!·))[pre.length]?=some (!Q9 u c (pre++post));rw[qC,wX u];rfl
 |.jN u v=>λpre c post=>by
  show(List.zipWith (·&& ·) (yv u (pre++c::post)) (yv v (pre++c::post)))[pre.length]?=some (Q9 u c (pre++post)&&Q9 v c (pre++post));rw[vc,wX u,wX v]
 |.jL u v=>λpre c post=>by
  show(List.zipWith (·|| ·) (yv u (pre++c::post)) (yv v (pre++c::post)))[pre.length]?=some (Q9 u c (pre++post)||Q9 v c (pre++post));rw[vc,wX u,wX v]
 |.thr u=>λpre c post=>by
  show((yv u (pre++c::post)).map λb=>decide (((yv u (pre++c::post)).count true:Int) > if b then 1 else 0))[pre.length]?=some (Q9 (.thr u) c (pre++post));rw[qC,wX u];refine q8 some ?_;rw[jv,<-GG (wX u)];exact PJ (wX u pre c post)
 |.any=>Wl
 |.ans=>Wl
 |.word _=>Wl
 |.title _=>Wl
 |.frm _=>Wl
 |.days _ _=>Wl
 |.inn _=>Wl
 |.yK _=>Wl
theorem Vw:∀(t:Tr)(c:CD)(os:qb CD),YT t c os=Q9 t c os
 |.nt u,c,os=>by show(!YT u c os) = !Q9 u c os;rw[Vw u]
 |.jN u v,c,os=>by show(YT u c os&&YT v c os)=(Q9 u c os&&Q9 v c os);rw[Vw u,Vw v]
 |.jL u v,c,os=>by show(YT u c os||YT v c os)=(Q9 u c os||Q9 v c os);rw[Vw u,Vw v]
 |.thr u,c,os=>by
  show((yv u (c::os)).drop 1).any id=_;have h:=GG (wX u) [] c os;rw[jK,jK] at h;rw[jv,<-h,PU];constructor
  .rintro⟨j,e⟩;rw[xQ] at e;exact⟨1+j,by show 1+j≠0;omega,e⟩
  .rintro⟨j,a,e⟩;have b:j≠0:=a;exact⟨j-1,by rw[xQ,show 1+(j-1)=j by omega];exact e⟩
 |.any,_,_=>rfl
 |.ans,_,_=>rfl
 |.word _,_,_=>rfl
 |.title _,_,_=>rfl
 |.frm _,_,_=>rfl
 |.days _ _,_,_=>rfl
 |.inn _,_,_=>rfl
 |.yK _,_,_=>rfl
def kR.snoc{K:Frag}{H:Hp}{x:V}{d:PyData}(r:RD K H x d):∀{xs:qb V}{ds:qb PyData},kR K H xs ds->kR K H (xs++[x]) (ds++[d])
 |_,_,.nil=>.cons r .nil
 |_,_,.cons q qs=>.cons q (kR.snoc r qs)
def YZ:Tr->PyData
 |.any=>.tuple [.str "any"]
 |.ans=>.tuple [.str Zl]
 |.word w=>.tuple [.str Ze,.str w]
 |.title w=>.tuple [.str ZJ,.str w]
 |.frm w=>.tuple [.str Zc,.str w]
 |.days l h=>.tuple [.str Zk,.int l,.int h]
 |.inn w=>.tuple [.str Zf,.str w]
 |.yK w=>.tuple [.str Zb,.str w]
 |.nt u=>.tuple [.str Zn,YZ u]
 |.thr u=>.tuple [.str ZZ,YZ u]
 |.jN u v=>.tuple [.str Zt,YZ u,YZ v]
 |.jL u v=>.tuple [.str Zq,YZ u,YZ v]
def jD.rd(h:jD H p t):RD K H (.ref p) (YZ t):=by
 induction h with
 |any e=>exact .tup (zu.of e) (.cons (.str _) .nil)
 |ans e=>exact .tup (zu.of e) (.cons (.str _) .nil)
 |word e w=>exact .tup (zu.of e) (.cons (.str _) (.cons (.str _) .nil))
 |title e w=>exact .tup (zu.of e) (.cons (.str _) (.cons (.str _) .nil))
 |frm e w=>exact .tup (zu.of e) (.cons (.str _) (.cons (.str _) .nil))
 |days e _=>exact .tup (zu.of e) (.cons (.str _) (.cons (.int _) (.cons (.int _) .nil)))
 |inn e w=>exact .tup (zu.of e) (.cons (.str _) (.cons (.str _) .nil))
 |yK e w=>exact .tup (zu.of e) (.cons (.str _) (.cons (.str _) .nil))
 |nt e _ a=>exact .tup (zu.of e) (.cons (.str _) (.cons a .nil))
 |thr e _ a=>exact .tup (zu.of e) (.cons (.str _) (.cons a .nil))
 |jN e _ _ a b=>exact .tup (zu.of e) (.cons (.str _) (.cons a (.cons b .nil)))
 |jL e _ _ a b=>exact .tup (zu.of e) (.cons (.str _) (.cons a (.cons b .nil)))
theorem jD.lay(h:jD H p t):canLay0 (YZ t)=true/\PyData.depth (YZ t)<=t.dp+1:=by
 have g:PyData.strOk "any"=true:=by decide +kernel
 have i:PyData.strOk Zl=true:=by decide +kernel
 have j:PyData.strOk Ze=true:=by decide +kernel
 have k:PyData.strOk ZJ=true:=by decide +kernel
 have l:PyData.strOk Zc=true:=by decide +kernel
 have m:PyData.strOk Zk=true:=by decide +kernel
 have n:PyData.strOk Zf=true:=by decide +kernel
 have o:PyData.strOk Zb=true:=by decide +kernel
 have q:PyData.strOk Zn=true:=by decide +kernel
 have c:PyData.strOk ZZ=true:=by decide +kernel
 have d:PyData.strOk Zt=true:=by decide +kernel
 have f:PyData.strOk Zq=true:=by decide +kernel
 induction h with
 |any e=>exact⟨by simp[YZ,canLay0,canLayAll0,g],by simp[YZ,PyData.depth,PyData.depthAll]⟩
 |ans e=>exact⟨by simp[YZ,canLay0,canLayAll0,i],by simp[YZ,PyData.depth,PyData.depthAll]⟩
 |word e w=>exact⟨by simp[YZ,canLay0,canLayAll0,j,w.asc.ok],by simp[YZ,PyData.depth,PyData.depthAll]⟩
 |title e w=>exact⟨by simp[YZ,canLay0,canLayAll0,k,w.asc.ok],by simp[YZ,PyData.depth,PyData.depthAll]⟩
 |frm e w=>exact⟨by simp[YZ,canLay0,canLayAll0,l,w.asc.ok],by simp[YZ,PyData.depth,PyData.depthAll]⟩
 |days e _=>exact⟨by simp[YZ,canLay0,canLayAll0,m],by simp[YZ,PyData.depth,PyData.depthAll]⟩
 |inn e w=>exact⟨by simp[YZ,canLay0,canLayAll0,n,w.asc.ok],by simp[YZ,PyData.depth,PyData.depthAll]⟩
 |yK e w=>exact⟨by simp[YZ,canLay0,canLayAll0,o,w.asc.ok],by simp[YZ,PyData.depth,PyData.depthAll]⟩
 |nt e _ a=>exact⟨by simp[YZ,canLay0,canLayAll0,q,a.1],by have:=a.2;simp only[YZ,PyData.depth,PyData.depthAll,Tr.dp];omega⟩
 |thr e _ a=>exact⟨by simp[YZ,canLay0,canLayAll0,c,a.1],by have:=a.2;simp only[YZ,PyData.depth,PyData.depthAll,Tr.dp];omega⟩
 |jN e _ _ a b=>exact⟨by simp[YZ,canLay0,canLayAll0,d,a.1,b.1],by have:=a.2;have:=b.2;simp only[YZ,PyData.depth,PyData.depthAll,Tr.dp];omega⟩
 |jL e _ _ a b=>exact⟨by simp[YZ,canLay0,canLayAll0,f,a.1,b.1],by have:=a.2;have:=b.2;simp only[YZ,PyData.depth,PyData.depthAll,Tr.dp];omega⟩
def Txt.mtree(T:Txt P w K mg base a fd):∀t:Tr,Xh K (VQ a t) "tree" (a 42)
 |.any=>(T 122)
 |.ans=>(T 157)
 |.word _=>(T 127)
 |.title _=>(T 132)
 |.frm _=>(T 137)
 |.days _ _=>(T 142)
 |.inn _=>(T 147)
 |.yK _=>(T 152)
 |.nt _=>(T 162)
 |.thr _=>(T 167)
 |.jN _ _=>(T 172)
 |.jL _ _=>(T 177)
inductive Act where
 |place (w:qc)
 |mark (w:qc)
 |unmark (w:qc)
 |stop
variable {as:qb Act}{ds:qb (Tr×qb Act)}
def Yz:Act->qf
 |.place w=>[Zi,w]
 |.mark w=>[Zm,w]
 |.unmark w=>[Zh,w]
 |.stop=>[Zg]
def vD:Act->Prop
 |.place w=>QO w
 |.mark w=>QO w
 |.unmark w=>QO w
 |.stop=>True
def xY(H:Hp)(p:qd)(x:Act):Prop:=H p=some (.tup ((Yz x).map V.str))/\vD x
def xY.mono{x:Act}(h:xY H p x)(s:Qi H H'):xY H' p x:=⟨s _ _ h.1,h.2⟩
def xY.kl{x:Act}(h:xY H p x)(s:KL a H H'):xY H' p x:=⟨s.keep h.1 rfl,h.2⟩
def VR(c:CD):Act->CD
 |.place w=>{c with fo:=w}
 |.mark w=>{c with ms:=SS (c.ms++[w])}
 |.unmark w=>{c with ms:=c.ms.filter λm=>decide (m≠w)}
 |.stop=>c
def Q6:CD->qb Act->CD
 |c,[]=>c
 |c,.stop::_=>c
 |c,x::r=>Q6 (VR c x) r
def XJ{a:CD}(h:{c with fo:=a.fo,ms:=a.ms}=a)(x:Act):{c with fo:=(VR a x).fo,ms:=(VR a x).ms}=VR a x:=by
 obtain⟨s,t,b,d,an,fo,ms⟩:=c;obtain⟨s',t',n,d',e,f,g⟩:=a
 injection h with i j k l m _ _
 subst i j k l m;cases x<;>rfl
def Ba(xs ys:qf):PyData.eqv (.tuple (xs.map PyData.str)) (.tuple (ys.map PyData.str))=decide (xs=ys):=by
 simp only[PyData.eqv];exact Kt xs ys
def VD{xs:qf}(h:∀x∈xs,vn x):SeqAt.shaped (.tuple (xs.map PyData.str))=true:=by
 have q:=Wn h;unfold SeqAt.shaped;simp only[canLay0,PyData.depth,q.1,q.2];rfl
def XH(h:(x.cps.toList.all λc=>decide (c<128))=true):vn x:=λc hc=>qM (zf.mp h c hc)
def Ac{x:Act}(h:vD x):∀y∈Yz x,vn y:=by
 cases x with
 |stop=>intro y a;rw[qq.mp a];exact XH ∅
 |place w=>
  intro y a;simp only[Yz,qy,q5,ji] at a;rcases a with rfl|rfl
  .exact XH ∅
  .exact QO.asc h
 |mark w=>
  intro y a;simp only[Yz,qy,q5,ji] at a;rcases a with rfl|rfl
  .exact XH ∅
  .exact QO.asc h
 |unmark w=>
  intro y a;simp only[Yz,qy,q5,ji] at a;rcases a with rfl|rfl
  .exact XH ∅
  .exact QO.asc h
def Cv:∀y∈([Zg]:qf),vn y:=λy a=>by rw[qq.mp a];exact XH ∅
inductive aV(a:jT)(vs:qb V)(H:Hp)(Q:VK)(E:XK):Prop
 |mk:∀x q c (ps:qb (qd×Act)),vs=[.ref x,.ref q]->UT a H x c->Yy c->SS c.ms=c.ms->H q=some (.tup (ps.map λy=>V.ref y.1))->(∀y∈ps,xY H y.1 y.2)->c.ms.length+ps.length<=50->(∀y g H',H y=none->H g=none->Qi H H'->UH a H' y g (Q6 c (ps.map (·.2))).s (Q6 c (ps.map (·.2))).t (Q6 c (ps.map (·.2))).b (Q6 c (ps.map (·.2))).d (Q6 c (ps.map (·.2))).an (Q6 c (ps.map (·.2))).fo (Q6 c (ps.map (·.2))).ms->Q (.ref y) H')->aV a vs H Q E
def DT(ns:qf)(n:qc):(YM ns n).length<=ns.length+1:=by
 unfold YM;split
 .omega
 .rw[qm,ql];exact qp _
def Tz{ks:qf}{w:qc}(h:∀x,x∈ks↔x∈ms):∀x,x∈YM ks w↔x∈SS (ms++[w]):=λx=>by
 rw[GU,qT,qq,BV,h x]
theorem bR(T:Txt P w K mg base a fd):T.k jx 10 8 (aV a):=by
 obtain⟨S,mS,hS⟩:=(T 69);refine T.ok 8 (λY A outer st H vs Q E hr h=>?_)
 .obtain⟨x,q,c,ps,rfl,⟨g,⟨dx,y,ex,hy⟩,eg⟩,gd,Z,eq,hps,hn,k⟩:=h;have hu:=Dv hr;have I:=hr.units;obtain⟨t4,h4,J⟩:∃t,yV (T.cx 8 Y A outer st H E) ((QK (sO 8)).drop 4) t /\
   ∀(H1:Hp)(D:qd)(fo:qc)(ks:qf)(s C:Option V),Qi H H1->H1 D=some (.dK (YE ks))->ks.length<=60->Q6 c (ps.map (·.2))={c with fo:=fo,ms:=SS ks} ->
    t {nx:=λ_ H'=>Q .non H',rt:=Q} [some (.ref x),some (.ref q),some (.str fo),some (.ref D),s,C] H1:=by
   refine⟨_,(Qd (Qk (T.ma (T 59) (T 58) (CT T) (qV (Qw (pv 0) U) (qV (pv 2) (qV (Yr (Ab rfl) rfl (T 24) boot_list (qV (pv 3) Qe)) Qe)))))),λH1 D fo ks s C s1 n G he=>?_⟩;refine⟨_,U,x,_,dx,_,_,U,s1 _ _ ex,(T 5),(T 13),U,_,U,_,U,D,_,U,n,λl nl=>?_⟩;have s2:Qi H1 (upd H1 l (.lst ((YE ks).map λd=>kV d.1))):=Qi.zL nl;have f:(upd H1 l (.lst ((YE ks).map λd=>kV d.1))) l=some (.lst (ks.map V.str)):=by rw[Qg];unfold YE;rw[yf];rfl
   generalize upd H1 l (.lst ((YE ks).map λd=>kV d.1))=H2 at s2 f⊢;have b:=s1.trans s2;refine λz u j o ne=>C0 (ss:=ks) j o ne (hy.mono b) gd.g (.inr ⟨l,U,.inl f⟩) ⋯ λH' p s3 r hc=>⟨U,k z p H' (b.free j) (b.free r) (b.trans s3) ?_⟩;rw[he];exact hc
  refine⟨_,(Qb (Ql (i:=2) (sc 8).nd (Qw (pv 0) U))
   (Qb (Ql (i:=3) (sc 8).nd CL)
   (Qb (Ym zg rfl (Y1 (Qw (pv 0) U)) (QG (i:=4) (sc 8).nd) (Qd (Xr hu (pv 3) (pv 4) Ur rfl)))
   (Qb (Ym zg rfl (GB (pv 1)) (QG (i:=5) (sc 8).nd) (Qb (Qu (Qn (My I) (pv 5) (Yo (v:=.ref S) rfl ⟨_,mS,U⟩)) (Qd CJ) Qq)
   (Qd (Qu (Qn QH (Qp Qt (pv 5) Qa) Qf) (Qd (Ql (i:=2) (sc 8).nd (Qp Qt (pv 5) Qa))) (Qd (Qu (Qn QH (Qp Qt (pv 5) Qa) Qf) (Qd (Xr hu (pv 3) (Qp Qt (pv 5) Qa) Ur rfl)) (Qd (Q4 (Mm (pv 3) (Qp Qt (pv 5) Qa) BJ ⟨U,U,U,U⟩)))))))))
   h4)))),?_⟩
  refine⟨_,U,x,_,dx,_,_,U,ex,(T 5),(T 30),U,λD X=>?_⟩;have s1:Qi H (upd H D (.dK [])):=Qi.zL X;have L:(upd H D (.dK [])) D=some (.dK (YE [])):=Qg;show Hz _ _ _ _ (upd H D (.dK []));generalize upd H D (.dK [])=H1 at s1 L⊢;refine⟨_,U,x,_,dx,_,_,U,s1 _ _ ex,(T 5),(T 31),U,g,U,⟨_,zm.of (s1 _ _ eg)⟩,Wt (K:=K) (a:=g) (xs:=c.ms.map V.str) (λi σ H2=>∃(ks:qf)(s:Option V),σ=[some (.ref x),some (.ref q),some (.str c.fo),some (.ref D),s,none]/\Qi H H2/\H2 D=some (.dK (YE ks))/\(∀z,z∈ks↔z∈c.ms.take i)/\ks.length<=i)
   ⟨[],none,U,s1,L,(λz=>by simp),qp _⟩ (λi σ H2 _ ⟨_,_,_,s2,_⟩=>zm.of (s2 _ _ eg)) ?_ ?_⟩
  .rintro i v σ H2 hi ⟨ks,s,rfl,s2,e2,G,F⟩;obtain⟨m,rfl,hm⟩:=Ef hi;have M:i<c.ms.length:=(qJ.mp hm).1;refine⟨_,U,_,U,D,_,U,Ci.k (k:=inr m) e2 (by unfold YE;rw[qi];exact QN ⋯),YM ks m,_,U,s2.zE X,by rw[Qg,FJ],λz=>?_,?_⟩
   .rw[BV,G z,zo,hm,qT];simp
   .have:=DT ks m;omega
  .rintro σ H2 ⟨ks,s,rfl,s2,e2,G,F⟩;rw[qi] at G F;rw[qP (qp _)] at G;refine⟨_,U,q,U,⟨_,zu.of (s2 _ _ eq)⟩,K1 (K:=K) (a:=q) (xs:=ps.map λy=>V.ref y.1) (λi σ u=>∃(ks:qf)(b:CD)(C:Option V),σ=[some (.ref x),some (.ref q),some (.str b.fo),some (.ref D),s,C]/\Qi H u/\u D=some (.dK (YE ks))/\(∀z,z∈ks↔z∈b.ms)/\ks.length<=c.ms.length+i/\SS b.ms=b.ms/\{c with fo:=b.fo,ms:=b.ms}=b/\Q6 c (ps.map (·.2))=Q6 b ((ps.map (·.2)).drop i))
    ⟨ks,c,none,U,s2,e2,G,F,Z,U,U⟩ (λi σ u _ ⟨_,_,_,_,s3,_⟩=>zu.of (s3 _ _ eq)) ?_ ?_⟩
   .rintro i v σ u hi ⟨ks,b,C,rfl,s3,B,j,N,o,n,d⟩;rw[qC] at hi
    cases O:ps[i]? with
    |none=>rw[O] at hi;cases hi
    |some y0=>
     obtain⟨p,act⟩:=y0;rw[O] at hi;cases hi;have M:i<ps.length:=(qJ.mp O).1;have r:xY u p act:=(hps (p,act) (qL O)).mono s3;have hdr:(ps.map (·.2)).drop i=act::(ps.map (·.2)).drop (i+1):=by
      rw[zP (by rw[qi];exact M),kA];rw[(qJ.mp O).2]
     rw[hdr] at d;refine⟨_,U,.tuple ((Yz act).map PyData.str),.tuple (([Zg]:qf).map PyData.str),.tup (zu.of r.1) (Vr _),.tup (hS u) (Vr _),VD (Ac r.2),VD Cv,_,U,?_⟩;rw[Ba]
     cases act with
     |stop=>
      rw[show decide (Yz Act.stop=([Zg]:qf))=true from by decide +kernel];refine QI (J u D b.fo ks s _ s3 B ⋯ ?_);rw[d,XM j,o];exact n.symm
     |place f=>
      rw[qr (show ¬Yz (Act.place f)=([Zg]:qf) from λz=>by have:=q8 List.length z;cases this)];refine QA ⟨_,U,p,_,_,_,U,U,zu.of r.1,U,U,_,U,Us ⟨_,U,p,_,_,_,U,U,zu.of r.1,U,?_⟩⟩;exact⟨ks,{b with fo:=f},_,U,s3,B,j,⋯,o,XJ n (.place f),d⟩
     |mark f=>
      rw[qr (show ¬Yz (Act.mark f)=([Zg]:qf) from λz=>by have:=q8 List.length z;cases this)];refine QA ⟨_,U,p,_,_,_,U,U,zu.of r.1,U,U,_,U,zO ∅ ⟨_,U,p,_,_,_,U,U,zu.of r.1,U,U,_,U,Us ⟨_,U,_,U,p,_,_,_,U,U,zu.of r.1,U,D,_,U,Ci.k (k:=inr f) B (by unfold YE;rw[qi];exact QN ⋯),?_⟩⟩⟩;have:=DT ks f;exact⟨YM ks f,VR b (.mark f),_,U,s3.zE X,by rw[Qg,FJ],Tz j,⋯,Cc _,XJ n _,d⟩
     |unmark f=>
      rw[qr (show ¬Yz (Act.unmark f)=([Zg]:qf) from λz=>by have:=q8 List.length z;cases this)];have R:SS (b.ms.filter λm=>decide (m≠f))=b.ms.filter λm=>decide (m≠f):=by
       have:=Bq b.ms λm=>decide (m≠f);rwa[o] at this
      refine QA ⟨_,U,p,_,_,_,U,U,zu.of r.1,U,U,_,U,zO ∅ ⟨_,U,p,_,_,_,U,U,zu.of r.1,U,U,_,U,zO ∅ ⟨_,U,D,U,.inl ⟨_,.inl B⟩,_,U,p,_,_,_,U,U,zu.of r.1,U,YE ks,inr f,B,U,λv hv=>?_,λhv=>?_⟩⟩⟩
      .exact⟨ks.filter λm=>decide (m≠f),VR b (.unmark f),_,U,s3.zE X,by rw[Qg,Kb],(λz=>by show _↔z∈b.ms.filter _;rw[jd,jd,j z]),qO (zF _ _) ⋯,R,XJ n _,d⟩
      .have hnk:¬f∈ks:=λz=>by rw[K7,qG z] at hv;cases hv
       exact⟨ks,VR b (.unmark f),_,U,s3,B,(λz=>by
        show _↔z∈b.ms.filter _;rw[jd,<-j z];exact⟨λh=>⟨h,qv λe=>hnk (e▸h)⟩,λh=>h.1⟩),⋯,R,XJ n _,d⟩
   .rintro σ u ⟨ks,b,C,rfl,s3,B,j,N,o,n,d⟩;rw[qi] at N d;refine J u D b.fo ks s C s3 B ⋯ ?_;rw[d,jt (by rw[qi];exact qp _)];show b=_;rw[XM j,o];exact n.symm
structure RW where
 r:qd
 vP:qd
 q:qd
 t:Tr
 as:qb (qd×Act)
structure UW(a:jT)(H:Hp)(x:RW):Prop where
 e:H x.r=some (.tup [.ref x.vP,.ref x.q])
 c:QC a H x.vP x.t
 d:x.t.dp<8
 q:H x.q=some (.tup (x.as.map λy=>V.ref y.1))
 as:∀y∈x.as,xY H y.1 y.2
 n:x.as.length<=4
def UW.kl{x:RW}(h:UW a H x)(k:KL a H H'):UW a H' x:=⟨k.keep h.e rfl,h.c.kl k,h.d,k.keep h.q rfl,λy b=>(h.as y b).kl k,h.n⟩
def Ve(a:jT)(H:Hp)(x:qd)(rs:qb RW):Prop:=∃dx l,H x=some (.ins (a 107) dx [("kept",.ref l)])/\H l=some (.lst (rs.map λr=>V.ref r.r))/\(∀r∈rs,UW a H r)/\rs.length<=40
def Ve.kl{x:qd}{rs:qb RW}(h:Ve a H x rs)(k:KL a H H'):Ve a H' x rs:=let ⟨dx,l,e1,c,d,n⟩:=h;⟨dx,l,k.inst e1 rfl,k.keep c rfl,λr b=>(d r b).kl k,n⟩
theorem DU{x:Act}(g:Yy c)(h:vD x)(d:SS c.ms=c.ms)(e:c.ms.length<50):Yy (VR c x)/\SS (VR c x).ms=(VR c x).ms/\(VR c x).ms.length<=c.ms.length+1:=by
 cases x with
 |stop=>exact⟨g,d,zC _⟩
 |place w=>exact⟨⟨g.g,h,g.m,g.l⟩,d,zC _⟩
 |mark w=>
  have b:=N6 (c.ms++[w]);rw[qm,ql] at b;refine⟨⟨g.g,g.f,λy a=>?_,by show(SS (c.ms++[w])).length<=50;omega⟩,Cc _,b⟩;rcases qT.mp (GU.mp a) with a|a
  .exact g.m y a
  .rw[qq.mp a];exact h
 |unmark w=>
  have hf:SS (c.ms.filter λm=>decide (m≠w))=c.ms.filter λm=>decide (m≠w):=by
   have:=Bq c.ms λm=>decide (m≠w);rwa[d] at this
  exact⟨⟨g.g,g.f,λy a=>g.m y (jd.mp a).1,qO (zF _ _) (by have:=g.l;omega)⟩,hf,qO (zF _ _) (by show c.ms.length<=c.ms.length+1;omega)⟩
theorem Wz:∀{as:qb Act}{c:CD},Yy c->(∀x∈as,vD x)->SS c.ms=c.ms->c.ms.length+as.length<=50->Yy (Q6 c as)/\SS (Q6 c as).ms=(Q6 c as).ms/\(Q6 c as).ms.length<=c.ms.length+as.length
 |[],c,g,_,b,_=>⟨g,b,qp _⟩
 |x::r,c,g,h,b,d=>by
  rw[qw] at d;obtain⟨g1,s1,f⟩:=DU g (h x qo) b ⋯;have a:=Wz (as:=r) g1 (λy e=>h y (qt _ e)) s1 ⋯
  cases x with
  |stop=>exact⟨g,b,by show c.ms.length<=_;omega⟩
  |place w=>exact⟨a.1,a.2.1,by have:=a.2.2;rw[qw];show(Q6 (VR c (.place w)) r).ms.length<=_;omega⟩
  |mark w=>exact⟨a.1,a.2.1,by have:=a.2.2;rw[qw];show(Q6 (VR c (.mark w)) r).ms.length<=_;omega⟩
  |unmark w=>exact⟨a.1,a.2.1,by have:=a.2.2;rw[qw];show(Q6 (VR c (.unmark w)) r).ms.length<=_;omega⟩
def Y8(os:qb CD):qb RW->Nat->CD->qb Nat->CD×qb Nat
 |[],_,c,ps=>(c,ps)
 |r::rs,i,c,ps=>if YT r.t c os=true then (if (r.as.map (·.2)).any (λx=>match x with|.stop=>true|_=>false)=true then (Q6 c (r.as.map (·.2)),ps++[i]) else Y8 os rs (i+1) (Q6 c (r.as.map (·.2))) (ps++[i])) else Y8 os rs (i+1) c ps
def Hs(W:qf):Act->Prop
 |.mark w=>w∈W
 |_=>True
def wJ(W ms:qf):Prop:=∀x∈ms,x∈W
def NW{x:Act}(h:wJ W c.ms)(b:Hs W x):wJ W (VR c x).ms:=by
 cases x with
 |stop=>exact h
 |place w=>exact h
 |mark w=>
  intro y a;rcases qT.mp (GU.mp a) with a|a
  .exact h y a
  .rw[qq.mp a];exact b
 |unmark w=>exact λy a=>h y (jd.mp a).1
theorem Kf{W:qf}:∀{as:qb Act}{c:CD},wJ W c.ms->(∀x∈as,Hs W x)->wJ W (Q6 c as).ms
 |[],c,h,_=>h
 |x::r,c,h,b=>by
  have a:=Kf (as:=r) (NW h (b x qo)) λy d=>b y (qt _ d)
  cases x with
  |stop=>exact h
  |place w=>exact a
  |mark w=>exact a
  |unmark w=>exact a
theorem CV:∀{l W:qf},l.Nodup->(∀x∈l,x∈W)->l.length<=W.length
 |[],_,_,_=>zb _
 |x::r,W,d,h=>by
  have a:=yh.mp d;have b:=h x qo;have e:=CV (l:=r) (W:=W.erase x) a.2 λy c=>(List.mem_erase_of_ne (λz:y=x=>a.1 (by rw[<-z];exact c))).mpr (h y (qt _ c));rw[List.length_erase_of_mem b] at e;have:0<W.length:=List.length_pos_of_mem b;rw[qw];omega
def wJ.len(h:wJ W c.ms)(a:SS c.ms=c.ms):c.ms.length<=W.length:=CV (a▸N4 c.ms) h
def gf(c:CD)(rs:qb RW):Prop:=∃W:qf,W.length<=40/\wJ W c.ms/\∀r∈rs,∀x∈r.as.map (·.2),Hs W x
def Nw{a:qd}{g:TG}{tb:TS}{D:Uu}(Pv:Nat->St->Hp->Prop)(h0:Pv 0 σ H)(d:∀i σ H,i<=xs.length->Pv i σ H->zm K H a xs)
 (f:∀i x σ H T,xs[i]?=some x->Pv i σ H->H T=none->g (.ref T) σ (upd H T (.tup [.int i,x])) λc H2=>tb {D with nx:=Pv (i+1),ct:=Pv (i+1),bk:=D.nx} c H2) (hd:∀σ H,Pv xs.length σ H->D.nx σ H) :
 V2 g tb D σ (Ite K a) H:=by
 refine⟨λi m σ H=>m=xs.length-i/\i<=xs.length/\Pv i σ H,⟨xs.length,by simp,zb _,h0⟩,?_⟩;rintro i m σ H ⟨rfl,hi,p⟩;have q:=d i σ H hi p;by_cases b:i<xs.length
 .refine .inr ⟨⟨xs,xs[i],q,by simp[b]⟩,Pv (i+1),λh H' j=>⟨xs.length-(i+1),⋯,U,b,j⟩,λv H' y=>?_⟩;obtain⟨T,x,y,k,rfl,rfl⟩:=y;exact f i x σ _ T (y xs q) p k
 .have e:i=xs.length:=by omega
  subst e;exact .inl ⟨⟨xs,q,U⟩,hd σ H p⟩
def NT :((as.map λx=>PyData.tuple ((Yz x).map PyData.str)).any λe=>PyData.eqv e (.tuple (([Zg]:qf).map PyData.str)))=as.any (λx=>match x with|.stop=>true|_=>false):=by
 induction as with
 |nil=>rfl
 |cons x r a=>
  rw[qX,ym,ym,a,Ba];congr 1
  cases x with
  |stop=>exact qv rfl
  |place w=>exact qr λz=>by have:=q8 List.length z;cases this
  |mark w=>exact qr λz=>by have:=q8 List.length z;cases this
  |unmark w=>exact qr λz=>by have:=q8 List.length z;cases this
def CaD(a:jT)(D:qd)(H:Hp)(x:qd)(c:CD):Prop:=∃g,g≠D/\UH a H x g c.s c.t c.b c.d c.an c.fo c.ms
inductive Rc(a:jT)(vs:qb V)(H:Hp)(Q:VK)(E:XK):Prop
 |mk:∀x cx lo rs c ys cs,vs=[.ref x,.ref cx,.ref lo]->Ve a H x rs->UT a H cx c->Yy c->SS c.ms=c.ms->gf c rs->H lo=some (.lst ys)->Yi a H ys cs->(∀z∈cs,Yy z)->cs.length<=50->(∀u y D H',KL a H H'->H D=none->H' u=some (.tup [.ref y,.ref D])->UT a H' y (Y8 cs rs 0 c []).1->H' D=some (.lst ((Y8 cs rs 0 c []).2.map λi:Nat=>V.int (i:Int)))->Q (.ref u) H')->Rc a vs H Q E
def K2{K:Frag}{H:Hp}:∀{ps:qb (qd×Act)},(∀y∈ps,xY H y.1 y.2)->kR K H (ps.map λy=>V.ref y.1) ((ps.map (·.2)).map λx=>PyData.tuple ((Yz x).map PyData.str))
 |[],_=>.nil
 |y::r,h=>.cons (.tup (zu.of (h y qo).1) (Vr _)) (K2 λz hz=>h z (qt _ hz))
def Ad:∀{as:qb Act},(∀x∈as,vD x)->canLayAll0 (as.map λx=>PyData.tuple ((Yz x).map PyData.str))=true
 |[],_=>rfl
 |x::r,h=>by
  have q:=Wn (Ac (h x qo));simp only[qX,canLayAll0,canLay0,q.1,Ad λy a=>h y (qt _ a)];rfl
theorem MH(T:Txt P w K mg base a fd):T.k jx 14 64 (Rc a):=by
 obtain⟨S,mS,hS⟩:=(T 69);refine T.ok 64 (λcdv A outer st H vs Q E hr h=>?_)
 .obtain⟨x,cx,lo,rs,c,ys,cs,rfl,hR,hc,gd,hSS,X,elo,hcs,gcs,hn,k⟩:=h;have Y:=hr.units;obtain⟨dx,l,ex,el,Z,hrn⟩:=id hR;obtain⟨W,hW,hcW,haW⟩:=X;obtain⟨t2,h2,sp2⟩:∃t,yV (T.cx 64 cdv A outer st H E) ((QK (sO 64)).drop 2) t /\
   ∀(H1:Hp)(y D:qd)(F I:Option V),KL a H H1->H D=none->UT a H1 y (Y8 cs rs 0 c []).1->H1 D=some (.lst ((Y8 cs rs 0 c []).2.map λi:Nat=>V.int (i:Int))) ->
    t {nx:=λ_ H'=>Q .non H',rt:=Q} [some (.ref x),some (.ref y),some (.ref lo),some (.ref D),F,I] H1:=by
   refine⟨_,(Qd (Qk (QJ (Qc (pv 1) (Qc (pv 3) Qm))))),λH1 y D F I b R hy d=>?_⟩;exact⟨_,U,_,U,U2,λu H2 j s2 e=>k u y D H2 (b.trans (KL.of s2)) R e (hy.kl (KL.of s2)) (s2 _ _ d)⟩
  refine⟨_,(Qb (Ql (i:=3) (sc 64).nd (Qy Qm))
   (Qb (Ym zg rfl (ON rfl (T 72) (qV (Qw (pv 0) U) Qe)) (XY rfl (Yu (QG (i:=4) (sc 64).nd) (Yu (QG (i:=5) (sc 64).nd) WI)))
     (Qd (Qu (Q5 (Yv (Qp Qt (pv 5) Qa) (qV (pv 1) (qV (pv 2) Qe))))
       (Qb (Q4 (Ue plainAttrs_list zk zl Q8 (pv 3) (qV (pv 4) Qe)))
       (Qb (Ql (i:=1) (sc 64).nd (T.cl (bR T) (qV (pv 1) (qV (Qp Qt (pv 5) Qa) Qe))))
       (Qd (Qu (Qn (OV Y) (Yo (v:=.ref S) rfl ⟨_,mS,U⟩) (Qp Qt (pv 5) Qa) (by with_unfolding_all rfl)) (Qd CJ) Qq)))) Qq)))
   h2)),?_⟩
  refine⟨K3,λD H1 R s1 eD1=>?_⟩;refine⟨_,U,x,_,dx,_,_,U,s1 _ _ ex,(T 7),(T 60),U,l,_,U,s1 _ _ el,?_⟩;refine Nw (K:=K) (a:=l) (xs:=rs.map λr=>V.ref r.r) (λi σ H2=>∃(y:qd)(d:CD)(ps:qb Nat)(F I:Option V),σ=[some (.ref x),some (.ref y),some (.ref lo),some (.ref D),F,I]/\KL a H H2/\CaD a D H2 y d/\Yy d/\SS d.ms=d.ms/\wJ W d.ms/\H2 D=some (.lst (ps.map λi:Nat=>V.int (i:Int)))/\ps.length<=i/\Y8 cs rs 0 c []=Y8 cs (rs.drop i) i d ps)
   ?_ (λi σ H2 _ ⟨_,_,_,_,_,_,k2,_⟩=>zm.of (k2.keep el rfl)) ?_ ?_
  .obtain⟨g,⟨e,j,m,hy⟩,b⟩:=hc;exact⟨cx,c,[],none,none,U,KL.of s1,⟨g,Qo b R,⟨e,j,s1 _ _ m,hy.mono s1⟩,s1 _ _ b⟩,gd,hSS,hcW,eD1,qp _,U⟩
  .rintro i v σ H2 Tt hi ⟨y,d,ps,F,I,rfl,k2,hy,g',o,q,eD,hpl,e⟩ nT;rw[qC] at hi
   cases J:rs[i]? with
   |none=>rw[J] at hi;cases hi
   |some r=>
    rw[J] at hi;cases hi;have hil:i<rs.length:=(qJ.mp J).1;have hdr:rs.drop i=r::rs.drop (i+1):=by rw[zP hil,(qJ.mp J).2]
    rw[hdr] at e;have s3:Qi H2 (upd H2 Tt (.tup [.int i,.ref r.r])):=Qi.zL nT;have eT:(upd H2 Tt (.tup [.int i,.ref r.r])) Tt=some (.tup [.int i,.ref r.r]):=Qg;refine⟨Tt,_,U,zu.of Qg,U,_,_,U,_,_,U,U,?_⟩;generalize upd H2 Tt (.tup [.int i,.ref r.r])=H3 at s3 eT⊢;have k3:KL a H H3:=k2.trans (KL.of s3);have n:=(Z r (qL J)).kl k3;obtain⟨g,ng,L⟩:=hy;have s:=L.mono s3;have hrd:=n.d;obtain⟨f,fdh,M,bh,G⟩:=(ask (P:=P) (w:=w) (base:=base) T r.t).1;have hr_h:QF (r.t.dp+4) _:=hr.mono ⋯;obtain⟨dxc,fs,exc,q1,q2,q3,_⟩:=n.c.obj;refine⟨_,U,r.r,_,_,_,U,U,zu.of n.e,U,r.vP,dxc,fs,_,f,fdh,_,_,_,U,exc,T.cls r.t,M,G,hr_h,bh,q1,_,U,_,U,?_⟩;refine⟨r.vP,y,lo,ys,d,cs,U,n.c,⟨g,s⟩,g',k3.keep elo rfl,hcs.kl k3,gcs,⋯,λH4 k4=>⟨_,U,?_⟩⟩;have p:=k4.keep (s3 _ _ eD) rfl;have k04:KL a H H4:=k3.trans k4;have B:UH a H4 y g d.s d.t d.b d.d d.an d.fo d.ms:=by
     obtain⟨⟨j,m,eq1,b⟩,eq2⟩:=s;exact⟨⟨j,m,k4.inst eq1 rfl,b.kl k4⟩,k4.keep eq2 rfl⟩
    cases eh:YT r.t d cs
    .refine QA ⟨y,d,ps,_,_,U,k04,⟨g,ng,B⟩,g',o,q,p,⋯,?_⟩;rw[e];show(if YT r.t d cs=true then _ else _)=_;rw[eh,qz ∅]
    .refine QI ⟨_,U,.inl ⟨U,_,zm.of p⟩,_,U,D,_,_,U,U,p,(by rw[qi];exact QN ⋯),?_⟩;have k5:KL a H (upd H4 D (.lst ((ps.map λi:Nat=>V.int (i:Int))++[.int (i:Int)]))):=k04.zE R (λkv z=>by rw[p] at z;cases z);have N:(upd H4 D (.lst ((ps.map λi:Nat=>V.int (i:Int))++[.int (i:Int)]))) D=some (.lst (((ps++[i]).map λi:Nat=>V.int (i:Int)))):=by rw[Qg,qH];rfl
     have C:=B.list (ys:=(ps.map λi:Nat=>V.int (i:Int))++[.int (i:Int)]) p ng;generalize upd H4 D (.lst ((ps.map λi:Nat=>V.int (i:Int))++[.int (i:Int)]))=H5 at k5 N C⊢;have b:=(Z r (qL J)).kl k5;have hrn4:=b.n;have hlW:=q.len o;have bg:=Wz (as:=r.as.map (·.2)) g' (λz hz=>by obtain⟨z',O,rfl⟩:=zr.mp hz;exact(b.as z' O).2) o (by rw[qi];omega);rw[qi] at bg;refine⟨_,U,_,U,r.r,_,_,_,U,U,zu.of b.e,U,y,r.q,d,r.as,U,⟨g,C⟩,g',o,b.q,b.as,⋯,λy2 g2 H6 ny2 ng2 s6 hc2=>?_⟩;have k6:KL a H H6:=k5.trans (KL.of s6);have m:=b.kl (KL.of s6);have eD6:=s6 _ _ N;have g2D:g2≠D:=λz=>by rw[z,N] at ng2;cases ng2
     refine⟨_,U,r.r,_,_,_,U,U,zu.of m.e,U,.tuple (([Zg]:qf).map PyData.str),_,.tup (hS H6) (Vr _),.tup (zu.of m.q) (K2 m.as),Ad (λz hz=>by obtain⟨z',O,rfl⟩:=zr.mp hz;exact(m.as z' O).2),vJ (VD Cv),∅,_,U,?_⟩;rw[NT];have j:Y8 cs rs 0 c []=if (r.as.map (·.2)).any (λx=>match x with|.stop=>true|_=>false)=true then (Q6 d (r.as.map (·.2)),ps++[i]) else Y8 cs (rs.drop (i+1)) (i+1) (Q6 d (r.as.map (·.2))) (ps++[i]):=by
      rw[e];show(if YT r.t d cs=true then _ else _)=_;rw[eh,qG rfl]<;>rfl
     cases es:(r.as.map (·.2)).any (λx=>match x with|.stop=>true|_=>false)
     .rw[es,qz ∅] at j;exact QA ⟨y2,Q6 d (r.as.map (·.2)),ps++[i],_,_,U,k6,⟨g2,g2D,hc2⟩,bg.1,bg.2.1,Kf q (haW r (qL J)),eD6,by rw[qm,ql];omega,j⟩
     .rw[es,qG rfl] at j;refine QI (sp2 H6 y2 D _ _ k6 R ?_ ?_)
      .rw[j];exact⟨g2,hc2⟩
      .rw[j];exact eD6
  .rintro σ H2 ⟨y,d,ps,F,I,rfl,k2,⟨g,ng,L⟩,g',o,q,eD,hpl,e⟩;rw[qi,jt (qp _)] at e;refine sp2 H2 y D F I k2 R ?_ ?_
   .rw[e];exact⟨g,L⟩
   .rw[e];exact eD
structure N7(a:jT)(H:Hp)(x cx lo:qd)(rs:qb RW)(c:CD)(ys:qb V)(cs:qb CD):Prop where
 r:Ve a H x rs
 ca:UT a H cx c
 g:Yy c
 s:SS c.ms=c.ms
 n:gf c rs
 l:H lo=some (.lst ys)
 o:Yi a H ys cs
 og:∀z∈cs,Yy z
 on:cs.length<=50
inductive Rj(a:jT)(vs:qb V)(H:Hp)(Q:VK)(E:XK):Prop
 |mk:∀x cx lo rs c ys cs,vs=[.ref x,.ref cx,.ref lo]->N7 a H x cx lo rs c ys cs->(∀D H',KL a H H'->H D=none->H' D=some (.lst ((Y8 cs rs 0 c []).2.map λi:Nat=>V.int (i:Int)))->Q (.ref D) H')->Rj a vs H Q E
inductive Rh(a:jT)(vs:qb V)(H:Hp)(Q:VK)(E:XK):Prop
 |mk:∀x cx lo rs c ys cs,vs=[.ref x,.ref cx,.ref lo]->N7 a H x cx lo rs c ys cs->(∀u l H',KL a H H'->H u=none->H l=none->H' u=some (.tup [.str (Y8 cs rs 0 c []).1.fo,.ref l])->H' l=some (.lst ((Y8 cs rs 0 c []).1.ms.map V.str))->Q (.ref u) H')->Rh a vs H Q E
def ML(T:Txt P w K mg base a fd):T.k jx 15 66 (Rj a):=by
 refine T.ok 66 (λb A outer st H vs Q E j h=>?_)
 .obtain⟨x,d,lo,rs,c,ys,cs,rfl,hi,k⟩:=h;obtain⟨dx,l,ex,_⟩:=id hi.r;refine⟨_,(Qd (Qk (Qp Qt (T.me (pv 0) (T 7) (T 86) (MH T) (qV (pv 1) (qV (pv 2) Qe))) Qa))),?_⟩;refine⟨_,U,x,dx,_,U,ex,U,_,U,_,U,x,d,lo,rs,c,ys,cs,U,hi.r,hi.ca,hi.g,hi.s,hi.n,hi.l,hi.o,hi.og,hi.on,λu y D H' e f g m i=>?_⟩;exact⟨u,_,_,_,U,U,zu.of g,U,k D H' e f i⟩
def SJ(T:Txt P w K mg base a fd):T.k jx 15 65 (Rh a):=by
 refine T.ok 65 (λf A outer st H vs Q E B h=>?_)
 .obtain⟨x,j,lo,rs,c,ys,cs,rfl,hi,k⟩:=h;obtain⟨dx,l,ex,_⟩:=id hi.r;refine⟨_,(Qb (Ql (i:=3) (sc 65).nd (Qp Qt (T.me (pv 0) (T 7) (T 86) (MH T) (qV (pv 1) (qV (pv 2) Qe))) Qa))
   (Qd (Qk (QJ (Qc (Qw (pv 3) U) (Qc (Yr EU rfl (T 24) boot_list (qV (Qw (pv 3) U) Qe)) Qm)))))),?_⟩
  refine⟨_,U,x,dx,_,U,ex,U,_,U,_,U,x,j,lo,rs,c,ys,cs,U,hi.r,hi.ca,hi.g,hi.s,hi.n,hi.l,hi.o,hi.og,hi.on,λu y D H' b C m n F=>?_⟩;obtain⟨g,⟨d,G,e,_⟩,o⟩:=n;refine⟨u,_,_,_,U,U,zu.of m,U,?_⟩;refine⟨_,U,y,_,d,_,_,U,e,(T 5),(T 30),U,_,U,y,_,d,_,_,U,e,(T 5),(T 31),U,g,_,U,.inl (zm.of o),λp H2 q s2 r=>?_⟩;exact⟨U2,λs t v s3 z=>k s p t ((b.trans (KL.of s2)).trans (KL.of s3)) (b.free (s2.free v)) (b.free q) z (s3 _ _ r)⟩
def Tv(as:qb Act):PyData:=.tuple (as.map λx=>PyData.tuple ((Yz x).map PyData.str))
def WT(t:Tr)(as:qb Act):PyData:=.tuple [YZ t,Tv as]
inductive Ly(K:Frag)(a:jT)(vs:qb V)(H:Hp)(Q:VK)(E:XK):Prop
 |mk:∀x rs,vs=[.ref x]->Ve a H x rs->(∀D ys H',Qi H H'->H D=none->H' D=some (.lst ys)->kR K H' ys (rs.map λr=>WT r.t (r.as.map (·.2)))->Q (.ref D) H')->Ly K a vs H Q E
theorem OZ(T:Txt P w K mg base a fd):T.k jx 2 63 (Ly K a):=by
 refine T.ok 63 (λI A outer st H vs Q E J h=>?_)
 .obtain⟨x,rs,rfl,⟨dx,l,ex,B,g,X⟩,k⟩:=h;refine⟨_,(Qd (Qk (Xs (sc:=Qr (sO 63)) (N:=(nn 63)) (fr:=[]) ⟨U,U,U,∅,∅,∅,∅,∅⟩ rfl rfl rfl (Y1 (Qw (pv 0) U)) (λ_ _ _ _=>(QJ (Qc (HP (pv 0)) (Qc (pv 1) Qm))))))),?_⟩;refine⟨_,U,x,_,dx,_,_,U,ex,(T 7),(T 60),U,l,U,⟨_,zm.of B⟩,Kv (xs:=rs) (λr=>r.r) (λr=>.ref r.vP) (λr=>.ref r.q) (λD i ys j=>ys.length=i/\∀d,(∀c o,c≠D->j c=some o->d c=some o)->kR K d ys ((rs.map λr=>WT r.t (r.as.map (·.2))).take i)) (Yj (⋯)) (zm.of B) (λD q=>⟨U,λ_ _=>.nil⟩) (λD i ys j h=>h.1) (λr s j s3=>zu.of (s3 _ _ (g r s).e)) ?_ ?_⟩
  .rintro D i r ys j Q' hi q ⟨m,f⟩ p s3 L;have b:=(g r (qL hi)).kl (KL.of s3);obtain⟨M,O,R,Y,Z,S,_⟩:=b.c.obj;refine⟨_,U,r.vP,M,O,_,_,(fd 42),_,_,_,U,R,T.cls r.t,T.mtree r.t,(OX T),J.up,(T.B 42),S,?_⟩;refine⟨r.vP,r.t,U,b.c,λp' t=>⟨_,U,U2,λu V nu s4 C=>L _ V s4 ⟨by rw[qm,ql,m],λd v=>?_⟩⟩⟩;have z:=s4 _ _ p;have kt:∀c xs,j c=some (.tup xs)->d c=some (.tup xs):=λc xs e=>by
    have F:c≠D:=QX e p nofun;exact v c _ F (by rw[Qj F];exact s4 _ _ e)
   have F:u≠D:=QX C z nofun;rw[zo,show(rs.map λr=>WT r.t (r.as.map (·.2)))[i]?=some (WT r.t (r.as.map (·.2))) by rw[qC,hi];rfl];refine kR.snoc ?_ (f d λc o n e=>v c o n (by rw[Qj n];exact s4 _ _ e));exact .tup (zu.of (v u _ F (by rw[Qj F];exact C))) (.cons (t.tups kt).rd (.cons (.tup (zu.of (kt _ _ b.q)) (K2 λy G=>⟨kt _ _ (b.as y G).1,(b.as y G).2⟩)) .nil))
  .rintro D ys H2 q ⟨m,f⟩ s2 p;have:=f H2 λc o _ e=>e;rw[qP (by rw[qi];exact qp _)] at this;exact k D ys H2 s2 q p this
def QC.past{x:qd}(h:QC a H y t)(ex:H x=some (.ins C dx []))(k:∀c o,c≠x->H c=some o->H' c=some o):QC a H' y t:=by
 have kt:∀c xs,H c=some (.tup xs)->H' c=some (.tup xs):=λc xs e=>k c _ (QX e ex nofun) e;have b:∀c D d (f:qc×V) g,H c=some (.ins D d (f::g))->H' c=some (.ins D d (f::g)):=λc D d f g e=>k c _ (λz=>by rw[z,ex] at e;cases e) e
 induction h with
 |lf l e t=>exact .lf l (b _ _ _ _ _ e) (t.tups kt)
 |nt e t _ i=>exact .nt (b _ _ _ _ _ e) (t.tups kt) i
 |thr e t _ i=>exact .thr (b _ _ _ _ _ e) (t.tups kt) i
 |jN e t _ _ i j=>exact .jN (b _ _ _ _ _ e) (t.tups kt) i j
 |jL e t _ _ i j=>exact .jL (b _ _ _ _ _ e) (t.tups kt) i j
def UW.past{x:qd}{r:RW}(h:UW a H r)(ex:H x=some (.ins C dx []))(k:∀c o,c≠x->H c=some o->H' c=some o):UW a H' r:=
 have kt:∀c xs,H c=some (.tup xs)->H' c=some (.tup xs):=λc xs e=>k c _ (QX e ex nofun) e
 ⟨kt _ _ h.e,h.c.past ex k,h.d,kt _ _ h.q,λy b=>⟨kt _ _ (h.as y b).1,(h.as y b).2⟩,h.n⟩
structure U8(a:jT)(H:Hp)(x:RW):Prop where
 e:H x.r=some (.tup [.ref x.vP,.ref x.q])
 c:QC a H x.vP x.t
 d:x.t.dp<8
 q:H x.q=some (.lst (x.as.map λy=>V.ref y.1))
 as:∀y∈x.as,xY H y.1 y.2
 n:x.as.length<=4
def U8.kl{x:RW}(h:U8 a H x)(k:KL a H H'):U8 a H' x:=⟨k.keep h.e rfl,h.c.kl k,h.d,k.keep h.q rfl,λy b=>(h.as y b).kl k,h.n⟩
inductive RF(K:Frag)(xs:qb V)(H:Hp)(Q:VK):Prop
 |mk:∀p ys,xs=[.ref p]->zm K H p ys->Uz (.tup ys) H Q->RF K xs H Q
def Kx(K:Frag)(a:X.K=K:=by rfl):YO X (.type "tuple") (RF K):=by
 subst a;intro pins s σ H xs us Q I r h;obtain⟨p,ys,e,b,q⟩:=h;exact Ap pins s σ H xs us Q I r ⟨p,ys,e,.inl ⟨b,λl c=>Uz.put q c⟩⟩
inductive RG(K:Frag)(xs:qb V)(H:Hp)(Q:VK):Prop
 |mk:∀p ys,xs=[.ref p]->(zm K H p ys\/zu K H p ys)->Uz (.lst ys) H Q->RG K xs H Q
def Kz(K:Frag)(a:X.K=K:=by rfl):YO X (.type "list") (RG K):=by
 subst a;intro pins s σ H xs us Q I r h;obtain⟨p,ys,e,b,q⟩:=h;exact XF pins s σ H xs us Q I r ⟨p,ys,e,b,λl c=>Uz.put q c⟩
def QC.ti(h:QC a H y t)(kt:∀c xs,H c=some (.tup xs)->H' c=some (.tup xs))(b:∀c D d f j,H c=some (.ins D d (f::j))->H' c=some (.ins D d (f::j))):QC a H' y t:=by
 induction h with
 |lf l e t=>exact .lf l (b _ _ _ _ _ e) (t.tups kt)
 |nt e t _ g=>exact .nt (b _ _ _ _ _ e) (t.tups kt) g
 |thr e t _ g=>exact .thr (b _ _ _ _ _ e) (t.tups kt) g
 |jN e t _ _ g i=>exact .jN (b _ _ _ _ _ e) (t.tups kt) g i
 |jL e t _ _ g i=>exact .jL (b _ _ _ _ _ e) (t.tups kt) g i
def UW.ti{r:RW}(h:UW a H r)(kt:∀c xs,H c=some (.tup xs)->H' c=some (.tup xs))(g:∀c D d f b,H c=some (.ins D d (f::b))->H' c=some (.ins D d (f::b))):UW a H' r:=
 ⟨kt _ _ h.e,h.c.ti kt g,h.d,kt _ _ h.q,λy e=>⟨kt _ _ (h.as y e).1,(h.as y e).2⟩,h.n⟩
def UW.list{r:RW}(h:UW a H r)(e:H l=some (.lst xs)):UW a (upd H l (.lst ys)) r:=
 h.ti (λc g b=>by rw[Qj (QX b e nofun)];exact b) (λc D d f i b=>by rw[Qj (QX b e nofun)];exact b)
def kg(r:RW):Tr×qb Act:=(r.t,r.as.map (·.2))
inductive aL(a:jT)(vs:qb V)(H:Hp)(Q:VK)(E:XK):Prop
 |mk:∀x dx L (hs:qb RW),vs=[.ref x,.ref L]->H x=some (.ins (a 107) dx [])->H L=some (.lst (hs.map λr=>V.ref r.r))->(∀r∈hs,U8 a H r)->hs.length<=40->(∀H' (rs:qb RW) l,(∀c o,c≠x->H c=some o->H' c=some o)->H l=none->H' x=some (.ins (a 107) dx [("kept",.ref l)])->H' l=some (.lst (rs.map λr=>V.ref r.r))->(∀r∈rs,UW a H' r)->rs.map kg=hs.map kg->Q .non H')->aL a vs H Q E
def bN(T:Txt P w K mg base a fd):T.k jx 1 62 (aL a):=by
 refine T.ok 62 (λB A outer st H vs Q E O h=>?_)
 .obtain⟨x,dx,L,t,rfl,ex,v,y,R,k⟩:=h;refine⟨_,(Qd (YR (pv 0) (Xs (sc:=Qr (sO 62)) (N:=(nn 62)) (fr:=[]) ⟨U,U,U,∅,∅,∅,∅,∅⟩ rfl rfl rfl (Y1 (pv 1)) (λ_ _ _ _=>(QJ (Qc (pv 0) (Qc (Yr (Kx K) rfl (T 25) boot_tuple (qV (pv 1) Qe)) Qm))))) rfl)),?_⟩;refine⟨_,U,L,U,⟨_,zm.of v⟩,Kv (xs:=t) (λr=>r.r) (λr=>.ref r.vP) (λr=>.ref r.q) (λD i ys m=>∃rs:qb RW,ys=rs.map (λr=>V.ref r.r)/\rs.length=i/\rs.map kg=(t.map kg).take i/\∀r∈rs,UW a m r) (Yj (⋯)) (zm.of v) (λD s=>⟨[],U,U,U,λr b=>nomatch b⟩) (λD i ys m ⟨rs,e,l,_⟩=>by rw[e,qi,l]) (λr b m s3=>zu.of (s3 _ _ (y r b).e)) ?_ ?_⟩
  .rintro D i r ys m Q' hi s ⟨rs,rfl,z,e,f⟩ p s3 C;have d:=(y r (qL hi)).kl (KL.of s3);refine⟨_,U,_,U,r.q,_,U,zm.of d.q,λF S X s4 G=>⟨U2,λu I Y s5 J=>C _ I (s4.trans s5) ⟨rs++[⟨u,r.vP,F,r.t,r.as⟩],by rw[qH];rfl,by rw[qm,ql,z],?_,?_⟩⟩⟩
   .rw[qH,e,zo,qC,hi];rfl
   .have g:=s4.trans s5;have j:=g _ _ p;intro M b;rcases qT.mp b with b|b
    .exact((f M b).kl (KL.of g)).list j
    .rw[qq.mp b];have q:=d.kl (KL.of g);exact UW.list ⟨J,q.c,q.d,s5 _ _ G,q.as,q.n⟩ j
  .rintro D ys H2 s ⟨rs,rfl,z,e,f⟩ s2 p;rw[qP (by rw[qi];exact qp _)] at e;have d:=s2 _ _ ex;have j:D≠x:=QX p d nofun;refine⟨_,U,x,_,dx,_,U,d,(T 7),(T 60),(by show 0<1000;decide),?_⟩;refine k _ rs D (λc o n g=>by rw[Qj n];exact s2 _ _ g) s Qg (by rw[Qj j];exact p) (λr b=>(f r b).past d λc o n g=>by rw[Qj n];exact g) e
inductive aW(vs:qb V)(H:Hp)(Q:VK)(E:XK):Prop
 |mk:∀(sh c:Int),vs=[.int sh,.int c]->0<=sh->sh<2147483629->0<=c->(∀q (ps:qb (qd×Act)) H',Qi H H'->H' q=some (.tup (ps.map λy=>V.ref y.1))->(∀y∈ps,xY H' y.1 y.2)->ps.length<=3->ps≠[]->Q (.ref q) H')->aW vs H Q E
theorem bS(T:Txt P w K mg base a fd):T.k jx 2 31 aW:=by
 refine T.ok 31 (λcdv A outer st H vs Q E hr h=>?_)
 .obtain⟨t,c,rfl,B,hs1,hc,k⟩:=h;refine⟨_,(Qb (Ql (i:=2) (sc 31).nd (Qy Qm))
   (Qb (Ym zg rfl (Yq rfl (T 6) (qV (Qh QV Qa (Qh Qx (pv 1) Qa)) Qe)) (QG (i:=3) (sc 31).nd) (Qb (Ql (i:=4) (sc 31).nd (Qh Qz (Qh Qz (pv 1) Qa) (Qh QV Qa (Qh UR Qa (pv 3)))))
   (Qb (Ql (i:=5) (sc 31).nd (T.cl (UD T) (qV (pv 0) (qV (Qh Qx (Qh Qz (pv 4) Qa) Qa) Qe))))
   (Qb (Ql (i:=6) (sc 31).nd (Qy (Qc (QJ (Qc Qf (Qc (pv 5) Qm))) (Qc (QJ (Qc Qf (Qc (pv 5) Qm))) (Qc (QJ (Qc Qf (Qc (pv 5) Qm))) (Qc (QJ (Qc Qf (Qc (pv 5) Qm))) (Qc (QJ (Qc Qf Qm)) Qm)))))))
   (Qd (Q4 (Ue plainAttrs_list zk zl Q8 (pv 2) (qV (Qp Qs (pv 6) (Qh Qx (pv 4) Qa)) Qe))))))))
   (Qd (Qk (Yr (Kx K) rfl (T 25) boot_tuple (qV (pv 2) Qe)))))),?_⟩
  have m0:0<=c%3:=qF _ ∅;have m1:c%3<3:=qA _ ∅;refine⟨K3,λD H1 nD s1 C=>?_⟩;refine⟨_,U,_,_,U,U,K4,_,_,U,U,1+c%3,U,⋯,⋯,YD (n:=(1+c%3).toNat) (λi σ H2=>∃(ps:qb (qd×Act))(F G I J:Option V),σ=[some (.int t),some (.int c),some (.ref D),F,G,I,J]/\Qi H H2/\H2 D=some (.lst (ps.map λy=>V.ref y.1))/\(∀y∈ps,xY H2 y.1 y.2)/\ps.length=i)
   ⟨[],none,none,none,none,U,s1,C,nofun,U⟩ ?_ ?_⟩
  .rintro i σ H2 hi ⟨ps,F,G,I,J,rfl,s2,L,e,p⟩;have hi3:i<3:=by omega
   have dv:(0:Int)<1+20*(0+(i:Int)):=by omega
   have M:1+20*(0+(i:Int))<1073741824:=by omega
   refine⟨_,U,_,_,U,U,⟨∅,∅⟩,_,U,_,_,U,U,.inl ⟨∅,∅⟩,_,_,U,U,_,_,U,U,⟨dv,M⟩,?_⟩;generalize c / 3 / (1+20*(0+(i:Int)))=more;have O:0<=more / 7%5:=qF _ ∅;have k1:more / 7%5<5:=qA _ ∅;refine⟨_,U,_,U,_,_,U,U,⟨∅,∅⟩,_,_,U,U,Bs,t,more / 7%5,U,B,⋯,O,⋯,λR s3=>?_⟩;have b:QO (YG t (more / 7%5)):=UA O ⋯;generalize YG t (more / 7%5)=u at b;refine⟨_,U,U2,λS H4 n4 s4 e4=>⟨_,U,U2,λX H5 n5 s5 e5=>⟨_,U,U2,λY H6 n6 N e6=>⟨_,U,U2,λZ H7 n7 x e7=>⟨Uv,λp5 H8 n8 r e8=>⟨RN,λl d n9 m e9=>?_⟩⟩⟩⟩⟩⟩;have f:Qi H2 d:=(((((s3.trans s4).trans s5).trans N).trans x).trans r).trans m;have a1:xY d S (.place u):=⟨m _ _ (r _ _ (x _ _ (N _ _ (s5 _ _ e4)))),b⟩;have a2:xY d X (.mark u):=⟨m _ _ (r _ _ (x _ _ (N _ _ e5))),b⟩;have a3:xY d Y (.unmark u):=⟨m _ _ (r _ _ (x _ _ e6)),b⟩;have a4:xY d Z (.mark u):=⟨m _ _ (r _ _ e7),b⟩;have a5:xY d p5 .stop:=⟨m _ _ e8,trivial⟩;obtain⟨v,hv,s,_⟩:=Yx (xs:=[V.ref S,V.ref X,V.ref Y,V.ref Z,V.ref p5]) (i:=more%5) (qF _ ∅) (qA _ ∅);obtain⟨o,act,rfl,hA⟩:∃o act,v=.ref o/\xY d o act:=by
    simp only[qy,q5,ji] at s;rcases s with rfl|rfl|rfl|rfl|rfl
    .exact⟨_,_,U,a1⟩
    .exact⟨_,_,U,a2⟩
    .exact⟨_,_,U,a3⟩
    .exact⟨_,_,U,a4⟩
    .exact⟨_,_,U,a5⟩
   have g:=f _ _ L;refine⟨_,U,.inl ⟨U,_,zm.of g⟩,_,U,_,U,_,_,U,U,Bs,l,_,_,_,U,U,zm.of e9,hv,D,_,_,U,U,g,(by rw[qi];exact QN ⋯),?_⟩;refine⟨ps++[(o,act)],_,_,_,_,U,(s2.trans f).zE nD,by rw[Qg,qH];rfl,λy j=>?_,by rw[qm,ql];omega⟩;have kt:∀{y:qd×Act},xY d y.1 y.2->xY (upd d D (.lst (ps.map (λy=>V.ref y.1)++[.ref o]))) y.1 y.2:=λ{y} h=>⟨by rw[Qj (QX h.1 g nofun)];exact h.1,h.2⟩;rcases qT.mp j with j|j
   .exact kt ((e y j).mono f)
   .rw[qq.mp j];exact kt (y:=(o,act)) hA
  .rintro σ H2 ⟨ps,F,G,I,J,rfl,s2,L,e,p⟩;exact⟨_,U,D,_,U,zm.of L,λq R d s3 b=>k q ps R (s2.trans s3) b (λy j=>(e y j).mono s3) ⋯ (λz=>by rw[z,zJ] at p;omega)⟩
structure Vy(H:Hp)(x:RW):Prop where
 e:H x.r=some (.tup [.ref x.vP,.ref x.q])
 c:jD H x.vP x.t
 d:x.t.dp<8
 q:H x.q=some (.tup (x.as.map λy=>V.ref y.1))
 as:∀y∈x.as,xY H y.1 y.2
 n:x.as.length<=4
def Vy.kl{x:RW}(h:Vy H x)(k:KL a H H'):Vy H' x:=⟨k.keep h.e rfl,h.c.kl k,h.d,k.keep h.q rfl,λy b=>(h.as y b).kl k,h.n⟩
def Vy.mono{x:RW}(h:Vy H x)(k:Qi H H'):Vy H' x:=⟨k _ _ h.e,h.c.mono k,h.d,k _ _ h.q,λy a=>(h.as y a).mono k,h.n⟩
def Vy.list{x:RW}(h:Vy H x)(e:H l=some (.lst xs)):Vy (upd H l (.lst ys)) x:=
 have kt:∀c a,H c=some (.tup a)->(upd H l (.lst ys)) c=some (.tup a):=λc a b=>by rw[Qj (QX b e nofun)];exact b
 ⟨kt _ _ h.e,h.c.tups kt,h.d,kt _ _ h.q,λy d=>⟨kt _ _ (h.as y d).1,(h.as y d).2⟩,h.n⟩
theorem VE{os:qb CD}:∀{rs rs':qb RW}{i:Nat}{c:CD}{ps:qb Nat},rs.map kg=rs'.map kg->Y8 os rs i c ps=Y8 os rs' i c ps
 |[],[],_,_,_,_=>rfl
 |[],_::_,_,_,_,h=>by cases h
 |_::_,[],_,_,_,h=>by cases h
 |r::rs,a::rs',i,c,ps,h=>by
  rw[qX,qX] at h
  injection h with b d
  have e1:r.t=a.t:=q8 Prod.fst b;have e:r.as.map (·.2)=a.as.map (·.2):=q8 Prod.snd b;unfold Y8;rw[e1,e,VE (rs:=rs) (rs':=rs') d,VE (rs:=rs) (rs':=rs') d]
def Pc{w:qc}(h:SS ms=ms):YA (ms.filter (λm=>!decide (m=w))++[w])=SS (ms++[w]):=by
 have b:ms.Nodup:=by rw[<-h];exact N4 ms
 have a:(ms.filter (λm=>!decide (m=w))++[w]).Nodup:=by
  rw[ke];refine⟨b.filter _,j3 _ _,λx c y d e=>?_⟩;rw[qq.mp d] at e;have:=(jd.mp c).2;rw[e] at this;simp at this
 rw[<-N3 a];refine XM λx=>?_;rw[qT,qT,qq,jd];by_cases e:x=w
 .exact⟨λ_=>.inr e,λ_=>.inr e⟩
 .simp[e]
def Tc{w:qc}:(ms.filter λm=>!decide (m=w))=ms.filter λm=>decide (m≠w):=by
 congr 1;funext m;simp
def wR(P:qd)(H:Hp)(u:qd)(c:CD):Prop:=∃q m,m≠P/\H u=some (.tup [.ref q,.str c.fo,.ref m])/\H q=some (.tup [.str c.s,.str c.t,.str c.b,.int c.d,.str c.an])/\H m=some (.lst (c.ms.map V.str))
def wR.at{P:qd}{u:qd}(h:wR P H u c):U9 H u c:=let ⟨q,m,_,e1,a,b⟩:=h;⟨q,m,e1,a,b⟩
def wR.mono{P:qd}{u:qd}(h:wR P H u c)(s:Qi H H'):wR P H' u c:=let ⟨q,m,n,e1,a,b⟩:=h;⟨q,m,n,s _ _ e1,s _ _ a,s _ _ b⟩
def wR.upd{P:qd}{u:qd}(h:wR P H u c)(e:H P=some (.lst xs)):wR P (upd H P (.lst ys)) u c:=
 let ⟨q,m,n,e1,a,b⟩:=h
 ⟨q,m,n,by rw[Qj (QX e1 e nofun)];exact e1,by rw[Qj (QX a e nofun)];exact a,by rw[Qj n];exact b⟩
abbrev VM(as:qb Act):Bool:=as.any (λx=>match x with|.stop=>true|_=>false)
def Wh{x:Act}(h:VM as=false)(a:VM [x]=false):VM (as++[x])=false:=by
 unfold VM at *
 rw[List.any_append,h,a];rfl
inductive aO(vs:qb V)(H:Hp)(Q:VK)(E:XK):Prop
 |mk:∀D u l (rs:qb RW) c (xs:qb (qd×CD)),vs=[.ref D,.ref u,.ref l]->H D=some (.lst (rs.map λr=>V.ref r.r))->(∀r∈rs,Vy H r)->rs.length<=40->U9 H u c->Yy c->SS c.ms=c.ms->gf c rs->H l=some (.lst (xs.map λx=>V.ref x.1))->(∀x∈xs,U9 H x.1 x.2/\Yy x.2)->xs.length<=100->(∀z u' P H',Qi H H'->H' z=some (.tup [.ref u',.ref P])->U9 H' u' (Y8 (xs.map (·.2)) rs 0 c []).1->H' P=some (.lst ((Y8 (xs.map (·.2)) rs 0 c []).2.map λi:Nat=>V.int (i:Int)))->Q (.ref z) H')->aO vs H Q E
theorem bP(T:Txt P w K mg base a fd):T.k jx 10 32 aO:=by
 refine T.ok 32 (λcdv A outer st H vs Q E hr h=>?_)
 .obtain⟨D,u,l,rs,c,xs,rfl,hD,hrs,hrn,hu,gd,hSS,hl49,hl,hxs,hxn,k⟩:=h;obtain⟨W,hW,hcW,haW⟩:=hl49;obtain⟨t2,h2,sp2⟩:∃t,yV (T.cx 32 cdv A outer st H E) ((QK (sO 32)).drop 2) t /\
   ∀(H1:Hp)(y o:qd)(o4 R S X Y:Option V),Qi H H1->U9 H1 y (Y8 (xs.map (·.2)) rs 0 c []).1->H1 o=some (.lst ((Y8 (xs.map (·.2)) rs 0 c []).2.map λi:Nat=>V.int (i:Int))) ->
    t {nx:=λ_ H'=>Q .non H',rt:=Q} [some (.ref D),some (.ref y),some (.ref l),some (.ref o),o4,R,S,X,Y] H1:=by
   refine⟨_,(Qd (Qk (QJ (Qc (pv 1) (Qc (pv 3) Qm))))),λH1 y o o4 R S X Y s1 hy b=>?_⟩;exact⟨_,U,_,U,U2,λz H2 G s2 e2=>k z y o H2 (s1.trans s2) e2 (hy.mono s2) (s2 _ _ b)⟩
  refine⟨_,(Qb (Ql (i:=3) (sc 32).nd (Qy Qm))
   (Qb (Ym zg rfl (Yq rfl (T 6) (qV (Qv QQ rfl (T 2) zy (qV (pv 0) Qe)) Qe)) (QG (i:=4) (sc 32).nd) (Qd (Qu (Q5 (T.cl (GJ T 8) (qV (Qp Qt (Qp Qs (pv 0) (pv 4)) Qa) (qV (pv 1) (qV (pv 2) Qe))))) (Qb (Q4 (Ue plainAttrs_list zk zl Q8 (pv 3) (qV (pv 4) Qe)))
   (Qd (Ym zg rfl (GB (Qp Qt (Qp Qs (pv 0) (pv 4)) Qa)) (QG (i:=5) (sc 32).nd) (Qb (Eo (pv 1) (XY rfl (Yu (QG (i:=6) (sc 32).nd) (Yu (QG (i:=7) (sc 32).nd) (Yu (QG (i:=8) (sc 32).nd) WI)))))
   (Qb (Qu (Qn QH (Qp Qt (pv 5) Qa) Qf) (Qd (Qk (QJ (Qc (pv 1) (Qc (pv 3) Qm))))) Qq)
   (Qb (Qu (Qn QH (Qp Qt (pv 5) Qa) Qf) (Qd (Ql (i:=7) (sc 32).nd (Qp Qt (pv 5) Qa))) (Qd (VG (sc:=Qr (sO 32)) (N:=(nn 32)) (i:=8) (fr:=[(5,"_law_act")]) (wO rfl rfl) rfl rfl rfl (sc 32).nd U rfl (Y1 (pv 8)) (λ_ _ _ _=>BI (Qn Km (pv 0) (Qp (Ph K) (pv 1) Qa))) (λ_ _ _ _=>(pv 0)))))
   (Qb (Qu (Qn QH (Qp Qt (pv 5) Qa) Qf) (Qd (Ql (i:=8) (sc 32).nd (Qv Ky rfl (T 36) boot_sorted (qV (Qh QW (pv 8) (Qy (Qc (Qp Qt (pv 5) Qa) Qm))) Qe)))) Qq)
   (Qd (Ql (i:=1) (sc 32).nd (QJ (Qc (pv 6) (Qc (pv 7) (Qc (pv 8) Qm))))))))))))) Qq)))
   h2)),?_⟩
  refine⟨K3,λo H1 nP s1 eP1=>?_⟩;have hll:(rs.map λr=>V.ref r.r).length=rs.length:=qi _;refine⟨_,U,D,_,U,.inl (zm.of (s1 _ _ hD)),((rs.map λr=>V.ref r.r).length:Int),U,⋯,⋯,YD (n:=((rs.map λr=>V.ref r.r).length:Int).toNat) (λi σ H2=>∃(y:qd)(s:CD)(ps:qb Nat)(o4 R S X Y:Option V),σ=[some (.ref D),some (.ref y),some (.ref l),some (.ref o),o4,R,S,X,Y]/\Qi H H2/\wR o H2 y s/\Yy s/\SS s.ms=s.ms/\wJ W s.ms/\H2 o=some (.lst (ps.map λi:Nat=>V.int (i:Int)))/\ps.length<=i/\Y8 (xs.map (·.2)) rs 0 c []=Y8 (xs.map (·.2)) (rs.drop i) i s ps)
   ?_ ?_ ?_⟩
  .obtain⟨q,m,e1,e2,e3⟩:=hu;exact⟨u,c,[],none,none,none,none,none,U,s1,⟨q,m,Qo e3 nP,s1 _ _ e1,s1 _ _ e2,s1 _ _ e3⟩,gd,hSS,hcW,eP1,qp _,U⟩
  .rintro i σ H2 hi ⟨y,s,ps,o4,R,S,X,Y,rfl,s2,hy,g',hS',hl',eP,hpl,d⟩;have hil:i<rs.length:=by omega
   have er:rs[i]?=some rs[i]:=qx hil;generalize rs[i]=r at er;have hdr:rs.drop i=r::rs.drop (i+1):=by rw[zP hil,(qJ.mp er).2]
   rw[hdr] at d;have I:=(hrs r (qL er)).mono s2;have eat:xX (rs.map λr=>V.ref r.r) (0+(i:Int))=some (V.ref r.r):=by rw[kO];exact QB (by rw[qC,er];rfl)
   refine⟨_,U,_,U,D,_,_,_,U,U,zm.of (s2 _ _ hD),eat,r.r,_,_,_,U,U,zu.of I.e,U,_,U,_,U,?_⟩;refine⟨r.vP,r.t,y,l,s,xs,U,I.c,I.d,hy.at,g',s2 _ _ hl,(λx hx=>⟨(hxs x hx).1.mono s2,(hxs x hx).2⟩),hxn,λH3 s3=>⟨_,U,?_⟩⟩;have s03:=s2.trans s3;have hrow3:=I.mono s3;have M:=s3 _ _ eP;rw[<-Vw];cases eh:YT r.t s (xs.map (·.2))
   .refine QA ⟨y,s,ps,_,_,_,_,_,U,s03,hy.mono s3,g',hS',hl',M,⋯,?_⟩;rw[d];show(if YT r.t s (xs.map (·.2))=true then _ else _)=_;rw[eh,qz ∅]
   .have e:Y8 (xs.map (·.2)) rs 0 c []=if VM (r.as.map (·.2))=true then (Q6 s (r.as.map (·.2)),ps++[i]) else Y8 (xs.map (·.2)) (rs.drop (i+1)) (i+1) (Q6 s (r.as.map (·.2))) (ps++[i]):=by
     rw[d];show(if YT r.t s (xs.map (·.2))=true then _ else _)=_;rw[eh,qG rfl]<;>rfl
    refine QI ⟨_,U,.inl ⟨U,_,zm.of M⟩,_,U,o,_,_,U,U,M,(by rw[qi];exact QN ⋯),?_⟩;have s4:Qi H (upd H3 o (.lst ((ps.map λi:Nat=>V.int (i:Int))++[.int (0+(i:Int))]))):=s03.zE nP;have eP4:(upd H3 o (.lst ((ps.map λi:Nat=>V.int (i:Int))++[.int (0+(i:Int))]))) o=some (.lst (((ps++[i]).map λi:Nat=>V.int (i:Int)))):=by rw[Qg,qH,kO];rfl
    have hy4:=(hy.mono s3).upd (ys:=(ps.map λi:Nat=>V.int (i:Int))++[.int (0+(i:Int))]) M;have b:=hrow3.list (ys:=(ps.map λi:Nat=>V.int (i:Int))++[.int (0+(i:Int))]) M;generalize upd H3 o (.lst ((ps.map λi:Nat=>V.int (i:Int))++[.int (0+(i:Int))]))=H4 at s4 eP4 hy4 b⊢;have hn4:=b.n;refine⟨_,U,_,U,D,_,_,_,U,U,zm.of (s4 _ _ hD),eat,r.r,_,_,_,U,U,zu.of b.e,U,r.q,U,⟨_,zu.of b.q⟩,K1 (K:=K) (a:=r.q) (xs:=r.as.map λy=>V.ref y.1) (λj σ H5=>∃(y:qd)(g:CD)(R S X Y:Option V),σ=[some (.ref D),some (.ref y),some (.ref l),some (.ref o),some (.int (0+(i:Int))),R,S,X,Y]/\Qi H4 H5/\wR o H5 y g/\Yy g/\SS g.ms=g.ms/\wJ W g.ms/\Q6 s (r.as.map (·.2))=Q6 g ((r.as.map (·.2)).drop j)/\VM ((r.as.map (·.2)).take j)=false)
     ⟨y,s,_,_,_,_,U,Qi.refl _,hy4,g',hS',hl',U,U⟩ (λj σ H5 _ ⟨_,_,_,_,_,_,_,s5,_⟩=>zu.of (s5 _ _ b.q)) ?_ ?_⟩
    .rintro j v σ H5 hj ⟨y1,g,p5,p6,p7,p8,rfl,s5,Z,g1,O,hl1,p,F⟩;rw[qC] at hj
     cases ej:r.as[j]? with
     |none=>rw[ej] at hj;cases hj
     |some y0=>
      obtain⟨B,act⟩:=y0;rw[ej] at hj;cases hj;have hjl:j<r.as.length:=(qJ.mp ej).1;have J:xY H5 B act:=(b.as (B,act) (qL ej)).mono s5;have hdj:(r.as.map (·.2)).drop j=act::(r.as.map (·.2)).drop (j+1):=by
       rw[zP (by rw[qi];exact hjl),kA];rw[(qJ.mp ej).2]
      have htj:(r.as.map (·.2)).take (j+1)=(r.as.map (·.2)).take j++[act]:=by rw[zo,qC,ej];rfl
      rw[hdj] at p;obtain⟨q,m,nm,e1,e2,e3⟩:=id Z;have hlW:=hl1.len O;have hl50:g.ms.length<50:=by omega
      have hai:=NW hl1 (haW r (qL er) act (zr.mpr ⟨_,qL ej,U⟩));have ag:=DU g1 J.2 O hl50;have eP5:=s5 _ _ eP4;refine⟨_,U,y1,_,U,zu.of e1,U,_,_,U,_,_,U,_,_,U,U,?_⟩
      cases act with
      |stop=>
       refine⟨_,U,B,_,_,_,U,U,zu.of J.1,U,U,_,U,Us ?_⟩;have C:VM (r.as.map (·.2))=true:=by
        rw[<-zG j (r.as.map (·.2)),hdj];show((r.as.map (·.2)).take j++_).any _=true;rw[List.any_append,ym];simp
       rw[C,qG rfl,p] at e;refine⟨_,U,_,U,U2,λz L G f e6=>k z y1 o L ((s4.trans s5).trans f) e6 ?_ ?_⟩
       .rw[e];exact(Z.mono f).at
       .rw[e];exact f _ _ eP5
      |place C=>
       refine⟨_,U,B,_,_,_,U,U,zu.of J.1,U,U,_,U,zO ∅ ?_⟩;refine⟨_,U,B,_,_,_,U,U,zu.of J.1,U,U,_,U,Us ⟨_,U,B,_,_,_,U,U,zu.of J.1,U,?_⟩⟩;refine⟨_,U,B,_,_,_,U,U,zu.of J.1,U,U,_,U,zO ∅ ?_⟩;refine⟨_,U,_,U,_,U,VS,λy2 L n6 f e6=>?_⟩;exact⟨y2,VR g (.place C),_,_,_,_,U,s5.trans f,⟨q,m,nm,e6,f _ _ e2,f _ _ e3⟩,ag.1,ag.2.1,hai,p,by rw[htj];exact Wh F rfl⟩
      |mark C=>
       refine⟨_,U,B,_,_,_,U,U,zu.of J.1,U,U,_,U,zO ∅ ?_⟩;refine⟨_,U,B,_,_,_,U,U,zu.of J.1,U,U,_,U,zO ∅ ?_⟩;refine⟨_,U,m,U,⟨_,zm.of e3⟩,Wx (xs:=g.ms) V.str (λm=>!decide (m=C)) V.str (Yj (⋯)) (zm.of e3) (λx L Q' hx f kq=>?_) (λx L Q' hx f _ kq=>⟨_,U,kq L (Qi.refl _)⟩) λm2 L n6 f e6=>?_⟩
       .refine⟨_,U,_,U,B,_,_,_,U,U,zu.of (f _ _ J.1),U,U,_,U,?_⟩;rw[Vg];exact kq L (Qi.refl _)
       have hA6:=J.mono f;refine⟨_,U,B,_,_,_,U,U,zu.of hA6.1,U,U,_,U,Us ?_⟩;refine⟨_,U,_,U,B,_,_,_,U,U,zu.of hA6.1,U,Uv,λl1 H7 n7 s7 e7=>?_⟩;refine⟨m2,l1,_,_,U,U,s7 _ _ e6,e7,Yj ((by rw[qi,ql];exact qO (Nat.succ_le_succ (zF _ _)) ⋯)),λl2 H8 n8 s8 e8=>?_⟩;have e8':H8 l2=some (.lst ((g.ms.filter (λm=>!decide (m=C))++[C]).map V.str)):=by rw[e8,qH];rfl
       refine⟨l2,_,U,zm.of e8',(by rw[qm,ql];exact jC (Nat.succ_le_succ (zF _ _)) ⋯),λl3 n9=>?_⟩;have s9:Qi H8 (upd H8 l3 (.lst ((YA (g.ms.filter (λm=>!decide (m=C))++[C])).map V.str))):=Qi.zL n9;have e9:(upd H8 l3 (.lst ((YA (g.ms.filter (λm=>!decide (m=C))++[C])).map V.str))) l3=some (.lst ((SS (g.ms++[C])).map V.str)):=by rw[Qg,Pc O]
       generalize upd H8 l3 (.lst ((YA (g.ms.filter (λm=>!decide (m=C))++[C])).map V.str))=H9 at s9 e9⊢;have s59:Qi H5 H9:=((f.trans s7).trans s8).trans s9;have nl3:l3≠o:=λz=>by rw[z,((f.trans s7).trans s8) _ _ eP5] at n9;cases n9
       refine⟨_,U,_,U,_,U,VS,λy2 H10 n10 G e10=>?_⟩;exact⟨y2,VR g (.mark C),_,_,_,_,U,(s5.trans s59).trans G,⟨q,l3,nl3,e10,G _ _ (s59 _ _ e2),G _ _ e9⟩,ag.1,ag.2.1,hai,p,by rw[htj];exact Wh F rfl⟩
      |unmark C=>
       refine⟨_,U,B,_,_,_,U,U,zu.of J.1,U,U,_,U,zO ∅ ?_⟩;refine⟨_,U,B,_,_,_,U,U,zu.of J.1,U,U,_,U,zO ∅ ?_⟩;refine⟨_,U,m,U,⟨_,zm.of e3⟩,Wx (xs:=g.ms) V.str (λm=>!decide (m=C)) V.str (Yj (⋯)) (zm.of e3) (λx L Q' hx f kq=>?_) (λx L Q' hx f _ kq=>⟨_,U,kq L (Qi.refl _)⟩) λm2 L n6 f e6=>?_⟩
       .refine⟨_,U,_,U,B,_,_,_,U,U,zu.of (f _ _ J.1),U,U,_,U,?_⟩;rw[Vg];exact kq L (Qi.refl _)
       have hA6:=J.mono f;rw[Tc] at e6;have nm2:m2≠o:=λz=>by rw[z,eP5] at n6;cases n6
       refine⟨_,U,B,_,_,_,U,U,zu.of hA6.1,U,U,_,U,zO ∅ ?_⟩;refine⟨_,U,_,U,_,U,VS,λy2 H10 n10 G e10=>?_⟩;exact⟨y2,VR g (.unmark C),_,_,_,_,U,(s5.trans f).trans G,⟨q,m2,nm2,e10,G _ _ (f _ _ e2),G _ _ e6⟩,ag.1,ag.2.1,hai,p,by rw[htj];exact Wh F rfl⟩
    .rintro σ H5 ⟨y1,g,p5,p6,p7,p8,rfl,s5,Z,g1,O,hl1,p,F⟩;rw[qi] at p F;rw[jt (by rw[qi];exact qp _)] at p;rw[qP (by rw[qi];exact qp _)] at F;rw[F,qz ∅,p] at e;exact⟨y1,g,ps++[i],_,_,_,_,_,U,s4.trans s5,Z,g1,O,hl1,s5 _ _ eP4,by rw[qm,ql];omega,e⟩
  .rintro σ H2 ⟨y,s,ps,o4,R,S,X,Y,rfl,s2,hy,g',hS',hl',eP,hpl,d⟩;rw[show((rs.map λr=>V.ref r.r).length:Int).toNat=rs.length by omega,jt (qp _)] at d;refine sp2 H2 y o o4 R S X Y s2 ?_ ?_
   .rw[d];exact hy.at
   .rw[d];exact eP
inductive Rg(vs:qb V)(H:Hp)(Q:VK)(E:XK):Prop
 |mk:∀x:qc,vs=[.str x]->x.length<=100000->(∀D H',H D=none->Qi H H'->H' D=some (.lst ((yb x).map V.str))->Q (.ref D) H')->Rg vs H Q E
def CF(x:qc)(c:Nat):(Txt.replace x ⟨#[c]⟩ (Vj ⟨#[c]⟩)).length<=3*x.length:=by
 have h:=Dz (c:=c) (z:=(Vj ⟨#[c]⟩).cps.toList) (by rfl) x.cps.toList;rw[<-UX] at h;have e1:(Txt.replace x ⟨#[c]⟩ (Vj ⟨#[c]⟩)).cps.toList.length=(Txt.replace x ⟨#[c]⟩ (Vj ⟨#[c]⟩)).length:=qQ;have a:x.cps.toList.length=x.length:=qQ;rw[e1,a] at h;exact h
theorem SI(T:Txt P w K mg base a fd):T.kT jx 1 9 Rg:=by
 refine(T.F 9).okT (sc 9) (λvs H Q E h=>?_) (λi A outer st H vs Q E r h=>?_)
 .obtain⟨x,rfl,_⟩:=h;rfl
 .obtain⟨x,rfl,s,k⟩:=h;have f:("(":qc)=⟨#[40]⟩:=by decide +kernel
  have j:(")":qc)=⟨#[41]⟩:=by decide +kernel
  have t:(",":qc)=⟨#[44]⟩:=by decide +kernel
  have u:=CF x 40;have v:=CF (Txt.replace x ⟨#[40]⟩ (Vj ⟨#[40]⟩)) 41;refine⟨_,(WG (Sn (txt:="text") (sg:="sign") (a:="(") (b:=")") (c:=",") rfl ∅ rfl rfl rfl ∅ ∅ ∅ zg ∅ ∅ rfl rfl rfl rfl (λ_=>rfl))
   (Qd (Qk (WK (sc:=Qr (sO 9)) (N:=(nn 9)) (fr:=[]) (wO rfl rfl) rfl rfl rfl (Y1 (Ue plainAttrs_str slot_str_split type_str_split AW (pv 0) (qV Qf Qe))) (λ_ _ _ _=>BI (Qn Km (pv 0) Qf)) (λ_ _ _ _=>(pv 0)))))),?_⟩
  refine⟨x,none,U,⋯,by rw[f];omega,by rw[f,j];omega,?_⟩;have l:=Gu x;refine⟨_,U,U,_," ",U,U,∅,⋯,λL H1 z s1 g=>?_⟩;have m:=split_le (YV x "(" ")" ",") " ";refine⟨L,U,⟨_,zm.of g⟩,Wx (xs:=Txt.split (YV x "(" ")" ",") " ") V.str (λp=>!decide (p=("":qc))) V.str (by rw[zI];omega) (zm.of g) (λy d Q' n s3 e=>⟨_,U,U,_,U,by rw[Vg];exact e d (Qi.refl _)⟩) (λy d Q' n s3 _ e=>⟨_,U,e d (Qi.refl _)⟩) λD H2 o s2 q=>k D H2 (s1.free o) (s1.trans s2) q⟩
def KR(R:qd)(H H':Hp):Prop:=∀c o,c≠R->H c=some o->H' c=some o
def KR.of(h:Qi H H'):KR R H H':=λc o _ e=>h c o e
def KR.refl(R:qd)(H:Hp):KR R H H:=λ_ _ _ e=>e
def KR.trans(a:KR R H H1)(b:KR R H1 H2):KR R H H2:=λc o n e=>b c o n (a c o n e)
def KR.upd(k:KR R H H'):KR R H (upd H' R o):=λc u n e=>by rw[Qj n];exact k c u n e
def KJ(p:qc):Prop:=p.length<=300000/\∀c∈p.cps.toList,c<1114112
theorem KJ.rp{p:qc}(h:KJ p):(reprText p).length<=3000002:=by
 have a:=PySem.StrLaws.reprText_len p λc hc=>wm (h.2 c hc) ∅;have:=h.1;omega
structure KI(a:jT)(H:Hp)(R:qd)(row:V):Prop where
 ex:∃(dx:qd)(v1 v2:V),H R=some (.ins (a 106) dx [(Zv,v1),("at",v2),(Zs,row)])
structure Yc(a:jT)(H:Hp)(R:qd)(row:V)(rs:qf):Prop where
 ex:∃(dx l:qd)(ps:qf)(k:Nat),H R=some (.ins (a 106) dx [(Zv,.ref l),("at",.int (k:Int)),(Zs,row)])/\H l=some (.lst (ps.map V.str))/\ps.drop k=rs/\k<=ps.length/\ps.length<=1000000/\∀p∈ps,KJ p/\p≠""
def Yc.mono{row:V}(h:Yc a H R row rs)(s:Qi H H'):Yc a H' R row rs:=by
 obtain⟨dx,l,ps,k,e1,b,r⟩:=h.ex;exact⟨dx,l,ps,k,s _ _ e1,s _ _ b,r⟩
def Yc.rw{row:V}(h:Yc a H R row rs):KI a H R row:=by
 obtain⟨dx,l,ps,k,e1,_⟩:=h.ex;exact⟨dx,_,_,e1⟩
def KI.mono{row:V}(h:KI a H R row)(s:Qi H H'):KI a H' R row:=by
 obtain⟨dx,v1,v2,e1⟩:=h.ex;exact⟨dx,_,_,s _ _ e1⟩
def Yc.pc{row:V}(h:Yc a H R row rs):∀p∈rs,KJ p/\p≠"":=by
 obtain⟨dx,l,ps,k,e1,d,c,_,_,r⟩:=h.ex;intro p b;rw[<-c] at b;exact r p (jG b)
def jD.krw{row:V}(h:jD H p t)(r:KI a H R row)(k:KR R H H'):jD H' p t:=by
 obtain⟨dx,v1,v2,e1⟩:=r.ex;exact h.tups λc xs e=>k c _ (QX e e1 nofun) e
def jD.kr{row:V}(h:jD H p t)(r:Yc a H R row rs)(k:KR R H H'):jD H' p t:=h.krw r.rw k
def hd1:qf->qc
 |[]=>""
 |p::_=>p
def S6(h:∀p∈rs,KJ p/\p≠""):KJ (hd1 rs):=by
 cases rs with
 |nil=>exact⟨∅,λc hc=>nomatch hc⟩
 |cons p r=>exact(h p qo).1
def vm(a:jT)(E:XK)(R:qd)(row:V)(H:Hp):Prop:=∀H' n,KR R H H'->H' n=some (.xd [(Zs,row)])->E (.ref (a 103)) (some n) H'
def vm.step{row:V}(h:vm a E R row H)(k:KR R H H1):vm a E R row H1:=λH' n b e=>h H' n (k.trans b) e
inductive HC(a:jT)(vs:qb V)(H:Hp)(Q:VK)(E:XK):Prop
 |mk:∀e w row,vs=[.ref e,w,row]->H e=some (Vz (a 103) none e)->(∀n,H n=none->n≠e->Q .non (upd (upd H e (Vz (a 103) (some n) e)) n (.xd [(Zs,row)])))->HC a vs H Q E
def Kp(T:Txt P w K mg base a fd):T.k jx 1 81 (HC a):=by
 refine(T.D 81).ok (sc 81) (λc A outer st H vs Q E f h=>?_) (λvs H Q E h=>by obtain⟨e,w,row,rfl,_⟩:=h;rfl)
 .obtain⟨e,w,row,rfl,he,k⟩:=h;refine⟨_,(Qb (Q4 (Mi rfl (T 93) (T 190) (qV (pv 0) (qV (pv 1) Qe)))) (Qd (OL (pv 0) (pv 2) rfl rfl))),?_⟩;refine⟨_,U,_,U,e,w,_,_,U,he,(T 3),?_⟩;exact⟨_,U,_,U,e,_,U,he,(T 65),λn d b=>k n d b⟩
def WE{row:V}(k:KR R H0 H1)(h:KI a H1 R row)(i:vm a E R row H0) :
 [V.str msg,row].length<=sizeLine/\∀e,H1 e=none->HC a (.ref e::[.str msg,row]) (upd H1 e (Vz (a 103) none e)) (λv H2=>v=.non/\XQ (a 103) H0 E (.ref e) H2) E0:=by
 refine⟨by show 2<=sizeLine;decide,λe he=>⟨e,_,_,U,Qg,λn g b=>⟨U,e,some n,U,?_,?_,?_⟩⟩⟩
 .rw[Qj b.symm,Qg]
 .cases z:H0 e with
  |none=>rfl
  |some o=>
   by_cases y:e=R
   .obtain⟨dx,v1,v2,d⟩:=h.ex;rw[<-y,he] at d;cases d
   .have:=k e o y z;rw[he] at this;cases this
 .have f:H1 n=none:=by rw[Qj b] at g;exact g
  refine i _ n (λc o hc j=>?_) ?_
  .have d:=k c o hc j;have ce:c≠e:=λz=>by rw[z,he] at d;cases d
   have l:c≠n:=λz=>by rw[z,f] at d;cases d
   rw[Vn _ ce,Qj l,Qj ce,Qj ce];exact d
  .rw[Vn _ b,Qg]
inductive Fx(a:jT)(vs:qb V)(H:Hp)(Q:VK)(E:XK):Prop
 |mk:∀R row (rs:qf),vs=[.ref R]->Yc a H R row rs->Q (.str (hd1 rs)) H->Fx a vs H Q E
inductive Gh(a:jT)(vs:qb V)(H:Hp)(Q:VK):Prop
 |mk:∀R row p rs,vs=[.ref R]->Yc a H R row (p::rs)->(∀H',KR R H H'->Yc a H' R row rs->Q (.str p) H')->Gh a vs H Q
 |fin:∀R row,vs=[.ref R]->Yc a H R row []->(∀H',KR R H H'->KI a H' R row->Q (.str "") H')->Gh a vs H Q
def R7(a:jT):Sp:=λvs H Q _=>Gh a vs H Q
inductive Uc(a:jT)(vs:qb V)(H:Hp)(Q:VK):Prop
 |yes:∀R row p rs,vs=[.ref R,.str p]->Yc a H R row (p::rs)->(∀H',KR R H H'->Yc a H' R row rs->Q (.bl true) H')->Uc a vs H Q
 |no:∀R row p rs,vs=[.ref R,.str p]->Yc a H R row rs->hd1 rs≠p->Q (.bl false) H->Uc a vs H Q
 |fin:∀R row,vs=[.ref R,.str ""]->Yc a H R row []->(∀H',KR R H H'->Q (.bl true) H')->Uc a vs H Q
def R9(a:jT):Sp:=λvs H Q _=>Uc a vs H Q
inductive KS(a:jT)(vs:qb V)(H:Hp)(Q:VK)(E:XK):Prop
 |yes:∀R row p rs,vs=[.ref R,.str p]->Yc a H R row (p::rs)->(∀H',KR R H H'->Yc a H' R row rs->Q .non H')->KS a vs H Q E
 |fin:∀R row,vs=[.ref R,.str ""]->Yc a H R row []->(∀H',KR R H H'->Q .non H')->KS a vs H Q E
 |no:∀R row p rs,vs=[.ref R,.str p]->Yc a H R row rs->hd1 rs≠p->KJ p->vm a E R row H->KS a vs H Q E
def aS(a:jT):Sp:=λvs H Q E=>KS a vs H Q E
theorem Yc.go{k:Nat}{row:V}{p:qc}(d:H R=some (.ins (a 106) dx [(Zv,.ref l),("at",.int (k:Int)),(Zs,row)]))(c:H l=some (.lst (ps.map V.str)))(hd:ps.drop k=p::rs)(h:k<=ps.length)(f:ps.length<=1000000)(g:∀p∈ps,KJ p/\p≠"") :
 Yc a (upd H R (.ins (a 106) dx (UQ "at" (.int ((k:Int)+1)) [(Zv,.ref l),("at",.int (k:Int)),(Zs,row)]))) R row rs:=by
 have b:k<ps.length:=by
  have e:=q8 List.length hd;rw[qZ,qw] at e;omega
 refine⟨dx,l,ps,k+1,?_,?_,?_,b,f,g⟩
 .rw[Qg];rfl
 .rw[Qj (QX c d nofun)];exact c
 .have e:=q8 (List.drop 1) hd;rw[List.drop_drop] at e;exact e
theorem GN(T:Txt P w K mg base a fd):T.k jx 1 68 (Fx a):=by
 refine T.ok 68 (λd A outer st H vs Q E j h=>?_)
 .obtain⟨R,row,rs,rfl,f,k⟩:=h;obtain⟨dx,l,ps,n,b,c,hd,m,o,_⟩:=f.ex;refine⟨_,(Qd (Qk (Vt (Qn Kn (Qw (pv 0) U) (Qv QQ rfl (T 2) zy (qV (Qw (pv 0) U) Qe))) (Qp Qs (Qw (pv 0) U) (Qw (pv 0) U)) (Yo rfl (T 68))))),?_⟩;refine⟨_,U,R,_,dx,_,_,U,b,(T 0),(T 14),U,_,U,R,_,dx,_,_,U,b,(T 0),(T 64),U,l,_,U,.inl (zm.of c),_,_,U,U,_,U,?_⟩;rw[qi]
  cases rs with
  |nil=>
   have:¬((n:Int)<(ps.length:Int)):=λz=>by
    have e:=q8 List.length hd;rw[qZ,zJ] at e;omega
   rw[qr this];exact QA k
  |cons p r=>
   have g:n<ps.length:=by
    have e:=q8 List.length hd;rw[qZ,qw] at e;omega
   have i:ps[n]?=some p:=by
    have e:=q8 (λz:qf=>z[0]?) hd;rw[xQ,Nat.add_zero] at e;exact e
   rw[qv ⋯];exact QI ⟨_,U,R,_,dx,_,_,U,b,(T 0),(T 64),U,_,U,R,_,dx,_,_,U,b,(T 0),(T 14),U,l,_,_,V.str p,U,U,zm.of c,QB (by rw[qC,i];rfl),k⟩
def KU(T:Txt P w K mg base a fd):T.k jx 2 69 (R7 a):=by
 refine T.ok 69 (λm A outer st H vs Q E o h=>?_)
 .have yD:QF 1 _:=o;refine⟨_,(Qb (Ql (i:=1) (sc 69).nd (Ud (pv 0) (T 0) (T 61) (GN T) yD (T.B 68) .nil QP))
   (Qb (AO (pv 0) Qa Nk) (Qd (Qk (pv 1))))),?_⟩
  cases h with
  |mk R row p rs e c k=>
   subst e;obtain⟨dx,l,ps,n,b,d,hd,f,g,j⟩:=id c.ex;refine⟨_,U,R,dx,_,U,b,U,R,row,_,U,c,?_⟩;refine⟨_,U,R,_,dx,_,_,U,b,(T 0),(T 14),U,_,_,U,U,dx,_,b,(by show 3<1000;decide),?_⟩;exact⟨_,U,k _ (KR.refl R H).upd (Yc.go b d hd f g j)⟩
  |fin R row e c k=>
   subst e;obtain⟨dx,l,ps,n,b,d,hd,f,g,j⟩:=id c.ex;refine⟨_,U,R,dx,_,U,b,U,R,row,_,U,c,?_⟩;refine⟨_,U,R,_,dx,_,_,U,b,(T 0),(T 14),U,_,_,U,U,dx,_,b,(by show 3<1000;decide),?_⟩;exact⟨_,U,k _ (KR.refl R H).upd ⟨dx,_,_,Qg⟩⟩
def Xv(T:Txt P w K mg base a fd):T.k jx 2 70 (R9 a):=by
 refine T.ok 70 (λm A outer st H vs Q E o h=>?_)
 .have yD:QF 1 _:=o;refine⟨_,(Qb (Qu (Qn Km (Ud (pv 0) (T 0) (T 61) (GN T) yD (T.B 68) .nil QP) (pv 1)) (Qd (Qk Ur)) Qq)
   (Qb (AO (pv 0) Qa Nk) (Qd (Qk Ur)))),?_⟩
  cases h with
  |yes R row p rs e c k=>
   subst e;obtain⟨dx,l,ps,n,b,d,hd,f,g,i⟩:=id c.ex;refine⟨_,U,R,dx,_,U,b,U,R,row,_,U,c,_,U,U,_,U,?_⟩;rw[Vg,qv (show hd1 (p::rs)=p from rfl)];refine QA ⟨_,U,R,_,dx,_,_,U,b,(T 0),(T 14),U,_,_,U,U,dx,_,b,(by show 3<1000;decide),?_⟩;exact k _ (KR.refl R H).upd (Yc.go b d hd f g i)
  |no R row p rs e c j k=>
   subst e;obtain⟨dx,l,ps,n,b,d,hd,f,g,i⟩:=id c.ex;refine⟨_,U,R,dx,_,U,b,U,R,row,_,U,c,_,U,U,_,U,?_⟩;rw[Vg,qr j];exact QI k
  |fin R row e c k=>
   subst e;obtain⟨dx,l,ps,n,b,d,hd,f,g,i⟩:=id c.ex;refine⟨_,U,R,dx,_,U,b,U,R,row,_,U,c,_,U,U,_,U,?_⟩;rw[Vg,qv (show hd1 []=("":qc) from rfl)];refine QA ⟨_,U,R,_,dx,_,_,U,b,(T 0),(T 14),U,_,_,U,U,dx,_,b,(by show 3<1000;decide),?_⟩;exact k _ (KR.refl R H).upd
theorem BR(T:Txt P w K mg base a fd):T.k (yZ P w) 3 71 (aS a):=by
 refine(T.F 71).kF (sc 71) (λvs H Q E h=>?_) (λm A outer st H vs Q E j h=>?_)
 .cases h with
  |yes R row p rs e=>rw[e];rfl
  |fin R row e=>rw[e];rfl
  |no R row p rs e=>rw[e];rfl
 .have c:QF 2 _:=j;have f:QF 1 _:=c.mono;refine⟨_,(Qd (Qu (Uj (Q5 (Q3 (pv 0) (T 0) (T 21) (Xv T) c (T.B 70) .nil QP (qV (pv 1) Qe)))) (Qb (Ql (i:=2) (sc 71).nd (Ud (pv 0) (T 0) (T 61) (GN T) f (T.B 68) .nil QP)) (Qd (Um (T 3) j.hd (UM (T 3) (T 11) (T 12) (Kp T) c rfl (T 8) (T.B 81) rfl (qV (AQ (Y2 (WJ (pv 1)) (Y2 Qf (Y2 (WJ (pv 2)) XZ)))) (qV (Qw (pv 0) U) Qe)))))) Qq)),?_⟩
  cases h with
  |yes R row p rs e b k=>
   subst e;obtain⟨dx,l,ps,n,d,_⟩:=id b.ex;exact⟨_,U,R,dx,_,U,d,U,_,U,.yes R row p rs rfl b λH' g o=>⟨_,U,QA (k H' g o)⟩⟩
  |fin R row e b k=>
   subst e;obtain⟨dx,l,ps,n,d,_⟩:=id b.ex;exact⟨_,U,R,dx,_,U,d,U,_,U,.fin R row rfl b λH' g=>⟨_,U,QA (k H' g)⟩⟩
  |no R row p rs e b g o q=>
   subst e;obtain⟨dx,l,ps,n,d,_⟩:=id b.ex;have r:=o.rp;have s:=(S6 b.pc).rp;refine⟨_,U,R,dx,_,U,d,U,_,U,.no R row p rs rfl b g ⟨_,U,QI ?_⟩⟩;refine⟨_,U,R,dx,_,U,d,U,R,row,rs,U,b,?_⟩;have t:(Str.ofString " is wanted, not ").length<=100:=by decide +kernel
   have u:Str.empty.length<=0:=qp _;refine⟨_,U,p,U,(by rw[zI];(try simp only[zp]);omega),_,U,(by rw[zI];(try simp only[zp]);omega),_,U,(by rw[zI];(try simp only[zp]);omega),_,U,_,U,(by rw[zI];(try simp only[zp]);omega),_,U,(by rw[zI];(try simp only[zp]);omega),(by rw[zI];(try simp only[zp]);omega),?_⟩;exact⟨_,U,R,_,dx,_,_,U,d,(T 0),(T 22),U,WE (KR.refl R H) b.rw q⟩
def Ux(x:qc):Bool:=decide (1<=x.length)&&(decide (x.length<=4)&&x.cps.toList.all λc=>decide (c∈("0123456789":qc).cps.toList))
def W8(x:qc):Int:=(PySem.NumText.digitsVal x.cps.toList:Nat)
def vk:qf->Option (qc×qf)
 |[]=>none
 |p::r=>if isW p=true then some (p,r) else none
def v9(lo hi:Int):qf->Option (Int×qf)
 |[]=>none
 |p::r=>if Ux p=true/\lo<=W8 p/\W8 p<=hi then some (W8 p,r) else none
def Nz:∀c∈("0123456789":qc).cps.toList,48<=c/\c<=57:=by decide +kernel
def F6(h:Ux x=true):PySem.intText? x=some (W8 x):=by
 unfold Ux at h;rw[qB,qB,qW,qW,zf] at h;have a:x.cps.toList.length=x.length:=qQ;refine PySem.intText_digits (λc hc=>Nz c (qM (h.2.2 c hc))) (λz=>?_) ⋯;rw[z] at a;have:=h.1;rw[<-a] at this;exact absurd this ∅
theorem IQ:∀l:qb Nat,(∀c∈l,48<=c/\c<=57)->l.length<=4->PySem.NumText.digitsVal l<=9999
 |[],_,_=>by decide
 |[a],h,_=>by have e:=h a (by simp);show 0*10+(a-48)<=9999;omega
 |[a,b],h,_=>by have e:=h a (by simp);have f:=h b (by simp);show(0*10+(a-48))*10+(b-48)<=9999;omega
 |[a,b,c],h,_=>by have e:=h a (by simp);have f:=h b (by simp);have g:=h c (by simp);show((0*10+(a-48))*10+(b-48))*10+(c-48)<=9999;omega
 |[a,b,c,d],h,_=>by have e:=h a (by simp);have f:=h b (by simp);have g:=h c (by simp);have i:=h d (by simp);show(((0*10+(a-48))*10+(b-48))*10+(c-48))*10+(d-48)<=9999;omega
 |_::_::_::_::_::r,_,h=>absurd h (by simp only[qw];omega)
theorem RQ(h:Ux x=true):0<=W8 x/\W8 x<=9999:=by
 unfold Ux at h;rw[qB,qB,qW,qW,zf] at h;have a:x.cps.toList.length=x.length:=qQ;have:=IQ x.cps.toList (λc hc=>Nz c (qM (h.2.2 c hc))) ⋯;unfold W8;omega
def F1(h0:0<=d)(a:d<=9999):d.natAbs.log2<1920:=by
 by_cases h:d.natAbs=0
 .rw[h];decide
 .exact qE ((Nat.log2_lt h).mpr (jC (show d.natAbs<=9999 by omega) (by decide:9999<2^14))) ∅
def pc0:KJ "":=⟨∅,λc hc=>nomatch hc⟩
theorem As(T:Txt P w K mg base a fd){row:V}{D:Uu}{p:qc}(h0:σ[0]?=some (some (.ref R)))(hi:σ[i]?=some (some (.str p)))(k:KR R H0 H1)(b:KI a H1 R row)(c:KJ p)(hm:msg.length<=100)(d:vm a E R row H0) :
 KQ (a 103) H0 E (Bw (a 103) (HC a) (WY (tFs (K9 (P8 (Eb i)) (K9 (tC (.str msg)) Ld))) (WY (Oo K (Eb 0) Zs) Cq))) D σ H1:=by
 have f:=c.rp;have g:Str.empty.length<=0:=qp _;obtain⟨dx,v1,v2,e⟩:=id b.ex;refine⟨_,hi,p,U,(by rw[zI];omega),_,U,(by rw[zI];(try simp only[zp]);omega),_,U,(by rw[zI];(try simp only[zp]);omega),(by rw[zI];(try simp only[zp]);omega),?_⟩;exact⟨_,h0,R,_,dx,_,_,U,e,(T 0),(T 22),U,WE k b d⟩
def Tq(T:Txt P w K mg base a fd){row:V}{D:Uu}(h0:σ[0]?=some (some (.ref R)))(k:KR R H0 H1)(b:KI a H1 R row)(c:vm a E R row H0) :
 KQ (a 103) H0 E (Bw (a 103) (HC a) (WY (tC (.str msg)) (WY (Oo K (Eb 0) Zs) Cq))) D σ H1:=by
 obtain⟨dx,v1,v2,d⟩:=id b.ex;exact⟨_,h0,R,_,dx,_,_,U,d,(T 0),(T 22),U,WE k b c⟩
theorem ck(T:Txt P w K mg base a fd){row:V}{D:Uu}{n:Int}(h0:σ[0]?=some (some (.ref R)))(hi:σ[i]?=some (some (.int n)))(k:KR R H0 H1)(c:KI a H1 R row)(b:0<=n/\n<=9999)(hm:msg.length<=100)(d:vm a E R row H0) :
 KQ (a 103) H0 E (Bw (a 103) (HC a) (WY (tFs (K9 (ar (Eb i)) (K9 (tC (.str msg)) Ld))) (WY (Oo K (Eb 0) Zs) Cq))) D σ H1:=by
 have f:Str.empty.length<=0:=qp _;have g:(Str.ofString (toString n)).length<=100:=qO (FY b.1 b.2) ∅;obtain⟨dx,v1,v2,e⟩:=id c.ex;refine⟨_,hi,.int n rfl (F1 b.1 b.2) ⟨_,U,(by rw[zI];(try simp only[zp]);omega),_,U,(by rw[zI];(try simp only[zp]);omega),(by rw[zI];(try simp only[zp]);omega),?_⟩⟩;exact⟨_,h0,R,_,dx,_,_,U,e,(T 0),(T 22),U,WE k c d⟩
inductive Fm(a:jT)(vs:qb V)(H:Hp)(Q:VK)(E:XK):Prop
 |mk:∀R row rs,vs=[.ref R]->Yc a H R row rs->(∀p r,vk rs=some (p,r)->∀H',KR R H H'->Yc a H' R row r->Q (.str p) H')->(vk rs=none->vm a E R row H)->Fm a vs H Q E
def aF(a:jT):Sp:=λvs H Q E=>Fm a vs H Q E
inductive Fo(a:jT)(vs:qb V)(H:Hp)(Q:VK)(E:XK):Prop
 |mk:∀R row rs (lo hi:Int),vs=[.ref R,.int lo,.int hi]->Yc a H R row rs->(∀n r,v9 lo hi rs=some (n,r)->∀H',KR R H H'->Yc a H' R row r->Q (.int n) H')->(v9 lo hi rs=none->vm a E R row H)->Fo a vs H Q E
def aI(a:jT):Sp:=λvs H Q E=>Fo a vs H Q E
def MG(T:Txt P w K mg base a fd):T.k (yZ P w) 3 72 (aF a):=by
 refine(T.F 72).kF (sc 72) (λvs H Q E h=>?_) (λm A outer st H vs Q E f h=>?_)
 .obtain⟨R,row,rs,rfl,_⟩:=h;rfl
 .obtain⟨R,row,rs,rfl,b,k,g⟩:=h;obtain⟨dx,l,ps,n,o,_⟩:=id b.ex;refine⟨_,(Qb (Ql (i:=1) (sc 72).nd (T.mn (pv 0) (T 0) (T 32) (KU T)))
   (Qb (Qu (Uj (Q5 (T.cl (X1 T) (qV (pv 1) Qe)))) (Qd (Um (T 3) f.hd (UM (T 3) (T 11) (T 12) (Kp T) f.up rfl (T 8) (T.B 81) rfl (qV (AQ (Y2 (WJ (pv 1)) (Y2 Qf XZ))) (qV (Qw (pv 0) U) Qe))))) Qq)
   (Qd (Qk (pv 1))))),?_⟩
  have pc:=b.pc;refine⟨_,U,R,dx,_,U,o,U,?_⟩
  cases rs with
  |nil=>
   refine .fin R row rfl b λH1 d e=>⟨_,U,.inl ⟨"",U,∅,λH2 s2=>⟨_,U,?_⟩⟩⟩;rw[show isW ""=false by decide +kernel];exact QI (As T rfl rfl (d.trans (KR.of s2)) (e.mono s2) ⟨∅,λc hc=>nomatch hc⟩ ∅ (g rfl))
  |cons p r=>
   have j:=(pc p qo).1;refine .mk R row p r rfl b λH1 d e=>⟨_,U,.inl ⟨p,U,j.1,λH2 s2=>⟨_,U,?_⟩⟩⟩
   cases z:isW p with
   |true=>exact QA ⟨_,U,k p r (qG z) H2 (d.trans (KR.of s2)) (e.mono s2)⟩
   |false=>exact QI (As T rfl rfl (d.trans (KR.of s2)) (e.rw.mono s2) j ∅ (g (qz (by rw[z];decide))))
theorem BQ(T:Txt P w K mg base a fd):T.k (yZ P w) 3 73 (aI a):=by
 refine(T.F 73).kF (sc 73) (λvs H Q E h=>?_) (λu A outer st H vs Q E f h=>?_)
 .obtain⟨R,row,rs,lo,hi,rfl,_⟩:=h;rfl
 .obtain⟨R,row,rs,lo,hi,rfl,g,k,e⟩:=h;obtain⟨dx,l,ps,m,v,_⟩:=id g.ex;refine⟨_,(Qb (Ql (i:=3) (sc 73).nd (T.mn (pv 0) (T 0) (T 32) (KU T)))
   (Qb (Qu (PW.pt (Wb (Uj (Gy Vu Vu Qa (Qv U0 rfl (T 2) zy (qV (pv 3) Qe)) (Yo rfl (T 107)))) (Wa (Uj (Q5 (T.cl (CU T) (qV (pv 3) (qV (Yo rfl (T 101)) Qe))))))))
     (Qd (Um (T 3) f.hd (UM (T 3) (T 11) (T 12) (Kp T) f.up rfl (T 8) (T.B 81) rfl (qV (AQ (Y2 (WJ (pv 3)) (Y2 Qf XZ))) (qV (Qw (pv 0) U) Qe))))) Qq)
   (Qb (Ql (i:=4) (sc 73).nd (Yr Aq rfl (T 17) boot_int (qV (pv 3) Qe)))
   (Qb (Qu (Uj (Gy Vu Vu (pv 1) (pv 4) (pv 2))) (Qd (Um (T 3) f.hd (UM (T 3) (T 11) (T 12) (Kp T) f.up rfl (T 8) (T.B 81) rfl (qV (AQ (Y2 (Su (pv 4)) (Y2 Qf XZ))) (qV (Qw (pv 0) U) Qe))))) Qq)
   (Qd (Qk (pv 4))))))),?_⟩
  have pc:=g.pc;refine⟨_,U,R,dx,_,U,v,U,?_⟩
  cases rs with
  |nil=>
   refine .fin R row rfl g λH1 b d=>?_;refine⟨_,U,"",U,∅,_,_,U,U,_,U,?_⟩;rw[show decide ((1:Int)<=((("":qc).length:Nat):Int))=false by decide +kernel];exact QA ⟨_,U,QI (As (D:={nx:=λ_ H'=>Q .non H',rt:=Q}) T rfl rfl b d pc0 ∅ (e rfl))⟩
  |cons p r=>
   have j:=(pc p qo).1;have x:=j.1;refine .mk R row p r rfl g λH1 b d=>?_;refine⟨_,U,p,U,(by rw[zI];omega),_,_,U,U,_,U,?_⟩;by_cases q:1<=p.length
   .rw[qv ⋯];refine QI ⟨_,_,U,U,_,U,?_⟩;by_cases s:p.length<=4
    .rw[qv ⋯];refine QA ⟨_,U,p,_,U,⋯,λH2 s2=>⟨_,U,?_⟩⟩
     cases z:(p.cps.toList.all λc=>decide (c∈("0123456789":qc).cps.toList)) with
     |false=>
      have zn:¬Ux p=true:=by unfold Ux;rw[z,vt,vt];decide
      exact QI (As (D:={nx:=λ_ H'=>Q .non H',rt:=Q}) T rfl rfl (b.trans (KR.of s2)) (d.rw.mono s2) j ∅ (e (qz λy=>zn y.1)))
     |true=>
      have zn:Ux p=true:=by unfold Ux;rw[z,qv q,qv s];rfl
      have t:=RQ zn;refine QA ⟨_,U,p,W8 p,U,⋯,F6 zn,?_⟩;refine⟨_,U,_,U,_,_,U,U,_,U,?_⟩;by_cases n:lo<=W8 p
      .rw[qv n];refine QI ⟨_,U,_,_,U,U,_,U,?_⟩;by_cases o:W8 p<=hi
       .rw[qv o];exact QA ⟨_,U,k _ r (qG ⟨zn,n,o⟩) H2 (b.trans (KR.of s2)) (d.mono s2)⟩
       .rw[qr o];exact QI (ck (D:={nx:=λ_ H'=>Q .non H',rt:=Q}) T rfl rfl (b.trans (KR.of s2)) (d.rw.mono s2) t ∅ (e (qz λy=>o y.2.2)))
      .rw[qr n];exact QA ⟨_,U,QI (ck (D:={nx:=λ_ H'=>Q .non H',rt:=Q}) T rfl rfl (b.trans (KR.of s2)) (d.rw.mono s2) t ∅ (e (qz λy=>n y.2.1)))⟩
    .rw[qr ⋯];have zn:¬Ux p=true:=by unfold Ux;rw[qr s];simp
     exact QI (As (D:={nx:=λ_ H'=>Q .non H',rt:=Q}) T rfl rfl b d.rw j ∅ (e (qz λy=>zn y.1)))
   .rw[qr ⋯];have zn:¬Ux p=true:=by unfold Ux;rw[qr q];simp
    exact QA ⟨_,U,QI (As (D:={nx:=λ_ H'=>Q .non H',rt:=Q}) T rfl rfl b d.rw j ∅ (e (qz λy=>zn y.1)))⟩
def mkB(p:qc):Tr:=if p="any" then .any else .ans
def mkW(p w:qc):Tr:=if p=Ze then .word w else if p=ZJ then .title w else if p=Zc then .frm w else if p=Zf then .inn w else .yK w
def dyF(x:Int×qf):Option (Tr×qf):=if hd1 x.2=Zp then (v9 0 9999 (x.2.drop 1)).map λy=>(.days x.1 y.1,y.2) else some (.days x.1 x.1,x.2)
def vg(p:qc)(r:qf):Option (Tr×qf):=
 if p∈(["any",Zl]:qf) then some (mkB p,r)
 else if p∈([Ze,ZJ,Zc,Zf,Zb]:qf) then (vk r).map λx=>(mkW p x.1,x.2)
 else if p=Zk then (v9 0 9999 r).bind dyF
 else if p=Zy then (v9 1 9999 r).map λx=>(.days 0 (x.1-1),x.2)
 else if p=Zz then (v9 0 9998 r).map λx=>(.days (x.1+1) 9999,x.2)
 else none
theorem Cm(h:isW x=true):QO x:=by
 unfold isW at h;rw[qB,qB,qW,qW,zf] at h;exact⟨by have:=h.1;omega,by have:=h.2.1;omega,λc hc=>qM (h.2.2 c hc)⟩
def Xj{p:qc}(h:vk rs=some (p,r)):rs=p::r/\isW p=true:=by
 cases rs with
 |nil=>cases h
 |cons q s=>
  have h:(if isW q=true then some (q,s) else none)=some (p,r):=h;split at h
  .rename_i z;injection h with h;injection h with a b;subst a b;exact⟨U,z⟩
  .cases h
def Wi{lo n:Int}(h:v9 lo hi rs=some (n,r)):∃p,rs=p::r/\Ux p=true/\n=W8 p/\lo<=n/\n<=hi:=by
 cases rs with
 |nil=>cases h
 |cons q s=>
  have h:(if Ux q=true/\lo<=W8 q/\W8 q<=hi then some (W8 q,s) else none)=some (n,r):=h;split at h
  .rename_i z;injection h with h;injection h with a b;subst a b;exact⟨q,U,z.1,U,z.2⟩
  .cases h
def aa{p:qc}(h:p∈(["any",Zl]:qf))(e:H q=some (.tup [.str p])):jD H q (mkB p):=by
 simp only[qy,q5,ji] at h;rcases h with rfl|rfl
 .exact .any e
 .exact .ans e
def T8{p:qc}(h:p∈([Ze,ZJ,Zc,Zf,Zb]:qf))(a:isW x=true)(e:H q=some (.tup [.str p,.str x])):jD H q (mkW p x):=by
 simp only[qy,q5,ji] at h;have w:=Cm a;rcases h with rfl|rfl|rfl|rfl|rfl
 .exact .word e w
 .exact .title e w
 .exact .frm e w
 .exact .inn e w
 .exact .yK e w
inductive BA(a:jT)(vs:qb V)(H:Hp)(Q:VK)(E:XK):Prop
 |mk:∀R row p rs,vs=[.ref R,.str p]->Yc a H R row rs->KJ p->(∀t rest,vg p rs=some (t,rest)->∀q H',KR R H H'->Yc a H' R row rest->jD H' q t->Q (.ref q) H')->(vg p rs=none->vm a E R row H)->BA a vs H Q E
 |fin:∀R row,vs=[.ref R,.str ""]->KI a H R row->vm a E R row H->BA a vs H Q E
def aJ(a:jT):Sp:=λvs H Q E=>BA a vs H Q E
def EI{p:qc}{xs:qf}(e:decide (p∈xs)=true)(h:A):if (if false=true then !inV (.str p) (xs.map V.str) else inV (.str p) (xs.map V.str))=true then A else B:=by
 have a:(if false=true then !inV (.str p) (xs.map V.str) else inV (.str p) (xs.map V.str))=true:=by rw[qz qS,YC,e]
 rw[qG a];exact h
def A3{p:qc}{xs:qf}(e:decide (p∈xs)=false)(h:B):if (if false=true then !inV (.str p) (xs.map V.str) else inV (.str p) (xs.map V.str))=true then A else B:=by
 have a:¬(if false=true then !inV (.str p) (xs.map V.str) else inV (.str p) (xs.map V.str))=true:=by rw[qz qS,YC,e];exact qS
 rw[qz a];exact h
def BC{y:qc}(h:decide (x=y)=false)(k:B):if decide (V.str x=V.str y)=true then A else B:=by
 rw[Gd,h];exact QA k
def Dw(k:A):if decide (V.str x=V.str x)=true then A else B:=by
 rw[qv rfl];exact QI k
theorem SG(T:Txt P w K mg base a fd):T.k (yZ P w) 4 74 (aJ a):=by
 obtain⟨SB,mB,hB⟩:=(T 111);obtain⟨X,mW,hW⟩:=(T 112);refine(T.F 74).kF (sc 74) (λvs H Q E h=>?_) (λcdv A outer st H vs Q E hr h=>?_)
 .cases h with
  |mk R row p rs e=>rw[e];rfl
  |fin R row e=>rw[e];rfl
 .have c:QF 3 _:=hr;have B:QF 2 _:=c.mono;have C:∀{H1:Hp}{R:qd}{row:V}{Y:qf},Yc a H1 R row Y->∃dx M,H1 R=some (.ins (a 106) dx M)/\M.lookup ("read_word":qc)=none/\M.lookup ("read_number":qc)=none/\M.lookup ("passes":qc)=none:=λr=>by
   obtain⟨dx,l,ps,m,e,_⟩:=r.ex;exact⟨dx,_,e,U,U,U⟩
  refine⟨_,(Qb (Qu (Qn Vv (pv 1) (Yo (v:=.ref SB) rfl ⟨_,mB,U⟩) (by with_unfolding_all rfl)) (Qd (Qk (QJ (Qc (pv 1) Qm)))) Qq)
   (Qb (Qu (Qn Vv (pv 1) (Yo (v:=.ref X) rfl ⟨_,mW,U⟩) (by with_unfolding_all rfl)) (Qd (Qk (QJ (Qc (pv 1) (Qc (Ud (pv 0) (T 0) (T 88) (MG T) c (T.B 72) .nil YL) Qm))))) Qq)
   (Qb (Qu (Qn QH (pv 1) Qf) (Qb (Ql (i:=2) (sc 74).nd (Q3 (pv 0) (T 0) (T 34) (BQ T) c (T.B 73) .nil YL (qV Qa (qV (Yo rfl (T 16)) Qe))))
     (Qb (Ql (i:=3) (sc 74).nd (Vt (Q5 (Q3 (pv 0) (T 0) (T 21) (Xv T) B (T.B 70) .nil QP (qV Qf Qe))) (Q3 (pv 0) (T 0) (T 34) (BQ T) c (T.B 73) .nil YL (qV Qa (qV (Yo rfl (T 16)) Qe))) (pv 2)))
     (Qd (Qk (QJ (Qc Qf (Qc (pv 2) (Qc (pv 3) Qm)))))))) Qq)
   (Qb (Qu (Qn QH (pv 1) Qf) (Qd (Qk (QJ (Qc Qf (Qc Qa (Qc (Qh Xc (Q3 (pv 0) (T 0) (T 34) (BQ T) c (T.B 73) .nil YL (qV Qa (qV (Yo rfl (T 16)) Qe))) Qa) Qm)))))) Qq)
   (Qb (Qu (Qn QH (pv 1) Qf) (Qd (Qk (QJ (Qc Qf (Qc (Qh QV (Q3 (pv 0) (T 0) (T 34) (BQ T) c (T.B 73) .nil YL (qV Qa (qV (Qh Xc (Yo rfl (T 16)) Qa) Qe))) Qa) (Qc (Yo rfl (T 16)) Qm)))))) Qq)
   (Qd (Um (T 3) hr.hd (UM (T 3) (T 11) (T 12) (Kp T) B rfl (T 8) (T.B 81) rfl (qV (AQ (Y2 (WJ (pv 1)) (Y2 Qf XZ))) (qV (Qw (pv 0) U) Qe)))))))))),?_⟩
  cases h with
  |fin R row e j d=>
   subst e;exact⟨_,U,SB,_,U,.inr (hB H),U,Q2 _,_,U,A3 ∅ ⟨_,U,X,_,U,.inr (hW H),U,Q2 _,_,U,A3 ∅ ⟨_,U,U,_,U,BC ∅ ⟨_,U,U,_,U,BC ∅ ⟨_,U,U,_,U,BC ∅ (As (D:={nx:=λ_ H'=>Q .non H',rt:=Q}) T rfl rfl (KR.refl R H) j pc0 ∅ d)⟩⟩⟩⟩⟩
  |mk R row p rs e j hp k d=>
   subst e;obtain⟨dx,l,ps,m,N,_⟩:=id j.ex;refine⟨_,U,SB,_,U,.inr (hB H),U,Q2 _,_,U,?_⟩;by_cases n:p∈(["any",Zl]:qf)
   .exact EI (qv n) ⟨_,U,Uv,λq H2 F s2 b=>k _ _ (qG n) q H2 (KR.of s2) (j.mono s2) (aa n b)⟩
   refine A3 (qr n) ⟨_,U,X,_,U,.inr (hW H),U,Q2 _,_,U,?_⟩;by_cases s:p∈([Ze,ZJ,Zc,Zf,Zb]:qf)
   .have t:vg p rs=(vk rs).map λx=>(mkW p x.1,x.2):=by unfold vg;rw[qz n,qG s]
    rw[t] at k d;refine EI (qv s) ⟨_,U,_,U,R,dx,_,U,N,U,R,row,rs,U,j,λx r hw H1 o g=>⟨U2,λq H2 F s2 b=>?_⟩,λhw=>d (by rw[hw];rfl)⟩;exact k _ _ (by rw[hw];rfl) q H2 (o.trans (KR.of s2)) (g.mono s2) (T8 s (Xj hw).2 b)
   refine A3 (qr s) ⟨_,U,U,_,U,?_⟩;by_cases G:p=Zk
   .subst G;have t:vg Zk rs=(v9 0 9999 rs).bind dyF:=by unfold vg;rw[qz n,qz s,qG rfl]
    rw[t] at k d;refine Dw ⟨_,U,R,dx,_,U,N,U,R,row,rs,0,9999,U,j,λx r b H1 o g=>?_,λb=>d (by rw[b];rfl)⟩;rw[b,zj] at k d;obtain⟨px,_,nx,ex,I,f⟩:=Wi b;obtain⟨d1,f1,J,z1,z2,Z⟩:=C g;by_cases O:hd1 r=Zp
    .cases r with
     |nil=>exact absurd O ∅
     |cons y r2=>
      obtain rfl:y=Zp:=O;refine⟨_,U,R,d1,_,U,J,Z,.yes R row Zp _ rfl g λH2 k2 L=>⟨_,U,QI ?_⟩⟩;obtain⟨d2,f2,eR2,z1,z2,Z⟩:=C L;refine⟨_,U,R,d2,_,U,eR2,z2,R,row,r2,0,9999,U,L,λy r3 S H3 k3 r3'=>?_,λS=>(d ((qG rfl).trans (Option.map_eq_none_iff.mpr S))).step (o.trans k2)⟩;obtain⟨py,_,ny,ey,ly,hy2⟩:=Wi S;exact⟨_,U,_,U,VS,λq u F s4 z=>k _ _ ((qG rfl).trans (q8 (Option.map _) S)) q u (((o.trans k2).trans k3).trans (KR.of s4)) (r3'.mono s4) (.days z ⟨I,f,ly,hy2⟩)⟩
    .refine⟨_,U,R,d1,_,U,J,Z,.no R row Zp _ rfl g O ⟨_,U,QA ⟨_,U,?_⟩⟩⟩;exact⟨_,U,_,U,VS,λq u F s4 z=>k _ _ (qz O) q u (o.trans (KR.of s4)) (g.mono s4) (.days z ⟨I,f,I,f⟩)⟩
   refine BC (qr G) ⟨_,U,U,_,U,?_⟩;by_cases J:p=Zy
   .subst J;have t:vg Zy rs=(v9 1 9999 rs).map λx=>(.days 0 (x.1-1),x.2):=by unfold vg;rw[qz n,qz s,qz G,qG rfl]
    rw[t] at k d;refine Dw ⟨_,U,R,dx,_,U,N,U,R,row,rs,1,9999,U,j,λx r b H1 o g=>?_,λb=>d (by rw[b];rfl)⟩;obtain⟨px,_,nx,ex,I,f⟩:=Wi b;exact⟨_,_,U,U,VS,λq u F s4 z=>k _ _ (by rw[b];rfl) q u (o.trans (KR.of s4)) (g.mono s4) (.days z ⟨⋯,⋯,⋯,⋯⟩)⟩
   refine BC (qr J) ⟨_,U,U,_,U,?_⟩;by_cases L:p=Zz
   .subst L;have t:vg Zz rs=(v9 0 9998 rs).map λx=>(.days (x.1+1) 9999,x.2):=by unfold vg;rw[qz n,qz s,qz G,qz J,qG rfl]
    rw[t] at k d;refine Dw ⟨_,U,R,dx,_,U,N,U,_,_,U,U,R,row,rs,0,9999-1,U,j,λx r b H1 o g=>?_,λb=>d (by rw[show(9998:Int)=9999-1 from rfl,b];rfl)⟩;obtain⟨px,_,nx,ex,I,f⟩:=Wi b;exact⟨_,_,U,U,VS,λq u F s4 z=>k _ _ (by rw[show(9998:Int)=9999-1 from rfl,b];rfl) q u (o.trans (KR.of s4)) (g.mono s4) (.days z ⟨⋯,⋯,⋯,⋯⟩)⟩
   exact BC (qr L) (As (D:={nx:=λ_ H'=>Q .non H',rt:=Q}) T rfl rfl (KR.refl R H) j.rw hp ∅ (d (by unfold vg;rw[qz n,qz s,qz G,qz J,qz L])))
theorem PB(t:Tr):(1:Int)+mxd 0 ((R4 t).map λu=>(u.dp:Int)+1)=(t.dp:Int)+1:=by
 cases t with
 |nt u=>show(1:Int)+((u.dp:Int)+1)=((u.dp+1:Nat):Int)+1;omega
 |thr u=>show(1:Int)+((u.dp:Int)+1)=((u.dp+1:Nat):Int)+1;omega
 |jN u v=>show(1:Int)+max ((u.dp:Int)+1) ((v.dp:Int)+1)=((max u.dp v.dp+1:Nat):Int)+1;omega
 |jL u v=>show(1:Int)+max ((u.dp:Int)+1) ((v.dp:Int)+1)=((max u.dp v.dp+1:Nat):Int)+1;omega
 |any=>rfl
 |ans=>rfl
 |word _=>rfl
 |title _=>rfl
 |frm _=>rfl
 |days _ _=>rfl
 |inn _=>rfl
 |yK _=>rfl
def kdp(k:V×Option Tr):V:=match k.2 with
 |none=>.int 0
 |some u=>.int ((u.dp:Int)+1)
def BY:∀ks:qb (V×Option Tr),(ks.filter λk=>k.2.isSome).map kdp=((ks.filterMap (·.2)).map λu=>(u.dp:Int)+1).map V.int
 |[]=>rfl
 |(v,none)::ks=>BY ks
 |(v,some u)::ks=>by
  show kdp (v,some u)::(ks.filter λk=>k.2.isSome).map kdp=V.int ((u.dp:Int)+1)::((ks.filterMap (·.2)).map λu=>(u.dp:Int)+1).map V.int;rw[BY ks];rfl
inductive LD(n:Nat)(vs:qb V)(H:Hp)(Q:VK)(E:XK):Prop
 |mk:∀p t,vs=[.ref p]->jD H p t->t.dp<n->(∀H',Qi H H'->Q (.int ((t.dp:Int)+1)) H')->LD n vs H Q E
theorem FW(T:Txt P w K mg base a fd):∀n,T.k jx (n+1) 10 (LD n)
 |0=>by
  refine T.ok 10 (λi A outer st H vs Q E o h=>?_) (λvs H Q E h=>by obtain⟨p,t,rfl,_⟩:=h;rfl)
  .obtain⟨p,t,_,_,h,_⟩:=h;exact absurd h (yJ _)
 |n+1=>by
  refine T.ok 10 (λi A outer st H vs Q E o h=>?_) (λvs H Q E h=>by obtain⟨p,t,rfl,_⟩:=h;rfl);obtain⟨p,t,rfl,tt,hd,k⟩:=h;have w4:QF (n+1) _:=o;refine⟨_,(Qd (Qk (Qh QV Qa (OP rfl rfl (T 71) (WK (sc:=Qr (sO 10)) (N:=(nn 10)) (fr:=[]) (wO rfl rfl) rfl rfl rfl (GB (QT Fy (pv 0) (QR Qa) Yn)) (λ_ _ _ _=>BI (Q5 (Qv (B7 K) rfl (T 4) boot_isinstance (qV (pv 0) (qV (UJ (v:=.ty "tuple") rfl (T 25) boot_tuple rfl) Qe))))) (λ_ _ _ _=>(Q7 (FW T n) w4 rfl (T 96) (T.F 10).kp (T.B 10) .nil QP (qV (pv 0) Qe)))))))),?_⟩;obtain⟨ks,e,C,c,hm⟩:=tt.kids;refine⟨_,U,_,U,p,_,U,e,λq H1 s1 e1=>?_⟩;rw[IW] at e1;refine⟨q,U,⟨_,zu.of e1⟩,EO (xs:=ks) (λk=>k.1) (λk=>k.2.isSome) kdp (Yj (⋯)) (zu.of e1) (λd g Q' j s3 f=>?_) (λd g Q' j s3 x f=>?_) λD H2 F s2 s=>?_⟩
  .have b:=(hm d j).mono (s1.trans s3);obtain⟨v,l⟩:=d
   cases l with
   |none=>
    rcases b with⟨y,rfl⟩|⟨y,rfl⟩
    .exact⟨_,U,_,_,_,_,_,U,U,Uw.str _,Rw,_,U,f g (Qi.refl _)⟩
    .exact⟨_,U,_,_,_,_,_,U,U,Uw.int _,Rx,_,U,f g (Qi.refl _)⟩
   |some u=>
    obtain⟨r,rfl,m,_⟩:=b;obtain⟨z,B,_⟩:=m.kids;exact⟨_,U,_,_,_,_,_,U,U,Uw.tup B,Rv,_,U,f g (Qi.refl _)⟩
  .have b:=(hm d j).mono (s1.trans s3);obtain⟨v,l⟩:=d
   cases l with
   |none=>cases x
   |some u=>
    obtain⟨r,rfl,m,z,_⟩:=b;exact⟨_,U,r,u,U,m,⋯,λB s4=>f B s4⟩
  .rw[BY,<-c] at s;refine⟨D,_,U,zm.of s,_,_,U,U,?_⟩;rw[PB];exact k H2 (s1.trans s2)
inductive Ft(a:jT)(vs:qb V)(H:Hp)(Q:VK)(E:XK):Prop
 |mk:∀R row p t,vs=[.ref R,.ref p]->KI a H R row->jD H p t->t.dp<=30->(t.dp<30->∀H',Qi H H'->Q (.ref p) H')->(¬t.dp<30->vm a E R row H)->Ft a vs H Q E
def aT(a:jT):Sp:=λvs H Q E=>Ft a vs H Q E
theorem Ex(T:Txt P w K mg base a fd):T.k (yZ P w) 33 75 (aT a):=by
 refine(T.F 75).kF (sc 75) (λvs H Q E h=>?_) (λc A outer st H vs Q E b h=>?_)
 .obtain⟨R,row,p,t,rfl,_⟩:=h;rfl
 .obtain⟨R,row,p,t,rfl,d,e,hd,k,f⟩:=h;refine⟨_,(Qb (Qu (Qn W0 (T.cl (FW T 31) (qV (pv 1) Qe)) (Yo rfl (T 108))) (Qd (Um (T 3) b.hd (UM (T 3) (T 11) (T 12) (Kp T) b.up rfl (T 8) (T.B 81) rfl (qV Qf (qV (Qw (pv 0) U) Qe))))) Qq) (Qd (Qk (pv 1)))),?_⟩;refine⟨_,U,p,t,U,e,⋯,λH1 s1=>⟨_,_,U,U,_,U,?_⟩⟩;by_cases z:t.dp<30
  .rw[qr ⋯];exact QA ⟨_,U,k z H1 s1⟩
  .rw[qv ⋯];exact QI (Tq (D:={nx:=λ_ H'=>Q .non H',rt:=Q}) T rfl (KR.of s1) (d.mono s1) (f z))
def vC(w:qc)(mk:Tr->Tr->Tr)(S:qf->Option (Tr×qf)):Nat->Tr->qf->Option (Tr×qf)
 |0,t,rs=>if hd1 rs=w then none else some (t,rs)
 |n+1,t,rs=>if hd1 rs=w then (S (rs.drop 1)).bind (λx=>if (mk t x.1).dp<30 then vC w mk S n (mk t x.1) x.2 else none) else some (t,rs)
def wb(S:qf->Option (Tr×qf))(rs:qf):Option (Tr×qf):=(S rs).bind λx=>vC Zo .jN S x.2.length x.1 x.2
def wz(S:qf->Option (Tr×qf))(rs:qf):Option (Tr×qf):=(S rs).bind λx=>vC Zr .jL S x.2.length x.1 x.2
def v8(S:qf->Option (Tr×qf)):qf->Option (Tr×qf):=wz (wb S)
def clF(x:Tr×qf):Option (Tr×qf):=if hd1 x.2=")" then some (x.1,x.2.drop 1) else none
def gT(p:qc)(t:Tr):Tr:=if p=Zn then .nt t else .thr t
def ntF(p:qc)(x:Tr×qf):Option (Tr×qf):=if (gT p x.1).dp<30 then some (gT p x.1,x.2) else none
def ki(p:qc):Nat:=if p=ZZ then 1 else 0
def sF:Nat->Nat->qf->Option (Tr×qf)
 |0,_,_=>none
 |_+1,_,[]=>none
 |m+1,a,p::r=>
  if p∈(["(",Zn,ZZ]:qf) then
   if m=0\/2<a+ki p then none
   else if p="(" then (v8 (sF m (a+ki p)) r).bind clF
   else (sF m (a+ki p) r).bind (ntF p)
  else vg p r
structure WA(S:qf->Option (Tr×qf)):Prop where
 shr:∀{rs t rest},S rs=some (t,rest)->rest.length<=rs.length
 low:∀{rs t rest},S rs=some (t,rest)->t.dp<30
theorem Wy{w:qc}{mk:Tr->Tr->Tr}{S:qf->Option (Tr×qf)}(g:WA S):∀{n t rs t' rest},t.dp<30->vC w mk S n t rs=some (t',rest)->rest.length<=rs.length/\t'.dp<30
 |0,t,rs,t',rest,hd,h=>by
  unfold vC at h;split at h
  .cases h
  .injection h with h;injection h with b a;subst b a;exact⟨qp _,hd⟩
 |n+1,t,rs,t',rest,hd,h=>by
  unfold vC at h;split at h
  .obtain⟨x,b,a⟩:=zq.mp h;split at a
   .rename_i z
    have c:=Wy g z a;have d:=g.shr b;rw[qZ] at d;exact⟨by have:=c.1;omega,c.2⟩
   .cases a
  .injection h with h;injection h with b a;subst b a;exact⟨qp _,hd⟩
theorem Vs(g:WA S):WA (wb S) where
 shr:=λh=>by
  obtain⟨x,a,b⟩:=zq.mp h;have:=(Wy g (g.low a) b).1;have:=g.shr a;omega
 low:=λh=>by
  obtain⟨x,a,b⟩:=zq.mp h;exact(Wy g (g.low a) b).2
def Gr(g:WA S):WA (wz S) where
 shr:=λh=>by
  obtain⟨x,a,b⟩:=zq.mp h;have:=(Wy g (g.low a) b).1;have:=g.shr a;omega
 low:=λh=>by
  obtain⟨x,a,b⟩:=zq.mp h;exact(Wy g (g.low a) b).2
theorem M5{p:qc}(h:vg p r=some (t,rest)):rest.length<=r.length/\t.dp=0:=by
 have g:∀{x:qc×qf},vk r=some x->x.2.length<=r.length:=λ{x} d=>by
  obtain⟨e,_⟩:=Xj (p:=x.1) (r:=x.2) d;rw[e,qw];omega
 have nm:∀{lo hi:Int}{r:qf}{x:Int×qf},v9 lo hi r=some x->x.2.length<=r.length:=λ{lo hi r x} d=>by
  obtain⟨p,e,_⟩:=Wi (n:=x.1) (r:=x.2) d;rw[e,qw];omega
 unfold vg at h;split at h
 .injection h with h;injection h with b a;subst b a;exact⟨qp _,by unfold mkB;split<;>rfl⟩
 .split at h
  .obtain⟨x,b,a⟩:=zB.mp h
   injection a with a c;subst a c
   exact⟨g b,by unfold mkW;repeat' (first|rfl|split)⟩
  .split at h
   .obtain⟨x,b,a⟩:=zq.mp h;have i:=nm b;unfold dyF at a;split at a
    .obtain⟨y,c,f⟩:=zB.mp a
     injection f with f j;subst f j
     have k:=nm c;rw[qZ] at k;exact⟨⋯,U⟩
    .injection a with a;injection a with a c;subst a c;exact⟨i,U⟩
   .split at h
    .obtain⟨x,b,a⟩:=zB.mp h
     injection a with a c;subst a c;exact⟨nm b,U⟩
    .split at h
     .obtain⟨x,b,a⟩:=zB.mp h
      injection a with a c;subst a c;exact⟨nm b,U⟩
     .cases h
theorem Uq:∀m b,WA (sF m b)
 |0,_=>⟨nofun,nofun⟩
 |m+1,b=>by
  have key:∀{rs t rest},sF (m+1) b rs=some (t,rest)->rest.length<=rs.length/\t.dp<30:=λ{rs t rest} h=>by
   cases rs with
   |nil=>cases h
   |cons p r=>
    unfold sF at h;split at h
    .split at h
     .cases h
     .split at h
      .obtain⟨x,c,a⟩:=zq.mp h;have g:=Gr (Vs (Uq m (b+ki p)));have e:=g.shr c;have f:=g.low c;unfold clF at a;split at a
       .injection a with a;injection a with a d;subst a d
        refine⟨?_,f⟩;rw[qZ,qw];omega
       .cases a
      .obtain⟨x,c,a⟩:=zq.mp h;have e:=(Uq m (b+ki p)).shr c;unfold ntF at a;split at a
       .rename_i z
        injection a with a;injection a with a d;subst a d
        exact⟨by rw[qw];omega,z⟩
       .cases a
    .have:=M5 h;exact⟨by rw[qw];omega,⋯⟩
  exact⟨λh=>(key h).1,λh=>(key h).2⟩
def Yc.at{row:V}(r:Yc a H R row rs):∃dx b,H R=some (.ins (a 106) dx b)/\b.lookup ("passes":qc)=none/\b.lookup ("checked":qc)=none/\b.lookup ("read_single":qc)=none/\b.lookup ("read_both":qc)=none/\b.lookup ("read_either":qc)=none/\b.lookup ("read_leaf":qc)=none/\b.lookup ("expect":qc)=none/\b.lookup ("step":qc)=none/\b.lookup ("read_whole":qc)=none:=by
 obtain⟨dx,l,ps,m,e,_⟩:=r.ex;exact⟨dx,_,e,U,U,U,U,U,U,U,U,U⟩
def V8(H:Hp)(R:qd):Nat:=match H R with
 |some (.ins _ _ [(_,.ref l),(_,.int k),_])=>(match H l with|some (.lst xs)=>xs.length-k.toNat|_=>0)
 |_=>0
def Yc.rem{row:V}(h:Yc a H R row rs):V8 H R=rs.length:=by
 obtain⟨dx,l,ps,k,b,c,hd,d,_⟩:=h.ex;unfold V8;rw[b];show(match H l with|some (.lst xs)=>xs.length-(k:Int).toNat|_=>0)=_;rw[c,<-hd];show(ps.map V.str).length-(k:Int).toNat=_;rw[qi,qZ,jr]
def Uc.mono{vs:qb V}{Q':VK}(h:Uc a vs H Q)(k:∀v H',Q v H'->Q' v H'):Uc a vs H Q':=by
 cases h with
 |yes R row p rs e r q=>exact .yes R row p rs e r λH' b c=>k _ _ (q H' b c)
 |no R row p rs e r n q=>exact .no R row p rs e r n (k _ _ q)
 |fin R row e r q=>exact .fin R row e r λH' b=>k _ _ (q H' b)
inductive Lz(a:jT)(c:Prop)(S:qf->Option (Tr×qf))(w th:Int)(vs:qb V)(H:Hp)(Q:VK)(E:XK):Prop
 |mk:∀R row rs,c->vs=[.ref R,.int w,.int th]->Yc a H R row rs->(∀t rest,S rs=some (t,rest)->∀q H',KR R H H'->Yc a H' R row rest->jD H' q t->Q (.ref q) H')->(S rs=none->vm a E R row H)->Lz a c S w th vs H Q E
def HA(a:jT)(c:Prop)(S:qf->Option (Tr×qf))(w b:Int):Sp:=λvs H Q E=>Lz a c S w b vs H Q E
def X9{w:qc}(h:hd1 rs=w)(hw:w≠""):rs=w::rs.drop 1:=by
 cases rs with
 |nil=>exact absurd h.symm hw
 |cons p r=>rw[show p=w from h];rfl
theorem FX{c:Prop}{k:Nat}{D F:Int}(T:Txt P w K mg base a fd)(hk:33<=k)(I:WA S)(G:T.k (yZ P w) k 76 (HA a c S D F)):T.k (yZ P w) (k+1) 77 (HA a c (wb S) D F):=by
 refine(T.F 77).kF (sc 77) (λvs H Q E h=>?_) (λcdv A outer st H vs Q E hr h=>?_)
 .obtain⟨R,row,rs,hc,rfl,_⟩:=h;rfl
 .obtain⟨R,row,rs,hc,rfl,hR,kk,J⟩:=h;have d:QF k _:=hr;have L:QF 2 _:=d.mono ⋯;have l:QF 33 _:=d.mono hk;refine⟨_,(Qb (Ql (i:=3) (sc 77).nd (Q3 (pv 0) (T 0) (T 63) G d (T.B 76) .nil YL (qV (pv 1) (qV (pv 2) Qe))))
   (Qb (Wc kY (Q5 (Q3 (pv 0) (T 0) (T 21) (Xv T) L (T.B 70) .nil QP (qV Qf Qe))) (Qd (Ql (i:=3) (sc 77).nd (Q3 (pv 0) (T 0) (T 62) (Ex T) l (T.B 75) .nil YL (qV (QJ (Qc Qf (Qc (pv 3) (Qc (Q3 (pv 0) (T 0) (T 63) G d (T.B 76) .nil YL (qV (pv 1) (qV (pv 2) Qe))) Qm)))) Qe)))))
   (Qd (Qk (pv 3))))),?_⟩
  obtain⟨dx,fs,eR,z1,z2,z3,z4,z5,z6,z7,z8,z9⟩:=hR.at
  refine⟨_,U,R,dx,_,U,eR,z3,_,U,_,U,R,row,rs,hc,U,hR,λt0 M s0 q0 H1 k1 r1 N=>?_,λs0=>J (by unfold wb;rw[s0];rfl)⟩;have e0:wb S rs=vC Zo .jN S M.length t0 M:=by unfold wb;rw[s0];rfl
  refine VX (λσ H2=>∃q t1 b n,σ=[some (.ref R),some (.int D),some (.int F),some (.ref q)]/\KR R H H2/\Yc a H2 R row b/\jD H2 q t1/\t1.dp<30/\b.length<=n/\wb S rs=vC Zo .jN S n t1 b) (λσ H2=>V8 H2 R) ⟨q0,t0,M,_,U,k1,r1,N,I.low s0,qp _,e0⟩ ?_ ?_
  .rintro σ H2 ⟨q,t1,b,n,rfl,B,g,m,d2,l2,b2⟩;obtain⟨o,fs2,p,y1,y2,y3,_⟩:=g.at
   by_cases r:hd1 b=Zo
   .have O:=X9 r ∅
    cases n with
    |zero=>rw[O,qw] at l2;exact absurd l2 ⋯
    |succ n=>
     have j:wb S rs=(S (b.drop 1)).bind (λx=>if (Tr.jN t1 x.1).dp<30 then vC Zo .jN S n (.jN t1 x.1) x.2 else none):=by rw[b2];exact qG r
     rw[O] at g;refine⟨_,U,R,o,_,U,p,y1,.yes R row Zo _ rfl g λH3 C V=>⟨_,U,QI ?_⟩⟩;obtain⟨t,fs3,y,x1,x2,x3,_⟩:=V.at
     have X:=m.kr g C;refine⟨_,U,R,t,_,U,y,x2,_,U,_,U,R,t,_,U,y,x3,_,U,_,U,R,row,_,hc,U,V,λu r' s q2 H4 Y r4 Z=>⟨VS,λq3 H5 nq s5 e5=>?_⟩,λs=>(J (by rw[j,s];rfl)).step (B.trans C)⟩;rw[s,zj] at j;have du:=I.low s;have z:jD H5 q3 (.jN t1 u):=.jN e5 ((X.kr V Y).mono s5) (Z.mono s5);refine⟨R,row,q3,_,U,(r4.mono s5).rw,z,(by show max t1.dp u.dp+1<=30;omega),λf H6 s6=>?_,λf=>(J (by rw[j];exact qz f)).step (((B.trans C).trans Y).trans (KR.of s5))⟩;have r6:=(r4.mono s5).mono s6;have l4:=I.shr s;have l1:(b.drop 1).length+1=b.length:=by
      have:=q8 List.length O;rw[qw] at this;exact this.symm
     refine⟨⟨q3,_,_,n,U,((B.trans C).trans Y).trans (KR.of (s5.trans s6)),r6,z.mono s6,f,⋯,by rw[j];exact qG f⟩,?_⟩;show V8 H6 R<V8 H2 R;rw[r6.rem,g.rem,qw];omega
   .have j:wb S rs=some (t1,b):=by
     rw[b2]
     cases n with
     |zero=>exact qz r
     |succ n=>exact qz r
    exact⟨_,U,R,o,_,U,p,y1,.no R row Zo _ rfl g r ⟨_,U,QA ⟨_,U,kk t1 b j q H2 B g m⟩⟩⟩
  .rintro σ H3 r t j ⟨x,e,a1,f,g,e1,m,o,h⟩;exact⟨x,e,a1,f,g,e1,m,o,Uc.mono h λv H' ⟨c,p,q⟩=>⟨c,p,j _ _ q⟩⟩
def FV{c:Prop}{k:Nat}{D F:Int}(T:Txt P w K mg base a fd)(hk:33<=k)(I:WA S)(G:T.k (yZ P w) k 77 (HA a c S D F)):T.k (yZ P w) (k+1) 78 (HA a c (wz S) D F):=by
 refine(T.F 78).kF (sc 78) (λvs H Q E h=>?_) (λcdv A outer st H vs Q E hr h=>?_)
 .obtain⟨R,row,rs,hc,rfl,_⟩:=h;rfl
 .obtain⟨R,row,rs,hc,rfl,hR,kk,J⟩:=h;have d:QF k _:=hr;have L:QF 2 _:=d.mono ⋯;have l:QF 33 _:=d.mono hk;refine⟨_,(Qb (Ql (i:=3) (sc 78).nd (Q3 (pv 0) (T 0) (T 89) G d (T.B 77) .nil YL (qV (pv 1) (qV (pv 2) Qe))))
   (Qb (Wc kY (Q5 (Q3 (pv 0) (T 0) (T 21) (Xv T) L (T.B 70) .nil QP (qV Qf Qe))) (Qd (Ql (i:=3) (sc 78).nd (Q3 (pv 0) (T 0) (T 62) (Ex T) l (T.B 75) .nil YL (qV (QJ (Qc Qf (Qc (pv 3) (Qc (Q3 (pv 0) (T 0) (T 89) G d (T.B 77) .nil YL (qV (pv 1) (qV (pv 2) Qe))) Qm)))) Qe)))))
   (Qd (Qk (pv 3))))),?_⟩
  obtain⟨dx,fs,eR,z1,z2,z3,z4,z5,z6,z7,z8,z9⟩:=hR.at
  refine⟨_,U,R,dx,_,U,eR,z4,_,U,_,U,R,row,rs,hc,U,hR,λt0 M s0 q0 H1 k1 r1 N=>?_,λs0=>J (by unfold wz;rw[s0];rfl)⟩;have e0:wz S rs=vC Zr .jL S M.length t0 M:=by unfold wz;rw[s0];rfl
  refine VX (λσ H2=>∃q t1 b n,σ=[some (.ref R),some (.int D),some (.int F),some (.ref q)]/\KR R H H2/\Yc a H2 R row b/\jD H2 q t1/\t1.dp<30/\b.length<=n/\wz S rs=vC Zr .jL S n t1 b) (λσ H2=>V8 H2 R) ⟨q0,t0,M,_,U,k1,r1,N,I.low s0,qp _,e0⟩ ?_ ?_
  .rintro σ H2 ⟨q,t1,b,n,rfl,B,g,m,d2,l2,b2⟩;obtain⟨o,fs2,p,y1,y2,y3,_⟩:=g.at
   by_cases r:hd1 b=Zr
   .have O:=X9 r ∅
    cases n with
    |zero=>rw[O,qw] at l2;exact absurd l2 ⋯
    |succ n=>
     have j:wz S rs=(S (b.drop 1)).bind (λx=>if (Tr.jL t1 x.1).dp<30 then vC Zr .jL S n (.jL t1 x.1) x.2 else none):=by rw[b2];exact qG r
     rw[O] at g;refine⟨_,U,R,o,_,U,p,y1,.yes R row Zr _ rfl g λH3 C V=>⟨_,U,QI ?_⟩⟩;obtain⟨t,fs3,y,x1,x2,_,x3,_⟩:=V.at
     have X:=m.kr g C;refine⟨_,U,R,t,_,U,y,x2,_,U,_,U,R,t,_,U,y,x3,_,U,_,U,R,row,_,hc,U,V,λu r' s q2 H4 Y r4 Z=>⟨VS,λq3 H5 nq s5 e5=>?_⟩,λs=>(J (by rw[j,s];rfl)).step (B.trans C)⟩;rw[s,zj] at j;have du:=I.low s;have z:jD H5 q3 (.jL t1 u):=.jL e5 ((X.kr V Y).mono s5) (Z.mono s5);refine⟨R,row,q3,_,U,(r4.mono s5).rw,z,(by show max t1.dp u.dp+1<=30;omega),λf H6 s6=>?_,λf=>(J (by rw[j];exact qz f)).step (((B.trans C).trans Y).trans (KR.of s5))⟩;have r6:=(r4.mono s5).mono s6;have l4:=I.shr s;have l1:(b.drop 1).length+1=b.length:=by
      have:=q8 List.length O;rw[qw] at this;exact this.symm
     refine⟨⟨q3,_,_,n,U,((B.trans C).trans Y).trans (KR.of (s5.trans s6)),r6,z.mono s6,f,⋯,by rw[j];exact qG f⟩,?_⟩;show V8 H6 R<V8 H2 R;rw[r6.rem,g.rem,qw];omega
   .have j:wz S rs=some (t1,b):=by
     rw[b2]
     cases n with
     |zero=>exact qz r
     |succ n=>exact qz r
    exact⟨_,U,R,o,_,U,p,y1,.no R row Zr _ rfl g r ⟨_,U,QA ⟨_,U,kk t1 b j q H2 B g m⟩⟩⟩
  .rintro σ H3 r t j ⟨x,e,a1,f,g,e1,m,o,h⟩;exact⟨x,e,a1,f,g,e1,m,o,Uc.mono h λv H' ⟨c,p,q⟩=>⟨c,p,j _ _ q⟩⟩
def Y6.ex{b:vj}{k:Nat}{f:qd}{fd:FuncData}{a:Nat->Sp}(G:∀i,Y6 P w K mg base b k f fd ps (a i)):Y6 P w K mg base b k f fd ps (λvs H Q E=>∃i,a i vs H Q E):=
 ⟨λvs H Q E ⟨i,h⟩=>(G i).len vs H Q E h,λA outer s H args us vs Q E c d e r ⟨i,h⟩=>(G i).run A outer s H args us vs Q E c d e r h⟩
def O7{p:qc}{xs:qf}(e:decide (p∈xs)=true)(h:B):if (if true=true then !inV (.str p) (xs.map V.str) else inV (.str p) (xs.map V.str))=true then A else B:=by
 have a:¬(if true=true then !inV (.str p) (xs.map V.str) else inV (.str p) (xs.map V.str))=true:=by rw[qG rfl,YC,e];exact qS
 rw[qz a];exact h
def MX{p:qc}{xs:qf}(e:decide (p∈xs)=false)(h:A):if (if true=true then !inV (.str p) (xs.map V.str) else inV (.str p) (xs.map V.str))=true then A else B:=by
 have a:(if true=true then !inV (.str p) (xs.map V.str) else inV (.str p) (xs.map V.str))=true:=by rw[qG rfl,YC,e];rfl
 rw[qG a];exact h
def T9{z:qd}{p:qc}(h:p∈(["(",Zn,ZZ]:qf))(b:p≠"(")(e:H q=some (.tup [.str p,.ref z]))(a:jD H z u):jD H q (gT p u):=by
 simp only[qy,q5,ji] at h;rcases h with rfl|rfl|rfl
 .exact absurd rfl b
 .exact .nt e a
 .exact .thr e a
def bV{p:qc}(h:Q (.int ((ki p:Nat):Int)) H):if decide (V.str p=V.str ZZ)=true then tC (.int 1) σ H Q else tC (.int 0) σ H Q:=by
 by_cases z:p=ZZ
 .subst z;exact Dw h
 .refine BC (qr z) ?_;have:ki p=0:=qz z;rw[this] at h;exact h
def M3(p:qc)(u:Tr):(gT p u).dp=u.dp+1:=by unfold gT;split<;>rfl
theorem FR(T:Txt P w K mg base a fd):∀(m b:Nat),T.k (yZ P w) (3*m+40) 76 (HA a (m≠0) (sF m b) (41-(m:Int)) (b:Int))
 |0,b=>⟨λvs H Q E h=>(by obtain⟨R,row,rs,hc,_⟩:=h;exact absurd rfl hc),λA outer s H args us vs Q E O c d r h=>(by obtain⟨R,row,rs,hc,_⟩:=h;exact absurd rfl hc)⟩
 |m+1,b=>by
  have G:=λb=>FR T m b;have Gb:=λb=>FX (k:=3*m+40) T ⋯ (Uq m b) (G b);have Ge:=λb=>FV (k:=3*m+40+1) T ⋯ (Vs (Uq m b)) (Gb b);have GA:=Y6.ex G;have GE:=Y6.ex Ge;obtain⟨S,mO,hO⟩:=(T 113);refine(T.F 76).kF (k:=3*m+40+1+1) (sc 76) (λvs H Q E h=>?_) (λcdv A outer st H vs Q E O h=>?_)
  .obtain⟨R,row,rs,hc,rfl,_⟩:=h;rfl
  .obtain⟨R,row,rs,hc,rfl,M,x,c⟩:=h;have d:QF (3*m+40+1+1) _:=O;have X:QF (3*m+40) _:=d.mono ⋯;have C:QF 2 _:=d.mono ⋯;have Y:QF 3 _:=d.mono ⋯;have Z:QF 4 _:=d.mono ⋯;have F:QF 33 _:=d.mono ⋯;refine⟨_,(Qb (Ql (i:=3) (sc 76).nd (Ud (pv 0) (T 0) (T 32) (KU T) C (T.B 69) .nil QP))
    (Qb (Qu (Qn UY (pv 3) (Yo (v:=.ref S) rfl ⟨_,mO,U⟩) (by with_unfolding_all rfl)) (Qd (Qk (Q3 (pv 0) (T 0) (T 185) (SG T) Z (T.B 74) .nil YL (qV (pv 3) Qe)))) Qq)
    (Qb (Mc (i:=1) (sc 76).nd U (Or.inl U) Qa Nj)
    (Qb (Mc (i:=2) (sc 76).nd U (Or.inl U) (Vt (Qn QH (pv 3) Qf) Qa Qa) Nj)
    (Qb (Qu (PW.pt (Wb (Qn W0 (pv 1) (Yo rfl (T 109))) (Wa (Qn W0 (pv 2) (Yo rfl (T 110)))))) (Qd (Um (T 3) O.hd (UM (T 3) (T 11) (T 12) (Kp T) C rfl (T 8) (T.B 81) rfl (qV Qf (qV (Qw (pv 0) U) Qe))))) Qq)
    (Qb (Qu (Qn Km (pv 3) Qf) (Qd (Qk (Q3 (pv 0) (T 0) (T 62) (Ex T) F (T.B 75) .nil YL (qV (QJ (Qc (pv 3) (Qc (Q3 (pv 0) (T 0) (T 63) GA X (T.B 76) .nil YL (qV (pv 1) (qV (pv 2) Qe))) Qm))) Qe)))) Qq)
    (Qb (Ql (i:=4) (sc 76).nd (Q3 (pv 0) (T 0) (T 90) GE d (T.B 78) .nil YL (qV (pv 1) (qV (pv 2) Qe))))
    (Qb (Q4 (Q3 (pv 0) (T 0) (T 33) (BR T) Y (T.B 71) .nil YL (qV Qf Qe)))
    (Qd (Qk (pv 4))))))))))),?_⟩
   obtain⟨dx,fs,eR,z1,z2,z3,z4,z5,z6,z7,z8,z9⟩:=M.at
   refine⟨_,U,R,dx,_,U,eR,z8,?_⟩
   cases rs with
   |nil=>
    refine .fin R row rfl M λH1 g n=>⟨_,U,S,_,U,.inr (hO H1),U,Q2 _,_,U,MX ∅ ?_⟩;obtain⟨e,v1,v2,f⟩:=id n.ex;exact⟨_,U,R,e,_,U,f,U,_,U,.fin R row rfl n ((c rfl).step g)⟩
   |cons p r=>
    have hp:=(M.pc p qo).1;refine .mk R row p r rfl M λH1 g n=>?_;obtain⟨e,fs1,f,y1,y2,y3,y4,y5,y6,y7,y8,y9⟩:=n.at
    refine⟨_,U,S,_,U,.inr (hO H1),U,Q2 _,_,U,?_⟩;by_cases y:p∈(["(",Zn,ZZ]:qf)
    .refine O7 (qv y) ⟨_,U,_,_,U,U,?_⟩;have I:41-((m+1:Nat):Int)+1=41-(m:Int):=by omega
     have jL:(b:Int)+((ki p:Nat):Int)=((b+ki p:Nat):Int):=by omega
     refine⟨_,U,_,U,U,_,U,bV ⟨_,_,U,U,?_⟩⟩;refine⟨_,U,_,_,U,U,_,U,?_⟩;by_cases hm:m=0
     .subst hm;have o:sF (0+1) b (p::r)=none:=by unfold sF;rw[qG y,qG (.inl rfl)]
      rw[qv (show(40:Int)<41-((0+1:Nat):Int)+1 by omega)];exact QI (Tq (D:={nx:=λ_ H'=>Q .non H',rt:=Q}) T rfl g n.rw (c o))
     rw[qr (show ¬(40:Int)<41-((m+1:Nat):Int)+1 by omega)];refine QA ⟨_,U,_,_,U,U,_,U,?_⟩;by_cases N:2<b+ki p
     .have o:sF (m+1) b (p::r)=none:=by unfold sF;rw[qG y,qG (.inr N)]
      rw[qv (show(2:Int)<(b:Int)+((ki p:Nat):Int) by omega)];exact QI (Tq (D:={nx:=λ_ H'=>Q .non H',rt:=Q}) T rfl g n.rw (c o))
     rw[qr (show ¬(2:Int)<(b:Int)+((ki p:Nat):Int) by omega)];refine QA ⟨_,U,U,_,U,?_⟩;rw[Vg];have J:¬(m=0\/2<b+ki p):=λz=>z.elim hm N;by_cases L:p="("
     .have o:sF (m+1) b (p::r)=(v8 (sF m (b+ki p)) r).bind clF:=by show(if _ then if _ then none else if _ then _ else _ else _)=_;rw[qG y,qz J,qG L]
      rw[o] at x c;rw[qv L];refine QA ⟨_,U,R,e,_,U,f,y5,_,U,_,U,b+ki p,⟨R,row,r,hm,?_,n,λt rest j q H2 B l hq=>?_,λj=>(c (by rw[show v8 (sF m (b+ki p)) r=none from j];rfl)).step g⟩⟩
      .show[V.ref R,V.int (41-((m+1:Nat):Int)+1),V.int ((b:Int)+((ki p:Nat):Int))]=_;rw[I,jL]
      .rw[show v8 (sF m (b+ki p)) r=some (t,rest) from j,zj] at x c;obtain⟨dx2,fs2,eR2,x1,x2,x3,x4,x5,x6,x7,_⟩:=l.at
       refine⟨_,U,R,dx2,_,U,eR2,x7,?_⟩;by_cases hc:hd1 rest=")"
       .have er:=X9 hc ∅;rw[er] at l;exact .yes R row ")" _ rfl l λH3 k3 r3=>⟨_,U,x t _ (qG hc) q H3 ((g.trans B).trans k3) r3 (hq.kr l k3)⟩
       .exact .no R row ")" rest rfl l hc ⟨∅,∅⟩ ((c (qz hc)).step (g.trans B))
     .have o:sF (m+1) b (p::r)=(sF m (b+ki p) r).bind (ntF p):=by show(if _ then if _ then none else if _ then _ else _ else _)=_;rw[qG y,qz J,qz L]
      rw[o] at x c;rw[qr L];refine QI ⟨_,U,R,e,_,U,f,y2,_,U,_,U,R,e,_,U,f,y3,_,U,_,U,b+ki p,⟨R,row,r,hm,?_,n,λu rest j q H2 B l hq=>?_,λj=>(c (by rw[j];rfl)).step g⟩⟩
      .show[V.ref R,V.int (41-((m+1:Nat):Int)+1),V.int ((b:Int)+((ki p:Nat):Int))]=_;rw[I,jL]
      .rw[j,zj] at x c;have du:=(Uq m (b+ki p)).low j;refine⟨U2,λq3 H3 nq s3 e3=>?_⟩;have t3:jD H3 q3 (gT p u):=T9 y L e3 (hq.mono s3);exact⟨R,row,q3,_,U,(l.mono s3).rw,t3,(by rw[M3];omega),λhd H4 s4=>x _ _ (qG hd) q3 H4 ((g.trans B).trans (KR.of (s3.trans s4))) ((l.mono s3).mono s4) (t3.mono s4),λhd=>(c (qz hd)).step ((g.trans B).trans (KR.of s3))⟩
    .refine MX (qr y) ?_;have o:sF (m+1) b (p::r)=vg p r:=by unfold sF;rw[qz y]
     rw[o] at x c;exact⟨_,U,R,e,_,U,f,y6,_,U,.mk R row p r rfl n hp (λt rest j q H2 B l N=>x t rest j q H2 (g.trans B) l N) λj=>(c j).step g⟩
def KH(x:qc):Prop:=x.length<=100000/\∀c∈x.cps.toList,c<1114112
theorem X2:∀{ps:qf}{p:qc},p∈ps->(∀c∈p.cps.toList,c∈(Str.join " " ps).cps.toList)/\p.cps.toList.length<=(Str.join " " ps).cps.toList.length
 |[],p,h=>nomatch h
 |[q],p,h=>by rw[qq.mp h];exact⟨λc hc=>hc,qp _⟩
 |q::b::r,p,h=>by
  rw[YF];rcases qy.mp h with rfl|h
  .exact⟨λc hc=>zK _ hc,by rw[qm];omega⟩
  .have a:=X2 h;exact⟨λc hc=>qU _ (qt _ (a.1 c hc)),by rw[qm,qw];have:=a.2;omega⟩
theorem Sw(h:KH x):∀p∈yb x,KJ p/\p≠"":=λp e=>by
 unfold yb v3 at e;obtain⟨i,f⟩:=jd.mp e;have g:=X2 i;rw[show Str.join " " (Txt.split (YV x "(" ")" ",") " ")=YV x "(" ")" "," from jI _ _] at g;have l:=Gu x;have j:p.cps.toList.length=p.length:=qQ;have k:(YV x "(" ")" ",").cps.toList.length=(YV x "(" ")" ",").length:=qQ;refine⟨⟨by have:=h.1;omega,λc hc=>?_⟩,λz=>by rw[qv z] at f;cases f⟩;have b:=g.1 c hc;rw[YB] at b;obtain⟨d,hd,a⟩:=xc.mp b;unfold e1 at a;split at a
 .rename_i z
  simp only[qy,q5,ji] at a;omega
 .rw[qq.mp a];exact h.2 d hd
inductive Rf(a:jT)(vs:qb V)(H:Hp)(Q:VK)(E:XK):Prop
 |mk:∀x dx (txt:qc) (row:V),vs=[.ref x,.str txt,row]->H x=some (.ins (a 106) dx [])->KH txt->(∀H',(∀c o,c≠x->H c=some o->H' c=some o)->Yc a H' x row (yb txt)->Q .non H')->Rf a vs H Q E
theorem HQ(h:x.length<=100000):(yb x).length<=1000000:=by
 have a:=split_le (YV x "(" ")" ",") " ";have b:=Gu x;have hf:=zF (λp=>!decide (p=("":qc))) (Txt.split (YV x "(" ")" ",") " ");show((Txt.split (YV x "(" ")" ",") " ").filter _).length<=_;omega
inductive Lv(a:jT)(vs:qb V)(H:Hp)(Q:VK)(E:XK):Prop
 |mk:∀R row rs,vs=[.ref R]->Yc a H R row rs->(∀t rest,v8 (sF 41 0) rs=some (t,rest)->∀y H',KR R H H'->Yc a H' R row rest->QC a H' y t->Q (.ref y) H')->(v8 (sF 41 0) rs=none->vm a E R row H)->Lv a vs H Q E
def spWh(a:jT):Sp:=λvs H Q E=>Lv a vs H Q E
def SH(T:Txt P w K mg base a fd):T.kT jx 2 67 (Rf a):=by
 refine(T.F 67).okT (sc 67) (λvs H Q E h=>?_) (λg A outer st H vs Q E i h=>?_)
 .obtain⟨x,dx,txt,row,rfl,_⟩:=h;rfl
 .obtain⟨x,dx,txt,row,rfl,ex,d,k⟩:=h;refine⟨_,(WG (OK (pv 0) (Mh (SI T) i.up rfl (T 95) (T.F 9).kp (T.B 9) .nil QP (qV (pv 1) Qe)) rfl)
   (Qb (YR (pv 0) Qa rfl)
   (Qd (YR (pv 0) (pv 2) U)))),?_⟩
  refine⟨_,U,txt,U,d.1,λD H1 l s1 f=>?_⟩;have b:=s1 _ _ ex;have j:D≠x:=QX f b nofun;refine⟨_,U,x,_,dx,_,U,b,(T 0),(T 64),(by show 0<1000;decide),?_⟩;refine⟨_,U,x,_,dx,_,U,Qg,(T 0),(T 14),(by show 1<1000;decide),?_⟩;rw[Xk];refine⟨_,U,_,U,x,_,dx,_,U,Qg,(T 0),(T 22),(by show 2<1000;decide),?_⟩;rw[Xk];refine k _ (λc o n e=>by rw[Qj n];exact s1 _ _ e) ⟨dx,D,yb txt,0,Qg,by rw[Qj j];exact f,U,zb _,HQ d.1,Sw d⟩
theorem bI(T:Txt P w K mg base a fd):T.k (yZ P w) 166 79 (spWh a):=by
 have d:T.k (yZ P w) 165 78 (HA a (41≠0) (wz (wb (sF 41 0))) (41-((41:Nat):Int)) ((0:Nat):Int)):=FV (k:=3*41+40+1) T ⋯ (Vs (Uq 41 0)) (FX (k:=3*41+40) T ⋯ (Uq 41 0) (FR (P:=P) (w:=w) (base:=base) T 41 0));refine(T.F 79).kF (sc 79) (λvs H Q E h=>?_) (λe A outer st H vs Q E f h=>?_)
 .obtain⟨R,row,rs,rfl,_⟩:=h;rfl
 .obtain⟨R,row,rs,rfl,c,k,g⟩:=h;obtain⟨dx,p,i,r,s,u,v,j,_⟩:=c.at
  refine⟨_,(Qd (Qk (T.cl (CS T 31) (qV (Q3 (pv 0) (T 0) (T 90) d f.up (T.B 78) .nil YL (qV Qa (qV Qa Qe))) Qe)))),?_⟩;refine⟨_,U,R,dx,_,U,i,j,R,row,rs,∅,U,c,λt rest b q H1 l m n=>?_,λb=>g b⟩;have hd:=(Gr (Vs (Uq 41 0))).low b;exact⟨q,t,U,n,⋯,λy H2 s2 o=>k t rest b y H2 (l.trans (KR.of s2)) (m.mono s2) o.at⟩
def QC.tj(h:QC a H y t)(kt:∀c xs,H c=some (.tup xs)->H' c=some (.tup xs))(b:∀c D d f j,H c=some (.ins D d ((Za,f)::j))->H' c=some (.ins D d ((Za,f)::j))):QC a H' y t:=by
 induction h with
 |lf l e t=>exact .lf l (b _ _ _ _ _ e) (t.tups kt)
 |nt e t _ g=>exact .nt (b _ _ _ _ _ e) (t.tups kt) g
 |thr e t _ g=>exact .thr (b _ _ _ _ _ e) (t.tups kt) g
 |jN e t _ _ g i=>exact .jN (b _ _ _ _ _ e) (t.tups kt) g i
 |jL e t _ _ g i=>exact .jL (b _ _ _ _ _ e) (t.tups kt) g i
def QC.kr{row:V}(h:QC a H y t)(r:Yc a H R row rs)(k:KR R H H'):QC a H' y t:=by
 obtain⟨dx,l,ps,n,e1,_⟩:=r.ex;have b:¬Zv=Za:=by decide +kernel
 refine h.tj (λc xs e=>k c _ (QX e e1 nofun) e) λc D d f g e=>k c _ (λz=>?_) e;rw[z,e1] at e
 injection e with e
 injection e with _ _ e
 injection e with e _
 injection e with e _
 exact b e
theorem Tg{c:Nat}(h:48<=c/\c<=57):c∈("0123456789":qc).cps.toList:=by
 have e:∀k<10,48+k∈("0123456789":qc).cps.toList:=by decide +kernel
 have:=e (c-48) ⋯;rwa[Nat.add_sub_cancel' h.1] at this
def NR{w:qc}(h:hd1 rs≠w):vC w mk S n t rs=some (t,rs):=by
 cases n with
 |zero=>exact qz h
 |succ n=>exact qz h
def To{w:qc}{a:qf}(h:S r=some (u,a))(hd:(mk t u).dp<30):vC w mk S (n+1) t (w::r)=vC w mk S n (mk t u) a:=by
 refine(qG (show hd1 (w::r)=w from rfl)).trans ?_;show(S r).bind _=_;rw[h,zj];exact qG hd
section
variable {m th:Nat}{p:qc}{r rest:qf}{t u:Tr}
def Ox(h:decide (p∈(["(",Zn,ZZ]:qf))=false):sF (m+1) th (p::r)=vg p r:=qz (xR h)
theorem Sg(hm:m≠0)(a:th<=2):sF (m+1) th (("(":qc)::r)=(v8 (sF m th) r).bind clF:=by
 have e:ki "("=0:=by decide +kernel
 refine(qG ∅).trans ((qz (by rw[e];omega)).trans ((qG rfl).trans ?_));rw[e];rfl
def Sh(hm:m≠0)(a:th<=2):sF (m+1) th (Zn::r)=(sF m th r).bind (ntF Zn):=by
 have e:ki Zn=0:=by decide +kernel
 refine(qG ∅).trans ((qz (by rw[e];omega)).trans ((qz ∅).trans ?_));rw[e];rfl
theorem Sf(hm:m≠0)(a:th<2):sF (m+1) th (ZZ::r)=(sF m (th+1) r).bind (ntF ZZ):=by
 have e:ki ZZ=1:=by decide +kernel
 refine(qG ∅).trans ((qz (by rw[e];omega)).trans ((qz ∅).trans ?_));rw[e]
def MV(h:u.dp+1<30):ntF p (u,rest)=some (gT p u,rest):=qG (by rw[M3];exact h)
def Tn:clF (t,(")":qc)::rest)=some (t,rest):=qG rfl
end
def Dg{p w:qc}(a:decide (p∈(["any",Zl]:qf))=false)(b:decide (p∈([Ze,ZJ,Zc,Zf,Zb]:qf))=true)(hw:isW w=true):vg p (w::rest)=some (mkW p w,rest):=by
 refine(qz (xR a)).trans ((qG (qM b)).trans ?_);have:vk (w::rest)=some (w,rest):=qG hw;rw[this];rfl
structure WW(x:qc)(n:Int):Prop where
 lo:1<=x.length
 hi:x.length<=4
 fg:(x.cps.toList.all λc=>decide (c∈("0123456789":qc).cps.toList))=true
 v:PySem.intText? x=some n
 n0:0<=n
 n1:n<=9999
inductive Ui:qc->qf->Tr->qf->Prop
 |any {r:qf}:Ui "any" r .any r
 |ans {r:qf}:Ui Zl r .ans r
 |word {w:qc} {r:qf}:QO w->Ui Ze (w::r) (.word w) r
 |title {w:qc} {r:qf}:QO w->Ui ZJ (w::r) (.title w) r
 |frm {w:qc} {r:qf}:QO w->Ui Zc (w::r) (.frm w) r
 |inn {w:qc} {r:qf}:QO w->Ui Zf (w::r) (.inn w) r
 |yK {w:qc} {r:qf}:QO w->Ui Zb (w::r) (.yK w) r
 |gu {x y:qc} {l h:Int} {r:qf}:WW x l->WW y h->Ui Zk (x::Zp::y::r) (.days l h) r
 |day {x:qc} {l:Int} {r:qf}:WW x l->hd1 r≠Zp->Ui Zk (x::r) (.days l l) r
 |before {x:qc} {n:Int} {r:qf}:WW x n->1<=n->Ui Zy (x::r) (.days 0 (n-1)) r
 |after {x:qc} {n:Int} {r:qf}:WW x n->n<=9998->Ui Zz (x::r) (.days (n+1) 9999) r
inductive BL(w:qc)(mk:Tr->Tr->Tr)(S:qf->Tr->qf->Prop):Tr->qf->Tr->qf->Prop
 |stop {t:Tr} {rs:qf}:hd1 rs≠w->BL w mk S t rs t rs
 |more {t u t':Tr} {r r' rest:qf}:S r u r'->(mk t u).dp<30->BL w mk S (mk t u) r' t' rest->BL w mk S t (w::r) t' rest
def RB(S:qf->Tr->qf->Prop)(ps:qf)(t:Tr)(rest:qf):Prop:=∃t0 a,S ps t0 a/\BL Zo .jN S t0 a t rest
def RE(S:qf->Tr->qf->Prop)(ps:qf)(t:Tr)(rest:qf):Prop:=∃t0 a,RB S ps t0 a/\BL Zr .jL (RB S) t0 a t rest
def RS:Nat->Nat->qf->Tr->qf->Prop
 |0,_,_,_,_=>False
 |n+1,a,ps,t,rest=>∃p r,ps=p::r/\(Ui p r t rest\/(p=Zn/\a<=2/\∃u,RS n a r u rest/\t=.nt u/\t.dp<30)\/(p=ZZ/\a<2/\∃u,RS n (a+1) r u rest/\t=.thr u/\t.dp<30)\/(p=("(":qc)/\a<=2/\RE (RS n a) r t ((")":qc)::rest)))
def WW.num{n:Int}(h:WW x n):Ux x=true/\W8 x=n:=by
 have z:Ux x=true:=by unfold Ux;rw[qv h.lo,qv h.hi,h.fg];rfl
 exact⟨z,za ((F6 z).symm.trans h.v)⟩
def WW.nm{n lo:Int}(h:WW x n)(a:lo<=n)(b:n<=hi):v9 lo hi (x::r)=some (n,r):=by
 obtain⟨z,e⟩:=h.num;refine(qG ⟨z,by rw[e];exact a,by rw[e];exact b⟩).trans ?_;rw[e]
def Ui.fn{p:qc}(h:Ui p r t rest):vg p r=some (t,rest):=by
 have day:∀r,vg Zk r=(v9 0 9999 r).bind dyF:=λr=>(qz ∅).trans ((qz ∅).trans (qG rfl))
 cases h with
 |any=>exact qG ∅
 |ans=>exact qG ∅
 |word w=>exact Dg ∅ ∅ (Vl w)
 |title w=>exact Dg ∅ ∅ (Vl w)
 |frm w=>exact Dg ∅ ∅ (Vl w)
 |inn w=>exact Dg ∅ ∅ (Vl w)
 |yK w=>exact Dg ∅ ∅ (Vl w)
 |gu a b=>
  rw[day,a.nm a.n0 a.n1,zj];refine(qG rfl).trans ?_;exact q8 (Option.map _) (b.nm b.n0 b.n1)
 |day a b=>rw[day,a.nm a.n0 a.n1,zj];exact qz b
 |before a b=>
  refine(qz ∅).trans ((qz ∅).trans ((qz ∅).trans ((qG rfl).trans ?_)));exact q8 (Option.map _) (a.nm b a.n1)
 |after a b=>
  refine(qz ∅).trans ((qz ∅).trans ((qz ∅).trans ((qz ∅).trans ((qG rfl).trans ?_))));exact q8 (Option.map _) (a.nm a.n0 b)
def Ui.nop{p:qc}(h:Ui p r t rest):decide (p∈(["(",Zn,ZZ]:qf))=false:=by
 cases h<;>decide +kernel
def FnR(S:qf->Tr->qf->Prop)(f:qf->Option (Tr×qf)):Prop:=∀ps t rest,S ps t rest->f ps=some (t,rest)
theorem BL.fn{w:qc}{S:qf->Tr->qf->Prop}{f:qf->Option (Tr×qf)}(h:FnR S f)(g:WA f){t':Tr}(b:BL w mk S t rs t' rest):∀n,rs.length<=n->vC w mk f n t rs=some (t',rest):=by
 induction b with
 |stop a=>exact λn _=>NR a
 |more s hd b c=>
  intro n a;obtain⟨m,rfl⟩:∃m,n=m+1:=⟨n-1,by rw[qw] at a;omega⟩;have e:=h _ _ _ s;exact(To e hd).trans (c m (by have:=g.shr e;rw[qw] at a;omega))
def RB.fn{S:qf->Tr->qf->Prop}{f:qf->Option (Tr×qf)}(h:FnR S f)(g:WA f):FnR (RB S) (wb f):=λps t rest ⟨t0,a,s,b⟩=>by
 unfold wb;rw[h _ _ _ s,zj];exact b.fn h g _ (qp _)
def RE.fn{S:qf->Tr->qf->Prop}{f:qf->Option (Tr×qf)}(h:FnR S f)(g:WA f):FnR (RE S) (v8 f):=λps t rest ⟨t0,a,s,b⟩=>by
 unfold v8 wz;rw[RB.fn h g _ _ _ s,zj];exact b.fn (RB.fn h g) (Vs g) _ (qp _)
theorem RS.fn:∀n a,FnR (RS n a) (sF n a)
 |0,_=>λ_ _ _ h=>h.elim
 |n+1,a=>λps t rest ⟨p,r,e,h⟩=>by
  subst e;rcases h with h|⟨rfl,b,u,h,rfl,hd⟩|⟨rfl,b,u,h,rfl,hd⟩|⟨rfl,b,h⟩
  .exact(Ox h.nop).trans h.fn
  .have c:n≠0:=λz=>by subst z;exact h
   rw[Sh c b,RS.fn n a _ _ _ h,zj];exact MV hd
  .have c:n≠0:=λz=>by subst z;exact h
   rw[Sf c b,RS.fn n (a+1) _ _ _ h,zj];exact MV hd
  .have c:n≠0:=λz=>by
    subst z;obtain⟨_,_,⟨_,_,h,_⟩,_⟩:=h;exact h
   rw[Sg c b,RE.fn (RS.fn n a) (Uq n a) _ _ _ h,zj];exact Tn
def QO.pc(h:QO x):yb x=[x]:=by
 refine BM (λc hc=>?_) (λe=>?_)
 .have:=h.in_ c hc;have hz:∀c∈aZ.cps.toList,c≠32/\c≠40/\c≠41/\c≠44:=by decide +kernel
  exact hz c this
 .have:=h.lo;rw[e] at this;exact absurd this ∅
def P2(t:Tr)(ts:qf)(m:Nat):Prop:=∀(n a:Nat)(r:qf),m<n->t.th+a<=2->hd1 r≠Zp->RS n a (ts++r) t r
def P1(t:Tr)(ts:qf)(m:Nat):Prop:=∀(n a:Nat)(r:qf)(t':Tr)(b:qf),m<n->t.th+a<=2->hd1 r≠Zp->BL Zo .jN (RS n a) t r t' b->RB (RS n a) (ts++r) t' b
def P0(t:Tr)(ts:qf)(m:Nat):Prop:=∀(n a:Nat)(r:qf)(t':Tr)(b:qf),m<n->t.th+a<=2->hd1 r≠Zp->hd1 r≠Zo->BL Zr .jL (RB (RS n a)) t r t' b->RE (RS n a) (ts++r) t' b
def P2.up(h:P2 t ts m)(k:m<=m'):P2 t ts m':=λn d r a b c=>h n d r (jC k a) b c
def P1.up(h:P1 t ts m)(k:m<=m'):P1 t ts m':=λn e r t' f a b c d=>h n e r t' f (jC k a) b c d
def P0.up(h:P0 t ts m)(k:m<=m'):P0 t ts m':=λn f r t' g a b c d e=>h n f r t' g (jC k a) b c d e
def P2.p1(h:P2 t ts m):P1 t ts m:=λn e r t' f a b c d=>⟨t,r,h n e r a b c,d⟩
def P1.p0(h:P1 t ts m):P0 t ts m:=λn f r t' g a b c d e=>⟨t,r,h n f r t r a b c (.stop d),e⟩
theorem P1.jN{vs:qf}(f:P1 u us m)(g:P2 v vs m)(hd:(Tr.jN u v).dp<30):P1 (.jN u v) (us++Zo::vs) m:=λn e r t' h a b c d=>by
 have i:max u.th v.th+e<=2:=b;rw[zh];exact f n e _ t' h a ⋯ (by show ¬Zo=Zp;decide +kernel) (.more (g n e r a ⋯ c) hd d)
def P0.jL{vs:qf}(g:P0 u us m)(h:P1 v vs m)(hd:(Tr.jL u v).dp<30):P0 (.jL u v) (us++Zr::vs) m:=λn f r t' i a b c d e=>by
 have j:max u.th v.th+f<=2:=b;rw[zh];exact g n f _ t' i a ⋯ (by show ¬Zr=Zp;decide +kernel) (by show ¬Zr=Zo;decide +kernel) (.more (h n f r v r a ⋯ c (.stop d)) hd e)
theorem P2.nt(h:P2 u us m)(hd:(Tr.nt u).dp<30):P2 (.nt u) (Zn::us) (m+1):=λn d r a b c=>by
 obtain⟨k,rfl⟩:∃k,n=k+1:=⟨n-1,⋯⟩;have e:u.th+d<=2:=b;exact⟨_,_,U,.inr (.inl ⟨U,⋯,u,h k d r ⋯ e c,U,hd⟩)⟩
theorem P2.thr(h:P2 u us m)(hd:(Tr.thr u).dp<30):P2 (.thr u) (ZZ::us) (m+1):=λn d r a b c=>by
 obtain⟨k,rfl⟩:∃k,n=k+1:=⟨n-1,⋯⟩;have e:(u.th+1)+d<=2:=b;exact⟨_,_,U,.inr (.inr (.inl ⟨U,⋯,u,h k (d+1) r ⋯ ⋯ c,U,hd⟩))⟩
def P0.in(h:P0 t ts m):P2 t ([("(":qc)]++ts++[(")":qc)]) (m+1):=λn d r a b c=>by
 obtain⟨k,rfl⟩:∃k,n=k+1:=⟨n-1,⋯⟩;rw[zh,zh];refine⟨_,_,U,.inr (.inr (.inr ⟨U,⋯,?_⟩))⟩;exact h k d _ t _ ⋯ b (by show ¬(")":qc)=Zp;decide +kernel) (by show ¬(")":qc)=Zo;decide +kernel) (.stop (by show ¬(")":qc)=Zr;decide +kernel))
theorem P2.leaf{p:qc}(h:∀r,hd1 r≠Zp->Ui p (ps++r) t r):P2 t (p::ps) 0:=λn d r a b c=>by
 obtain⟨k,rfl⟩:∃k,n=k+1:=⟨n-1,⋯⟩;exact⟨_,_,U,.inl (h r c)⟩
def PC(c:Nat)(t:Tr)(ts:qf)(m:Nat):Prop:=if c=0 then P0 t ts m else if c=1 then P1 t ts m else P2 t ts m
theorem PC.lo{c d:Nat}(h:PC c t ts m)(k:d<=c):PC d t ts m:=by
 unfold PC at h⊢;by_cases b:c=0
 .rw[qG b] at h;rw[qG ⋯];exact h
 .rw[qz b] at h;by_cases e:c=1
  .rw[qG e] at h;by_cases a:d=0
   .rw[qG a];exact h.p0
   .rw[qz a,qG ⋯];exact h
  .rw[qz e] at h;by_cases a:d=0
   .rw[qG a];exact h.p1.p0
   .rw[qz a];by_cases f:d=1
    .rw[qG f];exact h.p1
    .rw[qz f];exact h
def PC.up{c:Nat}(h:PC c t ts m)(k:m<=m'):PC c t ts m':=by
 unfold PC at h⊢;split at h
 .rename_i z;rw[qG z];exact P0.up h k
 .rename_i z;rw[qz z]
  split at h
  .rename_i z;rw[qG z];exact P1.up h k
  .rename_i z;rw[qz z];exact P2.up h k
def PC.in{c:Nat}(h:PC c t ts m):PC 2 t ([("(":qc)]++ts++[(")":qc)]) (m+1):=P0.in (h.lo (zb c))
def YK(ts:qf):Nat:=(ts.map λx=>x.length+2).sum
def Ys(xs ys:qf):YK (xs++ys)=YK xs+YK ys:=by unfold YK;rw[qH,yj]
def Cln(x:qc):Prop:=∀c∈x.cps.toList,32<c/\c<128
structure wj(x:qc):Prop where
 p:yb x=[x]
 c:Cln x
def xI(ts:qf):Prop:=∀x∈ts,wj x
def xI.app{xs ys:qf}(h:xI xs)(k:xI ys):xI (xs++ys):=λx a=>(qT.mp a).elim (h x) (k x)
def Y9(h:(x.cps.toList.all λc=>decide (32<c/\c<128/\c≠40/\c≠41/\c≠44))=true)(a:decide (x=("":qc))=false):wj x:=
 have q:∀c∈x.cps.toList,32<c/\c<128/\c≠40/\c≠41/\c≠44:=λc hc=>qM (zf.mp h c hc)
 ⟨BM (λc hc=>⟨yd (q c hc).1,(q c hc).2.2⟩) (xR a),λc hc=>⟨(q c hc).1,(q c hc).2.1⟩⟩
def OT:wj "(":=by
 have:=Mr "";rw[V4,WL] at this;exact⟨this,by unfold Cln;decide +kernel⟩
def Mu:wj ")":=by
 have:=HR "";rw[Vp,WL] at this;exact⟨this,by unfold Cln;decide +kernel⟩
def QO.gk(h:QO x):wj x:=⟨QO.pc h,λc hc=>(show ∀c∈aZ.cps.toList,32<c/\c<128 by decide +kernel) c (h.in_ c hc)⟩
structure Tok(c:Nat)(t:Tr)(ts:qf)(m:Nat):Prop where
 r:PC c t ts m
 p:xI ts
def Tok.in{c:Nat}(h:Tok c t ts m):Tok 2 t ([("(":qc)]++ts++[(")":qc)]) (m+1):=
 ⟨h.r.in,xI.app (xI.app (λx a=>by rw[qq.mp a];exact OT) h.p) (λx a=>by rw[qq.mp a];exact Mu)⟩
theorem Oi(ts:qf):YK ([("(":qc)]++ts++[(")":qc)])=YK ts+6:=by
 rw[Ys,Ys,show YK [("(":qc)]=3 by decide +kernel,show YK [(")":qc)]=3 by decide +kernel];omega
def Ca(x y:qc):(x++y).length=x.length+y.length:=zp x y
structure Cf(x:qc)(n:Int):Prop where
 lo:1<=x.length
 hi:x.length<=4
 d:PySem.NumText.AllDigits x.cps.toList
 v:((PySem.NumText.digitsVal x.cps.toList:Nat):Int)=n
 n0:0<=n
 n1:n<=9999
def Cf.s{n:Int}(h:Cf x n):WW x n:=by
 have a:=h.lo;have d:=h.hi;refine⟨h.lo,h.hi,?_,?_,h.n0,h.n1⟩
 .refine zf.mpr λc hc=>qv (Tg ?_);exact h.d c hc
 .rw[PySem.intText_digits h.d (λz=>by
   have b:x.cps.toList.length=x.length:=qQ;rw[z] at b;rw[<-b] at a;exact absurd a ∅) ⋯,h.v]
def Cf.of(h0:0<=d)(a:d<=9999):Cf (Str.ofString (toString d)) d:=⟨O6 h0,FY h0 a,Ey h0,O5 h0,h0,a⟩
theorem Cf.more{n:Int}(h:Cf x n)(b:x.length<4):Cf (("0":qc)++x) n:=by
 have a:("0":qc).cps.toList=[48]:=by decide +kernel
 refine⟨by rw[Ca];have:=h.lo;omega,by rw[Ca,show("0":qc).length=1 by decide +kernel];omega,?_,?_,h.n0,h.n1⟩
 .rw[QM,a];intro c hc;rcases qy.mp hc with rfl|hc
  .decide
  .exact h.d c hc
 .rw[QM,a,<-h.v];rfl
def WW.pc(a:WW x d):wj x:=by
 refine⟨BM (λc hc=>?_) (λe=>?_),λc hc=>(show ∀c∈("0123456789":qc).cps.toList,32<c/\c<128 by decide +kernel) c (qM (zf.mp a.fg c hc))⟩
 .have hz:∀c∈("0123456789":qc).cps.toList,c≠32/\c≠40/\c≠41/\c≠44:=by decide +kernel
  exact hz c (qM (zf.mp a.fg c hc))
 .have:=a.lo;rw[e] at this;exact absurd this ∅
def Vo(h:n<=100000):n<=sizeLine:=qO h ∅
def lenS:Option V->Nat
 |some (.str x)=>x.length
 |_=>0
inductive Ri(vs:qb V)(H:Hp)(Q:VK)(E:XK):Prop
 |mk:∀(n c:Int),vs=[.int n,.int c]->0<=n->n<=9999->(∀x,WW x n->Q (.str x) H)->Ri vs H Q E
theorem GI(T:Txt P w K mg base a fd):T.k jx 1 27 Ri:=by
 refine T.ok 27 (λl A outer st H vs Q E I h=>?_)
 .obtain⟨n,c,rfl,h0,f,k⟩:=h;refine⟨_,(Qb (Ql (i:=2) (sc 27).nd (Yr B6 rfl (T 23) boot_str (qV (pv 0) Qe)))
   (Qb (Wc zg (Qn Kn (Qv U0 rfl (T 2) zy (qV (pv 2) Qe)) (Qh QV Qa (Qh Qx (pv 1) Qa))) (Qd (Ql (i:=2) (sc 27).nd (Qh QU Qf (pv 2)))))
   (Qd (Qk (pv 2))))),?_⟩
  have m0:0<=c%4:=qF _ ∅;have J:c%4<4:=qA _ ∅;refine⟨_,U,n,U,F1 h0 f,?_⟩;refine VX (λσ H2=>H2=H/\∃x,σ=[some (.int n),some (.int c),some (.str x)]/\Cf x n) (λσ _=>4-lenS (σ.getD 2 none)) ⟨U,_,U,Cf.of h0 f⟩ ?_ ?_
  .rintro σ H2 ⟨rfl,x,rfl,d⟩;have hi:=d.hi;refine⟨_,U,x,U,Vo ⋯,_,U,_,_,U,U,Aj,_,_,U,U,_,_,U,U,_,U,?_⟩;by_cases g:(x.length:Int)<1+c%4
   .rw[qv g];have m:("0":qc).length=1:=by decide +kernel
    refine QI ⟨_,U,_,_,U,U,Vo ⋯,⟨U,_,U,d.more ⋯⟩,?_⟩;show 4-(("0":qc)++x).length<4-x.length;rw[Ca];omega
   .rw[qr g];exact QA ⟨_,U,k x d.s⟩
  .rintro σ L M N d ⟨x,e,y,g,m,o,p,i,j,q,r,s,t,u,v,z,B,C,D,F,b,G,h⟩;exact⟨x,e,y,g,m,o,p,i,j,q,r,s,t,u,v,z,B,C,D,F,b,G,d _ _ h⟩
def cq{a:Bool}{X:Prop}(b:Bool)(d:(if b=true then A else B)->X)(e:a=true->b=true->A)(c:(a&&b)=false->B):if a=true then X else (if false=true then A else B):=by
 cases a with
 |true=>
  refine QI (d ?_)
  cases b with
  |true=>exact QI (e rfl rfl)
  |false=>exact QA (c rfl)
 |false=>exact QA (QA (c rfl))
def cp{a:Bool}{f g:Prop}(c b:Bool)(d:(if c=true then g else (if false=true then A else B))->f)(e:(if b=true then A else B)->g)(i:a=true->c=true->b=true->A)(h:(a&&c&&b)=false->B):if a=true then f else (if false=true then A else B):=by
 cases a with
 |true=>exact QI (d (cq b e (i rfl) h))
 |false=>exact QA (QA (h rfl))
def xI.two{y:qc}(h:wj x)(k:wj y):xI [x,y]:=λz hz=>by
 rcases qy.mp hz with rfl|hz
 .exact h
 .rw[qq.mp hz];exact k
inductive Rl(vs:qb V)(H:Hp)(Q:VK)(E:XK):Prop
 |mk:∀(p:qd)(c l h:Int),vs=[.ref p,.int c]->H p=some (.tup [.str Zk,.int l,.int h])->TM l h->(∀q ts H',Qi H H'->H' q=some (.lst (ts.map V.str))->Tok 2 (.days l h) ts 0->YK ts<=25->Q (.ref q) H')->Rl vs H Q E
theorem SM(T:Txt P w K mg base a fd):T.k jx 2 28 Rl:=by
 refine T.ok 28 (λC A outer st H vs Q E I h=>?_)
 .obtain⟨p,c,l,h,rfl,e,D,k⟩:=h;obtain⟨f,g,t,u⟩:=D;refine⟨_,(Qb (Ql (i:=2) (sc 28).nd (Qp Qt (pv 0) Qa))
   (Qb (Ql (i:=3) (sc 28).nd (Qp Qt (pv 0) Qa))
   (Qb (Qu (PW.pt (UP (Qn QH (pv 2) (pv 3)) (Vb (Qn QH (Qh Qx (pv 1) Qa) Qa)))) (Qd (Qk (Qy (Qc Qf (Qc (T.cl (GI T) (qV (pv 2) (qV (Qh Qz (pv 1) Qa) Qe))) Qm))))) Qq)
   (Qb (Qu (PW.pt (UP (Qn QH (pv 2) Qa) (UP (Qn Kn (pv 3) Qa) (Vb (Qn QH (Qh Qx (pv 1) Qa) Qa))))) (Qd (Qk (Qy (Qc Qf (Qc (T.cl (GI T) (qV (Qh QV (pv 3) Qa) (qV (Qh Qz (pv 1) Qa) Qe))) Qm))))) Qq)
   (Qb (Qu (PW.pt (UP (Qn QH (pv 3) Qa) (UP (Qn W0 (pv 2) Qa) (Vb (Qn QH (Qh Qx (pv 1) Qa) Qa))))) (Qd (Qk (Qy (Qc Qf (Qc (T.cl (GI T) (qV (Qh Xc (pv 2) Qa) (qV (Qh Qz (pv 1) Qa) Qe))) Qm))))) Qq)
   (Qd (Qk (Qy (Qc Qf (Qc (T.cl (GI T) (qV (pv 2) (qV (Qh Qz (pv 1) Qa) Qe))) (Qc Qf (Qc (T.cl (GI T) (qV (pv 3) (qV (Qh Qz (pv 1) Qa) Qe))) Qm)))))))))))),?_⟩
  refine⟨_,U,p,_,_,_,U,U,zu.of e,QB (j:=1) rfl,_,U,p,_,_,_,U,U,zu.of e,QB (j:=2) rfl,?_⟩;have J:∀x:qc,x.length<=4->x.length+2<=6:=λx h=>by omega
  have fin:∀x y,WW x l->WW y h->Hb [.str Zk,.str x,.str Zp,.str y] H Q:=λx y b m=>⟨DY,λq H1 F s1 e1=>k q [Zk,x,Zp,y] H1 s1 e1 ⟨P2.leaf λr _=>.gu b m,λz hz=>by
   simp only[qy,q5,ji] at hz;rcases hz with rfl|rfl|rfl|rfl
   .exact Y9 ∅ ∅
   .exact b.pc
   .exact Y9 ∅ ∅
   .exact m.pc⟩ (by
    have d:Zk.length=3:=by decide +kernel
    have o:Zp.length=2:=by decide +kernel
    have:=b.hi;have:=m.hi;show Zk.length+2+(x.length+2+(Zp.length+2+(y.length+2+0)))<=25;omega)⟩
  have pr:∀(nm x:qc)(n:Int),WW x n->nm.length<=6->wj nm->(∀r,hd1 r≠Zp->Ui nm (x::r) (.days l h) r)->Hb [.str nm,.str x] H Q:=λnm x n b M G v=>⟨U2,λq H1 F s1 e1=>k q [nm,x] H1 s1 e1 ⟨P2.leaf v,xI.two G b.pc⟩ (by
   have:=b.hi;show nm.length+2+(x.length+2+0)<=25;omega)⟩
  refine⟨_,U,_,U,U,_,U,cq _ (λr=>⟨_,U,_,_,U,U,DZ,U,_,U,r⟩) (λo _=>?_) (λ_=>?_)⟩
  .have s:l=h:=by have:=qM o;injection this
   exact⟨_,U,_,U,_,_,U,U,⟨∅,∅⟩,l,_,U,f,g,λx b=>pr Zk x l b ∅ (Y9 ∅ ∅) λr d=>by rw[<-s];exact .day b d⟩
  refine⟨_,U,U,_,U,cp _ _ (λr=>⟨_,U,_,_,U,U,_,U,r⟩) (λr=>⟨_,U,_,_,U,U,K4,U,_,U,r⟩) (λo B _=>?_) (λ_=>?_)⟩
  .have s:l=0:=by have:=qM o;injection this
   have v:=qM B;exact⟨_,U,_,_,U,U,_,U,_,_,U,U,⟨∅,∅⟩,h+1,_,U,⋯,⋯,λx b=>pr Zy x _ b ∅ (Y9 ∅ ∅) λr d=>by
    have L:=Ui.before (r:=r) b ⋯;rw[show h+1-1=h by omega] at L;rw[s];exact L⟩
  refine⟨_,U,U,_,U,cp _ _ (λr=>⟨_,U,_,_,U,U,_,U,r⟩) (λr=>⟨_,U,_,_,U,U,K4,U,_,U,r⟩) (λo B _=>?_) (λ_=>?_)⟩
  .have s:h=9999:=by have:=qM o;injection this
   have v:=qM B;exact⟨_,U,_,_,U,U,_,U,_,_,U,U,⟨∅,∅⟩,l-1,_,U,⋯,⋯,λx b=>pr Zz x _ b ∅ (Y9 ∅ ∅) λr d=>by
    have L:=Ui.after (r:=r) b ⋯;rw[show l-1+1=l by omega] at L;rw[s];exact L⟩
  exact⟨_,U,_,U,_,_,U,U,⟨∅,∅⟩,l,_,U,f,g,λx b=>⟨_,U,_,U,_,_,U,U,⟨∅,∅⟩,h,_,U,t,u,λy m=>fin x y b m⟩⟩
structure Lf5(nm:qc):Prop where
 n1:decide (nm=Zn)=false
 n2:decide (nm=ZZ)=false
 n3:decide (nm=Zt)=false
 n4:decide (nm=Zq)=false
 n5:decide (nm=Zk)=false
theorem V1{nm u:qc}(h:nm.length<=6)(k:QO u):YK [nm,u]<=38:=by
 have:=k.hi;show nm.length+2+(u.length+2+0)<=38;omega
def jD.look(h:jD H p t){G:Prop}(lf:∀nm ps,H p=some (.tup ((nm::ps).map V.str))->Lf5 nm->(∀r,hd1 r≠Zp->Ui nm (ps++r) t r)->xI (nm::ps)->YK (nm::ps)<=38->t.dp=0->t.sz=1->G)
 (f:∀l h,t=.days l h->H p=some (.tup [.str Zk,.int l,.int h])->TM l h->G) (g:∀q u,t=.nt u->H p=some (.tup [.str Zn,.ref q])->jD H q u->G) (i:∀q u,t=.thr u->H p=some (.tup [.str ZZ,.ref q])->jD H q u->G)
 (j:∀q r u v,t=.jN u v->H p=some (.tup [.str Zt,.ref q,.ref r])->jD H q u->jD H r v->G) (k:∀q r u v,t=.jL u v->H p=some (.tup [.str Zq,.ref q,.ref r])->jD H q u->jD H r v->G):G:=by
 have L:∀{x:qc},(x.cps.toList.all λc=>decide (32<c/\c<128/\c≠40/\c≠41/\c≠44))=true->decide (x=("":qc))=false->wj x:=Y9
 cases h with
 |any e=>exact lf "any" [] e ⟨∅,∅,∅,∅,∅⟩ (λr _=>.any) (λx a=>by rw[qq.mp a];exact L ∅ ∅) ∅ rfl rfl
 |ans e=>exact lf Zl [] e ⟨∅,∅,∅,∅,∅⟩ (λr _=>.ans) (λx a=>by rw[qq.mp a];exact L ∅ ∅) ∅ rfl rfl
 |word e w=>exact lf Ze [_] e ⟨∅,∅,∅,∅,∅⟩ (λr _=>.word w) (xI.two (L ∅ ∅) (QO.gk w)) (V1 ∅ w) rfl rfl
 |title e w=>exact lf ZJ [_] e ⟨∅,∅,∅,∅,∅⟩ (λr _=>.title w) (xI.two (L ∅ ∅) (QO.gk w)) (V1 ∅ w) rfl rfl
 |frm e w=>exact lf Zc [_] e ⟨∅,∅,∅,∅,∅⟩ (λr _=>.frm w) (xI.two (L ∅ ∅) (QO.gk w)) (V1 ∅ w) rfl rfl
 |inn e w=>exact lf Zf [_] e ⟨∅,∅,∅,∅,∅⟩ (λr _=>.inn w) (xI.two (L ∅ ∅) (QO.gk w)) (V1 ∅ w) rfl rfl
 |yK e w=>exact lf Zb [_] e ⟨∅,∅,∅,∅,∅⟩ (λr _=>.yK w) (xI.two (L ∅ ∅) (QO.gk w)) (V1 ∅ w) rfl rfl
 |days e b=>exact f _ _ rfl e b
 |nt e h=>exact g _ _ rfl e h
 |thr e h=>exact i _ _ rfl e h
 |jN e a d=>exact j _ _ _ _ rfl e a d
 |jL e a d=>exact k _ _ _ _ rfl e a d
theorem Up:∀ts:qf,ts.length<=YK ts
 |[]=>qp _
 |x::xs=>by have:=Up xs;show xs.length+1<=x.length+2+YK xs;omega
inductive Eh(n:Nat)(vs:qb V)(H:Hp)(Q:VK):Prop
 |mk:∀(p R:qd)(c m:Nat)(t:Tr)(cs:qb Int),vs=[.ref p,.int (c:Int),.ref R,.int (m:Int)]->jD H p t->t.dp<n->t.dp<30->t.sz<=1100->c<=2->H R=some (.lst (cs.map V.int))->(∀z∈cs,0<=z/\z<2147483629)->0<cs.length->m+2*n<=1000 ->
   (∀q ts H',Qi H H'->H' q=some (.lst (ts.map V.str))->Tok c t ts (3*t.dp+2)->YK ts<=50*t.sz->Q (.ref q) H')->Eh n vs H Q
def spTk(n:Nat):Sp:=λvs H Q _=>Eh n vs H Q
theorem AS(T:Txt P w K mg base a fd):∀n,T.k jx (n+3) 29 (spTk n)
 |0=>by
  refine T.ok 29 (λN A outer st H vs Q E hr h=>?_) (λvs H Q E h=>by obtain⟨p,R,c,m,t,cs,rfl,_⟩:=h;rfl)
  .obtain⟨p,R,c,m,t,cs,_,_,h,_⟩:=h;exact absurd h (yJ _)
 |n+1=>by
  refine T.ok 29 (λN A outer st H vs Q E hr h=>?_) (λvs H Q E h=>by obtain⟨p,R,c,m,t,cs,rfl,_⟩:=h;rfl);obtain⟨p,R,c,m,t,cs,rfl,ht,hdn,hd,hz,hc,J,g,B,hm,k⟩:=h;have yc:QF (n+3) _:=hr;have km:QF 2 _:=yc.mono ⋯;obtain⟨t2,h2,s⟩:∃t2,yV (T.cx 29 N A outer st H E) ((QK (sO 29)).drop 2) t2 /\
   ∀(H1:Hp)(q:qd)(z:Int)(b:Nat)(ts:qf),Qi H H1->H1 q=some (.lst (ts.map V.str))->Tok b t ts (3*t.dp)->YK ts+12<=50*t.sz->b<=2 ->
    t2 {nx:=λ_ H'=>Q .non H',rt:=Q} [some (.ref p),some (.int (c:Int)),some (.ref R),some (.int (m:Int)),some (.int z),some (.ref q),some (.int (b:Int)),none] H1:=by
   refine⟨_,(Qb (Ym zg rfl (Yq rfl (T 6) (qV (Qh QV (Yr Kd rfl (T 17) boot_int (qV (YH Kn (pv 6) (pv 1)) Qe)) (Yr Kd rfl (T 17) boot_int (qV (YH QH (Qh Qx (pv 4) Qa) Qa) Qe))) Qe)) (QG (i:=7) (sc 29).nd) (Qd (Ql (i:=5) (sc 29).nd (Qh QW (Qh QW (Qy (Qc Qf Qm)) (pv 5)) (Qy (Qc Qf Qm))))))
    (Qd (Qk (pv 5)))),λH1 q z b ts s1 hq tok L d=>?_⟩
   refine⟨_,U,_,U,_,_,U,U,.inr ⟨_,U,_,U,_,_,U,U,Bs,U,.inr ⟨_,U,_,_,U,U,?_⟩⟩⟩;generalize decide (V.int (z%5)=V.int 1)=b2;have key:∀(I:Bool),(I=false->c<=b)->∃j:Nat,(if I=true then (1:Int) else 0)+(if b2=true then (1:Int) else 0)=(j:Int)/\j<=2/\(j=0->c<=b):=λI h1=>by
    cases I<;>cases b2
    .exact⟨0,U,∅,λ_=>h1 rfl⟩
    .exact⟨1,U,∅,λz=>by omega⟩
    .exact⟨1,U,∅,λz=>by omega⟩
    .exact⟨2,U,∅,λz=>by omega⟩
   obtain⟨j,ej,hj,M⟩:=key (decide ((b:Int)<(c:Int))) (λz=>by have:=xR z;omega);refine⟨(j:Int),by rw[<-ej],⋯,⋯,?_⟩;refine YD (n:=(j:Int).toNat) (λi σ D=>∃(C:qd)(d:qf)(lv:Nat)(o:Option V),σ=[some (.ref p),some (.int (c:Int)),some (.ref R),some (.int (m:Int)),some (.int z),some (.ref C),some (.int (b:Int)),o]/\Qi H D/\D C=some (.lst (d.map V.str))/\Tok lv t d (3*t.dp+i)/\YK d+12<=50*t.sz+6*i/\(i=0->lv=b)/\(0<i->lv=2)) ⟨q,ts,b,none,U,s1,hq,tok,L,λ_=>rfl,λz=>absurd z ∅⟩ ?_ ?_
   .rintro i σ D hi ⟨C,d,lv,o,rfl,O,S,f,F,_,_⟩;have hg:=Up d;refine⟨Uv,λa1 H8 n8 s8 e8=>⟨_,U,a1,C,_,_,U,U,e8,s8 _ _ S,Vo (by rw[qi,ql];omega),λa2 H9 n9 s9 e9=>⟨Uv,λa3 H10 n10 G Y=>⟨a2,a3,_,_,U,U,G _ _ e9,Y,Vo (by rw[qm,qi,ql,ql];omega),λa4 H11 n11 Z e11=>?_⟩⟩⟩⟩;refine⟨a4,[("(":qc)]++d++[(")":qc)],2,_,U,(((O.trans s8).trans s9).trans G).trans Z,by rw[qH,qH];exact e11,f.in,by rw[Oi];omega,λz=>by omega,λ_=>rfl⟩
   .rintro σ D ⟨C,d,lv,o,rfl,O,S,f,F,G,Y⟩;refine⟨_,U,k C d D O S ⟨(f.r.lo ?_).up ⋯,f.p⟩ ⋯⟩;by_cases Z:j=0
    .rw[G ⋯];exact M Z
    .rw[Y ⋯];exact hc
  refine⟨_,(Qb (Ql (i:=4) (sc 29).nd (Qh Qz (Qp Qs (pv 2) (Qh Qx (pv 3) (Qv QQ rfl (T 2) zy (qV (pv 2) Qe)))) (Qh QV Qa (pv 3))))
   (Qb (Qu (PW.pt (Wb (Qn QH (Qp Qt (pv 0) Qa) Qf) (Wa (Qn QH (Qp Qt (pv 0) Qa) Qf)))) (Qb (Ql (i:=5) (sc 29).nd (Qh QW (Qy (Qc (Qp Qt (pv 0) Qa) Qm)) (Q7 (AS T n) yc rfl (T 20) (T.F 29).kp (T.B 29) .nil QP (qV (Qp Qt (pv 0) Qa) (qV Qa (qV (pv 2) (qV (Qh QV (pv 3) Qa) Qe))))))) (Qd (Ql (i:=6) (sc 29).nd Qa))) (Qd (Qu (Qn QH (Qp Qt (pv 0) Qa) Qf) (Qb (Ql (i:=5) (sc 29).nd (Qh QW (Qh QW (Q7 (AS T n) yc rfl (T 20) (T.F 29).kp (T.B 29) .nil QP (qV (Qp Qt (pv 0) Qa) (qV Qa (qV (pv 2) (qV (Qh QV (pv 3) Qa) Qe))))) (Qy (Qc Qf Qm))) (Q7 (AS T n) yc rfl (T 20) (T.F 29).kp (T.B 29) .nil QP (qV (Qp Qt (pv 0) Qa) (qV Qa (qV (pv 2) (qV (Qh QV (pv 3) Qa) Qe))))))) (Qd (Ql (i:=6) (sc 29).nd Qa))) (Qd (Qu (Qn QH (Qp Qt (pv 0) Qa) Qf) (Qb (Ql (i:=5) (sc 29).nd (Qh QW (Qh QW (Q7 (AS T n) yc rfl (T 20) (T.F 29).kp (T.B 29) .nil QP (qV (Qp Qt (pv 0) Qa) (qV Qa (qV (pv 2) (qV (Qh QV (pv 3) Qa) Qe))))) (Qy (Qc Qf Qm))) (Q7 (AS T n) yc rfl (T 20) (T.F 29).kp (T.B 29) .nil QP (qV (Qp Qt (pv 0) Qa) (qV Qa (qV (pv 2) (qV (Qh QV (pv 3) Qa) Qe))))))) (Qd (Ql (i:=6) (sc 29).nd Qa))) (Qd (Qu (Qn QH (Qp Qt (pv 0) Qa) Qf) (Qb (Ql (i:=5) (sc 29).nd (Q7 (SM T) km rfl (T 100) (T.F 28).kp (T.B 28) .nil QP (qV (pv 0) (qV (Qh Qz (pv 4) Qa) Qe)))) (Qd (Ql (i:=6) (sc 29).nd Qa))) (Qb (Ql (i:=5) (sc 29).nd (Yr (Kz K) rfl (T 24) boot_list (qV (pv 0) Qe))) (Qd (Ql (i:=6) (sc 29).nd Qa))))))))))
   h2)),?_⟩
  have hL:(0:Int)<((cs.map V.int).length:Int):=by rw[qi];omega
  obtain⟨z,ez,z0,z1⟩:=Yg g ((m:Int)%((cs.map V.int).length:Int)) (qF _ ⋯) (by have:=qA (m:Int) hL;rw[qi] at this⊢;exact this);refine⟨_,U,_,U,_,U,R,_,U,.inl (zm.of J),_,_,U,U,hL,R,_,_,_,U,U,zm.of J,ez,_,U,_,_,U,U,_,_,U,U,⟨⋯,⋯⟩,?_⟩;generalize z / (1+(m:Int))=M;have wrap:∀(q:qd)(u:Tr)(nm:qc)(a1:qd)(H1:Hp),Qi H H1->H1 a1=some (.lst [V.str nm])->jD H q u->t.dp=u.dp+1->t.sz=u.sz+1->nm.length<=6->wj nm->(∀us,P2 u us (3*u.dp+2)->P2 t (nm::us) (3*u.dp+3))->∀X:V->Hp->Prop,(∀a3 C,(∃us,Qi H C/\C a3=some (.lst ((nm::us).map V.str))/\Tok 2 t (nm::us) (3*t.dp)/\YK (nm::us)+12<=50*t.sz)->X (.ref a3) C)->Eh n [.ref q,.int 2,.ref R,.int ((m:Int)+1)] H1 (λy H2=>S7 (.ref a1) y H2 X):=λq u nm a1 H1 s1 e1 F hdu hsu hnl hpc hP X hX=>by
   refine⟨q,R,2,m+1,u,cs,U,F.mono s1,⋯,⋯,⋯,⋯,s1 _ _ J,g,B,⋯,λO us H2 s2 S b Y=>?_⟩;have hg:=Up us;refine⟨a1,O,_,_,U,U,s2 _ _ e1,S,Vo (by rw[qi,ql];omega),λa3 C n3 s3 G=>hX a3 C ⟨us,(s1.trans s2).trans s3,G,⟨?_,?_⟩,?_⟩⟩
   .exact(show PC 2 t (nm::us) (3*u.dp+3) from hP us b.r).up ⋯
   .intro x D;rcases qy.mp D with rfl|D
    .exact hpc
    .exact b.p x D
   .show nm.length+2+YK us+12<=50*t.sz;omega
  refine ht.look (λnm ps e Z hLf hp hl hdp hsz=>?_) (λl h I e hb=>?_) (λq u I e F=>?_) (λq u I e F=>?_) (λq r u v I e F hv=>?_) (λq r u v I e F hv=>?_)
  .refine⟨_,U,p,_,_,_,U,U,zu.of e,QB (j:=0) rfl,U,_,U,zO Z.n1 ⟨_,U,p,_,_,_,U,U,zu.of e,QB (j:=0) rfl,U,_,U,zO Z.n2 ⟨_,U,p,_,_,_,U,U,zu.of e,QB (j:=0) rfl,U,_,U,zO Z.n3 ⟨_,U,p,_,_,_,U,U,zu.of e,QB (j:=0) rfl,U,_,U,zO Z.n4 ⟨_,U,p,_,_,_,U,U,zu.of e,QB (j:=0) rfl,U,_,U,zO Z.n5 ?_⟩⟩⟩⟩⟩;exact⟨_,U,p,_,U,.inr (zu.of e),λL H1 f s1 e1=>s H1 L M 2 (nm::ps) s1 e1 ⟨(show PC 2 t (nm::ps) 0 from P2.leaf hLf).up (zb _),hp⟩ ⋯ ∅⟩
  .subst I;refine⟨_,U,p,_,_,_,U,U,zu.of e,QB (j:=0) rfl,U,_,U,zO ∅ ⟨_,U,p,_,_,_,U,U,zu.of e,QB (j:=0) rfl,U,_,U,zO ∅ ⟨_,U,p,_,_,_,U,U,zu.of e,QB (j:=0) rfl,U,_,U,zO ∅ ⟨_,U,p,_,_,_,U,U,zu.of e,QB (j:=0) rfl,U,_,U,zO ∅ ⟨_,U,p,_,_,_,U,U,zu.of e,QB (j:=0) rfl,U,_,U,Us ?_⟩⟩⟩⟩⟩;exact⟨_,U,_,U,_,_,U,U,⟨∅,∅⟩,p,_,l,h,U,e,hb,λL ts H1 s1 e1 tok d=>s H1 L M 2 ts s1 e1 tok (by show YK ts+12<=50*1;omega) ∅⟩
  .subst I;refine⟨_,U,p,_,_,_,U,U,zu.of e,QB (j:=0) rfl,U,_,U,Us (QI ?_)⟩;exact⟨_,U,p,_,_,_,U,U,zu.of e,QB (j:=0) rfl,Uv,λa1 H1 f s1 e1=>⟨_,U,p,_,_,_,U,U,zu.of (s1 _ _ e),QB (j:=1) rfl,_,U,_,U,_,_,U,U,wrap q u Zn a1 H1 s1 e1 F rfl rfl ∅ (Y9 ∅ ∅) (λus h=>h.nt hd) _ (λa3 C ⟨us,s3,G,tok,d⟩=>s C a3 M 2 _ s3 G tok d ∅)⟩⟩
  .subst I;refine⟨_,U,p,_,_,_,U,U,zu.of e,QB (j:=0) rfl,U,_,U,zO ∅ ⟨_,U,p,_,_,_,U,U,zu.of e,QB (j:=0) rfl,U,_,U,Us ?_⟩⟩;exact⟨_,U,p,_,_,_,U,U,zu.of e,QB (j:=0) rfl,Uv,λa1 H1 f s1 e1=>⟨_,U,p,_,_,_,U,U,zu.of (s1 _ _ e),QB (j:=1) rfl,_,U,_,U,_,_,U,U,wrap q u ZZ a1 H1 s1 e1 F rfl rfl ∅ (Y9 ∅ ∅) (λus h=>h.thr hd) _ (λa3 C ⟨us,s3,G,tok,d⟩=>s C a3 M 2 _ s3 G tok d ∅)⟩⟩
  .subst I;have hdm:(Tr.jN u v).dp=max u.dp v.dp+1:=rfl;have hsm:(Tr.jN u v).sz=u.sz+v.sz+1:=rfl;refine⟨_,U,p,_,_,_,U,U,zu.of e,QB (j:=0) rfl,U,_,U,zO ∅ ⟨_,U,p,_,_,_,U,U,zu.of e,QB (j:=0) rfl,U,_,U,zO ∅ ⟨_,U,p,_,_,_,U,U,zu.of e,QB (j:=0) rfl,U,_,U,Us ?_⟩⟩⟩;refine⟨_,U,p,_,_,_,U,U,zu.of e,QB (j:=1) rfl,_,U,_,U,_,_,U,U,q,R,1,m+1,u,cs,U,F,⋯,⋯,⋯,⋯,J,g,B,⋯,λL us H1 s1 e1 f tl1=>?_⟩;have hg1:=Up us;refine⟨Uv,λa1 H2 n2 s2 S=>⟨L,a1,_,_,U,U,s2 _ _ e1,S,Vo (by rw[qi,ql];omega),λa2 C n3 s3 G=>?_⟩⟩;have d:=(s1.trans s2).trans s3;refine⟨_,U,p,_,_,_,U,U,zu.of (d _ _ e),QB (j:=2) rfl,_,U,_,U,_,_,U,U,r,R,2,m+2,v,cs,U,hv.mono d,⋯,⋯,⋯,⋯,d _ _ J,g,B,⋯,λO vs H4 s4 e4 b Y=>?_⟩;have hg2:=Up vs;refine⟨a2,O,_,_,U,U,s4 _ _ G,e4,Vo (by rw[qm,qi,qi,ql];omega),λa3 H5 n5 s5 e5=>?_⟩;have w1:YK [Zo]<=5:=by decide +kernel
   refine s H5 a3 M 1 (us++Zo::vs) ((d.trans s4).trans s5) (by rw[qH];rw[zh] at e5;exact e5) ⟨?_,?_⟩ ?_ ∅
   .exact(show PC 1 _ _ (3*max u.dp v.dp+2) from P1.jN (f.r.up (m':=3*max u.dp v.dp+2) ⋯) (b.r.up (m':=3*max u.dp v.dp+2) ⋯) hd).up ⋯
   .exact xI.app f.p λx D=>by
     rcases qy.mp D with rfl|D
     .exact Y9 ∅ ∅
     .exact b.p x D
   .rw[Ys,show Zo::vs=[Zo]++vs from rfl,Ys];omega
  .subst I;have hdm:(Tr.jL u v).dp=max u.dp v.dp+1:=rfl;have hsm:(Tr.jL u v).sz=u.sz+v.sz+1:=rfl;refine⟨_,U,p,_,_,_,U,U,zu.of e,QB (j:=0) rfl,U,_,U,zO ∅ ⟨_,U,p,_,_,_,U,U,zu.of e,QB (j:=0) rfl,U,_,U,zO ∅ ⟨_,U,p,_,_,_,U,U,zu.of e,QB (j:=0) rfl,U,_,U,zO ∅ ⟨_,U,p,_,_,_,U,U,zu.of e,QB (j:=0) rfl,U,_,U,Us ?_⟩⟩⟩⟩;refine⟨_,U,p,_,_,_,U,U,zu.of e,QB (j:=1) rfl,_,U,_,U,_,_,U,U,q,R,0,m+1,u,cs,U,F,⋯,⋯,⋯,⋯,J,g,B,⋯,λL us H1 s1 e1 f tl1=>?_⟩;have hg1:=Up us;refine⟨Uv,λa1 H2 n2 s2 S=>⟨L,a1,_,_,U,U,s2 _ _ e1,S,Vo (by rw[qi,ql];omega),λa2 C n3 s3 G=>?_⟩⟩;have d:=(s1.trans s2).trans s3;refine⟨_,U,p,_,_,_,U,U,zu.of (d _ _ e),QB (j:=2) rfl,_,U,_,U,_,_,U,U,r,R,1,m+2,v,cs,U,hv.mono d,⋯,⋯,⋯,⋯,d _ _ J,g,B,⋯,λO vs H4 s4 e4 b Y=>?_⟩;have hg2:=Up vs;refine⟨a2,O,_,_,U,U,s4 _ _ G,e4,Vo (by rw[qm,qi,qi,ql];omega),λa3 H5 n5 s5 e5=>?_⟩;have w1:YK [Zr]<=5:=by decide +kernel
   refine s H5 a3 M 0 (us++Zr::vs) ((d.trans s4).trans s5) (by rw[qH];rw[zh] at e5;exact e5) ⟨?_,?_⟩ ?_ ∅
   .exact(show PC 0 _ _ (3*max u.dp v.dp+2) from P0.jL (f.r.up (m':=3*max u.dp v.dp+2) ⋯) (b.r.up (m':=3*max u.dp v.dp+2) ⋯) hd).up ⋯
   .exact xI.app f.p λx D=>by
     rcases qy.mp D with rfl|D
     .exact Y9 ∅ ∅
     .exact b.p x D
   .rw[Ys,show Zr::vs=[Zr]++vs from rfl,Ys];omega
def wa:qf:=["(",")",","]
def BD{c:qc}(h:decide (c∈wa)=true):YV c "(" ")" ","=((("":qc)++" ")++c)++" ":=by
 have h:=qM h;simp only[wa,qy,q5,ji] at h;rcases h with rfl|rfl|rfl
 .exact AH
 .exact Gv
 .exact Yt (by rw[YB];decide +kernel)
def WC(y:qc):v3 (y++" ")=v3 y:=by
 rw[show y++(" ":qc)=(y++" ")++"" from(V4 _).symm,UI,WB,ze]
def HS(x:qc):yb (x++" ")=yb x:=by
 rw[show x++(" ":qc)=(x++" ")++"" from(V4 _).symm,BN,WL,ze]
def Mq{c:qc}(h:decide (c∈wa)=true)(x z:qc):yb ((x++c)++z)=yb (x++c)++yb z:=by
 unfold yb;rw[U3,U3,BD h,<-YU,UI,WC]
def CN{c:qc}(h:decide (c∈wa)=true)(x:qc):yb (x++c)=yb x++yb c:=by
 unfold yb;rw[U3,BD h,WC,<-YU,WC,<-YU,Vp,UI,show(" ":qc)++c=(("":qc)++" ")++c by rw[Vp],UI,WB,jK]
theorem Ir{ls a:qc}{f:Int}(b:x=""\/∃y,x=y++ls)(f0:0<=f)(f2:f<=2)(h0:f=0->decide (ls∈wa)=true\/decide (a∈wa)=true):yb ((x++Txt.mul " " f)++a)=yb x++yb a:=by
 rcases (by omega:f=0\/f=1\/f=2) with rfl|rfl|rfl
 .rw[show Txt.mul " " 0="" by decide +kernel,V4];rcases h0 rfl with h|h
  .rcases b with rfl|⟨y,rfl⟩
   .rw[Vp,WL,jK]
   .exact Mq h y a
  .exact CN h x
 .rw[show Txt.mul " " 1=" " by decide +kernel,BN]
 .rw[show Txt.mul " " 2=(" ":qc)++" " by decide +kernel,<-YU,BN,HS]
def VL{f:Int}(f0:0<=f)(f2:f<=2):(Txt.mul " " f).length<=2:=by
 rw[O9,show(" ":qc).length=1 by decide +kernel];omega
def Az{α:Type}{ts:qb α}{x:α}(h:ts[i]?=some x):ts.take (i+1)=ts.take i++[x]:=by rw[zo,h];rfl
inductive aQ(vs:qb V)(H:Hp)(Q:VK)(E:XK):Prop
 |mk:∀(p R:qd)(ts:qf)(cs:qb Int),vs=[.ref p,.ref R]->H p=some (.lst (ts.map V.str))->H R=some (.lst (cs.map V.int))->(∀z∈cs,0<=z/\z<2147483629)->0<cs.length->xI ts->YK ts<=60000->(∀x H',Qi H H'->yb x=ts->x.length<=YK ts->Q (.str x) H')->aQ vs H Q E
theorem bQ(T:Txt P w K mg base a fd):T.k jx 1 30 aQ:=by
 refine T.ok 30 (λX A outer st H vs Q E hr h=>?_)
 .obtain⟨p,R,ts,cs,rfl,N,Y,D,Z,F,htl,k⟩:=h;have hg:=Up ts;refine⟨_,(Qb (Ql (i:=2) (sc 30).nd Qf)
   (Qb (Ql (i:=3) (sc 30).nd Qf)
   (Qb (Ym zg rfl (Yq rfl (T 6) (qV (Qv QQ rfl (T 2) zy (qV (pv 0) Qe)) Qe)) (QG (i:=4) (sc 30).nd) (Qb (Ql (i:=5) (sc 30).nd (Qh Qx (Qh Qz (Qp Qs (pv 1) (Qh Qx (pv 4) (Qv QQ rfl (T 2) zy (qV (pv 1) Qe)))) (Qh QV Qa (pv 4))) Qa))
   (Qb (Qu (PW.pt (UP (Qn QH (pv 5) Qa) (UP (Qn UY (pv 3) (Qy (Qc Qf (Qc Qf (Qc Qf Qm)))) (by with_unfolding_all rfl)) (Vb (Qn UY (Qp Qs (pv 0) (pv 4)) (Qy (Qc Qf (Qc Qf (Qc Qf Qm)))) (by with_unfolding_all rfl)))))) (Qd (Ql (i:=5) (sc 30).nd Qa)) Qq)
   (Qb (Ql (i:=2) (sc 30).nd (Qh QU (Qh QU (pv 2) (Qh U5 Qf (pv 5))) (Qp Qs (pv 0) (pv 4))))
   (Qd (Ql (i:=3) (sc 30).nd (Qp Qs (pv 0) (pv 4))))))))
   (Qd (Qk (pv 2)))))),?_⟩
  have G:((ts.map V.str).length:Int)=(ts.length:Int):=by rw[qi]
  refine⟨_,U,p,_,U,.inl (zm.of N),_,U,⋯,⋯,?_⟩;refine YD (n:=((ts.map V.str).length:Int).toNat) (λi σ j=>∃(x ls:qc)(o q:Option V),σ=[some (.ref p),some (.ref R),some (.str x),some (.str ls),o,q]/\Qi H j/\yb x=ts.take i/\x.length<=YK (ts.take i)/\(x=""\/∃y,x=y++ls)) ⟨"","(",none,none,U,Qi.refl _,WL,zb _,.inl rfl⟩ ?_ ?_
  .rintro i σ j hi ⟨x,ls,o,q,rfl,r,C,l,s⟩;have I:i<ts.length:=by omega
   obtain⟨e,g⟩:∃e,ts[i]?=some e:=⟨ts[i],qx I⟩;have b:xX (ts.map V.str) (0+(i:Int))=some (.str e):=by rw[kO];exact QB (by rw[qC,g];rfl)
   have c:=r _ _ N;have t:=r _ _ Y;have O:(0:Int)<((cs.map V.int).length:Int):=by rw[qi];omega
   obtain⟨z,ez,z0,z1⟩:=Yg D ((0+(i:Int))%((cs.map V.int).length:Int)) (qF _ ⋯) (by have:=qA (0+(i:Int)) O;rw[qi] at this⊢;exact this);have J:yb e=[e]:=(F e (qL g)).p;have L:YK (ts.take (i+1))=YK (ts.take i)+(e.length+2):=by rw[Az g,Ys];rfl
   have hmx:YK (ts.take (i+1))<=YK ts:=by
    have:=Ys (ts.take (i+1)) (ts.drop (i+1));rw[zG] at this;omega
   have fin:∀(f:Int)(u:Hp),Qi j u->0<=f->f<=2->(f=0->decide (ls∈wa)=true\/decide (e∈wa)=true)->∃(v B:qc)(o q:Option V),[some (V.ref p),some (.ref R),some (.str ((x++Txt.mul " " f)++e)),some (.str e),some (.int (0+(i:Int))),some (.int f)]=[some (.ref p),some (.ref R),some (.str v),some (.str B),o,q]/\Qi H u/\yb v=ts.take (i+1)/\v.length<=YK (ts.take (i+1))/\(v=""\/∃y,v=y++B):=λf u m f0 f2 h0=>by
    refine⟨_,_,_,_,U,r.trans m,?_,?_,.inr ⟨_,U⟩⟩
    .rw[Ir s f0 f2 h0,C,J,Az g]
    .have:=VL f0 f2;rw[zp,zp,L];omega
   have m0:0<=z / (3+(0+(i:Int)))%3:=qF _ ∅;have m1:z / (3+(0+(i:Int)))%3<3:=qA _ ∅;refine⟨_,U,_,U,_,U,R,_,U,.inl (zm.of t),_,_,U,U,O,R,_,_,_,U,U,zm.of t,ez,_,U,_,_,U,U,_,_,U,U,⟨⋯,⋯⟩,_,_,U,U,K4,?_⟩;generalize z / (3+(0+(i:Int)))%3=f at m0 m1;refine⟨_,U,U,_,U,?_⟩;have M:Qi j j:=Qi.refl _;by_cases hf:f=0
   .rw[hf,qv rfl];refine QI ⟨_,U,VS,λD1 u n8 m e8=>⟨D1,wa.map V.str,U,.inl (zm.of e8),U,Q2 _,_,U,?_⟩⟩;rw[qG rfl,YC]
    cases hl:decide (ls∈wa) with
    |true=>exact QA (QA ⟨_,U,_,U,_,_,U,U,∅,⋯,⋯,_,_,U,U,Vo (by have:=VL (f:=0) ⋯ ⋯;omega),_,U,_,U,p,_,_,_,U,U,zm.of (m _ _ c),b,_,_,U,U,Vo (by have:=VL (f:=0) ⋯ ⋯;rw[zp];omega),_,U,_,U,p,_,_,_,U,U,zm.of (m _ _ c),b,fin 0 u m ⋯ ⋯ (λ_=>.inl hl)⟩)
    |false=>
     refine QI ⟨_,U,_,U,p,_,_,_,U,U,zm.of (m _ _ c),b,VS,λD2 S n9 s9 e9=>⟨D2,wa.map V.str,U,.inl (zm.of e9),U,Q2 _,_,U,?_⟩⟩;have d:=m.trans s9;rw[qG rfl,YC]
     cases hk:decide (e∈wa) with
     |true=>exact QA ⟨_,U,_,U,_,_,U,U,∅,⋯,⋯,_,_,U,U,Vo (by have:=VL (f:=0) ⋯ ⋯;omega),_,U,_,U,p,_,_,_,U,U,zm.of (d _ _ c),b,_,_,U,U,Vo (by have:=VL (f:=0) ⋯ ⋯;rw[zp];omega),_,U,_,U,p,_,_,_,U,U,zm.of (d _ _ c),b,fin 0 S d ⋯ ⋯ (λ_=>.inr hk)⟩
     |false=>exact QI ⟨_,U,_,U,_,_,U,U,∅,⋯,⋯,_,_,U,U,Vo (by have:=VL (f:=1) ⋯ ⋯;omega),_,U,_,U,p,_,_,_,U,U,zm.of (d _ _ c),b,_,_,U,U,Vo (by have:=VL (f:=1) ⋯ ⋯;rw[zp];omega),_,U,_,U,p,_,_,_,U,U,zm.of (d _ _ c),b,fin 1 S d ⋯ ⋯ (λz=>absurd z ∅)⟩
   .rw[qr (λz=>hf (by injection z))];exact QA (QA ⟨_,U,_,U,_,_,U,U,∅,⋯,⋯,_,_,U,U,Vo (by have:=VL (f:=f) ⋯ ⋯;omega),_,U,_,U,p,_,_,_,U,U,zm.of (M _ _ c),b,_,_,U,U,Vo (by have:=VL (f:=f) ⋯ ⋯;rw[zp];omega),_,U,_,U,p,_,_,_,U,U,zm.of (M _ _ c),b,fin f j M ⋯ ⋯ (λz=>absurd z hf)⟩)
  .rintro σ j ⟨x,ls,o,q,rfl,r,C,l,s⟩;have b:ts.take ((ts.map V.str).length:Int).toNat=ts:=by rw[G,jr,List.take_length]
   rw[b] at C l;exact⟨_,U,k x j r C l⟩
def vT(p w:qc):Act:=if p=Zi then .place w else if p=Zm then .mark w else .unmark w
def vE:qf->Option (Act×qf)
 |[]=>none
 |p::r=>if p=Zg then some (.stop,r) else if p∈([Zi,Zm,Zh]:qf) then (vk r).map λx=>(vT p x.1,x.2) else none
def cw{p:qc}(h:p∈([Zi,Zm,Zh]:qf))(a:isW x=true)(e:H q=some (.tup [.str p,.str x])):xY H q (vT p x):=by
 simp only[qy,q5,ji] at h;have w:=Cm a;rcases h with rfl|rfl|rfl
 .exact⟨e,w⟩
 .exact⟨e,w⟩
 .exact⟨e,w⟩
def PV{x:Act}(h:vE rs=some (x,r)):r.length<rs.length:=by
 cases rs with
 |nil=>cases h
 |cons p q=>
  have h:(if p=Zg then some (Act.stop,q) else if p∈([Zi,Zm,Zh]:qf) then (vk q).map (λx=>(vT p x.1,x.2)) else none)=some (x,r):=h;rw[qw];split at h
  .injection h with h;injection h with _ h;subst h;omega
  .split at h
   .obtain⟨y,b,a⟩:=zB.mp h
    injection a with _ a
    obtain⟨e,_⟩:=Xj (p:=y.1) (r:=y.2) b;rw[e,qw,<-a];omega
   .cases h
inductive Fp(a:jT)(vs:qb V)(H:Hp)(Q:VK)(E:XK):Prop
 |mk:∀R row rs,vs=[.ref R]->Yc a H R row rs->(∀x r,vE rs=some (x,r)->∀q H',KR R H H'->Yc a H' R row r->xY H' q x->Q (.ref q) H')->(vE rs=none->vm a E R row H)->Fp a vs H Q E
def aM(a:jT):Sp:=λvs H Q E=>Fp a vs H Q E
def MJ(T:Txt P w K mg base a fd):T.k (yZ P w) 4 80 (aM a):=by
 obtain⟨j,u,t⟩:=(T 114);refine(T.F 80).kF (sc 80) (λvs H Q E h=>?_) (λy A outer st H vs Q E m h=>?_)
 .obtain⟨R,row,rs,rfl,_⟩:=h;rfl
 .obtain⟨R,row,rs,rfl,e,k,f⟩:=h;obtain⟨dx,l,ps,n,z,_⟩:=id e.ex;refine⟨_,(Qb (Ql (i:=1) (sc 80).nd (T.mn (pv 0) (T 0) (T 32) (KU T)))
   (Qb (Qu (Qn QH (pv 1) Qf) (Qd (Qk (QJ (Qc Qf Qm)))) Qq)
   (Qb (Qu (Qn Vv (pv 1) (Yo (v:=.ref j) rfl ⟨_,u,U⟩) (by with_unfolding_all rfl)) (Qd (Qk (QJ (Qc (pv 1) (Qc (Ud (pv 0) (T 0) (T 88) (MG T) m.up (T.B 72) .nil YL) Qm))))) Qq)
   (Qd (Um (T 3) m.hd (UM (T 3) (T 11) (T 12) (Kp T) m.up rfl (T 8) (T.B 81) rfl (qV (AQ (Y2 (WJ (pv 1)) (Y2 Qf XZ))) (qV (Qw (pv 0) U) Qe)))))))),?_⟩
  have pc:=e.pc;refine⟨_,U,R,dx,_,U,z,U,?_⟩
  cases rs with
  |nil=>
   exact .fin R row rfl e λH1 b c=>⟨_,U,U,_,U,BC ∅ ⟨_,U,j,_,U,.inr (t H1),U,Q2 _,_,U,A3 ∅ (As (D:={nx:=λ_ H'=>Q .non H',rt:=Q}) T rfl rfl b c pc0 ∅ (f rfl))⟩⟩
  |cons p r=>
   have B:=(pc p qo).1;refine .mk R row p r rfl e λH1 b c=>⟨_,U,U,_,U,?_⟩;by_cases g:p=Zg
   .subst g;exact Dw ⟨Uv,λq H2 C s2 d=>k .stop r (show(if Zg=Zg then some (Act.stop,r) else if Zg∈([Zi,Zm,Zh]:qf) then (vk r).map (λx=>(vT Zg x.1,x.2)) else none)=_ from qG rfl) q H2 (b.trans (KR.of s2)) (c.mono s2) ⟨d,trivial⟩⟩
   refine BC (qr g) ⟨_,U,j,_,U,.inr (t H1),U,Q2 _,_,U,?_⟩;by_cases d:p∈([Zi,Zm,Zh]:qf)
   .have F:vE (p::r)=(vk r).map λx=>(vT p x.1,x.2):=(qz g).trans (qG d);rw[F] at k f;obtain⟨o,N,G,O,s,_⟩:=id c.ex;refine EI (qv d) ⟨_,U,_,U,R,o,_,U,s,U,R,row,r,U,c,λx S hw H2 I J=>⟨U2,λq L C s3 M=>?_⟩,λhw=>(f (by rw[hw];rfl)).step b⟩;exact k _ _ (by rw[hw];rfl) q L ((b.trans I).trans (KR.of s3)) (J.mono s3) (cw d (Xj hw).2 M)
   .exact A3 (qr d) (As (D:={nx:=λ_ H'=>Q .non H',rt:=Q}) T rfl rfl b c.rw B ∅ (f ((qz g).trans (qz d))))
def wH:Nat->qb Act->qf->Option (qb Act×qf)
 |0,as,rs=>if hd1 rs="," then none else some (as,rs)
 |n+1,as,rs=>if hd1 rs="," then (vE (rs.drop 1)).bind (λx=>wH n (as++[x.1]) x.2) else some (as,rs)
def afF(y:Act×qf):Option (qb Act):=(wH y.2.length [y.1] y.2).bind λz=>if z.2=[] then some z.1 else none
def rtF(x:Tr×qf):Option (Tr×qb Act):=if hd1 x.2=Zd then ((vE (x.2.drop 1)).bind afF).map (λas=>(x.1,as)) else none
def WS(ps:qf):Option (Tr×qb Act):=if hd1 ps=Zj then (v8 (sF 41 0) (ps.drop 1)).bind rtF else none
def KR2(R l:qd)(H H':Hp):Prop:=∀c o,c≠R->c≠l->H c=some o->H' c=some o
inductive LA(a:jT)(vs:qb V)(H:Hp)(Q:VK)(E:XK):Prop
 |mk:∀(x:qc)(n:Int),vs=[.str x,.int n]->KH x->(∀t as,WS (yb x)=some (t,as)->∀q y l (ps:qb (qd×Act)) H',Qi H H'->H' q=some (.tup [.ref y,.ref l])->H' l=some (.lst (ps.map λz=>V.ref z.1))->ps.map (·.2)=as->QC a H' y t->t.dp<30->(∀z∈ps,xY H' z.1 z.2)->Q (.ref q) H')->(WS (yb x)=none->∀H' m,Qi H H'->H' m=some (.xd [(Zs,.int n)])->E (.ref (a 103)) (some m) H')->LA a vs H Q E
def spRR(a:jT):Sp:=λvs H Q E=>LA a vs H Q E
def Yc.at2{row:V}(r:Yc a H R row rs):∃dx b,H R=some (.ins (a 106) dx b)/\b.lookup ("read_act":qc)=none:=by
 obtain⟨dx,l,ps,m,e,_⟩:=r.ex;exact⟨dx,_,e,U⟩
theorem Yc.len{row:V}(r:Yc a H R row rs):rs.length<=1000000:=by
 obtain⟨dx,l,ps,k,e1,c,b,_,h,_⟩:=r.ex;rw[<-b,qZ];omega
def QC.kr2{row:V}(h:QC a H y t)(r:Yc a H R row rs)(e:H l=some (.lst xs))(k:KR2 R l H H'):QC a H' y t:=by
 obtain⟨dx,i,ps,n,e1,_⟩:=r.ex;have g:¬Zv=Za:=by decide +kernel
 refine h.tj (λc xs b=>k c _ (QX b e1 nofun) (QX b e nofun) b) λc D d f j b=>k c _ (λz=>?_) (QX b e nofun) b;rw[z,e1] at b
 injection b with b
 injection b with _ _ b
 injection b with b _
 injection b with b _
 exact g b
def Yc.upl{z:qd}{row:V}(r:Yc a H R row rs)(e:H l=some (.lst (V.ref z::xs))):Yc a (upd H l o) R row rs:=by
 obtain⟨dx,d,ps,n,e1,b,f⟩:=r.ex;have c:d≠l:=λq=>by
  rw[q,e] at b
  injection b with b
  injection b with b
  cases ps with
  |nil=>cases b
  |cons p r=>injection b with b _;cases b
 exact⟨dx,d,ps,n,by rw[Qj (QX e1 e nofun)];exact e1,by rw[Qj c];exact b,f⟩
theorem bM(T:Txt P w K mg base a fd):T.kT (yZ P w) 167 11 (spRR a):=by
 refine(T.F 11).okXDT (sc 11) (λvs H Q E h=>?_) (λcdv A outer st H vs Q E M h=>?_)
 .obtain⟨x,n,rfl,_⟩:=h;rfl
 .obtain⟨x,n,rfl,hl,k,rf⟩:=h;refine⟨_,(WG (OJ (i:=2) (sc 11).nd U (Or.inl U) (Mg (T 184) (SH T) M.up rfl (T 183) (T.B 67) QP (qV (pv 0) (qV (pv 1) Qe))))
   (Qb (Q4 (Q3 (pv 2) (T 0) (T 33) (BR T) M.up (T.B 71) .nil YL (qV Qf Qe)))
   (Qb (Ql (i:=3) (sc 11).nd (Ud (pv 2) (T 0) (T 186) (bI T) M.up (T.B 79) .nil YL))
   (Qb (Q4 (Q3 (pv 2) (T 0) (T 33) (BR T) M.up (T.B 71) .nil YL (qV Qf Qe)))
   (Qb (Ql (i:=4) (sc 11).nd (Qy (Qc (Ud (pv 2) (T 0) (T 91) (MJ T) M.up (T.B 80) .nil YL) Qm)))
   (Qb (Wc kY (Q5 (T.me (pv 2) (T 0) (T 21) (Xv T) (qV Qf Qe))) (Qd (Q4 (Ue plainAttrs_list zk zl Q8 (pv 4) (qV (Ud (pv 2) (T 0) (T 91) (MJ T) M.up (T.B 80) .nil YL) Qe)))))
   (Qb (Q4 (Q3 (pv 2) (T 0) (T 33) (BR T) M.up (T.B 71) .nil YL (qV (Yo rfl (T 68)) Qe)))
   (Qd (Qk (QJ (Qc (pv 3) (Qc (pv 4) Qm)))))))))))),?_⟩
  refine⟨_,U,_,U,λR dx B nd ne=>?_⟩;have sm:Qi H (upd (upd H dx (.own R)) R (.ins (a 106) dx [])):=λc o e=>by rw[Qj (Qo e B),Qj (Qo e nd)];exact e
  refine⟨R,dx,x,.int n,U,Qg,hl,λH1 hk1 r1=>⟨U,?_⟩⟩;have s1:Qi H H1:=λc o e=>hk1 c o (Qo e B) (sm _ _ e);have F:WS (yb x)=none->vm a E R (.int n) H1:=λz H' m kr e=>rf z H' m (λc o f=>kr c o (Qo f B) (s1 _ _ f)) e;obtain⟨N,fs1,eR1,z1,z2,z3,z4,z5,z6,z7,z8,z9⟩:=r1.at
  refine⟨_,U,R,N,_,U,eR1,z7,?_⟩;by_cases h1:hd1 (yb x)=Zj
  .have er:=X9 h1 ∅;rw[er] at r1;refine .yes R _ Zj _ rfl r1 λH2 k2 r2=>?_;have e1:WS (yb x)=(v8 (sF 41 0) ((yb x).drop 1)).bind rtF:=qG h1;obtain⟨dx2,fs2,eR2,_,_,_,_,_,_,y7,_,y9⟩:=r2.at
   refine⟨_,U,R,dx2,_,U,eR2,y9,R,_,_,U,r2,λt rest hw y H3 k3 r3 hc=>?_,λhw=>(F (by rw[e1,hw];rfl)).step k2⟩;have hdt:=(Gr (Vs (Uq 41 0))).low hw;rw[show v8 (sF 41 0) ((yb x).drop 1)=some (t,rest) from hw,zj] at e1;obtain⟨dx3,fs3,eR3,_,_,_,_,_,_,x7,_⟩:=r3.at
   refine⟨_,U,R,dx3,_,U,eR3,x7,?_⟩;by_cases h3:hd1 rest=Zd
   .have er3:=X9 h3 ∅;rw[er3] at r3;refine .yes R _ Zd _ rfl r3 λH4 k4 r4=>?_;have e4:WS (yb x)=((vE (rest.drop 1)).bind afF).map (λas=>(t,as)):=e1.trans (qG h3);have O:=(k2.trans k3).trans k4;have c4:=hc.kr r3 k4;obtain⟨dx4,fs4,eR4,u4⟩:=r4.at2;refine⟨_,U,R,dx4,_,U,eR4,u4,R,_,_,U,r4,λac r' ha q H5 k5 r5 aq=>⟨Uv,λl H6 nl s6 e6=>?_⟩,λha=>(F (by rw[e4,ha];rfl)).step O⟩;rw[ha,zj] at e4;have c6:=(c4.kr r4 k5).mono s6;have r6:=r5.mono s6;have a6:=aq.mono s6;have s16:Qi H H6:=λc o f=>s6 c o (k5 c o (Qo f B) (O c o (Qo f B) (s1 _ _ f)));have lR:H l=none:=by
     cases z:H l with
     |none=>rfl
     |some o=>
      have:=k5 l o (Qo z B) (O l o (Qo z B) (s1 _ _ z));rw[nl] at this;cases this
    have L:∀{H'},WS (yb x)=none->Qi H H'->vm a E R (.int n) H':=λz s H'' m kr e=>rf z H'' m (λc o f=>kr c o (Qo f B) (s _ _ f)) e;refine VX (λσ G=>∃(ps:qb (qd×Act))(d:qf)(m:Nat),σ=[some (.str x),some (.int n),some (.ref R),some (.ref y),some (.ref l)]/\Qi H G/\Yc a G R (.int n) d/\G l=some (.lst (ps.map λz=>V.ref z.1))/\ps≠[]/\(∀z∈ps,xY G z.1 z.2)/\QC a G y t/\d.length<=m/\ps.length+d.length<=1000001/\WS (yb x)=((wH m (ps.map (·.2)) d).bind λz=>if z.2=[] then some z.1 else none).map (λas=>(t,as))) (λσ G=>V8 G R) ⟨[(q,ac)],r',r'.length,U,s16,r6,e6,by simp,λz hz=>by rw[qq.mp hz];exact a6,c6,qp _,?_,e4⟩ ?_ ?_
    .have:=r6.len;show 1+r'.length<=_;omega
    .rintro σ G ⟨ps,d,m,rfl,s7,C,e7,hps,a7,c7,l7,n7,S⟩;obtain⟨dx7,fs7,g,v1,_⟩:=C.at
     obtain⟨j,b,rfl⟩:∃j b,ps=j::b:=by cases ps with|nil=>exact absurd rfl hps|cons j b=>exact⟨j,b,rfl⟩
     by_cases hh:hd1 d=","
     .have er7:=X9 hh ∅;have ll:(d.drop 1).length+1=d.length:=by
       have:=q8 List.length er7;rw[qw] at this;exact this.symm
      obtain⟨m',rfl⟩:∃m',m=m'+1:=⟨m-1,⋯⟩;have eb:wH (m'+1) ((j::b).map (·.2)) d=(vE (d.drop 1)).bind (λx=>wH m' ((j::b).map (·.2)++[x.1]) x.2):=qG hh;rw[eb] at S;rw[er7] at C;refine⟨_,U,R,dx7,_,U,g,v1,.yes R _ "," _ rfl C λH8 D r8=>⟨_,U,QI ?_⟩⟩;obtain⟨X,fs8,I,u8⟩:=r8.at2;have u:l≠R:=QX e7 g nofun;have e8:=D l _ u e7;have s8:Qi H H8:=λc o f=>D c o (Qo f B) (s7 _ _ f);refine⟨_,U,.inl ⟨U,_,zm.of e8⟩,_,U,R,X,_,U,I,u8,R,_,_,U,r8,λac2 r2' J q2 Y k9 r9 aq9=>?_,λJ=>L (by rw[S,J];rfl) s8⟩;rw[J,zj] at S;have Z:=k9 l _ u e8;have hlen:((j::b).map λz=>V.ref z.1).length<sizeLine:=by rw[qi,zI];omega
      refine⟨l,_,_,U,U,Z,hlen,?_⟩;have tk:∀c xs,Y c=some (.tup xs)->(upd Y l (.lst (((j::b).map λz=>V.ref z.1)++[V.ref q2]))) c=some (.tup xs):=λc xs f=>by rw[Qj (QX f Z nofun)];exact f
      have kk:KR2 R l Y (upd Y l (.lst (((j::b).map λz=>V.ref z.1)++[V.ref q2]))):=λc o _ nl f=>by rw[Qj nl];exact f
      have sh:=PV J;refine⟨⟨(j::b)++[(q2,ac2)],r2',m',U,?_,r9.upl Z,by rw[Qg,qH];rfl,by simp,λz hz=>?_,((c7.kr C D).kr r8 k9).kr2 r9 Z kk,⋯,by rw[qm,ql];omega,by rw[S,qH];rfl⟩,?_⟩
      .intro c o f;rw[Qj (Qo f lR)];exact k9 c o (Qo f B) (s8 _ _ f)
      .rcases qT.mp hz with hz|hz
       .have:=a7 z hz;exact⟨tk _ _ (k9 _ _ (QX (D _ _ (QX this.1 g nofun) this.1) I nofun) (D _ _ (QX this.1 g nofun) this.1)),this.2⟩
       .rw[qq.mp hz];exact⟨tk _ _ aq9.1,aq9.2⟩
      .show V8 (upd Y l _) R<V8 G R;rw[(r9.upl Z).rem,C.rem,qw];omega
     .have eb:wH m ((j::b).map (·.2)) d=some ((j::b).map (·.2),d):=by
       cases m with
       |zero=>exact qz hh
       |succ m=>exact qz hh
      rw[eb,zj] at S;refine⟨_,U,R,dx7,_,U,g,v1,.no R _ "," _ rfl C hh ⟨_,U,QA ?_⟩⟩;obtain⟨X,fs8,I,_,_,_,_,_,_,x8,_⟩:=C.at
      refine⟨_,U,R,X,_,U,I,x8,?_⟩
      cases d with
      |nil=>
       refine .fin R _ rfl C λH8 D=>?_;refine⟨_,U,_,U,U2,λq9 Y n9 J Z=>?_⟩;have u:l≠R:=QX e7 g nofun;refine k t ((j::b).map (·.2)) (by rw[S];rfl) q9 y l (j::b) Y (λc o f=>J _ _ (D c o (Qo f B) (s7 _ _ f))) Z (J _ _ (D l _ u e7)) rfl ((c7.kr C D).mono J) hdt λz hz=>?_;have:=a7 z hz;exact⟨J _ _ (D _ _ (QX this.1 g nofun) this.1),this.2⟩
      |cons p r=>exact .no R _ "" _ rfl C (C.pc p qo).2 pc0 (L (by rw[S];rfl) s7)
    .rintro σ H3 u C b ⟨x,e,a1,N,fs1,e1,g,j,h⟩;exact⟨x,e,a1,N,fs1,e1,g,j,Uc.mono h λv H' ⟨c,f,q⟩=>⟨c,f,b _ _ q⟩⟩
   .exact .no R _ Zd _ rfl r3 h3 ⟨∅,∅⟩ ((F (e1.trans (qz h3))).step (k2.trans k3))
  .exact .no R _ Zj _ rfl r1 h1 ⟨∅,∅⟩ (F (qz h1))
inductive CH(x:V)(xs:qb V)(H:Hp)(Q:VK):Prop
 |mk:∀(z y:qc),x=.str z->xs=[.str y]->z.length<=1000000->Q (.str (Txt.stripChars z y)) H->CH x xs H Q
def Sk:V->qb V->Hp->VK->Prop:=λx xs H Q=>CH x xs H Q
def M1 :vz X "str.strip" Sk:=by
 intro pins s σ H x xs v us Q I a b h;obtain⟨z,y,rfl,rfl,hz,q⟩:=h;obtain⟨t,rfl⟩:=a;obtain⟨u,rfl,c⟩:=Ul b;obtain⟨t',rfl⟩:=c;exact PyProof.Rows.SCL.stripChars (λ_ _ _=>⟨.str _,H,I.tok _,⟨_,U⟩,q⟩) (by show z.length<=2^24;omega)
def ID{a:qd}{g:TG}{tb:TS}{D:Uu}(Pv:Nat->St->Hp->Prop)(h0:Pv 0 σ H)(d:∀i σ H,i<=xs.length->Pv i σ H->zm K H a xs)
 (f:∀i x σ H T,xs[i]?=some x->Pv i σ H->H T=none->g (.ref T) σ (upd H T (.tup [.int (i+1:Nat),x])) λc H2=>tb {D with nx:=Pv (i+1),ct:=Pv (i+1),bk:=D.nx} c H2) (hd:∀σ H,Pv xs.length σ H->D.nx σ H) :
 V2 g tb D σ (TJ K a) H:=by
 refine⟨λi m σ H=>m=xs.length-i/\i<=xs.length/\Pv i σ H,⟨xs.length,by simp,zb _,h0⟩,?_⟩;rintro i m σ H ⟨rfl,hi,p⟩;have q:=d i σ H hi p;by_cases b:i<xs.length
 .refine .inr ⟨⟨xs,xs[i],q,by simp[b]⟩,Pv (i+1),λh H' j=>⟨xs.length-(i+1),⋯,U,b,j⟩,λv H' y=>?_⟩;obtain⟨T,x,y,k,rfl,rfl⟩:=y;exact f i x σ _ T (y xs q) p k
 .have e:i=xs.length:=by omega
  subst e;exact .inl ⟨⟨xs,q,U⟩,hd σ H p⟩
def Uh:Nat->qf->Option Nat
 |_,[]=>none
 |i,x::xs=>if Txt.stripChars x " "="" then Uh (i+1) xs else if (WS (yb x)).isNone=true then some i else Uh (i+1) xs
def yY(x:qc):Option (Tr×qb Act):=if Txt.stripChars x " "="" then none else WS (yb x)
def YS(xs:qf):qb (Tr×qb Act):=xs.filterMap yY
theorem NU:∀{n:Nat}{as:qb Act}{rs:qf}{z:qb Act×qf},as≠[]->wH n as rs=some z->z.1≠[]
 |0,as,rs,z,h,e=>by
  unfold wH at e;split at e
  .cases e
  .cases e;exact h
 |n+1,as,rs,z,h,e=>by
  unfold wH at e;split at e
  .obtain⟨y,e1,a⟩:=zq.mp e;exact NU (by simp) a
  .cases e;exact h
def OA(h:WS ps=some (t,as)):as≠[]:=by
 unfold WS at h;split at h
 .obtain⟨x,e1,a⟩:=zq.mp h;unfold rtF at a;split at a
  .obtain⟨bs,d,e⟩:=zB.mp a;cases e;obtain⟨y,g,c⟩:=zq.mp d;unfold afF at c;obtain⟨z,f,b⟩:=zq.mp c;split at b
   .cases b;exact NU (by simp) f
   .cases b
  .cases a
 .cases h
def bG{L:qd}{b:qb RW}{ps:qb (qd×Act)}(f:H L=some (.lst (b.map λr=>V.ref r.r)))(g:∀r∈b,∃c q,H r.r=some (.tup [.ref c,.ref q]))(eq:H q=some (.lst (ps.map λz=>V.ref z.1)))(h:∀z∈ps,xY H z.1 z.2)(e:ps≠[]):q≠L:=λz=>by
 rw[z,f] at eq
 injection eq with eq
 injection eq with eq
 cases b with
 |nil=>cases ps with|nil=>exact e rfl|cons p r=>cases eq
 |cons x b=>
  cases ps with
  |nil=>exact e rfl
  |cons p r=>
   injection eq with eq _
   injection eq with eq
   obtain⟨c,i,e1⟩:=g x qo;have a:=(h p qo).1;rw[<-eq,e1] at a
   injection a with a
   injection a with a
   cases d:p.2 with
   |stop=>rw[d] at a;cases a
   |place w=>rw[d] at a;cases a
   |mark w=>rw[d] at a;cases a
   |unmark w=>rw[d] at a;cases a
def U8.gp{r:RW}(h:U8 a H r)(e:H l=some (.lst xs))(n:r.q≠l):U8 a (upd H l (.lst ys)) r:=by
 have kt:∀c zs,H c=some (.tup zs)->(upd H l (.lst ys)) c=some (.tup zs):=λc zs b=>by rw[Qj (QX b e nofun)];exact b
 exact⟨kt _ _ h.e,h.c.tj kt (λc D d f i b=>by rw[Qj (QX b e nofun)];exact b),h.d,by rw[Qj n];exact h.q,λy g=>⟨kt _ _ (h.as y g).1,(h.as y g).2⟩,h.n⟩
inductive Fn(a:jT)(vs:qb V)(H:Hp)(Q:VK)(E:XK):Prop
 |mk:∀(x:qc)(ls:qf),vs=[.str x]->Txt.split x "\n"=ls->x.length<=1000000->(∀y∈ls,KH y)->ls.length<=200->(YS ls).length<=40->(∀r∈YS ls,r.1.dp<8/\r.2.length<=4) ->
  (Uh 1 ls=none->∀q (rs:qb RW) H',Qi H H'->Ve a H' q rs->rs.map kg=YS ls->Q (.ref q) H') ->
  (∀n,Uh 1 ls=some n->∀H' m,Qi H H'->H' m=some (.xd [(Zs,.int (n:Nat))])->E (.ref (a 103)) (some m) H')->Fn a vs H Q E
def aH(a:jT):Sp:=λvs H Q E=>Fn a vs H Q E
theorem MI(T:Txt P w K mg base a fd):T.k (yZ P w) 168 12 (aH a):=by
 refine(T.F 12).kF (sc 12) (λvs H Q E h=>?_) (λcdv A outer st H vs Q E hr h=>?_)
 .obtain⟨x,ls,rfl,_⟩:=h;rfl
 .obtain⟨x,ls,rfl,els,hx,hy,hn,hn40,hrw,k,kE⟩:=h;refine⟨_,(Qb (Ql (i:=1) (sc 12).nd (Qy Qm))
   (Qb (Ym kY rfl (Mf rfl (T 72) (qV (Ue plainAttrs_str slot_str_split type_str_split AW (pv 0) (qV Qf Qe)) Qe)) (XY rfl (Yu (QG (i:=2) (sc 12).nd) (Yu (QG (i:=3) (sc 12).nd) WI)))
     (Qd (So (L9 Km (Ue plainAttrs_str PySem.F.slot_str_strip PySem.F.type_str_strip M1 (pv 3) (qV Qf Qe)) OO (Ez _))
       (Mb (Ma (Sq plainAttrs_list zk zl Q8 (pv 1) (Mv (HN (bM T) hr.up rfl (T 97) (T.F 11).kp (T.B 11) .nil YL (PA.toT (qV (pv 3) (qV (pv 2) Qe)))) (PA.toT Qe))))) Qq)))
   (Qd (Qk (T.ma (T 180) (T 179) (bN T) (qV (pv 1) Qe)))))),?_⟩
  refine⟨K3,λL H1 nL s1 N=>?_⟩;refine⟨_,U,U,x,_,U,U,U,hx,λl H2 nl s2 e2=>?_⟩;rw[els] at e2;refine⟨l,_,U,e2,?_⟩;have eL2:=s2 _ _ N;have s02:Qi H H2:=s1.trans s2;refine ID (K:=K) (a:=l) (xs:=ls.map V.str) (λi σ g=>∃(j:qb RW)(o2 o3:Option V),σ=[some (.str x),some (.ref L),o2,o3]/\Qi H g/\g l=some (.lst (ls.map V.str))/\g L=some (.lst (j.map λr=>V.ref r.r))/\(∀r∈j,U8 a g r/\r.as≠[])/\j.map kg=YS (ls.take i)/\Uh 1 ls=Uh (1+i) (ls.drop i))
   ⟨[],none,none,U,s02,e2,eL2,λr b=>(nomatch b),U,U⟩ (λi σ g _ ⟨_,_,_,_,_,O,_⟩=>zm.of O) ?_ ?_
  .rintro i v σ g Tt hi ⟨j,o2,o3,rfl,s3,O,p,hh,d,D⟩ nT;rw[qC] at hi
   cases F:ls[i]? with
   |none=>rw[F] at hi;cases hi
   |some y=>
    rw[F] at hi;cases hi;have hil:i<ls.length:=(qJ.mp F).1;have hdr:ls.drop i=y::ls.drop (i+1):=by rw[zP hil,(qJ.mp F).2]
    have htk:ls.take (i+1)=ls.take i++[y]:=by rw[zo,F];rfl
    have R:YS (ls.take (i+1))=YS (ls.take i)++(yY y).toList:=by
     unfold YS;rw[htk,zX];refine q8 (List.filterMap yY (ls.take i)++·) ?_
     cases e:yY y with
     |none=>rw[jU e];rfl
     |some z=>rw[jV e];rfl
    rw[hdr] at D;have S:=hy y (qL F);have s4:Qi g (upd g Tt (.tup [.int (i+1:Nat),.str y])):=Qi.zL nT;refine⟨Tt,_,U,zu.of Qg,U,_,_,U,_,_,U,U,?_⟩;generalize upd g Tt (.tup [.int (i+1:Nat),.str y])=H4 at s4⊢;have G:=s3.trans s4;have hyl:y.length<=1000000:=qO S.1 ∅;refine⟨_,U,U,y,_,U,U,hyl,U,_,U,?_⟩;have I:∀r∈j,U8 a H4 r/\r.as≠[]:=λr b=>⟨(hh r b).1.kl (KL.of s4),(hh r b).2⟩;by_cases f:Txt.stripChars y " "=""
    .rw[f];refine QA ⟨j,_,_,U,G,s4 _ _ O,s4 _ _ p,I,?_,?_⟩
     .rw[R,d,yY,qG f];simp
     .rw[D,Uh,qG f,Nat.add_assoc]
    .have hne:(!decide (V.str (Txt.stripChars y " ")=V.str ""))=true:=by
      rw[qr λz=>f (by injection z)];rfl
     rw[hne];refine QI ⟨_,U,.inl ⟨U,_,zm.of (s4 _ _ p)⟩,_,U,_,U,y,_,U,S,λt as ht q cy l' ps J s5 X u M hc5 hd5 Y=>?_,λhno J m s5 X=>?_⟩
     .have Z:yY y=some (t,as):=by rw[yY,qz f,ht]
      have s:=s5 _ _ (s4 _ _ p);have n:∀r∈j,U8 a J r/\r.as≠[]:=λr b=>⟨(I r b).1.kl (KL.of s5),(I r b).2⟩;have B:=R;rw[Z] at B;have hmem:(t,as)∈YS ls:=ye.mpr ⟨y,qL F,Z⟩;obtain⟨hd8,hn4⟩:=hrw _ hmem;have C:∀r∈j,∃c q,J r.r=some (.tup [.ref c,.ref q]):=λr b=>⟨_,_,(n r b).1.e⟩;have hpn:ps≠[]:=λz=>OA ht (by rw[<-M,z];rfl);have new:U8 a J ⟨q,cy,l',t,ps⟩:=⟨X,hc5,hd8,u,Y,by rw[<-M,qi] at hn4;exact hn4⟩;have hlen:(j.map λr=>V.ref r.r).length<sizeLine:=by
       have h1:=q8 List.length d;have h2:=List.length_filterMap_le yY (ls.take i);rw[qi] at h1⊢;have h3:=List.length_take_le i ls;rw[h1];have h4:(YS (ls.take i)).length<=200:=by unfold YS;omega
       exact jC h4 ∅
      refine⟨L,_,_,U,U,s,hlen,?_⟩;refine⟨j++[⟨q,cy,l',t,ps⟩],_,_,U,(G.trans s5).zE nL,?_,by rw[Qg,qH];rfl,λr b=>?_,?_,?_⟩
      .have:l≠L:=λz=>by rw[z,N] at nl;cases nl
       rw[Qj this];exact s5 _ _ (s4 _ _ O)
      .rcases qT.mp b with b|b
       .exact⟨(n r b).1.gp s (bG s C (n r b).1.q (n r b).1.as (n r b).2),(n r b).2⟩
       .rw[qq.mp b];exact⟨new.gp s (bG s C u Y hpn),hpn⟩
      .rw[B,<-d,qH];show _++[(t,ps.map (·.2))]=_;rw[M];rfl
      .rw[D,Uh,qz f,ht,qz (show ¬(some (t,as)).isNone=true from λz=>nomatch z),Nat.add_assoc]
     .refine kE (1+i) ?_ J m (G.trans s5) (by rw[X,Nat.add_comm 1 i]);rw[D,Uh,qz f,hno];rfl
  .rintro σ g ⟨j,o2,o3,rfl,s3,O,p,hh,d,D⟩;rw[qi,qP (qp _)] at d;rw[qi,jt (qp _)] at D;refine⟨_,U,λq dx F G ne=>?_⟩;have B:Qi g (upd (upd g dx (.own q)) q (.ins (a 107) dx [])):=λc o f=>by rw[Qj (Qo f F),Qj (Qo f G)];exact f
   have eq:(upd (upd g dx (.own q)) q (.ins (a 107) dx [])) q=some (.ins (a 107) dx []):=Qg;generalize upd (upd g dx (.own q)) q (.ins (a 107) dx [])=H4 at B eq⊢;have n:j.length<=40:=by
    have:=q8 List.length d;rw[qi] at this;omega
   refine⟨q,dx,L,j,U,eq,B _ _ p,λr b=>(hh r b).1.kl (KL.of B),n,λJ rs l' I M X u C s=>⟨U,?_⟩⟩;refine k D q rs J (λc o f=>I c o (Qo (s3 _ _ f) F) (B _ _ (s3 _ _ f))) ⟨dx,l',X,u,C,?_⟩ (s.trans d);have:=q8 List.length s;rw[qi,qi] at this;omega
theorem Bh:∀{ps:qf}{c:Nat},c∈(Str.join " " ps).cps.toList->c=32\/∃p∈ps,c∈p.cps.toList
 |[],c,h=>by cases h
 |[p],c,h=>.inr ⟨p,qq.mpr rfl,h⟩
 |p::q::r,c,h=>by
  rw[YF] at h;rcases qT.mp h with h|h
  .exact .inr ⟨p,qo,h⟩
  .rcases qy.mp h with h|h
   .exact .inl h
   .rcases Bh h with h|⟨a,b,d⟩
    .exact .inl h
    .exact .inr ⟨a,qt _ b,d⟩
def Pb{c:Nat}(h:c∈x.cps.toList)(hc:c≠32):∃p∈yb x,c∈p.cps.toList:=by
 have d:c∈(YV x "(" ")" ",").cps.toList:=by
  rw[YB];refine xc.mpr ⟨c,h,?_⟩;unfold e1;split<;>simp
 have e:c∈(Str.join " " (Txt.split (YV x "(" ")" ",") " ")).cps.toList:=by rw[show Str.join " " (Txt.split (YV x "(" ")" ",") " ")=YV x "(" ")" "," from jI _ _];exact d
 rcases Bh e with a|⟨p,a,b⟩
 .exact absurd a hc
 .refine⟨p,jd.mpr ⟨a,?_⟩,b⟩;have:p≠"":=λz=>by rw[z] at b;cases b
  rw[qr this];rfl
theorem Lu{c:Nat}(h:c∈x.cps.toList)(hc:c≠32):Txt.stripChars x " "≠"":=λz=>by
 have e:Txt.stripChars x " "=_:=PyProof.Rows.stripBy_eq _ true true x;rw[e] at z;have b:(" ":qc).cps.contains c=false:=by
  rw[RI]
  cases e:(#[32]:Array Nat).contains c with
  |false=>rfl
  |true=>rw[Array.contains_iff_mem] at e;simp at e;exact absurd e hc
 generalize (" ":qc).cps.contains=a at z b;have g:c∈x.cps.toList.drop (x.cps.toList.takeWhile a).length:=by
  have h':=h;rw[<-wM (p:=a) (l:=x.cps.toList)] at h';rcases qT.mp h' with h'|h'
  .have:=List.all_takeWhile (p:=a) (l:=x.cps.toList);rw[zf] at this;rw[this c h'] at b;cases b
  .have:x.cps.toList.drop (x.cps.toList.takeWhile a).length=x.cps.toList.dropWhile a:=by
    conv=>lhs;arg 2;rw[<-wM (p:=a) (l:=x.cps.toList)]
    exact List.drop_left' rfl
   rw[this];exact h'
 have i:((x.cps.toList.drop (x.cps.toList.takeWhile a).length).reverse.takeWhile a).length<(x.cps.toList.drop (x.cps.toList.takeWhile a).length).length:=by
  generalize x.cps.toList.drop (x.cps.toList.takeWhile a).length=D at g;rcases Nat.lt_or_ge (D.reverse.takeWhile a).length D.length with d|f
  .exact d
  .have j:D.reverse.takeWhile a=D.reverse:=(List.takeWhile_sublist a).eq_of_length_le (by rw[List.length_reverse];exact f);have:=List.all_takeWhile (p:=a) (l:=D.reverse);rw[j,zf] at this;rw[this c (List.mem_reverse.mpr g)] at b;cases b
 have z:=q8 (λs:qc=>s.cps.size) z;have z:(x.cps.extract (stripLo a true x) (stripHi a true x (stripLo a true x))).size=0:=z;rw[Array.size_extract] at z;have d:stripLo a true x=(x.cps.toList.takeWhile a).length:=qG rfl;have f:stripHi a true x (stripLo a true x)=x.length-((x.cps.toList.drop (stripLo a true x)).reverse.takeWhile a).length:=qG rfl;rw[f,d] at z;rw[qZ] at i;have j:x.cps.toList.length=x.cps.size:=qQ;have k:x.length=x.cps.size:=rfl;omega
def kK:qb Act->qf
 |[]=>[]
 |[x]=>Yz x
 |x::y::r=>Yz x++(",":qc)::kK (y::r)
def DV{x:Act}(h:vD x)(r:qf):vE (Yz x++r)=some (x,r):=by
 cases x with
 |stop=>
  have e:vE (Yz .stop++r)=(if Zg=Zg then some (Act.stop,r) else if Zg∈([Zi,Zm,Zh]:qf) then (vk r).map (λx=>(vT Zg x.1,x.2)) else none):=rfl;rw[e,qG rfl]
 |place w=>
  have e:vE (Yz (.place w)++r)=(if Zi=Zg then some (Act.stop,w::r) else if Zi∈([Zi,Zm,Zh]:qf) then (vk (w::r)).map (λx=>(vT Zi x.1,x.2)) else none):=rfl;rw[e,qz ∅,qG ∅,vk,qG (Vl h)];exact q8 (λz=>some (z,r)) (show vT Zi w=.place w from qG rfl)
 |mark w=>
  have e:vE (Yz (.mark w)++r)=(if Zm=Zg then some (Act.stop,w::r) else if Zm∈([Zi,Zm,Zh]:qf) then (vk (w::r)).map (λx=>(vT Zm x.1,x.2)) else none):=rfl;rw[e,qz ∅,qG ∅,vk,qG (Vl h)];exact q8 (λz=>some (z,r)) (show vT Zm w=.mark w by unfold vT;rw[qz ∅,qG rfl])
 |unmark w=>
  have e:vE (Yz (.unmark w)++r)=(if Zh=Zg then some (Act.stop,w::r) else if Zh∈([Zi,Zm,Zh]:qf) then (vk (w::r)).map (λx=>(vT Zh x.1,x.2)) else none):=rfl;rw[e,qz ∅,qG ∅,vk,qG (Vl h)];exact q8 (λz=>some (z,r)) (show vT Zh w=.unmark w by unfold vT;rw[qz ∅,qz ∅])
theorem NV:∀(as:qb Act)(bs:qb Act)(n:Nat),(∀x∈as,vD x)->as.length<=n->wH n bs (as.flatMap λx=>(",":qc)::Yz x)=some (bs++as,[])
 |[],bs,n,_,_=>by
  rw[ze]
  cases n with
  |zero=>exact qz ∅
  |succ n=>exact qz ∅
 |x::r,bs,n,h,a=>by
  cases n with
  |zero=>exact absurd a (by rw[qw];omega)
  |succ n=>
   have b:=NV r (bs++[x]) n (λy c=>h y (qt _ c)) (by rw[qw] at a;omega);rw[js];show(if hd1 ((",":qc)::(Yz x++_))="," then (vE (List.drop 1 ((",":qc)::(Yz x++r.flatMap λx=>(",":qc)::Yz x)))).bind (λz=>wH n (bs++[z.1]) z.2) else _)=_;rw[qG (show hd1 ((",":qc)::(Yz x++r.flatMap λx=>(",":qc)::Yz x))="," from rfl),List.drop_one,List.tail_cons,DV (h x qo),zj,b,zh];rfl
def S3(x:Act)(r:qb Act):kK (x::r)=Yz x++r.flatMap λy=>(",":qc)::Yz y:=by
 induction r generalizing x with
 |nil=>rw[List.flatMap_nil,ze];rfl
 |cons y r a=>rw[js];show Yz x++(",":qc)::kK (y::r)=_;rw[a];rfl
theorem Ta(as:qb Act):as.length<=(as.flatMap λy=>(",":qc)::Yz y).length:=by
 induction as with
 |nil=>exact qp _
 |cons x r a=>rw[js,qm,qw,qw];omega
def LN(h:Tok 0 t ts m)(hm:m<41)(i:t.th<=2)(b:as≠[])(a:∀x∈as,vD x):WS (Zj::(ts++Zd::kK as))=some (t,as):=by
 have e:=(show P0 t ts m from h.r) 41 0 (Zd::kK as) t (Zd::kK as) hm ⋯ (by show Zd≠Zp;decide +kernel) (by show Zd≠Zo;decide +kernel) (.stop (by show Zd≠Zr;decide +kernel));have c:=RE.fn (RS.fn 41 0) (Uq 41 0) _ _ _ e
 cases as with
 |nil=>exact absurd rfl b
 |cons x r=>
  have d:vE (kK (x::r))=some (x,r.flatMap λy=>(",":qc)::Yz y):=by rw[S3];exact DV (a x qo) _
  have f:=NV r [x] (r.flatMap λy=>(",":qc)::Yz y).length (λy g=>a y (qt _ g)) (Ta r);show(if hd1 (Zj::_)=Zj then (v8 (sF 41 0) (List.drop 1 (Zj::(ts++Zd::kK (x::r))))).bind rtF else none)=_;rw[qG (show hd1 (Zj::(ts++Zd::kK (x::r)))=Zj from rfl),List.drop_one,List.tail_cons,c,zj];show(if hd1 (Zd::kK (x::r))=Zd then ((vE (List.drop 1 (Zd::kK (x::r)))).bind afF).map (λas=>(t,as)) else none)=_;rw[qG (show hd1 (Zd::kK (x::r))=Zd from rfl),List.drop_one,List.tail_cons,d,zj];unfold afF;rw[f,zj,qG rfl];rfl
structure Kh(x:qc)(d:Tr×qb Act):Prop where
 f:WS (yb x)=some d
 n:x.length<=13000
 c:∀c∈x.cps.toList,32<=c/\c<128
 b:Txt.stripChars x " "≠""
def Ms(h:yb x≠[]):∃c∈x.cps.toList,c≠32:=by
 obtain⟨p,r,e⟩:∃p r,yb x=p::r:=by cases e:yb x with|nil=>exact absurd e h|cons p r=>exact⟨p,r,rfl⟩
 have j:p∈yb x:=by rw[e];exact qo
 obtain⟨f,g⟩:=jd.mp j;have b:p≠"":=λz=>by rw[qv z] at g;cases g
 obtain⟨c,hc⟩:∃c,c∈p.cps.toList:=by
  cases e:p.cps.toList with
  |nil=>exact absurd (Yt (by rw[e];rfl)) b
  |cons c r=>exact⟨c,qo⟩
 have a:c≠32:=λz=>Vd _ p f (by rw[<-z];exact hc);have i:=(X2 f).1 c hc;rw[show Str.join " " (Txt.split (YV x "(" ")" ",") " ")=YV x "(" ")" "," from jI _ _,YB] at i;obtain⟨d,hd,he⟩:=xc.mp i;unfold e1 at he;split at he
 .simp only[qy,q5,ji] at he;rcases he with he|he|he
  .exact absurd he a
  .exact⟨d,hd,by rw[<-he];exact a⟩
  .exact absurd he a
 .exact⟨d,hd,by rw[<-qq.mp he];exact a⟩
theorem Kh.of{d:Tr×qb Act}(h:yb x=ts)(e:xI ts)(hf:WS ts=some d)(f:x.length<=13000):Kh x d:=by
 have a:yb x≠[]:=λz=>by rw[<-h,z] at hf;cases hf
 obtain⟨c,hc,b⟩:=Ms a;refine⟨by rw[h];exact hf,f,λc hc=>?_,Lu hc b⟩;by_cases z:c=32
 .subst z;decide
 .obtain⟨p,g,i⟩:=Pb hc z;have:=(e p (by rw[<-h];exact g)).c c i;omega
def Mt:wj ",":=⟨by
 have:=CN (c:=",") ∅ "";rw[Vp,WL,jK] at this;have q:yb ","=v3 (YV "," "(" ")" ","):=rfl;rw[q,BD ∅,WC,UI,WB,jK];exact KO ∅ ∅,by unfold Cln;decide +kernel⟩
def PR{x:Act}(h:vD x):xI (Yz x):=by
 cases x with
 |stop=>exact λy a=>by rw[qq.mp a];exact Y9 ∅ ∅
 |place w=>exact xI.two (Y9 ∅ ∅) (QO.gk h)
 |mark w=>exact xI.two (Y9 ∅ ∅) (QO.gk h)
 |unmark w=>exact xI.two (Y9 ∅ ∅) (QO.gk h)
def NS{x:Act}(h:vD x):YK (Yz x)<=40:=by
 cases x with
 |stop=>decide +kernel
 |place w=>have:=V1 (nm:=Zi) ∅ h;exact qO this ∅
 |mark w=>have:=V1 (nm:=Zm) ∅ h;exact qO this ∅
 |unmark w=>have:=V1 (nm:=Zh) ∅ h;exact qO this ∅
def wI(as:qb Act):qf:=as.flatMap λx=>Yz x++[(",":qc)]
def EW:∀{as:qb Act},as≠[]->wI as=kK as++[(",":qc)]
 |[x],_=>by show(Yz x++[(",":qc)])++[]=_;rw[ze];rfl
 |x::y::r,_=>by
  show(Yz x++[(",":qc)])++wI (y::r)=(Yz x++(",":qc)::kK (y::r))++[(",":qc)];rw[EW (as:=y::r) (by simp)];simp
def NX:∀{as:qb Act},(∀x∈as,vD x)->xI (wI as)
 |[],_=>λx a=>nomatch a
 |x::r,h=>xI.app (xI.app (PR (h x qo)) (λy a=>by rw[qq.mp a];exact Mt)) (NX λy a=>h y (qt _ a))
theorem Cb:∀{as:qb Act},(∀x∈as,vD x)->YK (wI as)<=50*as.length
 |[],_=>by decide
 |x::r,h=>by
  have b:=NS (h x qo);have c:=Cb (as:=r) λy a=>h y (qt _ a);show YK ((Yz x++[(",":qc)])++wI r)<=_;rw[Ys,Ys,qw,show YK [(",":qc)]=3 by decide +kernel];omega
theorem IV(ts:qf)(x:qc):Ub ((ts++[x]).map V.str) none (some (-1))=ts.map V.str:=by
 rw[qH];unfold Ub;have a:HT.jP (ts.map V.str++[x].map V.str).length 0 none=0:=rfl;have b:HT.jP (ts.map V.str++[x].map V.str).length (ts.map V.str++[x].map V.str).length (some (-1))=ts.length:=by
  unfold HT.jP;simp;omega
 rw[a,b,xK,kM];exact List.take_left' (qi _)
inductive aG(vs:qb V)(H:Hp)(Q:VK)(E:XK):Prop
 |mk:∀R (r:RW) (cs:qb Int),vs=[.ref r.r,.ref R]->Vy H r->r.as≠[]->r.t.th<=2->r.t.sz<=255->H R=some (.lst (cs.map V.int))->(∀z∈cs,0<=z/\z<2147483629)->0<cs.length->(∀x H',Qi H H'->Kh x (kg r)->Q (.str x) H')->aG vs H Q E
theorem bL(T:Txt P w K mg base a fd):T.k jx 14 33 aG:=by
 refine T.ok 33 (λcdv A outer st H vs Q E hr h=>?_)
 .obtain⟨R,r,cs,rfl,b,e,I,hsz,S,m,n,k⟩:=h;have hd:=b.d;have J:=b.n;have d:∀x∈r.as.map (·.2),vD x:=λx s=>by obtain⟨z,hz,rfl⟩:=zr.mp s;exact(b.as z hz).2
  refine⟨_,(Qb (Ql (i:=2) (sc 33).nd (Qh QW (Qh QW (Qy (Qc Qf Qm)) (T.cl (AS T 10) (qV (Qp Qt (pv 0) Qa) (qV Qa (qV (pv 1) (qV Qa Qe)))))) (Qy (Qc Qf Qm))))
   (Qb (Ym zg rfl (GB (Qp Qt (pv 0) Qa)) (QG (i:=3) (sc 33).nd)
     (Qd (Ql (i:=2) (sc 33).nd (Qh QW (Qh QW (pv 2) (Yr (Kz K) rfl (T 24) boot_list (qV (pv 3) Qe))) (Qy (Qc Qf Qm))))))
   (Qd (Qk (T.cl (bQ T) (qV (QT Xo (pv 2) Yn (QR (VP UO Qa))) (qV (pv 1) Qe))))))),?_⟩
  refine⟨Uv,λa1 H1 n1 s1 e1=>⟨_,U,r.r,_,_,_,U,U,zu.of (s1 _ _ b.e),U,_,U,?_⟩⟩;refine⟨r.vP,R,0,0,r.t,cs,U,(b.mono s1).c,⋯,⋯,⋯,∅,s1 _ _ S,m,n,∅,λq ts H2 s2 e2 tok htl=>?_⟩;have hg:=Up ts;refine⟨a1,q,_,_,U,U,s2 _ _ e1,e2,Vo (by rw[qi,ql];omega),λa2 H3 n3 s3 e3=>⟨Uv,λa3 H4 n4 s4 e4=>⟨a2,a3,_,_,U,U,s4 _ _ e3,e4,Vo (by rw[qm,qi,ql,ql];omega),λX H5 n5 s5 Y=>?_⟩⟩⟩;have f:=(((s1.trans s2).trans s3).trans s4).trans s5;have L:H5 X=some (.lst (((Zj::(ts++[Zd]))++wI []).map V.str)):=by
   rw[Y];simp[wI]
  clear Y;have hT1:YK (Zj::(ts++[Zd]))<=12760:=by
   show YK ([Zj]++(ts++[Zd]))<=_;rw[Ys,Ys,show YK [Zj]=4 by decide +kernel,show YK [Zd]=6 by decide +kernel];omega
  refine⟨_,U,r.r,_,_,_,U,U,zu.of (f _ _ b.e),U,r.q,U,⟨_,zu.of (f _ _ b.q)⟩,K1 (K:=K) (a:=r.q) (xs:=r.as.map λy=>V.ref y.1) (λj σ c=>∃(g:qd)(o:Option V),σ=[some (.ref r.r),some (.ref R),some (.ref g),o]/\Qi H c/\c g=some (.lst (((Zj::(ts++[Zd]))++wI ((r.as.map (·.2)).take j)).map V.str)))
   ⟨X,none,U,f,L⟩ (λj σ c _ ⟨_,_,_,l,_⟩=>zu.of (l _ _ b.q)) ?_ ?_⟩
  .rintro j v σ c t ⟨g,o,rfl,l,G⟩;rw[qC] at t
   cases B:r.as[j]? with
   |none=>rw[B] at t;cases t
   |some y0=>
    obtain⟨C,act⟩:=y0;rw[B] at t;cases t;have hA:xY c C act:=(b.as (C,act) (qL B)).mono l;have D:(r.as.map (·.2)).take (j+1)=(r.as.map (·.2)).take j++[act]:=by rw[zo,qC,B];rfl
    have hl1:=Cb (as:=(r.as.map (·.2)).take j) λx s=>d x (jc s);have hl2:=Up (wI ((r.as.map (·.2)).take j));have hl3:=Up (Zj::(ts++[Zd]));have hl4:((r.as.map (·.2)).take j).length<=4:=qO (List.length_take_le' j _) (by rw[qi];exact J);have hl5:(Yz act).length<=2:=by cases act<;>exact vb rfl
    have hl6:((Zj::(ts++[Zd]))++wI ((r.as.map (·.2)).take j)).length<=60000:=by rw[qm];omega
    refine⟨_,U,_,U,C,_,U,.inr (zu.of hA.1),λl1 H7 n7 u e7=>⟨g,l1,_,_,U,U,u _ _ G,e7,Vo (by rw[qi,qi];omega),λa8 Z n8 M e8=>⟨Uv,λa9 H9 n9 s9 e9=>⟨a8,a9,_,_,U,U,s9 _ _ e8,e9,Vo (by rw[qm,qi,qi,ql];omega),λF H10 n10 N O=>?_⟩⟩⟩⟩;refine⟨F,_,U,(((l.trans u).trans M).trans s9).trans N,?_⟩;rw[O,D];simp[wI]
  .rintro σ c ⟨g,o,rfl,l,G⟩;rw[qi,qP (by rw[qi];exact qp _),EW (by rw[ne_eq,vK];exact e),<-zh] at G;refine⟨_,U,_,U,_,U,g,_,U,zm.of G,λp hp=>?_⟩;have O:(upd c p (.lst (Ub ((((Zj::(ts++[Zd]))++kK (r.as.map (·.2)))++[(",":qc)]).map V.str) none (some (-1))))) p=some (.lst (((Zj::(ts++[Zd]))++kK (r.as.map (·.2))).map V.str)):=by rw[Qg,IV]
   have u:Qi c (upd c p (.lst (Ub ((((Zj::(ts++[Zd]))++kK (r.as.map (·.2)))++[(",":qc)]).map V.str) none (some (-1))))):=Qi.zL hp;generalize upd c p (.lst (Ub ((((Zj::(ts++[Zd]))++kK (r.as.map (·.2)))++[(",":qc)]).map V.str) none (some (-1))))=H7 at O u⊢;have t:=l.trans u;have B:=NX d;have C:=Cb d;rw[EW (by rw[ne_eq,vK];exact e)] at B C;rw[Ys,qi] at C;have N:YK ((Zj::(ts++[Zd]))++kK (r.as.map (·.2)))<=13000:=by rw[Ys];omega
   have D:xI ((Zj::(ts++[Zd]))++kK (r.as.map (·.2))):=by
    refine xI.app (xI.app (xs:=[Zj]) (λy F=>by rw[qq.mp F];exact Y9 ∅ ∅) (xI.app tok.p (λy F=>by rw[qq.mp F];exact Y9 ∅ ∅))) (λy F=>B y (zK _ F))
   refine⟨_,U,p,R,_,cs,U,O,t _ _ S,m,n,D,qO N ∅,λx Z M s F=>k x Z (t.trans M) (Kh.of s D ?_ ⋯)⟩;have:=LN tok ⋯ I (by rw[ne_eq,vK];exact e) d;rw[show(Zj::(ts++[Zd]))++kK (r.as.map (·.2))=Zj::(ts++Zd::kK (r.as.map (·.2))) by simp];exact this
structure wK(x:qc):Prop where
 b:Txt.stripChars x " "=""
 n:x.length<=2
 c:∀c∈x.cps.toList,c=32
def PN{f:Int}(f0:0<=f)(f2:f<=2):wK (Txt.mul " " f):=by
 have h:f=0\/f=1\/f=2:=by omega
 rcases h with rfl|rfl|rfl
 .exact⟨∅,∅,∅⟩
 .exact⟨∅,∅,∅⟩
 .exact⟨∅,∅,∅⟩
structure ko(xs:qf)(ds:qb (Tr×qb Act)):Prop where
 r:YS xs=ds
 a:∀x∈xs,wK x\/∃d,Kh x d
def wK.yY(h:wK x):yY x=none:=qG h.b
def Kh.yY{d:Tr×qb Act}(h:Kh x d):yY x=some d:=by unfold K17.yY;rw[qz h.b];exact h.f
def ko.nil:ko [] []:=⟨U,λx a=>nomatch a⟩
def ko.bl{xs:qf}(h:ko xs ds)(b:wK x):ko (xs++[x]) ds:=by
 refine⟨?_,λy a=>?_⟩
 .have:=h.r;unfold YS at this⊢;rw[zX,this,jU b.yY];exact ze _
 .rcases qT.mp a with a|a
  .exact h.a y a
  .rw[qq.mp a];exact .inl b
def ko.row{xs:qf}{d:Tr×qb Act}(h:ko xs ds)(b:Kh x d):ko (xs++[x]) (ds++[d]):=by
 refine⟨?_,λy a=>?_⟩
 .have:=h.r;unfold YS at this⊢;rw[zX,this,jV b.yY];rfl
 .rcases qT.mp a with a|a
  .exact h.a y a
  .rw[qq.mp a];exact .inr ⟨d,b⟩
theorem Dx:∀{xs:qf}{n:Nat},(∀x∈xs,wK x\/∃d,Kh x d)->Uh n xs=none
 |[],_,_=>rfl
 |x::r,n,h=>by
  have b:=Dx (xs:=r) (n:=n+1) λy c=>h y (qt _ c);rcases h x qo with a|⟨d,a⟩
  .rw[Uh,qG a.b];exact b
  .rw[Uh,qz a.b,a.f,qz (show ¬(some d).isNone=true from λz=>nomatch z)];exact b
theorem Ho:∀{xs ys:qf}{n:Nat},(∀x∈xs,wK x\/∃d,Kh x d)->Uh n (xs++ys)=Uh (n+xs.length) ys
 |[],_,_,_=>rfl
 |x::r,ys,n,h=>by
  have b:=Ho (xs:=r) (ys:=ys) (n:=n+1) λy c=>h y (qt _ c);have e:n+(x::r).length=n+1+r.length:=by rw[qw];omega
  rw[e,<-b];rcases h x qo with a|⟨d,a⟩
  .rw[List.cons_append,Uh,qG a.b]
  .rw[List.cons_append,Uh,qz a.b,a.f,qz (show ¬(some d).isNone=true from λz=>nomatch z)]
inductive aC(vs:qb V)(H:Hp)(Q:VK)(E:XK):Prop
 |mk:∀D R (rs:qb RW) (cs:qb Int),vs=[.ref D,.ref R]->H D=some (.lst (rs.map λr=>V.ref r.r))->(∀r∈rs,Vy H r/\r.as≠[]/\r.t.th<=2/\r.t.sz<=255)->rs.length<=40->H R=some (.lst (cs.map V.int))->(∀z∈cs,0<=z/\z<2147483629)->cs.length=30 ->
   (∀L (xs:qf) H',Qi H H'->H L=none->H' L=some (.lst (xs.map V.str))->xs.length<=2*rs.length->ko xs (rs.map kg)->Q (.ref L) H')->aC vs H Q E
theorem bJ(T:Txt P w K mg base a fd):T.k jx 15 34 aC:=by
 refine T.ok 34 (λcdv A outer st H vs Q E hr h=>?_)
 .obtain⟨D,R,rs,cs,rfl,C,F,hn,hR,f,hcl,k⟩:=h;refine⟨_,(Qb (Ql (i:=2) (sc 34).nd (Qy Qm))
   (Qb (Ym zg rfl (Yq rfl (T 6) (qV (Qv QQ rfl (T 2) zy (qV (pv 0) Qe)) Qe)) (QG (i:=3) (sc 34).nd)
     (Qb (Ql (i:=4) (sc 34).nd (Qp Qs (pv 1) (Qh Qx (pv 3) (Qv QQ rfl (T 2) zy (qV (pv 1) Qe)))))
     (Qb (Ym zg rfl (Yq rfl (T 6) (qV (Qh Xc (Qh Qx (pv 4) Qa) Qa) Qe)) (QG (i:=5) (sc 34).nd)
       (Qd (Q4 (Ue plainAttrs_list zk zl Q8 (pv 2) (qV (Qh U5 Qf (Qh Qx (Qh Qz (pv 4) Qa) Qa)) Qe)))))
     (Qd (Q4 (Ue plainAttrs_list zk zl Q8 (pv 2) (qV (T.cl (bL T) (qV (Qp Qs (pv 0) (pv 3)) (qV (QT Yd (pv 1) (QR (Qh Qx (pv 3) Qa)) Yn) Qe))) Qe)))))))
   (Qd (Qk (pv 2))))),?_⟩
  refine⟨K3,λL H1 G s1 I=>?_⟩;have hll:((rs.map λr=>V.ref r.r).length:Int)=(rs.length:Int):=by rw[qi]
  refine⟨_,U,D,_,U,.inl (zm.of (s1 _ _ C)),_,U,⋯,⋯,?_⟩;refine YD (n:=((rs.map λr=>V.ref r.r).length:Int).toNat) (λi σ g=>∃(xs:qf)(J M e:Option V),σ=[some (.ref D),some (.ref R),some (.ref L),J,M,e]/\Qi H g/\g L=some (.lst (xs.map V.str))/\xs.length<=2*i/\ko xs ((rs.take i).map kg)) ⟨[],none,none,none,U,s1,I,zb _,.nil⟩ ?_ ?_
  .rintro i σ g hi ⟨xs,J,M,e,rfl,l,N,c,m⟩;have O:i<rs.length:=by omega
   obtain⟨r,d⟩:∃r,rs[i]?=some r:=⟨rs[i],qx O⟩;have S:xX (rs.map λr=>V.ref r.r) (0+(i:Int))=some (.ref r.r):=by rw[kO];exact QB (by rw[qC,d];rfl)
   have hD7:=l _ _ C;have o:=l _ _ hR;obtain⟨q,X,Y,hsz⟩:=F r (qL d);have hL:(0:Int)<((cs.map V.int).length:Int):=by rw[qi];omega
   obtain⟨z,ez,z0,z1⟩:=Yg f ((0+(i:Int))%((cs.map V.int).length:Int)) (qF _ ⋯) (by have:=qA (0+(i:Int)) hL;rw[qi] at this⊢;exact this);have m0:0<=z / 3%3:=qF _ ∅;have m1:z / 3%3<3:=qA _ ∅;have q0:0<=z%3:=qF _ ∅;have q1:z%3<3:=qA _ ∅;have p0:0<=(0+(i:Int))%20:=qF _ ∅;have p1:(0+(i:Int))%20<20:=qA _ ∅;refine⟨_,U,_,U,_,U,R,_,U,.inl (zm.of o),_,_,U,U,hL,R,_,_,_,U,U,zm.of o,ez,?_⟩;refine⟨_,U,_,_,U,U,K4,_,_,U,U,?_⟩;refine⟨z%3-1,U,⋯,⋯,?_⟩;refine YD (n:=(z%3-1).toNat) (λj σ B=>∃(b:qf)(e:Option V),σ=[some (.ref D),some (.ref R),some (.ref L),some (.int (0+(i:Int))),some (.int z),e]/\Qi H B/\B L=some (.lst (b.map V.str))/\b.length<=2*i+j/\ko b ((rs.take i).map kg)) ⟨xs,e,U,l,N,c,m⟩ ?_ ?_
   .rintro j σ B u ⟨b,p5,rfl,s,t,Z,t8⟩;refine⟨_,U,.inl ⟨U,_,zm.of t⟩,_,U,_,_,U,U,⟨⋯,⋯⟩,_,_,U,U,K4,_,_,U,U,∅,⋯,⋯,L,_,_,U,U,t,(by rw[qi];exact QN ⋯),?_⟩;refine⟨b++[Txt.mul " " (z / 3%3)],_,U,s.zE G,by rw[Qg,qH];rfl,by rw[qm,ql];omega,t8.bl (PN m0 ⋯)⟩
   .rintro σ B ⟨b,p5,rfl,s,t,Z,t8⟩;have hjz:(z%3-1).toNat<=1:=by omega
    refine⟨_,U,.inl ⟨U,_,zm.of t⟩,_,U,_,U,D,_,_,_,U,U,zm.of (s _ _ C),S,?_⟩;refine⟨_,U,_,U,_,_,U,U,T3,_,U,R,_,U,zm.of (s _ _ hR),λp H9 n9 s9 e9=>?_⟩;rw[Ww V.int cs _ p0] at e9;have u:=s.trans s9;refine⟨p,r,_,U,q.mono u,X,Y,hsz,e9,λy hy=>f y (jG hy),by rw[qZ];omega,λx H10 v hx=>?_⟩;have e10:=v _ _ (s9 _ _ t);refine⟨L,_,_,U,U,e10,(by rw[qi];exact QN ⋯),?_⟩;have htk:rs.take (i+1)=rs.take i++[r]:=by rw[zo,d];rfl
    refine⟨b++[x],_,_,_,U,(u.trans v).zE G,by rw[Qg,qH];rfl,by rw[qm,ql];omega,?_⟩;rw[htk,qH];exact t8.row hx
  .rintro σ g ⟨xs,J,M,e,rfl,l,N,c,m⟩;rw[show((rs.map λr=>V.ref r.r).length:Int).toNat=rs.length by omega] at c m;rw[qP (qp _)] at m;exact⟨_,U,k L xs g l G N c m⟩
def wr1:qf:=["if any","any then stop","if any then","if any then stop,","if any then stop stop","if any then place"]
def wr2:qf:=["if then stop","if any and then stop","if any then , stop","if any then mark A",Zd,", ,"]
def wr3:qf:=["if any then place x y","If any then stop","if (any then stop","if any stop","\t"]
def wr4:qf:=[(("if ":qc)++Txt.mul "not " 30)++"any then stop","\tif any then stop","if any then\tstop"]
def wr5:qf:=[(((("if ":qc)++Txt.mul "(" 41)++"any")++Txt.mul ")" 41)++" then stop"]
def wr6:qf:=["if thread not thread (any and thread any) then stop"]
def VT:qf:=((((wr1++wr2)++wr3)++wr4)++wr5)++wr6
def Ar(x:qc):Bool:=(WS (yb x)).isNone&&(!decide (Txt.stripChars x " "=""))&&decide (x.length<=60000)&&x.cps.toList.all (λc=>decide (c<128/\c≠10))
def D3:VT.all Ar=true:=by decide +kernel
inductive aA(vs:qb V)(H:Hp)(Q:VK)(E:XK):Prop
 |mk:∀(z:Int),vs=[.int z]->0<=z->z<2147483629->(∀x H',Qi H H'->Ar x=true->Q (.str x) H')->aA vs H Q E
theorem Rp(T:Txt P w K mg base a fd):T.k jx 1 35 aA:=by
 refine T.ok 35 (λq A outer st H vs Q E hr h=>?_)
 .obtain⟨z,rfl,z0,z1,k⟩:=h;have m0:0<=z%22:=qF _ ∅;have m1:z%22<22:=qA _ ∅;refine⟨_,(Qb (Ql (i:=1) (sc 35).nd (Qy (Qc Qf (Qc Qf (Qc Qf (Qc Qf (Qc Qf (Qc Qf Qm))))))))
   (Qb (Ql (i:=1) (sc 35).nd (Qh QW (pv 1) (Qy (Qc Qf (Qc Qf (Qc Qf (Qc Qf (Qc Qf (Qc Qf Qm)))))))))
   (Qb (Ql (i:=1) (sc 35).nd (Qh QW (pv 1) (Qy (Qc Qf (Qc Qf (Qc Qf (Qc Qf (Qc Qf Qm))))))))
   (Qb (Ql (i:=1) (sc 35).nd (Qh QW (pv 1) (Qy (Qc (Qh QU (Qh QU Qf (Qh U5 Qf Qa)) Qf) (Qc Qf (Qc Qf Qm))))))
   (Qb (Ql (i:=1) (sc 35).nd (Qh QW (pv 1) (Qy (Qc (Qh QU (Qh QU (Qh QU (Qh QU Qf (Qh U5 Qf Qa)) Qf) (Qh U5 Qf Qa)) Qf) Qm))))
   (Qd (Qk (Qp Qs (Qh QW (pv 1) (Qy (Qc Qf Qm))) (Qh Qx (pv 0) Qa))))))))),?_⟩
  refine⟨TQ,λr H1 n1 s1 e1=>?_⟩;refine⟨_,U,TQ,λs H2 n2 s2 t=>⟨r,s,_,_,U,U,s2 _ _ e1,t,PZ,λu H3 n3 s3 x=>?_⟩⟩;refine⟨_,U,RN,λy H4 n4 s4 B=>⟨u,y,_,_,U,U,s4 _ _ x,B,TX,λC H5 n5 s5 D=>?_⟩⟩;refine⟨_,U,_,_,U,U,∅,∅,∅,_,_,U,U,∅,_,_,U,U,∅,VS,λF H6 n6 o G=>⟨C,F,_,_,U,U,o _ _ D,G,TV,λI H7 n7 J L=>?_⟩⟩;refine⟨_,U,_,_,U,U,∅,∅,∅,_,_,U,U,∅,_,_,U,U,∅,_,_,U,U,∅,∅,∅,_,_,U,U,∅,_,_,U,U,∅,Uv,λM H8 n8 p N=>⟨I,M,_,_,U,U,p _ _ L,N,TU,λO H9 n9 R S=>?_⟩⟩;refine⟨_,U,Uv,λg X Y c l=>⟨O,g,_,_,U,U,c _ _ S,l,TR,λd e Z m b=>?_⟩⟩;have b:e d=some (.lst (VT.map V.str)):=b;have hl:VT.length=22:=rfl;have f:(z%22).toNat<VT.length:=by rw[hl];omega
  have n:xX (VT.map V.str) (z%22)=some (.str VT[(z%22).toNat]):=by
   have:=QB (xs:=VT.map V.str) (j:=(z%22).toNat) (v:=.str VT[(z%22).toNat]) (by rw[qC,qx f];rfl);rwa[Int.toNat_of_nonneg m0] at this
  refine⟨_,U,_,_,U,U,T1,d,_,_,_,U,U,zm.of b,n,?_⟩;refine k _ e ((((((((((s1.trans s2).trans s3).trans s4).trans s5).trans o).trans J).trans p).trans R).trans c).trans m) ?_;exact zf.mp D3 _ (zU f)
inductive Gi(vs:qb V)(H:Hp)(Q:VK):Prop
 |mk:∀(x:qc)(ls:qf)(n:Nat),vs=[.str x,.int (n:Nat)]->Txt.split x "\n"=ls->x.length<=1000000->(∀y∈ls,KH y)->ls.length<=200->(YS ls).length<=40->(∀r∈YS ls,r.1.dp<8/\r.2.length<=4)->Uh 1 ls=some n->(∀H',Qi H H'->Q (.bl true) H')->Gi vs H Q
def R8:Sp:=λvs H Q _=>Gi vs H Q
def MB(T:Txt P w K mg base a fd):T.kU 1 14 Bz:=by
 refine(T.F 14).okU (sc 14) (λvs H Q E h=>?_) (λb A outer s H vs Q E c h=>?_)
 .obtain⟨i,rfl,_⟩:=h;rfl
 .obtain⟨i,rfl,k⟩:=h;refine⟨_,(Qd (Qk (Vi (Qv Yw rfl (T 4) boot_isinstance (qV (pv 0) (qV (UJ (v:=.ty "int") rfl (T 17) boot_int rfl) Qe))) (UC (GC (Qv Yw rfl (T 4) boot_isinstance (qV (pv 0) (qV (UJ (v:=.ty "bool") rfl (T 70) boot_bool rfl) Qe)))))))),?_⟩;exact⟨_,U,_,_,_,_,_,U,U,Uw.int _,Ry,_,U,QI ⟨_,U,_,_,_,_,_,U,U,Uw.int _,Rz,_,U,k⟩⟩
def O0(T:Txt P w K mg base a fd):T.k jx 169 36 R8:=by
 refine T.ok 36 (λu A outer s H vs Q E t h=>?_)
 .obtain⟨x,ls,m,rfl,l,y,z,B,g,o,f,k⟩:=h;refine⟨_,(Qb (HL (i:=2) (R:=λσ c d H'=>c=.ref (a 103)/\σ=L2.start (nn 36) [.str x,.int (m:Nat)]/\∃n,d=some n/\Qi H H'/\H' n=some (.xd [(Zs,.int (m:Nat))])) rfl (T 93) (T 187) rfl rfl rfl (sc 36).nd U rfl (λσ C d H' q=>by obtain⟨e,_⟩:=q;cases e;exact(T 189))
   (λpn=>Qd (Q4 (Mo (R:=λσ c d H'=>c=.ref (a 103)/\σ=L2.start (nn 36) [.str x,.int (m:Nat)]/\∃n,d=some n/\Qi H H'/\H' n=some (.xd [(Zs,.int (m:Nat))])) (MI T) t.up rfl (T 66) (T.F 12).kp (T.B 12) .nil Sy (qV (pv 0) Qe))))
   (λev=>(Qb (Qu (PW.pt (Wb (Q5 (Qv (YI K) rfl (T 4) boot_isinstance (qV (pv 2) (qV (Yo (v:=.ref (a 99)) rfl ⟨_,(T 188),U⟩) Qe)))) (Wb (Q5 (Qv (YI K) rfl (T 4) boot_isinstance (qV (pv 2) (qV (Yo (v:=.ref (a 100)) rfl ⟨_,(T 192),U⟩) Qe)))) (Wb (Q5 (Qv (YI K) rfl (T 4) boot_isinstance (qV (pv 2) (qV (Yo (v:=.ref (a 101)) rfl ⟨_,(T 193),U⟩) Qe)))) (Wa (Q5 (Qv (YI K) rfl (T 4) boot_isinstance (qV (pv 2) (qV (Yo (v:=.ref (a 102)) rfl ⟨_,(T 194),U⟩) Qe))))))))) (Qd (Qk Ur)) Qq)
   (Qb (Qu (PW.pt (Wb (Uj (Q5 (Qv (YI K) rfl (T 4) boot_isinstance (qV (pv 2) (qV (Yo (v:=.ref (a 103)) rfl ⟨_,(T 8),U⟩) Qe))))) (Wb (Q5 (Qv (YI K) rfl (T 4) boot_isinstance (qV (pv 2) (qV (Yo (v:=.ref (a 104)) rfl ⟨_,(T 191),U⟩) Qe)))) (Wa (Uj (Q5 (Qv (YI K) rfl (T 4) boot_isinstance (qV (pv 2) (qV (UJ (v:=.ty "ValueError") rfl (T 202) PM rfl) Qe))))))))) (Qd (Qk Ur)) Qq)
   (Qd (Qk (Vi (Mp (E:=E) (MB T) ((t.mono).toU.mark _) rfl (T 98) (T.F 14).kp (T.B 14) .nil (qV (CK K (pv 2) U) Qe)) (UC (YH QH (CK K (pv 2) U) (pv 1)))))))))
   )
   (Qd (Qk Ur))),?_⟩
  refine⟨λD C d H' e F he=>?_,?_⟩
  .obtain⟨I,rfl,n,rfl,p,j⟩:=F;cases I;have b:(upd H' e (Ki (a 103) (some n) e)) e=some (Ki (a 103) (some n) e):=Qg;have r:(upd H' e (Ki (a 103) (some n) e)) n=some (.xd [(Zs,.int (m:Nat))]):=by rw[Qj (Qo j he)];exact j
   have s0:Qi H' (upd H' e (Ki (a 103) (some n) e)):=Qi.zL he;generalize upd H' e (Ki (a 103) (some n) e)=G at b r s0;refine⟨_,U,e,_,_,_,_,_,U,b,(T 9),U,(T 195),_,U,QA ?_⟩;refine⟨_,U,e,_,_,_,_,_,U,b,(T 9),U,(T 196),_,U,QA ?_⟩;refine⟨_,U,e,_,_,_,_,_,U,b,(T 9),U,(T 197),_,U,QA ?_⟩;refine⟨_,U,e,_,_,_,_,_,U,b,(T 9),U,(T 198),_,U,QA ?_⟩;refine⟨_,U,e,_,_,_,_,_,U,b,(T 9),U,(T 200),_,U,QA ?_⟩;refine⟨_,U,e,_,_,_,_,_,U,b,(T 9),U,(T 199),_,U,QA ?_⟩;refine⟨_,U,e,_,_,_,_,_,U,b,(T 9),U,(T 201),_,U,QA ?_⟩;refine⟨_,U,e,_,n,_,_,U,b,r,(T 9),(T 65).no,U,(m:Nat),U,_,U,QI ?_⟩;refine⟨_,U,e,_,n,_,_,U,b,r,(T 9),(T 65).no,U,_,U,?_⟩;refine⟨U,?_⟩;rw[qv rfl];exact k _ (p.trans s0)
  .exact⟨_,U,x,ls,U,l,y,z,B,g,o,(λb=>by rw[f] at b;cases b),λi hi H' n p e=>⟨rfl,rfl,n,rfl,p,by rw[f] at hi;cases hi;exact e⟩⟩
theorem Xb{W:qf}(k:W.length<=40){os:qb CD}:∀{rs:qb RW}{i:Nat}{c:CD}{ps:qb Nat},Yy c->SS c.ms=c.ms->(∀r∈rs,∀y∈r.as,vD y.2)->(∀r∈rs,r.as.length<=4)->wJ W c.ms->(∀r∈rs,∀x∈r.as.map (·.2),Hs W x)->Yy (Y8 os rs i c ps).1
 |[],_,_,_,g,_,_,_,_,_=>g
 |r::rs,i,c,ps,g,b,d,e,hc,f=>by
  have l:=e r qo;have m:=hc.len b;have h:=Wz (as:=r.as.map (·.2)) g (λz hz=>by obtain⟨n,j,rfl⟩:=zr.mp hz;exact d r qo n j) b (by rw[qi];omega);unfold Y8;split
  .split
   .exact h.1
   .exact Xb k h.1 h.2.1 (λa h'=>d a (qt _ h')) (λa h'=>e a (qt _ h')) (Kf hc (f r qo)) (λa h'=>f a (qt _ h'))
  .exact Xb k g b (λa h'=>d a (qt _ h')) (λa h'=>e a (qt _ h')) hc (λa h'=>f a (qt _ h'))
def gf.congr{rs rs':qb RW}(h:gf c rs)(e:rs.map kg=rs'.map kg):gf c rs':=by
 obtain⟨W,d,f,g⟩:=h;refine⟨W,d,f,λr i x j=>?_⟩;have:kg r∈rs.map kg:=by rw[e];exact zr.mpr ⟨r,i,U⟩
 obtain⟨b,a,k⟩:=zr.mp this;have l:b.as.map (·.2)=r.as.map (·.2):=q8 Prod.snd k;exact g b a x (by rw[l];exact j)
def V9{K:Frag}{H:Hp}:∀ns:qb Nat,kR K H (ns.map λi:Nat=>V.int (i:Int)) (ns.map λi:Nat=>PyData.int (i:Int))
 |[]=>.nil
 |_::ns=>.cons (.int _) (V9 ns)
def Di:∀ns:qb Nat,canLayAll0 (ns.map λi:Nat=>PyData.int (i:Int))=true/\PyData.depthAll (ns.map λi:Nat=>PyData.int (i:Int))=0
 |[]=>⟨U,U⟩
 |n::ns=>by
  have a:=Di ns;exact⟨by simp[canLayAll0,canLay0,a.1],by simp[PyData.depthAll,PyData.depth,a.2]⟩
def Kl(ns:qb Nat):SeqAt.shaped (.list (ns.map λi:Nat=>PyData.int (i:Int)))=true:=by
 have q:=Di ns;unfold SeqAt.shaped;rw[qB];exact⟨by simp only[canLay0,q.1],qv (by simp only[PyData.depth,q.2];decide)⟩
def HE(hf:QO fo)(hm:∀x∈ms,QO x):SeqAt.shaped (.tuple [.str fo,.list (ms.map PyData.str)])=true:=by
 have q:=Wn (xs:=ms) λx a=>(hm x a).asc;unfold SeqAt.shaped;rw[qB];exact⟨by simp[canLay0,canLayAll0,hf.asc.ok,q.1],qv (by simp[PyData.depth,PyData.depthAll,q.2])⟩
def De{K:Frag}{H:Hp}:∀{rs:qb RW},(∀r∈rs,Vy H r)->kR K H (rs.map λr=>V.ref r.r) (rs.map λr=>WT r.t (r.as.map (·.2)))
 |[],_=>.nil
 |r::rs,h=>.cons (.tup (zu.of (h r qo).e) (.cons (h r qo).c.rd (.cons (.tup (zu.of (h r qo).q) (K2 (h r qo).as)) .nil))) (De λa h'=>h a (qt _ h'))
theorem Ae:∀{as:qb Act},(∀x∈as,vD x)->PyData.depthAll (as.map λx=>PyData.tuple ((Yz x).map PyData.str))<=1
 |[],_=>zb _
 |x::r,h=>by
  have q:=Wn (Ac (h x qo));have b:=Ae λy a=>h y (qt _ a);simp only[qX,PyData.depthAll,PyData.depth,q.2];omega
theorem M4{r:RW}(a:Vy H r):canLay0 (WT r.t (r.as.map (·.2)))=true/\PyData.depth (WT r.t (r.as.map (·.2)))<=20:=by
 have c:∀x∈r.as.map (·.2),vD x:=λz hz=>by obtain⟨e,b,rfl⟩:=zr.mp hz;exact(a.as e b).2
 have d:=a.c.lay;have f:=Ad c;have g:=Ae c;have hd:=a.d;have h:=d.2;refine⟨by simp only[canLayAll0,WT,Tv,canLay0,d.1,f];rfl,?_⟩;simp only[PyData.depthAll,WT,Tv,PyData.depth];omega
theorem AY{H:Hp}:∀{rs:qb RW},(∀r∈rs,Vy H r)->canLayAll0 (rs.map λr=>WT r.t (r.as.map (·.2)))=true/\PyData.depthAll (rs.map λr=>WT r.t (r.as.map (·.2)))<=20
 |[],_=>⟨U,zb _⟩
 |r::rs,h=>by
  have a:=AY (rs:=rs) λb h'=>h b (qt _ h');have q:=M4 (h r qo);have c:=a.2;have d:=q.2;refine⟨by simp only[qX,canLayAll0,q.1,a.1];rfl,?_⟩;simp only[qX,PyData.depthAll];omega
theorem BW{rs:qb RW}(h:∀r∈rs,Vy H r):SeqAt.shaped (.list (rs.map λr=>WT r.t (r.as.map (·.2))))=true:=by
 have q:=AY h;have a:=q.2;unfold SeqAt.shaped;rw[qB];exact⟨by simp only[canLay0,q.1],qv (by simp only[PyData.depth];omega)⟩
def Em:∀{rs rs':qb RW},rs.map kg=rs'.map kg->(rs.map λr=>WT r.t (r.as.map (·.2)))=rs'.map λr=>WT r.t (r.as.map (·.2)):=λ{rs rs'} h=>by
 have e:(λr:RW=>WT r.t (r.as.map (·.2)))=(λx:Tr×qb Act=>WT x.1 x.2)∘kg:=rfl;rw[e,<-yf,<-yf,h]
structure TIn(a:jT)(H:Hp)(x:qc)(D lc lm:qd)(rs:qb RW)(xs:qb (qd×CD))(ms:qb V):Prop where
 xl:x.length<=1000000
 tx:∀y∈Txt.split x "\n",KH y
 tn:(Txt.split x "\n").length<=200
 tr:YS (Txt.split x "\n")=rs.map kg
 tb:Uh 1 (Txt.split x "\n")=none
 d:H D=some (.lst (rs.map λr=>V.ref r.r))
 lr:∀r∈rs,Vy H r
 n:rs.length<=40
 fw:∀y∈xs,gf y.2 rs
 c:H lc=some (.lst (xs.map λx=>V.ref x.1))
 ct:∀y∈xs,U9 H y.1 y.2
 g:∀y∈xs,Yy y.2/\SS y.2.ms=y.2.ms
 p:0<xs.length
 l:xs.length<=4
 m:H lm=some (.lst ms)
 cm:Yi a H ms (xs.map (·.2))
inductive aD(a:jT)(vs:qb V)(H:Hp)(Q:VK)(E:XK):Prop
 |mk:∀x D lc lm (tn:Int) (rs:qb RW) (xs:qb (qd×CD)) (ms:qb V),vs=[.str x,.ref D,.ref lc,.ref lm,.int tn]->TIn a H x D lc lm rs xs ms->(∀H',KL a H H'->Q (.bl true) H')->aD a vs H Q E
def at0{x:V} :xX (x::xs) 0=some x:=QB (j:=0) rfl
def Sz   :US (yZ P w) X E0:=λ_ _ _ _ _ _ _ ⟨_,_,_,_,_,_,_,h⟩=>h.elim
theorem Rr(T:Txt P w K mg base a fd):T.k jx 169 37 (aD a):=by
 refine T.ok 37 (λcdv A outer st H vs Q E hr h=>?_)
 .obtain⟨x,D,lc,lm,tn,rs,xs,ms,rfl,b,k⟩:=h;have d:=hr.units
  cases xs with
  |nil=>exact absurd b.p (zw _)
  |cons x0 j=>
  obtain⟨m0,mt,rfl,N,O⟩:∃m0 mt,ms=.ref m0::mt/\UT a H m0 x0.2/\Yi a H mt (j.map (·.2)):=by
   have:=b.cm;rw[qX] at this
   cases this with
   |cons h c=>exact⟨_,_,U,h,c⟩
  have G:=b.g x0 qo;have hn4:=b.n;have hxl:=b.l;rw[qw] at hxl;have gt:∀z∈j.map (·.2),Yy z:=λz hz=>by
   obtain⟨y,L,rfl⟩:=zr.mp hz;exact(b.g y (qt _ L)).1
  have fw:=b.fw x0 qo;have gR:Yy (Y8 (j.map (·.2)) rs 0 x0.2 []).1:=by
   obtain⟨W,g,o,p⟩:=fw;exact Xb g G.1 G.2 (λr c y L=>((b.lr r c).as y L).2) (λr c=>(b.lr r c).n) o p
  obtain⟨t3,h3,R⟩:∃t,yV (T.cx 37 cdv A outer st H E) ((QK (sO 37)).drop 3) t /\
   ∀(g:Hp)(X:qd)(rs':qb RW)(u M:qd),KL a H g->Ve a g X rs'->rs'.map kg=rs.map kg->U9 g u (Y8 (j.map (·.2)) rs 0 x0.2 []).1->g M=some (.lst ((Y8 (j.map (·.2)) rs 0 x0.2 []).2.map λi:Nat=>V.int (i:Int))) ->
    t {nx:=λ_ H'=>Q .non H',rt:=Q} [some (.str x),some (.ref D),some (.ref lc),some (.ref lm),some (.int tn),some (.ref X),some (.ref u),some (.ref M)] g:=by
   refine⟨_,((Qb (Qu (PW.pt (Wb (Qn (Et d) (T.mn (pv 5) (T 7) (T 181) (OZ T)) (pv 1)) (Wa (Qn (Et d) (T.me (pv 5) (T 7) (T 182) (SJ T) (qV (Qp Qs (pv 3) Qa) (qV (QT Yd (pv 3) (QR Qa) Yn) Qe))) (QJ (Qc (Qp Qt (pv 6) Qa) (Qc (Qp Qt (pv 6) Qa) Qm))))))) (Qd (Qk Ur)) Qq)
   (Qd (Qk (YH (My d) (T.me (pv 5) (T 7) (T 87) (ML T) (qV (Qp Qs (pv 3) Qa) (qV (QT Yd (pv 3) (QR Qa) Yn) Qe))) (pv 7)))))),λg X rs' u M S I he hu Y=>?_⟩
   have eR:Y8 (j.map (·.2)) rs' 0 x0.2 []=Y8 (j.map (·.2)) rs 0 x0.2 []:=VE he;have o:∀(s:Hp)(lo:qd),KL a g s->s lo=some (.lst mt)->N7 a s X m0 lo rs' x0.2 mt (j.map (·.2)):=λs lo v e=>⟨I.kl v,N.kl (S.trans v),G.1,G.2,fw.congr he.symm,e,O.kl (S.trans v),gt,by rw[qi];omega⟩;obtain⟨dx4,l4,ex4,_⟩:=id I;refine⟨_,U,X,dx4,_,U,ex4,U,X,rs',U,I,λDt ys s s5 nDt eDt Z=>?_⟩;have v:KL a g s:=KL.of s5;have B:=S.trans v;have C:∀r∈rs,Vy s r:=λr c=>(b.lr r c).kl B;rw[Em he] at Z;refine⟨_,U,BS (.lst (zm.of eDt) Z) (.lst (zm.of (B.keep b.d rfl)) (De C)) (BW C) ⟨_,U,QA ?_⟩⟩;obtain⟨dx5,l5,ex5,_⟩:=I.kl v;refine⟨_,U,X,dx5,_,U,ex5,U,_,U,lm,_,_,_,U,U,zm.of (B.keep b.m rfl),at0,_,U,_,U,lm,_,U,zm.of (B.keep b.m rfl),λj1 H6 n6 s6 e6=>?_⟩;rw[IW] at e6;have k6:KL a g H6:=v.trans (KL.of s6);refine⟨X,m0,j1,rs',x0.2,mt,_,U,o H6 j1 k6 e6,λf fl H7 k7 nf nfl ef efl=>?_⟩;rw[eR] at ef efl;have k47:=k6.trans k7;have hu7:=hu.kl k47;obtain⟨q,m,e1,e2',e3⟩:=hu7;refine⟨_,U,u,_,_,_,U,U,zu.of e1,U,_,U,u,_,_,_,U,U,zu.of e1,U,U2,λp8 H8 n8 s8 e8=>?_⟩;refine BS (.tup (zu.of (s8 _ _ ef)) (.cons (.str _) (.cons (FF (zm.of (s8 _ _ efl))) .nil))) (.tup (zu.of e8) (.cons (.str _) (.cons (FF (zm.of (s8 _ _ e3))) .nil))) (HE gR.f gR.m) ⟨_,U,QA ?_⟩;have J:KL a g H8:=k47.trans (KL.of s8);have k08:=S.trans J;obtain⟨dx8,l8,ex8,_⟩:=I.kl J;refine⟨_,U,X,dx8,_,U,ex8,U,_,U,lm,_,_,_,U,U,zm.of (k08.keep b.m rfl),at0,_,U,_,U,lm,_,U,zm.of (k08.keep b.m rfl),λj9 H9 n9 s9 e9=>?_⟩;rw[IW] at e9;have k49:KL a g H9:=J.trans (KL.of s9);refine⟨X,m0,j9,rs',x0.2,mt,_,U,o H9 j9 k49 e9,λDm H10 k10 nDm p=>?_⟩;rw[eR] at p;have F:=k49.trans k10;exact⟨_,U,Pz (.lst (zm.of p) (V9 _)) (.lst (zm.of (F.keep Y rfl)) (V9 _)) (Kl _) (k H10 (S.trans F))⟩
  refine⟨_,(Qb (Ql (i:=5) (sc 37).nd (Q7 (MI T) hr.up rfl (T 66) (T.F 12).kp (T.B 12) .nil Sz (qV (pv 0) Qe)))
   (Qb (Eo (T.cl (bP T) (qV (pv 1) (qV (Qp Qs (pv 2) Qa) (qV (QT Yd (pv 2) (QR Qa) Yn) Qe)))) (XY rfl (Yu (QG (i:=6) (sc 37).nd) (Yu (QG (i:=7) (sc 37).nd) WI))))
   (Qb (Qu (PW.pt (UP (Qn QH (Qh Qx (pv 4) Qa) Qa) (Vb (Qn (Et d) (T.me (pv 5) (T 7) (T 87) (ML T) (qV (Qp Qs (pv 3) Qa) (qV (QT Yd (pv 3) (QR Qa) Yn) Qe))) (pv 7))))) (Qd (Qk Ur)) Qq)
   h3))),?_⟩
  refine⟨_,U,x,_,U,U,b.xl,b.tx,b.tn,by rw[b.tr,qi];exact b.n,λr c=>?_,λ_ X rs' H1 s1 I he=>?_,λn hn=>by rw[b.tb] at hn;cases hn⟩
  .rw[b.tr] at c;obtain⟨o,h0,rfl⟩:=zr.mp c;have:=b.lr o h0;exact⟨this.d,by show(o.as.map (·.2)).length<=4;rw[qi];exact this.n⟩
  rw[b.tr] at he;have k1:KL a H H1:=KL.of s1;have eR:Y8 (j.map (·.2)) rs' 0 x0.2 []=Y8 (j.map (·.2)) rs 0 x0.2 []:=VE he;refine⟨_,U,_,U,lc,_,_,_,U,U,zm.of (s1 _ _ b.c),at0,_,U,_,U,lc,_,U,zm.of (s1 _ _ b.c),λj1 H2 n2 s2 e2=>?_⟩;rw[qX,IW] at e2;have B:=s1.trans s2;refine⟨D,x0.1,j1,rs,x0.2,j,U,B _ _ b.d,(λr c=>(b.lr r c).mono B),b.n,(b.ct x0 qo).mono B,G.1,G.2,fw,e2,(λy L=>⟨(b.ct y (qt _ L)).mono B,(b.g y (qt _ L)).1⟩),⋯,λz u M Z s3 ez hu Y=>?_⟩;have S:KL a H1 Z:=KL.of (s2.trans s3);have J:KL a H Z:=k1.trans S;have C:=I.kl S;refine⟨z,_,U,zu.of ez,U,_,_,U,_,_,U,U,?_⟩;refine⟨_,U,_,_,U,U,DZ,U,_,U,?_⟩;rw[Wr];cases decide (tn%2=1)
  .exact QA (QA (R Z X rs' u M J C he hu Y))
  .obtain⟨dx,l,ex,_⟩:=id C;refine QI ⟨_,U,X,dx,_,U,ex,U,_,U,lm,_,_,_,U,U,zm.of (J.keep b.m rfl),at0,_,U,_,U,lm,_,U,zm.of (J.keep b.m rfl),λj4 g n4 s4 e4=>?_⟩;rw[IW] at e4;have F:KL a Z g:=KL.of s4;refine⟨X,m0,j4,rs',x0.2,mt,_,U,⟨C.kl F,N.kl (J.trans F),G.1,G.2,fw.congr he.symm,e4,O.kl (J.trans F),gt,by rw[qi];omega⟩,λDm s v nDm p=>?_⟩;rw[eR] at p;have o:=F.trans v;exact⟨_,U,BS (.lst (zm.of p) (V9 _)) (.lst (zm.of (o.keep Y rfl)) (V9 _)) (Kl _) ⟨_,U,QA (R s X rs' u M (J.trans o) (C.kl o) he (hu.kl o) (o.keep Y rfl))⟩⟩
theorem R3(h:t.dp<8):t.sz<=255:=by
 have a:=W9 t;have b:2^(t.dp+1)<=2^8:=yy ∅ ⋯;have c:(2:Nat)^8=256:=by decide
 omega
theorem FZ(ys:qf):(Txt.join "\n" ys).length<=(ys.map (·.length)).sum+ys.length:=by
 have e:Txt.join "\n" ys=Str.join "\n" ys:=jF ..;have:=StrLaws.join_length_le ("\n":qc) ys;rw[show("\n":qc).length=1 by decide +kernel] at this;rw[e];omega
structure RL(x:qc):Prop where
 xl:x.length<=1000000
 tx:∀y∈Txt.split x "\n",KH y
 tn:(Txt.split x "\n").length<=200
def wK.ok(h:wK x):KH x/\¬10∈x.cps.toList:=⟨⟨qO h.n ∅,λc hc=>by rw[h.c c hc];decide⟩,λz=>absurd (h.c 10 z) ∅⟩
def Kh.ok{d:Tr×qb Act}(h:Kh x d):KH x/\¬10∈x.cps.toList:=⟨⟨qO h.n ∅,λc hc=>by have:=h.c c hc;omega⟩,λz=>by have:=h.c 10 z;omega⟩
def UK(h:Ar x=true):KH x/\(¬10∈x.cps.toList)/\WS (yb x)=none/\Txt.stripChars x " "≠""/\x.length<=60000:=by
 unfold Ar at h;rw[qB,qB,qB,zf] at h;obtain⟨⟨⟨e,b⟩,a⟩,d⟩:=h;have a:=qM a;refine⟨⟨qO a ∅,λc hc=>?_⟩,λz=>(qM (d 10 z)).2 rfl,ka.mp e,(λz=>by rw[qv z] at b;cases b),a⟩;have:=(qM (d c hc)).1;omega
def ko.ok1{xs:qf}(h:ko xs ds):∀x∈xs,KH x/\¬10∈x.cps.toList:=λx a=>by
 rcases h.a x a with h|⟨d,h⟩
 .exact h.ok
 .exact h.ok
theorem XA:∀{xs:qf},(∀x∈xs,wK x\/∃d,Kh x d)->(xs.map (·.length)).sum<=13000*(YS xs).length+2*xs.length
 |[],_=>zb _
 |x::r,h=>by
  have c:=XA (xs:=r) λy b=>h y (qt _ b);rw[qX,xg,qw];rcases h x qo with a|⟨d,a⟩
  .have:=a.n;have e:YS (x::r)=YS r:=jU a.yY;rw[e];omega
  .have:=a.n;have e:YS (x::r)=d::YS r:=jV a.yY;rw[e,qw];omega
def Hn:wK "":=⟨∅,∅,∅⟩
theorem ko.txt{xs:qf}(h:ko xs ds)(h0:xs≠[])(d:ds.length<=40)(f:xs.length<=100):RL (Txt.join "\n" xs)/\Txt.split (Txt.join "\n" xs) "\n"=xs:=by
 have e:=Gg h0 λp a=>(h.ok1 p a).2;have g:=FZ xs;have b:=XA h.a;rw[h.r] at b;exact⟨⟨⋯,by rw[e];exact λy c=>(h.ok1 y c).1,by rw[e];omega⟩,e⟩
def ko.some{xs:qf}(h:ko xs ds):∃ys,ys≠[]/\ko ys ds/\Txt.join "\n" ys=Txt.join "\n" xs/\ys.length<=xs.length+1:=by
 cases xs with
 |nil=>exact⟨[""],by simp,by have:=h.bl Hn;exact this,∅,qp _⟩
 |cons x r=>exact⟨x::r,by simp,h,U,zC _⟩
theorem F5:∀{ys:qf},ys≠[]->Txt.join "\n" (ys++[("":qc)])=Txt.join "\n" ys++"\n"
 |[y],_=>by
  have e:Txt.join "\n" [y,""]=Str.join "\n" [y,""]:=jF ..;show Txt.join "\n" [y,""]=y++"\n";rw[e];refine Yt ?_;rw[Uk,QM,CW];rfl
 |y::z::r,_=>by
  have a:=F5 (ys:=z::r) (by simp);have e1:Txt.join "\n" (y::z::r)=Str.join "\n" (y::z::r):=jF ..;have b:Txt.join "\n" (y::z::r++[("":qc)])=Str.join "\n" (y::z::(r++[("":qc)])):=jF ..;have c:Txt.join "\n" (z::r++[("":qc)])=Str.join "\n" (z::(r++[("":qc)])):=jF ..;have d:Txt.join "\n" (z::r)=Str.join "\n" (z::r):=jF ..;rw[c,d] at a;rw[e1,b];refine Yt ?_;rw[Uk,a,QM,QM,Uk,zh];rfl
def CB(h:Ar x=true):yY x=none:=by
 obtain⟨_,_,a,b,_⟩:=UK h;unfold yY;rw[qz b,a]
theorem Td{xs zs:qf}(h:ko xs ds)(k:n<=xs.length)(c:Ar x=true)(hz:∀z∈zs,Ar z=true)(hd:ds.length<=40)(l:xs.length<=90)(d:zs.length<=1) :
 RL (Txt.join "\n" ((xs.take n++[x])++xs.drop n++zs))/\Txt.split (Txt.join "\n" ((xs.take n++[x])++xs.drop n++zs)) "\n"=(xs.take n++[x])++xs.drop n++zs/\YS ((xs.take n++[x])++xs.drop n++zs)=ds/\Uh 1 ((xs.take n++[x])++xs.drop n++zs)=some (n+1):=by
 have all:∀y∈(xs.take n++[x])++xs.drop n++zs,KH y/\¬10∈y.cps.toList:=λy a=>by
  rcases qT.mp a with a|a
  .rcases qT.mp a with a|a
   .rcases qT.mp a with a|a
    .exact h.ok1 y (jc a)
    .rw[qq.mp a];exact⟨(UK c).1,(UK c).2.1⟩
   .exact h.ok1 y (jG a)
  .exact⟨(UK (hz y a)).1,(UK (hz y a)).2.1⟩
 have e:=Gg (ps:=(xs.take n++[x])++xs.drop n++zs) (by simp) λp m=>(all p m).2;have b:YS zs=[]:=List.filterMap_eq_nil_iff.mpr λz f=>CB (hz z f);have o:(zs.map (·.length)).sum<=60000*zs.length:=by
  clear l e all b d
  induction zs with
  |nil=>exact zb _
  |cons z zs g=>
   have i:=(UK (hz z qo)).2.2.2.2;have j:=g λy a=>hz y (qt _ a);rw[qX,xg,qw];omega
 have r:=FZ ((xs.take n++[x])++xs.drop n++zs);have s:(((xs.take n++[x])++xs.drop n++zs).map (·.length)).sum=(xs.map (·.length)).sum+x.length+(zs.map (·.length)).sum:=by
  have q:(xs.map (·.length)).sum=((xs.take n).map (·.length)).sum+((xs.drop n).map (·.length)).sum:=by
   conv=>lhs;rw[<-zG n xs]
   rw[qH,yj]
  rw[q];simp only[qH,yj,qX,yA,xg,List.sum_nil];omega
 have t:((xs.take n++[x])++xs.drop n++zs).length=xs.length+1+zs.length:=by
  simp only[qm,zi,qZ,qw,zJ];omega
 have g:=XA h.a;have u:=(UK c).2.2.2.2;rw[h.r] at g;refine⟨⟨⋯,by rw[e];exact λy a=>(all y a).1,by rw[e];omega⟩,e,?_,?_⟩
 .have q:=h.r
  conv at q=>lhs;rw[<-zG n xs]
  unfold YS at q b⊢;rw[zX,zX,zX,b,jU (CB c),List.filterMap_nil,ze,ze,<-zX];exact q
 .rw[zh,zh,Ho λy a=>h.a y (jc a),zi,Nat.min_eq_left k];show Uh (1+n) (x::(xs.drop n++zs))=_;obtain⟨_,_,i,j,_⟩:=UK c;rw[Uh,qz j,i,Nat.add_comm 1 n];rfl
def DH{lo:Int}{fr:qb (Nat×qc)}{h:TE}(Pv:qd->Nat->qb V->Hp->Prop)(hz:n<=sizeLine)(h0:∀D,H1 D=none->Pv D 0 [] (upd H1 D (.lst [])))(hlen:∀D i ys H,Pv D i ys H->ys.length=i)
 (d:∀(D:qd)(i:Nat)(ys:qb V)(b:Hp)(Q':VK),i<n->H1 D=none->Pv D i ys b->b D=some (.lst ys)->(∀y c,c D=some (.lst ys)->Pv D (i+1) (ys++[y]) (upd c D (.lst (ys++[y])))->Q' y c)->h (some (.int (lo+i))::xA σ fr) b Q')
 (j:∀D ys H2,H1 D=none->Pv D n ys H2->H2 D=some (.lst ys)->Q (.ref D) H2) :
 Ug (Itr lo n) fr AA h σ H1 Q:=by
 unfold Ug;intro D f;refine⟨λi m ys H2=>m=n-i/\i<=n/\Pv D i ys H2/\H2 D=some (.lst ys),⟨n,by simp,zb _,h0 D f,Qg⟩,?_⟩;rintro i m ys H2 ⟨rfl,hi,p,g⟩;refine⟨g,?_⟩;by_cases a:i<n
 .refine .inr ⟨a,?_⟩;rintro v b ⟨rfl,rfl⟩;refine Xl (QI ?_);refine d D i ys _ _ a f p g λy c k l=>⟨k,?_,n-(i+1),⋯,U,a,l,Qg⟩;rw[hlen D i ys _ p];omega
 .have e:i=n:=by omega
  subst e;exact .inl ⟨qp _,j D ys H2 f p g⟩
def CTD(D:qd)(H:Hp)(u:qd)(c:CD):Prop:=∀a,(∀x o,x≠D->H x=some o->a x=some o)->U9 a u c
def CTD.next{u:qd}(h:CTD D H u c)(s:Qi H H')(k:∀x o,x≠D->H' x=some o->H2 x=some o):CTD D H2 u c:=λa b=>h a λx o n e=>b x o n (k x o n (s _ _ e))
inductive KN(a:jT)(D:qd)(H:Hp):qb V->qb CD->Prop
 |nil:KN a D H [] []
 |cons {x:qd} {c:CD} {xs:qb V} {cs:qb CD}:CaD a D H x c->KN a D H xs cs->KN a D H (.ref x::xs) (c::cs)
def KN.next{l c:qb V}(h:KN a D H xs cs)(s:Qi H H')(e:H' D=some (.lst l)):KN a D (upd H' D (.lst c)) xs cs:=by
 induction h with
 |nil=>exact .nil
 |cons h _ d=>
  obtain⟨g,b,hc⟩:=h;exact .cons ⟨g,b,(hc.mono s).list e b⟩ d
def KN.snoc{x:qd}(h:KN a D H xs cs)(hc:CaD a D H x c):KN a D H (xs++[.ref x]) (cs++[c]):=by
 induction h with
 |nil=>exact .cons hc .nil
 |cons h _ b=>exact .cons h b
def KN.at(h:KN a D H xs cs):Yi a H xs cs:=by
 induction h with
 |nil=>exact .nil
 |cons h _ b=>
  obtain⟨g,_,hc⟩:=h;exact .cons ⟨g,hc⟩ b
inductive aN(a:jT)(vs:qb V)(H:Hp)(Q:VK)(E:XK):Prop
 |mk:∀u c,vs=[.ref u]->U9 H u c->Yy c->SS c.ms=c.ms->(∀x g H',H x=none->H g=none->Qi H H'->UH a H' x g c.s c.t c.b c.d c.an c.fo c.ms->Q (.ref x) H')->aN a vs H Q E
def wx(K:Frag):Sp:=λvs H Q _=>∃(p:qd)(ns:qb Int),vs=[.ref p]/\zm K H p (ns.map V.int)/\ns.length<=63/\∀H',Q (.bl true) H'
theorem Kc{cs:qb Int}{lo:Int}(h0:0<=lo)(b:lo<=hi)(d:hi<=(cs.length:Int)):∃a:qb Int,Ub (cs.map V.int) (some lo) (some hi)=a.map V.int/\(∀c∈a,c∈cs)/\(a.length:Int)=hi-lo:=by
 obtain⟨l,rfl⟩:=Int.eq_ofNat_of_zero_le h0;obtain⟨m,rfl⟩:=Int.eq_ofNat_of_zero_le (Int.le_trans h0 b);refine⟨(cs.drop l).take (m-l),PH V.int cs l m h0 b,λc hc=>jG (jc hc),?_⟩;rw[zi,qZ,Nat.min_eq_left (Nat.sub_le_sub_right (Int.ofNat_le.mp d) l)];exact Int.ofNat_sub (Int.ofNat_le.mp b)
def bO(T:Txt P w K mg base a fd):T.k jx 10 21 (aN a):=by
 refine T.ok 21 (λe A outer st H vs Q E r h=>?_)
 .obtain⟨u,c,rfl,⟨q,m,e1,f,i⟩,g,j,k⟩:=h;refine⟨_,(Qd (Qk (T.ma (T 59) (T 58) (CT T) (qV (T.cl (HW T) (qV (Qp Qt (pv 0) Qa) Qe)) (qV (Qp Qt (pv 0) Qa) (qV (Qp Qt (pv 0) Qa) Qe)))))),?_⟩;refine⟨_,U,u,_,_,_,U,U,zu.of e1,U,q,_,_,_,_,_,U,f,g.g,λx H1 nx s1 l=>?_⟩;have b:=s1 _ _ e1;refine⟨_,U,u,_,_,_,U,U,zu.of b,U,_,U,u,_,_,_,U,U,zu.of b,U,λy s d n ne=>C0 (ss:=c.ms) d n ne l g.g (.inr ⟨m,U,.inl (s1 _ _ i)⟩) (by have:=g.l;omega) λH' o s2 p hc=>⟨U,k y o H' (s1.free d) (s1.free p) (s1.trans s2) (by rw[j] at hc;exact hc)⟩⟩
def aws:Act->qf
 |.mark w=>[w]
 |_=>[]
theorem Hq:∀as:qb (qd×Act),(as.flatMap λy=>aws y.2).length<=as.length
 |[]=>qp _
 |y::r=>by
  have h:=Hq r;rw[js,qm,qw];have:(aws y.2).length<=1:=by cases y.2<;>simp[aws]
  omega
theorem DS:∀{bs:qb RW},(∀r∈bs,r.as.length<=4)->(bs.flatMap λr=>r.as.flatMap λy=>aws y.2).length<=4*bs.length
 |[],_=>qp _
 |b::r,h=>by
  have c:=DS (bs:=r) λy a=>h y (qt _ a);have d:=Hq b.as;have e:=h b qo;rw[js,qm,qw];omega
theorem NA{bs rs:qb RW}(h:c.ms.length<=4)(i:bs.length<=5)(b:∀r∈bs,r.as.length<=4)(d:∀r∈rs,r∈bs):gf c rs:=by
 have j:=DS b;refine⟨c.ms++bs.flatMap (λr=>r.as.flatMap λy=>aws y.2),by rw[qm];omega,λx a=>zK _ a,λr f x a=>?_⟩
 cases x with
 |mark w=>
  obtain⟨y,g,e⟩:=zr.mp a;refine qU _ (xc.mpr ⟨r,d r f,xc.mpr ⟨y,g,?_⟩⟩);rw[e];exact qq.mpr rfl
 |_=>trivial
def RwK(H:Hp)(r:RW):Prop:=Vy H r/\r.as≠[]/\r.t.th<=2/\r.t.sz<=255
structure gb(a:jT)(H:Hp)(R D M D5:qd)(cs:qb Int)(xs:qb (qd×CD))(ms:qb V)(rs:qb RW):Prop where
 cl:cs.length=64
 cb:∀c∈cs,0<=c/\c<2147483629
 R:H R=some (.lst (cs.map V.int))
 D:H D=some (.lst (xs.map λx=>V.ref x.1))
 ct:∀x∈xs,U9 H x.1 x.2
 g:∀y∈xs,Yy y.2/\SS y.2.ms=y.2.ms/\y.2.ms.length<=4
 x0:0<xs.length
 xn:xs.length<=4
 M:H M=some (.lst ms)
 cm:Yi a H ms (xs.map (·.2))
 D5:H D5=some (.lst (rs.map λr=>V.ref r.r))
 rk:∀r∈rs,RwK H r
 n:rs.length<=40
 fw:∀y∈xs,gf y.2 rs
def gb.kl{M D5:qd}{cs:qb Int}{xs:qb (qd×CD)}{ms:qb V}{rs:qb RW}(h:gb a H R D M D5 cs xs ms rs)(k:KL a H H'):gb a H' R D M D5 cs xs ms rs:=
 ⟨h.cl,h.cb,k.keep h.R rfl,k.keep h.D rfl,λx c=>(h.ct x c).kl k,h.g,h.x0,h.xn,k.keep h.M rfl,h.cm.kl k,k.keep h.D5 rfl,λr b=>⟨(h.rk r b).1.kl k,(h.rk r b).2⟩,h.n,h.fw⟩
def gb.tin{M D5:qd}{cs:qb Int}{xs:qb (qd×CD)}{ms:qb V}{rs:qb RW}{ys:qf}(h:gb a H R D M D5 cs xs ms rs)(b:ko ys (rs.map kg))(h0:ys≠[])(f:ys.length<=100)(e:x=Txt.join "\n" ys):TIn a H x D5 D M rs xs ms:=by
 obtain⟨c,d⟩:=b.txt h0 (by rw[qi];exact h.n) f;subst e;exact⟨c.xl,c.tx,c.tn,by rw[d];exact b.r,by rw[d];exact Dx b.a,h.D5,λr g=>(h.rk r g).1,h.n,h.fw,h.D,h.ct,λy b=>⟨(h.g y b).1,(h.g y b).2.1⟩,h.x0,h.xn,h.M,h.cm⟩
def EA:("\n":qc).length=1:=by decide +kernel
theorem ko.bnd{xs:qf}{rs:qb RW}(h:ko xs (rs.map kg))(b:rs.length<=40)(c:xs.length<=2*rs.length):(xs.map (·.length)).sum+xs.length*("\n":qc).length<=1000000:=by
 have a:=XA h.a;rw[h.r,qi] at a;have e:("\n":qc).length=1:=by decide +kernel
 rw[e];omega
def LO(rs:qb RW)(n:Nat):(List.replicate n (rs.map λr=>V.ref r.r)).flatten=(List.replicate n rs).flatten.map λr=>V.ref r.r:=by
 rw[List.map_flatten,List.map_replicate]
def Pa{rs:qb RW}{r:RW}(h:r∈(List.replicate n rs).flatten):r∈rs:=by
 obtain⟨l,b,a⟩:=List.mem_flatten.mp h;rw[(List.mem_replicate.mp b).2] at a;exact a
theorem SK(T:Txt P w K mg base a fd):T.k jx 220 38 (wx K):=by
 refine T.ok 38 (λZ A outer st H vs Q E Y h=>?_) (λvs H Q E h=>by obtain⟨p,ns,rfl,_⟩:=h;rfl)
 .obtain⟨p,ns,rfl,hp,hl,k⟩:=h;obtain⟨t10,h10,gL⟩:∃t,yV (T.cx 38 Z A outer st H E) ((QK (sO 38)).drop 10) t /\
   ∀(H1:Hp)(R D M j:qd)(cs:qb Int)(z:Int)(xs:qb (qd×CD))(ms:qb V)(rs:qb RW)(C F:Option V)(L:qd)(ts:qf)(G f:Option V),gb a H1 R D M j cs xs ms rs->H1 L=some (.lst (ts.map V.str))->ko ts (rs.map kg)->ts.length<=2*rs.length ->
    t {nx:=λ_ H'=>Q .non H',rt:=Q} [some (.ref p),some (.ref R),some (.int z),some (.ref D),some (.ref M),some (.ref j),C,F,some (.ref L),G,f] H1:=by
   refine⟨_,(Qd (Qk (T.cl (Rr T) (qV (Qh QU (Ue plainAttrs_str slot_str_join type_str_join KW Qf (qV (pv 8) Qe)) Qf) (qV (pv 5) (qV (pv 3) (qV (pv 4) (qV (Qh Qz (Qp Qs (pv 1) Qa) Qa) Qe)))))))),λH1 R D M j cs z xs ms rs C F L ts G f hi hL B hn=>?_⟩;obtain⟨O,S,b0,b1⟩:=Yg hi.cb 62 ∅ (by have:=hi.cl;omega);obtain⟨ys,y0,J,ej,yl⟩:=B.some;have hb:=B.bnd hi.n hn;have h40:=hi.n;have I:=(J.txt y0 (by rw[qi];exact hi.n) ⋯).1.xl;rw[ej] at I;have sz:1000001<=sizeLine:=by decide
   refine⟨U,_,U,_,L,ts,U,U,zm.of hL,⋯,_,_,U,U,(by rw[EA];omega),_,U,_,U,_,U,_,U,R,_,_,_,U,U,zm.of hi.R,S,_,_,U,U,⟨∅,∅⟩,_,j,D,M,_,rs,xs,ms,U,?_,λH' _=>k H'⟩;exact hi.tin (J.bl Hn) (by simp) (by rw[qm,ql];omega) (by rw[F5 y0,ej])
  obtain⟨t9,h9,sp9⟩:∃t,yV (T.cx 38 Z A outer st H E) ((QK (sO 38)).drop 9) t /\
   ∀(H1:Hp)(R D M j:qd)(cs:qb Int)(z:Int)(xs:qb (qd×CD))(ms:qb V)(rs:qb RW)(C F:Option V)(L:qd)(ts:qf),gb a H1 R D M j cs xs ms rs->H1 L=some (.lst (ts.map V.str))->ko ts (rs.map kg)->ts.length<=2*rs.length ->
    t {nx:=λ_ H'=>Q .non H',rt:=Q} [some (.ref p),some (.ref R),some (.int z),some (.ref D),some (.ref M),some (.ref j),C,F,some (.ref L),none,none] H1:=by
   refine⟨_,(Qb (Qu (Qn QH (Qh Qx (Qp Qs (pv 1) Qa) Qa) Qa) (Qb (Ql (i:=9) (sc 38).nd (Qh Qx (Qh Qz (Qp Qs (pv 1) Qa) Qa) (Qh QV Qa (Qv QQ rfl (T 2) zy (qV (pv 8) Qe)))))
    (Qb (Ql (i:=10) (sc 38).nd (Qh QW (Qh QW (QT Yd (pv 8) Yn (QR (pv 9))) (Qy (Qc (T.cl (Rp T) (qV (Qp Qs (pv 1) Qa) Qe)) Qm))) (QT Yd (pv 8) (QR (pv 9)) Yn)))
    (Qb (Qu (Qn QH (Qh Qx (Qh Qz (Qp Qs (pv 1) Qa) Qa) Qa) Qa) (Qd (Q4 (Ue plainAttrs_list zk zl Q8 (pv 10) (qV (T.cl (Rp T) (qV (Qh Qz (Qp Qs (pv 1) Qa) Qa) Qe)) Qe)))) Qq)
    (Qd (Qu (Uj (Q5 (T.cl (O0 T) (qV (Ue plainAttrs_str slot_str_join type_str_join KW Qf (qV (pv 10) Qe)) (qV (Qh QV (pv 9) Qa) Qe))))) (Qd (Qk Ur)) Qq))))) Qq)
    h10),λH1 R D M j cs z xs ms rs C F L ts hi hL B hn=>?_⟩
   obtain⟨O,S,b0,b1⟩:=Yg hi.cb 62 ∅ (by have:=hi.cl;omega);obtain⟨X,e63,c0,c1⟩:=Yg hi.cb 63 ∅ (by have:=hi.cl;omega);have hb:=B.bnd hi.n hn;have h40:=hi.n;have sz:1000001<=sizeLine:=by decide
   refine⟨_,U,R,_,_,_,U,U,zm.of hi.R,S,_,_,U,U,K4,U,_,U,?_⟩;rw[Wr];by_cases hc:O%3=1
   .rw[qv hc];have hpos:(0:Int)<1+((ts.map V.str).length:Int):=by omega
    have n0:=qF (O / 3) (b:=1+((ts.map V.str).length:Int)) ⋯;have n1:=qA (O / 3) hpos;refine QI ⟨_,U,R,_,_,_,U,U,zm.of hi.R,S,_,_,U,U,⟨∅,∅⟩,_,U,L,_,U,.inl (zm.of hL),_,_,U,U,_,_,U,U,hpos,?_⟩;generalize O / 3%(1+((ts.map V.str).length:Int))=nI at n0 n1;obtain⟨m,rfl⟩:∃m:Nat,nI=m:=⟨nI.toNat,⋯⟩;rw[qi] at n1;have hm:m<=ts.length:=by omega
    refine⟨_,U,_,U,_,U,L,_,U,zm.of hL,λl1 H2 n2 s2 e2=>⟨_,U,R,_,_,_,U,U,zm.of (s2 _ _ hi.R),e63,X,U,c0,c1,λx I s3 G=>⟨Uv,λl2 H4 n4 s4 e4=>?_⟩⟩⟩;rw[Bg V.str ts m n0,jr] at e2;have e24:=s4 _ _ (s3 _ _ e2);have k14:=(s2.trans s3).trans s4;have tl:(ts.take m).length<=ts.length:=by rw[zi];omega
    have dl:(ts.drop m).length<=ts.length:=by rw[qZ];omega
    refine⟨l1,l2,_,_,U,U,e24,e4,(by rw[qi,ql];omega),λl3 H5 n5 s5 e5=>⟨_,U,_,U,_,U,L,_,U,zm.of (s5 _ _ (k14 _ _ hL)),λl4 H6 n6 s6 e6=>?_⟩⟩;rw[Ww V.str ts m n0,jr] at e6;have e56:=s6 _ _ e5;refine⟨l3,l4,_,_,U,U,e56,e6,(by rw[qm,qi,ql,qi];omega),λl5 H7 n7 s7 e7=>?_⟩;have e7':H7 l5=some (.lst (((ts.take m++[x])++ts.drop m).map V.str)):=by rw[e7,qH,qH];rfl
    have f:Qi H1 H7:=((k14.trans s5).trans s6).trans s7;have n17:H1 l5=none:=((k14.trans s5).trans s6).free n7;have fin:∀(H8:Hp)(zs:qf)(Q':VK),(∀z∈zs,Ar z=true)->zs.length<=1->(∀H9,Qi H8 H9->Q' (.bl true) H9)->Gi [.str (Txt.join "\n" ((ts.take m++[x])++ts.drop m++zs)),.int ((m:Int)+1)] H8 Q':=λH8 zs Q' hz hzl kq=>by
     obtain⟨f1,f2,f3,f4⟩:=Td B hm G hz (by rw[qi];exact hi.n) ⋯ hzl;refine⟨_,_,m+1,U,f2,f1.xl,(by rw[<-f2];exact f1.tx),(by rw[<-f2];exact f1.tn),(by rw[f3,qi];exact hi.n),(λr Y=>?_),f4,kq⟩;rw[f3] at Y;obtain⟨r0,hr0,rfl⟩:=zr.mp Y;exact⟨(hi.rk r0 hr0).1.d,by show(r0.as.map (·.2)).length<=4;rw[qi];exact(hi.rk r0 hr0).1.n⟩
    have bnd:∀zs:qf,(∀z∈zs,Ar z=true)->zs.length<=1->((((ts.take m++[x])++ts.drop m++zs).map (·.length)).sum+((ts.take m++[x])++ts.drop m++zs).length*("\n":qc).length<=16777216):=λzs hz hzl=>by
     have q1:=(UK G).2.2.2.2;have q2:(zs.map (·.length)).sum<=60000:=by
      cases zs with
      |nil=>exact zb _
      |cons y r=>
       cases r with
       |nil=>rw[qX,xg];exact(UK (hz y qo)).2.2.2.2
       |cons _ _=>rw[qw,qw] at hzl;omega
     have q3:((ts.take m).map (·.length)).sum+((ts.drop m).map (·.length)).sum=(ts.map (·.length)).sum:=by rw[<-yj,<-qH,zG]
     rw[EA] at hb;rw[EA,qH,yj,qH,yj,qH,yj,qm,qm,qm,qX,xg,ql];simp only[yA,List.sum_nil];omega
    refine⟨_,U,R,_,_,_,U,U,zm.of (f _ _ hi.R),S,_,_,U,U,⟨∅,∅⟩,_,_,U,U,DZ,U,_,U,?_⟩;rw[Wr];by_cases hc2:O / 200%2=1
    .rw[qv hc2];refine QI ⟨_,U,.inl ⟨U,_,zm.of e7'⟩,_,U,R,_,_,_,U,U,zm.of (f _ _ hi.R),e63,_,_,U,U,⟨∅,∅⟩,X / 22,U,⋯,⋯,λx2 H8 s8 hx2=>⟨l5,_,_,U,U,s8 _ _ e7',(by rw[qi,qm,qm,ql];exact QN ⋯),?_⟩⟩;have k19:KL a H1 (upd H8 l5 (.lst (((ts.take m++[x])++ts.drop m).map V.str++[.str x2]))):=(KL.of (f.trans s8)).zE n17 (λkv z=>by rw[s8 _ _ e7'] at z;cases z);refine⟨U,_,U,_,l5,(ts.take m++[x])++ts.drop m++[x2],U,U,zm.of (by rw[Qg,qH (l₁:=(ts.take m++[x])++ts.drop m)];rfl),bnd [x2] (λy hy=>by rw[qq.mp hy];exact hx2) (qp _),_,U,_,_,U,U,fin _ [x2] _ (λy hy=>by rw[qq.mp hy];exact hx2) (qp _) λH9 s9=>⟨_,U,QA ?_⟩⟩;exact gL H9 R D M j cs z xs ms rs C F L ts _ _ (hi.kl (k19.trans (KL.of s9))) ((k19.trans (KL.of s9)).keep hL rfl) B hn
    .rw[qr hc2];have hz0:∀z∈([]:qf),Ar z=true:=λ_ h=>nomatch h;have fin0:=λ(H8:Hp)(Q':VK)=>fin H8 [] Q' hz0 (zb _);have bnd0:=bnd [] hz0 (zb _);rw[ze] at fin0 bnd0;refine QA ⟨U,_,U,_,l5,(ts.take m++[x])++ts.drop m,U,U,zm.of e7',bnd0,_,U,_,_,U,U,fin0 _ _ λH9 s9=>⟨_,U,QA ?_⟩⟩;exact gL H9 R D M j cs z xs ms rs C F L ts _ _ (hi.kl (KL.of (f.trans s9))) ((f.trans s9) _ _ hL) B hn
   .rw[qr hc];exact QA (gL H1 R D M j cs z xs ms rs C F L ts _ _ hi hL B hn)
  obtain⟨t7,h7,sp7⟩:∃t,yV (T.cx 38 Z A outer st H E) ((QK (sO 38)).drop 7) t /\
   ∀(H1:Hp)(R D M j:qd)(cs:qb Int)(z:Int)(xs:qb (qd×CD))(ms:qb V)(rs:qb RW)(C F:Option V),gb a H1 R D M j cs xs ms rs ->
    t {nx:=λ_ H'=>Q .non H',rt:=Q} [some (.ref p),some (.ref R),some (.int z),some (.ref D),some (.ref M),some (.ref j),C,F,none,none,none] H1:=by
   refine⟨_,(Qb (Ql (i:=8) (sc 38).nd (T.cl (bJ T) (qV (pv 5) (qV (QT Yd (pv 1) (QR Qa) (QR Qa)) Qe))))
    (Qb (Qu (Uj (Q5 (T.cl (Rr T) (qV (Ue plainAttrs_str slot_str_join type_str_join KW Qf (qV (pv 8) Qe)) (qV (pv 5) (qV (pv 3) (qV (pv 4) (qV (Qh Qz (Qp Qs (pv 1) Qa) Qa) Qe)))))))) (Qd (Qk Ur)) Qq)
    h9)),λH1 R D M j cs z xs ms rs C F hi=>?_⟩
   obtain⟨O,S,b0,b1⟩:=Yg hi.cb 62 ∅ (by have:=hi.cl;omega);have hcl:=hi.cl;obtain⟨cc,ecc,hcc,lcc⟩:=Kc (cs:=cs) (lo:=20) (hi:=50) ∅ ∅ ⋯;refine⟨_,U,_,U,_,U,_,U,R,_,U,zm.of hi.R,λl1 H2 n2 s2 e2=>?_⟩;rw[ecc] at e2;refine⟨j,l1,rs,cc,U,s2 _ _ hi.D5,(λr Y=>⟨(hi.rk r Y).1.mono s2,(hi.rk r Y).2⟩),hi.n,e2,(λy hy=>hi.cb y (hcc y hy)),⋯,λL ts I s3 nL hL hn B=>?_⟩;have f:=hi.kl (KL.of (s2.trans s3));obtain⟨ys,y0,J,ej,yl⟩:=B.some;have hb:=B.bnd hi.n hn;have h40:=hi.n;refine⟨U,_,U,_,L,ts,U,U,zm.of hL,⋯,_,U,_,U,_,U,_,U,R,_,_,_,U,U,zm.of f.R,S,_,_,U,U,⟨∅,∅⟩,_,j,D,M,_,rs,xs,ms,U,f.tin J y0 ⋯ ej.symm,λH4 k4=>⟨_,U,QA ?_⟩⟩;exact sp9 H4 R D M j cs z xs ms rs C F L ts (f.kl k4) (k4.keep hL rfl) B hn
  obtain⟨t6,h6,sp6⟩:∃t,yV (T.cx 38 Z A outer st H E) ((QK (sO 38)).drop 6) t /\
   ∀(H1:Hp)(R D M j:qd)(cs:qb Int)(z:Int)(xs:qb (qd×CD))(ms:qb V)(rs:qb RW)(C F:Option V),gb a H1 R D M j cs xs ms rs->rs.length<=5 ->
    t {nx:=λ_ H'=>Q .non H',rt:=Q} [some (.ref p),some (.ref R),some (.int z),some (.ref D),some (.ref M),some (.ref j),C,F,none,none,none] H1:=by
   refine⟨_,(Qb (Qu (Qn QH (Qh Qx (Qh Qz (Qp Qs (pv 1) Qa) Qa) Qa) Qa) (Qd (Ql (i:=5) (sc 38).nd (QT Yd (Qh SE (pv 5) Qa) Yn (QR (Qh Qx (Qh Qz (Qp Qs (pv 1) Qa) Qa) Qa))))) Qq)
    h7),λH1 R D M j cs z xs ms rs C F hi h5=>?_⟩
   obtain⟨X,e63,c0,c1⟩:=Yg hi.cb 63 ∅ (by have:=hi.cl;omega);refine⟨_,U,R,_,_,_,U,U,zm.of hi.R,e63,_,_,U,U,⟨∅,∅⟩,_,_,U,U,zi_8,U,_,U,?_⟩;rw[Wr];by_cases hc:X / 400%8=1
   .rw[qv hc];have n0:0<=X / 3200%39:=qF _ ∅;have n1:X / 3200%39<39:=qA _ ∅;have sz:1000001<=sizeLine:=by decide
    refine QI ⟨_,U,j,8,_,U,U,hi.D5,∅,∅,(by rw[qi];show rs.length*8<=sizeLine;omega),λl1 O=>⟨_,U,R,_,_,_,U,U,zm.of (Qi.zL O _ _ hi.R),e63,_,_,U,U,⟨∅,∅⟩,_,_,U,U,TY,_,U,l1,_,U,zm.of Qg,λl2 I n3 s3 e3=>?_⟩⟩;rw[show(8:Int).toNat=8 from rfl,LO,Bg _ _ _ n0] at e3;have S:Qi H1 I:=(Qi.zL O).trans s3;have f:=hi.kl (KL.of S);have B:∀r∈((List.replicate 8 rs).flatten.take (X / 3200%39).toNat),r∈rs:=λr Y=>Pa (jc Y);refine sp7 I R D M l2 cs z xs ms _ C F ⟨f.cl,f.cb,f.R,f.D,f.ct,f.g,f.x0,f.xn,f.M,f.cm,e3,(λr Y=>f.rk r (B r Y)),?_,λy hy=>NA (bs:=rs) (f.g y hy).2.2 h5 (λr Y=>(f.rk r Y).1.n) B⟩;rw[zi];omega
   .rw[qr hc];exact QA (sp7 H1 R D M j cs z xs ms rs C F hi)
  obtain⟨t4,h4,sp4⟩:∃t,yV (T.cx 38 Z A outer st H E) ((QK (sO 38)).drop 4) t /\
   ∀(H1:Hp)(R D M:qd)(cs:qb Int)(z:Int)(xs:qb (qd×CD))(ms:qb V),cs.length=64->(∀c∈cs,0<=c/\c<2147483629)->0<=z->z<2147483629->H1 R=some (.lst (cs.map V.int))->H1 D=some (.lst (xs.map λx=>V.ref x.1))->(∀x∈xs,U9 H1 x.1 x.2)->(∀y∈xs,Yy y.2/\SS y.2.ms=y.2.ms/\y.2.ms.length<=4)->0<xs.length->xs.length<=4->H1 M=some (.lst ms)->Yi a H1 ms (xs.map (·.2)) ->
    t {nx:=λ_ H'=>Q .non H',rt:=Q} [some (.ref p),some (.ref R),some (.int z),some (.ref D),some (.ref M),none,none,none,none,none,none] H1:=by
   refine⟨_,(Qb (Ql (i:=5) (sc 38).nd (Qy Qm))
    (Qb (Ym zg rfl (Yq rfl (T 6) (qV (Qh Qx (Qh Qz (Qp Qs (pv 1) Qa) Qa) Qa) Qe)) (QG (i:=6) (sc 38).nd) (Qb (Ql (i:=7) (sc 38).nd (T.cl (bK T) (qV (pv 2) (qV (QT Yd (pv 1) (QR (Qh QV Qa (Qh UR Qa (pv 6)))) (QR (Qh QV (Qh QV Qa (Qh UR Qa (pv 6))) (Qh Qx (Qp Qs (pv 1) (Qh Xc Qa (pv 6))) Qa)))) Qe))))
    (Qd (Q4 (Ue plainAttrs_list zk zl Q8 (pv 5) (qV (QJ (Qc (pv 7) (Qc (T.cl (bS T) (qV (pv 2) (qV (Qp Qs (pv 1) (Qh QV Qa (Qh UR Qa (pv 6)))) Qe))) Qm))) Qe))))))
    h6)),λH1 R D M cs z xs ms hcl f hz0 hz1 hR hD hct hg hx0 hxn hM hms=>?_⟩
   obtain⟨B,e51,b0,b1⟩:=Yg f 61 ∅ ⋯;have m0:0<=B / 3%6:=qF _ ∅;have m1:B / 3%6<6:=qA _ ∅;refine⟨K3,λj H2 n5 s2 e5=>?_⟩;refine⟨_,U,R,_,_,_,U,U,zm.of (s2 _ _ hR),e51,_,_,U,U,⟨∅,∅⟩,_,_,U,U,RO,B / 3%6,U,⋯,⋯,YD (n:=(B / 3%6).toNat) (λi σ I=>∃(rs:qb RW)(C F:Option V),σ=[some (.ref p),some (.ref R),some (.int z),some (.ref D),some (.ref M),some (.ref j),C,F,none,none,none]/\Qi H1 I/\I j=some (.lst (rs.map λr=>V.ref r.r))/\(∀r∈rs,RwK I r)/\rs.length<=i)
    ⟨[],none,none,U,s2,e5,nofun,qp _⟩ ?_ ?_⟩
   .rintro i σ I hi ⟨rs,C,F,rfl,s3,e53,X,hrl⟩;have hi4:i<5:=by omega
    obtain⟨zc,ezc,c0,c1⟩:=Yg f (59-(0+(i:Int))) ⋯ ⋯;obtain⟨zd,ezd,d0,d1⟩:=Yg f (34+5*(0+(i:Int))) ⋯ ⋯;have f0:0<=zc%4:=qF _ ∅;have f1:zc%4<4:=qA _ ∅;obtain⟨cc,ecc,hcc,lcc⟩:=Kc (cs:=cs) (lo:=30+5*(0+(i:Int))) (hi:=31+5*(0+(i:Int))+zc%4) ⋯ ⋯ ⋯;have hR3:=s3 _ _ hR;refine⟨_,U,_,U,_,U,_,_,U,U,.inl ⟨∅,∅⟩,_,_,U,U,_,U,_,U,_,_,U,U,.inl ⟨∅,∅⟩,_,_,U,U,_,U,_,U,_,_,U,U,R,_,_,_,U,U,zm.of hR3,ezc,_,_,U,U,Aj,_,_,U,U,_,U,R,_,U,zm.of hR3,λl1 H4 n4 s4 e4=>?_⟩;rw[ecc] at e4;refine⟨z,l1,cc,U,hz0,hz1,e4,(λc hc=>(f c (hcc c hc)).1),⋯,⋯,λtr q H5 s5 ht hd=>?_⟩;have O:=s4.trans s5;refine⟨_,U,.inl ⟨U,_,zm.of (O _ _ e53)⟩,_,U,_,U,_,U,_,U,_,_,U,U,.inl ⟨∅,∅⟩,_,_,U,U,R,_,_,_,U,U,zm.of (O _ _ hR3),ezd,?_⟩;refine⟨z,zd,U,hz0,hz1,d0,λqa ps H6 s6 eq hps hpl hpne=>⟨U2,λu H7 n7 s7 e7=>?_⟩⟩;have s37:=(O.trans s6).trans s7;have e57:=s37 _ _ e53;refine⟨j,_,_,U,U,e57,(by rw[qi];exact QN ⋯),?_⟩;refine⟨rs++[⟨u,q,qa,tr,ps⟩],_,_,U,(s3.trans s37).zE n5,by rw[Qg,qH];rfl,λr S=>?_,by rw[qm,ql];omega⟩;rcases qT.mp S with S|S
    .exact⟨((X r S).1.mono s37).list e57,(X r S).2⟩
    .rw[qq.mp S];have hd8:tr.dp<8:=by omega
     exact⟨Vy.list ⟨e7,ht.a.mono (s6.trans s7),hd8,s7 _ _ eq,λy hy=>(hps y hy).mono s7,qO hpl ∅⟩ e57,hpne,ht.th,R3 hd8⟩
   .rintro σ I ⟨rs,C,F,rfl,s3,e53,X,hrl⟩;have h5:rs.length<=5:=by omega
    exact sp6 I R D M j cs z xs ms rs C F ⟨hcl,f,s3 _ _ hR,s3 _ _ hD,λx G=>(hct x G).mono s3,hg,hx0,hxn,s3 _ _ hM,hms.kl (KL.of s3),e53,X,⋯,λy hy=>NA (bs:=rs) (hg y hy).2.2 h5 (λr Y=>(X r Y).1.n) λ_ h=>h⟩ h5
  refine⟨_,(Qb (Ql (i:=1) (sc 38).nd (T.cl (MK T) (qV (pv 0) (qV Qa (qV Qa Qe)))))
   (Qb (Ql (i:=2) (sc 38).nd (Qp Qs (pv 1) Qa))
   (Qb (VG (sc:=Qr (sO 38)) (N:=(nn 38)) (i:=3) (fr:=[(2,"_law_shape"),(1,"_law_cells")]) (wO rfl rfl) rfl rfl rfl (sc 38).nd U rfl (Yq rfl (T 6) (qV (Qh QV Qa (Qh Qx (Qp Qs (pv 1) Qa) Qa)) Qe)) (λ_ _ _ _=>VF) (λ_ _ _ _=>(T.cl (HZ T) (qV (pv 1) (qV (QT (LI K) (pv 2) (QR (Qh UR Qa (pv 0))) (QR (Qh QV (Qh UR Qa (pv 0)) Qa))) Qe)))))
   (Qb (VG (sc:=Qr (sO 38)) (N:=(nn 38)) (i:=4) (fr:=[]) (wO rfl rfl) rfl rfl rfl (sc 38).nd U rfl (Y1 (pv 3)) (λ_ _ _ _=>VF) (λ_ _ _ _=>(T.cl (bO T) (qV (pv 0) Qe))))
   h4)))),?_⟩
  refine⟨_,U,p,ns,0,64,U,hp,∅,∅,λR cs H1 hcl f nR s1 hR=>?_⟩;obtain⟨X,e50,z0,z1⟩:=Yg f 60 ∅ ⋯;obtain⟨B,e51,b0,b1⟩:=Yg f 61 ∅ ⋯;have m0:0<=B%3:=qF _ ∅;have m1:B%3<3:=qA _ ∅;refine⟨_,U,R,_,_,_,U,U,zm.of hR,e50,?_⟩;refine⟨_,U,R,_,_,_,U,U,zm.of hR,e51,_,_,U,U,K4,_,_,U,U,1+B%3,U,⋯,⋯,?_⟩;refine DH (n:=(1+B%3).toNat) (λD i ys H2=>∃xs:qb (qd×CD),ys=xs.map (λx=>V.ref x.1)/\xs.length=i/\Qi H1 H2/\∀x∈xs,CTD D H2 x.1 x.2/\Yy x.2/\SS x.2.ms=x.2.ms/\x.2.ms.length<=4) (Yj (⋯)) (λD nD=>⟨[],U,U,Qi.zL nD,λx G=>nomatch G⟩) (λD i ys H2 ⟨xs,e,l,_⟩=>by rw[e,qi,l]) ?_ ?_
  .rintro D i ys I Q' hi nD ⟨xs,rfl,hxl,s3,j⟩ S kk;have hi4:i<4:=by omega
   obtain⟨c1,ec1,hc1,lc1⟩:=Kc (cs:=cs) (lo:=10*(0+(i:Int))) (hi:=10*(0+(i:Int))+10) ⋯ ⋯ ⋯;have hR3:=s3 _ _ hR;refine⟨_,U,_,U,_,U,_,_,U,U,.inl ⟨∅,∅⟩,_,U,_,U,_,_,U,U,.inl ⟨∅,∅⟩,_,_,U,U,_,U,R,_,U,zm.of hR3,λl nl=>?_⟩;rw[ec1];have s4:Qi I (upd I l (.lst (c1.map V.int))):=Qi.zL nl;refine⟨X,l,c1,U,z0,⋯,Qg,(λc hc=>f c (hc1 c hc)),⋯,λu q m s t b d an fo ms H5 g hfo hms hnd hml s5 hu hq nm hm=>?_⟩;have O:=s4.trans s5;have C:=O _ _ S;rw[<-N3 hnd] at hm;have uD:u≠D:=QX hu C nofun;have qD:q≠D:=QX hq C nofun;have mD:m≠D:=λz=>by rw[z,s4 _ _ S] at nm;cases nm
   refine kk _ H5 C ⟨xs++[(u,⟨s,t,b,d,an,fo,SS ms⟩)],by rw[qH];rfl,by rw[qm,ql,hxl],(s3.trans O).zE nD,λx G=>?_⟩;have kp:∀y o,y≠D->H5 y=some o->(upd H5 D (.lst (xs.map (λx=>V.ref x.1)++[.ref u]))) y=some o:=λy o n e=>by rw[Qj n];exact e
   rcases qT.mp G with G|G
   .exact⟨(j x G).1.next O kp,(j x G).2⟩
   .rw[qq.mp G];have hsl:=N6 ms;refine⟨λH'' F=>⟨q,m,F _ _ uD (kp _ _ uD hu),F _ _ qD (kp _ _ qD hq),F _ _ mD (kp _ _ mD hm)⟩,⟨g,hfo,(λx G=>hms x (GU.mp G)),by show(SS ms).length<=50;omega⟩,Cc ms,by show(SS ms).length<=4;omega⟩
  .rintro D ys H2 nD ⟨xs,rfl,hxl,s2,j⟩ S;have hxn:xs.length<=4:=by omega
   have hct:∀x∈xs,U9 H2 x.1 x.2:=λx G=>(j x G).1 H2 λ_ _ _ e=>e;refine⟨_,U,D,U,⟨_,zm.of S⟩,ER (λM i ys I=>ys.length=i/\KN a M I ys ((xs.map (·.2)).take i)) (Yj ((by rw[qi];omega))) (zm.of S) (λM nM=>⟨U,.nil⟩) (λM i ys I h=>h.1) ?_ ?_⟩
   .rintro M i v ys I Q' hi nM ⟨F,J⟩ eM s3 kk;rw[qC] at hi
    cases ex:xs[i]? with
    |none=>rw[ex] at hi;cases hi
    |some x=>
     rw[ex] at hi;cases hi;have C:=qL ex;refine⟨_,U,x.1,x.2,U,(hct x C).mono s3,(j x C).2.1,(j x C).2.2.1,λy g H4 ny ng s4 hc=>kk _ H4 s4 ⟨by rw[qm,ql,F],?_⟩⟩;have gM:g≠M:=λz=>by rw[z,eM] at ng;cases ng
     have O:=s4 _ _ eM;rw[zo,qC,ex];exact(J.next s4 O).snoc ⟨g,gM,hc.list O gM⟩
   .rintro M ys I nM ⟨F,J⟩ s3 eM;rw[qP (by rw[qi,qi];exact qp _)] at J;exact sp4 I R D M cs X xs ys hcl f z0 z1 (s3 _ _ (s2 _ _ hR)) (s3 _ _ S) (λx G=>(hct x G).mono s3) (λx G=>(j x G).2) ⋯ hxn eM J.at
def MY:∀(l:qb Fc)(i:Nat),nF l i=.z\/nF l i∈l
 |[],_=>.inl rfl
 |p::l,0=>.inr qo
 |p::l,i+1=>(MY l i).imp id λh=>qt _ h
def Pl{h:Heap}(X:K.In h)(G:h.Ns mainGlobals mg):∀f:Fc,kh K f=true->TK K mg (aK K) f
 |.q x i,h=>by
  simp only[kh,qB,qW,ju] at h;have a:=h;exact mg_of X G a
 |.g x v,h=>by
  simp only[kh,qB,qW,ju] at h;obtain⟨a,c⟩:=h;exact Hd.wG X G a c
 |.t x ys,h=>by
  simp only[kh,qB,qW,ju] at h;have a:=h;exact Hd.gJ X G a
 |.b x,h=>by
  simp only[kh,qB,qW,ju] at h;have a:=h;exact PySem.W.mg_none_of X G a
 |.c i,h=>by
  simp only[kh,qB,qW,ju] at h;obtain⟨a,c,d,e⟩:=h;exact⟨a,c,d,e⟩
 |.k i j,h=>by
  simp only[kh,qB,qW,ju] at h;obtain⟨a,c,d,e⟩:=h;exact⟨a,c,d,e⟩
 |.M i x j,h=>by
  simp only[kh,qB,qW,ju] at h;obtain⟨a,c,d⟩:=h;exact⟨a,c,d⟩
 |.n i x,h=>by
  simp only[kh,qB,qW,ju] at h;have a:=h;exact a
 |.f i j x,h=>by
  simp only[kh,qB,qW,ju] at h;obtain⟨a,c,d,e⟩:=h;exact⟨a,c,Hd.vw d,U,e⟩
 |.I i j b,h=>by
  simp only[kh,qB,qW,ju] at h;have a:=h;exact a
 |.v i,h=>by
  simp only[kh,qB,qW,ju] at h;have a:=h;exact a
 |.x i,h=>by
  simp only[kh,qB,qW,ju] at h;have a:=h;exact⟨a⟩
 |.G i,h=>by
  simp only[kh,qB,qW,ju] at h;obtain⟨a,c,d,e,g,k,l,m⟩:=h;exact⟨a,c,d,e,g,k,l,m⟩
 |.X i,h=>by
  simp only[kh,qB,qW,ju] at h;have a:=h;exact⟨a⟩
 |.S i x,h=>by
  simp only[kh,qB,qW,ju] at h;obtain⟨a,c,d,e⟩:=h;exact⟨a,c,d,e⟩
 |.p i,h=>by
  simp only[kh,qB,qW,ju] at h;have a:=h;exact a
 |.u i j,h=>by
  simp only[kh,qB,qW,ju] at h;have a:=h;exact N2.of a
 |.J i,h=>by
  simp only[kh,qB,qW,ju] at h;obtain⟨a,c,d⟩:=h;exact⟨a,c,Hd.vw d⟩
 |.z,_=>trivial
theorem all_mk{l:PySem.W.OpenLaw}{h:Heap}{j:qd}(X:K.In h)(E:obs K=good)(G:h.Ns mainGlobals mg)(k:mg "law"=some (.ref j)) :
 ∃fd:FuncData,(∀(s:Shared)(v:qe),BindsTo s fd ⟨[v],[]⟩ [("_law_script",v)])/\∀base:Heap,K.In base->base.Ns mainGlobals mg->Y6 l.prog w K mg base jx 220 j fd ["_law_script"] (wx K):=by
 have p:see K tab=Xz tab/\fx.all (kh K)=true:=by
  unfold obs good at E;obtain⟨e1,E⟩:=yo E;obtain⟨d,E⟩:=yo E;refine⟨?_,?_⟩
  .have s:∀(l:qb Tb)(n:Nat),see K (l.take n)=Xz (l.take n)->see K (l.drop n)=Xz (l.drop n)->see K l=Xz l:=λl n c g=>by unfold see Xz at c g⊢;rw[<-zG n l,qH,qH,c,g]
   exact s _ 30 (q8 Prod.fst e1) (q8 Prod.fst d)
  .have s:∀(l:qb Fc)(n:Nat),(l.take n).all (kh K)=true->(l.drop n).all (kh K)=true->l.all (kh K)=true:=λl n c g=>by rw[<-zG n l,List.all_append,c,g];rfl
   exact s _ 90 (q8 Prod.snd e1) (q8 Prod.snd d)
 obtain⟨e1,d⟩:=p;have pl:∀i,i<84->∃fd,rK K (tb i)=some (some (.ref (aK K i)))/\Cg K (vL (sO i)) (qN (tb i)) (sO i) (aK K i) fd/\(vU (sO i)=[]->kL K (vL (sO i)) (qN (tb i)) (sO i) (aK K i) fd)/\N9 K fd (sO i):=λi hi=>by
  have m:i<tab.length:=hi;have g:=qx m;have c:tb i=tab[i]:=by unfold tb;rw[q4,g];rfl
  have r:aK K i=Hd.yN (rK K (tb i)):=by unfold aK;rw[g,c]
  have eq:=Hd.eq_at e1 i (a:=Hd.see K (rK K (tb i)) (qN (tb i))) (b:=(some (Hd.kd (vL (sO i)) (qN (tb i)) (sO i),g0 (sO i)),true)) (by unfold see;rw[qC,g,<-c];rfl) (by unfold Xz;rw[qC,g,<-c];rfl);have o:∀t∈tab,plA t.2.1=true:=by decide +kernel
  rw[r];exact Ov eq (o (tb i) (P5 hi))
 let fd:Nat->FuncData:=λi=>if h:i<84 then Classical.choose (pl i h) else Classical.choose (pl 0 ∅)
 have q:∀i (h:i<84),rK K (tb i)=some (some (.ref (aK K i)))/\Cg K (vL (sO i)) (qN (tb i)) (sO i) (aK K i) (fd i)/\(vU (sO i)=[]->kL K (vL (sO i)) (qN (tb i)) (sO i) (aK K i) (fd i))/\N9 K (fd i) (sO i):=λi h=>by
  have e:fd i=Classical.choose (pl i h):=dif_pos h;rw[e];exact Classical.choose_spec (pl i h)
 have gl:∀t∈tab.take 39,t.1=none:=by decide +kernel
 have o:∀t∈tab.take 81,vU t.2.1=[]:=by decide +kernel
 have g:∀{n i:Nat},i<n->i<84->tb i∈tab.take n:=λ{n i} h h'=>by have m:i<tab.length:=h';have c:tb i=tab[i]:=by{unfold tb;rw[q4,qx m];rfl};rw[c];exact List.mem_take_iff_getElem.mpr ⟨i,⋯,U⟩
 have T:∀{P:Program}{w:World}{base:Heap},Txt P w K mg base (aK K) fd:=⟨λi=>Pl X G _ ((MY fx i).elim (λh=>by rw[h];rfl) λh=>zf.mp d _ h),λi h=>by have e:=(q i (qE h ∅)).1;unfold rK at e;rw[gl _ (g h (qE h ∅))] at e;exact mg_of X G e,λi h=>(q i (qE h ∅)).2.2.1 (o _ (g h (qE h ∅))),λi h _=>(q i h).2.1,λi h=>(q i h).2.2.2.all,(q 81 ∅).2.2.2.df 2 rfl,(q 81 ∅).2.2.2.df 1 rfl,(q 82 ∅).2.2.2.df 1 rfl,(q 83 ∅).2.2.2.df 2 rfl,(q 83 ∅).2.2.2.df 1 rfl⟩;have e:Value.ref j=.ref (aK K 38):=za (k.symm.trans (T (P:=PP) (w:=w) (base:=h).m 38))
 injection e with e
 subst e;refine⟨fd 38,λs v=>?_,λbase _ _=>SK T⟩;have F:=(T (P:=PP) (w:=w) (base:=h)).F 38;generalize fd 38=f at F⊢;obtain⟨_,_,kV,doc,pm,an,r,ct,_,rfl,_,_⟩:=F.ex;exact .of_eq rfl
end K17
open PySem PySem.W PyProof.Rows
set_option maxRecDepth 100000 in
set_option maxHeartbeats 0 in
theorem PySem.Challenge.cw_mailroom_k17_whole_rules_by_text_holds : PySem.Challenge.rw_mailroom_k17_whole_rules_by_text.Holds := by
 refine Hd.close (q:=view K17.PP [90]) (loose:=K17.loose) (N:=20000) (obs:=K17.obs) (good:=K17.good) K17.look K17.opens rfl K17.fence K17.seen rfl rfl rfl rfl (by decide +kernel) ⟨rfl,rfl,rfl,rfl,rfl,by decide +kernel⟩ ?hw ?hc
 case hw=>w_witness2
 case hc=>exact Hd.walk (n:=63) (k:=220) (x:="_law_script") (sp:=K17.wx) rfl (by decide) rfl ⟨rfl,by decide,by decide,rfl⟩ (fun w K mg fa h KX y G hmg=>K17.all_mk KX y G hmg) (fun _ _ a ns hl _ hS=>⟨a,ns,rfl,hS,hl,fun _=>rfl⟩)
#print axioms PySem.Challenge.cw_mailroom_k17_whole_rules_by_text_holds
