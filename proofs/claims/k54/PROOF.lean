import PyProof.Rows.All
import Wide.All
import OpenK.AllK
import Wide.FinOn
import Lean
import PyProof.EqAt
import PyProof.EqKinds
import PyProof.TupleCall
import PyProof.P3In
import KE.KDictLaws
import PyProof.Rows.SetFrom
import KE.KRevSl
import KE.KIntText
import KE.KLcPair
import KE.KIsAll
import PyProof.ExcArgsOwn
import PyProof.ExcAttrAll.ValueError
import PyProof.NsDelKeeps
import PyProof.Rows.CountFlat
import KE.RegKIsAll
import PyProof.WalksMore
import PyProof.FString5
import KE.KListMore
import PyProof.ZipIter
import PyProof.FString
import PyProof.StrLawsReplace
import PyProof.MinMaxWalk
import PyProof.WalkInts
import PyProof.Rows.MinMaxN
import PyProof.Rows.CallKwBuiltin
import KE.KMinKey
import KE.KSortKey
import KE.KSortTup
import PyProof.DictValues
import PyProof.DictWalks
import KE.KDictOf
import KE.KEqDict
import PyProof.NeKinds
import PyProof.NeData
import PyProof.TupleKey
import PyProof.Rows.SumAny
import PySem.Challenge.RW_mailroom_k54_one_room
set_option linter.all false
set_option bootstrap.genMatcherCode false
set_option genSizeOf false
local macro_rules|`(∅)=>`(by decide +kernel)
local macro_rules|`(())=>`(by omega)
local macro_rules|`(def $i $s:optDeclSig $v:declVal)=>`(noncomputable def $i $s:optDeclSig $v:declVal)
abbrev U:=@rfl
open PySem.W(Frag findIn plainGet hasDictIn plainOver makesIn isFn keepIn view recOk openGood instObj methodObj lookIn handedIn plainGet_of takerIn emptyDict kitOne kia_one kitx_list kitx_dict callWith_K callWith_K0 fnOf codeIn kdl_dict KdlSrc mg_of)
open Sum(inl inr)
open PyProof.Rows(slot_tuple_getitem le_int boot_max callWith_kw kws_cons kws_nil boot_sorted envOfC boot_isinstance boot_str boot_set boot_list boot_all lo1 boot_int boot_bool boot_tuple boot_repr)
open PySem.F(slot_dict_pop slot_dict_get plainAttrs_dict entry_max_loop plain_max_loop plainAttrs_list plainAttrs_str)
def qh:=@List.length_map
def qi:=@PySem.wpAny_bind
def qj:=@List.mem_map
def qk:=@List.mem_singleton
def ql:=@List.getElem?_eq_getElem
def qo:=@List.length_append
def qq:=@List.mem_append
def qr:=@Nat.le_refl
def qt:=@PySem.Heap.get?_push_of_some
def qv:=@PySem.wpAny_pure
def qw:=@decide_eq_true
def qx:=@List.mem_cons
def qy:=@List.mem_cons_of_mem
def qz:=@List.mem_append_right
def qA:=@List.mem_cons_self
def qB:=@List.map_append
def qC:=@if_neg
def qD:=@List.getElem?_map
def qE:=@if_pos
def qF:=@Bool.false_ne_true
def qG:=@List.mem_filter
def qH:=@PySem.Heap.get?_push_size
def qI:=@List.map_map
def qJ:=@List.mem_append_left
def qK:=@decide_eq_false
def qL:=@of_decide_eq_true
def qM:=@List.size_toArray
def qO:=@PySem.Heap.lt_size
def qP:=@List.length_filter_le
def qQ:=@Nat.le_trans
def qR:=@Nat.zero_le
def qS:=@List.getElem?_eq_some_iff
def qT:=@Option.some.inj
def qU:=@List.length_cons
def qV:=@Nat.lt_of_lt_of_le
def qW:=@List.length_singleton
def qX:=@List.getD_eq_getElem?_getD
def qY:=@Bool.and_eq_true
def qZ:=@List.map_cons
def za:=@PySem.F.slot_list_append
def zb:=@PySem.F.type_list_append
def zc:=@Nat.ne_of_lt
def ze:=@List.mem_of_getElem?
def zf:=@PySem.boot_len
def zi:=@List.filter_cons
def zj:=@Int.emod_lt_of_pos
def zk:=@Array.length_toList
def zl:=@PySem.PassesOwn.never
def zp:=@congrArg
def zq:=@Int.emod_nonneg
def zr:=@Bool.false_eq_true
def zt:=@List.filter_append
def zu:=@List.all_eq_true
def zv:=@Array.getElem?_toList
def zw:=@List.take_add_one
def zx:=@List.getElem_mem
def zy:=@List.filter_sublist
def zz:=@PySem.wpAny_newObj_type
def zA:=@PySem.Around.under_plainId
def zB:=@decide_eq_true_eq
def zC:=@List.length_take
def zD:=@List.foldl_cons
def zE:=@Option.map_eq_some_iff
def zF:=@List.length_eq_one_iff
def zG:=@List.take_of_length_le
def zH:=@List.nodup_nil
def zI:=@PySem.Heap.SameBut.update
def zK:=@List.filter_eq_self
def zL:=@PySem.wpAny_holding
def zM:=@List.lookup_cons
def zN:=@List.nodup_cons
def zO:=@PySem.Heap.get?_update_other
def zQ:=@Nat.lt_irrefl
def zR:=@PySem.Heap.get?_update_self
def zS:=@List.append_nil
def zT:=@beq_self_eq_true
def zU:=@List.length_range
def zV:=@PySem.wpAny_call_entry
def zW:=@PySem.codeAny_builtin
def zX:=@PySem.wpAny_loadPart'
def zY:=@PySem.wpAny_truthy_bool
def zZ:=@List.take_length
def z7:=@Array.getElem?_eq_getElem
def z8:=@beq_eq_false_iff_ne
def jb:=@Nat.lt_succ_of_lt
def jc:=@List.getElem?_append_right
def jd:=@List.filter_map
def je:=@List.length_drop
def jh:=@PySem.Calls.spliced_cons
def ji:=@PySem.Obj.data_mapFields
def jj:=@PySem.plainId_quiet
def jk:=@Nat.lt_of_le_of_lt
def jl:=@List.pairwise_cons
def jm:=@List.length_eq_zero_iff
def jn:=@PySem.wpAny_callSpecial?_slot
def jo:=@List.nodup_append
def jq:=@List.find?_cons_of_neg
def jr:=@PySem.mem_of_lookup
def js:=@List.map_congr_left
def jt:=@Nat.le_succ
def ju:=@List.getElem?_append_left
def jv:=@PySem.Calls.callWith_builtin
def jw:=@PySem.sizeLine_eq
def jx:=@if_false
def jy:=@PySem.wpAny_mono
def jz:=@List.foldl_append
def jA:=@List.filter_congr
def jB:=@List.filterMap_cons
def jD:=@Ne.symm
def jE:=@Nat.lt_of_succ_lt_succ
def jF:=@Array.getElem?_eq_none
def jG:=@Sum.inr.inj
def jH:=@PySem.F.slot_dict_keyiterator_next
def jI:=@Nat.succ_le_succ
def jJ:=@List.perm_ext_iff_of_nodup
def jK:=@List.take_zero
def jL:=@List.concat_eq_append
def jN:=@Bool.eq_iff_iff
def jO:=@List.find?_cons
def jP:=@List.length_nil
def jQ:=@Nat.le_of_lt
def jR:=@PySem.wpAny_Call_Name_kw
def jS:=@Int.toNat_natCast
def jT:=@Array.toArray_toList
def jU:=@PySem.wpAny_ite_split
def jV:=@List.mem_range
def jW:=@PySem.Calls.spliced_nil
def jX:=@PySem.lookup_relabel_local
def jY:=@List.pairwise_singleton
def jZ:=@List.not_mem_nil
def j5:=@List.drop_of_length_le
def j6:=@List.find?_cons_of_pos
def j7:=@Option.map_some
def j8:=@PySem.Heap.size_push
def j9:=@PySem.wpAny_setField
def yb:=@List.getElem?_eq_none
def yc:=@List.append_assoc
def yd:=@Nat.le_succ_of_le
def ye:=@bne_self_eq_false
def yf:=@PySem.wpAny_typeNameOfWhole_keyiter
def yg:=@PySem.codeAny_mono
def yh:=@PySem.wpAny_passesOwn
def yi:=@List.mem_of_mem_take
def yj:=@PySem.Obj.isFreed_of_fields
def yk:=@PySem.wpAny_setState_of
def yo:=@Prod.mk.injEq
def yp:=@List.any_cons
def yq:=@PySem.Calls.evalArgs_plain
def yr:=@PySem.MeetsSeq.plain_remove_loop
def yu:=@Nat.min_eq_left
def yv:=@Nat.not_lt_zero
def yw:=@beq_iff_eq
def yx:=@PySem.wpAny_askSetting
def yz:=@PySem.F.called_set
def yB:=@Int.eq_ofNat_of_zero_le
def yC:=@PySem.Calls.call_function_entry
def yD:=@List.filter_cons_of_neg
def yG:=@Nat.ne_of_gt
def yH:=@if_true
def yI:=@PySem.wpAny_newList
def yJ:=@PySem.wpAny_typeNameOf_keyiter
def yO:=@PySem.wpAny_updateSeq
def yR:=@PySem.tupleKind_room_in1
def yT:=@PySem.wpAny_getItem_str_slice
def yU:=@PySem.MeetsSeq3.plain_eq_loop
def yV:=@List.any_eq_true
def yZ:=@Bool.and_eq_true_iff
def xg:=@List.getElem_of_mem
def xh:=@PyProof.Rows.callWith_type1
def xj:=@Nat.le_of_eq
def xk:=@PySem.wpAny_rule
def xl:=@Nat.succ_pos
def xn:=@PySem.wpAny_attempt
def xx:=@Int.natCast_nonneg
def xA:=@List.filter_filter
def xC:=@List.Nodup.sublist
def xF:=@List.getElem_range
def xG:=@List.zip_cons_cons
def xH:=@Int.natAbs_natCast
def xP:=@Classical.byContradiction
def xY:=@PySem.wpAny_setEntries_of
def xZ:=@PySem.call_meetsIn
def kc:=@Bool.true_and
def kA:=@Nat.lt_succ_self
def kC:=@PySem.SeqAt.EqAt.str_str
def kH:=@List.ext_getElem
def kI:=@List.getElem_map
def kJ:=@PySem.isSubtype_type
def kK:=@List.isEmpty_nil
def kL:=@PySem.wpAny_fieldsOf
def kM:=@PyProof.Rows.listUpdate_at
def kO:=@PySem.wpAny_tryCatch
def kP:=@Nat.log2_le_self
def kQ:=@List.filter_cons_of_pos
def kR:=@List.eraseIdx_cons_succ
def kT:=@and_assoc
def kZ:=@Nat.zero_add
def k5:=@List.filter_eq_nil_iff
def vo:=@PySem.wpAny_Call_method
def vp:=@PySem.F.plain_list_iadd
def vq:=@PyProof.Rows.entry_list_sort
def vr:=@PySem.Obj.cls_mapFields
def vu:=@beq_false_of_ne
def vv:=@List.filter_nil
def vx:=@List.take_append_drop
def vE:=@Bool.and_false
def vF:=@Prod.mk.inj
def vG:=@PySem.wpAny_isInstance
def vH:=@PySem.Heap.size_update
def vO:=@PyProof.Rows.slot_list_sort
def vT:=@PySem.wpAny_typeOf
def vU:=@PySem.typeIs_str
def vV:=@PySem.call_meets
def vW:=@PySem.SeqAt.canLay_of_shaped
def v9:=@PySem.wpAny_execs_nil
def wa:=@PySem.post_val_or_str
def wb:=@Bool.not_true
def wc:=@List.cons.inj
def wB:=@List.find?_eq_none
def wC:=@of_decide_eq_false
def wL:=@List.getElem?_nil
def wM:=@Option.isSome_map
def wN:=@List.map_nil
def wO:=@List.flatten_cons
def wQ:=@Bool.not_eq_true'
def wR:=@Bool.eq_false_iff
def wU:=@PySem.wpAny_of_eq
def wV:=@PySem.wpAny_seqItems
def wW:=@PySem.wpAny_letGo
def wX:=@List.getElem?_inj
def gk:=@PyProof.Rows.F.plain_set_update_loop
def gB:=@Int.max_eq_right
def gC:=@Nat.min_eq_right
def gD:=@Nat.le_of_not_lt
def gE:=@Option.getD_some
def gF:=@PySem.Heap.get?_update_ne
def gG:=@List.isEmpty_iff
def gH:=@Nat.not_lt_of_le
def gR:=@PySem.Paired.length
def gT:=@PySem.wpAny_standAt
def gU:=@List.eq_nil_of_length_eq_zero
def gV:=@PyProof.Rows.plain_sorted
def gW:=@PyProof.Rows.entry_sorted
abbrev qe:=List PySem.Str
abbrev qf:=PySem.Value→PySem.Shared→Prop
abbrev qg:=List PySem.Value
abbrev qa:=@List
abbrev uf:=@Option
abbrev ug:=PySem.Shared
abbrev uh:=PySem.Program
abbrev ui:=PySem.World
abbrev uj:=PySem.Around
abbrev uk:=@Array
abbrev qb:=PySem.Str
abbrev qc:=PySem.Addr
abbrev qd:=PySem.Value
noncomputable section
set_option Elab.async false
set_option linter.all false
set_option maxRecDepth 100000
set_option maxHeartbeats 4000000
namespace L2
open PySem PySem.Spec PyProof.Rows
inductive V where
 |non|bl (b:Bool)|int (i:Int)|str (x:qb)|wk (b:uk UInt8)|flt (b:UInt64)|ref (a:qc)|ty (n:String)
 deriving DecidableEq
def Tc(s:Stmt)(j:Nat):Stmt:=match s with
 |.ClassDef _ _ _ body _ _ _ _ _ _ _=>body.getD j (.Pass ⟨0,0,0,0⟩)
 |_=>.Pass ⟨0,0,0,0⟩
def Yo(s:Stmt):Arguments:=match s with
 |.FunctionDef _ a _ _ _ _ _ _ _ _=>a
 |_=>{posonlyargs:=[],args:=[],vararg:=none,kwonlyargs:=[],kw_defaults:=[],kwarg:=none,defaults:=[]}
def YB(s:Stmt):qa Stmt:=match s with
 |.FunctionDef _ _ b _ _ _ _ _ _ _=>b
 |_=>[]
def Qs(s:Stmt):Scope:=match s with
 |.FunctionDef _ _ _ _ _ _ sc _ _ _=>sc
 |_=>{kind:=.function,names:=[],isGenerator:=false,isCoroutine:=false}
end L2
abbrev cQ(xs:uk Lean.Term):Lean.MacroM (uk Lean.Term):=do let mut a:=#[];for x in xs do{match x with|`($n:num)=>for c in ("_U,__UU,__U,___UU,U_U,_U_U,___,UU,_U__UU,__".splitOn ",")[n.getNat]!.toList do{a:=a.push (←if c=='_' then `(_) else `(rfl))}|_=>a:=a.push x};return a
local macro_rules (kind:=«term{_}»)|`({$xs,*})=>do let a←cQ xs.getElems;`(⟨$a,*⟩)
local macro_rules|`(tactic|erw [$xs:rwRule,*])=>do let mut a:=#[];for x in xs.getElems do{match x with|`(Lean.Parser.Tactic.rwRule|$t:term)=>a:=a.push t|_=>pure PUnit.unit};let b←cQ a;`(tactic|refine ⟨$b,*⟩)
local macro_rules|`(@($x))=>`(some $x)
local macro_rules|`($h<|$e)=>`(by rw[$h:term];exact $e)
set_option hygiene false
local macro_rules|`(tactic|sleep $n)=>`(tactic|refine T.ok $n λ_ A outer st H vs Q E _ h=>?_)
set_option hygiene true
local macro_rules|`(#[$x])=>`(⟨$x⟩)|`(#[$x,$y,*])=>`(⟨$x,$y,*⟩)
local macro_rules|`(-$x)=>do let s:=(x.raw.reprint.getD "").toList.filter (fun c=>c != '('&&c != ' ');if (s.headD 'a').isDigit then Lean.Macro.throwUnsupported else `(($x).length)
local macro_rules|`(!$x:ident)=>`(($x).heap.objs.size)
local macro_rules|`(~~~$x)=>`(($x).map $(Lean.mkIdent `V.str))
abbrev cP:Nat→Lean.Term→Lean.MacroM (Lean.TSyntax `rcasesPat)
 |0,_=>Lean.Macro.throwUnsupported
 |n+1,t=>do match t with|`(#[$xs,*])=>do{let ps←xs.getElems.mapM (cP n);`(rcasesPat|⟨$[$ps:rcasesPat],*⟩)}|`($i:ident)=>if i.getId==`U then do{let r:=Lean.mkIdent `rfl;`(rcasesPat|$r:ident)} else `(rcasesPat|$i:ident)|_=>`(rcasesPat|_)
local macro_rules|`(tactic|let $p:term:=$e)=>do match p with|`(#[$_,*])=>do{let q←cP 9 p;`(tactic|obtain $q:rcasesPat:=$e)}|_=>Lean.Macro.throwUnsupported
local macro_rules|`(tactic|calc $e:term)=>`(tactic|refine $e)
local macro_rules|`(tactic|let $i:ident:=$e)=>`(tactic|have $i:ident:=$e)|`(tactic|let $i:ident : $t := $e)=>`(tactic|have $i:ident : $t := $e)
namespace Hd
open PySem PySem.W PySem.Calls PyProof.Rows L2
noncomputable def zJ(st:SharedT->Thread->uf (SharedT×Thread))(ok:Thread->Bool)(n:Nat):SharedT->Thread->uf SharedT:=
 @Nat.rec (λ_=>SharedT->Thread->uf SharedT) (λ_ _=>none) (λ_ a s t=>match through t with
  |true=>some s
  |false=>match ok t with
   |false=>none
   |true=>match st s t with
    |some (s',t')=>a s' t'
    |none=>none) n
def RC(t:BT)(n:Nat):qa Obj->BT
 |[]=>t
 |o::r=>RC (t.ins n o) (n+1) r
noncomputable def aC(P:Params):BT:=RC .nil 0 (boot_heap P).objs.toList
noncomputable def S0(w:ui)(os:OsState):SharedT:={aC w.params,(11),{},#[],boot_drawn,boot_toks,os}
noncomputable def chk(p:uh)(P:Params)(s:ug):Bool:=staticsOk (importedModules p.main.body) (boot_heap P) s.heap&&namesBound p s.heap&&gensDone s&&laidKept (boot_heap P) s.heap
noncomputable abbrev wg:(Code->Sem Fin)->uh->ui->SharedT->Thread->uf (SharedT×Thread):=PySem.W.Fast.tw10156331382660048174
noncomputable abbrev gO:Code->Sem Fin:=PySem.W.Fast.tw11892475500146522536 PySem.W.Fast.tw14364793385576792824
noncomputable abbrev okQ:Nat->uf qd->Thread->Bool:=PySem.W.Fast.tw6613529449190102663
noncomputable abbrev seenQ:=@PySem.W.Fast.tw4187177175401517315
def yE(s:SharedT):Frag:=(List.range s.n).filterMap λa=>(match Nat.blt a s.n with|true=>alive ((s.tree.get a).getD default)|false=>none).map λo=>(a,o)
def kW:qd->qd
 |.int n _=>.int n 0
 |.str x _=>.str x 0
 |v=>v
def LV(K:Frag):qd->uf (qg)
 |.none=>none
 |.ref D=>(match K.lookup D with
  |some ⟨_,_,.seq fM _,_⟩=>@(fM.toList.map kW)
  |_=>some [])
 |_=>some []
def yX:uf (uf qd)->qc
 |some (some (.ref f))=>f
 |_=>0
def see(K:Frag)(r:uf (uf qd))(q:qb):uf (FuncData×uf (qg))×Bool:=match r with
 |some (some (.ref f))=>(match K.lookup f with
  |some ⟨_,_,.func fd,_⟩=>(some ({fd with defaults:=.none,kwdefaults:=.none,doc:=.none,pyModule:=.none,annotations:=none,code:=.none,closureTuple:=.none},LV K fd.defaults),codeIn K fd.code q&&(keepIn K (.ref f)&&isFn K (.ref f)))
  |_=>(none,false))
 |_=>(none,false)
abbrev xW(x q:qb)(st:Stmt):FuncData:=fnOf x q (Yo st) (YB st) (Qs st) .none .none .none .none none .none .none
def bv:V->qd
 |.int n=>.int n 0
 |.str x=>.str x 0
 |.bl b=>.bool b
 |_=>.none
def flat:V->Bool
 |.int _|.str _|.bl _|.non=>true
 |_=>false
abbrev gl(K:Frag)(x:qb):uf (uf qd):=nsIn K mainGlobals x
abbrev cl(K:Frag)(x:qb):qc:=yX (gl K x)
end Hd
namespace L2
open PySem PySem.Spec PyProof.Rows
abbrev Tb:=uf qb×Stmt×qa Nat
def vY(s:Stmt):qb:=match s with
 |.FunctionDef n _ _ _ _ _ _ _ _ _=>n
 |.ClassDef n _ _ _ _ _ _ _ _ _ _=>n
 |_=>""
def t0(s:Stmt)(p:qa Nat:=[]):Tb:=(none,s,p)
def t1(c:Stmt)(j:Nat)(p:qa Nat:=[]):Tb:=(@(vY c),Tc c j,p)
def qN(t:Tb):qb:=match t.1 with
 |none=>vY t.2.1
 |some c=>c++"."++vY t.2.1
def rK(K:Frag)(t:Tb):uf (uf qd):=match t.1 with
 |none=>Hd.gl K (vY t.2.1)
 |some c=>findIn K (.ref (Hd.cl K c)) (vY t.2.1)
def lsO(b:qa Stmt):qe:=((b.filterMap λs=>match s with
 |.Assign [.Name x _] _ _=>if x="__name__" then none else some x
 |.FunctionDef n _ _ _ _ _ _ _ _ _=>if n="law" then none else some n
 |.ClassDef n _ _ _ _ _ _ _ _ _ _=>some n
 |_=>none)).eraseDups
def cvE(e:Expr):V:=match e with
 |.Constant (.str x) _ _=>.str x
 |.Constant (.int i) _ _=>.int i
 |.Constant (.bool b) _ _=>.bl b
 |_=>.non
def wj(s:Stmt):qa V:=(Yo s).defaults.map cvE
def uF(s:Stmt):uf (qg):=match wj s with
 |[]=>none
 |l=>@(l.map Hd.bv)
abbrev gm:=qa (uf (FuncData×uf (qg))×Bool)
def see(K:Frag)(l:qa Tb):gm:=l.map λt=>Hd.see K (rK K t) (qN t)
def XX(l:qa Tb):gm:=l.map λt=>(some (Hd.xW (vY t.2.1) (qN t) t.2.1,uF t.2.1),true)
end L2
namespace  K54
open PySem L2
def top(i:Nat):Stmt:=PySem.Challenge.pw_mailroom_k54_one_room.main.body.getD i (.Pass #[0,0,0,0])
def tab:qa Tb:=[t0 (top 13),t0 (top 14),t0 (top 15),t0 (top 20),t0 (top 21),t0 (top 22),t0 (top 23),t0 (top 25),t0 (top 29),t0 (top 30),t0 (top 31),t0 (top 32),t0 (top 33),t0 (top 34),t0 (top 36),t0 (top 37),t0 (top 48),t0 (top 51),t0 (top 52),t0 (top 53),t0 (top 54),t0 (top 63),t0 (top 64),t0 (top 65),t0 (top 66),t0 (top 67),t0 (top 68),t0 (top 69),t0 (top 70),t0 (top 71),t0 (top 72) [0,1,2,3,4,5,7,8,6,9,10],t0 (top 73),t0 (top 74),t0 (top 75),t0 (top 76),t0 (top 77),t1 (top 24) 1,t1 (top 24) 2,t1 (top 24) 3,t1 (top 24) 4,t1 (top 40) 0,t1 (top 40) 2,t1 (top 40) 3,t1 (top 40) 4,t1 (top 40) 5,t1 (top 40) 6,t1 (top 40) 7,t1 (top 40) 8,t1 (top 40) 9,t1 (top 40) 10,t1 (top 40) 11,t1 (top 40) 12,t1 (top 40) 13,t1 (top 42) 0,t1 (top 42) 1,t1 (top 42) 2,t1 (top 42) 3,t1 (top 42) 4,t1 (top 44) 0,t1 (top 44) 1,t1 (top 44) 3,t1 (top 46) 0,t1 (top 46) 2,t1 (top 46) 3,t1 (top 46) 5,t1 (top 46) 6,t1 (top 46) 7,t1 (top 49) 0,t1 (top 49) 1,t1 (top 49) 2,t1 (top 49) 3,t1 (top 49) 4,t1 (top 49) 5,t1 (top 49) 6,t1 (top 49) 7,t1 (top 49) 8,t1 (top 55) 0,t1 (top 55) 1,t1 (top 55) 2,t1 (top 55) 3,t1 (top 55) 4,t1 (top 55) 6,t1 (top 55) 7,t1 (top 59) 0,t1 (top 59) 2,t1 (top 59) 3,t1 (top 61) 0,t1 (top 61) 1,t1 (top 61) 2,t1 (top 61) 3,t1 (top 61) 5,t1 (top 61) 6,t1 (top 61) 8,t1 (top 61) 9,t1 (top 61) 12,t1 (top 61) 13,t1 (top 61) 14,t1 (top 61) 15,t1 (top 61) 16,t1 (top 61) 17,t1 (top 61) 18,t1 (top 61) 19,t1 (top 61) 20,t1 (top 61) 21,t1 (top 61) 22,t1 (top 61) 23,t1 (top 61) 25,t1 (top 2) 0,t1 (top 24) 0,t1 (top 40) 1,t1 (top 44) 2,t1 (top 46) 1,t1 (top 55) 5,t1 (top 61) 4,t1 (top 61) 7,t1 (top 61) 26]
def cN:qe:=["Board","Card","Folders","Index","Ledger","Letter","Registers","Room","Rules","Threads"]
def tb(i:Nat):Tb:=tab.getD i (t0 (top 0))
abbrev sO(i:Nat):Stmt:=(tb i).2.1
def aK(K:Frag)(i:Nat):qc:=match tab[i]? with|some t=>Hd.yX (rK K t)|none=>Hd.cl K (cN.getD (i-116) "")
inductive Fc
 |q (x:qb) (i:Nat)
 |g (x:qb) (v:V)
 |b (x:qb)
 |c (i:Nat)
 |k (i j:Nat)
 |M (i:Nat) (x:qb) (j:Nat)
 |n (i:Nat) (x:qb)
 |z
def vZ(K:Frag):Fc->Bool
 |.q x i=>decide (Hd.gl K x=@(@(.ref (aK K i))))
 |.g x v=>decide ((Hd.gl K x).map (Option.map Hd.kW)=@(@(Hd.bv v)))&&Hd.flat v
 |.b x=>decide (Hd.gl K x=some none)
 |.c i=>plainGet K (aK K i) Str.empty&&hasDictIn K (aK K i)&&plainOver K (aK K i)&&decide (findIn K (.ref (aK K i)) "__setattr__"=@(@(.builtin "object.__setattr__")))
 |.k i j=>makesIn K (aK K i)&&decide (findIn K (.ref (aK K i)) "__init__"=@(@(.ref (aK K j))))&&isFn K (.ref (aK K j))&&keepIn K (.ref (aK K i))
 |.M i x j=>decide (findIn K (.ref (aK K i)) x=@(@(.ref (aK K j))))&&isFn K (.ref (aK K j))&&keepIn K (.ref (aK K j))
 |.n i x=>decide (findIn K (.ref (aK K i)) x=some none)
 |.z=>true
def fx:qa Fc:=[.c 123,
 .c 116,
 .c 118,
 .c 121,
 .b "len",
 .c 125,
 .c 120,
 .c 119,
 .n 123 "board",
 .b "sorted",
 .b "isinstance",
 .n 116 "letters",
 .n 116 "boxed",
 .n 121 "found",
 .n 118 "inside",
 .c 117,
 .c 122,
 .n 118 "boxes",
 .b "str",
 .b "list",
 .n 119 "bearers",
 .n 125 "links",
 .n 120 "shelves",
 .b "repr",
 .n 118 "tags",
 .n 119 "entries",
 .n 125 "replies",
 .n 116 "facts",
 .b "range",
 .n 117 "signs",
 .n 122 "drawers",
 .n 116 "hung",
 .n 121 "title",
 .n 121 "body",
 .n 120 "hand",
 .n 123 "ledger",
 .b "tuple",
 .b "set",
 .n 117 "box",
 .q "Letter" 121,
 .k 121 108,
 .n 121 "answers",
 .M 122 "get" 110,
 .n 116 "listed",
 .c 124,
 .M 123 "do" 87,
 .n 123 "hand",
 .b "all",
 .M 121 "parts" 37,
 .n 121 "sender",
 .n 121 "day",
 .M 123 "mark" 114,
 .q "stamp_of" 13,
 .b "bool",
 .b "enumerate",
 .q "Card" 117,
 .k 117 107,
 .n 117 "letter",
 .M 121 "twin" 36,
 .M 121 "known" 38,
 .M 118 "put_in" 42,
 .M 118 "put_out" 43,
 .M 118 "folder" 47,
 .M 118 "marks" 48,
 .M 118 "counts" 49,
 .M 118 "marked" 50,
 .M 125 "names" 63,
 .M 125 "thread" 65,
 .M 116 "take_out" 71,
 .M 116 "card" 75,
 .M 120 "shelf" 77,
 .n 124 "kept",
 .M 123 "sort_card" 89,
 .M 123 "put" 113,
 .M 123 "check_word" 90,
 .M 123 "names" 94,
 .M 123 "card" 96,
 .M 123 "thread" 99,
 .n 123 "ruling",
 .q "all_among" 0,
 .q "number_of" 17,
 .g "WORD_SIGNS" (.str "abcdefghijklmnopqrstuvwxyz0123456789"),
 .g "RUN_SIGNS" (.str "abcdefghijklmnopqrstuvwxyzABCDEFGHIJKLMNOPQRSTUVWXYZ0123456789"),
 .g "MOST_WORD" (.int 20),
 .g "MOST_TITLE" (.int 60),
 .g "MOST_BODY" (.int 400),
 .g "LAST_DAY" (.int 9999),
 .g "HAND_SIGNS" (.str "abcdefghijklmnopqrstuvwxyz"),
 .g "MOST_HAND" (.int 8),
 .g "SEEN" (.str "seen"),
 .b "int",
 .b "dict",
 .b "max",
 .M 121 "words" 39,
 .q "Folders" 118,
 .k 118 40,
 .M 118 "add" 109,
 .M 118 "take_out" 41,
 .M 118 "place" 44,
 .M 118 "mark" 45,
 .M 118 "unmark" 46,
 .M 118 "names" 51,
 .M 118 "folders" 52,
 .q "Index" 119,
 .k 119 53,
 .M 119 "add" 54,
 .M 119 "take_out" 55,
 .M 119 "having" 56,
 .q "Registers" 122,
 .k 122 58,
 .M 122 "keep" 59,
 .M 122 "keys_of" 60,
 .q "Threads" 125,
 .k 125 61,
 .M 125 "add" 111,
 .M 125 "take_out" 62,
 .M 125 "beside" 64,
 .M 125 "threads" 66,
 .q "Board" 116,
 .k 116 67,
 .M 116 "show" 68,
 .M 116 "bring_in" 69,
 .M 116 "marks_told" 70,
 .M 116 "change" 72,
 .M 116 "names" 73,
 .M 116 "letter_at" 74,
 .q "Ledger" 120,
 .k 120 76,
 .M 120 "next_name" 78,
 .M 120 "do" 79,
 .M 120 "have" 80,
 .M 120 "told" 112,
 .M 120 "weighed" 81,
 .M 120 "take" 82,
 .q "Rules" 124,
 .k 124 83,
 .M 124 "run" 84,
 .M 124 "outcome" 85,
 .q "Room" 123,
 .k 123 86,
 .M 123 "others" 88,
 .M 123 "place" 91,
 .M 123 "drop" 92,
 .M 123 "sort_anew" 93,
 .M 123 "letter_at" 95,
 .M 123 "folder" 97,
 .M 123 "marks" 98,
 .M 123 "threads" 100,
 .M 123 "counts" 101,
 .M 123 "folders" 102,
 .M 123 "marked" 103,
 .M 123 "names_in" 104,
 .M 123 "having" 105,
 .M 123 "have" 106,
 .M 123 "told" 115]
abbrev PP:uh:=PySem.Challenge.pw_mailroom_k54_one_room
def loose:qe:=lsO PP.main.body
noncomputable abbrev Mo(w:ui)(os:OsState):uf PySem.W.SharedT:=Hd.zJ (Hd.wg Hd.gO PP w) (Hd.okQ 11 (@(.ref 6))) 20000 (Hd.S0 w os) (PySem.W.topStub PP)
def dM(w:ui)(os:OsState):(Mo w os).map (λs=>(Hd.chk PP w.params s.abs,Hd.seenQ (view PP [77]) loose (PySem.importedModules PP.main.body) (λs=>recOk [] s) true s.abs))=some (true,openGood (view PP [77]) loose):=by kernel_rfl
def gn(K:Frag):gm×Bool:=(see K (tab.take 38),(fx.take 51).all (vZ K))
def go1:gm×Bool:=(XX (tab.take 38),true)
def dJ(w:ui)(os:OsState):(Mo w os).map (λs=>gn (Hd.yE s))=some go1:=by kernel_rfl
def gK(K:Frag):gm×Bool:=(see K ((tab.drop 38).take 39),((fx.drop 51).take 52).all (vZ K))
def go2:gm×Bool:=(XX ((tab.drop 38).take 39),true)
def dI(w:ui)(os:OsState):(Mo w os).map (λs=>gK (Hd.yE s))=some go2:=by kernel_rfl
def ob3(K:Frag):gm×Bool:=(see K ((tab.drop 38).drop 39),((fx.drop 51).drop 52).all (vZ K))
def go3:gm×Bool:=(XX ((tab.drop 38).drop 39),true)
def dH(w:ui)(os:OsState):(Mo w os).map (λs=>ob3 (Hd.yE s))=some go3:=by kernel_rfl
def obs(K:Frag):qa (gm×Bool):=[gn K,gK K,ob3 K]
def good:qa (gm×Bool):=[go1,go2,go3]
def seen(w:ui)(os:OsState):(Mo w os).map (λs=>(Hd.chk PP w.params s.abs,Hd.seenQ (view PP [77]) loose (PySem.importedModules PP.main.body) (λs=>recOk [] s) true s.abs,obs (Hd.yE s)))=some (true,openGood (view PP [77]) loose,good):=by
 let h0:=dM w os;let a:=dJ w os;let b:=dI w os;let c:=dH w os;generalize Mo w os=r at h0 a b c⊢
 cases r with
 |none=>cases h0
 |some s=>
  rw[j7,Option.some.injEq,yo] at h0;rw[j7,Option.some.injEq,yo,yo];erw[h0.1,h0.2,?_];show[gn (Hd.yE s),gK (Hd.yE s),ob3 (Hd.yE s)]=[go1,go2,go3];rw[show gn (Hd.yE s)=go1 from qT a,show gK (Hd.yE s)=go2 from qT b,show ob3 (Hd.yE s)=go3 from qT c]
def look:PySem.W.Fast.tw9446332074065402090 PySem.Challenge.rw_mailroom_k54_one_room=true:=by kernel_rfl
def opens:PySem.W.opening PP=PySem.W.plainProg PP.main.scope.names:=by kernel_rfl
def fence(s:ug):fenceModules? PP s=some s:=by kernel_rfl
end K54
namespace L2
open PySem PySem.Spec PyProof.Rows
variable {vs xs:qa V}{us:qg}{i n t':Nat}{x:qb}{u:qd}{C a b:qc}{P:uh}{w:ui}{base h:Heap}{ch:qa qc}{M:Model}{A:uj}{v y:V}{c e tg:Expr}{s:ug}{pos:Pos}{fL:qa (qc×Obj)}{op:CmpOp}{body:qa Stmt}{f:qd->qd->Sem qd}{pl:Sem Bool}{kw:qa (qb×qd)}{mg:qb->uf qd}{outer:qa Env}
abbrev Key:=Sum Int qb
def XT:Key->qd->Bool
 |.inl k,v=>Value.isInt k v
 |.inr x,v=>Value.isStrOf x v
def keyH(w:ui):Key->Int
 |.inl k=>hashInt k
 |.inr x=>hashStr w x
def Yd:∀{k:Key}{v:qd},XT k v=true->(∃i t,k=inl i/\v=Value.int i t)\/(∃x t,k=inr x/\v=Value.str x t)
 |.inl i,v,h=>by
  let#[t,e]:=Value.isInt_shape (k:=i) (v:=v) h;calc .inl #[i,t,U,e]
 |.inr x,v,h=>by
  let#[t,e]:=Value.isStrOf_shape (x:=x) (v:=v) h;calc .inr #[x,t,U,e]
def M4(i:Int)(t:Tok):XT (.inl i) (.int i t)=true:=by simp[XT,Value.isInt]
def M3(x:qb)(t:Tok):XT (.inr x) (.str x t)=true:=by simp[XT,Value.isStrOf]
def bZ(a b:Int):decide ((inl a:Key)=inl b)=(a==b):=by
 by_cases e:a=b
 .subst e;simp
 .have h:¬(inl a:Key)=inl b:=λq=>e (inl.inj q);rw[qK h];calc(z8.mpr e).symm
def bW(a b:qb):decide ((inr a:Key)=inr b)=decide (a=b):=by
 by_cases e:a=b
 .subst e;simp
 .have h:¬(inr a:Key)=inr b:=λq=>e (jG q);rw[qK h,qK e]
def bY(a:Int)(b:qb):decide ((inl a:Key)=inr b)=false:=qK nofun
def bX(a:qb)(b:Int):decide ((inr a:Key)=inl b)=false:=qK nofun
def Q4(prog:uh)(w:ui):PySem.KeyKind prog w Key where
 is:=XT
 hash:=keyH w
 inj:=λv a b g f=>by
  obtain⟨i,t,rfl,rfl⟩|⟨x,t,rfl,rfl⟩:=Yd g
  .rcases Yd f with⟨j,u,rfl,e⟩|⟨y,u,rfl,e⟩
   .injection e with c _;rw[c]
   .exact nomatch e
  .rcases Yd f with⟨j,u,rfl,e⟩|⟨y,u,rfl,e⟩
   .exact nomatch e
   .injection e with c _;rw[c]
 byValue:=λk v h=>by
  obtain⟨i,t,rfl,rfl⟩|⟨x,t,rfl,rfl⟩:=Yd h<;>rfl
 pyHash:=λd h=>by
  obtain⟨i,t,rfl,rfl⟩|⟨x,t,rfl,rfl⟩:=Yd d
  .exact wpAny_pyHash_int h
  .exact wpAny_pyHash_str h
 eqBool:=λl d h=>by
  obtain⟨i,t,rfl,rfl⟩|⟨x,t,rfl,rfl⟩:=Yd l
  .rcases Yd d with⟨j,u,rfl,rfl⟩|⟨y,u,rfl,rfl⟩
   .rw[bZ] at h;exact wpAny_eqBool_int h
   .rw[bY] at h;exact SeqAt.EqAt.int_str i t y u _ _ _ _ h
  .rcases Yd d with⟨j,u,rfl,rfl⟩|⟨y,u,rfl,rfl⟩
   .rw[bX] at h;exact SeqAt.EqAt.str_int x t j u _ _ _ _ h
   .rw[bW] at h;exact wpAny_eqBool_str h
 «strs»:=λk x t v h=>by
  obtain⟨i,u,rfl,e⟩|⟨y,u,rfl,e⟩:=Yd h
  .exact nomatch e
  .injection e with c _
   subst c;cases v<;>rfl
def Eh(prog:uh)(w:ui)(i:Int)(t:Tok):(Q4 prog w).is (.inl i) (.int i t)=true:=M4 i t
def Eg(prog:uh)(w:ui)(x:qb)(t:Tok):(Q4 prog w).is (.inr x) (.str x t)=true:=M3 x t
def QL:V->qd->Prop
 |.non,u=>u=Value.none
 |.bl b,u=>u=Value.bool b
 |.int i,u=>∃t,u=Value.int i t
 |.str x,u=>∃t,u=Value.str x t
 |.wk b,u=>∃t,u=Value.bytes b t
 |.flt b,u=>∃t,u=Value.float b t
 |.ref a,u=>u=Value.ref a
 |.ty n,u=>u=Value.type n
abbrev QF:qa V->qg->Prop:=Paired QL
def QF.length(r:QF xs us):-xs=-us:=gR r
def QF.get{x:V}(h:QF xs us)(e:xs[i]?=some x):∃u,us[i]?=some u/\QL x u:=by
 induction h generalizing i with
 |nil=>rw[wL] at e;calc nomatch e
 |cons r t a=>
  cases i with
  |zero=>cases e;calc{0,r}
  |succ i=>calc a e
def QF.set{x:V}(r:QL x u)(i:Nat)(h:QF xs us):QF (xs.set i x) (us.set i u):=by
 induction h generalizing i with
 |nil=>calc .nil
 |cons q t a=>
  cases i with
  |zero=>calc .cons r t
  |succ i=>calc .cons q (a i)
def QF.append{ys:qa V}{ws:qg}(h:QF xs us)(s:QF ys ws):QF (xs++ys) (us++ws):=by
 induction h with
 |nil=>calc s
 |cons r t a=>calc .cons r a
def QF.take:∀{xs:qa V}{us:qg}(n:Nat),QF xs us->QF (xs.take n) (us.take n)
 |_,_,0,_=>.nil
 |_,_,_+1,.nil=>.nil
 |_,_,n+1,.cons r t=>.cons r (QF.take n t)
def QF.drop:∀{xs:qa V}{us:qg}(n:Nat),QF xs us->QF (xs.drop n) (us.drop n)
 |_,_,0,r=>r
 |_,_,_+1,.nil=>.nil
 |_,_,n+1,.cons _ t=>QF.drop n t
def Vu:uf V->uf qd->Prop
 |some v,some u=>QL v u
 |none,none=>True
 |_,_=>False
def KV{a:Type}:qa (a×V)->qa (a×qd)->Prop:=Paired λ(p:a×V)(q:a×qd)=>p.1=q.1/\QL p.2 q.2
def kV:Key->V
 |.inl i=>.int i
 |.inr x=>.str x
inductive HO where
 |lst (xs:qa V)
 |tup (xs:qa V)
 |dK (fN:qa (Key×V))|dT (fN:qa (qa Key×V))
 |set (S:Int->Bool) (n:Nat)
 |ins (C dx:qc) (fs:qa (qb×V))
 |own (x:qc)
 |xd (fs:qa (qb×V))
 |met (f x:qc)
 |rng (lo hi:Int)
 |jM (o:Obj) (u:HO)
 |ur (ps:uk qd)
 |ext (φ:Heap->Prop)
variable {o:HO}
abbrev Hp:=qc->uf HO
variable {H:Hp}
def upd(H:Hp)(a:qc)(o:HO):Hp:=λb=>if b=a then some o else H b
def Qd   :upd H a o a=some o:=by unfold upd;rw[qE rfl]
def Qa(h:b≠a):upd H a o b=H b:=by unfold upd;rw[qC h]
def VY{u:HO}:upd (upd H a o) a u=upd H a u:=by
 funext b;unfold upd;split<;>rfl
def QG{u:HO}(h:H a=some o)(h':H b=some u)(d:o≠u):a≠b:=by
 intro e;subst e;rw[h] at h';calc d (qT h')
def Qb(h:H a=some o)(h':H b=none):a≠b:=by
 intro e;subst e;rw[h] at h';cases h'
section
variable (P:uh)(w:ui)
def QU(H:Hp)(h:Heap)(a:qc):HO->Prop
 |.lst xs=>-xs<=sizeLine/\∃(its:qg)(n:Nat),QF xs its/\h.get? a=some {cls:=.type "list",data:=.seq its.toArray n}
 |.tup xs=>-xs<=sizeLine/\∃its:qg,QF xs its/\IsTup h a its.toArray
 |.dK b=>-b<=sizeLine/\(a==sysModules)=false/\∃vs,KV b vs/\h.DictOf (Q4 P w) a vs
 |.dT b=>-b<=sizeLine/\(a==sysModules)=false/\∃xs:qa (qa Key×qc×qd),
   Paired (λ(p:qa Key×V)(q:qa Key×qc×qd)=>p.1=q.1/\H q.2.1=@(.tup (p.1.map kV))/\QL p.2 q.2.2) b xs /\
   ∃o es c,h.get? a=some o/\o.ExactDict/\o.data=.dict es c/\es.toList=xs.map (entryOfKey (tupleKind (Q4 P w)))/\(xs.map (·.1)).Nodup
 |.set S n=>h.SetOf (intKind P w) a S n
 |.ins C d c=>H d=@(.own a)/\-c<=1000/\d≠a/\h.get? a=@(instObj C d) /\
   ∃b,h.Ns1 d b/\(∀f,Vu (c.lookup f) (b f))/\PySem.Within b (c.map (·.1))
 |.own _=>∃o,h.get? a=some o
 |.xd c=>∃b,h.Ns1 a b/\∀f,Vu (c.lookup f) (b f)
 |.rng lo hi=>∃t u v,h.get? a=some {cls:=.type "range",data:=.fields ([.int lo t,.int hi u,.int 1 v].toArray)}
 |.jM o u=>h.get? a=some o/\QU H h a u
 |.ur b=>h.get? a=some {cls:=.none,data:=.fields b}
 |.met f x=>h.get? a=@(methodObj (.ref f) (.ref x))
 |.ext b=>b h/\(∃o,h.get? a=some o)/\∀c d:Heap,b c->(∀o,c.get? a=some o->d.get? a=some o)->b d
def y4(H:Hp)(h:Heap):Prop:=∀a o,H a=some o->QU P w H h a o
end
section
variable {P:uh}{w:ui}{H H':Hp}{h h':Heap}{a:qc}{o:HO}
def QU.lt(x:QU P w H h a o):a<h.objs.size:=by
 cases o with
 |lst xs=>let#[_,_,_,_,e]:=x;calc qO e
 |tup xs=>let#[_,_,_,p]:=x;calc p.lt
 |dK b=>let#[_,_,_,_,o,_,_,e,_]:=x;calc qO e
 |dT b=>let#[_,_,_,_,o,_,_,e,_]:=x;calc qO e
 |set S n=>let#[o,_,_,_,e,_]:=x;calc qO e
 |ins C c b=>let#[_,_,_,e,_]:=x;calc qO e
 |own y=>let#[_,e]:=x;calc qO e
 |xd b=>let#[_,#[_,_,_,e,_],_]:=x;calc qO e
 |rng lo hi=>let#[_,_,_,e]:=x;calc qO e
 |jM b u=>let#[e,_]:=x;calc qO e
 |ur b=>calc qO (show h.get? a=some _ from x)
 |met f y=>calc qO (show h.get? a=some _ from x)
 |ext b=>let#[_,#[_,e],_]:=x;calc qO e
def Paired.mapP{α β:Type}{F G:α->β->Prop}{c:qa α}{d:qa β}(h:Paired F c d)(f:∀a b,F a b->G a b):Paired G c d:=by
 induction h with
 |nil=>calc .nil
 |cons r t e=>calc .cons (f _ _ r) e
def QU.stay(x:QU P w H h a o)(k:∀b u,(b=a\/H b=@(.own a))->h.get? b=some u->h'.get? b=some u)
 (m:∀b,H b=@(.own a)->H' b=@(.own a)) (s:∀b xs,H b=@(.tup xs)->H' b=@(.tup xs)):QU P w H' h' a o:=by
 induction o with
 |lst xs=>let#[z,its,n,r,e]:=x;calc{z,its,n,r,k _ _ (.inl rfl) e}
 |tup xs=>let#[z,its,r,g,e,c]:=x;calc{z,its,r,g,k _ _ (.inl rfl) e,c}
 |dK j=>let#[z,y,vs,r,g,es,i,e,c]:=x;calc{z,y,vs,r,g,es,i,k _ _ (.inl rfl) e,c}
 |dT j=>
  let#[z,y,xs,r,g,es,i,e,c]:=x;calc{z,y,xs,Paired.mapP r λp q z=>{z.1,s _ _ z.2.1,z.2.2},g,es,i,k _ _ (.inl rfl) e,c}
 |set S n=>let#[g,es,i,t,e,c]:=x;calc{g,es,i,t,k _ _ (.inl rfl) e,c}
 |ins C D A=>
  let#[d,z,ne,e,j,#[l,es,i,B,c],r]:=x;calc{m _ d,z,ne,k _ _ (.inl rfl) e,j,{l,es,i,k _ _ (.inr d) B,c},r}
 |own y=>let#[g,e]:=x;calc{g,k _ _ (.inl rfl) e}
 |xd A=>let#[j,#[l,es,i,e,c],r]:=x;calc{j,{l,es,i,k _ _ (.inl rfl) e,c},r}
 |rng lo hi=>let#[t,u,v,e]:=x;calc{t,u,v,k _ _ (.inl rfl) e}
 |jM g u i=>let#[e,q]:=x;calc{k _ _ (.inl rfl) e,i q}
 |ur g=>
  let e:h.get? a=some {cls:=.none,data:=.fields g}:=x;show h'.get? a=some {cls:=.none,data:=.fields g};calc k a _ (.inl rfl) e
 |met f y=>
  let e:h.get? a=@(methodObj (.ref f) (.ref y)):=x;show h'.get? a=@(methodObj (.ref f) (.ref y));calc k a _ (.inl rfl) e
 |ext g=>let#[p,#[o,e],st]:=x;calc{st _ _ p λo q=>k _ _ (.inl rfl) q,{o,k _ _ (.inl rfl) e},st}
def y4.lt(x:y4 P w H h)(e:H a=some o):a<h.objs.size:=(x a o e).lt
def y4.fresh(x:y4 P w H h)(e:h.objs.size<=a):H a=none:=by
 cases q:H a with
 |none=>rfl
 |some u=>calc absurd (qV (x.lt q) e) (zQ _)
def y4.kept(x:y4 P w H h)(k:∀b u,h.get? b=some u->h'.get? b=some u):y4 P w H h':=λa o e=>
 (x a o e).stay (λb u _ q=>k b u q) (λ_ q=>q) λ_ _ q=>q
def y4.laid(x:y4 P w H h)(k:∀b u,h.get? b=some u->h'.get? b=some u)(g:h.objs.size<=a)(new:QU P w (upd H a o) h' a o):y4 P w (upd H a o) h':=λb u e=>by
 let d:=x.fresh g;by_cases f:b=a
 .subst f;rw[Qd] at e;cases e;exact new
 .rw[Qa f] at e;calc(x b u e).stay (λc v _ q=>k c v q) (λc q=>Qa (Qb q d)<|q) λc xs q=>by rw[Qa (Qb q d)];calc q
end
def Rd(H:Hp)(a:qc)(u:HO):Prop:=H a=some u\/∃o,H a=@(.jM o u)
def Rd.ok{u:HO}(r:Rd H a u)(x:y4 P w H h):QU P w H h a u:=by
 obtain r|⟨o,r⟩:=r
 .exact x a u r
 .let#[_,q]:=x a _ r;calc q
def Mut:uf HO->Prop
 |some (.lst _)=>True
 |some (.dK _)=>True
 |some (.dT _)=>True
 |some (.set _ _)=>True
 |some (.ins _ _ _)=>True
 |some (.ext _)=>True
 |_=>False
section
variable {P:uh}{w:ui}{H:Hp}{h h':Heap}{x e:qc}{o':HO}
def y4.write(ok:y4 P w H h)(g:Mut (H x))(he:e=x\/H e=@(.own x))(k:∀b u,b≠e->h.get? b=some u->h'.get? b=some u)(j:∃u,h'.get? e=some u)
 (new:QU P w (upd H x o') h' x o'):y4 P w (upd H x o') h':=λb u q=>by
 let d:∀c y,H c=@(.own y)->c≠x:=λc y r z=>by subst z;rw[r] at g;exact g
 let f:∀c xs,H c=@(.tup xs)->c≠x:=λc xs r z=>by subst z;rw[r] at g;exact g
 by_cases i:b=x
 .subst i;rw[Qd] at q;cases q;exact new
 .rw[Qa i] at q;by_cases a:b=e
  .have l:H b=@(.own x):=by
    obtain z|z:=he
    .exact absurd (a.trans z) i
    .rw[a];exact z
   rw[q] at l;cases l;let#[v,m]:=j;exact{v,a<|m}
  .refine(ok b u q).stay (λc v hc r=>k c v ?_ r) (λc r=>Qa (d c b r)<|r) λc xs r=>by rw[Qa (f c xs r)];exact r
   obtain rfl|hc:=hc
   .exact a
   .rintro rfl;obtain z|z:=he
    .exact d c b hc z
    .rw[hc] at z;cases z;calc i rfl
end
structure Un(fs ex:qa qc)(H H':Hp)(h h':Heap):Prop where
 keep:∀b o,h.get? b=some o->H b=none->b∉fs->b∉ex->h'.get? b=some o
 slot:∀b o,h.get? b=some o->H b=none->b∈fs->b∉ex->∃sl,h'.get? b=some {o with slots:=sl}
 free:∀b o,h.get? b=some o->H b=none->b∉ex->H' b=none
 there:∀b o,h.get? b=some o->b∉ex->∃o',h'.get? b=some o'
 tups:∀b xs,H b=@(.tup xs)->H' b=@(.tup xs)
 kh:∀b o u,H b=@(.jM o u)->H' b=@(.jM o u)
 vg:∀b ps,H b=@(.ur ps)->∃more,H' b=@(.ur (ps++more))
section
variable {fs fs' ex ex':qa qc}{H H1 H2:Hp}{h h1 h2 h':Heap}{a x e:qc}{o:HO}
def Un.any(u:Un fs ex H H1 h h1){a:Obj}(q:h.get? b=some a)(n:H b=none)(c:b∉ex):∃sl,h1.get? b=some {a with slots:=sl}:=by
 by_cases d:b∈fs
 .exact u.slot b a q n d c
 .exact{a.slots,u.keep b a q n d c}
def Un.kept(k:∀b u,h.get? b=some u->h'.get? b=some u):Un fs ex H H h h':=
 {λb a q _ _ _=>k b a q,λb a q _ _ _=>{a.slots,k b a q},λ_ _ _ n _=>n,λb a q _=>{a,k b a q},λ_ _ q=>q,λ_ _ _ q=>q,λ_ c q=>{#[],by rw[q];simp}}
def Un.refl:Un fs ex H H h h:=Un.kept λ_ _ q=>q
def Un.laid(k:∀b u,h.get? b=some u->h'.get? b=some u)(d:h.objs.size<=a)(c:H a=none):Un fs ex H (upd H a o) h h' where
 keep:=λb u q _ _ _=>k b u q
 slot:=λb u q _ _ _=>{u.slots,k b u q}
 free:=λb u q n _=>by rw[Qa (zc (qV (qO q) d))];exact n
 there:=λb u q _=>{u,k b u q}
 tups:=λb xs q=>by rw[Qa (Qb q c)];exact q
 kh:=λb u xs q=>by rw[Qa (Qb q c)];exact q
 vg:=λb e q=>{#[],by rw[Qa (Qb q c),q];simp}
def Un.write(c:Mut (H x))(he:e=x\/H e=@(.own x))(k:∀b u,b≠e->h.get? b=some u->h'.get? b=some u)(d:∃u,h'.get? e=some u):Un fs ex H (upd H x o) h h':=by
 let f:∀b,H b=none->b≠x:=λb n z=>by subst z;rw[n] at c;exact c
 let g:∀b,H b=none->b≠e:=λb n z=>by
  subst z;obtain r|r:=he
  .exact f b n r
  .rw[n] at r;cases r
 let hm:∀b u,H b=some u->¬Mut (some u)->b≠x:=λb u q nm z=>by subst z;rw[q] at c;exact nm c
 refine⟨λb u q n _ _=>k b u (g b n) q,λb u q n _ _=>{u.slots,k b u (g b n) q},λb u q n _=>Qa (f b n)<|n,λb u q _=>?_,
  λb xs q=>Qa (hm b _ q λz=>z)<|q,λb u xs q=>Qa (hm b _ q λz=>z)<|q,λb a q=>{#[],by rw[Qa (hm b _ q λz=>z),q];simp}⟩
 by_cases a:b=e
 .subst a;exact d
 .exact{u,k b u a q}
end
def trk(h:Heap)(H:Hp):qa qc:=(List.range h.objs.size).filter λa=>(H a).isSome
def Cz(h:Heap)(H:Hp):Heap:=PySem.W.hideAll h (trk h H)
def Nd(h:Heap)(H:Hp):(Cz h H).objs.size=h.objs.size:=PySem.W.hideAll_size _ _
def P6{o:Obj}(e:h.get? b=some o)(n:H b=none):(Cz h H).get? b=some o:=
 PySem.W.hideAll_get _ e λhm=>by
  let q:(H b).isSome=true:=(qG.mp hm).2;rw[n] at q;simp at q
def SQ{o:Obj}(e:(Cz h H).get? b=some o):h.get? b=some o/\H b=none:=by
 let a:h.get? b=some o:=PySem.W.of_hideAll (trk h H) e;erw[a,?_]
 cases q:H b with
 |none=>rfl
 |some x=>
  let hm:b∈trk h H:=qG.mpr {jV.mpr (qO a),by simp[q]};let z:(Cz h H).get? b=none:=PySem.W.hideAll_none (trk h H) hm;rw[z] at e;cases e
structure Mod(K:Frag)(mg:qb->uf qd)(base:Heap):Prop where
 uB:K.In base
 glob:base.Ns mainGlobals mg
 blt:∃mb,base.Ns builtinsNs mb/\∀x:qb,x≠"__name__"->mb x=bootBuiltins x
 nolimit:base.NoLimit
set_option genInjectivity false in
structure Cx where
 prog:uh
 w:ui
 K:Frag
 mg:qb->uf qd
 base:Heap
 A:uj
 N:qe
 s₀:ug
 H₀:Hp
 env:Env
 outer:qa Env
 stack:qa Env
 ex:qa qc
 fn:qb->Bool
 calm:Bool
 pn:qa (qc×Obj)
 xe:qf
variable {X:Cx}
def frs(l:qa Env):qa qc:=l.filterMap (·.frame)
abbrev Cx.fs(X:Cx):qa qc:=frs X.outer
def Vis(sc:Scope)(x:qb):Prop:=sc.names.lookup x=some .local\/sc.names.lookup x=some .cell\/sc.names.lookup x=some .free
def Loc(sc:Scope)(x:qb):Prop:=sc.names.lookup x=some .local\/sc.names.lookup x=some .cell
def Look(env:Env)(h:Heap)(m:qb->uf qd)(x:qb)(u:qd):Prop:=
 (env.kindOf x=some .local/\m x=some u)\/((env.kindOf x=some .cell\/env.kindOf x=some .free)/\∃c,env.cells.lookup x=some c/\h.IsCell c (some u))
structure Cx.Ok(X:Cx):Prop where
 mod:Mod X.K X.mg X.base
 kind:X.env.scope.kind=.function
 glob:X.env.globals=mainGlobals
 blt:X.env.builtins=builtinsNs
 above:X.s₀.heap.objs.size<=X.env.locals
 inj:∀x y c,X.env.cells.lookup x=some c->X.env.cells.lookup y=some c->x=y
 has:∀x,(X.env.kindOf x=some .cell\/X.env.kindOf x=some .free)->∃c,X.env.cells.lookup x=some c
 cab:∀x c,X.fn x=true->X.env.cells.lookup x=some c->X.s₀.heap.objs.size<=c
 hd:X.calm=true->X.A.handled=none
 frames:X.A.frames=some X.stack
 stk:X.stack=X.outer\/(X.stack=X.env::X.outer/\X.env.frame=some X.env.locals)
 g8:∀b∈X.ex,b≠X.env.locals/\∀x c,X.env.cells.lookup x=some c->c≠b
 bs:∀b o,X.base.get? b=some o->X.s₀.heap.get? b=some o/\X.H₀ b=none
 gr:X.base.objs.size<=X.s₀.heap.objs.size
 w2:∀b o,X.base.get? b=some o->b∉X.ex
 w6:∀b∈X.ex,b∉X.fs
 xU:X.s₀.heap.FunFrames X.base X.outer
 g6:∀b∈X.fs,X.H₀ b=none
structure Inv(X:Cx)(fL:qa (qc×Obj))(Z:qa (uf V))(H:Hp)(s:ug):Prop where
 ok:X.Ok
 os:s.os=X.s₀.os
 bare:AllBare s.gens
 base:Un X.fs X.ex X.H₀ H X.s₀.heap s.heap
 loc:∃m,s.heap.Ns X.env.locals m/\∀(i:Nat)(x:qb)(v:V),X.N[i]?=some x->Z[i]?=@(some v)->Vis X.env.scope x->∃u,QL v u/\Look X.env s.heap m x u
 cell:∀x c,X.env.cells.lookup x=some c->∃v,s.heap.IsCell c v
 free:H X.env.locals=none
 yt:∀x c,X.env.cells.lookup x=some c->H c=none
 pin:∀p∈X.pn++fL,s.heap.get? p.1=some p.2/\H p.1=none/\p.1≠X.env.locals/\p.1∉X.fs/\∀v,p.2.data≠.cell v
 hok:y4 X.prog X.w H s.heap
 len:-Z=-X.N
section
variable {X:Cx}{fL:qa (qc×Obj)}{Z:qa (uf V)}{H H':Hp}{s:ug}{h':Heap}
def Cx.Ok.nofr(ok:X.Ok){o:Obj}(e:X.base.get? b=some o):b∉X.fs:=λa=>by
 have:=(ok.xU.mem a).1;rw[e] at this;cases this
def Inv.bs(I:Inv X fL Z H s):∀b o,X.base.get? b=some o->s.heap.get? b=some o/\H b=none:=λb o e=>
 {I.base.keep b o (I.ok.bs b o e).1 (I.ok.bs b o e).2 (I.ok.nofr e) (I.ok.w2 b o e),I.base.free b o (I.ok.bs b o e).1 (I.ok.bs b o e).2 (I.ok.w2 b o e)}
def Inv.bk(I:Inv X fL Z H s):∀b o,X.base.get? b=some o->s.heap.get? b=some o:=λb o e=>(I.bs b o e).1
def Inv.mod(I:Inv X fL Z H s):Mod X.K X.mg X.base:=I.ok.mod
def Inv.xS(I:Inv X fL Z H s):X.K.In s.heap:=I.ok.mod.uB.keeps I.bk
def Inv.lt(I:Inv X fL Z H s):X.env.locals<(!s):=let ⟨_,a,_⟩:=I.loc;a.lt
def Inv.sz(I:Inv X fL Z H s):X.s₀.heap.objs.size<=(!s):=qQ I.ok.above (jQ I.lt)
def Inv.nofs(I:Inv X fL Z H s)(h:(!s)<=a):a∉X.fs:=λb=>by
 let#[_,o,c,_]:=I.ok.xU.mem b;calc absurd (qV (qO c) (qQ I.sz h)) (zQ _)
def Inv.cne(I:Inv X fL Z H s):∀x c,X.env.cells.lookup x=some c->c≠X.env.locals:=λx c e z=>by
 let#[v,o,d,hd]:=I.cell x c e;let#[m,#[f,es,g,a,b,_],_]:=I.loc;rw[z,a] at d;cases d;rw[b] at hd;cases hd
def Inv.xU(I:Inv X fL Z H s):s.heap.FunFrames X.base X.outer:=by
 let all:∀(l:qa Env),(∀b∈frs l,b∈X.fs)->X.s₀.heap.FunFrames X.base l->s.heap.FunFrames X.base l:=by
  intro l
  induction l with
  |nil=>intro _ _;trivial
  |cons env r f=>
   intro d g;let#[h,#[L,o,hf,i,j,hd],k]:=g;let a:L∈X.fs:=d L (by unfold frs;rw[jB,hf];calc qA);let#[sl,e]:=I.base.slot L o j (I.ok.g6 L a) a λz=>I.ok.w6 L z a;exact{h,{L,_,hf,i,e,hd},f (λb c=>d b (by unfold frs;rw[jB,hf];calc qy _ c)) k}
 calc all X.outer (λ_ c=>c) I.ok.xU
def Inv.stack(I:Inv X fL Z H s):s.heap.FunFrames X.base X.stack:=by
 obtain e|⟨e,hf⟩:=I.ok.stk
 .rw[e];exact I.xU
 .rw[e];let#[m,a,_]:=I.loc;calc .cons (by rw[I.ok.kind];decide) hf a ?_ I.xU;calc Heap.get?_none_of_le (qQ I.ok.gr I.ok.above)
def Inv.vX(I:Inv X fL Z H s):∀b∈frs X.stack,b∈X.env.locals::X.fs:=λb a=>by
 obtain e|⟨e,hf⟩:=I.ok.stk
 .rw[e] at a;exact qy _ a
 .rw[e] at a;unfold frs at a;rw[jB,hf] at a;calc a
def Inv.we(I:Inv X fL Z H s):∀b∈frs X.stack,H b=none:=λb a=>by
 obtain e|a:=qx.mp (I.vX b a)
 .rw[e];exact I.free
 .let#[_,o,c,_]:=I.ok.xU.mem a;calc I.base.free b o c (I.ok.g6 b a) λz=>I.ok.w6 b z a
def Inv.step{g':uk GenState}{d':Drawn}(I:Inv X fL Z H s)
 (f:∀b∈ch,(b∈X.ex\/X.s₀.heap.objs.size<=b)/\b≠X.env.locals/\(∀x c,X.env.cells.lookup x=some c->c≠b)/\∀p∈X.pn++fL,p.1≠b)
 (keep:∀b o,b≠X.env.locals->b∉X.fs->b∉ch->s.heap.get? b=some o->H b=none->h'.get? b=some o)
 (slot:∀b o,b≠X.env.locals->b∈X.fs->b∉ch->s.heap.get? b=some o->H b=none->∃sl,h'.get? b=some {o with slots:=sl}) (free:∀b o,b∉ch->s.heap.get? b=some o->H b=none->H' b=none)
 (there:∀b o,b∉ch->s.heap.get? b=some o->∃y,h'.get? b=some y)
 (tups:∀b xs,H b=@(.tup xs)->H' b=@(.tup xs)) (kh:∀b o u,H b=@(.jM o u)->H' b=@(.jM o u)) (vg:∀b C,H b=@(.ur C)->∃more,H' b=@(.ur (C++more)))
 (ns:∀m,s.heap.Ns X.env.locals m->h'.Ns X.env.locals m) (hok:y4 X.prog X.w H' h') (F:AllBare g') :
 Inv X fL Z H' {s with heap:=h',gens:=g',drawn:=d',toks:=t'}:=by
 let A:∀b o,X.s₀.heap.get? b=some o->b≠X.env.locals:=λb o e=>zc (qV (qO e) I.ok.above);let h:∀b o,X.s₀.heap.get? b=some o->b∉X.ex->b∉ch:=λb o e a t=>by
  obtain z|z:=(f b t).1
  .exact a z
  .exact absurd (qV (qO e) z) (zQ _)
 let cellK:∀x c,X.env.cells.lookup x=some c->∀v,s.heap.IsCell c v->h'.IsCell c v:=λx c e v #[o,w,hd]=>by
  let g:c∉ch:=λz=>(f c z).2.2.1 x c e rfl;by_cases hc:c∈X.fs
  .let#[sl,q]:=slot c o (I.cne x c e) hc g w (I.yt x c e);exact{_,q,hd}
  .exact{o,keep c o (I.cne x c e) hc g w (I.yt x c e),hd}
 erw[I.ok,I.os,F,{λb o e n t a=>?_,λb o e n t a=>?_,λb o e n a=>?_,λb o e a=>?_,λb xs e=>tups b xs (I.base.tups b xs e),λb o xs e=>kh b o xs (I.base.kh b o xs e),λb C e=>?_},?_,λx c e=>?_,?_,λx c e=>?_,λp E=>?_,hok,I.len]
 .exact keep b o (A b o e) t (h b o e a) (I.base.keep b o e n t a) (I.base.free b o e n a)
 .let#[sl,j]:=I.base.slot b o e n t a;let#[D,B]:=slot b _ (A b o e) t (h b o e a) j (I.base.free b o e n a);exact#[D,B]
 .let#[y,j]:=I.base.there b o e a;exact free b y (h b o e a) j (I.base.free b o e n a)
 .let#[y,j]:=I.base.there b o e a;exact there b y (h b o e a) j
 .let#[D,j]:=I.base.vg b C e;let#[G,B]:=vg b _ j;exact{D++G,by rw[B,Array.append_assoc]}
 .let#[m,D,G]:=I.loc;erw[m,ns m D,λi x v j B J=>?_];let#[u,r,l]:=G i x v j B J;erw[u,r,?_];obtain l|⟨k,c,e,z⟩:=l
  .exact .inl l
  .exact .inr {k,c,e,cellK x c e _ z}
 .let#[v,z]:=I.cell x c e;exact{v,cellK x c e v z}
 .let#[m,#[o,_,_,w,_],_]:=I.loc;exact free _ o (λz=>(f _ z).2.1 rfl) w I.free
 .let#[v,o,w,hd]:=I.cell x c e;exact free c o (λz=>(f c z).2.2.1 x c e rfl) w (I.yt x c e)
 .let#[e,n,ne,j,d]:=I.pin p E;let g:p.1∉ch:=λz=>(f p.1 z).2.2.2 p E rfl;calc{keep p.1 p.2 ne j g e n,free p.1 p.2 g e n,ne,j,d}
def Inv.un(I:Inv X fL Z H s)(u:Un X.fs [] H H' s.heap h')(hok:y4 X.prog X.w H' h'):Inv X fL Z H' {s with heap:=h',toks:=t'}:=by
 let#[m,#[o,es,j,g,r],_]:=id I.loc;let#[sl,h]:=u.any g I.free (by simp);exact I.step (g':=s.gens) (d':=s.drawn) (ch:=[]) nofun (λb o _ c _ e n=>u.keep b o e n c (by simp)) (λb o _ c _ e n=>u.slot b o e n c (by simp)) (λb o _ e n=>u.free b o e n (by simp)) (λb o _ e=>u.there b o e (by simp)) u.tups u.kh u.vg (λk hm=>by
  let#[l,d,f,a,i]:=hm;rw[g] at a;cases a;calc{_,d,f,h,i}) hok I.bare
def Inv.call{g':uk GenState}{d':Drawn}(I:Inv X fL Z H s)(u:Un (frs X.stack) ch H H' s.heap h')(hok:y4 X.prog X.w H' h')(j:AllBare g')
 (a:∀b∈ch,(b∈X.ex\/X.s₀.heap.objs.size<=b)/\b≠X.env.locals/\(∀x c,X.env.cells.lookup x=some c->c≠b)/\∀p∈X.pn++fL,p.1≠b) :
 Inv X fL Z H' {s with heap:=h',gens:=g',drawn:=d',toks:=t'}:=by
 let#[m,#[o,es,q,i,r],_]:=id I.loc;let#[sl,f]:=u.any i I.free λz=>(a _ z).2.1 rfl;exact I.step (ch:=ch) a (λb o f k hc e n=>u.keep b o e n (λz=>(qx.mp (I.vX b z)).elim f k) hc) (λb o _ _ hc e n=>u.any e n hc) (λb o hc e n=>u.free b o e n hc) (λb o hc e=>u.there b o e hc) u.tups u.kh u.vg (λt hm=>by
  let#[v,g,h,d,l]:=hm;rw[i] at d;cases d;calc{_,g,h,f,l}) hok j
def Inv.turned{it:qc}(I:Inv X fL Z H s)(k:∀b o,b≠it->s.heap.get? b=some o->h'.get? b=some o)(f:H it=none)(d:it≠X.env.locals)
 (g:it∈X.ex\/X.s₀.heap.objs.size<=it) (h:∀x c,X.env.cells.lookup x=some c->c≠it) (i:∀p∈X.pn++fL,p.1≠it):Inv X fL Z H {s with heap:=h',toks:=t'}:=by
 let a:∀b u,H b=some u->b≠it:=λb u e z=>by rw[z,f] at e;cases e
 refine I.step (g':=s.gens) (d':=s.drawn) (ch:=[it]) (λb j=>?_) (λb o _ _ hc e _=>k b o (λz=>hc (by simp[z])) e) (λb o _ _ hc e _=>{o.slots,k b o (λz=>hc (by simp[z])) e}) (λ_ _ _ _ n=>n)
  (λb o hc e=>{o,k b o (λz=>hc (by simp[z])) e}) (λ_ _ e=>e) (λ_ _ _ e=>e) (λb l e=>{#[],by rw[e];simp}) (λm hm=>?_) (λb u e=>?_) I.bare
 .have e:b=it:=by simpa using j
  subst e;exact#[g,d,h,i]
 .let#[o,es,l,t,r]:=hm;exact{o,es,l,k _ o (jD d) t,r}
 .refine(I.hok b u e).stay (λc v hc q=>k c v ?_ q) (λ_ q=>q) λ_ _ q=>q;obtain z|z:=hc
  .rw[z];exact a b u e
  .exact a c _ z
def Inv.tok(I:Inv X fL Z H s)(t:Nat):Inv X fL Z H {s with toks:=t}:=I.un (h':=s.heap) (t':=t) Un.refl I.hok
def Inv.kept(I:Inv X fL Z H s)(k:∀b u,s.heap.get? b=some u->h'.get? b=some u):Inv X fL Z H {s with heap:=h',toks:=t'}:=I.un (Un.kept k) (I.hok.kept k)
def Inv.laid(I:Inv X fL Z H s)(k:∀b u,s.heap.get? b=some u->h'.get? b=some u)(c:(!s)<=a)(new:QU X.prog X.w (upd H a o) h' a o) :
 Inv X fL Z (upd H a o) {s with heap:=h',toks:=t'}:=I.un (Un.laid k c (I.hok.fresh c)) (I.hok.laid k c new)
def Inv.write{x e:qc}(I:Inv X fL Z H s)(c:Mut (H x))(he:e=x\/H e=@(.own x))(k:∀b u,b≠e->s.heap.get? b=some u->h'.get? b=some u)(a:∃u,h'.get? e=some u)
 (new:QU X.prog X.w (upd H x o) h' x o):Inv X fL Z (upd H x o) {s with heap:=h',toks:=t'}:=I.un (Un.write c he k a) (I.hok.write c he k a new)
def Inv.kx{a:qa (qc×Obj)}(I:Inv X fL Z H s)(h:∀p∈a,s.heap.get? p.1=some p.2/\H p.1=none/\p.1≠X.env.locals/\p.1∉X.fs/\∀v,p.2.data≠.cell v):Inv X a Z H s:=
 {I.ok,I.os,I.bare,I.base,I.loc,I.cell,I.free,I.yt,λp b=>(qq.mp b).elim (λz=>I.pin p (qJ _ z)) (h p),I.hok,I.len}
def D9{N:qe}(c:N.Nodup){j:Nat}(a:N[i]?=some x)(b:N[j]?=some x):i=j:=by
 let#[f,d]:=qS.mp a;let#[g,e]:=qS.mp b;calc(List.getElem_inj c).mp (d.trans e.symm)
def Kc{E:qf}{Q:Unit->ug->Prop}(I:Inv X fL Z H s)(hN:X.N.Nodup)(hi:X.N[i]?=some x)(l:Loc X.env.scope x)(r:QL v u)
 (h:∀s',Inv X fL (Z.set i (some v)) H s'->(∃a,Heap.SameBut a s.heap s'.heap/\(a=X.env.locals\/X.env.cells.lookup x=some a))->Q .unit s') (hf:X.fn x=true\/X.env.scope.names.lookup x=some .local:=by first|calc .inl rfl|calc .inr rfl|assumption):wpAny M A (storeName X.env x u) Q E s:=by
 let#[m,R,hl]:=id I.loc;let G:(X.env.scope.kind==.class||(X.env.scope.kind==.module&&X.env.locals != X.env.globals))=false:=by rw[I.ok.kind];rfl
 let J:i< -Z:=by rw[I.len];exact(qS.mp hi).1
 let B:=I.cne;let tracked:∀{a:qc}{h':Heap},(∃o,s.heap.get? a=some o/\H a=none)->Heap.SameBut a s.heap h'->y4 X.prog X.w H h':=λ{a h'} ha f b ob e=>by
  let#[_,_,g]:=ha;calc(I.hok b ob e).stay (λc O hc q=>(f.2 c ?_).trans q) (λ_ q=>q) λ_ _ q=>q;rintro rfl;obtain rfl|hc:=hc
  .rw[g] at e;cases e
  .rw[g] at hc;cases hc
 obtain w|w:=l
 .refine wpAny_storeName_local w R (λh' F f=>?_) G;let#[L,_,_,K,_]:=id R;refine h _ {I.ok,I.os,I.bare,{λb o e n C l=>?_,λb o e n C l=>?_,I.base.free,λb o e l=>?_,I.base.tups,I.base.kh,I.base.vg},{_,F,λj y S g t T=>?_},λy c e=>?_,I.free,I.yt,λp V=>?_,tracked #[L,K,I.free] f,by simpa using I.len} {_,f,.inl rfl}
  .exact(f.2 b (zc (qV (qO e) I.ok.above))).trans (I.base.keep b o e n C l)
  .let#[sl,g]:=I.base.slot b o e n C l;exact{sl,(f.2 b (zc (qV (qO e) I.ok.above))).trans g}
  .let#[Y,g]:=I.base.there b o e l;exact{Y,(f.2 b (zc (qV (qO e) I.ok.above))).trans g}
  .by_cases D:j=i
   .subst D;rw[hi] at g;cases g;rw[List.getElem?_set_self J] at t;cases t;exact{u,r,.inl {w,by simp}}
   .rw[List.getElem?_set_ne (jD D)] at t;let#[u',r',q]:=hl j y S g t T;erw[u',r',?_];obtain⟨k,e⟩|⟨k,c,e,z⟩:=q
    .refine .inl {k,?_};have:y≠x:=λe=>D (D9 hN g (e▸hi));simp[this,e]
    .exact .inr {k,c,e,z.sameBut f (B y c e)}
  .let#[O,z]:=I.cell y c e;exact{O,z.sameBut f (B y c e)}
  .let#[e,n,ne,nf,d]:=I.pin p V;exact{(f.2 p.1 ne).trans e,n,ne,nf,d}
 .have F:X.fn x=true:=by
   obtain z|z:=hf
   .exact z
   .rw[z] at w;cases w
  let#[c,hc]:=I.ok.has x (.inl w);let#[O,z]:=I.cell x c hc;calc wpAny_storeName_cell I.ok.kind w hc z (λh' K f=>?_);let#[oc,L,N]:=id z;refine h {s with heap:=h'} {I.ok,I.os,I.bare,{λb o e n C l=>?_,λb o e n C l=>?_,I.base.free,λb o e l=>?_,I.base.tups,I.base.kh,I.base.vg},{m,R.sameBut f (jD (B x c hc)),λj y S g t T=>?_},λy P e=>?_,I.free,I.yt,λp V=>?_,tracked {oc,L,I.yt x c hc} f,by simpa using I.len} {c,f,.inr hc}
  .exact(f.2 b (zc (qV (qO e) (I.ok.cab x c F hc)))).trans (I.base.keep b o e n C l)
  .let#[sl,g]:=I.base.slot b o e n C l;exact{sl,(f.2 b (zc (qV (qO e) (I.ok.cab x c F hc)))).trans g}
  .let#[Y,g]:=I.base.there b o e l;exact{Y,(f.2 b (zc (qV (qO e) (I.ok.cab x c F hc)))).trans g}
  .by_cases D:j=i
   .subst D;rw[hi] at g;cases g;rw[List.getElem?_set_self J] at t;cases t;exact{u,r,.inr {.inl w,c,hc,K}}
   .rw[List.getElem?_set_ne (jD D)] at t;let#[u',r',q]:=hl j y S g t T;erw[u',r',?_];obtain q|⟨k,P,e,Y⟩:=q
    .exact .inl q
    .refine .inr {k,P,e,Y.sameBut f ?_};rintro rfl;exact D (D9 hN g (I.ok.inj _ _ _ e hc▸hi))
  .by_cases D:P=c
   .subst D;exact{_,K}
   .let#[Y,z2]:=I.cell y P e;exact{Y,z2.sameBut f D}
  .let#[e,n,ne,nf,d]:=I.pin p V;erw[(f.2 p.1 ?_).trans e,n,ne,nf,d];intro q;rw[q,L] at e;let D:oc=p.2:=qT e;calc d O (by rw[<-D];calc N)
def C0{E:qf}{Q:Unit->ug->Prop}(I:Inv X fL Z H s)(a:X.N.Nodup)(hi:X.N[i]?=some x)(b:Loc X.env.scope x)(r:QL v u)
 (h:∀s',Inv X fL (Z.set i (some v)) H s'->Q .unit s') (hf:X.fn x=true\/X.env.scope.names.lookup x=some .local:=by first|calc .inl rfl|calc .inr rfl|assumption):wpAny M A (storeName X.env x u) Q E s:=
 Kc I a hi b r (λs' c _=>h s' c) hf
def Inv.call'{s':ug}(I:Inv X fL Z H s)(d:s'.os=s.os)(u:Un (frs X.stack) ch H H' s.heap s'.heap)(hok:y4 X.prog X.w H' s'.heap)(f:AllBare s'.gens)
 (a:∀b∈ch,(b∈X.ex\/X.s₀.heap.objs.size<=b)/\b≠X.env.locals/\(∀x c,X.env.cells.lookup x=some c->c≠b)/\∀p∈X.pn++fL,p.1≠b):Inv X fL Z H' s':=by
 let#[h',g',d',t',g]:=s';let e:g=s.os:=d;subst e;calc I.call (g':=g') (t':=t') (d':=d') u hok f a
end
abbrev XK:=qd->uf qc->Hp->Prop
abbrev St:=qa (uf V)
variable {Z:St}
abbrev VK:=V->Hp->Prop
variable {Q:VK}
abbrev TE:=St->Hp->VK->Prop
abbrev TT:=St->Hp->(Bool->Hp->Prop)->Prop
abbrev TA:=St->Hp->(qa V->Hp->Prop)->Prop
structure VL where
 nx:St->Hp->Prop
 rt:VK
 bk:St->Hp->Prop:=λ_ _=>False
 ct:St->Hp->Prop:=λ_ _=>False
abbrev TS:=VL->St->Hp->Prop
inductive EP(X:Cx)(fL:qa (qc×Obj))(Z:St)(Q:VK)(u:qd)(s':ug):Prop
 |mk:∀v H',Inv X fL Z H' s'->QL v u->Q v H'->EP X fL Z Q u s'
inductive TP(X:Cx)(fL:qa (qc×Obj))(Z:St)(Q:Bool->Hp->Prop)(b:Bool)(s':ug):Prop
 |mk:∀H',Inv X fL Z H' s'->Q b H'->TP X fL Z Q b s'
inductive AP(X:Cx)(fL:qa (qc×Obj))(Z:St)(Q:qa V->Hp->Prop)(us:qg)(s':ug):Prop
 |mk:∀vs H',Inv X fL Z H' s'->QF vs us->Q vs H'->AP X fL Z Q us s'
inductive SPn(X:Cx)(fL:qa (qc×Obj))(N:St->Hp->Prop)(s':ug):Prop
 |mk:∀Z' H',Inv X fL Z' H' s'->N Z' H'->SPn X fL N s'
inductive SPr(X:Cx)(fL:qa (qc×Obj))(N:VK)(u:qd)(s':ug):Prop
 |mk:∀v Z' H',Inv X fL Z' H' s'->QL v u->N v H'->SPr X fL N u s'
def SP(X:Cx)(fL:qa (qc×Obj))(D:VL)(f:Flow)(s':ug):Prop:=
 match f with
 |.next=>SPn X fL D.nx s'
 |.brk=>SPn X fL D.bk s'
 |.cont=>SPn X fL D.ct s'
 |.ret u=>SPr X fL D.rt u s'
def PE(X:Cx)(e:Expr)(t:TE):Prop:=
 ∀(fL:qa (qc×Obj))(s:ug)(Z:St)(H:Hp)(Q:VK),Inv X fL Z H s->t Z H Q->wpAny (model X.prog X.w) X.A (eval e X.env) (EP X fL Z Q) X.xe s
def PT(X:Cx)(e:Expr)(t:TT):Prop:=
 ∀(fL:qa (qc×Obj))(s:ug)(Z:St)(H:Hp)(Q:Bool->Hp->Prop),Inv X fL Z H s->t Z H Q->wpAny (model X.prog X.w) X.A (isTrue e X.env (eval e X.env)) (TP X fL Z Q) X.xe s
def PW(X:Cx)(e:Expr)(t:TT):Prop:=
 ∀(whole:Sem qd)(fL:qa (qc×Obj))(s:ug)(Z:St)(H:Hp)(Q:Bool->Hp->Prop),Inv X fL Z H s->t Z H Q->wpAny (model X.prog X.w) X.A (isTrue e X.env whole) (TP X fL Z Q) X.xe s
def PW.pt{t:TT}(h:PW X e t):PT X e t:=h _
def PA(X:Cx)(es:qa Expr)(t:TA):Prop:=
 ∀(pos:Pos)(fL:qa (qc×Obj))(s:ug)(Z:St)(H:Hp)(Q:qa V->Hp->Prop),Inv X fL Z H s->t Z H Q->wpAny (model X.prog X.w) X.A (spliced (backTo pos (starEach es X.env))) (AP X fL Z Q) X.xe s
def PS(X:Cx)(st:Stmt)(t:TS):Prop:=
 ∀(fL:qa (qc×Obj))(s:ug)(Z:St)(H:Hp)(D:VL),Inv X fL Z H s->t D Z H->wpAny (model X.prog X.w) X.A (exec st X.env) (SP X fL D) X.xe s
def vn(X:Cx)(st:qa Stmt)(t:TS):Prop:=
 ∀(fL:qa (qc×Obj))(s:ug)(Z:St)(H:Hp)(D:VL),Inv X fL Z H s->t D Z H->wpAny (model X.prog X.w) X.A (execs st X.env) (SP X fL D) X.xe s
def jf{α:Type}{t:Sem α}{Q Q':α->ug->Prop}{E:qf}(h:wpAny M A t Q E s)(b:∀a s,Q a s->Q' a s):wpAny M A t Q' E s:=jy h b λ_ _ x=>x
section
variable {X:Cx}
inductive NN(i:Nat)(Z:St)(H:Hp)(Q:VK):Prop
 |mk:∀v,Z[i]?=some (some v)->Q v H->NN i Z H Q
def aP(i:Nat):TE:=λZ H Q=>NN i Z H Q
def tC(v:V):TE:=λ_ H Q=>Q v H
def bj(f:X.N[i]?=some x)(g:Vis X.env.scope x)(hd:(x==("__debug__":qb))=false:=by decide)(d:(x==("__classdict__":qb))=false:=by decide):PE X (.Name x pos) (aP i):=by
 intro fL s Z H Q I h;let#[v,e,h]:=h;let#[m,j,k]:=I.loc;let#[u,r,l]:=k i x v f e g;let fin:EP X fL Z Q u s:=#[v,H,I,r,h];obtain⟨b,hm⟩|⟨b,c,hc,a⟩:=l
 .exact wpAny_Name (wpAny_loadName_local I.ok.kind b j hm fin) hd
 .rcases b with b|b
  .exact wpAny_Name (wpAny_loadName_cell I.ok.kind b hc a fin) hd
  .exact wpAny_Name (wpAny_loadName_free I.ok.kind b hc a fin d) hd
def Qf{i j pos}:PE X (.Constant (.int i) j pos) (tC (.int i)):=λ_ _ _ H _ I h=>wpAny_Constant_int {.int i,H,I.tok _,{0},h}
def Y1{b j pos}:PE X (.Constant (.bool b) j pos) (tC (.bl b)):=λ_ _ _ H _ I h=>Constant_bool {.bl b,H,I,U,h}
def UO{j pos}:PE X (.Constant .none j pos) (tC .non):=λ_ _ _ H _ I h=>Constant_none {.non,H,I,U,h}
def QC{x j pos}:PE X (.Constant (.str x) j pos) (tC (.str x)):=λ_ _ _ H _ I h=>Calls.Constant_str {.str x,H,I.tok _,{0},h}
def Gl(X:Cx)(x:qb):Prop:=X.env.kindOf x=some .globalImplicit
def XS{E:qf}{Q:qf}(I:Inv X fL Z H s)(a:Gl X x)(hm:X.mg x=some u)(h:Q u s)
 (hd:(x==("__debug__":qb))=false:=by decide):wpAny (model X.prog X.w) X.A (eval (.Name x pos) X.env) Q E s:=
 Calls.Name_function_global I.ok.kind a (Calls.loadGlobal_global (I.ok.glob<|I.mod.glob.keeps I.bk) hm h) hd
def Xm{E:qf}{Q:qf}(I:Inv X fL Z H s)(a:Gl X x)(hm:X.mg x=none)(b:bootBuiltins x=some u)(h:Q u s)
 (c:x≠"__name__":=by decide) (hd:(x==("__debug__":qb))=false:=by decide):wpAny (model X.prog X.w) X.A (eval (.Name x pos) X.env) Q E s:=by
 let#[f,d,e]:=I.mod.blt;calc Calls.Name_function_global I.ok.kind a (Calls.loadGlobal_builtin (I.ok.glob<|I.mod.glob.keeps I.bk) hm (I.ok.blt<|d.keeps I.bk) ((e x c).trans b) h) hd
def Su(a:Gl X x)(hm:X.mg x=some u)(r:QL v u)(hd:(x==("__debug__":qb))=false:=by decide):PE X (.Name x pos) (tC v):=
 λ_ _ _ H _ I h=>XS I a hm #[v,H,I,r,h] hd
def YX(a:Gl X x)(hm:X.mg x=none)(b:bootBuiltins x=some u)(r:QL v u)(c:x≠"__name__":=by decide)(hd:(x==("__debug__":qb))=false:=by decide):PE X (.Name x pos) (tC v):=
 λ_ _ _ H _ I h=>Xm I a hm b #[v,H,I,r,h] c hd
variable {a b:Expr}{ta tb:TE}{pos:Pos}
def PC(X:Cx)(op:CmpOp)(a b:Expr)(t:TE):Prop:=
 ∀(fL:qa (qc×Obj))(s:ug)(Z:St)(H:Hp)(Q:VK),Inv X fL Z H s->t Z H Q ->
  wpAny (model X.prog X.w) X.A (eval a X.env) (λv c=>wpAny (model X.prog X.w) X.A (eval b X.env) (λu d=>wpAny (model X.prog X.w) X.A (compareOp op v u) (EP X fL Z Q) X.xe d) X.xe c) X.xe s
inductive c9(Q:(Bool->Hp->Prop))(x:V)(H1:Hp):Prop
 |mk:∀c,x=.bl c->Q c H1->c9 Q x H1
def tB(t:TE):TT:=λZ H Q=>t Z H λx H1=>c9 Q x H1
def Ux{t:TE}(h:PC X op a b t)(e:behindInMarks op b=false:=by first|calc nobehind _ ∅ ∅|rfl):PT X (.Compare a [op] [b] pos) (tB t):=by
 intro fL s Z H Q I hw;calc wpAny_isTrue_Compare1 (jf (h fL s Z H _ I hw) λv s1 e=>jf e λu s2 f=>jf f λc s3 #[x,H1,g,i,j]=>?_) e;let#[d,U,q]:=j;cases i;calc zY #[H1,g,q]
def YD{t:TE}(h:PE X e t)(he:∀whole,isTrue e X.env whole=(do let v <-whole;standAt e.pos;holding [v] (truthy v)):=by intro _;rfl):PT X e (tB t):=by
 intro fL s Z H Q I hw;calc isTrue_plain (jf (h fL s Z H _ I hw) λv s1 #[x,H1,a,b,c]=>?_) (he _);let#[d,U,q]:=c;cases b;calc zY #[H1,a,q]
variable {tA tB':TT}{rest:qa Expr}
def tAnd(t u:TT):TT:=λZ H Q=>t Z H λc H1=>if c=true then u Z H1 Q else Q false H1
def tOr(t u:TT):TT:=λZ H Q=>t Z H λc H1=>if c=true then Q true H1 else u Z H1 Q
def tNot(t:TT):TT:=λZ H Q=>t Z H λc H1=>Q (!(c)) H1
def WL(b:PT X a tA):PW X (.BoolOp .And [a] pos) tA:=by
 intro d fL s Z H Q I h;refine isTrue_and (jf (b fL s Z H Q I h) λc s1 e=>?_)
 cases c with
 |true=>calc isTrue_and_nil e
 |false=>calc e
def V2(b:PT X a tA):PW X (.BoolOp .Or [a] pos) tA:=by
 intro d fL s Z H Q I h;refine isTrue_or (jf (b fL s Z H Q I h) λc s1 e=>?_)
 cases c with
 |false=>calc isTrue_or_nil e
 |true=>calc e
def Kf(f:PT X a tA)(g:PW X (.BoolOp .And (b::rest) pos) tB'):PW X (.BoolOp .And (a::b::rest) pos) (tAnd tA tB'):=by
 intro i fL s Z H Q I h;refine isTrue_and (jf (f fL s Z H _ I h) λc s1 #[H1,d,e]=>?_)
 cases c with
 |true=>calc g i fL s1 Z H1 Q d e
 |false=>exact#[H1,d,e]
def We(f:PT X a tA)(g:PW X (.BoolOp .Or (b::rest) pos) tB'):PW X (.BoolOp .Or (a::b::rest) pos) (tOr tA tB'):=by
 intro i fL s Z H Q I h;refine isTrue_or (jf (f fL s Z H _ I h) λc s1 #[H1,d,e]=>?_)
 cases c with
 |true=>exact#[H1,d,e]
 |false=>calc g i fL s1 Z H1 Q d e
def YQ(b:PT X a tA):PT X (.UnaryOp .Not a pos) (tNot tA):=by
 intro fL s Z H Q I h;calc isTrue_not (jf (b fL s Z H (λc H1=>Q (!(c)) H1) I h) λc s1 #[H1,d,e]=>#[H1,d,e])
inductive Ig(tb:TE)(Z:St)(Q:VK)(x:V)(H1:Hp):Prop
 |mk:∀c,x=.bl c->(if c=true then tb Z H1 Q else Q (.bl false) H1)->Ig tb Z Q x H1
def dm(ta tb:TE):TE:=λZ H Q=>ta Z H λx H1=>Ig tb Z Q x H1
inductive NO(tb:TE)(Z:St)(Q:VK)(x:V)(H1:Hp):Prop
 |mk:∀c,x=.bl c->(if c=true then Q (.bl true) H1 else tb Z H1 Q)->NO tb Z Q x H1
def tOrV(ta tb:TE):TE:=λZ H Q=>ta Z H λx H1=>NO tb Z Q x H1
inductive HX(Q:VK)(x:V)(H1:Hp):Prop
 |mk:∀c,x=.bl c->Q (.bl (!(c))) H1->HX Q x H1
def cW(ta:TE):TE:=λZ H Q=>ta Z H λx H1=>HX Q x H1
def Vl{op}{t:TE}(h:PE X a t):PE X (.BoolOp op [a] pos) t:=λfL s Z H Q I hw=>BoolOp_one (h fL s Z H Q I hw)
def UP(f:PE X a ta)(g:PE X (.BoolOp .And (b::rest) pos) tb):PE X (.BoolOp .And (a::b::rest) pos) (dm ta tb):=by
 intro fL s Z H Q I h;calc BoolOp_and (jf (f fL s Z H _ I h) λv s1 #[x,H1,e,i,d]=>?_);let#[c,U,d]:=d;cases i;refine zY ?_
 cases c with
 |true=>calc g fL s1 Z H1 Q e d
 |false=>calc{.bl false,H1,e,U,d}
def OV(f:PE X a ta)(g:PE X (.BoolOp .Or (b::rest) pos) tb):PE X (.BoolOp .Or (a::b::rest) pos) (tOrV ta tb):=by
 intro fL s Z H Q I h;calc BoolOp_or (jf (f fL s Z H _ I h) λv s1 #[x,H1,e,i,d]=>?_);let#[c,U,d]:=d;cases i;refine zY ?_
 cases c with
 |false=>calc g fL s1 Z H1 Q e d
 |true=>calc{.bl true,H1,e,U,d}
def bq(d:PE X a ta):PE X (.UnaryOp .Not a pos) (cW ta):=by
 intro fL s Z H Q I h;calc UnaryOp_ (jf (d fL s Z H _ I h) λv s1 #[x,H1,e,f,b]=>?_);let#[c,U,b]:=b;cases f;calc not_of (zY {.bl (!(c)),H1,e,U,b})
def tIf(t:TT)(ta tb:TE):TE:=λZ H Q=>t Z H λc H1=>if c=true then ta Z H1 Q else tb Z H1 Q
def XI(hc:PT X c tA)(g:PE X a ta)(i:PE X b tb):PE X (.IfExp c a b pos) (tIf tA ta tb):=by
 intro fL s Z H Q I h;refine wpAny_IfExp (jf (hc fL s Z H _ I h) λd s1 #[H1,e,f]=>?_)
 cases d with
 |true=>calc g fL s1 Z H1 Q e f
 |false=>calc i fL s1 Z H1 Q e f
end
def zm(K:Frag)(H:Hp)(a:qc)(xs:qa V):Prop:=
 Rd H a (.lst xs) \/
  ∃(o:Obj)(its:uk qd)(n:Nat),K.lookup a=some o/\o.cls=.type "list"/\o.dict=none/\o.data=.seq its n/\its.size<=sizeLine/\QF xs its.toList
def z5(K:Frag)(H:Hp)(a:qc)(xs:qa V):Prop:=
 Rd H a (.tup xs) \/
  ∃(o:Obj)(its:uk qd)(n:Nat),K.lookup a=some o/\o.cls=.type "tuple"/\o.data=.seq its n/\its.size<=sizeLine/\QF xs its.toList
def absV:qd->uf V
 |.none=>some .non
 |.bool b=>@(.bl b)
 |.int i _=>@(.int i)
 |.str x _=>@(.str x)
 |.bytes b _=>@(.wk b)
 |.float b _=>@(.flt b)
 |.ref a=>@(.ref a)
 |.type n=>@(.ty n)
 |_=>none
def QL.abs{x:V}(r:QL x u):absV u=some x:=by
 cases x with
 |non=>cases r;rfl
 |bl _=>cases r;rfl
 |int _=>let#[t,U]:=r;rfl
 |str _=>let#[t,U]:=r;rfl
 |wk _=>let#[t,U]:=r;rfl
 |flt _=>let#[t,U]:=r;rfl
 |ref _=>cases r;rfl
 |ty _=>cases r;rfl
def QL.inj{x:V}(r:QL x u)(q:QL y u):x=y:=qT (r.abs.symm.trans q.abs)
def QF.inj{ys:qa V}(h:QF xs us)(h':QF ys us):xs=ys:=by
 induction h generalizing ys with
 |nil=>cases h';rfl
 |cons r t a=>cases h' with
  |cons b t'=>rw[r.inj b,a t']
section
variable {X:Cx}{fL:qa (qc×Obj)}{Z:St}{H:Hp}{s:ug}{a:qc}{xs ys:qa V}
def zm.of{K:Frag}(h:H a=@(.lst xs)):zm K H a xs:=.inl (.inl h)
def z5.of{K:Frag}(h:H a=@(.tup xs)):z5 K H a xs:=.inl (.inl h)
def Inv.list(I:Inv X fL Z H s)(h:zm X.K H a xs):∃its:qg,QF xs its/\PlainL s.heap a its.toArray/\-xs<=sizeLine:=by
 obtain h|⟨o,its,n,b,hc,hd,c,hz,r⟩:=h
 .let#[z,its,n,r,e]:=h.ok I.hok;exact{its,r,{_,n,e,U,7},z}
 .erw[its.toList,r,{o,n,I.xS a o b,hc,hd,by simpa using c},?_];let e:=-r;simp only[zk] at e;omega
def Inv.tuple(I:Inv X fL Z H s)(h:z5 X.K H a xs):∃its:qg,QF xs its/\IsTup s.heap a its.toArray/\-xs<=sizeLine:=by
 obtain h|⟨o,its,n,b,hc,c,hz,r⟩:=h
 .let#[z,its,r,p]:=h.ok I.hok;exact#[its,r,p,z]
 .erw[its.toList,r,{o,I.xS a o b,hc,n,by simpa using c},?_];let e:=-r;simp only[zk] at e;omega
def Inv.vJ(I:Inv X fL Z H s)(h:zm X.K H a xs)(h':zm X.K H a ys):xs=ys:=by
 let#[its,r,#[o,n,e,_,_,d],_]:=I.list h;let#[its',c,#[g,i,b,_,_,d'],_]:=I.list h';rw[e] at b;cases b;rw[d] at d'
 injection d' with f _
 have:its=its':=by simpa using zp Array.toList f
 subst this;calc r.inj c
end
abbrev Cx.wish(X:Cx)(E:qf):Cx:={X with xe:=E}
abbrev Cx.uw(X:Cx):Cx:=X.wish λ_ _=>False
def Cx.Ok.wish(ok:X.Ok)(E:qf):(X.wish E).Ok:=
 #[ok.mod,ok.kind,ok.glob,ok.blt,ok.above,ok.inj,ok.has,ok.cab,ok.hd,ok.frames,ok.stk,ok.g8,ok.bs,ok.gr,ok.w2,ok.w6,ok.xU,ok.g6]
def Cx.Ok.y0{E:qf}(ok:(X.wish E).Ok):X.Ok:=
 #[ok.mod,ok.kind,ok.glob,ok.blt,ok.above,ok.inj,ok.has,ok.cab,ok.hd,ok.frames,ok.stk,ok.g8,ok.bs,ok.gr,ok.w2,ok.w6,ok.xU,ok.g6]
section
variable {X:Cx}{fL:qa (qc×Obj)}{Z:St}{H:Hp}{s:ug}{E:qf}
def Inv.wish(I:Inv X fL Z H s)(E:qf):Inv (X.wish E) fL Z H s:={I.ok.wish E,I.os,I.bare,I.base,I.loc,I.cell,I.free,I.yt,I.pin,I.hok,I.len}
def Inv.y0(I:Inv (X.wish E) fL Z H s):Inv X fL Z H s:=#[I.ok.y0,I.os,I.bare,I.base,I.loc,I.cell,I.free,I.yt,I.pin,I.hok,I.len]
def SP.y0{D:VL}{f:Flow}{s':ug}(h:SP (X.wish E) fL D f s'):SP X fL D f s':=by
 cases f with
 |next=>let#[a,H',I,q]:=h;exact#[a,H',I.y0,q]
 |brk=>let#[a,H',I,q]:=h;exact#[a,H',I.y0,q]
 |cont=>let#[a,H',I,q]:=h;exact#[a,H',I.y0,q]
 |ret u=>let#[v,a,H',I,r,q]:=h;exact#[v,a,H',I.y0,r,q]
def vn.uw{st:qa Stmt}{t:TS}(h:vn X.uw st t):vn X st t:=λfL s Z H D I hw=>
 jy (h fL s Z H D (I.wish _) hw) (λ_ _ q=>q.y0) λ_ _ z=>False.elim z
end
section
variable {X:Cx}{st:Stmt}{rest:qa Stmt}{t u:TS}{e:Expr}{te:TE}{pos:Pos}
def NP:TS:=λD Z H=>D.nx Z H
def VB(t u:TS):TS:=λD Z H=>t {D with nx:=u D} Z H
def Qu:vn X [] NP:=λ_ _ Z H _ I h=>v9 #[Z,H,I,h]
def Qc(a:PS X st t)(b:vn X rest u):vn X (st::rest) (VB t u):=by
 intro fL s Z H D I h;refine wpAny_execs_cons (jf (a fL s Z H {D with nx:=u D} I h) λf s1 q=>?_)
 cases f with
 |next=>
  let#[c,H',d,q]:=q;calc b fL s1 c H' D d q
 |ret v=>calc q
 |brk=>calc q
 |cont=>calc q
def Qe(a:PS X st t):vn X [st] t:=by
 intro fL s Z H D I h;refine wpAny_execs_cons (jf (a fL s Z H D I h) λf s1 q=>?_)
 cases f with
 |next=>calc v9 q
 |ret v=>calc q
 |brk=>calc q
 |cont=>calc q
def Inv.quiet(I:Inv X fL Z H s):interactive X.env=false:=by simp[interactive,I.ok.kind]
def c4(te:TE):TS:=λD Z H=>te Z H λ_ H1=>D.nx Z H1
def Qq(he:PE X e te)(a:swapsWith e none pos.line X.env=pure false:=by rfl):PS X (.Expr e pos) (c4 te):=by
 intro fL s Z H D I h;calc wpAny_Expr_any (jf (he fL s Z H _ I h) λv s1 #[x,H1,b,d,c]=>#[Z,H1,b,c]) I.quiet a
def tRet(te:TE):TS:=λD Z H=>te Z H D.rt
def Qm(he:PE X e te):PS X (.Return (some e) pos) (tRet te):=by
 intro fL s Z H D I h;calc wpAny_Return_some (jf (he fL s Z H _ I h) λv s1 #[x,H1,a,b,c]=>#[x,Z,H1,a,b,c])
def cT:TS:=λD _ H=>D.rt .non H
def Lg:PS X (.Return none pos) cT:=λ_ _ Z H _ I h=>wpAny_Return_none {.non,Z,H,I,U,h}
def VM(c:TT)(t u:TS):TS:=λD Z H=>c Z H λb H1=>if b=true then t D Z H1 else u D Z H1
def QE{a b:qa Stmt}{e:TT}(hc:PT X c e)(i:vn X a t)(j:vn X b u):PS X (.If c a b pos) (VM e t u):=by
 intro fL s Z H D I h;refine wpAny_If (jf (hc fL s Z H _ I h) λd s1 #[H1,f,g]=>?_)
 cases d with
 |true=>calc i fL s1 Z H1 D f g
 |false=>calc j fL s1 Z H1 D f g
def NQ:TS:=λ_ _ _=>False
def YE:PS X st NQ:=λ_ _ _ _ _ _ h=>h.elim
def WM{a:qa Stmt}:vn X a NQ:=λ_ _ _ _ _ _ h=>h.elim
end
abbrev TG:=V->St->Hp->(St->Hp->Prop)->Prop
variable {g:TG}
abbrev uK:=qa V->St->Hp->(St->Hp->Prop)->Prop
def PG(X:Cx)(target:Expr)(t:TG):Prop:=
 ∀(fL:qa (qc×Obj))(s:ug)(Z:St)(H:Hp)(v:V)(u:qd)(Q:St->Hp->Prop),Inv X fL Z H s->QL v u->t v Z H Q ->
  wpAny (model X.prog X.w) X.A (assign target X.env u) (λ_ s'=>∃a H',Inv X fL a H' s'/\Q a H') X.xe s
def PGs(X:Cx)(ts:qa Expr)(t:uK):Prop:=
 ∀(fL:qa (qc×Obj))(s:ug)(Z:St)(H:Hp)(vs:qa V)(us:qg)(Q:St->Hp->Prop),Inv X fL Z H s->QF vs us->t vs Z H Q ->
  wpAny (model X.prog X.w) X.A (assignInOrder ((assignEach ts X.env).map (·.2)) us) (λ_ s'=>∃a H',Inv X fL a H' s'/\Q a H') X.xe s
abbrev cA:=V->V->V->Hp->(Hp->Prop)->Prop
def fH(X:Cx)(t:cA):Prop:=
 ∀(fL:qa (qc×Obj))(s:ug)(Z:St)(H:Hp)(o i v:V)(a b u:qd)(Q:Hp->Prop),Inv X fL Z H s->QL o a->QL i b->QL v u->t o i v H Q ->
  wpAny (model X.prog X.w) X.A (setItem a b u) (λ_ s'=>∃H',Inv X fL Z H' s'/\Q H') X.xe s
section
variable {X:Cx}{pos:Pos}
def Q9(i:Nat):TG:=λv Z H Q=>Q (Z.set i (some v)) H
def QX(a:X.N.Nodup)(hi:X.N[i]?=some x:=by rfl)(b:Loc X.env.scope x:=by first|calc Or.inl rfl|calc Or.inr rfl)(hf:X.fn x=true\/X.env.scope.names.lookup x=some .local:=by first|calc .inl rfl|calc .inr rfl|assumption):PG X (.Name x pos) (Q9 i):=by
 intro fL s Z H v u Q I r h;calc wpAny_assign_Name (C0 I a hi b r (λs' c=>{_,H,c,h}) hf)
def fu:uK:=λvs Z H Q=>vs=[]/\Q Z H
def Rc(t:TG)(u:uK):uK:=λvs Z H Q=>∃v r,vs=v::r/\t v Z H λa H'=>u r a H' Q
def Ll:PGs X [] fu:=by
 intro fL s Z H vs us Q I r h;let#[e,h]:=h;subst e;cases r;calc assignInOrder_nil #[Z,H,I,h]
def XH{es:qa Expr}{t:TG}{u:uK}(a:PG X e t)(b:PGs X es u)
 (c:(assignEach (e::es) X.env).map (·.2)=assign e X.env::(assignEach es X.env).map (·.2):=by rfl):PGs X (e::es) (Rc t u):=by
 intro fL s Z H vs us Q I r h;let#[v,k,d,h]:=h;subst d
 cases r with
 |cons r f=>
  rw[c];calc assignInOrder_cons (jf (a fL s Z H _ _ _ I r h) λ_ s1 #[g,H1,i,j]=>?_);calc b fL s1 g H1 _ _ Q i f j
def fm(K:Frag)(n:Nat)(t:uK):TG:=λv Z H Q=>∃a xs,v=.ref a/\z5 K H a xs/\-xs=n/\t xs Z H Q
def OT{es:qa Expr}{k:Nat}{t:uK}(hc:X.calm=true)(h:PGs X es t)
 (f:-(assignEach es X.env)=n:=by rfl) (c:(assignEach es X.env).findIdx? (·.1)=none:=by rfl):PG X (.Tuple es k pos) (fm X.K n t):=by
 intro fL s Z H v u Q I r hw;let#[a,xs,g,i,j,hw]:=hw;subst g;cases r;let#[its,d,l,hz]:=I.tuple i;calc assign_Tuple_tuple (I.ok.hd hc) l (by simp[f,<-j,d.length]) c λh' m=>?_;let p:Inv X fL Z H {s with heap:=h'}:=I.kept (t':=s.toks) λb o e=>m b o (zc (qO e)) e;calc h fL _ Z H xs _ Q p (by simpa using d) hw
def gSub(to a:TE)(t:cA):TG:=λv Z H Q=>to Z H λo H1=>a Z H1 λi b=>t o i v b λc=>Q Z c
def FK{o i:Expr}{to c:TE}{t:cA}(d:PE X o to)(hi:PE X i c)(e:fH X t)
 (f:∀v,assign (.Subscript o i pos) X.env v=(do
   let a <-holding [v] (eval o X.env)
   let b <-holding [v,a] (eval i X.env)
   standAt pos
   holding [v,a,b] (setItem a b v)
   release [v,a,b] []):=by intro _;rfl):PG X (.Subscript o i pos) (gSub to c t):=by
 intro fL s Z H v u Q I r h;rw[f];calc qi (zL (jf (d fL s Z H _ I h) λa s1 #[x,H1,g,j,k]=>?_));calc qi (zL (jf (hi fL s1 Z H1 _ g k) λb s2 #[y,l,m,n,p]=>?_));calc qi (gT (qi (zL (jf (e fL s2 Z l x y v a b u _ m j n r p) λ_ s3 #[q,w,z]=>?_))));calc wpAny_release #[Z,q,w,z]
def Fn(a:TE)(g:TG):TS:=λD Z H=>a Z H λx H1=>g x Z H1 D.nx
def FE{a:TE}(he:PE X e a)(b:PG X tg g)(c:swapsWithSole [tg] e pos.line X.env=pure false:=by rfl)(hw:swappedStores [tg] e X.env=pure none:=by rfl)
 (d:(assignEach [tg] X.env).map (·.2)=[assign tg X.env]:=by rfl):PS X (.Assign [tg] e pos) (Fn a g):=by
 intro fL s Z H D I h;calc wpAny_Assign_stores (jf (he fL s Z H _ I h) λv s1 #[x,H1,f,i,j]=>?_) c hw;rw[d];calc jf (b fL s1 Z H1 x v _ f i j) λ_ s2 #[k,l,m,n]=>#[k,l,m,n]
def Qr{a:TE}{pos':Pos}(b:X.N.Nodup)(he:PE X e a)(hi:X.N[i]?=some x:=by rfl)(c:Loc X.env.scope x:=by first|calc Or.inl rfl|calc Or.inr rfl)(d:swapsWith e (some (.Name x pos')) pos.line X.env=pure false:=by rfl)(hf:X.fn x=true\/X.env.scope.names.lookup x=some .local:=by first|calc .inl rfl|calc .inr rfl|assumption) :
 PS X (.Assign [.Name x pos'] e pos) (Fn a (Q9 i)):=by
 intro fL s Z H D I h;calc wpAny_Assign_Name (jf (he fL s Z H _ I h) λv s1 #[y,H1,f,g,j]=>?_) d;calc C0 f b hi c g (λs2 k=>{_,H1,k,j}) hf
end
section
variable {X:Cx}{pos:Pos}
inductive CS(c:TT)(tb:TS)(D:VL)(Z:St)(H:Hp):Prop
 |mk:∀W:Nat->St->Hp->Prop,(∃m,W m Z H)->(∀m Z H,W m Z H->c Z H λb H1=>if b=true then ∃N:St->Hp->Prop,(∀Z' H',N Z' H'->∃m',m'<m/\W m' Z' H')/\tb {D with nx:=N,ct:=N,bk:=D.nx} Z H1 else D.nx Z H1)->CS c tb D Z H
def aO(c:TT)(tb:TS):TS:=λD Z H=>CS c tb D Z H
def DK{o:TT}{tb:TS}(p:PassesOwn (model X.prog X.w) X.A X.env X.xe)(hc:PT X c o)(w:vn X body tb):PS X (.While c body [] pos) (aO o tb):=by
 intro fL s Z H D I h;let#[W,#[m0,x],turn]:=h;calc wpAny_While (codeAny_whileLoop (λn s'=>∃q H',Inv X fL q H' s'/\W n q H') ?_ m0 #[Z,H,I,x]);rintro n s1 ⟨e,H1,y,z⟩;refine yh p (jf (hc fL s1 e H1 _ y (turn n e H1 z)) λb s2 #[r,t,g]=>?_)
 cases b with
 |true=>
  let#[N,u,g]:=g;rw[qE rfl];refine yh p (jf (w fL s2 e r _ t g) λf s3 i=>?_)
  cases f with
  |next=>
   let#[a,d,j,k]:=i;let#[l,hm,m]:=u a d k;exact#[l,hm,a,d,j,m]
  |cont=>
   let#[a,d,j,k]:=i;let#[l,hm,m]:=u a d k;exact#[l,hm,a,d,j,m]
  |brk=>calc i
  |ret v=>calc i
 |false=>
  rw[qC qF];calc v9 #[e,r,t,g]
end
structure It where
 go:Nat->Hp->Prop
 yld:Nat->Hp->V->Hp->Prop
 stop:Nat->Hp->Prop
def AI(X:Cx)(fL:qa (qc×Obj))(H:Hp)(b:qc):Prop:=
 H b=none/\b≠X.env.locals/\b∉X.fs/\(b∈X.ex\/X.s₀.heap.objs.size<=b)/\(∀x c,X.env.cells.lookup x=some c->c≠b)/\∀p∈X.pn++fL,p.1≠b
def Inv.vz{H':Hp}(I:Inv X fL Z H s)(a:(!s)<=b)(d:H' b=none):AI X fL H' b:=by
 erw[d,yG (qV I.lt a),I.nofs a,.inr (qQ I.sz a),λx c e z=>?_,λp f z=>?_]
 .let#[v,q]:=I.cell x c e;exact absurd (qV q.lt (z<|a)) (zQ _)
 .exact absurd (qV (qO (I.pin p f).1) (z<|a)) (zQ _)
structure HG(P:uh)(w:ui)(K:Frag)(tg:Expr)(J:It)(fp:qa qc)(it:qc)(tn:Nat->Heap->Prop):Prop where
 mem:it∈fp
 obj:∀i h,tn i h->∀b∈fp,∃o,h.get? b=some o/\∀v,o.data≠.cell v
 keep:∀i h h',tn i h->(∀b∈fp,∀o,h.get? b=some o->h'.get? b=some o)->tn i h'
 item:∀(X:Cx),X.prog=P->X.w=w->X.K=K->X.calm=true->∀(i:Nat)(fL:qa (qc×Obj))(s:ug)(Z:St)(H:Hp)(E:qf),Inv X fL Z H s->(∀b∈fp,AI X fL H b)->tn i s.heap->J.go i H ->
  wpAny (model P w) X.A (pyNext (.ref it)) (λr s1=>∃u,r=some u /\
   wpAny (model P w) X.A (letOwnedTupleGo tg (.ref it) u) (λ_ s2=>∃x H',Inv X fL Z H' s2/\QL x u/\J.yld i H x H'/\tn (i+1) s2.heap/\∀b∈fp,H' b=none) E s1) E s
 done:∀(X:Cx),X.prog=P->X.w=w->X.K=K->X.calm=true->∀(i:Nat)(fL:qa (qc×Obj))(s:ug)(Z:St)(H:Hp)(E:qf),Inv X fL Z H s->(∀b∈fp,AI X fL H b)->tn i s.heap->J.stop i H ->
  wpAny (model P w) X.A (pyNext (.ref it)) (λr s1=>r=none/\Inv X fL Z H s1) E s
 self:∀(A:uj)(i:Nat)(s:ug)(Q:qf)(E:qf),tn i s.heap->Q (.ref it) s->wpAny (model P w) A (pyIter (.ref it)) Q E s
abbrev TI:=St->Hp->(It->Hp->Prop)->Prop
def PIE(X:Cx)(fL:qa (qc×Obj))(Z:St)(tg:Expr)(R:It->Hp->Prop)(a:qd)(s2:ug):Prop:=
 ∃(it:qc)(c:qa qc)(d:Nat->Heap->Prop)(J:It)(H':Hp),a=.ref it/\Inv X fL Z H' s2/\HG X.prog X.w X.K tg J c it d/\d 0 s2.heap/\(∀b∈c,AI X fL H' b)/\R J H'
def PI(X:Cx)(tg iter:Expr)(a:TI):Prop:=
 ∀(fL:qa (qc×Obj))(s:ug)(Z:St)(H:Hp)(R:It->Hp->Prop),Inv X fL Z H s->a Z H R ->
  wpAny (model X.prog X.w) X.A (eval iter X.env) (λv s1=>wpAny (model X.prog X.w) X.A (pyIter v) (PIE X fL Z tg R) X.xe s1) X.xe s
def EA{E:qf}{it:qc}{o:Obj}{n:String}{vs:uk qd}{Q:Unit->ug->Prop}(b:s.heap.get? it=some o)(hc:o.cls=.type n)(hd:o.data=.fields vs)
 (c:["enumerate","zip","dict_itemiterator","dict_reverseitemiterator","odict_iterator","itertools.zip_longest","itertools.pairwise"].contains n=false) (a:Q .unit s):wpAny M A (letOwnedTupleGo tg (.ref it) u) Q E s:=by
 unfold letOwnedTupleGo;cases tg<;>first
  |calc qv a
  |(cases u<;>first
     |calc qv a
     |(refine qi (wpAny_load b ?_)
       rw[hc,hd];show wpAny M A (if (["enumerate","zip","dict_itemiterator","dict_reverseitemiterator","odict_iterator","itertools.zip_longest","itertools.pairwise"].contains n&&vs[0]?==@(rawInt _))=true then _ else _) Q E s;rw[qC (by intro h;rw[c,Bool.false_and] at h;cases h)];calc qv a))
def gv(K:Frag)(a:qc):It:=
 {λi H=>∃xs x,zm K H a xs/\xs[i]?=some x,λi H x H'=>H'=H/\∀xs,zm K H a xs->xs[i]?=some x,λi H=>∃xs,zm K H a xs/\-xs<=i}
def Itr(lo:Int)(n:Nat):It:={λi _=>i<n,λi H x H'=>H'=H/\x=.int (lo+i),λi _=>n<=i}
def Mf{K:Frag}(a it:qc):HG P w K tg (gv K a) [it] it (λi h=>h.IsListIter it a i) where
 mem:=by simp
 obj:=λi h st b f=>by
  let e:b=it:=by simpa using f
  subst e;let#[o,e,c,d]:=st;exact{o,e,λv z=>by rw[d] at z;cases z}
 keep:=λi h h' st k=>st.at λo e=>k it (by simp) o e
 item:=by
  intro X l hw m hc i fL s Z H E I hf st n;subst l hw m;let#[xs,x,j,q]:=n;let#[its,r,p,hz]:=I.list j;let#[u,A,B]:=r.get q;let#[f0,f1,f2,t,f4,y]:=hf it (by simp);calc wpAny_pyNext_list_item st p.isList (x:=u) (by simpa using A) λh' g sb=>?_;let C:Inv X fL Z H {s with heap:=h'}:=I.turned (t':=s.toks) (λb o f e=>(sb.2 b f).trans e) f0 f1 t f4 y;let#[o,e,c,d]:=id g;exact{u,U,EA (s:={s with heap:=h'}) e c d ∅ {x,H,C,B,{U,λys D=>I.vJ D j<|q},g,λb f=>(hf b f).1}}
 done:=by
  intro X l hw m hc i fL s Z H E I hf st n;subst l hw m;let#[xs,j,q]:=n;let#[its,r,p,hz]:=I.list j;let#[f0,f1,f2,t,f4,y]:=hf it (by simp);let A:=-r;exact wpAny_pyNext_list_end (I.ok.hd hc) st p.isList (by simp;omega) λh' g=>{U,I.turned (t':=s.toks) (λb o f e=>g b o f e) f0 f1 t f4 y}
 self:=λ_ _ _ _ _ st h=>wpAny_pyIter_listiter st h
def Fh{K:Frag}(it:qc)(lo:Int)(n:Nat):HG P w K tg (Itr lo n) [it] it (λi h=>IsRangeIter h it (lo+(i:Nat)*1) ((n:Int)-(i:Nat)) 1) where
 mem:=by simp
 obj:=λi h st b a=>by
  let e:b=it:=by simpa using a
  subst e;exact⟨_,st,λv z=>by
   let c:Data.fields _=Data.cell v:=z;cases c⟩
 keep:=λi h h' st k=>k it (by simp) _ st
 item:=by
  intro X d hw f hc i fL s Z H E I hf st g;subst d hw f;let#[f0,f1,f2,j,f4,l]:=hf it (by simp);let W:=Walks.range (prog:=X.prog) (w:=X.w) (I.ok.hd hc) it lo 1 n;calc W.item i s _ _ g st λv h' m p c q=>?_;let#[t,U]:=p;let r:Inv X fL Z H {s with heap:=h',toks:=m}:=I.turned (λb o a e=>q b o (by simpa using a) e) f0 f1 j f4 l;erw[0,EA (s:={s with heap:=h',toks:=m}) (n:="range_iterator") c rfl rfl ∅ {.int (lo+i),H,r,{t,?_},#[U,U],c,λb a=>(hf b a).1}];rw[Int.mul_one]
 done:=by
  intro X d hw f hc i fL s Z H E I hf st g;subst d hw f;let#[f0,f1,f2,j,f4,l]:=hf it (by simp);exact wpAny_pyNext_range_end (I.ok.hd hc) st (by have:n<=i:=g;omega) λh' c=>{U,I.turned (t':=s.toks) (λb o a e=>c b o a e) f0 f1 j f4 l}
 self:=λ_ _ _ _ _ st h=>wpAny_pyIter_rangeiter st h
section
variable {X:Cx}{tg:Expr}
inductive LM(K:Frag)(R:(It->Hp->Prop))(x:V)(H1:Hp):Prop
 |mk:∀a,x=.ref a->(∃xs,zm K H1 a xs)->R (gv K a) H1->LM K R x H1
def fe(K:Frag)(a:TE):TI:=λZ H R=>a Z H λx H1=>LM K R x H1
def QI{l:Expr}{d:TE}(f:PE X l d):PI X tg l (fe X.K d):=by
 intro fL s Z H R I h;calc jf (f fL s Z H _ I h) λv s1 #[x,H1,c,g,i]=>?_;let#[a,e,#[xs,j],q]:=i;subst e;cases g;let#[its,m,p,hz]:=c.list j;calc wpAny_pyIter_list p.isList ?_;erw[(!s1),[(!s1)],9,H1,U,c.kept (t':=s1.toks) λb o e=>qt _ e,Mf a _,{_,qH _ rfl,7},λb k=>?_,q];let e:b=(!s1):=by simpa using k
 subst e;calc c.vz (qr _) (c.hok.fresh (qr _))
def OB{R:It->Hp->Prop}{E:qf}{lo hi:Int}{t u v:Tok}{a:Nat}(I:Inv X fL Z H s)(d : -(2^62)<=lo)(f:lo<2^62)(g : -(2^62)<=hi)(h:hi<2^62)
 (q:R (Itr lo (hi-lo).toNat) H):wpAny (model X.prog X.w) X.A (pyIter (.ref (!s))) (PIE X fL Z tg R) E {s with heap:=s.heap.push {cls:=.type "range",data:=.fields ([.int lo t,.int hi u,.int 1 v].toArray)},toks:=a}:=by
 calc wpAny_pyIter_range (IsRange.new ..) (small_one d f g h) ?_;let c:Inv X fL Z H {s with heap:=s.heap.push {cls:=.type "range",data:=.fields ([.int lo t,.int hi u,.int 1 v].toArray)},toks:=a}:=I.kept λb o e=>qt _ e;refine⟨(s.heap.push {cls:=.type "range",data:=.fields ([.int lo t,.int hi u,.int 1 v].toArray)}).objs.size,[(s.heap.push {cls:=.type "range",data:=.fields ([.int lo t,.int hi u,.int 1 v].toArray)}).objs.size],_,_,H,U,
  c.kept (t':=a) λb o e=>qt _ e,Fh _ lo (hi-lo).toNat,?_,λb i=>?_,q⟩
 .have j:lo+((0:Nat):Int)*1=lo:=by simp
  let k:(((hi-lo).toNat:Nat):Int)-((0:Nat):Int)=Builtin.Range.rangeSize lo hi 1:=by rw[rangeSize_one];split<;>omega
  show IsRangeIter _ _ (lo+((0:Nat):Int)*1) ((((hi-lo).toNat:Nat):Int)-((0:Nat):Int)) 1;rw[j,k];exact qH _ rfl
 .have e:b=(s.heap.push {cls:=.type "range",data:=.fields ([.int lo t,.int hi u,.int 1 v].toArray)}).objs.size:=by simpa using i
  subst e;calc c.vz (qr _) (c.hok.fresh (qr _))
inductive LL(R:(It->Hp->Prop))(vs:qa V)(H1:Hp):Prop
 |mk:∀j:Int,vs=[.int j]->-(2^62)<=j->j<2^62->R (Itr 0 j.toNat) H1->LL R vs H1
def fc(a:TA):TI:=λZ H R=>a Z H λvs H1=>LL R vs H1
def Vd{a:Expr}{c:TA}{p:Pos}(d:Gl X "range")(hm:X.mg "range"=none)(f:PA X [a] c)(g:starEach [a] X.env=[(false,eval a X.env)]:=by rfl):PI X tg (.Call (.Name "range" p) [a] [] pos) (fc c):=by
 intro fL s Z H R I h;calc Call_ (Xm I d hm boot_range (xh (jf (f pos fL s Z H _ I h) λus s1 #[vs,H1,i,k,b]=>?_) g rfl));let#[j,e,b,l,q]:=b;subst e
 cases k with
 |cons r m=>
  cases m;let#[t,U]:=r;calc call_range_1 (OB i () () b l (by simpa using q))
inductive Xh(g:TG)(tb:TS)(D:VL)(Z:St)(J:It)(H1:Hp):Prop
 |mk:∀W:Nat->Nat->St->Hp->Prop,(∃m,W 0 m Z H1)->(∀i m Z H,W i m Z H->(J.stop i H/\D.nx Z H)\/(J.go i H/\∃N:St->Hp->Prop,(∀Z' H',N Z' H'->∃m',m'<m/\W (i+1) m' Z' H')/\∀x H',J.yld i H x H'->g x Z H' λZ2 H2=>tb {D with nx:=N,ct:=N,bk:=D.nx} Z2 H2))->Xh g tb D Z J H1
def tFor(a:TI)(g:TG)(tb:TS):TS:=λD Z H=>a Z H λJ H1=>Xh g tb D Z J H1
def Kg(a:qa qc)(h:Heap):qa (qc×Obj):=a.filterMap λb=>(h.get? b).map λo=>(b,o)
def V7{a:qa qc}{o:Obj}(c:b∈a)(e:h.get? b=some o):(b,o)∈Kg a h:=List.mem_filterMap.mpr {b,c,by rw[e];rfl}
def MP{a:qa qc}{p:qc×Obj}(c:p∈Kg a h):p.1∈a/\h.get? p.1=some p.2:=by
 let#[b,d,e]:=List.mem_filterMap.mp c
 cases q:h.get? b with
 |none=>rw[q] at e;cases e
 |some o=>
  rw[q] at e;let f:(b,o)=p:=qT e;subst f;exact#[d,q]
def Inv.pinned{a:qa qc}(I:Inv X fL Z H s)(hf:∀b∈a,AI X fL H b)(g:∀b∈a,∃o,s.heap.get? b=some o/\∀v,o.data≠.cell v):Inv X (fL++Kg a s.heap) Z H s:=
 I.kx λp h=>(qq.mp h).elim (λz=>I.pin p (qz _ z)) λz=>by
  let#[c,e]:=MP z;let#[f0,f1,f2,_]:=hf p.1 c;let#[o,f,d]:=g p.1 c;rw[e] at f;cases f;exact#[e,f0,f1,f2,d]
def Inv.xI{pl:qa (qc×Obj)}(I:Inv X (fL++pl) Z H s):Inv X fL Z H s:=I.kx λp a=>I.pin p (qz _ (qJ _ a))
def YA{iter:Expr}{P:TI}{tb:TS}(t:PassesOwn (model X.prog X.w) X.A X.env X.xe)(hc:X.calm=true)(hi:PI X tg iter P)(Y:PG X tg g)(a:vn X body tb)
 (hs:∀x,foldedSetIterable iter X.env x=pure x:=by intro _;rfl):PS X (.For tg iter body [] pos) (tFor P g tb):=by
 intro fL s Z H D I h;calc wpAny_For (jf (hi fL s Z H _ I h) λv s1 h1=>jf h1 λitv s2 h2=>?_) hs;let#[it,w,Q,J,H2,e,I2,T,F,f2,W,#[m0,w0],turn]:=h2;subst e;let c:∀{H':Hp},(∀b∈w,H' b=none)->∀b∈w,AI X fL H' b:=λhn b a=>{hn b a,(f2 b a).2};calc codeAny_forLoop_any (λn s'=>∃i y H',Inv X fL y H' s'/\Q i s'.heap/\(∀b∈w,H' b=none)/\W i n y H') ?_ m0 {(0),Z,H2,I2,F,λb a=>(f2 b a).1,w0};rintro n s3 ⟨i,z,E,S,A,B,w3⟩;obtain⟨stop,qn⟩|⟨go,N,hN,step⟩:=turn i n z E w3
 .refine yh t (jf (T.done X rfl rfl rfl hc i fL s3 z E X.xe S (c B) A stop) λr s4 #[K,j]=>?_);subst K;exact v9 #[z,E,j,qn]
 .refine yh t (jf (T.item X rfl rfl rfl hc i fL s3 z E X.xe S (c B) A go) λr s4 #[u,K,h4]=>?_);subst K;calc yh t (jf h4 λ_ s5 #[x,V,I5,r5,y5,q,L]=>?_);let M:=I5.pinned (c L) (T.obj _ _ q);calc yh t (jf (Y _ s5 z V x u _ M r5 (step x V y5)) λ_ s6 #[Z6,H6,I6,q6]=>?_);calc yh t (jf (a _ s6 Z6 H6 _ I6 q6) λf O p=>?_);let again:∀{j:St}{k:Hp},Inv X (fL++Kg w s5.heap) j k O->N j k->∃m,m<n/\∃i y H',Inv X fL y H' O/\Q i O.heap/\(∀b∈w,H' b=none)/\W i m y H':=λ{j k} l C=>by
   let#[m',hm,w7]:=hN j k C;erw[m',hm,i+1,j,k,l.xI,T.keep _ _ _ q λb a o e=>(l.pin (b,o) (qz _ (qz _ (V7 a e)))).1,λb a=>?_,w7];let#[o,e,d]:=T.obj _ _ q b a;exact(l.pin (b,o) (qz _ (qz _ (V7 a e)))).2.1
  cases f with
  |next=>let#[j,k,l,C]:=p;calc again l C
  |cont=>let#[j,k,l,C]:=p;calc again l C
  |brk=>let#[j,k,l,p]:=p;exact#[j,k,l.xI,p]
  |ret v=>let#[x7,j,k,l,r7,p]:=p;exact#[x7,j,k,l.xI,r7,p]
end
def YF{K:Frag}{tb:TS}{D:VL}(Pv:Nat->St->Hp->Prop)(h0:Pv 0 Z H)(c:∀i Z H,i<=-xs->Pv i Z H->zm K H a xs)
 (d:∀i x Z H,xs[i]?=some x->Pv i Z H->g x Z H λf h=>tb {D with nx:=Pv (i+1),ct:=Pv (i+1),bk:=D.nx} f h) (hd:∀Z H,Pv (-xs) Z H->D.nx Z H) :
 Xh g tb D Z (gv K a) H:=by
 erw[λi m Z H=>m=-xs-i/\i<=-xs/\Pv i Z H,{-xs,by simp,qR _,h0},?_];rintro i m Z H ⟨rfl,hi,p⟩;let q:=c i Z H hi p;by_cases b:i< -xs
 .refine .inr {{xs,xs[i],q,by simp[b]},Pv (i+1),λk H' j=>{-xs-(i+1),(),U,b,j},λx H' y=>?_};let#[e,y]:=y;subst e;exact d i x Z _ (y xs q) p
 .have e:i=-xs:=by omega
  subst e;calc .inl {{xs,q,qr _},hd Z H p}
def VS{lo:Int}{tb:TS}{D:VL}(Pv:Nat->St->Hp->Prop)(h0:Pv 0 Z H)
 (b:∀i Z H,i<n->Pv i Z H->g (.int (lo+i)) Z H λc d=>tb {D with nx:=Pv (i+1),ct:=Pv (i+1),bk:=D.nx} c d) (hd:∀Z H,Pv n Z H->D.nx Z H) :
 Xh g tb D Z (Itr lo n) H:=by
 erw[λi m Z H=>m=n-i/\i<=n/\Pv i Z H,{n,by simp,qR _,h0},?_];rintro i m Z H ⟨rfl,hi,p⟩;by_cases a:i<n
 .refine .inr {a,Pv (i+1),λh H' f=>{n-(i+1),(),U,a,f},λx H' y=>?_};let#[e,y]:=y;subst e y;exact b i Z _ a p
 .have e:i=n:=by omega
  subst e;calc .inl {qr _,hd Z H p}
abbrev R2:=V->V->Hp->VK->Prop
variable {r:R2}
def yN(X:Cx)(f:qd->qd->Sem qd)(r:R2):Prop:=
 ∀(fL:qa (qc×Obj))(s:ug)(Z:St)(H:Hp)(x y:V)(v u:qd)(Q:VK),Inv X fL Z H s->QL x v->QL y u->r x y H Q ->
  wpAny (model X.prog X.w) X.A (f v u) (EP X fL Z Q) X.xe s
def UnR(X:Cx)(f:qd->Sem qd)(r:V->Hp->VK->Prop):Prop:=
 ∀(fL:qa (qc×Obj))(s:ug)(Z:St)(H:Hp)(x:V)(v:qd)(Q:VK),Inv X fL Z H s->QL x v->r x H Q ->
  wpAny (model X.prog X.w) X.A (f v) (EP X fL Z Q) X.xe s
def Uk(X:Cx)(f:qd)(r:qa V->Hp->VK->Prop):Prop:=
 ∀(fL:qa (qc×Obj))(s:ug)(Z:St)(H:Hp)(xs:qa V)(us:qg)(Q:VK),Inv X fL Z H s->QF xs us->r xs H Q ->
  wpAny (model X.prog X.w) X.A (call f us) (EP X fL Z Q) X.xe s
def TruR(X:Cx)(r:V->Hp->(Bool->Hp->Prop)->Prop):Prop:=
 ∀(fL:qa (qc×Obj))(s:ug)(Z:St)(H:Hp)(x:V)(v:qd)(Q:Bool->Hp->Prop),Inv X fL Z H s->QL x v->r x H Q ->
  wpAny (model X.prog X.w) X.A (truthy v) (TP X fL Z Q) X.xe s
def tOp(r:R2)(a tb:TE):TE:=λZ H Q=>a Z H λx H1=>tb Z H1 λy b=>r x y b Q
def tUn(r:V->Hp->VK->Prop)(a:TE):TE:=λZ H Q=>a Z H λx H1=>r x H1 Q
inductive d4(C:Int->Int->Prop)(g:Int->Int->V)(x:V)(y:V)(H:Hp)(Q:VK):Prop
 |mk:∀i j,x=.int i->y=.int j->C i j->Q (g i j) H->d4 C g x y H Q
def rI(C:Int->Int->Prop)(g:Int->Int->V):R2:=λx y H Q=>d4 C g x y H Q
inductive ak(g:Int->Int->V)(x:V)(y:V)(H:Hp)(Q:VK):Prop
 |mk:∀i j,x=.int i->y=.int j->Q (g i j) H->ak g x y H Q
def gY(g:Int->Int->V):R2:=λx y H Q=>ak g x y H Q
inductive dR(g:Int->V)(x:V)(H:Hp)(Q:VK):Prop
 |mk:∀i,x=.int i->Q (g i) H->dR g x H Q
def rU(g:Int->V):V->Hp->VK->Prop:=λx H Q=>dR g x H Q
section
variable {X:Cx}{a b c:Expr}{ta tb tc:TE}{pos:Pos}
def cq(g:PE X a ta)(i:PE X b tb){R:V->V->Hp->Prop}(I:Inv X fL Z H s)
 (h:ta Z H λx H1=>tb Z H1 λy c=>R x y c) {Q:qf} {f:qd->qd->Sem qd}
 (hf:∀v u s2 x y c,Inv X fL Z c s2->QL x v->QL y u->R x y c->wpAny (model X.prog X.w) X.A (f v u) Q X.xe s2) :
 wpAny (model X.prog X.w) X.A (eval a X.env) (λv d=>wpAny (model X.prog X.w) X.A (eval b X.env) (λu e=>wpAny (model X.prog X.w) X.A (f v u) Q X.xe e) X.xe d) X.xe s:=by
 calc jf (g fL s Z H _ I h) λv s1 #[x,H1,j,k,l]=>?_;calc jf (i fL s1 Z H1 _ j l) λu s2 #[y,c,m,n,o]=>?_;calc hf v u s2 x y c m k n o
def Qv{op:Operator}(c:yN X (binaryOp op) r)(d:PE X a ta)(e:PE X b tb):PE X (.BinOp a op b pos) (tOp r ta tb):=by
 intro fL s Z H Q I h;calc wpAny_BinOp (cq d e I h λv u s2 x y f g i j q=>c fL s2 Z f x y v u Q g i j q)
def OU{op:UnaryOp}{r:V->Hp->VK->Prop}(b:UnR X (unaryOp op) r)(c:PE X a ta):PE X (.UnaryOp op a pos) (tUn r ta):=by
 intro fL s Z H Q I h;calc UnaryOp_ (jf (c fL s Z H _ I h) λv s1 #[x,H1,d,e,f]=>b fL s1 Z H1 x v Q d e f)
def opI{C:Int->Int->Prop}{g:Int->Int->Int}
 (rule:∀(i j:Int)(t u:Tok)(s:ug)(Q:qf)(E:qf),C i j->Q (.int (g i j) s.toks) {s with toks:=s.toks+1}->wpAny (model X.prog X.w) X.A (f (.int i t) (.int j u)) Q E s) :
 yN X f (rI C λi j=>.int (g i j)):=by
 intro fL s Z H x y v u Q I a b h;let#[i,j,U,U,hc,q]:=h;let#[t,U]:=a;let#[t',U]:=b;calc rule i j t t' s _ _ hc {.int (g i j),H,I.tok _,{0},q}
def eh{g:Int->Int->Int}
 (rule:∀(i j:Int)(t u:Tok)(s:ug)(Q:qf)(E:qf),Q (.int (g i j) s.toks) {s with toks:=s.toks+1}->wpAny (model X.prog X.w) X.A (f (.int i t) (.int j u)) Q E s) :
 yN X f (gY λi j=>.int (g i j)):=by
 intro fL s Z H x y v u Q I a b h;let#[i,j,U,U,q]:=h;let#[t,U]:=a;let#[t',U]:=b;calc rule i j t t' s _ _ {.int (g i j),H,I.tok _,{0},q}
def Sx{g:Int->Int->Bool}
 (rule:∀(i j:Int)(t u:Tok)(s:ug)(Q:qf)(E:qf),Q (.bool (g i j)) s->wpAny (model X.prog X.w) X.A (f (.int i t) (.int j u)) Q E s) :
 yN X f (gY λi j=>.bl (g i j)):=by
 intro fL s Z H x y v u Q I a b h;let#[i,j,U,U,q]:=h;let#[t,U]:=a;let#[t',U]:=b;calc rule i j t t' s _ _ {.bl (g i j),H,I,U,q}
def CDiv(i j:Int):Prop:=0<j/\j<1073741824
def cF(i j:Int):Prop:=(-(2^64)<i/\i<2^64)\/(-(2^64)<j/\j<2^64)
def cF.ok{i j:Int}(h:cF i j):IntMulOk i j:=by
 obtain⟨a,b⟩|⟨a,b⟩:=h
 .exact .of_left (intBits_le_64 a b)
 .exact .of_right (intBits_le_64 a b)
def Yb:yN X (binaryOp .Add) (gY λi j=>.int (i+j)):=eh λ_ _ _ _ _ _ _ q=>add_int q
def FL:yN X (binaryOp .Sub) (gY λi j=>.int (i-j)):=eh λ_ _ _ _ _ _ _ q=>sub_int q
def Wm:yN X (binaryOp .Mult) (rI cF λi j=>.int (i*j)):=opI λ_ _ _ _ _ _ _ hc q=>mul_int q hc.ok
def Ym:yN X (binaryOp .FloorDiv) (rI CDiv λi j=>.int (i / j)):=opI λi j _ _ _ _ _ hc q=>by
 let a:(0:Int)<j:=hc.1;let b:j<1073741824:=hc.2;calc floordiv_int () (Int.fdiv_eq_ediv_of_nonneg i ()<|q) (.inl (PyProof.noPylong_small ()))
def QS:yN X (binaryOp .Mod) (rI (λ_ j=>0<j) λi j=>.int (i%j)):=opI λi j _ _ _ _ _ hc q=>by
 let a:(0:Int)<j:=hc;calc mod_int' () (Int.fmod_eq_emod_of_nonneg i ()<|q)
def unI{f:qd->Sem qd}{g:Int->Int}
 (rule:∀(i:Int)(t:Tok)(s:ug)(Q:qf)(E:qf),Q (.int (g i) s.toks) {s with toks:=s.toks+1}->wpAny (model X.prog X.w) X.A (f (.int i t)) Q E s) :
 UnR X f (rU λi=>.int (g i)):=by
 intro fL s Z H x v Q I a h;let#[i,U,q]:=h;let#[t,U]:=a;calc rule i t s _ _ {.int (g i),H,I.tok _,{0},q}
def Fg:UnR X (unaryOp .USub) (rU λi=>.int ((Neg.neg i))):=unI λ_ _ _ _ _ q=>neg_int q
end
def dO:V->V->Bool
 |.non,.non=>true|.non,.int _=>true|.int _,.non=>true|.non,.bl _=>true|.bl _,.non=>true|.non,.str _=>true|.str _,.non=>true
 |.int _,.int _=>true|.bl _,.bl _=>true|.str _,.str _=>true|.wk _,.wk _=>true
 |.int _,.str _=>true|.str _,.int _=>true|.bl _,.str _=>true|.str _,.bl _=>true
 |_,_=>false
def rEq:R2:=λx y H Q=>dO x y=true/\Q (.bl (decide (x=y))) H
def rNe:R2:=λx y H Q=>dO x y=true/\Q (.bl (!(decide) (x=y))) H
def LX{i j:Int}:decide (V.int i=V.int j)=(i==j):=by
 rw[jN];simp
def Ru{i j:Bool}:decide (V.bl i=V.bl j)=(i==j):=by
 rw[jN];simp
def Vy{i j:qb}:decide (V.str i=V.str j)=(i==j):=by
 rw[jN];simp
def LY{i j:uk UInt8}:decide (V.wk i=V.wk j)=(i.toList==j.toList):=by
 rw[jN];cases i;cases j;simp
section
variable {X:Cx}{a b c:Expr}{ta tb tc:TE}{pos:Pos}
def Q3{k a:Bool}(I:Inv X fL Z H s)(q:Q (.bl k) H)(e:k=a):EP X fL Z Q (.bool a) s:=by
 subst e;calc{.bl k,H,I,U,q}
def Yk:yN X (compareOp .Eq) rEq:=by
 intro fL s Z H x y v u Q I c a h;let#[b,q]:=h
 cases x with
 |non=>
  cases c
  cases y with
  |non=>cases a;calc PySem.EqNone.eq_none_none (Q3 I q (by simp))
  |bl j=>cases a;calc PySem.EqNone.eq_none_bool (Q3 I q (by simp))
  |int j=>let#[t',U]:=a;calc PySem.EqNone.eq_none_int (Q3 I q (by simp))
  |str j=>let#[t',U]:=a;calc PySem.EqNone.eq_none_str (Q3 I q (by simp))
  |_=>calc absurd (show false=true from b) qF
 |bl i=>
  cases c
  cases y with
  |non=>cases a;calc PySem.EqNone.eq_bool_none (Q3 I q (by simp))
  |bl j=>cases a;calc eq_bool (Q3 I q Ru)
  |str j=>let#[t',U]:=a;calc PySem.EqMixed.eq_bool_str (Q3 I q (by simp))
  |_=>calc absurd (show false=true from b) qF
 |int i=>
  let#[t,U]:=c
  cases y with
  |non=>cases a;calc PySem.EqNone.eq_int_none (Q3 I q (by simp))
  |int j=>let#[t',U]:=a;calc eq_int (Q3 I q LX)
  |str j=>let#[t',U]:=a;calc PySem.EqMixed.eq_int_str (Q3 I q (by simp))
  |_=>calc absurd (show false=true from b) qF
 |str i=>
  let#[t,U]:=c
  cases y with
  |non=>cases a;calc PySem.EqNone.eq_str_none (Q3 I q (by simp))
  |bl j=>cases a;calc PySem.EqMixed.eq_str_bool (Q3 I q (by simp))
  |int j=>let#[t',U]:=a;calc PySem.EqMixed.eq_str_int (Q3 I q (by simp))
  |str j=>let#[t',U]:=a;calc eq_str (Q3 I q Vy)
  |_=>calc absurd (show false=true from b) qF
 |wk i=>
  let#[t,U]:=c
  cases y with
  |wk j=>let#[t',U]:=a;calc PySem.W.eq_bytes (Q3 I q LY)
  |_=>calc absurd (show false=true from b) qF
 |_=>cases y<;>calc absurd (show false=true from b) qF
def UX:yN X (compareOp .NotEq) rNe:=by
 intro fL s Z H x y v u Q I c a h;let#[b,q]:=h
 cases x with
 |non=>
  cases c
  cases y with
  |non=>cases a;calc PySem.EqNone.ne_none_none (Q3 I q (by simp))
  |bl j=>cases a;calc PySem.EqNone.ne_none_bool (Q3 I q (by simp))
  |int j=>let#[t',U]:=a;calc PySem.EqNone.ne_none_int (Q3 I q (by simp))
  |str j=>let#[t',U]:=a;calc PySem.EqNone.ne_none_str (Q3 I q (by simp))
  |_=>calc absurd (show false=true from b) qF
 |bl i=>
  cases c
  cases y with
  |non=>cases a;calc PySem.EqNone.ne_bool_none (Q3 I q (by simp))
  |bl j=>cases a;calc ne_bool (Q3 I q (zp not Ru))
  |str j=>let#[t',U]:=a;calc PySem.EqMixed.ne_bool_str (Q3 I q (by simp))
  |_=>calc absurd (show false=true from b) qF
 |int i=>
  let#[t,U]:=c
  cases y with
  |non=>cases a;calc PySem.EqNone.ne_int_none (Q3 I q (by simp))
  |int j=>let#[t',U]:=a;calc ne_int (Q3 I q (zp not LX))
  |str j=>let#[t',U]:=a;calc PySem.EqMixed.ne_int_str (Q3 I q (by simp))
  |_=>calc absurd (show false=true from b) qF
 |str i=>
  let#[t,U]:=c
  cases y with
  |non=>cases a;calc PySem.EqNone.ne_str_none (Q3 I q (by simp))
  |bl j=>cases a;calc PySem.EqMixed.ne_str_bool (Q3 I q (by simp))
  |int j=>let#[t',U]:=a;calc PySem.EqMixed.ne_str_int (Q3 I q (by simp))
  |str j=>let#[t',U]:=a;calc ne_str (Q3 I q (zp not Vy))
  |_=>calc absurd (show false=true from b) qF
 |wk i=>
  let#[t,U]:=c
  cases y with
  |wk j=>let#[t',U]:=a;calc PySem.W.ne_bytes (Q3 I q (zp not LY))
  |_=>calc absurd (show false=true from b) qF
 |_=>cases y<;>calc absurd (show false=true from b) qF
def DQ:yN X (compareOp .Lt) (gY λi j=>.bl (decide (i<j))):=Sx λ_ _ _ _ _ _ _ q=>lt_int q
def KO:yN X (compareOp .LtE) (gY λi j=>.bl (decide (i<=j))):=Sx λ_ _ _ _ _ _ _ q=>le_int q
def OY:yN X (compareOp .Gt) (gY λi j=>.bl (decide (j<i))):=Sx λ_ _ _ _ _ _ _ q=>gt_int q
def ee:yN X (compareOp .GtE) (gY λi j=>.bl (decide (j<=i))):=Sx λ_ _ _ _ _ _ _ q=>ge_int q
def WQ:yN X (compareOp .In) (λx y H Q=>∃i j,x=.str i/\y=.str j/\Q (.bl (!(Builtin.Str.occurrences j i 0 (-j) 1).isEmpty)) H):=by
 intro fL s Z H x y v u Q I a b h;let#[i,j,U,U,q]:=h;let#[t,U]:=a;let#[t',U]:=b;calc in_str (Q3 I q rfl)
def V5:yN X (compareOp .Is) (λx y H Q=>y=.non/\Q (.bl (decide (x=.non))) H):=by
 intro fL s Z H x y v u Q I a b h;let#[U,q]:=h;cases b;calc is_none_gen (Q3 I q ?_);cases x<;>first
  |(cases a;rfl)
  |(let#[t,U]:=a;rfl)
def Lq:yN X (compareOp .IsNot) (λx y H Q=>y=.non/\Q (.bl (!(decide) (x=.non))) H):=by
 intro fL s Z H x y v u Q I a b h;let#[U,q]:=h;cases b;calc isnot_none_gen (Q3 I q ?_);cases x<;>first
  |(cases a;rfl)
  |(let#[t,U]:=a;rfl)
def Pp(b:Expr)(h:op≠.In:=by decide)(a:op≠.NotIn:=by decide):behindInMarks op b=false:=by
 let c:(op==CmpOp.In)=false:=by cases op<;>first|rfl|exact absurd rfl h
 let d:(op==CmpOp.NotIn)=false:=by cases op<;>first|rfl|exact absurd rfl a
 cases b<;>simp[behindInMarks,c,d]
def YI(c:yN X (compareOp op) r)(d:PE X a ta)(e:PE X b tb)(hm:behindInMarks op b=false:=by calc Pp _):PE X (.Compare a [op] [b] pos) (tOp r ta tb):=by
 intro fL s Z H Q I h;calc wpAny_Compare1 (cq d e I h λv u s2 x y f g i j q=>c fL s2 Z f x y v u Q g i j q) hm
inductive HV(Q:(Bool->Hp->Prop))(x:V)(H':Hp):Prop
 |mk:∀k,x=.bl k->Q k H'->HV Q x H'
def TY(t:TE):TT:=λZ H Q=>t Z H λx H'=>HV Q x H'
def Qp(d:yN X (compareOp op) r)(f:PE X a ta)(g:PE X b tb)(hm:behindInMarks op b=false:=by calc Pp _):PT X (.Compare a [op] [b] pos) (TY (tOp r ta tb)):=by
 intro fL s Z H Q I h;refine wpAny_isTrue_Compare1 (jf (f fL s Z H _ I h) λv s1 #[x,H1,i,j,l]=>jf (g fL s1 Z H1 _ i l) λu s2 #[y,m,n,o,p]=>
  jf (d fL s2 Z m x y v u _ n j o p) λc s3 #[z,q,t,w,k,e,A]=>?_) hm
 subst e;cases w;calc zY #[q,t,A]
def NV(r b:R2)(ta tb tc:TE):TE:=λZ H Q=>ta Z H λx H1=>tb Z H1 λy c=>r x y c λz a=>∃k,z=.bl k /\
 (if k=true then tc Z a λd e=>b y d e Q else Q (.bl false) a)
def DP{f:CmpOp}{i:R2}(o:yN X (compareOp op) r)(g:yN X (compareOp f) i)(p:PE X a ta)(q:PE X b tb)(hc:PE X c tc)
 (hm:lastMarks [op,f] [b,c]=false:=by with_unfolding_all rfl):PE X (.Compare a [op,f] [b,c] pos) (NV r i ta tb tc):=by
 intro fL s Z H Q I h;refine Compare_chain (jf (p fL s Z H _ I h) λv s1 #[x,H1,t,w,A]=>chain_link (jf (q fL s1 Z H1 _ t A) λu s2 #[y,B,C,j,D]=>
  jf (o fL s2 Z B x y v u _ C w j D) λd s3 #[z,l,m,E,k,e,n]=>?_)) hm
 subst e;cases E;refine zY ?_
 cases k with
 |false=>calc ite_ff {.bl false,l,m,U,n}
 |true=>calc ite_tt (chain_last (jf (hc fL s3 Z l _ m n) λF s4 #[G,J,K,L,M]=>g fL s4 Z J y G u F Q K j L M))
def OP{f:CmpOp}{i:R2}(o:yN X (compareOp op) r)(g:yN X (compareOp f) i)(p:PE X a ta)(q:PE X b tb)(hc:PE X c tc)
 (hm:lastMarks [op,f] [b,c]=false:=by with_unfolding_all rfl):PT X (.Compare a [op,f] [b,c] pos) (TY (NV r i ta tb tc)):=by
 intro fL s Z H Q I h;refine isTrue_chain (jf (p fL s Z H _ I h) λv s1 #[x,H1,t,w,A]=>test_link (jf (q fL s1 Z H1 _ t A) λu s2 #[y,B,C,j,D]=>
  jf (o fL s2 Z B x y v u _ C w j D) λd s3 #[z,l,m,E,k,e,n]=>?_)) hm
 subst e;cases E;refine zY ?_
 cases k with
 |false=>
  let#[J,F,G]:=n;cases F;calc ite_ff #[l,m,G]
 |true=>
  calc ite_tt (test_last (jf (hc fL s3 Z l _ m n) λF s4 #[G,J,K,L,M]=>jf (g fL s4 Z J y G u F _ K j L M) λd' s5 #[T,N,O,P,V,R,S]=>?_));subst R;cases P;calc zY #[N,O,S]
def fG(K:Frag)(x:V)(H:Hp)(k:Bool):Prop:=
 match x with
 |.non=>k=false
 |.bl b=>k=b
 |.int i=>k=(i != 0)
 |.str y=>-y<=sizeLine/\k=((-y:Int) != 0)
 |.wk y=>y.size<=sizeLine/\k=((y.size:Int) != 0)
 |.ref p=>(∃xs,zm K H p xs/\k = !(xs.isEmpty))\/(∃xs,z5 K H p xs/\k = !(xs.isEmpty))\/∃a,H p=@(.dK a)/\k = !(a.isEmpty)
 |_=>False
def Hk{b:Type}{a:qa (b×V)}{vs:qa (b×qd)}(r:KV a vs):(!(vs.isEmpty)) = !(a.isEmpty):=by
 cases r<;>rfl
def Ag{its:qg}(r:QF xs its):(!(its.toArray.isEmpty)) = !(xs.isEmpty):=by
 cases r<;>simp
def Xl:(sizeLine:Nat)<2^63:=by rw[jw];decide
def aN:TruR X (λx H Q=>∃k,fG X.K x H k/\Q k H):=by
 intro fL s Z H x v Q I d h;let#[k,e,q]:=h;let g:=Xl;let j:sizeLine=16777216:=jw
 cases x with
 |non=>
  cases d;let a:k=false:=e;subst a;calc truthy_none #[H,I,q]
 |bl b=>
  cases d;let a:k=b:=e;subst a;calc zY #[H,I,q]
 |int i=>
  let#[t,U]:=d;let a:k=(i != 0):=e;subst a;calc PySem.P.truthy_int #[H,I,q]
 |str y=>
  let#[t,U]:=d;obtain⟨c,a⟩:-y<=sizeLine/\k=((-y:Int) != 0):=e;subst a;calc PySem.P.truthy_str () {H,I.tok _,q}
 |wk y=>
  let#[t,U]:=d;obtain⟨c,a⟩:y.size<=sizeLine/\k=((y.size:Int) != 0):=e;subst a;calc PySem.W.truthy_bytes () {H,I.tok _,q}
 |ref p=>
  cases d;let a:(∃xs,zm X.K H p xs/\k = !(xs.isEmpty))\/(∃xs,z5 X.K H p xs/\k = !(xs.isEmpty))\/∃c,H p=@(.dK c)/\k = !(c.isEmpty):=e;obtain⟨xs,f,a⟩|⟨xs,f,a⟩|⟨c,f,a⟩:=a
  .subst a;let#[its,r,pl,hz]:=I.list f;let hlen:=-r;exact wpAny_truthy_list pl.isList (by simp only[qM];omega) {H,I.tok _,Ag r<|q}
  .subst a;let#[its,r,pl,hz]:=I.tuple f;let hlen:=-r;exact truthy_tuple pl (by simp only[qM];omega) {H,I.tok _,Ag r<|q}
  .subst a;obtain⟨hz,hS,vs,r,m⟩:-c<=sizeLine/\(p==sysModules)=false/\∃vs,KV c vs/\s.heap.DictOf (Q4 X.prog X.w) p vs:=I.hok p _ f;let hlen:-c=-vs:=gR r;calc wpAny_truthy_dict hS m () {H,I.tok _,Hk r<|q}
 |_=>calc(show False from e).elim
def XG(b:PE X a ta)(he:∀whole,isTrue a X.env whole=(do let v <-whole;standAt a.pos;holding [v] (truthy v))) :
 PT X a (λZ H Q=>ta Z H λx H'=>∃k,fG X.K x H' k/\Q k H'):=by
 intro fL s Z H Q I h;calc isTrue_plain (jf (b fL s Z H _ I h) λv s1 #[x,H1,c,d,e]=>aN fL s1 Z H1 x v Q c d e) (he _)
def Q8:yN X (binaryOp .Add) (λx y H Q=>∃i j,x=.str i/\y=.str j/\-i+-j<=sizeLine/\Q (.str (i++j)) H):=by
 intro fL s Z H x y v u Q I a b h;let#[i,j,U,U,hz,q]:=h;let#[t,U]:=a;let#[t',U]:=b;calc add_str (λt' c=>{.str (i++j),H,I.tok _,{0},q}) hz
def UG{x:V}(r:QF [x] us):∃u,us=[u]/\QL x u:=by
 cases r with
 |cons a b=>cases b;calc{0,a}
def cO{x:V}(r:QF [x,y] us):∃u a,us=[u,a]/\QL x u/\QL y a:=by
 cases r with
 |cons b c=>
  cases c with
  |cons d e=>cases e;calc{2,b,d}
def Vc:Uk X (.type "str") (λxs H Q=>∃i,xs=[.int i]/\i.natAbs.log2<1920/\Q (.str (toString i)) H):=by
 intro fL s Z H xs us Q I r h;let#[i,U,hz,q]:=h;let#[u,U,t,U]:=UG r;calc PySem.P.str_of_int hz {.str _,H,I.tok _,{0},q}
end
structure HH(h:Heap)(x dx C:qc)(mA:qb->uf qd):Prop where
 obj:h.get? x=@(instObj C dx)
 ns:h.Ns1 dx mA
 ne:dx≠x
def MY{c:qc}{d:qb->uf qd}(n:h.Ns1 c d):∃f,h.get? c=some f/\∀name,lookIn name f=@(d name):=by
 let#[o,es,k,g,hd,i,_,hm]:=n;erw[o,g,λname=>?_];let e:=hm name;unfold nsFind findBy at e;rw[<-Array.find?_toList] at e;unfold lookIn;rw[hd];dsimp only;split
 .rename_i y q
  rw[q] at e;exact zp some e
 .rename_i q
  rw[q] at e;let a:es.toList.any (·.refKey)=false:=by
   rw[List.any_eq_false];intro y j;let#[z,t,b]:=i y (Array.mem_toList_iff.mp j);simp[DictEntry.refKey,b]
  let b:¬es.toList.any (·.refKey)=true:=by rw[a];exact qF
  rw[qC b];calc zp some e
def HH.look{x b:qc}{c:qb->uf qd}(I:HH h x b C c):∃a,PySem.W.InstAt h x (instObj C b) C (some a)/\∀name,lookIn name a=@(c name):=
 let ⟨a,d,e⟩:=MY I.ns
 {a,#[I.obj,U,U,d],e}
section
variable {prog:uh}{w:ui}{A:uj}{E:qf}{s:ug}{K:Frag}{x dx C f:qc}{mA:qb->uf qd}{name:qb}{v:qd}
def Tr{expr:Bool}{Q:qf}(X:K.In s.heap)(I:HH s.heap x dx C mA)(b:plainGet K C name=true)(c:hasDictIn K C=true)
 (d:findIn K (.ref C) name=some none) (e:mA name=some v) (a:handedIn v=true) (h:Q v {s with toks:=s.toks+1}) :
 wpAny (model prog w) A (getAttr (.ref x) name expr) Q E s:=by
 let#[g,J,f]:=I.look;calc PySem.W.get_value X J (plainGet_of b).1 (PySem.W.findObj_own c d rfl (by rw[f,e])) a h
def Rb{Q:qd×qg->ug->Prop}(X:K.In s.heap)(I:HH s.heap x dx C mA)(a:plainGet K C name=true)
 (hf:findIn K (.ref C) name=@(@(.ref f))) (b:isFn K (.ref f)=true) (c:mA name=none) (h:Q (.ref f,[.ref x]) s) :
 wpAny (model prog w) A (getMethod (.ref x) name pl) Q E s:=by
 let#[d,J,e]:=I.look;calc PySem.W.method_fn X J (plainGet_of a).1 (plainGet_of a).2 hf (yw.mp b) (by show(lookIn name d).map (·.isSome)=some false;rw[e,c];rfl) h
def Sd{ns:qe}{Q:Unit->ug->Prop}(X:K.In s.heap)(I:HH s.heap x dx C mA)
 (j:findIn K (.ref C) "__setattr__"=@(@(.builtin "object.__setattr__"))) (k:plainOver K C=true) (l:takerIn K C name=some none) (m:hasDictIn K C=true)
 (hw:PySem.Within mA ns) (hsz:-ns<=sizeLine)
 (h:∀h',HH h' x dx C (λy=>if y=name then some v else mA y)->Heap.SameBut dx s.heap h'->Q .unit {s with heap:=h',toks:=s.toks+2}) :
 wpAny (model prog w) A (setAttr (.ref x) name v) Q E s:=by
 let#[q,J,t]:=I.look;calc PySem.W.set_plain X J j (PySem.W.osa_open (s:={s with toks:=s.toks+1}) (r:=none) X J k l λb=>?_);let#[cd,hc,e]:=PySem.W.any_some m;let n:s.heap.get? x=some {.ref C,some dx,.plain,#[]}:=I.obj;calc qi (qv (qi (qi (wpAny_loadPart n (qi (PySem.W.Looks.here (s:={s with toks:=s.toks+1}) (PySem.W.looks_clsIn X hc) ?_))))));rw[e];calc qv (a:=some dx) (qi (qv (qi ?_)));calc wpAny_nsSet1 (s:={s with toks:=s.toks+1}) I.ns λh' c d=>?_;let#[u,o,p,f,g,i]:=c.count (PySem.Within.cons name v hw);calc qi (wpAny_lookBehind f (g<|pastItsLine_dict (qQ i (by rw[qU];omega))) ?_);calc qv (h _ {(d.2 _ (jD I.ne)).trans I.obj,c,I.ne} d)
def Pu{R:Result->ug->Prop}{vs:qg}(X:K.In s.heap)(hm:makesIn K C=true)
 (hi:findIn K (.ref C) "__init__"=@(@(.ref f))) (hf:PySem.W.typeIn K (.ref f)=@(.type "function"))
 (h:codeAny (model prog w) (A.under (.builtin "type.__call__" {.ref C::vs,kw})) (.call (.ref f) {.ref ((!s)+1)::vs,kw}) (PySem.W.InitBack ((!s)+1) R)
   {s with heap:=(s.heap.push emptyDict).push (instObj C (!s))}) :
 codeAny (model prog w) A (.call (.ref C) #[vs,kw]) R s:=by
 let#[a,g,d,t,os]:=s;calc PySem.W.make_core (PySem.W.makes_of X hm) (PySem.W.looks_findIn X hi) (λself=>PySem.W.bind_fn X self hf) (.inl rfl) h
end
def QD(f:qb)(v:V):qa (qb×V)->qa (qb×V)
 |[]=>[(f,v)]
 |(g,x)::r=>if g=f then (g,v)::r else (g,x)::QD f v r
def KS(f g:qb)(v:V):∀c:qa (qb×V),(QD f v c).lookup g=if g=f then some v else c.lookup g
 |[]=>by
  show List.lookup g [(f,v)]=_;by_cases h:g=f
  .have a:(g==f)=true:=yw.mpr h;simp only[List.lookup,a,qE h]
  .have a:(g==f)=false:=z8.mpr h;simp only[List.lookup,a,qC h]
 |(k,x)::r=>by
  let d:=KS f g v r;rw[show QD f v ((k,x)::r)=(if k=f then (k,v)::r else (k,x)::QD f v r) from rfl];by_cases b:k=f
  .rw[qE b];by_cases h:g=k
   .have a:(g==k)=true:=yw.mpr h;simp only[List.lookup,a,qE (h.trans b)]
   .have a:(g==k)=false:=z8.mpr h;simp only[List.lookup,a,qC (λe:g=f=>h (e.trans b.symm))]
  .rw[qC b];by_cases h:g=k
   .have a:(g==k)=true:=yw.mpr h;simp only[List.lookup,a,qC (λe:g=f=>b (h.symm.trans e))]
   .have a:(g==k)=false:=z8.mpr h;simp only[List.lookup,a];calc d
def Km(f:qb)(v:V):∀a:qa (qb×V),f∈(QD f v a).map (·.1)/\∀g,g∈a.map (·.1)->g∈(QD f v a).map (·.1)
 |[]=>{by simp[QD],λg h=>by simp at h}
 |(k,x)::r=>by
  let#[c,d]:=Km f v r;rw[show QD f v ((k,x)::r)=(if k=f then (k,v)::r else (k,x)::QD f v r) from rfl];by_cases b:k=f
  .rw[qE b];subst b;exact{by simp,λg h=>by simpa using h}
  .rw[qC b];erw[?_,λg h=>?_]
   .rw[qZ];exact qy _ c
   .rw[qZ] at h⊢;obtain e|e:=qx.mp h
    .exact qx.mpr (.inl e)
    .exact qy _ (d g e)
def KW(f:qb)(v:V):∀a:qa (qb×V),-(QD f v a)<=-a+1
 |[]=>by simp[QD]
 |(k,x)::r=>by
  let c:=KW f v r;rw[show QD f v ((k,x)::r)=(if k=f then (k,v)::r else (k,x)::QD f v r) from rfl];by_cases b:k=f
  .rw[qE b,qU,qU];omega
  .rw[qC b,qU,qU];omega
def Vu.some_of{o:uf qd}(r:Vu (some v) o):∃u,o=some u/\QL v u:=by
 cases o with
 |none=>calc(show False from r).elim
 |some u=>exact#[u,U,r]
def Vu.none_of{o:uf qd}(r:Vu none o):o=none:=by
 cases o with
 |none=>rfl
 |some u=>calc(show False from r).elim
def Nf(r:QL v u):handedIn u=true:=by
 cases v with
 |non=>cases (show u=Value.none from r);rfl
 |bl b=>cases (show u=Value.bool b from r);rfl
 |int i=>let#[t,e]:=(show ∃t,u=Value.int i t from r);cases e;rfl
 |str x=>let#[t,e]:=(show ∃t,u=Value.str x t from r);cases e;rfl
 |wk b=>let#[t,e]:=(show ∃t,u=Value.bytes b t from r);cases e;rfl
 |flt b=>let#[t,e]:=(show ∃t,u=Value.float b t from r);cases e;rfl
 |ref a=>cases (show u=Value.ref a from r);rfl
 |ty n=>cases (show u=Value.type n from r);rfl
section
variable {P:uh}{w:ui}{H H':Hp}{h h':Heap}{a C dx:qc}{fs fs':qa (qb×V)}
def Gb(hok:y4 P w H h)(e:H a=@(.ins C dx fs)):∃b,HH h a dx C b/\(∀f,Vu (fs.lookup f) (b f))/\PySem.Within b (fs.map (·.1))/\-fs<=1000/\H dx=@(.own a):=by
 let#[d,z,ne,c,b,n,r,q]:=(show QU P w H h a (.ins C dx fs) from hok a _ e);calc{b,#[c,n,ne],r,q,z,d}
end
structure wA(K:Frag)(C:qc):Prop where
 pg:plainGet K C Str.empty=true
 hd:hasDictIn K C=true
 po:plainOver K C=true
 sa:findIn K (.ref C) "__setattr__"=@(@(.builtin "object.__setattr__"))
def wA.get{K:Frag}(c:wA K C)(f:qb):plainGet K C f=true:=c.pg
def WG(K:Frag)(C:qc)(f:qb):Prop:=findIn K (.ref C) f=some none
def WG.taker{K:Frag}{f:qb}(n:WG K C f):takerIn K C f=some none:=by
 unfold takerIn;rw[show findIn K (.ref C) f=some none from n];rfl
structure Nw(K:Frag)(C:qc)(m:qb)(f:qc):Prop where
 at_:findIn K (.ref C) m=@(@(.ref f))
 fn:isFn K (.ref f)=true
 kp:keepIn K (.ref f)=true
section
variable {X:Cx}{fL:qa (qc×Obj)}{Z:St}{H:Hp}{s:ug}{a C dx:qc}{fs:qa (qb×V)}{f:qb}{v:V}{A:uj}{E:qf}
def Ho{b:Bool}{Q:qf}(I:Inv X fL Z H s)(e:H a=@(.ins C dx fs))(c:wA X.K C)(n:WG X.K C f)(l:fs.lookup f=some v)
 (h:∀u s',Inv X fL Z H s'->QL v u->Q u s'):wpAny (model X.prog X.w) A (getAttr (.ref a) f b) Q E s:=by
 let#[g,O,r,_,_,_]:=Gb I.hok e;let#[u,i,d]:=Vu.some_of (v:=v) (o:=g f) (by rw[<-l];calc r f);calc Tr I.xS O (c.get f) c.hd n i (Nf d) (h u _ (I.tok _) d)
def Al{m:qb}{g:qc}{Q:qd×qg->ug->Prop}(I:Inv X fL Z H s)(e:H a=@(.ins C dx fs))(c:wA X.K C)(k:Nw X.K C m g)(l:fs.lookup m=none)
 (h:Q (.ref g,[.ref a]) s):wpAny (model X.prog X.w) A (getMethod (.ref a) m pl) Q E s:=by
 let#[b,O,r,_,_,_]:=Gb I.hok e;let d:b m=none:=Vu.none_of (by rw[<-l];calc r m);calc Rb I.xS O (c.get m) k.at_ k.fn d h
def Fv{Q:Unit->ug->Prop}(I:Inv X fL Z H s)(e:H a=@(.ins C dx fs))(c:wA X.K C)(n:WG X.K C f)(v:-fs<1000)(l:QL y u)
 (h:∀s',Inv X fL Z (upd H a (.ins C dx (QD f y fs))) s'->Q .unit s'):wpAny (model X.prog X.w) A (setAttr (.ref a) f u) Q E s:=by
 let#[i,O,r,j,_,k]:=Gb I.hok e;let hz:-(fs.map (·.1))<=sizeLine:=by rw[qh,jw];omega
 calc Sd I.xS O c.sa c.po n.taker c.hd j hz λh' d sb=>h _ ?_;let hd:∃o,h'.get? dx=some o:=let ⟨o,_,_,m,_⟩:=d.ns;#[o,m];calc I.write (x:=a) (e:=dx) (e<|True.intro) (.inr k) (λb q p z=>(sb.2 b p).trans z) hd ?_;erw[Qa O.ne<|k,?_,O.ne,d.obj,_,d.ns,λg=>?_,λg t=>?_]
 .have:=KW f y fs;omega
 .show Vu ((QD f y fs).lookup g) (if g=f then some u else i g);rw[KS];by_cases q:g=f
  .rw[qE q,qE q];exact l
  .rw[qC q,qC q];exact r g
 .by_cases q:g=f
  .rw[q];exact(Km f y fs).1
  .refine(Km f y fs).2 g (j g λz=>t ?_);show(if g=f then some u else i g)=none;rw[qC q];calc z
def Inv.made(I:Inv X fL Z H s):Inv X fL Z (upd (upd H (!s) (.own ((!s)+1))) ((!s)+1) (.ins C (!s) []))
 {s with heap:=(s.heap.push emptyDict).push (instObj C (!s))}:=by
 let c:(s.heap.push emptyDict).get? (!s)=some emptyDict:=qH s.heap rfl;let d:((s.heap.push emptyDict).push (instObj C (!s))).get? ((!s)+1)=@(instObj C (!s)):=by
  have:=qH (s.heap.push emptyDict) (o:=instObj C (!s)) rfl;rwa[j8] at this
 let f:(s.heap.push emptyDict).Ns (!s) (λ_=>none):={emptyDict,#[],_,c,U,(λe he=>absurd he (by simp)),λ_=>rfl};let g:=I.laid (a:=(!s)) (o:=.own ((!s)+1)) (h':=s.heap.push emptyDict) (t':=s.toks) (λb u q=>qt _ q) (qr _) {_,c};calc g.laid (a:=(!s)+1) (o:=.ins C (!s) []) (t':=s.toks) (λb u q=>qt _ q) (xj (j8 _ _)) ?_;let ne:(!s)≠(!s)+1:=zc (kA _);erw[by rw[Qa ne,Qd],qR _,ne,d,λ_=>none,(Heap.Ns1.of_empty f).at λo q=>qt _ q,λ_=>True.intro,λy h=>absurd rfl h]
def TK{prog:uh}{env:Env}{f:qb}{s:ug}{Q:qf}(b:attributeBase e f env (eval e env)=eval e env)
 (h:wpAny (model prog w) A (eval e env) (λo a=>wpAny (model prog w) A (getAttr o f true) Q E a) E s):wpAny (model prog w) A (eval (.Attribute e f pos) env) Q E s:=
 Attribute_any_ h (by rw[arm_eval_Attribute,b])
end
inductive NS(K:Frag)(f:qb)(Q:VK)(x:V)(H1:Hp):Prop
 |mk:∀a C dx fs v,x=.ref a->H1 a=some (.ins C dx fs)->wA K C->WG K C f->fs.lookup f=some v->Q v H1->NS K f Q x H1
def c0(K:Frag)(a:TE)(f:qb):TE:=λZ H Q=>a Z H λx H1=>NS K f Q x H1
inductive Ov(K:Frag)(f:qb)(D:VL)(Z:St)(y:V)(x:V)(H2:Hp):Prop
 |mk:∀a C dx fs,x=.ref a->H2 a=some (.ins C dx fs)->wA K C->WG K C f->-fs<1000->D.nx Z (upd H2 a (.ins C dx (QD f y fs)))->Ov K f D Z y x H2
def sFld(K:Frag)(a b:TE)(f:qb):TS:=λD Z H=>b Z H λy H1=>a Z H1 λx c=>Ov K f D Z y x c
section
variable {X:Cx}{o e value:Expr}{f:qb}{pos pos' tpos:Pos}{ta tv:TE}
def Qj(he:PE X e ta)(b:attributeBase e f X.env (eval e X.env)=eval e X.env):PE X (.Attribute e f pos) (c0 X.K ta f):=by
 intro fL s Z H Q I h;calc TK b (jf (he fL s Z H _ I h) λu s1 #[x,H1,d,g,a,C,m,o,v,ex,i,c,n,l,q]=>?_);subst ex;obtain rfl:u=Value.ref a:=g;calc Ho d i c n l λp s2 j k=>#[v,H1,j,k,q]
def Q6(b:PE X o ta)(d:PE X value tv)(e:swapsWith value (@(.Attribute o f pos')) pos.line X.env=pure false):PS X (.Assign [.Attribute o f pos'] value pos) (sFld X.K ta tv f):=by
 intro fL s Z H D I h;calc plainObj_wpAny_Assign_Attribute (jf (d fL s Z H _ I h) λu s1 #[y,H1,g,i,q]=>jf (b fL s1 Z H1 _ g q) λj s2 #[x,v,k,m,a,C,w,z,ex,p,c,n,l,r]=>?_) e;subst ex;obtain rfl:j=Value.ref a:=m;calc Fv k p c n l i λs3 t=>{Z,_,t,r}
end
section
variable {X:Cx}{fL:qa (qc×Obj)}{Z:St}{H:Hp}{s:ug}{A:uj}{E:qf}{Q:qf}{c:qd}{b:Bool}
inductive VF(K:Frag)(H:Hp):V->qd->Prop where
 |non:VF K H .non (.type "NoneType")
 |bl (x:Bool):VF K H (.bl x) (.type "bool")
 |int (i:Int):VF K H (.int i) (.type "int")
 |str (x:qb):VF K H (.str x) (.type "str")
 |flt (x:UInt64):VF K H (.flt x) (.type "float")
 |lst {a:qc} {xs:qa V} (e:H a=some (.lst xs)):VF K H (.ref a) (.type "list")
 |jM {a:qc} {o:Obj} {xs:qa V} (e:H a=some (.jM o (.lst xs))):VF K H (.ref a) (.type "list")
 |tup {a:qc} {xs:qa V} (e:H a=some (.tup xs)):VF K H (.ref a) (.type "tuple")
 |dK {a:qc} {fN:qa (Key×V)} (e:H a=some (.dK fN)):VF K H (.ref a) (.type "dict")
 |dT {a:qc} {fN:qa (qa Key×V)} (e:H a=some (.dT fN)):VF K H (.ref a) (.type "dict")
 |ins {a C dx:qc} {fs:qa (qb×V)} (e:H a=some (.ins C dx fs)) (cl:wA K C) (ha:findIn K (.ref C) "__class__"=some (some (.builtin "object.__class__")))
   (hn:PySem.W.specialIn K (.builtin "object.__class__") "__get__"=@(@(.builtin "getset_descriptor.__get__"))) (htk:PySem.W.takesIn K (.builtin "object.__class__")=some true)
   (hm:PySem.W.mroIn K C (.type "object")=some true):VF K H (.ref a) (.ref C)
def M9{x:V}{t:qd}(I:Inv X fL Z H s)(d:QL x u)(ty:VF X.K H x t)(e:kitOne X.K t c=some b)(h:∀l,Q (.bool b) {s with toks:=l}) :
 wpAny (model X.prog X.w) A (call (.builtin "isinstance") [u,c]) Q E s:=by
 cases ty with
 |non=>cases (show u=Value.none from d);calc kia_one PySem.W.kitx_none I.xS True.intro e nofun h
 |bl y=>cases (show u=Value.bool y from d);calc kia_one PySem.W.kitx_bool I.xS True.intro e nofun h
 |int i=>let#[t,q]:=(show ∃t,u=Value.int i t from d);cases q;calc kia_one PySem.W.kitx_int I.xS True.intro e nofun h
 |str y=>let#[t,q]:=(show ∃t,u=Value.str y t from d);cases q;calc kia_one PySem.W.kitx_str I.xS True.intro e nofun h
 |flt y=>let#[t,q]:=(show ∃t,u=Value.float y t from d);cases q;calc kia_one PySem.W.kitx_float I.xS True.intro e nofun h
 |@lst a xs f=>
  cases (show u=Value.ref a from d);let#[_,_,n,_,g]:=(show QU X.prog X.w H s.heap a (.lst xs) from I.hok a _ f);calc kia_one kitx_list I.xS {_,g,U} e nofun h
 |@jM a j xs f=>
  cases (show u=Value.ref a from d);let#[_,_,_,n,_,g]:=(show QU X.prog X.w H s.heap a (.jM j (.lst xs)) from I.hok a _ f);calc kia_one kitx_list I.xS {_,g,U} e nofun h
 |@tup a xs f=>
  cases (show u=Value.ref a from d);let#[_,_,_,p]:=(show QU X.prog X.w H s.heap a (.tup xs) from I.hok a _ f);let#[o,g,k,_]:=p;calc kia_one PySem.W.kitx_tuple I.xS #[o,g,k] e nofun h
 |@dK a j f=>
  cases (show u=Value.ref a from d);let#[_,_,vs,_,p]:=(show QU X.prog X.w H s.heap a (.dK j) from I.hok a _ f);let#[o,es,m,g,k,_]:=p;calc kia_one kitx_dict I.xS #[o,g,k.1] e nofun h
 |@dT a j f=>
  cases (show u=Value.ref a from d);let#[_,_,xs,_,o,es,m,g,k,_]:=(show QU X.prog X.w H s.heap a (.dT j) from I.hok a _ f);calc kia_one kitx_dict I.xS #[o,g,k.1] e nofun h
 |@ins a C m r f cl j k g hm=>
  cases (show u=Value.ref a from d);let#[v,O,_]:=Gb I.hok f;let#[w,J,_]:=O.look;calc kia_one (PySem.W.kitx_own (cl.get _) cl.hd j k g hm) I.xS J e nofun h
end
structure Yu(k:Nat)(A:uj):Prop where
 hd:A.handled=none
 dp:A.depth+3*k+5<recursionLimit
 un:A.units+16*k+200<cLine
 gd:A.guards=some []
def Yu.mono{j k:Nat}(r:Yu k A)(h:j<=k:=by decide):Yu j A:={r.hd,by have:=r.dp;omega,by have:=r.un;omega,r.gd}
def Yu.deeper{k:Nat}(r:Yu (k+1) A)(env:Env):Yu k (A.deeper env):=
 {r.hd,by have:=r.dp;show A.depth+1+3*k+5<_;omega,by have:=r.un;show A.units+3+16*k+200<_;omega,r.gd}
def Yu.in1{k:Nat}(r:Yu (k+1) A):Yu k A.in1:=
 {r.hd,by have:=r.dp;show A.depth+3*k+5<_;omega,by have:=r.un;show A.units+1+16*k+200<_;omega,r.gd}
def F7    :(A.under (.builtin "type.__call__" {.ref C::us,kw})).depth=A.depth+1:=by
 first|rfl|simp[Around.under,Code.weight,Code.isCreation,Code.isGuard,Code.isCaller,Code.frames,Code.isFrame,guardIds]
def F6    :(A.under (.builtin "type.__call__" {.ref C::us,kw})).units=A.units+1:=by
 first|rfl|simp[Around.under,Code.cUnits,Code.frames,Code.isFrame]
def Em(h:A.guards=some []):(A.under (.builtin "type.__call__" {.ref C::us,kw})).guards=some []:=by
 first|calc h|simp[Around.under,Code.guards,Code.isGuard,pushGuards,guardIds,h]
def Yu.make{k:Nat}(r:Yu (k+1) A)(C:qc)(us:qg)(kw:qa (qb×qd)):Yu k (A.under (.builtin "type.__call__" {.ref C::us,kw})):=
 {r.hd,by have:=r.dp;rw[F7];omega,by have:=r.un;rw[F6];omega,Em r.gd}
def Yu.depth{k:Nat}(r:Yu k A):A.depth<recursionLimit:=by have:=r.dp;omega
def Yu.units{k:Nat}(r:Yu k A):A.units+64<cLine:=by have:=r.un;omega
def Yu.uo{k:Nat}(r:Yu k A):A.units<cLine:=by have:=r.un;omega
def Mi:TA:=λ_ H Q=>Q [] H
def CZ(a:TE)(b:TA):TA:=λZ H Q=>a Z H λx H1=>b Z H1 λxs c=>Q (x::xs) c
section
variable {X:Cx}{e:Expr}{es:qa Expr}{te:TE}{t:TA}{pos:Pos}
def Qg:PA X [] Mi:=λ_ _ _ _ H Q I h=>jW {[],H,I,.nil,h}
def Lp(a:PE X e te)(b:PA X es t)(c:starEach (e::es) X.env=(false,eval e X.env)::starEach es X.env:=by rfl):PA X (e::es) (CZ te t):=by
 intro pos fL s Z H Q I h;rw[c];show wpAny _ _ (spliced ((false,eval e X.env)::backTo pos (starEach es X.env))) _ _ s;calc jh (jf (a fL s Z H _ I h) λu s1 #[x,H1,d,f,g]=>?_);calc jf (b pos fL s1 Z H1 _ d g) λus s2 #[xs,i,j,k,l]=>{x::xs,i,j,.cons f k,l}
def aQ(t:TA):TE:=λZ H Q=>t Z H λxs H1=>-xs<=sizeLine/\∀p,H1 p=none->Q (.ref p) (upd H1 p (.tup xs))
def cZ(t:TA):TE:=λZ H Q=>t Z H λxs H1=>-xs<=sizeLine/\∀p,H1 p=none->Q (.ref p) (upd H1 p (.lst xs))
def bp{c}(h:PA X es t):PE X (.Tuple es c pos) (aQ t):=by
 intro fL s Z H Q I d;calc wpAny_Tuple_spliced (jf (h pos fL s Z H _ I d) λus s1 #[xs,H1,a,r,z,q]=>{by rw[<-(-r)];calc z,?_});let hf:H1 (!s1)=none:=a.hok.fresh (qr _);erw[.ref (!s1),upd H1 (!s1) (.tup xs),a.laid (t':=s1.toks) (λb u e=>qt _ e) (qr _) ?_,U,q _ hf];calc{z,us,r,{_,qH _ rfl,4}}
def bu(h:PA X es t):PE X (.List es pos) (cZ t):=by
 intro fL s Z H Q I c;calc wpAny_List_spliced (jf (h pos fL s Z H _ I c) λus s1 #[xs,H1,a,r,z,q]=>{by rw[<-(-r)];calc z,?_});let hf:H1 (!s1)=none:=a.hok.fresh (qr _);erw[.ref (!s1),upd H1 (!s1) (.lst xs),a.laid (t':=s1.toks) (λb u e=>qt _ e) (qr _) ?_,U,q _ hf];calc{z,us,(0),r,qH _ rfl}
end
abbrev Sp:=qa V->Hp->VK->XK->Prop
abbrev gj:=qa Env->Hp->ug->XK->qd->ug->Prop
structure AS(P:uh)(w:ui)(K:Frag)(mg:qb->uf qd)(base:Heap)(A:uj)(outer:qa Env)(s:ug)(H:Hp):Prop where
 frames:A.frames=some outer
 mod:Mod K mg base
 bs:∀b o,base.get? b=some o->s.heap.get? b=some o/\H b=none
 gr:base.objs.size<=(!s)
 xU:s.heap.FunFrames base outer
 g6:∀b∈frs outer,H b=none
 hok:y4 P w H s.heap
 bare:AllBare s.gens
def CE(outer:qa Env)(P:uh)(w:ui)(H:Hp)(s:ug)(Q:VK)(u:qd)(s':ug):Prop:=
 ∃v H',s'.os=s.os/\AllBare s'.gens/\Un (frs outer) [] H H' s.heap s'.heap/\y4 P w H' s'.heap/\QL v u/\Q v H'
def CR(a:gj)(outer:qa Env)(P:uh)(w:ui)(H:Hp)(s:ug)(Q:VK)(E:XK)(r:Result)(s':ug):Prop:=
 match r with
 |.ok (.ret u)=>CE outer P w H s Q u s'
 |.ok _=>False
 |.error e=>a outer H s E e s'
structure VJ(P:uh)(w:ui)(K:Frag)(mg:qb->uf qd)(base:Heap)(CX:gj)(k:Nat)(f:qc)(fd:FuncData)(ps:qe)(sp:Sp):Prop where
 len:∀vs H Q E,sp vs H Q E->-vs=-ps
 run:∀(A:uj)(outer:qa Env)(s:ug)(H:Hp)(args:Args)(us:qg)(vs:qa V)(Q:VK)(E:XK),Yu k A->AS P w K mg base A outer s H->BindsTo s fd args (ps.zip us)->QF vs us->sp vs H Q E ->
  codeAny (model P w) A (.call (.ref f) args) (CR CX outer P w H s Q E) s
def AS.make{K:Frag}(e:AS P w K mg base A outer s H)(C:qc)(us:qg)(kw:qa (qb×qd)) :
 AS P w K mg base (A.under (.builtin "type.__call__" {.ref C::us,kw})) outer s H:={by first|calc e.frames|(simpa[Around.under,Code.envs,Code.isFrame,pushEnvs] using e.frames),e.mod,e.bs,e.gr,e.xU,e.g6,e.hok,e.bare}
def AS.in1{K:Frag}(e:AS P w K mg base A outer s H) :
 AS P w K mg base A.in1 outer s H:=#[e.frames,e.mod,e.bs,e.gr,e.xU,e.g6,e.hok,e.bare]
section
variable {X:Cx}{fL:qa (qc×Obj)}{Z:St}{H:Hp}{s s':ug}
def Inv.env0(I:Inv X fL Z H s):AS X.prog X.w X.K X.mg X.base X.A X.stack s H:=
 {I.ok.frames,I.ok.mod,I.bs,qQ I.ok.gr I.sz,I.stack,I.we,I.hok,I.bare}
def Inv.after(I:Inv X fL Z H s)(h:CE X.stack X.prog X.w H s Q u s'):EP X fL Z Q u s':=by
 let#[v,H',os,bare,un,hok,r,q]:=h;let#[c,g,d,t,a]:=s';obtain rfl:a=s.os:=os;calc{v,H',I.call (h':=c) (g':=g) (d':=d) (t':=t) (ch:=[]) un hok bare (λb z=>absurd z (by simp)),r,q}
end
def TZ(sp:Sp)(a:qa V)(E:XK)(t:TA):TE:=λZ H Q=>t Z H λvs H1=>sp (vs++a) H1 Q E
inductive HY(C:qc)(m:qb)(sp:Sp)(vj:qa V)(E:XK)(t:TA)(Z:St)(Q:VK)(x:V)(H1:Hp):Prop
 |mk:∀a dx fs,x=.ref a->H1 a=some (.ins C dx fs)->fs.lookup m=none->(t Z H1 λvs H2=>sp (x::(vs++vj)) H2 Q E)->HY C m sp vj E t Z Q x H1
def HZ(C:qc)(m:qb)(sp:Sp)(a:qa V)(E:XK)(b:TE)(t:TA):TE:=λZ H Q=>b Z H λx H1=>HY C m sp a E t Z Q x H1
def NR(C:qc)(sp:Sp)(b:qa V)(E:XK)(t:TA):TE:=λZ H Q=>t Z H λvs H1=>∀x a,H1 x=none->H1 a=none->a≠x ->
 sp (.ref x::(vs++b)) (upd (upd H1 a (.own x)) x (.ins C a [])) (λv c=>v=.non/\Q (.ref x) c) E
def YN(K:Frag)(fd:FuncData)(a:qe)(ds:qg):Prop:=
 ∀(s:ug)(us:qg),K.In s.heap->-(us++ds)=-a->BindsTo s fd {us,[]} (a.zip (us++ds))
def YN.all{K:Frag}{fd:FuncData}{a:qe}(h:∀us:qg,-us=-a->bindArgs fd {us,[]}=pure (a.zip us)):YN K fd a []:=λs us _ b=>by
 rw[zS] at b⊢;calc .of_eq (h us b)
def WE(a:gj)(X:Cx)(E:XK):Prop:=∀(fL:qa (qc×Obj))(Z:St)(H:Hp)(s:ug)(e:qd)(s':ug),Inv X fL Z H s->a X.stack H s E e s'->X.xe e s'
section
variable {X:Cx}{CX:gj}{k:Nat}{f C:qc}{fd:FuncData}{ps:qe}{sp:Sp}{vj:qa V}{ds:qg}{E:XK}{x m:qb}{p pos apos:Pos}{e o:Expr}{es:qa Expr}{ta:TE}{t:TA}
def Fw(F:VJ X.prog X.w X.K X.mg X.base CX k f fd ps sp)(c:Yu k X.A)(d:YN X.K fd ps ds)(hd:QF vj ds)(g:WE CX X E)
 (I:Inv X fL Z H s) (r:QF vs us) (h:sp (vs++vj) H Q E):wpAny (model X.prog X.w) X.A (call (.ref f) us) (EP X fL Z Q) X.xe s:=by
 let b:QF (vs++vj) (us++ds):=r.append hd;let i:-(us++ds)=-ps:=by rw[<-(-b)];exact F.len _ _ _ _ h
 refine wpAny_call (yg (F.run X.A X.stack s H {us,[]} (us++ds) (vs++vj) Q E c I.env0 (d s us I.xS i) b h) λr s' a=>?_)
 cases r with
 |error e=>calc g fL Z H s e s' I a
 |ok j=>
  cases j with
  |ret u=>calc I.after a
  |next=>calc False.elim a
  |brk=>calc False.elim a
  |cont=>calc False.elim a
def Lo(F:VJ X.prog X.w X.K X.mg X.base CX k f fd ps sp)(d:Yu k X.A)(g:Gl X x)(hm:X.mg x=@(.ref f))(i:keepIn X.K (.ref f)=true)(j:YN X.K fd ps ds)(hd:QF vj ds)(l:WE CX X E)
 (m:PA X (e::es) t) (a:(x==("__debug__":qb))=false:=by decide) (he:starEach (e::es) X.env=(false,eval e X.env)::starEach es X.env:=by rfl) (b:(backTo pos (starEach es X.env)).any (·.1)=false:=by rfl) :
 PE X (.Call (.Name x p) (e::es) [] pos) (TZ sp vj E t):=by
 intro fL s Z H Q I h;calc jR (XS I g hm ?_ a);calc callWith_K (h₀:=X.base) I.ok.mod.uB i (jf (m pos fL s Z H _ I h) λus s1 #[vs,H1,c,r,q]=>{c.xS,?_}) he b;calc Fw F d j hd l c r q
def WN(he:PE X o ta)(c:wA X.K C)(hm:Nw X.K C m f)(F:VJ X.prog X.w X.K X.mg X.base CX k f fd ps sp)(n:Yu k X.A)(p:YN X.K fd ps ds)(hd:QF vj ds)(v:WE CX X E)(w:PA X (e::es) t)
 (b:starEach (e::es) X.env=(false,eval e X.env)::starEach es X.env:=by rfl) (d:(backTo pos (starEach es X.env)).any (·.1)=false:=by rfl)
 (y:eval (.Call (.Attribute o m apos) (e::es) [] pos) X.env=(do
   let g <-eval o X.env
   standAt apos.atName
   let (f,first) <-holding [g] (getMethod g m pl)
   callWith pos f first (backTo pos (starEach (e::es) X.env)) (backToKw pos (keywordEach [] X.env))):=by rfl) :
 PE X (.Call (.Attribute o m apos) (e::es) [] pos) (HZ C m sp vj E ta t):=by
 intro fL s Z H Q I h;calc PySem.W.methodCall_KW (pl:=pl) (jf (he fL s Z H _ I h) λu s1 #[x,H1,i,z,a,D,G,ex,A,l,q]=>?_) y;subst ex;obtain rfl:u=Value.ref a:=z;calc Al i A c hm l ?_;calc callWith_K (first:=[.ref a]) (h₀:=X.base) I.ok.mod.uB hm.kp (jf (w pos fL s1 Z H1 _ i q) λus s2 #[vs,J,j,r,B]=>{j.xS,?_}) b d;calc Fw (us:=.ref a::us) (vs:=.ref a::vs) F n p hd v j (.cons rfl r) B
def DN(he:PE X o ta)(c:wA X.K C)(hm:Nw X.K C m f)(F:VJ X.prog X.w X.K X.mg X.base CX k f fd ps sp)(e:Yu k X.A)(g:YN X.K fd ps ds)(hd:QF vj ds)(i:WE CX X E)
 (j:eval (.Call (.Attribute o m apos) [] [] pos) X.env=(do
   let d <-eval o X.env
   standAt apos.atName
   let (f,first) <-holding [d] (getMethod d m pl)
   callWith pos f first (backTo pos (starEach [] X.env)) (backToKw pos (keywordEach [] X.env))):=by rfl) :
 PE X (.Call (.Attribute o m apos) [] [] pos) (HZ C m sp vj E ta Mi):=by
 intro fL s Z H Q I h;calc PySem.W.methodCall_KW (pl:=pl) (jf (he fL s Z H _ I h) λu s1 #[x,H1,b,n,a,r,t,ex,p,l,q]=>?_) j;subst ex;obtain rfl:u=Value.ref a:=n;calc Al b p c hm l ?_;calc callWith_K0 (first:=[.ref a]) b.xS hm.kp (Fw (us:=[.ref a]) (vs:=[.ref a]) F e g hd i b (.cons rfl .nil) q)
structure Mk(K:Frag)(C f:qc):Prop where
 makes:makesIn K C=true
 init:findIn K (.ref C) "__init__"=@(@(.ref f))
 fn:isFn K (.ref f)=true
 kp:keepIn K (.ref C)=true
def Dy(M:Mk X.K C f)(F:VJ X.prog X.w X.K X.mg X.base CX k f fd ps sp)(i:Yu (k+1) X.A)(j:YN X.K fd ps ds)(hd:QF vj ds)
 (l:WE CX X E) (I:Inv X fL Z H s) (r:QF vs us)
 (h:∀x b,H x=none->H b=none->b≠x->sp (.ref x::(vs++vj)) (upd (upd H b (.own x)) x (.ins C b [])) (λv m=>v=.non/\Q (.ref x) m) E) :
 wpAny (model X.prog X.w) X.A (call (.ref C) us) (EP X fL Z Q) X.xe s:=by
 let d:=h ((!s)+1) (!s) (I.hok.fresh (jt _)) (I.hok.fresh (qr _)) (zc (kA _));let c:=Inv.made (C:=C) I;let g:QF (V.ref ((!s)+1)::(vs++vj)) (Value.ref ((!s)+1)::(us++ds)):=.cons rfl (r.append hd);let n:-(Value.ref ((!s)+1)::us++ds)=-ps:=by
  let e:=-g;rw[F.len _ _ _ _ d] at e;exact e.symm
 refine wpAny_call (Pu (f:=f) I.xS M.makes M.init (yw.mp M.fn) (yg (F.run _ X.stack _ _ {Value.ref ((!s)+1)::us,[]} (Value.ref ((!s)+1)::(us++ds)) _ _ E (i.make C us [])
  (c.env0.make C us []) (j _ (Value.ref ((!s)+1)::us) c.xS n) g d) λr s' a=>?_))
 cases r with
 |error e=>calc l fL Z _ _ e s' c a
 |ok o=>
  cases o with
  |ret u=>
   let#[v,H',p,q,ev,t]:=c.after a;subst ev;calc{q,{V.ref ((!s)+1),H',p,U,t}}
  |next=>calc False.elim a
  |brk=>calc False.elim a
  |cont=>calc False.elim a
def Lm(M:Mk X.K C f)(F:VJ X.prog X.w X.K X.mg X.base CX k f fd ps sp)(d:Yu (k+1) X.A)(g:Gl X x)(hm:X.mg x=@(.ref C))(i:YN X.K fd ps ds)(hd:QF vj ds)(j:WE CX X E)
 (l:PA X (e::es) t) (a:(x==("__debug__":qb))=false:=by decide) (he:starEach (e::es) X.env=(false,eval e X.env)::starEach es X.env:=by rfl) (b:(backTo pos (starEach es X.env)).any (·.1)=false:=by rfl) :
 PE X (.Call (.Name x p) (e::es) [] pos) (NR C sp vj E t):=by
 intro fL s Z H Q I h;calc jR (XS I g hm ?_ a);calc callWith_K (h₀:=X.base) I.ok.mod.uB M.kp (jf (l pos fL s Z H _ I h) λus s1 #[vs,H1,c,r,q]=>{c.xS,?_}) he b;calc Dy M F d i hd j c r q
def Wl(M:Mk X.K C f)(F:VJ X.prog X.w X.K X.mg X.base CX k f fd ps sp)(b:Yu (k+1) X.A)(c:Gl X x)(hm:X.mg x=@(.ref C))(d:YN X.K fd ps ds)(hd:QF vj ds)(e:WE CX X E)
 (a:(x==("__debug__":qb))=false:=by decide):PE X (.Call (.Name x p) [] [] pos) (NR C sp vj E Mi):=by
 intro fL s Z H Q I h;calc jR (XS I c hm ?_ a);calc callWith_K0 I.xS M.kp (Dy (us:=[]) M F b d hd e I .nil h)
end
structure Wc(N P:qe)(sc:Scope):Prop where
 kind:sc.kind=.function
 co:sc.isCoroutine=false
 gen:sc.isGenerator=false
 nd:N.Nodup
 pre:N.take (-P)=P
 par:∀x∈P,sc.names.lookup x=some .local\/sc.names.lookup x=some .cell
 ux:∀y∈sc.names,y.2≠.free
def BQ{kindOf:qb->uf NameKind}{x:qb}:∀{binds:qa (qb×qd)}{m:qb->uf qd},(∀v,(x,v)∉binds)->bindL kindOf binds m x=m x
 |[],_,_=>rfl
 |(n,v)::r,m,h=>by
  unfold bindL;rw[BQ λw hw=>h w (qy _ hw)];split
  .have:x≠n:=by rintro rfl;exact h v qA
   simp[this]
  .rfl
def BS{kindOf:qb->uf NameKind}{x:qb}:∀{binds:qa (qb×qd)}{m:qb->uf qd},(∀v,(x,v)∉binds)->bindC kindOf binds m x=m x
 |[],_,_=>rfl
 |(n,v)::r,m,h=>by
  unfold bindC;rw[BS λw hw=>h w (qy _ hw)];split
  .rfl
  .have:x≠n:=by rintro rfl;exact h v qA
   simp[this]
def BR{kindOf:qb->uf NameKind}{x:qb}{v:qd}:∀{P:qe}{vs:qg}{i:Nat}{m:qb->uf qd},P.Nodup->P[i]?=some x->vs[i]?=some v->kindOf x=some .local ->
 bindL kindOf (P.zip vs) m x=some v
 |[],_,_,_,_,h,_,_=>by simp at h
 |_::_,[],_,_,_,_,h,_=>by simp at h
 |p::P,w::vs,0,m,c,a,b,d=>by
  simp at a b;subst a;subst b;show bindL kindOf ((p,w)::P.zip vs) m p=_;unfold bindL;rw[BQ λv e=>(zN.mp c).1 (List.of_mem_zip e).1,qE d];simp
 |p::P,w::vs,i+1,m,c,a,b,d=>by
  show bindL kindOf ((p,w)::P.zip vs) m x=_;unfold bindL;calc BR (i:=i) (zN.mp c).2 (by simpa using a) (by simpa using b) d
def BU{kindOf:qb->uf NameKind}{x:qb}{v:qd}:∀{P:qe}{vs:qg}{i:Nat}{m:qb->uf qd},P.Nodup->P[i]?=some x->vs[i]?=some v->kindOf x≠some .local ->
 bindC kindOf (P.zip vs) m x=some v
 |[],_,_,_,_,h,_,_=>by simp at h
 |_::_,[],_,_,_,_,h,_=>by simp at h
 |p::P,w::vs,0,m,c,a,b,d=>by
  simp at a b;subst a;subst b;show bindC kindOf ((p,w)::P.zip vs) m p=_;unfold bindC;rw[BS λv e=>(zN.mp c).1 (List.of_mem_zip e).1,qC d];simp
 |p::P,w::vs,i+1,m,c,a,b,d=>by
  show bindC kindOf ((p,w)::P.zip vs) m x=_;unfold bindC;calc BU (i:=i) (zN.mp c).2 (by simpa using a) (by simpa using b) d
def start(N:qe)(vs:qa V):St:=vs.map some++List.replicate (-N-(-vs)) none
def EL(b:gj)(P:uh)(w:ui)(K:Frag)(mg:qb->uf qd)(base:Heap)(N:qe)(qual:qb)(scope:Scope)(f:qc)(cd:qd)(A:uj)(outer:qa Env)(s:ug)(H:Hp)(E:XK):Cx where
 prog:=P
 w:=w
 K:=K
 mg:=mg
 base:=base
 A:=A.deeper (envOfC qual scope (!s) f cd)
 N:=N
 s₀:=s
 H₀:=H
 env:=envOfC qual scope (!s) f cd
 outer:=outer
 stack:=envOfC qual scope (!s) f cd::outer
 ex:=[]
 calm:=true
 fn:=λ_=>true
 pn:=[]
 xe:=λe s'=>wpAny (model P w) (A.deeper (envOfC qual scope (!s) f cd)) (leaving (envOfC qual scope (!s) f cd) e) (λ_ a=>b outer H s E e a) (λc a=>b outer H s E c a) s'
def EU{sc:Scope}(h:sc.names.lookup x=some .cell):∃c,(cellsFrom n sc.names []).lookup x=some c:=by
 let q:=PySem.W.cellsFrom_some sc.names n [] (.inl h);calc Option.isSome_iff_exists.mp q
def Nb{C:gj}{K:Frag}{N j:qe}{qual:qb}{scope:Scope}{f:qc}{cd:qd}{s1:ug}{E:XK}
 (S:Wc N j scope) (hd:A.handled=none) (g:AS P w K mg base A outer s H) (L:-vs=-j) (r:QF vs us)
 (x:InCallC s (!s) (bindL (envOfC qual scope (!s) f cd).kindOf (j.zip us) λ_=>none) (cellsFrom ((!s)+1) scope.names []) (bindC (envOfC qual scope (!s) f cd).kindOf (j.zip us) λ_=>none) s1) :
 Inv (EL C P w K mg base N qual scope f cd A outer s H E) [] (start N vs) H s1:=by
 let G:-j<=-N:=by have:=zp List.length S.pre;rw[zC] at this;omega
 let#[B,M,U,D]:=x.done;let l:∀b:qc,b∉(EL C P w K mg base N qual scope f cd A outer s H E).ex:=λb z=>absurd (show b∈([]:qa qc) from z) (by simp);refine⟨{g.mod,S.kind,7,qr _,λy z c B d=>?_,λy m=>?_,λy c _ h=>?_,λ_=>hd,Around.frames_deeper g.frames,.inr #[U,U],λb z=>absurd z (l b),g.bs,g.gr,λb _ _=>l b,λb z=>absurd z (l b),g.xU,g.g6},
  rfl,g.bare,Un.kept D,{_,x.toInCall.ns,λi y v B d t=>?_},λy c h=>{_,x.cell y c h},g.hok.fresh (qr _),λy c h=>?_,λp o=>absurd (show p∈([]:qa (qc×Obj)) from o) (by simp),g.hok.kept D,?_⟩
 .exact name_of_addr x.apart (jr B) (jr d)
 .have m:scope.names.lookup y=some .cell\/scope.names.lookup y=some .free:=m;obtain m|m:=m
  .exact EU m
  .exact absurd rfl (S.ux _ (jr m))
 .exact jQ (x.above y c (jr h))
 .have hi:i< -vs:=by
   unfold start at d;by_cases hi:i< -vs
   .exact hi
   .rw[jc (by simpa using hi)] at d;rw[List.getElem?_replicate] at d;split at d<;>cases d
  let I:vs[i]?=some v:=by
   unfold start at d;rw[ju (by simpa using hi),qD] at d
   cases e:vs[i]? with
   |none=>rw[e] at d;cases d
   |some a=>rw[e] at d;cases d;rfl
  let#[u,F,J]:=r.get I;let o:j[i]?=some y:=by
   rw[<-S.pre,List.getElem?_take_of_lt ()];exact B
  let t:j.Nodup:=by rw[<-S.pre];exact S.nd.sublist (List.take_sublist _ _)
  erw[u,J,?_];obtain k|k:=S.par y (ze o)
  .exact .inl {k,BR t o F k}
  .let#[c,e]:=EU (n:=(!s)+1) k;calc .inr {.inl k,c,e,?_};let q:=x.cell y c e;rw[BU t o F (by show scope.names.lookup y≠_;rw[k];decide)] at q;exact q
 .exact g.hok.fresh (jQ (x.above y c (jr h)))
 .unfold start;show _=-N;rw[qo,qh,List.length_replicate];omega
def az{j:gj}{K:Frag}{k:Nat}{f:qc}{name qual:qb}{params:Arguments}{scope:Scope}{D kV doc pm a ct G:qd}{an L:uf qc}
 {p:uk (uf qd)} {N l:qe} {sp:Sp} (lk:K.lookup f=some {G,L,.func (fnOf name qual params body scope D kV doc pm an a ct),p}) (z:codeIn K a qual=true) (S:Wc N l scope)
 (len:∀vs H Q E,sp vs H Q E->-vs=-l)
 (c:∀(A:uj)(outer:qa Env)(s:ug)(H:Hp)(vs:qa V)(Q:VK)(E:XK),Yu k (A.deeper (envOfC qual scope (!s) f a))->sp vs H Q E ->
   ∃t,vn (EL j P w K mg base N qual scope f a A outer s H E) body t/\t {nx:=λ_ H'=>Q .non H',rt:=Q} (start N vs) H) :
 VJ P w K mg base j (k+1) f (fnOf name qual params body scope D kV doc pm an a ct) l sp:=by
 erw[len,λA outer s H args us vs Q E B h M r i=>?_];let O:=len _ _ _ _ i;let F:K.In s.heap:=h.mod.uB.keeps λb o e=>(h.bs b o e).1;let lim:s.heap.NoLimit:=h.mod.nolimit.keeps λb o e=>(h.bs b o e).1;let d:∀y∈l.zip us,scope.names.lookup y.1=some .local\/(scope.names.lookup y.1=some .cell/\((cellsFrom ((!s)+1) scope.names []).lookup y.1).isSome=true):=λ#[n,v] R=>by
  obtain q|q:=S.par n (List.of_mem_zip R).1
  .exact .inl q
  .exact .inr {q,PySem.W.cellsFrom_some _ _ _ (.inl q)}
 calc codeAny_call_function B.depth (F _ _ lk) rfl S.co S.gen rfl (PySem.W.codeRec_of F z) (M _ _ _ _ ?_);calc wpAny_newFunctionEnv_cells S.kind d λenv he s1 x=>?_;subst he;erw[lim.keeps x.toInCall.keep,codeAny_func ?_];let#[t,T,X]:=c A outer s H vs Q E (B.deeper _) i;let I:Inv (EL j P w K mg base N qual scope f a A outer s H E) [] (start N vs) H s1:=Nb S B.hd h O r x;calc jy (T [] s1 (start N vs) H _ I X) (λY s' g=>?_) λe s' g=>g;let fin:∀{m:St}{H':Hp}{v:V}{u:qd},Inv (EL j P w K mg base N qual scope f a A outer s H E) [] m H' s'->QL v u->Q v H'->CE outer P w H s Q u s':=
  λ{m H' v u} J C q=>#[v,H',J.os,J.bare,J.base,J.hok,C,q]
 cases Y with
 |ret u=>
  let#[v,m,H',J,C,q]:=g;calc fin J C q
 |next=>
  let#[m,H',J,q]:=g;calc fin (v:=V.non) (u:=Value.none) J rfl q
 |brk=>
  let#[_,_,_,q]:=g;calc False.elim q
 |cont=>
  let#[_,_,_,q]:=g;calc False.elim q
section
variable {X:Cx}{x:qb}{p pos:Pos}{e:Expr}{es:qa Expr}{t:TA}{id T:String}{r:qa V->Hp->VK->Prop}
def tCB(r:qa V->Hp->VK->Prop)(t:TA):TE:=λZ H Q=>t Z H λvs H1=>r vs H1 Q
def Qn(hc:Uk X (.builtin id) r)(c:Gl X x)(hm:X.mg x=none)(d:bootBuiltins x=@(.builtin id))(f:PA X (e::es) t)(g:x≠"__name__":=by decide)(a:(x==("__debug__":qb))=false:=by decide)
 (he:starEach (e::es) X.env=(false,eval e X.env)::starEach es X.env:=by rfl) (b:(backTo pos (starEach es X.env)).any (·.1)=false:=by rfl):PE X (.Call (.Name x p) (e::es) [] pos) (tCB r t):=by
 intro fL s Z H Q I h;calc jR (Xm I c hm d ?_ g a);calc PyProof.Rows.callWith_builtin1 (jf (f pos fL s Z H _ I h) λus s1 #[vs,H1,i,j,k]=>hc fL s1 Z H1 vs us Q i j k) he b
def YC(hc:Uk X (.type T) r)(c:Gl X x)(hm:X.mg x=none)(d:bootBuiltins x=@(.type T))(f:PA X (e::es) t)(g:x≠"__name__":=by decide)(a:(x==("__debug__":qb))=false:=by decide)
 (he:starEach (e::es) X.env=(false,eval e X.env)::starEach es X.env:=by rfl) (b:(backTo pos (starEach es X.env)).any (·.1)=false:=by rfl):PE X (.Call (.Name x p) (e::es) [] pos) (tCB r t):=by
 intro fL s Z H Q I h;calc jR (Xm I c hm d ?_ g a);calc xh (jf (f pos fL s Z H _ I h) λus s1 #[vs,H1,i,j,k]=>hc fL s1 Z H1 vs us Q i j k) he b
end
end L2
namespace HT
open PySem PyProof.Rows
variable {i:Int}
def Ro(A:uj)(s:ug)(a:Int)(t:Tok)(c:Int)(u:Tok):∃e,SeqAt.EqAt A s (.int a t) (.int c u) e/\(e=true↔a=c):=
 {(a==c),SeqAt.EqAt.int_int a t c u,by simp}
section
variable {prog:uh}{w:ui}{A:uj}{E:qf}{s:ug}
def j4(n d:Nat):uf Int->Nat
 |none=>d
 |some v=>if v<0 then (v+(n:Int)).toNat else min v.toNat n
def wZ(n d:Nat):j4 n d none=d:=rfl
def ku(n d k:Nat):j4 n d (@(k:Int))=min k n:=by
 show(if (k:Int)<0 then ((k:Int)+(n:Int)).toNat else min (k:Int).toNat n)=min k n;rw[qC (),jS]
def a5(n d:Nat)(hd:d<=n)(o:uf Int):j4 n d o<=n:=by
 cases o with
 |none=>calc hd
 |some v=>
  show(if v<0 then (v+(n:Int)).toNat else min v.toNat n)<=n;by_cases a:v<0
  .rw[qE a];omega
  .rw[qC a];calc Nat.min_le_right _ _
def cl1(x n:Nat):max (0:Int) (min (x:Int) (n:Int))=((min x n:Nat):Int):=by
 obtain h|h:=Nat.le_total x n
 .rw[yu h,Int.min_eq_left (Int.ofNat_le.mpr h)];exact gB (xx _)
 .rw[gC h,Int.min_eq_right (Int.ofNat_le.mpr h)];calc gB (xx _)
def cl3(h:¬i<0)(n:Nat):max (0:Int) (min i (n:Int))=((min i.toNat n:Nat):Int):=by
 let#[k,U]:=yB (Int.not_lt.mp h);calc cl1 k n
def cl2(h:i<0)(n:Nat):max (0:Int) (min (i+n) (n:Int))=((i+n).toNat:Int):=by
 rw[Int.min_eq_left (show i+n<=(n:Int) by omega),Int.max_comm];calc(Int.toNat_eq_max _).symm
def sb{n:Nat}:max (0:Int) (min (if i<0 then i+n else i) (n:Int))=(((if i<0 then (i+n).toNat else min i.toNat n):Nat):Int):=by
 by_cases h:i<0
 .rw[qE h,qE h];exact cl2 h n
 .rw[qC h,qC h];calc cl3 h n
def L3(v:Int)(n d:Nat):(if v<0 then max (v+(n:Int)) 0 else min v (n:Int))=((j4 n d (some v):Nat):Int):=by
 show(if v<0 then max (v+(n:Int)) 0 else min v (n:Int))=(((if v<0 then (v+(n:Int)).toNat else min v.toNat n):Nat):Int);by_cases a:v<0
 .rw[qE a,qE a];exact(Int.toNat_eq_max _).symm
 .rw[qC a,qC a,<-cl3 a n];calc(gB (Int.le_min.mpr {Int.not_lt.mp a,xx _})).symm
def HD(lo hi:uf Int)(n:Nat):Builtin.Slice.sliceAdjust lo hi 1 (n:Int)=(((j4 n 0 lo:Nat):Int),((j4 n n hi:Nat):Int)):=by
 let a:¬((1:Int)<0):=by omega
 unfold Builtin.Slice.sliceAdjust;simp only[a,jx];refine Prod.ext ?_ ?_
 .cases lo with
  |none=>rfl
  |some v=>exact L3 v n 0
 .cases hi with
  |none=>rfl
  |some v=>calc L3 v n n
def FG(i j:Nat):Builtin.Slice.slicePlaces (i:Int) (j:Int) 1=j-i:=by
 unfold Builtin.Slice.slicePlaces;let a:(1:Int) > 0:=by omega
 simp only[a,yH,Int.ediv_one];split<;>omega
def GB{v:qd}{o:uf Int}{Q:uf Int->ug->Prop}(p:IsPart v o)(h:Q o s):wpAny (model prog w) A (Builtin.Slice.slicePartIndex v) Q E s:=by
 cases p with
 |none=>calc slicePart_none h
 |int i t=>calc slicePart_int h
def VN{sl:qc}{c d:qd}{lo hi:uf Int}{n:Nat}{Q:Int×Int×Nat->ug->Prop}(e:s.heap.IsSliceOf sl c d .none)(pl:IsPart c lo)(pu:IsPart d hi)
 (h:Q (((j4 n 0 lo:Nat):Int),1,j4 n n hi-j4 n 0 lo) s):wpAny (model prog w) A (Builtin.Slice.sliceApplied (.ref sl) (pure (n:Int))) Q E s:=by
 let#[os,a,f,b]:=id e;unfold Builtin.Slice.sliceApplied Builtin.Slice.sliceFields;calc qi (qi (wpAny_field a b (x:=c) rfl (qi (wpAny_field a b (x:=d) rfl (qi (wpAny_field a b (x:=.none) rfl (qv ?_)))))));calc qi (slicePart_none ?_);show wpAny _ _ (if ((1:Int)==0)=true then _ else _) _ _ s;rw[qC ∅];calc qi (GB pl (qi (GB pu (qi (qv ?_)))));show wpAny _ _ (match Builtin.Slice.sliceAdjust lo hi 1 (n:Int) with|(lo,hi)=>pure (lo,(1:Int),Builtin.Slice.slicePlaces lo hi 1)) _ _ s;rw[HD lo hi n];show wpAny _ _ (pure (((j4 n 0 lo:Nat):Int),(1:Int),Builtin.Slice.slicePlaces ((j4 n 0 lo:Nat):Int) ((j4 n n hi:Nat):Int) 1)) _ _ s;rw[FG];calc qv h
def OS(xs:uk qd)(i k:Nat):((List.range k).filterMap λ(m:Nat)=>xs[((i:Int)+(m:Int)*1).toNat]?).toArray=((xs.toList.drop i).take k).toArray:=by
 let e:(λ(m:Nat)=>xs[((i:Int)+(m:Int)*1).toNat]?)=λm=>xs[i+m]?:=by
  funext m;have:((i:Int)+(m:Int)*1).toNat=i+m:=by omega
  rw[this]
 rw[e];have:=pick_run xs i k;rw[List.filterMap_map] at this;let a:((λx=>xs[x]?)∘λx=>i+x)=λm=>xs[i+m]?:=rfl;rw[a] at this;rw[this]
def xM{t sl:qc}{fM:uk qd}{g i:qd}{lo hi:uf Int}{Q:qf}(b:IsTup s.heap t fM)(j:s.heap.IsSliceOf sl g i .none)(pl:IsPart g lo)(pu:IsPart i hi)
 (hw:¬(j4 fM.size 0 lo=0/\j4 fM.size fM.size hi=fM.size))
 (h:Q (.ref (!s)) {s with heap:=s.heap.push {cls:=.type "tuple",data:=.seq ((fM.toList.drop (j4 fM.size 0 lo)).take (j4 fM.size fM.size hi-j4 fM.size 0 lo)).toArray}})
 (hsz:fM.size<=sizeLine):wpAny (model prog w) A (getItem (.ref t) (.ref sl)) Q E s:=by
 let a:sizeOk (.seq ((fM.toList.drop (j4 fM.size 0 lo)).take (j4 fM.size fM.size hi-j4 fM.size 0 lo)).toArray):=by
  show((fM.toList.drop (j4 fM.size 0 lo)).take (j4 fM.size fM.size hi-j4 fM.size 0 lo)).toArray.size<=sizeLine;rw[qM,zC,je,zk];omega
 let l:j4 fM.size fM.size hi<=fM.size:=a5 _ _ (qr _) hi;let#[os,c,d,k]:=id j;let e:s.TypeIs (.ref sl) "slice":=#[os,c,d];unfold getItem
 try with_reducible refine zL ?_
 first|refine qi (qv ?_)|skip
 calc qi (wpAny_sequenceKey b.typeIs ∅ ?_);refine qi (jn (name:=Str.ofString "__getitem__") b.typeIs slot_tuple_getitem
  (zV slot_tuple_getitem b.typeIs entry_tuple_getitem ?_ (args_tuple_getitem _ _)))
 show wpAny _ _ (Builtin.Tuple.tupleItemsOf (.ref t)>>=_) _ _ s;calc qi (tupleItemsOf_ b ?_);calc qi (vT e ?_);rw[qE ∅];calc qi (VN j pl pu ?_);let f:¬((((j4 fM.size 0 lo:Nat):Int)==0&&(1:Int)==1&&(j4 fM.size fM.size hi-j4 fM.size 0 lo)==fM.size)=true):=by
  intro q;rw[qY,qY] at q;let n:((j4 fM.size 0 lo:Nat):Int)=0:=eq_of_beq q.1.1;let o:j4 fM.size fM.size hi-j4 fM.size 0 lo=fM.size:=eq_of_beq q.2;exact hw {(),()}
 show wpAny _ _ (if (((j4 fM.size 0 lo:Nat):Int)==0&&(1:Int)==1&&(j4 fM.size fM.size hi-j4 fM.size 0 lo)==fM.size)=true then _ else _) _ _ s;rw[qC f,OS]
 first
  |calc qi (m:=Builtin.Tuple.tupleExact _) (zz (qv ⟨_,rfl,qv h⟩) a)
  |calc qi (m:=Builtin.Tuple.tupleExact _) (zz (qi (qv (qv ⟨_,rfl,qv h⟩))) a)
  |calc qi (qi (m:=Builtin.Tuple.tupleExact _) (zz (qv (qv ⟨_,rfl,qv h⟩)) a))
  |calc qi (qi (m:=Builtin.Tuple.tupleExact _) (zz (qv ⟨_,rfl,qv h⟩) a))
end
end HT
namespace L2
open PySem PySem.Spec PyProof.Rows
variable {n t':Nat}{fL:qa (qc×Obj)}{Z:St}{H H':Hp}{s:ug}{xs:qa (qa Key×qc×qd)}{its us:qg}{A:uj}{x y:V}{u v:qd}{o:uf V}{P:uh}{w:ui}{fN:qa (qa Key×V)}{a b:qc}{pos:Pos}{X:Cx}
abbrev TO:=St->Hp->(uf Int->Hp->Prop)->Prop
def PO(X:Cx)(e:uf Expr)(t:TO):Prop:=
 ∀(fL:qa (qc×Obj))(s:ug)(Z:St)(H:Hp)(Q:uf Int->Hp->Prop),Inv X fL Z H s->t Z H Q ->
  wpAny (model X.prog X.w) X.A (evalPart e X.env) (λu s'=>∃o H',Inv X fL Z H' s'/\IsPart u o/\Q o H') X.xe s
def RZ:TO:=λ_ H Q=>Q none H
inductive HW(Q:(uf Int->Hp->Prop))(x:V)(H1:Hp):Prop
 |mk:∀i,x=.int i->Q (some i) H1->HW Q x H1
def cV(t:TE):TO:=λZ H Q=>t Z H λx H1=>HW Q x H1
section
variable {X:Cx}{e:Expr}{te:TE}{lo hi:uf Expr}{tl th:TO}{pos p2:Pos}
def V3:PO X none RZ:=by
 intro fL s Z H Q I h;rw[evalPart_none];calc qv {none,H,I,.none,h}
def U9(h:PE X e te):PO X (some e) (cV te):=by
 intro fL s Z H Q I hw;rw[evalPart_some];calc jf (h fL s Z H _ I hw) λu s1 #[x,H1,a,b,c]=>?_;let#[i,U,q]:=c;let#[t,U]:=b;calc{some i,H1,a,.int i t,q}
def gQ(X:Cx)(r:V->uf Int->uf Int->Hp->VK->Prop):Prop:=
 ∀(fL:qa (qc×Obj))(s:ug)(Z:St)(H:Hp)(x:V)(v a b:qd)(lo hi:uf Int)(sl:qc)(Q:VK),Inv X fL Z H s->QL x v->s.heap.IsSliceOf sl a b .none->IsPart a lo->IsPart b hi->r x lo hi H Q ->
  ∃T id,typeLookup (.type T) "__getitem__"=pure (@(.builtin id))/\s.TypeIs v T/\wpAny (model X.prog X.w) X.A (getItem v (.ref sl)) (EP X fL Z Q) X.xe s
def tSl(r:V->uf Int->uf Int->Hp->VK->Prop)(te:TE)(tl th:TO):TE:=λZ H Q=>te Z H λx H1=>tl Z H1 λl a=>th Z a λu b=>r x l u b Q
def UU{r:V->uf Int->uf Int->Hp->VK->Prop}(f:gQ X r)(he:PE X e te)(g:PO X lo tl)(i:PO X hi th):PE X (.Subscript e (.Slice lo hi none p2) pos) (tSl r te tl th):=by
 intro fL s Z H Q I h;calc Subscript_ (jf (he fL s Z H _ I h) λv s1 #[x,H1,j,k,m]=>?_);calc wpAny_Slice (jf (g fL s1 Z H1 _ j m) λa s2 #[l,n,o,pl,p]=>jf (i fL s2 Z n _ o p) λc s3 #[u,d,t,pu,w]=>?_);rw[evalPart_none];calc qv ?_;let y:Inv X fL Z d {s3 with heap:=s3.heap.push {cls:=.type "slice",data:=.fields ([a,c,.none].toArray)}}:=t.kept (t':=s3.toks) λb C q=>qt _ q;let#[T,id,z,A,B]:=f fL {s3 with heap:=s3.heap.push {cls:=.type "slice",data:=.fields ([a,c,.none].toArray)}} Z d x v a c l u (!s3) Q y k (Heap.IsSliceOf.new ..) pl pu w;show wpAny (model X.prog X.w) X.A (subscriptTail e (.Slice lo hi none p2) v (.ref (!s3))) (EP X fL Z Q) X.xe {s3 with heap:=s3.heap.push {cls:=.type "slice",data:=.fields ([a,c,.none].toArray)}};calc tail_any (ops:=[.ref (!s3),v]) A z B (by with_unfolding_all rfl)
def Xq(xs:qa V)(lo hi:uf Int):qa V:=(xs.drop (HT.j4 (-xs) 0 lo)).take (HT.j4 (-xs) (-xs) hi-HT.j4 (-xs) 0 lo)
def K0(xs:qa V)(lo hi:uf Int):-(Xq xs lo hi)<=-xs:=by
 unfold Xq;rw[zC,je];omega
inductive OC(K:Frag)(x:V)(lo:uf Int)(hi:uf Int)(H:Hp)(Q:VK):Prop
 |mk:∀a xs,x=.ref a->z5 K H a xs->¬(HT.j4 (-xs) 0 lo=0/\HT.j4 (-xs) (-xs) hi=-xs)->(∀p,H p=none->Q (.ref p) (upd H p (.tup (Xq xs lo hi))))->OC K x lo hi H Q
def rSlT(K:Frag):V->uf Int->uf Int->Hp->VK->Prop:=λx lo hi H Q=>OC K x lo hi H Q
def a0:gQ X (rSlT X.K):=by
 intro fL s Z H x v g i lo hi sl Q I d e pl pu h;let#[a,xs,U,f,hw,q]:=h;cases d;let#[its,r,c,hz]:=I.tuple f;let hlen:its.toArray.size=-xs:=by rw[qM];exact r.length.symm
 erw["tuple",_,slot_tuple_getitem.lookup,c.typeIs,?_];calc HT.xM c e pl pu (hlen<|hw) ?_ (hlen<|hz);rw[hlen];erw[.ref (!s),_,I.laid (t':=s.toks) (o:=.tup (Xq xs lo hi)) (λb j q=>qt _ q) (qr _) ?_,U,q _ (I.hok.fresh (qr _))];calc{qQ (K0 xs lo hi) hz,_,(r.drop (HT.j4 (-xs) 0 lo)).take (HT.j4 (-xs) (-xs) hi-HT.j4 (-xs) 0 lo),IsTup.new _ _}
end
def gN(n:Nat)(i:Int):uf Nat:=if 0<=i then (if i<n then some i.toNat else none) else if (Neg.neg (n:Int))<=i then some (i+n).toNat else none
def xm{α:Type}(xs:qa α)(i:Int):uf α:=(gN (-xs) i).bind λj=>xs[j]?
def LG{i:Int}{j:Nat}(h:gN n i=some j):seqIndex? i n=some j/\j<n/\(Neg.neg (n:Int))<=i/\i<n:=by
 unfold gN at h;by_cases h0:0<=i
 .rw[qE h0] at h;by_cases a:i<n
  .rw[qE a] at h;let e:i.toNat=j:=qT h;exact{by rw[seqIndex_of h0 a,e],(),(),a}
  .rw[qC a] at h;cases h
 .rw[qC h0] at h;by_cases a : (Neg.neg (n:Int))<=i
  .rw[qE a] at h;let e:(i+n).toNat=j:=qT h;exact{by rw[seqIndex_neg () a,e],(),a,()}
  .rw[qC a] at h;cases h
def CG{α:Type}{xs:qa α}{i:Int}{v:α}(h:xm xs i=some v):∃j,seqIndex? i (-xs)=some j/\xs[j]?=some v/\j< -xs/\(Neg.neg (-xs:Int))<=i/\i< -xs:=by
 unfold xm at h
 cases e:gN (-xs) i with
 |none=>rw[e] at h;cases h
 |some j=>
  rw[e] at h;let#[a,b,c,d]:=LG e;exact#[j,a,h,b,c,d]
def Qy{α:Type}{xs:qa α}{j:Nat}{v:α}(h:xs[j]?=some v):xm xs (j:Int)=some v:=by
 let a:j< -xs:=(qS.mp h).1;let e:gN (-xs) (j:Int)=some j:=by
  unfold gN;rw[qE (),qE ()];simp
 unfold xm;rw[e];calc h
def E5{α:Type}(xs:qa α)(v:α):xm (xs++[v]) (-1)=some v:=by
 let a:-(xs++[v])=-xs+1:=by simp
 let e:gN (-(xs++[v])) (-1)=some (-xs):=by
  unfold gN;rw[a,qC ∅,qE ()];congr 1;omega
 unfold xm;rw[e];show(xs++[v])[-xs]?=some v;simp
def TQ(b:Expr):Prop:=∀o i,subscripted b false o i=operate [o,i] (getItem o i)
def IxR(X:Cx)(r:R2):Prop:=
 ∀(value slice:Expr)(fL:qa (qc×Obj))(s:ug)(Z:St)(H:Hp)(x y:V)(v u:qd)(Q:VK),Inv X fL Z H s->QL x v->QL y u->r x y H Q ->
  subscripted slice false v u=operate [v,u] (getItem v u)->wpAny (model X.prog X.w) X.A (subscriptTail value slice v u) (EP X fL Z Q) X.xe s
def uN(X:Cx)(id:String)(r:V->qa V->Hp->VK->Prop):Prop:=
 ∀(fL:qa (qc×Obj))(s:ug)(Z:St)(H:Hp)(x:V)(xs:qa V)(v:qd)(us:qg)(Q:VK),Inv X fL Z H s->QL x v->QF xs us->r x xs H Q ->
  wpAny (model X.prog X.w) X.A (call (.builtin id) (v::us)) (EP X fL Z Q) X.xe s
section
variable {X:Cx}{a b:Expr}{ta tb:TE}{pos:Pos}
def Ql{r:R2}(c:IxR X r)(d:PE X a ta)(e:PE X b tb)(f:TQ b:=by calc λ_ _=>rfl):PE X (.Subscript a b pos) (tOp r ta tb):=by
 intro fL s Z H Q I h;calc Subscript_ (cq d e I h λv u s2 x y g i j k q=>c a b fL s2 Z g x y v u Q i j k q (f _ _))
inductive OJ(K:Frag)(x:V)(y:V)(H:Hp)(Q:VK):Prop
 |mk:∀p xs i v,x=.ref p->y=.int i->zm K H p xs->xm xs i=some v->Q v H->OJ K x y H Q
def dZ(K:Frag):R2:=λx y H Q=>OJ K x y H Q
inductive OH(K:Frag)(x:V)(y:V)(H:Hp)(Q:VK):Prop
 |mk:∀p xs i v,x=.ref p->y=.int i->z5 K H p xs->xm xs i=some v->Q v H->OH K x y H Q
def dY(K:Frag):R2:=λx y H Q=>OH K x y H Q
inductive OI(x:V)(y:V)(H:Hp)(Q:VK):Prop
 |mk:∀z i c,x=.str z->y=.int i->-z<=sizeLine->xm z.cps.toList i=some c->Q (.str ⟨([c].toArray)⟩) H->OI x y H Q
def rIxS:R2:=λx y H Q=>OI x y H Q
def Qw:IxR X (dZ X.K):=by
 intro value slice fL s Z H x y v u Q I f g h d;let#[p,xs,i,z,U,U,k,he,q]:=h;cases f;let#[t,U]:=g;let#[its,r,pl,hz]:=I.list k;let#[j,a,l,A,m,n]:=CG he;let#[w,e,b]:=r.get l;let o:=-r;let B:=Xl;let fin:EP X fL Z Q w s:=#[z,H,I,b,q];by_cases h0:0<=i
 .have c:i.toNat=j:=by
   rw[seqIndex_of h0 n] at a;exact qT a
  exact item_listR pl.isList h0 () (by rw[c];simpa using e) fin d
 .have c:(i+(its.toArray.size:Int)).toNat=j:=by
   rw[seqIndex_neg () m] at a;rw[qM,<-o];exact qT a
  exact subscriptTail_builtinR (x:=w) pl.isList.typeIs slot_list_getitem.lookup
   (wpAny_getItem_list_neg (Q:=λr s'=>r=w/\EP X fL Z Q r s') pl.isList () (by rw[qM]<;>omega) () (by rw[c];simpa using e) #[U,fin]) d
def Qx:IxR X (dY X.K):=by
 intro value slice fL s Z H x y v u Q I b c h d;let#[p,xs,i,z,U,U,e,he,q]:=h;cases b;let#[t,U]:=c;let#[its,r,pl,hz]:=I.tuple e;let#[j,f,g,m,n,o]:=CG he;let#[w,k,a]:=r.get g;let l:=-r;let A:=Xl;let fin:EP X fL Z Q w s:=#[z,H,I,a,q];exact subscriptTail_builtinR (x:=w) pl.typeIs slot_tuple_getitem.lookup
  (getItem_tuple (j:=j) (Q:=λr s'=>r=w/\EP X fL Z Q r s') pl () () (by rw[qM,<-l];calc f) (by simpa using k) #[U,fin]) d
def Cw:IxR X rIxS:=by
 intro value slice fL s Z H x y v u Q I b d h e;let#[z,i,c,U,U,hz,he,q]:=h;let#[t,U]:=b;let#[t',U]:=d;let#[j,a,f,o,g,k]:=CG he;let l:-z.cps.toList=-z:=by simp[Str.length]
 rw[l] at a g k;let p:=Xl;exact tail_any (vU s z t) slot_str_getitem.lookup (getItem_str (c:=c) (by
  let m:decide (i < -(2^63:Int))=false:=qK ();let n:decide (i>=2^63)=false:=qK ();rw[m,n,Bool.or_false]) (by rw[a];simpa using f) {.str {([c].toArray)},H,I.tok _,{0},q}) e
def F5(its:qg)(n j:Nat)(u:qd):Obj.mapSeq (·.setIfInBounds j u) {cls:=.type "list",data:=.seq its.toArray n}={cls:=.type "list",data:=.seq (its.set j u).toArray n}:=by
 simp[Obj.mapSeq]
def Inv.lst{p:qc}{xs:qa V}(I:Inv X fL Z H s)(h:H p=@(.lst xs)) :
 ∃(its:qg)(n:Nat),QF xs its/\s.heap.get? p=some {cls:=.type "list",data:=.seq its.toArray n}/\-xs<=sizeLine:=by
 let#[z,its,n,r,e]:=I.hok p _ h;exact#[its,n,r,e,z]
def Inv.uz{p:qc}{xs ys:qa V}{its':qg}{a:Nat}{f:Obj->Obj}(I:Inv X fL Z H s)(h:H p=@(.lst xs))
 (c:s.heap.get? p=some {cls:=.type "list",data:=.seq its.toArray n}) (hf:f {cls:=.type "list",data:=.seq its.toArray n}={cls:=.type "list",data:=.seq its'.toArray a}) (r:QF ys its') (hz:-ys<=sizeLine) (t:Nat) :
 Inv X fL Z (upd H p (.lst ys)) {s with heap:=s.heap.update p f,toks:=t}:=by
 let e:(s.heap.update p f).get? p=some {cls:=.type "list",data:=.seq its'.toArray a}:=by
  rw[zR f c (by rw[hf]<;>rfl),hf]
 calc I.write (x:=p) (e:=p) (by rw[h];trivial) (.inl rfl) (λb u d q=>(zO _ _ (jD d)).trans q) {_,e} ?_;exact#[hz,its',a,r,e]
inductive Lc(o:V)(i:V)(v:V)(H:Hp)(Q:(Hp->Prop)):Prop
 |mk:∀p xs k j,o=.ref p->i=.int k->H p=some (.lst xs)->gN (-xs) k=some j->Q (upd H p (.lst (xs.set j v)))->Lc o i v H Q
def dS:V->V->V->Hp->(Hp->Prop)->Prop:=λo i v H Q=>Lc o i v H Q
def GF:fH X dS:=by
 intro fL s Z H o i v z A u Q I m w x h;let#[p,xs,k,j,U,U,e,y,q]:=h;cases m;let#[t,U]:=w;let#[its,n,r,b,hz]:=I.lst e;let#[a,B,f,g]:=LG y;let c:=-r;let C:=Xl;let l:Inv X fL Z (upd H p (.lst (xs.set j v))) {s with heap:=s.heap.update p (Obj.mapSeq (·.setIfInBounds j u))}:=
  I.uz e b (F5 its n j u) (r.set x j) (List.length_set<|hz) s.toks
 by_cases h0:0<=k
 .have d:k.toNat=j:=by
   rw[seqIndex_of h0 g] at a;exact qT a
  exact PySem.W.ki_setAt b h0 () (by rw[qM,<-c];calc g) (d<|{_,l,q})
 .have d:(k+(its.toArray.size:Int)).toNat=j:=by
   rw[seqIndex_neg () f] at a;rw[qM,<-c];exact qT a
  calc PySem.W.ki_setBack b () (by rw[qM,<-c];calc f) () (d<|{_,l,q})
def B7(lo hi:uf Int)(n:Nat):(sliceBounds lo hi none n).1=((HT.j4 n 0 lo:Nat):Int)/\(sliceBounds lo hi none n).2.1=((HT.j4 n n hi:Nat):Int)/\(sliceBounds lo hi none n).2.2=1:=by
 erw[?_,?_,U]
 .cases lo with
  |none=>simp[sliceBounds,HT.j4]
  |some i=>exact HT.sb
 .cases hi with
  |none=>simp[sliceBounds,HT.j4]
  |some i=>calc HT.sb
def AM(its:qg)(lo hi:uf Int):slicePick its.toArray lo hi none=((its.drop (HT.j4 (-its) 0 lo)).take (HT.j4 (-its) (-its) hi-HT.j4 (-its) 0 lo)).toArray:=by
 let#[a,b,c]:=B7 lo hi its.toArray.size;unfold slicePick;rw[a,b,c];simp only[sliceRange_one,pick_run,qM]<;>rfl
inductive OE(K:Frag)(x:V)(lo:uf Int)(hi:uf Int)(H:Hp)(Q:VK):Prop
 |mk:∀a xs,x=.ref a->zm K H a xs->(∀p,H p=none->Q (.ref p) (upd H p (.lst (Xq xs lo hi))))->OE K x lo hi H Q
def rSlL(K:Frag):V->uf Int->uf Int->Hp->VK->Prop:=λx lo hi H Q=>OE K x lo hi H Q
def Sb:gQ X (rSlL X.K):=by
 intro fL s Z H x v g i lo hi sl Q I d e pl pu h;let#[a,xs,U,f,q]:=h;cases d;let#[its,r,c,hz]:=I.list f;let hlen:=-r;erw["list",_,slot_list_getitem.lookup,c.isList.typeIs,?_];calc wpAny_getItem_list_slice c.isList e pl pu .none (by simp) ?_ (by rw[qM]<;>omega);rw[AM,<-hlen];erw[.ref (!s),_,I.laid (t':=s.toks) (o:=.lst (Xq xs lo hi)) (λb j q=>qt _ q) (qr _) ?_,U,q _ (I.hok.fresh (qr _))];calc{qQ (K0 xs lo hi) hz,_,(0),(r.drop (HT.j4 (-xs) 0 lo)).take (HT.j4 (-xs) (-xs) hi-HT.j4 (-xs) 0 lo),qH _ rfl}
def Wx:V->Bool
 |.non=>true
 |.bl _=>true
 |.int _=>true
 |.str _=>true
 |_=>false
def ua:V->V->Bool
 |.non,.non=>true
 |.bl a,.bl b=>a==b
 |.bl a,.int b=>(if a then 1 else 0)==b
 |.int a,.bl b=>a==(if b then 1 else 0)
 |.int a,.int b=>a==b
 |.str a,.str b=>a==b
 |_,_=>false
def cf(d:QL y u)(c:QL x v)(e:Wx y=true)(fx:Wx x=true):SeqAt.EqAt A s u v (ua y x):=by
 cases y with
 |non=>
  cases d
  cases x with
  |non=>cases c;calc SeqAt.EqAt.same _
  |bl b=>cases c;calc SeqAt.EqAt.none_bool b
  |int b=>let#[t,U]:=c;calc SeqAt.EqAt.none_int b t
  |str b=>let#[t,U]:=c;calc SeqAt.EqAt.none_str b t
  |_=>calc absurd (show false=true from fx) qF
 |bl a=>
  cases d
  cases x with
  |non=>cases c;calc SeqAt.EqAt.bool_none a
  |bl b=>cases c;calc SeqAt.EqAt.bool_bool a b
  |int b=>let#[t,U]:=c;calc SeqAt.EqAt.bool_int a b t
  |str b=>let#[t,U]:=c;calc SeqAt.EqAt.bool_str a b t
  |_=>calc absurd (show false=true from fx) qF
 |int a=>
  let#[t',U]:=d
  cases x with
  |non=>cases c;calc SeqAt.EqAt.int_none a t'
  |bl b=>cases c;calc SeqAt.EqAt.int_bool a t' b
  |int b=>let#[t,U]:=c;calc SeqAt.EqAt.int_int a t' b t
  |str b=>let#[t,U]:=c;calc SeqAt.EqAt.int_str a t' b t
  |_=>calc absurd (show false=true from fx) qF
 |str a=>
  let#[t',U]:=d
  cases x with
  |non=>cases c;calc SeqAt.EqAt.str_none a t'
  |bl b=>cases c;calc SeqAt.EqAt.str_bool a t' b
  |int b=>let#[t,U]:=c;calc SeqAt.EqAt.str_int a t' b t
  |str b=>let#[t,U]:=c;calc kC a t' b t
  |_=>calc absurd (show false=true from fx) qF
 |_=>calc absurd (show false=true from e) qF
def v7(x:V)(u:qd):Bool:=match u with
 |.none=>ua .non x
 |.bool b=>ua (.bl b) x
 |.int i _=>ua (.int i) x
 |.str z _=>ua (.str z) x
 |_=>false
def Rn(r:QL y u)(f:Wx y=true):v7 x u=ua y x:=by
 cases y with
 |non=>cases r;rfl
 |bl b=>cases r;rfl
 |int i=>let#[t,U]:=r;rfl
 |str z=>let#[t,U]:=r;rfl
 |_=>calc absurd (show false=true from f) qF
def Gh{xs:qa V}(h:QF xs us)(f:xs.all Wx=true):us.any (v7 x)=xs.any λy=>ua y x:=by
 induction h with
 |nil=>rfl
 |cons r t a=>
  rw[List.all_cons,qY] at f;rw[yp,yp,Rn r f.1,a f.2]
def XR(b:QL x v)(fx:Wx x=true){xs:qa V}(h:QF xs us)(f:xs.all Wx=true):∀u∈us,SeqAt.EqAt A s u v (v7 x u):=by
 induction h with
 |nil=>intro u a;cases a
 |cons r t c=>
  intro d a;rw[List.all_cons,qY] at f;obtain rfl|a:=qx.mp a
  .rw[Rn r f.1];exact cf r b f.1 fx
  .exact c f.2 d a
def inV(x:V)(xs:qa V):Bool:=xs.any λy=>ua y x
inductive aj(K:Frag)(neg:Bool)(x:V)(y:V)(H:Hp)(Q:VK):Prop
 |mk:∀p xs,y=.ref p->(zm K H p xs\/z5 K H p xs)->Wx x=true->xs.all Wx=true->Q (.bl (if neg then !(inV) x xs else inV x xs)) H->aj K neg x y H Q
def rIn(K:Frag)(neg:Bool):R2:=λx y H Q=>aj K neg x y H Q
def Mz:yN X (compareOp .In) (rIn X.K false):=by
 intro fL s Z H x y v u Q I c d h;let#[p,xs,U,a,fx,b,q]:=h;cases d;obtain a|a:=a
 .let#[its,r,pl,hz]:=I.list a;calc SeqAt.in_listAt (v7 x) pl.isList (λw hw=>XR c fx r b w (by simpa using hw)) {.bl _,H,I,U,?_};rw[show its.toArray.any (v7 x)=its.any (v7 x) by simp,Gh r b];exact q
 .let#[its,r,pl,hz]:=I.tuple a;calc SeqAt.in_tupleAt (v7 x) pl (λw hw=>XR c fx r b w (by simpa using hw)) {.bl _,H,I,U,?_};rw[show its.toArray.any (v7 x)=its.any (v7 x) by simp,Gh r b];calc q
def V4:yN X (compareOp .NotIn) (rIn X.K true):=by
 intro fL s Z H x y v u Q I c d h;let#[p,xs,U,a,fx,b,q]:=h;cases d;obtain a|a:=a
 .let#[its,r,pl,hz]:=I.list a;calc SeqAt.notIn_listAt (v7 x) pl.isList (λw hw=>XR c fx r b w (by simpa using hw)) {.bl _,H,I,U,?_};rw[show its.toArray.any (v7 x)=its.any (v7 x) by simp,Gh r b];exact q
 .let#[its,r,pl,hz]:=I.tuple a;calc SeqAt.notIn_tupleAt (v7 x) pl (λw hw=>XR c fx r b w (by simpa using hw)) {.bl _,H,I,U,?_};rw[show its.toArray.any (v7 x)=its.any (v7 x) by simp,Gh r b];calc q
def Qz:Uk X (.builtin "len") (λxs H Q=>∃p ys,xs=[.ref p]/\(zm X.K H p ys\/z5 X.K H p ys)/\Q (.int (-ys)) H):=by
 intro fL s Z H xs us Q I r h;let#[p,ys,U,a,q]:=h;let#[u,U,c]:=UG r;cases c;let d:=Xl;obtain a|a:=a
 .let#[its,b,pl,hz]:=I.list a;let hlen:=-b;exact Calls.call_len_list pl.isList (by simp only[qM]<;>omega) {.int (-ys),H,I.tok _,{s.toks+1,by rw[qM,hlen]},q}
 .let#[its,b,pl,hz]:=I.tuple a;let hlen:=-b;calc len_tuple pl (by simp only[qM]<;>omega) {.int (-ys),H,I.tok _,{s.toks+1,by rw[qM,hlen]},q}
def Wb:Uk X (.builtin "len") (λxs H Q=>∃z,xs=[.str z]/\-z<=sizeLine/\Q (.int (-z)) H):=by
 intro fL s Z H xs us Q I r h;let#[z,U,hz,q]:=h;let#[u,U,t,U]:=UG r;let a:=Xl;calc len_str () {.int (-z),H,I.tok _,{0},q}
def X3:Uk X (.type "list") (λxs H Q=>∃p ys,xs=[.ref p]/\(zm X.K H p ys\/z5 X.K H p ys)/\∀l,H l=none->Q (.ref l) (upd H l (.lst ys))):=by
 intro fL s Z H xs us Q I r h;let#[p,ys,U,d,q]:=h;let#[u,U,j]:=UG r;cases j;let fin:∀(its:qg),QF ys its->-ys<=sizeLine->∀(h':Heap)(a:Nat),(∀b i,s.heap.get? b=some i->h'.get? b=some i) ->
  h'.get? (!s)=some {cls:=.type "list",dict:=none,data:=.seq its.toArray a,slots:=#[]}->EP X fL Z Q (.ref (!s)) {s with heap:=h'}:=λits c hz h' a f e=>
  {.ref (!s),_,I.laid (t':=s.toks) f (qr _) (show QU X.prog X.w _ h' _ (.lst ys) from#[hz,its,a,c,e]),U,q _ (I.hok.fresh (qr _))}
 obtain d|d:=d
 .let#[its,c,pl,hz]:=I.list d;let hlen:=-c;let#[o,g,hc,n,hd]:=pl.isList;exact call_list_seq p (.inl rfl) g hc hd (λh' a f e=>fin its c hz h' a f e) (by simp only[qM]<;>omega)
 .let#[its,c,pl,hz]:=I.tuple d;let hlen:=-c;let#[o,g,hc,n,hd]:=pl;calc call_list_seq p (.inr rfl) g hc hd (λh' a f e=>fin its c hz h' a f e) (by simp only[qM]<;>omega)
def tyV(K:Frag)(T:String)(x:V)(H:Hp):Prop:=match x with
 |.str _=>T="str"
 |.int _=>T="int"
 |.ref p=>(T="list"/\∃xs,zm K H p xs)\/(T="tuple"/\∃o,K.lookup p=some o/\o.cls=.type "tuple"/\o.dict=none) \/
   (T="dict"/\((∃fN,H p=@(.dK fN))\/∃fN,H p=@(.dT fN)))\/(T="set"/\∃S n,H p=@(.set S n))
 |_=>False
def NI{T:String}(I:Inv X fL Z H s)(r:QL x v)(ty:tyV X.K T x H) :
 s.TypeIs v T/\∀a,v=.ref a->∃f,s.heap.get? a=some f/\f.dict=none:=by
 cases x with
 |str z=>
  let#[t,U]:=r;cases (show T="str" from ty);calc{vU s z t,λ_ e=>nomatch e}
 |int i=>
  let#[t,U]:=r;cases (show T="int" from ty);calc{typeIs_int s i t,λ_ e=>nomatch e}
 |ref p=>
  cases r;obtain⟨rfl,xs,g⟩|⟨rfl,o,b,hc,hd⟩|⟨rfl,b⟩|⟨rfl,S,n,b⟩:=ty
  .let#[its,_,pl,_]:=I.list g;erw[pl.isList.typeIs,λa e=>?_];cases e;let#[o,n,e,c,hd,_]:=pl;exact#[o,e,hd]
  .erw[{o,I.xS p o b,hc},λa e=>?_];cases e;exact{o,I.xS _ o b,hd}
  .have z:∃o,s.heap.get? p=some o/\o.ExactDict:=by
    obtain⟨fN,b⟩|⟨fN,b⟩:=b
    .let#[_,_,_,_,o,_,_,e,ex,_]:=I.hok p _ b;exact#[o,e,ex]
    .let#[_,_,_,_,o,_,_,e,ex,_]:=I.hok p _ b;exact#[o,e,ex]
   let#[o,e,ex]:=z;erw[#[o,e,ex.1],λa d=>?_];cases d;exact#[o,e,ex.2.1]
  .let#[o,_,_,_,e,ex,_]:=I.hok p _ b;erw[#[o,e,ex.1],λa d=>?_];cases d;exact#[o,e,ex.2.1]
 |_=>calc False.elim ty
def dh(K:Frag)(T:String)(r:V->qa V->Hp->VK->Prop)(to:TE):TE:=λZ H Q=>to Z H λx H1=>tyV K T x H1/\r x [] H1 Q
def tBM(K:Frag)(T:String)(r:V->qa V->Hp->VK->Prop)(to:TE)(t:TA):TE:=λZ H Q=>to Z H λx H1=>tyV K T x H1/\t Z H1 λxs a=>r x xs a Q
variable {o e:Expr}{es:qa Expr}{to:TE}{t:TA}{name:qb}{apos fO:Pos}{T id:String}{r:V->qa V->Hp->VK->Prop}
def GP(f:PlainAttrs T)(slot:Slot T name id)(c:typeOf (.builtin id)=pure (.type "method_descriptor"))(hm:uN X id r)(g:PE X o to)
 (a:attributeBase o name X.env (eval o X.env)=eval o X.env:=by rfl) (b:(apos.endLine==fO.line)=true:=by rfl):PE X (.Call (.Attribute o name apos) [] [] fO) (dh X.K T r to):=by
 intro fL s Z H Q I h;calc wpAny_Call_method0_late a b (jf (g fL s Z H _ I h) λv s1 #[x,H1,d,e,ty,i]=>?_);let#[j,k]:=NI d e ty;calc{T,id,f,slot,c,j,k,jv rfl (PySem.evalArgs_none (hm fL s1 Z H1 x [] v [] Q d e .nil i))}
def Uj(j:PlainAttrs T)(slot:Slot T name id)(d:typeOf (.builtin id)=pure (.type "method_descriptor"))(hm:uN X id r)(k:PE X o to)(l:PA X (e::es) t)
 (a:attributeBase o name X.env (eval o X.env)=eval o X.env:=by rfl)
 (c:((backTo fO (starEach (e::es) X.env)).all (λx=>!(x.1))&&(backToKw fO (keywordEach [] X.env)).all (λx=>x.1.isSome)
   &&decide (-(e::es)+-([]:qa Keyword)+(if ([]:qa Keyword).isEmpty then 0 else 1)<30))=true:=by rfl)
 (b:(apos.endLine==fO.line)=true:=by rfl) (m:starEach (e::es) X.env=(false,eval e X.env)::starEach es X.env:=by rfl) (hplain:(backTo fO (starEach es X.env)).any (·.1)=false:=by rfl) :
 PE X (.Call (.Attribute o name apos) (e::es) [] fO) (tBM X.K T r to t):=by
 intro fL s Z H Q I h;calc wpAny_Call_method_late a c b rfl (jf (k fL s Z H _ I h) λv s1 #[x,H1,f,g,ty,n]=>?_);let#[p,q]:=NI f g ty;erw[T,id,j,slot,d,p,q,?_];let i:=l fO fL s1 Z H1 _ f n;rw[m] at i⊢;calc jv (by show(false||(backTo fO (starEach es X.env)).any (·.1))=false;rw[hplain]<;>rfl) (yq ?_);calc jf i λus s2 #[vs,u,w,y,z]=>hm fL s2 Z u x vs v us Q w g y z
end
def MtM(X:Cx)(id:String)(r:V->qa V->Hp->VK->Prop):Prop:=
 ∀(fL:qa (qc×Obj))(s:ug)(Z:St)(H:Hp)(x:V)(xs:qa V)(v:qd)(us:qg)(Q:VK),Inv X fL Z H s->QL x v->QF xs us->r x xs H Q ->
  wpAny (model X.prog X.w) X.A (call (.builtin id) (v::us)) (EP X fL Z Q) X.xe s
def QF.one(h:QF [x] us):∃u,us=[u]/\QL x u:=by
 cases h with
 |cons r t=>cases t with
  |nil=>calc{0,r}
def QF.zero:∀{us:qg},QF [] us->us=[]
 |_,.nil=>rfl
def QF.dropLast{xs:qa V}(h:QF xs us):QF xs.dropLast us.dropLast:=by
 induction h with
 |nil=>calc .nil
 |cons r t a=>
  cases t with
  |nil=>calc .nil
  |cons q t'=>calc .cons r a
def Hu{α:Type}(l:qa α):l.eraseIdx (-l-1)=l.dropLast:=by
 rw[List.eraseIdx_eq_take_drop_succ,List.dropLast_eq_take]
 cases l with
 |nil=>rfl
 |cons a l=>calc(zp (List.take _ _++·) (j5 (qr _))).trans (zS _)
section
variable {X:Cx}{fL:qa (qc×Obj)}{Z:St}{H:Hp}{s:ug}{l b:qc}{xs ys zs:qa V}
def Inv.gL{its':qg}{f:uk qd->uk qd}(I:Inv X fL Z H s)(a:H l=@(.lst xs))
 (e:s.heap.get? l=some {cls:=.type "list",data:=.seq its.toArray n}) (hf:f its.toArray=its'.toArray) (b:QF ys its') (hz:-ys<=sizeLine) :
 Inv X fL Z (upd H l (.lst ys)) {s with heap:=s.heap.update l (Obj.mapSeq f),toks:=t'}:=by
 let q:=PySem.IsL.update e f;rw[hf] at q;calc I.write (x:=l) (e:=l) (a<|trivial) (.inl rfl) (λg u c d=>(zO s.heap (Obj.mapSeq f) (jD c)).trans d) {_,q} ?_;calc{hz,its',_,b,q}
def Inv.gM(I:Inv X fL Z H s)(a:QF ys its)(hz:-ys<=sizeLine) :
 Inv X fL Z (upd H (!s) (.lst ys)) {s with heap:=s.heap.push {cls:=.type "list",data:=.seq its.toArray},toks:=t'}:=
 I.laid (λ_ _ q=>qt _ q) (qr _) {hz,its,(0),a,qH _ rfl}
def Inv.fresh(I:Inv X fL Z H s):H (!s)=none:=I.hok.fresh (qr _)
def Inv.v5(I:Inv X fL Z H s)(a:H l=@(.lst xs)):-xs<=sizeLine/\∃(its:qg)(n:Nat),QF xs its/\-xs=-its/\s.heap.get? l=some {cls:=.type "list",data:=.seq its.toArray n}:=by
 let#[z,its,n,r,e]:=I.hok l _ a;exact#[z,its,n,r,-r,e]
def Po(h:n<=sizeLine):Builtin.List.listTooLong n=false:=by
 unfold Builtin.List.listTooLong;calc qK ()
end
section
variable {X:Cx}
inductive Bn(x:V)(vs:qa V)(H:Hp)(Q:VK):Prop
 |mk:∀l xs y,x=.ref l->vs=[y]->H l=some (.lst xs)->-xs<sizeLine->Q .non (upd H l (.lst (xs++[y])))->Bn x vs H Q
def Sm:V->qa V->Hp->VK->Prop:=λx vs H Q=>Bn x vs H Q
def QW:MtM X "list.append" Sm:=by
 intro fL s Z H x vs v us Q I b c h;let#[l,xs,y,U,U,a,hz,q]:=h;cases b;let#[u,U,d]:=c.one;let#[z,its,n,r,f,e]:=I.v5 a;calc vV F.slot_list_append {_,e,U} F.entry_list_append (F.args_list_append_2 _ _) (PySem.list_append l its.toArray n u (by rw[qM];omega)) {e,?_};erw[.non,_,I.gL (its':=its++[u]) a e (by simp) (r.append (.cons d .nil)) ?_,U,q];rw[qo,qW];omega
inductive Bm(x:V)(vs:qa V)(H:Hp)(Q:VK):Prop
 |mk:∀l b xs zs,x=.ref l->vs=[.ref b]->H l=some (.lst xs)->H b=some (.lst zs)->-xs+-zs<=sizeLine->Q .non (upd H l (.lst (xs++zs)))->Bm x vs H Q
def Sl:V->qa V->Hp->VK->Prop:=λx vs H Q=>Bm x vs H Q
def MU:MtM X "list.extend" Sl:=by
 intro fL s Z H x vs v us Q I f g h;let#[l,b,xs,zs,U,U,d,i,hz,q]:=h;cases f;let#[u,U,j]:=g.one;cases j;let#[z,its,n,r,t,e]:=I.v5 d;let#[w,a,k,m,o,p]:=I.v5 i;let hsz:its.toArray.size+a.toArray.size<=sizeLine:=by rw[qM,qM];omega
 let c:¬(!(its.toArray.isEmpty)&&Builtin.List.listTooLong (its.toArray.size+a.toArray.size))=true:=by
  rw[Po hsz,vE];exact qF
 refine vV F.slot_list_extend {_,e,U} F.entry_list_extend (F.args_list_extend_2 _ _)
  (AutoSeq1.list_extend_list_list_0 l its.toArray n b a.toArray k c (by rw[qM];omega) ()) {e,p,?_}
 erw[.non,_,I.gL (its':=its++a) d e (by simp) (r.append m) ?_,U,q];rw[qo];omega
inductive OG(x:V)(vs:qa V)(H:Hp)(Q:VK):Prop
 |mk:∀l xs y,x=.ref l->vs=[]->H l=some (.lst xs)->xs[-xs-1]?=some y->Q y (upd H l (.lst xs.dropLast))->OG x vs H Q
def rPop:V->qa V->Hp->VK->Prop:=λx vs H Q=>OG x vs H Q
def bQ:MtM X "list.pop" rPop:=by
 intro fL s Z H x vs v us Q I d f h;let#[l,xs,y,U,U,c,g,q]:=h;cases d;let a:=f.zero;subst a;let#[z,its,n,r,i,e]:=I.v5 c;let#[u,j,k]:=r.get g;let b:its.toArray[its.toArray.size-1]?=some u:=by
  show its.toArray[-its-1]?=some u;rw[<-zv,<-i];exact j
 calc vV F.slot_list_pop {_,e,U} F.entry_list_pop (F.args_list_pop_1 _) (MeetsSeq.list_pop_last l its.toArray n u b (by rw[qM];omega)) {e,?_};erw[y,_,I.gL (its':=its.dropLast) c e ?_ r.dropLast ?_,k,q]
 .show its.toArray.eraseIdxIfInBounds (its.toArray.size-1)=its.dropLast.toArray;rw[qM,List.eraseIdxIfInBounds_toArray,Hu]
 .rw[List.length_dropLast];omega
inductive ON(x:V)(y:V)(H:Hp)(Q:VK):Prop
 |mk:∀l b xs zs,x=.ref l->y=.ref b->H l=some (.lst xs)->H b=some (.lst zs)->-xs+-zs<=sizeLine->(∀p,H p=none->Q (.ref p) (upd H p (.lst (xs++zs))))->ON x y H Q
def rCat:R2:=λx y H Q=>ON x y H Q
def OZ:yN X (binaryOp .Add) rCat:=by
 intro fL s Z H x y v u Q I c d h;let#[l,b,xs,zs,U,U,f,g,hz,q]:=h;cases c;cases d;let#[z,its,n,r,o,e]:=I.v5 f;let#[p,a,t,i,j,k]:=I.v5 g;calc PySem.P.add_list e k ?_ (by rw[qM,qM];omega);let m:its.toArray++a.toArray=(its++a).toArray:=by simp
 rw[m];calc{.ref _,_,I.gM (t':=s.toks) (r.append i) (by rw[qo];omega),U,q _ I.fresh}
end
section
variable {κ:Type}[DecidableEq κ]
def QB(fN:qa (κ×V))(k:κ):uf V:=(fN.find? λa=>decide (a.1=k)).map (·.2)
def Yz(fN:qa (κ×V))(k:κ)(v:V):qa (κ×V):=
 if (fN.any λa=>decide (a.1=k))=true then fN.map (λa=>if a.1=k then (a.1,v) else a) else fN++[(k,v)]
def Ub(fN:qa (κ×V))(k:κ):qa (κ×V):=fN.filter λa=>decide (a.1≠k)
def Yw{p:κ×V}{r:qa (κ×V)}{k:κ}(e:p.1=k):QB (p::r) k=some p.2:=by simp[QB,jO,e]
def Yp{p:κ×V}{r:qa (κ×V)}{k:κ}(e:¬p.1=k):QB (p::r) k=QB r k:=by simp[QB,jO,e]
def Vh(k:κ):∀fN:qa (κ×V),(fN.any λa=>decide (a.1=k))=(QB fN k).isSome
 |[]=>rfl
 |p::r=>by
  rw[yp];by_cases e:p.1=k
  .simp only[Yw e,qw e,Bool.true_or,Option.isSome_some]
  .rw[Yp e,qK e,Bool.false_or];calc Vh k r
def CM(k j:κ)(y:V):∀fN:qa (κ×V),QB (fN.map λa=>if a.1=k then (a.1,y) else a) j=(QB fN j).map λx=>if j=k then y else x
 |[]=>rfl
 |p::r=>by
  let b:=CM k j y r;rw[qZ];by_cases h:p.1=k
  .rw[qE h];by_cases e:p.1=j
   .rw[Yw (p:=(p.1,y)) e,Yw e,j7,qE (e.symm.trans h)]
   .rw[Yp (p:=(p.1,y)) e,Yp e,b]
  .rw[qC h];by_cases e:p.1=j
   .rw[Yw (p:=p) e,Yw e,j7,qC (λz=>h (e.trans z))]
   .rw[Yp (p:=p) e,Yp e,b]
def X8(k j:κ)(y:V):∀fN:qa (κ×V),QB fN k=none->QB (fN++[(k,y)]) j=if j=k then some y else QB fN j
 |[],_=>by
  by_cases e:k=j
  .rw[qE e.symm];exact Yw (p:=(k,y)) e
  .rw[qC (λz=>e z.symm)];calc Yp (p:=(k,y)) e
 |p::r,a=>by
  rw[List.cons_append];let b:¬p.1=k:=λz=>by rw[Yw z] at a;cases a
  rw[Yp b] at a;let c:=X8 k j y r a;by_cases e:p.1=j
  .rw[Yw e,Yw e,qC (λz=>b (e.trans z))]
  .rw[Yp e,Yp e,c]
def CL(fN:qa (κ×V))(k j:κ)(y:V):QB (Yz fN k y) j=if j=k then some y else QB fN j:=by
 unfold Yz;by_cases a:(fN.any λb=>decide (b.1=k))=true
 .rw[qE a,CM];rw[Vh] at a;by_cases e:j=k
  .let#[x,c]:=Option.isSome_iff_exists.mp a;rw[qE e,e,c,j7,qE rfl]
  .rw[qC e]
   cases QB fN j with
   |none=>rfl
   |some x=>rw[j7,qC e]
 .rw[qC a];calc X8 k j y fN ?_;rw[Vh] at a
  cases q:QB fN k with
  |none=>rfl
  |some x=>rw[q] at a;calc(a rfl).elim
def UY(fN:qa (κ×V))(k:κ)(v:V):-(Yz fN k v)<=-fN+1:=by
 unfold Yz;split
 .rw[qh];omega
 .rw[qo,qU,jP];omega
def XF{fN:qa (κ×V)}{k:κ}(v:V)(h:QB fN k=none):Yz fN k v=fN++[(k,v)]:=by
 unfold Yz;rw[Vh,h];calc qC ∅
def Vu.yL{u:uf qd}(r:Vu o u):o.isSome=u.isSome:=by
 cases o with
 |none=>cases u with
  |none=>rfl
  |some _=>calc(show False from r).elim
 |some _=>cases u with
  |none=>calc(show False from r).elim
  |some _=>rfl
def Vu.getD{u:uf qd}{d:V}{d':qd}(r:Vu o u)(a:QL d d'):QL (o.getD d) (u.getD d'):=by
 cases o with
 |none=>cases u with
  |none=>calc a
  |some _=>calc(show False from r).elim
 |some _=>cases u with
  |none=>calc(show False from r).elim
  |some _=>calc r
def KV.val{fN:qa (κ×V)}{vs:qa (κ×qd)}(r:KV fN vs)(k:κ):Vu (QB fN k) (valueAt vs k):=by
 unfold KV at r
 induction r with
 |nil=>calc True.intro
 |@cons p q g qs h t d=>
  let#[c,f]:=h;by_cases e:p.1=k
  .have a:q.1=k:=c.symm.trans e;let b:valueAt (q::qs) k=some q.2:=by simp[valueAt,jO,a]
   rw[Yw e,b];exact f
  .have a:¬q.1=k:=λz=>e (c.trans z);let b:valueAt (q::qs) k=valueAt qs k:=by simp[valueAt,jO,a]
   rw[Yp e,b];calc d
def KV.any{fN:qa (κ×V)}{vs:qa (κ×qd)}(r:KV fN vs)(k:κ):(fN.any λa=>decide (a.1=k))=vs.any λa=>decide (a.1=k):=by
 unfold KV at r
 induction r with
 |nil=>rfl
 |cons h t b=>rw[yp,yp,b,h.1]
def KV.repl{fN:qa (κ×V)}{vs:qa (κ×qd)}(r:KV fN vs)(k:κ)(c:QL y u) :
 KV (fN.map λa=>if a.1=k then (a.1,y) else a) (vs.map λa=>if a.1=k then (a.1,u) else a):=by
 unfold KV at r⊢
 induction r with
 |nil=>calc .nil
 |@cons p q g qs h t d=>
  rw[qZ,qZ];calc .cons ?_ d;let#[b,f]:=h;by_cases e:p.1=k
  .rw[qE e,qE (b.symm.trans e)];exact#[b,c]
  .rw[qC e,qC (λz=>e (b.trans z))];exact#[b,f]
def KV.put{fN:qa (κ×V)}{vs:qa (κ×qd)}(r:KV fN vs)(k:κ)(a:QL y u):KV (Yz fN k y) (stored vs k u):=by
 unfold Yz stored;rw[r.any k];by_cases e:(vs.any λb=>decide (b.1=k))=true
 .rw[qE e,qE e];exact r.repl k a
 .rw[qC e,qC e];calc Paired.snoc r #[U,a]
def KV.drop{fN:qa (κ×V)}{vs:qa (κ×qd)}(r:KV fN vs)(k:κ):KV (Ub fN k) (without vs k):=by
 unfold KV at r⊢;unfold Ub without
 induction r with
 |nil=>calc .nil
 |@cons p q i qs h t d=>
  let#[c,f]:=h;rw[zi,zi];by_cases e:p.1=k
  .have a:¬decide (p.1≠k)=true:=by simp[e]
   let b:¬decide (q.1≠k)=true:=by simp[c.symm.trans e]
   rw[qC a,qC b];exact d
  .have g:¬q.1=k:=λz=>e (c.trans z);let a:decide (p.1≠k)=true:=by simp[e]
   let b:decide (q.1≠k)=true:=by simp[g]
   rw[qE a,qE b];calc .cons #[c,f] d
def KV.length{fN:qa (κ×V)}{vs:qa (κ×qd)}(r:KV fN vs):-fN=-vs:=gR r
def Rr(fN:qa (κ×V))(k:κ):-(Ub fN k)<=-fN:=qP _ _
end
def Xb{k:Key}(r:QL (kV k) u):(Q4 P w).is k u=true:=by
 cases k with
 |inl i=>let#[t,e]:=(show ∃t,u=Value.int i t from r);subst e;calc Eh P w i t
 |inr x=>let#[t,e]:=(show ∃t,u=Value.str x t from r);subst e;calc Eg P w x t
def M7{ks:qa Key}(r:QF (ks.map kV) us):ItemsAre (Q4 P w) ks us:=by
 induction ks generalizing us with
 |nil=>cases r;calc .nil
 |cons k ks a=>
  cases r with
  |cons h t=>calc .cons (Xb h) (a t)
abbrev KT(H:Hp):qa (qa Key×V)->qa (qa Key×qc×qd)->Prop:=Paired λp q=>p.1=q.1/\H q.2.1=@(.tup (p.1.map kV))/\QL p.2 q.2.2
def KT.val(r:KT H fN xs)(k:qa Key):Vu (QB fN k) ((atKey xs k).map (·.2)):=by
 induction r with
 |nil=>calc True.intro
 |@cons p q g qs h t d=>
  let#[c,_,f]:=h;by_cases e:p.1=k
  .have a:q.1=k:=c.symm.trans e;let b:atKey (q::qs) k=some q.2:=by simp[atKey,jO,a]
   rw[Yw e,b];exact f
  .have a:¬q.1=k:=λz=>e (c.trans z);let b:atKey (q::qs) k=atKey qs k:=by simp[atKey,jO,a]
   rw[Yp e,b];calc d
def KT.repl(r:KT H fN xs)(k:qa Key)(d:QL y u) :
 KT H (fN.map λb=>if b.1=k then (b.1,y) else b) (xs.map (putAt k u)):=by
 induction r with
 |nil=>calc .nil
 |@cons p q i qs h t f=>
  rw[qZ,qZ];calc .cons ?_ f;let#[a,c,g]:=h;unfold putAt;by_cases e:p.1=k
  .rw[qE e,qE (a.symm.trans e)];exact#[a,c,d]
  .rw[qC e,qC (λz=>e (a.trans z))];exact#[a,c,g]
def KT.put(r:KT H fN xs)(k:qa Key)(c:H b=@(.tup (k.map kV)))(a:QL y u) :
 KT H (Yz fN k y) (storedH xs k b u):=by
 let e:(fN.any λd=>decide (d.1=k))=(atKey xs k).isSome:=by
  rw[Vh,(r.val k).yL,wM]
 unfold Yz storedH;rw[e];by_cases q:(atKey xs k).isSome=true
 .rw[qE q,qE q];exact r.repl k a
 .rw[qC q,qC q];calc Paired.snoc r #[U,c,a]
def KT.keeps(r:KT H fN xs)(a:∀b ys,H b=@(.tup ys)->H' b=@(.tup ys)):KT H' fN xs:=
 Paired.mapP r λ_ _ z=>{z.1,a _ _ z.2.1,z.2.2}
section
variable {P:uh}{w:ui}{H:Hp}{h:Heap}{a:qc}
def ai{u:HO}(ok:y4 P w H h)(e:Rd H a u):QU P w H h a u:=e.ok ok
def Wz{fN:qa (Key×V)}(ok:y4 P w H h)(e:Rd H a (.dK fN)):-fN<=sizeLine/\(a==sysModules)=false/\∃vs,KV fN vs/\h.DictOf (Q4 P w) a vs:=
 show QU P w H h a (.dK fN) from ai ok e
def Au{fN:qa (Key×V)}(ok:y4 P w H h)(e:H a=@(.dK fN)):-fN<=sizeLine/\(a==sysModules)=false/\∃vs,KV fN vs/\h.DictOf (Q4 P w) a vs:=Wz ok (.inl e)
def Kn{ks:qa Key}(ok:y4 P w H h)(e:H a=@(.tup (ks.map kV))):(tupleKind (Q4 P w)).is h ks a:=by
 let#[_,its,r,o,b,c,n,d]:=(show QU P w H h a (.tup (ks.map kV)) from ok a _ e);calc{o,its.toArray,n,b,c,d,by simpa using M7 r}
def As(ok:y4 P w H h)(e:Rd H a (.dT fN)):-fN<=sizeLine/\(a==sysModules)=false /\
 ∃xs,KT H fN xs/\h.DictOfH (tupleKind (Q4 P w)) a xs:=by
 let#[z,y,xs,r,o,es,d,f,g,i,j,k]:=(show QU P w H h a (.dT fN) from ai ok e);erw[z,y,xs,r,o,es,d,f,g,i,j,λx b=>?_,k];let all:∀{l:qa (qa Key×V)}{m:qa (qa Key×qc×qd)},KT H l m->∀x∈m,(tupleKind (Q4 P w)).is h x.1 x.2.1:=by
  intro l m q
  induction q with
  |nil=>intro x b;calc nomatch b
  |@cons p q s qs c t n=>
   intro x b;obtain e|b:=qx.mp b
   .subst e;exact Kn ok (by rw[<-c.1];calc c.2.1)
   .exact n x b
 calc all r x b
def fz(ok:y4 P w H h)(e:H a=@(.dT fN)):-fN<=sizeLine/\(a==sysModules)=false /\
 ∃xs,KT H fN xs/\h.DictOfH (tupleKind (Q4 P w)) a xs:=As ok (.inl e)
end
def Yf(H:Hp)(a:qc)(y:V)(r:uf V):Prop:=
 (∃fN k,Rd H a (.dK fN)/\y=kV k/\r=QB fN k)\/∃fN k b,Rd H a (.dT fN)/\y=.ref b/\H b=@(.tup (k.map kV))/\r=QB fN k
def UL(H:Hp)(a:qc)(y v:V)(H':Hp):Prop:=
 (∃fN k,H a=@(.dK fN)/\y=kV k/\-fN<sizeLine/\H'=upd H a (.dK (Yz fN k v))) \/
 ∃fN k b,H a=@(.dT fN)/\y=.ref b/\H b=@(.tup (k.map kV))/\-fN<sizeLine/\H'=upd H a (.dT (Yz fN k v))
def Yf.k{fN:qa (Key×V)}{k:Key}(e:H a=@(.dK fN)):Yf H a (kV k) (QB fN k):=.inl {fN,k,.inl e,7}
def Yf.t{k:qa Key}(e:H a=@(.dT fN))(c:H b=@(.tup (k.map kV))):Yf H a (.ref b) (QB fN k):=.inr {fN,k,b,.inl e,U,c,U}
def UL.k{fN:qa (Key×V)}{k:Key}{v:V}(e:H a=@(.dK fN))(b:-fN<sizeLine):UL H a (kV k) v (upd H a (.dK (Yz fN k v))):=.inl #[fN,k,e,U,b,U]
def UL.t{k:qa Key}{v:V}(e:H a=@(.dT fN))(c:H b=@(.tup (k.map kV)))(d:-fN<sizeLine) :
 UL H a (.ref b) v (upd H a (.dT (Yz fN k v))):=.inr #[fN,k,b,e,U,c,d,U]
section
variable {X:Cx}{fL:qa (qc×Obj)}{Z:St}{H:Hp}{s:ug}{a:qc}{y v:V}{u r:qd}{o:uf V}{A:uj}{E:qf}
def Inv.big(I:Inv X fL Z H s):sysModules<(!s):=by
 let h:mainGlobals<(!s):=(I.mod.glob.keeps I.bk).lt;calc Nat.lt_trans ∅ h
def Nl{Q:qf}(m:A.units+1<cLine)(I:Inv X fL Z H s)(g:Yf H a y (some v))(j:QL y u)(h:∀d s',Inv X fL Z H s'->QL v d->Q d s') :
 wpAny (model X.prog X.w) A (getItem (.ref a) u) Q E s:=by
 obtain⟨fN,k,e,f,l⟩|⟨fN,k,b,e,f,n,l⟩:=g
 .subst f;let#[z,hd,vs,rel,dd]:=Wz I.hok e;let#[d,hw,c]:=Vu.some_of (v:=v) (o:=valueAt vs k) (l<|rel.val k);exact wpAny_getItem_of (Xb j) dd.mapOf hw (h d _ (I.tok _) c)
 .subst f;cases (show u=Value.ref b from j);let#[z,hd,xs,rel,dd]:=As I.hok e;let#[d,hw,c]:=Vu.some_of (v:=v) (o:=(atKey xs k).map (·.2)) (l<|rel.val k);let#[p,q,i]:=zE.mp hw;calc wpAny_getItem_heap (yR m) (Kn I.hok n) dd q ?_;rw[i];calc h d _ (I.tok _) c
def d_in{Q:qf}(f:A.units+1<cLine)(I:Inv X fL Z H s)(g:Yf H a y o)(d:QL y u)(h:∀s',Inv X fL Z H s'->Q (.bool o.isSome) s') :
 wpAny (model X.prog X.w) A (compareOp .In u (.ref a)) Q E s:=by
 obtain⟨fN,k,e,c,l⟩|⟨fN,k,b,e,c,i,l⟩:=g
 .subst c;let#[z,hd,vs,rel,dd]:=Wz I.hok e;calc wpAny_in_of (Xb d) hd dd.mapOf ?_;rw[<-(rel.val k).yL,<-l];exact h _ (I.tok _)
 .subst c;cases (show u=Value.ref b from d);let#[z,hd,xs,rel,dd]:=As I.hok e;calc wpAny_in_heap (yR f) (Kn I.hok i) hd dd ?_;let q:=(rel.val k).yL;rw[wM] at q;rw[<-q,<-l];calc h _ (I.tok _)
def Tz{Q:qf}(f:A.units+1<cLine)(I:Inv X fL Z H s)(g:Yf H a y o)(d:QL y u)(h:∀s',Inv X fL Z H s'->Q (.bool (!(o.isSome))) s') :
 wpAny (model X.prog X.w) A (compareOp .NotIn u (.ref a)) Q E s:=by
 obtain⟨fN,k,e,c,l⟩|⟨fN,k,b,e,c,i,l⟩:=g
 .subst c;let#[z,hd,vs,rel,dd]:=Wz I.hok e;calc wpAny_notIn_of (Xb d) hd dd.mapOf ?_;rw[<-(rel.val k).yL,<-l];exact h _ (I.tok _)
 .subst c;cases (show u=Value.ref b from d);let#[z,hd,xs,rel,dd]:=As I.hok e;calc wpAny_notIn_heap (yR f) (Kn I.hok i) hd dd ?_;let q:=(rel.val k).yL;rw[wM] at q;rw[<-q,<-l];calc h _ (I.tok _)
def X0{h':Heap}{c:HO}(I:Inv X fL Z H s)(d:Mut (H a))(f:Heap.SameBut a s.heap h')(he:∃q,h'.get? a=some q)(new:QU X.prog X.w (upd H a c) h' a c) :
 Inv X fL Z (upd H a c) {s with heap:=h',toks:=t'}:=
 I.write (x:=a) (e:=a) d (.inl rfl) (λb q g z=>(f.2 b g).trans z) he new
def CC{h':Heap}{fN:qa (Key×V)}{vs:qa (Key×qd)}(z:-fN<=sizeLine)(hd:(a==sysModules)=false)(rel:KV fN vs)(dd:h'.DictOf (Q4 P w) a vs) :
 QU P w H' h' a (.dK fN):=#[z,hd,vs,rel,dd]
def Nk{Q:Unit->ug->Prop}(x:A.units+1<cLine)(I:Inv X fL Z H s)(g:UL H a y v H')(o:QL y u)(p:QL v r)(h:∀s',Inv X fL Z H' s'->Q .unit s') :
 wpAny (model X.prog X.w) A (setItem (.ref a) u r) Q E s:=by
 obtain⟨fN,k,e,i,l,j⟩|⟨fN,k,b,e,i,t,l,j⟩:=g
 .subst i j;let#[z,hd,vs,rel,dd]:=Au I.hok e;let hz:-vs<=sizeLine:=by rw[<-(-rel)];exact z
  let m:-(Yz fN k v)<=sizeLine:=by have:=UY fN k v;omega
  calc wpAny_setItem_pairs (hsz:=hz) (Xb o) dd λh' d n=>h _ ?_;let he:∃q,h'.get? a=some q:=let ⟨q,_,_,f,_⟩:=d;#[q,f];exact X0 I (e<|True.intro) n he (CC m hd (rel.put k p) d)
 .subst i j;cases (show u=Value.ref b from o);let#[z,hd,xs,rel,dd]:=fz I.hok e;let hz:-xs<=sizeLine:=by rw[<-gR rel];exact z
  let m:-(Yz fN k v)<=sizeLine:=by have:=UY fN k v;omega
  calc wpAny_setItem_heap (hsz:=hz) (yR x) (Kn I.hok t) dd λh' d n=>h _ ?_;let#[q,es,B,f,C,D,F,_,G]:=d;calc X0 I (e<|True.intro) n ⟨q,f⟩ ⟨m,hd,_,(rel.put k t p).keeps λc ys w=>?_,q,es,B,f,C,D,F,G⟩;rw[Qa (QG w e nofun)];calc w
end
section
variable {X:Cx}{fL:qa (qc×Obj)}{Z:St}{H:Hp}{s:ug}{a:qc}{fN:qa (Key×V)}{k:Key}{u:qd}{A:uj}{E:qf}
def aA{v:V}{more:qg}{Q:qf}(I:Inv X fL Z H s)(e:H a=@(.dK fN))(d:QL (kV k) u)(l:QB fN k=some v)(hm:more=[]\/∃x,more=[x])
 (h:∀b s',Inv X fL Z (upd H a (.dK (Ub fN k))) s'->QL v b->Q b s'):wpAny (model X.prog X.w) A (call (.builtin "dict.pop") (.ref a::u::more)) Q E s:=by
 let#[z,hd,vs,rel,dd]:=Au I.hok e;let#[b,hw,f]:=Vu.some_of (v:=v) (o:=valueAt vs k) (by rw[<-l];calc rel.val k);let g:(keyPart u).isSome=true:=by
  cases k with
  |inl i=>let#[t,q]:=(show ∃t,u=Value.int i t from d);subst q;rfl
  |inr x=>let#[t,q]:=(show ∃t,u=Value.str x t from d);subst q;rfl
 let j:argsOk "dict.pop" {.ref a::u::more,[]}:=by
  obtain q|⟨x,q⟩:=hm
  .subst q;exact PySem.F.args_dict_pop_2 _ _
  .subst q;exact PySem.F.args_dict_pop_3 _ _ _
 refine xZ slot_dict_pop dd.typeIs PySem.F.entry_dict_pop j (meets_dict_pop_there (Q4 X.prog X.w) a (Xb d) more hm g)
  {vs,b,dd,by rw[<-(-rel)];calc z,hw,λh' c m=>h b _ ?_ f}
 let he:∃q,h'.get? a=some q:=let ⟨q,_,_,n,_⟩:=c;#[q,n];calc X0 I (e<|True.intro) m he (CC (qQ (Rr fN k) z) hd (rel.drop k) c)
def ck{r:qd}{Q:qf}(I:Inv X fL Z H s)(e:H a=@(.dK fN))(b:QL (kV k) u)(l:QB fN k=none)(h:∀s',Inv X fL Z H s'->Q r s') :
 wpAny (model X.prog X.w) A (call (.builtin "dict.pop") [.ref a,u,r]) Q E s:=by
 let#[z,hd,vs,rel,dd]:=Au I.hok e;let c:valueAt vs k=none:=Vu.none_of (by rw[<-l];calc rel.val k);let d:(keyPart u).isSome=true:=by
  cases k with
  |inl i=>let#[t,q]:=(show ∃t,u=Value.int i t from b);subst q;rfl
  |inr x=>let#[t,q]:=(show ∃t,u=Value.str x t from b);subst q;rfl
 calc xZ slot_dict_pop dd.typeIs PySem.F.entry_dict_pop (PySem.F.args_dict_pop_3 _ _ _) (meets_dict_pop_default (Q4 X.prog X.w) a (Xb b) hd d r) {vs,dd,c,h _ (I.tok _)}
def fB{Q:qf}(I:Inv X fL Z H s)(e:Rd H a (.dK fN))(h:∀t s',Inv X fL Z H s'->Q (.int (-fN) t) s'):wpAny (model X.prog X.w) A (call (.builtin "len") [.ref a]) Q E s:=by
 let#[z,hd,vs,rel,dd]:=Wz I.hok e;calc call_len_dict hd dd (by rw[<-(-rel)];rw[jw] at z;omega) ?_;rw[<-(-rel)];calc h _ _ (I.tok _)
end
def fI(i:Expr):Prop:=∀a b,subscripted i false a b=operate [a,b] (getItem a b)
def R6{prog:uh}{E:qf}{env:Env}{value slice:Expr}{T id:String}{Q:qf}
 (j:typeLookup (.type T) "__getitem__"=pure (@(.builtin id))) (k:fI slice)
 (h:wpAny (model prog w) A (eval value env) (λo c=>wpAny (model prog w) A (eval slice env) (λi a=>a.TypeIs o T/\wpAny (model prog w) A (getItem o i) Q E a) E c) E s) :
 wpAny (model prog w) A (eval (.Subscript value slice pos) env) Q E s:=by
 calc Subscript_ (jy h (λo c e=>jy e (λi a b=>?_) λ_ _ x=>x) λ_ _ x=>x);let#[g,b]:=b;unfold subscriptTail;calc qi ?_;rw[getitemInPython_of_ne g.not_modules];calc qi (wpAny_specialOf g j ?_);let fin:wpAny (model prog w) A (subscripted slice false o i) (λr d=>wpAny (model prog w) A (letTemporaryGo value o r>>=λ_=>pure r) Q E d) E a:=by
  rw[k o i];exact wpAny_operating (jy b (λr d f=>qi (wpAny_letTemporaryGo (qv f))) λ_ _ x=>x)
 first
  |calc qv (qi fin)
  |calc qi (qv (qi fin))
  |calc qi fin
def EK(I:Inv X fL Z H s)(g:Yf H a y o):s.TypeIs (.ref a) "dict":=by
 obtain⟨fN,k,e,_,_⟩|⟨fN,k,b,e,_,_,_⟩:=g
 .let#[_,_,vs,_,dd]:=Wz I.hok e;exact dd.typeIs
 .let#[_,_,xs,_,dd]:=As I.hok e;calc dd.typeIs
inductive Ie(Q:VK)(x:V)(y:V)(H2:Hp):Prop
 |mk:∀a v,x=.ref a->Yf H2 a y (some v)->Q v H2->Ie Q x y H2
def c8(a ty:TE):TE:=λZ H Q=>a Z H λx H1=>ty Z H1 λy b=>Ie Q x y b
inductive NT(Q:VK)(y:V)(x:V)(H2:Hp):Prop
 |mk:∀a o,x=.ref a->Yf H2 a y o->Q (.bl o.isSome) H2->NT Q y x H2
def tDIn(ty a:TE):TE:=λZ H Q=>ty Z H λy H1=>a Z H1 λx b=>NT Q y x b
inductive A5(Q:VK)(y:V)(x:V)(H2:Hp):Prop
 |mk:∀a o,x=.ref a->Yf H2 a y o->Q (.bl (!(o.isSome))) H2->A5 Q y x H2
def R5(ty a:TE):TE:=λZ H Q=>ty Z H λy H1=>a Z H1 λx b=>A5 Q y x b
inductive I7(D:VL)(Z:St)(v:V)(x:V)(y:V)(H3:Hp):Prop
 |mk:∀a H4,x=.ref a->UL H3 a y v H4->D.nx Z H4->I7 D Z v x y H3
def dQ(a ty b:TE):TS:=λD Z H=>b Z H λv H1=>a Z H1 λx c=>ty Z c λy d=>I7 D Z v x y d
section
variable {X:Cx}{o i e value:Expr}{pos pos' tpos:Pos}{td ty tv:TE}
def Yg(d:X.A.units+1<cLine)(e:PE X o td)(hi:PE X i ty)(f:fI i:=by calc λ_ _=>rfl):PE X (.Subscript o i pos) (c8 td ty):=by
 intro fL s Z H Q I h;calc R6 PySem.F.slot_dict_getitem.lookup f (jf (e fL s Z H _ I h) λu s1 #[x,H1,j,k,l]=>jf (hi fL s1 Z H1 _ j l) λr s2 #[y,m,c,n,a,v,ex,g,p]=>?_);subst ex;obtain rfl:u=Value.ref a:=k;calc{EK c g,Nl d c g n λt s3 q b=>#[v,m,q,b,p]}
def Xj(b:X.A.units+1<cLine)(hi:PE X i ty)(c:PE X o td):PC X .In i o (tDIn ty td):=by
 intro fL s Z H Q I h;calc jf (hi fL s Z H _ I h) λq s1 #[y,H1,d,e,f]=>jf (c fL s1 Z H1 _ d f) λu s2 #[x,j,k,l,a,m,ex,g,n]=>?_;subst ex;obtain rfl:u=Value.ref a:=l;calc d_in b k g e λs3 p=>{.bl m.isSome,j,p,U,n}
def UD(b:X.A.units+1<cLine)(hi:PE X i ty)(c:PE X o td):PC X .NotIn i o (R5 ty td):=by
 intro fL s Z H Q I h;calc jf (hi fL s Z H _ I h) λq s1 #[y,H1,d,e,f]=>jf (c fL s1 Z H1 _ d f) λu s2 #[x,j,k,l,a,m,ex,g,n]=>?_;subst ex;obtain rfl:u=Value.ref a:=l;calc Tz b k g e λs3 p=>{.bl (!(m.isSome)),j,p,U,n}
def Ys(b:X.A.units+1<cLine)(c:PE X o td)(hi:PE X i ty)(d:PE X value tv)(e:swapsWith value (@(.Subscript o i pos')) pos.line X.env=pure false) :
 PS X (.Assign [.Subscript o i pos'] value pos) (dQ td ty tv):=by
 intro fL s Z H D I h;calc wpAny_Assign_Subscript (jf (d fL s Z H _ I h) λr s1 #[v,H1,f,j,k]=>jf (c fL s1 Z H1 _ f k) λu s2 #[x,l,m,n,p]=>jf (hi fL s2 Z l _ m p) λB s3 #[y,C,q,t,a,w,ex,g,z]=>?_) e;subst ex;obtain rfl:u=Value.ref a:=n;calc Nk b q g t j λs4 A=>#[Z,w,A,z]
end
def EJ(h:Heap)(a:sysModules<h.objs.size):QU P w H (h.push {cls:=.type "dict",data:=.dict #[]}) h.objs.size (.dK []):=
 {qR _,z8.mpr (jD (zc a)),[],.nil,Heap.DictOf.new h}
def Rq(h:Heap)(a:sysModules<h.objs.size):QU P w H (h.push {cls:=.type "dict",data:=.dict #[]}) h.objs.size (.dT []):=
 {qR _,z8.mpr (jD (zc a)),[],.nil,_,#[],(0),qH _ rfl,#[U,U,U],7,zH}
def aV:TE:=λ_ H Q=>∀p,H p=none->Q (.ref p) (upd H p (.dK []))
def aU:TE:=λ_ H Q=>∀p,H p=none->Q (.ref p) (upd H p (.dT []))
section
variable {X:Cx}{pos:Pos}
def Q0:PE X (.Dict [] [] pos) aV:=λfL s Z H Q I h=>
 wpAny_Dict_empty {.ref (!s),_,I.laid (a:=(!s)) (o:=.dK []) (t':=s.toks) (λ_ _ q=>qt _ q) (qr _) (EJ s.heap I.big),U,h _ (I.hok.fresh (qr _))}
def XM:PE X (.Dict [] [] pos) aU:=λfL s Z H Q I h=>
 wpAny_Dict_empty {.ref (!s),_,I.laid (a:=(!s)) (o:=.dT []) (t':=s.toks) (λ_ _ q=>qt _ q) (qr _) (Rq s.heap I.big),U,h _ (I.hok.fresh (qr _))}
end
def Fl:qa (TE×TE)->St->Hp->(qa (V×V)->Hp->Prop)->Prop
 |[],_,H,Q=>Q [] H
 |(a,b)::r,Z,H,Q=>a Z H λx H1=>b Z H1 λy c=>Fl r Z c λd e=>Q ((x,y)::d) e
abbrev VV:qa (V×V)->qa (qd×qd)->Prop:=Paired λp q=>QL p.1 q.1/\QL p.2 q.2
def PPs(X:Cx)(pos:Pos)(keys:qa (uf Expr))(values:qa Expr)(a:qa (TE×TE)):Prop:=
 ∀(fL:qa (qc×Obj))(s:ug)(Z:St)(H:Hp)(Q:qa (V×V)->Hp->Prop),Inv X fL Z H s->Fl a Z H Q ->
  wpAny (model X.prog X.w) X.A (evalPairs (pairTrees keys values X.env pos)) (λvs s'=>∃b H',Inv X fL Z H' s'/\VV b vs/\Q b H') X.xe s
def Li  :PPs X pos [] [] []:=λfL s Z H Q I h=>pairTrees_nil_walk {[],H,I,.nil,h}
def DM{k v:Expr}{ks:qa (uf Expr)}{vs:qa Expr}{b c:TE}{a:qa (TE×TE)}(d:PE X k b)(e:PE X v c)(f:PPs X pos ks vs a) :
 PPs X pos (some k::ks) (v::vs) ((b,c)::a):=λfL s Z H Q I h=>
 pairTrees_cons_walk (jf (d fL s Z H _ I h) λu s1 #[x,H1,g,i,j]=>jf (e fL s1 Z H1 _ g j) λw s2 #[y,l,m,n,o]=>
  jf (f fL s2 Z l _ m o) λws s3 #[p,q,r,rel,t]=>{(x,y)::p,q,r,.cons #[i,n] rel,t})
def V6(fN more:qa (Key×V)):qa (Key×V):=more.foldl (λacc a=>Yz acc a.1 a.2) fN
def KV.merge:∀{more:qa (Key×V)}{rs:qa (Key×qd)}{fN:qa (Key×V)}{vs:qa (Key×qd)},KV more rs->KV fN vs->KV (V6 fN more) (merged vs rs):=by
 intro more rs fN vs r;unfold KV at r
 induction r generalizing fN vs with
 |nil=>intro q;calc q
 |@cons p q c qs h t a=>
  intro b;let e:KV (Yz fN p.1 p.2) (stored vs q.1 q.2):=by
   have:=b.put p.1 h.2;rw[<-h.1];exact this
  calc a e
def Xa:∀(more fN:qa (Key×V)),-(V6 fN more)<=-fN+-more
 |[],fN=>by show -fN<=-fN+0;omega
 |p::r,fN=>by
  let a:=Xa r (Yz fN p.1 p.2);let b:=UY fN p.1 p.2;show(V6 (Yz fN p.1 p.2) r).length<=_;rw[qU];omega
def Hy{fN:qa (Key×V)}{ws:qa (qd×qd)}(r:VV (fN.map λd=>(kV d.1,d.2)) ws):∃rs,Carries (Q4 P w) ws rs/\KV fN rs:=by
 induction fN generalizing ws with
 |nil=>cases r;calc{[],True.intro,.nil}
 |cons p fN e=>
  cases r with
  |@cons a b as bs h t=>
   let#[rs,c,q]:=e t;let#[g,f]:=b;calc{(p.1,f)::rs,{Xb h.1,U,c},.cons #[U,h.2] q}
def c5(a:qa (TE×TE)):TE:=λZ H Q=>∀p,H p=none->Fl a Z (upd H p (.dK [])) λd b=>b p=@(.dK [])/\∃fN:qa (Key×V),d=fN.map (λc=>(kV c.1,c.2))/\-fN<=15/\Q (.ref p) (upd b p (.dK (V6 [] fN)))
def Ln{keys:qa (uf Expr)}{values:qa Expr}{b:qa (TE×TE)}(h:PPs X pos keys values b)(d:keys.all (·.isSome)=true)(j:-keys=-values)(h0:keys≠[])
 (g:-keys<=15):PE X (.Dict keys values pos) (c5 b):=by
 intro fL s Z H Q I q;let k:=I.hok.fresh (qr (!s));let l:=I.laid (a:=(!s)) (o:=.dK []) (h':=s.heap.push {cls:=.type "dict",data:=.dict #[]}) (t':=s.toks) (λ_ _ q=>qt _ q) (qr _) (EJ s.heap I.big);calc wpAny_Dict_walk (knd:=Q4 X.prog X.w) d j h0 g (jf (h fL _ Z _ _ l (q _ k)) λws s2 #[x,y,i,rel,e,fN,m,lk,n]=>?_);subst m;let#[rs,c,p]:=Hy (P:=X.prog) (w:=X.w) rel;let#[z,hd,r,t,dd]:=Au i.hok e;cases t;erw[rs,c,dd,λh' f u=>{.ref (!s),_,?_,U,n}];let hz:-(V6 [] fN)<=sizeLine:=by
  let v:=Xa fN [];rw[jP] at v;rw[jw];omega
 let he:∃q,h'.get? (!s)=some q:=let ⟨q,_,_,v,_⟩:=f;#[q,v];calc X0 i (e<|True.intro) u he (CC hz hd (p.merge .nil) f)
structure M1(X:Cx)(o:Expr)(m:qb)(apos:Pos)(e:Expr)(fO:Pos):Prop where
 base:attributeBase o m X.env (eval o X.env)=eval o X.env
 few:((backTo fO (starEach [e] X.env)).all (λx=>!(x.1))&&(backToKw fO (keywordEach [] X.env)).all (λx=>x.1.isSome)
  &&decide (-([e]:qa Expr)+-([]:qa Keyword)+(if ([]:qa Keyword).isEmpty then 0 else 1)<30))=true
 line:(apos.endLine==fO.line)=true
 trees:backTo fO (starEach [e] X.env)=[(false,eval e X.env)]
structure M2(X:Cx)(o:Expr)(m:qb)(apos:Pos)(e f:Expr)(fO:Pos):Prop where
 base:attributeBase o m X.env (eval o X.env)=eval o X.env
 few:((backTo fO (starEach [e,f] X.env)).all (λx=>!(x.1))&&(backToKw fO (keywordEach [] X.env)).all (λx=>x.1.isSome)
  &&decide (-([e,f]:qa Expr)+-([]:qa Keyword)+(if ([]:qa Keyword).isEmpty then 0 else 1)<30))=true
 line:(apos.endLine==fO.line)=true
 trees:backTo fO (starEach [e,f] X.env)=[(false,eval e X.env),(false,eval f X.env)]
def IsD(H:Hp)(a:qc):Prop:=(∃fN,Rd H a (.dK fN))\/∃fN,Rd H a (.dT fN)
def Ah(I:Inv X fL Z H s)(d:IsD H a) :
 s.TypeIs (.ref a) "dict"/\(∀b,Value.ref a=.ref b->∃c,s.heap.get? b=some c/\c.dict=none)/\(a==sysModules)=false:=by
 obtain⟨fN,e⟩|⟨fN,e⟩:=d
 .let#[_,hd,vs,_,dd]:=Wz I.hok e;erw[dd.typeIs,λb q=>?_,hd];cases q;let#[c,_,_,f,g,_]:=dd;exact#[c,f,g.2.1]
 .let#[_,hd,xs,_,dd]:=As I.hok e;erw[dd.typeIs,λb q=>?_,hd];cases q;let#[c,_,_,f,g,_]:=dd;exact#[c,f,g.2.1]
section
variable {X:Cx}{fL:qa (qc×Obj)}{Z:St}{H:Hp}{s:ug}{a:qc}{y d:V}{u r:qd}{o:uf V}{A:uj}{E:qf}
def cp{Q:qf}(m:A.units+1<cLine)(I:Inv X fL Z H s)(g:Yf H a y o)(f:QL y u)(i:QL d r)(h:∀j s',Inv X fL Z H s'->QL (o.getD d) j->Q j s') :
 wpAny (model X.prog X.w) A (call (.builtin "dict.get") [.ref a,u,r]) Q E s:=by
 obtain⟨fN,k,e,c,l⟩|⟨fN,k,b,e,c,n,l⟩:=g
 .subst c;let#[z,hd,vs,rel,dd]:=Wz I.hok e;calc xZ slot_dict_get dd.typeIs PySem.F.entry_dict_get (PySem.F.args_dict_get_3 _ _ _) (meets_dict_get_default (Q4 X.prog X.w) a (Xb f) hd r) {_,dd.mapOf,h _ _ (I.tok _) ?_};rw[l];exact(rel.val k).getD i
 .subst c;cases (show u=Value.ref b from f);let#[z,hd,xs,rel,dd]:=As I.hok e;calc xZ slot_dict_get dd.typeIs PySem.F.entry_dict_get (PySem.F.args_dict_get_3 _ _ _) (meetsH_dict_get_default (tupleKind (Q4 X.prog X.w)) a b hd r) {yR m,k,xs,Kn I.hok n,dd,h _ _ (I.tok _) ?_};rw[l];calc(rel.val k).getD i
end
inductive A7(Q:VK)(a:qc)(y:V)(z:V)(H3:Hp):Prop
 |mk:∀o,Yf H3 a y o->Q (o.getD z) H3->A7 Q a y z H3
inductive CY(ty:TE)(tx:TE)(Z:St)(Q:VK)(x:V)(H1:Hp):Prop
 |mk:∀a,x=.ref a->IsD H1 a->(ty Z H1 λy H2=>tx Z H2 λz H3=>A7 Q a y z H3)->CY ty tx Z Q x H1
def aW(a ty b:TE):TE:=λZ H Q=>a Z H λx H1=>CY ty b Z Q x H1
inductive A3(Q:VK)(a:qc)(y:V)(H2:Hp):Prop
 |mk:∀fN k v,H2 a=some (.dK fN)->y=kV k->QB fN k=some v->Q v (upd H2 a (.dK (Ub fN k)))->A3 Q a y H2
inductive CW(ty:TE)(Z:St)(Q:VK)(x:V)(H1:Hp):Prop
 |mk:∀a,x=.ref a->IsD H1 a->(ty Z H1 λy H2=>A3 Q a y H2)->CW ty Z Q x H1
def aT(a ty:TE):TE:=λZ H Q=>a Z H λx H1=>CW ty Z Q x H1
inductive A1(Q:VK)(a:qc)(y:V)(z:V)(H3:Hp):Prop
 |mk:∀fN k,H3 a=some (.dK fN)->y=kV k->((∀v,QB fN k=some v->Q v (upd H3 a (.dK (Ub fN k)))))->((QB fN k=none->Q z H3))->A1 Q a y z H3
inductive CV(ty:TE)(tx:TE)(Z:St)(Q:VK)(x:V)(H1:Hp):Prop
 |mk:∀a,x=.ref a->IsD H1 a->(ty Z H1 λy H2=>tx Z H2 λz H3=>A1 Q a y z H3)->CV ty tx Z Q x H1
def aS(a ty b:TE):TE:=λZ H Q=>a Z H λx H1=>CV ty b Z Q x H1
section
variable {X:Cx}{o e f:Expr}{apos fO:Pos}{td ty tx:TE}
def Y8(i:X.A.units+1<cLine)(j:PE X o td)(he:PE X e ty)(hf:PE X f tx)(m:M2 X o "get" apos e f fO):PE X (.Call (.Attribute o "get" apos) [e,f] [] fO) (aW td ty tx):=by
 intro fL s Z H Q I h;calc vo m.base m.few m.line plainAttrs_dict slot_dict_get PySem.F.type_dict_get (jf (j fL s Z H _ I h) λu s1 #[x,H1,c,k,a,ex,d,l]=>?_);subst ex;obtain rfl:u=Value.ref a:=k;let#[t1,n,_]:=Ah c d;erw[t1,n,?_];rw[m.trees];refine jv rfl (yq (jh (jf (he fL s1 Z H1 _ c l) λD s2 #[y,p,q,r,t]=>
  jh (jf (hf fL s2 Z p _ q t) λb s3 #[z,v,w,A,C,g,B]=>jW ?_))))
 calc cp i w g r A λE s4 C b=>{_,v,C,b,B}
def Um(f:PE X o td)(he:PE X e ty)(m:M1 X o "pop" apos e fO):PE X (.Call (.Attribute o "pop" apos) [e] [] fO) (aT td ty):=by
 intro fL s Z H Q I h;calc vo m.base m.few m.line plainAttrs_dict slot_dict_pop PySem.F.type_dict_pop (jf (f fL s Z H _ I h) λu s1 #[x,H1,c,g,a,ex,d,i]=>?_);subst ex;obtain rfl:u=Value.ref a:=g;let#[t1,j,_]:=Ah c d;erw[t1,j,?_];rw[m.trees];calc jv rfl (yq (jh (jf (he fL s1 Z H1 _ c i) λz s2 #[y,A,n,p,fN,k,v,q,r,l,t]=>jW ?_)));subst r;calc aA n q p l (.inl rfl) λB s3 w b=>{v,_,w,b,t}
def OX(p:PE X o td)(he:PE X e ty)(hf:PE X f tx)(m:M2 X o "pop" apos e f fO):PE X (.Call (.Attribute o "pop" apos) [e,f] [] fO) (aS td ty tx):=by
 intro fL s Z H Q I h;calc vo m.base m.few m.line plainAttrs_dict slot_dict_pop PySem.F.type_dict_pop (jf (p fL s Z H _ I h) λu s1 #[x,H1,g,q,a,ex,d,r]=>?_);subst ex;obtain rfl:u=Value.ref a:=q;let#[t1,t,_]:=Ah g d;erw[t1,t,?_];rw[m.trees];refine jv rfl (yq (jh (jf (he fL s1 Z H1 _ g r) λK s2 #[y,w,A,i,B]=>
  jh (jf (hf fL s2 Z w _ A B) λC s3 #[z,D,j,E,fN,k,n,F,G,J]=>jW ?_))))
 subst F
 cases l:QB fN k with
 |some v=>calc aA j n i l (.inr #[C,U]) λL s4 b c=>{v,_,b,c,G v l}
 |none=>calc ck j n i l λs4 b=>{z,D,b,E,J l}
end
end L2
namespace Att
open PySem PySem.W PySem.Calls PyProof.Rows
def K4{P:Params}{h:Heap}:∀(ns:qa Int)(vs:qg),WellAll P h vs (ns.map WData.int)->IntsAre vs ns:=by
 intro ns
 induction ns with
 |nil=>
  intro vs w;rw[wN] at w;cases w;calc .nil
 |cons n ns c=>
  intro vs w;rw[qZ] at w
  cases w with
  |cons a b=>
   cases a;calc .cons _ _ (c _ b)
def Mn{l:OpenLaw}{n:Nat}(i:l.most=some n){P:Params}{h:Heap}{args:qa WData}{vals:qg}
 (b:l.row.toRowW.claim.pre args=true) (f:WellAll P h vals args) :
 ∃a vs ns,vals=[Value.ref a]/\args=[WData.list (ns.map WData.int)]/\h.get? a=some {cls:=.type "list",data:=.seq vs.toArray}/\IntsAre vs ns/\-ns<=n:=by
 let g:WShape.hasAll [] args [.list .int]=true:=(pre_splitW b).1;let hc:l.pre.holds [] {args:=args}=true:=(pre_splitW b).2;let#[d,r,U,j,k]:=hasAllW_cons g;obtain rfl:=hasAllW_nil k;let#[xs,U,m]:=hasW_list j;let#[ns,U]:=items_int m;let hlen:-ns<=n:=by
  unfold OpenLaw.pre at hc;let c:(WTm.not (.lt (.lit (.int (n:Int))) (.len (.arg 0)))).holds [] {args:=[.list (ns.map .int)]}=true:=by
   let c:=(holds_andW hc).1;rw[i] at c;exact c
  let e:=condW_of c (w_not (w_lt w_lit (w_len_list (w_arg rfl))));rw[qh] at e;calc gD λq=>?_;let o:(n:Int)<((-ns:Nat):Int):=by omega
  first
   |(rw[qw o] at e;calc absurd e ∅)
   |(simp at e;omega)
 cases f with
 |cons e o=>
  cases o
  cases e with
  |list p c=>calc{9,ns,7,p,K4 ns _ c,hlen}
def Mx(l:OpenLaw)(args:qa WData):l.row.toRowW.claim.post args (.bool true) args=true:=
 postW_of (r:=l.row.toRowW) (X:=(true==true))
  (show WShape.has [] (.bool true) .bool=true by first|rfl|decide|simp[WShape.has,WShape.arms,WShape.armsAll])
  (show(WTm.eq .res (.lit (.bool true))).value [] {args:=args,res:=@(.bool true),after:=args}=@(.bool (true==true)) from w_eq_bool (w_res rfl) w_lit) rfl
def vM{l:OpenLaw}{n:Nat}{q:uh}{loose:qe}{XP:(qb->uf qd)->Heap->Prop}{YP:ui->Heap->Prop}{d:DefRec}
 (t:l.most=some n) (h:d.params.defaults=[])
 (call:∀(w:ui)(s₀ b:ug)(mg i:qb->uf qd)(c:qc)(o:Obj)(pm cd doc:qd)(a:qc)(vs:qg)(ns:qa Int),
   Ground q loose [] XP w s₀ mg i b.heap->YP w b.heap ->
   b.heap.get? c=some o->o.data=.func (docDef d.name d.params d.body d.scope pm cd doc)->b.heap.CodeRec cd d.name->mg d.name=@(.ref c) ->
   b.heap.get? a=some {cls:=.type "list",data:=.seq vs.toArray}->IntsAre vs ns->-ns<=n->b.gens=#[] ->
   codeAny (model l.prog w) callerA (.call (.ref c) {[.ref a],[]}) (λr s'=>r=.ok (.ret (.bool true))/\OldK b.heap s'.heap/\s'.os=b.os/\AllBare s'.gens) b) :
 WalkO q loose XP YP l.row.toRowW d [] (λf vs=>PySem.call f vs):=by
 intro w s₀ b mg i G Y c o pm cd doc u kV v hd j p k x args vals as e s y m z;obtain rfl:u=.none:=Dflts.none p h;obtain rfl:kV=.none:=Dflts.noKw p;let#[a,vs,ns,U,U,g,hints,hlen]:=Mn t e m;calc enter_call (yg (call w s₀ b mg i c o pm cd doc a vs ns G Y v (fd_plain hd) j k g hints hlen x) λr s' A=>?_);let#[U,B,C,D]:=A;calc{.inl {.bool true,.bool true,[],U,λ_=>rfl,.bool true,Mx l _,λ_=>{List.Pairwise.nil,λ_ hm=>(nomatch hm)}},B,C,D}
end Att
namespace L2
open PySem PySem.Spec PyProof.Rows
variable {fd:FuncData}{qual x:qb}{f:qc}{H:Hp}
def Md{vs:qg}{ns:qa Int}(h:IntsAre vs ns):QF (ns.map V.int) vs:=by
 induction h with
 |nil=>calc .nil
 |cons n t h a=>calc .cons #[t,U] a
def cC(H:Hp):Prop:=∀b,H b=none\/∃o xs,H b=@(.jM o (.lst xs))
def Pz{P:uh}{w:ui}{K:Frag}{mg D:qb->uf qd}{N:gj}{k:Nat}{E a:qc}{sp:Sp}{c:ug}{vs:qg}{ns:qa Int}
 (O:K.In c.heap) (j:c.heap.Ns mainGlobals mg) (f:c.heap.Ns builtinsNs D) (G:∀x:qb,x≠"__name__"->D x=bootBuiltins x) (l:c.heap.NoLimit) (Y:c.gens=#[])
 (C:c.heap.get? a=some {cls:=.type "list",data:=.seq vs.toArray}) (hi:IntsAre vs ns) (Q:-ns<=sizeLine) (Z:Yu k callerA)
 (F:∀base:Heap,K.In base->base.Ns mainGlobals mg->VJ P w K mg base N k E fd [x] sp) (i:∀(s:ug)(u:qd),BindsTo s fd {[u],[]} [(x,u)])
 (I:∀H:Hp,cC H->zm K H a (ns.map V.int)->sp [.ref a] H (λv _=>v=.bl true) λ_ _ _=>False)
 (J:∀H e s',N [] H c (λ_ _ _=>False) e s'->False) :
 codeAny (model P w) callerA (.call (.ref E) {[.ref a],[]}) (λr s'=>r=.ok (.ret (.bool true))/\OldK c.heap s'.heap/\s'.os=c.os/\AllBare s'.gens) c:=by
 let R:=Md hi;let p:=-hi;let core:∀H:Hp,cC H->zm K H a (ns.map V.int)->y4 P w H c.heap->(∀b,H b≠none->b=a)->(H a≠none->K.lookup a=none) ->
  codeAny (model P w) callerA (.call (.ref E) {[.ref a],[]}) (λr s'=>r=.ok (.ret (.bool true))/\OldK c.heap s'.heap/\s'.os=c.os/\AllBare s'.gens) c:=by
  intro H S hS hok T hK;let wq:∀{b:qc}{o:Obj},c.heap.get? b=some o->H b=none->(Cz c.heap H).get? b=some o:=λe n=>P6 e n;let M:∀{b:qc}{o:Obj}{es:uk DictEntry}{y:Nat},c.heap.get? b=some o->o.data=.dict es y->H b=none:=λ{b o es y} e d=>by
   cases q:H b with
   |none=>rfl
   |some u=>
    let B:b=a:=T b (by rw[q];simp);subst B;rw[C] at e;cases e;let d':Data.seq vs.toArray _=Data.dict es y:=d;cases d'
  let g:∀{b:qc}{m:qb->uf qd},c.heap.Ns b m->(Cz c.heap H).Ns b m:=λ{b m} ⟨o,es,y,e,d,r⟩=>{o,es,y,wq e (M e d),d,r};let A:K.In (Cz c.heap H):=λb o e=>wq (O b o e) (by
   cases q:H b with
   |none=>rfl
   |some u=>
    let B:b=a:=T b (by rw[q];simp);subst B;rw[hK (by rw[q];simp)] at e;cases e)
  let hM:Mod K mg (Cz c.heap H):={A,g j,{D,g f,G},let ⟨mc,h1,h2⟩:=l;{mc,g h1,h2}};let e0:AS P w K mg (Cz c.heap H) callerA [] c H:={U,hM,λb o e=>SQ e,xj (Nd _ _),trivial,λb f=>absurd (show b∈([]:qa qc) from f) (by simp),hok,.of_eq Y};refine yg ((F _ A (g j)).run callerA [] c H {[.ref a],[]} [.ref a] [.ref a] _ _ Z e0 (i c (.ref a)) (.cons rfl .nil) (I H S hS)) λr s' h=>?_
  cases r with
  |error e=>calc(J H e s' h).elim
  |ok fl=>
   cases fl with
   |next=>calc False.elim h
   |brk=>calc False.elim h
   |cont=>calc False.elim h
   |ret u=>
    let#[v,H',os,bare,un,B,r',q]:=h;let q':v=.bl true:=q;subst q';obtain rfl:u=Value.bool true:=r';erw[U,OldK.of_keep λb o e=>?_,os,bare]
    cases q:H b with
    |none=>calc un.keep b o e q (by intro z;calc absurd (show b∈([]:qa qc) from z) (by simp)) (by simp)
    |some u=>
     obtain z|⟨ob,xs,z⟩:=S b
     .rw[q] at z;cases z
     .have z2:=un.kh b ob _ z;let#[X,_]:=hok b _ z;let#[e2,_]:=B b _ z2;rw[e] at X;cases X;exact e2
 cases y:K.lookup a with
 |some o=>
  let e:=O a o y;rw[C] at e;cases e;calc core (λ_=>none) (λ_=>.inl rfl) (.inr {_,vs.toArray,_,y,U,7,qM<|p<|Q,by simpa using R}) (λb u z=>by let g:(none:uf HO)=some u:=z;cases g) (λb z=>absurd rfl z) λz=>absurd rfl z
 |none=>
  refine core (λb=>if b=a then @(.jM {cls:=.type "list",data:=.seq vs.toArray} (.lst (ns.map V.int))) else none) (λb=>?_) (.inl (.inr {{cls:=.type "list",data:=.seq vs.toArray},qE rfl})) (λb u z=>?_) (λb z=>?_) λ_=>y
  .by_cases f:b=a
   .exact .inr {9,qE f}
   .exact .inl (qC f)
  .by_cases f:b=a
   .have g:=(qE f).symm.trans z;cases g;subst f;exact{C,qh<|Q,vs,_,R,C}
   .have g:=(qC f).symm.trans z;cases g
  .by_cases f:b=a
   .exact f
   .exact absurd (qC f) z
abbrev ja:gj:=λ_ _ _ _ _ _=>False
abbrev E0:XK:=λ_ _ _=>False
def UW{X:Cx}:WE ja X E0:=λ_ _ _ _ _ _ _ h=>h.elim
structure wz(K:Frag)(x qual:qb)(st:Stmt)(f:qc)(fd:FuncData):Prop where
 ex:∃(oc:qd)(od:uf qc)(kV doc pm:qd)(an:uf qc)(cdv ct:qd)(osl:uk (uf qd)),
  fd=fnOf x qual (Yo st) (YB st) (Qs st) .none kV doc pm an cdv ct/\K.lookup f=some {oc,od,.func fd,osl}/\codeIn K cdv qual=true
 kp:keepIn K (.ref f)=true
section
variable {P:uh}{w:ui}{K:Frag}{mg:qb->uf qd}{base:Heap}
def wz.ok{st:Stmt}{N c:qe}{k:Nat}{sp:Sp}(F:wz K x qual st f fd)(S:Wc N c (Qs st))
 (b:∀(a:qd)(A:uj)(outer:qa Env)(s:ug)(H:Hp)(vs:qa V)(Q:VK)(E:XK),Yu k (A.deeper (envOfC qual (Qs st) (!s) f a))->sp vs H Q E ->
   ∃t,vn (EL ja P w K mg base N qual (Qs st) f a A outer s H E).uw (YB st) t/\t {nx:=λ_ H'=>Q .non H',rt:=Q} (start N vs) H) (len:∀vs H Q E,sp vs H Q E->-vs=-c:=by intro _ _ _ _ h;cases h;subst_vars;rfl):VJ P w K mg base ja (k+1) f fd c sp:=by
 let#[j,l,kV,doc,pm,an,a,ct,g,U,lk,d]:=F.ex;calc az lk d S len λA outer s H vs Q E i e=>?_;let#[t,h,q]:=b a A outer s H vs Q E i e;exact#[t,h.uw,q]
def wz.binds{st:Stmt}{b:qe}(F:wz K x qual st f fd)
 (h:∀(kV doc pm:qd)(an:uf qc)(a ct:qd)(us:qg),-us=-b->bindArgs (fnOf x qual (Yo st) (YB st) (Qs st) .none kV doc pm an a ct) {us,[]}=pure (b.zip us)):YN K fd b []:=by
 let#[e,g,kV,doc,pm,an,a,ct,c,U,lk,d]:=F.ex;calc .all (h kV doc pm an a ct)
def cb{st:Stmt}{d:qd}{e an:uf qc}{b:uk (uf qd)}{kV doc pm a ct:qd}(l:K.lookup f=some {d,e,.func (fnOf x qual (Yo st) (YB st) (Qs st) .none kV doc pm an a ct),b})
 (c:codeIn K a qual=true) (k:keepIn K (.ref f)=true):wz K x qual st f (fnOf x qual (Yo st) (YB st) (Qs st) .none kV doc pm an a ct):={#[d,e,kV,doc,pm,an,a,ct,b,U,l,c],k}
end
def Yt{A:uj}{k:Nat}(a:Yu k A):A.units+1<cLine:=jk (Nat.add_le_add_left (by decide:1<=64) _) a.units
def QA{n:Nat}(h:n<=1000):n<sizeLine:=jk h ∅
def QT{n:Nat}(h:n<=1000):n<=sizeLine:=jQ (QA h)
def Xf:0<=sizeLine:=by decide
def Ma:1<=sizeLine:=by decide
def Y6:2<=sizeLine:=by decide
def BW:3<=sizeLine:=by decide
def AJ:4<=sizeLine:=by decide
def cI:5<=sizeLine:=by decide
def zi_2:(0:Int)<2:=by decide
def RT:(0:Int)<3:=by decide
def RS:(0:Int)<4:=by decide
def zi_5:(0:Int)<5:=by decide
def zi_7:(0:Int)<7:=by decide
def zi_8:(0:Int)<8:=by decide
def TV:(0:Int)<10:=by decide
def cM:(0:Int)<14:=by decide
def cL:(0:Int)<18:=by decide
def cK:(0:Int)<19:=by decide
def cJ:(0:Int)<20:=by decide
def HL:(0:Int)<36:=by decide
def NB:(0:Int)<10000:=by decide
def AK:(0:Int)<2147483587:=by decide
def W4:(0:Int)<2147483629:=by decide
def W3:(0:Int)<2147483647:=by decide
section
variable {X:Cx}
def pv(i:Nat){pos:Pos}(b:X.N[i]?=some x:=by rfl)(c:Vis X.env.scope x:=by first|calc Or.inl rfl|calc Or.inr (Or.inl rfl)|calc Or.inr (Or.inr rfl))(hd:(x==("__debug__":qb))=false:=by decide)
 (a:(x==("__classdict__":qb))=false:=by decide):PE X (.Name x pos) (aP i):=bj b c hd a
end
def QQ{A B:Prop}(h:B):if false=true then A else B:=by
 rw[qC qF];calc h
def Q7{A B:Prop}(h:A):if true=true then A else B:=by
 rw[qE rfl];calc h
def Y7{c A B:Prop}[Decidable c](a:c->A)(b:¬c->B):if c then A else B:=by
 by_cases h:c
 .rw[qE h];exact a h
 .rw[qC h];calc b h
def Qi(H H':Hp):Prop:=∀b o,H b=some o->H' b=some o
def Qi.refl(H:Hp):Qi H H:=λ_ _ h=>h
def Qi.trans{H1 d:Hp}(a:Qi H H1)(b:Qi H1 d):Qi H d:=λc o h=>b c o (a c o h)
def Qi.free{H':Hp}(e:Qi H H'){l:qc}(h:H' l=Option.none):H l=Option.none:=by
 cases q:H l with
 |none=>rfl
 |some o=>
  rw[e l o q] at h;cases h
def Qi.seq{K:Frag}{H':Hp}{a:qc}{xs:qa V}(e:Qi H H')(h:zm K H a xs):zm K H' a xs:=by
 obtain(h|⟨o,h⟩)|h:=h
 .exact .inl (.inl (e _ _ h))
 .exact .inl (.inr {o,e _ _ h})
 .exact .inr h
section
variable {X:Cx}
def Nq:Uk X (.builtin "len") (λxs H Q=>∃a b,xs=[V.ref a]/\H a=@(.dK b)/\Q (.int (-b)) H):=by
 intro fL s Z H xs us Q I r h;let#[a,b,U,c,q]:=h;let#[u,U,d]:=UG r;cases d;calc fB I (.inl c) λt s' e=>{.int (-b),H,e,#[t,U],q}
end
section
variable {κ:Type}[DecidableEq κ]
def Kr{p:κ×V}{r:qa (κ×V)}{k:κ}(e:p.1=k):Ub (p::r) k=Ub r k:=by
 unfold Ub;rw[zi,qC (by simp[e])]
def Ks{p:κ×V}{r:qa (κ×V)}{k:κ}(e:¬p.1=k):Ub (p::r) k=p::Ub r k:=by
 unfold Ub;rw[zi,qE (by simp[e])]
end
variable {x:qb}{X:Cx}{Z:St}{H:Hp}{scope:Scope}{env:Env}{N:qe}{fr:qa (Nat×qb)}{s:ug}{fP iter:Expr}{ifs:qa Expr}{pos px:Pos}{wi:TI}{tt:TT}{te:TE}
def Its(x:qb):It:={λi _=>i<x.cps.size,λi H y H'=>H'=H/\∃c,x.cps[i]?=some c/\y=.str {([c].toArray)},λi _=>i=x.cps.size}
def AX{P:uh}{w:ui}{K:Frag}{C:Expr}{t:Tok}{it:qc}{ty:String}
 (D:["enumerate","zip","dict_itemiterator","dict_reverseitemiterator","odict_iterator","itertools.zip_longest","itertools.pairwise"].contains ty=false)
 (W:∀B:uj,B.handled=none->Walks P w B it [it] [it] x.cps.size (SignAt x) (λi h=>h.IsStrIter it ty x t i))
 (a:∀(A:uj)(i:Nat)(s:ug)(Q:qf)(E:qf),s.heap.IsStrIter it ty x t i->Q (.ref it) s->wpAny (model P w) A (pyIter (.ref it)) Q E s) :
 HG P w K C (Its x) [it] it (λi h=>h.IsStrIter it ty x t i) where
 mem:=qk.mpr rfl
 obj:=λi h st b e=>by
  cases qk.mp e;let#[o,q,_,d]:=st;exact{o,q,λv z=>by rw[d] at z;cases z}
 keep:=λi h h' st k=>by
  let#[o,q,r]:=st;exact{o,k it (qk.mpr rfl) o q,r}
 item:=by
  intro X j l m hc i fL s Z H E I hf st n;subst j l m;let F:=hf it (qk.mpr rfl);calc(W X.A (I.ok.hd hc)).item i s _ _ n st λv h' p G f y=>?_;let#[c,u,L,U]:=G;let J:Inv X fL Z H {s with heap:=h',toks:=p}:=I.turned (λb o e q=>y b o (λz=>e (qk.mp z)) q) F.1 F.2.1 F.2.2.2.1 F.2.2.2.2.1 F.2.2.2.2.2;let#[o,q,M,d]:=id f;exact{0,EA (s:={s with heap:=h',toks:=p}) q M d D {.str {([c].toArray)},H,J,#[u,U],#[U,c,L,U],f,λb e=>(hf b e).1}}
 done:=by
  intro X j l m hc i fL s Z H E I hf st n;subst j l m;let F:=hf it (qk.mpr rfl);let g:i=x.cps.size:=n;subst g;exact(W X.A (I.ok.hd hc)).done s _ _ st λh' p y=>{U,I.turned (λb o e q=>y b o (λz=>e (qk.mp z)) q) F.1 F.2.1 F.2.2.2.1 F.2.2.2.2.1 F.2.2.2.2.2}
 self:=a
inductive P2(R:(It->Hp->Prop))(x:V)(H1:Hp):Prop
 |mk:∀y,x=.str y->R (Its y) H1->P2 R x H1
def iStr(te:TE):TI:=λZ H R=>te Z H λx H1=>P2 R x H1
def FJ{j l:Expr}{f:TE}(k:PE X l f):PI X j l (iStr f):=by
 intro fL s Z H R I h;calc jf (k fL s Z H _ I h) λv s1 #[x,H1,a,m,y,e,q]=>?_;subst e;let#[t,U]:=m;let g:∀b∈[(!s1)],AI X fL H1 b:=λb n=>by
  cases qk.mp n;exact a.vz (qr _) (a.hok.fresh (qr _))
 cases i:y.cps.all (·<128)
 .refine wpAny_pyIter_wide i ?_;exact⟨(!s1),[(!s1)],_,_,H1,U,a.kept (t':=s1.toks) λb o z=>qt _ z,
   AX (x:=y) (t:=t) (ty:="str_iterator") ∅ (λp c=>Walks.strWide c _ y t) (λ_ _ _ _ _ st d=>wpAny_pyIter_striter_wide st d),{_,qH _ rfl,7},g,q⟩
 .refine wpAny_pyIter_ascii i ?_;exact⟨(!s1),[(!s1)],_,_,H1,U,a.kept (t':=s1.toks) λb o z=>qt _ z,
   AX (x:=y) (t:=t) (ty:="str_ascii_iterator") ∅ (λp c=>Walks.strAscii c _ y t) (λ_ _ _ _ _ st d=>wpAny_pyIter_striter_ascii st d),{_,qH _ rfl,7},g,q⟩
def Tv{g:TG}{tb:TS}{D:VL}(Pv:Nat->St->Hp->Prop)(h0:Pv 0 Z H)
 (b:∀i c Z H,x.cps[i]?=some c->Pv i Z H->g (.str {([c].toArray)}) Z H λd f=>tb {D with nx:=Pv (i+1),ct:=Pv (i+1),bk:=D.nx} d f) (hd:∀Z H,Pv x.cps.size Z H->D.nx Z H) :
 Xh g tb D Z (Its x) H:=by
 erw[λi m Z H=>m=x.cps.size-i/\i<=x.cps.size/\Pv i Z H,{x.cps.size,by simp,qR _,h0},?_];rintro i m Z H ⟨rfl,hi,p⟩;by_cases a:i<x.cps.size
 .refine .inr {a,Pv (i+1),λj H' h=>{x.cps.size-(i+1),(),U,a,h},?_};rintro v H' ⟨rfl,c,hc,rfl⟩;exact b i c Z _ hc p
 .have e:i=x.cps.size:=by omega
  subst e;calc .inl {U,hd Z H p}
def Vq(cells:qa (qb×qc)):qa (qb×NameKind)->qa (qb×qc)->qa (qb×qc)
 |[],cs=>cs
 |(n,k)::r,cs=>Vq cells r (if k==.free then (match cells.lookup n with|some c=>(n,c)::cs|none=>cs) else cs)
def AO(h:∀y∈scope.names,y.2=.free->∃c,env.cells.lookup y.1=some c):closureFor scope env=pure (Vq env.cells scope.names []):=by
 unfold closureFor;generalize ([]:qa (qb×qc))=cs
 revert cs
 generalize scope.names=names at h
 induction names with
 |nil=>intro cs;rfl
 |cons p r d=>
  let#[n,k]:=p;intro cs;let a:=d λy f=>h y (qy _ f);by_cases b:k=.free
  .subst b;let#[c,hc]:=h (n,.free) qA rfl;let e:cellOf env n=pure c:=by unfold cellOf;rw[hc]<;>rfl
   dsimp only at hc⊢;rw[List.forIn_cons];simp only[zT,yH,Vq,hc];rw[e];exact a _
  .have g:(k==NameKind.free)=false:=by simpa using b
   dsimp only;rw[List.forIn_cons];simp only[g,zr,jx,Vq];calc a _
def Az{cells:qa (qb×qc)}:∀(names:qa (qb×NameKind))(cs:qa (qb×qc)){y:qb}{c:qc},(Vq cells names cs).lookup y=some c->cells.lookup y=some c\/cs.lookup y=some c
 |[],cs,y,c,h=>.inr h
 |(n,k)::r,cs,y,c,h=>by
  obtain a|a:=Az r _ (show(Vq cells r _).lookup y=some c from h)
  .exact .inl a
  .split at a
   .split at a
    .rename_i d b
     rw[zM] at a;split at a
     .rename_i e
      cases a;exact .inl (eq_of_beq e<|b)
     .exact .inr a
    .exact .inr a
   .exact .inr a
def K2{cells:qa (qb×qc)}:∀(names:qa (qb×NameKind))(cs:qa (qb×qc)){y:qb},(∃c,cs.lookup y=some c)->∃c,(Vq cells names cs).lookup y=some c
 |[],cs,y,h=>h
 |(n,k)::r,cs,y,h=>by
  calc K2 r _ ?_;split
  .split
   .rw[zM];split
    .exact{0}
    .exact h
   .exact h
  .exact h
def Xr{cells:qa (qb×qc)}:∀(names:qa (qb×NameKind))(cs:qa (qb×qc)){y:qb},(y,NameKind.free)∈names->(∃c,cells.lookup y=some c)->∃c,(Vq cells names cs).lookup y=some c
 |(n,k)::r,cs,y,a,hc=>by
  obtain e|a:=qx.mp a
  .cases e;calc K2 r _ ?_;let#[c,hc]:=hc;simp only[zT,yH,hc];exact{c,by simp[zM]}
  .exact Xr r _ a hc
def a7(env:Env)(p:qb×NameKind):qb×NameKind:=if (p.2==NameKind.free&&env.scope.kind==.function&&env.kindOf p.1==some .cell)=true then (p.1,NameKind.cell) else (p.1,p.2)
def Mt{names:qa (qb×NameKind)}(h:names.lookup x=some .free):(names.map (a7 env)).lookup x=some .cell\/(names.map (a7 env)).lookup x=some .free:=by
 induction names with
 |nil=>calc nomatch h
 |cons c r b=>
  let#[n,k]:=c;rw[qZ];unfold a7
  cases a:x==n with
  |true=>
   rw[zM,a] at h;cases h;by_cases hc:(NameKind.free==NameKind.free&&env.scope.kind==.function&&env.kindOf n==some .cell)=true
   .left;rw[qE hc,zM,a]
   .right;rw[qC hc,zM,a]
  |false=>
   rw[zM,a] at h;by_cases hc:(k==NameKind.free&&env.scope.kind==.function&&env.kindOf n==some .cell)=true
   .rw[qE hc,zM,a];exact b h
   .rw[qC hc,zM,a];calc b h
def W0(h:scope.names.lookup x=some .free):(relabel scope env).names.lookup x=some .cell\/(relabel scope env).names.lookup x=some .free:=
 Mt (env:=env) h
def Cc(b:∀y∈scope.names,y.2≠.cell){y:qb}(h:(relabel scope env).names.lookup y=some .cell\/(relabel scope env).names.lookup y=some .free):(y,NameKind.free)∈scope.names:=by
 let key:∀k,(relabel scope env).names.lookup y=some k->k=.cell\/k=.free->(y,NameKind.free)∈scope.names:=λk e d=>by
  let m:=jr e;let#[#[n,a],hm,q]:=qj.mp m;dsimp only at q;split at q
  .rename_i c
   let f:(a==NameKind.free)=true:=by
    simp only[qY] at c;exact c.1.1
   let g:a=.free:=eq_of_beq f;cases q;rw[g] at hm;exact hm
  .cases q;obtain z|z:=d
   .exact absurd z (b _ hm)
   .rw[z] at hm;exact hm
 obtain h|h:=h
 .exact key _ h (.inl rfl)
 .exact key _ h (.inr rfl)
structure WW(sc scope:Scope)(N:qe)(x:qb)(fr:qa (Nat×qb)):Prop where
 kind:scope.kind=.function
 loc:scope.names.lookup x=some .local
 names:∀y∈scope.names,y.2=.local->scope.names.lookup y.1=some .local
 xQ:∀y∈scope.names,y.2≠.cell
 free:∀y∈scope.names,y.2=.free->sc.names.lookup y.1=some .cell\/sc.names.lookup y.1=some .free
 frk:∀p∈fr,N[p.1]?=some p.2/\scope.names.lookup p.2=some .free
 nd:(x::fr.map (·.2)).Nodup
def xV{sc:Scope}(k:scope.kind=.function)(l:scope.names.lookup x=some .local)(h:((∀y∈scope.names,y.2=.local->scope.names.lookup y.1=some .local)/\(∀y∈scope.names,y.2≠.cell)/\(∀y∈scope.names,y.2=.free->sc.names.lookup y.1=some .cell\/sc.names.lookup y.1=some .free))/\(∀p∈fr,N[p.1]?=some p.2/\scope.names.lookup p.2=some .free)/\(x::fr.map (·.2)).Nodup:=by decide +kernel):WW sc scope N x fr:=#[k,l,h.1.1,h.1.2.1,h.1.2.2,h.2.1,h.2.2]
def Uy(X:Cx)(scope:Scope)(C:qc)(N:qe)(s:ug)(H:Hp)(a:qa qc):Cx where
 prog:=X.prog
 w:=X.w
 K:=X.K
 mg:=X.mg
 base:=X.base
 A:=X.A
 N:=N
 s₀:=s
 H₀:=H
 env:=compEnvC scope (Vq X.env.cells scope.names []) C X.env
 outer:=X.stack
 stack:=X.stack
 ex:=a
 fn:=λ_=>false
 calm:=X.calm
 pn:=[]
 xe:=λ_ _=>False
def xb(Z:St)(fr:qa (Nat×qb)):St:=fr.map λp=>(Z[p.1]?).join
def PTs(X:Cx)(ifs:qa Expr)(t:TT):Prop:=
 ∀(fL:qa (qc×Obj))(s:ug)(Z:St)(H:Hp)(Q:Bool->Hp->Prop),Inv X fL Z H s->t Z H Q ->
  wpAny (model X.prog X.w) X.A (forIn ifs true λc r=>if r=true then do let ok <-isTrue c X.env (eval c X.env);pure (ForInStep.yield ok) else pure (ForInStep.yield r)) (TP X fL Z Q) X.xe s
def Xw:TT:=λ_ H Q=>Q true H
def Vi{Q:Bool->Hp->Prop}(h:Q true H):Xw Z H Q:=h
def Ud :PTs X [] Xw:=λ_ _ _ H _ I h=>wpAny_tests_nil #[H,I,h]
def YW{c:Expr}{t:TT}(hc:PT X c t):PTs X [c] t:=λfL s Z H Q I h=>wpAny_tests_one (hc fL s Z H Q I h)
def Yy(J:It)(fr:qa (Nat×qb))(tt:TT)(te:TE)(Z:St)(H1:Hp)(Q:VK):Prop:=∀D,H1 D=none ->
 ∃W:Nat->Nat->qa V->Hp->Prop,(∃m,W 0 m [] (upd H1 D (.lst [])))/\∀i m ys a,W i m ys a->a D=@(.lst ys) /\
  ((J.stop i a/\Q (.ref D) a)\/(J.go i a/\∀v d,J.yld i a v d->tt (some v::xb Z fr) d λb e=>
    if b=true then te (some v::xb Z fr) e λy f=>f D=@(.lst ys)/\-ys<sizeLine/\∃c,c<m/\W (i+1) c (ys++[y]) (upd f D (.lst (ys++[y])))
    else ∃c,c<m/\W (i+1) c ys e))
def NU(wi:TI)(fr:qa (Nat×qb))(tt:TT)(te:TE):TE:=λZ H Q=>wi Z H λJ H1=>Yy J fr tt te Z H1 Q
structure HJ(X:Cx)(fL:qa (qc×Obj))(H:Hp)(C:qc):Prop where
 hn:H C=none
 hL:C≠X.env.locals
 h1:C∈X.ex\/X.s₀.heap.objs.size<=C
 h2:∀x c,X.env.cells.lookup x=some c->c≠C
 h3:∀p∈X.pn++fL,p.1≠C
def Np{prog:uh}{w:ui}{A:uj}{f:Expr}{it acc:qd}{R:Result->ug->Prop}(I:Nat->ug->Prop)
 (turn:∀n s,I n s->wpAny (model prog w) A (pyNext it) (λr a=>match r with
   |none=>R (.ok .next) a
   |some v=>wpAny (model prog w) A (letOwnedTupleGo f it v) (λ_ a=>wpAny (model prog w) A (assign f env v) (λ_ g=>
     wpAny (model prog w) A (forIn ifs true λc r=>if r=true then do let ok <-isTrue c env (eval c env);pure (ForInStep.yield ok) else pure (ForInStep.yield r)) (λok d=>
      if ok=true then wpAny (model prog w) A (eval fP env) (λx i=>
       wpAny (model prog w) A (call (.builtin "list.append") [acc,x]) (λ_ j=>∃m,m<n/\I m j) (notedBy (model prog w) A env λe s'=>R (.error e) s') i) (notedBy (model prog w) A env λe s'=>R (.error e) s') d
      else ∃m,m<n/\I m d) (notedBy (model prog w) A env λe s'=>R (.error e) s') g) (notedBy (model prog w) A env λe s'=>R (.error e) s') a) (notedBy (model prog w) A env λe s'=>R (.error e) s') a) (notedBy (model prog w) A env λe s'=>R (.error e) s') s)
 (n:Nat) (h:I n s):codeAny (model prog w) A (.compLoop (.ListComp fP [#[f,iter,ifs,0]] scope pos) 0 it acc env) R s:=by
 calc codeAny_loop rfl I (λn s q=>?_) n h;show wpAny _ A ((compTurn (.ListComp fP [#[f,iter,ifs,0]] scope pos) 0 it acc env).onRaise (λx=>do noteFrame x env;theTreesLotGoes x)) _ _ s;calc wpAny_noted ?_;rw[compTurn_list];refine qi (gT (qi (jf (turn n s q) λr a b=>?_)))
 cases r with
 |none=>calc qv b
 |some v=>
  refine qi (jf b λ_ _ b=>qi (jf b λ_ g l=>qi (jf l λok d k=>?_)))
  cases ok with
  |false=>calc qv #[U,k]
  |true=>calc qi (qi (jf k λx i o=>qi (jf o λ_ j p=>qv (qv #[U,p]))))
def BO(J:It)(ns:qe)(g:TG)(fr:qa (Nat×qb))(tt:TT)(te:TE)(Z:St)(H1:Hp)(Q:VK):Prop:=∀D,H1 D=none ->
 ∃W:Nat->Nat->qa V->Hp->Prop,(∃m,W 0 m [] (upd H1 D (.lst [])))/\∀i m ys a,W i m ys a->a D=@(.lst ys) /\
  ((J.stop i a/\Q (.ref D) a)\/(J.go i a/\∀v d,J.yld i a v d->∃O:St,(∀(o:St)(R:St->Hp->Prop),-o=-ns->R (O++xb Z fr) d->g v (o++xb Z fr) d R)/\-O=-ns/\tt (O++xb Z fr) d λb e=>
    if b=true then te (O++xb Z fr) e λy f=>f D=@(.lst ys)/\-ys<sizeLine/\∃c,c<m/\W (i+1) c (ys++[y]) (upd f D (.lst (ys++[y])))
    else ∃c,c<m/\W (i+1) c ys e))
def BN{ns:qe}{M:Expr}{sc:Scope}{pos':Pos}{g:TG}
 {fL:qa (qc×Obj)} {s:ug} {Z:St} {H:Hp} {Q:VK} {R:It->Hp->Prop} {Q':qf} {use:uf (qd->Sem Unit)}
 (kind:scope.kind=.function) (names:∀y∈scope.names,y.2=.local->scope.names.lookup y.1=some .local) (xQ:∀y∈scope.names,y.2≠.cell)
 (free:∀y∈scope.names,y.2=.free->sc.names.lookup y.1=some .cell\/sc.names.lookup y.1=some .free) (frk:∀p∈fr,N[p.1]?=some p.2/\scope.names.lookup p.2=some .free)
 (hsc:X.env.scope=sc) (hN:X.N=N) (hc:X.calm=true) (hi:PI X M iter wi)
 (hg:∀(C:qc)(s:ug)(H:Hp)(f:qa qc),PG (Uy X scope C (ns++fr.map (·.2)) s H f) M g)
 (ht:∀(C:qc)(s:ug)(H:Hp)(f:qa qc),PTs (Uy X scope C (ns++fr.map (·.2)) s H f) ifs tt)
 (he:∀(C:qc)(s:ug)(H:Hp)(f:qa qc),PE (Uy X scope C (ns++fr.map (·.2)) s H f) fP te)
 (hs:∀z,foldedSetIterable iter X.env z=pure z) (I:Inv X fL Z H s) (h:wi Z H R) (hR:∀J H1,R J H1->BO J ns g fr tt te Z H1 Q)
 (hfin:∀(D C:qc)(H':Hp)(s':ug)(m:qb->uf qd),Inv X fL Z H' s'->s'.heap.Ns C m->HJ X fL H' C->Q (.ref D) H'->compPost (model X.prog X.w) X.A X.xe use Q' (.ref D) C (.ok .next) s') :
 wpAny (model X.prog X.w) X.A (comprehension (.ListComp fP [#[M,iter,ifs,0]] scope pos) scope X.env pos' (newList []) false (eval iter X.env) use) Q' X.xe s:=by
 let uB:∀y,scope.names.lookup y=some .free->X.env.kindOf y=some .cell\/X.env.kindOf y=some .free:=λy P=>by
  show X.env.scope.names.lookup y=_\/X.env.scope.names.lookup y=_;rw[hsc];exact free (y,.free) (jr P) rfl
 let kin':∀y∈scope.names,y.2=.free->X.env.kindOf y.1=some .cell\/X.env.kindOf y.1=some .free:=λy P hf=>by
  show X.env.scope.names.lookup y.1=_\/X.env.scope.names.lookup y.1=_;rw[hsc];exact free y P hf
 let hkc:∀y∈scope.names,y.2=.free->∃c,X.env.cells.lookup y.1=some c:=λy P hf=>I.ok.has y.1 (kin' y P hf);calc wpAny_comprehension_free (use:=use) rfl hs (AO hkc) kind names ?_;calc jf (hi fL s Z H _ I h) λxv s1 h1=>jf h1 λitv s2 h2=>?_;let#[it,f,tn,J,H2,U,A,T,S,f2,q2]:=h2;calc zz (wpAny_newFunctionEnv xQ (by intro y P;simp at P) (λE j t=>?_) kind);dsimp only at j t⊢;let B:Inv X fL Z (upd H2 (!s2) (.lst [])) {s2 with heap:=s2.heap.push {cls:=.type "list",data:=.seq ([]:qg).toArray}}:=
  A.gM (its:=[]) (t':=s2.toks) .nil (qR _)
 let q2:=hR _ _ q2;unfold BO at q2;let#[W,#[m0,w0],turn]:=q2 (!s2) (A.hok.fresh (qr _));generalize hG:s2.heap.push {cls:=.type "list",dict:=none,data:=.seq ([]:qg).toArray}=G at j t B⊢;generalize hD:(!s2)=D at B turn w0⊢;generalize hH3:upd H2 D (.lst [])=H3 at B w0;let neG:∀b o,G.get? b=some o->b≠G.objs.size:=λb o e=>zc (qO e);let old:∀b o,G.get? b=some o->E.get? b=some o:=λb o e=>(t.2 b (neG b o e)).trans (qt _ e);let F:∀b o,s2.heap.get? b=some o->G.get? b=some o:=λb o e=>by rw[<-hG];exact qt _ e
 let fpG:∀b∈f,b<G.objs.size:=λb a=>by
  let#[o,e,_]:=T.obj _ _ S b a;exact qO (F b o e)
 let sub:∀{y:qb}{c:qc},(Vq X.env.cells scope.names []).lookup y=some c->X.env.cells.lookup y=some c:=λ{y c} e=>by
  obtain z|z:=Az _ _ e
  .exact z
  .simp at z
 let w:∀b∈f,(b∈X.ex\/X.s₀.heap.objs.size<=b)/\b≠X.env.locals/\(∀x c,X.env.cells.lookup x=some c->c≠b)/\∀p∈X.pn++fL,p.1≠b:=λb a=>
  {(f2 b a).2.2.2.1,(f2 b a).2.1,(f2 b a).2.2.2.2.1,(f2 b a).2.2.2.2.2}
 let hCL:G.objs.size≠X.env.locals:=yG B.lt;let hC1:X.s₀.heap.objs.size<=G.objs.size:=B.sz;let hC2:∀x c,X.env.cells.lookup x=some c->c≠G.objs.size:=λx c e=>by
  let#[v,o,ho,_]:=B.cell x c e;exact neG c o ho
 let hC3:∀p∈X.pn++fL,p.1≠G.objs.size:=λp hp=>neG p.1 p.2 (B.pin p hp).1;let okB:(Uy X scope G.objs.size (ns++fr.map (·.2)) {s2 with heap:=G} H3 f).Ok:=by
  refine⟨A.ok.mod,kind,A.ok.glob,A.ok.blt,qr _,λy z c L e2=>A.ok.inj y z c (sub L) (sub e2),λy P=>?_,λy c z=>Bool.noConfusion z,A.ok.hd,A.ok.frames,.inl rfl,λb a=>{zc (fpG b a),λy c e=>(w b a).2.2.1 y c (sub e)},
   λb o e=>B.bs b o e,qQ A.ok.gr B.sz,λb o e a=>?_,λb a hf=>?_,B.stack,B.we⟩
  .have m:=Cc xQ P;exact Xr _ _ m (hkc _ m rfl)
  .rcases (w b a).1 with z|z
   .exact A.ok.w2 b o e z
   .exact absurd (qV (qO e) (qQ A.ok.gr z)) (zQ _)
  .rcases qx.mp (A.vX b hf) with z|z
   .exact(w b a).2.1 z
   .exact(f2 b a).2.2.1 z
 let I4:∀tk:Nat,Inv (Uy X scope G.objs.size (ns++fr.map (·.2)) {s2 with heap:=G} H3 f) [] (ns.map (λ_=>none)++xb Z fr) H3 {s2 with heap:=E,toks:=tk}:=λtk=>by
  erw[okB,U,A.bare,Un.kept old,{_,j,λi y v L e2 _=>?_},λy c e=>?_,B.hok.fresh (qr _),λy c e=>B.yt y c (sub e),λp hp=>absurd (show p∈([]:qa (qc×Obj)) from hp) (by simp),B.hok.kept old,?_]
  .have hl:-ns<=i:=gD λz=>by
    rw[ju (qh<|z),qD,ql z] at e2;cases e2
   let L:(ns++fr.map (·.2))[i]?=some y:=L;rw[jc hl] at L;rw[jc (qh<|hl),qh] at e2;generalize i-(-ns)=i at L e2;let K:(fr.map (·.2))[i]?=some y:=L;let e2':(fr.map λp=>(Z[p.1]?).join)[i]?=@(some v):=e2;rw[qD] at K e2'
   cases hp:fr[i]? with
   |none=>rw[hp] at K;cases K
   |some p=>
    rw[hp] at K e2';let ey:p.2=y:=qT K;let ev:(Z[p.1]?).join=some v:=qT e2';let ev':Z[p.1]?=@(some v):=by
     cases q:Z[p.1]? with
     |none=>rw[q] at ev;cases ev
     |some o=>rw[q] at ev;simp only[Option.join] at ev;exact zp some ev
    let hf:=frk p (ze hp);rw[ey] at hf;let hk:=uB y hf.2;let#[m,_,hl]:=A.loc;let#[u,ru,l]:=hl p.1 y v (hN<|hf.1) ev' (.inr hk);erw[u,ru,.inr {W0 hf.2,?_}];obtain⟨k,_⟩|⟨_,c,e,z⟩:=l
    .rcases hk with hk|hk
     .rw[hk] at k;cases k
     .rw[hk] at k;cases k
    .let#[c',ec]:=Xr (cells:=X.env.cells) scope.names [] (jr hf.2) #[c,e];have:=sub ec;rw[e] at this;cases this;let#[o,ho,hd]:=z;exact{c,ec,o,old c o (F c o ho),hd}
  .let#[v,o,ho,hd]:=A.cell y c (sub e);exact{v,o,old c o (F c o ho),hd}
  .show(ns.map (λ_=>none)++xb Z fr).length=-(ns++fr.map (·.2));simp[xb]
 generalize K:Uy X scope G.objs.size (ns++fr.map (·.2)) {s2 with heap:=G} H3 f=Y at I4;let eP:Y.prog=X.prog:=by rw[<-K];rfl
 let eW:Y.w=X.w:=by rw[<-K];rfl
 let eK:Y.K=X.K:=by rw[<-K];rfl
 let eA:Y.A=X.A:=by rw[<-K];rfl
 let eC:Y.calm=true:=by rw[<-K];exact hc
 let eE:Y.env=compEnvC scope (Vq X.env.cells scope.names []) G.objs.size X.env:=by rw[<-K];rfl
 let eN:Y.N=ns++fr.map (·.2):=by rw[<-K];rfl
 let eX:Y.xe=λ_ _=>False:=by rw[<-K];rfl
 let eB:∀{Z':St}{H':Hp}{s':ug}{L:qa (qc×Obj)},Inv Y L Z' H' s'->s'.os=s2.os/\Un (frs X.stack) f H3 H' G s'.heap:=λ{Z' H' s' L} J=>by
  subst K;exact#[J.os,J.base]
 let hG:=hg G.objs.size {s2 with heap:=G} H3 f;let hT:=ht G.objs.size {s2 with heap:=G} H3 f;let hE:=he G.objs.size {s2 with heap:=G} H3 f;rw[K] at hG hT hE;let fpY:∀{H':Hp},(∀b∈f,H' b=none)->∀b∈f,AI Y [] H' b:=λ{H'} hn b a=>by
  subst K;erw[hn b a,zc (fpG b a),okB.w6 b a,.inl a,λy c e=>(okB.g8 b a).2 y c e,λp hp=>absurd (show p∈([]:qa (qc×Obj)) from hp) (by simp)]
 let loop:∀s3:ug,(∃tk,s3={s2 with heap:=E,toks:=tk}) ->
  codeAny (model X.prog X.w) X.A (.compLoop (.ListComp fP [#[M,iter,ifs,0]] scope pos) 0 (.ref it) (.ref D) Y.env)
   (compPost (model X.prog X.w) X.A X.xe use Q' (.ref D) G.objs.size) s3:=by
  rintro s3 ⟨tk,rfl⟩;refine Np (λn s'=>∃i ys o H',Inv Y [] (o++xb Z fr) H' s'/\List.length o=-ns/\tn i s'.heap/\(∀b∈f,H' b=none)/\W i n ys H') ?_ m0
   {(0),[],ns.map λ_=>none,H3,I4 tk,qh _,T.keep _ _ _ S λb a o e=>old b o (F b o e),λb a=>?_,w0}
  .rintro n s' ⟨i,ys,o,H',J',lo,st',fr',w'⟩;let#[hD',hgo]:=turn i n ys H' w';obtain⟨stop,qn⟩|⟨go,step⟩:=hgo
   .have Q1:=T.done Y eP eW eK eC i [] s' (o++xb Z fr) H' (notedBy (model X.prog X.w) X.A Y.env λe s''=>compPost (model X.prog X.w) X.A X.xe use Q' (.ref D) G.objs.size (.error e) s'') J' (fpY fr') st' stop;rw[eA] at Q1;calc jf Q1 λr s4 #[hr,J4]=>?_;subst hr;let#[m,hn,_]:=J4.loc;rw[eE] at hn;let#[os4,u4]:=eB J4;let free4:H' G.objs.size=none:=by have:=J4.free;rw[eE] at this;exact this
    let hok4:y4 X.prog X.w H' s4.heap:=by have:=J4.hok;rw[eP,eW] at this;exact this
    exact hfin D G.objs.size H' s4 m (B.call' (ch:=f) (s':=s4) os4 u4 hok4 J4.bare w) hn {free4,hCL,.inr hC1,hC2,hC3} qn
   .have Q1:=T.item Y eP eW eK eC i [] s' (o++xb Z fr) H' (notedBy (model X.prog X.w) X.A Y.env λe s''=>compPost (model X.prog X.w) X.A X.xe use Q' (.ref D) G.objs.size (.error e) s'') J' (fpY fr') st' go;rw[eA] at Q1;calc jf Q1 λr s4 #[u,hr,h4]=>?_;subst hr;calc jf h4 λ_ s5 #[v,H5,J5,r5,y5,st5,fr5]=>?_;let J5':=J5.pinned (fpY fr5) (T.obj _ _ st5);let#[O,hO,lO,step]:=step v _ y5;let G5:=hG ([]++Kg f s5.heap) s5 (o++xb Z fr) H5 v u (λZ6 H6=>Z6=O++xb Z fr/\H6=H5) J5' r5 (hO o _ lo #[U,U]);rw[eP,eW,eA,eX] at G5;calc jy G5 (λ_ s6 #[Z6,H6,J6,e6,e6']=>?_) λ_ _ z=>z.elim;subst e6 e6';let T6:=hT _ s6 _ _ _ J6 step;rw[eP,eW,eA,eX] at T6;let again:∀{s7:ug}{H7:Hp}{zs:qa V},Inv Y ([]++Kg f s5.heap) (O++xb Z fr) H7 s7->(∃m',m'<n/\W (i+1) m' zs H7)->∃m,m<n/\∃i ys o H',Inv Y [] (o++xb Z fr) H' s7/\List.length o=-ns/\tn i s7.heap/\(∀b∈f,H' b=none)/\W i m ys H':=λ{s7 H7 zs} J7 ⟨m',hm,w7⟩=>by
     erw[m',hm,i+1,zs,O,H7,J7.xI,lO,T.keep _ _ _ st5 λb a o e=>(J7.pin (b,o) (qz _ (qz _ (V7 a e)))).1,λb a=>?_,w7];let#[o,e,d]:=T.obj _ _ st5 b a;exact(J7.pin (b,o) (qz _ (qz _ (V7 a e)))).2.1
    refine jy T6 (λok s7 #[H7,J7,q7]=>?_) λ_ _ z=>z.elim
    cases ok with
    |false=>calc again J7 q7
    |true=>
     let E7:=hE _ s7 _ _ _ J7 q7;rw[eP,eW,eA,eX] at E7;show wpAny _ _ (eval fP Y.env) _ _ s7;calc jy E7 (λu8 s8 #[y8,H8,J8,r8,hD8,hz8,w8]=>?_) λ_ _ z=>z.elim;let A8:=QW (X:=Y) _ s8 _ H8 (.ref D) [y8] (.ref D) [u8] (λz H9=>H9=upd H8 D (.lst (ys++[y8]))) J8 rfl (.cons r8 .nil) #[D,ys,y8,U,U,hD8,hz8,U];rw[eP,eW,eA,eX] at A8;calc jy A8 (λ_ s9 #[z9,H9,J9,_,e9]=>?_) λ_ _ z=>z.elim;subst e9;exact again J9 w8
  .rw[<-hH3];let hbD:b≠D:=by
    rw[<-hD];let#[o,e,_]:=T.obj _ _ S b a;exact zc (qO e)
   rw[Qa hbD];exact(f2 b a).1
 rw[eE] at loop;calc codeAny_compStart_list (loop _ {0}) (T.self _ 0 _ _ _ (T.keep _ _ _ S λb a o e=>old b o (F b o e)) (loop _ {0}))
def EN{sc:Scope}{pos':Pos}
 {fL:qa (qc×Obj)} {s:ug} {Z:St} {H:Hp} {Q:VK} {Q':qf} {use:uf (qd->Sem Unit)}
 (S:WW sc scope N x fr) (j:X.env.scope=sc) (k:X.N=N) (hc:X.calm=true) (hi:PI X (.Name x px) iter wi)
 (n:∀(C:qc)(s:ug)(H:Hp)(f:qa qc),PTs (Uy X scope C (x::fr.map (·.2)) s H f) ifs tt)
 (he:∀(C:qc)(s:ug)(H:Hp)(f:qa qc),PE (Uy X scope C (x::fr.map (·.2)) s H f) fP te)
 (p:∀z,foldedSetIterable iter X.env z=pure z) (I:Inv X fL Z H s) (h:NU wi fr tt te Z H Q)
 (e:∀(D C:qc)(H':Hp)(s':ug)(m:qb->uf qd),Inv X fL Z H' s'->s'.heap.Ns C m->HJ X fL H' C->Q (.ref D) H'->compPost (model X.prog X.w) X.A X.xe use Q' (.ref D) C (.ok .next) s') :
 wpAny (model X.prog X.w) X.A (comprehension (.ListComp fP [{.Name x px,iter,ifs,(0)}] scope pos) scope X.env pos' (newList []) false (eval iter X.env) use) Q' X.xe s:=by
 calc BN (ns:=[x]) (g:=Q9 0) S.kind S.names S.xQ S.free S.frk j k hc hi (λC s H f=>QX S.nd U (.inl (jX S.loc)) (.inr (jX S.loc))) n he p I h (λJ H1 q D t=>?_) e;let#[W,u,turn]:=q D t;erw[W,u,λi m ys A w=>?_];let#[a,b]:=turn i m ys A w;erw[a,b.imp_right λ#[c,d]=>{c,λv B y=>{[some v],λo R l r=>?_,U,d v B y}}];let#[o,U]:=zF.mp l;calc r
def Yh{sc:Scope}
 (S:WW sc scope N x fr) (c:X.env.scope=sc) (g:X.N=N) (hc:X.calm=true) (hi:PI X (.Name x px) iter wi)
 (i:∀(C:qc)(s:ug)(H:Hp)(d:qa qc),PTs (Uy X scope C (x::fr.map (·.2)) s H d) ifs tt)
 (he:∀(C:qc)(s:ug)(H:Hp)(d:qa qc),PE (Uy X scope C (x::fr.map (·.2)) s H d) fP te)
 (j:∀z,foldedSetIterable iter X.env z=pure z:=by intro _;rfl) :
 PE X (.ListComp fP [{.Name x px,iter,ifs,(0)}] scope pos) (NU wi fr tt te):=by
 intro fL s Z H Q I h;rw[eval_ListComp];calc EN (use:=none) S c g hc hi i he j I h λD C H' s' m J k a q=>?_;calc{m,k,λh' f=>{.ref D,H',J.turned (t':=s'.toks) (λb o l e=>(f.2 b l).trans e) a.hn a.hL a.h1 a.h2 a.h3,U,q}}
def Vk{y:qb}{py c:Pos}{i:Nat}{sc:Scope}
 (S:WW sc scope N x fr) (f:X.env.scope=sc) (u:X.N=N) (hc:X.calm=true) (g:X.N.Nodup) (j:X.N[i]?=some y) (t:X.env.scope.names.lookup y=some .local) (hi:PI X (.Name x px) iter wi)
 (w:∀(C:qc)(s:ug)(H:Hp)(k:qa qc),PTs (Uy X scope C (x::fr.map (·.2)) s H k) ifs tt)
 (he:∀(C:qc)(s:ug)(H:Hp)(k:qa qc),PE (Uy X scope C (x::fr.map (·.2)) s H k) fP te)
 (A:∀z,foldedSetIterable iter X.env z=pure z:=by intro _;rfl)
 (l:swapsWith (.ListComp fP [{.Name x px,iter,ifs,(0)}] scope pos) (@(.Name y py)) c.line X.env=pure true:=by rfl) :
 PS X (.Assign [.Name y py] (.ListComp fP [{.Name x px,iter,ifs,(0)}] scope pos) c) (Fn (NU wi fr tt te) (Q9 i)):=by
 intro fL s Z H B I h;rw[exec_Assign_Name_used _ _ _ _ l];calc qi (gT (qi ?_));show wpAny _ X.A (do let _ <-comprehension (.ListComp fP [{.Name x px,iter,ifs,(0)}] scope pos) scope X.env _ (newList []) false (eval iter X.env) (@(assign (.Name y py) X.env))) _ _ s;calc qi (jf (EN (use:=@(assign (.Name y py) X.env)) (Q':=λ_ s'=>SP X fL B .next s') S f u hc hi w he A I h λD C H' s' m J E d q=>?_) λ_ s' F=>qv (qv F));show wpAny _ _ (assign (.Name y py) X.env (.ref D)) _ _ s';calc wpAny_assign_Name (Kc J g j (.inl t) (v:=.ref D) rfl (λs5 G n=>?_) (.inr t));let#[a,sb,K]:=n;let p:C≠a:=by
  obtain z|z:=K
  .rw[z];exact d.hL
  .exact jD (d.h2 _ _ z)
 erw[m,E.sameBut sb p,λh' r=>{_,H',G.turned (t':=s5.toks) (λb o L e=>(r.2 b L).trans e) d.hn d.hL d.h1 d.h2 d.h3,q}]
def Nu{bs:qa Bool}:(List.range (-bs)).all (λi=>bs.getD i true)=bs.all id:=by
 rw[jN,zu,zu];constructor
 .intro h b a;let#[i,hi,e]:=List.mem_iff_getElem.mp a;let q:=h i (jV.mpr hi);simp only[qX,ql hi,gE] at q;rw[<-e];exact q
 .intro h i hi;let a:=jV.mp hi;simp only[qX,ql a,gE];calc h _ (zx a)
def AD(hc:X.calm=true):Uk X (.builtin "all") (λxs H Q=>∃(p:qc)(bs:qa Bool),xs=[.ref p]/\zm X.K H p (bs.map V.bl)/\Q (.bl (bs.all id)) H):=by
 intro fL s Z H xs us Q I r h;let#[p,bs,U,j,q]:=h;let#[u,U,k]:=UG r;cases k;let#[its,f,pl,hz]:=I.list j;let hlen:=-f;rw[qh] at hlen;let c:p<(!s):=by let#[o,e,_]:=pl.isList;exact qO e
 calc call_all_walk (wpAny_pyIter_list pl.isList ?_);erw[(!s),_,[(!s)],its.toArray.size,9,λi=>bs.getD i true,U,Walks.list (A:=X.A.in1) (I.ok.hd hc) (!s) p (zc c) its.toArray,{{_,qH _ rfl,7},pl.isList.push _},?_,?_]
 .intro i v s' Q' t l d;let a:its[i]?=some v:=by simpa using l
  let hi:i< -its:=(qS.mp a).1;let m:(bs.map V.bl)[i]?=@(V.bl (bs.getD i true)):=by
   rw[qD,ql ()];simp[qX,ql (show i<bs.length by omega)]
  let#[u,g,n]:=f.get m;rw[a] at g;cases g;cases n;exact zY d
 .intro h' a d;let hsz:its.toArray.size=-bs:=by rw[qM];exact hlen.symm
  rw[hsz,Nu];calc{.bl (bs.all id),H,I.kept (t':=a) λb o e=>d b o (λz=>absurd (qO e) (qk.mp z<|zQ _)) (qt _ e),U,q}
def clsV:V->uf qd
 |.ty n=>@(.type n)
 |.ref a=>@(.ref a)
 |_=>none
def QY :Uk X (.builtin "isinstance") (λxs H Q=>∃x c f t b,xs=[x,c]/\clsV c=some f/\VF X.K H x t/\kitOne X.K t f=some b/\Q (.bl b) H):=by
 intro fL s Z H xs us Q I r h;let#[x,c,f,t,b,U,d,ty,g,q]:=h;let#[u,i,U,j,rc]:=cO r;let e:i=f:=by
  cases c with
  |ty n=>cases d;calc rc
  |ref a=>cases d;calc rc
  |_=>cases d
 subst e;calc M9 I j ty g λk=>{.bl b,H,I.tok k,U,q}
def UN{xs:qe}:∀{us:qg},QF (~~~xs) us->StrsAre us xs:=by
 induction xs with
 |nil=>intro us r;rw[wN] at r;cases r;calc .nil
 |cons y ys a=>
  intro us r;rw[qZ] at r
  cases r with
  |cons b c=>
   let#[t,e]:=b;subst e;calc .cons y t (a c)
inductive Le(K:Frag)(x:V)(xs:qa V)(H:Hp)(Q:VK):Prop
 |mk:∀(sep:qb)(p:qc)(ys:qe),x=.str sep->xs=[.ref p]->zm K H p (~~~ys)->(ys.map (·.length)).sum+-ys*-sep<=16777216->Q (.str (Txt.join sep ys)) H->Le K x xs H Q
def dW(K:Frag):V->qa V->Hp->VK->Prop:=λx xs H Q=>Le K x xs H Q
def S6 :uN X "str.join" (dW X.K):=by
 intro fL s Z H x xs v us Q I a b h;let#[sep,p,ys,U,U,c,hz,q]:=h;let#[t,U]:=a;let#[u,U,d]:=UG b;cases d;let#[its,r,pl,_]:=I.list c;calc join_list pl.isList (by have:=UN r;simpa using this) hz λt' k=>{.str (Txt.join sep ys),H,I.tok k,#[t',U],q}
inductive OD(x:V)(lo:uf Int)(hi:uf Int)(H:Hp)(Q:VK):Prop
 |mk:∀y,x=.str y->-y<=sizeLine->Q (.str (Txt.slice y lo hi)) H->OD x lo hi H Q
def rSlS:V->uf Int->uf Int->Hp->VK->Prop:=λx lo hi H Q=>OD x lo hi H Q
def B8 :gQ X rSlS:=by
 intro fL s Z H x v e f lo hi sl Q I d a pl pu h;let#[y,U,hz,q]:=h;let#[t,U]:=d;erw["str",_,F.slot_str_getitem.lookup,vU _ _ _,?_];let fin:∀lo hi,Q (.str (Txt.slice y lo hi)) H->-(Txt.slice y lo hi)<=sizeLine/\∀t' k,EP X fL Z Q (.str (Txt.slice y lo hi) t') {s with toks:=k}:=λlo hi q=>
  {qQ (Txt.slice_le y _ _) hz,λt' k=>{.str _,H,I.tok k,#[t',U],q}}
 cases pl with
 |none=>
  cases pu with
  |none=>calc yT (l:=none) (u:=none) (st:=none) a rfl (wa (fin _ _ q))
  |int j b=>calc yT (l:=none) (u:=some (j,b)) (st:=none) a rfl (wa (fin _ _ q))
 |int i c=>
  cases pu with
  |none=>calc yT (l:=some (i,c)) (u:=none) (st:=none) a rfl (wa (fin _ _ q))
  |int j b=>calc yT (l:=some (i,c)) (u:=some (j,b)) (st:=none) a rfl (wa (fin _ _ q))
mutual
inductive RD(K:Frag)(H:Hp):V->PyData->Prop
 |non:RD K H .non .none
 |bl (b:Bool):RD K H (.bl b) (.bool b)
 |int (i:Int):RD K H (.int i) (.int i)
 |str (x:qb):RD K H (.str x) (.str x)
 |lst {a:qc} {xs:qa V} {ds:qa PyData}:zm K H a xs->xq K H xs ds->RD K H (.ref a) (.list ds)
 |tup {a:qc} {xs:qa V} {ds:qa PyData}:z5 K H a xs->xq K H xs ds->RD K H (.ref a) (.tuple ds)
inductive xq(K:Frag)(H:Hp):qa V->qa PyData->Prop
 |nil:xq K H [] []
 |cons {x:V} {xs:qa V} {d:PyData} {ds:qa PyData}:RD K H x d->xq K H xs ds->xq K H (x::xs) (d::ds)
end
def RD.reads{fL:qa (qc×Obj)}(I:Inv X fL Z H s){x:V}{d:PyData}{u:qd}(h:RD X.K H x d)(r:QL x u):∃as,Reads s.heap u d as:=by
 refine RD.rec (K:=X.K) (H:=H) (motive_1:=λx d _=>∀u,QL x u->∃as,Reads s.heap u d as) (motive_2:=λxs ds _=>∀us,QF xs us->∃as,ReadsAll s.heap us ds as) (λu r=>?_) (λb u r=>?_) (λi u r=>?_) (λx u r=>?_) (λ{a xs ds} f l g u r=>?_) (λ{a xs ds} f l g u r=>?_) (λus r=>?_) (λq v m p us r=>?_) h u r
 .cases (show _=Value.none from r);exact{_,.none}
 .cases (show _=Value.bool b from r);exact{_,.bool b}
 .let#[t,e]:=r;subst e;exact{_,.int i t}
 .let#[t,e]:=r;subst e;exact{_,.str x t}
 .cases (show _=Value.ref a from r);let#[its,j,pl,_]:=I.list f;let#[as,k]:=g _ j;let#[o,e,c,n,d]:=pl.isList;exact{_,.list e c d (by simpa using k)}
 .cases (show _=Value.ref a from r);let#[its,j,pl,_]:=I.tuple f;let#[as,k]:=g _ j;let#[o,e,c,n,d]:=pl;exact{_,.tuple e c d (by simpa using k)}
 .cases r;exact{_,.nil}
 .cases r with
  |cons j k=>
   let#[as,a1]:=m _ j;let#[bs,a2]:=p _ k;calc{_,.cons a1 a2}
def xq.reads{fL:qa (qc×Obj)}(I:Inv X fL Z H s){xs:qa V}{ds:qa PyData}{us:qg}(h:xq X.K H xs ds)(r:QF xs us):∃as,ReadsAll s.heap us ds as:=by
 refine xq.rec (K:=X.K) (H:=H) (motive_1:=λ_ _ _=>True) (motive_2:=λxs ds _=>∀us,QF xs us->∃as,ReadsAll s.heap us ds as) trivial (λ_=>trivial) (λ_=>trivial) (λ_=>trivial) (λ_ _ _=>trivial) (λ_ _ _=>trivial) (λus r=>?_) (λa e f b us r=>?_) h us r
 .cases r;exact{_,.nil}
 .cases r with
  |cons c d=>
   let#[as,a1]:=RD.reads I a c;let#[bs,a2]:=b _ d;calc{_,.cons a1 a2}
inductive OM(K:Frag)(x:V)(y:V)(H:Hp)(Q:VK):Prop
 |mk:∀d e,RD K H x d->RD K H y e->SeqAt.shaped d=true->SeqAt.shaped e=true->Q (.bl (PyData.eqv d e)) H->OM K x y H Q
def bb(K:Frag):R2:=λx y H Q=>OM K x y H Q
def GR(a:X.A.units+64<cLine):yN X (compareOp .Eq) (bb X.K):=by
 intro fL s Z H x y v u Q I b c h;let#[d,e,hd,he,f,g,q]:=h;let#[as,i]:=hd.reads I b;let#[bs,j]:=he.reads I c;calc eq_dataH i j f g a {.bl _,H,I,U,q}
inductive Ex2{α0 α1:Type}(P:α0->α1->Prop):Prop
 |mk:∀x0 x1,P x0 x1->Ex2 P
inductive Ex3{α0 α1 α2:Type}(P:α0->α1->α2->Prop):Prop
 |mk:∀x0 x1 x2,P x0 x1 x2->Ex3 P
inductive Ex4{α0 α1 α2 α3:Type}(P:α0->α1->α2->α3->Prop):Prop
 |mk:∀x0 x1 x2 x3,P x0 x1 x2 x3->Ex4 P
inductive Ex5{α0 α1 α2 α3 α4:Type}(P:α0->α1->α2->α3->α4->Prop):Prop
 |mk:∀x0 x1 x2 x3 x4,P x0 x1 x2 x3 x4->Ex5 P
inductive TU(p0 p1 p2 p3 p4 p5 p6:Prop):Prop
 |mk:p0->p1->p2->p3->p4->p5->p6->TU p0 p1 p2 p3 p4 p5 p6
inductive fJ(p0 p1 p2 p3 p4 p5 p6 p7:Prop):Prop
 |mk:p0->p1->p2->p3->p4->p5->p6->p7->fJ p0 p1 p2 p3 p4 p5 p6 p7
inductive cG(p0 p1 p2 p3 p4 p5 p6 p7 p8:Prop):Prop
 |mk:p0->p1->p2->p3->p4->p5->p6->p7->p8->cG p0 p1 p2 p3 p4 p5 p6 p7 p8
variable {H:Hp}{X:Cx}{pos:Pos}{e:Expr}{es:qa Expr}{te:TE}
def AF{α:Type}{xs:qa α}{i:Int}(h0:0<=i)(b:i<(-xs:Int)):∃v,xm xs i=some v/\v∈xs/\xs[i.toNat]?=some v:=by
 let a:i.toNat< -xs:=by omega
 erw[xs[i.toNat],?_,zx a,ql a];let e:((i.toNat:Nat):Int)=i:=by omega
 let q:=Qy (xs:=xs) (j:=i.toNat) (ql a);rw[e] at q;calc q
def Gg{α:Type}{xs:qa α}(i:Int)(h:0< -xs):∃v,xm xs (i%(-xs:Int))=some v/\v∈xs/\xs[(i%(-xs:Int)).toNat]?=some v:=
 AF (zq _ ()) (zj _ ())
def Ek{ns:qa Int}{v:V}(h:v∈ns.map V.int):∃z,v=.int z/\z∈ns:=by
 let#[z,hz,e]:=qj.mp h;exact#[z,e.symm,hz]
def Qi.zg{p:qc}{o:HO}(h:H p=none):Qi H (upd H p o):=λb u e=>by rw[Qa (Qb e h)];calc e
def Qi.zP{H':Hp}{p:qc}{o:HO}(s:Qi H H')(h:H p=none):Qi H (upd H' p o):=λb u e=>by rw[Qa (Qb e h)];calc s b u e
def Qi.tup{K:Frag}{H':Hp}{a:qc}{xs:qa V}(e:Qi H H')(h:z5 K H a xs):z5 K H' a xs:=by
 obtain(h|⟨o,h⟩)|h:=h
 .exact .inl (.inl (e _ _ h))
 .exact .inl (.inr {o,e _ _ h})
 .exact .inr h
def XJ{x:qb}{v:V}(a:Gl X x)(h:∃u,X.mg x=some u/\QL v u)(hd:(x==("__debug__":qb))=false:=by decide):PE X (.Name x pos) (tC v):=by
 let#[u,hm,r]:=h;calc Su a hm r hd
def Yi(K:Frag)(a:X.K=K:=by rfl):IxR X (dZ K):=a▸Qw
def Ue(K:Frag)(a:X.K=K:=by rfl):IxR X (dY K):=a▸Qx
def GQ(K:Frag)(a:X.K=K:=by rfl):yN X (compareOp .In) (rIn K false):=a▸Mz
def W6(K:Frag)(a:X.K=K:=by rfl):yN X (compareOp .NotIn) (rIn K true):=a▸V4
def Ls(K:Frag)(a:X.A.units+64<cLine)(b:X.K=K:=by rfl):yN X (compareOp .Eq) (bb K):=b▸GR a
section
variable {X:Cx}{o e:Expr}{es:qa Expr}{to:TE}{t:TA}{name:qb}{apos fO:Pos}{T id:String}{r:V->qa V->Hp->VK->Prop}
def Sv(K:Frag)(d:PlainAttrs T)(slot:Slot T name id)(c:typeOf (.builtin id)=pure (.type "method_descriptor"))(hm:uN X id r)(e:PE X o to)(f:X.K=K:=by rfl)
 (a:attributeBase o name X.env (eval o X.env)=eval o X.env:=by rfl) (b:(apos.endLine==fO.line)=true:=by rfl):PE X (.Call (.Attribute o name apos) [] [] fO) (dh K T r to):=
 f▸GP d slot c hm e a b
end
def FF:Expr->Bool
 |.Starred ..=>false
 |_=>true
def Gn{env:Env}(h:FF e=true):starEach (e::es) env=(false,eval e env)::starEach es env:=by
 cases e<;>first|rfl|(cases h)
def q9{t:TA}(a:PE X e te)(b:PA X es t)(h:FF e=true:=by rfl):PA X (e::es) (CZ te t):=Lp a b (Gn h)
structure uM(X:Cx)(es:qa Expr)(t:TA):Prop where
 h:PA X es t
def Qo :uM X [] Mi:=#[Qg]
def Qh{t:TA}(a:PE X e te)(b:uM X es t)(h:FF e=true:=by rfl):uM X (e::es) (CZ te t):={q9 a b.h h}
def WO{t:TA}(h:uM X es t):PE X (.List es pos) (cZ t):=bu h.h
def Va{t:TA}{a:Nat}(h:uM X es t):PE X (.Tuple es a pos) (aQ t):=bp h.h
def EM{x:qb}{fr:qa (Nat×qb)}{Z:St}{H1:Hp}{Q:VK}(f:Nat->V)(hz:x.cps.size<=sizeLine)
 (d:∀(c:Nat)(g:Hp)(Q':VK),c∈x.cps.toList->Q' (f c) g->te (@(.str {([c].toArray)})::xb Z fr) g Q')
 (j:∀D,H1 D=none->Q (.ref D) (upd H1 D (.lst (x.cps.toList.map f)))) :
 Yy (Its x) fr Xw te Z H1 Q:=by
 unfold Yy;intro D k;erw[λi m ys h=>m=x.cps.size-i/\i<=x.cps.size/\ys=(x.cps.toList.take i).map f/\h=upd H1 D (.lst ys),{x.cps.size,by simp,qR _,by simp,U},?_];rintro i m ys h ⟨rfl,hi,rfl,rfl⟩;erw[Qd,?_];by_cases a:i<x.cps.size
 .refine .inr {a,?_};rintro v g ⟨rfl,c,hc,rfl⟩;calc Vi (Q7 ?_);let b:x.cps.toList[i]?=some c:=by simpa using hc
  refine d c _ _ (ze b) {Qd,?_,x.cps.size-(i+1),(),U,a,?_,VY}
  .rw[qh,zC];simp only[zk];omega
  .rw[zw,b];simp
 .have e:i=x.cps.size:=by omega
  subst e;let b:x.cps.toList.take x.cps.size=x.cps.toList:=zG (by simp);calc .inl {U,?_};rw[b];calc j D k
def Gm{α:Type}(g:α->Nat):∀(l:qa α),(∀x∈l,g x=1)->(l.map g).sum=-l
 |[],_=>rfl
 |a::r,h=>by
  rw[qZ,List.sum_cons,h a qA,Gm g r λx b=>h x (qy _ b),qU];omega
def Wa(x y:qb):-(x++y)=-x+-y:=by
 show(x.cps++y.cps).size=_;rw[Array.size_append];rfl
def XO(c:Nat):-({([c].toArray)}:qb)=1:=rfl
variable {x:qb}{c:Nat}{X:Cx}
def ya(x:qb):Prop:=∀c∈x.cps.toList,c<128
def ya.ok(h:ya x):PyData.strOk x=true:=by
 unfold PyData.strOk;rw[Array.all_eq_true'];intro c hc;have:=h c (Array.mem_toList_iff.mpr hc);calc qw ()
def ya.app{y:qb}(a:ya x)(b:ya y):ya (x++y):=λc hc=>by
 let e:(x++y).cps.toList=x.cps.toList++y.cps.toList:=by show(x.cps++y.cps).toList=_;simp
 rw[e] at hc;obtain z|z:=qq.mp hc
 .exact a c z
 .exact b c z
def ya.one(h:ya x)(hc:c∈x.cps.toList):ya {([c].toArray)}:=λd hd=>by
 have:d=c:=by simpa using hd
 rw[this];calc h c hc
inductive DF(x:V)(xs:qa V)(H:Hp)(Q:VK):Prop
 |mk:∀y,x=.str y->xs=[]->ya y->-y<=1000000->Q (.str ⟨y.cps.map up1⟩) H->DF x xs H Q
def a9:V->qa V->Hp->VK->Prop:=λx xs H Q=>DF x xs H Q
def Pt :uN X "str.upper" a9:=by
 intro fL s Z H x xs v us Q I a b h;let#[y,U,U,c,hz,q]:=h;let#[t,U]:=a;cases b;calc SCL.upper () λ_=>?_;rw[upper_ascii c];calc{.str _,H,I.tok _,{0},q}
inductive DH(x:V)(xs:qa V)(H:Hp)(Q:VK):Prop
 |mk:∀y,x=.str y->xs=[]->ya y->-y<=1000000->Q (.str ⟨y.cps.map lo1⟩) H->DH x xs H Q
def ba:V->qa V->Hp->VK->Prop:=λx xs H Q=>DH x xs H Q
def Ef :uN X "str.lower" ba:=by
 intro fL s Z H x xs v us Q I a b h;let#[y,U,U,c,hz,q]:=h;let#[t,U]:=a;cases b;calc SCL.lower () λ_=>?_;rw[lower_ascii c];calc{.str _,H,I.tok _,{0},q}
def aJ(h:c<128):up1 c<128:=by unfold up1;split<;>omega
def bR(h:c<128):lo1 c<128:=by unfold lo1;split<;>omega
def ya.upper(h:ya x):ya {x.cps.map up1}:=λc hc=>by
 have:c∈x.cps.toList.map up1:=by simpa using hc
 let#[d,hd,U]:=qj.mp this;calc aJ (h d hd)
def Kx{xs:qa V}{us:qg}(a:-xs=-us)(b:∀(j:Nat)(x:V)(u:qd),xs[j]?=some x->us[j]?=some u->QL x u):QF xs us:=by
 induction xs generalizing us with
 |nil=>cases us with
  |nil=>calc .nil
  |cons _ _=>cases a
 |cons x xs c=>cases us with
  |nil=>cases a
  |cons u us=>calc .cons (b 0 x u rfl rfl) (c (Nat.succ.inj a) λj y w d e=>b (j+1) y w d e)
def KV.at{b:Type}{a:qa (b×V)}{vs:qa (b×qd)}{j:Nat}{p:b×V}{q:b×qd}(h:KV a vs)(c:a[j]?=some p)(d:vs[j]?=some q):p.1=q.1:=by
 let h':Paired (λ(p:b×V)(q:b×qd)=>p.1=q.1/\QL p.2 q.2) a vs:=h;clear h
 induction h' generalizing j with
 |nil=>rw[wL] at c;calc nomatch c
 |cons r t e=>
  cases j with
  |zero=>cases c;cases d;calc r.1
  |succ j=>calc e c d
def WC(hc:X.calm=true):Uk X (.type "list") (λxs H Q=>∃p a,xs=[.ref p]/\H p=@(.dK a)/\∀l,H l=none->Q (.ref l) (upd H l (.lst (a.map λd=>kV d.1)))):=by
 intro fL s Z H xs us Q I r h;let#[p,a,U,n,q]:=h;let#[u,U,v]:=UG r;cases v;let#[hz,f,vs,m,o,es,w,A,B,C,D,E,F]:=Au I.hok n;let G:s.heap.DictAt (Q4 X.prog X.w) p vs w:=#[o,es,A,B,C,D,E,F];let hlen:-a=-vs:=KV.length m;calc PySem.W.kdl_call (kdl_dict f) (I.ok.hd hc) G (by rw[<-hlen];calc hz) λh' J b K L hS c=>?_;let M:QF (a.map λd=>kV d.1) b.toList:=by
  calc Kx (qh<|hlen<|c.1.symm.trans (by simp)) λj x u e N=>?_;rw[qD] at e
  cases g:a[j]? with
  |none=>rw[g] at e;cases e
  |some d=>
   rw[g] at e;cases e;let#[k,y,O,P]:=c.2 j u (by rw[<-zv];calc N);let R:d.1=k:=KV.at m g O;show QL (kV d.1) u;rw[R];obtain⟨i,t,rfl,rfl⟩|⟨z,t,rfl,rfl⟩:=Yd (show XT k u=true from P)
   .exact#[t,U]
   .exact#[t,U]
 calc{.ref (!s),_,I.laid (t':=J) L (qr _) (show QU X.prog X.w _ h' _ (.lst _) from{qh<|hz,b.toList,K,M,jT<|hS}),U,q _ (I.hok.fresh (qr _))}
def Vg:∀l:qa (qb×Tok),QF ((l.map (·.1)).map V.str) (strValues l)
 |[]=>.nil
 |p::r=>.cons #[p.2,U] (Vg r)
inductive Bj(x:V)(xs:qa V)(H:Hp)(Q:VK):Prop
 |mk:∀y,x=.str y->xs=[]->-y<=1000000->(∀l,H l=none->Q (.ref l) (upd H l (.lst ((Txt.words y).map V.str))))->Bj x xs H Q
def Sj:V->qa V->Hp->VK->Prop:=λx xs H Q=>Bj x xs H Q
def EO{lo:Int}{n:Nat}{fr:qa (Nat×qb)}{j:TE}{Z:St}{H1:Hp}{Q:VK}(Pv:Nat->qa V->Prop)(hz:n<=sizeLine)(h0:Pv 0 [])(hlen:∀i ys,Pv i ys->-ys=i)
 (d:∀(i:Nat)(ys:qa V)(c:Hp)(Q':VK),i<n->Pv i ys->Qi H1 c->(∀y f,Pv (i+1) (ys++[y])->Qi c f->Q' y f)->j (@(.int (lo+i))::xb Z fr) c Q')
 (k:∀D ys a,H1 D=none->Pv n ys->Qi H1 a->a D=@(.lst ys)->Q (.ref D) a) :
 Yy (Itr lo n) fr Xw j Z H1 Q:=by
 unfold Yy;intro D g;erw[λi m ys a=>m=n-i/\i<=n/\Pv i ys/\Qi H1 a/\a D=@(.lst ys),{n,by simp,qR _,h0,Qi.zg g,Qd},?_];rintro i m ys a ⟨rfl,hi,p,s2,h⟩;erw[h,?_];by_cases b:i<n
 .refine .inr {b,?_};rintro v c ⟨rfl,rfl⟩;calc Vi (Q7 ?_);calc d i ys _ _ b p s2 λy f l s5=>{s5 _ _ h,?_,n-(i+1),(),U,b,l,(s2.trans s5).zP g,Qd};rw[hlen i ys p];omega
 .have e:i=n:=by omega
  subst e;calc .inl {qr _,k D ys a g p s2 h}
variable {xs:qe}
def GJ{K:Frag}{H:Hp}:∀xs:qe,xq K H (~~~xs) (xs.map PyData.str)
 |[]=>.nil
 |x::r=>.cons (.str x) (GJ r)
def Ce{K:Frag}{H:Hp}{a:qc}(h:zm K H a (~~~xs)):RD K H (.ref a) (.list (xs.map PyData.str)):=.lst h (GJ xs)
def Ws:∀{xs:qe},(∀x∈xs,ya x)->PyData.canLayAll0 (xs.map PyData.str)=true/\PyData.depthAll (xs.map PyData.str)=0
 |[],_=>#[U,U]
 |x::r,h=>by
  let q:=Ws (xs:=r) λy a=>h y (qy _ a);let e:=(h x qA).ok;simp only[qZ,PyData.canLayAll0,PyData.canLay0,PyData.depthAll,PyData.depth,q.1,q.2,e];exact#[U,U]
def Wy:∀xs ys:qe,PyData.eqvAll (xs.map PyData.str) (ys.map PyData.str)=decide (xs=ys)
 |[],[]=>by simp[PyData.eqvAll]
 |[],_::_=>by simp[PyData.eqvAll]
 |_::_,[]=>by simp[PyData.eqvAll]
 |x::r,y::t=>by
  simp only[qZ,PyData.eqvAll,PyData.eqv,Wy r t];by_cases h:x=y<;>by_cases h':r=t<;>simp[h,h']
def EG(xs ys:qe):PyData.eqv (.list (xs.map PyData.str)) (.list (ys.map PyData.str))=decide (xs=ys):=by
 simp only[PyData.eqv];calc Wy xs ys
def YT(acc:qe)(t:qb):qe:=if t∈acc then acc else acc++[t]
def UQ(xs:qe):qe:=xs.foldl YT []
def Bq(xs:qe)(t:qb):UQ (xs++[t])=YT (UQ xs) t:=by
 unfold UQ;rw[jz];rfl
def W8:∀(xs acc:qe),-(xs.foldl YT acc)<=-acc+-xs
 |[],acc=>qr _
 |t::r,acc=>by
  rw[zD];calc qQ (W8 r _) ?_;unfold YT;split
  .rw[qU];omega
  .rw[qo,qW,qU];omega
def O0(xs:qe):-(UQ xs)<=-xs:=by
 have:=W8 xs [];rw[jP,kZ] at this;calc this
def W7:∀(xs acc:qe){t:qb},t∈xs.foldl YT acc->t∈acc\/t∈xs
 |[],acc,t,h=>.inl h
 |u::r,acc,t,h=>by
  rw[zD] at h;obtain z|z:=W7 r _ h
  .unfold YT at z;split at z
   .exact .inl z
   .rcases qq.mp z with y|y
    .exact .inl y
    .exact .inr (qk.mp y<|qA)
  .exact .inr (qy _ z)
def DR{t:qb}(h:t∈UQ xs):t∈xs:=by
 obtain z|z:=W7 xs [] h
 .exact nomatch z
 .exact z
def Wt{t:qb}:inV (.str t) (~~~xs)=decide (t∈xs):=by
 unfold inV;rw[List.any_map,jN,yV,zB];constructor
 .rintro⟨x,a,e⟩;have:x=t:=eq_of_beq (show(x==t)=true from e);rw[<-this];exact a
 .intro h;calc{t,h,show(t==t)=true from zT t}
def WU(xs:qe):(~~~xs).all Wx=true:=by
 rw[List.all_map,zu];intro x _;rfl
abbrev aZ:qb:="abcdefghijklmnopqrstuvwxyz0123456789"
def cz:-aZ.cps.toList=36:=by decide +kernel
def HF:ya aZ:=by
 let h:(aZ.cps.toList.all λc=>decide (c<128))=true:=by decide +kernel
 intro c hc;calc qL (zu.mp h c hc)
def X4:-aZ<=sizeLine:=by
 have:-aZ=36:=by decide +kernel
 rw[this];decide
structure YH(x:qb):Prop where
 lo:1<=-x
 hi:-x<=20
 vh:∀c∈x.cps.toList,c∈aZ.cps.toList
def YH.asc{x:qb}(h:YH x):ya x:=λc hc=>HF c (h.vh c hc)
def av(ys:qe):(Txt.join "" ys).cps.toList=(ys.map (·.cps.toList)).flatten:=by
 let key:∀(r:qe)(acc:uk Nat),(r.foldl (λacc p=>acc++("":qb).cps++p.cps) acc).toList=acc.toList++(r.map (·.cps.toList)).flatten:=by
  intro r
  induction r with
  |nil=>intro acc;simp
  |cons y r a=>
   intro acc;rw[zD,a,qZ,wO];let e:("":qb).cps=#[]:=by decide +kernel
   rw[e];simp
 cases ys with
 |nil=>rfl
 |cons y r=>calc(key r y.cps).trans (by rw[qZ,wO])
def YM(x:qb):-x=-x.cps.toList:=by simp[Str.length]
def M5{ys:qe}(h:∀y∈ys,-y=1):-(Txt.join "" ys)=-ys:=by
 rw[YM,av,List.length_flatten,qI];exact Gm _ _ λy a=>by
  have:=h y a;rw[YM] at this;calc this
def AA(x y:qb):(x++y).cps.toList=x.cps.toList++y.cps.toList:=by show(x.cps++y.cps).toList=_;simp
def Kp:-("":qb)=0:=by decide +kernel
def PQ{ys:qe}(h:∀y∈ys,-y=1)(a:-ys<=100000):(ys.map (·.length)).sum+-ys*-("":qb)<=16777216:=by
 rw[Gm _ _ h,Kp];omega
def My{z:qb}{i:Int}(h0:0<=i)(d:i<(-z.cps.toList:Int)):∃c,xm z.cps.toList i=some c/\c∈z.cps.toList:=by
 let#[c,a,b,_]:=AF h0 d;exact#[c,a,b]
def big1:1000002<=sizeLine:=by decide
def MS{X:Cx}:uN X "str.split" Sj:=by
 intro fL s Z H x xs v us Q I d e h;let#[y,U,U,hz,q]:=h;let#[t,U]:=d;cases e;let i:=big1;let j:=(StrLaws.sw_weight y).1;let k:=StrLaws.len_le_wsum (Builtin.Str.spaceWords y (-y+1));let c:-(Builtin.Str.spaceWords y (-y+1))<=sizeLine:=by omega
 let f:-(Builtin.Str.spaceWords y (-y+1))<=-y+1:=by omega
 calc vV F.slot_str_split (vU _ _ _) F.entry_str_split (F.args_str_split_1 _) (meets_str_split_space y t () c) ?_;cases hw:Builtin.Str.spaceWords y (-y+1)==[(0,-y)]
 .simp only[zr,jx];rw[strsFrom_eq];let a:(numbered s.toks (wordsOf y)).map (·.1)=Txt.words y:=(numbered_texts _ _).trans (qC (ne_true_of_eq_false hw)).symm;let g:-(Txt.words y)<=sizeLine:=by
   rw[<-a,numbered_texts];show(List.map _ _).length<=_;rw[qh];exact c
  let b:=Vg (numbered s.toks (wordsOf y));rw[a] at b;exact{.ref (!s),_,I.gM b (qh<|g),U,q _ I.fresh}
 .simp only[yH];let a:([(y,t)]:qa (qb×Tok)).map (·.1)=Txt.words y:=(qE hw).symm;let b:=Vg [(y,t)];rw[a] at b;calc{.ref (!s),_,I.gM (t':=s.toks) b (by rw[qh,<-a];show 1<=sizeLine;decide),U,q _ I.fresh}
abbrev rS:qb:="abcdefghijklmnopqrstuvwxyzABCDEFGHIJKLMNOPQRSTUVWXYZ0123456789"
def WY(c:Nat):Bool:=decide (c∈rS.cps.toList)
def gS(c:Nat):Nat:=if WY c=true then lo1 c else 32
def Dx:(rS.cps.toList.all λc=>!(Unicode.isSpace) (lo1 c))=true:=by decide +kernel
def EW:Unicode.isSpace 32=true:=by decide +kernel
def yA(st:qe×qb)(c:Nat):qe×qb:=if WY c=true then (st.1,st.2++{([lo1 c].toArray)}) else (st.1++[st.2],Str.empty)
def yK(l:qa Nat):qe×qb:=l.foldl yA ([],Str.empty)
def Wv(w:qb):Bool:=!(w==Str.empty)
def j3(x:qb):qe:=((yK x.cps.toList).1++[(yK x.cps.toList).2]).filter Wv
def WS(w:qb):(-w=0)↔w=Str.empty:={KWd.len0,λh=>by rw[h];rfl}
def Dw:∀(l:qa Nat)(st q:qe×qb),q.2=st.2->q.1=st.1.filter Wv->((l.map gS).foldl KWd.step q).2=(l.foldl yA st).2/\((l.map gS).foldl KWd.step q).1=(l.foldl yA st).1.filter Wv
 |[],st,q,a,b=>#[a,b]
 |c::l,st,q,a,b=>by
  rw[qZ,zD,zD];refine Dw l _ _ ?_ ?_
  all_goals
   unfold KWd.step yA gS;cases d:WY c
   .simp only[zr,jx,EW,yH];by_cases he:-q.2=0
    .rw[qE he];let e:=(WS _).mp he
     first
     |calc e
     |(rw[b,zt,<-a,e];simp[Wv])
    .have e:Wv q.2=true:=by
      unfold Wv;rw[wQ,z8];exact λz=>he ((WS _).mpr z)
     first
     |(rw[qC he];done)
     |(rw[qC he,b,zt,<-a];simp[e])
   .have f:Unicode.isSpace (lo1 c)=false:=by
     have:=zu.mp Dx c (qL d);simpa using this
    simp only[yH,f,zr,jx]
    first
    |calc b
    |rw[a]
def Mb{x y:qb}(h:y.cps.toList=x.cps.toList.map gS):Txt.words y=j3 x:=by
 rw[KWd.words_scan];let q:=Dw x.cps.toList ([],Str.empty) ([],Str.empty) rfl rfl;unfold KWd.fin KWd.scan j3 yK;rw[h,zt,q.1,q.2];by_cases he:-(List.foldl yA ([],Str.empty) x.cps.toList).2=0
 .rw[qE he];let e:=(WS _).mp he;rw[e];simp[Wv]
 .rw[qC he];let e:Wv (List.foldl yA ([],Str.empty) x.cps.toList).2=true:=by
   unfold Wv;rw[wQ,z8];exact λz=>he ((WS _).mpr z)
  rw[zi,e];simp
variable {x:qb}
structure CI(K:Frag)(x qual:qb)(st:Stmt)(f:qc)(fd:FuncData):Prop where
 ex:∃(oc:qd)(od:uf qc)(dV kV doc pm:qd)(an:uf qc)(cdv ct:qd)(osl:uk (uf qd)),
  fd=fnOf x qual (Yo st) (YB st) (Qs st) dV kV doc pm an cdv ct/\K.lookup f=some {oc,od,.func fd,osl}/\codeIn K cdv qual=true
 kp:keepIn K (.ref f)=true
def CI.ok{P:uh}{w:ui}{K:Frag}{mg:qb->uf qd}{base:Heap}{qual:qb}{st:Stmt}{f:qc}{fd:FuncData}{N c:qe}{k:Nat}{sp:Sp}(F:CI K x qual st f fd)(S:Wc N c (Qs st))
 (b:∀(a:qd)(A:uj)(outer:qa Env)(s:ug)(H:Hp)(vs:qa V)(Q:VK)(E:XK),Yu k (A.deeper (envOfC qual (Qs st) (!s) f a))->sp vs H Q E ->
   ∃t,vn (EL ja P w K mg base N qual (Qs st) f a A outer s H E).uw (YB st) t/\t {nx:=λ_ H'=>Q .non H',rt:=Q} (start N vs) H) (len:∀vs H Q E,sp vs H Q E->-vs=-c:=by intro _ _ _ _ h;cases h;subst_vars;rfl):VJ P w K mg base ja (k+1) f fd c sp:=by
 let#[j,l,m,kV,doc,pm,an,a,ct,g,U,lk,d]:=F.ex;calc az lk d S len λA outer s H vs Q E i e=>?_;let#[t,h,q]:=b a A outer s H vs Q E i e;exact#[t,h.uw,q]
def Ts{K:Frag}{qual:qb}{st:Stmt}{f:qc}{e d:qd}{g an:uf qc}{b:uk (uf qd)}{kV doc pm a ct:qd}(l:K.lookup f=some {e,g,.func (fnOf x qual (Yo st) (YB st) (Qs st) d kV doc pm an a ct),b})
 (c:codeIn K a qual=true) (k:keepIn K (.ref f)=true):CI K x qual st f (fnOf x qual (Yo st) (YB st) (Qs st) d kV doc pm an a ct):={#[e,g,d,kV,doc,pm,an,a,ct,b,U,l,c],k}
def HM:∀(l:qa Nat)(p:qe)(st:qe×qb),l.foldl yA (p++st.1,st.2)=(p++(l.foldl yA st).1,(l.foldl yA st).2)
 |[],_,_=>rfl
 |c::l,p,st=>by
  rw[zD,zD];let e:yA (p++st.1,st.2) c=(p++(yA st c).1,(yA st c).2):=by
   unfold yA;split
   .rfl
   .rw[yc]
  rw[e,HM l p (yA st c)]
def E8{y z:qb}{c:Nat}(hc:WY c=false)(h:z.cps.toList=x.cps.toList++(c::y.cps.toList)):j3 z=j3 x++j3 y:=by
 unfold j3;rw[h];unfold yK;rw[jz,zD];generalize List.foldl yA ([],Str.empty) x.cps.toList=s;let e:yA s c=((s.1++[s.2])++([]:qe),Str.empty):=by
  unfold yA;rw[hc,qC qF,zS]
 rw[e,HM y.cps.toList (s.1++[s.2]) ([],Str.empty),yc,zt]
open Builtin.Str in
def Te(a b n:Nat):strSliceIndices (@(a:Int)) (@(b:Int)) 1 n=(List.range (min b n-min a n)).map (λk=>min a n+k):=by
 let d:∀x:Nat,¬((x:Int)<0):=λx=>Int.not_lt.mpr (xx x);simp only[strSliceIndices,sliceRange,d,jx,HT.cl1,show((1:Int) > 0)=True from by simp,yH];generalize min a n=u;generalize min b n=v;by_cases c:(u:Int)<(v:Int)
 .have e:(((v:Int)-(u:Int)+1-1) / 1).toNat=v-u:=by rw[Int.add_sub_cancel,Int.ediv_one,Int.toNat_sub]
  simp only[c,yH,e];exact js λk _=>by rw[Int.one_mul];rfl
 .have:v-u=0:=Nat.sub_eq_zero_of_le (gD λz=>c (Int.ofNat_lt.mpr z));simp[c,this]
open Builtin.Str in
def Hn(u:uf Int)(n:Nat):strSliceIndices none u 1 n=strSliceIndices (@((0:Nat):Int)) u 1 n:=by
 let a:max (0:Int) (min (((0:Nat):Int)) (n:Int))=0:=by omega
 simp only[strSliceIndices,show ¬((((0:Nat):Int))<0) from by omega,jx,a,show((1:Int) > 0)=True from by simp,yH]
def Fu(x:qb)(a b:Nat):(Txt.slice x (@(a:Int)) (@(b:Int))).cps.toList=(x.cps.toList.drop a).take (b-a):=by
 let g:=YM x;unfold Txt.slice;rw[Te,qh,zU];let f:=StrLaws.picks x.cps.toList (min b (-x)-min a (-x)) (min a (-x)) ();let key:((List.range (min b (-x)-min a (-x))).map (λk=>min a (-x)+k)).filterMap (x.cps[·]?)=(x.cps.toList.drop a).take (b-a):=by
  let e:(λi:Nat=>x.cps[i]?)=(λi:Nat=>x.cps.toList[i]?):=by funext i;simp
  rw[e,f];by_cases h:a<=-x
  .rw[yu (show a<=-x from h)];by_cases c:b<=-x
   .rw[yu (show b<=-x from c)]
   .rw[gC (show -x<=b by omega),zG (by rw[je];omega),zG (by rw[je];omega)]
  .rw[gC (show -x<=a by omega),j5 (),j5 (),List.take_nil,List.take_nil]
 split
 .rename_i h
  let h':min b (-x)-min a (-x)=-x:=by
   have:=(yZ.mp h).2;exact yw.mp this
  rw[<-key,h'];let c:-x=0\/min a (-x)=0:=by omega
  obtain c|c:=c
  .have:x.cps.toList=[]:=gU ();rw[this,c];rfl
  .have e:(λi:Nat=>x.cps[i]?)=(λi:Nat=>x.cps.toList[i]?):=by funext i;simp
   rw[e];let d:=StrLaws.picks x.cps.toList (-x) 0 ();rw[c,d,List.drop_zero,zG ()]
 .rw[key]
def GA(x:qb)(b:Nat):(Txt.slice x none (@(b:Int))).cps.toList=x.cps.toList.take b:=by
 let e:Txt.slice x none (@(b:Int))=Txt.slice x (@((0:Nat):Int)) (@(b:Int)):=by unfold Txt.slice;rw[Hn]
 rw[e,Fu,List.drop_zero,Nat.sub_zero]
def K6{x y:qb}(h:x.cps.toList=y.cps.toList):x=y:=by
 cases x;cases y;have:=Array.toList_inj.mp h;simp only at this;rw[this]
def BL(x:qb)(b:Nat):-(Txt.slice x none (@(b:Int)))<=b:=by
 rw[YM,GA,zC];omega
def YS{rs:qa Int}{m:Int}(b:∀r∈rs,0<=r/\r<m)(i:Int)(h0:0<=i)(c:i<(-rs:Int)):∃z,xm (rs.map V.int) i=@(V.int z)/\0<=z/\z<m:=by
 let#[v,d,a,_]:=AF (xs:=rs.map V.int) h0 (qh<|c);let#[z,hz,U]:=qj.mp a;calc{z,d,b z hz}
def bg{X:Cx}{body:qa Stmt}{h₀:ExceptHandler}{c:qa ExceptHandler}{pos:Pos}{t:TS}(d:∀e s,X.xe e s->False)(h:vn X body t):PS X (.Try body (h₀::c) [] [] pos) t:=by
 intro fL s Z H D I q;refine wpAny_Try_except (jy (h fL s Z H D I q) (λf b a=>?_) λe b a=>(d e b a).elim)
 cases f with
 |next=>rw[arm_execs_nil];calc qv a
 |_=>calc a
def SV{d:Int}(h0:0<=d)(a:d<=9999):-(Str.ofString (toString d))<=4:=toString_length_le h0 ∅ ()
def wH(a b:qb):Bool:=!(ltCps) b.cps.toList a.cps.toList
def Nc(x:qb):qe->qe
 |[]=>[x]
 |y::r=>if wH x y=true then x::y::r else y::Nc x r
def QH:qe->qe
 |[]=>[]
 |x::r=>Nc x (QH r)
def Vw(a b:qb):wH a b=true↔¬b.cps.toList<a.cps.toList:=by
 unfold wH;rw[ltCps_eq];simp
def M0(a b:qb):wH a b=true\/wH b a=true:=by
 rw[Vw,Vw];by_cases h:b.cps.toList<a.cps.toList
 .exact .inr (List.lt_asymm h)
 .exact .inl h
def Kl{a b c:qb}(d:wH a b=true)(e:wH b c=true):wH a c=true:=by
 rw[Vw] at *
 intro h;rcases strKind.negTrans c.cps.toList b.cps.toList a.cps.toList (by simpa using h) with z|z
 .exact e (by simpa using z)
 .exact d (by simpa using z)
def Ct{a b:qb}(c:wH a b=true)(d:wH b a=true):a=b:=by
 rw[Vw] at *
 calc K6 (List.le_antisymm (List.not_lt.mp c) (List.not_lt.mp d))
abbrev vC(l:qe):Prop:=l.Pairwise λa b=>wH a b=true
def GI:∀(p:qb)(l:qe),risingS p l=true->vC (p::l)
 |p,[],_=>jY _ _
 |p,x::r,h=>by
  let h:(wH p x&&risingS x r)=true:=h;rw[qY] at h;let b:=GI x r h.2;calc jl.mpr {λy a=>?_,b};obtain rfl|a:=qx.mp a
  .exact h.1
  .exact Kl h.1 ((jl.mp b).1 y a)
def Ft:∀{l:qe},sortedS l=true->vC l
 |[],_=>List.Pairwise.nil
 |x::r,h=>GI x r h
def Aj(x:qb):∀l:qe,(Nc x l).Perm (x::l)
 |[]=>.refl _
 |y::r=>by
  unfold Nc;split
  .exact .refl _
  .exact((Aj x r).cons y).trans (.swap x y r)
def Uv:∀l:qe,(QH l).Perm l
 |[]=>.refl _
 |x::r=>(Aj x (QH r)).trans ((Uv r).cons x)
def LH(x:qb):∀{l:qe},vC l->vC (Nc x l)
 |[],_=>jY _ _
 |y::r,h=>by
  unfold Nc;let#[b,c]:=jl.mp h;split
  .rename_i a
   calc jl.mpr {λz hz=>?_,h};obtain rfl|hz:=qx.mp hz
   .exact a
   .exact Kl a (b z hz)
  .rename_i a
   calc jl.mpr {λz hz=>?_,LH x c};obtain rfl|hz:=qx.mp ((Aj x r).mem_iff.mp hz)
   .exact(M0 y z).resolve_right a
   .exact b z hz
def WJ:∀l:qe,vC (QH l)
 |[]=>.nil
 |x::r=>LH x (WJ r)
def Gz:∀{a b:qe},a.Perm b->vC a->vC b->a=b
 |[],b,p,_,_=>(List.nil_perm.mp p).symm
 |x::r,[],p,_,_=>absurd p.symm.nil_eq (by simp)
 |x::r,y::t,p,f,g=>by
  let e:x=y:=by
   let c:x∈y::t:=p.mem_iff.mp qA;let d:y∈x::r:=p.mem_iff.mpr qA;obtain e|c:=qx.mp c
   .exact e
   .rcases qx.mp d with e|d
    .exact e.symm
    .exact Ct ((jl.mp f).1 y d) ((jl.mp g).1 x c)
  subst e;rw[Gz (List.perm_cons _ |>.mp p) (jl.mp f).2 (jl.mp g).2]
def UT{a b:qe}(p:a.Perm b)(h:vC a):a=QH b:=Gz (p.trans (Uv b).symm) h (WJ b)
def UB{a b:qe}(p:a.Perm b):QH a=QH b:=UT ((Uv a).trans p) (WJ a)
def Yq(l:qe):-(QH l)=-l:=(Uv l).length_eq
def Uc{l:qe}{x:qb}:x∈QH l↔x∈l:=(Uv l).mem_iff
def VX{us:qg}{ss:qe}(h:StrsAre us ss):QF (~~~ss) us:=by
 induction h with
 |nil=>calc .nil
 |cons x t h a=>calc .cons #[t,U] a
def WB{X:Cx}:Uk X (.builtin "sorted") (λxs H Q=>∃p ss,xs=[.ref p]/\zm X.K H p (~~~ss)/\-ss<64/\∀l,H l=none->Q (.ref l) (upd H l (.lst ((QH ss).map V.str)))):=by
 intro fL s Z H xs us Q I r h;let#[p,ss,U,hS,j,q]:=h;let#[u,U,f]:=UG r;cases f;let#[its,d,pl,_]:=I.list hS;let a:=UN d;let hlen:-its=-ss:=by have:=-d;rw[qh] at this;exact this.symm
 calc sorted_strs pl.isList a () λout c a1 a2 g=>?_;let#[e,he]:=sortedAll_at s.heap its out;let es:c=QH ss:=UT a2 (Ft g);subst es;let hsz:(!s)<=(!s)+1:=jt _;erw[.ref ((!s)+1),_,I.laid (t':=s.toks) (λb u i=>sortedAll_old i) hsz (show QU X.prog X.w _ _ _ (.lst ((QH ss).map V.str)) from{?_,out.toList,e,VX a1,?_}),U,q _ (I.hok.fresh hsz)]
 .rw[qh,Yq];exact QT ()
 .rw[jT];calc he
def K1{prog:uh}{w:ui}{A:uj}{E:qf}{s:ug}{T:String}{r d:qc}{n:Nat}{P:Nat->qd->Prop}{j:Heap->Prop}{R:qg->ug->Prop}
 (src:KdlSrc prog w T r d n P j) (calm:A.handled=none) (ok:j s.heap) (i:n<=sizeLine)
 (fin:∀(g:Heap)(k:Nat)(got:uk qd),(∀b o,s.heap.get? b=some o->g.get? b=some o)->(!s)<g.objs.size->ItemsOf P got n->R got.toList {s with heap:=g,toks:=k}) :
 wpAny (model prog w) A (collect (.ref r)) R E s:=by
 let#[l,ld]:=src.there _ ok
 refine let new:Obj:={cls:=.type "list",data:=.seq ([]:qg).toArray};?_
 let there:(s.heap.push new).get? (!s)=some new:=qH _ rfl;let a:=src.keep _ _ ok (λb _ o e=>qt (h:=s.heap) new e);let walked:=PySem.W.kdl_extend (A:=A) (s:={s with heap:=s.heap.push new})
  (R:=λq t=>∃(g:Heap)(k:Nat)(got:uk qd)(c:Nat),q=Except.ok (Flow.ret (.ref (!s)))/\t={s with heap:=g,toks:=k}/\(∀b o,s.heap.get? b=some o->g.get? b=some o) /\
    g.get? (!s)=some {cls:=.type "list",dict:=none,data:=.seq got c,slots:=#[]}/\ItemsOf P got n)
  src calm a (!s) (yG l) (yG ld) (.ref (!s)) 0 there
  (λg k got c keep at' all=>{g,k,got,c,7,λb o e=>keep b o (zc (qO e)) (qt _ e),at',all}) i
 let done:∀(g:Heap)(k:Nat)(got:uk qd)(c:Nat),(∀b o,s.heap.get? b=some o->g.get? b=some o)->g.get? (!s)=some {cls:=.type "list",dict:=none,data:=.seq got c,slots:=#[]}->ItemsOf P got n ->
  wpAny (model prog w) A (do match (<-load (!s)).data with
   |.seq xs _=>pure xs.toList
   |_=>unsupported "internal:collect") R E {s with heap:=g,toks:=k}:=λg k got c keep at' all=>
  qi (wpAny_load at' (qv (fin g k got keep (qO at') all)))
 unfold collect;apply qi;apply wpAny_runValue;apply zW entry_proto_collect';rw[zA F.plain_proto_collect _];show wpAny _ A.in1 (newList []>>=λz=>again (.builtin "list.__iadd__" {[z,.ref r],[]})) _ _ s;apply qi;calc zz ?_;apply qv;erw[jj vp _,?_];apply zW entry_list_iadd';rw[zA vp _];refine jy walked (λf t q=>?_) (λe t q=>?_)
 .cases f with
  |done f=>
   let#[g,k,got,c,e,U,keep,at',all]:=q;cases e;calc done g k got c keep at' all
  |again m=>
   erw[q.1,yg q.2 λz p y=>?_];let#[g,k,got,c,U,U,keep,at',all]:=y;exact done g k got c keep at' all
 .let#[_,_,_,_,m,_]:=q;cases m
def YV{X:Cx}(hc:X.calm=true):Uk X (.builtin "sorted") (λxs H Q=>∃p a ss,xs=[.ref p]/\H p=@(.dK a)/\a.map (λg=>kV g.1)=ss.map V.str/\-ss<64/\∀l,H l=none->Q (.ref l) (upd H l (.lst ((QH ss).map V.str)))):=by
 intro fL s Z H xs us Q I r h;let#[p,a,ss,U,N,B,hl,q]:=h;let#[u,U,O]:=UG r;cases O;let#[hz,C,vs,K,o,es,P,R,S,T,Y,h5,h6]:=Au I.hok N;let da:s.heap.DictAt (Q4 X.prog X.w) p vs P:=#[o,es,R,S,T,Y,h5,h6];let hlen:-a=-vs:=KV.length K;let hh:X.A.in1.handled=none:=I.ok.hd hc;calc yC kind_sorted gV gW (args_sorted1 _) ?_;unfold Builtin.«sorted»;calc qi (m:=checkCount "sorted" 1 1 _) (qv ?_);calc qi (K1 (A:=X.A.in1) (kdl_dict C) hh da (by rw[<-hlen];calc hz) λh' tk acc hk D c=>?_);let E:QF (a.map λg=>kV g.1) acc.toList:=by
  calc Kx (qh<|hlen<|c.1.symm.trans (by simp)) λj x u d n=>?_;rw[qD] at d
  cases f:a[j]? with
  |none=>rw[f] at d;cases d
  |some g=>
   rw[f] at d;cases d;let#[k,y,v,w]:=c.2 j u (by rw[<-zv];calc n);let F:g.1=k:=KV.at K f v;show QL (kV g.1) u;rw[F];obtain⟨i,t,rfl,rfl⟩|⟨z,t,rfl,rfl⟩:=Yd (show XT k u=true from w)
   .exact#[t,U]
   .exact#[t,U]
 rw[B] at E;let d:=UN E;let F:-acc.toList=-ss:=by have:=-E;rw[qh] at this;exact this.symm
 calc qi (yI ?_ (F<|QT ()));let f:(h'.push (seqObj "list" acc.toList.toArray 0)).get? h'.objs.size=@(seqObj "list" acc.toList.toArray 0):=qH _ rfl;calc qi (zL (zV vO {_,f,U} vq (list_sort_treeK strKind_oneLt f d.keysOf (λL M rest e=>keyKind_strs (by rw[<-e];calc d)) () λn a1 a2=>{0,?_}) (args_list_sort _)));calc qv {0,?_};let#[G,b1,b2,b3]:=sorted_out_str d a1 a2;let#[e,he]:=sortedHeap_at (out:=(arrOf n).map (·.2)) f;let J:G=QH ss:=UT b2 (Ft b3);subst J;let hsz:(!s)<=h'.objs.size:=jQ D;erw[.ref h'.objs.size,_,I.laid (t':=tk) (λb u hb=>?_) hsz (show QU X.prog X.w _ _ _ (.lst ((QH ss).map V.str)) from{?_,((arrOf n).map (·.2)).toList,e,VX b1,?_}),U,q _ (I.hok.fresh hsz)]
 .have v:=hk b u hb;let w:=qO v;rw[sortedHeap_old (zc w) (size_push'<|jb w)];exact qt _ v
 .rw[qh,Yq];exact QT ()
 .rw[jT];calc he
variable {xs:qa V}
def U1{K:Frag}{a:qc}{α:Type}{xs:qa α}{fr:qa (Nat×qb)}{tt:TT}{n:TE}{Z:St}{H1:Hp}{Q:VK}(g:α->V)(pr:α->Bool)(f:α->V)(hz:-xs<=sizeLine)(hS:zm K H1 a (xs.map g))
 (j:∀(x:α)(c:Hp)(Q':Bool->Hp->Prop),x∈xs->Qi H1 c->Q' (pr x) c->tt (@(g x)::xb Z fr) c Q')
 (k:∀(x:α)(c:Hp)(Q':VK),x∈xs->Qi H1 c->pr x=true->Q' (f x) c->n (@(g x)::xb Z fr) c Q')
 (s:∀D,H1 D=none->Q (.ref D) (upd H1 D (.lst ((xs.filter pr).map f)))) :
 Yy (gv K a) fr tt n Z H1 Q:=by
 unfold Yy;intro D o;erw[λi m ys p=>m=-xs-i/\i<=-xs/\ys=((xs.take i).filter pr).map f/\p=upd H1 D (.lst ys),{-xs,by simp,qR _,by simp,U},?_];rintro i m ys p ⟨rfl,hi,rfl,rfl⟩;erw[Qd,?_];let s1:Qi H1 (upd H1 D (.lst (((xs.take i).filter pr).map f))):=Qi.zg o;let d:=s1.seq hS;by_cases b:i< -xs
 .have h:(xs.map g)[i]?=@(g xs[i]):=by rw[qD,ql b];rfl
  calc .inr {{xs.map g,g xs[i],d,h},?_};rintro v c ⟨rfl,t⟩;let q:(xs.map g)[i]?=some v:=t _ d;rw[h] at q;cases q;let hm:xs[i]∈xs:=zx b;let r:xs.take (i+1)=xs.take i++[xs[i]]:=by rw[zw,ql b];rfl
  calc j xs[i] _ _ hm s1 ?_;cases l:pr xs[i]
  .refine QQ {-xs-(i+1),(),U,b,?_,U};rw[r,zt,zi,l];simp
  .refine Q7 (k xs[i] _ _ hm s1 l {Qd,?_,-xs-(i+1),(),U,b,?_,VY})
   .have:=qP pr (xs.take i);rw[zC] at this;rw[qh];omega
   .rw[r,zt,zi,l];simp
 .have e:i=-xs:=by omega
  subst e;let h:xs.take (-xs)=xs:=zG (qr _);calc .inl {{xs.map g,d,qh<|qr _},?_};rw[h];calc s D o
def Ay{K:Frag}{a:qc}{α:Type}{xs:qa α}{fr:qa (Nat×qb)}{d:TE}{Z:St}{H1:Hp}{Q:VK}(g:α->V)(f:α->V)(hz:-xs<=sizeLine)(hS:zm K H1 a (xs.map g))
 (c:∀(x:α)(b:Hp)(Q':VK),x∈xs->Qi H1 b->Q' (f x) b->d (@(g x)::xb Z fr) b Q')
 (e:∀D,H1 D=none->Q (.ref D) (upd H1 D (.lst (xs.map f)))) :
 Yy (gv K a) fr Xw d Z H1 Q:=
 U1 g (λ_=>true) f hz hS (λ_ _ _ _ _ q=>Vi q) (λx b Q' hm s1 _ q=>c x b Q' hm s1 q) λD h=>by
  rw[zK.mpr λ_ _=>rfl];calc e D h
def Fz{prog:uh}{w:ui}{A:uj}{R:Result->ug->Prop}{s:ug}{l:qc}{its:uk qd}{n:Nat}{y:qd}{j:Nat}(at':s.heap.get? l=some {cls:=.type "list",dict:=none,data:=.seq its n,slots:=#[]})
 (b:j<its.size) (hz:its.size<=sizeLine) (eqs:∀(m:Nat)(hm:m<its.size),m<=j->∀(B:uj)(E:qf)(Q:Bool->ug->Prop),B.units=A.units+1->Q (decide (m=j)) s->wpAny (model prog w) B (eqBool its[m] y) Q E s)
 (fin:R (.ok (.ret .none)) {s with heap:=s.heap.update l (Obj.mapSeq λxs=>xs.eraseIdxIfInBounds j)}) :
 ∀(k i:Nat),i+k=j->codeAny (model prog w) A (.builtin "list.remove.loop" {[.ref l,y,rawInt i],[]}) R s:=by
 intro k
 induction k with
 |zero=>
  intro i e;obtain rfl:i=j:=by omega
  calc zW MeetsSeq.entry_remove_loop ?_;rw[zA yr _];let#[c,g,d,f,os]:=s
  wp_walk using zX at'
  rw[show its[((i:Nat):Int).toNat]?=some its[i] by simp[b]];calc qi (eqs i b (qr _) _ _ _ rfl ?_);rw[qw rfl];let a:(its.eraseIdxIfInBounds i).size<=sizeLine+1:=qQ (MeetsSeq.size_erased its _) (yd hz)
  wp_walk using(yO at' rfl (hz:=hz) (_hz':=a)),zX at'
  simpa using fin
 |succ k h=>
  intro i e;let a:i<its.size:=by omega
  let next:=h (i+1) ();calc zW MeetsSeq.entry_remove_loop ?_;rw[zA yr _];let#[c,g,d,f,os]:=s
  wp_walk using zX at'
  rw[show its[((i:Nat):Int).toNat]?=some its[i] by simp[a]];calc qi (eqs i a () _ _ _ rfl ?_);rw[qK ()]
  wp_walk
  rw[show((i:Int)+1)=((i+1:Nat):Int) by push_cast;rfl];calc{jj yr _,next}
inductive Bk(K:Frag)(x:V)(vs:qa V)(H:Hp)(Q:VK):Prop
 |mk:∀(l:qc)(xs:qa V)(ds:qa PyData)(y:V)(d:PyData)(j:Nat),x=.ref l->vs=[y]->H l=some (.lst xs)->xq K H xs ds->RD K H y d->(∀e∈ds,SeqAt.shaped e=true)->SeqAt.shaped d=true->j< -ds->((∀(m:Nat)(e:PyData),m<=j->ds[m]?=some e->PyData.eqv e d=decide (m=j)))->Q .non (upd H l (.lst (xs.eraseIdx j)))->Bk K x vs H Q
def Sk(K:Frag):V->qa V->Hp->VK->Prop:=λx vs H Q=>Bk K x vs H Q
def xq.len{K:Frag}{H:Hp}{ds:qa PyData}(h:xq K H xs ds):-xs=-ds:=
 xq.rec (motive_1:=λ_ _ _=>True) (motive_2:=λxs ds _=>-xs=-ds) trivial (λ_=>trivial) (λ_=>trivial) (λ_=>trivial) (λ_ _ _=>trivial) (λ_ _ _=>trivial) rfl (λ_ _ _ a=>zp Nat.succ a) h
def xq.at{K:Frag}{H:Hp}{ds:qa PyData}{m:Nat}{x:V}(h:xq K H xs ds)(e:xs[m]?=some x):∃d,ds[m]?=some d/\RD K H x d:=by
 refine xq.rec (K:=K) (H:=H) (motive_1:=λ_ _ _=>True) (motive_2:=λxs ds _=>∀m:Nat,xs[m]?=some x->∃d,ds[m]?=some d/\RD K H x d) trivial (λ_=>trivial) (λ_=>trivial) (λ_=>trivial) (λ_ _ _=>trivial) (λ_ _ _=>trivial) (λm e=>?_) (λh _ _ a m e=>?_) h m e
 .rw[wL] at e;exact nomatch e
 .cases m with
  |zero=>cases e;calc{0,h}
  |succ m=>calc a m e
def QF.erase{us:qg}(j:Nat)(h:QF xs us):QF (xs.eraseIdx j) (us.eraseIdx j):=by
 induction h generalizing j with
 |nil=>calc .nil
 |cons q t a=>
  cases j with
  |zero=>calc t
  |succ j=>calc .cons q (a j)
def Ca{s:ug}{l:qc}{its:uk qd}{n c:Nat}{u:qd}{j:Nat}(at':s.heap.get? l=some {cls:=.type "list",dict:=none,data:=.seq its n,slots:=#[]})(a:j<its.size)(hz:its.size<=sizeLine)
 (eqs:∀(prog:uh)(w:ui)(m:Nat)(hm:m<its.size),m<=j->∀(B:uj)(E:qf)(Q:Bool->ug->Prop),B.units=c+1->Q (decide (m=j)) s->wpAny (model prog w) B (eqBool its[m] u) Q E s) :
 Meets (Builtin.«list.remove» {[.ref l,u],[]}) (λB R t=>t=s/\B.units=c/\R (.ok (.ret .none)) {s with heap:=s.heap.update l (Obj.mapSeq λws=>ws.eraseIdxIfInBounds j)}):=by
 rintro prog w B R t ⟨rfl,f,fin⟩;let go:=Fz (A:=B) (R:=R) at' a hz (λm hm hle b E Q e=>eqs prog w m hm hle b E Q ()) fin j 0 ();let#[h,g,d,i,os]:=t
 wp_walk using zX at'
 calc{jj yr _,go}
def MT{X:Cx}(T:X.A.units+70<cLine):MtM X "list.remove" (Sk X.K):=by
 intro fL s Z H x vs v us Q I J K h;let#[l,xs,ds,y,d,j,U,U,D,b,hd,o,L,V,hm,q]:=h;cases J;let#[u,U,M]:=UG K;let#[z,its,n,r,Y,e]:=I.v5 D;let hlen:=b.len;let p:its.toArray.size<=sizeLine:=by rw[qM];omega
 let t:j<its.toArray.size:=by rw[qM];omega
 refine vV F.slot_list_remove {_,e,U} F.entry_list_remove (F.args_list_remove_2 _ _) (Ca (s:=s) (c:=X.A.units) (j:=j) e t p ?_) {7,?_}
 .intro prog w m a hle B N Q' hB O;rw[qM] at a;obtain⟨E,f⟩:∃E,xs[m]?=some E:={_,ql ()};let#[g,i,A]:=b.at f;let#[G,k,C]:=r.get f;let P:its.toArray[m]'(qM<|a)=G:=by
   rw[ql a] at k;simpa using qT k
  rw[P];let#[as,R]:=A.reads I C;let#[bs,S]:=hd.reads I M;let s1:=o g (ze i);refine SeqAt.eqBoolOverData prog w B N s G u g d as bs Q' R S (vW s1) (vW L) ?_ ?_
  .have h1:=SeqAt.depth_of_shaped s1;let h2:min g.depth d.depth<=g.depth:=Nat.min_le_left _ _;omega
  .rw[hm m g hle i];exact O
 .erw[.non,_,I.gL (its':=its.eraseIdx j) (ys:=xs.eraseIdx j) D e ?_ (QF.erase j r) ?_,U,q]
  .simp
  .have:=List.length_eraseIdx_le xs j;omega
def BP{X:Cx}(a:X.A.guards=some [])(l:X.A.units+64<cLine):Uk X (.builtin "repr") (λxs H Q=>∃(x:qc)(d:PyData),xs=[.ref x]/\RD X.K H (.ref x) d/\d.showable=true/\d.hasDict=false/\d.depth<=10/\-d.shown<=sizeLine/\Q (.str d.shown) H):=by
 intro fL s Z H xs us Q I r h;let#[x,d,U,hd,b,c,f,hz,q]:=h;let#[u,U,g]:=UG r;cases g;let#[as,i]:=hd.reads I rfl;calc repr_of_reads' i b (λz=>by rw[c] at z;cases z) a () (λ_ _ e=>e) (λh' u j k=>⟨.str d.shown,H,I.kept (t':=j) k,⟨u,rfl⟩,q⟩) hz
structure Xu(sc scope:Scope)(N:qe)(x y:qb)(fr:qa (Nat×qb)):Prop where
 kind:scope.kind=.function
 loc:scope.names.lookup x=some .local
 loc2:scope.names.lookup y=some .local
 names:∀y∈scope.names,y.2=.local->scope.names.lookup y.1=some .local
 xQ:∀y∈scope.names,y.2≠.cell
 free:∀y∈scope.names,y.2=.free->sc.names.lookup y.1=some .cell\/sc.names.lookup y.1=some .free
 frk:∀p∈fr,N[p.1]?=some p.2/\scope.names.lookup p.2=some .free
 nd:(x::y::fr.map (·.2)).Nodup
def Kt(K:Frag)(J:It)(fr:qa (Nat×qb))(e:TE)(Z:St)(H1:Hp)(Q:VK):Prop:=∀D,H1 D=none ->
 ∃W:Nat->Nat->qa V->Hp->Prop,(∃m,W 0 m [] (upd H1 D (.lst [])))/\∀i m ys a,W i m ys a->a D=@(.lst ys) /\
  ((J.stop i a/\Q (.ref D) a)\/(J.go i a/\∀v b,J.yld i a v b->∃p v1 v2,v=.ref p/\z5 K b p [v1,v2]/\e (some v1::some v2::xb Z fr) b λy c=>c D=@(.lst ys)/\-ys<sizeLine/\∃d,d<m/\W (i+1) d (ys++[y]) (upd c D (.lst (ys++[y])))))
def Fm(K:Frag)(a:TI)(fr:qa (Nat×qb))(b:TE):TE:=λZ H Q=>a Z H λJ H1=>Kt K J fr b Z H1 Q
def NJ{α:Type}{l:qa α}(h:-l=2):∃a b,l=[a,b]:=by
 cases l with
 |nil=>cases h
 |cons a l=>let#[b,U]:=zF.mp (Nat.succ.inj h);exact#[a,b,U]
def BM{X:Cx}{x y:qb}{k py pt:Pos}{kt:Nat}{iter fP:Expr}{scope sc:Scope}{pos pos':Pos}{N:qe}{fr:qa (Nat×qb)}{n:TI}{u:TE}
 {fL:qa (qc×Obj)} {s:ug} {Z:St} {H:Hp} {Q:VK} {Q':qf} {use:uf (qd->Sem Unit)}
 (S:Xu sc scope N x y fr) (j:X.env.scope=sc) (B:X.N=N) (hc:X.calm=true) (hi:PI X (.Tuple [.Name x k,.Name y py] kt pt) iter n)
 (he:∀(C:qc)(s:ug)(H:Hp)(A:qa qc),PE (Uy X scope C (x::y::fr.map (·.2)) s H A) fP u)
 (E:∀z,foldedSetIterable iter X.env z=pure z) (I:Inv X fL Z H s) (h:Fm X.K n fr u Z H Q)
 (f:∀(D C:qc)(H':Hp)(s':ug)(m:qb->uf qd),Inv X fL Z H' s'->s'.heap.Ns C m->HJ X fL H' C->Q (.ref D) H'->compPost (model X.prog X.w) X.A X.xe use Q' (.ref D) C (.ok .next) s') :
 wpAny (model X.prog X.w) X.A (comprehension (.ListComp fP [{.Tuple [.Name x k,.Name y py] kt pt,iter,[],(0)}] scope pos) scope X.env pos' (newList []) false (eval iter X.env) use) Q' X.xe s:=by
 calc BN (ns:=[x,y]) (g:=fm X.K 2 (Rc (Q9 0) (Rc (Q9 1) fu))) (tt:=Xw) S.kind S.names S.xQ S.free S.frk j B hc hi (λC s H A=>OT hc (XH (QX (i:=0) S.nd U (.inl (jX S.loc)) (.inr (jX S.loc))) (XH (QX (i:=1) S.nd U (.inl (jX S.loc2)) (.inr (jX S.loc2))) Ll))) (λ_ _ _ _=>Ud) he E I h (λJ H1 q D F=>?_) f;let#[W,G,turn]:=q D F;erw[W,G,λi m ys K w=>?_];let#[a,b]:=turn i m ys K w;erw[a,b.imp_right λ#[c,d]=>{c,λv L y=>?_}];let#[p,v1,v2,U,e,t]:=d v L y;erw[[some v1,some v2],λo R l r=>?_,U,by unfold Xw;dsimp only;rw[qE rfl];calc t];let#[_,_,U]:=NJ l;calc{p,[v1,v2],U,e,U,v1,[v2],U,v2,[],7,r}
def DO{X:Cx}{x y:qb}{f py pt:Pos}{kt:Nat}{iter fP:Expr}{scope sc:Scope}{pos:Pos}{N:qe}{fr:qa (Nat×qb)}{g:TI}{i:TE}
 (S:Xu sc scope N x y fr) (c:X.env.scope=sc) (j:X.N=N) (hc:X.calm=true) (hi:PI X (.Tuple [.Name x f,.Name y py] kt pt) iter g)
 (he:∀(C:qc)(s:ug)(H:Hp)(k:qa qc),PE (Uy X scope C (x::y::fr.map (·.2)) s H k) fP i)
 (l:∀z,foldedSetIterable iter X.env z=pure z:=by intro _;rfl) :
 PE X (.ListComp fP [{.Tuple [.Name x f,.Name y py] kt pt,iter,[],(0)}] scope pos) (Fm X.K g fr i):=by
 intro fL s Z H Q I h;rw[eval_ListComp];calc BM (use:=none) S c j hc hi he l I h λD C H' s' m J n a q=>?_;calc{m,n,λh' d=>{.ref D,H',J.turned (t':=s'.toks) (λb o p e=>(d.2 b p).trans e) a.hn a.hL a.h1 a.h2 a.h3,U,q}}
variable {a n:qb}{H:Hp}
abbrev Rows:=qa (qb×qb)
variable {fK:Rows}
def up(fK:Rows)(n:qb):uf qb:=(fK.find? λr=>decide (r.1=n)).map (·.2)
def QK(fK:Rows)(t:qb):qe:=(fK.filter λr=>decide (r.2=t)).map (·.1)
def QM(fK:Rows):qa (Key×V):=fK.map λr=>(inr r.1,V.str r.2)
def Qt(ns:qe):qa (Key×V):=ns.map λn=>(inr n,V.bl true)
def without(fK:Rows)(n:qb):Rows:=fK.filter λr=>decide (r.1≠n)
def Yv(n:qb):∀fK:Rows,QB (QM fK) (inr n)=(up fK n).map V.str
 |[]=>rfl
 |r::fK=>by
  show QB ((inr r.1,V.str r.2)::QM fK) (inr n)=_;by_cases h:r.1=n
  .rw[Yw (by rw[h])];simp[up,jO,h]
  .rw[Yp (λe=>h (jG e)),Yv n fK];simp[up,jO,h]
def U4(h:up fK n=some a):(n,a)∈fK:=by
 unfold up at h
 cases e:fK.find? λr=>decide (r.1=n) with
 |none=>rw[e] at h;cases h
 |some r=>
  rw[e] at h;let b:=List.find?_some e;let c:=List.mem_of_find?_eq_some e;let d:r.1=n:=qL b;let f:r.2=a:=qT h;rw[<-d,<-f];calc c
def Uq  :up fK n=none↔¬n∈fK.map (·.1):=by
 unfold up;rw[Option.map_eq_none_iff,wB];constructor
 .intro h z;let#[r,a,e]:=qj.mp z;exact h r a (qw e)
 .intro h r a z;calc h (qj.mpr {r,a,qL z})
def US(h:n∈fK.map (·.1)):∃a,up fK n=some a:=by
 cases e:up fK n with
 |none=>calc absurd h (Uq.mp e)
 |some a=>exact#[a,U]
def WV(n:qb):∀fK:Rows,Ub (QM fK) (inr n)=QM (without fK n)
 |[]=>rfl
 |r::fK=>by
  show Ub ((inr r.1,V.str r.2)::QM fK) (inr n)=_;by_cases h:r.1=n
  .rw[Kr (by rw[h]),WV n fK];simp[without,zi,h]
  .rw[Ks (λe=>h (jG e)),WV n fK];simp[without,zi,h,QM]
def Vf(n:qb):∀ns:qe,Ub (Qt ns) (inr n)=Qt (ns.filter λm=>decide (m≠n))
 |[]=>rfl
 |m::ns=>by
  show Ub ((inr m,V.bl true)::Qt ns) (inr n)=_;by_cases h:m=n
  .rw[Kr (by rw[h]),Vf n ns];simp[zi,h]
  .rw[Ks (λe=>h (jG e)),Vf n ns];simp[zi,h,Qt]
def UH(n:qb):∀ns:qe,QB (Qt ns) (inr n)=if n∈ns then @(V.bl true) else none
 |[]=>rfl
 |m::ns=>by
  show QB ((inr m,V.bl true)::Qt ns) (inr n)=_;by_cases h:m=n
  .rw[Yw (by rw[h]),qE (h<|qA)]
  .rw[Yp (λe=>h (jG e)),UH n ns];by_cases a:n∈ns
   .rw[qE a,qE (qy _ a)]
   .rw[qC a,qC (λz=>(qx.mp z).elim (λe=>h e.symm) a)]
def DI(h:up fK n=none):Yz (QM fK) (inr n) (.str a)=QM (fK++[(n,a)]):=by
 rw[XF _ (by rw[Yv,h];rfl)];simp[QM]
def Wk{ns:qe}(h:¬n∈ns):Yz (Qt ns) (inr n) (.bl true)=Qt (ns++[n]):=by
 rw[XF _ (by rw[UH,qC h])];simp[Qt]
def Kd(fK:Rows)(n a t:qb):QK (fK++[(n,a)]) t=QK fK t++if a=t then [n] else []:=by
 unfold QK;rw[zt,qB];by_cases h:a=t<;>simp[zi,h]
def VO{t:qb}(h:n∈QK fK t):n∈fK.map (·.1):=by
 let#[r,a,e]:=qj.mp h;calc qj.mpr {r,(qG.mp a).1,e}
def U8(fK:Rows)(n t:qb):QK (without fK n) t=(QK fK t).filter λm=>decide (m≠n):=by
 unfold QK without;rw[jd,xA,xA];congr 1;calc jA λr _=>?_;show(decide (r.2=t)&&decide (r.1≠n))=(decide (r.1≠n)&&decide (r.2=t));rw[Bool.and_comm]
def Wj(fK:Rows)(t:qb):-(QK fK t)<=-fK:=by
 unfold QK;rw[qh];calc qP _ _
def Vm{b:qb}(e:(fK.map (·.1)).Nodup)(d:(n,a)∈fK)(c:(n,b)∈fK):a=b:=by
 induction fK with
 |nil=>cases d
 |cons r fK h=>
  rw[qZ,zN] at e;obtain f|d:=qx.mp d
  .rcases qx.mp c with g|c
   .rw[<-g] at f;exact(vF f).2
   .exact absurd (qj.mpr {_,c,by rw[<-f]}) e.1
  .rcases qx.mp c with g|c
   .exact absurd (qj.mpr {_,d,by rw[<-g]}) e.1
   .exact h e.2 d c
def D8{t:qb}(b:(fK.map (·.1)).Nodup)(h:up fK n=some a)(c:t≠a):¬n∈QK fK t:=λz=>by
 let#[r,d,e]:=qj.mp z;let#[f,g]:=qG.mp d;let i:r.2=t:=qL g;have:(n,t)∈fK:=by rw[<-e,<-i];exact f
 calc c (Vm b this (U4 h))
def Xn{l:qe}(h:¬n∈l):(l.filter λm=>decide (m≠n))=l:=zK.mpr λm hm=>qw λe=>h (e▸hm)
def Cy(h:up fK n=some a):n∈QK fK a:=qj.mpr {(n,a),qG.mpr {U4 h,qw rfl},U}
def VW(a:(fK.map (·.1)).Nodup):((without fK n).map (·.1)).Nodup:=by
 unfold without;calc xC (List.Sublist.map _ zy) a
def IV(c:(fK.map (·.1)).Nodup)(h:up fK n=none):((fK++[(n,a)]).map (·.1)).Nodup:=by
 rw[qB];calc jo.mpr {c,by simp,λx b y d e=>?_};have:y=n:=by simpa using d
 rw[e,this] at b;calc Uq.mp h b
def Y9:∀{ms l:qe},ms.Nodup->(∀m∈ms,m∈l)->-ms<=-l
 |[],_,_,_=>qR _
 |m::ms,l,d,h=>by
  let#[f,g]:=zN.mp d;let hm:=h m qA;let e:=List.length_erase_of_mem hm;let i:=List.length_pos_of_mem hm;have:=Y9 (l:=l.erase m) g λx c=>(List.mem_erase_of_ne (a:=x) (b:=m) (λz=>f (by rw[<-z];calc c))).mpr (h x (qy _ c));rw[qU];omega
def wy(H H':Hp):Prop:=∀c o,H c=some o->(∀a,o≠.dK a)->H' c=some o
def Kp2(H H':Hp):Prop:=∀c o,H c=some o->(∀xs,o≠.lst xs)->H' c=some o
def Qi.w4{H':Hp}(s:Qi H H'):Kp2 H H':=λc o e _=>s c o e
def wy.trans{H1 d:Hp}(a:wy H H1)(b:wy H1 d):wy H d:=λc o e n=>b c o (a c o e n) n
def wy.upd{p:qc}{a b:qa (Key×V)}(h:H p=@(.dK a)):wy H (upd H p (.dK b)):=λc o e n=>by
 by_cases z:c=p
 .rw[z,h] at e;cases e;exact absurd rfl (n a)
 .rw[Qa z];calc e
def Dz(x:qb):∀(n:Nat)(acc:uk Nat),((List.replicate n x.cps).foldl (·++·) acc).toList=acc.toList++(List.replicate n x.cps.toList).flatten
 |0,acc=>by simp
 |n+1,acc=>by
  rw[List.replicate_succ,zD,Dz x n (acc++x.cps),List.replicate_succ,wO,Array.toList_append,yc]
def By(x:qb)(n:Int):(Txt.mul x n).cps.toList=(List.replicate n.toNat x.cps.toList).flatten:=by
 unfold Txt.mul;by_cases h:n<1
 .rw[qE h,show n.toNat=0 by omega];rfl
 .rw[qC h];split
  .rename_i a
   rw[Bool.or_eq_true] at a;obtain a|a:=a
   .have:n=1:=by simpa using a
    rw[this];show _=(List.replicate 1 x.cps.toList).flatten;simp
   .have b:x.cps.toList=[]:=gU (by rw[<-YM];simpa using a);rw[b];simp
  .show((List.replicate n.toNat x.cps).foldl (·++·) #[]).toList=_;rw[Dz];rfl
def S4(x:qb)(n:Int):-(Txt.mul x n)=n.toNat*-x:=by
 rw[YM,By,YM,List.length_flatten];simp
def S2{x:qb}{n:Int}{c:Nat}(h:c∈(Txt.mul x n).cps.toList):c∈x.cps.toList:=by
 rw[By] at h;let#[l,b,a]:=List.mem_flatten.mp h;rw[(List.mem_replicate.mp b).2] at a;calc a
inductive Ld(x:V)(y:V)(H:Hp)(Q:VK):Prop
 |mk:∀(s:qb)(n:Int),x=.str s->y=.int n->-s<=100->-1000<=n->n<=1000->Q (.str (Txt.mul s n)) H->Ld x y H Q
def dU:R2:=λx y H Q=>Ld x y H Q
def FQ{X:Cx}:yN X (binaryOp .Mult) dU:=by
 intro fL s Z H x y v u Q I a b h;let#[z,n,U,U,hz,h0,c,q]:=h;let#[t,U]:=a;let#[t',U]:=b;refine SB.mul {?_,λd _=>?_,λd _=>?_} λt' k=>{.str _,H,I.tok _,{0},q}
 .rw[Bool.or_eq_false_iff];exact{qK (),qK ()}
 .have e:(-z:Int)*n<=100*1000:=Int.mul_le_mul () c () ∅;let f:(-z:Int)<=(2^63-1) / n:=Int.le_ediv_of_mul_le () (Int.le_trans e ∅);omega
 .have e:-z*n.toNat<=100*1000:=Nat.mul_le_mul hz ();let f:100*1000<=sizeLine:=by decide
  unfold Builtin.Str.tooLong;calc qK ()
def Hz{X:Cx}(K:Frag)(a:X.A.guards=some [])(b:X.A.units+64<cLine)(c:X.K=K:=by rfl):Uk X (.builtin "repr") (λxs H Q=>∃(x:qc)(d:PyData),xs=[.ref x]/\RD K H (.ref x) d/\d.showable=true/\d.hasDict=false/\d.depth<=10/\-d.shown<=sizeLine/\Q (.str d.shown) H):=c▸BP a b
def Kw(H:Hp)(r:qc)(prs:qa (qc×qb×qb)):Prop:=H r=@(.lst (prs.map λq=>V.ref q.1))/\∀q∈prs,H q.1=@(.tup [.str q.2.1,.str q.2.2])
def Kw.same{H H':Hp}{r:qc}{prs:qa (qc×qb×qb)}(h:Kw H r prs)(s:Qi H H'):Kw H' r prs:={s _ _ h.1,λq a=>s _ _ (h.2 q a)}
abbrev VH:=qc×qb×qb
def XB(q:VH):PyData:=.tuple [.str q.2.1,.str q.2.2]
def Ny(prs:qa VH):Prop:=∀q∈prs,ya q.2.1/\ya q.2.2/\-q.2.1<=1000
def Fx{q:VH}(h:ya q.2.1/\ya q.2.2/\-q.2.1<=1000):SeqAt.shaped (XB q)=true:=by
 simp[XB,SeqAt.shaped,PyData.canLay0,PyData.canLayAll0,PyData.depth,PyData.depthAll,h.1.ok,h.2.1.ok]
def Oy{K:Frag}{H:Hp}{q:VH}(h:H q.1=@(.tup [.str q.2.1,.str q.2.2])):RD K H (.ref q.1) (XB q):=.tup (z5.of h) (.cons (.str _) (.cons (.str _) .nil))
def DB{K:Frag}{H:Hp}:∀{prs:qa VH},(∀q∈prs,H q.1=@(.tup [.str q.2.1,.str q.2.2]))->xq K H (prs.map λq=>V.ref q.1) (prs.map XB)
 |[],_=>.nil
 |q::prs,h=>.cons (Oy (h q qA)) (DB λz hz=>h z (qy _ hz))
def Ep:∀{prs:qa VH},Ny prs->PyData.canLayAll0 (prs.map XB)=true/\PyData.depthAll (prs.map XB)<=1
 |[],_=>{U,qR _}
 |q::prs,h=>by
  let a:=Ep (prs:=prs) λz hz=>h z (qy _ hz);let b:=h q qA;erw[by simp[XB,PyData.canLayAll0,PyData.canLay0,b.1.ok,b.2.1.ok,a.1],?_];let c:=a.2;simp only[qZ,PyData.depthAll,XB,PyData.depth];omega
def KA{m:Nat}:∀(ts:qe)(k:Nat)(acc:qb),(∀t∈ts,-t<=m)->-(textFrom k acc ts)<=-acc+-ts*(m+2)
 |[],k,acc,_=>by show -acc<=_;omega
 |t::r,k,acc,h=>by
  let a:=KA r (k+1) (acc++(if k > 0 then ", " else "":String)++t) λz hz=>h z (qy _ hz);let b:=h t qA;let e:(textFrom k acc (t::r))=textFrom (k+1) (acc++(if k > 0 then ", " else "":String)++t) r:=rfl;let c:-((if k > 0 then ", " else "":String):qb)<=2:=by
   by_cases z:k > 0
   .rw[qE z];decide +kernel
   .rw[qC z];decide +kernel
  rw[e];rw[Wa,Wa] at a;rw[qU,Nat.succ_mul];omega
section
variable {X:Cx}{fL:qa (qc×Obj)}{Z:St}{H:Hp}{s:ug}{a:qc}{oa:Obj}{fN:qa (Key×V)}
def Inv.freeze(I:Inv X fL Z H s)(e:H a=@(.dK fN)):∃oa,Inv X fL Z (upd H a (.jM oa (.dK fN))) s:=by
 let#[z,y,vs,r,b,es,f,d,c]:=(show QU X.prog X.w H s.heap a (.dK fN) from I.hok a _ e);calc{b,I.write (x:=a) (e:=a) (o:=.jM b (.dK fN)) (t':=s.toks) (h':=s.heap) (e<|True.intro) (.inl rfl) (λ_ _ _ q=>q) ⟨b,d⟩ ⟨d,z,y,vs,r,b,es,f,d,c⟩}
def Inv.gI(I:Inv X fL Z H s)(j:∀o u,X.H₀ a≠@(.jM o u))(e:H a=@(.jM oa (.dK fN))):Inv X fL Z (upd H a (.dK fN)) s:=by
 let d:∀b,H b=none->b≠a:=λb n z=>by rw[z,e] at n;cases n
 let ne1:∀b o,H b=some o->o≠.jM oa (.dK fN)->b≠a:=λb o q n z=>by rw[z,e] at q;cases q;exact n rfl
 let#[_,g]:=(show QU X.prog X.w H s.heap a (.jM oa (.dK fN)) from I.hok a _ e);erw[I.ok,I.os,I.bare,{I.base.keep,I.base.slot,λb o q n k=>?_,I.base.there,λb xs q=>?_,λb o u q=>?_,λb l q=>?_},I.loc,I.cell,?_,λx c q=>?_,λp r=>?_,λb u q=>?_,I.len]
 .have:=I.base.free b o q n k;rw[Qa (d b this)];exact this
 .have:=I.base.tups b xs q;rw[Qa (ne1 b _ this (λz=>by cases z))];exact this
 .have f:b≠a:=λz=>j o u (by rw[<-z];calc q);rw[Qa f];exact I.base.kh b o u q
 .let#[m,h]:=I.base.vg b l q;exact{m,Qa (ne1 b _ h (λz=>by cases z))<|h}
 .rw[Qa (d _ I.free)];exact I.free
 .rw[Qa (d _ (I.yt x c q))];exact I.yt x c q
 .let#[t,i,v]:=I.pin p r;exact{t,Qa (d _ i)<|i,v}
 .by_cases f:b=a
  .subst f;rw[Qd] at q;cases q;exact QU.stay (show QU X.prog X.w H s.heap b (.dK fN) from g) (λ_ _ _ z=>z) (λc z=>Qa (ne1 c _ z (λy=>by cases y))<|z) λc xs z=>by rw[Qa (ne1 c _ z (λy=>by cases y))];exact z
  .rw[Qa f] at q;calc(I.hok b u q).stay (λ_ _ _ z=>z) (λc z=>Qa (ne1 c _ z (λy=>by cases y))<|z) λc xs z=>by rw[Qa (ne1 c _ z (λy=>by cases y))];calc z
end
variable {P:uh}{w:ui}{a:qc}{oa:Obj}{fN:qa (Key×V)}
def cQ(a:qc)(oa:Obj)(fN:qa (Key×V))(D:VL):VL:={nx:=λZ H=>H a=@(.jM oa (.dK fN))/\D.nx Z (upd H a (.dK fN)),rt:=λv H=>H a=@(.jM oa (.dK fN))/\D.rt v (upd H a (.dK fN)),bk:=λZ H=>H a=@(.jM oa (.dK fN))/\D.bk Z (upd H a (.dK fN)),ct:=λZ H=>H a=@(.jM oa (.dK fN))/\D.ct Z (upd H a (.dK fN))}
inductive Ib(ts:TS)(D:VL)(Z:St)(H:Hp):Prop
 |mk:∀a fN,H a=some (.dK fN)->(∀oa,ts (cQ a oa fN D) Z (upd H a (.jM oa (.dK fN))))->Ib ts D Z H
def c3(ts:TS):TS:=λD Z H=>Ib ts D Z H
def Lh{X:Cx}{st:Stmt}{ts:TS}(j:PS X st ts):PS X st (c3 ts):=by
 rintro fL s Z H D I ⟨a,fN,e,h⟩;let#[oa,J]:=I.freeze e;let g:∀o u,X.H₀ a≠@(.jM o u):=λo u z=>by have:=I.base.kh a o u z;rw[e] at this;cases this
 refine jf (j fL s Z _ _ J (h oa)) λf s' q=>?_
 cases f with
 |next=>let#[c,i,d,b]:=q;calc{c,_,d.gI g b.1,b.2}
 |cont=>let#[c,i,d,b]:=q;calc{c,_,d.gI g b.1,b.2}
 |brk=>let#[c,i,d,b]:=q;calc{c,_,d.gI g b.1,b.2}
 |ret v=>let#[k,c,i,d,l,b]:=q;calc{k,c,_,d.gI g b.1,l,b.2}
def uP(a:qc)(oa:Obj)(fN:qa (Key×V)):It:={λi H=>H a=@(.jM oa (.dK fN))/\i< -fN,λi H x H'=>H'=H/\∃b,fN[i]?=some b/\x=kV b.1,λi H=>H a=@(.jM oa (.dK fN))/\-fN<=i}
def Vx{H:Hp}{h:Heap}(ok:y4 P w H h)(e:H a=@(.jM oa (.dK fN))) :
 (a==sysModules)=false/\∃vs es b,KV fN vs/\oa.data=.dict es b/\h.DictAt (Q4 P w) a vs b:=by
 let#[c,z,y,vs,r,j,es,b,d,g,f,i]:=(show QU P w H h a (.jM oa (.dK fN)) from ok a _ e);rw[c] at d;cases d;exact#[y,vs,es,b,r,f,oa,es,c,g,f,i]
def Sf{k:Key}{u:qd}(e:(Q4 P w).is k u=true):QL (kV k) u:=by
 obtain⟨i,t,rfl,rfl⟩|⟨z,t,rfl,rfl⟩:=Yd (show XT k u=true from e)
 .exact#[t,U]
 .exact#[t,U]
def AY{K:Frag}{D:Expr}(a it:qc)(oa:Obj)(fN:qa (Key×V))(es:uk DictEntry)(n:Nat)(hd:oa.data=.dict es n):HG P w K D (uP a oa fN) [it] it (λi h=>h.IsKeyIter it a i (-fN) n) where
 mem:=by simp
 obj:=λi h st b g=>by
  let e:b=it:=by simpa using g
  subst e;let#[o,e,c,d]:=st;exact{o,e,λv z=>by rw[d] at z;cases z}
 keep:=λi h h' st k=>by
  let#[o,e,c]:=st;exact{o,k it (by simp) o e,c}
 item:=by
  intro X r hw t hc i fL s Z H E I hf st u;subst r hw t;let#[x,m]:=u;let#[_,vs,y,A,p,f,hm]:=Vx I.hok x;rw[hd] at f;cases f;let q:=KV.length p;let j:s.heap.IsKeyIter it a i (-vs) n:=by rw[<-q];exact st
  let#[f0,f1,f2,B,f4,C]:=hf it (by simp);calc wpAny_pyNext_dict_item (k:=(vs[i]'()).1) (v:=(vs[i]'()).2) j hm (ql ()) λkey h' F l sb=>?_;let G:Inv X fL Z H {s with heap:=h'}:=I.turned (t':=s.toks) (λb o g e=>(sb.2 b g).trans e) f0 f1 B f4 C;let J:fN[i].1=(vs[i]'()).1:=KV.at p (ql m) (ql ());rw[<-q] at l;let#[o,e,c,d]:=id l;exact{key,U,EA (s:={s with heap:=h'}) e c d ∅ {kV fN[i].1,H,G,J<|Sf F,{U,fN[i],ql m,U},l,λb g=>(hf b g).1}}
 done:=by
  intro X r hw t hc i fL s Z H E I hf st u;subst r hw t;let#[x,l]:=u;let#[_,vs,y,A,p,f,hm]:=Vx I.hok x;rw[hd] at f;cases f;let q:=KV.length p;let j:s.heap.IsKeyIter it a i (-vs) n:=by rw[<-q];exact st
  let#[f0,f1,f2,B,f4,C]:=hf it (by simp);exact wpAny_pyNext_dict_end (I.ok.hd hc) j hm (yb ()) λh' m=>{U,I.turned (t':=s.toks) (λb o g e=>m b o g e) f0 f1 B f4 C}
 self:=λ_ _ _ _ _ st h=>wpAny_pyIter_keyiter st h
inductive LO(R:(It->Hp->Prop))(x:V)(H1:Hp):Prop
 |mk:∀a oa fN,x=.ref a->H1 a=some (.jM oa (.dK fN))->R (uP a oa fN) H1->LO R x H1
def fk(a:TE):TI:=λZ H R=>a Z H λx H1=>LO R x H1
def Sr{X:Cx}{i l:Expr}{g:TE}(d:PE X l g):PI X i l (fk g):=by
 intro fL s Z H R I h;calc jf (d fL s Z H _ I h) λv s1 #[x,H1,c,j,k]=>?_;let#[a,oa,fN,e,m,q]:=k;subst e;cases j;let#[f,vs,es,n,p,hd,hm]:=Vx c.hok m;let d:=KV.length p;calc wpAny_pyIter_dict f hm ?_;erw[(!s1),[(!s1)],9,H1,U,c.kept (t':=s1.toks) λb o e=>qt _ e,AY a _ oa fN es n hd,{_,qH _ rfl,U,by rw[d];rfl},λb r=>?_,q];let e:b=(!s1):=by simpa using r
 subst e;calc c.vz (qr _) (c.hok.fresh (qr _))
def WA{α:Type}{xs:qa α}{fr:qa (Nat×qb)}{tt:TT}{q:TE}{Z:St}{H1:Hp}{Q:VK}(g:α->V)(pr:α->Bool)(f:α->V)(hz:-xs<=sizeLine)(hS:H1 a=@(.jM oa (.dK fN)))(r:fN.map (λj=>kV j.1)=xs.map g)
 (k:∀(x:α)(c:Hp)(Q':Bool->Hp->Prop),x∈xs->Qi H1 c->Q' (pr x) c->tt (@(g x)::xb Z fr) c Q')
 (l:∀(x:α)(c:Hp)(Q':VK),x∈xs->Qi H1 c->pr x=true->Q' (f x) c->q (@(g x)::xb Z fr) c Q')
 (w:∀D,H1 D=none->Q (.ref D) (upd H1 D (.lst ((xs.filter pr).map f)))) :
 Yy (uP a oa fN) fr tt q Z H1 Q:=by
 let y:-fN=-xs:=by have:=zp List.length r;simpa using this
 unfold Yy;intro D s;erw[λi m ys t=>m=-xs-i/\i<=-xs/\ys=((xs.take i).filter pr).map f/\t=upd H1 D (.lst ys),{-xs,by simp,qR _,by simp,U},?_];rintro i m ys t ⟨rfl,hi,rfl,rfl⟩;erw[Qd,?_];let s1:Qi H1 (upd H1 D (.lst (((xs.take i).filter pr).map f))):=Qi.zg s;let d:=s1 _ _ hS;by_cases b:i< -xs
 .have n:(xs.map g)[i]?=@(g xs[i]):=by rw[qD,ql b];rfl
  calc .inr {{d,()},?_};rintro v c ⟨rfl,j,o,rfl⟩;let h:(xs.map g)[i]?=@(kV j.1):=by rw[<-r,qD,o];rfl
  rw[n] at h;let h:=qT h;rw[<-h];let hm:xs[i]∈xs:=zx b;let u:xs.take (i+1)=xs.take i++[xs[i]]:=by rw[zw,ql b];rfl
  calc k xs[i] _ _ hm s1 ?_;cases p:pr xs[i]
  .refine QQ {-xs-(i+1),(),U,b,?_,U};rw[u,zt,zi,p];simp
  .refine Q7 (l xs[i] _ _ hm s1 p {Qd,?_,-xs-(i+1),(),U,b,?_,VY})
   .have:=qP pr (xs.take i);rw[zC] at this;rw[qh];omega
   .rw[u,zt,zi,p,qB];simp
 .have e:i=-xs:=by omega
  subst e;calc .inl {{d,()},?_};have:=w D s;rw[zZ];calc this
def EB{g:TG}{tb:TS}{D:VL}{Z:St}{H:Hp}(Pv:Nat->St->Hp->Prop)(h0:Pv 0 Z H)(f:∀i Z H,i<=-fN->Pv i Z H->H a=@(.jM oa (.dK fN)))
 (h:∀i c Z H,fN[i]?=some c->Pv i Z H->g (kV c.1) Z H λj k=>tb {D with nx:=Pv (i+1),ct:=Pv (i+1),bk:=D.nx} j k) (hd:∀Z H,Pv (-fN) Z H->D.nx Z H) :
 Xh g tb D Z (uP a oa fN) H:=by
 erw[λi m Z H=>m=-fN-i/\i<=-fN/\Pv i Z H,{-fN,by simp,qR _,h0},?_];rintro i m Z H ⟨rfl,hi,p⟩;let q:=f i Z H hi p;by_cases b:i< -fN
 .refine .inr {#[q,b],Pv (i+1),λn H' l=>{-fN-(i+1),(),U,b,l},?_};rintro x H' ⟨rfl,c,d,rfl⟩;exact h i c Z _ d p
 .have e:i=-fN:=by omega
  subst e;calc .inl {{q,qr _},hd Z H p}
variable {fK:Rows}{a b here m n:qb}{rc wt:qe}
def upL(fK:Rows)(n:qb):qe:=match up fK n with
 |some a=>if a="" then [] else [a]
 |none=>[]
def kz(fK:Rows)(n:qb):qe:=QK fK n++upL fK n
inductive xo(fK:Rows)(n:qb):qb->Prop
 |refl:xo fK n n
 |step {m k:qb}:xo fK n m->k∈kz fK m->xo fK n k
def Vb{k:qb}:k∈upL fK n↔up fK n=some k/\k≠"":=by
 unfold upL
 cases up fK n with
 |none=>simp
 |some a=>
  by_cases h:a=""
  .subst h;simp;intro e;exact e.symm
  .simp[h];constructor
   .rintro rfl;exact#[U,h]
   .rintro⟨e,_⟩;calc e.symm
def VP{t:qb}(d:(fK.map (·.1)).Nodup):n∈QK fK t↔up fK n=some t:=by
 constructor
 .intro h;let#[r,f,e]:=qj.mp h;let#[b,g]:=qG.mp f;let i:r.2=t:=qL g;let#[a,c]:=US (qj.mpr #[r,b,e]);have:(n,t)∈fK:=by rw[<-e,<-i];exact b
  rw[c,Vm d (U4 c) this]
 .exact Cy
def vR(fK:Rows):Prop:=∀n:qb,n∈fK.map (·.1)->n≠""
def SY(a:(fK.map (·.1)).Nodup){k:qb}(hm:m≠"")(h:k∈kz fK m):m∈kz fK k:=by
 obtain h|h:=qq.mp h
 .exact qz _ (Vb.mpr {(VP a).mp h,hm})
 .exact qJ _ ((VP a).mpr (Vb.mp h).1)
def bO(ne:vR fK){k:qb}(h:k∈kz fK m):k≠"":=by
 obtain h|h:=qq.mp h
 .exact ne k (VO h)
 .exact(Vb.mp h).2
def xo.ne(ne:vR fK){k:qb}(a:n≠"")(h:xo fK n k):k≠"":=by
 cases h with
 |refl=>calc a
 |step _ h=>calc bO ne h
def xo.trans{c:qb}(d:xo fK a b)(e:xo fK b c):xo fK a c:=by
 induction e with
 |refl=>calc d
 |step _ h f=>calc .step f h
def xo.symm(c:(fK.map (·.1)).Nodup)(ne:vR fK)(d:a≠"")(h:xo fK a b):xo fK b a:=by
 induction h with
 |refl=>calc .refl
 |step e f g=>exact(xo.step .refl (SY c (e.ne ne d) f)).trans g
open Classical in
noncomputable def QO(fK:Rows)(n:qb):qe:=QH ((fK.map (·.1)).filter λm=>decide (xo fK n m))
def Vv  :m∈QO fK n↔m∈fK.map (·.1)/\xo fK n m:=by
 unfold QO;rw[Uc,qG];simp
def NL(a:(fK.map (·.1)).Nodup){l:qe}(b:l.Nodup)(h:∀m,m∈l↔m∈fK.map (·.1)/\xo fK n m):QH l=QO fK n:=by
 unfold QO;calc UB ((jJ b (a.filter _)).mpr λm=>?_);rw[h,qG];simp
def B2  :-(QO fK n)<=-fK:=by
 unfold QO;rw[Yq];have:=qP (λm=>@decide (xo fK n m) (Classical.propDecidable _)) (fK.map (·.1));rw[qh] at this;calc this
def NK(d:(fK.map (·.1)).Nodup)(ne:vR fK)(c:a≠"")(h:xo fK a b):QO fK b=QO fK a:=by
 let f:=h.ne ne c;let h':=h.symm d ne c
 classical
 unfold QO;congr 1;calc jA λm _=>?_;by_cases e:xo fK a m
 .rw[qw (h'.trans e),qw e]
 .rw[qK (λz=>e (h.trans z)),qK e]
noncomputable def UI(fK:Rows)(acc:qa (qe))(n:qb):qa (qe):=if QO fK n∈acc then acc else acc++[QO fK n]
noncomputable def YO(fK:Rows)(ns:qe):qa (qe):=ns.foldl (UI fK) []
def Kz(fK:Rows)(ns:qe)(n:qb):YO fK (ns++[n])=UI fK (YO fK ns) n:=by
 unfold YO;rw[jz];rfl
def ED{fK:Rows}:∀(ns:qe)(acc:qa (qe)){t:qe},t∈ns.foldl (UI fK) acc->t∈acc\/∃n∈ns,t=QO fK n
 |[],acc,t,h=>.inl h
 |n::ns,acc,t,h=>by
  obtain h|⟨m,hm,e⟩:=ED ns (UI fK acc n) h
  .unfold UI at h;split at h
   .exact .inl h
   .rcases qq.mp h with h|h
    .exact .inl h
    .exact .inr {n,qA,qk.mp h}
  .exact .inr {m,qy _ hm,e}
def VZ(ns:qe){t:qe}(h:t∈YO fK ns):∃n∈ns,t=QO fK n:=(ED ns [] h).elim (λz=>by cases z) id
def EE{fK:Rows}:∀(ns:qe)(acc:qa (qe)),-(ns.foldl (UI fK) acc)<=-acc+-ns
 |[],acc=>qr _
 |n::ns,acc=>by
  let h:=EE (fK:=fK) ns (UI fK acc n);let a:-(UI fK acc n)<=-acc+1:=by
   unfold UI;split
   .omega
   .rw[qo];simp
  rw[zD,qU];omega
def Xg(ns:qe):-(YO fK ns)<=-ns:=by
 have:=EE (fK:=fK) ns [];unfold YO;simpa using this
def RY(d:(fK.map (·.1)).Nodup)(ne:vR fK){ns:qe}(a:∀m∈ns,m∈fK.map (·.1))(e:n∈fK.map (·.1)):(∃t∈YO fK ns,n∈t)↔QO fK n∈YO fK ns:=by
 constructor
 .rintro⟨t,c,b⟩;let#[m,hm,U]:=VZ ns c;rw[NK d ne (ne m (a m hm)) (Vv.mp b).2];exact c
 .intro h;calc{_,h,Vv.mpr {e,.refl}}
structure gi(fK:Rows)(n:qb)(rc wt:qe):Prop where
 nd:rc.Nodup
 start:n∈rc
 sound:∀m∈rc,xo fK n m
 sub:∀m∈wt,m∈rc
 clo:∀m∈rc,m∉wt->∀k∈kz fK m,k∈rc
def aL(fK:Rows):qe:=fK.map (·.1)++fK.map (·.2)
def DC(a:n∈fK.map (·.1))(h:xo fK n m):m∈aL fK:=by
 cases h with
 |refl=>calc qJ _ a
 |step _ h=>
  obtain h|h:=qq.mp h
  .exact qJ _ (VO h)
  .exact qz _ (qj.mpr {_,U4 (Vb.mp h).1,U})
def gi.len(d:gi fK n rc wt)(a:n∈fK.map (·.1)):-rc<=2*-fK:=by
 have:=Y9 d.nd λm hm=>DC a (d.sound m hm);unfold aL at this;rw[qo,qh,qh] at this;omega
def gi.init  :gi fK n [n] [n]:=
 {by simp,by simp,λm hm=>qk.mp hm<|.refl,λm hm=>hm,λm hm h=>absurd hm h}
def gi.done(nd:(fK.map (·.1)).Nodup)(d:gi fK n rc []):QH (rc.filter λm=>decide (m∈fK.map (·.1)))=QO fK n:=by
 let all:∀m,xo fK n m->m∈rc:=λm h=>by
  induction h with
  |refl=>calc d.start
  |step _ h a=>exact d.clo _ a (by simp) _ h
 calc NL nd (d.nd.filter _) λm=>?_;rw[qG];constructor
 .rintro⟨a,b⟩;exact{qL b,d.sound m a}
 .rintro⟨a,b⟩;calc{all m b,qw a}
structure WH(fK:Rows)(n here:qb)(seen:qe)(rc wt:qe):Prop where
 nd:rc.Nodup
 start:n∈rc
 hr:here∈rc
 sound:∀m∈rc,xo fK n m
 sub:∀m∈wt,m∈rc
 clo:∀m∈rc,m∉wt->m≠here->∀k∈kz fK m,k∈rc
 got:∀k∈seen,k∈rc
def gi.pop(d:gi fK n rc (wt++[here])):WH fK n here [] rc wt:=
 {d.nd,d.start,d.sub here (by simp),d.sound,λm hm=>d.sub m (qJ _ hm),λm hm a b=>d.clo m hm λz=>(qq.mp z).elim a λy=>b (qk.mp y),λk c=>by cases c}
def WH.old{k:qb}{seen:qe}(d:WH fK n here seen rc wt)(a:k∈rc):WH fK n here (seen++[k]) rc wt:=
 {d.nd,d.start,d.hr,d.sound,d.sub,d.clo,λm hm=>(qq.mp hm).elim (d.got m) λy=>qk.mp y<|a}
def WH.new{k:qb}{seen:qe}(d:WH fK n here seen rc wt)(c:¬k∈rc)(f:k∈kz fK here):WH fK n here (seen++[k]) (rc++[k]) (wt++[k]):=by
 erw[jo.mpr {d.nd,by simp,λx g y h e=>c ?_},qJ _ d.start,qJ _ d.hr,λm hm=>?_,λm hm=>?_,λm hm b i=>?_,λm hm=>?_]
 .rw[qk.mp h] at e;rw[<-e];exact g
 .rcases qq.mp hm with z|z
  .exact d.sound m z
  .rw[qk.mp z];exact .step (d.sound here d.hr) f
 .rcases qq.mp hm with z|z
  .exact qJ _ (d.sub m z)
  .exact qz _ z
 .rcases qq.mp hm with z|z
  .intro j a;exact qJ _ (d.clo m z (λy=>b (qJ _ y)) i j a)
  .exact absurd (qz _ z) b
 .rcases qq.mp hm with z|z
  .exact qJ _ (d.got m z)
  .exact qz _ z
def WH.out(d:WH fK n here (kz fK here) rc wt):gi fK n rc wt:=
 ⟨d.nd,d.start,d.sound,d.sub,λm hm a=>by
   by_cases e:m=here
   .subst e;exact d.got
   .exact d.clo m hm a e⟩
def Ko(one other:qb×qb):Bool:=decide (one.2=other.1)||(decide (other.2=one.1)||(decide (one.2≠"")&&decide (one.2=other.2)))
def P8(b:(fK.map (·.1)).Nodup)(ne:vR fK){one other:qb×qb}(c:one∈fK)(d:other∈fK)(h:Ko one other=true):xo fK other.1 one.1:=by
 let u:∀r∈fK,up fK r.1=some r.2:=λr f=>by
  let#[a,g]:=US (qj.mpr #[r,f,U]);rw[g,Vm b (U4 g) f]
 let g:=ne one.1 (qj.mpr #[one,c,U]);unfold Ko at h;rw[Bool.or_eq_true,Bool.or_eq_true,qY] at h;obtain h|h|⟨h,h'⟩:=h
 .have e:=qL h;exact .step .refl (qJ _ ((VP b).mpr (by rw[u one c,e])))
 .have e:=qL h;exact .step .refl (qz _ (Vb.mpr {by rw[u other d,e],g}))
 .have i:=qL h;let e:=qL h';calc .step (m:=one.2) (.step .refl (qz _ (Vb.mpr {by rw[u other d,e],i}))) (qJ _ ((VP b).mpr (u one c)))
def P9(l:(fK.map (·.1)).Nodup)(ne:vR fK){S:Rows}(sub:∀r∈S,r∈fK)(i:n∈S.map (·.1))(c:∀r∈S,∀q∈fK,Ko q r=true->q∈S)(hm:m∈fK.map (·.1))(h:xo fK n m):m∈S.map (·.1):=by
 let p:n≠"":=by
  let#[r,a,e]:=qj.mp i;exact ne n (qj.mpr {r,sub r a,e})
 let good:∀k,xo fK n k->(k∈fK.map (·.1)->k∈S.map (·.1))/\(k∉fK.map (·.1)->∃r∈S,r.2=k):=λk f=>by
  induction f with
  |refl=>exact⟨λ_=>i,λz=>by
    let#[r,a,e]:=qj.mp i;calc absurd (qj.mpr {r,sub r a,e}) z⟩
  |@step m k s d j=>
   let m0:=s.ne ne p;obtain d|d:=qq.mp d
   .
    let f:=VO d;erw[λ_=>?_,λz=>absurd f z];let g:(k,m)∈fK:=U4 ((VP l).mp d);by_cases b:m∈fK.map (·.1)
    .let#[r,a,e]:=qj.mp (j.1 b);exact qj.mpr {(k,m),c r a _ g (by unfold Ko;simp[e]),U}
    .let#[r,a,e]:=j.2 b;exact qj.mpr {(k,m),c r a _ g (by unfold Ko;simp[e,m0]),U}
   .let#[t,v]:=Vb.mp d;let g:=U4 t;let b:m∈fK.map (·.1):=qj.mpr {_,g,U};let#[r,a,e]:=qj.mp (j.1 b);let o:r.2=k:=Vm l (by rw[<-e];calc sub r a) g;erw[λf=>?_,λ_=>#[r,a,o]];let#[q,u,eq]:=qj.mp f;exact qj.mpr {q,c r a q u (by unfold Ko;simp[o,eq]),eq}
 calc(good m h).1 hm
variable {X:Cx}{ns:qe}{n:qb}
inductive OK(K:Frag)(neg:Bool)(x:V)(y:V)(H:Hp)(Q:VK):Prop
 |mk:∀d ds,RD K H x d->RD K H y (.list ds)->PyData.canLayAll0 ds=true->d.canLay0=true->d.depth<=20->(Q (.bl (if neg then !(ds.any λe=>PyData.eqv e d) else ds.any λe=>PyData.eqv e d)) H)->OK K neg x y H Q
def d3(K:Frag)(neg:Bool):R2:=λx y H Q=>OK K neg x y H Q
def Bp(j:X.A.units+64<cLine):yN X (compareOp .NotIn) (d3 X.K true):=by
 intro fL s Z H x y v u Q I a b h;let#[d,ds,hd,c,e,f,k,q]:=h;let#[as,g]:=hd.reads I a;let#[bs,i]:=c.reads I b;calc SeqAt.notIn_list_reads i g e f ?_ {.bl _,H,I,U,q};have:=Nat.min_le_right (PyData.depthAll ds) d.depth;omega
def FN(K:Frag)(a:X.A.units+64<cLine)(b:X.K=K:=by rfl):yN X (compareOp .NotIn) (d3 K true):=b▸Bp a
def K7(K:Frag){e:Expr}{f:qb}{pos:Pos}{a:TE}(he:PE X e a)(b:attributeBase e f X.env (eval e X.env)=eval e X.env)(c:X.K=K:=by rfl):PE X (.Attribute e f pos) (c0 K a f):=c▸Qj he b
def Tw(a b:VH):PyData.eqv (XB a) (XB b)=decide (a.2=b.2):=by
 show(a.2.1==b.2.1&&(a.2.2==b.2.2&&true))=_;rw[Bool.and_true,jN,qY,yw,yw,decide_eq_true_iff];calc{λ#[x,y]=>Prod.ext x y,λe=>by rw[e];exact#[U,U]}
def Hl{α β:Type}{f:α->β}:∀{l:qa α},(l.map f).Nodup->∀{a b:α},a∈l->b∈l->f a=f b->a=b
 |[],_,_,_,h,_,_=>by cases h
 |x::l,g,a,b,h,i,e=>by
  rw[qZ,zN] at g;obtain c|c:=qx.mp h<;>obtain d|d:=qx.mp i
  .rw[c,d]
  .exact absurd (qj.mpr {b,d,by rw[<-e,c]}) g.1
  .exact absurd (qj.mpr {a,c,by rw[e,d]}) g.1
  .exact Hl g.2 c d e
def Xc{α β:Type}{f:α->β}{p:α->Bool}{l:qa α}(a:(l.map f).Nodup):((l.filter p).map f).Nodup:=a.sublist ((zy).map f)
structure LW(prs:qa VH)(n:qb)(S:qa VH)(at':Nat):Prop where
 sub:∀r∈S,r∈prs
 nd:(S.map (·.2.1)).Nodup
 snd:∀r∈S,xo (prs.map (·.2)) n r.2.1
 me:n∈S.map (·.2.1)
 clo:∀j,j<at'->∀r,S[j]?=some r->∀q∈prs,Ko q.2 r.2=true->q∈S
def En(prs S:qa VH)(r:VH):qa VH:=prs.filter λq=>!(S.any λs=>decide (s.2=q.2))&&Ko q.2 r.2
section
variable {prs S:qa VH}{n:qb}{k:Nat}
def LW.start(nd:(prs.map (·.2.1)).Nodup)(b:n∈prs.map (·.2.1)):LW prs n (prs.filter λq=>decide (q.2.1=n)) 0:=by
 erw[λr a=>(qG.mp a).1,Xc nd,λr a=>?_,?_,λj c=>absurd c (yv _)]
 .rw[qL (qG.mp a).2];exact .refl
 .let#[r,a,e]:=qj.mp b;calc qj.mpr {r,qG.mpr {a,qw e},e}
def LW.len(w:LW prs n S k):-S<=-prs:=by
 have:=Y9 w.nd (l:=prs.map (·.2.1)) λm hm=>by
  let#[r,a,e]:=qj.mp hm;exact qj.mpr {r,w.sub r a,e}
 rw[qh,qh] at this;calc this
def LW.step(nd:(prs.map (·.2.1)).Nodup)(ne:vR (prs.map (·.2))){r:VH}(w:LW prs n S k)(o:S[k]?=some r):LW prs n (S++En prs S r) (k+1):=by
 let p:((prs.map (·.2)).map (·.1)).Nodup:=by rw[qI];exact nd
 let i:r∈S:=ze o;let y:k< -S:=(qS.mp o).1;let c:∀q,q∈En prs S r↔q∈prs/\¬q∈S/\Ko q.2 r.2=true:=λq=>by
  unfold En;rw[qG,qY,wQ];constructor
  .rintro⟨f,l,m⟩;erw[f,λz=>?_,m];have:(S.any λs=>decide (s.2=q.2))=true:=yV.mpr {q,z,qw rfl};rw[l] at this;cases this
  .rintro⟨f,l,m⟩;erw[f,?_,m]
   cases e:S.any λs=>decide (s.2=q.2) with
   |false=>rfl
   |true=>
    let#[s,h,es]:=yV.mp e;have:=Hl nd (w.sub s h) f (zp (·.1) (qL es));rw[this] at h;exact absurd h l
 erw[λq g=>?_,?_,λq g=>?_,?_,λj A u d q g t=>?_]
 .rcases qq.mp g with z|z
  .exact w.sub q z
  .exact((c q).mp z).1
 .rw[qB,jo];erw[w.nd,Xc nd,λa v b x e=>?_];let#[s,h,U]:=qj.mp v;let#[q,g,U]:=qj.mp x;let#[f,l,_]:=(c q).mp g;have:=Hl nd (w.sub s h) f e;rw[this] at h;exact l h
 .rcases qq.mp g with z|z
  .exact w.snd q z
  .let#[f,_,m]:=(c q).mp z;exact(w.snd r i).trans (P8 p ne (qj.mpr #[q,f,U]) (qj.mpr {r,w.sub r i,U}) m)
 .rw[qB];exact qJ _ w.me
 .have f:j< -S:=by omega
  rw[ju f] at d;by_cases h:j=k
  .rw[h,o] at d;cases d;by_cases z:q∈S
   .exact qJ _ z
   .exact qz _ ((c q).mpr #[g,z,t])
  .exact qJ _ (w.clo j () u d q g t)
def LW.done(nd:(prs.map (·.2.1)).Nodup)(ne:vR (prs.map (·.2)))(w:LW prs n S k)(s:-S<=k):QH (S.map (·.2.1))=QO (prs.map (·.2)) n:=by
 let b:((prs.map (·.2)).map (·.1)).Nodup:=by rw[qI];exact nd
 refine NL b w.nd λm=>{λhm=>?_,λ#[h,i]=>?_}
 .let#[r,a,U]:=qj.mp hm;exact{qj.mpr {r.2,qj.mpr {r,w.sub r a,U},U},w.snd r a}
 .have:=P9 b ne (S:=S.map (·.2)) (λr a=>by
   let#[q,c,U]:=qj.mp a;calc qj.mpr {q,w.sub q c,U}) (qI<|w.me) (λr a q c l=>by
   let#[o,d,U]:=qj.mp a;let#[g,f,U]:=qj.mp c;let#[j,p,e]:=xg d;calc qj.mpr {g,w.clo j () o (by rw[ql p,e]) g f l,U}) h i
  rw[qI] at this;calc this
end
def Cf(h:n∈ns):Yz (Qt ns) (inr n) (.bl true)=Qt ns:=by
 unfold Yz;let hc:((Qt ns).any λa=>decide (a.1=(inr n:Key)))=true:=yV.mpr {(inr n,.bl true),qj.mpr #[n,h,U],qw rfl};rw[qE hc];unfold Qt;rw[qI];apply js;intro m _;show(if (inr m:Key)=inr n then (inr m,V.bl true) else (inr m,V.bl true))=_;split<;>rfl
def YR(ns:qe)(n:qb):qe:=if n∈ns then ns else ns++[n]
def Cg(ns:qe)(n:qb):Yz (Qt ns) (inr n) (.bl true)=Qt (YR ns n):=by
 unfold YR;split
 .exact Cf ‹_›
 .exact Wk ‹_›
def K9{m:qb}:m∈YR ns n↔m∈ns\/m=n:=by
 unfold YR;split
 .exact{.inl,λh=>h.elim id λe=>e▸‹_›}
 .rw[qq,qk]
def CH(h:ns.Nodup):(YR ns n).Nodup:=by
 unfold YR;split
 .exact h
 .rename_i c
  rw[jo];calc{h,jY _ _,λa d b f e=>c (by rw[qk.mp f] at e;rw[<-e];calc d)}
def Xz:∀ds:qa PyData,PyData.shownAll ds=ds.map PyData.shown
 |[]=>rfl
 |d::ds=>by rw[PyData.shownAll,Xz ds,qZ]
def aE:ya ("zz":qb)/\-("zz":qb)<=20:={λc hc=>qL (zu.mp (show(("zz":qb).cps.toList.all λc=>decide (c<128))=true by decide +kernel) c hc),∅}
open PySem PySem.Spec
variable {T xs:qe}{w:qb}{x:qc}{H:Hp}
inductive CU(Q:VK)(a:qc)(y:V)(z:V)(H3:Hp):Prop
 |mk:∀fN k,H3 a=some (.dK fN)->y=kV k->-fN<sizeLine->((∀v,QB fN k=some v->Q v H3))->((QB fN k=none->Q z (upd H3 a (.dK (Yz fN k z)))))->CU Q a y z H3
inductive Ic(ty:TE)(tx:TE)(Z:St)(Q:VK)(x:V)(H1:Hp):Prop
 |mk:∀a,x=.ref a->IsD H1 a->(ty Z H1 λy H2=>tx Z H2 λz H3=>CU Q a y z H3)->Ic ty tx Z Q x H1
def c6(a ty b:TE):TE:=λZ H Q=>a Z H λx H1=>Ic ty b Z Q x H1
section
variable {X:Cx}{fL:qa (qc×Obj)}{Z:St}{H:Hp}{s:ug}{a:qc}{fN:qa (Key×V)}{k:Key}{z:V}{u r:qd}{A:uj}{E:qf}
def Rx{Q:qf}(I:Inv X fL Z H s)(e:H a=@(.dK fN))(g:QL (kV k) u)(h:QL z r)(l:-fN<sizeLine)
 (i:∀v,QB fN k=some v->∀f s',Inv X fL Z H s'->QL v f->Q f s') (j:QB fN k=none->∀s',Inv X fL Z (upd H a (.dK (Yz fN k z))) s'->Q r s') :
 wpAny (model X.prog X.w) A (call (.builtin "dict.setdefault") [.ref a,u,r]) Q E s:=by
 let#[hz,hd,vs,rel,dd]:=Au I.hok e;refine xZ PySem.F.slot_dict_setdefault dd.typeIs PySem.F.entry_dict_setdefault (PySem.F.args_dict_setdefault_3 _ _ _) (kt_meets_setdefault (Q4 X.prog X.w) a (Xb g) hd r) {vs,dd,by rw[<-(-rel)];calc hz,λf hw=>?_,λm h' d n=>?_}
 .have b:=rel.val k;rw[hw] at b
  cases c:QB fN k with
  |none=>rw[c] at b;calc absurd b (by simp[Vu])
  |some v=>rw[c] at b;exact i v c f _ (I.tok _) b
 .have b:=rel.val k;rw[m] at b
  cases c:QB fN k with
  |some v=>rw[c] at b;calc absurd b (by simp[Vu])
  |none=>
   let he:∃q,h'.get? a=some q:=let ⟨q,_,_,o,_⟩:=d;#[q,o];let p:-(Yz fN k z)<=sizeLine:=by have:=UY fN k z;omega
   calc j c _ (X0 I (e<|True.intro) n he (CC p hd (rel.put k h) d))
end
section
variable {X:Cx}{o e f:Expr}{apos fO:Pos}{td ty tx:TE}
def OW(j:PE X o td)(he:PE X e ty)(hf:PE X f tx)(m:M2 X o "setdefault" apos e f fO):PE X (.Call (.Attribute o "setdefault" apos) [e,f] [] fO) (c6 td ty tx):=by
 intro fL s Z H Q I h;calc vo m.base m.few m.line plainAttrs_dict PySem.F.slot_dict_setdefault PySem.F.type_dict_setdefault (jf (j fL s Z H _ I h) λu s1 #[x,H1,g,n,a,ex,d,p]=>?_);subst ex;obtain rfl:u=Value.ref a:=n;let#[t1,q,_]:=Ah g d;erw[t1,q,?_];rw[m.trees];calc jv rfl (yq (jh (jf (he fL s1 Z H1 _ g p) λL s2 #[y,r,t,w,A]=>jh (jf (hf fL s2 Z r _ t A) λM s3 #[z,B,C,i,D,k,E,F,l,G,J]=>jW ?_))));subst F;calc Rx C E w i l (λv ev N s4 b c=>{_,B,b,c,G v ev}) λK s4 b=>{z,_,b,i,J K}
end
def Wn:∀(xs acc:qe){t:qb},t∈acc\/t∈xs->t∈xs.foldl YT acc
 |[],acc,t,h=>h.elim id λz=>nomatch z
 |x::xs,acc,t,h=>by
  calc Wn xs (YT acc x) ?_;unfold YT;obtain h|h:=h
  .left;split
   .exact h
   .exact qJ _ h
  .rcases qx.mp h with rfl|h
   .left;split
    .assumption
    .exact qz _ (qk.mpr rfl)
   .exact .inr h
def Ej{t:qb}(h:t∈xs):t∈UQ xs:=Wn xs [] (.inr h)
def kn(T xs:qe):qa (Key×V):=(UQ xs).map λw=>(inr w,V.bl (decide (w∈T)))
def PF(T xs:qe):-(kn T xs)<=-xs:=by unfold kn;rw[qh];calc O0 xs
def S9(T xs:qe):(kn T xs).map (λa=>kV a.1)=(UQ xs).map V.str:=by unfold kn;rw[qI];rfl
def BC(T:qe)(w:qb):∀ys:qe,QB (ys.map λw=>((inr w:Key),V.bl (decide (w∈T)))) (inr w)=if w∈ys then @(V.bl (decide (w∈T))) else none
 |[]=>rfl
 |y::ys=>by
  rw[qZ];by_cases e:y=w
  .subst e;rw[Yw rfl,qE (qA ..)]
  .rw[Yp (λz=>e (jG z)),BC T w ys];by_cases m:w∈ys
   .rw[qE m,qE (qy _ m)]
   .rw[qC m,qC (λz=>(qx.mp z).elim (λq=>e q.symm) m)]
def Ha(T xs:qe)(w:qb):QB (kn T xs) (inr w)=if w∈UQ xs then @(V.bl (decide (w∈T))) else none:=BC T w (UQ xs)
def PB(h:w∈UQ xs):kn T (xs++[w])=kn T xs:=by
 unfold kn;rw[Bq];unfold YT;rw[qE h]
def PD(h:¬w∈UQ xs):kn T (xs++[w])=kn T xs++[(inr w,V.bl (decide (w∈T)))]:=by
 unfold kn;rw[Bq];unfold YT;rw[qC h,qB];rfl
def bV(h:w∈T):Yz (kn T xs) (inr w) (.bl true)=kn T (xs++[w]):=by
 unfold Yz;rw[Vh,Ha];by_cases m:w∈UQ xs
 .rw[qE m,PB m,qE (show(some _:uf V).isSome=true from rfl)];unfold kn;rw[qI];calc js λu _=>?_;show(if (inr u:Key)=inr w then ((inr u:Key),V.bl true) else (inr u,V.bl (decide (u∈T))))=_;by_cases e:u=w
  .subst e;rw[qE rfl,qw h]
  .rw[qC (λz=>e (jG z))]
 .rw[qC m,qC nofun,PD m,qw h]
def Es(a:∀u∈T,u∈xs)(h:QB (kn T xs) (inr w)=none):Yz (kn T xs) (inr w) (.bl false)=kn T (xs++[w]):=by
 let m:¬w∈UQ xs:=λm=>by rw[Ha,qE m] at h;cases h
 unfold Yz;rw[Vh,h,qC nofun,PD m,qK (λz=>m (Ej (a w z)))]
def Er{v:V}(h:QB (kn T xs) (inr w)=some v):kn T (xs++[w])=kn T xs:=by
 calc PB ?_;by_cases m:w∈UQ xs
 .exact m
 .rw[Ha,qC m] at h;cases h
def SX(x:qc)(H H':Hp):Prop:=∀c o,c≠x->H c=some o->H' c=some o
def SX.of{H':Hp}(h:Qi H H'):SX x H H':=λc o _ e=>h c o e
def SX.trans{H1 a:Hp}(h:SX x H H1)(g:SX x H1 a):SX x H a:=λc o n e=>g c o n (h c o n e)
def SX.free{l:qc}{H1:Hp}{o:HO}(h:SX x H H1)(e:H1 x=some o)(n:H1 l=none):H l=none:=by
 cases q:H l with
 |none=>rfl
 |some u=>
  by_cases z:l=x
  .rw[z,e] at n;cases n
  .rw[h l u z q] at n;cases n
variable {led:Bool}{a:qc}{ks:qe}
def W2:qd->qb
 |.str x _=>x
 |_=>""
def VG(prog:uh)(w:ui)(led:Bool)(a:qc)(ks:qe)(h:Heap):Prop:=∃o es b t,h.get? a=some o/\o.ExactSet/\o.data=.set es b t/\ElemsOf (strKind prog w) es.toList/\es.size<scanBound/\t.fits es.size=true/\t.led=led /\
 (t.plain=true->es.size=0)/\(es.toList.map λe=>W2 e.2).Perm ks
def VG.at{prog:uh}{w:ui}{h h':Heap}(x:VG prog w led a ks h)(k:∀o,h.get? a=some o->h'.get? a=some o):VG prog w led a ks h':=
 let ⟨o,es,b,t,e,r⟩:=x;{o,es,b,t,k o e,r}
def Aq{prog:uh}{w:ui}{l:qa (Int×qd)}(h:ElemsOf (strKind prog w) l){e:Int×qd}(he:e∈l):∃t,e.2=.str (W2 e.2) t:=by
 let#[#[k,a,_],_]:=h e he;let#[t,q]:=Value.isStrOf_shape (show Value.isStrOf k e.2=true from a);calc{t,by rw[q];rfl}
def PV{k:qb}{v:qd}{t:Tok}(h:v=.str (W2 v) t):Value.isStrOf k v=decide (k=W2 v):=by
 rw[h];show Value.isStrOf k (.str (W2 v) t)=decide (k=W2 v);by_cases e:k=W2 v
 .rw[<-e,qw rfl];simp[Value.isStrOf]
 .rw[qK e];simp[Value.isStrOf];calc λz=>e z.symm
def F9(t:SetTable)(es:uk (Int×qd))(h:Int)(x:qd):(layNew t es h x).2.1.led=t.led:=by
 unfold layNew;split
 .show(SetTable.orStandIn _ _).led=_;unfold SetTable.orStandIn;split<;>rfl
 .rfl
def Cb(t:SetTable)(es:uk (Int×qd))(wanted:Nat):(relayAll t es wanted).2.1.led=t.led/\((relayAll t es wanted).2.1.plain=true->t.plain=true):=by
 unfold relayAll;split
 .rename_i t' order he
  let e:t'.led=t.led/\t'.plain=t.plain:=by
   unfold SetTable.relaid SetTable.laid at he
   cases hc:SetTable.layClean (SetTable.sizeAbove wanted-1) (es.map (·.1)) with
   |none=>rw[hc] at he;cases he
   |some a=>rw[hc] at he;cases he;exact#[U,U]
  dsimp only;split
  .exact{e.1,λz=>by rw[<-e.2];calc z}
  .exact{U,λz=>by cases z}
 .exact{U,λz=>by cases z}
section
variable {prog:uh}{w:ui}{A:uj}{E:qf}{s:ug}
def GG{h:Heap}{o:Obj}{es:uk (Int×qd)}{c:Nat}{t:SetTable}(j:h.get? a=some o)(hex:o.ExactSet)(hd:o.data=.set es c t){b:uk (Int×qd)}{t':SetTable}
 (d:ElemsOf (strKind prog w) b.toList) (k:b.size<scanBound) (hf:t'.fits b.size=true) (l:t'.led=led) (m:t'.plain=true->b.size=0) (n:(b.toList.map λe=>W2 e.2).Perm ks) :
 (h.update a (Obj.putSet b t')).get? a=some {o with data:=.set b (c+1) t'}/\VG prog w led a ks (h.update a (Obj.putSet b t')):=by
 let f:(h.update a (Obj.putSet b t')).get? a=some {o with data:=.set b (c+1) t'}:=by
  let g:=putSet_of b t' hd;let i:=zR (Obj.putSet b t') j (by rw[g];rfl);rw[g] at i;exact i
 calc{f,_,b,c+1,t',f,hex,U,d,k,hf,l,m,n}
def NM{g:Bool->Sem Unit}(v:∀(b:Bool)(z:ug)(R:Unit->ug->Prop),R .unit z->wpAny (model prog w) A (g b) R E z){o:Obj}{es:uk (Int×qd)}{x:Nat}{t:SetTable}
 (m:s.heap.get? a=some o) (hex:o.ExactSet) (hd:o.data=.set es x t) {c:uk (Int×qd)} {d:SetTable} (f:ElemsOf (strKind prog w) c.toList) (i:c.size<scanBound) (hf:d.fits c.size=true) (n:d.led=led) (p:d.plain=false)
 (q:(c.toList.map λe=>W2 e.2).Perm ks) {j:Bool} {R:uf Bool->ug->Prop} (h:∀h',Heap.SameBut a s.heap h'->VG prog w led a ks h'->R (some true) {s with heap:=h'}) :
 wpAny (model prog w) A (do
  storeSet a c d
  if (!(j)&&d.tooFull)=true then do
      g (relayAll d c (SetTable.grown c.size)).2.2
      storeSet a (relayAll d c (SetTable.grown c.size)).1 (relayAll d c (SetTable.grown c.size)).2.1
      pure (some true)
   else pure (some true)) R E s:=by
 calc qi (wpAny_storeSet_of m hd ?_ (fits_of_scanBound i));let#[g1,y]:=GG (prog:=prog) (w:=w) m hex hd f i hf n (λz=>by rw[p] at z;cases z) q;let r:=zI s.heap a (Obj.putSet c d);split
 .have pm:=relayAll_perm d c (SetTable.grown c.size);let k:=relayAll_fits d c (SetTable.grown c.size);let ld:=Cb d c (SetTable.grown c.size);generalize relayAll d c (SetTable.grown c.size)=Z at pm k ld⊢;let#[l,t3,C]:=Z;dsimp only at pm k ld⊢;let u:l.size=c.size:=by rw[<-zk,pm.length_eq,zk]
  calc qi (v _ _ _ (qi (wpAny_storeSet_of g1 rfl ?_ (fits_of_scanBound (u<|i)))));let#[_,B]:=GG (prog:=prog) (w:=w) (led:=led) (ks:=ks) g1 hex rfl (f.perm pm) (u<|i) k (ld.1.trans n) (λz=>by have:=ld.2 z;rw[p] at this;cases this) ((pm.map _).trans q);exact qv (h _ (r.trans (zI _ a _)) B)
 .exact qv (h _ r y)
def Ou{k:qb}{u:Tok}{Q:Bool->ug->Prop}(hS:VG prog w led a ks s.heap)(r:-ks+1<scanBound)
 (h:∀(b:Bool)(h':Heap),Heap.SameBut a s.heap h'->VG prog w led a (YR ks k) h'->Q b {s with heap:=h'}):wpAny (model prog w) A (setAddHashed a (.str k u) (hashStr w k)) Q E s:=by
 let#[o,es,M,t,B,hex,hd,f,J,hf,g,G,i]:=hS;let n:(strKind prog w).is k (.str k u)=true:=by show Value.isStrOf k (.str k u)=true;simp[Value.isStrOf]
 let v:(Value.str k u).scannable=true:=rfl;let hlen:es.size=-ks:=by rw[<-i.length_eq,qh,zk]
 unfold setAddHashed setAddHashedIn;calc zL (qi (yk B hd hf ?_));dsimp only;rw[byScan_of v J f];simp only[↓reduceIte];unfold setAddByScan;refine qi (qi (xk (qi (wpAny_setScan_of (knd:=strKind prog w) n B hd hf f ?_))))
 cases K:List.findIdx? (λe=>(strKind prog w).is k e.2) es.toList with
 |some j=>
  dsimp only;let#[m,c,_]:=List.findIdx?_eq_some_iff_getElem.mp K;let hm:=zx m;let#[x,p]:=Aq f hm;let d:k∈ks:=i.mem_iff.mp (qj.mpr ⟨_,hm,by
   let l:Value.isStrOf k es.toList[j].2=true:=c;rw[PV p] at l;calc(qL l).symm⟩)
  calc qv (qv ?_);let e:s={s with heap:=s.heap}:=by cases s;rfl
  rw[e];calc h false s.heap (Heap.SameBut.refl a s.heap) {o,es,M,t,B,hex,hd,f,J,hf,g,G,by unfold YR;rw[qE d];calc i}
 |none=>
  dsimp only;let C:¬k∈ks:=λz=>by
   let#[e,he,d]:=qj.mp (i.mem_iff.mpr z);let#[p,l]:=Aq f he;let m:=List.findIdx?_eq_none_iff.mp K e he;let c:Value.isStrOf k e.2=false:=m;rw[PV l,d,qw rfl] at c;cases c
  let c:=layNew_perm t es (hashStr w k) (.str k u);let d:=layNew_fits t es (hashStr w k) (.str k u);let l:=F9 t es (hashStr w k) (.str k u);let H:(YR ks k)=ks++[k]:=by unfold YR;rw[qC C]
  generalize layNew t es (hashStr w k) (.str k u)=Z at c d l⊢;let#[m,t1,N,L]:=Z;dsimp only at c d l⊢;rw[Array.toList_push] at c;let p:ElemsOf (strKind prog w) m.toList:=(f.push (k:=k) n v).perm c;let O:m.size=es.size+1:=by rw[<-zk,c.length_eq,qo,zk];rfl
  let D:m.size<scanBound:=by rw[O,hlen];exact r
  let F:(m.toList.map λe=>W2 e.2).Perm (YR ks k):=by
   rw[H];calc(c.map _).trans ?_;rw[qB];exact i.append_right _
  let P:∀(b:Bool)(z:ug)(R:Unit->ug->Prop),R .unit z->wpAny (model prog w) A (match b with|true=>rule "set.scan.the-table-gave-way"|false=>pure PUnit.unit) R E z:=λb z R q=>by cases b<;>first|exact qv q|exact xk q
  calc qi (P _ _ _ ?_);split
  .refine qi ?_;rw[hashByValue_scannable 8 v];calc qv ?_;refine NM (led:=led) (ks:=YR ks k) ?_ B hex hd p D ?_ ?_ ?_ F ?_
   .intro b z R q;cases b<;>first|exact qv q|exact xk q
   .exact SetTable.fits_plain_off d
   .exact l.trans g
   .rfl
   .intro h' x y;dsimp only;exact qv (h true h' x y)
  .rename_i I
   calc qi (qv ?_);simp only[↓reduceIte];refine NM (led:=led) (ks:=YR ks k) ?_ B hex hd p D d ?_ ?_ F ?_
   .intro b z R q;cases b<;>first|exact qv q|exact xk q
   .exact l.trans g
   .exact wR.mpr I
   .intro h' x y;dsimp only;calc qv (h true h' x y)
def Cp(val:Nat->qb)(i:Nat):qe:=((List.range i).map val).foldl YR []
def Bz(val:Nat->qb)(i:Nat):Cp val (i+1)=YR (Cp val i) (val i):=by
 unfold Cp;rw[List.range_succ,qB,jz];rfl
def Ei(val:Nat->qb):∀i,-(Cp val i)<=i
 |0=>qr _
 |i+1=>by
  rw[Bz];let a:=Ei val i;unfold YR;split
  .omega
  .rw[qo,qW];omega
def GD{R:Result->ug->Prop}{I:qc}{x wr:qa qc}{G:uk GenState->uk GenState->Prop}{n:Nat}{P:Nat->qd->Prop}{St:Nat->ug->Prop}(W:WalksS prog w A.in1 I x wr G n P St)(S:qc)(y:S∉x)
 (val:Nat->qb) (d:∀i v,P i v->∃t,v=.str (val i) t) (c:n+1<scanBound):∀(k i:Nat)(s:ug),n-i=k->i<=n->St i s->VG prog w led S (Cp val i) s.heap ->
   (∀s',Moved (S::wr) G s s'->VG prog w led S (Cp val n) s'.heap->R (.ok (.ret .none)) s')->codeAny (model prog w) A (.builtin "set.update.loop" {[.ref S,.ref I],[]}) R s:=by
 let nw:S∉wr:=λh=>y (W.sub _ h);let sub:∀b∈wr,b∈S::wr:=λb c=>qy _ c;intro k
 induction k with
 |zero=>
  intro i s z hi a hS p;obtain rfl:i=n:=by omega
  calc zW F.entry_set_update_loop ?_;rw[zA gk _];calc qi (m:=pyNext (.ref I)) (W.done s _ _ a λs' f=>?_);calc qv (p s' (f.mono sub) (hS.at λo e=>f.heap S o nw e))
 |succ k B=>
  intro i s z hi a hS p;let lt:i<n:=by omega
  calc zW F.entry_set_update_loop ?_;rw[zA gk _];calc qi (m:=pyNext (.ref I)) (W.item i s _ _ lt a λv s' C g f=>?_);let#[t,U]:=d i v C;let q:=hS.at (h':=s'.heap) λo e=>f.heap S o nw e;calc qi (m:=holding [Value.str (val i) t] (setAdd S (.str (val i) t))) (zL ?_);unfold setAdd;calc zL (qi ((strKind prog w).pyHash (k:=val i) (show Value.isStrOf (val i) (.str (val i) t)=true by simp[Value.isStrOf]) ?_));let room:-(Cp val i)+1<scanBound:=by have:=Ei val i;omega
  calc Ou (s:={s' with toks:=s'.toks+1}) (led:=led) q room λb h' sb j=>?_;rw[<-Bz] at j;refine qv {jj gk _,B (i+1) _ () lt (W.frame _ s' _ _ g (jt _) λb c o e=>?_) j λr u l=>?_}
  .rw[sb.2 b (λh:b=S=>y (by rw[<-h];calc c))];exact e
  .refine p r (Moved.trans W.gtrans ((f.mono sub).then_heap (jt _) λb o c e=>?_) u) l;rw[sb.2 b (λh:b=S=>c (h<|qA))];calc e
def V1(w:ui):Obj:={cls:=.type "set",dict:=none,data:=.set #[] 0 (.fresh 0 0 (!(w.params.followText) "set-order"))}
def MR(v:qd){R:qf}(h:R (.ref (!s)) {s with heap:=s.heap.push (V1 w)}):codeAny (model prog w) A (.call (.builtin "set.__new__") {[.type "set",v],[]}) (wants R E) s:=by
 calc codeAny_of_tree ?_;calc qi (m:=checkBuiltinCall "set.__new__" {[.type "set",v],[]}) (wU (F.newCall_set_1 v) (qv {jj F.plain_set_new _,zW F.entry_set_new ?_}));rw[zA F.plain_set_new _];unfold Builtin.«set.__new__» Builtin.Frozenset.newClass;let sub:=sub_set_self;let#[a,g,d,b,os]:=s;dsimp only
 wp_walk
 calc yx (qv ?_);dsimp only;simp only[newObj];calc qi (wpAny_alloc (qv (qv h)))
def Sa{vs:qg}{ss:qe}(h:StrsAre vs ss):∀(i:Nat)(v:qd),vs[i]?=some v->∃t,v=.str (ss.getD i "") t:=by
 induction h with
 |nil=>intro i v h;simp at h
 |cons x t r a=>
  intro i v h
  cases i with
  |zero=>simp at h;calc{t,by rw[<-h];rfl}
  |succ i=>
   rw[List.getElem?_cons_succ] at h;let#[t',e]:=a i v h;calc{t',by rw[e];rfl}
def Xx:∀{vs:qg}{ss:qe},StrsAre vs ss->-vs=-ss
 |_,_,.nil=>rfl
 |_,_,.cons x t r=>by rw[qU,qU,Xx r]
def FD(ss:qe):(List.range (-ss)).map (λi=>ss.getD i "")=ss:=by
 apply kH
 .rw[qh,zU]
 .intro i b a;rw[kI,xF,qX,ql a];rfl
def eO:VG prog w (!(w.params.followText) "set-order") (!s) [] (s.heap.push (V1 w)):=
 {_,#[],(0),_,qH _ rfl,#[U,U,U],U,(λe he=>by simp at he),∅,by rfl,U,(λ_=>rfl),by simp}
end
section
variable {prog:uh}{w:ui}{A:uj}{E:qf}{s:ug}
def AL:isSubtype (.type "tuple") (.type "set")=pure false:=by rw[kJ];kernel_rfl
def WX:isSubtype (.type "tuple") (.type "frozenset")=pure false:=by rw[kJ];kernel_rfl
set_option maxHeartbeats 3200000 in
def AB{T:String}(S:T="list"\/T="tuple"){l:qc}{fM:uk qd}{ss:qe}{Q:qf}(V:A.handled=none)(X:∃o,s.heap.get? l=some o/\o.cls=.type T/\∃n,o.data=.seq fM n)(hi:StrsAre fM.toList ss)(g:fM.size+1<scanBound)
 (h:∀(h':Heap)(p:Nat),VG prog w (!(w.params.followText) "set-order") (!s) (ss.foldl YR []) h'->(∀b o,b<(!s)->s.heap.get? b=some o->h'.get? b=some o)->Q (.ref (!s)) {s with heap:=h',toks:=p}) :
 wpAny (model prog w) A (call (.type "set") [.ref l]) Q E s:=by
 let#[c,tl,m1]:=yz.mro;let m2:=yz.made;let m3:=yz.sub;let m4:=yz.notType;let m5:=yz.canCreate;let m6:=F.typeCall_set_1 (.ref l);calc wpAny_call (codeAny_of_tree ?_);show wpAny _ _ (callAny (.type "set") _) _ _ _;calc qv {Code.quiet_builtin _ ∅,zW F.entry_type_call ?_};rw[Around.under_plain (weight_type_call_type "set" [.ref l] []) rfl]
 repeat (any_goals (first|assumption|wp_step))
 refine yg (MR (.ref l) (E:=E) (R:=λz q=>z=.ref (!s)/\q={s with heap:=s.heap.push (V1 w)}) #[U,U]) λr D u=>?_
 cases r with
 |error e=>calc u
 |ok Y=>
  cases Y with
  |ret z=>
   let#[U,U]:=u;let q:(s.heap.push (V1 w)).get? (!s)=@(V1 w):=qH _ rfl;let G:Shared.TypeIs {s with heap:=s.heap.push (V1 w)} (.ref (!s)) "set":={_,q,U};let z3:=yz.init.lookup;let z4:=yz.init.bind (.ref (!s))
   repeat (any_goals (first|assumption|wp_step))
   refine yg (codeAny_call_builtin (R:=wants (λr d=>r=.none/\∃h' p,d={s with heap:=h',toks:=p}/\VG prog w (!(w.params.followText) "set-order") (!s) (ss.foldl YR []) h' /\
    (∀b o,b<(!s)->s.heap.get? b=some o->h'.get? b=some o)) E) yz.init.plain F.entry_set_init (check_set_init_1 G ?_)) λj d a=>?_
   .let#[ol,H,I,nl,J]:=X;let#[K,f,x,oslots]:=ol;simp only at I J;subst I;subst J;obtain rfl|rfl:=S
    all_goals
     let L:(s.heap.push (V1 w)).get? l=some {cls:=.type _,dict:=f,data:=.seq fM nl,slots:=oslots}:=qt _ H;let y2:=F.sub_list_set;let y3:=F.sub_list_frozenset;let y6:=AL;let y7:=WX;let M:(Value.type "list"==Value.type "dict")=false/\(Value.type "tuple"==Value.type "dict")=false:=by decide
     let#[M,y8]:=M;let k:∃o,(s.heap.push (V1 w)).get? l=some o/\o.cls=.type _/\∃n,o.data=.seq fM n:={_,L,U,nl,U};unfold Builtin.«set.__init__» noKeywords Builtin.Frozenset.updateFrom;generalize y:pyIter=PI;unfold V1 at q G L k⊢
     wp_walk
     subst y
     first|refine wpAny_pyIter_list k ?_|refine wpAny_pyIter_tuple k ?_
     calc qi (wpAny_runValue ?_);let lt:l<(!s):=qO H;let N:A.in1.in1.in1.handled=none:=by simp[V]
     let ne:l≠(s.heap.push {cls:=.type "set",dict:=none,data:=.set #[] 0 (.fresh 0 0 (!(w.params.followText) "set-order"))}).objs.size:=by
      rw[j8];exact zc (jb lt)
     let O:(!s)∉[(s.heap.push {cls:=.type "set",dict:=none,data:=.set #[] 0 (.fresh 0 0 (!(w.params.followText) "set-order"))}).objs.size,l]:=by
      rw[j8];intro z;obtain z|z:=qx.mp z
      .omega
      .rw[qk.mp z] at lt;exact zQ _ lt
     let P:∀(i:Nat)(v:qd),fM[i]?=some v->∃t,v=.str ((λi=>ss.getD i "") i) t:=λi v e=>Sa hi i v (zv<|e);let es:Cp (λi=>ss.getD i "") fM.size=ss.foldl YR []:=by
      unfold Cp;rw[<-zk,Xx hi,FD]
     first
      |calc GD (led:=!(w.params.followText) "set-order") ((Walks.list N _ l ne fM).toS) (!s) O (λi=>ss.getD i "") P g (fM.size-0) 0 _ () (qR _) {{_,qH _ rfl,7},Heap.IsList.push k _} ?S0 ?R0
      |refine GD (led:=!(w.params.followText) "set-order") ((Walks.tuple N _ l ne fM).toS) (!s) O (λi=>ss.getD i "") P g (fM.size-0) 0 _ () (qR _) {{_,qH _ rfl,7},Heap.IsTuple.push k _} ?S0 ?R0
     case S0=>exact(eO (prog:=prog) (w:=w) (s:=s)).at λo e=>qt _ e
     case R0=>
      intro s' hm m;let#[h',g',d',B,C]:=s';let Z:g'=s.gens:=hm.gens;let ed:d'=s.drawn:=hm.drawn;let eo:C=s.os:=hm.os;subst Z;subst ed;subst eo;rw[es] at m;calc qv (qv {U,h',B,U,m,λb o g e=>?_});calc hm.heap b o (λz=>?_) (qt _ (qt _ e));obtain z|z:=qx.mp z
      .exact absurd z (zc g)
      .have z:=qk.mp z;rw[j8] at z;exact absurd z (zc (jb g))
   .cases j with
    |error e=>calc a
    |ok f=>
     cases f with
     |ret r=>
      let#[U,h',p,U,a1,a2]:=a
      repeat (any_goals (first|assumption|wp_step))
      calc h _ _ a1 a2
     |_=>calc a.elim
  |_=>calc u.elim
end
variable {i:Nat}
def Xo{α:Type}:∀(l:qa α)(i:Nat)(h:i< -l),(l[i]::l.eraseIdx i).Perm l
 |x::l,0,_=>.refl _
 |x::l,i+1,h=>by
  show(l[i]'(jE h)::x::l.eraseIdx i).Perm (x::l);calc(List.Perm.swap x _ _).trans ((Xo l i (jE h)).cons x)
def Lj{α:Type}(next:Nat->Nat):∀(fuel k:Nat)(left:qa α)(out:uk α),-left=fuel->(pickOrder.go next fuel k left out).toList.Perm (out.toList++left)
 |0,k,left,out,h=>by
  obtain rfl:left=[]:=jm.mp h;rw[zS];calc .refl _
 |n+1,k,left,out,h=>by
  let hi:next k%-left< -left:=Nat.mod_lt _ ();unfold pickOrder.go;rw[ql hi];dsimp only;calc(Lj next n (k+1) _ _ (by rw[List.length_eraseIdx_of_lt hi,h];rfl)).trans ?_;rw[Array.toList_push,yc];calc(Xo left _ hi).append_left _
def Kh{α:Type}(next:Nat->Nat)(xs:uk α):(pickOrder next xs).toList.Perm xs.toList:=by
 have:=Lj next xs.size 0 xs.toList #[] (by simp);calc this
def Yl:Slot "set_iterator" "__next__" "set_iterator.__next__":=.of (owner:="set_iterator") (n:="__next__") (by rw[typeLookup_type,builtinLookup_eq_fast];kernel_rfl) ∅ ∅ ∅ (by first|calc .inl ∅|calc .inr ∅) (by rw[kJ];kernel_rfl)
def Vp:entryFor table "set_iterator.__next__"=some Builtin.«set_iterator.__next__»:=entryFor_of_tree (by kernel_rfl)
def VE(a:qd):argsOk "set_iterator.__next__" {[a],[]}:=by unfold argsOk;kernel_rfl
def Ao:entryFor table "set.__iter__"=some Builtin.«frozenset.__iter__»:=entryFor_alias (id':="frozenset.__iter__") (by kernel_rfl) rfl ∅ (by kernel_rfl)
def W5:Slot "set_iterator" "__iter__" "set_iterator.__iter__":=.of (owner:="set_iterator") (n:="__iter__") (by rw[typeLookup_type,builtinLookup_eq_fast];kernel_rfl) ∅ ∅ ∅ (by first|calc .inl ∅|calc .inr ∅) (by rw[kJ];kernel_rfl)
def BY{M:Model}{A:uj}{E:qf}{s:ug}{src:Source}{n:Nat}{Q:Nat->ug->Prop}(a:n≠0)(h:∀i d',i<n->Q i {s with drawn:=d'}):wpAny M A (choose src n) Q E s:=
 λ_ _ _=>{a,h _ _ (Nat.mod_lt _ (Nat.pos_of_ne_zero a))}
def Wd{M:Model}{A:uj}{E:qf}{α:Type}:∀(n:Nat)(xs:qa α)(s:ug)(Q:qa α->ug->Prop),-xs=n->(∀ys d',ys.Perm xs->Q ys {s with drawn:=d'})->wpAny M A (drawOrder n xs) Q E s
 |0,xs,s,Q,a,h=>by
  obtain rfl:xs=[]:=jm.mp a;let e:s={s with drawn:=s.drawn}:=by cases s;rfl
  unfold drawOrder;calc qv ?_;rw[e];calc h [] _ (.refl _)
 |n+1,[],s,Q,a,h=>by cases a
 |n+1,x::xs,s,Q,a,h=>by
  unfold drawOrder;calc qi (BY (by simp) λi d' hi=>?_);let e:(x::xs)[i]?=@(x::xs)[i]:=ql hi;rw[e];dsimp only;calc qi (Wd n ((x::xs).eraseIdx i) _ _ (by rw[List.length_eraseIdx_of_lt hi,a];rfl) λys b c=>qv ?_);calc h _ b ((c.cons _).trans (Xo _ i hi))
def U2(h:Heap)(it a:qc)(first:qd)(i n b:Nat):Prop:=∃o,h.get? it=some o/\o.cls=.type "set_iterator"/\o.data=.fields ([first,.int i 0,.ref a,.int n 0,.int b 0].toArray)
def vQ(h:Heap)(a:qc)(es:uk (Int×qd))(b:Nat)(t:SetTable):Prop:=∃o,h.get? a=some o/\o.cls=.type "set"/\o.data=.set es b t
section
variable {prog:uh}{w:ui}{A:uj}{E:qf}{s:ug}{a it:qc}{es:uk (Int×qd)}{ep:Nat}{t:SetTable}
def U2.typeIs{first:qd}{n:Nat}(h:U2 s.heap it a first i n ep):s.TypeIs (.ref it) "set_iterator":=let ⟨o,e,c,_⟩:=h;#[o,e,c]
def Us(a:qa Nat):Obj:={cls:=.type "tuple",data:=.seq (a.map λ(i:Nat)=>rawInt i).toArray}
def Af{Q:qf}(hS:vQ s.heap a es ep t)(hf:t.fits es.size=true)(hz:es.size<=sizeLine)
 (h0:(!(w.params.followText) "set-order"&&(!(t.plain)&&decide (es.size > 1)))=false->Q (.ref (!s)) {s with heap:=s.heap.push {cls:=.type "set_iterator",data:=.fields ([.int 0 0,.int 0 0,.ref a,.int es.size 0,.int ep 0].toArray)}})
 (h:(!(w.params.followText) "set-order"&&(!(t.plain)&&decide (es.size > 1)))=true->∀b d',b.Perm (List.range es.size)->Q (.ref (s.heap.push (Us b)).objs.size) {s with heap:=(s.heap.push (Us b)).push {cls:=.type "set_iterator",data:=.fields ([.ref (!s),.int 0 0,.ref a,.int es.size 0,.int ep 0].toArray)},drawn:=d'}) :
 wpAny (model prog w) A (pyIter (.ref a)) Q E s:=by
 let#[o,c,hc,hd]:=hS;let d:s.TypeIs (.ref a) "set":=#[o,c,hc];calc wpAny_pyIter_slot d PySem.F.slot_set_iter (zV PySem.F.slot_set_iter d Ao ?_ (PySem.F.args_set_iter_1 _));unfold Builtin.«frozenset.__iter__» Builtin.Frozenset.slot0 slotArgs;simp -iota only[kK,wb,zr,↓reduceIte,bind_assoc,jP,ye];unfold Builtin.Frozenset.addrOf Builtin.Frozenset.sizeOf;refine qi (qv ?_)
 try dsimp only
 calc qi (qv ?_);calc qi (qi (xY c hd hf (qv ?_)));unfold setDrawn setsByText;calc qi (qi (yk c hd hf ?_));calc qi (qi (yx (qv ?_)));calc qv ?_;refine jU (λz=>?_) (λz=>?_)
 rotate_left
 .refine qi (qv ?_);calc qi (wpAny_setEpoch_of c hd hf ?_);unfold newFields;exact qi (zz (qv {0,"set_iterator",_,{_,qH _ rfl,U},Yl.lookup,h0 (wR.mpr z)}))
 calc qi (Wd _ _ _ _ zU λb d' e=>?_);let f:-(b.map λi:Nat=>rawInt i)<=sizeLine:=by rw[qh,e.length_eq,zU];exact hz
 calc qi (wpAny_newTuple ?_ f);calc qi (wpAny_setEpoch_of (s:={s with heap:=s.heap.push (Us b),drawn:=d'}) (qt _ c) hd hf ?_);unfold newFields;calc qi (zz (qv {0,"set_iterator",_,{_,qH _ rfl,U},Yl.lookup,?_}));calc h z b d' e
def Wo{Q:uf qd->ug->Prop}{slot:Nat}(d:U2 s.heap it a (.int slot 0) i es.size ep)(hS:vQ s.heap a es ep t)(hf:t.fits es.size=true)(g:a≠it)(x:qd)(nx:Nat)
 (j:∀(k:uj)(l:qf)(R:uf (qd×Nat)->ug->Prop),R (some (x,nx)) s->wpAny (model prog w) k (setNext a slot i ep) R l s)
 (h:∀h',U2 h' it a (.int nx 0) (i+1) es.size ep->Heap.SameBut it s.heap h'->Q (some x) {s with heap:=h'}):wpAny (model prog w) A (pyNext (.ref it)) Q E s:=by
 let#[p,c,e,b]:=id d;let#[o,m,hc,hd]:=hS;unfold pyNext;calc qi (xn (jn (name:=Str.ofString "__next__") d.typeIs Yl (zV Yl d.typeIs Vp ?_ (VE _))));unfold Builtin.«set_iterator.__next__» slotArgs;simp -iota only[kK,wb,zr,↓reduceIte,bind_assoc,jP,ye];calc qi (qv ?_);calc qi (kL c b ?_);dsimp only;calc qi (xY m hd hf ?_);rw[qC (by simp)];simp only[jS];calc qi (j _ _ _ ?_);dsimp only;calc qi (j9 c b (by simp) ?_);let g1:=zR (Obj.mapFields (·.setIfInBounds 0 (rawInt (nx:Int)))) c (yj (ji b _));let f:=ji b (·.setIfInBounds 0 (rawInt (nx:Int)));calc qi (j9 (s:={s with heap:=s.heap.update it (Obj.mapFields (·.setIfInBounds 0 (rawInt (nx:Int))))}) g1 f (by simp) ?_);let g2:=zR (Obj.mapFields (·.setIfInBounds 1 (rawInt ((i:Int)+1)))) g1 (yj (ji f _));let n:=ji f (·.setIfInBounds 1 (rawInt ((i:Int)+1)));refine qv {0,qv (h _ {_,g2,(vr ..).trans ((vr ..).trans e),?_} ?_)}
 .rw[n];simp[rawInt]
 .exact(zI ..).trans (zI ..)
def VC{Q:uf qd->ug->Prop}{slot:Nat}(f:A.handled=none)(e:U2 s.heap it a (.int slot 0) i es.size ep)(hS:vQ s.heap a es ep t)(hf:t.fits es.size=true)
 (g:∀(j:uj)(k:qf)(R:uf (qd×Nat)->ug->Prop),R none s->wpAny (model prog w) j (setNext a slot i ep) R k s)
 (h:∀h',Heap.ExtBut it s.heap h'->Q none {s with heap:=h'}):wpAny (model prog w) A (pyNext (.ref it)) Q E s:=by
 let#[p,c,l,d]:=id e;let#[o,n,hc,hd]:=hS;unfold pyNext;calc qi (xn (jn (name:=Str.ofString "__next__") e.typeIs Yl (zV Yl e.typeIs Vp ?_ (VE _))));unfold Builtin.«set_iterator.__next__» slotArgs;simp -iota only[kK,wb,zr,↓reduceIte,bind_assoc,jP,ye];calc qi (qv ?_);calc qi (kL c d ?_);dsimp only;calc qi (xY n hd hf ?_);rw[qC (by simp)];simp only[jS];calc qi (g _ _ _ ?_);dsimp only;calc qi (j9 c d (by simp) ?_);calc qi ?_;simp only[newExc,newTuple];calc qi (zz ?_ (by size_fits));calc qi (m:=firstArgMember _ _) (wU (a:=Value.none) (by first|rfl|(simp only[firstArgMember];rfl)) ?_);calc zz ?_ (by size_fits);simp only[raiseNew];calc qi (wpAny_handled ?_);rw[show A.in1.handled=none from f];calc qi (qv (wpAny_throw ?_));calc qi (vG (T:="StopIteration") (b:=true) ⟨_,qH _ rfl,U⟩ isSubtype_stop ?_);calc qv (h _ (((zI ..).extBut.push _).push _))
def Wq{Q:uf qd->ug->Prop}{T:qc}{f:qa Nat}(o:uf Nat)(n:A.handled=none)(g:U2 s.heap it a (.ref T) i es.size ep)(q:s.heap.get? T=@(Us f))(hS:vQ s.heap a es ep t)(hf:t.fits es.size=true)(r:f[i]?=o)
 (h:∀p,o=some p->∃e,es[p]?=some e/\∀h',U2 h' it a (.ref T) (i+1) es.size ep->Heap.SameBut it s.heap h'->Q (some e.2) {s with heap:=h'})
 (h0:o=none->∀h',Heap.ExtBut it s.heap h'->Q none {s with heap:=h'}):wpAny (model prog w) A (pyNext (.ref it)) Q E s:=by
 let#[v,d,j,c]:=id g;let#[x,l,hc,hd]:=hS;unfold pyNext;calc qi (xn (jn (name:=Str.ofString "__next__") g.typeIs Yl (zV Yl g.typeIs Vp ?_ (VE _))));unfold Builtin.«set_iterator.__next__» slotArgs;simp -iota only[kK,wb,zr,↓reduceIte,bind_assoc,jP,ye];calc qi (qv ?_);calc qi (kL d c ?_);dsimp only;calc qi (xY l hd hf ?_);rw[qC (by simp)];simp only[jS];calc qi (wV q rfl ?_);dsimp only;let u:((f.map λ(i:Nat)=>rawInt i).toArray)[i]?=o.map λ(p:Nat)=>rawInt p:=by rw[List.getElem?_toArray,qD,r]
 rw[u]
 cases o with
 |some p=>
  let#[e,he,h]:=h p rfl;rw[j7];dsimp only[rawInt];unfold setNextDrawn;simp only[jS,bind_assoc];calc qi (yk l hd hf ?_);rw[qC (by simp)];rw[he];dsimp only;simp only[pure_bind];calc qi (j9 d c (by simp) ?_);let g1:=zR (Obj.mapFields (·.setIfInBounds 1 (rawInt ((i:Int)+1)))) d (yj (ji c _));let k:=ji c (·.setIfInBounds 1 (rawInt ((i:Int)+1)));calc qv {0,qv (h _ {_,g1,(vr ..).trans j,?_} (zI ..))};rw[k];simp[rawInt]
 |none=>
  let h:=h0 rfl;rw[Option.map_none];calc qi (j9 d c (by simp) ?_);let g1:=zR (Obj.mapFields (·.setIfInBounds 0 (rawInt 0))) d (yj (ji c _));let k:=ji c (·.setIfInBounds 0 (rawInt 0));calc qi (j9 (s:={s with heap:=s.heap.update it (Obj.mapFields (·.setIfInBounds 0 (rawInt 0)))}) g1 k (by simp) ?_);calc qi ?_;simp only[newExc,newTuple];calc qi (zz ?_ (by size_fits));calc qi (m:=firstArgMember _ _) (wU (a:=Value.none) (by first|rfl|(simp only[firstArgMember];rfl)) ?_);calc zz ?_ (by size_fits);simp only[raiseNew];calc qi (wpAny_handled ?_);rw[show A.in1.handled=none from n];calc qi (qv (wpAny_throw ?_));calc qi (vG (T:="StopIteration") (b:=true) ⟨_,qH _ rfl,U⟩ isSubtype_stop ?_);calc qv (h _ ((((zI ..).trans (zI ..)).extBut.push _).push _))
end
section
variable {prog:uh}{w:ui}{A:uj}{E:qf}{s:ug}{a it:qc}{es:uk (Int×qd)}{ep:Nat}{t:SetTable}
def XA{i slot:Nat}{R:uf (qd×Nat)->ug->Prop}(hS:vQ s.heap a es ep t)(hf:t.fits es.size=true)(b:w.params.followText "set-order"=true)
 (h:R (((pickOrder (w.params.setOrder a ep) es)[i]?).map λe=>(e.2,slot)) s):wpAny (model prog w) A (setNext a slot i ep) R E s:=by
 let#[o,c,hc,hd]:=hS;unfold setNext setsByText;calc qi (yk c hd hf ?_);calc qi (qi (yx (qv ?_)));calc jU (λ_=>?_) (λz=>absurd (show w.params.followText "set-order"=true from b) z);rw[qC (by simp)];calc qi ?_;unfold setWalk setsByText;calc qi (yk c hd hf ?_);calc qi (qi (yx (qv ?_)));calc jU (λ_=>?_) (λz=>absurd (show w.params.followText "set-order"=true from b) z);calc qi (yx ?_);calc qv (qv h)
def Wi{i slot:Nat}{R:uf (qd×Nat)->ug->Prop}(hS:vQ s.heap a es ep t)(hf:t.fits es.size=true)(c:w.params.followText "set-order"=false)(d:t.led=true)(hz:es.size<=1)
 (h:R (match es[SetTable.below t.place slot]?,t.place[SetTable.below t.place slot]? with|some (_,x),some j=>some (x,j+1)|_,_=>none) s):wpAny (model prog w) A (setNext a slot i ep) R E s:=by
 let#[o,e,hc,hd]:=hS;unfold setNext setsByText;calc qi (yk e hd hf ?_);calc qi (qi (yx (qv ?_)));calc jU (λz=>absurd (show w.params.followText "set-order"=true from z) (c<|qF)) (λ_=>?_);refine jU (λz=>?_) (λ_=>?_)
 .have b:(!(t.plain)&&decide (es.size > 1))=true:=z;rw[qY] at b;have:=qL b.2;omega
 calc qi ?_;show wpAny _ _ (if (!(t.led)&&!(es.isEmpty))=true then _ else pure PUnit.unit) _ _ s;rw[qC (by rw[d];simp)];calc qv (qv h)
def vQ.at{h h':Heap}(x:vQ h a es ep t)(k:∀o,h.get? a=some o->h'.get? a=some o):vQ h' a es ep t:=let ⟨o,e,r⟩:=x;{o,k o e,r}
def U2.at{h h':Heap}{first:qd}{i n:Nat}(x:U2 h it a first i n ep)(k:∀o,h.get? it=some o->h'.get? it=some o):U2 h' it a first i n ep:=let ⟨o,e,r⟩:=x;{o,k o e,r}
def An:entryFor table "set_iterator.__iter__"=some Builtin.«dict_keyiterator.__iter__»:=entryFor_alias (id':="dict_keyiterator.__iter__") (by kernel_rfl) rfl ∅ (by kernel_rfl)
def AQ(a:qd):argsOk "set_iterator.__iter__" {[a],[]}:=by unfold argsOk;kernel_rfl
def GC{first:qd}{i n:Nat}{Q:qf}(b:U2 s.heap it a first i n ep)(h:Q (.ref it) s):wpAny (model prog w) A (pyIter (.ref it)) Q E s:=by
 calc wpAny_pyIter_slot b.typeIs W5 (zV W5 b.typeIs An ?_ (AQ _));show wpAny _ _ (ret (.ref it)) _ _ s;calc qv {0,"set_iterator",_,b.typeIs,Yl.lookup,h}
def E9(c:w.params.followText "set-order"=true)(hf:t.fits es.size=true)(l:A.handled=none)(d:a≠it) :
 Walks prog w A it [it,a] [it] es.size (λi v=>((pickOrder (w.params.setOrder a ep) es).toList.map (·.2))[i]?=some v) (λi h=>U2 h it a (.int 0 0) i es.size ep/\vQ h a es ep t) where
 sub:=λb c=>by simp at c;simp[c]
 frame:=λ_ _ _ st j=>{st.1.at λo e=>j it (by simp) o e,st.2.at λo e=>j a (by simp) o e}
 item:=λi s Q E hi st f=>by
  let m:(pickOrder (w.params.setOrder a ep) es).size=es.size:=by have:=(Kh (w.params.setOrder a ep) es).length_eq;simpa using this
  let k:(pickOrder (w.params.setOrder a ep) es)[i]?=@((pickOrder (w.params.setOrder a ep) es)[i]'()):=z7 ();calc Wo (slot:=0) (nx:=0) st.1 st.2 hf d _ (λn p R r=>XA st.2 hf c (k<|r)) λh' g sb=>?_;calc f _ h' s.toks ?_ {g,st.2.at λo e=>(sb.2 a d).trans e} λb o c e=>(sb.2 b (λz=>c (by simp[z]))).trans e;rw[qD,zv,k];rfl
 done:=λs Q E st f=>by
  let m:(pickOrder (w.params.setOrder a ep) es).size=es.size:=by have:=(Kh (w.params.setOrder a ep) es).length_eq;simpa using this
  refine VC (slot:=0) l st.1 st.2 hf (λn p R r=>XA st.2 hf c (jF ()<|r)) λh' g=>f h' s.toks λb o c e=>g b o (λz=>c (by simp[z])) e
 self:=λ_ _ _ _ st f=>GC st.1 f
def E3(j:Nat):SetTable.below ([j].toArray) 0=0:=by
 unfold SetTable.below;simp[SetTable.below.go]
def EZ(j:Nat):SetTable.below ([j].toArray) (j+1)=1:=by
 unfold SetTable.below;simp[SetTable.below.go]
def LQ(es:uk (Int×qd))(pl:uk Nat)(a:es.size=1)(b:pl.size=es.size):∃e j,es=([e].toArray)/\pl=([j].toArray):=by
 let#[l]:=es;let#[m]:=pl;simp only[qM] at a b;let#[e,U]:=zF.mp a;let#[j,U]:=zF.mp (b.trans a);exact#[e,j,U,U]
def Mc(c:w.params.followText "set-order"=false)(hf:t.fits es.size=true)(n:t.led=true)(hz:es.size<=1)(x:A.handled=none)(f:a≠it) :
 Walks prog w A it [it,a] [it] es.size (λi v=>(es.toList.map (·.2))[i]?=some v) (λi h=>U2 h it a (.int ((if i=0 then 0 else t.place.getD 0 0+1:Nat):Int) 0) i es.size ep/\vQ h a es ep t) where
 sub:=λb c=>by simp at c;simp[c]
 frame:=λ_ _ _ st y=>{st.1.at λo e=>y it (by simp) o e,st.2.at λo e=>y a (by simp) o e}
 item:=λi s Q E hi st d=>by
  let l:es.size=1:=by omega
  let h0:i=0:=by omega
  subst h0;let p:t.place.size=es.size:=by unfold SetTable.fits at hf;rw[qY] at hf;exact eq_of_beq hf.1
  let#[e,j,m,g]:=LQ es t.place l p;calc Wo (slot:=0) (nx:=j+1) st.1 st.2 hf f e.2 (λB C R r=>Wi st.2 hf c n hz (g<|E3<|m<|r)) λh' k sb=>?_;calc d _ h' s.toks (by rw[m];rfl) {?_,st.2.at λo e=>(sb.2 a f).trans e} λb o c e=>(sb.2 b (λz=>c (by simp[z]))).trans e;let q:(if 0+1=0 then 0 else t.place.getD 0 0+1:Nat)=j+1:=by rw[g];rfl
  rw[q];exact k
 done:=λs Q E st d=>by
  by_cases l:es.size=1
  .have p:t.place.size=es.size:=by unfold SetTable.fits at hf;rw[qY] at hf;exact eq_of_beq hf.1
   let#[e,j,m,g]:=LQ es t.place l p;let q:(if es.size=0 then 0 else t.place.getD 0 0+1:Nat)=j+1:=by rw[l,g];rfl
   let k:=st.1;rw[q] at k;refine VC (slot:=j+1) x k st.2 hf (λB C R r=>Wi st.2 hf c n hz (g<|EZ<|m<|r)) λh' u=>d h' s.toks λb o c e=>u b o (λz=>c (by simp[z])) e
  .refine VC x st.1 st.2 hf (λB C R r=>Wi st.2 hf c n hz (jF ()<|r)) λh' u=>d h' s.toks λb o c e=>u b o (λz=>c (by simp[z])) e
 self:=λ_ _ _ _ st d=>GC st.1 d
def CK{T:qc}{c:qa Nat}(d:c.Perm (List.range es.size))(hf:t.fits es.size=true)(q:A.handled=none)(j:a≠it)(k:T≠it) :
 Walks prog w A it [it,a,T] [it] es.size (λi v=>((c.map λp=>es.toList.getD p (0,.none)).map (·.2))[i]?=some v) (λi h=>U2 h it a (.ref T) i es.size ep/\vQ h a es ep t/\h.get? T=@(Us c)) where
 sub:=λb f=>by simp at f;simp[f]
 frame:=λ_ _ _ st l=>{st.1.at λo e=>l it (by simp) o e,st.2.1.at λo e=>l a (by simp) o e,l T (by simp) _ st.2.2}
 item:=λi s Q E hi st g=>by
  let u:-c=es.size:=by rw[d.length_eq,zU]
  let r:c[i]?=@(c[i]'()):=ql ();let m:c[i]'()<es.size:=jV.mp (d.mem_iff.mp (zx ()));let x:es[c[i]'()]?=@(es.toList.getD (c[i]'()) (0,.none)):=by
   rw[qX,zv,z7 m];rfl
  calc Wq (some _) q st.1 st.2.2 st.2.1 hf r (λp ep=>{es.toList.getD (c[i]'()) (0,.none),(by cases ep;calc x),λh' n sb=>?_}) λz=>nomatch z;calc g _ h' s.toks ?_ {n,st.2.1.at λo e=>(sb.2 a j).trans e,(sb.2 T k).trans st.2.2} λb o f e=>(sb.2 b (λz=>f (by simp[z]))).trans e;rw[qD,qD,r];rfl
 done:=λs Q E st g=>by
  let u:-c=es.size:=by rw[d.length_eq,zU]
  refine Wq none q st.1 st.2.2 st.2.1 hf (yb ()) nofun λ_ h' m=>g h' s.toks λb o f e=>m b o (λz=>f (by simp[z])) e
 self:=λ_ _ _ _ st g=>GC st.1 g
def V0:∀{l:qa (Int×qd)},ElemsOf (strKind prog w) l->StrsAre (l.map (·.2)) (l.map λe=>W2 e.2)
 |[],_=>.nil
 |e::l,h=>by
  let#[t,q]:=Aq h (qA ..);let a:=V0 (l:=l) λe he=>h e (qy _ he);show StrsAre (e.2::l.map (·.2)) (W2 e.2::l.map λe=>W2 e.2);rw[q];calc .cons _ _ a
def FC{α:Type}(l:qa α)(d:α):(List.range (-l)).map (λi=>l.getD i d)=l:=by
 apply kH
 .rw[qh,zU]
 .intro i b a;rw[kI,xF,qX,ql a];rfl
def Ci(h:Heap)(o:Obj):h.objs.size<(h.push o).objs.size:=by rw[j8];calc kA _
def M6{ks:qe}{Q:qf}(hS:VG prog w (!(w.params.followText) "set-order") a ks s.heap)
 (h:∀(I:qc)(h':Heap)(d':Drawn)(C:qa qc)(vs:qg)(ss:qe)(St:Nat->Heap->Prop),(∀b o,s.heap.get? b=some o->h'.get? b=some o)->(!s)<=I->I<h'.objs.size->(∀b∈C,b=a\/(!s)<=b) ->
   StrsAre vs ss->ss.Perm ks->(∀m:uj,m.handled=none->Walks prog w m I C [I] (-vs) (λi v=>vs[i]?=some v) St)->St 0 h'->Q (.ref I) {s with heap:=h',drawn:=d'}) :
 wpAny (model prog w) A (pyIter (.ref a)) Q E s:=by
 let#[o,es,ep,t,D,hex,hd,g,c,hf,n,y,j]:=hS;let hS:vQ s.heap a es ep t:=#[o,D,hex.1,hd];let lt:a<(!s):=qO D;let ne:a≠(!s):=zc lt;let q:∀b∈[(!s),a],b=a\/(!s)<=b:=λb c=>by
  obtain e|c:=qx.mp c
  .exact .inr ()
  .exact .inl (qk.mp c)
 by_cases k:w.params.followText "set-order"=true
 .have pp:=Kh (w.params.setOrder a ep) es;let r:-((pickOrder (w.params.setOrder a ep) es).toList.map (·.2))=es.size:=by rw[qh,pp.length_eq,zk]
  refine Af hS hf (jQ (qV c ∅)) (λ_=>?_) λz=>by rw[k] at z;cases z
  refine h (!s) _ s.drawn [(!s),a] ((pickOrder (w.params.setOrder a ep) es).toList.map (·.2)) ((pickOrder (w.params.setOrder a ep) es).toList.map λe=>W2 e.2) (λi h=>U2 h (!s) a (.int 0 0) i es.size ep/\vQ h a es ep t) (λb o e=>qt _ e) (qr _) (Ci _ _) q
   (V0 (g.perm pp)) ((pp.map _).trans j) (λm d=>r<|E9 k hf d ne) {{_,qH _ rfl,7},hS.at λo e=>qt _ e}
 .have l:w.params.followText "set-order"=false:=wR.mpr k;by_cases hz:es.size<=1
  .have r:-(es.toList.map (·.2))=es.size:=by rw[qh,zk]
   refine Af hS hf (jQ (qV c ∅)) (λ_=>?_) λz=>by rw[qK (show ¬es.size > 1 by omega),vE,vE] at z;cases z
   refine h (!s) _ s.drawn [(!s),a] (es.toList.map (·.2)) (es.toList.map λe=>W2 e.2) (λi h=>U2 h (!s) a (.int ((if i=0 then 0 else t.place.getD 0 0+1:Nat):Int) 0) i es.size ep/\vQ h a es ep t) (λb o e=>qt _ e) (qr _) (Ci _ _) q
    (V0 g) j (λm d=>r<|Mc l hf (by rw[n,l];rfl) hz d ne) {{_,qH _ rfl,7},hS.at λo e=>qt _ e}
  .have F:t.plain=false:=by
    cases e:t.plain with
    |false=>rfl
    |true=>have:=y e;omega
   calc Af hS hf (jQ (qV c ∅)) (λz=>by rw[l,F,qw (show es.size > 1 by omega)] at z;cases z) λ_ f d' u=>?_;let pp:(f.map λp=>es.toList.getD p (0,Value.none)).Perm es.toList:=by
    let x:=u.map (λp=>es.toList.getD p (0,Value.none));let B:=FC es.toList (0,Value.none);rw[zk] at B;rw[B] at x;exact x
   let r:-((f.map λp=>es.toList.getD p (0,Value.none)).map (·.2))=es.size:=by rw[qh,pp.length_eq,zk]
   let x:(s.heap.push (Us f)).objs.size=(!s)+1:=j8 ..;let B:a≠(s.heap.push (Us f)).objs.size:=by rw[x];exact zc (jb lt)
   let neT:(!s)≠(s.heap.push (Us f)).objs.size:=by rw[x];omega
   refine h (s.heap.push (Us f)).objs.size _ d' [(s.heap.push (Us f)).objs.size,a,(!s)] ((f.map λp=>es.toList.getD p (0,Value.none)).map (·.2)) ((f.map λp=>es.toList.getD p (0,Value.none)).map λe=>W2 e.2) (λi h=>U2 h (s.heap.push (Us f)).objs.size a (.ref (!s)) i es.size ep/\vQ h a es ep t/\h.get? (!s)=@(Us f))
    (λb o e=>qt _ (qt _ e)) (by rw[x];omega) (Ci _ _) (λb c=>?_)
    (V0 (g.perm pp)) ((pp.map _).trans j) (λm d=>r<|CK u hf d B neT) {{_,qH _ rfl,7},hS.at λo e=>qt _ (qt _ e),qt _ (qH _ rfl)}
   obtain e|c:=qx.mp c
   .exact .inr (by rw[e,x];omega)
   .rcases qx.mp c with e|c
    .exact .inl e
    .exact .inr (qk.mp c<|qr _)
end
section
variable {prog:uh}{w:ui}{A:uj}{E:qf}{s:ug}
def P5{r:qc}{Q:Bool->ug->Prop}(d:s.TypeIs (.ref r) "set")(h:Q false s):wpAny (model prog w) A (Builtin.List.listLengthHint (.ref r)) Q E s:=by
 unfold Builtin.List.listLengthHint;calc qi (wpAny_specialOf d PySem.F.slot_set_len.lookup ?_);generalize c:("set.__len__":String)=e
 wp_delta
 rw[show splitId e=some ("set","__len__") from by subst c;decide +kernel];subst c;calc qi (vG (T:="set") (b:=true) d (by rw[kJ];kernel_rfl) ?_);calc jU (λa=>absurd a ∅) (λ_=>?_);calc jU (λ_=>?_) (λa=>absurd ∅ a);calc qi (vT d ?_);calc qv h
def VG.typeIs{prog:uh}{w:ui}{s:ug}{led:Bool}{a:qc}{ks:qe}(x:VG prog w led a ks s.heap):s.TypeIs (.ref a) "set":=by let#[o,_,_,_,e,hex,_]:=x;exact#[o,e,hex.1]
def VG.lt{prog:uh}{w:ui}{led:Bool}{a:qc}{ks:qe}{h:Heap}(x:VG prog w led a ks h):a<h.objs.size:=by let#[o,_,_,_,e,_]:=x;calc qO e
def PR{acc:uk qd}{vs:qg}(h:ItemsOf (λi v=>vs[i]?=some v) acc (-vs)):acc.toList=vs:=by
 let a:acc.size=-vs:=h.1;apply List.ext_getElem?;intro i;by_cases hi:i<acc.size
 .rw[zv,z7 hi];exact(h.2 i _ (z7 hi)).symm
 .rw[yb (by rw[zk];omega),yb ()]
def Ht{R:Result->ug->Prop}{r:qc}{ks:qe}(C:A.handled=none)(hok:VG prog w (!(w.params.followText) "set-order") r ks s.heap)(S:qc)(k:S≠r)(res:qd)(c₀:Nat)(hS:s.heap.get? S=some {cls:=.type "list",data:=.seq #[] c₀})(v:-ks<=sizeLine)
 (D:∀h' t d' c j ss,(∀b o,b≠S->s.heap.get? b=some o->h'.get? b=some o)->h'.get? S=some {cls:=.type "list",dict:=none,data:=.seq c j,slots:=#[]}->StrsAre c.toList ss->ss.Perm ks->R (.ok (.ret res)) {s with heap:=h',toks:=t,drawn:=d'}) :
 wpAny (model prog w) A.in1 (Builtin.List.listExtendWith (.ref S) (.ref r) res)
  (λfin s'=>match fin with|.done f=>R (.ok f) s'|.again j=>j.quiet=true/\codeAny (model prog w) A j R s') (λe s'=>R (.error e) s') s:=by
 let x:=qO hS;unfold Builtin.List.listExtendWith;calc qi (vT (T:="set") hok.typeIs ?_);let u:Builtin.List.listSameRef (.ref S) (.ref r)=false:=by simp[Builtin.List.listSameRef,k]
 simp only[u,show(Value.type "set"==Value.type "list")=false by decide,show(Value.type "set"==Value.type "tuple")=false by decide,Bool.or_false,zr,jx];calc qi (M6 hok λI u d' E vs ss St keep y ltI B l m W st=>?_);let n:S∉E:=λz=>by
  obtain e|e:=B S z
  .exact k e
  .exact zQ _ (qV x e)
 let hlen:-vs<=sizeLine:=by rw[Xx l,m.length_eq];exact v
 let key:∀(h:Heap)(c₁ t:Nat),St 0 h->(∀b o,b≠S->s.heap.get? b=some o->h.get? b=some o)->h.get? S=some {cls:=.type "list",data:=.seq #[] c₁} ->
  codeAny (model prog w) A (.builtin "list.extend.loop" {[.ref S,.ref I,res],[]}) R {s with heap:=h,toks:=t,drawn:=d'}:=by
  intro h c₁ t i F a;calc codeAny_extend_loopS (W A.in1 C).toS hlen S n res (-vs) 0 _ #[] c₁ rfl (qR _) i a (ItemsOf.nil _) λs' c j hm q p=>?_;rw[Moved.eq_with hm];calc D s'.heap s'.toks d' c j ss (λb o g e=>hm.heap b o (λd=>?_) (F b o g e)) q (PR p<|l) m;obtain G|d:=qx.mp d
  .exact g G
  .exact absurd (qO e) (qk.mp d<|Nat.not_lt.mpr y)
 let a:=keep _ _ hS;let p:=hok.at (h':=u) λo e=>keep _ _ e;calc qi (zL (P5 (s:={s with heap:=u,drawn:=d'}) p.typeIs ?_));calc jU (λ_=>?_) (λ_=>qv {jj PySem.F.plain_extend_loop _,key _ c₀ _ st (λb o _ e=>keep _ _ e) a});calc qi (xk ?_);calc qi ?_;show wpAny _ _ (updateSeq S (·.push .none)>>=λ_=>updateSeq S (·.pop)) _ _ _;calc qi (yO a rfl ?_);let d:=zR (Obj.mapSeq (·.push Value.none)) a rfl;calc yO (hz:=by seq_fits) d rfl ?_;let i:=zR (Obj.mapSeq (·.pop)) d rfl;refine qv {jj PySem.F.plain_extend_loop _,key _ _ _ ?_ (λb o g e=>?_) i}
 .refine(W A.in1 C).frame 0 _ _ st λb g o e=>?_;let q:b≠S:=λh=>n (h▸g);exact(zO _ _ (jD q)).trans ((zO _ _ (jD q)).trans e)
 .exact(zO _ _ (jD g)).trans ((zO _ _ (jD g)).trans (keep _ _ e))
def ET{r:qc}{ks:qe}{R:qg->ug->Prop}(calm:A.handled=none)(ok:VG prog w (!(w.params.followText) "set-order") r ks s.heap)(d:-ks<=sizeLine)
 (fin:∀(g:Heap)(k:Nat)(d':Drawn)(got:qg)(ss:qe),(∀b o,s.heap.get? b=some o->g.get? b=some o)->(!s)<g.objs.size->StrsAre got ss->ss.Perm ks->R got {s with heap:=g,toks:=k,drawn:=d'}) :
 wpAny (model prog w) A (collect (.ref r)) R E s:=by
 let i:=ok.lt
 refine let new:Obj:={cls:=.type "list",data:=.seq ([]:qg).toArray};?_
 let there:(s.heap.push new).get? (!s)=some new:=qH _ rfl;let a:=ok.at (h':=s.heap.push new) λo e=>qt (h:=s.heap) new e;let walked:=Ht (A:=A) (s:={s with heap:=s.heap.push new})
  (R:=λq t=>∃(g:Heap)(k:Nat)(d':Drawn)(got:uk qd)(c:Nat)(ss:qe),q=Except.ok (Flow.ret (.ref (!s)))/\t={s with heap:=g,toks:=k,drawn:=d'}/\(∀b o,s.heap.get? b=some o->g.get? b=some o) /\
    g.get? (!s)=some {cls:=.type "list",dict:=none,data:=.seq got c,slots:=#[]}/\StrsAre got.toList ss/\ss.Perm ks)
  calm a (!s) (yG i) (.ref (!s)) 0 there d
  (λg k d' got c ss keep at' all pm=>{g,k,d',got,c,ss,7,λb o e=>keep b o (zc (qO e)) (qt _ e),at',all,pm})
 let done:∀(g:Heap)(k:Nat)(d':Drawn)(got:uk qd)(c:Nat)(ss:qe),(∀b o,s.heap.get? b=some o->g.get? b=some o)->g.get? (!s)=some {cls:=.type "list",dict:=none,data:=.seq got c,slots:=#[]}->StrsAre got.toList ss->ss.Perm ks ->
  wpAny (model prog w) A (do match (<-load (!s)).data with
   |.seq xs _=>pure xs.toList
   |_=>unsupported "internal:collect") R E {s with heap:=g,toks:=k,drawn:=d'}:=λg k d' got c ss keep at' all pm=>
  qi (wpAny_load at' (qv (fin g k d' got.toList ss keep (qO at') all pm)))
 unfold collect;apply qi;apply wpAny_runValue;apply zW entry_proto_collect';rw[zA F.plain_proto_collect _];show wpAny _ A.in1 (newList []>>=λz=>again (.builtin "list.__iadd__" {[z,.ref r],[]})) _ _ s;apply qi;calc zz ?_;apply qv;erw[jj vp _,?_];apply zW entry_list_iadd';rw[zA vp _];refine jy walked (λf t q=>?_) (λe t q=>?_)
 .cases f with
  |done f=>
   let#[g,k,d',got,c,ss,e,U,keep,at',all,pm]:=q;cases e;calc done g k d' got c ss keep at' all pm
  |again j=>
   erw[q.1,yg q.2 λz l y=>?_];let#[g,k,d',got,c,ss,U,U,keep,at',all,pm]:=y;exact done g k d' got c ss keep at' all pm
 .let#[_,_,_,_,_,_,j,_]:=q;cases j
end
variable {X:Cx}
def Inv.drew{fL:qa (qc×Obj)}{Z:St}{H:Hp}{s:ug}(I:Inv X fL Z H s)(d:Drawn):Inv X fL Z H {s with drawn:=d}:=
 #[I.ok,I.os,I.bare,I.base,I.loc,I.cell,I.free,I.yt,I.pin,I.hok,I.len]
def UR(P:uh)(w:ui)(a:qc)(ks:qe):HO:=.ext λh=>VG P w (!(w.params.followText) "set-order") a ks h
def IY{P:uh}{w:ui}{a:qc}{ks:qe}{H:Hp}{h:Heap}(x:VG P w (!(w.params.followText) "set-order") a ks h):QU P w H h a (UR P w a ks):=
 {x,by let#[o,_,_,_,e,_]:=x;exact#[o,e],λ_ _ y k=>y.at k}
def RB(hc:X.calm=true):Uk X (.type "set") (λxs H Q=>∃(p:qc)(ss:qe),xs=[.ref p]/\zm X.K H p (~~~ss)/\-ss<=1000/\∀l,H l=none->Q (.ref l) (upd H l (UR X.prog X.w l (ss.foldl YR [])))):=by
 intro fL s Z H xs us Q I r h;let#[p,ss,U,hS,g,q]:=h;let#[u,U,e]:=UG r;cases e;let#[its,c,pl,_]:=I.list hS;let a:=UN c;let hlen:-its=-ss:=by have:=-c;rw[qh] at this;exact this.symm
 calc AB (.inl rfl) (ss:=ss) (I.ok.hd hc) pl.isList (by simpa using a) (by rw[qM];show _<4096;omega) λh' f a1 a2=>?_;calc{.ref (!s),_,I.laid (t':=f) (λb u d=>a2 b u (qO d) d) (qr _) (IY a1),U,q _ (I.hok.fresh (qr _))}
def Ut(hc:X.calm=true):Uk X (.builtin "sorted") (λxs H Q=>∃p ks,xs=[.ref p]/\H p=@(UR X.prog X.w p ks)/\-ks<64/\∀l,H l=none->Q (.ref l) (upd H l (.lst ((QH ks).map V.str)))):=by
 intro fL s Z H xs us Q I r h;let#[p,ks,U,w,K,q]:=h;let#[u,U,x]:=UG r;cases x;let#[hS,_,_]:=(show QU X.prog X.w H s.heap p (UR X.prog X.w p ks) from I.hok p _ w);let y:X.A.in1.handled=none:=I.ok.hd hc;calc yC kind_sorted gV gW (args_sorted1 _) ?_;unfold Builtin.«sorted»;calc qi (m:=checkCount "sorted" 1 1 _) (qv ?_);calc qi (ET (A:=X.A.in1) y hS (QT ()) λh' z d' acc ss B j a f=>?_);let k:-acc=-ss:=Xx a;let C:-ss=-ks:=f.length_eq;calc qi (yI ?_ (k<|QT ()));let c:(h'.push (seqObj "list" acc.toArray 0)).get? h'.objs.size=@(seqObj "list" acc.toArray 0):=qH _ rfl;calc qi (zL (zV vO {_,c,U} vq (list_sort_treeK strKind_oneLt c a.keysOf (λt v rest e=>keyKind_strs (by rw[<-e];calc a)) () λd a1 a2=>{0,?_}) (args_list_sort _)));calc qv {0,?_};let#[n,D,E,F]:=sorted_out_str a a1 a2;let#[e,he]:=sortedHeap_at (out:=(arrOf d).map (·.2)) c;let o:n=QH ks:=(UT E (Ft F)).trans (UB f);subst o;let hsz:(!s)<=h'.objs.size:=jQ j;let old:∀b u,s.heap.get? b=some u->(sortedHeap (h'.push (seqObj "list" acc.toArray 0)) h'.objs.size acc ((arrOf d).map (·.2))).get? b=some u:=λb u G=>by
  let g:=B b u G;let i:=qO g;rw[sortedHeap_old (zc i) (size_push'<|jb i)];exact qt _ g
 let J:=I.laid (t':=z) old hsz (show QU X.prog X.w (upd H h'.objs.size (.lst ((QH ks).map V.str))) _ _ (.lst ((QH ks).map V.str)) from{qh<|Yq<|QT (),((arrOf d).map (·.2)).toList,e,VX D,jT<|he});calc{.ref h'.objs.size,_,J.drew d',U,q _ (I.hok.fresh hsz)}
def EV{X:Cx}(hc:X.calm=true):Uk X (.type "set") (λxs H Q=>∃(p:qc)(ss:qe),xs=[.ref p]/\z5 X.K H p (~~~ss)/\-ss<=1000/\∀l,H l=none->Q (.ref l) (upd H l (UR X.prog X.w l (ss.foldl YR [])))):=by
 intro fL s Z H xs us Q I r h;let#[p,ss,U,hS,g,q]:=h;let#[u,U,e]:=UG r;cases e;let#[its,c,pl,_]:=I.tuple hS;let a:=UN c;let hlen:-its=-ss:=by have:=-c;rw[qh] at this;exact this.symm
 calc AB (.inr rfl) (ss:=ss) (I.ok.hd hc) pl (by simpa using a) (by rw[qM];show _<4096;omega) λh' f a1 a2=>?_;calc{.ref (!s),_,I.laid (t':=f) (λb u d=>a2 b u (qO d) d) (qr _) (IY a1),U,q _ (I.hok.fresh (qr _))}
def dd(ss:qe):qe:=ss.foldl YR []
def LZ:∀(ss acc:qe){x:qb},x∈ss.foldl YR acc↔x∈acc\/x∈ss
 |[],acc,x=>by simp
 |y::ss,acc,x=>by
  rw[zD,LZ ss (YR acc y),K9,qx,or_assoc]
def Rv:∀(ss acc:qe),acc.Nodup->(ss.foldl YR acc).Nodup
 |[],_,h=>h
 |y::ss,acc,h=>Rv ss (YR acc y) (CH h)
def Cq{ss:qe}{x:qb}:x∈dd ss↔x∈ss:=by unfold dd;rw[LZ];simp
def L1(ss:qe):(dd ss).Nodup:=Rv ss [] zH
def Tx(ss acc:qe):-(ss.foldl YR acc)<=-acc+-ss:=by
 induction ss generalizing acc with
 |nil=>calc qr _
 |cons y ss a=>
  have:-(YR acc y)<=-acc+1:=by unfold YR;split<;>simp
  let e:-acc+-(y::ss)=-acc+1+-ss:=by rw[qU,Nat.add_assoc,Nat.add_comm 1]
  rw[e];calc qQ (a _) (Nat.add_le_add_right this _)
def Av(ss:qe):-(dd ss)<=-ss:=by have:=Tx ss [];simpa[dd] using this
def SS(ss:qe):qe:=QH (dd ss)
def Kj{ss:qe}{x:qb}:x∈SS ss↔x∈ss:=Uc.trans Cq
def RM(ss:qe):-(SS ss)<=-ss:=by unfold SS;rw[Yq];calc Av ss
def WD{a b:qe}(h:∀x,x∈a↔x∈b):SS a=SS b:=UB ((jJ (L1 a) (L1 b)).mpr λx=>Cq.trans ((h x).trans Cq.symm))
def RL(ss:qe):(SS ss).Nodup:=(Uv _).nodup_iff.mpr (L1 ss)
def BV{l:qe}(a:l.Nodup):SS l=QH l:=UB ((jJ (L1 l) a).mpr λx=>Cq)
def TM{l:qe}(a:vC l)(b:l.Nodup):SS l=l:=by rw[BV b];calc(UT (.refl l) a).symm
def TN(l:qe):SS (SS l)=SS l:=WD λ_=>Kj
def Nv(l:qe)(p:qb->Bool):SS ((SS l).filter p)=(SS l).filter p:=TM ((WJ _).filter _) ((RL l).filter _)
def Vz{X:Cx}(hc:X.calm=true):Uk X (.type "set") (λxs H Q=>∃(p:qc)(ss:qe),xs=[.ref p]/\(zm X.K H p (~~~ss)\/z5 X.K H p (~~~ss))/\-ss<=1000/\∀l,H l=none->Q (.ref l) (upd H l (UR X.prog X.w l (dd ss)))):=by
 intro fL s Z H xs us Q I r h;obtain⟨p,ss,e,hS|hS,a,q⟩:=h
 .exact RB hc fL s Z H xs us Q I r #[p,ss,e,hS,a,q]
 .exact EV hc fL s Z H xs us Q I r #[p,ss,e,hS,a,q]
inductive Ex(R:(It->Hp->Prop))(x:V)(H1:Hp):Prop
 |mk:∀a fN,x=.ref a->((∃oa,H1 a=some (.jM oa (.dK fN))/\R (uP a oa fN) H1)\/(H1 a=some (.dK fN)/\∀oa,R (uP a oa fN) (upd H1 a (.jM oa (.dK fN)))))->Ex R x H1
def b4(a:TE):TI:=λZ H R=>a Z H λx H1=>Ex R x H1
def GN{X:Cx}{n l:Expr}{k:TE}(p:PE X l k):PI X n l (b4 k):=by
 intro fL s Z H R I h;calc jf (p fL s Z H _ I h) λv s1 #[x,H1,m,r,t]=>?_;let#[a,d,e,q]:=t;subst e;cases r;obtain⟨c,f,i,g,u⟩:∃(c:Obj)(f:Hp),Inv X fL Z f s1/\f a=some (.jM c (.dK d))/\R (uP a c d) f:=by
  obtain⟨c,g,q⟩|⟨g,q⟩:=q
  .exact#[c,H1,m,g,q]
  .let#[c,J]:=m.freeze g;exact{c,_,J,Qd,q c}
 let#[j,vs,es,w,y,hd,hm]:=Vx i.hok g;let z:=KV.length y;calc wpAny_pyIter_dict j hm {(!s1),[(!s1)],9,f,U,i.kept (t':=s1.toks) λb o e=>qt _ e,AY a _ c d es w hd,{_,qH _ rfl,U,by rw[z];rfl},λb A=>?_,u};obtain rfl:b=(!s1):=by simpa using A
 calc i.vz (qr _) (i.hok.fresh (qr _))
def Ye{K:Frag}{a:qc}{α:Type}{xs:qa α}{fr:qa (Nat×qb)}{tt:TT}{r:TE}{Z:St}{H1:Hp}{Q:VK}(g:α->V)(pr:α->Bool)(f:α->V)(hz:-xs<=sizeLine)(hS:zm K H1 a (xs.map g))
 (n:∀(x:α)(c:Hp)(Q':Bool->Hp->Prop),x∈xs->Qi H1 c->(∀j,Qi c j->Q' (pr x) j)->tt (@(g x)::xb Z fr) c Q')
 (o:∀(x:α)(c:Hp)(Q':VK),x∈xs->Qi H1 c->pr x=true->(∀j,Qi c j->Q' (f x) j)->r (@(g x)::xb Z fr) c Q')
 (u:∀D d,H1 D=none->Qi H1 d->d D=@(.lst ((xs.filter pr).map f))->Q (.ref D) d) :
 Yy (gv K a) fr tt r Z H1 Q:=by
 intro D p;erw[λi m ys d=>m=-xs-i/\i<=-xs/\ys=((xs.take i).filter pr).map f/\Qi H1 d/\d D=@(.lst ys),{-xs,by simp,qR _,by simp,Qi.zg p,Qd},?_];rintro i m ys d ⟨rfl,hi,rfl,s2,k⟩;erw[k,?_];let h:=s2.seq hS;by_cases b:i< -xs
 .have l:(xs.map g)[i]?=@(g xs[i]):=by rw[qD,ql b];rfl
  calc .inr {{xs.map g,g xs[i],h,l},?_};rintro v c ⟨rfl,w⟩;let s:(xs.map g)[i]?=some v:=w _ h;rw[l] at s;cases s;let hm:xs[i]∈xs:=zx b;let t:xs.take (i+1)=xs.take i++[xs[i]]:=by rw[zw,ql b];rfl
  refine n xs[i] _ _ hm s2 λj s4=>?_
  cases q:pr xs[i] with
  |false=>
   calc QQ {-xs-(i+1),(),U,b,?_,s2.trans s4,s4 _ _ k};rw[t,zt,zi,q];simp
  |true=>
   refine Q7 (o xs[i] _ _ hm (s2.trans s4) q λy s5=>{s5 _ _ (s4 _ _ k),?_,-xs-(i+1),(),U,b,?_,((s2.trans s4).trans s5).zP p,Qd})
   .have:=qP pr (xs.take i);rw[zC] at this;rw[qh];omega
   .rw[t,zt,zi,q];simp
 .have e:i=-xs:=by omega
  subst e;let l:xs.take (-xs)=xs:=zG (qr _);rw[l] at k;calc .inl {{xs.map g,h,qh<|qr _},u D d p s2 k}
def Hv{K:Frag}{a:qc}{xs:qa V}{fr:qa (Nat×qb)}{l:TE}{Z:St}{H1:Hp}{Q:VK}(Pv:qc->Nat->qa V->Hp->Prop)(hz:-xs<=sizeLine)(hS:zm K H1 a xs)(h0:∀D,H1 D=none->Pv D 0 [] (upd H1 D (.lst [])))(hlen:∀D i ys H,Pv D i ys H->-ys=i)
 (k:∀(D:qc)(i:Nat)(x:V)(ys:qa V)(d:Hp)(Q':VK),xs[i]?=some x->H1 D=none->Pv D i ys d->d D=@(.lst ys)->Qi H1 d->(∀y h,Qi d h->Pv D (i+1) (ys++[y]) (upd h D (.lst (ys++[y])))->Q' y h)->l (some x::xb Z fr) d Q')
 (n:∀D ys b,H1 D=none->Pv D (-xs) ys b->Qi H1 b->b D=@(.lst ys)->Q (.ref D) b) :
 Yy (gv K a) fr Xw l Z H1 Q:=by
 intro D f;erw[λi m ys b=>m=-xs-i/\i<=-xs/\Pv D i ys b/\Qi H1 b/\b D=@(.lst ys),{-xs,by simp,qR _,h0 D f,Qi.zg f,Qd},?_];rintro i m ys b ⟨rfl,hi,p,s2,j⟩;erw[j,?_];let c:=s2.seq hS;by_cases g:i< -xs
 .refine .inr {{xs,xs[i],c,ql g},?_};rintro v d ⟨rfl,o⟩;calc Vi (Q7 ?_);calc k D i v ys _ _ (o xs c) f p j s2 λy h s5 q=>{s5 _ _ j,?_,-xs-(i+1),(),U,g,q,(s2.trans s5).zP f,Qd};rw[hlen D i ys _ p];omega
 .have e:i=-xs:=by omega
  subst e;calc .inl {{xs,c,qr _},n D ys b f p s2 j}
def QZ{t u:TS}{D:VL}{Z:St}{H:Hp}(h:∀N:St->Hp->Prop,N=u D->t {D with nx:=N} Z H):VB t u D Z H:=h _ rfl
end L2
set_option maxHeartbeats 400000
namespace L2
open PySem PySem.Spec PyProof.Rows
open PySem.Builtin PySem.Builtin.ObjectAttr PySem.Builtin.Getset_descriptor
end L2
set_option maxHeartbeats 4000000
namespace L2
open PySem PySem.Spec PyProof.Rows
section
variable {X:Cx}{fL:qa (qc×Obj)}{Z:St}{H:Hp}{s:ug}
def Inv.track{e:qc}{o:HO}(I:Inv X fL Z H s)(d:H e=none)(h0:X.s₀.heap.get? e=none)(g:e≠X.env.locals)(h:∀x c,X.env.cells.lookup x=some c->c≠e)(i:∀p∈X.pn++fL,p.1≠e)
 (ok:QU X.prog X.w (upd H e o) s.heap e o):Inv X fL Z (upd H e o) s where
 ok:=I.ok
 os:=I.os
 bare:=I.bare
 base:=⟨I.base.keep,I.base.slot,λb j q n k=>by
  let f:b≠e:=λz=>by rw[z,h0] at q;cases q
  rw[Qa f];exact I.base.free b j q n k,I.base.there,
  λb xs q=>by have:=I.base.tups b xs q;rw[Qa (Qb this d)];exact this,
  λb o u q=>by have:=I.base.kh b o u q;rw[Qa (Qb this d)];exact this,
  λb l q=>by let#[more,this]:=I.base.vg b l q;calc{more,Qa (Qb this d)<|this}⟩
 loc:=I.loc
 cell:=I.cell
 free:=by rw[Qa (jD g)];exact I.free
 yt:=λx c q=>by rw[Qa (h x c q)];exact I.yt x c q
 pin:=λp q=>by
  let#[a,b,c]:=I.pin p q;exact{a,Qa (i p q)<|b,c}
 hok:=λb u q=>by
  by_cases f:b=e
  .subst f;rw[Qd] at q;cases q;exact ok
  .rw[Qa f] at q;exact(I.hok b u q).stay (λ_ _ _ z=>z) (λc z=>Qa (Qb z d)<|z) λc xs z=>by rw[Qa (Qb z d)];exact z
 len:=I.len
end
end L2
set_option maxHeartbeats 400000
namespace L2
open PySem PySem.Spec PyProof.Rows
end L2
set_option maxHeartbeats 4000000
namespace L2
open PySem PySem.Spec PyProof.Rows
variable {n:Nat}{p:uk Nat}{prog:uh}{w:ui}{A:uj}{s:ug}{vs:qg}{fin:Bool}{x:qb}{xs ys:qe}
def zJ{α:Type}(lt:Nat->Nat->Bool):W.KasT α->α
 |.ret a=>a
 |.ask i j k=>zJ lt (k (lt i j))
inductive xN{α:Type}(n:Nat)(R:α->Prop):W.KasT α->Prop
 |ret {a:α} (h:R a):xN n R (.ret a)
 |ask {i j:Nat} {k:Bool->W.KasT α} (hi:i<n) (hj:j<n) (h:∀b,xN n R (k b)):xN n R (.ask i j k)
def xN.end_{α:Type}{R:α->Prop}{lt:Nat->Nat->Bool}{t:W.KasT α}(h:xN n R t):R (zJ lt t):=by
 induction h with
 |ret h=>calc h
 |ask _ _ _ a=>calc a _
def xN.wp{α:Type}{n:Nat}{R:α->Prop}{lt:Nat->Nat->Bool}{cmp:Nat->Nat->(Bool->ug->Prop)->ug->Prop}{s:ug}{post:α->ug->Prop}(hc:∀(i j:Nat)(C:Bool->ug->Prop),i<n->j<n->C (lt i j) s->cmp i j C s):∀{t:W.KasT α},xN n R t->post (zJ lt t) s->W.KasT.kasWp cmp t post s
 |_,.ret _,a=>a
 |.ask i j k,.ask hi b h,a=>hc i j _ hi b (xN.wp hc (h _) a)
def xN.bind{α β:Type}{n:Nat}{R:α->Prop}{c:β->Prop}{f:α->W.KasT β}(hf:∀a,R a->xN n c (f a)):∀{t:W.KasT α},xN n R t->xN n c (t.bind f)
 |_,.ret h=>hf _ h
 |_,.ask hi d h=>.ask hi d λb=>xN.bind hf (h b)
def U5(n:Nat)(p:uk Nat):Prop:=p.toList.Perm (List.range n)
def U5.lt(h:U5 n p)(a:0<n)(i:Nat):p.getD i 0<n:=by
 unfold Array.getD;split
 .rename_i hi
  have:p.toList[i]'(by simpa using hi)∈List.range n:=h.mem_iff.mp (zx _);exact jV.mp this
 .exact a
def NX(i j:Nat):(p.swapIfInBounds i j).toList.Perm p.toList:=by
 unfold Array.swapIfInBounds;split
 .split
  .exact(Array.swap_perm _ _).toList
  .exact .refl _
 .exact .refl _
def X9(f g:Nat->Nat):∀(l:qa Nat)(p:uk Nat),(l.foldl (λa k=>a.swapIfInBounds (f k) (g k)) p).toList.Perm p.toList
 |[],_=>.refl _
 |k::l,p=>(X9 f g l _).trans (NX _ _)
def U5.rev(h:U5 n p)(i j:Nat):U5 n (W.kas_rev p i j):=(X9 (λk=>i+k) (λk=>j-1-k) _ p).trans h
def U5.bubble(h:U5 n p)(i j:Nat):U5 n (PyProof.Rows.bubble p i j):=(X9 (λk=>i-k) (λk=>i-k-1) _ p).trans h
section
variable {n:Nat}
def Hm(a:0<n){p:uk Nat}(h:U5 n p):∀(m k:Nat),xN n (λ_=>True) (W.kas_asc p m k)
 |0,_=>.ret trivial
 |m+1,k=>.ask (h.lt a _) (h.lt a _) λb=>by
  cases b with
  |true=>calc .ret trivial
  |false=>calc Hm a h m (k+1)
def Gd(a:0<n):∀(m:Nat){p:uk Nat}(k q:Nat),U5 n p->xN n (λr=>U5 n r.1) (W.kas_desc m p k q)
 |0,_,_,_,h=>.ret h
 |m+1,p,k,q,h=>.ask (h.lt a _) (h.lt a _) λb=>by
  cases b with
  |true=>
   show xN n _ (if q > 0 then _ else _);split
   .exact Gd a m _ _ (h.rev _ _)
   .exact Gd a m _ _ h
  |false=>
   refine .ask (h.lt a _) (h.lt a _) λc=>?_
   cases c with
   |true=>calc .ret h
   |false=>calc Gd a m _ _ h
def Eu(c:0<n)(h:U5 n p)(a b:Nat):xN n (λr=>U5 n r.2) (W.kas_tail3 a b p):=
 xN.bind (R:=λ_=>True) (f:=λm=>.ret (m,W.kas_rev p 0 a)) (λ_ _=>.ret (h.rev _ _)) (Hm c (h.rev _ _) _ _)
def KY(c:0<n)(h:U5 n p)(a b:Nat):xN n (λr=>U5 n r.2) (W.kas_descPart a b p):=by
 calc xN.bind (R:=λr=>U5 n r.1) (λr d=>?_) (Gd c _ _ _ h);split
 .exact Eu c (d.rev _ _) _ _
 .exact Eu c d _ _
def PX(a:0<n)(h:U5 n p)(m:Nat):xN n (λr=>U5 n r.2) (W.kas_count m p):=by
 calc xN.bind (R:=λ_=>True) (λk _=>?_) (Hm a h _ _);split
 .exact .ret h
 .split
  .refine .ask (h.lt a _) (h.lt a _) λb=>?_
   cases b with
   |true=>calc .ret h
   |false=>exact KY a (h.rev _ _) _ _
  .exact KY a h _ _
def Ak(a:0<n){p:uk Nat}(h:U5 n p)(k:Nat):∀(m l r:Nat),xN n (λ_=>True) (W.kas_place p k m l r)
 |0,_,_=>.ret trivial
 |m+1,l,r=>by
  show xN n _ (if l>=r then _ else _);split
  .exact .ret trivial
  .refine .ask (h.lt a _) (h.lt a _) λb=>?_
   cases b with
   |true=>calc Ak a h k m _ _
   |false=>calc Ak a h k m _ _
def PY(a:0<n):∀(m:Nat){p:uk Nat}(k:Nat),U5 n p->xN n (U5 n) (W.kas_bin m p k)
 |0,_,_,h=>.ret h
 |m+1,p,k,h=>xN.bind (R:=λ_=>True) (λl _=>PY a m _ (h.bubble _ _)) (Ak a h k _ _ _)
def XU(a:0<n):xN n (U5 n) (W.kas_sort n):=by
 calc xN.bind (R:=λr=>U5 n r.2) (λr b=>?_) (PX a (p:=(List.range n).toArray) (.refl _) _);split
 .exact PY a _ _ b
 .exact .ret b
end
def XW(lt:Nat->Nat->Bool)(n:Nat):qa Nat:=if n<2 then List.range n else (zJ lt (W.kas_sort n)).toList
def BH(lt:Nat->Nat->Bool)(n:Nat):(XW lt n).Perm (List.range n):=by
 unfold XW;split
 .exact .refl _
 .exact(XU (n:=n) ()).end_
def P1(lt:Nat->Nat->Bool)(n:Nat):-(XW lt n)=n:=by rw[(BH lt n).length_eq,zU]
def C1{E:qf}{ks:qg}{P:PySem.Fin->ug->Prop}{T:SortSt->Sem PySem.Fin}(lt:Nat->Nat->Bool)(c:-ks=-vs)(d:-vs<64)
 (e:∀Q:SortKind->ug->Prop,(∀b,(∀(i j:Nat)(C:Bool->ug->Prop),i< -vs->j< -vs->C (lt i j) s->W.kas_ask prog w A b ks i j C s)->Q b s)->2<=-vs->wpAny (model prog w) A (keyKind' ks.toArray) Q E s)
 (fin:∀st:SortSt,(arrOf st).map (λx=>x.2)=((XW lt (-vs)).map λi=>vs.getD i .none).toArray->failedOf st=none->wpAny (model prog w) A (T st) P E s) :
 wpAny (model prog w) A (do
  let b <-if vs.toArray.size<2 then pure general' else keyKind' ks.toArray
  let x <-(if vs.toArray.size<2 then pure PUnit.unit else sortRuns').run (SortSt.mk' b (ks.toArray.zip vs.toArray) #[] 7 none)
  T x.2) P E s:=by
 by_cases a:-vs<2
 .rw[qE (by simpa using a),qE (by simpa using a)];calc qi (qv ?_);dsimp only;rw[StateT.run_pure];calc qi (qv (fin _ ?_ rfl));let f:(XW lt (-vs)).map (λi=>vs.getD i Value.none)=vs:=by
   unfold XW;rw[qE a];calc kH (by simp) λi h a=>?_;simp only[kI,xF];rw[qX,ql a];rfl
  rw[f];show Array.map Prod.snd (ks.toArray.zip vs.toArray)=vs.toArray;apply Array.ext';rw[Array.toList_map,Array.toList_zip];exact List.map_snd_zip (xj c.symm)
 .rw[qC (by simpa using a),qC (by simpa using a)];calc qi (e _ (λb hc=>?_) ());refine qi (jy (W.kat_run (E:=E) (ks:=ks) (vs:=vs) (Q:=λst s'=>(arrOf st).map (λx=>x.2)=((XW lt (-vs)).map λi=>vs.getD i .none).toArray/\failedOf st=none/\s'=s) (G:=λp s'=>p.toList=XW lt (-vs)/\s'=s) c () d (λp f s' _ h k g=>?_) ?_) (λr s' q=>?_) λ_ _ x=>x)
  .let#[g1,g2]:=g;erw[?_,k,g2];rw[W.kat_snds c h,g1]
  .refine xN.wp (n:=-vs) (R:=U5 (-vs)) (lt:=lt) (λi j C hi l q=>hc i j C hi l q) (XU ()) {?_,U};unfold XW;rw[qC a]
  .let#[l,m,U]:=q;calc fin r.2 l m
def KU{E:qf}{a:qc}{P:PySem.Fin->ug->Prop}(lt:Nat->Nat->Bool)(k:s.heap.get? a=@(seqObj "list" vs.toArray n))(l:-vs<64)
 (r:∀s':ug,(∀b o,b≠a->s.heap.get? b=some o->s'.heap.get? b=some o)->∀Q:SortKind->ug->Prop,(∀q,(∀(i j:Nat)(C:Bool->ug->Prop),i< -vs->j< -vs->C (lt i j) s'->W.kas_ask prog w A q vs i j C s')->Q q s')->2<=-vs->wpAny (model prog w) A (keyKind' vs.toArray) Q E s')
 (h:P (.done (.ret .none)) {s with heap:=sortedHeap s.heap a vs ((XW lt (-vs)).map λi=>vs.getD i .none).toArray}):wpAny (model prog w) A (Builtin.«list.sort» {pos:=[.ref a]}) P E s:=by
 let c:-vs<=sizeLine:=QT ();let t:=qO k;rw[list_sort_plain a];calc qi (listItems_at k rfl (qi (kM k rfl ?_ (by simpa using c) (qR _))));obtain⟨m,d⟩:∃m,(s.heap.update a (Obj.mapSeq λx=>#[])).get? a=some (seqObj "list" #[] m):={_,get?_update_seq k λx=>#[]};calc qi (seqEpoch_at d rfl (qi (wpAny_newTuple ?_ (by simpa using c))));calc qi (yI ?_ (qR _));calc zL ?_;let f:=qt (seqObj "list" #[] 0) (qt (seqObj "tuple" vs.toArray 0) d);refine C1 (T:=λst=>do
  let x <-seqEpoch a
  Builtin.List.listUpdate (Value.ref a) λ_=>(arrOf st).map (λx=>x.2)
  if let some e:=failedOf st then rule "list.sort.comparison-raised";throw e
  if x != m then rule "list.sort.modified";raiseError "ValueError" "list modified during sort"
  ret .none) lt rfl l (r _ λb o nb e=>qt _ (qt _ ((gF _ _ _ _ nb).trans e))) λst g p=>?_
 refine qi (seqEpoch_at f rfl (qi (kM f rfl ?_ (qR _) ?_)))
 .rw[p];simp only[ye,zr,jx];rw[g];exact qv h
 .rw[g];simp only[qM,qh,P1];omega
def MZ(fin:Bool):qe->qe->Bool
 |x::xs,y::ys=>if x=y then MZ fin xs ys else decide (x.cps.toList<y.cps.toList)
 |_,_=>fin
def eR(xs ys:qe):Bool:=MZ (decide (-xs< -ys)) xs ys
def Wu(ts:qa (qe)):qa Nat:=if -ts<2 then List.range (-ts) else (zJ (λi j=>eR (ts.getD i []) (ts.getD j [])) (W.kas_sort (-ts))).toList
def BF(ts:qa (qe)):(Wu ts).Perm (List.range (-ts)):=by
 unfold Wu;split
 .exact .refl _
 .rename_i h
  calc(XU (n:=-ts) ()).end_
def Ew(ts:qa (qe)):-(Wu ts)=-ts:=by rw[(BF ts).length_eq,zU]
def LJ{ts:qa (qe)}{i:Nat}(h:i∈Wu ts):i< -ts:=jV.mp ((BF ts).mem_iff.mp h)
inductive Y5(h:Heap)(a:qc):qg->qa (qe)->Prop
 |nil:Y5 h a [] []
 |cons {b:qc} {ob:Obj} {xs:uk qd} {k:Nat} {t:qe} {vs:qg} {ts:qa (qe)} (ne:b≠a) (e:h.get? b=some ob) (c:ob.cls=.type "tuple") (d:ob.data=.seq xs k) (st:StrsAre xs.toList t) (t0:t≠[]) (r:Y5 h a vs ts):Y5 h a (.ref b::vs) (t::ts)
def Y5.len{h:Heap}{a:qc}:∀{vs:qg}{ts:qa (qe)},Y5 h a vs ts->-vs=-ts
 |_,_,.nil=>rfl
 |_,_,.cons _ _ _ _ _ _ r=>zp (·+1) (Y5.len r)
def Y5.mono{h h':Heap}{a f:qc}(k:∀b o,b≠a->h.get? b=some o->h'.get? b=some o/\b≠f):∀{vs:qg}{ts:qa (qe)},Y5 h a vs ts->Y5 h' f vs ts
 |_,_,.nil=>.nil
 |_,_,.cons ne e c d st t0 r=>.cons (k _ _ ne e).2 (k _ _ ne e).1 c d st t0 (Y5.mono k r)
def Y5.at{h:Heap}{a:qc}:∀{vs:qg}{ts:qa (qe)}(i:Nat),Y5 h a vs ts->i< -ts->∃b c xs k,vs.getD i .none=.ref b/\h.get? b=some c/\c.data=.seq xs k/\StrsAre xs.toList (ts.getD i [])
 |_,_,i,.nil,hi=>absurd hi (yv _)
 |_,_,0,.cons _ e _ d st _ _,_=>{9,2,e,d,st}
 |_,_,i+1,.cons _ _ _ _ _ _ r,hi=>Y5.at i r (jE hi)
def Y5.firsts{h:Heap}{a:qc}:∀{vs:qg}{ts:qa (qe)},Y5 h a vs ts->∃f,W.KatTups h vs f/\-f=-ts/\∀v∈f,∃x t,v=.str x t
 |_,_,.nil=>{[],trivial,U,λ_ z=>nomatch z}
 |_,_,.cons (xs:=xs) (t:=t) ne e c d st t0 r=>by
  let#[f,i,j,k]:=Y5.firsts r;obtain⟨x,b,l⟩:∃x b,xs[0]?=some (.str x b):=by
   rw[<-zv]
   cases g:xs.toList with
   |nil=>rw[g] at st;cases st;calc absurd rfl t0
   |cons v vs=>rw[g] at st;cases st with|cons x b _=>exact⟨x,b,rfl⟩
  erw[.str x b::f,{{9,2,e,c,d,l},i},zp (·+1) j,λv g=>?_];obtain rfl|g:=qx.mp g
  .exact#[x,b,U]
  .exact k v g
def Pw   :MZ fin (x::xs) (x::ys)=MZ fin xs ys:=qE rfl
def Px{y:qb}(h:x≠y):MZ fin (x::xs) (y::ys)=decide (x.cps.toList<y.cps.toList):=qC h
def bS{Q:Bool->ug->Prop}{us:qg}(i:Nat)(b:StrsAre us xs)(a:StrsAre vs ys)(q:Q (MZ fin xs ys) s):W.KatLex prog w A true fin Q (us.zip vs) i s:=by
 induction b generalizing vs ys i with
 |nil=>cases a<;>calc q
 |cons x t b d=>
  cases a with
  |nil=>calc q
  |cons y u a=>
   calc W.kat_cons (kC x t y u _ _ _ _ ?_);refine W.kat_go (λe=>?_) (λe=>?_)
   .have e:x=y:=eq_of_beq e;subst e;calc W.kat_yes (d (i+1) a ?_);rw[Pw] at q;exact q
   .have ne:x≠y:=λz=>by rw[z,zT] at e;cases e
    let c:Q (decide (x.cps.toList<y.cps.toList)) s:=by
     rw[Px ne] at q;exact q
    refine W.kat_no ?_
    cases i with
    |zero=>calc strKind_oneLt prog w A _ s _ _ x.cps.toList y.cps.toList rfl rfl c
    |succ i=>calc W.kat_one _ _ (lt_str c)
def Ka:∀{us:qg}{xs:qe},StrsAre us xs->-us=-xs
 |_,_,.nil=>rfl
 |_,_,.cons _ _ h=>zp (·+1) (Ka h)
def MW{M:Model}{h:Heap}{t:Tok}:W.Looks M h (typeOf (.str x t)) (.type "str"):=λA Q E s _ q=>qv q
def Eo{E:qf}{a:qc}{ts:qa (qe)}{P:PySem.Fin->ug->Prop}(t:s.heap.get? a=@(seqObj "list" vs.toArray n))(d:Y5 s.heap a vs ts)(f:-vs<64)
 (h:P (.done (.ret .none)) {s with heap:=sortedHeap s.heap a vs ((Wu ts).map λi=>vs.getD i .none).toArray}):wpAny (model prog w) A (Builtin.«list.sort» {pos:=[.ref a]}) P E s:=by
 calc KU (λi j=>eR (ts.getD i []) (ts.getD j [])) t f (λs' k Q q H=>?_) (d.len<|h);let c:=d.mono λb o ne e=>{k b o ne e,ne};let hlen:=d.len;let#[I,u,J,y]:=c.firsts;refine W.kat_kind (T:=.type "str") u () (λv z=>?_) ∅ (q _ λi j C hi K r=>?_)
 .let#[x,g,U]:=y v z;exact MW
 .let#[L,M,N,O,a1,a2,B,g]:=c.at i ();let#[R,S,V,X,D,F,G,l]:=c.at j ();show wpAny _ _ (keyLt' _ (vs.getD i .none) (vs.getD j .none)) _ _ _;rw[a1,D];calc W.kat_lt a2 B F G (bS 0 g l ?_);let m:=Ka g;let p:=Ka l;rw[zk] at m p;rw[m,p];calc r
inductive Vs(H:Hp):qa qc->qa (qe)->Prop
 |nil:Vs H [] []
 |cons {b:qc} {t:qe} {bs:qa qc} {ts:qa (qe)} (e:H b=some (.tup (~~~t))) (t0:t≠[]) (r:Vs H bs ts):Vs H (b::bs) (t::ts)
def Vs.len{H:Hp}:∀{bs:qa qc}{ts:qa (qe)},Vs H bs ts->-bs=-ts
 |_,_,.nil=>rfl
 |_,_,.cons _ _ r=>zp (·+1) (Vs.len r)
def Vs.of{X:Cx}{fL:qa (qc×Obj)}{Z:St}{H:Hp}{s:ug}{h':Heap}{a:qc}(I:Inv X fL Z H s)(k:∀b o,s.heap.get? b=some o->h'.get? b=some o/\b≠a):∀{bs:qa qc}{ts:qa (qe)}{us:qg},Vs H bs ts->QF (bs.map V.ref) us->Y5 h' a us ts
 |_,_,_,.nil,v=>by cases v;calc .nil
 |_,_,_,.cons e t0 r,v=>by
  cases v with
  |cons h v=>
   cases h;let#[its,d,#[o,c,hc,n,hd],_]:=I.tuple (z5.of e);calc .cons (k _ _ c).2 (k _ _ c).1 hc hd (by simpa using UN d) t0 (Vs.of I k r v)
def AW:∀{xs:qa V}{us:qg}(i:Nat),QF xs us->i< -xs->QL (xs.getD i .non) (us.getD i .none)
 |_,_,0,.cons h _,_=>h
 |_,_,i+1,.cons _ v,hi=>AW i v (jE hi)
def Xv{xs:qa V}{us:qg}(v:QF xs us):∀{l:qa Nat},(∀i∈l,i< -xs)->QF (l.map λi=>xs.getD i .non) (l.map λi=>us.getD i .none)
 |[],_=>.nil
 |i::l,h=>.cons (AW i v (h i qA)) (Xv v λj a=>h j (qy _ a))
section
variable {X:Cx}{fL:qa (qc×Obj)}{Z:St}{H:Hp}{s:ug}{h':Heap}
def Inv.wd{t':Nat}{ch:qa qc}(I:Inv X fL Z H s)(k:∀b o,b∉ch->s.heap.get? b=some o->h'.get? b=some o)(f:∀b∈ch,AI X fL H b):Inv X fL Z H {s with heap:=h',toks:=t'}:=by
 let a:∀b u,H b=some u->b∉ch:=λb u e z=>by rw[(f b z).1] at e;cases e
 refine I.step (g':=s.gens) (d':=s.drawn) (ch:=ch) (λb d=>?_) (λb o _ _ hc e _=>k b o hc e) (λb o _ _ hc e _=>{o.slots,k b o hc e}) (λ_ _ _ _ n=>n)
  (λb o hc e=>{o,k b o hc e}) (λ_ _ e=>e) (λ_ _ _ e=>e) (λb g e=>{#[],by rw[e];simp}) (λm hm=>?_) (λb u e=>?_) I.bare
 .let#[_,f1,_,g,f4,h]:=f b d;exact#[g,f1,f4,h]
 .let#[o,es,g,h,r]:=hm;exact{o,es,g,k _ o (λz=>(f _ z).2.1 rfl) h,r}
 .refine(I.hok b u e).stay (λc v hc q=>k c v ?_ q) (λ_ q=>q) λ_ _ q=>q;obtain z|z:=hc
  .rw[z];exact a b u e
  .exact a c _ z
end
def Ite(K:Frag)(l:qc):It:=
 {λi H=>∃xs x,zm K H l xs/\xs[i]?=some x,λi H v H'=>∃(T:qc)(x:V),(∀xs,zm K H l xs->xs[i]?=some x)/\H T=none/\v=.ref T/\H'=upd H T (.tup [.int i,x]),λi H=>∃xs,zm K H l xs/\-xs=i}
def Mg{P:uh}{w:ui}{K:Frag}{elts:qa Expr}{kt:Nat}{pt:Pos}(l e it:qc)(V:e≠it)(Y:l≠e)(h3:l≠it):HG P w K (.Tuple elts kt pt) (Ite K l) [e,it] e (λi h=>(∃old,IsEnum h e it (i:Int) old)/\h.IsListIter it l i) where
 mem:=by simp
 obj:=λi h st b f=>by
  let#[#[old,s1],o,s2,c,d]:=st;obtain rfl|f:=qx.mp f
  .exact{_,s1,λv z=>by cases z}
  .have e:=qk.mp f;subst e;exact{o,s2,λv z=>by rw[d] at z;cases z}
 keep:=λi h h' st k=>{let ⟨old,s1⟩:=st.1;{old,k e (by simp) _ s1},st.2.at λo q=>k it (by simp) o q}
 item:=by
  intro X D hw F hc i fL s Z H E I hf st G;subst D hw F;let#[xs,x,B,J]:=G;let#[its,L,p,hz]:=I.list B;let#[u,hu,ru]:=L.get J;let M:i< -its:=(qS.mp hu).1;let W:=WalksT.enumerate (prog:=X.prog) (w:=X.w) (I.ok.hd hc) e it l V Y h3 its.toArray;calc W.item i s _ E (by simpa using M) #[st.1,st.2,p.isList] λT vals h' C hv N O mid same=>{.ref T,U,?_};let#[t,x',j,U]:=hv;let ex:x'=u:=by
   have:its.toArray[i]?=some u:=by simpa using hu
   rw[this] at j;exact(qT j).symm
  subst ex;calc W.go elts kt pt i T _ _ E mid λm r a=>?_;let g:∀b∈[e,it],AI X fL H b:=hf;let I1:Inv X fL Z H {s with heap:=m,toks:=C}:=I.wd (t':=C) (ch:=[e,it]) (λb o f q=>a b o f (same b o f q)) g;let nT:T∉[e,it]:=W.apart _ _ _ mid;let#[o,oT,oc,n,od]:=id O;let y:m.IsTuple T ([.int (i:Int) t,x'].toArray):={o,a T o nT oT,oc,n,od};let R:H T=none:=I.hok.fresh N;let S:=I.vz (b:=T) (H':=H) N R;let h0:X.s₀.heap.get? T=none:=by
   cases q:X.s₀.heap.get? T with
   |none=>rfl
   |some o=>exact absurd (qV (qO q) (qQ I.sz N)) (zQ _)
  erw[.ref T,upd H T (.tup [.int i,x]),I1.track R h0 S.2.1 S.2.2.2.2.1 S.2.2.2.2.2 ?_,U,{T,x,λys hy=>I.vJ hy B<|J,R,U,U},#[r.1,r.2.1],λb f=>?_]
  .exact{by show 2<=sizeLine;decide,[.int i t,x'],.cons #[t,U] (.cons ru .nil),y}
  .rw[Qa (λz=>nT (by rw[<-z];calc f))];exact(hf b f).1
 done:=by
  intro X D hw F hc i fL s Z H E I hf st G;subst D hw F;let#[xs,B,J]:=G;let#[its,L,p,hz]:=I.list B;let j:=-L;let W:=WalksT.enumerate (prog:=X.prog) (w:=X.w) (I.ok.hd hc) e it l V Y h3 its.toArray;let a:its.toArray.size=i:=by simp;omega
  let g:∀b∈[e,it],AI X fL H b:=hf;refine W.done s _ E (by rw[a];exact#[st.1,st.2,p.isList]) λh' C same=>{U,I.wd (t':=C) (ch:=[e,it]) same g}
 self:=λA i s Q E st h=>let ⟨_,s1⟩:=st.1;wpAny_pyIter_enum s1 h
inductive LN(K:Frag)(R:(It->Hp->Prop))(vs:qa V)(H1:Hp):Prop
 |mk:∀(l:qc)(xs:qa V),vs=[.ref l]->H1 l=some (.lst xs)->R (Ite K l) H1->LN K R vs H1
def fg(K:Frag)(a:TA):TI:=λZ H R=>a Z H λvs H1=>LN K R vs H1
def Lk{X:Cx}{elts:qa Expr}{kt:Nat}{pt:Pos}{a:Expr}{f:TA}{p pos:Pos}(k:Gl X "enumerate")(hm:X.mg "enumerate"=none)(m:PA X [a] f)(n:starEach [a] X.env=[(false,eval a X.env)]:=by rfl):PI X (.Tuple elts kt pt) (.Call (.Name "enumerate" p) [a] [] pos) (fg X.K f):=by
 intro fL s Z H R I h;calc Call_ (Xm I k hm boot_enumerate (xh (jf (m pos fL s Z H _ I h) λus s1 #[vs,H1,c,o,t]=>?_) n rfl));let#[l,xs,e,g,q]:=t;subst e
 cases o with
 |cons r u=>
  cases u;cases r;let#[its,x,p,_]:=c.list (zm.of g);let i:l<(!s1):=(c.hok l _ g).lt;calc call_enumerate_list p.isList λh' j v hz keep=>?_;let w:Inv X fL Z H1 {s1 with heap:=h'}:=c.kept (t':=s1.toks) keep;calc wpAny_pyIter_enum j {(!s1)+1,[(!s1)+1,(!s1)],9,H1,U,w,Mg l ((!s1)+1) (!s1) (Nat.succ_ne_self _) (zc (jb i)) (zc i),{{_,j},v},λb d=>?_,q};obtain rfl|d:=qx.mp d
  .exact c.vz (jt _) (c.hok.fresh (jt _))
  .rw[qk.mp d];calc c.vz (qr _) (c.hok.fresh (qr _))
def Hx{K:Frag}{l:qc}{xs:qa V}{fr:qa (Nat×qb)}{k:TE}{Z:St}{H1:Hp}{Q:VK}(Pv:qc->Nat->qa V->Hp->Prop)(hz:-xs<=sizeLine)(hS:zm K H1 l xs)(h0:∀D,H1 D=none->Pv D 0 [] (upd H1 D (.lst [])))(hlen:∀D i ys H,Pv D i ys H->-ys=i)
 (mono:∀D i ys H H',Pv D i ys H->Qi H H'->Pv D i ys H')
 (j:∀(D:qc)(i:Nat)(x:V)(ys:qa V)(c:Hp)(Q':VK),xs[i]?=some x->H1 D=none->Pv D i ys c->c D=@(.lst ys)->Qi H1 c->(∀y g,Qi c g->Pv D (i+1) (ys++[y]) (upd g D (.lst (ys++[y])))->Q' y g)->k (@(.int i)::some x::xb Z fr) c Q')
 (n:∀D ys a,H1 D=none->Pv D (-xs) ys a->Qi H1 a->a D=@(.lst ys)->Q (.ref D) a) :
 Kt K (Ite K l) fr k Z H1 Q:=by
 intro D d;erw[λi m ys a=>m=-xs-i/\i<=-xs/\Pv D i ys a/\Qi H1 a/\a D=@(.lst ys),{-xs,by simp,qR _,h0 D d,Qi.zg d,Qd},?_];rintro i m ys a ⟨rfl,hi,p,s2,h⟩;erw[h,?_];let b:=s2.seq hS;by_cases f:i< -xs
 .refine .inr {{xs,xs[i],b,ql f},?_};rintro v c ⟨T,x,o,q,rfl,rfl⟩;let s3:Qi a (upd a T (.tup [.int i,x])):=Qi.zg q;erw[T,.int i,x,U,z5.of Qd,?_];calc j D i x ys _ _ (o xs b) d (mono _ _ _ _ _ p s3) (s3 _ _ h) (s2.trans s3) λy g s5 r=>{s5 _ _ (s3 _ _ h),?_,-xs-(i+1),(),U,f,r,((s2.trans s3).trans s5).zP d,Qd};rw[hlen D i ys _ p];omega
 .have e:i=-xs:=by omega
  subst e;calc .inl {#[xs,b,U],n D ys a d p s2 h}
end L2
namespace HT
open PySem PyProof.Rows
def kU(a:Int)(x:qb)(c:Int)(y:qb):Bool:=if a=c then (if x=y then true else !(decide) (y.cps.toList<x.cps.toList)) else decide (a<=c)
section
open PySem.SeqAt
open PySem.AutoSeq1 (wpAny_loadPart')
open PySem.MeetsSeq PySem.MeetsSeq2 PySem.MeetsSeq3
def Ni(A:uj)(s:ug)(a:qb)(t:Tok)(c:qb)(u:Tok):∃e,SeqAt.EqAt A s (.str a t) (.str c u) e/\(e=true↔a=c):=
 {(a==c),kC a t c u,by simp}
def Mv(A:uj)(s:ug)(a:Int)(t:Tok)(c:Int)(u:Tok)(prog:uh)(w:ui)(E:qf)(Q:qf)(h:Q (.bool (decide (a<=c))) s) :
 wpAny (model prog w) A (richCompare .LtE (.int a t) (.int c u)) Q E s:=
 (le_int h:wpAny (model prog w) A (compareOp .LtE (.int a t) (.int c u)) Q E s)
def Mu(A:uj)(s:ug)(a:qb)(t:Tok)(c:qb)(u:Tok)(prog:uh)(w:ui)(E:qf)(Q:qf)(h:Q (.bool (!(decide) (c.cps.toList<a.cps.toList))) s) :
 wpAny (model prog w) A (richCompare .LtE (.str a t) (.str c u)) Q E s:=
 (PySem.P.le_str h:wpAny (model prog w) A (compareOp .LtE (.str a t) (.str c u)) Q E s)
inductive X5(a:Int)(x:qb)(c:Int)(y:qb):qa (qd×qd)->Prop
 |both (t1 t2 u1 u2:Tok):X5 a x c y [(.int a t1,.int c u1),(.str x t2,.str y u2)]
 |one (e:a=c) (t2 u2:Tok):X5 a x c y [(.str x t2,.str y u2)]
 |none (e:a=c) (e2:x=y):X5 a x c y []
def ve(l b:qc)(n B:Nat)(dd u:uf qc)(sl v:uk (uf qd))(a:Int)(x:qb)(c:Int)(y:qb)(t1 k r m:Tok) :
 Meets (Builtin.«tuple.__le__» {[.ref l,.ref b],[]})
  (λ_ R s=>s.heap.get? l=some {cls:=.type "tuple",dict:=dd,data:=.seq ([.int a t1,.str x k].toArray) n,slots:=sl}/\s.heap.get? b=some {cls:=.type "tuple",dict:=u,data:=.seq ([.int c r,.str y m].toArray) B,slots:=v} /\
    R (.ok (.ret (.bool (kU a x c y)))) s):=
 .of_wp λprog w A R s h=>by
  let#[o,g,d,p,os]:=s;let#[C,D,h]:=h;let f2:=AutoSeq1.sub_tuple_tuple
  wp_walk using zX C,zX D,wpAny_forIn_list _ (λrest b s'=>b.1=none/\s'=#[o,g,d,p,os]/\X5 a x c y rest) _
  case turn=>
   rintro⟨E,x'⟩ rest b s' ⟨i,rfl,z⟩
   cases z with
   |both t1 k r m=>
    let#[e,he,f]:=Ro A.in1 #[o,g,d,p,os] a t1 c r;refine qi (he prog w _ _ ?_)
    cases e with
    |true=>
     wp_walk
     calc{7,.one (f.mp rfl) _ _}
    |false=>
     let ne:a≠c:=λq=>absurd (f.mpr q) qF;let j:=Mv A.in1 #[o,g,d,p,os] a t1 c r prog w
     wp_walk using j
     unfold kU at h;rw[qC ne] at h;calc{0,by simpa using h}
   |one t k m=>
    let#[e,he,f]:=Ni A.in1 #[o,g,d,p,os] x k y m;refine qi (he prog w _ _ ?_)
    cases e with
    |true=>
     wp_walk
     calc{7,.none t (f.mp rfl)}
    |false=>
     let ne:x≠y:=λq=>absurd (f.mpr q) qF;let j:=Mu A.in1 #[o,g,d,p,os] x k y m prog w
     wp_walk using j
     unfold kU at h;rw[qE t,qC ne] at h;exact{0,h}
  case fin=>
   rintro⟨j,E⟩ s' ⟨i,rfl,z⟩;simp only at i;subst i
   cases z with
   |none t f=>
    unfold kU at h;rw[qE t,qE f] at h
    wp_walk
    exact{0,by simpa[Builtin.Tuple.tupleCompareSizes] using h}
  case h=>
   calc{7,.both _ _ _ _}
end
end HT
namespace L2
open PySem PySem.Spec PyProof.Rows
inductive Lf(K:Frag)(f:Int->qb->Int->qb->Bool)(x:V)(y:V)(H:Hp)(Q:VK):Prop
 |mk:∀p q a s c t,x=.ref p->y=.ref q->z5 K H p [.int a,.str s]->z5 K H q [.int c,.str t]->Q (.bl (f a s c t)) H->Lf K f x y H Q
def d8(K:Frag)(f:Int->qb->Int->qb->Bool):R2:=λx y H Q=>Lf K f x y H Q
def Bo{a:Int}{s:qb}{its:qg}(r:QF [.int a,.str s] its):∃t1 b,its=[.int a t1,.str s b]:=by
 cases r with
 |cons h r=>
  cases r with
  |cons c r=>
   cases r;let#[t1,U]:=h;let#[b,U]:=c;exact#[t1,b,U]
def bA{X:Cx}(l:X.A.units<cLine):yN X (compareOp .LtE) (d8 X.K HT.kU):=by
 intro fL s Z H x y v u Q I m o h;let#[p,q,a,z,c,r,U,U,t,w,k]:=h;cases m;cases o;let#[its,A,B,_]:=I.tuple t;let#[g,C,D,_]:=I.tuple w;let#[t1,E,U]:=Bo A;let#[F,G,U]:=Bo C;let#[#[cls,dd,data,sl],i,hc,n,hd]:=id B;let#[#[j,e,data2,f],b,d,J,hd2]:=id D;simp only at hc hd d hd2;subst hc hd d hd2;exact richCompare_meets_room (op:=.LtE) {_,i,U} {_,b,U} PySem.F.slot_tuple_le PySem.F.entry_tuple_le (PySem.F.args_tuple_le_2 _ _) (HT.ve p q n J dd e sl f a z c r t1 E F G)
  {i,b,{nofun,.bl _,H,I,U,k}} l
variable {d:qc}{es:uk DictEntry}{ep:Nat}
def Ui(h:Heap)(d:qc)(es:uk DictEntry)(ep:Nat):Prop:=∃o,h.get? d=some o/\o.ExactDict/\o.data=.dict es ep
def Ui.lt{h:Heap}(x:Ui h d es ep):d<h.objs.size:=let ⟨_,e,_⟩:=x;qO e
def Ui.at{h h':Heap}(x:Ui h d es ep)(k:∀o,h.get? d=some o->h'.get? d=some o):Ui h' d es ep:=let ⟨o,e,r⟩:=x;{o,k o e,r}
def Ui.ty{s:ug}(x:Ui s.heap d es ep):s.TypeIs (.ref d) "dict":=let ⟨o,e,c,_⟩:=x;#[o,e,c.1]
section
variable {prog:uh}{w:ui}{A:uj}{E:qf}{s:ug}{d it:qc}{es:uk DictEntry}{ep i:Nat}
def Oz{Q:qf}(hd:(d==sysModules)=false)(hm:Ui s.heap d es ep)
 (e:Q (.ref (!s)) {s with heap:=s.heap.push {cls:=.type "dict_keyiterator",data:=.fields ([.ref d,.int 0 0,.int es.size 0,.int ep 0].toArray)}}):wpAny (model prog w) A (pyIter (.ref d)) Q E s:=by
 let b:=hm.ty;let#[o,c,_,a]:=hm;calc wpAny_pyIter_slot b F.slot_dict_iter (zV F.slot_dict_iter b F.entry_dict_iter ?_ (F.args_dict_iter_1 _));unfold Builtin.«dict.__iter__»;calc qi ?_;unfold Builtin.Dict.dictSlotNone;calc qi (wpAny_notOrdered_dict b (qv ?_));show wpAny _ _ (Builtin.Dict.showsAll d>>=_) _ _ s;unfold Builtin.Dict.showsAll;rw[qC (hd<|qF)];calc qi (qv (qi (wpAny_dictEntries c a (qi (wpAny_dictEpoch c a ?_)))));calc qi (zz (qv {0,"dict_keyiterator",_,{_,qH _ rfl,U},jH.lookup,by simpa[rawInt] using e}))
def OA{Q:uf qd->ug->Prop}(hit:s.heap.IsKeyIter it d i es.size ep)(hm:Ui s.heap d es ep){f:DictEntry}(h:es[i]?=some f)
 (j:∀h',h'.IsKeyIter it d (i+1) es.size ep->Heap.SameBut it s.heap h'->Q (some f.key) {s with heap:=h'}):wpAny (model prog w) A (pyNext (.ref it)) Q E s:=by
 let#[o,g,hc,hd]:=id hit;let#[k,b,_,c]:=hm;unfold pyNext;refine qi (xn (jn (name:=Str.ofString "__next__") hit.typeIs jH
  (zV jH hit.typeIs F.entry_dict_keyiterator_next ?_ (F.args_dict_keyiterator_next_1 _))))
 refine qi (qv (qi (qi ?_)))
 first|refine qi (yf hit.typeIs (qv ?_))|refine qi (yJ hit.typeIs (qv ?_))
 calc qi (kL g hd ?_);let e:Builtin.Dict_items.ownsTuple "dict_keyiterator"=false:=by decide
 simp -iota only[e,zr,jx];show wpAny _ _ (if (Value.ref d==Value.none)=true then _ else _) _ _ s;rw[qC (show ¬((Value.ref d==Value.none)=true) from qF)];calc qi (qv (qi (wpAny_dictEntries b c ?_)));rw[qC (by simp)];calc qi (qv (qi (wpAny_dictEpoch b c ?_)));rw[qC (by simp)];calc qv ?_;simp only[show ¬((i:Int)<0) from by omega,jx,jS,h];refine qi ?_
 first|refine qi (yf hit.typeIs (qv ?_))|refine qi (yJ hit.typeIs (qv ?_))
 calc qi (wpAny_isOneOf_keyiter hit.typeIs ?_);show wpAny _ _ (setField (.ref it) 1 (rawInt ((i:Int)+1))>>=_) _ _ s;calc qi (j9 g hd (by simp) ?_);let a:(s.heap.update it (Obj.mapFields (·.setIfInBounds 1 (rawInt ((i:Int)+1))))).IsKeyIter it d (i+1) es.size ep:=
  {_,zR _ g (yj (ji hd _)),(vr ..).trans hc,by rw[ji hd];simp[rawInt]}
 calc qi (zL (qi (wpAny_isOneOf_keyiter (s:={s with heap:=s.heap.update it (Obj.mapFields (·.setIfInBounds 1 (rawInt ((i:Int)+1))))}) a.typeIs ?_)));show wpAny _ _ (pure f.key) _ _ _;calc qv (qv {0,qv (j _ a (zI ..))})
def Si{Q:uf qd->ug->Prop}(h:A.handled=none)(hit:s.heap.IsKeyIter it d i es.size ep)(hm:Ui s.heap d es ep)(j:es.size<=i)
 (k:∀h',Heap.ExtBut it s.heap h'->Q none {s with heap:=h'}):wpAny (model prog w) A (pyNext (.ref it)) Q E s:=by
 let#[o,g,hc,hd]:=id hit;let#[l,c,_,e]:=hm;unfold pyNext;refine qi (xn (jn (name:=Str.ofString "__next__") hit.typeIs jH
  (zV jH hit.typeIs F.entry_dict_keyiterator_next ?_ (F.args_dict_keyiterator_next_1 _))))
 refine qi (qv (qi (qi ?_)))
 first|refine qi (yf hit.typeIs (qv ?_))|refine qi (yJ hit.typeIs (qv ?_))
 calc qi (kL g hd ?_);let f:Builtin.Dict_items.ownsTuple "dict_keyiterator"=false:=by decide
 simp -iota only[f,zr,jx];show wpAny _ _ (if (Value.ref d==Value.none)=true then _ else _) _ _ s;rw[qC (show ¬((Value.ref d==Value.none)=true) from qF)];calc qi (qv (qi (wpAny_dictEntries c e ?_)));rw[qC (by simp)];calc qi (qv (qi (wpAny_dictEpoch c e ?_)));rw[qC (by simp)];calc qv ?_;simp only[show ¬((i:Int)<0) from by omega,jx,jS,jF j];refine qi ?_
 first|refine qi (yf hit.typeIs (qv ?_))|refine qi (yJ hit.typeIs (qv ?_))
 show wpAny _ _ (setField (.ref it) 0 .none>>=_) _ _ s;calc qi (j9 g hd (by simp) ?_);show wpAny _ _ (newExc (.type "StopIteration") []>>=_) _ _ _;calc qi ?_;simp only[newExc,newTuple];calc qi (zz ?_ (by size_fits));calc qi (m:=firstArgMember _ _) (wU (a:=Value.none) (by first|rfl|(simp only[firstArgMember];rfl)) ?_);calc zz ?_ (by size_fits);simp only[raiseNew];calc qi (wpAny_handled ?_);rw[show A.in1.handled=none from h];calc qi (qv (wpAny_throw ?_));calc qi (vG (T:="StopIteration") (b:=true) ⟨_,qH _ rfl,U⟩ isSubtype_stop ?_);calc qv (k _ (((zI ..).extBut.push _).push _))
def Sh(lo:(d==sysModules)=false):KdlSrc prog w "dict" d d es.size (λi v=>∃l,es[i]?=some l/\v=l.key) (λh=>Ui h d es ep) where
 type:=λ_ hm=>hm.ty
 there:=λ_ hm=>#[hm.lt,hm.lt]
 keep:=λ_ _ hm j=>hm.at λo e=>j d (.inl rfl) o e
 notList:=by decide
 notTuple:=by decide
 hint:=λ_ _ _ _ hm k=>PySem.W.kdl_hint_dict hm.ty k
 iter:=λA s n hm=>⟨_,λi h=>h.IsKeyIter (!s) d i es.size ep/\Ui h d es ep,(λ_ _ k=>Oz lo hm k),{
  sub:=λb a=>by simp at a;simp[a]
  frame:=λ_ _ _ st j=>{st.1.at λo e=>j _ (by simp) o e,st.2.at λo e=>j d (by simp) o e}
  item:=λi s2 Q E hi st c=>by
   let m:es[i]?=some es[i]:=z7 hi;calc OA st.1 st.2 m λh' f g=>?_;exact c _ h' s2.toks {_,m,U} {f,st.2.at λo e=>g.extBut d o (zc hm.lt) e} λb o a e=>g.extBut b o (λh=>a (by simp[h])) e
  done:=λs2 Q E st c=>Si n st.1 st.2 (qr _) λh' f=>c h' s2.toks λb o a e=>f b o (λh=>a (by simp[h])) e
  self:=λ_ _ _ _ st c=>wpAny_pyIter_keyiter st.1 c},{{_,qH _ rfl,7},hm.at λ_ e=>qt _ e}⟩
end
inductive K3(H:Hp):qa qc->qa (qa Key)->Prop
 |nil:K3 H [] []
 |cons {b:qc} {k:qa Key} {bs:qa qc} {ks:qa (qa Key)} (e:H b=some (.tup (k.map kV))) (r:K3 H bs ks):K3 H (b::bs) (k::ks)
def Yc(t:qe):qa Key:=t.map inr
def Ae(t:qe):(Yc t).map kV=t.map V.str:=by unfold Yc;rw[qI];rfl
def K3.texts{H:Hp}:∀{bs:qa qc}{ts:qa (qe)},K3 H bs (ts.map Yc)->(∀t∈ts,t≠[])->Vs H bs ts
 |[],[],_,_=>.nil
 |_::_,t::ts,.cons e r,h=>.cons (by rw[e,Ae]) (h t qA) (K3.texts r λz hz=>h z (qy _ hz))
def S8{H:Hp}{a:qa (qa Key×V)}{xs:qa (qa Key×qc×qd)}(r:KT H a xs):K3 H (xs.map (·.2.1)) (a.map (·.1)):=by
 induction r with
 |nil=>calc .nil
 |cons h _ b=>calc .cons (h.2.1) b
def AV:∀bs:qa qc,QF (bs.map V.ref) (bs.map Value.ref)
 |[]=>.nil
 |_::bs=>.cons rfl (AV bs)
def a8{P:uh}{w:ui}{H:Hp}{h:Heap}{a:qc}{b:qa (qa Key×V)}(ok:QU P w H h a (.dT b)) :
 (-b)<=sizeLine/\(a==sysModules)=false/\∃(bs:qa qc)(es:uk DictEntry)(c:Nat),K3 H bs (b.map (·.1))/\Ui h a es c/\es.toList.map (·.key)=bs.map Value.ref:=by
 let#[z,y,xs,r,o,es,c,d,e,f,g,_]:=ok;erw[z,y,xs.map (·.2.1),es,c,S8 r,#[o,d,e,f],?_];rw[g,qI,qI];rfl
inductive Ke(xs:qa V)(H:Hp)(Q:VK):Prop
 |mk:∀(p:qc)(fN:qa (qa Key×V))(ts:qa (qe)),xs=[.ref p]->H p=some (.dT fN)->fN.map (·.1)=ts.map Yc->(∀t∈ts,t≠[])->-ts<64->(∀l bs,H l=none->Vs H bs ts->Q (.ref l) (upd H l (.lst ((Wu ts).map λi=>(bs.map V.ref).getD i .non))))->Ke xs H Q
def X2{X:Cx}(hc:X.calm=true):Uk X (.builtin "sorted") (λxs H Q=>Ke xs H Q):=by
 intro fL s Z H xs us Q I r h;let#[p,l,ts,U,E,n,h0,M,q]:=h;let#[u,U,F]:=UG r;cases F;let#[hz,t,bs,es,N,k,hm,B]:=a8 (show QU X.prog X.w H s.heap p (.dT l) from I.hok p _ E);rw[n] at k;let v:=k.texts h0;let f:-bs=-ts:=v.len;let hsz:es.size=-bs:=by have:=zp List.length B;simpa using this
 let G:X.A.in1.handled=none:=I.ok.hd hc;calc yC kind_sorted gV gW (args_sorted1 _) ?_;unfold Builtin.«sorted»;calc qi (m:=checkCount "sorted" 1 1 _) (qv ?_);calc qi (K1 (A:=X.A.in1) (Sh t) G hm (hsz<|f<|QT ()) λh' J acc w x c=>?_);let K:acc.toList=bs.map Value.ref:=by
  rw[<-B];calc List.ext_getElem? λj=>?_;rw[qD];by_cases y:j<es.size
  .have d:j<acc.size:=by rw[c.1];exact y
   let#[C,g,z]:=c.2 j acc[j] (z7 d);rw[zv,zv,g,z7 d,z];rfl
  .rw[zv,zv,jF (by rw[c.1];omega),jF ()];rfl
 rw[K];let C:=AV bs;let y:-(bs.map Value.ref)<=sizeLine:=by rw[qh];exact QT ()
 calc qi (yI ?_ y);let d:(h'.push (seqObj "list" (bs.map Value.ref).toArray 0)).get? h'.objs.size=@(seqObj "list" (bs.map Value.ref).toArray 0):=qH _ rfl;let old:∀b o,s.heap.get? b=some o->(h'.push (seqObj "list" (bs.map Value.ref).toArray 0)).get? b=some o/\b≠h'.objs.size:=λb o e=>by
  let g:=w b o e;exact{qt _ g,zc (qO g)}
 let z:=v.of I (a:=h'.objs.size) old C;calc qi (zL (zV vO {_,d,U} vq (Eo d z (by rw[qh];omega) {0,?_}) (args_list_sort _)));calc qv {0,?_};let#[e,he]:=sortedHeap_at (out:=((Wu ts).map λi=>(bs.map Value.ref).getD i .none).toArray) d;let g:(!s)<=h'.objs.size:=jQ x;erw[.ref h'.objs.size,_,I.laid (t':=J) (λb u k=>?_) g (show QU X.prog X.w _ _ _ (.lst ((Wu ts).map λi=>(bs.map V.ref).getD i .non)) from{?_,(Wu ts).map (λi=>(bs.map Value.ref).getD i .none),e,Xv C λi hi=>?_,he}),U,q _ bs (I.hok.fresh g) v]
 .let#[D,L]:=old b u k;rw[sortedHeap_old L (qO D)];exact D
 .rw[qh,Ew];exact QT ()
 .rw[qh,f];calc LJ hi
end L2
namespace HT
open PySem PyProof.Rows
variable {prog:uh}{w:ui}{A:uj}{E:qf}{s:ug}
def xc{t sl:qc}{fM:uk qd}{e f:qd}{lo hi:uf Int}{Q:qf}(a:IsTup s.heap t fM)(g:s.heap.IsSliceOf sl e f .none)(pl:IsPart e lo)(pu:IsPart f hi)
 (hw:j4 fM.size 0 lo=0/\j4 fM.size fM.size hi=fM.size) (h:Q (.ref t) s):wpAny (model prog w) A (getItem (.ref t) (.ref sl)) Q E s:=by
 let b:s.TypeIs (.ref sl) "slice":=let ⟨os,c,d,_⟩:=g;#[os,c,d];unfold getItem
 try with_reducible refine zL ?_
 first|refine qi (qv ?_)|skip
 calc qi (wpAny_sequenceKey a.typeIs ∅ ?_);refine qi (jn (name:=Str.ofString "__getitem__") a.typeIs slot_tuple_getitem
  (zV slot_tuple_getitem a.typeIs entry_tuple_getitem ?_ (args_tuple_getitem _ _)))
 show wpAny _ _ (Builtin.Tuple.tupleItemsOf (.ref t)>>=_) _ _ s;calc qi (tupleItemsOf_ a (qi (vT b ?_)));rw[qE ∅];calc qi (VN g pl pu ?_);show wpAny _ _ (if (((j4 fM.size 0 lo:Nat):Int)==0&&(1:Int)==1&&(j4 fM.size fM.size hi-j4 fM.size 0 lo)==fM.size)=true then _ else _) _ _ s;rw[qE (by rw[hw.1,hw.2];simp)];show wpAny _ _ (Builtin.Tuple.tupleIsExact (.ref t)>>=_) _ _ s;unfold Builtin.Tuple.tupleIsExact;calc qi ?_;calc qi (vT a.typeIs (qv ?_));show wpAny _ _ (if (Value.type "tuple"==Value.type "tuple")=true then _ else _) _ _ s;rw[qE ∅];calc qi (xk ?_);calc qv {0,qv h}
end HT
namespace L2
open PySem PySem.Spec PyProof.Rows
inductive OF(K:Frag)(x:V)(lo:uf Int)(hi:uf Int)(H:Hp)(Q:VK):Prop
 |mk:∀a xs,x=.ref a->z5 K H a xs->((HT.j4 (-xs) 0 lo=0/\HT.j4 (-xs) (-xs) hi=-xs)->Q (.ref a) H)->(∀p,H p=none->Q (.ref p) (upd H p (.tup (Xq xs lo hi))))->OF K x lo hi H Q
def rSlA(K:Frag):V->uf Int->uf Int->Hp->VK->Prop:=λx lo hi H Q=>OF K x lo hi H Q
def IW{X:Cx}:gQ X (rSlA X.K):=by
 intro fL s Z H x v f g lo hi sl Q I b c pl pu h;let#[a,xs,U,d,i,j]:=h;by_cases hw:HT.j4 (-xs) 0 lo=0/\HT.j4 (-xs) (-xs) hi=-xs
 .cases b;let#[its,r,e,hz]:=I.tuple d;let hlen:its.toArray.size=-xs:=by rw[qM];exact r.length.symm
  exact{"tuple",_,slot_tuple_getitem.lookup,e.typeIs,HT.xc e c pl pu (hlen<|hw) {.ref a,H,I,U,i hw}}
 .exact a0 fL s Z H (.ref a) v f g lo hi sl Q I b c pl pu #[a,xs,U,d,hw,j]
end L2
namespace Hd
open PySem PySem.W PySem.Calls PyProof.Rows L2
variable {q:uh}{r:uf (uf qd)}{x:qb}
def Mp(st:SharedT->Thread->uf (SharedT×Thread))(ok:Thread->Bool)(n:Nat)(s:SharedT)(t:Thread):zJ st ok (n+1) s t=(match through t with
 |true=>some s
 |false=>match ok t with
  |false=>none
  |true=>match st s t with
   |some (s',t')=>zJ st ok n s' t'
   |none=>none):=rfl
def I9{tb:String->uf Builtin}{p:uh}{w:ui}{a:Nat}{ann:uf qd}:∀(n:Nat)(s:SharedT)(t:Thread)(s':SharedT),
 zJ (stepT (denote tb) p w) (stepOk a ann) n s t=some s'->topRun tb p w a ann n s.abs t=some s'.abs
 |0,_,_,_,h=>nomatch (h:none=some _)
 |n+1,s,t,s',h=>by
  rw[Mp] at h;unfold topRun
  cases e:through t with
  |true=>rw[e] at h;cases h;rfl
  |false=>
   rw[e] at h
   cases f:stepOk a ann t with
   |false=>rw[f] at h;cases h
   |true=>
    rw[f] at h;dsimp only at h⊢
    cases d:stepT (denote tb) p w s t with
    |none=>rw[d] at h;cases h
    |some x=>
     let#[b,c]:=x;rw[d] at h;rw[stepT_spec d];calc I9 n b c s' h
def Nr(P:Params):((boot_heap P).isNs mainGlobals,(boot_heap P).objs.size,(boot_heap P).nsMap mainGlobals "__annotations__")=(true,11,@(.ref 6)):=by kernel_rfl
def RE(P:Params):absHeap (aC P) 11 {}=boot_heap P:=by kernel_rfl
def cB(w:ui)(os:OsState):(S0 w os).abs={boot_heap w.params,#[],boot_drawn,boot_toks,os}:=zp (λh=>({h,#[],boot_drawn,boot_toks,os}:ug)) (RE w.params)
def left{p:uh}{loose:qe}{Xt:ug->Bool}{α:Type}{a:ug->α}{b:ui->α}{N:Nat}(e:opening p=plainProg p.main.scope.names)(c:Nat.ble 600 N=true)(f:∀s,fenceModules? p s=some s)
 (h:∀(w:ui)(os:OsState),(zJ (wg gO p w) (okQ 11 (@(.ref 6))) N (S0 w os) (topStub p)).map (λs=>(chk p w.params s.abs,seenQ q loose (importedModules p.main.body) Xt true s.abs,a s.abs))=some (true,openGood q loose,b w)) :
 LeftO p q loose Xt a b N:=λw=>by
 let#[#[g,i,d,k,os],j,m]:=zE.mp (boot_open e c f w);obtain⟨rfl,rfl,rfl,rfl⟩:g=boot_heap w.params/\i=#[]/\d=boot_drawn/\k=boot_toks:=by simpa using m
 let h:=h w os;unfold wg gO okQ seenQ at h;rw[<-PySem.W.Fast.te10156331382660048174,<-PySem.W.Fast.te11892475500146522536,<-PySem.W.Fast.te14364793385576792824,<-PySem.W.Fast.te6613529449190102663,<-PySem.W.Fast.te4187177175401517315] at h;let#[s,r,l]:=zE.mp h;obtain⟨n,o,u⟩:_/\_/\_:=by simpa only[yo] using l
 let r:=I9 N _ _ _ r;rw[cB] at r;obtain⟨v,x,y⟩:_/\_/\_:=by simpa only[yo] using Nr w.params
 let t:topFrom treeTable p w N {boot_heap w.params,#[],boot_drawn,boot_toks,os}=some s.abs:=by
  unfold topFrom;dsimp only;rw[v,x,y,r];show(match staticsOk (importedModules p.main.body) (boot_heap w.params) s.abs.heap&&namesBound p s.abs.heap&&gensDone s.abs&&laidKept (boot_heap w.params) s.abs.heap with|true=>_|false=>_)=_;rw[show(staticsOk (importedModules p.main.body) (boot_heap w.params) s.abs.heap&&namesBound p s.abs.heap&&gensDone s.abs&&laidKept (boot_heap w.params) s.abs.heap)=true from n]
 unfold openEnds;rw[j];show(topFrom treeTable p w N _).map _=_;rw[t];calc zp some (Prod.ext o u)
def BI(h:Heap):Frag:=(List.range h.objs.size).filterMap λa=>(h.get? a).map λo=>(a,o)
def Ad(f:Nat->uf Obj)(a:qc)(o:Obj):∀l:qa Nat,(l.filterMap λa=>(f a).map λo=>(a,o)).lookup a=some o->f a=some o
 |[],e=>nomatch e
 |b::l,e=>by
  cases c:f b with
  |none=>rw[List.filterMap_cons_none (by rw[c];rfl)] at e;calc Ad f a o l e
  |some x=>
   rw[List.filterMap_cons_some (by rw[c];rfl),zM] at e;split at e
   .rename_i q;cases e;rw[yw.mp q];exact c
   .exact Ad f a o l e
def Tu(h:Heap):(BI h).In h:=λa o e=>Ad h.get? a o _ e
def Rg(s:SharedT):yE s=BI s.abs.heap:=by
 unfold yE BI;show _=(List.range (absHeap s.tree s.n s.life).objs.size).filterMap λa=>((absHeap s.tree s.n s.life).get? a).map λo=>(a,o);rw[absHeap_size];congr 1;funext a;congr 1;unfold Heap.get?;rw[absHeap_at]
 cases h:Nat.blt a s.n with
 |true=>
  rw[qE (show a<s.n from Nat.le_of_ble_eq_true h)];dsimp only
  cases (s.tree.get a).getD default with
  |mk c d b sl=>cases b<;>rfl
 |false=>
  rw[qC (λq=>by rw[show Nat.blt a s.n=true from Nat.ble_eq_true_of_le q] at h;cases h)]
def a4{α:Type}(obs:Frag->α)(good:α)(_:ui)(h:Heap):Prop:=∃K:Frag,K.In h/\obs K=good
def close{l:OpenLaw}{loose:qe}{d:DefRec}{α:Type}{obs:Frag->α}{good:α}{N:Nat}
 (look:PySem.W.Fast.tw9446332074065402090 l=true) (e:opening l.prog=plainProg l.prog.main.scope.names) (g:Nat.ble 600 N=true) (f:∀s,fenceModules? l.prog s=some s)
 (h:∀(w:ui)(os:OsState),(zJ (wg gO l.prog w) (okQ 11 (@(.ref 6))) N (S0 w os) (topStub l.prog)).map (λs=>(chk l.prog w.params s.abs,seenQ q loose (importedModules l.prog.main.body) (λs=>recOk [] s) true s.abs,obs (yE s)))=some (true,openGood q loose,good))
 (a:defOf q l.name=some (d,[])) (i:l.prog.theDef l.name=some (d.params,d.body,d.scope)) (j:kwWritten? d.params.kwonlyargs d.params.kw_defaults=some []) (c:(!(l.writes)||([]:WRecords).isEmpty)=true)
 (ok:(chainsOk q&&opensWell l.prog&&(frees l.row.toRowW&&l.row.within.isEmpty))=true) (m:l.prog.bare) (hw:l.row.toRowW.promised)
 (call:WalkO q loose (λ_ _=>True) (a4 obs good) l.row.toRowW d [] λf vs=>PySem.call f vs):l.Holds:=by
 rw[<-PySem.W.Fast.te9446332074065402090] at look;calc holds_law look λb=>?_;let lf:LeftO l.prog q loose (λs=>recOk [] s) (λs=>obs (BI s.heap)) (λ_=>good) N:=left e g f λw os=>by
  have:=h w os;rw[show(λs:SharedT=>(chk l.prog w.params s.abs,seenQ q loose (importedModules l.prog.main.body) (λs=>recOk [] s) true s.abs,obs (yE s)))=λs=>(chk l.prog w.params s.abs,seenQ q loose (importedModules l.prog.main.body) (λs=>recOk [] s) true s.abs,obs (BI s.abs.heap)) from funext λs=>by rw[Rg]] at this;exact this
 calc holds_open (r:=l.row) (q:=q) (loose:=loose) (Xt:=λs=>recOk [] s) (XP:=λ_ _=>True) (YP:=a4 obs good) lf (λ_ s y=>{BI s.heap,Tu _,y}) (λ_ _ _ #[K,X,y] k=>{K,X.keeps k,y}) (λ_ _=>trivial) (λ_ _ _ _ _=>trivial) a i j (λ_ e=>recFacts_of e) c b ok m hw call
def I3{K:Frag}{q:qb}{st:Stmt}{ds:uf (qg)}(h:see K r q=(some (xW x q st,ds),true)):∃(e:qd)(i:uf qc)(d kV doc pm:qd)(an:uf qc)(a ct:qd)(c:uk (uf qd)),
 r=@(@(.ref (yX r)))/\K.lookup (yX r)=some {e,i,.func (fnOf x q (Yo st) (YB st) (Qs st) d kV doc pm an a ct),c}/\LV K d=ds/\codeIn K a q=true/\keepIn K (.ref (yX r))=true/\isFn K (.ref (yX r))=true:=by
 unfold see at h;split at h
 .rename_i f
  split at h
  .rename_i e i fd c l
   let#[m,o]:=vF h;let#[k,p]:=vF (qT m);let#[s,j]:=yZ.mp o;let#[j,t]:=yZ.mp j;let#[n,u,v,b,sc,g,cl,d,kV,doc,pm,an,a,ct,bs]:=fd;simp only[FuncData.mk.injEq] at k;obtain⟨rfl,rfl,rfl,rfl,rfl,rfl,rfl,-,-,-,-,-,-,-,rfl⟩:=k;exact#[e,i,d,kV,doc,pm,an,a,ct,c,U,l,p,s,j,t]
  .cases h
 .cases h
def gJ{K:Frag}{q:qb}{st:Stmt}(h:see K r q=(some (xW x q st,none),true)):r=@(@(.ref (yX r)))/\keepIn K (.ref (yX r))=true/\isFn K (.ref (yX r))=true/\∃fd,wz K x q st (yX r) fd:=by
 let#[k,l,b,kV,doc,pm,an,d,ct,e,f,g,a,i,c,j]:=I3 h;have:b=.none:=by
  cases b with
  |none=>rfl
  |ref D=>simp only[LV] at a;split at a<;>cases a
  |_=>cases a
 subst this;calc{f,c,j,_,cb g i c}
def wY{K:Frag}{q:qb}{st:Stmt}{b:qd}{bs:qg}(h:see K r q=(some (xW x q st,@(b::bs)),true)):r=@(@(.ref (yX r)))/\keepIn K (.ref (yX r))=true/\isFn K (.ref (yX r))=true /\
 ∃(D:qc)(kV doc pm:qd)(an:uf qc)(a ct:qd)(o:Obj)(fM:qg)(n:Nat),CI K x q st (yX r) (fnOf x q (Yo st) (YB st) (Qs st) (.ref D) kV doc pm an a ct)/\K.lookup D=some o/\o.data=.seq fM.toArray n/\fM.map kW=b::bs:=by
 let#[p,s,f,kV,doc,pm,an,a,ct,g,i,j,d,k,e,l]:=I3 h
 cases f with
 |none=>cases d
 |ref D=>
  simp only[LV] at d;split at d
  .rename_i c dd fM n sl m
   erw[i,e,l,D,kV,doc,pm,an,a,ct,_,fM.toList,n,Ts j k e,m,?_,qT d];rw[jT]
  .cases d
 |_=>cases d
def vK{v:V}{u:qd}(h:kW u=bv v)(b:flat v=true:=by rfl):QL v u:=by
 cases v<;>first|(cases b;done)|skip
 all_goals (cases u<;>first|(cases h;done)|skip)
 all_goals first|rfl|(injection h with a;subst a;calc⟨_,rfl⟩)|(injection h with a _;subst a;calc⟨_,rfl⟩)|(injection h with a;subst a;rfl)
def eq_at{α:Type}{l m:qa α}(h:l=m)(i:Nat){a b:α}(e:l[i]?=some a)(c:m[i]?=some b):a=b:=by
 subst h;calc qT (e.symm.trans c)
def walk{l:OpenLaw}{n k:Nat}{loose:qe}{XP:(qb->uf qd)->Heap->Prop}{α:Type}{obs:Frag->α}{good:α}{d:DefRec}{sp:Frag->Sp}
 (r:l.most=some n) (e:n<=sizeLine) (g:d.params.defaults=[]) (t:Yu k callerA)
 (F:∀(w:ui)(K:Frag)(mg:qb->uf qd)(c:qc)(h:Heap),K.In h->obs K=good->h.Ns mainGlobals mg->mg d.name=@(.ref c) ->
   ∃fd:FuncData,(∀(s:ug)(u:qd),BindsTo s fd {[u],[]} [(x,u)])/\∀base:Heap,K.In base->base.Ns mainGlobals mg->VJ l.prog w K mg base ja k c fd [x] (sp K))
 (i:∀(K:Frag)(H:Hp)(a:qc)(ns:qa Int),-ns<=n->cC H->zm K H a (ns.map V.int)->sp K [.ref a] H (λv _=>v=.bl true) λ_ _ _=>False) :
 WalkO q loose XP (a4 obs good) l.row.toRowW d [] (λf vs=>PySem.call f vs):=by
 calc Att.vM r g λw s₀ m mg I c o pm cd doc a vs ns G Y J hd A j b hints hlen B=>?_;let#[K,p,y]:=Y;let#[fd,C,D]:=F w K mg c _ p y G.T.g j;calc Pz p G.T.g G.T.b G.T.builtins G.T.nolimit B b hints (qQ hlen e) t D C (λH E hS=>i K H a ns hlen E hS) λ_ _ _ z=>z
def gc{K:Frag}{h:Heap}{mg:qb->uf qd}{v:V}(X:K.In h)(G:h.Ns mainGlobals mg)(e:(gl K x).map (Option.map kW)=@(@(bv v)))(a:flat v=true:=by rfl):∃u,mg x=some u/\QL v u:=by
 let#[r,b,c]:=zE.mp e;let#[u,d,f]:=zE.mp c;subst d;calc{u,mg_of X G b,vK f a}
end Hd
namespace L2
open PySem PySem.Spec PyProof.Rows
variable {X:Cx}
abbrev Xe(o:HO)(H:Hp)(Q:VK):Prop:=∀p H',H p=none->Qi H H'->H' p=some o->Q (.ref p) H'
def Xe.put{o:HO}{H:Hp}{Q:VK}(k:Xe o H Q){p:qc}(a:H p=none):Q (.ref p) (upd H p o):=k p _ a (Qi.zg a) Qd
inductive ay(xs:qa V)(H:Hp)(Q:VK):Prop
 |mk:-xs<=sizeLine->Xe (.lst xs) H Q->ay xs H Q
inductive ax(xs:qa V)(H:Hp)(Q:VK):Prop
 |mk:-xs<=sizeLine->Xe (.tup xs) H Q->ax xs H Q
def cY(t:TA):TE:=λZ H Q=>t Z H λxs H1=>ay xs H1 Q
def cS(t:TA):TE:=λZ H Q=>t Z H λxs H1=>ax xs H1 Q
def QN{es:qa Expr}{t:TA}{pos:Pos}(h:uM X es t):PE X (.List es pos) (cY t):=by
 intro fL s Z H Q I c;calc wpAny_List_spliced (jf (h.h pos fL s Z H _ I c) λus s1 #[xs,H1,a,r,z,q]=>{by rw[<-(-r)];calc z,?_});let hf:H1 (!s1)=none:=a.hok.fresh (qr _);erw[.ref (!s1),upd H1 (!s1) (.lst xs),a.laid (t':=s1.toks) (λb u e=>qt _ e) (qr _) ?_,U,Xe.put q hf];calc{z,us,(0),r,qH _ rfl}
def QP{es:qa Expr}{t:TA}{c:Nat}{pos:Pos}(h:uM X es t):PE X (.Tuple es c pos) (cS t):=by
 intro fL s Z H Q I d;calc wpAny_Tuple_spliced (jf (h.h pos fL s Z H _ I d) λus s1 #[xs,H1,a,r,z,q]=>{by rw[<-(-r)];calc z,?_});let hf:H1 (!s1)=none:=a.hok.fresh (qr _);erw[.ref (!s1),upd H1 (!s1) (.tup xs),a.laid (t':=s1.toks) (λb u e=>qt _ e) (qr _) ?_,U,Xe.put q hf];calc{z,us,r,{_,qH _ rfl,4}}
def gQ.mono{r a:V->uf Int->uf Int->Hp->VK->Prop}(h:gQ X r)(k:∀x lo hi H Q,a x lo hi H Q->r x lo hi H Q):gQ X a:=
 λfL s Z H x v b c lo hi sl Q I d e pl pu q=>h fL s Z H x v b c lo hi sl Q I d e pl pu (k _ _ _ _ _ q)
def yN.mono{f:qd->qd->Sem qd}{r a:R2}(h:yN X f r)(k:∀x y H Q,a x y H Q->r x y H Q):yN X f a:=
 λfL s Z H x y v u Q I b c q=>h fL s Z H x y v u Q I b c (k _ _ _ _ q)
inductive fq(K:Frag)(x:V)(lo hi:uf Int)(H:Hp)(Q:VK):Prop
 |mk:∀a xs,x=.ref a->zm K H a xs->Xe (.lst (Xq xs lo hi)) H Q->fq K x lo hi H Q
def Dv :gQ X (fq X.K):=Sb.mono λx lo hi H Q #[a,xs,e,h,k]=>{a,xs,e,h,λp b=>Xe.put k b}
inductive fv(x y:V)(H:Hp)(Q:VK):Prop
 |mk:∀l b xs zs,x=.ref l->y=.ref b->H l=some (.lst xs)->H b=some (.lst zs)->-xs+-zs<=sizeLine->Xe (.lst (xs++zs)) H Q->fv x y H Q
def Cj :yN X (binaryOp .Add) fv:=OZ.mono λx y H Q #[l,b,xs,zs,a,c,d,e,hz,k]=>{l,b,xs,zs,a,c,d,e,hz,λp f=>Xe.put k f}
def Ry{α:Type}(f:α->V)(xs:qa α)(v:Int)(h:0<=v):Xq (xs.map f) (some v) none=(xs.drop v.toNat).map f:=by
 let a:¬v<0:=by omega
 simp only[Xq,HT.j4,qC a,qh,<-List.map_drop,<-List.map_take];congr 1;by_cases b:v.toNat<=-xs
 .rw[show min v.toNat (-xs)=v.toNat by omega];exact zG (by rw[je];omega)
 .rw[show min v.toNat (-xs)=-xs by omega,List.drop_eq_nil_of_le (qr _),List.drop_eq_nil_of_le (show -xs<=v.toNat by omega)];simp
def Kb{x y:qb}:(!(decide) (V.str x=V.str y)) = !(decide) (x=y):=by
 by_cases h:x=y
 .rw[h,qw rfl,qw rfl]
 .rw[qK h,qK λz=>h (V.str.inj z)]
def Wh{x y:qb}:decide (V.str x=V.str y)=decide (x=y):=by
 by_cases h:x=y
 .rw[h,qw rfl,qw rfl]
 .rw[qK h,qK λz=>h (V.str.inj z)]
end L2
namespace Hd
open PySem PySem.W L2
end Hd
namespace L2
open PySem PySem.Spec PyProof.Rows
def ES{K:Frag}{a:qc}{α:Type}{xs:qa α}{fr:qa (Nat×qb)}{q:TE}{Z:St}{H1:Hp}{Q:VK}(g:α->qc)(f1 f2:α->V)(Pv:qc->Nat->qa V->Hp->Prop)(hz:-xs<=sizeLine)(hS:zm K H1 a (xs.map λx=>V.ref (g x)))(h0:∀D,H1 D=none->Pv D 0 [] (upd H1 D (.lst [])))(hlen:∀D i ys H,Pv D i ys H->-ys=i)
 (n:∀x∈xs,∀b,Qi H1 b->z5 K b (g x) [f1 x,f2 x])
 (o:∀(D:qc)(i:Nat)(x:α)(ys:qa V)(b:Hp)(Q':VK),xs[i]?=some x->H1 D=none->Pv D i ys b->b D=@(.lst ys)->Qi H1 b->(∀y k,Qi b k->Pv D (i+1) (ys++[y]) (upd k D (.lst (ys++[y])))->Q' y k)->q (@(f1 x)::@(f2 x)::xb Z fr) b Q')
 (r:∀D ys c,H1 D=none->Pv D (-xs) ys c->Qi H1 c->c D=@(.lst ys)->Q (.ref D) c) :
 Kt K (gv K a) fr q Z H1 Q:=by
 intro D h;erw[λi m ys c=>m=-xs-i/\i<=-xs/\Pv D i ys c/\Qi H1 c/\c D=@(.lst ys),{-xs,by simp,qR _,h0 D h,Qi.zg h,Qd},?_];rintro i m ys c ⟨rfl,hi,p,s2,l⟩;erw[l,?_];let f:=s2.seq hS;by_cases d:i< -xs
 .have j:(xs.map λx=>V.ref (g x))[i]?=@(V.ref (g xs[i])):=by rw[qD,ql d];rfl
  calc .inr {{9,f,j},?_};rintro v b ⟨rfl,s⟩;let ev:=s _ f;rw[j] at ev;cases ev;erw[g xs[i],2,n xs[i] (zx d) b s2,o D i xs[i] ys b _ (ql d) h p l s2 λy k s5 pv=>{s5 _ _ l,?_,-xs-(i+1),(),U,d,pv,(s2.trans s5).zP h,Qd}];rw[hlen D i ys _ p];omega
 .have e:i=-xs:=by omega
  subst e;calc .inl {{_,f,qh<|qr _},r D ys c h p s2 l}
section
variable {prog:uh}{w:ui}{A:uj}{R:Result->ug->Prop}{I:qc}{fp wr:qa qc}{n:Nat}{P:Nat->qd->Prop}{St:Nat->Heap->Prop}{dv:qd}
def Kk:(toString "max"++toString ".loop":String)="max.loop":=by decide
def MV(W:Walks prog w A.in1 I fp wr n P St)(y:Nat->Nat->Bool)(z:CmpOf prog w A.in1 .Gt P y)(S:qc)(B:S∉fp):∀(k j:Nat)(s:ug)(m:qd)(c:Nat),n-(j+1)=k->j+1<=n->St (j+1) s.heap->P (argBest y j) m->s.heap.get? S=some {cls:=.type "list",dict:=none,data:=.seq ([m,m].toArray) c,slots:=#[]} ->
 (∀v h' D,P (argBest y (n-1)) v->(∀b o,b∉wr->b≠S->s.heap.get? b=some o->h'.get? b=some o)->R (.ok (.ret v)) {s with heap:=h',toks:=D})->codeAny (model prog w) A (.builtin "max.loop" {[.ref I,.none,.ref S],[(Str.ofString "default",dv)]}) R s:=by
 let C:S∉wr:=λh=>B (W.sub _ h);intro k
 induction k with
 |zero=>
  intro j s m c L M r p hS E;let i:j+1=n:=by omega
  calc zW entry_max_loop ?_;rw[zA plain_max_loop _];show wpAny _ A.in1 (seqItems? (.ref S)>>=_) _ _ s;calc qi (wV hS rfl ?_);show wpAny _ A.in1 (tryCatch (pyNext (.ref I)) _>>=_) _ _ s;calc qi (kO (W.done s _ _ (i▸r) λh' D d=>?_));let g:=d S _ C hS;show wpAny _ A.in1 (updateSeq S (λ_=>#[])>>=_) _ _ _;calc qi ?_;calc yO g rfl (qi (wW (qv ?_)));calc E m _ D (by rw[<-i];calc p) λb o a f e=>(zO _ _ (jD f)).trans (d b o a e)
 |succ k H=>
  intro j s m c L M r p hS E;let t:j+1<n:=by omega
  calc zW entry_max_loop ?_;rw[zA plain_max_loop _];show wpAny _ A.in1 (seqItems? (.ref S)>>=_) _ _ s;calc qi (wV hS rfl ?_);show wpAny _ A.in1 (tryCatch (pyNext (.ref I)) _>>=_) _ _ s;calc qi (kO (W.item (j+1) s _ _ t r λv h' D J q d=>?_));let g:=d S _ C hS;show wpAny _ A.in1 (tryCatch (holding [v,v] (richCompare .Gt v m>>=_)) _>>=_) _ _ _;calc qi (kO (zL (qi (z (j+1) (argBest y j) v m _ _ _ J p ?_))));calc qi (zL (zY ?_));refine qi (wW (qv ?_))
  cases K:y (j+1) (argBest y j) with
  |true=>
   simp only[yH];calc qi ?_;calc yO g rfl (qi (wW ?_));rw[Kk];calc qv {jj plain_max_loop _,H (j+1) _ v _ () t (W.frame _ _ _ q λb F o e=>(zO _ _ (λh:S=b=>B (h<|F))).trans e) (by simp only[argBest,K,yH];calc J) (zR _ g rfl) λG u i x l=>?_};calc E G u i x λb o a f e=>l b o a f ((zO _ _ (jD f)).trans (d b o a e))
  |false=>
   simp only[zr,jx];calc qi (wW ?_);rw[Kk];calc qv {jj plain_max_loop _,H (j+1) _ m c () t q (by simp only[argBest,K,zr,jx];calc p) g λG u i x l=>E G u i x λb o a f e=>l b o a f (d b o a e)}
def F4(W:Walks prog w A.in1 I fp wr n P St)(r:Nat->Nat->Bool)(g:CmpOf prog w A.in1 .Gt P r)(S:qc)(f:S∉fp){s:ug}{c:Nat}(i:St 0 s.heap)(hS:s.heap.get? S=some {cls:=.type "list",dict:=none,data:=.seq #[] c,slots:=#[]})
 (B:∀v h' q,(0<n/\P (argBest r (n-1)) v\/n=0/\v=dv)->(∀b o,b∉wr->b≠S->s.heap.get? b=some o->h'.get? b=some o)->R (.ok (.ret v)) {s with heap:=h',toks:=q}):codeAny (model prog w) A (.builtin "max.loop" {[.ref I,.none,.ref S],[(Str.ofString "default",dv)]}) R s:=by
 let t:S∉wr:=λh=>f (W.sub _ h);calc zW entry_max_loop ?_;rw[zA plain_max_loop _];show wpAny _ A.in1 (seqItems? (.ref S)>>=_) _ _ s;calc qi (wV hS rfl ?_);show wpAny _ A.in1 (tryCatch (pyNext (.ref I)) _>>=_) _ _ s;by_cases u:0<n
 .refine qi (kO (W.item 0 s _ _ u i λv h' q C j a=>?_));let k:=a S _ t hS;show wpAny _ A.in1 (updateSeq S (λ_=>([v,v].toArray))>>=_) _ _ _;calc qi ?_;calc yO k rfl ?_;rw[Kk];calc qv {jj plain_max_loop _,MV W r g S f _ 0 _ v _ rfl u (W.frame _ _ _ j λb x o e=>(zO _ _ (λh:S=b=>f (h<|x))).trans e) C (zR _ k rfl) λD y l z m=>?_};exact B D y l (.inl #[u,z]) λb o d p e=>m b o d p ((zO _ _ (jD p)).trans (a b o d e))
 .have h0:n=0:=by omega
  calc qi (kO (W.done s _ _ (h0▸i) λh' q a=>?_));calc qi (xk (qv ?_));calc B dv h' q (.inr #[h0,U]) λb o d _ e=>a b o d e
end
def mxd(d:Int):qa Int->Int
 |[]=>d
 |n::ns=>ns.foldl max n
def S1{d:Int}{ns:qa Int}(h:0< -ns){M:Int}(hm:M∈ns)(f:∀a∈ns,a<=M):M=mxd d ns:=by
 cases ns with
 |nil=>cases hm
 |cons n ns=>
  let key:∀(l:qa Int)(z:Int),z<=l.foldl max z/\(∀a∈l,a<=l.foldl max z)/\(l.foldl max z=z\/l.foldl max z∈l):=by
   intro l
   induction l with
   |nil=>intro z;calc{Int.le_refl _,nofun,.inl rfl}
   |cons y l i=>
    intro z;let#[g,c,b]:=i (max z y);erw[by show z<=l.foldl max (max z y);omega,λa e=>?_,?_]
    .rcases qx.mp e with rfl|e
     .show a<=l.foldl max (max z a);omega
     .exact c a e
    .show l.foldl max (max z y)=z\/l.foldl max (max z y)∈y::l;obtain b|b:=b
     .rw[b];by_cases hz:y<=z
      .left;omega
      .right;rw[show max z y=y by omega];exact qA
     .exact .inr (qy _ b)
  let#[g,c,b]:=key ns n;show M=ns.foldl max n;let e:M<=ns.foldl max n:=by
   obtain rfl|hm:=qx.mp hm
   .exact g
   .exact c M hm
  let i:ns.foldl max n<=M:=by
   obtain b|b:=b
   .rw[b];exact f n qA
   .exact f _ (qy _ b)
  omega
def Ai:∀{us:qg}{ns:qa Int},QF (ns.map V.int) us->∃xs:uk (Int×Tok),us.toArray=intItems xs/\ns=xs.toList.map (·.1)
 |_,[],.nil=>{#[],by simp[intItems],U}
 |_,n::ns,.cons r rs=>by
  let#[t,U]:=r;let#[xs,a,b]:=Ai rs;erw[([(n,t)].toArray)++xs,?_,?_]
  .have:=zp Array.toList a;simp only[intItems,Array.toList_map] at this;apply Array.ext';simp[intItems,this]
  .simp[b]
def Ku(a v:qd):argsOk "max" {[a],[(Str.ofString "default",v)]}:=by unfold argsOk;kernel_rfl
inductive Ia(K:Frag)(d:Int)(Q:VK)(x:V)(H1:Hp):Prop
 |mk:∀l (ns:qa Int),x=.ref l->zm K H1 l (ns.map V.int)->Q (.int (mxd d ns)) H1->Ia K d Q x H1
def cX(K:Frag)(a:TE)(d:Int):TE:=λZ H Q=>a Z H λx H1=>Ia K d Q x H1
def Ss{X:Cx}{e:Expr}{B:TE}{d:Int}{j:Nat}{p pos G J:Pos}(hc:X.calm=true)(K:Gl X "max")(hm:X.mg "max"=none)(c:PE X e B)
 (he:starEach [e] X.env=[(false,eval e X.env)]:=by rfl) :
 PE X (.Call (.Name "max" p) [e] [{some "default",.Constant (.int d) j G,J}] pos) (cX X.K B d):=by
 intro fL s Z H Q I h;calc jR (Xm I K hm boot_max ?_ ∅ ∅);calc callWith_kw ?_ (by rw[he];rfl) (by rw[he];rfl) (by rfl) (by rfl);rw[he];show wpAny _ _ (spliced ((false,eval e X.env)::backTo pos [])) _ _ s;calc jh (jf (c fL s Z H _ I h) λu s1 #[x,H1,C,L,M]=>jW ?_);let#[l,ns,U,N,q]:=M;cases L;calc kws_cons (wpAny_Constant_int (kws_nil ?_));show wpAny _ _ (call (.builtin "max") [.ref l] [(Str.ofString "default",.int d s1.toks)]) _ _ {s1 with toks:=s1.toks+1};let#[its,O,pl,_]:=C.list N;let#[xs,g,f]:=Ai O;let k:s1.heap.IsList l (intItems xs):=by rw[<-g];exact pl.isList
 let m:X.A.handled=none:=I.ok.hd hc;calc kmk_tree PySem.F.kind_max PySem.F.plain_max PySem.F.entry_max (Ku _ _) ?_;show wpAny _ X.A.in1 (Builtin.Builtins.bindParams "max" ["key","default"] 0 {[],[(Str.ofString "default",.int d s1.toks)]}>>=_) _ _ _;calc qi (wU (show Builtin.Builtins.bindParams "max" ["key","default"] 0 {[],[(Str.ofString "default",.int d s1.toks)]}=pure [none,@(.int d s1.toks)] from rfl) ?_);calc qi (qv ?_);calc qi (iter_intList (s:={s1 with toks:=s1.toks+1}) k λs2 n st r y=>?_);subst n;calc qi (zz ?_);let W:=Walks.list (prog:=X.prog) (w:=X.w) (A:=X.A.in1) m (!s1) l y (intItems xs);let z:(s1.heap.push {cls:=.type "list_iterator",data:=.fields ([.ref l,.int 0 0].toArray)}).objs.size∉[(!s1),l]:=λhm=>zQ _ (r _ hm);calc qv {jj plain_max_loop _,?_};calc F4 W (λi j=>decide (numAt xs i > numAt xs j)) (CmpOf.ints_gt (numAt xs) (λ_ _=>intItems_at)) _ z (W.frame _ _ _ st λb _ o e=>qt _ e) (qH _ rfl) λv h' D P R=>?_;let E:Inv X fL Z H1 {s1 with heap:=h',toks:=D}:=C.kept (t':=D) λb o e=>by
  let F:=qO e;calc R b o (λhm=>?_) (zc (qV F (j8<|jt _))) (qt _ (qt _ e));obtain g|hm:=qx.mp hm
  .exact absurd (g▸F) (zQ _)
  .cases hm
 let hsz:(intItems xs).size=-ns:=by rw[f];simp[intItems]
 obtain⟨F,S⟩|⟨F,rfl⟩:=P
 .let#[t,U]:=intItems_at S;let#[h1,T]:=argBest_gt (numAt xs) ((intItems xs).size-1);let V:xs.size=-ns:=by rw[f];simp
  let Y:numAt xs (argBest (λi j=>decide (numAt xs i > numAt xs j)) ((intItems xs).size-1))=mxd d ns:=by
   refine S1 () ?_ λa c=>?_
   .rw[f,numAt_eq];exact getD_mem (by rw[qh,zk];omega)
   .rw[f] at c;let#[i,hi,U]:=mem_getD c;rw[qh,zk] at hi;rw[<-numAt_eq];exact T i ()
  exact{.int (mxd d ns),H1,E,{t,by rw[Y]},q}
 .have T:ns=[]:=jm.mp ();subst T;calc{.int d,H1,E,{0},q}
end L2
namespace HT
open PySem PyProof.Rows
end HT
namespace L2
open PySem PySem.Spec PyProof.Rows
def fy{N P:qe}{sc:Scope}(h:(sc.kind=.function/\sc.isCoroutine=false/\sc.isGenerator=false)/\N.Nodup/\N.take (-P)=P/\(∀x∈P,sc.names.lookup x=some .local\/sc.names.lookup x=some .cell)/\∀y∈sc.names,y.2≠.free:=by decide +kernel):Wc N P sc:=#[h.1.1,h.1.2.1,h.1.2.2,h.2.1,h.2.2.1,h.2.2.2.1,h.2.2.2.2]
variable {ps:qe}{us:qg}{q x:qb}{fd:FuncData}{s:Stmt}
def CJ(g:ps.Nodup)(f:-ps=-us):ps.filterMap (λn=>((ps.zip us).lookup n).map (n,·))=ps.zip us:=by
 induction ps generalizing us with
 |nil=>rfl
 |cons p r i=>
  cases us with
  |nil=>simp at f
  |cons u us=>
   let a:=zN.mp g;rw[xG,List.filterMap_cons_some (b:=(p,u)) (by rw[zM,zT];rfl)];congr 1
   suffices h:∀l:qe,(∀n∈l,n≠p)->l.filterMap (λn=>(List.lookup n ((p,u)::r.zip us)).map (n,·))=l.filterMap (λn=>(List.lookup n (r.zip us)).map (n,·)) from(h r λn j z=>a.1 (z▸j)).trans (i a.2 (by simpa using f))
   intro l c
   induction l with
   |nil=>rfl
   |cons n l d=>
    let e:((n,p).1==p)=false:=vu (c n qA);let k:List.lookup n ((p,u)::r.zip us)=List.lookup n (r.zip us):=by rw[zM,show(n==p)=false from e]
    rw[jB,jB,k,d λm hm=>c m (qy _ hm)]
def MX{sl:qa (qb×qd)}(h:q∉sl.map (·.1)):sl.lookup q=none:=by
 induction sl with
 |nil=>rfl
 |cons x r a=>
  rw[zM,show(q==x.1)=false from vu λz=>h (z<|qA)];calc a λz=>h (qy _ z)
def fill{qs:qe}{ds:qg}{sl:qa (qb×qd)}{m:Nat}(c:-qs=-ds)(i:qs.Nodup)(g:∀q∈qs.take m,(sl.lookup q).isNone=false)(f:∀q∈qs.drop m,q∉sl.map (·.1)) :
 (forIn (qs.zip ds) sl λx r=>if (List.lookup x.1 r).isNone=true then pure (ForInStep.yield (r++[(x.1,x.2)])) else pure (ForInStep.yield r):Sem (qa (qb×qd)))=pure (sl++(qs.drop m).zip (ds.drop m)):=by
 induction qs generalizing ds sl m with
 |nil=>simp
 |cons q r h=>
  cases ds with
  |nil=>simp at c
  |cons d ds=>
   let a:=zN.mp i;rw[xG,List.forIn_cons]
   cases m with
   |zero=>
    let e:=MX (f q qA);simp only[e,Option.isNone_none,yH,pure_bind];rw[h (m:=0) (by simpa using c) a.2 nofun (λx b=>?_)]
    .simp
    .rw[qB];intro z;obtain z|z:=qq.mp z
     .exact f x (qy _ b) z
     .rw[qk.mp z] at b;calc a.1 b
   |succ m=>
    let e:=g q qA;simp only[e,zr,jx,pure_bind];rw[h (m:=m) (by simpa using c) a.2 (λx b=>g x (qy _ b)) (λx b=>f x b)];simp
def RR{vs:qg}:ps.zip us++(ps.drop (-us)).zip vs=ps.zip (us++vs):=by
 induction us generalizing ps with
 |nil=>simp
 |cons u us a=>cases ps with
  |nil=>simp
  |cons p ps=>simp[a]
def RQ(h:q∈(ps.zip us).map (·.1)):q∈ps.take (-us):=by
 induction us generalizing ps with
 |nil=>simp at h
 |cons u us a=>cases ps with
  |nil=>simp at h
  |cons p ps=>
   rw[xG,qZ] at h;obtain h|h:=qx.mp h
   .rw[h];exact qA
   .exact qy _ (a h)
def BX(h:q∈ps.take (-us)):((ps.zip us).lookup q).isNone=false:=by
 induction us generalizing ps with
 |nil=>simp at h
 |cons u us a=>cases ps with
  |nil=>simp at h
  |cons p ps=>
   rw[xG,zM];by_cases e:q=p
   .rw[e];simp
   .rw[show(q==p)=false from vu e];calc a ((qx.mp h).resolve_left e)
def fE(b:fd.params.posonlyargs=[])(c:fd.params.kwonlyargs=[])(d:fd.params.vararg=none)(e:fd.params.kwarg=none)(hd:fd.defaults=.none)(f:(fd.params.args.map (·.arg)).Nodup)(a:-us=-(fd.params.args.map (·.arg))):bindArgs fd {us,[]}=pure ((fd.params.args.map (·.arg)).zip us):=by
 unfold bindArgs;simp only[b,c,d,e,hd,wN,List.nil_append,zS];generalize fd.params.args.map (·.arg)=ps at f a⊢;let g:ps.filter (λn=>((ps.zip us).lookup n).isNone)=[]:=k5.mpr λn h=>by rw[BX (q:=n) (a<|zZ<|h)];decide
 let i:=CJ f a.symm;let j:seqItems? Value.none=pure none:=rfl;simp[g,i,j,a]
def fC{K:Frag}{D:qc}{o:Obj}{fM:qg}{n:Nat}(f:fd.params.posonlyargs=[])(g:fd.params.kwonlyargs=[])(i:fd.params.vararg=none)(j:fd.params.kwarg=none)(hd:fd.defaults=.ref D)(t:K.lookup D=some o)(u:o.data=.seq fM.toArray n)
 (e:(fd.params.args.map (·.arg)).Nodup) (hi:-fM<=-(fd.params.args.map (·.arg))) (m:Nat):YN K fd (fd.params.args.map (·.arg)) (fM.drop m):=λs us X r=>by
 refine PySem.W.binds_K (k:=?k) X hd t u ?a ?b
 case a=>
  unfold bindArgs;simp only[f,g,i,j,wN,List.nil_append,zS,List.forIn_nil,pure_bind];rfl
 case b=>
  simp only[gE,List.toList_toArray];generalize fd.params.args.map (·.arg)=ps at e r hi⊢;let v:List.drop (-fM-(-ps)) fM=fM:=by rw[show -fM-(-ps)=0 by omega];rfl
  rw[qo,je] at r;let hm:(ps.take (-ps-(-fM))).filter (λn=>(List.lookup n (ps.zip us)).isNone)=[]:=k5.mpr λq c=>by
   rw[BX (q:=q) (by have:ps.take (-ps-(-fM))=(ps.take (-us)).take (-ps-(-fM)):=by{rw[List.take_take];congr 1;omega}
                    rw[this] at c;calc yi c)]
   decide
  obtain⟨d,w,em⟩:∃d,d<=-fM/\fM.drop m=fM.drop d:=by
   by_cases h:m<=-fM
   .exact#[m,h,U]
   .exact{-fM,qr _,by rw[j5 (),j5 (qr _)]}
  rw[em];let l:-us=-ps-(-fM)+d:=by
   have:=zp List.length em;rw[je,je] at this;omega
  let hf:=fill (qs:=ps.drop (-ps-(-fM))) (ds:=fM) (sl:=ps.zip us) (m:=d) (by rw[je];omega) (e.sublist (List.drop_sublist _ _)) (λq c=>BX (by
   rw[l,List.take_add];calc qz _ c)) (λq c z=>by
   let z:=RQ z;rw[List.drop_drop,<-l] at c;let p:(ps.take (-us)++ps.drop (-us)).Nodup:=by rw[vx];exact e
   calc(jo.mp p).2.2 q z q c rfl)
  rw[List.drop_drop,<-l,RR] at hf;simp only[v,hm,hf];let p:=CJ (us:=us++fM.drop d) e (by rw[qo,je];omega);simp[p];omega
def xJ(s:Stmt):qe:=(Yo s).args.map (·.arg)
def plA(s:Stmt):Bool:=(Yo s).posonlyargs.isEmpty&&(Yo s).kwonlyargs.isEmpty&&(Yo s).vararg.isNone&&(Yo s).kwarg.isNone&&decide (xJ s).Nodup&&Nat.ble (-(Yo s).defaults) (-(xJ s))
def wz.bd0{K:Frag}{qual:qb}{st:Stmt}{f:qc}(F:wz K x qual st f fd)(h:plA st=true):YN K fd (xJ st) []:=F.binds λkV doc pm an a ct us b=>by
 simp only[plA,qY,zB,gG,Option.isNone_iff_eq_none] at h;calc fE (fd:=fnOf x qual (Yo st) (YB st) (Qs st) .none kV doc pm an a ct) h.1.1.1.1.1 h.1.1.1.1.2 h.1.1.1.2 h.1.1.2 rfl h.1.2 b
def loc(s:Stmt):qe:=(Qs s).names.filterMap λx=>match x.2 with
 |.local=>some x.1
 |.cell=>some x.1
 |_=>none
def nmO(t:Tb):qe:=match t.2.2 with
 |[]=>loc t.2.1
 |p=>p.map λk=>(loc t.2.1).getD k ""
def scO(N:qe)(s:Stmt):Bool:=decide (((Qs s).kind=.function/\(Qs s).isCoroutine=false/\(Qs s).isGenerator=false)/\N.Nodup/\N.take (-(xJ s))=xJ s/\(∀x∈xJ s,(Qs s).names.lookup x=some .local\/(Qs s).names.lookup x=some .cell)/\∀y∈(Qs s).names,y.2≠.free)
def dP{N:qe}(h:scO N s=true):Wc N (xJ s) (Qs s):=fy (qL h)
def TC(e:Expr):Hd.flat (cvE e)=true:=by
 unfold cvE;split<;>rfl
def RV{es:qa Expr}(h:us.map Hd.kW=(es.map cvE).map Hd.bv):QF (es.map cvE) us:=by
 induction es generalizing us with
 |nil=>cases us with
  |nil=>calc .nil
  |cons u us=>cases h
 |cons e es a=>cases us with
  |nil=>cases h
  |cons u us=>
   let#[b,c]:=wc h;calc .cons (Hd.vK b (TC e)) (a c)
def QF.dropN{vs:qa V}(h:QF vs us):∀n,QF (vs.drop n) (us.drop n):=λn=>by
 induction h generalizing n with
 |nil=>cases n<;>calc .nil
 |cons r a b=>cases n with
  |zero=>calc .cons r a
  |succ n=>calc b n
structure RO(K:Frag)(fd:FuncData)(s:Stmt):Prop where
 all:YN K fd (xJ s) []
 df:∀j,Nat.ble j (-(wj s))=true->∃ds,QF ((wj s).drop (-(wj s)-j)) ds/\YN K fd (xJ s) ds
def wz.D{K:Frag}{f:qc}(F:wz K x q s f fd):CI K x q s f fd:=by
 let#[c,d,kV,doc,pm,an,a,ct,b,h]:=F.ex;calc{{c,d,.none,kV,doc,pm,an,a,ct,b,h},F.kp}
def Se{K:Frag}{r:uf (uf qd)}(e:Hd.see K r q=(some (Hd.xW x q s,uF s),true))(h:plA s=true):∃fd,r=@(@(.ref (Hd.yX r)))/\CI K x q s (Hd.yX r) fd/\(wj s=[]->wz K x q s (Hd.yX r) fd)/\RO K fd s:=by
 cases hd:wj s with
 |nil=>
  rw[show uF s=none by unfold uF;rw[hd]] at e;let#[a1,_,_,fd,F]:=Hd.gJ e;calc{fd,a1,F.D,λ_=>F,F.bd0 h,λj c=>{[],hd<|List.drop_nil<|.nil,F.bd0 h}}
 |cons b bs=>
  rw[show uF s=@(Hd.bv b::bs.map Hd.bv) by unfold uF;rw[hd];rfl] at e;let#[a1,_,_,D,kV,doc,pm,an,a,ct,o,fM,n,F,d,f,hm]:=Hd.wY e;let hm:fM.map Hd.kW=((Yo s).defaults.map cvE).map Hd.bv:=by rw[hm];show _=(wj s).map Hd.bv;rw[hd];rfl
  let g:=RV hm;let i:-fM=-(wj s):=by have:=zp List.length hm;simpa[wj] using this
  simp only[plA,qY,zB,gG,Option.isNone_iff_eq_none] at h;let hle:-fM<=-(xJ s):=by
   have:=Nat.le_of_ble_eq_true h.2;let e:-(wj s)=-(Yo s).defaults:=qh ..;omega
  let B:=fC (K:=K) (fd:=fnOf x q (Yo s) (YB s) (Qs s) (.ref D) kV doc pm an a ct) h.1.1.1.1.1 h.1.1.1.1.2 h.1.1.1.2 h.1.1.2 rfl d f h.1.2 hle;erw[_,a1,F,nofun,?_,λj c=>{fM.drop (-(wj s)-j),g.dropN _,B _}];have:=B (-fM);rw[List.drop_length] at this;calc this
def Yu.up{j k:Nat}{A:uj}(r:Yu k A)(h:j<=k:=by first|decide|omega):Yu j A:=r.mono h
structure L7(X:Cx)(P:uh)(w:ui)(K:Frag)(mg:qb->uf qd)(base:Heap):Prop where
 p:X.prog=P
 w:X.w=w
 k:X.K=K
 m:X.mg=mg
 b:X.base=base
section
variable {X:Cx}{fL:qa (qc×Obj)}{Z:St}{H:Hp}{s:ug}{a:qc}
structure AR(X:Cx)(fL:qa (qc×Obj))(a:qc):Prop where
 sz:X.s₀.heap.objs.size<=a
 loc:a≠X.env.locals
 cell:∀x c,X.env.cells.lookup x=some c->c≠a
 pin:∀p∈X.pn++fL,p.1≠a
 fs:a∉X.fs
def Inv.ours(I:Inv X fL Z H s)(h:(!s)<=a):AR X fL a:=
 {qQ I.sz h,λz=>absurd I.lt (by rw[<-z];calc gH h),λx c e z=>by let#[v,o,b,_]:=I.cell x c e;calc absurd (qO b) (z<|gH h),λp d z=>absurd (qO (I.pin p d).1) (z<|gH h),I.nofs h}
def Inv.ky{h':Heap}{t':Nat}(I:Inv X fL Z H s)(o:AR X fL a)(c:H a=none)(k:∀b u,b≠a->s.heap.get? b=some u->h'.get? b=some u):Inv X fL Z H {s with heap:=h',toks:=t'}:=I.turned k c o.loc (.inr o.sz) o.cell o.pin
def y4.adopt{P:uh}{w:ui}{h:Heap}{o:HO}(x:y4 P w H h)(f:H a=none)(new:QU P w (upd H a o) h a o):y4 P w (upd H a o) h:=λb u e=>by
 by_cases d:b=a
 .subst d;rw[Qd] at e;cases e;exact new
 .rw[Qa d] at e;let nn:∀c v,H c=some v->(upd H a o) c=some v:=λc v q=>by rw[Qa (λz=>by rw[z,f] at q;cases q)];exact q
  calc(x b u e).stay (λ_ _ _ q=>q) (λ_ q=>nn _ _ q) λ_ _ q=>nn _ _ q
def Inv.adopt{o:HO}(I:Inv X fL Z H s)(d:AR X fL a)(f:H a=none)(new:QU X.prog X.w (upd H a o) s.heap a o):Inv X fL Z (upd H a o) s:=by
 let nn:∀c v,H c=some v->(upd H a o) c=some v:=λc v q=>by rw[Qa (λz=>by rw[z,f] at q;cases q)];exact q
 calc I.step (h':=s.heap) (g':=s.gens) (t':=s.toks) (d':=s.drawn) (ch:=[a]) (λb g=>?_) (λb o _ _ _ e _=>e) (λb o _ _ _ e _=>#[o.slots,e]) (λb h hc _ n=>Qa (λz=>hc (by simp[z]))<|n) (λb o _ e=>#[o,e]) (λb xs e=>nn _ _ e) (λb o u e=>nn _ _ e) (λb i e=>{#[],by rw[nn _ _ e];simp}) (λm hm=>hm) (I.hok.adopt f new) I.bare;let e:b=a:=by simpa using g
 subst e;calc{.inr d.sz,d.loc,d.cell,d.pin}
abbrev KD:=Int ⊕ (Int×qb)
def uO(G:Hp)(k:V):KD->Prop
 |.inl n=>k=.int n
 |.inr (n,x)=>∃t,k=.ref t/\G t=@(.tup [.int n,.str x])
def uO.mono{G a:Hp}{k:V}{d:KD}(s:Qi G a)(h:uO G k d):uO a k d:=by
 cases d with
 |inl n=>calc h
 |inr p=>let#[t,e,q]:=h;calc{t,e,s _ _ q}
def g0:KD->KD->Bool
 |.inl n,.inl m=>decide (n<m)
 |.inr (n,x),.inr (m,y)=>if n=m then (if x=y then false else decide (x.cps.toList<y.cps.toList)) else decide (n<m)
 |_,_=>false
def K5(ds:qa KD):qa Nat:=if -ds<2 then List.range (-ds) else (zJ (λi j=>g0 (ds.getD i (.inl 0)) (ds.getD j (.inl 0))) (W.kas_sort (-ds))).toList
def BG(ds:qa KD):(K5 ds).Perm (List.range (-ds)):=by
 unfold K5;split
 .exact .refl _
 .exact(XU (n:=-ds) ()).end_
def PZ(ds:qa KD):-(K5 ds)=-ds:=by rw[(BG ds).length_eq,zU]
def PL{k:Nat}{f:qc}{fd:FuncData}{p:qb}{sp:Sp}{x:V}{u:qd}{Q:VK}{E:qf}(F:VJ X.prog X.w X.K X.mg X.base ja k f fd [p] sp)(b:Yu k X.A.in1.in1)(c:YN X.K fd [p] [])(I:Inv X fL Z H s)(r:QL x u)(h:sp [x] H Q E0) :
 wpAny (model X.prog X.w) X.A.in1.in1 (call (.ref f) [u]) (EP X fL Z Q) E s:=by
 refine wpAny_call (yg (F.run X.A.in1.in1 X.stack s H {[u],[]} [u] [x] Q E0 b I.env0.in1.in1 (c s [u] I.xS rfl) (.cons r .nil) h) λr s' a=>?_)
 cases r with
 |error e=>calc False.elim a
 |ok d=>
  cases d with
  |ret u=>calc I.after a
  |next=>calc False.elim a
  |brk=>calc False.elim a
  |cont=>calc False.elim a
def AH(G:Hp)(ks:qa V)(ds:qa KD):Prop:=∀(i:Nat)(k:V)(d:KD),ks[i]?=some k->ds[i]?=some d->uO G k d
def BZ:∀{xs:qa V}{us:qg}{i:Nat}{u:qd},QF xs us->us[i]?=some u->∃x,xs[i]?=some x/\QL x u
 |_,_,0,_,.cons r _,e=>by cases e;calc{0,r}
 |_,_,i+1,_,.cons _ rs,e=>BZ (i:=i) rs e
def Et:∀{ks:qa V}{us:qg}{ds:qa KD}{G:Hp},QF ks us->-ks=-ds->AH G ks ds->(∀d∈ds,∃n,d=.inl n)->IntsAre us (ds.map λd=>d.elim id (·.1))
 |_,_,[],_,.nil,_,_,_=>.nil
 |_,_,[],_,.cons _ _,h,_,_=>by simp at h
 |_,_,_::_,_,.nil,h,_,_=>by simp at h
 |_,_,d::ds,G,.cons r rs,h,c,hi=>by
  let#[n,U]:=hi d (qA ..);let e:=c 0 _ _ rfl rfl;cases e;let#[t,U]:=r;calc .cons n t (Et rs (by simpa using h) (λi k d a b=>c (i+1) k d a b) λd hd=>hi d (qy _ hd))
def CP:∀{ks:qa V}{us:qg}{ds:qa KD},Inv X fL Z H s->QF ks us->-ks=-ds->AH H ks ds->(∀d∈ds,∃n x,d=.inr (n,x))->∃c,W.KatTups s.heap us c/\-c=-ds/\∀v∈c,∃n t,v=.int n t
 |_,_,[],_,.nil,_,_,_=>{[],W.KatTups.nil,U,λv f=>nomatch f}
 |_,_,[],_,.cons _ _,h,_,_=>by simp at h
 |_,_,_::_,_,.nil,h,_,_=>by simp at h
 |_,_,d::ds,I,.cons r rs,h,g,hi=>by
  let#[n,x,U]:=hi d (qA ..);let#[t,e,q]:=g 0 _ _ rfl rfl;cases e;cases r;let#[c,a1,a2,j]:=CP I rs (by simpa using h) (λi k d a b=>g (i+1) k d a b) λd hd=>hi d (qy _ hd);let#[_,its,l,w,m,o,y,p]:=(show QU X.prog X.w H s.heap t (.tup [.int n,.str x]) from I.hok t _ q)
  cases l with
  |cons u z=>
   let#[t1,U]:=u;exact⟨.int n t1::c,W.KatTups.cons m o p rfl a1,zp (·+1) a2,λv f=>by
    obtain rfl|f:=qx.mp f
    .exact#[n,t1,U]
    .exact j v f⟩
def CA{α:Type}{l:qa α}{i:Nat}{d:α}(h:i< -l):l.getD i d∈l:=by
 rw[qX,ql h];calc zx h
def Cd{t:qc}{v:qd}(h:QL (.ref t) v):v=.ref t:=by cases h;rfl
def Cu{ks:qa V}{us:qg}{ds:qa KD}(a:QF ks us)(b:-ks=-ds)(c:AH H ks ds){i:Nat}(hi:i< -ds):∃k,QL k (us.getD i .none)/\uO H k (ds.getD i (.inl 0)):=by
 let z:-us=-ds:=by rw[<-(-a)];exact b
 let d:us[i]?=@(us.getD i .none):=by rw[qX,ql ()];rfl
 let f:ds[i]?=@(ds.getD i (.inl 0)):=by rw[qX,ql hi];rfl
 let#[k,e,r]:=BZ a d;calc{k,r,c i _ _ e f}
def Sw{A:uj}{E:qf}{Q:Bool->ug->Prop}{t1 b:qc}{n m:Int}{x y:qb}(I:Inv X fL Z H s)(g:H t1=@(.tup [.int n,.str x]))(h:H b=@(.tup [.int m,.str y]))(q:Q (g0 (.inr (n,x)) (.inr (m,y))) s) :
 wpAny (model X.prog X.w) A (keyLt' (tuples' true) (.ref t1) (.ref b)) Q E s:=by
 let#[_,its,i,u,a1,a2,v,j]:=(show QU X.prog X.w H s.heap t1 (.tup [.int n,.str x]) from I.hok t1 _ g);let#[_,its',c,k,l,w,B,o]:=(show QU X.prog X.w H s.heap b (.tup [.int m,.str y]) from I.hok b _ h)
 cases i with
 |cons d a=>
  cases a with
  |cons f a=>
   cases a;let#[C,U]:=d;let#[p,U]:=f
   cases c with
   |cons d a=>
    cases a with
    |cons f a=>
     cases a;let#[D,U]:=d;let#[r,U]:=f;calc W.kat_lt a1 j l o ?_;refine W.kat_cons (wpAny_eqBool_int (W.kat_go (λe=>?_) (λe=>?_)))
     .have e:n=m:=by simpa using e
      subst e;refine W.kat_yes (W.kat_cons (kC x p y r _ _ _ _ (W.kat_go (λe=>?_) (λe=>?_))))
      .have e:x=y:=eq_of_beq e;subst e;calc W.kat_yes (W.kat_nil ?_);simpa[g0] using q
      .have ne:x≠y:=λz=>by rw[z,zT] at e;cases e
       let eq:g0 (.inr (n,x)) (.inr (n,y))=decide (x.cps.toList<y.cps.toList):=by
        show(if n=n then (if x=y then false else decide (x.cps.toList<y.cps.toList)) else decide (n<n))=_;rw[qE rfl,qC ne]
       let t:Q (decide (x.cps.toList<y.cps.toList)) s:=by rw[<-eq];exact q
       exact W.kat_no (W.kat_one _ _ (lt_str t))
     .have ne:n≠m:=λz=>by rw[z] at e;simp at e
      calc W.kat_no (oneLt_int ?_);simpa[g0,ne] using q
def PM{A:uj}{E:qf}{P:PySem.Fin->ug->Prop}{st:SortSt}{c:qc}{k:uk qd}{e f:Nat}{ys:qa V}{out:qg}(I:Inv X fL Z H s)(l:AR X fL a)(ok:AR X fL c)(ne:c≠a)(na:H a=none)(n:H c=none)
 (o:s.heap.get? a=@(seqObj "list" #[] f)) (p:s.heap.get? c=@(seqObj "list" k e)) (r:k.size<64) (t:(arrOf st).map (·.2)=out.toArray) (hf:failedOf st=none) (m:QF ys out) (hz:-ys<64)
 (h:∀s',Inv X fL Z (upd H a (.lst ys)) s'->P (.done (.ret .none)) s'):wpAny (model X.prog X.w) A (ksk_tail a false f (.ref c) st) P E s:=by
 let v:-out=-ys:=m.length.symm;let s1:=zI s.heap c (Obj.mapSeq λ_=>(#[]:uk qd));let d:(s.heap.update c (Obj.mapSeq λ_=>(#[]:uk qd))).get? a=@(seqObj "list" #[] f):=(s1.2 a ne.symm).trans o;let s2:=zI (s.heap.update c (Obj.mapSeq λ_=>(#[]:uk qd))) a (Obj.mapSeq λ_=>out.toArray);obtain⟨g,i⟩:∃g,((s.heap.update c (Obj.mapSeq λ_=>(#[]:uk qd))).update a (Obj.mapSeq λ_=>out.toArray)).get? a=some (seqObj "list" out.toArray g):={_,get?_update_seq d λ_=>out.toArray};unfold ksk_tail
 try dsimp only
 calc qi (kM p rfl ?_ (by rw[jw];omega) (qR _));calc qi (wW ?_);calc qi (seqEpoch_at d rfl ?_);simp only[zr,jx];rw[t];calc qi (kM d rfl ?_ (qR _) (by rw[qM,jw];omega));rw[hf];simp only[ye,zr,jx];calc qv (h _ ?_);let w:=I.ky (t':=s.toks) ok n λb u j q=>(s1.2 b j).trans q;let x:=w.ky (t':=s.toks) l na λb u j q=>(s2.2 b j).trans q;calc x.adopt l na {by rw[jw];omega,out,g,m,i}
def Ta{A:uj}{E:qf}{P:PySem.Fin->ug->Prop}{g:qc}{c:uk qd}{e u:Nat}{xs ks:qa V}{vs:qg}{ds:qa KD}(I:Inv X fL Z H s)(O:AR X fL a)(ok:AR X fL g)(ne:g≠a)(na:H a=none)(R:H g=none)
 (S:s.heap.get? a=@(seqObj "list" #[] u)) (Y:s.heap.get? g=@(seqObj "list" c e)) (M:QF xs vs) (k:QF ks c.toList) (m:-xs=-ds) (b:-ks=-ds) (l:AH H ks ds) (w:-ds<64)
 (f:(∀d∈ds,∃n,d=.inl n)\/(∀d∈ds,∃n x,d=.inr (n,x)))
 (h:∀s',Inv X fL Z (upd H a (.lst ((K5 ds).map λi=>xs.getD i .non))) s'->P (.done (.ret .none)) s'):wpAny (model X.prog X.w) A (ksk_end a false vs.toArray u (.ref g) c) P E s:=by
 let lv:-vs=-ds:=by rw[<-(-M)];exact m
 let lk:-c.toList=-ds:=by rw[<-(-k)];exact b
 let lk':c.size=-ds:=by rw[<-zk];exact lk
 let y:c=c.toList.toArray:=by rw[jT]
 let ro:QF ((K5 ds).map λi=>xs.getD i .non) ((K5 ds).map λi=>vs.getD i .none):=Xv M λi hi=>by rw[m];exact jV.mp ((BG ds).mem_iff.mp hi)
 let fin:∀st:SortSt,(arrOf st).map (·.2)=((K5 ds).map λi=>vs.getD i .none).toArray->failedOf st=none->wpAny (model X.prog X.w) A (ksk_tail a false u (.ref g) st) P E s:=λst h1 z=>
  PM I O ok ne na R S Y () h1 z ro (qh<|PZ<|w) h
 unfold ksk_end
 try dsimp only
 simp only[zr,jx];rw[y];calc C1 (ks:=c.toList) (T:=ksk_tail a false u (.ref g)) (λi j=>g0 (ds.getD i (.inl 0)) (ds.getD j (.inl 0))) () () (λQ q z=>?_) (lv<|fin);rw[lv] at q z;obtain f|f:=f
 .rw[ksk_kind (Et k b l f) ()];calc qv (q _ λi j C hi o q=>?_);let#[B,D,p]:=Cu k b l hi;let#[N,F,r]:=Cu k b l o;let#[n1,G]:=f _ (CA (d:=.inl 0) hi);let#[n2,J]:=f _ (CA (d:=.inl 0) o);rw[G] at p q;rw[J] at r q;cases p;cases r;let#[t1,K]:=D;let#[t2,L]:=F;show wpAny _ _ (keyLt' _ (c.toList.getD i .none) (c.toList.getD j .none)) _ _ _;rw[K,L];exact W.kat_lt_int q
 .let#[fs,B,N,k3]:=CP I k b l f;refine W.kat_kind (T:=.type "int") B () (λv hv=>?_) ∅ (q _ λi j C hi o q=>?_)
  .let#[n,t,U]:=k3 v hv;exact λA Q E s _ q=>qv q
  let#[B,D,p]:=Cu k b l hi;let#[N,F,r]:=Cu k b l o;let#[n1,x1,G]:=f _ (CA (d:=.inl 0) hi);let#[n2,x2,J]:=f _ (CA (d:=.inl 0) o);rw[G] at p q;rw[J] at r q;let#[t1,U,g1]:=p;let#[t2,U,g2]:=r;let K:=Cd D;let L:=Cd F;show wpAny _ _ (keyLt' _ (c.toList.getD i .none) (c.toList.getD j .none)) _ _ _;rw[K,L];calc Sw I g1 g2 q
def PN{k:Nat}{f:qc}{fd:FuncData}{p:qb}{sp:Sp}{E:qf}{P:PySem.Fin->ug->Prop}{g:qc}{w:Nat}{xs:qa V}{vs:qg}{ds:qa KD}(F:VJ X.prog X.w X.K X.mg X.base ja k f fd [p] sp)(hr:Yu k X.A.in1.in1)(O:YN X.K fd [p] [])
 (I:Inv X fL Z H s) (Q:AR X fL a) (ok:AR X fL g) (ne:g≠a) (na:H a=none) (nk:H g=none)
 (ea:s.heap.get? a=@(seqObj "list" #[] w)) (ek:s.heap.get? g=@(seqObj "list" #[] 0)) (R:QF xs vs) (y:-xs=-ds) (S:-ds<64)
 (hu:(∀d∈ds,∃n,d=.inl n)\/(∀d∈ds,∃n x,d=.inr (n,x)))
 (hk:∀(i:Nat) x d,xs[i]?=some x->ds[i]?=some d->∀G,Qi H G->sp [x] G (λk A=>Qi G A/\uO A k d) E0)
 (h:∀G s',Qi H G->G a=none->Inv X fL Z (upd G a (.lst ((K5 ds).map λi=>xs.getD i .non))) s'->P (.done (.ret .none)) s') :
 wpAny (model X.prog X.w) X.A.in1.in1 (ksk_rest a (.ref f) false vs.toArray w (.ref g)) P E s:=by
 let lv:-vs=-ds:=by rw[<-(-R)];exact y
 unfold ksk_rest;refine qi (xk ?_)
 first
  |rw[List.forIn_toArray]
  |(rw[<-Array.forIn_toList];simp only[List.toList_toArray])
  |rw[<-Array.forIn_toList]
 refine qi (ksk_fold (λi s'=>∃(G:Hp)(l:uk qd)(e:Nat)(ks:qa V),Inv X fL Z G s'/\Qi H G/\G a=none/\G g=none/\s'.heap.get? a=@(seqObj "list" #[] w)/\s'.heap.get? g=@(seqObj "list" l e)/\QF ks l.toList/\-ks=i/\AH G ks ds) vs 0 s
  {H,#[],(0),[],I,Qi.refl _,na,nk,ea,ek,.nil,U,λi k d z=>by simp at z} ?step ?done)
 case step=>
  rintro j x s' hx ⟨G,l,e,ks,J,K,ga,T,r,m,L,B,t⟩;simp only[kZ] at B⊢;let hj:j< -ds:=by have:=(qS.mp hx).1;omega
  let#[xv,Y,rxv]:=BZ R hx;obtain⟨d,hd⟩:∃d,ds[j]?=some d:={_,ql hj};let J':Inv X (fL++[(a,seqObj "list" #[] w),(g,seqObj "list" l e)]) Z G s':=J.kx λp o=>by
   obtain o|o:=qq.mp o
   .exact J.pin p (qz _ o)
   .rcases qx.mp o with rfl|o
    .exact{r,ga,Q.loc,Q.fs,λv z=>nomatch z}
    .rw[qk.mp o];exact{m,T,ok.loc,ok.fs,λv z=>nomatch z}
  let hz:l.size=j:=by rw[<-zk,<-(-L)];exact B
  calc qi (xn (jy (PL (E:=λ_ _=>False) F hr O J' rxv (hk j xv d Y hd G K)) (λv c he=>?_) λ_ _ hF=>hF.elim));let#[kv,A,M,rkv,C,okv]:=he
  try dsimp only
  let pa:=M.pin (a,seqObj "list" #[] w) (qz _ (qz _ (.head _)));let N:=M.pin (g,seqObj "list" l e) (qz _ (qz _ (.tail _ (.head _))));let s1:=zI c.heap g (Obj.mapSeq (·.push v));obtain⟨c2,hc2⟩:∃c2,(c.heap.update g (Obj.mapSeq (·.push v))).get? g=some (seqObj "list" (l.push v) c2):={_,get?_update_seq N.1 (·.push v)};let ea':(l.push v).toList=l.toList++[v]:=by simp
  calc qi (kM N.1 rfl ?_ (by rw[jw];omega) (qQ (xj (Array.size_push ..)) (by rw[jw];omega)));let J3:Inv X fL Z A c:=M.kx λp o=>M.pin p (qz _ (qJ _ o));calc qv {U,A,l.push v,c2,ks++[kv],J3.ky (t':=c.toks) ok N.2.1 (λb u O q=>(s1.2 b O).trans q),K.trans C,pa.2.1,N.2.1,(s1.2 a ne.symm).trans pa.1,hc2,ea'<|L.append (.cons rkv .nil),by rw[qo,B];rfl,λi k d' D z2=>?_};by_cases hi:i< -ks
  .rw[ju hi] at D;exact(t i k d' D z2).mono C
  .have hij:i=j:=by
    have:=(qS.mp D).1;rw[qo,qW] at this;omega
   subst hij;rw[jc (),B,Nat.sub_self] at D;cases D;rw[hd] at z2;cases z2;exact okv
 case done=>
  rintro s' ⟨G,l,e,ks,J,K,ga,T,r,m,L,B,t⟩
  try dsimp only
  calc qi (listItems_at m rfl ?_);calc Ta J Q ok ne ga T r m R L y () t S hu λc J'=>h G c K ga J'
end
variable {f kS:qc}{fd:FuncData}{p:qb}{sp:Sp}{ds:qa KD}{A:uj}{e1:Nat}
inductive CT(K:Frag)(sp:Sp)(Q:VK)(x:V)(H:Hp):Prop
 |mk:∀(l:qc)(xs:qa V)(ds:qa KD),x=.ref l->zm K H l xs->-xs=-ds->-ds<64->((∀d∈ds,∃n,d=.inl n)\/(∀d∈ds,∃n x,d=.inr (n,x))) ->
   (∀(i:Nat) x d,xs[i]?=some x->ds[i]?=some d->∀G,Qi H G->sp [x] G (λk G'=>Qi G G'/\uO G' k d) E0) ->
   (∀a G,H a=none->Qi H G->G a=@(.lst ((K5 ds).map λi=>xs.getD i .non))->Q (.ref a) G)->CT K sp Q x H
def aR(K:Frag)(sp:Sp)(a:TE):TE:=λZ H Q=>a Z H λx H1=>CT K sp Q x H1
def GO{X:Cx}{e:Expr}{C:TE}{k:Nat}{g:qb}{L M pos N:Pos}(F:VJ X.prog X.w X.K X.mg X.base ja k f fd [p] sp)(O:Yu (k+2) X.A)(P:Gl X "sorted")(hm:X.mg "sorted"=none)(r:Gl X g)(t:X.mg g=@(.ref f))(v:YN X.K fd [p] [])(w:PE X e C)
 (y:(g==("__debug__":qb))=false:=by decide) (he:starEach [e] X.env=[(false,eval e X.env)]:=by rfl) :
 PE X (.Call (.Name "sorted" L) [e] [{some "key",.Name g M,N}] pos) (aR X.K sp C):=by
 intro fL s Z H Q I h;calc jR (Xm I P hm boot_sorted ?_ ∅ ∅);calc callWith_kw ?_ (by rw[he];rfl) (by rw[he];rfl) (by rfl) (by rfl);rw[he];show wpAny _ _ (spliced ((false,eval e X.env)::backTo pos [])) _ _ s;calc jh (jf (w fL s Z H _ I h) λu s1 #[x,H1,i,R,S]=>jW ?_);let#[l,xs,ds,U,T,j,z,V,Y,q]:=S;cases R;calc kws_cons (XS i r t (kws_nil ?_) y);show wpAny _ _ (call (.builtin "sorted") [.ref l] [(Str.ofString "key",.ref f)]) _ _ s1;let#[vs,D,pl,_]:=i.list T;let lv:-vs=-ds:=by rw[<-(-D)];exact j
 calc call_function_entry_kw kind_sorted gV gW (ksk_s1 _ _) ?_;unfold Builtin.«sorted»;calc qi (m:=checkCount "sorted" 1 1 _) (qv ?_);calc qi (collect_list pl.isList ?_ (by rw[jw];omega));calc qi (yI ?_ (by rw[jw];omega));let hsz:((s1.heap.push (seqObj "list" #[] 0)).update (!s1) (Obj.mapSeq (·++vs.toArray))).objs.size=(!s1)+1:=by
  rw[vH,size_push']
 let c:(((s1.heap.push (seqObj "list" #[] 0)).update (!s1) (Obj.mapSeq (·++vs.toArray))).push (seqObj "list" vs.toArray 0)).get? ((!s1)+1)=@(seqObj "list" vs.toArray 0):=by
  rw[<-hsz];exact qH _ rfl
 let keep:∀b o,s1.heap.get? b=some o->(((s1.heap.push (seqObj "list" #[] 0)).update (!s1) (Obj.mapSeq (·++vs.toArray))).push (seqObj "list" vs.toArray 0)).get? b=some o:=λb o q=>by
  let d:b<(!s1):=qO q;rw[Heap.get?_push_ne _ _ _ (hsz<|zc (jb d)),gF _ _ _ _ (zc d),Heap.get?_push_ne _ _ _ (zc d)];exact q
 let A:AR X fL ((!s1)+1):=i.ours (jt _);let na:H1 ((!s1)+1)=none:=i.hok.fresh (jt _);let E:Inv X fL Z H1 {s1 with heap:=((s1.heap.push (seqObj "list" #[] 0)).update (!s1) (Obj.mapSeq (·++vs.toArray))).push (seqObj "list" vs.toArray 0)}:=i.kept (t':=s1.toks) keep;show wpAny _ _ _ _ _ {s1 with heap:=((s1.heap.push (seqObj "list" #[] 0)).update (!s1) (Obj.mapSeq (·++vs.toArray))).push (seqObj "list" vs.toArray 0)};rw[hsz];generalize ((s1.heap.push (seqObj "list" #[] 0)).update (!s1) (Obj.mapSeq (·++vs.toArray))).push (seqObj "list" vs.toArray 0)=g2 at c E⊢;generalize (!s1)+1=a at c A na⊢;clear keep hsz;refine qi (zL (wpAny_call_entry_kw vO {_,c,U} vq ?body (ksk_l1 _ _)))
 case body=>
  show wpAny (model X.prog X.w) X.A.in1.in1 (Builtin.«list.sort» {[.ref a],[(Str.ofString "key",.ref f)]}) _ _ _;rw[ksk_t1];let w:a<g2.objs.size:=qO c;let s2:=zI g2 a (Obj.mapSeq λ_=>(#[]:uk qd));obtain⟨e1,d⟩:∃e1,(g2.update a (Obj.mapSeq λ_=>(#[]:uk qd))).get? a=some (seqObj "list" #[] e1):={_,get?_update_seq c λ_=>#[]};let B:Inv X fL Z H1 {s1 with heap:=g2.update a (Obj.mapSeq λ_=>(#[]:uk qd))}:=E.ky (t':=s1.toks) A na λb u v q=>(s2.2 b v).trans q;let n:((g2.update a (Obj.mapSeq λ_=>(#[]:uk qd))).push (seqObj "tuple" vs.toArray 0)).objs.size=g2.objs.size+1:=by rw[size_push',vH]
  unfold ksk_tree;calc qi (listItems_at c rfl ?_);calc qi (kM c rfl ?_ (by rw[qM,jw];omega) (qR _));calc qi (seqEpoch_at d rfl ?_);calc qi (wpAny_newTuple ?_ (by show -vs<=_;rw[jw];omega));calc qi (yI ?_ (qR _));calc zL ?_;let K:∀b o,(g2.update a (Obj.mapSeq λ_=>(#[]:uk qd))).get? b=some o->(((g2.update a (Obj.mapSeq λ_=>(#[]:uk qd))).push (seqObj "tuple" vs.toArray 0)).push (seqObj "list" #[] 0)).get? b=some o:=λb o q=>qt _ (qt _ q);let I4:Inv X fL Z H1 {s1 with heap:=((g2.update a (Obj.mapSeq λ_=>(#[]:uk qd))).push (seqObj "tuple" vs.toArray 0)).push (seqObj "list" #[] 0)}:=B.kept (t':=s1.toks) K;let lk:(g2.update a (Obj.mapSeq λ_=>(#[]:uk qd))).objs.size<=((g2.update a (Obj.mapSeq λ_=>(#[]:uk qd))).push (seqObj "tuple" vs.toArray 0)).objs.size:=by rw[n,vH];exact jt _
  calc PN (H:=H1) F (O.in1.in1) v I4 A (B.ours lk) (n<|yG (jb w)) na (B.hok.fresh lk) (K _ _ d) (qH _ rfl) D j z V Y λG s' sG ga J=>{0,qv {0,.ref a,_,J,U,q a _ na ?_ Qd}};calc λb o e=>by rw[Qa (Qb e na)];calc sG b o e
variable {X:Cx}
def Itv(a:qc)(c:Obj)(b:qa (Key×V)):It:={λi H=>H a=@(.jM c (.dK b))/\i< -b,λi H x H'=>H'=H/\∃d,b[i]?=some d/\x=d.2,λi H=>H a=@(.jM c (.dK b))/\-b<=i}
def bU{b:Type}{a:qa (b×V)}{vs:qa (b×qd)}{j:Nat}{p:b×V}{q:b×qd}(h:KV a vs)(c:a[j]?=some p)(d:vs[j]?=some q):QL p.2 q.2:=by
 unfold KV at h
 induction h generalizing j with
 |nil=>simp at c
 |cons r _ e=>
  cases j with
  |zero=>cases c;cases d;calc r.2
  |succ j=>calc e c d
def Me{P:uh}{w:ui}{K:Frag}{G:Expr}(a it:qc)(F:Obj)(f:qa (Key×V))(es:uk DictEntry)(p:Nat)(hd:F.data=.dict es p):HG P w K G (Itv a F f) [it] it (λi h=>h.IsValIter it a i (-f) p) where
 mem:=by simp
 obj:=λi h st b j=>by
  let e:b=it:=by simpa using j
  subst e;let#[o,e,c,d]:=st;exact{o,e,λv z=>by rw[d] at z;cases z}
 keep:=λi h h' st k=>by
  let#[o,e,c]:=st;exact{o,k it (by simp) o e,c}
 item:=by
  intro X t hw u hc i fL s Z H E I hf st x;subst t hw u;let#[y,n]:=x;let#[_,vs,A,B,q,g,hm]:=Vx I.hok y;rw[hd] at g;cases g;let r:=KV.length q;let l:s.heap.IsValIter it a i (-vs) p:=by rw[<-r];exact st
  let#[f0,f1,f2,C,f4,D]:=hf it (by simp);calc wpAny_pyNext_values_item (k:=(vs[i]'()).1) (v:=(vs[i]'()).2) l hm (ql ()) λh' m sb=>?_;let J:Inv X fL Z H {s with heap:=h'}:=I.turned (t':=s.toks) (λb o j e=>(sb.2 b j).trans e) f0 f1 C f4 D;let L:QL f[i].2 (vs[i]'()).2:=bU q (ql n) (ql ());rw[<-r] at m;let#[o,e,c,d]:=id m;exact{0,EA (s:={s with heap:=h'}) e c d ∅ {f[i].2,H,J,L,{U,f[i],ql n,U},m,λb j=>(hf b j).1}}
 done:=by
  intro X t hw u hc i fL s Z H E I hf st x;subst t hw u;let#[y,m]:=x;let#[_,vs,A,B,q,g,hm]:=Vx I.hok y;rw[hd] at g;cases g;let r:=KV.length q;let l:s.heap.IsValIter it a i (-vs) p:=by rw[<-r];exact st
  let#[f0,f1,f2,C,f4,D]:=hf it (by simp);exact wpAny_pyNext_values_end (I.ok.hd hc) l hm (yb ()) λh' n=>{U,I.turned (t':=s.toks) (λb o j e=>n b o j e) f0 f1 C f4 D}
 self:=λ_ _ _ _ _ st h=>wpAny_pyIter_valiter st h
inductive LK(R:(It->Hp->Prop))(x:V)(H1:Hp):Prop
 |mk:∀a fN,x=.ref a->((∃oa,H1 a=some (.jM oa (.dK fN))/\R (Itv a oa fN) H1)\/(H1 a=some (.dK fN)/\∀oa,R (Itv a oa fN) (upd H1 a (.jM oa (.dK fN)))))->LK R x H1
def fb(a:TE):TI:=λZ H R=>a Z H λx H1=>LK R x H1
def Sq{z o:Expr}{w:TE}{apos f:Pos}(A:PE X o w)(g:attributeBase o "values" X.env (eval o X.env)=eval o X.env:=by rfl)(i:(apos.endLine==f.line)=true:=by rfl):PI X z (.Call (.Attribute o "values" apos) [] [] f) (fb w):=by
 intro fL s Z H R I h;calc wpAny_Call_method0_late g i (jf (A fL s Z H _ I h) λv s1 #[x,H1,y,B,C]=>?_);let#[a,d,e,q]:=C;subst e;cases B;obtain⟨c,k,n,j,D⟩:∃(c:Obj)(k:Hp),Inv X fL Z k s1/\k a=some (.jM c (.dK d))/\R (Itv a c d) k:=by
  obtain⟨c,j,q⟩|⟨j,q⟩:=q
  .exact#[c,H1,y,j,q]
  .let#[c,J]:=y.freeze j;exact{c,_,J,Qd,q c}
 let#[t1,E,_]:=Ah n (.inl {d,.inr #[c,j]});let#[p,vs,es,F,G,hd,hm]:=Vx n.hok j;let O:=KV.length G;let m:Inv X fL Z k {s1 with heap:=s1.heap.push {cls:=.type "dict_values",data:=.fields ([.ref a].toArray)}}:=n.kept (t':=s1.toks) λb o e=>qt _ e;let#[_,K,L,M,r,l,t]:=Vx m.hok j;rw[hd] at l;cases l;let u:=KV.length r;erw["dict","dict.values",plainAttrs_dict,PySem.F.slot_dict_values,PySem.F.type_dict_values,t1,E,jv rfl (PySem.evalArgs_none ?_)];calc xZ PySem.F.slot_dict_values t1 PySem.F.entry_dict_values (PySem.F.args_dict_values_1 _) (meets_dict_values (Q4 X.prog X.w) a p) {#[vs,hm.dictOf],?_};calc wpAny_pyIter_values (s:={s1 with heap:=s1.heap.push {cls:=.type "dict_values",data:=.fields ([.ref a].toArray)}}) {_,qH _ rfl,7} t {_,[_],9,k,U,m.kept (t':=s1.toks) λb o e=>qt _ e,Me a _ c d es F hd,{_,qH _ rfl,U,by rw[u];rfl},λb N=>?_,D};obtain rfl:=qk.mp N;calc m.vz (qr _) (m.hok.fresh (qr _))
def Nm{a:qc}{q:Obj}{b:qa (Key×V)}{α:Type}{xs:qa α}{fr:qa (Nat×qb)}{tt:TT}{r:TE}{Z:St}{H1:Hp}{Q:VK}(g:α->V)(f:α->V)(hz:-xs<=sizeLine)(hS:H1 a=@(.jM q (.dK b)))(s:b.map (λk=>k.2)=xs.map g)
 (l:∀(x:α)(d:Hp)(Q':Bool->Hp->Prop),x∈xs->Qi H1 d->Q' true d->tt (@(g x)::xb Z fr) d Q')
 (n:∀(x:α)(d:Hp)(Q':VK),x∈xs->Qi H1 d->Q' (f x) d->r (@(g x)::xb Z fr) d Q')
 (w:∀D,H1 D=none->Q (.ref D) (upd H1 D (.lst (xs.map f)))) :
 Yy (Itv a q b) fr tt r Z H1 Q:=by
 let z:-b=-xs:=by have:=zp List.length s;simpa using this
 unfold Yy;intro D t;erw[λi m ys u=>m=-xs-i/\i<=-xs/\ys=(xs.take i).map f/\u=upd H1 D (.lst ys),{-xs,by simp,qR _,by simp,U},?_];rintro i m ys u ⟨rfl,hi,rfl,rfl⟩;erw[Qd,?_];let s1:Qi H1 (upd H1 D (.lst ((xs.take i).map f))):=Qi.zg t;let h:=s1 _ _ hS;by_cases c:i< -xs
 .have o:(xs.map g)[i]?=@(g xs[i]):=by rw[qD,ql c];rfl
  calc .inr {{h,()},?_};rintro v d ⟨rfl,k,p,rfl⟩;let j:(xs.map g)[i]?=some k.2:=by rw[<-s,qD,p];rfl
  rw[o] at j;let j:=qT j;rw[<-j];let hm:xs[i]∈xs:=zx c;let y:xs.take (i+1)=xs.take i++[xs[i]]:=by rw[zw,ql c];rfl
  refine l xs[i] _ _ hm s1 (Q7 (n xs[i] _ _ hm s1 {Qd,?_,-xs-(i+1),(),U,c,?_,VY}))
  .rw[qh,zC];omega
  .rw[y,qB];rfl
 .have e:i=-xs:=by omega
  subst e;calc .inl {{h,()},?_};have:=w D t;rw[zZ];calc this
def HC :Uk X (.type "dict") (λxs H Q=>∃(p:qc)(a:qa (Key×V)),xs=[.ref p]/\Rd H p (.dK a)/\∀l,H l=none->Q (.ref l) (upd H l (.dK a))):=by
 intro fL s Z H xs us Q I r h;let#[p,a,U,d,q]:=h;let#[u,U,f]:=UG r;cases f;let#[hz,hd,vs,c,dd]:=Wz I.hok d;let g:=KV.length c;calc kt_call_dict hd dd () λh' d' sb=>?_;let k:∀b o,s.heap.get? b=some o->h'.get? b=some o:=λb o e=>(sb.2 b (zc (qO e))).trans (qt _ e);let ne:((!s)==sysModules)=false:=by
  have:=I.big;exact vu (yG this)
 calc{.ref (!s),_,I.laid (t':=s.toks) k (qr _) (show QU X.prog X.w _ _ _ (.dK a) from#[hz,ne,vs,c,d']),U,q _ (I.hok.fresh (qr _))}
def nK(na:qa (Key×Int)):qa (Key×V):=na.map λp=>(p.1,V.int p.2)
def Ey(nb:qa (Key×Int)):qa (Key×Int)->Bool
 |[]=>true
 |(k,n)::r=>match QB (nK nb) k with
  |some (.int m)=>(n==m)&&Ey nb r
  |_=>false
def bP{nb:qa (Key×Int)}{k:Key}{v:V}(h:QB (nK nb) k=some v):∃m,v=.int m:=by
 induction nb with
 |nil=>cases h
 |cons p r b=>
  let#[a,n]:=p;by_cases e:a=k
  .have:QB (nK ((a,n)::r)) k=@(.int n):=by
    show QB ((a,V.int n)::nK r) k=_;unfold QB;simp[e]
   rw[this] at h;cases h;exact#[n,U]
  .have:QB (nK ((a,n)::r)) k=QB (nK r) k:=by
    show QB ((a,V.int n)::nK r) k=_;unfold QB;simp[e]
   rw[this] at h;calc b h
def P4{A:uj}{s:ug}{nb:qa (Key×Int)}{a:qa (Key×qd)}(d:KV (nK nb) a):∀{na:qa (Key×Int)}{f:qa (Key×qd)},KV (nK na) f->W.KeqHits A s a f (Ey nb na)
 |[],_,.nil=>.nil
 |(k,n)::r,_,.cons (b:=q) h i=>by
  let#[j,u]:=q;let#[e,t,g]:=h;dsimp only at e g;subst e g;let o:=KV.val d k;unfold Ey
  cases c:QB (nK nb) k with
  |none=>
   rw[c] at o
   cases hw:valueAt a k with
   |none=>calc .miss hw
   |some w=>rw[hw] at o;calc absurd o (by intro z;cases z)
  |some v=>
   let#[m,U]:=bP c;rw[c] at o
   cases hw:valueAt a k with
   |none=>rw[hw] at o;calc absurd o (by intro z;cases z)
   |some w=>
    rw[hw] at o;obtain⟨t',rfl⟩:∃t',w=.int m t':=o;calc .hit hw (SeqAt.EqAt.int_int n t m t') (P4 d i)
inductive OL(c:Bool->Bool)(x:V)(y:V)(H:Hp)(Q:VK):Prop
 |mk:∀(a b:qc)(na nb:qa (Key×Int)),x=.ref a->y=.ref b->Rd H a (.dK (nK na))->Rd H b (.dK (nK nb))->Q (.bl (c (-na==-nb&&Ey nb na))) H->OL c x y H Q
def rEqM(c:Bool->Bool):R2:=λx y H Q=>OL c x y H Q
def bz(r:X.A.units+64<cLine):yN X (compareOp .NotEq) (rEqM not):=by
 intro fL s Z H x y v u Q I g i h;let#[a,b,na,nb,U,U,j,k,q]:=h;cases g;cases i;let#[_,l,m,c,n]:=Wz I.hok j;let#[_,db,o,d,p]:=Wz I.hok k;let e:=KV.length c;let f:=KV.length d;rw[nK,qh] at e f;calc W.keq_ne l db n p () (λ_=>P4 d c) {.bl (!(-m==-o&&Ey nb na)),H,I,U,?_};rw[<-e,<-f];calc q
def OQ{st:Stmt}{ts:TS}(d:PS X st ts):PS X st (λD Z H=>∃a b,H a=@(.dK b)/\∀c,ts D Z (upd H a (.jM c (.dK b)))):=by
 rintro fL s Z H D I ⟨a,b,e,h⟩;let#[c,J]:=I.freeze e;calc d fL s Z _ _ J (h c)
def UC{α β:Type}{lt:Nat->Nat->Bool}{f:α->W.KasT β}:∀t:W.KasT α,zJ lt (t.bind f)=zJ lt (f (zJ lt t))
 |.ret a=>rfl
 |.ask i j k=>UC (k (lt i j))
def I8{lt:Nat->Nat->Bool}{p:uk Nat}:∀(f n:Nat),(∀k,n<=k->k<n+f->lt (p.getD k 0) (p.getD (k-1) 0)=false)->zJ lt (W.kas_asc p f n)=n+f
 |0,n,_=>rfl
 |f+1,n,h=>by
  show zJ lt (if lt (p.getD n 0) (p.getD (n-1) 0)=true then .ret n else W.kas_asc p f (n+1))=_;rw[h n (qr _) (),qC ∅,I8 f (n+1) λk a b=>h k () ()];omega
def P0{ds:qa KD}(h:∀k,1<=k->k< -ds->g0 (ds.getD k (.inl 0)) (ds.getD (k-1) (.inl 0))=false):K5 ds=List.range (-ds):=by
 unfold K5;split
 .rfl
 .have a:∀k,k< -ds->(List.toArray (List.range (-ds))).getD k 0=k:=λk b=>by
   simp[Array.getD,b]
  let c:zJ (λi j=>g0 (ds.getD i (.inl 0)) (ds.getD j (.inl 0))) (W.kas_count (-ds) (List.toArray (List.range (-ds))))=(-ds,List.toArray (List.range (-ds))):=by
   unfold W.kas_count;rw[UC,I8 _ 1 λk d e=>a k ()<|a (k-1) ()<|h k d ()];rw[show 1+(-ds-1)=-ds by omega,qE (by simp)];rfl
  unfold W.kas_sort;rw[UC,c];dsimp only;rw[qC (zQ _)];show(List.toArray (List.range (-ds))).toList=_;simp
def Mw{xs:qa V}:(List.range (-xs)).map (λi=>xs.getD i .non)=xs:=by
 calc kH (by simp) λi b a=>?_;simp only[kI,xF];rw[qX,ql a];rfl
variable {a b n nrem:Nat}
structure SW(lt:Nat->Nat->Bool):Prop where
 asy:∀a b,lt a b=true->lt b a=false
 neg:∀a b c,lt a b=false->lt b c=false->lt a c=false
section
variable {lt:Nat->Nat->Bool}{p:uk Nat}
abbrev gA(p:uk Nat)(i:Nat):Nat:=p.getD i 0
def v8(lt:Nat->Nat->Bool)(p:uk Nat)(m:Nat):Prop:=∀i j,i<=j->j<m->lt (gA p j) (gA p i)=false
def wK(lt:Nat->Nat->Bool)(p:uk Nat)(m:Nat):Prop:=∀i j,i<=j->j<m->lt (gA p i) (gA p j)=false
def SW.wI(h:SW lt)(a:Nat):lt a a=false:=by
 cases e:lt a a with
 |false=>rfl
 |true=>calc absurd (h.asy a a e) (by rw[e];decide)
def KZ(p:uk Nat)(i:Nat):gA p i=(p[i]?).getD 0:=by
 unfold gA Array.getD;split
 .rename_i h;rw[z7 h];rfl
 .rename_i h;rw[jF ()];rfl
def aH(h:SW lt)(u:v8 lt p n)(e:n=0\/lt (gA p n) (gA p (n-1))=false):v8 lt p (n+1):=λi j a c=>by
 by_cases b:j<n
 .exact u i j a b
 .have:j=n:=by omega
  subst this;by_cases hi:i=j
  .subst hi;exact h.wI _
  .rcases e with e|e
   .omega
   .exact h.neg _ _ _ e (u i (j-1) () ())
def CB(h:SW lt)(u:wK lt p n)(e:n=0\/lt (gA p (n-1)) (gA p n)=false):wK lt p (n+1):=λi j a c=>by
 by_cases b:j<n
 .exact u i j a b
 .have:j=n:=by omega
  subst this;by_cases hi:i=j
  .subst hi;exact h.wI _
  .rcases e with e|e
   .omega
   .exact h.neg _ _ _ (u i (j-1) () ()) e
def Fd(h:SW lt):∀(f n:Nat),1<=n->v8 lt p n->v8 lt p (zJ lt (W.kas_asc p f n))/\n<=zJ lt (W.kas_asc p f n)/\zJ lt (W.kas_asc p f n)<=n+f/\(zJ lt (W.kas_asc p f n)<n+f->lt (gA p (zJ lt (W.kas_asc p f n))) (gA p (zJ lt (W.kas_asc p f n)-1))=true)
 |0,n,_,u=>{u,qr _,qr _,λz=>absurd z (zQ _)}
 |f+1,n,i,u=>by
  cases e:lt (gA p n) (gA p (n-1)) with
  |true=>
   let g:zJ lt (W.kas_asc p (f+1) n)=n:=by
    show zJ lt (if lt (gA p n) (gA p (n-1))=true then W.KasT.ret n else W.kas_asc p f (n+1))=n;rw[qE e];rfl
   rw[g];calc{u,qr _,Nat.le_add_right _ _,λ_=>e}
  |false=>
   let g:zJ lt (W.kas_asc p (f+1) n)=zJ lt (W.kas_asc p f (n+1)):=by
    show zJ lt (if lt (gA p n) (gA p (n-1))=true then W.KasT.ret n else W.kas_asc p f (n+1))=_;rw[e,qC ∅]
   rw[g];let#[a,b,c,d]:=Fd h f (n+1) () (aH h u (.inr e));calc{a,(),(),λz=>d ()}
def EqA(lt:Nat->Nat->Bool)(x y:Nat):Prop:=lt x y=false/\lt y x=false
def Hq(c:b<=p.size)(k:Nat):gA (W.kas_rev p a b) k=if a<=k/\k<b then gA p (a+b-1-k) else gA p k:=by
 rw[KZ];unfold W.kas_rev;rw[getElem?_mirror_all c];split<;>rw[KZ]
def Fy(h:SW lt)(g:b<=p.size)(e:∀i,a<=i->i<b->EqA lt (gA p i) (gA p (b-1)))(k:Nat):EqA lt (gA (W.kas_rev p a b) k) (gA p k):=by
 rw[Hq g];split
 .rename_i c
  let d:=e (a+b-1-k) () ();let f:=e k c.1 c.2;exact{h.neg _ _ _ d.1 f.2,h.neg _ _ _ f.1 d.2}
 .exact{h.wI _,h.wI _}
def Rt(h:SW lt){b:uk Nat}{m:Nat}(e:∀k,EqA lt (gA b k) (gA p k))(d:wK lt p m):wK lt b m:=λi j a c=>h.neg _ _ _ (e i).1 (h.neg _ _ _ (d i j a c) (e j).2)
def EqS(lt:Nat->Nat->Bool)(p:uk Nat)(n q:Nat):Prop:=∀i,n-(q+1)<=i->i<n->EqA lt (gA p i) (gA p (n-1))
def Rk(h:SW lt) :EqS lt p n 0:=λi a b=>by
 rw[show i=n-1 by omega];calc{h.wI _,h.wI _}
def Vj :(W.kas_rev p a b).size=p.size:=mirror_size _ _ _ _
def Ge(h:SW lt):∀(f:Nat)(p:uk Nat)(n q:Nat),1<=n->n+f<=p.size->wK lt p n->EqS lt p n q ->
 wK lt (zJ lt (W.kas_desc f p n q)).1 (zJ lt (W.kas_desc f p n q)).2.1/\(zJ lt (W.kas_desc f p n q)).1.size=p.size/\1<=(zJ lt (W.kas_desc f p n q)).2.1/\(zJ lt (W.kas_desc f p n q)).2.1<=n+f/\EqS lt (zJ lt (W.kas_desc f p n q)).1 (zJ lt (W.kas_desc f p n q)).2.1 (zJ lt (W.kas_desc f p n q)).2.2
 |0,p,n,q,k,_,d,e=>{d,U,k,qr _,e}
 |f+1,p,n,q,k,r,d,e=>by
  cases c:lt (gA p n) (gA p (n-1)) with
  |true=>
   let j:wK lt p (n+1):=CB h d (.inr (h.asy _ _ c));by_cases l:q > 0
   .have a:zJ lt (W.kas_desc (f+1) p n q)=zJ lt (W.kas_desc f (W.kas_rev p (n-(q+1)) n) (n+1) 0):=by
     show zJ lt (if lt (gA p n) (gA p (n-1))=true then (if q > 0 then W.kas_desc f (W.kas_rev p (n-(q+1)) n) (n+1) 0 else W.kas_desc f p (n+1) 0) else _)=_;rw[qE c,qE l]
    rw[a];let#[a1,a2,b,m,g]:=Ge h f (W.kas_rev p (n-(q+1)) n) (n+1) 0 () (by rw[Vj];omega) (Rt h (Fy h () e) j) (Rk h);exact{a1,a2.trans Vj,b,(),g}
   .have a:zJ lt (W.kas_desc (f+1) p n q)=zJ lt (W.kas_desc f p (n+1) 0):=by
     show zJ lt (if lt (gA p n) (gA p (n-1))=true then (if q > 0 then W.kas_desc f (W.kas_rev p (n-(q+1)) n) (n+1) 0 else W.kas_desc f p (n+1) 0) else _)=_;rw[qE c,qC l]
    rw[a];let#[a1,a2,b,m,g]:=Ge h f p (n+1) 0 () () j (Rk h);calc{a1,a2,b,(),g}
  |false=>
   cases j:lt (gA p (n-1)) (gA p n) with
   |true=>
    let a:zJ lt (W.kas_desc (f+1) p n q)=(p,n,q):=by
     show zJ lt (if lt (gA p n) (gA p (n-1))=true then _ else W.KasT.ask (p.getD (n-1) 0) (p.getD n 0) λd=>if d=true then .ret (p,n,q) else W.kas_desc f p (n+1) (q+1))=_;rw[c,qC ∅];show zJ lt (if lt (gA p (n-1)) (gA p n)=true then W.KasT.ret (p,n,q) else W.kas_desc f p (n+1) (q+1))=_;rw[qE j];rfl
    rw[a];calc{d,U,k,by show n<=n+(f+1);omega,e}
   |false=>
    let a:zJ lt (W.kas_desc (f+1) p n q)=zJ lt (W.kas_desc f p (n+1) (q+1)):=by
     show zJ lt (if lt (gA p n) (gA p (n-1))=true then _ else W.KasT.ask (p.getD (n-1) 0) (p.getD n 0) λd=>if d=true then .ret (p,n,q) else W.kas_desc f p (n+1) (q+1))=_;rw[c,qC ∅];show zJ lt (if lt (gA p (n-1)) (gA p n)=true then W.KasT.ret (p,n,q) else W.kas_desc f p (n+1) (q+1))=_;rw[j,qC ∅]
    rw[a];let#[a1,a2,b,m,g]:=Ge h f p (n+1) (q+1) () () (CB h d (.inr j)) λi l o=>by
     rw[show n+1-1=n by omega];by_cases hi:i=n
     .subst hi;exact{h.wI _,h.wI _}
     .have:=e i () ();exact{h.neg _ _ _ this.1 j,h.neg _ _ _ c this.2}
    calc{a1,a2,b,(),g}
def a6(a:n<=p.size)(d:wK lt p n):v8 lt (W.kas_rev p 0 n) n:=λi j b c=>by
 rw[Hq a,Hq a,qE {qR _,c},qE {qR _,()}];calc d _ _ () ()
def CN(h:SW lt)(e:1<=n)(f:n<=nrem)(g:nrem<=p.size)(d:wK lt p n):v8 lt (zJ lt (W.kas_tail3 n nrem p)).2 (zJ lt (W.kas_tail3 n nrem p)).1/\(zJ lt (W.kas_tail3 n nrem p)).2.size=p.size/\(zJ lt (W.kas_tail3 n nrem p)).1<=nrem:=by
 unfold W.kas_tail3;rw[UC];let#[a,b,c,_]:=Fd h (nrem-n) n e (a6 () d);calc{a,Vj,by show zJ lt (W.kas_asc (W.kas_rev p 0 n) (nrem-n) n)<=nrem;omega}
def Ky(h:SW lt)(j:1<=n)(k:n<nrem)(l:nrem<=p.size)(d:wK lt p (n+1)):v8 lt (zJ lt (W.kas_descPart n nrem p)).2 (zJ lt (W.kas_descPart n nrem p)).1/\(zJ lt (W.kas_descPart n nrem p)).2.size=p.size/\(zJ lt (W.kas_descPart n nrem p)).1<=nrem:=by
 unfold W.kas_descPart;rw[UC];let#[a1,a2,a,i,f]:=Ge h (nrem-(n+1)) p (n+1) 0 () () d (Rk h);generalize zJ lt (W.kas_desc (nrem-(n+1)) p (n+1) 0)=r at a1 a2 a i f;by_cases g:r.2.2 > 0
 .rw[qE g];let#[b,c,e]:=CN h (p:=W.kas_rev r.1 (r.2.1-(r.2.2+1)) r.2.1) (n:=r.2.1) (nrem:=nrem) a () (by rw[Vj];omega) (Rt h (Fy h () f) a1);exact{b,c.trans (Vj.trans a2),e}
 .rw[qC g];let#[b,c,e]:=CN h (p:=r.1) (n:=r.2.1) (nrem:=nrem) a () () a1;calc{b,c.trans a2,e}
def NG(h:SW lt)(m:1<=nrem)(o:nrem<=p.size):v8 lt (zJ lt (W.kas_count nrem p)).2 (zJ lt (W.kas_count nrem p)).1/\(zJ lt (W.kas_count nrem p)).2.size=p.size/\(zJ lt (W.kas_count nrem p)).1<=nrem:=by
 unfold W.kas_count;rw[UC];let#[a,b,c,d]:=Fd (p:=p) h (nrem-1) 1 (qr _) (λi j m q=>by rw[show i=0 by omega,show j=0 by omega];calc h.wI _);generalize zJ lt (W.kas_asc p (nrem-1) 1)=n at a b c d;by_cases f:(n==nrem)=true
 .rw[qE f];exact{a,U,by show n<=nrem;omega}
 .rw[qC f];let r:n≠nrem:=λz=>f (z<|zT _);let dl:=d ();by_cases e:n > 1
  .rw[qE e]
   cases g:lt (gA p 0) (gA p (n-1)) with
   |true=>
    let k:zJ lt (W.KasT.ask (p.getD 0 0) (p.getD (n-1) 0) λc=>if c=true then W.KasT.ret (n,p) else W.kas_descPart n nrem (W.kas_rev p 0 n))=(n,p):=by
     show zJ lt (if lt (gA p 0) (gA p (n-1))=true then _ else _)=_;rw[qE g];rfl
    rw[k];calc{a,U,by show n<=nrem;omega}
   |false=>
    let k:zJ lt (W.KasT.ask (p.getD 0 0) (p.getD (n-1) 0) λc=>if c=true then W.KasT.ret (n,p) else W.kas_descPart n nrem (W.kas_rev p 0 n))=zJ lt (W.kas_descPart n nrem (W.kas_rev p 0 n)):=by
     show zJ lt (if lt (gA p 0) (gA p (n-1))=true then _ else _)=_;rw[g,qC ∅]
    rw[k];let eq:∀i,i<n->EqA lt (gA p i) (gA p (n-1)):=λi hi=>{h.neg _ _ _ (a 0 i (qR _) hi) g,a i (n-1) () ()};let s:wK lt p n:=λi j t u=>h.neg _ _ _ (eq i ()).1 (eq j u).2;let l:wK lt p (n+1):=CB h s (.inr (h.asy _ _ dl));let#[v,w,x]:=Ky h (p:=W.kas_rev p 0 n) (n:=n) (nrem:=nrem) () () (Vj<|o) (Rt h (Fy h () λi _ hi=>eq i hi) l);exact{v,w.trans Vj,x}
  .rw[qC e];let g:n=1:=by omega
   subst g;calc Ky h (qr _) () o (CB h (λi j m q=>by rw[show i=0 by omega,show j=0 by omega];calc h.wI _) (.inr (h.asy _ _ dl)))
def GL(h:SW lt){k:Nat}(u:v8 lt p k):∀(f l r:Nat),l<=r->r<=k->r-l<=f->(∀i,i<l->lt (gA p k) (gA p i)=false)->(∀i,r<=i->i<k->lt (gA p k) (gA p i)=true) ->
 zJ lt (W.kas_place p k f l r)<=k/\(∀i,i<zJ lt (W.kas_place p k f l r)->lt (gA p k) (gA p i)=false)/\∀i,zJ lt (W.kas_place p k f l r)<=i->i<k->lt (gA p k) (gA p i)=true
 |0,l,r,m,j,n,e,g=>{by show l<=k;omega,e,λi hi b=>g i (by have:l<=i:=hi;omega) b}
 |f+1,l,r,m,j,n,e,g=>by
  by_cases a:l>=r
  .have d:zJ lt (W.kas_place p k (f+1) l r)=l:=by
    show zJ lt (if l>=r then W.KasT.ret l else _)=l;rw[qE a];rfl
   rw[d];exact{(),e,λi hi b=>g i () b}
  .cases c:lt (gA p k) (gA p ((l+r) / 2)) with
   |true=>
    let d:zJ lt (W.kas_place p k (f+1) l r)=zJ lt (W.kas_place p k f l ((l+r) / 2)):=by
     show zJ lt (if l>=r then W.KasT.ret l else W.KasT.ask (p.getD k 0) (p.getD ((l+r) / 2) 0) λc=>if c=true then W.kas_place p k f l ((l+r) / 2) else W.kas_place p k f ((l+r) / 2+1) r)=_;rw[qC a];show zJ lt (if lt (gA p k) (gA p ((l+r) / 2))=true then _ else _)=_;rw[qE c]
    rw[d];refine GL h u f l ((l+r) / 2) () () () e λi hi b=>?_
    cases z:lt (gA p k) (gA p i) with
    |true=>rfl
    |false=>calc absurd (h.neg _ _ _ z (u _ _ hi b)) (by rw[c];decide)
   |false=>
    let d:zJ lt (W.kas_place p k (f+1) l r)=zJ lt (W.kas_place p k f ((l+r) / 2+1) r):=by
     show zJ lt (if l>=r then W.KasT.ret l else W.KasT.ask (p.getD k 0) (p.getD ((l+r) / 2) 0) λc=>if c=true then W.kas_place p k f l ((l+r) / 2) else W.kas_place p k f ((l+r) / 2+1) r)=_;rw[qC a];show zJ lt (if lt (gA p k) (gA p ((l+r) / 2))=true then _ else _)=_;rw[c,qC ∅]
    rw[d];calc GL h u f ((l+r) / 2+1) r () j () (λi hi=>h.neg _ _ _ c (u _ _ () ())) g
def Rf{k d:Nat}(c:k<p.size)(hd:d<=k)(j:Nat):gA (bubble p k d) j=if j=k-d then gA p k else if k-d<j/\j<=k then gA p (j-1) else gA p j:=by
 rw[KZ,getElem?_bubble c d hd];by_cases a:j=k-d
 .rw[qE a,qE a,KZ]
 .rw[qC a,qC a];by_cases b:k-d<j/\j<=k
  .rw[qE b,qE b,KZ]
  .rw[qC b,qC b,KZ]
def aI(h:SW lt){k l:Nat}(e:k<p.size)(u:v8 lt p k)(m:l<=k)(f:∀i,i<l->lt (gA p k) (gA p i)=false)(g:∀i,l<=i->i<k->lt (gA p k) (gA p i)=true):v8 lt (bubble p k (k-l)) (k+1):=λi j d n=>by
 rw[Rf e (),Rf e (),show k-(k-l)=l by omega];by_cases hi:i=l
 .rw[qE hi];by_cases a:j=l
  .rw[qE a];exact h.wI _
  .rw[qC a,qE {(),()}];exact h.asy _ _ (g _ () ())
 .rw[qC hi];by_cases b:l<i/\i<=k
  .rw[qE b,qC (),qE {(),()}];exact u _ _ () ()
  .rw[qC b];by_cases a:j=l
   .rw[qE a];exact f _ ()
   .rw[qC a];by_cases c:l<j/\j<=k
    .rw[qE c];exact u _ _ () ()
    .rw[qC c];calc u _ _ d ()
def NH(h:SW lt):∀(f:Nat)(p:uk Nat)(k:Nat),k+f<=p.size->v8 lt p k->v8 lt (zJ lt (W.kas_bin f p k)) (k+f)/\(zJ lt (W.kas_bin f p k)).size=p.size
 |0,p,k,_,u=>#[u,U]
 |f+1,p,k,l,u=>by
  let g:zJ lt (W.kas_bin (f+1) p k)=zJ lt (W.kas_bin f (bubble p k (k-zJ lt (W.kas_place p k k 0 k))) (k+1)):=by
   show zJ lt ((W.kas_place p k k 0 k).bind _)=_;rw[UC]
  rw[g];let#[a,b,c]:=GL h u k 0 k (qR _) (qr _) () (λi hi=>absurd hi (yv _)) λi m j=>absurd j ();let#[d,e]:=NH h f (bubble p k (k-zJ lt (W.kas_place p k k 0 k))) (k+1) (by rw[bubble_size];omega) (aI h () u a b c);calc{by rw[show k+(f+1)=k+1+f by omega];calc d,e.trans (bubble_size ..)}
def RW(h:SW lt)(g:1<=n):v8 lt (zJ lt (W.kas_sort n)) n:=by
 unfold W.kas_sort;rw[UC];let hz:(List.toArray (List.range n)).size=n:=by simp
 let#[a,b,c]:=NG (p:=List.toArray (List.range n)) h g ();generalize zJ lt (W.kas_count n (List.toArray (List.range n)))=r at a b c;by_cases f:r.1<n
 .rw[qE f];let k:v8 lt r.2 (max r.1 1):=λi j d l=>by
   by_cases e:j<r.1
   .exact a i j d e
   .rw[show i=0 by omega,show j=0 by omega];exact h.wI _
  have:=(NH h (n-max r.1 1) r.2 (max r.1 1) () k).1;rw[show max r.1 1+(n-max r.1 1)=n by omega] at this;exact this
 .rw[qC f];rw[show n=r.1 by omega];calc a
end
def srt{α:Type}(key:α->KD)(xs:qa α):qa α:=(K5 (xs.map key)).filterMap λi=>xs[i]?
variable {m n:Nat}
structure Nz(k m:Nat)(d:PyData):Prop where
 s:d.showable=true
 h:d.hasDict=false
 d_:d.depth<=k
 l:-d.shown<=m
def Nz.up{k a b:Nat}{d:PyData}(h:Nz k m d)(c:k<=a)(e:m<=b):Nz a b d:={h.s,h.h,qQ h.d_ c,qQ h.l e}
def Nz.strN{x:qb}(a:ya x)(h:-x<=n):Nz 0 (10*n+10) (.str x):=⟨U,U,qr _,by
 have:=StrLaws.reprText_len x λc hc=>Nat.lt_trans (a c hc) ∅;show(reprText x).length<=10*n+10;omega⟩
def Nz.str{x:qb}(a:ya x)(h:-x<=99):Nz 0 1000 (.str x):=Nz.strN a h
def Nz.int{n:Int}(h0:0<=n)(a:n<=9999):Nz 0 1000 (.int n):=⟨by
 rw[PyData.showable];calc qw ?_;by_cases z:n.natAbs=0
 .rw[z];decide
 .exact Nat.lt_trans ((Nat.log2_lt z).mpr (show n.natAbs<2^14 by have:(2:Nat)^14=16384:=rfl;omega)) ∅,U,qr _,qQ (SV h0 a) ∅⟩
def Nz.all{k m:Nat}:∀{ds:qa PyData},(∀d∈ds,Nz k m d)->PyData.showableAll ds=true/\PyData.hasDictAll ds=false/\PyData.depthAll ds<=k/\piled (PyData.shownAll ds)<=-ds*(m+2)
 |[],_=>{7,qR _,qR _}
 |d::ds,h=>by
  let#[a,b,c,e]:=Nz.all (ds:=ds) λx f=>h x (qy _ f);let q:=h d (qA ..);let g:=q.d_;let i:=q.l;rw[PyData.showableAll,PyData.hasDictAll,PyData.shownAll,piled_cons,qU,Nat.succ_mul,q.s,a,q.h,b];erw[7,?_,()];rw[PyData.depthAll];omega
def Nz.lst{k:Nat}{ds:qa PyData}(h:∀d∈ds,Nz k m d)(g:-ds<=n):Nz (k+1) (2+n*(m+2)) (.list ds):=by
 let#[a,b,c,e]:=Nz.all h;let hm:=Nat.mul_le_mul_right (m+2) g;erw[PyData.showable<|a,PyData.hasDict<|b,by rw[PyData.depth];omega,?_];let f:=KA (m:=m) (ds.map PyData.shown) 0 "[" λt i=>by
  let#[d,hd,U]:=qj.mp i;exact(h d hd).l
 let j:-("[":qb)=1:=by decide +kernel
 let l:-("]":qb)=1:=by decide +kernel
 let e:(PyData.list ds).shown=listText (ds.map PyData.shown):=by
  show listText (PyData.shownAll ds)=_;rw[Xz]
 rw[e];unfold listText;rw[qh] at f;rw[Wa,l];rw[j] at f;omega
def Nz.tup{k:Nat}{ds:qa PyData}(h:∀d∈ds,Nz k m d)(f:-ds<=n):Nz (k+1) (3+n*(m+2)) (.tuple ds):=by
 let#[a,b,c,e]:=Nz.all h;let hm:=Nat.mul_le_mul_right (m+2) f;erw[PyData.showable<|a,PyData.hasDict<|b,by rw[PyData.depth];omega,?_];rw[PyData.shown];unfold tupleText;rw[Wa,Wa];let g:-((("(":String):qb))=1:=rfl;let i:-(((if -(PyData.shownAll ds)==1 then ",)" else ")":String):qb))<=2:=by split<;>decide
 let j:-(Str.join ", " (PyData.shownAll ds))<=piled (PyData.shownAll ds):=by
  by_cases z:PyData.shownAll ds=[]
  .rw[z];decide
  .have:=join_length_add _ z;omega
 omega
def Uz{X:Cx}(b:X.A.guards=some [])(c:X.A.units+64<cLine):Uk X (.builtin "repr") (λxs H Q=>∃(v:V)(d:PyData),xs=[v]/\((∃x,v=.ref x)\/∃i,v=.int i)/\RD X.K H v d/\Nz 10 sizeLine d/\Q (.str d.shown) H):=by
 intro fL s Z H xs us Q I r h;let#[v,d,U,f,hd,a,q]:=h;obtain⟨x,rfl⟩|⟨i,rfl⟩:=f
 .exact BP b c fL s Z H _ _ Q I r #[x,d,U,hd,a.s,a.h,a.d_,a.l,q]
 .cases hd;let#[u,U,t,U]:=UG r;let e:=a.s;rw[PyData.showable] at e;exact PySem.P.repr_of_int (qL e) {.str _,H,I.tok _,{0},q}
open AutoSeq1 (wpAny_loadPart')
def Tg{lt:Nat->Nat->Bool}(a:SW lt)(n:Nat):(XW lt n).Pairwise λi j=>lt j i=false:=by
 unfold XW;split
 .rename_i h
  match n,h with
  |0,_=>calc .nil
  |1,_=>exact jY _ _
 .rename_i h
  let up:=RW a (n:=n) ();let pr:U5 n (zJ lt (W.kas_sort n)):=(XU (n:=n) ()).end_;generalize zJ lt (W.kas_sort n)=p at up pr;let hsz:-p.toList=n:=by rw[pr.length_eq,zU]
  calc List.pairwise_iff_getElem.mpr λi j hi b c=>?_;let d:gA p i=p.toList[i]:=by rw[KZ,<-zv,ql hi];rfl
  let e:gA p j=p.toList[j]:=by rw[KZ,<-zv,ql b];rfl
  rw[<-d,<-e];calc up i j () ()
def Ow{prog:uh}{w:ui}{A:uj}{E:qf}{s:ug}{a b:qb}{t u:Tok}{Q:qf}(h:Q (.bool (decide (a.cps.toList<b.cps.toList))) s):wpAny (model prog w) A (richCompare .Lt (.str a t) (.str b u)) Q E s:=
 wpAny_richCompare_same (vU s a t) (vU s b u) slot_str_lt (call_str_lt #[nofun,h])
def EH{prog:uh}{w:ui}{A:uj}{E:qf}{s:ug}{v:qd}{Q:Bool->ug->Prop}(h:Q true s):wpAny (model prog w) A (eqBool v v) Q E s:=by
 unfold eqBool;calc zL ?_;rw[qE (zT v)]
 wp_walk
 calc h
def Ml(l:qc)(fM:uk qd)(n:Nat)(k:Nat) :
 ∀i:Nat,fM.size-i=k->i<=fM.size->Meets (Builtin.«list.__eq__.loop» {[.ref l,.ref l,rawInt i,rawInt 0],[]})
  (λ_ R s=>s.heap.get? l=some {cls:=.type "list",dict:=none,data:=.seq fM n,slots:=#[]}/\R (.ok (.ret (.bool false))) s):=by
 induction k with
 |zero=>
  intro i b hi prog w A R s h;let#[c,g,d,e,os]:=s;let#[a,h]:=h
  wp_walk using zX a
  rw[show fM[((i:Nat):Int).toNat]?=none by simp;omega]
  wp_walk using zX a
  rw[show false=decide (fM.size<fM.size) from(qK (zQ _)).symm] at h;calc h
 |succ k f=>
  intro i b hi prog w A R s h;let#[c,g,d,e,os]:=s;let#[a,h]:=h;let j:i<fM.size:=by omega
  let hc:((i:Int)+1)=((i+1:Nat):Int):=by push_cast;rfl
  wp_walk using zX a
  rw[show fM[((i:Nat):Int).toNat]?=some fM[i] by simp[j]];refine qi (EH ?_)
  wp_walk
  rw[hc];exact⟨jj yU _,zW MeetsSeq3.entry_eq_loop (by
   rw[zA yU _];calc f (i+1) () () prog w A R _ #[a,h])⟩
def Ri(l b:qc)(fM items2:uk qd)(n i:Nat){x y:qb}{t u:Tok}(e:fM[0]?=@(.str x t))(a:items2[0]?=@(.str y u))(hd:x≠y\/(l=b/\fM=items2/\n=i)):Meets (Builtin.«list.__lt__» {[.ref l,.ref b],[]})
 (λ_ R s=>s.heap.get? l=some {cls:=.type "list",dict:=none,data:=.seq fM n,slots:=#[]}/\s.heap.get? b=some {cls:=.type "list",dict:=none,data:=.seq items2 i,slots:=#[]} /\
   R (.ok (.ret (.bool (decide (x.cps.toList<y.cps.toList))))) s):=by
 intro prog w A R s h;let#[j,g,d,k,os]:=s;let#[c,f,h]:=h;let m:=AutoSeq1.sub_list_list
 wp_walk using zX c,zX f
 erw[jj yU _,zW MeetsSeq3.entry_eq_loop ?_];rw[zA yU _];obtain ne|⟨rfl,rfl,rfl⟩:=hd
 .wp_walk using zX c,zX f
  rw[show fM[Int.toNat 0]?=@(.str x t) from e,show items2[Int.toNat 0]?=@(.str y u) from a];calc qi (eqBool_str ?_);rw[show(x==y)=false from z8.mpr ne]
  wp_walk using zX c,zX f
  rw[show fM[Int.toNat 0]?=@(.str x t) from e,show items2[Int.toNat 0]?=@(.str y u) from a];refine qi (Ow ?_)
  wp_walk
  exact h
 .obtain rfl:x=y:=by rw[e] at a;cases a;rfl
  rw[qK (List.lt_irrefl _)] at h;calc Ml l fM n _ 0 rfl (qR _) prog w A R _ #[c,h]
def FA{α:Type}(xs:qa α):(List.range (-xs)).filterMap (λi=>xs[i]?)=xs:=by
 induction xs with
 |nil=>rfl
 |cons x xs a=>
  rw[qU,List.range_succ_eq_map,jB,List.filterMap_map];calc zp (x::·) a
inductive DG{α:Type}(f:α->qc)(nm:α->qb)(tl:α->qa V)(K:Frag)(us:qa V)(H:Hp)(Q:VK):Prop
 |mk:∀(p:qc)(xs:qa α),us=[.ref p]->zm K H p (xs.map λx=>V.ref (f x))->(∀x∈xs,H (f x)=@(.lst (.str (nm x)::tl x)))->(xs.map nm).Nodup->-xs<64->(∀l (ys:qa α),H l=none->ys.Perm xs->vC (ys.map nm)->Q (.ref l) (upd H l (.lst (ys.map λx=>V.ref (f x)))))->DG f nm tl K us H Q
def dq(f:Nat->qb):SW λi j=>decide ((f i).cps.toList<(f j).cps.toList) where
 asy a b h:=qK λz=>List.lt_asymm (qL h) z
 neg a b c e g:=by
  let k:=(Vw (f b) (f a)).mpr (wC e);let l:=(Vw (f c) (f b)).mpr (wC g);calc qK ((Vw (f c) (f a)).mp (Kl l k))
def CF{X:Cx}{α:Type}(f:α->qc)(nm:α->qb)(P:α->qa V)(hu:X.A.units+64<cLine):Uk X (.builtin "sorted") (λus H Q=>DG f nm P X.K us H Q):=by
 intro fL s Z H us vs Q I r h;let#[p,xs,U,hS,S,Y,hl,q]:=h;let#[u,U,rx]:=UG r;cases rx;let#[its,G,pl,_]:=I.list hS;let hlen:-its=-xs:=by have:=-G;rw[qh] at this;exact this.symm
 let l:-its<=sizeLine:=QT ();calc yC kind_sorted gV gW (args_sorted1 _) ?_;unfold Builtin.«sorted»;calc qi (m:=checkCount "sorted" 1 1 _) (qv ?_);calc qi (collect_list pl.isList ?_ l);calc qi (yI ?_ l);let hsz:((s.heap.push (seqObj "list" #[] 0)).update (!s) (Obj.mapSeq λx=>x++its.toArray)).objs.size=(!s)+1:=by rw[vH,size_push']
 let c:(((s.heap.push (seqObj "list" #[] 0)).update (!s) (Obj.mapSeq λx=>x++its.toArray)).push (seqObj "list" its.toArray 0)).get? ((!s)+1)=@(seqObj "list" its.toArray 0):=by
  rw[<-hsz];exact qH _ rfl
 let old:∀b o,s.heap.get? b=some o->(((s.heap.push (seqObj "list" #[] 0)).update (!s) (Obj.mapSeq λx=>x++its.toArray)).push (seqObj "list" its.toArray 0)).get? b=some o/\b≠(!s)+1:=λb o e=>by
  let w:=qO e;erw[?_,zc (jb w)];rw[Heap.get?_push_ne _ b _ (hsz<|zc (jb w)),gF _ _ _ _ (zc w)];exact qt _ e
 rw[show(Value.ref ((s.heap.push (seqObj "list" #[] 0)).update (!s) (Obj.mapSeq λx=>x++its.toArray)).objs.size)=.ref ((!s)+1) by rw[hsz]];let d:∀i,i< -its->∃x∈xs,xs[i]?=some x/\its.getD i .none=.ref (f x)/\∃(fM:uk qd)(n:Nat)(t:Tok),s.heap.get? (f x)=@(seqObj "list" fM n)/\fM[0]?=@(.str (nm x) t):=λi hi=>by
  let a:i< -xs:=by omega
  let#[v,ev,A]:=G.get (i:=i) (x:=.ref (f xs[i])) (by rw[qD,ql a];rfl);let#[_,us,n,B,k]:=(show QU X.prog X.w H s.heap (f xs[i]) (.lst (.str (nm xs[i])::P xs[i])) from I.hok _ _ (S _ (zx a)))
  cases B with
  |cons D _=>
   let#[t,U]:=D;exact{xs[i],zx a,ql a,qX<|ev<|Cd A,_,n,t,k,U}
 refine let g:Nat->qb:=λi=>(xs[i]?.map nm).getD "";?_
 refine qi (zL (zV vO {_,c,U} vq (KU (λi j=>decide ((g i).cps.toList<(g j).cps.toList)) c () (λs' J Q' E K=>?_) {0,?_}) (args_list_sort _)))
 .refine W.kas_kind (T:=.type "list") K (λv hv=>?_) ∅ ∅ (E _ λi j C hi L E=>?_)
  .let#[i,hi,U]:=xg hv;let#[x,_,_,e,fM,n,t,k,_]:=d i hi;rw[qX,ql hi] at e;rw[show its[i]=.ref (f x) from e];let o:=old _ _ k;exact(show W.Looks _ _ (typeOf (.ref (f x))) _ from(W.Looks.ld (J _ _ o.2 o.1)).andThen .now)
  let#[x,A,ex,e1,fM,n,t,k,e0]:=d i hi;let#[y,B,ey,e2,items2,n2,t2,a,M]:=d j L;let gx:g i=nm x:=by show(xs[i]?.map nm).getD ""=_;rw[ex];rfl
  let gy:g j=nm y:=by show(xs[j]?.map nm).getD ""=_;rw[ey];rfl
  rw[gx,gy] at E;show wpAny _ _ (keyLt' _ (its.getD i .none) (its.getD j .none)) _ _ _;rw[e1,e2,keyLt'_oneType,oneLt'_eq];simp only[yH];let D:=old _ _ k;let F:=old _ _ a;let N:=J _ _ D.2 D.1;let K:=J _ _ F.2 F.1;calc qi (wpAny_cRoomFor (by show X.A.units+1+1<cLine;omega) ?_);refine qi (wpAny_callSpecialIfBound?_slot (name:=(cmpInfo .Lt).2.1) {_,N,U} PySem.F.slot_list_lt (vV PySem.F.slot_list_lt {_,N,U} PySem.F.entry_list_lt (PySem.F.args_list_lt_2 _ _) (Ri (f x) (f y) fM items2 n n2 e0 M ?_) {N,K,?_}))
  .by_cases z:nm x=nm y
   .obtain rfl:x=y:=by
     let#[m,hm,e]:=xg A;let#[m',O,R]:=xg B;have:m=m':=(wX (qh<|hm) Y).mp (qD<|qD<|ql hm<|ql O<|e<|R<|zp some z);subst this;exact e.symm.trans R
    rw[k] at a;cases a;exact .inr #[U,U,U]
   .exact .inl z
  .exact zY E
 calc qv {0,?_};let#[e,he]:=sortedHeap_at (out:=((XW (λi j=>decide ((g i).cps.toList<(g j).cps.toList)) (-its)).map λi=>its.getD i .none).toArray) c;let hz:(!s)<=(!s)+1:=jt _;let k:=BH (λi j=>decide ((g i).cps.toList<(g j).cps.toList)) (-its);let M:=Tg (dq g) (-its);generalize XW (λi j=>decide ((g i).cps.toList<(g j).cps.toList)) (-its)=a at k M he;rw[hlen] at k;let N:∀i∈a,i< -xs:=λi hi=>jV.mp (k.mem_iff.mp hi);let ex:a.map (λi=>(xs.map λx=>V.ref (f x)).getD i .non)=(a.filterMap λi=>xs[i]?).map λx=>V.ref (f x):=by
  clear k M he
  induction a with
  |nil=>rfl
  |cons i a O=>
   let hi:=N i qA;rw[qZ,jB,ql hi,O λj L=>N j (qy _ L),qX,qD,ql hi];rfl
 let pm:(a.filterMap λi=>xs[i]?).Perm xs:=by
  have:=k.filterMap λi=>xs[i]?;rw[show(List.range (-xs)).filterMap (λi=>xs[i]?)=xs from FA xs] at this;exact this
 let L:vC ((a.filterMap λi=>xs[i]?).map nm):=by
  rw[List.map_filterMap];calc List.pairwise_filterMap.mpr (M.imp λ{i j} h x A y B=>?_);let A:g i=x:=by show(xs[i]?.map nm).getD ""=x;rw[A];rfl
  let B:g j=y:=by show(xs[j]?.map nm).getD ""=y;rw[B];rfl
  rw[<-A,<-B];exact(Vw _ _).mpr (wC h)
 have:=q ((!s)+1) _ (I.hok.fresh hz) pm L;rw[<-ex] at this;erw[.ref ((!s)+1),_,I.laid (t':=s.toks) (λb u w=>?_) hz (show QU X.prog X.w _ _ _ (.lst (a.map λi=>(xs.map λx=>V.ref (f x)).getD i .non)) from{?_,a.map (λi=>its.getD i .none),e,Xv G λi hi=>?_,he}),U,this]
 .let#[D,F]:=old b u w;rw[sortedHeap_old F (qO D)];exact D
 .rw[qh,k.length_eq,zU];exact QT ()
 .rw[qh];calc N i hi
end L2
variable {i:Nat}{r:qc}{ks:qe}
namespace K54
open PySem L2
abbrev ZZ:qb:="facts"
abbrev ZJ:qb:="entries"
abbrev Za:qb:="letters"
abbrev Zb:qb:="boxes"
abbrev Zc:qb:="ledger"
abbrev Zd:qb:="put"
abbrev Ze:qb:="mark"
abbrev Zf:qb:="bearers"
abbrev Zg:qb:="hand"
abbrev Zh:qb:="links"
abbrev Zi:qb:="replies"
abbrev Zj:qb:="inbox"
abbrev Zk:qb:="drop"
abbrev Zl:qb:="place"
abbrev Zm:qb:="shelves"
abbrev Zn:qb:="tags"
abbrev Zo:qb:="abcdefghijklmnopqrstuvwxyz0123456789"
abbrev Zp:qb:="hung"
abbrev Zq:qb:="zz"
abbrev Zr:qb:="listed"
abbrev Zs:qb:="seen"
abbrev Zt:qb:="inside"
abbrev Zu:qb:="board"
abbrev Zv:qb:="drawers"
abbrev Zw:qb:="_law_asked"
abbrev Zx:qb:="_law_word"
abbrev Zy:qb:="ruling"
abbrev jg:=Nat->qc
abbrev nn(i:Nat):qe:=nmO (tb i)
def a3:∀t∈tab,scO (nmO t) t.2.1=true:=by decide +kernel
def TX{i:Nat}(h:i<116):tb i∈tab:=by unfold tb;rw[qX,ql (show i< -tab from h)];calc zx _
def sc(i:Nat)(h:i<116:=by decide):Wc (nn i) (xJ (sO i)) (Qs (sO i)):=dP (a3 _ (TX h))
noncomputable def cE(K:Frag)(mg:qb->uf qd)(a:jg)(f:Fc):Prop:=Fc.rec (motive:=λ_=>Prop) (λx i=>mg x=@(.ref (a i))) (λx v=>∃u,mg x=some u/\QL v u) (λx=>mg x=none) (λi=>wA K (a i)) (λi j=>Mk K (a i) (a j)) (λi x j=>Nw K (a i) x (a j)) (λi x=>WG K (a i) x) True f
noncomputable def nF(l:qa Fc):Nat->Fc:=List.rec (motive:=λ_=>Nat->Fc) (λ_=>.z) (λp _ a n=>Nat.rec (motive:=λ_=>Fc) p (λm _=>a m) n) l
structure Txt(P:uh)(w:ui)(K:Frag)(mg:qb->uf qd)(base:Heap)(a:jg)(fd:Nat->FuncData):Prop where
 h:∀i,cE K mg a (nF fx i)
 m:∀(i:Nat)(_:i<36:=by decide),mg (vY (sO i))=@(.ref (a i))
 F:∀(i:Nat)(_:i<107:=by decide),wz K (vY (sO i)) (qN (tb i)) (sO i) (a i) (fd i)
 D:∀(i:Nat)(_:i<116:=by decide)(_:107<=i:=by decide),CI K (vY (sO i)) (qN (tb i)) (sO i) (a i) (fd i)
 B:∀(i:Nat)(_:i<116:=by decide),YN K (fd i) (xJ (sO i)) []
 uJ:∃ds,QF [.str Zj,.non] ds/\YN K (fd 107) (xJ (sO 107)) ds
 d107_1:∃ds,QF [.non] ds/\YN K (fd 107) (xJ (sO 107)) ds
 d108_0:∃ds,QF [.str ""] ds/\YN K (fd 108) (xJ (sO 108)) ds
 d109_0:∃ds,QF [.str Zj,.non] ds/\YN K (fd 109) (xJ (sO 109)) ds
 d109_1:∃ds,QF [.non] ds/\YN K (fd 109) (xJ (sO 109)) ds
 w9:∃ds,QF [.non] ds/\YN K (fd 110) (xJ (sO 110)) ds
 d111_0:∃ds,QF [.str ""] ds/\YN K (fd 111) (xJ (sO 111)) ds
 d112_0:∃ds,QF [.non] ds/\YN K (fd 112) (xJ (sO 112)) ds
 uI:∃ds,QF [.str ""] ds/\YN K (fd 113) (xJ (sO 113)) ds
 uH:∃ds,QF [.bl true] ds/\YN K (fd 114) (xJ (sO 114)) ds
 uG:∃ds,QF [.non] ds/\YN K (fd 115) (xJ (sO 115)) ds
section Z
variable {fd:Nat->FuncData}{P:uh}{w:ui}{K:Frag}{mg:qb->uf qd}{base:Heap}{a:jg}
instance:CoeFun (Txt P w K mg base a fd) (λ_=>∀i,cE K mg a (nF fx i)):=#[Txt.h]
abbrev Txt.k(_:Txt P w K mg base a fd)(C:gj)(n i:Nat)(sp:Sp):Prop:=VJ P w K mg base C n (a i) (fd i) (xJ (sO i)) sp
abbrev Txt.cx(_:Txt P w K mg base a fd)(i:Nat)(b:qd)(A:uj)(outer:qa Env)(s:ug)(H:Hp)(E:XK):Cx:=(EL ja P w K mg base (nn i) (qN (tb i)) (Qs (sO i)) (a i) b A outer s H E).uw
def Txt.ok(T:Txt P w K mg base a fd)(i:Nat){k:Nat}{sp:Sp}(b:∀(c:qd)(A:uj)(outer:qa Env)(s:ug)(H:Hp)(vs:qa V)(Q:VK)(E:XK),Yu k (A.deeper (envOfC (qN (tb i)) (Qs (sO i)) (!s) (a i) c))->sp vs H Q E->∃t,vn (T.cx i c A outer s H E) (YB (sO i)) t/\t {nx:=λ_ H'=>Q .non H',rt:=Q} (start (nn i) vs) H)(len:∀vs H Q E,sp vs H Q E->-vs=-(xJ (sO i)):=by intro _ _ _ _ h;cases h<;>subst_vars<;>rfl)(h:i<107:=by decide):T.k ja (k+1) i sp:=(T.F i h).ok (sc i (qV h ∅)) b len
variable {X:Cx}{CX:gj}{i k:Nat}{sp:Sp}{E:XK}{x m:qb}{p pos apos:Pos}{e o:Expr}{es:qa Expr}{ta:TE}{t:TA}{C:qc}{pl:Sem Bool}
def Txt.cl(T:Txt P w K mg base a fd)(G:VJ P w K mg base ja k (a i) (fd i) (xJ (sO i)) sp)(d:PA X (e::es) t)(f:L7 X P w K mg base:=by exact#[U,U,U,U,U])(g:Yu k X.A:=by calc Yu.up (by assumption))(h:Gl X x:=by rfl)(j:vY (sO i)=x:=by rfl)(hi:i<36:=by decide)(b:(x==("__debug__":qb))=false:=by decide)(he:starEach (e::es) X.env=(false,eval e X.env)::starEach es X.env:=by rfl)(c:(backTo pos (starEach es X.env)).any (·.1)=false:=by rfl):PE X (.Call (.Name x p) (e::es) [] pos) (TZ sp [] E0 t):=by
 let#[U,U,U,U,U]:=f;calc Lo G g h (by rw[<-j];calc T.m i hi) (T.F i (qV hi ∅)).kp (T.B i (qV hi ∅)) .nil UW d b he c
def Txt.me(T:Txt P w K mg base a fd)(g:PE X o ta)(c:wA K C)(hm:Nw K C m (a i))(G:VJ P w K mg base ja k (a i) (fd i) (xJ (sO i)) sp)(h:PA X (e::es) t)(j:L7 X P w K mg base:=by exact#[U,U,U,U,U])(l:Yu k X.A:=by calc Yu.up (by assumption))(hi:i<116:=by decide)(he:starEach (e::es) X.env=(false,eval e X.env)::starEach es X.env:=by rfl)(b:(backTo pos (starEach es X.env)).any (·.1)=false:=by rfl)
 (n:eval (.Call (.Attribute o m apos) (e::es) [] pos) X.env=(do
   let d <-eval o X.env
   standAt apos.atName
   let (f,first) <-holding [d] (getMethod d m pl)
   callWith pos f first (backTo pos (starEach (e::es) X.env)) (backToKw pos (keywordEach [] X.env))):=by rfl):PE X (.Call (.Attribute o m apos) (e::es) [] pos) (HZ C m sp [] E0 ta t):=by
 let#[U,U,U,U,U]:=j;calc WN (pl:=pl) g c hm G l (T.B i hi) .nil UW h he b n
def Txt.mn(T:Txt P w K mg base a fd)(d:PE X o ta)(c:wA K C)(hm:Nw K C m (a i))(G:VJ P w K mg base ja k (a i) (fd i) (xJ (sO i)) sp)(e:L7 X P w K mg base:=by exact#[U,U,U,U,U])(g:Yu k X.A:=by calc Yu.up (by assumption))(hi:i<116:=by decide)
 (h:eval (.Call (.Attribute o m apos) [] [] pos) X.env=(do
   let b <-eval o X.env
   standAt apos.atName
   let (f,first) <-holding [b] (getMethod b m pl)
   callWith pos f first (backTo pos (starEach [] X.env)) (backToKw pos (keywordEach [] X.env))):=by rfl):PE X (.Call (.Attribute o m apos) [] [] pos) (HZ C m sp [] E0 ta Mi):=by
 let#[U,U,U,U,U]:=e;calc DN (pl:=pl) d c hm G g (T.B i hi) .nil UW h
def Txt.ma(T:Txt P w K mg base a fd)(M:Mk K C (a i))(hm:mg x=@(.ref C))(G:VJ P w K mg base ja k (a i) (fd i) (xJ (sO i)) sp)(d:PA X (e::es) t)(f:L7 X P w K mg base:=by exact#[U,U,U,U,U])(g:Yu (k+1) X.A:=by calc Yu.up (by assumption))(h:Gl X x:=by rfl)(hi:i<116:=by decide)(b:(x==("__debug__":qb))=false:=by decide)(he:starEach (e::es) X.env=(false,eval e X.env)::starEach es X.env:=by rfl)(c:(backTo pos (starEach es X.env)).any (·.1)=false:=by rfl):PE X (.Call (.Name x p) (e::es) [] pos) (NR C sp [] E0 t):=by
 let#[U,U,U,U,U]:=f;calc Lm M G g h hm (T.B i hi) .nil UW d b he c
end Z
variable {P:uh}{w:ui}{K:Frag}{mg:qb->uf qd}{base:Heap}{a:jg}{fd:Nat->FuncData}{i j n:Nat}{xs:qa V}{v:V}{bf mk:qb->qe}{an b hd m s t x y:qb}{M N W WI ws ys:qe}{H H' H1 H2:Hp}{B D Dl E L Rl T1 c db dx l q u xf xi xr xt:qc}{bs tg:qa (qb×qc)}{F:qa qc}{o:HO}{bx:Rows}{kr:qa (Key×V)}{kd:qa (qa Key×V)}{A:uj}{Q:VK}{Z:St}
variable(T:Txt P w K mg base a fd)
inductive C3(vs:qa V)(H:Hp)(Q:VK)(E:XK):Prop
 |mk:∀(nm:qb)(L:qc)(fN:qa (Key×V))(v:V),vs=[.str nm,.ref L]->H L=some (.dK fN)->QB fN (inr nm)=some v->Q .non H->C3 vs H Q E
inductive Od(vs:qa V)(H:Hp)(Q:VK)(E:XK):Prop
 |mk:∀(nm:qb)(L:qc)(fN:qa (Key×V)),vs=[.str nm,.ref L]->H L=some (.dK fN)->QB fN (inr nm)=none->Q .non H->Od vs H Q E
def BE :kitOne K (.type "str") (.type "str")=some true:=by unfold kitOne;rw[qE (zT _)]
def YU:T.k ja 1 14 C3:=by
 refine T.ok 14 (λb A outer st H vs Q E c h=>?_)
 .let#[nm,L,d,v,U,e,f,k]:=h;let g:=Yt c;erw[_,(Qe (QE (Ux (UD g (pv 0) (pv 1))) (Qe YE) Qu)),?_];erw[5,L,0,Yf.k (k:=inr nm) e,0,?_];rw[f];calc QQ k
def FZ:T.k ja 1 15 Od:=by
 refine T.ok 15 (λb A outer st H vs Q E c h=>?_)
 .let#[nm,L,d,U,e,f,k]:=h;let g:=Yt c;erw[_,(Qe (QE (PW.pt (We (YQ (YD (Qn QY rfl (T 10) boot_isinstance (q9 (pv 0) (q9 (YX (v:=.ty "str") rfl (T 18) boot_str rfl) Qg))))) (V2 (Ux (Xj g (pv 0) (pv 1)))))) (Qe YE) Qu)),?_];erw[0,9,3,VF.str nm,BE,0,QQ ?_];erw[5,L,0,Yf.k (k:=inr nm) e,0,?_];rw[f];calc QQ k
section
variable {α:Type}
def dG(f:α->qb)(g:α->V)(xs:qa α):qa (Key×V):=xs.map λr=>(inr (f r),g r)
def UK{f:α->qb}{g:α->V}{n:qb}:∀{xs:qa α},¬n∈xs.map f->QB (dG f g xs) (inr n)=none
 |[],_=>rfl
 |r::xs,h=>by
  show QB ((inr (f r),g r)::dG f g xs) (inr n)=_;rw[Yp λe=>h (by rw[<-jG e];calc qA)];calc UK λz=>h (qy _ z)
def Q5{f:α->qb}{g:α->V}{r:α}:∀{xs:qa α},(xs.map f).Nodup->r∈xs->QB (dG f g xs) (inr (f r))=@(g r)
 |[],_,h=>nomatch h
 |y::xs,a,h=>by
  rw[qZ,zN] at a;show QB ((inr (f y),g y)::dG f g xs) (inr (f r))=_;obtain rfl|h:=qx.mp h
  .exact Yw rfl
  .rw[Yp λe=>a.1 (jG e<|qj.mpr #[r,h,U])];calc Q5 a.2 h
def Aw{f:α->qb}{g:α->V}{xs:qa α}{n:qb}(r:α)(h:¬n∈xs.map f)(a:f r=n)(b:g r=v):Yz (dG f g xs) (inr n) v=dG f g (xs++[r]):=by
 rw[XF _ (UK h)];simp[dG,a,b]
def V9(f:α->qb)(g:α->V)(n:qb):∀xs:qa α,Ub (dG f g xs) (inr n)=dG f g (xs.filter λr=>decide (f r≠n))
 |[]=>rfl
 |r::xs=>by
  show Ub ((inr (f r),g r)::dG f g xs) (inr n)=_;by_cases h:f r=n
  .rw[Kr (by rw[h]),V9 f g n xs];simp[zi,h]
  .rw[Ks (λe=>h (jG e)),V9 f g n xs];simp[zi,h,dG]
def Ax(f:α->qb)(g:α->V)(xs:qa α):-(dG f g xs)=-xs:=qh _
def TB(f:α->qb)(g:α->V)(xs:qa α):(dG f g xs).map (λa=>kV a.1)=(xs.map f).map V.str:=by
 unfold dG;rw[qI,qI];rfl
end
def Y4(bf:qb->qe)(w:qb)(ys:qe):qb->qe:=λt=>if t=w then ys else bf t
def Yr(bf:qb->qe)(w:qb)(ys:qe):Y4 bf w ys w=ys:=qE rfl
def YL{w:qb}(h:t≠w):Y4 bf w ys t=bf t:=qC h
abbrev yl(bs:qa (qb×qc)):qa (Key×V):=dG (·.1) (λb=>V.ref b.2) bs
structure BD(H:Hp)(E B:qc)(bs:qa (qb×qc))(bf:qb->qe)(W:qe):Prop where
 nd:(bs.map (·.1)).Nodup
 wG:(bs.map (·.2)).Nodup
 at_:∀p∈bs,H p.2=@(.dK (Qt (bf p.1)))/\p.2≠E/\p.2≠B/\bf p.1≠[]/\p.1∈W
 xO:∀t,¬t∈bs.map (·.1)->bf t=[]
def BD.len(h:BD H E B bs bf W):-bs<=-W:=by
 have:=Y9 h.nd λm hm=>by
  let#[p,a,U]:=qj.mp hm;exact(h.at_ p a).2.2.2.2
 rw[qh] at this;calc this
def BD.congr{a:qb->qe}(h:BD H E B bs bf W)(k:∀p∈bs,∀o,H p.2=some o->H' p.2=some o)(e:∀t,a t=bf t):BD H' E B bs a W:=
 {h.nd,h.wG,λp b=>e<|{k p b _ (h.at_ p b).1,(h.at_ p b).2},λt c=>e<|h.xO t c}
def YY{α β:Type}{f:α->β}{xs:qa α}(g:(xs.map f).Nodup){a b:α}(h:a∈xs)(i:b∈xs)(e:f a=f b):a=b:=by
 induction xs with
 |nil=>cases h
 |cons x xs j=>
  rw[qZ,zN] at g;obtain d|d:=qx.mp h
  .rcases qx.mp i with c|c
   .rw[d,c]
   .exact absurd (qj.mpr {b,c,by rw[<-e,d]}) g.1
  .rcases qx.mp i with c|c
   .exact absurd (qj.mpr {a,d,by rw[e,c]}) g.1
   .exact j g.2 d c
def Yj{α:Type}{xs:qa α}{a:α}(h:xs.Nodup)(n:¬a∈xs):(xs++[a]).Nodup:=by
 rw[jo];calc{h,jY _ _,λx b y c e=>n (by rw[qk.mp c] at e;rw[<-e];calc b)}
def BD.new{p:qc}{w:qb}(h:BD H E B bs bf W)(hw:¬w∈bs.map (·.1))(b:¬p∈bs.map (·.2))(c:p≠E)(d:p≠B)(f:w∈W)(g:ys≠[])
 (k:∀q∈bs,∀o,H q.2=some o->H' q.2=some o) (e:H' p=@(.dK (Qt ys))):BD H' E B (bs++[(w,p)]) (Y4 bf w ys) W:=by
 erw[qB<|Yj h.nd hw,qB<|Yj h.wG b,λq i=>?_,λt a=>?_]
 .rcases qq.mp i with z|z
  .rw[YL (λe=>hw (by rw[<-e];calc qj.mpr #[q,z,U]))];exact{k q z _ (h.at_ q z).1,(h.at_ q z).2}
  .rw[qk.mp z];show H' p=@(.dK (Qt (Y4 bf w ys w)))/\p≠E/\p≠B/\Y4 bf w ys w≠[]/\w∈W;rw[Yr];exact#[e,c,d,g,f]
 .rw[qB] at a;rw[YL (λe=>a (qz _ (e<|qA)))];calc h.xO t λz=>a (qJ _ z)
def BD.set{d:qc}{w:qb}(h:BD H E B bs bf W)(hw:(w,d)∈bs)(c:ys≠[])
 (k:∀q∈bs,q.2≠d->∀o,H q.2=some o->H' q.2=some o) (e:H' d=@(.dK (Qt ys))):BD H' E B bs (Y4 bf w ys) W:=by
 erw[h.nd,h.wG,λq a=>?_,λt b=>?_]
 .by_cases z:q.1=w
  .have eq:q=(w,d):=YY h.nd a hw z;rw[eq];show H' d=@(.dK (Qt (Y4 bf w ys w)))/\d≠E/\d≠B/\Y4 bf w ys w≠[]/\w∈W;rw[Yr];have:=h.at_ _ hw;exact#[e,this.2.1,this.2.2.1,c,this.2.2.2.2]
  .rw[YL z];erw[k q a (λu=>z ?_) _ (h.at_ q a).1,(h.at_ q a).2];have:q=(w,d):=YY h.wG a hw u;rw[this]
 .rw[YL (λe=>b (e<|qj.mpr {_,hw,U}))];calc h.xO t b
def BD.del{d:qc}{w:qb}(h:BD H E B bs bf W)(hw:(w,d)∈bs)
 (k:∀q∈bs,q.2≠d->∀o,H q.2=some o->H' q.2=some o):BD H' E B (bs.filter λr=>decide (r.1≠w)) (Y4 bf w []) W:=by
 erw[h.nd.sublist (zy.map _),h.wG.sublist (zy.map _),λq b=>?_,λt c=>?_]
 .let#[a,f]:=qG.mp b;let z:q.1≠w:=qL f;rw[YL z];erw[k q a (λu=>z ?_) _ (h.at_ q a).1,(h.at_ q a).2];have:q=(w,d):=YY h.wG a hw u;rw[this]
 .by_cases e:t=w
  .rw[e,Yr]
  .rw[YL e];calc h.xO t λz=>c ?_;let#[q,b,U]:=qj.mp z;calc qj.mpr {q,qG.mpr {b,qw e},U}
def Y0{w:qb}(h:w∈bs.map (·.1)):∃d,(w,d)∈bs:=by
 let#[p,a,U]:=qj.mp h;exact#[p.2,a]
def xu(F:qa qc)(H H':Hp):Prop:=∀c o,¬c∈F->H c=some o->H' c=some o
def xu.upd{b:qc}(k:xu F H H1)(h:b∈F\/H b=none):xu F H (upd H1 b o):=λc u hc e=>by
 have:c≠b:=λz=>h.elim (λq=>hc (z<|q)) λq=>by rw[z,q] at e;cases e
 rw[Qa this];calc k c u hc e
def Hr{b:qc}{a:HO}(e:H b=some o)(h:(upd H b a) c=none):H c=none:=by
 by_cases z:c=b
 .rw[z,Qd] at h;cases h
 .rw[Qa z] at h;calc h
structure FI(H:Hp)(X1 N1:qc)(bx:Rows)(bs:qa (qb×qc))(W:qe):Prop where
 vA:H X1=@(.dK (QM bx))
 br:H N1=@(.dK (yl bs))
 ne:X1≠N1
 nd:(bx.map (·.1)).Nodup
 few:-bx<=40
 wf:-W<=20
 bd:BD H X1 N1 bs (QK bx) W
def y9(a b:qc)(bs:qa (qb×qc)):qa qc:=a::b::bs.map (·.2)
def QJ{a b:qc} :c∈y9 a b bs↔c=a\/c=b\/c∈bs.map (·.2):=by unfold y9;rw[qx,qx]
structure FT(H:Hp)(T1:qc)(tg:qa (qb×qc))(mk:qb->qe)(M:qe):Prop where
 t_:H T1=@(.dK (yl tg))
 nd:(tg.map (·.1)).Nodup
 wG:(tg.map (·.2)).Nodup
 at_:∀p∈tg,H p.2=@(.dK (Qt (mk p.1)))/\p.2≠T1/\(mk p.1).Nodup/\∀y∈mk p.1,y∈M
 few:-tg<=40
 mf:-M<=20
def kY(T1:qc)(tg:qa (qb×qc)):qa qc:=T1::tg.map (·.2)
def Ya  :c∈kY T1 tg↔c=T1\/c∈tg.map (·.2):=by unfold kY;rw[qx]
abbrev VT(a T1 b:qc):qa (qb×V):=[(Zb,.ref a),(Zn,.ref T1),(Zt,.ref b)]
def Uo(a T1 b:qc):(VT a T1 b).lookup Zb=@(V.ref a):=by simp[List.lookup]
def Vo(a T1 b:qc):(VT a T1 b).lookup Zn=@(V.ref T1):=by
 let e:(Zn==Zb)=false:=by decide +kernel
 simp[List.lookup,e]
def Y2(b T1 a:qc):(VT b T1 a).lookup Zt=@(V.ref a):=by
 let e:(Zt==Zb)=false:=by decide +kernel
 let c:(Zt==Zn)=false:=by decide +kernel
 simp[List.lookup,e,c]
def FI.keep{a b:qc}(h:FI H a b bx bs W)(k:∀c o,c∈y9 a b bs->H c=some o->H' c=some o):FI H' a b bx bs W:=
 {k _ _ (QJ.mpr (.inl rfl)) h.vA,k _ _ (QJ.mpr (.inr (.inl rfl))) h.br,h.ne,h.nd,h.few,h.wf,h.bd.congr (λp d o e=>k _ _ (QJ.mpr (.inr (.inr (qj.mpr #[p,d,U])))) e) λ_=>rfl}
def FT.keep(h:FT H T1 tg mk M)(k:∀c o,c∈kY T1 tg->H c=some o->H' c=some o):FT H' T1 tg mk M:=
 {k _ _ (Ya.mpr (.inl rfl)) h.t_,h.nd,h.wG,λp a=>{k _ _ (Ya.mpr (.inr (qj.mpr #[p,a,U]))) (h.at_ p a).1,(h.at_ p a).2},h.few,h.mf}
def FI.kind{b d:qc}(h:FI H b d bx bs W)(hc:c∈y9 b d bs):∃a,H c=@(.dK a):=by
 obtain z|z|z:=QJ.mp hc
 .rw[z];exact{_,h.vA}
 .rw[z];exact{_,h.br}
 .let#[p,e,U]:=qj.mp z;calc{_,(h.bd.at_ p e).1}
def FT.kind(h:FT H T1 tg mk M)(hc:c∈kY T1 tg):∃a,H c=@(.dK a):=by
 obtain z|z:=Ya.mp hc
 .rw[z];exact{_,h.t_}
 .let#[p,b,U]:=qj.mp z;exact{_,(h.at_ p b).1}
set_option hygiene false
local macro_rules|`(inductive $i:declId $[$c:ctor]*)=>`(inductive $i:declId (a:jg)(vs:qa V)(H:Hp)(Q:VK)(E:XK):Prop $[$c:ctor]*)
set_option hygiene true
local macro_rules (kind:=Lean.Parser.Term.quotedName)|s=>do let c:=((s[0].isNameLit?.getD .anonymous).toString.toList.headD 'a').toNat;if c<97 then `(Qj (pv $(Lean.quote (c-65))) rfl) else `(pv $(Lean.quote (c-97)))
inductive Iv
 |mk:∀(x dx X1 T1 N1:qc)(bx:Rows)(bs:qa (qb×qc))(W:qe)(nm fo:qb),vs=[.ref x,.str nm,.str fo]->H x=some (.ins (a 118) dx (VT X1 T1 N1))->FI H X1 N1 bx bs W->up bx nm=none->-bx<40->fo∈W->(∀H' bs',FI H' X1 N1 (bx++[(nm,fo)]) bs' W->xu (y9 X1 N1 bs) H H'->(∀q∈bs',q∈bs\/H q.2=none)->Q .non H')->Iv a vs H Q E
inductive C8
 |mk:∀(x dx X1 T1 N1:qc)(bx:Rows)(bs:qa (qb×qc))(W:qe)(nm fo:qb),vs=[.ref x,.str nm]->H x=some (.ins (a 118) dx (VT X1 T1 N1))->FI H X1 N1 bx bs W->up bx nm=some fo->(∀H' bs',FI H' X1 N1 (without bx nm) bs' W->xu (y9 X1 N1 bs) H H'->(∀q∈bs',q∈bs)->(∀c,H' c=none->H c=none)->Q .non H')->C8 a vs H Q E
def DX:T.k ja 1 42 (Iv a):=by
 refine T.ok 42 (λcdv A outer st H vs Q E hr h=>?_)
 .let#[x,dx,f,T1,i,bx,bs,W,nm,b,U,obj,n,D,h40,N,k]:=h;let F:=Yt hr;let hwf:=n.wf;let hbl:=n.bd.len;refine⟨_,(Qc (Ys F `A `b `c U)
   (Qc (QE (Ux (UD F `c `A)) (Qe (Ys F `A `c Q0 rfl)) Qu)
   (Qe (Ys F (Yg F `A `c) `b Y1 rfl)))),?_⟩
  erw[5,x,_,dx,2,obj,(T 2),(T 17),Uo f T1 i,0,f,0,UL.k (k:=inr nm) n.vA (QM<|qh<|QA ()),?_];rw[DI D];let O:f∈y9 f i bs:=QJ.mpr (.inl rfl);let R:i∈y9 f i bs:=QJ.mpr (.inr (.inl rfl));let xX:x≠f:=QG obj n.vA λz=>nomatch z;let g:(upd H f (.dK (QM (bx++[(nm,b)])))) x=@(.ins (a 118) dx (VT f T1 i)):=by rw[Qa xX];exact obj
  let v:(upd H f (.dK (QM (bx++[(nm,b)])))) f=@(.dK (QM (bx++[(nm,b)]))):=Qd;let m:(upd H f (.dK (QM (bx++[(nm,b)])))) i=@(.dK (yl bs)):=by rw[Qa n.ne.symm];exact n.br
  let j:BD (upd H f (.dK (QM (bx++[(nm,b)])))) f i bs (QK bx) W:=n.bd.congr (λq u o e=>Qa (n.bd.at_ q u).2.1<|e) λ_=>rfl;let y:xu (y9 f i bs) H (upd H f (.dK (QM (bx++[(nm,b)])))):=xu.upd (λc o _ e=>e) (.inl O);show VB _ _ _ _ (upd H f (.dK (QM (bx++[(nm,b)]))));generalize upd H f (.dK (QM (bx++[(nm,b)])))=S at g v m j y;let G:((bx++[(nm,b)]).map (·.1)).Nodup:=IV n.nd D;let C:-(bx++[(nm,b)])<=40:=by rw[qo,qW];omega
  let I:∀t,QK (bx++[(nm,b)]) t=Y4 (QK bx) b (QK bx b++[nm]) t:=λt=>by
   rw[Kd];by_cases e:t=b
   .subst e;rw[qE rfl,Yr]
   .rw[qC λz=>e z.symm,zS,YL e]
  erw[5,x,_,dx,2,g,(T 2),(T 14),Y2 f T1 i,i,0,Yf.k (k:=inr b) m,0,?_];by_cases s:b∈bs.map (·.1)
  .let#[d,hd]:=Y0 s;let B:QB (yl bs) (inr b)=@(V.ref d):=Q5 (r:=((b,d):qb×qc)) j.nd hd;let#[J,L,M,_,_]:=j.at_ _ hd;let J:S d=@(.dK (Qt (QK bx b))):=J;let X:=Wj bx b;rw[B];let l:¬nm∈QK bx b:=λz=>Uq.mp D (VO z);calc QQ {0,x,_,dx,2,g,(T 2),(T 14),Y2 f T1 i,0,i,0,(by rw[<-B];calc Yf.k (k:=inr b) m),0,d,0,UL.k (k:=inr nm) J (Qt<|qh<|QA ()),?_};rw[Wk l];exact k _ bs {Qa L.symm<|v,Qa M.symm<|m,n.ne,G,C,n.wf,(j.set hd (by simp) (λq _ ne o e=>Qa ne<|e) Qd).congr (λ_ _ _ e=>e) I} (y.upd (.inl (QJ.mpr (.inr (.inr (qj.mpr {_,hd,U})))))) λq u=>.inl u
  .have B:QB (yl bs) (inr b)=none:=UK s;rw[B];calc Q7 ?_;intro d l;let xd:x≠d:=Qb g l;let M:f≠d:=Qb v l;let J:i≠d:=Qb m l;let xB:x≠i:=QG g m λz=>nomatch z;let X:H d=none:=by
    cases e:H d with
    |none=>rfl
    |some o=>
     by_cases L:d∈y9 f i bs
     .rcases QJ.mp L with z|z|z
      .exact absurd z.symm M
      .exact absurd z.symm J
      .let#[q,u,eq]:=qj.mp z;have:=(j.at_ q u).1;rw[eq,l] at this;cases this
     .have:=y d o L e;rw[l] at this;cases this
   erw[0,x,_,dx,2,(Qa xd<|g),(T 2),(T 14),Y2 f T1 i,0,i,0,UL.k (k:=inr b) (Qa J<|m) (Ax<|QA ()),?_];rw[Aw ((b,d):qb×qc) s rfl rfl];let L:((bs++[((b,d):qb×qc)]).map (·.1)).Nodup:=by rw[qB];exact Yj j.nd s
   let Y:QB (yl (bs++[((b,d):qb×qc)])) (inr b)=@(V.ref d):=Q5 (r:=((b,d):qb×qc)) L (qz _ qA);let Z:(upd (upd S d (.dK [])) i (.dK (yl (bs++[((b,d):qb×qc)])))) i=@(.dK (yl (bs++[((b,d):qb×qc)]))):=Qd;let d5:(upd (upd S d (.dK [])) i (.dK (yl (bs++[((b,d):qb×qc)])))) d=@(.dK []):=by rw[Qa J.symm];exact Qd
   erw[0,x,_,dx,2,(Qa xB<|Qa xd<|g),(T 2),(T 14),Y2 f T1 i,0,i,0,(by rw[<-Y];calc Yf.k (k:=inr b) Z),0,d,0,UL.k (k:=inr nm) d5 ∅,?_];let ek:Yz ([]:qa (Key×V)) (inr nm) (.bl true)=Qt [nm]:=rfl;rw[ek];let e0:QK bx b=[]:=j.xO b s;refine k _ (bs++[((b,d):qb×qc)]) {Qa M<|Qa n.ne<|Qa M<|v,Qa J<|Qd,n.ne,G,C,n.wf,?_} (((y.upd (.inr X)).upd (.inl R)).upd (.inr X)) λq u=>?_
   .refine(j.new (p:=d) (ys:=QK bx b++[nm]) s (λz=>?_) M.symm J.symm N (by simp) (λq u o e=>?_) ?_).congr (λ_ _ _ e=>e) I
    .let#[q,u,eq]:=qj.mp z;have:=(j.at_ q u).1;rw[eq,l] at this;cases this
    .rw[Qa (Qb e l),Qa (j.at_ q u).2.2.1,Qa (Qb e l)];exact e
    .rw[e0,Qd];rfl
   .rcases qq.mp u with z|z
    .exact .inl z
    .rw[qk.mp z];calc .inr X
def Bt:T.k ja 1 43 (C8 a):=by
 refine T.ok 43 (λcdv A outer st H vs Q E hr h=>?_)
 .let#[x,dx,f,T1,g,bx,bs,W,nm,b,U,obj,j,X,k]:=h;let hu:=Yt hr;refine⟨_,(Qc (Qr (i:=2) (sc 43).nd (Um `A `b #[U,U,U,U]))
   (Qc (Qq (Um (Yg hu `A `c) `b #[U,U,U,U]))
   (Qe (QE (YQ (XG (Yg hu `A `c) (λ_=>rfl))) (Qe (Qq (Um `A `c #[U,U,U,U]))) Qu)))),?_⟩
  erw[0,x,_,dx,2,obj,(T 2),(T 17),Uo f T1 g,f,U,.inl {_,.inl j.vA},0,_,inr nm,.str b,j.vA,U,(by rw[Yv,X];rfl),?_];rw[WV];let Y:f∈y9 f g bs:=QJ.mpr (.inl rfl);let Z:g∈y9 f g bs:=QJ.mpr (.inr (.inl rfl));let xX:x≠f:=QG obj j.vA λz=>nomatch z;let p:(upd H f (.dK (QM (without bx nm)))) x=@(.ins (a 118) dx (VT f T1 g)):=by rw[Qa xX];exact obj
  let M:(upd H f (.dK (QM (without bx nm)))) f=@(.dK (QM (without bx nm))):=Qd;let y:(upd H f (.dK (QM (without bx nm)))) g=@(.dK (yl bs)):=by rw[Qa j.ne.symm];exact j.br
  let l:BD (upd H f (.dK (QM (without bx nm)))) f g bs (QK bx) W:=j.bd.congr (λq v o e=>Qa (j.bd.at_ q v).2.1<|e) λ_=>rfl;let N:xu (y9 f g bs) H (upd H f (.dK (QM (without bx nm)))):=xu.upd (λc o _ e=>e) (.inl Y);show VB _ _ _ _ (upd H f (.dK (QM (without bx nm))));let O:∀c,(upd H f (.dK (QM (without bx nm)))) c=none->H c=none:=λc e=>Hr j.vA e;generalize upd H f (.dK (QM (without bx nm)))=u at p M y l N O;let B:nm∈QK bx b:=Cy X;let hyb:b∈bs.map (·.1):=xP λz=>by
   have:=l.xO b z;rw[this] at B;cases B
  let#[d,hd]:=Y0 hyb;let C:QB (yl bs) (inr b)=@(V.ref d):=Q5 (r:=((b,d):qb×qc)) l.nd hd;let#[L,dE,dB,_,_]:=l.at_ _ hd;let L:u d=@(.dK (Qt (QK bx b))):=L;let xd:x≠d:=QG p L λz=>nomatch z;let hdF:d∈y9 f g bs:=QJ.mpr (.inr (.inr (qj.mpr {_,hd,U})));let wl:-(without bx nm)<=-bx:=qP _ _;let hfew:=j.few;let R:∀t,QK (without bx nm) t=Y4 (QK bx) b ((QK bx b).filter λm=>decide (m≠nm)) t:=λt=>by
   rw[U8];by_cases e:t=b
   .subst e;rw[Yr]
   .rw[YL e];exact Xn (D8 j.nd X e)
  erw[0,x,_,dx,2,p,(T 2),(T 14),Y2 f T1 g,0,g,0,(by rw[<-C];calc Yf.k (k:=inr b) y),d,U,.inl {_,.inl L},0,_,inr nm,.bl true,L,U,(by rw[UH,qE B]),?_];rw[Vf];let s:(upd u d (.dK (Qt ((QK bx b).filter λm=>decide (m≠nm))))) x=@(.ins (a 118) dx (VT f T1 g)):=by rw[Qa xd];exact p
  let D:(upd u d (.dK (Qt ((QK bx b).filter λm=>decide (m≠nm))))) f=@(.dK (QM (without bx nm))):=by rw[Qa dE.symm];exact M
  let n:(upd u d (.dK (Qt ((QK bx b).filter λm=>decide (m≠nm))))) g=@(.dK (yl bs)):=by rw[Qa dB.symm];exact y
  let S:(upd u d (.dK (Qt ((QK bx b).filter λm=>decide (m≠nm))))) d=@(.dK (Qt ((QK bx b).filter λm=>decide (m≠nm)))):=Qd;let F:xu (y9 f g bs) H (upd u d (.dK (Qt ((QK bx b).filter λm=>decide (m≠nm))))):=N.upd (.inl hdF);let G:∀q∈bs,q.2≠d->∀o,u q.2=some o->(upd u d (.dK (Qt ((QK bx b).filter λm=>decide (m≠nm))))) q.2=some o:=λq _ ne o e=>by rw[Qa ne];exact e
  show VB _ _ _ _ (upd u d (.dK (Qt ((QK bx b).filter λm=>decide (m≠nm)))));let I:∀c,(upd u d (.dK (Qt ((QK bx b).filter λm=>decide (m≠nm))))) c=none->H c=none:=λc e=>O c (Hr L e);generalize upd u d (.dK (Qt ((QK bx b).filter λm=>decide (m≠nm))))=H5 at s D n S F G I;erw[0,x,_,dx,2,s,(T 2),(T 14),Y2 f T1 g,0,g,.ref d,U,(by rw[<-C];calc Yf.k (k:=inr b) n),!(Qt ((QK bx b).filter λm=>decide (m≠nm))).isEmpty,Or.inr (Or.inr {_,S,U}),?_]
  cases J:(QK bx b).filter λm=>decide (m≠nm) with
  |cons z zs=>
   rw[J] at S;calc QQ (k H5 bs {D,n,j.ne,VW j.nd,(),j.wf,(l.set hd (ys:=z::zs) (by simp) G S).congr (λ_ _ _ e=>e) λt=>?_} F (λq v=>v) I);rw[R,J]
  |nil=>
   let xB:x≠g:=QG s n λz=>nomatch z;calc Q7 {0,x,_,dx,2,s,(T 2),(T 14),Y2 f T1 g,g,U,.inl {_,.inl n},0,_,inr b,.ref d,n,U,C,?_};rw[V9];refine k _ (bs.filter λr=>decide (r.1≠b)) {Qa j.ne<|D,Qd,j.ne,VW j.nd,(),j.wf,(l.del hd λq v ne o e=>?_).congr (λ_ _ _ e=>e) λt=>?_} (F.upd (.inl Z)) (λq v=>(qG.mp v).1) λc e=>I c (Hr n e)
   .rw[Qa (l.at_ q v).2.2.1];exact G q v ne o e
   .rw[R,J]
def VD{α:Type}{f:α->qb}{l:qa α}{n:qb}:m∈(l.filter λr=>decide (f r≠n)).map f↔m∈l.map f/\m≠n:=by
 rw[qj,qj];constructor
 .rintro⟨r,a,rfl⟩;exact{{r,(qG.mp a).1,U},qL (qG.mp a).2}
 .rintro⟨⟨r,a,rfl⟩,b⟩;calc{r,qG.mpr {a,qw b},U}
def FT.new{p:qc}{nm:qb}(h:FT H T1 tg mk M)(a:¬nm∈tg.map (·.1))(b:¬p∈tg.map (·.2))(c:p≠T1)(few:-tg<40)(d:ys.Nodup)(f:∀y∈ys,y∈M)
 (k:∀q∈tg,∀o,H q.2=some o->H' q.2=some o) (e:H' p=@(.dK (Qt ys))) (g:H' T1=@(.dK (yl (tg++[((nm,p):qb×qc)])))):FT H' T1 (tg++[((nm,p):qb×qc)]) (Y4 mk nm ys) M:=by
 erw[g,qB<|Yj h.nd a,qB<|Yj h.wG b,λq i=>?_,by rw[qo,qW];omega,h.mf];obtain z|z:=qq.mp i
 .rw[YL (λe=>a (by rw[<-e];calc qj.mpr #[q,z,U]))];exact{k q z _ (h.at_ q z).1,(h.at_ q z).2}
 .rw[qk.mp z];show H' p=@(.dK (Qt (Y4 mk nm ys nm)))/\p≠T1/\(Y4 mk nm ys nm).Nodup/\∀y∈Y4 mk nm ys nm,y∈M;rw[Yr];exact#[e,c,d,f]
def FT.set{d:qc}{nm:qb}(h:FT H T1 tg mk M)(hw:(nm,d)∈tg)(b:ys.Nodup)(c:∀y∈ys,y∈M)
 (k:∀q∈tg,q.2≠d->∀o,H q.2=some o->H' q.2=some o) (e:H' d=@(.dK (Qt ys))) (f:H' T1=@(.dK (yl tg))):FT H' T1 tg (Y4 mk nm ys) M:=by
 erw[f,h.nd,h.wG,λq a=>?_,h.few,h.mf];by_cases z:q.1=nm
 .have eq:q=(nm,d):=YY h.nd a hw z;rw[eq];show H' d=@(.dK (Qt (Y4 mk nm ys nm)))/\d≠T1/\(Y4 mk nm ys nm).Nodup/\∀y∈Y4 mk nm ys nm,y∈M;rw[Yr];exact{e,(h.at_ _ hw).2.1,b,c}
 .rw[YL z];erw[k q a (λu=>z ?_) _ (h.at_ q a).1,(h.at_ q a).2];have:q=(nm,d):=YY h.wG a hw u;rw[this]
def FT.del(h:FT H T1 tg mk M)(nm:qb)(k:∀q∈tg,∀o,H q.2=some o->H' q.2=some o)(b:H' T1=@(.dK (yl (tg.filter λr=>decide (r.1≠nm))))):FT H' T1 (tg.filter λr=>decide (r.1≠nm)) mk M:=
 {b,h.nd.sublist (zy.map _),h.wG.sublist (zy.map _),λq a=>{k q (qG.mp a).1 _ (h.at_ q (qG.mp a).1).1,(h.at_ q (qG.mp a).1).2},qQ (qP _ _) h.few,h.mf}
def FT.congr{mk':qb->qe}(h:FT H T1 tg mk M)(e:∀t,mk' t=mk t):FT H T1 tg mk' M:={h.t_,h.nd,h.wG,λq a=>e<|h.at_ q a,h.few,h.mf}
def FT.len(h:FT H T1 tg mk M){p:qb×qc}(a:p∈tg):-(mk p.1)<=20:=qQ (Y9 (h.at_ p a).2.2.1 (h.at_ p a).2.2.2) h.mf
def FO(a:jg)(H:Hp)(x:qc)(bx:Rows)(mk:qb->qe)(W M:qe)(n:Nat)(F:qa qc):Prop:=∃dx b T1 d bs tg,H x=@(.ins (a 118) dx (VT b T1 d))/\FI H b d bx bs W/\FT H T1 tg mk M/\(∀c∈y9 b d bs,¬c∈kY T1 tg)/\(∀m,m∈tg.map (·.1)↔m∈bx.map (·.1))/\-bx<=n/\F=y9 b d bs++kY T1 tg
section
variable {a:jg}{fd:Nat->FuncData}{H H':Hp}{x:qc}{bx:Rows}{mk:qb->qe}{W M:qe}{n:Nat}{F:qa qc}
def FO.keep(h:FO a H x bx mk W M n F)(k:∀c o,(c=x\/c∈F)->H c=some o->H' c=some o):FO a H' x bx mk W M n F:=by
 let#[dx,b,T1,d,bs,tg,obj,f,g,i,nm,l,U]:=h;calc{dx,b,T1,d,bs,tg,k _ _ (.inl rfl) obj,f.keep λc o hc e=>k c o (.inr (qJ _ hc)) e,g.keep λc o hc e=>k c o (.inr (qz _ hc)) e,i,nm,l,U}
def FO.same(h:FO a H x bx mk W M n F)(s:Qi H H'):FO a H' x bx mk W M n F:=h.keep λc o _ e=>s c o e
def FO.up(h:FO a H x bx mk W M n F):FO a H x bx mk W M (n+1) F:=by
 let#[dx,b,T1,c,bs,tg,obj,d,f,g,nm,l,e]:=h;calc{dx,b,T1,c,bs,tg,obj,d,f,g,nm,(),e}
def FO.kind(h:FO a H x bx mk W M n F)(hc:c∈F):∃b,H c=@(.dK b):=by
 let#[dx,f,T1,g,bs,tg,obj,d,e,i,nm,l,U]:=h;obtain z|z:=qq.mp hc
 .exact d.kind z
 .exact e.kind z
def FO.obj(h:FO a H x bx mk W M n F):∃dx b T1 c,H x=@(.ins (a 118) dx (VT b T1 c)):=by let#[dx,b,T1,c,_,_,e,_]:=h;exact#[dx,b,T1,c,e]
def FO.xK(h:FO a H x bx mk W M n F){nm:qb}(c:nm∈bx.map (·.1)):(mk nm).Nodup/\(∀y∈mk nm,y∈M)/\-(mk nm)<=20:=by
 let#[dx,f,T1,g,bs,tg,obj,i,b,j,e,l,U]:=h;let#[d,hd]:=Y0 ((e nm).mpr c);calc{(b.at_ _ hd).2.2.1,(b.at_ _ hd).2.2.2,b.len hd}
end
inductive IH
 |mk:∀(x dx:qc)(mk:qb->qe)(W M:qe),vs=[.ref x]->-W<=20->-M<=20->H x=some (.ins (a 118) dx [])->(∀H' F,(∀c o,c≠x->H c=some o->H' c=some o)->(∀c∈F,H c=none)->FO a H' x [] mk W M 0 F->Q .non H')->IH a vs H Q E
inductive Ol
 |mk:∀(x m:qc)(bx:Rows)(mk:qb->qe)(W M:qe)(n:Nat)(F:qa qc)(nm fo:qb)(ss:qe),vs=[.ref x,.str nm,.str fo,.ref m]->FO a H x bx mk W M n F->n<40->up bx nm=none->fo∈W->H m=some (.lst (~~~ss))->(∀y∈ss,y∈M)->(∀H' F',FO a H' x (bx++[(nm,fo)]) (Y4 mk nm (dd ss)) W M (n+1) F'->xu F H H'->(∀c∈F',c∈F\/H c=none)->Q .non H')->Ol a vs H Q E
inductive IF
 |mk:∀(x:qc)(bx:Rows)(mk:qb->qe)(W M:qe)(n:Nat)(F:qa qc)(nm:qb),vs=[.ref x,.str nm]->FO a H x bx mk W M n F->nm∈bx.map (·.1)->(∀H' F',FO a H' x (without bx nm) mk W M n F'->xu F H H'->(∀c∈F',c∈F)->Q .non H')->IF a vs H Q E
inductive Dk
 |mk:∀(x:qc)(bx:Rows)(mk:qb->qe)(W M:qe)(n:Nat)(F:qa qc)(nm fo:qb),vs=[.ref x,.str nm,.str fo]->FO a H x bx mk W M n F->nm∈bx.map (·.1)->fo∈W->(∀H' F',FO a H' x (without bx nm++[(nm,fo)]) mk W M n F'->xu F H H'->(∀c∈F',c∈F\/H c=none)->Q .non H')->Dk a vs H Q E
inductive IG
 |mk:∀(x:qc)(bx:Rows)(mk:qb->qe)(W M:qe)(n:Nat)(F:qa qc)(nm y:qb),vs=[.ref x,.str nm,.str y]->FO a H x bx mk W M n F->nm∈bx.map (·.1)->y∈M->(∀H',FO a H' x bx (Y4 mk nm (YR (mk nm) y)) W M n F->xu F H H'->Q .non H')->IG a vs H Q E
inductive Bb
 |mk:∀(x:qc)(bx:Rows)(mk:qb->qe)(W M:qe)(n:Nat)(F:qa qc)(nm y:qb),vs=[.ref x,.str nm,.str y]->FO a H x bx mk W M n F->nm∈bx.map (·.1)->(∀H',FO a H' x bx (Y4 mk nm ((mk nm).filter λz=>decide (z≠y))) W M n F->xu F H H'->Q .non H')->Bb a vs H Q E
inductive KI(a:jg)(vs:qa V)(H:Hp)(Q:VK):Prop
 |mk:∀(x:qc)(bx:Rows)(mk:qb->qe)(W M:qe)(n:Nat)(F:qa qc)(nm fo:qb),vs=[.ref x,.str nm]->FO a H x bx mk W M n F->up bx nm=some fo->Q (.str fo) H->KI a vs H Q
def Be(a:jg):Sp:=λvs H Q _=>KI a vs H Q
inductive Gv(a:jg)(vs:qa V)(H:Hp)(Q:VK):Prop
 |mk:∀(x:qc)(bx:Rows)(mk:qb->qe)(W M:qe)(n:Nat)(F:qa qc)(nm:qb),vs=[.ref x,.str nm]->FO a H x bx mk W M n F->nm∈bx.map (·.1)->(∀l H',H l=none->Qi H H'->H' l=some (.lst ((QH (mk nm)).map V.str))->Q (.ref l) H')->Gv a vs H Q
def Dn(a:jg):Sp:=λvs H Q _=>Gv a vs H Q
inductive Gu(a:jg)(vs:qa V)(H:Hp)(Q:VK):Prop
 |mk:∀(x:qc)(bx:Rows)(mk:qb->qe)(W M:qe)(n:Nat)(F:qa qc)(fo:qb),vs=[.ref x,.str fo]->FO a H x bx mk W M n F->(∀l H',H l=none->Qi H H'->H' l=some (.lst ((QH (QK bx fo)).map V.str))->Q (.ref l) H')->Gu a vs H Q
def Dm(a:jg):Sp:=λvs H Q _=>Gu a vs H Q
def Ph:T.k ja 1 40 (IH a):=by
 sleep 40
 .let#[x,dx,mk,W,M,U,L,N,G,k]:=h;refine⟨_,(Qc (Q6 `a Q0 rfl)
   (Qc (Q6 `a Q0 rfl)
   (Qe (Q6 `a Q0 rfl)))),?_⟩
  intro b l;let s:x≠b:=Qb G l;erw[0,x,_,dx,0,(Qa s<|G),(T 2),(T 17),∅,?_];let f:SX x H (upd (upd H b (.dK [])) x (.ins (a 118) dx (QD Zb (.ref b) []))):=λc o ne e=>by rw[Qa ne,Qa (Qb e l)];exact e
  let gn:(upd (upd H b (.dK [])) x (.ins (a 118) dx (QD Zb (.ref b) []))) x=@(.ins (a 118) dx (QD Zb (.ref b) [])):=Qd;let u:(upd (upd H b (.dK [])) x (.ins (a 118) dx (QD Zb (.ref b) []))) b=@(.dK []):=by rw[Qa s.symm];exact Qd
  show VB _ _ _ _ (upd (upd H b (.dK [])) x (.ins (a 118) dx (QD Zb (.ref b) [])));generalize upd (upd H b (.dK [])) x (.ins (a 118) dx (QD Zb (.ref b) []))=H1 at f gn u;intro T1 j;let v:x≠T1:=Qb gn j;erw[0,x,_,dx,0,(Qa v<|gn),(T 2),(T 24),(by show 1<1000;decide),?_];let g:SX x H1 (upd (upd H1 T1 (.dK [])) x (.ins (a 118) dx (QD Zn (.ref T1) (QD Zb (.ref b) [])))):=λc o ne e=>by rw[Qa ne,Qa (Qb e j)];exact e
  let gK:(upd (upd H1 T1 (.dK [])) x (.ins (a 118) dx (QD Zn (.ref T1) (QD Zb (.ref b) [])))) x=@(.ins (a 118) dx (QD Zn (.ref T1) (QD Zb (.ref b) []))):=Qd;let y:(upd (upd H1 T1 (.dK [])) x (.ins (a 118) dx (QD Zn (.ref T1) (QD Zb (.ref b) [])))) T1=@(.dK []):=by rw[Qa v.symm];exact Qd
  show VB _ _ _ _ (upd (upd H1 T1 (.dK [])) x (.ins (a 118) dx (QD Zn (.ref T1) (QD Zb (.ref b) []))));generalize upd (upd H1 T1 (.dK [])) x (.ins (a 118) dx (QD Zn (.ref T1) (QD Zb (.ref b) [])))=H2 at g gK y;intro d n;let I:x≠d:=Qb gK n;erw[0,x,_,dx,0,(Qa I<|gK),(T 2),(T 14),(by show 2<1000;decide),?_];let i:SX x H2 (upd (upd H2 d (.dK [])) x (.ins (a 118) dx (QD Zt (.ref d) (QD Zn (.ref T1) (QD Zb (.ref b) []))))):=λc o ne e=>by rw[Qa ne,Qa (Qb e n)];exact e
  let ob3:(upd (upd H2 d (.dK [])) x (.ins (a 118) dx (QD Zt (.ref d) (QD Zn (.ref T1) (QD Zb (.ref b) []))))) x=@(.ins (a 118) dx (VT b T1 d)):=Qd;let O:(upd (upd H2 d (.dK [])) x (.ins (a 118) dx (QD Zt (.ref d) (QD Zn (.ref T1) (QD Zb (.ref b) []))))) d=@(.dK []):=by rw[Qa I.symm];exact Qd
  let p:=g _ _ s.symm u;let q:=i _ _ s.symm p;let B:=i _ _ v.symm y;let C:b≠T1:=Qb u j;let D:b≠d:=Qb p n;let F:T1≠d:=Qb y n;let R:=(f.trans g).trans i;refine k _ (y9 b d []++kY T1 []) (λc o ne e=>R c o ne e) (λc hc=>?_) {dx,b,T1,d,[],[],ob3,{q,O,D,zH,qR _,L,{zH,zH,nofun,λ_ _=>rfl}},{B,zH,zH,nofun,qR _,N},λc l j=>?_,λm=>Iff.rfl,qr _,U}
  .rcases qq.mp hc with z|z
   .rcases QJ.mp z with z|z|z
    .rw[z];exact l
    .rw[z];exact f.free gn (g.free gK n)
    .cases z
   .rcases Ya.mp z with z|z
    .rw[z];exact f.free gn j
    .cases z
  .rcases Ya.mp j with t|t
   .rcases QJ.mp l with r|r|r
    .exact C (r.symm.trans t)
    .exact F (t.symm.trans r)
    .cases r
   .cases t
def G0:T.k ja 2 47 (Be a):=by
 refine T.ok 47 (λf A outer st H vs Q E g h=>?_)
 .let#[x,bx,mk,W,M,n,o,nm,i,U,#[dx,b,T1,c,bs,tg,obj,d,p,q,r,l,U],j,k]:=h;let m:=Yt g;refine⟨_,(Qc (Qq (T.cl (YU T) (q9 `b (q9 `A Qg))))
   (Qe (Qm (Yg m `A `b)))),?_⟩
  let e:QB (QM bx) (inr nm)=@(V.str i):=by rw[Yv,j];rfl
  erw[5,x,_,dx,2,obj,(T 2),(T 17),Uo b T1 c,nm,b,2,d.vA,e,?_];calc{0,x,_,dx,2,obj,(T 2),(T 17),Uo b T1 c,0,b,0,(by rw[<-e];calc Yf.k (k:=inr nm) d.vA),k}
def Bu:T.k ja 2 48 (Dn a):=by
 refine T.ok 48 (λm A outer st H vs Q E o h=>?_)
 .let#[x,bx,mk,W,M,n,u,nm,U,#[dx,e,T1,g,bs,tg,obj,p,c,v,q,l,U],i,k]:=h;let s:=Yt o;refine⟨_,(Qc (Qq (T.cl (YU T) (q9 `b (q9 `A Qg))))
   (Qe (Qm (Qn (YV rfl) rfl (T 9) boot_sorted (q9 (Yg s `A `b) Qg))))),?_⟩
  let#[y,t]:=US i;let#[d,hd]:=Y0 ((q nm).mpr i);let f:QB (yl tg) (inr nm)=@(V.ref d):=Q5 (r:=((nm,d):qb×qc)) c.nd hd;let b:=c.len hd;let b:-(mk nm)<=20:=b;erw[5,x,_,dx,2,obj,(T 2),(T 17),Uo e T1 g,nm,e,2,p.vA,(by rw[Yv,t];rfl),?_];erw[0,x,_,dx,2,obj,(T 2),(T 24),Vo e T1 g,0,T1,0,(by rw[<-f];calc Yf.k (k:=inr nm) c.t_),d,Qt (mk nm),mk nm,U,(c.at_ _ hd).1,?_,(),λl j=>k l _ j (Qi.zg j) Qd];unfold Qt;rw[qI];rfl
def MM:T.k ja 1 51 (Dm a):=by
 refine T.ok 51 (λj A outer st H vs Q E m h=>?_)
 .let#[x,bx,mk,W,M,n,v,t,U,#[dx,o,T1,g,bs,tg,obj,b,y,z,B,l,U],k]:=h;let q:=Yt m;erw[_,(Qe (Qm (Qn (YV rfl) rfl (T 9) boot_sorted (q9 (Y8 q `A `b Q0 #[U,U,U,U]) Qg)))),?_];erw[0,x,_,dx,2,obj,(T 2),(T 14),Y2 o T1 g,g,U,.inl {_,.inl b.br},0,λp s=>?_];let s1:Qi H (upd H p (.dK [])):=Qi.zg s;let i:=b.few;let u:=Wj bx t;erw[_,Yf.k (k:=inr t) (s1 _ _ b.br),?_];by_cases e:t∈bs.map (·.1)
  .let#[d,hd]:=Y0 e;let f:QB (yl bs) (inr t)=@(V.ref d):=Q5 (r:=((t,d):qb×qc)) b.bd.nd hd;rw[f];erw[d,Qt (QK bx t),QK bx t,U,s1 _ _ (b.bd.at_ _ hd).1,?_,(),λl c=>k l _ (s1.free c) (s1.zP (s1.free c)) Qd];unfold Qt;rw[qI];rfl
  .have f:QB (yl bs) (inr t)=none:=UK e;rw[f];erw[p,[],[],U,Qd,U,∅,λl c=>?_];calc k l _ (s1.free c) (s1.zP (s1.free c)) ?_;rw[Qd,b.bd.xO t e]
def Pg:T.k ja 2 45 (IG a):=by
 refine T.ok 45 (λC A outer st H vs Q E D h=>?_)
 .let#[x,bx,mk,W,M,n,J,nm,y,U,#[dx,g,T1,i,bs,tg,obj,m,b,p,s,l,U],t,F,k]:=h;let v:=Yt D;refine⟨_,(Qc (Qq (T.cl (YU T) (q9 `b (q9 `A Qg))))
   (Qe (Ys v (Yg v `A `b) `c Y1 rfl))),?_⟩
  let#[L,G]:=US t;let#[d,hd]:=Y0 ((s nm).mpr t);let j:QB (yl tg) (inr nm)=@(V.ref d):=Q5 (r:=((nm,d):qb×qc)) b.nd hd;let I:-(mk nm)<=20:=b.len hd;let B:H d=@(.dK (Qt (mk nm))):=(b.at_ _ hd).1;let dT:d≠T1:=(b.at_ _ hd).2.1;let f:d∈kY T1 tg:=Ya.mpr (.inr (qj.mpr {_,hd,U}));erw[5,x,_,dx,2,obj,(T 2),(T 17),Uo g T1 i,nm,g,2,m.vA,(by rw[Yv,G];rfl),?_];erw[0,x,_,dx,2,obj,(T 2),(T 24),Vo g T1 i,0,T1,0,(by rw[<-j];calc Yf.k (k:=inr nm) b.t_),0,d,0,UL.k (k:=inr y) B (Qt<|qh<|QA ()),?_];rw[Cg];let xd:x≠d:=QG obj B λz=>nomatch z;calc k _ {dx,g,T1,i,bs,tg,Qa xd<|obj,m.keep λc o hc e=>Qa (λz=>p c hc (z<|f))<|e,b.set hd (CH (b.at_ _ hd).2.2.1) (λz hz=>?_) (λq _ ne o e=>Qa ne<|e) Qd (Qa dT.symm<|b.t_),p,s,l,U} (xu.upd (λc o _ e=>e) (.inl (qz _ f)));obtain u|u:=K9.mp hz
  .exact(b.at_ _ hd).2.2.2 z u
  .rw[u];calc F
def F0:T.k ja 2 46 (Bb a):=by
 refine T.ok 46 (λD A outer st H vs Q E F h=>?_)
 .let#[x,bx,mk,W,M,n,L,nm,y,U,#[dx,f,T1,i,bs,tg,obj,j,b,m,p,l,U],B,k]:=h;let G:=Yt F;refine⟨_,(Qc (Qq (T.cl (YU T) (q9 `b (q9 `A Qg))))
   (Qe (Qq (OX (Yg G `A `b) `c UO #[U,U,U,U])))),?_⟩
  let#[N,I]:=US B;let#[d,hd]:=Y0 ((p nm).mpr B);let s:QB (yl tg) (inr nm)=@(V.ref d):=Q5 (r:=((nm,d):qb×qc)) b.nd hd;let u:H d=@(.dK (Qt (mk nm))):=(b.at_ _ hd).1;let dT:d≠T1:=(b.at_ _ hd).2.1;let g:d∈kY T1 tg:=Ya.mpr (.inr (qj.mpr {_,hd,U}));erw[5,x,_,dx,2,obj,(T 2),(T 17),Uo f T1 i,nm,f,2,j.vA,(by rw[Yv,I];rfl),?_];let xd:x≠d:=QG obj u λz=>nomatch z;erw[0,x,_,dx,2,obj,(T 2),(T 24),Vo f T1 i,0,T1,0,(by rw[<-s];calc Yf.k (k:=inr nm) b.t_),d,U,.inl {_,.inl u},0,_,inr y,u,U,λv _=>?_,λC=>?_]
  .rw[Vf];exact k _ {dx,f,T1,i,bs,tg,Qa xd<|obj,j.keep λc o hc e=>Qa (λz=>m c hc (z<|g))<|e,b.set hd ((b.at_ _ hd).2.2.1.filter _) (λz hz=>(b.at_ _ hd).2.2.2 z (qG.mp hz).1) (λq _ ne o e=>Qa ne<|e) Qd (Qa dT.symm<|b.t_),m,p,l,U} (xu.upd (λc o _ e=>e) (.inl (qz _ g)))
  .have J:¬y∈mk nm:=λz=>by rw[UH,qE z] at C;cases C
   calc k _ {dx,f,T1,i,bs,tg,obj,j,b.congr λt=>?_,m,p,l,U} λc o _ e=>e;by_cases e:t=nm
   .rw[e,Yr];exact Xn J
   .exact YL e
def Pf:T.k ja 2 41 (IF a):=by
 refine T.ok 41 (λR A outer st H vs Q E S h=>?_)
 .let#[x,bx,mk,W,M,n,Fo,nm,U,#[dx,i,T1,p,bs,tg,obj,B,C,D,L,l,U],N,k]:=h;let hu:=Yt S;refine⟨_,(Qc (Qq (T.cl (YU T) (q9 `b (q9 `A Qg))))
   (Qc (Qq (T.me `a (T 2) (T 61) (Bt T) (q9 `b Qg)))
   (Qe (Qq (Um `A `b #[U,U,U,U]))))),?_⟩
  let#[X,O]:=US N;let#[d,hd]:=Y0 ((L nm).mpr N);let F:QB (yl tg) (inr nm)=@(V.ref d):=Q5 (r:=((nm,d):qb×qc)) C.nd hd;erw[5,x,_,dx,2,obj,(T 2),(T 17),Uo i T1 p,nm,i,2,B.vA,(by rw[Yv,O];rfl),?_];erw[0,x,dx,0,obj,4,x,dx,i,T1,p,bx,bs,W,nm,X,U,obj,B,O,λY t G u I Z=>?_];let J:¬x∈y9 i p bs:=λz=>by let#[_,e]:=B.kind z;rw[obj] at e;cases e
  let b:=u _ _ J obj;let j:=C.keep (H':=Y) λc o hc e=>u c o (λz=>D c z hc) e;erw[0,x,_,dx,2,b,(T 2),(T 24),Vo i T1 p,T1,U,.inl {_,.inl j.t_},0,_,inr nm,.ref d,j.t_,U,F,?_];rw[V9];let v:T1∈kY T1 tg:=Ya.mpr (.inl rfl);let g:∀c∈y9 i p t,c∈y9 i p bs:=λc hc=>by
   obtain z|z|z:=QJ.mp hc
   .exact QJ.mpr (.inl z)
   .exact QJ.mpr (.inr (.inl z))
   .let#[q,y,U]:=qj.mp z;exact QJ.mpr (.inr (.inr (qj.mpr {q,I q y,U})))
  let s:∀c∈kY T1 (tg.filter λr=>decide (r.1≠nm)),c∈kY T1 tg:=λc hc=>by
   obtain z|z:=Ya.mp hc
   .exact Ya.mpr (.inl z)
   .let#[q,y,U]:=qj.mp z;exact Ya.mpr (.inr (qj.mpr {q,(qG.mp y).1,U}))
  let xT:x≠T1:=QG b j.t_ λz=>nomatch z;let wl:-(without bx nm)<=-bx:=qP _ _;refine k _ (y9 i p t++kY T1 (tg.filter λr=>decide (r.1≠nm))) {dx,i,T1,p,t,_,Qa xT<|b,G.keep λc o hc e=>Qa (λz=>D c (g c hc) (z<|v))<|e,j.del nm (λq y o e=>Qa (C.at_ q y).2.1<|e) Qd,λc h1 h2=>D c (g c h1) (s c h2),λm=>?_,(),U}
   (λc o hc e=>Qa (λz=>hc (qz _ (z<|v)))<|u c o (λz=>hc (qJ _ z)) e) λc hc=>(qq.mp hc).elim (λz=>qJ _ (g c z)) λz=>qz _ (s c z)
  rw[VD (f:=λr:qb×qc=>r.1),L m];unfold L2.without;rw[VD (f:=λr:qb×qb=>r.1)]
def ML:T.k ja 2 44 (Dk a):=by
 sleep 44
 .let#[x,bx,mk,W,M,n,Fo,nm,J,U,#[dx,g,T1,i,bs,tg,obj,u,ft,v,nq,l,U],L,N,k]:=h;refine⟨_,(Qc (Qq (T.cl (YU T) (q9 `b (q9 `A Qg))))
   (Qc (Qq (T.me `a (T 2) (T 61) (Bt T) (q9 `b Qg)))
   (Qe (Qq (T.me `a (T 2) (T 60) (DX T) (q9 `b (q9 `c Qg))))))),?_⟩
  let#[fo,Z]:=US L;erw[5,x,_,dx,2,obj,(T 2),(T 17),Uo g T1 i,nm,g,2,u.vA,(by rw[Yv,Z];rfl),?_];erw[0,x,dx,0,obj,4,x,dx,g,T1,i,bx,bs,W,nm,fo,U,obj,u,Z,λH5 j O p R S=>?_];let B:¬x∈y9 g i bs:=λz=>by let#[_,e]:=u.kind z;rw[obj] at e;cases e
  let d:=p _ _ B obj;let C:=ft.keep (H':=H5) λc o hc e=>p c o (λz=>v c z hc) e;let b:∀c∈y9 g i j,c∈y9 g i bs:=λc hc=>by
   obtain z|z|z:=QJ.mp hc
   .exact QJ.mpr (.inl z)
   .exact QJ.mpr (.inr (.inl z))
   .let#[q,D,U]:=qj.mp z;exact QJ.mpr (.inr (.inr (qj.mpr {q,R q D,U})))
  let F:¬nm∈(without bx nm).map (·.1):=λz=>by
   unfold L2.without at z;exact(VD (f:=λr:qb×qb=>r.1).mp z).2 rfl
  let wl:-(without bx nm)< -bx:=by
   let V:((without bx nm).map (·.1)++[nm]).Nodup:=Yj (VW u.nd) F;let t:=Y9 V (l:=bx.map (·.1)) λm hm=>by
    obtain z|z:=qq.mp hm
    .unfold L2.without at z;exact(VD (f:=λr:qb×qb=>r.1).mp z).1
    .rw[qk.mp z];exact L
   rw[qo,qW,qh,qh] at t;omega
  let hfew:=u.few;erw[0,x,dx,0,d,U,5,x,dx,g,T1,i,without bx nm,j,W,nm,J,U,d,O,Uq.mpr F,(),N,λH6 G X s I=>?_];let Y:¬x∈y9 g i j:=λz=>B (b x z);refine k H6 (y9 g i G++kY T1 tg) {dx,g,T1,i,G,tg,s _ _ Y d,X,C.keep λc o hc e=>s c o (λz=>v c (b c z) hc) e,λc V t=>?_,λm=>?_,by rw[qo,qW];omega,U} (λc o hc e=>s c o (λz=>hc (qJ _ (b c z))) (p c o (λz=>hc (qJ _ z)) e)) λc hc=>?_
  .rcases QJ.mp V with z|z|z
   .exact v c (QJ.mpr (.inl z)) t
   .exact v c (QJ.mpr (.inr (.inl z))) t
   .let#[q,D,U]:=qj.mp z;obtain y|y:=I q D
    .exact v _ (b _ (QJ.mpr (.inr (.inr (qj.mpr #[q,y,U]))))) t
    .let#[_,e]:=C.kind t;rw[y] at e;cases e
  .rw[nq m,qB,qq];unfold L2.without;rw[VD (f:=λr:qb×qb=>r.1)];constructor
   .intro h;by_cases e:m=nm
    .exact .inr (e<|qA)
    .exact .inl #[h,e]
   .rintro(h|h)
    .exact h.1
    .rw[qk.mp h];exact L
  .rcases qq.mp hc with z|z
   .rcases QJ.mp z with z|z|z
    .exact .inl (qJ _ (QJ.mpr (.inl z)))
    .exact .inl (qJ _ (QJ.mpr (.inr (.inl z))))
    .let#[q,D,U]:=qj.mp z;obtain y|y:=I q D
     .exact .inl (qJ _ (b _ (QJ.mpr (.inr (.inr (qj.mpr #[q,y,U]))))))
     .exact .inr (S _ y)
   .exact .inl (qz _ z)
def SM:T.k ja 2 109 (Ol a):=by
 refine(T.D 109).ok (sc 109) (λcdv A outer st H vs Q E hr h=>?_) (λvs H Q E h=>by let#[x,m,bx,mk,W,M,n,Fo,nm,fo,ss,U,_]:=h;rfl)
 .let#[x,m,bx,mk,W,M,n,Fo,nm,fo,ss,U,#[dx,f,T1,g,bs,tg,obj,fi,G,dj,nq,l,U],hn40,L,hfo,hm,hss,k]:=h;let hu:=Yt hr;refine⟨_,(Qc (Qq (T.cl (FZ T) (q9 `b (q9 `A Qg))))
   (Qc (Ys hu `A `b Q0 rfl)
   (Qc (QE (Qp Lq `d UO) (Qe (YA zl rfl (QI `d) (QX (i:=4) (sc 109).nd) (Qe (Ys hu (Yg hu `A `b) `e Y1 rfl)))) Qu)
   (Qe (Qq (T.me `a (T 2) (T 60) (DX T) (q9 `b (q9 `c Qg)))))))),?_⟩
  let R:¬nm∈tg.map (·.1):=λz=>Uq.mp L ((nq nm).mp z);let tl:-tg<=-bx:=by
   have:=Y9 G.nd λm hm=>(nq m).mp hm;rw[qh,qh] at this;exact this
  let hmf:=G.mf;let S:T1∈kY T1 tg:=Ya.mpr (.inl rfl);erw[5,x,_,dx,2,obj,(T 2),(T 17),Uo f T1 g,nm,f,0,fi.vA,(by rw[Yv,L];rfl),?_];intro p J;let xp:x≠p:=Qb obj J;let Tp:T1≠p:=Qb G.t_ J;let mp:m≠p:=Qb hm J;let mT:m≠T1:=QG hm G.t_ λz=>nomatch z;let xT:x≠T1:=QG obj G.t_ λz=>nomatch z;erw[0,x,_,dx,2,(Qa xp<|obj),(T 2),(T 24),Vo f T1 g,0,T1,0,UL.k (k:=inr nm) (Qa Tp<|G.t_) (Ax<|QA ()),?_];rw[Aw ((nm,p):qb×qc) R rfl rfl];let N:∀c o,c≠T1->H c=some o->(upd (upd H p (.dK [])) T1 (.dK (yl (tg++[((nm,p):qb×qc)])))) c=some o:=λc o ne e=>by rw[Qa ne,Qa (Qb e J)];exact e
  let t2:(upd (upd H p (.dK [])) T1 (.dK (yl (tg++[((nm,p):qb×qc)])))) T1=@(.dK (yl (tg++[((nm,p):qb×qc)]))):=Qd;let p2:(upd (upd H p (.dK [])) T1 (.dK (yl (tg++[((nm,p):qb×qc)])))) p=@(.dK (Qt [])):=by rw[Qa Tp.symm];exact Qd
  show VB _ _ _ _ (upd (upd H p (.dK [])) T1 (.dK (yl (tg++[((nm,p):qb×qc)]))));generalize upd (upd H p (.dK [])) T1 (.dK (yl (tg++[((nm,p):qb×qc)])))=H2 at N t2 p2;let ntp:¬p∈tg.map (·.2):=λz=>by
   let#[q,O,eq]:=qj.mp z;have:=(G.at_ q O).1;rw[eq,J] at this;cases this
  let X:FT H2 T1 (tg++[((nm,p):qb×qc)]) (Y4 mk nm []) M:=G.new R ntp Tp.symm () zH nofun (λq O o e=>N _ _ (G.at_ q O).2.1 e) p2 t2;let fi2:FI H2 f g bx bs W:=fi.keep λc o hc e=>N c o (λz=>dj c hc (z<|S)) e;let s:∀c∈y9 f g bs,¬c∈kY T1 (tg++[((nm,p):qb×qc)]):=λc hc z=>by
   obtain z|z:=Ya.mp z
   .exact dj c hc (Ya.mpr (.inl z))
   .rw[qB] at z;obtain z|z:=qq.mp z
    .exact dj c hc (Ya.mpr (.inr z))
    .let#[_,e]:=fi.kind hc;rw[qk.mp z,J] at e;cases e
  let I:((nm,p):qb×qc)∈tg++[((nm,p):qb×qc)]:=qz _ qA;let hpF:p∈kY T1 (tg++[((nm,p):qb×qc)]):=Ya.mpr (.inr (qj.mpr {_,I,U}));let w4:xu (y9 f g bs++kY T1 tg) H H2:=λc o hc e=>N c o (λz=>hc (qz _ (z<|S))) e;erw[0,4,Q7 ?_];refine⟨_,U,m,U,{_,zm.of (N _ _ mT hm)},YF (K:=K) (a:=m) (xs:=ss.map V.str) (λj Z F=>∃(o:uf V),Z=[@(.ref x),@(.str nm),@(.str fo),@(.ref m),o]/\F x=@(.ins (a 118) dx (VT f T1 g))/\FI F f g bx bs W/\FT F T1 (tg++[((nm,p):qb×qc)]) (Y4 mk nm ((ss.take j).foldl YR [])) M/\F m=@(.lst (~~~ss))/\xu (y9 f g bs++kY T1 tg) H F)
   {none,U,N _ _ xT obj,fi2,jK<|X,N _ _ mT hm,w4} ?_ ?_ ?_⟩
  .rintro j Z F _ ⟨o,rfl,b,B,d,m4,C⟩;exact zm.of m4
  .rintro j v Z F Y ⟨o,rfl,b,B,d,m4,C⟩;obtain⟨y,hy,rfl⟩:∃y,ss[j]?=some y/\V.str y=v:=by
    rw[qD] at Y
    cases e:ss[j]? with
    |none=>rw[e] at Y;cases Y
    |some t=>rw[e] at Y;exact{t,U,qT Y}
   let et:ss.take (j+1)=ss.take j++[y]:=by rw[zw,hy];rfl
   let hvd:QB (yl (tg++[((nm,p):qb×qc)])) (inr nm)=@(V.ref p):=Q5 (r:=((nm,p):qb×qc)) d.nd I;let#[ep,_,D,yM]:=d.at_ _ I;let ep:F p=@(.dK (Qt (Y4 mk nm ((ss.take j).foldl YR []) nm))):=ep;let D:(Y4 mk nm ((ss.take j).foldl YR []) nm).Nodup:=D;let yM:∀z∈Y4 mk nm ((ss.take j).foldl YR []) nm,z∈M:=yM;rw[Yr] at ep D yM;let hyl:=Y9 D yM;erw[0,x,_,dx,2,b,(T 2),(T 24),Vo f T1 g,0,T1,0,(by rw[<-hvd];calc Yf.k (k:=inr nm) d.t_),0,p,0,UL.k (k:=inr y) ep (Qt<|qh<|QA ()),?_];rw[Cg];erw[0,Qa xp<|b,B.keep λc o hc e=>Qa (λz=>s c hc (z<|hpF))<|e,?_,Qa mp<|m4,C.upd (.inr J)];rw[et,jz];refine(d.set I (ys:=YR ((ss.take j).foldl YR []) y) (CH D) (λz hz=>?_) (λq _ ne o e=>Qa ne<|e) Qd (Qa Tp<|d.t_)).congr λt=>?_
   .rcases K9.mp hz with u|u
    .exact yM z u
    .rw[u];exact hss y (ze hy)
   .by_cases e:t=nm
    .rw[e,Yr,Yr];rfl
    .rw[YL e,YL e,YL e]
  .rintro Z F ⟨o,rfl,b,B,d,m4,C⟩;rw[qh,zZ] at d;erw[0,x,dx,0,b,U,5,x,dx,f,T1,g,bx,bs,W,nm,fo,U,b,B,L,(),hfo,λH5 Y fi5 D in5=>?_];let nx1:¬x∈y9 f g bs:=λz=>by let#[_,e]:=fi.kind z;rw[obj] at e;cases e
   let fr4:∀c,F c=none->H c=none:=λc e=>by
    cases q:H c with
    |none=>rfl
    |some o=>
     by_cases z:c∈y9 f g bs++kY T1 tg
     .rcases qq.mp z with z|z
      .let#[_,e2]:=B.kind z;rw[e] at e2;cases e2
      .have z2:c∈kY T1 (tg++[((nm,p):qb×qc)]):=by
        obtain u|u:=Ya.mp z
        .exact Ya.mpr (.inl u)
        .exact Ya.mpr (.inr (qB<|qJ _ u))
       let#[_,e2]:=d.kind z2;rw[e] at e2;cases e2
     .rw[C c o z q] at e;cases e
   refine k H5 (y9 f g Y++kY T1 (tg++[((nm,p):qb×qc)])) {dx,f,T1,g,Y,_,D _ _ nx1 b,fi5,d.keep λc o hc e=>D c o (λz=>s c z hc) e,λc h1 h2=>?_,λm=>?_,by rw[qo,qW];omega,U} (λc o hc e=>D c o (λz=>hc (qJ _ z)) (C c o hc e)) λc hc=>?_
   .rcases QJ.mp h1 with z|z|z
    .exact s c (QJ.mpr (.inl z)) h2
    .exact s c (QJ.mpr (.inr (.inl z))) h2
    .let#[q,O,U]:=qj.mp z;obtain y|y:=in5 q O
     .exact s _ (QJ.mpr (.inr (.inr (qj.mpr #[q,y,U])))) h2
     .let#[_,e]:=d.kind h2;rw[y] at e;cases e
   .rw[qB,qB,qq,qq,nq m];exact Iff.rfl
   .rcases qq.mp hc with z|z
    .rcases QJ.mp z with z|z|z
     .exact .inl (qJ _ (QJ.mpr (.inl z)))
     .exact .inl (qJ _ (QJ.mpr (.inr (.inl z))))
     .let#[q,O,U]:=qj.mp z;obtain y|y:=in5 q O
      .exact .inl (qJ _ (QJ.mpr (.inr (.inr (qj.mpr #[q,y,U])))))
      .exact .inr (fr4 _ y)
    .rcases Ya.mp z with z|z
     .exact .inl (qz _ (Ya.mpr (.inl z)))
     .rw[qB] at z;obtain u|u:=qq.mp z
      .exact .inl (qz _ (Ya.mpr (.inr u)))
      .rw[qk.mp u];calc .inr J
def gZ(bx:Rows)(mk:qb->qe)(a y:qb):Nat:=-((QK bx a).filter λn=>decide (y∈mk n))
inductive KH(a:jg)(vs:qa V)(H:Hp)(Q:VK):Prop
 |mk:∀(x:qc)(bx:Rows)(mk:qb->qe)(W M:qe)(n:Nat)(F:qa qc)(fo y:qb),vs=[.ref x,.str fo,.str y]->FO a H x bx mk W M n F->(∀H',Qi H H'->Q (.int (gZ bx mk fo y)) H')->KH a vs H Q
def Bc(a:jg):Sp:=λvs H Q _=>KH a vs H Q
inductive KJ(a:jg)(vs:qa V)(H:Hp)(Q:VK):Prop
 |mk:∀(x:qc)(bx:Rows)(mk:qb->qe)(W M:qe)(n:Nat)(F:qa qc)(fo:qb),vs=[.ref x,.str fo]->FO a H x bx mk W M n F->(∀l H',H l=none->Qi H H'->H' l=some (.tup [.int (-(QK bx fo):Nat),.int ((-(QK bx fo):Nat)-(gZ bx mk fo Zs:Nat))])->Q (.ref l) H')->KJ a vs H Q
def Bf(a:jg):Sp:=λvs H Q _=>KJ a vs H Q
def Bh{d:qc}(e:H d=some o)(s:∀b u,b≠d->H b=some u->H1 b=some u):Qi H (upd H1 d o):=λb u q=>by
 by_cases z:b=d
 .rw[z] at q⊢;rw[e] at q;cases q;exact Qd
 .rw[Qa z];calc s b u z q
def GZ:T.k ja 1 50 (Bc a):=by
 refine T.ok 50 (λcdv A outer st H vs Q E hr h=>?_)
 .let#[x,bx,mk,W,M,n,Fo,f,y,U,#[dx,i,T1,s,bs,tg,obj,j,J,Y,nq,l,U],k]:=h;let L:=Yt hr;let Z:=j.few;let hrl:=Wj bx f;erw[_,(Qe (Lh (Qm (Qn Qz rfl (T 4) zf (q9 (Yh (sc:=Qs (sO 50)) (N:=(nn 50)) (fr:=[(2,"word"),(0,"self")]) (xV rfl rfl) rfl rfl rfl (GN (Y8 L `A `b Q0 #[U,U,U,U])) (λ_ _ _ _=>YW (Ux (Xj L `b (Yg L (K7 K `c U) `a)))) (λ_ _ _ _=>`a)) Qg))))),?_];by_cases O:f∈bs.map (·.1)
  .let#[d,hd]:=Y0 O;let R:QB (yl bs) (inr f)=@(V.ref d):=Q5 (r:=((f,d):qb×qc)) j.bd.nd hd;let#[B,dX,dN,_,_]:=j.bd.at_ _ hd;let B:H d=@(.dK (Qt (QK bx f))):=B;let C:d∈y9 i s bs:=QJ.mpr (.inr (.inr (qj.mpr {_,hd,U})));let xd:x≠d:=QG obj B λz=>nomatch z;erw[d,_,B,λm=>?_];let g:∀c o,c≠d->H c=some o->(upd H d (.jM m (.dK (Qt (QK bx f))))) c=some o:=λc o ne e=>by rw[Qa ne];exact e
   let t:(upd H d (.jM m (.dK (Qt (QK bx f))))) d=@(.jM m (.dK (Qt (QK bx f)))):=Qd;generalize upd H d (.jM m (.dK (Qt (QK bx f))))=H1 at g t;erw[0,x,_,dx,2,g _ _ xd obj,(T 2),(T 14),Y2 i T1 s,s,U,.inl {_,.inl (g _ _ dN.symm j.br)},0,λp F=>?_];let s2:Qi H1 (upd H1 p (.dK [])):=Qi.zg F;erw[_,Yf.k (k:=inr f) (s2 _ _ (g _ _ dN.symm j.br)),?_];rw[R];generalize upd H1 p (.dK [])=H2 at s2;let I:=s2 _ _ t;erw[d,Qt (QK bx f),U,.inl {m,I,WA (xs:=QK bx f) V.str (λz=>decide (y∈mk z)) V.str (QT ()) I (by unfold Qt;rw[qI];rfl) ?_ ?_ ?_}]
   .intro z H5 Q' hz s5 v;let S:=(nq z).mpr (VO hz);let#[G,q]:=Y0 S;let X:QB (yl tg) (inr z)=@(V.ref G):=Q5 (r:=((z,G):qb×qc)) J.nd q;let ez:H G=@(.dK (Qt (mk z))):=(J.at_ _ q).1;let zd:G≠d:=λe=>Y d C (Ya.mpr (.inr (qj.mpr {_,q,e})));let Td:T1≠d:=λe=>Y d C (Ya.mpr (.inl e.symm));erw[5,x,_,dx,2,s5 _ _ (s2 _ _ (g _ _ xd obj)),(T 2),(T 24),Vo i T1 s,0,T1,0,(by rw[<-X];calc Yf.k (k:=inr z) (s5 _ _ (s2 _ _ (g _ _ Td J.t_)))),G,0,Yf.k (k:=inr y) (s5 _ _ (s2 _ _ (g _ _ zd ez))),0,?_];rw[UH];by_cases e:y∈mk z
    .rw[qE e];rw[qw e] at v;exact v
    .rw[qC e];rw[qK e] at v;exact v
   .intro z H5 Q' hz s5 _ v;exact{0,v}
   .intro D q;let v:d≠D:=Qb I q;erw[D,0,.inl (zm.of Qd),{Qa v<|I,?_}];rw[qh];exact k _ (Bh B λb u ne e=>Qa (Qb (s2 _ _ (g b u ne e)) q)<|s2 _ _ (g b u ne e))
  .have R:QB (yl bs) (inr f)=none:=UK O;let S:QK bx f=[]:=j.bd.xO f O;let X:x≠i:=QG obj j.vA λz=>nomatch z;erw[i,_,j.vA,λm=>?_];let g:∀c o,c≠i->H c=some o->(upd H i (.jM m (.dK (QM bx)))) c=some o:=λc o ne e=>by rw[Qa ne];exact e
   let t:(upd H i (.jM m (.dK (QM bx)))) i=@(.jM m (.dK (QM bx))):=Qd;generalize upd H i (.jM m (.dK (QM bx)))=H1 at g t;erw[0,x,_,dx,2,g _ _ X obj,(T 2),(T 14),Y2 i T1 s,s,U,.inl {_,.inl (g _ _ j.ne.symm j.br)},0,λp F=>?_];let s2:Qi H1 (upd H1 p (.dK [])):=Qi.zg F;let G:(upd H1 p (.dK [])) p=@(.dK []):=Qd;erw[_,Yf.k (k:=inr f) (s2 _ _ (g _ _ j.ne.symm j.br)),?_];rw[R];let Xp:i≠p:=Qb t F;generalize upd H1 p (.dK [])=H2 at s2 G;erw[p,[],U,.inr {G,λv=>?_}];let B:(upd H2 p (.jM v (.dK []))) i=@(.jM m (.dK (QM bx))):=by rw[Qa Xp];exact s2 _ _ t
   let I:(upd H2 p (.jM v (.dK []))) p=@(.jM v (.dK [])):=Qd;let C:∀c o,H1 c=some o->(upd H2 p (.jM v (.dK []))) c=some o:=λc o e=>by rw[Qa (Qb e F)];exact s2 _ _ e
   generalize upd H2 p (.jM v (.dK []))=H3 at B I C;calc WA (xs:=([]:qe)) V.str (λz=>decide (y∈mk z)) V.str (qR _) I rfl nofun nofun λD q=>?_;let XD:i≠D:=Qb B q;erw[D,0,.inl (zm.of Qd),{Qa XD<|B,?_}];let en:-((([]:qe).filter λz=>decide (y∈mk z)).map V.str)=gZ bx mk f y:=by unfold gZ;rw[S];rfl
   rw[en];calc k _ (Bh j.vA λb u ne e=>Qa (Qb (C _ _ (g b u ne e)) q)<|C _ _ (g b u ne e))
def G6:T.k ja 2 49 (Bf a):=by
 refine T.ok 49 (λo A outer st H vs Q E q h=>?_)
 .let#[x,bx,mk,W,M,n,s,b,U,hf,k]:=h;let#[dx,t,T1,j,bs,tg,obj,c,B,C,D,l,e]:=id hf;let v:=Yt q;refine⟨_,(Qc (Qr (i:=2) (sc 49).nd (Qn Nq rfl (T 4) zf (q9 (Y8 v `A `b Q0 #[U,U,U,U]) Qg)))
   (Qe (Qm (Va (Qh `c (Qh (Qv FL `c (T.me `a (T 2) (T 65) (GZ T) (q9 `b (q9 (XJ rfl (T 89)) Qg)))) Qo)))))),?_⟩
  erw[0,x,_,dx,2,obj,(T 2),(T 14),Y2 t T1 j,j,U,.inl {_,.inl c.br},0,λp y=>?_];let s1:Qi H (upd H p (.dK [])):=Qi.zg y;erw[_,Yf.k (k:=inr b) (s1 _ _ c.br),?_];let hd:∃d,((QB (yl bs) (inr b)).getD (V.ref p))=V.ref d/\(upd H p (.dK [])) d=@(.dK (Qt (QK bx b))):=by
   by_cases f:b∈bs.map (·.1)
   .let#[d,hd]:=Y0 f;let g:QB (yl bs) (inr b)=@(V.ref d):=Q5 (r:=((b,d):qb×qc)) c.bd.nd hd;rw[g];exact{d,U,s1 _ _ (c.bd.at_ _ hd).1}
   .have g:QB (yl bs) (inr b)=none:=UK f;rw[g];exact{p,U,by rw[Qd,c.bd.xO b f];rfl}
  let#[d,z,m]:=hd;rw[z];erw[d,0,m,?_];let f:-(Qt (QK bx b))=-(QK bx b):=by unfold Qt;rw[qh]
  rw[f];generalize upd H p (.dK [])=H1 at s1 m;erw[0,5,x,dx,0,s1 _ _ obj,4,x,bx,mk,W,M,n,s,b,Zs,U,hf.same s1,λH2 s2=>?_];erw[1,Y6,λu g=>?_];calc k u _ ((s1.trans s2).free g) ((s1.trans s2).zP ((s1.trans s2).free g)) Qd
abbrev TR:=qc×qb
def cNf(bx:Rows)(f:qb):Int:=(-(QK bx f):Nat)
def cU(bx:Rows)(mk:qb->qe)(f:qb):Int:=(-(QK bx f):Nat)-(gZ bx mk f Zs:Nat)
def aD(H:Hp)(l:qc)(bx:Rows)(mk:qb->qe)(a:qa TR):Prop:=H l=@(.lst (a.map λq=>V.ref q.1))/\∀q∈a,H q.1=@(.tup [.str q.2,.int (cNf bx q.2),.int (cU bx mk q.2)])
inductive Xy(a:jg)(vs:qa V)(H:Hp)(Q:VK):Prop
 |mk:∀(x:qc)(bx:Rows)(mk:qb->qe)(W M:qe)(n:Nat)(F:qa qc),vs=[.ref x]->FO a H x bx mk W M n F->(∀l H' fs ks,ks.Nodup->-ks<=20->(∀t,t∈ks↔QK bx t≠[])->fs.map (·.2)=QH ks->H l=none->Qi H H'->aD H' l bx mk fs->Q (.ref l) H')->Xy a vs H Q
def Gw(a:jg):Sp:=λvs H Q _=>Xy a vs H Q
def D3:T.k ja 3 52 (Gw a):=by
 sleep 52
 .let#[x,bx,mk,W,M,n,Fo,U,hf,k]:=h;let#[dx,X1,T1,L,bs,tg,obj,g,ft,dj,nq,l,e]:=id hf;let hbl:=g.bd.len;let hwf:=g.wf;refine⟨_,(Qc (Qr (i:=1) (sc 52).nd (WO Qo))
   (Qc (YA zl rfl (QI (Qn (YV rfl) rfl (T 9) boot_sorted (q9 `A Qg))) (QX (i:=2) (sc 52).nd) (Qc (Qr (i:=3) (sc 52).nd (T.me `a (T 2) (T 64) (G6 T) (q9 `c Qg)))
   (Qe (Qq (Uj plainAttrs_list za zb QW `b (q9 (Va (Qh `c (Qh (Ql Qx `d Qf) (Qh (Ql Qx `d Qf) Qo)))) Qg))))))
   (Qe (Qm `b)))),?_⟩
  erw[Xf,λq N=>?_];let s1:Qi H (upd H q (.lst [])):=Qi.zg N;let F:(upd H q (.lst [])) q=@(.lst []):=Qd;show VB _ _ _ _ (upd H q (.lst []));generalize upd H q (.lst [])=H1 at s1 F;erw[0,x,_,dx,2,s1 _ _ obj,(T 2),(T 14),Y2 X1 T1 L,L,yl bs,bs.map (·.1),U,s1 _ _ g.br,TB _ _ _,by rw[qh];omega,λm hm=>?_];let s2:Qi H1 (upd H1 m (.lst ((QH (bs.map (·.1))).map V.str))):=Qi.zg hm;let r:(upd H1 m (.lst ((QH (bs.map (·.1))).map V.str))) m=@(.lst ((QH (bs.map (·.1))).map V.str)):=Qd;let O:=s2 _ _ F;let qm:q≠m:=Qb F hm;generalize upd H1 m (.lst ((QH (bs.map (·.1))).map V.str))=H2 at s2 r O;let G:-(QH (bs.map (·.1)))<=20:=by rw[Yq,qh];omega
  generalize I:QH (bs.map (·.1))=ns at r G;let R:H q=none:=N;refine⟨m,U,{_,zm.of r},YF (K:=K) (a:=m) (xs:=ns.map V.str) (λi Z f=>∃(b:qa TR)(s B:uf V),Z=[@(.ref x),@(.ref q),s,B]/\Qi H f/\aD f q bx mk b/\b.map (·.2)=ns.take i/\f m=@(.lst (~~~ns)))
   {[],none,none,U,s1.trans s2,#[O,nofun],by rw[jK];rfl,r} ?_ ?_ ?_⟩
  .rintro i Z f _ ⟨b,s,B,rfl,s4,f4,j,C⟩;exact zm.of C
  .rintro i v Z f o ⟨b,s,B,rfl,s4,f4,j,C⟩;obtain⟨t,p,rfl⟩:∃y,ns[i]?=some y/\V.str y=v:=by
    rw[qD] at o
    cases e:ns[i]? with
    |none=>rw[e] at o;cases o
    |some t=>rw[e] at o;exact{t,U,qT o}
   let et:ns.take (i+1)=ns.take i++[t]:=by rw[zw,p];rfl
   let hfl:-b<=20:=by
    have:=zp List.length j;rw[qh,zC] at this;omega
   erw[0,x,dx,0,s4 _ _ obj,4,x,bx,mk,W,M,n,Fo,t,U,hf.same s4,λc J nc s5 S=>?_];erw[0,.inl {U,_,zm.of (s5 _ _ f4.1)},5,c,3,z5.of S,4,c,3,z5.of S,U,BW,λu X=>?_];let D:Qi J (upd J u (.tup [.str t,.int (cNf bx t),.int (cU bx mk t)])):=Qi.zg X;let u6:(upd J u (.tup [.str t,.int (cNf bx t),.int (cU bx mk t)])) u=@(.tup [.str t,.int (cNf bx t),.int (cU bx mk t)]):=Qd;erw[q,1,D _ _ (s5 _ _ f4.1),(qh<|QA ()),?_];let uq:u≠q:=(Qb (s5 _ _ f4.1) X).symm;let el:(b.map λq=>V.ref q.1)++[V.ref u]=(b++[((u,t):TR)]).map λq=>V.ref q.1:=by rw[qB];rfl
   rw[el];erw[b++[((u,t):TR)],2,((s4.trans s5).trans D).zP R,{Qd,λz hz=>?_},by rw[qB,j,et];rfl,Qa qm.symm<|D _ _ (s5 _ _ C)];obtain y|y:=qq.mp hz
   .rw[Qa (QG (f4.2 z y) f4.1 λz=>nomatch z)];exact D _ _ (s5 _ _ (f4.2 z y))
   .rw[qk.mp y,Qa uq];exact u6
  .rintro Z f ⟨b,s,B,rfl,s4,f4,j,C⟩;rw[qh,zZ] at j;erw[0,k q f b (bs.map (·.1)) g.bd.nd (by rw[qh];omega) (λt=>{λp=>?_,λp=>?_}) (I<|j) R s4 f4]
   .let#[d,hd]:=Y0 p;exact(g.bd.at_ _ hd).2.2.2.1
   .exact xP λz=>p (g.bd.xO t z)
inductive wh(K:Frag)(vs:qa V)(H:Hp)(Q:VK)(E:XK):Prop
 |mk:∀(a:qc)(ns:qa Int),vs=[.ref a]->zm K H a (ns.map V.int)->-ns<=63->(∀H',Q (.bl true) H')->wh K vs H Q E
def PJ :kitOne K (.type "list") (.type "list")=some true:=by unfold kitOne;rw[qE (zT _)]
def Vy{a:qb}:decide (V.str a=V.str b)=decide (a=b):=by
 by_cases h:a=b
 .rw[h,qw rfl,qw rfl]
 .rw[qK h,qK λz=>h (V.str.inj z)]
abbrev NW:=qa (qb×qe)
variable {R:NW}
def YZ(R:NW)(t:qb):qe:=(R.filter λr=>decide (t∈r.2)).map (·.1)
def Nt(R:NW)(n:qb)(ws:qe)(t:qb):YZ (R++[(n,ws)]) t=YZ R t++if t∈ws then [n] else []:=by
 unfold YZ;rw[zt,qB];by_cases h:t∈ws<;>simp[zi,h]
def AE{n:qb}:n∈YZ R t↔∃ws,(n,ws)∈R/\t∈ws:=by
 unfold YZ;constructor
 .intro h;let#[r,a,U]:=qj.mp h;exact{r.2,(qG.mp a).1,qL (qG.mp a).2}
 .rintro⟨ws,a,b⟩;calc qj.mpr {(n,ws),qG.mpr {a,qw b},U}
def RF{n:qb}(h:n∈YZ R t):n∈R.map (·.1):=let ⟨ws,a,_⟩:=AE.mp h;qj.mpr {(n,ws),a,U}
def E4(R:NW)(t:qb):-(YZ R t)<=-R:=by unfold YZ;rw[qh];calc qP _ _
def uy(R:NW)(n:qb):NW:=R.filter λr=>decide (r.1≠n)
def RH(R:NW)(n t:qb):YZ (uy R n) t=(YZ R t).filter λm=>decide (m≠n):=by
 unfold YZ uy;rw[jd,xA,xA];congr 1;calc jA λr _=>?_;show(decide (t∈r.2)&&decide (r.1≠n))=(decide (r.1≠n)&&decide (t∈r.2));rw[Bool.and_comm]
def bL(e:(R.map (·.1)).Nodup){n:qb}{a b:qe}(d:(n,a)∈R)(c:(n,b)∈R):a=b:=by
 induction R with
 |nil=>cases d
 |cons r R h=>
  rw[qZ,zN] at e;obtain f|d:=qx.mp d
  .rcases qx.mp c with g|c
   .rw[<-g] at f;exact(vF f).2
   .exact absurd (qj.mpr {_,c,by rw[<-f]}) e.1
  .rcases qx.mp c with g|c
   .exact absurd (qj.mpr {_,d,by rw[<-g]}) e.1
   .exact h e.2 d c
abbrev UA:=qb×qc×qe
abbrev U0(fK:qa UA):qa (Key×V):=dG (·.1) (λr=>V.ref r.2.1) fK
def YJ(fK:qa UA):NW:=fK.map λr=>(r.1,r.2.2)
def Aa(fK:qa UA):(YJ fK).map (·.1)=fK.map (·.1):=by unfold YJ;rw[qI];rfl
def Ki(fK:qa UA):-(YJ fK)=-fK:=qh _
structure IX(a:jg)(H:Hp)(x dx E B:qc)(fK:qa UA)(bs:qa (qb×qc))(W:qe):Prop where
 obj:H x=@(.ins (a 119) dx [(ZJ,.ref E),(Zf,.ref B)])
 en:H E=@(.dK (U0 fK))
 br:H B=@(.dK (yl bs))
 eb:E≠B
 ls:∀r∈fK,H r.2.1=@(.lst (~~~r.2.2))/\SS r.2.2=r.2.2/\∀w∈r.2.2,w∈W
 nd:(fK.map (·.1)).Nodup
 few:-fK<=40
 wf:-W<=20
 bd:BD H E B bs (YZ (YJ fK)) W
def vD(E B:qc)(fK:qa UA)(bs:qa (qb×qc)):qa qc:=E::B::(bs.map (·.2)++fK.map (·.2.1))
inductive vw(a:jg)(H:Hp)(x:qc)(R:NW)(W:qe)(n:Nat)(F:qa qc):Prop
 |mk:∀dx E B fK bs,IX a H x dx E B fK bs W->YJ fK=R->-R<=n->F=vD E B fK bs->vw a H x R W n F
def Yn{fK:qa UA}  :c∈vD E B fK bs↔c=E\/c=B\/c∈bs.map (·.2)\/c∈fK.map (·.2.1):=by
 unfold vD;rw[qx,qx,qq]
def IX.keep{x:qc}{fK:qa UA}(h:IX a H x dx E B fK bs W)(k:∀c o,(c=x\/c∈vD E B fK bs)->H c=some o->H' c=some o):IX a H' x dx E B fK bs W:=
 ⟨k _ _ (.inl rfl) h.obj,k _ _ (.inr (Yn.mpr (.inl rfl))) h.en,k _ _ (.inr (Yn.mpr (.inr (.inl rfl)))) h.br,h.eb,
   λr b=>{k _ _ (.inr (Yn.mpr (.inr (.inr (.inr (qj.mpr #[r,b,U])))))) (h.ls r b).1,(h.ls r b).2},h.nd,h.few,h.wf,
   h.bd.congr (λp d o e=>k _ _ (.inr (Yn.mpr (.inr (.inr (.inl (qj.mpr #[p,d,U])))))) e) λ_=>rfl⟩
def vw.keep{x:qc}(h:vw a H x R W n F)(k:∀c o,(c=x\/c∈F)->H c=some o->H' c=some o):vw a H' x R W n F:=by
 let#[dx,E,B,fK,bs,i,b,d,U]:=h;calc{dx,E,B,fK,bs,i.keep k,b,d,U}
def vw.kind{x:qc}(h:vw a H x R W n F)(hc:c∈F):(∃b,H c=@(.dK b))\/∃xs,H c=@(.lst xs):=by
 let#[dx,E,B,fK,bs,i,e,f,U]:=h;obtain z|z|z|z:=Yn.mp hc
 .rw[z];exact .inl {_,i.en}
 .rw[z];exact .inl {_,i.br}
 .let#[p,d,U]:=qj.mp z;exact .inl {_,(i.bd.at_ p d).1}
 .let#[r,d,U]:=qj.mp z;calc .inr {_,(i.ls r d).1}
def vw.obj{x:qc}(h:vw a H x R W n F):∃dx E B,H x=@(.ins (a 119) dx [(ZJ,.ref E),(Zf,.ref B)]):=let ⟨_,_,_,_,_,i,_,_,_⟩:=h;{6,i.obj}
inductive ID
 |mk:∀(x dx:qc)(W:qe),vs=[.ref x]->-W<=20->H x=some (.ins (a 119) dx [])->(∀H' F,(∀c o,c≠x->H c=some o->H' c=some o)->(∀c∈F,H c=none)->vw a H' x [] W 0 F->Q .non H')->ID a vs H Q E
inductive Oi
 |mk:∀(x p:qc)(R:NW)(W:qe)(n:Nat)(F:qa qc)(nm:qb)(ss:qe),vs=[.ref x,.str nm,.ref p]->vw a H x R W n F->n<40->¬nm∈R.map (·.1)->H p=some (.lst (~~~ss))->(∀w∈ss,w∈W)->-ss<=60->(∀H' F',vw a H' x (R++[(nm,SS ss)]) W (n+1) F'->xu F H H'->(∀c∈F',c∈F\/H c=none)->Q .non H')->Oi a vs H Q E
inductive IC
 |mk:∀(x:qc)(R:NW)(W:qe)(n:Nat)(F:qa qc)(nm:qb),vs=[.ref x,.str nm]->vw a H x R W n F->nm∈R.map (·.1)->(∀H' F',vw a H' x (uy R nm) W n F'->xu F H H'->(∀c∈F',c∈F)->Q .non H')->IC a vs H Q E
inductive Gs(a:jg)(vs:qa V)(H:Hp)(Q:VK):Prop
 |mk:∀(x:qc)(R:NW)(W:qe)(n:Nat)(F:qa qc)(t:qb),vs=[.ref x,.str t]->vw a H x R W n F->(∀l H',H l=none->Qi H H'->H' l=some (.lst ((QH (YZ R t)).map V.str))->Q (.ref l) H')->Gs a vs H Q
def Dj(a:jg):Sp:=λvs H Q _=>Gs a vs H Q
def Ww(E B:qc):([(ZJ,V.ref E),(Zf,V.ref B)]:qa (qb×V)).lookup ZJ=@(V.ref E):=by simp[List.lookup]
def UZ(E B:qc):([(ZJ,V.ref E),(Zf,V.ref B)]:qa (qb×V)).lookup Zf=@(V.ref B):=by
 let e:(Zf==ZJ)=false:=by decide +kernel
 simp[List.lookup,e]
def Pe:T.k ja 1 53 (ID a):=by
 sleep 53
 .let#[x,dx,W,U,m,j,k]:=h;refine⟨_,(Qc (Q6 `a Q0 rfl)
   (Qe (Q6 `a Q0 rfl))),?_⟩
  intro L f;let ne1:x≠L:=Qb j f;erw[0,x,_,dx,0,(Qa ne1<|j),(T 7),(T 25),∅,?_];intro B b;let d:(upd (upd H L (.dK [])) x (.ins (a 119) dx (QD ZJ (.ref L) []))) x=@(.ins (a 119) dx (QD ZJ (.ref L) [])):=Qd;let g:(upd (upd H L (.dK [])) x (.ins (a 119) dx (QD ZJ (.ref L) []))) L=@(.dK []):=by rw[Qa ne1.symm];exact Qd
  let ne2:x≠B:=Qb d b;let ne3:L≠B:=Qb g b;erw[0,x,_,dx,0,(Qa ne2<|d),(T 7),(T 20),(by show 1<1000;decide),?_];let i:H B=none:=by rw[Qa ne2.symm,Qa ne3.symm] at b;exact b
  refine k _ (vD L B [] []) (λc o ne e=>?_) (λc hc=>?_) {dx,L,B,[],[],{Qd,?_,?_,ne3,nofun,zH,qR _,m,{zH,zH,nofun,λ_ _=>rfl}},U,qr _,U}
  .rw[Qa ne,Qa (Qb (Qa ne<|Qa (Qb e f)<|e) b),Qa ne,Qa (Qb e f)];exact e
  .rcases Yn.mp hc with z|z|z|z
   .rw[z];exact f
   .rw[z];exact i
   .cases z
   .cases z
  .rw[Qa ne1.symm,Qa ne3,Qa ne1.symm];exact Qd
  .rw[Qa ne2.symm];calc Qd
def SU{fK:qa UA}{nm:qb}(h:(nm,ws)∈YJ fK):∃l,((nm,l,ws):UA)∈fK:=by
 let#[r,a,e]:=qj.mp h;let#[b,c]:=vF e;calc{r.2.1,by rw[<-b,<-c];calc a}
def MK:T.k ja 1 56 (Dj a):=by
 refine T.ok 56 (λj A outer st H vs Q E m h=>?_)
 .let#[x,R,W,n,s,t,U,#[dx,E,B,fK,bs,i,U,_,U],k]:=h;let o:=Yt m;erw[_,(Qe (Qm (Qn (YV rfl) rfl (T 9) boot_sorted (q9 (Y8 o `A `b Q0 #[U,U,U,U]) Qg)))),?_];erw[0,x,_,dx,2,i.obj,(T 7),(T 20),UZ E B,B,U,.inl {_,.inl i.br},0,λp q=>?_];let s1:Qi H (upd H p (.dK [])):=Qi.zg q;let g:=i.few;let c:=E4 (YJ fK) t;rw[Ki] at c;erw[_,Yf.k (k:=inr t) (s1 _ _ i.br),?_];by_cases e:t∈bs.map (·.1)
  .let#[d,hd]:=Y0 e;let f:QB (yl bs) (inr t)=@(V.ref d):=Q5 (r:=((t,d):qb×qc)) i.bd.nd hd;rw[f];erw[d,Qt (YZ (YJ fK) t),YZ (YJ fK) t,U,s1 _ _ (i.bd.at_ _ hd).1,?_,(),λl b=>k l _ (s1.free b) (s1.zP (s1.free b)) Qd];unfold Qt;rw[qI];rfl
  .have f:QB (yl bs) (inr t)=none:=UK e;rw[f];erw[p,[],[],U,Qd,U,∅,λl b=>?_];calc k l _ (s1.free b) (s1.zP (s1.free b)) ?_;rw[Qd,i.bd.xO t e]
def wm(R:NW)(nm:qb)(pre:qe):qb->qe:=λt=>YZ R t++if t∈pre then [nm] else []
def EY{nm:qb}{pre:qe}(h:¬y∈pre)(t:qb):wm R nm (pre++[y]) t=Y4 (wm R nm pre) y (wm R nm pre y++[nm]) t:=by
 by_cases e:t=y
 .subst e;rw[Yr];unfold wm;rw[qC h,qE (qz _ qA),zS]
 .rw[YL e];unfold wm;have:t∈pre++[y]↔t∈pre:=by rw[qq,qk];exact{λz=>z.elim id λq=>absurd q e,.inl}
  by_cases z:t∈pre
  .rw[qE z,qE (this.mpr z)]
  .rw[qC z,qC λq=>z (this.mp q)]
def uc(R:NW)(nm:qb)(pre:qe):qb->qe:=λt=>if t∈pre then (YZ R t).filter λm=>decide (m≠nm) else YZ R t
def EX{nm:qb}{pre:qe}(t:qb):uc R nm (pre++[y]) t=Y4 (uc R nm pre) y ((YZ R y).filter λm=>decide (m≠nm)) t:=by
 by_cases e:t=y
 .subst e;rw[Yr];exact qE (qz _ qA)
 .rw[YL e];unfold uc;have:t∈pre++[y]↔t∈pre:=by rw[qq,qk];exact{λz=>z.elim id λq=>absurd q e,.inl}
  by_cases z:t∈pre
  .rw[qE z,qE (this.mpr z)]
  .rw[qC z,qC λq=>z (this.mp q)]
def Lz(fK:qa UA)(r:UA):YJ (fK++[r])=YJ fK++[(r.1,r.2.2)]:=by unfold YJ;rw[qB];rfl
def F2(fK:qa UA)(nm:qb):YJ (fK.filter λr=>decide (r.1≠nm))=uy (YJ fK) nm:=by
 unfold YJ uy;rw[jd];rfl
def FH{xs:qe}(h:(~~~xs)[i]?=some v):∃y,xs[i]?=some y/\v=V.str y:=by
 rw[qD] at h
 cases e:xs[i]? with
 |none=>rw[e] at h;cases h
 |some t=>rw[e] at h;calc{t,U,(qT h).symm}
def Wg{xs:qe}(h:xs[i]?=some y):xs.take (i+1)=xs.take i++[y]:=by rw[zw,h];rfl
def Pq{xs:qe}(b:xs.Nodup)(h:xs[i]?=some y):¬y∈xs.take i:=λz=>by
 let a:(xs.take i++[y]).Nodup:=by rw[<-Wg h];exact b.sublist (List.take_sublist _ _)
 rw[jo] at a;calc a.2.2 y z y qA rfl
def SI:T.k ja 2 54 (Oi a):=by
 refine T.ok 54 (λcdv A outer st H vs Q E D h=>?_)
 .let#[x,p,R,W,n,Fo,nm,ss,U,#[dx,E,B,fK,bs,i,U,hRn,U],hn40,M,hp,hW,hss,k]:=h;let hu:=Yt D;rw[Aa] at M;rw[Ki] at hRn;let hwf:=i.wf;let hdd:=Av ss;let hv0:QB (U0 fK) (inr nm)=none:=UK M;refine⟨_,(Qc (Qq (T.cl (FZ T) (q9 `b (q9 `A Qg))))
   (Qc (Ys hu `A `b (Qn (Ut rfl) rfl (T 9) boot_sorted (q9 (YC (Vz rfl) rfl (T 37) boot_set (q9 `c Qg)) Qg)) rfl)
   (Qe (YA zl rfl (QI (Yg hu `A `b)) (QX (i:=3) (sc 54).nd) (Qc (QE (Ux (UD hu `d `A)) (Qe (Ys hu `A `d Q0 rfl)) Qu)
   (Qe (Ys hu (Yg hu `A `d) `b Y1 rfl))))))),?_⟩
  erw[5,x,_,dx,2,i.obj,(T 7),(T 25),Ww E B,nm,E,0,i.en,hv0,?_];erw[0,p,ss,U,.inl (zm.of hp),(),λu hu0=>{u,dd ss,U,Qd,(),λl hl=>?_}];let s1:Qi H (upd H u (UR P w u (dd ss))):=Qi.zg hu0;let l0:H l=none:=s1.free hl;let s2:Qi H (upd (upd H u (UR P w u (dd ss))) l (.lst ((SS ss).map V.str))):=s1.zP l0;let l2:(upd (upd H u (UR P w u (dd ss))) l (.lst ((SS ss).map V.str))) l=@(.lst ((SS ss).map V.str)):=Qd;erw[0,x,_,dx,2,s2 _ _ i.obj,(T 7),(T 25),Ww E B,0,E,0,UL.k (k:=inr nm) (s2 _ _ i.en) (Ax<|QA ()),?_];rw[Aw ((nm,l,SS ss):UA) M rfl rfl];let xE:x≠E:=QG i.obj i.en λz=>nomatch z;let lE:l≠E:=(Qb i.en l0).symm;let N:(upd (upd (upd H u (UR P w u (dd ss))) l (.lst ((SS ss).map V.str))) E (.dK (U0 (fK++[((nm,l,SS ss):UA)])))) x=@(.ins (a 119) dx [(ZJ,.ref E),(Zf,.ref B)]):=by rw[Qa xE];exact s2 _ _ i.obj
  let Y:(upd (upd (upd H u (UR P w u (dd ss))) l (.lst ((SS ss).map V.str))) E (.dK (U0 (fK++[((nm,l,SS ss):UA)])))) E=@(.dK (U0 (fK++[((nm,l,SS ss):UA)]))):=Qd;let br3:(upd (upd (upd H u (UR P w u (dd ss))) l (.lst ((SS ss).map V.str))) E (.dK (U0 (fK++[((nm,l,SS ss):UA)])))) B=@(.dK (yl bs)):=by rw[Qa i.eb.symm];exact s2 _ _ i.br
  let l3:(upd (upd (upd H u (UR P w u (dd ss))) l (.lst ((SS ss).map V.str))) E (.dK (U0 (fK++[((nm,l,SS ss):UA)])))) l=@(.lst ((SS ss).map V.str)):=by rw[Qa lE];exact l2
  let ls3:∀r∈fK,(upd (upd (upd H u (UR P w u (dd ss))) l (.lst ((SS ss).map V.str))) E (.dK (U0 (fK++[((nm,l,SS ss):UA)])))) r.2.1=@(.lst (~~~r.2.2)):=λr D=>by
   rw[Qa (QG (i.ls r D).1 i.en λz=>nomatch z)];exact s2 _ _ (i.ls r D).1
  let bd3:BD (upd (upd (upd H u (UR P w u (dd ss))) l (.lst ((SS ss).map V.str))) E (.dK (U0 (fK++[((nm,l,SS ss):UA)])))) E B bs (wm (YJ fK) nm []) W:=i.bd.congr (λq O o e=>Qa (i.bd.at_ q O).2.1<|s2 _ _ e) λt=>by
   show YZ (YJ fK) t++(if t∈([]:qe) then [nm] else [])=_;rw[qC nofun,zS]
  let kp3:xu (vD E B fK bs) H (upd (upd (upd H u (UR P w u (dd ss))) l (.lst ((SS ss).map V.str))) E (.dK (U0 (fK++[((nm,l,SS ss):UA)])))):=xu.upd (λc o _ e=>s2 c o e) (.inl (Yn.mpr (.inl rfl)));show VB _ _ _ _ (upd (upd (upd H u (UR P w u (dd ss))) l (.lst ((SS ss).map V.str))) E (.dK (U0 (fK++[((nm,l,SS ss):UA)]))));generalize upd (upd (upd H u (UR P w u (dd ss))) l (.lst ((SS ss).map V.str))) E (.dK (U0 (fK++[((nm,l,SS ss):UA)])))=H3 at N Y br3 l3 ls3 bd3 kp3;let nd3:((fK++[((nm,l,SS ss):UA)]).map (·.1)).Nodup:=by rw[qB];exact Yj i.nd M
  let hv3:QB (U0 (fK++[((nm,l,SS ss):UA)])) (inr nm)=@(V.ref l):=Q5 (r:=((nm,l,SS ss):UA)) nd3 (qz _ qA);let hfew:=i.few;let ndS:=RL ss;refine⟨_,U,x,_,dx,_,_,U,N,(T 7),(T 25),Ww E B,_,U,E,_,U,(by rw[<-hv3];calc Yf.k (k:=inr nm) Y),l,U,{_,zm.of l3},YF (K:=K) (a:=l) (xs:=(SS ss).map V.str)
   (λj Z F=>Ex2 λ(f:qa (qb×qc))(o:uf V)=>cG (Z=[@(.ref x),@(.str nm),@(.ref p),o]) (F x=@(.ins (a 119) dx [(ZJ,.ref E),(Zf,.ref B)])) (F E=@(.dK (U0 (fK++[((nm,l,SS ss):UA)])))) (F B=@(.dK (yl f))) (F l=@(.lst ((SS ss).map V.str))) ((∀r∈fK,F r.2.1=@(.lst (~~~r.2.2)))) (BD F E B f (wm (YJ fK) nm ((SS ss).take j)) W) (xu (vD E B fK bs) H F) ((∀q∈f,q.2∈vD E B fK bs\/H q.2=none)))
   {bs,none,U,N,Y,br3,l3,ls3,jK<|bd3,kp3,λq O=>.inl (Yn.mpr (.inr (.inr (.inl (qj.mpr #[q,O,U])))))} ?_ ?_ ?_⟩
  .rintro j Z F _ ⟨f,o,rfl,b,I,m,S,C,g,J,in4⟩;exact zm.of S
  .rintro j v Z F hv ⟨f,o,rfl,b,I,m,S,C,g,J,in4⟩;let#[y,hy,U]:=FH hv;let ym:y∈SS ss:=ze hy;let yW:y∈W:=hW y (Kj.mp ym);let G:=Pq ndS hy;let hl4:=g.len;let hBF:B∈vD E B fK bs:=Yn.mpr (.inr (.inl rfl));erw[5,x,_,dx,2,b,(T 7),(T 20),UZ E B,B,0,Yf.k (k:=inr y) m,0,?_];by_cases L:y∈f.map (·.1)
   .let#[d,hd]:=Y0 L;let X:QB (yl f) (inr y)=@(V.ref d):=Q5 (r:=((y,d):qb×qc)) g.nd hd;let#[s,dE,dB,_,_]:=g.at_ _ hd;let s:F d=@(.dK (Qt (wm (YJ fK) nm ((SS ss).take j) y))):=s;rw[X];let nrep:¬nm∈wm (YJ fK) nm ((SS ss).take j) y:=λz=>by
     unfold wm at z;rw[qC G,zS] at z;exact M (by rw[<-Aa];calc RF z)
    let lenb:-(wm (YJ fK) nm ((SS ss).take j) y)<=40:=by
     unfold wm;rw[qC G,zS];have:=E4 (YJ fK) y;rw[Ki] at this;omega
    calc QQ {0,x,_,dx,2,b,(T 7),(T 20),UZ E B,0,B,0,(by rw[<-X];calc Yf.k (k:=inr y) m),0,d,0,UL.k (k:=inr nm) s (Qt<|qh<|QA ()),?_};rw[Wk nrep];let xd:x≠d:=QG b s λz=>nomatch z;let ld:l≠d:=QG S s λz=>nomatch z;erw[f,0,Qa xd<|b,Qa dE.symm<|I,Qa dB.symm<|m,Qa ld<|S,λr D=>Qa (QG (C r D) s λz=>nomatch z)<|C r D,?_,J.upd (in4 _ hd),in4];rw[Wg hy];exact(g.set hd (by simp) (λq _ ne o e=>Qa ne<|e) Qd).congr (λ_ _ _ e=>e) λt=>EY G t
   .have X:QB (yl f) (inr y)=none:=UK L;rw[X];calc Q7 ?_;intro d s;let xd:x≠d:=Qb b s;let Ed:E≠d:=Qb I s;let Bd:B≠d:=Qb m s;let ld:l≠d:=Qb S s;let xB:x≠B:=QG b m λz=>nomatch z;let lB:l≠B:=QG S m λz=>nomatch z;let dn:d∈vD E B fK bs\/H d=none:=by
     cases e:H d with
     |none=>calc .inr rfl
     |some o=>
      by_cases hin:d∈vD E B fK bs
      .exact .inl hin
      .have:=J d o hin e;rw[s] at this;cases this
    erw[0,x,_,dx,2,(Qa xd<|b),(T 7),(T 20),UZ E B,0,B,0,UL.k (k:=inr y) (Qa Bd<|m) (Ax<|QA ()),?_];rw[Aw ((y,d):qb×qc) L rfl rfl];let nd5:((f++[((y,d):qb×qc)]).map (·.1)).Nodup:=by rw[qB];exact Yj g.nd L
    let hv5:QB (yl (f++[((y,d):qb×qc)])) (inr y)=@(V.ref d):=Q5 (r:=((y,d):qb×qc)) nd5 (qz _ qA);let br5:(upd (upd F d (.dK [])) B (.dK (yl (f++[((y,d):qb×qc)])))) B=@(.dK (yl (f++[((y,d):qb×qc)]))):=Qd;let d5:(upd (upd F d (.dK [])) B (.dK (yl (f++[((y,d):qb×qc)])))) d=@(.dK []):=by rw[Qa Bd.symm];exact Qd
    erw[0,x,_,dx,2,(Qa xB<|Qa xd<|b),(T 7),(T 20),UZ E B,0,B,0,(by rw[<-hv5];calc Yf.k (k:=inr y) br5),0,d,0,UL.k (k:=inr nm) d5 ∅,?_];let ek:Yz ([]:qa (Key×V)) (inr nm) (.bl true)=Qt [nm]:=rfl;rw[ek];let e0:wm (YJ fK) nm ((SS ss).take j) y=[]:=g.xO y L;erw[f++[((y,d):qb×qc)],0,Qa xd<|Qa xB<|Qa xd<|b,Qa Ed<|Qa i.eb<|Qa Ed<|I,Qa Bd<|Qd,Qa ld<|Qa lB<|Qa ld<|S,λr D=>?_,?_,((J.upd dn).upd (.inl hBF)).upd dn,λq O=>?_]
    .rw[Qa (Qb (C r D) s),Qa (QG (C r D) m λz=>nomatch z),Qa (Qb (C r D) s)];exact C r D
    .rw[Wg hy];refine(g.new (p:=d) (ys:=wm (YJ fK) nm ((SS ss).take j) y++[nm]) L (λz=>?_) Ed.symm Bd.symm yW (by simp) (λq O o e=>?_) ?_).congr (λ_ _ _ e=>e) λt=>EY G t
     .let#[q,O,eq]:=qj.mp z;have:=(g.at_ q O).1;rw[eq,s] at this;cases this
     .rw[Qa (Qb e s),Qa (g.at_ q O).2.2.1,Qa (Qb e s)];exact e
     .rw[e0,Qd];rfl
    .rcases qq.mp O with z|z
     .exact in4 q z
     .rw[qk.mp z];exact dn
  .rintro Z F ⟨f,o,rfl,b,I,m,S,C,g,J,in4⟩;rw[qh,zZ] at g;refine k F (vD E B (fK++[((nm,l,SS ss):UA)]) f) {dx,E,B,fK++[((nm,l,SS ss):UA)],f,{b,I,m,i.eb,λr D=>?_,nd3,by rw[qo,qW];omega,i.wf,g.congr (λ_ _ _ e=>e) λt=>?_},Lz _ _,?_,U} J λc hc=>?_
   .rcases qq.mp D with z|z
    .exact{C r z,(i.ls r z).2}
    .rw[qk.mp z];exact{S,TN ss,λy hy=>hW y (Kj.mp hy)}
   .rw[Lz];exact Nt _ _ _ _
   .rw[qo,qW,Ki];omega
   .rcases Yn.mp hc with z|z|z|z
    .exact .inl (Yn.mpr (.inl z))
    .exact .inl (Yn.mpr (.inr (.inl z)))
    .let#[q,O,U]:=qj.mp z;exact in4 q O
    .rw[qB] at z;obtain y|y:=qq.mp z
     .exact .inl (Yn.mpr (.inr (.inr (.inr y))))
     .rw[qk.mp y];calc .inr l0
def Pd:T.k ja 2 55 (IC a):=by
 refine T.ok 55 (λcdv A outer st H vs Q E C h=>?_)
 .let#[x,R,W,n,Fo,nm,U,#[dx,E,B,fK,bs,i,U,hRn,U],hm,k]:=h;let hu:=Yt C;let#[r0,O,e0]:=qj.mp hm;let#[b,ws]:=r0;obtain rfl:b=nm:=e0;let#[l,hl]:=SU O;let hnd:((YJ fK).map (·.1)).Nodup:=by rw[Aa];exact i.nd
  let hv0:QB (U0 fK) (inr b)=@(V.ref l):=Q5 (r:=((b,l,ws):UA)) i.nd hl;let#[el,eS,eW]:=i.ls _ hl;let eS:SS ws=ws:=eS;refine⟨_,(Qc (Qq (T.cl (YU T) (q9 `b (q9 `A Qg))))
   (Qc (Qr (i:=2) (sc 55).nd (Um `A `b #[U,U,U,U]))
   (Qe (YA zl rfl (QI `c) (QX (i:=3) (sc 55).nd) (Qc (Qq (Um (Yg hu `A `d) `b #[U,U,U,U]))
   (Qe (QE (YQ (XG (Yg hu `A `d) (λ_=>rfl))) (Qe (Qq (Um `A `d #[U,U,U,U]))) Qu))))))),?_⟩
  erw[5,x,_,dx,2,i.obj,(T 7),(T 25),Ww E B,b,E,2,i.en,hv0,?_];erw[0,x,_,dx,2,i.obj,(T 7),(T 25),Ww E B,E,U,.inl {_,.inl i.en},0,_,inr b,.ref l,i.en,U,hv0,?_];rw[V9];let xE:x≠E:=QG i.obj i.en λz=>nomatch z;let N:(upd H E (.dK (U0 (fK.filter λr=>decide (r.1≠b))))) x=@(.ins (a 119) dx [(ZJ,.ref E),(Zf,.ref B)]):=by rw[Qa xE];exact i.obj
  let en3:(upd H E (.dK (U0 (fK.filter λr=>decide (r.1≠b))))) E=@(.dK (U0 (fK.filter λr=>decide (r.1≠b)))):=Qd;let br3:(upd H E (.dK (U0 (fK.filter λr=>decide (r.1≠b))))) B=@(.dK (yl bs)):=by rw[Qa i.eb.symm];exact i.br
  let S:∀r∈fK,(upd H E (.dK (U0 (fK.filter λr=>decide (r.1≠b))))) r.2.1=@(.lst (~~~r.2.2)):=λr C=>by
   rw[Qa (QG (i.ls r C).1 i.en λz=>nomatch z)];exact(i.ls r C).1
  let bd3:BD (upd H E (.dK (U0 (fK.filter λr=>decide (r.1≠b))))) E B bs (uc (YJ fK) b []) W:=i.bd.congr (λq I o e=>Qa (i.bd.at_ q I).2.1<|e) λt=>qC λz=>nomatch z;let kp3:xu (vD E B fK bs) H (upd H E (.dK (U0 (fK.filter λr=>decide (r.1≠b))))):=xu.upd (λc o _ e=>e) (.inl (Yn.mpr (.inl rfl)));show VB _ _ _ _ (upd H E (.dK (U0 (fK.filter λr=>decide (r.1≠b)))));generalize upd H E (.dK (U0 (fK.filter λr=>decide (r.1≠b))))=H3 at N en3 br3 S bd3 kp3;let ndS:ws.Nodup:=by rw[<-eS];exact RL ws
  refine⟨_,U,l,U,{_,zm.of (S _ hl)},YF (K:=K) (a:=l) (xs:=ws.map V.str)
   (λj Z p=>Ex2 λ(f:qa (qb×qc))(o:uf V)=>fJ (Z=[@(.ref x),@(.str b),@(.ref l),o]) (p x=@(.ins (a 119) dx [(ZJ,.ref E),(Zf,.ref B)])) (p E=@(.dK (U0 (fK.filter λr=>decide (r.1≠b))))) (p B=@(.dK (yl f))) ((∀r∈fK,p r.2.1=@(.lst (~~~r.2.2)))) (BD p E B f (uc (YJ fK) b (ws.take j)) W) (xu (vD E B fK bs) H p) ((∀q∈f,q∈bs)))
   {bs,none,U,N,en3,br3,S,jK<|bd3,kp3,λq I=>I} ?_ ?_ ?_⟩
  .rintro j Z p _ ⟨f,o,rfl,g,J,D,F,s,L,in4⟩;exact zm.of (F _ hl)
  .rintro j v Z p hv ⟨f,o,rfl,g,J,D,F,s,L,in4⟩;let#[y,hy,U]:=FH hv;let ym:y∈ws:=ze hy;let npre:=Pq ndS hy;let hbe:uc (YJ fK) b (ws.take j) y=YZ (YJ fK) y:=qC npre;let X:b∈YZ (YJ fK) y:=AE.mpr #[ws,O,ym];let hyb:y∈f.map (·.1):=xP λz=>by
    have:=s.xO y z;rw[hbe] at this;rw[this] at X;cases X
   let#[d,hd]:=Y0 hyb;let Y:QB (yl f) (inr y)=@(V.ref d):=Q5 (r:=((y,d):qb×qc)) s.nd hd;let#[ed,dE,dB,_,_]:=s.at_ _ hd;let ed:p d=@(.dK (Qt (YZ (YJ fK) y))):=by rw[ed];show @(HO.dK (Qt (uc (YJ fK) b (ws.take j) y)))=_;rw[hbe]
   let xd:x≠d:=QG g ed λz=>nomatch z;let xB:x≠B:=QG g D λz=>nomatch z;let hdF:d∈vD E B fK bs:=Yn.mpr (.inr (.inr (.inl (qj.mpr {_,in4 _ hd,U}))));let hBF:B∈vD E B fK bs:=Yn.mpr (.inr (.inl rfl));erw[0,x,_,dx,2,g,(T 7),(T 20),UZ E B,0,B,0,(by rw[<-Y];calc Yf.k (k:=inr y) D),d,U,.inl {_,.inl ed},0,_,inr b,.bl true,ed,U,(by rw[UH,qE X]),?_];rw[Vf];let u:(upd p d (.dK (Qt ((YZ (YJ fK) y).filter λm=>decide (m≠b))))) x=@(.ins (a 119) dx [(ZJ,.ref E),(Zf,.ref B)]):=by rw[Qa xd];exact g
   let en5:(upd p d (.dK (Qt ((YZ (YJ fK) y).filter λm=>decide (m≠b))))) E=@(.dK (U0 (fK.filter λr=>decide (r.1≠b)))):=by rw[Qa dE.symm];exact J
   let G:(upd p d (.dK (Qt ((YZ (YJ fK) y).filter λm=>decide (m≠b))))) B=@(.dK (yl f)):=by rw[Qa dB.symm];exact D
   let d5:(upd p d (.dK (Qt ((YZ (YJ fK) y).filter λm=>decide (m≠b))))) d=@(.dK (Qt ((YZ (YJ fK) y).filter λm=>decide (m≠b)))):=Qd;let M:∀r∈fK,(upd p d (.dK (Qt ((YZ (YJ fK) y).filter λm=>decide (m≠b))))) r.2.1=@(.lst (~~~r.2.2)):=λr C=>by rw[Qa (QG (F r C) ed λz=>nomatch z)];exact F r C
   let kp5:xu (vD E B fK bs) H (upd p d (.dK (Qt ((YZ (YJ fK) y).filter λm=>decide (m≠b))))):=L.upd (.inl hdF);let ot5:∀q∈f,q.2≠d->∀o,p q.2=some o->(upd p d (.dK (Qt ((YZ (YJ fK) y).filter λm=>decide (m≠b))))) q.2=some o:=λq _ ne o e=>by rw[Qa ne];exact e
   show VB _ _ _ _ (upd p d (.dK (Qt ((YZ (YJ fK) y).filter λm=>decide (m≠b)))));generalize upd p d (.dK (Qt ((YZ (YJ fK) y).filter λm=>decide (m≠b))))=H5 at u en5 G d5 M kp5 ot5;erw[0,x,_,dx,2,u,(T 7),(T 20),UZ E B,0,B,.ref d,U,(by rw[<-Y];calc Yf.k (k:=inr y) G),!(Qt ((YZ (YJ fK) y).filter λm=>decide (m≠b))).isEmpty,Or.inr (Or.inr {_,d5,U}),?_]
   cases hys:(YZ (YJ fK) y).filter λm=>decide (m≠b) with
   |cons z zs=>
    calc QQ {f,0,u,en5,G,M,?_,kp5,in4};rw[Wg hy];rw[hys] at d5;calc(s.set hd (ys:=z::zs) (by simp) ot5 d5).congr (λ_ _ _ e=>e) λt=>?_;rw[EX,hys]
   |nil=>
    calc Q7 {0,x,_,dx,2,u,(T 7),(T 20),UZ E B,B,U,.inl {_,.inl G},0,_,inr y,.ref d,G,U,Y,?_};rw[V9];erw[f.filter λr=>decide (r.1≠y),_,U,Qa xB<|u,Qa i.eb<|en5,Qd,λr C=>Qa (QG (M r C) G λz=>nomatch z)<|M r C,?_,kp5.upd (.inl hBF),λq I=>in4 q (qG.mp I).1];rw[Wg hy];refine(s.del hd λq I ne o e=>?_).congr (λ_ _ _ e=>e) λt=>?_
    .rw[Qa (s.at_ q I).2.2.1];exact ot5 q I ne o e
    .rw[EX,hys]
  .rintro Z p ⟨f,o,rfl,g,J,D,F,s,L,in4⟩;rw[qh,zZ] at s;let X:-(fK.filter λr=>decide (r.1≠b))<=-fK:=qP _ _;let G:=i.few;rw[Ki] at hRn;refine k p (vD E B (fK.filter λr=>decide (r.1≠b)) f) {dx,E,B,_,f,{g,J,D,i.eb,λr C=>{F r (qG.mp C).1,(i.ls r (qG.mp C).1).2},i.nd.sublist (zy.map _),(),i.wf,s.congr (λ_ _ _ e=>e) λt=>?_},F2 _ _,by rw[<-F2,Ki];omega,U} L λc hc=>?_
   .rw[F2,RH];by_cases u:t∈ws
    .exact(qE u).symm
    .have e:uc (YJ fK) b ws t=YZ (YJ fK) t:=qC u;rw[e];calc zK.mpr λm hm=>qw λz=>u ?_;let#[Y,M,h2]:=AE.mp hm;rw[z] at M;rw[bL hnd O M];exact h2
   .rcases Yn.mp hc with z|z|z|z
    .exact Yn.mpr (.inl z)
    .exact Yn.mpr (.inr (.inl z))
    .let#[q,I,U]:=qj.mp z;exact Yn.mpr (.inr (.inr (.inl (qj.mpr {q,in4 q I,U}))))
    .let#[q,I,U]:=qj.mp z;calc Yn.mpr (.inr (.inr (.inr (qj.mpr {q,(qG.mp I).1,U}))))
structure TH(a:jg)(H:Hp)(x dx L R:qc)(fK:Rows)(kr:qa (Key×V)):Prop where
 obj:H x=@(.ins (a 125) dx [(Zh,.ref L),(Zi,.ref R)])
 lk:H L=@(.dK (QM fK))
 rp:H R=@(.dK kr)
 lr:L≠R
 nd:(fK.map (·.1)).Nodup
 few:-fK<=40
 w5:-kr<=40
 yS:∀t v,QB kr (inr t)=some v->∃d,v=.ref d/\H d=@(.dK (Qt (QK fK t)))/\d≠L/\d≠R
 xO:∀t:qb,t≠""->QB kr (inr t)=none->QK fK t=[]
 e_:QB kr (inr ("":qb))=none
 inj:∀t t' d,QB kr (inr t)=@(.ref d)->QB kr (inr t')=@(.ref d)->t=t'
def TH.w4{x R:qc}{fK:Rows}(h:TH a H x dx L R fK kr)(k:Kp2 H H'):TH a H' x dx L R fK kr:=
 {k _ _ h.obj nofun,k _ _ h.lk nofun,k _ _ h.rp nofun,h.lr,h.nd,h.few,h.w5,λt v e=>let ⟨d,b,c,f⟩:=h.yS t v e;{d,b,k _ _ c nofun,f},h.xO,h.e_,h.inj}
inductive gP(a:jg)(H:Hp)(x:qc)(fK:Rows)(n:Nat):Prop
 |mk:∀dx L R kr,TH a H x dx L R fK kr->-fK<=n->-kr<=n->gP a H x fK n
def gP.w4{x:qc}{fK:Rows}(h:gP a H x fK n)(k:Kp2 H H'):gP a H' x fK n:=let ⟨dx,L,R,kr,t,b,c⟩:=h;{dx,L,R,kr,t.w4 k,b,c}
def Ua(L R:qc):([(Zh,V.ref L),(Zi,V.ref R)]:qa (qb×V)).lookup Zh=@(V.ref L):=by simp[List.lookup]
def Ug(L R:qc):([(Zh,V.ref L),(Zi,V.ref R)]:qa (qb×V)).lookup Zi=@(V.ref R):=by
 let e:(Zi==Zh)=false:=by decide +kernel
 simp[List.lookup,e]
def TH.add{x R:qc}{fK:Rows}{b:qa (Key×V)}{nm:qb}(i:TH a H x dx L R fK kr)(s:up fK nm=none)(few:-fK<40)
 (k:H' x=@(.ins (a 125) dx [(Zh,.ref L),(Zi,.ref R)])) (n:H' L=@(.dK (QM (fK++[(nm,an)])))) (o:H' R=@(.dK b)) (l:-b<=40)
 (old:∀t d,t≠an->QB kr (inr t)=@(.ref d)->H' d=@(.dK (Qt (QK fK t)))) (c:∀t,t≠an->QB b (inr t)=QB kr (inr t))
 (new:an≠""->∃d,QB b (inr an)=@(.ref d)/\H' d=@(.dK (Qt (QK fK an++[nm])))/\d≠L/\d≠R/\∀t,t≠an->QB kr (inr t)≠@(.ref d)) (emp:an=""->b=kr):TH a H' x dx L R (fK++[(nm,an)]) b:=by
 let ex:∀t,t≠an->QK (fK++[(nm,an)]) t=QK fK t:=λt h=>by rw[Kd,qC (jD h),zS]
 let u:QK (fK++[(nm,an)]) an=QK fK an++[nm]:=by rw[Kd,qE rfl]
 let m:QB b (inr ("":qb))=none:=by
  by_cases h:an=""
  .rw[emp h];exact i.e_
  .rw[c "" (jD h)];exact i.e_
 erw[k,n,o,i.lr,IV i.nd s,by rw[qo,qW];omega,l,λt v e=>?_,λt q e=>?_,m,λt t' d f g=>?_]
 .by_cases h:t=an
  .subst h;let h0:t≠"":=λz=>by rw[z,m] at e;cases e
   let#[d,j,r,p,w,_]:=new h0;rw[j] at e;cases e;rw[u];exact#[d,U,r,p,w]
  .rw[c t h] at e;let#[d,U,r,p]:=i.yS t v e;rw[ex t h];exact{d,U,old t d h e,p}
 .by_cases h:t=an
  .subst h;let#[d,j,_]:=new q;rw[j] at e;cases e
  .rw[ex t h];rw[c t h] at e;exact i.xO t q e
 .by_cases h:t=an
  .by_cases h':t'=an
   .rw[h,h']
   .subst h;let h0:t≠"":=λz=>by rw[z,m] at f;cases f
    let#[r,j,_,_,_,p]:=new h0;rw[j] at f;cases f;rw[c t' h'] at g;exact absurd g (p t' h')
  .by_cases h':t'=an
   .subst h';let h0:t'≠"":=λz=>by rw[z,m] at g;cases g
    let#[r,j,_,_,_,p]:=new h0;rw[j] at g;cases g;rw[c t h] at f;exact absurd f (p t h)
   .rw[c t h] at f;rw[c t' h'] at g;calc i.inj t t' d f g
def TH.take{x R:qc}{fK:Rows}{nm:qb}(b:TH a H x dx L R fK kr)(j:up fK nm=some an)
 (c:H' x=@(.ins (a 125) dx [(Zh,.ref L),(Zi,.ref R)])) (f:H' L=@(.dK (QM (without fK nm)))) (g:H' R=@(.dK kr))
 (old:∀t d,t≠an->QB kr (inr t)=@(.ref d)->H' d=@(.dK (Qt (QK fK t))))
 (new:∀d,QB kr (inr an)=@(.ref d)->H' d=@(.dK (Qt ((QK fK an).filter λm=>decide (m≠nm))))):TH a H' x dx L R (without fK nm) kr:=by
 let l:-(without fK nm)<=-fK:=qP _ _;let hf:=b.few;let ex:∀t,t≠an->QK (without fK nm) t=QK fK t:=λt h=>by rw[U8];exact Xn (D8 b.nd j h)
 erw[c,f,g,b.lr,VW b.nd,(),b.w5,λt v e=>?_,λt k e=>?_,b.e_,b.inj]
 .let#[d,U,n,i]:=b.yS t v e;by_cases h:t=an
  .subst h;rw[U8];exact{d,U,new d e,i}
  .rw[ex t h];exact{d,U,old t d h e,i}
 .have i:=b.xO t k e;rw[U8,i];rfl
structure THo(B:Hp)(L R:qc)(kr:qa (Key×V)):Prop where
 hL:B L=none
 hR:B R=none
 hd:∀(t:qb)(d:qc),QB kr (inr t)=@(.ref d)->B d=none
inductive ud(a:jg)(B H:Hp)(x:qc)(fK:Rows)(n:Nat):Prop
 |mk:∀(dx L R:qc)(kr:qa (Key×V)),TH a H x dx L R fK kr->-fK<=n->-kr<=n->THo B L R kr->Qi B H->ud a B H x fK n
inductive C4
 |mk:∀(B:Hp)(x dx:qc),vs=[.ref x]->H x=some (.ins (a 125) dx [])->(∀c o,B c=some o->H c=some o/\c≠x)->(∀H',ud a B H' x [] 0->Q .non H')->C4 a vs H Q E
inductive Oo
 |mk:∀(B:Hp)(x:qc)(fK:Rows)(n:Nat)(nm an:qb),vs=[.ref x,.str nm,.str an]->ud a B H x fK n->n<40->up fK nm=none->(∀H',ud a B H' x (fK++[(nm,an)]) (n+1)->wy H H'->Q .non H')->Oo a vs H Q E
inductive Il
 |mk:∀(B:Hp)(x:qc)(fK:Rows)(n:Nat)(nm:qb),vs=[.ref x,.str nm]->ud a B H x fK n->nm∈fK.map (·.1)->(∀H',ud a B H' x (without fK nm) n->wy H H'->Q .non H')->Il a vs H Q E
def MA:T.k ja 1 61 (C4 a):=by
 sleep 61
 .let#[B,x,dx,U,m,j,k]:=h;refine⟨_,(Qc (Q6 `a Q0 rfl)
   (Qe (Q6 `a Q0 rfl))),?_⟩
  intro L i;let ne1:x≠L:=Qb m i;erw[0,x,_,dx,0,(Qa ne1<|m),(T 5),(T 21),∅,?_];intro R f;let g:(upd (upd H L (.dK [])) x (.ins (a 125) dx (QD Zh (.ref L) []))) x=@(.ins (a 125) dx (QD Zh (.ref L) [])):=Qd;let l:(upd (upd H L (.dK [])) x (.ins (a 125) dx (QD Zh (.ref L) []))) L=@(.dK []):=by rw[Qa ne1.symm];exact Qd
  let ne2:x≠R:=Qb g f;let ne3:L≠R:=Qb l f;erw[0,x,_,dx,0,(Qa ne2<|g),(T 5),(T 26),(by show 1<1000;decide),?_];refine k _ {dx,L,R,[],{Qd,?_,?_,ne3,by simp,∅,∅,λt v z=>(by cases z),λ_ _ _=>rfl,rfl,λ_ _ _ z=>(by cases z)},qr _,qr _,⟨?_,?_,λt d z=>(by cases z)⟩,λc o e=>?_}
  .rw[Qa ne1.symm,Qa ne3,Qa ne1.symm];exact Qd
  .rw[Qa ne2.symm];exact Qd
  .cases q:B L with
   |none=>rfl
   |some o=>have:=(j L o q).1;rw[i] at this;cases this
  .cases q:B R with
   |none=>rfl
   |some o=>
    let#[b,p]:=j R o q;rw[Qa p,Qa ne3.symm,b] at f;cases f
  .let#[b,ne]:=j c o e;rw[Qa ne,Qa (Qb (Qa ne<|Qa (Qb b i)<|b) f),Qa ne,Qa (Qb b i)];calc b
def SO:T.k ja 2 111 (Oo a):=by
 refine(T.D 111).ok (sc 111) (λcdv A outer st H vs Q E hr h=>?_) (λvs H Q E h=>by let#[B,x,fK,n,nm,an,U,_]:=h;rfl)
 .let#[B,x,fK,n,nm,an,U,#[dx,L,R,kr,f,hl1,hl2,C,sB],hn40,F,k]:=h;let G:=Yt hr;refine⟨_,(Qc (Qq (T.cl (FZ T) (q9 `b (q9 `A Qg))))
   (Qc (Ys G `A `b `c U)
   (Qe (QE (Qp UX `c QC) (Qc (QE (Ux (UD G `c `A)) (Qe (Ys G `A `c Q0 rfl)) Qu)
   (Qe (Ys G (Yg G `A `c) `b Y1 rfl))) Qu)))),?_⟩
  let xL:x≠L:=λz=>by let I:=f.obj;rw[z,f.lk] at I;cases I
  let xR:x≠R:=λz=>by let I:=f.obj;rw[z,f.rp] at I;cases I
  erw[5,x,_,dx,2,f.obj,(T 5),(T 21),Ua L R,nm,L,0,f.lk,(by rw[Yv,F];rfl),?_];erw[5,x,_,dx,2,f.obj,(T 5),(T 21),Ua L R,0,L,0,UL.k (k:=inr nm) f.lk (QM<|qh<|QA ()),?_];rw[DI F];let O:wy H (upd H L (.dK (QM (fK++[(nm,an)])))):=wy.upd f.lk;let b:(upd H L (.dK (QM (fK++[(nm,an)])))) x=@(.ins (a 125) dx [(Zh,.ref L),(Zi,.ref R)]):=by rw[Qa xL];exact f.obj
  let i:(upd H L (.dK (QM (fK++[(nm,an)])))) R=@(.dK kr):=by rw[Qa f.lr.symm];exact f.rp
  let j:(upd H L (.dK (QM (fK++[(nm,an)])))) L=@(.dK (QM (fK++[(nm,an)]))):=Qd;let g:∀t d,QB kr (inr t)=@(.ref d)->(upd H L (.dK (QM (fK++[(nm,an)])))) d=@(.dK (Qt (QK fK t)))/\d≠L/\d≠R:=λt d e=>by
   let#[d',J,m,l,r]:=f.yS t _ e;cases J;exact{Qa l<|m,l,r}
  let up1:∀c o,H c=some o->c≠L->(upd H L (.dK (QM (fK++[(nm,an)])))) c=some o:=λc o e ne=>by rw[Qa ne];exact e
  generalize upd H L (.dK (QM (fK++[(nm,an)])))=H1 at O b i j g up1;let y:Qi B H1:=λc o e=>up1 c o (sB c o e) (Qb e C.hL);let l:-(fK++[(nm,an)])<=n+1:=by rw[qo,qW];omega
  erw[0,4,?_];by_cases m:an=""
  .have e:decide (V.str an=V.str "")=true:=by rw[m];simp
   rw[e];exact QQ (k H1 {dx,L,R,kr,f.add F () b j i f.w5 (λt d _ e=>(g t d e).1) (λ_ _=>rfl) (λz=>absurd m z) (λ_=>rfl),l,(),C,y} O)
  .have e:decide (V.str an=V.str "")=false:=by simp[m]
   rw[e];let M:¬nm∈QK fK an:=λz=>Uq.mp F (VO z);refine Q7 {5,x,_,dx,2,b,(T 5),(T 26),Ug L R,R,0,Yf.k (k:=inr an) i,0,?_}
   cases s:QB kr (inr an) with
   |none=>
    calc Q7 ?_;intro p u;let S:x≠p:=Qb b u;let Z:L≠p:=Qb j u;let X:R≠p:=Qb i u;erw[0,x,_,dx,2,(Qa S<|b),(T 5),(T 26),Ug L R,0,R,0,UL.k (k:=inr an) (Qa X<|i) (QA ()),?_];rw[XF _ s];let vk:∀t,QB (kr++[(inr an,V.ref p)]) (inr t)=if (inr t:Key)=inr an then @(V.ref p) else QB kr (inr t):=λt=>X8 _ _ _ _ s
    let D:QB (kr++[(inr an,V.ref p)]) (inr an)=@(V.ref p):=by rw[vk,qE rfl]
    let N:∀t,t≠an->QB (kr++[(inr an,V.ref p)]) (inr t)=QB kr (inr t):=λt h=>by rw[vk,qC (λz=>h (jG z))]
    let rp2:(upd (upd H1 p (.dK [])) R (.dK (kr++[(inr an,V.ref p)]))) R=@(.dK (kr++[(inr an,V.ref p)])):=Qd;let dp2:(upd (upd H1 p (.dK [])) R (.dK (kr++[(inr an,V.ref p)]))) p=@(.dK []):=by rw[Qa X.symm];exact Qd
    erw[0,x,_,dx,2,(Qa xR<|Qa S<|b),(T 5),(T 26),Ug L R,0,R,0,(by rw[<-D];calc Yf.k (k:=inr an) rp2),0,p,0,UL.k (k:=inr nm) dp2 ∅,?_];let ek:Yz ([]:qa (Key×V)) (inr nm) (.bl true)=Qt [nm]:=rfl;rw[ek];refine k _ {dx,L,R,_,f.add F () ?_ ?_ ?_ ?_ ?_ N ?_ ?_,l,?_,?_,?_} ?_
    .rw[Qa S,Qa xR,Qa S];exact b
    .rw[Qa Z,Qa f.lr,Qa Z];exact j
    .rw[Qa X];exact Qd
    .rw[qo,qW];omega
    .intro t d h e;let#[r,q2,Y]:=g t d e;rw[Qa (Qb r u),Qa Y,Qa (Qb r u)];exact r
    .intro _;let er:QK fK an=[]:=f.xO an m s;erw[p,D,?_,Z.symm,X.symm,λt h e=>?_]
     .rw[Qd,er];rfl
     .let#[r,_,_]:=g t p e;rw[u] at r;cases r
    .exact λz=>absurd z m
    .rw[qo,qW];omega
    .erw[C.hL,C.hR,λt d e=>?_];by_cases h:t=an
     .rw[h,D] at e;cases e
      cases q:B p with
      |none=>rfl
      |some o=>have:=y p o q;rw[u] at this;cases this
     .rw[N t h] at e;exact C.hd t d e
    .intro c o e;let J:=y c o e;rw[Qa (Qb J u),Qa (Qb e C.hR),Qa (Qb J u)];exact J
    .refine O.trans λc o e nd=>?_;let J:c≠p:=Qb e u;let cR:c≠R:=λz=>by rw[z,i] at e;cases e;exact nd _ rfl
     rw[Qa J,Qa cR,Qa J];calc e
   |some v=>
    let#[d,U,_,_,_]:=f.yS an v s;let#[r,q2,Y]:=g an d s;calc QQ ?_;let u:=Wj fK an;erw[0,x,_,dx,2,b,(T 5),(T 26),Ug L R,0,R,0,(by rw[<-s];calc Yf.k (k:=inr an) i),0,d,0,UL.k (k:=inr nm) r (Qt<|qh<|QA ()),?_];rw[Wk M];let xd:x≠d:=λz=>by rw[<-z,b] at r;cases r
    refine k _ {dx,L,R,kr,f.add F () ?_ ?_ ?_ f.w5 ?_ (λ_ _=>rfl) ?_ (λ_=>rfl),l,(),C,λc o e=>Qa (Qb e (C.hd an d s))<|y c o e} (O.trans (wy.upd r))
    .rw[Qa xd];exact b
    .rw[Qa q2.symm];exact j
    .rw[Qa Y.symm];exact i
    .intro t d' h e;let#[D,_,_]:=g t d' e;have:d'≠d:=λz=>h (f.inj t an d (by rw[<-z];calc e) s);rw[Qa this];exact D
    .intro _;erw[d,s,Qd,q2,Y,λt h e=>h (f.inj t an d e s)]
def O4:T.k ja 2 62 (Il a):=by
 refine T.ok 62 (λI A outer st H vs Q E J h=>?_)
 .let#[B,x,fK,n,nm,U,D,hm,k]:=h;let#[dx,L,R,kr,b,M,s,C,sB]:=id D;let N:=Yt J;refine⟨_,(Qc (Qq (T.cl (YU T) (q9 `b (q9 `A Qg))))
   (Qc (Qr (i:=2) (sc 62).nd (Um `A `b #[U,U,U,U]))
   (Qe (QE (Qp UX `c QC) (Qe (Qq (Um (Yg N `A `c) `b #[U,U,U,U]))) Qu)))),?_⟩
  let xL:x≠L:=λz=>by let G:=b.obj;rw[z,b.lk] at G;cases G
  let#[an,u]:=US hm;let O:-(without fK nm)<=-fK:=qP _ _;erw[5,x,_,dx,2,b.obj,(T 5),(T 21),Ua L R,nm,L,2,b.lk,(by rw[Yv,u];rfl),?_];erw[0,x,_,dx,2,b.obj,(T 5),(T 21),Ua L R,L,U,.inl {_,.inl b.lk},0,_,inr nm,.str an,b.lk,U,(by rw[Yv,u];rfl),?_];rw[WV];let F:wy H (upd H L (.dK (QM (without fK nm)))):=wy.upd b.lk;let f:(upd H L (.dK (QM (without fK nm)))) x=@(.ins (a 125) dx [(Zh,.ref L),(Zi,.ref R)]):=by rw[Qa xL];exact b.obj
  let l:(upd H L (.dK (QM (without fK nm)))) R=@(.dK kr):=by rw[Qa b.lr.symm];exact b.rp
  let q:(upd H L (.dK (QM (without fK nm)))) L=@(.dK (QM (without fK nm))):=Qd;let g:∀t d,QB kr (inr t)=@(.ref d)->(upd H L (.dK (QM (without fK nm)))) d=@(.dK (Qt (QK fK t)))/\d≠L/\d≠R:=λt d e=>by
   let#[d',m,p,j,r]:=b.yS t _ e;cases m;exact{Qa j<|p,j,r}
  let r:Qi B (upd H L (.dK (QM (without fK nm)))):=λc o e=>by rw[Qa (Qb e C.hL)];exact sB c o e
  generalize upd H L (.dK (QM (without fK nm)))=H1 at F f l q g r;erw[0,4,?_];by_cases m:an=""
  .have e:decide (V.str an=V.str "")=true:=by rw[m];simp
   rw[e];calc QQ (k H1 {dx,L,R,kr,b.take u f q l (λt d _ e=>(g t d e).1) (λd e=>?_),(),s,C,r} F);rw[m,b.e_] at e;cases e
  .have e:decide (V.str an=V.str "")=false:=by simp[m]
   rw[e];let j:=Cy u;obtain⟨v,p⟩:∃v,QB kr (inr an)=some v:=by
    cases p:QB kr (inr an) with
    |none=>
     have:=b.xO an m p;rw[this] at j;cases j
    |some v=>exact#[v,U]
   let#[d,U,_,_,_]:=b.yS an v p;let#[y,S,X]:=g an d p;let xd:x≠d:=λz=>by rw[<-z,f] at y;cases y
   calc Q7 {0,x,_,dx,2,f,(T 5),(T 26),Ug L R,0,R,0,(by rw[<-p];calc Yf.k (k:=inr an) l),d,U,.inl {_,.inl y},0,_,inr nm,.bl true,y,U,(by rw[UH,qE j]),?_};rw[Vf];refine k _ {dx,L,R,kr,b.take u ?_ ?_ ?_ ?_ ?_,(),s,C,λc o e=>Qa (Qb e (C.hd an d p))<|r c o e} (F.trans (wy.upd y))
   .rw[Qa xd];exact f
   .rw[Qa S.symm];exact q
   .rw[Qa X.symm];exact l
   .intro t d' h e;let#[Y,_,_]:=g t d' e;have:d'≠d:=λz=>h (b.inj t an d (by rw[<-z];calc e) p);rw[Qa this];exact Y
   .intro d' e;rw[p] at e;cases e;calc Qd
inductive Iz
 |mk:∀x fK n,vs=[.ref x]->gP a H x fK n->(∀l H',H l=none->Qi H H'->H' l=some (.lst ((QH (fK.map (·.1))).map V.str))->Q (.ref l) H')->Iz a vs H Q E
inductive Dq
 |mk:∀x fK n nm,vs=[.ref x,.str nm]->gP a H x fK n->nm≠""->(∀l H',H l=none->Qi H H'->H' l=some (.lst ((kz fK nm).map V.str))->Q (.ref l) H')->Dq a vs H Q E
inductive Gp(a:jg)(vs:qa V)(H:Hp)(Q:VK):Prop
 |mk:∀x fK n nm,vs=[.ref x,.str nm]->gP a H x fK n->vR fK->nm∈fK.map (·.1)->(∀l H',H l=none->Qi H H'->H' l=some (.lst ((QO fK nm).map V.str))->Q (.ref l) H')->Gp a vs H Q
def C2(a:jg):Sp:=λvs H Q _=>Gp a vs H Q
def DZ:T.k ja 1 63 (Iz a):=by
 sleep 63
 .let#[x,fK,n,U,#[dx,L,R,kr,b,_,_],k]:=h;let c:=b.few;erw[_,(Qe (Qm (Qn (YV rfl) rfl (T 9) boot_sorted (q9 `A Qg)))),?_];erw[0,x,_,dx,2,b.obj,(T 5),(T 21),Ua L R,L,QM fK,fK.map (·.1),U,b.lk,?_,by rw[qh];omega,λl d=>k l _ d (Qi.zg d) Qd];unfold QM;rw[qI,qI];rfl
def MO:T.k ja 1 64 (Dq a):=by
 refine T.ok 64 (λs A outer st H vs Q E t h=>?_)
 .let#[x,fK,n,nm,U,#[dx,L,R,kr,b,_,_],j,k]:=h;let o:=Yt t;let q:=b.few;let u:=Wj fK nm;refine⟨_,(Qc (Qr (i:=2) (sc 64).nd (YC (WC rfl) rfl (T 19) boot_list (q9 (Y8 o `A `b Q0 #[U,U,U,U]) Qg)))
   (Qc (Qr (i:=3) (sc 64).nd (Y8 o `A `b QC #[U,U,U,U]))
   (Qc (QE (Qp UX `d QC) (Qe (Qq (Uj plainAttrs_list za zb QW `c (q9 `d Qg)))) Qu)
   (Qe (Qm `c))))),?_⟩
  erw[0,x,_,dx,2,b.obj,(T 5),(T 26),Ug L R,R,U,.inl {kr,.inl b.rp},0,λp y=>?_];let s1:Qi H (upd H p (.dK [])):=Qi.zg y;erw[_,Yf.k (k:=inr nm) (s1 _ _ b.rp),?_];let fin:∀(l:qc)(H2:Hp),H l=none->Qi H H2->H2 l=@(.lst ((QK fK nm).map V.str)) ->
   ∃v,QB (QM fK) (inr nm)=v:=λ_ _ _ _ _=>{0}
  let hd:∃(d:qc),(match QB kr (inr nm) with|some v=>v|none=>V.ref p)=V.ref d/\(upd H p (.dK [])) d=some (.dK (Qt (QK fK nm))):=by
   cases c:QB kr (inr nm) with
   |none=>calc{p,U,by rw[Qd,b.xO nm j c];rfl}
   |some v=>
    let#[d,U,hd,_]:=b.yS nm v c;exact{d,U,s1 _ _ hd}
  let#[d,r,m]:=hd;erw[d,Qt (QK fK nm),by first|(rw[<-r];cases QB kr (inr nm)<;>rfl)|(rw[<-r]),m,λl z=>?_];let B:(Qt (QK fK nm)).map (λC=>kV C.1)=(QK fK nm).map V.str:=by unfold Qt;rw[qI];rfl
  rw[B];let nl:H l=none:=s1.free z;let s2:Qi H (upd (upd H p (.dK [])) l (.lst ((QK fK nm).map V.str))):=s1.zP nl;let g:(upd (upd H p (.dK [])) l (.lst ((QK fK nm).map V.str))) l=@(.lst ((QK fK nm).map V.str)):=Qd;generalize upd (upd H p (.dK [])) l (.lst ((QK fK nm).map V.str))=H2 at s2 g;erw[0,x,_,dx,2,s2 _ _ b.obj,(T 5),(T 21),Ua L R,L,U,.inl {_,.inl (s2 _ _ b.lk)},0,_,Yf.k (k:=inr nm) (s2 _ _ b.lk),?_];rw[Yv]
  cases f:up fK nm with
  |none=>
   erw[0,4,QQ {0,k l H2 nl s2 ?_}];rw[g,kz,upL,f];simp
  |some an=>
   erw[0,4,?_];by_cases c:an=""
   .have e:decide (V.str an=V.str "")=true:=by rw[c];simp
    show(if (!(decide) (V.str an=V.str ""))=true then _ else _);rw[e];calc QQ {0,k l H2 nl s2 ?_};rw[g,kz,upL,f];simp[c]
   .have e:decide (V.str an=V.str "")=false:=by simp[c]
    show(if (!(decide) (V.str an=V.str ""))=true then _ else _);rw[e];calc Q7 {0,.inl {U,_,zm.of g},0,l,1,g,(qh<|QA ()),?_};erw[0,k l _ nl (s2.zP nl) ?_];rw[Qd,kz,upL,f];simp[c]
def BK{fK:Rows}{n here:qb}{seen rc a:qe}(d:WH fK n here seen rc a)(b:n∈fK.map (·.1)):-rc<=2*-fK:=by
 have:=Y9 d.nd λm hm=>DC b (d.sound m hm);unfold aL at this;rw[qo,qh,qh] at this;omega
def Br:T.k ja 2 65 (C2 a):=by
 refine T.ok 65 (λcdv A outer st H vs Q E hr h=>?_)
 .let#[x,fK,n,nm,U,J,M,hm,k]:=h;let#[dx,L,R,kr,s,hl1,hl2]:=id J;let hfew:=s.few;let hu:=Yt hr;let nm0:nm≠"":=M nm hm;refine⟨_,(Qc (Qq (T.cl (YU T) (q9 `b (q9 `A Qg))))
   (Qc (Qr (i:=2) (sc 65).nd (Ln (DM `b Y1 Li) rfl rfl (by simp) ∅))
   (Qc (Qr (i:=3) (sc 65).nd (WO (Qh `b Qo)))
   (Qc (DK zl (XG `d (λ_=>rfl)) (Qc (Qr (i:=4) (sc 65).nd (GP plainAttrs_list PySem.F.slot_list_pop PySem.F.type_list_pop bQ `d))
     (Qe (YA zl rfl (QI (T.me `a (T 5) (T 116) (MO T) (q9 `e Qg))) (QX (i:=5) (sc 65).nd) (Qe (QE (Ux (UD hu `f `c)) (Qc (Ys hu `c `f Y1 rfl) (Qe (Qq (Uj plainAttrs_list za zb QW `d (q9 `f Qg))))) Qu))))))
   (Qe (Lh (Qm (Qn WB rfl (T 9) boot_sorted (q9 (Yh (sc:=Qs (sO 65)) (N:=(nn 65)) (fr:=[(0,"self")]) (xV rfl rfl) rfl rfl rfl (Sr `c) (λ_ _ _ _=>YW (Ux (Xj hu `a (K7 K `b U)))) (λ_ _ _ _=>`a)) Qg))))))))),?_⟩
  let#[an,eu]:=US hm;erw[5,x,_,dx,2,s.obj,(T 5),(T 21),Ua L R,nm,L,2,s.lk,(by rw[Yv,eu];rfl),?_];intro p G;erw[0,Qd,[(inr nm,.bl true)],U,(by show 1<=15;decide),?_];let ek:V6 [] [(inr nm,V.bl true)]=Qt [nm]:=rfl;rw[ek,VY];let s1:Qi H (upd H p (.dK (Qt [nm]))):=Qi.zg G;let p1:(upd H p (.dK (Qt [nm]))) p=@(.dK (Qt [nm])):=Qd;show VB _ _ _ _ (upd H p (.dK (Qt [nm])));generalize upd H p (.dK (Qt [nm]))=H1 at s1 p1;erw[0,Ma,λq hq=>?_];let qn:H q=none:=s1.free hq;let pq:p≠q:=Qb p1 hq;let s2:Qi H (upd H1 q (.lst [.str nm])):=s1.zP qn;let p2:(upd H1 q (.lst [.str nm])) p=@(.dK (Qt [nm])):=by rw[Qa pq];exact p1
  let q2:(upd H1 q (.lst [.str nm])) q=@(.lst ([nm].map V.str)):=Qd;show VB _ _ _ _ (upd H1 q (.lst [.str nm]));generalize upd H1 q (.lst [.str nm])=H2 at s2 p2 q2;refine⟨λm Z g=>∃(rc u:qe)(o4 o5:uf V),m=2*(2*-fK-(-rc))+-u/\m<=200/\Z=[@(.ref x),@(.str nm),@(.ref p),@(.ref q),o4,o5]/\Qi H g/\g p=@(.dK (Qt rc))/\g q=@(.lst (~~~u))/\gi fK nm rc u,
   {_,[nm],[nm],none,none,U,by show 2*(2*-fK-1)+1<=200;omega,U,s2,p2,q2,gi.init},?_⟩
  rintro m Z g ⟨rc,u,o4,o5,rfl,C,rfl,s3,p3,q3,d⟩;let dl:=d.len hm;erw[0,!(~~~u).isEmpty,.inl {_,zm.of q3,U},?_];by_cases hw:u=[]
  .subst hw;calc QQ ?_;erw[p,Qt rc,p3,λb=>?_];let O:x≠p:=Qb s.obj G;let S:L≠p:=Qb s.lk G;let c:(upd g p (.jM b (.dK (Qt rc)))) x=@(.ins (a 125) dx [(Zh,.ref L),(Zi,.ref R)]):=by rw[Qa O];exact s3 _ _ s.obj
   let j:(upd g p (.jM b (.dK (Qt rc)))) L=@(.dK (QM fK)):=by rw[Qa S];exact s3 _ _ s.lk
   let s4:Qi H (upd g p (.jM b (.dK (Qt rc)))):=s3.zP G;let B:(upd g p (.jM b (.dK (Qt rc)))) p=@(.jM b (.dK (Qt rc))):=Qd;generalize upd g p (.jM b (.dK (Qt rc)))=H4 at c j s4 B;erw[0,p,b,Qt rc,U,B,WA (xs:=rc) V.str (λy=>decide (y∈fK.map (·.1))) V.str (QT ()) B (by unfold Qt;rw[qI];rfl) ?_ ?_ ?_]
   .intro y H5 Q' hy s5 f;erw[5,x,_,dx,2,s5 _ _ c,(T 5),(T 21),Ua L R,L,0,Yf.k (k:=inr y) (s5 _ _ j),0,?_];rw[Yv]
    cases e:up fK y with
    |none=>
     rw[qK (Uq.mp e)] at f;calc f
    |some z=>
     rw[qw (qj.mpr {_,U4 e,U})] at f;exact f
   .intro y H5 Q' hy s5 _ f;exact{0,f}
   .intro D I;let f:=Y9 (d.nd.filter (λy=>decide (y∈fK.map (·.1)))) (l:=fK.map (·.1)) λm hm=>qL (qG.mp hm).2;rw[qh] at f;erw[D,0,zm.of Qd,(),λl r=>?_];let X:p≠D:=Qb B I;let F:(upd H4 D (.lst ((rc.filter λy=>decide (y∈fK.map (·.1))).map V.str))) p=@(.jM b (.dK (Qt rc))):=by rw[Qa X];exact B
    let s5:Qi H (upd H4 D (.lst ((rc.filter λy=>decide (y∈fK.map (·.1))).map V.str))):=s4.zP (s4.free I);generalize upd H4 D (.lst ((rc.filter λy=>decide (y∈fK.map (·.1))).map V.str))=H5 at r F s5;let pl:p≠l:=Qb F r;let nl:H l=none:=s5.free r;erw[Qa pl<|F,?_];calc k l _ nl ((s5.zP nl).zP G) ?_;rw[Qa pl.symm,Qd,d.done s.nd]
  .obtain⟨c,here,rfl⟩:∃c here,u=c++[here]:={u.dropLast,u.getLast hw,(List.dropLast_concat_getLast hw).symm};let hk:(!((c++[here]).map V.str).isEmpty)=true:=by simp
   rw[hk];rw[qo,qW] at C;calc Q7 {_,λZ' H' z=>z,?_};erw[0,.inl {U,_,zm.of q3},q,_,.str here,7,q3,by simp,?_];let edl:((c++[here]).map V.str).dropLast=c.map V.str:=by simp
   rw[edl];let s4:Qi H (upd g q (.lst (~~~c))):=s3.zP qn;let B:(upd g q (.lst (~~~c))) p=@(.dK (Qt rc)):=by rw[Qa pq];exact p3
   let q4:(upd g q (.lst (~~~c))) q=@(.lst (~~~c)):=Qd;generalize upd g q (.lst (~~~c))=H4 at s4 B q4⊢;let O:=J.w4 s4.w4;let hh:here∈rc:=d.sub here (by simp);let h0:here≠"":=(d.sound here hh).ne M nm0;erw[0,x,dx,0,s4 _ _ s.obj,4,x,fK,n,here,U,O,h0,λl H5 nl s5 el=>?_];let lp:l≠p:=(Qb B nl).symm;let lq:l≠q:=(Qb q4 nl).symm;refine⟨l,U,{_,zm.of el},YF (K:=K) (a:=l) (xs:=(kz fK here).map V.str) (λi Z j=>Ex3 λ(b f:qe)(o:uf V)=>TU (Z=[@(.ref x),@(.str nm),@(.ref p),@(.ref q),@(.str here),o]) (Qi H j) (j p=@(.dK (Qt b))) (j q=@(.lst (~~~f))) (j l=@(.lst ((kz fK here).map V.str))) (WH fK nm here ((kz fK here).take i) b f) (2*(2*-fK-(-b))+-f<=2*(2*-fK-(-rc))+-c))
    {rc,c,o5,U,s4.trans s5,s5 _ _ B,s5 _ _ q4,el,by simpa using d.pop,qr _} ?_ ?_ ?_⟩
   .rintro i Z j _ ⟨b,f,o,rfl,S,I,X,Y,F,m6⟩;exact zm.of Y
   .rintro i v Z j hv ⟨b,f,o,rfl,S,I,X,Y,F,m6⟩;obtain⟨y,hy,rfl⟩:∃y,(kz fK here)[i]?=some y/\V.str y=v:=by
     rw[qD] at hv
     cases e:(kz fK here)[i]? with
     |none=>rw[e] at hv;cases hv
     |some t=>rw[e] at hv;exact{t,U,qT hv}
    let et:(kz fK here).take (i+1)=(kz fK here).take i++[y]:=by rw[zw,hy];rfl
    let ym:y∈kz fK here:=ze hy;let l6':=BK F hm;erw[5,p,0,Yf.k (k:=inr y) I,0,?_];rw[UH];by_cases r:y∈b
    .rw[qE r];calc QQ {b,f,0,S,I,X,Y,?_,m6};rw[et];exact F.old r
    .rw[qC r];calc Q7 {5,p,0,UL.k (k:=inr y) I (Qt<|qh<|QA ()),?_};rw[Wk r];let d7:=F.new r ym;let l7:=BK d7 hm;rw[qo,qW] at l7;let s7:Qi H (upd j p (.dK (Qt (b++[y])))):=S.zP G;let q7:(upd j p (.dK (Qt (b++[y])))) q=@(.lst (~~~f)):=by rw[Qa pq.symm];exact X
     let p7:(upd j p (.dK (Qt (b++[y])))) p=@(.dK (Qt (b++[y]))):=Qd;let l7':(upd j p (.dK (Qt (b++[y])))) l=@(.lst ((kz fK here).map V.str)):=by rw[Qa lp];exact Y
     generalize upd j p (.dK (Qt (b++[y])))=H7 at s7 q7 p7 l7';erw[0,.inl {U,_,zm.of q7},0,q,1,q7,(qh<|QA ()),?_];erw[b++[y],f++[y],0,s7.zP qn,Qa pq<|p7,by rw[Qd,qB];rfl,Qa lq<|l7',?_,?_]
     .rw[et];exact d7
     .rw[qo,qo,qW];omega
   .rintro Z j ⟨b,f,o,rfl,S,I,X,Y,F,m6⟩;rw[qh,zZ] at F;erw[_,?_,b,f,2,(),U,S,I,X,F.out];rw[qo,qW];omega
def Xd(H:Hp)(l:qc)(ls:qa (qc×qe)):Prop:=H l=@(.lst (ls.map λp=>V.ref p.1))/\∀p∈ls,H p.1=@(.lst (~~~p.2))
inductive KG(a:jg)(vs:qa V)(H:Hp)(Q:VK):Prop
 |mk:∀x fK n,vs=[.ref x]->gP a H x fK n->vR fK->(∀l H' ls,H l=none->Qi H H'->(∀p∈ls,H p.1=none/\p.1≠l)->ls.map (·.2)=YO fK (QH (fK.map (·.1)))->Xd H' l ls->Q (.ref l) H')->KG a vs H Q
def A9(a:jg):Sp:=λvs H Q _=>KG a vs H Q
def FR:T.k ja 3 66 (A9 a):=by
 refine T.ok 66 (λcdv A outer st H vs Q E hr h=>?_)
 .let#[x,fK,n,U,G,hne,k]:=h;let#[dx,L,R,kr,th,hl1,hl2]:=id G;let hfew:=th.few;let hu:=Yt hr;refine⟨_,(Qc (Qr (i:=1) (sc 66).nd (WO Qo))
   (Qc (Qr (i:=2) (sc 66).nd Q0)
   (Qc (YA zl rfl (QI (T.mn `a (T 5) (T 66) (DZ T))) (QX (i:=3) (sc 66).nd) (Qe (QE (Ux (UD hu `d `c)) (Qc (Qr (i:=4) (sc 66).nd (T.me `a (T 5) (T 67) (Br T) (q9 `d Qg)))
   (Qc (Qq (Uj plainAttrs_list za zb QW `b (q9 `e Qg)))
   (Qe (YA zl rfl (QI `e) (QX (i:=5) (sc 66).nd) (Qe (Ys hu `c `f Y1 rfl)))))) Qu)))
   (Qe (Qm `b))))),?_⟩
  erw[Xf,λq hq=>?_];let s1:Qi H (upd H q (.lst [])):=Qi.zg hq;let q1:(upd H q (.lst [])) q=@(.lst []):=Qd;show VB _ _ _ _ (upd H q (.lst []));generalize upd H q (.lst [])=H1 at s1 q1;intro p hp;let pn:H p=none:=s1.free hp;let qp:q≠p:=Qb q1 hp;let s2:Qi H (upd H1 p (.dK [])):=s1.zP pn;let q2:(upd H1 p (.dK [])) q=@(.lst []):=by rw[Qa qp];exact q1
  let p2:(upd H1 p (.dK [])) p=@(.dK (Qt [])):=Qd;show VB _ _ _ _ (upd H1 p (.dK []));generalize upd H1 p (.dK [])=H2 at s2 q2 p2;let hth2:=G.w4 s2.w4;erw[0,x,dx,0,s2 _ _ th.obj,U,x,fK,n,U,hth2,λl H3 nl s3 el=>?_];generalize I:QH (fK.map (·.1))=ns at el;let nsm:∀m∈ns,m∈fK.map (·.1):=λm hm=>by rw[<-I] at hm;exact Uc.mp hm
  let nsl:-ns<=40:=by rw[<-I,Yq,qh];exact hfew
  let lq:l≠q:=(Qb q2 nl).symm;let lp:l≠p:=(Qb p2 nl).symm;refine⟨l,U,{_,zm.of el},YF (K:=K) (a:=l) (xs:=ns.map V.str) (λi Z C=>Ex5 λ(ls:qa (qc×qe))(mt:qe)(o3 o4 o5:uf V)=>cG (Z=[@(.ref x),@(.ref q),@(.ref p),o3,o4,o5]) (Qi H C) (Xd C q ls) ((∀z∈ls,H z.1=none/\z.1≠q/\z.1≠p)) (ls.map (·.2)=YO fK (ns.take i)) (C p=@(.dK (Qt mt))) (mt.Nodup) ((∀m,m∈mt↔∃t∈YO fK (ns.take i),m∈t)) (C l=@(.lst (~~~ns))))
   {[],[],none,none,none,U,s2.trans s3,{s3 _ _ q2,nofun},nofun,U,s3 _ _ p2,List.Pairwise.nil,λm=>{nofun,λ#[t,z,_]=>nomatch z},el} ?_ ?_ ?_⟩
  .rintro i Z C _ ⟨ls,mt,o3,o4,o5,rfl,s4,J,hz,M,Y,B,D,l4⟩;exact zm.of l4
  .rintro i v Z C g ⟨ls,mt,o3,o4,o5,rfl,s4,J,hz,M,Y,B,D,l4⟩;obtain⟨nm,hy,rfl⟩:∃y,ns[i]?=some y/\V.str y=v:=by
    rw[qD] at g
    cases e:ns[i]? with
    |none=>rw[e] at g;cases g
    |some t=>rw[e] at g;exact{t,U,qT g}
   let et:ns.take (i+1)=ns.take i++[nm]:=by rw[zw,hy];rfl
   let hnm:nm∈fK.map (·.1):=nsm nm (ze hy);let hpre:∀m∈ns.take i,m∈fK.map (·.1):=λm hm=>nsm m (yi hm);let r:=RY th.nd hne hpre hnm;let hll:-ls<=40:=by
    have:=zp List.length M;rw[qh] at this;let N:=Xg (fK:=fK) (ns.take i);rw[zC] at N;omega
   let O:∀m∈mt,m∈fK.map (·.1):=λm hm=>by
    let#[t,b,O]:=(D m).mp hm;let#[y,_,U]:=VZ _ b;exact(Vv.mp O).1
   rw[et,Kz];erw[5,p,0,Yf.k (k:=inr nm) Y,0,?_];rw[UH];by_cases s:nm∈mt
   .rw[qE s];refine QQ {ls,mt,_,2,s4,J,hz,?_,Y,B,?_,l4}
    .unfold UI;rw[qE (r.mp ((D nm).mp s))];exact M
    .unfold UI;rw[qE (r.mp ((D nm).mp s))];exact D
   .rw[qC s];let F:¬QO fK nm∈YO fK (ns.take i):=λz=>s ((D nm).mpr (r.mpr z));let hth4:=G.w4 s4.w4;calc Q7 {0,x,dx,0,s4 _ _ th.obj,4,x,fK,n,nm,U,hth4,hne,hnm,λb H5 n5 s5 e5=>?_};let l5q:b≠q:=(Qb J.1 n5).symm;let l5p:b≠p:=(Qb Y n5).symm;let l5l:b≠l:=(Qb l4 n5).symm;let q5:=s5 _ _ J.1;erw[0,.inl {U,_,zm.of q5},0,q,1,q5,(qh<|QA ()),?_];let eL:(ls.map λp=>V.ref p.1)++[V.ref b]=(ls++[((b,QO fK nm):qc×qe)]).map λp=>V.ref p.1:=by rw[qB];rfl
    rw[eL];let qn:H q=none:=hq;let s6:Qi H (upd H5 q (.lst ((ls++[((b,QO fK nm):qc×qe)]).map λp=>V.ref p.1))):=(s4.trans s5).zP qn;let S:Xd (upd H5 q (.lst ((ls++[((b,QO fK nm):qc×qe)]).map λp=>V.ref p.1))) q (ls++[((b,QO fK nm):qc×qe)]):=⟨Qd,λz c=>by
     obtain y|y:=qq.mp c
     .rw[Qa (hz z y).2.1];exact s5 _ _ (J.2 z y)
     .rw[qk.mp y,Qa l5q];calc e5⟩
    let p6:(upd H5 q (.lst ((ls++[((b,QO fK nm):qc×qe)]).map λp=>V.ref p.1))) p=@(.dK (Qt mt)):=by rw[Qa qp.symm];exact s5 _ _ Y
    let l6:(upd H5 q (.lst ((ls++[((b,QO fK nm):qc×qe)]).map λp=>V.ref p.1))) l=@(.lst (~~~ns)):=by rw[Qa lq];exact s5 _ _ l4
    generalize upd H5 q (.lst ((ls++[((b,QO fK nm):qc×qe)]).map λp=>V.ref p.1))=H6 at s6 S p6 l6;let e6:H6 b=@(.lst ((QO fK nm).map V.str)):=S.2 (b,QO fK nm) (qz _ qA);let hz6:∀z∈ls++[((b,QO fK nm):qc×qe)],H z.1=none/\z.1≠q/\z.1≠p:=λz c=>by
     obtain y|y:=qq.mp c
     .exact hz z y
     .rw[qk.mp y];exact{s4.free n5,l5q,l5p}
    refine⟨_,U,b,U,{_,zm.of e6},YF (K:=K) (a:=b) (xs:=(QO fK nm).map V.str) (λj Z X=>Ex2 λ(d:qe)(o:uf V)=>TU (Z=[@(.ref x),@(.ref q),@(.ref p),@(.str nm),@(.ref b),o]) (Qi H X) (Xd X q (ls++[((b,QO fK nm):qc×qe)])) (X p=@(.dK (Qt d))) (d.Nodup) ((∀m,m∈d↔m∈mt\/m∈(QO fK nm).take j)) (X l=@(.lst (~~~ns))))
     {mt,0,s6,S,p6,B,λm=>jK<|{.inl,λz=>z.elim id nofun},l6} ?_ ?_ ?_⟩
    .rintro j Z X _ ⟨d,o,rfl,s7,f,p7,u,m7,l7⟩;exact zm.of (f.2 (b,QO fK nm) (qz _ qA))
    .rintro j v Z X g ⟨d,o,rfl,s7,f,p7,u,m7,l7⟩;obtain⟨y,hy,rfl⟩:∃y,(QO fK nm)[j]?=some y/\V.str y=v:=by
      rw[qD] at g
      cases e:(QO fK nm)[j]? with
      |none=>rw[e] at g;cases g
      |some t=>rw[e] at g;exact{t,U,qT g}
     let ej:(QO fK nm).take (j+1)=(QO fK nm).take j++[y]:=by rw[zw,hy];rfl
     let hl7:-d<=40:=by
      have:=Y9 u (l:=fK.map (·.1)) λm hm=>by
       obtain z|z:=(m7 m).mp hm
       .exact O m z
       .exact(Vv.mp (yi z)).1
      rw[qh] at this;omega
     erw[5,p,0,UL.k (k:=inr y) p7 (Qt<|qh<|QA ()),?_];rw[Cg];erw[YR d y,0,s7.zP pn,{Qa qp<|f.1,λz c=>Qa (hz6 z c).2.2<|f.2 z c},Qd,CH u,λm=>?_,Qa lp<|l7];rw[K9,m7,ej,qq,qk,or_assoc]
    .rintro Z X ⟨d,o,rfl,s7,f,p7,u,m7,l7⟩;rw[qh,zZ] at m7;erw[_,d,_,2,s7,f,hz6,?_,p7,u,λm=>?_,l7]
     .unfold UI;rw[qC F,qB,M];rfl
     .unfold UI;rw[qC F,m7,D];constructor
      .rintro(⟨t,h1,N⟩|h)
       .exact{t,qJ _ h1,N}
       .exact{_,qz _ qA,h}
      .rintro⟨t,h1,N⟩;obtain z|z:=qq.mp h1
       .exact .inl #[t,z,N]
       .rw[qk.mp z] at N;exact .inr N
  .rintro Z C ⟨ls,mt,o3,o4,o5,rfl,s4,J,hz,M,Y,B,D,l4⟩;rw[qh,zZ] at M;calc{0,k q C ls hq s4 (λz c=>{(hz z c).1,(hz z c).2.1}) (I<|M) J}
abbrev Ent:=qe×Int×qb×V
variable {es:qa Ent}{e:Ent}
def WT{s t:qe}(h:Yc s=Yc t):s=t:=List.map_inj_right (f:=inr) (λ_ _ z=>jG z) |>.mp h
inductive QV(H:Hp):qa (qa Key×V)->qa Ent->Prop
 |nil:QV H [] []
 |cons {k:qe} {c:Int} {h:qb} {v:V} {p st:qc} {fN:qa (qa Key×V)} {es:qa Ent} (e1:H p=some (.tup [.ref st,v])) (e2:H st=some (.tup [.int c,.str h])) (r:QV H fN es):QV H ((Yc k,.ref p)::fN) ((k,c,h,v)::es)
def Ez(es:qa Ent)(k:qe):Bool:=es.any λx=>decide (x.1=k)
def WZ(es:qa Ent)(e:Ent):qa Ent:=if Ez es e.1=true then es.map (λx=>if x.1=e.1 then e else x) else es++[e]
def Ul(es:qa Ent)(k:qe):uf Ent:=es.find? λx=>decide (x.1=k)
def QV.mono{H H':Hp}(s:∀c xs,H c=@(.tup xs)->H' c=@(.tup xs)):∀{a:qa (qa Key×V)}{es:qa Ent},QV H a es->QV H' a es
 |_,_,.nil=>.nil
 |_,_,.cons b d r=>.cons (s _ _ b) (s _ _ d) (QV.mono s r)
def QV.len{H:Hp}:∀{a:qa (qa Key×V)}{es:qa Ent},QV H a es->-a=-es
 |_,_,.nil=>rfl
 |_,_,.cons _ _ r=>zp (·+1) (QV.len r)
def QV.keys{H:Hp}:∀{a:qa (qa Key×V)}{es:qa Ent},QV H a es->a.map (·.1)=(es.map (·.1)).map Yc
 |_,_,.nil=>rfl
 |_,_,.cons _ _ r=>by rw[qZ,qZ,qZ,QV.keys r]
def QV.any{H:Hp}{k:qe}:∀{a:qa (qa Key×V)}{es:qa Ent},QV H a es->(a.any λc=>decide (c.1=Yc k))=Ez es k
 |_,_,.nil=>rfl
 |_,_,.cons (k:=b) _ _ r=>by
  unfold Ez;rw[yp,yp,QV.any r];have:decide (Yc b=Yc k)=decide (b=k):=by
   by_cases h:b=k
   .rw[qw h,qw (by rw[h])]
   .rw[qK h,qK λz=>h (WT z)]
  rw[this];rfl
def QV.app{H:Hp}{k:qe}{c:Int}{h:qb}{v:V}{p st:qc}(b:H p=@(.tup [.ref st,v]))(d:H st=@(.tup [.int c,.str h])):∀{a:qa (qa Key×V)}{es:qa Ent},QV H a es->QV H (a++[(Yc k,.ref p)]) (es++[(k,c,h,v)])
 |_,_,.nil=>.cons b d .nil
 |_,_,.cons a1 a2 r=>.cons a1 a2 (QV.app b d r)
def QV.rep{H:Hp}{k:qe}{c:Int}{h:qb}{v:V}{p st:qc}(b:H p=@(.tup [.ref st,v]))(d:H st=@(.tup [.int c,.str h])):∀{a:qa (qa Key×V)}{es:qa Ent},QV H a es->QV H (a.map λe=>if e.1=Yc k then (e.1,V.ref p) else e) (es.map λx=>if x.1=k then (k,c,h,v) else x)
 |_,_,.nil=>.nil
 |_,_,.cons (k:=f) a1 a2 r=>by
  rw[qZ,qZ];by_cases h:f=k
  .subst h;rw[qE rfl,qE rfl];exact .cons b d (QV.rep b d r)
  .rw[qC (λz=>h (WT z)),qC h];calc .cons a1 a2 (QV.rep b d r)
def QV.put{k:qe}{c:Int}{h:qb}{p st:qc}{a:qa (qa Key×V)}(r:QV H a es)(b:H p=@(.tup [.ref st,v]))(d:H st=@(.tup [.int c,.str h])):QV H (Yz a (Yc k) (.ref p)) (WZ es (k,c,h,v)):=by
 unfold Yz WZ;rw[r.any];split
 .exact r.rep b d
 .exact r.app b d
inductive Got(H:Hp):uf V->uf Ent->Prop
 |no:Got H none none
 |yes {e:Ent} {p st:qc} (e1:H p=some (.tup [.ref st,e.2.2.2])) (e2:H st=some (.tup [.int e.2.1,.str e.2.2.1])):Got H (some (.ref p)) (some e)
def QV.get{H:Hp}(k:qe):∀{a:qa (qa Key×V)}{es:qa Ent},QV H a es->Got H (QB a (Yc k)) (Ul es k)
 |_,_,.nil=>.no
 |_,_,.cons (k:=b) a1 a2 r=>by
  by_cases h:b=k
  .subst h;let e:∀x es,Ul ((b,x)::es) b=some (b,x):=λx es=>by unfold Ul;rw[j6 (by simp)]
   rw[Yw rfl,e];exact .yes a1 a2
  .have e:∀x es,Ul ((b,x)::es) k=Ul es k:=λx es=>by unfold Ul;rw[jq (by simp[h])]
   rw[Yp (λz=>h (WT z)),e];calc QV.get k r
def sel(f:qe)(es:qa Ent):qa Ent:=es.filter λx=>decide (x.1.take 1=f)
def P7{k f:qe}(h:k.take 1=f):Ez (sel f es) k=Ez es k:=by
 unfold Ez sel;rw[List.any_filter];congr 1;funext x;by_cases e:x.1=k
 .rw[qw e,e,h];simp
 .rw[qK e,vE]
def Wf{k f:qe}(h:k.take 1=f):∀es:qa Ent,Ul (sel f es) k=Ul es k
 |[]=>rfl
 |x::es=>by
  let a:=Wf h es;unfold Ul sel at *
  by_cases e:x.1=k
  .rw[zi,qE (e<|qw h),j6 (by simp[e]),j6 (by simp[e])]
  .rw[jq (by simp[e]) (l:=es),zi];split
   .rw[jq (by simp[e])];exact a
   .exact a
def IZ{f:qe}(h:e.1.take 1=f):sel f (WZ es e)=WZ (sel f es) e:=by
 unfold WZ;rw[P7 h];split
 .unfold sel;rw[jd];congr 1;apply jA;intro x _;show decide ((if x.1=e.1 then e else x).1.take 1=f)=decide (x.1.take 1=f);by_cases z:x.1=e.1
  .rw[qE z,z]
  .rw[qC z]
 .unfold sel;rw[zt,zi,qE (qw h),vv]
def Mm{f:qe}(h:e.1.take 1≠f):sel f (WZ es e)=sel f es:=by
 unfold WZ;split
 .unfold sel;rw[jd];let b:(es.filter ((λx:Ent=>decide (x.1.take 1=f))∘λx=>if x.1=e.1 then e else x))=es.filter λx=>decide (x.1.take 1=f):=by
   apply jA;intro x _;show decide ((if x.1=e.1 then e else x).1.take 1=f)=decide (x.1.take 1=f);by_cases z:x.1=e.1
   .rw[qE z,z]
   .rw[qC z]
  rw[b];calc(js λx c=>?_).trans (List.map_id _);let a:=qL (qG.mp c).2;rw[qC (λz=>h (by rw[<-z];calc a))];rfl
 .unfold sel;rw[zt,zi,qC (by simp[h]),vv,zS]
def DJ(es:qa Ent)(e:Ent):-(WZ es e)<=-es+1/\-es<=-(WZ es e):=by
 unfold WZ;split
 .rw[qh];omega
 .rw[qo,qW];omega
def OO(h:Ul es e.1=none):WZ es e=es++[e]:=by
 have:Ez es e.1=false:=by
  unfold Ul at h;unfold Ez;rw[List.any_eq_false];intro x a;have:=wB.mp h x a;exact this
 unfold WZ;rw[this];calc qC qF
structure Reg(a:jg)(H:Hp)(x dx D:qc)(kd:qa (qa Key×V))(es:qa Ent):Prop where
 obj:H x=@(.ins (a 122) dx [(Zv,.ref D)])
 dr:H D=@(.dT kd)
 yS:∀f v,QB kd (Yc f)=some v->∃d fN,v=.ref d/\d≠D/\H d=@(.dT fN)/\QV H fN (sel f es)
 xO:∀f,QB kd (Yc f)=none->sel f es=[]
 inj:∀f f' d,QB kd (Yc f)=@(.ref d)->QB kd (Yc f')=@(.ref d)->f=f'
 few:-kd<=-es
def FP(D:qc)(kd:qa (qa Key×V))(c:qc):Prop:=c=D\/∃f,QB kd (Yc f)=@(.ref c)
def Reg.fp{x:qc}(h:Reg a H x dx D kd es)(hc:FP D kd c):∃b,H c=@(.dT b):=by
 obtain rfl|⟨f,e⟩:=hc
 .exact{_,h.dr}
 .let#[d,b,g,_,i,_]:=h.yS f _ e;cases g;calc{_,i}
def Reg.frame{x:qc}(h:Reg a H x dx D kd es)(g:∀c o,H c=some o->(∀b,o≠.dT b)->(∀xs,o≠.lst xs)->H' c=some o)(i:∀c o,H c=some o->FP D kd c->H' c=some o):Reg a H' x dx D kd es:=
 {g _ _ h.obj nofun nofun,i _ _ h.dr (.inl rfl),λf v e=>let ⟨d,b,j,k,l,m⟩:=h.yS f v e;{d,b,j,k,i _ _ l (.inr {f,by rw[e,j]}),m.mono λc xs z=>g _ _ z nofun nofun},h.xO,h.inj,h.few}
def Reg.same{x:qc}(h:Reg a H x dx D kd es)(s:Qi H H'):Reg a H' x dx D kd es:=h.frame (λc o e _ _=>s _ _ e) λc o e _=>s _ _ e
def Vn(es:qa Ent)(e:Ent):Bool:=match Ul es e.1 with
 |none=>true
 |some o=>!(HT.kU) e.2.1 e.2.2.1 o.2.1 o.2.2.1
def U6(es:qa Ent)(e:Ent):qa Ent:=if Vn es e=true then WZ es e else es
inductive Ip
 |mk:∀(x dx:qc),vs=[.ref x]->H x=some (.ins (a 122) dx [])->(∀D H',H D=none->Reg a H' x dx D [] []->(∀c o,H c=some o->c≠x->H' c=some o)->Q .non H')->Ip a vs H Q E
inductive Og
 |mk:∀(x dx D:qc)(kd:qa (qa Key×V))(es:qa Ent)(kp sp:qc)(k:qe)(c:Int)(h:qb)(v:V),vs=[.ref x,.ref kp,.ref sp,v]->Reg a H x dx D kd es->-es<=900->k≠[]->H kp=some (.tup (~~~k))->H sp=some (.tup [.int c,.str h]) ->
  (∀kd' H',Reg a H' x dx D kd' (U6 es (k,c,h,v))->(∀c o,H c=some o->¬FP D kd c->H' c=some o)->(∀c,FP D kd' c->FP D kd c\/H c=none)->Q (.bl (Vn es (k,c,h,v))) H')->Og a vs H Q E
inductive ab
 |mk:∀(x dx D:qc)(kd:qa (qa Key×V))(es:qa Ent)(kp:qc)(k:qe)(v:V),vs=[.ref x,.ref kp,v]->Reg a H x dx D kd es->k≠[]->H kp=some (.tup (~~~k))->(∀H',Qi H H'->Q (((Ul es k).map (·.2.2.2)).getD v) H')->ab a vs H Q E
inductive Dh
 |mk:∀(x dx D:qc)(kd:qa (qa Key×V))(es:qa Ent)(f:qb),vs=[.ref x,.str f]->Reg a H x dx D kd es->(∀e∈es,e.1≠[])->-es<64->(∀l bs H',H l=none->Qi H H'->Vs H' bs ((sel [f] es).map (·.1))->H' l=some (.lst ((Wu ((sel [f] es).map (·.1))).map λi=>(bs.map V.ref).getD i .non))->Q (.ref l) H')->Dh a vs H Q E
def A0(k:qe):Xq (~~~k) none (some 1)=(k.take 1).map V.str:=by
 unfold Xq;rw[show(1:Int)=((1:Nat):Int) from rfl,HT.wZ,HT.ku,List.drop_zero,Nat.sub_zero,qh,<-List.map_take]
 cases k with
 |nil=>rfl
 |cons x k=>rw[qU,yu ()]
def KC{k:qe}(h0:k≠[])(h:HT.j4 (-(~~~k)) (-(~~~k)) (some 1)=-(~~~k)):k.map V.str=(k.take 1).map V.str:=by
 rw[show(1:Int)=((1:Nat):Int) from rfl,HT.ku,qh] at h;rw[zG ()]
def XY(D:qc):List.lookup Zv ([(Zv,.ref D)]:qa (qb×V))=@(V.ref D):=by
 rw[zM,show((Zv)==(Zv))=true by decide +kernel]
def I0(f:qe)(es:qa Ent):-(sel f es)<=-es:=qP _ _
def Gj{H H':Hp}(s:Qi H H'):∀{bs:qa qc}{ts:qa (qe)},Vs H bs ts->Vs H' bs ts
 |_,_,.nil=>.nil
 |_,_,.cons e t0 r=>.cons (s _ _ e) t0 (Gj s r)
def O6:T.k ja 1 58 (Ip a):=by
 sleep 58
 .let#[x,dx,U,d,k]:=h;erw[_,(Qe (Q6 `a XM rfl)),?_];intro D b;let ne1:x≠D:=Qb d b;erw[0,x,_,dx,0,(Qa ne1<|d),(T 16),(T 30),∅,?_];refine k D _ b {Qd,?_,λf v z=>(by cases z),λf _=>rfl,λ_ _ _ z=>(by cases z),qr _} λc o e ne=>?_
  .rw[Qa ne1.symm];exact Qd
  .rw[Qa ne,Qa (Qb e b)];calc e
def SH:T.k ja 1 59 (Og a):=by
 refine T.ok 59 (λcdv A outer st H vs Q E hr h=>?_)
 .let#[x,dx,D,kd,es,kp,sp,k,c,h,v,U,R,hl,hk0,hkp,hsp,kq]:=h;let hu:=Yt hr;let hu0:=hr.uo;refine⟨_,(Qc (Qr (i:=4) (sc 59).nd (UU IW `b V3 (U9 Qf)))
   (Qc (QE (Ux (UD hu `e `A)) (Qe (Ys hu `A `e XM rfl)) Qu)
   (Qc (Qr (i:=5) (sc 59).nd (Yg hu `A `e))
   (Qc (QE (PW.pt (Kf (Ux (Xj hu `b `f)) (WL (Qp (bA hu0) `c (Ql Qx (Yg hu `f `b) Qf))))) (Qe (Qm Y1)) Qu)
   (Qc (Ys hu `f `b (Va (Qh `c (Qh `d Qo))) rfl)
   (Qe (Qm Y1))))))),?_⟩
  calc QZ (t:=Fn _ _) λN hN=>?_;let rest:∀(fp:qc)(H1:Hp),Qi H H1->H1 fp=@(.tup ((k.take 1).map V.str))->N [@(.ref x),@(.ref kp),@(.ref sp),some v,@(.ref fp),none] H1:=λfp H1 s1 I=>by
   subst hN;let r:=R.same s1;let hkp1:=s1 _ _ hkp;let hsp1:=s1 _ _ hsp;let key:∀{G:Hp}{b:qc}{t:qe},G b=@(.tup (~~~t))->G b=@(.tup ((Yc t).map kV)):=λe=>by rw[Ae];exact e
   calc QZ (t:=VM _ _ _) λN2 uE=>?_;let J:∀(l:qa (qa Key×V))(H2:Hp)(d:qc)(m:qa (qa Key×V)),H2 D=@(.dT l)->QB l (Yc (k.take 1))=@(.ref d)->d≠D->H2 d=@(.dT m)->QV H2 m (sel (k.take 1) es)->(∀j,j≠k.take 1->QB l (Yc j)=QB kd (Yc j)) ->
    (-l)<=-es+1->(-l<=-es\/sel (k.take 1) es=[])->(∀c o,H1 c=some o->c≠D->H2 c=some o)->(FP D kd d\/H1 d=none)->(∀j,QB kd (Yc j)=@(.ref d)->j=k.take 1)->N2 [@(.ref x),@(.ref kp),@(.ref sp),some v,@(.ref fp),none] H2:=λl H2 d m hD2 hv dD hd2 eo s hln hsl g hfresh L=>by
    subst uE;let xD:x≠D:=QG r.obj r.dr nofun;let B:=g _ _ r.obj xD;let kD:kp≠D:=QG hkp1 r.dr nofun;let u:=g _ _ hkp1 kD;let hsp2:=g _ _ hsp1 (QG hsp1 r.dr nofun);let hfp2:=g _ _ I (QG I r.dr nofun);let vs0:=Wf (k:=k) rfl es;let M:∀{G:Hp}{C:qa (qa Key×V)}{O:qa Ent},(∀c o,H2 c=some o->c≠d->G c=some o)->G d=@(.dT C)->QV G C (sel (k.take 1) O)->(∀j,j≠k.take 1->sel j O=sel j es)->-l<=-O->Reg a G x dx D l O:=λ{G C O} X hd' eo' hs' hl'=>by
     let kt:∀c xs,H1 c=@(.tup xs)->G c=@(.tup xs):=λc xs e=>X _ _ (g _ _ e (QG e r.dr nofun)) (λz=>by have:=g _ _ e (QG e r.dr nofun);rw[z,hd2] at this;cases this);erw[X _ _ B (λz=>by rw[z,hd2] at B;cases B),X _ _ hD2 dD.symm,λj v' y=>?_,λj y=>?_,λf1 f2 d' F S=>?_,hl']
     .by_cases hf:j=k.take 1
      .subst hf;rw[hv] at y;cases y;exact#[d,C,U,dD,hd',eo']
      .rw[s j hf] at y;let#[d',kv,U,q1,q2,q3]:=r.yS j _ y;let dd:d'≠d:=λz=>hf (L j (by rw[<-z];calc y));exact{d',kv,U,q1,X _ _ (g _ _ q2 q1) dd,hs' j hf<|q3.mono kt}
     .have hf:j≠k.take 1:=λz=>by rw[z,hv] at y;cases y
      rw[s j hf] at y;rw[hs' j hf];exact r.xO j y
     .by_cases Z:f1=k.take 1
      .by_cases Y:f2=k.take 1
       .rw[Z,Y]
       .rw[Z,hv] at F;cases F;rw[s f2 Y] at S;exact absurd (L f2 S) Y
      .by_cases Y:f2=k.take 1
       .rw[Y,hv] at S;cases S;rw[s f1 Z] at F;exact absurd (L f1 F) Z
       .rw[s f1 Z] at F;rw[s f2 Y] at S;exact r.inj f1 f2 d' F S
    let L:∀c o,H c=some o->¬FP D kd c->H2 c=some o/\c≠d:=λc o e nf=>by
     let F:=s1 _ _ e;erw[g _ _ F (λz=>nf (.inl z)),λz=>?_];obtain q|q:=hfresh
     .exact nf (z<|q)
     .rw[z,q] at F;cases F
    let fpC:∀c,FP D l c->FP D kd c\/H c=none:=λc hc=>by
     obtain rfl|⟨j,y⟩:=hc
     .exact .inl (.inl rfl)
     .by_cases hf:j=k.take 1
      .rw[hf,hv] at y;cases y;obtain q|q:=hfresh
       .exact .inl q
       .refine .inr ?_
        cases z:H d with
        |none=>rfl
        |some o=>have:=s1 _ _ z;rw[q] at this;cases this
      .rw[s j hf] at y;exact .inl (.inr #[j,y])
    let y:Vn es (k,c,h,v)=true->(Ul es k=none\/-l<=-es)->(∀p,H2 p=none->Q (.bl true) (upd (upd H2 p (.tup [.ref sp,v])) d (.dT (Yz m (Yc k) (.ref p))))):=λY hnv p s=>by
     let pd:d≠p:=Qb hd2 s;let sH:Qi H2 (upd H2 p (.tup [.ref sp,v])):=Qi.zg s;let e:∀c o,H2 c=some o->c≠d->(upd (upd H2 p (.tup [.ref sp,v])) d (.dT (Yz m (Yc k) (.ref p)))) c=some o:=λc o q n=>by rw[Qa n];exact sH _ _ q
     let ep:(upd (upd H2 p (.tup [.ref sp,v])) d (.dT (Yz m (Yc k) (.ref p)))) p=@(.tup [.ref sp,v]):=by rw[Qa pd.symm];exact Qd
     let Z:∀c xs,H2 c=@(.tup xs)->(upd (upd H2 p (.tup [.ref sp,v])) d (.dT (Yz m (Yc k) (.ref p)))) c=@(.tup xs):=λc xs q=>e _ _ q (QG q hd2 nofun);let kE:U6 es (k,c,h,v)=WZ es (k,c,h,v):=qE Y;have:=kq l _ (by
      rw[kE];refine M e Qd ?_ (λj hf=>Mm (λz=>hf z.symm)) ?_
      .rw[IZ (e:=(k,c,h,v)) (f:=k.take 1) rfl];exact(eo.mono Z).put ep (Z _ _ hsp2)
      .rcases hnv with q|q
       .rw[OO q,qo,qW];exact hln
       .exact qQ q (DJ _ _).2) (λc o q nf=>let ⟨q1,q2⟩:=L c o q nf;e c o q1 q2) fpC
     rw[Y] at this;exact this
    erw[0,x,_,dx,2,B,(T 16),(T 30),XY D,0,D,0,(by rw[<-hv];calc Yf.t hD2 (key hfp2)),?_];let gt:=eo.get k;rw[vs0] at gt;erw[5,d,0,Yf.t hd2 (key u),0,?_];let hkl:-m<sizeLine:=by rw[eo.len];have:=I0 (k.take 1) es;exact QA ()
    cases hg:Ul es k with
    |none=>
     rw[hg] at gt;let Y:Vn es (k,c,h,v)=true:=by unfold Vn;rw[show Ul es (k,c,h,v).1=none from hg]
     generalize hvv:QB m (Yc k)=o at gt;cases gt;calc QQ (QQ ?_);calc{5,Y6,λp s=>{5,d,0,UL.t (Qa (Qb hd2 s)<|hd2) (key (Qa (Qb u s)<|u)) hkl,y Y (.inl hg) p s}}
    |some Z=>
     rw[hg] at gt;let hlen:-l<=-es:=by
      obtain q|q:=hsl
      .exact q
      .rw[<-vs0,q] at hg;cases hg
     generalize hvv:QB m (Yc k)=o at gt
     cases gt with
     |@yes Z p0 st0 F S=>
      calc Q7 ?_;erw[0,5,d,0,(by rw[<-hvv];calc Yf.t hd2 (key u)),p0,3,z5.of F,U,sp,st0,c,h,1,z5.of hsp2,z5.of S,0,?_]
      cases hle:HT.kU c h Z.2.1 Z.2.2.1 with
      |true=>
       calc Q7 ?_;let Y:Vn es (k,c,h,v)=false:=by unfold Vn;rw[show Ul es (k,c,h,v).1=some Z from hg];show(!(HT.kU) c h Z.2.1 Z.2.2.1)=false;rw[hle];rfl
       let kE:U6 es (k,c,h,v)=es:=qC (Y<|qF);have:=kq l H2 (kE<|M (λ_ _ q _=>q) hd2 eo (λ_ _=>rfl) hlen) (λc o q nf=>(L c o q nf).1) fpC;rw[Y] at this;calc this
      |false=>
       calc QQ ?_;let Y:Vn es (k,c,h,v)=true:=by unfold Vn;rw[show Ul es (k,c,h,v).1=some Z from hg];show(!(HT.kU) c h Z.2.1 Z.2.2.1)=true;rw[hle];rfl
       exact{5,Y6,λp s=>{5,d,0,UL.t (Qa (Qb hd2 s)<|hd2) (key (Qa (Qb u s)<|u)) hkl,y Y (.inr hlen) p s}}
   let y:=r.few;erw[5,x,_,dx,2,r.obj,(T 16),(T 30),XY D,D,0,Yf.t r.dr (key I),0,?_]
   cases g:QB kd (Yc (k.take 1)) with
   |some v0=>
    calc QQ ?_;let#[d,m,U,q1,q2,q3]:=r.yS _ _ g;calc J kd H1 d m r.dr g q1 q2 q3 (λ_ _=>rfl) () (.inl y) (λ_ _ e _=>e) (.inl (.inr {_,g})) λj e=>r.inj _ _ d e g
   |none=>
    calc Q7 ?_;intro p s;let B:D≠p:=Qb r.dr s;let C:x≠p:=Qb r.obj s;erw[0,x,_,dx,2,(Qa C<|r.obj),(T 16),(T 30),XY D,0,D,0,UL.t (Qa B<|r.dr) (key (Qa (Qb I s)<|I)) (QA ()),?_];let u:=r.xO _ g;refine J _ _ p [] Qd (by rw[CL,qE rfl]) B.symm (Qa B.symm<|Qd) (u<|.nil) (λj hf=>by rw[CL,qC (λz=>hf (WT z))]) ?_ (.inr u) (λc o e n=>Qa n<|Qa (Qb e s)<|e) (.inr s) λj e=>?_
    .have:=UY kd (Yc (k.take 1)) (V.ref p);omega
    .let#[d',kv,F,_,S,_]:=r.yS j _ e;cases F;rw[s] at S;cases S
  erw[5,kp,0,z5.of hkp,λhw=>?_,λp s=>?_]
  .exact rest kp H (Qi.refl H) (by rw[hkp,<-KC hk0 hw.2])
  .exact rest p _ (Qi.zg s) (by rw[Qd,A0])
def Co:T.k ja 1 110 (ab a):=by
 refine(T.D 110).ok (sc 110) (λC A outer st H vs Q E F h=>?_) (λvs H Q E h=>by let#[x,dx,D,kd,es,l,k,v,U,_]:=h;rfl)
 .let#[x,dx,D,kd,es,l,k,v,U,R,r,f,I]:=h;let s:=Yt F;refine⟨_,(Qc (Qr (i:=3) (sc 110).nd (Y8 s `A (UU IW `b V3 (U9 Qf)) XM #[U,U,U,U]))
   (Qe (Qm (XI (Ux (Xj s `b `d)) (Ql Qx (Yg s `d `b) Qf) `c)))),?_⟩
  let key:∀{G:Hp}{b:qc}{t:qe},G b=@(.tup (~~~t))->G b=@(.tup ((Yc t).map kV)):=λe=>by rw[Ae];exact e
  calc QZ (t:=Fn _ _) λN J=>?_;let last:∀(d:qc)(c:qa (qa Key×V))(G:Hp)(g:qa Ent),Qi H G->G d=@(.dT c)->QV G c g->Ul g k=Ul es k->N [@(.ref x),@(.ref l),some v,@(.ref d)] G:=λd c G g B hd L he=>by
   subst J;let gt:=L.get k;rw[he] at gt;let m:=B _ _ f;erw[5,d,0,Yf.t hd (key m),0,?_];let n:=I G B;generalize u:QB c (Yc k)=o at gt;generalize Ul es k=O at gt n
   cases gt with
   |no=>calc QQ {0,n}
   |@yes S y z M X=>exact Q7 {5,d,0,(by rw[<-u];calc Yf.t hd (key m)),y,3,z5.of M,Qy (j:=1) rfl,n}
  let rest:∀(u:qc)(H1:Hp),Qi H H1->H1 u=@(.tup ((k.take 1).map V.str))->∀p,H1 p=none->∃o,Yf (upd H1 p (.dT [])) D (.ref u) o/\N [@(.ref x),@(.ref l),some v,@(o.getD (.ref p))] (upd H1 p (.dT [])):=λu H1 s1 y p m=>by
   let s2:Qi H1 (upd H1 p (.dT [])):=Qi.zg m;let R2:=(R.same s1).same s2;erw[_,Yf.t R2.dr (key (s2 _ _ y)),?_]
   cases n:QB kd (Yc (k.take 1)) with
   |none=>
    calc last p [] _ [] (s1.trans s2) Qd .nil ?_;rw[<-Wf rfl es,R2.xO _ n]
   |some v0=>
    let#[d,c,U,O,z,M]:=R2.yS _ _ n;exact last d c _ _ (s1.trans s2) z M (Wf rfl es)
  erw[0,x,_,dx,2,R.obj,(T 16),(T 30),XY D,D,U,.inr {_,.inl R.dr},5,l,0,z5.of f,λhw=>?_,λq M=>?_]
  .intro p m;let#[o,n,z]:=rest l H (Qi.refl H) (by rw[f,<-KC r hw.2]) p m;exact#[o,n,z]
  .intro p m;let#[o,n,z]:=rest q _ (Qi.zg M) (by rw[Qd,A0]) p m;exact#[o,n,z]
def MJ:T.k ja 1 60 (Dh a):=by
 refine T.ok 60 (λr A outer st H vs Q E s h=>?_)
 .let#[x,dx,D,kd,es,f,U,R,h0,u,v]:=h;let y:=Yt s;erw[_,(Qe (Qm (Qn (X2 rfl) rfl (T 9) boot_sorted (q9 (Y8 y `A (Va (Qh `b Qo)) XM #[U,U,U,U]) Qg)))),?_];erw[0,x,_,dx,2,R.obj,(T 16),(T 30),XY D,D,U,.inr {_,.inl R.dr},0,Ma,λj k=>?_];let s1:Qi H (upd H j (.tup [.str f])):=Qi.zg k;let c:(upd H j (.tup [.str f])) j=@(.tup ((Yc [f]).map kV)):=Qd;generalize upd H j (.tup [.str f])=H1 at s1 c⊢;intro p B;let s2:Qi H1 (upd H1 p (.dT [])):=Qi.zg B;let m:(upd H1 p (.dT [])) p=@(.dT []):=Qd;let R2:=(R.same s1).same s2;erw[_,Yf.t R2.dr (s2 _ _ c),?_];generalize upd H1 p (.dT [])=H2 at s2 R2 m⊢;let fin:∀(d:qc)(b:qa (qa Key×V)),H2 d=@(.dT b)->QV H2 b (sel [f] es)->Ke [.ref d] H2 Q:=λd b hd C=>
   ⟨d,b,(sel [f] es).map (·.1),U,hd,C.keys,λt g=>by
     let#[e,he,U]:=qj.mp g;exact h0 e (qG.mp he).1,qh<|jk (I0 _ _) u,λl bs n g=>by
     let q:Qi H2 (upd H2 l (.lst ((Wu ((sel [f] es).map (·.1))).map λi=>(bs.map V.ref).getD i .non))):=Qi.zg n;refine v l bs _ ?_ ((s1.trans s2).trans q) (Gj q g) Qd
     cases z:H l with
     |none=>rfl
     |some o=>have:=s2 _ _ (s1 _ _ z);rw[n] at this;cases this⟩
  cases g:QB kd (Yc [f]) with
  |none=>calc fin p [] m (R2.xO _ g<|.nil)
  |some v0=>
   let#[d,b,U,F,n,q]:=R2.yS _ _ g;calc fin d b n q
def isW(x:qb):Bool:=decide (1<=(-x:Int))&&(decide ((-x:Int)<=20)&&x.cps.toList.all λc=>decide (c∈aZ.cps.toList))
def eZ :kitOne K (.type "bool") (.type "bool")=some true:=by unfold kitOne;rw[qE (zT _)]
inductive IT(vs:qa V)(H:Hp)(Q:VK)(E:XK):Prop
 |mk:∀x y:qb,vs=[.str x,.str y]->-x<=1000->(∀H',Qi H H'->Q (.bl (x.cps.toList.all λc=>decide (c∈y.cps.toList))) H')->IT vs H Q E
def Oh(K:Frag):Sp:=λvs H Q _=>(∃x:qb,vs=[.str x]/\-x<=1000/\∀H',Qi H H'->Q (.bl (isW x)) H') \/
 ∃v t,vs=[v]/\VF K H v t/\kitOne K t (.type "str")=some false/\Q (.bl false) H
def D7:T.k ja 1 0 IT:=by
 sleep 0
 .let#[x,y,U,d,k]:=h;refine⟨_,Qe (Qm (Qn (AD rfl) rfl (T 47) boot_all (q9 (Yh (sc:=Qs (sO 0)) (N:=(nn 0)) (fr:=[(1,"signs")]) (xV rfl rfl) rfl rfl rfl (FJ `a)
   (λ_ _ _ _=>Ud) (λ_ _ _ _=>YI WQ `a `b (by with_unfolding_all rfl))) Qg))),?_⟩
  erw[0,x,U,EM (λc=>.bl (decide (c∈y.cps.toList))) (QT (d)) ?_ ?_]
  .intro c e Q' hc q;erw[0,8,?_];rw[StrLaws.found_one];exact q
  .intro D e;erw[D,x.cps.toList.map λc=>decide (c∈y.cps.toList),U,zm.of (qI<|Qd),?_];rw[List.all_map];calc k _ (Qi.zg e)
def Ve:T.k ja 2 1 (Oh K):=by
 refine T.ok 1 (λg A outer s H vs Q E i h=>?_) (λvs H Q E h=>by obtain⟨x,rfl,_⟩|⟨v,t,rfl,_⟩:=h<;>rfl)
 .refine⟨_,Qe (Qm (UP (Qn QY rfl (T 10) boot_isinstance (q9 `a (q9 (YX (v:=.ty "str") rfl (T 18) boot_str rfl) Qg)))
   (UP (DP KO KO Qf (Qn Wb rfl (T 4) zf (q9 `a Qg)) (XJ rfl (T 83)))
   (Vl (Lo (D7 T) i rfl (T 79) (T.F 0).kp (T.B 0) .nil UW (q9 `a (q9 (XJ rfl (T 81)) Qg))))))),?_⟩
  obtain⟨x,rfl,f,k⟩|⟨v,t,rfl,ty,j,k⟩:=h
  .erw[0,9,3,VF.str x,BE,0,Q7 ?_];erw[0,x,U,QT (f),2,4,?_];let b:isW x=(decide (1<=(-x:Int))&&(decide ((-x:Int)<=20)&&x.cps.toList.all λc=>decide (c∈aZ.cps.toList))):=rfl;by_cases d:(1:Int)<=(-x:Int)
   .rw[qw d];rw[qw d,kc] at b;calc Q7 {2,4,?_};by_cases e:(-x:Int)<=20
    .rw[qw e];rw[qw e,kc] at b;calc Q7 {0,x,aZ,U,f,λH' s'=>?_};rw[<-b];exact k H' s'
    .rw[qK e];rw[qK e,Bool.false_and] at b;calc QQ ?_;rw[<-b];exact k H (Qi.refl H)
   .rw[qK d];rw[qK d,Bool.false_and] at b;calc QQ {0,QQ ?_};rw[<-b];exact k H (Qi.refl H)
  .exact{0,9,3,ty,j,0,QQ k}
def Ap:("":qb)=Str.empty:=by decide +kernel
def HN:∀(l:qa Nat)(st:qe×qb),-(l.foldl yA st).1<=-st.1+-l/\-(l.foldl yA st).2<=-st.2+-l
 |[],st=>{qr _,qr _}
 |c::l,st=>by
  rw[zD,qU];let q:=HN l (yA st c);let e:-(yA st c).1<=-st.1+1/\-(yA st c).2<=-st.2+1:=by
   unfold yA;split
   .exact{jt _,Wa<|XO<|qr _}
   .erw[qo<|qr _,?_];show -Str.empty<=_;exact qR _
  omega
def HP(l:qa Nat):-(yK l).1<=-l/\-(yK l).2<=-l:=by
 let q:=HN l ([],Str.empty);let e:-Str.empty=0:=rfl;rw[jP,e,kZ] at q;calc q
def NC{l:qa Nat}{c:Nat}(h:l[i]?=some c):yK (l.take (i+1))=yA (yK (l.take i)) c:=by
 rw[zw,h];unfold yK;rw[jz];rfl
def HR(x:qb):-(j3 x)<=-x+1:=by
 let q:=HP x.cps.toList;let e:=qP Wv ((yK x.cps.toList).1++[(yK x.cps.toList).2]);rw[qo,qW] at e;rw[YM];show(List.filter Wv _).length<=_;omega
inductive B3(vs:qa V)(H:Hp)(Q:VK)(E:XK):Prop
 |mk:∀x:qb,vs=[.str x]->ya x->-x<=900->(∀(l:qc)(H':Hp),H l=none->Qi H H'->H' l=some (.lst ((j3 x).map V.str))->Q (.ref l) H')->B3 vs H Q E
def KP:T.k ja 1 2 B3:=by
 sleep 2
 .let#[x,U,g,t,k]:=h;refine⟨_,(Qc (Vk (sc:=Qs (sO 2)) (N:=(nn 2)) (i:=1) (fr:=[]) (xV rfl rfl) rfl rfl rfl (sc 2).nd U rfl (FJ `a) (λ_ _ _ _=>Ud) (λ_ _ _ _=>(XI (Qp WQ `a (XJ rfl (T 82)) (by with_unfolding_all rfl)) (Sv K plainAttrs_str PySem.F.slot_str_lower PySem.F.type_str_lower Ef `a) QC)))
   (Qe (Qm (GP plainAttrs_str PySem.F.slot_str_split PySem.F.type_str_split MS (Uj plainAttrs_str PySem.F.slot_str_join PySem.F.type_str_join S6 QC (q9 `b Qg)))))),?_⟩
  erw[0,x,U,EM (λc=>.str {([gS c].toArray)}) (QT ((by show -x<=1000;omega))) ?_ ?_]
  .intro c b Q' hc q;erw[8,0,?_];rw[StrLaws.found_one];let d:gS c=if decide (c∈rS.cps.toList)=true then lo1 c else 32:=rfl
   rw[d] at q;refine Y7 (λh=>?_) (λh=>?_)
   .rw[qE h] at q;erw[_,7,{([c].toArray)},7,g.one hc,(by show 1<=1000000;decide),?_];let e:(([c].toArray):uk Nat).map lo1=([lo1 c].toArray):=by simp
    show Q' (.str {(([c].toArray):uk Nat).map lo1}) b;rw[e];exact q
   .rw[qC h] at q;exact q
  .intro D j;generalize b:x.cps.toList.map (λc=>({([gS c].toArray)}:qb))=ys;let m:x.cps.toList.map (λc=>V.str {([gS c].toArray)})=ys.map V.str:=by rw[<-b,qI];rfl
   let d:∀y∈ys,-y=1:=λy n=>by
    rw[<-b] at n;let#[c,_,U]:=qj.mp n;rfl
   let f:-ys=-x:=by rw[<-b,qh,YM]
   let u:(Txt.join "" ys).cps.toList=x.cps.toList.map gS:=by
    rw[av,<-b,qI];clear g t k b m d f j
    induction x.cps.toList with
    |nil=>rfl
    |cons c r o=>simpa using o
   rw[m];erw[4,"",D,ys,7,zm.of Qd,PQ d (),4,U,(by rw[M5 d];omega),λl o=>?_];rw[Mb u];let s1:Qi H (upd H D (.lst (~~~ys))):=Qi.zg j;calc k l _ (s1.free o) (s1.zP (s1.free o)) Qd
def NY{xs:qe}{y:V}(h:(~~~xs)[i]?=some y):∃t,y=.str t/\xs[i]?=some t:=by
 rw[qD] at h
 cases e:xs[i]? with
 |none=>rw[e] at h;cases h
 |some t=>rw[e] at h;calc{t,(qT h).symm,U}
structure VI(s t b:qb)(d:Int)(an:qb):Prop where
 s_:YH s
 t_:ya t
 tl:-t<=60
 tn:¬10∈t.cps.toList
 b_:ya b
 bl:-b<=400
 d0:0<=d
 d1:d<=9999
 a_:an=""\/YH an
abbrev uA(s t b:qb)(d:Int)(an:qb)(f:V):qa (qb×V):=[("sender",.str s),("title",.str t),("body",.str b),("day",.int d),("answers",.str an),("found",f)]
def E6(a:jg)(H:Hp)(x:qc)(s t b:qb)(d:Int)(an:qb)(D:qc):Prop:=(∃dx,H x=@(.ins (a 121) dx (uA s t b d an (.ref D))))/\H D=@(.dK (kn (j3 t) (j3 t++j3 b)))
def Up(a:jg)(H:Hp)(x:qc)(s t b:qb)(d:Int)(an:qb):Prop:=(∃dx,H x=@(.ins (a 121) dx (uA s t b d an .non)))\/∃D,E6 a H x s t b d an D
def Up.mono{x:qc}{d:Int}(h:Up a H x s t b d an)(q:Qi H H'):Up a H' x s t b d an:=by
 obtain⟨dx,e⟩|⟨D,⟨dx,e⟩,c⟩:=h
 .exact .inl {dx,q _ _ e}
 .exact .inr {D,{dx,q _ _ e},q _ _ c}
def Up.at{x:qc}{d:Int}(h:Up a H x s t b d an):∃dx f,H x=@(.ins (a 121) dx (uA s t b d an f)):=by
 obtain⟨dx,e⟩|⟨D,⟨dx,e⟩,c⟩:=h
 .exact{dx,_,e}
 .exact{dx,_,e}
def Up.other{x y:qc}{d:Int}{C f:qc}{g:qa (qb×V)}(h:Up a H x s t b d an)(ne:x≠y)(i:H y=@(.ins C f g))(q:SX y H H'):Up a H' x s t b d an:=by
 obtain⟨dx,e⟩|⟨D,⟨dx,e⟩,c⟩:=h
 .exact .inl {dx,q _ _ ne e}
 .exact .inr {D,{dx,q _ _ ne e},q _ _ (QG c i nofun) c}
def Hj(h:YH x):isW x=true:=by
 unfold isW;let a:=h.lo;let b:=h.hi;rw[qw (),qw (),kc,kc];calc zu.mpr λc hc=>qw (h.vh c hc)
def Na:isW ""=false:=by decide +kernel
inductive Di(vs:qa V)(H:Hp)(Q:VK)(E:XK):Prop
 |mk:∀(x:qb)(m:Int),vs=[.str x,.int m]->-x<=1000->Q (.bl (decide ((-x:Int)<=m))) H->Di vs H Q E
inductive Ih(vs:qa V)(H:Hp)(Q:VK)(E:XK):Prop
 |mk:∀i:Int,vs=[.int i]->Q (.bl true) H->Ih vs H Q E
inductive Gy(vs:qa V)(H:Hp)(Q:VK)(E:XK):Prop
 |mk:∀x:qb,vs=[.str x]->(x=""\/YH x)->(∀H',Qi H H'->Q (.bl true) H')->Gy vs H Q E
inductive IK(vs:qa V)(H:Hp)(Q:VK)(E:XK):Prop
 |mk:∀s t b d an,vs=[.str s,.str t,.str b,.int d,.str an]->VI s t b d an->(∀H',Qi H H'->Q .non H')->IK vs H Q E
inductive B6
 |mk:∀x dx s t b d an,vs=[.ref x,.str s,.str t,.str b,.int d,.str an]->VI s t b d an->H x=some (.ins (a 121) dx [])->(∀H',(∀c o,c≠x->H c=some o->H' c=some o)->H' x=some (.ins (a 121) dx (uA s t b d an .non))->Q .non H')->B6 a vs H Q E
inductive Iw
 |mk:∀x s t b d an,vs=[.ref x]->Up a H x s t b d an->(∀p,H p=none->Q (.ref p) (upd H p (.tup [.str s,.str t,.str b,.int d,.str an])))->Iw a vs H Q E
def PH :kitOne K (.type "tuple") (.type "tuple")=some true:=by unfold kitOne;rw[qE (zT _)]
def eV :kitOne K (.type "int") (.type "int")=some true:=by unfold kitOne;rw[qE (zT _)]
def eY :kitOne K (.type "int") (.type "bool")=some false:=by kernel_rfl
def bN:("\n":qb)={([10].toArray)}:=by decide +kernel
def F3{d:Int}{R:VK}{E:XK}{x:qc}(h:H x=none)(hd:H dx=none)(ne:dx≠x)(g:VI s t b d an)(k:∀H',Qi H H'->Up a H' x s t b d an->R .non H') :
 B6 a [.ref x,.str s,.str t,.str b,.int d,.str an] (upd (upd H dx (.own x)) x (.ins (a 121) dx [])) R E:=by
 erw[x,dx,s,t,b,d,an,U,g,Qd,λH' i f=>k H' (λc o e=>i c o (Qb e h) ?_) (.inl #[dx,f])];rw[Qa (Qb e h),Qa (Qb e hd)];calc e
def GX:T.k ja 1 3 Di:=by
 sleep 3
 .let#[x,m,U,c,k]:=h;erw[_,(Qe (Qm (UP (Qn QY rfl (T 10) boot_isinstance (q9 `a (q9 (YX (v:=.ty "str") rfl (T 18) boot_str rfl) Qg))) (Vl (YI KO (Qn Wb rfl (T 4) zf (q9 `a Qg)) `b))))),?_];calc{0,9,3,VF.str x,BE,0,Q7 {0,x,U,QT (c),8,k}}
def KR:T.k ja 1 4 Ih:=by
 sleep 4
 .let#[x,U,k]:=h;erw[_,(Qe (Qm (UP (Qn QY rfl (T 10) boot_isinstance (q9 `a (q9 (YX (v:=.ty "int") rfl (T 90) boot_int rfl) Qg))) (Vl (bq (Qn QY rfl (T 10) boot_isinstance (q9 `a (q9 (YX (v:=.ty "bool") rfl (T 53) boot_bool rfl) Qg)))))))),?_];calc{0,9,3,VF.int x,eV,0,Q7 {0,9,3,VF.int x,eY,0,k}}
def GY:T.k ja 3 5 Gy:=by
 sleep 5
 .let#[x,U,b,k]:=h;erw[_,(Qe (Qm (OV (T.cl (Ve T) (q9 `a Qg)) (Vl (UP (Qn QY rfl (T 10) boot_isinstance (q9 `a (q9 (YX (v:=.ty "str") rfl (T 18) boot_str rfl) Qg))) (Vl (YI Yk `a QC))))))),?_];obtain rfl|b:=b
  .erw[0,.inl {0,by rw[Kp];omega,λH' s'=>?_}];rw[Na];erw[0,QQ {0,9,3,VF.str _,BE,0,Q7 {_,7,?_}}];rw[qw rfl];exact k H' s'
  .have:=b.hi;erw[0,.inl {0,(),λH' s'=>?_}];rw[Hj b];calc{0,Q7 (k H' s')}
def Pm:T.k ja 4 6 IK:=by
 refine T.ok 6 (λc A outer s H vs Q E e h=>?_)
 .let#[s,t,b,d,an,U,g,k]:=h;refine⟨_,(Qc (QE (YQ (YD (T.cl (Ve T) (q9 `a Qg)))) (Qe YE) Qu)
   (Qc (QE (PW.pt (We (YQ (YD (T.cl (GX T) (q9 `b (q9 (XJ rfl (T 84)) Qg))))) (V2 (Qp WQ QC `b (by with_unfolding_all rfl))))) (Qe YE) Qu)
   (Qc (QE (YQ (YD (T.cl (GX T) (q9 `c (q9 (XJ rfl (T 85)) Qg))))) (Qe YE) Qu)
   (Qc (QE (PW.pt (We (YQ (YD (T.cl (KR T) (q9 `d Qg)))) (V2 (YQ (OP KO KO Qf `d (XJ rfl (T 86))))))) (Qe YE) Qu)
   (Qe (QE (YQ (YD (T.cl (GY T) (q9 `e Qg)))) (Qe YE) Qu)))))),?_⟩
  let f:=g.s_.hi;erw[0,.inl {s,U,(),λH1 s1=>?_}];rw[Hj g.s_];erw[0,QQ ?_];erw[0,t,(60),U,by have:=g.tl;omega,?_];rw[qw (by have:=g.tl;omega)];erw[0,QQ {8,0,?_}];rw[bN,StrLaws.found_one,qK g.tn];calc QQ {0,b,(400),U,by have:=g.bl;omega,?_};rw[qw (by have:=g.bl;omega)];erw[0,QQ {0,d,4,QQ ?_}];erw[8,0,?_];rw[qw g.d0];calc Q7 {2,4,?_};rw[qw g.d1];calc QQ {0,an,U,g.a_,λH2 s2=>{0,QQ (k H2 (s1.trans s2))}}
def Cn:T.k ja 5 108 (B6 a):=by
 refine(T.D 108).ok (sc 108) (λf A outer s H vs Q E j h=>?_) (λvs H Q E h=>by let#[x,dx,s,t,b,d,an,U,_]:=h;rfl)
 .let#[x,dx,s,t,b,d,an,U,g,i,k]:=h;refine⟨_,(Qc (Qq (T.cl (Pm T) (q9 `b (q9 `c (q9 `d (q9 `e (q9 `f Qg)))))))
   (Qc (Q6 `a `b U)
   (Qc (Q6 `a `c U)
   (Qc (Q6 `a `d U)
   (Qc (Q6 `a `e U)
   (Qc (Q6 `a `f U)
   (Qe (Q6 `a UO rfl)))))))),?_⟩
  erw[0,5,5,s,t,b,d,an,U,g,λH1 s1=>?_];erw[5,x,_,dx,0,s1 _ _ i,(T 3),(T 49),∅,?_];erw[5,x,_,dx,0,Qd,(T 3),(T 32),(by show 1<1000;decide),?_];erw[5,x,_,dx,0,Qd,(T 3),(T 33),(by show 2<1000;decide),?_];erw[5,x,_,dx,0,Qd,(T 3),(T 50),(by show 3<1000;decide),?_];erw[5,x,_,dx,0,Qd,(T 3),(T 41),(by show 4<1000;decide),?_];erw[0,x,_,dx,0,Qd,(T 3),(T 13),(by show 5<1000;decide),?_];refine k _ (λc o ne e=>?_) ?_
  .rw[Qa ne,Qa ne,Qa ne,Qa ne,Qa ne,Qa ne];exact s1 _ _ e
  .exact Qd
def GV:T.k ja 1 37 (Iw a):=by
 refine T.ok 37 (λe A outer s H vs Q E i h=>?_)
 .let#[x,s,t,b,d,an,U,g,k]:=h;let#[dx,f,c]:=g.at
  erw[_,(Qe (Qm (Va (Qh `A (Qh `A (Qh `A (Qh `A (Qh `A Qo)))))))),?_];calc{0,x,_,dx,2,c,(T 3),(T 49),4,x,_,dx,2,c,(T 3),(T 32),4,x,_,dx,2,c,(T 3),(T 33),4,x,_,dx,2,c,(T 3),(T 50),4,x,_,dx,2,c,(T 3),(T 41),U,cI,k}
abbrev cfs(y:qc)(a:qb)(g:qc):qa (qb×V):=[("letter",.ref y),("box",.str a),("signs",.ref g)]
def HI(a:jg)(H:Hp)(x g:qc)(s t b:qb)(d:Int)(an c:qb)(ms:qe):Prop:=(∃dx y,H x=@(.ins (a 117) dx (cfs y c g))/\Up a H y s t b d an)/\H g=@(.lst (~~~ms))
def X6(H:Hp)(m:V)(ss:qe):Prop:=(m=.non/\ss=[])\/∃p,m=.ref p/\(H p=@(.lst (~~~ss))\/H p=@(.tup (~~~ss)))
def X6.mono{m:V}{ss:qe}(h:X6 H m ss)(q:Qi H H'):X6 H' m ss:=by
 obtain h|⟨p,e,h|h⟩:=h
 .exact .inl h
 .exact .inr {p,e,.inl (q _ _ h)}
 .exact .inr {p,e,.inr (q _ _ h)}
def aX(a:jg):Sp:=λvs H Q _=>∃x s t b d an,vs=[.ref x]/\Up a H x s t b d an/\VI s t b d an/\∀y H',H y=none->Qi H H'->Up a H' y s t b d an->Q (.ref y) H'
def IM(a:jg):Sp:=λvs H Q _=>∃x dx lt e m s t b d an ss,vs=[.ref x,.ref lt,.str e,m]/\H x=@(.ins (a 117) dx [])/\Up a H lt s t b d an/\VI s t b d an/\X6 H m ss/\-ss<=60 /\
 ∀H' g,(∀c o,c≠x->H c=some o->H' c=some o)->H g=none->HI a H' x g s t b d an e (SS ss)->Q .non H'
def Ea{d:Int}{h:qb}{m:V}{ss:qe}{R:VK}{E:XK}{x lt:qc}(i:H x=none)(hd:H dx=none)(ne:dx≠x)(j:Up a H lt s t b d an)(l:VI s t b d an)(hm:X6 H m ss)(hz:-ss<=60)
 (k:∀H' g,Qi H H'->H g=none->HI a H' x g s t b d an h (SS ss)->R .non H'):IM a [.ref x,.ref lt,.str h,m] (upd (upd H dx (.own x)) x (.ins (a 117) dx [])) R E:=by
 let f:Qi H (upd (upd H dx (.own x)) x (.ins (a 117) dx [])):=λc o e=>by rw[Qa (Qb e i),Qa (Qb e hd)];exact e
 erw[x,dx,lt,h,m,s,t,b,d,an,ss,U,Qd,j.mono f,l,hm.mono f,hz,λH' g n p hc=>k H' g (λc o e=>n c o (Qb e i) (f _ _ e)) (f.free p) hc]
def Lu:T.k ja 7 36 (aX a):=by
 refine T.ok 36 (λq A outer s H vs Q E z h=>?_) (λvs H Q E h=>by let#[x,s,t,b,d,an,U,_]:=h;rfl)
 .let#[x,s,t,b,d,an,U,o,g,k]:=h;let#[dx,f,c]:=o.at
  refine⟨_,(Qc (Qr (i:=1) (sc 36).nd (T.ma (T 40) (T 39) (Cn T) (q9 `A (q9 `A (q9 `A (q9 `A (q9 `A Qg)))))))
   (Qc (Q6 `b `A rfl)
   (Qe (Qm `b)))),?_⟩
  erw[0,x,_,dx,2,c,(T 3),(T 49),4,x,_,dx,2,c,(T 3),(T 32),4,x,_,dx,2,c,(T 3),(T 33),4,x,_,dx,2,c,(T 3),(T 50),4,x,_,dx,2,c,(T 3),(T 41),U,λy B m r ne=>F3 m r ne g λH1 s1 u=>{U,?_}];let#[j,f2,v]:=u.at
  erw[0,x,_,dx,2,s1 _ _ c,(T 3),(T 13),4,y,_,j,0,v,(T 3),(T 13),(by show 6<1000;decide),?_];erw[0,k y _ m (s1.zP m) ?_];obtain⟨n,l⟩|⟨D,⟨n,l⟩,p⟩:=o
  .have e:=c.symm.trans l
   injection e with e
   injection e with _ _ e
   simp only[List.cons.injEq,yo,true_and,and_true] at e;subst e;exact .inl #[j,Qd]
  .have e:=c.symm.trans l
   injection e with e
   injection e with _ _ e
   simp only[List.cons.injEq,yo,true_and,and_true] at e;subst e;calc .inr {D,#[j,Qd],Qa (Qb p m)<|s1 _ _ p}
def D4:T.k ja 8 107 (IM a):=by
 refine(T.D 107).ok (sc 107) (λZ A outer st H vs Q E hr h=>?_) (λvs H Q E h=>by let#[x,dx,lt,D,m,s,t,b,d,an,ss,U,_]:=h;rfl)
 .let#[x,dx,lt,D,m,s,t,b,d,an,ss,U,z,X,gd,hm,hz,k]:=h;refine⟨_,(Qc (Q6 `a (T.mn `b (T 3) (T 58) (Lu T)) rfl)
   (Qc (Q6 `a `c U)
   (Qe (Q6 `a (XI (Qp V5 `d UO) (WO Qo) (Qn (Ut rfl) rfl (T 9) boot_sorted (q9 (YC (Vz rfl) rfl (T 37) boot_set (q9 `d Qg)) Qg))) rfl)))),?_⟩
  let#[dl,fl,el]:=X.at
  erw[0,lt,dl,0,el,U,lt,s,t,b,d,an,U,X,gd,λy H1 ny s1 hy=>?_];let r:=s1 _ _ z;let xy:x≠y:=Qb z ny;erw[0,x,_,dx,0,r,(T 15),(T 57),(by show 0<1000;decide),?_];erw[5,x,_,dx,0,Qd,(T 15),(T 38),(by show 1<1000;decide),?_];rw[VY];generalize u:upd H1 x (.ins (a 117) dx (QD "box" (.str D) (QD "letter" (.ref y) [])))=H2;let f:∀c o,c≠x->H1 c=some o->H2 c=some o:=λc o n e=>by rw[<-u,Qa n];exact e
  let F:H2 x=@(.ins (a 117) dx [("letter",.ref y),("box",.str D)]):=by rw[<-u];exact Qd
  let Y:y≠x:=xy.symm;let G:Up a H2 y s t b d an:=hy.other Y r f;let fin:∀(q:Hp)(g:qc)(ms:qe),Qi H2 q->q g=none->ms=SS ss ->
   ∃j C i v,V.ref x=.ref j/\(upd q g (.lst (~~~ms))) j=@(.ins C i v)/\wA K C/\WG K C "signs"/\-v<1000/\Q .non (upd (upd q g (.lst (~~~ms))) j (.ins C i (QD "signs" (.ref g) v))):=by
   intro q g ms s3 i I;let j:=s3 _ _ F;let B:x≠g:=Qb j i;erw[x,_,dx,0,(Qa B<|j),(T 15),(T 29),(by show 2<1000;decide),?_];let v:H2 g=none:=s3.free i;let M:H g=none:=by
    cases e:H g with
    |none=>rfl
    |some o=>rw[f g o B.symm (s1 _ _ e)] at v;cases v
   let J:Up a (upd q g (.lst (~~~ms))) y s t b d an:=(G.mono s3).mono (Qi.zg i);refine k _ g (λc o n e=>?_) M {{dx,y,Qd,?_},?_}
   .have L:=s3 _ _ (f c o n (s1 _ _ e));rw[Qa n,Qa (Qb L i)];exact L
   .exact J.other Y (Qa B<|j) λc o n e=>by rw[Qa n];exact e
   .rw[Qa B.symm,Qd,I]
  obtain⟨rfl,rfl⟩|⟨p,rfl,hS⟩:=hm
  .erw[0,4,Q7 {Xf,λg i=>{0,?_}}];let#[j,v,B,I,J,L,M,N,O,R]:=fin H2 g [] (Qi.refl _) i rfl;exact#[j,v,B,I,J,L,M,N,O,R]
  .have S:zm K H2 p (~~~ss)\/z5 K H2 p (~~~ss):=by
    obtain hS|hS:=hS
    .exact .inl (zm.of (f _ _ (QG hS z nofun) (s1 _ _ hS)))
    .exact .inr (z5.of (f _ _ (QG hS z nofun) (s1 _ _ hS)))
   erw[0,4,QQ {0,p,ss,U,S,(),λl nl=>?_}];let s3:Qi H2 (upd H2 l (UR P w l (dd ss))):=Qi.zg nl;let hdl:=Av ss;erw[l,dd ss,U,Qd,(),λg i=>{0,?_}];let#[j,v,B,I,J,L,M,N,O,R]:=fin _ g (SS ss) s3 i rfl;exact#[j,v,B,I,J,L,M,N,O,R]
def Fj:HO->Bool
 |.tup _=>true
 |_=>false
def rest(own:qc->Nat)(i:Nat)(H:Hp):Hp:=λc=>if own c=i then (match H c with|some (.tup xs)=>some (.tup xs)|_=>none) else H c
def QR(own:qc->Nat)(i:Nat)(H:Hp):qc->Nat:=λc=>match H c with
 |none=>i
 |some _=>own c
def Qk{own:qc->Nat}(e:H c=some o):QR own i H c=own c:=by unfold QR;rw[e]
def Yx{own:qc->Nat}(e:H c=none):QR own i H c=i:=by unfold QR;rw[e]
def VR{own:qc->Nat}(h:own c=i\/H c=none):QR own i H c=i:=by
 cases e:H c with
 |none=>calc Yx e
 |some o=>rw[Qk e];calc h.resolve_right (λz=>by rw[e] at z;cases z)
def yQ(own:qc->Nat)(i:Nat)(H H':Hp):Prop:=∀c o,H c=some o->(own c≠i\/Fj o=true)->H' c=some o
def yQ.of{own:qc->Nat}(s:Qi H H'):yQ own i H H':=λc o e _=>s c o e
def yQ.tup{own:qc->Nat}(k:yQ own i H H')(e:H c=@(.tup xs)):H' c=@(.tup xs):=k c _ e (.inr rfl)
def yQ.rest{own:qc->Nat}(s:Qi (rest own i H) H'):yQ own i H H':=λc o e h=>s c o (by
 unfold K54.rest;by_cases z:own c=i
 .rw[qE z,e]
  cases o with
  |tup xs=>rfl
  |_=>exact absurd (h.resolve_left (λy=>y z)) (by intro q;cases q)
 .rw[qC z];calc e)
def Mq{own:qc->Nat}(h:rest own i H c=none):own c=i\/H c=none:=by
 unfold rest at h;by_cases z:own c=i
 .exact .inl z
 .rw[qC z] at h;calc .inr h
def Mr{own:qc->Nat}(z:own c=i)(h:∀xs,H c≠@(.tup xs)):rest own i H c=none:=by
 unfold rest;rw[qE z];split
 .rename_i xs e;exact absurd e (h xs)
 .rfl
def Ox(own:qc->Nat)(i:Nat)(H:Hp):Qi (rest own i H) H:=λc o e=>by
 unfold rest at e;by_cases z:own c=i
 .rw[qE z] at e;split at e
  .rename_i xs q;rw[q];exact e
  .cases e
 .rw[qC z] at e;calc e
section
variable {a:jg}{fd:Nat->FuncData}{own:qc->Nat}{H H':Hp}{x:qc}
def wJ(a:jg)(H:Hp)(own:qc->Nat)(x:qc)(bx:Rows)(mk:qb->qe)(W M:qe)(n:Nat):Prop:=∃F,FO a H x bx mk W M n F/\own x=0/\∀c∈F,own c=3
def wJ.step(h:wJ a H own x bx mk W M n)(k:yQ own j H H')(g:j≠3:=by decide)(h0:j≠0:=by decide):wJ a H' (QR own j H) x bx mk W M n:=by
 let#[F,f,b,d]:=h;let#[dx,l,T1,m,ex]:=f.obj;erw[F,f.keep λc o hc e=>k c o e (.inl ?_),Qk ex<|b,λc hc=>?_]
 .rcases hc with rfl|hc
  .rw[b];exact λz=>h0 z.symm
  .rw[d c hc];exact λz=>g z.symm
 .let#[i,e]:=f.kind hc;rw[Qk e];calc d c hc
def wJ.own'{b:Rows}{mk':qb->qe}{g i:qe}{j:Nat}{d:qa qc}(f:FO a H x bx mk W M n F)(p:own x=0)(l:∀c∈F,own c=3)(q:FO a H' x b mk' g i j d)(k:xu F H H')(r:∀c∈d,c∈F\/H c=none):wJ a H' (QR own 3 H) x b mk' g i j/\yQ own 3 H H':=by
 let#[dx,t,T1,u,ex]:=f.obj;erw[{d,q,Qk ex<|p,λc hc=>VR ((r c hc).imp (l c) id)},λc o e h=>k c o (λhc=>?_) e];obtain h|h:=h
 .exact h (l c hc)
 .let#[s,m]:=f.kind hc;rw[e] at m;cases m;cases h
def ue(a:jg)(H:Hp)(own:qc->Nat)(x:qc)(R:NW)(W:qe)(n:Nat):Prop:=∃F,vw a H x R W n F/\own x=0/\∀c∈F,own c=2
def vw.there(h:vw a H x R W n F)(hc:c∈F):∃o,H c=some o/\Fj o=false:=by
 obtain⟨b,e⟩|⟨xs,e⟩:=h.kind hc
 .exact{_,e,U}
 .exact{_,e,U}
def ue.step(h:ue a H own x R W n)(k:yQ own j H H')(g:j≠2:=by decide)(h0:j≠0:=by decide):ue a H' (QR own j H) x R W n:=by
 let#[F,f,b,d]:=h;let#[dx,E,B,ex]:=f.obj;erw[F,f.keep λc o hc e=>k c o e (.inl ?_),Qk ex<|b,λc hc=>?_]
 .rcases hc with rfl|hc
  .rw[b];exact λz=>h0 z.symm
  .rw[d c hc];exact λz=>g z.symm
 .let#[o,e,_]:=f.there hc;rw[Qk e];calc d c hc
def ue.own'{d:NW}{g:qe}{i:Nat}{b:qa qc}(f:vw a H x R W n F)(m:own x=0)(j:∀c∈F,own c=2)(p:vw a H' x d g i b)(k:xu F H H')(r:∀c∈b,c∈F\/H c=none):ue a H' (QR own 2 H) x d g i/\yQ own 2 H H':=by
 let#[dx,E,B,ex]:=f.obj;erw[{b,p,Qk ex<|m,λc hc=>VR ((r c hc).imp (j c) id)},λc o e h=>k c o (λhc=>?_) e];obtain h|h:=h
 .exact h (j c hc)
 .let#[s,l,q]:=f.there hc;rw[e] at l;cases l;rw[q] at h;cases h
def thF(L R:qc)(kr:qa (Key×V))(c:qc):Prop:=c=L\/c=R\/∃t:qb,QB kr (inr t)=@(.ref c)
def TH.kind{R:qc}{fK:Rows}(h:TH a H x dx L R fK kr)(hc:thF L R kr c):∃b,H c=@(.dK b):=by
 obtain rfl|rfl|⟨t,e⟩:=hc
 .exact{_,h.lk}
 .exact{_,h.rp}
 .let#[d,f,g,_]:=h.yS t _ e;cases f;calc{_,g}
def TH.keep{R:qc}{fK:Rows}(h:TH a H x dx L R fK kr)(k:∀c o,(c=x\/thF L R kr c)->H c=some o->H' c=some o):TH a H' x dx L R fK kr:=
 {k _ _ (.inl rfl) h.obj,k _ _ (.inr (.inl rfl)) h.lk,k _ _ (.inr (.inr (.inl rfl))) h.rp,h.lr,h.nd,h.few,h.w5,λt v e=>let ⟨d,b,f,g⟩:=h.yS t v e;{d,b,k _ _ (.inr (.inr (.inr {t,by rw[e,b]}))) f,g},h.xO,h.e_,h.inj}
def gs(a:jg)(H:Hp)(own:qc->Nat)(x:qc)(fK:Rows)(n:Nat):Prop:=∃dx L R kr,TH a H x dx L R fK kr/\-fK<=n/\-kr<=n/\own x=0/\∀c,thF L R kr c->own c=1
def gs.step{fK:Rows}(h:gs a H own x fK n)(k:yQ own j H H')(g:j≠1:=by decide)(h0:j≠0:=by decide):gs a H' (QR own j H) x fK n:=by
 let#[dx,L,R,kr,b,i,l,d,f]:=h;erw[dx,L,R,kr,b.keep λc o hc e=>k c o e (.inl ?_),i,l,Qk b.obj<|d,λc hc=>?_]
 .rcases hc with rfl|hc
  .rw[d];exact λz=>h0 z.symm
  .rw[f c hc];exact λz=>g z.symm
 .let#[m,e]:=b.kind hc;rw[Qk e];calc f c hc
def gs.thf{fK:Rows}(h:gs a H own x fK n):ud a (rest own 1 H) H x fK n:=by
 let#[dx,L,R,kr,b,f,g,k,i]:=h;let q:∀c,thF L R kr c->rest own 1 H c=none:=λc hc=>Mr (i c hc) λxs z=>by let#[j,e]:=b.kind hc;rw[e] at z;cases z
 calc{dx,L,R,kr,b,f,g,{q L (.inl rfl),q R (.inr (.inl rfl)),λt d e=>q d (.inr (.inr #[t,e]))},Ox _ _ _}
def gs.of{fK:Rows}(d:own x=0)(f:∃o,H x=some o)(h:ud a (rest own 1 H) H' x fK n):gs a H' (QR own 1 H) x fK n/\yQ own 1 H H':=by
 let#[dx,L,R,kr,g,i,j,b,s]:=h;let#[o,ex]:=f;erw[{dx,L,R,kr,g,i,j,Qk ex<|d,λc hc=>VR (Mq ?_)},yQ.rest s];obtain rfl|rfl|⟨t,e⟩:=hc
 .exact b.hL
 .exact b.hR
 .exact b.hd t c e
end
section
variable {a:jg}{fd:Nat->FuncData}{own:qc->Nat}{H H':Hp}{x:qc}
def Reg.keep(h:Reg a H x dx D kd es)(k:∀c o,(c=x\/FP D kd c)->H c=some o->H' c=some o)(kt:∀c xs,H c=@(.tup xs)->H' c=@(.tup xs)):Reg a H' x dx D kd es:=
 {k _ _ (.inl rfl) h.obj,k _ _ (.inr (.inl rfl)) h.dr,λf v e=>let ⟨d,b,g,i,j,l⟩:=h.yS f v e;{d,b,g,i,k _ _ (.inr (.inr {f,by rw[e,g]})) j,l.mono kt},h.xO,h.inj,h.few}
def uL(a:jg)(H:Hp)(own:qc->Nat)(x:qc)(es:qa Ent):Prop:=∃dx D kd,Reg a H x dx D kd es/\own x=0/\∀c,FP D kd c->own c=4
def uL.step(h:uL a H own x es)(k:yQ own j H H')(f:j≠4:=by decide)(h0:j≠0:=by decide):uL a H' (QR own j H) x es:=by
 let#[dx,D,kd,r,b,d]:=h;erw[dx,D,kd,r.keep (λc o hc e=>k c o e (.inl ?_)) λc xs e=>k.tup e,Qk r.obj<|b,λc hc=>?_]
 .rcases hc with rfl|hc
  .rw[b];exact λz=>h0 z.symm
  .rw[d c hc];exact λz=>f z.symm
 .let#[g,e]:=r.fp hc;rw[Qk e];calc d c hc
def uL.own'{b:qa (qa Key×V)}{d:qa Ent}(r:Reg a H x dx D kd es)(i:own x=0)(f:∀c,FP D kd c->own c=4)(j:Reg a H' x dx D b d)(k:∀c o,H c=some o->¬FP D kd c->H' c=some o)(l:∀c,FP D b c->FP D kd c\/H c=none):uL a H' (QR own 4 H) x d/\yQ own 4 H H':=by
 erw[{dx,D,b,j,Qk r.obj<|i,λc hc=>VR ((l c hc).imp (f c) id)},λc o e h=>k c o e (λhc=>?_)];obtain h|h:=h
 .exact h (f c hc)
 .let#[m,g]:=r.fp hc;rw[e] at g;cases g;cases h
end
structure LD where
 s:qb
 t:qb
 b:qb
 d:Int
 an:qb
variable {p:LD}
structure LE where
 nm:qb
 y:qc
 p:LD
variable {ls:qa LE}
def gu(a:jg)(H:Hp)(own:qc->Nat)(y:qc)(p:LD):Prop:=own y=6/\((∃dx,H y=@(.ins (a 121) dx (uA p.s p.t p.b p.d p.an .non)))\/∃D,E6 a H y p.s p.t p.b p.d p.an D/\own D=6)
def gu.let{own:qc->Nat}{y:qc}(h:gu a H own y p):Up a H y p.s p.t p.b p.d p.an:=h.2.imp id λ#[D,e,_]=>#[D,e]
def gu.there{own:qc->Nat}{y:qc}(h:gu a H own y p):∃o,H y=some o:=by
 let#[dx,f,e]:=h.let.at
 calc{_,e}
def gu.step{own:qc->Nat}{y:qc}(h:gu a H own y p)(k:yQ own j H H')(c:j≠6):gu a H' (QR own j H) y p:=by
 let#[b,h]:=h;obtain⟨dx,e⟩|⟨D,⟨⟨dx,e⟩,d⟩,f⟩:=h
 .exact{Qk e<|b,.inl {dx,k _ _ e (.inl (by rw[b];calc λz=>c z.symm))}}
 .exact{Qk e<|b,.inr {D,{{dx,k _ _ e (.inl (by rw[b];calc λz=>c z.symm))},k _ _ d (.inl (by rw[f];calc λz=>c z.symm))},Qk d<|f}}
structure vS(a:jg)(H:Hp)(own:qc->Nat)(L:qc)(ls:qa LE):Prop where
 e:H L=@(.dK (dG LE.nm (λl=>V.ref l.y) ls))
 o:own L=5
 nd:(ls.map LE.nm).Nodup
 na:(ls.map LE.y).Nodup
 at_:∀l∈ls,gu a H own l.y l.p/\VI l.p.s l.p.t l.p.b l.p.d l.p.an
def vS.step{own:qc->Nat}(h:vS a H own L ls)(k:yQ own j H H')(c:j≠5:=by decide)(d:j≠6:=by decide):vS a H' (QR own j H) L ls:=
 {k _ _ h.e (.inl (by rw[h.o];calc λz=>c z.symm)),Qk h.e<|h.o,h.nd,h.na,λl b=>{(h.at_ l b).1.step k d,(h.at_ l b).2}}
abbrev bfs(xr L xt xi xf:qc):qa (qb×V):=[(ZZ,.ref xr),(Za,.ref L),(Zp,.ref xt),(Zr,.ref xi),("boxed",.ref xf)]
def gq(p:LD):qe:=SS (UQ (j3 p.t++j3 p.b))
structure yY(a:jg)(H:Hp)(own:qc->Nat)(b db xr L xt xi xf:qc)(es:qa Ent)(ls:qa LE)(bx:Rows)(mk:qb->qe)(WI W M:qe)(n:Nat):Prop where
 e:H b=@(.ins (a 116) db (bfs xr L xt xi xf))
 o:own b=0
 r:uL a H own xr es
 l:vS a H own L ls
 t:gs a H own xt (ls.map λl=>(l.nm,l.p.an)) n
 i:ue a H own xi (ls.map λl=>(l.nm,gq l.p)) WI n
 f:wJ a H own xf bx mk W M n
def yY.quiet{own:qc->Nat}{b:qc}(h:yY a H own b db xr L xt xi xf es ls bx mk WI W M n)(s:Qi H H'):yY a H' (QR own 7 H) b db xr L xt xi xf es ls bx mk WI W M n:=
 let k:yQ own 7 H H':=yQ.of s
 {s _ _ h.e,Qk h.e<|h.o,h.r.step k,h.l.step k,h.t.step k,h.i.step k,h.f.step k}
def UE{y a C:qc}(d:H y=none)(f:H a=none)(k:∀c o,c≠y->(upd (upd H a (.own y)) y (.ins C a [])) c=some o->H' c=some o):Qi H H':=λc o e=>by
 let b:=Qb e d;calc k c o b (Qa b<|Qa (Qb e f)<|e)
def VQ{y a C:qc}(h:(upd (upd H a (.own y)) y (.ins C a [])) c=none):H c=none:=by
 by_cases z:c=y
 .rw[z,Qd] at h;cases h
 .rw[Qa z] at h;by_cases b:c=a
  .rw[b,Qd] at h;cases h
  .rw[Qa b] at h;exact h
noncomputable def XN(D L L2 R2:qc)(a b:qa qc):qc->Nat:=λc=>if c=D then 4 else if c=L then 5 else if c=L2\/c=R2 then 1 else if c∈a then 2 else if c∈b then 3 else 0
inductive IQ
 |mk:∀(x dx:qc)(mk:qb->qe)(WI W M:qe),vs=[.ref x]->WI.length<=20->-W<=20->-M<=20->H x=some (.ins (a 116) dx [])->(∀H' own xr L xt xi xf,(∀c o,c≠x->H c=some o->H' c=some o)->(∀c o,c≠x->H c=some o->own c=0)->yY a H' own x dx xr L xt xi xf [] [] [] mk WI W M 0->Q .non H')->IQ a vs H Q E
def Pn:T.k ja 3 67 (IQ a):=by
 refine T.ok 67 (λcdv A outer st H vs Q E hr h=>?_)
 .let#[x,dx,mk,WI,W,M,U,hWI,hW,hM,hx,k]:=h;refine⟨_,(Qc (Q6 `a (Wl (T 109) (O6 T) hr.up rfl (T 108) (T.B 58) .nil UW) rfl)
   (Qc (Q6 `a Q0 rfl)
   (Qc (Q6 `a (Wl (T 113) (MA T) hr.up rfl (T 112) (T.B 61) .nil UW) rfl)
   (Qc (Q6 `a (Wl (T 104) (Pe T) hr.up rfl (T 103) (T.B 53) .nil UW) rfl)
   (Qe (Q6 `a (Wl (T 95) (Ph T) hr.up rfl (T 94) (T.B 40) .nil UW) rfl)))))),?_⟩
  intro xr dr nxr ndr ner;erw[xr,dr,U,Qd,λD J nD rg ka=>{U,?_}];let sa:Qi H J:=UE nxr ndr λc o n e=>ka c o e n;let hxa:=sa _ _ hx;erw[0,x,_,dx,0,hxa,(T 1),(T 27),∅,?_];let N:(upd J x (.ins (a 116) dx (QD ZZ (.ref xr) []))) x=@(.ins (a 116) dx (QD ZZ (.ref xr) [])):=Qd;let kb:SX x J (upd J x (.ins (a 116) dx (QD ZZ (.ref xr) []))):=λc o n e=>by rw[Qa n];exact e
  generalize upd J x (.ins (a 116) dx (QD ZZ (.ref xr) []))=Hb at N kb;intro L nL;let sc:Qi Hb (upd Hb L (.dK [])):=Qi.zg nL;let eL:(upd Hb L (.dK [])) L=@(.dK []):=Qd;generalize upd Hb L (.dK [])=Hc at sc eL;let hxc:=sc _ _ N;erw[0,x,_,dx,0,hxc,(T 1),(T 11),(by show 1<1000;decide),?_];let r:(upd Hc x (.ins (a 116) dx (QD Za (.ref L) (QD ZZ (.ref xr) [])))) x=@(.ins (a 116) dx (QD Za (.ref L) (QD ZZ (.ref xr) []))):=Qd;let kd:SX x Hc (upd Hc x (.ins (a 116) dx (QD Za (.ref L) (QD ZZ (.ref xr) [])))):=λc o n e=>by rw[Qa n];exact e
  generalize upd Hc x (.ins (a 116) dx (QD Za (.ref L) (QD ZZ (.ref xr) [])))=Hd at r kd;intro xt dt u ndt net;erw[Hd,xt,dt,U,Qd,λc o e=>{(Qa (Qb e u)<|Qa (Qb e ndt)<|e),Qb e u},λHe ht=>{U,?_}];let#[ub,L2,R2,kr,th,hk0,hk1,oo,se]:=ht;let hxe:=se _ _ r;erw[0,x,_,dx,0,hxe,(T 1),(T 31),(by show 2<1000;decide),?_];let v:(upd He x (.ins (a 116) dx (QD Zp (.ref xt) (QD Za (.ref L) (QD ZZ (.ref xr) []))))) x=@(.ins (a 116) dx (QD Zp (.ref xt) (QD Za (.ref L) (QD ZZ (.ref xr) [])))):=Qd;let kf:SX x He (upd He x (.ins (a 116) dx (QD Zp (.ref xt) (QD Za (.ref L) (QD ZZ (.ref xr) []))))):=λc o n e=>by rw[Qa n];exact e
  generalize upd He x (.ins (a 116) dx (QD Zp (.ref xt) (QD Za (.ref L) (QD ZZ (.ref xr) []))))=Hf at v kf;intro xi di O ndi nei;erw[xi,di,WI,U,hWI,Qd,λHg g kg fi ix=>{U,?_}];let sg:Qi Hf Hg:=UE O ndi kg;let hxg:=sg _ _ v;erw[0,x,_,dx,0,hxg,(T 1),(T 43),(by show 3<1000;decide),?_];let y:(upd Hg x (.ins (a 116) dx (QD Zr (.ref xi) (QD Zp (.ref xt) (QD Za (.ref L) (QD ZZ (.ref xr) [])))))) x=@(.ins (a 116) dx (QD Zr (.ref xi) (QD Zp (.ref xt) (QD Za (.ref L) (QD ZZ (.ref xr) []))))):=Qd;let R:SX x Hg (upd Hg x (.ins (a 116) dx (QD Zr (.ref xi) (QD Zp (.ref xt) (QD Za (.ref L) (QD ZZ (.ref xr) [])))))):=λc o n e=>by rw[Qa n];exact e
  generalize upd Hg x (.ins (a 116) dx (QD Zr (.ref xi) (QD Zp (.ref xt) (QD Za (.ref L) (QD ZZ (.ref xr) [])))))=Hh at y R;intro xf df S ndf nef;erw[xf,df,mk,W,M,U,hW,hM,Qd,λHi m ki fF fo=>{U,?_}];let si:Qi Hh Hi:=UE S ndf ki;let hxi:=si _ _ y;erw[0,x,_,dx,0,hxi,(T 1),(T 12),(by show 4<1000;decide),?_];let X:(upd Hi x (.ins (a 116) dx (QD "boxed" (.ref xf) (QD Zr (.ref xi) (QD Zp (.ref xt) (QD Za (.ref L) (QD ZZ (.ref xr) []))))))) x=@(.ins (a 116) dx (bfs xr L xt xi xf)):=by
   rw[Qd];congr 2
  let kj:SX x Hi (upd Hi x (.ins (a 116) dx (QD "boxed" (.ref xf) (QD Zr (.ref xi) (QD Zp (.ref xt) (QD Za (.ref L) (QD ZZ (.ref xr) []))))))):=λc o n e=>by rw[Qa n];exact e
  generalize upd Hi x (.ins (a 116) dx (QD "boxed" (.ref xf) (QD Zr (.ref xi) (QD Zp (.ref xt) (QD Za (.ref L) (QD ZZ (.ref xr) []))))))=p at X kj;let fj:SX x Hi p:=kj;let fh:SX x Hg p:=λc o n e=>fj c o n (si _ _ (R c o n e));let ff:SX x He p:=λc o n e=>fh c o n (sg _ _ (kf c o n e));let fd':SX x Hc p:=λc o n e=>ff c o n (se _ _ (kd c o n e));let fa:SX x J p:=λc o n e=>fd' c o n (sc _ _ (kb c o n e));let nx:∀{c:qc},H c=none->c≠x:=λh z=>by rw[z,hx] at h;cases h
  let dD:H D=none:=VQ nD;let xa:∀{c:qc},J c=none->H c=none:=λ{c} h=>by
   cases e:H c with
   |none=>rfl
   |some o=>rw[sa _ _ e] at h;cases h
  let up:∀{G G':Hp}{c:qc},SX x G G'->c≠x->G' c=none->G c=none:=λ{G G' c} k n h=>by
   cases e:G c with
   |none=>rfl
   |some o=>rw[k c o n e] at h;cases h
  let B:L≠x:=λz=>by rw[z,N] at nL;cases nL
  let Y:L2≠x:=λz=>by have:=oo.hL;rw[z,r] at this;cases this
  let Z:R2≠x:=λz=>by have:=oo.hR;rw[z,r] at this;cases this
  let s:∀c∈g,Hf c=none:=λc hc=>VQ (fi c hc);let i:∀c∈m,Hh c=none:=λc hc=>VQ (fF c hc);let xFi:∀c∈g,c≠x:=λc hc z=>by have:=s c hc;rw[z,v] at this;cases this
  let xFf:∀c∈m,c≠x:=λc hc z=>by have:=i c hc;rw[z,y] at this;cases this
  let b:Reg a p xr dr D [] []:=rg.keep (λc o hc e=>fa c o (by
   obtain rfl|hc:=hc
   .exact nx nxr
   .rcases hc with rfl|⟨f,z⟩
    .exact nx dD
    .cases z) e) λc xs e=>fa c _ (λz=>by rw[z,hxa] at e;cases e) e
  let kr0:kr=[]:=jm.mp ();subst kr0;let j:TH a p xt ub L2 R2 [] []:=th.keep λc o hc e=>ff c o (by
   obtain rfl|rfl|rfl|⟨t,z⟩:=hc
   .exact λz=>by rw[z,r] at u;cases u
   .exact Y
   .exact Z
   .cases z) e
  let F:vw a p xi [] WI 0 g:=ix.keep λc o hc e=>fh c o (by
   obtain rfl|hc:=hc
   .exact λz=>by rw[z,v] at O;cases O
   .exact xFi c hc) e
  let I:FO a p xf [] mk W M 0 m:=fo.keep λc o hc e=>fj c o (by
   obtain rfl|hc:=hc
   .exact λz=>by rw[z,y] at S;cases S
   .exact xFf c hc) e
  let eLj:p L=@(.dK []):=fd' L _ B eL;let hLd:Hd L=@(.dK []):=kd L _ B eL;let hLf:Hf L=@(.dK []):=kf L _ B (se _ _ hLd);let hLh:Hh L=@(.dK []):=R L _ B (sg _ _ hLf);let h2f:Hf L2=@(.dK (QM [])):=kf L2 _ Y th.lk;let h3f:Hf R2=@(.dK []):=kf R2 _ Z th.rp;let h2h:Hh L2=@(.dK (QM [])):=R L2 _ Y (sg _ _ h2f);let h3h:Hh R2=@(.dK []):=R R2 _ Z (sg _ _ h3f);let hih:∀c∈g,∃o,Hh c=some o:=λc hc=>by
   let#[o,e,_]:=ix.there hc;exact{o,R c o (xFi c hc) e}
  let ne2:∀{G:Hp}{c d:qc}{o:HO},G c=none->G d=some o->c≠d:=λh1 h2 z=>by rw[z,h2] at h1;cases h1
  let o0:∀{c C d:qc}{fs:qa (qb×V)},p c=@(.ins C d fs)->XN D L L2 R2 g m c=0:=λ{c C d fs} e=>by
   unfold XN;rw[qC (λz=>by rw[z,b.dr] at e;cases e),qC (λz=>by rw[z,eLj] at e;cases e),qC (λz=>by
    obtain z|z:=z
    .rw[z,j.lk] at e;cases e
    .rw[z,j.rp] at e;cases e),qC (λz=>by
    obtain⟨fN,q⟩|⟨xs,q⟩:=F.kind z
    .rw[q] at e;cases e
    .rw[q] at e;cases e),qC (λz=>by let#[fN,q]:=I.kind z;rw[q] at e;cases e)]
  let oL:XN D L L2 R2 g m L=5:=by
   unfold XN;rw[qC (λz=>by have:=b.dr;rw[<-z,eLj] at this;cases this),qE rfl]
  let oT:∀c,(c=L2\/c=R2)->XN D L L2 R2 g m c=1:=λc hc=>by
   unfold XN;rw[qC (λz=>by
    obtain h|h:=hc
    .have:=j.lk;rw[<-h,z,b.dr] at this;cases this
    .have:=j.rp;rw[<-h,z,b.dr] at this;cases this),qC (λz=>by
    obtain h|h:=hc
    .exact ne2 oo.hL hLd (h.symm.trans z)
    .exact ne2 oo.hR hLd (h.symm.trans z)),qE hc]
  let oI:∀c∈g,XN D L L2 R2 g m c=2:=λc hc=>by
   unfold XN;rw[qC (λz=>by
    obtain⟨fN,q⟩|⟨xs,q⟩:=F.kind hc
    .rw[z,b.dr] at q;cases q
    .rw[z,b.dr] at q;cases q),qC (ne2 (s c hc) hLf),qC (λz=>z.elim (ne2 (s c hc) h2f) (ne2 (s c hc) h3f)),qE hc]
  let oF:∀c∈m,XN D L L2 R2 g m c=3:=λc hc=>by
   unfold XN;rw[qC (λz=>by let#[fN,q]:=I.kind hc;rw[z,b.dr] at q;cases q),qC (ne2 (i c hc) hLh),qC (λz=>z.elim (ne2 (i c hc) h2h) (ne2 (i c hc) h3h)),qC (λz=>by let#[o,q]:=hih c z;calc ne2 (i c hc) q rfl),qE hc]
  let#[di',E',B',ei]:=F.obj;let#[df',X1,T1,N1,ef]:=I.obj;let oz:∀c o,c≠x->H c=some o->XN D L L2 R2 g m c=0:=λc o n e=>by
   let A2:=kb c o n (sa _ _ e);let A4:=kd c o n (sc _ _ A2);let A6:=kf c o n (se _ _ A4);let A8:=R c o n (sg _ _ A6);unfold XN;rw[qC (Qb e dD),qC (Qb A2 nL),qC (λz=>z.elim (Qb A4 oo.hL) (Qb A4 oo.hR)),qC (λz=>by have:=s c z;rw[A6] at this;cases this),qC (λz=>by have:=i c z;rw[A8] at this;cases this)]
  refine k p (XN D L L2 R2 g m) xr L xt xi xf (λc o n e=>fa c o n (sa _ _ e)) oz {X,o0 X,{dr,D,[],b,o0 b.obj,λc hc=>?_},{eLj,oL,zH,zH,λl hl=>nomatch hl},{ub,L2,R2,[],j,qr _,qr _,o0 j.obj,λc hc=>?_},{g,F,o0 ei,oI},{m,I,o0 ef,oF}}
  .rcases hc with rfl|⟨f,z⟩
   .unfold XN;rw[qE rfl]
   .cases z
  .rcases hc with h|h|⟨t,z⟩
   .exact oT c (.inl h)
   .exact oT c (.inr h)
   .cases z
structure KB(own own':qc->Nat)(H H':Hp):Prop where
 k:∀c o,H c=some o->(own c=0\/7<=own c\/Fj o=true)->H' c=some o
 g:∀c o,H c=some o->(own c=0\/7<=own c\/Fj o=true)->own' c=own c
def KB.of{own:qc->Nat}(k:yQ own j H H')(a:1<=j)(b:j<=6):KB own (QR own j H) H H':=
 {λc o e h=>k c o e (h.elim (λz=>.inl ()) λh=>h.imp (λz=>by omega) id),λc o e _=>Qk e}
def KB.trans{own b a:qc->Nat}{d:Hp}(x:KB own b H H')(y:KB b a H' d):KB own a H d:=
 {λc o e h=>y.k c o (x.k c o e h) (x.g c o e h<|h),λc o e h=>by rw[y.g c o (x.k c o e h) (x.g c o e h<|h),x.g c o e h]}
def vS.pop{own:qc->Nat}(h:vS a H own L ls)(nm:qb) :
 vS a (upd H L (.dK (Ub (dG LE.nm (λl=>V.ref l.y) ls) (inr nm)))) (QR own 5 H) L (ls.filter λl=>decide (l.nm≠nm))/\yQ own 5 H (upd H L (.dK (Ub (dG LE.nm (λl=>V.ref l.y) ls) (inr nm)))):=by
 let k:yQ own 5 H (upd H L (.dK (Ub (dG LE.nm (λl=>V.ref l.y) ls) (inr nm)))):=λc o e q=>by
  let n:c≠L:=λz=>by
   obtain q|q:=q
   .rw[z] at q;exact q h.o
   .rw[z,h.e] at e;cases e;cases q
  rw[Qa n];exact e
 erw[{by rw[Qd,V9],Qk h.e<|h.o,(xC ((zy).map _) h.nd),(xC ((zy).map _) h.na),λl b=>?_},k];let b:=(qG.mp b).1;calc{(h.at_ l b).1.step k ∅,(h.at_ l b).2}
def El(ls:qa LE)(nm:qb):L2.without (ls.map λl=>(l.nm,l.p.an)) nm=(ls.filter λl=>decide (l.nm≠nm)).map λl=>(l.nm,l.p.an):=by
 unfold L2.without;rw[jd];rfl
def S7(ls:qa LE)(nm:qb):uy (ls.map λl=>(l.nm,gq l.p)) nm=(ls.filter λl=>decide (l.nm≠nm)).map λl=>(l.nm,gq l.p):=by
 unfold uy;rw[jd];rfl
inductive IP
 |mk:∀(own:qc->Nat)(b db xr L xt xi xf:qc)(es:qa Ent)(ls:qa LE)(bx:Rows)(mk:qb->qe)(WI W M:qe)(n:Nat)(nm:qb),vs=[.ref b,.str nm]->yY a H own b db xr L xt xi xf es ls bx mk WI W M n->nm∈ls.map LE.nm->nm∈bx.map (·.1) ->
   (∀H' own',yY a H' own' b db xr L xt xi xf es (ls.filter λl=>decide (l.nm≠nm)) (L2.without bx nm) mk WI W M n->KB own own' H H'->Q .non H')->IP a vs H Q E
def D5:T.k ja 3 71 (IP a):=by
 sleep 71
 .let#[own,b,db,xr,L,xt,xi,xf,es,ls,bx,mk,WI,W,M,n,nm,U,h,hl,hb,k]:=h;refine⟨_,(Qc (Qq (Um `A `b #[U,U,U,U]))
   (Qc (Qq (T.me `A (T 5) (T 115) (O4 T) (q9 `b Qg)))
   (Qc (Qq (T.me `A (T 7) (T 106) (Pd T) (q9 `b Qg)))
   (Qe (Qq (T.me `A (T 2) (T 97) (Pf T) (q9 `b Qg))))))),?_⟩
  let#[le,hle,U]:=qj.mp hl;let#[s,d]:=h.l.pop le.nm;erw[0,b,_,db,2,h.e,(T 1),(T 11),U,L,U,.inl {_,.inl h.l.e},0,_,inr le.nm,_,h.l.e,U,Q5 h.l.nd hle,?_];let p:=d _ _ h.e (.inl (by rw[h.o];decide));let t:QR own 5 H b=0:=by rw[Qk h.e];exact h.o
  let u:=h.r.step d;let t1:=h.t.step d;let v:=h.i.step d;let f1:=h.f.step d;show VB _ _ _ _ (upd H L (.dK (Ub (dG LE.nm (λl=>V.ref l.y) ls) (inr le.nm))));generalize upd H L (.dK (Ub (dG LE.nm (λl=>V.ref l.y) ls) (inr le.nm)))=H1 at s d p u t1 v f1⊢;let kb1:KB own (QR own 5 H) H H1:=KB.of d ∅ ∅;generalize QR own 5 H=e at s t u t1 v f1 kb1;let#[x,L2,R2,krT,j,_,_,y,_]:=id t1;erw[0,b,_,db,2,p,(T 1),(T 31),U,xt,x,0,j.obj,4,rest e 1 H1,xt,_,n,le.nm,U,t1.thf,(qI<|qj.mpr #[le,hle,U]),λH2 ht _=>?_];let#[z,f]:=gs.of y {_,j.obj} ht;rw[El] at z;let q:=f _ _ p (.inl (by rw[t];decide));let B:QR e 1 H1 b=0:=by rw[Qk p];exact t
  let r2:=u.step f;let l2:=s.step f;let i2:=v.step f;let f2:=f1.step f;let kb2:=kb1.trans (KB.of f ∅ ∅);generalize QR e 1 H1=m at z q B r2 l2 i2 f2 kb2;let#[Fi,C,D,F]:=i2;let#[G,E1,B1,I]:=C.obj;erw[0,b,_,db,2,q,(T 1),(T 43),U,xi,G,0,I,4,xi,_,WI,n,Fi,le.nm,U,C,(qI<|qj.mpr #[le,hle,U]),λH3 Fi' J kF hF=>?_];let#[N,g]:=ue.own' C D F J kF (λc hc=>.inl (hF c hc));rw[S7] at N;let r:=g _ _ q (.inl (by rw[B];decide));let O:QR m 2 H2 b=0:=by rw[Qk q];exact B
  let r3:=r2.step g;let l3:=l2.step g;let t3:=z.step g;let f3:=f2.step g;let o:=kb2.trans (KB.of g ∅ ∅);generalize QR m 2 H2=R at t3 r O r3 l3 N f3 o;let#[Ff,S,X,Y]:=f3;let#[Z,X1,T1,N1,g8]:=S.obj;erw[0,b,_,db,2,r,(T 1),(T 12),U,xf,Z,0,g8,4,xf,_,mk,W,M,n,Ff,le.nm,U,S,hb,λH4 Ff' fo' kG hG=>?_];let#[f4,i]:=wJ.own' S X Y fo' kG (λc hc=>.inl (hG c hc));calc k H4 (QR R 3 H3) {i _ _ r (.inl (by rw[O];decide)),Qk r<|O,r3.step i,l3.step i,t3.step i,N.step i,f4} (o.trans (KB.of i ∅ ∅))
def uu{A B:Prop}(h:decide (x=y)=false)(k:B):if decide (V.str x=V.str y)=true then A else B:=by
 rw[Wh,h];calc QQ k
def Tn{A B:Prop}(k:A):if decide (V.str x=V.str x)=true then A else B:=by
 rw[qw rfl];calc Q7 k
inductive Dd where
 |put (nm:qb) (p:LD)
 |place (nm fo:qb)
 |mark (nm y:qb) (on:Bool)
 |drop (nm:qb)
variable {d:Dd}
def Dd.nm:Dd->qb
 |.put nm _=>nm
 |.place nm _=>nm
 |.mark nm _ _=>nm
 |.drop nm=>nm
inductive gz(H:Hp)(q:qc):Dd->Prop
 |put {nm:qb} {p:LD} {u:qc}:H q=some (.tup [.str Zd,.str nm,.ref u])->H u=some (.tup [.str p.s,.str p.t,.str p.b,.int p.d,.str p.an])->gz H q (.put nm p)
 |place {nm fo:qb}:H q=some (.tup [.str Zl,.str nm,.str fo])->gz H q (.place nm fo)
 |mark {nm y:qb} {on:Bool}:H q=some (.tup [.str Ze,.str nm,.str y,.bl on])->gz H q (.mark nm y on)
 |drop {nm:qb}:H q=some (.tup [.str Zk,.str nm])->gz H q (.drop nm)
def gz.tups(h:gz H q d)(k:∀c xs,H c=@(.tup xs)->H' c=@(.tup xs)):gz H' q d:=by
 cases h with
 |put e a=>calc .put (k _ _ e) (k _ _ a)
 |place e=>calc .place (k _ _ e)
 |mark e=>calc .mark (k _ _ e)
 |drop e=>calc .drop (k _ _ e)
def chL(ls:qa LE):Dd->qa LE
 |.drop nm=>ls.filter λl=>decide (l.nm≠nm)
 |_=>ls
def chB(bx:Rows):Dd->Rows
 |.drop nm=>L2.without bx nm
 |.place nm a=>L2.without bx nm++[(nm,a)]
 |_=>bx
def chM(mk:qb->qe):Dd->qb->qe
 |.mark nm y true=>Y4 mk nm (YR (mk nm) y)
 |.mark nm y false=>Y4 mk nm ((mk nm).filter λz=>decide (z≠y))
 |_=>mk
def dOk(W M:qe):Dd->Prop
 |.put _ _=>False
 |.place _ a=>a∈W
 |.mark _ y _=>y∈M
 |.drop _=>True
inductive af
 |mk:∀(own:qc->Nat)(b db xr L xt xi xf:qc)(es:qa Ent)(ls:qa LE)(bx:Rows)(mk:qb->qe)(WI W M:qe)(n:Nat)(q:qc)(d:Dd),vs=[.ref b,.ref q]->yY a H own b db xr L xt xi xf es ls bx mk WI W M n->gz H q d->dOk W M d->d.nm∈ls.map LE.nm->d.nm∈bx.map (·.1) ->
   (∀H' own',yY a H' own' b db xr L xt xi xf es (chL ls d) (chB bx d) (chM mk d) WI W M n->KB own own' H H'->Q .non H')->af a vs H Q E
def yY.fold{own:qc->Nat}{b:qc}{c:Rows}{mk':qb->qe}(h:yY a H own b db xr L xt xi xf es ls bx mk WI W M n)(f:wJ a H' (QR own 3 H) xf c mk' W M n)(k:yQ own 3 H H'):yY a H' (QR own 3 H) b db xr L xt xi xf es ls c mk' WI W M n:=
 {k _ _ h.e (.inl (by rw[h.o];decide)),Qk h.e<|h.o,h.r.step k,h.l.step k,h.t.step k,h.i.step k,f}
def bK:T.k ja 4 72 (af a):=by
 sleep 72
 .let#[own,b,db,xr,L,xt,xi,xf,es,ls,bx,mk,WI,W,M,n,q,d,U,h,hd,v,z,t,k]:=h;refine⟨_,(Qc (Qr (i:=2) (sc 72).nd (Ql Qx `b Qf))
   (Qe (QE (Qp Yk (Ql Qx `b Qf) QC) (Qe (Qq (T.me `a (T 1) (T 68) (D5 T) (q9 `c Qg)))) (Qe (QE (Qp Yk (Ql Qx `b Qf) QC) (Qe (Qq (T.me `A (T 2) (T 98) (ML T) (q9 `c (q9 (Ql Qx `b Qf) Qg))))) (Qe (QE (YD (Ql Qx `b Qf)) (Qe (Qq (T.me `A (T 2) (T 99) (Pg T) (q9 `c (q9 (Ql Qx `b Qf) Qg))))) (Qe (Qq (T.me `A (T 2) (T 100) (F0 T) (q9 `c (q9 (Ql Qx `b Qf) Qg)))))))))))),?_⟩
  cases hd with
  |put e f=>calc v.elim
  |drop e=>
   erw[0,q,3,z5.of e,Qy (j:=1) rfl,?_];erw[0,q,3,z5.of e,Qy (j:=0) rfl,4,Tn ?_];calc{0,b,db,0,h.e,4,own,b,db,xr,L,xt,xi,xf,es,ls,bx,mk,WI,W,M,n,0,h,z,t,λH' f g l=>k H' f g l}
  |place e=>
   let#[u,g,l,m]:=id h.f;let#[o,B,T1,C,p]:=g.obj;erw[0,q,3,z5.of e,Qy (j:=1) rfl,?_];erw[0,q,3,z5.of e,Qy (j:=0) rfl,4,uu ∅ {0,q,3,z5.of e,Qy (j:=0) rfl,4,Tn ?_}];erw[0,b,_,db,2,h.e,(T 1),(T 12),U,xf,o,0,p,U,5,q,3,z5.of e,Qy (j:=2) rfl,xf,_,mk,W,M,n,u,2,g,t,v,λH' D f s F=>?_];let#[f4,r]:=wJ.own' g l m f s F;calc k H' _ (h.fold f4 r) (KB.of r ∅ ∅)
  |mark e=>
   rename_i nm y on
   let#[u,g,l,m]:=id h.f;let#[o,B,T1,C,p]:=g.obj;erw[0,q,3,z5.of e,Qy (j:=1) rfl,?_];erw[0,q,3,z5.of e,Qy (j:=0) rfl,4,uu ∅ {0,q,3,z5.of e,Qy (j:=0) rfl,4,uu ∅ ?_}];erw[0,q,3,z5.of e,Qy (j:=3) rfl,0,?_]
   cases on with
   |true=>
    calc Q7 {0,b,_,db,2,h.e,(T 1),(T 12),U,xf,o,0,p,U,5,q,3,z5.of e,Qy (j:=2) rfl,xf,_,mk,W,M,n,u,2,g,t,v,λH' f s=>?_};let#[f4,r]:=wJ.own' g l m f s (λc hc=>.inl hc);calc k H' _ (h.fold f4 r) (KB.of r ∅ ∅)
   |false=>
    calc QQ {0,b,_,db,2,h.e,(T 1),(T 12),U,xf,o,0,p,U,5,q,3,z5.of e,Qy (j:=2) rfl,xf,_,mk,W,M,n,u,2,g,t,λH' f s=>?_};let#[f4,r]:=wJ.own' g l m f s (λc hc=>.inl hc);calc k H' _ (h.fold f4 r) (KB.of r ∅ ∅)
inductive Dt(a:jg)(vs:qa V)(H:Hp)(Q:VK):Prop
 |mk:∀(own:qc->Nat)(b db xr L xt xi xf:qc)(es:qa Ent)(ls:qa LE)(bx:Rows)(mk:qb->qe)(WI W M:qe)(n:Nat)(l:LE),vs=[.ref b,.str l.nm]->yY a H own b db xr L xt xi xf es ls bx mk WI W M n->l∈ls ->
   (∀y H',H y=none->Qi H H'->Up a H' y l.p.s l.p.t l.p.b l.p.d l.p.an->Q (.ref y) H')->Dt a vs H Q
def Om(a:jg):Sp:=λvs H Q _=>Dt a vs H Q
inductive Bg(a:jg)(vs:qa V)(H:Hp)(Q:VK):Prop
 |mk:∀(own:qc->Nat)(b db xr L xt xi xf:qc)(es:qa Ent)(ls:qa LE)(bx:Rows)(mk:qb->qe)(WI W M:qe)(n:Nat)(l:LE)(fo:qb),vs=[.ref b,.str l.nm]->yY a H own b db xr L xt xi xf es ls bx mk WI W M n->l∈ls->L2.up bx l.nm=some fo->l.nm∈bx.map (·.1) ->
   (∀y g H',H y=none->H g=none->Qi H H'->HI a H' y g l.p.s l.p.t l.p.b l.p.d l.p.an fo (SS (QH (mk l.nm)))->Q (.ref y) H')->Bg a vs H Q
def IS(a:jg):Sp:=λvs H Q _=>Bg a vs H Q
def SN:T.k ja 8 74 (Om a):=by
 refine T.ok 74 (λi A outer st H vs Q E j h=>?_)
 .let#[own,b,db,xr,L,xt,xi,xf,es,ls,bx,mk,WI,W,M,n,l,U,h,d,k]:=h;let m:=Yt j;refine⟨_,(Qc (Qq (T.cl (YU T) (q9 `b (q9 `A Qg))))
   (Qe (Qm (T.mn (Yg m `A `b) (T 3) (T 58) (Lu T))))),?_⟩
  let e:=Q5 (g:=λl=>V.ref l.y) h.l.nd d;let#[c,o]:=h.l.at_ l d;let#[p,f,q]:=c.let.at
  erw[5,b,_,db,2,h.e,(T 1),(T 11),U,l.nm,L,2,h.l.e,e,?_];erw[0,b,_,db,2,h.e,(T 1),(T 11),U,?_];erw[0,L,0,.inl {_,inr l.nm,.inl h.l.e,U,e.symm},?_];calc{l.y,p,0,q,U,l.y,6,2,c.let,o,λy H' r s' s=>k y H' r s' s}
def D6:T.k ja 10 75 (IS a):=by
 refine T.ok 75 (λs A outer st H vs Q E t h=>?_)
 .let#[own,b,db,xr,L,xt,xi,xf,es,ls,bx,mk,WI,W,M,n,l,u,U,h,m,f,o,k]:=h;let v:=Yt t;refine⟨_,(Qc (Qq (T.cl (YU T) (q9 `b (q9 `A Qg))))
   (Qe (Qm (T.ma (T 56) (T 55) (D4 T) (q9 (Yg v `A `b) (q9 (T.me `A (T 2) (T 62) (G0 T) (q9 `b Qg)) (q9 (T.me `A (T 2) (T 63) (Bu T) (q9 `b Qg)) Qg))))))),?_⟩
  let p:=Q5 (g:=λl=>V.ref l.y) h.l.nd m;let#[i,x]:=h.l.at_ l m;let#[q,e,z,B]:=h.f;let#[c,G,T1,I,d]:=e.obj;let j:=e.xK o;erw[5,b,_,db,2,h.e,(T 1),(T 11),U,l.nm,L,2,h.l.e,p,?_];erw[0,b,_,db,2,h.e,(T 1),(T 11),4,L,0,.inl {_,inr l.nm,.inl h.l.e,U,p.symm},?_];erw[0,b,_,db,2,h.e,(T 1),(T 12),U,xf,c,0,d,4,xf,bx,mk,W,M,n,q,l.nm,u,U,e,f,?_];erw[0,b,_,db,2,h.e,(T 1),(T 12),U,xf,c,0,d,4,xf,bx,mk,W,M,n,q,l.nm,U,e,o,λlm H1 nl s1 C=>?_];calc λy J r D ne=>Ea r D ne (i.let.mono s1) x (.inr {lm,U,.inl C}) (by rw[Yq];have:=j.2.2;omega) λH2 g s2 F hc=>{U,k y g H2 (s1.free r) (s1.free F) (s1.trans s2) hc}
def Cv(es:qa Ent)(k:qe):Bool:=decide (k.getD 1 ""=Ze)&&(match Ul es k with|some e=>decide (e.2.2.2=V.bl true)|none=>false)
def PK(es:qa Ent)(nm:qb):qa (qe):=(Wu ((sel [nm] es).map (·.1))).map λi=>((sel [nm] es).map (·.1)).getD i []
def Xk(es:qa Ent)(nm:qb):qe:=((PK es nm).filter (Cv es)).map λk=>k.getD 2 ""
structure cD(es:qa Ent):Prop where
 ne:∀e∈es,e.1≠[]
 two:∀e∈es,2<=-e.1
 mw:∀e∈es,e.1.getD 1 ""=Ze->(∃on,e.2.2.2=V.bl on)/\-e.1=3
def CO{H:Hp}:∀{bs:qa qc}{ts:qa (qe)}(i:Nat),Vs H bs ts->i< -ts->H (bs.getD i 0)=@(.tup ((ts.getD i []).map V.str))
 |_,_,i,.nil,hi=>absurd hi (yv _)
 |_,_,0,.cons e _ _,_=>e
 |_,_,i+1,.cons _ _ r,hi=>CO i r (jE hi)
def DA:∀(bs:qa qc)(i:Nat),i< -bs->(bs.map V.ref).getD i .non=V.ref (bs.getD i 0)
 |[],i,h=>absurd h (yv _)
 |_::_,0,_=>rfl
 |_::bs,i+1,h=>DA bs i (jE h)
def Gi{k:qe}(h:Ul es k=some e):e∈es/\e.1=k:={List.mem_of_find?_eq_some h,by let z:=List.find?_some h;calc qL z}
def RI{k:qe}(h:j< -k):xm (~~~k) (j:Int)=@(V.str (k.getD j "")):=Qy (by
 rw[qD,qX,ql h];rfl)
def Fb(h:e∈es):∃a,Ul es e.1=some a:=by
 cases q:Ul es e.1 with
 |some a=>exact#[a,U]
 |none=>
  have:=wB.mp q e h;calc absurd (qw rfl) this
inductive dA
 |mk:∀(own:qc->Nat)(b db xr L xt xi xf:qc)(es:qa Ent)(ls:qa LE)(bx:Rows)(mk:qb->qe)(WI W M:qe)(n:Nat)(nm:qb),vs=[.ref b,.str nm]->yY a H own b db xr L xt xi xf es ls bx mk WI W M n->cD es->-es<64 ->
   (∀l H',H l=none->Qi H H'->H' l=@(.lst ((Xk es nm).map V.str))->Q (.ref l) H')->dA a vs H Q E
def eF:T.k ja 2 70 (dA a):=by
 let#[ds,v,ko]:=T.w9;refine T.ok 70 (λJ A outer st H vs Q E O h=>?_)
 .let#[own,b,db,xr,L,xt,xi,xf,es,ls,bx,mk,WI,W,M,n,nm,U,h,hm,y,k]:=h;erw[_,(Qe (Qm (Yh (sc:=Qs (sO 70)) (N:=(nn 70)) (fr:=[(0,"self")]) (xV rfl rfl) rfl rfl rfl (QI (T.me `A (T 16) (T 111) (MJ T) (q9 `b Qg))) (λ_ _ _ _=>YW (PW.pt (Kf (Qp Yk (Ql (Ue K) `a Qf) QC) (WL (YD (WN (K7 K `b U) (T 16) (T 42) (Co T) O.up ko v UW (q9 `a Qg))))))) (λ_ _ _ _=>(Ql (Ue K) `a Qf))))),?_];let#[c,D,kd,s,R,Y]:=h.r;erw[0,b,_,db,2,h.e,(T 1),(T 27),U,xr,c,0,s.obj,4,xr,c,D,kd,es,nm,U,s,hm.ne,y,λl bs H1 nl s1 G B=>?_];let d:∀i∈Wu ((sel [nm] es).map (·.1)),i< -((sel [nm] es).map (·.1)):=λi hi=>LJ hi;let S:=G.len;let ex:(Wu ((sel [nm] es).map (·.1))).map (λi=>(bs.map V.ref).getD i .non)=((Wu ((sel [nm] es).map (·.1))).map λi=>(bs.getD i 0,((sel [nm] es).map (·.1)).getD i [])).map λx=>V.ref x.1:=by
   rw[qI];calc js λi hi=>?_;exact DA bs i (by have:=d i hi;omega)
  rw[ex] at B;let m:∀x∈(Wu ((sel [nm] es).map (·.1))).map (λi=>(bs.getD i 0,((sel [nm] es).map (·.1)).getD i [])),H1 x.1=@(.tup (~~~x.2))/\∃e∈es,e.1=x.2:=λx o=>by
   let#[i,hi,U]:=qj.mp o;erw[CO i G (d i hi),?_];let f:((sel [nm] es).map (·.1)).getD i []∈(sel [nm] es).map (·.1):=by
    rw[qX,ql (d i hi)];exact zx _
   let#[e,he,q]:=qj.mp f;exact{e,(qG.mp he).1,q}
  let hlen:-((Wu ((sel [nm] es).map (·.1))).map (λi=>(bs.getD i 0,((sel [nm] es).map (·.1)).getD i [])))<=sizeLine:=by
   rw[qh,Ew,qh];have:-(sel [nm] es)<=-es:=qP _ _;exact QT ()
  erw[l,U,{_,zm.of B},Ye (λx=>V.ref x.1) (λx=>Cv es x.2) (λx=>V.str (x.2.getD 2 "")) hlen (zm.of B) ?_ ?_ ?_]
  .intro x C Q' o s3 t;let#[u,e,he,q]:=m x o;let#[I,p]:=Fb he;rw[q] at p;let two:2<=-x.2:=by rw[<-q];exact hm.two e he
   let f:=s1.trans s3;erw[0,x.1,3,z5.of (s3 _ _ u),RI (j:=1) (),4,?_];by_cases g:x.2.getD 1 ""=Ze
   .let#[#[on,r],_]:=hm.mw I (Gi p).1 ((Gi p).2<|g);rw[g];calc Tn {0,b,_,db,2,f _ _ h.e,(T 1),(T 27),U,xr,c,0,f _ _ s.obj,4,xr,c,D,kd,es,x.1,x.2,.non,U,s.same f,(by intro z;rw[z] at two;calc absurd two ∅),s3 _ _ u,λX s4=>?_};rw[p];have:=t X s4;let F:Cv es x.2=on:=by
     unfold Cv;rw[qw g,p];show(true&&decide (I.2.2.2=V.bl true))=on;rw[r];cases on<;>decide
    rw[F] at this;exact#[on,r,this]
   .refine uu (qK g) ?_;have:=t C (Qi.refl _);let F:Cv es x.2=false:=by unfold Cv;rw[qK g];rfl
    rw[F] at this;exact this
  .intro x C Q' o s3 f t;let#[u,e,he,q]:=m x o;let g:x.2.getD 1 ""=Ze:=by
    unfold Cv at f;exact qL (yZ.mp f).1
   let three:=(hm.mw e he (q<|g)).2;rw[q] at three;exact{0,x.1,3,z5.of (s3 _ _ u),RI (j:=2) (),t C (Qi.refl _)}
  .intro f H2 g s2 p;calc k f H2 (s1.free g) (s1.trans s2) ?_;rw[p];congr 2;unfold Xk PK;rw[qI,jd,jd,qI,qI];rfl
inductive Dg
 |mk:∀x s t b d an,vs=[.ref x]->Up a H x s t b d an->VI s t b d an->(∀D H',SX x H H'->E6 a H' x s t b d an D->(H D=none\/E6 a H x s t b d an D)->Q (.ref D) H')->Dg a vs H Q E
inductive NZ
 |mk:∀x s t b d an,vs=[.ref x]->Up a H x s t b d an->VI s t b d an->(∀(l:qc)(H':Hp),H l=none->SX x H H'->(∃D,E6 a H' x s t b d an D/\(H D=none\/E6 a H x s t b d an D))->H' l=some (.lst ((UQ (j3 t++j3 b)).map V.str))->Q (.ref l) H')->NZ a vs H Q E
def MI:T.k ja 2 38 (Dg a):=by
 refine T.ok 38 (λX A outer s H vs Q E Y h=>?_)
 .let#[x,s,t,b,d,an,U,hL,g,k]:=h;let hu:=Yt Y;refine⟨_,(Qc (QE (Qp V5 `A UO) (Qc (Qr (i:=1) (sc 38).nd Q0)
   (Qc (YA zl rfl (QI (T.cl (KP T) (q9 `A Qg))) (QX (i:=2) (sc 38).nd) (Qe (Ys hu `b `c Y1 rfl)))
   (Qc (YA zl rfl (QI (T.cl (KP T) (q9 `A Qg))) (QX (i:=2) (sc 38).nd) (Qe (Qq (OW `b `c Y1 #[U,U,U,U]))))
   (Qe (Q6 `a `b U))))) Qu)
   (Qe (Qm `A))),?_⟩
  let h1:=g.tl;let h2:=HR t;let h3:=g.bl;let h4:=HR b;obtain⟨dx,f⟩|⟨D,⟨dx,f⟩,R⟩:=hL
  .erw[0,x,_,dx,2,f,(T 3),(T 13),U,4,Q7 ?_];calc λD F=>?_;let s1:Qi H (upd H D (.dK [])):=Qi.zg F;let J:(upd H D (.dK [])) D=@(.dK []):=Qd;show VB _ _ _ _ (upd H D (.dK []));generalize upd H D (.dK [])=H1 at s1 J;erw[0,x,_,dx,2,s1 _ _ f,(T 3),(T 32),U,t,U,g.t_,(),λG H2 n1 s2 q=>?_];let s3:=s1.trans s2;let lD:G≠D:=(Qb J n1).symm;refine⟨G,U,{_,zm.of q},YF (K:=K) (a:=G) (xs:=(j3 t).map V.str) (λi Z m=>∃o:uf V,Z=[@(.ref x),@(.ref D),o]/\Qi H m/\m D=@(.dK (kn (j3 t) ((j3 t).take i)))/\m G=@(.lst ((j3 t).map V.str)))
    {none,U,s3,s2 _ _ J,q} (λi Z m _ #[_,_,_,_,h]=>zm.of h) ?_ ?_⟩
   .rintro i y Z m hi ⟨o,rfl,s4,r,S⟩;let#[u,U,j]:=NY hi;let L:=PF (j3 t) ((j3 t).take i);rw[zC] at L;erw[5,D,0,UL.k (k:=inr u) r (QA ()),0,s4.zP F,?_,Qa lD<|S];rw[Qd,bV (ze j),zw,j];rfl
   .rintro Z m ⟨o,rfl,s4,r,S⟩;rw[qh,zG (qr _)] at r;erw[0,x,_,dx,2,s4 _ _ f,(T 3),(T 33),U,b,U,g.b_,(),λI H4 n2 s5 B=>?_];let s6:=s4.trans s5;let M:I≠D:=(Qb r n2).symm;refine⟨I,U,{_,zm.of B},YF (K:=K) (a:=I) (xs:=(j3 b).map V.str) (λi Z n=>∃o:uf V,Z=[@(.ref x),@(.ref D),o]/\Qi H n/\n D=@(.dK (kn (j3 t) (j3 t++(j3 b).take i)))/\n I=@(.lst ((j3 b).map V.str)))
     {o,U,s6,jK<|zS<|s5 _ _ r,B} (λi Z n _ #[_,_,_,_,h]=>zm.of h) ?_ ?_⟩
    .rintro i y Z n hi ⟨o2,rfl,p,l,N⟩;let#[u,U,j]:=NY hi;let L:=PF (j3 t) (j3 t++(j3 b).take i);rw[qo,zC] at L;let C:j3 t++(j3 b).take (i+1)=(j3 t++(j3 b).take i)++[u]:=by rw[zw,j,yc];rfl
     erw[0,D,U,.inl {_,.inl l},0,_,inr u,l,U,QA (),λv O=>?_,λO=>?_]
     .exact{0,p,C<|Er O<|l,N}
     .exact{0,p.zP F,by rw[Qd,C,Es (λz hz=>qJ _ hz) O],Qa M<|N}
    .rintro Z n ⟨o2,rfl,p,l,N⟩;rw[qh,zG (qr _)] at l;erw[5,x,_,dx,0,p _ _ f,(T 3),(T 13),(by show 6<1000;decide),?_];erw[0,x,_,dx,2,Qd,(T 3),(T 13),U,?_];refine k D _ (λc o ne e=>?_) {#[dx,Qd],?_} (.inl F)
     .rw[Qa ne];exact p _ _ e
     .rw[Qa (QG l (p _ _ f) nofun)];exact l
  .erw[0,x,_,dx,2,f,(T 3),(T 13),U,4,QQ ?_];calc{0,x,_,dx,2,f,(T 3),(T 13),U,k D H (λ_ _ _ e=>e) {#[dx,f],R} (.inr {#[dx,f],R})}
def Sz:T.k ja 3 39 (NZ a):=by
 refine T.ok 39 (λn A outer s H vs Q E r h=>?_)
 .let#[x,s,t,b,d,an,U,i,g,k]:=h;let#[dx,f,o]:=i.at
  erw[_,(Qe (Qm (YC (WC rfl) rfl (T 19) boot_list (Lp (T.mn `a (T 3) (T 59) (MI T)) Qg)))),?_];erw[0,x,dx,0,o,U,x,s,t,b,d,an,U,i,g,λD H1 s1 p q=>?_];let#[#[e,j],m]:=id p;erw[D,0,m,λl c=>k l _ (s1.free j c) (s1.trans (SX.of (Qi.zg c))) {D,{{e,Qi.zg c _ _ j},Qi.zg c _ _ m},q} ?_];rw[Qd,S9]
inductive Df
 |mk:∀p s t b d an,vs=[.ref p]->H p=some (.tup [.str s,.str t,.str b,.int d,.str an])->VI s t b d an->(∀x H',H x=none->Qi H H'->(∃dx,H' x=some (.ins (a 121) dx (uA s t b d an .non)))->Q (.ref x) H')->Df a vs H Q E
def Cr{d:Int}{E:XK}(g:VI s t b d an)(k:∀x H',H x=none->Qi H H'->(∃dx,H' x=@(.ins (a 121) dx (uA s t b d an .non)))->Q (.ref x) H') :
 ∀x dx,H x=none->H dx=none->dx≠x->B6 a (.ref x::[.str s,.str t,.str b,.int d,.str an]) (upd (upd H dx (.own x)) x (.ins (a 121) dx [])) (λv H2=>v=.non/\Q (.ref x) H2) E:=by
 intro x dx f hd ne;erw[x,dx,s,t,b,d,an,U,g,Qd,λH' i h=>{U,k x H' f (λc o e=>i c o (Qb e f) ?_) #[dx,h]}];rw[Qa (Qb e f),Qa (Qb e hd)];calc e
def W9:T.k ja 7 7 (Df a):=by
 refine T.ok 7 (λe A outer s H vs Q E f h=>?_)
 .let#[p,s,t,b,d,an,U,c,g,k]:=h;refine⟨_,(Qc (QE (PW.pt (We (YQ (YD (Qn QY rfl (T 10) boot_isinstance (q9 `a (q9 (YX (v:=.ty "tuple") rfl (T 36) boot_tuple rfl) Qg))))) (V2 (Qp UX (Qn Qz rfl (T 4) zf (q9 `a Qg)) Qf)))) (Qe YE) Qu)
   (Qe (Qm (T.ma (T 40) (T 39) (Cn T) (q9 (Ql Qx `a Qf) (q9 (Ql Qx `a Qf) (q9 (Ql Qx `a Qf) (q9 (Ql Qx `a Qf) (q9 (Ql Qx `a Qf) Qg))))))))),?_⟩
  let hS:z5 K H p [.str s,.str t,.str b,.int d,.str an]:=z5.of c;erw[0,9,3,VF.tup c,PH,0,QQ ?_];erw[0,p,0,.inr hS,4,QQ ?_];calc{0,p,3,hS,4,p,3,hS,4,p,3,hS,4,p,3,hS,4,p,3,hS,U,Cr g k}
def Bx:∀{ls:qa LE}{z l:LE},(ls.map LE.y).Nodup->z∈ls->l∈ls->z.y=l.y->z=l
 |[],_,_,_,h,_,_=>nomatch h
 |x::xs,z,l,c,hz,d,e=>by
  rw[qZ,zN] at c;obtain b|b:=qx.mp hz
  .rcases qx.mp d with a|a
   .rw[b,a]
   .exact absurd (qj.mpr {l,a,by rw[<-e,b]}) c.1
  .rcases qx.mp d with a|a
   .exact absurd (qj.mpr {z,b,by rw[e,a]}) c.1
   .exact Bx c.2 b a e
def vS.put{own:qc->Nat}(h:vS a H own L ls){l:LE}(b:¬l.nm∈ls.map LE.nm)(d:¬l.y∈ls.map LE.y)(f:gu a H own l.y l.p)(g:VI l.p.s l.p.t l.p.b l.p.d l.p.an) :
 vS a (upd H L (.dK (Yz (dG LE.nm (λl=>V.ref l.y) ls) (inr l.nm) (.ref l.y)))) (QR own 5 H) L (ls++[l])/\yQ own 5 H (upd H L (.dK (Yz (dG LE.nm (λl=>V.ref l.y) ls) (inr l.nm) (.ref l.y)))):=by
 let k:yQ own 5 H (upd H L (.dK (Yz (dG LE.nm (λl=>V.ref l.y) ls) (inr l.nm) (.ref l.y)))):=λc o e q=>by
  let n:c≠L:=λz=>by
   obtain q|q:=q
   .rw[z] at q;exact q h.o
   .rw[z,h.e] at e;cases e;cases q
  rw[Qa n];exact e
 erw[{by rw[Qd,Aw l b rfl rfl],Qk h.e<|h.o,qB<|Yj h.nd b,qB<|Yj h.na d,λz hz=>?_},k];obtain hz|hz:=qq.mp hz
 .exact{(h.at_ z hz).1.step k ∅,(h.at_ z hz).2}
 .rw[qk.mp hz];calc{f.step k ∅,g}
def vS.words{own:qc->Nat}(h:vS a H own L ls){l:LE}(m:l∈ls)(s:SX l.y H H')(p:∃D,E6 a H' l.y l.p.s l.p.t l.p.b l.p.d l.p.an D/\(H D=none\/E6 a H l.y l.p.s l.p.t l.p.b l.p.d l.p.an D)) :
 vS a H' (QR own 6 H) L ls/\yQ own 6 H H':=by
 let d:=(h.at_ l m).1;let#[w,f,g]:=d.let.at
 let k:yQ own 6 H H':=λc o e q=>s c o (λz=>by
  obtain q|q:=q
  .rw[z] at q;exact q d.1
  .rw[z,g] at e;cases e;cases q) e
 erw[{s _ _ (QG h.e g nofun) h.e,Qk h.e<|h.o,h.nd,h.na,λz hz=>{?_,(h.at_ z hz).2}},k];let i:=(h.at_ z hz).1;by_cases e:z.y=l.y
 .let#[D,r,j]:=p;let t:z=l:=Bx h.na hz m e;rw[t];erw[Qk g<|d.1,.inr {D,r,VR ?_}];obtain j|⟨⟨x,n⟩,_⟩:=j
  .exact .inr j
  .left
   obtain⟨u,b⟩|⟨y,⟨⟨u,b⟩,_⟩,v⟩:=d.2
   .rw[n] at b;injection b with b;injection b with _ _ b;simp at b
   .rw[n] at b;injection b with b;injection b with _ _ b;simp at b;rw[b];exact v
 .rcases i with⟨j,⟨dx,ex⟩|⟨D,⟨⟨dx,ex⟩,b⟩,n⟩⟩
  .exact{Qk ex<|j,.inl {dx,s _ _ e ex}}
  .exact{Qk ex<|j,.inr {D,{{dx,s _ _ e ex},s _ _ (QG b g nofun) b},Qk b<|n}}
structure RN(H:Hp)(es:qa Ent)(nm:qb)(p:LD)(u:qc)(fo:qb)(dr:Bool)(WI W M:qe):Prop where
 mk_:cD es
 few:-es<64
 pt:((Ul es [nm,Zd]).map (·.2.2.2)).getD .non=.ref u
 tu:H u=@(.tup [.str p.s,.str p.t,.str p.b,.int p.d,.str p.an])
 g:VI p.s p.t p.b p.d p.an
 wi:∀w∈UQ (j3 p.t++j3 p.b),w∈WI
 wl:-(UQ (j3 p.t++j3 p.b))<=60
 d0:dr=false->((Ul es [nm,Zk]).map (·.2.2.2)).getD .non=.non
 d1:dr=true->∃z,((Ul es [nm,Zk]).map (·.2.2.2)).getD .non=.str z
 pl:((Ul es [nm,Zl]).map (·.2.2.2)).getD (.str Zj)=.str fo
 fw:fo∈W
 mm:∀y∈Xk es nm,y∈M
def vS.same{own:qc->Nat}(j:Nat)(h:vS a H own L ls)(s:Qi H H'):vS a H' (QR own j H) L ls:=by
 erw[s _ _ h.e,Qk h.e<|h.o,h.nd,h.na,λl b=>{?_,(h.at_ l b).2}];obtain⟨c,⟨dx,ex⟩|⟨D,⟨⟨dx,ex⟩,d⟩,e⟩⟩:=(h.at_ l b).1
 .exact{Qk ex<|c,.inl {dx,s _ _ ex}}
 .exact{Qk ex<|c,.inr {D,{{dx,s _ _ ex},s _ _ d},Qk d<|e}}
def KB.same{own:qc->Nat}(j:Nat)(s:Qi H H'):KB own (QR own j H) H H':={λc o e _=>s c o e,λc o e _=>Qk e}
inductive ae
 |mk:∀(own:qc->Nat)(b db xr L xt xi xf:qc)(es:qa Ent)(ls:qa LE)(bx:Rows)(mk:qb->qe)(WI W M:qe)(n:Nat)(nm:qb)(p:LD)(u:qc)(fo:qb)(dr:Bool),vs=[.ref b,.str nm]->yY a H own b db xr L xt xi xf es ls bx mk WI W M n->RN H es nm p u fo dr WI W M->n<40->(∀m,m∈bx.map (·.1)↔m∈ls.map LE.nm) ->
   (dr=true->∀H' own',yY a H' own' b db xr L xt xi xf es (ls.filter λl=>decide (l.nm≠nm)) (L2.without bx nm) mk WI W M n->KB own own' H H'->Q .non H') ->
   (dr=false->∀y H' own',yY a H' own' b db xr L xt xi xf es ((ls.filter λl=>decide (l.nm≠nm))++[#[nm,y,p]]) (L2.without bx nm++[(nm,fo)]) (Y4 mk nm (dd (Xk es nm))) WI W M (n+1)->KB own own' H H'->Q .non H')->ae a vs H Q E
def bJ:T.k ja 8 69 (ae a):=by
 let#[ds,hds,gh]:=T.w9;refine T.ok 69 (λcdv A outer st H vs Q E hr h=>?_)
 .let#[own,b,db,xr,L,xt,xi,xf,es,ls,bx,mk,WI,W,M,n,nm,p,u,fo,dr,U,h,j,hn,v,kD,kN]:=h;let hu:=Yt hr;obtain⟨t1,f,sp1⟩:∃t,vn (T.cx 69 cdv A outer st H E) ((YB (sO 69)).drop 1) t /\
   ∀(H1:Hp)(d:qc->Nat),yY a H1 d b db xr L xt xi xf es (ls.filter λl=>decide (l.nm≠nm)) (L2.without bx nm) mk WI W M n->KB own d H H1 ->
    t {nx:=λ_ H'=>Q .non H',rt:=Q} [@(.ref b),@(.str nm),none] H1:=by
   refine⟨_,(Qc (QE (Qp Lq (WN `A (T 16) (T 42) (Co T) hr.up gh hds UW (q9 (QP (Qh `b (Qh QC Qo))) Qg)) UO) (Qe Lg) Qu)
    (Qc (Qr (i:=2) (sc 69).nd (T.cl (W9 T) (q9 (WN `A (T 16) (T 42) (Co T) hr.up gh hds UW (q9 (QP (Qh `b (Qh QC Qo))) Qg)) Qg)))
    (Qc (Ys hu `A `b `c U)
    (Qc (Qq (T.me `A (T 5) (T 114) (SO T) (q9 `b (q9 `C Qg))))
    (Qc (Qq (T.me `A (T 7) (T 105) (SI T) (q9 `b (q9 (T.mn `c (T 3) (T 93) (Sz T)) Qg))))
    (Qe (Qq (T.me `A (T 2) (T 96) (SM T) (q9 `b (q9 (T.me `A (T 16) (T 42) (Co T) (q9 (QP (Qh `b (Qh QC Qo))) (q9 QC Qg))) (q9 (T.me `a (T 1) (T 122) (eF T) (q9 `b Qg)) Qg))))))))))),λH1 d f kb1=>?_⟩
   let#[C,D,kd,rg,oxr,oF]:=id f.r;let hlen:-(ls.filter λl=>decide (l.nm≠nm))<=n:=by let#[_,_,_,_,_,q,_]:=id f.t;rw[qh] at q;exact q
   erw[0,b,_,db,2,f.e,(T 1),(T 27),U,xr,C,0,rg.obj,4,Y6,λq2 H2 n2 s2 e2=>{xr,C,D,kd,es,q2,[nm,Zk],.non,U,rg.same s2,(by intro z;cases z),e2,λH3 s3=>⟨rfl,_,rfl,?_⟩}];let m:=s2.trans s3
   cases dr with
   |true=>
    let#[z,hz]:=j.d1 rfl;rw[hz];calc Q7 (kD rfl H3 _ (f.quiet m) (kb1.trans (KB.same 7 m)))
   |false=>
    rw[j.d0 rfl];calc QQ {0,b,_,db,2,m _ _ f.e,(T 1),(T 27),U,xr,C,0,m _ _ rg.obj,4,Y6,λq4 H4 n4 s4 e4=>{xr,C,D,kd,es,q4,[nm,Zd],.non,U,rg.same (m.trans s4),(by intro z;cases z),e4,λH5 s5=>?_}};rw[j.pt];let Z:=(m.trans s4).trans s5;erw[u,6,2,Z _ _ (kb1.k _ _ j.tu (.inr (.inr rfl))),j.g,λy H6 ny s6 #[dy,ey]=>?_];let S:=Z.trans s6;let ny1:H1 y=none:=Z.free ny;let k6:yQ d 6 H1 H6:=yQ.of S;let b6:=S _ _ f.e;let o6:QR d 6 H1 b=0:=by rw[Qk f.e];exact f.o
    let r6:=f.r.step k6;let t6:=f.t.step k6;let i6:=f.i.step k6;let f6:=f.f.step k6;let l6:=f.l.same 6 S;let kb6:=kb1.trans (KB.same (own:=d) 6 S);let y6:gu a H6 (QR d 6 H1) y p:={Yx ny1,.inl #[dy,ey]};let yn:¬y∈(ls.filter λl=>decide (l.nm≠nm)).map LE.y:=λhy=>by
     let#[l,hl,e]:=qj.mp hy;let#[o,q]:=(f.l.at_ l hl).1.there;rw[e,ny1] at q;cases q
    let nq:¬nm∈(ls.filter λl=>decide (l.nm≠nm)).map LE.nm:=λhy=>by
     let#[l,hl,e]:=qj.mp hy;exact qL (qG.mp hl).2 e
    generalize QR d 6 H1=I at o6 r6 t6 i6 f6 l6 kb6 y6;let#[l7,J]:=l6.put (l:=#[nm,y,p]) nq yn y6 j.g;erw[5,b,_,db,2,b6,(T 1),(T 11),4,L,0,UL.k (k:=inr nm) l6.e (Ax<|QA ()),?_];let b7:=J _ _ b6 (.inl (by rw[o6];decide));let o7:QR I 5 H6 b=0:=by rw[Qk b6];exact o6
    let r7:=r6.step J;let t7:=t6.step J;let i7:=i6.step J;let f7:=f6.step J;let kb7:=kb6.trans (KB.of J ∅ ∅);let e7:=J _ _ ey (.inl (by rw[y6.1];decide));show VB _ _ _ _ (upd H6 L (.dK (Yz (dG LE.nm (λl=>V.ref l.y) (ls.filter λl=>decide (l.nm≠nm))) (inr nm) (.ref y))));generalize upd H6 L (.dK (Yz (dG LE.nm (λl=>V.ref l.y) (ls.filter λl=>decide (l.nm≠nm))) (inr nm) (.ref y)))=H7 at l7 J b7 r7 t7 i7 f7 kb7 e7⊢;generalize QR I 5 H6=x at o7 l7 r7 t7 i7 f7 kb7;generalize hls:(ls.filter λl=>decide (l.nm≠nm))=ls1 at l7 t7 i7 nq yn;let#[ub,L2',R2',krT,thT,hrl,_,oxt,_]:=id t7;erw[0,b,_,db,2,b7,(T 1),(T 31),U,xt,ub,0,thT.obj,U,5,y,_,dy,2,e7,(T 3),(T 41),U,rest x 1 H7,xt,_,n,nm,p.an,U,t7.thf,hn,Uq.mpr (qI<|nq),λH8 ht _=>?_];let#[t8,k8]:=gs.of oxt {_,thT.obj} ht;let b8:=k8 _ _ b7 (.inl (by rw[o7];decide));let o8:QR x 1 H7 b=0:=by rw[Qk b7];exact o7
    let r8:=r7.step k8;let l8:=l7.step k8;let i8:=i7.step k8;let f8:=f7.step k8;let kb8:=kb7.trans (KB.of k8 ∅ ∅);generalize QR x 1 H7=N at o8 l8 r8 t8 i8 f8 kb8;let hy8:(#[nm,y,p]:LE)∈ls1++[#[nm,y,p]]:=qz _ (qk.mpr rfl);let lt8:=(l8.at_ _ hy8).1;let#[dy8,fy8,ey8]:=lt8.let.at
    let#[Fi,ix,oxi,oFi]:=id i8;let#[dxi,E1,B1,exi]:=ix.obj;erw[0,b,_,db,2,b8,(T 1),(T 43),U,xi,dxi,0,exi,U,5,y,dy8,0,ey8,U,y,6,2,lt8.let,j.g,λlw H9 nlw sx hk e9=>?_];let#[l9,k9]:=l8.words hy8 sx hk;let b9:=k9 _ _ b8 (.inl (by rw[o8];decide));let o9:QR N 6 H8 b=0:=by rw[Qk b8];exact o8
    let r9:=r8.step k9;let t9:=t8.step k9;let i9:=i8.step k9;let f9:=f8.step k9;let kb9:=kb8.trans (KB.of k9 ∅ ∅);generalize QR N 6 H8=O at o9 l9 r9 t9 i9 f9 kb9;let#[Fi9,ix9,oxi9,oFi9]:=id i9;erw[xi,lw,_,WI,n,Fi9,nm,0,ix9,hn,(qI<|nq),e9,j.wi,j.wl,λgw Fi' ix' kF hF=>?_];let#[uC,s]:=ue.own' ix9 oxi9 oFi9 ix' kF hF;let F:=s _ _ b9 (.inl (by rw[o9];decide));let o10:QR O 2 H9 b=0:=by rw[Qk b9];exact o9
    let r10:=r9.step s;let l10:=l9.step s;let t10:=t9.step s;let f10:=f9.step s;let R:=kb9.trans (KB.of s ∅ ∅);generalize QR O 2 H9=B at o10 l10 r10 t10 uC f10 R;let#[X,D10,kd10,Y,_,_]:=id r10;let#[Ff,ff,oxf,oFf]:=id f10;let#[dxf,X1,T1,N1,g8]:=ff.obj;let B10:yY a gw B b db xr L xt xi xf es (ls1++[#[nm,y,p]]) (L2.without bx nm) mk WI W M (n+1):={F,o10,r10,l10,qB<|t10,qB<|uC,#[Ff,ff.up,oxf,oFf]};erw[0,b,_,db,2,F,(T 1),(T 12),U,xf,dxf,0,g8,U,5,b,_,db,2,F,(T 1),(T 27),U,xr,X,0,Y.obj,4,Y6,λq11 H11 n11 s11 e11=>{xr,X,D10,kd10,es,q11,[nm,Zl],.str Zj,U,Y.same s11,(by intro z;cases z),e11,λH12 s12=>?_}];rw[j.pl];let S12:=s11.trans s12;erw[0,b,db,0,S12 _ _ F,4,_,b,db,xr,L,xt,xi,xf,es,9,mk,WI,W,M,n+1,nm,U,B10.quiet S12,j.mk_,j.few,λlm H13 nl s13' e13=>?_];let G:=S12.trans s13';let B13:=B10.quiet G;let wn:¬nm∈(L2.without bx nm).map (·.1):=λhm=>by
     let#[r,hr',e]:=qj.mp hm;exact qL (qG.mp hr').2 e
    erw[xf,lm,_,mk,W,M,n,Ff,nm,fo,0,ff.same G,hn,Uq.mpr wn,j.fw,e13,j.mm,λH14 Ff' fo' kG hG=>?_];let#[f14,k14]:=wJ.own' (own:=QR B 7 gw) (ff.same G) (Qk g8<|oxf) (λc hc=>by let#[fN,e]:=ff.kind hc;rw[Qk e];calc oFf c hc) fo' kG hG;subst hls;exact kN rfl y H14 _ (B13.fold f14 k14) ((R.trans (KB.same 7 G)).trans (KB.of k14 ∅ ∅))
  erw[_,(Qc (QE (Ux (Xj hu `b `A)) (Qe (Qq (T.me `a (T 1) (T 68) (D5 T) (q9 `b Qg)))) Qu) f),?_];by_cases hm:nm∈ls.map LE.nm
  .let#[le,hle,U]:=qj.mp hm;erw[5,b,_,db,2,h.e,(T 1),(T 11),U,L,@(.ref le.y),U,.inl {_,inr le.nm,.inl h.l.e,U,(Q5 (g:=λl=>V.ref l.y) h.l.nd hle).symm},?_];erw[0,Q7 {0,b,db,0,h.e,4,own,b,db,xr,L,xt,xi,xf,es,ls,bx,mk,WI,W,M,n,le.nm,U,h,hm,(v _).mpr hm,λH' d m s=>sp1 H' d m s}]
  .erw[5,b,_,db,2,h.e,(T 1),(T 11),U,L,none,U,.inl {_,inr nm,.inl h.l.e,U,(UK hm).symm},?_];let d:(ls.filter λl=>decide (l.nm≠nm))=ls:=zK.mpr λl hl=>qw λe=>hm (qj.mpr #[l,hl,e]);let q2:L2.without bx nm=bx:=zK.mpr λr hr'=>qw λe=>hm ((v _).mp (qj.mpr #[r,hr',e]));calc{0,QQ (sp1 H own (d<|q2<|h) {λc o e _=>e,λc o _ _=>rfl})}
def VU:Dd->qe
 |.put nm _=>[nm,Zd]
 |.place nm _=>[nm,Zl]
 |.mark nm y _=>[nm,Ze,y]
 |.drop nm=>[nm,Zk]
inductive aa(vs:qa V)(H:Hp)(Q:VK)(E:XK):Prop
 |mk:∀(q:qc)(d:Dd),vs=[.ref q]->gz H q d->(∀k H',H k=none->Qi H H'->H' k=some (.tup ((VU d).map V.str))->Q (.ref k) H')->aa vs H Q E
inductive T3(vs:qa V)(H:Hp)(Q:VK)(E:XK):Prop
 |mk:∀(q:qc)(c:Int)(h:qb)(r:qa V),vs=[.ref q]->H q=some (.tup (.int c::.str h::r))->(∀k H',H k=none->Qi H H'->H' k=some (.tup [.int c,.str h])->Q (.ref k) H')->T3 vs H Q E
def bI:T.k ja 1 16 aa:=by
 sleep 16
 .let#[q,d,U,hd,k]:=h;refine⟨_,(Qc (QE (Qp Yk (Ql Qx `a Qf) QC) (Qe (Qm (QP (Qh (Ql Qx `a Qf) (Qh QC (Qh (Ql Qx `a Qf) Qo)))))) Qu)
   (Qe (Qm (QP (Qh (Ql Qx `a Qf) (Qh (Ql Qx `a Qf) Qo)))))),?_⟩
  cases hd with
  |put e g=>
   calc{0,q,3,z5.of e,Qy (j:=0) rfl,4,uu ∅ {0,q,3,z5.of e,Qy (j:=1) rfl,0,q,3,z5.of e,Qy (j:=0) rfl,Y6,λx H' nx s' b=>k x H' nx s' b}}
  |place e=>
   calc{0,q,3,z5.of e,Qy (j:=0) rfl,4,uu ∅ {0,q,3,z5.of e,Qy (j:=1) rfl,0,q,3,z5.of e,Qy (j:=0) rfl,Y6,λx H' nx s' b=>k x H' nx s' b}}
  |mark e=>
   calc{0,q,3,z5.of e,Qy (j:=0) rfl,4,Tn {0,q,3,z5.of e,Qy (j:=1) rfl,0,q,3,z5.of e,Qy (j:=2) rfl,BW,λx H' nx s' b=>k x H' nx s' b}}
  |drop e=>
   calc{0,q,3,z5.of e,Qy (j:=0) rfl,4,uu ∅ {0,q,3,z5.of e,Qy (j:=1) rfl,0,q,3,z5.of e,Qy (j:=0) rfl,Y6,λx H' nx s' b=>k x H' nx s' b}}
def bC:T.k ja 1 13 T3:=by
 sleep 13
 .let#[q,c,h,r,U,e,k]:=h;erw[_,(Qe (Qm (QP (Qh (Ql Qx `a Qf) (Qh (Ql Qx `a Qf) Qo))))),?_];calc{0,q,3,z5.of e,Qy (j:=0) rfl,0,q,3,z5.of e,Qy (j:=1) rfl,Y6,λx H' nx s' d=>k x H' nx s' d}
def Rp(u:qc):Dd->qa V
 |.put nm _=>[.str Zd,.str nm,.ref u]
 |.place nm a=>[.str Zl,.str nm,.str a]
 |.mark nm y on=>[.str Ze,.str nm,.str y,.bl on]
 |.drop nm=>[.str Zk,.str nm]
def UM(u:qc):Dd->V
 |.put _ _=>.ref u
 |.place _ a=>.str a
 |.mark _ _ on=>.bl on
 |.drop nm=>.str nm
def cj:Dd->qb
 |.put _ _=>Zd
 |.place _ _=>Zl
 |.mark _ _ _=>Ze
 |.drop _=>Zk
structure DU(H:Hp)(q u:qc)(d:Dd):Prop where
 e:H q=@(.tup (Rp u d))
 p:∀nm p,d=.put nm p->H u=@(.tup [.str p.s,.str p.t,.str p.b,.int p.d,.str p.an])
def DU.at(h:DU H q u d):gz H q d:=by
 cases d with
 |put nm p=>calc .put h.e (h.p nm p rfl)
 |place nm a=>calc .place h.e
 |mark nm y on=>calc .mark h.e
 |drop nm=>calc .drop h.e
def Kq(u:qc)(d:Dd):xm (Rp u d) 0=@(V.str (cj d)):=by cases d<;>calc Qy (j:=0) rfl
def Ar(u:qc)(d:Dd):xm (Rp u d) 1=@(V.str d.nm):=by cases d<;>calc Qy (j:=1) rfl
def cg(u:qc)(d:Dd):xm (Rp u d) (-1)=@(UM u d):=by cases d<;>rfl
def U7:Dd->Bool
 |.put _ _=>true
 |_=>false
def XE(d:Dd):decide (cj d=Zd)=U7 d:=by
 cases d with
 |put nm p=>show decide (Zd=Zd)=true;decide +kernel
 |place nm a=>show decide (Zl=Zd)=false;decide +kernel
 |mark nm y on=>show decide (Ze=Zd)=false;decide +kernel
 |drop nm=>show decide (Zk=Zd)=false;decide +kernel
def LU(d:Dd):VU d≠[]:=by cases d<;>calc λz=>nomatch z
def RN.kept{nm:qb}{a:qb}{b:Bool}(h:RN H es nm p u a b WI W M)(k:∀c xs,H c=@(.tup xs)->H' c=@(.tup xs)):RN H' es nm p u a b WI W M:=
 {h.mk_,h.few,h.pt,k _ _ h.tu,h.g,h.wi,h.wl,h.d0,h.d1,h.pl,h.fw,h.mm}
inductive Ob
 |mk:∀(own:qc->Nat)(b db xr L xt xi xf:qc)(es:qa Ent)(ls:qa LE)(bx:Rows)(mk:qb->qe)(WI W M:qe)(n:Nat)(x:qc)(c:Int)(hd:qb)(num:Int)(q u:qc)(d:Dd),vs=[.ref b,.ref x]->yY a H own b db xr L xt xi xf es ls bx mk WI W M n->H x=some (.tup [.int c,.str hd,.int num,.ref q])->DU H q u d->-es<=900->(∀m,m∈bx.map (·.1)↔m∈ls.map LE.nm) ->
   (Vn es (VU d,c,hd,UM u d)=false->∀H' own',yY a H' own' b db xr L xt xi xf (U6 es (VU d,c,hd,UM u d)) ls bx mk WI W M n->KB own own' H H'->Q .non H') ->
   (Vn es (VU d,c,hd,UM u d)=true->∀nm p,d=.put nm p->∃fo dr,RN H (U6 es (VU d,c,hd,UM u d)) nm p u fo dr WI W M/\n<40 /\
     (dr=true->∀H' own',yY a H' own' b db xr L xt xi xf (U6 es (VU d,c,hd,UM u d)) (ls.filter λl=>decide (l.nm≠nm)) (L2.without bx nm) mk WI W M n->KB own own' H H'->Q .non H') /\
     (dr=false->∀y H' own',yY a H' own' b db xr L xt xi xf (U6 es (VU d,c,hd,UM u d)) ((ls.filter λl=>decide (l.nm≠nm))++[#[nm,y,p]]) (L2.without bx nm++[(nm,fo)]) (Y4 mk nm (dd (Xk (U6 es (VU d,c,hd,UM u d)) nm))) WI W M (n+1)->KB own own' H H'->Q .non H')) ->
   (Vn es (VU d,c,hd,UM u d)=true->U7 d=false->dOk W M d/\(d.nm∈ls.map LE.nm->∀H' own',yY a H' own' b db xr L xt xi xf (U6 es (VU d,c,hd,UM u d)) (chL ls d) (chB bx d) (chM mk d) WI W M n->KB own own' H H'->Q .non H') /\
     (¬d.nm∈ls.map LE.nm->∀H' own',yY a H' own' b db xr L xt xi xf (U6 es (VU d,c,hd,UM u d)) ls bx mk WI W M n->KB own own' H H'->Q .non H'))->Ob a vs H Q E
def SD:T.k ja 9 68 (Ob a):=by
 refine T.ok 68 (λcdv A outer st H vs Q E hr h=>?_)
 .let#[own,b,db,xr,L,xt,xi,xf,es,ls,bx,mk,WI,W,M,n,x,c,hd,num,q,u,d,U,h,hx,t,C,r,k0,k1,k2]:=h;let hu:=Yt hr;refine⟨_,(Qc (Qr (i:=2) (sc 68).nd (Ql Qx `b Qf))
   (Qc (QE (YQ (YD (T.me `A (T 16) (T 110) (SH T) (q9 (T.cl (bI T) (q9 `c Qg)) (q9 (T.cl (bC T) (q9 `b Qg)) (q9 (Ql Qx `c (OU Fg Qf)) Qg)))))) (Qe Lg) Qu)
   (Qe (QE (Qp Yk (Ql Qx `c Qf) QC) (Qe (Qq (T.me `a (T 1) (T 121) (bJ T) (q9 (Ql Qx `c Qf) Qg)))) (Qe (QE (Ux (Xj hu (Ql Qx `c Qf) `A)) (Qe (Qq (T.me `a (T 1) (T 123) (bK T) (q9 `c Qg)))) Qu)))))),?_⟩
  let#[F,D,kd,G,S,oF]:=id h.r;erw[0,x,3,z5.of hx,Qy (j:=3) rfl,?_];erw[0,b,_,db,2,h.e,(T 1),(T 27),U,xr,F,0,G.obj,4,q,d,U,t.at,λkp H1 nk s1 ek=>?_];erw[0,x,c,hd,0,s1 _ _ hx,λsp H2 ns s2 X=>?_];let s:=s1.trans s2;let Y:QR own 7 H xr=0:=by rw[Qk G.obj];exact S
  let Z:∀c,FP D kd c->QR own 7 H c=4:=λc hc=>by let#[fN,e]:=G.fp hc;rw[Qk e];exact oF c hc
  let v:=h.quiet s;erw[5,q,3,z5.of (s _ _ t.e),cg u d,xr,F,D,kd,es,kp,sp,VU d,c,hd,UM u d,U,G.same s,C,LU d,s2 _ _ ek,X,λkd' I rg' kk hF=>{0,?_}];let#[r3,B]:=uL.own' (G.same s) Y Z rg' kk hF;let o:yY a I (QR (QR own 7 H) 4 H2) b db xr L xt xi xf (U6 es (VU d,c,hd,UM u d)) ls bx mk WI W M n:={B _ _ v.e (.inl (by rw[v.o];decide)),Qk v.e<|v.o,r3,v.l.step B,v.t.step B,v.i.step B,v.f.step B};let k:KB own (QR (QR own 7 H) 4 H2) H I:=(KB.same 7 s).trans (KB.of B ∅ ∅);let kt:∀c xs,H c=@(.tup xs)->I c=@(.tup xs):=λc xs e=>k.k _ _ e (.inr (.inr rfl));generalize QR (QR own 7 H) 4 H2=m at o k;let O:=kt _ _ t.e
  cases hk:Vn es (VU d,c,hd,UM u d) with
  |false=>calc Q7 (k0 hk I m o k)
  |true=>
   calc QQ {0,q,3,z5.of O,Kq u d,4,?_};rw[Wh,XE]
   cases R:U7 d with
   |true=>
    cases d with
    |put nm p=>
     let#[fo,dr,hI,hn,j1,j2]:=k1 hk nm p rfl;calc Q7 {0,b,db,0,o.e,4,q,3,z5.of O,Ar u (.put nm p),m,b,db,xr,L,xt,xi,xf,_,ls,bx,mk,WI,W,M,n,nm,p,u,fo,dr,U,o,hI.kept kt,hn,r,λz H' f J N=>j1 z H' f J (k.trans N),λz y H' f J N=>j2 z y H' f J (k.trans N)}
    |place nm fo=>cases R
    |mark nm y on=>cases R
    |drop nm=>cases R
   |false=>
    let#[dk,j1,j2]:=k2 hk R;by_cases hm:d.nm∈ls.map LE.nm
    .let#[le,hle,en]:=qj.mp hm;calc QQ {0,q,3,z5.of O,Ar u d,0,b,_,db,2,o.e,(T 1),(T 11),U,L,@(.ref le.y),U,.inl {_,inr d.nm,.inl o.l.e,U,by rw[<-en];calc(Q5 (g:=λl=>V.ref l.y) o.l.nd hle).symm},_,U,Q7 ?_};exact{0,b,db,0,o.e,4,m,b,db,xr,L,xt,xi,xf,_,ls,bx,mk,WI,W,M,n,q,d,U,o,t.at.tups kt,dk,hm,(r _).mpr hm,λH' f J N=>j1 hm H' f J (k.trans N)}
    .refine QQ {0,q,3,z5.of O,Ar u d,0,b,_,db,2,o.e,(T 1),(T 11),U,L,none,U,.inl {_,inr d.nm,.inl o.l.e,U,(UK hm).symm},0,QQ ?_};calc j2 hm I m o k
def hS:qb:="abcdefghijklmnopqrstuvwxyz"
structure U3(x:qb):Prop where
 lo:(1:Int)<=(-x:Int)
 hi:(-x:Int)<=8
 vh:(x.cps.toList.all λc=>decide (c∈hS.cps.toList))=true
structure VA(d:Dd):Prop where
 n:isW d.nm=true/\-d.nm<=1000
 p:∀nm p,d=.put nm p->VI p.s p.t p.b p.d p.an
 f:∀nm fo,d=.place nm fo->isW fo=true/\-fo<=1000
 m:∀nm y on,d=.mark nm y on->isW y=true/\-y<=1000
inductive IE(vs:qa V)(H:Hp)(Q:VK)(E:XK):Prop
 |mk:∀(x:qb),vs=[.str x]->U3 x->(∀H',Qi H H'->Q (.bl true) H')->IE vs H Q E
inductive C9(vs:qa V)(H:Hp)(Q:VK)(E:XK):Prop
 |mk:∀(u:qc)(p:LD),vs=[.ref u]->H u=some (.tup [.str p.s,.str p.t,.str p.b,.int p.d,.str p.an])->VI p.s p.t p.b p.d p.an->(∀H',Qi H H'->Q (.bl true) H')->C9 vs H Q E
inductive Dp(vs:qa V)(H:Hp)(Q:VK)(E:XK):Prop
 |mk:∀(i:Int),vs=[.int i]->1<=i->Q (.bl true) H->Dp vs H Q E
inductive IJ(vs:qa V)(H:Hp)(Q:VK)(E:XK):Prop
 |mk:∀(q u:qc)(d:Dd),vs=[.ref q]->DU H q u d->VA d->(∀H',Qi H H'->Q (.bl true) H')->IJ vs H Q E
inductive C5(vs:qa V)(H:Hp)(Q:VK)(E:XK):Prop
 |mk:∀(x q u:qc)(c n:Int)(hd:qb)(d:Dd),vs=[.ref x]->H x=some (.tup [.int c,.str hd,.int n,.ref q])->1<=c->1<=n->U3 hd->DU H q u d->VA d->(∀H',Qi H H'->Q (.bl true) H')->C5 vs H Q E
def Rj(f g:qb)(n m:Int):PyData.eqv (.tuple [.str f,.int n]) (.tuple [.str g,.int m])=(decide (f=g)&&decide (n=m)):=by
 let e:PyData.eqv (.tuple [.str f,.int n]) (.tuple [.str g,.int m])=(decide (f=g)&&(decide (n=m)&&true)):=rfl;rw[e,Bool.and_true]
def KN{f:qb}(n:Int)(h:ya f):SeqAt.shaped (.tuple [.str f,.int n])=true:=by
 unfold SeqAt.shaped;have:=(Ws (xs:=[f]) λy a=>qk.mp a<|h).1;let e:(PyData.canLay0 (.str f)&&true)=true:=this;rw[Bool.and_true] at e;let b:PyData.canLay0 (.tuple [.str f,.int n])=(PyData.canLay0 (.str f)&&(true&&true)):=rfl;rw[b,e];rfl
def Uu(h:(x.cps.toList.all λc=>decide (c<128))=true:=by decide +kernel):ya x:=λc hc=>qL (zu.mp h c hc)
def Vr:∀d:Dd,ya (cj d)
 |.put _ _=>Uu (x:=Zd)
 |.place _ _=>Uu (x:=Zl)
 |.mark _ _ _=>Uu (x:=Ze)
 |.drop _=>Uu (x:=Zk)
def M8{f g:qb}{b:Bool}{A B:Prop}(h:decide (f=g)=false)(k:B):if (decide (f=g)&&b)=true then A else B:=by rw[h];calc QQ k
def V8{p:qc}{f g:qb}{n m:Int}(h0:Z[1]?=@(@(.ref p)))(a:H p=@(.tup [.str f,.int n]))(hf:ya f)(b:ya g)(k:∀H',Qi H H'->Q (.bl (decide (f=g)&&decide (n=m))) H') :
 tOp (bb K) (aP 1) (aQ (CZ (tC (.str g)) (CZ (tC (.int m)) Mi))) Z H Q:=by
 erw[_,h0,Y6,λq c=>?_];let s1:Qi H (upd H q (.tup [.str g,.int m])):=Qi.zg c;erw[9,.tup (z5.of (s1 _ _ a)) (.cons (.str f) (.cons (.int n) .nil)),.tup (z5.of Qd) (.cons (.str g) (.cons (.int m) .nil)),KN n hf,KN m b,?_];rw[Rj];calc k _ s1
def at0{x:V} :xm (x::xs) 0=some x:=Qy (j:=0) rfl
def at1{x y:V} :xm (x::y::xs) 1=some y:=Qy (j:=1) rfl
def at2{x y z:V} :xm (x::y::z::xs) 2=some z:=Qy (j:=2) rfl
def wx{x y z u:V} :xm (x::y::z::u::xs) 3=some u:=Qy (j:=3) rfl
def fA:Dd->Int
 |.put _ _=>3
 |.place _ _=>3
 |.mark _ _ _=>4
 |.drop _=>2
def LS(u:qc)(d:Dd):(-(Rp u d):Int)=fA d:=by cases d<;>rfl
def DU.mono(h:DU H q u d)(s:∀c xs,H c=@(.tup xs)->H' c=@(.tup xs)):DU H' q u d:={s _ _ h.e,λnm p e=>s _ _ (h.p nm p e)}
def D2:T.k ja 2 8 IE:=by
 sleep 8
 .let#[x,U,b,k]:=h;erw[_,(Qe (Qm (UP (Qn QY rfl (T 10) boot_isinstance (q9 `a (q9 (YX (v:=.ty "str") rfl (T 18) boot_str rfl) Qg))) (UP (DP KO KO Qf (Qn Wb rfl (T 4) zf (q9 `a Qg)) (XJ rfl (T 88))) (Vl (T.cl (D7 T) (q9 `a (q9 (XJ rfl (T 87)) Qg)))))))),?_];let e:=b.hi;erw[0,9,3,.str x,BE,0,Q7 {0,x,U,QT (),2,4,?_}];rw[qw b.lo];calc Q7 {2,4,?_};rw[qw b.hi];calc Q7 {0,x,hS,U,(),λH' s'=>b.vh<|k H' s'}
def MF:T.k ja 8 9 C9:=by
 sleep 9
 .let#[u,p,U,c,g,k]:=h;refine⟨_,(Qc (bg (λ_ _ z=>z) (Qe (Qq (T.cl (W9 T) (q9 `a Qg)))))
   (Qe (Qm Y1))),?_⟩
  calc{0,u,6,2,c,g,λx H' nx s' _=>k H' s'}
def Bv:T.k ja 2 11 Dp:=by
 sleep 11
 .let#[i,U,hi,k]:=h;erw[_,(Qe (Qm (UP (T.cl (KR T) (q9 `a Qg)) (Vl (YI ee `a Qf))))),?_];erw[0,i,4,Q7 {8,?_}];rw[qw hi];calc k
def Pk:T.k ja 9 10 IJ:=by
 refine T.ok 10 (λx A outer s H vs Q E z h=>?_)
 .let#[q,u,d,U,o,j,k]:=h;let b:=z.units;refine⟨_,(Qc (QE (PW.pt (We (YQ (YD (Qn QY rfl (T 10) boot_isinstance (q9 `a (q9 (YX (v:=.ty "tuple") rfl (T 36) boot_tuple rfl) Qg))))) (We (Qp DQ (Qn Qz rfl (T 4) zf (q9 `a Qg)) Qf) (We (YQ (YD (Qn QY rfl (T 10) boot_isinstance (q9 (Ql Qx `a Qf) (q9 (YX (v:=.ty "str") rfl (T 18) boot_str rfl) Qg))))) (V2 (YQ (YD (T.cl (Ve T) (q9 (Ql Qx `a Qf) Qg))))))))) (Qe (Qm Y1)) Qu)
   (Qc (Qr (i:=1) (sc 10).nd (QP (Qh (Ql Qx `a Qf) (Qh (Qn Qz rfl (T 4) zf (q9 `a Qg)) Qo))))
   (Qc (QE (Qp (GR b) `b (Va (Qh QC (Qh Qf Qo)))) (Qe (Qm (T.cl (MF T) (q9 (Ql Qx `a Qf) Qg)))) Qu)
   (Qc (QE (Qp (GR b) `b (Va (Qh QC (Qh Qf Qo)))) (Qe (Qm (T.cl (Ve T) (q9 (Ql Qx `a Qf) Qg)))) Qu)
   (Qc (QE (Qp (GR b) `b (Va (Qh QC (Qh Qf Qo)))) (Qe (Qm (UP (T.cl (Ve T) (q9 (Ql Qx `a Qf) Qg)) (Vl (Qn QY rfl (T 10) boot_isinstance (q9 (Ql Qx `a Qf) (q9 (YX (v:=.ty "bool") rfl (T 53) boot_bool rfl) Qg))))))) Qu)
   (Qe (Qm (YI (GR b) `b (Va (Qh QC (Qh Qf Qo))))))))))),?_⟩
  let e:=o.e;erw[0,9,3,.tup e,PH,0,QQ {0,q,0,.inr (z5.of e),2,4,?_}];rw[LS,show decide (fA d<2)=false by cases d<;>rfl];calc QQ {0,q,3,z5.of e,Kq u d,9,3,.str _,BE,0,QQ {0,q,3,z5.of e,Ar u d,.inl {0,j.n.2,λH1 s1=>{0,?_}}}};rw[j.n.1];let r:=s1 _ _ e;calc QQ {0,q,3,z5.of r,Kq u d,0,q,0,.inr (z5.of r),Y6,λf H2 D s2 g=>?_};rw[LS] at g;let n:=s1.trans s2;calc V8 (K:=K) rfl g (Vr d) Uu λF s3=>{0,?_};let c:=n.trans s3;let l:=c _ _ e
  cases d with
  |put nm p=>calc Q7 {0,q,3,z5.of l,at2,u,p,U,c _ _ (o.p nm p rfl),j.p nm p rfl,λH' s'=>k _ (c.trans s')}
  |place nm m=>
   calc M8 (f:=Zl) ∅ (V8 (K:=K) rfl (s3 _ _ g) (Vr (.place nm m)) Uu λt s4=>{0,?_});let#[f1,f2]:=j.f nm m rfl;calc Q7 {0,q,3,z5.of (s4 _ _ l),at2,.inl {0,f2,λH' s'=>f1<|k _ ((c.trans s4).trans s')}}
  |mark nm y on=>
   calc M8 (f:=Ze) ∅ (V8 (K:=K) rfl (s3 _ _ g) (Vr (.mark nm y on)) Uu λt s4=>{0,?_});calc M8 (f:=Ze) ∅ (V8 (K:=K) rfl (s4 _ _ (s3 _ _ g)) (Vr (.mark nm y on)) Uu λB s5=>{0,?_});let#[f1,f2]:=j.m nm y on rfl;calc Q7 {0,q,3,z5.of (s5 _ _ (s4 _ _ l)),at2,.inl {0,f2,λC m=>{0,?_}}};rw[f1];calc Q7 {0,q,3,z5.of (m _ _ (s5 _ _ (s4 _ _ l))),wx,9,3,.bl on,eZ,k _ (((c.trans s4).trans s5).trans m)}
  |drop nm=>
   calc M8 (f:=Zk) ∅ (V8 (K:=K) rfl (s3 _ _ g) (Vr (.drop nm)) Uu λt s4=>{0,?_});calc M8 (f:=Zk) ∅ (V8 (K:=K) rfl (s4 _ _ (s3 _ _ g)) (Vr (.drop nm)) Uu λB s5=>{0,?_});calc M8 (f:=Zk) ∅ (V8 (K:=K) rfl (s5 _ _ (s4 _ _ (s3 _ _ g))) (Vr (.drop nm)) Uu λC m=>k _ (((c.trans s4).trans s5).trans m))
def MB:T.k ja 10 12 C5:=by
 sleep 12
 .let#[x,q,u,c,n,hd,d,U,e,hc,f,g,i,j,k]:=h;refine⟨_,(Qc (QE (PW.pt (We (YQ (YD (Qn QY rfl (T 10) boot_isinstance (q9 `a (q9 (YX (v:=.ty "tuple") rfl (T 36) boot_tuple rfl) Qg))))) (V2 (Qp UX (Qn Qz rfl (T 4) zf (q9 `a Qg)) Qf)))) (Qe (Qm Y1)) Qu)
   (Qe (Qm (UP (T.cl (Bv T) (q9 (Ql Qx `a Qf) Qg)) (UP (T.cl (D2 T) (q9 (Ql Qx `a Qf) Qg)) (UP (T.cl (Bv T) (q9 (Ql Qx `a Qf) Qg)) (Vl (T.cl (Pk T) (q9 (Ql Qx `a Qf) Qg))))))))),?_⟩
  erw[0,9,3,.tup e,PH,0,QQ {0,x,0,.inr (z5.of e),4,QQ ?_}];erw[0,x,3,z5.of e,at0,c,U,hc,0,Q7 {0,x,3,z5.of e,at1,hd,U,g,λH1 s1=>{0,Q7 {0,x,3,z5.of (s1 _ _ e),at2,n,U,f,0,Q7 {0,x,3,z5.of (s1 _ _ e),wx,q,u,d,U,i.mono (λc xs z=>s1 _ _ z),j,λH2 s2=>k _ (s1.trans s2)}}}}]
def K8:∀n:Nat,n<202->-(Str.ofString (toString (n:Int)))<=3/\1<=-(Str.ofString (toString (n:Int)))/\((Str.ofString (toString (n:Int))).cps.toList.all λc=>decide (c∈aZ.cps.toList))=true:=by decide +kernel
structure Lr where
 x:qc
 p:qc
 u:qc
 d:Dd
variable {rs:qa Lr}
structure Nx(H:Hp)(hd:qb)(i:Nat)(r:Lr):Prop where
 e:H r.x=@(.tup [.int ((i:Nat)+1:Int),.str hd,.int ((i:Nat)+1:Int),.ref r.p])
 du:DU H r.p r.u r.d
def Nx.tups{r:Lr}(h:Nx H hd i r)(k:∀c xs,H c=@(.tup xs)->H' c=@(.tup xs)):Nx H' hd i r:={k _ _ h.e,h.du.mono k}
def YK(rs:qa Lr):Nat:=-(rs.filter λr=>U7 r.d)
def Uh(hd:qb)(rs:qa Lr):qb:=hd++Str.ofString (toString ((YK rs+1:Nat):Int))
def okN(hd:qb)(rs:qa Lr)(d:Dd):Prop:=U7 d=true->d.nm=Uh hd rs
inductive Gr(vs:qa V)(H:Hp)(Q:VK)(E:XK):Prop
 |mk:∀(x:qc)(c h d:V)(n:Int),vs=[.ref x]->H x=some (.tup [c,h,.int n,d])->Q (.int n) H->Gr vs H Q E
inductive Dr(K:Frag)(vs:qa V)(H:Hp)(Q:VK)(E:XK):Prop
 |mk:∀(l:qc)(hd:qb)(rs:qa Lr),vs=[.str hd,.ref l]->zm K H l (rs.map λr=>V.ref r.x)->U3 hd->-rs<=63->(∀i r,rs[i]?=some r->Nx H hd i r)->(∀H',Qi H H'->Q (.str (hd++Str.ofString (toString ((YK rs+1:Nat):Int)))) H')->Dr K vs H Q E
def ke(hd:qb)(sh:qc)(rs:qa Lr):qa (Key×V):=if rs=[] then [] else [(inr hd,.ref sh)]
structure Xs(a:jg)(H:Hp)(l S sh:qc)(hd:qb)(rs:qa Lr):Prop where
 e:∃dl,H l=@(.ins (a 120) dl [(Zg,.str hd),(Zm,.ref S)])
 s:∃oa,H S=@(.jM oa (.dK (ke hd sh rs)))
 l:rs≠[]->H sh=@(.lst (rs.map λr=>V.ref r.x))
 r:∀i r,rs[i]?=some r->Nx H hd i r
def Xs.sx{S sh:qc}(h:Xs a H l S sh hd rs)(s:Qi H H'):Xs a H' l S sh hd rs:=
 {let ⟨dl,e⟩:=h.e;{dl,s _ _ e},(let ⟨o,e⟩:=h.s;{o,s _ _ e}),λn=>s _ _ (h.l n),λi r e=>(h.r i r e).tups λc xs q=>s _ _ q}
def Xs.rd{S sh:qc}(h:Xs a H l S sh hd rs)(s:Qi H H'):Rd H' S (.dK (ke hd sh rs)):=.inr (let ⟨o,e⟩:=h.s;{o,s _ _ e})
inductive Ba(vs:qa V)(H:Hp)(Q:VK)(E:XK):Prop
 |mk:∀(l x q u:qc)(c n:Int)(hd:qb)(d:Dd),vs=[.ref l]->H l=some (.lst [.ref x])->H x=some (.tup [.int c,.str hd,.int n,.ref q])->1<=c->1<=n->U3 hd->DU H q u d->VA d->(∀H',Qi H H'->Q .non H')->Ba vs H Q E
inductive IL(K:Frag)(vs:qa V)(H:Hp)(Q:VK)(E:XK):Prop
 |mk:∀(x l p u:qc)(hd:qb)(rs:qa Lr)(d:Dd),vs=[.ref x,.ref l]->H x=some (.tup [.int ((-rs:Nat)+1:Int),.str hd,.int ((-rs:Nat)+1:Int),.ref p])->DU H p u d->zm K H l (rs.map λr=>V.ref r.x)->U3 hd->-rs<=62->(∀i r,rs[i]?=some r->Nx H hd i r)->okN hd rs d->(∀H',Qi H H'->Q .non H')->IL K vs H Q E
inductive IA
 |mk:∀(x dx:qc)(hd:qb),vs=[.ref x,.str hd]->H x=some (.ins (a 120) dx [])->U3 hd->(∀S H',SX x H H'->H' x=some (.ins (a 120) dx [(Zg,.str hd),(Zm,.ref S)])->H' S=some (.dK [])->H S=none->Q .non H')->IA a vs H Q E
inductive Im(K:Frag)(a:jg)(vs:qa V)(H:Hp)(Q:VK)(E:XK):Prop
 |mk:∀(l S sh:qc)(hd:qb)(rs:qa Lr),vs=[.ref l,.str hd]->Xs a H l S sh hd rs->(∀z H',Qi H H'->zm K H' z (rs.map λr=>V.ref r.x)->Q (.ref z) H')->Im K a vs H Q E
inductive Gq(vs:qa V)(H:Hp)(Q:VK)(E:XK):Prop
 |mk:∀(x:qc)(c:Int)(hd:qb)(n d:V),vs=[.ref x]->H x=some (.tup [.int c,.str hd,n,d])->(∀t H',Qi H H'->H' t=some (.tup [.int c,.str hd])->Q (.ref t) H')->Gq vs H Q E
inductive Ii
 |mk:∀(l S sh pl x p u:qc)(hd:qb)(rs:qa Lr)(d:Dd),vs=[.ref l,.ref pl]->Xs a H l S sh hd rs->U3 hd->-rs<=60->H pl=some (.lst [.ref x])->H x=some (.tup [.int ((-rs:Nat)+1:Int),.str hd,.int ((-rs:Nat)+1:Int),.ref p])->DU H p u d->VA d->okN hd rs d ->
   (∀t S' sh' fl H',Qi H H'->H S'=none->H sh'=none->H' t=@(.tup [.ref S',.ref fl])->H' S'=@(.dK [(inr hd,.ref sh')])->H' sh'=@(.lst (rs.map (λr=>V.ref r.x)++[.ref x]))->H' fl=@(.lst [.ref x])->Q (.ref t) H')->Ii a vs H Q E
inductive Ik
 |mk:∀(l S sh pl x p u:qc)(hd:qb)(rs:qa Lr)(d:Dd),vs=[.ref l,.ref pl]->Xs a H l S sh hd rs->U3 hd->-rs<=60->H pl=some (.lst [.ref x])->H x=some (.tup [.int ((-rs:Nat)+1:Int),.str hd,.int ((-rs:Nat)+1:Int),.ref p])->DU H p u d->VA d->okN hd rs d ->
   (∀fl S' sh' H',SX l H H'->H S'=none->H sh'=none->Xs a H' l S' sh' hd (rs++[#[x,p,u,d]])->Q (.ref fl) H')->Ik a vs H Q E
inductive dC
 |mk:∀(l S sh p u:qc)(hd:qb)(rs:qa Lr)(d:Dd),vs=[.ref l,.ref p]->Xs a H l S sh hd rs->U3 hd->-rs<=60->DU H p u d->VA d->okN hd rs d ->
   (∀x S' sh' H',H x=none->SX l H H'->H S'=none->H sh'=none->Xs a H' l S' sh' hd (rs++[#[x,p,u,d]])->Q (.ref x) H')->dC a vs H Q E
def bc{sh a:qc} :Yz (ke hd sh rs) (inr hd) (V.ref a)=[(inr hd,V.ref a)]:=by
 unfold ke;split
 .rfl
 .unfold Yz;simp
def DY:T.k ja 1 17 Gr:=by
 sleep 17
 .let#[x,c,h,d,n,U,e,q]:=h;erw[_,(Qe (Qm (Ql Qx `a Qf))),?_];calc{0,x,3,z5.of e,at2,q}
def Bw:T.k ja 1 18 (Dr K):=by
 refine T.ok 18 (λd A outer s H vs Q E b h=>?_)
 .let#[l,hd,rs,U,hS,f,g,c,k]:=h;refine⟨_,(Qc (Vk (sc:=Qs (sO 18)) (N:=(nn 18)) (i:=2) (fr:=[]) (xV rfl rfl) rfl rfl rfl (sc 18).nd U rfl (QI `b) (λ_ _ _ _=>YW (Qp Yk (Ql (Ue K) (Ql (Ue K) `a Qf) Qf) QC)) (λ_ _ _ _=>`a))
   (Qe (Qm (Qv Q8 `a (YC Vc rfl (T 18) boot_str (q9 (Qv Yb (Qn Qz rfl (T 4) zf (q9 `c Qg)) Qf) Qg)))))),?_⟩
  erw[0,l,U,{_,hS},U1 (K:=K) (xs:=rs) (λr=>V.ref r.x) (λr=>U7 r.d) (λr=>V.ref r.x) (QT ()) hS (λr j Q' b s3 q=>?_) (λr j Q' b s3 _ q=>{0,q}) λD m=>?_]
  .let#[i,hi]:=List.mem_iff_getElem?.mp b;let at_:=c i r hi;erw[0,r.x,3,z5.of (s3 _ _ at_.e),wx,r.p,3,z5.of (s3 _ _ at_.du.e),Kq _ _,4,?_];rw[Wh,XE];exact q
  .have n:YK rs<=-rs:=qP _ _;let#[o,p,_]:=K8 (YK rs+1) ();let e:((-((rs.filter λr=>U7 r.d).map λr=>V.ref r.x):Nat):Int)+1=((YK rs+1:Nat):Int):=by rw[qh];rfl
   erw[5,D,0,.inl (zm.of Qd),2,4,?_,hd,_,7,?_,?_]
   .rw[e,xH];exact jk (kP _) ()
   .rw[e];have:=f.hi;exact QT ()
   .rw[e];calc k _ (Qi.zg m)
def FY:T.k ja 11 19 Ba:=by
 sleep 19
 .let#[l,x,q,u,c,n,hd,d,U,b,ex,hc,g,i,j,m,k]:=h;erw[_,(Qe (QE (PW.pt (We (YQ (YD (Qn QY rfl (T 10) boot_isinstance (q9 `a (q9 (YX (v:=.ty "list") rfl (T 19) boot_list rfl) Qg))))) (V2 (YQ (YD (Qn (AD rfl) rfl (T 47) boot_all (q9 (Yh (sc:=Qs (sO 19)) (N:=(nn 19)) (fr:=[]) (xV rfl rfl) rfl rfl rfl (QI `a) (λ_ _ _ _=>Ud) (λ_ _ _ _=>(T.cl (MB T) (q9 `a Qg)))) Qg))))))) (Qe YE) Qu)),?_];erw[0,9,3,.lst b,PJ,0,QQ ?_];erw[0,l,U,{_,zm.of b},Ye (K:=K) (xs:=[x]) V.ref (λ_=>true) (λ_=>V.bl true) Ma (zm.of b) (λy o Q' _ _ k=>k _ (Qi.refl _)) (λy o Q' hm s3 _ k=>?_) λD H2 r s2 e=>?_]
  .rw[qk.mp hm];exact{0,x,q,u,c,n,hd,d,U,s3 _ _ ex,hc,g,i,j.mono (λc xs z=>s3 _ _ z),m,λt s4=>k _ s4}
  .have e:H2 D=@(.lst ([true].map V.bl)):=e;calc{D,0,zm.of e,0,QQ (k _ s2)}
def Pl:T.k ja 2 20 (IL K):=by
 sleep 20
 .let#[x,l,p,u,hd,rs,d,U,ex,j,hS,n,o,c,f,k]:=h;refine⟨_,(Qc (QE (Qp UX (Ql Qx `a Qf) (Qv Yb (Qn Qz rfl (T 4) zf (q9 `b Qg)) Qf)) (Qe YE) Qu)
   (Qc (QE (PW.pt (Kf (XG `b (λ_=>rfl)) (WL (Qp KO (Ql Qx `a Qf) (Ql Qx (Ql Qw `b (OU Fg Qf)) Qf))))) (Qe YE) Qu)
   (Qc (Qr (i:=2) (sc 20).nd (Ql Qx `a Qf))
   (Qe (QE (PW.pt (Kf (Qp Yk (Ql Qx `c Qf) QC) (WL (Qp UX (Ql Qx `c Qf) (T.cl (Bw T) (q9 (Ql Qx `a Qf) (q9 `b Qg))))))) (Qe YE) Qu))))),?_⟩
  erw[0,x,3,z5.of ex,at2,0,l,0,.inl hS,1,4,?_];rw[show(!(decide) (V.int ((-rs:Nat)+1:Int)=V.int (((-(rs.map λr=>V.ref r.x):Nat):Int)+1)))=false by rw[qh,qw rfl];rfl];calc QQ ?_;dsimp only[NP];calc QZ (t:=VM _ _ _) λN q=>?_;let rest:N [@(.ref x),@(.ref l),none] H:=by
   subst q;erw[0,x,3,z5.of ex,wx,?_];erw[0,p,3,z5.of j.e,Kq u d,4,?_];rw[Wh,XE]
   cases b:U7 d with
   |false=>calc QQ (QQ (k _ (Qi.refl _)))
   |true=>
    calc Q7 {0,p,3,z5.of j.e,Ar u d,0,x,3,z5.of ex,at1,0,l,hd,rs,U,hS,n,(),c,λH' s'=>{4,?_}};rw[f b,show(!(decide) (V.str (Uh hd rs)=V.str (hd++Str.ofString (toString ((YK rs+1:Nat):Int)))))=false by unfold Uh;rw[qw rfl];rfl];exact QQ (k _ s')
  obtain e|⟨b,r,e⟩:=List.eq_nil_or_concat rs
  .exact{0,false,.inl {_,hS,by rw[e];rfl},QQ (QQ rest)}
  .have g:rs[-b]?=some r:=by rw[e,jL];simp
   let at_:=c _ _ g;let em:rs.map (λr=>V.ref r.x)=b.map (λr=>V.ref r.x)++[V.ref r.x]:=by rw[e,jL,qB];rfl
   let y:-rs=-b+1:=by rw[e,jL,qo];rfl
   erw[0,true,.inl {_,hS,by rw[em];simp},Q7 {0,x,3,z5.of ex,at0,5,l,3,hS,(em<|E5 _ _),r.x,3,z5.of at_.e,at0,2,4,?_}];rw[show decide (((-rs:Nat):Int)+1<=((-b:Nat):Int)+1)=false from qK ()];calc QQ rest
def Pb:T.k ja 3 76 (IA a):=by
 sleep 76
 .let#[x,dx,hd,U,ex,k,l]:=h;refine⟨_,(Qc (QE (YQ (YD (T.cl (D2 T) (q9 `b Qg)))) (Qe YE) Qu)
   (Qc (Q6 `a `b U)
   (Qe (Q6 `a Q0 rfl)))),?_⟩
  erw[0,hd,U,k,λH1 s1=>{0,QQ ?_}];dsimp only[NP];let d:=s1 _ _ ex;erw[5,x,_,dx,0,d,(T 6),(T 34),∅,?_];intro S f;let g:x≠S:=Qb Qd f;erw[0,x,_,dx,0,(Qa g<|Qd),(T 6),(T 22),(by show 1<1000;decide),?_];let b:H1 S=none:=by rw[Qa g.symm] at f;exact f
  calc l S _ (λc o n e=>?_) Qd (Qa g.symm<|Qd) (s1.free b);let i:=s1 _ _ e;rw[Qa n,Qa (Qb i b),Qa n];calc i
def DS:T.k ja 1 77 (Im K a):=by
 refine T.ok 77 (λd A outer s H vs Q E e h=>?_)
 .let#[l,S,sh,hd,rs,U,c,k]:=h;let f:=Yt e;let#[dl,g]:=c.e;erw[_,(Qe (Qm (Y8 f `A `b (QN Qo) #[U,U,U,U]))),?_];erw[0,l,_,dl,2,g,(T 6),(T 22),U,S,U,.inl {_,c.rd (Qi.refl _)},0,qR _,λz H1 j s1 i=>?_];by_cases b:rs=[]
  .subst b;exact{none,.inl {_,inr hd,c.rd s1,7},k z _ s1 (zm.of i)}
  .erw[@(.ref sh),.inl {_,inr hd,c.rd s1,U,?_},k sh _ s1 (zm.of (s1 _ _ (c.l b)))];unfold ke;rw[qC b];show @(V.ref sh)=QB [(inr hd,V.ref sh)] (inr hd);unfold QB;simp
def KQ:T.k ja 1 13 Gq:=by
 sleep 13
 .let#[x,c,hd,n,d,U,e,k]:=h;erw[_,(Qe (Qm (QP (Qh (Ql Qx `a Qf) (Qh (Ql Qx `a Qf) Qo))))),?_];calc{0,x,3,z5.of e,at0,0,x,3,z5.of e,at1,Y6,λt H1 i s1 f=>k t H1 s1 f}
def O1:T.k ja 12 81 (Ii a):=by
 refine T.ok 81 (λcdv A outer s H vs Q E hr h=>?_)
 .let#[l,S,sh,pl,x,p,u,hd,rs,d,U,lg,hh,h60,M,ex,du,dg,okn,kg]:=h;let hu:=Yt hr;let#[dl,el]:=lg.e;refine⟨_,(Qc (Qq (T.cl (FY T) (q9 `b Qg)))
   (Qc (Qr (i:=2) (sc 81).nd (YC HC rfl (T 91) PyProof.Rows.boot_dict (q9 `A Qg)))
   (Qc (Qr (i:=3) (sc 81).nd (QN Qo))
   (Qc (YA zl rfl (QI (GO (DY T) hr.up rfl (T 9) rfl (T 80) (T.B 17) `b)) (QX (i:=4) (sc 81).nd) (Qc (Qr (i:=5) (sc 81).nd (Ql Qx `e Qf))
   (Qc (Qr (i:=6) (sc 81).nd (Y8 hu `c `f (QN Qo) #[U,U,U,U]))
   (Qe (QE (Qp OY (Ql Qx `e Qf) (Qn Qz rfl (T 4) zf (q9 `g Qg))) (Qc (Qq (T.cl (Pl T) (q9 `e (q9 `g Qg))))
   (Qc (Ys hu `c `f (Qv Cj `g (QN (Qh `e Qo))) rfl)
   (Qe (Qq (Uj plainAttrs_list za zb QW `d (q9 `e Qg)))))) (Qe (QE (Qp UX `e (Ql Qw `g (Qv FL (Ql Qx `e Qf) Qf))) (Qe YE) Qu)))))))
   (Qe (Qm (QP (Qh `c (Qh (GO (KQ T) hr.up rfl (T 9) rfl (T 52) (T.B 13) `d) Qo))))))))),?_⟩
  erw[0,pl,x,p,u,9,hd,d,U,M,ex,(),(),hh,du,dg,λH1 s1=>?_];erw[0,l,_,dl,2,s1 _ _ el,(T 6),(T 22),U,S,0,lg.rd s1,λf N=>?_];let s2:Qi H1 (upd H1 f (.dK (ke hd sh rs))):=Qi.zg N;let v:(upd H1 f (.dK (ke hd sh rs))) f=@(.dK (ke hd sh rs)):=Qd;generalize upd H1 f (.dK (ke hd sh rs))=H2 at s2 v⊢;let nS:H f=none:=s1.free N;erw[qR _,λk H3 O s3 R=>?_];let I:Qi H H3:=(s1.trans s2).trans s3;let D:f≠k:=Qb v O;erw[0,pl,[.ref x],[.inl ((-rs:Nat)+1:Int)],U,zm.of (I _ _ M),U,(by show 1<64;decide),.inl (λd hd=>{_,qk.mp hd}),(λi y d F hd G B=>?_),λsl H4 X s4 C=>?_]
  .have hi:i=0:=by have:=(qS.mp F).1;simp at this;exact this
   subst hi;cases F;cases hd;exact{x,9,2,B _ _ (I _ _ ex),Qi.refl _,U}
  let C:H4 sl=@(.lst [.ref x]):=C;let s14:=I.trans s4;let Y:f≠sl:=Qb (s3 _ _ v) X;let flsl:k≠sl:=Qb R X;let nfl1:H k=none:=(s1.trans s2).free O;refine⟨sl,U,{_,zm.of C},YF (K:=K) (a:=sl) (xs:=[.ref x]) (λi Z G=>∃(b:qc)(o4 o5 o6:uf V),Z=[@(.ref l),@(.ref pl),@(.ref f),@(.ref k),o4,o5,o6]/\Qi H G/\G sl=@(.lst [.ref x])/\((i=0/\G f=@(.dK (ke hd sh rs))/\G k=@(.lst []))\/(i=1/\H b=none/\G f=@(.dK [(inr hd,.ref b)])/\G b=@(.lst (rs.map (λr=>V.ref r.x)++[.ref x]))/\G k=@(.lst [.ref x]))))
   {sh,none,none,none,U,s14,C,.inl {U,s4 _ _ (s3 _ _ v),s4 _ _ R}} ?_ ?_ ?_⟩
  .rintro i Z G _ ⟨b,o4,o5,o6,rfl,_,e,_⟩;exact zm.of e
  .rintro i y Z G F ⟨b,o4,o5,o6,rfl,B,eG,J⟩;let hi:i=0:=by have:=(qS.mp F).1;simp at this;exact this
   subst hi;cases F;obtain⟨_,gS,gf⟩|⟨z,_⟩:=J
   .erw[0,x,3,z5.of (B _ _ ex),at1,?_];dsimp only[Q9];erw[0,f,U,.inl {_,.inl gS},0,qR _,λz G1 nz t1 ez=>?_];obtain⟨z',dgt,hz'⟩:∃z',Yf G1 f (.str hd) z'/\∃q,z'.getD (.ref z)=.ref q/\G1 q=some (.lst (rs.map λr=>V.ref r.x)):=by
     by_cases g:rs=[]
     .exact{none,.inl {_,inr hd,.inl (t1 _ _ gS),U,by unfold ke;rw[qE g];rfl},z,U,g<|ez}
     .exact{@(.ref sh),.inl {_,inr hd,.inl (t1 _ _ gS),U,by unfold ke;rw[qC g];unfold QB;simp},sh,U,t1 _ _ (B _ _ (lg.l g))}
    let#[q,eq,hq]:=hz';erw[z',dgt,?_];rw[eq];let g:=B.trans t1;erw[0,x,3,z5.of (g _ _ ex),at2,0,q,0,.inl (zm.of hq),2,4,?_];rw[show decide (((-(rs.map λr=>V.ref r.x):Nat):Int)<((-rs:Nat)+1:Int))=true from qw (by rw[qh];omega)];calc Q7 ?_;erw[5,x,q,p,u,hd,rs,d,U,g _ _ ex,du.mono (λc xs e=>g _ _ e),zm.of hq,hh,(),(λi r e=>(lg.r i r e).tups λc xs e=>g _ _ e),okn,λG2 j=>?_];let sG2:=g.trans j;erw[5,Ma,λy1 G3 ny1 t3 ey1=>?_];erw[q,y1,1,t3 _ _ (j _ _ hq),ey1,?_,λL G4 m t4 esh2=>?_]
    .rw[qh];exact QT ((by show -rs+1<=1000;omega))
    let n:Qi G G4:=((t1.trans j).trans t3).trans t4;let gS4:=n _ _ gS;let S'sh:f≠L:=Qb (t3 _ _ (j _ _ (t1 _ _ gS))) m;erw[5,f,0,.inl {_,inr hd,gS4,U,?_,U},?_]
    .unfold ke;split
     .show 0<sizeLine;decide
     .show 1<sizeLine;decide
    rw[bc];let fS':k≠f:=D.symm;erw[0,.inl {U,_,zm.of (Qa fS'<|n _ _ gf)},0,k,1,(Qa fS'<|n _ _ gf),∅,?_];let nS0:∀{c:qc}{o:HO},H c=some o->c≠f:=λe=>Qb e nS;let nf0:∀{c:qc}{o:HO},H c=some o->c≠k:=λe=>Qb e nfl1;erw[L,_,2,(λc o e=>Qa (nf0 e)<|Qa (nS0 e)<|n _ _ (B _ _ e)),(Qa flsl.symm<|Qa Y.symm<|n _ _ eG),.inr {U,(g.trans (j.trans t3)).free m,Qa D<|Qd,?_,Qd}];let fsh:L≠k:=(Qb (t3 _ _ (j _ _ (t1 _ _ gf))) m).symm;rw[Qa fsh,Qa S'sh.symm];exact esh2
   .cases z
  .rintro Z G ⟨b,o4,o5,o6,rfl,B,eG,J⟩;obtain⟨m,gS,L,gf⟩:H b=none/\G f=some (.dK [(inr hd,.ref b)])/\G b=some (.lst (rs.map (λr=>V.ref r.x)++[.ref x]))/\G k=some (.lst [.ref x]):=by
    obtain⟨z,_⟩|⟨_,q⟩:=J
    .cases z
    .exact q
   erw[5,k,[.ref x],[.inr (((-rs:Nat)+1:Int),hd)],U,zm.of gf,U,(by show 1<64;decide),.inr (λd h=>{9,qk.mp h}),(λi y d F h G1 t1=>?_),λf2 G1 nf2 t1 g=>?_]
   .have hi:i=0:=by have:=(qS.mp F).1;simp at this;exact this
    subst hi;cases F;cases h;exact{x,9,2,t1 _ _ (B _ _ ex),λt G2 j n=>#[j,t,U,n]}
   let g:G1 f2=@(.lst [.ref x]):=g;calc{Y6,λt G2 nt j n=>kg t f b f2 G2 ((B.trans t1).trans j) nS m n (j _ _ (t1 _ _ gS)) (j _ _ (t1 _ _ L)) (j _ _ g)}
def O3:T.k ja 13 82 (Ik a):=by
 refine T.ok 82 (λZ A outer s H vs Q E q h=>?_)
 .let#[l,S,sh,pl,x,p,u,hd,rs,d,U,G,hh,I,J,ex,Y,dg,L,kg]:=h;let#[dl,v]:=G.e;refine⟨_,(Qc (Qr (i:=2) (sc 82).nd (T.me `a (T 6) (T 132) (O1 T) (q9 `b Qg)))
   (Qc (Q6 `a (Ql Qx `c Qf) rfl)
   (Qe (OQ (Qm (Ql Qx `c Qf)))))),?_⟩
  erw[0,l,dl,0,v,4,l,S,sh,pl,x,p,u,hd,rs,d,U,G,hh,I,J,ex,Y,dg,L,λt b g fl H1 s1 f M D j k efl=>?_];erw[0,t,3,z5.of D,at0,?_];erw[0,l,_,dl,0,s1 _ _ v,(T 6),(T 22),(by show 2<1000;decide),?_];let y:l≠b:=Qb v f;let B:(upd H1 l (.ins (a 120) dl (QD Zm (.ref b) [(Zg,.str hd),(Zm,.ref S)]))) l=@(.ins (a 120) dl [(Zg,.str hd),(Zm,.ref b)]):=by rw[Qd];rfl
  let F:SX l H1 (upd H1 l (.ins (a 120) dl (QD Zm (.ref b) [(Zg,.str hd),(Zm,.ref S)]))):=λc o n e=>by rw[Qa n];exact e
  generalize upd H1 l (.ins (a 120) dl (QD Zm (.ref b) [(Zg,.str hd),(Zm,.ref S)]))=H2 at B F⊢;let C:=s1 _ _ v;let N:=F _ _ (QG D C λz=>nomatch z) D;erw[b,_,F _ _ y.symm j,λO=>?_];let R:∀{c o},c≠l->c≠b->H1 c=some o->(upd H2 b (.jM O (.dK [(inr hd,.ref g)]))) c=some o:=λn m e=>by rw[Qa m];exact F _ _ n e
  let V:t≠b:=QG D j λz=>nomatch z;erw[0,t,3,z5.of (Qa V<|N),at1,?_];let xt:∀{c xs},H c=@(.tup xs)->(upd H2 b (.jM O (.dK [(inr hd,.ref g)]))) c=@(.tup xs):=λ{c xs} e=>R (QG e v λz=>nomatch z) (Qb e f) (s1 _ _ e);refine kg fl b g _ (λc o n e=>R n (Qb e f) (s1 _ _ e)) f M {{dl,Qa y<|B},{O,?_},λ_=>?_,λi r q=>?_}
  .rw[Qd];unfold ke;rw[qC (by simp)]
  .rw[qB];exact R (QG k C λz=>nomatch z) (QG k j λz=>nomatch z) k
  .by_cases hi:i< -rs
   .rw[ju hi] at q;exact(G.r i r q).tups λc xs e=>xt e
   .have X:i=-rs:=by
     have:=(qS.mp q).1;rw[qo,qW] at this;omega
    subst X;rw[jc (qr _),Nat.sub_self] at q;cases q;calc{xt ex,Y.mono λc xs e=>xt e}
def eH:T.k ja 14 79 (dC a):=by
 sleep 79
 .let#[l,S,sh,p,u,hd,rs,d,U,j,Z,k,du,dg,m,kg]:=h;let#[dl,f]:=j.e;let#[oa,O]:=j.s;refine⟨_,(Qc (Qr (i:=2) (sc 79).nd (Qv Yb (Ss rfl rfl (T 92) (Yh (sc:=Qs (sO 79)) (N:=(nn 79)) (fr:=[]) (xV rfl rfl) rfl rfl rfl (Sq `A) (λ_ _ _ _=>Ud) (λ_ _ _ _=>(Ql (Ue K) (Ql (Yi K) `a (OU Fg Qf)) Qf)))) Qf))
   (Qc (Qr (i:=3) (sc 79).nd (QP (Qh `c (Qh `A (Qh (Qv Yb (Qn Qz rfl (T 4) zf (q9 (T.me `a (T 6) (T 70) (DS T) (q9 `A Qg)) Qg)) Qf) (Qh `b Qo))))))
   (Qc (Qq (T.me `a (T 6) (T 133) (O3 T) (q9 (QN (Qh `d Qo)) Qg)))
   (Qe (Qm `d))))),?_⟩
  erw[0,l,_,dl,2,f,(T 6),(T 22),U,S,0,.inl {oa,O,?_}];obtain⟨cs,t,v,y,B⟩:∃cs:qa qc,(ke hd sh rs).map (λkv=>kv.2)=cs.map V.ref/\-cs<=1/\(∀x∈cs,rs≠[]/\x=sh)/\mxd 0 (cs.map λ_=>((-rs:Nat):Int))=((-rs:Nat):Int):=by
   by_cases b:rs=[]
   .exact{[],by unfold ke;rw[qE b];rfl,qR _,nofun,by rw[b];rfl}
   .exact{[sh],by unfold ke;rw[qC b];rfl,qr _,(λx C=>{b,qk.mp C}),U}
  refine Nm (xs:=cs) V.ref (λ_=>V.int ((-rs:Nat):Int)) (qQ v ∅) O t (λx R Q' _ _ q=>q) (λx R Q' C s3 q=>?_) λD nD=>?_
  .let#[b,U]:=y x C;obtain e|⟨g,r,e⟩:=List.eq_nil_or_concat rs
   .exact absurd e b
   .have F:rs[-g]?=some r:=by rw[e,jL];simp
    let at_:=j.r _ _ F;let em:rs.map (λr=>V.ref r.x)=g.map (λr=>V.ref r.x)++[V.ref r.x]:=by rw[e,jL,qB];rfl
    let f:((-rs:Nat):Int)=((-g:Nat):Int)+1:=by rw[e,jL,qo];rfl
    rw[f] at q;exact{5,x,3,zm.of (s3 _ _ (j.l b)),(em<|E5 _ _),r.x,3,z5.of (s3 _ _ at_.e),at0,q}
  let s1:Qi H (upd H D (.lst (cs.map λ_=>V.int ((-rs:Nat):Int)))):=Qi.zg nD;let X:(upd H D (.lst (cs.map λ_=>V.int ((-rs:Nat):Int)))) D=@(.lst ((cs.map λ_=>((-rs:Nat):Int)).map V.int)):=by rw[Qd,qI];rfl
  generalize upd H D (.lst (cs.map λ_=>V.int ((-rs:Nat):Int)))=H1 at s1 X⊢;erw[D,0,zm.of X,1,?_];rw[B];dsimp only[Q9];let F:=j.sx s1;erw[5,l,_,dl,2,s1 _ _ f,(T 6),(T 34),4,l,dl,0,s1 _ _ f,4,l,_,dl,2,s1 _ _ f,(T 6),(T 34),U,l,S,sh,hd,rs,U,F,λz H2 s2 hz=>?_];erw[z,0,.inl hz,2,4,AJ,λx R nx s3 ex=>?_];rw[qh] at ex;let g:=(s1.trans s2).trans s3;dsimp only[Q9];erw[0,l,dl,0,g _ _ f,4,Ma,λpl H4 npl s4 G=>?_];let b:=g.trans s4;calc{l,S,sh,pl,x,p,u,hd,rs,d,U,j.sx b,Z,k,G,s4 _ _ ex,du.mono (λc xs e=>b _ _ e),dg,m,λfl S' I H5 x5 J L M=>{0,kg x S' I H5 ((s1.trans s2).free nx) (λc o n e=>x5 _ _ n (b _ _ e)) (b.free J) (b.free L) M}}
def uD(hd:qb)(rs:qa Lr):qa (Key×Int):=if rs=[] then [] else [(inr hd,((-rs:Nat):Int))]
inductive Oj
 |mk:∀(l S sh:qc)(hd:qb)(rs:qa Lr),vs=[.ref l]->Xs a H l S sh hd rs->(∀z H',Qi H H'->H z=none->H' z=some (.dK (nK (uD hd rs)))->Q (.ref z) H')->Oj a vs H Q E
inductive N8
 |mk:∀(l S sh:qc)(hd:qb)(rs:qa Lr),vs=[.ref l,.non]->Xs a H l S sh hd rs->-rs<=60->(∀z H',Qi H H'->H z=none->H' z=some (.lst (rs.map λr=>V.ref r.x))->Q (.ref z) H')->N8 a vs H Q E
def SJ:T.k ja 1 80 (Oj a):=by
 refine T.ok 80 (λx A outer s H vs Q E y h=>?_)
 .let#[l,S,sh,hd,rs,U,m,k]:=h;let r:=Yt y;let#[dl,t]:=m.e;let#[u,n]:=m.s;refine⟨_,(Qc (Qr (i:=1) (sc 80).nd Q0)
   (Qc (YA zl rfl (GN `A) (QX (i:=2) (sc 80).nd) (Qe (Ys r `b `c (Qn Qz rfl (T 4) zf (q9 (Yg r `A `c) Qg)) rfl)))
   (Qe (Qm `b)))),?_⟩
  intro z p;let s1:Qi H (upd H z (.dK [])):=Qi.zg p;let v:(upd H z (.dK [])) z=@(.dK []):=Qd;generalize upd H z (.dK [])=H1 at s1 v;dsimp only[Q9];erw[0,l,_,dl,2,s1 _ _ t,(T 6),(T 22),U,S,0,.inl {u,s1 _ _ n,?_}];refine EB (λi Z G=>∃j:uf V,Z=[@(.ref l),@(.ref z),j]/\Qi H G/\G z=@(.dK (if i=0 then [] else nK (uD hd rs)))) #[none,U,s1,v] ?_ ?_ ?_
  .rintro i Z G _ ⟨j,rfl,f,_⟩;exact f _ _ n
  .rintro i B Z G d ⟨j,rfl,f,g⟩;let b:rs≠[]:=λe=>by unfold ke at d;rw[qE e] at d;cases d
   unfold ke at d;rw[qC b] at d;let hi:i=0:=by have:=(qS.mp d).1;simp at this;exact this
   subst hi;cases d;let q:=f _ _ (m.l b);let g:G z=@(.dK []):=g;erw[0,l,_,dl,2,f _ _ t,(T 6),(T 22),4,S,.ref sh,U,.inl {_,inr hd,.inr {u,f _ _ n},U,by unfold ke;rw[qC b];unfold QB;simp},sh,0,.inl (zm.of q),5,z,0,.inl {_,inr hd,g,U,(by show 0<sizeLine;decide),U},?_];erw[0,(λc o e=>Qa (Qb e p)<|f _ _ e),?_];rw[Qd,qh,qC (show ¬(0+1=0) by decide)];unfold uD;rw[qC b];rfl
  .rintro Z G ⟨j,rfl,f,g⟩;erw[0,k z G f p ?_];rw[g];unfold ke uD;by_cases b:rs=[]
   .rw[qE b,qE b];rfl
   .rw[qC b,qC b];rfl
def SA:T.k ja 4 112 (N8 a):=by
 refine(T.D 112).ok (sc 112) (λcdv A outer s H vs Q E R h=>?_) (λvs H Q E h=>by let#[l,S,sh,hd,rs,U,_]:=h;rfl)
 .let#[l,S,sh,hd,rs,U,x,h60,k]:=h;let X:=Yt R;let#[dl,Y]:=x.e;let#[oa,D]:=x.s;refine⟨_,(Qc (Qr (i:=2) (sc 112).nd (XI (Qp V5 `b UO) Q0 `b))
   (Qc (Qr (i:=3) (sc 112).nd (QN Qo))
   (Qc (YA zl rfl (GN `A) (QX (i:=4) (sc 112).nd) (Qe (Qq (Uj plainAttrs_list PySem.F.slot_list_extend PySem.F.type_list_extend MU `d (q9 (UU Dv (Yg X `A `e) (U9 (Y8 X `c `e Qf #[U,U,U,U])) V3) Qg)))))
   (Qe (Qm (GO (KQ T) R.up rfl (T 9) rfl (T 52) (T.B 13) `d)))))),?_⟩
  erw[0,4,?_];rw[show decide (V.non=V.non)=true from rfl];calc Q7 ?_;intro h0 F;let s1:Qi H (upd H h0 (.dK [])):=Qi.zg F;let I:(upd H h0 (.dK [])) h0=@(.dK []):=Qd;generalize upd H h0 (.dK [])=H1 at s1 I;dsimp only[Q9];erw[qR _,λpl H2 n s2 J=>?_];let m:=s1.trans s2;let L:=s2 _ _ I;let M:h0≠pl:=Qb I n;let p:H pl=none:=s1.free n;dsimp only[Q9];erw[0,l,_,dl,2,m _ _ Y,(T 6),(T 22),U,S,0,.inl {oa,m _ _ D,?_}];refine EB (λi Z G=>∃z:uf V,Z=[@(.ref l),some .non,@(.ref h0),@(.ref pl),z]/\Qi H G/\G h0=@(.dK [])/\G pl=@(.lst (if i=0 then [] else rs.map λr=>V.ref r.x))) #[none,U,m,L,J] ?_ ?_ ?_
  .rintro i Z G _ ⟨z,rfl,g,_⟩;exact g _ _ D
  .rintro i C Z G b ⟨z,rfl,g,B,j⟩;let f:rs≠[]:=λe=>by unfold ke at b;rw[qE e] at b;cases b
   unfold ke at b;rw[qC f] at b;let hi:i=0:=by have:=(qS.mp b).1;simp at this;exact this
   subst hi;cases b;let j:G pl=@(.lst []):=j;let u:=g _ _ (x.l f);erw[0,.inl {U,_,zm.of j},0,l,_,dl,2,g _ _ Y,(T 6),(T 22),4,S,.ref sh,U,.inl {_,inr hd,.inr {oa,g _ _ D},U,by unfold ke;rw[qC f];unfold QB;simp},0,h0,U,.inl {_,.inl B},0,none,.inl {_,inr hd,.inl B,7},0,sh,0,zm.of u,λnl N v t1 q=>?_];rw[show Xq (rs.map λr=>V.ref r.x) (some 0) none=(rs.map λr=>V.ref r.x) from Ry (λr:Lr=>V.ref r.x) rs 0 (Int.le_refl _)] at q;erw[pl,nl,[],_,7,t1 _ _ j,q,?_,?_]
   .rw[qh];exact QT ((by show 0+-rs<=1000;omega))
   .erw[0,(λc o e=>Qa (Qb e p)<|t1 _ _ (g _ _ e)),(Qa M<|t1 _ _ B),?_];rw[Qd,qC (show ¬(0+1=0) by decide),List.nil_append]
  .rintro Z G ⟨z,rfl,g,B,j⟩;let j:G pl=@(.lst (rs.map λr=>V.ref r.x)):=by
    rw[j];unfold ke;by_cases f:rs=[]
    .rw[qE f,f];rfl
    .rw[qC f];rfl
   let f:-((List.range (-rs)).map λi=>(inr (((i:Nat):Int)+1,hd):KD))=-rs:=by rw[qh,zU]
   let q:∀k,k< -rs->((List.range (-rs)).map λi=>(inr (((i:Nat):Int)+1,hd):KD)).getD k (.inl 0)=.inr (((k:Nat):Int)+1,hd):=λk hk=>by
    rw[qX,qD,List.getElem?_range hk];rfl
   erw[0,pl,_,(List.range (-rs)).map λi=>(inr (((i:Nat):Int)+1,hd):KD),U,zm.of j,by rw[qh,f],by rw[f];omega,.inr (λd b=>by let#[i,_,e]:=qj.mp b;calc{9,e.symm}),(λi y d u b N t1=>?_),λf2 N O t1 v=>?_]
   .rw[qD] at u b
    cases C:rs[i]? with
    |none=>rw[C] at u;cases u
    |some r=>
     rw[C] at u;cases u;let hi:i< -rs:=(qS.mp C).1;rw[List.getElem?_range hi] at b;cases b;exact{r.x,9,2,t1 _ _ (g _ _ (x.r i r C).e),λt G2 t2 et=>#[t2,t,U,et]}
   .rw[P0 (λk h1 C=>by
     rw[f] at C;rw[q k C,q (k-1) ()];show(if ((k:Nat):Int)+1=(((k-1:Nat)):Int)+1 then _ else decide (((k:Nat):Int)+1<(((k-1:Nat)):Int)+1))=false;rw[qC ()];calc qK ()),f,show -rs=-(rs.map λr=>V.ref r.x) by rw[qh],Mw] at v
    calc k f2 N (g.trans t1) (g.free O) v
def Rh{a:qc}{g:TG}{tb:TS}{D:VL}(Pv:Nat->St->Hp->Prop)(h0:Pv 0 Z H)(c:∀i Z H,i<=-xs->Pv i Z H->zm K H a xs)
 (d:∀i x Z H T,xs[i]?=some x->Pv i Z H->H T=none->g (.ref T) Z (upd H T (.tup [.int i,x])) λf H2=>tb {D with nx:=Pv (i+1),ct:=Pv (i+1),bk:=D.nx} f H2) (hd:∀Z H,Pv (-xs) Z H->D.nx Z H) :
 Xh g tb D Z (Ite K a) H:=by
 erw[λi m Z H=>m=-xs-i/\i<=-xs/\Pv i Z H,{-xs,by simp,qR _,h0},?_];rintro i m Z H ⟨rfl,hi,p⟩;let q:=c i Z H hi p;by_cases b:i< -xs
 .refine .inr {{xs,xs[i],q,by simp[b]},Pv (i+1),λk H' h=>{-xs-(i+1),(),U,b,h},λv H' y=>?_};let#[T,x,y,j,U,U]:=y;exact d i x Z _ T (y xs q) p j
 .have e:i=-xs:=by omega
  subst e;calc .inl {#[xs,q,U],hd Z H p}
def bt{X:Cx}{e:Expr}:PE X e (λ_ _ _=>False):=λ_ _ _ _ _ _ h=>h.elim
inductive dz
 |mk:∀x dx L,vs=[.ref x,.ref L]->H x=some (.ins (a 124) dx [])->H L=some (.lst [])->(∀H' l,(∀c o,c≠x->H c=some o->H' c=some o)->H l=none->H' x=some (.ins (a 124) dx [("kept",.ref l)])->H' l=some (.lst [])->Q .non H')->dz a vs H Q E
inductive Oc
 |mk:∀x dx kp c o,vs=[.ref x,.ref c,.ref o]->H x=some (.ins (a 124) dx [("kept",.ref kp)])->H kp=some (.lst [])->(∀t D H',Qi H H'->H' t=some (.tup [.ref c,.ref D])->Q (.ref t) H')->Oc a vs H Q E
inductive T5
 |mk:∀x dx kp c o dc y fo g (ms:qe),vs=[.ref x,.ref c,.ref o]->H x=some (.ins (a 124) dx [("kept",.ref kp)])->H kp=some (.lst [])->H c=some (.ins (a 117) dc (cfs y fo g))->H g=some (.lst (~~~ms))->(∀t l H',Qi H H'->H' t=some (.tup [.str fo,.ref l])->H' l=some (.lst (~~~ms))->Q (.ref t) H')->T5 a vs H Q E
def eD:T.k ja 1 83 (dz a):=by
 sleep 83
 .let#[x,dx,L,U,ex,d,k]:=h;erw[_,(Qe (Q6 `a (DO (sc:=Qs (sO 83)) (N:=(nn 83)) (fr:=[]) {U,7,∅,∅,∅,∅,∅} rfl rfl rfl (QI `b) (λ_ _ _ _=>bt)) rfl)),?_];erw[0,L,U,{_,zm.of d},ES (xs:=([]:qa qc)) id V.ref V.ref (λD i ys e=>ys=[]/\i=0) ∅ (zm.of d) (λD f=>#[U,U]) (λD i ys e h=>by rw[h.1,h.2];rfl) nofun (λD i r ys e Q' hi=>by cases hi) ?_];rintro D ys H2 f ⟨rfl,_⟩ s2 g;let b:=s2 _ _ ex;let l:D≠x:=QG g b nofun;erw[0,x,_,dx,0,b,(T 44),(T 71),(by show 0<1000;decide),?_];calc k _ D (λc o n m=>Qa n<|s2 _ _ m) f Qd (Qa l<|g)
def SE:T.k ja 1 84 (Oc a):=by
 sleep 84
 .let#[x,dx,b,c,o,U,ex,d,k]:=h;refine⟨_,(Qc (Qr (i:=3) (sc 84).nd (QN Qo))
   (Qc (YA zl rfl (Lk rfl (T 54) (q9 `A Qg)) (OT rfl (XH (QX (i:=4) (sc 84).nd) (XH (QX (i:=5) (sc 84).nd) Ll))) WM)
   (Qe (Qm (QP (Qh `b (Qh `d Qo))))))),?_⟩
  erw[Xf,λD H1 m s1 f=>?_];erw[0,x,_,dx,2,s1 _ _ ex,(T 44),(T 71),U,b,0,s1 _ _ d,?_];calc Rh (K:=K) (a:=b) (xs:=[]) (λi Z H2=>Qi H H2/\Z=[@(.ref x),@(.ref c),@(.ref o),@(.ref D),none,none]) #[s1,U] (λi Z H2 _ h=>zm.of (h.1 _ _ d)) (λi y Z H2 T hi=>by cases hi) λZ H2 h=>?_;let#[s2,U]:=h;calc{5,Y6,λt g n s3 j=>k t D g (s2.trans s3) j}
def bD:T.k ja 2 85 (T5 a):=by
 sleep 85
 .let#[x,dx,m,c,o,d,y,s,g,ms,U,ex,n,e,p,k]:=h;refine⟨_,(Qc (Qr (i:=3) (sc 85).nd (Ql Qx (T.me `a (T 44) (T 136) (SE T) (q9 `b (q9 `c Qg))) Qf))
   (Qe (Qm (QP (Qh `D (Qh (YC X3 rfl (T 19) boot_list (q9 `D Qg)) Qo)))))),?_⟩
  erw[0,x,dx,0,ex,U,5,x,dx,m,c,o,U,ex,n,λt D H1 s1 b=>{t,3,z5.of b,at0,?_}];erw[0,c,_,d,2,s1 _ _ e,(T 15),(T 38),4,c,_,d,2,s1 _ _ e,(T 15),(T 29),U,g,0,.inl (zm.of (s1 _ _ p)),λl nl=>?_];let s2:Qi H1 (upd H1 l (.lst (~~~ms))):=Qi.zg nl;let f:(upd H1 l (.lst (~~~ms))) l=@(.lst (~~~ms)):=Qd;generalize upd H1 l (.lst (~~~ms))=H2 at s2 f;calc{Y6,λt q u s3 b=>k t l q ((s1.trans s2).trans s3) b (s3 _ _ f)}
abbrev rfs(a b c:qc)(hd:qb):qa (qb×V):=[(Zc,.ref a),(Zg,.str hd),(Zu,.ref b),(Zy,.ref c)]
set_option genInjectivity false in
structure Sg where
 x:qc
 dx:qc
 lg:qc
 S:qc
 sh:qc
 b:qc
 db:qc
 xr:qc
 L:qc
 xt:qc
 xi:qc
 xf:qc
 ru:qc
 dru:qc
 kp:qc
 own:qc->Nat
 rs:qa Lr
 es:qa Ent
 ls:qa LE
 bx:Rows
 mm:qb->qe
 n:Nat
variable {g:Sg}
abbrev Sg.qu(g:Sg)(H:Hp):Sg:={g.x,g.dx,g.lg,g.S,g.sh,g.b,g.db,g.xr,g.L,g.xt,g.xi,g.xf,g.ru,g.dru,g.kp,QR g.own 7 H,g.rs,g.es,g.ls,g.bx,g.mm,g.n}
structure EI(es:qa Ent)(c:Nat)(N:qe):Prop where
 len:-es<=c
 clk:∀e∈es,e.2.1<=(c:Int)
 nm:∀e∈es,∃m∈N,e.1.take 1=[m]
 mo:cD es
structure Rm(a:jg)(H:Hp)(hd:qb)(ws N:qe)(g:Sg):Prop where
 e:H g.x=@(.ins (a 123) g.dx (rfs g.lg g.b g.ru hd))
 o:g.own g.x=9
 l:Xs a H g.lg g.S g.sh hd g.rs
 o8:g.own g.lg=8/\g.own g.S=8/\(g.rs≠[]->g.own g.sh=8)
 u:H g.ru=@(.ins (a 124) g.dru [("kept",.ref g.kp)])/\H g.kp=@(.lst [])/\g.own g.ru=9/\g.own g.kp=9
 B:yY a H g.own g.b g.db g.xr g.L g.xt g.xi g.xf g.es g.ls g.bx g.mm ws ws ws g.n
 hh:U3 hd
 ei:EI g.es (-g.rs) N
 nm:∀m,m∈g.bx.map (·.1)↔m∈g.ls.map LE.nm
 nN:∀m∈g.ls.map LE.nm,m∈N
 n_:g.n<=-g.rs
 ib:Zj∈ws
 w_:∀m∈N,YH m
def yY.out{own:qc->Nat}{b:qc}(h:yY a H own b db xr L xt xi xf es ls bx mk WI W M n)(k:yQ own j H H')(c:7<=j):yY a H' (QR own j H) b db xr L xt xi xf es ls bx mk WI W M n:=
 {k _ _ h.e (.inl (by rw[h.o];omega)),Qk h.e<|h.o,h.r.step k () (),h.l.step k () (),h.t.step k () (),h.i.step k () (),h.f.step k () ()}
def KL(own a:qc->Nat)(H H':Hp):Prop:=∀c o,H c=some o->(own c=0\/own c=7\/Fj o=true)->H' c=some o/\a c=own c
def KL.trans{a b d:qc->Nat}{f:Hp}(x:KL a b H1 H2)(y:KL b d H2 f):KL a d H1 f:=λc o e h=>by
 let#[i,g]:=x c o e h;let#[j,k]:=y c o i (g<|h);calc{j,k.trans g}
def KL.same{own:qc->Nat}(j:Nat)(s:Qi H H'):KL own (QR own j H) H H':=λc o e _=>{s _ _ e,Qk e}
def KB.kl{own a:qc->Nat}(k:KB own a H H'):KL own a H H':=λc o e h=>
 let q:own c=0\/7<=own c\/Fj o=true:=h.imp id λh=>h.imp (λz=>by omega) id
 {k.k c o e q,k.g c o e q}
section
variable {a:jg}{fd:Nat->FuncData}{H H':Hp}{hd:qb}{ws N:qe}{g:Sg}
def Rm.law(h:Rm a H hd ws N g)(k:yQ g.own 7 H H'):Rm a H' hd ws N (g.qu H):=by
 let b:∀{c:qc}{o:HO}{j:Nat},H c=some o->g.own c=j->j≠7->H' c=some o:=λe z n=>k _ _ e (.inl (z<|n));let#[dl,d]:=h.l.e;let#[l,f]:=h.l.s;refine⟨k _ _ h.e (.inl (by rw[h.o];decide)),(Qk h.e).trans h.o,{{dl,b d h.o8.1 ∅},{l,b f h.o8.2.1 ∅},λn=>b (h.l.l n) (h.o8.2.2 n) ∅,λi r e=>(h.l.r i r e).tups λc xs q=>k.tup q},{(Qk d).trans h.o8.1,(Qk f).trans h.o8.2.1,λn=>(Qk (h.l.l n)).trans (h.o8.2.2 n)},
  {b h.u.1 h.u.2.2.1 ∅,b h.u.2.1 h.u.2.2.2 ∅,(Qk h.u.1).trans h.u.2.2.1,(Qk h.u.2.1).trans h.u.2.2.2},h.B.out k ∅,h.hh,h.ei,h.nm,h.nN,h.n_,h.ib,h.w_⟩
def Rm.quiet(h:Rm a H hd ws N g)(s:Qi H H'):Rm a H' hd ws N (g.qu H):=h.law (yQ.of s)
end
def Wr{x:Ent}(h:e∈WZ es x):e=x\/e∈es:=by
 unfold WZ at h;split at h
 .let#[y,a,q]:=qj.mp h;by_cases z:y.1=x.1
  .rw[qE z] at q;exact .inl q.symm
  .rw[qC z] at q;exact .inr (q▸a)
 .exact(qq.mp h).elim .inr λq=>.inl (qk.mp q)
def EI.keep{c:Nat}(h:EI es c N)(k:qe)(v:V):Vn es (k,(c:Int)+1,hd,v)=true:=by
 unfold Vn
 cases e:Ul es k with
 |none=>rfl
 |some o=>
  have:=h.clk o (Gi e).1;show(!(HT.kU) ((c:Int)+1) hd o.2.1 o.2.2.1)=true;unfold HT.kU;rw[qC (),qK ()];rfl
def Nj(d:Dd):(VU d).take 1=[d.nm]:=by cases d<;>rfl
def EI.step{c:Nat}{N':qe}(h:EI es c N)(d:Dd)(u:qc)(b:∀m∈N,m∈N')(a:d.nm∈N'):EI (U6 es (VU d,(c:Int)+1,hd,UM u d)) (c+1) N':=by
 unfold U6;rw[qE (h.keep _ _)];erw[qQ (DJ _ _).1 (jI h.len),λe he=>?_,λe he=>?_,{λe he=>?_,λe he=>?_,λe he hm=>?_}]
 .rcases Wr he with rfl|q
  .exact Int.le_refl _
  .have:=h.clk e q;omega
 .rcases Wr he with rfl|q
  .exact{_,a,Nj d}
  .let#[m,hm,f]:=h.nm e q;exact{m,b m hm,f}
 .rcases Wr he with rfl|q
  .exact LU d
  .exact h.mo.ne e q
 .rcases Wr he with rfl|q
  .cases d with
   |mark nm y on=>calc jt _
   |_=>exact qr _
  .exact h.mo.two e q
 .rcases Wr he with rfl|q
  .cases d with
   |mark nm y on=>calc{#[on,U],U}
   |put nm p=>calc absurd (show Zd=Ze from hm) ∅
   |place nm f=>calc absurd (show Zl=Ze from hm) ∅
   |drop nm=>exact absurd (show Zk=Ze from hm) ∅
  .exact h.mo.mw e q hm
def stL(ls:qa LE)(y:qc):Dd->qa LE
 |.put nm p=>ls++[#[nm,y,p]]
 |d=>chL ls d
def stB(bx:Rows):Dd->Rows
 |.put nm _=>bx++[(nm,Zj)]
 |d=>chB bx d
def stM(mk:qb->qe):Dd->qb->qe
 |.put nm _=>Y4 mk nm []
 |d=>chM mk d
def stW(N:qe):Dd->qe
 |.put nm _=>nm::N
 |_=>N
structure DoOk(ws N:qe)(g:Sg)(hd:qb)(d:Dd):Prop where
 gd:VA d
 k:okN hd g.rs d
 p:∀nm p,d=.put nm p->YH nm/\nm∉N/\(∀w∈UQ (j3 p.t++j3 p.b),w∈ws)/\-(UQ (j3 p.t++j3 p.b))<=60
 o:U7 d=false->dOk ws ws d/\d.nm∈g.ls.map LE.nm
def EI.fresh{c:Nat}(h:EI es c N){nm:qb}(a:nm∉N):sel [nm] es=[]:=k5.mpr λe he z=>by
 let#[m,hm,q]:=h.nm e he;let z:=qL z;rw[q] at z;cases z;calc a hm
def EI.put{c:Nat}{nm:qb}(h:EI es c N)(a:nm∉N):sel [nm] (U6 es (VU (.put nm p),(c:Int)+1,hd,UM u (.put nm p)))=[([nm,Zd],(c:Int)+1,hd,.ref u)]:=by
 unfold U6;rw[qE (h.keep _ _),IZ (f:=[nm]) rfl,h.fresh a];rfl
def BA(nm:qb){c:Int}(h:sel [nm] es=[([nm,Zd],c,hd,v)]):Xk es nm=[]:=by
 unfold Xk PK;rw[h];show(([[nm,Zd]]:qa (qe)).filter (Cv es)).map _=[];rw[yD]
 .rfl
 .unfold Cv;rw[show decide (([nm,Zd]:qe).getD 1 ""=Ze)=false from qK (show ¬Zd=Ze by decide +kernel)];calc qF
def B0{nm k:qb}{c:Int}(h:sel [nm] es=[([nm,Zd],c,hd,v)]):Ul es [nm,k]=if Zd=k then some ([nm,Zd],c,hd,v) else none:=by
 rw[<-Wf (f:=[nm]) rfl,h];unfold Ul;by_cases z:Zd=k
 .subst z;rw[qE rfl];simp
 .rw[qC z,jq (by simpa using λq=>z q)];rfl
inductive T4
 |mk:∀(hd:qb)(ws N:qe)(g:Sg)(q u:qc)(d:Dd),vs=[.ref g.x,.ref q]->Rm a H hd ws N g->DU H q u d->DoOk ws N g hd d->-g.rs<=30 ->
   (∀H' (g':Sg) x y,Rm a H' hd ws (stW N d) g'->g'.x=g.x->g'.rs=g.rs++[#[x,q,u,d]]->g'.ls=stL g.ls y d->g'.bx=stB g.bx d->g'.mm=stM g.mm d->KL g.own g'.own H H'->Q .non H')->T4 a vs H Q E
def eQ{nm:qb}(h:nm∉ls.map LE.nm):(ls.filter λl=>decide (l.nm≠nm))=ls:=zK.mpr λl a=>qw λe=>h (qj.mpr #[l,a,e])
def aB{nm:qb}(h:nm∉bx.map (·.1)):L2.without bx nm=bx:=zK.mpr λr a=>qw λe=>h (qj.mpr #[r,a,e])
def RA(b:U7 d=false)(h:∀m,m∈bx.map (·.1)↔m∈ls.map LE.nm)(hd:d.nm∈ls.map LE.nm):(∀m,m∈(chB bx d).map (·.1)↔m∈(chL ls d).map LE.nm)/\∀m∈(chL ls d).map LE.nm,m∈ls.map LE.nm:=by
 let a:∀nm m,m∈(L2.without bx nm).map (·.1)↔m∈bx.map (·.1)/\m≠nm:=λnm m=>VD (f:=λr:qb×qb=>r.1)
 cases d with
 |put nm p=>cases b
 |mark nm y on=>calc{h,λm hm=>hm}
 |drop nm=>calc{λm=>by rw[show chB bx (.drop nm)=L2.without bx nm from rfl,a,h];calc(VD (f:=LE.nm)).symm,λm hm=>((VD (f:=LE.nm)).mp hm).1}
 |place nm c=>
  erw[λm=>?_,λm hm=>hm];show m∈(L2.without bx nm++[(nm,c)]).map (·.1)↔m∈ls.map LE.nm;rw[qB,qq,a,h];constructor
  .rintro(z|z)
   .exact z.1
   .rw[qk.mp z];exact hd
  .intro z;by_cases e:m=nm
   .exact .inr (qk.mpr e)
   .exact .inl #[z,e]
def Cm:T.k ja 15 87 (T4 a):=by
 sleep 87
 .let#[hd,ws,N,g,q,u,d,U,R,du,ok,h30,k]:=h;erw[_,(Qe (Qq (T.me `A (T 1) (T 120) (SD T) (q9 (T.me `A (T 6) (T 129) (eH T) (q9 `b Qg)) Qg)))),?_];let#[dl,O]:=R.l.e;let hB:=R.B;erw[0,g.x,_,g.dx,2,R.e,(T 0),(T 8),U,g.b,g.db,0,hB.e,4,g.x,_,g.dx,2,R.e,(T 0),(T 35),U,g.lg,dl,0,O,4,g.lg,g.S,g.sh,q,u,hd,g.rs,d,U,R.l,R.hh,(),du,ok.gd,ok.k,λx S' V H1 nx sx nS nsh s=>?_];let k8:yQ g.own 8 H H1:=λc o e z=>sx c o (λy=>by
   subst y;rw[O] at e;cases e;calc z.elim (λz=>z R.o8.1) λz=>nomatch z) e
  let B1:=hB.out k8 ∅;let x1:=k8 _ _ R.e (.inl (by rw[R.o];decide));let nru:g.ru≠g.lg:=QG R.u.1 O λz=>by injection z with _ _ z;exact absurd (show(1:Nat)=2 from zp List.length z) ∅
  let r1:=sx _ _ nru R.u.1;let X:=sx _ _ (QG R.u.2.1 O λz=>nomatch z) R.u.2.1;let#[dl1,Y]:=s.e;let#[oS1,Z]:=s.s;let hne:g.rs++[#[x,q,u,d]]≠[]:=by simp
  let D:=s.l hne;let ol:QR g.own 8 H g.lg=8:=(Qk O).trans R.o8.1;let oS:QR g.own 8 H S'=8:=Yx nS;let I:QR g.own 8 H V=8:=Yx nsh;let J:QR g.own 8 H g.ru=9:=(Qk R.u.1).trans R.u.2.2.1;let L:QR g.own 8 H g.kp=9:=(Qk R.u.2.1).trans R.u.2.2.2;let ox:QR g.own 8 H g.x=9:=(Qk R.e).trans R.o;let kl1:KL g.own (QR g.own 8 H) H H1:=λc o e z=>{k8 c o e (z.elim (λz=>.inl ()) λz=>z.imp (λz=>by omega) id),Qk e};generalize QR g.own 8 H=t at B1 ol oS I J L ox kl1;let lr:=s.r (-g.rs) #[x,q,u,d] (by rw[jc (qr _),Nat.sub_self];rfl);let fin:∀H2 b v l B C n2 y,yY a H2 b g.b g.db g.xr g.L g.xt g.xi g.xf v l B C ws ws ws n2->KB t b H1 H2->EI v (-g.rs+1) (stW N d)->(∀m,m∈B.map (·.1)↔m∈l.map LE.nm)->(∀m∈l.map LE.nm,m∈stW N d)->n2<=-g.rs+1->l=stL g.ls y d->B=stB g.bx d->C=stM g.mm d->Q .non H2:=λH2 b v l B C n2 y M F ei2 nm2 nN2 hn2 G e2 e3=>by
   let f:∀{c:qc}{o:HO}{j:Nat},H1 c=some o->t c=j->(h:7<=j:=by decide)->H2 c=some o/\b c=j:=λ{c o j} e z h=>{F.k _ _ e (.inr (.inl ())),(F.g _ _ e (.inr (.inl ()))).trans z};let hl:-(g.rs++[(#[x,q,u,d]:Lr)])=-g.rs+1:=by rw[qo];rfl
   refine k H2 {g with S:=S',sh:=V,own:=b,rs:=g.rs++[#[x,q,u,d]],es:=v,ls:=l,bx:=B,mm:=C,n:=n2} x y ⟨(f x1 ox).1,(f x1 ox).2,{{dl1,(f Y ol).1},{oS1,(f Z oS).1},λ_=>(f D I).1,λi r e=>(s.r i r e).tups λc xs z=>F.k _ _ z (.inr (.inr rfl))},{(f Y ol).2,(f Z oS).2,λ_=>(f D I).2},{(f r1 J).1,(f X L).1,(f r1 J).2,(f X L).2},M,R.hh,hl▸ei2,nm2,nN2,hl▸hn2,R.ib,λm hm=>by
    cases d with
    |put nm p=>calc(qx.mp hm).elim (λz=>z▸(ok.p nm p rfl).1) (R.w_ m)
    |_=>calc R.w_ m hm⟩ rfl rfl G e2 e3 (kl1.trans F.kl)
  let kB:=R.ei.keep (hd:=hd) (VU d) (UM u d);let kt:∀c xs,H c=@(.tup xs)->H1 c=@(.tup xs):=λc xs e=>k8.tup e;let hel:=R.ei.len;let hn:=R.n_;erw[t,g.b,g.db,g.xr,g.L,g.xt,g.xi,g.xf,g.es,g.ls,g.bx,g.mm,ws,ws,ws,g.n,x,(-g.rs:Int)+1,hd,(-g.rs:Int)+1,q,u,d,U,B1,lr.e,du.mono kt,(),R.nm,λz=>absurd (z.symm.trans kB) ∅,λ_ nm p e=>?_,λ_ f=>?_]
  .subst e;let#[_,p1,p2,p3]:=ok.p nm p rfl;let nls:nm∉g.ls.map LE.nm:=λz=>p1 (R.nN nm z);let nbx:nm∉g.bx.map (·.1):=λz=>nls ((R.nm nm).mp z);let es:=R.ei.step (hd:=hd) (.put nm p) u (N':=stW N (.put nm p)) (λm hm=>qy _ hm) qA;let G:=R.ei.put (hd:=hd) (p:=p) (u:=u) p1;generalize U6 g.es (VU (.put nm p),(-g.rs:Int)+1,hd,UM u (.put nm p))=v at es G;let v1:=B0 (k:=Zd) G;let v2:=B0 (k:=Zk) G;let v3:=B0 (k:=Zl) G;rw[qE rfl] at v1;rw[qC ∅] at v2 v3;let e5:=es.len;erw[Zj,false,{es.mo,(),by rw[v1];rfl,kt _ _ (du.p nm p rfl),ok.gd.p nm p rfl,p2,p3,λ_=>by rw[v2];rfl,nofun,by rw[v3];rfl,R.ib,(by rw[BA nm G];calc λy hy=>nomatch hy)},(),nofun,λ_ y H2 b M F=>?_];rw[eQ nls,aB nbx,BA nm G] at M;refine fin H2 b _ _ _ _ _ y M F es (λm=>?_) (λm hm=>?_) () rfl rfl rfl
   .rw[qB,qB,qq,qq,R.nm];rfl
   .rw[qB] at hm;obtain z|z:=qq.mp hm
    .exact qy _ (R.nN m z)
    .rw[qk.mp z];exact qA
  .let#[o1,o2]:=ok.o f;let eW:stW N d=N:=by cases d<;>first|rfl|cases f
   let eL:∀y,chL g.ls d=stL g.ls y d:=λy=>by cases d<;>first|rfl|cases f
   let eB:chB g.bx d=stB g.bx d:=by cases d<;>first|rfl|cases f
   let eM:chM g.mm d=stM g.mm d:=by cases d<;>first|rfl|cases f
   let#[c1,c2]:=RA f R.nm o2;calc{o1,λ_ H2 b M F=>fin H2 b _ _ _ _ _ g.x M F (R.ei.step d u (λm hm=>eW<|hm) (eW<|R.nN _ o2)) c1 (λm hm=>eW<|R.nN m (c2 m hm)) () (eL _) eB eM,λz=>absurd o2 z}
def yY.reown{own g:qc->Nat}{b:qc}(h:yY a H own b db xr L xt xi xf es ls bx mk WI W M n)(k:∀c,own c≠0->g c=own c)(p:∀c C d (f:qb) (q:V×qa (qb×V)),(f=ZZ\/f=Zv\/f=Zh\/f=ZJ\/f=Zb)->H c=@(.ins C d (((f:qb),q.1)::q.2))->own c=0->g c=0):yY a H g b db xr L xt xi xf es ls bx mk WI W M n:=by
 let i:∀{c j},own c=j->j≠0->g c=j:=λ{c j} e n=>(k c (e<|n)).trans e;erw[h.e,p _ _ _ _ (_,_) (.inl rfl) h.e h.o,?_,?_,?_,?_,?_]
 .let#[dx,D,kd,r,m,o]:=h.r;exact{dx,D,kd,r,p _ _ _ _ (_,_) (.inr (.inl rfl)) r.obj m,λc hc=>i (o c hc) ∅}
 .erw[h.l.e,i h.l.o ∅,h.l.nd,h.l.na,λl s=>{?_,(h.l.at_ l s).2}];let#[t,u]:=(h.l.at_ l s).1;exact{i t ∅,u.imp id λ#[D,e,z]=>{D,e,i z ∅}}
 .let#[dx,L2,R2,kr,s,t,u,m,o]:=h.t;exact{dx,L2,R2,kr,s,t,u,p _ _ _ _ (_,_) (.inr (.inr (.inl rfl))) s.obj m,λc hc=>i (o c hc) ∅}
 .let#[F,f,m,o]:=h.i;let#[dx,E,B,ex]:=f.obj;exact{F,f,p _ _ _ _ (_,_) (.inr (.inr (.inr (.inl rfl)))) ex m,λc hc=>i (o c hc) ∅}
 .let#[F,f,m,o]:=h.f;let#[dx,s,T1,t,ex]:=f.obj;calc{F,f,p _ _ _ _ (_,_) (.inr (.inr (.inr (.inr rfl)))) ex m,λc hc=>i (o c hc) ∅}
inductive C7
 |mk:∀(x dx:qc)(hd:qb)(ws:qe),vs=[.ref x,.str hd]->H x=some (.ins (a 123) dx [])->U3 hd->Zj∈ws->-ws<=20->(∀H' (g:Sg),(∀c o,c≠x->H c=some o->H' c=some o/\g.own c=0)->g.x=x->Rm a H' hd ws [] g->g.rs=[]->g.ls=[]->g.bx=[]->Q .non H')->C7 a vs H Q E
def ME:T.k ja 5 86 (C7 a):=by
 refine T.ok 86 (λcdv A outer st H vs Q E hr h=>?_)
 .let#[x,dx,hd,ws,U,ex,hh,ib,t,k]:=h;refine⟨_,(Qc (Q6 `a (T.ma (T 127) (T 126) (Pb T) (q9 `b Qg)) rfl)
   (Qc (OQ (Q6 `a `b U))
   (Qc (Q6 `a (Wl (T 119) (Pn T) hr.up rfl (T 118) (T.B 67) .nil UW) rfl)
   (Qe (Q6 `a (T.ma (T 135) (T 134) (eD T) (q9 (QN Qo) Qg)) rfl))))),?_⟩
  erw[0,?_];intro g dl u ndl nel;erw[g,dl,hd,U,Qd,hh,λS H1 sx1 I J nS1=>{U,?_}];let sa:Qi H H1:=UE u ndl λc o n e=>sx1 c o n e;let x1:=sa _ _ ex;let l:x≠g:=Qb ex u;let nS:H S=none:=VQ nS1;let F:x≠S:=Qb ex nS;let lS:g≠S:=QG I J λz=>nomatch z;erw[0,x,_,dx,0,x1,(T 0),(T 35),∅,?_];let x2:(upd H1 x (.ins (a 123) dx (QD Zc (.ref g) []))) x=@(.ins (a 123) dx [(Zc,.ref g)]):=by rw[Qd];rfl
  let k2:SX x H1 (upd H1 x (.ins (a 123) dx (QD Zc (.ref g) []))):=λc o n e=>by rw[Qa n];exact e
  generalize upd H1 x (.ins (a 123) dx (QD Zc (.ref g) []))=H2 at x2 k2;erw[S,[],k2 _ _ F.symm J,λv=>?_];let x3:(upd H2 S (.jM v (.dK []))) x=_:=(Qa F).trans x2;let l3:(upd H2 S (.jM v (.dK []))) g=_:=(Qa lS).trans (k2 _ _ l.symm I);let S3:(upd H2 S (.jM v (.dK []))) S=@(.jM v (.dK [])):=Qd;let k3:∀c o,c≠x->H c=some o->(upd H2 S (.jM v (.dK []))) c=some o:=λc o n e=>by rw[Qa (Qb e nS)];exact k2 _ _ n (sa _ _ e)
  generalize upd H2 S (.jM v (.dK []))=H3 at x3 l3 S3 k3;erw[5,x,_,dx,0,x3,(T 0),(T 46),(by show 1<1000;decide),?_];let x4:(upd H3 x (.ins (a 123) dx (QD Zg (.str hd) [(Zc,.ref g)]))) x=@(.ins (a 123) dx [(Zc,.ref g),(Zg,.str hd)]):=by rw[Qd];rfl
  let G:SX x H3 (upd H3 x (.ins (a 123) dx (QD Zg (.str hd) [(Zc,.ref g)]))):=λc o n e=>by rw[Qa n];exact e
  generalize upd H3 x (.ins (a 123) dx (QD Zg (.str hd) [(Zc,.ref g)]))=H4 at x4 G;intro b db nb M neb;erw[b,db,(λ_=>[]),ws,ws,ws,U,t,t,t,Qd,λj own xr L xt xi xf kb0 ko0 B=>{U,?_}];let sb:Qi H4 j:=UE nb M λc o n e=>kb0 c o n e;let zo:∀{c o},H4 c=some o->own c=0:=λ{c o} e=>by
   let n1:=Qb e nb;exact ko0 c o n1 (Qa n1<|Qa (Qb e M)<|e)
  let x5:=sb _ _ x4;let l5:=sb _ _ (G _ _ l.symm l3);let S5:=sb _ _ (G _ _ F.symm S3);obtain⟨s,N,hl8,hS8,hk,h0⟩:∃s:qc->Nat,s x=9/\s g=8/\s S=8/\(∀c,c≠x->c≠g->c≠S->s c=own c)/\True:={λc=>if c=x then 9 else if c=g\/c=S then 8 else own c,qE rfl,(qC l.symm).trans (qE (.inl rfl)),(qC F.symm).trans (qE (.inr rfl)),(λc n1 n2 n3=>(qC n1).trans (qC λz=>z.elim n2 n3)),trivial};let B5:yY a j s b db xr L xt xi xf [] [] [] (λ_=>[]) ws ws ws 0:=B.reown (λc hc=>hk c (λz=>hc (z▸zo x4)) (λz=>hc (z▸zo (G _ _ l.symm l3))) (λz=>hc (z▸zo (G _ _ F.symm S3)))) λc C d f fs hf e z=>by
   refine(hk c (λy=>?_) (λy=>?_) (λy=>?_)).trans z
   .rw[y,x5] at e
    injection e with e;injection e with _ _ e;injection e with e _;injection e with e _
    subst e
    revert hf;decide +kernel
   .rw[y,l5] at e
    injection e with e;injection e with _ _ e;injection e with e _;injection e with e _
    subst e
    revert hf;decide +kernel
   .rw[y,S5] at e;cases e
  erw[0,x,_,dx,0,x5,(T 0),(T 8),(by show 2<1000;decide),?_];let x6:(upd j x (.ins (a 123) dx (QD Zu (.ref b) [(Zc,.ref g),(Zg,.str hd)]))) x=@(.ins (a 123) dx [(Zc,.ref g),(Zg,.str hd),(Zu,.ref b)]):=by rw[Qd];rfl
  let k6:SX x j (upd j x (.ins (a 123) dx (QD Zu (.ref b) [(Zc,.ref g),(Zg,.str hd)]))):=λc o n e=>by rw[Qa n];exact e
  generalize upd j x (.ins (a 123) dx (QD Zu (.ref b) [(Zc,.ref g),(Zg,.str hd)]))=H6 at x6 k6;erw[Xf,λlr H7 nlr O D=>?_];intro p dr q R ner;let V:(upd (upd H7 dr (.own p)) p (.ins (a 124) dr [])) lr=@(.lst []):=by rw[Qa (Qb D q),Qa (Qb D R)];exact D
  erw[p,dr,lr,U,Qd,V,λX kp k8 nkp er8 Y=>{U,?_}];let s8:Qi H7 X:=UE q R λc o n e=>k8 c o n e;let x8:=s8 _ _ (O _ _ x6);erw[0,x,_,dx,0,x8,(T 0),(T 78),(by show 3<1000;decide),?_];let x9:(upd X x (.ins (a 123) dx (QD Zy (.ref p) [(Zc,.ref g),(Zg,.str hd),(Zu,.ref b)]))) x=@(.ins (a 123) dx (rfs g b p hd)):=by rw[Qd];rfl
  let k9:SX x X (upd X x (.ins (a 123) dx (QD Zy (.ref p) [(Zc,.ref g),(Zg,.str hd),(Zu,.ref b)]))):=λc o n e=>by rw[Qa n];exact e
  generalize upd X x (.ins (a 123) dx (QD Zy (.ref p) [(Zc,.ref g),(Zg,.str hd),(Zu,.ref b)]))=H9 at x9 k9;let f9:SX x j H9:=λc o n e=>k9 c o n (s8 _ _ (O _ _ (k6 c o n e)));let kp9:yQ s 9 j H9:=λc o e z=>f9 c o (λy=>by
   subst y;rw[x5] at e;cases e;calc z.elim (λz=>z N) λz=>nomatch z) e
  let n6:∀{c},c≠x->H6 c=none->j c=none:=λ{c} n h=>by
   cases e:j c with
   |none=>rfl
   |some o=>rw[k6 c o n e] at h;cases h
  let Z:p≠x:=λz=>by have:=O _ _ x6;rw[<-z,q] at this;cases this
  let xkp:kp≠x:=(QG x8 Y λz=>nomatch z).symm;let nru5:j p=none:=n6 Z (O.free q);let nkp5:j kp=none:=n6 xkp (O.free (VQ nkp));calc k H9 {x,dx,g,S,S,b,db,xr,L,xt,xi,xf,p,dr,kp,QR s 9 j,[],[],[],[],(λ_=>[]),(0)} (λc o n e=>?_) rfl {x9,(Qk x5).trans N,{{dl,f9 _ _ l.symm l5},{v,f9 _ _ F.symm S5},λz=>absurd rfl z,λi r z=>by cases z},⟨(Qk l5).trans hl8,(Qk S5).trans hS8,λz=>absurd rfl z⟩,⟨k9 _ _ Z er8,k9 _ _ xkp Y,Yx nru5,Yx nkp5⟩,B5.out kp9 ∅,hh,⟨qr _,(λe z=>absurd z jZ),(λe z=>absurd z jZ),⟨(λe z=>absurd z jZ),(λe z=>absurd z jZ),(λe z=>absurd z jZ)⟩⟩,λm=>Iff.rfl,(λm z=>absurd z jZ),qr _,ib,(λm z=>absurd z jZ)} rfl rfl rfl;let e4:=G _ _ n (k3 c o n e);let nlgc:c≠g:=Qb e u;let nSc:c≠S:=Qb e nS;calc{f9 _ _ n (sb _ _ e4),(Qk (sb _ _ e4)).trans ((hk c n nlgc nSc).trans (zo e4))}
inductive Gx(a:jg)(vs:qa V)(H:Hp)(Q:VK):Prop
 |mk:∀(own:qc->Nat)(b db xr L xt xi xf:qc)(es:qa Ent)(ls:qa LE)(bx:Rows)(mk:qb->qe)(WI W M:qe)(n:Nat),vs=[.ref b]->yY a H own b db xr L xt xi xf es ls bx mk WI W M n->(∀l H',H l=none->Qi H H'->H' l=some (.lst ((QH (ls.map LE.nm)).map V.str))->Q (.ref l) H')->Gx a vs H Q
def Ds(a:jg):Sp:=λvs H Q _=>Gx a vs H Q
def MN:T.k ja 2 73 (Ds a):=by
 sleep 73
 .let#[own,b,db,xr,L,xt,xi,xf,es,ls,bx,mk,WI,W,M,n,U,h,k]:=h;let#[c,L2,R2,e,d,g,i,j,_]:=id h.t;erw[_,(Qe (Qm (T.mn `A (T 5) (T 66) (DZ T)))),?_];erw[0,b,_,db,2,h.e,(T 1),(T 31),U,xt,c,0,d.obj,U,xt,_,n,U,#[c,L2,R2,e,d,g,i],λl H' nl s' m=>k l H' nl s' ?_];rw[m,qI];rfl
inductive via(a:jg)(m:qb)(C:qc)(p:qc->qc->qc->qc->qc)(n:Nat)(sp:Sp)(vs:qa V)(H:Hp)(Q:VK)(E:XK):Prop
 |mk:∀(x dx lg b ru db xr L xt xi xf d:qc)(hd:qb)(fs:qa (qb×V))(rest:qa V),vs=.ref x::rest->-rest=n->H x=some (.ins (a 123) dx (rfs lg b ru hd))->H b=some (.ins (a 116) db (bfs xr L xt xi xf))->H (p b xt xi xf)=some (.ins C d fs)->fs.lookup m=none->sp (.ref (p b xt xi xf)::rest) H Q E->via a m C p n sp vs H Q E
abbrev pb:qc->qc->qc->qc->qc:=λb _ _ _=>b
abbrev pt':qc->qc->qc->qc->qc:=λ_ t _ _=>t
abbrev pi':qc->qc->qc->qc->qc:=λ_ _ i _=>i
abbrev pf:qc->qc->qc->qc->qc:=λ_ _ _ f=>f
section
variable {a:jg}{fd:Nat->FuncData}{H:Hp}{hd:qb}{ws N:qe}{g:Sg}{sp:Sp}{rest:qa V}{Q:VK}{E:XK}{n:Nat}{m:qb}
def Rm.vb(h:Rm a H hd ws N g)(s:sp (.ref g.b::rest) H Q E)(l:-rest=n:=by rfl)(q:∀xr L xt xi xf,(bfs xr L xt xi xf).lookup m=none:=by intros;rfl):via a m (a 116) pb n sp (.ref g.x::rest) H Q E:=.mk _ _ _ _ _ _ _ _ _ _ _ _ _ _ _ rfl l h.e h.B.e h.B.e (q _ _ _ _ _) s
def Rm.vt(h:Rm a H hd ws N g)(s:sp (.ref g.xt::rest) H Q E)(l:-rest=n:=by rfl)(q:∀L R,([(Zh,V.ref L),(Zi,V.ref R)]:qa (qb×V)).lookup m=none:=by intros;rfl):via a m (a 125) pt' n sp (.ref g.x::rest) H Q E:=
 let ⟨_,_,_,_,b,_⟩:=h.B.t
 .mk _ _ _ _ _ _ _ _ _ _ _ _ _ _ _ rfl l h.e h.B.e b.obj (q _ _) s
def Rm.vi(h:Rm a H hd ws N g)(s:sp (.ref g.xi::rest) H Q E)(l:-rest=n:=by rfl)(q:∀E B,([(ZJ,V.ref E),(Zf,V.ref B)]:qa (qb×V)).lookup m=none:=by intros;rfl):via a m (a 119) pi' n sp (.ref g.x::rest) H Q E:=
 let ⟨_,f,_⟩:=h.B.i
 let ⟨_,_,_,e⟩:=f.obj
 .mk _ _ _ _ _ _ _ _ _ _ _ _ _ _ _ rfl l h.e h.B.e e (q _ _) s
def Rm.vf(h:Rm a H hd ws N g)(s:sp (.ref g.xf::rest) H Q E)(l:-rest=n:=by rfl)(q:∀X T N,(VT X T N).lookup m=none:=by intros;rfl):via a m (a 118) pf n sp (.ref g.x::rest) H Q E:=
 let ⟨_,f,_⟩:=h.B.f
 let ⟨_,_,_,_,e⟩:=f.obj
 .mk _ _ _ _ _ _ _ _ _ _ _ _ _ _ _ rfl l h.e h.B.e e (q _ _ _) s
end
def Bs:T.k ja 3 94 (via a "names" (a 116) pb 0 (Ds a)):=by
 refine T.ok 94 (λb A outer st H vs Q E f h=>?_) (λvs H Q E h=>by let#[_,_,_,_,_,_,_,_,_,_,_,_,_,_,rest,U,l,_]:=h;rw[qU,l];rfl)
 .let#[x,dx,g,c,i,db,xr,L,xt,xi,xf,d,hd,j,rest,U,l,ex,k,e,z,s]:=h;obtain rfl:rest=[]:=jm.mp l;calc{_,(Qe (Qm (T.mn `A (T 1) (T 124) (MN T)))),0,x,_,dx,2,ex,(T 0),(T 8),U,c,d,0,e,z,s}
def AN:T.k ja 9 95 (via a "letter_at" (a 116) pb 1 (Om a)):=by
 refine T.ok 95 (λb A outer st H vs Q E f h=>?_) (λvs H Q E h=>by let#[_,_,_,_,_,_,_,_,_,_,_,_,_,_,rest,U,l,_]:=h;rw[qU,l];rfl)
 .let#[x,dx,g,c,i,db,xr,L,xt,xi,xf,d,hd,j,rest,U,l,ex,k,e,z,s]:=h;let#[v1,U]:=zF.mp l;calc{_,(Qe (Qm (T.me `A (T 1) (T 125) (SN T) (q9 `b Qg)))),0,x,_,dx,2,ex,(T 0),(T 8),U,c,d,0,e,z,0,s}
def DW:T.k ja 11 96 (via a "card" (a 116) pb 1 (IS a)):=by
 refine T.ok 96 (λb A outer st H vs Q E f h=>?_) (λvs H Q E h=>by let#[_,_,_,_,_,_,_,_,_,_,_,_,_,_,rest,U,l,_]:=h;rw[qU,l];rfl)
 .let#[x,dx,g,c,i,db,xr,L,xt,xi,xf,d,hd,j,rest,U,l,ex,k,e,z,s]:=h;let#[v1,U]:=zF.mp l;calc{_,(Qe (Qm (T.me `A (T 1) (T 69) (D6 T) (q9 `b Qg)))),0,x,_,dx,2,ex,(T 0),(T 8),U,c,d,0,e,z,0,s}
def FW:T.k ja 3 97 (via a "folder" (a 118) pf 1 (Be a)):=by
 refine T.ok 97 (λb A outer st H vs Q E g h=>?_) (λvs H Q E h=>by let#[_,_,_,_,_,_,_,_,_,_,_,_,_,_,rest,U,l,_]:=h;rw[qU,l];rfl)
 .let#[x,dx,i,c,j,db,xr,L,xt,xi,xf,d,hd,k,rest,U,l,ex,e,f,z,s]:=h;let#[v1,U]:=zF.mp l;calc{_,(Qe (Qm (T.me (Qj `A rfl) (T 2) (T 62) (G0 T) (q9 `b Qg)))),0,x,_,dx,2,ex,(T 0),(T 8),U,c,_,db,2,e,(T 1),(T 12),U,xf,d,0,f,z,0,s}
def MD:T.k ja 3 98 (via a "marks" (a 118) pf 1 (Dn a)):=by
 refine T.ok 98 (λb A outer st H vs Q E g h=>?_) (λvs H Q E h=>by let#[_,_,_,_,_,_,_,_,_,_,_,_,_,_,rest,U,l,_]:=h;rw[qU,l];rfl)
 .let#[x,dx,i,c,j,db,xr,L,xt,xi,xf,d,hd,k,rest,U,l,ex,e,f,z,s]:=h;let#[v1,U]:=zF.mp l;calc{_,(Qe (Qm (T.me (Qj `A rfl) (T 2) (T 63) (Bu T) (q9 `b Qg)))),0,x,_,dx,2,ex,(T 0),(T 8),U,c,_,db,2,e,(T 1),(T 12),U,xf,d,0,f,z,0,s}
def GS:T.k ja 3 99 (via a "thread" (a 125) pt' 1 (C2 a)):=by
 refine T.ok 99 (λb A outer st H vs Q E g h=>?_) (λvs H Q E h=>by let#[_,_,_,_,_,_,_,_,_,_,_,_,_,_,rest,U,l,_]:=h;rw[qU,l];rfl)
 .let#[x,dx,i,c,j,db,xr,L,xt,xi,xf,d,hd,k,rest,U,l,ex,e,f,z,s]:=h;let#[v1,U]:=zF.mp l;calc{_,(Qe (Qm (T.me (Qj `A rfl) (T 5) (T 67) (Br T) (q9 `b Qg)))),0,x,_,dx,2,ex,(T 0),(T 8),U,c,_,db,2,e,(T 1),(T 31),U,xt,d,0,f,z,0,s}
def DT:T.k ja 4 100 (via a "threads" (a 125) pt' 0 (A9 a)):=by
 refine T.ok 100 (λb A outer st H vs Q E g h=>?_) (λvs H Q E h=>by let#[_,_,_,_,_,_,_,_,_,_,_,_,_,_,rest,U,l,_]:=h;rw[qU,l];rfl)
 .let#[x,dx,i,c,j,db,xr,L,xt,xi,xf,d,hd,k,rest,U,l,ex,e,f,z,s]:=h;obtain rfl:rest=[]:=jm.mp l;calc{_,(Qe (Qm (T.mn (Qj `A rfl) (T 5) (T 117) (FR T)))),0,x,_,dx,2,ex,(T 0),(T 8),U,c,_,db,2,e,(T 1),(T 31),U,xt,d,0,f,z,s}
def FX:T.k ja 3 101 (via a "counts" (a 118) pf 1 (Bf a)):=by
 refine T.ok 101 (λb A outer st H vs Q E g h=>?_) (λvs H Q E h=>by let#[_,_,_,_,_,_,_,_,_,_,_,_,_,_,rest,U,l,_]:=h;rw[qU,l];rfl)
 .let#[x,dx,i,c,j,db,xr,L,xt,xi,xf,d,hd,k,rest,U,l,ex,e,f,z,s]:=h;let#[v1,U]:=zF.mp l;calc{_,(Qe (Qm (T.me (Qj `A rfl) (T 2) (T 64) (G6 T) (q9 `b Qg)))),0,x,_,dx,2,ex,(T 0),(T 8),U,c,_,db,2,e,(T 1),(T 12),U,xf,d,0,f,z,0,s}
def DV:T.k ja 4 102 (via a "folders" (a 118) pf 0 (Gw a)):=by
 refine T.ok 102 (λb A outer st H vs Q E g h=>?_) (λvs H Q E h=>by let#[_,_,_,_,_,_,_,_,_,_,_,_,_,_,rest,U,l,_]:=h;rw[qU,l];rfl)
 .let#[x,dx,i,c,j,db,xr,L,xt,xi,xf,d,hd,k,rest,U,l,ex,e,f,z,s]:=h;obtain rfl:rest=[]:=jm.mp l;calc{_,(Qe (Qm (T.mn (Qj `A rfl) (T 2) (T 102) (D3 T)))),0,x,_,dx,2,ex,(T 0),(T 8),U,c,_,db,2,e,(T 1),(T 12),U,xf,d,0,f,z,s}
def FU:T.k ja 2 103 (via a "marked" (a 118) pf 2 (Bc a)):=by
 refine T.ok 103 (λb A outer st H vs Q E g h=>?_) (λvs H Q E h=>by let#[_,_,_,_,_,_,_,_,_,_,_,_,_,_,rest,U,l,_]:=h;rw[qU,l];rfl)
 .let#[x,dx,i,c,j,db,xr,L,xt,xi,xf,d,hd,k,rest,U,l,ex,e,f,z,s]:=h;let#[v1,v2,U]:=NJ l;calc{_,(Qe (Qm (T.me (Qj `A rfl) (T 2) (T 65) (GZ T) (q9 `b (q9 `c Qg))))),0,x,_,dx,2,ex,(T 0),(T 8),U,c,_,db,2,e,(T 1),(T 12),U,xf,d,0,f,z,5,s}
def Ck:T.k ja 2 104 (via a "names" (a 118) pf 1 (Dm a)):=by
 refine T.ok 104 (λb A outer st H vs Q E g h=>?_) (λvs H Q E h=>by let#[_,_,_,_,_,_,_,_,_,_,_,_,_,_,rest,U,l,_]:=h;rw[qU,l];rfl)
 .let#[x,dx,i,c,j,db,xr,L,xt,xi,xf,d,hd,k,rest,U,l,ex,e,f,z,s]:=h;let#[v1,U]:=zF.mp l;calc{_,(Qe (Qm (T.me (Qj `A rfl) (T 2) (T 101) (MM T) (q9 `b Qg)))),0,x,_,dx,2,ex,(T 0),(T 8),U,c,_,db,2,e,(T 1),(T 12),U,xf,d,0,f,z,0,s}
def FV:T.k ja 2 105 (via a "having" (a 119) pi' 1 (Dj a)):=by
 refine T.ok 105 (λb A outer st H vs Q E g h=>?_) (λvs H Q E h=>by let#[_,_,_,_,_,_,_,_,_,_,_,_,_,_,rest,U,l,_]:=h;rw[qU,l];rfl)
 .let#[x,dx,i,c,j,db,xr,L,xt,xi,xf,d,hd,k,rest,U,l,ex,e,f,z,s]:=h;let#[v1,U]:=zF.mp l;calc{_,(Qe (Qm (T.me (Qj `A rfl) (T 7) (T 107) (MK T) (q9 `b Qg)))),0,x,_,dx,2,ex,(T 0),(T 8),U,c,_,db,2,e,(T 1),(T 43),U,xi,d,0,f,z,0,s}
def Hw{a:qc}{α:Type}{xs:qa α}{fr:qa (Nat×qb)}{tt:TT}{o:TE}(g:α->V)(pr:α->Bool)(hz:-xs<=sizeLine)(hS:zm K H1 a (xs.map g))
 (k:∀(x:α)(c:Hp)(Q':Bool->Hp->Prop),x∈xs->Qi H1 c->(∀f,Qi c f->Q' (pr x) f)->tt (@(g x)::xb Z fr) c Q')
 (l:∀(x:α)(c:Hp)(Q':VK),x∈xs->Qi H1 c->pr x=true->(∀y f,Qi c f->Q' y f)->o (@(g x)::xb Z fr) c Q')
 (q:∀D ys H2,H1 D=none->Qi H1 H2->H2 D=@(.lst ys)->Q (.ref D) H2) :
 Yy (gv K a) fr tt o Z H1 Q:=by
 intro D n;erw[λi m ys H2=>m=-xs-i/\i<=-xs/\-ys<=i/\Qi H1 H2/\H2 D=@(.lst ys),{-xs,by simp,qR _,by simp,Qi.zg n,Qd},?_];rintro i m ys H2 ⟨rfl,hi,r,s2,j⟩;erw[j,?_];let d:=s2.seq hS;by_cases b:i< -xs
 .have h:(xs.map g)[i]?=@(g xs[i]):=by rw[qD,ql b];rfl
  calc .inr {{xs.map g,g xs[i],d,h},?_};rintro v c ⟨rfl,s⟩;let p:(xs.map g)[i]?=some v:=s _ d;rw[h] at p;cases p;let hm:xs[i]∈xs:=zx b;refine k xs[i] _ _ hm s2 λf s4=>?_
  cases t:pr xs[i] with
  |false=>calc QQ {-xs-(i+1),(),U,b,(),s2.trans s4,s4 _ _ j}
  |true=>exact Q7 (l xs[i] _ _ hm (s2.trans s4) t λy u s5=>{s5 _ _ (s4 _ _ j),(),-xs-(i+1),(),U,b,qo<|jI r,((s2.trans s4).trans s5).zP n,Qd})
 .have e:i=-xs:=by omega
  subst e;calc .inl {{xs.map g,d,qh<|qr _},q D ys H2 n s2 j}
def Rm.noE(R:Rm a H hd ws N g):vR (g.ls.map λl=>(l.nm,l.p.an)):=λn b z=>by
 rw[qI] at b;have:=(R.w_ n (R.nN n b)).lo;rw[z] at this;calc absurd this ∅
def Rm.ths(R:Rm a H hd ws N g):gP a H g.xt (g.ls.map λl=>(l.nm,l.p.an)) g.n:=
 let ⟨_,_,_,_,b,c,d,_⟩:=R.B.t
 .mk _ _ _ _ b c d
def Rm.up(R:Rm a H hd ws N g){nm:qb}(h:nm∈g.ls.map LE.nm):∃b,L2.up g.bx nm=some b:=by
 cases e:L2.up g.bx nm with
 |some b=>exact#[b,U]
 |none=>calc absurd ((R.nm nm).mpr h) (Uq.mp e)
inductive Dc
 |mk:∀(hd:qb)(ws N:qe)(g:Sg)(nm:qb),vs=[.ref g.x,.str nm]->Rm a H hd ws N g->-g.rs<=40->nm∈g.ls.map LE.nm->(∀l H',Qi H H'->Q (.ref l) H')->Dc a vs H Q E
inductive Oa
 |mk:∀(hd:qb)(ws N:qe)(g:Sg)(nm:qb)(c dc y gg:qc)(fo:qb)(ms:qe),vs=[.ref g.x,.str nm,.ref c]->Rm a H hd ws N g->-g.rs<=40->nm∈g.ls.map LE.nm->H c=some (.ins (a 117) dc (cfs y fo gg))->H gg=some (.lst (~~~ms))->-ms<=100->(∀H',Qi H H'->Q .non H')->Oa a vs H Q E
def MG:T.k ja 11 88 (Dc a):=by
 refine T.ok 88 (λn A outer st H vs Q E o h=>?_)
 .let#[hd,ws,N,g,nm,U,R,p,hm,k]:=h;let q:=Yt o;refine⟨_,(Qc (QE (Ux (UD q `b (Qj `A rfl))) (Qe (Qm (QN Qo))) Qu)
   (Qe (Qm (Yh (sc:=Qs (sO 88)) (N:=(nn 88)) (fr:=[(0,"self"),(1,"name")]) (xV rfl rfl) rfl rfl rfl (QI (T.me `a (T 0) (T 77) (GS T) (q9 `b Qg))) (λ_ _ _ _=>YW (Qp UX `a `c)) (λ_ _ _ _=>(T.me (K7 K `b U) (T 1) (T 69) (D6 T) (q9 `a Qg))))))),?_⟩
  let#[le,hle,U]:=qj.mp hm;erw[5,g.x,_,g.dx,2,R.e,(T 0),(T 8),U,g.b,_,g.db,2,R.B.e,(T 1),(T 11),U,g.L,@(.ref le.y),U,.inl {_,inr le.nm,.inl R.B.l.e,U,(Q5 (g:=λl=>V.ref l.y) R.B.l.nd hle).symm},_,U,QQ ?_];let x:-(g.ls.map λl=>(l.nm,l.p.an))<=40:=by let#[_,_,_,_,r,_]:=R.B.t;exact r.few
  erw[0,g.x,g.dx,0,R.e,4,R.vt {g.xt,9,le.nm,U,R.ths,R.noE,qI<|hm,λl H1 nl s1 j=>{l,U,{_,zm.of j},Hw (K:=K) (xs:=QO (g.ls.map λl=>(l.nm,l.p.an)) le.nm) V.str (λm=>!(decide) (m=le.nm)) (QT ((qQ B2 ()))) (zm.of j) (λm s Q' _ s3 c=>{5,4,Wh<|c _ (Qi.refl _)}) (λm s Q' d s3 _ c=>?_) λD ys H2 z s2 _=>k D H2 (s1.trans s2)}}];let t:=s1.trans s3;let e:=R.quiet t;let b:=(Vv.mp d).1;rw[qI] at b;let#[u,f,U]:=qj.mp b;let#[v,i]:=R.up b;calc{0,g.x,_,g.dx,2,e.e,(T 0),(T 8),U,g.b,g.db,0,e.B.e,4,_,g.b,g.db,g.xr,g.L,g.xt,g.xi,g.xf,9,6,6,u,v,U,e.B,f,i,(R.nm _).mpr b,λy B C F G s4 _=>c _ _ s4}
def Lv:T.k ja 16 89 (Oa a):=by
 sleep 89
 .let#[hd,ws,N,g,nm,c,m,y,n,q,ms,U,R,r,hm,B,C,D,k]:=h;refine⟨_,(Qc (Qr (i:=3) (sc 89).nd (T.me `A (T 44) (T 137) (bD T) (q9 `c (q9 (T.me `a (T 0) (T 140) (MG T) (q9 `b Qg)) Qg))))
   (Qc (Qr (i:=4) (sc 89).nd (Ql Qx `d Qf))
   (Qc (Qr (i:=5) (sc 89).nd (Ql Qx `d Qf))
   (Qc (QE (Qp UX `e `C) WM Qu)
   (Qc (YA zl rfl (QI `f) (QX (i:=6) (sc 89).nd) (Qe (QE (Qp V4 `g `C (by with_unfolding_all rfl)) WM Qu)))
   (Qe (YA zl rfl (QI `C) (QX (i:=6) (sc 89).nd) (Qe (QE (Qp V4 `g `f (by with_unfolding_all rfl)) WM Qu))))))))),?_⟩
  erw[0,g.x,_,g.dx,2,R.e,(T 0),(T 78),U,g.ru,g.dru,0,R.u.1,U,5,g.x,g.dx,0,R.e,4,hd,ws,N,g,nm,U,R,r,hm,λo H1 s1=>{g.ru,g.dru,g.kp,c,o,m,y,q,n,ms,U,s1 _ _ R.u.1,s1 _ _ R.u.2.1,s1 _ _ B,s1 _ _ C,λt l H2 s2 F s=>?_}];let d:=s1.trans s2;let e:=d _ _ B;let f:=d _ _ C;dsimp only[Q9];erw[0,t,3,z5.of F,at0,?_];erw[0,t,3,z5.of F,at1,?_];erw[5,c,_,m,2,e,(T 15),(T 38),U,4,?_];rw[qw rfl];calc QQ ?_;let key:∀i (v:V),(~~~ms)[i]?=some v->Wx v=true/\inV v (~~~ms)=true:=λi v j=>by
   let#[z,hz,U]:=FH j;exact{U,Wt<|qw (ze hz)}
  let I:(~~~ms).all Wx=true:=by rw[List.all_map];exact zu.mpr λ_ _=>rfl
  erw[0,l,U,{_,zm.of s},YF (K:=K) (a:=l) (xs:=ms.map V.str) (λi Z G=>∃b,Z=[@(.ref g.x),@(.str nm),@(.ref c),@(.ref t),@(.str q),@(.ref l),b]/\G=H2) #[none,U,U] (λi Z G _ h=>by let#[_,_,U]:=h;calc zm.of s) ?_ ?_]
  .rintro i v Z G j ⟨b,rfl,rfl⟩;let#[u,x]:=key i v j;erw[5,c,_,m,2,e,(T 15),(T 29),U,n,0,.inl (zm.of f),u,I,0,?_];rw[qE rfl,x];exact QQ {_,7}
  .rintro Z G ⟨b,rfl,rfl⟩;erw[0,c,_,m,2,e,(T 15),(T 29),U,n,U,{_,zm.of f},YF (K:=K) (a:=n) (xs:=ms.map V.str) (λi Z p=>∃b,Z=[@(.ref g.x),@(.str nm),@(.ref c),@(.ref t),@(.str q),@(.ref l),b]/\p=G) #[b,U,U] (λi Z p _ h=>by let#[_,_,U]:=h;calc zm.of f) ?_ ?_]
   .rintro i v Z p j ⟨b,rfl,rfl⟩;let#[u,x]:=key i v j;erw[5,l,0,.inl (zm.of s),u,I,0,?_];rw[qE rfl,x];exact QQ {_,7}
   .rintro Z p ⟨b,rfl,rfl⟩;calc k _ d
structure vP(H H':Hp)(g g':Sg)(d:Dd):Prop where
 x:g'.x=g.x
 rs:∃x q u,g'.rs=g.rs++[#[x,q,u,d]]
 ls:∃y,g'.ls=stL g.ls y d
 bx:g'.bx=stB g.bx d
 mm:g'.mm=stM g.mm d
 kl:KL g.own g'.own H H'
inductive Iy
 |mk:∀(l S sh:qc)(hd:qb)(rs:qa Lr),vs=[.ref l]->Xs a H l S sh hd rs->U3 hd->-rs<=60->(∀H',Qi H H'->Q (.str (Uh hd rs)) H')->Iy a vs H Q E
inductive dF
 |mk:∀(hd:qb)(ws N:qe)(g:Sg)(nm u:qb),vs=[.ref g.x,.str nm,.str u]->Rm a H hd ws N g->nm∈g.ls.map LE.nm->YH u->(∀H',Qi H H'->Q .non H')->dF a vs H Q E
inductive C6
 |mk:∀(hd:qb)(ws N:qe)(g:Sg)(nm u:qb),vs=[.ref g.x,.str nm,.str u]->Rm a H hd ws N g->-g.rs<=30->nm∈g.ls.map LE.nm->YH u->u∈ws->(∀H' g',Rm a H' hd ws N g'->vP H H' g g' (.place nm u)->Q .non H')->C6 a vs H Q E
inductive B4
 |mk:∀(hd:qb)(ws N:qe)(g:Sg)(nm u:qb)(on:Bool),vs=[.ref g.x,.str nm,.str u,.bl on]->Rm a H hd ws N g->-g.rs<=30->nm∈g.ls.map LE.nm->YH u->u∈ws->(∀H' g',Rm a H' hd ws N g'->vP H H' g g' (.mark nm u on)->Q .non H')->B4 a vs H Q E
inductive Ir
 |mk:∀(hd:qb)(ws N:qe)(g:Sg)(nm:qb),vs=[.ref g.x,.str nm]->Rm a H hd ws N g->-g.rs<=30->nm∈g.ls.map LE.nm->(∀H' g',Rm a H' hd ws N g'->vP H H' g g' (.drop nm)->Q .non H')->Ir a vs H Q E
inductive Iu
 |mk:∀(hd:qb)(ws N:qe)(g:Sg)(nm:qb),vs=[.ref g.x,.str nm]->Rm a H hd ws N g->-g.rs<=30->nm∈g.ls.map LE.nm->(∀H',Qi H H'->Q .non H')->Iu a vs H Q E
inductive Fp
 |mk:∀(hd:qb)(ws N:qe)(g:Sg)(p:LD),vs=[.ref g.x,.str p.s,.str p.t,.str p.b,.int p.d,.str p.an]->Rm a H hd ws N g->-g.rs<=30->VI p.s p.t p.b p.d p.an->YH (Uh hd g.rs)->Uh hd g.rs∉N->(∀w∈UQ (j3 p.t++j3 p.b),w∈ws)->-(UQ (j3 p.t++j3 p.b))<=60->(∀H' g',Rm a H' hd ws (Uh hd g.rs::N) g'->vP H H' g g' (.put (Uh hd g.rs) p)->Q (.str (Uh hd g.rs)) H')->Fp a vs H Q E
def ww(h:YH x):isW x=true/\-x<=1000:={Hj h,by have:=h.hi;omega}
def Rm.there(R:Rm a H hd ws N g){nm:qb}(h:nm∈g.ls.map LE.nm):∃v,QB (dG LE.nm (λl=>V.ref l.y) g.ls) (inr nm)=some v:=by
 let#[l,b,U]:=qj.mp h;calc{_,Q5 (g:=λl=>V.ref l.y) R.B.l.nd b}
def vP.of{g':Sg}{x y:qc}(s:Qi H H1)(a:g'.x=g.x)(b:g'.rs=g.rs++[#[x,q,u,d]])(c:g'.ls=stL g.ls y d)(e:g'.bx=stB g.bx d)(f:g'.mm=stM g.mm d)(k:KL (QR g.own 7 H) g'.own H1 H'):vP H H' g g' d:={a,{6,b},{_,c},e,f,(KL.same 7 s).trans k}
def Pa:T.k ja 2 78 (Iy a):=by
 sleep 78
 .let#[l,S,sh,hd,rs,U,b,g,j,k]:=h;let#[dl,d]:=b.e;erw[_,(Qe (Qm (T.cl (Bw T) (q9 `A (q9 (T.me `a (T 6) (T 70) (DS T) (q9 `A Qg)) Qg))))),?_];calc{0,l,_,dl,2,d,(T 6),(T 34),4,l,dl,0,d,4,l,_,dl,2,d,(T 6),(T 34),U,l,S,sh,hd,rs,U,b,λz H1 s1 hz=>{z,hd,rs,U,hz,g,(),λi r e=>(b.r i r e).tups λc xs q=>s1 _ _ q,λH2 s2=>k _ (s1.trans s2)}}
def ao:T.k ja 3 90 (dF a):=by
 sleep 90
 .let#[hd,ws,N,g,nm,u,U,R,hm,hw,k]:=h;refine⟨_,(Qc (Qq (T.cl (YU T) (q9 `b (q9 (Qj `A rfl) Qg))))
   (Qe (QE (YQ (YD (T.cl (Ve T) (q9 `c Qg)))) (Qe YE) Qu))),?_⟩
  let#[v,c]:=R.there hm;erw[5,g.x,_,g.dx,2,R.e,(T 0),(T 8),U,g.b,_,g.db,2,R.B.e,(T 1),(T 11),U,nm,g.L,_,v,U,R.B.l.e,c,?_];calc{0,.inl {u,U,(ww hw).2,λH1 s1=>{0,(ww hw).1<|QQ (k _ s1)}}}
def MC:T.k ja 16 91 (C6 a):=by
 sleep 91
 .let#[hd,ws,N,g,nm,u,U,R,c,hm,hw,e,k]:=h;refine⟨_,(Qc (Qq (T.me `a (T 0) (T 74) (ao T) (q9 `b (q9 `c Qg))))
   (Qe (Qq (T.me `a (T 0) (T 45) (Cm T) (q9 (QP (Qh QC (Qh `b (Qh `c Qo)))) Qg))))),?_⟩
  erw[0,g.x,g.dx,0,R.e,U,5,hd,ws,N,g,nm,u,U,R,hm,hw,λH1 s1=>?_];erw[0,g.x,g.dx,0,s1 _ _ R.e,U,5,BW,λq H2 s s2 eq=>?_];let b:=s1.trans s2;calc{hd,ws,N,g.qu H,q,q,.place nm u,U,R.quiet b,{eq,λ_ _ z=>nomatch z},{{ww (R.w_ nm (R.nN nm hm)),nofun,(λ_ _ z=>by cases z;calc ww hw),nofun},nofun,nofun,λ_=>#[e,hm]},c,λf g' x y i j l m n o p=>k f g' i (vP.of b j l m n o p)}
def GU:T.k ja 16 114 (B4 a):=by
 refine(T.D 114).ok (sc 114) (λd A outer st H vs Q E r h=>?_) (λvs H Q E h=>by let#[hd,ws,N,g,nm,u,on,U,_]:=h;rfl)
 .let#[hd,ws,N,g,nm,u,on,U,R,c,hm,hw,e,k]:=h;refine⟨_,(Qc (Qq (T.me `a (T 0) (T 74) (ao T) (q9 `b (q9 `c Qg))))
   (Qe (Qq (T.me `a (T 0) (T 45) (Cm T) (q9 (QP (Qh QC (Qh `b (Qh `c (Qh `d Qo))))) Qg))))),?_⟩
  erw[0,g.x,g.dx,0,R.e,U,5,hd,ws,N,g,nm,u,U,R,hm,hw,λH1 s1=>?_];erw[0,g.x,g.dx,0,s1 _ _ R.e,4,5,AJ,λq H2 s s2 eq=>?_];let b:=s1.trans s2;calc{hd,ws,N,g.qu H,q,q,.mark nm u on,U,R.quiet b,{eq,λ_ _ z=>nomatch z},{{ww (R.w_ nm (R.nN nm hm)),nofun,nofun,(λ_ _ _ z=>by cases z;calc ww hw)},nofun,nofun,λ_=>#[e,hm]},c,λf g' x y i j l m n o p=>k f g' i (vP.of b j l m n o p)}
def O8:T.k ja 16 92 (Ir a):=by
 sleep 92
 .let#[hd,ws,N,g,nm,U,R,b,hm,k]:=h;refine⟨_,(Qc (Qq (T.cl (YU T) (q9 `b (q9 (Qj `A rfl) Qg))))
   (Qe (Qq (T.me `a (T 0) (T 45) (Cm T) (q9 (QP (Qh QC (Qh `b Qo))) Qg))))),?_⟩
  let#[v,d]:=R.there hm;erw[5,g.x,_,g.dx,2,R.e,(T 0),(T 8),U,g.b,_,g.db,2,R.B.e,(T 1),(T 11),U,nm,g.L,_,v,U,R.B.l.e,d,?_];erw[0,g.x,g.dx,0,R.e,4,Y6,λq H2 r s2 eq=>?_];calc{hd,ws,N,g.qu H,q,q,.drop nm,U,R.quiet s2,{eq,λ_ _ z=>nomatch z},{{ww (R.w_ nm (R.nN nm hm)),nofun,nofun,nofun},nofun,nofun,λ_=>#[trivial,hm]},b,λe g' x y f i j l m n o=>k e g' f (vP.of s2 i j l m n o)}
def O9:T.k ja 17 93 (Iu a):=by
 sleep 93
 .let#[hd,ws,N,g,nm,U,R,i,hm,k]:=h;erw[_,(Qe (Qq (T.me `a (T 0) (T 72) (Lv T) (q9 `b (q9 (T.me `a (T 0) (T 76) (DW T) (q9 `b Qg)) Qg))))),?_];let#[l,j,U]:=qj.mp hm;let#[d,b]:=R.up hm;let m:-(g.mm l.nm)<=20:=by let#[s,f,_]:=R.B.f;exact(f.xK ((R.nm _).mpr hm)).2.2
  erw[0,g.x,g.dx,0,R.e,U,5,g.x,g.dx,0,R.e,4,R.vb {_,g.b,g.db,g.xr,g.L,g.xt,g.xi,g.xf,9,6,6,l,d,U,R.B,j,b,(R.nm _).mpr hm,λc n H1 t u s1 hc=>?_}];let#[#[o,y,p,_],q]:=hc;calc{hd,ws,N,g.qu H,l.nm,c,o,y,n,d,0,R.quiet s1,(by show -g.rs<=40;omega),hm,p,q,(by have:=RM (QH (g.mm l.nm));have:=(Uv (g.mm l.nm)).length_eq;omega),λH2 s2=>k _ (s1.trans s2)}
inductive Iq
 |mk:∀(hd:qb)(ws N:qe)(g:Sg),vs=[.ref g.x]->Rm a H hd ws N g->(∀z H',Qi H H'->H z=none->H' z=some (.dK (nK (uD hd g.rs)))->Q (.ref z) H')->Iq a vs H Q E
inductive Io
 |mk:∀(hd:qb)(ws N:qe)(g:Sg),vs=[.ref g.x,.non]->Rm a H hd ws N g->-g.rs<=60->(∀z H',Qi H H'->H z=none->H' z=some (.lst (g.rs.map λr=>V.ref r.x))->Q (.ref z) H')->Io a vs H Q E
def O7:T.k ja 2 106 (Iq a):=by
 sleep 106
 .let#[hd,ws,N,g,U,R,k]:=h;let#[dl,c]:=R.l.e;calc{_,(Qe (Qm (T.mn `A (T 6) (T 130) (SJ T)))),0,g.x,_,g.dx,2,R.e,(T 0),(T 35),U,g.lg,dl,0,c,U,g.lg,g.S,g.sh,hd,g.rs,U,R.l,k}
def O5:T.k ja 5 115 (Io a):=by
 refine(T.D 115).ok (sc 115) (λc A outer st H vs Q E e h=>?_) (λvs H Q E h=>by let#[hd,ws,N,g,U,_]:=h;rfl)
 .let#[hd,ws,N,g,U,R,b,k]:=h;let#[dl,d]:=R.l.e;calc{_,(Qe (Qm (T.me `A (T 6) (T 131) (SA T) (q9 `b Qg)))),0,g.x,_,g.dx,2,R.e,(T 0),(T 35),U,g.lg,dl,0,d,4,g.lg,g.S,g.sh,hd,g.rs,U,R.l,b,k}
def Lw:T.k ja 17 113 (Fp a):=by
 let#[X,vd,vm]:=T.uJ;refine(T.D 113).ok (sc 113) (λY A outer st H vs Q E Z h=>?_) (λvs H Q E h=>by let#[hd,ws,N,g,p,U,_]:=h;rfl)
 .let#[hd,ws,N,g,p,U,R,m,n,hw,hn,o,hl,k]:=h;refine⟨_,(Qc (Qr (i:=6) (sc 113).nd (T.ma (T 40) (T 39) (Cn T) (q9 `b (q9 `c (q9 `d (q9 `e (q9 `f Qg)))))))
   (Qc (Qr (i:=7) (sc 113).nd (T.mn `A (T 6) (T 128) (Pa T)))
   (Qc (Qq (T.me `a (T 0) (T 45) (Cm T) (q9 (QP (Qh QC (Qh `h (Qh (T.mn `g (T 3) (T 48) (GV T)) Qo)))) Qg)))
   (Qc (Qq (T.me `a (T 0) (T 72) (Lv T) (q9 `h (q9 (Lm (T 56) (D4 T) Z.up rfl (T 55) vm vd UW (q9 `g Qg)) Qg))))
   (Qe (Qm `h)))))),?_⟩
  erw[0,5,5,?_];intro y j J r ney;erw[y,j,6,2,n,Qd,λH1 k1 ey=>{U,?_}];let s1:Qi H H1:=UE J r k1;dsimp only[Q9];let s:=R.quiet s1;let#[dl,el]:=s.l.e;erw[0,g.x,_,g.dx,2,s.e,(T 0),(T 35),U,g.lg,dl,0,el,U,g.lg,g.S,g.sh,hd,g.rs,U,s.l,R.hh,(),λH2 s2=>?_];dsimp only[Q9];let d:=s1.trans s2;let b:=s2 _ _ ey;erw[0,g.x,g.dx,0,d _ _ R.e,U,5,y,j,0,b,U,y,6,2,.inl #[j,b],λu nu=>?_];let s3:Qi H2 (upd H2 u (.tup [.str p.s,.str p.t,.str p.b,.int p.d,.str p.an])):=Qi.zg nu;let L:(upd H2 u (.tup [.str p.s,.str p.t,.str p.b,.int p.d,.str p.an])) u=@(.tup [.str p.s,.str p.t,.str p.b,.int p.d,.str p.an]):=Qd;generalize upd H2 u (.tup [.str p.s,.str p.t,.str p.b,.int p.d,.str p.an])=H3 at s3 L;erw[BW,λq H4 nq s4 eq=>?_];let e:=(d.trans s3).trans s4;let t:=s4 _ _ (s3 _ _ b);let oy:(g.qu H).own y=7:=Yx J;erw[hd,ws,N,g.qu H,q,u,.put (Uh hd g.rs) p,U,R.quiet e,{eq,λ_ _ z=>by cases z;calc s4 _ _ L},{{ww hw,(λ_ _ z=>by cases z;calc n),nofun,nofun},(λ_=>rfl),(λ_ _ z=>by cases z;exact#[hw,hn,o,hl]),nofun},m,λl g' x yy v B M O e4 e5 S=>?_];let C:=(S y _ t (.inr (.inl oy))).1;let hm:Uh hd g.rs∈g'.ls.map LE.nm:=by
   rw[O];show _∈(g.ls++[({Uh hd g.rs,yy,p}:LE)]).map LE.nm;rw[qB];exact qz _ (qk.mpr rfl)
  let D:-g'.rs<=40:=by rw[M,qo];show -g.rs+1<=40;omega
  let x5:l g.x=some _:=B▸v.e;erw[0,g.x,g'.dx,0,x5,U,5,λc dc nc F G=>Ea nc F G (.inl #[j,C]) n (.inl #[U,U]) ∅ λH6 gg V ng hc=>{U,?_}];let#[#[I,y',ec,_],eg]:=hc;erw[hd,ws,_,g'.qu l,Uh hd g.rs,c,I,y',gg,9,by rw[show(g'.qu l).x=g.x from B];rfl,v.quiet V,D,hm,ec,eg,∅,λH7 s7=>{0,?_}];let f:=V.trans s7;calc k H7 (g'.qu l) (v.quiet f) {B,{6,M},{_,O},e4,e5,((KL.same 7 e).trans S).trans (KL.same 7 f)}
inductive II(K:Frag)(vs:qa V)(H:Hp)(Q:VK)(E:XK):Prop
 |mk:∀(a:qc)(ns:qa Int)(n:Nat),vs=[.ref a,.int n]->zm K H a (ns.map V.int)->n<=1000->(∀(p:qc)(rs:qa Int)(H':Hp),-rs=n->(∀r∈rs,0<=r/\r<2147483629)->Qi H H'->H' p=some (.lst (rs.map V.int))->Q (.ref p) H')->II K vs H Q E
def Pj:T.k ja 1 21 (II K):=by
 refine T.ok 21 (λC A outer s H vs Q E c h=>?_)
 .let#[q,ns,n,U,hS,I,k]:=h;refine⟨_,(Qc (Qr (i:=2) (sc 21).nd (WO Qo))
   (Qc (Qr (i:=3) (sc 21).nd Qf)
   (Qc (YA zl rfl (Vd rfl (T 28) (q9 `b Qg)) (QX (i:=4) (sc 21).nd) (Qc (Qr (i:=5) (sc 21).nd Qf)
   (Qc (QE (Qp OY (Qn Qz rfl (T 4) zf (q9 `a Qg)) Qf) (Qe (Qr (i:=5) (sc 21).nd (Ql Qw `a (Qv QS `e (Qn Qz rfl (T 4) zf (q9 `a Qg)))))) Qu)
   (Qc (Qr (i:=3) (sc 21).nd (Qv QS (Qv Yb (Qv Yb (Qv Yb (Qv Wm `d Qf) `f) `e) Qf) Qf))
   (Qe (Qq (Uj plainAttrs_list za zb QW `c (q9 (Qv QS (Qv Wm `d `d) Qf) Qg))))))))
   (Qe (Qm `c))))),?_⟩
  erw[qR _,λp l=>?_];refine⟨_,U,(n:Int),U,(),(),VS (n:=(n:Int).toNat) (λi Z H2=>Ex4 λ(rs:qa Int)(more:Int)(m o:uf V)=>TU (Z=[@(.ref q),@(.int n),@(.ref p),@(.int more),m,o]) (0<=more) (more<2147483647) (-rs=i) ((∀r∈rs,0<=r/\r<2147483629)) (H2 p=@(.lst (rs.map V.int))) (Qi H H2))
   {[],(7),none,none,U,∅,∅,U,nofun,Qd,Qi.zg l} ?_ ?_⟩
  .rintro i Z H2 hi ⟨rs,more,m,o,rfl,h0,D,t,j,b,f⟩;let d:=f.seq hS;let F:i<n:=by omega
   let rest:∀z:Int,∃x:V,([@(.ref q),@(.int n),@(.ref p),@(.int more),@(.int (0+(i:Int))),@(.int z)]:St)[3]?=@(some x)/\True:=λz=>{0,trivial};erw[0,q,0,.inl d,2,4,?_];refine Y7 (λg=>?_) (λB=>?_)
   .have e:0< -(ns.map V.int):=by simpa using g
    let#[v,G,hm,_]:=Gg (xs:=ns.map V.int) (0+(i:Int)) e;let#[z,U,_]:=Ek hm;erw[0,5,q,0,.inl d,1,(),q,3,d,G,?_];erw[8,.inl {(),()},8,8,1,1,W3,?_];let u:0<=(more*48271+z+(0+(i:Int))+1)%2147483647:=zq _ ∅;let y:(more*48271+z+(0+(i:Int))+1)%2147483647<2147483647:=zj _ ∅;erw[0,.inl {U,_,zm.of b},0,8,.inl {(),()},1,W4,p,1,b,(qh<|QA ()),?_];erw[rs++[_],_,2,u,y,by rw[qo,t];rfl,λr c=>?_,qB<|Qd,f.zP l];obtain c|c:=qq.mp c
    .exact j r c
    .rw[qk.mp c];exact{zq _ ∅,zj _ ∅}
   .erw[8,.inl {(),()},8,8,1,1,W3,?_];let u:0<=(more*48271+0+(0+(i:Int))+1)%2147483647:=zq _ ∅;let y:(more*48271+0+(0+(i:Int))+1)%2147483647<2147483647:=zj _ ∅;erw[0,.inl {U,_,zm.of b},0,8,.inl {(),()},1,W4,p,1,b,(qh<|QA ()),?_];erw[rs++[_],_,2,u,y,by rw[qo,t];rfl,λr c=>?_,qB<|Qd,f.zP l];obtain c|c:=qq.mp c
    .exact j r c
    .rw[qk.mp c];exact{zq _ ∅,zj _ ∅}
  .rintro Z H2 ⟨rs,more,m,o,rfl,h0,D,t,j,b,f⟩;erw[0,k p rs H2 () j f b]
inductive De(vs:qa V)(H:Hp)(Q:VK)(E:XK):Prop
 |mk:∀(b k:Int),vs=[.int b,.int k]->0<=b->b<2147483629->0<=k->k<=100->(∀x:qb,YH x->Q (.str x) H)->De vs H Q E
def MH:T.k ja 1 22 De:=by
 sleep 22
 .let#[b,g,U,r,t,u,v,k]:=h;let l:=cz;let pick:∀z:Int,∃c,xm aZ.cps.toList (z%36)=some c/\c∈aZ.cps.toList:=λz=>My (zq _ ∅) (l<|zj _ ∅);refine⟨_,(Qc (Qr (i:=2) (sc 22).nd QC)
   (Qc (QE (Qp Yk (Qv QS `a Qf) Qf) (Qe (Qm (Qv FQ (Ql Cw `c (Qv QS (Qv Yb (Qv Ym `a Qf) (Qv Ym `b Qf)) Qf)) (Qv Yb Qf (Qv QS `b Qf))))) Qu)
   (Qc (Qr (i:=3) (sc 22).nd (Qv QS (Qv Ym `a Qf) Qf))
   (Qc (Qr (i:=4) (sc 22).nd QC)
   (Qc (YA zl rfl (Vd rfl (T 28) (q9 (Qv Yb (Qv Yb `d Qf) (Qv QS (Qv Ym `a Qf) (Qv FL Qf `d))) Qg)) (QX (i:=5) (sc 22).nd) (Qe (QE (Qp Yk `f `d) (Qe (Qr (i:=4) (sc 22).nd (Qv Q8 `e (Ql Cw `c (Qv QS (Qv Yb (Qv Ym `a Qf) (Qv Ym `b Qf)) Qf))))) (Qe (QE (Qp Yk `f (Qv Yb `d Qf)) (Qe (Qr (i:=4) (sc 22).nd (Qv Q8 `e (Ql Cw `c (Qv QS (Qv Yb (Qv Ym `a Qf) `b) Qf))))) (Qe (Qr (i:=4) (sc 22).nd (Qv Q8 `e (Ql Cw `c (Qv QS (Qv Yb (Qv Ym `a Qf) (Qv Wm `f (Qv Yb Qf (Qv QS `a Qf)))) Qf))))))))))
   (Qe (Qm `e))))))),?_⟩
  erw[8,RS,4,?_];refine Y7 (λ_=>?_) (λ_=>?_)
  .let#[c,hc,f]:=pick (b / 4+g / 20);let m0:0<=g%20:=zq _ ∅;let x:g%20<20:=zj _ ∅;erw[0,8,{∅,∅},8,{∅,∅},1,1,HL,aZ,_,c,7,X4,hc,?_];erw[8,cJ,1,1,(by rw[XO];decide),(),(),?_];let j:=S4 ({([c].toArray)}:qb) (1+g%20);rw[XO,Nat.mul_one] at j;calc k _ {(),(),λd hd=>?_};have:=S2 hd;let e:d=c:=by simpa using this
   rw[e];exact f
  .have C:0<=b / 4%18:=zq _ ∅;let D:b / 4%18<18:=zj _ ∅;let m0:0<=b / 72%(19-b / 4%18):=zq _ ();let x:b / 72%(19-b / 4%18)<19-b / 4%18:=zj _ ();let F:0<=b%7:=zq _ ∅;let G:b%7<7:=zj _ ∅;erw[8,{∅,∅},1,cL,?_];refine⟨_,U,_,_,U,U,_,U,_,_,U,U,{∅,∅},_,U,_,_,U,U,_,_,U,U,(by show(0:Int)<19-b / 4%18;omega),_,_,U,U,_,U,(),(),VS (n:=(b / 4%18+2+b / 72%(19-b / 4%18)).toNat) (λi Z H2=>∃(y:qb)(o:uf V),Z=[@(.int b),@(.int g),@(.str aZ),@(.int (b / 4%18)),@(.str y),o]/\-y=i/\(∀c∈y.cps.toList,c∈aZ.cps.toList)/\H2=H)
    {"",none,U,Kp,(λc hc=>by rw[show("":qb).cps.toList=[] by decide +kernel] at hc;cases hc),rfl} ?_ ?_⟩
   .rintro i Z H2 hi ⟨y,o,rfl,p,j,rfl⟩;let fit:∀c:Nat,-y+-({([c].toArray)}:qb)<=sizeLine:=λc=>QT ((by rw[XO];omega));let step:∀c:Nat,c∈aZ.cps.toList->∃(m:qb)(o:uf V),([@(.int b),@(.int g),@(.str aZ),@(.int (b / 4%18)),@(.str (y++{([c].toArray)})),@(.int (0+(i:Int)))]:St)=[@(.int b),@(.int g),@(.str aZ),@(.int (b / 4%18)),@(.str m),o]/\-m=i+1/\(∀c∈m.cps.toList,c∈aZ.cps.toList)/\H2=H2:=λc hc=>
     ⟨_,_,U,by rw[Wa,XO,p],λd hd=>by
       rw[AA] at hd;obtain z|z:=qq.mp hd
       .exact j d z
       .have e:d=c:=by simpa using z
        rw[e];calc hc,U⟩
    erw[5,4,?_];refine Y7 (λ_=>?_) (λ_=>?_)
    .let#[c,hc,f]:=pick (b / 1368+g / 36);exact{5,8,{∅,∅},8,{∅,∅},1,1,HL,aZ,_,c,7,X4,hc,1,fit c,step c f}
    .erw[0,8,4,?_];refine Y7 (λ_=>?_) (λ_=>?_)
     .let#[c,hc,f]:=pick (b / 49248+g);exact{5,8,{∅,∅},8,1,HL,aZ,_,c,7,X4,hc,1,fit c,step c f}
     .let#[c,hc,f]:=pick (b / 3+(0+(i:Int))*(1+b%7));exact{5,8,{∅,∅},0,8,zi_7,1,1,.inl {(),()},1,1,HL,aZ,_,c,7,X4,hc,1,fit c,step c f}
   .rintro Z H2 ⟨y,o,rfl,p,j,rfl⟩;calc{0,k y {(),(),j}}
def aY:Sp:=λvs H Q _=>∃(p q:qc)(a b:qb×qb),vs=[.ref p,.ref q]/\H p=@(.tup [.str a.1,.str a.2])/\H q=@(.tup [.str b.1,.str b.2])/\Q (.bl (Ko a b)) H
def Mj:Sp:=λvs H Q _=>∃(r:qc)(prs:qa VH)(nm:qb),vs=[.ref r,.str nm]/\Kw H r prs/\Ny prs/\-prs<=40/\(prs.map (·.2.1)).Nodup/\vR (prs.map (·.2))/\nm∈prs.map (·.2.1)/\∀l H',H l=none->Qi H H'->H' l=@(.lst ((QO (prs.map (·.2)) nm).map V.str))->Q (.ref l) H'
def Fq:Sp:=λvs H Q _=>∃(r:qc)(prs:qa VH),vs=[.ref r]/\Kw H r prs/\Ny prs/\-prs<=40/\(prs.map (·.2.1)).Nodup/\vR (prs.map (·.2))/\∀l H' ls,H l=none->Qi H H'->(∀p∈ls,H p.1=none/\p.1≠l)->ls.map (·.2)=YO (prs.map (·.2)) (QH (prs.map (·.2.1)))->Xd H' l ls->Q (.ref l) H'
def SK:T.k ja 1 23 aY:=by
 refine T.ok 23 (λi A outer st H vs Q E m h=>?_) (λvs H Q E h=>by let#[p,q,a,b,U,_]:=h;rfl)
 .let#[p,q,x,y,U,j,l,k]:=h;erw[_,(Qe (Qm (OV (YI Yk (Ql Qx `a Qf) (Ql Qx `b Qf)) (OV (YI Yk (Ql Qx `b Qf) (Ql Qx `a Qf)) (Vl (UP (YI UX (Ql Qx `a Qf) QC) (Vl (YI Yk (Ql Qx `a Qf) (Ql Qx `b Qf))))))))),?_];let c:z5 K H p [.str x.1,.str x.2]:=z5.of j;let e:z5 K H q [.str y.1,.str y.2]:=z5.of l;unfold Ko at k;erw[0,p,3,c,4,q,3,e,U,4,?_];rw[Vy]
  cases f:decide (x.2=y.1) with
  |true=>
   rw[f] at k;calc Q7 k
  |false=>
   rw[f] at k;calc QQ {0,q,3,e,4,p,3,c,U,4,?_};rw[Vy]
   cases g:decide (y.2=x.1) with
   |true=>
    rw[g] at k;calc Q7 k
   |false=>
    rw[g] at k;calc QQ {0,p,3,c,U,4,?_};rw[Vy];by_cases d:x.2=""
    .rw[qw d];rw[qK (λz=>z d)] at k;exact QQ k
    .rw[qK d];rw[qw d] at k;calc Q7 {0,p,3,c,4,q,3,e,7,?_};rw[Vy];calc k
def GW:T.k ja 2 24 Mj:=by
 refine T.ok 24 (λY A outer st H vs Q E hr h=>?_) (λvs H Q E h=>by let#[r,prs,nm,U,_]:=h;rfl)
 .let#[r,prs,nm,U,x,O,R,I,ne,hn,k]:=h;let y:=hr.units;refine⟨_,(Qc (Qr (i:=2) (sc 24).nd (Yh (sc:=Qs (sO 24)) (N:=(nn 24)) (fr:=[(1,"_law_name")]) (xV rfl rfl) rfl rfl rfl (QI `a) (λ_ _ _ _=>YW (Qp Yk (Ql (Ue K) `a Qf) `b)) (λ_ _ _ _=>`a)))
   (Qc (Qr (i:=3) (sc 24).nd Qf)
   (Qc (DK zl (Qp DQ `d (Qn Qz rfl (T 4) zf (q9 `c Qg))) (Qc (Qr (i:=2) (sc 24).nd (Qv OZ `c (Yh (sc:=Qs (sO 24)) (N:=(nn 24)) (fr:=[(2,"_law_found"),(3,"_law_at")]) (xV rfl rfl) rfl rfl rfl (QI `a) (λ_ _ _ _=>YW (PW.pt (Kf (Qp (FN K y) `a `b (by with_unfolding_all rfl)) (WL (YD (T.cl (SK T) (q9 `a (q9 (Ql (Yi K) `b `c) Qg)))))))) (λ_ _ _ _=>`a))))
   (Qe (Qr (i:=3) (sc 24).nd (Qv Yb `d Qf)))))
   (Qe (Qm (Qn WB rfl (T 9) boot_sorted (q9 (Yh (sc:=Qs (sO 24)) (N:=(nn 24)) (fr:=[]) (xV rfl rfl) rfl rfl rfl (QI `c) (λ_ _ _ _=>Ud) (λ_ _ _ _=>(Ql (Ue K) `a Qf))) Qg))))))),?_⟩
  let d:∀m:Nat,m<=40->m<=sizeLine:=λm h=>QT ();erw[0,r,U,{_,zm.of x.1},U1 (K:=K) (xs:=prs) (λq=>V.ref q.1) (λq=>decide (q.2.1=nm)) (λq=>V.ref q.1) (d _ R) (zm.of x.1) ?_ ?_ ?_]
  .intro q g Q' n s3 c;erw[0,q.1,3,z5.of (s3 _ _ (x.2 q n)),4,4,?_];rw[Vy];exact c
  .intro q g Q' n s3 _ c;exact{0,c}
  .intro D hD;let s1:Qi H (upd H D (.lst ((prs.filter λq=>decide (q.2.1=nm)).map λq=>V.ref q.1))):=Qi.zg hD;let J:(upd H D (.lst ((prs.filter λq=>decide (q.2.1=nm)).map λq=>V.ref q.1))) D=@(.lst ((prs.filter λq=>decide (q.2.1=nm)).map λq=>V.ref q.1)):=Qd;let X:=LW.start I hn;show VB _ _ _ _ (upd H D (.lst ((prs.filter λq=>decide (q.2.1=nm)).map λq=>V.ref q.1)));generalize upd H D (.lst ((prs.filter λq=>decide (q.2.1=nm)).map λq=>V.ref q.1))=H1 at s1 J;generalize (prs.filter λq=>decide (q.2.1=nm))=S0 at J X;refine⟨λm Z H2=>∃(S:qa VH)(at':Nat)(f:qc),m=-prs+1-at'/\Z=[@(.ref r),@(.str nm),@(.ref f),@(.int (at':Int))]/\Qi H H2/\H2 f=@(.lst (S.map λq=>V.ref q.1))/\LW prs nm S at'/\at'<=-S,
    {_,S0,(0),D,7,s1,J,X,qR _},?_⟩
   rintro m Z H2 ⟨S,at',f,rfl,rfl,s2,u,w,hat⟩;let wl:=w.len;erw[5,f,0,.inl (zm.of u),2,4,?_];rw[qh];by_cases L:at'< -S
   .rw[qw (by omega:(at':Int)<(-S:Int))];calc Q7 {_,λZ' H' z=>z,?_};let b:=x.same s2;obtain⟨t,v⟩:∃q,S[at']?=some q:={S[at'],ql L};let B:t∈prs:=w.sub _ (ze v);erw[5,r,U,{_,zm.of b.1},U1 (K:=K) (xs:=prs) (λq=>V.ref q.1) (λq=>!(S.any λs=>decide (s.2=q.2))&&Ko q.2 t.2) (λq=>V.ref q.1) (d _ R) (zm.of b.1) ?_ ?_ ?_]
    .intro q g Q' n s3 c;let hS:∀s∈S,g s.1=@(.tup [.str s.2.1,.str s.2.2]):=λs p=>s3 _ _ (b.2 s (w.sub s p));let C:Ny S:=λs p=>O s (w.sub s p);erw[5,XB q,S.map XB,Oy (s3 _ _ (b.2 q n)),.lst (zm.of (s3 _ _ u)) (DB hS),(Ep C).1,vW (Fx (O q n)),(by show 1<=20;decide),0,?_];let F:((S.map XB).any λe=>PyData.eqv e (XB q))=S.any λs=>decide (s.2=q.2):=by
      rw[List.any_map];congr 1;funext s;exact Tw s q
     rw[qE rfl,F]
     cases o:(S.any λs=>decide (s.2=q.2)) with
     |true=>
      rw[o] at c;calc QQ c
     |false=>
      rw[o] at c;refine Q7 {0,5,f,3,zm.of (s3 _ _ u),(by rw[Qy (j:=at') (by rw[qD,v];rfl)]),q.1,t.1,q.2,t.2,U,s3 _ _ (b.2 q n),s3 _ _ (b.2 t B),0,c}
    .intro q g Q' n s3 _ c;exact{0,c}
    .intro o p;let M:H o=none:=s2.free p;let hw:=w.step I ne v;let C:=hw.len;let F:(prs.filter λq=>!(S.any λs=>decide (s.2=q.2))&&Ko q.2 t.2)=En prs S t:=rfl;rw[F];generalize En prs S t=N at hw C;rw[qo] at C;let fD:f≠o:=Qb u p;erw[f,o,1,(Qa fD<|u),Qd,(qh<|qh<|d _ ()),λf2 G=>?_];let s3:Qi H (upd H2 o (.lst (N.map λq=>V.ref q.1))):=s2.zP M;generalize upd H2 o (.lst (N.map λq=>V.ref q.1))=g at s3 G;let s4:Qi H (upd g f2 (.lst ((S.map λq=>V.ref q.1)++N.map λq=>V.ref q.1))):=s3.zP (s3.free G);let e4:(upd g f2 (.lst ((S.map λq=>V.ref q.1)++N.map λq=>V.ref q.1))) f2=@(.lst ((S++N).map λq=>V.ref q.1)):=by rw[Qd,qB]
     erw[8,?_];erw[-prs+1-(at'+1),(),S++N,at'+1,f2,U,?_,s4,e4,hw,by rw[qo];omega];show[@(V.ref r),@(V.str nm),@(V.ref f2),@(V.int ((at':Int)+1))]=_;rw[show((at'+1:Nat):Int)=(at':Int)+1 by omega]
   .rw[qK (by omega:¬(at':Int)<(-S:Int))];calc QQ ?_;let b:=x.same s2;erw[0,f,U,{_,zm.of u},Ay (K:=K) (xs:=S) (λq=>V.ref q.1) (λq=>V.str q.2.1) (d _ ()) (zm.of u) ?_ ?_]
    .intro q g Q' n s3 c;exact{0,q.1,3,z5.of (s3 _ _ (b.2 q (w.sub q n))),U,c}
    .intro o p;let em:(S.map λq=>V.str q.2.1)=(S.map (·.2.1)).map V.str:=by rw[qI];rfl
     rw[em];erw[o,S.map (·.2.1),U,zm.of Qd,by rw[qh];omega,λl c=>?_];let s3:Qi H (upd H2 o (.lst ((S.map (·.2.1)).map V.str))):=s2.zP (s2.free p);generalize upd H2 o (.lst ((S.map (·.2.1)).map V.str))=g at s3 c;rw[w.done I ne ()];calc k l _ (s3.free c) (s3.zP (s3.free c)) Qd
def BB:∀{ts:qa (qe)},(∀t∈ts,∀x∈t,ya x)->PyData.canLayAll0 (ts.map λt=>PyData.list (t.map PyData.str))=true/\PyData.depthAll (ts.map λt=>PyData.list (t.map PyData.str))<=1
 |[],_=>{U,qR _}
 |t::ts,h=>by
  let#[a1,a2]:=BB (ts:=ts) λz hz=>h z (qy _ hz);let#[a,b]:=Ws (xs:=t) (h t qA);rw[qZ];erw[?_,?_]
  .show(PyData.canLayAll0 (t.map PyData.str)&&PyData.canLayAll0 (ts.map λt=>PyData.list (t.map PyData.str)))=true;rw[a,a1];rfl
  .show max (PyData.depthAll (t.map PyData.str)+1) (PyData.depthAll (ts.map λt=>PyData.list (t.map PyData.str)))<=1;omega
def WK{K:Frag}{H:Hp}:∀{ls:qa (qc×qe)},(∀p∈ls,H p.1=@(.lst (~~~p.2)))->xq K H (ls.map λp=>V.ref p.1) ((ls.map (·.2)).map λt=>PyData.list (t.map PyData.str))
 |[],_=>.nil
 |p::ls,h=>.cons (Ce (zm.of (h p qA))) (WK λq a=>h q (qy _ a))
def HU{prs:qa VH}(a:Ny prs){n:qb}(h:x∈QO (prs.map (·.2)) n):ya x/\-x<=1000:=by
 let#[r,c,U]:=qj.mp (Vv.mp h).1;let#[q,b,U]:=qj.mp c;calc{(a q b).1,(a q b).2.2}
def D1:T.k ja 3 25 Fq:=by
 refine T.ok 25 (λcdv A outer st H vs Q E hr h=>?_) (λvs H Q E h=>by let#[r,prs,U,_]:=h;rfl)
 .let#[r,prs,U,hR,M,O,nd,ne,k]:=h;let B:=hr.units;let R:∀m:Nat,m<=40->m<=sizeLine:=λm h=>QT ();refine⟨_,(Qc (Qr (i:=1) (sc 25).nd (WO Qo))
   (Qc (YA zl rfl (QI (Qn WB rfl (T 9) boot_sorted (q9 (Yh (sc:=Qs (sO 25)) (N:=(nn 25)) (fr:=[]) (xV rfl rfl) rfl rfl rfl (QI `a) (λ_ _ _ _=>Ud) (λ_ _ _ _=>(Ql (Ue K) `a Qf))) Qg))) (QX (i:=2) (sc 25).nd) (Qc (Qr (i:=3) (sc 25).nd (T.cl (GW T) (q9 `a (q9 `c Qg))))
   (Qe (QE (Qp (Bp B) `d `b (by with_unfolding_all rfl)) (Qe (Qq (Uj plainAttrs_list za zb QW `b (q9 `d Qg)))) Qu))))
   (Qe (Qm `b)))),?_⟩
  erw[Xf,λq S=>?_];let s1:Qi H (upd H q (.lst [])):=Qi.zg S;let X:(upd H q (.lst [])) q=@(.lst []):=Qd;show VB _ _ _ _ (upd H q (.lst []));generalize upd H q (.lst [])=H1 at s1 X;let j:=hR.same s1;erw[0,r,U,{_,zm.of j.1},Ay (K:=K) (xs:=prs) (λq=>V.ref q.1) (λq=>V.str q.2.1) (R _ O) (zm.of j.1) ?_ ?_]
  .intro z H3 Q' hz s3 b;exact{0,z.1,3,z5.of (s3 _ _ (j.2 z hz)),U,b}
  .intro D hD;let em:(prs.map λq=>V.str q.2.1)=(prs.map (·.2.1)).map V.str:=by rw[qI];rfl
   rw[em];erw[D,prs.map (·.2.1),U,zm.of Qd,by rw[qh];omega,λl n=>?_];let s2:Qi H (upd H1 D (.lst ((prs.map (·.2.1)).map V.str))):=s1.zP (s1.free hD);let Y:(upd H1 D (.lst ((prs.map (·.2.1)).map V.str))) q=@(.lst []):=by rw[Qa (Qb X hD)];exact X
   generalize upd H1 D (.lst ((prs.map (·.2.1)).map V.str))=H2 at s2 Y n;generalize o:QH (prs.map (·.2.1))=ns;let nsm:∀m∈ns,m∈prs.map (·.2.1):=λm hm=>by rw[<-o] at hm;exact Uc.mp hm
   let nsl:-ns<=40:=by rw[<-o,Yq,qh];exact O
   let s3:Qi H (upd H2 l (.lst (~~~ns))):=s2.zP (s2.free n);let lq:l≠q:=(Qb Y n).symm;let q3:(upd H2 l (.lst (~~~ns))) q=@(.lst []):=by rw[Qa lq.symm];exact Y
   let l3:(upd H2 l (.lst (~~~ns))) l=@(.lst (~~~ns)):=Qd;generalize upd H2 l (.lst (~~~ns))=H3 at s3 q3 l3;refine⟨l,U,{_,zm.of l3},YF (K:=K) (a:=l) (xs:=ns.map V.str) (λi Z s=>∃(ls:qa (qc×qe))(I J:uf V),Z=[@(.ref r),@(.ref q),I,J]/\Qi H s/\Xd s q ls/\(∀z∈ls,H z.1=none/\z.1≠q)/\ls.map (·.2)=YO (prs.map (·.2)) (ns.take i)/\s l=@(.lst (~~~ns)))
    {[],none,none,U,s3,#[q3,nofun],nofun,U,l3} ?_ ?_ ?_⟩
   .rintro i Z s _ ⟨ls,I,J,rfl,s4,u,hz,d,C⟩;exact zm.of C
   .rintro i v Z s F ⟨ls,I,J,rfl,s4,u,hz,d,C⟩;obtain⟨nm,hy,rfl⟩:∃y,ns[i]?=some y/\V.str y=v:=by
     rw[qD] at F
     cases e:ns[i]? with
     |none=>rw[e] at F;cases F
     |some t=>rw[e] at F;exact{t,U,qT F}
    let et:ns.take (i+1)=ns.take i++[nm]:=by rw[zw,hy];rfl
    let hnm:nm∈prs.map (·.2.1):=nsm nm (ze hy);let hll:-ls<=40:=by
     have:=zp List.length d;rw[qh] at this;let f:=Xg (fK:=prs.map (·.2)) (ns.take i);rw[zC] at f;omega
    rw[et,Kz];erw[5,r,prs,nm,U,hR.same s4,M,O,nd,ne,hnm,λL H5 n5 s5 e5=>?_];let b:Xd H5 q ls:={s5 _ _ u.1,λz c=>s5 _ _ (u.2 z c)};let G:L≠q:=(Qb u.1 n5).symm;let asc:∀t∈ls.map (·.2),∀x∈t,ya x:=λt ht x hx=>by
     rw[d] at ht;let#[y,_,U]:=VZ _ ht;exact(HU M hx).1
    let lay:=BB asc;let g:=Ws (xs:=QO (prs.map (·.2)) nm) λx hx=>(HU M hx).1;erw[5,.list ((QO (prs.map (·.2)) nm).map PyData.str),(ls.map (·.2)).map λt=>PyData.list (t.map PyData.str),Ce (zm.of e5),.lst (zm.of b.1) (WK b.2),lay.1,(by simp only[PyData.canLay0];calc g.1),?_,_,U,?_]
    .show PyData.depthAll ((QO (prs.map (·.2)) nm).map PyData.str)+1<=20;have:=g.2;omega
    .have ea:(((ls.map (·.2)).map λt=>PyData.list (t.map PyData.str)).any λe=>PyData.eqv e (.list ((QO (prs.map (·.2)) nm).map PyData.str)))=decide (QO (prs.map (·.2)) nm∈YO (prs.map (·.2)) (ns.take i)):=by
      rw[<-d,List.any_map,jN,yV,decide_eq_true_iff];constructor
      .rintro⟨t,h1,f⟩;let f:PyData.eqv (.list (t.map PyData.str)) (.list ((QO (prs.map (·.2)) nm).map PyData.str))=true:=f;rw[EG] at f;rw[<-qL f];exact h1
      .intro h;erw[_,h,?_];show PyData.eqv (.list ((QO (prs.map (·.2)) nm).map PyData.str)) (.list ((QO (prs.map (·.2)) nm).map PyData.str))=true;rw[EG];exact qw rfl
     rw[qE rfl,ea];unfold UI;by_cases f:QO (prs.map (·.2)) nm∈YO (prs.map (·.2)) (ns.take i)
     .rw[qw f];calc QQ {ls,2,s4.trans s5,b,hz,?_,s5 _ _ C};rw[qE f];exact d
     .rw[qK f];calc Q7 {0,.inl {U,_,zm.of b.1},0,q,1,b.1,(qh<|QA ()),?_};let eL:(ls.map λp=>V.ref p.1)++[V.ref L]=(ls++[((L,QO (prs.map (·.2)) nm):qc×qe)]).map λp=>V.ref p.1:=by rw[qB];rfl
      rw[eL];erw[ls++[((L,QO (prs.map (·.2)) nm):qc×qe)],2,(s4.trans s5).zP S,{Qd,λz c=>?_},λz c=>?_,?_,Qa lq<|s5 _ _ C]
      .rcases qq.mp c with y|y
       .rw[Qa (hz z y).2];exact b.2 z y
       .rw[qk.mp y,Qa G];exact e5
      .rcases qq.mp c with y|y
       .exact hz z y
       .rw[qk.mp y];exact{s4.free n5,G}
      .rw[qC f,qB,d];rfl
   .rintro Z s ⟨ls,I,J,rfl,s4,u,hz,d,C⟩;rw[qh,zZ] at d;calc{0,k q s ls S s4 hz (o<|d) u}
structure Kv(ws:qe):Prop where
 len:-ws=6
 w:∀x∈ws,YH x/\-x<=11
 ib:Zj∈ws
def ar:∀n:Nat,n<4->-(Str.ofString (toString (n:Int)))=1/\((Str.ofString (toString (n:Int))).cps.toList.all λc=>decide (c∈aZ.cps.toList))=true:=by decide +kernel
def ND(h:YH x)(a:n<4):YH (Txt.slice x none (some 10)++Str.ofString (toString (n:Int)))/\-(Txt.slice x none (some 10)++Str.ofString (toString (n:Int)))<=11:=by
 let#[b,d]:=ar n a;let e:(Txt.slice x none (some 10)).cps.toList=x.cps.toList.take 10:=GA x 10;let f:-(Txt.slice x none (some 10))<=10:=BL x 10;let g:-(Txt.slice x none (some 10)++Str.ofString (toString (n:Int)))=-(Txt.slice x none (some 10))+1:=by rw[YM,AA,qo,<-YM,<-YM,b]
 erw[{(),(),λc hc=>?_},()];rw[AA,e] at hc;obtain z|z:=qq.mp hc
 .exact h.vh c (yi z)
 .exact qL (zu.mp d c z)
def NF(h:(decide (1<=-x)&&(decide (-x<=11)&&x.cps.toList.all λc=>decide (c∈aZ.cps.toList)))=true:=by decide +kernel):YH x/\-x<=11:=by
 rw[qY,qY,zB,zB,zu] at h;calc{{h.1,(),λc hc=>qL (h.2.2 c hc)},h.2.1}
inductive T7(vs:qa V)(H:Hp)(Q:VK)(E:XK):Prop
 |mk:∀(dr:qc)(ds:qa Int),vs=[.ref dr]->H dr=some (.lst (ds.map V.int))->1<=-ds->(∀r∈ds,0<=r/\r<2147483629)->(∀l ws H',H l=none->Qi H H'->H' l=some (.lst (~~~ws))->Kv ws->Q (.ref l) H')->T7 vs H Q E
def bE:T.k ja 2 26 T7:=by
 sleep 26
 .let#[r,ds,U,b,I,t,k]:=h;refine⟨_,(Qc (Vk (sc:=Qs (sO 26)) (N:=(nn 26)) (i:=1) (fr:=[(0,"_law_draws_here")]) (xV rfl rfl) rfl rfl rfl (sc 26).nd U rfl (Vd rfl (T 28) (q9 Qf Qg)) (λ_ _ _ _=>Ud) (λ_ _ _ _=>(Qv Q8 (UU B8 (T.cl (MH T) (q9 (Ql (Yi K) `b Qf) (q9 `a Qg))) V3 (U9 Qf)) (YC Vc rfl (T 18) boot_str (q9 `a Qg)))))
   (Qe (Qm (Qv Cj (QN (Qh QC (Qh QC Qo))) `b)))),?_⟩
  let#[u,v,d,f]:=YS t 0 ∅ ();erw[0,∅,∅,EO (n:=4) (λi ys=>∃ws:qe,ys=ws.map V.str/\-ws=i/\∀x∈ws,YH x/\-x<=11) ∅ {[],7,λ_ z=>nomatch z} (λi ys #[ws,e,c,_]=>by rw[e,qh,c]) ?_ ?_]
  .rintro i ys g Q' hi ⟨ws,rfl,c,hw⟩ s3 q;erw[0,r,3,zm.of (s3 _ _ b),v,0,u,0+(i:Int),U,d,f,(),(),λy o=>?_];let hc:=ND o hi;let B:=o.hi;let j:(0:Int)+(i:Int)=((i:Nat):Int):=by omega
   erw[0,y,U,QT (),5,(j<|xH<|jk (kP _) ()),1,?_,?_]
   .rw[j];let m:-(Txt.slice y none (some 10))<=10:=BL y 10;let C:=(ar i hi).1;exact QT ()
   .rw[j];calc q _ g {ws++[_],by rw[qB];rfl,by rw[qo,qW,c],λz hz=>?_} (Qi.refl g);obtain m|m:=qq.mp hz
    .exact hw z m
    .rw[qk.mp m];exact hc
  .rintro D ys H2 J ⟨ws,rfl,c,hw⟩ s2 j;erw[Y6,λm g L s3 o=>{0,m,D,1,o,s3 _ _ j,?_,λl B C s4 F=>?_}]
   .rw[qh,c];decide
   .refine k l (Zj::Zs::ws) B ((s2.trans s3).free C) ((s2.trans s3).trans s4) F {by rw[qU,qU,c],λx b=>?_,qA};obtain rfl|b:=qx.mp b
    .exact NF
    .rcases qx.mp b with rfl|b
     .exact NF
     .exact hw x b
section
open PySem.Spec PyProof.Rows
def YG(x y:qb):(x++y).cps.toList=x.cps.toList++y.cps.toList:=by show(x.cps++y.cps).toList=_;simp
def HQ(x y:qb):yK (x++y).cps.toList=y.cps.toList.foldl yA (yK x.cps.toList):=by
 unfold yK;rw[YG,jz]
def Am(f:Nat->Nat):∀(l:qa Nat)(L:qe)(a:qb),(∀c∈l,WY (f c)=true/\lo1 (f c)=c)->(l.map f).foldl yA (L,a)=(L,a++Str.mk l.toArray)
 |[],L,a,_=>by show(L,a)=(L,{a.cps++#[]});rw[Array.append_empty]
 |c::l,L,a,h=>by
  let#[b,g]:=h c (qA ..);rw[qZ,zD];let e:yA (L,a) (f c)=(L,a++Str.mk [c].toArray):=by unfold yA;rw[qE b,g]
  rw[e,Am f l L _ λd hd=>h d (qy _ hd)];congr 1;show({(a.cps++[c].toArray)++l.toArray}:qb)={a.cps++(c::l).toArray};congr 1;apply Array.ext';simp
def cy:(aZ.cps.toList.all λc=>WY c&&decide (lo1 c=c)&&WY (up1 c)&&decide (lo1 (up1 c)=c)&&decide (c≠10)&&decide (up1 c≠10))=true:=by decide +kernel
def L4{c:Nat}(h:c∈aZ.cps.toList):(WY c=true/\lo1 c=c)/\(WY (up1 c)=true/\lo1 (up1 c)=c)/\c≠10/\up1 c≠10:=by
 have:=zu.mp cy c h;simp only[qY,zB] at this;let#[#[#[#[#[a,b],g],d],e],f]:=this;calc{#[a,b],#[g,d],e,f}
def Ng{w:qb}(hw:YH w)(L:qe):w.cps.toList.foldl yA (L,Str.empty)=(L,w):=by
 have:=Am id w.cps.toList L Str.empty λc hc=>(L4 (hw.vh c hc)).1;rw[List.map_id] at this;rw[this];congr 1;show({#[]++w.cps.toList.toArray}:qb)=w;simp
def Hs{w:qb}(hw:YH w)(L:qe):({w.cps.map up1}:qb).cps.toList.foldl yA (L,Str.empty)=(L,w):=by
 have:=Am up1 w.cps.toList L Str.empty λc hc=>(L4 (hw.vh c hc)).2.1;let e:({w.cps.map up1}:qb).cps.toList=w.cps.toList.map up1:=by simp
 rw[e,this];congr 1;show({#[]++w.cps.toList.toArray}:qb)=w;simp
def Wrt(w y:qb):Prop:=y=w\/y={w.cps.map up1}
def Wrt.fold{w:qb}(h:Wrt w y)(hw:YH w)(L:qe):y.cps.toList.foldl yA (L,Str.empty)=(L,w):=by
 obtain rfl|rfl:=h
 .exact Ng hw L
 .exact Hs hw L
def Wrt.asc{w:qb}(h:Wrt w y)(hw:YH w):ya y/\¬10∈y.cps.toList/\-y=-w:=by
 obtain rfl|rfl:=h
 .exact{hw.asc,λh=>(L4 (hw.vh _ h)).2.2.1 rfl,U}
 .erw[hw.asc.upper,λh=>?_,by simp[Str.length]];have:10∈w.cps.toList.map up1:=by simpa using h
  let#[d,hd,e]:=qj.mp this;calc(L4 (hw.vh _ hd)).2.2.2 e
def UJ(x y:qb):-(x++y)=-x+-y:=by simp only[Str.length];show(x.cps++y.cps).size=_;simp
def Eb(h:1<=-x):x≠("":qb):=λz=>by rw[z] at h;calc absurd h ∅
def XQ:∀(xs acc:qe),acc.Nodup->(xs.foldl YT acc).Nodup
 |[],_,h=>h
 |x::xs,acc,h=>by
  rw[zD];calc XQ xs _ ?_;unfold YT;split
  .exact h
  .rename_i c
   rw[jo];erw[h,by simp,λa d b f e=>?_];rw[qk.mp f] at e;calc c (e▸d)
def Sy(xs:qe):(UQ xs).Nodup:=XQ xs [] zH
def Ab:∀{xs ys:qe},xs.Nodup->(∀x∈xs,x∈ys)->-xs<=-ys
 |[],_,_,_=>qR _
 |x::xs,ys,a,h=>by
  rw[zN] at a;let b:=h x (qA ..);have:-xs<=-(ys.erase x):=Ab a.2 λz hz=>(List.mem_erase_of_ne (λ(e:z=x)=>a.1 (by rw[<-e];calc hz))).mpr (h z (qy _ hz));rw[List.length_erase_of_mem b] at this;have:0< -ys:=List.length_pos_of_mem b;rw[qU];omega
end
abbrev Sep(g:qb):Prop:=(g.cps.toList.all λc=>!(WY) c&&decide (c<128))=true
structure vN(ws:qe)(x:qb):Prop where
 l:∀w∈(yK x.cps.toList).1,w=Str.empty\/w∈ws
 c:(yK x.cps.toList).2=Str.empty\/(yK x.cps.toList).2∈ws
 a:ya x
def EC(ws:qe):∀(l:qa Nat)(L:qe)(c:qb),(∀z∈l,WY z=false)->(∀w∈L,w=Str.empty\/w∈ws)->(c=Str.empty\/c∈ws)->(∀w∈(l.foldl yA (L,c)).1,w=Str.empty\/w∈ws)/\((l.foldl yA (L,c)).2=Str.empty\/(l=[]/\(l.foldl yA (L,c)).2=c))
 |[],L,c,_,a,_=>{a,.inr #[U,U]}
 |z::l,L,c,h,a,hc=>by
  let e:yA (L,c) z=(L++[c],Str.empty):=by unfold yA;rw[h z qA];rfl
  rw[zD,e];let#[b,d]:=EC ws l (L++[c]) Str.empty (λy f=>h y (qy _ f)) (λw hw=>(qq.mp hw).elim (a w) λq=>qk.mp q<|hc) (.inl rfl);calc{b,.inl (d.elim id λq=>q.2)}
def vN.nil(ws:qe):vN ws "":={λw h=>(nomatch (show w∈([]:qe) from h)),.inl rfl,λc h=>(nomatch (show c∈([]:qa Nat) from h))}
def vN.sep{g:qb}(h:vN ws x)(b:Sep g):vN ws (x++g)/\(g.cps.toList≠[]\/(yK x.cps.toList).2=Str.empty->(yK (x++g).cps.toList).2=Str.empty):=by
 let hz:=zu.mp b;let d:∀z∈g.cps.toList,WY z=false:=λz q=>by have:=hz z q;rw[qY] at this;simpa using this.1
 let#[f,a]:=EC ws g.cps.toList (yK x.cps.toList).1 (yK x.cps.toList).2 d h.l h.c;let e:=HQ x g;rw[show(yK x.cps.toList)=((yK x.cps.toList).1,(yK x.cps.toList).2) from rfl] at e;erw[{e<|f,by rw[e];calc a.elim .inl λq=>q.2<|h.c,λc hc=>?_},λq=>by rw[e];calc a.elim id λz=>z.2.trans (q.elim (λy=>absurd z.1 y) id)];rw[YG] at hc;obtain q|q:=qq.mp hc
 .exact h.a c q
 .have:=hz c q;rw[qY] at this;calc qL this.2
def vN.word{w:qb}(h:vN ws x)(hc:(yK x.cps.toList).2=Str.empty)(hw:YH w)(hm:w∈ws)(a:Wrt w y):vN ws (x++y):=by
 let e:yK (x++y).cps.toList=((yK x.cps.toList).1,w):=by rw[HQ,show(yK x.cps.toList)=((yK x.cps.toList).1,(yK x.cps.toList).2) from rfl,hc];exact a.fold hw _
 erw[e<|h.l,e<|.inr hm,λc hc=>?_];rw[YG] at hc;calc(qq.mp hc).elim (h.a c) ((a.asc hw).1 c)
def vN.j3(h:vN ws x):∀w∈L2.j3 x,w∈ws:=λw hw=>by
 let#[b,a]:=qG.mp hw;let hf:w≠Str.empty:=λz=>by rw[z] at a;exact absurd a ∅
 obtain q|q:=qq.mp b
 .exact(h.l w q).resolve_left hf
 .rw[qk.mp q] at hf⊢;calc h.c.resolve_left hf
def cv{z:Int}(a:0<=z)(b:z<4):∃g:qb,xm [V.str " ",V.str ", ",V.str "-",V.str "! "] z=@(.str g)/\Sep g/\g.cps.toList≠[]/\¬10∈g.cps.toList/\-g<=2:=by
 obtain rfl|rfl|rfl|rfl:=(by omega:z=0\/z=1\/z=2\/z=3)
 .exact{_,Qy (j:=0) rfl,∅,∅,∅,∅}
 .exact{_,Qy (j:=1) rfl,∅,∅,∅,∅}
 .exact{_,Qy (j:=2) rfl,∅,∅,∅,∅}
 .exact{_,Qy (j:=3) rfl,∅,∅,∅,∅}
inductive Ij(vs:qa V)(H:Hp)(Q:VK)(E:XK):Prop
 |mk:∀(d:Int)(wl:qc)(ws:qe),vs=[.int d,.ref wl]->0<=d->d<2147483629->H wl=some (.lst (~~~ws))->Kv ws->(∀t H',Qi H H'->vN ws t->¬10∈t.cps.toList->-t<=60->Q (.str t) H')->Ij vs H Q E
def AU(h:Kv ws)(z:Int):∃x∈ws,xm (~~~ws) (z%((-(~~~ws):Nat):Int))=@(.str x):=by
 let#[v,a,hm,_]:=Gg (xs:=ws.map V.str) z (by rw[qh,h.len];decide);let#[x,b,U]:=qj.mp hm;exact#[x,b,a]
def O2:T.k ja 1 27 Ij:=by
 sleep 27
 .let#[f,wl,ws,U,h0,D,v,m,k]:=h;refine⟨_,(Qc (Qr (i:=2) (sc 27).nd QC)
   (Qc (YA zl rfl (Vd rfl (T 28) (q9 (Qv QS `a Qf) Qg)) (QX (i:=3) (sc 27).nd) (Qc (Qr (i:=4) (sc 27).nd (Ql Qw `b (Qv QS (Qv Ym `a Qf) (Qn Qz rfl (T 4) zf (q9 `b Qg)))))
   (Qc (QE (Qp Yk (Qv QS (Qv Ym `a Qf) Qf) Qf) (Qe (Qr (i:=4) (sc 27).nd (GP plainAttrs_str PySem.F.slot_str_upper PySem.F.type_str_upper Pt `e))) Qu)
   (Qc (Qr (i:=2) (sc 27).nd (Qv Q8 (Qv Q8 `c `e) (Ql Qw (QN (Qh QC (Qh QC (Qh QC (Qh QC Qo))))) (Qv QS (Qv Ym `a Qf) Qf))))
   (Qe (Qr (i:=0) (sc 27).nd (Qv QS (Qv Wm `a Qf) Qf)))))))
   (Qe (Qm (UU B8 `c V3 (U9 Qf)))))),?_⟩
  let m0:0<=f%4:=zq _ ∅;let m1:f%4<4:=zj _ ∅;dsimp only[Q9];refine⟨_,U,_,_,U,U,RS,_,U,(),(),VS (n:=(f%4).toNat) (λi Z G=>∃(d:Int)(x:qb)(o p:uf V),Z=[@(.int d),@(.ref wl),@(.str x),o,p]/\0<=d/\d<2147483629/\Qi H G/\vN ws x/\(yK x.cps.toList).2=Str.empty/\¬10∈x.cps.toList/\-x<=13*i)
   {f,"",none,none,U,h0,D,Qi.refl _,vN.nil ws,U,∅,∅} ?_ ?_⟩
  .rintro i Z G hi ⟨d,x,o,p,rfl,q,F,c,r,hc,u,I⟩;let#[j,hw,J]:=AU m (d / 4);let#[b,L]:=m.w j hw;erw[0,8,{∅,∅},0,wl,0,.inl (zm.of (c _ _ v)),1,(by rw[qh,m.len];decide),wl,3,zm.of (c _ _ v),J,?_];dsimp only[Q9];calc QZ (t:=VM _ _ _) λN M=>?_;let rest:∀y,Wrt j y->N [@(.int d),@(.ref wl),@(.str x),@(.int (0+(i:Int))),@(.str y)] G:=λy B=>by
    subst M;let O:0<=d / 60%4:=zq _ ∅;let R:d / 60%4<4:=zj _ ∅;let#[g,S,g1,g2,g3,g4]:=cv O R;let#[y1,X,y3]:=B.asc b;let l1:-(x++y)=-x+-y:=UJ x y;let l2:-(x++y++g)=-x+-y+-g:=by rw[UJ,UJ]
    let t1:=r.word hc b hw B;let#[Y,t3]:=t1.sep g1;erw[5,x,y,7,QT (),AJ,λl G1 nl s1 el=>?_];erw[8,{∅,∅},1,RS,l,3,zm.of el,S,1,QT (),?_];dsimp only[Q9];erw[8,.inl {(),()},1,AK,?_];let b0:0<=d*69621%2147483587:=zq _ ∅;let b1:d*69621%2147483587<2147483587:=zj _ ∅;erw[_,x++y++g,2,b0,(),c.trans s1,Y,t3 (.inl g2),?_,()];rw[YG,YG];exact λz=>(qq.mp z).elim (λz=>(qq.mp z).elim u X) g3
   erw[8,{∅,∅},1,zi_2,4,Y7 (λ_=>?_) λ_=>rest j (.inl rfl)];exact{_,7,j,7,b.asc,(),rest _ (.inr rfl)}
  .rintro Z G ⟨d,x,o,p,rfl,q,F,c,r,hc,u,I⟩;erw[5,x,U,QT (),?_];let e:Txt.slice x none (some 60)=x:=by
    calc K6 ?_;rw[show(Txt.slice x none (some 60)).cps.toList=x.cps.toList.take 60 from GA x 60,zG (by rw[<-YM];omega)]
   rw[e];calc k x G c r u ()
def gp(hd:qb)(i:Nat):qb:=hd++Str.ofString (toString ((i+1:Nat):Int))
def MQ:∀i:Nat,i<40->∀j:Nat,j<40->Str.ofString (toString ((i+1:Nat):Int))=Str.ofString (toString ((j+1:Nat):Int))->i=j:=by decide +kernel
def aw:∀c∈hS.cps.toList,c∈aZ.cps.toList:=by decide +kernel
def TF{z:qb}(h:x++y=x++z):y=z:=K6 (List.append_cancel_left (by rw[<-YG,<-YG,h]))
def bM(hi:i<40)(a:j<40)(h:gp hd i=gp hd j):i=j:=MQ i hi j a (TF h)
def LB(h:U3 hd)(hi:i<200):YH (gp hd i):=by
 let#[b,d,a]:=K8 (i+1) ();let f:=h.lo;let g:=h.hi;let e:-(gp hd i)=-hd+-(Str.ofString (toString ((i+1:Nat):Int))):=UJ _ _;erw[(),(),λc hc=>?_];unfold gp at hc;rw[YG] at hc;obtain z|z:=qq.mp hc
 .exact aw c (qL (zu.mp h.vh c z))
 .exact qL (zu.mp a c z)
structure Rw where
 r:qc
 nm:qb
 pu:qc
 p:LD
 bo:qb
 mq:qc
 ms:qe
variable {fK:qa Rw}
abbrev wF(p:LD):qa V:=[.str p.s,.str p.t,.str p.b,.int p.d,.str p.an]
structure AG(H:Hp)(own:qc->Nat)(x:Rw):Prop where
 e:H x.r=@(.lst [.str x.nm,.ref x.pu,.str x.bo,.ref x.mq])
 p:H x.pu=@(.tup (wF x.p))
 m:H x.mq=@(.lst (~~~x.ms))
 o:own x.r=7/\own x.mq=7
structure RwR(ws:qe)(g:Sg)(x:Rw):Prop where
 l:∃y,(#[x.nm,y,x.p]:LE)∈g.ls
 b:L2.up g.bx x.nm=some x.bo
 m:QH (g.mm x.nm)=x.ms
 bw:x.bo∈ws
 gd:VI x.p.s x.p.t x.p.b x.p.d x.p.an
structure xw where
 q:qc
 u:qc
 d:Dd
variable {ds:qa xw}
structure kX(H:Hp)(own:qc->Nat)(Rl Dl:qc)(fK:qa Rw)(ds:qa xw):Prop where
 el:H Rl=@(.lst (fK.map λx=>V.ref x.r))
 ed:H Dl=@(.lst (ds.map λx=>V.ref x.q))
 o:own Rl=7/\own Dl=7/\Rl≠Dl
 at_:∀x∈fK,AG H own x
 ne:∀x∈fK,(x.r≠Rl/\x.r≠Dl/\x.mq≠Rl/\x.mq≠Dl)/\∀y∈fK,x.r≠y.mq
 nr:(fK.map Rw.r).Nodup
 dd:∀x∈ds,DU H x.q x.u x.d
structure yF(hd:qb)(ws N:qe)(g:Sg)(fK:qa Rw)(ds:qa xw):Prop where
 nn:(fK.map Rw.nm).Nodup
 eq:g.rs.map Lr.d=ds.map xw.d
 nm:∀m,m∈fK.map Rw.nm↔m∈g.ls.map LE.nm
 rel:∀x∈fK,RwR ws g x
 Nn:∀m∈N,∃i,i<YK g.rs/\m=gp hd i
def yF.fresh(h:yF hd ws N g fK ds)(a:U3 hd)(b:-g.rs<=30):Uh hd g.rs∉N/\YH (Uh hd g.rs):=by
 let c:YK g.rs<=-g.rs:=qP _ _;erw[λz=>?_,LB a (i:=YK g.rs) ()];let#[i,hi,e]:=h.Nn _ z;have:YK g.rs=i:=bM () () (show gp hd (YK g.rs)=gp hd i from e);omega
def Ga{own:qc->Nat}{ys:qa V}(e:H c=@(.lst xs))(o:own c=7):yQ own 7 H (upd H c (.lst ys)):=λb d a z=>by
 let n:b≠c:=λy=>by
  rw[y] at a z;obtain z|z:=z
  .exact z o
  .rw[e] at a;cases a;cases z
 rw[Qa n];calc a
section
variable {H H':Hp}{own own':qc->Nat}{Rl Dl:qc}{fK:qa Rw}{ds:qa xw}
def AG.kl{x:Rw}(h:AG H own x)(k:KL own own' H H'):AG H' own' x:=by
 let#[a,b]:=k _ _ h.e (.inr (.inl h.o.1));let#[c,d]:=k _ _ h.m (.inr (.inl h.o.2));calc{a,(k _ _ h.p (.inr (.inr rfl))).1,c,b.trans h.o.1,d.trans h.o.2}
def kX.kl(h:kX H own Rl Dl fK ds)(k:KL own own' H H'):kX H' own' Rl Dl fK ds:=by
 let#[b,d]:=k _ _ h.el (.inr (.inl h.o.1));let#[f,g]:=k _ _ h.ed (.inr (.inl h.o.2.1));calc{b,f,{d.trans h.o.1,g.trans h.o.2.1,h.o.2.2},λx a=>(h.at_ x a).kl k,h.ne,h.nr,λx a=>(h.dd x a).mono λc xs e=>(k _ _ e (.inr (.inr rfl))).1}
def kX.quiet(h:kX H own Rl Dl fK ds)(s:Qi H H'):kX H' (QR own 7 H) Rl Dl fK ds:=h.kl (KL.same 7 s)
def AG.upd{x:Rw}{ys:qa V}(h:AG H own x)(e:H c=@(.lst xs))(a:x.r≠c)(b:x.mq≠c):AG (upd H c (.lst ys)) (QR own 7 H) x:=
 {Qa a<|h.e,Qa (QG h.p e λz=>nomatch z)<|h.p,Qa b<|h.m,(Qk h.e).trans h.o.1,(Qk h.m).trans h.o.2}
def CD{ys:qa V}(h:∀x∈ds,DU H x.q x.u x.d)(e:H c=@(.lst xs)):∀x∈ds,DU (upd H c (.lst ys)) x.q x.u x.d:=λx d=>(h x d).mono λb zs a=>by rw[Qa (QG a e λz=>nomatch z)];calc a
def kX.deed(h:kX H own Rl Dl fK ds)(hd:DU H q u d):kX (upd H Dl (.lst (ds.map (λx=>V.ref x.q)++[.ref q]))) (QR own 7 H) Rl Dl fK (ds++[#[q,u,d]])/\yQ own 7 H (upd H Dl (.lst (ds.map (λx=>V.ref x.q)++[.ref q]))):=by
 erw[{Qa h.o.2.2<|h.el,by rw[Qd,qB];rfl,{(Qk h.el).trans h.o.1,(Qk h.ed).trans h.o.2.1,h.o.2.2},λx a=>(h.at_ x a).upd h.ed (h.ne x a).1.2.1 (h.ne x a).1.2.2.2,h.ne,h.nr,CD (λx a=>?_) h.ed},Ga h.ed h.o.2.1];obtain z|z:=qq.mp a
 .exact h.dd x z
 .rw[qk.mp z];calc hd
def kX.row(h:kX H own Rl Dl fK ds){x x':Rw}(g:x∈fK)(e:x'.r=x.r)(o:x'.pu=x.pu)(p:x'.p=x.p)(em:H x'.mq=@(.lst (~~~x'.ms)))(r:own x'.mq=7)(k:x'.mq≠Rl/\x'.mq≠Dl)(l:∀y∈fK,y.r≠x'.mq) :
 kX (upd H x.r (.lst [.str x'.nm,.ref x'.pu,.str x'.bo,.ref x'.mq])) (QR own 7 H) Rl Dl (fK.map λy=>if y.r=x.r then x' else y) ds/\yQ own 7 H (upd H x.r (.lst [.str x'.nm,.ref x'.pu,.str x'.bo,.ref x'.mq])):=by
 let a:=h.at_ x g;let b:=h.ne x g;let m:∀y:Rw,(if y.r=x.r then x' else y).r=y.r:=λy=>by by_cases z:y.r=x.r<;>simp[z,e]
 let mem:∀z∈fK.map (λy=>if y.r=x.r then x' else y),z=x'\/(z∈fK/\z.r≠x.r):=λz hz=>by
  let#[y,c,U]:=qj.mp hz;by_cases q:y.r=x.r
  .exact .inl (qE q)
  .exact .inr {qC q<|c,qC q<|q}
 let s:(fK.map λy=>if y.r=x.r then x' else y).map (λx=>V.ref x.r)=fK.map λx=>V.ref x.r:=by
  rw[qI];exact js λy _=>zp V.ref (m y)
 let j:x'.mq≠x.r:=(l x g).symm;erw[{Qa b.1.1.symm<|s<|h.el,Qa b.1.2.1.symm<|h.ed,{(Qk h.el).trans h.o.1,(Qk h.ed).trans h.o.2.1,h.o.2.2},λz hz=>?_,λz hz=>?_,?_,CD h.dd a.e},Ga a.e a.o.1]
 .rcases mem z hz with rfl|⟨d,n⟩
  .exact{by rw[e,Qd],o<|p<|Qa (QG a.p a.e λz=>nomatch z)<|a.p,Qa j<|em,e<|(Qk a.e).trans a.o.1,(Qk em).trans r}
  .exact(h.at_ z d).upd a.e n (b.2 z d).symm
 .have all:∀y∈fK.map (λy=>if y.r=x.r then x' else y),∀w,(∃i∈fK,i.r=w)->w≠y.mq:=λy c w #[i,f,t]=>by
   subst t;obtain rfl|⟨d,_⟩:=mem y c
   .exact l i f
   .exact(h.ne i f).2 y d
  obtain rfl|⟨d,n⟩:=mem z hz
  .exact{{e▸b.1.1,e▸b.1.2.1,k.1,k.2},λy c=>all y c _ #[x,g,e.symm]}
  .exact{(h.ne z d).1,λy c=>all y c _ #[z,d,U]}
 .rw[show(fK.map λy=>if y.r=x.r then x' else y).map Rw.r=fK.map Rw.r by rw[qI];calc js λy _=>m y];calc h.nr
def kX.add(h:kX H own Rl Dl fK ds){x:Rw}(c:AG H own x)(n:(x.r≠Rl/\x.r≠Dl/\x.mq≠Rl/\x.mq≠Dl)/\x.r≠x.mq)(b:∀y∈fK,x.r≠y.mq/\y.r≠x.mq/\y.r≠x.r) :
 kX (upd H Rl (.lst (fK.map (λx=>V.ref x.r)++[.ref x.r]))) (QR own 7 H) Rl Dl (fK++[x]) ds/\yQ own 7 H (upd H Rl (.lst (fK.map (λx=>V.ref x.r)++[.ref x.r]))):=by
 erw[{by rw[Qd,qB];rfl,Qa h.o.2.2.symm<|h.ed,{(Qk h.el).trans h.o.1,(Qk h.ed).trans h.o.2.1,h.o.2.2},λz hz=>?_,λz hz=>?_,?_,CD h.dd h.el},Ga h.el h.o.1]
 .rcases qq.mp hz with q|q
  .exact(h.at_ z q).upd h.el (h.ne z q).1.1 (h.ne z q).1.2.2.1
  .rw[qk.mp q];exact c.upd h.el n.1.1 n.1.2.2.1
 .rcases qq.mp hz with q|q
  .exact{(h.ne z q).1,λy a=>(qq.mp a).elim ((h.ne z q).2 y) λw=>qk.mp w<|(b z q).2.1}
  .rw[qk.mp q];exact{n.1,λy a=>(qq.mp a).elim (λw=>(b y w).1) λw=>qk.mp w<|n.2}
 .rw[qB,jo];exact⟨h.nr,by simp,λy a z hz e=>by
   let#[w,hw,U]:=qj.mp a;rw[qk.mp hz] at e;calc(b w hw).2.2 e⟩
end
def Fe{nm u:qb}:L2.up (L2.without bx nm++[(nm,u)]) m=if m=nm then some u else L2.up bx m:=by
 let d:∀l:Rows,(L2.without l nm).find? (λr=>decide (r.1=m))=if m=nm then none else l.find? λr=>decide (r.1=m):=by
  intro l
  induction l with
  |nil=>by_cases h:m=nm<;>simp[L2.without,h]
  |cons r l c=>
   unfold L2.without at c⊢;by_cases b:r.1=nm
   .rw[yD (by simpa using b),c];by_cases h:m=nm
    .rw[qE h,qE h]
    .rw[qC h,qC h,jq (by simpa[b] using λz=>h z.symm)]
   .rw[kQ (by simpa using b)];by_cases a:r.1=m
    .rw[j6 (by simpa using a),j6 (by simpa using a),qC (λz=>b (a.trans z))]
    .rw[jq (by simpa using a),jq (by simpa using a),c]
 unfold L2.up;rw[List.find?_append,d];by_cases h:m=nm
 .rw[qE h,qE h];simp[h]
 .rw[qC h,qC h];have:¬nm=m:=λz=>h z.symm;simp[this]
def HS{nm u:qb}(h:nm∉bx.map (·.1)):L2.up (bx++[(nm,u)]) m=if m=nm then some u else L2.up bx m:=by
 have:=Fe (bx:=bx) (nm:=nm) (m:=m) (u:=u);rwa[aB h] at this
def cP{nm:qb}(h:m≠nm):L2.up (L2.without bx nm) m=L2.up bx m:=by
 have:=Fe (bx:=bx) (nm:=nm) (m:=m) (u:="");rw[qC h] at this;rw[<-this];unfold L2.up;rw[List.find?_append];have:¬nm=m:=λz=>h z.symm;simp[this]
def Ot{ms:qe}(b:ms.Nodup)(y:qb):QH (YR ms y)=SS (QH ms++[y]):=by
 let a:(YR ms y).Nodup:=by
  unfold YR;split
  .exact b
  .exact Yj b (by assumption)
 rw[<-BV a];calc WD λx=>?_;rw[qq,Uc];unfold YR;split
 .rename_i h
  exact{.inl,λz=>z.elim id λw=>qk.mp w<|h}
 .exact qq
def Oq{ms:qe}(a:ms.Nodup)(p:qb->Bool):QH (ms.filter p)=(QH ms).filter p:=by
 rw[<-BV a,<-Nv,<-BV (a.filter p)];calc WD λx=>by rw[qG,qG,Kj]
section
variable {a:jg}{fd:Nat->FuncData}{H H':Hp}{hd:qb}{ws N:qe}{g g':Sg}{fK:qa Rw}{ds:qa xw}{x:Rw}
def yF.eqs(h:yF hd ws N g fK ds)(s:vP H H' g g' d)(q u:qc):g'.rs.map Lr.d=(ds++[(#[q,u,d]:xw)]).map xw.d:=by
 let#[_,_,_,e]:=s.rs;rw[e,qB,qB,h.eq];rfl
def yF.nns(h:yF hd ws N g fK ds)(s:vP H H' g g' d):∀m∈N,∃i,i<YK g'.rs/\m=gp hd i:=λm hm=>by
 let#[i,hi,e]:=h.Nn m hm;let#[_,_,_,a]:=s.rs;erw[i,?_,e];rw[a];unfold YK at hi⊢;rw[zt,qo];omega
def yF.one(h:yF hd ws N g fK ds)(c:x∈fK)(i:(fK.map Rw.r).Nodup){x':Rw}(j:x'.nm=x.nm)(s:vP H H' g g' d)(f:g'.ls=g.ls)(k:RwR ws g' x')(l:∀y∈fK,y.nm≠x.nm->L2.up g'.bx y.nm=L2.up g.bx y.nm/\g'.mm y.nm=g.mm y.nm)(q u:qc):yF hd ws N g' (fK.map λy=>if y.r=x.r then x' else y) (ds++[#[q,u,d]]):=by
 let n:∀y∈fK,(if y.r=x.r then x' else y).nm=y.nm:=λy b=>by
  by_cases z:y.r=x.r
  .rw[qE z,j,YY i b c z]
  .rw[qC z]
 let e:(fK.map λy=>if y.r=x.r then x' else y).map Rw.nm=fK.map Rw.nm:=by rw[qI];exact js n
 erw[e<|h.nn,h.eqs s q u,λm=>e<|f<|h.nm m,λz hz=>?_,h.nns s];let#[y,b,U]:=qj.mp hz;by_cases z:y.r=x.r
 .rw[qE z];exact k
 .rw[qC z];let ne:y.nm≠x.nm:=λq=>z (zp Rw.r (YY h.nn b c q));let#[o,p]:=l y b ne;let a:=h.rel y b;calc{f<|a.l,o.trans a.b,p<|a.m,a.bw,a.gd}
def yF.place(h:yF hd ws N g fK ds)(b:x∈fK)(e:(fK.map Rw.r).Nodup){u:qb}(f:u∈ws)(s:vP H H' g g' (.place x.nm u))(q w:qc):yF hd ws N g' (fK.map λy=>if y.r=x.r then {x with bo:=u} else y) (ds++[{q,w,.place x.nm u}]):=by
 let#[_,i]:=s.ls;let c:g'.ls=g.ls:=i;let a:=h.rel x b;let d:∀m,L2.up g'.bx m=if m=x.nm then some u else L2.up g.bx m:=λm=>by rw[s.bx];exact Fe
 let hm:g'.mm=g.mm:=s.mm;calc h.one b e (x':={x with bo:=u}) rfl s c {c<|a.l,d<|qE rfl,hm<|a.m,f,a.gd} (λy _ n=>{by rw[d,qC n],by rw[hm]}) q w
def yF.mark(h:yF hd ws N g fK ds)(R:Rm a H hd ws N g)(c:x∈fK)(j:(fK.map Rw.r).Nodup){u:qb}{on:Bool}(s:vP H H' g g' (.mark x.nm u on))(q w mq:qc):yF hd ws N g' (fK.map λy=>if y.r=x.r then {x with mq:=mq,ms:=if on=true then SS (x.ms++[u]) else x.ms.filter λz=>decide (z≠u)} else y) (ds++[{q,w,.mark x.nm u on}]):=by
 let#[_,k]:=s.ls;let d:g'.ls=g.ls:=k;let b:=h.rel x c;let e:g'.bx=g.bx:=s.bx;let l:x.nm∈g.bx.map (·.1):=(R.nm _).mpr ((h.nm _).mp (qj.mpr #[x,c,U]));let i:(g.mm x.nm).Nodup:=by let#[F,f,_]:=R.B.f;exact(f.xK l).1
 let hm:∀m,g'.mm m=if m=x.nm then (if on=true then YR (g.mm x.nm) u else (g.mm x.nm).filter λz=>decide (z≠u)) else g.mm m:=λm=>by
  rw[s.mm]
  cases on with
  |true=>show Y4 _ _ _ m=_;rw[qE rfl];rfl
  |false=>show Y4 _ _ _ m=_;rw[qC qF];rfl
 calc h.one c j (x':={x with mq:=mq,ms:=if on=true then SS (x.ms++[u]) else x.ms.filter λz=>decide (z≠u)}) rfl s d {d<|b.l,e<|b.b,?_,b.bw,b.gd} (λy _ n=>{by rw[e],by rw[hm,qC n]}) q w;show QH (g'.mm x.nm)=if on=true then SS (x.ms++[u]) else x.ms.filter λz=>decide (z≠u)
 rw[hm,qE rfl,<-b.m]
 cases on with
 |true=>rw[qE rfl,qE rfl];calc Ot i u
 |false=>rw[qC qF,qC qF];calc Oq i _
def yF.drop(h:yF hd ws N g fK ds)(k:x∈fK)(s:vP H H' g g' (.drop x.nm))(q w:qc):yF hd ws N g' (fK.filter λy=>decide (y.nm≠x.nm)) (ds++[{q,w,.drop x.nm}]):=by
 let#[_,d]:=s.ls;let c:g'.ls=g.ls.filter λl=>decide (l.nm≠x.nm):=d;let e:g'.bx=L2.without g.bx x.nm:=s.bx;let hm:g'.mm=g.mm:=s.mm;erw[h.nn.sublist (zy.map _),h.eqs s q w,λm=>?_,λy i=>?_,h.nns s]
 .rw[c,VD (f:=Rw.nm),VD (f:=LE.nm),h.nm]
 .let#[j,b]:=qG.mp i;let b:=qL b;let a:=h.rel y j;let#[z,hz]:=a.l;calc{{z,c<|qG.mpr {hz,qw b}},e<|cP b<|a.b,hm<|a.m,a.bw,a.gd}
def yF.put(h:yF hd ws N g fK ds)(R:Rm a H hd ws N g)(j:VI p.s p.t p.b p.d p.an)(l:Uh hd g.rs∉N)(s:vP H H' g g' (.put (Uh hd g.rs) p))(q w r pu mq:qc):yF hd ws (Uh hd g.rs::N) g' (fK++[{r,Uh hd g.rs,pu,p,Zj,mq,[]}]) (ds++[{q,w,.put (Uh hd g.rs) p}]):=by
 let#[y,n]:=s.ls;let c:g'.ls=g.ls++[{Uh hd g.rs,y,p}]:=n;let f:g'.bx=g.bx++[(Uh hd g.rs,Zj)]:=s.bx;let hm:g'.mm=Y4 g.mm (Uh hd g.rs) []:=s.mm;let nl:Uh hd g.rs∉g.ls.map LE.nm:=λz=>l (R.nN _ z);let nb:Uh hd g.rs∉g.bx.map (·.1):=λz=>nl ((R.nm _).mp z);let i:Uh hd g.rs∉fK.map Rw.nm:=λz=>nl ((h.nm _).mp z);let#[_,_,_,o]:=s.rs;let u:YK g'.rs=YK g.rs+1:=by rw[o];unfold YK;rw[zt,qo];rfl
 erw[qB<|Yj h.nn i,h.eqs s q w,λm=>by rw[qB,c,qB,qq,qq,h.nm];rfl,λz hz=>?_,λm hm=>?_]
 .rcases qq.mp hz with k|k
  .have b:=h.rel z k;let ne:z.nm≠Uh hd g.rs:=λe=>i (e▸qj.mpr #[z,k,U]);let#[t,d]:=b.l;exact{{t,c<|qJ _ d},f<|HS nb<|qC ne<|b.b,hm<|YL ne<|b.m,b.bw,b.gd}
  .rw[qk.mp k];exact{{y,c<|qz _ (qk.mpr rfl)},by rw[f,HS nb,qE rfl],by rw[hm,Yr];rfl,R.ib,j}
 .rcases qx.mp hm with rfl|k
  .exact{YK g.rs,(),U}
  .exact h.nns s m k
end
def KM(Rl Dl:qc)(fK:qa Rw)(own a:qc->Nat)(H H':Hp):Prop:=∀c o,H c=some o->(own c=0\/own c=7\/Fj o=true)->c≠Rl->c≠Dl->(∀y∈fK,c≠y.r)->H' c=some o/\a c=own c
def KL.km{own a:qc->Nat}(k:KL own a H H'):KM Rl Dl fK own a H H':=λc o e h _ _ _=>k c o e h
def KM.trans{a b d:qc->Nat}{f:Hp}(x:KM Rl Dl fK a b H1 H2)(y:KM Rl Dl fK b d H2 f):KM Rl Dl fK a d H1 f:=λc o e h g i j=>by
 let#[l,k]:=x c o e h g i j;let#[m,n]:=y c o l (k<|h) g i j;calc{m,n.trans k}
def KM.upd{own:qc->Nat}{b:qc}{a:HO}(h:b=Rl\/b=Dl\/∃y∈fK,b=y.r):KM Rl Dl fK own (QR own 7 H) H (upd H b a):=λc o e _ d f g=>by
 let n:c≠b:=λz=>by
  subst z;obtain h|h|⟨y,i,h⟩:=h
  .exact d h
  .exact f h
  .exact g y i h
 calc{Qa n<|e,Qk e}
structure yP(a:jg)(H:Hp)(hd:qb)(ws N:qe)(g:Sg)(Rl Dl:qc)(fK:qa Rw)(ds:qa xw):Prop where
 R:Rm a H hd ws N g
 h:kX H g.own Rl Dl fK ds
 r:yF hd ws N g fK ds
 n:-g.rs=-ds/\-fK<=-ds/\∀x∈ds,VA x.d
def Gf(h:∀x∈ds,VA x.d)(hd:VA d):∀x∈ds++[(#[q,u,d]:xw)],VA x.d:=λx a=>by
 obtain z|z:=qq.mp a
 .exact h x z
 .rw[qk.mp z];calc hd
def Rm.word(R:Rm a H hd ws N g){nm:qb}(h:nm∈g.ls.map LE.nm):isW nm=true/\-nm<=1000:=ww (R.w_ nm (R.nN nm h))
section
variable {a:jg}{fd:Nat->FuncData}{H G G2:Hp}{hd:qb}{ws N:qe}{g:Sg}{Rl Dl:qc}{fK:qa Rw}{ds:qa xw}{x x':Rw}
def Rm.kpo(R:Rm a H hd ws N g)(k:yQ g.own 7 H G):Rm a G hd ws N (g.qu H):=R.law k
def La(R:Rm a H hd ws N g)(h:kX H g.own Rl Dl fK ds)(b:x∈fK)(s:Qi H G)(d:x'.r=x.r)(e:x'.pu=x.pu)(f:x'.p=x.p)(hm:H x'.mq=none\/x'.mq=x.mq)(em:G x'.mq=@(.lst (~~~x'.ms))) :
 Rm a (upd G x.r (.lst [.str x'.nm,.ref x'.pu,.str x'.bo,.ref x'.mq])) hd ws N ((g.qu H).qu G)/\kX (upd G x.r (.lst [.str x'.nm,.ref x'.pu,.str x'.bo,.ref x'.mq])) ((g.qu H).qu G).own Rl Dl (fK.map λy=>if y.r=x.r then x' else y) ds/\KM Rl Dl fK g.own ((g.qu H).qu G).own H (upd G x.r (.lst [.str x'.nm,.ref x'.pu,.str x'.bo,.ref x'.mq])):=by
 let i:=h.quiet s;let j:(g.qu H).own x'.mq=7:=by
  obtain z|z:=hm
  .exact Yx z
  .rw[z];exact(Qk (h.at_ x b).m).trans (h.at_ x b).o.2
 let k:x'.mq≠Rl/\x'.mq≠Dl:=by
  obtain z|z:=hm
  .exact{(Qb h.el z).symm,(Qb h.ed z).symm}
  .rw[z];exact{(h.ne x b).1.2.2.1,(h.ne x b).1.2.2.2}
 let l:∀y∈fK,y.r≠x'.mq:=λy c=>by
  obtain z|z:=hm
  .exact Qb (h.at_ y c).e z
  .rw[z];exact(h.ne y c).2 x b
 let#[m,n]:=i.row b d e f em j k l;calc{(R.quiet s).kpo n,m,KM.trans (KL.same 7 s).km (KM.upd (.inr (.inr #[x,b,U])))}
def XZ(R:Rm a G hd ws N g)(h:kX G g.own Rl Dl fK ds)(s:Qi G G2)(b:DU G2 q u d)(rows0:qa Rw) :
 Rm a (upd G2 Dl (.lst (ds.map (λx=>V.ref x.q)++[.ref q]))) hd ws N ((g.qu G).qu G2)/\kX (upd G2 Dl (.lst (ds.map (λx=>V.ref x.q)++[.ref q]))) ((g.qu G).qu G2).own Rl Dl fK (ds++[#[q,u,d]])/\KM Rl Dl rows0 g.own ((g.qu G).qu G2).own G (upd G2 Dl (.lst (ds.map (λx=>V.ref x.q)++[.ref q]))):=by
 let#[c,e]:=(h.quiet s).deed b;calc{(R.quiet s).kpo e,c,KM.trans (KL.same 7 s).km (KM.upd (.inr (.inl rfl)))}
def yF.own(h:yF hd ws N g fK ds){g':Sg}(a:g'.rs=g.rs)(b:g'.ls=g.ls)(c:g'.bx=g.bx)(d:g'.mm=g.mm):yF hd ws N g' fK ds:=
 {h.nn,a<|h.eq,λm=>b<|h.nm m,λx e=>let r:=h.rel x e;{b<|r.l,c<|r.b,d<|r.m,r.bw,r.gd},λm hm=>a<|h.Nn m hm}
end
inductive T9
 |mk:∀(hd:qb)(ws N:qe)(g:Sg)(Rl Dl:qc)(fK:qa Rw)(ds:qa xw)(x:Rw)(u:qb)(d:Int),vs=[.ref g.x,.ref x.r,.ref Dl,.str u,.int d]->yP a H hd ws N g Rl Dl fK ds->x∈fK->u∈ws->YH u->-ds<=30 ->
   (∀H' g' jC ds',yP a H' hd ws N g' Rl Dl jC ds'->g'.x=g.x->-ds'=-ds+1->(∀y∈jC,∃y'∈fK,y'.r=y.r/\(H y.mq=none\/y.mq=y'.mq))->KM Rl Dl fK g.own g'.own H H'->Q (.bl true) H')->T9 a vs H Q E
def bG:T.k ja 17 33 (T9 a):=by
 let#[O,va,vl]:=T.uH;refine T.ok 33 (λR A outer st H vs Q E X h=>?_)
 .let#[hd,ws,N,g,Rl,Dl,fK,ds,x,u,d,U,L,j,Y,hw,C,k]:=h;refine⟨_,(Qc (QE (Qp Yk (Qv QS `e Qf) Qf) (Qc (FE (Yh (sc:=Qs (sO 33)) (N:=(nn 33)) (fr:=[(3,Zx)]) (xV rfl rfl) rfl rfl rfl (QI (Ql Qw `b Qf)) (λ_ _ _ _=>YW (Qp UX `a `b)) (λ_ _ _ _=>`a)) (FK `b Qf GF))
   (Qc (Qq (Uj plainAttrs_list za zb QW `c (q9 (QP (Qh QC (Qh (Ql Qw `b Qf) (Qh `d (Qh Y1 Qo))))) Qg)))
   (Qe (Qm (YI V5 (T.me `a (T 0) (T 51) (GU T) (q9 (Ql Qw `b Qf) (q9 `d (q9 Y1 Qg)))) UO))))) Qu)
   (Qc (FE (Qn (Ut rfl) rfl (T 9) boot_sorted (q9 (YC (Vz rfl) rfl (T 37) boot_set (q9 (Qv Cj (Ql Qw `b Qf) (QN (Qh `d Qo))) Qg)) Qg)) (FK `b Qf GF))
   (Qc (Qq (Uj plainAttrs_list za zb QW `c (q9 (QP (Qh QC (Qh (Ql Qw `b Qf) (Qh `d (Qh Y1 Qo))))) Qg)))
   (Qc (QE (Qp Yk (Qv QS `e Qf) Qf) (Qe (Qm (YI V5 (WN `a (T 0) (T 51) (GU T) X.up vl va UW (q9 (Ql Qw `b Qf) (q9 `d Qg))) UO))) Qu)
   (Qe (Qm (YI V5 (T.me `a (T 0) (T 51) (GU T) (q9 (Ql Qw `b Qf) (q9 `d (q9 Y1 Qg)))) UO))))))),?_⟩
  let b:=L.h.at_ x j;let o:=L.h.ne x j;let Z:-x.ms<=20:=by
   rw[<-(L.r.rel x j).m,Yq];let#[c,f,_]:=L.R.B.f;exact(f.xK ((L.R.nm _).mpr ((L.r.nm _).mp (qj.mpr #[x,j,U])))).2.2
  let p:x.nm∈g.ls.map LE.nm:=(L.r.nm _).mp (qj.mpr #[x,j,U]);let r:-ds<=1000:=by omega
  let fin:∀(on:Bool)(mq:qc)(G c:Hp)(q:qc),Qi H G->H mq=none->G mq=@(.lst ((if on=true then SS (x.ms++[u]) else x.ms.filter λz=>decide (z≠u)).map V.str))->Qi (upd G x.r (.lst [.str x.nm,.ref x.pu,.str x.bo,.ref mq])) c->c q=@(.tup [.str Ze,.str x.nm,.str u,.bl on]) ->
   ∃n,n=upd c Dl (.lst (ds.map (λx=>V.ref x.q)++[.ref q]))/\n x.r=@(.lst [.str x.nm,.ref x.pu,.str x.bo,.ref mq])/\c Dl=@(.lst (ds.map λx=>V.ref x.q))/\n g.x=@(.ins (a 123) g.dx (rfs g.lg g.b g.ru hd))/\∀(l:VK)(F:XK),(∀H',Q (.bl true) H'->l .non H')->B4 a [.ref g.x,.str x.nm,.str u,.bl on] n l F:=λon mq G c q e nm em s2 eq=>by
   let#[M,I,k1]:=La (x':={x with mq:=mq,ms:=if on=true then SS (x.ms++[u]) else x.ms.filter λz=>decide (z≠u)}) L.R L.h j e rfl rfl rfl (.inl nm) em;let#[m,J,k3]:=XZ M I s2 (q:=q) (u:=q) (d:=.mark x.nm u on) {eq,λ_ _ z=>nomatch z} fK;let v:=J.at_ {x with mq:=mq,ms:=if on=true then SS (x.ms++[u]) else x.ms.filter λz=>decide (z≠u)} (qj.mpr {x,j,qE rfl});erw[0,v.e,s2 _ _ I.ed,m.e,λl F hQ=>{hd,ws,N,((((g.qu H).qu G).qu (upd G x.r (.lst [.str x.nm,.ref x.pu,.str x.bo,.ref mq]))).qu c),x.nm,u,on,U,m,by show -g.rs<=30;rw[L.n.1];calc C,p,hw,Y,λH' g' R' S=>hQ H' ?_}];let r':=(L.r.own (g':=((((g.qu H).qu G).qu (upd G x.r (.lst [.str x.nm,.ref x.pu,.str x.bo,.ref mq]))).qu c)) rfl rfl rfl rfl).mark m j L.h.nr S q q mq;let#[_,_,_,B]:=S.rs;refine k H' g' _ _ {R',J.kl S.kl,r',?_,?_,Gf L.n.2.2 {L.R.word p,nofun,nofun,(λ_ _ _ z=>by cases z;calc ww hw)}} S.x (by rw[qo];rfl) (λy hy=>?_) ((k1.trans k3).trans S.kl.km)
   .rw[B,qo,qo];show -g.rs+1=_;rw[L.n.1];rfl
   .rw[qh,qo];exact yd L.n.2.1
   .let#[D,i,U]:=qj.mp hy;by_cases z:D.r=x.r
    .rw[qE z];exact{D,i,z,.inl nm}
    .rw[qC z];exact{D,i,U,.inr rfl}
  erw[8,RT,4,Y7 (λ_=>?_) λ_=>?_]
  .erw[0,x.r,3,zm.of b.e,wx,x.mq,U,{_,zm.of b.m},Ye (K:=K) (xs:=x.ms) V.str (λz=>!(decide) (z=u)) V.str (QT ()) (zm.of b.m) (λz v Q' _ _ i=>{5,4,Kb<|i _ (Qi.refl _)}) (λz v Q' _ _ _ i=>{0,i _ (Qi.refl _)}) λmq G nm e em=>?_];let em:G mq=@(.lst ((x.ms.filter λz=>decide (z≠u)).map V.str)):=by rw[em,show(λz=>decide (z≠u))=λz=>!(decide) (z=u) from funext λz=>decide_not]
   erw[0,x.r,3,e _ _ b.e,U,?_];let l:(upd G x.r (.lst [.str x.nm,.ref x.pu,.str x.bo,.ref mq])) x.r=@(.lst [.str x.nm,.ref x.pu,.str x.bo,.ref mq]):=Qd;let m:(upd G x.r (.lst [.str x.nm,.ref x.pu,.str x.bo,.ref mq])) Dl=@(.lst (ds.map λx=>V.ref x.q)):=by rw[Qa o.1.2.1.symm];exact e _ _ L.h.ed
   erw[0,.inl {U,_,zm.of m},0,x.r,3,zm.of l,at0,0,AJ,λq c nq s2 eq=>?_];let#[n,U,B,D,ex,sp]:=fin false mq G c q e nm em s2 eq;erw[Dl,1,D,(qh<|QA r),?_];erw[0,g.x,g.dx,0,ex,4,x.r,3,zm.of B,at0,0,sp _ E0 λH' q=>#[U,q]]
  .erw[0,x.r,3,zm.of b.e,wx,0,Ma,λl1 H1 n1 s1 e1=>{x.mq,l1,1,s1 _ _ b.m,e1,?_,λI H2 n2 s2 F=>?_}]
   .rw[qh];exact QT ((by show -x.ms+1<=1000;omega))
   let F:H2 I=@(.lst ((x.ms++[u]).map V.str)):=by rw[F,qB];rfl
   let h21:-(x.ms++[u])<=21:=by rw[qo];show -x.ms+1<=21;omega
   erw[I,0,.inl (zm.of F),(),λi J=>{i,0,Qd,jk (Av _) (),λmq M=>?_}];let v:=s1.trans s2;let s3:Qi H2 (upd (upd H2 i (UR P w i (dd (x.ms++[u])))) mq (.lst ((QH (dd (x.ms++[u]))).map V.str))):=(Qi.zg J).trans (Qi.zg M);let em:(upd (upd H2 i (UR P w i (dd (x.ms++[u])))) mq (.lst ((QH (dd (x.ms++[u]))).map V.str))) mq=@(.lst ((SS (x.ms++[u])).map V.str)):=Qd;let nm:H mq=none:=v.free ((Qi.zg J).free M);let e:=v.trans s3;erw[0,x.r,3,e _ _ b.e,U,?_];let l:(upd (upd (upd H2 i (UR P w i (dd (x.ms++[u])))) mq (.lst ((QH (dd (x.ms++[u]))).map V.str))) x.r (.lst [.str x.nm,.ref x.pu,.str x.bo,.ref mq])) x.r=@(.lst [.str x.nm,.ref x.pu,.str x.bo,.ref mq]):=Qd;let m:(upd (upd (upd H2 i (UR P w i (dd (x.ms++[u])))) mq (.lst ((QH (dd (x.ms++[u]))).map V.str))) x.r (.lst [.str x.nm,.ref x.pu,.str x.bo,.ref mq])) Dl=@(.lst (ds.map λx=>V.ref x.q)):=by rw[Qa o.1.2.1.symm];exact e _ _ L.h.ed
   erw[0,.inl {U,_,zm.of m},0,x.r,3,zm.of l,at0,0,AJ,λq c nq s2 eq=>?_];let#[n,U,B,D,ex,sp]:=fin true mq _ c q e nm em s2 eq;erw[Dl,1,D,(qh<|QA r),?_];erw[8,RT,4,Y7 (λ_=>?_) λ_=>?_]
   .exact{0,g.x,g.dx,0,ex,4,x.r,3,zm.of B,at0,0,sp _ E0 λH' q=>#[U,q]}
   .exact{0,g.x,g.dx,0,ex,4,x.r,3,zm.of B,at0,0,sp _ E0 λH' q=>#[U,q]}
def bh{z:Int}(a:0<=z)(b:z<4):∃g:qb,xm [V.str "",V.str " ",V.str "\n",V.str "\n\n"] z=@(.str g)/\Sep g/\-g<=2:=by
 obtain rfl|rfl|rfl|rfl:=(by omega:z=0\/z=1\/z=2\/z=3)
 .exact{_,Qy (j:=0) rfl,∅,∅}
 .exact{_,Qy (j:=1) rfl,∅,∅}
 .exact{_,Qy (j:=2) rfl,∅,∅}
 .exact{_,Qy (j:=3) rfl,∅,∅}
def So{z:Int}(a:0<=z)(b:z<3):∃g:qb,xm [V.str "",V.str " ",V.str "\n"] z=@(.str g)/\Sep g/\-g<=2:=by
 obtain rfl|rfl|rfl:=(by omega:z=0\/z=1\/z=2)
 .exact{_,Qy (j:=0) rfl,∅,∅}
 .exact{_,Qy (j:=1) rfl,∅,∅}
 .exact{_,Qy (j:=2) rfl,∅,∅}
def TJ{w g:qb}(c:Sep x)(hw:YH w)(hm:w∈ws)(d:Sep g):vN ws ((x++w)++g):=by
 let#[a,b]:=(vN.nil ws).sep c;rw[show("":qb)++x=x from K6 (by rw[YG];rfl)] at a b;calc((a.word (b (.inr rfl)) hw hm (.inl rfl)).sep d).1
def Sn(h:rs.map Lr.d=ds.map xw.d):-(ds.filter λx=>U7 x.d)=YK rs:=by
 have:-((rs.map Lr.d).filter U7)=-((ds.map xw.d).filter U7):=by rw[h]
 rw[jd,jd,qh,qh] at this;calc this.symm
def RU(h:Kv ws)(c:vN ws t)(d:vN ws b):(∀w∈UQ (j3 t++j3 b),w∈ws)/\-(UQ (j3 t++j3 b))<=60:=by
 let a:∀w∈UQ (j3 t++j3 b),w∈ws:=λw hw=>(qq.mp (DR hw)).elim (c.j3 w) (d.j3 w);calc{a,qQ (Ab (Sy _) a) (by rw[h.len];decide)}
inductive Fs
 |mk:∀(hd:qb)(ws N:qe)(g:Sg)(Rl Dl dr wl:qc)(fK:qa Rw)(ds:qa xw)(es:qa Int),vs=[.ref g.x,.ref Rl,.ref Dl,.ref dr,.ref wl]->yP a H hd ws N g Rl Dl fK ds->H dr=some (.lst (es.map V.int))->5<=-es->(∀r∈es,0<=r/\r<2147483629)->H wl=some (.lst (~~~ws))->Kv ws->(g.own dr=0\/g.own dr=7)->(g.own wl=0\/g.own wl=7)->(∀y∈[Rl,Dl]++fK.map Rw.r,y≠dr/\y≠wl)->-ds<=30 ->
   (∀H' N' g' jC ds',yP a H' hd ws N' g' Rl Dl jC ds'->g'.x=g.x->-ds'=-ds+1->(∀y∈jC,(H y.r=none/\H y.mq=none)\/∃y'∈fK,y'.r=y.r/\(H y.mq=none\/y.mq=y'.mq))->KM Rl Dl fK g.own g'.own H H'->Q (.bl true) H')->Fs a vs H Q E
def SF:T.k ja 18 32 (Fs a):=by
 let#[vj,vy,vB]:=T.uI;refine T.ok 32 (λcdv A outer st H vs Q E hr h=>?_)
 .let#[hd,ws,N,g,Rl,Dl,e,wl,fK,ds,es,U,L,l,h5,hb,ew,Z,od,ow,J,h30,k]:=h;let hrs:-g.rs<=30:=by rw[L.n.1];exact h30
  let#[fr1,fr2]:=L.r.fresh L.R.hh hrs;let#[z1,e1,b10,b11]:=YS hb 1 ∅ ();let#[z2,e2,b20,b21]:=YS hb 2 ∅ ();let#[z3,e3,b30,b31]:=YS hb 3 ∅ ();let#[B,e4,b40,b41]:=YS hb 4 ∅ ();refine⟨_,(Qc (Qr (i:=5) (sc 32).nd (Qn Qz rfl (T 4) zf (q9 (Yh (sc:=Qs (sO 32)) (N:=(nn 32)) (fr:=[]) (xV rfl rfl) rfl rfl rfl (QI `c) (λ_ _ _ _=>YW (Qp Yk (Ql (Ue K) `a Qf) QC)) (λ_ _ _ _=>`a)) Qg)))
   (Qc (Qr (i:=6) (sc 32).nd (Qv Q8 `A (YC Vc rfl (T 18) boot_str (q9 (Qv Yb `f Qf) Qg))))
   (Qc (Qr (i:=7) (sc 32).nd (Qv QS (Ql Qw `d Qf) Qf))
   (Qc (Qr (i:=8) (sc 32).nd QC)
   (Qc (QE (Qp OY `h Qf) (Qe (Qr (i:=8) (sc 32).nd (Qv Q8 `A (YC Vc rfl (T 18) boot_str (q9 (Qv Yb Qf (Qv QS (Qv Ym (Ql Qw `d Qf) Qf) (Qv Yb `f `h))) Qg))))) Qu)
   (Qc (Qr (i:=9) (sc 32).nd (Ql Qw `e (Qv QS (Ql Qw `d Qf) (Qn Qz rfl (T 4) zf (q9 `e Qg)))))
   (Qc (Qr (i:=10) (sc 32).nd (Qv Q8 (Ql Qw (QN (Qh QC (Qh QC (Qh QC (Qh QC Qo))))) (Qv QS (Qv Ym (Ql Qw `d Qf) Qf) Qf)) (Ql Qw `e (Qv QS (Ql Qw `d Qf) (Qn Qz rfl (T 4) zf (q9 `e Qg))))))
   (Qc (Qr (i:=10) (sc 32).nd (Qv Q8 `k (Ql Qw (QN (Qh QC (Qh QC (Qh QC Qo)))) (Qv QS (Qv Ym (Ql Qw `d Qf) Qf) Qf))))
   (Qc (Qr (i:=11) (sc 32).nd (QP (Qh `j (Qh (T.cl (O2 T) (q9 (Ql Qw `d Qf) (q9 `e Qg))) (Qh `k (Qh (Qv QS (Qv Ym (Ql Qw `d Qf) Qf) Qf) (Qh `i Qo)))))))
   (Qc (Qq (Uj plainAttrs_list za zb QW `c (q9 (QP (Qh QC (Qh `g (Qh `l Qo)))) Qg)))
   (Qc (Qq (Uj plainAttrs_list za zb QW `b (q9 (QN (Qh `g (Qh `l (Qh QC (Qh (QN Qo) Qo))))) Qg)))
   (Qc (QE (PW.pt (Kf (Qp Yk `h Qf) (WL (Qp Yk (Qv QS (Qv Ym (Ql Qw `d Qf) Qf) Qf) Qf)))) (Qe (Qm (YI Yk (WN `a (T 0) (T 73) (Lw T) hr.up vB vy UW (q9 (Ql Qx `l Qf) (q9 (Ql Qx `l Qf) (q9 (Ql Qx `l Qf) (q9 (Ql Qx `l Qf) Qg))))) `g))) Qu)
   (Qe (Qm (YI Yk (T.me `a (T 0) (T 73) (Lw T) (q9 (Ql Qx `l Qf) (q9 (Ql Qx `l Qf) (q9 (Ql Qx `l Qf) (q9 (Ql Qx `l Qf) (q9 `i Qg)))))) `g))))))))))))))),?_⟩
  erw[0,Dl,U,{_,zm.of L.h.ed},U1 (K:=K) (xs:=ds) (λx=>V.ref x.q) (λx=>U7 x.d) (λx=>V.ref x.q) (QT ()) (zm.of L.h.ed) (λx H3 Q' hx s3 q=>?_) (λx H3 Q' hx s3 _ q=>{0,q}) λD nD=>?_]
  .erw[0,x.q,3,z5.of (s3 _ _ (L.h.dd x hx).e),Kq _ _,4,?_];rw[Wh,XE];exact q
  let s1:Qi H (upd H D (.lst ((ds.filter λx=>U7 x.d).map λx=>V.ref x.q))):=Qi.zg nD;erw[D,0,.inl (zm.of Qd),?_];rw[qh,Sn L.r.eq];generalize upd H D (.lst ((ds.filter λx=>U7 x.d).map λx=>V.ref x.q))=H1 at s1;dsimp only[Q9];let hp:YK g.rs<=-g.rs:=qP _ _;let R1:=L.R.quiet s1;let m:=s1 _ _ l;let ew1:=s1 _ _ ew;let#[n1,n2,_]:=K8 (YK g.rs+1) ();let h8:=L.R.hh.hi;let ec:((YK g.rs:Nat):Int)+1=((YK g.rs+1:Nat):Int):=rfl;erw[0,g.x,_,g.dx,2,R1.e,(T 0),(T 46),4,2,4,(ec<|xH<|jk (kP _) ()),hd,_,7,(ec<|QT ()),?_];rw[ec];show Q9 _ (.str (Uh hd g.rs)) _ _ _;dsimp only[Q9];erw[0,e,3,zm.of m,e1,1,zi_5,?_];let w0:0<=z1%5:=zq _ ∅;let w1:z1%5<5:=zj _ ∅;dsimp only[Q9];generalize z1%5=way at w0 w1;calc QZ (t:=Fn _ _) λN0 h0=>?_;show N0 [@(.ref g.x),@(.ref Rl),@(.ref Dl),@(.ref e),@(.ref wl),@(.int (YK g.rs:Nat)),@(.str (Uh hd g.rs)),@(.int way),@(.str ""),none,none,none] H1;subst h0;calc QZ (t:=VM _ _ _) λN' hN=>?_;let rest:∀an:qb,(an=""\/YH an)->(way=0->an="")->N' [@(.ref g.x),@(.ref Rl),@(.ref Dl),@(.ref e),@(.ref wl),@(.int (YK g.rs:Nat)),@(.str (Uh hd g.rs)),@(.int way),@(.str an),none,none,none] H1:=λan han han0=>by
   subst hN;let#[sd,hsd,ha2]:=AU Z z2;let#[C,hbw,ha4]:=AU Z B;let sdw:=(Z.w sd hsd).1;let#[bww,bw11]:=Z.w C hbw;let lp:0<((-(~~~ws):Nat):Int):=by rw[qh,Z.len];decide
   erw[5,e,3,zm.of m,e2,0,wl,0,.inl (zm.of ew1),1,lp,wl,3,zm.of ew1,ha2,?_];dsimp only[Q9];let p0:0<=B / 7%4:=zq _ ∅;let p1:B / 7%4<4:=zj _ ∅;let#[ga,hga,ga1,ga2]:=bh p0 p1;let q0:0<=B / 28%3:=zq _ ∅;let q1:B / 28%3<3:=zj _ ∅;let#[gb,hgb,gb1,gb2]:=So q0 q1;let l1:-(ga++C)=-ga+-C:=UJ _ _;let l2:-(ga++C++gb)=-ga+-C+-gb:=by rw[UJ,UJ]
   erw[AJ,λla H2 nla s2 ela=>?_];let s12:=s1.trans s2;let M:=s12 _ _ l;let ew2:=s12 _ _ ew;erw[0,e,3,zm.of M,e4,1,{∅,∅},1,RS,la,3,zm.of ela,hga,5,e,3,zm.of M,e4,0,wl,0,.inl (zm.of ew2),1,lp,wl,3,zm.of ew2,ha4,ga,C,7,QT (),?_];dsimp only[Q9];erw[0,BW,λlb H3 nlb s3 elb=>?_];let s13:=s12.trans s3;let O:=s13 _ _ l;let ew3:=s13 _ _ ew;erw[0,e,3,zm.of O,e4,1,{∅,∅},1,RT,lb,3,zm.of elb,hgb,1,QT (),?_];dsimp only[Q9];let tb:=TJ ga1 bww hbw gb1;let d0:0<=B / 9%10000:=zq _ ∅;let d1:B / 9%10000<10000:=zj _ ∅;erw[5,e,3,zm.of O,e3,0,z3,wl,ws,U,b30,b31,ew3,Z,λtt H4 s4 ht hn10 h60=>?_];let s14:=s13.trans s4;let edr4:=s14 _ _ l;erw[5,e,3,zm.of edr4,e4,1,{∅,∅},1,NB,0,cI,λpu H5 npu s5 n=>?_];dsimp only[Q9];let s15:=s14.trans s5
   refine let p:LD:={sd,tt,ga++C++gb,B / 9%10000,an};?_
   let gd:VI p.s p.t p.b p.d p.an:={sdw,ht.a,h60,hn10,tb.a,by show(ga++C++gb).length<=400;omega,d0,by show B / 9%10000<=9999;omega,han};let n:H5 pu=@(.tup (wF p)):=n;let#[wo1,wo2]:=RU Z ht tb;erw[0,.inl {U,_,zm.of (s15 _ _ L.h.ed)},5,BW,λq R nq s6 eq=>?_];let o:=s15.trans s6;let#[R7,F,k7]:=XZ L.R L.h o (q:=q) (u:=pu) (d:=.put (Uh hd g.rs) p) {eq,λ_ _ z=>by cases z;calc s6 _ _ n} fK;erw[Dl,1,o _ _ L.h.ed,(qh<|QA ()),?_];let G:(upd R Dl (.lst (ds.map (λx=>V.ref x.q)++[.ref q]))) pu=@(.tup (wF p)):=by rw[Qa (QG (s6 _ _ n) (o _ _ L.h.ed) λz=>nomatch z)];exact s6 _ _ n
   let nDl:Dl≠e:=(J Dl (by simp)).1;let nRl:Rl≠e:=(J Rl (by simp)).1;let X:(upd R Dl (.lst (ds.map (λx=>V.ref x.q)++[.ref q]))) e=@(.lst (es.map V.int)):=by rw[Qa nDl.symm];exact o _ _ l
   let fr7:∀{c:qc},(upd R Dl (.lst (ds.map (λx=>V.ref x.q)++[.ref q]))) c=none->H c=none:=λ{c} hc=>by
    by_cases z:c=Dl
    .rw[z,Qd] at hc;cases hc
    .rw[Qa z] at hc;exact o.free hc
   generalize upd R Dl (.lst (ds.map (λx=>V.ref x.q)++[.ref q]))=H7 at R7 F k7 G X fr7;erw[0,.inl {U,_,zm.of F.el},5,Xf,λmq H8 s s8 emq=>{AJ,λr Y nr s9 er=>?_}];let f:=s8.trans s9;let j:H7 r=none:=s8.free nr;let R9:=R7.quiet f;let h9:=F.quiet f;let hrm:r≠mq:=(Qb emq nr).symm;let hx:AG Y (((g.qu H).qu R).qu H7).own {r,Uh hd g.rs,pu,p,Zj,mq,[]}:={er,f _ _ G,s9 _ _ emq,Yx j,Yx s};let#[h10,k10]:=h9.add hx {{(Qb F.el j).symm,(Qb F.ed j).symm,(Qb F.el s).symm,(Qb F.ed s).symm},hrm} λy hy=>{(Qb (F.at_ y hy).m j).symm,Qb (F.at_ y hy).e s,Qb (F.at_ y hy).e j};erw[Rl,1,h9.el,(by rw[qh];have:=L.n.2.1;calc QA ()),?_];let I:=R9.kpo k10;let km:KM Rl Dl fK g.own ((((g.qu H).qu R).qu H7).qu Y).own H (upd Y Rl (.lst (fK.map (λx=>V.ref x.r)++[.ref r]))):=k7.trans (KM.trans (KL.same 7 f).km (KM.upd (.inl rfl)));let b:(upd Y Rl (.lst (fK.map (λx=>V.ref x.r)++[.ref r]))) pu=@(.tup (wF p)):=by rw[Qa (QG (f _ _ G) h9.el λz=>nomatch z)];exact f _ _ G
   let v:(upd Y Rl (.lst (fK.map (λx=>V.ref x.r)++[.ref r]))) e=@(.lst (es.map V.int)):=by rw[Qa nRl.symm];exact f _ _ X
   generalize upd Y Rl (.lst (fK.map (λx=>V.ref x.r)++[.ref r]))=gw at I h10 k10 km b v;let rr:yF hd ws N ((((g.qu H).qu R).qu H7).qu Y) fK ds:=L.r.own rfl rfl rfl rfl;let fin:∀(Q2:VK)(E2:XK),(∀H',Q (.bl true) H'->Q2 (.str (Uh hd g.rs)) H')->Fp a [.ref g.x,.str sd,.str tt,.str (ga++C++gb),.int (B / 9%10000),.str an] gw Q2 E2:=λQ2 E2 hQ=>⟨hd,ws,N,((((g.qu H).qu R).qu H7).qu Y),p,U,I,hrs,gd,fr2,fr1,wo1,wo2,λH' g' R' S=>hQ H' (by
    let r':=rr.put I gd fr1 S q pu r pu mq;let#[_,_,_,ers]:=S.rs;refine k H' _ g' _ _ {R',h10.kl S.kl,r',?_,?_,Gf L.n.2.2 {ww fr2,(λ_ _ z=>by cases z;calc gd),nofun,nofun}} S.x (by rw[qo];rfl) (λy hy=>?_) (km.trans S.kl.km)
    .rw[ers,qo,qo];show -g.rs+1=_;rw[L.n.1];rfl
    .rw[qo,qo];exact jI L.n.2.1
    .rcases qq.mp hy with z|z
     .exact .inr {y,z,U,.inr rfl}
     .rw[qk.mp z];calc .inl {fr7 j,fr7 s})⟩
   let x10:gw g.x=some _:=I.e;dsimp only;calc QZ (t:=VM _ _ _) λN2 uE=>?_;let last:N2 [@(.ref g.x),@(.ref Rl),@(.ref Dl),@(.ref e),@(.ref wl),@(.int (YK g.rs:Nat)),@(.str (Uh hd g.rs)),@(.int way),@(.str an),@(.str sd),@(.str (ga++C++gb)),@(.ref pu)] gw:=by
    subst uE;exact{0,g.x,g.dx,0,x10,4,pu,3,z5.of b,at0,0,pu,3,z5.of b,at1,0,pu,3,z5.of b,at2,0,pu,3,z5.of b,wx,0,fin _ E0 λH' hq=>{_,7,qw rfl<|hq}}
   erw[0,4,Y7 (λhw=>?_) λ_=>last];let hw:way=0:=by simpa using hw
   obtain rfl:=han0 hw;erw[0,e,3,zm.of v,e1,1,{∅,∅},1,∅,4,Y7 (λ_=>?_) λ_=>last];exact{0,g.x,g.dx,0,x10,4,pu,3,z5.of b,at0,0,pu,3,z5.of b,at1,0,pu,3,z5.of b,at2,0,pu,3,z5.of b,wx,fin _ E0 λH' hq=>{_,7,qw rfl<|hq}}
  erw[8,0,Y7 (λb=>?_) λb=>rest "" (.inl rfl) λ_=>rfl];let b:=qL b;let m0:0<=z1 / 5%((YK g.rs:Nat)+way):=zq _ ();let j:z1 / 5%((YK g.rs:Nat)+way)<(YK g.rs:Nat)+way:=zj _ ();obtain⟨i,hi⟩:∃i:Nat,z1 / 5%((YK g.rs:Nat)+way)=(i:Int):={_,(Int.toNat_of_nonneg m0).symm};let#[n,o,_]:=K8 (i+1) ();let f:1+(i:Int)=((i+1:Nat):Int):=by omega
  erw[0,g.x,_,g.dx,2,R1.e,(T 0),(T 46),4,e,3,zm.of m,e1,1,{∅,∅},0,8,1,(by show(0:Int)<(YK g.rs:Nat)+way;omega),2,4,?_,hd,_,7,?_,?_]
  .rw[hi,f,xH];exact jk (kP _) ()
  .rw[hi,f];exact QT ()
  .rw[hi,f];calc rest (gp hd i) (.inr (LB L.R.hh ())) λz=>by omega
def in36:∀d:Nat,d<128->lo1 d=d->(!(Builtin.Str.occurrences Zo {([d].toArray)} 0 Zo.length 1).isEmpty)=WY d:=by decide +kernel
def F8:∀d:Nat,d<128->WY (lo1 d)=WY d/\lo1 (lo1 d)=lo1 d:=by decide +kernel
def aF{d:Nat}(h:d<128)(st:qe×qb):yA st (lo1 d)=yA st d:=by
 unfold yA;rw[(F8 d h).1,(F8 d h).2]
def LP:∀(l:qa Nat)(st:qe×qb),(∀c∈l,c<128)->(l.map lo1).foldl yA st=l.foldl yA st
 |[],_,_=>rfl
 |c::l,st,h=>by
  rw[qZ,zD,zD,aF (h c (qA ..))];calc LP l _ λd hd=>h d (qy _ hd)
abbrev g5(x:qb):qb:={x.cps.map lo1}
def Cs(x:qb):(g5 x).cps.toList=x.cps.toList.map lo1:=by simp
def aG(h:ya x):j3 (g5 x)=j3 x:=by
 unfold j3 yK;rw[Cs,LP _ _ h]
def Tt(x:qb):(!(decide) (x=("":qb)))=Wv x:=by
 unfold Wv;rw[Ap];by_cases h:x=Str.empty
 .rw[qw h,h];rfl
 .rw[qK h];let e:(x==Str.empty)=false:=by rw[z8];exact h
  rw[e]
def bB:T.k ja 1 28 B3:=by
 sleep 28
 .let#[x0,U,f,r,k]:=h;refine⟨_,(Qc (Qr (i:=1) (sc 28).nd (QN Qo))
   (Qc (Qr (i:=2) (sc 28).nd QC)
   (Qc (YA zl rfl (FJ (Qv Q8 (GP plainAttrs_str PySem.F.slot_str_lower PySem.F.type_str_lower Ef `a) QC)) (QX (i:=3) (sc 28).nd) (Qe (QE (Qp WQ `d QC (by with_unfolding_all rfl)) (Qe (Qr (i:=2) (sc 28).nd (Qv Q8 `c `d))) (Qe (QE (Qp UX `c QC) (Qc (Qq (Uj plainAttrs_list za zb QW `b (q9 `c Qg)))
   (Qe (Qr (i:=2) (sc 28).nd QC))) Qu)))))
   (Qe (Qm `b))))),?_⟩
  rw[<-aG f] at k;let B:∀c∈(g5 x0).cps.toList,c<128:=λc hc=>by
   rw[Cs] at hc;let#[d,hd,U]:=qj.mp hc;exact bR (f d hd)
  let C:∀c∈(g5 x0).cps.toList,lo1 c=c:=λc hc=>by
   rw[Cs] at hc;let#[d,hd,U]:=qj.mp hc;exact(F8 d (f d hd)).2
  let I:-(g5 x0)<=900:=by
   have:-(g5 x0)=-x0:=by simp[Str.length]
   rw[this];exact r
  generalize n:g5 x0=x at k B C I;erw[Xf,λD H1 F s1 J=>?_];let s:=YM x;let q:(x++(" ":qb)).cps.toList=x.cps.toList++[32]:=by
   show(x.cps++(" ":qb).cps).toList=_;rw[Array.toList_append];rfl
  let t:∀c∈(x++(" ":qb)).cps.toList,c<128:=λc hc=>by
   rw[q] at hc;obtain hc|hc:=qq.mp hc
   .exact B c hc
   .rw[qk.mp hc];decide
  let L:-(x++(" ":qb)).cps.toList=-x+1:=by rw[q,qo,qW,s]
  let u:∀c∈(x++(" ":qb)).cps.toList,lo1 c=c:=λc hc=>by
   rw[q] at hc;obtain hc|hc:=qq.mp hc
   .exact C c hc
   .rw[qk.mp hc];decide
  erw[0,4,U,f,(by show -x0<=1000000;omega),1,QT ((by show(g5 x0).length+1<=1000;rw[n];omega)),x++(" ":qb),(by rw[<-n]),?_];refine Tv (x:=x++(" ":qb)) (λi Z H2=>∃(o:uf V),Z=[@(.str x0),@(.ref D),@(.str (yK ((x++(" ":qb)).cps.toList.take i)).2),o]/\Qi H H2/\H2 D=@(.lst (((yK ((x++(" ":qb)).cps.toList.take i)).1.filter Wv).map V.str)))
   {none,by rw[jK];show _=[_,_,@(V.str Str.empty),_];rw[<-Ap];rfl,s1,jK<|J} ?_ ?_
  .rintro i c Z H2 hc ⟨o,rfl,s2,b⟩;let g:(x++(" ":qb)).cps.toList[i]?=some c:=by simpa using hc
   let M:i< -(x++(" ":qb)).cps.toList:=(qS.mp g).1;let hw:=HP ((x++(" ":qb)).cps.toList.take i);rw[zC] at hw;let v:=NC g;let m:=t c (ze g);generalize yK ((x++(" ":qb)).cps.toList.take i)=y at b hw v;let#[z,wr]:=y;dsimp only at b hw⊢;let hf:=qP Wv z;let p:=u c (ze g);erw[8,0,?_];rw[in36 c m p];cases l:WY c
   .refine QQ {0,4,?_};rw[Kb,Tt];let e:yK ((x++(" ":qb)).cps.toList.take (i+1))=(z++[wr],Str.empty):=by rw[v];unfold yA;rw[qC (by rw[l];decide)]
    cases j:Wv wr
    .refine QQ {@(.str {([c].toArray)}),?_,s2,?_}
     .rw[e];let N:wr=Str.empty:=by
       unfold Wv at j;simpa using j
      rw[N];rfl
     .rw[e,b];dsimp only;rw[zt,yD (by rw[j];decide),vv,zS]
    .refine Q7 {0,.inl {U,_,zm.of b},0,D,1,b,(qh<|QA ()),@(.str {([c].toArray)}),?_,s2.zP F,?_}
     .rw[e,<-Ap];rfl
     .rw[Qd,e];dsimp only;rw[zt,kQ j,vv,qB];rfl
   .have e:yK ((x++(" ":qb)).cps.toList.take (i+1))=(z,wr++{([c].toArray)}):=by rw[v];unfold yA;rw[qE l,p]
    refine Q7 {0,8,QT (?_),?_}
    .show -wr+1<=1000;omega
    .exact{_,by rw[e];rfl,s2,e<|b}
  .rintro Z H2 ⟨o,rfl,s2,b⟩;erw[0,k D H2 F s2 ?_];let g:(x++(" ":qb)).cps.toList.take (x++(" ":qb)).cps.size=x.cps.toList++[32]:=by rw[<-q];exact zG (by simp)
   rw[g] at b;let e:yK (x.cps.toList++[32])=((yK x.cps.toList).1++[(yK x.cps.toList).2],Str.empty):=by
    unfold yK;rw[jz];show yA _ 32=_;unfold yA;rw[qC ∅]
   rw[e] at b;calc b
abbrev Uw(fK:qa Rw)(b:qb):qa Rw:=fK.filter λx=>decide (x.bo=b)
abbrev Xi(fK:qa Rw)(b:qb):qa Rw:=(Uw fK b).filter λx=>!(decide) (Zs∈x.ms)
inductive Oe(vs:qa V)(H:Hp)(Q:VK)(E:XK):Prop
 |mk:∀(fK:qa Rw)(Rl:qc),vs=[.ref Rl]->H Rl=some (.lst (fK.map λx=>V.ref x.r))->(∀x∈fK,H x.r=@(.lst [.str x.nm,.ref x.pu,.str x.bo,.ref x.mq])/\H x.mq=@(.lst (~~~x.ms))/\-x.ms<=60)->-fK<=60 ->
   (∀(q:qc)(H':Hp)(fs:qa (qc×qb)),H q=none->Qi H H'->H' q=@(.lst (fs.map λp=>V.ref p.1))->(∀p∈fs,H' p.1=@(.tup [.str p.2,.int (-(Uw fK p.2)),.int (-(Xi fK p.2))]))->fs.map (·.2)=SS (fK.map Rw.bo)->Q (.ref q) H')->Oe vs H Q E
def SG:T.k ja 1 29 Oe:=by
 sleep 29
 .let#[fK,Rl,U,el,c,hlen,k]:=h;refine⟨_,(Qc (Qr (i:=1) (sc 29).nd (QN Qo))
   (Qc (YA zl rfl (QI (Qn (Ut rfl) rfl (T 9) boot_sorted (q9 (YC (Vz rfl) rfl (T 37) boot_set (q9 (Yh (sc:=Qs (sO 29)) (N:=(nn 29)) (fr:=[]) (xV rfl rfl) rfl rfl rfl (QI `a) (λ_ _ _ _=>Ud) (λ_ _ _ _=>(Ql (Yi K) `a Qf))) Qg)) Qg))) (QX (i:=2) (sc 29).nd) (Qc (Vk (sc:=Qs (sO 29)) (N:=(nn 29)) (i:=3) (fr:=[(2,"_law_box")]) (xV rfl rfl) rfl rfl rfl (sc 29).nd U rfl (QI `a) (λ_ _ _ _=>YW (Qp Yk (Ql (Yi K) `a Qf) `b)) (λ_ _ _ _=>`a))
   (Qe (Qq (Uj plainAttrs_list za zb QW `b (q9 (QP (Qh `c (Qh (Qn Qz rfl (T 4) zf (q9 `d Qg)) (Qh (Qn Qz rfl (T 4) zf (q9 (Yh (sc:=Qs (sO 29)) (N:=(nn 29)) (fr:=[]) (xV rfl rfl) rfl rfl rfl (QI `d) (λ_ _ _ _=>YW (Qp (W6 K) QC (Ql (Yi K) `a Qf) (by with_unfolding_all rfl))) (λ_ _ _ _=>`a)) Qg)) Qo)))) Qg))))))
   (Qe (Qm `b)))),?_⟩
  erw[Xf,λD H1 nD s1 e1=>?_];let at2:∀x:Rw,xm [V.str x.nm,.ref x.pu,.str x.bo,.ref x.mq] 2=@(.str x.bo):=λx=>Qy (j:=2) rfl;let wx:∀x:Rw,xm [V.str x.nm,.ref x.pu,.str x.bo,.ref x.mq] 3=@(.ref x.mq):=λx=>Qy (j:=3) rfl;let o:=s1 _ _ el;erw[0,Rl,U,{_,zm.of o},Ye (K:=K) (xs:=fK) (λx=>V.ref x.r) (λ_=>true) (λx=>V.str x.bo) (QT ()) (zm.of o) (λz r Q' _ _ b=>Vi (b _ (Qi.refl _))) (λx r Q' l s3 _ b=>{0,x.r,3,zm.of (s3 _ _ (s1 _ _ (c x l).1)),at2 x,b _ (Qi.refl _)}) λl2 H2 n2 s2 O=>?_];let O:H2 l2=@(.lst ((fK.map Rw.bo).map V.str)):=by rw[O,zK.mpr λ_ _=>rfl,qI];rfl
  let R:-(fK.map Rw.bo)<=60:=by rw[qh];exact hlen
  erw[l2,fK.map Rw.bo,U,.inl (zm.of O),(),λu S=>{u,dd (fK.map Rw.bo),U,Qd,jk (Av _) (),λsl s=>?_}];let s5:Qi H2 (upd H2 u (UR P w u (dd (fK.map Rw.bo)))):=Qi.zg S;let s6:Qi (upd H2 u (UR P w u (dd (fK.map Rw.bo)))) (upd (upd H2 u (UR P w u (dd (fK.map Rw.bo)))) sl (.lst ((SS (fK.map Rw.bo)).map V.str))):=Qi.zg s;let e6:(upd (upd H2 u (UR P w u (dd (fK.map Rw.bo)))) sl (.lst ((SS (fK.map Rw.bo)).map V.str))) sl=@(.lst ((SS (fK.map Rw.bo)).map V.str)):=Qd;let X:=s1.trans (s2.trans (s5.trans s6));let d6:=s6 _ _ (s5 _ _ (s2 _ _ e1));let Y:sl≠D:=(Qb (s5 _ _ (s2 _ _ e1)) s).symm;let Bl:-(SS (fK.map Rw.bo))<=60:=qQ (RM _) R;refine⟨sl,U,{_,zm.of e6},YF (K:=K) (a:=sl) (xs:=(SS (fK.map Rw.bo)).map V.str) (λi Z g=>∃(J L:uf V)(d:qa (qc×qb)),Z=[@(.ref Rl),@(.ref D),J,L]/\Qi H g/\g D=@(.lst (d.map λp=>V.ref p.1))/\(∀p∈d,g p.1=@(.tup [.str p.2,.int (-(Uw fK p.2)),.int (-(Xi fK p.2))]))/\d.map (·.2)=(SS (fK.map Rw.bo)).take i/\g sl=@(.lst ((SS (fK.map Rw.bo)).map V.str)))
   {none,none,[],U,X,d6,(λp hp=>by cases hp),(by rw[jK];rfl),e6} ?_ ?_ ?_⟩
  .rintro i Z g _ ⟨J,L,d,rfl,s5,m,B,n,M⟩;exact zm.of M
  .rintro i v Z g C ⟨J,L,d,rfl,s5,m,B,n,M⟩;obtain⟨bo,hbo,rfl⟩:∃y,(SS (fK.map Rw.bo))[i]?=some y/\V.str y=v:=by
    rw[qD] at C
    cases e:(SS (fK.map Rw.bo))[i]? with
    |none=>rw[e] at C;cases C
    |some t=>rw[e] at C;exact{t,U,qT C}
   let et':(SS (fK.map Rw.bo)).take (i+1)=(SS (fK.map Rw.bo)).take i++[bo]:=by rw[zw,hbo];rfl
   let hfl:-d<=60:=by
    have:=zp List.length n;rw[qh,zC] at this;omega
   let F:=s5 _ _ el;erw[0,Rl,U,{_,zm.of F},Ye (K:=K) (xs:=fK) (λx=>V.ref x.r) (λx=>decide (x.bo=bo)) (λx=>V.ref x.r) (QT ()) (zm.of F) (λx r Q' l s3 b=>{0,x.r,3,zm.of (s3 _ _ (s5 _ _ (c x l).1)),at2 x,0,4,?_}) (λx r Q' l s3 _ b=>{0,b _ (Qi.refl _)}) λm7 H7 n7 G I=>?_]
   .rw[Wh];exact b _ (Qi.refl _)
   let I:H7 m7=@(.lst ((Uw fK bo).map λx=>V.ref x.r)):=I;let d7:=G _ _ m;let hin:-(Uw fK bo)<=60:=qQ (qP _ _) hlen;erw[0,.inl {U,_,zm.of d7},5,m7,0,.inl (zm.of I),0,m7,U,{_,zm.of I},Ye (K:=K) (xs:=Uw fK bo) (λx=>V.ref x.r) (λx=>!(decide) (Zs∈x.ms)) (λx=>V.ref x.r) (QT ()) (zm.of I) (λx r Q' l s3 b=>?_) (λx r Q' l s3 _ b=>{0,b _ (Qi.refl _)}) λm8 H8 n8 s8 e8=>?_]
   .have f:=(qG.mp l).1;erw[0,x.r,3,zm.of (s3 _ _ (G _ _ (s5 _ _ (c x f).1))),wx x,?_];erw[x.mq,0,.inl (zm.of (s3 _ _ (G _ _ (s5 _ _ (c x f).2.1)))),U,WU _,0,?_];rw[qE rfl,Wt];exact b _ (Qi.refl _)
   let hun:-(Xi fK bo)<=60:=qQ (qP _ _) hin;let e8:H8 m8=@(.lst ((Xi fK bo).map λx=>V.ref x.r)):=e8;erw[m8,0,.inl (zm.of e8),BW,λq H9 nq s9 eq=>?_];let f:=G.trans (s8.trans s9);let d9:=f _ _ m;erw[D,1,d9,(qh<|QA ()),?_];let nqD:q≠D:=(Qb (s8 _ _ (G _ _ m)) nq).symm;erw[9,d++[(q,bo)],U,(s5.trans f).zP nD,?_,λp hp=>?_,?_,Qa Y<|f _ _ M]
   .rw[Qd,qB];rfl
   .rcases qq.mp hp with z|z
    .rw[Qa (QG (B p z) m λz=>nomatch z)];exact f _ _ (B p z)
    .rw[qk.mp z,Qa nqD,eq,qh,qh]
   .rw[qB,n,et'];rfl
  .rintro Z g ⟨J,L,d,rfl,s5,m,B,n,M⟩;rw[qh,zZ] at n;calc{0,k D g d nD s5 m B n}
abbrev uv(p:LD):PyData:=.tuple [.str p.s,.str p.t,.str p.b,.int p.d,.str p.an]
abbrev wD(x:Rw):PyData:=.list [.str x.nm,uv x.p,.str x.bo,.list (x.ms.map PyData.str)]
def ag{own:qc->Nat}{x:Rw}(h:AG H own x):RD K H (.ref x.r) (wD x):=
 .lst (zm.of h.e) (.cons (.str _) (.cons (.tup (z5.of h.p) (.cons (.str _) (.cons (.str _) (.cons (.str _) (.cons (.int _) (.cons (.str _) .nil)))))) (.cons (.str _) (.cons (.lst (zm.of h.m) (GJ _)) .nil))))
def B9{K:Frag}{H:Hp}{own:qc->Nat}:∀fK:qa Rw,(∀x∈fK,AG H own x)->xq K H (fK.map λx=>V.ref x.r) (fK.map wD)
 |[],_=>.nil
 |x::xs,h=>.cons (ag (h x (qA ..))) (B9 xs λy a=>h y (qy _ a))
structure RP(x:Rw):Prop where
 n:ya x.nm
 p:ya x.p.s/\ya x.p.t/\ya x.p.b/\ya x.p.an
 b:ya x.bo
 m:∀m∈x.ms,ya m
def Py{x:Rw}(h:RP x):(wD x).canLay0=true/\(wD x).depth<=2:=by
 let q:=Ws h.m;erw[by simp[PyData.canLayAll0,PyData.canLay0,h.n.ok,h.b.ok,h.p.1.ok,h.p.2.1.ok,h.p.2.2.1.ok,h.p.2.2.2.ok,q.1],?_];simp[PyData.depthAll,PyData.depth,q.2]
def Bi{x:Rw}(h:RP x):SeqAt.shaped (wD x)=true:=by
 let e:=Py h;let a:=e.2;unfold SeqAt.shaped;rw[qY];calc{e.1,qw ()}
def LF:∀{fK:qa Rw},(∀x∈fK,RP x)->PyData.canLayAll0 (fK.map wD)=true/\PyData.depthAll (fK.map wD)<=2
 |[],_=>{U,qR _}
 |x::fK,h=>by
  let a:=LF (fK:=fK) λz hz=>h z (qy _ hz);let b:=Py (h x qA);let c:=a.2;let d:=b.2;rw[qZ];erw[by rw[PyData.canLayAll0,b.1,a.1];rfl,?_];rw[PyData.depthAll];omega
def GH(h:∀x∈fK,RP x):SeqAt.shaped (.list (fK.map wD))=true:=by
 let e:=LF h;let a:=e.2;unfold SeqAt.shaped;rw[qY];erw[PyData.canLay0<|e.1,qw ?_];rw[PyData.depth];omega
def Nh{x y:Rw}(h:x.nm≠y.nm):PyData.eqv (wD x) (wD y)=false:=by
 simp[PyData.eqv,PyData.eqvAll,h]
def cc{x:Rw}:PyData.eqv (wD x) (wD x)=true:=by
 simp[PyData.eqv,PyData.eqvAll,Wy]
def LR :PyData.eqv (.list (fK.map wD)) (.list [])=fK.isEmpty:=by
 cases fK with
 |nil=>rfl
 |cons a l=>rfl
def EF:∀{fK:qa Rw}{j:Nat}{x:Rw},(fK.map Rw.nm).Nodup->fK[j]?=some x->fK.eraseIdx j=fK.filter λy=>decide (y.nm≠x.nm)
 |[],_,_,_,e=>by simp at e
 |y::fK,0,x,a,e=>by
  obtain rfl:y=x:=by simpa using e
  let n:=zN.mp a;let h:fK.filter (λz=>decide (z.nm≠y.nm))=fK:=zK.mpr λz hz=>qw λq=>n.1 (by rw[<-q];calc qj.mpr #[z,hz,U]);rw[List.eraseIdx_cons_zero,yD (by simp),h]
 |y::fK,j+1,x,a,e=>by
  let n:=zN.mp a;let e:fK[j]?=some x:=by simpa using e
  let ne:y.nm≠x.nm:=λq=>n.1 (q▸qj.mpr {x,ze e,U});rw[kR,kQ (by simpa using ne),EF n.2 e]
def BJ{α β:Type}(f:α->β):∀(l:qa α)(j:Nat),(l.map f).eraseIdx j=(l.eraseIdx j).map f
 |[],_=>rfl
 |_::_,0=>rfl
 |x::l,j+1=>by rw[qZ,kR,kR,qZ,BJ f l j]
def kX.sub{own:qc->Nat}(h:kX H own Rl Dl fK ds)(p:Rw->Bool) :
 kX (upd H Rl (.lst ((fK.filter p).map λx=>V.ref x.r))) (QR own 7 H) Rl Dl (fK.filter p) ds/\yQ own 7 H (upd H Rl (.lst ((fK.filter p).map λx=>V.ref x.r))):=
 let m:∀{z},z∈fK.filter p->z∈fK:=λh=>(qG.mp h).1
 {{Qd,Qa h.o.2.2.symm<|h.ed,{(Qk h.el).trans h.o.1,(Qk h.ed).trans h.o.2.1,h.o.2.2},λz hz=>(h.at_ z (m hz)).upd h.el (h.ne z (m hz)).1.1 (h.ne z (m hz)).1.2.2.1,λz hz=>{(h.ne z (m hz)).1,λy a=>(h.ne z (m hz)).2 y (m a)},h.nr.sublist (zy.map _),CD h.dd h.el},Ga h.el h.o.1}
def yP.asc(L:yP a H hd ws N g Rl Dl fK ds)(e:Kv ws):∀x∈fK,RP x:=λx d=>by
 let r:=L.r.rel x d;let b:=r.gd;let h:ya ("":qb):=λc hc=>by rw[show("":qb).cps.toList=[] from rfl] at hc;cases hc
 erw[?_,{b.s_.asc,b.t_,b.b_,b.a_.elim (λz=>z<|h) λz=>z.asc},?_,?_]
 .exact(L.R.w_ _ (L.R.nN _ ((L.r.nm _).mp (qj.mpr #[x,d,U])))).asc
 .exact(e.w _ r.bw).1.asc
 .intro m hm;rw[<-r.m] at hm;let#[F,f,_]:=L.R.B.f;let q:=f.xK ((L.R.nm _).mpr ((L.r.nm _).mp (qj.mpr #[x,d,U])));calc(e.w _ (q.2.1 m (Uc.mp hm))).1.asc
def ah(h:0< -fK)(z:Int):∃x∈fK,xm (fK.map λx=>V.ref x.r) (z%(-(fK.map λx=>V.ref x.r):Nat))=@(.ref x.r):=by
 let#[v,a,hm,_]:=Gg (xs:=fK.map λx=>V.ref x.r) z (qh<|h);let#[x,b,U]:=qj.mp hm;exact#[x,b,a]
inductive IB
 |mk:∀(hd:qb)(ws N:qe)(g:Sg)(Rl Dl dr wl:qc)(fK:qa Rw)(ds:qa xw)(es:qa Int),vs=[.ref g.x,.ref Rl,.ref Dl,.ref dr,.ref wl]->yP a H hd ws N g Rl Dl fK ds->H dr=some (.lst (es.map V.int))->5<=-es->(∀r∈es,0<=r/\r<2147483629)->H wl=some (.lst (~~~ws))->Kv ws->(g.own dr=0\/g.own dr=7)->(g.own wl=0\/g.own wl=7)->(∀y∈[Rl,Dl]++fK.map Rw.r,y≠dr/\y≠wl)->-ds<=30 ->
   (∀H' N' g' jC ds',yP a H' hd ws N' g' Rl Dl jC ds'->g'.x=g.x->-ds'<=-ds+1->0< -ds'->(∀y∈jC,(H y.r=none/\H y.mq=none)\/∃y'∈fK,y'.r=y.r/\(H y.mq=none\/y.mq=y'.mq))->KM Rl Dl fK g.own g'.own H H'->Q (.bl true) H')->IB a vs H Q E
def Th{k:Nat}(a:Yu k A):A.units+70<cLine:=by have:=a.un;omega
def Pc:T.k ja 19 34 (IB a):=by
 refine T.ok 34 (λcdv A outer st H vs Q E hr h=>?_)
 .let#[hd,ws,N,g,Rl,Dl,B,wl,fK,ds,es,U,L,G,h5,Z,ew,Y,od,ow,nall,I,k]:=h;let hu64:=hr.units;let hu70:=Th hr;let#[z0,e0,b00,b01]:=YS Z 0 ∅ ();let#[z1,e1,b10,b11]:=YS Z 1 ∅ ();let#[z2,e2,b20,b21]:=YS Z 2 ∅ ();let#[z3,e3,b30,b31]:=YS Z 3 ∅ ();refine⟨_,(Qc (Qr (i:=5) (sc 34).nd (Qv QS (Ql Qw `d Qf) Qf))
   (Qc (QE (PW.pt (We (Qp (Ls K hu64) `b (QN Qo)) (V2 (Qp DQ `f Qf)))) (Qe (Qm (T.cl (SF T) (q9 `a (q9 `b (q9 `c (q9 `d (q9 `e Qg)))))))) Qu)
   (Qc (Qr (i:=6) (sc 34).nd (Ql Qw `b (Qv QS (Ql Qw `d Qf) (Qn Qz rfl (T 4) zf (q9 `b Qg)))))
   (Qc (Qr (i:=7) (sc 34).nd (Ql Qw `e (Qv QS (Ql Qw `d Qf) (Qn Qz rfl (T 4) zf (q9 `e Qg)))))
   (Qc (QE (Qp DQ `f Qf) (Qc (FE `h (FK `g Qf GF))
   (Qc (Qq (Uj plainAttrs_list za zb QW `c (q9 (QP (Qh QC (Qh (Ql Qw `g Qf) (Qh `h Qo)))) Qg)))
   (Qe (Qm (YI V5 (T.me `a (T 0) (T 141) (MC T) (q9 (Ql Qw `g Qf) (q9 `h Qg))) UO))))) Qu)
   (Qc (QE (Qp DQ `f Qf) (Qe (Qm (T.cl (bG T) (q9 `a (q9 `g (q9 `c (q9 `h (q9 (Ql Qw `d Qf) Qg)))))))) Qu)
   (Qc (QE (Qp Yk `f Qf) (Qe (Qm (YI V5 (T.me `a (T 0) (T 143) (O9 T) (q9 (Ql Qw `g Qf) Qg)) UO))) Qu)
   (Qc (Qq (Uj plainAttrs_list za zb QW `c (q9 (QP (Qh QC (Qh (Ql Qw `g Qf) Qo))) Qg)))
   (Qc (Qq (Uj plainAttrs_list PySem.F.slot_list_remove PySem.F.type_list_remove (MT hu70) `b (q9 `g Qg)))
   (Qe (Qm (YI V5 (T.me `a (T 0) (T 142) (O8 T) (q9 (Ql Qw `g Qf) Qg)) UO)))))))))))),?_⟩
  erw[0,B,3,zm.of G,e0,1,TV,?_];unfold Q9;dsimp only;calc QZ (t:=VM _ _ _) λN1 hN1=>?_;erw[0,Xf,λl0 l n0 s0 en0=>{9,.lst (zm.of (s0 _ _ L.h.el)) (B9 fK λx o=>((L.h.quiet s0).at_ x o)),.lst (zm.of en0) .nil,GH (L.asc Y),U,_,U,?_}];rw[LR];let c:yP a l hd ws N (g.qu H) Rl Dl fK ds:={L.R.quiet s0,L.h.quiet s0,L.r.own rfl rfl rfl rfl,L.n};let od0:(g.qu H).own B=0\/(g.qu H).own B=7:=by rw[show(g.qu H).own B=g.own B from Qk G];exact od
  let ow0:(g.qu H).own wl=0\/(g.qu H).own wl=7:=by rw[show(g.qu H).own wl=g.own wl from Qk ew];exact ow
  let p:=s0 _ _ G;let J:=s0 _ _ ew;let k0:∀H' N' g' b f,yP a H' hd ws N' g' Rl Dl b f->g'.x=g.x->-f<=-ds+1->0< -f->(∀y∈b,(l y.r=none/\l y.mq=none)\/∃M∈fK,M.r=y.r/\(l y.mq=none\/y.mq=M.mq))->KM Rl Dl fK (g.qu H).own g'.own l H'->Q (.bl true) H':=λH' N' g' b f L' gx hl hp n km=>k H' N' g' b f L' gx hl hp (λy r=>(n y r).imp (λz=>{s0.free z.1,s0.free z.2}) λ#[M,h1,h2,s]=>{M,h1,h2,s.imp s0.free id}) ((KL.same 7 s0).km.trans km);let put:Fs a [.ref g.x,.ref Rl,.ref Dl,.ref B,.ref wl] l Q E0:={hd,ws,N,g.qu H,Rl,Dl,B,wl,fK,ds,es,U,c,p,h5,Z,J,Y,od0,ow0,nall,I,λH' N' g' b f L' gx dl n km=>k0 H' N' g' b f L' gx (xj dl) (dl<|xl _) n km};calc Y7 (λ_=>{0,5,5,put}) λC=>{8,0,Y7 (λ_=>{0,5,5,put}) λ_=>?_};show N1 _ _;subst hN1;let F:0< -fK:=by
   cases fK with
   |nil=>calc absurd rfl C
   |cons x xs=>exact xl _
  let rp:(0:Int)<(-(fK.map λx=>V.ref x.r):Nat):=by rw[qh];omega
  let#[x,o,hax]:=ah F z1;let#[u,hu,hau]:=AU Y z2;let lp:(0:Int)<(-(~~~ws):Nat):=by rw[qh,Y.len];decide
  erw[5,B,3,zm.of p,e1,0,Rl,0,.inl (zm.of c.h.el),1,rp,Rl,3,zm.of c.h.el,hax,?_];dsimp only;erw[5,B,3,zm.of p,e2,0,wl,0,.inl (zm.of J),1,lp,wl,3,zm.of J,hau,?_];dsimp only;let D:=c.h.at_ x o;let C:=c.h.ne x o;let wu:=(Y.w _ hu).1;let v:x.nm∈g.ls.map LE.nm:=(L.r.nm _).mp (qj.mpr #[x,o,U]);let O:-g.rs<=30:=by rw[L.n.1];exact I
  let hdl:-ds<=1000:=by omega
  calc QZ (t:=VM _ _ _) λN2 uE=>?_;erw[8,0,Y7 (λ_=>?_) λ_=>?_]
  .
   let#[R1,h1,k1]:=La (x':={x with bo:=u}) c.R c.h o (Qi.refl l) rfl rfl rfl (.inr rfl) D.m;let exr:(upd l x.r (.lst [.str x.nm,.ref x.pu,.str u,.ref x.mq])) x.r=@(.lst [.str x.nm,.ref x.pu,.str u,.ref x.mq]):=Qd;erw[5,x.r,3,D.e,U,?_];erw[0,.inl {U,_,zm.of h1.ed},0,x.r,3,zm.of exr,at0,0,BW,λq R nq s2 eq=>?_];let#[R3,s,k3]:=XZ R1 h1 s2 (q:=q) (u:=q) (d:=.place x.nm u) {eq,λ_ _ z=>nomatch z} fK;erw[Dl,1,s2 _ _ h1.ed,(qh<|QA hdl),?_];let hx1:=s.at_ {x with bo:=u} (qj.mpr {x,o,qE rfl});erw[0,g.x,g.dx,0,R3.e,4,x.r,3,zm.of hx1.e,at0,0,{hd,ws,N,((((g.qu H).qu l).qu l).qu (upd l x.r (.lst [.str x.nm,.ref x.pu,.str u,.ref x.mq]))).qu R,x.nm,u,U,R3,O,v,wu,hu,λH' g' R' S=>{U,?_}}];let r':=(c.r.own (g':=((((g.qu H).qu l).qu l).qu (upd l x.r (.lst [.str x.nm,.ref x.pu,.str u,.ref x.mq]))).qu R) rfl rfl rfl rfl).place o c.h.nr hu S q q;let#[_,_,_,X]:=S.rs;refine k0 H' N g' _ _ {R',s.kl S.kl,r',?_,?_,Gf L.n.2.2 {L.R.word v,nofun,(λ_ _ z=>by cases z;calc ww wu),nofun}} S.x (qo<|qr _) (qo<|xl _) (λy n=>?_) ((k1.trans k3).trans S.kl.km)
   .rw[X,qo,qo];show -g.rs+1=_;rw[L.n.1];rfl
   .rw[qh,qo];exact yd L.n.2.1
   .let#[M,r,U]:=qj.mp n;calc .inr {M,r,?_};by_cases z:M.r=x.r
    .rw[qE z];obtain rfl:=YY L.h.nr r o z;exact{U,.inr rfl}
    .rw[qC z];exact{U,.inr rfl}
  show N2 _ _;subst uE;calc QZ (t:=VM _ _ _) λN3 hN3=>?_;erw[8,0,Y7 (λ_=>?_) λ_=>?_]
  .
   erw[0,5,5,B,3,zm.of p,e3,hd,ws,N,g.qu H,Rl,Dl,fK,ds,x,u,z3,U,c,o,hu,wu,I,λH' g' b f L' gx hl n km=>?_];exact k0 H' N g' b f L' gx (xj hl) (hl<|xl _) (λy r=>.inr (n y r)) km
  show N3 _ _;subst hN3;calc QZ (t:=VM _ _ _) λN4 hN4=>?_;erw[0,4,Y7 (λ_=>?_) λ_=>?_]
  .
   erw[0,g.x,g.dx,0,c.R.e,4,x.r,3,zm.of D.e,at0,{hd,ws,N,g.qu H,x.nm,U,c.R,O,v,λH' s'=>{U,?_}}];exact k0 H' N ((g.qu H).qu l) fK ds {c.R.quiet s',c.h.quiet s',c.r.own rfl rfl rfl rfl,c.n} rfl (jt _) (qV F L.n.2.1) (λy n=>.inr {y,n,U,.inr rfl}) (KL.same 7 s').km
  show N4 _ _;subst hN4;obtain⟨j,hj⟩:∃j,fK[j]?=some x:=List.getElem?_of_mem o;let hjl:j< -fK:=(qS.mp hj).1;erw[0,.inl {U,_,zm.of c.h.ed},0,x.r,3,zm.of D.e,at0,Y6,λq R nq s2 eq=>?_];let#[R3,s,k3]:=XZ c.R c.h s2 (q:=q) (u:=q) (d:=.drop x.nm) {eq,λ_ _ z=>nomatch z} fK;erw[Dl,1,s2 _ _ c.h.ed,(qh<|QA hdl),?_];let#[h4,k4]:=s.sub λy=>decide (y.nm≠x.nm);let R4:=R3.kpo k4;let er:(fK.map λx=>V.ref x.r).eraseIdx j=(fK.filter λy=>decide (y.nm≠x.nm)).map λx=>V.ref x.r:=by rw[<-EF L.r.nn hj,BJ]
  let ac:=L.asc Y;erw[0,.inl {U,_,zm.of s.el},0,{Rl,_,6,j,7,s.el,B9 fK s.at_,ag (s.at_ x o),λe he=>?_,Bi (ac x o),(qh<|hjl),λm e hm he=>?_,?_}]
  .let#[y,n,U]:=qj.mp he;exact Bi (ac y n)
  .rw[qD] at he;let#[y,n,U]:=zE.mp he;by_cases z:m=j
   .subst z;obtain rfl:y=x:=qT (n.symm.trans hj);rw[qw rfl];exact cc
   .rw[qK z];calc Nh λq=>z ?_;let hm':m< -(fK.map Rw.nm):=by rw[qh];exact(qS.mp n).1
    exact(wX hm' L.r.nn).mp (qD<|qD<|n<|hj<|zp some q)
  rw[er];let ex4:=(s.at_ x o).upd (ys:=(fK.filter λy=>decide (y.nm≠x.nm)).map λx=>V.ref x.r) s.el C.1.1 C.1.2.2.1;erw[0,g.x,g.dx,0,R4.e,4,x.r,3,zm.of ex4.e,at0,{hd,ws,N,(((g.qu H).qu l).qu R).qu (upd R Dl (.lst (ds.map (λx=>V.ref x.q)++[.ref q]))),x.nm,U,R4,O,v,λH' g' R' S=>{U,?_}}];let r':=(c.r.own (g':=(((g.qu H).qu l).qu R).qu (upd R Dl (.lst (ds.map (λx=>V.ref x.q)++[.ref q])))) rfl rfl rfl rfl).drop o S q q;let#[_,_,_,X]:=S.rs;refine k0 H' N g' _ _ {R',h4.kl S.kl,r',?_,?_,Gf L.n.2.2 {L.R.word v,nofun,nofun,nofun}} S.x (qo<|qr _) (qo<|xl _) (λy n=>.inr {y,(qG.mp n).1,U,.inr rfl}) ((k3.trans (KM.upd (.inl rfl))).trans S.kl.km)
  .rw[X,qo,qo];show -g.rs+1=_;rw[L.n.1];rfl
  .rw[qo];calc yd (qQ (qP _ _) L.n.2.1)
section
variable {fK jC:Rows}
def Ac(p:jC.Perm fK){n:qb}:n∈jC.map (·.1)↔n∈fK.map (·.1):=(p.map _).mem_iff
def RX(p:jC.Perm fK)(d:(fK.map (·.1)).Nodup)(n:qb):up jC n=up fK n:=by
 cases h:up fK n with
 |none=>calc Uq.mpr λz=>Uq.mp h ((Ac p).mp z)
 |some a=>
  let#[b,c]:=US ((Ac p).mpr (qj.mpr {(n,a),U4 h,U}));rw[c,Vm d (p.mem_iff.mp (U4 c)) (U4 h)]
def Ms(p:jC.Perm fK)(t:qb):(QK jC t).Perm (QK fK t):=(p.filter _).map _
def Ee(p:jC.Perm fK)(a:(fK.map (·.1)).Nodup){k:qb}:k∈kz jC m↔k∈kz fK m:=by
 unfold kz;rw[qq,qq,(Ms p m).mem_iff,Vb,Vb,RX p a]
def DE(p:jC.Perm fK)(c:(fK.map (·.1)).Nodup){n:qb}:xo jC n m↔xo fK n m:=by
 constructor
 .intro h
  induction h with
  |refl=>calc .refl
  |step _ a b=>exact .step b ((Ee p c).mp a)
 .intro h
  induction h with
  |refl=>calc .refl
  |step _ a b=>calc .step b ((Ee p c).mpr a)
def Gk(p:jC.Perm fK)(a:(fK.map (·.1)).Nodup)(n:qb):QO jC n=QO fK n:=by
 classical
 unfold QO;calc(UB ((p.map _).filter _)).trans (zp QH (jA λm _=>?_));by_cases e:xo fK n m
 .rw[qw e,qw ((DE p a).mpr e)]
 .rw[qK e,qK λz=>e ((DE p a).mp z)]
def CQ(p:jC.Perm fK)(a:(fK.map (·.1)).Nodup)(ns:qe):YO jC ns=YO fK ns:=by
 unfold YO;let e:UI jC=UI fK:=by
  funext acc n;unfold UI;rw[Gk p a]
 rw[e]
end
def LC{α:Type}:∀(l:qa α)(p:α->Bool),-l=-(l.filter p)+-(l.filter λx=>!(p) x)
 |[],_=>rfl
 |x::l,p=>by
  let a:=LC l p;rw[zi,zi];cases p x<;>simp<;>omega
def Ec{α β:Type}{f:α->qb}{k:α->β}{l:qa α}(h:(l.map f).Nodup):(l.map λx=>(f x,k x)).Nodup:=List.Pairwise.map _ (λ_ _ q z=>q (zp Prod.fst z)) (List.pairwise_map.mp h)
def IU(a:vC (fK.map Rw.nm))(p:Rw->Bool):vC ((fK.filter p).map Rw.nm):=List.Pairwise.sublist (zy.map _) a
section
variable {hd:qb}{ws N:qe}{g:Sg}{fK:qa Rw}{ds:qa xw}
def yF.prm(h:yF hd ws N g fK ds)(d:(g.ls.map LE.nm).Nodup):(fK.map λx=>(x.nm,x.p)).Perm (g.ls.map λl=>(l.nm,l.p)):=by
 refine(jJ (Ec h.nn) (Ec d)).mpr λq=>{λb=>?_,λb=>?_}
 .let#[x,a,U]:=qj.mp b;let#[y,c]:=(h.rel x a).l;exact qj.mpr {_,c,U}
 .let#[l,f,U]:=qj.mp b;let#[x,a,e]:=qj.mp ((h.nm l.nm).mpr (qj.mpr #[l,f,U]));let#[y,c]:=(h.rel x a).l;let q:=YY d f c e.symm;rw[q];calc qj.mpr #[x,a,U]
def yF.names(h:yF hd ws N g fK ds)(a:(g.ls.map LE.nm).Nodup)(b:vC (fK.map Rw.nm)):QH (g.ls.map LE.nm)=fK.map Rw.nm:=by
 let p:=(h.prm a).map (·.1);rw[qI,qI] at p;calc(UT p b).symm
def yF.prs(h:yF hd ws N g fK ds)(a:(g.ls.map LE.nm).Nodup):List.Perm (fK.map λx=>(x.nm,x.p.an)) (g.ls.map λl=>(l.nm,l.p.an)):=by
 let p:=(h.prm a).map λq=>(q.1,q.2.an);rw[qI,qI] at p;calc p
def yF.have(h:yF hd ws N g fK ds)(a:(g.ls.map LE.nm).Nodup)(b:vC (fK.map Rw.nm))(t:qb):QH (YZ (g.ls.map λl=>(l.nm,gq l.p)) t)=(fK.filter λx=>decide (t∈j3 (x.p.t++" "++x.p.b))).map Rw.nm:=by
 let p:=(((h.prm a).map λq=>(q.1,gq q.2)).filter λr=>decide (t∈r.2)).map (·.1);rw[qI,qI,jd,qI] at p;let e:(fK.filter ((λr:qb×qe=>decide (t∈r.2))∘((λq:qb×LD=>(q.1,gq q.2))∘λx:Rw=>(x.nm,x.p))))=fK.filter λx=>decide (t∈j3 (x.p.t++" "++x.p.b)):=by
  calc jA λx _=>decide_eq_decide.mpr ?_;show t∈gq x.p↔_;unfold gq;rw[Kj,E8 (z:=x.p.t++" "++x.p.b) (x:=x.p.t) (y:=x.p.b) (c:=32) ∅ (by rw[YG,YG,yc];rfl)];exact#[DR,Ej]
 rw[e] at p;calc(UT p (IU b _)).symm
variable (h:yF hd ws N g fK ds)(bnd:(g.bx.map (·.1)).Nodup)(hb:∀m,m∈g.bx.map (·.1)↔m∈g.ls.map LE.nm)
include h bnd hb
def yF.some(p:Rw->Bool)(q:qb->Bool)(d:∀x∈fK,p x=q x.nm)(f:qb):(((Uw fK f).filter p).map Rw.nm).Perm ((QK g.bx f).filter q):=by
 calc(jJ (h.nn.sublist ((zy.trans zy).map _)) ((xC (zy.map _) bnd).filter _)).mpr λm=>?_;rw[qG];show m∈((Uw fK f).filter p).map Rw.nm↔m∈QK g.bx f/\q m=true;rw[VP bnd];constructor
 .intro hm;let#[x,a,U]:=qj.mp hm;let#[b,c]:=qG.mp a;let#[i,j]:=qG.mp b;exact{by rw[(h.rel x i).b,qL j],by rw[<-d x i];calc c}
 .rintro⟨b,c⟩;let#[x,a,U]:=qj.mp ((h.nm m).mpr ((hb m).mp (qj.mpr {(m,f),U4 b,U})));let e:x.bo=f:=by
   have:=(h.rel x a).b;rw[b] at this;exact(qT this).symm
  calc qj.mpr {x,qG.mpr {qG.mpr {a,qw e},d x a<|c},U}
def yF.ins(f:qb):((Uw fK f).map Rw.nm).Perm (QK g.bx f):=by
 have:=h.some bnd hb (λ_=>true) (λ_=>true) (λ_ _=>rfl) f;rwa[zK.mpr λ_ _=>rfl,zK.mpr λ_ _=>rfl] at this
def yF.cn(f:qb):-(QK g.bx f)=-(Uw fK f):=by rw[<-(h.ins bnd hb f).length_eq,qh]
def yF.cm(f y:qb):gZ g.bx g.mm f y=-((Uw fK f).filter λx=>decide (y∈x.ms)):=by
 have:=(h.some bnd hb (λx=>decide (y∈x.ms)) (λn=>decide (y∈g.mm n)) (λx a=>by rw[<-(h.rel x a).m];calc decide_eq_decide.mpr Uc) f).length_eq;rw[qh] at this;calc this.symm
def yF.cu(f:qb):cU g.bx g.mm f=(-(Xi fK f):Nat):=by
 have:=LC (Uw fK f) λx=>decide (Zs∈x.ms);unfold cU;rw[h.cn bnd hb,h.cm bnd hb];let e:-(Xi fK f)=-((Uw fK f).filter λx=>!(decide) (Zs∈x.ms)):=zp List.length (jA λx _=>by simp);omega
def yF.fs(f:qb):f∈fK.map Rw.bo↔QK g.bx f≠[]:=by
 let p:=h.ins bnd hb f;constructor
 .rintro hf z;let#[x,a,e]:=qj.mp hf;have:x.nm∈QK g.bx f:=p.mem_iff.mp (qj.mpr {x,qG.mpr {a,qw e},U});rw[z] at this;cases this
 .intro z;let#[m,hm]:=List.exists_mem_of_ne_nil _ z;let#[x,a,_]:=qj.mp (p.mem_iff.mpr hm);let#[b,c]:=qG.mp a;calc qj.mpr {x,b,qL c}
end
def AZ(fK:Rows):∀(ns:qe)(acc:qa (qe)),acc.Nodup->(ns.foldl (UI fK) acc).Nodup
 |[],_,h=>h
 |n::ns,acc,h=>by
  rw[zD];calc AZ fK ns _ ?_;unfold UI;split
  .exact h
  .exact Yj h (by assumption)
def Mh{ls:qa (qc×qe)}(h:Xd H l ls)(d:(ls.map (·.2)).Nodup):(ls.map (·.1)).Nodup:=by
 calc List.Pairwise.map _ (λa b q=>q) (List.Pairwise.imp_of_mem (λ{p q} e f ne z=>ne ?_) (List.pairwise_map.mp d));let c:=h.2 p e;rw[show p.1=q.1 from z,h.2 q f] at c;calc((List.map_inj_right λ_ _=>V.str.inj).mp (HO.lst.inj (qT c))).symm
def RD.mono(s:Qi H H'){x:V}{d:PyData}(h:RD K H x d):RD K H' x d:=
 RD.rec (motive_1:=λx d _=>RD K H' x d) (motive_2:=λxs ds _=>xq K H' xs ds) .non .bl .int .str (λh _ r=>.lst (s.seq h) r) (λh _ r=>.tup (s.tup h) r) .nil (λ_ _ r rs=>.cons r rs) h
def xq.mono(s:Qi H H'){ds:qa PyData}(h:xq K H xs ds):xq K H' xs ds:=
 xq.rec (motive_1:=λx d _=>RD K H' x d) (motive_2:=λxs ds _=>xq K H' xs ds) .non .bl .int .str (λh _ r=>.lst (s.seq h) r) (λh _ r=>.tup (s.tup h) r) .nil (λ_ _ r rs=>.cons r rs) h
def XC{K:Frag}{H:Hp}{α:Type}{f:α->V}{d:α->PyData}:∀{l:qa α},(∀x∈l,RD K H (f x) (d x))->xq K H (l.map f) (l.map d)
 |[],_=>.nil
 |x::l,h=>.cons (h x qA) (XC λy a=>h y (qy _ a))
inductive X7(K:Frag)(H H':Hp):V->PyData->Prop
 |flat (l:qc) (xs:qe):H l=none->H' l=some (.lst (~~~xs))->-xs<=40->(∀x∈xs,ya x/\-x<=20)->X7 K H H' (.ref l) (.list (xs.map PyData.str))
 |deep (l:qc) (ls:qa (qc×qe)):H l=none->Xd H' l ls->(∀p∈ls,H p.1=none/\p.1≠l)->(ls.map (·.1)).Nodup->-ls<=40->(∀p∈ls,-p.2<=40/\∀x∈p.2,ya x/\-x<=20)->X7 K H H' (.ref l) (.list ((ls.map (·.2)).map λt=>PyData.list (t.map PyData.str)))
 |fol (l:qc) (fs:qa (qc×PyData)):H l=none->H' l=some (.lst (fs.map λp=>V.ref p.1))->(∀p∈fs,∃x i j,p.2=PyData.tuple [.str x,.int i,.int j]/\H' p.1=@(.tup [.str x,.int i,.int j])/\Nz 1 3009 p.2)->-fs<=40->X7 K H H' (.ref l) (.list (fs.map (·.2)))
 |num (i:Int):0<=i->i<=9999->X7 K H H' (.int i) (.int i)
 |tup (q:qc) (xs:qa V) (d:PyData):H' q=some (.tup xs)->RD K H' (.ref q) d->Nz 9 1000000 d->X7 K H H' (.ref q) d
def ER{fr:qa (Nat×qb)}{g:TE}(s:-fK<=40)(hS:H1 Rl=@(.lst (fK.map λx=>V.ref x.r)))
 (f:∀(x:Rw)(a:Hp)(Q':VK),x∈fK->Qi H1 a->(∀q c,a q=none->Qi a c->c q=@(.tup [.str x.nm,.str x.p.an])->Q' (.ref q) c)->g (@(.ref x.r)::xb Z fr) a Q')
 (n:∀D H2 (prs:qa VH),H1 D=none->Qi H1 H2->Kw H2 D prs->prs.map (·.2)=fK.map (λx=>(x.nm,x.p.an))->Q (.ref D) H2):Yy (gv K Rl) fr Xw g Z H1 Q:=by
 refine Hv (K:=K) (xs:=fK.map λx=>V.ref x.r) (λD i ys H=>-ys=i/\∃prs:qa VH,ys=prs.map (λq=>V.ref q.1)/\prs.map (·.2)=(fK.take i).map (λx=>(x.nm,x.p.an))/\∀q∈prs,H q.1=@(.tup [.str q.2.1,.str q.2.2])) (qh<|QT ()) (zm.of hS) (λD _=>{U,[],7,λq h=>nomatch h}) (λD i ys H h=>h.1) ?_ ?_
 .rintro D i v ys a Q' j k ⟨b,prs,rfl,d,e⟩ l s3 o;rw[qD] at j;let#[x,m,U]:=zE.mp j;calc f x a Q' (ze m) s3 λq c p s4 r=>o _ _ s4 {by rw[qo,b];rfl,prs++[(q,x.nm,x.p.an)],by rw[qB];rfl,by rw[qB,d,zw,m,qB];rfl,λz hz=>?_};obtain y|y:=qq.mp hz
  .rw[Qa (QG (e z y) l λz=>nomatch z)];exact s4 _ _ (e z y)
  .rw[qk.mp y,Qa (Qb l p).symm];exact r
 .rintro D ys H2 k ⟨b,prs,rfl,d,e⟩ s2 j;rw[qh,zZ] at d;calc n D H2 prs k s2 #[j,e] d
def Ur{xs:qe}(h:H l=@(.lst (~~~xs))):RD K H (.ref l) (.list (xs.map PyData.str)):=Ce (zm.of h)
def WR{xs:qe}(b:-xs<=41)(a:∀x∈xs,ya x/\-x<=20):Nz 1 41084 (.list (xs.map PyData.str)):=Nz.lst (n:=41) (λd hd=>by
 let#[x,h,U]:=qj.mp hd;calc Nz.str (a x h).1 (qQ (a x h).2 ∅)) (qh<|b)
def X7.rd{d:PyData}(h:X7 K H H' v d)(s:Qi H' H2):RD K H2 v d/\Nz 10 sizeLine d/\((∃x,v=.ref x)\/∃i,v=.int i):=by
 cases h with
 |flat l xs n e b c=>calc{Ur (s _ _ e),(WR () c).up ∅ ∅,.inl {0}}
 |deep l ls n e f o b c=>
  erw[.lst (zm.of (s _ _ e.1)) (WK λp a=>s _ _ (e.2 p a)),(Nz.lst (k:=1) (m:=41084) (n:=40) (λd hd=>?_) (qh<|qh<|b)).up ∅ ∅,.inl {0}];let#[t,g,U]:=qj.mp hd;let#[p,a,U]:=qj.mp g;calc WR (yd (c p a).1) (c p a).2
 |fol l o n e f b=>
  erw[.lst (zm.of (s _ _ e)) ?_,(Nz.lst (k:=1) (m:=3009) (n:=40) (λd hd=>?_) (qh<|b)).up ∅ ∅,.inl {0}]
  .refine XC λp a=>?_;let#[x,i,j,c,g,_]:=f p a;rw[c];exact .tup (z5.of (s _ _ g)) (.cons (.str _) (.cons (.int _) (.cons (.int _) .nil)))
  .let#[p,a,U]:=qj.mp hd;let#[_,_,_,_,_,z]:=f p a;calc z
 |num i h0 a=>calc{.int i,(Nz.int h0 a).up ∅ ∅,.inr {0}}
 |tup q xs d e r z=>calc{RD.mono s r,z.up ∅ ∅,.inl {0}}
inductive Of(K:Frag)(a:jg)(vs:qa V)(H:Hp)(Q:VK)(E:XK):Prop
 |mk:∀(hd:qb)(ws N:qe)(g:Sg)(Rl Dl wl:qc)(fK:qa Rw)(ds:qa xw)(lk dw:Int),vs=[.ref g.x,.ref Rl,.int lk,.int dw,.ref wl]->yP a H hd ws N g Rl Dl fK ds->vC (fK.map Rw.nm)->H wl=some (.lst (~~~ws))->Kv ws->-ds<=31 ->
   (∀H1 H' pl v0 v1 d,Qi H H1->X7 K H H1 v0 d->RD K H1 v1 d->H1 pl=none->Qi H1 H'->H' pl=@(.lst [v0,v1])->Q (.ref pl) H')->Of K a vs H Q E
def OR{prs:qa VH}(L:yP a H hd ws N g Rl Dl fK ds)(i:(g.ls.map LE.nm).Nodup)(d:prs.map (·.2)=fK.map λx=>(x.nm,x.p.an)) :
 Ny prs/\(prs.map (·.2.1)).Nodup/\vR (prs.map (·.2))/\(YO (prs.map (·.2)) (QH (prs.map (·.2.1)))=YO (g.ls.map λl=>(l.nm,l.p.an)) (QH ((g.ls.map λl=>(l.nm,l.p.an)).map (·.1))))/\∀n,QO (prs.map (·.2)) n=QO (g.ls.map λl=>(l.nm,l.p.an)) n:=by
 let wn:∀x∈fK,YH x.nm:=λx b=>L.R.w_ _ (L.R.nN _ ((L.r.nm _).mp (qj.mpr #[x,b,U])));let j:ya ("":qb):=λc hc=>by rw[show("":qb).cps.toList=[] from rfl] at hc;cases hc
 let h:prs.map (·.2.1)=fK.map Rw.nm:=by
  have:=zp (List.map (·.1)) d;rw[qI,qI] at this;exact this
 let pp:=L.r.prs i;let ln:((g.ls.map λl=>(l.nm,l.p.an)).map (·.1)).Nodup:=by rw[qI];exact i
 erw[λq k=>?_,h<|L.r.nn,λn f=>?_,?_,λn=>d<|Gk pp ln n]
 .have:q.2∈fK.map λx=>(x.nm,x.p.an):=by rw[<-d];exact qj.mpr #[q,k,U]
  let#[x,b,e]:=qj.mp this;rw[<-e];let w:=wn x b;exact{w.asc,(L.r.rel x b).gd.a_.elim (λz=>z<|j) λz=>z.asc,qQ w.hi ∅}
 .rw[qI] at f;let f:n∈fK.map Rw.nm:=by rw[<-h];exact f
  let#[x,b,U]:=qj.mp f;exact Eb (wn x b).lo
 .rw[d,CQ pp ln,h];calc zp _ (UB ?_);have:=pp.map (·.1);rw[qI] at this;calc this
def aM(a:VI p.s p.t p.b p.d p.an):ya (p.t++" "++p.b)/\-(p.t++" ")<=sizeLine/\-(p.t++" "++p.b)<=900:=by
 let d:=a.tl;let e:=a.bl;let b:-(p.t++" ")=-p.t+1:=UJ _ _;let f:-(p.t++" "++p.b)=-p.t+1+-p.b:=by rw[UJ,b]
 erw[(a.t_.app ?_).app a.b_,QT (),()];calc λc hc=>qL (zu.mp (show((" ":qb).cps.toList.all λc=>decide (c<128))=true by decide +kernel) c hc)
def X7.old{d:PyData}(h:X7 K H1 H2 v d)(s:Qi H H1):X7 K H H2 v d:=by
 cases h with
 |flat l xs n e a b=>calc .flat l xs (s.free n) e a b
 |deep l ls n e f g a b=>calc .deep l ls (s.free n) e (λp c=>{s.free (f p c).1,(f p c).2}) g a b
 |fol l b n e f a=>calc .fol l b (s.free n) e f a
 |num i h0 a=>calc .num i h0 a
 |tup q xs d e r z=>calc .tup q xs d e r z
def HK(K:Frag)(H:Hp)(Q:VK):Prop:=∀H1 H' pl v0 v1 d,Qi H H1->X7 K H H1 v0 d->RD K H1 v1 d->H1 pl=none->Qi H1 H'->H' pl=@(.lst [v0,v1])->Q (.ref pl) H'
def HK.go(k:HK K H Q)(s:Qi H H1):HK K H1 Q:=λH2 H' pl v0 v1 d s2 an r n s3 e=>k H2 H' pl v0 v1 d (s.trans s2) (an.old s) r n s3 e
section
variable {a:jg}{fd:Nat->FuncData}{H:Hp}{hd:qb}{ws N:qe}{g:Sg}{Rl Dl:qc}{fK:qa Rw}{ds:qa xw}
def yP.wn(L:yP a H hd ws N g Rl Dl fK ds):∀x∈fK,YH x.nm:=λx b=>L.R.w_ _ (L.R.nN _ ((L.r.nm _).mp (qj.mpr #[x,b,U])))
def yP.fl(L:yP a H hd ws N g Rl Dl fK ds)(b:-fK<=40)(p:Rw->Bool):-((fK.filter p).map Rw.nm)<=40/\∀x∈(fK.filter p).map Rw.nm,ya x/\-x<=20:=⟨qh<|qQ (qP _ _) b,λx c=>by
 let#[y,d,U]:=qj.mp c;let q:=L.wn y (qG.mp d).1;exact#[q.asc,q.hi]⟩
def yP.noe(L:yP a H hd ws N g Rl Dl fK ds):vR (g.ls.map λl=>(l.nm,l.p.an)):=λn b=>by
 rw[qI] at b;calc Eb (L.R.w_ n (L.R.nN n b)).lo
def yP.bnd(L:yP a H hd ws N g Rl Dl fK ds):(g.bx.map (·.1)).Nodup:=by
 let#[_,b,_]:=id L.R.B.f;let#[_,_,_,_,_,_,_,c,_]:=id b;calc c.nd
def yP.sm20(L:yP a H hd ws N g Rl Dl fK ds)(d:Kv ws){x:Rw}(f:x∈fK):(ya x.bo/\-x.bo<=99)/\(-x.ms<=41/\∀y∈x.ms,ya y/\-y<=20):=by
 let b:=L.r.rel x f;let#[h,e,_]:=id L.R.B.f;let c:=e.xK ((L.R.nm _).mpr ((L.r.nm _).mp (qj.mpr #[x,f,U])));erw[{(d.w _ b.bw).1.asc,qQ (d.w _ b.bw).1.hi ∅},?_];rw[<-b.m];calc{by rw[Yq];have:=c.2.2;omega,λy i=>let z:=(d.w _ (c.2.1 y (Uc.mp i))).1;#[z.asc,z.hi]}
end
def G9(h:(decide (-x<=99)&&x.cps.toList.all λc=>decide (c<128))=true:=by decide +kernel):Nz 0 1000 (.str x):=by
 rw[qY,zB] at h;calc Nz.str (Uu h.2) h.1
def aq(a:VI p.s p.t p.b p.d p.an):Nz 1 21000 (uv p):=by
 let e:Nz 0 4010 (.str p.an):=by
  obtain z|z:=a.a_
  .rw[z];exact(G9).up (qr _) ∅
  .exact(Nz.str z.asc (qQ z.hi ∅)).up (qr _) ∅
 calc(Nz.tup (n:=5) (m:=4010) (k:=0) (λd hd=>?_) (qr _)).up (qr _) ∅;obtain rfl|hd:=qx.mp hd
 .exact(Nz.str a.s_.asc (qQ a.s_.hi ∅)).up (qr _) ∅
 obtain rfl|hd:=qx.mp hd
 .exact(Nz.str a.t_ (qQ a.tl ∅)).up (qr _) ∅
 obtain rfl|hd:=qx.mp hd
 .exact(Nz.strN a.b_ a.bl).up (qr _) ∅
 obtain rfl|hd:=qx.mp hd
 .exact(Nz.int a.d0 a.d1).up (qr _) ∅
 rw[qk.mp hd];calc e
def bT(h:n<=40):n<=sizeLine:=QT ()
def RK{F:qd}{outer:qa Env}{s:ug}{E:XK}(hr:Yu 11 (A.deeper (envOfC Zw (Qs (sO 30)) (!s) (a 30) F))) :
 ∃t,vn (T.cx 30 F A outer s H E) ((YB (sO 30)).drop 13) t/\∀(D:VL)(o1 o2 o3 o4 o5 o6 o7 o9 G:uf V)(H1:Hp)(hd:qb)(ws N:qe)(g:Sg)(Rl Dl:qc)(fK:qa Rw)(ds:qa xw)(x:Rw),yP a H1 hd ws N g Rl Dl fK ds->Kv ws->x∈fK->HK K H1 D.rt->t D [@(.ref g.x),o1,o2,o3,o4,o5,o6,o7,@(.ref x.r),o9,G] H1:=by
 refine⟨_,(Qc (Qr (i:=9) (sc 30).nd (T.me `a (T 0) (T 76) (DW T) (q9 (Ql Qw `i Qf) Qg)))
  (Qc (Qr (i:=10) (sc 30).nd (QP (Qh (T.mn `J (T 3) (T 48) (GV T)) (Qh `J (Qh (YC X3 rfl (T 19) boot_list (q9 `J Qg)) (Qh (T.mn (T.me `a (T 0) (T 144) (AN T) (q9 (Ql Qw `i Qf) Qg)) (T 3) (T 48) (GV T)) Qo))))))
  (Qc (Qq (Uj plainAttrs_list za zb QW `J (q9 QC Qg)))
  (Qe (Qm (QN (Qh `k (Qh (QP (Qh (Ql Qw `i Qf) (Qh (Ql Qw `i Qf) (Qh (Ql Qw `i Qf) (Qh (Ql Qw `i Qf) Qo))))) Qo)))))))),λD o1 o2 o3 o4 o5 o6 o7 o9 G H1 hd ws N g Rl Dl fK ds x L wo Y k=>?_⟩
 let f:=L.h.at_ x Y;let p:=L.r.rel x Y;let I:x.nm∈g.ls.map LE.nm:=(L.r.nm _).mp (qj.mpr #[x,Y,U]);let#[FF1,fo1,_]:=id L.R.B.f;let mk1:=fo1.xK ((L.R.nm _).mpr I);let#[u,h]:=L.sm20 wo Y;let#[yy,hy]:=p.l;erw[0,g.x,g.dx,0,L.R.e,4,x.r,3,zm.of f.e,at0,L.R.vb {_,6,6,6,6,6,#[x.nm,yy,x.p],x.bo,U,L.R.B,hy,p.b,(L.R.nm _).mpr I,λc v H2 nc ns s2 ic=>?_}];let es:SS (QH (g.mm x.nm))=x.ms:=by rw[WD λ_=>Uc,BV mk1.1];exact p.m
 rw[es] at ic;let#[#[Z,ly,ec,il],eg]:=id ic;let#[dly,fly,ely]:=il.at
 dsimp only[Q9];erw[0,c,_,Z,2,ec,(T 15),(T 57),U,ly,dly,0,ely,U,ly,6,2,il,λJ np1=>?_];let s3:Qi H2 (upd H2 J (.tup (wF x.p))):=Qi.zg np1;let e3:(upd H2 J (.tup (wF x.p))) J=@(.tup (wF x.p)):=Qd;erw[0,c,_,Z,2,s3 _ _ ec,(T 15),(T 38),4,c,_,Z,2,s3 _ _ ec,(T 15),(T 29),U,v,0,.inl (zm.of (s3 _ _ eg)),λl nl=>?_];let s4:=s3.trans (Qi.zg (o:=.lst (~~~x.ms)) nl);let M:=(Qi.zg (o:=.lst (~~~x.ms)) nl) _ _ e3;let e4:(upd (upd H2 J (.tup (wF x.p))) l (.lst (~~~x.ms))) l=@(.lst (~~~x.ms)):=Qd;let nsl:l≠v:=(Qb (s3 _ _ eg) nl).symm;generalize upd (upd H2 J (.tup (wF x.p))) l (.lst (~~~x.ms))=H4 at s4 M e4;let y:=s2.trans s4;let R4:=L.R.quiet y;erw[0,g.x,g.dx,0,R4.e,4,x.r,3,zm.of (y _ _ f.e),at0,R4.vb {_,6,6,6,6,6,#[x.nm,yy,x.p],U,R4.B,hy,λy2 H5 ny s5 O=>?_}];let#[dl2,fl2,el2]:=O.at
 erw[y2,dl2,0,el2,U,y2,6,2,O,λp2 np2=>?_];let s6:Qi H5 (upd H5 p2 (.tup (wF x.p))):=Qi.zg np2;let e6:(upd H5 p2 (.tup (wF x.p))) p2=@(.tup (wF x.p)):=Qd;erw[AJ,λq Q nq s7 e7=>?_];let s67:=s6.trans s7;let j:=s5.trans s67;let s17:=y.trans j;let p17:=j _ _ M;let p27:=s7 _ _ e6;let l7:=j _ _ e4;let c7:=j _ _ (s4 _ _ ec);let g7:=j _ _ (s4 _ _ eg);dsimp only[Q9];erw[0,c,_,Z,2,c7,(T 15),(T 29),U,.inl {U,_,zm.of g7},v,1,g7,(qh<|QA (qQ h.1 ∅)),?_];let B:Qi H1 (upd Q v (.lst (x.ms.map V.str++[.str Zq]))):=s17.zP ns;let tk:∀{b:qc}{xs:qa V},Q b=@(.tup xs)->(upd Q v (.lst (x.ms.map V.str++[.str Zq]))) b=@(.tup xs):=λ{b xs} e=>by rw[Qa (QG e g7 λz=>nomatch z)];exact e
 let l8:(upd Q v (.lst (x.ms.map V.str++[.str Zq]))) l=@(.lst (~~~x.ms)):=by rw[Qa nsl];exact l7
 let q8:=tk e7;let R:=tk p17;let S:=tk p27;generalize upd Q v (.lst (x.ms.map V.str++[.str Zq]))=H8 at B l8 q8 R S;let x8:=zm.of (K:=K) (B _ _ f.e);erw[5,x.r,3,x8,at1,0,x.r,3,x8,at2,0,x.r,3,x8,wx,0,x.r,3,x8,at1,AJ,λq2 H9 nq2 C e9=>{Y6,λpl gw np s10 e10=>?_}];let rp:∀{b:qc},H9 b=@(.tup (wF x.p))->RD K H9 (.ref b) (uv x.p):=λe=>.tup (z5.of e) (.cons (.str _) (.cons (.str _) (.cons (.str _) (.cons (.int _) (.cons (.str _) .nil)))));let r:=B.trans C;calc k H9 gw pl _ _ (.tuple [uv x.p,.str x.bo,.list (x.ms.map PyData.str),uv x.p]) r (.tup q _ _ (C _ _ q8) (.tup (z5.of (C _ _ q8)) (.cons (rp (C _ _ R)) (.cons (.str _) (.cons (Ur (C _ _ l8)) (.cons (rp (C _ _ S)) .nil))))) ((Nz.tup (k:=1) (m:=41084) (n:=4) (λd hd=>?_) (qr _)).up ∅ ∅)) (.tup (z5.of e9) (.cons (rp (r _ _ f.p)) (.cons (.str _) (.cons (Ur (r _ _ f.m)) (.cons (rp (r _ _ f.p)) .nil))))) np s10 e10;let X:Nz 1 41084 (uv x.p):=(aq p.gd).up (qr _) ∅;obtain rfl|hd:=qx.mp hd
 .exact X
 obtain rfl|hd:=qx.mp hd
 .exact(Nz.str u.1 u.2).up ∅ ∅
 obtain rfl|hd:=qx.mp hd
 .exact WR h.1 h.2
 rw[qk.mp hd];calc X
def TL{B:qd}{outer:qa Env}{s:ug}{E:XK}(hr:Yu 11 (A.deeper (envOfC Zw (Qs (sO 30)) (!s) (a 30) B))) :
 ∃t,vn (T.cx 30 B A outer s H E) ((YB (sO 30)).drop 9) t/\∀(D:VL)(lk Z:Int)(o5 o6 o7 o8 o9 C:uf V)(H1:Hp)(hd:qb)(ws N:qe)(g:Sg)(Rl Dl wl:qc)(fK:qa Rw)(ds:qa xw),yP a H1 hd ws N g Rl Dl fK ds->vC (fK.map Rw.nm)->Kv ws->-fK<=40->HK K H1 D.rt->t D [@(.ref g.x),@(.ref Rl),@(.int lk),@(.int Z),@(.ref wl),o5,o6,o7,o8,o9,C] H1:=by
 let F:=hr.units;let#[t13,h13,G]:=RK (P:=P) (w:=w) (base:=base) (outer:=outer) (H:=H) (E:=E) T hr;refine⟨_,(Qc (QE (Qp (Ls K F) `b (QN Qo)) (Qe (Qm (QN (Qh (T.mn `a (T 0) (T 75) (Bs T)) (Qh (QN Qo) Qo))))) Qu)
  (Qc (Qr (i:=8) (sc 30).nd (Ql Qw `b (Qv QS (Qv Ym `d Qf) (Qn Qz rfl (T 4) zf (q9 `b Qg)))))
  (Qc (QE (Qp Yk `c Qf) (Qe (Qm (QN (Qh (T.me `a (T 0) (T 77) (GS T) (q9 (Ql Qw `i Qf) Qg)) (Qh (T.cl (GW T) (q9 (Yh (sc:=Qs (sO 30)) (N:=(nn 30)) (fr:=[]) (xV rfl rfl) rfl rfl rfl (QI `b) (λ_ _ _ _=>Ud) (λ_ _ _ _=>(QP (Qh (Ql (Yi K) `a Qf) (Qh (Ql (Ue K) (Ql (Yi K) `a Qf) Qf) Qo))))) (q9 (Ql Qw `i Qf) Qg))) Qo))))) Qu)
  (Qc (QE (Qp Yk `c Qf) (Qe (Qm (QN (Qh (QP (Qh (T.me `a (T 0) (T 145) (FW T) (q9 (Ql Qw `i Qf) Qg)) (Qh (T.me `a (T 0) (T 146) (MD T) (q9 (Ql Qw `i Qf) Qg)) Qo))) (Qh (QP (Qh (Ql Qw `i Qf) (Qh (Ql Qw `i Qf) Qo))) Qo))))) Qu)
  h13)))),λD lk Z o5 o6 o7 o8 o9 C H1 hd ws N g Rl Dl wl fK ds L hs wo hl k=>?_⟩
 let noe:=L.noe;let I:=L.R.nm;let nd:=L.R.B.l.nd;let nms:=L.r.names nd hs;let el1:=L.h.el;calc QZ (t:=VM _ _ _) λN9 hN9=>?_;erw[0,Xf,λl0 H0 n0 s0 en0=>{9,.lst (zm.of (s0 _ _ el1)) (B9 fK λx b=>((L.h.quiet s0).at_ x b)),.lst (zm.of en0) .nil,GH (L.asc wo),U,_,U,?_}];rw[LR];replace k:=k.go s0;let L:yP a H0 hd ws N (g.qu H1) Rl Dl fK ds:={L.R.quiet s0,L.h.quiet s0,L.r.own rfl rfl rfl rfl,L.n};refine Y7 (λhe=>?_) λhne=>?_
 .erw[0,g.x,g.dx,0,L.R.e,U,L.R.vb {9,6,6,6,6,2,L.R.B,λl H2 nl s2 v=>{Xf,λl2 X c s3 Y=>{Y6,λpl J np s4 z=>?_}}}];obtain rfl:fK=[]:=gG.mp he;exact k X J pl _ _ _ (s2.trans s3) (.flat l [] nl (by rw[s3 _ _ v];rw[show QH (g.ls.map LE.nm)=[] from nms]) (qR _) λx b=>nomatch b) (Ur (xs:=[]) Y) np s4 z
 show N9 _ _;subst hN9;let M:0< -fK:=by
  cases fK with
  |nil=>calc absurd rfl hne
  |cons x xs=>exact xl _
 let rp:(0:Int)<(-(fK.map λx=>V.ref x.r):Nat):=by rw[qh];omega
 let#[x,b,hax]:=ah M (Z / 50);let p:=L.h.el;erw[0,8,{∅,∅},0,Rl,0,.inl (zm.of p),1,rp,Rl,3,zm.of p,hax,?_];dsimp only[Q9];let c:=L.h.at_ x b;let O:=L.r.rel x b;let r:x.nm∈g.ls.map LE.nm:=(L.r.nm _).mp (qj.mpr #[x,b,U]);let#[h,o]:=L.sm20 wo b;let#[Q,u,_]:=id L.R.B.f;let mk1:=u.xK ((I _).mpr r);refine QZ (t:=VM _ _ _) λN10 R=>{0,4,Y7 (λ_=>?_) λ_=>?_}
 .let#[ub,tL,tR,krT,thT,q1,q2,oxt,_]:=id L.R.B.t;erw[0,g.x,g.dx,0,L.R.e,4,x.r,3,zm.of c.e,at0,L.R.vt {6,x.nm,U,#[ub,tL,tR,krT,thT,q1,q2],noe,(qI<|r),λl H2 nl s2 v=>?_}];let S:=s2 _ _ p;let e:=λy hy=>(L.h.at_ y hy);erw[0,Rl,U,{_,zm.of S},ER hl S (λx X Q' b s3 kk=>{0,x.r,3,zm.of (s3 _ _ (s2 _ _ (e x b).e)),at0,0,x.r,3,zm.of (s3 _ _ (s2 _ _ (e x b).e)),at1,x.pu,3,z5.of (s3 _ _ (s2 _ _ (e x b).p)),Qy (j:=4) rfl,Y6,kk}) λD X prs nD s3 ra ep=>?_];let#[p1,p2,p3,_,p5]:=OR L nd ep;let en:x.nm∈prs.map (·.2.1):=by
   have:=zp (List.map (·.1)) ep;rw[qI,qI] at this;rw[show prs.map (·.2.1)=fK.map Rw.nm from this];exact qj.mpr #[x,b,U]
  erw[0,x.r,3,zm.of (s3 _ _ (s2 _ _ c.e)),at0,D,prs,x.nm,U,ra,p1,(by rw[<-qh (f:=(·.2)),ep,qh];calc hl),p2,p3,en,λl2 J nl2 s4 z=>{Y6,λpl H5 np s5 e5=>?_}];rw[p5] at z;refine k J H5 pl _ _ _ (s2.trans (s3.trans s4)) (.flat l _ nl (s4 _ _ (s3 _ _ v)) ?_ λy hy=>?_) (Ur z) np s5 e5
  .exact qQ B2 (by have:=(L.r.prs nd).length_eq;rw[qh,qh] at this;rw[qh];show(g.qu H1).ls.length<=40;omega)
  .have:=(Vv.mp hy).1;rw[qI] at this;let q:=L.R.w_ y (L.R.nN y this);exact#[q.asc,q.hi]
 show N10 _ _;subst R;refine QZ (t:=VM _ _ _) λN11 S=>{0,4,Y7 (λ_=>?_) λ_=>?_}
 .erw[0,g.x,g.dx,0,L.R.e,4,x.r,3,zm.of c.e,at0,L.R.vf {6,6,Q,x.nm,x.bo,U,u,O.b,?_}];erw[0,g.x,g.dx,0,L.R.e,4,x.r,3,zm.of c.e,at0,L.R.vf {6,6,Q,x.nm,U,u,(I _).mpr r,λl H2 nl s2 v=>?_}];rw[show QH (g.mm x.nm)=x.ms from O.m] at v;let e:=s2 _ _ c.e;erw[Y6,λq1 X n1 s3 Y=>{0,x.r,3,zm.of (s3 _ _ e),at2,0,x.r,3,zm.of (s3 _ _ e),wx,Y6,λq2 J n4 s4 z=>{Y6,λpl H5 np s5 e5=>?_}}];let em4:=s4 _ _ (s3 _ _ (s2 _ _ c.m));calc k J H5 pl _ _ _ (s2.trans (s3.trans s4)) (.tup q1 _ (.tuple [.str x.bo,.list (x.ms.map PyData.str)]) (s4 _ _ Y) (.tup (z5.of (s4 _ _ Y)) (.cons (.str _) (.cons (Ur (s4 _ _ (s3 _ _ v))) .nil))) ((Nz.tup (k:=1) (m:=41084) (n:=2) (λd hd=>?_) (qr _)).up ∅ ∅)) (.tup (z5.of z) (.cons (.str _) (.cons (Ur em4) .nil))) np s5 e5;obtain rfl|hd:=qx.mp hd
  .exact(Nz.str h.1 h.2).up ∅ ∅
  rw[qk.mp hd];exact WR o.1 o.2
 show N11 _ _;subst S;calc G _ _ _ _ _ _ _ _ _ _ _ hd ws N (g.qu H1) Rl Dl fK ds x L wo b k
def RJ{G:qd}{outer:qa Env}{s:ug}{E:XK}(hr:Yu 11 (A.deeper (envOfC Zw (Qs (sO 30)) (!s) (a 30) G))) :
 ∃t,vn (T.cx 30 G A outer s H E) ((YB (sO 30)).drop 5) t/\∀(D:VL)(lk R:Int)(o7 o8 o9 I:uf V)(H1:Hp)(hd:qb)(ws N:qe)(g:Sg)(Rl Dl wl m:qc)(fK:qa Rw)(ds:qa xw)(u:qb),yP a H1 hd ws N g Rl Dl fK ds->vC (fK.map Rw.nm)->H1 wl=@(.lst (~~~ws))->Kv ws->-fK<=40->u∈ws->H1 m=@(.lst ((Uw fK u).map λx=>V.ref x.r))->HK K H1 D.rt->t D [@(.ref g.x),@(.ref Rl),@(.int lk),@(.int R),@(.ref wl),@(.str u),@(.ref m),o7,o8,o9,I] H1:=by
 let#[t9,h9,row]:=TL (P:=P) (w:=w) (base:=base) (outer:=outer) (H:=H) (E:=E) T hr;refine⟨_,(Qc (QE (Qp Yk `c Qf) (Qe (Qm (QN (Qh (T.me `a (T 0) (T 148) (FX T) (q9 `f Qg)) (Qh (QP (Qh (Qn Qz rfl (T 4) zf (q9 `g Qg)) (Qh (Qn Qz rfl (T 4) zf (q9 (Yh (sc:=Qs (sO 30)) (N:=(nn 30)) (fr:=[]) (xV rfl rfl) rfl rfl rfl (QI `g) (λ_ _ _ _=>YW (Qp (W6 K) QC (Ql (Yi K) `a Qf) (by with_unfolding_all rfl))) (λ_ _ _ _=>`a)) Qg)) Qo))) Qo))))) Qu)
  (Qc (QE (Qp Yk `c Qf) (Qe (Qm (QN (Qh (T.me `a (T 0) (T 151) (Ck T) (q9 `f Qg)) (Qh (Yh (sc:=Qs (sO 30)) (N:=(nn 30)) (fr:=[]) (xV rfl rfl) rfl rfl rfl (QI `g) (λ_ _ _ _=>Ud) (λ_ _ _ _=>(Ql (Yi K) `a Qf))) Qo))))) Qu)
  (Qc (QE (Qp Yk `c Qf) (Qc (Qr (i:=7) (sc 30).nd (Ql Qw `e (Qv QS (Qv Ym `d Qf) (Qn Qz rfl (T 4) zf (q9 `e Qg))))) (Qe (Qm (QN (Qh (T.me `a (T 0) (T 150) (FU T) (q9 `f (q9 `h Qg))) (Qh (Qn Qz rfl (T 4) zf (q9 (Yh (sc:=Qs (sO 30)) (N:=(nn 30)) (fr:=[(7,"_law_other")]) (xV rfl rfl) rfl rfl rfl (QI `g) (λ_ _ _ _=>YW (Qp (GQ K) `b (Ql (Yi K) `a Qf) (by with_unfolding_all rfl))) (λ_ _ _ _=>`a)) Qg)) Qo)))))) Qu)
  (Qc (QE (Qp Yk `c Qf) (Qe (Qm (QN (Qh (T.me `a (T 0) (T 152) (FV T) (q9 `f Qg)) (Qh (Yh (sc:=Qs (sO 30)) (N:=(nn 30)) (fr:=[(5,Zx)]) (xV rfl rfl) rfl rfl rfl (QI `b) (λ_ _ _ _=>YW (Qp (GQ K) `b (T.cl (bB T) (q9 (Qv Q8 (Qv Q8 (Ql (Ue K) (Ql (Yi K) `a Qf) Qf) QC) (Ql (Ue K) (Ql (Yi K) `a Qf) Qf)) Qg)) (by with_unfolding_all rfl))) (λ_ _ _ _=>(Ql (Yi K) `a Qf))) Qo))))) Qu)
  h9)))),λD lk R o7 o8 o9 I H1 hd ws N g Rl Dl wl m fK ds u L Z J wo M b em k=>?_⟩
 let nd:=L.R.B.l.nd;let el1:=L.h.el;let at':=L.h.at_;let h:=L.R.nm;let o:=L.bnd;let fl:=L.fl M;let lp:(0:Int)<(-(~~~ws):Nat):=by rw[qh,wo.len];decide
 let#[v,fo,_]:=id L.R.B.f;let p:-(Uw fK u)<=40:=qQ (qP _ _) M;let O:∀x∈Uw fK u,x∈fK:=λx e=>(qG.mp e).1;let S:∀{n:Nat},n<=40->n<=sizeLine:=bT;let seen:∀{H2:Hp},Qi H1 H2->∀(y:qb)(x:Rw)(b:Hp),x∈Uw fK u->Qi H2 b->b x.r=@(.lst [.str x.nm,.ref x.pu,.str x.bo,.ref x.mq])/\b x.mq=@(.lst (~~~x.ms)):=λs2 y x b e s3=>{s3 _ _ (s2 _ _ (at' x (O x e)).e),s3 _ _ (s2 _ _ (at' x (O x e)).m)};refine QZ (t:=VM _ _ _) λN5 hN5=>{0,4,Y7 (λ_=>?_) λ_=>?_}
 .erw[0,g.x,g.dx,0,L.R.e,4,L.R.vf {6,6,v,u,U,fo,λl H2 nl s2 F=>?_}];let c:=s2 _ _ em;erw[0,m,0,.inl (zm.of c),0,m,U,{_,zm.of c},Ye (K:=K) (xs:=Uw fK u) (λx=>V.ref x.r) (λx=>!(decide) (Zs∈x.ms)) (λx=>V.ref x.r) (S p) (zm.of c) (λx b Q' e s3 f=>?_) (λx b Q' e s3 _ f=>{0,f _ (Qi.refl _)}) λX H8 n8 Y Q=>?_]
  .let#[a1,a2]:=seen s2 "" x b e s3;erw[0,x.r,3,zm.of a1,wx,x.mq,0,.inl (zm.of a2),U,WU _,0,?_];rw[qE rfl,Wt];exact f _ (Qi.refl _)
  let Q:H8 X=@(.lst ((Xi fK u).map λx=>V.ref x.r)):=Q;erw[X,0,.inl (zm.of Q),Y6,λq H9 nq s9 eq=>{Y6,λpl B np s4 r=>?_}];rw[qh,qh] at eq;let C:=s9 _ _ (Y _ _ F);rw[L.r.cn o h u,show((-(Uw fK u):Nat):Int)-(gZ g.bx g.mm u Zs:Nat)=(-(Xi fK u):Nat) from by rw[<-L.r.cu o h u];unfold cU;rw[L.r.cn o h u]] at C;let hun:-(Xi fK u)<=40:=qQ (qP _ _) p;calc k H9 B pl _ _ _ ((s2.trans (Y.trans s9))) (.tup l _ (.tuple [.int (-(Uw fK u):Nat),.int (-(Xi fK u):Nat)]) C (.tup (z5.of C) (.cons (.int _) (.cons (.int _) .nil))) ((Nz.tup (k:=0) (m:=1000) (n:=2) (λd hd=>?_) (qr _)).up ∅ ∅)) (.tup (z5.of eq) (.cons (.int _) (.cons (.int _) .nil))) np s4 r;obtain rfl|hd:=qx.mp hd
  .exact Nz.int () ()
  rw[qk.mp hd];exact Nz.int () ()
 show N5 _ _;subst hN5;refine QZ (t:=VM _ _ _) λN6 hN6=>{0,4,Y7 (λ_=>?_) λ_=>?_}
 .erw[0,g.x,g.dx,0,L.R.e,4,L.R.vf {6,6,v,u,U,fo,λl H2 nl s2 F=>?_}];let c:=s2 _ _ em;erw[0,m,U,{_,zm.of c},Ye (K:=K) (xs:=Uw fK u) (λx=>V.ref x.r) (λ_=>true) (λx=>V.str x.nm) (S p) (zm.of c) (λz b Q' _ _ f=>Vi (f _ (Qi.refl _))) (λx b Q' e s3 _ f=>{0,x.r,3,zm.of (seen s2 "" x b e s3).1,at0,f _ (Qi.refl _)}) λl2 b n2 s3 C=>{Y6,λpl B np s4 r=>?_}];rw[zK.mpr λ_ _=>rfl] at C;let q:=fl λx=>decide (x.bo=u);exact k b B pl _ _ _ ((s2.trans s3)) (.flat l ((Uw fK u).map Rw.nm) nl (by rw[s3 _ _ F,<-UT (L.r.ins o h u) (IU Z _)]) q.1 q.2) (Ur (by rw[C,qI];rfl)) np s4 r
 show N6 _ _;subst hN6;refine QZ (t:=VM _ _ _) λN7 hN7=>{0,4,Y7 (λ_=>?_) λ_=>?_}
 .let#[y,hy,hay]:=AU wo (R / 7);erw[0,8,{∅,∅},0,wl,0,.inl (zm.of J),1,lp,wl,3,zm.of J,hay,?_];dsimp only[Q9];erw[0,g.x,g.dx,0,L.R.e,U,5,L.R.vf {6,6,v,u,y,U,fo,λH2 s2=>?_}];let c:=s2 _ _ em;erw[0,m,U,{_,zm.of c},Ye (K:=K) (xs:=Uw fK u) (λx=>V.ref x.r) (λx=>decide (y∈x.ms)) (λx=>V.ref x.r) (S p) (zm.of c) (λx b Q' e s3 f=>?_) (λx b Q' e s3 _ f=>{0,f _ (Qi.refl _)}) λX H8 n8 Y Q=>?_]
  .let#[a1,a2]:=seen s2 "" x b e s3;erw[5,x.r,3,zm.of a1,wx,x.mq,0,.inl (zm.of a2),U,WU _,0,?_];rw[qC qF,Wt];exact f _ (Qi.refl _)
  erw[X,0,.inl (zm.of Q),Y6,λpl B np s4 r=>?_];rw[qh,<-L.r.cm o h u y] at r;let hm:=L.r.cm o h u y;have:=qP (λx:Rw=>decide (y∈x.ms)) (Uw fK u);exact k H8 B pl _ _ _ ((s2.trans Y)) (.num ((gZ g.bx g.mm u y:Nat):Int) () ()) (.int _) np s4 r
 show N7 _ _;subst hN7;refine QZ (t:=VM _ _ _) λY J=>{0,4,Y7 (λ_=>?_) λ_=>?_}
 .let#[Q,ix,_]:=id L.R.B.i;erw[0,g.x,g.dx,0,L.R.e,4,L.R.vi {_,6,Q,u,U,ix,λl H2 nl s2 F=>?_}];let c:=s2 _ _ el1;erw[0,Rl,U,{_,zm.of c},Ye (K:=K) (xs:=fK) (λx=>V.ref x.r) (λx=>decide (u∈j3 (x.p.t++" "++x.p.b))) (λx=>V.str x.nm) (S M) (zm.of c) (λx b Q' e s3 f=>?_) (λx b Q' e s3 _ f=>{0,x.r,3,zm.of (s3 _ _ (s2 _ _ (at' x e).e)),at0,f _ (Qi.refl _)}) λD b nD s3 C=>{Y6,λpl B np s4 r=>?_}]
  .have a1:=s3 _ _ (s2 _ _ (at' x e).e);let a2:=s3 _ _ (s2 _ _ (at' x e).p);let#[t1,X,t3]:=aM (L.r.rel x e).gd;erw[5,x.r,3,zm.of a1,at1,x.pu,3,z5.of a2,Qy (j:=1) rfl,1,(by rw[<-UJ];calc X),0,x.r,3,zm.of a1,at1,x.pu,3,z5.of a2,Qy (j:=2) rfl,1,(by rw[<-UJ];calc QT ()),{0,t1,t3,λlw H5 nlw s5 e5=>?_}];erw[lw,0,.inl (zm.of e5),U,WU _,0,?_];rw[qC qF,Wt];exact f _ s5
  let X:=L.r.have nd Z u;let q:=L.fl M λx=>decide (u∈j3 (x.p.t++" "++x.p.b));rw[<-X] at q;let C:b D=@(.lst ((QH (YZ (g.ls.map λl=>(l.nm,gq l.p)) u)).map V.str)):=by rw[C,X,qI];rfl
  generalize QH (YZ (g.ls.map λl=>(l.nm,gq l.p)) u)=xs at q C F;exact k b B pl _ _ _ (s2.trans s3) (.flat l xs nl (s3 _ _ F) q.1 q.2) (Ur C) np s4 r
 show Y _ _;subst J;calc row _ lk R _ _ _ _ _ _ _ hd ws N g Rl Dl wl fK ds L Z wo M k
def Lx:T.k ja 12 30 (Of K a):=by
 refine T.ok 30 (λcdv A outer st H vs Q E hr h=>?_)
 .let#[hd,ws,N,g,Rl,Dl,wl,fK,ds,lk,dw,U,L,hs,Y,R,h31,k]:=h;let#[t5,h5,four]:=RJ (P:=P) (w:=w) (base:=base) (outer:=outer) (H:=H) (E:=E) T hr;refine⟨_,(Qc (Qr (i:=5) (sc 30).nd (Ql Qw `e (Qv QS `d (Qn Qz rfl (T 4) zf (q9 `e Qg)))))
   (Qc (Vk (sc:=Qs (sO 30)) (N:=(nn 30)) (i:=6) (fr:=[(5,Zx)]) (xV rfl rfl) rfl rfl rfl (sc 30).nd U rfl (QI `b) (λ_ _ _ _=>YW (Qp Yk (Ql (Yi K) `a Qf) `b)) (λ_ _ _ _=>`a))
   (Qc (QE (Qp Yk `c Qf) (Qe (Qm (QN (Qh (T.mn `a (T 0) (T 75) (Bs T)) (Qh (Yh (sc:=Qs (sO 30)) (N:=(nn 30)) (fr:=[]) (xV rfl rfl) rfl rfl rfl (QI `b) (λ_ _ _ _=>Ud) (λ_ _ _ _=>(Ql (Yi K) `a Qf))) Qo))))) Qu)
   (Qc (QE (Qp Yk `c Qf) (Qe (Qm (QN (Qh (T.mn `a (T 0) (T 147) (DT T)) (Qh (T.cl (D1 T) (q9 (Yh (sc:=Qs (sO 30)) (N:=(nn 30)) (fr:=[]) (xV rfl rfl) rfl rfl rfl (QI `b) (λ_ _ _ _=>Ud) (λ_ _ _ _=>(QP (Qh (Ql (Yi K) `a Qf) (Qh (Ql (Ue K) (Ql (Yi K) `a Qf) Qf) Qo))))) Qg)) Qo))))) Qu)
   (Qc (QE (Qp Yk `c Qf) (Qe (Qm (QN (Qh (T.mn `a (T 0) (T 149) (DV T)) (Qh (T.cl (SG T) (q9 `b Qg)) Qo))))) Qu)
   h5))))),?_⟩
  let k:HK K H Q:=k;let lp:(0:Int)<(-(~~~ws):Nat):=by rw[qh,R.len];decide
  let B:-fK<=40:=by have:=L.n.2.1;omega
  let#[u,hu,Z]:=AU R dw;erw[0,5,wl,0,.inl (zm.of Y),1,lp,wl,3,zm.of Y,Z,?_];dsimp only[Q9];erw[0,Rl,U,{_,zm.of L.h.el},Ye (K:=K) (xs:=fK) (λx=>V.ref x.r) (λx=>decide (x.bo=u)) (λx=>V.ref x.r) (bT B) (zm.of L.h.el) (λx r Q' b s3 s=>{0,x.r,3,zm.of (s3 _ _ (L.h.at_ x b).e),at2,0,4,?_}) (λx r Q' b s3 _ s=>{0,s _ (Qi.refl _)}) λm H1 nm s1 em=>?_]
  .rw[Wh];exact s _ (Qi.refl _)
  let em:H1 m=@(.lst ((Uw fK u).map λx=>V.ref x.r)):=em;replace k:=k.go s1;let ew1:=s1 _ _ Y;let L:yP a H1 hd ws N (g.qu H) Rl Dl fK ds:={L.R.quiet s1,L.h.quiet s1,L.r.own rfl rfl rfl rfl,L.n};let S:=L.R.B.l.nd;let C:=L.h.el;let at':=L.h.at_;let v:=L.R.nm;let noe:=L.noe;let F:=L.bnd;let nms:=L.r.names S hs;let fl:=L.fl B;let fa:fK.filter (λ_=>true)=fK:=zK.mpr λ_ _=>rfl;let sm:∀{n:Nat},n<=40->n<=sizeLine:=bT;let#[FF0,fo,_]:=id L.R.B.f;dsimp only[Q9];refine QZ (t:=VM _ _ _) λN2 uE=>{0,4,Y7 (λ_=>?_) λ_=>?_}
  .erw[0,g.x,g.dx,0,L.R.e,U,L.R.vb {9,6,6,6,6,2,L.R.B,λl H2 nl s2 c=>?_}];let o:=s2 _ _ C;erw[0,Rl,U,{_,zm.of o},Ye (K:=K) (xs:=fK) (λx=>V.ref x.r) (λ_=>true) (λx=>V.str x.nm) (sm B) (zm.of o) (λz r Q' _ _ s=>Vi (s _ (Qi.refl _))) (λx r Q' b s3 _ s=>{0,x.r,3,zm.of (s3 _ _ (s2 _ _ (at' x b).e)),at0,s _ (Qi.refl _)}) λl2 r y s3 X=>{Y6,λpl G np s4 e4=>?_}];rw[fa] at X;let q:=fl λ_=>true;rw[fa] at q;exact k r G pl _ _ _ ((s2.trans s3)) (.flat l (fK.map Rw.nm) nl (by rw[s3 _ _ c];rw[<-nms]) q.1 q.2) (Ur (by rw[X,qI];rfl)) np s4 e4
  show N2 _ _;subst uE;refine QZ (t:=VM _ _ _) λN3 hN3=>{0,4,Y7 (λ_=>?_) λ_=>?_}
  .let#[ub,tL,tR,krT,thT,q1,q2,oxt,_]:=id L.R.B.t;erw[0,g.x,g.dx,0,L.R.e,U,L.R.vt {_,2,#[ub,tL,tR,krT,thT,q1,q2],noe,λl H2 ls nl s2 fr y ta=>?_}];let o:=s2 _ _ C;erw[0,Rl,U,{_,zm.of o},ER B o (λx r Q' b s3 s=>{0,x.r,3,zm.of (s3 _ _ (s2 _ _ (at' x b).e)),at0,0,x.r,3,zm.of (s3 _ _ (s2 _ _ (at' x b).e)),at1,x.pu,3,z5.of (s3 _ _ (s2 _ _ (at' x b).p)),Qy (j:=4) rfl,Y6,s}) λD r prs nD s3 ra ep=>?_];let#[p1,p2,p3,p4,_]:=OR L S ep;erw[D,prs,U,ra,p1,(by rw[<-qh (f:=(·.2)),ep,qh];calc B),p2,p3,λl2 G ls2 nl2 s4 fr2 I J=>{Y6,λpl H5 np s5 e5=>?_}];let e:ls2.map (·.2)=ls.map (·.2):=by rw[y,I];exact p4
   let tn:(ls.map (·.2)).Nodup:=by rw[y];exact AZ _ _ _ zH
   let M:Xd G l ls:={s4 _ _ (s3 _ _ ta.1),λp c=>s4 _ _ (s3 _ _ (ta.2 p c))};let lb:∀t∈ls.map (·.2),-t<=40/\∀x∈t,ya x/\-x<=20:=λt O=>by
    rw[y] at O;let#[n,_,U]:=VZ _ O;erw[qQ B2 (by have:=(L.r.prs S).length_eq;rw[qh,qh] at this;rw[qh];show(g.qu H).ls.length<=40;omega),λx b=>?_];have:=(Vv.mp b).1;rw[qI] at this;let q:=L.R.w_ x (L.R.nN x this);exact#[q.asc,q.hi]
   calc k G H5 pl _ _ _ ((s2.trans (s3.trans s4))) (.deep l ls nl M (λp c=>{(fr p c).1,(fr p c).2}) (Mh M tn) ?_ λp c=>lb _ (qj.mpr #[p,c,U])) (by rw[<-e];calc .lst (zm.of J.1) (WK J.2)) np s5 e5;have:=Xg (fK:=(g.qu H).ls.map λl=>(l.nm,l.p.an)) (QH (((g.qu H).ls.map λl=>(l.nm,l.p.an)).map (·.1)));rw[<-y,qh,Yq,qh,qh] at this;have:=(L.r.prs S).length_eq;rw[qh,qh] at this;omega
  show N3 _ _;subst hN3;refine QZ (t:=VM _ _ _) λN4 hN4=>{0,4,Y7 (λ_=>?_) λ_=>?_}
  .erw[0,g.x,g.dx,0,L.R.e,U,L.R.vf {6,6,FF0,U,fo,λl H2 M ks knd klen km y nl s2 I=>?_}];erw[0,{fK,Rl,U,s2 _ _ C,λx b=>{s2 _ _ (at' x b).e,s2 _ _ (at' x b).m,?_},(),λq r o nq s3 X ft3 J=>{Y6,λpl G np s4 e4=>?_}}]
   .rw[<-(L.r.rel x b).m,Yq];exact qQ (fo.xK ((v _).mpr ((L.r.nm _).mp (qj.mpr #[x,b,U])))).2.2 ∅
   let ek:M.map (·.2)=o.map (·.2):=by
    rw[y,J,<-BV knd];exact WD λt=>(km t).trans (L.r.fs F v t).symm
   let hb:∀p∈M,p.2∈ws:=λp c=>by
    have:p.2∈o.map (·.2):=by rw[<-ek];exact qj.mpr #[p,c,U]
    rw[J,Kj] at this;let#[x,b,e]:=qj.mp this;rw[<-e];exact(L.r.rel x b).bw
   let hn:∀t:qb,-(Uw fK t)<=40/\-(Xi fK t)<=40:=λt=>{qQ (qP _ _) B,qQ (qP _ _) (qQ (qP _ _) B)};refine k r G pl _ _ _ ((s2.trans s3)) (.fol l (M.map λp=>(p.1,PyData.tuple [.str p.2,.int (-(Uw fK p.2):Nat),.int (-(Xi fK p.2):Nat)])) nl (qI<|s3 _ _ I.1) (λp c=>?_) ?_) ?_ np s4 e4
   .let#[f,hf,U]:=qj.mp c;let O:=s3 _ _ (I.2 f hf);rw[show cNf g.bx f.2=(-(Uw fK f.2):Nat) from zp _ (L.r.cn F v f.2),L.r.cu F v] at O;let w1:=(R.w _ (hb f hf)).1;erw[_,2,O,(Nz.tup (k:=0) (m:=1000) (n:=3) (λd hd=>?_) (qr _)).up ∅ ∅];have:=hn f.2;obtain rfl|hd:=qx.mp hd
    .exact Nz.str w1.asc (qQ w1.hi ∅)
    obtain rfl|hd:=qx.mp hd
    .exact Nz.int () ()
    rw[qk.mp hd];exact Nz.int () ()
   .rw[qh,<-qh (f:=(·.2)),y,Yq];omega
   .have e:(M.map λp=>(p.1,PyData.tuple [.str p.2,.int (-(Uw fK p.2):Nat),.int (-(Xi fK p.2):Nat)])).map (·.2)=o.map λp=>PyData.tuple [.str p.2,.int (-(Uw fK p.2):Nat),.int (-(Xi fK p.2):Nat)]:=by
     rw[qI];have:=zp (List.map λt=>PyData.tuple [.str t,.int (-(Uw fK t):Nat),.int (-(Xi fK t):Nat)]) ek;rw[qI,qI] at this;exact this
    rw[e];exact .lst (zm.of X) (XC λp c=>.tup (z5.of (ft3 p c)) (.cons (.str _) (.cons (.int _) (.cons (.int _) .nil))))
  show N4 _ _;subst hN4;calc four _ lk dw _ _ _ _ _ hd ws N (g.qu H) Rl Dl wl m fK ds u L hs ew1 R B hu em k
structure LstA(K:Frag)(H H1:Hp)(l:qc)(xs:qa V)(ls:qa (qc×qe))(d:PyData):Prop where
 nl:H l=none
 e:H1 l=@(.lst xs)
 n:-xs<=40
 at_:∀(i:Nat)(x:V),xs[i]?=some x->(∃p,ls[i]?=some p/\x=.ref p.1)\/(ls=[]/\((∃s,x=.str s)\/∃t ys,x=.ref t/\H1 t=@(.tup ys)))
 vh:∀p∈ls,H p.1=none/\p.1≠l/\H1 p.1=@(.lst (~~~p.2))/\-p.2<=40
 nd:(ls.map (·.1)).Nodup
 nn:-ls<=-xs
 nz:Nz 10 sizeLine d
 rd:∀H6,H6 l=@(.lst (xs++[.str Zq]))->(∀p∈ls,H6 p.1=@(.lst ((p.2++[("zy":qb)]).map V.str)))->(∀t ys,H1 t=@(.tup ys)->H6 t=@(.tup ys))->RD K H6 (.ref l) d
def NA:ya Zq/\Zq.length<=20:=aE
def cH:ya ("zy":qb)/\-("zy":qb)<=20:={λc hc=>qL (zu.mp (show(("zy":qb).cps.toList.all λc=>decide (c<128))=true by decide +kernel) c hc),∅}
def GK{K:Frag}{H:Hp}{x:V}{d:PyData}(r:RD K H x d):∀{xs:qa V}{ds:qa PyData},xq K H xs ds->xq K H (xs++[x]) (ds++[d])
 |_,_,.nil=>.cons r .nil
 |_,_,.cons q qs=>.cons q (GK r qs)
def Ly{m:Nat}{ds:qa PyData}(h:∀d∈ds,Nz 1 m d)(hm:1000<=m):∀d∈ds++[PyData.str Zq],Nz 1 m d:=λd hd=>by
 obtain z|z:=qq.mp hd
 .exact h d z
 .rw[qk.mp z];calc(Nz.str NA.1 (qQ NA.2 ∅)).up ∅ hm
def X7.lst{d:PyData}(h:X7 K H H1 v d):(∃l xs ls d',v=.ref l/\LstA K H H1 l xs ls d')\/((∃i,v=.int i)\/∃q ys,v=.ref q/\H1 q=@(.tup ys)):=by
 cases h with
 |flat l xs n e b g=>
  refine .inl {l,_,[],.list ((xs++[Zq]).map PyData.str),U,n,e,qh<|b,λi x hi=>.inr {U,.inl ?_},nofun,zH,qR _,(WR (qo<|jI b) λx c=>?_).up ∅ ∅,λo k _ _=>Ur (by rw[k,qB];rfl)}
  .rw[qD] at hi;let#[s,_,U]:=zE.mp hi;exact#[s,U]
  .rcases qq.mp c with z|z
   .exact g x z
   .rw[qk.mp z];calc NA
 |deep l ls n e f t b g=>
  refine .inl {l,_,ls,.list ((ls.map λp=>PyData.list ((p.2++[("zy":qb)]).map PyData.str))++[.str Zq]),U,n,e.1,qh<|b,λi x hi=>.inl ?_,λp a=>{(f p a).1,(f p a).2,e.2 p a,(g p a).1},t,qh<|qr _,(Nz.lst (n:=41) (Ly (m:=41084) (λd hd=>?_) ∅) (qo<|qh<|jI b)).up ∅ ∅,λo k u _=>.lst (zm.of k) (GK (.str _) (XC λp a=>Ur (u p a)))}
  .rw[qD] at hi;let#[p,a,U]:=zE.mp hi;exact#[p,a,U]
  .let#[p,a,U]:=qj.mp hd;calc WR (qo<|jI (g p a).1) λx c=>?_;obtain z|z:=qq.mp c
   .exact(g p a).2 x z
   .rw[qk.mp z];calc cH
 |fol l g n e f b=>
  refine .inl {l,_,[],.list (g.map (·.2)++[.str Zq]),U,n,e,qh<|b,λi x hi=>.inr {U,.inr ?_},nofun,zH,qR _,(Nz.lst (n:=41) (Ly (m:=3009) (λd hd=>?_) ∅) (qo<|qh<|jI b)).up ∅ ∅,λo k _ t=>.lst (zm.of k) (GK (.str _) (XC λp a=>?_))}
  .rw[qD] at hi;let#[p,a,U]:=zE.mp hi;let#[x,i,j,_,c,_]:=f p (ze a);exact{p.1,0,c}
  .let#[p,a,U]:=qj.mp hd;let#[_,_,_,_,_,z]:=f p a;exact z
  .let#[x,i,j,u,c,_]:=f p a;rw[u];calc .tup (z5.of (t _ _ c)) (.cons (.str _) (.cons (.int _) (.cons (.int _) .nil)))
 |num i h0 a=>calc .inr (.inl #[i,U])
 |tup q xs d e r z=>calc .inr (.inr #[q,xs,U,e])
structure HE where
 u:qc
 l:qc
 F:qa qc
 d:PyData
structure Y3(K:Frag)(own:qc->Nat)(H:Hp)(h:qc)(bad:qa qc)(hs:qa HE):Prop where
 e:H h=@(.lst (hs.map λq=>V.ref q.u))
 o:own h=7/\h∉bad
 t:∀q∈hs,H q.u=@(.tup [.ref q.l,.str q.d.shown])
 z:∀q∈hs,Nz 10 sizeLine q.d
 f:∀q∈hs,∀c∈q.F,c≠h/\own c=7/\c∉bad/\∃xs,H c=@(.lst xs)
 r:∀q∈hs,∀H',(∀c∈q.F,H' c=H c)->(∀t ys,H t=@(.tup ys)->H' t=@(.tup ys))->RD K H' (.ref q.l) q.d
section
variable {K:Frag}{own own':qc->Nat}{H H':Hp}{h:qc}{bad bad':qa qc}{hs:qa HE}
def Y3.mono(x:Y3 K own H h bad hs)(k:∀c xs,H c=@(.lst xs)->own c=7->c∉bad->H' c=@(.lst xs)/\own' c=own c/\c∉bad')(kt:∀t ys,H t=@(.tup ys)->H' t=@(.tup ys)):Y3 K own' H' h bad' hs:=by
 let#[i,j,l]:=k _ _ x.e x.o.1 x.o.2;erw[i,{j.trans x.o.1,l},λq d=>kt _ _ (x.t q d),x.z,λq d c hc=>?_,λq d f a b=>x.r q d f (λc hc=>?_) λt ys e=>b t ys (kt t ys e)]
 .let#[f1,f2,g,xs,f4]:=x.f q d c hc;let#[g1,g2,g3]:=k _ _ f4 f2 g;exact{f1,g2.trans f2,g3,xs,g1}
 .let#[f1,f2,g,xs,f4]:=x.f q d c hc;rw[a c hc,(k _ _ f4 f2 g).1,f4]
def Y3.push(x:Y3 K own H h bad hs)(q:HE)(e:H q.u=@(.tup [.ref q.l,.str q.d.shown]))(z:Nz 10 sizeLine q.d)(f:∀c∈q.F,c≠h/\own c=7/\c∉bad/\∃xs,H c=@(.lst xs))(r:∀H',(∀c∈q.F,H' c=H c)->(∀t ys,H t=@(.tup ys)->H' t=@(.tup ys))->RD K H' (.ref q.l) q.d) :
 Y3 K own (upd H h (.lst ((hs++[q]).map λq=>V.ref q.u))) h bad (hs++[q]):=by
 let kt:∀t ys,H t=@(.tup ys)->(upd H h (.lst ((hs++[q]).map λq=>V.ref q.u))) t=@(.tup ys):=λt ys g=>by rw[Qa (QG g x.e λz=>nomatch z)];exact g
 let all:∀p∈hs++[q],H p.u=@(.tup [.ref p.l,.str p.d.shown])/\Nz 10 sizeLine p.d/\(∀c∈p.F,c≠h/\own c=7/\c∉bad/\∃xs,H c=@(.lst xs))/\∀H',(∀c∈p.F,H' c=H c)->(∀t ys,H t=@(.tup ys)->H' t=@(.tup ys))->RD K H' (.ref p.l) p.d:=λp d=>by
  obtain y|y:=qq.mp d
  .exact{x.t p y,x.z p y,x.f p y,x.r p y}
  .rw[qk.mp y];exact#[e,z,f,r]
 erw[Qd,x.o,λp d=>kt _ _ (all p d).1,λp d=>(all p d).2.1,λp d c hc=>?_,λp d i a b=>(all p d).2.2.2 i (λc hc=>?_) λt ys g=>b t ys (kt t ys g)]
 .let#[f1,f2,j,xs,f4]:=(all p d).2.2.1 c hc;exact{f1,f2,j,xs,Qa f1<|f4}
 .rw[a c hc,Qa ((all p d).2.2.1 c hc).1]
end
abbrev Vt(Rl Dl:qc)(fK:qa Rw):qa qc:=Rl::Dl::(fK.map Rw.r++fK.map Rw.mq)
def yP.kph{h:qc}(L:yP a H hd ws N g Rl Dl fK ds)(j:H h=@(.lst xs))(o:g.own h=7)(nb:h∉Vt Rl Dl fK)(k:∀c o,c≠h->H c=some o->H' c=some o):yP a H' hd ws N (g.qu H) Rl Dl fK ds:=by
 let f:∀c∈Vt Rl Dl fK,c≠h:=λc hc z=>nb (z▸hc);let kt:∀c ys,H c=@(.tup ys)->H' c=@(.tup ys):=λc ys e=>k c _ (QG e j λz=>nomatch z) e;erw[L.R.kpo λb l i z=>k b l (λy=>?_) i,{k _ _ (f _ (by simp)) L.h.el,k _ _ (f _ (by simp)) L.h.ed,{(Qk L.h.el).trans L.h.o.1,(Qk L.h.ed).trans L.h.o.2.1,L.h.o.2.2},λx d=>?_,L.h.ne,L.h.nr,λx d=>(L.h.dd x d).mono kt},L.r.own rfl rfl rfl rfl,L.n]
 .rw[y] at i z;obtain z|z:=z
  .exact z o
  .rw[j] at i;cases i;cases z
 .have q:=L.h.at_ x d;let m:x.r∈Vt Rl Dl fK:=qy _ (qy _ (qJ _ (qj.mpr #[x,d,U])));let n:x.mq∈Vt Rl Dl fK:=qy _ (qy _ (qz _ (qj.mpr #[x,d,U])));calc{k _ _ (f _ m) q.e,kt _ _ q.p,k _ _ (f _ n) q.m,(Qk q.e).trans q.o.1,(Qk q.m).trans q.o.2}
def cw(L:yP a H hd ws N g Rl Dl fK ds)(h:c∈Vt Rl Dl fK):∃o,H c=some o:=by
 obtain rfl|h:=qx.mp h
 .exact{_,L.h.el}
 obtain rfl|h:=qx.mp h
 .exact{_,L.h.ed}
 obtain h|h:=qq.mp h
 .let#[x,b,U]:=qj.mp h;exact{_,(L.h.at_ x b).e}
 .let#[x,b,U]:=qj.mp h;calc{_,(L.h.at_ x b).m}
def Tf{ls:qa (qc×qe)}(c:(ls.map (·.1)).Nodup){m:Nat}{p q:qc×qe}(a:ls[m]?=some p)(b:ls[j]?=some q)(e:p.1=q.1):m=j:=by
 let f:j< -(ls.map (·.1)):=by rw[qh];exact(qS.mp b).1
 let hm:m< -(ls.map (·.1)):=by rw[qh];exact(qS.mp a).1
 let d:(ls.map (·.1))[m]?=(ls.map (·.1))[j]?:=by rw[qD,qD,a,b];exact zp some e
 calc(wX hm c).mp d
def eU :kitOne K (.type "int") (.type "list")=some false:=by kernel_rfl
def au :kitOne K (.type "tuple") (.type "list")=some false:=by kernel_rfl
def eT :kitOne K (.type "str") (.type "list")=some false:=by kernel_rfl
def RD.kind{a:V}{d:PyData}(r:RD K H v d)(b:RD K H' a d)(h:(∃x,v=.ref x)\/∃i,v=.int i):(∃x,a=.ref x)\/∃i,a=.int i:=by
 obtain⟨x,rfl⟩|⟨i,rfl⟩:=h
 .cases r<;>cases b<;>exact .inl {0}
 .cases r;cases b;calc .inr {0}
inductive T8(K:Frag)(a:jg)(vs:qa V)(H:Hp)(Q:VK)(E:XK):Prop
 |mk:∀(hd:qb)(ws N:qe)(g:Sg)(Rl Dl wl hl:qc)(fK:qa Rw)(ds:qa xw)(dw:Int)(he:qa HE),vs=[.ref g.x,.ref Rl,.int dw,.ref wl,.ref hl]->yP a H hd ws N g Rl Dl fK ds->vC (fK.map Rw.nm)->H wl=some (.lst (~~~ws))->Kv ws->-ds<=31->Y3 K g.own H hl (Vt Rl Dl fK) he->wl≠hl->-he<=900 ->
   (∀H' he',(∀c o,c≠hl->H c=some o->H' c=some o)->Y3 K (QR g.own 7 H) H' hl (Vt Rl Dl fK) he'->-he'<=-he+10->Q (.bl true) H')->T8 K a vs H Q E
def bF:T.k ja 13 31 (T8 K a):=by
 refine T.ok 31 (λcdv A outer st H vs Q E hr h=>?_)
 .let#[hd,ws,N,g,Rl,Dl,wl,F,fK,ds,dw,he,U,L,hs,ew,wo,h31,S,nwh,h900,k]:=h;let G:=hr.units;let X:=hr.gd;refine⟨_,(Qc (YA zl rfl (Vd rfl (T 28) (q9 Qf Qg)) (QX (i:=5) (sc 31).nd) (Qc (Qr (i:=6) (sc 31).nd (Qv QS (Qv Yb (Qv Ym `c Qf) (Qv Wm `f (Ql Qw (QN (Qh Qf (Qh Qf (Qh Qf Qo)))) (Qv QS `c Qf)))) Qf))
   (Qc (Qr (i:=7) (sc 31).nd (T.cl (Lx T) (q9 `a (q9 `b (q9 `g (q9 (Qv Yb (Qv Ym `c Qf) `f) (q9 `d Qg)))))))
   (Qc (QE (Qp UX (Qn (Uz X G) rfl (T 23) boot_repr (q9 (Ql Qw `h Qf) Qg)) (Qn (Uz X G) rfl (T 23) boot_repr (q9 (Ql Qw `h Qf) Qg))) (Qe (Qm Y1)) Qu)
   (Qe (QE (YD (Qn QY rfl (T 10) boot_isinstance (q9 (Ql Qw `h Qf) (q9 (YX (v:=.ty "list") rfl (T 19) boot_list rfl) Qg)))) (Qc (YA zl rfl (QI (Ql Qw `h Qf)) (QX (i:=8) (sc 31).nd) (Qe (QE (YD (Qn QY rfl (T 10) boot_isinstance (q9 `i (q9 (YX (v:=.ty "list") rfl (T 19) boot_list rfl) Qg)))) (Qe (Qq (Uj plainAttrs_list za zb QW `i (q9 QC Qg)))) Qu)))
   (Qc (Qq (Uj plainAttrs_list za zb QW (Ql Qw `h Qf) (q9 QC Qg)))
   (Qc (Qq (Uj plainAttrs_list za zb QW `e (q9 (QP (Qh (Ql Qw `h Qf) (Qh (Qn (Uz X G) rfl (T 23) boot_repr (q9 (Ql Qw `h Qf) Qg)) Qo))) Qg)))
   (Qc (Qr (i:=9) (sc 31).nd (T.cl (Lx T) (q9 `a (q9 `b (q9 `g (q9 (Qv Yb (Qv Ym `c Qf) `f) (q9 `d Qg)))))))
   (Qe (QE (Qp UX (Qn (Uz X G) rfl (T 23) boot_repr (q9 (Ql Qw `j Qf) Qg)) (Qn (Uz X G) rfl (T 23) boot_repr (q9 (Ql Qw `j Qf) Qg))) (Qe (Qm Y1)) Qu)))))) Qu))))))
   (Qe (Qm Y1))),?_⟩
  refine⟨(10:Int),U,∅,∅,VS (n:=10) (λi Z Y=>∃(o5 o6 o7 I o9:uf V)(r:qa HE),Z=[@(.ref g.x),@(.ref Rl),@(.int dw),@(.ref wl),@(.ref F),o5,o6,o7,I,o9]/\(∀c o,c≠F->H c=some o->Y c=some o)/\Y3 K (QR g.own 7 H) Y F (Vt Rl Dl fK) r/\-r<=-he+i)
   {none,none,none,none,none,he,U,λc o _ e=>e,S.mono (λc xs e o b=>{e,Qk e,b}) λt ys e=>e,qr _} ?_ ?_⟩
  .rintro i Z Y hi ⟨o5,o6,o7,I,o9,r,rfl,kp,h5,hn5⟩;let#[vc,hc,hm,_]:=Gg (xs:=[V.int 1,V.int 3,V.int 7]) dw ∅;obtain⟨c,rfl⟩:∃c,vc=V.int c:=by
    obtain z|hm:=qx.mp hm
    .exact{_,z}
    obtain z|hm:=qx.mp hm
    .exact{_,z}
    exact{_,qk.mp hm}
   let L5:=L.kph S.e S.o.1 S.o.2 kp;let ew5:=kp _ _ nwh ew;erw[8,{∅,∅},0,BW,λl3 H6 n3 s6 e3=>{8,RT,l3,3,zm.of e3,hc,1,.inl {(),()},1,1,TV,?_}];dsimp only[Q9];let L6:yP a H6 hd ws N ((g.qu H).qu Y) Rl Dl fK ds:={L5.R.quiet s6,L5.h.quiet s6,L5.r.own rfl rfl rfl rfl,L.n};erw[0,5,8,{∅,∅},8,0,{hd,ws,N,(g.qu H).qu Y,Rl,Dl,wl,fK,ds,2,L6,hs,s6 _ _ ew5,wo,h31,λH7 H8 pl v0 v1 d s7 an r1 np s8 e8=>?_}];dsimp only[Q9];let#[r0,nz,kd]:=an.rd s8;let r1':=RD.mono s8 r1;let kd1:=RD.kind r0 r1' kd;let p0:xm [v0,v1] 0=some v0:=Qy (j:=0) rfl;let p1:xm [v0,v1] 1=some v1:=Qy (j:=1) rfl;let s58:=s6.trans (s7.trans s8);erw[0,pl,3,zm.of e8,p0,{v0,d,U,kd,r0,nz,0,pl,3,zm.of e8,p1,{v1,d,U,kd1,r1',nz,4,Y7 (λS=>absurd S (Kb<|qw rfl<|qF)) λ_=>?_}}];let fin:∀(C:Hp)(o6 o7 I o9:uf V),Qi Y C->∃(p5 p6 p7 p8 p9:uf V)(r:qa HE),[@(V.ref g.x),@(.ref Rl),@(.int dw),@(.ref wl),@(.ref F),@(.int (0+i)),o6,o7,I,o9]=[@(.ref g.x),@(.ref Rl),@(.int dw),@(.ref wl),@(.ref F),p5,p6,p7,p8,p9]/\(∀c o,c≠F->H c=some o->C c=some o)/\Y3 K (QR g.own 7 H) C F (Vt Rl Dl fK) r/\-r<=-he+(i+1):=λC o6 o7 I o9 s=>{9,6,r,U,λc o n e=>s _ _ (kp c o n e),h5.mono (λc xs e o b=>{s _ _ e,U,b}) λt ys e=>s _ _ e,yd hn5};obtain⟨l,xs,ls,d',rfl,B⟩|⟨j,rfl⟩|⟨q,ys,rfl,eq⟩:=an.lst
   .have el8:=s8 _ _ B.e;erw[0,pl,3,zm.of e8,p0,_,6,true,7,.lst el8,PJ,0,Y7 (λ_=>?_) λh=>absurd rfl h];let lp:l≠pl:=Qb B.e np;let ip:∀p∈ls,p.1≠pl:=λp f=>Qb (B.vh p f).2.2.1 np;refine⟨_,U,pl,_,_,_,U,U,zm.of e8,p0,l,U,{_,zm.of el8},YF (K:=K) (a:=l) (xs:=xs) (λj Z C=>∃I:uf V,Z=[@(.ref g.x),@(.ref Rl),@(.int dw),@(.ref wl),@(.ref F),@(.int (0+i)),@(.int ((dw / 3+(0+i)*c)%10)),@(.ref pl),I,o9]/\(∀c o,(∀p∈ls,c≠p.1)->H8 c=some o->C c=some o)/\∀m p,ls[m]?=some p->C p.1=@(.lst ((if m<j then p.2++[("zy":qb)] else p.2).map V.str)))
     {I,U,λc o _ e=>e,λm p f=>qC (yv _)<|s8 _ _ (B.vh p (ze f)).2.2.1} ?_ ?_ ?_⟩
    .rintro j Z C _ ⟨I,rfl,k9,i9⟩;exact zm.of (k9 _ _ (λp f=>(B.vh p f).2.1.symm) el8)
    .rintro j x Z C hx ⟨I,rfl,k9,i9⟩;obtain⟨p,f,rfl⟩|⟨rfl,O⟩:=B.at_ j x hx
     .have M:=i9 j p f;rw[qC (zQ _)] at M;let J:=ze f;erw[0,_,6,true,7,.lst M,PJ,0,Y7 (λ_=>?_) λh=>absurd rfl h];erw[0,.inl {U,_,zm.of M},p.1,1,M,(qh<|QA (qQ (B.vh p J).2.2.2 ∅)),?_];erw[0,λc o n e=>Qa (n p J)<|k9 c o n e,λm R D=>?_];by_cases z:m=j
      .subst z;obtain rfl:R=p:=qT (D.symm.trans f);rw[Qd,qE (kA _),qB];rfl
      .have ne:R.1≠p.1:=λq=>z (Tf B.nd D f q);rw[Qa ne,i9 m R D];by_cases y:m<j
       .rw[qE y,qE (jb y)]
       .rw[qC y,qC ()]
     .have done:∀I:uf V,∃p8:uf V,[@(V.ref g.x),@(.ref Rl),@(.int dw),@(.ref wl),@(.ref F),@(.int (0+i)),@(.int ((dw / 3+(0+i)*c)%10)),@(.ref pl),I,o9]=[@(V.ref g.x),@(.ref Rl),@(.int dw),@(.ref wl),@(.ref F),@(.int (0+i)),@(.int ((dw / 3+(0+i)*c)%10)),@(.ref pl),p8,o9]/\(∀c o,(∀p∈([]:qa (qc×qe)),c≠p.1)->H8 c=some o->C c=some o)/\∀m p,([]:qa (qc×qe))[m]?=some p->C p.1=@(.lst ((if m<j+1 then p.2++[("zy":qb)] else p.2).map V.str)):=λI=>{I,U,k9,λm p f=>by simp at f};obtain⟨s,rfl⟩|⟨t,ys,rfl,D⟩:=O
      .exact{0,_,6,false,7,.str _,eT,0,Y7 (λh=>absurd h qF) λ_=>done _}
      .exact{0,_,6,false,7,.tup (k9 _ _ nofun (s8 _ _ D)),au,0,Y7 (λh=>absurd h qF) λ_=>done _}
    .rintro Z C ⟨I,rfl,k9,i9⟩;let i9:∀p∈ls,C p.1=@(.lst ((p.2++[("zy":qb)]).map V.str)):=λp f=>by
      let#[m,hm]:=List.getElem?_of_mem f;have:=i9 m p hm;rwa[qE (qV (qS.mp hm).1 B.nn)] at this
     let el9:=k9 _ _ (λp f=>(B.vh p f).2.1.symm) el8;let e9:=k9 _ _ (λp f=>(ip p f).symm) e8;let f5:∀{c:qc},H6 c=none->Y c=none:=λh=>s6.free h;let R:∀c o,Y c=some o->(upd C l (.lst (xs++[.str Zq]))) c=some o:=λc o e=>by
      let D:=s6 _ _ e;rw[Qa (Qb D B.nl)];exact k9 c o (λp f=>Qb D (B.vh p f).1) (s58 _ _ e)
     let t10:∀t ys,H7 t=@(.tup ys)->(upd C l (.lst (xs++[.str Zq]))) t=@(.tup ys):=λt ys e=>by
      rw[Qa (QG e B.e λz=>nomatch z)];exact k9 _ _ (λp f=>QG e (B.vh p f).2.2.1 λz=>nomatch z) (s8 _ _ e)
     let uC:∀p∈ls,(upd C l (.lst (xs++[.str Zq]))) p.1=@(.lst ((p.2++[("zy":qb)]).map V.str)):=λp f=>by rw[Qa (B.vh p f).2.1];exact i9 p f
     let e10:(upd C l (.lst (xs++[.str Zq]))) pl=@(.lst [.ref l,v1]):=by rw[Qa lp.symm];exact e9
     let J:(upd C l (.lst (xs++[.str Zq]))) l=@(.lst (xs++[.str Zq])):=Qd;erw[0,pl,3,zm.of e9,p0,.inl {U,_,zm.of el9},l,1,el9,QA (qQ B.n ∅),?_];generalize upd C l (.lst (xs++[.str Zq]))=gw at R t10 uC e10 J;let rd10:=B.rd gw J uC t10;erw[0,.inl {U,_,zm.of (R _ _ h5.e)},0,pl,3,zm.of e10,p0,0,pl,3,zm.of e10,p0,{.ref l,d',U,.inl {0},rd10,B.nz,Y6,λu H11 nu D e11=>?_}];erw[F,1,D _ _ (R _ _ h5.e),(qh<|QA ()),?_];let M:∀c∈l::ls.map (·.1),Y c=none:=λc hc=>by
      obtain rfl|hc:=qx.mp hc
      .exact f5 B.nl
      .let#[p,f,U]:=qj.mp hc;exact f5 (B.vh p f).1
     let h11:Y3 K (QR g.own 7 H) H11 F (Vt Rl Dl fK) r:=h5.mono (λc xs e o b=>{D _ _ (R _ _ e),U,b}) λt ys e=>D _ _ (R _ _ e);let f:=h11.push {u,l,l::ls.map (·.1),d'} e11 B.nz (λc hc=>{?_,?_,λhb=>?_,?_}) λH' hF hT=>B.rd H' (hF l qA<|D _ _ J) (λp f=>hF p.1 (qy _ (qj.mpr #[p,f,U]))<|D _ _ (uC p f)) λt ys e=>hT _ _ (D _ _ (t10 _ _ e))
     rotate_left
     .exact(Qb h5.e (M c hc)).symm
     .refine Yx ?_
      cases e:H c with
      |none=>rfl
      |some o=>
       have:=kp c o (Qb h5.e (M c hc)).symm e;rw[M c hc] at this;cases this
     .let#[o,O]:=cw L hb;have:=kp c o (λz=>S.o.2 (z▸hb)) O;rw[M c hc] at this;cases this
     .rcases qx.mp hc with rfl|hc
      .exact{_,D _ _ J}
      .let#[p,f,U]:=qj.mp hc;exact{_,D _ _ (uC p f)}
     rw[qB] at f;let O:∀c o,c≠F->H c=some o->(upd H11 F (.lst (r.map (λq=>V.ref q.u)++[.ref u]))) c=some o:=λc o n e=>by rw[Qa n];exact D _ _ (R _ _ (kp c o n e))
     let f:Y3 K (QR g.own 7 H) (upd H11 F (.lst (r.map (λq=>V.ref q.u)++[.ref u]))) F (Vt Rl Dl fK) (r++[{u,l,l::ls.map (·.1),d'}]):=f;generalize upd H11 F (.lst (r.map (λq=>V.ref q.u)++[.ref u]))=H12 at O f;let L12:=L.kph S.e S.o.1 S.o.2 O;dsimp only[Q9];erw[0,5,8,{∅,∅},8,0,{hd,ws,N,g.qu H,Rl,Dl,wl,fK,ds,2,L12,hs,O _ _ nwh ew,wo,h31,λG7 G8 pl2 w0 w1 d2 t7 an2 r2 np2 t8 e82=>?_}];dsimp only[Q9];let#[r02,nz2,kd2]:=an2.rd t8;let r12:=RD.mono t8 r2;let s12:=t7.trans t8;erw[0,pl2,3,zm.of e82,Qy (j:=0) rfl,{w0,d2,U,kd2,r02,nz2,0,pl2,3,zm.of e82,Qy (j:=1) rfl,{w1,d2,U,RD.kind r02 r12 kd2,r12,nz2,4,Y7 (λS=>absurd S (Kb<|qw rfl<|qF)) λ_=>?_}}];exact{_,6,2,λc o n e=>s12 _ _ (O c o n e),f.mono (λc xs e o b=>{s12 _ _ e,U,b}) λt ys e=>s12 _ _ e,qo<|jI hn5}
   .exact{0,pl,3,zm.of e8,p0,_,6,false,7,.int _,eU,0,Y7 (λh=>absurd h qF) λ_=>fin _ _ _ _ _ s58}
   .exact{0,pl,3,zm.of e8,p0,_,6,false,7,.tup (s8 _ _ eq),au,0,Y7 (λh=>absurd h qF) λ_=>fin _ _ _ _ _ s58}
  .rintro Z Y ⟨o5,o6,o7,I,o9,r,rfl,kp,h5,hn5⟩;calc k Y r kp h5 hn5
def ddD:Dd->PyData
 |.put nm p=>.tuple [.str Zd,.str nm,uv p]
 |.place nm a=>.tuple [.str Zl,.str nm,.str a]
 |.mark nm y on=>.tuple [.str Ze,.str nm,.str y,.bool on]
 |.drop nm=>.tuple [.str Zk,.str nm]
def DU.rd(h:DU H q u d):RD K H (.ref q) (ddD d):=by
 let e:=h.e
 cases d with
 |put nm p=>calc .tup (z5.of e) (.cons (.str _) (.cons (.str _) (.cons (.tup (z5.of (h.p _ _ rfl)) (.cons (.str _) (.cons (.str _) (.cons (.str _) (.cons (.int _) (.cons (.str _) .nil)))))) .nil)))
 |place nm a=>calc .tup (z5.of e) (.cons (.str _) (.cons (.str _) (.cons (.str _) .nil)))
 |mark nm y on=>calc .tup (z5.of e) (.cons (.str _) (.cons (.str _) (.cons (.str _) (.cons (.bl _) .nil))))
 |drop nm=>calc .tup (z5.of e) (.cons (.str _) (.cons (.str _) .nil))
def PU(h:isW x=true):ya x/\-x<=20:=by
 unfold isW at h;rw[qY,qY,zB,zB,zu] at h;calc{λc hc=>HF c (qL (h.2.2 c hc)),by have:=h.2.1;omega}
def F1(h:isW x=true):Nz 0 1000 (.str x):=Nz.str (PU h).1 (qQ (PU h).2 ∅)
def SR(b:Bool):Nz 0 1000 (.bool b):=by cases b<;>calc{7,qr _,∅}
def eJ(g:VA d):Nz 2 90000 (ddD d):=by
 let nn:=F1 g.n.1;let up:∀{x:PyData},Nz 0 1000 x->Nz 1 21000 x:=λh=>h.up ∅ ∅;let fin:∀{ds:qa PyData},-ds<=4->(∀x∈ds,Nz 1 21000 x)->Nz 2 90000 (.tuple ds):=λb h=>(Nz.tup h b).up (qr _) ∅
 cases d with
 |put nm p=>
  calc fin (by show 3<=4;decide) λx a=>?_;obtain rfl|a:=qx.mp a
  .exact up G9
  obtain rfl|a:=qx.mp a
  .exact up nn
  rw[qk.mp a];calc aq (g.p _ _ rfl)
 |place nm c=>
  calc fin (by show 3<=4;decide) λx a=>?_;obtain rfl|a:=qx.mp a
  .exact up G9
  obtain rfl|a:=qx.mp a
  .exact up nn
  rw[qk.mp a];calc up (F1 (g.f _ _ rfl).1)
 |mark nm y on=>
  calc fin (by show 4<=4;decide) λx a=>?_;obtain rfl|a:=qx.mp a
  .exact up G9
  obtain rfl|a:=qx.mp a
  .exact up nn
  obtain rfl|a:=qx.mp a
  .exact up (F1 (g.m _ _ _ rfl).1)
  rw[qk.mp a];calc up (SR on)
 |drop nm=>
  calc fin (by show 2<=4;decide) λx a=>?_;obtain rfl|a:=qx.mp a
  .exact up G9
  rw[qk.mp a];calc up nn
def gX(hd:qb)(i:Nat)(d:Dd):PyData:=.tuple [.int ((i:Nat)+1:Int),.str hd,.int ((i:Nat)+1:Int),ddD d]
def R8(hd:qb)(ds:qa Dd):PyData:=.list (ds.mapIdx (gX hd))
def eI{ds:qa Dd}(b:U3 hd)(g:∀d∈ds,VA d)(f:-ds<=30):Nz 10 sizeLine (R8 hd ds):=by
 let h:ya hd:=λc hc=>HF c (aw c (qL (zu.mp b.vh c hc)));let j:-hd<=99:=by have:=b.hi;omega
 calc(Nz.lst (k:=3) (m:=370000) (n:=30) (λx l=>?_) (List.length_mapIdx<|f)).up ∅ ∅;let#[i,hi,U]:=List.mem_mapIdx.mp l;let e:Nz 2 90000 (.int ((i:Nat)+1:Int)):=(Nz.int () ()).up ∅ ∅;calc(Nz.tup (n:=4) (m:=90000) (k:=2) (λd a=>?_) (qr _)).up (qr _) ∅;obtain rfl|a:=qx.mp a
 .exact e
 obtain rfl|a:=qx.mp a
 .exact(Nz.str h j).up ∅ ∅
 obtain rfl|a:=qx.mp a
 .exact e
 rw[qk.mp a];calc eJ (g _ (zx hi))
def Lb{K:Frag}{H:Hp}{hd:qb}:∀{n:Nat}{qs:qa qc}{ds:qa Dd},-qs=-ds->(∀(i:Nat) q d,qs[i]?=some q->ds[i]?=some d->RD K H (.ref q) (gX hd (n+i) d))->xq K H (qs.map V.ref) (ds.mapIdx λi d=>gX hd (n+i) d)
 |_,[],[],_,_=>.nil
 |n,q::qs,d::ds,a,h=>by
  rw[List.mapIdx_cons];calc .cons (h 0 q d rfl rfl) ?_;have:=Lb (n:=n+1) (qs:=qs) (ds:=ds) (by simpa using a) λi q d b c=>by rw[Nat.add_assoc,Nat.add_comm 1 i];exact h (i+1) q d (by simpa using b) (by simpa using c)
  let e:(λi d=>gX hd (n+(i+1)) d)=λi d=>gX hd (n+1+i) d:=by funext i d;rw[Nat.add_assoc,Nat.add_comm 1 i]
  show xq K H _ (ds.mapIdx λi d=>gX hd (n+(i+1)) d);rw[e];calc this
 |_,[],_::_,a,_=>by cases a
 |_,_::_,[],a,_=>by cases a
def T2{z:qc}{qs:qa qc}{ds:qa Dd}(e:H z=@(.lst (qs.map V.ref)))(a:-qs=-ds)(h:∀(i:Nat) q d,qs[i]?=some q->ds[i]?=some d->∃p u,H q=@(.tup [.int ((i:Nat)+1:Int),.str hd,.int ((i:Nat)+1:Int),.ref p])/\DU H p u d):RD K H (.ref z) (R8 hd ds):=by
 have:=Lb (K:=K) (H:=H) (hd:=hd) (n:=0) a λi q d b c=>by
  let#[p,u,e,f]:=h i q d b c;rw[kZ];exact .tup (z5.of e) (.cons (.int _) (.cons (.str _) (.cons (.int _) (.cons f.rd .nil))))
 let f:(λi d=>gX hd (0+i) d)=gX hd:=by funext i d;rw[kZ]
 rw[f] at this;calc .lst (zm.of e) this
section
variable {K:Frag}{a:jg}{fd:Nat->FuncData}{H H':Hp}{hd:qb}{ws N:qe}{g g':Sg}{Rl Dl l h:qc}{fK jC ys:qa Rw}{ds:qa xw}{hs:qa HE}
def yP.srt(L:yP a H hd ws N g Rl Dl fK ds)(nl:H l=none)(p:ys.Perm fK):yP a (upd H l (.lst (ys.map λx=>V.ref x.r))) hd ws N (g.qu H) l Dl ys ds:=
 let s:Qi H (upd H l (.lst (ys.map λx=>V.ref x.r))):=Qi.zg nl;let q:=L.h.quiet s;let r:yF hd ws N (g.qu H) fK ds:=L.r.own rfl rfl rfl rfl
 ⟨L.R.quiet s,{Qd,s _ _ L.h.ed,{Yx nl,(Qk L.h.ed).trans L.h.o.2.1,(Qb L.h.ed nl).symm},λx b=>q.at_ x (p.mem_iff.mp b),λx b=>{{Qb (L.h.at_ x (p.mem_iff.mp b)).e nl,(L.h.ne x (p.mem_iff.mp b)).1.2.1,Qb (L.h.at_ x (p.mem_iff.mp b)).m nl,(L.h.ne x (p.mem_iff.mp b)).1.2.2.2},λy c=>(L.h.ne x (p.mem_iff.mp b)).2 y (p.mem_iff.mp c)},(p.map _).nodup_iff.mpr L.h.nr,q.dd},
   {(p.map _).nodup_iff.mpr r.nn,r.eq,λm=>((p.map _).mem_iff).trans (r.nm m),λx b=>r.rel x (p.mem_iff.mp b),r.Nn},L.n.1,p.length_eq<|L.n.2.1,L.n.2.2⟩
def Y3.deed(x:Y3 K g.own H h (Vt Rl Dl fK) hs)(L:yP a H hd ws N g Rl Dl fK ds)(j:KM Rl Dl fK g.own g'.own H H')(d:∀y∈jC,(H y.r=none/\H y.mq=none)\/∃f∈fK,f.r=y.r/\(H y.mq=none\/y.mq=f.mq)):Y3 K g'.own H' h (Vt Rl Dl jC) hs:=by
 calc x.mono (λc xs e o b=>?_) λt ys e=>(j t _ e (.inr (.inr rfl)) (QG e L.h.el λz=>nomatch z) (QG e L.h.ed λz=>nomatch z) λy d=>QG e (L.h.at_ y d).e λz=>nomatch z).1;let k:c≠Rl:=λz=>b (by simp[z]);let l:c≠Dl:=λz=>b (by simp[z]);let n:∀y∈fK,c≠y.r:=λy d z=>b (qy _ (qy _ (qJ _ (qj.mpr #[y,d,z.symm]))));let p:∀y∈fK,c≠y.mq:=λy d z=>b (qy _ (qy _ (qz _ (qj.mpr #[y,d,z.symm]))));let#[r,s]:=j c _ e (.inr (.inl o)) k l n;erw[r,s,λq=>?_];obtain z|q:=qx.mp q
 .exact k z
 obtain z|q:=qx.mp q
 .exact l z
 obtain q|q:=qq.mp q
 .let#[y,m,z]:=qj.mp q;obtain⟨w,_⟩|⟨f,i,w,_⟩:=d y m
  .exact Qb e w z.symm
  .exact n f i (w<|z.symm)
 .let#[y,m,z]:=qj.mp q;obtain⟨_,w⟩|⟨f,i,_,w|w⟩:=d y m
  .exact Qb e w z.symm
  .exact Qb e w z.symm
  .exact p f i (by rw[<-w];calc z.symm)
def Y3.srt(x:Y3 K g.own H h (Vt Rl Dl fK) hs)(nl:H l=none)(p:ys.Perm fK):Y3 K (QR g.own 7 H) (upd H l (.lst (ys.map λx=>V.ref x.r))) h (Vt l Dl ys) hs:=by
 let s:Qi H (upd H l (.lst (ys.map λx=>V.ref x.r))):=Qi.zg nl;calc x.mono (λc xs e o b=>{s _ _ e,Qk e,λq=>?_}) λt ys e=>s _ _ e;obtain z|q:=qx.mp q
 .exact Qb e nl z
 calc b (qy _ ?_);obtain z|q:=qx.mp q
 .rw[z];exact qA
 refine qy _ (qq.mpr ((qq.mp q).imp (λw=>?_) λw=>?_))
 .exact((p.map _).mem_iff).mp w
 .exact((p.map _).mem_iff).mp w
end
def To:∀i:Nat,i<19->∀j:Nat,j<8->(1:Int)<=(-(Txt.slice (Txt.slice hS (@((i:Nat):Int)) none) none (@(1+((j:Nat):Int)))):Int)/\(-(Txt.slice (Txt.slice hS (@((i:Nat):Int)) none) none (@(1+((j:Nat):Int)))):Int)<=8/\((Txt.slice (Txt.slice hS (@((i:Nat):Int)) none) none (@(1+((j:Nat):Int)))).cps.toList.all λc=>decide (c∈hS.cps.toList))=true:=by decide +kernel
def Tq{x y:Int}:U3 (Txt.slice (Txt.slice hS (@(x%19)) none) none (@(1+y%8))):=by
 let a:=zq x (b:=19) ∅;let a1:=zj x (b:=19) ∅;let c:=zq y (b:=8) ∅;let h:=zj y (b:=8) ∅;let#[i,hi]:=yB a;let#[j,d]:=yB c;rw[hi,d];let#[e,f,g]:=To i () j ();exact#[e,f,g]
def b5(h:0< -rs):uD hd rs=[(inr hd,((-rs:Nat):Int))]:=by
 unfold uD;rw[qC λz=>by rw[z] at h;calc absurd h (zQ 0)]
def Tj(hd:qb)(n:Int):(-([((inr hd:Key),n)]:qa (Key×Int))==-([((inr hd:Key),n)]:qa (Key×Int))&&Ey [((inr hd:Key),n)] [((inr hd:Key),n)])=true:=by
 rw[zT,kc];have:QB (nK [((inr hd:Key),n)]) (inr hd)=@(.int n):=by
  unfold nK QB;simp
 unfold Ey;rw[this];simp[Ey]
def Ra:∀i:Nat,i<19->-(Txt.slice hS (@((i:Nat):Int)) none)<=sizeLine:=by decide +kernel
def DL{X:Cx}{z:qb}{g py pt f c:Pos}{kt:Nat}{iter fP:Expr}{scope sc:Scope}{pos:Pos}{fr:qa (Nat×qb)}{u:TI}{w:TE}
 (S:Xu sc scope N x y fr) (j:X.env.scope=sc) (A:X.N=N) (hc:X.calm=true) (k:X.N.Nodup) (l:X.N[i]?=some z) (hz:X.env.scope.names.lookup z=some .local) (hi:PI X (.Tuple [.Name x g,.Name y py] kt pt) iter u)
 (he:∀(C:qc)(s:ug)(H:Hp)(B:qa qc),PE (Uy X scope C (x::y::fr.map (·.2)) s H B) fP w)
 (E:∀z,foldedSetIterable iter X.env z=pure z:=by intro _;rfl)
 (n:swapsWith (.ListComp fP [{.Tuple [.Name x g,.Name y py] kt pt,iter,[],(0)}] scope pos) (@(.Name z f)) c.line X.env=pure true:=by rfl) :
 PS X (.Assign [.Name z f] (.ListComp fP [{.Tuple [.Name x g,.Name y py] kt pt,iter,[],(0)}] scope pos) c) (Fn (Fm X.K u fr w) (Q9 i)):=by
 intro fL s Z H F I h;rw[exec_Assign_Name_used _ _ _ _ n];calc qi (gT (qi ?_));show wpAny _ X.A (do let _ <-comprehension (.ListComp fP [{.Tuple [.Name x g,.Name y py] kt pt,iter,[],(0)}] scope pos) scope X.env _ (newList []) false (eval iter X.env) (@(assign (.Name z f) X.env))) _ _ s;calc qi (jf (BM (use:=@(assign (.Name z f) X.env)) (Q':=λ_ s'=>SP X fL F .next s') S j A hc hi he E I h λD C H' s' m J G d q=>?_) λ_ s' K=>qv (qv K));show wpAny _ _ (assign (.Name z f) X.env (.ref D)) _ _ s';calc wpAny_assign_Name (Kc J k l (.inl hz) (v:=.ref D) rfl (λs5 L p=>?_) (.inr hz));let#[a,sb,M]:=p;let r:C≠a:=by
  obtain z|z:=M
  .rw[z];exact d.hL
  .exact jD (d.h2 _ _ z)
 erw[m,G.sameBut sb r,λh' t=>{_,H',L.turned (t':=s5.toks) (λb o O e=>(t.2 b O).trans e) d.hn d.hL d.h1 d.h2 d.h3,q}]
def Rz{rs:qa Int}{m:Int}(a:∀r∈rs,0<=r/\r<m){lo hi:Int}(v:Nat)(b:lo=(v:Int))(c:hi=((v+5:Nat):Int))(h:v+5<=-rs) :
 ∃es:qa Int,Xq (rs.map V.int) (some lo) (some hi)=es.map V.int/\-es=5/\∀r∈es,0<=r/\r<m:=by
 subst b c;unfold Xq;rw[HT.ku,HT.ku,qh,yu h,yu (show v<=-rs by omega),Nat.add_sub_cancel_left,<-List.map_drop,<-List.map_take];calc{0,by rw[zC,je];omega,λr d=>a r (List.mem_of_mem_drop (yi d))}
structure LI(K:Frag)(a:jg)(H:Hp)(hd:qb)(ws:qe)(rs:qa Int)(D wl hl Rl Dl:qc)(i:Nat)(N:qe)(g:Sg)(fK:qa Rw)(ds:qa xw)(he:qa HE):Prop where
 L:yP a H hd ws N g Rl Dl fK ds
 h:Y3 K g.own H hl (Vt Rl Dl fK) he
 n:-ds<=i/\-he<=10*i/\(0<i->0< -ds)
 d:H D=@(.lst (rs.map V.int))/\g.own D=0
 w:H wl=@(.lst (~~~ws))/\g.own wl=0
def bH:T.k ja 60 35 (wh K):=by
 let#[dv5,vI,vL]:=T.uG;refine T.ok 35 (λcdv A outer st H vs Q E hr h=>?_)
 .let#[q,ns,U,hq,hlen,k]:=h;let C:=hr.units;let hgd:=hr.gd;refine⟨_,(Qc (Qr (i:=1) (sc 35).nd (T.cl (Pj T) (q9 `a (q9 Qf Qg))))
   (Qc (Qr (i:=2) (sc 35).nd (T.cl (bE T) (q9 `b Qg)))
   (Qc (Qr (i:=3) (sc 35).nd (UU B8 (UU B8 QC (U9 (Qv QS (Ql Qw `b Qf) Qf)) V3) V3 (U9 (Qv Yb Qf (Qv QS (Ql Qw `b Qf) Qf)))))
   (Qc (Qr (i:=4) (sc 35).nd (T.ma (T 139) (T 138) (ME T) (q9 `d Qg)))
   (Qc (Qr (i:=5) (sc 35).nd (QN Qo))
   (Qc (Qr (i:=6) (sc 35).nd (QN Qo))
   (Qc (Qr (i:=7) (sc 35).nd (QN Qo))
   (Qc (YA zl rfl (Vd rfl (T 28) (q9 (Qv Yb Qf (Qv QS (Ql Qw `b Qf) Qf)) Qg)) (QX (i:=8) (sc 35).nd) (Qc (QE (YQ (YD (T.cl (Pc T) (q9 `e (q9 `f (q9 `g (q9 (UU Dv `b (U9 (Qv Yb Qf (Qv Wm Qf `i))) (U9 (Qv Yb Qf (Qv Wm Qf `i)))) (q9 `c Qg)))))))) (Qe (Qm Y1)) Qu)
   (Qc (Qr (i:=5) (sc 35).nd (Qn (CF Rw.r Rw.nm (λx=>[.ref x.pu,.str x.bo,.ref x.mq]) C) rfl (T 9) boot_sorted (q9 `f Qg)))
   (Qe (QE (YQ (YD (T.cl (bF T) (q9 `e (q9 `f (q9 (Ql Qw `b (Qv Yb Qf (Qv Wm Qf `i))) (q9 `c (q9 `h Qg)))))))) (Qe (Qm Y1)) Qu)))))
   (Qc (DL (sc:=Qs (sO 35)) (N:=(nn 35)) (i:=9) (fr:=[(3,"_law_hand")]) {U,7,∅,∅,∅,∅,∅} rfl rfl rfl (sc 35).nd U rfl (Lk rfl (T 54) (q9 `g Qg)) (λ_ _ _ _=>(QP (Qh (Qv Yb `a Qf) (Qh `c (Qh (Qv Yb `a Qf) (Qh `b Qo)))))))
   (Qc (QE (PW.pt (We (Qp UX (Qn (Uz hgd C) rfl (T 23) boot_repr (q9 (DN `e (T 0) (T 154) (O5 T) hr.up vL vI UW) Qg)) (Qn (Uz hgd C) rfl (T 23) boot_repr (q9 `j Qg))) (We (Qp (bz C) (T.mn `e (T 0) (T 153) (O7 T)) (Ln (DM `d (Qn Qz rfl (T 4) zf (q9 `j Qg)) Li) rfl rfl (by simp) ∅)) (V2 (Qp UX `E `d))))) (Qe (Qm Y1)) Qu)
   (Qe (Qm (Qn (AD rfl) rfl (T 47) boot_all (q9 (DO (sc:=Qs (sO 35)) (N:=(nn 35)) (fr:=[]) {U,7,∅,∅,∅,∅,∅} rfl rfl rfl (QI `h) (λ_ _ _ _=>(YI Yk (Qn (Hz K hgd C) rfl (T 23) boot_repr (q9 `a Qg)) `b))) Qg)))))))))))))),?_⟩
  erw[0,q,ns,(100),U,hq,∅,λD rs H1 hrl F s1 hD=>?_];erw[0,D,rs,U,hD,(),F,λwl ws H2 nwl s2 ew wo=>?_];let hD2:=s2 _ _ hD;let#[z1,e1,b10,b11]:=YS F 1 ∅ ();let#[z2,e2,b20,b21]:=YS F 2 ∅ ();let#[z3,e3,b30,b31]:=YS F 3 ∅ ();let len26:-hS<=sizeLine:=by decide +kernel
  let cutl:∀z:Int,-(Txt.slice hS (@(z%19)) none)<=sizeLine:=λz=>by
   let B:=zq z (b:=19) ∅;let I:=zj z (b:=19) ∅;let#[i,hi]:=yB B;rw[hi];exact Ra i ()
  erw[0,D,3,zm.of hD2,e2,1,cK,0,hS,U,len26,?_];erw[0,D,3,zm.of hD2,e1,1,zi_8,1,5,cutl z2,?_];let hh:U3 (Txt.slice (Txt.slice hS (@(z2%19)) none) none (@(1+z1%8))):=Tq;generalize Txt.slice (Txt.slice hS (@(z2%19)) none) none (@(1+z1%8))=hd at hh;dsimp only;erw[0,?_];intro x dx nx nd ne;erw[x,dx,hd,ws,U,Qd,hh,wo.ib,by rw[wo.len];decide,λH3 g k3 Y R e1' e2' e3'=>{U,?_}];subst Y;let s3:Qi H2 H3:=UE nx nd λc o n e=>(k3 c o n e).1;let z3':∀{c o},H2 c=some o->g.own c=0:=λ{c o} e=>(k3 c o (Qb e nx) (Qa (Qb e nx)<|Qa (Qb e nd)<|e)).2;let oD:=z3' hD2;let ow:=z3' ew;let hD3:=s3 _ _ hD2;let ew3:=s3 _ _ ew;erw[Xf,λRl H4 nR s4 eR4=>{Xf,λDl H5 nDl s5 eDl5=>{Xf,λI H6 nhl s6 ehl=>?_}}];dsimp only[Q9];let J:=s4.trans (s5.trans s6);let hD6:=J _ _ hD3;let ew6:=J _ _ ew3;let eR6:=s6 _ _ (s5 _ _ eR4);let M:=s6 _ _ eDl5;let L0:yP a H6 hd ws [] (g.qu H3) Rl Dl [] []:={R.quiet J,{eR6,M,{Yx nR,Yx (s4.free nDl),Qb eR4 nDl},nofun,nofun,zH,λ_ z=>nomatch z},{zH,by rw[e1'];rfl,λm=>e2'<|Iff.rfl,nofun,λ_ z=>nomatch z},(by show -g.rs=0;rw[e1'];rfl),qr _,λ_ z=>nomatch z};let h0:Y3 K (g.qu H3).own H6 I (Vt Rl Dl []) []:=⟨ehl,⟨Yx ((s4.trans s5).free nhl),λz=>by
   obtain z|z:=qx.mp z
   .exact Qb (s5 _ _ eR4) nhl z.symm
   .rw[qk.mp z,eDl5] at nhl;cases nhl⟩,nofun,nofun,nofun,λ_ z=>nomatch z⟩
  let LI0:LI K a H6 hd ws rs D wl I Rl Dl 0 [] (g.qu H3) [] [] []:={L0,h0,{qr _,qr _,λz=>absurd z (zQ 0)},{hD6,(Qk hD3).trans oD},{ew6,(Qk ew3).trans ow}};let m0:0<=z3%14:=zq _ ∅;let m1:z3%14<14:=zj _ ∅;refine⟨_,U,D,_,_,_,U,U,zm.of hD6,e3,_,_,U,U,cM,_,_,U,U,_,U,(),(),VS (n:=(1+z3%14).toNat) (λi Z B=>∃(o:uf V)(Rl':qc)(N:qe)(g':Sg)(fK:qa Rw)(ds:qa xw)(he:qa HE),Z=[@(.ref q),@(.ref D),@(.ref wl),@(.str hd),@(.ref g.x),@(.ref Rl'),@(.ref Dl),@(.ref I),o,none]/\g'.x=g.x/\LI K a B hd ws rs D wl I Rl' Dl i N g' fK ds he)
   {none,Rl,[],g.qu H3,[],[],[],7,LI0} ?_ ?_⟩
  .clear LI0 h0 L0 eR6 M ehl hD6 ew6 J R hD3 ew3;rintro i Z B hi ⟨o,Rl,N,g',fK,ds,he,rfl,Y,li⟩;let hi14:i<14:=by omega
   let#[es,ec,le,be]:=Rz F (lo:=4+6*(0+(i:Int))) (hi:=9+6*(0+(i:Int))) (4+6*i) () () ();let ndi:=li.n.1;let nhe:=li.n.2.1;erw[5,5,8,.inl {(),()},2,4,8,.inl {(),()},2,4,D,0,zm.of li.d.1,λdr H8 ndr s8 edr=>?_];rw[ec] at edr;let L8:yP a H8 hd ws N (g'.qu B) Rl Dl fK ds:={li.L.R.quiet s8,li.L.h.quiet s8,li.L.r.own rfl rfl rfl rfl,li.L.n};let h8:Y3 K (g'.qu B).own H8 I (Vt Rl Dl fK) he:=li.h.mono (λc xs e o b=>{s8 _ _ e,Qk e,b}) λt ys e=>s8 _ _ e;let od8:(g'.qu B).own dr=7:=Yx ndr;let ow8:(g'.qu B).own wl=0:=(Qk li.w.1).trans li.w.2;let oD8:(g'.qu B).own D=0:=(Qk li.d.1).trans li.d.2;let ew8:=s8 _ _ li.w.1;let eD8:=s8 _ _ li.d.1;let X:∀{c b:qc},(g'.qu B).own c=0->(g'.qu B).own b=7->b≠c:=λh1 h2 z=>by rw[z,h1] at h2;exact absurd h2 ∅
   let o7:∀y∈[Rl,Dl]++fK.map Rw.r,(g'.qu B).own y=7/\∃o,B y=some o:=λy S=>by
    obtain z|S:=qx.mp S
    .rw[z];exact{L8.h.o.1,_,li.L.h.el}
    obtain z|S:=qx.mp S
    .rw[z];exact{L8.h.o.2.1,_,li.L.h.ed}
    let#[x,hx,z]:=qj.mp S;rw[<-z];exact{(L8.h.at_ x hx).o.1,_,(li.L.h.at_ x hx).e}
   erw[0,hd,ws,N,g'.qu B,Rl,Dl,dr,wl,fK,ds,es,(by rw[<-Y];rfl),L8,edr,(),be,ew8,wo,.inr od8,.inl ow8,λy S=>{λz=>(by let#[_,o,e]:=o7 y S;rw[z,ndr] at e;cases e),X ow8 (o7 y S).1},(),λO N9 g9 rows9 ds9 L9 gx9 hl9 hp9 hy9 km9=>⟨_,rfl,QQ ?_⟩];let h9:=h8.deed L8 km9 hy9;let keep:∀{c o},H8 c=some o->(g'.qu B).own c=0->O c=some o/\g9.own c=0:=λ{c o} e z=>by
    let#[e',o']:=km9 c o e (.inl z) (X z L8.h.o.1).symm (X z L8.h.o.2.1).symm λy S=>(X z (L8.h.at_ y S).o.1).symm;exact{e',o'.trans z}
   let#[ew9,ow9]:=keep ew8 ow8;let#[eD9,oD9]:=keep eD8 oD8;erw[0,Rl,rows9,U,zm.of L9.h.el,(λx hx=>(L9.h.at_ x hx).e),L9.r.nn,by have:=L9.n.2.1;omega,λl ys nl p so=>?_];dsimp only[Q9];let LA:=L9.srt nl p;let hA:Y3 K (g9.qu O).own (upd O l (.lst (ys.map λx=>V.ref x.r))) I (Vt l Dl ys) he:=h9.srt nl p;let sA:Qi O (upd O l (.lst (ys.map λx=>V.ref x.r))):=Qi.zg nl;let ewA:=sA _ _ ew9;let eDA:=sA _ _ eD9;let owA:(g9.qu O).own wl=0:=(Qk ew9).trans ow9;let oDA:(g9.qu O).own D=0:=(Qk eD9).trans oD9;let gxA:(g9.qu O).x=g.x:=gx9.trans Y;generalize upd O l (.lst (ys.map λx=>V.ref x.r))=HA at LA hA sA ewA eDA;generalize g9.qu O=gA at LA hA owA oDA gxA;let#[z6,e6,z60,z61]:=YS F (9+6*(0+(i:Int))) () ();let nwh:wl≠I:=λz=>by have:=hA.o.1;rw[<-z,owA] at this;exact absurd this ∅
   let nDh:D≠I:=λz=>by have:=hA.o.1;rw[<-z,oDA] at this;exact absurd this ∅
   erw[0,5,8,.inl {(),()},1,D,3,zm.of eDA,e6,5,hd,ws,N9,gA,l,Dl,wl,I,ys,ds9,z6,he,(by rw[<-gxA];rfl),LA,so,ewA,wo,(),hA,nwh,(),λHB heB kB hB nB=>{0,QQ ?_}];erw[_,l,N9,gA.qu HA,ys,ds9,heB,U,gxA,LA.kph hA.e hA.o.1 hA.o.2 kB,hB,{(),(),λ_=>hp9},{kB _ _ nDh eDA,(Qk eDA).trans oDA},{kB _ _ nwh ewA,(Qk ewA).trans owA}]
  .clear LI0 h0 L0 eR6 M ehl hD6 ew6 J R hD3 ew3;rintro Z B ⟨o,Rl,N,g',fK,ds,he,rfl,Y,li⟩;let L:=li.L;let ndi:=li.n.1;let nhe:=li.n.2.1;let n14:(1+z3%14).toNat<=14:=by omega
   let npos:=li.n.2.2 ();let d30:-ds<=30:=by omega
   let wrp:-g'.rs=-ds:=L.n.1;erw[0,Dl,0,L.h.ed,Hx (K:=K) (λDu i ys G=>∃qs:qa qc,ys=qs.map V.ref/\-qs=i/\∀(j:Nat) q d,qs[j]?=some q->(ds.map xw.d)[j]?=some d->∃p u,G q=@(.tup [.int ((j:Nat)+1:Int),.str hd,.int ((j:Nat)+1:Int),.ref p])/\DU G p u d) (qh<|QT ()) (zm.of L.h.ed) (λDu nDu=>{[],7,λj q d z=>by simp at z}) (λDu i ys G #[qs,e,n,_]=>by rw[e,qh,n]) (λDu i ys G G' #[qs,e,n,f] s=>{qs,e,n,λj q d z1 z2=>by let#[p,u,e1,e2]:=f j q d z1 z2;calc{p,u,s _ _ e1,e2.mono λc xs e=>s _ _ e}}) ?_ ?_]
   .rintro Du i v ys G Q' hv nDu ⟨qs,rfl,nq,f⟩ eDu sG kk;rw[qD] at hv;let#[de,hde,U]:=zE.mp hv;erw[8,5,2,4,AJ,λq G2 nq2 s2 eq=>?_];calc kk _ _ s2 {qs++[q],by rw[qB];rfl,by rw[qo,nq];rfl,λj q' d hj S=>?_};let DD:DU G2 de.q de.u de.d:=(L.h.dd de (ze hde)).mono λc xs e=>s2 _ _ (sG _ _ e);let up:∀{c xs},G2 c=@(.tup xs)->(upd G2 Du (.lst (qs.map V.ref++[.ref q]))) c=@(.tup xs):=λ{c xs} e=>by rw[Qa (QG e (s2 _ _ eDu) λz=>nomatch z)];exact e
    by_cases X:j< -qs
    .rw[ju X] at hj;let#[p,u,f1,f2]:=f j q' d hj S;exact{p,u,up (s2 _ _ f1),f2.mono λc xs e=>up (s2 _ _ e)}
    .rw[jc ()] at hj;let j0:j-(-qs)=0:=by
      cases z:j-(-qs) with
      |zero=>rfl
      |succ m=>rw[z] at hj;simp at hj
     rw[j0] at hj;obtain rfl:q=q':=by simpa using hj
     obtain rfl:j=i:=by omega
     rw[qD,hde] at S;obtain rfl:de.d=d:=by simpa using S
     exact{de.q,de.u,up eq,DD.mono λc xs e=>up e}
   .rintro Du ys G nDu ⟨qs,rfl,nq,f⟩ sG eDu;rw[qh] at nq;dsimp only[Q9];let RG:=L.R.quiet sG;let hG:Y3 K (g'.qu B).own G I (Vt Rl Dl fK) he:=li.h.mono (λc xs e o b=>{sG _ _ e,Qk e,b}) λt ys e=>sG _ _ e;let good:∀d∈ds.map xw.d,VA d:=λd S=>by let#[x,hx,U]:=qj.mp S;exact L.n.2.2 x hx
    let nz:=eI hh good (qh<|d30);let wr60:-(g'.qu B).rs<=60:=by show -g'.rs<=60;omega
    erw[0,(g'.qu B).x,g'.dx,_,by rw[show(g'.qu B).x=g.x from Y],RG.e,U,hd,ws,N,g'.qu B,(by rw[show(g'.qu B).x=g.x from Y];rfl),RG,wr60,λz G1 s1 nz1 ez=>?_];let rdz:RD K G1 (.ref z) (R8 hd (ds.map xw.d)):=T2 (qs:=g'.rs.map Lr.x) (qI<|ez) (qh<|qh<|wrp) λi q d h1 h2=>by
     rw[qD] at h1;let#[r,hr',U]:=zE.mp h1;let lr:=(RG.l.r i r hr').tups λc xs e=>s1 _ _ e;rw[<-L.r.eq,qD,hr'] at h2;obtain rfl:r.d=d:=by simpa using h2
     exact#[r.p,r.u,lr.e,lr.du]
    let rdu:RD K G1 (.ref Du) (R8 hd (ds.map xw.d)):=T2 (s1 _ _ eDu) (by rw[nq,qh]) λi q d h1 h2=>by
     let#[p,u,f1,f2]:=f i q d h1 h2;exact{p,u,s1 _ _ f1,f2.mono λc xs e=>s1 _ _ e}
    let eDu1:=s1 _ _ eDu;erw[.ref z,0,.inl {0},rdz,nz,0,{.ref Du,0,.inl {0},rdu,nz,4,Y7 (λhh=>absurd hh (Kb<|qw rfl<|qF)) λ_=>?_}];let R1:=RG.quiet s1;erw[0,(g'.qu B).x,g'.dx,_,by rw[show(g'.qu B).x=g.x from Y],R1.e,U,hd,ws,N,(g'.qu B).qu G,(by rw[show((g'.qu B).qu G).x=g.x from Y];rfl),R1,λzh G2 s2 nzh ezh=>?_];let R2:=R1.quiet s2;rw[b5 (show 0< -g'.rs by omega)] at ezh;intro p np;erw[5,Du,0,.inl (zm.of (Qa (Qb (s2 _ _ eDu1) np)<|s2 _ _ eDu1)),Qd,[(inr hd,.int ((-ds:Nat):Int))],(by rw[qh,nq];rfl),(by show 1<=15;decide),?_];rw[VY];let s3:Qi G2 (upd G2 p (.dK (V6 [] [((inr hd:Key),V.int ((-ds:Nat):Int))]))):=Qi.zg np;let e3':(upd G2 p (.dK (V6 [] [((inr hd:Key),V.int ((-ds:Nat):Int))]))) p=@(.dK (nK [((inr hd:Key),((-ds:Nat):Int))])):=Qd;generalize upd G2 p (.dK (V6 [] [((inr hd:Key),V.int ((-ds:Nat):Int))]))=G3 at s3 e3';let R3:=R2.quiet s3;erw[zh,p,[(inr hd,((-g'.rs:Nat):Int))],[(inr hd,((-ds:Nat):Int))],7,.inl (s3 _ _ ezh),.inl e3',?_];rw[wrp,Tj];erw[0,QQ ?_];erw[0,(g'.qu B).x,_,g'.dx,9,by rw[show(g'.qu B).x=g.x from Y],R3.e,(T 0),(T 46),4,4,Y7 (λhh=>absurd hh (Kb<|qw rfl<|qF)) λ_=>?_];let s03:=s1.trans (s2.trans s3);let h3:Y3 K (g'.qu B).own G3 I (Vt Rl Dl fK) he:=hG.mono (λc xs e o b=>{s03 _ _ e,U,b}) λt ys e=>s03 _ _ e;clear hG rdz rdu nz f R1 R2 R3 RG;erw[0,I,U,{_,zm.of h3.e},λD0 hD0=>{λi m ys H8=>m=-he-i/\i<=-he/\ys=List.replicate i (V.bl true)/\Qi G3 H8/\H8 D0=@(.lst ys),{0,qR _,U,Qi.zg hD0,Qd},?_}];rintro i m ys H8 ⟨rfl,hi,rfl,s8,e8⟩;let h8:Y3 K (g'.qu B).own H8 I (Vt Rl Dl fK) he:=h3.mono (λc xs e o b=>{s8 _ _ e,U,b}) λt ys e=>s8 _ _ e;erw[e8,?_];by_cases X:i< -he
    .refine .inr {{_,V.ref he[i].u,zm.of h8.e,by simp[X]},?_};rintro v O ⟨rfl,y⟩;let ev:=y _ (zm.of h8.e);let ev':v=V.ref he[i].u:=by
      rw[qD,ql X] at ev;exact(qT ev).symm
     let hm:=zx X;let nz:=h8.z _ hm;erw[he[i].u,9,ev',z5.of (h8.t _ hm),?_];erw[0,_,he[i].d,U,h8.r _ hm _ (λ_ _=>rfl) (λ_ _ e=>e),nz.s,nz.h,nz.d_,nz.l,?_];erw[_,7,?_];rw[qw rfl];exact{e8,List.length_replicate<|QA (),-he-(i+1),(),U,(),by rw[List.replicate_succ'],s8.zP hD0,Qd}
    .have O:i=-he:=by omega
     calc .inl {{_,zm.of h8.e,by rw[qh];omega},?_};erw[D0,List.replicate i true,U,zm.of (List.map_replicate<|e8),?_];rw[show(List.replicate i true).all id=true by simp];calc k H8
def Pr:∀(l:qa Fc)(i:Nat),nF l i=.z\/nF l i∈l
 |[],_=>.inl rfl
 |p::l,0=>.inr qA
 |p::l,i+1=>(Pr l i).imp id λh=>qy _ h
def Ti{h:Heap}(X:K.In h)(G:h.Ns mainGlobals mg):∀f:Fc,vZ K f=true->cE K mg (aK K) f
 |.q x i,h=>by
  simp only[vZ,qY,zB,kT] at h;let a:=h;calc mg_of X G a
 |.g x v,h=>by
  simp only[vZ,qY,zB,kT] at h;let#[a,b]:=h;calc Hd.gc X G a b
 |.b x,h=>by
  simp only[vZ,qY,zB,kT] at h;let a:=h;calc PySem.W.mg_none_of X G a
 |.c i,h=>by
  simp only[vZ,qY,zB,kT] at h;let#[a,b,c,d]:=h;exact#[a,b,c,d]
 |.k i j,h=>by
  simp only[vZ,qY,zB,kT] at h;let#[a,b,c,d]:=h;exact#[a,b,c,d]
 |.M i x j,h=>by
  simp only[vZ,qY,zB,kT] at h;let#[a,b,c]:=h;exact#[a,b,c]
 |.n i x,h=>by
  simp only[vZ,qY,zB,kT] at h;let a:=h;calc a
 |.z,_=>trivial
def all_mk{l:PySem.W.OpenLaw}{h:Heap}{k:qc}(X:K.In h)(E:obs K=good)(G:h.Ns mainGlobals mg)(m:mg "law"=@(.ref k)) :
 ∃fd:FuncData,(∀(s:ug)(v:qd),BindsTo s fd {[v],[]} [("_law_script",v)])/\∀base:Heap,K.In base->base.Ns mainGlobals mg->VJ l.prog w K mg base ja 60 k fd ["_law_script"] (wh K):=by
 let r:see K tab=XX tab/\fx.all (vZ K)=true:=by
  unfold obs good at E;let#[d,E]:=wc E;let#[g,E]:=wc E;let#[o,E]:=wc E;erw[?_,?_]
  .have s:∀(l:qa Tb)(n:Nat),see K (l.take n)=XX (l.take n)->see K (l.drop n)=XX (l.drop n)->see K l=XX l:=λl n c j=>by unfold see XX at c j⊢;rw[<-vx n l,qB,qB,c,j]
   exact s _ 38 (zp Prod.fst d) (s _ 39 (zp Prod.fst g) (zp Prod.fst o))
  .have s:∀(l:qa Fc)(n:Nat),(l.take n).all (vZ K)=true->(l.drop n).all (vZ K)=true->l.all (vZ K)=true:=λl n c j=>by rw[<-vx n l,List.all_append,c,j];rfl
   exact s _ 51 (zp Prod.snd d) (s _ 52 (zp Prod.snd g) (zp Prod.snd o))
 let#[d,g]:=r;let pl:∀i,i<116->∃fd,rK K (tb i)=@(@(.ref (aK K i)))/\CI K (vY (sO i)) (qN (tb i)) (sO i) (aK K i) fd/\(wj (sO i)=[]->wz K (vY (sO i)) (qN (tb i)) (sO i) (aK K i) fd)/\RO K fd (sO i):=λi hi=>by
  let o:i< -tab:=hi;let j:=ql o;let c:tb i=tab[i]:=by unfold tb;rw[qX,j];rfl
  let u:aK K i=Hd.yX (rK K (tb i)):=by unfold aK;rw[j,c]
  let eq:=Hd.eq_at d i (a:=Hd.see K (rK K (tb i)) (qN (tb i))) (b:=(some (Hd.xW (vY (sO i)) (qN (tb i)) (sO i),uF (sO i)),true)) (by unfold see;rw[qD,j,<-c];rfl) (by unfold XX;rw[qD,j,<-c];rfl);let p:∀t∈tab,plA t.2.1=true:=by decide +kernel
  rw[u];exact Se eq (p (tb i) (TX hi))
 refine let fd:Nat->FuncData:=λi=>if h:i<116 then Classical.choose (pl i h) else Classical.choose (pl 0 ∅);?_
 let q:∀i (h:i<116),rK K (tb i)=@(@(.ref (aK K i)))/\CI K (vY (sO i)) (qN (tb i)) (sO i) (aK K i) (fd i)/\(wj (sO i)=[]->wz K (vY (sO i)) (qN (tb i)) (sO i) (aK K i) (fd i))/\RO K (fd i) (sO i):=λi h=>by
  let e:fd i=Classical.choose (pl i h):=dif_pos h;rw[e];exact Classical.choose_spec (pl i h)
 let gl:∀t∈tab.take 36,t.1=none:=by decide +kernel
 let p:∀t∈tab.take 107,wj t.2.1=[]:=by decide +kernel
 let j:∀{n i:Nat},i<n->i<116->tb i∈tab.take n:=λ{n i} h h'=>by let o:i< -tab:=h';let c:tb i=tab[i]:=by{unfold tb;rw[qX,ql o];rfl};rw[c];exact List.mem_take_iff_getElem.mpr {i,(),U}
 let T:∀{P:uh}{w:ui}{base:Heap},Txt P w K mg base (aK K) fd:={λi=>Ti X G _ ((Pr fx i).elim (λh=>by rw[h];rfl) λh=>zu.mp g _ h),λi h=>by let e:=(q i (qV h ∅)).1;unfold rK at e;rw[gl _ (j h (qV h ∅))] at e;calc mg_of X G e,λi h=>(q i (qV h ∅)).2.2.1 (p _ (j h (qV h ∅))),λi h _=>(q i h).2.1,λi h=>(q i h).2.2.2.all,(q 107 ∅).2.2.2.df 2 rfl,(q 107 ∅).2.2.2.df 1 rfl,(q 108 ∅).2.2.2.df 1 rfl,(q 109 ∅).2.2.2.df 2 rfl,(q 109 ∅).2.2.2.df 1 rfl,(q 110 ∅).2.2.2.df 1 rfl,(q 111 ∅).2.2.2.df 1 rfl,(q 112 ∅).2.2.2.df 1 rfl,(q 113 ∅).2.2.2.df 1 rfl,(q 114 ∅).2.2.2.df 1 rfl,(q 115 ∅).2.2.2.df 1 rfl};let e:Value.ref k=.ref (aK K 35):=qT (m.symm.trans (T (P:=PP) (w:=w) (base:=h).m 35))
 injection e with e
 subst e;erw[fd 35,λs v=>?_,λbase _ _=>bH T];let F:=(T (P:=PP) (w:=w) (base:=h)).F 35;generalize fd 35=f at F⊢;let#[_,_,kV,doc,pm,an,u,ct,_,U,_,_]:=F.ex;calc .of_eq rfl
end K54
open PySem PySem.W PyProof.Rows
set_option maxRecDepth 100000 in
set_option maxHeartbeats 0 in
theorem PySem.Challenge.cw_mailroom_k54_one_room_holds : PySem.Challenge.rw_mailroom_k54_one_room.Holds := by
 refine Hd.close (q:=view K54.PP [77]) (loose:=K54.loose) (N:=20000) (obs:=K54.obs) (good:=K54.good) K54.look K54.opens rfl K54.fence K54.seen rfl rfl rfl rfl (by decide +kernel) ⟨rfl,rfl,rfl,rfl,rfl,by decide +kernel⟩ ?hw ?hc
 case hw=>w_witness2
 case hc=>calc Hd.walk (n:=63) (k:=60) (x:="_law_script") (sp:=K54.wh) rfl (by decide) rfl ⟨rfl,by decide,by decide,rfl⟩ (fun w K mg fa h KX y G hmg=>K54.all_mk KX y G hmg) (fun _ _ a ns hl _ hS=>⟨a,ns,rfl,hS,hl,fun _=>rfl⟩)
#print axioms PySem.Challenge.cw_mailroom_k54_one_room_holds
