import PyProof.Rows.All
import Wide.All
import OpenK.AllK
import Wide.FinOn
import Lean
import PyProof.EqAt
import PyProof.EqKinds
import PyProof.TupleCall
import PyProof.P3In
import KE.KDictLaws
import PyProof.Rows.SetFrom
import KE.KRevSl
import KE.KIntText
import KE.KLcPair
import KE.KIsAll
import PyProof.ExcArgsOwn
import PyProof.ExcAttrAll.ValueError
import PyProof.NsDelKeeps
import PyProof.Rows.CountFlat
import KE.RegKIsAll
import PyProof.WalksMore
import PyProof.FString5
import KE.KListMore
import PyProof.ZipIter
import PyProof.FString
import PyProof.StrLawsReplace
import PyProof.MinMaxWalk
import PyProof.WalkInts
import PyProof.Rows.MinMaxN
import PyProof.Rows.CallKwBuiltin
import KE.KMinKey
import PySem.Challenge.RW_mailroom_k53_boards_refused
open Sum(inl)
open PySem.W(instObj methodObj hideAll hideAll_get of_hideAll Frag lookIn plainGet hasDictIn findIn handedIn plainGet_of isFn plainOver takerIn any_some Looks makesIn emptyDict looks_findIn keepIn specialIn takesIn kitOne kia_one kitx_list kitx_dict callWith_K methodCall_KW callWith_K0 fnOf codeIn kdl_dict KdlSrc excIn clsIn looks_mroIn mg_of mg_none_of binds_K view)
open PyProof.Rows(slot_tuple_getitem le_int lt_int boot_isinstance boot_str boot_sorted boot_set boot_all lo1 boot_int)
open PySem.F(slot_dict_pop slot_dict_get plainAttrs_dict slot_set_iter excBase_ValueError plainAttrs_str plainAttrs_list)
abbrev qb:=@PySem.wpAny_bind
abbrev qd:=@List.mem_map
abbrev qg:=@of_decide_eq_true
abbrev qi:=@List.length_map
abbrev qj:=@PySem.wpAny_pure
abbrev ql:=@List.mem_singleton
abbrev qm:=@PySem.Heap.get?_push_of_some
abbrev qp:=@decide_eq_true
abbrev qt:=@Nat.le_refl
abbrev qu:=@List.mem_filter
abbrev qw:=@List.cons.inj
abbrev qx:=@List.mem_append
abbrev qy:=@if_neg
abbrev qz:=@List.getElem?_eq_getElem
abbrev qC:=@List.mem_append_right
abbrev qD:=@if_pos
abbrev qF:=@decide_eq_false
abbrev qG:=@List.mem_cons
abbrev qH:=@PySem.Heap.get?_push_size
abbrev qI:=@List.length_append
abbrev qJ:=@Bool.false_ne_true
abbrev qL:=@List.mem_cons_self
abbrev qM:=@PySem.Heap.lt_size
abbrev qN:=@List.mem_append_left
abbrev qP:=@List.mem_cons_of_mem
abbrev qQ:=@List.map_append
abbrev qR:=@Option.some.inj
abbrev qT:=@List.length_singleton
abbrev qU:=@List.mem_of_getElem?
abbrev qW:=@List.map_cons
abbrev qX:=@List.filter_cons
abbrev qY:=@Nat.ne_of_lt
abbrev qZ:=@List.size_toArray
abbrev q8:=@List.getElem?_map
abbrev q9:=@List.length_filter_le
abbrev za:=@List.length_cons
abbrev zf:=@Array.length_toList
abbrev zm:=@Nat.lt_of_lt_of_le
abbrev zp:=@List.getElem?_eq_some_iff
abbrev zu:=@Int.emod_lt_of_pos
abbrev zx:=@Nat.le_trans
abbrev zE:=@List.filter_append
abbrev zF:=@Int.emod_nonneg
abbrev zG:=@List.getD_eq_getElem?_getD
abbrev zH:=@List.take_of_length_le
abbrev zJ:=@List.map_map
abbrev zK:=@Nat.zero_le
abbrev zM:=@Array.getElem?_toList
abbrev zN:=@List.length_take
abbrev zO:=@Bool.false_eq_true
abbrev zP:=@PySem.wpAny_newObj_type
abbrev zQ:=@Bool.and_eq_true
abbrev zV:=@List.nodup_nil
abbrev z6:=@PySem.wpAny_call_entry
abbrev je:=@List.append_nil
abbrev jf:=@List.nodup_cons
abbrev jj:=@Array.getElem?_eq_getElem
abbrev jk:=@PySem.wpAny_holding
abbrev jl:=@List.foldl_cons
abbrev jq:=@PySem.Heap.SameBut.update
abbrev jr:=@Int.eq_ofNat_of_zero_le
abbrev jt:=@PySem.Heap.get?_update_self
abbrev ju:=@PySem.wpAny_truthy_bool
abbrev jw:=@Bool.and_eq_true_iff
abbrev jx:=@PySem.F.called_set
abbrev jA:=@PySem.wpAny_callSpecial?_slot
abbrev jB:=@List.getElem?_set_self
abbrev jC:=@List.lookup_cons
abbrev jD:=@PySem.Obj.data_mapFields
abbrev jG:=@List.filter_sublist
abbrev jM:=@congrArg
abbrev jN:=@PySem.boot_len
abbrev jQ:=@List.pairwise_cons
abbrev jR:=@List.all_eq_true
abbrev jT:=@List.getElem_mem
abbrev jW:=@Int.toNat_natCast
abbrev jX:=@List.take_add_one
abbrev jY:=@Nat.lt_succ_of_lt
abbrev jZ:=@List.nodup_append
abbrev j0:=@beq_eq_false_iff_ne
abbrev j4:=@PySem.mem_of_lookup
abbrev j5:=@Int.toNat_of_nonneg
abbrev j6:=@List.mem_map_of_mem
abbrev j7:=@List.length_nil
abbrev yg:=@PySem.codeAny_builtin
abbrev yh:=@Nat.lt_irrefl
abbrev yp:=@PySem.wpAny_mono
abbrev yq:=@PySem.Calls.spliced_cons
abbrev yt:=@List.length_range
abbrev yu:=@List.find?_cons
abbrev yw:=@List.filter_map
abbrev yD:=@PySem.Heap.size_push
abbrev yE:=@List.replicate_succ
abbrev yF:=@List.map_congr_left
abbrev yG:=@PySem.Around.under_plainId
abbrev yK:=@Nat.lt_of_succ_lt_succ
abbrev yL:=@Sum.inr.inj
abbrev yN:=@PySem.wpAny_ite_split
abbrev yO:=@PySem.F.slot_dict_keyiterator_next
abbrev yP:=@PySem.PassesOwn.never
abbrev yQ:=@List.not_mem_nil
abbrev yX:=@if_false
abbrev xn:=@PySem.codeAny_mono
abbrev xq:=@PySem.Heap.get?_update_other
abbrev xu:=@PySem.Calls.callWith_builtin
abbrev xH:=@Ne.symm
abbrev xJ:=@List.flatten_cons
abbrev xK:=@bne_self_eq_false
abbrev kJ:=@List.filter_eq_self
abbrev kO:=@List.length_drop
abbrev kW:=@PySem.Calls.evalArgs_plain
abbrev kY:=@beq_self_eq_true
abbrev kZ:=@PySem.wpAny_setState_of
abbrev vf:=@List.length_eq_zero_iff
abbrev vD:=@beq_iff_eq
abbrev vG:=@Option.map_eq_some_iff
abbrev vH:=@Nat.lt_of_le_of_lt
abbrev vI:=@Array.getElem?_eq_none
abbrev vJ:=@PySem.wpAny_setEntries_of
abbrev vL:=@PySem.wpAny_askSetting
abbrev vM:=@PySem.wpAny_setField
abbrev v8:=@List.any_cons
abbrev wg:=@List.foldl_append
abbrev wj:=@PySem.wpAny_typeNameOfWhole_keyiter
abbrev wk:=@PySem.wpAny_Call_Name_kw
abbrev wQ:=@List.mem_range
abbrev wR:=@Array.toArray_toList
abbrev wZ:=@PySem.wpAny_attempt
abbrev gb:=@Nat.le_of_lt
abbrev gf:=@if_true
abbrev gh:=@List.isEmpty_nil
abbrev gj:=@PySem.Obj.isFreed_of_fields
abbrev gJ:=@PySem.F.slot_list_append
abbrev gK:=@PySem.F.type_list_append
abbrev gP:=@Bool.eq_iff_iff
abbrev gQ:=@List.filter_filter
abbrev gR:=@List.pairwise_singleton
abbrev uA:=@Bool.not_eq_true'
abbrev uB:=@PySem.wpAny_typeNameOf_keyiter
abbrev uC:=@List.find?_cons_of_pos
abbrev uD:=@List.find?_cons_of_neg
abbrev uQ:=@PySem.tupleKind_room_in1
abbrev QkI:=@List.length_replicate
abbrev Qlk:=@PySem.wpAny_getItem_str_slice
abbrev Qll:=@List.getElem?_eq_none
abbrev Qmw:=@Bool.not_true
abbrev QmA:=@List.getElem?_set_ne
abbrev QmD:=@PySem.Calls.spliced_nil
abbrev QmE:=@PySem.wpAny_fieldsOf
abbrev Qm4:=@Nat.min_eq_left
abbrev Qm5:=@List.filter_nil
abbrev QnG:=@PySem.plainId_quiet
abbrev QnJ:=@List.mem_filterMap
abbrev QnK:=@List.getElem?_append_right
abbrev QnL:=@List.Nodup.sublist
abbrev QnM:=@PySem.codeAny_call_builtin
abbrev QnN:=@of_decide_eq_false
abbrev Qn5:=@PySem.wpAny_passesOwn
abbrev Qoz:=@List.append_assoc
abbrev QoA:=@List.filter_congr
abbrev QoD:=@Bool.true_and
abbrev QoU:=@PySem.Calls.Name_function_global
abbrev QoV:=@PySem.isSubtype_type
abbrev QoW:=@List.take_length
abbrev QoX:=@or_false
abbrev QpK:=@Nat.ne_of_gt
abbrev QpL:=@PySem.Calls.call_function_entry
abbrev QpM:=@Int.ofNat_lt
abbrev Qp9:=@List.length_set
abbrev Qqa:=@Option.map_some
abbrev Qqb:=@PySem.wpAny_Call_method
abbrev Qqc:=@PySem.F.plain_list_iadd
abbrev Qqd:=@PySem.wpAny_pyIter_slot
abbrev Qqe:=@PySem.Obj.cls_mapFields
abbrev Qqf:=@PySem.Heap.get?_push_ne
abbrev Qq6:=@Nat.le_succ
abbrev Qq7:=@List.drop_zero
abbrev Qq8:=@Prod.mk.inj
abbrev Qq9:=@PySem.wpAny_isInstance
abbrev Qra:=@List.take_zero
abbrev QrQ:=@List.filterMap_cons
abbrev QrR:=@PySem.wpAny_call
abbrev QrS:=@PySem.wpAny_typeOf
abbrev QrT:=@PySem.call_meetsIn
abbrev QrU:=@PySem.wpAny_rule
abbrev Qsh:=@PySem.post_val_or_str
abbrev Qsi:=@PySem.wpAny_loadPart'
abbrev Qsj:=@Prod.mk.injEq
abbrev Qsw:=@List.find?_eq_none
abbrev Qsx:=@List.getElem_range
abbrev QvX:=List PySem.Str
abbrev QvY:=PySem.Value→PySem.Shared→Prop
abbrev QvZ:=List PySem.Value
noncomputable section
set_option Elab.async false
set_option linter.all false
set_option maxRecDepth 100000
namespace L2
open PySem PySem.Spec PyProof.Rows
abbrev Key:=Sum Int Str
def Y1:Key->Value->Bool
 | .inl k,v=>Value.isInt k v
 | .inr x,v=>Value.isStrOf x v
def keyH(w:World):Key->Int
 | .inl k=>hashInt k
 | .inr x=>hashStr w x
theorem QS:∀{k:Key}{v:Value},Y1 k v=true->(∃i t,k=inl i/\v=Value.int i t)\/(∃x t,k=Sum.inr x/\v=Value.str x t)
 | .inl i,v,h=>by
   obtain⟨t,e⟩:=Value.isInt_shape (k:=i) (v:=v) h
   exact .inl ⟨i,t,rfl,e⟩
 | .inr x,v,h=>by
   obtain⟨t,e⟩:=Value.isStrOf_shape (x:=x) (v:=v) h
   exact .inr ⟨x,t,rfl,e⟩
theorem QgE(i:Int)(t:Tok):Y1 (.inl i) (.int i t)=true:=by simp[Y1,Value.isInt]
theorem QgD(x:Str)(t:Tok):Y1 (.inr x) (.str x t)=true:=by simp[Y1,Value.isStrOf]
theorem Qmm(a b:Int):decide ((inl a:Key)=inl b)=(a == b):=by
 by_cases e:a=b
 .subst e;simp
 .have h:¬(inl a:Key)=inl b:=fun q=>e (inl.inj q)
  rw[qF h]
  exact(j0.mpr e).symm
theorem Qmi(a b:Str):decide ((Sum.inr a:Key)=Sum.inr b)=decide (a=b):=by
 by_cases e:a=b
 .subst e;simp
 .have h:¬(Sum.inr a:Key)=Sum.inr b:=fun q=>e (yL q)
  rw[qF h,qF e]
theorem Qml(a:Int)(b:Str):decide ((inl a:Key)=Sum.inr b)=false:=qF (fun q=>nomatch q)
theorem Qmj(a:Str)(b:Int):decide ((Sum.inr a:Key)=inl b)=false:=qF (fun q=>nomatch q)
def QU(prog:Program)(w:World):PySem.KeyKind prog w Key where
 is:=Y1
 hash:=keyH w
 inj:=fun v a b ha hb=>by
  rcases QS ha with⟨i,t,rfl,rfl⟩ | ⟨x,t,rfl,rfl⟩
  .rcases QS hb with⟨j,u,rfl,e⟩ | ⟨y,u,rfl,e⟩
   .injection e with e1 _;rw[e1]
   .exact nomatch e
  .rcases QS hb with⟨j,u,rfl,e⟩ | ⟨y,u,rfl,e⟩
   .exact nomatch e
   .injection e with e1 _;rw[e1]
 byValue:=fun k v h=>by
  rcases QS h with⟨i,t,rfl,rfl⟩ | ⟨x,t,rfl,rfl⟩ <;> rfl
 pyHash:=fun hv h=>by
  rcases QS hv with⟨i,t,rfl,rfl⟩ | ⟨x,t,rfl,rfl⟩
  .exact wpAny_pyHash_int h
  .exact wpAny_pyHash_str h
 eqBool:=fun hu hv h=>by
  rcases QS hu with⟨i,t,rfl,rfl⟩ | ⟨x,t,rfl,rfl⟩
  .rcases QS hv with⟨j,u,rfl,rfl⟩ | ⟨y,u,rfl,rfl⟩
   .rw[Qmm] at h;exact wpAny_eqBool_int h
   .rw[Qml] at h;exact SeqAt.EqAt.int_str i t y u _ _ _ _ h
  .rcases QS hv with⟨j,u,rfl,rfl⟩ | ⟨y,u,rfl,rfl⟩
   .rw[Qmj] at h;exact SeqAt.EqAt.str_int x t j u _ _ _ _ h
   .rw[Qmi] at h;exact wpAny_eqBool_str h
 «strs»:=fun k x t v h=>by
  rcases QS h with⟨i,u,rfl,e⟩ | ⟨y,u,rfl,e⟩
  .exact nomatch e
  .injection e with e1 _
   subst e1
   cases v <;> rfl
theorem QcL(prog:Program)(w:World)(i:Int)(t:Tok):(QU prog w).is (.inl i) (.int i t)=true:=QgE i t
theorem QcK(prog:Program)(w:World)(x:Str)(t:Tok):(QU prog w).is (.inr x) (.str x t)=true:=QgD x t
end L2
namespace L2
open PySem PySem.Spec PyProof.Rows
inductive V where
 | non | bl (b:Bool) | int (i:Int) | str (x:Str) | byt (b:Array UInt8) | flt (b:UInt64) | ref (a:Addr) | ty (n:String)
 deriving DecidableEq
def QI:V->Value->Prop
 | .non,u=>u=Value.none
 | .bl b,u=>u=Value.bool b
 | .int i,u=>∃t,u=Value.int i t
 | .str x,u=>∃t,u=Value.str x t
 | .byt b,u=>∃t,u=Value.bytes b t
 | .flt b,u=>∃t,u=Value.float b t
 | .ref a,u=>u=Value.ref a
 | .ty n,u=>u=Value.type n
abbrev QF:List V->QvZ->Prop:=Paired QI
theorem QF.length{xs:List V}{us:QvZ}(r:QF xs us):xs.length=us.length:=Paired.length r
theorem QF.get:∀{xs:List V}{us:QvZ}{i:Nat}{x:V},QF xs us->xs[i]?=some x->∃u,us[i]?=some u/\QI x u
 | _,_,_,_,.nil,e=>by simp at e
 | _,_,0,_,.cons r _,e=>by simp at e;subst e;exact⟨_,rfl,r⟩
 | _,_,i+1,x,.cons _ t,e=>by
   obtain⟨u,h1,h2⟩:=QF.get (i:=i) (x:=x) t (by simpa using e)
   exact⟨u,by simpa using h1,h2⟩
theorem QF.set{x:V}{u:Value}(r:QI x u):∀{xs:List V}{us:QvZ}(i:Nat),QF xs us->QF (xs.set i x) (us.set i u)
 | _,_,_,.nil=>.nil
 | _,_,0,.cons _ t=>.cons r t
 | _,_,i+1,.cons q t=>.cons q (QF.set r i t)
theorem QF.append:∀{xs ys:List V}{us ws:QvZ},QF xs us->QF ys ws->QF (xs++ys) (us++ws)
 | _,_,_,_,.nil,s=>s
 | _,_,_,_,.cons r t,s=>.cons r (QF.append t s)
theorem QF.take:∀{xs:List V}{us:QvZ}(n:Nat),QF xs us->QF (xs.take n) (us.take n)
 | _,_,0,_=>.nil
 | _,_,_+1,.nil=>.nil
 | _,_,n+1,.cons r t=>.cons r (QF.take n t)
theorem QF.drop:∀{xs:List V}{us:QvZ}(n:Nat),QF xs us->QF (xs.drop n) (us.drop n)
 | _,_,0,r=>r
 | _,_,_+1,.nil=>.nil
 | _,_,n+1,.cons _ t=>QF.drop n t
def YO:Option V->Option Value->Prop
 | some v,some u=>QI v u
 | none,none=>True
 | _,_=>False
def KV{κ:Type}:List (κ×V)->List (κ×Value)->Prop:=Paired fun(p:κ×V)(q:κ×Value)=>p.1=q.1/\QI p.2 q.2
def kV:Key->V
 | .inl i=>.int i
 | .inr x=>.str x
inductive HO where
 | lst (xs:List V)
 | tup (xs:List V)
 | dK (kvs:List (Key×V)) | dT (kvs:List (List Key×V))
 | set (S:Int->Bool) (n:Nat)
 | ins (C dx:Addr) (fs:List (Str×V))
 | own (x:Addr)
 | xd (fs:List (Str×V))
 | met (f x:Addr)
 | rng (lo hi:Int)
 | uH (o:Obj) (u:HO)
 | tbl (ps:Array Value)
 | ext (φ:Heap->Prop)
abbrev Hp:=Addr->Option HO
def upd(H:Hp)(a:Addr)(o:HO):Hp:=fun b=>if b=a then some o else H b
theorem Qc{H:Hp}{a:Addr}{o:HO}:upd H a o a=some o:=by unfold upd;rw[qD rfl]
theorem Qa{H:Hp}{a b:Addr}{o:HO}(h:b≠a):upd H a o b=H b:=by unfold upd;rw[qy h]
theorem XT{H:Hp}{a:Addr}{o u:HO}:upd (upd H a o) a u=upd H a u:=by
 funext b;unfold upd;split <;> rfl
theorem QX{H:Hp}{a b:Addr}{o u:HO}(h:H a=some o)(h':H b=some u)(d:o≠u):a≠b:=by
 intro e;subst e;rw[h] at h';exact d (qR h')
theorem Qb{H:Hp}{a b:Addr}{o:HO}(h:H a=some o)(h':H b=none):a≠b:=by
 intro e;subst e;rw[h] at h';cases h'
section
variable (P:Program)(w:World)
def QY(H:Hp)(h:Heap)(a:Addr):HO->Prop
 | .lst xs=>xs.length<=sizeLine/\∃(its:QvZ)(n:Nat),QF xs its/\h.get? a=some { cls:=.type "list",data:=.seq its.toArray n }
 | .tup xs=>xs.length<=sizeLine/\∃its:QvZ,QF xs its/\IsTup h a its.toArray
 | .dK kvs=>kvs.length<=sizeLine/\(a == sysModules)=false/\∃vs,KV kvs vs/\h.DictOf (QU P w) a vs
 | .dT kvs=>kvs.length<=sizeLine/\(a == sysModules)=false/\∃xs:List (List Key×Addr×Value),
    Paired (fun(p:List Key×V)(q:List Key×Addr×Value)=>p.1=q.1/\H q.2.1=some (.tup (p.1.map kV))/\QI p.2 q.2.2) kvs xs /\
    ∃o es ep,h.get? a=some o/\o.ExactDict/\o.data=.dict es ep/\es.toList=xs.map (entryOfKey (tupleKind (QU P w)))/\(xs.map (·.1)).Nodup
 | .set S n=>h.SetOf (intKind P w) a S n
 | .ins C dx fs=>H dx=some (.own a)/\fs.length<=1000/\dx≠a/\h.get? a=some (instObj C dx) /\
    ∃mA,h.Ns1 dx mA/\(∀f,YO (fs.lookup f) (mA f))/\PySem.Within mA (fs.map (·.1))
 | .own _=>∃o,h.get? a=some o
 | .xd fs=>∃mA,h.Ns1 a mA/\∀f,YO (fs.lookup f) (mA f)
 | .rng lo hi=>∃t u v,h.get? a=some { cls:=.type "range",data:=.fields #[.int lo t,.int hi u,.int 1 v] }
 | .uH o u=>h.get? a=some o/\QY H h a u
 | .tbl ps=>h.get? a=some { cls:=.none,data:=.fields ps }
 | .met f x=>h.get? a=some (methodObj (.ref f) (.ref x))
 | .ext φ=>φ h/\(∃o,h.get? a=some o)/\∀h1 h2:Heap,φ h1->(∀o,h1.get? a=some o->h2.get? a=some o)->φ h2
def HOk(H:Hp)(h:Heap):Prop:=∀a o,H a=some o->QY P w H h a o
end
section
variable {P:Program}{w:World}{H H':Hp}{h h':Heap}{a:Addr}{o:HO}
theorem QY.lt(x:QY P w H h a o):a<h.objs.size:=by
 cases o with
 | lst xs=>obtain⟨_,_,_,_,e⟩:=x;exact qM e
 | tup xs=>obtain⟨_,_,_,p⟩:=x;exact p.lt
 | dK kvs=>obtain⟨_,_,_,_,o,_,_,e,_⟩:=x;exact qM e
 | dT kvs=>obtain⟨_,_,_,_,o,_,_,e,_⟩:=x;exact qM e
 | set S n=>obtain⟨o,_,_,_,e,_⟩:=x;exact qM e
 | ins C dx fs=>obtain⟨_,_,_,e,_⟩:=x;exact qM e
 | own y=>obtain⟨_,e⟩:=x;exact qM e
 | xd fs=>obtain⟨_,⟨_,_,_,e,_⟩,_⟩:=x;exact qM e
 | rng lo hi=>obtain⟨_,_,_,e⟩:=x;exact qM e
 | uH ob u=>obtain⟨e,_⟩:=x;exact qM e
 | tbl ps=>exact qM (show h.get? a=some _ from x)
 | met f y=>exact qM (show h.get? a=some _ from x)
 | ext φ=>obtain⟨_,⟨_,e⟩,_⟩:=x;exact qM e
theorem Paired.Quc{α β:Type}{F G:α->β->Prop}:∀{l₁:List α}{l₂:List β},Paired F l₁ l₂->(∀a b,F a b->G a b)->Paired G l₁ l₂
 | _,_,.nil,_=>.nil
 | _,_,.cons r t,f=>.cons (f _ _ r) (Paired.Quc t f)
theorem QY.stay(x:QY P w H h a o)(k:∀b u,(b=a\/H b=some (.own a))->h.get? b=some u->h'.get? b=some u)
 (ho:∀b,H b=some (.own a)->H' b=some (.own a)) (ht:∀b xs,H b=some (.tup xs)->H' b=some (.tup xs)):QY P w H' h' a o:=by
 induction o with
 | lst xs=>obtain⟨z,its,n,r,e⟩:=x;exact⟨z,its,n,r,k _ _ (.inl rfl) e⟩
 | tup xs=>obtain⟨z,its,r,ob,e,c⟩:=x;exact⟨z,its,r,ob,k _ _ (.inl rfl) e,c⟩
 | dK kvs=>obtain⟨z,y,vs,r,ob,es,ep,e,c⟩:=x;exact⟨z,y,vs,r,ob,es,ep,k _ _ (.inl rfl) e,c⟩
 | dT kvs =>
   obtain⟨z,y,xs,r,ob,es,ep,e,c⟩:=x
   exact⟨z,y,xs,Paired.Quc r fun p q z=>⟨z.1,ht _ _ z.2.1,z.2.2⟩,ob,es,ep,k _ _ (.inl rfl) e,c⟩
 | set S n=>obtain⟨ob,es,ep,t,e,c⟩:=x;exact⟨ob,es,ep,t,k _ _ (.inl rfl) e,c⟩
 | ins C dx fs =>
   obtain⟨d,z,ne,e,mA,⟨od,es,ep,e2,c⟩,r⟩:=x
   exact⟨ho _ d,z,ne,k _ _ (.inl rfl) e,mA,⟨od,es,ep,k _ _ (.inr d) e2,c⟩,r⟩
 | own y=>obtain⟨ob,e⟩:=x;exact⟨ob,k _ _ (.inl rfl) e⟩
 | xd fs=>obtain⟨mA,⟨od,es,ep,e,c⟩,r⟩:=x;exact⟨mA,⟨od,es,ep,k _ _ (.inl rfl) e,c⟩,r⟩
 | rng lo hi=>obtain⟨t,u,v,e⟩:=x;exact⟨t,u,v,k _ _ (.inl rfl) e⟩
 | uH ob u ih=>obtain⟨e,q⟩:=x;exact⟨k _ _ (.inl rfl) e,ih q⟩
 | tbl ps =>
   have e:h.get? a=some { cls:=.none,data:=.fields ps }:=x
   show h'.get? a=some { cls:=.none,data:=.fields ps }
   exact k a _ (.inl rfl) e
 | met f y =>
   have e:h.get? a=some (methodObj (.ref f) (.ref y)):=x
   show h'.get? a=some (methodObj (.ref f) (.ref y))
   exact k a _ (.inl rfl) e
 | ext φ=>obtain⟨p,⟨o,e⟩,st⟩:=x;exact⟨st _ _ p fun o q=>k _ _ (.inl rfl) q,⟨o,k _ _ (.inl rfl) e⟩,st⟩
theorem HOk.lt(x:HOk P w H h)(e:H a=some o):a<h.objs.size:=(x a o e).lt
theorem HOk.fresh(x:HOk P w H h)(e:h.objs.size<=a):H a=none:=by
 cases q:H a with
 | none=>rfl
 | some u=>exact absurd (zm (x.lt q) e) (yh _)
theorem HOk.kept(x:HOk P w H h)(k:∀b u,h.get? b=some u->h'.get? b=some u):HOk P w H h':=fun a o e =>
 (x a o e).stay (fun b u _ q=>k b u q) (fun _ q=>q) fun _ _ q=>q
theorem HOk.laid(x:HOk P w H h)(k:∀b u,h.get? b=some u->h'.get? b=some u)(hp:h.objs.size<=a)(new:QY P w (upd H a o) h' a o):HOk P w (upd H a o) h':=fun b u e=>by
 have hn:=x.fresh hp
 by_cases hb:b=a
 .subst hb;rw[Qc] at e;cases e;exact new
 .rw[Qa hb] at e
  exact(x b u e).stay (fun c v _ q=>k c v q) (fun c q=>by rw[Qa (Qb q hn)];exact q) fun c xs q=>by rw[Qa (Qb q hn)];exact q
end
def Rd(H:Hp)(a:Addr)(u:HO):Prop:=H a=some u\/∃o,H a=some (.uH o u)
theorem Rd.ok{P:Program}{w:World}{H:Hp}{h:Heap}{a:Addr}{u:HO}(r:Rd H a u)(x:HOk P w H h):QY P w H h a u:=by
 rcases r with r | ⟨o,r⟩
 .exact x a u r
 .obtain⟨_,q⟩:=x a _ r
  exact q
def Mut:Option HO->Prop
 | some (.lst _)=>True
 | some (.dK _)=>True
 | some (.dT _)=>True
 | some (.set _ _)=>True
 | some (.ins _ _ _)=>True
 | some (.ext _)=>True
 | _=>False
section
variable {P:Program}{w:World}{H:Hp}{h h':Heap}{x e:Addr}{o':HO}
theorem HOk.write(ok:HOk P w H h)(mu:Mut (H x))(he:e=x\/H e=some (.own x))(k:∀b u,b≠e->h.get? b=some u->h'.get? b=some u)(heo:∃u,h'.get? e=some u)
 (new:QY P w (upd H x o') h' x o'):HOk P w (upd H x o') h':=fun b u q=>by
 have nown:∀c y,H c=some (.own y)->c≠x:=fun c y r z=>by subst z;rw[r] at mu;exact mu
 have ntup:∀c xs,H c=some (.tup xs)->c≠x:=fun c xs r z=>by subst z;rw[r] at mu;exact mu
 by_cases hb:b=x
 .subst hb;rw[Qc] at q;cases q;exact new
 .rw[Qa hb] at q
  by_cases hbe:b=e
  .have q':H b=some (.own x):=by
    rcases he with z | z
    .exact absurd (hbe.trans z) hb
    .rw[hbe];exact z
   rw[q] at q';cases q'
   obtain⟨v,hv⟩:=heo
   exact⟨v,by rw[hbe];exact hv⟩
  .refine(ok b u q).stay (fun c v hc r=>k c v ?_ r) (fun c r=>by rw[Qa (nown c b r)];exact r) fun c xs r=>by rw[Qa (ntup c xs r)];exact r
   rcases hc with rfl | hc
   .exact hbe
   .rintro rfl
    rcases he with z | z
    .exact nown c b hc z
    .rw[hc] at z;cases z;exact hb rfl
end
structure Un(fs ex:List Addr)(H H':Hp)(h h':Heap):Prop where
 keep:∀b o,h.get? b=some o->H b=none->b∉fs->b∉ex->h'.get? b=some o
 slot:∀b o,h.get? b=some o->H b=none->b∈fs->b∉ex->∃sl,h'.get? b=some { o with slots:=sl }
 free:∀b o,h.get? b=some o->H b=none->b∉ex->H' b=none
 there:∀b o,h.get? b=some o->b∉ex->∃o',h'.get? b=some o'
 tups:∀b xs,H b=some (.tup xs)->H' b=some (.tup xs)
 Qnp:∀b o u,H b=some (.uH o u)->H' b=some (.uH o u)
 Qn6:∀b ps,H b=some (.tbl ps)->∃more,H' b=some (.tbl (ps++more))
section
variable {fs fs' ex ex':List Addr}{H H1 H2:Hp}{h h1 h2 h':Heap}{a x e:Addr}{o:HO}
theorem Un.any(u:Un fs ex H H1 h h1){b:Addr}{ob:Obj}(q:h.get? b=some ob)(n:H b=none)(hx:b∉ex):∃sl,h1.get? b=some { ob with slots:=sl }:=by
 by_cases hb:b∈fs
 .exact u.slot b ob q n hb hx
 .exact⟨ob.slots,u.keep b ob q n hb hx⟩
theorem Un.kept(k:∀b u,h.get? b=some u->h'.get? b=some u):Un fs ex H H h h' :=
 ⟨fun b ob q _ _ _=>k b ob q,fun b ob q _ _ _=>⟨ob.slots,k b ob q⟩,fun _ _ _ n _=>n,fun b ob q _=>⟨ob,k b ob q⟩,fun _ _ q=>q,fun _ _ _ q=>q,fun _ ps q=>⟨#[],by rw[q];simp⟩⟩
theorem Un.refl:Un fs ex H H h h:=Un.kept fun _ _ q=>q
theorem Un.laid(k:∀b u,h.get? b=some u->h'.get? b=some u)(hp:h.objs.size<=a)(hn:H a=none):Un fs ex H (upd H a o) h h' where
 keep:=fun b u q _ _ _=>k b u q
 slot:=fun b u q _ _ _=>⟨u.slots,k b u q⟩
 free:=fun b u q n _=>by rw[Qa (qY (zm (qM q) hp))];exact n
 there:=fun b u q _=>⟨u,k b u q⟩
 tups:=fun b xs q=>by rw[Qa (Qb q hn)];exact q
 Qnp:=fun b u xs q=>by rw[Qa (Qb q hn)];exact q
 Qn6:=fun b ps q=>⟨#[],by rw[Qa (Qb q hn),q];simp⟩
theorem Un.write(mu:Mut (H x))(he:e=x\/H e=some (.own x))(k:∀b u,b≠e->h.get? b=some u->h'.get? b=some u)(heo:∃u,h'.get? e=some u):Un fs ex H (upd H x o) h h':=by
 have hx:∀b,H b=none->b≠x:=fun b n z=>by subst z;rw[n] at mu;exact mu
 have hb:∀b,H b=none->b≠e:=fun b n z=>by
  subst z
  rcases he with r | r
  .exact hx b n r
  .rw[n] at r;cases r
 have hm:∀b u,H b=some u->¬Mut (some u)->b≠x:=fun b u q nm z=>by subst z;rw[q] at mu;exact nm mu
 refine⟨fun b u q n _ _=>k b u (hb b n) q,fun b u q n _ _=>⟨u.slots,k b u (hb b n) q⟩,fun b u q n _=>by rw[Qa (hx b n)];exact n,fun b u q _=>?_,
  fun b xs q=>by rw[Qa (hm b _ q fun z=>z)];exact q,fun b u xs q=>by rw[Qa (hm b _ q fun z=>z)];exact q,fun b ps q=>⟨#[],by rw[Qa (hm b _ q fun z=>z),q];simp⟩⟩
 by_cases hbe:b=e
 .subst hbe;exact heo
 .exact⟨u,k b u hbe q⟩
end
def trk(h:Heap)(H:Hp):List Addr:=(List.range h.objs.size).filter fun a=>(H a).isSome
def QbE(h:Heap)(H:Hp):Heap:=hideAll h (trk h H)
theorem QgO(h:Heap)(H:Hp):(QbE h H).objs.size=h.objs.size:=PySem.W.hideAll_size _ _
theorem Qi5{h:Heap}{H:Hp}{b:Addr}{o:Obj}(e:h.get? b=some o)(n:H b=none):(QbE h H).get? b=some o :=
 hideAll_get _ e fun hm=>by
  have q:(H b).isSome=true:=(qu.mp hm).2
  rw[n] at q;simp at q
theorem Qkw{h:Heap}{H:Hp}{b:Addr}{o:Obj}(e:(QbE h H).get? b=some o):h.get? b=some o/\H b=none:=by
 have e':h.get? b=some o:=of_hideAll (trk h H) e
 refine⟨e',?_⟩
 cases q:H b with
 | none=>rfl
 | some x =>
   have hm:b∈trk h H:=qu.mpr ⟨wQ.mpr (qM e'),by simp[q]⟩
   have z:(QbE h H).get? b=none:=PySem.W.hideAll_none (trk h H) hm
   rw[z] at e;cases e
end L2
namespace L2
open PySem PySem.Spec PyProof.Rows
structure Mod(K:Frag)(mg:Str->Option Value)(base:Heap):Prop where
 kin:K.In base
 glob:base.Ns mainGlobals mg
 blt:∃mb,base.Ns builtinsNs mb/\∀x:Str,x≠"__name__"->mb x=bootBuiltins x
 nolimit:base.NoLimit
structure Cx where
 prog:Program
 w:World
 K:Frag
 mg:Str->Option Value
 base:Heap
 A:Around
 N:QvX
 s₀:Shared
 H₀:Hp
 env:Env
 outer:List Env
 stack:List Env
 ex:List Addr
 fn:Str->Bool
 calm:Bool
 pn:List (Addr×Obj)
 xe:QvY
def frs(l:List Env):List Addr:=l.filterMap (·.frame)
abbrev Cx.fs(X:Cx):List Addr:=frs X.outer
def Vis(sc:Scope)(x:Str):Prop:=sc.names.lookup x=some .local\/sc.names.lookup x=some .cell\/sc.names.lookup x=some .free
def Loc(sc:Scope)(x:Str):Prop:=sc.names.lookup x=some .local\/sc.names.lookup x=some .cell
def Look(env:Env)(h:Heap)(m:Str->Option Value)(x:Str)(u:Value):Prop :=
 (env.kindOf x=some .local/\m x=some u)\/((env.kindOf x=some .cell\/env.kindOf x=some .free)/\∃c,env.cells.lookup x=some c/\h.IsCell c (some u))
structure Cx.Ok(X:Cx):Prop where
 mod:Mod X.K X.mg X.base
 kind:X.env.scope.kind=.function
 glob:X.env.globals=mainGlobals
 blt:X.env.builtins=builtinsNs
 above:X.s₀.heap.objs.size<=X.env.locals
 inj:∀x y c,X.env.cells.lookup x=some c->X.env.cells.lookup y=some c->x=y
 has:∀x,(X.env.kindOf x=some .cell\/X.env.kindOf x=some .free)->∃c,X.env.cells.lookup x=some c
 cab:∀x c,X.fn x=true->X.env.cells.lookup x=some c->X.s₀.heap.objs.size<=c
 hd:X.calm=true->X.A.handled=none
 frames:X.A.frames=some X.stack
 stk:X.stack=X.outer\/(X.stack=X.env :: X.outer/\X.env.frame=some X.env.locals)
 exf:∀b∈X.ex,b≠X.env.locals/\∀x c,X.env.cells.lookup x=some c->c≠b
 bs:∀b o,X.base.get? b=some o->X.s₀.heap.get? b=some o/\X.H₀ b=none
 bsz:X.base.objs.size<=X.s₀.heap.objs.size
 Qrg:∀b o,X.base.get? b=some o->b∉X.ex
 Qrv:∀b∈X.ex,b∉X.fs
 Qno:X.s₀.heap.FunFrames X.base X.outer
 frf:∀b∈X.fs,X.H₀ b=none
structure Inv(X:Cx)(pins:List (Addr×Obj))(σ:List (Option V))(H:Hp)(s:Shared):Prop where
 ok:X.Ok
 os:s.os=X.s₀.os
 bare:AllBare s.gens
 base:Un X.fs X.ex X.H₀ H X.s₀.heap s.heap
 loc:∃m,s.heap.Ns X.env.locals m/\∀(i:Nat)(x:Str)(v:V),X.N[i]?=some x->σ[i]?=some (some v)->Vis X.env.scope x->∃u,QI v u/\Look X.env s.heap m x u
 cell:∀x c,X.env.cells.lookup x=some c->∃v,s.heap.IsCell c v
 free:H X.env.locals=none
 vz:∀x c,X.env.cells.lookup x=some c->H c=none
 pin:∀p∈X.pn++pins,s.heap.get? p.1=some p.2/\H p.1=none/\p.1≠X.env.locals/\p.1∉X.fs/\∀v,p.2.data≠.cell v
 hok:HOk X.prog X.w H s.heap
 len:σ.length=X.N.length
section
variable {X:Cx}{pins:List (Addr×Obj)}{σ:List (Option V)}{H H':Hp}{s:Shared}{h':Heap}
theorem Cx.Ok.nofr(ok:X.Ok){b:Addr}{o:Obj}(e:X.base.get? b=some o):b∉X.fs:=fun hb=>by
 have:=(ok.Qno.mem hb).1
 rw[e] at this;cases this
theorem Inv.bs(I:Inv X pins σ H s):∀b o,X.base.get? b=some o->s.heap.get? b=some o/\H b=none:=fun b o e =>
 ⟨I.base.keep b o (I.ok.bs b o e).1 (I.ok.bs b o e).2 (I.ok.nofr e) (I.ok.Qrg b o e),I.base.free b o (I.ok.bs b o e).1 (I.ok.bs b o e).2 (I.ok.Qrg b o e)⟩
theorem Inv.bk(I:Inv X pins σ H s):∀b o,X.base.get? b=some o->s.heap.get? b=some o:=fun b o e=>(I.bs b o e).1
theorem Inv.mod(I:Inv X pins σ H s):Mod X.K X.mg X.base:=I.ok.mod
theorem Inv.kIn(I:Inv X pins σ H s):X.K.In s.heap:=I.ok.mod.kin.keeps I.bk
theorem Inv.lt(I:Inv X pins σ H s):X.env.locals<s.heap.objs.size:=let ⟨_,hn,_⟩:=I.loc;hn.lt
theorem Inv.sz(I:Inv X pins σ H s):X.s₀.heap.objs.size<=s.heap.objs.size:=zx I.ok.above (gb I.lt)
theorem Inv.nofs(I:Inv X pins σ H s){a:Addr}(h:s.heap.objs.size<=a):a∉X.fs:=fun hb=>by
 obtain⟨_,o,ho,_⟩:=I.ok.Qno.mem hb
 exact absurd (zm (qM ho) (zx I.sz h)) (yh _)
theorem Inv.cne(I:Inv X pins σ H s):∀x c,X.env.cells.lookup x=some c->c≠X.env.locals:=fun x c e z=>by
 obtain⟨v,o,ho,hd⟩:=I.cell x c e
 obtain⟨m,⟨o',es,ep,ho',hd',_⟩,_⟩:=I.loc
 rw[z,ho'] at ho;cases ho;rw[hd'] at hd;cases hd
theorem Inv.Qno(I:Inv X pins σ H s):s.heap.FunFrames X.base X.outer:=by
 have all:∀(l:List Env),(∀b∈frs l,b∈X.fs)->X.s₀.heap.FunFrames X.base l->s.heap.FunFrames X.base l:=by
  intro l
  induction l with
  | nil=>intro _ _;trivial
  | cons env r ih =>
    intro hs hl
    obtain⟨hk,⟨L,o,hf,hn,ho,hd⟩,hr⟩:=hl
    have hL:L∈X.fs:=hs L (by unfold frs;rw[QrQ,hf];exact qL)
    obtain⟨sl,e⟩:=I.base.slot L o ho (I.ok.frf L hL) hL fun z=>I.ok.Qrv L z hL
    exact⟨hk,⟨L,_,hf,hn,e,hd⟩,ih (fun b hb=>hs b (by unfold frs;rw[QrQ,hf];exact qP _ hb)) hr⟩
 exact all X.outer (fun _ hb=>hb) I.ok.Qno
theorem Inv.stack(I:Inv X pins σ H s):s.heap.FunFrames X.base X.stack:=by
 rcases I.ok.stk with e | ⟨e,hf⟩
 .rw[e];exact I.Qno
 .rw[e]
  obtain⟨m,hn,_⟩:=I.loc
  refine .cons (by rw[I.ok.kind];decide) hf hn ?_ I.Qno
  exact Heap.get?_none_of_le (zx I.ok.bsz I.ok.above)
theorem Inv.Qqv(I:Inv X pins σ H s):∀b∈frs X.stack,b∈X.env.locals :: X.fs:=fun b hb=>by
 rcases I.ok.stk with e | ⟨e,hf⟩
 .rw[e] at hb;exact qP _ hb
 .rw[e] at hb
  unfold frs at hb
  rw[QrQ,hf] at hb
  exact hb
theorem Inv.Qqw(I:Inv X pins σ H s):∀b∈frs X.stack,H b=none:=fun b hb=>by
 rcases qG.mp (I.Qqv b hb) with e | hb
 .rw[e];exact I.free
 .obtain⟨_,o,ho,_⟩:=I.ok.Qno.mem hb
  exact I.base.free b o ho (I.ok.frf b hb) fun z=>I.ok.Qrv b z hb
theorem Inv.step{g':Array GenState}{t':Nat}{d':Drawn}{ch:List Addr}(I:Inv X pins σ H s)
 (hch:∀b∈ch,(b∈X.ex\/X.s₀.heap.objs.size<=b)/\b≠X.env.locals/\(∀x c,X.env.cells.lookup x=some c->c≠b)/\∀p∈X.pn++pins,p.1≠b)
 (keep:∀b o,b≠X.env.locals->b∉X.fs->b∉ch->s.heap.get? b=some o->H b=none->h'.get? b=some o)
 (slot:∀b o,b≠X.env.locals->b∈X.fs->b∉ch->s.heap.get? b=some o->H b=none->∃sl,h'.get? b=some { o with slots:=sl }) (free:∀b o,b∉ch->s.heap.get? b=some o->H b=none->H' b=none)
 (there:∀b o,b∉ch->s.heap.get? b=some o->∃o',h'.get? b=some o')
 (tups:∀b xs,H b=some (.tup xs)->H' b=some (.tup xs)) (Qnp:∀b o u,H b=some (.uH o u)->H' b=some (.uH o u)) (Qn6:∀b ps,H b=some (.tbl ps)->∃more,H' b=some (.tbl (ps++more)))
 (ns:∀m,s.heap.Ns X.env.locals m->h'.Ns X.env.locals m) (hok:HOk X.prog X.w H' h') (hg:AllBare g') :
 Inv X pins σ H' { s with heap:=h',gens:=g',drawn:=d',toks:=t' }:=by
 have neL:∀b o,X.s₀.heap.get? b=some o->b≠X.env.locals:=fun b o e=>qY (zm (qM e) I.ok.above)
 have neC:∀b o,X.s₀.heap.get? b=some o->b∉X.ex->b∉ch:=fun b o e hx hb=>by
  rcases (hch b hb).1 with z | z
  .exact hx z
  .exact absurd (zm (qM e) z) (yh _)
 have cellK:∀x c,X.env.cells.lookup x=some c->∀v,s.heap.IsCell c v->h'.IsCell c v:=fun x c e v ⟨o,ho,hd⟩=>by
  have nch:c∉ch:=fun z=>(hch c z).2.2.1 x c e rfl
  by_cases hc:c∈X.fs
  .obtain⟨sl,q⟩:=slot c o (I.cne x c e) hc nch ho (I.vz x c e)
   exact⟨_,q,hd⟩
  .exact⟨o,keep c o (I.cne x c e) hc nch ho (I.vz x c e),hd⟩
 refine⟨I.ok,I.os,hg,⟨fun b o e n hb hx=>?_,fun b o e n hb hx=>?_,fun b o e n hx=>?_,fun b o e hx=>?_,fun b xs e=>tups b xs (I.base.tups b xs e),fun b o xs e=>Qnp b o xs (I.base.Qnp b o xs e),fun b ps e=>?_⟩,?_,fun x c e=>?_,?_,fun x c e=>?_,fun p hp=>?_,hok,I.len⟩
 .exact keep b o (neL b o e) hb (neC b o e hx) (I.base.keep b o e n hb hx) (I.base.free b o e n hx)
 .obtain⟨sl,e1⟩:=I.base.slot b o e n hb hx
  obtain⟨sl',e2⟩:=slot b _ (neL b o e) hb (neC b o e hx) e1 (I.base.free b o e n hx)
  exact⟨sl',e2⟩
 .obtain⟨o',e1⟩:=I.base.there b o e hx
  exact free b o' (neC b o e hx) e1 (I.base.free b o e n hx)
 .obtain⟨o',e1⟩:=I.base.there b o e hx
  exact there b o' (neC b o e hx) e1
 .obtain⟨m1,e1⟩:=I.base.Qn6 b ps e
  obtain⟨m2,e2⟩:=Qn6 b _ e1
  exact⟨m1++m2,by rw[e2,Array.append_assoc]⟩
 .obtain⟨m,hn,hl⟩:=I.loc
  refine⟨m,ns m hn,fun i x v e1 e2 e3=>?_⟩
  obtain⟨u,r,l⟩:=hl i x v e1 e2 e3
  refine⟨u,r,?_⟩
  rcases l with l | ⟨k,c,e,z⟩
  .exact .inl l
  .exact .inr ⟨k,c,e,cellK x c e _ z⟩
 .obtain⟨v,z⟩:=I.cell x c e
  exact⟨v,cellK x c e v z⟩
 .obtain⟨m,⟨o,_,_,ho,_⟩,_⟩:=I.loc
  exact free _ o (fun z=>(hch _ z).2.1 rfl) ho I.free
 .obtain⟨v,o,ho,hd⟩:=I.cell x c e
  exact free c o (fun z=>(hch c z).2.2.1 x c e rfl) ho (I.vz x c e)
 .obtain⟨e,n,ne,nf,d⟩:=I.pin p hp
  have nch:p.1∉ch:=fun z=>(hch p.1 z).2.2.2 p hp rfl
  exact⟨keep p.1 p.2 ne nf nch e n,free p.1 p.2 nch e n,ne,nf,d⟩
theorem Inv.un{t':Nat}(I:Inv X pins σ H s)(u:Un X.fs [] H H' s.heap h')(hok:HOk X.prog X.w H' h'):Inv X pins σ H' { s with heap:=h',toks:=t' }:=by
 obtain⟨m,⟨o,es,ep,ho,r⟩,_⟩:=id I.loc
 obtain⟨sl,hL⟩:=u.any ho I.free (by simp)
 exact I.step (g':=s.gens) (d':=s.drawn) (ch:=[]) (fun _ z=>nomatch z) (fun b o _ hb _ e n=>u.keep b o e n hb (by simp)) (fun b o _ hb _ e n=>u.slot b o e n hb (by simp)) (fun b o _ e n=>u.free b o e n (by simp)) (fun b o _ e=>u.there b o e (by simp)) u.tups u.Qnp u.Qn6 (fun m' hm=>by
  obtain⟨o',es',ep',ho',r'⟩:=hm
  rw[ho] at ho';cases ho'
  exact⟨_,es',ep',hL,r'⟩) hok I.bare
theorem Inv.call{g':Array GenState}{t':Nat}{d':Drawn}{ch:List Addr}(I:Inv X pins σ H s)(u:Un (frs X.stack) ch H H' s.heap h')(hok:HOk X.prog X.w H' h')(hg:AllBare g')
 (hch:∀b∈ch,(b∈X.ex\/X.s₀.heap.objs.size<=b)/\b≠X.env.locals/\(∀x c,X.env.cells.lookup x=some c->c≠b)/\∀p∈X.pn++pins,p.1≠b) :
 Inv X pins σ H' { s with heap:=h',gens:=g',drawn:=d',toks:=t' }:=by
 obtain⟨m,⟨o,es,ep,ho,r⟩,_⟩:=id I.loc
 obtain⟨sl,hL⟩:=u.any ho I.free fun z=>(hch _ z).2.1 rfl
 exact I.step (ch:=ch) hch (fun b o hL hb hc e n=>u.keep b o e n (fun z=>(qG.mp (I.Qqv b z)).elim hL hb) hc) (fun b o _ _ hc e n=>u.any e n hc) (fun b o hc e n=>u.free b o e n hc) (fun b o hc e=>u.there b o e hc) u.tups u.Qnp u.Qn6 (fun m' hm=>by
  obtain⟨o',es',ep',ho',r'⟩:=hm
  rw[ho] at ho';cases ho'
  exact⟨_,es',ep',hL,r'⟩) hok hg
theorem Inv.turned{t':Nat}{it:Addr}(I:Inv X pins σ H s)(k:∀b o,b≠it->s.heap.get? b=some o->h'.get? b=some o)(hn:H it=none)(hL:it≠X.env.locals)
 (h1:it∈X.ex\/X.s₀.heap.objs.size<=it) (h2:∀x c,X.env.cells.lookup x=some c->c≠it) (h3:∀p∈X.pn++pins,p.1≠it):Inv X pins σ H { s with heap:=h',toks:=t' }:=by
 have nit:∀b u,H b=some u->b≠it:=fun b u e z=>by rw[z,hn] at e;cases e
 refine I.step (g':=s.gens) (d':=s.drawn) (ch:=[it]) (fun b hb=>?_) (fun b o _ _ hc e _=>k b o (fun z=>hc (by simp[z])) e) (fun b o _ _ hc e _=>⟨o.slots,k b o (fun z=>hc (by simp[z])) e⟩) (fun _ _ _ _ n=>n)
  (fun b o hc e=>⟨o,k b o (fun z=>hc (by simp[z])) e⟩) (fun _ _ e=>e) (fun _ _ _ e=>e) (fun b ps e=>⟨#[],by rw[e];simp⟩) (fun m hm=>?_) (fun b u e=>?_) I.bare
 .have e:b=it:=by simpa using hb
  subst e
  exact⟨h1,hL,h2,h3⟩
 .obtain⟨o,es,ep,ho,r⟩:=hm
  exact⟨o,es,ep,k _ o (xH hL) ho,r⟩
 .refine(I.hok b u e).stay (fun c v hc q=>k c v ?_ q) (fun _ q=>q) fun _ _ q=>q
  rcases hc with z | z
  .rw[z];exact nit b u e
  .exact nit c _ z
theorem Inv.tok(I:Inv X pins σ H s)(t:Nat):Inv X pins σ H { s with toks:=t }:=I.un (h':=s.heap) (t':=t) Un.refl I.hok
theorem Inv.kept{t':Nat}(I:Inv X pins σ H s)(k:∀b u,s.heap.get? b=some u->h'.get? b=some u):Inv X pins σ H { s with heap:=h',toks:=t' }:=I.un (Un.kept k) (I.hok.kept k)
theorem Inv.laid{a:Addr}{o:HO}{t':Nat}(I:Inv X pins σ H s)(k:∀b u,s.heap.get? b=some u->h'.get? b=some u)(hp:s.heap.objs.size<=a)(new:QY X.prog X.w (upd H a o) h' a o) :
 Inv X pins σ (upd H a o) { s with heap:=h',toks:=t' }:=I.un (Un.laid k hp (I.hok.fresh hp)) (I.hok.laid k hp new)
theorem Inv.write{x e:Addr}{o:HO}{t':Nat}(I:Inv X pins σ H s)(mu:Mut (H x))(he:e=x\/H e=some (.own x))(k:∀b u,b≠e->s.heap.get? b=some u->h'.get? b=some u)(heo:∃u,h'.get? e=some u)
 (new:QY X.prog X.w (upd H x o) h' x o):Inv X pins σ (upd H x o) { s with heap:=h',toks:=t' }:=I.un (Un.write mu he k heo) (I.hok.write mu he k heo new)
theorem Inv.Qsm{QoB:List (Addr×Obj)}(I:Inv X pins σ H s)(h:∀p∈QoB,s.heap.get? p.1=some p.2/\H p.1=none/\p.1≠X.env.locals/\p.1∉X.fs/\∀v,p.2.data≠.cell v):Inv X QoB σ H s :=
 ⟨I.ok,I.os,I.bare,I.base,I.loc,I.cell,I.free,I.vz,fun p hp=>(qx.mp hp).elim (fun z=>I.pin p (qN _ z)) (h p),I.hok,I.len⟩
theorem KS{N:QvX}(hN:N.Nodup){i j:Nat}{x:Str}(a:N[i]?=some x)(b:N[j]?=some x):i=j:=by
 obtain⟨h1,e1⟩:=zp.mp a
 obtain⟨h2,e2⟩:=zp.mp b
 exact(List.getElem_inj hN).mp (e1.trans e2.symm)
theorem Qaf{M:Model}{A:Around}{E:QvY}{i:Nat}{x:Str}{v:V}{u:Value}{Q:Unit->Shared->Prop}(I:Inv X pins σ H s)(hN:X.N.Nodup)(hi:X.N[i]?=some x)(hx:Loc X.env.scope x)(r:QI v u)
 (h:∀s',Inv X pins (σ.set i (some v)) H s'->(∃a,Heap.SameBut a s.heap s'.heap/\(a=X.env.locals\/X.env.cells.lookup x=some a))->Q () s') (hf:X.fn x=true\/X.env.scope.names.lookup x=some .local:=by first | exact .inl rfl | exact .inr rfl | assumption):wpAny M A (storeName X.env x u) Q E s:=by
 obtain⟨m,hn,hl⟩:=id I.loc
 have hcls:(X.env.scope.kind == .class || (X.env.scope.kind == .module && X.env.locals != X.env.globals))=false:=by rw[I.ok.kind];rfl
 have hiσ:i<σ.length:=by rw[I.len];exact(zp.mp hi).1
 have cne:=I.cne
 have tracked:∀{a:Addr}{h':Heap},(∃o,s.heap.get? a=some o/\H a=none)->Heap.SameBut a s.heap h'->HOk X.prog X.w H h':=fun{a h'} ha hs b ob e=>by
  obtain⟨_,_,hfree⟩:=ha
  refine(I.hok b ob e).stay (fun c w' hc q=>(hs.2 c ?_).trans q) (fun _ q=>q) fun _ _ q=>q
  rintro rfl
  rcases hc with rfl | hc
  .rw[hfree] at e;cases e
  .rw[hfree] at hc;cases hc
 rcases hx with hk | hk
 .refine wpAny_storeName_local hk hn (fun h' hn' hs=>?_) hcls
  obtain⟨oL,_,_,hoL,_⟩:=id hn
  refine h _ ⟨I.ok,I.os,I.bare,⟨fun b o e n hb hx=>?_,fun b o e n hb hx=>?_,I.base.free,fun b o e hx=>?_,I.base.tups,I.base.Qnp,I.base.Qn6⟩,⟨_,hn',fun j y v' e1 e2 e3=>?_⟩,fun y c e=>?_,I.free,I.vz,fun p hp=>?_,tracked ⟨oL,hoL,I.free⟩ hs,by simpa using I.len⟩ ⟨_,hs,.inl rfl⟩
  .exact(hs.2 b (qY (zm (qM e) I.ok.above))).trans (I.base.keep b o e n hb hx)
  .obtain⟨sl,e1⟩:=I.base.slot b o e n hb hx
   exact⟨sl,(hs.2 b (qY (zm (qM e) I.ok.above))).trans e1⟩
  .obtain⟨o',e1⟩:=I.base.there b o e hx
   exact⟨o',(hs.2 b (qY (zm (qM e) I.ok.above))).trans e1⟩
  .by_cases hj:j=i
   .subst hj
    rw[hi] at e1;cases e1
    rw[jB hiσ] at e2
    cases e2
    exact⟨u,r,.inl ⟨hk,by simp⟩⟩
   .rw[QmA (xH hj)] at e2
    obtain⟨u',r',q⟩:=hl j y v' e1 e2 e3
    refine⟨u',r',?_⟩
    rcases q with⟨k,e⟩ | ⟨k,c,e,z⟩
    .refine .inl ⟨k,?_⟩
     have:y≠x:=fun e=>hj (KS hN e1 (e▸hi))
     simp[this,e]
    .exact .inr ⟨k,c,e,z.sameBut hs (cne y c e)⟩
  .obtain⟨w',z⟩:=I.cell y c e
   exact⟨w',z.sameBut hs (cne y c e)⟩
  .obtain⟨e,n,ne,nf,d⟩:=I.pin p hp
   exact⟨(hs.2 p.1 ne).trans e,n,ne,nf,d⟩
 .have hfn:X.fn x=true:=by
   rcases hf with z | z
   .exact z
   .rw[z] at hk;cases hk
  obtain⟨c,hc⟩:=I.ok.has x (.inl hk)
  obtain⟨w',z⟩:=I.cell x c hc
  refine wpAny_storeName_cell I.ok.kind hk hc z (fun h' hc' hs=>?_)
  obtain⟨oc,hoc,hocd⟩:=id z
  refine h { s with heap:=h' } ⟨I.ok,I.os,I.bare,⟨fun b o e n hb hx=>?_,fun b o e n hb hx=>?_,I.base.free,fun b o e hx=>?_,I.base.tups,I.base.Qnp,I.base.Qn6⟩,⟨m,hn.sameBut hs (xH (cne x c hc)),fun j y v' e1 e2 e3=>?_⟩,fun y c' e=>?_,I.free,I.vz,fun p hp=>?_,tracked ⟨oc,hoc,I.vz x c hc⟩ hs,by simpa using I.len⟩ ⟨c,hs,.inr hc⟩
  .exact(hs.2 b (qY (zm (qM e) (I.ok.cab x c hfn hc)))).trans (I.base.keep b o e n hb hx)
  .obtain⟨sl,e1⟩:=I.base.slot b o e n hb hx
   exact⟨sl,(hs.2 b (qY (zm (qM e) (I.ok.cab x c hfn hc)))).trans e1⟩
  .obtain⟨o',e1⟩:=I.base.there b o e hx
   exact⟨o',(hs.2 b (qY (zm (qM e) (I.ok.cab x c hfn hc)))).trans e1⟩
  .by_cases hj:j=i
   .subst hj
    rw[hi] at e1;cases e1
    rw[jB hiσ] at e2
    cases e2
    exact⟨u,r,.inr ⟨.inl hk,c,hc,hc'⟩⟩
   .rw[QmA (xH hj)] at e2
    obtain⟨u',r',q⟩:=hl j y v' e1 e2 e3
    refine⟨u',r',?_⟩
    rcases q with q | ⟨k,c',e,z'⟩
    .exact .inl q
    .refine .inr ⟨k,c',e,z'.sameBut hs ?_⟩
     rintro rfl
     exact hj (KS hN e1 (I.ok.inj _ _ _ e hc▸hi))
  .by_cases hcc:c'=c
   .subst hcc;exact⟨_,hc'⟩
   .obtain⟨w2,z2⟩:=I.cell y c' e
    exact⟨w2,z2.sameBut hs hcc⟩
  .obtain⟨e,n,ne,nf,d⟩:=I.pin p hp
   refine⟨(hs.2 p.1 ?_).trans e,n,ne,nf,d⟩
   intro q
   rw[q,hoc] at e
   have q':oc=p.2:=qR e
   exact d w' (by rw[<-q'];exact hocd)
theorem Kc{M:Model}{A:Around}{E:QvY}{i:Nat}{x:Str}{v:V}{u:Value}{Q:Unit->Shared->Prop}(I:Inv X pins σ H s)(hN:X.N.Nodup)(hi:X.N[i]?=some x)(hx:Loc X.env.scope x)(r:QI v u)
 (h:∀s',Inv X pins (σ.set i (some v)) H s'->Q () s') (hf:X.fn x=true\/X.env.scope.names.lookup x=some .local:=by first | exact .inl rfl | exact .inr rfl | assumption):wpAny M A (storeName X.env x u) Q E s :=
 Qaf I hN hi hx r (fun s' I' _=>h s' I') hf
theorem Inv.call'{s':Shared}{ch:List Addr}(I:Inv X pins σ H s)(ho:s'.os=s.os)(u:Un (frs X.stack) ch H H' s.heap s'.heap)(hok:HOk X.prog X.w H' s'.heap)(hg:AllBare s'.gens)
 (hch:∀b∈ch,(b∈X.ex\/X.s₀.heap.objs.size<=b)/\b≠X.env.locals/\(∀x c,X.env.cells.lookup x=some c->c≠b)/\∀p∈X.pn++pins,p.1≠b):Inv X pins σ H' s':=by
 obtain⟨h',g',d',t',o'⟩:=s'
 have e:o'=s.os:=ho
 subst e
 exact I.call (g':=g') (t':=t') (d':=d') u hok hg hch
end
abbrev XK:=Value->Option Addr->Hp->Prop
abbrev St:=List (Option V)
abbrev VK:=V->Hp->Prop
abbrev TE:=St->Hp->VK->Prop
abbrev TT:=St->Hp->(Bool->Hp->Prop)->Prop
abbrev TA:=St->Hp->(List V->Hp->Prop)->Prop
structure Y7 where
 nx:St->Hp->Prop
 rt:VK
 bk:St->Hp->Prop:=fun _ _=>False
 ct:St->Hp->Prop:=fun _ _=>False
abbrev TS:=Y7->St->Hp->Prop
inductive EP(X:Cx)(pins:List (Addr×Obj))(σ:St)(Q:VK)(u:Value)(s':Shared):Prop
 | mk:∀v H',Inv X pins σ H' s'->QI v u->Q v H'->EP X pins σ Q u s'
inductive TP(X:Cx)(pins:List (Addr×Obj))(σ:St)(Q:Bool->Hp->Prop)(b:Bool)(s':Shared):Prop
 | mk:∀H',Inv X pins σ H' s'->Q b H'->TP X pins σ Q b s'
inductive AP(X:Cx)(pins:List (Addr×Obj))(σ:St)(Q:List V->Hp->Prop)(us:QvZ)(s':Shared):Prop
 | mk:∀vs H',Inv X pins σ H' s'->QF vs us->Q vs H'->AP X pins σ Q us s'
inductive SPn(X:Cx)(pins:List (Addr×Obj))(N:St->Hp->Prop)(s':Shared):Prop
 | mk:∀σ' H',Inv X pins σ' H' s'->N σ' H'->SPn X pins N s'
inductive SPr(X:Cx)(pins:List (Addr×Obj))(N:VK)(u:Value)(s':Shared):Prop
 | mk:∀v σ' H',Inv X pins σ' H' s'->QI v u->N v H'->SPr X pins N u s'
def SP(X:Cx)(pins:List (Addr×Obj))(D:Y7)(f:Flow)(s':Shared):Prop :=
 match f with
 | .next=>SPn X pins D.nx s'
 | .brk=>SPn X pins D.bk s'
 | .cont=>SPn X pins D.ct s'
 | .ret u=>SPr X pins D.rt u s'
def PE(X:Cx)(e:Expr)(t:TE):Prop :=
 ∀(pins:List (Addr×Obj))(s:Shared)(σ:St)(H:Hp)(Q:VK),Inv X pins σ H s->t σ H Q->wpAny (model X.prog X.w) X.A (eval e X.env) (EP X pins σ Q) X.xe s
def PT(X:Cx)(e:Expr)(t:TT):Prop :=
 ∀(pins:List (Addr×Obj))(s:Shared)(σ:St)(H:Hp)(Q:Bool->Hp->Prop),Inv X pins σ H s->t σ H Q->wpAny (model X.prog X.w) X.A (isTrue e X.env (eval e X.env)) (TP X pins σ Q) X.xe s
def PW(X:Cx)(e:Expr)(t:TT):Prop :=
 ∀(whole:Sem Value)(pins:List (Addr×Obj))(s:Shared)(σ:St)(H:Hp)(Q:Bool->Hp->Prop),Inv X pins σ H s->t σ H Q->wpAny (model X.prog X.w) X.A (isTrue e X.env whole) (TP X pins σ Q) X.xe s
theorem PW.pt{X:Cx}{e:Expr}{t:TT}(h:PW X e t):PT X e t:=h _
def PA(X:Cx)(es:List Expr)(t:TA):Prop :=
 ∀(pos:Pos)(pins:List (Addr×Obj))(s:Shared)(σ:St)(H:Hp)(Q:List V->Hp->Prop),Inv X pins σ H s->t σ H Q->wpAny (model X.prog X.w) X.A (spliced (backTo pos (starEach es X.env))) (AP X pins σ Q) X.xe s
def PS(X:Cx)(st:Stmt)(t:TS):Prop :=
 ∀(pins:List (Addr×Obj))(s:Shared)(σ:St)(H:Hp)(D:Y7),Inv X pins σ H s->t D σ H->wpAny (model X.prog X.w) X.A (exec st X.env) (SP X pins D) X.xe s
def PSs(X:Cx)(st:List Stmt)(t:TS):Prop :=
 ∀(pins:List (Addr×Obj))(s:Shared)(σ:St)(H:Hp)(D:Y7),Inv X pins σ H s->t D σ H->wpAny (model X.prog X.w) X.A (execs st X.env) (SP X pins D) X.xe s
theorem jO{α:Type}{t:Sem α}{Q Q':α->Shared->Prop}{M:Model}{A:Around}{E:QvY}{s:Shared}(h:wpAny M A t Q E s)(hQ:∀a s,Q a s->Q' a s):wpAny M A t Q' E s:=yp h hQ fun _ _ x=>x
end L2
namespace L2
open PySem PySem.Spec PyProof.Rows
section
variable {X:Cx}
inductive Qhd(i:Nat)(σ:St)(H:Hp)(Q:VK):Prop
 | mk:∀v,σ[i]?=some (some v)->Q v H->Qhd i σ H Q
def tVar(i:Nat):TE:=fun σ H Q=>Qhd i σ H Q
def tC(v:V):TE:=fun _ H Q=>Q v H
theorem QlY{i:Nat}{x:Str}{pos:Pos}(hN:X.N[i]?=some x)(hv:Vis X.env.scope x)(hd:(x == ("__debug__":Str))=false:=by decide)(hcd:(x == ("__classdict__":Str))=false:=by decide):PE X (.Name x pos) (tVar i):=by
 intro pins s σ H Q I h
 obtain⟨v,e,h⟩:=h
 obtain⟨m,hn,hl⟩:=I.loc
 obtain⟨u,r,l⟩:=hl i x v hN e hv
 have fin:EP X pins σ Q u s:=⟨v,H,I,r,h⟩
 rcases l with⟨hk,hm⟩ | ⟨hk,c,hc,hcell⟩
 .exact wpAny_Name (wpAny_loadName_local I.ok.kind hk hn hm fin) hd
 .rcases hk with hk | hk
  .exact wpAny_Name (wpAny_loadName_cell I.ok.kind hk hc hcell fin) hd
  .exact wpAny_Name (wpAny_loadName_free I.ok.kind hk hc hcell fin hcd) hd
theorem Qi{i j pos}:PE X (.Constant (.int i) j pos) (tC (.int i)):=fun _ _ _ H _ I h=>wpAny_Constant_int ⟨.int i,H,I.tok _,⟨_,rfl⟩,h⟩
theorem YY{b j pos}:PE X (.Constant (.bool b) j pos) (tC (.bl b)):=fun _ _ _ H _ I h=>Constant_bool ⟨.bl b,H,I,rfl,h⟩
theorem VQ{j pos}:PE X (.Constant .none j pos) (tC .non):=fun _ _ _ H _ I h=>Constant_none ⟨.non,H,I,rfl,h⟩
theorem Qp{x j pos}:PE X (.Constant (.str x) j pos) (tC (.str x)):=fun _ _ _ H _ I h=>Calls.Constant_str ⟨.str x,H,I.tok _,⟨_,rfl⟩,h⟩
def Gl(X:Cx)(x:Str):Prop:=X.env.kindOf x=some .globalImplicit
theorem Vq{E:QvY}{pins:List (Addr×Obj)}{s:Shared}{σ:St}{H:Hp}{x:Str}{u:Value}{pos:Pos}{Q:QvY}(I:Inv X pins σ H s)(hg:Gl X x)(hm:X.mg x=some u)(h:Q u s)
 (hd:(x == ("__debug__":Str))=false:=by decide):wpAny (model X.prog X.w) X.A (eval (.Name x pos) X.env) Q E s :=
 QoU I.ok.kind hg (Calls.loadGlobal_global (by rw[I.ok.glob];exact I.mod.glob.keeps I.bk) hm h) hd
theorem QbB{E:QvY}{pins:List (Addr×Obj)}{s:Shared}{σ:St}{H:Hp}{x:Str}{u:Value}{pos:Pos}{Q:QvY}(I:Inv X pins σ H s)(hg:Gl X x)(hm:X.mg x=none)(hv:bootBuiltins x=some u)(h:Q u s)
 (hn:x≠"__name__":=by decide) (hd:(x == ("__debug__":Str))=false:=by decide):wpAny (model X.prog X.w) X.A (eval (.Name x pos) X.env) Q E s:=by
 obtain⟨mb,h1,h2⟩:=I.mod.blt
 exact QoU I.ok.kind hg (Calls.loadGlobal_builtin (by rw[I.ok.glob];exact I.mod.glob.keeps I.bk) hm (by rw[I.ok.blt];exact h1.keeps I.bk) ((h2 x hn).trans hv) h) hd
theorem Qkg{x:Str}{v:V}{u:Value}{pos:Pos}(hg:Gl X x)(hm:X.mg x=some u)(r:QI v u)(hd:(x == ("__debug__":Str))=false:=by decide):PE X (.Name x pos) (tC v) :=
 fun _ _ _ H _ I h=>Vq I hg hm ⟨v,H,I,r,h⟩ hd
theorem YX{x:Str}{v:V}{u:Value}{pos:Pos}(hg:Gl X x)(hm:X.mg x=none)(hv:bootBuiltins x=some u)(r:QI v u)(hn:x≠"__name__":=by decide)(hd:(x == ("__debug__":Str))=false:=by decide):PE X (.Name x pos) (tC v) :=
 fun _ _ _ H _ I h=>QbB I hg hm hv ⟨v,H,I,r,h⟩ hn hd
variable {a b:Expr}{ta tb:TE}{pos:Pos}
def PC(X:Cx)(op:CmpOp)(a b:Expr)(t:TE):Prop :=
 ∀(pins:List (Addr×Obj))(s:Shared)(σ:St)(H:Hp)(Q:VK),Inv X pins σ H s->t σ H Q ->
  wpAny (model X.prog X.w) X.A (eval a X.env) (fun v s₁=>wpAny (model X.prog X.w) X.A (eval b X.env) (fun u s₂=>wpAny (model X.prog X.w) X.A (compareOp op v u) (EP X pins σ Q) X.xe s₂) X.xe s₁) X.xe s
inductive tB_I(Q:(Bool->Hp->Prop))(x:V)(H1:Hp):Prop
 | mk:∀c,x=.bl c->Q c H1->tB_I Q x H1
def tB(t:TE):TT:=fun σ H Q=>t σ H fun x H1=>tB_I Q x H1
theorem Z2{op:CmpOp}{t:TE}(h:PC X op a b t)(h1:behindInMarks op b=false:=by first | exact nobehind _ (by decide) (by decide) | rfl):PT X (.Compare a [op] [b] pos) (tB t):=by
 intro pins s σ H Q I hw
 refine wpAny_isTrue_Compare1 (jO (h pins s σ H _ I hw) fun v s1 h1=>jO h1 fun u s2 h2=>jO h2 fun c s3 ⟨x,H1,I1,r1,q1⟩=>?_) h1
 obtain⟨d,rfl,q⟩:=q1
 cases r1
 exact ju ⟨H1,I1,q⟩
theorem Jf{e:Expr}{t:TE}(h:PE X e t)(he:∀whole,isTrue e X.env whole=(do let v <-whole;standAt e.pos;holding [v] (truthy v)):=by intro _;rfl):PT X e (tB t):=by
 intro pins s σ H Q I hw
 refine isTrue_plain (jO (h pins s σ H _ I hw) fun v s1 ⟨x,H1,I1,r1,q1⟩=>?_) (he _)
 obtain⟨d,rfl,q⟩:=q1
 cases r1
 exact ju ⟨H1,I1,q⟩
variable {tA tB':TT}{rest:List Expr}
def tAnd(t u:TT):TT:=fun σ H Q=>t σ H fun c H1=>if c=true then u σ H1 Q else Q false H1
def tOr(t u:TT):TT:=fun σ H Q=>t σ H fun c H1=>if c=true then Q true H1 else u σ H1 Q
def tNot(t:TT):TT:=fun σ H Q=>t σ H fun c H1=>Q (!c) H1
theorem YV(ha:PT X a tA):PW X (.BoolOp .And [a] pos) tA:=by
 intro wh pins s σ H Q I h
 refine isTrue_and (jO (ha pins s σ H Q I h) fun c s1 e=>?_)
 cases c with
 | true=>exact isTrue_and_nil e
 | false=>exact e
theorem UY(ha:PT X a tA):PW X (.BoolOp .Or [a] pos) tA:=by
 intro wh pins s σ H Q I h
 refine isTrue_or (jO (ha pins s σ H Q I h) fun c s1 e=>?_)
 cases c with
 | false=>exact isTrue_or_nil e
 | true=>exact e
theorem Uy(ha:PT X a tA)(hb:PW X (.BoolOp .And (b :: rest) pos) tB'):PW X (.BoolOp .And (a :: b :: rest) pos) (tAnd tA tB'):=by
 intro wh pins s σ H Q I h
 refine isTrue_and (jO (ha pins s σ H _ I h) fun c s1 ⟨H1,I1,q1⟩=>?_)
 cases c with
 | true=>exact hb wh pins s1 σ H1 Q I1 q1
 | false=>exact⟨H1,I1,q1⟩
theorem Xr(ha:PT X a tA)(hb:PW X (.BoolOp .Or (b :: rest) pos) tB'):PW X (.BoolOp .Or (a :: b :: rest) pos) (tOr tA tB'):=by
 intro wh pins s σ H Q I h
 refine isTrue_or (jO (ha pins s σ H _ I h) fun c s1 ⟨H1,I1,q1⟩=>?_)
 cases c with
 | true=>exact⟨H1,I1,q1⟩
 | false=>exact hb wh pins s1 σ H1 Q I1 q1
theorem Jw(ha:PT X a tA):PT X (.UnaryOp .Not a pos) (tNot tA):=by
 intro pins s σ H Q I h
 exact isTrue_not (jO (ha pins s σ H (fun c H1=>Q (!c) H1) I h) fun c s1 ⟨H1,I1,q1⟩=>⟨H1,I1,q1⟩)
inductive QeG(tb:TE)(σ:St)(Q:VK)(x:V)(H1:Hp):Prop
 | mk:∀c,x=.bl c->(if c=true then tb σ H1 Q else Q (.bl false) H1)->QeG tb σ Q x H1
def tAndV(ta tb:TE):TE:=fun σ H Q=>ta σ H fun x H1=>QeG tb σ Q x H1
inductive Qhe(tb:TE)(σ:St)(Q:VK)(x:V)(H1:Hp):Prop
 | mk:∀c,x=.bl c->(if c=true then Q (.bl true) H1 else tb σ H1 Q)->Qhe tb σ Q x H1
def tOrV(ta tb:TE):TE:=fun σ H Q=>ta σ H fun x H1=>Qhe tb σ Q x H1
inductive QeB(Q:VK)(x:V)(H1:Hp):Prop
 | mk:∀c,x=.bl c->Q (.bl (!c)) H1->QeB Q x H1
def tNotV(ta:TE):TE:=fun σ H Q=>ta σ H fun x H1=>QeB Q x H1
theorem U0{op}{t:TE}(h:PE X a t):PE X (.BoolOp op [a] pos) t:=fun pins s σ H Q I hw=>BoolOp_one (h pins s σ H Q I hw)
theorem U3(ha:PE X a ta)(hb:PE X (.BoolOp .And (b :: rest) pos) tb):PE X (.BoolOp .And (a :: b :: rest) pos) (tAndV ta tb):=by
 intro pins s σ H Q I h
 refine BoolOp_and (jO (ha pins s σ H _ I h) fun v s1 ⟨x,H1,I1,r1,q1⟩=>?_)
 obtain⟨c,rfl,q1⟩:=q1
 cases r1
 refine ju ?_
 cases c with
 | true=>exact hb pins s1 σ H1 Q I1 q1
 | false=>exact⟨.bl false,H1,I1,rfl,q1⟩
theorem pe_or(ha:PE X a ta)(hb:PE X (.BoolOp .Or (b :: rest) pos) tb):PE X (.BoolOp .Or (a :: b :: rest) pos) (tOrV ta tb):=by
 intro pins s σ H Q I h
 refine BoolOp_or (jO (ha pins s σ H _ I h) fun v s1 ⟨x,H1,I1,r1,q1⟩=>?_)
 obtain⟨c,rfl,q1⟩:=q1
 cases r1
 refine ju ?_
 cases c with
 | false=>exact hb pins s1 σ H1 Q I1 q1
 | true=>exact⟨.bl true,H1,I1,rfl,q1⟩
theorem Ql0(ha:PE X a ta):PE X (.UnaryOp .Not a pos) (tNotV ta):=by
 intro pins s σ H Q I h
 refine UnaryOp_ (jO (ha pins s σ H _ I h) fun v s1 ⟨x,H1,I1,r1,q1⟩=>?_)
 obtain⟨c,rfl,q1⟩:=q1
 cases r1
 exact not_of (ju ⟨.bl (!c),H1,I1,rfl,q1⟩)
def tIf(t:TT)(ta tb:TE):TE:=fun σ H Q=>t σ H fun c H1=>if c=true then ta σ H1 Q else tb σ H1 Q
theorem KN{c:Expr}(hc:PT X c tA)(ha:PE X a ta)(hb:PE X b tb):PE X (.IfExp c a b pos) (tIf tA ta tb):=by
 intro pins s σ H Q I h
 refine wpAny_IfExp (jO (hc pins s σ H _ I h) fun d s1 ⟨H1,I1,q1⟩=>?_)
 cases d with
 | true=>exact ha pins s1 σ H1 Q I1 q1
 | false=>exact hb pins s1 σ H1 Q I1 q1
end
end L2
namespace L2
open PySem PySem.Spec PyProof.Rows
def jH(K:Frag)(H:Hp)(a:Addr)(xs:List V):Prop :=
 Rd H a (.lst xs) \/
  ∃(o:Obj)(its:Array Value)(n:Nat),K.lookup a=some o/\o.cls=.type "list"/\o.dict=none/\o.data=.seq its n/\its.size<=sizeLine/\QF xs its.toList
def ye(K:Frag)(H:Hp)(a:Addr)(xs:List V):Prop :=
 Rd H a (.tup xs) \/
  ∃(o:Obj)(its:Array Value)(n:Nat),K.lookup a=some o/\o.cls=.type "tuple"/\o.data=.seq its n/\its.size<=sizeLine/\QF xs its.toList
def absV:Value->Option V
 | .none=>some .non
 | .bool b=>some (.bl b)
 | .int i _=>some (.int i)
 | .str x _=>some (.str x)
 | .bytes b _=>some (.byt b)
 | .float b _=>some (.flt b)
 | .ref a=>some (.ref a)
 | .type n=>some (.ty n)
 | _=>none
theorem QI.abs{x:V}{u:Value}(r:QI x u):absV u=some x:=by
 cases x with
 | non=>cases r;rfl
 | bl _=>cases r;rfl
 | int _=>obtain⟨t,rfl⟩:=r;rfl
 | str _=>obtain⟨t,rfl⟩:=r;rfl
 | byt _=>obtain⟨t,rfl⟩:=r;rfl
 | flt _=>obtain⟨t,rfl⟩:=r;rfl
 | ref _=>cases r;rfl
 | ty _=>cases r;rfl
theorem QI.inj{x y:V}{u:Value}(r:QI x u)(q:QI y u):x=y:=qR (r.abs.symm.trans q.abs)
theorem QF.inj:∀{xs ys:List V}{us:QvZ},QF xs us->QF ys us->xs=ys
 | _,_,_,.nil,.nil=>rfl
 | _,_,_,.cons r t,.cons r' t'=>by rw[r.inj r',QF.inj t t']
section
variable {X:Cx}{pins:List (Addr×Obj)}{σ:St}{H:Hp}{s:Shared}{a:Addr}{xs ys:List V}
theorem jH.of{K:Frag}(h:H a=some (.lst xs)):jH K H a xs:=.inl (.inl h)
theorem ye.of{K:Frag}(h:H a=some (.tup xs)):ye K H a xs:=.inl (.inl h)
theorem Inv.list(I:Inv X pins σ H s)(h:jH X.K H a xs):∃its:QvZ,QF xs its/\PlainL s.heap a its.toArray/\xs.length<=sizeLine:=by
 rcases h with h | ⟨o,its,n,hk,hc,hd,hs,hz,r⟩
 .obtain⟨z,its,n,r,e⟩:=h.ok I.hok
  exact⟨its,r,⟨_,n,e,rfl,rfl,rfl⟩,z⟩
 .refine⟨its.toList,r,⟨o,n,I.kIn a o hk,hc,hd,by simpa using hs⟩,?_⟩
  have e:=r.length
  simp only[zf] at e
  omega
theorem Inv.tuple(I:Inv X pins σ H s)(h:ye X.K H a xs):∃its:QvZ,QF xs its/\IsTup s.heap a its.toArray/\xs.length<=sizeLine:=by
 rcases h with h | ⟨o,its,n,hk,hc,hs,hz,r⟩
 .obtain⟨z,its,r,p⟩:=h.ok I.hok
  exact⟨its,r,p,z⟩
 .refine⟨its.toList,r,⟨o,I.kIn a o hk,hc,n,by simpa using hs⟩,?_⟩
  have e:=r.length
  simp only[zf] at e
  omega
theorem Inv.Qtq(I:Inv X pins σ H s)(h:jH X.K H a xs)(h':jH X.K H a ys):xs=ys:=by
 obtain⟨its,r,⟨o,n,e,_,_,d⟩,_⟩:=I.list h
 obtain⟨its',r',⟨o',n',e',_,_,d'⟩,_⟩:=I.list h'
 rw[e] at e';cases e'
 rw[d] at d'
 injection d' with d1 _
 have:its=its':=by simpa using jM Array.toList d1
 subst this
 exact r.inj r'
end
abbrev Cx.wish(X:Cx)(E:QvY):Cx:={ X with xe:=E }
abbrev Cx.nox(X:Cx):Cx:=X.wish fun _ _=>False
theorem Cx.Ok.wish{X:Cx}(ok:X.Ok)(E:QvY):(X.wish E).Ok :=
 ⟨ok.mod,ok.kind,ok.glob,ok.blt,ok.above,ok.inj,ok.has,ok.cab,ok.hd,ok.frames,ok.stk,ok.exf,ok.bs,ok.bsz,ok.Qrg,ok.Qrv,ok.Qno,ok.frf⟩
theorem Cx.Ok.QmF{X:Cx}{E:QvY}(ok:(X.wish E).Ok):X.Ok :=
 ⟨ok.mod,ok.kind,ok.glob,ok.blt,ok.above,ok.inj,ok.has,ok.cab,ok.hd,ok.frames,ok.stk,ok.exf,ok.bs,ok.bsz,ok.Qrg,ok.Qrv,ok.Qno,ok.frf⟩
section
variable {X:Cx}{pins:List (Addr×Obj)}{σ:St}{H:Hp}{s:Shared}{E:QvY}
theorem Inv.wish(I:Inv X pins σ H s)(E:QvY):Inv (X.wish E) pins σ H s:=⟨I.ok.wish E,I.os,I.bare,I.base,I.loc,I.cell,I.free,I.vz,I.pin,I.hok,I.len⟩
theorem Inv.QmF(I:Inv (X.wish E) pins σ H s):Inv X pins σ H s:=⟨I.ok.QmF,I.os,I.bare,I.base,I.loc,I.cell,I.free,I.vz,I.pin,I.hok,I.len⟩
theorem SP.QmF{D:Y7}{f:Flow}{s':Shared}(h:SP (X.wish E) pins D f s'):SP X pins D f s':=by
 cases f with
 | next=>obtain⟨σ',H',I,q⟩:=h;exact⟨σ',H',I.QmF,q⟩
 | brk=>obtain⟨σ',H',I,q⟩:=h;exact⟨σ',H',I.QmF,q⟩
 | cont=>obtain⟨σ',H',I,q⟩:=h;exact⟨σ',H',I.QmF,q⟩
 | ret u=>obtain⟨v,σ',H',I,r,q⟩:=h;exact⟨v,σ',H',I.QmF,r,q⟩
theorem PSs.nox{st:List Stmt}{t:TS}(h:PSs X.nox st t):PSs X st t:=fun pins s σ H D I hw =>
 yp (h pins s σ H D (I.wish _) hw) (fun _ _ q=>q.QmF) fun _ _ z=>False.elim z
end
section
variable {X:Cx}{st:Stmt}{rest:List Stmt}{t u:TS}{e:Expr}{te:TE}{pos:Pos}
def tNext:TS:=fun D σ H=>D.nx σ H
def Ye(t u:TS):TS:=fun D σ H=>t { D with nx:=u D } σ H
theorem QD:PSs X [] tNext:=fun _ _ σ H _ I h=>wpAny_execs_nil ⟨σ,H,I,h⟩
theorem Qd(h1:PS X st t)(h2:PSs X rest u):PSs X (st :: rest) (Ye t u):=by
 intro pins s σ H D I h
 refine wpAny_execs_cons (jO (h1 pins s σ H { D with nx:=u D } I h) fun f s1 q=>?_)
 cases f with
 | next =>
   obtain⟨σ',H',I',q⟩:=q
   exact h2 pins s1 σ' H' D I' q
 | ret v=>exact q
 | brk=>exact q
 | cont=>exact q
theorem Qf(h1:PS X st t):PSs X [st] t:=by
 intro pins s σ H D I h
 refine wpAny_execs_cons (jO (h1 pins s σ H D I h) fun f s1 q=>?_)
 cases f with
 | next=>exact wpAny_execs_nil q
 | ret v=>exact q
 | brk=>exact q
 | cont=>exact q
theorem Inv.quiet{pins:List (Addr×Obj)}{σ:St}{H:Hp}{s:Shared}(I:Inv X pins σ H s):interactive X.env=false:=by simp[interactive,I.ok.kind]
def tDrop(te:TE):TS:=fun D σ H=>te σ H fun _ H1=>D.nx σ H1
theorem Qs(he:PE X e te)(hs:swapsWith e none pos.line X.env=pure false:=by rfl):PS X (.Expr e pos) (tDrop te):=by
 intro pins s σ H D I h
 exact wpAny_Expr_any (jO (he pins s σ H _ I h) fun v s1 ⟨x,H1,I1,r1,q1⟩=>⟨σ,H1,I1,q1⟩) I.quiet hs
def tRet(te:TE):TS:=fun D σ H=>te σ H D.rt
theorem QJ(he:PE X e te):PS X (.Return (some e) pos) (tRet te):=by
 intro pins s σ H D I h
 exact wpAny_Return_some (jO (he pins s σ H _ I h) fun v s1 ⟨x,H1,I1,r1,q1⟩=>⟨x,σ,H1,I1,r1,q1⟩)
def tRetN:TS:=fun D _ H=>D.rt .non H
theorem Qe7:PS X (.Return none pos) tRetN:=fun _ _ σ H _ I h=>wpAny_Return_none ⟨.non,σ,H,I,rfl,h⟩
def Qt3(c:TT)(t u:TS):TS:=fun D σ H=>c σ H fun b H1=>if b=true then t D σ H1 else u D σ H1
theorem QZ{c:Expr}{a b:List Stmt}{tc:TT}(hc:PT X c tc)(ha:PSs X a t)(hb:PSs X b u):PS X (.If c a b pos) (Qt3 tc t u):=by
 intro pins s σ H D I h
 refine wpAny_If (jO (hc pins s σ H _ I h) fun d s1 ⟨H1,I1,q1⟩=>?_)
 cases d with
 | true=>exact ha pins s1 σ H1 D I1 q1
 | false=>exact hb pins s1 σ H1 D I1 q1
def Qhf:TS:=fun _ _ _=>False
theorem JX:PS X st Qhf:=fun _ _ _ _ _ _ h=>h.elim
theorem WR{sts:List Stmt}:PSs X sts Qhf:=fun _ _ _ _ _ _ h=>h.elim
end
abbrev TG:=V->St->Hp->(St->Hp->Prop)->Prop
abbrev TGs:=List V->St->Hp->(St->Hp->Prop)->Prop
def PG(X:Cx)(target:Expr)(t:TG):Prop :=
 ∀(pins:List (Addr×Obj))(s:Shared)(σ:St)(H:Hp)(v:V)(u:Value)(Q:St->Hp->Prop),Inv X pins σ H s->QI v u->t v σ H Q ->
  wpAny (model X.prog X.w) X.A (assign target X.env u) (fun _ s'=>∃σ' H',Inv X pins σ' H' s'/\Q σ' H') X.xe s
def PGs(X:Cx)(ts:List Expr)(t:TGs):Prop :=
 ∀(pins:List (Addr×Obj))(s:Shared)(σ:St)(H:Hp)(vs:List V)(us:QvZ)(Q:St->Hp->Prop),Inv X pins σ H s->QF vs us->t vs σ H Q ->
  wpAny (model X.prog X.w) X.A (assignInOrder ((assignEach ts X.env).map (·.2)) us) (fun _ s'=>∃σ' H',Inv X pins σ' H' s'/\Q σ' H') X.xe s
abbrev QvM:=V->V->V->Hp->(Hp->Prop)->Prop
def PSet(X:Cx)(t:QvM):Prop :=
 ∀(pins:List (Addr×Obj))(s:Shared)(σ:St)(H:Hp)(o i v:V)(ov iv u:Value)(Q:Hp->Prop),Inv X pins σ H s->QI o ov->QI i iv->QI v u->t o i v H Q ->
  wpAny (model X.prog X.w) X.A (setItem ov iv u) (fun _ s'=>∃H',Inv X pins σ H' s'/\Q H') X.xe s
section
variable {X:Cx}{pos:Pos}
def Gm(i:Nat):TG:=fun v σ H Q=>Q (σ.set i (some v)) H
theorem ZI{i:Nat}{x:Str}(hN:X.N.Nodup)(hi:X.N[i]?=some x)(hx:Loc X.env.scope x)(hf:X.fn x=true\/X.env.scope.names.lookup x=some .local:=by first | exact .inl rfl | exact .inr rfl | assumption):PG X (.Name x pos) (Gm i):=by
 intro pins s σ H v u Q I r h
 exact wpAny_assign_Name (Kc I hN hi hx r (fun s' I'=>⟨_,H,I',h⟩) hf)
def gNil:TGs:=fun vs σ H Q=>vs=[]/\Q σ H
def gCons(t:TG)(u:TGs):TGs:=fun vs σ H Q=>∃v r,vs=v :: r/\t v σ H fun σ' H'=>u r σ' H' Q
theorem Qe9:PGs X [] gNil:=by
 intro pins s σ H vs us Q I r h
 obtain⟨e,h⟩:=h
 subst e
 cases r
 exact assignInOrder_nil ⟨σ,H,I,h⟩
theorem Uf{e:Expr}{es:List Expr}{t:TG}{u:TGs}(h1:PG X e t)(h2:PGs X es u)
 (hs:(assignEach (e :: es) X.env).map (·.2)=assign e X.env :: (assignEach es X.env).map (·.2):=by rfl):PGs X (e :: es) (gCons t u):=by
 intro pins s σ H vs us Q I r h
 obtain⟨v,vr,e1,h⟩:=h
 subst e1
 cases r with
 | cons r rr =>
   rw[hs]
   refine assignInOrder_cons (jO (h1 pins s σ H _ _ _ I r h) fun _ s1 ⟨σ1,H1,I1,q1⟩=>?_)
   exact h2 pins s1 σ1 H1 _ _ Q I1 rr q1
def gTup(K:Frag)(n:Nat)(t:TGs):TG:=fun v σ H Q=>∃a xs,v=.ref a/\ye K H a xs/\xs.length=n/\t xs σ H Q
theorem Qh5{es:List Expr}{k:Nat}{t:TGs}{n:Nat}(hc:X.calm=true)(h:PGs X es t)
 (hn:(assignEach es X.env).length=n:=by rfl) (hst:(assignEach es X.env).findIdx? (·.1)=none:=by rfl):PG X (.Tuple es k pos) (gTup X.K n t):=by
 intro pins s σ H v u Q I r hw
 obtain⟨a,xs,e1,hq,hl,hw⟩:=hw
 subst e1
 cases r
 obtain⟨its,rv,ht,hz⟩:=I.tuple hq
 refine assign_Tuple_tuple (I.ok.hd hc) ht (by simp[hn,<-hl,rv.length]) hst fun h' hx=>?_
 have I1:Inv X pins σ H { s with heap:=h' }:=I.kept (t':=s.toks) fun b o e=>hx b o (qY (qM e)) e
 exact h pins _ σ H xs _ Q I1 (by simpa using rv) hw
def gSub(to ti:TE)(t:QvM):TG:=fun v σ H Q=>to σ H fun o H1=>ti σ H1 fun i H2=>t o i v H2 fun H3=>Q σ H3
theorem WV{o i:Expr}{to ti:TE}{t:QvM}(ho:PE X o to)(hi:PE X i ti)(hs:PSet X t)
 (ha:∀v,assign (.Subscript o i pos) X.env v=(do
   let ov <-holding [v] (eval o X.env)
   let iv <-holding [v,ov] (eval i X.env)
   standAt pos
   holding [v,ov,iv] (setItem ov iv v)
   release [v,ov,iv] []):=by intro _;rfl):PG X (.Subscript o i pos) (gSub to ti t):=by
 intro pins s σ H v u Q I r h
 rw[ha]
 refine qb (jk (jO (ho pins s σ H _ I h) fun ov s1 ⟨x,H1,I1,r1,q1⟩=>?_))
 refine qb (jk (jO (hi pins s1 σ H1 _ I1 q1) fun iv s2 ⟨y,H2,I2,r2,q2⟩=>?_))
 refine qb (wpAny_standAt (qb (jk (jO (hs pins s2 σ H2 x y v ov iv u _ I2 r1 r2 r q2) fun _ s3 ⟨H3,I3,q3⟩=>?_))))
 exact wpAny_release ⟨σ,H3,I3,q3⟩
def Qhl(te:TE)(g:TG):TS:=fun D σ H=>te σ H fun x H1=>g x σ H1 D.nx
theorem VP{tg e:Expr}{te:TE}{g:TG}(he:PE X e te)(hg:PG X tg g)(hs:swapsWithSole [tg] e pos.line X.env=pure false:=by rfl)(hw:swappedStores [tg] e X.env=pure none:=by rfl)
 (h1:(assignEach [tg] X.env).map (·.2)=[assign tg X.env]:=by rfl):PS X (.Assign [tg] e pos) (Qhl te g):=by
 intro pins s σ H D I h
 refine wpAny_Assign_stores (jO (he pins s σ H _ I h) fun v s1 ⟨x,H1,I1,r1,q1⟩=>?_) hs hw
 rw[h1]
 exact jO (hg pins s1 σ H1 x v _ I1 r1 q1) fun _ s2 ⟨σ2,H2,I2,q2⟩=>⟨σ2,H2,I2,q2⟩
theorem Qy{i:Nat}{x:Str}{e:Expr}{te:TE}{pos':Pos}(hN:X.N.Nodup)(hi:X.N[i]?=some x)(hx:Loc X.env.scope x)(he:PE X e te)(hs:swapsWith e (some (.Name x pos')) pos.line X.env=pure false:=by rfl)(hf:X.fn x=true\/X.env.scope.names.lookup x=some .local:=by first | exact .inl rfl | exact .inr rfl | assumption) :
 PS X (.Assign [.Name x pos'] e pos) (Qhl te (Gm i)):=by
 intro pins s σ H D I h
 refine wpAny_Assign_Name (jO (he pins s σ H _ I h) fun v s1 ⟨y,H1,I1,r1,q1⟩=>?_) hs
 exact Kc I1 hN hi hx r1 (fun s2 I2=>⟨_,H1,I2,q1⟩) hf
end
section
variable {X:Cx}{pos:Pos}
end
structure It where
 go:Nat->Hp->Prop
 yld:Nat->Hp->V->Hp->Prop
 stop:Nat->Hp->Prop
def Qdt(X:Cx)(pins:List (Addr×Obj))(H:Hp)(b:Addr):Prop :=
 H b=none/\b≠X.env.locals/\b∉X.fs/\(b∈X.ex\/X.s₀.heap.objs.size<=b)/\(∀x c,X.env.cells.lookup x=some c->c≠b)/\∀p∈X.pn++pins,p.1≠b
theorem Inv.Quo{X:Cx}{pins:List (Addr×Obj)}{σ:St}{H H':Hp}{s:Shared}{b:Addr}(I:Inv X pins σ H s)(hb:s.heap.objs.size<=b)(hn:H' b=none):Qdt X pins H' b:=by
 refine⟨hn,QpK (zm I.lt hb),I.nofs hb,.inr (zx I.sz hb),fun x c e z=>?_,fun p hp z=>?_⟩
 .obtain⟨v,q⟩:=I.cell x c e
  exact absurd (zm q.lt (by rw[z];exact hb)) (yh _)
 .exact absurd (zm (qM (I.pin p hp).1) (by rw[z];exact hb)) (yh _)
structure Qjy(P:Program)(w:World)(K:Frag)(tg:Expr)(J:It)(fp:List Addr)(it:Addr)(tn:Nat->Heap->Prop):Prop where
 mem:it∈fp
 obj:∀i h,tn i h->∀b∈fp,∃o,h.get? b=some o/\∀v,o.data≠.cell v
 keep:∀i h h',tn i h->(∀b∈fp,∀o,h.get? b=some o->h'.get? b=some o)->tn i h'
 item:∀(X:Cx),X.prog=P->X.w=w->X.K=K->X.calm=true->∀(i:Nat)(pins:List (Addr×Obj))(s:Shared)(σ:St)(H:Hp)(E:QvY),Inv X pins σ H s->(∀b∈fp,Qdt X pins H b)->tn i s.heap->J.go i H ->
  wpAny (model P w) X.A (pyNext (.ref it)) (fun r s1=>∃u,r=some u /\
   wpAny (model P w) X.A (letOwnedTupleGo tg (.ref it) u) (fun _ s2=>∃x H',Inv X pins σ H' s2/\QI x u/\J.yld i H x H'/\tn (i+1) s2.heap/\∀b∈fp,H' b=none) E s1) E s
 done:∀(X:Cx),X.prog=P->X.w=w->X.K=K->X.calm=true->∀(i:Nat)(pins:List (Addr×Obj))(s:Shared)(σ:St)(H:Hp)(E:QvY),Inv X pins σ H s->(∀b∈fp,Qdt X pins H b)->tn i s.heap->J.stop i H ->
  wpAny (model P w) X.A (pyNext (.ref it)) (fun r s1=>r=none/\Inv X pins σ H s1) E s
 self:∀(A:Around)(i:Nat)(s:Shared)(Q:QvY)(E:QvY),tn i s.heap->Q (.ref it) s->wpAny (model P w) A (pyIter (.ref it)) Q E s
abbrev TI:=St->Hp->(It->Hp->Prop)->Prop
def PIE(X:Cx)(pins:List (Addr×Obj))(σ:St)(tg:Expr)(R:It->Hp->Prop)(itv:Value)(s2:Shared):Prop :=
 ∃(it:Addr)(fp:List Addr)(tn:Nat->Heap->Prop)(J:It)(H':Hp),itv=.ref it/\Inv X pins σ H' s2/\Qjy X.prog X.w X.K tg J fp it tn/\tn 0 s2.heap/\(∀b∈fp,Qdt X pins H' b)/\R J H'
def PI(X:Cx)(tg iter:Expr)(wi:TI):Prop :=
 ∀(pins:List (Addr×Obj))(s:Shared)(σ:St)(H:Hp)(R:It->Hp->Prop),Inv X pins σ H s->wi σ H R ->
  wpAny (model X.prog X.w) X.A (eval iter X.env) (fun v s1=>wpAny (model X.prog X.w) X.A (pyIter v) (PIE X pins σ tg R) X.xe s1) X.xe s
theorem Qfw{M:Model}{A:Around}{E:QvY}{s:Shared}{tg:Expr}{it:Addr}{u:Value}{o:Obj}{n:String}{vs:Array Value}{Q:Unit->Shared->Prop}(ho:s.heap.get? it=some o)(hc:o.cls=.type n)(hd:o.data=.fields vs)
 (hn:["enumerate","zip","dict_itemiterator","dict_reverseitemiterator","odict_iterator","itertools.zip_longest","itertools.pairwise"].contains n=false) (hQ:Q () s):wpAny M A (letOwnedTupleGo tg (.ref it) u) Q E s:=by
 unfold letOwnedTupleGo
 cases tg <;> first
  | exact qj hQ
  | (cases u <;> first
      | exact qj hQ
      | (refine qb (wpAny_load ho ?_)
         rw[hc,hd]
         show wpAny M A (if (["enumerate","zip","dict_itemiterator","dict_reverseitemiterator","odict_iterator","itertools.zip_longest","itertools.pairwise"].contains n && vs[0]? == some (rawInt _))=true then _ else _) Q E s
         rw[qy (by intro h;rw[hn,Bool.false_and] at h;cases h)]
         exact qj hQ))
def Itl(K:Frag)(a:Addr):It :=
 ⟨fun i H=>∃xs x,jH K H a xs/\xs[i]?=some x,fun i H x H'=>H'=H/\∀xs,jH K H a xs->xs[i]?=some x,fun i H=>∃xs,jH K H a xs/\xs.length<=i⟩
def Itr(lo:Int)(n:Nat):It:=⟨fun i _=>i<n,fun i H x H'=>H'=H/\x=.int (lo+i),fun i _=>n<=i⟩
theorem QfW{P:Program}{w:World}{K:Frag}{tg:Expr}(a it:Addr):Qjy P w K tg (Itl K a) [it] it (fun i h=>h.IsListIter it a i) where
 mem:=by simp
 obj:=fun i h st b hb=>by
  have e:b=it:=by simpa using hb
  subst e
  obtain⟨o,e,c,d⟩:=st
  exact⟨o,e,fun v z=>by rw[d] at z;cases z⟩
 keep:=fun i h h' st k=>st.at fun o e=>k it (by simp) o e
 item:=by
  intro X hP hw hK hc i pins s σ H E I hf st hg
  subst hP hw hK
  obtain⟨xs,x,hq,hx⟩:=hg
  obtain⟨its,rv,p,hz⟩:=I.list hq
  obtain⟨u,hu,ru⟩:=rv.get hx
  obtain⟨f0,f1,f2,f3,f4,f5⟩:=hf it (by simp)
  refine wpAny_pyNext_list_item st p.isList (x:=u) (by simpa using hu) fun h' st' sb=>?_
  have I1:Inv X pins σ H { s with heap:=h' }:=I.turned (t':=s.toks) (fun b o hb e=>(sb.2 b hb).trans e) f0 f1 f3 f4 f5
  obtain⟨o,e,c,d⟩:=id st'
  exact⟨u,rfl,Qfw (s:={ s with heap:=h' }) e c d (by decide) ⟨x,H,I1,ru,⟨rfl,fun ys hy=>by rw[I.Qtq hy hq];exact hx⟩,st',fun b hb=>(hf b hb).1⟩⟩
 done:=by
  intro X hP hw hK hc i pins s σ H E I hf st hg
  subst hP hw hK
  obtain⟨xs,hq,hx⟩:=hg
  obtain⟨its,rv,p,hz⟩:=I.list hq
  obtain⟨f0,f1,f2,f3,f4,f5⟩:=hf it (by simp)
  have hl:=rv.length
  exact wpAny_pyNext_list_end (I.ok.hd hc) st p.isList (by simp;omega) fun h' eb=>⟨rfl,I.turned (t':=s.toks) (fun b o hb e=>eb b o hb e) f0 f1 f3 f4 f5⟩
 self:=fun _ _ _ _ _ st h=>wpAny_pyIter_listiter st h
theorem Qdw{P:Program}{w:World}{K:Frag}{tg:Expr}(it:Addr)(lo:Int)(n:Nat):Qjy P w K tg (Itr lo n) [it] it (fun i h=>IsRangeIter h it (lo+(i:Nat)*1) ((n:Int) - (i:Nat)) 1) where
 mem:=by simp
 obj:=fun i h st b hb=>by
  have e:b=it:=by simpa using hb
  subst e
  exact⟨_,st,fun v z=>by
   have z':Data.fields _=Data.cell v:=z
   cases z'⟩
 keep:=fun i h h' st k=>k it (by simp) _ st
 item:=by
  intro X hP hw hK hc i pins s σ H E I hf st hg
  subst hP hw hK
  obtain⟨f0,f1,f2,f3,f4,f5⟩:=hf it (by simp)
  have W:=Walks.range (prog:=X.prog) (w:=X.w) (I.ok.hd hc) it lo 1 n
  refine W.item i s _ _ hg st fun v h' tk hv st' kk=>?_
  obtain⟨t,rfl⟩:=hv
  have I1:Inv X pins σ H { s with heap:=h',toks:=tk }:=I.turned (fun b o hb e=>kk b o (by simpa using hb) e) f0 f1 f3 f4 f5
  refine⟨_,rfl,Qfw (s:={ s with heap:=h',toks:=tk }) (n:="range_iterator") st' rfl rfl (by decide) ⟨.int (lo+i),H,I1,⟨t,?_⟩,⟨rfl,rfl⟩,st',fun b hb=>(hf b hb).1⟩⟩
  rw[Int.mul_one]
 done:=by
  intro X hP hw hK hc i pins s σ H E I hf st hg
  subst hP hw hK
  obtain⟨f0,f1,f2,f3,f4,f5⟩:=hf it (by simp)
  exact wpAny_pyNext_range_end (I.ok.hd hc) st (by have:n<=i:=hg;omega) fun h' eb=>⟨rfl,I.turned (t':=s.toks) (fun b o hb e=>eb b o hb e) f0 f1 f3 f4 f5⟩
 self:=fun _ _ _ _ _ st h=>wpAny_pyIter_rangeiter st h
end L2
namespace L2
open PySem PySem.Spec PyProof.Rows
section
variable {X:Cx}{tg:Expr}
inductive Qft(K:Frag)(R:(It->Hp->Prop))(x:V)(H1:Hp):Prop
 | mk:∀a,x=.ref a->(∃xs,jH K H1 a xs)->R (Itl K a) H1->Qft K R x H1
def iList(K:Frag)(tl:TE):TI:=fun σ H R=>tl σ H fun x H1=>Qft K R x H1
theorem Yn{l:Expr}{tl:TE}(hl:PE X l tl):PI X tg l (iList X.K tl):=by
 intro pins s σ H R I h
 refine jO (hl pins s σ H _ I h) fun v s1 ⟨x,H1,I1,r1,q1⟩=>?_
 obtain⟨a,e,⟨xs,hq⟩,q⟩:=q1
 subst e
 cases r1
 obtain⟨its,rv,p,hz⟩:=I1.list hq
 refine wpAny_pyIter_list p.isList ?_
 refine⟨s1.heap.objs.size,[s1.heap.objs.size],_,_,H1,rfl,I1.kept (t':=s1.toks) fun b o e=>qm _ e,QfW a _,⟨_,qH _ rfl,rfl,rfl⟩,fun b hb=>?_,q⟩
 have e:b=s1.heap.objs.size:=by simpa using hb
 subst e
 exact I1.Quo (qt _) (I1.hok.fresh (qt _))
theorem QhK{pins:List (Addr×Obj)}{σ:St}{H:Hp}{s:Shared}{R:It->Hp->Prop}{E:QvY}{lo hi:Int}{t u v:Tok}{tk:Nat}(I:Inv X pins σ H s)(h1 : -(2 ^ 62)<=lo)(h2:lo<2 ^ 62)(h3 : -(2 ^ 62)<=hi)(h4:hi<2 ^ 62)
 (q:R (Itr lo (hi - lo).toNat) H):wpAny (model X.prog X.w) X.A (pyIter (.ref s.heap.objs.size)) (PIE X pins σ tg R) E { s with heap:=s.heap.push { cls:=.type "range",data:=.fields #[.int lo t,.int hi u,.int 1 v] },toks:=tk }:=by
 refine wpAny_pyIter_range (IsRange.new ..) (small_one h1 h2 h3 h4) ?_
 have I1:Inv X pins σ H { s with heap:=s.heap.push { cls:=.type "range",data:=.fields #[.int lo t,.int hi u,.int 1 v] },toks:=tk }:=I.kept fun b o e=>qm _ e
 refine⟨(s.heap.push { cls:=.type "range",data:=.fields #[.int lo t,.int hi u,.int 1 v] }).objs.size,[(s.heap.push { cls:=.type "range",data:=.fields #[.int lo t,.int hi u,.int 1 v] }).objs.size],_,_,H,rfl,
  I1.kept (t':=tk) fun b o e=>qm _ e,Qdw _ lo (hi - lo).toNat,?_,fun b hb=>?_,q⟩
 .have e1:lo+((0:Nat):Int)*1=lo:=by simp
  have e2:(((hi - lo).toNat:Nat):Int) - ((0:Nat):Int)=Builtin.Range.rangeSize lo hi 1:=by rw[rangeSize_one];split <;> omega
  show IsRangeIter _ _ (lo+((0:Nat):Int)*1) ((((hi - lo).toNat:Nat):Int) - ((0:Nat):Int)) 1
  rw[e1,e2]
  exact qH _ rfl
 .have e:b=(s.heap.push { cls:=.type "range",data:=.fields #[.int lo t,.int hi u,.int 1 v] }).objs.size:=by simpa using hb
  subst e
  exact I1.Quo (qt _) (I1.hok.fresh (qt _))
inductive Qfs(R:(It->Hp->Prop))(vs:List V)(H1:Hp):Prop
 | mk:∀j:Int,vs=[.int j]->-(2 ^ 62)<=j->j<2 ^ 62->R (Itr 0 j.toNat) H1->Qfs R vs H1
def iRng1(ta:TA):TI:=fun σ H R=>ta σ H fun vs H1=>Qfs R vs H1
theorem WU{a:Expr}{ta:TA}{p pos:Pos}(hg:Gl X "range")(hm:X.mg "range"=none)(ha:PA X [a] ta)(hs:starEach [a] X.env=[(false,eval a X.env)]:=by rfl):PI X tg (.Call (.Name "range" p) [a] [] pos) (iRng1 ta):=by
 intro pins s σ H R I h
 refine Call_ (QbB I hg hm boot_range (PyProof.Rows.callWith_type1 (jO (ha pos pins s σ H _ I h) fun us s1 ⟨vs,H1,I1,r1,q1⟩=>?_) hs rfl))
 obtain⟨j,e,q1,q2,q⟩:=q1
 subst e
 cases r1 with
 | cons r rr =>
   cases rr
   obtain⟨t,rfl⟩:=r
   exact call_range_1 (QhK I1 (by omega) (by omega) q1 q2 (by simpa using q))
inductive Qa7(g:TG)(tb:TS)(D:Y7)(σ:St)(J:It)(H1:Hp):Prop
 | mk:∀W:Nat->Nat->St->Hp->Prop,(∃m,W 0 m σ H1)->(∀i m σ H,W i m σ H->(J.stop i H/\D.nx σ H)\/(J.go i H/\∃N:St->Hp->Prop,(∀σ' H',N σ' H'->∃m',m'<m/\W (i+1) m' σ' H')/\∀x H',J.yld i H x H'->g x σ H' fun σ2 H2=>tb { D with nx:=N,ct:=N,bk:=D.nx } σ2 H2))->Qa7 g tb D σ J H1
def tFor(wi:TI)(g:TG)(tb:TS):TS:=fun D σ H=>wi σ H fun J H1=>Qa7 g tb D σ J H1
def WS(fp:List Addr)(h:Heap):List (Addr×Obj):=fp.filterMap fun b=>(h.get? b).map fun o=>(b,o)
theorem UB{fp:List Addr}{h:Heap}{b:Addr}{o:Obj}(hb:b∈fp)(e:h.get? b=some o):(b,o)∈WS fp h:=QnJ.mpr ⟨b,hb,by rw[e];rfl⟩
theorem Qgo{fp:List Addr}{h:Heap}{p:Addr×Obj}(hp:p∈WS fp h):p.1∈fp/\h.get? p.1=some p.2:=by
 obtain⟨b,hb,e⟩:=QnJ.mp hp
 cases q:h.get? b with
 | none=>rw[q] at e;cases e
 | some o =>
   rw[q] at e
   have e':(b,o)=p:=qR e
   subst e'
   exact⟨hb,q⟩
theorem Inv.pinned{pins:List (Addr×Obj)}{σ:St}{H:Hp}{s:Shared}{fp:List Addr}(I:Inv X pins σ H s)(hf:∀b∈fp,Qdt X pins H b)(ho:∀b∈fp,∃o,s.heap.get? b=some o/\∀v,o.data≠.cell v):Inv X (pins++WS fp s.heap) σ H s :=
 I.Qsm fun p hp=>(qx.mp hp).elim (fun z=>I.pin p (qC _ z)) fun z=>by
  obtain⟨hb,e⟩:=Qgo z
  obtain⟨f0,f1,f2,_⟩:=hf p.1 hb
  obtain⟨o,e',d⟩:=ho p.1 hb
  rw[e] at e';cases e'
  exact⟨e,f0,f1,f2,d⟩
theorem Inv.QnO{pins pl:List (Addr×Obj)}{σ:St}{H:Hp}{s:Shared}(I:Inv X (pins++pl) σ H s):Inv X pins σ H s:=I.Qsm fun p hp=>I.pin p (qC _ (qN _ hp))
theorem Uz{iter:Expr}{body:List Stmt}{wi:TI}{g:TG}{tb:TS}{pos:Pos}(hp:PassesOwn (model X.prog X.w) X.A X.env X.xe)(hc:X.calm=true)(hi:PI X tg iter wi)(hg:PG X tg g)(hb:PSs X body tb)
 (hs:∀x,foldedSetIterable iter X.env x=pure x:=by intro _;rfl):PS X (.For tg iter body [] pos) (tFor wi g tb):=by
 intro pins s σ H D I h
 refine wpAny_For (jO (hi pins s σ H _ I h) fun v s1 h1=>jO h1 fun itv s2 h2=>?_) hs
 obtain⟨it,fp,tn,J,H2,e,I2,T,st2,f2,W,⟨m0,w0⟩,turn⟩:=h2
 subst e
 have stat:∀{H':Hp},(∀b∈fp,H' b=none)->∀b∈fp,Qdt X pins H' b:=fun hn b hb=>⟨hn b hb,(f2 b hb).2⟩
 refine codeAny_forLoop_any (fun n s'=>∃i σ' H',Inv X pins σ' H' s'/\tn i s'.heap/\(∀b∈fp,H' b=none)/\W i n σ' H') ?_ m0 ⟨0,σ,H2,I2,st2,fun b hb=>(f2 b hb).1,w0⟩
 rintro n s3 ⟨i,σ3,H3,I3,st3,fr3,w3⟩
 rcases turn i n σ3 H3 w3 with⟨stop,qn⟩ | ⟨go,N,hN,step⟩
 .refine Qn5 hp (jO (T.done X rfl rfl rfl hc i pins s3 σ3 H3 X.xe I3 (stat fr3) st3 stop) fun r s4 ⟨hr,I4⟩=>?_)
  subst hr
  exact wpAny_execs_nil ⟨σ3,H3,I4,qn⟩
 .refine Qn5 hp (jO (T.item X rfl rfl rfl hc i pins s3 σ3 H3 X.xe I3 (stat fr3) st3 go) fun r s4 ⟨u,hr,h4⟩=>?_)
  subst hr
  refine Qn5 hp (jO h4 fun _ s5 ⟨x,H5,I5,r5,y5,st5,fr5⟩=>?_)
  have I5':=I5.pinned (stat fr5) (T.obj _ _ st5)
  refine Qn5 hp (jO (hg _ s5 σ3 H5 x u _ I5' r5 (step x H5 y5)) fun _ s6 ⟨σ6,H6,I6,q6⟩=>?_)
  refine Qn5 hp (jO (hb _ s6 σ6 H6 _ I6 q6) fun f s7 q7=>?_)
  have again:∀{σ7:St}{H7:Hp},Inv X (pins++WS fp s5.heap) σ7 H7 s7->N σ7 H7->∃m,m<n/\∃i σ' H',Inv X pins σ' H' s7/\tn i s7.heap/\(∀b∈fp,H' b=none)/\W i m σ' H':=fun{σ7 H7} I7 n7=>by
   obtain⟨m',hm,w7⟩:=hN σ7 H7 n7
   refine⟨m',hm,i+1,σ7,H7,I7.QnO,T.keep _ _ _ st5 fun b hb o e=>(I7.pin (b,o) (qC _ (qC _ (UB hb e)))).1,fun b hb=>?_,w7⟩
   obtain⟨o,e,d⟩:=T.obj _ _ st5 b hb
   exact(I7.pin (b,o) (qC _ (qC _ (UB hb e)))).2.1
  cases f with
  | next=>obtain⟨σ7,H7,I7,n7⟩:=q7;exact again I7 n7
  | cont=>obtain⟨σ7,H7,I7,n7⟩:=q7;exact again I7 n7
  | brk=>obtain⟨σ7,H7,I7,q7⟩:=q7;exact⟨σ7,H7,I7.QnO,q7⟩
  | ret v=>obtain⟨x7,σ7,H7,I7,r7,q7⟩:=q7;exact⟨x7,σ7,H7,I7.QnO,r7,q7⟩
end
theorem YI{K:Frag}{a:Addr}{xs:List V}{g:TG}{tb:TS}{D:Y7}{σ:St}{H:Hp}(Pv:Nat->St->Hp->Prop)(h0:Pv 0 σ H)(hl:∀i σ H,i<=xs.length->Pv i σ H->jH K H a xs)
 (hs:∀i x σ H,xs[i]?=some x->Pv i σ H->g x σ H fun σ2 H2=>tb { D with nx:=Pv (i+1),ct:=Pv (i+1),bk:=D.nx } σ2 H2) (hd:∀σ H,Pv xs.length σ H->D.nx σ H) :
 Qa7 g tb D σ (Itl K a) H:=by
 refine⟨fun i m σ H=>m=xs.length - i/\i<=xs.length/\Pv i σ H,⟨xs.length,by simp,zK _,h0⟩,?_⟩
 rintro i m σ H ⟨rfl,hi,p⟩
 have q:=hl i σ H hi p
 by_cases hlt:i<xs.length
 .refine .inr ⟨⟨xs,xs[i],q,by simp[hlt]⟩,Pv (i+1),fun σ' H' p'=>⟨xs.length - (i+1),by omega,rfl,hlt,p'⟩,fun x H' y=>?_⟩
  obtain⟨e,y⟩:=y
  subst e
  exact hs i x σ _ (y xs q) p
 .have e:i=xs.length:=by omega
  subst e
  exact .inl ⟨⟨xs,q,qt _⟩,hd σ H p⟩
theorem QaW{lo:Int}{n:Nat}{g:TG}{tb:TS}{D:Y7}{σ:St}{H:Hp}(Pv:Nat->St->Hp->Prop)(h0:Pv 0 σ H)
 (hs:∀i σ H,i<n->Pv i σ H->g (.int (lo+i)) σ H fun σ2 H2=>tb { D with nx:=Pv (i+1),ct:=Pv (i+1),bk:=D.nx } σ2 H2) (hd:∀σ H,Pv n σ H->D.nx σ H) :
 Qa7 g tb D σ (Itr lo n) H:=by
 refine⟨fun i m σ H=>m=n - i/\i<=n/\Pv i σ H,⟨n,by simp,zK _,h0⟩,?_⟩
 rintro i m σ H ⟨rfl,hi,p⟩
 by_cases hlt:i<n
 .refine .inr ⟨hlt,Pv (i+1),fun σ' H' p'=>⟨n - (i+1),by omega,rfl,hlt,p'⟩,fun x H' y=>?_⟩
  obtain⟨e,y⟩:=y
  subst e y
  exact hs i σ _ hlt p
 .have e:i=n:=by omega
  subst e
  exact .inl ⟨qt _,hd σ H p⟩
end L2
namespace L2
open PySem PySem.Spec PyProof.Rows
abbrev R2:=V->V->Hp->VK->Prop
def OpR(X:Cx)(f:Value->Value->Sem Value)(r:R2):Prop :=
 ∀(pins:List (Addr×Obj))(s:Shared)(σ:St)(H:Hp)(x y:V)(v u:Value)(Q:VK),Inv X pins σ H s->QI x v->QI y u->r x y H Q ->
  wpAny (model X.prog X.w) X.A (f v u) (EP X pins σ Q) X.xe s
def UnR(X:Cx)(f:Value->Sem Value)(r:V->Hp->VK->Prop):Prop :=
 ∀(pins:List (Addr×Obj))(s:Shared)(σ:St)(H:Hp)(x:V)(v:Value)(Q:VK),Inv X pins σ H s->QI x v->r x H Q ->
  wpAny (model X.prog X.w) X.A (f v) (EP X pins σ Q) X.xe s
def JD(X:Cx)(f:Value)(r:List V->Hp->VK->Prop):Prop :=
 ∀(pins:List (Addr×Obj))(s:Shared)(σ:St)(H:Hp)(xs:List V)(us:QvZ)(Q:VK),Inv X pins σ H s->QF xs us->r xs H Q ->
  wpAny (model X.prog X.w) X.A (call f us) (EP X pins σ Q) X.xe s
def TruR(X:Cx)(r:V->Hp->(Bool->Hp->Prop)->Prop):Prop :=
 ∀(pins:List (Addr×Obj))(s:Shared)(σ:St)(H:Hp)(x:V)(v:Value)(Q:Bool->Hp->Prop),Inv X pins σ H s->QI x v->r x H Q ->
  wpAny (model X.prog X.w) X.A (truthy v) (TP X pins σ Q) X.xe s
def tOp(r:R2)(ta tb:TE):TE:=fun σ H Q=>ta σ H fun x H1=>tb σ H1 fun y H2=>r x y H2 Q
def tUn(r:V->Hp->VK->Prop)(ta:TE):TE:=fun σ H Q=>ta σ H fun x H1=>r x H1 Q
inductive rI_I(C:Int->Int->Prop)(g:Int->Int->V)(x:V)(y:V)(H:Hp)(Q:VK):Prop
 | mk:∀i j,x=.int i->y=.int j->C i j->Q (g i j) H->rI_I C g x y H Q
def rI(C:Int->Int->Prop)(g:Int->Int->V):R2:=fun x y H Q=>rI_I C g x y H Q
inductive Qk7(g:Int->Int->V)(x:V)(y:V)(H:Hp)(Q:VK):Prop
 | mk:∀i j,x=.int i->y=.int j->Q (g i j) H->Qk7 g x y H Q
def rI0(g:Int->Int->V):R2:=fun x y H Q=>Qk7 g x y H Q
inductive rU_I(g:Int->V)(x:V)(H:Hp)(Q:VK):Prop
 | mk:∀i,x=.int i->Q (g i) H->rU_I g x H Q
def rU(g:Int->V):V->Hp->VK->Prop:=fun x H Q=>rU_I g x H Q
section
variable {X:Cx}{a b c:Expr}{ta tb tc:TE}{pos:Pos}
theorem QvG(ha:PE X a ta)(hb:PE X b tb){pins:List (Addr×Obj)}{s:Shared}{σ:St}{H:Hp}{R:V->V->Hp->Prop}(I:Inv X pins σ H s)
 (h:ta σ H fun x H1=>tb σ H1 fun y H2=>R x y H2) {Q:QvY} {f:Value->Value->Sem Value}
 (hf:∀v u s2 x y H2,Inv X pins σ H2 s2->QI x v->QI y u->R x y H2->wpAny (model X.prog X.w) X.A (f v u) Q X.xe s2) :
 wpAny (model X.prog X.w) X.A (eval a X.env) (fun v s₁=>wpAny (model X.prog X.w) X.A (eval b X.env) (fun u s₂=>wpAny (model X.prog X.w) X.A (f v u) Q X.xe s₂) X.xe s₁) X.xe s:=by
 refine jO (ha pins s σ H _ I h) fun v s1 ⟨x,H1,I1,r1,q1⟩=>?_
 refine jO (hb pins s1 σ H1 _ I1 q1) fun u s2 ⟨y,H2,I2,r2,q2⟩=>?_
 exact hf v u s2 x y H2 I2 r1 r2 q2
theorem QP{op:Operator}{r:R2}(ho:OpR X (binaryOp op) r)(ha:PE X a ta)(hb:PE X b tb):PE X (.BinOp a op b pos) (tOp r ta tb):=by
 intro pins s σ H Q I h
 exact wpAny_BinOp (QvG ha hb I h fun v u s2 x y H2 I2 rx ry q=>ho pins s2 σ H2 x y v u Q I2 rx ry q)
theorem Qk9{op:UnaryOp}{r:V->Hp->VK->Prop}(ho:UnR X (unaryOp op) r)(ha:PE X a ta):PE X (.UnaryOp op a pos) (tUn r ta):=by
 intro pins s σ H Q I h
 exact UnaryOp_ (jO (ha pins s σ H _ I h) fun v s1 ⟨x,H1,I1,r1,q1⟩=>ho pins s1 σ H1 x v Q I1 r1 q1)
theorem opI{f:Value->Value->Sem Value}{C:Int->Int->Prop}{g:Int->Int->Int}
 (rule:∀(i j:Int)(t u:Tok)(s:Shared)(Q:QvY)(E:QvY),C i j->Q (.int (g i j) s.toks) { s with toks:=s.toks+1 }->wpAny (model X.prog X.w) X.A (f (.int i t) (.int j u)) Q E s) :
 OpR X f (rI C fun i j=>.int (g i j)):=by
 intro pins s σ H x y v u Q I rx ry h
 obtain⟨i,j,rfl,rfl,hc,q⟩:=h
 obtain⟨t,rfl⟩:=rx
 obtain⟨t',rfl⟩:=ry
 exact rule i j t t' s _ _ hc ⟨.int (g i j),H,I.tok _,⟨_,rfl⟩,q⟩
theorem opI0{f:Value->Value->Sem Value}{g:Int->Int->Int}
 (rule:∀(i j:Int)(t u:Tok)(s:Shared)(Q:QvY)(E:QvY),Q (.int (g i j) s.toks) { s with toks:=s.toks+1 }->wpAny (model X.prog X.w) X.A (f (.int i t) (.int j u)) Q E s) :
 OpR X f (rI0 fun i j=>.int (g i j)):=by
 intro pins s σ H x y v u Q I rx ry h
 obtain⟨i,j,rfl,rfl,q⟩:=h
 obtain⟨t,rfl⟩:=rx
 obtain⟨t',rfl⟩:=ry
 exact rule i j t t' s _ _ ⟨.int (g i j),H,I.tok _,⟨_,rfl⟩,q⟩
theorem Qvi{f:Value->Value->Sem Value}{g:Int->Int->Bool}
 (rule:∀(i j:Int)(t u:Tok)(s:Shared)(Q:QvY)(E:QvY),Q (.bool (g i j)) s->wpAny (model X.prog X.w) X.A (f (.int i t) (.int j u)) Q E s) :
 OpR X f (rI0 fun i j=>.bl (g i j)):=by
 intro pins s σ H x y v u Q I rx ry h
 obtain⟨i,j,rfl,rfl,q⟩:=h
 obtain⟨t,rfl⟩:=rx
 obtain⟨t',rfl⟩:=ry
 exact rule i j t t' s _ _ ⟨.bl (g i j),H,I,rfl,q⟩
def CDiv(i j:Int):Prop:=0<j/\j<1073741824
def QvW(i j:Int):Prop:=(-(2 ^ 64)<i/\i<2 ^ 64)\/(-(2 ^ 64)<j/\j<2 ^ 64)
theorem QvW.ok{i j:Int}(h:QvW i j):IntMulOk i j:=by
 rcases h with⟨h1,h2⟩ | ⟨h1,h2⟩
 .exact .of_left (intBits_le_64 h1 h2)
 .exact .of_right (intBits_le_64 h1 h2)
theorem Jx:OpR X (binaryOp .Add) (rI0 fun i j=>.int (i+j)):=opI0 fun _ _ _ _ _ _ _ q=>add_int q
theorem Qh9:OpR X (binaryOp .Mult) (rI QvW fun i j=>.int (i*j)):=opI fun _ _ _ _ _ _ _ hc q=>mul_int q hc.ok
theorem Qkm:OpR X (binaryOp .FloorDiv) (rI CDiv fun i j=>.int (i / j)):=opI fun i j _ _ _ _ _ hc q=>by
 have h1:(0:Int)<j:=hc.1
 have h2:j<1073741824:=hc.2
 exact floordiv_int (by omega) (by rw[Int.fdiv_eq_ediv_of_nonneg i (by omega)];exact q) (.inl (PyProof.noPylong_small (by omega)))
theorem Zh:OpR X (binaryOp .Mod) (rI (fun _ j=>0<j) fun i j=>.int (i % j)):=opI fun i j _ _ _ _ _ hc q=>by
 have h1:(0:Int)<j:=hc
 exact mod_int' (by omega) (by rw[Int.fmod_eq_emod_of_nonneg i (by omega)];exact q)
theorem unI{f:Value->Sem Value}{g:Int->Int}
 (rule:∀(i:Int)(t:Tok)(s:Shared)(Q:QvY)(E:QvY),Q (.int (g i) s.toks) { s with toks:=s.toks+1 }->wpAny (model X.prog X.w) X.A (f (.int i t)) Q E s) :
 UnR X f (rU fun i=>.int (g i)):=by
 intro pins s σ H x v Q I rx h
 obtain⟨i,rfl,q⟩:=h
 obtain⟨t,rfl⟩:=rx
 exact rule i t s _ _ ⟨.int (g i),H,I.tok _,⟨_,rfl⟩,q⟩
theorem Qha:UnR X (unaryOp .USub) (rU fun i=>.int (-i)):=unI fun _ _ _ _ _ q=>neg_int q
end
def scal:V->V->Bool
 | .non,.non=>true | .non,.int _=>true | .int _,.non=>true | .non,.bl _=>true | .bl _,.non=>true | .non,.str _=>true | .str _,.non=>true
 | .int _,.int _=>true | .bl _,.bl _=>true | .str _,.str _=>true | .byt _,.byt _=>true
 | .int _,.str _=>true | .str _,.int _=>true | .bl _,.str _=>true | .str _,.bl _=>true
 | _,_=>false
def rEq:R2:=fun x y H Q=>scal x y=true/\Q (.bl (decide (x=y))) H
def rNe:R2:=fun x y H Q=>scal x y=true/\Q (.bl (!decide (x=y))) H
theorem QfF{i j:Int}:decide (V.int i=V.int j)=(i == j):=by
 rw[gP]
 simp
theorem Qjk{i j:Bool}:decide (V.bl i=V.bl j)=(i == j):=by
 rw[gP]
 simp
theorem QbG{i j:Str}:decide (V.str i=V.str j)=(i == j):=by
 rw[gP]
 simp
theorem QfG{i j:Array UInt8}:decide (V.byt i=V.byt j)=(i.toList == j.toList):=by
 rw[gP]
 cases i
 cases j
 simp
section
variable {X:Cx}{a b c:Expr}{ta tb tc:TE}{pos:Pos}
theorem Q0{pins:List (Addr×Obj)}{σ:St}{H:Hp}{s:Shared}{Q:VK}{k k':Bool}(I:Inv X pins σ H s)(q:Q (.bl k) H)(e:k=k'):EP X pins σ Q (.bool k') s:=by
 subst e
 exact⟨.bl k,H,I,rfl,q⟩
theorem Yb:OpR X (compareOp .Eq) rEq:=by
 intro pins s σ H x y v u Q I rx ry h
 obtain⟨hs,q⟩:=h
 cases x with
 | non =>
   cases rx
   cases y with
   | non=>cases ry;exact PySem.EqNone.eq_none_none (Q0 I q (by simp))
   | bl j=>cases ry;exact PySem.EqNone.eq_none_bool (Q0 I q (by simp))
   | int j=>obtain⟨t',rfl⟩:=ry;exact PySem.EqNone.eq_none_int (Q0 I q (by simp))
   | str j=>obtain⟨t',rfl⟩:=ry;exact PySem.EqNone.eq_none_str (Q0 I q (by simp))
   | _=>exact absurd (show false=true from hs) qJ
 | bl i =>
   cases rx
   cases y with
   | non=>cases ry;exact PySem.EqNone.eq_bool_none (Q0 I q (by simp))
   | bl j=>cases ry;exact eq_bool (Q0 I q Qjk)
   | str j=>obtain⟨t',rfl⟩:=ry;exact PySem.EqMixed.eq_bool_str (Q0 I q (by simp))
   | _=>exact absurd (show false=true from hs) qJ
 | int i =>
   obtain⟨t,rfl⟩:=rx
   cases y with
   | non=>cases ry;exact PySem.EqNone.eq_int_none (Q0 I q (by simp))
   | int j=>obtain⟨t',rfl⟩:=ry;exact eq_int (Q0 I q QfF)
   | str j=>obtain⟨t',rfl⟩:=ry;exact PySem.EqMixed.eq_int_str (Q0 I q (by simp))
   | _=>exact absurd (show false=true from hs) qJ
 | str i =>
   obtain⟨t,rfl⟩:=rx
   cases y with
   | non=>cases ry;exact PySem.EqNone.eq_str_none (Q0 I q (by simp))
   | bl j=>cases ry;exact PySem.EqMixed.eq_str_bool (Q0 I q (by simp))
   | int j=>obtain⟨t',rfl⟩:=ry;exact PySem.EqMixed.eq_str_int (Q0 I q (by simp))
   | str j=>obtain⟨t',rfl⟩:=ry;exact eq_str (Q0 I q QbG)
   | _=>exact absurd (show false=true from hs) qJ
 | byt i =>
   obtain⟨t,rfl⟩:=rx
   cases y with
   | byt j=>obtain⟨t',rfl⟩:=ry;exact PySem.W.eq_bytes (Q0 I q QfG)
   | _=>exact absurd (show false=true from hs) qJ
 | _=>cases y <;> exact absurd (show false=true from hs) qJ
theorem Qfc:OpR X (compareOp .NotEq) rNe:=by
 intro pins s σ H x y v u Q I rx ry h
 obtain⟨hs,q⟩:=h
 cases x with
 | non =>
   cases rx
   cases y with
   | non=>cases ry;exact PySem.EqNone.ne_none_none (Q0 I q (by simp))
   | bl j=>cases ry;exact PySem.EqNone.ne_none_bool (Q0 I q (by simp))
   | int j=>obtain⟨t',rfl⟩:=ry;exact PySem.EqNone.ne_none_int (Q0 I q (by simp))
   | str j=>obtain⟨t',rfl⟩:=ry;exact PySem.EqNone.ne_none_str (Q0 I q (by simp))
   | _=>exact absurd (show false=true from hs) qJ
 | bl i =>
   cases rx
   cases y with
   | non=>cases ry;exact PySem.EqNone.ne_bool_none (Q0 I q (by simp))
   | bl j=>cases ry;exact ne_bool (Q0 I q (jM not Qjk))
   | str j=>obtain⟨t',rfl⟩:=ry;exact PySem.EqMixed.ne_bool_str (Q0 I q (by simp))
   | _=>exact absurd (show false=true from hs) qJ
 | int i =>
   obtain⟨t,rfl⟩:=rx
   cases y with
   | non=>cases ry;exact PySem.EqNone.ne_int_none (Q0 I q (by simp))
   | int j=>obtain⟨t',rfl⟩:=ry;exact ne_int (Q0 I q (jM not QfF))
   | str j=>obtain⟨t',rfl⟩:=ry;exact PySem.EqMixed.ne_int_str (Q0 I q (by simp))
   | _=>exact absurd (show false=true from hs) qJ
 | str i =>
   obtain⟨t,rfl⟩:=rx
   cases y with
   | non=>cases ry;exact PySem.EqNone.ne_str_none (Q0 I q (by simp))
   | bl j=>cases ry;exact PySem.EqMixed.ne_str_bool (Q0 I q (by simp))
   | int j=>obtain⟨t',rfl⟩:=ry;exact PySem.EqMixed.ne_str_int (Q0 I q (by simp))
   | str j=>obtain⟨t',rfl⟩:=ry;exact ne_str (Q0 I q (jM not QbG))
   | _=>exact absurd (show false=true from hs) qJ
 | byt i =>
   obtain⟨t,rfl⟩:=rx
   cases y with
   | byt j=>obtain⟨t',rfl⟩:=ry;exact PySem.W.ne_bytes (Q0 I q (jM not QfG))
   | _=>exact absurd (show false=true from hs) qJ
 | _=>cases y <;> exact absurd (show false=true from hs) qJ
theorem Qfd:OpR X (compareOp .Lt) (rI0 fun i j=>.bl (decide (i<j))):=Qvi fun _ _ _ _ _ _ _ q=>lt_int q
theorem Qcw:OpR X (compareOp .LtE) (rI0 fun i j=>.bl (decide (i<=j))):=Qvi fun _ _ _ _ _ _ _ q=>le_int q
theorem Qib:OpR X (compareOp .Gt) (rI0 fun i j=>.bl (decide (j<i))):=Qvi fun _ _ _ _ _ _ _ q=>gt_int q
theorem WW:OpR X (compareOp .In) (fun x y H Q=>∃i j,x=.str i/\y=.str j/\Q (.bl (!(Builtin.Str.occurrences j i 0 j.length 1).isEmpty)) H):=by
 intro pins s σ H x y v u Q I rx ry h
 obtain⟨i,j,rfl,rfl,q⟩:=h
 obtain⟨t,rfl⟩:=rx
 obtain⟨t',rfl⟩:=ry
 exact in_str (Q0 I q rfl)
theorem Qia:OpR X (compareOp .Is) (fun x y H Q=>y=.non/\Q (.bl (decide (x=.non))) H):=by
 intro pins s σ H x y v u Q I rx ry h
 obtain⟨rfl,q⟩:=h
 cases ry
 refine is_none_gen (Q0 I q ?_)
 cases x <;> first
  | (cases rx;rfl)
  | (obtain⟨t,rfl⟩:=rx;rfl)
theorem Qfb:OpR X (compareOp .IsNot) (fun x y H Q=>y=.non/\Q (.bl (!decide (x=.non))) H):=by
 intro pins s σ H x y v u Q I rx ry h
 obtain⟨rfl,q⟩:=h
 cases ry
 refine isnot_none_gen (Q0 I q ?_)
 cases x <;> first
  | (cases rx;rfl)
  | (obtain⟨t,rfl⟩:=rx;rfl)
theorem Qiz(b:Expr){op:CmpOp}(h:op≠.In:=by decide)(h2:op≠.NotIn:=by decide):behindInMarks op b=false:=by
 have e1:(op == CmpOp.In)=false:=by cases op <;> first | rfl | exact absurd rfl h
 have e2:(op == CmpOp.NotIn)=false:=by cases op <;> first | rfl | exact absurd rfl h2
 cases b <;> simp[behindInMarks,e1,e2]
theorem YW{op:CmpOp}{r:R2}(ho:OpR X (compareOp op) r)(ha:PE X a ta)(hb:PE X b tb)(hm:behindInMarks op b=false:=by exact Qiz _):PE X (.Compare a [op] [b] pos) (tOp r ta tb):=by
 intro pins s σ H Q I h
 exact wpAny_Compare1 (QvG ha hb I h fun v u s2 x y H2 I2 rx ry q=>ho pins s2 σ H2 x y v u Q I2 rx ry q) hm
inductive Qez(Q:(Bool->Hp->Prop))(x:V)(H':Hp):Prop
 | mk:∀k,x=.bl k->Q k H'->Qez Q x H'
def Qk1(t:TE):TT:=fun σ H Q=>t σ H fun x H'=>Qez Q x H'
theorem QL{op:CmpOp}{r:R2}(ho:OpR X (compareOp op) r)(ha:PE X a ta)(hb:PE X b tb)(hm:behindInMarks op b=false:=by exact Qiz _):PT X (.Compare a [op] [b] pos) (Qk1 (tOp r ta tb)):=by
 intro pins s σ H Q I h
 refine wpAny_isTrue_Compare1 (jO (ha pins s σ H _ I h) fun v s1 ⟨x,H1,I1,r1,q1⟩=>jO (hb pins s1 σ H1 _ I1 q1) fun u s2 ⟨y,H2,I2,r2,q2⟩ =>
  jO (ho pins s2 σ H2 x y v u _ I2 r1 r2 q2) fun c s3 ⟨z,H3,I3,r3,k,e,q3⟩=>?_) hm
 subst e
 cases r3
 exact ju ⟨H3,I3,q3⟩
def Qhk(r r':R2)(ta tb tc:TE):TE:=fun σ H Q=>ta σ H fun x H1=>tb σ H1 fun y H2=>r x y H2 fun z H3=>∃k,z=.bl k /\
 (if k=true then tc σ H3 fun w' H4=>r' y w' H4 Q else Q (.bl false) H3)
theorem Qh8{op op':CmpOp}{r r':R2}(ho:OpR X (compareOp op) r)(ho':OpR X (compareOp op') r')(ha:PE X a ta)(hb:PE X b tb)(hc:PE X c tc)
 (hm:lastMarks [op,op'] [b,c]=false:=by with_unfolding_all rfl):PE X (.Compare a [op,op'] [b,c] pos) (Qhk r r' ta tb tc):=by
 intro pins s σ H Q I h
 refine Compare_chain (jO (ha pins s σ H _ I h) fun v s1 ⟨x,H1,I1,r1,q1⟩=>chain_link (jO (hb pins s1 σ H1 _ I1 q1) fun u s2 ⟨y,H2,I2,r2,q2⟩ =>
  jO (ho pins s2 σ H2 x y v u _ I2 r1 r2 q2) fun d s3 ⟨z,H3,I3,r3,k,e,q3⟩=>?_)) hm
 subst e
 cases r3
 refine ju ?_
 cases k with
 | false=>exact ite_ff ⟨.bl false,H3,I3,rfl,q3⟩
 | true=>exact ite_tt (chain_last (jO (hc pins s3 σ H3 _ I3 q3) fun w' s4 ⟨z',H4,I4,r4,q4⟩=>ho' pins s4 σ H4 y z' u w' Q I4 r2 r4 q4))
theorem QhX{op op':CmpOp}{r r':R2}(ho:OpR X (compareOp op) r)(ho':OpR X (compareOp op') r')(ha:PE X a ta)(hb:PE X b tb)(hc:PE X c tc)
 (hm:lastMarks [op,op'] [b,c]=false:=by with_unfolding_all rfl):PT X (.Compare a [op,op'] [b,c] pos) (Qk1 (Qhk r r' ta tb tc)):=by
 intro pins s σ H Q I h
 refine isTrue_chain (jO (ha pins s σ H _ I h) fun v s1 ⟨x,H1,I1,r1,q1⟩=>test_link (jO (hb pins s1 σ H1 _ I1 q1) fun u s2 ⟨y,H2,I2,r2,q2⟩ =>
  jO (ho pins s2 σ H2 x y v u _ I2 r1 r2 q2) fun d s3 ⟨z,H3,I3,r3,k,e,q3⟩=>?_)) hm
 subst e
 cases r3
 refine ju ?_
 cases k with
 | false =>
   obtain⟨k',e',q'⟩:=q3
   cases e'
   exact ite_ff ⟨H3,I3,q'⟩
 | true =>
   refine ite_tt (test_last (jO (hc pins s3 σ H3 _ I3 q3) fun w' s4 ⟨z',H4,I4,r4,q4⟩=>jO (ho' pins s4 σ H4 y z' u w' _ I4 r2 r4 q4) fun d' s5 ⟨z2,H5,I5,r5,k2,e2,q5⟩=>?_))
   subst e2
   cases r5
   exact ju ⟨H5,I5,q5⟩
def TruV(K:Frag)(x:V)(H:Hp)(k:Bool):Prop :=
 match x with
 | .non=>k=false
 | .bl b=>k=b
 | .int i=>k=(i != 0)
 | .str y=>y.length<=sizeLine/\k=((y.length:Int) != 0)
 | .byt y=>y.size<=sizeLine/\k=((y.size:Int) != 0)
 | .ref p=>(∃xs,jH K H p xs/\k = !xs.isEmpty)\/(∃xs,ye K H p xs/\k = !xs.isEmpty)\/∃kvs,H p=some (.dK kvs)/\k = !kvs.isEmpty
 | _=>False
theorem Qec{κ:Type}{kvs:List (κ×V)}{vs:List (κ×Value)}(r:KV kvs vs):(!vs.isEmpty) = !kvs.isEmpty:=by
 cases r <;> rfl
theorem Gf{xs:List V}{its:QvZ}(r:QF xs its):(!its.toArray.isEmpty) = !xs.isEmpty:=by
 cases r <;> simp
theorem VU:(sizeLine:Nat)<2 ^ 63:=by rw[sizeLine_eq];decide
theorem Qlq:TruR X (fun x H Q=>∃k,TruV X.K x H k/\Q k H):=by
 intro pins s σ H x v Q I rx h
 obtain⟨k,e,q⟩:=h
 have hl:=VU
 have hs:sizeLine=16777216:=sizeLine_eq
 cases x with
 | non =>
   cases rx
   have e':k=false:=e
   subst e'
   exact truthy_none ⟨H,I,q⟩
 | bl b =>
   cases rx
   have e':k=b:=e
   subst e'
   exact ju ⟨H,I,q⟩
 | int i =>
   obtain⟨t,rfl⟩:=rx
   have e':k=(i != 0):=e
   subst e'
   exact PySem.P.truthy_int ⟨H,I,q⟩
 | str y =>
   obtain⟨t,rfl⟩:=rx
   obtain⟨hy,e'⟩:y.length<=sizeLine/\k=((y.length:Int) != 0):=e
   subst e'
   exact PySem.P.truthy_str (by omega) ⟨H,I.tok _,q⟩
 | byt y =>
   obtain⟨t,rfl⟩:=rx
   obtain⟨hy,e'⟩:y.size<=sizeLine/\k=((y.size:Int) != 0):=e
   subst e'
   exact PySem.W.truthy_bytes (by omega) ⟨H,I.tok _,q⟩
 | ref p =>
   cases rx
   have e':(∃xs,jH X.K H p xs/\k = !xs.isEmpty)\/(∃xs,ye X.K H p xs/\k = !xs.isEmpty)\/∃kvs,H p=some (.dK kvs)/\k = !kvs.isEmpty:=e
   rcases e' with⟨xs,hx,e'⟩ | ⟨xs,hx,e'⟩ | ⟨kvs,hx,e'⟩
   .subst e'
    obtain⟨its,r,pl,hz⟩:=I.list hx
    have hlen:=r.length
    exact wpAny_truthy_list pl.isList (by simp only[qZ];omega) ⟨H,I.tok _,by rw[Gf r];exact q⟩
   .subst e'
    obtain⟨its,r,pl,hz⟩:=I.tuple hx
    have hlen:=r.length
    exact truthy_tuple pl (by simp only[qZ];omega) ⟨H,I.tok _,by rw[Gf r];exact q⟩
   .subst e'
    obtain⟨hz,hS,vs,r,m⟩:kvs.length<=sizeLine/\(p == sysModules)=false/\∃vs,KV kvs vs/\s.heap.DictOf (QU X.prog X.w) p vs:=I.hok p _ hx
    have hlen:kvs.length=vs.length:=Paired.length r
    exact wpAny_truthy_dict hS m (by omega) ⟨H,I.tok _,by rw[Qec r];exact q⟩
 | _=>exact(show False from e).elim
theorem Qcs(ha:PE X a ta)(he:∀whole,isTrue a X.env whole=(do let v <-whole;standAt a.pos;holding [v] (truthy v))) :
 PT X a (fun σ H Q=>ta σ H fun x H'=>∃k,TruV X.K x H' k/\Q k H'):=by
 intro pins s σ H Q I h
 exact isTrue_plain (jO (ha pins s σ H _ I h) fun v s1 ⟨x,H1,I1,r1,q1⟩=>Qlq pins s1 σ H1 x v Q I1 r1 q1) (he _)
theorem Jg:OpR X (binaryOp .Add) (fun x y H Q=>∃i j,x=.str i/\y=.str j/\i.length+j.length<=sizeLine/\Q (.str (i++j)) H):=by
 intro pins s σ H x y v u Q I rx ry h
 obtain⟨i,j,rfl,rfl,hz,q⟩:=h
 obtain⟨t,rfl⟩:=rx
 obtain⟨t',rfl⟩:=ry
 exact add_str (fun t' tk=>⟨.str (i++j),H,I.tok _,⟨_,rfl⟩,q⟩) hz
theorem YQ{x:V}{us:QvZ}(r:QF [x] us):∃u,us=[u]/\QI x u:=by
 cases r with
 | cons r1 r2=>cases r2;exact⟨_,rfl,r1⟩
theorem QkZ{x y:V}{us:QvZ}(r:QF [x,y] us):∃u w',us=[u,w']/\QI x u/\QI y w':=by
 cases r with
 | cons r1 r2 =>
   cases r2 with
   | cons r3 r4=>cases r4;exact⟨_,_,rfl,r1,r3⟩
theorem Qa1:JD X (.type "int") (fun xs H Q=>(∃i,xs=[.int i]/\Q (.int i) H)\/∃k,xs=[.bl k]/\Q (.int (if k then 1 else 0)) H):=by
 intro pins s σ H xs us Q I r h
 rcases h with⟨i,rfl,q⟩ | ⟨k,rfl,q⟩
 .obtain⟨u,rfl,t,rfl⟩:=YQ r
  exact call_int_int ⟨.int i,H,I,⟨_,rfl⟩,q⟩
 .obtain⟨u,rfl,r1⟩:=YQ r
  cases r1
  exact call_int_bool ⟨.int (if k then 1 else 0),H,I.tok _,⟨_,rfl⟩,q⟩
theorem Ww:JD X (.type "str") (fun xs H Q=>∃i,xs=[.int i]/\i.natAbs.log2<1920/\Q (.str (toString i)) H):=by
 intro pins s σ H xs us Q I r h
 obtain⟨i,rfl,hz,q⟩:=h
 obtain⟨u,rfl,t,rfl⟩:=YQ r
 exact PySem.P.str_of_int hz ⟨.str _,H,I.tok _,⟨_,rfl⟩,q⟩
end
end L2
namespace L2
open PySem PySem.Spec PyProof.Rows
structure Qet(h:Heap)(x dx C:Addr)(mA:Str->Option Value):Prop where
 obj:h.get? x=some (instObj C dx)
 ns:h.Ns1 dx mA
 ne:dx≠x
theorem Qgz{h:Heap}{dx:Addr}{mA:Str->Option Value}(n:h.Ns1 dx mA):∃od,h.get? dx=some od/\∀name,lookIn name od=some (mA name):=by
 obtain⟨o,es,ep,ho,hd,hk,_,hm⟩:=n
 refine⟨o,ho,fun name=>?_⟩
 have e:=hm name
 unfold nsFind findBy at e
 rw[<-Array.find?_toList] at e
 unfold lookIn
 rw[hd]
 dsimp only
 split
 .rename_i y q
  rw[q] at e
  exact jM some e
 .rename_i q
  rw[q] at e
  have a:es.toList.any (·.refKey)=false:=by
   rw[List.any_eq_false]
   intro y hy
   obtain⟨z,t,hkey⟩:=hk y (Array.mem_toList_iff.mp hy)
   simp[DictEntry.refKey,hkey]
  have a':¬es.toList.any (·.refKey)=true:=by rw[a];exact qJ
  rw[qy a']
  exact jM some e
theorem Qet.look{h:Heap}{x dx C:Addr}{mA:Str->Option Value}(I:Qet h x dx C mA):∃od,PySem.W.InstAt h x (instObj C dx) C (some od)/\∀name,lookIn name od=some (mA name) :=
 let ⟨od,ho,hl⟩:=Qgz I.ns
 ⟨od,⟨I.obj,rfl,rfl,ho⟩,hl⟩
section
variable {prog:Program}{w:World}{A:Around}{E:QvY}{s:Shared}{K:Frag}{x dx C f:Addr}{mA:Str->Option Value}{name:Str}{v:Value}
theorem QkJ{expr:Bool}{Q:QvY}(X:K.In s.heap)(I:Qet s.heap x dx C mA)(hg:plainGet K C name=true)(hh:hasDictIn K C=true)
 (ha:findIn K (.ref C) name=some none) (hv:mA name=some v) (hv':handedIn v=true) (h:Q v { s with toks:=s.toks+1 }) :
 wpAny (model prog w) A (getAttr (.ref x) name expr) Q E s:=by
 obtain⟨od,J,hl⟩:=I.look
 exact PySem.W.get_value X J (plainGet_of hg).1 (PySem.W.findObj_own hh ha rfl (by rw[hl,hv])) hv' h
theorem Qi7{pl:Sem Bool}{Q:Value×QvZ->Shared->Prop}(X:K.In s.heap)(I:Qet s.heap x dx C mA)(hg:plainGet K C name=true)
 (hf:findIn K (.ref C) name=some (some (.ref f))) (ht:isFn K (.ref f)=true) (hv:mA name=none) (h:Q (.ref f,[.ref x]) s) :
 wpAny (model prog w) A (getMethod (.ref x) name pl) Q E s:=by
 obtain⟨od,J,hl⟩:=I.look
 exact PySem.W.method_fn X J (plainGet_of hg).1 (plainGet_of hg).2 hf (vD.mp ht) (by show(lookIn name od).map (·.isSome)=some false;rw[hl,hv];rfl) h
theorem Qj8{ns:QvX}{Q:Unit->Shared->Prop}(X:K.In s.heap)(I:Qet s.heap x dx C mA)
 (hs:findIn K (.ref C) "__setattr__"=some (some (.builtin "object.__setattr__"))) (hp:plainOver K C=true) (ht:takerIn K C name=some none) (hh:hasDictIn K C=true)
 (hw:PySem.Within mA ns) (hsz:ns.length<=sizeLine)
 (h:∀h',Qet h' x dx C (fun y=>if y=name then some v else mA y)->Heap.SameBut dx s.heap h'->Q () { s with heap:=h',toks:=s.toks+2 }) :
 wpAny (model prog w) A (setAttr (.ref x) name v) Q E s:=by
 obtain⟨od,J,hl⟩:=I.look
 refine PySem.W.set_plain X J hs (PySem.W.osa_open (s:={ s with toks:=s.toks+1 }) (r:=none) X J hp ht fun b=>?_)
 obtain⟨cd,hc,hd'⟩:=any_some hh
 have hx:s.heap.get? x=some ⟨.ref C,some dx,.plain,#[]⟩:=I.obj
 refine qb (qj (qb (qb (wpAny_loadPart hx (qb (Looks.here (s:={ s with toks:=s.toks+1 }) (PySem.W.looks_clsIn X hc) ?_))))))
 rw[hd']
 refine qj (a:=some dx) (qb (qj (qb ?_)))
 refine wpAny_nsSet1 (s:={ s with toks:=s.toks+1 }) I.ns fun h' hn2 hs2=>?_
 obtain⟨oD,esD,epD,hoD,hdD,hcD⟩:=hn2.count (PySem.Within.cons name v hw)
 refine qb (wpAny_lookBehind hoD (by rw[hdD];exact pastItsLine_dict (zx hcD (by rw[za];omega))) ?_)
 exact qj (h _ ⟨(hs2.2 _ (xH I.ne)).trans I.obj,hn2,I.ne⟩ hs2)
theorem QiK{R:Result->Shared->Prop}{vs:QvZ}{kw:List (Str×Value)}(X:K.In s.heap)(hm:makesIn K C=true)
 (hi:findIn K (.ref C) "__init__"=some (some (.ref f))) (hf:PySem.W.typeIn K (.ref f)=some (.type "function"))
 (h:codeAny (model prog w) (A.under (.builtin "type.__call__" ⟨.ref C :: vs,kw⟩)) (.call (.ref f) ⟨.ref (s.heap.objs.size+1) :: vs,kw⟩) (PySem.W.InitBack (s.heap.objs.size+1) R)
   { s with heap:=(s.heap.push emptyDict).push (instObj C s.heap.objs.size) }) :
 codeAny (model prog w) A (.call (.ref C) ⟨vs,kw⟩) R s:=by
 obtain⟨hh,g,d,t,os⟩:=s
 exact PySem.W.make_core (PySem.W.makes_of X hm) (looks_findIn X hi) (fun self=>PySem.W.bind_fn X self hf) (.inl rfl) h
end
def Qx(f:Str)(v:V):List (Str×V)->List (Str×V)
 | []=>[(f,v)]
 | (g,x) :: r=>if g=f then (g,v) :: r else (g,x) :: Qx f v r
theorem Xv(f g:Str)(v:V):∀fs:List (Str×V),(Qx f v fs).lookup g=if g=f then some v else fs.lookup g
 | []=>by
   show List.lookup g [(f,v)]=_
   by_cases h:g=f
   .have hb:(g == f)=true:=vD.mpr h
    simp only[List.lookup,hb,qD h]
   .have hb:(g == f)=false:=j0.mpr h
    simp only[List.lookup,hb,qy h]
 | (k,x) :: r=>by
   have ih:=Xv f g v r
   rw[show Qx f v ((k,x) :: r)=(if k=f then (k,v) :: r else (k,x) :: Qx f v r) from rfl]
   by_cases hk:k=f
   .rw[qD hk]
    by_cases h:g=k
    .have hb:(g == k)=true:=vD.mpr h
     simp only[List.lookup,hb,qD (h.trans hk)]
    .have hb:(g == k)=false:=j0.mpr h
     simp only[List.lookup,hb,qy (fun e:g=f=>h (e.trans hk.symm))]
   .rw[qy hk]
    by_cases h:g=k
    .have hb:(g == k)=true:=vD.mpr h
     simp only[List.lookup,hb,qy (fun e:g=f=>hk (h.symm.trans e))]
    .have hb:(g == k)=false:=j0.mpr h
     simp only[List.lookup,hb]
     exact ih
theorem W8(f:Str)(v:V):∀fs:List (Str×V),f∈(Qx f v fs).map (·.1)/\∀g,g∈fs.map (·.1)->g∈(Qx f v fs).map (·.1)
 | []=>⟨by simp[Qx],fun g h=>by simp at h⟩
 | (k,x) :: r=>by
   obtain⟨i1,i2⟩:=W8 f v r
   rw[show Qx f v ((k,x) :: r)=(if k=f then (k,v) :: r else (k,x) :: Qx f v r) from rfl]
   by_cases hk:k=f
   .rw[qD hk]
    subst hk
    exact⟨by simp,fun g h=>by simpa using h⟩
   .rw[qy hk]
    refine⟨?_,fun g h=>?_⟩
    .rw[qW]
     exact qP _ i1
    .rw[qW] at h ⊢
     rcases qG.mp h with e | e
     .exact qG.mpr (.inl e)
     .exact qP _ (i2 g e)
theorem Xw(f:Str)(v:V):∀fs:List (Str×V),(Qx f v fs).length<=fs.length+1
 | []=>by simp[Qx]
 | (k,x) :: r=>by
   have ih:=Xw f v r
   rw[show Qx f v ((k,x) :: r)=(if k=f then (k,v) :: r else (k,x) :: Qx f v r) from rfl]
   by_cases hk:k=f
   .rw[qD hk,za,za];omega
   .rw[qy hk,za,za];omega
theorem YO.some_of{v:V}{o:Option Value}(r:YO (some v) o):∃u,o=some u/\QI v u:=by
 cases o with
 | none=>exact(show False from r).elim
 | some u=>exact⟨u,rfl,r⟩
theorem YO.none_of{o:Option Value}(r:YO none o):o=none:=by
 cases o with
 | none=>rfl
 | some u=>exact(show False from r).elim
theorem QgQ{v:V}{u:Value}(r:QI v u):handedIn u=true:=by
 cases v with
 | non=>cases (show u=Value.none from r);rfl
 | bl b=>cases (show u=Value.bool b from r);rfl
 | int i=>obtain⟨t,e⟩:=(show ∃t,u=Value.int i t from r);cases e;rfl
 | str x=>obtain⟨t,e⟩:=(show ∃t,u=Value.str x t from r);cases e;rfl
 | byt b=>obtain⟨t,e⟩:=(show ∃t,u=Value.bytes b t from r);cases e;rfl
 | flt b=>obtain⟨t,e⟩:=(show ∃t,u=Value.float b t from r);cases e;rfl
 | ref a=>cases (show u=Value.ref a from r);rfl
 | ty n=>cases (show u=Value.type n from r);rfl
section
variable {P:Program}{w:World}{H H':Hp}{h h':Heap}{a C dx:Addr}{fs fs':List (Str×V)}
theorem X0(hok:HOk P w H h)(e:H a=some (.ins C dx fs)):∃mA,Qet h a dx C mA/\(∀f,YO (fs.lookup f) (mA f))/\PySem.Within mA (fs.map (·.1))/\fs.length<=1000/\H dx=some (.own a):=by
 obtain⟨d,z,ne,ob,mA,n,r,q⟩:=(show QY P w H h a (.ins C dx fs) from hok a _ e)
 exact⟨mA,⟨ob,n,ne⟩,r,q,z,d⟩
end
structure Cls(K:Frag)(C:Addr):Prop where
 pg:plainGet K C Str.empty=true
 hd:hasDictIn K C=true
 po:plainOver K C=true
 sa:findIn K (.ref C) "__setattr__"=some (some (.builtin "object.__setattr__"))
theorem Cls.get{K:Frag}{C:Addr}(c:Cls K C)(f:Str):plainGet K C f=true:=c.pg
def Q5(K:Frag)(C:Addr)(f:Str):Prop:=findIn K (.ref C) f=some none
theorem Q5.taker{K:Frag}{C:Addr}{f:Str}(n:Q5 K C f):takerIn K C f=some none:=by
 unfold takerIn
 rw[show findIn K (.ref C) f=some none from n]
 rfl
structure Ji(K:Frag)(C:Addr)(m:Str)(f:Addr):Prop where
 at_:findIn K (.ref C) m=some (some (.ref f))
 fn:isFn K (.ref f)=true
 kp:keepIn K (.ref f)=true
section
variable {X:Cx}{pins:List (Addr×Obj)}{σ:St}{H:Hp}{s:Shared}{a C dx:Addr}{fs:List (Str×V)}{f:Str}{v:V}{A:Around}{E:QvY}
theorem Qeg{b:Bool}{Q:QvY}(I:Inv X pins σ H s)(e:H a=some (.ins C dx fs))(c:Cls X.K C)(n:Q5 X.K C f)(l:fs.lookup f=some v)
 (h:∀u s',Inv X pins σ H s'->QI v u->Q u s'):wpAny (model X.prog X.w) A (getAttr (.ref a) f b) Q E s:=by
 obtain⟨mA,O,r,_,_,_⟩:=X0 I.hok e
 obtain⟨u,hu,ru⟩:=YO.some_of (v:=v) (o:=mA f) (by rw[<-l];exact r f)
 exact QkJ I.kIn O (c.get f) c.hd n hu (QgQ ru) (h u _ (I.tok _) ru)
theorem VW{m:Str}{g:Addr}{pl:Sem Bool}{Q:Value×QvZ->Shared->Prop}(I:Inv X pins σ H s)(e:H a=some (.ins C dx fs))(c:Cls X.K C)(k:Ji X.K C m g)(l:fs.lookup m=none)
 (h:Q (.ref g,[.ref a]) s):wpAny (model X.prog X.w) A (getMethod (.ref a) m pl) Q E s:=by
 obtain⟨mA,O,r,_,_,_⟩:=X0 I.hok e
 have hn:mA m=none:=YO.none_of (by rw[<-l];exact r m)
 exact Qi7 I.kIn O (c.get m) k.at_ k.fn hn h
theorem QdD{y:V}{u:Value}{Q:Unit->Shared->Prop}(I:Inv X pins σ H s)(e:H a=some (.ins C dx fs))(c:Cls X.K C)(n:Q5 X.K C f)(hl:fs.length<1000)(ry:QI y u)
 (h:∀s',Inv X pins σ (upd H a (.ins C dx (Qx f y fs))) s'->Q () s'):wpAny (model X.prog X.w) A (setAttr (.ref a) f u) Q E s:=by
 obtain⟨mA,O,r,wi,_,ho⟩:=X0 I.hok e
 have hz:(fs.map (·.1)).length<=sizeLine:=by rw[qi,sizeLine_eq];omega
 refine Qj8 I.kIn O c.sa c.po n.taker c.hd wi hz fun h' O' sb=>h _ ?_
 have hd:∃o,h'.get? dx=some o:=let ⟨o,_,_,e',_⟩:=O'.ns;⟨o,e'⟩
 refine I.write (x:=a) (e:=dx) (by rw[e];exact True.intro) (.inr ho) (fun b q hb z=>(sb.2 b hb).trans z) hd ?_
 refine⟨by rw[Qa O.ne];exact ho,?_,O.ne,O'.obj,_,O'.ns,fun g=>?_,fun g hg=>?_⟩
 .have:=Xw f y fs;omega
 .show YO ((Qx f y fs).lookup g) (if g=f then some u else mA g)
  rw[Xv]
  by_cases q:g=f
  .rw[qD q,qD q];exact ry
  .rw[qy q,qy q];exact r g
 .by_cases q:g=f
  .rw[q];exact(W8 f y fs).1
  .refine(W8 f y fs).2 g (wi g fun z=>hg ?_)
   show(if g=f then some u else mA g)=none
   rw[qy q];exact z
theorem Inv.made(I:Inv X pins σ H s):Inv X pins σ (upd (upd H s.heap.objs.size (.own (s.heap.objs.size+1))) (s.heap.objs.size+1) (.ins C s.heap.objs.size []))
 { s with heap:=(s.heap.push emptyDict).push (instObj C s.heap.objs.size) }:=by
 have e1:(s.heap.push emptyDict).get? s.heap.objs.size=some emptyDict:=qH s.heap rfl
 have e2:((s.heap.push emptyDict).push (instObj C s.heap.objs.size)).get? (s.heap.objs.size+1)=some (instObj C s.heap.objs.size):=by
  have:=qH (s.heap.push emptyDict) (o:=instObj C s.heap.objs.size) rfl
  rwa[yD] at this
 have e3:(s.heap.push emptyDict).Ns s.heap.objs.size (fun _=>none):=⟨emptyDict,#[],_,e1,rfl,(fun e he=>absurd he (by simp)),fun _=>rfl⟩
 have I1:=I.laid (a:=s.heap.objs.size) (o:=.own (s.heap.objs.size+1)) (h':=s.heap.push emptyDict) (t':=s.toks) (fun b u q=>qm _ q) (qt _) ⟨_,e1⟩
 refine I1.laid (a:=s.heap.objs.size+1) (o:=.ins C s.heap.objs.size []) (t':=s.toks) (fun b u q=>qm _ q) (Nat.le_of_eq (yD _ _)) ?_
 have ne:s.heap.objs.size≠s.heap.objs.size+1:=qY (Nat.lt_succ_self _)
 refine⟨by rw[Qa ne,Qc],zK _,ne,e2,fun _=>none,(Heap.Ns1.of_empty e3).at fun o q=>qm _ q,fun _=>True.intro,fun y hy=>absurd rfl hy⟩
theorem QkU{prog:Program}{w:World}{env:Env}{e:Expr}{f:Str}{pos:Pos}{s:Shared}{Q:QvY}(hb:attributeBase e f env (eval e env)=eval e env)
 (h:wpAny (model prog w) A (eval e env) (fun o s₁=>wpAny (model prog w) A (getAttr o f true) Q E s₁) E s):wpAny (model prog w) A (eval (.Attribute e f pos) env) Q E s :=
 Attribute_any_ h (by rw[arm_eval_Attribute,hb])
end
inductive Qhg(K:Frag)(f:Str)(Q:VK)(x:V)(H1:Hp):Prop
 | mk:∀a C dx fs v,x=.ref a->H1 a=some (.ins C dx fs)->Cls K C->Q5 K C f->fs.lookup f=some v->Q v H1->Qhg K f Q x H1
def tFld(K:Frag)(ta:TE)(f:Str):TE:=fun σ H Q=>ta σ H fun x H1=>Qhg K f Q x H1
inductive QhH(K:Frag)(f:Str)(D:Y7)(σ:St)(y:V)(x:V)(H2:Hp):Prop
 | mk:∀a C dx fs,x=.ref a->H2 a=some (.ins C dx fs)->Cls K C->Q5 K C f->fs.length<1000->D.nx σ (upd H2 a (.ins C dx (Qx f y fs)))->QhH K f D σ y x H2
def sFld(K:Frag)(ta tv:TE)(f:Str):TS:=fun D σ H=>tv σ H fun y H1=>ta σ H1 fun x H2=>QhH K f D σ y x H2
section
variable {X:Cx}{o e value:Expr}{f:Str}{pos pos' tpos:Pos}{ta tv:TE}
theorem Qk(he:PE X e ta)(hb:attributeBase e f X.env (eval e X.env)=eval e X.env):PE X (.Attribute e f pos) (tFld X.K ta f):=by
 intro pins s σ H Q I h
 refine QkU hb (jO (he pins s σ H _ I h) fun u s1 ⟨x,H1,I1,rx,a,C,dx,fs,v,ex,ea,c,n,l,q⟩=>?_)
 subst ex
 obtain rfl:u=Value.ref a:=rx
 exact Qeg I1 ea c n l fun u' s2 I2 ru=>⟨v,H1,I2,ru,q⟩
theorem Zo(ha:PE X o ta)(hv:PE X value tv)(hs:swapsWith value (some (.Attribute o f pos')) pos.line X.env=pure false):PS X (.Assign [.Attribute o f pos'] value pos) (sFld X.K ta tv f):=by
 intro pins s σ H D I h
 refine plainObj_wpAny_Assign_Attribute (jO (hv pins s σ H _ I h) fun u s1 ⟨y,H1,I1,ry,q⟩=>jO (ha pins s1 σ H1 _ I1 q) fun ov s2 ⟨x,H2,I2,rx,a,C,dx,fs,ex,ea,c,n,l,q2⟩=>?_) hs
 subst ex
 obtain rfl:ov=Value.ref a:=rx
 exact QdD I2 ea c n l ry fun s3 I3=>⟨σ,_,I3,q2⟩
end
section
variable {X:Cx}{pins:List (Addr×Obj)}{σ:St}{H:Hp}{s:Shared}{A:Around}{E:QvY}{Q:QvY}{c:Value}{b:Bool}
inductive Y6(K:Frag)(H:Hp):V->Value->Prop where
 | non:Y6 K H .non (.type "NoneType")
 | bl (x:Bool):Y6 K H (.bl x) (.type "bool")
 | int (i:Int):Y6 K H (.int i) (.type "int")
 | str (x:Str):Y6 K H (.str x) (.type "str")
 | flt (x:UInt64):Y6 K H (.flt x) (.type "float")
 | lst {a:Addr} {xs:List V} (e:H a=some (.lst xs)):Y6 K H (.ref a) (.type "list")
 | uH {a:Addr} {o:Obj} {xs:List V} (e:H a=some (.uH o (.lst xs))):Y6 K H (.ref a) (.type "list")
 | tup {a:Addr} {xs:List V} (e:H a=some (.tup xs)):Y6 K H (.ref a) (.type "tuple")
 | dK {a:Addr} {kvs:List (Key×V)} (e:H a=some (.dK kvs)):Y6 K H (.ref a) (.type "dict")
 | dT {a:Addr} {kvs:List (List Key×V)} (e:H a=some (.dT kvs)):Y6 K H (.ref a) (.type "dict")
 | ins {a C dx:Addr} {fs:List (Str×V)} (e:H a=some (.ins C dx fs)) (cl:Cls K C) (ha:findIn K (.ref C) "__class__"=some (some (.builtin "object.__class__")))
    (hn:specialIn K (.builtin "object.__class__") "__get__"=some (some (.builtin "getset_descriptor.__get__"))) (htk:takesIn K (.builtin "object.__class__")=some true)
    (hm:PySem.W.mroIn K C (.type "object")=some true):Y6 K H (.ref a) (.ref C)
theorem QgK{x:V}{u t:Value}(I:Inv X pins σ H s)(rx:QI x u)(ty:Y6 X.K H x t)(e:kitOne X.K t c=some b)(h:∀tk,Q (.bool b) { s with toks:=tk }) :
 wpAny (model X.prog X.w) A (call (.builtin "isinstance") [u,c]) Q E s:=by
 cases ty with
 | non=>cases (show u=Value.none from rx);exact kia_one PySem.W.kitx_none I.kIn True.intro e (fun z=>nomatch z) h
 | bl y=>cases (show u=Value.bool y from rx);exact kia_one PySem.W.kitx_bool I.kIn True.intro e (fun z=>nomatch z) h
 | int i=>obtain⟨t,q⟩:=(show ∃t,u=Value.int i t from rx);cases q;exact kia_one PySem.W.kitx_int I.kIn True.intro e (fun z=>nomatch z) h
 | str y=>obtain⟨t,q⟩:=(show ∃t,u=Value.str y t from rx);cases q;exact kia_one PySem.W.kitx_str I.kIn True.intro e (fun z=>nomatch z) h
 | flt y=>obtain⟨t,q⟩:=(show ∃t,u=Value.float y t from rx);cases q;exact kia_one PySem.W.kitx_float I.kIn True.intro e (fun z=>nomatch z) h
 | @lst a xs ea =>
   cases (show u=Value.ref a from rx)
   obtain⟨_,_,n,_,h1⟩:=(show QY X.prog X.w H s.heap a (.lst xs) from I.hok a _ ea)
   exact kia_one kitx_list I.kIn ⟨_,h1,rfl⟩ e (fun z=>nomatch z) h
 | @uH a ob xs ea =>
   cases (show u=Value.ref a from rx)
   obtain⟨_,_,_,n,_,h1⟩:=(show QY X.prog X.w H s.heap a (.uH ob (.lst xs)) from I.hok a _ ea)
   exact kia_one kitx_list I.kIn ⟨_,h1,rfl⟩ e (fun z=>nomatch z) h
 | @tup a xs ea =>
   cases (show u=Value.ref a from rx)
   obtain⟨_,_,_,p⟩:=(show QY X.prog X.w H s.heap a (.tup xs) from I.hok a _ ea)
   obtain⟨o,h1,h2,_⟩:=p
   exact kia_one PySem.W.kitx_tuple I.kIn ⟨o,h1,h2⟩ e (fun z=>nomatch z) h
 | @dK a kvs ea =>
   cases (show u=Value.ref a from rx)
   obtain⟨_,_,vs,_,p⟩:=(show QY X.prog X.w H s.heap a (.dK kvs) from I.hok a _ ea)
   obtain⟨o,es,ep,h1,h2,_⟩:=p
   exact kia_one kitx_dict I.kIn ⟨o,h1,h2.1⟩ e (fun z=>nomatch z) h
 | @dT a kvs ea =>
   cases (show u=Value.ref a from rx)
   obtain⟨_,_,xs,_,o,es,ep,h1,h2,_⟩:=(show QY X.prog X.w H s.heap a (.dT kvs) from I.hok a _ ea)
   exact kia_one kitx_dict I.kIn ⟨o,h1,h2.1⟩ e (fun z=>nomatch z) h
 | @ins a C dx fs ea cl ha hn htk hm =>
   cases (show u=Value.ref a from rx)
   obtain⟨mA,O,_⟩:=X0 I.hok ea
   obtain⟨od,J,_⟩:=O.look
   exact kia_one (PySem.W.kitx_own (cl.get _) cl.hd ha hn htk hm) I.kIn J e (fun z=>nomatch z) h
end
end L2
namespace L2
open PySem PySem.Spec PyProof.Rows
structure QB(k:Nat)(A:Around):Prop where
 hd:A.handled=none
 dp:A.depth+3*k+5<recursionLimit
 un:A.units+16*k+200<cLine
 gd:A.guards=some []
theorem QB.mono{j k:Nat}{A:Around}(r:QB k A)(h:j<=k):QB j A:=⟨r.hd,by have:=r.dp;omega,by have:=r.un;omega,r.gd⟩
theorem QB.deeper{k:Nat}{A:Around}(r:QB (k+1) A)(env:Env):QB k (A.deeper env) :=
 ⟨r.hd,by have:=r.dp;show A.depth+1+3*k+5<_;omega,by have:=r.un;show A.units+3+16*k+200<_;omega,r.gd⟩
theorem Qd7{A:Around}{C:Addr}{us:QvZ}{kw:List (Str×Value)}:(A.under (.builtin "type.__call__" ⟨.ref C :: us,kw⟩)).depth=A.depth+1:=by
 first | rfl | simp[Around.under,Code.weight,Code.isCreation,Code.isGuard,Code.isCaller,Code.frames,Code.isFrame,guardIds]
theorem Qd6{A:Around}{C:Addr}{us:QvZ}{kw:List (Str×Value)}:(A.under (.builtin "type.__call__" ⟨.ref C :: us,kw⟩)).units=A.units+1:=by
 first | rfl | simp[Around.under,Code.cUnits,Code.frames,Code.isFrame]
theorem QcR{A:Around}{C:Addr}{us:QvZ}{kw:List (Str×Value)}(h:A.guards=some []):(A.under (.builtin "type.__call__" ⟨.ref C :: us,kw⟩)).guards=some []:=by
 first | exact h | simp[Around.under,Code.guards,Code.isGuard,pushGuards,guardIds,h]
theorem QB.make{k:Nat}{A:Around}(r:QB (k+1) A)(C:Addr)(us:QvZ)(kw:List (Str×Value)):QB k (A.under (.builtin "type.__call__" ⟨.ref C :: us,kw⟩)) :=
 ⟨r.hd,by have:=r.dp;rw[Qd7];omega,by have:=r.un;rw[Qd6];omega,QcR r.gd⟩
theorem QB.depth{k:Nat}{A:Around}(r:QB k A):A.depth<recursionLimit:=by have:=r.dp;omega
theorem QB.units{k:Nat}{A:Around}(r:QB k A):A.units+64<cLine:=by have:=r.un;omega
theorem QB.Qtd{k:Nat}{A:Around}(r:QB k A):A.units<cLine:=by have:=r.un;omega
def Qt2:TA:=fun _ H Q=>Q [] H
def Qhi(ta:TE)(tr:TA):TA:=fun σ H Q=>ta σ H fun x H1=>tr σ H1 fun xs H2=>Q (x :: xs) H2
section
variable {X:Cx}{e:Expr}{es:List Expr}{te:TE}{t:TA}{pos:Pos}
theorem Qe:PA X [] Qt2:=fun _ _ _ _ H Q I h=>QmD ⟨[],H,I,.nil,h⟩
theorem Qfa(ha:PE X e te)(hr:PA X es t)(hs:starEach (e :: es) X.env=(false,eval e X.env) :: starEach es X.env:=by rfl):PA X (e :: es) (Qhi te t):=by
 intro pos pins s σ H Q I h
 rw[hs]
 show wpAny _ _ (spliced ((false,eval e X.env) :: backTo pos (starEach es X.env))) _ _ s
 refine yq (jO (ha pins s σ H _ I h) fun u s1 ⟨x,H1,I1,r1,q1⟩=>?_)
 exact jO (hr pos pins s1 σ H1 _ I1 q1) fun us s2 ⟨xs,H2,I2,r2,q2⟩=>⟨x :: xs,H2,I2,.cons r1 r2,q2⟩
def tTup(t:TA):TE:=fun σ H Q=>t σ H fun xs H1=>xs.length<=sizeLine/\∀p,H1 p=none->Q (.ref p) (upd H1 p (.tup xs))
def tLst(t:TA):TE:=fun σ H Q=>t σ H fun xs H1=>xs.length<=sizeLine/\∀p,H1 p=none->Q (.ref p) (upd H1 p (.lst xs))
theorem QlZ{x1}(h:PA X es t):PE X (.Tuple es x1 pos) (tTup t):=by
 intro pins s σ H Q I hq
 refine wpAny_Tuple_spliced (jO (h pos pins s σ H _ I hq) fun us s1 ⟨xs,H1,I1,r,z,q⟩=>⟨by rw[<-r.length];exact z,?_⟩)
 have hf:H1 s1.heap.objs.size=none:=I1.hok.fresh (qt _)
 refine⟨.ref s1.heap.objs.size,upd H1 s1.heap.objs.size (.tup xs),I1.laid (t':=s1.toks) (fun b u e=>qm _ e) (qt _) ?_,rfl,q _ hf⟩
 exact⟨z,us,r,⟨_,qH _ rfl,rfl,_,rfl⟩⟩
theorem Ql1(h:PA X es t):PE X (.List es pos) (tLst t):=by
 intro pins s σ H Q I hq
 refine wpAny_List_spliced (jO (h pos pins s σ H _ I hq) fun us s1 ⟨xs,H1,I1,r,z,q⟩=>⟨by rw[<-r.length];exact z,?_⟩)
 have hf:H1 s1.heap.objs.size=none:=I1.hok.fresh (qt _)
 refine⟨.ref s1.heap.objs.size,upd H1 s1.heap.objs.size (.lst xs),I1.laid (t':=s1.toks) (fun b u e=>qm _ e) (qt _) ?_,rfl,q _ hf⟩
 exact⟨z,us,0,r,qH _ rfl⟩
end
abbrev Sp:=List V->Hp->VK->XK->Prop
abbrev CXT:=List Env->Hp->Shared->XK->Value->Shared->Prop
structure Qev(P:Program)(w:World)(K:Frag)(mg:Str->Option Value)(base:Heap)(A:Around)(outer:List Env)(s:Shared)(H:Hp):Prop where
 frames:A.frames=some outer
 mod:Mod K mg base
 bs:∀b o,base.get? b=some o->s.heap.get? b=some o/\H b=none
 bsz:base.objs.size<=s.heap.objs.size
 Qno:s.heap.FunFrames base outer
 frf:∀b∈frs outer,H b=none
 hok:HOk P w H s.heap
 bare:AllBare s.gens
def CE(outer:List Env)(P:Program)(w:World)(H:Hp)(s:Shared)(Q:VK)(u:Value)(s':Shared):Prop :=
 ∃v H',s'.os=s.os/\AllBare s'.gens/\Un (frs outer) [] H H' s.heap s'.heap/\HOk P w H' s'.heap/\QI v u/\Q v H'
def CR(CX:CXT)(outer:List Env)(P:Program)(w:World)(H:Hp)(s:Shared)(Q:VK)(E:XK)(r:Result)(s':Shared):Prop :=
 match r with
 | .ok (.ret u)=>CE outer P w H s Q u s'
 | .ok _=>False
 | .error e=>CX outer H s E e s'
structure QO(P:Program)(w:World)(K:Frag)(mg:Str->Option Value)(base:Heap)(CX:CXT)(k:Nat)(f:Addr)(fd:FuncData)(ps:QvX)(sp:Sp):Prop where
 len:∀vs H Q E,sp vs H Q E->vs.length=ps.length
 run:∀(A:Around)(outer:List Env)(s:Shared)(H:Hp)(args:Args)(us:QvZ)(vs:List V)(Q:VK)(E:XK),QB k A->Qev P w K mg base A outer s H->BindsTo s fd args (ps.zip us)->QF vs us->sp vs H Q E ->
  codeAny (model P w) A (.call (.ref f) args) (CR CX outer P w H s Q E) s
theorem Qev.make{P:Program}{w:World}{K:Frag}{mg:Str->Option Value}{base:Heap}{A:Around}{outer:List Env}{s:Shared}{H:Hp}(e:Qev P w K mg base A outer s H)(C:Addr)(us:QvZ)(kw:List (Str×Value)) :
 Qev P w K mg base (A.under (.builtin "type.__call__" ⟨.ref C :: us,kw⟩)) outer s H:=⟨by first | exact e.frames | (simpa[Around.under,Code.envs,Code.isFrame,pushEnvs] using e.frames),e.mod,e.bs,e.bsz,e.Qno,e.frf,e.hok,e.bare⟩
section
variable {X:Cx}{pins:List (Addr×Obj)}{σ:St}{H:Hp}{s s':Shared}
theorem Inv.env0(I:Inv X pins σ H s):Qev X.prog X.w X.K X.mg X.base X.A X.stack s H :=
 ⟨I.ok.frames,I.ok.mod,I.bs,zx I.ok.bsz I.sz,I.stack,I.Qqw,I.hok,I.bare⟩
theorem Inv.after{Q:VK}{u:Value}(I:Inv X pins σ H s)(h:CE X.stack X.prog X.w H s Q u s'):EP X pins σ Q u s':=by
 obtain⟨v,H',os,bare,un,hok,r,q⟩:=h
 obtain⟨hh,g,d,t,os'⟩:=s'
 obtain rfl:os'=s.os:=os
 exact⟨v,H',I.call (h':=hh) (g':=g) (d':=d) (t':=t) (ch:=[]) un hok bare (fun b z=>absurd z (by simp)),r,q⟩
end
def tCall(sp:Sp)(ug:List V)(E:XK)(t:TA):TE:=fun σ H Q=>t σ H fun vs H1=>sp (vs++ug) H1 Q E
inductive QeD(C:Addr)(m:Str)(sp:Sp)(ug:List V)(E:XK)(t:TA)(σ:St)(Q:VK)(x:V)(H1:Hp):Prop
 | mk:∀a dx fs,x=.ref a->H1 a=some (.ins C dx fs)->fs.lookup m=none->(t σ H1 fun vs H2=>sp (x :: (vs++ug)) H2 Q E)->QeD C m sp ug E t σ Q x H1
def Qk2(C:Addr)(m:Str)(sp:Sp)(ug:List V)(E:XK)(ta:TE)(t:TA):TE:=fun σ H Q=>ta σ H fun x H1=>QeD C m sp ug E t σ Q x H1
def Qk3(C:Addr)(sp:Sp)(ug:List V)(E:XK)(t:TA):TE:=fun σ H Q=>t σ H fun vs H1=>∀x dx,H1 x=none->H1 dx=none->dx≠x ->
 sp (.ref x :: (vs++ug)) (upd (upd H1 dx (.own x)) x (.ins C dx [])) (fun v H2=>v=.non/\Q (.ref x) H2) E
def Qq(K:Frag)(fd:FuncData)(ps:QvX)(ds:QvZ):Prop :=
 ∀(s:Shared)(us:QvZ),K.In s.heap->(us++ds).length=ps.length->BindsTo s fd ⟨us,[]⟩ (ps.zip (us++ds))
theorem Qq.all{K:Frag}{fd:FuncData}{ps:QvX}(h:∀us:QvZ,us.length=ps.length->bindArgs fd ⟨us,[]⟩=pure (ps.zip us)):Qq K fd ps []:=fun s us _ hl=>by
 rw[je] at hl ⊢
 exact .of_eq (h us hl)
def UF(CX:CXT)(X:Cx)(E:XK):Prop:=∀(pins:List (Addr×Obj))(σ:St)(H:Hp)(s:Shared)(e:Value)(s':Shared),Inv X pins σ H s->CX X.stack H s E e s'->X.xe e s'
section
variable {X:Cx}{CX:CXT}{k:Nat}{f C:Addr}{fd:FuncData}{ps:QvX}{sp:Sp}{ug:List V}{ds:QvZ}{E:XK}{x m:Str}{p pos apos:Pos}{e o:Expr}{es:List Expr}{ta:TE}{t:TA}
theorem QdJ{pins:List (Addr×Obj)}{σ:St}{H:Hp}{s:Shared}{Q:VK}{us:QvZ}{vs:List V}(F:QO X.prog X.w X.K X.mg X.base CX k f fd ps sp)(hr:QB k X.A)(hb:Qq X.K fd ps ds)(hd:QF ug ds)(hx:UF CX X E)
 (I:Inv X pins σ H s) (r:QF vs us) (h:sp (vs++ug) H Q E):wpAny (model X.prog X.w) X.A (call (.ref f) us) (EP X pins σ Q) X.xe s:=by
 have r2:QF (vs++ug) (us++ds):=r.append hd
 have hl:(us++ds).length=ps.length:=by rw[<-r2.length];exact F.len _ _ _ _ h
 refine QrR (xn (F.run X.A X.stack s H ⟨us,[]⟩ (us++ds) (vs++ug) Q E hr I.env0 (hb s us I.kIn hl) r2 h) fun r s' hq=>?_)
 cases r with
 | error e=>exact hx pins σ H s e s' I hq
 | ok fl =>
   cases fl with
   | ret u=>exact I.after hq
   | next=>exact False.elim hq
   | brk=>exact False.elim hq
   | cont=>exact False.elim hq
theorem Qj(F:QO X.prog X.w X.K X.mg X.base CX k f fd ps sp)(hr:QB k X.A)(hg:Gl X x)(hm:X.mg x=some (.ref f))(hk:keepIn X.K (.ref f)=true)(hb:Qq X.K fd ps ds)(hd:QF ug ds)(hx:UF CX X E)
 (ha:PA X (e :: es) t) (hdb:(x == ("__debug__":Str))=false:=by decide) (he:starEach (e :: es) X.env=(false,eval e X.env) :: starEach es X.env:=by rfl) (hpl:(backTo pos (starEach es X.env)).any (·.1)=false:=by rfl) :
 PE X (.Call (.Name x p) (e :: es) [] pos) (tCall sp ug E t):=by
 intro pins s σ H Q I h
 refine wk (Vq I hg hm ?_ hdb)
 refine callWith_K (h₀:=X.base) I.ok.mod.kin hk (jO (ha pos pins s σ H _ I h) fun us s1 ⟨vs,H1,I1,r,q⟩=>⟨I1.kIn,?_⟩) he hpl
 exact QdJ F hr hb hd hx I1 r q
theorem QT{pl:Sem Bool}(he:PE X o ta)(c:Cls X.K C)(hm:Ji X.K C m f)(F:QO X.prog X.w X.K X.mg X.base CX k f fd ps sp)(hr:QB k X.A)(hb:Qq X.K fd ps ds)(hd:QF ug ds)(hx:UF CX X E)(ha:PA X (e :: es) t)
 (hst:starEach (e :: es) X.env=(false,eval e X.env) :: starEach es X.env:=by rfl) (hpl:(backTo pos (starEach es X.env)).any (·.1)=false:=by rfl)
 (ht:eval (.Call (.Attribute o m apos) (e :: es) [] pos) X.env=(do
   let ov <-eval o X.env
   standAt apos.atName
   let (f,first) <-holding [ov] (getMethod ov m pl)
   callWith pos f first (backTo pos (starEach (e :: es) X.env)) (backToKw pos (keywordEach [] X.env))):=by rfl) :
 PE X (.Call (.Attribute o m apos) (e :: es) [] pos) (Qk2 C m sp ug E ta t):=by
 intro pins s σ H Q I h
 refine methodCall_KW (pl:=pl) (jO (he pins s σ H _ I h) fun u s1 ⟨x,H1,I1,rx,a,dx,fs,ex,ea,l,q⟩=>?_) ht
 subst ex
 obtain rfl:u=Value.ref a:=rx
 refine VW I1 ea c hm l ?_
 refine callWith_K (first:=[.ref a]) (h₀:=X.base) I.ok.mod.kin hm.kp (jO (ha pos pins s1 σ H1 _ I1 q) fun us s2 ⟨vs,H2,I2,r,q2⟩=>⟨I2.kIn,?_⟩) hst hpl
 exact QdJ (us:=.ref a :: us) (vs:=.ref a :: vs) F hr hb hd hx I2 (.cons rfl r) q2
theorem Wn{pl:Sem Bool}(he:PE X o ta)(c:Cls X.K C)(hm:Ji X.K C m f)(F:QO X.prog X.w X.K X.mg X.base CX k f fd ps sp)(hr:QB k X.A)(hb:Qq X.K fd ps ds)(hd:QF ug ds)(hx:UF CX X E)
 (ht:eval (.Call (.Attribute o m apos) [] [] pos) X.env=(do
   let ov <-eval o X.env
   standAt apos.atName
   let (f,first) <-holding [ov] (getMethod ov m pl)
   callWith pos f first (backTo pos (starEach [] X.env)) (backToKw pos (keywordEach [] X.env))):=by rfl) :
 PE X (.Call (.Attribute o m apos) [] [] pos) (Qk2 C m sp ug E ta Qt2):=by
 intro pins s σ H Q I h
 refine methodCall_KW (pl:=pl) (jO (he pins s σ H _ I h) fun u s1 ⟨x,H1,I1,rx,a,dx,fs,ex,ea,l,q⟩=>?_) ht
 subst ex
 obtain rfl:u=Value.ref a:=rx
 refine VW I1 ea c hm l ?_
 exact callWith_K0 (first:=[.ref a]) I1.kIn hm.kp (QdJ (us:=[.ref a]) (vs:=[.ref a]) F hr hb hd hx I1 (.cons rfl .nil) q)
structure Mk(K:Frag)(C f:Addr):Prop where
 makes:makesIn K C=true
 init:findIn K (.ref C) "__init__"=some (some (.ref f))
 fn:isFn K (.ref f)=true
 kp:keepIn K (.ref C)=true
theorem Qch{pins:List (Addr×Obj)}{σ:St}{H:Hp}{s:Shared}{Q:VK}{us:QvZ}{vs:List V}(M:Mk X.K C f)(F:QO X.prog X.w X.K X.mg X.base CX k f fd ps sp)(hr:QB (k+1) X.A)(hb:Qq X.K fd ps ds)(hd:QF ug ds)
 (hx:UF CX X E) (I:Inv X pins σ H s) (r:QF vs us)
 (h:∀x dx,H x=none->H dx=none->dx≠x->sp (.ref x :: (vs++ug)) (upd (upd H dx (.own x)) x (.ins C dx [])) (fun v H2=>v=.non/\Q (.ref x) H2) E) :
 wpAny (model X.prog X.w) X.A (call (.ref C) us) (EP X pins σ Q) X.xe s:=by
 have hq:=h (s.heap.objs.size+1) s.heap.objs.size (I.hok.fresh (Qq6 _)) (I.hok.fresh (qt _)) (qY (Nat.lt_succ_self _))
 have I2:=Inv.made (C:=C) I
 have r2:QF (V.ref (s.heap.objs.size+1) :: (vs++ug)) (Value.ref (s.heap.objs.size+1) :: (us++ds)):=.cons rfl (r.append hd)
 have hl:(Value.ref (s.heap.objs.size+1) :: us++ds).length=ps.length:=by
  have e:=r2.length
  rw[F.len _ _ _ _ hq] at e
  exact e.symm
 refine QrR (QiK (f:=f) I.kIn M.makes M.init (vD.mp M.fn) (xn (F.run _ X.stack _ _ ⟨Value.ref (s.heap.objs.size+1) :: us,[]⟩ (Value.ref (s.heap.objs.size+1) :: (us++ds)) _ _ E (hr.make C us [])
  (I2.env0.make C us []) (hb _ (Value.ref (s.heap.objs.size+1) :: us) I2.kIn hl) r2 hq) fun r s' hq'=>?_))
 cases r with
 | error e=>exact hx pins σ _ _ e s' I2 hq'
 | ok fl =>
   cases fl with
   | ret u =>
     obtain⟨v,H',I3,rv,ev,q3⟩:=I2.after hq'
     subst ev
     exact⟨rv,⟨V.ref (s.heap.objs.size+1),H',I3,rfl,q3⟩⟩
   | next=>exact False.elim hq'
   | brk=>exact False.elim hq'
   | cont=>exact False.elim hq'
theorem Qbn(M:Mk X.K C f)(F:QO X.prog X.w X.K X.mg X.base CX k f fd ps sp)(hr:QB (k+1) X.A)(hg:Gl X x)(hm:X.mg x=some (.ref C))(hb:Qq X.K fd ps ds)(hd:QF ug ds)(hx:UF CX X E)
 (ha:PA X (e :: es) t) (hdb:(x == ("__debug__":Str))=false:=by decide) (he:starEach (e :: es) X.env=(false,eval e X.env) :: starEach es X.env:=by rfl) (hpl:(backTo pos (starEach es X.env)).any (·.1)=false:=by rfl) :
 PE X (.Call (.Name x p) (e :: es) [] pos) (Qk3 C sp ug E t):=by
 intro pins s σ H Q I h
 refine wk (Vq I hg hm ?_ hdb)
 refine callWith_K (h₀:=X.base) I.ok.mod.kin M.kp (jO (ha pos pins s σ H _ I h) fun us s1 ⟨vs,H1,I1,r,q⟩=>⟨I1.kIn,?_⟩) he hpl
 exact Qch M F hr hb hd hx I1 r q
theorem U1(M:Mk X.K C f)(F:QO X.prog X.w X.K X.mg X.base CX k f fd ps sp)(hr:QB (k+1) X.A)(hg:Gl X x)(hm:X.mg x=some (.ref C))(hb:Qq X.K fd ps ds)(hd:QF ug ds)(hx:UF CX X E)
 (hdb:(x == ("__debug__":Str))=false:=by decide):PE X (.Call (.Name x p) [] [] pos) (Qk3 C sp ug E Qt2):=by
 intro pins s σ H Q I h
 refine wk (Vq I hg hm ?_ hdb)
 exact callWith_K0 I.kIn M.kp (Qch (us:=[]) M F hr hb hd hx I .nil h)
end
section
variable {X:Cx}{CX:CXT}{k:Nat}{f C:Addr}{fd:FuncData}{ps ks:QvX}{sp:Sp}{E:XK}{x m:Str}{p pos apos kpos:Pos}{e o:Expr}{es:List Expr}{kws:List Keyword}{te ta:TE}{t tk:TA}{nm:Option Str}
variable {g:QvZ->QvZ->QvZ}{gV:List V->List V->List V}
end
structure Qm(N P:QvX)(sc:Scope):Prop where
 kind:sc.kind=.function
 co:sc.isCoroutine=false
 gen:sc.isGenerator=false
 nd:N.Nodup
 pre:N.take P.length=P
 par:∀x∈P,sc.names.lookup x=some .local\/sc.names.lookup x=some .cell
 Qvk:∀y∈sc.names,y.2≠.free
theorem Qa2{kindOf:Str->Option NameKind}{x:Str}:∀{binds:List (Str×Value)}{m:Str->Option Value},(∀v,(x,v)∉binds)->bindL kindOf binds m x=m x
 | [],_,_=>rfl
 | (n,v) :: r,m,h=>by
   unfold bindL
   rw[Qa2 fun w hw=>h w (qP _ hw)]
   split
   .have:x≠n:=by rintro rfl;exact h v qL
    simp[this]
   .rfl
theorem Qa4{kindOf:Str->Option NameKind}{x:Str}:∀{binds:List (Str×Value)}{m:Str->Option Value},(∀v,(x,v)∉binds)->bindC kindOf binds m x=m x
 | [],_,_=>rfl
 | (n,v) :: r,m,h=>by
   unfold bindC
   rw[Qa4 fun w hw=>h w (qP _ hw)]
   split
   .rfl
   .have:x≠n:=by rintro rfl;exact h v qL
    simp[this]
theorem Qa3{kindOf:Str->Option NameKind}{x:Str}{v:Value}:∀{P:QvX}{vs:QvZ}{i:Nat}{m:Str->Option Value},P.Nodup->P[i]?=some x->vs[i]?=some v->kindOf x=some .local ->
 bindL kindOf (P.zip vs) m x=some v
 | [],_,_,_,_,h,_,_=>by simp at h
 | _ :: _,[],_,_,_,_,h,_=>by simp at h
 | p :: P,w :: vs,0,m,nd,h1,h2,hk=>by
   simp at h1 h2;subst h1;subst h2
   show bindL kindOf ((p,w) :: P.zip vs) m p=_
   unfold bindL
   rw[Qa2 fun v hv=>(jf.mp nd).1 (List.of_mem_zip hv).1,qD hk]
   simp
 | p :: P,w :: vs,i+1,m,nd,h1,h2,hk=>by
   show bindL kindOf ((p,w) :: P.zip vs) m x=_
   unfold bindL
   exact Qa3 (i:=i) (jf.mp nd).2 (by simpa using h1) (by simpa using h2) hk
theorem Qa5{kindOf:Str->Option NameKind}{x:Str}{v:Value}:∀{P:QvX}{vs:QvZ}{i:Nat}{m:Str->Option Value},P.Nodup->P[i]?=some x->vs[i]?=some v->kindOf x≠some .local ->
 bindC kindOf (P.zip vs) m x=some v
 | [],_,_,_,_,h,_,_=>by simp at h
 | _ :: _,[],_,_,_,_,h,_=>by simp at h
 | p :: P,w :: vs,0,m,nd,h1,h2,hk=>by
   simp at h1 h2;subst h1;subst h2
   show bindC kindOf ((p,w) :: P.zip vs) m p=_
   unfold bindC
   rw[Qa4 fun v hv=>(jf.mp nd).1 (List.of_mem_zip hv).1,qy hk]
   simp
 | p :: P,w :: vs,i+1,m,nd,h1,h2,hk=>by
   show bindC kindOf ((p,w) :: P.zip vs) m x=_
   unfold bindC
   exact Qa5 (i:=i) (jf.mp nd).2 (by simpa using h1) (by simpa using h2) hk
def start(N:QvX)(vs:List V):St:=vs.map some++List.replicate (N.length - vs.length) none
def Yo(CX:CXT)(P:Program)(w:World)(K:Frag)(mg:Str->Option Value)(base:Heap)(N:QvX)(qual:Str)(scope:Scope)(f:Addr)(cd:Value)(A:Around)(outer:List Env)(s:Shared)(H:Hp)(E:XK):Cx where
 prog:=P
 w:=w
 K:=K
 mg:=mg
 base:=base
 A:=A.deeper (envOfC qual scope s.heap.objs.size f cd)
 N:=N
 s₀:=s
 H₀:=H
 env:=envOfC qual scope s.heap.objs.size f cd
 outer:=outer
 stack:=envOfC qual scope s.heap.objs.size f cd :: outer
 ex:=[]
 calm:=true
 fn:=fun _=>true
 pn:=[]
 xe:=fun e s'=>wpAny (model P w) (A.deeper (envOfC qual scope s.heap.objs.size f cd)) (leaving (envOfC qual scope s.heap.objs.size f cd) e) (fun _ s''=>CX outer H s E e s'') (fun e' s''=>CX outer H s E e' s'') s'
theorem Qde{sc:Scope}{n:Nat}{x:Str}(h:sc.names.lookup x=some .cell):∃c,(cellsFrom n sc.names []).lookup x=some c:=by
 have q:=PySem.W.cellsFrom_some sc.names n [] (.inl h)
 exact Option.isSome_iff_exists.mp q
theorem QgM{CX:CXT}{P:Program}{w:World}{K:Frag}{mg:Str->Option Value}{base:Heap}{N ps:QvX}{qual:Str}{scope:Scope}{f:Addr}{cd:Value}{A:Around}{outer:List Env}{s s1:Shared}{H:Hp}{E:XK}{us:QvZ}{vs:List V}
 (S:Qm N ps scope) (hd:A.handled=none) (e0:Qev P w K mg base A outer s H) (hl:vs.length=ps.length) (r:QF vs us)
 (x:InCallC s s.heap.objs.size (bindL (envOfC qual scope s.heap.objs.size f cd).kindOf (ps.zip us) fun _=>none) (cellsFrom (s.heap.objs.size+1) scope.names []) (bindC (envOfC qual scope s.heap.objs.size f cd).kindOf (ps.zip us) fun _=>none) s1) :
 Inv (Yo CX P w K mg base N qual scope f cd A outer s H E) [] (start N vs) H s1:=by
 have hpl:ps.length<=N.length:=by have:=jM List.length S.pre;rw[zN] at this;omega
 obtain⟨h1,tk,rfl,hk⟩:=x.done
 have noA:∀b:Addr,b∉(Yo CX P w K mg base N qual scope f cd A outer s H E).ex:=fun b z=>absurd (show b∈([]:List Addr) from z) (by simp)
 refine⟨⟨e0.mod,S.kind,rfl,rfl,qt _,fun y z c h1 h2=>?_,fun y hy=>?_,fun y c _ h=>?_,fun _=>hd,Around.frames_deeper e0.frames,.inr ⟨rfl,rfl⟩,fun b z=>absurd z (noA b),e0.bs,e0.bsz,fun b _ _=>noA b,fun b z=>absurd z (noA b),e0.Qno,e0.frf⟩,
  rfl,e0.bare,Un.kept hk,⟨_,x.toInCall.ns,fun i y v h1 h2 h3=>?_⟩,fun y c h=>⟨_,x.cell y c h⟩,e0.hok.fresh (qt _),fun y c h=>?_,fun p hp=>absurd (show p∈([]:List (Addr×Obj)) from hp) (by simp),e0.hok.kept hk,?_⟩
 .exact name_of_addr x.apart (j4 h1) (j4 h2)
 .have hy:scope.names.lookup y=some .cell\/scope.names.lookup y=some .free:=hy
  rcases hy with hy | hy
  .exact Qde hy
  .exact absurd rfl (S.Qvk _ (j4 hy))
 .exact gb (x.above y c (j4 h))
 .have hi:i<vs.length:=by
   unfold start at h2
   by_cases hi:i<vs.length
   .exact hi
   .rw[QnK (by simpa using hi)] at h2
    rw[List.getElem?_replicate] at h2
    split at h2 <;> cases h2
  have ha:vs[i]?=some v:=by
   unfold start at h2
   rw[List.getElem?_append_left (by simpa using hi),q8] at h2
   cases e:vs[i]? with
   | none=>rw[e] at h2;cases h2
   | some a=>rw[e] at h2;cases h2;rfl
  obtain⟨u,hu,rv⟩:=r.get ha
  have hp:ps[i]?=some y:=by
   rw[<-S.pre,List.getElem?_take_of_lt (by omega)];exact h1
  have ndP:ps.Nodup:=by rw[<-S.pre];exact S.nd.sublist (List.take_sublist _ _)
  refine⟨u,rv,?_⟩
  rcases S.par y (qU hp) with k | k
  .exact .inl ⟨k,Qa3 ndP hp hu k⟩
  .obtain⟨c,e⟩:=Qde (n:=s.heap.objs.size+1) k
   refine .inr ⟨.inl k,c,e,?_⟩
   have q:=x.cell y c e
   rw[Qa5 ndP hp hu (by show scope.names.lookup y≠_;rw[k];decide)] at q
   exact q
 .exact e0.hok.fresh (gb (x.above y c (j4 h)))
 .unfold start
  show _=N.length
  rw[qI,qi,QkI]
  omega
theorem Qi9{CX:CXT}{P:Program}{w:World}{K:Frag}{mg:Str->Option Value}{base:Heap}{k:Nat}{f:Addr}{name qual:Str}{params:Arguments}{body:List Stmt}{scope:Scope}{dV kV doc pm cdv ct oc:Value}{an od:Option Addr}
 {osl:Array (Option Value)} {N ps:QvX} {sp:Sp} (lk:K.lookup f=some ⟨oc,od,.func (fnOf name qual params body scope dV kV doc pm an cdv ct),osl⟩) (hcd:codeIn K cdv qual=true) (S:Qm N ps scope)
 (len:∀vs H Q E,sp vs H Q E->vs.length=ps.length)
 (hbody:∀(A:Around)(outer:List Env)(s:Shared)(H:Hp)(vs:List V)(Q:VK)(E:XK),QB k (A.deeper (envOfC qual scope s.heap.objs.size f cdv))->sp vs H Q E ->
   ∃t,PSs (Yo CX P w K mg base N qual scope f cdv A outer s H E) body t/\t { nx:=fun _ H'=>Q .non H',rt:=Q } (start N vs) H) :
 QO P w K mg base CX (k+1) f (fnOf name qual params body scope dV kV doc pm an cdv ct) ps sp:=by
 refine⟨len,fun A outer s H args us vs Q E hr e0 hb r hsp=>?_⟩
 have hl:=len _ _ _ _ hsp
 have KX:K.In s.heap:=e0.mod.kin.keeps fun b o e=>(e0.bs b o e).1
 have lim:s.heap.NoLimit:=e0.mod.nolimit.keeps fun b o e=>(e0.bs b o e).1
 have hkind:∀y∈ps.zip us,scope.names.lookup y.1=some .local\/(scope.names.lookup y.1=some .cell/\((cellsFrom (s.heap.objs.size+1) scope.names []).lookup y.1).isSome=true):=fun⟨n,v⟩ hy=>by
  rcases S.par n (List.of_mem_zip hy).1 with q | q
  .exact .inl q
  .exact .inr ⟨q,PySem.W.cellsFrom_some _ _ _ (.inl q)⟩
 refine codeAny_call_function hr.depth (KX _ _ lk) rfl S.co S.gen rfl (PySem.W.codeRec_of KX hcd) (hb _ _ _ _ ?_)
 refine wpAny_newFunctionEnv_cells S.kind hkind fun env he s1 x=>?_
 subst he
 refine⟨lim.keeps x.toInCall.keep,codeAny_func ?_⟩
 obtain⟨t,ht,hq⟩:=hbody A outer s H vs Q E (hr.deeper _) hsp
 have I:Inv (Yo CX P w K mg base N qual scope f cdv A outer s H E) [] (start N vs) H s1:=QgM S hr.hd e0 hl r x
 refine yp (ht [] s1 (start N vs) H _ I hq) (fun fl s' hs=>?_) fun e s' hs=>hs
 have fin:∀{σ':St}{H':Hp}{v:V}{u:Value},Inv (Yo CX P w K mg base N qual scope f cdv A outer s H E) [] σ' H' s'->QI v u->Q v H'->CE outer P w H s Q u s' :=
  fun{σ' H' v u} J rv q=>⟨v,H',J.os,J.bare,J.base,J.hok,rv,q⟩
 cases fl with
 | ret u =>
   obtain⟨v,σ',H',J,rv,q⟩:=hs
   exact fin J rv q
 | next =>
   obtain⟨σ',H',J,q⟩:=hs
   exact fin (v:=V.non) (u:=Value.none) J rfl q
 | brk =>
   obtain⟨_,_,_,q⟩:=hs
   exact False.elim q
 | cont =>
   obtain⟨_,_,_,q⟩:=hs
   exact False.elim q
end L2
namespace L2
open PySem PySem.Spec PyProof.Rows
section
variable {X:Cx}{x:Str}{p pos:Pos}{e:Expr}{es:List Expr}{t:TA}{id T:String}{r:List V->Hp->VK->Prop}
def tCB(r:List V->Hp->VK->Prop)(t:TA):TE:=fun σ H Q=>t σ H fun vs H1=>r vs H1 Q
theorem QC(hc:JD X (.builtin id) r)(hg:Gl X x)(hm:X.mg x=none)(hv:bootBuiltins x=some (.builtin id))(ha:PA X (e :: es) t)(hn:x≠"__name__":=by decide)(hdb:(x == ("__debug__":Str))=false:=by decide)
 (he:starEach (e :: es) X.env=(false,eval e X.env) :: starEach es X.env:=by rfl) (hpl:(backTo pos (starEach es X.env)).any (·.1)=false:=by rfl):PE X (.Call (.Name x p) (e :: es) [] pos) (tCB r t):=by
 intro pins s σ H Q I h
 refine wk (QbB I hg hm hv ?_ hn hdb)
 exact PyProof.Rows.callWith_builtin1 (jO (ha pos pins s σ H _ I h) fun us s1 ⟨vs,H1,I1,r1,q1⟩=>hc pins s1 σ H1 vs us Q I1 r1 q1) he hpl
theorem JI(hc:JD X (.type T) r)(hg:Gl X x)(hm:X.mg x=none)(hv:bootBuiltins x=some (.type T))(ha:PA X (e :: es) t)(hn:x≠"__name__":=by decide)(hdb:(x == ("__debug__":Str))=false:=by decide)
 (he:starEach (e :: es) X.env=(false,eval e X.env) :: starEach es X.env:=by rfl) (hpl:(backTo pos (starEach es X.env)).any (·.1)=false:=by rfl):PE X (.Call (.Name x p) (e :: es) [] pos) (tCB r t):=by
 intro pins s σ H Q I h
 refine wk (QbB I hg hm hv ?_ hn hdb)
 exact PyProof.Rows.callWith_type1 (jO (ha pos pins s σ H _ I h) fun us s1 ⟨vs,H1,I1,r1,q1⟩=>hc pins s1 σ H1 vs us Q I1 r1 q1) he hpl
end
end L2
namespace HT
open PySem PyProof.Rows
theorem Qc4(A:Around)(s:Shared)(a:Int)(t:Tok)(c:Int)(u:Tok):∃e,SeqAt.EqAt A s (.int a t) (.int c u) e/\(e=true↔a=c) :=
 ⟨(a == c),SeqAt.EqAt.int_int a t c u,by simp⟩
section
open PySem.SeqAt
open PySem.AutoSeq1 (wpAny_loadPart')
open PySem.MeetsSeq PySem.MeetsSeq2 PySem.MeetsSeq3
end
section
variable {prog:Program}{w:World}{A:Around}{E:QvY}{s:Shared}
def vq(n d:Nat):Option Int->Nat
 | none=>d
 | some v=>if v<0 then (v+(n:Int)).toNat else min v.toNat n
theorem Qre(n d:Nat):vq n d none=d:=rfl
theorem Qqx(n d k:Nat):vq n d (some (k:Int))=min k n:=by
 show(if (k:Int)<0 then ((k:Int)+(n:Int)).toNat else min (k:Int).toNat n)=min k n
 rw[qy (by omega),jW]
theorem QlP(n d:Nat)(hd:d<=n)(o:Option Int):vq n d o<=n:=by
 cases o with
 | none=>exact hd
 | some v =>
   show(if v<0 then (v+(n:Int)).toNat else min v.toNat n)<=n
   by_cases hv:v<0
   .rw[qD hv];omega
   .rw[qy hv];exact Nat.min_le_right _ _
theorem QfL(v:Int)(n d:Nat):(if v<0 then max (v+(n:Int)) 0 else min v (n:Int))=((vq n d (some v):Nat):Int):=by
 show(if v<0 then max (v+(n:Int)) 0 else min v (n:Int))=(((if v<0 then (v+(n:Int)).toNat else min v.toNat n):Nat):Int)
 by_cases hv:v<0
 .simp only[qD hv];omega
 .simp only[qy hv];omega
theorem Qer(lo hi:Option Int)(n:Nat):Builtin.Slice.sliceAdjust lo hi 1 (n:Int)=(((vq n 0 lo:Nat):Int),((vq n n hi:Nat):Int)):=by
 have h1:¬((1:Int)<0):=by omega
 unfold Builtin.Slice.sliceAdjust
 simp only[h1,yX]
 refine Prod.ext ?_ ?_
 .cases lo with
  | none=>rfl
  | some v=>exact QfL v n 0
 .cases hi with
  | none=>rfl
  | some v=>exact QfL v n n
theorem QdM(i j:Nat):Builtin.Slice.slicePlaces (i:Int) (j:Int) 1=j - i:=by
 unfold Builtin.Slice.slicePlaces
 have h1:(1:Int) > 0:=by omega
 simp only[h1,gf,Int.ediv_one]
 split <;> omega
theorem Kw{v:Value}{o:Option Int}{Q:Option Int->Shared->Prop}(p:IsPart v o)(h:Q o s):wpAny (model prog w) A (Builtin.Slice.slicePartIndex v) Q E s:=by
 cases p with
 | none=>exact slicePart_none h
 | int i t=>exact slicePart_int h
theorem Ub{sl:Addr}{vl vu:Value}{lo hi:Option Int}{n:Nat}{Q:Int×Int×Nat->Shared->Prop}(hs:s.heap.IsSliceOf sl vl vu .none)(pl:IsPart vl lo)(pu:IsPart vu hi)
 (h:Q (((vq n 0 lo:Nat):Int),1,vq n n hi - vq n 0 lo) s):wpAny (model prog w) A (Builtin.Slice.sliceApplied (.ref sl) (pure (n:Int))) Q E s:=by
 obtain⟨os,hos,hcs,hds⟩:=id hs
 unfold Builtin.Slice.sliceApplied Builtin.Slice.sliceFields
 refine qb (qb (wpAny_field hos hds (x:=vl) rfl (qb (wpAny_field hos hds (x:=vu) rfl (qb (wpAny_field hos hds (x:=.none) rfl (qj ?_)))))))
 refine qb (slicePart_none ?_)
 show wpAny _ _ (if ((1:Int) == 0)=true then _ else _) _ _ s
 rw[qy (by decide)]
 refine qb (Kw pl (qb (Kw pu (qb (qj ?_)))))
 show wpAny _ _ (match Builtin.Slice.sliceAdjust lo hi 1 (n:Int) with | (lo,hi)=>pure (lo,(1:Int),Builtin.Slice.slicePlaces lo hi 1)) _ _ s
 rw[Qer lo hi n]
 show wpAny _ _ (pure (((vq n 0 lo:Nat):Int),(1:Int),Builtin.Slice.slicePlaces ((vq n 0 lo:Nat):Int) ((vq n n hi:Nat):Int) 1)) _ _ s
 rw[QdM]
 exact qj h
theorem Qh2(xs:Array Value)(i k:Nat):((List.range k).filterMap fun(m:Nat)=>xs[((i:Int)+(m:Int)*1).toNat]?).toArray=((xs.toList.drop i).take k).toArray:=by
 have e:(fun(m:Nat)=>xs[((i:Int)+(m:Int)*1).toNat]?)=fun m=>xs[i+m]?:=by
  funext m
  have:((i:Int)+(m:Int)*1).toNat=i+m:=by omega
  rw[this]
 rw[e]
 have:=pick_run xs i k
 rw[List.filterMap_map] at this
 have e2:((fun x=>xs[x]?)∘fun x=>i+x)=fun m=>xs[i+m]?:=rfl
 rw[e2] at this
 rw[this]
theorem QnP{t sl:Addr}{items:Array Value}{vl vu:Value}{lo hi:Option Int}{Q:QvY}(ht:IsTup s.heap t items)(hs:s.heap.IsSliceOf sl vl vu .none)(pl:IsPart vl lo)(pu:IsPart vu hi)
 (hw:¬(vq items.size 0 lo=0/\vq items.size items.size hi=items.size))
 (h:Q (.ref s.heap.objs.size) { s with heap:=s.heap.push { cls:=.type "tuple",data:=.seq ((items.toList.drop (vq items.size 0 lo)).take (vq items.size items.size hi - vq items.size 0 lo)).toArray } })
 (hsz:items.size<=sizeLine):wpAny (model prog w) A (getItem (.ref t) (.ref sl)) Q E s:=by
 have Qsq:sizeOk (.seq ((items.toList.drop (vq items.size 0 lo)).take (vq items.size items.size hi - vq items.size 0 lo)).toArray):=by
  show((items.toList.drop (vq items.size 0 lo)).take (vq items.size items.size hi - vq items.size 0 lo)).toArray.size<=sizeLine
  rw[qZ,zN,kO,zf]
  omega
 have hj:vq items.size items.size hi<=items.size:=QlP _ _ (qt _) hi
 obtain⟨os,hos,hcs,hds⟩:=id hs
 have hTs:s.TypeIs (.ref sl) "slice":=⟨os,hos,hcs⟩
 unfold getItem
 try with_reducible refine jk ?_
 first | refine qb (qj ?_) | skip
 refine qb (wpAny_sequenceKey ht.typeIs (by decide) ?_)
 refine qb (jA (name:=Str.ofString "__getitem__") ht.typeIs slot_tuple_getitem
  (z6 slot_tuple_getitem ht.typeIs entry_tuple_getitem ?_ (args_tuple_getitem _ _)))
 show wpAny _ _ (Builtin.Tuple.tupleItemsOf (.ref t) >>= _) _ _ s
 refine qb (tupleItemsOf_ ht ?_)
 refine qb (QrS hTs ?_)
 rw[qD (by decide)]
 refine qb (Ub hs pl pu ?_)
 have hno:¬((((vq items.size 0 lo:Nat):Int) == 0 && (1:Int) == 1 && (vq items.size items.size hi - vq items.size 0 lo) == items.size)=true):=by
  intro q
  rw[zQ,zQ] at q
  have q1:((vq items.size 0 lo:Nat):Int)=0:=eq_of_beq q.1.1
  have q2:vq items.size items.size hi - vq items.size 0 lo=items.size:=eq_of_beq q.2
  exact hw ⟨by omega,by omega⟩
 show wpAny _ _ (if (((vq items.size 0 lo:Nat):Int) == 0 && (1:Int) == 1 && (vq items.size items.size hi - vq items.size 0 lo) == items.size)=true then _ else _) _ _ s
 rw[qy hno,Qh2]
 first
  | exact qb (m:=Builtin.Tuple.tupleExact _) (zP (qj ⟨_,rfl,qj h⟩) Qsq)
  | exact qb (m:=Builtin.Tuple.tupleExact _) (zP (qb (qj (qj ⟨_,rfl,qj h⟩))) Qsq)
  | exact qb (qb (m:=Builtin.Tuple.tupleExact _) (zP (qj (qj ⟨_,rfl,qj h⟩)) Qsq))
  | exact qb (qb (m:=Builtin.Tuple.tupleExact _) (zP (qj ⟨_,rfl,qj h⟩) Qsq))
end
end HT
namespace L2
open PySem PySem.Spec PyProof.Rows
abbrev TO:=St->Hp->(Option Int->Hp->Prop)->Prop
def PO(X:Cx)(e:Option Expr)(t:TO):Prop :=
 ∀(pins:List (Addr×Obj))(s:Shared)(σ:St)(H:Hp)(Q:Option Int->Hp->Prop),Inv X pins σ H s->t σ H Q ->
  wpAny (model X.prog X.w) X.A (evalPart e X.env) (fun u s'=>∃o H',Inv X pins σ H' s'/\IsPart u o/\Q o H') X.xe s
def QjF:TO:=fun _ H Q=>Q none H
inductive QeA(Q:(Option Int->Hp->Prop))(x:V)(H1:Hp):Prop
 | mk:∀i,x=.int i->Q (some i) H1->QeA Q x H1
def tPart(t:TE):TO:=fun σ H Q=>t σ H fun x H1=>QeA Q x H1
section
variable {X:Cx}{e:Expr}{te:TE}{lo hi:Option Expr}{tl th:TO}{pos p2:Pos}
theorem Vk:PO X none QjF:=by
 intro pins s σ H Q I h
 rw[evalPart_none]
 exact qj ⟨none,H,I,.none,h⟩
theorem Vj(h:PE X e te):PO X (some e) (tPart te):=by
 intro pins s σ H Q I hw
 rw[evalPart_some]
 refine jO (h pins s σ H _ I hw) fun u s1 ⟨x,H1,I1,r1,q1⟩=>?_
 obtain⟨i,rfl,q⟩:=q1
 obtain⟨t,rfl⟩:=r1
 exact⟨some i,H1,I1,.int i t,q⟩
def SlR(X:Cx)(r:V->Option Int->Option Int->Hp->VK->Prop):Prop :=
 ∀(pins:List (Addr×Obj))(s:Shared)(σ:St)(H:Hp)(x:V)(v vl vu:Value)(lo hi:Option Int)(sl:Addr)(Q:VK),Inv X pins σ H s->QI x v->s.heap.IsSliceOf sl vl vu .none->IsPart vl lo->IsPart vu hi->r x lo hi H Q ->
  ∃T id,typeLookup (.type T) "__getitem__"=pure (some (.builtin id))/\s.TypeIs v T/\wpAny (model X.prog X.w) X.A (getItem v (.ref sl)) (EP X pins σ Q) X.xe s
def tSl(r:V->Option Int->Option Int->Hp->VK->Prop)(te:TE)(tl th:TO):TE:=fun σ H Q=>te σ H fun x H1=>tl σ H1 fun l H2=>th σ H2 fun u H3=>r x l u H3 Q
theorem Ug{r:V->Option Int->Option Int->Hp->VK->Prop}(hr:SlR X r)(he:PE X e te)(hl:PO X lo tl)(hu:PO X hi th):PE X (.Subscript e (.Slice lo hi none p2) pos) (tSl r te tl th):=by
 intro pins s σ H Q I h
 refine Subscript_ (jO (he pins s σ H _ I h) fun v s1 ⟨x,H1,I1,r1,q1⟩=>?_)
 refine wpAny_Slice (jO (hl pins s1 σ H1 _ I1 q1) fun vl s2 ⟨l,H2,I2,pl,q2⟩=>jO (hu pins s2 σ H2 _ I2 q2) fun vu s3 ⟨u,H3,I3,pu,q3⟩=>?_)
 rw[evalPart_none]
 refine qj ?_
 have I4:Inv X pins σ H3 { s3 with heap:=s3.heap.push { cls:=.type "slice",data:=.fields #[vl,vu,.none] } }:=I3.kept (t':=s3.toks) fun b ob q=>qm _ q
 obtain⟨T,id,hT,ht,hg⟩:=hr pins { s3 with heap:=s3.heap.push { cls:=.type "slice",data:=.fields #[vl,vu,.none] } } σ H3 x v vl vu l u s3.heap.objs.size Q I4 r1 (Heap.IsSliceOf.new ..) pl pu q3
 show wpAny (model X.prog X.w) X.A (subscriptTail e (.Slice lo hi none p2) v (.ref s3.heap.objs.size)) (EP X pins σ Q) X.xe { s3 with heap:=s3.heap.push { cls:=.type "slice",data:=.fields #[vl,vu,.none] } }
 exact tail_any (ops:=[.ref s3.heap.objs.size,v]) ht hT hg (by with_unfolding_all rfl)
def XQ(xs:List V)(lo hi:Option Int):List V:=(xs.drop (HT.vq xs.length 0 lo)).take (HT.vq xs.length xs.length hi - HT.vq xs.length 0 lo)
theorem XB(xs:List V)(lo hi:Option Int):(XQ xs lo hi).length<=xs.length:=by
 unfold XQ
 rw[zN,kO]
 omega
inductive QhL(K:Frag)(x:V)(lo:Option Int)(hi:Option Int)(H:Hp)(Q:VK):Prop
 | mk:∀a xs,x=.ref a->ye K H a xs->¬(HT.vq xs.length 0 lo=0/\HT.vq xs.length xs.length hi=xs.length)->(∀p,H p=none->Q (.ref p) (upd H p (.tup (XQ xs lo hi))))->QhL K x lo hi H Q
def rSlT(K:Frag):V->Option Int->Option Int->Hp->VK->Prop:=fun x lo hi H Q=>QhL K x lo hi H Q
theorem QlN:SlR X (rSlT X.K):=by
 intro pins s σ H x v vl vu lo hi sl Q I rx hs pl pu h
 obtain⟨a,xs,rfl,hx,hw,q⟩:=h
 cases rx
 obtain⟨its,r,ht,hz⟩:=I.tuple hx
 have hlen:its.toArray.size=xs.length:=by rw[qZ];exact r.length.symm
 refine⟨"tuple",_,slot_tuple_getitem.lookup,ht.typeIs,?_⟩
 refine HT.QnP ht hs pl pu (by rw[hlen];exact hw) ?_ (by rw[hlen];exact hz)
 rw[hlen]
 refine⟨.ref s.heap.objs.size,_,I.laid (t':=s.toks) (o:=.tup (XQ xs lo hi)) (fun b ob q=>qm _ q) (qt _) ?_,rfl,q _ (I.hok.fresh (qt _))⟩
 exact⟨zx (XB xs lo hi) hz,_,(r.drop (HT.vq xs.length 0 lo)).take (HT.vq xs.length xs.length hi - HT.vq xs.length 0 lo),IsTup.new _ _⟩
end
end L2
namespace L2
open PySem PySem.Spec PyProof.Rows
def ixN(n:Nat)(i:Int):Option Nat:=if 0<=i then (if i<n then some i.toNat else none) else if -(n:Int)<=i then some (i+n).toNat else none
def atI{α:Type}(xs:List α)(i:Int):Option α:=(ixN xs.length i).bind fun j=>xs[j]?
theorem Qfn{n:Nat}{i:Int}{j:Nat}(h:ixN n i=some j):seqIndex? i n=some j/\j<n/\-(n:Int)<=i/\i<n:=by
 unfold ixN at h
 by_cases h0:0<=i
 .rw[qD h0] at h
  by_cases h1:i<n
  .rw[qD h1] at h
   have e:i.toNat=j:=qR h
   exact⟨by rw[seqIndex_of h0 h1,e],by omega,by omega,h1⟩
  .rw[qy h1] at h;cases h
 .rw[qy h0] at h
  by_cases h1 : -(n:Int)<=i
  .rw[qD h1] at h
   have e:(i+n).toNat=j:=qR h
   exact⟨by rw[seqIndex_neg (by omega) h1,e],by omega,h1,by omega⟩
  .rw[qy h1] at h;cases h
theorem QbH{α:Type}{xs:List α}{i:Int}{v:α}(h:atI xs i=some v):∃j,seqIndex? i xs.length=some j/\xs[j]?=some v/\j<xs.length/\-(xs.length:Int)<=i/\i<xs.length:=by
 unfold atI at h
 cases e:ixN xs.length i with
 | none=>rw[e] at h;cases h
 | some j =>
   rw[e] at h
   obtain⟨h1,h2,h3,h4⟩:=Qfn e
   exact⟨j,h1,h,h2,h3,h4⟩
theorem Qu{α:Type}{xs:List α}{j:Nat}{v:α}(h:xs[j]?=some v):atI xs (j:Int)=some v:=by
 have hj:j<xs.length:=(zp.mp h).1
 have e:ixN xs.length (j:Int)=some j:=by
  unfold ixN
  rw[qD (by omega),qD (by omega)];simp
 unfold atI;rw[e];exact h
def QkX(b:Expr):Prop:=∀o i,subscripted b false o i=operate [o,i] (getItem o i)
def IxR(X:Cx)(r:R2):Prop :=
 ∀(value slice:Expr)(pins:List (Addr×Obj))(s:Shared)(σ:St)(H:Hp)(x y:V)(v u:Value)(Q:VK),Inv X pins σ H s->QI x v->QI y u->r x y H Q ->
  subscripted slice false v u=operate [v,u] (getItem v u)->wpAny (model X.prog X.w) X.A (subscriptTail value slice v u) (EP X pins σ Q) X.xe s
def MtR(X:Cx)(id:String)(r:V->List V->Hp->VK->Prop):Prop :=
 ∀(pins:List (Addr×Obj))(s:Shared)(σ:St)(H:Hp)(x:V)(xs:List V)(v:Value)(us:QvZ)(Q:VK),Inv X pins σ H s->QI x v->QF xs us->r x xs H Q ->
  wpAny (model X.prog X.w) X.A (call (.builtin id) (v :: us)) (EP X pins σ Q) X.xe s
section
variable {X:Cx}{a b:Expr}{ta tb:TE}{pos:Pos}
theorem Qr{r:R2}(hr:IxR X r)(ha:PE X a ta)(hb:PE X b tb)(hs:QkX b:=by exact fun _ _=>rfl):PE X (.Subscript a b pos) (tOp r ta tb):=by
 intro pins s σ H Q I h
 exact Subscript_ (QvG ha hb I h fun v u s2 x y H2 I2 rx ry q=>hr a b pins s2 σ H2 x y v u Q I2 rx ry q (hs _ _))
inductive QhS(K:Frag)(x:V)(y:V)(H:Hp)(Q:VK):Prop
 | mk:∀p xs i v,x=.ref p->y=.int i->jH K H p xs->atI xs i=some v->Q v H->QhS K x y H Q
def rIxL(K:Frag):R2:=fun x y H Q=>QhS K x y H Q
inductive QhQ(K:Frag)(x:V)(y:V)(H:Hp)(Q:VK):Prop
 | mk:∀p xs i v,x=.ref p->y=.int i->ye K H p xs->atI xs i=some v->Q v H->QhQ K x y H Q
def rIxT(K:Frag):R2:=fun x y H Q=>QhQ K x y H Q
inductive QhR(x:V)(y:V)(H:Hp)(Q:VK):Prop
 | mk:∀z i c,x=.str z->y=.int i->z.length<=sizeLine->atI z.cps.toList i=some c->Q (.str ⟨#[c]⟩) H->QhR x y H Q
def rIxS:R2:=fun x y H Q=>QhR x y H Q
theorem QR:IxR X (rIxL X.K):=by
 intro value slice pins s σ H x y v u Q I rx ry h hs
 obtain⟨p,xs,i,z,rfl,rfl,hq,he,q⟩:=h
 cases rx
 obtain⟨t,rfl⟩:=ry
 obtain⟨its,r,pl,hz⟩:=I.list hq
 obtain⟨j,h1,h2,h3,h4,h5⟩:=QbH he
 obtain⟨w,ew,rw'⟩:=r.get h2
 have hl:=r.length
 have hn:=VU
 have fin:EP X pins σ Q w s:=⟨z,H,I,rw',q⟩
 by_cases h0:0<=i
 .have hj:i.toNat=j:=by
   rw[seqIndex_of h0 h5] at h1
   exact qR h1
  exact item_listR pl.isList h0 (by omega) (by rw[hj];simpa using ew) fin hs
 .have hj:(i+(its.toArray.size:Int)).toNat=j:=by
   rw[seqIndex_neg (by omega) h4] at h1
   rw[qZ,<-hl]
   exact qR h1
  exact subscriptTail_builtinR (x:=w) pl.isList.typeIs slot_list_getitem.lookup
   (wpAny_getItem_list_neg (Q:=fun r s'=>r=w/\EP X pins σ Q r s') pl.isList (by omega) (by rw[qZ] <;> omega) (by omega) (by rw[hj];simpa using ew) ⟨rfl,fin⟩) hs
theorem QN:IxR X (rIxT X.K):=by
 intro value slice pins s σ H x y v u Q I rx ry h hs
 obtain⟨p,xs,i,z,rfl,rfl,hq,he,q⟩:=h
 cases rx
 obtain⟨t,rfl⟩:=ry
 obtain⟨its,r,pl,hz⟩:=I.tuple hq
 obtain⟨j,h1,h2,h3,h4,h5⟩:=QbH he
 obtain⟨w,ew,rw'⟩:=r.get h2
 have hl:=r.length
 have hn:=VU
 have fin:EP X pins σ Q w s:=⟨z,H,I,rw',q⟩
 exact subscriptTail_builtinR (x:=w) pl.typeIs slot_tuple_getitem.lookup
  (getItem_tuple (j:=j) (Q:=fun r s'=>r=w/\EP X pins σ Q r s') pl (by omega) (by omega) (by rw[qZ,<-hl];exact h1) (by simpa using ew) ⟨rfl,fin⟩) hs
theorem QiV:IxR X rIxS:=by
 intro value slice pins s σ H x y v u Q I rx ry h hs
 obtain⟨z,i,c,rfl,rfl,hz,he,q⟩:=h
 obtain⟨t,rfl⟩:=rx
 obtain⟨t',rfl⟩:=ry
 obtain⟨j,h1,h2,h3,h4,h5⟩:=QbH he
 have hl:z.cps.toList.length=z.length:=by simp[Str.length]
 rw[hl] at h1 h4 h5
 have hn:=VU
 exact tail_any (typeIs_str s z t) slot_str_getitem.lookup (getItem_str (c:=c) (by
  have e1:decide (i < -(2 ^ 63:Int))=false:=qF (by omega)
  have e2:decide (i>=2 ^ 63)=false:=qF (by omega)
  rw[e1,e2,Bool.or_false]) (by rw[h1];simpa using h2) ⟨.str ⟨#[c]⟩,H,I.tok _,⟨_,rfl⟩,q⟩) hs
theorem Qd5(its:QvZ)(n j:Nat)(u:Value):Obj.mapSeq (·.setIfInBounds j u) { cls:=.type "list",data:=.seq its.toArray n }={ cls:=.type "list",data:=.seq (its.set j u).toArray n }:=by
 simp[Obj.mapSeq]
theorem Inv.lst{pins:List (Addr×Obj)}{σ:St}{H:Hp}{s:Shared}{p:Addr}{xs:List V}(I:Inv X pins σ H s)(h:H p=some (.lst xs)) :
 ∃(its:QvZ)(n:Nat),QF xs its/\s.heap.get? p=some { cls:=.type "list",data:=.seq its.toArray n }/\xs.length<=sizeLine:=by
 obtain⟨z,its,n,r,e⟩:=I.hok p _ h
 exact⟨its,n,r,e,z⟩
theorem Inv.Qvo{pins:List (Addr×Obj)}{σ:St}{H:Hp}{s:Shared}{p:Addr}{xs ys:List V}{its its':QvZ}{n n':Nat}{f:Obj->Obj}(I:Inv X pins σ H s)(h:H p=some (.lst xs))
 (ho:s.heap.get? p=some { cls:=.type "list",data:=.seq its.toArray n }) (hf:f { cls:=.type "list",data:=.seq its.toArray n }={ cls:=.type "list",data:=.seq its'.toArray n' }) (r:QF ys its') (hz:ys.length<=sizeLine) (t:Nat) :
 Inv X pins σ (upd H p (.lst ys)) { s with heap:=s.heap.update p f,toks:=t }:=by
 have e:(s.heap.update p f).get? p=some { cls:=.type "list",data:=.seq its'.toArray n' }:=by
  rw[jt f ho (by rw[hf] <;> rfl),hf]
 refine I.write (x:=p) (e:=p) (by rw[h];trivial) (.inl rfl) (fun b u hb q=>(xq _ _ (xH hb)).trans q) ⟨_,e⟩ ?_
 exact⟨hz,its',n',r,e⟩
inductive Qe2(o:V)(i:V)(v:V)(H:Hp)(Q:(Hp->Prop)):Prop
 | mk:∀p xs k j,o=.ref p->i=.int k->H p=some (.lst xs)->ixN xs.length k=some j->Q (upd H p (.lst (xs.set j v)))->Qe2 o i v H Q
def rSetL:V->V->V->Hp->(Hp->Prop)->Prop:=fun o i v H Q=>Qe2 o i v H Q
theorem Uc:PSet X rSetL:=by
 intro pins s σ H o i v ov iv u Q I ro ri rv h
 obtain⟨p,xs,k,j,rfl,rfl,hp,hj,q⟩:=h
 cases ro
 obtain⟨t,rfl⟩:=ri
 obtain⟨its,n,r,ho,hz⟩:=I.lst hp
 obtain⟨h1,h2,h3,h4⟩:=Qfn hj
 have hl:=r.length
 have hn:=VU
 have I':Inv X pins σ (upd H p (.lst (xs.set j v))) { s with heap:=s.heap.update p (Obj.mapSeq (·.setIfInBounds j u)) } :=
  I.Qvo hp ho (Qd5 its n j u) (r.set rv j) (by rw[Qp9];exact hz) s.toks
 by_cases h0:0<=k
 .have hk:k.toNat=j:=by
   rw[seqIndex_of h0 h4] at h1
   exact qR h1
  exact PySem.W.ki_setAt ho h0 (by omega) (by rw[qZ,<-hl];exact h4) (by rw[hk];exact⟨_,I',q⟩)
 .have hk:(k+(its.toArray.size:Int)).toNat=j:=by
   rw[seqIndex_neg (by omega) h3] at h1
   rw[qZ,<-hl]
   exact qR h1
  exact PySem.W.ki_setBack ho (by omega) (by rw[qZ,<-hl];exact h3) (by omega) (by rw[hk];exact⟨_,I',q⟩)
theorem Qa9(lo hi:Option Int)(n:Nat):(sliceBounds lo hi none n).1=((HT.vq n 0 lo:Nat):Int)/\(sliceBounds lo hi none n).2.1=((HT.vq n n hi:Nat):Int)/\(sliceBounds lo hi none n).2.2=1:=by
 refine⟨?_,?_,rfl⟩
 .cases lo with
  | none=>simp[sliceBounds,HT.vq]
  | some i =>
    simp only[sliceBounds,HT.vq,Option.getD_none,show(1:Int) > 0 by decide,gf]
    by_cases h:i<0
    .simp only[h,gf] <;> omega
    .simp only[h,yX] <;> omega
 .cases hi with
  | none=>simp[sliceBounds,HT.vq]
  | some i =>
    simp only[sliceBounds,HT.vq,Option.getD_none,show(1:Int) > 0 by decide,gf]
    by_cases h:i<0
    .simp only[h,gf] <;> omega
    .simp only[h,yX] <;> omega
theorem GI(its:QvZ)(lo hi:Option Int):slicePick its.toArray lo hi none=((its.drop (HT.vq its.length 0 lo)).take (HT.vq its.length its.length hi - HT.vq its.length 0 lo)).toArray:=by
 obtain⟨h1,h2,h3⟩:=Qa9 lo hi its.toArray.size
 unfold slicePick
 rw[h1,h2,h3]
 simp only[sliceRange_one,pick_run,qZ] <;> rfl
inductive QhN(K:Frag)(x:V)(lo:Option Int)(hi:Option Int)(H:Hp)(Q:VK):Prop
 | mk:∀a xs,x=.ref a->jH K H a xs->(∀p,H p=none->Q (.ref p) (upd H p (.lst (XQ xs lo hi))))->QhN K x lo hi H Q
def rSlL(K:Frag):V->Option Int->Option Int->Hp->VK->Prop:=fun x lo hi H Q=>QhN K x lo hi H Q
theorem Qj6:SlR X (rSlL X.K):=by
 intro pins s σ H x v vl vu lo hi sl Q I rx hs pl pu h
 obtain⟨a,xs,rfl,hx,q⟩:=h
 cases rx
 obtain⟨its,r,ht,hz⟩:=I.list hx
 have hlen:=r.length
 refine⟨"list",_,slot_list_getitem.lookup,ht.isList.typeIs,?_⟩
 refine wpAny_getItem_list_slice ht.isList hs pl pu .none (by simp) ?_ (by rw[qZ] <;> omega)
 rw[GI,<-hlen]
 refine⟨.ref s.heap.objs.size,_,I.laid (t':=s.toks) (o:=.lst (XQ xs lo hi)) (fun b ob q=>qm _ q) (qt _) ?_,rfl,q _ (I.hok.fresh (qt _))⟩
 exact⟨zx (XB xs lo hi) hz,_,0,(r.drop (HT.vq xs.length 0 lo)).take (HT.vq xs.length xs.length hi - HT.vq xs.length 0 lo),qH _ rfl⟩
def Xy:V->Bool
 | .non=>true
 | .bl _=>true
 | .int _=>true
 | .str _=>true
 | _=>false
def eqV:V->V->Bool
 | .non,.non=>true
 | .bl a,.bl b=>a == b
 | .bl a,.int b=>(if a then 1 else 0) == b
 | .int a,.bl b=>a == (if b then 1 else 0)
 | .int a,.int b=>a == b
 | .str a,.str b=>a == b
 | _,_=>false
theorem Qmr{A:Around}{s:Shared}{y x:V}{u v:Value}(ry:QI y u)(rx:QI x v)(fy:Xy y=true)(fx:Xy x=true):SeqAt.EqAt A s u v (eqV y x):=by
 cases y with
 | non =>
   cases ry
   cases x with
   | non=>cases rx;exact SeqAt.EqAt.same _
   | bl b=>cases rx;exact SeqAt.EqAt.none_bool b
   | int b=>obtain⟨t,rfl⟩:=rx;exact SeqAt.EqAt.none_int b t
   | str b=>obtain⟨t,rfl⟩:=rx;exact SeqAt.EqAt.none_str b t
   | _=>exact absurd (show false=true from fx) qJ
 | bl a =>
   cases ry
   cases x with
   | non=>cases rx;exact SeqAt.EqAt.bool_none a
   | bl b=>cases rx;exact SeqAt.EqAt.bool_bool a b
   | int b=>obtain⟨t,rfl⟩:=rx;exact SeqAt.EqAt.bool_int a b t
   | str b=>obtain⟨t,rfl⟩:=rx;exact SeqAt.EqAt.bool_str a b t
   | _=>exact absurd (show false=true from fx) qJ
 | int a =>
   obtain⟨t',rfl⟩:=ry
   cases x with
   | non=>cases rx;exact SeqAt.EqAt.int_none a t'
   | bl b=>cases rx;exact SeqAt.EqAt.int_bool a t' b
   | int b=>obtain⟨t,rfl⟩:=rx;exact SeqAt.EqAt.int_int a t' b t
   | str b=>obtain⟨t,rfl⟩:=rx;exact SeqAt.EqAt.int_str a t' b t
   | _=>exact absurd (show false=true from fx) qJ
 | str a =>
   obtain⟨t',rfl⟩:=ry
   cases x with
   | non=>cases rx;exact SeqAt.EqAt.str_none a t'
   | bl b=>cases rx;exact SeqAt.EqAt.str_bool a t' b
   | int b=>obtain⟨t,rfl⟩:=rx;exact SeqAt.EqAt.str_int a t' b t
   | str b=>obtain⟨t,rfl⟩:=rx;exact SeqAt.EqAt.str_str a t' b t
   | _=>exact absurd (show false=true from fx) qJ
 | _=>exact absurd (show false=true from fy) qJ
def eqU(x:V)(u:Value):Bool:=match u with
 | .none=>eqV .non x
 | .bool b=>eqV (.bl b) x
 | .int i _=>eqV (.int i) x
 | .str z _=>eqV (.str z) x
 | _=>false
theorem Qjg{x y:V}{u:Value}(r:QI y u)(f:Xy y=true):eqU x u=eqV y x:=by
 cases y with
 | non=>cases r;rfl
 | bl b=>cases r;rfl
 | int i=>obtain⟨t,rfl⟩:=r;rfl
 | str z=>obtain⟨t,rfl⟩:=r;rfl
 | _=>exact absurd (show false=true from f) qJ
theorem Wy{x:V}:∀{xs:List V}{us:QvZ},QF xs us->xs.all Xy=true->us.any (eqU x)=xs.any fun y=>eqV y x
 | _,_,.nil,_=>rfl
 | y :: xs,u :: us,.cons r t,f=>by
   rw[List.all_cons,zQ] at f
   rw[v8,v8,Qjg r f.1,Wy t f.2]
theorem U6{A:Around}{s:Shared}{x:V}{v:Value}(rx:QI x v)(fx:Xy x=true):∀{xs:List V}{us:QvZ},QF xs us->xs.all Xy=true->∀u∈us,SeqAt.EqAt A s u v (eqU x u)
 | _,_,.nil,_=>fun u hu=>by cases hu
 | y :: xs,u :: us,.cons r t,f=>fun u' hu=>by
   rw[List.all_cons,zQ] at f
   rcases qG.mp hu with rfl | hu
   .rw[Qjg r f.1];exact Qmr r rx f.1 fx
   .exact U6 rx fx t f.2 u' hu
def inV(x:V)(xs:List V):Bool:=xs.any fun y=>eqV y x
inductive Qk6(K:Frag)(neg:Bool)(x:V)(y:V)(H:Hp)(Q:VK):Prop
 | mk:∀p xs,y=.ref p->(jH K H p xs\/ye K H p xs)->Xy x=true->xs.all Xy=true->Q (.bl (if neg then !inV x xs else inV x xs)) H->Qk6 K neg x y H Q
def rIn(K:Frag)(neg:Bool):R2:=fun x y H Q=>Qk6 K neg x y H Q
theorem Qge:OpR X (compareOp .In) (rIn X.K false):=by
 intro pins s σ H x y v u Q I rx ry h
 obtain⟨p,xs,rfl,hq,fx,fs,q⟩:=h
 cases ry
 rcases hq with hq | hq
 .obtain⟨its,r,pl,hz⟩:=I.list hq
  refine SeqAt.in_listAt (eqU x) pl.isList (fun w hw=>U6 rx fx r fs w (by simpa using hw)) ⟨.bl _,H,I,rfl,?_⟩
  rw[show its.toArray.any (eqU x)=its.any (eqU x) by simp,Wy r fs]
  exact q
 .obtain⟨its,r,pl,hz⟩:=I.tuple hq
  refine SeqAt.in_tupleAt (eqU x) pl (fun w hw=>U6 rx fx r fs w (by simpa using hw)) ⟨.bl _,H,I,rfl,?_⟩
  rw[show its.toArray.any (eqU x)=its.any (eqU x) by simp,Wy r fs]
  exact q
theorem Qbq:OpR X (compareOp .NotIn) (rIn X.K true):=by
 intro pins s σ H x y v u Q I rx ry h
 obtain⟨p,xs,rfl,hq,fx,fs,q⟩:=h
 cases ry
 rcases hq with hq | hq
 .obtain⟨its,r,pl,hz⟩:=I.list hq
  refine SeqAt.notIn_listAt (eqU x) pl.isList (fun w hw=>U6 rx fx r fs w (by simpa using hw)) ⟨.bl _,H,I,rfl,?_⟩
  rw[show its.toArray.any (eqU x)=its.any (eqU x) by simp,Wy r fs]
  exact q
 .obtain⟨its,r,pl,hz⟩:=I.tuple hq
  refine SeqAt.notIn_tupleAt (eqU x) pl (fun w hw=>U6 rx fx r fs w (by simpa using hw)) ⟨.bl _,H,I,rfl,?_⟩
  rw[show its.toArray.any (eqU x)=its.any (eqU x) by simp,Wy r fs]
  exact q
theorem Zx:JD X (.builtin "len") (fun xs H Q=>∃p ys,xs=[.ref p]/\(jH X.K H p ys\/ye X.K H p ys)/\Q (.int ys.length) H):=by
 intro pins s σ H xs us Q I r h
 obtain⟨p,ys,rfl,hq,q⟩:=h
 obtain⟨u,rfl,rx⟩:=YQ r
 cases rx
 have hn:=VU
 rcases hq with hq | hq
 .obtain⟨its,r',pl,hz⟩:=I.list hq
  have hlen:=r'.length
  exact Calls.call_len_list pl.isList (by simp only[qZ] <;> omega) ⟨.int ys.length,H,I.tok _,⟨s.toks+1,by rw[qZ,hlen]⟩,q⟩
 .obtain⟨its,r',pl,hz⟩:=I.tuple hq
  have hlen:=r'.length
  exact len_tuple pl (by simp only[qZ] <;> omega) ⟨.int ys.length,H,I.tok _,⟨s.toks+1,by rw[qZ,hlen]⟩,q⟩
theorem Yp:JD X (.builtin "len") (fun xs H Q=>∃z,xs=[.str z]/\z.length<=sizeLine/\Q (.int z.length) H):=by
 intro pins s σ H xs us Q I r h
 obtain⟨z,rfl,hz,q⟩:=h
 obtain⟨u,rfl,t,rfl⟩:=YQ r
 have hn:=VU
 exact len_str (by omega) ⟨.int z.length,H,I.tok _,⟨_,rfl⟩,q⟩
def tyV(K:Frag)(T:String)(x:V)(H:Hp):Prop:=match x with
 | .str _=>T="str"
 | .int _=>T="int"
 | .ref p=>(T="list"/\∃xs,jH K H p xs)\/(T="tuple"/\∃o,K.lookup p=some o/\o.cls=.type "tuple"/\o.dict=none) \/
    (T="dict"/\((∃kvs,H p=some (.dK kvs))\/∃kvs,H p=some (.dT kvs)))\/(T="set"/\∃S n,H p=some (.set S n))
 | _=>False
theorem Qhb{pins:List (Addr×Obj)}{σ:St}{H:Hp}{s:Shared}{T:String}{x:V}{v:Value}(I:Inv X pins σ H s)(r:QI x v)(ty:tyV X.K T x H) :
 s.TypeIs v T/\∀a,v=.ref a->∃ob,s.heap.get? a=some ob/\ob.dict=none:=by
 cases x with
 | str z =>
   obtain⟨t,rfl⟩:=r
   cases (show T="str" from ty)
   exact⟨typeIs_str s z t,fun _ e=>nomatch e⟩
 | int i =>
   obtain⟨t,rfl⟩:=r
   cases (show T="int" from ty)
   exact⟨typeIs_int s i t,fun _ e=>nomatch e⟩
 | ref p =>
   cases r
   rcases ty with⟨rfl,xs,hq⟩ | ⟨rfl,o,hk,hc,hd⟩ | ⟨rfl,hk⟩ | ⟨rfl,S,n,hk⟩
   .obtain⟨its,_,pl,_⟩:=I.list hq
    refine⟨pl.isList.typeIs,fun a e=>?_⟩
    cases e
    obtain⟨o,n,e,c,hd,_⟩:=pl
    exact⟨o,e,hd⟩
   .refine⟨⟨o,I.kIn p o hk,hc⟩,fun a e=>?_⟩
    cases e
    exact⟨o,I.kIn _ o hk,hd⟩
   .have z:∃o,s.heap.get? p=some o/\o.ExactDict:=by
     rcases hk with⟨kvs,hk⟩ | ⟨kvs,hk⟩
     .obtain⟨_,_,_,_,o,_,_,e,ex,_⟩:=I.hok p _ hk
      exact⟨o,e,ex⟩
     .obtain⟨_,_,_,_,o,_,_,e,ex,_⟩:=I.hok p _ hk
      exact⟨o,e,ex⟩
    obtain⟨o,e,ex⟩:=z
    refine⟨⟨o,e,ex.1⟩,fun a e2=>?_⟩
    cases e2
    exact⟨o,e,ex.2.1⟩
   .obtain⟨o,_,_,_,e,ex,_⟩:=I.hok p _ hk
    refine⟨⟨o,e,ex.1⟩,fun a e2=>?_⟩
    cases e2
    exact⟨o,e,ex.2.1⟩
 | _=>exact False.elim ty
def tBM0(K:Frag)(T:String)(r:V->List V->Hp->VK->Prop)(to:TE):TE:=fun σ H Q=>to σ H fun x H1=>tyV K T x H1/\r x [] H1 Q
def tBM(K:Frag)(T:String)(r:V->List V->Hp->VK->Prop)(to:TE)(t:TA):TE:=fun σ H Q=>to σ H fun x H1=>tyV K T x H1/\t σ H1 fun xs H2=>r x xs H2 Q
variable {o e:Expr}{es:List Expr}{to:TE}{t:TA}{name:Str}{apos cpos:Pos}{T id:String}{r:V->List V->Hp->VK->Prop}
theorem QdO(pa:PlainAttrs T)(slot:Slot T name id)(hty:typeOf (.builtin id)=pure (.type "method_descriptor"))(hm:MtR X id r)(ho:PE X o to)
 (hbase:attributeBase o name X.env (eval o X.env)=eval o X.env:=by rfl) (hline:(apos.endLine == cpos.line)=true:=by rfl):PE X (.Call (.Attribute o name apos) [] [] cpos) (tBM0 X.K T r to):=by
 intro pins s σ H Q I h
 refine wpAny_Call_method0_late hbase hline (jO (ho pins s σ H _ I h) fun v s1 ⟨x,H1,I1,r1,ty,q1⟩=>?_)
 obtain⟨h1,h2⟩:=Qhb I1 r1 ty
 exact⟨T,id,pa,slot,hty,h1,h2,xu rfl (PySem.evalArgs_none (hm pins s1 σ H1 x [] v [] Q I1 r1 .nil q1))⟩
theorem QaE(pa:PlainAttrs T)(slot:Slot T name id)(hty:typeOf (.builtin id)=pure (.type "method_descriptor"))(hm:MtR X id r)(ho:PE X o to)(ha:PA X (e :: es) t)
 (hbase:attributeBase o name X.env (eval o X.env)=eval o X.env:=by rfl)
 (hfew:((backTo cpos (starEach (e :: es) X.env)).all (fun x=>!x.1) && (backToKw cpos (keywordEach [] X.env)).all (fun x=>x.1.isSome)
   && decide ((e :: es).length+([]:List Keyword).length+(if ([]:List Keyword).isEmpty then 0 else 1)<30))=true:=by rfl)
 (hline:(apos.endLine == cpos.line)=true:=by rfl) (hs:starEach (e :: es) X.env=(false,eval e X.env) :: starEach es X.env:=by rfl) (hplain:(backTo cpos (starEach es X.env)).any (·.1)=false:=by rfl) :
 PE X (.Call (.Attribute o name apos) (e :: es) [] cpos) (tBM X.K T r to t):=by
 intro pins s σ H Q I h
 refine wpAny_Call_method_late hbase hfew hline rfl (jO (ho pins s σ H _ I h) fun v s1 ⟨x,H1,I1,r1,ty,q1⟩=>?_)
 obtain⟨h1,h2⟩:=Qhb I1 r1 ty
 refine⟨T,id,pa,slot,hty,h1,h2,?_⟩
 have hA:=ha cpos pins s1 σ H1 _ I1 q1
 rw[hs] at hA ⊢
 refine xu (by show(false || (backTo cpos (starEach es X.env)).any (·.1))=false;rw[hplain] <;> rfl) (kW ?_)
 exact jO hA fun us s2 ⟨vs,H2,I2,r2,q2⟩=>hm pins s2 σ H2 x vs v us Q I2 r1 r2 q2
end
end L2
namespace L2
open PySem PySem.Spec PyProof.Rows
def MtM(X:Cx)(id:String)(r:V->List V->Hp->VK->Prop):Prop :=
 ∀(pins:List (Addr×Obj))(s:Shared)(σ:St)(H:Hp)(x:V)(xs:List V)(v:Value)(us:QvZ)(Q:VK),Inv X pins σ H s->QI x v->QF xs us->r x xs H Q ->
  wpAny (model X.prog X.w) X.A (call (.builtin id) (v :: us)) (EP X pins σ Q) X.xe s
theorem QF.one:∀{x:V}{us:QvZ},QF [x] us->∃u,us=[u]/\QI x u
 | _,_,.cons r .nil=>⟨_,rfl,r⟩
theorem QF.rep{xs:List V}{us:QvZ}(h:QF xs us):∀k:Nat,QF (List.replicate k xs).flatten (List.replicate k us).flatten
 | 0=>.nil
 | k+1=>by
   rw[yE,yE,xJ,xJ]
   exact QF.append h (QF.rep h k)
theorem QaX(its:QvZ):∀(k:Nat)(acc:QvZ),
 List.foldl (fun x1 x2=>x1++x2) acc.toArray (List.replicate k its.toArray)=(acc++(List.replicate k its).flatten).toArray
 | 0,acc=>by simp
 | k+1,acc=>by
   have e:acc.toArray++its.toArray=(acc++its).toArray:=by simp
   have e2:(acc++its)++(List.replicate k its).flatten=acc++(List.replicate (k+1) its).flatten:=by
    rw[yE,xJ,Qoz]
   rw[<-e2,<-QaX its k (acc++its),<-e,yE,jl]
section
variable {X:Cx}{pins:List (Addr×Obj)}{σ:St}{H:Hp}{s:Shared}{l b:Addr}{xs ys zs:List V}
theorem Inv.lset{its its':QvZ}{n:Nat}{f:Array Value->Array Value}{t':Nat}(I:Inv X pins σ H s)(hH:H l=some (.lst xs))
 (e:s.heap.get? l=some { cls:=.type "list",data:=.seq its.toArray n }) (hf:f its.toArray=its'.toArray) (hv:QF ys its') (hz:ys.length<=sizeLine) :
 Inv X pins σ (upd H l (.lst ys)) { s with heap:=s.heap.update l (Obj.mapSeq f),toks:=t' }:=by
 have q:=PySem.IsL.update e f
 rw[hf] at q
 refine I.write (x:=l) (e:=l) (by rw[hH];exact trivial) (.inl rfl) (fun b' u hb hu=>(xq s.heap (Obj.mapSeq f) (xH hb)).trans hu) ⟨_,q⟩ ?_
 exact⟨hz,its',_,hv,q⟩
theorem Inv.Que{its:QvZ}{t':Nat}(I:Inv X pins σ H s)(hv:QF ys its)(hz:ys.length<=sizeLine) :
 Inv X pins σ (upd H s.heap.objs.size (.lst ys)) { s with heap:=s.heap.push { cls:=.type "list",data:=.seq its.toArray },toks:=t' } :=
 I.laid (fun _ _ q=>qm _ q) (qt _) ⟨hz,its,0,hv,qH _ rfl⟩
theorem Inv.fresh(I:Inv X pins σ H s):H s.heap.objs.size=none:=I.hok.fresh (qt _)
theorem Inv.lstM(I:Inv X pins σ H s)(hH:H l=some (.lst xs)):xs.length<=sizeLine/\∃(its:QvZ)(n:Nat),QF xs its/\xs.length=its.length/\s.heap.get? l=some { cls:=.type "list",data:=.seq its.toArray n }:=by
 obtain⟨z,its,n,r,e⟩:=I.hok l _ hH
 exact⟨z,its,n,r,r.length,e⟩
theorem Qiy{n:Nat}(h:n<=sizeLine):Builtin.List.listTooLong n=false:=by
 unfold Builtin.List.listTooLong
 exact qF (by omega)
end
section
variable {X:Cx}
inductive QaD(x:V)(vs:List V)(H:Hp)(Q:VK):Prop
 | mk:∀l xs y,x=.ref l->vs=[y]->H l=some (.lst xs)->xs.length<sizeLine->Q .non (upd H l (.lst (xs++[y])))->QaD x vs H Q
def Qkc:V->List V->Hp->VK->Prop:=fun x vs H Q=>QaD x vs H Q
theorem Uj:MtM X "list.append" Qkc:=by
 intro pins s σ H x vs v us Q I rx rv h
 obtain⟨l,xs,y,rfl,rfl,hH,hz,q⟩:=h
 cases rx
 obtain⟨u,rfl,ru⟩:=rv.one
 obtain⟨z,its,n,r,hl,e⟩:=I.lstM hH
 refine call_meets F.slot_list_append ⟨_,e,rfl⟩ F.entry_list_append (F.args_list_append_2 _ _) (PySem.list_append l its.toArray n u (by rw[qZ];omega)) ⟨e,?_⟩
 refine⟨.non,_,I.lset (its':=its++[u]) hH e (by simp) (r.append (.cons ru .nil)) ?_,rfl,q⟩
 rw[qI,qT]
 omega
inductive QhP(x:V)(y:V)(H:Hp)(Q:VK):Prop
 | mk:∀l k xs,x=.ref l->y=.int k->H l=some (.lst xs)->-(2 ^ 63)<=k->k<2 ^ 63->xs.length*k.toNat<=sizeLine->(∀p,H p=none->Q (.ref p) (upd H p (.lst (List.replicate k.toNat xs).flatten)))->QhP x y H Q
def rRep:R2:=fun x y H Q=>QhP x y H Q
theorem QkB{α:Type}(xs:List α)(k:Nat):(List.replicate k xs).flatten.length=k*xs.length:=by
 induction k with
 | zero=>simp
 | succ k ih=>rw[yE,xJ,qI,ih,Nat.succ_mul,Nat.add_comm]
theorem Ql2:OpR X (binaryOp .Mult) rRep:=by
 intro pins s σ H x y v u Q I rx ry h
 obtain⟨l,k,xs,rfl,rfl,hH,h1,h2,hz,q⟩:=h
 cases rx
 obtain⟨t,rfl⟩:=ry
 obtain⟨z,its,n,r,hl,e⟩:=I.lstM hH
 have hlen:its.toArray.size*k.toNat<=sizeLine:=by rw[qZ,<-hl];exact hz
 have hcap:¬its.toArray.size*k.toNat > (2 ^ 63 - 1) / 8:=by
  have:(sizeLine:Nat)<=(2 ^ 63 - 1) / 8:=by decide
  omega
 have hfit:¬(!Builtin.List.listFitsIndex k)=true:=by
  rw[fitsIndex_both h1 h2]
  exact qJ
 have hlong:¬Builtin.List.listTooLong (its.toArray.size*k.toNat)=true:=by
  rw[Qiy hlen]
  exact qJ
 have hnew:List.foldl (fun x1 x2=>x1++x2) #[] (List.replicate (if its.toArray.isEmpty=true then 0 else k.toNat) its.toArray)=(List.replicate k.toNat its).flatten.toArray:=by
  have f0:∀m:Nat,List.foldl (fun x1 x2=>x1++x2) #[] (List.replicate m its.toArray)=(List.replicate m its).flatten.toArray:=fun m=>by
   have:=QaX its m []
   rw[List.nil_append] at this
   exact this
  rw[f0]
  cases its with
  | nil=>simp
  | cons a r'=>rw[qy (by simp)]
 refine wpAny_binaryOp_repeat_ref (T:="list") (U:="int") (by decide) ⟨_,e,rfl⟩ (fun s'=>typeIs_int s' k t) noFill_list_mul F.fills_int_mul F.slot_int_rmul repeat_list F.slot_int_index.lookup
  (call_meets F.slot_int_rmul (typeIs_int s k t) F.entry_int_rmul (F.args_int_rmul_2 _ _) (int___rmul___int_list k t l its.toArray n)
    ⟨e,rfl,⟨_,e,rfl⟩,call_meets F.slot_list_mul ⟨_,e,rfl⟩ F.entry_list_mul (F.args_list_mul_2 _ _) (AutoListH.list___mul___list_int_3 l its.toArray n k t hfit hcap hlong) ⟨e,?_⟩⟩)
 rw[hnew]
 exact⟨.ref _,_,I.Que (t':=s.toks) (r.rep k.toNat) (by rw[QkB,Nat.mul_comm];exact hz),rfl,q _ I.fresh⟩
end
section
variable {prog:Program}{w:World}{A:Around}{E:QvY}{s:Shared}
end
section
variable {X:Cx}
end
end L2
namespace L2
open PySem PySem.Spec PyProof.Rows
section
variable {κ:Type}[DecidableEq κ]
def Qt(kvs:List (κ×V))(k:κ):Option V:=(kvs.find? fun kv=>decide (kv.1=k)).map (·.2)
def Za(kvs:List (κ×V))(k:κ)(v:V):List (κ×V) :=
 if (kvs.any fun kv=>decide (kv.1=k))=true then kvs.map (fun kv=>if kv.1=k then (kv.1,v) else kv) else kvs++[(k,v)]
def ZS(kvs:List (κ×V))(k:κ):List (κ×V):=kvs.filter fun kv=>decide (kv.1≠k)
theorem Zm{p:κ×V}{r:List (κ×V)}{k:κ}(e:p.1=k):Qt (p :: r) k=some p.2:=by simp[Qt,yu,e]
theorem Zf{p:κ×V}{r:List (κ×V)}{k:κ}(e:¬p.1=k):Qt (p :: r) k=Qt r k:=by simp[Qt,yu,e]
theorem Yz(k:κ):∀kvs:List (κ×V),(kvs.any fun kv=>decide (kv.1=k))=(Qt kvs k).isSome
 | []=>rfl
 | p :: r=>by
   rw[v8]
   by_cases e:p.1=k
   .simp only[Zm e,qp e,Bool.true_or,Option.isSome_some]
   .rw[Zf e,qF e,Bool.false_or];exact Yz k r
theorem QbO(k j:κ)(y:V):∀kvs:List (κ×V),Qt (kvs.map fun kv=>if kv.1=k then (kv.1,y) else kv) j=(Qt kvs j).map fun x=>if j=k then y else x
 | []=>rfl
 | p :: r=>by
   have ih:=QbO k j y r
   rw[qW]
   by_cases h:p.1=k
   .rw[qD h]
    by_cases e:p.1=j
    .rw[Zm (p:=(p.1,y)) e,Zm e,Qqa,qD (e.symm.trans h)]
    .rw[Zf (p:=(p.1,y)) e,Zf e,ih]
   .rw[qy h]
    by_cases e:p.1=j
    .rw[Zm (p:=p) e,Zm e,Qqa,qy (fun z=>h (e.trans z))]
    .rw[Zf (p:=p) e,Zf e,ih]
theorem WE(k j:κ)(y:V):∀kvs:List (κ×V),Qt kvs k=none->Qt (kvs++[(k,y)]) j=if j=k then some y else Qt kvs j
 | [],_=>by
   by_cases e:k=j
   .rw[qD e.symm];exact Zm (p:=(k,y)) e
   .rw[qy (fun z=>e z.symm)];exact Zf (p:=(k,y)) e
 | p :: r,hn=>by
   rw[List.cons_append]
   have hk:¬p.1=k:=fun z=>by rw[Zm z] at hn;cases hn
   rw[Zf hk] at hn
   have ih:=WE k j y r hn
   by_cases e:p.1=j
   .rw[Zm e,Zm e,qy (fun z=>hk (e.trans z))]
   .rw[Zf e,Zf e,ih]
theorem QbN(kvs:List (κ×V))(k j:κ)(y:V):Qt (Za kvs k y) j=if j=k then some y else Qt kvs j:=by
 unfold Za
 by_cases a:(kvs.any fun kv=>decide (kv.1=k))=true
 .rw[qD a,QbO]
  rw[Yz] at a
  by_cases e:j=k
  .obtain⟨x,hx⟩:=Option.isSome_iff_exists.mp a
   rw[qD e,e,hx,Qqa,qD rfl]
  .rw[qy e]
   cases Qt kvs j with
   | none=>rfl
   | some x=>rw[Qqa,qy e]
 .rw[qy a]
  refine WE k j y kvs ?_
  rw[Yz] at a
  cases q:Qt kvs k with
  | none=>rfl
  | some x=>rw[q] at a;exact(a rfl).elim
theorem JY(kvs:List (κ×V))(k:κ)(v:V):(Za kvs k v).length<=kvs.length+1:=by
 unfold Za
 split
 .rw[qi];omega
 .rw[qI,za,j7];omega
theorem Wm{kvs:List (κ×V)}{k:κ}(v:V)(h:Qt kvs k=none):Za kvs k v=kvs++[(k,v)]:=by
 unfold Za
 rw[Yz,h]
 exact qy (by decide)
theorem YO.uF{o:Option V}{u:Option Value}(r:YO o u):o.isSome=u.isSome:=by
 cases o with
 | none=>cases u with
   | none=>rfl
   | some _=>exact(show False from r).elim
 | some _=>cases u with
   | none=>exact(show False from r).elim
   | some _=>rfl
theorem YO.getD{o:Option V}{u:Option Value}{d:V}{d':Value}(r:YO o u)(rd:QI d d'):QI (o.getD d) (u.getD d'):=by
 cases o with
 | none=>cases u with
   | none=>exact rd
   | some _=>exact(show False from r).elim
 | some _=>cases u with
   | none=>exact(show False from r).elim
   | some _=>exact r
theorem KV.val{kvs:List (κ×V)}{vs:List (κ×Value)}(r:KV kvs vs)(k:κ):YO (Qt kvs k) (valueAt vs k):=by
 unfold KV at r
 induction r with
 | nil=>exact True.intro
 | @cons p q ps qs h t ih =>
   obtain⟨h1,h2⟩:=h
   by_cases e:p.1=k
   .have e':q.1=k:=h1.symm.trans e
    have b:valueAt (q :: qs) k=some q.2:=by simp[valueAt,yu,e']
    rw[Zm e,b];exact h2
   .have e':¬q.1=k:=fun z=>e (h1.trans z)
    have b:valueAt (q :: qs) k=valueAt qs k:=by simp[valueAt,yu,e']
    rw[Zf e,b];exact ih
theorem KV.any{kvs:List (κ×V)}{vs:List (κ×Value)}(r:KV kvs vs)(k:κ):(kvs.any fun kv=>decide (kv.1=k))=vs.any fun kv=>decide (kv.1=k):=by
 unfold KV at r
 induction r with
 | nil=>rfl
 | cons h t ih=>rw[v8,v8,ih,h.1]
theorem KV.repl{kvs:List (κ×V)}{vs:List (κ×Value)}(r:KV kvs vs)(k:κ){y:V}{u:Value}(ry:QI y u) :
 KV (kvs.map fun kv=>if kv.1=k then (kv.1,y) else kv) (vs.map fun kv=>if kv.1=k then (kv.1,u) else kv):=by
 unfold KV at r ⊢
 induction r with
 | nil=>exact .nil
 | @cons p q ps qs h t ih =>
   rw[qW,qW]
   refine .cons ?_ ih
   obtain⟨h1,h2⟩:=h
   by_cases e:p.1=k
   .rw[qD e,qD (h1.symm.trans e)];exact⟨h1,ry⟩
   .rw[qy e,qy (fun z=>e (h1.trans z))];exact⟨h1,h2⟩
theorem KV.put{kvs:List (κ×V)}{vs:List (κ×Value)}(r:KV kvs vs)(k:κ){y:V}{u:Value}(ry:QI y u):KV (Za kvs k y) (stored vs k u):=by
 unfold Za stored
 rw[r.any k]
 by_cases e:(vs.any fun kv=>decide (kv.1=k))=true
 .rw[qD e,qD e];exact r.repl k ry
 .rw[qy e,qy e];exact Paired.snoc r ⟨rfl,ry⟩
theorem KV.drop{kvs:List (κ×V)}{vs:List (κ×Value)}(r:KV kvs vs)(k:κ):KV (ZS kvs k) (without vs k):=by
 unfold KV at r ⊢
 unfold ZS without
 induction r with
 | nil=>exact .nil
 | @cons p q ps qs h t ih =>
   obtain⟨h1,h2⟩:=h
   rw[qX,qX]
   by_cases e:p.1=k
   .have a:¬decide (p.1≠k)=true:=by simp[e]
    have b:¬decide (q.1≠k)=true:=by simp[h1.symm.trans e]
    rw[qy a,qy b];exact ih
   .have e':¬q.1=k:=fun z=>e (h1.trans z)
    have a:decide (p.1≠k)=true:=by simp[e]
    have b:decide (q.1≠k)=true:=by simp[e']
    rw[qD a,qD b];exact .cons ⟨h1,h2⟩ ih
theorem KV.length{kvs:List (κ×V)}{vs:List (κ×Value)}(r:KV kvs vs):kvs.length=vs.length:=Paired.length r
theorem Qjj(kvs:List (κ×V))(k:κ):(ZS kvs k).length<=kvs.length:=q9 _ _
end
theorem VJ{P:Program}{w:World}{k:Key}{u:Value}(r:QI (kV k) u):(QU P w).is k u=true:=by
 cases k with
 | inl i=>obtain⟨t,e⟩:=(show ∃t,u=Value.int i t from r);subst e;exact QcL P w i t
 | inr x=>obtain⟨t,e⟩:=(show ∃t,u=Value.str x t from r);subst e;exact QcK P w x t
theorem QaU{P:Program}{w:World}:∀{ks:List Key}{us:QvZ},QF (ks.map kV) us->ItemsAre (QU P w) ks us
 | [],_,r=>by rw[List.map_nil] at r;cases r;exact .nil
 | k :: ks,_,r=>by
   rw[qW] at r
   cases r with
   | cons h t=>exact .cons (VJ h) (QaU t)
abbrev KT(H:Hp):List (List Key×V)->List (List Key×Addr×Value)->Prop:=Paired fun p q=>p.1=q.1/\H q.2.1=some (.tup (p.1.map kV))/\QI p.2 q.2.2
theorem KT.val{H:Hp}{kvs:List (List Key×V)}{xs:List (List Key×Addr×Value)}(r:KT H kvs xs)(k:List Key):YO (Qt kvs k) ((atKey xs k).map (·.2)):=by
 induction r with
 | nil=>exact True.intro
 | @cons p q ps qs h t ih =>
   obtain⟨h1,_,h2⟩:=h
   by_cases e:p.1=k
   .have e':q.1=k:=h1.symm.trans e
    have b:atKey (q :: qs) k=some q.2:=by simp[atKey,yu,e']
    rw[Zm e,b];exact h2
   .have e':¬q.1=k:=fun z=>e (h1.trans z)
    have b:atKey (q :: qs) k=atKey qs k:=by simp[atKey,yu,e']
    rw[Zf e,b];exact ih
theorem KT.repl{H:Hp}{kvs:List (List Key×V)}{xs:List (List Key×Addr×Value)}(r:KT H kvs xs)(k:List Key){y:V}{u:Value}(ry:QI y u) :
 KT H (kvs.map fun kv=>if kv.1=k then (kv.1,y) else kv) (xs.map (putAt k u)):=by
 induction r with
 | nil=>exact .nil
 | @cons p q ps qs h t ih =>
   rw[qW,qW]
   refine .cons ?_ ih
   obtain⟨h1,h2,h3⟩:=h
   unfold putAt
   by_cases e:p.1=k
   .rw[qD e,qD (h1.symm.trans e)];exact⟨h1,h2,ry⟩
   .rw[qy e,qy (fun z=>e (h1.trans z))];exact⟨h1,h2,h3⟩
theorem KT.put{H:Hp}{kvs:List (List Key×V)}{xs:List (List Key×Addr×Value)}(r:KT H kvs xs)(k:List Key){b:Addr}{y:V}{u:Value}(hb:H b=some (.tup (k.map kV)))(ry:QI y u) :
 KT H (Za kvs k y) (storedH xs k b u):=by
 have e:(kvs.any fun kv=>decide (kv.1=k))=(atKey xs k).isSome:=by
  rw[Yz,(r.val k).uF,Option.isSome_map]
 unfold Za storedH
 rw[e]
 by_cases q:(atKey xs k).isSome=true
 .rw[qD q,qD q];exact r.repl k ry
 .rw[qy q,qy q];exact Paired.snoc r ⟨rfl,hb,ry⟩
theorem KT.keeps{H H':Hp}{kvs:List (List Key×V)}{xs:List (List Key×Addr×Value)}(r:KT H kvs xs)(ht:∀b ys,H b=some (.tup ys)->H' b=some (.tup ys)):KT H' kvs xs :=
 Paired.Quc r fun _ _ z=>⟨z.1,ht _ _ z.2.1,z.2.2⟩
section
variable {P:Program}{w:World}{H:Hp}{h:Heap}{a:Addr}
theorem Qk5{u:HO}(ok:HOk P w H h)(e:Rd H a u):QY P w H h a u:=e.ok ok
theorem XA{kvs:List (Key×V)}(ok:HOk P w H h)(e:Rd H a (.dK kvs)):kvs.length<=sizeLine/\(a == sysModules)=false/\∃vs,KV kvs vs/\h.DictOf (QU P w) a vs :=
 show QY P w H h a (.dK kvs) from Qk5 ok e
theorem Gv{kvs:List (Key×V)}(ok:HOk P w H h)(e:H a=some (.dK kvs)):kvs.length<=sizeLine/\(a == sysModules)=false/\∃vs,KV kvs vs/\h.DictOf (QU P w) a vs:=XA ok (.inl e)
theorem W9{ks:List Key}(ok:HOk P w H h)(e:H a=some (.tup (ks.map kV))):(tupleKind (QU P w)).is h ks a:=by
 obtain⟨_,its,r,o,h1,h2,n,h3⟩:=(show QY P w H h a (.tup (ks.map kV)) from ok a _ e)
 exact⟨o,its.toArray,n,h1,h2,h3,by simpa using QaU r⟩
theorem Gu{kvs:List (List Key×V)}(ok:HOk P w H h)(e:Rd H a (.dT kvs)):kvs.length<=sizeLine/\(a == sysModules)=false /\
 ∃xs,KT H kvs xs/\h.DictOfH (tupleKind (QU P w)) a xs:=by
 obtain⟨z,y,xs,r,o,es,ep,h1,h2,h3,h4,h5⟩:=(show QY P w H h a (.dT kvs) from Qk5 ok e)
 refine⟨z,y,xs,r,o,es,ep,h1,h2,h3,h4,fun x hx=>?_,h5⟩
 have all:∀{l:List (List Key×V)}{m:List (List Key×Addr×Value)},KT H l m->∀x∈m,(tupleKind (QU P w)).is h x.1 x.2.1:=by
  intro l m q
  induction q with
  | nil=>intro x hx;exact nomatch hx
  | @cons p q ps qs hq t ih =>
    intro x hx
    rcases qG.mp hx with e | hx
    .subst e
     exact W9 ok (by rw[<-hq.1];exact hq.2.1)
    .exact ih x hx
 exact all r x hx
theorem dt_of{kvs:List (List Key×V)}(ok:HOk P w H h)(e:H a=some (.dT kvs)):kvs.length<=sizeLine/\(a == sysModules)=false /\
 ∃xs,KT H kvs xs/\h.DictOfH (tupleKind (QU P w)) a xs:=Gu ok (.inl e)
end
def Zk(H:Hp)(a:Addr)(y:V)(r:Option V):Prop :=
 (∃kvs k,Rd H a (.dK kvs)/\y=kV k/\r=Qt kvs k)\/∃kvs k b,Rd H a (.dT kvs)/\y=.ref b/\H b=some (.tup (k.map kV))/\r=Qt kvs k
def Jo(H:Hp)(a:Addr)(y v:V)(H':Hp):Prop :=
 (∃kvs k,H a=some (.dK kvs)/\y=kV k/\kvs.length<sizeLine/\H'=upd H a (.dK (Za kvs k v))) \/
 ∃kvs k b,H a=some (.dT kvs)/\y=.ref b/\H b=some (.tup (k.map kV))/\kvs.length<sizeLine/\H'=upd H a (.dT (Za kvs k v))
theorem Zk.k{H:Hp}{a:Addr}{kvs:List (Key×V)}{k:Key}(e:H a=some (.dK kvs)):Zk H a (kV k) (Qt kvs k):=.inl ⟨kvs,k,.inl e,rfl,rfl⟩
theorem Zk.t{H:Hp}{a b:Addr}{kvs:List (List Key×V)}{k:List Key}(e:H a=some (.dT kvs))(eb:H b=some (.tup (k.map kV))):Zk H a (.ref b) (Qt kvs k):=.inr ⟨kvs,k,b,.inl e,rfl,eb,rfl⟩
theorem Jo.k{H:Hp}{a:Addr}{kvs:List (Key×V)}{k:Key}{v:V}(e:H a=some (.dK kvs))(hl:kvs.length<sizeLine):Jo H a (kV k) v (upd H a (.dK (Za kvs k v))):=.inl ⟨kvs,k,e,rfl,hl,rfl⟩
theorem Jo.t{H:Hp}{a b:Addr}{kvs:List (List Key×V)}{k:List Key}{v:V}(e:H a=some (.dT kvs))(eb:H b=some (.tup (k.map kV)))(hl:kvs.length<sizeLine) :
 Jo H a (.ref b) v (upd H a (.dT (Za kvs k v))):=.inr ⟨kvs,k,b,e,rfl,eb,hl,rfl⟩
section
variable {X:Cx}{pins:List (Addr×Obj)}{σ:St}{H:Hp}{s:Shared}{a:Addr}{y v:V}{u r:Value}{o:Option V}{A:Around}{E:QvY}
theorem Inv.big(I:Inv X pins σ H s):sysModules<s.heap.objs.size:=by
 have h:mainGlobals<s.heap.objs.size:=(I.mod.glob.keeps I.bk).lt
 exact Nat.lt_trans (by decide) h
theorem QgY{Q:QvY}(hu:A.units+1<cLine)(I:Inv X pins σ H s)(g:Zk H a y (some v))(ry:QI y u)(h:∀w' s',Inv X pins σ H s'->QI v w'->Q w' s') :
 wpAny (model X.prog X.w) A (getItem (.ref a) u) Q E s:=by
 rcases g with⟨kvs,k,e,ey,l⟩ | ⟨kvs,k,b,e,ey,eb,l⟩
 .subst ey
  obtain⟨z,hd,vs,rel,dd⟩:=XA I.hok e
  obtain⟨w',hw,rw'⟩:=YO.some_of (v:=v) (o:=valueAt vs k) (by rw[l];exact rel.val k)
  exact wpAny_getItem_of (VJ ry) dd.mapOf hw (h w' _ (I.tok _) rw')
 .subst ey
  cases (show u=Value.ref b from ry)
  obtain⟨z,hd,xs,rel,dd⟩:=Gu I.hok e
  obtain⟨w',hw,rw'⟩:=YO.some_of (v:=v) (o:=(atKey xs k).map (·.2)) (by rw[l];exact rel.val k)
  obtain⟨p,hp,hp2⟩:=vG.mp hw
  refine wpAny_getItem_heap (uQ hu) (W9 I.hok eb) dd hp ?_
  rw[hp2]
  exact h w' _ (I.tok _) rw'
theorem d_in{Q:QvY}(hu:A.units+1<cLine)(I:Inv X pins σ H s)(g:Zk H a y o)(ry:QI y u)(h:∀s',Inv X pins σ H s'->Q (.bool o.isSome) s') :
 wpAny (model X.prog X.w) A (compareOp .In u (.ref a)) Q E s:=by
 rcases g with⟨kvs,k,e,ey,l⟩ | ⟨kvs,k,b,e,ey,eb,l⟩
 .subst ey
  obtain⟨z,hd,vs,rel,dd⟩:=XA I.hok e
  refine wpAny_in_of (VJ ry) hd dd.mapOf ?_
  rw[<-(rel.val k).uF,<-l]
  exact h _ (I.tok _)
 .subst ey
  cases (show u=Value.ref b from ry)
  obtain⟨z,hd,xs,rel,dd⟩:=Gu I.hok e
  refine wpAny_in_heap (uQ hu) (W9 I.hok eb) hd dd ?_
  have q:=(rel.val k).uF
  rw[Option.isSome_map] at q
  rw[<-q,<-l]
  exact h _ (I.tok _)
theorem QfK{Q:QvY}(hu:A.units+1<cLine)(I:Inv X pins σ H s)(g:Zk H a y o)(ry:QI y u)(h:∀s',Inv X pins σ H s'->Q (.bool (!o.isSome)) s') :
 wpAny (model X.prog X.w) A (compareOp .NotIn u (.ref a)) Q E s:=by
 rcases g with⟨kvs,k,e,ey,l⟩ | ⟨kvs,k,b,e,ey,eb,l⟩
 .subst ey
  obtain⟨z,hd,vs,rel,dd⟩:=XA I.hok e
  refine wpAny_notIn_of (VJ ry) hd dd.mapOf ?_
  rw[<-(rel.val k).uF,<-l]
  exact h _ (I.tok _)
 .subst ey
  cases (show u=Value.ref b from ry)
  obtain⟨z,hd,xs,rel,dd⟩:=Gu I.hok e
  refine wpAny_notIn_heap (uQ hu) (W9 I.hok eb) hd dd ?_
  have q:=(rel.val k).uF
  rw[Option.isSome_map] at q
  rw[<-q,<-l]
  exact h _ (I.tok _)
theorem Wv{h':Heap}{t':Nat}{ob:HO}(I:Inv X pins σ H s)(mu:Mut (H a))(hs:Heap.SameBut a s.heap h')(he:∃q,h'.get? a=some q)(new:QY X.prog X.w (upd H a ob) h' a ob) :
 Inv X pins σ (upd H a ob) { s with heap:=h',toks:=t' } :=
 I.write (x:=a) (e:=a) mu (.inl rfl) (fun b q hb z=>(hs.2 b hb).trans z) he new
theorem QbF{P:Program}{w:World}{H':Hp}{h':Heap}{kvs:List (Key×V)}{vs:List (Key×Value)}(z:kvs.length<=sizeLine)(hd:(a == sysModules)=false)(rel:KV kvs vs)(dd:h'.DictOf (QU P w) a vs) :
 QY P w H' h' a (.dK kvs):=⟨z,hd,vs,rel,dd⟩
theorem QgX{H':Hp}{Q:Unit->Shared->Prop}(hu:A.units+1<cLine)(I:Inv X pins σ H s)(g:Jo H a y v H')(ry:QI y u)(rv:QI v r)(h:∀s',Inv X pins σ H' s'->Q () s') :
 wpAny (model X.prog X.w) A (setItem (.ref a) u r) Q E s:=by
 rcases g with⟨kvs,k,e,ey,l,eH⟩ | ⟨kvs,k,b,e,ey,eb,l,eH⟩
 .subst ey eH
  obtain⟨z,hd,vs,rel,dd⟩:=Gv I.hok e
  have hz:vs.length<=sizeLine:=by rw[<-rel.length];exact z
  have hl:(Za kvs k v).length<=sizeLine:=by have:=JY kvs k v;omega
  refine wpAny_setItem_pairs (hsz:=hz) (VJ ry) dd fun h' dd' hs=>h _ ?_
  have he:∃q,h'.get? a=some q:=let ⟨q,_,_,hq,_⟩:=dd';⟨q,hq⟩
  exact Wv I (by rw[e];exact True.intro) hs he (QbF hl hd (rel.put k rv) dd')
 .subst ey eH
  cases (show u=Value.ref b from ry)
  obtain⟨z,hd,xs,rel,dd⟩:=dt_of I.hok e
  have hz:xs.length<=sizeLine:=by rw[<-Paired.length rel];exact z
  have hl:(Za kvs k v).length<=sizeLine:=by have:=JY kvs k v;omega
  refine wpAny_setItem_heap (hsz:=hz) (uQ hu) (W9 I.hok eb) dd fun h' dd' hs=>h _ ?_
  obtain⟨q,es,ep,hq,h2,h3,h4,_,h5⟩:=dd'
  refine Wv I (by rw[e];exact True.intro) hs ⟨q,hq⟩ ⟨hl,hd,_,(rel.put k eb rv).keeps fun c ys ec=>?_,q,es,ep,hq,h2,h3,h4,h5⟩
  rw[Qa (QX ec e (fun z=>nomatch z))]
  exact ec
end
section
variable {X:Cx}{pins:List (Addr×Obj)}{σ:St}{H:Hp}{s:Shared}{a:Addr}{kvs:List (Key×V)}{k:Key}{u:Value}{A:Around}{E:QvY}
theorem Qlg{v:V}{more:QvZ}{Q:QvY}(I:Inv X pins σ H s)(e:H a=some (.dK kvs))(ry:QI (kV k) u)(l:Qt kvs k=some v)(hm:more=[]\/∃x,more=[x])
 (h:∀w' s',Inv X pins σ (upd H a (.dK (ZS kvs k))) s'->QI v w'->Q w' s'):wpAny (model X.prog X.w) A (call (.builtin "dict.pop") (.ref a :: u :: more)) Q E s:=by
 obtain⟨z,hd,vs,rel,dd⟩:=Gv I.hok e
 obtain⟨w',hw,rw'⟩:=YO.some_of (v:=v) (o:=valueAt vs k) (by rw[<-l];exact rel.val k)
 have hp:(keyPart u).isSome=true:=by
  cases k with
  | inl i=>obtain⟨t,q⟩:=(show ∃t,u=Value.int i t from ry);subst q;rfl
  | inr x=>obtain⟨t,q⟩:=(show ∃t,u=Value.str x t from ry);subst q;rfl
 have ha:argsOk "dict.pop" ⟨.ref a :: u :: more,[]⟩:=by
  rcases hm with q | ⟨x,q⟩
  .subst q;exact PySem.F.args_dict_pop_2 _ _
  .subst q;exact PySem.F.args_dict_pop_3 _ _ _
 refine QrT slot_dict_pop dd.typeIs PySem.F.entry_dict_pop ha (meets_dict_pop_there (QU X.prog X.w) a (VJ ry) more hm hp)
  ⟨vs,w',dd,by rw[<-rel.length];exact z,hw,fun h' dd' hs=>h w' _ ?_ rw'⟩
 have he:∃q,h'.get? a=some q:=let ⟨q,_,_,hq,_⟩:=dd';⟨q,hq⟩
 exact Wv I (by rw[e];exact True.intro) hs he (QbF (zx (Qjj kvs k) z) hd (rel.drop k) dd')
theorem Qmt{r:Value}{Q:QvY}(I:Inv X pins σ H s)(e:H a=some (.dK kvs))(ry:QI (kV k) u)(l:Qt kvs k=none)(h:∀s',Inv X pins σ H s'->Q r s') :
 wpAny (model X.prog X.w) A (call (.builtin "dict.pop") [.ref a,u,r]) Q E s:=by
 obtain⟨z,hd,vs,rel,dd⟩:=Gv I.hok e
 have hn:valueAt vs k=none:=YO.none_of (by rw[<-l];exact rel.val k)
 have hp:(keyPart u).isSome=true:=by
  cases k with
  | inl i=>obtain⟨t,q⟩:=(show ∃t,u=Value.int i t from ry);subst q;rfl
  | inr x=>obtain⟨t,q⟩:=(show ∃t,u=Value.str x t from ry);subst q;rfl
 exact QrT slot_dict_pop dd.typeIs PySem.F.entry_dict_pop (PySem.F.args_dict_pop_3 _ _ _) (meets_dict_pop_default (QU X.prog X.w) a (VJ ry) hd hp r) ⟨vs,dd,hn,h _ (I.tok _)⟩
end
def NoSl(i:Expr):Prop:=∀ov iv,subscripted i false ov iv=operate [ov,iv] (getItem ov iv)
theorem QjJ{prog:Program}{w:World}{A:Around}{E:QvY}{s:Shared}{env:Env}{value slice:Expr}{pos:Pos}{T id:String}{Q:QvY}
 (hl:typeLookup (.type T) "__getitem__"=pure (some (.builtin id))) (hs:NoSl slice)
 (h:wpAny (model prog w) A (eval value env) (fun o s₁=>wpAny (model prog w) A (eval slice env) (fun i s₂=>s₂.TypeIs o T/\wpAny (model prog w) A (getItem o i) Q E s₂) E s₁) E s) :
 wpAny (model prog w) A (eval (.Subscript value slice pos) env) Q E s:=by
 refine Subscript_ (yp h (fun o s₁ h₁=>yp h₁ (fun i s₂ h₂=>?_) fun _ _ x=>x) fun _ _ x=>x)
 obtain⟨hT,h₂⟩:=h₂
 unfold subscriptTail
 refine qb ?_
 rw[getitemInPython_of_ne hT.not_modules]
 refine qb (wpAny_specialOf hT hl ?_)
 have fin:wpAny (model prog w) A (subscripted slice false o i) (fun r s₃=>wpAny (model prog w) A (letTemporaryGo value o r >>= fun _=>pure r) Q E s₃) E s₂:=by
  rw[hs o i]
  exact wpAny_operating (yp h₂ (fun r s₃ h₃=>qb (wpAny_letTemporaryGo (qj h₃))) fun _ _ x=>x)
 first
  | exact qj (qb fin)
  | exact qb (qj (qb fin))
  | exact qb fin
theorem Qc6{X:Cx}{pins:List (Addr×Obj)}{σ:St}{H:Hp}{s:Shared}{a:Addr}{y:V}{o:Option V}(I:Inv X pins σ H s)(g:Zk H a y o):s.TypeIs (.ref a) "dict":=by
 rcases g with⟨kvs,k,e,_,_⟩ | ⟨kvs,k,b,e,_,_,_⟩
 .obtain⟨_,_,vs,_,dd⟩:=XA I.hok e
  exact dd.typeIs
 .obtain⟨_,_,xs,_,dd⟩:=Gu I.hok e
  exact dd.typeIs
inductive QeF(Q:VK)(x:V)(y:V)(H2:Hp):Prop
 | mk:∀a v,x=.ref a->Zk H2 a y (some v)->Q v H2->QeF Q x y H2
def tDGet(td ty:TE):TE:=fun σ H Q=>td σ H fun x H1=>ty σ H1 fun y H2=>QeF Q x y H2
inductive Qhh(Q:VK)(y:V)(x:V)(H2:Hp):Prop
 | mk:∀a o,x=.ref a->Zk H2 a y o->Q (.bl o.isSome) H2->Qhh Q y x H2
def tDIn(ty td:TE):TE:=fun σ H Q=>ty σ H fun y H1=>td σ H1 fun x H2=>Qhh Q y x H2
inductive Qad(Q:VK)(y:V)(x:V)(H2:Hp):Prop
 | mk:∀a o,x=.ref a->Zk H2 a y o->Q (.bl (!o.isSome)) H2->Qad Q y x H2
def QjI(ty td:TE):TE:=fun σ H Q=>ty σ H fun y H1=>td σ H1 fun x H2=>Qad Q y x H2
inductive QeX(D:Y7)(σ:St)(v:V)(x:V)(y:V)(H3:Hp):Prop
 | mk:∀a H4,x=.ref a->Jo H3 a y v H4->D.nx σ H4->QeX D σ v x y H3
def sDPut(td ty tv:TE):TS:=fun D σ H=>tv σ H fun v H1=>td σ H1 fun x H2=>ty σ H2 fun y H3=>QeX D σ v x y H3
section
variable {X:Cx}{o i e value:Expr}{pos pos' tpos:Pos}{td ty tv:TE}
theorem Qv(hu:X.A.units+1<cLine)(ho:PE X o td)(hi:PE X i ty)(hs:NoSl i:=by exact fun _ _=>rfl):PE X (.Subscript o i pos) (tDGet td ty):=by
 intro pins s σ H Q I h
 refine QjJ PySem.F.slot_dict_getitem.lookup hs (jO (ho pins s σ H _ I h) fun u s1 ⟨x,H1,I1,rx,q1⟩=>jO (hi pins s1 σ H1 _ I1 q1) fun iv s2 ⟨y,H2,I2,ry,a,v,ex,g,q2⟩=>?_)
 subst ex
 obtain rfl:u=Value.ref a:=rx
 exact⟨Qc6 I2 g,QgY hu I2 g ry fun w' s3 I3 rw'=>⟨v,H2,I3,rw',q2⟩⟩
theorem VR(hu:X.A.units+1<cLine)(hi:PE X i ty)(ho:PE X o td):PC X .In i o (tDIn ty td):=by
 intro pins s σ H Q I h
 refine jO (hi pins s σ H _ I h) fun iv s1 ⟨y,H1,I1,ry,q1⟩=>jO (ho pins s1 σ H1 _ I1 q1) fun u s2 ⟨x,H2,I2,rx,a,ov,ex,g,q2⟩=>?_
 subst ex
 obtain rfl:u=Value.ref a:=rx
 exact d_in hu I2 g ry fun s3 I3=>⟨.bl ov.isSome,H2,I3,rfl,q2⟩
theorem Jl(hu:X.A.units+1<cLine)(hi:PE X i ty)(ho:PE X o td):PC X .NotIn i o (QjI ty td):=by
 intro pins s σ H Q I h
 refine jO (hi pins s σ H _ I h) fun iv s1 ⟨y,H1,I1,ry,q1⟩=>jO (ho pins s1 σ H1 _ I1 q1) fun u s2 ⟨x,H2,I2,rx,a,ov,ex,g,q2⟩=>?_
 subst ex
 obtain rfl:u=Value.ref a:=rx
 exact QfK hu I2 g ry fun s3 I3=>⟨.bl (!ov.isSome),H2,I3,rfl,q2⟩
theorem Zp(hu:X.A.units+1<cLine)(ho:PE X o td)(hi:PE X i ty)(hv:PE X value tv)(hs:swapsWith value (some (.Subscript o i pos')) pos.line X.env=pure false) :
 PS X (.Assign [.Subscript o i pos'] value pos) (sDPut td ty tv):=by
 intro pins s σ H D I h
 refine wpAny_Assign_Subscript (jO (hv pins s σ H _ I h) fun r s1 ⟨v,H1,I1,rv,q1⟩=>jO (ho pins s1 σ H1 _ I1 q1) fun u s2 ⟨x,H2,I2,rx,q2⟩=>jO (hi pins s2 σ H2 _ I2 q2) fun iv s3 ⟨y,H3,I3,ry,a,H4,ex,g,q3⟩=>?_) hs
 subst ex
 obtain rfl:u=Value.ref a:=rx
 exact QgX hu I3 g ry rv fun s4 I4=>⟨σ,H4,I4,q3⟩
end
theorem Qc5{P:Program}{w:World}{H:Hp}(h:Heap)(hb:sysModules<h.objs.size):QY P w H (h.push { cls:=.type "dict",data:=.dict #[] }) h.objs.size (.dK []) :=
 ⟨zK _,j0.mpr (xH (qY hb)),[],.nil,Heap.DictOf.new h⟩
theorem Qji{P:Program}{w:World}{H:Hp}(h:Heap)(hb:sysModules<h.objs.size):QY P w H (h.push { cls:=.type "dict",data:=.dict #[] }) h.objs.size (.dT []) :=
 ⟨zK _,j0.mpr (xH (qY hb)),[],.nil,_,#[],0,qH _ rfl,⟨rfl,rfl,rfl⟩,rfl,rfl,zV⟩
def Qly:TE:=fun _ H Q=>∀p,H p=none->Q (.ref p) (upd H p (.dK []))
def Qlx:TE:=fun _ H Q=>∀p,H p=none->Q (.ref p) (upd H p (.dT []))
section
variable {X:Cx}{pos:Pos}
theorem Zv:PE X (.Dict [] [] pos) Qly:=fun pins s σ H Q I h =>
 wpAny_Dict_empty ⟨.ref s.heap.objs.size,_,I.laid (a:=s.heap.objs.size) (o:=.dK []) (t':=s.toks) (fun _ _ q=>qm _ q) (qt _) (Qc5 s.heap I.big),rfl,h _ (I.hok.fresh (qt _))⟩
theorem U2:PE X (.Dict [] [] pos) Qlx:=fun pins s σ H Q I h =>
 wpAny_Dict_empty ⟨.ref s.heap.objs.size,_,I.laid (a:=s.heap.objs.size) (o:=.dT []) (t':=s.toks) (fun _ _ q=>qm _ q) (qt _) (Qji s.heap I.big),rfl,h _ (I.hok.fresh (qt _))⟩
end
def Qdy:List (TE×TE)->St->Hp->(List (V×V)->Hp->Prop)->Prop
 | [],_,H,Q=>Q [] H
 | (tk,tv) :: r,σ,H,Q=>tk σ H fun x H1=>tv σ H1 fun y H2=>Qdy r σ H2 fun ps H3=>Q ((x,y) :: ps) H3
abbrev VV:List (V×V)->List (Value×Value)->Prop:=Paired fun p q=>QI p.1 q.1/\QI p.2 q.2
def PPs(X:Cx)(pos:Pos)(keys:List (Option Expr))(values:List Expr)(trs:List (TE×TE)):Prop :=
 ∀(pins:List (Addr×Obj))(s:Shared)(σ:St)(H:Hp)(Q:List (V×V)->Hp->Prop),Inv X pins σ H s->Qdy trs σ H Q ->
  wpAny (model X.prog X.w) X.A (evalPairs (pairTrees keys values X.env pos)) (fun vs s'=>∃ps H',Inv X pins σ H' s'/\VV ps vs/\Q ps H') X.xe s
theorem Qke{X:Cx}{pos:Pos}:PPs X pos [] [] []:=fun pins s σ H Q I h=>pairTrees_nil_walk ⟨[],H,I,.nil,h⟩
theorem UZ{X:Cx}{pos:Pos}{k v:Expr}{ks:List (Option Expr)}{vs:List Expr}{tk tv:TE}{trs:List (TE×TE)}(hk:PE X k tk)(hv:PE X v tv)(hr:PPs X pos ks vs trs) :
 PPs X pos (some k :: ks) (v :: vs) ((tk,tv) :: trs):=fun pins s σ H Q I h =>
 pairTrees_cons_walk (jO (hk pins s σ H _ I h) fun u s1 ⟨x,H1,I1,rx,q1⟩=>jO (hv pins s1 σ H1 _ I1 q1) fun w2 s2 ⟨y,H2,I2,ry,q2⟩ =>
  jO (hr pins s2 σ H2 _ I2 q2) fun ws s3 ⟨ps,H3,I3,rel,q3⟩=>⟨(x,y) :: ps,H3,I3,.cons ⟨rx,ry⟩ rel,q3⟩)
def UA(kvs more:List (Key×V)):List (Key×V):=more.foldl (fun acc kv=>Za acc kv.1 kv.2) kvs
theorem KV.merge:∀{more:List (Key×V)}{rs:List (Key×Value)}{kvs:List (Key×V)}{vs:List (Key×Value)},KV more rs->KV kvs vs->KV (UA kvs more) (merged vs rs):=by
 intro more rs kvs vs r
 unfold KV at r
 induction r generalizing kvs vs with
 | nil=>intro q;exact q
 | @cons p q ps qs h t ih =>
   intro r0
   have e:KV (Za kvs p.1 p.2) (stored vs q.1 q.2):=by
    have:=r0.put p.1 h.2
    rw[<-h.1];exact this
   exact ih e
theorem VI:∀(more kvs:List (Key×V)),(UA kvs more).length<=kvs.length+more.length
 | [],kvs=>by show kvs.length<=kvs.length+0;omega
 | p :: r,kvs=>by
   have h1:=VI r (Za kvs p.1 p.2)
   have h2:=JY kvs p.1 p.2
   show(UA (Za kvs p.1 p.2) r).length<=_
   rw[za];omega
theorem Gx{P:Program}{w:World}:∀{kvs:List (Key×V)}{ws:List (Value×Value)},VV (kvs.map fun kv=>(kV kv.1,kv.2)) ws->∃rs,Carries (QU P w) ws rs/\KV kvs rs
 | [],_,r=>by rw[List.map_nil] at r;cases r;exact⟨[],True.intro,.nil⟩
 | p :: kvs,_,r=>by
   rw[qW] at r
   cases r with
   | @cons a b as bs h t =>
     obtain⟨rs,c,q⟩:=Gx (P:=P) (w:=w) t
     obtain⟨b1,b2⟩:=b
     exact⟨(p.1,b2) :: rs,⟨VJ h.1,rfl,c⟩,.cons ⟨rfl,h.2⟩ q⟩
def tDisp(trs:List (TE×TE)):TE:=fun σ H Q=>∀p,H p=none->Qdy trs σ (upd H p (.dK [])) fun ps H2=>H2 p=some (.dK [])/\∃kvs:List (Key×V),ps=kvs.map (fun kv=>(kV kv.1,kv.2))/\kvs.length<=15/\Q (.ref p) (upd H2 p (.dK (UA [] kvs)))
theorem Qki{X:Cx}{pos:Pos}{keys:List (Option Expr)}{values:List Expr}{trs:List (TE×TE)}(h:PPs X pos keys values trs)(hall:keys.all (·.isSome)=true)(hl:keys.length=values.length)(h0:keys≠[])
 (h15:keys.length<=15):PE X (.Dict keys values pos) (tDisp trs):=by
 intro pins s σ H Q I q
 have hn:=I.hok.fresh (qt s.heap.objs.size)
 have I1:=I.laid (a:=s.heap.objs.size) (o:=.dK []) (h':=s.heap.push { cls:=.type "dict",data:=.dict #[] }) (t':=s.toks) (fun _ _ q=>qm _ q) (qt _) (Qc5 s.heap I.big)
 refine wpAny_Dict_walk (knd:=QU X.prog X.w) hall hl h0 h15 (jO (h pins _ σ _ _ I1 (q _ hn)) fun ws s2 ⟨ps,H2,I2,rel,e,kvs,ep,lk,q2⟩=>?_)
 subst ep
 obtain⟨rs,c,rk⟩:=Gx (P:=X.prog) (w:=X.w) rel
 obtain⟨z,hd,vs0,r0,dd⟩:=Gv I2.hok e
 cases r0
 refine⟨rs,c,dd,fun h' dd' hs=>⟨.ref s.heap.objs.size,_,?_,rfl,q2⟩⟩
 have hz:(UA [] kvs).length<=sizeLine:=by
  have h1:=VI kvs []
  rw[j7] at h1
  rw[sizeLine_eq];omega
 have he:∃q,h'.get? s.heap.objs.size=some q:=let ⟨q,_,_,hq,_⟩:=dd';⟨q,hq⟩
 exact Wv I2 (by rw[e];exact True.intro) hs he (QbF hz hd (rk.merge .nil) dd')
structure M1(X:Cx)(o:Expr)(m:Str)(apos:Pos)(e:Expr)(cpos:Pos):Prop where
 base:attributeBase o m X.env (eval o X.env)=eval o X.env
 few:((backTo cpos (starEach [e] X.env)).all (fun x=>!x.1) && (backToKw cpos (keywordEach [] X.env)).all (fun x=>x.1.isSome)
  && decide (([e]:List Expr).length+([]:List Keyword).length+(if ([]:List Keyword).isEmpty then 0 else 1)<30))=true
 line:(apos.endLine == cpos.line)=true
 trees:backTo cpos (starEach [e] X.env)=[(false,eval e X.env)]
structure M2(X:Cx)(o:Expr)(m:Str)(apos:Pos)(e f:Expr)(cpos:Pos):Prop where
 base:attributeBase o m X.env (eval o X.env)=eval o X.env
 few:((backTo cpos (starEach [e,f] X.env)).all (fun x=>!x.1) && (backToKw cpos (keywordEach [] X.env)).all (fun x=>x.1.isSome)
  && decide (([e,f]:List Expr).length+([]:List Keyword).length+(if ([]:List Keyword).isEmpty then 0 else 1)<30))=true
 line:(apos.endLine == cpos.line)=true
 trees:backTo cpos (starEach [e,f] X.env)=[(false,eval e X.env),(false,eval f X.env)]
def IsD(H:Hp)(a:Addr):Prop:=(∃kvs,Rd H a (.dK kvs))\/∃kvs,Rd H a (.dT kvs)
theorem QbC{X:Cx}{pins:List (Addr×Obj)}{σ:St}{H:Hp}{s:Shared}{a:Addr}(I:Inv X pins σ H s)(d:IsD H a) :
 s.TypeIs (.ref a) "dict"/\(∀b,Value.ref a=.ref b->∃ob,s.heap.get? b=some ob/\ob.dict=none)/\(a == sysModules)=false:=by
 rcases d with⟨kvs,e⟩ | ⟨kvs,e⟩
 .obtain⟨_,hd,vs,_,dd⟩:=XA I.hok e
  refine⟨dd.typeIs,fun b q=>?_,hd⟩
  cases q
  obtain⟨ob,_,_,h1,h2,_⟩:=dd
  exact⟨ob,h1,h2.2.1⟩
 .obtain⟨_,hd,xs,_,dd⟩:=Gu I.hok e
  refine⟨dd.typeIs,fun b q=>?_,hd⟩
  cases q
  obtain⟨ob,_,_,h1,h2,_⟩:=dd
  exact⟨ob,h1,h2.2.1⟩
section
variable {X:Cx}{pins:List (Addr×Obj)}{σ:St}{H:Hp}{s:Shared}{a:Addr}{y d:V}{u r:Value}{o:Option V}{A:Around}{E:QvY}
theorem Qmu{Q:QvY}(hu:A.units+1<cLine)(I:Inv X pins σ H s)(g:Zk H a y o)(ry:QI y u)(rd:QI d r)(h:∀w' s',Inv X pins σ H s'->QI (o.getD d) w'->Q w' s') :
 wpAny (model X.prog X.w) A (call (.builtin "dict.get") [.ref a,u,r]) Q E s:=by
 rcases g with⟨kvs,k,e,ey,l⟩ | ⟨kvs,k,b,e,ey,eb,l⟩
 .subst ey
  obtain⟨z,hd,vs,rel,dd⟩:=XA I.hok e
  refine QrT slot_dict_get dd.typeIs PySem.F.entry_dict_get (PySem.F.args_dict_get_3 _ _ _) (meets_dict_get_default (QU X.prog X.w) a (VJ ry) hd r) ⟨_,dd.mapOf,h _ _ (I.tok _) ?_⟩
  rw[l]
  exact(rel.val k).getD rd
 .subst ey
  cases (show u=Value.ref b from ry)
  obtain⟨z,hd,xs,rel,dd⟩:=Gu I.hok e
  refine QrT slot_dict_get dd.typeIs PySem.F.entry_dict_get (PySem.F.args_dict_get_3 _ _ _) (meetsH_dict_get_default (tupleKind (QU X.prog X.w)) a b hd r) ⟨uQ hu,k,xs,W9 I.hok eb,dd,h _ _ (I.tok _) ?_⟩
  rw[l]
  exact(rel.val k).getD rd
end
inductive Qae(Q:VK)(a:Addr)(y:V)(z:V)(H3:Hp):Prop
 | mk:∀o,Zk H3 a y o->Q (o.getD z) H3->Qae Q a y z H3
inductive QbZ(ty:TE)(tx:TE)(σ:St)(Q:VK)(x:V)(H1:Hp):Prop
 | mk:∀a,x=.ref a->IsD H1 a->(ty σ H1 fun y H2=>tx σ H2 fun z H3=>Qae Q a y z H3)->QbZ ty tx σ Q x H1
def Qlz(td ty tx:TE):TE:=fun σ H Q=>td σ H fun x H1=>QbZ ty tx σ Q x H1
inductive Qac(Q:VK)(a:Addr)(y:V)(H2:Hp):Prop
 | mk:∀kvs k v,H2 a=some (.dK kvs)->y=kV k->Qt kvs k=some v->Q v (upd H2 a (.dK (ZS kvs k)))->Qac Q a y H2
inductive QbY(ty:TE)(σ:St)(Q:VK)(x:V)(H1:Hp):Prop
 | mk:∀a,x=.ref a->IsD H1 a->(ty σ H1 fun y H2=>Qac Q a y H2)->QbY ty σ Q x H1
def Qlw(td ty:TE):TE:=fun σ H Q=>td σ H fun x H1=>QbY ty σ Q x H1
inductive Qab(Q:VK)(a:Addr)(y:V)(z:V)(H3:Hp):Prop
 | mk:∀kvs k,H3 a=some (.dK kvs)->y=kV k->((∀v,Qt kvs k=some v->Q v (upd H3 a (.dK (ZS kvs k)))))->((Qt kvs k=none->Q z H3))->Qab Q a y z H3
inductive QbX(ty:TE)(tx:TE)(σ:St)(Q:VK)(x:V)(H1:Hp):Prop
 | mk:∀a,x=.ref a->IsD H1 a->(ty σ H1 fun y H2=>tx σ H2 fun z H3=>Qab Q a y z H3)->QbX ty tx σ Q x H1
def Qlv(td ty tx:TE):TE:=fun σ H Q=>td σ H fun x H1=>QbX ty tx σ Q x H1
section
variable {X:Cx}{o e f:Expr}{apos cpos:Pos}{td ty tx:TE}
theorem Qcu(hu:X.A.units+1<cLine)(ho:PE X o td)(he:PE X e ty)(hf:PE X f tx)(m:M2 X o "get" apos e f cpos):PE X (.Call (.Attribute o "get" apos) [e,f] [] cpos) (Qlz td ty tx):=by
 intro pins s σ H Q I h
 refine Qqb m.base m.few m.line plainAttrs_dict slot_dict_get PySem.F.type_dict_get (jO (ho pins s σ H _ I h) fun u s1 ⟨x,H1,I1,rx,a,ex,d,q1⟩=>?_)
 subst ex
 obtain rfl:u=Value.ref a:=rx
 obtain⟨t1,t2,_⟩:=QbC I1 d
 refine⟨t1,t2,?_⟩
 rw[m.trees]
 refine xu rfl (kW (yq (jO (he pins s1 σ H1 _ I1 q1) fun iv s2 ⟨y,H2,I2,ry,q2⟩ =>
  yq (jO (hf pins s2 σ H2 _ I2 q2) fun fv s3 ⟨z,H3,I3,rz,ov,g,q3⟩=>QmD ?_))))
 exact Qmu hu I3 g ry rz fun w' s4 I4 rw'=>⟨_,H3,I4,rw',q3⟩
theorem Z4(ho:PE X o td)(he:PE X e ty)(m:M1 X o "pop" apos e cpos):PE X (.Call (.Attribute o "pop" apos) [e] [] cpos) (Qlw td ty):=by
 intro pins s σ H Q I h
 refine Qqb m.base m.few m.line plainAttrs_dict slot_dict_pop PySem.F.type_dict_pop (jO (ho pins s σ H _ I h) fun u s1 ⟨x,H1,I1,rx,a,ex,d,q1⟩=>?_)
 subst ex
 obtain rfl:u=Value.ref a:=rx
 obtain⟨t1,t2,_⟩:=QbC I1 d
 refine⟨t1,t2,?_⟩
 rw[m.trees]
 refine xu rfl (kW (yq (jO (he pins s1 σ H1 _ I1 q1) fun iv s2 ⟨y,H2,I2,ry,kvs,k,v,ea,ey,l,q2⟩=>QmD ?_)))
 subst ey
 exact Qlg I2 ea ry l (.inl rfl) fun w' s3 I3 rw'=>⟨v,_,I3,rw',q2⟩
theorem Qh7(ho:PE X o td)(he:PE X e ty)(hf:PE X f tx)(m:M2 X o "pop" apos e f cpos):PE X (.Call (.Attribute o "pop" apos) [e,f] [] cpos) (Qlv td ty tx):=by
 intro pins s σ H Q I h
 refine Qqb m.base m.few m.line plainAttrs_dict slot_dict_pop PySem.F.type_dict_pop (jO (ho pins s σ H _ I h) fun u s1 ⟨x,H1,I1,rx,a,ex,d,q1⟩=>?_)
 subst ex
 obtain rfl:u=Value.ref a:=rx
 obtain⟨t1,t2,_⟩:=QbC I1 d
 refine⟨t1,t2,?_⟩
 rw[m.trees]
 refine xu rfl (kW (yq (jO (he pins s1 σ H1 _ I1 q1) fun iv s2 ⟨y,H2,I2,ry,q2⟩ =>
  yq (jO (hf pins s2 σ H2 _ I2 q2) fun fv s3 ⟨z,H3,I3,rz,kvs,k,ea,ey,q3,q4⟩=>QmD ?_))))
 subst ey
 cases l:Qt kvs k with
 | some v=>exact Qlg I3 ea ry l (.inr ⟨fv,rfl⟩) fun w' s4 I4 rw'=>⟨v,_,I4,rw',q3 v l⟩
 | none=>exact Qmt I3 ea ry l fun s4 I4=>⟨z,H3,I4,rz,q4 l⟩
end
section
variable {X:Cx}{pins:List (Addr×Obj)}{σ:St}{H:Hp}{s:Shared}{a:Addr}{kvs:List (Key×V)}{A:Around}{E:QvY}
end
section
variable {X:Cx}{pins:List (Addr×Obj)}{σ:St}{H:Hp}{s:Shared}{a:Addr}{y:V}{u:Value}{A:Around}{E:QvY}
end
end L2
namespace Att
open PySem PySem.W PySem.Calls PyProof.Rows
theorem XO{P:Params}{h:Heap}:∀(ns:List Int)(vs:QvZ),WellAll P h vs (ns.map WData.int)->IntsAre vs ns:=by
 intro ns
 induction ns with
 | nil =>
   intro vs w
   rw[List.map_nil] at w
   cases w
   exact .nil
 | cons n ns ih =>
   intro vs w
   rw[qW] at w
   cases w with
   | cons a b =>
     cases a
     exact .cons _ _ (ih _ b)
theorem Qf3{l:OpenLaw}{n:Nat}(hn:l.most=some n){P:Params}{h:Heap}{args:List WData}{vals:QvZ}
 (hpre:l.row.toRowW.claim.pre args=true) (hwl:WellAll P h vals args) :
 ∃a vs ns,vals=[Value.ref a]/\args=[WData.list (ns.map WData.int)]/\h.get? a=some { cls:=.type "list",data:=.seq vs.toArray }/\IntsAre vs ns/\ns.length<=n:=by
 have hsh:WShape.hasAll [] args [.list .int]=true:=(pre_splitW hpre).1
 have hc:l.pre.holds [] { args:=args }=true:=(pre_splitW hpre).2
 obtain⟨d,r,rfl,h1,h2⟩:=hasAllW_cons hsh
 obtain rfl:=hasAllW_nil h2
 obtain⟨xs,rfl,h3⟩:=hasW_list h1
 obtain⟨ns,rfl⟩:=items_int h3
 have hlen:ns.length<=n:=by
  unfold OpenLaw.pre at hc
  have h4:(WTm.not (.lt (.lit (.int (n:Int))) (.len (.arg 0)))).holds [] { args:=[.list (ns.map .int)] }=true:=by
   have h4:=(holds_andW hc).1
   rw[hn] at h4
   exact h4
  have h5:=condW_of h4 (w_not (w_lt w_lit (w_len_list (w_arg rfl))))
  rw[qi] at h5
  refine Nat.le_of_not_lt fun q=>?_
  have q':(n:Int)<((ns.length:Nat):Int):=by omega
  first
   | (rw[qp q'] at h5;exact absurd h5 (by decide))
   | (simp at h5;omega)
 cases hwl with
 | cons w1 w2 =>
   cases w2
   cases w1 with
   | list ho hall=>exact⟨_,_,ns,rfl,rfl,ho,XO ns _ hall,hlen⟩
theorem Qgc(l:OpenLaw)(args:List WData):l.row.toRowW.claim.post args (.bool true) args=true :=
 postW_of (r:=l.row.toRowW) (X:=(true == true))
  (show WShape.has [] (.bool true) .bool=true by first | rfl | decide | simp[WShape.has,WShape.arms,WShape.armsAll])
  (show(WTm.eq .res (.lit (.bool true))).value [] { args:=args,res:=some (.bool true),after:=args }=some (.bool (true == true)) from w_eq_bool (w_res rfl) w_lit) rfl
theorem QrB{l:OpenLaw}{n:Nat}{q:Program}{loose:QvX}{XP:(Str->Option Value)->Heap->Prop}{YP:World->Heap->Prop}{d:DefRec}
 (hn:l.most=some n) (hdf:d.params.defaults=[])
 (call:∀(w:World)(s₀ s₁:Shared)(mg mb:Str->Option Value)(fa:Addr)(o:Obj)(pm cd doc:Value)(a:Addr)(vs:QvZ)(ns:List Int),
   Ground q loose [] XP w s₀ mg mb s₁.heap->YP w s₁.heap ->
   s₁.heap.get? fa=some o->o.data=.func (docDef d.name d.params d.body d.scope pm cd doc)->s₁.heap.CodeRec cd d.name->mg d.name=some (.ref fa) ->
   s₁.heap.get? a=some { cls:=.type "list",data:=.seq vs.toArray }->IntsAre vs ns->ns.length<=n->s₁.gens=#[] ->
   codeAny (model l.prog w) callerA (.call (.ref fa) ⟨[.ref a],[]⟩) (fun r s'=>r=.ok (.ret (.bool true))/\OldK s₁.heap s'.heap/\s'.os=s₁.os/\AllBare s'.gens) s₁) :
 WalkO q loose XP YP l.row.toRowW d [] (fun f vs=>PySem.call f vs):=by
 intro w s₀ s₁ mg mb G Y fa o pm cd doc dV kV ho hd hcd hD hmg hg args vals as hpre hlay hrd hwl hlo
 obtain rfl:dV=.none:=Dflts.none hD hdf
 obtain rfl:kV=.none:=Dflts.noKw hD
 obtain⟨a,vs,ns,rfl,rfl,hobj,hints,hlen⟩:=Qf3 hn hpre hwl
 refine enter_call (xn (call w s₀ s₁ mg mb fa o pm cd doc a vs ns G Y ho (fd_plain hd) hcd hmg hobj hints hlen hg) fun r s' hq=>?_)
 obtain⟨rfl,h2,h3,h4⟩:=hq
 exact⟨.inl ⟨.bool true,.bool true,[],rfl,fun _=>rfl,.bool true,Qgc l _,fun _=>⟨List.Pairwise.nil,fun _ hm=>(nomatch hm)⟩⟩,h2,h3,h4⟩
section
variable {prog:Program}{w:World}{A:Around}{E:QvY}{s:Shared}{K:Frag}
end
end Att
namespace L2
open PySem PySem.Spec PyProof.Rows
theorem GZ:∀{vs:QvZ}{ns:List Int},IntsAre vs ns->QF (ns.map V.int) vs
 | _,_,.nil=>.nil
 | _,_,.cons n t h=>.cons ⟨t,rfl⟩ (GZ h)
def Only(H:Hp):Prop:=∀b,H b=none\/∃o xs,H b=some (.uH o (.lst xs))
theorem QiO{P:Program}{w:World}{K:Frag}{mg mb:Str->Option Value}{CX:CXT}{k:Nat}{fa a:Addr}{fd:FuncData}{x:Str}{sp:Sp}{s₁:Shared}{vs:QvZ}{ns:List Int}
 (KX:K.In s₁.heap) (hns:s₁.heap.Ns mainGlobals mg) (hb:s₁.heap.Ns builtinsNs mb) (hbb:∀x:Str,x≠"__name__"->mb x=bootBuiltins x) (hlim:s₁.heap.NoLimit) (hg:s₁.gens=#[])
 (ha:s₁.heap.get? a=some { cls:=.type "list",data:=.seq vs.toArray }) (hi:IntsAre vs ns) (hl:ns.length<=sizeLine) (hr:QB k callerA)
 (F:∀base:Heap,K.In base->base.Ns mainGlobals mg->QO P w K mg base CX k fa fd [x] sp) (hbind:∀(s:Shared)(u:Value),BindsTo s fd ⟨[u],[]⟩ [(x,u)])
 (hsp:∀H:Hp,Only H->jH K H a (ns.map V.int)->sp [.ref a] H (fun v _=>v=.bl true) fun _ _ _=>False)
 (hCX:∀H e s',CX [] H s₁ (fun _ _ _=>False) e s'->False) :
 codeAny (model P w) callerA (.call (.ref fa) ⟨[.ref a],[]⟩) (fun r s'=>r=.ok (.ret (.bool true))/\OldK s₁.heap s'.heap/\s'.os=s₁.os/\AllBare s'.gens) s₁:=by
 have rv:=GZ hi
 have lenV:=hi.length
 have core:∀H:Hp,Only H->jH K H a (ns.map V.int)->HOk P w H s₁.heap->(∀b,H b≠none->b=a)->(H a≠none->K.lookup a=none) ->
  codeAny (model P w) callerA (.call (.ref fa) ⟨[.ref a],[]⟩) (fun r s'=>r=.ok (.ret (.bool true))/\OldK s₁.heap s'.heap/\s'.os=s₁.os/\AllBare s'.gens) s₁:=by
  intro H hO hS hok hA hK
  have Qst:∀{b:Addr}{o:Obj},s₁.heap.get? b=some o->H b=none->(QbE s₁.heap H).get? b=some o:=fun e n=>Qi5 e n
  have noA:∀{b:Addr}{o:Obj}{es:Array DictEntry}{ep:Nat},s₁.heap.get? b=some o->o.data=.dict es ep->H b=none:=fun{b o es ep} e d=>by
   cases q:H b with
   | none=>rfl
   | some u =>
     have e':b=a:=hA b (by rw[q];simp)
     subst e'
     rw[ha] at e;cases e
     have d':Data.seq vs.toArray _=Data.dict es ep:=d
     cases d'
  have nsK:∀{b:Addr}{m:Str->Option Value},s₁.heap.Ns b m->(QbE s₁.heap H).Ns b m:=fun{b m} ⟨o,es,ep,e,d,r⟩=>⟨o,es,ep,Qst e (noA e d),d,r⟩
  have hKb:K.In (QbE s₁.heap H):=fun b o e=>Qst (KX b o e) (by
   cases q:H b with
   | none=>rfl
   | some u =>
     have e':b=a:=hA b (by rw[q];simp)
     subst e'
     rw[hK (by rw[q];simp)] at e;cases e)
  have hM:Mod K mg (QbE s₁.heap H):=⟨hKb,nsK hns,⟨mb,nsK hb,hbb⟩,let ⟨mc,h1,h2⟩:=hlim;⟨mc,nsK h1,h2⟩⟩
  have e0:Qev P w K mg (QbE s₁.heap H) callerA [] s₁ H:=⟨rfl,hM,fun b o e=>Qkw e,Nat.le_of_eq (QgO _ _),trivial,fun b hb=>absurd (show b∈([]:List Addr) from hb) (by simp),hok,.of_eq hg⟩
  refine xn ((F _ hKb (nsK hns)).run callerA [] s₁ H ⟨[.ref a],[]⟩ [.ref a] [.ref a] _ _ hr e0 (hbind s₁ (.ref a)) (.cons rfl .nil) (hsp H hO hS)) fun r s' h=>?_
  cases r with
  | error e=>exact(hCX H e s' h).elim
  | ok fl =>
    cases fl with
    | next=>exact False.elim h
    | brk=>exact False.elim h
    | cont=>exact False.elim h
    | ret u =>
      obtain⟨v,H',os,bare,un,hok',r',q⟩:=h
      have q':v=.bl true:=q
      subst q'
      obtain rfl:u=Value.bool true:=r'
      refine⟨rfl,OldK.of_keep fun b o e=>?_,os,bare⟩
      cases q:H b with
      | none=>exact un.keep b o e q (by intro z;exact absurd (show b∈([]:List Addr) from z) (by simp)) (by simp)
      | some u =>
        rcases hO b with z | ⟨ob,xs,z⟩
        .rw[q] at z;cases z
        .have z2:=un.Qnp b ob _ z
         obtain⟨e1,_⟩:=hok b _ z
         obtain⟨e2,_⟩:=hok' b _ z2
         rw[e] at e1;cases e1
         exact e2
 cases hk:K.lookup a with
 | some o =>
   have e:=KX a o hk
   rw[ha] at e
   cases e
   refine core (fun _=>none) (fun _=>.inl rfl) (.inr ⟨_,vs.toArray,_,hk,rfl,rfl,rfl,by rw[qZ,lenV];exact hl,by simpa using rv⟩) (fun b u z=>by have z':(none:Option HO)=some u:=z;cases z') (fun b z=>absurd rfl z) fun z=>absurd rfl z
 | none =>
   refine core (fun b=>if b=a then some (.uH { cls:=.type "list",data:=.seq vs.toArray } (.lst (ns.map V.int))) else none) (fun b=>?_) (.inl (.inr ⟨{ cls:=.type "list",data:=.seq vs.toArray },qD rfl⟩)) (fun b u z=>?_) (fun b z=>?_) fun _=>hk
   .by_cases hb:b=a
    .exact .inr ⟨_,_,qD hb⟩
    .exact .inl (qy hb)
   .by_cases hb:b=a
    .have z':=(qD hb).symm.trans z
     cases z'
     subst hb
     exact⟨ha,by rw[qi];exact hl,vs,_,rv,ha⟩
    .have z':=(qy hb).symm.trans z
     cases z'
   .by_cases hb:b=a
    .exact hb
    .exact absurd (qy hb) z
end L2
namespace L2
open PySem PySem.Spec PyProof.Rows
end L2
namespace L2
open PySem PySem.Spec PyProof.Rows
def QM(s:Stmt)(j:Nat):Stmt:=match s with
 | .ClassDef _ _ _ body _ _ _ _ _ _ _=>body.getD j (.Pass ⟨0,0,0,0⟩)
 | _=>.Pass ⟨0,0,0,0⟩
def ZK(s:Stmt):Arguments:=match s with
 | .FunctionDef _ a _ _ _ _ _ _ _ _=>a
 | _=>{ posonlyargs:=[],args:=[],vararg:=none,kwonlyargs:=[],kw_defaults:=[],kwarg:=none,defaults:=[] }
def Zl(s:Stmt):List Stmt:=match s with
 | .FunctionDef _ _ b _ _ _ _ _ _ _=>b
 | _=>[]
def Qh(s:Stmt):Scope:=match s with
 | .FunctionDef _ _ _ _ _ _ sc _ _ _=>sc
 | _=>{ kind:=.function,names:=[],isGenerator:=false,isCoroutine:=false }
abbrev xN:CXT:=fun _ _ _ _ _ _=>False
abbrev E0:XK:=fun _ _ _=>False
theorem Ql{X:Cx}:UF xN X E0:=fun _ _ _ _ _ _ _ h=>h.elim
structure jn(K:Frag)(x qual:Str)(st:Stmt)(f:Addr)(fd:FuncData):Prop where
 ex:∃(oc:Value)(od:Option Addr)(kV doc pm:Value)(an:Option Addr)(cdv ct:Value)(osl:Array (Option Value)),
  fd=fnOf x qual (ZK st) (Zl st) (Qh st) .none kV doc pm an cdv ct/\K.lookup f=some ⟨oc,od,.func fd,osl⟩/\codeIn K cdv qual=true
 kp:keepIn K (.ref f)=true
section
variable {P:Program}{w:World}{K:Frag}{mg:Str->Option Value}{base:Heap}
theorem jn.ok{x qual:Str}{st:Stmt}{f:Addr}{fd:FuncData}{N ps:QvX}{k:Nat}{sp:Sp}(F:jn K x qual st f fd)(S:Qm N ps (Qh st))(len:∀vs H Q E,sp vs H Q E->vs.length=ps.length)
 (hbody:∀(cdv:Value)(A:Around)(outer:List Env)(s:Shared)(H:Hp)(vs:List V)(Q:VK)(E:XK),QB k (A.deeper (envOfC qual (Qh st) s.heap.objs.size f cdv))->sp vs H Q E ->
   ∃t,PSs (Yo xN P w K mg base N qual (Qh st) f cdv A outer s H E).nox (Zl st) t/\t { nx:=fun _ H'=>Q .non H',rt:=Q } (start N vs) H):QO P w K mg base xN (k+1) f fd ps sp:=by
 obtain⟨oc,od,kV,doc,pm,an,cdv,ct,osl,rfl,lk,hcd⟩:=F.ex
 refine Qi9 lk hcd S len fun A outer s H vs Q E hr hsp=>?_
 obtain⟨t,h,q⟩:=hbody cdv A outer s H vs Q E hr hsp
 exact⟨t,h.nox,q⟩
theorem jn.binds{x qual:Str}{st:Stmt}{f:Addr}{fd:FuncData}{ps:QvX}(F:jn K x qual st f fd)
 (h:∀(kV doc pm:Value)(an:Option Addr)(cdv ct:Value)(us:QvZ),us.length=ps.length->bindArgs (fnOf x qual (ZK st) (Zl st) (Qh st) .none kV doc pm an cdv ct) ⟨us,[]⟩=pure (ps.zip us)):Qq K fd ps []:=by
 obtain⟨oc,od,kV,doc,pm,an,cdv,ct,osl,rfl,lk,hcd⟩:=F.ex
 exact .all (h kV doc pm an cdv ct)
theorem Qmp{x qual:Str}{st:Stmt}{f:Addr}{oc:Value}{od an:Option Addr}{osl:Array (Option Value)}{kV doc pm cdv ct:Value}(l:K.lookup f=some ⟨oc,od,.func (fnOf x qual (ZK st) (Zl st) (Qh st) .none kV doc pm an cdv ct),osl⟩)
 (c:codeIn K cdv qual=true) (k:keepIn K (.ref f)=true):jn K x qual st f (fnOf x qual (ZK st) (Zl st) (Qh st) .none kV doc pm an cdv ct):=⟨⟨oc,od,kV,doc,pm,an,cdv,ct,osl,rfl,l,c⟩,k⟩
end
theorem Zr{A:Around}{k:Nat}(hr:QB k A):A.units+1<cLine:=vH (Nat.add_le_add_left (by decide:1<=64) _) hr.units
theorem QK{n:Nat}(h:n<=1000):n<sizeLine:=vH h (by decide)
theorem Zg{n:Nat}(h:n<=1000):n<=sizeLine:=gb (QK h)
theorem zl_0:0<=sizeLine:=by decide
theorem QtY:1<=sizeLine:=by decide
theorem Yx:2<=sizeLine:=by decide
theorem Qg6:3<=sizeLine:=by decide
theorem Qg5:4<=sizeLine:=by decide
theorem Qg4:5<=sizeLine:=by decide
theorem Qu2:(0:Int)<2:=by decide
theorem QtZ:(0:Int)<3:=by decide
theorem Qu1:(0:Int)<4:=by decide
theorem zi_5:(0:Int)<5:=by decide
theorem zi_6:(0:Int)<6:=by decide
theorem zi_9:(0:Int)<9:=by decide
theorem zi_12:(0:Int)<12:=by decide
theorem QkY:(0:Int)<26:=by decide
theorem GG:(0:Int)<2147483647:=by decide
section
variable {X:Cx}
theorem pv(i:Nat){x:Str}{pos:Pos}(hN:X.N[i]?=some x:=by rfl)(hv:Vis X.env.scope x:=by first | exact Or.inl rfl | exact Or.inr (Or.inl rfl) | exact Or.inr (Or.inr rfl))(hd:(x == ("__debug__":Str))=false:=by decide)
 (hcd:(x == ("__classdict__":Str))=false:=by decide):PE X (.Name x pos) (tVar i):=QlY hN hv hd hcd
end
theorem Q4{A B:Prop}(h:B):if false=true then A else B:=by
 rw[qy qJ]
 exact h
theorem Zi{A B:Prop}(h:A):if true=true then A else B:=by
 rw[qD rfl]
 exact h
theorem Qc0{c A B:Prop}[Decidable c](h1:c->A)(h2:¬c->B):if c then A else B:=by
 by_cases h:c
 .rw[qD h]
  exact h1 h
 .rw[qy h]
  exact h2 h
def Qo(H H':Hp):Prop:=∀b o,H b=some o->H' b=some o
theorem Qo.refl(H:Hp):Qo H H:=fun _ _ h=>h
theorem Qo.trans{H H1 H2:Hp}(a:Qo H H1)(b:Qo H1 H2):Qo H H2:=fun c o h=>b c o (a c o h)
theorem Qo.free{H H':Hp}(e:Qo H H'){l:Addr}(h:H' l=Option.none):H l=Option.none:=by
 cases q:H l with
 | none=>rfl
 | some o =>
   rw[e l o q] at h
   cases h
theorem Qo.seq{K:Frag}{H H':Hp}{a:Addr}{xs:List V}(e:Qo H H')(h:jH K H a xs):jH K H' a xs:=by
 rcases h with(h | ⟨o,h⟩) | h
 .exact .inl (.inl (e _ _ h))
 .exact .inl (.inr ⟨o,e _ _ h⟩)
 .exact .inr h
end L2
namespace L2
open PySem PySem.Spec PyProof.Rows
section
variable {X:Cx}
end
section
variable {κ:Type}[DecidableEq κ]
theorem Xc{p:κ×V}{r:List (κ×V)}{k:κ}(e:p.1=k):ZS (p :: r) k=ZS r k:=by
 unfold ZS
 rw[qX,qy (by simp[e])]
theorem Xd{p:κ×V}{r:List (κ×V)}{k:κ}(e:¬p.1=k):ZS (p :: r) k=p :: ZS r k:=by
 unfold ZS
 rw[qX,qD (by simp[e])]
end
end L2
set_option maxHeartbeats 4000000
namespace L2
open PySem PySem.Spec PyProof.Rows
def Its(x:Str):It:=⟨fun i _=>i<x.cps.size,fun i H y H'=>H'=H/\∃c,x.cps[i]?=some c/\y=.str ⟨#[c]⟩,fun i _=>i=x.cps.size⟩
theorem G9{P:Program}{w:World}{K:Frag}{tg:Expr}{x:Str}{t:Tok}{it:Addr}{ty:String}
 (hn:["enumerate","zip","dict_itemiterator","dict_reverseitemiterator","odict_iterator","itertools.zip_longest","itertools.pairwise"].contains ty=false)
 (W:∀A':Around,A'.handled=none->Walks P w A' it [it] [it] x.cps.size (SignAt x) (fun i h=>h.IsStrIter it ty x t i))
 (hself:∀(A:Around)(i:Nat)(s:Shared)(Q:QvY)(E:QvY),s.heap.IsStrIter it ty x t i->Q (.ref it) s->wpAny (model P w) A (pyIter (.ref it)) Q E s) :
 Qjy P w K tg (Its x) [it] it (fun i h=>h.IsStrIter it ty x t i) where
 mem:=ql.mpr rfl
 obj:=fun i h st b hb=>by
  cases ql.mp hb
  obtain⟨o,q,_,d⟩:=st
  exact⟨o,q,fun v z=>by rw[d] at z;cases z⟩
 keep:=fun i h h' st k=>by
  obtain⟨o,q,r⟩:=st
  exact⟨o,k it (ql.mpr rfl) o q,r⟩
 item:=by
  intro X e1 e2 e3 hc i pins s σ H E I hf st hg
  subst e1 e2 e3
  have F:=hf it (ql.mpr rfl)
  refine(W X.A (I.ok.hd hc)).item i s _ _ hg st fun v h' tk hv st' kk=>?_
  obtain⟨c,u,hx,rfl⟩:=hv
  have J:Inv X pins σ H { s with heap:=h',toks:=tk }:=I.turned (fun b o hb q=>kk b o (fun z=>hb (ql.mp z)) q) F.1 F.2.1 F.2.2.2.1 F.2.2.2.2.1 F.2.2.2.2.2
  obtain⟨o,q,cc,d⟩:=id st'
  exact⟨_,rfl,Qfw (s:={ s with heap:=h',toks:=tk }) q cc d hn ⟨.str ⟨#[c]⟩,H,J,⟨u,rfl⟩,⟨rfl,c,hx,rfl⟩,st',fun b hb=>(hf b hb).1⟩⟩
 done:=by
  intro X e1 e2 e3 hc i pins s σ H E I hf st hg
  subst e1 e2 e3
  have F:=hf it (ql.mpr rfl)
  have g:i=x.cps.size:=hg
  subst g
  exact(W X.A (I.ok.hd hc)).done s _ _ st fun h' tk kk=>⟨rfl,I.turned (fun b o hb q=>kk b o (fun z=>hb (ql.mp z)) q) F.1 F.2.1 F.2.2.2.1 F.2.2.2.2.1 F.2.2.2.2.2⟩
 self:=hself
inductive Qi3(R:(It->Hp->Prop))(x:V)(H1:Hp):Prop
 | mk:∀y,x=.str y->R (Its y) H1->Qi3 R x H1
def iStr(te:TE):TI:=fun σ H R=>te σ H fun x H1=>Qi3 R x H1
theorem Qh3{X:Cx}{tg l:Expr}{tl:TE}(hl:PE X l tl):PI X tg l (iStr tl):=by
 intro pins s σ H R I h
 refine jO (hl pins s σ H _ I h) fun v s1 ⟨x,H1,I1,r1,y,e,q⟩=>?_
 subst e
 obtain⟨t,rfl⟩:=r1
 have fp:∀b∈[s1.heap.objs.size],Qdt X pins H1 b:=fun b hb=>by
  cases ql.mp hb
  exact I1.Quo (qt _) (I1.hok.fresh (qt _))
 cases ha:y.cps.all (·<128)
 .refine wpAny_pyIter_wide ha ?_
  exact⟨s1.heap.objs.size,[s1.heap.objs.size],_,_,H1,rfl,I1.kept (t':=s1.toks) fun b o z=>qm _ z,
   G9 (x:=y) (t:=t) (ty:="str_iterator") (by decide) (fun A' hA=>Walks.strWide hA _ y t) (fun _ _ _ _ _ st hq=>wpAny_pyIter_striter_wide st hq),⟨_,qH _ rfl,rfl,rfl⟩,fp,q⟩
 .refine wpAny_pyIter_ascii ha ?_
  exact⟨s1.heap.objs.size,[s1.heap.objs.size],_,_,H1,rfl,I1.kept (t':=s1.toks) fun b o z=>qm _ z,
   G9 (x:=y) (t:=t) (ty:="str_ascii_iterator") (by decide) (fun A' hA=>Walks.strAscii hA _ y t) (fun _ _ _ _ _ st hq=>wpAny_pyIter_striter_ascii st hq),⟨_,qH _ rfl,rfl,rfl⟩,fp,q⟩
def YL(cells:List (Str×Addr)):List (Str×NameKind)->List (Str×Addr)->List (Str×Addr)
 | [],cs=>cs
 | (n,k) :: r,cs=>YL cells r (if k == .free then (match cells.lookup n with | some c=>(n,c) :: cs | none=>cs) else cs)
theorem GV{scope:Scope}{env:Env}(h:∀y∈scope.names,y.2=.free->∃c,env.cells.lookup y.1=some c):closureFor scope env=pure (YL env.cells scope.names []):=by
 unfold closureFor
 generalize ([]:List (Str×Addr))=cs
 revert cs
 generalize scope.names=names at h
 induction names with
 | nil=>intro cs;rfl
 | cons p r ih =>
   obtain⟨n,k⟩:=p
   intro cs
   have ih':=ih fun y hy=>h y (qP _ hy)
   by_cases hk:k=.free
   .subst hk
    obtain⟨c,hc⟩:=h (n,.free) qL rfl
    have e:cellOf env n=pure c:=by unfold cellOf;rw[hc] <;> rfl
    dsimp only at hc ⊢
    rw[List.forIn_cons]
    simp only[kY,gf,YL,hc]
    rw[e]
    exact ih' _
   .have hb:(k == NameKind.free)=false:=by simpa using hk
    dsimp only
    rw[List.forIn_cons]
    simp only[hb,zO,yX,YL]
    exact ih' _
theorem Gw{cells:List (Str×Addr)}:∀(names:List (Str×NameKind))(cs:List (Str×Addr)){y:Str}{c:Addr},(YL cells names cs).lookup y=some c->cells.lookup y=some c\/cs.lookup y=some c
 | [],cs,y,c,h=>.inr h
 | (n,k) :: r,cs,y,c,h=>by
   rcases Gw r _ (show(YL cells r _).lookup y=some c from h) with h1 | h1
   .exact .inl h1
   .split at h1
    .split at h1
     .rename_i c' hc'
      rw[jC] at h1
      split at h1
      .rename_i e
       cases h1
       exact .inl (by rw[eq_of_beq e];exact hc')
      .exact .inr h1
     .exact .inr h1
    .exact .inr h1
theorem XD{cells:List (Str×Addr)}:∀(names:List (Str×NameKind))(cs:List (Str×Addr)){y:Str},(∃c,cs.lookup y=some c)->∃c,(YL cells names cs).lookup y=some c
 | [],cs,y,h=>h
 | (n,k) :: r,cs,y,h=>by
   refine XD r _ ?_
   split
   .split
    .rw[jC]
     split
     .exact⟨_,rfl⟩
     .exact h
    .exact h
   .exact h
theorem V0{cells:List (Str×Addr)}:∀(names:List (Str×NameKind))(cs:List (Str×Addr)){y:Str},(y,NameKind.free)∈names->(∃c,cells.lookup y=some c)->∃c,(YL cells names cs).lookup y=some c
 | (n,k) :: r,cs,y,hy,hc=>by
   rcases qG.mp hy with e | hy
   .cases e
    refine XD r _ ?_
    obtain⟨c,hc⟩:=hc
    simp only[kY,gf,hc]
    exact⟨c,by simp[jC]⟩
   .exact V0 r _ hy hc
def Qva(env:Env)(p:Str×NameKind):Str×NameKind:=if (p.2 == NameKind.free && env.scope.kind == .function && env.kindOf p.1 == some .cell)=true then (p.1,NameKind.cell) else (p.1,p.2)
theorem QaB{env:Env}:∀{names:List (Str×NameKind)}{x:Str},names.lookup x=some .free->(names.map (Qva env)).lookup x=some .cell\/(names.map (Qva env)).lookup x=some .free
 | [],_,h=>by simp at h
 | (n,k) :: r,x,h=>by
   have ih:=@QaB env r x
   rw[qW]
   unfold Qva
   cases hx:x == n with
   | true =>
     rw[jC,hx] at h
     cases h
     by_cases hc:(NameKind.free == NameKind.free && env.scope.kind == .function && env.kindOf n == some .cell)=true
     .left;rw[qD hc,jC,hx]
     .right;rw[qy hc,jC,hx]
   | false =>
     rw[jC,hx] at h
     by_cases hc:(k == NameKind.free && env.scope.kind == .function && env.kindOf n == some .cell)=true
     .rw[qD hc,jC,hx];exact ih h
     .rw[qy hc,jC,hx];exact ih h
theorem Vz{scope:Scope}{env:Env}{x:Str}(h:scope.names.lookup x=some .free):(relabel scope env).names.lookup x=some .cell\/(relabel scope env).names.lookup x=some .free :=
 QaB (env:=env) h
theorem Qbh{scope:Scope}{env:Env}(nc:∀y∈scope.names,y.2≠.cell){y:Str}(h:(relabel scope env).names.lookup y=some .cell\/(relabel scope env).names.lookup y=some .free):(y,NameKind.free)∈scope.names:=by
 have key:∀k,(relabel scope env).names.lookup y=some k->k=.cell\/k=.free->(y,NameKind.free)∈scope.names:=fun k e hk=>by
  have m:=j4 e
  obtain⟨⟨n,k'⟩,hm,q⟩:=qd.mp m
  dsimp only at q
  split at q
  .rename_i c
   have c1:(k' == NameKind.free)=true:=by
    simp only[zQ] at c
    exact c.1.1
   have c2:k'=.free:=eq_of_beq c1
   cases q
   rw[c2] at hm
   exact hm
  .cases q
   rcases hk with z | z
   .exact absurd z (nc _ hm)
   .rw[z] at hm;exact hm
 rcases h with h | h
 .exact key _ h (.inl rfl)
 .exact key _ h (.inr rfl)
structure Xj(sc scope:Scope)(N:QvX)(x:Str)(fr:List (Nat×Str)):Prop where
 kind:scope.kind=.function
 loc:scope.names.lookup x=some .local
 names:∀y∈scope.names,y.2=.local->scope.names.lookup y.1=some .local
 Qtk:∀y∈scope.names,y.2≠.cell
 free:∀y∈scope.names,y.2=.free->sc.names.lookup y.1=some .cell\/sc.names.lookup y.1=some .free
 frk:∀p∈fr,N[p.1]?=some p.2/\scope.names.lookup p.2=some .free
 nd:(x :: fr.map (·.2)).Nodup
def Y5(X:Cx)(scope:Scope)(C:Addr)(N:QvX)(s:Shared)(H:Hp)(fp:List Addr):Cx where
 prog:=X.prog
 w:=X.w
 K:=X.K
 mg:=X.mg
 base:=X.base
 A:=X.A
 N:=N
 s₀:=s
 H₀:=H
 env:=compEnvC scope (YL X.env.cells scope.names []) C X.env
 outer:=X.stack
 stack:=X.stack
 ex:=fp
 fn:=fun _=>false
 calm:=X.calm
 pn:=[]
 xe:=fun _ _=>False
def frV(σ:St)(fr:List (Nat×Str)):St:=fr.map fun p=>(σ[p.1]?).join
def PTs(X:Cx)(ifs:List Expr)(t:TT):Prop :=
 ∀(pins:List (Addr×Obj))(s:Shared)(σ:St)(H:Hp)(Q:Bool->Hp->Prop),Inv X pins σ H s->t σ H Q ->
  wpAny (model X.prog X.w) X.A (forIn ifs true fun c r=>if r=true then do let ok <-isTrue c X.env (eval c X.env);pure (ForInStep.yield ok) else pure (ForInStep.yield r)) (TP X pins σ Q) X.xe s
def Qey:TT:=fun _ H Q=>Q true H
theorem QbT{σ:St}{H:Hp}{Q:Bool->Hp->Prop}(h:Q true H):Qey σ H Q:=h
theorem Qbl{X:Cx}:PTs X [] Qey:=fun _ _ _ H _ I h=>wpAny_tests_nil ⟨H,I,h⟩
theorem Qbk{X:Cx}{c:Expr}{t:TT}(hc:PT X c t):PTs X [c] t:=fun pins s σ H Q I h=>wpAny_tests_one (hc pins s σ H Q I h)
def ZU(J:It)(fr:List (Nat×Str))(tt:TT)(te:TE)(σ:St)(H1:Hp)(Q:VK):Prop:=∀D,H1 D=none ->
 ∃W:Nat->Nat->List V->Hp->Prop,(∃m,W 0 m [] (upd H1 D (.lst [])))/\∀i m ys H2,W i m ys H2->H2 D=some (.lst ys) /\
  ((J.stop i H2/\Q (.ref D) H2)\/(J.go i H2/\∀v H3,J.yld i H2 v H3->tt (some v :: frV σ fr) H3 fun b H4 =>
    if b=true then te (some v :: frV σ fr) H4 fun y H5=>H5 D=some (.lst ys)/\ys.length<sizeLine/\∃m',m'<m/\W (i+1) m' (ys++[y]) (upd H5 D (.lst (ys++[y])))
    else ∃m',m'<m/\W (i+1) m' ys H4))
def Qhj(wi:TI)(fr:List (Nat×Str))(tt:TT)(te:TE):TE:=fun σ H Q=>wi σ H fun J H1=>ZU J fr tt te σ H1 Q
structure QmH(X:Cx)(pins:List (Addr×Obj))(H:Hp)(C:Addr):Prop where
 hn:H C=none
 hL:C≠X.env.locals
 h1:C∈X.ex\/X.s₀.heap.objs.size<=C
 h2:∀x c,X.env.cells.lookup x=some c->c≠C
 h3:∀p∈X.pn++pins,p.1≠C
theorem Qc8{X:Cx}{x:Str}{px:Pos}{iter elt:Expr}{ifs:List Expr}{scope sc:Scope}{pos pos':Pos}{N:QvX}{fr:List (Nat×Str)}{wi:TI}{tt:TT}{te:TE}
 {pins:List (Addr×Obj)} {s:Shared} {σ:St} {H:Hp} {Q:VK} {Q':QvY} {use:Option (Value->Sem Unit)}
 (S:Xj sc scope N x fr) (hsc:X.env.scope=sc) (hN:X.N=N) (hc:X.calm=true) (hi:PI X (.Name x px) iter wi)
 (ht:∀(C:Addr)(s:Shared)(H:Hp)(fp:List Addr),PTs (Y5 X scope C (x :: fr.map (·.2)) s H fp) ifs tt)
 (he:∀(C:Addr)(s:Shared)(H:Hp)(fp:List Addr),PE (Y5 X scope C (x :: fr.map (·.2)) s H fp) elt te)
 (hs:∀z,foldedSetIterable iter X.env z=pure z) (I:Inv X pins σ H s) (h:Qhj wi fr tt te σ H Q)
 (hfin:∀(D C:Addr)(H':Hp)(s':Shared)(m:Str->Option Value),Inv X pins σ H' s'->s'.heap.Ns C m->QmH X pins H' C->Q (.ref D) H'->compPost (model X.prog X.w) X.A X.xe use Q' (.ref D) C (.ok .next) s') :
 wpAny (model X.prog X.w) X.A (comprehension (.ListComp elt [⟨.Name x px,iter,ifs,0⟩] scope pos) scope X.env pos' (newList []) false (eval iter X.env) use) Q' X.xe s:=by
 have kin:∀y,scope.names.lookup y=some .free->X.env.kindOf y=some .cell\/X.env.kindOf y=some .free:=fun y hy=>by
  show X.env.scope.names.lookup y=_\/X.env.scope.names.lookup y=_
  rw[hsc]
  exact S.free (y,.free) (j4 hy) rfl
 have kin':∀y∈scope.names,y.2=.free->X.env.kindOf y.1=some .cell\/X.env.kindOf y.1=some .free:=fun y hy hf=>by
  show X.env.scope.names.lookup y.1=_\/X.env.scope.names.lookup y.1=_
  rw[hsc]
  exact S.free y hy hf
 have hkc:∀y∈scope.names,y.2=.free->∃c,X.env.cells.lookup y.1=some c:=fun y hy hf=>I.ok.has y.1 (kin' y hy hf)
 refine wpAny_comprehension_free (use:=use) rfl hs (GV hkc) S.kind S.names ?_
 refine jO (hi pins s σ H _ I h) fun xv s1 h1=>jO h1 fun itv s2 h2=>?_
 obtain⟨it,fp,tn,J,H2,rfl,I2,T,st2,f2,q2⟩:=h2
 refine zP (wpAny_newFunctionEnv S.Qtk (by intro y hy;simp at hy) (fun h₁ hns₁ hsb₁=>?_) S.kind)
 dsimp only at hns₁ hsb₁ ⊢
 have I3:Inv X pins σ (upd H2 s2.heap.objs.size (.lst [])) { s2 with heap:=s2.heap.push { cls:=.type "list",data:=.seq ([]:QvZ).toArray } } :=
  I2.Que (its:=[]) (t':=s2.toks) .nil (zK _)
 unfold ZU at q2
 obtain⟨W,⟨m0,w0⟩,turn⟩:=q2 s2.heap.objs.size (I2.hok.fresh (qt _))
 generalize hG:s2.heap.push { cls:=.type "list",dict:=none,data:=.seq ([]:QvZ).toArray }=G at hns₁ hsb₁ I3 ⊢
 generalize hD:s2.heap.objs.size=D at I3 turn w0 ⊢
 generalize hH3:upd H2 D (.lst [])=H3 at I3 w0
 have neG:∀b o,G.get? b=some o->b≠G.objs.size:=fun b o e=>qY (qM e)
 have old:∀b o,G.get? b=some o->h₁.get? b=some o:=fun b o e=>(hsb₁.2 b (neG b o e)).trans (qm _ e)
 have up2:∀b o,s2.heap.get? b=some o->G.get? b=some o:=fun b o e=>by rw[<-hG];exact qm _ e
 have fpG:∀b∈fp,b<G.objs.size:=fun b hb=>by
  obtain⟨o,e,_⟩:=T.obj _ _ st2 b hb
  exact qM (up2 b o e)
 have sub:∀{y:Str}{c:Addr},(YL X.env.cells scope.names []).lookup y=some c->X.env.cells.lookup y=some c:=fun{y c} e=>by
  rcases Gw _ _ e with z | z
  .exact z
  .simp at z
 have Qsl:∀b∈fp,(b∈X.ex\/X.s₀.heap.objs.size<=b)/\b≠X.env.locals/\(∀x c,X.env.cells.lookup x=some c->c≠b)/\∀p∈X.pn++pins,p.1≠b:=fun b hb =>
  ⟨(f2 b hb).2.2.2.1,(f2 b hb).2.1,(f2 b hb).2.2.2.2.1,(f2 b hb).2.2.2.2.2⟩
 have hCL:G.objs.size≠X.env.locals:=QpK I3.lt
 have hC1:X.s₀.heap.objs.size<=G.objs.size:=I3.sz
 have hC2:∀x c,X.env.cells.lookup x=some c->c≠G.objs.size:=fun x c e=>by
  obtain⟨v,o,ho,_⟩:=I3.cell x c e
  exact neG c o ho
 have hC3:∀p∈X.pn++pins,p.1≠G.objs.size:=fun p hp=>neG p.1 p.2 (I3.pin p hp).1
 have okB:(Y5 X scope G.objs.size (x :: fr.map (·.2)) { s2 with heap:=G } H3 fp).Ok:=by
  refine⟨I2.ok.mod,S.kind,I2.ok.glob,I2.ok.blt,qt _,fun y z c e1 e2=>I2.ok.inj y z c (sub e1) (sub e2),fun y hy=>?_,fun y c z=>Bool.noConfusion z,I2.ok.hd,I2.ok.frames,.inl rfl,fun b hb=>⟨qY (fpG b hb),fun y c e=>(Qsl b hb).2.2.1 y c (sub e)⟩,
   fun b o e=>I3.bs b o e,zx I2.ok.bsz I3.sz,fun b o e hb=>?_,fun b hb hf=>?_,I3.stack,I3.Qqw⟩
  .have m:=Qbh S.Qtk hy
   exact V0 _ _ m (hkc _ m rfl)
  .rcases (Qsl b hb).1 with z | z
   .exact I2.ok.Qrg b o e z
   .exact absurd (zm (qM e) (zx I2.ok.bsz z)) (yh _)
  .rcases qG.mp (I2.Qqv b hf) with z | z
   .exact(Qsl b hb).2.1 z
   .exact(f2 b hb).2.2.1 z
 have I4:∀tk:Nat,Inv (Y5 X scope G.objs.size (x :: fr.map (·.2)) { s2 with heap:=G } H3 fp) [] (none :: frV σ fr) H3 { s2 with heap:=h₁,toks:=tk }:=fun tk=>by
  refine⟨okB,rfl,I2.bare,Un.kept old,⟨_,hns₁,fun i y v e1 e2 _=>?_⟩,fun y c e=>?_,I3.hok.fresh (qt _),fun y c e=>I3.vz y c (sub e),fun p hp=>absurd (show p∈([]:List (Addr×Obj)) from hp) (by simp),I3.hok.kept old,?_⟩
  .cases i with
   | zero=>simp at e2
   | succ i =>
     have e1':(fr.map (·.2))[i]?=some y:=e1
     have e2':(fr.map fun p=>(σ[p.1]?).join)[i]?=some (some v):=e2
     rw[q8] at e1' e2'
     cases hp:fr[i]? with
     | none=>rw[hp] at e1';cases e1'
     | some p =>
       rw[hp] at e1' e2'
       have ey:p.2=y:=qR e1'
       have ev:(σ[p.1]?).join=some v:=qR e2'
       have ev':σ[p.1]?=some (some v):=by
        cases q:σ[p.1]? with
        | none=>rw[q] at ev;cases ev
        | some o=>rw[q] at ev;simp only[Option.join] at ev;exact jM some ev
       have hf:=S.frk p (qU hp)
       rw[ey] at hf
       have hk:=kin y hf.2
       obtain⟨m,_,hl⟩:=I2.loc
       obtain⟨u,ru,l⟩:=hl p.1 y v (by rw[hN];exact hf.1) ev' (.inr hk)
       refine⟨u,ru,.inr ⟨Vz hf.2,?_⟩⟩
       rcases l with⟨k,_⟩ | ⟨_,c,e,z⟩
       .rcases hk with hk | hk
        .rw[hk] at k;cases k
        .rw[hk] at k;cases k
       .obtain⟨c',ec⟩:=V0 (cells:=X.env.cells) scope.names [] (j4 hf.2) ⟨c,e⟩
        have:=sub ec
        rw[e] at this
        cases this
        obtain⟨o,ho,hd⟩:=z
        exact⟨c,ec,o,old c o (up2 c o ho),hd⟩
  .obtain⟨v,o,ho,hd⟩:=I2.cell y c (sub e)
   exact⟨v,o,old c o (up2 c o ho),hd⟩
  .show(none :: frV σ fr).length=(x :: fr.map (·.2)).length
   simp[frV]
 have Qvp:(Y5 X scope G.objs.size (x :: fr.map (·.2)) { s2 with heap:=G } H3 fp).env.scope.names.lookup x=some .local:=lookup_relabel_local S.loc
 generalize hX:Y5 X scope G.objs.size (x :: fr.map (·.2)) { s2 with heap:=G } H3 fp=Y at I4 Qvp
 have eP:Y.prog=X.prog:=by rw[<-hX];rfl
 have eW:Y.w=X.w:=by rw[<-hX];rfl
 have eK:Y.K=X.K:=by rw[<-hX];rfl
 have eA:Y.A=X.A:=by rw[<-hX];rfl
 have eC:Y.calm=true:=by rw[<-hX];exact hc
 have eE:Y.env=compEnvC scope (YL X.env.cells scope.names []) G.objs.size X.env:=by rw[<-hX];rfl
 have eN:Y.N=x :: fr.map (·.2):=by rw[<-hX];rfl
 have eX:Y.xe=fun _ _=>False:=by rw[<-hX];rfl
 have eB:∀{σ':St}{H':Hp}{s':Shared}{QoB:List (Addr×Obj)},Inv Y QoB σ' H' s'->s'.os=s2.os/\Un (frs X.stack) fp H3 H' G s'.heap:=fun{σ' H' s' QoB} J=>by
  subst hX
  exact⟨J.os,J.base⟩
 have hT:=ht G.objs.size { s2 with heap:=G } H3 fp
 have hE:=he G.objs.size { s2 with heap:=G } H3 fp
 rw[hX] at hT hE
 have fpY:∀{H':Hp},(∀b∈fp,H' b=none)->∀b∈fp,Qdt Y [] H' b:=fun{H'} hn b hb=>by
  subst hX
  refine⟨hn b hb,qY (fpG b hb),okB.Qrv b hb,.inl hb,fun y c e=>(okB.exf b hb).2 y c e,fun p hp=>absurd (show p∈([]:List (Addr×Obj)) from hp) (by simp)⟩
 have loop:∀s3:Shared,(∃tk,s3={ s2 with heap:=h₁,toks:=tk }) ->
  codeAny (model X.prog X.w) X.A (.compLoop (.ListComp elt [⟨.Name x px,iter,ifs,0⟩] scope pos) 0 (.ref it) (.ref D) Y.env)
   (compPost (model X.prog X.w) X.A X.xe use Q' (.ref D) G.objs.size) s3:=by
  rintro s3 ⟨tk,rfl⟩
  refine codeAny_compLoop_tests (fun n s'=>∃i ys o H',Inv Y [] (o :: frV σ fr) H' s'/\tn i s'.heap/\(∀b∈fp,H' b=none)/\W i n ys H') ?_ m0
   ⟨0,[],none,H3,I4 tk,T.keep _ _ _ st2 fun b hb o e=>old b o (up2 b o e),fun b hb=>?_,w0⟩
  .rintro n s' ⟨i,ys,o,H',J',st',fr',w'⟩
   obtain⟨hD',hgo⟩:=turn i n ys H' w'
   rcases hgo with⟨stop,qn⟩ | ⟨go,step⟩
   .have Q1:=T.done Y eP eW eK eC i [] s' (o :: frV σ fr) H' (notedBy (model X.prog X.w) X.A Y.env fun e s''=>compPost (model X.prog X.w) X.A X.xe use Q' (.ref D) G.objs.size (.error e) s'') J' (fpY fr') st' stop
    rw[eA] at Q1
    refine jO Q1 fun r s4 ⟨hr,J4⟩=>?_
    subst hr
    obtain⟨m,hn,_⟩:=J4.loc
    rw[eE] at hn
    obtain⟨os4,u4⟩:=eB J4
    have free4:H' G.objs.size=none:=by have:=J4.free;rw[eE] at this;exact this
    have hok4:HOk X.prog X.w H' s4.heap:=by have:=J4.hok;rw[eP,eW] at this;exact this
    exact hfin D G.objs.size H' s4 m (I3.call' (ch:=fp) (s':=s4) os4 u4 hok4 J4.bare Qsl) hn ⟨free4,hCL,.inr hC1,hC2,hC3⟩ qn
   .have Q1:=T.item Y eP eW eK eC i [] s' (o :: frV σ fr) H' (notedBy (model X.prog X.w) X.A Y.env fun e s''=>compPost (model X.prog X.w) X.A X.xe use Q' (.ref D) G.objs.size (.error e) s'') J' (fpY fr') st' go
    rw[eA] at Q1
    refine jO Q1 fun r s4 ⟨u,hr,h4⟩=>?_
    subst hr
    show wpAny _ _ (letOwnedTupleGo (.Name x px) (.ref it) u >>= fun _=>assign (.Name x px) Y.env u) _ _ s4
    refine qb (jO h4 fun _ s5 ⟨v,H5,J5,r5,y5,st5,fr5⟩=>?_)
    have J5':=J5.pinned (fpY fr5) (T.obj _ _ st5)
    have G5:=ZI (X:=Y) (i:=0) (x:=x) (pos:=px) (by rw[eN];exact S.nd) (by rw[eN];rfl) (.inl Qvp) (.inr Qvp) ([]++WS fp s5.heap) s5 (o :: frV σ fr) H5 v u (fun σ6 H6=>σ6=some v :: frV σ fr/\H6=H5) J5' r5 ⟨rfl,rfl⟩
    rw[eP,eW,eA,eX] at G5
    refine yp G5 (fun _ s6 ⟨σ6,H6,J6,e6,e6'⟩=>?_) fun _ _ z=>z.elim
    subst e6 e6'
    have T6:=hT _ s6 _ _ _ J6 (step v _ y5)
    rw[eP,eW,eA,eX] at T6
    have again:∀{s7:Shared}{H7:Hp}{zs:List V},Inv Y ([]++WS fp s5.heap) (some v :: frV σ fr) H7 s7->(∃m',m'<n/\W (i+1) m' zs H7)->∃m,m<n/\∃i ys o H',Inv Y [] (o :: frV σ fr) H' s7/\tn i s7.heap/\(∀b∈fp,H' b=none)/\W i m ys H':=fun{s7 H7 zs} J7 ⟨m',hm,w7⟩=>by
     refine⟨m',hm,i+1,zs,some v,H7,J7.QnO,T.keep _ _ _ st5 fun b hb o e=>(J7.pin (b,o) (qC _ (qC _ (UB hb e)))).1,fun b hb=>?_,w7⟩
     obtain⟨o,e,d⟩:=T.obj _ _ st5 b hb
     exact(J7.pin (b,o) (qC _ (qC _ (UB hb e)))).2.1
    refine yp T6 (fun ok s7 ⟨H7,J7,q7⟩=>?_) fun _ _ z=>z.elim
    cases ok with
    | false=>exact again J7 q7
    | true =>
      have E7:=hE _ s7 _ _ _ J7 q7
      rw[eP,eW,eA,eX] at E7
      show wpAny _ _ (eval elt Y.env) _ _ s7
      refine yp E7 (fun u8 s8 ⟨y8,H8,J8,r8,hD8,hz8,w8⟩=>?_) fun _ _ z=>z.elim
      have A8:=Uj (X:=Y) _ s8 _ H8 (.ref D) [y8] (.ref D) [u8] (fun z H9=>H9=upd H8 D (.lst (ys++[y8]))) J8 rfl (.cons r8 .nil) ⟨D,ys,y8,rfl,rfl,hD8,hz8,rfl⟩
      rw[eP,eW,eA,eX] at A8
      refine yp A8 (fun _ s9 ⟨z9,H9,J9,_,e9⟩=>?_) fun _ _ z=>z.elim
      subst e9
      exact again J9 w8
  .rw[<-hH3]
   have hbD:b≠D:=by
    rw[<-hD]
    obtain⟨o,e,_⟩:=T.obj _ _ st2 b hb
    exact qY (qM e)
   rw[Qa hbD]
   exact(f2 b hb).1
 rw[eE] at loop
 exact codeAny_compStart_list (loop _ ⟨_,rfl⟩) (T.self _ 0 _ _ _ (T.keep _ _ _ st2 fun b hb o e=>old b o (up2 b o e)) (loop _ ⟨_,rfl⟩))
theorem XX{X:Cx}{x:Str}{px:Pos}{iter elt:Expr}{ifs:List Expr}{scope sc:Scope}{pos:Pos}{N:QvX}{fr:List (Nat×Str)}{wi:TI}{tt:TT}{te:TE}
 (S:Xj sc scope N x fr) (hsc:X.env.scope=sc) (hN:X.N=N) (hc:X.calm=true) (hi:PI X (.Name x px) iter wi)
 (ht:∀(C:Addr)(s:Shared)(H:Hp)(fp:List Addr),PTs (Y5 X scope C (x :: fr.map (·.2)) s H fp) ifs tt)
 (he:∀(C:Addr)(s:Shared)(H:Hp)(fp:List Addr),PE (Y5 X scope C (x :: fr.map (·.2)) s H fp) elt te)
 (hs:∀z,foldedSetIterable iter X.env z=pure z:=by intro _;rfl) :
 PE X (.ListComp elt [⟨.Name x px,iter,ifs,0⟩] scope pos) (Qhj wi fr tt te):=by
 intro pins s σ H Q I h
 rw[eval_ListComp]
 refine Qc8 (use:=none) S hsc hN hc hi ht he hs I h fun D C H' s' m J hn fc q=>?_
 exact⟨m,hn,fun h' hs'=>⟨.ref D,H',J.turned (t':=s'.toks) (fun b o hb e=>(hs'.2 b hb).trans e) fc.hn fc.hL fc.h1 fc.h2 fc.h3,rfl,q⟩⟩
theorem KL{X:Cx}{x y:Str}{px py spos:Pos}{i:Nat}{iter elt:Expr}{ifs:List Expr}{scope sc:Scope}{pos:Pos}{N:QvX}{fr:List (Nat×Str)}{wi:TI}{tt:TT}{te:TE}
 (S:Xj sc scope N x fr) (hsc:X.env.scope=sc) (hN:X.N=N) (hc:X.calm=true) (hnd:X.N.Nodup) (hiy:X.N[i]?=some y) (hy:X.env.scope.names.lookup y=some .local) (hi:PI X (.Name x px) iter wi)
 (ht:∀(C:Addr)(s:Shared)(H:Hp)(fp:List Addr),PTs (Y5 X scope C (x :: fr.map (·.2)) s H fp) ifs tt)
 (he:∀(C:Addr)(s:Shared)(H:Hp)(fp:List Addr),PE (Y5 X scope C (x :: fr.map (·.2)) s H fp) elt te)
 (hs:∀z,foldedSetIterable iter X.env z=pure z:=by intro _;rfl)
 (hsw:swapsWith (.ListComp elt [⟨.Name x px,iter,ifs,0⟩] scope pos) (some (.Name y py)) spos.line X.env=pure true:=by rfl) :
 PS X (.Assign [.Name y py] (.ListComp elt [⟨.Name x px,iter,ifs,0⟩] scope pos) spos) (Qhl (Qhj wi fr tt te) (Gm i)):=by
 intro pins s σ H D0 I h
 rw[exec_Assign_Name_used _ _ _ _ hsw]
 refine qb (wpAny_standAt (qb ?_))
 show wpAny _ X.A (do let _ <-comprehension (.ListComp elt [⟨.Name x px,iter,ifs,0⟩] scope pos) scope X.env _ (newList []) false (eval iter X.env) (some (assign (.Name y py) X.env))) _ _ s
 refine qb (jO (Qc8 (use:=some (assign (.Name y py) X.env)) (Q':=fun _ s'=>SP X pins D0 .next s') S hsc hN hc hi ht he hs I h fun D C H' s' m J hn fc q=>?_) fun _ s' hq=>qj (qj hq))
 show wpAny _ _ (assign (.Name y py) X.env (.ref D)) _ _ s'
 refine wpAny_assign_Name (Qaf J hnd hiy (.inl hy) (v:=.ref D) rfl (fun s5 J5 hs5=>?_) (.inr hy))
 obtain⟨a,sb,ha⟩:=hs5
 have hCa:C≠a:=by
  rcases ha with z | z
  .rw[z];exact fc.hL
  .exact xH (fc.h2 _ _ z)
 refine⟨m,hn.sameBut sb hCa,fun h' hs'=>⟨_,H',J5.turned (t':=s5.toks) (fun b o hb e=>(hs'.2 b hb).trans e) fc.hn fc.hL fc.h1 fc.h2 fc.h3,q⟩⟩
theorem Qg2{bs:List Bool}:(List.range bs.length).all (fun i=>bs.getD i true)=bs.all id:=by
 rw[gP,jR,jR]
 constructor
 .intro h b hb
  obtain⟨i,hi,e⟩:=List.mem_iff_getElem.mp hb
  have q:=h i (wQ.mpr hi)
  simp only[zG,qz hi,Option.getD_some] at q
  rw[<-e];exact q
 .intro h i hi
  have hi':=wQ.mp hi
  simp only[zG,qz hi',Option.getD_some]
  exact h _ (jT hi')
theorem Qjp{X:Cx}(hc:X.calm=true):JD X (.builtin "all") (fun xs H Q=>∃(p:Addr)(bs:List Bool),xs=[.ref p]/\jH X.K H p (bs.map V.bl)/\Q (.bl (bs.all id)) H):=by
 intro pins s σ H xs us Q I r h
 obtain⟨p,bs,rfl,hq,q⟩:=h
 obtain⟨u,rfl,rx⟩:=YQ r
 cases rx
 obtain⟨its,rv,pl,hz⟩:=I.list hq
 have hlen:=rv.length
 rw[qi] at hlen
 have hpl:p<s.heap.objs.size:=by obtain⟨o,e,_⟩:=pl.isList;exact qM e
 refine call_all_walk (wpAny_pyIter_list pl.isList ?_)
 refine⟨s.heap.objs.size,_,[s.heap.objs.size],its.toArray.size,_,_,fun i=>bs.getD i true,rfl,Walks.list (A:=X.A.in1) (I.ok.hd hc) s.heap.objs.size p (qY hpl) its.toArray,⟨⟨_,qH _ rfl,rfl,rfl⟩,pl.isList.push _⟩,?_,?_⟩
 .intro i v s' Q' E' hv hq'
  have hv':its[i]?=some v:=by simpa using hv
  have hi:i<its.length:=(zp.mp hv').1
  have hb:(bs.map V.bl)[i]?=some (V.bl (bs.getD i true)):=by
   rw[q8,qz (by omega)]
   simp[zG,qz (show i<bs.length by omega)]
  obtain⟨u,e1,e2⟩:=rv.get hb
  rw[hv'] at e1
  cases e1
  cases e2
  exact ju hq'
 .intro h' tk hk
  have hsz:its.toArray.size=bs.length:=by rw[qZ];exact hlen.symm
  rw[hsz,Qg2]
  exact⟨.bl (bs.all id),H,I.kept (t':=tk) fun b o e=>hk b o (fun z=>absurd (qM e) (by rw[ql.mp z];exact yh _)) (qm _ e),rfl,q⟩
def QvF:V->Option Value
 | .ty n=>some (.type n)
 | .ref a=>some (.ref a)
 | _=>none
theorem ZV{X:Cx}:JD X (.builtin "isinstance") (fun xs H Q=>∃x c cv t b,xs=[x,c]/\QvF c=some cv/\Y6 X.K H x t/\kitOne X.K t cv=some b/\Q (.bl b) H):=by
 intro pins s σ H xs us Q I r h
 obtain⟨x,c,cv,t,b,rfl,hcv,ty,hk,q⟩:=h
 obtain⟨u,u',rfl,rx,rc⟩:=QkZ r
 have e:u'=cv:=by
  cases c with
  | ty n=>cases hcv;exact rc
  | ref a=>cases hcv;exact rc
  | _=>cases hcv
 subst e
 exact QgK I rx ty hk fun tk=>⟨.bl b,H,I.tok tk,rfl,q⟩
theorem JE{xs:QvX}:∀{us:QvZ},QF (xs.map V.str) us->StrsAre us xs:=by
 induction xs with
 | nil=>intro us r;rw[List.map_nil] at r;cases r;exact .nil
 | cons y ys ih =>
   intro us r
   rw[qW] at r
   cases r with
   | cons r1 r2 =>
     obtain⟨t,e⟩:=r1
     subst e
     exact .cons y t (ih r2)
inductive Qe3(K:Frag)(x:V)(xs:List V)(H:Hp)(Q:VK):Prop
 | mk:∀(sep:Str)(p:Addr)(ys:QvX),x=.str sep->xs=[.ref p]->jH K H p (ys.map V.str)->(ys.map (·.length)).sum+ys.length*sep.length<=16777216->Q (.str (Txt.join sep ys)) H->Qe3 K x xs H Q
def rJoin(K:Frag):V->List V->Hp->VK->Prop:=fun x xs H Q=>Qe3 K x xs H Q
theorem Qfi{X:Cx}:MtR X "str.join" (rJoin X.K):=by
 intro pins s σ H x xs v us Q I rx rv h
 obtain⟨sep,p,ys,rfl,rfl,hq,hz,q⟩:=h
 obtain⟨t,rfl⟩:=rx
 obtain⟨u,rfl,ru⟩:=YQ rv
 cases ru
 obtain⟨its,r,pl,_⟩:=I.list hq
 exact join_list pl.isList (by have:=JE r;simpa using this) hz fun t' k=>⟨.str (Txt.join sep ys),H,I.tok k,⟨t',rfl⟩,q⟩
inductive QhM(x:V)(lo:Option Int)(hi:Option Int)(H:Hp)(Q:VK):Prop
 | mk:∀y,x=.str y->y.length<=sizeLine->Q (.str (Txt.slice y lo hi)) H->QhM x lo hi H Q
def rSlS:V->Option Int->Option Int->Hp->VK->Prop:=fun x lo hi H Q=>QhM x lo hi H Q
theorem QdC{X:Cx}:SlR X rSlS:=by
 intro pins s σ H x v vl vu lo hi sl Q I rx hs pl pu h
 obtain⟨y,rfl,hz,q⟩:=h
 obtain⟨t,rfl⟩:=rx
 refine⟨"str",_,F.slot_str_getitem.lookup,typeIs_str _ _ _,?_⟩
 have fin:∀lo hi,Q (.str (Txt.slice y lo hi)) H->(Txt.slice y lo hi).length<=sizeLine/\∀t' k,EP X pins σ Q (.str (Txt.slice y lo hi) t') { s with toks:=k }:=fun lo hi q =>
  ⟨zx (Txt.slice_le y _ _) hz,fun t' k=>⟨.str _,H,I.tok k,⟨t',rfl⟩,q⟩⟩
 cases pl with
 | none =>
   cases pu with
   | none=>exact Qlk (l:=none) (u:=none) (st:=none) hs rfl (Qsh (fin _ _ q))
   | int j tj=>exact Qlk (l:=none) (u:=some (j,tj)) (st:=none) hs rfl (Qsh (fin _ _ q))
 | int i ti =>
   cases pu with
   | none=>exact Qlk (l:=some (i,ti)) (u:=none) (st:=none) hs rfl (Qsh (fin _ _ q))
   | int j tj=>exact Qlk (l:=some (i,ti)) (u:=some (j,tj)) (st:=none) hs rfl (Qsh (fin _ _ q))
mutual
inductive RD(K:Frag)(H:Hp):V->PyData->Prop
 | non:RD K H .non .none
 | bl (b:Bool):RD K H (.bl b) (.bool b)
 | int (i:Int):RD K H (.int i) (.int i)
 | str (x:Str):RD K H (.str x) (.str x)
 | lst {a:Addr} {xs:List V} {ds:List PyData}:jH K H a xs->RDs K H xs ds->RD K H (.ref a) (.list ds)
 | tup {a:Addr} {xs:List V} {ds:List PyData}:ye K H a xs->RDs K H xs ds->RD K H (.ref a) (.tuple ds)
inductive RDs(K:Frag)(H:Hp):List V->List PyData->Prop
 | nil:RDs K H [] []
 | cons {x:V} {xs:List V} {d:PyData} {ds:List PyData}:RD K H x d->RDs K H xs ds->RDs K H (x :: xs) (d :: ds)
end
mutual
theorem RD.reads{X:Cx}{pins:List (Addr×Obj)}{σ:St}{H:Hp}{s:Shared}(I:Inv X pins σ H s):∀{x:V}{d:PyData}{u:Value},RD X.K H x d->QI x u->∃as,Reads s.heap u d as
 | _,_,_,.non,r=>by cases (show _=Value.none from r);exact⟨_,.none⟩
 | _,_,_,.bl b,r=>by cases (show _=Value.bool b from r);exact⟨_,.bool b⟩
 | _,_,_,.int i,r=>by obtain⟨t,e⟩:=r;subst e;exact⟨_,.int i t⟩
 | _,_,_,.str x,r=>by obtain⟨t,e⟩:=r;subst e;exact⟨_,.str x t⟩
 | _,_,_,.lst (a:=a) hq hs,r=>by
   cases (show _=Value.ref a from r)
   obtain⟨its,rv,pl,_⟩:=I.list hq
   obtain⟨as,ra⟩:=RDs.reads I hs rv
   obtain⟨o,e,c,n,d⟩:=pl.isList
   exact⟨_,.list e c d (by simpa using ra)⟩
 | _,_,_,.tup (a:=a) hq hs,r=>by
   cases (show _=Value.ref a from r)
   obtain⟨its,rv,pl,_⟩:=I.tuple hq
   obtain⟨as,ra⟩:=RDs.reads I hs rv
   obtain⟨o,e,c,n,d⟩:=pl
   exact⟨_,.tuple e c d (by simpa using ra)⟩
theorem RDs.reads{X:Cx}{pins:List (Addr×Obj)}{σ:St}{H:Hp}{s:Shared}(I:Inv X pins σ H s):∀{xs:List V}{ds:List PyData}{us:QvZ},RDs X.K H xs ds->QF xs us->∃as,ReadsAll s.heap us ds as
 | _,_,_,.nil,r=>by cases r;exact⟨_,.nil⟩
 | _,_,_,.cons h1 h2,r=>by
   cases r with
   | cons r1 r2 =>
     obtain⟨as,a1⟩:=RD.reads I h1 r1
     obtain⟨bs,a2⟩:=RDs.reads I h2 r2
     exact⟨_,.cons a1 a2⟩
end
inductive QhT(K:Frag)(x:V)(y:V)(H:Hp)(Q:VK):Prop
 | mk:∀d e,RD K H x d->RD K H y e->SeqAt.shaped d=true->SeqAt.shaped e=true->Q (.bl (PyData.eqv d e)) H->QhT K x y H Q
def rEqD(K:Frag):R2:=fun x y H Q=>QhT K x y H Q
theorem QdQ{X:Cx}(hu:X.A.units+64<cLine):OpR X (compareOp .Eq) (rEqD X.K):=by
 intro pins s σ H x y v u Q I rx ry h
 obtain⟨d,e,hd,he,sd,se,q⟩:=h
 obtain⟨as,ra⟩:=hd.reads I rx
 obtain⟨bs,rb⟩:=he.reads I ry
 exact eq_dataH ra rb sd se hu ⟨.bl _,H,I,rfl,q⟩
theorem QfT{n:Nat}{P:QvZ->Prop}(h:∀a us,us.length=n->P (a :: us)):∀us:QvZ,us.length=n+1->P us:=fun us e=>by
 cases us with
 | nil=>exact absurd e (Nat.succ_ne_zero n).symm
 | cons a us=>exact h a us (Nat.succ.inj e)
theorem us_0{P:QvZ->Prop}(h:P []):∀us:QvZ,us.length=0->P us:=fun us e=>by rw[List.eq_nil_of_length_eq_zero e];exact h
theorem us_1{P:QvZ->Prop}(h:∀a,P [a]):∀us:QvZ,us.length=1->P us:=QfT fun a=>us_0 (P:=fun us=>P (a :: us)) (h a)
theorem QfV{P:QvZ->Prop}(h:∀a b,P [a,b]):∀us:QvZ,us.length=2->P us:=QfT fun a=>us_1 (P:=fun us=>P (a :: us)) (fun b=>h a b)
theorem QfU{P:QvZ->Prop}(h:∀a b c,P [a,b,c]):∀us:QvZ,us.length=3->P us:=QfT fun a=>QfV (P:=fun us=>P (a :: us)) (fun b c=>h a b c)
theorem Qt0{P:QvZ->Prop}(h:∀a b c d,P [a,b,c,d]):∀us:QvZ,us.length=4->P us:=QfT fun a=>QfU (P:=fun us=>P (a :: us)) (fun b c d=>h a b c d)
theorem Qu3{P:QvZ->Prop}(h:∀a b c d e,P [a,b,c,d,e]):∀us:QvZ,us.length=5->P us:=QfT fun a=>Qt0 (P:=fun us=>P (a :: us)) (fun b c d e=>h a b c d e)
theorem us_6{P:QvZ->Prop}(h:∀a b c d e f,P [a,b,c,d,e,f]):∀us:QvZ,us.length=6->P us:=QfT fun a=>Qu3 (P:=fun us=>P (a :: us)) (fun b c d e f=>h a b c d e f)
inductive Ex2{α0 α1:Type}(P:α0->α1->Prop):Prop
 | mk:∀x0 x1,P x0 x1->Ex2 P
inductive And8(p0 p1 p2 p3 p4 p5 p6 p7:Prop):Prop
 | mk:p0->p1->p2->p3->p4->p5->p6->p7->And8 p0 p1 p2 p3 p4 p5 p6 p7
inductive And9(p0 p1 p2 p3 p4 p5 p6 p7 p8:Prop):Prop
 | mk:p0->p1->p2->p3->p4->p5->p6->p7->p8->And9 p0 p1 p2 p3 p4 p5 p6 p7 p8
end L2
namespace L2
open PySem PySem.Spec PyProof.Rows
theorem GC{α:Type}{xs:List α}{i:Int}(h0:0<=i)(h1:i<(xs.length:Int)):∃v,atI xs i=some v/\v∈xs/\xs[i.toNat]?=some v:=by
 have hn:i.toNat<xs.length:=by omega
 refine⟨xs[i.toNat],?_,jT hn,qz hn⟩
 have e:((i.toNat:Nat):Int)=i:=by omega
 have q:=Qu (xs:=xs) (j:=i.toNat) (qz hn)
 rw[e] at q
 exact q
theorem QkV{α:Type}{xs:List α}(i:Int)(h:0<xs.length):∃v,atI xs (i % (xs.length:Int))=some v/\v∈xs/\xs[(i % (xs.length:Int)).toNat]?=some v :=
 GC (zF _ (by omega)) (zu _ (by omega))
theorem Qo.z7{H:Hp}{p:Addr}{o:HO}(h:H p=none):Qo H (upd H p o):=fun b u e=>by rw[Qa (Qb e h)];exact e
theorem Qo.uR{H H':Hp}{p:Addr}{o:HO}(s:Qo H H')(h:H p=none):Qo H (upd H' p o):=fun b u e=>by rw[Qa (Qb e h)];exact s b u e
theorem UI{X:Cx}{x:Str}{v:V}{pos:Pos}(hg:Gl X x)(h:∃u,X.mg x=some u/\QI v u)(hd:(x == ("__debug__":Str))=false:=by decide):PE X (.Name x pos) (tC v):=by
 obtain⟨u,hm,r⟩:=h
 exact Qkg hg hm r hd
theorem JS{X:Cx}(K:Frag)(hK:X.K=K:=by rfl):IxR X (rIxT K):=hK▸QN
theorem QdP{X:Cx}(K:Frag)(hK:X.K=K:=by rfl):OpR X (compareOp .In) (rIn K false):=hK▸Qge
section
variable {X:Cx}{o e:Expr}{es:List Expr}{to:TE}{t:TA}{name:Str}{apos cpos:Pos}{T id:String}{r:V->List V->Hp->VK->Prop}
theorem Qkj(K:Frag)(pa:PlainAttrs T)(slot:Slot T name id)(hty:typeOf (.builtin id)=pure (.type "method_descriptor"))(hm:MtR X id r)(ho:PE X o to)(hK:X.K=K:=by rfl)
 (hbase:attributeBase o name X.env (eval o X.env)=eval o X.env:=by rfl) (hline:(apos.endLine == cpos.line)=true:=by rfl):PE X (.Call (.Attribute o name apos) [] [] cpos) (tBM0 K T r to) :=
 hK▸QdO pa slot hty hm ho hbase hline
end
def QdL:Expr->Bool
 | .Starred ..=>false
 | _=>true
theorem Kd{e:Expr}{es:List Expr}{env:Env}(h:QdL e=true):starEach (e :: es) env=(false,eval e env) :: starEach es env:=by
 cases e <;> first | rfl | (cases h)
theorem zr{X:Cx}{e:Expr}{es:List Expr}{te:TE}{t:TA}(ha:PE X e te)(hr:PA X es t)(h:QdL e=true:=by rfl):PA X (e :: es) (Qhi te t):=Qfa ha hr (Kd h)
structure PAs(X:Cx)(es:List Expr)(t:TA):Prop where
 h:PA X es t
theorem Qz{X:Cx}:PAs X [] Qt2:=⟨Qe⟩
theorem Qg{X:Cx}{e:Expr}{es:List Expr}{te:TE}{t:TA}(ha:PE X e te)(hr:PAs X es t)(h:QdL e=true:=by rfl):PAs X (e :: es) (Qhi te t):=⟨zr ha hr.h h⟩
theorem Qbo{X:Cx}{es:List Expr}{t:TA}{pos:Pos}(h:PAs X es t):PE X (.List es pos) (tLst t):=Ql1 h.h
theorem Qbm{X:Cx}{es:List Expr}{t:TA}{x1:Nat}{pos:Pos}(h:PAs X es t):PE X (.Tuple es x1 pos) (tTup t):=QlZ h.h
theorem Qc7{x:Str}{fr:List (Nat×Str)}{te:TE}{σ:St}{H1:Hp}{Q:VK}(f:Nat->V)(hz:x.cps.size<=sizeLine)
 (hte:∀(c:Nat)(H3:Hp)(Q':VK),c∈x.cps.toList->Q' (f c) H3->te (some (.str ⟨#[c]⟩) :: frV σ fr) H3 Q')
 (hQ:∀D,H1 D=none->Q (.ref D) (upd H1 D (.lst (x.cps.toList.map f)))) :
 ZU (Its x) fr Qey te σ H1 Q:=by
 unfold ZU
 intro D hD
 refine⟨fun i m ys H2=>m=x.cps.size - i/\i<=x.cps.size/\ys=(x.cps.toList.take i).map f/\H2=upd H1 D (.lst ys),⟨x.cps.size,by simp,zK _,by simp,rfl⟩,?_⟩
 rintro i m ys H2 ⟨rfl,hi,rfl,rfl⟩
 refine⟨Qc,?_⟩
 by_cases hlt:i<x.cps.size
 .refine .inr ⟨hlt,?_⟩
  rintro v H3 ⟨rfl,c,hc,rfl⟩
  refine QbT (Zi ?_)
  have hcl:x.cps.toList[i]?=some c:=by simpa using hc
  refine hte c _ _ (qU hcl) ⟨Qc,?_,x.cps.size - (i+1),by omega,rfl,hlt,?_,XT⟩
  .rw[qi,zN]
   simp only[zf]
   omega
  .rw[jX,hcl]
   simp
 .have e:i=x.cps.size:=by omega
  subst e
  have e2:x.cps.toList.take x.cps.size=x.cps.toList:=zH (by simp)
  refine .inl ⟨rfl,?_⟩
  rw[e2]
  exact hQ D hD
theorem Kb{α:Type}(g:α->Nat):∀(l:List α),(∀x∈l,g x=1)->(l.map g).sum=l.length
 | [],_=>rfl
 | a :: r,h=>by
   rw[qW,List.sum_cons,h a qL,Kb g r fun x hx=>h x (qP _ hx),za]
   omega
theorem QfM(x y:Str):(x++y).length=x.length+y.length:=by
 show(x.cps++y.cps).size=_
 rw[Array.size_append];rfl
theorem Qbr(c:Nat):(⟨#[c]⟩:Str).length=1:=rfl
end L2
namespace L2
open PySem PySem.Spec PyProof.Rows
def Asc(x:Str):Prop:=∀c∈x.cps.toList,c<128
theorem Asc.ok{x:Str}(h:Asc x):PyData.strOk x=true:=by
 unfold PyData.strOk
 rw[Array.all_eq_true']
 intro c hc
 have:=h c (Array.mem_toList_iff.mpr hc)
 exact qp (by omega)
theorem Asc.app{x y:Str}(hx:Asc x)(hy:Asc y):Asc (x++y):=fun c hc=>by
 have e:(x++y).cps.toList=x.cps.toList++y.cps.toList:=by show(x.cps++y.cps).toList=_;simp
 rw[e] at hc
 rcases qx.mp hc with z | z
 .exact hx c z
 .exact hy c z
theorem Asc.one{x:Str}{c:Nat}(h:Asc x)(hc:c∈x.cps.toList):Asc ⟨#[c]⟩:=fun d hd=>by
 have:d=c:=by simpa using hd
 rw[this];exact h c hc
inductive Qcn(x:V)(xs:List V)(H:Hp)(Q:VK):Prop
 | mk:∀y,x=.str y->xs=[]->Asc y->y.length<=1000000->Q (.str ⟨y.cps.map up1⟩) H->Qcn x xs H Q
def QlR:V->List V->Hp->VK->Prop:=fun x xs H Q=>Qcn x xs H Q
theorem QiG{X:Cx}:MtR X "str.upper" QlR:=by
 intro pins s σ H x xs v us Q I rx rv h
 obtain⟨y,rfl,rfl,ha,hz,q⟩:=h
 obtain⟨t,rfl⟩:=rx
 cases rv
 refine SCL.upper (by omega) fun _=>?_
 rw[upper_ascii ha]
 exact⟨.str _,H,I.tok _,⟨_,rfl⟩,q⟩
inductive Qco(x:V)(xs:List V)(H:Hp)(Q:VK):Prop
 | mk:∀y,x=.str y->xs=[]->Asc y->y.length<=1000000->Q (.str ⟨y.cps.map lo1⟩) H->Qco x xs H Q
def QlS:V->List V->Hp->VK->Prop:=fun x xs H Q=>Qco x xs H Q
theorem QiH{X:Cx}:MtR X "str.lower" QlS:=by
 intro pins s σ H x xs v us Q I rx rv h
 obtain⟨y,rfl,rfl,ha,hz,q⟩:=h
 obtain⟨t,rfl⟩:=rx
 cases rv
 refine SCL.lower (by omega) fun _=>?_
 rw[lower_ascii ha]
 exact⟨.str _,H,I.tok _,⟨_,rfl⟩,q⟩
theorem Qlp{c:Nat}(h:c<128):up1 c<128:=by unfold up1;split <;> omega
theorem Asc.upper{x:Str}(h:Asc x):Asc ⟨x.cps.map up1⟩:=fun c hc=>by
 have:c∈x.cps.toList.map up1:=by simpa using hc
 obtain⟨d,hd,rfl⟩:=qd.mp this
 exact Qlp (h d hd)
theorem UM:∀{xs:List V}{us:QvZ},xs.length=us.length->(∀(j:Nat)(x:V)(u:Value),xs[j]?=some x->us[j]?=some u->QI x u)->QF xs us
 | [],[],_,_=>.nil
 | [],_ :: _,h,_=>by cases h
 | _ :: _,[],h,_=>by cases h
 | x :: xs,u :: us,hl,hg=>.cons (hg 0 x u rfl rfl) (UM (by simpa using hl) fun j y w h1 h2=>hg (j+1) y w (by simpa using h1) (by simpa using h2))
theorem KV.at{κ:Type}:∀{kvs:List (κ×V)}{vs:List (κ×Value)}{j:Nat}{p:κ×V}{q:κ×Value},KV kvs vs->kvs[j]?=some p->vs[j]?=some q->p.1=q.1
 | _,_,_,_,_,.nil,h,_=>by simp at h
 | _,_,0,_,_,.cons r _,h1,h2=>by
   simp only[List.getElem?_cons_zero,Option.some.injEq] at h1 h2
   subst h1 h2
   exact r.1
 | _,_,j+1,_,_,.cons _ t,h1,h2=>KV.at (j:=j) (show KV _ _ from t) (by simpa using h1) (by simpa using h2)
theorem Gy{X:Cx}(hc:X.calm=true):JD X (.type "list") (fun xs H Q=>∃p kvs,xs=[.ref p]/\H p=some (.dK kvs)/\∀l,H l=none->Q (.ref l) (upd H l (.lst (kvs.map fun kv=>kV kv.1)))):=by
 intro pins s σ H xs us Q I r h
 obtain⟨p,kvs,rfl,hp,q⟩:=h
 obtain⟨u,rfl,rx⟩:=YQ r
 cases rx
 obtain⟨hz,hlo,vs,rv,o,es,ep,h1,h2,h3,h4,h5,h6⟩:=Gv I.hok hp
 have da:s.heap.DictAt (QU X.prog X.w) p vs ep:=⟨o,es,h1,h2,h3,h4,h5,h6⟩
 have hlen:kvs.length=vs.length:=KV.length rv
 refine PySem.W.kdl_call (kdl_dict hlo) (I.ok.hd hc) da (by rw[<-hlen];exact hz) fun h' tk acc' c' hk hS hacc=>?_
 have hv:QF (kvs.map fun kv=>kV kv.1) acc'.toList:=by
  refine UM (by rw[qi,hlen];exact hacc.1.symm.trans (by simp)) fun j x u e1 e2=>?_
  rw[q8] at e1
  cases hj:kvs[j]? with
  | none=>rw[hj] at e1;cases e1
  | some kv =>
    rw[hj] at e1
    cases e1
    obtain⟨k,y,e3,e4⟩:=hacc.2 j u (by rw[<-zM];exact e2)
    have ek:kv.1=k:=KV.at rv hj e3
    show QI (kV kv.1) u
    rw[ek]
    rcases QS (show Y1 k u=true from e4) with⟨i,t,rfl,rfl⟩ | ⟨z,t,rfl,rfl⟩
    .exact⟨t,rfl⟩
    .exact⟨t,rfl⟩
 exact⟨.ref s.heap.objs.size,_,I.laid (t':=tk) hk (qt _) (show QY X.prog X.w _ h' _ (.lst _) from⟨by rw[qi];exact hz,acc'.toList,c',hv,by rw[wR];exact hS⟩),rfl,q _ (I.hok.fresh (qt _))⟩
theorem Yy:∀l:List (Str×Tok),QF ((l.map (·.1)).map V.str) (strValues l)
 | []=>.nil
 | p :: r=>.cons ⟨p.2,rfl⟩ (Yy r)
inductive QaC(x:V)(xs:List V)(H:Hp)(Q:VK):Prop
 | mk:∀y,x=.str y->xs=[]->y.length<=1000000->(∀l,H l=none->Q (.ref l) (upd H l (.lst ((Txt.words y).map V.str))))->QaC x xs H Q
def Qkb:V->List V->Hp->VK->Prop:=fun x xs H Q=>QaC x xs H Q
end L2
namespace L2
open PySem PySem.Spec PyProof.Rows
theorem KJ{K:Frag}{H:Hp}:∀xs:QvX,RDs K H (xs.map V.str) (xs.map PyData.str)
 | []=>.nil
 | x :: r=>.cons (.str x) (KJ r)
theorem Qe0{K:Frag}{H:Hp}{a:Addr}{xs:QvX}(h:jH K H a (xs.map V.str)):RD K H (.ref a) (.list (xs.map PyData.str)):=.lst h (KJ xs)
theorem Gc:∀{xs:QvX},(∀x∈xs,Asc x)->PyData.canLayAll0 (xs.map PyData.str)=true/\PyData.depthAll (xs.map PyData.str)=0
 | [],_=>⟨rfl,rfl⟩
 | x :: r,h=>by
   have q:=Gc (xs:=r) fun y hy=>h y (qP _ hy)
   have e:=(h x qL).ok
   simp only[qW,PyData.canLayAll0,PyData.canLay0,PyData.depthAll,PyData.depth,q.1,q.2,e]
   exact⟨rfl,rfl⟩
theorem Qcb{xs:QvX}(h:∀x∈xs,Asc x):SeqAt.shaped (.list (xs.map PyData.str))=true:=by
 have q:=Gc h
 unfold SeqAt.shaped
 simp only[PyData.canLay0,PyData.depth,q.1,q.2]
 rfl
theorem Xz:∀xs ys:QvX,PyData.eqvAll (xs.map PyData.str) (ys.map PyData.str)=decide (xs=ys)
 | [],[]=>by simp[PyData.eqvAll]
 | [],_ :: _=>by simp[PyData.eqvAll]
 | _ :: _,[]=>by simp[PyData.eqvAll]
 | x :: r,y :: t=>by
   simp only[qW,PyData.eqvAll,PyData.eqv,Xz r t]
   by_cases h:x=y <;> by_cases h':r=t <;> simp[h,h']
theorem Qjf(xs ys:QvX):PyData.eqv (.list (xs.map PyData.str)) (.list (ys.map PyData.str))=decide (xs=ys):=by
 simp only[PyData.eqv];exact Xz xs ys
def ZD(acc:QvX)(t:Str):QvX:=if t∈acc then acc else acc++[t]
def Y2(xs:QvX):QvX:=xs.foldl ZD []
theorem QaF(xs:QvX)(t:Str):Y2 (xs++[t])=ZD (Y2 xs) t:=by
 unfold Y2;rw[wg];rfl
theorem VG:∀(xs acc:QvX),(xs.foldl ZD acc).length<=acc.length+xs.length
 | [],acc=>qt _
 | t :: r,acc=>by
   rw[jl]
   refine zx (VG r _) ?_
   unfold ZD
   split
   .rw[za];omega
   .rw[qI,qT,za];omega
theorem Qid(xs:QvX):(Y2 xs).length<=xs.length:=by
 have:=VG xs []
 rw[j7,Nat.zero_add] at this
 exact this
theorem VF:∀(xs acc:QvX){t:Str},t∈xs.foldl ZD acc->t∈acc\/t∈xs
 | [],acc,t,h=>.inl h
 | u :: r,acc,t,h=>by
   rw[jl] at h
   rcases VF r _ h with z | z
   .unfold ZD at z
    split at z
    .exact .inl z
    .rcases qx.mp z with y | y
     .exact .inl y
     .exact .inr (by rw[ql.mp y];exact qL)
   .exact .inr (qP _ z)
theorem Qic{xs:QvX}{t:Str}(h:t∈Y2 xs):t∈xs:=by
 rcases VF xs [] h with z | z
 .exact nomatch z
 .exact z
theorem Qi2{xs:QvX}{t:Str}:inV (.str t) (xs.map V.str)=decide (t∈xs):=by
 unfold inV
 rw[List.any_map,gP,List.any_eq_true,decide_eq_true_eq]
 constructor
 .rintro⟨x,hx,e⟩
  have:x=t:=eq_of_beq (show(x == t)=true from e)
  rw[<-this];exact hx
 .intro h
  exact⟨t,h,show(t == t)=true from kY t⟩
end L2
namespace L2
open PySem PySem.Spec PyProof.Rows
abbrev aZ:Str:="abcdefghijklmnopqrstuvwxyz0123456789"
theorem Qmz:Asc aZ:=by
 have h:(aZ.cps.toList.all fun c=>decide (c<128))=true:=by decide +kernel
 intro c hc
 exact qg (jR.mp h c hc)
structure J1(x:Str):Prop where
 lo:1<=x.length
 hi:x.length<=20
 in_:∀c∈x.cps.toList,c∈aZ.cps.toList
theorem J1.asc{x:Str}(h:J1 x):Asc x:=fun c hc=>Qmz c (h.in_ c hc)
theorem QiU(ys:QvX):(Txt.join "" ys).cps.toList=(ys.map (·.cps.toList)).flatten:=by
 have key:∀(r:QvX)(acc:Array Nat),(r.foldl (fun acc p=>acc++("":Str).cps++p.cps) acc).toList=acc.toList++(r.map (·.cps.toList)).flatten:=by
  intro r
  induction r with
  | nil=>intro acc;simp
  | cons y r ih =>
    intro acc
    rw[jl,ih,qW,xJ]
    have e:("":Str).cps=#[]:=by decide +kernel
    rw[e]
    simp
 cases ys with
 | nil=>rfl
 | cons y r=>exact(key r y.cps).trans (by rw[qW,xJ])
theorem YG(x:Str):x.length=x.cps.toList.length:=by simp[Str.length]
theorem QaT{ys:QvX}(h:∀y∈ys,y.length=1):(Txt.join "" ys).length=ys.length:=by
 rw[YG,QiU,List.length_flatten,zJ]
 exact Kb _ _ fun y hy=>by
  have:=h y hy
  rw[YG] at this
  exact this
theorem Qdf(x y:Str):(x++y).cps.toList=x.cps.toList++y.cps.toList:=by show(x.cps++y.cps).toList=_;simp
theorem Qa0:("":Str).length=0:=by decide +kernel
def QfP(z y:Str):Prop:=∃c,c∈z.cps.toList/\y=⟨#[c]⟩
theorem QfP.len{z y:Str}(h:QfP z y):y.length=1:=by obtain⟨c,_,rfl⟩:=h;rfl
theorem Qeb{z:Str}{ys:QvX}(h:∀y∈ys,QfP z y):(Txt.join "" ys).length=ys.length/\∀c∈(Txt.join "" ys).cps.toList,c∈z.cps.toList:=by
 refine⟨QaT fun y hy=>(h y hy).len,fun c hc=>?_⟩
 rw[QiU] at hc
 obtain⟨l,hl,hcl⟩:=List.mem_flatten.mp hc
 obtain⟨y,hy,rfl⟩:=qd.mp hl
 obtain⟨d,hd,rfl⟩:=h y hy
 have:c=d:=by simpa using hcl
 rw[this];exact hd
theorem QcZ{ys:QvX}(h:∀y∈ys,y.length=1)(hl:ys.length<=100000):(ys.map (·.length)).sum+ys.length*("":Str).length<=16777216:=by
 rw[Kb _ _ h,Qa0];omega
theorem Qgd{z:Str}{i:Int}(h0:0<=i)(h1:i<(z.cps.toList.length:Int)):∃c,atI z.cps.toList i=some c/\c∈z.cps.toList:=by
 obtain⟨c,a,b,_⟩:=GC h0 h1
 exact⟨c,a,b⟩
end L2
namespace L2
open PySem PySem.Spec PyProof.Rows
theorem big1:1000002<=sizeLine:=by decide
theorem Qgv{X:Cx}:MtR X "str.split" Qkb:=by
 intro pins s σ H x xs v us Q I rx rv h
 obtain⟨y,rfl,rfl,hz,q⟩:=h
 obtain⟨t,rfl⟩:=rx
 cases rv
 have hb:=big1
 have e1:=(StrLaws.sw_weight y).1
 have e2:=StrLaws.len_le_wsum (Builtin.Str.spaceWords y (y.length+1))
 have hn:(Builtin.Str.spaceWords y (y.length+1)).length<=sizeLine:=by omega
 have hnw:(Builtin.Str.spaceWords y (y.length+1)).length<=y.length+1:=by omega
 refine call_meets F.slot_str_split (typeIs_str _ _ _) F.entry_str_split (F.args_str_split_1 _) (meets_str_split_space y t (by omega) hn) ?_
 cases hw:Builtin.Str.spaceWords y (y.length+1) == [(0,y.length)]
 .simp only[zO,yX]
  rw[strsFrom_eq]
  have et:(numbered s.toks (wordsOf y)).map (·.1)=Txt.words y:=(numbered_texts _ _).trans (qy (ne_true_of_eq_false hw)).symm
  have hl:(Txt.words y).length<=sizeLine:=by
   rw[<-et,numbered_texts]
   show(List.map _ _).length<=_
   rw[qi]
   exact hn
  have hv:=Yy (numbered s.toks (wordsOf y))
  rw[et] at hv
  exact⟨.ref s.heap.objs.size,_,I.Que hv (by rw[qi];exact hl),rfl,q _ I.fresh⟩
 .simp only[gf]
  have et:([(y,t)]:List (Str×Tok)).map (·.1)=Txt.words y:=(qD hw).symm
  have hv:=Yy [(y,t)]
  rw[et] at hv
  exact⟨.ref s.heap.objs.size,_,I.Que (t':=s.toks) hv (by rw[qi,<-et];show 1<=sizeLine;decide),rfl,q _ I.fresh⟩
abbrev rS:Str:="abcdefghijklmnopqrstuvwxyzABCDEFGHIJKLMNOPQRSTUVWXYZ0123456789"
def KH(c:Nat):Bool:=decide (c∈rS.cps.toList)
def gS(c:Nat):Nat:=if KH c=true then lo1 c else 32
theorem Qcg:(rS.cps.toList.all fun c=>!Unicode.isSpace (lo1 c))=true:=by decide +kernel
theorem Qdj:Unicode.isSpace 32=true:=by decide +kernel
def wst(st:QvX×Str)(c:Nat):QvX×Str:=if KH c=true then (st.1,st.2++⟨#[lo1 c]⟩) else (st.1++[st.2],Str.empty)
def wsc(l:List Nat):QvX×Str:=l.foldl wst ([],Str.empty)
def Gn(w:Str):Bool:=!(w == Str.empty)
def uP(x:Str):QvX:=((wsc x.cps.toList).1++[(wsc x.cps.toList).2]).filter Gn
theorem Vo(w:Str):(w.length=0)↔w=Str.empty:=⟨KWd.len0,fun h=>by rw[h];rfl⟩
theorem Qcc:∀(l:List Nat)(st q:QvX×Str),q.2=st.2->q.1=st.1.filter Gn->((l.map gS).foldl KWd.step q).2=(l.foldl wst st).2/\((l.map gS).foldl KWd.step q).1=(l.foldl wst st).1.filter Gn
 | [],st,q,h2,h1=>⟨h2,h1⟩
 | c :: l,st,q,h2,h1=>by
   rw[qW,jl,jl]
   refine Qcc l _ _ ?_ ?_
   all_goals
    unfold KWd.step wst gS
    cases hr:KH c
    .simp only[zO,yX,Qdj,gf]
     by_cases he:q.2.length=0
     .rw[qD he]
      have e:=(Vo _).mp he
      first
      | exact e
      | (rw[h1,zE,<-h2,e];simp[Gn])
     .have e:Gn q.2=true:=by
       unfold Gn
       rw[uA,j0]
       exact fun z=>he ((Vo _).mpr z)
      first
      | (rw[qy he];done)
      | (rw[qy he,h1,zE,<-h2];simp[e])
    .have hs:Unicode.isSpace (lo1 c)=false:=by
      have:=jR.mp Qcg c (qg hr)
      simpa using this
     simp only[gf,hs,zO,yX]
     first
     | exact h1
     | rw[h2]
theorem QfR{x y:Str}(h:y.cps.toList=x.cps.toList.map gS):Txt.words y=uP x:=by
 rw[KWd.words_scan]
 have q:=Qcc x.cps.toList ([],Str.empty) ([],Str.empty) rfl rfl
 unfold KWd.fin KWd.scan uP wsc
 rw[h,zE,q.1,q.2]
 by_cases he:(List.foldl wst ([],Str.empty) x.cps.toList).2.length=0
 .rw[qD he]
  have e:=(Vo _).mp he
  rw[e]
  simp[Gn]
 .rw[qy he]
  have e:Gn (List.foldl wst ([],Str.empty) x.cps.toList).2=true:=by
   unfold Gn
   rw[uA,j0]
   exact fun z=>he ((Vo _).mpr z)
  rw[qX,e]
  simp
end L2
namespace L2
open PySem PySem.Spec PyProof.Rows
end L2
namespace L2
open PySem PySem.Spec PyProof.Rows
structure WB(K:Frag)(x qual:Str)(st:Stmt)(f:Addr)(fd:FuncData):Prop where
 ex:∃(oc:Value)(od:Option Addr)(dV kV doc pm:Value)(an:Option Addr)(cdv ct:Value)(osl:Array (Option Value)),
  fd=fnOf x qual (ZK st) (Zl st) (Qh st) dV kV doc pm an cdv ct/\K.lookup f=some ⟨oc,od,.func fd,osl⟩/\codeIn K cdv qual=true
 kp:keepIn K (.ref f)=true
theorem WB.ok{P:Program}{w:World}{K:Frag}{mg:Str->Option Value}{base:Heap}{x qual:Str}{st:Stmt}{f:Addr}{fd:FuncData}{N ps:QvX}{k:Nat}{sp:Sp}(F:WB K x qual st f fd)(S:Qm N ps (Qh st))
 (len:∀vs H Q E,sp vs H Q E->vs.length=ps.length)
 (hbody:∀(cdv:Value)(A:Around)(outer:List Env)(s:Shared)(H:Hp)(vs:List V)(Q:VK)(E:XK),QB k (A.deeper (envOfC qual (Qh st) s.heap.objs.size f cdv))->sp vs H Q E ->
   ∃t,PSs (Yo xN P w K mg base N qual (Qh st) f cdv A outer s H E).nox (Zl st) t/\t { nx:=fun _ H'=>Q .non H',rt:=Q } (start N vs) H):QO P w K mg base xN (k+1) f fd ps sp:=by
 obtain⟨oc,od,dV,kV,doc,pm,an,cdv,ct,osl,rfl,lk,hcd⟩:=F.ex
 refine Qi9 lk hcd S len fun A outer s H vs Q E hr hsp=>?_
 obtain⟨t,h,q⟩:=hbody cdv A outer s H vs Q E hr hsp
 exact⟨t,h.nox,q⟩
theorem QkK{K:Frag}{x qual:Str}{st:Stmt}{f:Addr}{oc dV:Value}{od an:Option Addr}{osl:Array (Option Value)}{kV doc pm cdv ct:Value}(l:K.lookup f=some ⟨oc,od,.func (fnOf x qual (ZK st) (Zl st) (Qh st) dV kV doc pm an cdv ct),osl⟩)
 (c:codeIn K cdv qual=true) (k:keepIn K (.ref f)=true):WB K x qual st f (fnOf x qual (ZK st) (Zl st) (Qh st) dV kV doc pm an cdv ct):=⟨⟨oc,od,dV,kV,doc,pm,an,cdv,ct,osl,rfl,l,c⟩,k⟩
theorem QfC{K:Frag}{H:Hp}{x y:V}{d:PyData}{Q:VK}(hx:RD K H x d)(hy:RD K H y d)(h:SeqAt.shaped d=true)(q:Q (.bl true) H):rEqD K x y H Q :=
 ⟨d,d,hx,hy,h,h,by rw[SeqAt.eqv_refl d (SeqAt.canLay_of_shaped h)];exact q⟩
end L2
namespace L2
open PySem PySem.Spec PyProof.Rows
open Builtin.Str in
theorem QkH(a b n:Nat):strSliceIndices (some (a:Int)) (some (b:Int)) 1 n=(List.range (min b n - min a n)).map (fun k=>min a n+k):=by
 have h1:¬((a:Int)<0):=by omega
 have h2:¬((b:Int)<0):=by omega
 have e1:max (0:Int) (min (a:Int) (n:Int))=((min a n:Nat):Int):=by omega
 have e2:max (0:Int) (min (b:Int) (n:Int))=((min b n:Nat):Int):=by omega
 simp only[strSliceIndices,sliceRange,h1,h2,yX,e1,e2,show((1:Int) > 0)=True from by simp,gf]
 by_cases hlt:((min a n:Nat):Int)<((min b n:Nat):Int)
 .have e3:((((min b n:Nat):Int) - ((min a n:Nat):Int)+1 - 1) / 1).toNat=min b n - min a n:=by first | omega | (simp;done) | (simp;omega)
  simp only[hlt,gf,e3]
  refine yF fun k _=>?_
  omega
 .have:min b n - min a n=0:=by omega
  simp[hlt,this]
open Builtin.Str in
theorem Qef(u:Option Int)(n:Nat):strSliceIndices none u 1 n=strSliceIndices (some ((0:Nat):Int)) u 1 n:=by
 have e1:max (0:Int) (min (((0:Nat):Int)) (n:Int))=0:=by omega
 simp only[strSliceIndices,show ¬((((0:Nat):Int))<0) from by omega,yX,e1,show((1:Int) > 0)=True from by simp,gf]
open Builtin.Str in
theorem Qee(l:Option Int)(n:Nat):strSliceIndices l none 1 n=strSliceIndices l (some (n:Int)) 1 n:=by
 have e1:max (0:Int) (min (n:Int) (n:Int))=n:=by omega
 simp only[strSliceIndices,show ¬((n:Int)<0) from by omega,yX,e1,show((1:Int) > 0)=True from by simp,gf]
theorem Ku(x:Str)(a b:Nat):(Txt.slice x (some (a:Int)) (some (b:Int))).cps.toList=(x.cps.toList.drop a).take (b - a):=by
 have hl:=YG x
 unfold Txt.slice
 rw[QkH,qi,yt]
 have hp:=StrLaws.picks x.cps.toList (min b x.length - min a x.length) (min a x.length) (by omega)
 have key:((List.range (min b x.length - min a x.length)).map (fun k=>min a x.length+k)).filterMap (x.cps[·]?)=(x.cps.toList.drop a).take (b - a):=by
  have e:(fun i:Nat=>x.cps[i]?)=(fun i:Nat=>x.cps.toList[i]?):=by funext i;simp
  rw[e,hp]
  by_cases h:a<=x.length
  .rw[Qm4 (show a<=x.length from h)]
   by_cases h2:b<=x.length
   .rw[Qm4 (show b<=x.length from h2)]
   .rw[Nat.min_eq_right (show x.length<=b by omega),zH (by rw[kO];omega),zH (by rw[kO];omega)]
  .rw[Nat.min_eq_right (show x.length<=a by omega),List.drop_of_length_le (by omega),List.drop_of_length_le (by omega),List.take_nil,List.take_nil]
 split
 .rename_i h
  have h':min b x.length - min a x.length=x.length:=by
   have:=(jw.mp h).2
   exact vD.mp this
  rw[<-key,h']
  have e0:x.length=0\/min a x.length=0:=by omega
  rcases e0 with e0 | e0
  .have:x.cps.toList=[]:=List.eq_nil_of_length_eq_zero (by omega)
   rw[this,e0];rfl
  .have e:(fun i:Nat=>x.cps[i]?)=(fun i:Nat=>x.cps.toList[i]?):=by funext i;simp
   rw[e]
   have hp2:=StrLaws.picks x.cps.toList x.length 0 (by omega)
   rw[e0,hp2,Qq7,zH (by omega)]
 .rw[key]
theorem Kt(x:Str)(b:Nat):(Txt.slice x none (some (b:Int))).cps.toList=x.cps.toList.take b:=by
 have e:Txt.slice x none (some (b:Int))=Txt.slice x (some ((0:Nat):Int)) (some (b:Int)):=by unfold Txt.slice;rw[Qef]
 rw[e,Ku,Qq7,Nat.sub_zero]
theorem Kv(x:Str)(a:Nat):(Txt.slice x (some (a:Int)) none).cps.toList=x.cps.toList.drop a:=by
 have e:Txt.slice x (some (a:Int)) none=Txt.slice x (some (a:Int)) (some (x.length:Int)):=by unfold Txt.slice;rw[Qee]
 rw[e,Ku,zH (by rw[kO,<-YG];omega)]
theorem QjK{x y:Str}(h:x.cps.toList=y.cps.toList):x=y:=by
 cases x;cases y
 have:=Array.toList_inj.mp h
 simp only at this
 rw[this]
theorem QgZ(x:Str)(b:Nat):(Txt.slice x none (some (b:Int))).length<=b:=by
 rw[YG,Kt,zN];omega
end L2
namespace L2
open PySem PySem.Spec PyProof.Rows
end L2
namespace L2
open PySem PySem.Spec PyProof.Rows
end L2
namespace L2
open PySem PySem.Spec PyProof.Rows
end L2
namespace L2
open PySem PySem.Spec PyProof.Rows
def leS(a b:Str):Bool:=!ltCps b.cps.toList a.cps.toList
def QgN(x:Str):QvX->QvX
 | []=>[x]
 | y :: r=>if leS x y=true then x :: y :: r else y :: QgN x r
def Q9:QvX->QvX
 | []=>[]
 | x :: r=>QgN x (Q9 r)
theorem XY(a b:Str):leS a b=true↔¬b.cps.toList<a.cps.toList:=by
 unfold leS
 rw[ltCps_eq]
 simp
theorem QgB(a b:Str):leS a b=true\/leS b a=true:=by
 rw[XY,XY]
 by_cases h:b.cps.toList<a.cps.toList
 .exact .inr (List.lt_asymm h)
 .exact .inl h
theorem QaQ{a b c:Str}(h1:leS a b=true)(h2:leS b c=true):leS a c=true:=by
 rw[XY] at *
 intro h
 rcases strKind.negTrans c.cps.toList b.cps.toList a.cps.toList (by simpa using h) with z | z
 .exact h2 (by simpa using z)
 .exact h1 (by simpa using z)
theorem QbA{a b:Str}(h1:leS a b=true)(h2:leS b a=true):a=b:=by
 rw[XY] at *
 exact QjK (List.le_antisymm (List.not_lt.mp h1) (List.not_lt.mp h2))
abbrev Sor(l:QvX):Prop:=l.Pairwise fun a b=>leS a b=true
theorem KI:∀(p:Str)(l:QvX),risingS p l=true->Sor (p :: l)
 | p,[],_=>gR _ _
 | p,x :: r,h=>by
   have h:(leS p x && risingS x r)=true:=h
   rw[zQ] at h
   have ih:=KI x r h.2
   refine jQ.mpr ⟨fun y hy=>?_,ih⟩
   rcases qG.mp hy with rfl | hy
   .exact h.1
   .exact QaQ h.1 ((jQ.mp ih).1 y hy)
theorem QdB:∀{l:QvX},sortedS l=true->Sor l
 | [],_=>List.Pairwise.nil
 | x :: r,h=>KI x r h
theorem Gg(x:Str):∀l:QvX,(QgN x l).Perm (x :: l)
 | []=>.refl _
 | y :: r=>by
   unfold QgN
   split
   .exact .refl _
   .exact((Gg x r).cons y).trans (.swap x y r)
theorem JG:∀l:QvX,(Q9 l).Perm l
 | []=>.refl _
 | x :: r=>(Gg x (Q9 r)).trans ((JG r).cons x)
theorem Qfp(x:Str):∀{l:QvX},Sor l->Sor (QgN x l)
 | [],_=>gR _ _
 | y :: r,h=>by
   unfold QgN
   obtain⟨h1,h2⟩:=jQ.mp h
   split
   .rename_i hx
    refine jQ.mpr ⟨fun z hz=>?_,h⟩
    rcases qG.mp hz with rfl | hz
    .exact hx
    .exact QaQ hx (h1 z hz)
   .rename_i hx
    refine jQ.mpr ⟨fun z hz=>?_,Qfp x h2⟩
    rcases qG.mp ((Gg x r).mem_iff.mp hz) with rfl | hz
    .exact(QgB y z).resolve_right hx
    .exact h1 z hz
theorem WH:∀l:QvX,Sor (Q9 l)
 | []=>.nil
 | x :: r=>Qfp x (WH r)
theorem Ks:∀{a b:QvX},a.Perm b->Sor a->Sor b->a=b
 | [],b,p,_,_=>(List.nil_perm.mp p).symm
 | x :: r,[],p,_,_=>absurd p.symm.nil_eq (by simp)
 | x :: r,y :: t,p,ha,hb=>by
   have e:x=y:=by
    have h1:x∈y :: t:=p.mem_iff.mp qL
    have h2:y∈x :: r:=p.mem_iff.mpr qL
    rcases qG.mp h1 with e | h1
    .exact e
    .rcases qG.mp h2 with e | h2
     .exact e.symm
     .exact QbA ((jQ.mp ha).1 y h2) ((jQ.mp hb).1 x h1)
   subst e
   rw[Ks (List.perm_cons _ |>.mp p) (jQ.mp ha).2 (jQ.mp hb).2]
theorem V6{a b:QvX}(p:a.Perm b)(h:Sor a):a=Q9 b:=Ks (p.trans (JG b).symm) h (WH b)
theorem UP{a b:QvX}(p:a.Perm b):Q9 a=Q9 b:=V6 ((JG a).trans p) (WH a)
theorem Yu(l:QvX):(Q9 l).length=l.length:=(JG l).length_eq
theorem WJ{l:QvX}{x:Str}:x∈Q9 l↔x∈l:=(JG l).mem_iff
theorem Yc:∀{us:QvZ}{ss:QvX},StrsAre us ss->QF (ss.map V.str) us
 | _,_,.nil=>.nil
 | _,_,.cons x t h=>.cons ⟨t,rfl⟩ (Yc h)
theorem Qdg{X:Cx}:JD X (.builtin "sorted") (fun xs H Q=>∃p ss,xs=[.ref p]/\jH X.K H p (ss.map V.str)/\ss.length<64/\∀l,H l=none->Q (.ref l) (upd H l (.lst ((Q9 ss).map V.str)))):=by
 intro pins s σ H xs us Q I r h
 obtain⟨p,ss,rfl,hS,hl,q⟩:=h
 obtain⟨u,rfl,rx⟩:=YQ r
 cases rx
 obtain⟨its,rv,pl,_⟩:=I.list hS
 have hst:=JE rv
 have hlen:its.length=ss.length:=by have:=rv.length;rw[qi] at this;exact this.symm
 refine sorted_strs pl.isList hst (by omega) fun out ss' a1 a2 a3=>?_
 obtain⟨e,he⟩:=sortedAll_at s.heap its out
 have es:ss'=Q9 ss:=V6 a2 (QdB a3)
 subst es
 have hsz:s.heap.objs.size<=s.heap.objs.size+1:=Qq6 _
 refine⟨.ref (s.heap.objs.size+1),_,I.laid (t':=s.toks) (fun b u hb=>sortedAll_old hb) hsz (show QY X.prog X.w _ _ _ (.lst ((Q9 ss).map V.str)) from⟨?_,out.toList,e,Yc a1,?_⟩),rfl,q _ (I.hok.fresh hsz)⟩
 .rw[qi,Yu];exact Zg ((by omega))
 .rw[wR];exact he
theorem XC{prog:Program}{w:World}{A:Around}{E:QvY}{s:Shared}{T:String}{r d:Addr}{n:Nat}{P:Nat->Value->Prop}{OK:Heap->Prop}{R:QvZ->Shared->Prop}
 (src:KdlSrc prog w T r d n P OK) (calm:A.handled=none) (ok:OK s.heap) (few:n<=sizeLine)
 (fin:∀(g:Heap)(k:Nat)(got:Array Value),(∀b o,s.heap.get? b=some o->g.get? b=some o)->s.heap.objs.size<g.objs.size->ItemsOf P got n->R got.toList { s with heap:=g,toks:=k }) :
 wpAny (model prog w) A (collect (.ref r)) R E s:=by
 obtain⟨lr,ld⟩:=src.there _ ok
 let new:Obj:={ cls:=.type "list",data:=.seq ([]:QvZ).toArray }
 have there:(s.heap.push new).get? s.heap.objs.size=some new:=qH _ rfl
 have still:=src.keep _ _ ok (fun b _ o e=>qm (h:=s.heap) new e)
 have walked:=PySem.W.kdl_extend (A:=A) (s:={ s with heap:=s.heap.push new })
  (R:=fun q t=>∃(g:Heap)(k:Nat)(got:Array Value)(c:Nat),q=Except.ok (Flow.ret (.ref s.heap.objs.size))/\t={ s with heap:=g,toks:=k }/\(∀b o,s.heap.get? b=some o->g.get? b=some o) /\
    g.get? s.heap.objs.size=some { cls:=.type "list",dict:=none,data:=.seq got c,slots:=#[] }/\ItemsOf P got n)
  src calm still s.heap.objs.size (QpK lr) (QpK ld) (.ref s.heap.objs.size) 0 there
  (fun g k got c keep at' all=>⟨g,k,got,c,rfl,rfl,fun b o e=>keep b o (qY (qM e)) (qm _ e),at',all⟩) few
 have done:∀(g:Heap)(k:Nat)(got:Array Value)(c:Nat),(∀b o,s.heap.get? b=some o->g.get? b=some o)->g.get? s.heap.objs.size=some { cls:=.type "list",dict:=none,data:=.seq got c,slots:=#[] }->ItemsOf P got n ->
  wpAny (model prog w) A (do match (<-load s.heap.objs.size).data with
   | .seq xs _=>pure xs.toList
   | _=>unsupported "internal:collect") R E { s with heap:=g,toks:=k }:=fun g k got c keep at' all =>
  qb (wpAny_load at' (qj (fin g k got keep (qM at') all)))
 unfold collect
 apply qb
 apply wpAny_runValue
 apply yg entry_proto_collect'
 rw[yG F.plain_proto_collect _]
 show wpAny _ A.in1 (newList [] >>= fun z=>again (.builtin "list.__iadd__" ⟨[z,.ref r],[]⟩)) _ _ s
 apply qb
 refine zP ?_
 apply qj
 refine⟨QnG Qqc _,?_⟩
 apply yg entry_list_iadd'
 rw[yG Qqc _]
 refine yp walked (fun f t q=>?_) (fun e t q=>?_)
 .cases f with
  | done f =>
    obtain⟨g,k,got,c,e,rfl,keep,at',all⟩:=q
    cases e
    exact done g k got c keep at' all
  | again c1 =>
    refine⟨q.1,xn q.2 fun z t2 y=>?_⟩
    obtain⟨g,k,got,c,rfl,rfl,keep,at',all⟩:=y
    exact done g k got c keep at' all
 .obtain⟨_,_,_,_,e',_⟩:=q
  cases e'
theorem Xh{X:Cx}(hc:X.calm=true):JD X (.builtin "sorted") (fun xs H Q=>∃p kvs ss,xs=[.ref p]/\H p=some (.dK kvs)/\kvs.map (fun kv=>kV kv.1)=ss.map V.str/\ss.length<64/\∀l,H l=none->Q (.ref l) (upd H l (.lst ((Q9 ss).map V.str)))):=by
 intro pins s σ H xs us Q I r h
 obtain⟨p,kvs,ss,rfl,hp,hks,hl,q⟩:=h
 obtain⟨u,rfl,rx⟩:=YQ r
 cases rx
 obtain⟨hz,hlo,vs,rv,o,es,ep,h1,h2,h3,h4,h5,h6⟩:=Gv I.hok hp
 have da:s.heap.DictAt (QU X.prog X.w) p vs ep:=⟨o,es,h1,h2,h3,h4,h5,h6⟩
 have hlen:kvs.length=vs.length:=KV.length rv
 have hh:X.A.in1.handled=none:=I.ok.hd hc
 refine QpL kind_sorted plain_sorted entry_sorted (args_sorted1 _) ?_
 unfold Builtin.«sorted»
 refine qb (m:=checkCount "sorted" 1 1 _) (qj ?_)
 refine qb (XC (A:=X.A.in1) (kdl_dict hlo) hh da (by rw[<-hlen];exact hz) fun h' tk acc hk hgr hacc=>?_)
 have hv:QF (kvs.map fun kv=>kV kv.1) acc.toList:=by
  refine UM (by rw[qi,hlen];exact hacc.1.symm.trans (by simp)) fun j x u e1 e2=>?_
  rw[q8] at e1
  cases hj:kvs[j]? with
  | none=>rw[hj] at e1;cases e1
  | some kv =>
    rw[hj] at e1
    cases e1
    obtain⟨k,y,e3,e4⟩:=hacc.2 j u (by rw[<-zM];exact e2)
    have ek:kv.1=k:=KV.at rv hj e3
    show QI (kV kv.1) u
    rw[ek]
    rcases QS (show Y1 k u=true from e4) with⟨i,t,rfl,rfl⟩ | ⟨z,t,rfl,rfl⟩
    .exact⟨t,rfl⟩
    .exact⟨t,rfl⟩
 rw[hks] at hv
 have hst:=JE hv
 have hal:acc.toList.length=ss.length:=by have:=hv.length;rw[qi] at this;exact this.symm
 refine qb (wpAny_newList ?_ (by rw[hal];exact Zg ((by omega))))
 have hoL:(h'.push (seqObj "list" acc.toList.toArray 0)).get? h'.objs.size=some (seqObj "list" acc.toList.toArray 0):=qH _ rfl
 refine qb (jk (z6 slot_list_sort ⟨_,hoL,rfl⟩ entry_list_sort (list_sort_treeK strKind_oneLt hoL hst.keysOf (fun v₁ v₂ rest e=>keyKind_strs (by rw[<-e];exact hst)) (by omega) fun st' a1 a2=>⟨_,rfl,?_⟩) (args_list_sort _)))
 refine qj ⟨_,rfl,?_⟩
 obtain⟨ss',b1,b2,b3⟩:=sorted_out_str hst a1 a2
 obtain⟨e,he⟩:=sortedHeap_at (out:=(arrOf st').map (·.2)) hoL
 have es':ss'=Q9 ss:=V6 b2 (QdB b3)
 subst es'
 have hsz:s.heap.objs.size<=h'.objs.size:=gb hgr
 refine⟨.ref h'.objs.size,_,I.laid (t':=tk) (fun b u hb=>?_) hsz (show QY X.prog X.w _ _ _ (.lst ((Q9 ss).map V.str)) from⟨?_,((arrOf st').map (·.2)).toList,e,Yc b1,?_⟩),rfl,q _ (I.hok.fresh hsz)⟩
 .have hb':=hk b u hb
  have hlt:=qM hb'
  rw[sortedHeap_old (qY hlt) (by rw[size_push'];exact jY hlt)]
  exact qm _ hb'
 .rw[qi,Yu];exact Zg ((by omega))
 .rw[wR];exact he
end L2
namespace L2
open PySem PySem.Spec PyProof.Rows
theorem Qda{K:Frag}{a:Addr}{α:Type}{xs:List α}{fr:List (Nat×Str)}{tt:TT}{te:TE}{σ:St}{H1:Hp}{Q:VK}(g:α->V)(pr:α->Bool)(f:α->V)(hz:xs.length<=sizeLine)(hS:jH K H1 a (xs.map g))
 (htt:∀(x:α)(H3:Hp)(Q':Bool->Hp->Prop),x∈xs->Qo H1 H3->Q' (pr x) H3->tt (some (g x) :: frV σ fr) H3 Q')
 (hte:∀(x:α)(H3:Hp)(Q':VK),x∈xs->Qo H1 H3->pr x=true->Q' (f x) H3->te (some (g x) :: frV σ fr) H3 Q')
 (hQ:∀D,H1 D=none->Q (.ref D) (upd H1 D (.lst ((xs.filter pr).map f)))) :
 ZU (Itl K a) fr tt te σ H1 Q:=by
 unfold ZU
 intro D hD
 refine⟨fun i m ys H2=>m=xs.length - i/\i<=xs.length/\ys=((xs.take i).filter pr).map f/\H2=upd H1 D (.lst ys),⟨xs.length,by simp,zK _,by simp,rfl⟩,?_⟩
 rintro i m ys H2 ⟨rfl,hi,rfl,rfl⟩
 refine⟨Qc,?_⟩
 have s1:Qo H1 (upd H1 D (.lst (((xs.take i).filter pr).map f))):=Qo.z7 hD
 have hS2:=s1.seq hS
 by_cases hlt:i<xs.length
 .have hx0:(xs.map g)[i]?=some (g xs[i]):=by rw[q8,qz hlt];rfl
  refine .inr ⟨⟨xs.map g,g xs[i],hS2,hx0⟩,?_⟩
  rintro v H3 ⟨rfl,hv⟩
  have hx:(xs.map g)[i]?=some v:=hv _ hS2
  rw[hx0] at hx
  cases hx
  have hm:xs[i]∈xs:=jT hlt
  have et:xs.take (i+1)=xs.take i++[xs[i]]:=by rw[jX,qz hlt];rfl
  refine htt xs[i] _ _ hm s1 ?_
  cases hp:pr xs[i]
  .refine Q4 ⟨xs.length - (i+1),by omega,rfl,hlt,?_,rfl⟩
   rw[et,zE,qX,hp]
   simp
  .refine Zi (hte xs[i] _ _ hm s1 hp ⟨Qc,?_,xs.length - (i+1),by omega,rfl,hlt,?_,XT⟩)
   .have:=q9 pr (xs.take i)
    rw[zN] at this
    rw[qi]
    omega
   .rw[et,zE,qX,hp]
    simp
 .have e:i=xs.length:=by omega
  subst e
  have e2:xs.take xs.length=xs:=zH (qt _)
  refine .inl ⟨⟨xs.map g,hS2,by rw[qi];exact qt _⟩,?_⟩
  rw[e2]
  exact hQ D hD
end L2
namespace L2
open PySem PySem.Spec PyProof.Rows
end L2
namespace L2
open PySem PySem.Spec PyProof.Rows
abbrev Rows:=List (Str×Str)
def up(rows:Rows)(n:Str):Option Str:=(rows.find? fun r=>decide (r.1=n)).map (·.2)
def Zc(rows:Rows)(t:Str):QvX:=(rows.filter fun r=>decide (r.2=t)).map (·.1)
def QQ(rows:Rows):List (Key×V):=rows.map fun r=>(Sum.inr r.1,V.str r.2)
def Qw(ns:QvX):List (Key×V):=ns.map fun n=>(Sum.inr n,V.bl true)
def without(rows:Rows)(n:Str):Rows:=rows.filter fun r=>decide (r.1≠n)
theorem ZC(n:Str):∀rows:Rows,Qt (QQ rows) (Sum.inr n)=(up rows n).map V.str
 | []=>rfl
 | r :: rows=>by
   show Qt ((Sum.inr r.1,V.str r.2) :: QQ rows) (Sum.inr n)=_
   by_cases h:r.1=n
   .rw[Zm (by rw[h])]
    simp[up,yu,h]
   .rw[Zf (fun e=>h (yL e)),ZC n rows]
    simp[up,yu,h]
theorem Qg9{rows:Rows}{n a:Str}(h:up rows n=some a):(n,a)∈rows:=by
 unfold up at h
 cases e:rows.find? fun r=>decide (r.1=n) with
 | none=>rw[e] at h;cases h
 | some r =>
   rw[e] at h
   have h1:=List.find?_some e
   have h2:=List.mem_of_find?_eq_some e
   have e1:r.1=n:=qg h1
   have e2:r.2=a:=qR h
   rw[<-e1,<-e2];exact h2
theorem Yd{rows:Rows}{n:Str}:up rows n=none↔¬n∈rows.map (·.1):=by
 unfold up
 rw[Option.map_eq_none_iff,Qsw]
 constructor
 .intro h z
  obtain⟨r,hr,e⟩:=qd.mp z
  exact h r hr (qp e)
 .intro h r hr z
  exact h (qd.mpr ⟨r,hr,qg z⟩)
theorem Vd{rows:Rows}{n:Str}(h:n∈rows.map (·.1)):∃a,up rows n=some a:=by
 cases e:up rows n with
 | none=>exact absurd h (Yd.mp e)
 | some a=>exact⟨a,rfl⟩
theorem Vt(n:Str):∀rows:Rows,ZS (QQ rows) (Sum.inr n)=QQ (without rows n)
 | []=>rfl
 | r :: rows=>by
   show ZS ((Sum.inr r.1,V.str r.2) :: QQ rows) (Sum.inr n)=_
   by_cases h:r.1=n
   .rw[Xc (by rw[h]),Vt n rows]
    simp[without,qX,h]
   .rw[Xd (fun e=>h (yL e)),Vt n rows]
    simp[without,qX,h,QQ]
theorem Yw(n:Str):∀ns:QvX,ZS (Qw ns) (Sum.inr n)=Qw (ns.filter fun m=>decide (m≠n))
 | []=>rfl
 | m :: ns=>by
   show ZS ((Sum.inr m,V.bl true) :: Qw ns) (Sum.inr n)=_
   by_cases h:m=n
   .rw[Xc (by rw[h]),Yw n ns]
    simp[qX,h]
   .rw[Xd (fun e=>h (yL e)),Yw n ns]
    simp[qX,h,Qw]
theorem Y9(n:Str):∀ns:QvX,Qt (Qw ns) (Sum.inr n)=if n∈ns then some (V.bl true) else none
 | []=>rfl
 | m :: ns=>by
   show Qt ((Sum.inr m,V.bl true) :: Qw ns) (Sum.inr n)=_
   by_cases h:m=n
   .rw[Zm (by rw[h]),qD (by rw[h];exact qL)]
   .rw[Zf (fun e=>h (yL e)),Y9 n ns]
    by_cases h2:n∈ns
    .rw[qD h2,qD (qP _ h2)]
    .rw[qy h2,qy (fun z=>(qG.mp z).elim (fun e=>h e.symm) h2)]
theorem Qcp{rows:Rows}{n a:Str}(h:up rows n=none):Za (QQ rows) (Sum.inr n) (.str a)=QQ (rows++[(n,a)]):=by
 rw[Wm _ (by rw[ZC,h];rfl)]
 simp[QQ]
theorem Wl{ns:QvX}{n:Str}(h:¬n∈ns):Za (Qw ns) (Sum.inr n) (.bl true)=Qw (ns++[n]):=by
 rw[Wm _ (by rw[Y9,qy h])]
 simp[Qw]
theorem WO(rows:Rows)(n a t:Str):Zc (rows++[(n,a)]) t=Zc rows t++if a=t then [n] else []:=by
 unfold Zc
 rw[zE,qQ]
 by_cases h:a=t <;> simp[qX,h]
theorem Qci{rows:Rows}{t n:Str}(h:n∈Zc rows t):n∈rows.map (·.1):=by
 obtain⟨r,hr,e⟩:=qd.mp h
 exact qd.mpr ⟨r,(qu.mp hr).1,e⟩
theorem Ym(rows:Rows)(n t:Str):Zc (without rows n) t=(Zc rows t).filter fun m=>decide (m≠n):=by
 unfold Zc without
 rw[yw,gQ,gQ]
 congr 1
 refine QoA fun r _=>?_
 show(decide (r.2=t) && decide (r.1≠n))=(decide (r.1≠n) && decide (r.2=t))
 rw[Bool.and_comm]
theorem Qcj(rows:Rows)(t:Str):(Zc rows t).length<=rows.length:=by
 unfold Zc
 rw[qi]
 exact q9 _ _
theorem QdR{rows:Rows}{n a b:Str}(nd:(rows.map (·.1)).Nodup)(h1:(n,a)∈rows)(h2:(n,b)∈rows):a=b:=by
 induction rows with
 | nil=>cases h1
 | cons r rows ih =>
   rw[qW,jf] at nd
   rcases qG.mp h1 with e1 | h1
   .rcases qG.mp h2 with e2 | h2
    .rw[<-e2] at e1;exact(Qq8 e1).2
    .exact absurd (qd.mpr ⟨_,h2,by rw[<-e1]⟩) nd.1
   .rcases qG.mp h2 with e2 | h2
    .exact absurd (qd.mpr ⟨_,h1,by rw[<-e2]⟩) nd.1
    .exact ih nd.2 h1 h2
theorem QcC{rows:Rows}{n a t:Str}(nd:(rows.map (·.1)).Nodup)(h:up rows n=some a)(ht:t≠a):¬n∈Zc rows t:=fun z=>by
 obtain⟨r,hr,e⟩:=qd.mp z
 obtain⟨h1,h2⟩:=qu.mp hr
 have e2:r.2=t:=qg h2
 have:(n,t)∈rows:=by rw[<-e,<-e2];exact h1
 exact ht (QdR nd this (Qg9 h))
theorem VX{l:QvX}{n:Str}(h:¬n∈l):(l.filter fun m=>decide (m≠n))=l:=kJ.mpr fun m hm=>qp fun e=>h (e▸hm)
theorem Qfr{rows:Rows}{n a:Str}(h:up rows n=some a):n∈Zc rows a:=qd.mpr ⟨(n,a),qu.mpr ⟨Qg9 h,qp rfl⟩,rfl⟩
theorem Uo{rows:Rows}{n:Str}(nd:(rows.map (·.1)).Nodup):((without rows n).map (·.1)).Nodup:=by
 unfold without
 exact QnL (List.Sublist.map _ jG) nd
theorem QeS{rows:Rows}{n a:Str}(nd:(rows.map (·.1)).Nodup)(h:up rows n=none):((rows++[(n,a)]).map (·.1)).Nodup:=by
 rw[qQ]
 refine jZ.mpr ⟨nd,by simp,fun x hx y hy e=>?_⟩
 have:y=n:=by simpa using hy
 rw[e,this] at hx
 exact Yd.mp h hx
theorem Uh:∀{ms l:QvX},ms.Nodup->(∀m∈ms,m∈l)->ms.length<=l.length
 | [],_,_,_=>zK _
 | m :: ms,l,nd,h=>by
   obtain⟨h1,h2⟩:=jf.mp nd
   have hm:=h m qL
   have e:=List.length_erase_of_mem hm
   have hp:=List.length_pos_of_mem hm
   have:=Uh (l:=l.erase m) h2 fun x hx=>(List.mem_erase_of_ne (a:=x) (b:=m) (fun z=>h1 (by rw[<-z];exact hx))).mpr (h x (qP _ hx))
   rw[za]
   omega
def Kp1(H H':Hp):Prop:=∀c o,H c=some o->(∀kvs,o≠.dK kvs)->H' c=some o
theorem Kp1.trans{H H1 H2:Hp}(a:Kp1 H H1)(b:Kp1 H1 H2):Kp1 H H2:=fun c o e n=>b c o (a c o e n) n
theorem Kp1.upd{H:Hp}{p:Addr}{kvs kvs':List (Key×V)}(h:H p=some (.dK kvs)):Kp1 H (upd H p (.dK kvs')):=fun c o e n=>by
 by_cases z:c=p
 .rw[z,h] at e;cases e;exact absurd rfl (n kvs)
 .rw[Qa z];exact e
end L2
namespace L2
open PySem PySem.Spec PyProof.Rows
end L2
namespace L2
open PySem PySem.Spec PyProof.Rows
end L2
namespace L2
open PySem PySem.Spec PyProof.Rows
section
variable {X:Cx}{pins:List (Addr×Obj)}{σ:St}{H:Hp}{s:Shared}{a:Addr}{oa:Obj}{kvs:List (Key×V)}
end
end L2
namespace L2
open PySem PySem.Spec PyProof.Rows
end L2
namespace L2
open PySem PySem.Spec PyProof.Rows
theorem Qkh{X:Cx}(K:Frag){e:Expr}{f:Str}{pos:Pos}{ta:TE}(he:PE X e ta)(hb:attributeBase e f X.env (eval e X.env)=eval e X.env)(hK:X.K=K:=by rfl):PE X (.Attribute e f pos) (tFld K ta f):=hK▸Qk he hb
section
variable {prs S:List PRow}{n:Str}{k:Nat}
end
theorem Qbi{ns:QvX}{n:Str}(h:n∈ns):Za (Qw ns) (Sum.inr n) (.bl true)=Qw ns:=by
 unfold Za
 have hc:((Qw ns).any fun kv=>decide (kv.1=(Sum.inr n:Key)))=true:=List.any_eq_true.mpr ⟨(Sum.inr n,.bl true),qd.mpr ⟨n,h,rfl⟩,qp rfl⟩
 rw[qD hc]
 unfold Qw
 rw[zJ]
 apply yF
 intro m _
 show(if (Sum.inr m:Key)=Sum.inr n then (Sum.inr m,V.bl true) else (Sum.inr m,V.bl true))=_
 split <;> rfl
def Zy(ns:QvX)(n:Str):QvX:=if n∈ns then ns else ns++[n]
theorem Qe6(ns:QvX)(n:Str):Za (Qw ns) (Sum.inr n) (.bl true)=Qw (Zy ns n):=by
 unfold Zy
 split
 .exact Qbi ‹_›
 .exact Wl ‹_›
theorem Qbw{ns:QvX}{n m:Str}:m∈Zy ns n↔m∈ns\/m=n:=by
 unfold Zy
 split
 .exact⟨.inl,fun h=>h.elim id fun e=>e▸‹_›⟩
 .rw[qx,ql]
theorem Qes{ns:QvX}{n:Str}(h:ns.Nodup):(Zy ns n).Nodup:=by
 unfold Zy
 split
 .exact h
 .rename_i hn
  rw[jZ]
  exact⟨h,gR _ _,fun a ha b hb e=>hn (by rw[ql.mp hb] at e;rw[<-e];exact ha)⟩
end L2
namespace L2
open PySem PySem.Spec
inductive QbW(Q:VK)(a:Addr)(y:V)(z:V)(H3:Hp):Prop
 | mk:∀kvs k,H3 a=some (.dK kvs)->y=kV k->kvs.length<sizeLine->((∀v,Qt kvs k=some v->Q v H3))->((Qt kvs k=none->Q z (upd H3 a (.dK (Za kvs k z)))))->QbW Q a y z H3
inductive QeE(ty:TE)(tx:TE)(σ:St)(Q:VK)(x:V)(H1:Hp):Prop
 | mk:∀a,x=.ref a->IsD H1 a->(ty σ H1 fun y H2=>tx σ H2 fun z H3=>QbW Q a y z H3)->QeE ty tx σ Q x H1
def tDSet(td ty tx:TE):TE:=fun σ H Q=>td σ H fun x H1=>QeE ty tx σ Q x H1
section
variable {X:Cx}{pins:List (Addr×Obj)}{σ:St}{H:Hp}{s:Shared}{a:Addr}{kvs:List (Key×V)}{k:Key}{z:V}{u r:Value}{A:Around}{E:QvY}
theorem Qjm{Q:QvY}(I:Inv X pins σ H s)(e:H a=some (.dK kvs))(ry:QI (kV k) u)(rz:QI z r)(l:kvs.length<sizeLine)
 (h1:∀v,Qt kvs k=some v->∀w' s',Inv X pins σ H s'->QI v w'->Q w' s') (h2:Qt kvs k=none->∀s',Inv X pins σ (upd H a (.dK (Za kvs k z))) s'->Q r s') :
 wpAny (model X.prog X.w) A (call (.builtin "dict.setdefault") [.ref a,u,r]) Q E s:=by
 obtain⟨hz,hd,vs,rel,dd⟩:=Gv I.hok e
 refine QrT PySem.F.slot_dict_setdefault dd.typeIs PySem.F.entry_dict_setdefault (PySem.F.args_dict_setdefault_3 _ _ _) (kt_meets_setdefault (QU X.prog X.w) a (VJ ry) hd r) ⟨vs,dd,by rw[<-rel.length];exact hz,fun w' hw=>?_,fun hn h' dd' hs=>?_⟩
 .have hv:=rel.val k
  rw[hw] at hv
  cases e2:Qt kvs k with
  | none=>rw[e2] at hv;exact absurd hv (by simp[YO])
  | some v=>rw[e2] at hv;exact h1 v e2 w' _ (I.tok _) hv
 .have hv:=rel.val k
  rw[hn] at hv
  cases e2:Qt kvs k with
  | some v=>rw[e2] at hv;exact absurd hv (by simp[YO])
  | none =>
    have he:∃q,h'.get? a=some q:=let ⟨q,_,_,hq,_⟩:=dd';⟨q,hq⟩
    have hl:(Za kvs k z).length<=sizeLine:=by have:=JY kvs k z;omega
    exact h2 e2 _ (Wv I (by rw[e];exact True.intro) hs he (QbF hl hd (rel.put k rz) dd'))
end
section
variable {X:Cx}{o e f:Expr}{apos cpos:Pos}{td ty tx:TE}
theorem Qh6(ho:PE X o td)(he:PE X e ty)(hf:PE X f tx)(m:M2 X o "setdefault" apos e f cpos):PE X (.Call (.Attribute o "setdefault" apos) [e,f] [] cpos) (tDSet td ty tx):=by
 intro pins s σ H Q I h
 refine Qqb m.base m.few m.line plainAttrs_dict PySem.F.slot_dict_setdefault PySem.F.type_dict_setdefault (jO (ho pins s σ H _ I h) fun u s1 ⟨x,H1,I1,rx,a,ex,d,q1⟩=>?_)
 subst ex
 obtain rfl:u=Value.ref a:=rx
 obtain⟨t1,t2,_⟩:=QbC I1 d
 refine⟨t1,t2,?_⟩
 rw[m.trees]
 refine xu rfl (kW (yq (jO (he pins s1 σ H1 _ I1 q1) fun iv s2 ⟨y,H2,I2,ry,q2⟩=>yq (jO (hf pins s2 σ H2 _ I2 q2) fun fv s3 ⟨z,H3,I3,rz,kvs,k,ea,ey,l,q3,q4⟩=>QmD ?_))))
 subst ey
 exact Qjm I3 ea ry rz l (fun v ev w' s4 I4 rw'=>⟨_,H3,I4,rw',q3 v ev⟩) fun en s4 I4=>⟨z,_,I4,rz,q4 en⟩
end
theorem U4:∀(xs acc:QvX){t:Str},t∈acc\/t∈xs->t∈xs.foldl ZD acc
 | [],acc,t,h=>h.elim id fun z=>nomatch z
 | x :: xs,acc,t,h=>by
   refine U4 xs (ZD acc x) ?_
   unfold ZD
   rcases h with h | h
   .left;split
    .exact h
    .exact qN _ h
   .rcases qG.mp h with rfl | h
    .left;split
     .assumption
     .exact qC _ (ql.mpr rfl)
    .exact .inr h
theorem QiI{xs:QvX}{t:Str}(h:t∈xs):t∈Y2 xs:=U4 xs [] (.inr h)
def kn(T xs:QvX):List (Key×V):=(Y2 xs).map fun w=>(Sum.inr w,V.bl (decide (w∈T)))
theorem QiR(T xs:QvX):(kn T xs).length<=xs.length:=by unfold kn;rw[qi];exact Qid xs
theorem QkD(T xs:QvX):(kn T xs).map (fun kv=>kV kv.1)=(Y2 xs).map V.str:=by unfold kn;rw[zJ];rfl
theorem QaR(T:QvX)(w:Str):∀ys:QvX,Qt (ys.map fun w=>((Sum.inr w:Key),V.bl (decide (w∈T)))) (Sum.inr w)=if w∈ys then some (V.bl (decide (w∈T))) else none
 | []=>rfl
 | y :: ys=>by
   rw[qW]
   by_cases e:y=w
   .subst e
    rw[Zm rfl,qD (qL ..)]
   .rw[Zf (fun z=>e (yL z)),QaR T w ys]
    by_cases m:w∈ys
    .rw[qD m,qD (qP _ m)]
    .rw[qy m,qy (fun z=>(qG.mp z).elim (fun q=>e q.symm) m)]
theorem Qea(T xs:QvX)(w:Str):Qt (kn T xs) (Sum.inr w)=if w∈Y2 xs then some (V.bl (decide (w∈T))) else none:=QaR T w (Y2 xs)
theorem QiP{T xs:QvX}{w:Str}(h:w∈Y2 xs):kn T (xs++[w])=kn T xs:=by
 unfold kn
 rw[QaF]
 unfold ZD
 rw[qD h]
theorem QiQ{T xs:QvX}{w:Str}(h:¬w∈Y2 xs):kn T (xs++[w])=kn T xs++[(Sum.inr w,V.bl (decide (w∈T)))]:=by
 unfold kn
 rw[QaF]
 unfold ZD
 rw[qy h,qQ]
 rfl
theorem Qmh{T xs:QvX}{w:Str}(h:w∈T):Za (kn T xs) (Sum.inr w) (.bl true)=kn T (xs++[w]):=by
 unfold Za
 rw[Yz,Qea]
 by_cases m:w∈Y2 xs
 .rw[qD m,QiP m,qD (show(some _:Option V).isSome=true from rfl)]
  unfold kn
  rw[zJ]
  refine yF fun u _=>?_
  show(if (Sum.inr u:Key)=Sum.inr w then ((Sum.inr u:Key),V.bl true) else (Sum.inr u,V.bl (decide (u∈T))))=_
  by_cases e:u=w
  .subst e
   rw[qD rfl,qp h]
  .rw[qy (fun z=>e (yL z))]
 .rw[qy m,qy (fun z=>nomatch z),QiQ m,qp h]
theorem QcU{T xs:QvX}{w:Str}(hT:∀u∈T,u∈xs)(h:Qt (kn T xs) (Sum.inr w)=none):Za (kn T xs) (Sum.inr w) (.bl false)=kn T (xs++[w]):=by
 have m:¬w∈Y2 xs:=fun m=>by rw[Qea,qD m] at h;cases h
 unfold Za
 rw[Yz,h,qy (fun z=>nomatch z),QiQ m,qF (fun z=>m (QiI (hT w z)))]
theorem QcT{T xs:QvX}{w:Str}{v:V}(h:Qt (kn T xs) (Sum.inr w)=some v):kn T (xs++[w])=kn T xs:=by
 refine QiP ?_
 by_cases m:w∈Y2 xs
 .exact m
 .rw[Qea,qy m] at h;cases h
def SX(x:Addr)(H H':Hp):Prop:=∀c o,c≠x->H c=some o->H' c=some o
theorem SX.of{x:Addr}{H H':Hp}(h:Qo H H'):SX x H H':=fun c o _ e=>h c o e
theorem SX.trans{x:Addr}{H H1 H2:Hp}(h:SX x H H1)(g:SX x H1 H2):SX x H H2:=fun c o n e=>g c o n (h c o n e)
theorem SX.free{x l:Addr}{H H1:Hp}{o:HO}(h:SX x H H1)(e:H1 x=some o)(n:H1 l=none):H l=none:=by
 cases q:H l with
 | none=>rfl
 | some u =>
   by_cases z:l=x
   .rw[z,e] at n;cases n
   .rw[h l u z q] at n;cases n
end L2
namespace L2
open PySem PySem.Spec PyProof.Rows
def VA:Value->Str
 | .str x _=>x
 | _=>""
def YN(prog:Program)(w:World)(led:Bool)(a:Addr)(ks:QvX)(h:Heap):Prop:=∃o es ep t,h.get? a=some o/\o.ExactSet/\o.data=.set es ep t/\ElemsOf (strKind prog w) es.toList/\es.size<scanBound/\t.fits es.size=true/\t.led=led /\
 (t.plain=true->es.size=0)/\(es.toList.map fun e=>VA e.2).Perm ks
theorem YN.at{prog:Program}{w:World}{led:Bool}{a:Addr}{ks:QvX}{h h':Heap}(x:YN prog w led a ks h)(k:∀o,h.get? a=some o->h'.get? a=some o):YN prog w led a ks h' :=
 let ⟨o,es,ep,t,e,r⟩:=x;⟨o,es,ep,t,k o e,r⟩
theorem Gs{prog:Program}{w:World}{l:List (Int×Value)}(h:ElemsOf (strKind prog w) l){e:Int×Value}(he:e∈l):∃t,e.2=.str (VA e.2) t:=by
 obtain⟨⟨k,hk,_⟩,_⟩:=h e he
 obtain⟨t,q⟩:=Value.isStrOf_shape (show Value.isStrOf k e.2=true from hk)
 exact⟨t,by rw[q];rfl⟩
theorem QiX{k:Str}{v:Value}{t:Tok}(h:v=.str (VA v) t):Value.isStrOf k v=decide (k=VA v):=by
 rw[h]
 show Value.isStrOf k (.str (VA v) t)=decide (k=VA v)
 by_cases e:k=VA v
 .rw[<-e,qp rfl];simp[Value.isStrOf]
 .rw[qF e];simp[Value.isStrOf];exact fun z=>e z.symm
theorem Qd9(t:SetTable)(es:Array (Int×Value))(h:Int)(x:Value):(layNew t es h x).2.1.led=t.led:=by
 unfold layNew
 split
 .show(SetTable.orStandIn _ _).led=_
  unfold SetTable.orStandIn
  split <;> rfl
 .rfl
theorem Qbg(t:SetTable)(es:Array (Int×Value))(wanted:Nat):(relayAll t es wanted).2.1.led=t.led/\((relayAll t es wanted).2.1.plain=true->t.plain=true):=by
 unfold relayAll
 split
 .rename_i t' order he
  have e:t'.led=t.led/\t'.plain=t.plain:=by
   unfold SetTable.relaid SetTable.laid at he
   cases hc:SetTable.layClean (SetTable.sizeAbove wanted - 1) (es.map (·.1)) with
   | none=>rw[hc] at he;cases he
   | some ow=>rw[hc] at he;cases he;exact⟨rfl,rfl⟩
  dsimp only
  split
  .exact⟨e.1,fun z=>by rw[<-e.2];exact z⟩
  .exact⟨rfl,fun z=>by cases z⟩
 .exact⟨rfl,fun z=>by cases z⟩
section
variable {prog:Program}{w:World}{A:Around}{E:QvY}{s:Shared}
theorem Kz{h:Heap}{a:Addr}{o:Obj}{es:Array (Int×Value)}{ep:Nat}{t:SetTable}{led:Bool}{ks:QvX}(ho:h.get? a=some o)(hex:o.ExactSet)(hd:o.data=.set es ep t){es':Array (Int×Value)}{t':SetTable}
 (hel:ElemsOf (strKind prog w) es'.toList) (hb:es'.size<scanBound) (hf:t'.fits es'.size=true) (hl:t'.led=led) (hp:t'.plain=true->es'.size=0) (hk:(es'.toList.map fun e=>VA e.2).Perm ks) :
 (h.update a (Obj.putSet es' t')).get? a=some { o with data:=.set es' (ep+1) t' }/\YN prog w led a ks (h.update a (Obj.putSet es' t')):=by
 have hg:(h.update a (Obj.putSet es' t')).get? a=some { o with data:=.set es' (ep+1) t' }:=by
  have e1:=putSet_of es' t' hd
  have e2:=jt (Obj.putSet es' t') ho (by rw[e1];rfl)
  rw[e1] at e2
  exact e2
 exact⟨hg,_,es',ep+1,t',hg,hex,rfl,hel,hb,hf,hl,hp,hk⟩
theorem Qhc{g:Bool->Sem Unit}(hg:∀(b:Bool)(z:Shared)(R:Unit->Shared->Prop),R () z->wpAny (model prog w) A (g b) R E z){a:Addr}{o:Obj}{es:Array (Int×Value)}{ep:Nat}{t:SetTable}{led:Bool}{ks:QvX}
 (ho:s.heap.get? a=some o) (hex:o.ExactSet) (hd:o.data=.set es ep t) {es1:Array (Int×Value)} {t2:SetTable} (hel:ElemsOf (strKind prog w) es1.toList) (hb:es1.size<scanBound) (hf:t2.fits es1.size=true) (hl:t2.led=led) (hp:t2.plain=false)
 (hk:(es1.toList.map fun e=>VA e.2).Perm ks) {was:Bool} {R:Option Bool->Shared->Prop} (h:∀h',Heap.SameBut a s.heap h'->YN prog w led a ks h'->R (some true) { s with heap:=h' }) :
 wpAny (model prog w) A (do
  storeSet a es1 t2
  if (!was && t2.tooFull)=true then do
      g (relayAll t2 es1 (SetTable.grown es1.size)).2.2
      storeSet a (relayAll t2 es1 (SetTable.grown es1.size)).1 (relayAll t2 es1 (SetTable.grown es1.size)).2.1
      pure (some true)
   else pure (some true)) R E s:=by
 refine qb (wpAny_storeSet_of ho hd ?_ (fits_of_scanBound hb))
 obtain⟨g1,S1⟩:=Kz (prog:=prog) (w:=w) ho hex hd hel hb hf hl (fun z=>by rw[hp] at z;cases z) hk
 have b1:=jq s.heap a (Obj.putSet es1 t2)
 split
 .have pm:=relayAll_perm t2 es1 (SetTable.grown es1.size)
  have ft:=relayAll_fits t2 es1 (SetTable.grown es1.size)
  have ld:=Qbg t2 es1 (SetTable.grown es1.size)
  generalize relayAll t2 es1 (SetTable.grown es1.size)=Z at pm ft ld ⊢
  obtain⟨es2,t3,gv⟩:=Z
  dsimp only at pm ft ld ⊢
  have z2:es2.size=es1.size:=by rw[<-zf,pm.length_eq,zf]
  refine qb (hg _ _ _ (qb (wpAny_storeSet_of g1 rfl ?_ (fits_of_scanBound (by rw[z2];exact hb)))))
  obtain⟨_,S2⟩:=Kz (prog:=prog) (w:=w) (led:=led) (ks:=ks) g1 hex rfl (hel.perm pm) (by rw[z2];exact hb) ft (ld.1.trans hl) (fun z=>by have:=ld.2 z;rw[hp] at this;cases this) ((pm.map _).trans hk)
  exact qj (h _ (b1.trans (jq _ a _)) S2)
 .exact qj (h _ b1 S1)
theorem QhG{a:Addr}{ks:QvX}{k:Str}{u:Tok}{led:Bool}{Q:Bool->Shared->Prop}(hS:YN prog w led a ks s.heap)(hroom:ks.length+1<scanBound)
 (h:∀(b:Bool)(h':Heap),Heap.SameBut a s.heap h'->YN prog w led a (Zy ks k) h'->Q b { s with heap:=h' }):wpAny (model prog w) A (setAddHashed a (.str k u) (hashStr w k)) Q E s:=by
 obtain⟨o,es,ep,t,ho,hex,hd,hel,hb,hf,Qtr,hpl,hpm⟩:=hS
 have hkey:(strKind prog w).is k (.str k u)=true:=by show Value.isStrOf k (.str k u)=true;simp[Value.isStrOf]
 have hsc:(Value.str k u).scannable=true:=rfl
 have hlen:es.size=ks.length:=by rw[<-hpm.length_eq,qi,zf]
 unfold setAddHashed setAddHashedIn
 refine jk (qb (kZ ho hd hf ?_))
 dsimp only
 rw[byScan_of hsc hb hel]
 simp only[↓reduceIte]
 unfold setAddByScan
 refine qb (qb (QrU (qb (wpAny_setScan_of (knd:=strKind prog w) hkey ho hd hf hel ?_))))
 cases hr:List.findIdx? (fun e=>(strKind prog w).is k e.2) es.toList with
 | some j =>
   dsimp only
   obtain⟨hj,hpj,_⟩:=List.findIdx?_eq_some_iff_getElem.mp hr
   have hm:=jT hj
   obtain⟨tj,ej⟩:=Gs hel hm
   have hin:k∈ks:=hpm.mem_iff.mp (qd.mpr ⟨_,hm,by
    have e1:Value.isStrOf k es.toList[j].2=true:=hpj
    rw[QiX ej] at e1
    exact(qg e1).symm⟩)
   refine qj (qj ?_)
   have e:s={ s with heap:=s.heap }:=by cases s;rfl
   rw[e]
   exact h false s.heap (Heap.SameBut.refl a s.heap) ⟨o,es,ep,t,ho,hex,hd,hel,hb,hf,Qtr,hpl,by unfold Zy;rw[qD hin];exact hpm⟩
 | none =>
   dsimp only
   have hnin:¬k∈ks:=fun z=>by
    obtain⟨e,he,hk⟩:=qd.mp (hpm.mem_iff.mpr z)
    obtain⟨te,ee⟩:=Gs hel he
    have h1:=List.findIdx?_eq_none_iff.mp hr e he
    have h2:Value.isStrOf k e.2=false:=h1
    rw[QiX ee,hk,qp rfl] at h2
    cases h2
   have hperm:=layNew_perm t es (hashStr w k) (.str k u)
   have hfits:=layNew_fits t es (hashStr w k) (.str k u)
   have hld:=Qd9 t es (hashStr w k) (.str k u)
   have hnk:(Zy ks k)=ks++[k]:=by unfold Zy;rw[qy hnin]
   generalize layNew t es (hashStr w k) (.str k u)=Z at hperm hfits hld ⊢
   obtain⟨es1,t1,was,gave⟩:=Z
   dsimp only at hperm hfits hld ⊢
   rw[Array.toList_push] at hperm
   have hel1:ElemsOf (strKind prog w) es1.toList:=(hel.push (k:=k) hkey hsc).perm hperm
   have z1:es1.size=es.size+1:=by rw[<-zf,hperm.length_eq,qI,zf];rfl
   have hb1:es1.size<scanBound:=by rw[z1,hlen];exact hroom
   have hk1:(es1.toList.map fun e=>VA e.2).Perm (Zy ks k):=by
    rw[hnk]
    refine(hperm.map _).trans ?_
    rw[qQ]
    exact hpm.append_right _
   have gw:∀(b:Bool)(z:Shared)(R:Unit->Shared->Prop),R () z->wpAny (model prog w) A (match b with | true=>rule "set.scan.the-table-gave-way" | false=>pure ()) R E z:=fun b z R q=>by cases b <;> first | exact qj q | exact QrU q
   refine qb (gw _ _ _ ?_)
   split
   .refine qb ?_
    rw[hashByValue_scannable 8 hsc]
    refine qj ?_
    refine Qhc (led:=led) (ks:=Zy ks k) ?_ ho hex hd hel1 hb1 ?_ ?_ ?_ hk1 ?_
    .intro b z R q;cases b <;> first | exact qj q | exact QrU q
    .exact SetTable.fits_plain_off hfits
    .exact hld.trans Qtr
    .rfl
    .intro h' hsb hS';dsimp only;exact qj (h true h' hsb hS')
   .rename_i hnp
    refine qb (qj ?_)
    simp only[↓reduceIte]
    refine Qhc (led:=led) (ks:=Zy ks k) ?_ ho hex hd hel1 hb1 hfits ?_ ?_ hk1 ?_
    .intro b z R q;cases b <;> first | exact qj q | exact QrU q
    .exact hld.trans Qtr
    .exact Bool.eq_false_iff.mpr hnp
    .intro h' hsb hS';dsimp only;exact qj (h true h' hsb hS')
def K6(val:Nat->Str)(i:Nat):QvX:=((List.range i).map val).foldl Zy []
theorem QaN(val:Nat->Str)(i:Nat):K6 val (i+1)=Zy (K6 val i) (val i):=by
 unfold K6
 rw[List.range_succ,qQ,wg]
 rfl
theorem QcO(val:Nat->Str):∀i,(K6 val i).length<=i
 | 0=>qt _
 | i+1=>by
   rw[QaN]
   have ih:=QcO val i
   unfold Zy
   split
   .omega
   .rw[qI,qT];omega
theorem Ky{led:Bool}{R:Result->Shared->Prop}{I:Addr}{fp wr:List Addr}{G:Array GenState->Array GenState->Prop}{n:Nat}{P:Nat->Value->Prop}{St:Nat->Shared->Prop}(W:WalksS prog w A.in1 I fp wr G n P St)(S:Addr)(nf:S∉fp)
 (val:Nat->Str) (hval:∀i v,P i v->∃t,v=.str (val i) t) (hb:n+1<scanBound):∀(k i:Nat)(s:Shared),n - i=k->i<=n->St i s->YN prog w led S (K6 val i) s.heap ->
   (∀s',Moved (S :: wr) G s s'->YN prog w led S (K6 val n) s'.heap->R (.ok (.ret .none)) s')->codeAny (model prog w) A (.builtin "set.update.loop" ⟨[.ref S,.ref I],[]⟩) R s:=by
 have nw:S∉wr:=fun h=>nf (W.sub _ h)
 have sub:∀b∈wr,b∈S :: wr:=fun b hb=>qP _ hb
 intro k
 induction k with
 | zero =>
   intro i s hk hi hst hS hR
   obtain rfl:i=n:=by omega
   refine yg F.entry_set_update_loop ?_
   rw[yG F.plain_set_update_loop _]
   refine qb (m:=pyNext (.ref I)) (W.done s _ _ hst fun s' mv=>?_)
   exact qj (hR s' (mv.mono sub) (hS.at fun o e=>mv.heap S o nw e))
 | succ k ih =>
   intro i s hk hi hst hS hR
   have lt:i<n:=by omega
   refine yg F.entry_set_update_loop ?_
   rw[yG F.plain_set_update_loop _]
   refine qb (m:=pyNext (.ref I)) (W.item i s _ _ lt hst fun v s' hP hst' mv=>?_)
   obtain⟨t,rfl⟩:=hval i v hP
   have hS':=hS.at (h':=s'.heap) fun o e=>mv.heap S o nw e
   refine qb (m:=holding [Value.str (val i) t] (setAdd S (.str (val i) t))) (jk ?_)
   unfold setAdd
   refine jk (qb ((strKind prog w).pyHash (k:=val i) (show Value.isStrOf (val i) (.str (val i) t)=true by simp[Value.isStrOf]) ?_))
   have room:(K6 val i).length+1<scanBound:=by have:=QcO val i;omega
   refine QhG (s:={ s' with toks:=s'.toks+1 }) (led:=led) hS' room fun b h' sb hS2=>?_
   rw[<-QaN] at hS2
   refine qj ⟨QnG F.plain_set_update_loop _,ih (i+1) _ (by omega) lt (W.frame _ s' _ _ hst' (Qq6 _) fun b hb o e=>?_) hS2 fun s'' mv' hS''=>?_⟩
   .rw[sb.2 b (fun h:b=S=>nf (by rw[<-h];exact hb))];exact e
   .refine hR s'' (Moved.trans W.gtrans ((mv.mono sub).then_heap (Qq6 _) fun b o hb e=>?_) mv') hS''
    rw[sb.2 b (fun h:b=S=>hb (by rw[h];exact qL))];exact e
def Z1(w:World):Obj:={ cls:=.type "set",dict:=none,data:=.set #[] 0 (.fresh 0 0 (!w.params.followText "set-order")) }
theorem QaK(v:Value){R:QvY}(h:R (.ref s.heap.objs.size) { s with heap:=s.heap.push (Z1 w) }):codeAny (model prog w) A (.call (.builtin "set.__new__") ⟨[.type "set",v],[]⟩) (wants R E) s:=by
 refine codeAny_of_tree ?_
 refine qb (m:=checkBuiltinCall "set.__new__" ⟨[.type "set",v],[]⟩) (wpAny_of_eq (F.newCall_set_1 v) (qj ⟨QnG F.plain_set_new _,yg F.entry_set_new ?_⟩))
 rw[yG F.plain_set_new _]
 unfold Builtin.«set.__new__» Builtin.Frozenset.newClass
 have sub:=sub_set_self
 obtain⟨hp,g,d,tk,os⟩:=s
 dsimp only
 wp_walk
 refine vL (qj ?_)
 dsimp only
 simp only[newObj]
 exact qb (wpAny_alloc (qj (qj h)))
theorem Qa8:∀{vs:QvZ}{ss:QvX},StrsAre vs ss->∀(i:Nat)(v:Value),vs[i]?=some v->∃t,v=.str (ss.getD i "") t
 | _,_,.nil,i,v,h=>by simp at h
 | _,_,.cons x t r,0,v,h=>by simp at h;exact⟨t,by rw[<-h];rfl⟩
 | _,_,.cons x t r,i+1,v,h=>by
   rw[List.getElem?_cons_succ] at h
   obtain⟨t',e⟩:=Qa8 r i v h
   exact⟨t',by rw[e];rfl⟩
theorem UO:∀{vs:QvZ}{ss:QvX},StrsAre vs ss->vs.length=ss.length
 | _,_,.nil=>rfl
 | _,_,.cons x t r=>by rw[za,za,UO r]
theorem KK(ss:QvX):(List.range ss.length).map (fun i=>ss.getD i "")=ss:=by
 apply List.ext_getElem
 .rw[qi,yt]
 .intro i h1 h2
  rw[List.getElem_map,Qsx,zG,qz h2]
  rfl
theorem Qld:YN prog w (!w.params.followText "set-order") s.heap.objs.size [] (s.heap.push (Z1 w)) :=
 ⟨_,#[],0,_,qH _ rfl,⟨rfl,rfl,rfl⟩,rfl,(fun e he=>by simp at he),by decide,by rfl,rfl,(fun _=>rfl),by simp⟩
end
end L2
namespace L2
open PySem PySem.Spec PyProof.Rows
section
variable {prog:Program}{w:World}{A:Around}{E:QvY}{s:Shared}
set_option maxHeartbeats 3200000 in
theorem Qep{l:Addr}{items:Array Value}{ss:QvX}{Q:QvY}(hh:A.handled=none)(hl:s.heap.IsList l items)(hi:StrsAre items.toList ss)(hb:items.size+1<scanBound)
 (h:∀(h':Heap)(tk:Nat),YN prog w (!w.params.followText "set-order") s.heap.objs.size (ss.foldl Zy []) h'->(∀b o,b<s.heap.objs.size->s.heap.get? b=some o->h'.get? b=some o)->Q (.ref s.heap.objs.size) { s with heap:=h',toks:=tk }) :
 wpAny (model prog w) A (call (.type "set") [.ref l]) Q E s:=by
 obtain⟨c,tl,m1⟩:=jx.mro
 have m2:=jx.made
 have m3:=jx.sub
 have m4:=jx.notType
 have m5:=jx.canCreate
 have m6:=F.typeCall_set_1 (.ref l)
 refine QrR (codeAny_of_tree ?_)
 show wpAny _ _ (callAny (.type "set") _) _ _ _
 refine qj ⟨Code.quiet_builtin _ (by decide +kernel),yg F.entry_type_call ?_⟩
 rw[Around.under_plain (weight_type_call_type "set" [.ref l] []) rfl]
 repeat (any_goals (first | assumption | wp_step))
 refine xn (QaK (.ref l) (E:=E) (R:=fun z z1=>z=.ref s.heap.objs.size/\z1={ s with heap:=s.heap.push (Z1 w) }) ⟨rfl,rfl⟩) fun r s₁ hr=>?_
 cases r with
 | error e=>exact hr
 | ok fl =>
   cases fl with
   | ret z =>
     obtain⟨rfl,rfl⟩:=hr
     have z1:(s.heap.push (Z1 w)).get? s.heap.objs.size=some (Z1 w):=qH _ rfl
     have z2:Shared.TypeIs { s with heap:=s.heap.push (Z1 w) } (.ref s.heap.objs.size) "set":=⟨_,z1,rfl⟩
     have z3:=jx.init.lookup
     have z4:=jx.init.bind (.ref s.heap.objs.size)
     repeat (any_goals (first | assumption | wp_step))
     refine xn (QnM (R:=wants (fun r s₂=>r=.none/\∃h' tk,s₂={ s with heap:=h',toks:=tk }/\YN prog w (!w.params.followText "set-order") s.heap.objs.size (ss.foldl Zy []) h' /\
      (∀b o,b<s.heap.objs.size->s.heap.get? b=some o->h'.get? b=some o)) E) jx.init.plain F.entry_set_init (check_set_init_1 z2 ?_)) fun r₂ s₂ hr₂=>?_
     .obtain⟨ol,e1,e2,nl,e3⟩:=hl
      obtain⟨ocls,odict,odata,oslots⟩:=ol
      simp only at e2 e3
      subst e2;subst e3
      have y1:(s.heap.push (Z1 w)).get? l=some { cls:=.type "list",dict:=odict,data:=.seq items nl,slots:=oslots }:=qm _ e1
      have y2:=F.sub_list_set
      have y3:=F.sub_list_frozenset
      have y4:(Value.type "list" == Value.type "dict")=false:=by decide
      have y5:(s.heap.push (Z1 w)).IsList l items:=⟨_,y1,rfl,nl,rfl⟩
      unfold Builtin.«set.__init__» noKeywords Builtin.Frozenset.updateFrom
      generalize hPI:pyIter=PI
      unfold Z1 at z1 z2 y1 y5 ⊢
      wp_walk
      subst hPI
      refine wpAny_pyIter_list y5 ?_
      refine qb (wpAny_runValue ?_)
      have lt:l<s.heap.objs.size:=qM e1
      have q3:A.in1.in1.in1.handled=none:=by simp[hh]
      have ne:l≠(s.heap.push { cls:=.type "set",dict:=none,data:=.set #[] 0 (.fresh 0 0 (!w.params.followText "set-order")) }).objs.size:=by
       rw[yD];exact qY (jY lt)
      have nf:s.heap.objs.size∉[(s.heap.push { cls:=.type "set",dict:=none,data:=.set #[] 0 (.fresh 0 0 (!w.params.followText "set-order")) }).objs.size,l]:=by
       rw[yD]
       intro z
       rcases qG.mp z with z | z
       .omega
       .rw[ql.mp z] at lt
        exact yh _ lt
      have vl:∀(i:Nat)(v:Value),items[i]?=some v->∃t,v=.str ((fun i=>ss.getD i "") i) t:=fun i v e=>Qa8 hi i v (by rw[zM];exact e)
      have es:K6 (fun i=>ss.getD i "") items.size=ss.foldl Zy []:=by
       unfold K6
       rw[<-zf,UO hi,KK]
      refine Ky (led:=!w.params.followText "set-order") ((Walks.list q3 _ l ne items).toS) s.heap.objs.size nf (fun i=>ss.getD i "") vl hb (items.size - 0) 0 _ (by omega) (zK _) ⟨⟨_,qH _ rfl,rfl,rfl⟩,y5.push _⟩ ?S0 ?R0
      case S0=>exact(Qld (prog:=prog) (w:=w) (s:=s)).at fun o e=>qm _ e
      case R0 =>
       intro s' hm hS'
       obtain⟨h',g',d',tk',os'⟩:=s'
       have eg:g'=s.gens:=hm.gens
       have ed:d'=s.drawn:=hm.drawn
       have eo:os'=s.os:=hm.os
       subst eg;subst ed;subst eo
       rw[es] at hS'
       refine qj (qj ⟨rfl,h',tk',rfl,hS',fun b o hb e=>?_⟩)
       refine hm.heap b o (fun z=>?_) (qm _ (qm _ e))
       rcases qG.mp z with z | z
       .exact absurd z (qY hb)
       .have z:=ql.mp z
        rw[yD] at z
        exact absurd z (qY (jY hb))
     .cases r₂ with
      | error e=>exact hr₂
      | ok fl₂ =>
        cases fl₂ with
        | ret r =>
          obtain⟨rfl,h',tk,rfl,a1,a2⟩:=hr₂
          repeat (any_goals (first | assumption | wp_step))
          exact h _ _ a1 a2
        | _=>exact hr₂.elim
   | _=>exact hr.elim
end
end L2
namespace L2
open PySem PySem.Spec PyProof.Rows
theorem VY{α:Type}:∀(l:List α)(i:Nat)(h:i<l.length),(l[i] :: l.eraseIdx i).Perm l
 | x :: l,0,_=>.refl _
 | x :: l,i+1,h=>by
   show(l[i]'(yK h) :: x :: l.eraseIdx i).Perm (x :: l)
   exact(List.Perm.swap x _ _).trans ((VY l i (yK h)).cons x)
theorem Qe8{α:Type}(next:Nat->Nat):∀(fuel k:Nat)(left:List α)(out:Array α),left.length=fuel->(pickOrder.go next fuel k left out).toList.Perm (out.toList++left)
 | 0,k,left,out,h=>by
   obtain rfl:left=[]:=vf.mp h
   rw[je]
   exact .refl _
 | n+1,k,left,out,h=>by
   have hi:next k % left.length<left.length:=Nat.mod_lt _ (by omega)
   unfold pickOrder.go
   rw[qz hi]
   dsimp only
   refine(Qe8 next n (k+1) _ _ (by rw[List.length_eraseIdx_of_lt hi,h];rfl)).trans ?_
   rw[Array.toList_push,Qoz]
   exact(VY left _ hi).append_left _
theorem WT{α:Type}(next:Nat->Nat)(xs:Array α):(pickOrder next xs).toList.Perm xs.toList:=by
 have:=Qe8 next xs.size 0 xs.toList #[] (by simp)
 exact this
theorem Q3:Slot "set_iterator" "__next__" "set_iterator.__next__":=.of (owner:="set_iterator") (n:="__next__") (by rw[typeLookup_type,builtinLookup_eq_fast];kernel_rfl) (by decide +kernel) (by decide +kernel) (by decide +kernel) (by first | exact .inl (by decide +kernel) | exact .inr (by decide +kernel)) (by rw[QoV];kernel_rfl)
theorem JA:entryFor table "set_iterator.__next__"=some Builtin.«set_iterator.__next__»:=entryFor_of_tree (by kernel_rfl)
theorem JT(a:Value):argsOk "set_iterator.__next__" ⟨[a],[]⟩:=by unfold argsOk;kernel_rfl
theorem Va:entryFor table "set.__iter__"=some Builtin.«frozenset.__iter__»:=entryFor_alias (id':="frozenset.__iter__") (by kernel_rfl) rfl (by decide +kernel) (by kernel_rfl)
theorem VC:Slot "set_iterator" "__iter__" "set_iterator.__iter__":=.of (owner:="set_iterator") (n:="__iter__") (by rw[typeLookup_type,builtinLookup_eq_fast];kernel_rfl) (by decide +kernel) (by decide +kernel) (by decide +kernel) (by first | exact .inl (by decide +kernel) | exact .inr (by decide +kernel)) (by rw[QoV];kernel_rfl)
theorem Qa6{M:Model}{A:Around}{E:QvY}{s:Shared}{src:Source}{n:Nat}{Q:Nat->Shared->Prop}(hn:n≠0)(h:∀i d',i<n->Q i { s with drawn:=d' }):wpAny M A (choose src n) Q E s :=
 fun _ _ _=>⟨hn,h _ _ (Nat.mod_lt _ (Nat.pos_of_ne_zero hn))⟩
theorem UG{M:Model}{A:Around}{E:QvY}{α:Type}:∀(n:Nat)(xs:List α)(s:Shared)(Q:List α->Shared->Prop),xs.length=n->(∀ys d',ys.Perm xs->Q ys { s with drawn:=d' })->wpAny M A (drawOrder n xs) Q E s
 | 0,xs,s,Q,hl,h=>by
   obtain rfl:xs=[]:=vf.mp hl
   have e:s={ s with drawn:=s.drawn }:=by cases s;rfl
   unfold drawOrder
   refine qj ?_
   rw[e]
   exact h [] _ (.refl _)
 | n+1,[],s,Q,hl,h=>by cases hl
 | n+1,x :: xs,s,Q,hl,h=>by
   unfold drawOrder
   refine qb (Qa6 (by simp) fun i d' hi=>?_)
   have e:(x :: xs)[i]?=some (x :: xs)[i]:=qz hi
   rw[e]
   dsimp only
   refine qb (UG n ((x :: xs).eraseIdx i) _ _ (by rw[List.length_eraseIdx_of_lt hi,hl];rfl) fun ys d'' hp=>qj ?_)
   exact h _ d'' ((hp.cons _).trans (VY _ i hi))
def JC(h:Heap)(it a:Addr)(first:Value)(i n ep:Nat):Prop:=∃o,h.get? it=some o/\o.cls=.type "set_iterator"/\o.data=.fields #[first,.int i 0,.ref a,.int n 0,.int ep 0]
def SAt(h:Heap)(a:Addr)(es:Array (Int×Value))(ep:Nat)(t:SetTable):Prop:=∃o,h.get? a=some o/\o.cls=.type "set"/\o.data=.set es ep t
section
variable {prog:Program}{w:World}{A:Around}{E:QvY}{s:Shared}{a it:Addr}{es:Array (Int×Value)}{ep:Nat}{t:SetTable}
theorem JC.typeIs{first:Value}{i n:Nat}(h:JC s.heap it a first i n ep):s.TypeIs (.ref it) "set_iterator":=let ⟨o,e,c,_⟩:=h;⟨o,e,c⟩
theorem U8{Q:QvY}(hS:SAt s.heap a es ep t)(hf:t.fits es.size=true)(hnd:(!w.params.followText "set-order" && (!t.plain && decide (es.size > 1)))=false)
 (h:Q (.ref s.heap.objs.size) { s with heap:=s.heap.push { cls:=.type "set_iterator",data:=.fields #[.int 0 0,.int 0 0,.ref a,.int es.size 0,.int ep 0] } }) :
 wpAny (model prog w) A (pyIter (.ref a)) Q E s:=by
 obtain⟨o,ho,hc,hd⟩:=hS
 have hT:s.TypeIs (.ref a) "set":=⟨o,ho,hc⟩
 refine Qqd hT slot_set_iter (z6 slot_set_iter hT Va ?_ (PySem.F.args_set_iter_1 _))
 unfold Builtin.«frozenset.__iter__» Builtin.Frozenset.slot0 slotArgs
 simp only[gh,Qmw,zO,↓reduceIte,bind_assoc,j7,xK]
 unfold Builtin.Frozenset.addrOf Builtin.Frozenset.sizeOf
 refine qb (qj ?_)
 try dsimp only
 refine qb (qj ?_)
 refine qb (qb (vJ ho hd hf (qj ?_)))
 unfold setDrawn setsByText
 refine qb (qb (kZ ho hd hf ?_))
 refine qb (qb (vL (qj ?_)))
 refine qj ?_
 refine yN (fun z=>?_) (fun _=>?_)
 .have z':(!w.params.followText "set-order" && (!t.plain && decide (es.size > 1)))=true:=z
  rw[hnd] at z'
  cases z'
 refine qb (qj ?_)
 refine qb (wpAny_setEpoch_of ho hd hf ?_)
 unfold newFields
 refine qb (zP (qj ⟨_,rfl,"set_iterator",_,⟨_,qH _ rfl,rfl⟩,Q3.lookup,?_⟩))
 exact h
def ZZ(ps:List Nat):Obj:={ cls:=.type "tuple",data:=.seq (ps.map fun(i:Nat)=>rawInt i).toArray }
theorem Ge{Q:QvY}(hS:SAt s.heap a es ep t)(hf:t.fits es.size=true)(hnd:(!w.params.followText "set-order" && (!t.plain && decide (es.size > 1)))=true)(hz:es.size<=sizeLine)
 (h:∀ps d',ps.Perm (List.range es.size)->Q (.ref (s.heap.push (ZZ ps)).objs.size) { s with heap:=(s.heap.push (ZZ ps)).push { cls:=.type "set_iterator",data:=.fields #[.ref s.heap.objs.size,.int 0 0,.ref a,.int es.size 0,.int ep 0] },drawn:=d' }) :
 wpAny (model prog w) A (pyIter (.ref a)) Q E s:=by
 obtain⟨o,ho,hc,hd⟩:=hS
 have hT:s.TypeIs (.ref a) "set":=⟨o,ho,hc⟩
 refine Qqd hT slot_set_iter (z6 slot_set_iter hT Va ?_ (PySem.F.args_set_iter_1 _))
 unfold Builtin.«frozenset.__iter__» Builtin.Frozenset.slot0 slotArgs
 simp only[gh,Qmw,zO,↓reduceIte,bind_assoc,j7,xK]
 unfold Builtin.Frozenset.addrOf Builtin.Frozenset.sizeOf
 refine qb (qj ?_)
 try dsimp only
 refine qb (qj ?_)
 refine qb (qb (vJ ho hd hf (qj ?_)))
 unfold setDrawn setsByText
 refine qb (qb (kZ ho hd hf ?_))
 refine qb (qb (vL (qj ?_)))
 refine qj ?_
 refine yN (fun _=>?_) (fun z=>absurd (show(!w.params.followText "set-order" && (!t.plain && decide (es.size > 1)))=true from hnd) z)
 refine qb (UG _ _ _ _ yt fun ps d' hp=>?_)
 have hl:(ps.map fun i:Nat=>rawInt i).length<=sizeLine:=by rw[qi,hp.length_eq,yt];exact hz
 refine qb (wpAny_newTuple ?_ hl)
 refine qb (wpAny_setEpoch_of (s:={ s with heap:=s.heap.push (ZZ ps),drawn:=d' }) (qm _ ho) hd hf ?_)
 unfold newFields
 refine qb (zP (qj ⟨_,rfl,"set_iterator",_,⟨_,qH _ rfl,rfl⟩,Q3.lookup,?_⟩))
 exact h ps d' hp
theorem U5{Q:Option Value->Shared->Prop}{i slot:Nat}(hI:JC s.heap it a (.int slot 0) i es.size ep)(hS:SAt s.heap a es ep t)(hf:t.fits es.size=true)(hne:a≠it)(x:Value)(nx:Nat)
 (hN:∀(A':Around)(E':QvY)(R:Option (Value×Nat)->Shared->Prop),R (some (x,nx)) s->wpAny (model prog w) A' (setNext a slot i ep) R E' s)
 (h:∀h',JC h' it a (.int nx 0) (i+1) es.size ep->Heap.SameBut it s.heap h'->Q (some x) { s with heap:=h' }):wpAny (model prog w) A (pyNext (.ref it)) Q E s:=by
 obtain⟨oi,hoi,hci,hdi⟩:=id hI
 obtain⟨o,ho,hc,hd⟩:=hS
 unfold pyNext
 refine qb (wZ (jA (name:=Str.ofString "__next__") hI.typeIs Q3 (z6 Q3 hI.typeIs JA ?_ (JT _))))
 unfold Builtin.«set_iterator.__next__» slotArgs
 simp only[gh,Qmw,zO,↓reduceIte,bind_assoc,j7,xK]
 refine qb (qj ?_)
 refine qb (QmE hoi hdi ?_)
 dsimp only
 refine qb (vJ ho hd hf ?_)
 rw[qy (by simp)]
 simp only[jW]
 refine qb (hN _ _ _ ?_)
 dsimp only
 refine qb (vM hoi hdi (by simp) ?_)
 have g1:=jt (Obj.mapFields (·.setIfInBounds 0 (rawInt (nx:Int)))) hoi (gj (jD hdi _))
 have d1:=jD hdi (·.setIfInBounds 0 (rawInt (nx:Int)))
 refine qb (vM (s:={ s with heap:=s.heap.update it (Obj.mapFields (·.setIfInBounds 0 (rawInt (nx:Int)))) }) g1 d1 (by simp) ?_)
 have g2:=jt (Obj.mapFields (·.setIfInBounds 1 (rawInt ((i:Int)+1)))) g1 (gj (jD d1 _))
 have d2:=jD d1 (·.setIfInBounds 1 (rawInt ((i:Int)+1)))
 refine qj ⟨_,rfl,qj (h _ ⟨_,g2,(Qqe ..).trans ((Qqe ..).trans hci),?_⟩ ?_)⟩
 .rw[d2];simp[rawInt]
 .exact(jq ..).trans (jq ..)
theorem Y3{Q:Option Value->Shared->Prop}{i slot:Nat}(hh:A.handled=none)(hI:JC s.heap it a (.int slot 0) i es.size ep)(hS:SAt s.heap a es ep t)(hf:t.fits es.size=true)
 (hN:∀(A':Around)(E':QvY)(R:Option (Value×Nat)->Shared->Prop),R none s->wpAny (model prog w) A' (setNext a slot i ep) R E' s)
 (h:∀h',Heap.ExtBut it s.heap h'->Q none { s with heap:=h' }):wpAny (model prog w) A (pyNext (.ref it)) Q E s:=by
 obtain⟨oi,hoi,hci,hdi⟩:=id hI
 obtain⟨o,ho,hc,hd⟩:=hS
 unfold pyNext
 refine qb (wZ (jA (name:=Str.ofString "__next__") hI.typeIs Q3 (z6 Q3 hI.typeIs JA ?_ (JT _))))
 unfold Builtin.«set_iterator.__next__» slotArgs
 simp only[gh,Qmw,zO,↓reduceIte,bind_assoc,j7,xK]
 refine qb (qj ?_)
 refine qb (QmE hoi hdi ?_)
 dsimp only
 refine qb (vJ ho hd hf ?_)
 rw[qy (by simp)]
 simp only[jW]
 refine qb (hN _ _ _ ?_)
 dsimp only
 refine qb (vM hoi hdi (by simp) ?_)
 refine qb ?_
 simp only[newExc,newTuple]
 refine qb (zP ?_ (by size_fits))
 refine qb (m:=firstArgMember _ _) (wpAny_of_eq (a:=Value.none) (by first | rfl | (simp only[firstArgMember];rfl)) ?_)
 refine zP ?_ (by size_fits)
 simp only[raiseNew]
 refine qb (wpAny_handled ?_)
 rw[show A.in1.handled=none from hh]
 refine qb (qj (wpAny_throw ?_))
 refine qb (Qq9 (T:="StopIteration") (b:=true) ⟨_,qH _ rfl,rfl⟩ isSubtype_stop ?_)
 exact qj (h _ (((jq ..).extBut.push _).push _))
theorem KU{Q:Option Value->Shared->Prop}{T:Addr}{ps:List Nat}{i p:Nat}(hI:JC s.heap it a (.ref T) i es.size ep)(hT:s.heap.get? T=some (ZZ ps))(hS:SAt s.heap a es ep t)(hf:t.fits es.size=true)(hp:ps[i]?=some p){e:Int×Value}(he:es[p]?=some e)
 (h:∀h',JC h' it a (.ref T) (i+1) es.size ep->Heap.SameBut it s.heap h'->Q (some e.2) { s with heap:=h' }):wpAny (model prog w) A (pyNext (.ref it)) Q E s:=by
 obtain⟨oi,hoi,hci,hdi⟩:=id hI
 obtain⟨o,ho,hc,hd⟩:=hS
 unfold pyNext
 refine qb (wZ (jA (name:=Str.ofString "__next__") hI.typeIs Q3 (z6 Q3 hI.typeIs JA ?_ (JT _))))
 unfold Builtin.«set_iterator.__next__» slotArgs
 simp only[gh,Qmw,zO,↓reduceIte,bind_assoc,j7,xK]
 refine qb (qj ?_)
 refine qb (QmE hoi hdi ?_)
 dsimp only
 refine qb (vJ ho hd hf ?_)
 rw[qy (by simp)]
 simp only[jW]
 refine qb (wpAny_seqItems hT rfl ?_)
 dsimp only
 have e1:((ps.map fun(i:Nat)=>rawInt i).toArray)[i]?=some (rawInt p):=by rw[List.getElem?_toArray,q8,hp];rfl
 rw[e1]
 dsimp only[rawInt]
 unfold setNextDrawn
 simp only[jW,bind_assoc]
 refine qb (kZ ho hd hf ?_)
 rw[qy (by simp)]
 rw[he]
 dsimp only
 simp only[pure_bind]
 refine qb (vM hoi hdi (by simp) ?_)
 have g1:=jt (Obj.mapFields (·.setIfInBounds 1 (rawInt ((i:Int)+1)))) hoi (gj (jD hdi _))
 have d1:=jD hdi (·.setIfInBounds 1 (rawInt ((i:Int)+1)))
 refine qj ⟨_,rfl,qj (h _ ⟨_,g1,(Qqe ..).trans hci,?_⟩ (jq ..))⟩
 rw[d1];simp[rawInt]
theorem Vx{Q:Option Value->Shared->Prop}{T:Addr}{ps:List Nat}{i:Nat}(hh:A.handled=none)(hI:JC s.heap it a (.ref T) i es.size ep)(hT:s.heap.get? T=some (ZZ ps))(hS:SAt s.heap a es ep t)(hf:t.fits es.size=true)(hp:ps[i]?=none)
 (h:∀h',Heap.ExtBut it s.heap h'->Q none { s with heap:=h' }):wpAny (model prog w) A (pyNext (.ref it)) Q E s:=by
 obtain⟨oi,hoi,hci,hdi⟩:=id hI
 obtain⟨o,ho,hc,hd⟩:=hS
 unfold pyNext
 refine qb (wZ (jA (name:=Str.ofString "__next__") hI.typeIs Q3 (z6 Q3 hI.typeIs JA ?_ (JT _))))
 unfold Builtin.«set_iterator.__next__» slotArgs
 simp only[gh,Qmw,zO,↓reduceIte,bind_assoc,j7,xK]
 refine qb (qj ?_)
 refine qb (QmE hoi hdi ?_)
 dsimp only
 refine qb (vJ ho hd hf ?_)
 rw[qy (by simp)]
 simp only[jW]
 refine qb (wpAny_seqItems hT rfl ?_)
 dsimp only
 have e1:((ps.map fun(i:Nat)=>rawInt i).toArray)[i]?=none:=by rw[List.getElem?_toArray,q8,hp];rfl
 rw[e1]
 dsimp only
 refine qb (vM hoi hdi (by simp) ?_)
 have g1:=jt (Obj.mapFields (·.setIfInBounds 0 (rawInt 0))) hoi (gj (jD hdi _))
 have d1:=jD hdi (·.setIfInBounds 0 (rawInt 0))
 refine qb (vM (s:={ s with heap:=s.heap.update it (Obj.mapFields (·.setIfInBounds 0 (rawInt 0))) }) g1 d1 (by simp) ?_)
 refine qb ?_
 simp only[newExc,newTuple]
 refine qb (zP ?_ (by size_fits))
 refine qb (m:=firstArgMember _ _) (wpAny_of_eq (a:=Value.none) (by first | rfl | (simp only[firstArgMember];rfl)) ?_)
 refine zP ?_ (by size_fits)
 simp only[raiseNew]
 refine qb (wpAny_handled ?_)
 rw[show A.in1.handled=none from hh]
 refine qb (qj (wpAny_throw ?_))
 refine qb (Qq9 (T:="StopIteration") (b:=true) ⟨_,qH _ rfl,rfl⟩ isSubtype_stop ?_)
 exact qj (h _ ((((jq ..).trans (jq ..)).extBut.push _).push _))
end
end L2
namespace L2
open PySem PySem.Spec PyProof.Rows
section
variable {prog:Program}{w:World}{A:Around}{E:QvY}{s:Shared}{a it:Addr}{es:Array (Int×Value)}{ep:Nat}{t:SetTable}
theorem We{i slot:Nat}{R:Option (Value×Nat)->Shared->Prop}(hS:SAt s.heap a es ep t)(hf:t.fits es.size=true)(hb:w.params.followText "set-order"=true)
 (h:R (((pickOrder (w.params.setOrder a ep) es)[i]?).map fun e=>(e.2,slot)) s):wpAny (model prog w) A (setNext a slot i ep) R E s:=by
 obtain⟨o,ho,hc,hd⟩:=hS
 unfold setNext setsByText
 refine qb (kZ ho hd hf ?_)
 refine qb (qb (vL (qj ?_)))
 refine yN (fun _=>?_) (fun z=>absurd (show w.params.followText "set-order"=true from hb) z)
 rw[qy (by simp)]
 refine qb ?_
 unfold setWalk setsByText
 refine qb (kZ ho hd hf ?_)
 refine qb (qb (vL (qj ?_)))
 refine yN (fun _=>?_) (fun z=>absurd (show w.params.followText "set-order"=true from hb) z)
 refine qb (vL ?_)
 exact qj (qj h)
theorem US{i slot:Nat}{R:Option (Value×Nat)->Shared->Prop}(hS:SAt s.heap a es ep t)(hf:t.fits es.size=true)(hb:w.params.followText "set-order"=false)(hl:t.led=true)(hz:es.size<=1)
 (h:R (match es[SetTable.below t.place slot]?,t.place[SetTable.below t.place slot]? with | some (_,x),some j=>some (x,j+1) | _,_=>none) s):wpAny (model prog w) A (setNext a slot i ep) R E s:=by
 obtain⟨o,ho,hc,hd⟩:=hS
 unfold setNext setsByText
 refine qb (kZ ho hd hf ?_)
 refine qb (qb (vL (qj ?_)))
 refine yN (fun z=>absurd (show w.params.followText "set-order"=true from z) (by rw[hb];exact qJ)) (fun _=>?_)
 refine yN (fun z=>?_) (fun _=>?_)
 .have z':(!t.plain && decide (es.size > 1))=true:=z
  rw[zQ] at z'
  have:=qg z'.2
  omega
 refine qb ?_
 show wpAny _ _ (if (!t.led && !es.isEmpty)=true then _ else pure ()) _ _ s
 rw[qy (by rw[hl];simp)]
 exact qj (qj h)
theorem SAt.at{h h':Heap}(x:SAt h a es ep t)(k:∀o,h.get? a=some o->h'.get? a=some o):SAt h' a es ep t:=let ⟨o,e,r⟩:=x;⟨o,k o e,r⟩
theorem JC.at{h h':Heap}{first:Value}{i n:Nat}(x:JC h it a first i n ep)(k:∀o,h.get? it=some o->h'.get? it=some o):JC h' it a first i n ep:=let ⟨o,e,r⟩:=x;⟨o,k o e,r⟩
theorem Gr:entryFor table "set_iterator.__iter__"=some Builtin.«dict_keyiterator.__iter__»:=entryFor_alias (id':="dict_keyiterator.__iter__") (by kernel_rfl) rfl (by decide +kernel) (by kernel_rfl)
theorem GW(a:Value):argsOk "set_iterator.__iter__" ⟨[a],[]⟩:=by unfold argsOk;kernel_rfl
theorem Kx{first:Value}{i n:Nat}{Q:QvY}(hI:JC s.heap it a first i n ep)(h:Q (.ref it) s):wpAny (model prog w) A (pyIter (.ref it)) Q E s:=by
 refine Qqd hI.typeIs VC (z6 VC hI.typeIs Gr ?_ (GW _))
 show wpAny _ _ (ret (.ref it)) _ _ s
 exact qj ⟨_,rfl,"set_iterator",_,hI.typeIs,Q3.lookup,h⟩
theorem Qdv(hb:w.params.followText "set-order"=true)(hf:t.fits es.size=true)(hh:A.handled=none)(hne:a≠it) :
 Walks prog w A it [it,a] [it] es.size (fun i v=>((pickOrder (w.params.setOrder a ep) es).toList.map (·.2))[i]?=some v) (fun i h=>JC h it a (.int 0 0) i es.size ep/\SAt h a es ep t) where
 sub:=fun b hb=>by simp at hb;simp[hb]
 frame:=fun _ _ _ st hk=>⟨st.1.at fun o e=>hk it (by simp) o e,st.2.at fun o e=>hk a (by simp) o e⟩
 item:=fun i s Q E hi st hQ=>by
  have hl:(pickOrder (w.params.setOrder a ep) es).size=es.size:=by have:=(WT (w.params.setOrder a ep) es).length_eq;simpa using this
  have e1:(pickOrder (w.params.setOrder a ep) es)[i]?=some ((pickOrder (w.params.setOrder a ep) es)[i]'(by omega)):=jj (by omega)
  refine U5 (slot:=0) (nx:=0) st.1 st.2 hf hne _ (fun A' E' R r=>We st.2 hf hb (by rw[e1];exact r)) fun h' hI' sb=>?_
  refine hQ _ h' s.toks ?_ ⟨hI',st.2.at fun o e=>(sb.2 a hne).trans e⟩ fun b o hb e=>(sb.2 b (fun z=>hb (by simp[z]))).trans e
  rw[q8,zM,e1]
  rfl
 done:=fun s Q E st hQ=>by
  have hl:(pickOrder (w.params.setOrder a ep) es).size=es.size:=by have:=(WT (w.params.setOrder a ep) es).length_eq;simpa using this
  refine Y3 (slot:=0) hh st.1 st.2 hf (fun A' E' R r=>We st.2 hf hb (by rw[vI (by omega)];exact r)) fun h' eb=>hQ h' s.toks fun b o hb e=>eb b o (fun z=>hb (by simp[z])) e
 self:=fun _ _ _ _ st hQ=>Kx st.1 hQ
theorem Qdp(j:Nat):SetTable.below #[j] 0=0:=by
 unfold SetTable.below
 simp[SetTable.below.go]
theorem Qdo(j:Nat):SetTable.below #[j] (j+1)=1:=by
 unfold SetTable.below
 simp[SetTable.below.go]
theorem QfA(es:Array (Int×Value))(pl:Array Nat)(h1:es.size=1)(h2:pl.size=es.size):∃e j,es=#[e]/\pl=#[j]:=by
 obtain⟨l⟩:=es
 obtain⟨m⟩:=pl
 simp only[qZ] at h1 h2
 obtain⟨e,rfl⟩:=List.length_eq_one_iff.mp h1
 obtain⟨j,rfl⟩:=List.length_eq_one_iff.mp (h2.trans h1)
 exact⟨e,j,rfl,rfl⟩
theorem QfS(hb:w.params.followText "set-order"=false)(hf:t.fits es.size=true)(hl:t.led=true)(hz:es.size<=1)(hh:A.handled=none)(hne:a≠it) :
 Walks prog w A it [it,a] [it] es.size (fun i v=>(es.toList.map (·.2))[i]?=some v) (fun i h=>JC h it a (.int ((if i=0 then 0 else t.place.getD 0 0+1:Nat):Int) 0) i es.size ep/\SAt h a es ep t) where
 sub:=fun b hb=>by simp at hb;simp[hb]
 frame:=fun _ _ _ st hk=>⟨st.1.at fun o e=>hk it (by simp) o e,st.2.at fun o e=>hk a (by simp) o e⟩
 item:=fun i s Q E hi st hQ=>by
  have h1:es.size=1:=by omega
  have h0:i=0:=by omega
  subst h0
  have hp:t.place.size=es.size:=by unfold SetTable.fits at hf;rw[zQ] at hf;exact eq_of_beq hf.1
  obtain⟨e,j,e1,e2⟩:=QfA es t.place h1 hp
  refine U5 (slot:=0) (nx:=j+1) st.1 st.2 hf hne e.2 (fun A' E' R r=>US st.2 hf hb hl hz (by rw[e2,Qdp,e1];exact r)) fun h' hI' sb=>?_
  refine hQ _ h' s.toks (by rw[e1];rfl) ⟨?_,st.2.at fun o e=>(sb.2 a hne).trans e⟩ fun b o hb e=>(sb.2 b (fun z=>hb (by simp[z]))).trans e
  have e3:(if 0+1=0 then 0 else t.place.getD 0 0+1:Nat)=j+1:=by rw[e2];rfl
  rw[e3]
  exact hI'
 done:=fun s Q E st hQ=>by
  by_cases h1:es.size=1
  .have hp:t.place.size=es.size:=by unfold SetTable.fits at hf;rw[zQ] at hf;exact eq_of_beq hf.1
   obtain⟨e,j,e1,e2⟩:=QfA es t.place h1 hp
   have e3:(if es.size=0 then 0 else t.place.getD 0 0+1:Nat)=j+1:=by rw[h1,e2];rfl
   have st1:=st.1
   rw[e3] at st1
   refine Y3 (slot:=j+1) hh st1 st.2 hf (fun A' E' R r=>US st.2 hf hb hl hz (by rw[e2,Qdo,e1];exact r)) fun h' eb=>hQ h' s.toks fun b o hb e=>eb b o (fun z=>hb (by simp[z])) e
  .refine Y3 hh st.1 st.2 hf (fun A' E' R r=>US st.2 hf hb hl hz (by rw[vI (by omega)];exact r)) fun h' eb=>hQ h' s.toks fun b o hb e=>eb b o (fun z=>hb (by simp[z])) e
 self:=fun _ _ _ _ st hQ=>Kx st.1 hQ
theorem QbL{T:Addr}{ps:List Nat}(hps:ps.Perm (List.range es.size))(hf:t.fits es.size=true)(hh:A.handled=none)(hne:a≠it)(hTi:T≠it) :
 Walks prog w A it [it,a,T] [it] es.size (fun i v=>((ps.map fun p=>es.toList.getD p (0,.none)).map (·.2))[i]?=some v) (fun i h=>JC h it a (.ref T) i es.size ep/\SAt h a es ep t/\h.get? T=some (ZZ ps)) where
 sub:=fun b hb=>by simp at hb;simp[hb]
 frame:=fun _ _ _ st hk=>⟨st.1.at fun o e=>hk it (by simp) o e,st.2.1.at fun o e=>hk a (by simp) o e,hk T (by simp) _ st.2.2⟩
 item:=fun i s Q E hi st hQ=>by
  have hl:ps.length=es.size:=by rw[hps.length_eq,yt]
  have e0:ps[i]?=some (ps[i]'(by omega)):=qz (by omega)
  have hlt:ps[i]'(by omega)<es.size:=wQ.mp (hps.mem_iff.mp (jT (by omega)))
  have e1:es[ps[i]'(by omega)]?=some (es.toList.getD (ps[i]'(by omega)) (0,.none)):=by
   rw[zG,zM,jj hlt];rfl
  refine KU st.1 st.2.2 st.2.1 hf e0 e1 fun h' hI' sb=>?_
  refine hQ _ h' s.toks ?_ ⟨hI',st.2.1.at fun o e=>(sb.2 a hne).trans e,(sb.2 T hTi).trans st.2.2⟩ fun b o hb e=>(sb.2 b (fun z=>hb (by simp[z]))).trans e
  rw[q8,q8,e0]
  rfl
 done:=fun s Q E st hQ=>by
  have hl:ps.length=es.size:=by rw[hps.length_eq,yt]
  refine Vx hh st.1 st.2.2 st.2.1 hf (Qll (by omega)) fun h' eb=>hQ h' s.toks fun b o hb e=>eb b o (fun z=>hb (by simp[z])) e
 self:=fun _ _ _ _ st hQ=>Kx st.1 hQ
theorem Up:∀{l:List (Int×Value)},ElemsOf (strKind prog w) l->StrsAre (l.map (·.2)) (l.map fun e=>VA e.2)
 | [],_=>.nil
 | e :: l,h=>by
   obtain⟨t,q⟩:=Gs h (qL ..)
   have ih:=Up (l:=l) fun e he=>h e (qP _ he)
   show StrsAre (e.2 :: l.map (·.2)) (VA e.2 :: l.map fun e=>VA e.2)
   rw[q]
   exact .cons _ _ ih
theorem QdK{α:Type}(l:List α)(d:α):(List.range l.length).map (fun i=>l.getD i d)=l:=by
 apply List.ext_getElem
 .rw[qi,yt]
 .intro i h1 h2
  rw[List.getElem_map,Qsx,zG,qz h2]
  rfl
theorem Qbj(h:Heap)(o:Obj):h.objs.size<(h.push o).objs.size:=by rw[yD];exact Nat.lt_succ_self _
theorem QgJ{ks:QvX}{Q:QvY}(hS:YN prog w (!w.params.followText "set-order") a ks s.heap)
 (h:∀(I:Addr)(h':Heap)(d':Drawn)(fp:List Addr)(vs:QvZ)(ss:QvX)(St:Nat->Heap->Prop),(∀b o,s.heap.get? b=some o->h'.get? b=some o)->s.heap.objs.size<=I->I<h'.objs.size->(∀b∈fp,b=a\/s.heap.objs.size<=b) ->
   StrsAre vs ss->ss.Perm ks->(∀A':Around,A'.handled=none->Walks prog w A' I fp [I] vs.length (fun i v=>vs[i]?=some v) St)->St 0 h'->Q (.ref I) { s with heap:=h',drawn:=d' }) :
 wpAny (model prog w) A (pyIter (.ref a)) Q E s:=by
 obtain⟨o,es,ep,t,ho,hex,hd,hel,hb,hf,Qtr,hpl,hpm⟩:=hS
 have hS:SAt s.heap a es ep t:=⟨o,ho,hex.1,hd⟩
 have lt:a<s.heap.objs.size:=qM ho
 have ne:a≠s.heap.objs.size:=qY lt
 have fpk:∀b∈[s.heap.objs.size,a],b=a\/s.heap.objs.size<=b:=fun b hb=>by
  rcases qG.mp hb with e | hb
  .exact .inr (by omega)
  .exact .inl (ql.mp hb)
 by_cases hbt:w.params.followText "set-order"=true
 .have pp:=WT (w.params.setOrder a ep) es
  have hl:((pickOrder (w.params.setOrder a ep) es).toList.map (·.2)).length=es.size:=by rw[qi,pp.length_eq,zf]
  refine U8 hS hf (by rw[hbt];rfl) ?_
  refine h s.heap.objs.size _ s.drawn [s.heap.objs.size,a] ((pickOrder (w.params.setOrder a ep) es).toList.map (·.2)) ((pickOrder (w.params.setOrder a ep) es).toList.map fun e=>VA e.2) (fun i h=>JC h s.heap.objs.size a (.int 0 0) i es.size ep/\SAt h a es ep t) (fun b o e=>qm _ e) (qt _) (Qbj _ _) fpk
   (Up (hel.perm pp)) ((pp.map _).trans hpm) (fun A' hA'=>by rw[hl];exact Qdv hbt hf hA' ne) ⟨⟨_,qH _ rfl,rfl,rfl⟩,hS.at fun o e=>qm _ e⟩
 .have hbf:w.params.followText "set-order"=false:=Bool.eq_false_iff.mpr hbt
  by_cases hz:es.size<=1
  .have hl:(es.toList.map (·.2)).length=es.size:=by rw[qi,zf]
   refine U8 hS hf (by rw[qF (show ¬es.size > 1 by omega),Bool.and_false,Bool.and_false]) ?_
   refine h s.heap.objs.size _ s.drawn [s.heap.objs.size,a] (es.toList.map (·.2)) (es.toList.map fun e=>VA e.2) (fun i h=>JC h s.heap.objs.size a (.int ((if i=0 then 0 else t.place.getD 0 0+1:Nat):Int) 0) i es.size ep/\SAt h a es ep t) (fun b o e=>qm _ e) (qt _) (Qbj _ _) fpk
    (Up hel) hpm (fun A' hA'=>by rw[hl];exact QfS hbf hf (by rw[Qtr,hbf];rfl) hz hA' ne) ⟨⟨_,qH _ rfl,rfl,rfl⟩,hS.at fun o e=>qm _ e⟩
  .have hp:t.plain=false:=by
    cases e:t.plain with
    | false=>rfl
    | true=>have:=hpl e;omega
   refine Ge hS hf (by rw[hbf,hp,qp (show es.size > 1 by omega)];rfl) (gb (zm hb (by decide))) fun ps d' hps=>?_
   have pp:(ps.map fun p=>es.toList.getD p (0,Value.none)).Perm es.toList:=by
    have e1:=hps.map (fun p=>es.toList.getD p (0,Value.none))
    have e2:=QdK es.toList (0,Value.none)
    rw[zf] at e2
    rw[e2] at e1
    exact e1
   have hl:((ps.map fun p=>es.toList.getD p (0,Value.none)).map (·.2)).length=es.size:=by rw[qi,pp.length_eq,zf]
   have sz:(s.heap.push (ZZ ps)).objs.size=s.heap.objs.size+1:=yD ..
   have neI:a≠(s.heap.push (ZZ ps)).objs.size:=by rw[sz];exact qY (jY lt)
   have neT:s.heap.objs.size≠(s.heap.push (ZZ ps)).objs.size:=by rw[sz];omega
   refine h (s.heap.push (ZZ ps)).objs.size _ d' [(s.heap.push (ZZ ps)).objs.size,a,s.heap.objs.size] ((ps.map fun p=>es.toList.getD p (0,Value.none)).map (·.2)) ((ps.map fun p=>es.toList.getD p (0,Value.none)).map fun e=>VA e.2) (fun i h=>JC h (s.heap.push (ZZ ps)).objs.size a (.ref s.heap.objs.size) i es.size ep/\SAt h a es ep t/\h.get? s.heap.objs.size=some (ZZ ps))
    (fun b o e=>qm _ (qm _ e)) (by rw[sz];omega) (Qbj _ _) (fun b hb=>?_)
    (Up (hel.perm pp)) ((pp.map _).trans hpm) (fun A' hA'=>by rw[hl];exact QbL hps hf hA' neI neT) ⟨⟨_,qH _ rfl,rfl,rfl⟩,hS.at fun o e=>qm _ (qm _ e),qm _ (qH _ rfl)⟩
   rcases qG.mp hb with e | hb
   .exact .inr (by rw[e,sz];omega)
   .rcases qG.mp hb with e | hb
    .exact .inl e
    .exact .inr (by rw[ql.mp hb];exact qt _)
end
end L2
namespace L2
open PySem PySem.Spec PyProof.Rows
section
variable {prog:Program}{w:World}{A:Around}{E:QvY}{s:Shared}
theorem Qi4{r:Addr}{Q:Bool->Shared->Prop}(hT:s.TypeIs (.ref r) "set")(h:Q false s):wpAny (model prog w) A (Builtin.List.listLengthHint (.ref r)) Q E s:=by
 unfold Builtin.List.listLengthHint
 refine qb (wpAny_specialOf hT PySem.F.slot_set_len.lookup ?_)
 generalize hid:("set.__len__":String)=id0
 wp_delta
 rw[show splitId id0=some ("set","__len__") from by subst hid;decide +kernel]
 subst hid
 refine qb (Qq9 (T:="set") (b:=true) hT (by rw[QoV];kernel_rfl) ?_)
 refine yN (fun hab=>absurd hab (by decide)) (fun _=>?_)
 refine yN (fun _=>?_) (fun hab=>absurd (by decide +kernel) hab)
 refine qb (QrS hT ?_)
 exact qj h
theorem YN.typeIs{led:Bool}{a:Addr}{ks:QvX}(x:YN prog w led a ks s.heap):s.TypeIs (.ref a) "set":=let ⟨o,_,_,_,e,hex,_⟩:=x;⟨o,e,hex.1⟩
theorem YN.lt{led:Bool}{a:Addr}{ks:QvX}{h:Heap}(x:YN prog w led a ks h):a<h.objs.size:=let ⟨o,_,_,_,e,_⟩:=x;qM e
theorem QiW{acc:Array Value}{vs:QvZ}(h:ItemsOf (fun i v=>vs[i]?=some v) acc vs.length):acc.toList=vs:=by
 have hl:acc.size=vs.length:=h.1
 apply List.ext_getElem?
 intro i
 by_cases hi:i<acc.size
 .rw[zM,jj hi]
  exact(h.2 i _ (jj hi)).symm
 .rw[Qll (by rw[zf];omega),Qll (by omega)]
theorem Qek{R:Result->Shared->Prop}{r:Addr}{ks:QvX}(hh:A.handled=none)(hok:YN prog w (!w.params.followText "set-order") r ks s.heap)(S:Addr)(hSr:S≠r)(res:Value)(c₀:Nat)(hS:s.heap.get? S=some { cls:=.type "list",data:=.seq #[] c₀ })(few:ks.length<=sizeLine)
 (hR:∀h' tk d' acc' c' ss,(∀b o,b≠S->s.heap.get? b=some o->h'.get? b=some o)->h'.get? S=some { cls:=.type "list",dict:=none,data:=.seq acc' c',slots:=#[] }->StrsAre acc'.toList ss->ss.Perm ks->R (.ok (.ret res)) { s with heap:=h',toks:=tk,drawn:=d' }) :
 wpAny (model prog w) A.in1 (Builtin.List.listExtendWith (.ref S) (.ref r) res)
  (fun fin s'=>match fin with | .done f=>R (.ok f) s' | .again c'=>c'.quiet=true/\codeAny (model prog w) A c' R s') (fun e s'=>R (.error e) s') s:=by
 have ltS:=qM hS
 unfold Builtin.List.listExtendWith
 refine qb (QrS (T:="set") hok.typeIs ?_)
 have h1:Builtin.List.listSameRef (.ref S) (.ref r)=false:=by simp[Builtin.List.listSameRef,hSr]
 simp only[h1,show(Value.type "set" == Value.type "list")=false by decide,show(Value.type "set" == Value.type "tuple")=false by decide,Bool.or_false,zO,yX]
 refine qb (QgJ hok fun I h1 d' fp vs ss St keep geI ltI hfp hst hpm W st=>?_)
 have hSf:S∉fp:=fun z=>by
  rcases hfp S z with e | e
  .exact hSr e
  .exact yh _ (zm ltS e)
 have hlen:vs.length<=sizeLine:=by rw[UO hst,hpm.length_eq];exact few
 have key:∀(h:Heap)(c₁ tk:Nat),St 0 h->(∀b o,b≠S->s.heap.get? b=some o->h.get? b=some o)->h.get? S=some { cls:=.type "list",data:=.seq #[] c₁ } ->
  codeAny (model prog w) A (.builtin "list.extend.loop" ⟨[.ref S,.ref I,res],[]⟩) R { s with heap:=h,toks:=tk,drawn:=d' }:=by
  intro h c₁ tk hst0 hk hS₁
  refine codeAny_extend_loopS (W A.in1 hh).toS hlen S hSf res vs.length 0 _ #[] c₁ rfl (zK _) hst0 hS₁ (ItemsOf.nil _) fun s' acc' c' hm hS' hacc=>?_
  rw[Moved.eq_with hm]
  refine hR s'.heap s'.toks d' acc' c' ss (fun b o hb e=>hm.heap b o (fun hmem=>?_) (hk b o hb e)) hS' (by rw[QiW hacc];exact hst) hpm
  rcases qG.mp hmem with e' | hmem
  .exact hb e'
  .exact absurd (qM e) (by rw[ql.mp hmem];exact Nat.not_lt.mpr geI)
 have hS₁:=keep _ _ hS
 have hok1:=hok.at (h':=h1) fun o e=>keep _ _ e
 refine qb (jk (Qi4 (s:={ s with heap:=h1,drawn:=d' }) hok1.typeIs ?_))
 refine yN (fun _=>?_) (fun _=>qj ⟨QnG PySem.F.plain_extend_loop _,key _ c₀ _ st (fun b o _ e=>keep _ _ e) hS₁⟩)
 refine qb (QrU ?_)
 refine qb ?_
 show wpAny _ _ (updateSeq S (·.push .none) >>= fun _=>updateSeq S (·.pop)) _ _ _
 refine qb (wpAny_updateSeq hS₁ rfl ?_)
 have hS₂:=jt (Obj.mapSeq (·.push Value.none)) hS₁ rfl
 refine wpAny_updateSeq (hz:=by seq_fits) hS₂ rfl ?_
 have hS₃:=jt (Obj.mapSeq (·.pop)) hS₂ rfl
 refine qj ⟨QnG PySem.F.plain_extend_loop _,key _ _ _ ?_ (fun b o hb e=>?_) hS₃⟩
 .refine(W A.in1 hh).frame 0 _ _ st fun b hb o e=>?_
  have hbS:b≠S:=fun h=>hSf (h▸hb)
  exact(xq _ _ (xH hbS)).trans ((xq _ _ (xH hbS)).trans e)
 .exact(xq _ _ (xH hb)).trans ((xq _ _ (xH hb)).trans (keep _ _ e))
theorem Qdd{r:Addr}{ks:QvX}{R:QvZ->Shared->Prop}(calm:A.handled=none)(ok:YN prog w (!w.params.followText "set-order") r ks s.heap)(few:ks.length<=sizeLine)
 (fin:∀(g:Heap)(k:Nat)(d':Drawn)(got:QvZ)(ss:QvX),(∀b o,s.heap.get? b=some o->g.get? b=some o)->s.heap.objs.size<g.objs.size->StrsAre got ss->ss.Perm ks->R got { s with heap:=g,toks:=k,drawn:=d' }) :
 wpAny (model prog w) A (collect (.ref r)) R E s:=by
 have lr:=ok.lt
 let new:Obj:={ cls:=.type "list",data:=.seq ([]:QvZ).toArray }
 have there:(s.heap.push new).get? s.heap.objs.size=some new:=qH _ rfl
 have still:=ok.at (h':=s.heap.push new) fun o e=>qm (h:=s.heap) new e
 have walked:=Qek (A:=A) (s:={ s with heap:=s.heap.push new })
  (R:=fun q t=>∃(g:Heap)(k:Nat)(d':Drawn)(got:Array Value)(c:Nat)(ss:QvX),q=Except.ok (Flow.ret (.ref s.heap.objs.size))/\t={ s with heap:=g,toks:=k,drawn:=d' }/\(∀b o,s.heap.get? b=some o->g.get? b=some o) /\
    g.get? s.heap.objs.size=some { cls:=.type "list",dict:=none,data:=.seq got c,slots:=#[] }/\StrsAre got.toList ss/\ss.Perm ks)
  calm still s.heap.objs.size (QpK lr) (.ref s.heap.objs.size) 0 there few
  (fun g k d' got c ss keep at' all pm=>⟨g,k,d',got,c,ss,rfl,rfl,fun b o e=>keep b o (qY (qM e)) (qm _ e),at',all,pm⟩)
 have done:∀(g:Heap)(k:Nat)(d':Drawn)(got:Array Value)(c:Nat)(ss:QvX),(∀b o,s.heap.get? b=some o->g.get? b=some o)->g.get? s.heap.objs.size=some { cls:=.type "list",dict:=none,data:=.seq got c,slots:=#[] }->StrsAre got.toList ss->ss.Perm ks ->
  wpAny (model prog w) A (do match (<-load s.heap.objs.size).data with
   | .seq xs _=>pure xs.toList
   | _=>unsupported "internal:collect") R E { s with heap:=g,toks:=k,drawn:=d' }:=fun g k d' got c ss keep at' all pm =>
  qb (wpAny_load at' (qj (fin g k d' got.toList ss keep (qM at') all pm)))
 unfold collect
 apply qb
 apply wpAny_runValue
 apply yg entry_proto_collect'
 rw[yG F.plain_proto_collect _]
 show wpAny _ A.in1 (newList [] >>= fun z=>again (.builtin "list.__iadd__" ⟨[z,.ref r],[]⟩)) _ _ s
 apply qb
 refine zP ?_
 apply qj
 refine⟨QnG Qqc _,?_⟩
 apply yg entry_list_iadd'
 rw[yG Qqc _]
 refine yp walked (fun f t q=>?_) (fun e t q=>?_)
 .cases f with
  | done f =>
    obtain⟨g,k,d',got,c,ss,e,rfl,keep,at',all,pm⟩:=q
    cases e
    exact done g k d' got c ss keep at' all pm
  | again c1 =>
    refine⟨q.1,xn q.2 fun z t2 y=>?_⟩
    obtain⟨g,k,d',got,c,ss,rfl,rfl,keep,at',all,pm⟩:=y
    exact done g k d' got c ss keep at' all pm
 .obtain⟨_,_,_,_,_,_,e',_⟩:=q
  cases e'
end
end L2
namespace L2
open PySem PySem.Spec PyProof.Rows
theorem Inv.drew{X:Cx}{pins:List (Addr×Obj)}{σ:St}{H:Hp}{s:Shared}(I:Inv X pins σ H s)(d:Drawn):Inv X pins σ H { s with drawn:=d } :=
 ⟨I.ok,I.os,I.bare,I.base,I.loc,I.cell,I.free,I.vz,I.pin,I.hok,I.len⟩
def UE(P:Program)(w:World)(a:Addr)(ks:QvX):HO:=.ext fun h=>YN P w (!w.params.followText "set-order") a ks h
theorem QeU{P:Program}{w:World}{a:Addr}{ks:QvX}{H:Hp}{h:Heap}(x:YN P w (!w.params.followText "set-order") a ks h):QY P w H h a (UE P w a ks) :=
 ⟨x,let ⟨o,_,_,_,e,_⟩:=x;⟨o,e⟩,fun _ _ y k=>y.at k⟩
theorem Qjo{X:Cx}(hc:X.calm=true):JD X (.type "set") (fun xs H Q=>∃(p:Addr)(ss:QvX),xs=[.ref p]/\jH X.K H p (ss.map V.str)/\ss.length<=1000/\∀l,H l=none->Q (.ref l) (upd H l (UE X.prog X.w l (ss.foldl Zy [])))):=by
 intro pins s σ H xs us Q I r h
 obtain⟨p,ss,rfl,hS,hl,q⟩:=h
 obtain⟨u,rfl,rx⟩:=YQ r
 cases rx
 obtain⟨its,rv,pl,_⟩:=I.list hS
 have hst:=JE rv
 have hlen:its.length=ss.length:=by have:=rv.length;rw[qi] at this;exact this.symm
 refine Qep (ss:=ss) (I.ok.hd hc) pl.isList (by simpa using hst) (by rw[qZ];show _<4096;omega) fun h' tk a1 a2=>?_
 exact⟨.ref s.heap.objs.size,_,I.laid (t':=tk) (fun b u hb=>a2 b u (qM hb) hb) (qt _) (QeU a1),rfl,q _ (I.hok.fresh (qt _))⟩
theorem UK{X:Cx}(hc:X.calm=true):JD X (.builtin "sorted") (fun xs H Q=>∃p ks,xs=[.ref p]/\H p=some (UE X.prog X.w p ks)/\ks.length<64/\∀l,H l=none->Q (.ref l) (upd H l (.lst ((Q9 ks).map V.str)))):=by
 intro pins s σ H xs us Q I r h
 obtain⟨p,ks,rfl,hp,hl,q⟩:=h
 obtain⟨u,rfl,rx⟩:=YQ r
 cases rx
 obtain⟨hS,_,_⟩:=(show QY X.prog X.w H s.heap p (UE X.prog X.w p ks) from I.hok p _ hp)
 have hh:X.A.in1.handled=none:=I.ok.hd hc
 refine QpL kind_sorted plain_sorted entry_sorted (args_sorted1 _) ?_
 unfold Builtin.«sorted»
 refine qb (m:=checkCount "sorted" 1 1 _) (qj ?_)
 refine qb (Qdd (A:=X.A.in1) hh hS (Zg ((by omega))) fun h' tk d' acc ss hk hgr hst hpm=>?_)
 have hal:acc.length=ss.length:=UO hst
 have hsl:ss.length=ks.length:=hpm.length_eq
 refine qb (wpAny_newList ?_ (by rw[hal];exact Zg ((by omega))))
 have hoL:(h'.push (seqObj "list" acc.toArray 0)).get? h'.objs.size=some (seqObj "list" acc.toArray 0):=qH _ rfl
 refine qb (jk (z6 slot_list_sort ⟨_,hoL,rfl⟩ entry_list_sort (list_sort_treeK strKind_oneLt hoL hst.keysOf (fun v₁ v₂ rest e=>keyKind_strs (by rw[<-e];exact hst)) (by omega) fun st' a1 a2=>⟨_,rfl,?_⟩) (args_list_sort _)))
 refine qj ⟨_,rfl,?_⟩
 obtain⟨ss',b1,b2,b3⟩:=sorted_out_str hst a1 a2
 obtain⟨e,he⟩:=sortedHeap_at (out:=(arrOf st').map (·.2)) hoL
 have es':ss'=Q9 ks:=(V6 b2 (QdB b3)).trans (UP hpm)
 subst es'
 have hsz:s.heap.objs.size<=h'.objs.size:=gb hgr
 have old:∀b u,s.heap.get? b=some u->(sortedHeap (h'.push (seqObj "list" acc.toArray 0)) h'.objs.size acc ((arrOf st').map (·.2))).get? b=some u:=fun b u hb=>by
  have hb':=hk b u hb
  have hlt:=qM hb'
  rw[sortedHeap_old (qY hlt) (by rw[size_push'];exact jY hlt)]
  exact qm _ hb'
 have J:=I.laid (t':=tk) old hsz (show QY X.prog X.w (upd H h'.objs.size (.lst ((Q9 ks).map V.str))) _ _ (.lst ((Q9 ks).map V.str)) from⟨by rw[qi,Yu];exact Zg ((by omega)),((arrOf st').map (·.2)).toList,e,Yc b1,by rw[wR];exact he⟩)
 exact⟨.ref h'.objs.size,_,J.drew d',rfl,q _ (I.hok.fresh hsz)⟩
end L2
namespace L2
open PySem PySem.Spec PyProof.Rows
end L2
namespace L2
open PySem PySem.Spec PyProof.Rows
theorem GH:isSubtype (.type "tuple") (.type "set")=pure false:=by rw[QoV];kernel_rfl
theorem Vu:isSubtype (.type "tuple") (.type "frozenset")=pure false:=by rw[QoV];kernel_rfl
section
variable {prog:Program}{w:World}{A:Around}{E:QvY}{s:Shared}
set_option maxHeartbeats 3200000 in
theorem Qdh{l:Addr}{items:Array Value}{ss:QvX}{Q:QvY}(hh:A.handled=none)(hl:s.heap.IsTuple l items)(hi:StrsAre items.toList ss)(hb:items.size+1<scanBound)
 (h:∀(h':Heap)(tk:Nat),YN prog w (!w.params.followText "set-order") s.heap.objs.size (ss.foldl Zy []) h'->(∀b o,b<s.heap.objs.size->s.heap.get? b=some o->h'.get? b=some o)->Q (.ref s.heap.objs.size) { s with heap:=h',toks:=tk }) :
 wpAny (model prog w) A (call (.type "set") [.ref l]) Q E s:=by
 obtain⟨c,tl,m1⟩:=jx.mro
 have m2:=jx.made
 have m3:=jx.sub
 have m4:=jx.notType
 have m5:=jx.canCreate
 have m6:=F.typeCall_set_1 (.ref l)
 refine QrR (codeAny_of_tree ?_)
 show wpAny _ _ (callAny (.type "set") _) _ _ _
 refine qj ⟨Code.quiet_builtin _ (by decide +kernel),yg F.entry_type_call ?_⟩
 rw[Around.under_plain (weight_type_call_type "set" [.ref l] []) rfl]
 repeat (any_goals (first | assumption | wp_step))
 refine xn (QaK (.ref l) (E:=E) (R:=fun z z1=>z=.ref s.heap.objs.size/\z1={ s with heap:=s.heap.push (Z1 w) }) ⟨rfl,rfl⟩) fun r s₁ hr=>?_
 cases r with
 | error e=>exact hr
 | ok fl =>
   cases fl with
   | ret z =>
     obtain⟨rfl,rfl⟩:=hr
     have z1:(s.heap.push (Z1 w)).get? s.heap.objs.size=some (Z1 w):=qH _ rfl
     have z2:Shared.TypeIs { s with heap:=s.heap.push (Z1 w) } (.ref s.heap.objs.size) "set":=⟨_,z1,rfl⟩
     have z3:=jx.init.lookup
     have z4:=jx.init.bind (.ref s.heap.objs.size)
     repeat (any_goals (first | assumption | wp_step))
     refine xn (QnM (R:=wants (fun r s₂=>r=.none/\∃h' tk,s₂={ s with heap:=h',toks:=tk }/\YN prog w (!w.params.followText "set-order") s.heap.objs.size (ss.foldl Zy []) h' /\
      (∀b o,b<s.heap.objs.size->s.heap.get? b=some o->h'.get? b=some o)) E) jx.init.plain F.entry_set_init (check_set_init_1 z2 ?_)) fun r₂ s₂ hr₂=>?_
     .obtain⟨ol,e1,e2,nl,e3⟩:=hl
      obtain⟨ocls,odict,odata,oslots⟩:=ol
      simp only at e2 e3
      subst e2;subst e3
      have y1:(s.heap.push (Z1 w)).get? l=some { cls:=.type "tuple",dict:=odict,data:=.seq items nl,slots:=oslots }:=qm _ e1
      have y2:=GH
      have y3:=Vu
      have y4:(Value.type "tuple" == Value.type "dict")=false:=by decide
      have y5:(s.heap.push (Z1 w)).IsTuple l items:=⟨_,y1,rfl,nl,rfl⟩
      unfold Builtin.«set.__init__» noKeywords Builtin.Frozenset.updateFrom
      generalize hPI:pyIter=PI
      unfold Z1 at z1 z2 y1 y5 ⊢
      wp_walk
      subst hPI
      refine wpAny_pyIter_tuple y5 ?_
      refine qb (wpAny_runValue ?_)
      have lt:l<s.heap.objs.size:=qM e1
      have q3:A.in1.in1.in1.handled=none:=by simp[hh]
      have ne:l≠(s.heap.push { cls:=.type "set",dict:=none,data:=.set #[] 0 (.fresh 0 0 (!w.params.followText "set-order")) }).objs.size:=by
       rw[yD];exact qY (jY lt)
      have nf:s.heap.objs.size∉[(s.heap.push { cls:=.type "set",dict:=none,data:=.set #[] 0 (.fresh 0 0 (!w.params.followText "set-order")) }).objs.size,l]:=by
       rw[yD]
       intro z
       rcases qG.mp z with z | z
       .omega
       .rw[ql.mp z] at lt
        exact yh _ lt
      have vl:∀(i:Nat)(v:Value),items[i]?=some v->∃t,v=.str ((fun i=>ss.getD i "") i) t:=fun i v e=>Qa8 hi i v (by rw[zM];exact e)
      have es:K6 (fun i=>ss.getD i "") items.size=ss.foldl Zy []:=by
       unfold K6
       rw[<-zf,UO hi,KK]
      refine Ky (led:=!w.params.followText "set-order") ((Walks.tuple q3 _ l ne items).toS) s.heap.objs.size nf (fun i=>ss.getD i "") vl hb (items.size - 0) 0 _ (by omega) (zK _) ⟨⟨_,qH _ rfl,rfl,rfl⟩,y5.push _⟩ ?S0 ?R0
      case S0=>exact(Qld (prog:=prog) (w:=w) (s:=s)).at fun o e=>qm _ e
      case R0 =>
       intro s' hm hS'
       obtain⟨h',g',d',tk',os'⟩:=s'
       have eg:g'=s.gens:=hm.gens
       have ed:d'=s.drawn:=hm.drawn
       have eo:os'=s.os:=hm.os
       subst eg;subst ed;subst eo
       rw[es] at hS'
       refine qj (qj ⟨rfl,h',tk',rfl,hS',fun b o hb e=>?_⟩)
       refine hm.heap b o (fun z=>?_) (qm _ (qm _ e))
       rcases qG.mp z with z | z
       .exact absurd z (qY hb)
       .have z:=ql.mp z
        rw[yD] at z
        exact absurd z (qY (jY hb))
     .cases r₂ with
      | error e=>exact hr₂
      | ok fl₂ =>
        cases fl₂ with
        | ret r =>
          obtain⟨rfl,h',tk,rfl,a1,a2⟩:=hr₂
          repeat (any_goals (first | assumption | wp_step))
          exact h _ _ a1 a2
        | _=>exact hr₂.elim
   | _=>exact hr.elim
end
theorem Qdi{X:Cx}(hc:X.calm=true):JD X (.type "set") (fun xs H Q=>∃(p:Addr)(ss:QvX),xs=[.ref p]/\ye X.K H p (ss.map V.str)/\ss.length<=1000/\∀l,H l=none->Q (.ref l) (upd H l (UE X.prog X.w l (ss.foldl Zy [])))):=by
 intro pins s σ H xs us Q I r h
 obtain⟨p,ss,rfl,hS,hl,q⟩:=h
 obtain⟨u,rfl,rx⟩:=YQ r
 cases rx
 obtain⟨its,rv,pl,_⟩:=I.tuple hS
 have hst:=JE rv
 have hlen:its.length=ss.length:=by have:=rv.length;rw[qi] at this;exact this.symm
 refine Qdh (ss:=ss) (I.ok.hd hc) pl (by simpa using hst) (by rw[qZ];show _<4096;omega) fun h' tk a1 a2=>?_
 exact⟨.ref s.heap.objs.size,_,I.laid (t':=tk) (fun b u hb=>a2 b u (qM hb) hb) (qt _) (QeU a1),rfl,q _ (I.hok.fresh (qt _))⟩
end L2
namespace L2
open PySem PySem.Spec PyProof.Rows
def dd(ss:QvX):QvX:=ss.foldl Zy []
theorem QfH:∀(ss acc:QvX){x:Str},x∈ss.foldl Zy acc↔x∈acc\/x∈ss
 | [],acc,x=>by simp
 | y :: ss,acc,x=>by
   rw[jl,QfH ss (Zy acc y),Qbw,qG,or_assoc]
theorem Qjl:∀(ss acc:QvX),acc.Nodup->(ss.foldl Zy acc).Nodup
 | [],_,h=>h
 | y :: ss,acc,h=>Qjl ss (Zy acc y) (Qes h)
theorem K9{ss:QvX}{x:Str}:x∈dd ss↔x∈ss:=by unfold dd;rw[QfH];simp
theorem QfJ(ss:QvX):(dd ss).Nodup:=Qjl ss [] zV
theorem QfI:∀(ss acc:QvX),(ss.foldl Zy acc).length<=acc.length+ss.length
 | [],acc=>by simp
 | y :: ss,acc=>by
   have ih:=QfI ss (Zy acc y)
   have:(Zy acc y).length<=acc.length+1:=by unfold Zy;split <;> simp
   rw[jl,za]
   omega
theorem Qeo(ss:QvX):(dd ss).length<=ss.length:=by have:=QfI ss [];simpa[dd] using this
def SS(ss:QvX):QvX:=Q9 (dd ss)
theorem Qbx{ss:QvX}{x:Str}:x∈SS ss↔x∈ss:=WJ.trans K9
theorem QmB(ss:QvX):(SS ss).length<=ss.length:=by unfold SS;rw[Yu];exact Qeo ss
theorem Qdq{a b:QvX}(h:∀x,x∈a↔x∈b):SS a=SS b:=UP ((List.perm_ext_iff_of_nodup (QfJ a) (QfJ b)).mpr fun x=>K9.trans ((h x).trans K9.symm))
theorem Qli(ss:QvX):(SS ss).Nodup:=(JG _).nodup_iff.mpr (QfJ ss)
theorem SS_of{l:QvX}(hn:l.Nodup):SS l=Q9 l:=UP ((List.perm_ext_iff_of_nodup (QfJ l) hn).mpr fun x=>K9)
theorem QkW(l:QvX):SS (SS l)=SS l:=Qdq fun _=>Qbx
theorem XE{X:Cx}(hc:X.calm=true):JD X (.type "set") (fun xs H Q=>∃(p:Addr)(ss:QvX),xs=[.ref p]/\(jH X.K H p (ss.map V.str)\/ye X.K H p (ss.map V.str))/\ss.length<=1000/\∀l,H l=none->Q (.ref l) (upd H l (UE X.prog X.w l (dd ss)))):=by
 intro pins s σ H xs us Q I r h
 obtain⟨p,ss,e,hS | hS,hl,q⟩:=h
 .exact Qjo hc pins s σ H xs us Q I r ⟨p,ss,e,hS,hl,q⟩
 .exact Qdi hc pins s σ H xs us Q I r ⟨p,ss,e,hS,hl,q⟩
end L2
namespace L2
open PySem PySem.Spec PyProof.Rows
end L2
namespace L2
open PySem PySem.Spec PyProof.Rows
theorem Qdb{K:Frag}{a:Addr}{α:Type}{xs:List α}{fr:List (Nat×Str)}{tt:TT}{te:TE}{σ:St}{H1:Hp}{Q:VK}(g:α->V)(pr:α->Bool)(f:α->V)(hz:xs.length<=sizeLine)(hS:jH K H1 a (xs.map g))
 (htt:∀(x:α)(H3:Hp)(Q':Bool->Hp->Prop),x∈xs->Qo H1 H3->(∀H4,Qo H3 H4->Q' (pr x) H4)->tt (some (g x) :: frV σ fr) H3 Q')
 (hte:∀(x:α)(H3:Hp)(Q':VK),x∈xs->Qo H1 H3->pr x=true->(∀H4,Qo H3 H4->Q' (f x) H4)->te (some (g x) :: frV σ fr) H3 Q')
 (hQ:∀D H2,H1 D=none->Qo H1 H2->H2 D=some (.lst ((xs.filter pr).map f))->Q (.ref D) H2) :
 ZU (Itl K a) fr tt te σ H1 Q:=by
 intro D hD
 refine⟨fun i m ys H2=>m=xs.length - i/\i<=xs.length/\ys=((xs.take i).filter pr).map f/\Qo H1 H2/\H2 D=some (.lst ys),⟨xs.length,by simp,zK _,by simp,Qo.z7 hD,Qc⟩,?_⟩
 rintro i m ys H2 ⟨rfl,hi,rfl,s2,d2⟩
 refine⟨d2,?_⟩
 have hS2:=s2.seq hS
 by_cases hlt:i<xs.length
 .have hx0:(xs.map g)[i]?=some (g xs[i]):=by rw[q8,qz hlt];rfl
  refine .inr ⟨⟨xs.map g,g xs[i],hS2,hx0⟩,?_⟩
  rintro v H3 ⟨rfl,hv⟩
  have hx:(xs.map g)[i]?=some v:=hv _ hS2
  rw[hx0] at hx
  cases hx
  have hm:xs[i]∈xs:=jT hlt
  have et:xs.take (i+1)=xs.take i++[xs[i]]:=by rw[jX,qz hlt];rfl
  refine htt xs[i] _ _ hm s2 fun H4 s4=>?_
  cases hp:pr xs[i] with
  | false =>
    refine Q4 ⟨xs.length - (i+1),by omega,rfl,hlt,?_,s2.trans s4,s4 _ _ d2⟩
    rw[et,zE,qX,hp]
    simp
  | true =>
    refine Zi (hte xs[i] _ _ hm (s2.trans s4) hp fun H5 s5=>⟨s5 _ _ (s4 _ _ d2),?_,xs.length - (i+1),by omega,rfl,hlt,?_,((s2.trans s4).trans s5).uR hD,Qc⟩)
    .have:=q9 pr (xs.take i)
     rw[zN] at this
     rw[qi]
     omega
    .rw[et,zE,qX,hp]
     simp
 .have e:i=xs.length:=by omega
  subst e
  have e2:xs.take xs.length=xs:=zH (qt _)
  rw[e2] at d2
  exact .inl ⟨⟨xs.map g,hS2,by rw[qi];exact qt _⟩,hQ D H2 hD s2 d2⟩
end L2
namespace L2
open PySem PySem.Spec PyProof.Rows
theorem QY.there{P:Program}{w:World}{H:Hp}{h:Heap}{a:Addr}{o:HO}(x:QY P w H h a o):∃ob,h.get? a=some ob:=by
 cases o with
 | lst xs=>obtain⟨_,_,_,_,e⟩:=x;exact⟨_,e⟩
 | tup xs=>obtain⟨_,_,_,ob,e,_⟩:=x;exact⟨_,e⟩
 | dK kvs=>obtain⟨_,_,_,_,o,_,_,e,_⟩:=x;exact⟨_,e⟩
 | dT kvs=>obtain⟨_,_,_,_,o,_,_,e,_⟩:=x;exact⟨_,e⟩
 | set S n=>obtain⟨o,_,_,_,e,_⟩:=x;exact⟨_,e⟩
 | ins C dx fs=>obtain⟨_,_,_,e,_⟩:=x;exact⟨_,e⟩
 | own y=>exact x
 | xd fs=>obtain⟨_,⟨_,_,_,e,_⟩,_⟩:=x;exact⟨_,e⟩
 | rng lo hi=>obtain⟨_,_,_,e⟩:=x;exact⟨_,e⟩
 | uH ob u=>obtain⟨e,_⟩:=x;exact⟨_,e⟩
 | tbl ps=>exact⟨_,(show h.get? a=some _ from x)⟩
 | met f y=>exact⟨_,(show h.get? a=some _ from x)⟩
 | ext φ=>obtain⟨_,e,_⟩:=x;exact e
def Cov(fs:List Addr)(H:Hp)(h B:Heap):Prop:=∀b o,h.get? b=some o->b∉fs->∃o',B.get? b=some o'/\(H b=none->o'=o)
def Trk(H:Hp)(h B:Heap):Prop:=∀b o,H b≠none->h.get? b=some o->B.get? b=some o
theorem Un.flown{fs:List Addr}{H H':Hp}{h h1 h2 B:Heap}(u:Un fs [] H H' h h1)(cv:Cov fs H h B)(st:B.StaysIn h2)(sl:h1.UpToSlots h2)(fr:∀b∈fs,∀o,h1.get? b=some o->∀vs,o.data≠.fields vs):Un fs [] H H' h h2 where
 keep:=fun b o q n hb _=>by
  obtain⟨o',e,z⟩:=cv b o q hb
  rw[z n] at e
  exact st _ _ e
 slot:=fun b o q n hb hx=>by
  obtain⟨s0,e⟩:=u.slot b o q n hb hx
  obtain⟨s1,e1⟩:=sl b _ e (fr b hb _ e)
  exact⟨s1,e1⟩
 free:=u.free
 there:=fun b o q hx=>by
  by_cases hb:b∈fs
  .obtain⟨o1,e1⟩:=u.there b o q hx
   obtain⟨_,e2⟩:=sl b o1 e1 (fr b hb o1 e1)
   exact⟨_,e2⟩
  .obtain⟨o',e,_⟩:=cv b o q hb
   exact⟨o',st _ _ e⟩
 tups:=u.tups
 Qnp:=u.Qnp
 Qn6:=u.Qn6
theorem HOk.flown{P:Program}{w:World}{H:Hp}{h1 h2 B:Heap}(x:HOk P w H h1)(ct:Trk H h1 B)(st:B.StaysIn h2):HOk P w H h2:=fun a o e =>
 (x a o e).stay (fun b u hb q=>st b u (ct b u (fun z=>by
   rcases hb with rfl | hb
   .rw[z] at e;cases e
   .rw[z] at hb;cases hb) q)) (fun _ q=>q) fun _ _ q=>q
theorem Trk.flown{P:Program}{w:World}{H:Hp}{h1 h2 B:Heap}(x:HOk P w H h1)(ct:Trk H h1 B)(st:B.StaysIn h2):Trk H h2 B:=fun b o n q=>by
 cases e:H b with
 | none=>exact absurd e n
 | some u =>
   obtain⟨ob,eb⟩:=(x b u e).there
   have e1:=ct b ob n eb
   have e2:=st _ _ e1
   rw[q] at e2
   cases e2
   exact e1
structure Fly(P:Program)(w:World)(l:List Env)(H:Hp)(s:Shared)(e C:Addr)(H':Hp)(s':Shared):Prop where
 os:s'.os=s.os
 bare:AllBare s'.gens
 un:Un (frs l) [] H H' s.heap s'.heap
 hok:HOk P w H' s'.heap
 fr:H' e=none
 nw:s.heap.get? e=none
 fly:∃(B:Heap)(a0:Value),Heap.FlyingW B l e (.ref C) a0 s'.heap/\Cov (frs l) H s.heap B/\Trk H' s'.heap B
def CXF(P:Program)(w:World):CXT:=fun l H s E ev s'=>∃(e C:Addr)(H':Hp),ev=.ref e/\Fly P w l H s e C H' s'/\E (.ref C) none H'
section
variable {X:Cx}{pins:List (Addr×Obj)}{σ:St}{Hc H':Hp}{sc:Shared}
theorem Qfz{s1:Shared}{h2 B:Heap}{e C:Addr}{a0:Value}(I:Inv X pins σ Hc sc)(hex:X.ex=[])(un:Un (frs X.stack) [] Hc H' sc.heap s1.heap)(os:s1.os=sc.os)(bare:AllBare s1.gens)(hok:HOk X.prog X.w H' s1.heap)
 (he:H' e=none) (nw:sc.heap.get? e=none) (fl:Heap.FlyingW B X.outer e (.ref C) a0 h2) (cv:Cov (frs X.stack) Hc sc.heap B) (ct:Trk H' s1.heap B) (sl:s1.heap.UpToSlots h2) (nf:∀b∈frs X.stack,∀o,s1.heap.get? b=some o->∀vs,o.data≠.fields vs) :
 Fly X.prog X.w X.outer X.H₀ X.s₀ e C H' { s1 with heap:=h2 }:=by
 have un2:=un.flown cv fl.1 sl nf
 have hok2:=hok.flown ct fl.1
 have J:Inv X pins σ H' { s1 with heap:=h2 }:=I.call' (s':={ s1 with heap:=h2 }) (ch:=[]) os un2 hok2 bare (fun b z=>nomatch z)
 have base:=J.base
 rw[hex] at base
 have base0:=I.base
 rw[hex] at base0
 refine⟨J.os,J.bare,base,J.hok,he,?_,B,a0,fl,fun b o e hb=>?_,ct.flown hok fl.1⟩
 .cases q:X.s₀.heap.get? e with
  | none=>rfl
  | some o =>
    obtain⟨o',e'⟩:=base0.there e o q (fun z=>nomatch z)
    rw[nw] at e'
    cases e'
 .obtain⟨o1,e1⟩:=base0.there b o e (fun z=>nomatch z)
  have nb:b∉frs X.stack:=fun z=>(qG.mp (I.Qqv b z)).elim (fun z=>absurd (zm (qM e) I.ok.above) (by rw[z];exact yh _)) hb
  obtain⟨o',e2,z⟩:=cv b o1 e1 nb
  refine⟨o',e2,fun n=>?_⟩
  have:=base0.keep b o e n hb (fun z=>nomatch z)
  rw[e1] at this
  cases this
  exact z (base0.free b o e n (fun z=>nomatch z))
end
section
variable {P:Program}{w:World}{K:Frag}{mg:Str->Option Value}{base:Heap}{N:QvX}{qual:Str}{scope:Scope}{f:Addr}{cd:Value}{A:Around}{outer:List Env}{s:Shared}{H:Hp}{E:XK}
theorem Qlb:UF (CXF P w) (Yo (CXF P w) P w K mg base N qual scope f cd A outer s H E) E:=by
 intro pins σ Hc sc ev s1 I h
 obtain⟨e,C,H',rfl,F,q⟩:=h
 obtain⟨B,a0,fl,cv,ct⟩:=F.fly
 refine wpAny_leaves_onW (base:=B) I.ok.frames rfl fl fun h2 fl2 sl=>?_
 have nf:∀b∈frs (Yo (CXF P w) P w K mg base N qual scope f cd A outer s H E).stack,∀o,s1.heap.get? b=some o->∀vs,o.data≠.fields vs:=fun b hb o e=>by
  obtain⟨_,o1,e1,d⟩:=fl.2.2.1.mem hb
  rw[e] at e1
  cases e1
  exact d
 exact⟨e,C,H',rfl,Qfz I rfl F.un F.os F.bare F.hok F.fr F.nw fl2 cv ct sl nf,q⟩
theorem Qja{pins:List (Addr×Obj)}{σ:St}{H1:Hp}{s2:Shared}{e C:Addr}{h':Heap}{vs:QvZ}(I:Inv (Yo (CXF P w) P w K mg base N qual scope f cd A outer s H E) pins σ H1 s2)(hx:Heap.MadeExcOf s2.heap h' e (.ref C) vs)(q:E (.ref C) none H1) :
 (Yo (CXF P w) P w K mg base N qual scope f cd A outer s H E).xe (.ref e) { s2 with heap:=h' }:=by
 have hB:(hideAll s2.heap (frs (Yo (CXF P w) P w K mg base N qual scope f cd A outer s H E).stack)).StaysIn s2.heap:=fun b o q=>of_hideAll _ q
 refine wpAny_leaves_madeW (h:=s2.heap) I.ok.frames rfl hB (PySem.W.funFrames_hide I.stack fun env he b hb=>QnJ.mpr ⟨env,he,hb⟩) hx fun h2 t fl tup tn sl=>?_
 have un:Un (frs (Yo (CXF P w) P w K mg base N qual scope f cd A outer s H E).stack) [] H1 H1 s2.heap h':=Un.kept hx.keeps
 have he:H1 e=none:=by
  cases z:H1 e with
  | none=>rfl
  | some o =>
    obtain⟨ob,eb⟩:=(I.hok e o z).there
    rw[hx.new] at eb
    cases eb
 refine⟨e,C,H1,rfl,Qfz (s1:={ s2 with heap:=h' }) I rfl un rfl I.bare (I.hok.kept hx.keeps) he hx.new fl (fun b o e hb=>⟨o,hideAll_get _ e hb,fun _=>rfl⟩) (fun b o n e=>?_) sl (fun b hb o e=>?_),q⟩
 .cases z:H1 b with
  | none=>exact absurd z n
  | some u =>
    obtain⟨ob,eb⟩:=(I.hok b u z).there
    have e1:=hx.keeps _ _ eb
    have e2:h'.get? b=some o:=e
    rw[e2] at e1
    cases e1
    exact hideAll_get _ eb fun hb=>n (I.Qqw b hb)
 .obtain⟨_,o1,e1,d⟩:=I.stack.mem hb
  have e2:h'.get? b=some o:=e
  rw[hx.keeps _ _ e1] at e2
  cases e2
  exact d
end
abbrev Qfj:QvZ:=[.type "ValueError",.type "Exception",.type "BaseException",.type "object"]
structure Xcl(K:Frag)(C:Addr):Prop where
 q:excIn K C Qfj "ValueError.__new__"=true
inductive XObj(h:Heap)(C:Addr):Prop
 | mk:∀bm N nm q bs hdct sn sub ab col dd k0 k1 k2 k3 k5 mN,h.get? C=some (excClassObj nm q C N bs bm hdct sn sub ab col dd k0 k1 k2 k3 k5 "ValueError.__new__")->h.Ns N mN->mN "__init__"=none->OwnTail h Qfj bm->XObj h C
theorem Xcl.obj{K:Frag}{h:Heap}{C:Addr}(x:Xcl K C)(X:K.In h):XObj h C:=by
 have q:=x.q
 unfold excIn at q
 split at q
 .rename_i dd cd sl ho
  split at q
  .rename_i C' bm k0 k1 k2 k3 n k5 hm hs
   rw[zQ,zQ,zQ,zQ,zQ] at q
   obtain⟨⟨⟨⟨⟨q1,q2⟩,q3⟩,q4⟩,q5⟩,q6⟩:=q
   have q1:=vD.mp q1
   have q2:=vD.mp q2
   rw[uA] at q3
   obtain⟨a1,a2,a3,a4,a5,a6,a7,a8,a9,a10,a11⟩:=cd
   obtain⟨ls⟩:=sl
   dsimp only at hm q3 q5 q6 hs
   have q6:=vD.mp q6
   subst hm q3 hs q1 q2
   exact⟨bm,a4,a1,a5,a2,a6,a7,a8,a9,a10,dd,k0,k1,k2,k3,k5,_,X _ _ ho,.of_isNs (PySem.W.isNs_of_in X q5),PySem.W.nsMap_none_of_in X q5 q6,PySem.W.tail_of_in X q4⟩
  .cases q
 .cases q
def Qls(C:Addr)(E:XK)(ta:TA):TS:=fun _ σ H=>ta σ H fun vs H1=>vs.length<=sizeLine/\E (.ref C) none H1
section
variable {P:Program}{w:World}{K:Frag}{mg:Str->Option Value}{base:Heap}{N:QvX}{qual:Str}{scope:Scope}{f:Addr}{cd:Value}{A:Around}{outer:List Env}{s:Shared}{H:Hp}{E:XK}
theorem QhZ{x:Str}{C:Addr}{e₀:Expr}{rest:List Expr}{ta:TA}{np cpos pos:Pos}(c:Xcl K C)(hm:mg x=some (.ref C))(hh:A.handled=none)
 (hg:Gl (Yo (CXF P w) P w K mg base N qual scope f cd A outer s H E) x) (ha:PA (Yo (CXF P w) P w K mg base N qual scope f cd A outer s H E) (e₀ :: rest) ta)
 (hdb:(x == ("__debug__":Str))=false:=by decide)
 (he:starEach (e₀ :: rest) (Yo (CXF P w) P w K mg base N qual scope f cd A outer s H E).env=(false,eval e₀ (Yo (CXF P w) P w K mg base N qual scope f cd A outer s H E).env) :: starEach rest (Yo (CXF P w) P w K mg base N qual scope f cd A outer s H E).env:=by rfl)
 (hpl:(backTo cpos (starEach rest (Yo (CXF P w) P w K mg base N qual scope f cd A outer s H E).env)).any (·.1)=false:=by rfl) :
 PS (Yo (CXF P w) P w K mg base N qual scope f cd A outer s H E) (.Raise (some (.Call (.Name x np) (e₀ :: rest) [] cpos)) none pos) (Qls C E ta):=by
 intro pins s0 σ H0 D I h
 obtain⟨tl,N1,nm,q,bs,hdct,sn,sub,ab,col,dd,k0,k1,k2,k3,k5,mN,hC,hN,hni,T⟩:=c.obj I.ok.mod.kin
 refine wpAny_Raise_call_subT (C:=C) (nm:=nm) (q:=q) (N:=N1) (bs:=bs) (bm:=tl) (hdct:=hdct) (sn:=sn) (sub:=sub) (ab:=ab) (col:=col) (dd:=dd) (k0:=k0) (k1:=k1) (k2:=k2) (k3:=k3) (k5:=k5)
  excBase_ValueError (mN:=mN) (T.hasType excBase_ValueError.hasBase) hh ?_ hni (Vq I hg hm ⟨rfl,?_⟩ hdb)
 .rw[he]
  show(false || (backTo cpos (starEach rest (Yo (CXF P w) P w K mg base N qual scope f cd A outer s H E).env)).any (·.1))=false
  rw[hpl]
  rfl
 .have h1:=ha cpos pins s0 σ H0 _ I h
  rw[he] at h1 ⊢
  refine kW (jO h1 fun us s2 z=>?_)
  obtain⟨vs,H1,I2,r,z1,z2⟩:=z
  exact⟨rfl,by rw[<-r.length];exact z1,I2.bk _ _ hC,hN.keeps I2.bk,T.keeps I2.bk,fun h' e hx=>Qja I2 hx z2⟩
theorem jn.okX{x:Str}{st:Stmt}{fd:FuncData}{ps:QvX}{k:Nat}{sp:Sp}(F:jn K x qual st f fd)(S:Qm N ps (Qh st))(len:∀vs H Q E,sp vs H Q E->vs.length=ps.length)
 (hbody:∀(cdv:Value)(A:Around)(outer:List Env)(s:Shared)(H:Hp)(vs:List V)(Q:VK)(E:XK),QB k (A.deeper (envOfC qual (Qh st) s.heap.objs.size f cdv))->sp vs H Q E ->
   ∃t,PSs (Yo (CXF P w) P w K mg base N qual (Qh st) f cdv A outer s H E) (Zl st) t/\t { nx:=fun _ H'=>Q .non H',rt:=Q } (start N vs) H):QO P w K mg base (CXF P w) (k+1) f fd ps sp:=by
 obtain⟨oc,od,kV,doc,pm,an,cdv,ct,osl,rfl,lk,hcd⟩:=F.ex
 exact Qi9 lk hcd S len fun A outer s H vs Q E hr hsp=>hbody cdv A outer s H vs Q E hr hsp
end
def X4(CX:CXT)(X:Cx)(R:St->XK):Prop:=∀(pins:List (Addr×Obj))(σ:St)(H:Hp)(s:Shared)(e:Value)(s':Shared),Inv X pins σ H s->CX X.stack H s (R σ) e s'->X.xe e s'
def QlA(sp:Sp)(ug:List V)(R:St->XK)(t:TA):TE:=fun σ H Q=>t σ H fun vs H1=>sp (vs++ug) H1 Q (R σ)
inductive QbU(C:Addr)(m:Str)(sp:Sp)(ug:List V)(R:St->XK)(t:TA)(σ:St)(Q:VK)(x:V)(H1:Hp):Prop
 | mk:∀a dx fs,x=.ref a->H1 a=some (.ins C dx fs)->fs.lookup m=none->(t σ H1 fun vs H2=>sp (x :: (vs++ug)) H2 Q (R σ))->QbU C m sp ug R t σ Q x H1
def Qlt(C:Addr)(m:Str)(sp:Sp)(ug:List V)(R:St->XK)(ta:TE)(t:TA):TE:=fun σ H Q=>ta σ H fun x H1=>QbU C m sp ug R t σ Q x H1
section
variable {X:Cx}{CX:CXT}{k:Nat}{f C:Addr}{fd:FuncData}{ps:QvX}{sp:Sp}{ug:List V}{ds:QvZ}{R:St->XK}{x m:Str}{p pos apos:Pos}{e o:Expr}{es:List Expr}{ta:TE}{t:TA}
theorem QeY{pins:List (Addr×Obj)}{σ:St}{H:Hp}{s:Shared}{Q:VK}{us:QvZ}{vs:List V}(F:QO X.prog X.w X.K X.mg X.base CX k f fd ps sp)(hr:QB k X.A)(hb:Qq X.K fd ps ds)(hd:QF ug ds)(hx:X4 CX X R)
 (I:Inv X pins σ H s) (r:QF vs us) (h:sp (vs++ug) H Q (R σ)):wpAny (model X.prog X.w) X.A (call (.ref f) us) (EP X pins σ Q) X.xe s:=by
 have r2:QF (vs++ug) (us++ds):=r.append hd
 have hl:(us++ds).length=ps.length:=by rw[<-r2.length];exact F.len _ _ _ _ h
 refine QrR (xn (F.run X.A X.stack s H ⟨us,[]⟩ (us++ds) (vs++ug) Q (R σ) hr I.env0 (hb s us I.kIn hl) r2 h) fun r s' hq=>?_)
 cases r with
 | error e=>exact hx pins σ H s e s' I hq
 | ok fl=>cases fl with
   | ret u=>exact I.after hq
   | _=>exact False.elim hq
theorem Qcv(F:QO X.prog X.w X.K X.mg X.base CX k f fd ps sp)(hr:QB k X.A)(hg:Gl X x)(hm:X.mg x=some (.ref f))(hk:keepIn X.K (.ref f)=true)(hb:Qq X.K fd ps ds)(hd:QF ug ds)(hx:X4 CX X R)
 (ha:PA X (e :: es) t) (hdb:(x == ("__debug__":Str))=false:=by decide) (he:starEach (e :: es) X.env=(false,eval e X.env) :: starEach es X.env:=by rfl) (hpl:(backTo pos (starEach es X.env)).any (·.1)=false:=by rfl) :
 PE X (.Call (.Name x p) (e :: es) [] pos) (QlA sp ug R t):=by
 intro pins s σ H Q I h
 refine wk (Vq I hg hm (callWith_K (h₀:=X.base) I.ok.mod.kin hk (jO (ha pos pins s σ H _ I h) fun us s1 ⟨vs,H1,I1,r,q⟩=>⟨I1.kIn,QeY F hr hb hd hx I1 r q⟩) he hpl) hdb)
theorem Qct{pl:Sem Bool}(he:PE X o ta)(c:Cls X.K C)(hm:Ji X.K C m f)(F:QO X.prog X.w X.K X.mg X.base CX k f fd ps sp)(hr:QB k X.A)(hb:Qq X.K fd ps ds)(hd:QF ug ds)(hx:X4 CX X R)(ha:PA X (e :: es) t)
 (hst:starEach (e :: es) X.env=(false,eval e X.env) :: starEach es X.env:=by rfl) (hpl:(backTo pos (starEach es X.env)).any (·.1)=false:=by rfl)
 (ht:eval (.Call (.Attribute o m apos) (e :: es) [] pos) X.env=(do
   let ov <-eval o X.env
   standAt apos.atName
   let (f,first) <-holding [ov] (getMethod ov m pl)
   callWith pos f first (backTo pos (starEach (e :: es) X.env)) (backToKw pos (keywordEach [] X.env))):=by rfl) :
 PE X (.Call (.Attribute o m apos) (e :: es) [] pos) (Qlt C m sp ug R ta t):=by
 intro pins s σ H Q I h
 refine methodCall_KW (pl:=pl) (jO (he pins s σ H _ I h) fun u s1 ⟨x,H1,I1,rx,a,dx,fs,ex,ea,l,q⟩=>?_) ht
 subst ex
 obtain rfl:u=Value.ref a:=rx
 refine VW I1 ea c hm l ?_
 refine callWith_K (first:=[.ref a]) (h₀:=X.base) I.ok.mod.kin hm.kp (jO (ha pos pins s1 σ H1 _ I1 q) fun us s2 ⟨vs,H2,I2,r,q2⟩=>⟨I2.kIn,?_⟩) hst hpl
 exact QeY (us:=.ref a :: us) (vs:=.ref a :: vs) F hr hb hd hx I2 (.cons rfl r) q2
end
def mroIn(K:Frag)(C D:Addr):Bool:=match K.lookup C with
 | some ⟨_,_,.cls cd,_⟩=>cd.mro.contains (.ref D)
 | _=>false
structure Sub(K:Frag)(C D:Addr):Prop where
 c:Xcl K C
 s:mroIn K C D=true
theorem Sub.has{K:Frag}{h:Heap}{C D N:Addr}(x:Sub K C D)(X:K.In h){nm q:Str}{bs bm:QvZ}{hdct:Bool}{sn:QvX}{sub:QvZ}{ab:Bool}{col:Option Bool}{dd:Option Addr}{k0 k1 k2 k3 k5:Option Value}{newId:String}
 (hC:h.get? C=some (excClassObj nm q C N bs bm hdct sn sub ab col dd k0 k1 k2 k3 k5 newId)):(Value.ref C :: bm).contains (.ref D)=true:=by
 have s:=x.s
 unfold mroIn at s
 split at s
 .rename_i ho
  have e:=X _ _ ho
  rw[hC] at e
  cases e
  exact s
 .cases s
theorem QcP{M:Model}{A:Around}{E:QvY}{h:Heap}{g:Array GenState}{d:Drawn}{t:Nat}{os:OsState}{e C D N N':Addr}{oe:Obj}{Q:Bool->Shared->Prop}
 {nm q nm' q':Str} {bs bm bs' bm':QvZ} {hdct QuN:Bool} {sn sn':QvX} {sub sub':QvZ} {ab ab':Bool} {col col':Option Bool} {dd dd':Option Addr} {k0 k1 k2 k3 k5 l0 l1 l2 l3 l5:Option Value} {newId newId':String}
 (hC:h.get? C=some (excClassObj nm q C N bs bm hdct sn sub ab col dd k0 k1 k2 k3 k5 newId)) (hD:h.get? D=some (excClassObj nm' q' D N' bs' bm' QuN sn' sub' ab' col' dd' l0 l1 l2 l3 l5 newId')) (he:h.get? e=some oe) (hcls:oe.cls=.ref C)
 (hbase:bm'.contains (.type "BaseException")=true) (hsub:(Value.ref C :: bm).contains (.ref D)=true) (hq:Q true ⟨h,g,d,t,os⟩):wpAny M A (excMatches (.ref e) (.ref D)) Q E ⟨h,g,d,t,os⟩:=by
 have hB:(Value.ref D :: bm').contains (.type "BaseException")=true:=by rw[List.contains_cons,hbase,Bool.or_true]
 have f:=tc_notTuple
 unfold excMatches
 repeat (first | (with_reducible refine wpAny_loadPart_at he ?_;rw[hcls]) | (with_reducible refine wpAny_loadPart_at hD ?_) | (with_reducible refine wpAny_isSubtype_exc hD ?_;rw[hB]) | (with_reducible refine wpAny_isSubtype_exc hC ?_;rw[hsub]) | wp_step)
 exact hq
def QbS(X:Cx)(pn:List (Addr×Obj))(R:St->XK):Cx:={ X with pn:=X.pn++pn,xe:=fun ev s'=>∃(σ:St)(Hc:Hp)(sc:Shared)(e C:Addr)(H':Hp),ev=.ref e/\Inv X pn σ Hc sc/\Fly X.prog X.w X.stack Hc sc e C H' s'/\R σ (.ref C) none H' }
def hnd(X:Cx)(ev:Value):Cx:={ X with A:=X.A.mark (some ev),calm:=false,xe:=fun _ _=>False }
section
variable {X:Cx}{pins QoB:List (Addr×Obj)}{σ:St}{H:Hp}{s:Shared}{R:St->XK}
theorem Inv.intry(I:Inv X pins σ H s):Inv (QbS X pins R) [] σ H s :=
 ⟨⟨I.ok.mod,I.ok.kind,I.ok.glob,I.ok.blt,I.ok.above,I.ok.inj,I.ok.has,I.ok.cab,I.ok.hd,I.ok.frames,I.ok.stk,I.ok.exf,I.ok.bs,I.ok.bsz,I.ok.Qrg,I.ok.Qrv,I.ok.Qno,I.ok.frf⟩,I.os,I.bare,I.base,I.loc,I.cell,I.free,I.vz,fun p hp=>I.pin p (by
   rw[je] at hp
   exact hp),I.hok,I.len⟩
theorem Inv.Qo0(I:Inv (QbS X pins R) QoB σ H s):Inv X pins σ H s :=
 ⟨⟨I.ok.mod,I.ok.kind,I.ok.glob,I.ok.blt,I.ok.above,I.ok.inj,I.ok.has,I.ok.cab,I.ok.hd,I.ok.frames,I.ok.stk,I.ok.exf,I.ok.bs,I.ok.bsz,I.ok.Qrg,I.ok.Qrv,I.ok.Qno,I.ok.frf⟩,I.os,I.bare,I.base,I.loc,I.cell,I.free,I.vz,fun p hp=>I.pin p (qN _ hp),I.hok,I.len⟩
theorem Inv.inhnd(I:Inv X pins σ H s)(ev:Value):Inv (hnd X ev) pins σ H s :=
 ⟨⟨I.ok.mod,I.ok.kind,I.ok.glob,I.ok.blt,I.ok.above,I.ok.inj,I.ok.has,I.ok.cab,(fun z=>nomatch z),I.ok.frames,I.ok.stk,I.ok.exf,I.ok.bs,I.ok.bsz,I.ok.Qrg,I.ok.Qrv,I.ok.Qno,I.ok.frf⟩,I.os,I.bare,I.base,I.loc,I.cell,I.free,I.vz,I.pin,I.hok,I.len⟩
theorem Inv.Qqz{ev:Value}(ok:X.Ok)(I:Inv (hnd X ev) pins σ H s):Inv X pins σ H s :=
 ⟨ok,I.os,I.bare,I.base,I.loc,I.cell,I.free,I.vz,I.pin,I.hok,I.len⟩
theorem SP.Qo0{D:Y7}{f:Flow}(h:SP (QbS X pins R) QoB D f s):SP X pins D f s:=by
 cases f with
 | ret u=>obtain⟨v,σ',H',I,r,q⟩:=h;exact⟨v,σ',H',I.Qo0,r,q⟩
 | _=>obtain⟨σ',H',I,q⟩:=h;exact⟨σ',H',I.Qo0,q⟩
theorem SP.Qqz{ev:Value}{D:Y7}{f:Flow}(ok:X.Ok)(h:SP (hnd X ev) pins D f s):SP X pins D f s:=by
 cases f with
 | ret u=>obtain⟨v,σ',H',I,r,q⟩:=h;exact⟨v,σ',H',I.Qqz ok,r,q⟩
 | _=>obtain⟨σ',H',I,q⟩:=h;exact⟨σ',H',I.Qqz ok,q⟩
theorem Qla{pn:List (Addr×Obj)}:X4 (CXF X.prog X.w) (QbS X pn R) R:=by
 intro pins σ H s ev s' I h
 obtain⟨e,C,H',rfl,F,q⟩:=h
 exact⟨σ,H,s,e,C,H',rfl,I.Qo0,F,q⟩
theorem Fly.inv{e C:Addr}{H':Hp}{s1:Shared}{B h2:Heap}{l:List Env}{a0:Value}(F:Fly X.prog X.w X.stack H s e C H' s1)(I:Inv X pins σ H s)(fl:Heap.FlyingW B X.stack e (.ref C) a0 s1.heap)(cv:Cov (frs X.stack) H s.heap B)(ct:Trk H' s1.heap B)
 (st:B.StaysIn h2) (sl:s1.heap.UpToSlots h2):Inv X pins σ H' { s1 with heap:=h2 } :=
 I.call' (s':={ s1 with heap:=h2 }) (ch:=[]) F.os (F.un.flown cv st sl fun b hb o e=>by
  obtain⟨_,o1,e1,d⟩:=fl.2.2.1.mem hb
  rw[e] at e1
  cases e1
  exact d) (F.hok.flown ct st) F.bare (fun b z=>nomatch z)
end
end L2
namespace L2
open PySem PySem.Spec PyProof.Rows
theorem Jp{t u:TS}{D:Y7}{σ:St}{H:Hp}(h:∀N:St->Hp->Prop,N=u D->t { D with nx:=N } σ H):Ye t u D σ H:=h _ rfl
theorem Qme{K:Frag}{C D:Addr}(e:PySem.W.mroIn K C (.ref D)=some true):L2.mroIn K C D=true:=by
 unfold PySem.W.mroIn clsIn at e
 unfold L2.mroIn
 cases h:K.lookup C with
 | none=>rw[h] at e;cases e
 | some o =>
   rw[h] at e
   obtain⟨c,d,dat,sl⟩:=o
   cases dat with
   | cls cd =>
     obtain⟨cd',e1,e2⟩:=Option.bind_eq_some_iff.mp e
     cases e1
     split at e2
     .cases e2
     .exact qR e2
   | _=>cases e
end L2
set_option maxHeartbeats 400000
namespace L2
open PySem PySem.Spec PyProof.Rows
open PySem.Builtin PySem.Builtin.ObjectAttr PySem.Builtin.Getset_descriptor
structure GD(K:Frag)(C:Addr):Prop where
 ga:findIn K (.ref C) "__getattribute__"=some (some (.builtin "BaseException.__getattribute__"))
 gt:findIn K (.ref C) "__getattr__"=some none
 cl:hasDictIn K C=true
 ca:findIn K (.ref C) "__class__"=some (some (.builtin "object.__class__"))
 hn:specialIn K (.builtin "object.__class__") "__get__"=some (some (.builtin "getset_descriptor.__get__"))
 tk:takesIn K (.builtin "object.__class__")=some true
 mo:PySem.W.mroIn K C (.type "object")=some true
 mb:PySem.W.mroIn K C (.type "BaseException")=some true
def XAt(C e:Addr)(h:Heap):Prop:=∃o,h.get? e=some o/\o.cls=.ref C
theorem XAt.type{C e:Addr}{h:Heap}(x:XAt C e h){M:Model}:Looks M h (typeOf (.ref e)) (.ref C):=by
 obtain⟨o,h1,h2⟩:=x
 exact h2▸(Looks.ld h1).andThen .now
section
variable {prog:Program}{w:World}{A:Around}{E:QvY}{K:Frag}{x C:Addr}{h:Heap}{g:Array GenState}{d:Drawn}{t:Nat}{os:OsState}
theorem QbI{α:Type}{M:Model}{A:Around}{c:Bool}{a b:Sem α}{Q:α->Shared->Prop}{E:QvY}{s:Shared}(hc:c=false)(h:wpAny M A b Q E s):wpAny M A (if c=true then a else b) Q E s:=by
 rw[hc,qy qJ];exact h
theorem GD.find(Z:GD K C)(X:K.In h){M:Model}:Looks M h (Builtin.ObjectAttr.find (.ref x) (.ref C) "__class__") (.bind (.builtin "getset_descriptor.__get__") (.builtin "object.__class__")):=by
 have L1:=looks_findIn (M:=M) X Z.ca
 have L2:Looks M h (Builtin.ObjectAttr.getOf (some (.builtin "object.__class__"))) (some (.builtin "getset_descriptor.__get__")):=PySem.W.looks_specialIn X Z.hn
 have L3:Looks M h (Builtin.ObjectAttr.dataDescriptor? (some (.builtin "object.__class__")) (some (.builtin "getset_descriptor.__get__"))) (some (.builtin "getset_descriptor.__get__",.builtin "object.__class__")):=(PySem.W.looks_takesIn X Z.tk).andThen .now
 exact L1.andThen (L2.andThen (L3.andThen (Looks.tag .now)))
theorem QkO{R:Result->Shared->Prop}{tp:Value}(Z:GD K C)(X:K.In h)(I:XAt C x h)(hq:R (.ok (.ret (.ref C))) ⟨h,g,d,t,os⟩) :
 codeAny (model prog w) A (.call (.builtin "getset_descriptor.__get__") ⟨[.builtin "object.__class__",.ref x,tp],[]⟩) R ⟨h,g,d,t,os⟩:=by
 have L0:=I.type (M:=model prog w);have L1:=looks_mroIn (M:=model prog w) X Z.mo
 refine QnM PySem.W.KF.slot_gs.plain PySem.W.KF.entry_gs (PySem.W.KF.slot_gs.check _ _ _ _ _ _ _ _ PySem.W.KF.type_class (PySem.W.KF.args_gs _ _ _) ?_)
 unfold Builtin.«getset_descriptor.__get__» descrGet;rw[PySem.W.dga_obj];refine qb (qj ?_)
 unfold descrGetter descrCheckInstance descrNameAndClass isInstance;simp only[PySem.W.KF.owner_class];repeat lk
 refine⟨Code.quiet_builtin _ (by decide +kernel),yg PySem.W.KF.entry_class ?_⟩;unfold Builtin.«object.__class__» shownTypeOf;repeat lk
 exact hq
theorem QgT{tk:Tok}{Q:Fin->Shared->Prop}(Z:GD K C)(X:K.In h)(I:XAt C x h)(hq:Q (.done (.ret (.ref C))) ⟨h,g,d,t,os⟩) :
 wpAny (model prog w) A (Builtin.«object.__getattribute__» ⟨[.ref x,.str "__class__" tk],[]⟩) Q E ⟨h,g,d,t,os⟩:=by
 have L0:=I.type (M:=model prog w)
 have L3:=Z.find (x:=x) X (M:=model prog w)
 refine qb (qj (qb (qj (qb (L0.at (qb (L3.at ?_)))))))
 show wpAny _ _ (Builtin.ObjectAttr.bindTo (.builtin "getset_descriptor.__get__") (.builtin "object.__class__") (.ref x) (.ref C)) _ _ _
 unfold Builtin.ObjectAttr.bindTo
 repeat (any_goals (first | assumption | wp_step))
 exact QkO Z X I (qj hq)
theorem QgV{M:Model}{nameV:Value}{Q:Unit->Shared->Prop}(L:Looks M h (isInstance (.ref x) (.type "BaseException")) true)(hq:Q () ⟨h,g,d,t,os⟩):wpAny M A (checkBuiltinCall "BaseException.__getattribute__" ⟨[.ref x,nameV],[]⟩) Q E ⟨h,g,d,t,os⟩:=by
 have hk:builtinKind "BaseException.__getattribute__"=some .slot:=by decide +kernel
 have hs:splitId "BaseException.__getattribute__"=some ("BaseException","__getattribute__"):=by decide +kernel
 have ha:argsOk "BaseException.__getattribute__" ⟨[.ref x,nameV],[]⟩:=F.args_bexc_ga (.ref x) nameV
 have LL:Looks M (⟨h,g,d,t,os⟩:Shared).heap (isInstance (.ref x) (.type "BaseException")) true:=L
 have key:=PySem.W.check_slot (M:=M) (A:=A) (E:=E) (s:=⟨h,g,d,t,os⟩) (i:="BaseException.__getattribute__") (owner:="BaseException") (n:="__getattribute__") (self:=.ref x) (rest:=[nameV]) (kw:=[]) (Q:=Q) hk hs LL
 exact key ha hq
theorem Qjc{tk:Tok}{R:Result->Shared->Prop}(Z:GD K C)(X:K.In h)(I:XAt C x h)(hq:R (.ok (.ret (.ref C))) ⟨h,g,d,t,os⟩) :
 codeAny (model prog w) A (.call (.builtin "BaseException.__getattribute__") ⟨[.ref x,.str "__class__" tk],[]⟩) R ⟨h,g,d,t,os⟩:=by
 have L:Looks (model prog w) h (isInstance (.ref x) (.type "BaseException")) true:=(I.type (M:=model prog w)).andThen (looks_mroIn (M:=model prog w) X Z.mb)
 exact QnM F.excAttr_ValueError.ga.plain F.entry_bexc_ga (QgV L (QgT Z X I hq))
theorem Qmq{tk:Tok}{Q:QvY}(Z:GD K C)(X:K.In h)(I:XAt C x h)(hq:Q (.ref C) ⟨h,g,d,t,os⟩) :
 wpAny (model prog w) A (getAttrBy (.ref x) (.str "__class__" tk) false) Q E ⟨h,g,d,t,os⟩:=by
 have L0:=I.type (M:=model prog w)
 have L1:=looks_findIn (M:=model prog w) X Z.ga
 have L2:=looks_findIn (M:=model prog w) X Z.gt
 have f3:=F.excAttr_ValueError.ga.bind (.ref x)
 have hx2:(Value.builtin "BaseException.__getattribute__" == Value.builtin "object.__getattribute__")=false:=by decide +kernel
 have hx1:(onTheHeap (Value.ref C) && Value.builtin "BaseException.__getattribute__" == Value.builtin "object.__getattribute__")=false:=by rw[hx2];rfl
 refine jk (qb (L0.at (qb (L1.at ?_))))
 refine QbI hx1 ?_
 refine qb (L2.at ?_)
 refine qb (wZ (jk ?_))
 show wpAny _ _ (boundAndCalled (.builtin "BaseException.__getattribute__") (.ref x) (.str "__class__" tk)) _ _ _
 unfold boundAndCalled
 rw[f3]
 refine qb (qj ?_)
 refine QrR (Qjc Z X I ?_)
 exact PySem.W.handed_on rfl hq
theorem QgU{Q:Option Value->Shared->Prop}(Z:GD K C)(X:K.In h)(I:XAt C x h)(hq:Q (some (.ref C)) ⟨h,g,d,t+1,os⟩):wpAny (model prog w) A (getAttr? (.ref x) "__class__") Q E ⟨h,g,d,t,os⟩:=by
 unfold getAttr? getAttrBy?
 refine qb (wpAny_mkText (qb (wZ (Qmq Z X I ?_))))
 exact qj hq
theorem QiS(Z:GD K C):PySem.W.KitX K (.ref x) (.ref C) (XAt C x) where
 ty:=fun _ _ _ I=>I.type
 it:=fun _ _ X _=>by
  obtain⟨cd,hc,_⟩:=any_some Z.cl
  unfold clsIn at hc
  split at hc
  .rename_i ho
   intro A' Q' E' s' k q;unfold isType loadHead;exact qb (wpAny_loadPart (k _ _ (X _ _ ho)) (qj q))
  .cases hc
 ne:=fun h tp dd its n sl X htp=>by
  obtain⟨cd,hc,_⟩:=any_some Z.cl
  refine Bool.eq_false_iff.mpr fun q=>?_
  have e:C=tp:=Value.ref.inj (vD.mp q)
  rw[<-e] at htp;unfold clsIn at hc
  split at hc
  .rename_i ho
   have z:=(X _ _ ho).symm.trans htp;cases z
  .cases hc
 ca:=fun{prog w A E Q s} X I k=>by
  obtain⟨h,g,d,t,os⟩:=s
  exact QgU Z X I k
end
def GX(C e:Addr):HO:=.ext (XAt C e)
theorem QkP{P:Program}{w:World}{H:Hp}{h:Heap}{C e:Addr}(x:XAt C e h):QY P w H h e (GX C e):=⟨x,let ⟨o,h1,_⟩:=x;⟨o,h1⟩,fun _ _ y k=>let ⟨o,h1,h2⟩:=y;⟨o,k o h1,h2⟩⟩
theorem Qeq{X:Cx}:JD X (.builtin "isinstance") (fun xs H Q=>∃e C c cv b,xs=[.ref e,c]/\H e=some (GX C e)/\GD X.K C/\QvF c=some cv/\kitOne X.K (.ref C) cv=some b/\Q (.bl b) H):=by
 intro pins s σ H xs us Q I r h
 obtain⟨e,C,c,cv,b,rfl,he,Z,hcv,hk,q⟩:=h
 obtain⟨u,u',rfl,rx,rc⟩:=QkZ r
 have e':u'=cv:=by
  cases c with
  | ty n=>cases hcv;exact rc
  | ref a=>cases hcv;exact rc
  | _=>cases hcv
 subst e'
 obtain rfl:u=Value.ref e:=rx
 obtain⟨x,_⟩:=(show QY X.prog X.w H s.heap e (GX C e) from I.hok e _ he)
 exact kia_one (QiS Z) I.kIn x hk (by intro q;cases q) fun tk=>⟨.bl b,H,I.tok tk,rfl,q⟩
end L2
set_option maxHeartbeats 4000000
namespace L2
open PySem PySem.Spec PyProof.Rows
section
variable {X:Cx}{pins:List (Addr×Obj)}{σ:St}{H:Hp}{s:Shared}
theorem Inv.track{e:Addr}{o:HO}(I:Inv X pins σ H s)(hn:H e=none)(h0:X.s₀.heap.get? e=none)(hL:e≠X.env.locals)(hC:∀x c,X.env.cells.lookup x=some c->c≠e)(hp:∀p∈X.pn++pins,p.1≠e)
 (ok:QY X.prog X.w (upd H e o) s.heap e o):Inv X pins σ (upd H e o) s where
 ok:=I.ok
 os:=I.os
 bare:=I.bare
 base:=⟨I.base.keep,I.base.slot,fun b ob q n hx=>by
  have hb:b≠e:=fun z=>by rw[z,h0] at q;cases q
  rw[Qa hb];exact I.base.free b ob q n hx,I.base.there,
  fun b xs q=>by have:=I.base.tups b xs q;rw[Qa (Qb this hn)];exact this,
  fun b o u q=>by have:=I.base.Qnp b o u q;rw[Qa (Qb this hn)];exact this,
  fun b ps q=>by obtain⟨more,this⟩:=I.base.Qn6 b ps q;exact⟨more,by rw[Qa (Qb this hn)];exact this⟩⟩
 loc:=I.loc
 cell:=I.cell
 free:=by rw[Qa (xH hL)];exact I.free
 vz:=fun x c q=>by rw[Qa (hC x c q)];exact I.vz x c q
 pin:=fun p q=>by
  obtain⟨a,b,c⟩:=I.pin p q
  exact⟨a,by rw[Qa (hp p q)];exact b,c⟩
 hok:=fun b u q=>by
  by_cases hb:b=e
  .subst hb;rw[Qc] at q;cases q;exact ok
  .rw[Qa hb] at q
   exact(I.hok b u q).stay (fun _ _ _ z=>z) (fun c z=>by rw[Qa (Qb z hn)];exact z) fun c xs z=>by rw[Qa (Qb z hn)];exact z
 len:=I.len
theorem X3{M:Model}{A:Around}{E:QvY}{i:Nat}{x:Str}{pos:Pos}{Q:Unit->Shared->Prop}(I:Inv X pins σ H s)(hN:X.N.Nodup)(hi:X.N[i]?=some x)(hk:X.env.scope.names.lookup x=some .local)
 (h:∀s',Inv X pins (σ.set i none) H s'->Q () s'):wpAny M A (do bindName X.env x .none;unbindBehindTheSuite X.env x pos) Q E s:=by
 obtain⟨m,hn,hl⟩:=id I.loc
 have hcls:(X.env.scope.kind == .class || (X.env.scope.kind == .module && X.env.locals != X.env.globals))=false:=by rw[I.ok.kind];rfl
 have cne:=I.cne
 have hiσ:i<σ.length:=by rw[I.len];exact(zp.mp hi).1
 obtain⟨oL,_,_,hoL,_⟩:=id hn
 refine wpAny_nameGoes_keeps hk hn hcls fun h' v hn' hs=>?_
 have far:∀b o,X.s₀.heap.get? b=some o->b≠X.env.locals:=fun b o e=>qY (zm (qM e) I.ok.above)
 refine h _ ⟨I.ok,I.os,I.bare,⟨fun b o e n hb hx=>?_,fun b o e n hb hx=>?_,I.base.free,fun b o e hx=>?_,I.base.tups,I.base.Qnp,I.base.Qn6⟩,⟨_,hn',fun j y v' e1 e2 e3=>?_⟩,fun y c e=>?_,I.free,I.vz,fun p hp=>?_,fun b ob e=>?_,by simpa using I.len⟩
 .exact(hs.2 b (far b o e)).trans (I.base.keep b o e n hb hx)
 .obtain⟨sl,e1⟩:=I.base.slot b o e n hb hx
  exact⟨sl,(hs.2 b (far b o e)).trans e1⟩
 .obtain⟨o',e1⟩:=I.base.there b o e hx
  exact⟨o',(hs.2 b (far b o e)).trans e1⟩
 .have hj:j≠i:=fun z=>by
   subst z
   rw[jB hiσ] at e2
   cases e2
  rw[QmA (xH hj)] at e2
  obtain⟨u',r',q⟩:=hl j y v' e1 e2 e3
  refine⟨u',r',?_⟩
  rcases q with⟨k,e⟩ | ⟨k,c,e,z⟩
  .refine .inl ⟨k,?_⟩
   have:y≠x:=fun e=>hj (KS hN e1 (e▸hi))
   simp[this,e]
  .exact .inr ⟨k,c,e,z.sameBut hs (cne y c e)⟩
 .obtain⟨w',z⟩:=I.cell y c e
  exact⟨w',z.sameBut hs (cne y c e)⟩
 .obtain⟨e,n,ne,nf,d⟩:=I.pin p hp
  exact⟨(hs.2 p.1 ne).trans e,n,ne,nf,d⟩
 .refine(I.hok b ob e).stay (fun c w' hc q=>(hs.2 c ?_).trans q) (fun _ q=>q) fun _ _ q=>q
  rintro rfl
  rcases hc with rfl | hc
  .rw[I.free] at e;cases e
  .rw[I.free] at hc;cases hc
end
def unb(i:Nat)(D:Y7):Y7:={ nx:=fun σ H=>D.nx (σ.set i none) H,rt:=D.rt,bk:=fun σ H=>D.bk (σ.set i none) H,ct:=fun σ H=>D.ct (σ.set i none) H }
def Qlr(i:Nat)(R:St->XK)(tb ts:TS):TS:=fun D σ H=>(∀σ' C H' e,R σ' (.ref C) none H'->H' e=none->ts (unb i D) (σ'.set i (some (.ref e))) (upd H' e (GX C e)))/\tb D σ H
theorem QhY{X:Cx}{body:List Stmt}{x n:Str}{i:Nat}{D:Addr}{b₀:Stmt}{suite:List Stmt}{np hpos pos:Pos}{R:St->XK}{tb ts:TS}(hg:Gl X x)(hm:X.mg x=some (.ref D))(d:Xcl X.K D)(hst:X.stack=X.env :: X.outer)(hf:X.env.frame=some X.env.locals)(hex:X.ex=[])
 (hN:X.N.Nodup) (hi:X.N[i]?=some n) (hloc:X.env.scope.names.lookup n=some .local)
 (hsub:∀σ C H,R σ (.ref C) none H->Sub X.K C D) (hb:∀pn,PSs (QbS X pn R) body tb) (hs:∀ev,PSs (hnd X ev) (b₀ :: suite) ts) (hdb:(x == ("__debug__":Str))=false:=by decide) :
 PS X (.Try body [.ExceptHandler (some (.Name x np)) (some n) (b₀ :: suite) hpos] [] [] pos) (Qlr i R tb ts):=by
 intro pins s σ H Dd I h
 obtain⟨hh,hq⟩:=h
 refine wpAny_Try_except (yp (hb pins [] s σ H Dd I.intry hq) (fun f s₁ h₁=>?_) fun ev s₁ h₁=>?_)
 .have h2:SP X pins Dd f s₁:=SP.Qo0 h₁
  cases f with
  | next=>rw[arm_execs_nil];exact qj h2
  | _=>exact h2
 .obtain⟨σ',Hc,sc,e,C,H',rfl,Ic,F,q⟩:=h₁
  obtain⟨B,a0,fl,cv,ct⟩:=F.fly
  have fr:X.A.frames=some (X.env :: X.outer):=by rw[I.ok.frames,hst]
  have fl':=fl
  rw[hst] at fl'
  refine wpAny_looks_onW fr hf fl' fun h4 hheld hsm4=>?_
  refine wpAny_landsW hheld fun h5 fl5 hsm5=>?_
  have J5:Inv X pins σ' H' { s₁ with heap:=h5 }:=F.inv (l:=X.stack) Ic fl cv ct fl5.1 (hsm4.trans hsm5)
  refine wpAny_handleBy_cons (codeAny_handlers_test ?_) (by intro q;cases q)
  refine QoU I.ok.kind hg (Calls.loadGlobal_global (by rw[I.ok.glob];exact I.mod.glob.keeps J5.bk) hm ?_) hdb
  have sb:=hsub σ' C H' q
  obtain⟨bm,N,nm,qn,bs,hdct,sn,sub,ab,col,dd,k0,k1,k2,k3,k5,mN,hC,hN',hni,TL⟩:=sb.c.obj J5.kIn
  obtain⟨bm',N',nm',qn',bs',QuN,sn',sub',ab',col',dd',l0,l1,l2,l3,l5,mN',hD,hN'',hni',TL'⟩:=d.obj J5.kIn
  obtain⟨ob,hob,hobc⟩:=fl5.there
  refine QcP hC hD hob hobc (TL'.hasType excBase_ValueError.hasBase) (sb.has J5.kIn hC) ?_
  refine codeAny_handlers_suite_as ?_
  refine lands_againW fl5 fun h6 fl6 hsm6=>?_
  have J6:Inv X pins σ' H' { s₁ with heap:=h6 }:=F.inv (l:=X.stack) Ic fl cv ct fl6.1 ((hsm4.trans hsm5).trans hsm6)
  have base0:=Ic.base
  rw[hex] at base0
  have e0:X.s₀.heap.get? e=none:=by
   cases z:X.s₀.heap.get? e with
   | none=>rfl
   | some o =>
     obtain⟨o',e'⟩:=base0.there e o z (fun z=>nomatch z)
     rw[F.nw] at e'
     cases e'
  obtain⟨ob6,hob6,hobc6⟩:=fl6.there
  have eL:e≠X.env.locals:=fun z=>by
   obtain⟨m,hn,_⟩:=Ic.loc
   obtain⟨oL,_,_,hoL,_⟩:=hn
   rw[<-z,F.nw] at hoL
   cases hoL
  have eC:∀x c,X.env.cells.lookup x=some c->c≠e:=fun x c hc z=>by
   obtain⟨v,o,ho,_⟩:=Ic.cell x c hc
   rw[z,F.nw] at ho
   cases ho
  have eP:∀p∈X.pn++pins,p.1≠e:=fun p hp z=>by
   obtain⟨z1,_⟩:=Ic.pin p hp
   rw[z,F.nw] at z1
   cases z1
  have J7:Inv X pins σ' (upd H' e (GX C e)) { s₁ with heap:=h6 }:=J6.track F.fr e0 eL eC eP (QkP ⟨ob6,hob6,hobc6⟩)
  refine Kc J7 hN hi (.inl hloc) (v:=.ref e) rfl (fun s2 J8=>?_) (.inr hloc)
  refine yp (hs (.ref e) pins s2 _ _ (unb i Dd) (J8.inhnd _) (hh σ' C H' e q F.fr)) (fun f s3 z=>?_) (fun _ _ z=>z.elim)
  have z':SP X pins (unb i Dd) f s3:=SP.Qqz I.ok z
  cases f with
  | ret u =>
    obtain⟨v,σ2,H2,I2,r,q2⟩:=z'
    exact X3 I2 hN hi hloc fun s4 I4=>⟨v,_,H2,I4,r,q2⟩
  | next =>
    obtain⟨σ2,H2,I2,q2⟩:=z'
    exact X3 I2 hN hi hloc fun s4 I4=>⟨_,H2,I4,q2⟩
  | brk =>
    obtain⟨σ2,H2,I2,q2⟩:=z'
    exact X3 I2 hN hi hloc fun s4 I4=>⟨_,H2,I4,q2⟩
  | cont =>
    obtain⟨σ2,H2,I2,q2⟩:=z'
    exact X3 I2 hN hi hloc fun s4 I4=>⟨_,H2,I4,q2⟩
end L2
set_option maxHeartbeats 400000
namespace L2
open PySem PySem.Spec PyProof.Rows
def Gd:Option Key->Value->Bool
 | none,.none=>true
 | some k,v=>Y1 k v
 | _,_=>false
def keyHN(w:World):Option Key->Int
 | none=>reduceHash 0xFCA86420
 | some k=>keyH w k
theorem Zw{v:Value}(h:Gd none v=true):v=.none:=by
 cases v <;> first | rfl | cases h
theorem QgP{prog:Program}{w:World}{A:Around}{E:QvY}{s:Shared}{Q:Int->Shared->Prop}(h:Q (reduceHash 0xFCA86420) { s with toks:=s.toks+1 }):wpAny (model prog w) A (pyHash .none) Q E s :=
 PySem.W.pyHash_slot (T:="NoneType") rfl F.slot_NoneType_hash F.entry_NoneType_hash (F.args_NoneType_hash_1 _) (beq_builtin_none _) (.inl rfl) (qb (qj (qb (wpAny_mkInt (qj ⟨_,_,rfl,h⟩)))))
def mixN(prog:Program)(w:World):PySem.KeyKind prog w (Option Key) where
 is:=Gd
 hash:=keyHN w
 inj:=fun v a b ha hb=>by
  cases a with
  | none =>
    cases Zw ha
    cases b with
    | none=>rfl
    | some k=>rcases QS (show Y1 k .none=true from hb) with⟨i,t,_,e⟩ | ⟨x,t,_,e⟩ <;> cases e
  | some k =>
    cases b with
    | none =>
      cases Zw hb
      rcases QS (show Y1 k .none=true from ha) with⟨i,t,_,e⟩ | ⟨x,t,_,e⟩ <;> cases e
    | some k'=>rw[(QU prog w).inj v k k' ha hb]
 byValue:=fun k v h=>by
  cases k with
  | none=>cases Zw h;rfl
  | some k=>exact(QU prog w).byValue k v h
 pyHash:=fun{A E s k v Q} hv h=>by
  cases k with
  | none=>cases Zw hv;exact QgP h
  | some k=>exact(QU prog w).pyHash (k:=k) hv h
 eqBool:=fun{A E s a b u v Q} hu hv h=>by
  cases a with
  | none =>
    cases Zw hu
    cases b with
    | none=>cases Zw hv;exact SeqAt.EqAt.same _ _ _ _ _ h
    | some k =>
      have h':Q false s:=by
       have e:decide ((none:Option Key)=some k)=false:=qF (fun q=>nomatch q)
       rw[e] at h;exact h
      rcases QS (show Y1 k v=true from hv) with⟨i,t,_,rfl⟩ | ⟨x,t,_,rfl⟩
      .exact SeqAt.EqAt.none_int _ _ _ _ _ _ h'
      .exact SeqAt.EqAt.none_str _ _ _ _ _ _ h'
  | some k =>
    cases b with
    | none =>
      cases Zw hv
      have h':Q false s:=by
       have e:decide ((some k:Option Key)=none)=false:=qF (fun q=>nomatch q)
       rw[e] at h;exact h
      rcases QS (show Y1 k u=true from hu) with⟨i,t,_,rfl⟩ | ⟨x,t,_,rfl⟩
      .exact SeqAt.EqAt.int_none _ _ _ _ _ _ h'
      .exact SeqAt.EqAt.str_none _ _ _ _ _ _ h'
    | some k' =>
      refine(QU prog w).eqBool (a:=k) (b:=k') hu hv ?_
      have e:decide ((some k:Option Key)=some k')=decide (k=k'):=by
       by_cases q:k=k'
       .rw[q,qp rfl,qp rfl]
       .rw[qF q,qF (fun z=>q (qR z))]
      rw[e] at h;exact h
 «strs»:=fun k x t v h=>by
  cases k with
  | none=>cases Zw h
  | some k=>exact(QU prog w).strs k x t v h
theorem mapN{P:Program}{w:World}{h:Heap}{a:Addr}{f:Key->Option Value}(m:h.MapOf (QU P w) a f):∃g,h.MapOf (mixN P w) a g/\g none=none:=by
 obtain⟨o,es,ep,h1,h2,h3,h4,h5⟩:=m
 refine⟨fun k=>findBy Gd es k,⟨o,es,ep,h1,h2,h3,fun e he=>?_,fun _=>rfl⟩,?_⟩
 .obtain⟨k,hk,hh⟩:=h4 e he
  exact⟨some k,hk,hh⟩
 .show findBy Gd es none=none
  unfold findBy
  have:es.find? (fun e=>Gd none e.key)=none:=by
   rw[Array.find?_eq_none]
   intro e he q
   obtain⟨k,hk,_⟩:=h4 e he
   have z:=Zw q
   rw[z] at hk
   rcases QS (show Y1 k .none=true from hk) with⟨i,t,_,e⟩ | ⟨x,t,_,e⟩ <;> cases e
  simp[this]
end L2
namespace L2
open PySem PySem.Spec PyProof.Rows
end L2
namespace L2
open PySem PySem.Spec PyProof.Rows
section
variable {X:Cx}{k:Nat}{f:Addr}{fd:FuncData}{ps:QvX}{sp:Sp}{ug:List V}{ds:QvZ}{E:XK}{x:Str}{p pos:Pos}{e:Expr}{es:List Expr}{t:TA}
end
end L2
namespace L2
open PySem PySem.Spec PyProof.Rows
def QlT(K:Frag):List V->Hp->VK->Prop:=fun xs H Q=>∃e C c cv b,xs=[.ref e,c]/\H e=some (GX C e)/\GD K C/\QvF c=some cv/\kitOne K (.ref C) cv=some b/\Q (.bl b) H
theorem ZW{X:Cx}(K:Frag)(hK:X.K=K:=by rfl):JD X (.builtin "isinstance") (QlT K):=hK▸Qeq
section
variable {X:Cx}{o e:Expr}{es:List Expr}{to:TE}{t:TA}{name:Str}{apos cpos:Pos}{T id:String}{r:V->List V->Hp->VK->Prop}
end
theorem QkS:bootBuiltins "ValueError"=some (.type "ValueError"):=by decide +kernel
def Qdr(y:V)(kvs:List (Key×V)):Prop:=y=.non\/∃k,y=kV k/\Qt kvs k=none
inductive QeC(Q:VK)(y:V)(x:V)(H2:Hp):Prop
 | mk:∀a kvs,x=.ref a->H2 a=some (.dK kvs)->Qdr y kvs->Q (.bl true) H2->QeC Q y x H2
def tMiss(ty td:TE):TE:=fun σ H Q=>ty σ H fun y H1=>td σ H1 fun x H2=>QeC Q y x H2
theorem Qkk{X:Cx}{i o:Expr}{ty td:TE}(hu:X.A.units+1<cLine)(hi:PE X i ty)(ho:PE X o td):PC X .NotIn i o (tMiss ty td):=by
 intro pins s σ H Q I h
 refine jO (hi pins s σ H _ I h) fun iv s1 ⟨y,H1,I1,ry,q1⟩=>jO (ho pins s1 σ H1 _ I1 q1) fun u s2 ⟨x,H2,I2,rx,a,kvs,ex,ea,m,q2⟩=>?_
 subst ex
 obtain rfl:u=Value.ref a:=rx
 rcases m with rfl | ⟨k,rfl,hk⟩
 .obtain rfl:iv=Value.none:=ry
  obtain⟨z,hd,vs,rel,dd⟩:=XA I2.hok (show Rd H2 a (.dK kvs) from .inl ea)
  obtain⟨g,hg,gn⟩:=mapN dd.mapOf
  refine wpAny_notIn_of (knd:=mixN X.prog X.w) (k:=none) rfl hd hg ?_
  rw[gn]
  exact⟨.bl true,H2,I2.tok _,rfl,q2⟩
 .have g:Zk H2 a (kV k) (Qt kvs k):=Zk.k (k:=k) ea
  rw[hk] at g
  exact QfK hu I2 g ry fun s3 I3=>⟨.bl true,H2,I3,rfl,q2⟩
end L2
set_option maxHeartbeats 4000000
namespace L2
open PySem PySem.Spec PyProof.Rows
end L2
namespace L2
open PySem PySem.Spec PyProof.Rows
end L2
namespace L2
open PySem PySem.Spec PyProof.Rows
def QoZ{α:Type}(lt:Nat->Nat->Bool):W.KasT α->α
 | .ret a=>a
 | .ask i j k=>QoZ lt (k (lt i j))
inductive InT{α:Type}(n:Nat)(R:α->Prop):W.KasT α->Prop
 | ret {a:α} (h:R a):InT n R (.ret a)
 | ask {i j:Nat} {k:Bool->W.KasT α} (hi:i<n) (hj:j<n) (h:∀b,InT n R (k b)):InT n R (.ask i j k)
theorem InT.end_{α:Type}{n:Nat}{R:α->Prop}{lt:Nat->Nat->Bool}{t:W.KasT α}(h:InT n R t):R (QoZ lt t):=by
 induction h with
 | ret h=>exact h
 | ask _ _ _ ih=>exact ih _
theorem InT.wp{α:Type}{n:Nat}{R:α->Prop}{lt:Nat->Nat->Bool}{cmp:Nat->Nat->(Bool->Shared->Prop)->Shared->Prop}{s:Shared}{post:α->Shared->Prop}(hc:∀(i j:Nat)(C:Bool->Shared->Prop),i<n->j<n->C (lt i j) s->cmp i j C s):∀{t:W.KasT α},InT n R t->post (QoZ lt t) s->W.KasT.kasWp cmp t post s
 | _,.ret _,hp=>hp
 | .ask i j k,.ask hi hj h,hp=>hc i j _ hi hj (InT.wp hc (h _) hp)
theorem InT.bind{α β:Type}{n:Nat}{R:α->Prop}{R':β->Prop}{f:α->W.KasT β}(hf:∀a,R a->InT n R' (f a)):∀{t:W.KasT α},InT n R t->InT n R' (t.bind f)
 | _,.ret h=>hf _ h
 | _,.ask hi hj h=>.ask hi hj fun b=>InT.bind hf (h b)
def Ys(n:Nat)(p:Array Nat):Prop:=p.toList.Perm (List.range n)
theorem Ys.lt{n:Nat}{p:Array Nat}(h:Ys n p)(hn:0<n)(i:Nat):p.getD i 0<n:=by
 unfold Array.getD
 split
 .rename_i hi
  have:p.toList[i]'(by simpa using hi)∈List.range n:=h.mem_iff.mp (jT _)
  exact wQ.mp this
 .exact hn
theorem Qhm{p:Array Nat}(i j:Nat):(p.swapIfInBounds i j).toList.Perm p.toList:=by
 unfold Array.swapIfInBounds
 split
 .split
  .exact(Array.swap_perm _ _).toList
  .exact .refl _
 .exact .refl _
theorem WF(f g:Nat->Nat):∀(l:List Nat)(p:Array Nat),(l.foldl (fun a k=>a.swapIfInBounds (f k) (g k)) p).toList.Perm p.toList
 | [],_=>.refl _
 | k :: l,p=>(WF f g l _).trans (Qhm _ _)
theorem Ys.rev{n:Nat}{p:Array Nat}(h:Ys n p)(i j:Nat):Ys n (W.kas_rev p i j):=(WF (fun k=>i+k) (fun k=>j - 1 - k) _ p).trans h
theorem Ys.bubble{n:Nat}{p:Array Nat}(h:Ys n p)(i j:Nat):Ys n (PyProof.Rows.bubble p i j):=(WF (fun k=>i - k) (fun k=>i - k - 1) _ p).trans h
section
variable {n:Nat}
theorem Qed(hn:0<n){p:Array Nat}(h:Ys n p):∀(m k:Nat),InT n (fun _=>True) (W.kas_asc p m k)
 | 0,_=>.ret trivial
 | m+1,k=>.ask (h.lt hn _) (h.lt hn _) fun b=>by
   cases b with
   | true=>exact .ret trivial
   | false=>exact Qed hn h m (k+1)
theorem X2(hn:0<n):∀(m:Nat){p:Array Nat}(k q:Nat),Ys n p->InT n (fun r=>Ys n r.1) (W.kas_desc m p k q)
 | 0,_,_,_,h=>.ret h
 | m+1,p,k,q,h=>.ask (h.lt hn _) (h.lt hn _) fun b=>by
   cases b with
   | true =>
     show InT n _ (if q > 0 then _ else _)
     split
     .exact X2 hn m _ _ (h.rev _ _)
     .exact X2 hn m _ _ h
   | false =>
     refine .ask (h.lt hn _) (h.lt hn _) fun c=>?_
     cases c with
     | true=>exact .ret h
     | false=>exact X2 hn m _ _ h
theorem Qc1(hn:0<n){p:Array Nat}(h:Ys n p)(a b:Nat):InT n (fun r=>Ys n r.2) (W.kas_tail3 a b p) :=
 InT.bind (R:=fun _=>True) (f:=fun m=>.ret (m,W.kas_rev p 0 a)) (fun _ _=>.ret (h.rev _ _)) (Qed hn (h.rev _ _) _ _)
theorem Xx(hn:0<n){p:Array Nat}(h:Ys n p)(a b:Nat):InT n (fun r=>Ys n r.2) (W.kas_descPart a b p):=by
 refine InT.bind (R:=fun r=>Ys n r.1) (fun r hr=>?_) (X2 hn _ _ _ h)
 split
 .exact Qc1 hn (hr.rev _ _) _ _
 .exact Qc1 hn hr _ _
theorem Qi0(hn:0<n){p:Array Nat}(h:Ys n p)(m:Nat):InT n (fun r=>Ys n r.2) (W.kas_count m p):=by
 refine InT.bind (R:=fun _=>True) (fun k _=>?_) (Qed hn h _ _)
 split
 .exact .ret h
 .split
  .refine .ask (h.lt hn _) (h.lt hn _) fun b=>?_
   cases b with
   | true=>exact .ret h
   | false=>exact Xx hn (h.rev _ _) _ _
  .exact Xx hn h _ _
theorem Gh(hn:0<n){p:Array Nat}(h:Ys n p)(k:Nat):∀(m l r:Nat),InT n (fun _=>True) (W.kas_place p k m l r)
 | 0,_,_=>.ret trivial
 | m+1,l,r=>by
   show InT n _ (if l>=r then _ else _)
   split
   .exact .ret trivial
   .refine .ask (h.lt hn _) (h.lt hn _) fun b=>?_
    cases b with
    | true=>exact Gh hn h k m _ _
    | false=>exact Gh hn h k m _ _
theorem Qi1(hn:0<n):∀(m:Nat){p:Array Nat}(k:Nat),Ys n p->InT n (Ys n) (W.kas_bin m p k)
 | 0,_,_,h=>.ret h
 | m+1,p,k,h=>InT.bind (R:=fun _=>True) (fun l _=>Qi1 hn m _ (h.bubble _ _)) (Gh hn h k _ _ _)
theorem Qfq(hn:0<n):InT n (Ys n) (W.kas_sort n):=by
 refine InT.bind (R:=fun r=>Ys n r.2) (fun r hr=>?_) (Qi0 hn (p:=(List.range n).toArray) (.refl _) _)
 split
 .exact Qi1 hn _ _ hr
 .exact .ret hr
end
def QgA(fin:Bool):QvX->QvX->Bool
 | x :: xs,y :: ys=>if x=y then QgA fin xs ys else decide (x.cps.toList<y.cps.toList)
 | _,_=>fin
def lexT(xs ys:QvX):Bool:=QgA (decide (xs.length<ys.length)) xs ys
def YH(ts:List (QvX)):List Nat:=if ts.length<2 then List.range ts.length else (QoZ (fun i j=>lexT (ts.getD i []) (ts.getD j [])) (W.kas_sort ts.length)).toList
theorem Xa(ts:List (QvX)):(YH ts).Perm (List.range ts.length):=by
 unfold YH
 split
 .exact .refl _
 .rename_i h
  exact(Qfq (n:=ts.length) (by omega)).end_
theorem Gi(ts:List (QvX)):(YH ts).length=ts.length:=by rw[(Xa ts).length_eq,yt]
theorem QbD{ts:List (QvX)}{i:Nat}(h:i∈YH ts):i<ts.length:=wQ.mp ((Xa ts).mem_iff.mp h)
inductive ZL(h:Heap)(a:Addr):QvZ->List (QvX)->Prop
 | nil:ZL h a [] []
 | cons {b:Addr} {ob:Obj} {xs:Array Value} {k:Nat} {t:QvX} {vs:QvZ} {ts:List (QvX)} (ne:b≠a) (e:h.get? b=some ob) (c:ob.cls=.type "tuple") (d:ob.data=.seq xs k) (st:StrsAre xs.toList t) (t0:t≠[]) (r:ZL h a vs ts):ZL h a (.ref b :: vs) (t :: ts)
theorem ZL.len{h:Heap}{a:Addr}:∀{vs:QvZ}{ts:List (QvX)},ZL h a vs ts->vs.length=ts.length
 | _,_,.nil=>rfl
 | _,_,.cons _ _ _ _ _ _ r=>jM (·+1) (ZL.len r)
theorem ZL.mono{h h':Heap}{a a':Addr}(k:∀b o,b≠a->h.get? b=some o->h'.get? b=some o/\b≠a'):∀{vs:QvZ}{ts:List (QvX)},ZL h a vs ts->ZL h' a' vs ts
 | _,_,.nil=>.nil
 | _,_,.cons ne e c d st t0 r=>.cons (k _ _ ne e).2 (k _ _ ne e).1 c d st t0 (ZL.mono k r)
theorem ZL.at{h:Heap}{a:Addr}:∀{vs:QvZ}{ts:List (QvX)}(i:Nat),ZL h a vs ts->i<ts.length->∃b ob xs k,vs.getD i .none=.ref b/\h.get? b=some ob/\ob.data=.seq xs k/\StrsAre xs.toList (ts.getD i [])
 | _,_,i,.nil,hi=>absurd hi (Nat.not_lt_zero _)
 | _,_,0,.cons _ e _ d st _ _,_=>⟨_,_,_,_,rfl,e,d,st⟩
 | _,_,i+1,.cons _ _ _ _ _ _ r,hi=>ZL.at i r (yK hi)
theorem ZL.firsts{h:Heap}{a:Addr}:∀{vs:QvZ}{ts:List (QvX)},ZL h a vs ts->∃fs,W.KatTups h vs fs/\fs.length=ts.length/\∀v∈fs,∃x t,v=.str x t
 | _,_,.nil=>⟨[],trivial,rfl,fun _ z=>nomatch z⟩
 | _,_,.cons (xs:=xs) (t:=t) ne e c d st t0 r=>by
   obtain⟨fs,h1,h2,h3⟩:=ZL.firsts r
   obtain⟨x,tk,hx⟩:∃x tk,xs[0]?=some (.str x tk):=by
    rw[<-zM]
    cases hl:xs.toList with
    | nil=>rw[hl] at st;cases st;exact absurd rfl t0
    | cons v vs=>rw[hl] at st;cases st with | cons x tk _=>exact⟨x,tk,rfl⟩
   refine⟨.str x tk :: fs,⟨⟨_,_,_,_,rfl,e,c,d,hx⟩,h1⟩,jM (·+1) h2,fun v hv=>?_⟩
   rcases qG.mp hv with rfl | hv
   .exact⟨x,tk,rfl⟩
   .exact h3 v hv
theorem QiL{fin:Bool}{x:Str}{xs ys:QvX}:QgA fin (x :: xs) (x :: ys)=QgA fin xs ys:=qD rfl
theorem QiN{fin:Bool}{x y:Str}{xs ys:QvX}(h:x≠y):QgA fin (x :: xs) (y :: ys)=decide (x.cps.toList<y.cps.toList):=qy h
theorem QiM{prog:Program}{w:World}{A:Around}{fin:Bool}{Q:Bool->Shared->Prop}{s:Shared}:∀{us vs:QvZ}{xs ys:QvX}(i:Nat),StrsAre us xs->StrsAre vs ys->Q (QgA fin xs ys) s->W.KatLex prog w A true fin Q (us.zip vs) i s
 | _,_,_,_,i,.nil,h2,q=>by cases h2 <;> exact q
 | _,_,_,_,i,.cons _ _ _,.nil,q=>q
 | _,_,_,_,i,.cons x t h1,.cons y u h2,q=>by
   refine W.kat_cons (SeqAt.EqAt.str_str x t y u _ _ _ _ ?_)
   refine W.kat_go (fun e=>?_) (fun e=>?_)
   .have e:x=y:=eq_of_beq e
    subst e
    refine W.kat_yes (QiM (i+1) h1 h2 ?_)
    rw[QiL] at q
    exact q
   .have ne:x≠y:=fun z=>by rw[z,kY] at e;cases e
    have q':Q (decide (x.cps.toList<y.cps.toList)) s:=by
     rw[QiN ne] at q
     exact q
    refine W.kat_no ?_
    cases i with
    | zero=>exact strKind_oneLt prog w A _ s _ _ x.cps.toList y.cps.toList rfl rfl q'
    | succ i=>exact W.kat_one _ _ (lt_str q')
theorem WG:∀{us:QvZ}{xs:QvX},StrsAre us xs->us.length=xs.length
 | _,_,.nil=>rfl
 | _,_,.cons _ _ h=>jM (·+1) (WG h)
theorem Qgy{M:Model}{h:Heap}{x:Str}{t:Tok}:W.Looks M h (typeOf (.str x t)) (.type "str"):=fun A Q E s _ q=>qj q
theorem QcS{prog:Program}{w:World}{A:Around}{E:QvY}{s:Shared}{a:Addr}{vs:QvZ}{n:Nat}{ts:List (QvX)}{P:PySem.Fin->Shared->Prop}(ho:s.heap.get? a=some (seqObj "list" vs.toArray n))(ht:ZL s.heap a vs ts)(h64:vs.length<64)
 (h:P (.done (.ret .none)) { s with heap:=sortedHeap s.heap a vs ((YH ts).map fun i=>vs.getD i .none).toArray }):wpAny (model prog w) A (Builtin.«list.sort» { pos:=[.ref a] }) P E s:=by
 have hlen:=ht.len
 have z64:vs.length<=sizeLine:=Zg ((by omega))
 have ha:=qM ho
 rw[list_sort_plain a]
 refine qb (listItems_at ho rfl (qb (listUpdate_at ho rfl ?_ (by simpa using z64) (zK _))))
 obtain⟨e1,ho1⟩:∃e1,(s.heap.update a (Obj.mapSeq fun x=>#[])).get? a=some (seqObj "list" #[] e1):=⟨_,get?_update_seq ho fun x=>#[]⟩
 refine qb (seqEpoch_at ho1 rfl (qb (wpAny_newTuple ?_ (by simpa using z64))))
 refine qb (wpAny_newList ?_ (zK _))
 refine jk ?_
 have hz1:(s.heap.update a (Obj.mapSeq fun x=>#[])).objs.size=s.heap.objs.size:=Heap.size_update _ _ _
 have ho6:(((s.heap.update a (Obj.mapSeq fun x=>#[])).push (seqObj "tuple" vs.toArray 0)).push (seqObj "list" #[] 0)).get? a=some (seqObj "list" #[] e1):=by
  rw[Qqf _ a _ (by rw[size_push',hz1];exact qY (jY ha)),Qqf _ a _ (by rw[hz1];exact qY ha)]
  exact ho1
 have ht6:ZL (((s.heap.update a (Obj.mapSeq fun x=>#[])).push (seqObj "tuple" vs.toArray 0)).push (seqObj "list" #[] 0)) a vs ts:=ht.mono fun b o ne e=>by
  refine⟨?_,ne⟩
  have hb:=qM e
  rw[Qqf _ b _ (by rw[size_push',hz1];exact qY (jY hb)),Qqf _ b _ (by rw[hz1];exact qY hb)]
  exact(Heap.get?_update_ne _ _ _ _ ne).trans e
 have fin:∀st:SortSt,(arrOf st).map (fun x=>x.2)=((YH ts).map fun i=>vs.getD i .none).toArray->failedOf st=none ->
  wpAny (model prog w) A (do
   let __do_lift <-seqEpoch a
   Builtin.List.listUpdate (Value.ref a) fun x=>Array.map (fun x=>x.snd) (arrOf st)
   match failedOf st with
    | some e=>do
      rule "list.sort.comparison-raised"
      throw e
      if (__do_lift != e1)=true then do
          rule "list.sort.modified"
          raiseErrorWords "ValueError" "list modified during sort"
          ret Value.none
       else ret Value.none
    | x =>
      if (__do_lift != e1)=true then do
       rule "list.sort.modified"
       raiseErrorWords "ValueError" "list modified during sort"
       ret Value.none
      else ret Value.none) P E { s with heap:=((s.heap.update a (Obj.mapSeq fun x=>#[])).push (seqObj "tuple" vs.toArray 0)).push (seqObj "list" #[] 0) }:=fun st e1' e2'=>by
  refine qb (seqEpoch_at ho6 rfl (qb (listUpdate_at ho6 rfl ?_ (zK _) ?_)))
  .rw[e2']
   simp only[xK,zO,yX]
   rw[e1']
   exact qj h
  .rw[e1']
   simp only[qZ,qi,Gi]
   omega
 have hsz:vs.toArray.size=vs.length:=by simp
 have got:∀l:List Nat,l=List.range vs.length->l.map (fun i=>vs.getD i Value.none)=vs:=fun l e=>by
  subst e
  refine List.ext_getElem (by simp) fun i h1 h2=>?_
  simp only[List.getElem_map,Qsx]
  rw[zG,qz h2]
  rfl
 by_cases h2:vs.toArray.size<2
 .show wpAny _ _ (if vs.toArray.size<2 then _ else _) _ _ _
  rw[qD h2]
  refine qb (qj ?_)
  dsimp only
  rw[qD h2,StateT.run_pure]
  refine qb (qj ?_)
  refine fin _ ?_ rfl
  have e1:YH ts=List.range vs.length:=by
   unfold YH
   rw[qD (by omega),hlen]
  rw[got _ e1]
  show Array.map (fun x=>x.2) (vs.toArray.zip vs.toArray)=vs.toArray
  rw[show(fun x:Value×Value=>x.2)=Prod.snd from rfl]
  apply Array.ext'
  rw[Array.toList_map,Array.toList_zip]
  exact List.map_snd_zip (qt _)
 .show wpAny _ _ (if vs.toArray.size<2 then _ else _) _ _ _
  rw[qy h2]
  obtain⟨fs,k1,k2,k3⟩:=ht6.firsts
  have hn:2<=vs.length:=by omega
  refine qb (W.kat_kind (T:=.type "str") k1 (by omega) (fun v hv=>?_) (by decide) ?_)
  .obtain⟨x,tk,rfl⟩:=k3 v hv;exact Qgy
  rw[qy h2]
  refine qb (yp (W.kat_run (E:=E) (ks:=vs) (Q:=fun st s'=>(arrOf st).map (fun x=>x.2)=((YH ts).map fun i=>vs.getD i .none).toArray/\failedOf st=none/\s'={ s with heap:=((s.heap.update a (Obj.mapSeq fun x=>#[])).push (seqObj "tuple" vs.toArray 0)).push (seqObj "list" #[] 0) }) (G:=fun p s'=>p.toList=YH ts/\s'={ s with heap:=((s.heap.update a (Obj.mapSeq fun x=>#[])).push (seqObj "tuple" vs.toArray 0)).push (seqObj "list" #[] 0) }) rfl hn h64 (fun p st' s' _ e3 e4 g=>?_) ?_) (fun r s' q=>?_) fun _ _ x=>x)
  rotate_left
  rotate_left
  .obtain⟨q1,q2,rfl⟩:=q
   exact fin r.2 q1 q2
  .obtain⟨g1,g2⟩:=g
   refine⟨?_,e4,g2⟩
   rw[e3]
   apply Array.ext'
   simp only[Array.toList_map,zJ]
   rw[g1]
   refine yF fun i _=>?_
   show(W.kas_item (pairsOf vs) i).2=_
   rw[W.kas_item_eq]
  .refine InT.wp (n:=vs.length) (R:=Ys vs.length) (lt:=fun i j=>lexT (ts.getD i []) (ts.getD j [])) (fun i j C hi hj q=>?_) (Qfq (by omega)) ⟨?_,rfl⟩
   .obtain⟨b1,o1,x1,n1,a1,a2,a3,a4⟩:=ht6.at i (by omega)
    obtain⟨b2,o2,x2,n2,c1,c2,c3,c4⟩:=ht6.at j (by omega)
    show wpAny _ _ (keyLt' _ (vs.getD i .none) (vs.getD j .none)) _ _ _
    rw[a1,c1]
    refine W.kat_lt a2 a3 c2 c3 (QiM 0 a4 c4 ?_)
    have z1:=WG a4
    have z2:=WG c4
    rw[zf] at z1 z2
    rw[z1,z2]
    exact q
   .unfold YH
    rw[qy (by omega),hlen]
inductive YM(H:Hp):List Addr->List (QvX)->Prop
 | nil:YM H [] []
 | cons {b:Addr} {t:QvX} {bs:List Addr} {ts:List (QvX)} (e:H b=some (.tup (t.map V.str))) (t0:t≠[]) (r:YM H bs ts):YM H (b :: bs) (t :: ts)
theorem YM.len{H:Hp}:∀{bs:List Addr}{ts:List (QvX)},YM H bs ts->bs.length=ts.length
 | _,_,.nil=>rfl
 | _,_,.cons _ _ r=>jM (·+1) (YM.len r)
theorem YM.of{X:Cx}{pins:List (Addr×Obj)}{σ:St}{H:Hp}{s:Shared}{h':Heap}{a:Addr}(I:Inv X pins σ H s)(k:∀b o,s.heap.get? b=some o->h'.get? b=some o/\b≠a):∀{bs:List Addr}{ts:List (QvX)}{us:QvZ},YM H bs ts->QF (bs.map V.ref) us->ZL h' a us ts
 | _,_,_,.nil,v=>by cases v;exact .nil
 | _,_,_,.cons e t0 r,v=>by
   cases v with
   | cons h v =>
     cases h
     obtain⟨its,rv,⟨o,ho,hc,n,hd⟩,_⟩:=I.tuple (ye.of e)
     exact .cons (k _ _ ho).2 (k _ _ ho).1 hc hd (by simpa using JE rv) t0 (YM.of I k r v)
theorem G0:∀{xs:List V}{us:QvZ}(i:Nat),QF xs us->i<xs.length->QI (xs.getD i .non) (us.getD i .none)
 | _,_,0,.cons h _,_=>h
 | _,_,i+1,.cons _ v,hi=>G0 i v (yK hi)
theorem QbM{xs:List V}{us:QvZ}(v:QF xs us):∀{l:List Nat},(∀i∈l,i<xs.length)->QF (l.map fun i=>xs.getD i .non) (l.map fun i=>us.getD i .none)
 | [],_=>.nil
 | i :: l,h=>.cons (G0 i v (h i qL)) (QbM v fun j hj=>h j (qP _ hj))
end L2
namespace L2
open PySem PySem.Spec PyProof.Rows
section
variable {X:Cx}{pins:List (Addr×Obj)}{σ:St}{H:Hp}{s:Shared}{h':Heap}
end
end L2
namespace HT
open PySem PyProof.Rows
def QoY(a:Int)(x:Str)(c:Int)(y:Str):Bool:=if a=c then (if x=y then true else !decide (y.cps.toList<x.cps.toList)) else decide (a<=c)
def Qrd(a:Int)(x:Str)(c:Int)(y:Str):Bool:=if a=c then (if x=y then false else decide (y.cps.toList<x.cps.toList)) else decide (c<a)
theorem Qte(a:Int)(x:Str)(c:Int)(y:Str):Qrd a x c y = !QoY a x c y:=by
 unfold Qrd QoY
 split
 .split
  .rfl
  .rw[Bool.not_not]
 .by_cases h:c<a
  .rw[qp h,qF (by omega)];rfl
  .rw[qF h,qp (by omega)];rfl
section
open PySem.SeqAt
open PySem.AutoSeq1 (wpAny_loadPart')
open PySem.MeetsSeq PySem.MeetsSeq2 PySem.MeetsSeq3
theorem QaZ(A:Around)(s:Shared)(a:Str)(t:Tok)(c:Str)(u:Tok):∃e,SeqAt.EqAt A s (.str a t) (.str c u) e/\(e=true↔a=c) :=
 ⟨(a == c),SeqAt.EqAt.str_str a t c u,by simp⟩
theorem Qgb(A:Around)(s:Shared)(a:Int)(t:Tok)(c:Int)(u:Tok)(prog:Program)(w:World)(E:QvY)(Q:QvY)(h:Q (.bool (decide (a<=c))) s) :
 wpAny (model prog w) A (richCompare .LtE (.int a t) (.int c u)) Q E s :=
 (le_int h:wpAny (model prog w) A (compareOp .LtE (.int a t) (.int c u)) Q E s)
theorem Qf9(A:Around)(s:Shared)(a:Str)(t:Tok)(c:Str)(u:Tok)(prog:Program)(w:World)(E:QvY)(Q:QvY)(h:Q (.bool (!decide (c.cps.toList<a.cps.toList))) s) :
 wpAny (model prog w) A (richCompare .LtE (.str a t) (.str c u)) Q E s :=
 (PySem.P.le_str h:wpAny (model prog w) A (compareOp .LtE (.str a t) (.str c u)) Q E s)
inductive Vc(a:Int)(x:Str)(c:Int)(y:Str):List (Value×Value)->Prop
 | both (t1 t2 u1 u2:Tok):Vc a x c y [(.int a t1,.int c u1),(.str x t2,.str y u2)]
 | one (e:a=c) (t2 u2:Tok):Vc a x c y [(.str x t2,.str y u2)]
 | none (e:a=c) (e2:x=y):Vc a x c y []
theorem QpO(l b:Addr)(n n2:Nat)(dd dd2:Option Addr)(sl sl2:Array (Option Value))(a:Int)(x:Str)(c:Int)(y:Str)(t1 t2 u1 u2:Tok) :
 Meets (Builtin.«tuple.__le__» ⟨[.ref l,.ref b],[]⟩)
  (fun _ R s=>s.heap.get? l=some { cls:=.type "tuple",dict:=dd,data:=.seq #[.int a t1,.str x t2] n,slots:=sl }/\s.heap.get? b=some { cls:=.type "tuple",dict:=dd2,data:=.seq #[.int c u1,.str y u2] n2,slots:=sl2 } /\
    R (.ok (.ret (.bool (QoY a x c y)))) s) :=
 .of_wp fun prog w A R s h=>by
  obtain⟨hp,g,d,tk,os⟩:=s;obtain⟨hl,hb,h⟩:=h
  have f2:=AutoSeq1.sub_tuple_tuple
  wp_walk using Qsi hl,Qsi hb,wpAny_forIn_list _ (fun rest b s'=>b.1=none/\s'=⟨hp,g,d,tk,os⟩/\Vc a x c y rest) _
  case turn =>
   rintro⟨y',x'⟩ rest b s' ⟨hb',rfl,hP⟩
   cases hP with
   | both t1 t2 u1 u2 =>
     obtain⟨e,he,Qpa⟩:=Qc4 A.in1 ⟨hp,g,d,tk,os⟩ a t1 c u1
     refine qb (he prog w _ _ ?_)
     cases e with
     | true =>
       wp_walk
       exact⟨rfl,rfl,.one (Qpa.mp rfl) _ _⟩
     | false =>
       have ne:a≠c:=fun q=>absurd (Qpa.mpr q) qJ
       have hri:=Qgb A.in1 ⟨hp,g,d,tk,os⟩ a t1 c u1 prog w
       wp_walk using hri
       unfold QoY at h
       rw[qy ne] at h
       exact⟨_,rfl,by simpa using h⟩
   | one e1 t2 u2 =>
     obtain⟨e,he,Qpa⟩:=QaZ A.in1 ⟨hp,g,d,tk,os⟩ x t2 y u2
     refine qb (he prog w _ _ ?_)
     cases e with
     | true =>
       wp_walk
       exact⟨rfl,rfl,.none e1 (Qpa.mp rfl)⟩
     | false =>
       have ne:x≠y:=fun q=>absurd (Qpa.mpr q) qJ
       have hri:=Qf9 A.in1 ⟨hp,g,d,tk,os⟩ x t2 y u2 prog w
       wp_walk using hri
       unfold QoY at h
       rw[qD e1,qy ne] at h
       exact⟨_,rfl,h⟩
  case fin =>
   rintro⟨b1,b2⟩ s' ⟨hb',rfl,hP⟩
   simp only at hb'
   subst hb'
   cases hP with
   | none e1 e2 =>
     unfold QoY at h
     rw[qD e1,qD e2] at h
     wp_walk
     exact⟨_,rfl,by simpa[Builtin.Tuple.tupleCompareSizes] using h⟩
  case h =>
   exact⟨rfl,rfl,.both _ _ _ _⟩
end
end HT
namespace L2
open PySem PySem.Spec PyProof.Rows
inductive Qe4(K:Frag)(f:Int->Str->Int->Str->Bool)(x:V)(y:V)(H:Hp)(Q:VK):Prop
 | mk:∀p q a s c t,x=.ref p->y=.ref q->ye K H p [.int a,.str s]->ye K H q [.int c,.str t]->Q (.bl (f a s c t)) H->Qe4 K f x y H Q
def Qk8(K:Frag)(f:Int->Str->Int->Str->Bool):R2:=fun x y H Q=>Qe4 K f x y H Q
theorem Vl{a:Int}{s:Str}{its:QvZ}(r:QF [.int a,.str s] its):∃t1 t2,its=[.int a t1,.str s t2]:=by
 cases r with
 | cons h r =>
   cases r with
   | cons h2 r =>
     cases r
     obtain⟨t1,rfl⟩:=h
     obtain⟨t2,rfl⟩:=h2
     exact⟨t1,t2,rfl⟩
theorem Ql4{X:Cx}(hu:X.A.units<cLine):OpR X (compareOp .LtE) (Qk8 X.K HT.QoY):=by
 intro pins s σ H x y v u Q I rx ry h
 obtain⟨p,q,a,z,c,z2,rfl,rfl,ha,hb,k⟩:=h
 cases rx
 cases ry
 obtain⟨its,r1,p1,_⟩:=I.tuple ha
 obtain⟨its2,r2,p2,_⟩:=I.tuple hb
 obtain⟨t1,t2,rfl⟩:=Vl r1
 obtain⟨u1,u2,rfl⟩:=Vl r2
 obtain⟨⟨cls,dd,data,sl⟩,ho,hc,n,hd⟩:=id p1
 obtain⟨⟨cls2,dd2,data2,sl2⟩,ho2,hc2,n2,hd2⟩:=id p2
 simp only at hc hd hc2 hd2
 subst hc hd hc2 hd2
 exact richCompare_meets_room (op:=.LtE) ⟨_,ho,rfl⟩ ⟨_,ho2,rfl⟩ PySem.F.slot_tuple_le PySem.F.entry_tuple_le (PySem.F.args_tuple_le_2 _ _) (HT.QpO p q n n2 dd dd2 sl sl2 a z c z2 t1 t2 u1 u2)
  ⟨ho,ho2,⟨(fun x=>nomatch x),.bl _,H,I,rfl,k⟩⟩ hu
end L2
namespace L2
open PySem PySem.Spec PyProof.Rows
def ZP(h:Heap)(d:Addr)(es:Array DictEntry)(ep:Nat):Prop:=∃o,h.get? d=some o/\o.ExactDict/\o.data=.dict es ep
theorem ZP.lt{h:Heap}{d:Addr}{es:Array DictEntry}{ep:Nat}(x:ZP h d es ep):d<h.objs.size:=let ⟨_,e,_⟩:=x;qM e
theorem ZP.at{h h':Heap}{d:Addr}{es:Array DictEntry}{ep:Nat}(x:ZP h d es ep)(k:∀o,h.get? d=some o->h'.get? d=some o):ZP h' d es ep:=let ⟨o,e,r⟩:=x;⟨o,k o e,r⟩
theorem ZP.ty{s:Shared}{d:Addr}{es:Array DictEntry}{ep:Nat}(x:ZP s.heap d es ep):s.TypeIs (.ref d) "dict":=let ⟨o,e,c,_⟩:=x;⟨o,e,c.1⟩
section
variable {prog:Program}{w:World}{A:Around}{E:QvY}{s:Shared}{d it:Addr}{es:Array DictEntry}{ep i:Nat}
theorem Qcl{Q:QvY}(hd:(d == sysModules)=false)(hm:ZP s.heap d es ep)
 (hQ:Q (.ref s.heap.objs.size) { s with heap:=s.heap.push { cls:=.type "dict_keyiterator",data:=.fields #[.ref d,.int 0 0,.int es.size 0,.int ep 0] } }):wpAny (model prog w) A (pyIter (.ref d)) Q E s:=by
 have hT:=hm.ty
 obtain⟨o,ho,_,hdat⟩:=hm
 refine Qqd hT F.slot_dict_iter (z6 F.slot_dict_iter hT F.entry_dict_iter ?_ (F.args_dict_iter_1 _))
 unfold Builtin.«dict.__iter__»
 refine qb ?_
 unfold Builtin.Dict.dictSlotNone
 refine qb (wpAny_notOrdered_dict hT (qj ?_))
 show wpAny _ _ (Builtin.Dict.showsAll d >>= _) _ _ s
 unfold Builtin.Dict.showsAll
 rw[qy (by rw[hd];exact qJ)]
 refine qb (qj (qb (wpAny_dictEntries ho hdat (qb (wpAny_dictEpoch ho hdat ?_)))))
 exact qb (zP (qj ⟨_,rfl,"dict_keyiterator",_,⟨_,qH _ rfl,rfl⟩,yO.lookup,by simpa[rawInt] using hQ⟩))
theorem Qcm{Q:Option Value->Shared->Prop}(hit:s.heap.IsKeyIter it d i es.size ep)(hm:ZP s.heap d es ep){en:DictEntry}(hx:es[i]?=some en)
 (hQ:∀h',h'.IsKeyIter it d (i+1) es.size ep->Heap.SameBut it s.heap h'->Q (some en.key) { s with heap:=h' }):wpAny (model prog w) A (pyNext (.ref it)) Q E s:=by
 obtain⟨o,ho,hc,hd⟩:=id hit
 obtain⟨od,hod,_,hdd⟩:=hm
 unfold pyNext
 refine qb (wZ (jA (name:=Str.ofString "__next__") hit.typeIs yO
  (z6 yO hit.typeIs F.entry_dict_keyiterator_next ?_ (F.args_dict_keyiterator_next_1 _))))
 refine qb (qj (qb (qb ?_)))
 first | refine qb (wj hit.typeIs (qj ?_)) | refine qb (uB hit.typeIs (qj ?_))
 refine qb (QmE ho hd ?_)
 have hown:Builtin.Dict_items.ownsTuple "dict_keyiterator"=false:=by decide
 simp only[hown,zO,yX]
 show wpAny _ _ (if (Value.ref d == Value.none)=true then _ else _) _ _ s
 rw[qy (show ¬((Value.ref d == Value.none)=true) from qJ)]
 refine qb (qj (qb (wpAny_dictEntries hod hdd ?_)))
 rw[qy (by simp)]
 refine qb (qj (qb (wpAny_dictEpoch hod hdd ?_)))
 rw[qy (by simp)]
 refine qj ?_
 simp only[show ¬((i:Int)<0) from by omega,yX,jW,hx]
 refine qb ?_
 first | refine qb (wj hit.typeIs (qj ?_)) | refine qb (uB hit.typeIs (qj ?_))
 refine qb (wpAny_isOneOf_keyiter hit.typeIs ?_)
 show wpAny _ _ (setField (.ref it) 1 (rawInt ((i:Int)+1)) >>= _) _ _ s
 refine qb (vM ho hd (by simp) ?_)
 have hit':(s.heap.update it (Obj.mapFields (·.setIfInBounds 1 (rawInt ((i:Int)+1))))).IsKeyIter it d (i+1) es.size ep :=
  ⟨_,jt _ ho (gj (jD hd _)),(Qqe ..).trans hc,by rw[jD hd];simp[rawInt]⟩
 refine qb (jk (qb (wpAny_isOneOf_keyiter (s:={ s with heap:=s.heap.update it (Obj.mapFields (·.setIfInBounds 1 (rawInt ((i:Int)+1)))) }) hit'.typeIs ?_)))
 show wpAny _ _ (pure en.key) _ _ _
 exact qj (qj ⟨_,rfl,qj (hQ _ hit' (jq ..))⟩)
theorem Qe1{Q:Option Value->Shared->Prop}(hh:A.handled=none)(hit:s.heap.IsKeyIter it d i es.size ep)(hm:ZP s.heap d es ep)(hx:es.size<=i)
 (hQ:∀h',Heap.ExtBut it s.heap h'->Q none { s with heap:=h' }):wpAny (model prog w) A (pyNext (.ref it)) Q E s:=by
 obtain⟨o,ho,hc,hd⟩:=id hit
 obtain⟨od,hod,_,hdd⟩:=hm
 unfold pyNext
 refine qb (wZ (jA (name:=Str.ofString "__next__") hit.typeIs yO
  (z6 yO hit.typeIs F.entry_dict_keyiterator_next ?_ (F.args_dict_keyiterator_next_1 _))))
 refine qb (qj (qb (qb ?_)))
 first | refine qb (wj hit.typeIs (qj ?_)) | refine qb (uB hit.typeIs (qj ?_))
 refine qb (QmE ho hd ?_)
 have hown:Builtin.Dict_items.ownsTuple "dict_keyiterator"=false:=by decide
 simp only[hown,zO,yX]
 show wpAny _ _ (if (Value.ref d == Value.none)=true then _ else _) _ _ s
 rw[qy (show ¬((Value.ref d == Value.none)=true) from qJ)]
 refine qb (qj (qb (wpAny_dictEntries hod hdd ?_)))
 rw[qy (by simp)]
 refine qb (qj (qb (wpAny_dictEpoch hod hdd ?_)))
 rw[qy (by simp)]
 refine qj ?_
 simp only[show ¬((i:Int)<0) from by omega,yX,jW,vI hx]
 refine qb ?_
 first | refine qb (wj hit.typeIs (qj ?_)) | refine qb (uB hit.typeIs (qj ?_))
 show wpAny _ _ (setField (.ref it) 0 .none >>= _) _ _ s
 refine qb (vM ho hd (by simp) ?_)
 show wpAny _ _ (newExc (.type "StopIteration") [] >>= _) _ _ _
 refine qb ?_
 simp only[newExc,newTuple]
 refine qb (zP ?_ (by size_fits))
 refine qb (m:=firstArgMember _ _) (wpAny_of_eq (a:=Value.none) (by first | rfl | (simp only[firstArgMember];rfl)) ?_)
 refine zP ?_ (by size_fits)
 simp only[raiseNew]
 refine qb (wpAny_handled ?_)
 rw[show A.in1.handled=none from hh]
 refine qb (qj (wpAny_throw ?_))
 refine qb (Qq9 (T:="StopIteration") (b:=true) ⟨_,qH _ rfl,rfl⟩ isSubtype_stop ?_)
 exact qj (hQ _ (((jq ..).extBut.push _).push _))
theorem Qka(lo:(d == sysModules)=false):KdlSrc prog w "dict" d d es.size (fun i v=>∃en,es[i]?=some en/\v=en.key) (fun h=>ZP h d es ep) where
 type:=fun _ hm=>hm.ty
 there:=fun _ hm=>⟨hm.lt,hm.lt⟩
 keep:=fun _ _ hm hk=>hm.at fun o e=>hk d (.inl rfl) o e
 notList:=by decide
 notTuple:=by decide
 hint:=fun _ _ _ _ hm hq=>PySem.W.kdl_hint_dict hm.ty hq
 iter:=fun A s hh hm=>⟨_,fun i h=>h.IsKeyIter s.heap.objs.size d i es.size ep/\ZP h d es ep,(fun _ _ hq=>Qcl lo hm hq),{
  sub:=fun b hb=>by simp at hb;simp[hb]
  frame:=fun _ _ _ st hk=>⟨st.1.at fun o e=>hk _ (by simp) o e,st.2.at fun o e=>hk d (by simp) o e⟩
  item:=fun i s2 Q E hi st hQ=>by
   have hx:es[i]?=some es[i]:=jj hi
   refine Qcm st.1 st.2 hx fun h' hit' hs'=>?_
   exact hQ _ h' s2.toks ⟨_,hx,rfl⟩ ⟨hit',st.2.at fun o e=>hs'.extBut d o (qY hm.lt) e⟩ fun b o hb e=>hs'.extBut b o (fun h=>hb (by simp[h])) e
  done:=fun s2 Q E st hQ=>Qe1 hh st.1 st.2 (qt _) fun h' he'=>hQ h' s2.toks fun b o hb e=>he' b o (fun h=>hb (by simp[h])) e
  self:=fun _ _ _ _ st hQ=>wpAny_pyIter_keyiter st.1 hQ },⟨⟨_,qH _ rfl,rfl,rfl⟩,hm.at fun _ e=>qm _ e⟩⟩
end
end L2
namespace L2
open PySem PySem.Spec PyProof.Rows
inductive Um(H:Hp):List Addr->List (List Key)->Prop
 | nil:Um H [] []
 | cons {b:Addr} {k:List Key} {bs:List Addr} {ks:List (List Key)} (e:H b=some (.tup (k.map kV))) (r:Um H bs ks):Um H (b :: bs) (k :: ks)
theorem Um.len{H:Hp}:∀{bs:List Addr}{ks:List (List Key)},Um H bs ks->bs.length=ks.length
 | _,_,.nil=>rfl
 | _,_,.cons _ r=>jM (·+1) (Um.len r)
def QV(t:QvX):List Key:=t.map Sum.inr
theorem JZ(t:QvX):(QV t).map kV=t.map V.str:=by unfold QV;rw[zJ];rfl
theorem Um.texts{H:Hp}:∀{bs:List Addr}{ts:List (QvX)},Um H bs (ts.map QV)->(∀t∈ts,t≠[])->YM H bs ts
 | [],[],_,_=>.nil
 | _ :: _,t :: ts,.cons e r,h=>.cons (by rw[e,JZ]) (h t qL) (Um.texts r fun z hz=>h z (qP _ hz))
theorem QkC{H:Hp}{kvs:List (List Key×V)}{xs:List (List Key×Addr×Value)}(r:KT H kvs xs):Um H (xs.map (·.2.1)) (kvs.map (·.1)):=by
 induction r with
 | nil=>exact .nil
 | cons h _ ih=>exact .cons (h.2.1) ih
theorem GY:∀bs:List Addr,QF (bs.map V.ref) (bs.map Value.ref)
 | []=>.nil
 | _ :: bs=>.cons rfl (GY bs)
theorem QhJ{P:Program}{w:World}{H:Hp}{h:Heap}{a:Addr}{kvs:List (List Key×V)}(ok:QY P w H h a (.dT kvs)) :
 kvs.length<=sizeLine/\(a == sysModules)=false/\∃(bs:List Addr)(es:Array DictEntry)(ep:Nat),Um H bs (kvs.map (·.1))/\ZP h a es ep/\es.toList.map (·.key)=bs.map Value.ref:=by
 obtain⟨z,y,xs,r,o,es,ep,h1,h2,h3,h4,_⟩:=ok
 refine⟨z,y,xs.map (·.2.1),es,ep,QkC r,⟨o,h1,h2,h3⟩,?_⟩
 rw[h4,zJ,zJ]
 rfl
inductive WP(xs:List V)(H:Hp)(Q:VK):Prop
 | mk:∀(p:Addr)(kvs:List (List Key×V))(ts:List (QvX)),xs=[.ref p]->H p=some (.dT kvs)->kvs.map (·.1)=ts.map QV->(∀t∈ts,t≠[])->ts.length<64->(∀l bs,H l=none->YM H bs ts->Q (.ref l) (upd H l (.lst ((YH ts).map fun i=>(bs.map V.ref).getD i .non))))->WP xs H Q
theorem Wx{X:Cx}(hc:X.calm=true):JD X (.builtin "sorted") (fun xs H Q=>WP xs H Q):=by
 intro pins s σ H xs us Q I r h
 obtain⟨p,kvs,ts,rfl,hp,hks,h0,hl,q⟩:=h
 obtain⟨u,rfl,rx⟩:=YQ r
 cases rx
 obtain⟨hz,hlo,bs,es,ep,hb,hm,hk⟩:=QhJ (show QY X.prog X.w H s.heap p (.dT kvs) from I.hok p _ hp)
 rw[hks] at hb
 have hT:=hb.texts h0
 have hbl:bs.length=ts.length:=hT.len
 have hsz:es.size=bs.length:=by have:=jM List.length hk;simpa using this
 have hh:X.A.in1.handled=none:=I.ok.hd hc
 refine QpL kind_sorted plain_sorted entry_sorted (args_sorted1 _) ?_
 unfold Builtin.«sorted»
 refine qb (m:=checkCount "sorted" 1 1 _) (qj ?_)
 refine qb (XC (A:=X.A.in1) (Qka hlo) hh hm (by rw[hsz,hbl];exact Zg ((by omega))) fun h' tk acc hkp hgr hacc=>?_)
 have ea:acc.toList=bs.map Value.ref:=by
  rw[<-hk]
  refine List.ext_getElem? fun j=>?_
  rw[q8]
  by_cases hj:j<es.size
  .have hj2:j<acc.size:=by rw[hacc.1];exact hj
   obtain⟨en,e1,e2⟩:=hacc.2 j acc[j] (jj hj2)
   rw[zM,zM,e1,jj hj2,e2]
   rfl
  .rw[zM,zM,vI (by rw[hacc.1];omega),vI (by omega)]
   rfl
 rw[ea]
 have rv:=GY bs
 have z64:(bs.map Value.ref).length<=sizeLine:=by rw[qi];exact Zg ((by omega))
 refine qb (wpAny_newList ?_ z64)
 have hoL:(h'.push (seqObj "list" (bs.map Value.ref).toArray 0)).get? h'.objs.size=some (seqObj "list" (bs.map Value.ref).toArray 0):=qH _ rfl
 have old:∀b o,s.heap.get? b=some o->(h'.push (seqObj "list" (bs.map Value.ref).toArray 0)).get? b=some o/\b≠h'.objs.size:=fun b o e=>by
  have e1:=hkp b o e
  exact⟨qm _ e1,qY (qM e1)⟩
 have hT2:=hT.of I (a:=h'.objs.size) old rv
 refine qb (jk (z6 slot_list_sort ⟨_,hoL,rfl⟩ entry_list_sort (QcS hoL hT2 (by rw[qi];omega) ⟨_,rfl,?_⟩) (args_list_sort _)))
 refine qj ⟨_,rfl,?_⟩
 obtain⟨e,he⟩:=sortedHeap_at (out:=((YH ts).map fun i=>(bs.map Value.ref).getD i .none).toArray) hoL
 have hzz:s.heap.objs.size<=h'.objs.size:=gb hgr
 refine⟨.ref h'.objs.size,_,I.laid (t':=tk) (fun b u hb=>?_) hzz (show QY X.prog X.w _ _ _ (.lst ((YH ts).map fun i=>(bs.map V.ref).getD i .non)) from⟨?_,(YH ts).map (fun i=>(bs.map Value.ref).getD i .none),e,QbM rv fun i hi=>?_,he⟩),rfl,q _ bs (I.hok.fresh hzz) hT⟩
 .obtain⟨o1,o2⟩:=old b u hb
  rw[sortedHeap_old o2 (qM o1)]
  exact o1
 .rw[qi,Gi];exact Zg ((by omega))
 .rw[qi,hbl];exact QbD hi
end L2
namespace HT
open PySem PyProof.Rows
variable {prog:Program}{w:World}{A:Around}{E:QvY}{s:Shared}
theorem Qm9{t sl:Addr}{items:Array Value}{vl vu:Value}{lo hi:Option Int}{Q:QvY}(ht:IsTup s.heap t items)(hs:s.heap.IsSliceOf sl vl vu .none)(pl:IsPart vl lo)(pu:IsPart vu hi)
 (hw:vq items.size 0 lo=0/\vq items.size items.size hi=items.size) (h:Q (.ref t) s):wpAny (model prog w) A (getItem (.ref t) (.ref sl)) Q E s:=by
 have hTs:s.TypeIs (.ref sl) "slice":=let ⟨os,hos,hcs,_⟩:=hs;⟨os,hos,hcs⟩
 unfold getItem
 try with_reducible refine jk ?_
 first | refine qb (qj ?_) | skip
 refine qb (wpAny_sequenceKey ht.typeIs (by decide) ?_)
 refine qb (jA (name:=Str.ofString "__getitem__") ht.typeIs slot_tuple_getitem
  (z6 slot_tuple_getitem ht.typeIs entry_tuple_getitem ?_ (args_tuple_getitem _ _)))
 show wpAny _ _ (Builtin.Tuple.tupleItemsOf (.ref t) >>= _) _ _ s
 refine qb (tupleItemsOf_ ht (qb (QrS hTs ?_)))
 rw[qD (by decide)]
 refine qb (Ub hs pl pu ?_)
 show wpAny _ _ (if (((vq items.size 0 lo:Nat):Int) == 0 && (1:Int) == 1 && (vq items.size items.size hi - vq items.size 0 lo) == items.size)=true then _ else _) _ _ s
 rw[qD (by rw[hw.1,hw.2];simp)]
 show wpAny _ _ (Builtin.Tuple.tupleIsExact (.ref t) >>= _) _ _ s
 unfold Builtin.Tuple.tupleIsExact
 refine qb ?_
 refine qb (QrS ht.typeIs (qj ?_))
 show wpAny _ _ (if (Value.type "tuple" == Value.type "tuple")=true then _ else _) _ _ s
 rw[qD (by decide)]
 refine qb (QrU ?_)
 exact qj ⟨_,rfl,qj h⟩
end HT
namespace L2
open PySem PySem.Spec PyProof.Rows
inductive QhO(K:Frag)(x:V)(lo:Option Int)(hi:Option Int)(H:Hp)(Q:VK):Prop
 | mk:∀a xs,x=.ref a->ye K H a xs->((HT.vq xs.length 0 lo=0/\HT.vq xs.length xs.length hi=xs.length)->Q (.ref a) H)->(∀p,H p=none->Q (.ref p) (upd H p (.tup (XQ xs lo hi))))->QhO K x lo hi H Q
def rSlA(K:Frag):V->Option Int->Option Int->Hp->VK->Prop:=fun x lo hi H Q=>QhO K x lo hi H Q
theorem QeT{X:Cx}:SlR X (rSlA X.K):=by
 intro pins s σ H x v vl vu lo hi sl Q I rx hs pl pu h
 obtain⟨a,xs,rfl,hx,q1,q2⟩:=h
 by_cases hw:HT.vq xs.length 0 lo=0/\HT.vq xs.length xs.length hi=xs.length
 .cases rx
  obtain⟨its,r,ht,hz⟩:=I.tuple hx
  have hlen:its.toArray.size=xs.length:=by rw[qZ];exact r.length.symm
  exact⟨"tuple",_,slot_tuple_getitem.lookup,ht.typeIs,HT.Qm9 ht hs pl pu (by rw[hlen];exact hw) ⟨.ref a,H,I,rfl,q1 hw⟩⟩
 .exact QlN pins s σ H (.ref a) v vl vu lo hi sl Q I rx hs pl pu ⟨a,xs,rfl,hx,hw,q2⟩
section
variable {X:Cx}{pins:List (Addr×Obj)}{σ:St}{H:Hp}{s:Shared}{a:Addr}{oa:Obj}{kvs:List (List Key×V)}
theorem Inv.Qun(I:Inv X pins σ H s)(e:H a=some (.dT kvs)):∃oa,Inv X pins σ (upd H a (.uH oa (.dT kvs))) s:=by
 obtain⟨z,y,xs,r,ob,es,ep,eo,c⟩:=(show QY X.prog X.w H s.heap a (.dT kvs) from I.hok a _ e)
 have r':Paired (fun(p:List Key×V)(q:List Key×Addr×Value)=>p.1=q.1/\(upd H a (.uH ob (.dT kvs))) q.2.1=some (.tup (p.1.map kV))/\QI p.2 q.2.2) kvs xs:=Paired.Quc r fun p q z=>⟨z.1,by rw[Qa (fun w=>by have:=z.2.1;rw[w,e] at this;cases this)];exact z.2.1,z.2.2⟩
 exact⟨ob,I.write (x:=a) (e:=a) (o:=.uH ob (.dT kvs)) (t':=s.toks) (h':=s.heap) (by rw[e];exact True.intro) (.inl rfl) (fun _ _ _ q=>q) ⟨ob,eo⟩ ⟨eo,z,y,xs,r',ob,es,ep,eo,c⟩⟩
theorem Inv.Qqg(I:Inv X pins σ H s)(nf:∀o u,X.H₀ a≠some (.uH o u))(e:H a=some (.uH oa (.dT kvs))):Inv X pins σ (upd H a (.dT kvs)) s:=by
 have ne0:∀b,H b=none->b≠a:=fun b n z=>by rw[z,e] at n;cases n
 have ne1:∀b o,H b=some o->o≠.uH oa (.dT kvs)->b≠a:=fun b o q n z=>by rw[z,e] at q;cases q;exact n rfl
 obtain⟨_,okd⟩:=(show QY X.prog X.w H s.heap a (.uH oa (.dT kvs)) from I.hok a _ e)
 have tp:∀c xs,H c=some (.tup xs)->(upd H a (.dT kvs)) c=some (.tup xs):=fun c xs z=>by rw[Qa (ne1 c _ z (fun y=>by cases y))];exact z
 have ow:∀b c,H c=some (.own b)->(upd H a (.dT kvs)) c=some (.own b):=fun b c z=>by rw[Qa (ne1 c _ z (fun y=>by cases y))];exact z
 refine⟨I.ok,I.os,I.bare,⟨I.base.keep,I.base.slot,fun b o q n hx=>?_,I.base.there,fun b xs q=>tp _ _ (I.base.tups b xs q),fun b o u q=>?_,fun b ps q=>?_⟩,I.loc,I.cell,?_,fun x c q=>?_,fun p hp=>?_,fun b u q=>?_,I.len⟩
 .have:=I.base.free b o q n hx
  rw[Qa (ne0 b this)];exact this
 .have hb:b≠a:=fun z=>nf o u (by rw[<-z];exact q)
  rw[Qa hb];exact I.base.Qnp b o u q
 .obtain⟨m,h⟩:=I.base.Qn6 b ps q
  exact⟨m,by rw[Qa (ne1 b _ h (fun z=>by cases z))];exact h⟩
 .rw[Qa (ne0 _ I.free)];exact I.free
 .rw[Qa (ne0 _ (I.vz x c q))];exact I.vz x c q
 .obtain⟨h1,h2,h3⟩:=I.pin p hp
  exact⟨h1,by rw[Qa (ne0 _ h2)];exact h2,h3⟩
 .by_cases hb:b=a
  .subst hb
   rw[Qc] at q
   cases q
   exact QY.stay (show QY X.prog X.w H s.heap b (.dT kvs) from okd) (fun _ _ _ z=>z) (ow b) tp
  .rw[Qa hb] at q
   exact(I.hok b u q).stay (fun _ _ _ z=>z) (ow b) tp
end
def Qqg(a:Addr)(oa:Obj)(kvs:List (List Key×V))(D:Y7):Y7 :=
 { nx:=fun σ H=>H a=some (.uH oa (.dT kvs))/\D.nx σ (upd H a (.dT kvs)),rt:=fun v H=>H a=some (.uH oa (.dT kvs))/\D.rt v (upd H a (.dT kvs)),bk:=fun σ H=>H a=some (.uH oa (.dT kvs))/\D.bk σ (upd H a (.dT kvs)),ct:=fun σ H=>H a=some (.uH oa (.dT kvs))/\D.ct σ (upd H a (.dT kvs)) }
inductive QbV(ts:TS)(D:Y7)(σ:St)(H:Hp):Prop
 | mk:∀a kvs,H a=some (.dT kvs)->(∀oa,ts (Qqg a oa kvs D) σ (upd H a (.uH oa (.dT kvs))))->QbV ts D σ H
def Qlu(ts:TS):TS:=fun D σ H=>QbV ts D σ H
theorem Qh0{X:Cx}{st:Stmt}{ts:TS}(hb:PS X st ts):PS X st (Qlu ts):=by
 rintro pins s σ H D I ⟨a,kvs,e,h⟩
 obtain⟨oa,J⟩:=I.Qun e
 have nf:∀o u,X.H₀ a≠some (.uH o u):=fun o u z=>by have:=I.base.Qnp a o u z;rw[e] at this;cases this
 refine jO (hb pins s σ _ _ J (h oa)) fun f s' q=>?_
 cases f with
 | next=>obtain⟨σ7,H7,I7,n7⟩:=q;exact⟨σ7,_,I7.Qqg nf n7.1,n7.2⟩
 | cont=>obtain⟨σ7,H7,I7,n7⟩:=q;exact⟨σ7,_,I7.Qqg nf n7.1,n7.2⟩
 | brk=>obtain⟨σ7,H7,I7,n7⟩:=q;exact⟨σ7,_,I7.Qqg nf n7.1,n7.2⟩
 | ret v=>obtain⟨x7,σ7,H7,I7,r7,n7⟩:=q;exact⟨x7,σ7,_,I7.Qqg nf n7.1,r7,n7.2⟩
def QvS(a:Addr)(oa:Obj)(kvs:List (List Key×V))(bs:List Addr):It:=⟨fun i H=>H a=some (.uH oa (.dT kvs))/\i<bs.length,fun i H x H'=>H'=H/\∃b,bs[i]?=some b/\x=.ref b,fun i H=>H a=some (.uH oa (.dT kvs))/\bs.length<=i⟩
theorem Qfx{P:Program}{w:World}{H:Hp}{h:Heap}{a:Addr}{oa:Obj}{kvs:List (List Key×V)}{es:Array DictEntry}{ep:Nat}(ok:HOk P w H h)(e:H a=some (.uH oa (.dT kvs)))(hd:oa.data=.dict es ep):ZP h a es ep:=by
 obtain⟨e1,z,y,xs,r,ob,es',ep',eo,c1,c2,c3⟩:=(show QY P w H h a (.uH oa (.dT kvs)) from ok a _ e)
 rw[e1] at eo
 cases eo
 exact⟨oa,e1,c1,hd⟩
theorem Qdx{P:Program}{w:World}{K:Frag}{tg:Expr}(a it:Addr)(oa:Obj)(kvs:List (List Key×V))(bs:List Addr)(es:Array DictEntry)(ep:Nat)(hd:oa.data=.dict es ep)(hb:es.toList.map (·.key)=bs.map Value.ref):Qjy P w K tg (QvS a oa kvs bs) [it] it (fun i h=>h.IsKeyIter it a i es.size ep) where
 mem:=by simp
 obj:=fun i h st b hb=>by
  have e:b=it:=by simpa using hb
  subst e
  obtain⟨o,e,c,d⟩:=st
  exact⟨o,e,fun v z=>by rw[d] at z;cases z⟩
 keep:=fun i h h' st k=>by
  obtain⟨o,e,c⟩:=st
  exact⟨o,k it (by simp) o e,c⟩
 item:=by
  intro X hP hw hK hc i pins s σ H E I hf st hg
  subst hP hw hK
  obtain⟨hH,hlt⟩:=hg
  have hm:=Qfx I.hok hH hd
  have hsz:es.size=bs.length:=by have:=jM List.length hb;simpa using this
  obtain⟨f0,f1,f2,f3,f4,f5⟩:=hf it (by simp)
  have hx:es[i]?=some es[i]:=jj (by omega)
  have hkey:(es[i]'(by omega)).key=Value.ref bs[i]:=by
   have h1:(es.toList.map (·.key))[i]?=(bs.map Value.ref)[i]?:=by rw[hb]
   rw[q8,q8,zM,hx,qz hlt] at h1
   exact qR h1
  refine Qcm st hm hx fun h' st' sb=>?_
  rw[hkey]
  have I1:Inv X pins σ H { s with heap:=h' }:=I.turned (t':=s.toks) (fun b o hb e=>(sb.2 b hb).trans e) f0 f1 f3 f4 f5
  obtain⟨o,e,c,d⟩:=id st'
  exact⟨_,rfl,Qfw (s:={ s with heap:=h' }) e c d (by decide) ⟨.ref bs[i],H,I1,rfl,⟨rfl,bs[i],qz hlt,rfl⟩,st',fun b hb=>(hf b hb).1⟩⟩
 done:=by
  intro X hP hw hK hc i pins s σ H E I hf st hg
  subst hP hw hK
  obtain⟨hH,hge⟩:=hg
  have hm:=Qfx I.hok hH hd
  have hsz:es.size=bs.length:=by have:=jM List.length hb;simpa using this
  obtain⟨f0,f1,f2,f3,f4,f5⟩:=hf it (by simp)
  exact Qe1 (I.ok.hd hc) st hm (by omega) fun h' eb=>⟨rfl,I.turned (t':=s.toks) (fun b o hb e=>eb b o hb e) f0 f1 f3 f4 f5⟩
 self:=fun _ _ _ _ _ st h=>wpAny_pyIter_keyiter st h
inductive Qc2(R:(It->Hp->Prop))(x:V)(H1:Hp):Prop
 | mk:∀a oa kvs,x=.ref a->H1 a=some (.uH oa (.dT kvs))->(∀bs,Um H1 bs (kvs.map (·.1))->R (QvS a oa kvs bs) H1)->Qc2 R x H1
def Qmn(tl:TE):TI:=fun σ H R=>tl σ H fun x H1=>Qc2 R x H1
theorem Qh4{X:Cx}{tg l:Expr}{tl:TE}(hl:PE X l tl):PI X tg l (Qmn tl):=by
 intro pins s σ H R I h
 refine jO (hl pins s σ H _ I h) fun v s1 ⟨x,H1,I1,r1,q1⟩=>?_
 obtain⟨a,oa,kvs,e,hH,q⟩:=q1
 subst e
 cases r1
 obtain⟨e1,okd⟩:=(show QY X.prog X.w H1 s1.heap a (.uH oa (.dT kvs)) from I1.hok a _ hH)
 obtain⟨_,hlo,bs,es,ep,hb,⟨o,h1,h2,h3⟩,hk⟩:=QhJ okd
 rw[e1] at h1
 cases h1
 refine Qcl hlo ⟨oa,e1,h2,h3⟩ ?_
 refine⟨s1.heap.objs.size,[s1.heap.objs.size],_,_,H1,rfl,I1.kept (t':=s1.toks) fun b o e=>qm _ e,Qdx a _ oa kvs bs es ep h3 hk,⟨_,qH _ rfl,rfl,rfl⟩,fun b hb=>?_,q bs hb⟩
 have e:b=s1.heap.objs.size:=by simpa using hb
 subst e
 exact I1.Quo (qt _) (I1.hok.fresh (qt _))
theorem Qdc{a:Addr}{oa:Obj}{kvs:List (List Key×V)}{bs:List Addr}{α:Type}{xs:List α}{fr:List (Nat×Str)}{tt:TT}{te:TE}{σ:St}{H1:Hp}{Q:VK}(g:α->V)(pr:α->Bool)(f:α->V)(hz:xs.length<=sizeLine)(hS:H1 a=some (.uH oa (.dT kvs)))(hk:bs.map V.ref=xs.map g)
 (htt:∀(x:α)(H3:Hp)(Q':Bool->Hp->Prop),x∈xs->Qo H1 H3->Q' (pr x) H3->tt (some (g x) :: frV σ fr) H3 Q')
 (hte:∀(x:α)(H3:Hp)(Q':VK),x∈xs->Qo H1 H3->pr x=true->Q' (f x) H3->te (some (g x) :: frV σ fr) H3 Q')
 (hQ:∀D,H1 D=none->Q (.ref D) (upd H1 D (.lst ((xs.filter pr).map f)))) :
 ZU (QvS a oa kvs bs) fr tt te σ H1 Q:=by
 have hl:bs.length=xs.length:=by have:=jM List.length hk;simpa using this
 unfold ZU
 intro D hD
 refine⟨fun i m ys H2=>m=xs.length - i/\i<=xs.length/\ys=((xs.take i).filter pr).map f/\H2=upd H1 D (.lst ys),⟨xs.length,by simp,zK _,by simp,rfl⟩,?_⟩
 rintro i m ys H2 ⟨rfl,hi,rfl,rfl⟩
 refine⟨Qc,?_⟩
 have s1:Qo H1 (upd H1 D (.lst (((xs.take i).filter pr).map f))):=Qo.z7 hD
 have hS2:=s1 _ _ hS
 by_cases hlt:i<xs.length
 .have hx0:(xs.map g)[i]?=some (g xs[i]):=by rw[q8,qz hlt];rfl
  refine .inr ⟨⟨hS2,by omega⟩,?_⟩
  rintro v H3 ⟨rfl,b,hb,rfl⟩
  have hx:(xs.map g)[i]?=some (V.ref b):=by rw[<-hk,q8,hb];rfl
  rw[hx0] at hx
  have hx:=qR hx
  rw[<-hx]
  have hm:xs[i]∈xs:=jT hlt
  have et:xs.take (i+1)=xs.take i++[xs[i]]:=by rw[jX,qz hlt];rfl
  refine htt xs[i] _ _ hm s1 ?_
  cases hp:pr xs[i]
  .refine Q4 ⟨xs.length - (i+1),by omega,rfl,hlt,?_,rfl⟩
   rw[et,zE,qX,hp]
   simp
  .refine Zi (hte xs[i] _ _ hm s1 hp ⟨Qc,?_,xs.length - (i+1),by omega,rfl,hlt,?_,XT⟩)
   .have:=q9 pr (xs.take i)
    rw[zN] at this
    rw[qi]
    omega
   .rw[et,zE,qX,hp,qQ]
    simp
 .have e:i=xs.length:=by omega
  subst e
  refine .inl ⟨⟨hS2,by omega⟩,?_⟩
  have:=hQ D hD
  rw[QoW]
  exact this
end L2
namespace Hd
open PySem PySem.W PySem.Calls PyProof.Rows L2
noncomputable def QoZ(st:SharedT->Thread->Option (SharedT×Thread))(ok:Thread->Bool)(n:Nat):SharedT->Thread->Option SharedT :=
 @Nat.rec (fun _=>SharedT->Thread->Option SharedT) (fun _ _=>none) (fun _ ih s t=>match through t with
  | true=>some s
  | false=>match ok t with
    | false=>none
    | true=>match st s t with
      | some (s',t')=>ih s' t'
      | none=>none) n
theorem Qf5(st:SharedT->Thread->Option (SharedT×Thread))(ok:Thread->Bool)(n:Nat)(s:SharedT)(t:Thread):QoZ st ok (n+1) s t=(match through t with
 | true=>some s
 | false=>match ok t with
   | false=>none
   | true=>match st s t with
     | some (s',t')=>QoZ st ok n s' t'
     | none=>none):=rfl
theorem QeZ{tb:String->Option Builtin}{p:Program}{w:World}{n₀:Nat}{ann:Option Value}:∀(n:Nat)(s:SharedT)(t:Thread)(s':SharedT),
 QoZ (stepT (denote tb) p w) (stepOk n₀ ann) n s t=some s'->topRun tb p w n₀ ann n s.abs t=some s'.abs
 | 0,_,_,_,h=>nomatch (h:none=some _)
 | n+1,s,t,s',h=>by
   rw[Qf5] at h
   unfold topRun
   cases ht:through t with
   | true=>rw[ht] at h;cases h;rfl
   | false =>
     rw[ht] at h
     cases hk:stepOk n₀ ann t with
     | false=>rw[hk] at h;cases h
     | true =>
       rw[hk] at h
       dsimp only at h ⊢
       cases hs:stepT (denote tb) p w s t with
       | none=>rw[hs] at h;cases h
       | some x =>
         obtain⟨s₂,t₂⟩:=x
         rw[hs] at h
         rw[stepT_spec hs]
         exact QeZ n s₂ t₂ s' h
def Qjq(t:BT)(n:Nat):List Obj->BT
 | []=>t
 | o :: r=>Qjq (t.ins n o) (n+1) r
noncomputable def Qlh(P:Params):BT:=Qjq .nil 0 (boot_heap P).objs.toList
theorem Qg0(P:Params):((boot_heap P).isNs mainGlobals,(boot_heap P).objs.size,(boot_heap P).nsMap mainGlobals "__annotations__")=(true,11,some (.ref 6)):=by kernel_rfl
theorem Qjt(P:Params):absHeap (Qlh P) 11 {}=boot_heap P:=by kernel_rfl
noncomputable def S0(w:World)(os:OsState):SharedT:=⟨Qlh w.params,11,{},#[],boot_drawn,boot_toks,os⟩
theorem QmC(w:World)(os:OsState):(S0 w os).abs=⟨boot_heap w.params,#[],boot_drawn,boot_toks,os⟩:=jM (fun h=>(⟨h,#[],boot_drawn,boot_toks,os⟩:Shared)) (Qjt w.params)
noncomputable def chk(p:Program)(P:Params)(s:Shared):Bool:=staticsOk (importedModules p.main.body) (boot_heap P) s.heap && namesBound p s.heap && gensDone s && laidKept (boot_heap P) s.heap
noncomputable abbrev Qsk:(Code->Sem Fin)->Program->World->SharedT->Thread->Option (SharedT×Thread):=PySem.W.Fast.tw10156331382660048174
noncomputable abbrev Qur:Code->Sem Fin:=PySem.W.Fast.tw11892475500146522536 PySem.W.Fast.tw14364793385576792824
noncomputable abbrev okQ:Nat->Option Value->Thread->Bool:=PySem.W.Fast.tw6613529449190102663
noncomputable abbrev seenQ:=@PySem.W.Fast.tw4187177175401517315
theorem left{p q:Program}{loose:QvX}{Xt:Shared->Bool}{α:Type}{Yf:Shared->α}{Ya:World->α}{N:Nat}(e:opening p=plainProg p.main.scope.names)(hN:Nat.ble 600 N=true)(f:∀s,fenceModules? p s=some s)
 (h:∀(w:World)(os:OsState),(QoZ (Qsk Qur p w) (okQ 11 (some (.ref 6))) N (S0 w os) (topStub p)).map (fun s=>(chk p w.params s.abs,seenQ q loose (importedModules p.main.body) Xt true s.abs,Yf s.abs))=some (true,openGood q loose,Ya w)) :
 LeftO p q loose Xt Yf Ya N:=fun w=>by
 obtain⟨⟨hh,gs,d,k,os⟩,e1,e'⟩:=vG.mp (boot_open e hN f w)
 obtain⟨rfl,rfl,rfl,rfl⟩:hh=boot_heap w.params/\gs=#[]/\d=boot_drawn/\k=boot_toks:=by simpa using e'
 have h:=h w os
 unfold Qsk Qur okQ seenQ at h
 rw[<-PySem.W.Fast.te10156331382660048174,<-PySem.W.Fast.te11892475500146522536,<-PySem.W.Fast.te14364793385576792824,<-PySem.W.Fast.te6613529449190102663,<-PySem.W.Fast.te4187177175401517315] at h
 obtain⟨s,r,l⟩:=vG.mp h
 obtain⟨l1,l2,l3⟩:_/\_/\_:=by simpa only[Qsj] using l
 have r:=QeZ N _ _ _ r
 rw[QmC] at r
 obtain⟨z1,z2,z3⟩:_/\_/\_:=by simpa only[Qsj] using Qg0 w.params
 have t:topFrom treeTable p w N ⟨boot_heap w.params,#[],boot_drawn,boot_toks,os⟩=some s.abs:=by
  unfold topFrom
  dsimp only
  rw[z1,z2,z3,r]
  show(match staticsOk (importedModules p.main.body) (boot_heap w.params) s.abs.heap && namesBound p s.abs.heap && gensDone s.abs && laidKept (boot_heap w.params) s.abs.heap with | true=>_ | false=>_)=_
  rw[show(staticsOk (importedModules p.main.body) (boot_heap w.params) s.abs.heap && namesBound p s.abs.heap && gensDone s.abs && laidKept (boot_heap w.params) s.abs.heap)=true from l1]
 unfold openEnds
 rw[e1]
 show(topFrom treeTable p w N _).map _=_
 rw[t]
 exact jM some (Prod.ext l2 l3)
def QaV(h:Heap):Frag:=(List.range h.objs.size).filterMap fun a=>(h.get? a).map fun o=>(a,o)
theorem Gb(f:Nat->Option Obj)(a:Addr)(o:Obj):∀l:List Nat,(l.filterMap fun a=>(f a).map fun o=>(a,o)).lookup a=some o->f a=some o
 | [],e=>nomatch e
 | b :: l,e=>by
   cases hb:f b with
   | none=>rw[List.filterMap_cons_none (by rw[hb];rfl)] at e;exact Gb f a o l e
   | some x =>
     rw[List.filterMap_cons_some (by rw[hb];rfl),jC] at e
     split at e
     .rename_i q;cases e;rw[vD.mp q];exact hb
     .exact Gb f a o l e
theorem QkL(h:Heap):(QaV h).In h:=fun a o e=>Gb h.get? a o _ e
def Qru(s:SharedT):Frag:=(List.range s.n).filterMap fun a=>(match Nat.blt a s.n with | true=>alive ((s.tree.get a).getD default) | false=>none).map fun o=>(a,o)
theorem Qi8(s:SharedT):Qru s=QaV s.abs.heap:=by
 unfold Qru QaV
 show _=(List.range (absHeap s.tree s.n s.life).objs.size).filterMap fun a=>((absHeap s.tree s.n s.life).get? a).map fun o=>(a,o)
 rw[absHeap_size]
 congr 1
 funext a
 congr 1
 unfold Heap.get?
 rw[absHeap_at]
 cases h:Nat.blt a s.n with
 | true =>
   rw[qD (show a<s.n from Nat.le_of_ble_eq_true h)]
   dsimp only
   cases (s.tree.get a).getD default with
   | mk c d dt sl=>cases dt <;> rfl
 | false =>
   rw[qy (fun q=>by rw[show Nat.blt a s.n=true from Nat.ble_eq_true_of_le q] at h;cases h)]
def says{α:Type}(obs:Frag->α)(good:α)(_:World)(h:Heap):Prop:=∃K:Frag,K.In h/\obs K=good
theorem close{l:OpenLaw}{q:Program}{loose:QvX}{d:DefRec}{α:Type}{obs:Frag->α}{good:α}{N:Nat}
 (look:PySem.W.Fast.tw9446332074065402090 l=true) (e:opening l.prog=plainProg l.prog.main.scope.names) (hN:Nat.ble 600 N=true) (f:∀s,fenceModules? l.prog s=some s)
 (h:∀(w:World)(os:OsState),(QoZ (Qsk Qur l.prog w) (okQ 11 (some (.ref 6))) N (S0 w os) (topStub l.prog)).map (fun s=>(chk l.prog w.params s.abs,seenQ q loose (importedModules l.prog.main.body) (fun s=>recOk [] s) true s.abs,obs (Qru s)))=some (true,openGood q loose,good))
 (hdef:defOf q l.name=some (d,[])) (hp:l.prog.theDef l.name=some (d.params,d.body,d.scope)) (hk:kwWritten? d.params.kwonlyargs d.params.kw_defaults=some []) (hwr:(!l.writes || ([]:WRecords).isEmpty)=true)
 (ok:(chainsOk q && opensWell l.prog && (frees l.row.toRowW && l.row.within.isEmpty))=true) (hb:l.prog.bare) (hw:l.row.toRowW.promised)
 (call:WalkO q loose (fun _ _=>True) (says obs good) l.row.toRowW d [] fun f vs=>PySem.call f vs):l.Holds:=by
 rw[<-PySem.W.Fast.te9446332074065402090] at look
 refine holds_law look fun said=>?_
 have lf:LeftO l.prog q loose (fun s=>recOk [] s) (fun s=>obs (QaV s.heap)) (fun _=>good) N:=left e hN f fun w os=>by
  have:=h w os
  rw[show(fun s:SharedT=>(chk l.prog w.params s.abs,seenQ q loose (importedModules l.prog.main.body) (fun s=>recOk [] s) true s.abs,obs (Qru s)))=fun s=>(chk l.prog w.params s.abs,seenQ q loose (importedModules l.prog.main.body) (fun s=>recOk [] s) true s.abs,obs (QaV s.abs.heap)) from funext fun s=>by rw[Qi8]] at this
  exact this
 exact holds_open (r:=l.row) (q:=q) (loose:=loose) (Xt:=fun s=>recOk [] s) (XP:=fun _ _=>True) (YP:=says obs good) lf (fun _ s y=>⟨QaV s.heap,QkL _,y⟩) (fun _ _ _ ⟨K,X,y⟩ k=>⟨K,X.keeps k,y⟩) (fun _ _=>trivial) (fun _ _ _ _ _=>trivial) hdef hp hk (fun _ e=>recFacts_of e) hwr said ok hb hw call
def Qnh:Value->Value
 | .int n _=>.int n 0
 | .str x _=>.str x 0
 | v=>v
def QfE(K:Frag):Value->Option (QvZ)
 | .none=>none
 | .ref D=>(match K.lookup D with
   | some ⟨_,_,.seq items _,_⟩=>some (items.toList.map Qnh)
   | _=>some [])
 | _=>some []
def jd:Option (Option Value)->Addr
 | some (some (.ref f))=>f
 | _=>0
def see(K:Frag)(r:Option (Option Value))(q:Str):Option (FuncData×Option (QvZ))×Bool:=match r with
 | some (some (.ref f))=>(match K.lookup f with
   | some ⟨_,_,.func fd,_⟩=>(some ({ fd with defaults:=.none,kwdefaults:=.none,doc:=.none,pyModule:=.none,annotations:=none,code:=.none,closureTuple:=.none },QfE K fd.defaults),codeIn K fd.code q && (keepIn K (.ref f) && isFn K (.ref f)))
   | _=>(none,false))
 | _=>(none,false)
abbrev QqK(x q:Str)(st:Stmt):FuncData:=fnOf x q (ZK st) (Zl st) (Qh st) .none .none .none .none none .none .none
theorem QeW{K:Frag}{r:Option (Option Value)}{x q:Str}{st:Stmt}{ds:Option (QvZ)}(h:see K r q=(some (QqK x q st,ds),true)):∃(oc:Value)(od:Option Addr)(dV kV doc pm:Value)(an:Option Addr)(cdv ct:Value)(osl:Array (Option Value)),
 r=some (some (.ref (jd r)))/\K.lookup (jd r)=some ⟨oc,od,.func (fnOf x q (ZK st) (Zl st) (Qh st) dV kV doc pm an cdv ct),osl⟩/\QfE K dV=ds/\codeIn K cdv q=true/\keepIn K (.ref (jd r))=true/\isFn K (.ref (jd r))=true:=by
 unfold see at h
 split at h
 .rename_i f
  split at h
  .rename_i oc od fd osl hl
   obtain⟨h1,h2⟩:=Qq8 h
   obtain⟨h3,h4⟩:=Qq8 (qR h1)
   obtain⟨c1,c2⟩:=jw.mp h2
   obtain⟨c2,c3⟩:=jw.mp c2
   obtain⟨n,qn,ps,b,sc,g,cl,dV,kV,doc,pm,an,cdv,ct,bs⟩:=fd
   simp only[FuncData.mk.injEq] at h3
   obtain⟨rfl,rfl,rfl,rfl,rfl,rfl,rfl,-,-,-,-,-,-,-,rfl⟩:=h3
   exact⟨oc,od,dV,kV,doc,pm,an,cdv,ct,osl,rfl,hl,h4,c1,c2,c3⟩
  .cases h
 .cases h
theorem zb{K:Frag}{r:Option (Option Value)}{x q:Str}{st:Stmt}(h:see K r q=(some (QqK x q st,none),true)):r=some (some (.ref (jd r)))/\keepIn K (.ref (jd r))=true/\isFn K (.ref (jd r))=true/\∃fd,jn K x q st (jd r) fd:=by
 obtain⟨oc,od,dV,kV,doc,pm,an,cdv,ct,osl,h1,h2,h3,h4,h5,h6⟩:=QeW h
 have:dV=.none:=by
  cases dV with
  | none=>rfl
  | ref D=>simp only[QfE] at h3;split at h3 <;> cases h3
  | _=>cases h3
 subst this
 exact⟨h1,h5,h6,_,Qmp h2 h4 h5⟩
theorem QmG{K:Frag}{r:Option (Option Value)}{x q:Str}{st:Stmt}{b:Value}{bs:QvZ}(h:see K r q=(some (QqK x q st,some (b :: bs)),true)):r=some (some (.ref (jd r)))/\keepIn K (.ref (jd r))=true/\isFn K (.ref (jd r))=true /\
 ∃(D:Addr)(kV doc pm:Value)(an:Option Addr)(cdv ct:Value)(o:Obj)(items:QvZ)(n:Nat),WB K x q st (jd r) (fnOf x q (ZK st) (Zl st) (Qh st) (.ref D) kV doc pm an cdv ct)/\K.lookup D=some o/\o.data=.seq items.toArray n/\items.map Qnh=b :: bs:=by
 obtain⟨oc,od,dV,kV,doc,pm,an,cdv,ct,osl,h1,h2,h3,h4,h5,h6⟩:=QeW h
 cases dV with
 | none=>cases h3
 | ref D =>
   simp only[QfE] at h3
   split at h3
   .rename_i c dd items n sl hl
    refine⟨h1,h5,h6,D,kV,doc,pm,an,cdv,ct,_,items.toList,n,QkK h2 h4 h5,hl,?_,qR h3⟩
    rw[wR]
   .cases h3
 | _=>cases h3
theorem Qvn{f:Value->Value}{b:Value}{l:QvZ}(h:l.map f=[b]):∃u,l=[u]/\f u=b:=by
 match l,h with
 | [u],h=>exact⟨u,rfl,(qw h).1⟩
theorem map2{f:Value->Value}{b c:Value}{l:QvZ}(h:l.map f=[b,c]):∃u v,l=[u,v]/\f u=b/\f v=c:=by
 match l,h with
 | [u,v],h=>exact⟨u,v,rfl,(qw h).1,(qw (qw h).2).1⟩
def bv:V->Value
 | .int n=>.int n 0
 | .str x=>.str x 0
 | .bl b=>.bool b
 | _=>.none
def flat:V->Bool
 | .int _ | .str _ | .bl _ | .non=>true
 | _=>false
theorem vg{v:V}{u:Value}(h:Qnh u=bv v)(hv:flat v=true:=by rfl):QI v u:=by
 cases v <;> first | (cases hv;done) | skip
 all_goals (cases u <;> first | (cases h;done) | skip)
 all_goals first | rfl | (injection h with h1;subst h1;exact⟨_,rfl⟩) | (injection h with h1 _;subst h1;exact⟨_,rfl⟩) | (injection h with h1;subst h1;rfl)
abbrev gl(K:Frag)(x:Str):Option (Option Value):=nsIn K mainGlobals x
abbrev cl(K:Frag)(x:Str):Addr:=jd (gl K x)
theorem qO{l:List Bool}(h:l.all id=true)(i:Nat){b:Bool}(e:l[i]?=some b):b=true:=jR.mp h b (qU e)
theorem zU{α:Type}{l m:List α}(h:l=m)(i:Nat){a b:α}(e:l[i]?=some a)(e':m[i]?=some b):a=b:=by
 subst h
 exact qR (e.symm.trans e')
theorem walk{l:OpenLaw}{n k:Nat}{q:Program}{loose:QvX}{XP:(Str->Option Value)->Heap->Prop}{α:Type}{obs:Frag->α}{good:α}{d:DefRec}{sp:Frag->Sp}{x:Str}
 (hn:l.most=some n) (hn2:n<=sizeLine) (hdf:d.params.defaults=[]) (hr:QB k callerA)
 (F:∀(w:World)(K:Frag)(mg:Str->Option Value)(fa:Addr)(h:Heap),K.In h->obs K=good->h.Ns mainGlobals mg->mg d.name=some (.ref fa) ->
   ∃fd:FuncData,(∀(s:Shared)(u:Value),BindsTo s fd ⟨[u],[]⟩ [(x,u)])/\∀base:Heap,K.In base->base.Ns mainGlobals mg->QO l.prog w K mg base xN k fa fd [x] (sp K))
 (hsp:∀(K:Frag)(H:Hp)(a:Addr)(ns:List Int),ns.length<=n->Only H->jH K H a (ns.map V.int)->sp K [.ref a] H (fun v _=>v=.bl true) fun _ _ _=>False) :
 WalkO q loose XP (says obs good) l.row.toRowW d [] (fun f vs=>PySem.call f vs):=by
 refine Att.QrB hn hdf fun w s₀ s₁ mg mb fa o pm cd doc a vs ns G Y ho hd hcd hmg hobj hints hlen hg=>?_
 obtain⟨K,KX,y⟩:=Y
 obtain⟨fd,hb,hF⟩:=F w K mg fa _ KX y G.T.g hmg
 exact QiO KX G.T.g G.T.b G.T.builtins G.T.nolimit hg hobj hints (zx hlen hn2) hr hF hb (fun H hO hS=>hsp K H a ns hlen hO hS) fun _ _ _ z=>z
theorem uI{K:Frag}{h:Heap}{mg:Str->Option Value}{x:Str}{v:V}(X:K.In h)(G:h.Ns mainGlobals mg)(e:(gl K x).map (Option.map Qnh)=some (some (bv v)))(hv:flat v=true:=by rfl):∃u,mg x=some u/\QI v u:=by
 obtain⟨r,h1,h2⟩:=vG.mp e
 obtain⟨u,h3,h4⟩:=vG.mp h2
 subst h3
 exact⟨u,mg_of X G h1,vg h4 hv⟩
theorem kI{K:Frag}{C:Addr}{f:Str}(h:decide (findIn K (.ref C) f=some none)=true):Q5 K C f:=by have e:findIn K (.ref C) f=some none:=qg h;exact e
end Hd
namespace L2
open PySem PySem.Spec PyProof.Rows
abbrev VM(o:HO)(H:Hp)(Q:VK):Prop:=∀p H',H p=none->Qo H H'->H' p=some o->Q (.ref p) H'
theorem VM.put{o:HO}{H:Hp}{Q:VK}(k:VM o H Q){p:Addr}(hp:H p=none):Q (.ref p) (upd H p o):=k p _ hp (Qo.z7 hp) Qc
inductive Qlf(xs:List V)(H:Hp)(Q:VK):Prop
 | mk:xs.length<=sizeLine->VM (.lst xs) H Q->Qlf xs H Q
inductive Qle(xs:List V)(H:Hp)(Q:VK):Prop
 | mk:xs.length<=sizeLine->VM (.tup xs) H Q->Qle xs H Q
def tLstG(t:TA):TE:=fun σ H Q=>t σ H fun xs H1=>Qlf xs H1 Q
def tTupG(t:TA):TE:=fun σ H Q=>t σ H fun xs H1=>Qle xs H1 Q
theorem ZJ{X:Cx}{es:List Expr}{t:TA}{pos:Pos}(h:PAs X es t):PE X (.List es pos) (tLstG t):=by
 intro pins s σ H Q I hq
 refine wpAny_List_spliced (jO (h.h pos pins s σ H _ I hq) fun us s1 ⟨xs,H1,I1,r,z,q⟩=>⟨by rw[<-r.length];exact z,?_⟩)
 have hf:H1 s1.heap.objs.size=none:=I1.hok.fresh (qt _)
 refine⟨.ref s1.heap.objs.size,upd H1 s1.heap.objs.size (.lst xs),I1.laid (t':=s1.toks) (fun b u e=>qm _ e) (qt _) ?_,rfl,VM.put q hf⟩
 exact⟨z,us,0,r,qH _ rfl⟩
theorem Zd{X:Cx}{es:List Expr}{t:TA}{x1:Nat}{pos:Pos}(h:PAs X es t):PE X (.Tuple es x1 pos) (tTupG t):=by
 intro pins s σ H Q I hq
 refine wpAny_Tuple_spliced (jO (h.h pos pins s σ H _ I hq) fun us s1 ⟨xs,H1,I1,r,z,q⟩=>⟨by rw[<-r.length];exact z,?_⟩)
 have hf:H1 s1.heap.objs.size=none:=I1.hok.fresh (qt _)
 refine⟨.ref s1.heap.objs.size,upd H1 s1.heap.objs.size (.tup xs),I1.laid (t':=s1.toks) (fun b u e=>qm _ e) (qt _) ?_,rfl,VM.put q hf⟩
 exact⟨z,us,r,⟨_,qH _ rfl,rfl,_,rfl⟩⟩
theorem SlR.mono{X:Cx}{r r':V->Option Int->Option Int->Hp->VK->Prop}(h:SlR X r)(k:∀x lo hi H Q,r' x lo hi H Q->r x lo hi H Q):SlR X r' :=
 fun pins s σ H x v vl vu lo hi sl Q I rx hs pl pu q=>h pins s σ H x v vl vu lo hi sl Q I rx hs pl pu (k _ _ _ _ _ q)
theorem OpR.mono{X:Cx}{f:Value->Value->Sem Value}{r r':R2}(h:OpR X f r)(k:∀x y H Q,r' x y H Q->r x y H Q):OpR X f r' :=
 fun pins s σ H x y v u Q I rx ry q=>h pins s σ H x y v u Q I rx ry (k _ _ _ _ q)
inductive gSlL(K:Frag)(x:V)(lo hi:Option Int)(H:Hp)(Q:VK):Prop
 | mk:∀a xs,x=.ref a->jH K H a xs->VM (.lst (XQ xs lo hi)) H Q->gSlL K x lo hi H Q
theorem QhF{X:Cx}:SlR X (gSlL X.K):=Qj6.mono fun x lo hi H Q ⟨a,xs,e,h,k⟩=>⟨a,xs,e,h,fun p hp=>VM.put k hp⟩
theorem QlB{x y:Str}:(!decide (V.str x=V.str y)) = !decide (x=y):=by
 by_cases h:x=y
 .rw[h,qp rfl,qp rfl]
 .rw[qF h,qF fun z=>h (V.str.inj z)]
theorem JF{x y:Str}:decide (V.str x=V.str y)=decide (x=y):=by
 by_cases h:x=y
 .rw[h,qp rfl,qp rfl]
 .rw[qF h,qF fun z=>h (V.str.inj z)]
end L2
namespace L2
open PySem PySem.Spec PyProof.Rows
section
variable {X:Cx}{o e:Expr}{es:List Expr}{ta:TE}{t:TA}{m:Str}{apos pos:Pos}
end
end L2
namespace L2
open PySem PySem.Spec PyProof.Rows
end L2
namespace L2
open PySem PySem.Spec PyProof.Rows
end L2
namespace Hd
open PySem PySem.W L2
end Hd
namespace L2
open PySem PySem.Spec PyProof.Rows
section
variable {X:Cx}{e:Expr}{es:List Expr}{te:TE}{t:TF}{pos:Pos}
end
end L2
namespace L2
open PySem PySem.Spec PyProof.Rows
end L2
namespace L2
open PySem PySem.Spec PyProof.Rows
end L2
namespace L2
open PySem PySem.Spec PyProof.Rows
section
variable {X:Cx}{pins:List (Addr×Obj)}{σ:List (Option V)}{H:Hp}{s:Shared}
end
end L2
namespace L2
open PySem PySem.Spec PyProof.Rows
section
variable {P:Program}{w:World}{K:Frag}{mg:Str->Option Value}{base:Heap}
end
section
variable {X:Cx}{CX:CXT}{k:Nat}{f C:Addr}{fd:FuncData}{ps:QvX}{ds:QvZ}{ug:List V}{sp:Sp}{E:XK}{x:Str}{p pos:Pos}{e o:Expr}{es:List Expr}{t:TA}{st:Stmt}{rest:List Stmt}{ts u:TS}{te ta tv:TE}
end
end L2
namespace L2
open PySem PySem.Spec PyProof.Rows
section
variable {prog:Program}{w:World}{A:Around}{R:Result->Shared->Prop}{I:Addr}{fp wr:List Addr}{n:Nat}{P:Nat->Value->Prop}{St:Nat->Heap->Prop}{dv:Value}
end
end L2
namespace L2
open PySem PySem.Spec PyProof.Rows
end L2
namespace L2
open PySem PySem.Spec PyProof.Rows
end L2
namespace HT
open PySem PyProof.Rows
def QrV(a:Int)(x:Str)(c:Int)(y:Str):Bool:=if a=c then (if x=y then false else decide (x.cps.toList<y.cps.toList)) else decide (a<c)
theorem Qt4(a:Int)(x:Str)(c:Int)(y:Str):QrV a x c y=Qrd c y a x:=by
 unfold QrV Qrd
 by_cases h:a=c
 .rw[qD h,qD h.symm]
  by_cases e:x=y
  .rw[qD e,qD e.symm]
  .rw[qy e,qy (fun z=>e z.symm)]
 .rw[qy h,qy (fun z=>h z.symm)]
section
open PySem.SeqAt
open PySem.AutoSeq1 (wpAny_loadPart')
open PySem.MeetsSeq PySem.MeetsSeq2 PySem.MeetsSeq3
theorem Qga(A:Around)(s:Shared)(a:Int)(t:Tok)(c:Int)(u:Tok)(prog:Program)(w:World)(E:QvY)(Q:QvY)(h:Q (.bool (decide (a<c))) s) :
 wpAny (model prog w) A (richCompare .Lt (.int a t) (.int c u)) Q E s :=
 (lt_int h:wpAny (model prog w) A (compareOp .Lt (.int a t) (.int c u)) Q E s)
theorem Qf8(A:Around)(s:Shared)(a:Str)(t:Tok)(c:Str)(u:Tok)(prog:Program)(w:World)(E:QvY)(Q:QvY)(h:Q (.bool (decide (a.cps.toList<c.cps.toList))) s) :
 wpAny (model prog w) A (richCompare .Lt (.str a t) (.str c u)) Q E s :=
 (PySem.P.lt_str h:wpAny (model prog w) A (compareOp .Lt (.str a t) (.str c u)) Q E s)
theorem QpN(l b:Addr)(n n2:Nat)(dd dd2:Option Addr)(sl sl2:Array (Option Value))(a:Int)(x:Str)(c:Int)(y:Str)(t1 t2 u1 u2:Tok) :
 Meets (Builtin.«tuple.__lt__» ⟨[.ref l,.ref b],[]⟩)
  (fun _ R s=>s.heap.get? l=some { cls:=.type "tuple",dict:=dd,data:=.seq #[.int a t1,.str x t2] n,slots:=sl }/\s.heap.get? b=some { cls:=.type "tuple",dict:=dd2,data:=.seq #[.int c u1,.str y u2] n2,slots:=sl2 } /\
    R (.ok (.ret (.bool (QrV a x c y)))) s) :=
 .of_wp fun prog w A R s h=>by
  obtain⟨hp,g,d,tk,os⟩:=s;obtain⟨hl,hb,h⟩:=h
  have f2:=AutoSeq1.sub_tuple_tuple
  wp_walk using Qsi hl,Qsi hb,wpAny_forIn_list _ (fun rest b s'=>b.1=none/\s'=⟨hp,g,d,tk,os⟩/\Vc a x c y rest) _
  case turn =>
   rintro⟨y',x'⟩ rest b s' ⟨hb',rfl,hP⟩
   cases hP with
   | both t1 t2 u1 u2 =>
     obtain⟨e,he,Qpa⟩:=Qc4 A.in1 ⟨hp,g,d,tk,os⟩ a t1 c u1
     refine qb (he prog w _ _ ?_)
     cases e with
     | true =>
       wp_walk
       exact⟨rfl,rfl,.one (Qpa.mp rfl) _ _⟩
     | false =>
       have ne:a≠c:=fun q=>absurd (Qpa.mpr q) qJ
       have hri:=Qga A.in1 ⟨hp,g,d,tk,os⟩ a t1 c u1 prog w
       wp_walk using hri
       unfold QrV at h
       rw[qy ne] at h
       exact⟨_,rfl,by simpa using h⟩
   | one e1 t2 u2 =>
     obtain⟨e,he,Qpa⟩:=QaZ A.in1 ⟨hp,g,d,tk,os⟩ x t2 y u2
     refine qb (he prog w _ _ ?_)
     cases e with
     | true =>
       wp_walk
       exact⟨rfl,rfl,.none e1 (Qpa.mp rfl)⟩
     | false =>
       have ne:x≠y:=fun q=>absurd (Qpa.mpr q) qJ
       have hri:=Qf8 A.in1 ⟨hp,g,d,tk,os⟩ x t2 y u2 prog w
       wp_walk using hri
       unfold QrV at h
       rw[qD e1,qy ne] at h
       exact⟨_,rfl,h⟩
  case fin =>
   rintro⟨b1,b2⟩ s' ⟨hb',rfl,hP⟩
   simp only at hb'
   subst hb'
   cases hP with
   | none e1 e2 =>
     unfold QrV at h
     rw[qD e1,qD e2] at h
     wp_walk
     exact⟨_,rfl,by simpa[Builtin.Tuple.tupleCompareSizes] using h⟩
  case h =>
   exact⟨rfl,rfl,.both _ _ _ _⟩
end
end HT
namespace L2
open PySem PySem.Spec PyProof.Rows
theorem Ql3{X:Cx}(hu:X.A.units<cLine):OpR X (compareOp .Lt) (Qk8 X.K HT.QrV):=by
 intro pins s σ H x y v u Q I rx ry h
 obtain⟨p,q,a,z,c,z2,rfl,rfl,ha,hb,k⟩:=h
 cases rx
 cases ry
 obtain⟨its,r1,p1,_⟩:=I.tuple ha
 obtain⟨its2,r2,p2,_⟩:=I.tuple hb
 obtain⟨t1,t2,rfl⟩:=Vl r1
 obtain⟨u1,u2,rfl⟩:=Vl r2
 obtain⟨⟨cls,dd,data,sl⟩,ho,hc,n,hd⟩:=id p1
 obtain⟨⟨cls2,dd2,data2,sl2⟩,ho2,hc2,n2,hd2⟩:=id p2
 simp only at hc hd hc2 hd2
 subst hc hd hc2 hd2
 exact richCompare_meets_room (op:=.Lt) ⟨_,ho,rfl⟩ ⟨_,ho2,rfl⟩ PySem.F.slot_tuple_lt PySem.F.entry_tuple_lt (PySem.F.args_tuple_lt_2 _ _) (HT.QpN p q n n2 dd dd2 sl sl2 a z c z2 t1 t2 u1 u2)
  ⟨ho,ho2,⟨(fun x=>nomatch x),.bl _,H,I,rfl,k⟩⟩ hu
inductive gRep(x y:V)(H:Hp)(Q:VK):Prop
 | mk:∀l k xs,x=.ref l->y=.int k->H l=some (.lst xs)->-(2 ^ 63)<=k->k<2 ^ 63->xs.length*k.toNat<=sizeLine->VM (.lst (List.replicate k.toNat xs).flatten) H Q->gRep x y H Q
theorem Qbp{X:Cx}:OpR X (binaryOp .Mult) gRep:=Ql2.mono fun x y H Q ⟨l,k,xs,e1,e2,h1,h2,h3,hz,q⟩=>⟨l,k,xs,e1,e2,h1,h2,h3,hz,fun p hp=>VM.put q hp⟩
end L2
namespace L2
open PySem PySem.Spec PyProof.Rows
theorem QG{N P:QvX}{sc:Scope}(h:(sc.kind=.function/\sc.isCoroutine=false/\sc.isGenerator=false)/\N.Nodup/\N.take P.length=P/\(∀x∈P,sc.names.lookup x=some .local\/sc.names.lookup x=some .cell)/\∀y∈sc.names,y.2≠.free):Qm N P sc:=⟨h.1.1,h.1.2.1,h.1.2.2,h.2.1,h.2.2.1,h.2.2.2.1,h.2.2.2.2⟩
abbrev Tab:=Option Str×Str×Str×Stmt×Option (QvZ)
def tF(x:Str)(s:Stmt):Tab:=(none,x,x,s,none)
def tM(c x q:Str)(s:Stmt):Tab:=(some c,x,q,s,none)
def tD(c:Option Str)(x q:Str)(s:Stmt)(d:QvZ):Tab:=(c,x,q,s,some d)
section
variable {K:Frag}{x qual:Str}{st:Stmt}{f:Addr}{fd:FuncData}{ps:QvX}
theorem jn.bd1(F:jn K x qual st f fd)(h:∀(a kV doc pm:Value)(an:Option Addr)(cdv ct:Value),bindArgs (fnOf x qual (ZK st) (Zl st) (Qh st) .none kV doc pm an cdv ct) ⟨[a],[]⟩=pure (ps.zip [a]))(n:ps.length=1):Qq K fd ps []:=F.binds fun kV doc pm an cdv ct us hl=>by
 rw[n] at hl;revert us;refine us_1 ?_;intros;exact h _  kV doc pm an cdv ct
theorem jn.bd2(F:jn K x qual st f fd)(h:∀(a b kV doc pm:Value)(an:Option Addr)(cdv ct:Value),bindArgs (fnOf x qual (ZK st) (Zl st) (Qh st) .none kV doc pm an cdv ct) ⟨[a,b],[]⟩=pure (ps.zip [a,b]))(n:ps.length=2):Qq K fd ps []:=F.binds fun kV doc pm an cdv ct us hl=>by
 rw[n] at hl;revert us;refine QfV ?_;intros;exact h _ _  kV doc pm an cdv ct
theorem jn.bd3(F:jn K x qual st f fd)(h:∀(a b c kV doc pm:Value)(an:Option Addr)(cdv ct:Value),bindArgs (fnOf x qual (ZK st) (Zl st) (Qh st) .none kV doc pm an cdv ct) ⟨[a,b,c],[]⟩=pure (ps.zip [a,b,c]))(n:ps.length=3):Qq K fd ps []:=F.binds fun kV doc pm an cdv ct us hl=>by
 rw[n] at hl;revert us;refine QfU ?_;intros;exact h _ _ _  kV doc pm an cdv ct
theorem jn.gB(F:jn K x qual st f fd)(h:∀(a b c d kV doc pm:Value)(an:Option Addr)(cdv ct:Value),bindArgs (fnOf x qual (ZK st) (Zl st) (Qh st) .none kV doc pm an cdv ct) ⟨[a,b,c,d],[]⟩=pure (ps.zip [a,b,c,d]))(n:ps.length=4):Qq K fd ps []:=F.binds fun kV doc pm an cdv ct us hl=>by
 rw[n] at hl;revert us;refine Qt0 ?_;intros;exact h _ _ _ _  kV doc pm an cdv ct
theorem jn.bd5(F:jn K x qual st f fd)(h:∀(a b c d e kV doc pm:Value)(an:Option Addr)(cdv ct:Value),bindArgs (fnOf x qual (ZK st) (Zl st) (Qh st) .none kV doc pm an cdv ct) ⟨[a,b,c,d,e],[]⟩=pure (ps.zip [a,b,c,d,e]))(n:ps.length=5):Qq K fd ps []:=F.binds fun kV doc pm an cdv ct us hl=>by
 rw[n] at hl;revert us;refine Qu3 ?_;intros;exact h _ _ _ _ _  kV doc pm an cdv ct
end
end L2
namespace K53
open PySem L2
def top(i:Nat):Stmt:=PySem.Challenge.pw_mailroom_k53_boards_refused.main.body.getD i (.Pass ⟨0,0,0,0⟩)
abbrev YD:Stmt:=top 15
abbrev Wc:Stmt:=top 16
abbrev Ua:Stmt:=top 17
abbrev Wd:Stmt:=top 22
abbrev Vh:Stmt:=top 23
abbrev Yg:Stmt:=top 24
abbrev Yh:Stmt:=top 25
abbrev Ur:Stmt:=top 27
abbrev Ve:Stmt:=top 29
abbrev Jq:Stmt:=top 31
abbrev Uu:Stmt:=top 32
abbrev XW:Stmt:=top 42
abbrev Wb:Stmt:=top 45
abbrev XV:Stmt:=top 46
abbrev V8:Stmt:=top 47
abbrev Wa:Stmt:=top 48
abbrev Us:Stmt:=top 51
abbrev XU:Stmt:=top 52
abbrev V9:Stmt:=top 53
abbrev Vf:Stmt:=top 54
abbrev JH:Stmt:=top 55
abbrev V7:Stmt:=top 56
abbrev UQ:Stmt:=top 57
abbrev Vg:Stmt:=top 58
abbrev UR:Stmt:=top 59
abbrev Ut:Stmt:=top 65
abbrev Qba:Stmt:=top 66
abbrev Qt5:Stmt:=top 67
abbrev Ux:Stmt:=QM (top 2) 0
abbrev Yk:Stmt:=QM (top 26) 0
abbrev Yj:Stmt:=QM (top 26) 1
abbrev JN:Stmt:=QM (top 26) 2
abbrev JO:Stmt:=QM (top 26) 3
abbrev JM:Stmt:=QM (top 26) 4
abbrev JQ:Stmt:=QM (top 34) 0
abbrev Yl:Stmt:=QM (top 34) 1
abbrev ZO:Stmt:=QM (top 34) 2
abbrev Jb:Stmt:=QM (top 34) 3
abbrev ZX:Stmt:=QM (top 34) 4
abbrev Ju:Stmt:=QM (top 34) 5
abbrev JP:Stmt:=QM (top 34) 6
abbrev Ja:Stmt:=QM (top 34) 7
abbrev Jc:Stmt:=QM (top 34) 8
abbrev Jv:Stmt:=QM (top 34) 9
abbrev YS:Stmt:=QM (top 36) 0
abbrev Uw:Stmt:=QM (top 36) 1
abbrev Z9:Stmt:=QM (top 36) 2
abbrev Z8:Stmt:=QM (top 38) 0
abbrev Z7:Stmt:=QM (top 38) 1
abbrev Jt:Stmt:=QM (top 38) 2
abbrev ZH:Stmt:=QM (top 38) 3
abbrev JL:Stmt:=QM (top 40) 0
abbrev Yi:Stmt:=QM (top 40) 1
abbrev ZN:Stmt:=QM (top 40) 2
abbrev YU:Stmt:=QM (top 43) 0
abbrev YT:Stmt:=QM (top 43) 1
abbrev Zt:Stmt:=QM (top 43) 2
abbrev Zu:Stmt:=QM (top 43) 3
abbrev Jd:Stmt:=QM (top 43) 4
abbrev JR:Stmt:=QM (top 43) 5
abbrev ZY:Stmt:=QM (top 43) 7
abbrev JW:Stmt:=QM (top 43) 8
abbrev Xu:QvX:=["text","signs"]
theorem Qbe:Qm Xu ["text","signs"] (Qh YD):=QG (by decide +kernel)
abbrev Qgt:QvX:=["thing"]
theorem QdH:Qm Qgt ["thing"] (Qh Wc):=QG (by decide +kernel)
abbrev KY:QvX:=["text","signs"]
theorem Xq:Qm KY ["text"] (Qh Ua):=QG (by decide +kernel)
abbrev Qgu:QvX:=["thing","most"]
theorem QdI:Qm Qgu ["thing","most"] (Qh Wd):=QG (by decide +kernel)
abbrev Qd3:QvX:=["thing"]
theorem Qcf:Qm Qd3 ["thing"] (Qh Vh):=QG (by decide +kernel)
abbrev GM:QvX:=["thing"]
theorem KA:Qm GM ["thing"] (Qh Yg):=QG (by decide +kernel)
abbrev GO:QvX:=["sender","title","body","day","answers"]
theorem KC:Qm GO ["sender","title","body","day","answers"] (Qh Yh):=QG (by decide +kernel)
abbrev QcE:QvX:=["thing"]
theorem Qbb:Qm QcE ["thing"] (Qh Ur):=QG (by decide +kernel)
abbrev Qd0:QvX:=["stamped"]
theorem Qcd:Qm Qd0 ["stamped"] (Qh Ve):=QG (by decide +kernel)
abbrev GN:QvX:=["name","there"]
theorem UU:Qm GN ["name","there"] (Qh Jq):=QG (by decide +kernel)
abbrev QcH:QvX:=["name","there"]
theorem Qbd:Qm QcH ["name","there"] (Qh Uu):=QG (by decide +kernel)
abbrev QiF:QvX:=["deed"]
theorem Qf4:Qm QiF ["deed"] (Qh XW):=QG (by decide +kernel)
abbrev Qgs:QvX:=["_law_script"]
theorem QdG:Qm Qgs ["_law_script"] (Qh Wb):=QG (by decide +kernel)
abbrev QiE:QvX:=["_law_state","_law_cell"]
theorem WL:Qm QiE ["_law_state"] (Qh XV):=QG (by decide +kernel)
abbrev QcG:QvX:=["_law_state","_law_signs","_law_most","_law_size"]
theorem WK:Qm QcG ["_law_state","_law_signs","_law_most"] (Qh V8):=QG (by decide +kernel)
abbrev Qgr:QvX:=["_law_state","_law_many","_law_letters","_law_base","_law_at","_law_first","_law_found","_law_k"]
theorem Je:Qm Qgr ["_law_state","_law_many"] (Qh Wa):=QG (by decide +kernel)
abbrev QcF:QvX:=["_law_state","_law_s"]
theorem Qbc:Qm QcF ["_law_state","_law_s"] (Qh Us):=QG (by decide +kernel)
abbrev QiD:QvX:=["_law_state","_law_s","_law_found","_law_k","_law_word_here","_law_gap"]
theorem Yv:Qm QiD ["_law_state","_law_s"] (Qh XU):=QG (by decide +kernel)
abbrev Qgq:QvX:=["_law_state","_law_s","_law_hand"]
theorem QdE:Qm Qgq ["_law_state","_law_s","_law_hand"] (Qh V9):=QG (by decide +kernel)
abbrev Qd1:QvX:=["_law_state","_law_s","_law_k","_law_hand","_law_name","_law_other","_law_answers"]
theorem JV:Qm Qd1 ["_law_state","_law_s","_law_k"] (Qh Vf):=QG (by decide +kernel)
abbrev Xs:QvX:=["_law_state","_law_s","_law_k","_law_kind","_law_hand","_law_deed"]
theorem ZF:Qm Xs ["_law_state","_law_s","_law_k"] (Qh JH):=QG (by decide +kernel)
abbrev Qgp:QvX:=["_law_state","_law_many","_law_hands_here","_law_signs","_law_words_here","_law_s"]
theorem YB:Qm Qgp ["_law_state","_law_many"] (Qh V7):=QG (by decide +kernel)
abbrev QaL:QvX:=["_law_rows","_law_gone","_law_letters","_law_best","_law_clock","_law_hand","_law_number","_law_deed","_law_key"]
theorem ZG:Qm QaL ["_law_rows"] (Qh UQ):=QG (by decide +kernel)
abbrev Qd2:QvX:=["_law_best","_law_name"]
theorem Qce:Qm Qd2 ["_law_best","_law_name"] (Qh Vg):=QG (by decide +kernel)
abbrev QaM:QvX:=["_law_best","_law_name"]
theorem QdF:Qm QaM ["_law_best","_law_name"] (Qh UR):=QG (by decide +kernel)
abbrev Y0:QvX:=["_law_board","_law_name","_law_way","e","_law_others"]
theorem Uv:Qm Y0 ["_law_board","_law_name","_law_way"] (Qh Ut):=QG (by decide +kernel)
abbrev Qky:QvX:=["_law_board","_law_name","_law_letters","_law_best","_law_due","_law_both","_law_found","_law_again"]
theorem UT:Qm Qky ["_law_board","_law_name","_law_letters","_law_best"] (Qh Qba):=QG (by decide +kernel)
abbrev n_law:QvX:=["_law_script","_law_state","_law_s","_law_board","_law_rows","_law_cell","_law_one","_law_name","_law_letters","_law_best","_law_odd"]
theorem YA:Qm n_law ["_law_script"] (Qh Qt5):=QG (by decide +kernel)
abbrev QcJ:QvX:=["self","letter","folder","marks"]
theorem Qbf:Qm QcJ ["self","letter","folder","marks"] (Qh Ux):=QG (by decide +kernel)
abbrev GR:QvX:=["self","sender","title","body","day","answers"]
theorem KG:Qm GR ["self","sender","title","body","day","answers"] (Qh Yk):=QG (by decide +kernel)
abbrev GQ:QvX:=["self","twin"]
theorem UW:Qm GQ ["self"] (Qh Yj):=QG (by decide +kernel)
abbrev K1:QvX:=["self"]
theorem XH:Qm K1 ["self"] (Qh JN):=QG (by decide +kernel)
abbrev K2:QvX:=["self","found","word"]
theorem Z6:Qm K2 ["self"] (Qh JO):=QG (by decide +kernel)
abbrev K0:QvX:=["self"]
theorem XG:Qm K0 ["self"] (Qh JM):=QG (by decide +kernel)
abbrev K4:QvX:=["self"]
theorem XJ:Qm K4 ["self"] (Qh JQ):=QG (by decide +kernel)
abbrev GS:QvX:=["self","name","folder","marks","word"]
theorem UX:Qm GS ["self","name","folder","marks"] (Qh Yl):=QG (by decide +kernel)
abbrev VT:QvX:=["self","name"]
theorem Vv:Qm VT ["self","name"] (Qh ZO):=QG (by decide +kernel)
abbrev W2:QvX:=["self","name","folder"]
theorem Wi:Qm W2 ["self","name","folder"] (Qh Jb):=QG (by decide +kernel)
abbrev Wq:QvX:=["self","name","folder"]
theorem YC:Qm Wq ["self","name"] (Qh ZX):=QG (by decide +kernel)
abbrev XM:QvX:=["self","name","folder"]
theorem WM:Qm XM ["self","name","folder"] (Qh Ju):=QG (by decide +kernel)
abbrev K3:QvX:=["self","name","word"]
theorem XI:Qm K3 ["self","name","word"] (Qh JP):=QG (by decide +kernel)
abbrev W1:QvX:=["self","name","word"]
theorem Wh:Qm W1 ["self","name","word"] (Qh Ja):=QG (by decide +kernel)
abbrev W3:QvX:=["self","name"]
theorem Wj:Qm W3 ["self","name"] (Qh Jc):=QG (by decide +kernel)
abbrev XN:QvX:=["self","name"]
theorem WN:Qm XN ["self","name"] (Qh Jv):=QG (by decide +kernel)
abbrev Qbs:QvX:=["self"]
theorem GJ:Qm Qbs ["self"] (Qh YS):=QG (by decide +kernel)
abbrev QcI:QvX:=["self","name","words","word"]
theorem Wg:Qm QcI ["self","name","words"] (Qh Uw):=QG (by decide +kernel)
abbrev W0:QvX:=["self","name","words","word"]
theorem Js:Qm W0 ["self","name"] (Qh Z9):=QG (by decide +kernel)
abbrev WZ:QvX:=["self"]
theorem Wf:Qm WZ ["self"] (Qh Z8):=QG (by decide +kernel)
abbrev WY:QvX:=["self","key","stamp","value","first","drawer"]
theorem Jr:Qm WY ["self","key","stamp","value"] (Qh Z7):=QG (by decide +kernel)
abbrev XL:QvX:=["self","key","default","drawer"]
theorem Ud:Qm XL ["self","key","default"] (Qh Jt):=QG (by decide +kernel)
abbrev Vy:QvX:=["self","first"]
theorem UV:Qm Vy ["self","first"] (Qh ZH):=QG (by decide +kernel)
abbrev KZ:QvX:=["self"]
theorem XF:Qm KZ ["self"] (Qh JL):=QG (by decide +kernel)
abbrev GP:QvX:=["self","name","answers"]
theorem KD:Qm GP ["self","name","answers"] (Qh Yi):=QG (by decide +kernel)
abbrev VS:QvX:=["self","name","answers"]
theorem J3:Qm VS ["self","name"] (Qh ZN):=QG (by decide +kernel)
abbrev Qbu:QvX:=["self"]
theorem GK:Qm Qbu ["self"] (Qh YU):=QG (by decide +kernel)
abbrev Qbt:QvX:=["self","stamped","deed"]
theorem VD:Qm Qbt ["self","stamped"] (Qh YT):=QG (by decide +kernel)
abbrev Ui:QvX:=["self","name","letter"]
theorem YR:Qm Ui ["self","name"] (Qh Zt):=QG (by decide +kernel)
abbrev YE:QvX:=["self","name"]
theorem Vw:Qm YE ["self","name"] (Qh Zu):=QG (by decide +kernel)
abbrev W4:QvX:=["self","name"]
theorem Wk:Qm W4 ["self","name"] (Qh Jd):=QG (by decide +kernel)
abbrev K5:QvX:=["self","deed","name"]
theorem UH:Qm K5 ["self","deed"] (Qh JR):=QG (by decide +kernel)
abbrev Wr:QvX:=["self","name"]
theorem VO:Qm Wr ["self","name"] (Qh ZY):=QG (by decide +kernel)
abbrev Qbv:QvX:=["self","name"]
theorem VE:Qm Qbv ["self","name"] (Qh JW):=QG (by decide +kernel)
set_option genInjectivity false in
structure z8 where
 (wV QmW uY QmX u9 wH wI gZ uZ xm ud QnT QmV QnS QnQ QmU g8 QnR QmS u0 wU QmQ QmR u6 QmT uc QoQ Qtu uf wL wK vU vV vR vX wM yU xW xx vm vW xV xY vo gq ue xU xQ xP vh yz vQ wJ yS gA gr yI yV xZ vY xF km gm ji zj yf yo jF zT QmO QnE jm QpF QpG QnD Qq1:Addr)
structure Txt(K:Frag)(mg:Str->Option Value)(a:z8):Prop where
 Qrm:mg "all_among"=some (.ref a.wV)
 Qqk:mg "is_word"=some (.ref a.QmW)
 Qo3:mg "words_of"=some (.ref a.uY)
 Qql:mg "is_text"=some (.ref a.QmX)
 Qr4:mg "is_whole"=some (.ref a.u9)
 QpR:mg "is_answered"=some (.ref a.wH)
 QpS:mg "check_parts"=some (.ref a.wI)
 Qrj:mg "letter_of"=some (.ref a.gZ)
 Qr1:mg "stamp_of"=some (.ref a.uZ)
 jo:mg "check_there"=some (.ref a.xm)
 QmJ:mg "check_new"=some (.ref a.ud)
 Qtp:mg "key_of"=some (.ref a.QnT)
 QsI:mg "_law_begin"=some (.ref a.QmV)
 jh:mg "_law_next"=some (.ref a.QnS)
 Qo4:mg "_law_word"=some (.ref a.QnQ)
 QsH:mg "_law_hands"=some (.ref a.QmU)
 gU:mg "_law_word_by"=some (.ref a.g8)
 Qrk:mg "_law_text"=some (.ref a.QnR)
 uE:mg "_law_named"=some (.ref a.QmS)
 Qr2:mg "_law_put_by"=some (.ref a.u0)
 Qrl:mg "_law_stamped"=some (.ref a.wU)
 QsF:mg "_law_world"=some (.ref a.QmQ)
 Qqj:mg "_law_plain"=some (.ref a.QmR)
 Qr3:mg "_law_folder"=some (.ref a.u6)
 QsG:mg "_law_marks"=some (.ref a.QmT)
 gW:mg "_law_refused"=some (.ref a.uc)
 Qud:mg "_law_own"=some (.ref a.QoQ)
 QqH:∃u,mg "WORD_SIGNS"=some u/\QI (.str "abcdefghijklmnopqrstuvwxyz0123456789") u
 Qrr:∃u,mg "RUN_SIGNS"=some u/\QI (.str "abcdefghijklmnopqrstuvwxyzABCDEFGHIJKLMNOPQRSTUVWXYZ0123456789") u
 Qrs:∃u,mg "MOST_WORD"=some u/\QI (.int 20) u
 QqI:∃u,mg "MOST_TITLE"=some u/\QI (.int 60) u
 Qrt:∃u,mg "MOST_BODY"=some u/\QI (.int 400) u
 Qr5:∃u,mg "LAST_DAY"=some u/\QI (.int 9999) u
 QlO:mg "len"=none
 QqL:mg "range"=none
 jg:mg "isinstance"=none
 Qqo:mg "str"=none
 QtA:mg "int"=none
 QvJ:mg "bool"=none
 QvH:mg "list"=none
 Qus:mg "tuple"=none
 QuS:mg "set"=none
 b_all:mg "all"=none
 QmL:mg "sorted"=none
 Qub:mg "Card"=some (.ref a.gm)
 Qnq:Cls K a.gm
 Qvv:Mk K a.gm a.uf
 Qng:Q5 K a.gm "letter"
 Qo2:Q5 K a.gm "box"
 uU:Q5 K a.gm "signs"
 Qqi:mg "Letter"=some (.ref a.ji)
 zW:Cls K a.ji
 Qro:Mk K a.ji a.wL
 QpZ:Ji K a.ji "twin" a.wK
 Qpm:Ji K a.ji "parts" a.vU
 Qpn:Ji K a.ji "known" a.vV
 Qpl:Ji K a.ji "words" a.vR
 gk:Q5 K a.ji "sender"
 vN:Q5 K a.ji "title"
 wF:Q5 K a.ji "body"
 uT:Q5 K a.ji "day"
 xO:Q5 K a.ji "answers"
 jU:Q5 K a.ji "found"
 Qr0:mg "Folders"=some (.ref a.zj)
 zq:Cls K a.zj
 QsL:Mk K a.zj a.vX
 Qp0:Ji K a.zj "add" a.wM
 Qnv:Ji K a.zj "take_out" a.yU
 uJ:Ji K a.zj "put_in" a.xW
 um:Ji K a.zj "put_out" a.xx
 QoK:Ji K a.zj "place" a.vm
 Qpo:Ji K a.zj "mark" a.vW
 Qoj:Ji K a.zj "unmark" a.xV
 Qok:Ji K a.zj "folder" a.xY
 QoL:Ji K a.zj "marks" a.vo
 jb:Q5 K a.zj "boxes"
 yd:Q5 K a.zj "tags"
 jy:Q5 K a.zj "inside"
 Qtn:mg "Index"=some (.ref a.yf)
 yC:Cls K a.yf
 Qug:Mk K a.yf a.gq
 QrC:Ji K a.yf "add" a.ue
 Qoi:Ji K a.yf "take_out" a.xU
 yj:Q5 K a.yf "entries"
 jJ:Q5 K a.yf "bearers"
 QqF:mg "Registers"=some (.ref a.yo)
 jK:Cls K a.yo
 Qrn:Mk K a.yo a.xQ
 Qoh:Ji K a.yo "keep" a.xP
 vp:Ji K a.yo "get" a.vh
 Qnd:Ji K a.yo "keys_of" a.yz
 jE:Q5 K a.yo "drawers"
 QrZ:mg "Threads"=some (.ref a.jF)
 j9:Cls K a.jF
 QsK:Mk K a.jF a.vQ
 QpY:Ji K a.jF "add" a.wJ
 Qnu:Ji K a.jF "take_out" a.yS
 yZ:Q5 K a.jF "links"
 jV:Q5 K a.jF "replies"
 Qto:mg "Board"=some (.ref a.zT)
 zL:Cls K a.zT
 Quh:Mk K a.zT a.gA
 QqS:Ji K a.zT "show" a.gr
 Qol:Ji K a.zT "bring_in" a.yI
 Qnw:Ji K a.zT "marks_told" a.yV
 uK:Ji K a.zT "take_out" a.xZ
 Qpp:Ji K a.zT "change" a.vY
 QnW:Ji K a.zT "letter_at" a.xF
 QjC:Ji K a.zT "card" a.km
 yr:Q5 K a.zT "facts"
 jc:Q5 K a.zT "letters"
 uV:Q5 K a.zT "hung"
 gM:Q5 K a.zT "listed"
 j8:Q5 K a.zT "boxed"
 QqE:mg "MailError"=some (.ref a.QmO)
 Qrc:Xcl K a.QmO
 Qri:mg "NoLetter"=some (.ref a.QnE)
 Qqh:mg "NoName"=some (.ref a.jm)
 Qrb:Xcl K a.jm
 Qnk:mroIn K a.jm a.QmO=true
 QsD:mg "NoWord"=some (.ref a.QpF)
 QsE:mg "NoRule"=some (.ref a.QpG)
 Qrh:mg "NoParcel"=some (.ref a.QnD)
 Qtl:mg "NoRow"=some (.ref a.Qq1)
 wu:GD K a.jm
 Qnm:kitOne K (.ref a.jm) (.ref a.QnE)=some false
 Qnl:kitOne K (.ref a.jm) (.ref a.QnD)=some false
 QoF:kitOne K (.ref a.jm) (.ref a.Qq1)=some false
 Qn8:kitOne K (.ref a.jm) (.ref a.QpG)=some false
 Qn7:kitOne K (.ref a.jm) (.ref a.QpF)=some false
 QmK:kitOne K (.ref a.jm) (.type "ValueError")=some true
 Qn9:kitOne K (.ref a.jm) (.ref a.jm)=some true
 QqM:mg "ValueError"=none
structure ZE(K:Frag)(a:z8):Prop where
 QrI:∃fd,jn K "all_among" "all_among" YD a.wV fd/\Qq K fd ["text","signs"] []
 vC:∃fd,jn K "is_word" "is_word" Wc a.QmW fd/\Qq K fd ["thing"] []
 gO:∃fd,jn K "words_of" "words_of" Ua a.uY fd/\Qq K fd ["text"] []
 uM:∃fd,jn K "is_text" "is_text" Wd a.QmX fd/\Qq K fd ["thing","most"] []
 Qj5:∃fd,jn K "is_whole" "is_whole" Vh a.u9 fd/\Qq K fd ["thing"] []
 wN:∃fd,jn K "is_answered" "is_answered" Yg a.wH fd/\Qq K fd ["thing"] []
 wO:∃fd,jn K "check_parts" "check_parts" Yh a.wI fd/\Qq K fd ["sender","title","body","day","answers"] []
 uq:∃fd,jn K "letter_of" "letter_of" Ur a.gZ fd/\Qq K fd ["thing"] []
 QjE:∃fd,jn K "stamp_of" "stamp_of" Ve a.uZ fd/\Qq K fd ["stamped"] []
 qK:∃fd,jn K "check_there" "check_there" Jq a.xm fd/\Qq K fd ["name","there"] []
 jL:∃fd,jn K "check_new" "check_new" Uu a.ud fd/\Qq K fd ["name","there"] []
 Qn0:∃fd,jn K "key_of" "key_of" XW a.QnT fd/\Qq K fd ["deed"] []
 Qm3:∃fd,jn K "_law_begin" "_law_begin" Wb a.QmV fd/\Qq K fd ["_law_script"] []
 zg:∃fd,jn K "_law_next" "_law_next" XV a.QnS fd/\Qq K fd ["_law_state"] []
 v7:∃fd,jn K "_law_word" "_law_word" V8 a.QnQ fd/\Qq K fd ["_law_state","_law_signs","_law_most"] []
 Qm2:∃fd,jn K "_law_hands" "_law_hands" Wa a.QmU fd/\Qq K fd ["_law_state","_law_many"] []
 jz:∃fd,jn K "_law_word_by" "_law_word_by" Us a.g8 fd/\Qq K fd ["_law_state","_law_s"] []
 QmM:∃fd,jn K "_law_text" "_law_text" XU a.QnR fd/\Qq K fd ["_law_state","_law_s"] []
 yJ:∃fd,jn K "_law_named" "_law_named" V9 a.QmS fd/\Qq K fd ["_law_state","_law_s","_law_hand"] []
 QjG:∃fd,jn K "_law_put_by" "_law_put_by" Vf a.u0 fd/\Qq K fd ["_law_state","_law_s","_law_k"] []
 ur:∃fd,jn K "_law_stamped" "_law_stamped" JH a.wU fd/\Qq K fd ["_law_state","_law_s","_law_k"] []
 Qm0:∃fd,jn K "_law_world" "_law_world" V7 a.QmQ fd/\Qq K fd ["_law_state","_law_many"] []
 uL:∃fd,jn K "_law_plain" "_law_plain" UQ a.QmR fd/\Qq K fd ["_law_rows"] []
 QjH:∃fd,jn K "_law_folder" "_law_folder" Vg a.u6 fd/\Qq K fd ["_law_best","_law_name"] []
 Qm1:∃fd,jn K "_law_marks" "_law_marks" UR a.QmT fd/\Qq K fd ["_law_best","_law_name"] []
 xM:∃fd,jn K "_law_refused" "_law_refused" Ut a.uc fd/\Qq K fd ["_law_board","_law_name","_law_way"] []
 QoT:∃fd,jn K "_law_own" "_law_own" Qba a.QoQ fd/\Qq K fd ["_law_board","_law_name","_law_letters","_law_best"] []
 F_law:∃fd,jn K "law" "law" Qt5 a.Qtu fd/\Qq K fd ["_law_script"] []
 QmN:∃fd,WB K "__init__" "Card.__init__" Ux a.uf fd/\Qq K fd ["self","letter","folder","marks"] []/\(∃ds,QF [.str "inbox",.non] ds/\Qq K fd ["self","letter","folder","marks"] ds)/\(∃ds,QF [.non] ds/\Qq K fd ["self","letter","folder","marks"] ds)
 Qni:∃fd,WB K "__init__" "Letter.__init__" Yk a.wL fd/\Qq K fd ["self","sender","title","body","day","answers"] []/\(∃ds,QF [.str ""] ds/\Qq K fd ["self","sender","title","body","day","answers"] ds)
 uz:∃fd,jn K "twin" "Letter.twin" Yj a.wK fd/\Qq K fd ["self"] []
 QpA:∃fd,jn K "parts" "Letter.parts" JN a.vU fd/\Qq K fd ["self"] []
 QpB:∃fd,jn K "known" "Letter.known" JO a.vV fd/\Qq K fd ["self"] []
 Qpz:∃fd,jn K "words" "Letter.words" JM a.vR fd/\Qq K fd ["self"] []
 QpD:∃fd,jn K "__init__" "Folders.__init__" JQ a.vX fd/\Qq K fd ["self"] []
 Qp7:∃fd,WB K "add" "Folders.add" Yl a.wM fd/\Qq K fd ["self","name","folder","marks"] []/\(∃ds,QF [.str "inbox",.non] ds/\Qq K fd ["self","name","folder","marks"] ds)/\(∃ds,QF [.non] ds/\Qq K fd ["self","name","folder","marks"] ds)
 QnB:∃fd,jn K "take_out" "Folders.take_out" ZO a.yU fd/\Qq K fd ["self","name"] []
 uN:∃fd,jn K "put_in" "Folders.put_in" Jb a.xW fd/\Qq K fd ["self","name","folder"] []
 uv:∃fd,jn K "put_out" "Folders.put_out" ZX a.xx fd/\Qq K fd ["self","name"] []
 QoO:∃fd,jn K "place" "Folders.place" Ju a.vm fd/\Qq K fd ["self","name","folder"] []
 QpC:∃fd,jn K "mark" "Folders.mark" JP a.vW fd/\Qq K fd ["self","name","word"] []
 Qow:∃fd,jn K "unmark" "Folders.unmark" Ja a.xV fd/\Qq K fd ["self","name","word"] []
 Qox:∃fd,jn K "folder" "Folders.folder" Jc a.xY fd/\Qq K fd ["self","name"] []
 QoP:∃fd,jn K "marks" "Folders.marks" Jv a.vo fd/\Qq K fd ["self","name"] []
 QqX:∃fd,jn K "__init__" "Index.__init__" YS a.gq fd/\Qq K fd ["self"] []
 QrJ:∃fd,jn K "add" "Index.add" Uw a.ue fd/\Qq K fd ["self","name","words"] []
 Qov:∃fd,jn K "take_out" "Index.take_out" Z9 a.xU fd/\Qq K fd ["self","name"] []
 Qou:∃fd,jn K "__init__" "Registers.__init__" Z8 a.xQ fd/\Qq K fd ["self"] []
 Qot:∃fd,jn K "keep" "Registers.keep" Z7 a.xP fd/\Qq K fd ["self","key","stamp","value"] []
 QlV:∃fd,WB K "get" "Registers.get" Jt a.vh fd/\Qq K fd ["self","key","default"] []/\(∃ds,QF [.non] ds/\Qq K fd ["self","key","default"] ds)
 Qnf:∃fd,jn K "keys_of" "Registers.keys_of" ZH a.yz fd/\Qq K fd ["self","first"] []
 Qpy:∃fd,jn K "__init__" "Threads.__init__" JL a.vQ fd/\Qq K fd ["self"] []
 Qp6:∃fd,WB K "add" "Threads.add" Yi a.wJ fd/\Qq K fd ["self","name","answers"] []/\(∃ds,QF [.str ""] ds/\Qq K fd ["self","name","answers"] ds)
 QnA:∃fd,jn K "take_out" "Threads.take_out" ZN a.yS fd/\Qq K fd ["self","name"] []
 QqZ:∃fd,jn K "__init__" "Board.__init__" YU a.gA fd/\Qq K fd ["self"] []
 QqY:∃fd,jn K "show" "Board.show" YT a.gr fd/\Qq K fd ["self","stamped"] []
 Qoy:∃fd,jn K "bring_in" "Board.bring_in" Zt a.yI fd/\Qq K fd ["self","name"] []
 QnC:∃fd,jn K "marks_told" "Board.marks_told" Zu a.yV fd/\Qq K fd ["self","name"] []
 uO:∃fd,jn K "take_out" "Board.take_out" Jd a.xZ fd/\Qq K fd ["self","name"] []
 QpE:∃fd,jn K "change" "Board.change" JR a.vY fd/\Qq K fd ["self","deed"] []
 Qn1:∃fd,jn K "letter_at" "Board.letter_at" ZY a.xF fd/\Qq K fd ["self","name"] []
 Qn2:∃fd,jn K "card" "Board.card" JW a.km fd/\Qq K fd ["self","name"] []
inductive Kg(vs:List V)(H:Hp)(Q:VK):Prop
 | mk:∀(nm:Str)(L:Addr)(kvs:List (Key×V))(v:V),vs=[.str nm,.ref L]->H L=some (.dK kvs)->Qt kvs (Sum.inr nm)=some v->Q .non H->Kg vs H Q
def Qhq:Sp:=fun vs H Q _=>Kg vs H Q
inductive Qb5(vs:List V)(H:Hp)(Q:VK):Prop
 | mk:∀(nm:Str)(L:Addr)(kvs:List (Key×V)),vs=[.str nm,.ref L]->H L=some (.dK kvs)->Qt kvs (Sum.inr nm)=none->Q .non H->Qb5 vs H Q
def QlI:Sp:=fun vs H Q _=>Qb5 vs H Q
theorem Qfk{K:Frag}:kitOne K (.type "str") (.type "str")=some true:=by unfold kitOne;rw[qD (kY _)]
section
variable {P:Program}{w:World}{K:Frag}{mg:Str->Option Value}{base:Heap}{a:z8}
theorem Jy{fd:FuncData}(F:jn K "check_there" "check_there" Jq a.xm fd)(T:Txt K mg a):QO P w K mg base xN 1 a.xm fd ["name","there"] Qhq:=by
 refine F.ok UU (fun _ _ _ _ h=>by cases h;subst_vars;rfl) (fun cdv A outer st H vs Q E hr h=>?_)
 .obtain⟨nm,L,kvs,v,rfl,hL,hv,k⟩:=h
  have hu:=Zr hr
  refine⟨_,(Qf (QZ (Z2 (Jl hu (pv 0) (pv 1))) (Qf JX) QD)),?_⟩
  refine⟨_,rfl,_,rfl,L,_,rfl,Zk.k (k:=Sum.inr nm) hL,_,rfl,?_⟩
  rw[hv]
  exact Q4 k
theorem QdT{fd:FuncData}(F:jn K "check_new" "check_new" Uu a.ud fd)(T:Txt K mg a):QO P w K mg base xN 1 a.ud fd ["name","there"] QlI:=by
 refine F.ok Qbd (fun _ _ _ _ h=>by cases h;subst_vars;rfl) (fun cdv A outer st H vs Q E hr h=>?_)
 .obtain⟨nm,L,kvs,rfl,hL,hv,k⟩:=h
  have hu:=Zr hr
  refine⟨_,(Qf (QZ (PW.pt (Xr (Jw (Jf (QC ZV rfl T.jg boot_isinstance (zr (pv 0) (zr (YX (v:=.ty "str") rfl T.Qqo boot_str rfl) Qe))))) (UY (Z2 (VR hu (pv 0) (pv 1)))))) (Qf JX) QD)),?_⟩
  refine⟨_,rfl,_,_,_,_,_,rfl,rfl,Y6.str nm,Qfk,_,rfl,Q4 ?_⟩
  refine⟨_,rfl,_,rfl,L,_,rfl,Zk.k (k:=Sum.inr nm) hL,_,rfl,?_⟩
  rw[hv]
  exact Q4 k
end
section
variable {α:Type}
def dG(f:α->Str)(g:α->V)(xs:List α):List (Key×V):=xs.map fun r=>(Sum.inr (f r),g r)
theorem JB{f:α->Str}{g:α->V}{n:Str}:∀{xs:List α},¬n∈xs.map f->Qt (dG f g xs) (Sum.inr n)=none
 | [],_=>rfl
 | r :: xs,h=>by
   show Qt ((Sum.inr (f r),g r) :: dG f g xs) (Sum.inr n)=_
   rw[Zf fun e=>h (by rw[<-yL e];exact qL)]
   exact JB fun z=>h (qP _ z)
theorem Zq{f:α->Str}{g:α->V}{r:α}:∀{xs:List α},(xs.map f).Nodup->r∈xs->Qt (dG f g xs) (Sum.inr (f r))=some (g r)
 | [],_,h=>nomatch h
 | y :: xs,nd,h=>by
   rw[qW,jf] at nd
   show Qt ((Sum.inr (f y),g y) :: dG f g xs) (Sum.inr (f r))=_
   rcases qG.mp h with rfl | h
   .exact Zm rfl
   .rw[Zf fun e=>nd.1 (by rw[yL e];exact qd.mpr ⟨r,h,rfl⟩)]
    exact Zq nd.2 h
theorem Xf{f:α->Str}{g:α->V}{xs:List α}{n:Str}{v:V}(r:α)(h:¬n∈xs.map f)(e1:f r=n)(e2:g r=v):Za (dG f g xs) (Sum.inr n) v=dG f g (xs++[r]):=by
 rw[Wm _ (JB h)]
 simp[dG,e1,e2]
theorem UD(f:α->Str)(g:α->V)(n:Str):∀xs:List α,ZS (dG f g xs) (Sum.inr n)=dG f g (xs.filter fun r=>decide (f r≠n))
 | []=>rfl
 | r :: xs=>by
   show ZS ((Sum.inr (f r),g r) :: dG f g xs) (Sum.inr n)=_
   by_cases h:f r=n
   .rw[Xc (by rw[h]),UD f g n xs]
    simp[qX,h]
   .rw[Xd (fun e=>h (yL e)),UD f g n xs]
    simp[qX,h,dG]
theorem Xg(f:α->Str)(g:α->V)(xs:List α):(dG f g xs).length=xs.length:=qi _
end
def ZQ(bf:Str->QvX)(w:Str)(ys:QvX):Str->QvX:=fun t=>if t=w then ys else bf t
theorem Q7(bf:Str->QvX)(w:Str)(ys:QvX):ZQ bf w ys w=ys:=qD rfl
theorem Zn{bf:Str->QvX}{w t:Str}{ys:QvX}(h:t≠w):ZQ bf w ys t=bf t:=qy h
abbrev brK(bs:List (Str×Addr)):List (Key×V):=dG (·.1) (fun b=>V.ref b.2) bs
structure BD(H:Hp)(E B:Addr)(bs:List (Str×Addr))(bf:Str->QvX)(W:QvX):Prop where
 nd:(bs.map (·.1)).Nodup
 nda:(bs.map (·.2)).Nodup
 at_:∀p∈bs,H p.2=some (.dK (Qw (bf p.1)))/\p.2≠E/\p.2≠B/\bf p.1≠[]/\p.1∈W
 no_:∀t,¬t∈bs.map (·.1)->bf t=[]
theorem BD.len{H:Hp}{E B:Addr}{bs:List (Str×Addr)}{bf:Str->QvX}{W:QvX}(h:BD H E B bs bf W):bs.length<=W.length:=by
 have:=Uh h.nd fun m hm=>by
  obtain⟨p,hp,rfl⟩:=qd.mp hm
  exact(h.at_ p hp).2.2.2.2
 rw[qi] at this
 exact this
theorem BD.congr{H H':Hp}{E B:Addr}{bs:List (Str×Addr)}{bf bf':Str->QvX}{W:QvX}(h:BD H E B bs bf W)(k:∀p∈bs,∀o,H p.2=some o->H' p.2=some o)(e:∀t,bf' t=bf t):BD H' E B bs bf' W :=
 ⟨h.nd,h.nda,fun p hp=>by rw[e];exact⟨k p hp _ (h.at_ p hp).1,(h.at_ p hp).2⟩,fun t ht=>by rw[e];exact h.no_ t ht⟩
theorem YF{α β:Type}{f:α->β}{xs:List α}(nd:(xs.map f).Nodup){a b:α}(ha:a∈xs)(hb:b∈xs)(e:f a=f b):a=b:=by
 induction xs with
 | nil=>cases ha
 | cons x xs ih =>
   rw[qW,jf] at nd
   rcases qG.mp ha with h1 | h1
   .rcases qG.mp hb with h2 | h2
    .rw[h1,h2]
    .exact absurd (qd.mpr ⟨b,h2,by rw[<-e,h1]⟩) nd.1
   .rcases qG.mp hb with h2 | h2
    .exact absurd (qd.mpr ⟨a,h1,by rw[e,h2]⟩) nd.1
    .exact ih nd.2 h1 h2
theorem Zz{α:Type}{xs:List α}{a:α}(h:xs.Nodup)(n:¬a∈xs):(xs++[a]).Nodup:=by
 rw[jZ]
 exact⟨h,gR _ _,fun x hx y hy e=>n (by rw[ql.mp hy] at e;rw[<-e];exact hx)⟩
theorem BD.new{H H':Hp}{E B p:Addr}{bs:List (Str×Addr)}{bf:Str->QvX}{W ys:QvX}{w:Str}(h:BD H E B bs bf W)(hw:¬w∈bs.map (·.1))(hp:¬p∈bs.map (·.2))(pE:p≠E)(pB:p≠B)(wW:w∈W)(hy:ys≠[])
 (k:∀q∈bs,∀o,H q.2=some o->H' q.2=some o) (e:H' p=some (.dK (Qw ys))):BD H' E B (bs++[(w,p)]) (ZQ bf w ys) W:=by
 refine⟨by rw[qQ];exact Zz h.nd hw,by rw[qQ];exact Zz h.nda hp,fun q hq=>?_,fun t ht=>?_⟩
 .rcases qx.mp hq with z | z
  .rw[Zn (fun e=>hw (by rw[<-e];exact qd.mpr ⟨q,z,rfl⟩))]
   exact⟨k q z _ (h.at_ q z).1,(h.at_ q z).2⟩
  .rw[ql.mp z]
   show H' p=some (.dK (Qw (ZQ bf w ys w)))/\p≠E/\p≠B/\ZQ bf w ys w≠[]/\w∈W
   rw[Q7]
   exact⟨e,pE,pB,hy,wW⟩
 .rw[qQ] at ht
  rw[Zn (fun e=>ht (qC _ (by rw[e];exact qL)))]
  exact h.no_ t fun z=>ht (qN _ z)
theorem BD.set{H H':Hp}{E B d:Addr}{bs:List (Str×Addr)}{bf:Str->QvX}{W ys:QvX}{w:Str}(h:BD H E B bs bf W)(hw:(w,d)∈bs)(hy:ys≠[])
 (k:∀q∈bs,q.2≠d->∀o,H q.2=some o->H' q.2=some o) (e:H' d=some (.dK (Qw ys))):BD H' E B bs (ZQ bf w ys) W:=by
 refine⟨h.nd,h.nda,fun q hq=>?_,fun t ht=>?_⟩
 .by_cases z:q.1=w
  .have eq:q=(w,d):=YF h.nd hq hw z
   rw[eq]
   show H' d=some (.dK (Qw (ZQ bf w ys w)))/\d≠E/\d≠B/\ZQ bf w ys w≠[]/\w∈W
   rw[Q7]
   have:=h.at_ _ hw
   exact⟨e,this.2.1,this.2.2.1,hy,this.2.2.2.2⟩
  .rw[Zn z]
   refine⟨k q hq (fun u=>z ?_) _ (h.at_ q hq).1,(h.at_ q hq).2⟩
   have:q=(w,d):=YF h.nda hq hw u
   rw[this]
 .rw[Zn (fun e=>ht (by rw[e];exact qd.mpr ⟨_,hw,rfl⟩))]
  exact h.no_ t ht
theorem BD.del{H H':Hp}{E B d:Addr}{bs:List (Str×Addr)}{bf:Str->QvX}{W:QvX}{w:Str}(h:BD H E B bs bf W)(hw:(w,d)∈bs)
 (k:∀q∈bs,q.2≠d->∀o,H q.2=some o->H' q.2=some o):BD H' E B (bs.filter fun r=>decide (r.1≠w)) (ZQ bf w []) W:=by
 refine⟨h.nd.sublist (jG.map _),h.nda.sublist (jG.map _),fun q hq=>?_,fun t ht=>?_⟩
 .obtain⟨q1,q2⟩:=qu.mp hq
  have z:q.1≠w:=qg q2
  rw[Zn z]
  refine⟨k q q1 (fun u=>z ?_) _ (h.at_ q q1).1,(h.at_ q q1).2⟩
  have:q=(w,d):=YF h.nda q1 hw u
  rw[this]
 .by_cases e:t=w
  .rw[e,Q7]
  .rw[Zn e]
   refine h.no_ t fun z=>ht ?_
   obtain⟨q,hq,rfl⟩:=qd.mp z
   exact qd.mpr ⟨q,qu.mpr ⟨hq,qp e⟩,rfl⟩
theorem Yq{bs:List (Str×Addr)}{w:Str}(h:w∈bs.map (·.1)):∃d,(w,d)∈bs:=by
 obtain⟨p,hp,rfl⟩:=qd.mp h
 exact⟨p.2,hp⟩
def KpF(F:List Addr)(H H':Hp):Prop:=∀c o,¬c∈F->H c=some o->H' c=some o
theorem KpF.upd{F:List Addr}{H H1:Hp}{b:Addr}{o:HO}(k:KpF F H H1)(h:b∈F\/H b=none):KpF F H (upd H1 b o):=fun c u hc e=>by
 have:c≠b:=fun z=>h.elim (fun q=>hc (by rw[z];exact q)) fun q=>by rw[z,q] at e;cases e
 rw[Qa this]
 exact k c u hc e
theorem Qeh{H:Hp}{b c:Addr}{o o':HO}(e:H b=some o)(h:(upd H b o') c=none):H c=none:=by
 by_cases z:c=b
 .rw[z,Qc] at h;cases h
 .rw[Qa z] at h;exact h
structure FI(H:Hp)(X1 N1:Addr)(bx:Rows)(bs:List (Str×Addr))(W:QvX):Prop where
 bx_:H X1=some (.dK (QQ bx))
 br:H N1=some (.dK (brK bs))
 ne:X1≠N1
 nd:(bx.map (·.1)).Nodup
 few:bx.length<=40
 wf:W.length<=20
 bd:BD H X1 N1 bs (Zc bx) W
def ft1(X1 N1:Addr)(bs:List (Str×Addr)):List Addr:=X1 :: N1 :: bs.map (·.2)
theorem QE{X1 N1 c:Addr}{bs:List (Str×Addr)}:c∈ft1 X1 N1 bs↔c=X1\/c=N1\/c∈bs.map (·.2):=by unfold ft1;rw[qG,qG]
structure FT(H:Hp)(T1:Addr)(tg:List (Str×Addr))(mk:Str->QvX)(M:QvX):Prop where
 t_:H T1=some (.dK (brK tg))
 nd:(tg.map (·.1)).Nodup
 nda:(tg.map (·.2)).Nodup
 at_:∀p∈tg,H p.2=some (.dK (Qw (mk p.1)))/\p.2≠T1/\(mk p.1).Nodup/\∀y∈mk p.1,y∈M
 few:tg.length<=40
 mf:M.length<=20
def ft2(T1:Addr)(tg:List (Str×Addr)):List Addr:=T1 :: tg.map (·.2)
theorem Q8{T1 c:Addr}{tg:List (Str×Addr)}:c∈ft2 T1 tg↔c=T1\/c∈tg.map (·.2):=by unfold ft2;rw[qG]
abbrev UJ(X1 T1 N1:Addr):List (Str×V):=[("boxes",.ref X1),("tags",.ref T1),("inside",.ref N1)]
theorem Z5(X1 T1 N1:Addr):(UJ X1 T1 N1).lookup ("boxes":Str)=some (V.ref X1):=by simp[List.lookup]
theorem Ul(X1 T1 N1:Addr):(UJ X1 T1 N1).lookup ("tags":Str)=some (V.ref T1):=by
 have e:(("tags":Str) == ("boxes":Str))=false:=by decide +kernel
 simp[List.lookup,e]
theorem YJ(X1 T1 N1:Addr):(UJ X1 T1 N1).lookup ("inside":Str)=some (V.ref N1):=by
 have e:(("inside":Str) == ("boxes":Str))=false:=by decide +kernel
 have e2:(("inside":Str) == ("tags":Str))=false:=by decide +kernel
 simp[List.lookup,e,e2]
theorem FI.keep{H H':Hp}{X1 N1:Addr}{bx:Rows}{bs:List (Str×Addr)}{W:QvX}(h:FI H X1 N1 bx bs W)(k:∀c o,c∈ft1 X1 N1 bs->H c=some o->H' c=some o):FI H' X1 N1 bx bs W :=
 ⟨k _ _ (QE.mpr (.inl rfl)) h.bx_,k _ _ (QE.mpr (.inr (.inl rfl))) h.br,h.ne,h.nd,h.few,h.wf,h.bd.congr (fun p hp o e=>k _ _ (QE.mpr (.inr (.inr (qd.mpr ⟨p,hp,rfl⟩)))) e) fun _=>rfl⟩
theorem FT.keep{H H':Hp}{T1:Addr}{tg:List (Str×Addr)}{mk:Str->QvX}{M:QvX}(h:FT H T1 tg mk M)(k:∀c o,c∈ft2 T1 tg->H c=some o->H' c=some o):FT H' T1 tg mk M :=
 ⟨k _ _ (Q8.mpr (.inl rfl)) h.t_,h.nd,h.nda,fun p hp=>⟨k _ _ (Q8.mpr (.inr (qd.mpr ⟨p,hp,rfl⟩))) (h.at_ p hp).1,(h.at_ p hp).2⟩,h.few,h.mf⟩
theorem FI.kind{H:Hp}{X1 N1:Addr}{bx:Rows}{bs:List (Str×Addr)}{W:QvX}(h:FI H X1 N1 bx bs W){c:Addr}(hc:c∈ft1 X1 N1 bs):∃kvs,H c=some (.dK kvs):=by
 rcases QE.mp hc with z | z | z
 .rw[z];exact⟨_,h.bx_⟩
 .rw[z];exact⟨_,h.br⟩
 .obtain⟨p,hp,rfl⟩:=qd.mp z
  exact⟨_,(h.bd.at_ p hp).1⟩
theorem FT.kind{H:Hp}{T1:Addr}{tg:List (Str×Addr)}{mk:Str->QvX}{M:QvX}(h:FT H T1 tg mk M){c:Addr}(hc:c∈ft2 T1 tg):∃kvs,H c=some (.dK kvs):=by
 rcases Q8.mp hc with z | z
 .rw[z];exact⟨_,h.t_⟩
 .obtain⟨p,hp,rfl⟩:=qd.mp z
  exact⟨_,(h.at_ p hp).1⟩
inductive Qal(a:z8)(vs:List V)(H:Hp)(Q:VK):Prop
 | mk:∀(x dx X1 T1 N1:Addr)(bx:Rows)(bs:List (Str×Addr))(W:QvX)(nm fo:Str),vs=[.ref x,.str nm,.str fo]->H x=some (.ins a.zj dx (UJ X1 T1 N1))->FI H X1 N1 bx bs W->up bx nm=none->bx.length<40->fo∈W->(∀H' bs',FI H' X1 N1 (bx++[(nm,fo)]) bs' W->KpF (ft1 X1 N1 bs) H H'->(∀q∈bs',q∈bs\/H q.2=none)->Q .non H')->Qal a vs H Q
def QjQ(a:z8):Sp:=fun vs H Q _=>Qal a vs H Q
inductive Kj(a:z8)(vs:List V)(H:Hp)(Q:VK):Prop
 | mk:∀(x dx X1 T1 N1:Addr)(bx:Rows)(bs:List (Str×Addr))(W:QvX)(nm fo:Str),vs=[.ref x,.str nm]->H x=some (.ins a.zj dx (UJ X1 T1 N1))->FI H X1 N1 bx bs W->up bx nm=some fo->(∀H' bs',FI H' X1 N1 (without bx nm) bs' W->KpF (ft1 X1 N1 bs) H H'->(∀q∈bs',q∈bs)->(∀c,H' c=none->H c=none)->Q .non H')->Kj a vs H Q
def Qhu(a:z8):Sp:=fun vs H Q _=>Kj a vs H Q
section
variable {P:Program}{w:World}{K:Frag}{mg:Str->Option Value}{base:Heap}{a:z8}
theorem Qcy{fd:FuncData}(F:jn K "put_in" "Folders.put_in" Jb a.xW fd)(T:Txt K mg a):QO P w K mg base xN 1 a.xW fd ["self","name","folder"] (QjQ a):=by
 refine F.ok Wi (fun _ _ _ _ h=>by cases h;subst_vars;rfl) (fun cdv A outer st H vs Q E hr h=>?_)
 .obtain⟨x,dx,X1,T1,N1,bx,bs,W,nm,fo,rfl,obj,fi,hnm,h40,hfo,k⟩:=h
  have hu:=Zr hr
  have hwf:=fi.wf
  have hbl:=fi.bd.len
  refine⟨_,(Qd (Zp hu (Qk (pv 0) rfl) (pv 1) (pv 2) rfl)
   (Qd (QZ (Z2 (Jl hu (pv 2) (Qk (pv 0) rfl))) (Qf (Zp hu (Qk (pv 0) rfl) (pv 2) Zv rfl)) QD)
   (Qf (Zp hu (Qv hu (Qk (pv 0) rfl) (pv 2)) (pv 1) YY rfl)))),?_⟩
  refine⟨_,rfl,_,rfl,x,_,dx,_,_,rfl,obj,T.zq,T.jb,Z5 X1 T1 N1,_,rfl,X1,_,rfl,Jo.k (k:=Sum.inr nm) fi.bx_ (by rw[QQ,qi];exact QK (by omega)),?_⟩
  rw[Qcp hnm]
  have hXF:X1∈ft1 X1 N1 bs:=QE.mpr (.inl rfl)
  have hNF:N1∈ft1 X1 N1 bs:=QE.mpr (.inr (.inl rfl))
  have xX:x≠X1:=QX obj fi.bx_ fun z=>nomatch z
  have yH:(upd H X1 (.dK (QQ (bx++[(nm,fo)])))) x=some (.ins a.zj dx (UJ X1 T1 N1)):=by rw[Qa xX];exact obj
  have bx4:(upd H X1 (.dK (QQ (bx++[(nm,fo)])))) X1=some (.dK (QQ (bx++[(nm,fo)]))):=Qc
  have br4:(upd H X1 (.dK (QQ (bx++[(nm,fo)])))) N1=some (.dK (brK bs)):=by rw[Qa fi.ne.symm];exact fi.br
  have gB:BD (upd H X1 (.dK (QQ (bx++[(nm,fo)])))) X1 N1 bs (Zc bx) W:=fi.bd.congr (fun q hq o e=>by rw[Qa (fi.bd.at_ q hq).2.1];exact e) fun _=>rfl
  have kp4:KpF (ft1 X1 N1 bs) H (upd H X1 (.dK (QQ (bx++[(nm,fo)])))):=KpF.upd (fun c o _ e=>e) (.inl hXF)
  show Ye _ _ _ _ (upd H X1 (.dK (QQ (bx++[(nm,fo)]))))
  generalize upd H X1 (.dK (QQ (bx++[(nm,fo)])))=H4 at yH bx4 br4 gB kp4
  have nd':((bx++[(nm,fo)]).map (·.1)).Nodup:=QeS fi.nd hnm
  have Quq:(bx++[(nm,fo)]).length<=40:=by rw[qI,qT];omega
  have ebf:∀t,Zc (bx++[(nm,fo)]) t=ZQ (Zc bx) fo (Zc bx fo++[nm]) t:=fun t=>by
   rw[WO]
   by_cases e:t=fo
   .subst e;rw[qD rfl,Q7]
   .rw[qy fun z=>e z.symm,je,Zn e]
  refine⟨_,rfl,_,rfl,x,_,dx,_,_,rfl,yH,T.zq,T.jy,YJ X1 T1 N1,N1,_,rfl,Zk.k (k:=Sum.inr fo) br4,_,rfl,?_⟩
  by_cases hyb:fo∈bs.map (·.1)
  .obtain⟨d,hd⟩:=Yq hyb
   have uW:Qt (brK bs) (Sum.inr fo)=some (V.ref d):=Zq (r:=((fo,d):Str×Addr)) gB.nd hd
   obtain⟨ed,dE,dB,_,_⟩:=gB.at_ _ hd
   have ed:H4 d=some (.dK (Qw (Zc bx fo))):=ed
   have hrl:=Qcj bx fo
   rw[uW]
   have nrep:¬nm∈Zc bx fo:=fun z=>Yd.mp hnm (Qci z)
   refine Q4 ⟨_,rfl,x,_,dx,_,_,rfl,yH,T.zq,T.jy,YJ X1 T1 N1,_,rfl,N1,_,rfl,(by rw[<-uW];exact Zk.k (k:=Sum.inr fo) br4),_,rfl,d,_,rfl,Jo.k (k:=Sum.inr nm) ed (by rw[Qw,qi];exact QK (by omega)),?_⟩
   rw[Wl nrep]
   exact k _ bs ⟨by rw[Qa dE.symm];exact bx4,by rw[Qa dB.symm];exact br4,fi.ne,nd',Quq,fi.wf,(gB.set hd (by simp) (fun q _ ne o e=>by rw[Qa ne];exact e) Qc).congr (fun _ _ _ e=>e) ebf⟩ (kp4.upd (.inl (QE.mpr (.inr (.inr (qd.mpr ⟨_,hd,rfl⟩)))))) fun q hq=>.inl hq
  .have uW:Qt (brK bs) (Sum.inr fo)=none:=JB hyb
   rw[uW]
   refine Zi ?_
   intro d hd0
   have xd:x≠d:=Qb yH hd0
   have Ed:X1≠d:=Qb bx4 hd0
   have Bd:N1≠d:=Qb br4 hd0
   have xB:x≠N1:=QX yH br4 fun z=>nomatch z
   have dn:H d=none:=by
    cases e:H d with
    | none=>rfl
    | some o =>
      by_cases hin:d∈ft1 X1 N1 bs
      .rcases QE.mp hin with z | z | z
       .exact absurd z.symm Ed
       .exact absurd z.symm Bd
       .obtain⟨q,hq,eq⟩:=qd.mp z
        have:=(gB.at_ q hq).1
        rw[eq,hd0] at this
        cases this
      .have:=kp4 d o hin e
       rw[hd0] at this
       cases this
   refine⟨_,rfl,x,_,dx,_,_,rfl,(by rw[Qa xd];exact yH),T.zq,T.jy,YJ X1 T1 N1,_,rfl,N1,_,rfl,Jo.k (k:=Sum.inr fo) (by rw[Qa Bd];exact br4) (by rw[Xg];exact QK (by omega)),?_⟩
   rw[Xf ((fo,d):Str×Addr) hyb rfl rfl]
   have nd5:((bs++[((fo,d):Str×Addr)]).map (·.1)).Nodup:=by rw[qQ];exact Zz gB.nd hyb
   have hv5:Qt (brK (bs++[((fo,d):Str×Addr)])) (Sum.inr fo)=some (V.ref d):=Zq (r:=((fo,d):Str×Addr)) nd5 (qC _ qL)
   have br5:(upd (upd H4 d (.dK [])) N1 (.dK (brK (bs++[((fo,d):Str×Addr)])))) N1=some (.dK (brK (bs++[((fo,d):Str×Addr)]))):=Qc
   have d5:(upd (upd H4 d (.dK [])) N1 (.dK (brK (bs++[((fo,d):Str×Addr)])))) d=some (.dK []):=by rw[Qa Bd.symm];exact Qc
   refine⟨_,rfl,x,_,dx,_,_,rfl,(by rw[Qa xB,Qa xd];exact yH),T.zq,T.jy,YJ X1 T1 N1,_,rfl,N1,_,rfl,(by rw[<-hv5];exact Zk.k (k:=Sum.inr fo) br5),_,rfl,d,_,rfl,Jo.k (k:=Sum.inr nm) d5 (by decide),?_⟩
   have ek:Za ([]:List (Key×V)) (Sum.inr nm) (.bl true)=Qw [nm]:=rfl
   rw[ek]
   have e0:Zc bx fo=[]:=gB.no_ fo hyb
   refine k _ (bs++[((fo,d):Str×Addr)]) ⟨by rw[Qa Ed,Qa fi.ne,Qa Ed];exact bx4,by rw[Qa Bd];exact Qc,fi.ne,nd',Quq,fi.wf,?_⟩ (((kp4.upd (.inr dn)).upd (.inl hNF)).upd (.inr dn)) fun q hq=>?_
   .refine(gB.new (p:=d) (ys:=Zc bx fo++[nm]) hyb (fun z=>?_) Ed.symm Bd.symm hfo (by simp) (fun q hq o e=>?_) ?_).congr (fun _ _ _ e=>e) ebf
    .obtain⟨q,hq,eq⟩:=qd.mp z
     have:=(gB.at_ q hq).1
     rw[eq,hd0] at this
     cases this
    .rw[Qa (Qb e hd0),Qa (gB.at_ q hq).2.2.1,Qa (Qb e hd0)]
     exact e
    .rw[e0,Qc];rfl
   .rcases qx.mp hq with z | z
    .exact .inl z
    .rw[ql.mp z];exact .inr dn
theorem QaH{fd:FuncData}(F:jn K "put_out" "Folders.put_out" ZX a.xx fd)(T:Txt K mg a):QO P w K mg base xN 1 a.xx fd ["self","name"] (Qhu a):=by
 refine F.ok YC (fun _ _ _ _ h=>by cases h;subst_vars;rfl) (fun cdv A outer st H vs Q E hr h=>?_)
 .obtain⟨x,dx,X1,T1,N1,bx,bs,W,nm,fo,rfl,obj,fi,eu,k⟩:=h
  have hu:=Zr hr
  refine⟨_,(Qd (Qy (i:=2) YC.nd rfl (Or.inl rfl) (Z4 (Qk (pv 0) rfl) (pv 1) ⟨rfl,rfl,rfl,rfl⟩))
   (Qd (Qs (Z4 (Qv hu (Qk (pv 0) rfl) (pv 2)) (pv 1) ⟨rfl,rfl,rfl,rfl⟩))
   (Qf (QZ (Jw (Qcs (Qv hu (Qk (pv 0) rfl) (pv 2)) (fun _=>rfl))) (Qf (Qs (Z4 (Qk (pv 0) rfl) (pv 2) ⟨rfl,rfl,rfl,rfl⟩))) QD)))),?_⟩
  refine⟨_,rfl,x,_,dx,_,_,rfl,obj,T.zq,T.jb,Z5 X1 T1 N1,X1,rfl,.inl ⟨_,.inl fi.bx_⟩,_,rfl,_,Sum.inr nm,.str fo,fi.bx_,rfl,(by rw[ZC,eu];rfl),?_⟩
  rw[Vt]
  have hXF:X1∈ft1 X1 N1 bs:=QE.mpr (.inl rfl)
  have hNF:N1∈ft1 X1 N1 bs:=QE.mpr (.inr (.inl rfl))
  have xX:x≠X1:=QX obj fi.bx_ fun z=>nomatch z
  have yH:(upd H X1 (.dK (QQ (without bx nm)))) x=some (.ins a.zj dx (UJ X1 T1 N1)):=by rw[Qa xX];exact obj
  have bx4:(upd H X1 (.dK (QQ (without bx nm)))) X1=some (.dK (QQ (without bx nm))):=Qc
  have br4:(upd H X1 (.dK (QQ (without bx nm)))) N1=some (.dK (brK bs)):=by rw[Qa fi.ne.symm];exact fi.br
  have gB:BD (upd H X1 (.dK (QQ (without bx nm)))) X1 N1 bs (Zc bx) W:=fi.bd.congr (fun q hq o e=>by rw[Qa (fi.bd.at_ q hq).2.1];exact e) fun _=>rfl
  have kp4:KpF (ft1 X1 N1 bs) H (upd H X1 (.dK (QQ (without bx nm)))):=KpF.upd (fun c o _ e=>e) (.inl hXF)
  show Ye _ _ _ _ (upd H X1 (.dK (QQ (without bx nm))))
  have fr4:∀c,(upd H X1 (.dK (QQ (without bx nm)))) c=none->H c=none:=fun c e=>Qeh fi.bx_ e
  generalize upd H X1 (.dK (QQ (without bx nm)))=H4 at yH bx4 br4 gB kp4 fr4
  have hin:nm∈Zc bx fo:=Qfr eu
  have hyb:fo∈bs.map (·.1):=Classical.byContradiction fun z=>by
   have:=gB.no_ fo z
   rw[this] at hin
   cases hin
  obtain⟨d,hd⟩:=Yq hyb
  have uW:Qt (brK bs) (Sum.inr fo)=some (V.ref d):=Zq (r:=((fo,d):Str×Addr)) gB.nd hd
  obtain⟨ed,dE,dB,_,_⟩:=gB.at_ _ hd
  have ed:H4 d=some (.dK (Qw (Zc bx fo))):=ed
  have xd:x≠d:=QX yH ed fun z=>nomatch z
  have hdF:d∈ft1 X1 N1 bs:=QE.mpr (.inr (.inr (qd.mpr ⟨_,hd,rfl⟩)))
  have wl:(without bx nm).length<=bx.length:=q9 _ _
  have hfew:=fi.few
  have ebf:∀t,Zc (without bx nm) t=ZQ (Zc bx) fo ((Zc bx fo).filter fun m=>decide (m≠nm)) t:=fun t=>by
   rw[Ym]
   by_cases e:t=fo
   .subst e;rw[Q7]
   .rw[Zn e];exact VX (QcC fi.nd eu e)
  refine⟨_,rfl,x,_,dx,_,_,rfl,yH,T.zq,T.jy,YJ X1 T1 N1,_,rfl,N1,_,rfl,(by rw[<-uW];exact Zk.k (k:=Sum.inr fo) br4),d,rfl,.inl ⟨_,.inl ed⟩,_,rfl,_,Sum.inr nm,.bl true,ed,rfl,(by rw[Y9,qD hin]),?_⟩
  rw[Yw]
  have Qmv:(upd H4 d (.dK (Qw ((Zc bx fo).filter fun m=>decide (m≠nm))))) x=some (.ins a.zj dx (UJ X1 T1 N1)):=by rw[Qa xd];exact yH
  have bx5:(upd H4 d (.dK (Qw ((Zc bx fo).filter fun m=>decide (m≠nm))))) X1=some (.dK (QQ (without bx nm))):=by rw[Qa dE.symm];exact bx4
  have br5:(upd H4 d (.dK (Qw ((Zc bx fo).filter fun m=>decide (m≠nm))))) N1=some (.dK (brK bs)):=by rw[Qa dB.symm];exact br4
  have d5:(upd H4 d (.dK (Qw ((Zc bx fo).filter fun m=>decide (m≠nm))))) d=some (.dK (Qw ((Zc bx fo).filter fun m=>decide (m≠nm)))):=Qc
  have kp5:KpF (ft1 X1 N1 bs) H (upd H4 d (.dK (Qw ((Zc bx fo).filter fun m=>decide (m≠nm))))):=kp4.upd (.inl hdF)
  have ot5:∀q∈bs,q.2≠d->∀o,H4 q.2=some o->(upd H4 d (.dK (Qw ((Zc bx fo).filter fun m=>decide (m≠nm))))) q.2=some o:=fun q _ ne o e=>by rw[Qa ne];exact e
  show Ye _ _ _ _ (upd H4 d (.dK (Qw ((Zc bx fo).filter fun m=>decide (m≠nm)))))
  have fr5:∀c,(upd H4 d (.dK (Qw ((Zc bx fo).filter fun m=>decide (m≠nm))))) c=none->H c=none:=fun c e=>fr4 c (Qeh ed e)
  generalize upd H4 d (.dK (Qw ((Zc bx fo).filter fun m=>decide (m≠nm))))=H5 at Qmv bx5 br5 d5 kp5 ot5 fr5
  refine⟨_,rfl,x,_,dx,_,_,rfl,Qmv,T.zq,T.jy,YJ X1 T1 N1,_,rfl,N1,.ref d,rfl,(by rw[<-uW];exact Zk.k (k:=Sum.inr fo) br5),!(Qw ((Zc bx fo).filter fun m=>decide (m≠nm))).isEmpty,Or.inr (Or.inr ⟨_,d5,rfl⟩),?_⟩
  cases hys:(Zc bx fo).filter fun m=>decide (m≠nm) with
  | cons z zs =>
    rw[hys] at d5
    refine Q4 (k H5 bs ⟨bx5,br5,fi.ne,Uo fi.nd,by omega,fi.wf,(gB.set hd (ys:=z :: zs) (by simp) ot5 d5).congr (fun _ _ _ e=>e) fun t=>?_⟩ kp5 (fun q hq=>hq) fr5)
    rw[ebf,hys]
  | nil =>
    have xB:x≠N1:=QX Qmv br5 fun z=>nomatch z
    refine Zi ⟨_,rfl,x,_,dx,_,_,rfl,Qmv,T.zq,T.jy,YJ X1 T1 N1,N1,rfl,.inl ⟨_,.inl br5⟩,_,rfl,_,Sum.inr fo,.ref d,br5,rfl,uW,?_⟩
    rw[UD]
    refine k _ (bs.filter fun r=>decide (r.1≠fo)) ⟨by rw[Qa fi.ne];exact bx5,Qc,fi.ne,Uo fi.nd,by omega,fi.wf,(gB.del hd fun q hq ne o e=>?_).congr (fun _ _ _ e=>e) fun t=>?_⟩ (kp5.upd (.inl hNF)) (fun q hq=>(qu.mp hq).1) fun c e=>fr5 c (Qeh br5 e)
    .rw[Qa (gB.at_ q hq).2.2.1];exact ot5 q hq ne o e
    .rw[ebf,hys]
end
theorem K7{α:Type}{f:α->Str}{l:List α}{n m:Str}:m∈(l.filter fun r=>decide (f r≠n)).map f↔m∈l.map f/\m≠n:=by
 rw[qd,qd]
 constructor
 .rintro⟨r,hr,rfl⟩
  exact⟨⟨r,(qu.mp hr).1,rfl⟩,qg (qu.mp hr).2⟩
 .rintro⟨⟨r,hr,rfl⟩,hn⟩
  exact⟨r,qu.mpr ⟨hr,qp hn⟩,rfl⟩
theorem FT.new{H H':Hp}{T1 p:Addr}{tg:List (Str×Addr)}{mk:Str->QvX}{M ys:QvX}{nm:Str}(h:FT H T1 tg mk M)(hn:¬nm∈tg.map (·.1))(hp:¬p∈tg.map (·.2))(pT:p≠T1)(few:tg.length<40)(yn:ys.Nodup)(yM:∀y∈ys,y∈M)
 (k:∀q∈tg,∀o,H q.2=some o->H' q.2=some o) (e:H' p=some (.dK (Qw ys))) (et:H' T1=some (.dK (brK (tg++[((nm,p):Str×Addr)])))):FT H' T1 (tg++[((nm,p):Str×Addr)]) (ZQ mk nm ys) M:=by
 refine⟨et,by rw[qQ];exact Zz h.nd hn,by rw[qQ];exact Zz h.nda hp,fun q hq=>?_,by rw[qI,qT];omega,h.mf⟩
 rcases qx.mp hq with z | z
 .rw[Zn (fun e=>hn (by rw[<-e];exact qd.mpr ⟨q,z,rfl⟩))]
  exact⟨k q z _ (h.at_ q z).1,(h.at_ q z).2⟩
 .rw[ql.mp z]
  show H' p=some (.dK (Qw (ZQ mk nm ys nm)))/\p≠T1/\(ZQ mk nm ys nm).Nodup/\∀y∈ZQ mk nm ys nm,y∈M
  rw[Q7]
  exact⟨e,pT,yn,yM⟩
theorem FT.set{H H':Hp}{T1 d:Addr}{tg:List (Str×Addr)}{mk:Str->QvX}{M ys:QvX}{nm:Str}(h:FT H T1 tg mk M)(hw:(nm,d)∈tg)(yn:ys.Nodup)(yM:∀y∈ys,y∈M)
 (k:∀q∈tg,q.2≠d->∀o,H q.2=some o->H' q.2=some o) (e:H' d=some (.dK (Qw ys))) (et:H' T1=some (.dK (brK tg))):FT H' T1 tg (ZQ mk nm ys) M:=by
 refine⟨et,h.nd,h.nda,fun q hq=>?_,h.few,h.mf⟩
 by_cases z:q.1=nm
 .have eq:q=(nm,d):=YF h.nd hq hw z
  rw[eq]
  show H' d=some (.dK (Qw (ZQ mk nm ys nm)))/\d≠T1/\(ZQ mk nm ys nm).Nodup/\∀y∈ZQ mk nm ys nm,y∈M
  rw[Q7]
  exact⟨e,(h.at_ _ hw).2.1,yn,yM⟩
 .rw[Zn z]
  refine⟨k q hq (fun u=>z ?_) _ (h.at_ q hq).1,(h.at_ q hq).2⟩
  have:q=(nm,d):=YF h.nda hq hw u
  rw[this]
theorem FT.del{H H':Hp}{T1:Addr}{tg:List (Str×Addr)}{mk:Str->QvX}{M:QvX}(h:FT H T1 tg mk M)(nm:Str)(k:∀q∈tg,∀o,H q.2=some o->H' q.2=some o)(et:H' T1=some (.dK (brK (tg.filter fun r=>decide (r.1≠nm))))):FT H' T1 (tg.filter fun r=>decide (r.1≠nm)) mk M :=
 ⟨et,h.nd.sublist (jG.map _),h.nda.sublist (jG.map _),fun q hq=>⟨k q (qu.mp hq).1 _ (h.at_ q (qu.mp hq).1).1,(h.at_ q (qu.mp hq).1).2⟩,zx (q9 _ _) h.few,h.mf⟩
theorem FT.congr{H:Hp}{T1:Addr}{tg:List (Str×Addr)}{mk mk':Str->QvX}{M:QvX}(h:FT H T1 tg mk M)(e:∀t,mk' t=mk t):FT H T1 tg mk' M:=⟨h.t_,h.nd,h.nda,fun q hq=>by rw[e];exact h.at_ q hq,h.few,h.mf⟩
theorem FT.len{H:Hp}{T1:Addr}{tg:List (Str×Addr)}{mk:Str->QvX}{M:QvX}(h:FT H T1 tg mk M){p:Str×Addr}(hp:p∈tg):(mk p.1).length<=20:=zx (Uh (h.at_ p hp).2.2.1 (h.at_ p hp).2.2.2) h.mf
def FO(a:z8)(H:Hp)(x:Addr)(bx:Rows)(mk:Str->QvX)(W M:QvX)(n:Nat)(F:List Addr):Prop:=∃dx X1 T1 N1 bs tg,H x=some (.ins a.zj dx (UJ X1 T1 N1))/\FI H X1 N1 bx bs W/\FT H T1 tg mk M/\(∀c∈ft1 X1 N1 bs,¬c∈ft2 T1 tg)/\(∀m,m∈tg.map (·.1)↔m∈bx.map (·.1))/\bx.length<=n/\F=ft1 X1 N1 bs++ft2 T1 tg
section
variable {a:z8}{H H':Hp}{x:Addr}{bx:Rows}{mk:Str->QvX}{W M:QvX}{n:Nat}{F:List Addr}
theorem FO.keep(h:FO a H x bx mk W M n F)(k:∀c o,(c=x\/c∈F)->H c=some o->H' c=some o):FO a H' x bx mk W M n F:=by
 obtain⟨dx,X1,T1,N1,bs,tg,obj,fi,ft,dj,nm,l,rfl⟩:=h
 exact⟨dx,X1,T1,N1,bs,tg,k _ _ (.inl rfl) obj,fi.keep fun c o hc e=>k c o (.inr (qN _ hc)) e,ft.keep fun c o hc e=>k c o (.inr (qC _ hc)) e,dj,nm,l,rfl⟩
theorem FO.same(h:FO a H x bx mk W M n F)(s:Qo H H'):FO a H' x bx mk W M n F:=h.keep fun c o _ e=>s c o e
theorem FO.up(h:FO a H x bx mk W M n F):FO a H x bx mk W M (n+1) F:=by
 obtain⟨dx,X1,T1,N1,bs,tg,obj,fi,ft,dj,nm,l,e⟩:=h
 exact⟨dx,X1,T1,N1,bs,tg,obj,fi,ft,dj,nm,by omega,e⟩
theorem FO.kind(h:FO a H x bx mk W M n F){c:Addr}(hc:c∈F):∃kvs,H c=some (.dK kvs):=by
 obtain⟨dx,X1,T1,N1,bs,tg,obj,fi,ft,dj,nm,l,rfl⟩:=h
 rcases qx.mp hc with z | z
 .exact fi.kind z
 .exact ft.kind z
theorem FO.obj(h:FO a H x bx mk W M n F):∃dx X1 T1 N1,H x=some (.ins a.zj dx (UJ X1 T1 N1)):=let ⟨dx,X1,T1,N1,_,_,e,_⟩:=h;⟨dx,X1,T1,N1,e⟩
theorem FO.QuJ(h:FO a H x bx mk W M n F){nm:Str}(hn:nm∈bx.map (·.1)):(mk nm).Nodup/\(∀y∈mk nm,y∈M)/\(mk nm).length<=20:=by
 obtain⟨dx,X1,T1,N1,bs,tg,obj,fi,ft,dj,nn,l,rfl⟩:=h
 obtain⟨d,hd⟩:=Yq ((nn nm).mpr hn)
 exact⟨(ft.at_ _ hd).2.2.1,(ft.at_ _ hd).2.2.2,ft.len hd⟩
end
inductive Qau(a:z8)(vs:List V)(H:Hp)(Q:VK):Prop
 | mk:∀(x dx:Addr)(mk:Str->QvX)(W M:QvX),vs=[.ref x]->W.length<=20->M.length<=20->H x=some (.ins a.zj dx [])->(∀H' F,(∀c o,c≠x->H c=some o->H' c=some o)->(∀c∈F,H c=none)->FO a H' x [] mk W M 0 F->Q .non H')->Qau a vs H Q
def QjZ(a:z8):Sp:=fun vs H Q _=>Qau a vs H Q
inductive Qb9(a:z8)(vs:List V)(H:Hp)(Q:VK):Prop
 | mk:∀(x m:Addr)(bx:Rows)(mk:Str->QvX)(W M:QvX)(n:Nat)(F:List Addr)(nm fo:Str)(ss:QvX),vs=[.ref x,.str nm,.str fo,.ref m]->FO a H x bx mk W M n F->n<40->up bx nm=none->fo∈W->H m=some (.lst (ss.map V.str))->(∀y∈ss,y∈M)->(∀H' F',FO a H' x (bx++[(nm,fo)]) (ZQ mk nm (dd ss)) W M (n+1) F'->KpF F H H'->(∀c∈F',c∈F\/H c=none)->Q .non H')->Qb9 a vs H Q
def QlL(a:z8):Sp:=fun vs H Q _=>Qb9 a vs H Q
inductive Qas(a:z8)(vs:List V)(H:Hp)(Q:VK):Prop
 | mk:∀(x:Addr)(bx:Rows)(mk:Str->QvX)(W M:QvX)(n:Nat)(F:List Addr)(nm:Str),vs=[.ref x,.str nm]->FO a H x bx mk W M n F->nm∈bx.map (·.1)->(∀H' F',FO a H' x (without bx nm) mk W M n F'->KpF F H H'->(∀c∈F',c∈F)->Q .non H')->Qas a vs H Q
def QjX(a:z8):Sp:=fun vs H Q _=>Qas a vs H Q
inductive Kq(a:z8)(vs:List V)(H:Hp)(Q:VK):Prop
 | mk:∀(x:Addr)(bx:Rows)(mk:Str->QvX)(W M:QvX)(n:Nat)(F:List Addr)(nm fo:Str),vs=[.ref x,.str nm,.str fo]->FO a H x bx mk W M n F->nm∈bx.map (·.1)->fo∈W->(∀H' F',FO a H' x (without bx nm++[(nm,fo)]) mk W M n F'->KpF F H H'->(∀c∈F',c∈F\/H c=none)->Q .non H')->Kq a vs H Q
def QhD(a:z8):Sp:=fun vs H Q _=>Kq a vs H Q
inductive Qat(a:z8)(vs:List V)(H:Hp)(Q:VK):Prop
 | mk:∀(x:Addr)(bx:Rows)(mk:Str->QvX)(W M:QvX)(n:Nat)(F:List Addr)(nm y:Str),vs=[.ref x,.str nm,.str y]->FO a H x bx mk W M n F->nm∈bx.map (·.1)->y∈M->(∀H',FO a H' x bx (ZQ mk nm (Zy (mk nm) y)) W M n F->KpF F H H'->Q .non H')->Qat a vs H Q
def QjY(a:z8):Sp:=fun vs H Q _=>Qat a vs H Q
inductive Xo(a:z8)(vs:List V)(H:Hp)(Q:VK):Prop
 | mk:∀(x:Addr)(bx:Rows)(mk:Str->QvX)(W M:QvX)(n:Nat)(F:List Addr)(nm y:Str),vs=[.ref x,.str nm,.str y]->FO a H x bx mk W M n F->nm∈bx.map (·.1)->(∀H',FO a H' x bx (ZQ mk nm ((mk nm).filter fun z=>decide (z≠y))) W M n F->KpF F H H'->Q .non H')->Xo a vs H Q
def Qf0(a:z8):Sp:=fun vs H Q _=>Xo a vs H Q
inductive Xp(a:z8)(vs:List V)(H:Hp)(Q:VK):Prop
 | mk:∀(x:Addr)(bx:Rows)(mk:Str->QvX)(W M:QvX)(n:Nat)(F:List Addr)(nm fo:Str),vs=[.ref x,.str nm]->FO a H x bx mk W M n F->up bx nm=some fo->Q (.str fo) H->Xp a vs H Q
def Qf1(a:z8):Sp:=fun vs H Q _=>Xp a vs H Q
inductive Kr(a:z8)(vs:List V)(H:Hp)(Q:VK):Prop
 | mk:∀(x:Addr)(bx:Rows)(mk:Str->QvX)(W M:QvX)(n:Nat)(F:List Addr)(nm:Str),vs=[.ref x,.str nm]->FO a H x bx mk W M n F->nm∈bx.map (·.1)->(∀l H',H l=none->Qo H H'->H' l=some (.lst ((Q9 (mk nm)).map V.str))->Q (.ref l) H')->Kr a vs H Q
def QhE(a:z8):Sp:=fun vs H Q _=>Kr a vs H Q
section
variable {P:Program}{w:World}{K:Frag}{mg:Str->Option Value}{base:Heap}{a:z8}
theorem Qip{fd:FuncData}(F:jn K "__init__" "Folders.__init__" JQ a.vX fd)(T:Txt K mg a):QO P w K mg base xN 1 a.vX fd ["self"] (QjZ a):=by
 refine F.ok XJ (fun _ _ _ _ h=>by cases h;subst_vars;rfl) (fun cdv A outer st H vs Q E hr h=>?_)
 .obtain⟨x,dx,mk,W,M,rfl,hW,hM,hx,k⟩:=h
  refine⟨_,(Qd (Zo (pv 0) Zv rfl)
   (Qd (Zo (pv 0) Zv rfl)
   (Qf (Zo (pv 0) Zv rfl)))),?_⟩
  intro X1 h1
  have x1:x≠X1:=Qb hx h1
  refine⟨_,rfl,x,_,dx,_,rfl,(by rw[Qa x1];exact hx),T.zq,T.jb,by decide,?_⟩
  have kx1:SX x H (upd (upd H X1 (.dK [])) x (.ins a.zj dx (Qx "boxes" (.ref X1) []))):=fun c o ne e=>by rw[Qa ne,Qa (Qb e h1)];exact e
  have ob1:(upd (upd H X1 (.dK [])) x (.ins a.zj dx (Qx "boxes" (.ref X1) []))) x=some (.ins a.zj dx (Qx "boxes" (.ref X1) [])):=Qc
  have e1:(upd (upd H X1 (.dK [])) x (.ins a.zj dx (Qx "boxes" (.ref X1) []))) X1=some (.dK []):=by rw[Qa x1.symm];exact Qc
  show Ye _ _ _ _ (upd (upd H X1 (.dK [])) x (.ins a.zj dx (Qx "boxes" (.ref X1) [])))
  generalize upd (upd H X1 (.dK [])) x (.ins a.zj dx (Qx "boxes" (.ref X1) []))=H1 at kx1 ob1 e1
  intro T1 h2
  have x2:x≠T1:=Qb ob1 h2
  refine⟨_,rfl,x,_,dx,_,rfl,(by rw[Qa x2];exact ob1),T.zq,T.yd,(by show 1<1000;decide),?_⟩
  have kx2:SX x H1 (upd (upd H1 T1 (.dK [])) x (.ins a.zj dx (Qx "tags" (.ref T1) (Qx "boxes" (.ref X1) [])))):=fun c o ne e=>by rw[Qa ne,Qa (Qb e h2)];exact e
  have ob2:(upd (upd H1 T1 (.dK [])) x (.ins a.zj dx (Qx "tags" (.ref T1) (Qx "boxes" (.ref X1) [])))) x=some (.ins a.zj dx (Qx "tags" (.ref T1) (Qx "boxes" (.ref X1) []))):=Qc
  have e2:(upd (upd H1 T1 (.dK [])) x (.ins a.zj dx (Qx "tags" (.ref T1) (Qx "boxes" (.ref X1) [])))) T1=some (.dK []):=by rw[Qa x2.symm];exact Qc
  show Ye _ _ _ _ (upd (upd H1 T1 (.dK [])) x (.ins a.zj dx (Qx "tags" (.ref T1) (Qx "boxes" (.ref X1) []))))
  generalize upd (upd H1 T1 (.dK [])) x (.ins a.zj dx (Qx "tags" (.ref T1) (Qx "boxes" (.ref X1) [])))=H2 at kx2 ob2 e2
  intro N1 h3
  have x3:x≠N1:=Qb ob2 h3
  refine⟨_,rfl,x,_,dx,_,rfl,(by rw[Qa x3];exact ob2),T.zq,T.jy,(by show 2<1000;decide),?_⟩
  have kx3:SX x H2 (upd (upd H2 N1 (.dK [])) x (.ins a.zj dx (Qx "inside" (.ref N1) (Qx "tags" (.ref T1) (Qx "boxes" (.ref X1) []))))):=fun c o ne e=>by rw[Qa ne,Qa (Qb e h3)];exact e
  have ob3:(upd (upd H2 N1 (.dK [])) x (.ins a.zj dx (Qx "inside" (.ref N1) (Qx "tags" (.ref T1) (Qx "boxes" (.ref X1) []))))) x=some (.ins a.zj dx (UJ X1 T1 N1)):=Qc
  have e3:(upd (upd H2 N1 (.dK [])) x (.ins a.zj dx (Qx "inside" (.ref N1) (Qx "tags" (.ref T1) (Qx "boxes" (.ref X1) []))))) N1=some (.dK []):=by rw[Qa x3.symm];exact Qc
  have e1':=kx2 _ _ x1.symm e1
  have e1'':=kx3 _ _ x1.symm e1'
  have e2':=kx3 _ _ x2.symm e2
  have n12:X1≠T1:=Qb e1 h2
  have n13:X1≠N1:=Qb e1' h3
  have n23:T1≠N1:=Qb e2 h3
  have kx:=(kx1.trans kx2).trans kx3
  refine k _ (ft1 X1 N1 []++ft2 T1 []) (fun c o ne e=>kx c o ne e) (fun c hc=>?_) ⟨dx,X1,T1,N1,[],[],ob3,⟨e1'',e3,n13,zV,zK _,hW,⟨zV,zV,(fun _ z=>nomatch z),fun _ _=>rfl⟩⟩,⟨e2',zV,zV,(fun _ z=>nomatch z),zK _,hM⟩,fun c h1 h2=>?_,fun m=>Iff.rfl,qt _,rfl⟩
  .rcases qx.mp hc with z | z
   .rcases QE.mp z with z | z | z
    .rw[z];exact h1
    .rw[z];exact kx1.free ob1 (kx2.free ob2 h3)
    .cases z
   .rcases Q8.mp z with z | z
    .rw[z];exact kx1.free ob1 h2
    .cases z
  .rcases Q8.mp h2 with z2 | z2
   .rcases QE.mp h1 with z1 | z1 | z1
    .exact n12 (z1.symm.trans z2)
    .exact n23 (z2.symm.trans z1)
    .cases z1
   .cases z2
theorem QdX{fd:FuncData}(F:jn K "folder" "Folders.folder" Jc a.xY fd)(T:Txt K mg a)(FF:ZE K a):QO P w K mg base xN 2 a.xY fd ["self","name"] (Qf1 a):=by
 obtain⟨fdC,qK,zy⟩:=FF.qK
 have zA:=@Jy P w K mg base a _ qK T
 refine F.ok Wj (fun _ _ _ _ h=>by cases h;subst_vars;rfl) (fun cdv A outer st H vs Q E hr h=>?_)
 .obtain⟨x,bx,mk,W,M,n,F,nm,fo,rfl,⟨dx,X1,T1,N1,bs,tg,obj,fi,ft,dj,nn,l,rfl⟩,eu,k⟩:=h
  have hu:=Zr hr
  have zB:QB 1 _:=hr
  refine⟨_,(Qd (Qs (Qj zA zB rfl T.jo qK.kp zy .nil Ql (zr (pv 1) (zr (Qk (pv 0) rfl) Qe))))
   (Qf (QJ (Qv hu (Qk (pv 0) rfl) (pv 1))))),?_⟩
  have hv:Qt (QQ bx) (Sum.inr nm)=some (V.str fo):=by rw[ZC,eu];rfl
  refine⟨_,rfl,_,rfl,x,_,dx,_,_,rfl,obj,T.zq,T.jb,Z5 X1 T1 N1,nm,X1,_,_,rfl,fi.bx_,hv,?_⟩
  exact⟨_,rfl,x,_,dx,_,_,rfl,obj,T.zq,T.jb,Z5 X1 T1 N1,_,rfl,X1,_,rfl,(by rw[<-hv];exact Zk.k (k:=Sum.inr nm) fi.bx_),k⟩
theorem Qgm{fd:FuncData}(F:jn K "marks" "Folders.marks" Jv a.vo fd)(T:Txt K mg a)(FF:ZE K a):QO P w K mg base xN 2 a.vo fd ["self","name"] (QhE a):=by
 obtain⟨fdC,qK,zy⟩:=FF.qK
 have zA:=@Jy P w K mg base a _ qK T
 refine F.ok WN (fun _ _ _ _ h=>by cases h;subst_vars;rfl) (fun cdv A outer st H vs Q E hr h=>?_)
 .obtain⟨x,bx,mk,W,M,n,F,nm,rfl,⟨dx,X1,T1,N1,bs,tg,obj,fi,ft,dj,nn,l,rfl⟩,hn,k⟩:=h
  have hu:=Zr hr
  have zB:QB 1 _:=hr
  refine⟨_,(Qd (Qs (Qj zA zB rfl T.jo qK.kp zy .nil Ql (zr (pv 1) (zr (Qk (pv 0) rfl) Qe))))
   (Qf (QJ (QC (Xh rfl) rfl T.QmL boot_sorted (zr (Qv hu (Qk (pv 0) rfl) (pv 1)) Qe))))),?_⟩
  obtain⟨fo,eu⟩:=Vd hn
  obtain⟨d,hd⟩:=Yq ((nn nm).mpr hn)
  have uW:Qt (brK tg) (Sum.inr nm)=some (V.ref d):=Zq (r:=((nm,d):Str×Addr)) ft.nd hd
  have hml:=ft.len hd
  have hml:(mk nm).length<=20:=hml
  refine⟨_,rfl,_,rfl,x,_,dx,_,_,rfl,obj,T.zq,T.jb,Z5 X1 T1 N1,nm,X1,_,_,rfl,fi.bx_,(by rw[ZC,eu];rfl),?_⟩
  refine⟨_,rfl,x,_,dx,_,_,rfl,obj,T.zq,T.yd,Ul X1 T1 N1,_,rfl,T1,_,rfl,(by rw[<-uW];exact Zk.k (k:=Sum.inr nm) ft.t_),d,Qw (mk nm),mk nm,rfl,(ft.at_ _ hd).1,?_,by omega,fun l hl=>k l _ hl (Qo.z7 hl) Qc⟩
  unfold Qw
  rw[zJ]
  rfl
end
section
variable {P:Program}{w:World}{K:Frag}{mg:Str->Option Value}{base:Heap}{a:z8}
theorem Qio{fd:FuncData}(F:jn K "mark" "Folders.mark" JP a.vW fd)(T:Txt K mg a)(FF:ZE K a):QO P w K mg base xN 2 a.vW fd ["self","name","word"] (QjY a):=by
 obtain⟨fdC,qK,zy⟩:=FF.qK
 have zA:=@Jy P w K mg base a _ qK T
 refine F.ok XI (fun _ _ _ _ h=>by cases h;subst_vars;rfl) (fun cdv A outer st H vs Q E hr h=>?_)
 .obtain⟨x,bx,mk,W,M,n,F,nm,y,rfl,⟨dx,X1,T1,N1,bs,tg,obj,fi,ft,dj,nn,l,rfl⟩,hn,hy,k⟩:=h
  have hu:=Zr hr
  have zB:QB 1 _:=hr
  refine⟨_,(Qd (Qs (Qj zA zB rfl T.jo qK.kp zy .nil Ql (zr (pv 1) (zr (Qk (pv 0) rfl) Qe))))
   (Qf (Zp hu (Qv hu (Qk (pv 0) rfl) (pv 1)) (pv 2) YY rfl))),?_⟩
  obtain⟨fo,eu⟩:=Vd hn
  obtain⟨d,hd⟩:=Yq ((nn nm).mpr hn)
  have uW:Qt (brK tg) (Sum.inr nm)=some (V.ref d):=Zq (r:=((nm,d):Str×Addr)) ft.nd hd
  have hml:(mk nm).length<=20:=ft.len hd
  have ed:H d=some (.dK (Qw (mk nm))):=(ft.at_ _ hd).1
  have dT:d≠T1:=(ft.at_ _ hd).2.1
  have hdF:d∈ft2 T1 tg:=Q8.mpr (.inr (qd.mpr ⟨_,hd,rfl⟩))
  refine⟨_,rfl,_,rfl,x,_,dx,_,_,rfl,obj,T.zq,T.jb,Z5 X1 T1 N1,nm,X1,_,_,rfl,fi.bx_,(by rw[ZC,eu];rfl),?_⟩
  refine⟨_,rfl,x,_,dx,_,_,rfl,obj,T.zq,T.yd,Ul X1 T1 N1,_,rfl,T1,_,rfl,(by rw[<-uW];exact Zk.k (k:=Sum.inr nm) ft.t_),_,rfl,d,_,rfl,Jo.k (k:=Sum.inr y) ed (by rw[Qw,qi];exact QK (by omega)),?_⟩
  rw[Qe6]
  have xd:x≠d:=QX obj ed fun z=>nomatch z
  refine k _ ⟨dx,X1,T1,N1,bs,tg,by rw[Qa xd];exact obj,fi.keep fun c o hc e=>by rw[Qa (fun z=>dj c hc (by rw[z];exact hdF))];exact e,ft.set hd (Qes (ft.at_ _ hd).2.2.1) (fun z hz=>?_) (fun q _ ne o e=>by rw[Qa ne];exact e) Qc (by rw[Qa dT.symm];exact ft.t_),dj,nn,l,rfl⟩ (KpF.upd (fun c o _ e=>e) (.inl (qC _ hdF)))
  rcases Qbw.mp hz with u | u
  .exact(ft.at_ _ hd).2.2.2 z u
  .rw[u];exact hy
theorem QdV{fd:FuncData}(F:jn K "unmark" "Folders.unmark" Ja a.xV fd)(T:Txt K mg a)(FF:ZE K a):QO P w K mg base xN 2 a.xV fd ["self","name","word"] (Qf0 a):=by
 obtain⟨fdC,qK,zy⟩:=FF.qK
 have zA:=@Jy P w K mg base a _ qK T
 refine F.ok Wh (fun _ _ _ _ h=>by cases h;subst_vars;rfl) (fun cdv A outer st H vs Q E hr h=>?_)
 .obtain⟨x,bx,mk,W,M,n,F,nm,y,rfl,⟨dx,X1,T1,N1,bs,tg,obj,fi,ft,dj,nn,l,rfl⟩,hn,k⟩:=h
  have hu:=Zr hr
  have zB:QB 1 _:=hr
  refine⟨_,(Qd (Qs (Qj zA zB rfl T.jo qK.kp zy .nil Ql (zr (pv 1) (zr (Qk (pv 0) rfl) Qe))))
   (Qf (Qs (Qh7 (Qv hu (Qk (pv 0) rfl) (pv 1)) (pv 2) VQ ⟨rfl,rfl,rfl,rfl⟩)))),?_⟩
  obtain⟨fo,eu⟩:=Vd hn
  obtain⟨d,hd⟩:=Yq ((nn nm).mpr hn)
  have uW:Qt (brK tg) (Sum.inr nm)=some (V.ref d):=Zq (r:=((nm,d):Str×Addr)) ft.nd hd
  have ed:H d=some (.dK (Qw (mk nm))):=(ft.at_ _ hd).1
  have dT:d≠T1:=(ft.at_ _ hd).2.1
  have hdF:d∈ft2 T1 tg:=Q8.mpr (.inr (qd.mpr ⟨_,hd,rfl⟩))
  refine⟨_,rfl,_,rfl,x,_,dx,_,_,rfl,obj,T.zq,T.jb,Z5 X1 T1 N1,nm,X1,_,_,rfl,fi.bx_,(by rw[ZC,eu];rfl),?_⟩
  have xd:x≠d:=QX obj ed fun z=>nomatch z
  refine⟨_,rfl,x,_,dx,_,_,rfl,obj,T.zq,T.yd,Ul X1 T1 N1,_,rfl,T1,_,rfl,(by rw[<-uW];exact Zk.k (k:=Sum.inr nm) ft.t_),d,rfl,.inl ⟨_,.inl ed⟩,_,rfl,_,Sum.inr y,ed,rfl,fun v _=>?_,fun hv=>?_⟩
  .rw[Yw]
   exact k _ ⟨dx,X1,T1,N1,bs,tg,by rw[Qa xd];exact obj,fi.keep fun c o hc e=>by rw[Qa (fun z=>dj c hc (by rw[z];exact hdF))];exact e,ft.set hd ((ft.at_ _ hd).2.2.1.filter _) (fun z hz=>(ft.at_ _ hd).2.2.2 z (qu.mp hz).1) (fun q _ ne o e=>by rw[Qa ne];exact e) Qc (by rw[Qa dT.symm];exact ft.t_),dj,nn,l,rfl⟩ (KpF.upd (fun c o _ e=>e) (.inl (qC _ hdF)))
  .have ny:¬y∈mk nm:=fun z=>by rw[Y9,qD z] at hv;cases hv
   refine k _ ⟨dx,X1,T1,N1,bs,tg,obj,fi,ft.congr fun t=>?_,dj,nn,l,rfl⟩ fun c o _ e=>e
   by_cases e:t=nm
   .rw[e,Q7];exact VX ny
   .exact Zn e
theorem Qin{fd:FuncData}(F:jn K "take_out" "Folders.take_out" ZO a.yU fd)(T:Txt K mg a)(FF:ZE K a):QO P w K mg base xN 2 a.yU fd ["self","name"] (QjX a):=by
 obtain⟨fdC,qK,zy⟩:=FF.qK
 obtain⟨fdO,QtF,vZ⟩:=FF.uv
 have zA:=@Jy P w K mg base a _ qK T
 have v5:=@QaH P w K mg base a _ QtF T
 refine F.ok Vv (fun _ _ _ _ h=>by cases h;subst_vars;rfl) (fun cdv A outer st H vs Q E hr h=>?_)
 .obtain⟨x,bx,mk,W,M,n,F,nm,rfl,⟨dx,X1,T1,N1,bs,tg,obj,fi,ft,dj,nn,l,rfl⟩,hn,k⟩:=h
  have hu:=Zr hr
  have zB:QB 1 _:=hr
  have vy:QB 1 _:=hr
  refine⟨_,(Qd (Qs (Qj zA zB rfl T.jo qK.kp zy .nil Ql (zr (pv 1) (zr (Qk (pv 0) rfl) Qe))))
   (Qd (Qs (QT (pv 0) T.zq T.um v5 vy vZ .nil Ql (zr (pv 1) Qe)))
   (Qf (Qs (Z4 (Qk (pv 0) rfl) (pv 1) ⟨rfl,rfl,rfl,rfl⟩))))),?_⟩
  obtain⟨fo,eu⟩:=Vd hn
  obtain⟨d,hd⟩:=Yq ((nn nm).mpr hn)
  have uW:Qt (brK tg) (Sum.inr nm)=some (V.ref d):=Zq (r:=((nm,d):Str×Addr)) ft.nd hd
  refine⟨_,rfl,_,rfl,x,_,dx,_,_,rfl,obj,T.zq,T.jb,Z5 X1 T1 N1,nm,X1,_,_,rfl,fi.bx_,(by rw[ZC,eu];rfl),?_⟩
  refine⟨_,rfl,x,dx,_,rfl,obj,rfl,_,rfl,x,dx,X1,T1,N1,bx,bs,W,nm,fo,rfl,obj,fi,eu,fun H5 bs5 fi5 kp5 in5 fr5=>?_⟩
  have nx1:¬x∈ft1 X1 N1 bs:=fun z=>by obtain⟨_,e⟩:=fi.kind z;rw[obj] at e;cases e
  have Qmv:=kp5 _ _ nx1 obj
  have ft5:=ft.keep (H':=H5) fun c o hc e=>kp5 c o (fun z=>dj c z hc) e
  refine⟨_,rfl,x,_,dx,_,_,rfl,Qmv,T.zq,T.yd,Ul X1 T1 N1,T1,rfl,.inl ⟨_,.inl ft5.t_⟩,_,rfl,_,Sum.inr nm,.ref d,ft5.t_,rfl,uW,?_⟩
  rw[UD]
  have hT2:T1∈ft2 T1 tg:=Q8.mpr (.inl rfl)
  have Qqu:∀c∈ft1 X1 N1 bs5,c∈ft1 X1 N1 bs:=fun c hc=>by
   rcases QE.mp hc with z | z | z
   .exact QE.mpr (.inl z)
   .exact QE.mpr (.inr (.inl z))
   .obtain⟨q,hq,rfl⟩:=qd.mp z
    exact QE.mpr (.inr (.inr (qd.mpr ⟨q,in5 q hq,rfl⟩)))
  have sub2:∀c∈ft2 T1 (tg.filter fun r=>decide (r.1≠nm)),c∈ft2 T1 tg:=fun c hc=>by
   rcases Q8.mp hc with z | z
   .exact Q8.mpr (.inl z)
   .obtain⟨q,hq,rfl⟩:=qd.mp z
    exact Q8.mpr (.inr (qd.mpr ⟨q,(qu.mp hq).1,rfl⟩))
  have xT:x≠T1:=QX Qmv ft5.t_ fun z=>nomatch z
  have wl:(without bx nm).length<=bx.length:=q9 _ _
  refine k _ (ft1 X1 N1 bs5++ft2 T1 (tg.filter fun r=>decide (r.1≠nm))) ⟨dx,X1,T1,N1,bs5,_,by rw[Qa xT];exact Qmv,fi5.keep fun c o hc e=>by rw[Qa (fun z=>dj c (Qqu c hc) (by rw[z];exact hT2))];exact e,ft5.del nm (fun q hq o e=>by rw[Qa (ft.at_ q hq).2.1];exact e) Qc,fun c h1 h2=>dj c (Qqu c h1) (sub2 c h2),fun m=>?_,by omega,rfl⟩
   (fun c o hc e=>by rw[Qa (fun z=>hc (qC _ (by rw[z];exact hT2)))];exact kp5 c o (fun z=>hc (qN _ z)) e) fun c hc=>(qx.mp hc).elim (fun z=>qN _ (Qqu c z)) fun z=>qC _ (sub2 c z)
  rw[K7 (f:=fun r:Str×Addr=>r.1),nn m]
  unfold L2.without
  rw[K7 (f:=fun r:Str×Str=>r.1)]
theorem Qgl{fd:FuncData}(F:jn K "place" "Folders.place" Ju a.vm fd)(T:Txt K mg a)(FF:ZE K a):QO P w K mg base xN 2 a.vm fd ["self","name","folder"] (QhD a):=by
 obtain⟨fdC,qK,zy⟩:=FF.qK
 obtain⟨fdO,QtF,vZ⟩:=FF.uv
 obtain⟨fdI,QvV,wA⟩:=FF.uN
 have zA:=@Jy P w K mg base a _ qK T
 have v5:=@QaH P w K mg base a _ QtF T
 have wC:=@Qcy P w K mg base a _ QvV T
 refine F.ok WM (fun _ _ _ _ h=>by cases h;subst_vars;rfl) (fun cdv A outer st H vs Q E hr h=>?_)
 .obtain⟨x,bx,mk,W,M,n,F,nm,fo2,rfl,⟨dx,X1,T1,N1,bs,tg,obj,fi,ft,dj,nn,l,rfl⟩,hn,hfo,k⟩:=h
  have zB:QB 1 _:=hr
  have vy:QB 1 _:=hr
  have vP:QB 1 _:=hr
  refine⟨_,(Qd (Qs (Qj zA zB rfl T.jo qK.kp zy .nil Ql (zr (pv 1) (zr (Qk (pv 0) rfl) Qe))))
   (Qd (Qs (QT (pv 0) T.zq T.um v5 vy vZ .nil Ql (zr (pv 1) Qe)))
   (Qf (Qs (QT (pv 0) T.zq T.uJ wC vP wA .nil Ql (zr (pv 1) (zr (pv 2) Qe))))))),?_⟩
  obtain⟨fo,eu⟩:=Vd hn
  refine⟨_,rfl,_,rfl,x,_,dx,_,_,rfl,obj,T.zq,T.jb,Z5 X1 T1 N1,nm,X1,_,_,rfl,fi.bx_,(by rw[ZC,eu];rfl),?_⟩
  refine⟨_,rfl,x,dx,_,rfl,obj,rfl,_,rfl,x,dx,X1,T1,N1,bx,bs,W,nm,fo,rfl,obj,fi,eu,fun H5 bs5 fi5 kp5 in5 fr5=>?_⟩
  have nx1:¬x∈ft1 X1 N1 bs:=fun z=>by obtain⟨_,e⟩:=fi.kind z;rw[obj] at e;cases e
  have Qmv:=kp5 _ _ nx1 obj
  have ft5:=ft.keep (H':=H5) fun c o hc e=>kp5 c o (fun z=>dj c z hc) e
  have Qqu:∀c∈ft1 X1 N1 bs5,c∈ft1 X1 N1 bs:=fun c hc=>by
   rcases QE.mp hc with z | z | z
   .exact QE.mpr (.inl z)
   .exact QE.mpr (.inr (.inl z))
   .obtain⟨q,hq,rfl⟩:=qd.mp z
    exact QE.mpr (.inr (.inr (qd.mpr ⟨q,in5 q hq,rfl⟩)))
  have hnw:¬nm∈(without bx nm).map (·.1):=fun z=>by
   unfold L2.without at z
   exact(K7 (f:=fun r:Str×Str=>r.1).mp z).2 rfl
  have wl:(without bx nm).length<bx.length:=by
   have h1:((without bx nm).map (·.1)++[nm]).Nodup:=Zz (Uo fi.nd) hnw
   have h2:=Uh h1 (l:=bx.map (·.1)) fun m hm=>by
    rcases qx.mp hm with z | z
    .unfold L2.without at z
     exact(K7 (f:=fun r:Str×Str=>r.1).mp z).1
    .rw[ql.mp z];exact hn
   rw[qI,qT,qi,qi] at h2
   omega
  have hfew:=fi.few
  refine⟨_,rfl,x,dx,_,rfl,Qmv,rfl,_,rfl,_,rfl,x,dx,X1,T1,N1,without bx nm,bs5,W,nm,fo2,rfl,Qmv,fi5,Yd.mpr hnw,by omega,hfo,fun H6 bs6 fi6 kp6 in6=>?_⟩
  have nx5:¬x∈ft1 X1 N1 bs5:=fun z=>nx1 (Qqu x z)
  refine k H6 (ft1 X1 N1 bs6++ft2 T1 tg) ⟨dx,X1,T1,N1,bs6,tg,kp6 _ _ nx5 Qmv,fi6,ft5.keep fun c o hc e=>kp6 c o (fun z=>dj c (Qqu c z) hc) e,fun c h1 h2=>?_,fun m=>?_,by rw[qI,qT];omega,rfl⟩ (fun c o hc e=>kp6 c o (fun z=>hc (qN _ (Qqu c z))) (kp5 c o (fun z=>hc (qN _ z)) e)) fun c hc=>?_
  .rcases QE.mp h1 with z | z | z
   .exact dj c (QE.mpr (.inl z)) h2
   .exact dj c (QE.mpr (.inr (.inl z))) h2
   .obtain⟨q,hq,rfl⟩:=qd.mp z
    rcases in6 q hq with y | y
    .exact dj _ (Qqu _ (QE.mpr (.inr (.inr (qd.mpr ⟨q,y,rfl⟩))))) h2
    .obtain⟨_,e⟩:=ft5.kind h2
     rw[y] at e
     cases e
  .rw[nn m,qQ,qx]
   unfold L2.without
   rw[K7 (f:=fun r:Str×Str=>r.1)]
   constructor
   .intro h
    by_cases e:m=nm
    .exact .inr (by rw[e];exact qL)
    .exact .inl ⟨h,e⟩
   .rintro(h | h)
    .exact h.1
    .rw[ql.mp h];exact hn
  .rcases qx.mp hc with z | z
   .rcases QE.mp z with z | z | z
    .exact .inl (qN _ (QE.mpr (.inl z)))
    .exact .inl (qN _ (QE.mpr (.inr (.inl z))))
    .obtain⟨q,hq,rfl⟩:=qd.mp z
     rcases in6 q hq with y | y
     .exact .inl (qN _ (Qqu _ (QE.mpr (.inr (.inr (qd.mpr ⟨q,y,rfl⟩))))))
     .exact .inr (fr5 _ y)
   .exact .inl (qC _ z)
end
section
variable {P:Program}{w:World}{K:Frag}{mg:Str->Option Value}{base:Heap}{a:z8}
theorem Qku{fd:FuncData}(F:WB K "add" "Folders.add" Yl a.wM fd)(T:Txt K mg a)(FF:ZE K a):QO P w K mg base xN 2 a.wM fd ["self","name","folder","marks"] (QlL a):=by
 obtain⟨fdC,jL,wX⟩:=FF.jL
 obtain⟨fdI,QvV,wA⟩:=FF.uN
 have wY:=@QdT P w K mg base a _ jL T
 have wC:=@Qcy P w K mg base a _ QvV T
 refine F.ok UX (fun _ _ _ _ h=>by cases h;subst_vars;rfl) (fun cdv A outer st H vs Q E hr h=>?_)
 .obtain⟨x,m,bx,mk,W,M,n,F,nm,fo,ss,rfl,⟨dx,X1,T1,N1,bs,tg,obj,fi,ft,dj,nn,l,rfl⟩,hn40,hnm,hfo,hm,hss,k⟩:=h
  have hu:=Zr hr
  have vO:QB 1 _:=hr
  have vP:QB 1 _:=hr
  refine⟨_,(Qd (Qs (Qj wY vO rfl T.QmJ jL.kp wX .nil Ql (zr (pv 1) (zr (Qk (pv 0) rfl) Qe))))
   (Qd (Zp hu (Qk (pv 0) rfl) (pv 1) Zv rfl)
   (Qd (QZ (QL Qfb (pv 3) VQ) (Qf (Uz yP rfl (Yn (pv 3)) (ZI (i:=4) UX.nd rfl (Or.inl rfl)) (Qf (Zp hu (Qv hu (Qk (pv 0) rfl) (pv 1)) (pv 4) YY rfl)))) QD)
   (Qf (Qs (QT (pv 0) T.zq T.uJ wC vP wA .nil Ql (zr (pv 1) (zr (pv 2) Qe)))))))),?_⟩
  have hnt:¬nm∈tg.map (·.1):=fun z=>Yd.mp hnm ((nn nm).mp z)
  have tl:tg.length<=bx.length:=by
   have:=Uh ft.nd fun m hm=>(nn m).mp hm
   rw[qi,qi] at this
   exact this
  have hmf:=ft.mf
  have hT2:T1∈ft2 T1 tg:=Q8.mpr (.inl rfl)
  refine⟨_,rfl,_,rfl,x,_,dx,_,_,rfl,obj,T.zq,T.jb,Z5 X1 T1 N1,nm,X1,_,rfl,fi.bx_,(by rw[ZC,hnm];rfl),?_⟩
  intro p hp
  have xp:x≠p:=Qb obj hp
  have Tp:T1≠p:=Qb ft.t_ hp
  have mp:m≠p:=Qb hm hp
  have mT:m≠T1:=QX hm ft.t_ fun z=>nomatch z
  have xT:x≠T1:=QX obj ft.t_ fun z=>nomatch z
  refine⟨_,rfl,x,_,dx,_,_,rfl,(by rw[Qa xp];exact obj),T.zq,T.yd,Ul X1 T1 N1,_,rfl,T1,_,rfl,Jo.k (k:=Sum.inr nm) (by rw[Qa Tp];exact ft.t_) (by rw[Xg];exact QK (by omega)),?_⟩
  rw[Xf ((nm,p):Str×Addr) hnt rfl rfl]
  have k2:∀c o,c≠T1->H c=some o->(upd (upd H p (.dK [])) T1 (.dK (brK (tg++[((nm,p):Str×Addr)])))) c=some o:=fun c o ne e=>by rw[Qa ne,Qa (Qb e hp)];exact e
  have t2:(upd (upd H p (.dK [])) T1 (.dK (brK (tg++[((nm,p):Str×Addr)])))) T1=some (.dK (brK (tg++[((nm,p):Str×Addr)]))):=Qc
  have p2:(upd (upd H p (.dK [])) T1 (.dK (brK (tg++[((nm,p):Str×Addr)])))) p=some (.dK (Qw [])):=by rw[Qa Tp.symm];exact Qc
  show Ye _ _ _ _ (upd (upd H p (.dK [])) T1 (.dK (brK (tg++[((nm,p):Str×Addr)]))))
  generalize upd (upd H p (.dK [])) T1 (.dK (brK (tg++[((nm,p):Str×Addr)])))=H2 at k2 t2 p2
  have ntp:¬p∈tg.map (·.2):=fun z=>by
   obtain⟨q,hq,eq⟩:=qd.mp z
   have:=(ft.at_ q hq).1
   rw[eq,hp] at this
   cases this
  have ft2':FT H2 T1 (tg++[((nm,p):Str×Addr)]) (ZQ mk nm []) M:=ft.new hnt ntp Tp.symm (by omega) zV (fun _ z=>nomatch z) (fun q hq o e=>k2 _ _ (ft.at_ q hq).2.1 e) p2 t2
  have fi2:FI H2 X1 N1 bx bs W:=fi.keep fun c o hc e=>k2 c o (fun z=>dj c hc (by rw[z];exact hT2)) e
  have dj2:∀c∈ft1 X1 N1 bs,¬c∈ft2 T1 (tg++[((nm,p):Str×Addr)]):=fun c hc z=>by
   rcases Q8.mp z with z | z
   .exact dj c hc (Q8.mpr (.inl z))
   .rw[qQ] at z
    rcases qx.mp z with z | z
    .exact dj c hc (Q8.mpr (.inr z))
    .obtain⟨_,e⟩:=fi.kind hc
     rw[ql.mp z,hp] at e
     cases e
  have hdp:((nm,p):Str×Addr)∈tg++[((nm,p):Str×Addr)]:=qC _ qL
  have hpF:p∈ft2 T1 (tg++[((nm,p):Str×Addr)]):=Q8.mpr (.inr (qd.mpr ⟨_,hdp,rfl⟩))
  have kp2:KpF (ft1 X1 N1 bs++ft2 T1 tg) H H2:=fun c o hc e=>k2 c o (fun z=>hc (qC _ (by rw[z];exact hT2))) e
  refine⟨_,rfl,rfl,_,rfl,Zi ?_⟩
  refine⟨_,rfl,m,rfl,⟨_,jH.of (k2 _ _ mT hm)⟩,YI (K:=K) (a:=m) (xs:=ss.map V.str) (fun j σ H4=>∃(o:Option V),σ=[some (.ref x),some (.str nm),some (.str fo),some (.ref m),o]/\H4 x=some (.ins a.zj dx (UJ X1 T1 N1))/\FI H4 X1 N1 bx bs W/\FT H4 T1 (tg++[((nm,p):Str×Addr)]) (ZQ mk nm ((ss.take j).foldl Zy [])) M/\H4 m=some (.lst (ss.map V.str))/\KpF (ft1 X1 N1 bs++ft2 T1 tg) H H4)
   ⟨none,rfl,k2 _ _ xT obj,fi2,by rw[Qra];exact ft2',k2 _ _ mT hm,kp2⟩ ?_ ?_ ?_⟩
  .rintro j σ H4 _ ⟨o,rfl,yH,fi4,ft4,m4,kp4⟩
   exact jH.of m4
  .rintro j v σ H4 hv ⟨o,rfl,yH,fi4,ft4,m4,kp4⟩
   obtain⟨y,hy,rfl⟩:∃y,ss[j]?=some y/\V.str y=v:=by
    rw[q8] at hv
    cases e:ss[j]? with
    | none=>rw[e] at hv;cases hv
    | some t=>rw[e] at hv;exact⟨t,rfl,qR hv⟩
   have et:ss.take (j+1)=ss.take j++[y]:=by rw[jX,hy];rfl
   have uW:Qt (brK (tg++[((nm,p):Str×Addr)])) (Sum.inr nm)=some (V.ref p):=Zq (r:=((nm,p):Str×Addr)) ft4.nd hdp
   obtain⟨ep,_,ynd,yM⟩:=ft4.at_ _ hdp
   have ep:H4 p=some (.dK (Qw (ZQ mk nm ((ss.take j).foldl Zy []) nm))):=ep
   have ynd:(ZQ mk nm ((ss.take j).foldl Zy []) nm).Nodup:=ynd
   have yM:∀z∈ZQ mk nm ((ss.take j).foldl Zy []) nm,z∈M:=yM
   rw[Q7] at ep ynd yM
   have hyl:=Uh ynd yM
   refine⟨_,rfl,x,_,dx,_,_,rfl,yH,T.zq,T.yd,Ul X1 T1 N1,_,rfl,T1,_,rfl,(by rw[<-uW];exact Zk.k (k:=Sum.inr nm) ft4.t_),_,rfl,p,_,rfl,Jo.k (k:=Sum.inr y) ep (by rw[Qw,qi];exact QK (by omega)),?_⟩
   rw[Qe6]
   refine⟨_,rfl,by rw[Qa xp];exact yH,fi4.keep fun c o hc e=>by rw[Qa (fun z=>dj2 c hc (by rw[z];exact hpF))];exact e,?_,by rw[Qa mp];exact m4,kp4.upd (.inr hp)⟩
   rw[et,wg]
   refine(ft4.set hdp (ys:=Zy ((ss.take j).foldl Zy []) y) (Qes ynd) (fun z hz=>?_) (fun q _ ne o e=>by rw[Qa ne];exact e) Qc (by rw[Qa Tp];exact ft4.t_)).congr fun t=>?_
   .rcases Qbw.mp hz with u | u
    .exact yM z u
    .rw[u];exact hss y (qU hy)
   .by_cases e:t=nm
    .rw[e,Q7,Q7];rfl
    .rw[Zn e,Zn e,Zn e]
  .rintro σ H4 ⟨o,rfl,yH,fi4,ft4,m4,kp4⟩
   rw[qi,QoW] at ft4
   refine⟨_,rfl,x,dx,_,rfl,yH,rfl,_,rfl,_,rfl,x,dx,X1,T1,N1,bx,bs,W,nm,fo,rfl,yH,fi4,hnm,by omega,hfo,fun H5 bs5 fi5 kp5 in5=>?_⟩
   have nx1:¬x∈ft1 X1 N1 bs:=fun z=>by obtain⟨_,e⟩:=fi.kind z;rw[obj] at e;cases e
   have fr4:∀c,H4 c=none->H c=none:=fun c e=>by
    cases q:H c with
    | none=>rfl
    | some o =>
      by_cases z:c∈ft1 X1 N1 bs++ft2 T1 tg
      .rcases qx.mp z with z | z
       .obtain⟨_,e2⟩:=fi4.kind z;rw[e] at e2;cases e2
       .have z2:c∈ft2 T1 (tg++[((nm,p):Str×Addr)]):=by
         rcases Q8.mp z with u | u
         .exact Q8.mpr (.inl u)
         .exact Q8.mpr (.inr (by rw[qQ];exact qN _ u))
        obtain⟨_,e2⟩:=ft4.kind z2;rw[e] at e2;cases e2
      .rw[kp4 c o z q] at e;cases e
   refine k H5 (ft1 X1 N1 bs5++ft2 T1 (tg++[((nm,p):Str×Addr)])) ⟨dx,X1,T1,N1,bs5,_,kp5 _ _ nx1 yH,fi5,ft4.keep fun c o hc e=>kp5 c o (fun z=>dj2 c z hc) e,fun c h1 h2=>?_,fun m=>?_,by rw[qI,qT];omega,rfl⟩ (fun c o hc e=>kp5 c o (fun z=>hc (qN _ z)) (kp4 c o hc e)) fun c hc=>?_
   .rcases QE.mp h1 with z | z | z
    .exact dj2 c (QE.mpr (.inl z)) h2
    .exact dj2 c (QE.mpr (.inr (.inl z))) h2
    .obtain⟨q,hq,rfl⟩:=qd.mp z
     rcases in5 q hq with y | y
     .exact dj2 _ (QE.mpr (.inr (.inr (qd.mpr ⟨q,y,rfl⟩)))) h2
     .obtain⟨_,e⟩:=ft4.kind h2
      rw[y] at e
      cases e
   .rw[qQ,qQ,qx,qx,nn m]
    exact Iff.rfl
   .rcases qx.mp hc with z | z
    .rcases QE.mp z with z | z | z
     .exact .inl (qN _ (QE.mpr (.inl z)))
     .exact .inl (qN _ (QE.mpr (.inr (.inl z))))
     .obtain⟨q,hq,rfl⟩:=qd.mp z
      rcases in5 q hq with y | y
      .exact .inl (qN _ (QE.mpr (.inr (.inr (qd.mpr ⟨q,y,rfl⟩)))))
      .exact .inr (fr4 _ y)
    .rcases Q8.mp z with z | z
     .exact .inl (qC _ (Q8.mpr (.inl z)))
     .rw[qQ] at z
      rcases qx.mp z with u | u
      .exact .inl (qC _ (Q8.mpr (.inr u)))
      .rw[ql.mp u];exact .inr hp
end
section
variable {P:Program}{w:World}{K:Frag}{mg:Str->Option Value}{base:Heap}{a:z8}
end
inductive QeK(K:Frag)(vs:List V)(H:Hp)(Q:VK):Prop
 | mk:∀(a:Addr)(ns:List Int),vs=[.ref a]->jH K H a (ns.map V.int)->ns.length<=63->(∀H',Q (.bl true) H')->QeK K vs H Q
def Qtf(K:Frag):Sp:=fun vs H Q _=>QeK K vs H Q
theorem QbG{a b:Str}:decide (V.str a=V.str b)=decide (a=b):=by
 by_cases h:a=b
 .rw[h,qp rfl,qp rfl]
 .rw[qF h,qF fun z=>h (V.str.inj z)]
section
variable {α:Type}
end
abbrev NW:=List (Str×QvX)
def Z3(R:NW)(t:Str):QvX:=(R.filter fun r=>decide (t∈r.2)).map (·.1)
theorem Qg1(R:NW)(n:Str)(ws:QvX)(t:Str):Z3 (R++[(n,ws)]) t=Z3 R t++if t∈ws then [n] else []:=by
 unfold Z3
 rw[zE,qQ]
 by_cases h:t∈ws <;> simp[qX,h]
theorem Gz{R:NW}{t n:Str}:n∈Z3 R t↔∃ws,(n,ws)∈R/\t∈ws:=by
 unfold Z3
 constructor
 .intro h
  obtain⟨r,hr,rfl⟩:=qd.mp h
  exact⟨r.2,(qu.mp hr).1,qg (qu.mp hr).2⟩
 .rintro⟨ws,h1,h2⟩
  exact qd.mpr ⟨(n,ws),qu.mpr ⟨h1,qp h2⟩,rfl⟩
theorem Qju{R:NW}{t n:Str}(h:n∈Z3 R t):n∈R.map (·.1):=let ⟨ws,h1,_⟩:=Gz.mp h;qd.mpr ⟨(n,ws),h1,rfl⟩
theorem Qjw(R:NW)(t:Str):(Z3 R t).length<=R.length:=by unfold Z3;rw[qi];exact q9 _ _
def noN(R:NW)(n:Str):NW:=R.filter fun r=>decide (r.1≠n)
theorem Qjv(R:NW)(n t:Str):Z3 (noN R n) t=(Z3 R t).filter fun m=>decide (m≠n):=by
 unfold Z3 noN
 rw[yw,gQ,gQ]
 congr 1
 refine QoA fun r _=>?_
 show(decide (t∈r.2) && decide (r.1≠n))=(decide (r.1≠n) && decide (t∈r.2))
 rw[Bool.and_comm]
theorem Qmc{R:NW}(nd:(R.map (·.1)).Nodup){n:Str}{a b:QvX}(h1:(n,a)∈R)(h2:(n,b)∈R):a=b:=by
 induction R with
 | nil=>cases h1
 | cons r R ih =>
   rw[qW,jf] at nd
   rcases qG.mp h1 with e1 | h1
   .rcases qG.mp h2 with e2 | h2
    .rw[<-e2] at e1;exact(Qq8 e1).2
    .exact absurd (qd.mpr ⟨_,h2,by rw[<-e1]⟩) nd.1
   .rcases qG.mp h2 with e2 | h2
    .exact absurd (qd.mpr ⟨_,h1,by rw[<-e2]⟩) nd.1
    .exact ih nd.2 h1 h2
abbrev Jj:=Str×Addr×QvX
abbrev J0(rows:List Jj):List (Key×V):=dG (·.1) (fun r=>V.ref r.2.1) rows
def ZA(rows:List Jj):NW:=rows.map fun r=>(r.1,r.2.2)
theorem KQ(rows:List Jj):(ZA rows).map (·.1)=rows.map (·.1):=by unfold ZA;rw[zJ];rfl
theorem KR(rows:List Jj):(ZA rows).length=rows.length:=qi _
structure IX(a:z8)(H:Hp)(x dx E B:Addr)(rows:List Jj)(bs:List (Str×Addr))(W:QvX):Prop where
 obj:H x=some (.ins a.yf dx [("entries",.ref E),("bearers",.ref B)])
 en:H E=some (.dK (J0 rows))
 br:H B=some (.dK (brK bs))
 eb:E≠B
 ls:∀r∈rows,H r.2.1=some (.lst (r.2.2.map V.str))/\SS r.2.2=r.2.2/\∀w∈r.2.2,w∈W
 nd:(rows.map (·.1)).Nodup
 few:rows.length<=40
 wf:W.length<=20
 bd:BD H E B bs (Z3 (ZA rows)) W
def ftp(E B:Addr)(rows:List Jj)(bs:List (Str×Addr)):List Addr:=E :: B :: (bs.map (·.2)++rows.map (·.2.1))
inductive IXs(a:z8)(H:Hp)(x:Addr)(R:NW)(W:QvX)(n:Nat)(F:List Addr):Prop
 | mk:∀dx E B rows bs,IX a H x dx E B rows bs W->ZA rows=R->R.length<=n->F=ftp E B rows bs->IXs a H x R W n F
theorem Ze{E B:Addr}{rows:List Jj}{bs:List (Str×Addr)}{c:Addr}:c∈ftp E B rows bs↔c=E\/c=B\/c∈bs.map (·.2)\/c∈rows.map (·.2.1):=by
 unfold ftp
 rw[qG,qG,qx]
theorem IX.keep{a:z8}{H H':Hp}{x dx E B:Addr}{rows:List Jj}{bs:List (Str×Addr)}{W:QvX}(h:IX a H x dx E B rows bs W)(k:∀c o,(c=x\/c∈ftp E B rows bs)->H c=some o->H' c=some o):IX a H' x dx E B rows bs W :=
 ⟨k _ _ (.inl rfl) h.obj,k _ _ (.inr (Ze.mpr (.inl rfl))) h.en,k _ _ (.inr (Ze.mpr (.inr (.inl rfl)))) h.br,h.eb,
   fun r hr=>⟨k _ _ (.inr (Ze.mpr (.inr (.inr (.inr (qd.mpr ⟨r,hr,rfl⟩)))))) (h.ls r hr).1,(h.ls r hr).2⟩,h.nd,h.few,h.wf,
   h.bd.congr (fun p hp o e=>k _ _ (.inr (Ze.mpr (.inr (.inr (.inl (qd.mpr ⟨p,hp,rfl⟩)))))) e) fun _=>rfl⟩
theorem IXs.keep{a:z8}{H H':Hp}{x:Addr}{R:NW}{W:QvX}{n:Nat}{F:List Addr}(h:IXs a H x R W n F)(k:∀c o,(c=x\/c∈F)->H c=some o->H' c=some o):IXs a H' x R W n F:=by
 obtain⟨dx,E,B,rows,bs,i,e1,e2,rfl⟩:=h
 exact⟨dx,E,B,rows,bs,i.keep k,e1,e2,rfl⟩
theorem IXs.kind{a:z8}{H:Hp}{x:Addr}{R:NW}{W:QvX}{n:Nat}{F:List Addr}(h:IXs a H x R W n F){c:Addr}(hc:c∈F):(∃kvs,H c=some (.dK kvs))\/∃xs,H c=some (.lst xs):=by
 obtain⟨dx,E,B,rows,bs,i,e1,e2,rfl⟩:=h
 rcases Ze.mp hc with z | z | z | z
 .rw[z];exact .inl ⟨_,i.en⟩
 .rw[z];exact .inl ⟨_,i.br⟩
 .obtain⟨p,hp,rfl⟩:=qd.mp z
  exact .inl ⟨_,(i.bd.at_ p hp).1⟩
 .obtain⟨r,hr,rfl⟩:=qd.mp z
  exact .inr ⟨_,(i.ls r hr).1⟩
theorem IXs.obj{a:z8}{H:Hp}{x:Addr}{R:NW}{W:QvX}{n:Nat}{F:List Addr}(h:IXs a H x R W n F):∃dx E B,H x=some (.ins a.yf dx [("entries",.ref E),("bearers",.ref B)]):=let ⟨_,_,_,_,_,i,_,_,_⟩:=h;⟨_,_,_,i.obj⟩
inductive Qar(a:z8)(vs:List V)(H:Hp)(Q:VK):Prop
 | mk:∀(x dx:Addr)(W:QvX),vs=[.ref x]->W.length<=20->H x=some (.ins a.yf dx [])->(∀H' F,(∀c o,c≠x->H c=some o->H' c=some o)->(∀c∈F,H c=none)->IXs a H' x [] W 0 F->Q .non H')->Qar a vs H Q
def QjW(a:z8):Sp:=fun vs H Q _=>Qar a vs H Q
inductive Qb8(a:z8)(vs:List V)(H:Hp)(Q:VK):Prop
 | mk:∀(x p:Addr)(R:NW)(W:QvX)(n:Nat)(F:List Addr)(nm:Str)(ss:QvX),vs=[.ref x,.str nm,.ref p]->IXs a H x R W n F->n<40->¬nm∈R.map (·.1)->H p=some (.lst (ss.map V.str))->(∀w∈ss,w∈W)->ss.length<=60->(∀H' F',IXs a H' x (R++[(nm,SS ss)]) W (n+1) F'->KpF F H H'->(∀c∈F',c∈F\/H c=none)->Q .non H')->Qb8 a vs H Q
def QlK(a:z8):Sp:=fun vs H Q _=>Qb8 a vs H Q
inductive Qaq(a:z8)(vs:List V)(H:Hp)(Q:VK):Prop
 | mk:∀(x:Addr)(R:NW)(W:QvX)(n:Nat)(F:List Addr)(nm:Str),vs=[.ref x,.str nm]->IXs a H x R W n F->nm∈R.map (·.1)->(∀H' F',IXs a H' x (noN R nm) W n F'->KpF F H H'->(∀c∈F',c∈F)->Q .non H')->Qaq a vs H Q
def QjV(a:z8):Sp:=fun vs H Q _=>Qaq a vs H Q
theorem U9(E B:Addr):([("entries",V.ref E),("bearers",V.ref B)]:List (Str×V)).lookup ("entries":Str)=some (V.ref E):=by simp[List.lookup]
theorem YK(E B:Addr):([("entries",V.ref E),("bearers",V.ref B)]:List (Str×V)).lookup ("bearers":Str)=some (V.ref B):=by
 have e:(("bearers":Str) == ("entries":Str))=false:=by decide +kernel
 simp[List.lookup,e]
section
variable {P:Program}{w:World}{K:Frag}{mg:Str->Option Value}{base:Heap}{a:z8}
theorem Qil{fd:FuncData}(F:jn K "__init__" "Index.__init__" YS a.gq fd)(T:Txt K mg a):QO P w K mg base xN 1 a.gq fd ["self"] (QjW a):=by
 refine F.ok GJ (fun _ _ _ _ h=>by cases h;subst_vars;rfl) (fun cdv A outer st H vs Q E hr h=>?_)
 .obtain⟨x,dx,W,rfl,hW,hx,k⟩:=h
  refine⟨_,(Qd (Zo (pv 0) Zv rfl)
   (Qf (Zo (pv 0) Zv rfl))),?_⟩
  intro L hL
  have ne1:x≠L:=Qb hx hL
  refine⟨_,rfl,x,_,dx,_,rfl,(by rw[Qa ne1];exact hx),T.yC,T.yj,by decide,?_⟩
  intro B hB
  have hx1:(upd (upd H L (.dK [])) x (.ins a.yf dx (Qx "entries" (.ref L) []))) x=some (.ins a.yf dx (Qx "entries" (.ref L) [])):=Qc
  have hL1:(upd (upd H L (.dK [])) x (.ins a.yf dx (Qx "entries" (.ref L) []))) L=some (.dK []):=by rw[Qa ne1.symm];exact Qc
  have ne2:x≠B:=Qb hx1 hB
  have ne3:L≠B:=Qb hL1 hB
  refine⟨_,rfl,x,_,dx,_,rfl,(by rw[Qa ne2];exact hx1),T.yC,T.jJ,(by show 1<1000;decide),?_⟩
  have hB0:H B=none:=by rw[Qa ne2.symm,Qa ne3.symm] at hB;exact hB
  refine k _ (ftp L B [] []) (fun c o ne e=>?_) (fun c hc=>?_) ⟨dx,L,B,[],[],⟨Qc,?_,?_,ne3,(fun _ z=>nomatch z),zV,zK _,hW,⟨zV,zV,(fun _ z=>nomatch z),fun _ _=>rfl⟩⟩,rfl,qt _,rfl⟩
  .rw[Qa ne,Qa (Qb (by rw[Qa ne,Qa (Qb e hL)];exact e) hB),Qa ne,Qa (Qb e hL)]
   exact e
  .rcases Ze.mp hc with z | z | z | z
   .rw[z];exact hL
   .rw[z];exact hB0
   .cases z
   .cases z
  .rw[Qa ne1.symm,Qa ne3,Qa ne1.symm];exact Qc
  .rw[Qa ne2.symm];exact Qc
theorem Qkx{rows:List Jj}{nm:Str}{ws:QvX}(h:(nm,ws)∈ZA rows):∃l,((nm,l,ws):Jj)∈rows:=by
 obtain⟨r,hr,e⟩:=qd.mp h
 obtain⟨e1,e2⟩:=Qq8 e
 exact⟨r.2.1,by rw[<-e1,<-e2];exact hr⟩
end
def bfi(R:NW)(nm:Str)(pre:QvX):Str->QvX:=fun t=>Z3 R t++if t∈pre then [nm] else []
theorem Qdl{R:NW}{nm y:Str}{pre:QvX}(h:¬y∈pre)(t:Str):bfi R nm (pre++[y]) t=ZQ (bfi R nm pre) y (bfi R nm pre y++[nm]) t:=by
 by_cases e:t=y
 .subst e
  rw[Q7]
  unfold bfi
  rw[qy h,qD (qC _ qL),je]
 .rw[Zn e]
  unfold bfi
  have:t∈pre++[y]↔t∈pre:=by rw[qx,ql];exact⟨fun z=>z.elim id fun q=>absurd q e,.inl⟩
  by_cases z:t∈pre
  .rw[qD z,qD (this.mpr z)]
  .rw[qy z,qy fun q=>z (this.mp q)]
def bft(R:NW)(nm:Str)(pre:QvX):Str->QvX:=fun t=>if t∈pre then (Z3 R t).filter fun m=>decide (m≠nm) else Z3 R t
theorem Qdk{R:NW}{nm y:Str}{pre:QvX}(t:Str):bft R nm (pre++[y]) t=ZQ (bft R nm pre) y ((Z3 R y).filter fun m=>decide (m≠nm)) t:=by
 by_cases e:t=y
 .subst e
  rw[Q7]
  exact qD (qC _ qL)
 .rw[Zn e]
  unfold bft
  have:t∈pre++[y]↔t∈pre:=by rw[qx,ql];exact⟨fun z=>z.elim id fun q=>absurd q e,.inl⟩
  by_cases z:t∈pre
  .rw[qD z,qD (this.mpr z)]
  .rw[qy z,qy fun q=>z (this.mp q)]
theorem Qfh(rows:List Jj)(r:Jj):ZA (rows++[r])=ZA rows++[(r.1,r.2.2)]:=by unfold ZA;rw[qQ];rfl
theorem QdY(rows:List Jj)(nm:Str):ZA (rows.filter fun r=>decide (r.1≠nm))=noN (ZA rows) nm:=by
 unfold ZA noN
 rw[yw]
 rfl
theorem Qh1{xs:QvX}{i:Nat}{v:V}(h:(xs.map V.str)[i]?=some v):∃y,xs[i]?=some y/\v=V.str y:=by
 rw[q8] at h
 cases e:xs[i]? with
 | none=>rw[e] at h;cases h
 | some t=>rw[e] at h;exact⟨t,rfl,(qR h).symm⟩
theorem UN{xs:QvX}{i:Nat}{y:Str}(h:xs[i]?=some y):xs.take (i+1)=xs.take i++[y]:=by rw[jX,h];rfl
theorem QiC{xs:QvX}{i:Nat}{y:Str}(nd:xs.Nodup)(h:xs[i]?=some y):¬y∈xs.take i:=fun z=>by
 have h1:(xs.take i++[y]).Nodup:=by rw[<-UN h];exact nd.sublist (List.take_sublist _ _)
 rw[jZ] at h1
 exact h1.2.2 y z y qL rfl
section
variable {P:Program}{w:World}{K:Frag}{mg:Str->Option Value}{base:Heap}{a:z8}
theorem Qkt{fd:FuncData}(F:jn K "add" "Index.add" Uw a.ue fd)(T:Txt K mg a)(FF:ZE K a):QO P w K mg base xN 2 a.ue fd ["self","name","words"] (QlK a):=by
 obtain⟨fdC,jL,wX⟩:=FF.jL
 have wY:=@QdT P w K mg base a _ jL T
 refine F.ok Wg (fun _ _ _ _ h=>by cases h;subst_vars;rfl) (fun cdv A outer st H vs Q E hr h=>?_)
 .obtain⟨x,p,R,W,n,F,nm,ss,rfl,⟨dx,E,B,rows,bs,i,rfl,hRn,rfl⟩,hn40,hnm,hp,hW,hss,k⟩:=h
  have hu:=Zr hr
  have vO:QB 1 _:=hr
  rw[KQ] at hnm
  rw[KR] at hRn
  have hwf:=i.wf
  have hdd:=Qeo ss
  have hv0:Qt (J0 rows) (Sum.inr nm)=none:=JB hnm
  refine⟨_,(Qd (Qs (Qj wY vO rfl T.QmJ jL.kp wX .nil Ql (zr (pv 1) (zr (Qk (pv 0) rfl) Qe))))
   (Qd (Zp hu (Qk (pv 0) rfl) (pv 1) (QC (UK rfl) rfl T.QmL boot_sorted (zr (JI (XE rfl) rfl T.QuS boot_set (zr (pv 2) Qe)) Qe)) rfl)
   (Qf (Uz yP rfl (Yn (Qv hu (Qk (pv 0) rfl) (pv 1))) (ZI (i:=3) Wg.nd rfl (Or.inl rfl)) (Qd (QZ (Z2 (Jl hu (pv 3) (Qk (pv 0) rfl))) (Qf (Zp hu (Qk (pv 0) rfl) (pv 3) Zv rfl)) QD)
   (Qf (Zp hu (Qv hu (Qk (pv 0) rfl) (pv 3)) (pv 1) YY rfl))))))),?_⟩
  refine⟨_,rfl,_,rfl,x,_,dx,_,_,rfl,i.obj,T.yC,T.yj,U9 E B,nm,E,_,rfl,i.en,hv0,?_⟩
  refine⟨_,rfl,p,ss,rfl,.inl (jH.of hp),by omega,fun u hu0=>⟨u,dd ss,rfl,Qc,by omega,fun l hl=>?_⟩⟩
  have s1:Qo H (upd H u (UE P w u (dd ss))):=Qo.z7 hu0
  have l0:H l=none:=s1.free hl
  have s2:Qo H (upd (upd H u (UE P w u (dd ss))) l (.lst ((SS ss).map V.str))):=s1.uR l0
  have l2:(upd (upd H u (UE P w u (dd ss))) l (.lst ((SS ss).map V.str))) l=some (.lst ((SS ss).map V.str)):=Qc
  refine⟨_,rfl,x,_,dx,_,_,rfl,s2 _ _ i.obj,T.yC,T.yj,U9 E B,_,rfl,E,_,rfl,Jo.k (k:=Sum.inr nm) (s2 _ _ i.en) (by rw[Xg];exact QK (by omega)),?_⟩
  rw[Xf ((nm,l,SS ss):Jj) hnm rfl rfl]
  have xE:x≠E:=QX i.obj i.en fun z=>nomatch z
  have lE:l≠E:=(Qb i.en l0).symm
  have QsA:(upd (upd (upd H u (UE P w u (dd ss))) l (.lst ((SS ss).map V.str))) E (.dK (J0 (rows++[((nm,l,SS ss):Jj)])))) x=some (.ins a.yf dx [("entries",.ref E),("bearers",.ref B)]):=by rw[Qa xE];exact s2 _ _ i.obj
  have en3:(upd (upd (upd H u (UE P w u (dd ss))) l (.lst ((SS ss).map V.str))) E (.dK (J0 (rows++[((nm,l,SS ss):Jj)])))) E=some (.dK (J0 (rows++[((nm,l,SS ss):Jj)]))):=Qc
  have br3:(upd (upd (upd H u (UE P w u (dd ss))) l (.lst ((SS ss).map V.str))) E (.dK (J0 (rows++[((nm,l,SS ss):Jj)])))) B=some (.dK (brK bs)):=by rw[Qa i.eb.symm];exact s2 _ _ i.br
  have l3:(upd (upd (upd H u (UE P w u (dd ss))) l (.lst ((SS ss).map V.str))) E (.dK (J0 (rows++[((nm,l,SS ss):Jj)])))) l=some (.lst ((SS ss).map V.str)):=by rw[Qa lE];exact l2
  have ls3:∀r∈rows,(upd (upd (upd H u (UE P w u (dd ss))) l (.lst ((SS ss).map V.str))) E (.dK (J0 (rows++[((nm,l,SS ss):Jj)])))) r.2.1=some (.lst (r.2.2.map V.str)):=fun r hr=>by
   rw[Qa (QX (i.ls r hr).1 i.en fun z=>nomatch z)];exact s2 _ _ (i.ls r hr).1
  have bd3:BD (upd (upd (upd H u (UE P w u (dd ss))) l (.lst ((SS ss).map V.str))) E (.dK (J0 (rows++[((nm,l,SS ss):Jj)])))) E B bs (bfi (ZA rows) nm []) W:=i.bd.congr (fun q hq o e=>by rw[Qa (i.bd.at_ q hq).2.1];exact s2 _ _ e) fun t=>by
   show Z3 (ZA rows) t++(if t∈([]:QvX) then [nm] else [])=_
   rw[qy (fun z=>nomatch z),je]
  have kp3:KpF (ftp E B rows bs) H (upd (upd (upd H u (UE P w u (dd ss))) l (.lst ((SS ss).map V.str))) E (.dK (J0 (rows++[((nm,l,SS ss):Jj)])))):=KpF.upd (fun c o _ e=>s2 c o e) (.inl (Ze.mpr (.inl rfl)))
  show Ye _ _ _ _ (upd (upd (upd H u (UE P w u (dd ss))) l (.lst ((SS ss).map V.str))) E (.dK (J0 (rows++[((nm,l,SS ss):Jj)]))))
  generalize upd (upd (upd H u (UE P w u (dd ss))) l (.lst ((SS ss).map V.str))) E (.dK (J0 (rows++[((nm,l,SS ss):Jj)])))=H3 at QsA en3 br3 l3 ls3 bd3 kp3
  have nd3:((rows++[((nm,l,SS ss):Jj)]).map (·.1)).Nodup:=by rw[qQ];exact Zz i.nd hnm
  have hv3:Qt (J0 (rows++[((nm,l,SS ss):Jj)])) (Sum.inr nm)=some (V.ref l):=Zq (r:=((nm,l,SS ss):Jj)) nd3 (qC _ qL)
  have hfew:=i.few
  have ndS:=Qli ss
  refine⟨_,rfl,x,_,dx,_,_,rfl,QsA,T.yC,T.yj,U9 E B,_,rfl,E,_,rfl,(by rw[<-hv3];exact Zk.k (k:=Sum.inr nm) en3),l,rfl,⟨_,jH.of l3⟩,YI (K:=K) (a:=l) (xs:=(SS ss).map V.str)
   (fun j σ H4=>Ex2 fun(bs4:List (Str×Addr))(o:Option V)=>And9 (σ=[some (.ref x),some (.str nm),some (.ref p),o]) (H4 x=some (.ins a.yf dx [("entries",.ref E),("bearers",.ref B)])) (H4 E=some (.dK (J0 (rows++[((nm,l,SS ss):Jj)])))) (H4 B=some (.dK (brK bs4))) (H4 l=some (.lst ((SS ss).map V.str))) ((∀r∈rows,H4 r.2.1=some (.lst (r.2.2.map V.str)))) (BD H4 E B bs4 (bfi (ZA rows) nm ((SS ss).take j)) W) (KpF (ftp E B rows bs) H H4) ((∀q∈bs4,q.2∈ftp E B rows bs\/H q.2=none)))
   ⟨bs,none,rfl,QsA,en3,br3,l3,ls3,by rw[Qra];exact bd3,kp3,fun q hq=>.inl (Ze.mpr (.inr (.inr (.inl (qd.mpr ⟨q,hq,rfl⟩)))))⟩ ?_ ?_ ?_⟩
  .rintro j σ H4 _ ⟨bs4,o,rfl,yH,en4,br4,l4,ls4,gB,kp4,in4⟩
   exact jH.of l4
  .rintro j v σ H4 hv ⟨bs4,o,rfl,yH,en4,br4,l4,ls4,gB,kp4,in4⟩
   obtain⟨y,hy,rfl⟩:=Qh1 hv
   have ym:y∈SS ss:=qU hy
   have yW:y∈W:=hW y (Qbx.mp ym)
   have QsB:=QiC ndS hy
   have hl4:=gB.len
   have hBF:B∈ftp E B rows bs:=Ze.mpr (.inr (.inl rfl))
   refine⟨_,rfl,_,rfl,x,_,dx,_,_,rfl,yH,T.yC,T.jJ,YK E B,B,_,rfl,Zk.k (k:=Sum.inr y) br4,_,rfl,?_⟩
   by_cases hyb:y∈bs4.map (·.1)
   .obtain⟨d,hd⟩:=Yq hyb
    have uW:Qt (brK bs4) (Sum.inr y)=some (V.ref d):=Zq (r:=((y,d):Str×Addr)) gB.nd hd
    obtain⟨ed,dE,dB,_,_⟩:=gB.at_ _ hd
    have ed:H4 d=some (.dK (Qw (bfi (ZA rows) nm ((SS ss).take j) y))):=ed
    rw[uW]
    have nrep:¬nm∈bfi (ZA rows) nm ((SS ss).take j) y:=fun z=>by
     unfold bfi at z
     rw[qy QsB,je] at z
     exact hnm (by rw[<-KQ];exact Qju z)
    have lenb:(bfi (ZA rows) nm ((SS ss).take j) y).length<=40:=by
     unfold bfi
     rw[qy QsB,je]
     have:=Qjw (ZA rows) y
     rw[KR] at this
     omega
    refine Q4 ⟨_,rfl,x,_,dx,_,_,rfl,yH,T.yC,T.jJ,YK E B,_,rfl,B,_,rfl,(by rw[<-uW];exact Zk.k (k:=Sum.inr y) br4),_,rfl,d,_,rfl,Jo.k (k:=Sum.inr nm) ed (by rw[Qw,qi];exact QK (by omega)),?_⟩
    rw[Wl nrep]
    have xd:x≠d:=QX yH ed fun z=>nomatch z
    have ld:l≠d:=QX l4 ed fun z=>nomatch z
    refine⟨bs4,_,rfl,by rw[Qa xd];exact yH,by rw[Qa dE.symm];exact en4,by rw[Qa dB.symm];exact br4,by rw[Qa ld];exact l4,fun r hr=>by rw[Qa (QX (ls4 r hr) ed fun z=>nomatch z)];exact ls4 r hr,?_,kp4.upd (in4 _ hd),in4⟩
    rw[UN hy]
    exact(gB.set hd (by simp) (fun q _ ne o e=>by rw[Qa ne];exact e) Qc).congr (fun _ _ _ e=>e) fun t=>Qdl QsB t
   .have uW:Qt (brK bs4) (Sum.inr y)=none:=JB hyb
    rw[uW]
    refine Zi ?_
    intro d hd0
    have xd:x≠d:=Qb yH hd0
    have Ed:E≠d:=Qb en4 hd0
    have Bd:B≠d:=Qb br4 hd0
    have ld:l≠d:=Qb l4 hd0
    have xB:x≠B:=QX yH br4 fun z=>nomatch z
    have lB:l≠B:=QX l4 br4 fun z=>nomatch z
    have dn:d∈ftp E B rows bs\/H d=none:=by
     cases e:H d with
     | none=>exact .inr rfl
     | some o =>
       by_cases hin:d∈ftp E B rows bs
       .exact .inl hin
       .have:=kp4 d o hin e
        rw[hd0] at this
        cases this
    refine⟨_,rfl,x,_,dx,_,_,rfl,(by rw[Qa xd];exact yH),T.yC,T.jJ,YK E B,_,rfl,B,_,rfl,Jo.k (k:=Sum.inr y) (by rw[Qa Bd];exact br4) (by rw[Xg];exact QK (by omega)),?_⟩
    rw[Xf ((y,d):Str×Addr) hyb rfl rfl]
    have nd5:((bs4++[((y,d):Str×Addr)]).map (·.1)).Nodup:=by rw[qQ];exact Zz gB.nd hyb
    have hv5:Qt (brK (bs4++[((y,d):Str×Addr)])) (Sum.inr y)=some (V.ref d):=Zq (r:=((y,d):Str×Addr)) nd5 (qC _ qL)
    have br5:(upd (upd H4 d (.dK [])) B (.dK (brK (bs4++[((y,d):Str×Addr)])))) B=some (.dK (brK (bs4++[((y,d):Str×Addr)]))):=Qc
    have d5:(upd (upd H4 d (.dK [])) B (.dK (brK (bs4++[((y,d):Str×Addr)])))) d=some (.dK []):=by rw[Qa Bd.symm];exact Qc
    refine⟨_,rfl,x,_,dx,_,_,rfl,(by rw[Qa xB,Qa xd];exact yH),T.yC,T.jJ,YK E B,_,rfl,B,_,rfl,(by rw[<-hv5];exact Zk.k (k:=Sum.inr y) br5),_,rfl,d,_,rfl,Jo.k (k:=Sum.inr nm) d5 (by decide),?_⟩
    have ek:Za ([]:List (Key×V)) (Sum.inr nm) (.bl true)=Qw [nm]:=rfl
    rw[ek]
    have e0:bfi (ZA rows) nm ((SS ss).take j) y=[]:=gB.no_ y hyb
    refine⟨bs4++[((y,d):Str×Addr)],_,rfl,by rw[Qa xd,Qa xB,Qa xd];exact yH,by rw[Qa Ed,Qa i.eb,Qa Ed];exact en4,by rw[Qa Bd];exact Qc,by rw[Qa ld,Qa lB,Qa ld];exact l4,fun r hr=>?_,?_,((kp4.upd dn).upd (.inl hBF)).upd dn,fun q hq=>?_⟩
    .rw[Qa (Qb (ls4 r hr) hd0),Qa (QX (ls4 r hr) br4 fun z=>nomatch z),Qa (Qb (ls4 r hr) hd0)]
     exact ls4 r hr
    .rw[UN hy]
     refine(gB.new (p:=d) (ys:=bfi (ZA rows) nm ((SS ss).take j) y++[nm]) hyb (fun z=>?_) Ed.symm Bd.symm yW (by simp) (fun q hq o e=>?_) ?_).congr (fun _ _ _ e=>e) fun t=>Qdl QsB t
     .obtain⟨q,hq,eq⟩:=qd.mp z
      have:=(gB.at_ q hq).1
      rw[eq,hd0] at this
      cases this
     .rw[Qa (Qb e hd0),Qa (gB.at_ q hq).2.2.1,Qa (Qb e hd0)]
      exact e
     .rw[e0,Qc];rfl
    .rcases qx.mp hq with z | z
     .exact in4 q z
     .rw[ql.mp z];exact dn
  .rintro σ H4 ⟨bs4,o,rfl,yH,en4,br4,l4,ls4,gB,kp4,in4⟩
   rw[qi,QoW] at gB
   refine k H4 (ftp E B (rows++[((nm,l,SS ss):Jj)]) bs4) ⟨dx,E,B,rows++[((nm,l,SS ss):Jj)],bs4,⟨yH,en4,br4,i.eb,fun r hr=>?_,nd3,by rw[qI,qT];omega,i.wf,gB.congr (fun _ _ _ e=>e) fun t=>?_⟩,Qfh _ _,?_,rfl⟩ kp4 fun c hc=>?_
   .rcases qx.mp hr with z | z
    .exact⟨ls4 r z,(i.ls r z).2⟩
    .rw[ql.mp z]
     exact⟨l4,QkW ss,fun y hy=>hW y (Qbx.mp hy)⟩
   .rw[Qfh]
    exact Qg1 _ _ _ _
   .rw[qI,qT,KR];omega
   .rcases Ze.mp hc with z | z | z | z
    .exact .inl (Ze.mpr (.inl z))
    .exact .inl (Ze.mpr (.inr (.inl z)))
    .obtain⟨q,hq,rfl⟩:=qd.mp z
     exact in4 q hq
    .rw[qQ] at z
     rcases qx.mp z with y | y
     .exact .inl (Ze.mpr (.inr (.inr (.inr y))))
     .rw[ql.mp y];exact .inr l0
end
section
variable {P:Program}{w:World}{K:Frag}{mg:Str->Option Value}{base:Heap}{a:z8}
theorem Qik{fd:FuncData}(F:jn K "take_out" "Index.take_out" Z9 a.xU fd)(T:Txt K mg a)(FF:ZE K a):QO P w K mg base xN 2 a.xU fd ["self","name"] (QjV a):=by
 obtain⟨fdC,qK,zy⟩:=FF.qK
 have zA:=@Jy P w K mg base a _ qK T
 refine F.ok Js (fun _ _ _ _ h=>by cases h;subst_vars;rfl) (fun cdv A outer st H vs Q E hr h=>?_)
 .obtain⟨x,R,W,n,F,nm,rfl,⟨dx,E,B,rows,bs,i,rfl,hRn,rfl⟩,hm,k⟩:=h
  have hu:=Zr hr
  have zB:QB 1 _:=hr
  obtain⟨r0,hr0,e0⟩:=qd.mp hm
  obtain⟨nm0,ws⟩:=r0
  obtain rfl:nm0=nm:=e0
  obtain⟨l,hl⟩:=Qkx hr0
  have hnd:((ZA rows).map (·.1)).Nodup:=by rw[KQ];exact i.nd
  have hv0:Qt (J0 rows) (Sum.inr nm0)=some (V.ref l):=Zq (r:=((nm0,l,ws):Jj)) i.nd hl
  obtain⟨el,eS,eW⟩:=i.ls _ hl
  have eS:SS ws=ws:=eS
  refine⟨_,(Qd (Qs (Qj zA zB rfl T.jo qK.kp zy .nil Ql (zr (pv 1) (zr (Qk (pv 0) rfl) Qe))))
   (Qd (Qy (i:=2) Js.nd rfl (Or.inl rfl) (Z4 (Qk (pv 0) rfl) (pv 1) ⟨rfl,rfl,rfl,rfl⟩))
   (Qf (Uz yP rfl (Yn (pv 2)) (ZI (i:=3) Js.nd rfl (Or.inl rfl)) (Qd (Qs (Z4 (Qv hu (Qk (pv 0) rfl) (pv 3)) (pv 1) ⟨rfl,rfl,rfl,rfl⟩))
   (Qf (QZ (Jw (Qcs (Qv hu (Qk (pv 0) rfl) (pv 3)) (fun _=>rfl))) (Qf (Qs (Z4 (Qk (pv 0) rfl) (pv 3) ⟨rfl,rfl,rfl,rfl⟩))) QD))))))),?_⟩
  refine⟨_,rfl,_,rfl,x,_,dx,_,_,rfl,i.obj,T.yC,T.yj,U9 E B,nm0,E,_,_,rfl,i.en,hv0,?_⟩
  refine⟨_,rfl,x,_,dx,_,_,rfl,i.obj,T.yC,T.yj,U9 E B,E,rfl,.inl ⟨_,.inl i.en⟩,_,rfl,_,Sum.inr nm0,.ref l,i.en,rfl,hv0,?_⟩
  rw[UD]
  have xE:x≠E:=QX i.obj i.en fun z=>nomatch z
  have QsA:(upd H E (.dK (J0 (rows.filter fun r=>decide (r.1≠nm0))))) x=some (.ins a.yf dx [("entries",.ref E),("bearers",.ref B)]):=by rw[Qa xE];exact i.obj
  have en3:(upd H E (.dK (J0 (rows.filter fun r=>decide (r.1≠nm0))))) E=some (.dK (J0 (rows.filter fun r=>decide (r.1≠nm0)))):=Qc
  have br3:(upd H E (.dK (J0 (rows.filter fun r=>decide (r.1≠nm0))))) B=some (.dK (brK bs)):=by rw[Qa i.eb.symm];exact i.br
  have ls3:∀r∈rows,(upd H E (.dK (J0 (rows.filter fun r=>decide (r.1≠nm0))))) r.2.1=some (.lst (r.2.2.map V.str)):=fun r hr=>by
   rw[Qa (QX (i.ls r hr).1 i.en fun z=>nomatch z)];exact(i.ls r hr).1
  have bd3:BD (upd H E (.dK (J0 (rows.filter fun r=>decide (r.1≠nm0))))) E B bs (bft (ZA rows) nm0 []) W:=i.bd.congr (fun q hq o e=>by rw[Qa (i.bd.at_ q hq).2.1];exact e) fun t=>qy fun z=>nomatch z
  have kp3:KpF (ftp E B rows bs) H (upd H E (.dK (J0 (rows.filter fun r=>decide (r.1≠nm0))))):=KpF.upd (fun c o _ e=>e) (.inl (Ze.mpr (.inl rfl)))
  show Ye _ _ _ _ (upd H E (.dK (J0 (rows.filter fun r=>decide (r.1≠nm0)))))
  generalize upd H E (.dK (J0 (rows.filter fun r=>decide (r.1≠nm0))))=H3 at QsA en3 br3 ls3 bd3 kp3
  have ndS:ws.Nodup:=by rw[<-eS];exact Qli ws
  refine⟨_,rfl,l,rfl,⟨_,jH.of (ls3 _ hl)⟩,YI (K:=K) (a:=l) (xs:=ws.map V.str)
   (fun j σ H4=>Ex2 fun(bs4:List (Str×Addr))(o:Option V)=>And8 (σ=[some (.ref x),some (.str nm0),some (.ref l),o]) (H4 x=some (.ins a.yf dx [("entries",.ref E),("bearers",.ref B)])) (H4 E=some (.dK (J0 (rows.filter fun r=>decide (r.1≠nm0))))) (H4 B=some (.dK (brK bs4))) ((∀r∈rows,H4 r.2.1=some (.lst (r.2.2.map V.str)))) (BD H4 E B bs4 (bft (ZA rows) nm0 (ws.take j)) W) (KpF (ftp E B rows bs) H H4) ((∀q∈bs4,q∈bs)))
   ⟨bs,none,rfl,QsA,en3,br3,ls3,by rw[Qra];exact bd3,kp3,fun q hq=>hq⟩ ?_ ?_ ?_⟩
  .rintro j σ H4 _ ⟨bs4,o,rfl,yH,en4,br4,ls4,gB,kp4,in4⟩
   exact jH.of (ls4 _ hl)
  .rintro j v σ H4 hv ⟨bs4,o,rfl,yH,en4,br4,ls4,gB,kp4,in4⟩
   obtain⟨y,hy,rfl⟩:=Qh1 hv
   have ym:y∈ws:=qU hy
   have QsB:=QiC ndS hy
   have hbe:bft (ZA rows) nm0 (ws.take j) y=Z3 (ZA rows) y:=qy QsB
   have hin:nm0∈Z3 (ZA rows) y:=Gz.mpr ⟨ws,hr0,ym⟩
   have hyb:y∈bs4.map (·.1):=Classical.byContradiction fun z=>by
    have:=gB.no_ y z
    rw[hbe] at this
    rw[this] at hin
    cases hin
   obtain⟨d,hd⟩:=Yq hyb
   have uW:Qt (brK bs4) (Sum.inr y)=some (V.ref d):=Zq (r:=((y,d):Str×Addr)) gB.nd hd
   obtain⟨ed,dE,dB,_,_⟩:=gB.at_ _ hd
   have ed:H4 d=some (.dK (Qw (Z3 (ZA rows) y))):=by rw[ed];show some (HO.dK (Qw (bft (ZA rows) nm0 (ws.take j) y)))=_;rw[hbe]
   have xd:x≠d:=QX yH ed fun z=>nomatch z
   have xB:x≠B:=QX yH br4 fun z=>nomatch z
   have hdF:d∈ftp E B rows bs:=Ze.mpr (.inr (.inr (.inl (qd.mpr ⟨_,in4 _ hd,rfl⟩))))
   have hBF:B∈ftp E B rows bs:=Ze.mpr (.inr (.inl rfl))
   refine⟨_,rfl,x,_,dx,_,_,rfl,yH,T.yC,T.jJ,YK E B,_,rfl,B,_,rfl,(by rw[<-uW];exact Zk.k (k:=Sum.inr y) br4),d,rfl,.inl ⟨_,.inl ed⟩,_,rfl,_,Sum.inr nm0,.bl true,ed,rfl,(by rw[Y9,qD hin]),?_⟩
   rw[Yw]
   have Qmv:(upd H4 d (.dK (Qw ((Z3 (ZA rows) y).filter fun m=>decide (m≠nm0))))) x=some (.ins a.yf dx [("entries",.ref E),("bearers",.ref B)]):=by rw[Qa xd];exact yH
   have en5:(upd H4 d (.dK (Qw ((Z3 (ZA rows) y).filter fun m=>decide (m≠nm0))))) E=some (.dK (J0 (rows.filter fun r=>decide (r.1≠nm0)))):=by rw[Qa dE.symm];exact en4
   have br5:(upd H4 d (.dK (Qw ((Z3 (ZA rows) y).filter fun m=>decide (m≠nm0))))) B=some (.dK (brK bs4)):=by rw[Qa dB.symm];exact br4
   have d5:(upd H4 d (.dK (Qw ((Z3 (ZA rows) y).filter fun m=>decide (m≠nm0))))) d=some (.dK (Qw ((Z3 (ZA rows) y).filter fun m=>decide (m≠nm0)))):=Qc
   have ls5:∀r∈rows,(upd H4 d (.dK (Qw ((Z3 (ZA rows) y).filter fun m=>decide (m≠nm0))))) r.2.1=some (.lst (r.2.2.map V.str)):=fun r hr=>by rw[Qa (QX (ls4 r hr) ed fun z=>nomatch z)];exact ls4 r hr
   have kp5:KpF (ftp E B rows bs) H (upd H4 d (.dK (Qw ((Z3 (ZA rows) y).filter fun m=>decide (m≠nm0))))):=kp4.upd (.inl hdF)
   have ot5:∀q∈bs4,q.2≠d->∀o,H4 q.2=some o->(upd H4 d (.dK (Qw ((Z3 (ZA rows) y).filter fun m=>decide (m≠nm0))))) q.2=some o:=fun q _ ne o e=>by rw[Qa ne];exact e
   show Ye _ _ _ _ (upd H4 d (.dK (Qw ((Z3 (ZA rows) y).filter fun m=>decide (m≠nm0)))))
   generalize upd H4 d (.dK (Qw ((Z3 (ZA rows) y).filter fun m=>decide (m≠nm0))))=H5 at Qmv en5 br5 d5 ls5 kp5 ot5
   refine⟨_,rfl,x,_,dx,_,_,rfl,Qmv,T.yC,T.jJ,YK E B,_,rfl,B,.ref d,rfl,(by rw[<-uW];exact Zk.k (k:=Sum.inr y) br5),!(Qw ((Z3 (ZA rows) y).filter fun m=>decide (m≠nm0))).isEmpty,Or.inr (Or.inr ⟨_,d5,rfl⟩),?_⟩
   cases hys:(Z3 (ZA rows) y).filter fun m=>decide (m≠nm0) with
   | cons z zs =>
     refine Q4 ⟨bs4,_,rfl,Qmv,en5,br5,ls5,?_,kp5,in4⟩
     rw[UN hy]
     rw[hys] at d5
     refine(gB.set hd (ys:=z :: zs) (by simp) ot5 d5).congr (fun _ _ _ e=>e) fun t=>?_
     rw[Qdk,hys]
   | nil =>
     refine Zi ⟨_,rfl,x,_,dx,_,_,rfl,Qmv,T.yC,T.jJ,YK E B,B,rfl,.inl ⟨_,.inl br5⟩,_,rfl,_,Sum.inr y,.ref d,br5,rfl,uW,?_⟩
     rw[UD]
     refine⟨bs4.filter fun r=>decide (r.1≠y),_,rfl,by rw[Qa xB];exact Qmv,by rw[Qa i.eb];exact en5,Qc,fun r hr=>by rw[Qa (QX (ls5 r hr) br5 fun z=>nomatch z)];exact ls5 r hr,?_,kp5.upd (.inl hBF),fun q hq=>in4 q (qu.mp hq).1⟩
     rw[UN hy]
     refine(gB.del hd fun q hq ne o e=>?_).congr (fun _ _ _ e=>e) fun t=>?_
     .rw[Qa (gB.at_ q hq).2.2.1];exact ot5 q hq ne o e
     .rw[Qdk,hys]
  .rintro σ H4 ⟨bs4,o,rfl,yH,en4,br4,ls4,gB,kp4,in4⟩
   rw[qi,QoW] at gB
   have hfl:(rows.filter fun r=>decide (r.1≠nm0)).length<=rows.length:=q9 _ _
   have hfew:=i.few
   rw[KR] at hRn
   refine k H4 (ftp E B (rows.filter fun r=>decide (r.1≠nm0)) bs4) ⟨dx,E,B,_,bs4,⟨yH,en4,br4,i.eb,fun r hr=>⟨ls4 r (qu.mp hr).1,(i.ls r (qu.mp hr).1).2⟩,i.nd.sublist (jG.map _),by omega,i.wf,gB.congr (fun _ _ _ e=>e) fun t=>?_⟩,QdY _ _,by rw[<-QdY,KR];omega,rfl⟩ kp4 fun c hc=>?_
   .rw[QdY,Qjv]
    by_cases ht:t∈ws
    .exact(qD ht).symm
    .have e:bft (ZA rows) nm0 ws t=Z3 (ZA rows) t:=qy ht
     rw[e]
     refine kJ.mpr fun m hm=>qp fun z=>ht ?_
     obtain⟨ws2,h1,h2⟩:=Gz.mp hm
     rw[z] at h1
     rw[Qmc hnd hr0 h1]
     exact h2
   .rcases Ze.mp hc with z | z | z | z
    .exact Ze.mpr (.inl z)
    .exact Ze.mpr (.inr (.inl z))
    .obtain⟨q,hq,rfl⟩:=qd.mp z
     exact Ze.mpr (.inr (.inr (.inl (qd.mpr ⟨q,in4 q hq,rfl⟩))))
    .obtain⟨q,hq,rfl⟩:=qd.mp z
     exact Ze.mpr (.inr (.inr (.inr (qd.mpr ⟨q,(qu.mp hq).1,rfl⟩))))
end
structure TH(a:z8)(H:Hp)(x dx L R:Addr)(rows:Rows)(kr:List (Key×V)):Prop where
 obj:H x=some (.ins a.jF dx [("links",.ref L),("replies",.ref R)])
 lk:H L=some (.dK (QQ rows))
 rp:H R=some (.dK kr)
 lr:L≠R
 nd:(rows.map (·.1)).Nodup
 few:rows.length<=40
 Qup:kr.length<=40
 QmI:∀t v,Qt kr (Sum.inr t)=some v->∃d,v=.ref d/\H d=some (.dK (Qw (Zc rows t)))/\d≠L/\d≠R
 no_:∀t:Str,t≠""->Qt kr (Sum.inr t)=none->Zc rows t=[]
 e_:Qt kr (Sum.inr ("":Str))=none
 inj:∀t t' d,Qt kr (Sum.inr t)=some (.ref d)->Qt kr (Sum.inr t')=some (.ref d)->t=t'
theorem UC(L R:Addr):([("links",V.ref L),("replies",V.ref R)]:List (Str×V)).lookup ("links":Str)=some (V.ref L):=by simp[List.lookup]
theorem Jz(L R:Addr):([("links",V.ref L),("replies",V.ref R)]:List (Str×V)).lookup ("replies":Str)=some (V.ref R):=by
 have e:(("replies":Str) == ("links":Str))=false:=by decide +kernel
 simp[List.lookup,e]
theorem TH.add{a:z8}{H H':Hp}{x dx L R:Addr}{rows:Rows}{kr kr':List (Key×V)}{nm an:Str}(th:TH a H x dx L R rows kr)(hn:up rows nm=none)(few:rows.length<40)
 (obj':H' x=some (.ins a.jF dx [("links",.ref L),("replies",.ref R)])) (lk':H' L=some (.dK (QQ (rows++[(nm,an)])))) (rp':H' R=some (.dK kr')) (Quq:kr'.length<=40)
 (old:∀t d,t≠an->Qt kr (Sum.inr t)=some (.ref d)->H' d=some (.dK (Qw (Zc rows t)))) (hkr:∀t,t≠an->Qt kr' (Sum.inr t)=Qt kr (Sum.inr t))
 (new:an≠""->∃d,Qt kr' (Sum.inr an)=some (.ref d)/\H' d=some (.dK (Qw (Zc rows an++[nm])))/\d≠L/\d≠R/\∀t,t≠an->Qt kr (Sum.inr t)≠some (.ref d)) (emp:an=""->kr'=kr):TH a H' x dx L R (rows++[(nm,an)]) kr':=by
 have ex:∀t,t≠an->Zc (rows++[(nm,an)]) t=Zc rows t:=fun t h=>by rw[WO,qy (xH h),je]
 have ey:Zc (rows++[(nm,an)]) an=Zc rows an++[nm]:=by rw[WO,qD rfl]
 have e0:Qt kr' (Sum.inr ("":Str))=none:=by
  by_cases h:an=""
  .rw[emp h];exact th.e_
  .rw[hkr "" (xH h)];exact th.e_
 refine⟨obj',lk',rp',th.lr,QeS th.nd hn,by rw[qI,qT];omega,Quq,fun t v e=>?_,fun t ht e=>?_,e0,fun t t' d e1 e2=>?_⟩
 .by_cases h:t=an
  .subst h
   have h0:t≠"":=fun z=>by rw[z,e0] at e;cases e
   obtain⟨d,q1,q2,q3,q4,_⟩:=new h0
   rw[q1] at e
   cases e
   rw[ey]
   exact⟨d,rfl,q2,q3,q4⟩
  .rw[hkr t h] at e
   obtain⟨d,rfl,q2,q3⟩:=th.QmI t v e
   rw[ex t h]
   exact⟨d,rfl,old t d h e,q3⟩
 .by_cases h:t=an
  .subst h
   obtain⟨d,q1,_⟩:=new ht
   rw[q1] at e
   cases e
  .rw[ex t h]
   rw[hkr t h] at e
   exact th.no_ t ht e
 .by_cases h:t=an
  .by_cases h':t'=an
   .rw[h,h']
   .subst h
    have h0:t≠"":=fun z=>by rw[z,e0] at e1;cases e1
    obtain⟨d0,q1,_,_,_,q5⟩:=new h0
    rw[q1] at e1
    cases e1
    rw[hkr t' h'] at e2
    exact absurd e2 (q5 t' h')
  .by_cases h':t'=an
   .subst h'
    have h0:t'≠"":=fun z=>by rw[z,e0] at e2;cases e2
    obtain⟨d0,q1,_,_,_,q5⟩:=new h0
    rw[q1] at e2
    cases e2
    rw[hkr t h] at e1
    exact absurd e1 (q5 t h)
   .rw[hkr t h] at e1
    rw[hkr t' h'] at e2
    exact th.inj t t' d e1 e2
section
variable {P:Program}{w:World}{K:Frag}{mg:Str->Option Value}{base:Heap}{a:z8}
end
theorem TH.take{a:z8}{H H':Hp}{x dx L R:Addr}{rows:Rows}{kr:List (Key×V)}{nm an:Str}(th:TH a H x dx L R rows kr)(hu:up rows nm=some an)
 (obj':H' x=some (.ins a.jF dx [("links",.ref L),("replies",.ref R)])) (lk':H' L=some (.dK (QQ (without rows nm)))) (rp':H' R=some (.dK kr))
 (old:∀t d,t≠an->Qt kr (Sum.inr t)=some (.ref d)->H' d=some (.dK (Qw (Zc rows t))))
 (new:∀d,Qt kr (Sum.inr an)=some (.ref d)->H' d=some (.dK (Qw ((Zc rows an).filter fun m=>decide (m≠nm))))):TH a H' x dx L R (without rows nm) kr:=by
 have hl:(without rows nm).length<=rows.length:=q9 _ _
 have hf:=th.few
 have ex:∀t,t≠an->Zc (without rows nm) t=Zc rows t:=fun t h=>by rw[Ym];exact VX (QcC th.nd hu h)
 refine⟨obj',lk',rp',th.lr,Uo th.nd,by omega,th.Qup,fun t v e=>?_,fun t ht e=>?_,th.e_,th.inj⟩
 .obtain⟨d,rfl,q2,q3⟩:=th.QmI t v e
  by_cases h:t=an
  .subst h
   rw[Ym]
   exact⟨d,rfl,new d e,q3⟩
  .rw[ex t h]
   exact⟨d,rfl,old t d h e,q3⟩
 .have e1:=th.no_ t ht e
  rw[Ym,e1]
  rfl
section
variable {P:Program}{w:World}{K:Frag}{mg:Str->Option Value}{base:Heap}{a:z8}
end
structure THo(B:Hp)(L R:Addr)(kr:List (Key×V)):Prop where
 hL:B L=none
 hR:B R=none
 hd:∀(t:Str)(d:Addr),Qt kr (Sum.inr t)=some (.ref d)->B d=none
inductive THf(a:z8)(B H:Hp)(x:Addr)(rows:Rows)(n:Nat):Prop
 | mk:∀(dx L R:Addr)(kr:List (Key×V)),TH a H x dx L R rows kr->rows.length<=n->kr.length<=n->THo B L R kr->Qo B H->THf a B H x rows n
inductive Ki(a:z8)(vs:List V)(H:Hp)(Q:VK):Prop
 | mk:∀(B:Hp)(x dx:Addr),vs=[.ref x]->H x=some (.ins a.jF dx [])->(∀c o,B c=some o->H c=some o/\c≠x)->(∀H',THf a B H' x [] 0->Q .non H')->Ki a vs H Q
def Qhs(a:z8):Sp:=fun vs H Q _=>Ki a vs H Q
inductive Qca(a:z8)(vs:List V)(H:Hp)(Q:VK):Prop
 | mk:∀(B:Hp)(x:Addr)(rows:Rows)(n:Nat)(nm an:Str),vs=[.ref x,.str nm,.str an]->THf a B H x rows n->n<40->up rows nm=none->(∀H',THf a B H' x (rows++[(nm,an)]) (n+1)->Kp1 H H'->Q .non H')->Qca a vs H Q
def QlM(a:z8):Sp:=fun vs H Q _=>Qca a vs H Q
inductive Qaj(a:z8)(vs:List V)(H:Hp)(Q:VK):Prop
 | mk:∀(B:Hp)(x:Addr)(rows:Rows)(n:Nat)(nm:Str),vs=[.ref x,.str nm]->THf a B H x rows n->nm∈rows.map (·.1)->(∀H',THf a B H' x (without rows nm) n->Kp1 H H'->Q .non H')->Qaj a vs H Q
def QjO(a:z8):Sp:=fun vs H Q _=>Qaj a vs H Q
section
variable {P:Program}{w:World}{K:Frag}{mg:Str->Option Value}{base:Heap}{a:z8}
theorem Qgf{fd:FuncData}(F:jn K "__init__" "Threads.__init__" JL a.vQ fd)(T:Txt K mg a):QO P w K mg base xN 1 a.vQ fd ["self"] (Qhs a):=by
 refine F.ok XF (fun _ _ _ _ h=>by cases h;subst_vars;rfl) (fun cdv A outer st H vs Q E hr h=>?_)
 .obtain⟨B,x,dx,rfl,hx,hB,k⟩:=h
  refine⟨_,(Qd (Zo (pv 0) Zv rfl)
   (Qf (Zo (pv 0) Zv rfl))),?_⟩
  intro L hL
  have ne1:x≠L:=Qb hx hL
  refine⟨_,rfl,x,_,dx,_,rfl,(by rw[Qa ne1];exact hx),T.j9,T.yZ,by decide,?_⟩
  intro R hR
  have hx1:(upd (upd H L (.dK [])) x (.ins a.jF dx (Qx "links" (.ref L) []))) x=some (.ins a.jF dx (Qx "links" (.ref L) [])):=Qc
  have hL1:(upd (upd H L (.dK [])) x (.ins a.jF dx (Qx "links" (.ref L) []))) L=some (.dK []):=by rw[Qa ne1.symm];exact Qc
  have ne2:x≠R:=Qb hx1 hR
  have ne3:L≠R:=Qb hL1 hR
  refine⟨_,rfl,x,_,dx,_,rfl,(by rw[Qa ne2];exact hx1),T.j9,T.jV,(by show 1<1000;decide),?_⟩
  refine k _ ⟨dx,L,R,[],⟨Qc,?_,?_,ne3,by simp,by decide,by decide,fun t v z=>(by cases z),fun _ _ _=>rfl,rfl,fun _ _ _ z=>(by cases z)⟩,qt _,qt _,⟨?_,?_,fun t d z=>(by cases z)⟩,fun c o e=>?_⟩
  .rw[Qa ne1.symm,Qa ne3,Qa ne1.symm];exact Qc
  .rw[Qa ne2.symm];exact Qc
  .cases q:B L with
   | none=>rfl
   | some o=>have:=(hB L o q).1;rw[hL] at this;cases this
  .cases q:B R with
   | none=>rfl
   | some o =>
     obtain⟨h1,h2⟩:=hB R o q
     rw[Qa h2,Qa ne3.symm,h1] at hR
     cases hR
  .obtain⟨h1,ne⟩:=hB c o e
   rw[Qa ne,Qa (Qb (by rw[Qa ne,Qa (Qb h1 hL)];exact h1) hR),Qa ne,Qa (Qb h1 hL)]
   exact h1
theorem Qkv{fd:FuncData}(F:WB K "add" "Threads.add" Yi a.wJ fd)(T:Txt K mg a)(FF:ZE K a):QO P w K mg base xN 2 a.wJ fd ["self","name","answers"] (QlM a):=by
 obtain⟨fdC,jL,wX⟩:=FF.jL
 have wY:=@QdT P w K mg base a _ jL T
 refine F.ok KD (fun _ _ _ _ h=>by cases h;subst_vars;rfl) (fun cdv A outer st H vs Q E hr h=>?_)
 .obtain⟨B,x,rows,n,nm,an,rfl,⟨dx,L,R,kr,th,hl1,hl2,oo,sB⟩,hn40,hn,k⟩:=h
  have hu:=Zr hr
  have vO:QB 1 _:=hr
  refine⟨_,(Qd (Qs (Qj wY vO rfl T.QmJ jL.kp wX .nil Ql (zr (pv 1) (zr (Qk (pv 0) rfl) Qe))))
   (Qd (Zp hu (Qk (pv 0) rfl) (pv 1) (pv 2) rfl)
   (Qf (QZ (QL Qfc (pv 2) Qp) (Qd (QZ (Z2 (Jl hu (pv 2) (Qk (pv 0) rfl))) (Qf (Zp hu (Qk (pv 0) rfl) (pv 2) Zv rfl)) QD)
   (Qf (Zp hu (Qv hu (Qk (pv 0) rfl) (pv 2)) (pv 1) YY rfl))) QD)))),?_⟩
  have xL:x≠L:=fun z=>by have h1:=th.obj;rw[z,th.lk] at h1;cases h1
  have xR:x≠R:=fun z=>by have h1:=th.obj;rw[z,th.rp] at h1;cases h1
  refine⟨_,rfl,_,rfl,x,_,dx,_,_,rfl,th.obj,T.j9,T.yZ,UC L R,nm,L,_,rfl,th.lk,(by rw[ZC,hn];rfl),?_⟩
  refine⟨_,rfl,_,rfl,x,_,dx,_,_,rfl,th.obj,T.j9,T.yZ,UC L R,_,rfl,L,_,rfl,Jo.k (k:=Sum.inr nm) th.lk (by rw[QQ,qi];exact QK (by omega)),?_⟩
  rw[Qcp hn]
  have kp:Kp1 H (upd H L (.dK (QQ (rows++[(nm,an)])))):=Kp1.upd th.lk
  have Qm7:(upd H L (.dK (QQ (rows++[(nm,an)])))) x=some (.ins a.jF dx [("links",.ref L),("replies",.ref R)]):=by rw[Qa xL];exact th.obj
  have rp1:(upd H L (.dK (QQ (rows++[(nm,an)])))) R=some (.dK kr):=by rw[Qa th.lr.symm];exact th.rp
  have lk1:(upd H L (.dK (QQ (rows++[(nm,an)])))) L=some (.dK (QQ (rows++[(nm,an)]))):=Qc
  have Qo1:∀t d,Qt kr (Sum.inr t)=some (.ref d)->(upd H L (.dK (QQ (rows++[(nm,an)])))) d=some (.dK (Qw (Zc rows t)))/\d≠L/\d≠R:=fun t d e=>by
   obtain⟨d',e1,e2,e3,e4⟩:=th.QmI t _ e
   cases e1
   exact⟨by rw[Qa e3];exact e2,e3,e4⟩
  have up1:∀c o,H c=some o->c≠L->(upd H L (.dK (QQ (rows++[(nm,an)])))) c=some o:=fun c o e ne=>by rw[Qa ne];exact e
  generalize upd H L (.dK (QQ (rows++[(nm,an)])))=H1 at kp Qm7 rp1 lk1 Qo1 up1
  have sB1:Qo B H1:=fun c o e=>up1 c o (sB c o e) (Qb e oo.hL)
  have lens:(rows++[(nm,an)]).length<=n+1:=by rw[qI,qT];omega
  refine⟨_,rfl,rfl,_,rfl,?_⟩
  by_cases han:an=""
  .have e:decide (V.str an=V.str "")=true:=by rw[han];simp
   rw[e]
   exact Q4 (k H1 ⟨dx,L,R,kr,th.add hn (by omega) Qm7 lk1 rp1 th.Qup (fun t d _ e=>(Qo1 t d e).1) (fun _ _=>rfl) (fun z=>absurd han z) (fun _=>rfl),lens,by omega,oo,sB1⟩ kp)
  .have e:decide (V.str an=V.str "")=false:=by simp[han]
   rw[e]
   have nrep:¬nm∈Zc rows an:=fun z=>Yd.mp hn (Qci z)
   refine Zi ⟨_,rfl,_,rfl,x,_,dx,_,_,rfl,Qm7,T.j9,T.jV,Jz L R,R,_,rfl,Zk.k (k:=Sum.inr an) rp1,_,rfl,?_⟩
   cases hv:Qt kr (Sum.inr an) with
   | none =>
     refine Zi ?_
     intro p hp
     have xp:x≠p:=Qb Qm7 hp
     have Lp:L≠p:=Qb lk1 hp
     have Rp:R≠p:=Qb rp1 hp
     refine⟨_,rfl,x,_,dx,_,_,rfl,(by rw[Qa xp];exact Qm7),T.j9,T.jV,Jz L R,_,rfl,R,_,rfl,Jo.k (k:=Sum.inr an) (by rw[Qa Rp];exact rp1) (QK (by omega)),?_⟩
     rw[Wm _ hv]
     have vk:∀t,Qt (kr++[(Sum.inr an,V.ref p)]) (Sum.inr t)=if (Sum.inr t:Key)=Sum.inr an then some (V.ref p) else Qt kr (Sum.inr t):=fun t=>WE _ _ _ _ hv
     have van:Qt (kr++[(Sum.inr an,V.ref p)]) (Sum.inr an)=some (V.ref p):=by rw[vk,qD rfl]
     have vot:∀t,t≠an->Qt (kr++[(Sum.inr an,V.ref p)]) (Sum.inr t)=Qt kr (Sum.inr t):=fun t h=>by rw[vk,qy (fun z=>h (yL z))]
     have rp2:(upd (upd H1 p (.dK [])) R (.dK (kr++[(Sum.inr an,V.ref p)]))) R=some (.dK (kr++[(Sum.inr an,V.ref p)])):=Qc
     have dp2:(upd (upd H1 p (.dK [])) R (.dK (kr++[(Sum.inr an,V.ref p)]))) p=some (.dK []):=by rw[Qa Rp.symm];exact Qc
     refine⟨_,rfl,x,_,dx,_,_,rfl,(by rw[Qa xR,Qa xp];exact Qm7),T.j9,T.jV,Jz L R,_,rfl,R,_,rfl,(by rw[<-van];exact Zk.k (k:=Sum.inr an) rp2),_,rfl,p,_,rfl,Jo.k (k:=Sum.inr nm) dp2 (by decide),?_⟩
     have ek:Za ([]:List (Key×V)) (Sum.inr nm) (.bl true)=Qw [nm]:=rfl
     rw[ek]
     refine k _ ⟨dx,L,R,_,th.add hn (by omega) ?_ ?_ ?_ ?_ ?_ vot ?_ ?_,lens,?_,?_,?_⟩ ?_
     .rw[Qa xp,Qa xR,Qa xp];exact Qm7
     .rw[Qa Lp,Qa th.lr,Qa Lp];exact lk1
     .rw[Qa Rp];exact Qc
     .rw[qI,qT];omega
     .intro t d h e
      obtain⟨q1,q2,q3⟩:=Qo1 t d e
      rw[Qa (Qb q1 hp),Qa q3,Qa (Qb q1 hp)]
      exact q1
     .intro _
      have er:Zc rows an=[]:=th.no_ an han hv
      refine⟨p,van,?_,Lp.symm,Rp.symm,fun t h e=>?_⟩
      .rw[Qc,er];rfl
      .obtain⟨q1,_,_⟩:=Qo1 t p e
       rw[hp] at q1
       cases q1
     .exact fun z=>absurd z han
     .rw[qI,qT];omega
     .refine⟨oo.hL,oo.hR,fun t d e=>?_⟩
      by_cases h:t=an
      .rw[h,van] at e
       cases e
       cases q:B p with
       | none=>rfl
       | some o=>have:=sB1 p o q;rw[hp] at this;cases this
      .rw[vot t h] at e;exact oo.hd t d e
     .intro c o e
      have e1:=sB1 c o e
      rw[Qa (Qb e1 hp),Qa (Qb e oo.hR),Qa (Qb e1 hp)]
      exact e1
     .refine kp.trans fun c o e nd=>?_
      have cp:c≠p:=Qb e hp
      have cR:c≠R:=fun z=>by rw[z,rp1] at e;cases e;exact nd _ rfl
      rw[Qa cp,Qa cR,Qa cp]
      exact e
   | some v =>
     obtain⟨d,rfl,_,_,_⟩:=th.QmI an v hv
     obtain⟨q1,q2,q3⟩:=Qo1 an d hv
     refine Q4 ?_
     have hrl:=Qcj rows an
     refine⟨_,rfl,x,_,dx,_,_,rfl,Qm7,T.j9,T.jV,Jz L R,_,rfl,R,_,rfl,(by rw[<-hv];exact Zk.k (k:=Sum.inr an) rp1),_,rfl,d,_,rfl,Jo.k (k:=Sum.inr nm) q1 (by rw[Qw,qi];exact QK (by omega)),?_⟩
     rw[Wl nrep]
     have xd:x≠d:=fun z=>by rw[<-z,Qm7] at q1;cases q1
     refine k _ ⟨dx,L,R,kr,th.add hn (by omega) ?_ ?_ ?_ th.Qup ?_ (fun _ _=>rfl) ?_ (fun _=>rfl),lens,by omega,oo,fun c o e=>by rw[Qa (Qb e (oo.hd an d hv))];exact sB1 c o e⟩ (kp.trans (Kp1.upd q1))
     .rw[Qa xd];exact Qm7
     .rw[Qa q2.symm];exact lk1
     .rw[Qa q3.symm];exact rp1
     .intro t d' h e
      obtain⟨z1,_,_⟩:=Qo1 t d' e
      have:d'≠d:=fun z=>h (th.inj t an d (by rw[<-z];exact e) hv)
      rw[Qa this]
      exact z1
     .intro _
      refine⟨d,hv,Qc,q2,q3,fun t h e=>h (th.inj t an d e hv)⟩
theorem Qif{fd:FuncData}(F:jn K "take_out" "Threads.take_out" ZN a.yS fd)(T:Txt K mg a)(FF:ZE K a):QO P w K mg base xN 2 a.yS fd ["self","name"] (QjO a):=by
 obtain⟨fdC,qK,zy⟩:=FF.qK
 have zA:=@Jy P w K mg base a _ qK T
 refine F.ok J3 (fun _ _ _ _ h=>by cases h;subst_vars;rfl) (fun cdv A outer st H vs Q E hr h=>?_)
 .obtain⟨B,x,rows,n,nm,rfl,hth,hm,k⟩:=h
  obtain⟨dx,L,R,kr,th,hl1,hl2,oo,sB⟩:=id hth
  have hu:=Zr hr
  have zB:QB 1 _:=hr
  refine⟨_,(Qd (Qs (Qj zA zB rfl T.jo qK.kp zy .nil Ql (zr (pv 1) (zr (Qk (pv 0) rfl) Qe))))
   (Qd (Qy (i:=2) J3.nd rfl (Or.inl rfl) (Z4 (Qk (pv 0) rfl) (pv 1) ⟨rfl,rfl,rfl,rfl⟩))
   (Qf (QZ (QL Qfc (pv 2) Qp) (Qf (Qs (Z4 (Qv hu (Qk (pv 0) rfl) (pv 2)) (pv 1) ⟨rfl,rfl,rfl,rfl⟩))) QD)))),?_⟩
  have xL:x≠L:=fun z=>by have h1:=th.obj;rw[z,th.lk] at h1;cases h1
  obtain⟨an,eu⟩:=Vd hm
  have hwl:(without rows nm).length<=rows.length:=q9 _ _
  refine⟨_,rfl,_,rfl,x,_,dx,_,_,rfl,th.obj,T.j9,T.yZ,UC L R,nm,L,_,_,rfl,th.lk,(by rw[ZC,eu];rfl),?_⟩
  refine⟨_,rfl,x,_,dx,_,_,rfl,th.obj,T.j9,T.yZ,UC L R,L,rfl,.inl ⟨_,.inl th.lk⟩,_,rfl,_,Sum.inr nm,.str an,th.lk,rfl,(by rw[ZC,eu];rfl),?_⟩
  rw[Vt]
  have kp:Kp1 H (upd H L (.dK (QQ (without rows nm)))):=Kp1.upd th.lk
  have Qm7:(upd H L (.dK (QQ (without rows nm)))) x=some (.ins a.jF dx [("links",.ref L),("replies",.ref R)]):=by rw[Qa xL];exact th.obj
  have rp1:(upd H L (.dK (QQ (without rows nm)))) R=some (.dK kr):=by rw[Qa th.lr.symm];exact th.rp
  have lk1:(upd H L (.dK (QQ (without rows nm)))) L=some (.dK (QQ (without rows nm))):=Qc
  have Qo1:∀t d,Qt kr (Sum.inr t)=some (.ref d)->(upd H L (.dK (QQ (without rows nm)))) d=some (.dK (Qw (Zc rows t)))/\d≠L/\d≠R:=fun t d e=>by
   obtain⟨d',e1,e2,e3,e4⟩:=th.QmI t _ e
   cases e1
   exact⟨by rw[Qa e3];exact e2,e3,e4⟩
  have sB1:Qo B (upd H L (.dK (QQ (without rows nm)))):=fun c o e=>by rw[Qa (Qb e oo.hL)];exact sB c o e
  generalize upd H L (.dK (QQ (without rows nm)))=H1 at kp Qm7 rp1 lk1 Qo1 sB1
  refine⟨_,rfl,rfl,_,rfl,?_⟩
  by_cases han:an=""
  .have e:decide (V.str an=V.str "")=true:=by rw[han];simp
   rw[e]
   refine Q4 (k H1 ⟨dx,L,R,kr,th.take eu Qm7 lk1 rp1 (fun t d _ e=>(Qo1 t d e).1) (fun d e=>?_),by omega,hl2,oo,sB1⟩ kp)
   rw[han,th.e_] at e
   cases e
  .have e:decide (V.str an=V.str "")=false:=by simp[han]
   rw[e]
   have inr:=Qfr eu
   obtain⟨v,hv⟩:∃v,Qt kr (Sum.inr an)=some v:=by
    cases hv:Qt kr (Sum.inr an) with
    | none =>
      have:=th.no_ an han hv
      rw[this] at inr
      cases inr
    | some v=>exact⟨v,rfl⟩
   obtain⟨d,rfl,_,_,_⟩:=th.QmI an v hv
   obtain⟨q1,q2,q3⟩:=Qo1 an d hv
   have xd:x≠d:=fun z=>by rw[<-z,Qm7] at q1;cases q1
   refine Zi ⟨_,rfl,x,_,dx,_,_,rfl,Qm7,T.j9,T.jV,Jz L R,_,rfl,R,_,rfl,(by rw[<-hv];exact Zk.k (k:=Sum.inr an) rp1),d,rfl,.inl ⟨_,.inl q1⟩,_,rfl,_,Sum.inr nm,.bl true,q1,rfl,(by rw[Y9,qD inr]),?_⟩
   rw[Yw]
   refine k _ ⟨dx,L,R,kr,th.take eu ?_ ?_ ?_ ?_ ?_,by omega,hl2,oo,fun c o e=>by rw[Qa (Qb e (oo.hd an d hv))];exact sB1 c o e⟩ (kp.trans (Kp1.upd q1))
   .rw[Qa xd];exact Qm7
   .rw[Qa q2.symm];exact lk1
   .rw[Qa q3.symm];exact rp1
   .intro t d' h e
    obtain⟨z1,_,_⟩:=Qo1 t d' e
    have:d'≠d:=fun z=>h (th.inj t an d (by rw[<-z];exact e) hv)
    rw[Qa this]
    exact z1
   .intro d' e
    rw[hv] at e
    cases e
    exact Qc
end
theorem Qc9{lo:Int}{n:Nat}{fr:List (Nat×Str)}{te:TE}{σ:St}{H1:Hp}{Q:VK}(Pv:Addr->Nat->List V->Hp->Prop)(hz:n<=sizeLine)(h0:∀D,H1 D=none->Pv D 0 [] (upd H1 D (.lst [])))(hlen:∀D i ys H,Pv D i ys H->ys.length=i)
 (hte:∀(D:Addr)(i:Nat)(ys:List V)(H3:Hp)(Q':VK),i<n->H1 D=none->Pv D i ys H3->H3 D=some (.lst ys)->(∀y H5,H5 D=some (.lst ys)->Pv D (i+1) (ys++[y]) (upd H5 D (.lst (ys++[y])))->Q' y H5)->te (some (.int (lo+i)) :: frV σ fr) H3 Q')
 (hQ:∀D ys H2,H1 D=none->Pv D n ys H2->H2 D=some (.lst ys)->Q (.ref D) H2) :
 ZU (Itr lo n) fr Qey te σ H1 Q:=by
 unfold ZU
 intro D hD
 refine⟨fun i m ys H2=>m=n - i/\i<=n/\Pv D i ys H2/\H2 D=some (.lst ys),⟨n,by simp,zK _,h0 D hD,Qc⟩,?_⟩
 rintro i m ys H2 ⟨rfl,hi,p,d2⟩
 refine⟨d2,?_⟩
 by_cases hlt:i<n
 .refine .inr ⟨hlt,?_⟩
  rintro v H3 ⟨rfl,rfl⟩
  refine QbT (Zi ?_)
  refine hte D i ys _ _ hlt hD p d2 fun y H5 d5 p'=>⟨d5,?_,n - (i+1),by omega,rfl,hlt,p',Qc⟩
  rw[hlen D i ys _ p];omega
 .have e:i=n:=by omega
  subst e
  exact .inl ⟨qt _,hQ D ys H2 hD p d2⟩
structure StA(K:Frag)(H:Hp)(st sc:Addr)(ls:List Int):Prop where
 at_:∃n c:Int,H st=some (.lst [.int n,.ref sc,.int c])/\0<=n/\n<2147483647
 sq:jH K H sc (ls.map V.int)
theorem StA.of{K:Frag}{H H':Hp}{st sc:Addr}{ls:List Int}(h:StA K H st sc ls)(s:Qo H H'):StA K H' st sc ls:=⟨let ⟨n,c,e,b⟩:=h.at_;⟨n,c,s _ _ e,b⟩,s.seq h.sq⟩
theorem sq_sx{K:Frag}{H H':Hp}{st sc sd:Addr}{ls:List Int}{n c:Int}(s:SX st H H')(e:H st=some (.lst [.int n,.ref sd,.int c]))(h:jH K H sc (ls.map V.int)):jH K H' sc (ls.map V.int):=by
 rcases h with(h | ⟨o,h⟩) | h
 .refine .inl (.inl (s _ _ (fun z=>?_) h))
  rw[z,e] at h
  have h:=HO.lst.inj (qR h)
  match ls,h with
  | _ :: _ :: _,h=>exact nomatch (qw (qw h).2).1
 .refine .inl (.inr ⟨o,s _ _ (fun z=>?_) h⟩)
  rw[z,e] at h
  cases h
 .exact .inr h
theorem StA.lst{K:Frag}{H:Hp}{st sc:Addr}{ls:List Int}(h:StA K H st sc ls):∃xs,H st=some (.lst xs):=let ⟨_,_,e,_⟩:=h.at_;⟨_,e⟩
inductive Qaw(K:Frag)(vs:List V)(H:Hp)(Q:VK):Prop
 | mk:∀(sc:Addr)(ls:List Int),vs=[.ref sc]->jH K H sc (ls.map V.int)->ls.length<=63->(∀st,H st=none->∀H',Qo H H'->StA K H' st sc ls->Q (.ref st) H')->Qaw K vs H Q
def Qj1(K:Frag):Sp:=fun vs H Q _=>Qaw K vs H Q
inductive Qb4(K:Frag)(vs:List V)(H:Hp)(Q:VK):Prop
 | mk:∀(st sc:Addr)(ls:List Int),vs=[.ref st]->StA K H st sc ls->ls.length<=63->(∀(r:Int) H',0<=r->r<33554432->SX st H H'->StA K H' st sc ls->Q (.int r) H')->Qb4 K vs H Q
def QlH(K:Frag):Sp:=fun vs H Q _=>Qb4 K vs H Q
section
variable {P:Program}{w:World}{K:Frag}{mg:Str->Option Value}{base:Heap}{a:z8}
theorem Qiu{fd:FuncData}(F:jn K "_law_begin" "_law_begin" Wb a.QmV fd)(T:Txt K mg a):QO P w K mg base xN 1 a.QmV fd ["_law_script"] (Qj1 K):=by
 refine F.ok QdG (fun _ _ _ _ h=>by cases h;subst_vars;rfl) (fun cdv A outer s H vs Q E hr h=>?_)
 .obtain⟨sc,ls,rfl,hq,hl,k⟩:=h
  refine⟨_,(Qf (QJ (Qbo (Qg (QP Jx (QC Zx rfl T.QlO jN (zr (pv 0) Qe)) Qi) (Qg (pv 0) (Qg Qi Qz)))))),?_⟩
  refine⟨_,rfl,sc,_,rfl,.inl hq,_,_,rfl,rfl,_,rfl,Qg6,fun st hst=>?_⟩
  have s1:Qo H (upd H st (.lst [.int (((ls.map V.int).length:Nat)+7),.ref sc,.int 0])):=Qo.z7 hst
  exact k st hst _ s1 ⟨⟨_,_,Qc,by omega,by rw[qi];omega⟩,s1.seq hq⟩
theorem YZ{fd:FuncData}(F:jn K "_law_next" "_law_next" XV a.QnS fd)(T:Txt K mg a):QO P w K mg base xN 1 a.QnS fd ["_law_state"] (QlH K):=by
 refine F.ok WL (fun _ _ _ _ h=>by cases h;subst_vars;rfl) (fun cdv A outer s H vs Q E hr h=>?_)
 .obtain⟨st,sc,ls,rfl,sa,hl,k⟩:=h
  obtain⟨⟨n,c,e,n0,n1⟩,hq⟩:=sa
  have hlm:(ls.map V.int).length<=63:=by rw[qi];exact hl
  refine⟨_,(Qd (Qy (i:=1) WL.nd rfl (Or.inl rfl) Qi)
   (Qd (QZ (QL Qib (QC Zx rfl T.QlO jN (zr (Qr QR (pv 0) Qi) Qe)) Qi) (Qf (Qy (i:=1) WL.nd rfl (Or.inl rfl) (Qr QR (Qr QR (pv 0) Qi) (QP Zh (Qr QR (pv 0) Qi) (QC Zx rfl T.QlO jN (zr (Qr QR (pv 0) Qi) Qe)))))) QD)
   (Qd (VP (QP Jx (Qr QR (pv 0) Qi) Qi) (WV (pv 0) Qi Uc))
   (Qd (VP (QP Zh (QP Jx (QP Jx (QP Qh9 (Qr QR (pv 0) Qi) Qi) (pv 1)) (Qr QR (pv 0) Qi)) Qi) (WV (pv 0) Qi Uc))
   (Qf (QJ (QP Qkm (Qr QR (pv 0) Qi) Qi))))))),?_⟩
  refine Jp fun N1 hN1=>?_
  show N1 _ _
  subst hN1
  refine Jp fun N hN=>?_
  have rest:∀cell:Int,N [some (.ref st),some (.int cell)] H:=fun cell=>by
   subst hN
   refine⟨_,rfl,st,_,_,_,rfl,rfl,jH.of e,rfl,_,_,rfl,rfl,?_⟩
   refine⟨_,rfl,st,_,_,_,rfl,rfl,e,rfl,?_⟩
   have e1:(upd H st (.lst [.int n,.ref sc,.int (c+1)])) st=some (.lst [.int n,.ref sc,.int (c+1)]):=Qc
   have x1:SX st H (upd H st (.lst [.int n,.ref sc,.int (c+1)])):=fun b o nb q=>by rw[Qa nb];exact q
   show Ye _ _ _ _ (upd H st (.lst [.int n,.ref sc,.int (c+1)]))
   generalize upd H st (.lst [.int n,.ref sc,.int (c+1)])=H1 at e1 x1
   refine⟨_,rfl,st,_,_,_,rfl,rfl,jH.of e1,rfl,_,_,rfl,rfl,.inr ⟨by decide,by decide⟩,_,rfl,_,_,rfl,rfl,_,rfl,st,_,_,_,rfl,rfl,jH.of e1,rfl,_,_,rfl,rfl,_,_,rfl,rfl,GG,?_⟩
   refine⟨_,rfl,st,_,_,_,rfl,rfl,e1,rfl,?_⟩
   have m0:=zF (n*48271+cell+(c+1)) (b:=2147483647) (by decide)
   have m1:=zu (n*48271+cell+(c+1)) (b:=2147483647) (by decide)
   generalize (n*48271+cell+(c+1)) % 2147483647=m at m0 m1
   have e2:(upd H1 st (.lst [.int m,.ref sc,.int (c+1)])) st=some (.lst [.int m,.ref sc,.int (c+1)]):=Qc
   have x2:SX st H (upd H1 st (.lst [.int m,.ref sc,.int (c+1)])):=fun b o nb q=>by rw[Qa nb];exact x1 b o nb q
   show Y7.nx _ _ (upd H1 st (.lst [.int m,.ref sc,.int (c+1)]))
   generalize upd H1 st (.lst [.int m,.ref sc,.int (c+1)])=H2 at e2 x2
   exact⟨_,rfl,st,_,_,_,rfl,rfl,jH.of e2,rfl,_,_,rfl,rfl,⟨by decide,by decide⟩,k _ H2 (by omega) (by omega) x2 ⟨⟨_,_,e2,m0,m1⟩,sq_sx x2 e hq⟩⟩
  refine⟨_,rfl,st,_,_,_,rfl,rfl,jH.of e,rfl,sc,_,rfl,.inl hq,_,_,rfl,rfl,_,rfl,?_⟩
  by_cases h0:0<(ls.map V.int).length
  .rw[qp (by omega)]
   obtain⟨v,hv,hvm,_⟩:=QkV (xs:=ls.map V.int) c h0
   obtain⟨z,_,rfl⟩:=qd.mp hvm
   exact Zi ⟨_,rfl,st,_,_,_,rfl,rfl,jH.of e,rfl,_,rfl,st,_,_,_,rfl,rfl,jH.of e,rfl,_,rfl,st,_,_,_,rfl,rfl,jH.of e,rfl,sc,_,rfl,.inl hq,_,_,rfl,rfl,by omega,sc,_,_,_,rfl,rfl,hq,hv,rest z⟩
  .rw[qF (by omega)]
   exact Q4 (rest 0)
end
structure WIn(sg:Str)(m:Int)(x:Str):Prop where
 lo:1<=x.length
 hi:(x.length:Int)<=m
 in_:∀c∈x.cps.toList,c∈sg.cps.toList
inductive Qb0(K:Frag)(vs:List V)(H:Hp)(Q:VK):Prop
 | mk:∀(st sc:Addr)(ls:List Int)(sg:Str)(m:Int),vs=[.ref st,.str sg,.int m]->StA K H st sc ls->ls.length<=63->1<=m->m<=100->0<sg.cps.toList.length->sg.length<=1000->(∀x H',WIn sg m x->SX st H H'->StA K H' st sc ls->Q (.str x) H')->Qb0 K vs H Q
def QlD(K:Frag):Sp:=fun vs H Q _=>Qb0 K vs H Q
theorem QkM{m r z:Int}(hm:1<=m)(z0:0<=z)(z1:z<4):∃y:Int,atI [V.int 1,V.int 2,V.int m,V.int (1+r % m)] z=some (.int y)/\1<=y/\(y<=m\/m<y):=by
 have h0:=zF r (b:=m) (by omega)
 obtain⟨n,rfl⟩:=jr z0
 have h1:n<4:=QpM.mp z1
 match n,h1 with
 | 0,_=>exact⟨1,rfl,by decide,by omega⟩
 | 1,_=>exact⟨2,rfl,by decide,by omega⟩
 | 2,_=>exact⟨m,rfl,hm,by omega⟩
 | 3,_=>exact⟨1+r % m,rfl,by omega,by omega⟩
theorem QeH{K:Frag}{H0 H H':Hp}{sc D:Addr}{xs:List V}(h0:jH K H0 sc xs)(hD:H0 D=none)(h:jH K H sc xs)(k:∀c o,c≠D->H c=some o->H' c=some o):jH K H' sc xs:=by
 have go:sc≠D->jH K H' sc xs:=fun n=>by
  rcases h with(h | ⟨o,h⟩) | h
  .exact .inl (.inl (k _ _ n h))
  .exact .inl (.inr ⟨o,k _ _ n h⟩)
  .exact .inr h
 rcases h0 with(h0 | ⟨o,h0⟩) | h0
 .exact go (Qb h0 hD)
 .exact go (Qb h0 hD)
 .exact .inr h0
section
variable {P:Program}{w:World}{K:Frag}{mg:Str->Option Value}{base:Heap}{a:z8}
theorem Qff{fd:FuncData}(F:jn K "_law_word" "_law_word" V8 a.QnQ fd)(T:Txt K mg a)(FF:ZE K a):QO P w K mg base xN 2 a.QnQ fd ["_law_state","_law_signs","_law_most"] (QlD K):=by
 obtain⟨fdN,zg,zX⟩:=FF.zg
 have zY:=@YZ P w K mg base a _ zg T
 refine F.ok WK (fun _ _ _ _ h=>by cases h;subst_vars;rfl) (fun cdv A outer s H vs Q E hr h=>?_)
 .obtain⟨st,sc,ls,sg,m,rfl,sa,hl,m1,m100,hsg,hs1,k⟩:=h
  have zZ:QB 1 _:=hr
  refine⟨_,(Qd (Qy (i:=3) WK.nd rfl (Or.inl rfl) (Qr QR (Qbo (Qg Qi (Qg Qi (Qg (pv 2) (Qg (QP Jx Qi (QP Zh (Qj zY zZ rfl T.jh zg.kp zX .nil Ql (zr (pv 0) Qe)) (pv 2))) Qz))))) (QP Zh (Qj zY zZ rfl T.jh zg.kp zX .nil Ql (zr (pv 0) Qe)) Qi)))
   (Qd (QZ (QL Qib (pv 3) (pv 2)) (Qf (Qy (i:=3) WK.nd rfl (Or.inl rfl) (pv 2))) QD)
   (Qf (QJ (QaE plainAttrs_str PySem.F.slot_str_join PySem.F.type_str_join Qfi Qp (zr (XX (sc:=Qh V8) (N:=QcG) (fr:=[(1,"_law_signs"),(0,"_law_state")]) ⟨rfl,rfl,by decide +kernel,by decide +kernel,by decide +kernel,by decide +kernel,by decide +kernel⟩ rfl rfl rfl (WU rfl T.QqL (zr (pv 3) Qe)) (fun _ _ _ _=>Qbl) (fun _ _ _ _=>(Qr QiV (pv 1) (QP Zh (Qj zY zZ rfl T.jh zg.kp zX .nil Ql (zr (pv 2) Qe)) (QC Yp rfl T.QlO jN (zr (pv 1) Qe)))))) Qe)))))),?_⟩
  refine⟨_,rfl,_,rfl,st,sc,ls,rfl,sa,hl,fun r1 H1 r10 r11 x1 sa1=>⟨_,rfl,_,_,rfl,rfl,(by show 0<m;omega),_,_,rfl,rfl,Qg5,fun l hl0=>?_⟩⟩
  have s2:Qo H1 (upd H1 l (.lst [.int 1,.int 2,.int m,.int (1+r1 % m)])):=Qo.z7 hl0
  have e2:(upd H1 l (.lst [.int 1,.int 2,.int m,.int (1+r1 % m)])) l=some (.lst [.int 1,.int 2,.int m,.int (1+r1 % m)]):=Qc
  have sa2:=sa1.of s2
  have x2:SX st H (upd H1 l (.lst [.int 1,.int 2,.int m,.int (1+r1 % m)])):=x1.trans (SX.of s2)
  have lst:l≠st:=fun z=>by obtain⟨_,q⟩:=sa1.lst;rw[z,q] at hl0;cases hl0
  generalize upd H1 l (.lst [.int 1,.int 2,.int m,.int (1+r1 % m)])=H2 at s2 e2 sa2 x2
  refine⟨_,rfl,st,sc,ls,rfl,sa2,hl,fun r3 H3 r30 r31 x3 sa3=>?_⟩
  have z0:=zF r3 (b:=4) (by decide)
  have z1:=zu r3 (b:=4) (by decide)
  obtain⟨y,ey,y1,yc⟩:=QkM (r:=r1) m1 z0 z1
  refine⟨_,_,rfl,rfl,Qu1,l,_,_,_,rfl,rfl,jH.of (x3 _ _ lst e2),ey,?_⟩
  have x03:=x2.trans x3
  dsimp only[Gm]
  refine Jp fun N hN=>?_
  have rest:∀z:Int,1<=z->z<=m->N [some (.ref st),some (.str sg),some (.int m),some (.int z)] H3:=fun z hz1 hz2=>by
   subst hN
   refine⟨rfl,_,rfl,_,rfl,by omega,by omega,Qc9 (n:=z.toNat) (fun D i ys H7=>∃ws:QvX,ys=ws.map V.str/\ws.length=i/\(∀y∈ws,QfP sg y)/\SX st H H7/\StA K H7 st sc ls/\H7 D=some (.lst ys)) (Zg ((by omega))) (fun D hD=>?_) (fun D i ys H7 ⟨ws,e,el,_⟩=>by rw[e,qi,el]) ?_ ?_⟩
   .have sD:Qo H3 (upd H3 D (.lst [])):=Qo.z7 hD
    exact⟨[],rfl,rfl,(fun _ q=>nomatch q),x03.trans (SX.of sD),sa3.of sD,Qc⟩
   .rintro D i ys H7 Q' hi hD ⟨ws,rfl,el,hw,x7,sa7,eD⟩ hD7 q
    have Dst:D≠st:=fun z=>by obtain⟨_,q⟩:=sa3.lst;rw[z,q] at hD;cases hD
    refine⟨_,rfl,_,rfl,st,sc,ls,rfl,sa7,hl,fun r8 H8 r80 r81 x8 sa8=>⟨_,rfl,sg,rfl,Zg (hs1),?_⟩⟩
    have hlen:(sg.length:Int)=(sg.cps.toList.length:Int):=by simp[Str.length]
    obtain⟨c,hc,hcm⟩:=Qgd (z:=sg) (i:=r8 % (sg.length:Int)) (zF _ (by omega)) (by rw[<-hlen];exact zu _ (by omega))
    refine⟨_,_,rfl,rfl,(by show 0<(sg.length:Int);omega),sg,_,c,rfl,rfl,Zg (hs1),hc,?_⟩
    have eD8:=x8 _ _ Dst eD
    refine q _ H8 eD8 ⟨ws++[⟨#[c]⟩],by rw[qQ];rfl,by rw[qI,qT,el],fun y hy=>?_,?_,?_,Qc⟩
    .rcases qx.mp hy with z | z
     .exact hw y z
     .rw[ql.mp z];exact⟨c,hcm,rfl⟩
    .intro b o nb e
     have h8:=x8 _ _ nb (x7 _ _ nb e)
     rw[Qa (Qb (x03 _ _ nb e) hD)];exact h8
    .obtain⟨⟨n,c,e,b⟩,hq⟩:=sa8
     exact⟨⟨n,c,by rw[Qa Dst.symm];exact e,b⟩,QeH sa3.sq hD hq fun c o nc e=>by rw[Qa nc];exact e⟩
   .rintro D ys H7 hD ⟨ws,rfl,el,hw,x7,sa7,eD⟩ hD7
    obtain⟨q1,q2⟩:=Qeb hw
    refine⟨"",D,ws,rfl,rfl,jH.of eD,QcZ (fun y hy=>(hw y hy).len) (by omega),k _ H7 ⟨by omega,by omega,q2⟩ x7 sa7⟩
  refine⟨_,rfl,_,rfl,_,_,rfl,rfl,_,rfl,?_⟩
  by_cases hy:m<y
  .rw[qp hy]
   exact Zi ⟨_,rfl,rest m m1 (Int.le_refl _)⟩
  .rw[qF hy]
   exact Q4 (rest y y1 (by omega))
end
abbrev Ent:=QvX×Int×Str×V
theorem Vr{s t:QvX}(h:QV s=QV t):s=t:=List.map_inj_right (f:=Sum.inr) (fun _ _ z=>yL z) |>.mp h
inductive QH(H:Hp):List (List Key×V)->List Ent->Prop
 | nil:QH H [] []
 | cons {k:QvX} {c:Int} {h:Str} {v:V} {p st:Addr} {kvs:List (List Key×V)} {es:List Ent} (e1:H p=some (.tup [.ref st,v])) (e2:H st=some (.tup [.int c,.str h])) (r:QH H kvs es):QH H ((QV k,.ref p) :: kvs) ((k,c,h,v) :: es)
def Gj(es:List Ent)(k:QvX):Bool:=es.any fun x=>decide (x.1=k)
def Ue(es:List Ent)(e:Ent):List Ent:=if Gj es e.1=true then es.map (fun x=>if x.1=e.1 then e else x) else es++[e]
def QA(es:List Ent)(k:QvX):Option Ent:=es.find? fun x=>decide (x.1=k)
theorem QH.mono{H H':Hp}(s:∀c xs,H c=some (.tup xs)->H' c=some (.tup xs)):∀{kvs:List (List Key×V)}{es:List Ent},QH H kvs es->QH H' kvs es
 | _,_,.nil=>.nil
 | _,_,.cons e1 e2 r=>.cons (s _ _ e1) (s _ _ e2) (QH.mono s r)
theorem QH.len{H:Hp}:∀{kvs:List (List Key×V)}{es:List Ent},QH H kvs es->kvs.length=es.length
 | _,_,.nil=>rfl
 | _,_,.cons _ _ r=>jM (·+1) (QH.len r)
theorem QH.keys{H:Hp}:∀{kvs:List (List Key×V)}{es:List Ent},QH H kvs es->kvs.map (·.1)=(es.map (·.1)).map QV
 | _,_,.nil=>rfl
 | _,_,.cons _ _ r=>by rw[qW,qW,qW,QH.keys r]
theorem QH.any{H:Hp}{k:QvX}:∀{kvs:List (List Key×V)}{es:List Ent},QH H kvs es->(kvs.any fun kv=>decide (kv.1=QV k))=Gj es k
 | _,_,.nil=>rfl
 | _,_,.cons (k:=k') _ _ r=>by
   unfold Gj
   rw[v8,v8,QH.any r]
   have:decide (QV k'=QV k)=decide (k'=k):=by
    by_cases h:k'=k
    .rw[qp h,qp (by rw[h])]
    .rw[qF h,qF fun z=>h (Vr z)]
   rw[this];rfl
theorem QH.app{H:Hp}{k:QvX}{c:Int}{h:Str}{v:V}{p st:Addr}(e1:H p=some (.tup [.ref st,v]))(e2:H st=some (.tup [.int c,.str h])):∀{kvs:List (List Key×V)}{es:List Ent},QH H kvs es->QH H (kvs++[(QV k,.ref p)]) (es++[(k,c,h,v)])
 | _,_,.nil=>.cons e1 e2 .nil
 | _,_,.cons a1 a2 r=>.cons a1 a2 (QH.app e1 e2 r)
theorem QH.rep{H:Hp}{k:QvX}{c:Int}{h:Str}{v:V}{p st:Addr}(e1:H p=some (.tup [.ref st,v]))(e2:H st=some (.tup [.int c,.str h])):∀{kvs:List (List Key×V)}{es:List Ent},QH H kvs es->QH H (kvs.map fun kv=>if kv.1=QV k then (kv.1,V.ref p) else kv) (es.map fun x=>if x.1=k then (k,c,h,v) else x)
 | _,_,.nil=>.nil
 | _,_,.cons (k:=k') a1 a2 r=>by
   rw[qW,qW]
   by_cases h:k'=k
   .subst h
    rw[qD rfl,qD rfl]
    exact .cons e1 e2 (QH.rep e1 e2 r)
   .rw[qy (fun z=>h (Vr z)),qy h]
    exact .cons a1 a2 (QH.rep e1 e2 r)
theorem QH.put{H:Hp}{k:QvX}{c:Int}{h:Str}{v:V}{p st:Addr}{kvs:List (List Key×V)}{es:List Ent}(r:QH H kvs es)(e1:H p=some (.tup [.ref st,v]))(e2:H st=some (.tup [.int c,.str h])):QH H (Za kvs (QV k) (.ref p)) (Ue es (k,c,h,v)):=by
 unfold Za Ue
 rw[r.any]
 split
 .exact r.rep e1 e2
 .exact r.app e1 e2
inductive Got(H:Hp):Option V->Option Ent->Prop
 | no:Got H none none
 | yes {e:Ent} {p st:Addr} (e1:H p=some (.tup [.ref st,e.2.2.2])) (e2:H st=some (.tup [.int e.2.1,.str e.2.2.1])):Got H (some (.ref p)) (some e)
theorem QH.get{H:Hp}(k:QvX):∀{kvs:List (List Key×V)}{es:List Ent},QH H kvs es->Got H (Qt kvs (QV k)) (QA es k)
 | _,_,.nil=>.no
 | _,_,.cons (k:=k') a1 a2 r=>by
   by_cases h:k'=k
   .subst h
    have e:∀x es,QA ((k',x) :: es) k'=some (k',x):=fun x es=>by unfold QA;rw[uC (by simp)]
    rw[Zm rfl,e]
    exact .yes a1 a2
   .have e:∀x es,QA ((k',x) :: es) k=QA es k:=fun x es=>by unfold QA;rw[uD (by simp[h])]
    rw[Zf (fun z=>h (Vr z)),e]
    exact QH.get k r
def sel(f:QvX)(es:List Ent):List Ent:=es.filter fun x=>decide (x.1.take 1=f)
theorem Qi6{es:List Ent}{k f:QvX}(h:k.take 1=f):Gj (sel f es) k=Gj es k:=by
 unfold Gj sel
 rw[List.any_filter]
 congr 1
 funext x
 by_cases e:x.1=k
 .rw[qp e,e,h];simp
 .rw[qF e,Bool.and_false]
theorem V4{k f:QvX}(h:k.take 1=f):∀es:List Ent,QA (sel f es) k=QA es k
 | []=>rfl
 | x :: es=>by
   have ih:=V4 h es
   unfold QA sel at *
   by_cases e:x.1=k
   .rw[qX,qD (by rw[e];exact qp h),uC (by simp[e]),uC (by simp[e])]
   .rw[uD (by simp[e]) (l:=es),qX]
    split
    .rw[uD (by simp[e])];exact ih
    .exact ih
theorem Qj9{es:List Ent}{e:Ent}{f:QvX}(h:e.1.take 1=f):sel f (Ue es e)=Ue (sel f es) e:=by
 unfold Ue
 rw[Qi6 h]
 split
 .unfold sel
  rw[yw]
  congr 1
  apply QoA
  intro x _
  show decide ((if x.1=e.1 then e else x).1.take 1=f)=decide (x.1.take 1=f)
  by_cases z:x.1=e.1
  .rw[qD z,z]
  .rw[qy z]
 .unfold sel
  rw[zE,qX,qD (qp h),Qm5]
theorem Qf2{es:List Ent}{e:Ent}{f:QvX}(h:e.1.take 1≠f):sel f (Ue es e)=sel f es:=by
 unfold Ue
 split
 .unfold sel
  rw[yw]
  have e1:(es.filter ((fun x:Ent=>decide (x.1.take 1=f))∘fun x=>if x.1=e.1 then e else x))=es.filter fun x=>decide (x.1.take 1=f):=by
   apply QoA
   intro x _
   show decide ((if x.1=e.1 then e else x).1.take 1=f)=decide (x.1.take 1=f)
   by_cases z:x.1=e.1
   .rw[qD z,z]
   .rw[qy z]
  rw[e1]
  refine(yF fun x hx=>?_).trans (List.map_id _)
  have hx2:=qg (qu.mp hx).2
  rw[qy (fun z=>h (by rw[<-z];exact hx2))]
  rfl
 .unfold sel
  rw[zE,qX,qy (by simp[h]),Qm5,je]
theorem Qcr(es:List Ent)(e:Ent):(Ue es e).length<=es.length+1/\es.length<=(Ue es e).length:=by
 unfold Ue
 split
 .rw[qi];omega
 .rw[qI,qT];omega
theorem QhV{es:List Ent}{e:Ent}(h:QA es e.1=none):Ue es e=es++[e]:=by
 have:Gj es e.1=false:=by
  unfold QA at h
  unfold Gj
  rw[List.any_eq_false]
  intro x hx
  have:=Qsw.mp h x hx
  exact this
 unfold Ue
 rw[this]
 exact qy qJ
structure Reg(a:z8)(H:Hp)(x dx D:Addr)(kd:List (List Key×V))(es:List Ent):Prop where
 obj:H x=some (.ins a.yo dx [("drawers",.ref D)])
 dr:H D=some (.dT kd)
 QmI:∀f v,Qt kd (QV f)=some v->∃d kvs,v=.ref d/\d≠D/\H d=some (.dT kvs)/\QH H kvs (sel f es)
 no_:∀f,Qt kd (QV f)=none->sel f es=[]
 inj:∀f f' d,Qt kd (QV f)=some (.ref d)->Qt kd (QV f')=some (.ref d)->f=f'
 few:kd.length<=es.length
def FP(D:Addr)(kd:List (List Key×V))(c:Addr):Prop:=c=D\/∃f,Qt kd (QV f)=some (.ref c)
theorem Reg.fp{a:z8}{H:Hp}{x dx D:Addr}{kd:List (List Key×V)}{es:List Ent}(h:Reg a H x dx D kd es){c:Addr}(hc:FP D kd c):∃kvs,H c=some (.dT kvs):=by
 rcases hc with rfl | ⟨f,e⟩
 .exact⟨_,h.dr⟩
 .obtain⟨d,kvs,e1,_,e2,_⟩:=h.QmI f _ e
  cases e1
  exact⟨_,e2⟩
theorem Reg.frame{a:z8}{H H':Hp}{x dx D:Addr}{kd:List (List Key×V)}{es:List Ent}(h:Reg a H x dx D kd es)(k1:∀c o,H c=some o->(∀kvs,o≠.dT kvs)->(∀xs,o≠.lst xs)->H' c=some o)(k2:∀c o,H c=some o->FP D kd c->H' c=some o):Reg a H' x dx D kd es :=
 ⟨k1 _ _ h.obj (fun _ z=>nomatch z) (fun _ z=>nomatch z),k2 _ _ h.dr (.inl rfl),fun f v e=>let ⟨d,kvs,e1,e2,e3,e4⟩:=h.QmI f v e;⟨d,kvs,e1,e2,k2 _ _ e3 (.inr ⟨f,by rw[e,e1]⟩),e4.mono fun c xs z=>k1 _ _ z (fun _ y=>nomatch y) (fun _ y=>nomatch y)⟩,h.no_,h.inj,h.few⟩
theorem Reg.same{a:z8}{H H':Hp}{x dx D:Addr}{kd:List (List Key×V)}{es:List Ent}(h:Reg a H x dx D kd es)(s:Qo H H'):Reg a H' x dx D kd es:=h.frame (fun c o e _ _=>s _ _ e) fun c o e _=>s _ _ e
def Zs(es:List Ent)(e:Ent):Bool:=match QA es e.1 with
 | none=>true
 | some o=>!HT.QoY e.2.1 e.2.2.1 o.2.1 o.2.2.1
def QW(es:List Ent)(e:Ent):List Ent:=if Zs es e=true then Ue es e else es
inductive Qak(a:z8)(vs:List V)(H:Hp)(Q:VK):Prop
 | mk:∀(x dx:Addr),vs=[.ref x]->H x=some (.ins a.yo dx [])->(∀D H',H D=none->Reg a H' x dx D [] []->(∀c o,H c=some o->c≠x->H' c=some o)->Q .non H')->Qak a vs H Q
def QjP(a:z8):Sp:=fun vs H Q _=>Qak a vs H Q
inductive Qb6(a:z8)(vs:List V)(H:Hp)(Q:VK):Prop
 | mk:∀(x dx D:Addr)(kd:List (List Key×V))(es:List Ent)(kp sp:Addr)(k:QvX)(c:Int)(h:Str)(v:V),vs=[.ref x,.ref kp,.ref sp,v]->Reg a H x dx D kd es->es.length<=900->k≠[]->H kp=some (.tup (k.map V.str))->H sp=some (.tup [.int c,.str h]) ->
   (∀kd' H',Reg a H' x dx D kd' (QW es (k,c,h,v))->(∀c o,H c=some o->¬FP D kd c->H' c=some o)->(∀c,FP D kd' c->FP D kd c\/H c=none)->Q (.bl (Zs es (k,c,h,v))) H')->Qb6 a vs H Q
def QlJ(a:z8):Sp:=fun vs H Q _=>Qb6 a vs H Q
inductive QeM(a:z8)(vs:List V)(H:Hp)(Q:VK):Prop
 | mk:∀(x dx D:Addr)(kd:List (List Key×V))(es:List Ent)(kp:Addr)(k:QvX)(v:V),vs=[.ref x,.ref kp,v]->Reg a H x dx D kd es->k≠[]->H kp=some (.tup (k.map V.str))->(∀H',Qo H H'->Q (((QA es k).map (·.2.2.2)).getD v) H')->QeM a vs H Q
def spGet(a:z8):Sp:=fun vs H Q _=>QeM a vs H Q
inductive Kn(a:z8)(vs:List V)(H:Hp)(Q:VK):Prop
 | mk:∀(x dx D:Addr)(kd:List (List Key×V))(es:List Ent)(f:Str),vs=[.ref x,.str f]->Reg a H x dx D kd es->(∀e∈es,e.1≠[])->es.length<64->(∀l bs H',H l=none->Qo H H'->YM H' bs ((sel [f] es).map (·.1))->H' l=some (.lst ((YH ((sel [f] es).map (·.1))).map fun i=>(bs.map V.ref).getD i .non))->Q (.ref l) H')->Kn a vs H Q
def Qhz(a:z8):Sp:=fun vs H Q _=>Kn a vs H Q
theorem Qaa(k:QvX):XQ (k.map V.str) none (some 1)=(k.take 1).map V.str:=by
 unfold XQ
 rw[show(1:Int)=((1:Nat):Int) from rfl,HT.Qre,HT.Qqx,Qq7,Nat.sub_zero,qi,<-List.map_take]
 cases k with
 | nil=>rfl
 | cons x k=>rw[za,Qm4 (by omega)]
theorem Xl{k:QvX}(h0:k≠[])(h:HT.vq (k.map V.str).length (k.map V.str).length (some 1)=(k.map V.str).length):k.map V.str=(k.take 1).map V.str:=by
 rw[show(1:Int)=((1:Nat):Int) from rfl,HT.Qqx,qi] at h
 rw[zH (by omega)]
theorem Wu(D:Addr):List.lookup ("drawers":Str) ([("drawers",.ref D)]:List (Str×V))=some (V.ref D):=by
 rw[jC,show((("drawers":Str)) == (("drawers":Str)))=true by decide +kernel]
theorem QeV(f:QvX)(es:List Ent):(sel f es).length<=es.length:=q9 _ _
theorem Ka{H H':Hp}(s:Qo H H'):∀{bs:List Addr}{ts:List (QvX)},YM H bs ts->YM H' bs ts
 | _,_,.nil=>.nil
 | _,_,.cons e t0 r=>.cons (s _ _ e) t0 (Ka s r)
section
variable {P:Program}{w:World}{K:Frag}{mg:Str->Option Value}{base:Heap}{a:z8}
theorem Qig{fd:FuncData}(F:jn K "__init__" "Registers.__init__" Z8 a.xQ fd)(T:Txt K mg a):QO P w K mg base xN 1 a.xQ fd ["self"] (QjP a):=by
 refine F.ok Wf (fun _ _ _ _ h=>by cases h;subst_vars;rfl) (fun cdv A outer st H vs Q E hr h=>?_)
 .obtain⟨x,dx,rfl,hx,k⟩:=h
  refine⟨_,(Qf (Zo (pv 0) U2 rfl)),?_⟩
  intro D hD
  have ne1:x≠D:=Qb hx hD
  refine⟨_,rfl,x,_,dx,_,rfl,(by rw[Qa ne1];exact hx),T.jK,T.jE,by decide,?_⟩
  refine k D _ hD ⟨Qc,?_,fun f v z=>(by cases z),fun f _=>rfl,fun _ _ _ z=>(by cases z),qt _⟩ fun c o e ne=>?_
  .rw[Qa ne1.symm];exact Qc
  .rw[Qa ne,Qa (Qb e hD)];exact e
theorem Qks{fd:FuncData}(F:jn K "keep" "Registers.keep" Z7 a.xP fd)(T:Txt K mg a):QO P w K mg base xN 1 a.xP fd ["self","key","stamp","value"] (QlJ a):=by
 refine F.ok Jr (fun _ _ _ _ h=>by cases h;subst_vars;rfl) (fun cdv A outer st H vs Q E hr h=>?_)
 .obtain⟨x,dx,D,kd,es,kp,sp,k,c,h,v,rfl,R,hl,hk0,hkp,hsp,kq⟩:=h
  have hu:=Zr hr
  have hu0:=hr.Qtd
  refine⟨_,(Qd (Qy (i:=4) Jr.nd rfl (Or.inl rfl) (Ug QeT (pv 1) Vk (Vj Qi)))
   (Qd (QZ (Z2 (Jl hu (pv 4) (Qk (pv 0) rfl))) (Qf (Zp hu (Qk (pv 0) rfl) (pv 4) U2 rfl)) QD)
   (Qd (Qy (i:=5) Jr.nd rfl (Or.inl rfl) (Qv hu (Qk (pv 0) rfl) (pv 4)))
   (Qd (QZ (PW.pt (Uy (Z2 (VR hu (pv 1) (pv 5))) (YV (QL (Ql4 hu0) (pv 2) (Qr QN (Qv hu (pv 5) (pv 1)) Qi))))) (Qf (QJ YY)) QD)
   (Qd (Zp hu (pv 5) (pv 1) (Qbm (Qg (pv 2) (Qg (pv 3) Qz))) rfl)
   (Qf (QJ YY))))))),?_⟩
  refine Jp (t:=Qhl _ _) fun N hN=>?_
  have rest:∀(fp:Addr)(H1:Hp),Qo H H1->H1 fp=some (.tup ((k.take 1).map V.str))->N [some (.ref x),some (.ref kp),some (.ref sp),some v,some (.ref fp),none] H1:=fun fp H1 s1 hfp=>by
   subst hN
   have R1:=R.same s1
   have hkp1:=s1 _ _ hkp
   have hsp1:=s1 _ _ hsp
   have key:∀{G:Hp}{b:Addr}{t:QvX},G b=some (.tup (t.map V.str))->G b=some (.tup ((QV t).map kV)):=fun e=>by rw[JZ];exact e
   refine Jp (t:=Qt3 _ _ _) fun N2 hN2=>?_
   have Qrf:∀(kd1:List (List Key×V))(H2:Hp)(d:Addr)(kvs:List (List Key×V)),H2 D=some (.dT kd1)->Qt kd1 (QV (k.take 1))=some (.ref d)->d≠D->H2 d=some (.dT kvs)->QH H2 kvs (sel (k.take 1) es)->(∀f',f'≠k.take 1->Qt kd1 (QV f')=Qt kd (QV f')) ->
    kd1.length<=es.length+1->(kd1.length<=es.length\/sel (k.take 1) es=[])->(∀c o,H1 c=some o->c≠D->H2 c=some o)->(FP D kd d\/H1 d=none)->(∀f',Qt kd (QV f')=some (.ref d)->f'=k.take 1)->N2 [some (.ref x),some (.ref kp),some (.ref sp),some v,some (.ref fp),none] H2:=fun kd1 H2 d kvs hD2 hv dD hd2 eo hoth hln hsl hkeep hfresh hinj=>by
    subst hN2
    have xD:x≠D:=QX R1.obj R1.dr (fun z=>nomatch z)
    have Qua:=hkeep _ _ R1.obj xD
    have kD:kp≠D:=QX hkp1 R1.dr (fun z=>nomatch z)
    have QsN:=hkeep _ _ hkp1 kD
    have hsp2:=hkeep _ _ hsp1 (QX hsp1 R1.dr (fun z=>nomatch z))
    have hfp2:=hkeep _ _ hfp (QX hfp R1.dr (fun z=>nomatch z))
    have vs0:=V4 (k:=k) rfl es
    have QuF:∀{G:Hp}{kvs':List (List Key×V)}{es':List Ent},(∀c o,H2 c=some o->c≠d->G c=some o)->G d=some (.dT kvs')->QH G kvs' (sel (k.take 1) es')->(∀f',f'≠k.take 1->sel f' es'=sel f' es)->kd1.length<=es'.length->Reg a G x dx D kd1 es':=fun{G kvs' es'} hk2 hd' eo' hs' hl'=>by
     have kt:∀c xs,H1 c=some (.tup xs)->G c=some (.tup xs):=fun c xs e=>hk2 _ _ (hkeep _ _ e (QX e R1.dr (fun z=>nomatch z))) (fun z=>by have:=hkeep _ _ e (QX e R1.dr (fun z=>nomatch z));rw[z,hd2] at this;cases this)
     refine⟨hk2 _ _ Qua (fun z=>by rw[z,hd2] at Qua;cases Qua),hk2 _ _ hD2 dD.symm,fun f' v' e'=>?_,fun f' e'=>?_,fun f1 f2 d' e1 e2=>?_,hl'⟩
     .by_cases hf:f'=k.take 1
      .subst hf
       rw[hv] at e'
       cases e'
       exact⟨d,kvs',rfl,dD,hd',eo'⟩
      .rw[hoth f' hf] at e'
       obtain⟨d',kv,rfl,q1,q2,q3⟩:=R1.QmI f' _ e'
       have dd:d'≠d:=fun z=>hf (hinj f' (by rw[<-z];exact e'))
       exact⟨d',kv,rfl,q1,hk2 _ _ (hkeep _ _ q2 q1) dd,by rw[hs' f' hf];exact q3.mono kt⟩
     .have hf:f'≠k.take 1:=fun z=>by rw[z,hv] at e';cases e'
      rw[hoth f' hf] at e'
      rw[hs' f' hf]
      exact R1.no_ f' e'
     .by_cases h1:f1=k.take 1
      .by_cases h2:f2=k.take 1
       .rw[h1,h2]
       .rw[h1,hv] at e1
        cases e1
        rw[hoth f2 h2] at e2
        exact absurd (hinj f2 e2) h2
      .by_cases h2:f2=k.take 1
       .rw[h2,hv] at e2
        cases e2
        rw[hoth f1 h1] at e1
        exact absurd (hinj f1 e1) h1
       .rw[hoth f1 h1] at e1
        rw[hoth f2 h2] at e2
        exact R1.inj f1 f2 d' e1 e2
    have QuL:∀c o,H c=some o->¬FP D kd c->H2 c=some o/\c≠d:=fun c o e nf=>by
     have e1:=s1 _ _ e
     refine⟨hkeep _ _ e1 (fun z=>nf (.inl z)),fun z=>?_⟩
     rcases hfresh with q | q
     .exact nf (by rw[z];exact q)
     .rw[z,q] at e1;cases e1
    have fpC:∀c,FP D kd1 c->FP D kd c\/H c=none:=fun c hc=>by
     rcases hc with rfl | ⟨f',e'⟩
     .exact .inl (.inl rfl)
     .by_cases hf:f'=k.take 1
      .rw[hf,hv] at e'
       cases e'
       rcases hfresh with q | q
       .exact .inl q
       .refine .inr ?_
        cases z:H d with
        | none=>rfl
        | some o=>have:=s1 _ _ z;rw[q] at this;cases this
      .rw[hoth f' hf] at e'
       exact .inl (.inr ⟨f',e'⟩)
    have QuE:Zs es (k,c,h,v)=true->(QA es k=none\/kd1.length<=es.length)->(∀p,H2 p=none->Q (.bl true) (upd (upd H2 p (.tup [.ref sp,v])) d (.dT (Za kvs (QV k) (.ref p))))):=fun hB hnv p hp=>by
     have pd:d≠p:=Qb hd2 hp
     have sH:Qo H2 (upd H2 p (.tup [.ref sp,v])):=Qo.z7 hp
     have e:∀c o,H2 c=some o->c≠d->(upd (upd H2 p (.tup [.ref sp,v])) d (.dT (Za kvs (QV k) (.ref p)))) c=some o:=fun c o q n=>by rw[Qa n];exact sH _ _ q
     have ep:(upd (upd H2 p (.tup [.ref sp,v])) d (.dT (Za kvs (QV k) (.ref p)))) p=some (.tup [.ref sp,v]):=by rw[Qa pd.symm];exact Qc
     have tk:∀c xs,H2 c=some (.tup xs)->(upd (upd H2 p (.tup [.ref sp,v])) d (.dT (Za kvs (QV k) (.ref p)))) c=some (.tup xs):=fun c xs q=>e _ _ q (QX q hd2 (fun z=>nomatch z))
     have kE:QW es (k,c,h,v)=Ue es (k,c,h,v):=qD hB
     have:=kq kd1 _ (by
      rw[kE]
      refine QuF e Qc ?_ (fun f' hf=>Qf2 (fun z=>hf z.symm)) ?_
      .rw[Qj9 (e:=(k,c,h,v)) (f:=k.take 1) rfl]
       exact(eo.mono tk).put ep (tk _ _ hsp2)
      .rcases hnv with q | q
       .rw[QhV q,qI,qT];exact hln
       .exact zx q (Qcr _ _).2) (fun c o q nf=>let ⟨q1,q2⟩:=QuL c o q nf;e c o q1 q2) fpC
     rw[hB] at this
     exact this
    refine⟨_,rfl,x,_,dx,_,_,rfl,Qua,T.jK,T.jE,Wu D,_,rfl,D,_,rfl,(by rw[<-hv];exact Zk.t hD2 (key hfp2)),?_⟩
    have gt:=eo.get k
    rw[vs0] at gt
    refine⟨_,rfl,_,rfl,d,_,rfl,Zk.t hd2 (key QsN),_,rfl,?_⟩
    have hkl:kvs.length<sizeLine:=by rw[eo.len];have:=QeV (k.take 1) es;exact QK (by omega)
    cases hg:QA es k with
    | none =>
      rw[hg] at gt
      have hB:Zs es (k,c,h,v)=true:=by unfold Zs;rw[show QA es (k,c,h,v).1=none from hg]
      generalize hvv:Qt kvs (QV k)=o at gt
      cases gt
      refine Q4 (Q4 ?_)
      exact⟨_,rfl,_,rfl,Yx,fun p hp=>⟨_,rfl,_,rfl,d,_,rfl,Jo.t (by rw[Qa (Qb hd2 hp)];exact hd2) (key (by rw[Qa (Qb QsN hp)];exact QsN)) hkl,QuE hB (.inl hg) p hp⟩⟩
    | some en =>
      rw[hg] at gt
      have hlen:kd1.length<=es.length:=by
       rcases hsl with q | q
       .exact q
       .rw[<-vs0,q] at hg
        cases hg
      generalize hvv:Qt kvs (QV k)=o at gt
      cases gt with
      | @yes en p0 st0 e1 e2 =>
        refine Zi ?_
        refine⟨_,rfl,_,rfl,_,rfl,d,_,rfl,(by rw[<-hvv];exact Zk.t hd2 (key QsN)),p0,_,_,_,rfl,rfl,ye.of e1,rfl,sp,st0,c,h,_,_,rfl,rfl,ye.of hsp2,ye.of e2,_,rfl,?_⟩
        cases hle:HT.QoY c h en.2.1 en.2.2.1 with
        | true =>
          refine Zi ?_
          have hB:Zs es (k,c,h,v)=false:=by unfold Zs;rw[show QA es (k,c,h,v).1=some en from hg];show(!HT.QoY c h en.2.1 en.2.2.1)=false;rw[hle];rfl
          have kE:QW es (k,c,h,v)=es:=qy (by rw[hB];exact qJ)
          have:=kq kd1 H2 (by rw[kE];exact QuF (fun _ _ q _=>q) hd2 eo (fun _ _=>rfl) hlen) (fun c o q nf=>(QuL c o q nf).1) fpC
          rw[hB] at this
          exact this
        | false =>
          refine Q4 ?_
          have hB:Zs es (k,c,h,v)=true:=by unfold Zs;rw[show QA es (k,c,h,v).1=some en from hg];show(!HT.QoY c h en.2.1 en.2.2.1)=true;rw[hle];rfl
          exact⟨_,rfl,_,rfl,Yx,fun p hp=>⟨_,rfl,_,rfl,d,_,rfl,Jo.t (by rw[Qa (Qb hd2 hp)];exact hd2) (key (by rw[Qa (Qb QsN hp)];exact QsN)) hkl,QuE hB (.inr hlen) p hp⟩⟩
   have hfew:=R1.few
   refine⟨_,rfl,_,rfl,x,_,dx,_,_,rfl,R1.obj,T.jK,T.jE,Wu D,D,_,rfl,Zk.t R1.dr (key hfp),_,rfl,?_⟩
   cases uW:Qt kd (QV (k.take 1)) with
   | some v0 =>
     refine Q4 ?_
     obtain⟨d,kvs,rfl,q1,q2,q3⟩:=R1.QmI _ _ uW
     exact Qrf kd H1 d kvs R1.dr uW q1 q2 q3 (fun _ _=>rfl) (by omega) (.inl hfew) (fun _ _ e _=>e) (.inl (.inr ⟨_,uW⟩)) fun f' e=>R1.inj _ _ d e uW
   | none =>
     refine Zi ?_
     intro p hp
     have Dp:D≠p:=Qb R1.dr hp
     have xp:x≠p:=Qb R1.obj hp
     refine⟨_,rfl,x,_,dx,_,_,rfl,(by rw[Qa xp];exact R1.obj),T.jK,T.jE,Wu D,_,rfl,D,_,rfl,Jo.t (by rw[Qa Dp];exact R1.dr) (key (by rw[Qa (Qb hfp hp)];exact hfp)) (QK (by omega)),?_⟩
     have hsel:=R1.no_ _ uW
     refine Qrf _ _ p [] Qc (by rw[QbN,qD rfl]) Dp.symm (by rw[Qa Dp.symm];exact Qc) (by rw[hsel];exact .nil) (fun f' hf=>by rw[QbN,qy (fun z=>hf (Vr z))]) ?_ (.inr hsel) (fun c o e n=>by rw[Qa n,Qa (Qb e hp)];exact e) (.inr hp) fun f' e=>?_
     .have:=JY kd (QV (k.take 1)) (V.ref p)
      omega
     .obtain⟨d',kv,e1,_,e2,_⟩:=R1.QmI f' _ e
      cases e1
      rw[hp] at e2
      cases e2
  refine⟨_,rfl,_,rfl,kp,_,rfl,ye.of hkp,fun hw=>?_,fun p hp=>?_⟩
  .exact rest kp H (Qo.refl H) (by rw[hkp,<-Xl hk0 hw.2])
  .exact rest p _ (Qo.z7 hp) (by rw[Qc,Qaa])
theorem Qim{fd:FuncData}(F:WB K "get" "Registers.get" Jt a.vh fd)(T:Txt K mg a):QO P w K mg base xN 1 a.vh fd ["self","key","default"] (spGet a):=by
 refine F.ok Ud (fun _ _ _ _ h=>by cases h;subst_vars;rfl) (fun cdv A outer st H vs Q E hr h=>?_)
 .obtain⟨x,dx,D,kd,es,kp,k,v,rfl,R,hk0,hkp,kq⟩:=h
  have hu:=Zr hr
  refine⟨_,(Qd (Qy (i:=3) Ud.nd rfl (Or.inl rfl) (Qcu hu (Qk (pv 0) rfl) (Ug QeT (pv 1) Vk (Vj Qi)) U2 ⟨rfl,rfl,rfl,rfl⟩))
   (Qf (QJ (KN (Z2 (VR hu (pv 1) (pv 3))) (Qr QN (Qv hu (pv 3) (pv 1)) Qi) (pv 2))))),?_⟩
  have key:∀{G:Hp}{b:Addr}{t:QvX},G b=some (.tup (t.map V.str))->G b=some (.tup ((QV t).map kV)):=fun e=>by rw[JZ];exact e
  refine Jp (t:=Qhl _ _) fun N hN=>?_
  have last:∀(d:Addr)(kvs:List (List Key×V))(G:Hp)(es':List Ent),Qo H G->G d=some (.dT kvs)->QH G kvs es'->QA es' k=QA es k->N [some (.ref x),some (.ref kp),some v,some (.ref d)] G:=fun d kvs G es' sG hd eo he=>by
   subst hN
   have gt:=eo.get k
   rw[he] at gt
   have hkG:=sG _ _ hkp
   refine⟨_,rfl,_,rfl,d,_,rfl,Zk.t hd (key hkG),_,rfl,?_⟩
   have kk:=kq G sG
   generalize hvv:Qt kvs (QV k)=o at gt
   generalize QA es k=oe at gt kk
   cases gt with
   | no=>exact Q4 ⟨_,rfl,kk⟩
   | @yes en p0 st0 e1 e2=>exact Zi ⟨_,rfl,_,rfl,d,_,rfl,(by rw[<-hvv];exact Zk.t hd (key hkG)),p0,_,_,_,rfl,rfl,ye.of e1,Qu (j:=1) rfl,kk⟩
  have rest:∀(fp:Addr)(H1:Hp),Qo H H1->H1 fp=some (.tup ((k.take 1).map V.str))->∀p,H1 p=none->∃o,Zk (upd H1 p (.dT [])) D (.ref fp) o/\N [some (.ref x),some (.ref kp),some v,some (o.getD (.ref p))] (upd H1 p (.dT [])):=fun fp H1 s1 hfp p hp=>by
   have s2:Qo H1 (upd H1 p (.dT [])):=Qo.z7 hp
   have R2:=(R.same s1).same s2
   refine⟨_,Zk.t R2.dr (key (s2 _ _ hfp)),?_⟩
   cases uW:Qt kd (QV (k.take 1)) with
   | none =>
     refine last p [] _ [] (s1.trans s2) Qc .nil ?_
     rw[<-V4 rfl es,R2.no_ _ uW]
   | some v0 =>
     obtain⟨d,kvs,rfl,q1,q2,q3⟩:=R2.QmI _ _ uW
     exact last d kvs _ _ (s1.trans s2) q2 q3 (V4 rfl es)
  refine⟨_,rfl,x,_,dx,_,_,rfl,R.obj,T.jK,T.jE,Wu D,D,rfl,.inr ⟨_,.inl R.dr⟩,_,rfl,_,rfl,kp,_,rfl,ye.of hkp,fun hw=>?_,fun q hq=>?_⟩
  .intro p hp
   obtain⟨o,h1,h2⟩:=rest kp H (Qo.refl H) (by rw[hkp,<-Xl hk0 hw.2]) p hp
   exact⟨o,h1,h2⟩
  .intro p hp
   obtain⟨o,h1,h2⟩:=rest q _ (Qo.z7 hq) (by rw[Qc,Qaa]) p hp
   exact⟨o,h1,h2⟩
theorem Qgj{fd:FuncData}(F:jn K "keys_of" "Registers.keys_of" ZH a.yz fd)(T:Txt K mg a):QO P w K mg base xN 1 a.yz fd ["self","first"] (Qhz a):=by
 refine F.ok UV (fun _ _ _ _ h=>by cases h;subst_vars;rfl) (fun cdv A outer st H vs Q E hr h=>?_)
 .obtain⟨x,dx,D,kd,es,f,rfl,R,h0,hl,kq⟩:=h
  have hu:=Zr hr
  refine⟨_,(Qf (QJ (QC (Wx rfl) rfl T.QmL boot_sorted (zr (Qcu hu (Qk (pv 0) rfl) (Qbm (Qg (pv 1) Qz)) U2 ⟨rfl,rfl,rfl,rfl⟩) Qe)))),?_⟩
  refine⟨_,rfl,x,_,dx,_,_,rfl,R.obj,T.jK,T.jE,Wu D,D,rfl,.inr ⟨_,.inl R.dr⟩,_,rfl,QtY,fun tp htp=>?_⟩
  have s1:Qo H (upd H tp (.tup [.str f])):=Qo.z7 htp
  have etp:(upd H tp (.tup [.str f])) tp=some (.tup ((QV [f]).map kV)):=Qc
  generalize upd H tp (.tup [.str f])=H1 at s1 etp ⊢
  intro p hp
  have s2:Qo H1 (upd H1 p (.dT [])):=Qo.z7 hp
  have ep:(upd H1 p (.dT [])) p=some (.dT []):=Qc
  have R2:=(R.same s1).same s2
  refine⟨_,Zk.t R2.dr (s2 _ _ etp),?_⟩
  generalize upd H1 p (.dT [])=H2 at s2 R2 ep ⊢
  have fin:∀(d:Addr)(kvs:List (List Key×V)),H2 d=some (.dT kvs)->QH H2 kvs (sel [f] es)->WP [.ref d] H2 Q:=fun d kvs hd eo =>
   ⟨d,kvs,(sel [f] es).map (·.1),rfl,hd,eo.keys,fun t ht=>by
     obtain⟨e,he,rfl⟩:=qd.mp ht
     exact h0 e (qu.mp he).1,by rw[qi];exact vH (QeV _ _) hl,fun l bs hn ht=>by
     have sL:Qo H2 (upd H2 l (.lst ((YH ((sel [f] es).map (·.1))).map fun i=>(bs.map V.ref).getD i .non))):=Qo.z7 hn
     refine kq l bs _ ?_ ((s1.trans s2).trans sL) (Ka sL ht) Qc
     cases z:H l with
     | none=>rfl
     | some o=>have:=s2 _ _ (s1 _ _ z);rw[hn] at this;cases this⟩
  cases uW:Qt kd (QV [f]) with
  | none=>exact fin p [] ep (by rw[R2.no_ _ uW];exact .nil)
  | some v0 =>
    obtain⟨d,kvs,rfl,q1,q2,q3⟩:=R2.QmI _ _ uW
    exact fin d kvs q2 q3
end
def isW(x:Str):Bool:=decide (1<=(x.length:Int)) && (decide ((x.length:Int)<=20) && x.cps.toList.all fun c=>decide (c∈aZ.cps.toList))
inductive QaA(vs:List V)(H:Hp)(Q:VK):Prop
 | mk:∀x y:Str,vs=[.str x,.str y]->x.length<=1000->(∀H',Qo H H'->Q (.bl (x.cps.toList.all fun c=>decide (c∈y.cps.toList))) H')->QaA vs H Q
def QeR:Sp:=fun vs H Q _=>QaA vs H Q
def QhA(K:Frag):Sp:=fun vs H Q _=>(∃x:Str,vs=[.str x]/\x.length<=1000/\∀H',Qo H H'->Q (.bl (isW x)) H') \/
 ∃v t,vs=[v]/\Y6 K H v t/\kitOne K t (.type "str")=some false/\Q (.bl false) H
section
variable {P:Program}{w:World}{K:Frag}{mg:Str->Option Value}{base:Heap}{a:z8}
theorem Qiw{fd:FuncData}(F:jn K "all_among" "all_among" YD a.wV fd)(T:Txt K mg a):QO P w K mg base xN 1 a.wV fd ["text","signs"] QeR:=by
 refine F.ok Qbe (fun _ _ _ _ h=>by cases h;subst_vars;rfl) (fun cdv A outer s H vs Q E hr h=>?_)
 .obtain⟨x,y,rfl,hx,k⟩:=h
  refine⟨_,Qf (QJ (QC (Qjp rfl) rfl T.b_all boot_all (zr (XX (sc:=Qh YD) (N:=Xu) (fr:=[(1,"signs")]) ⟨rfl,rfl,by decide +kernel,by decide +kernel,by decide +kernel,by decide +kernel,by decide +kernel⟩ rfl rfl rfl (Qh3 (pv 0))
   (fun _ _ _ _=>Qbl) (fun _ _ _ _=>YW WW (pv 0) (pv 1) (by with_unfolding_all rfl))) Qe))),?_⟩
  refine⟨_,rfl,x,rfl,Qc7 (fun c=>.bl (decide (c∈y.cps.toList))) (Zg (hx)) ?_ ?_⟩
  .intro c H3 Q' hc q
   refine⟨_,rfl,_,rfl,_,_,rfl,rfl,?_⟩
   rw[StrLaws.found_one]
   exact q
  .intro D hD
   refine⟨D,x.cps.toList.map fun c=>decide (c∈y.cps.toList),rfl,jH.of (by rw[zJ];exact Qc),?_⟩
   rw[List.all_map]
   exact k _ (Qo.z7 hD)
theorem QaI{fd:FuncData}(F:jn K "is_word" "is_word" Wc a.QmW fd)(T:Txt K mg a)(FF:ZE K a):QO P w K mg base xN 2 a.QmW fd ["thing"] (QhA K):=by
 obtain⟨fdA,FA,bA⟩:=FF.QrI
 have GA:QO P w K mg base xN 1 a.wV fdA ["text","signs"] QeR:=Qiw FA T
 refine F.ok QdH (fun vs H Q E h=>?_) (fun cdv A outer s H vs Q E hr h=>?_)
 .rcases h with⟨x,rfl,_⟩ | ⟨v,t,rfl,_⟩ <;> rfl
 .refine⟨_,Qf (QJ (U3 (QC ZV rfl T.jg boot_isinstance (zr (pv 0) (zr (YX (v:=.ty "str") rfl T.Qqo boot_str rfl) Qe)))
   (U3 (Qh8 Qcw Qcw Qi (QC Yp rfl T.QlO jN (zr (pv 0) Qe)) (UI rfl T.Qrs))
   (U0 (Qj GA hr rfl T.Qrm FA.kp bA .nil Ql (zr (pv 0) (zr (UI rfl T.QqH) Qe))))))),?_⟩
  rcases h with⟨x,rfl,hx,k⟩ | ⟨v,t,rfl,ty,hk,k⟩
  .refine⟨_,rfl,_,_,_,_,_,rfl,rfl,Y6.str x,Qfk,_,rfl,Zi ?_⟩
   refine⟨_,rfl,x,rfl,Zg (hx),_,_,rfl,rfl,_,rfl,?_⟩
   have hdef:isW x=(decide (1<=(x.length:Int)) && (decide ((x.length:Int)<=20) && x.cps.toList.all fun c=>decide (c∈aZ.cps.toList))):=rfl
   by_cases h1:(1:Int)<=(x.length:Int)
   .rw[qp h1]
    rw[qp h1,QoD] at hdef
    refine Zi ⟨_,_,rfl,rfl,_,rfl,?_⟩
    by_cases h2:(x.length:Int)<=20
    .rw[qp h2]
     rw[qp h2,QoD] at hdef
     refine Zi ⟨_,rfl,x,aZ,rfl,hx,fun H' s'=>?_⟩
     rw[<-hdef]
     exact k H' s'
    .rw[qF h2]
     rw[qF h2,Bool.false_and] at hdef
     refine Q4 ?_
     rw[<-hdef]
     exact k H (Qo.refl H)
   .rw[qF h1]
    rw[qF h1,Bool.false_and] at hdef
    refine Q4 ⟨_,rfl,Q4 ?_⟩
    rw[<-hdef]
    exact k H (Qo.refl H)
  .exact⟨_,rfl,_,_,_,_,_,rfl,rfl,ty,hk,_,rfl,Q4 k⟩
end
theorem Qew:∀(l:List Nat)(st:QvX×Str),(l.foldl wst st).1.length<=st.1.length+l.length/\(l.foldl wst st).2.length<=st.2.length+l.length
 | [],st=>⟨qt _,qt _⟩
 | c :: l,st=>by
   rw[jl,za]
   have q:=Qew l (wst st c)
   have e:(wst st c).1.length<=st.1.length+1/\(wst st c).2.length<=st.2.length+1:=by
    unfold wst
    split
    .exact⟨Qq6 _,by rw[QfM,Qbr];exact qt _⟩
    .refine⟨by rw[qI];exact qt _,?_⟩
     show Str.empty.length<=_
     exact zK _
   omega
theorem QjD(l:List Nat):(wsc l).1.length<=l.length/\(wsc l).2.length<=l.length:=by
 have q:=Qew l ([],Str.empty)
 have e:Str.empty.length=0:=rfl
 rw[j7,e,Nat.zero_add] at q
 exact q
theorem Qex(x:Str):(uP x).length<=x.length+1:=by
 have q:=QjD x.cps.toList
 have e:=q9 Gn ((wsc x.cps.toList).1++[(wsc x.cps.toList).2])
 rw[qI,qT] at e
 rw[YG]
 show(List.filter Gn _).length<=_
 omega
inductive Qah(vs:List V)(H:Hp)(Q:VK):Prop
 | mk:∀x:Str,vs=[.str x]->Asc x->x.length<=900->(∀(l:Addr)(H':Hp),H l=none->Qo H H'->H' l=some (.lst ((uP x).map V.str))->Q (.ref l) H')->Qah vs H Q
def QjM:Sp:=fun vs H Q _=>Qah vs H Q
section
variable {P:Program}{w:World}{K:Frag}{mg:Str->Option Value}{base:Heap}{a:z8}
theorem Qcx{fd:FuncData}(F:jn K "words_of" "words_of" Ua a.uY fd)(T:Txt K mg a):QO P w K mg base xN 1 a.uY fd ["text"] QjM:=by
 refine F.ok Xq (fun _ _ _ _ h=>by cases h;subst_vars;rfl) (fun cdv A outer s H vs Q E hr h=>?_)
 .obtain⟨x,rfl,hA,hx,k⟩:=h
  refine⟨_,(Qd (KL (sc:=Qh Ua) (N:=KY) (i:=1) (fr:=[]) ⟨rfl,rfl,by decide +kernel,by decide +kernel,by decide +kernel,by decide +kernel,by decide +kernel⟩ rfl rfl rfl Xq.nd rfl rfl (Qh3 (pv 0)) (fun _ _ _ _=>Qbl) (fun _ _ _ _=>(KN (QL WW (pv 0) (UI rfl T.Qrr) (by with_unfolding_all rfl)) (Qkj K plainAttrs_str PySem.F.slot_str_lower PySem.F.type_str_lower QiH (pv 0)) Qp)))
   (Qf (QJ (QdO plainAttrs_str PySem.F.slot_str_split PySem.F.type_str_split Qgv (QaE plainAttrs_str PySem.F.slot_str_join PySem.F.type_str_join Qfi Qp (zr (pv 1) Qe)))))),?_⟩
  refine⟨_,rfl,x,rfl,Qc7 (fun c=>.str ⟨#[gS c]⟩) (Zg ((by show x.length<=1000;omega))) ?_ ?_⟩
  .intro c H3 Q' hc q
   refine⟨_,rfl,_,_,rfl,rfl,_,rfl,?_⟩
   rw[StrLaws.found_one]
   have eg:gS c=if decide (c∈rS.cps.toList)=true then lo1 c else 32:=rfl
   rw[eg] at q
   refine Qc0 (fun h=>?_) (fun h=>?_)
   .rw[qD h] at q
    refine⟨_,rfl,rfl,⟨#[c]⟩,rfl,rfl,hA.one hc,(by show 1<=1000000;decide),?_⟩
    have e:(#[c]:Array Nat).map lo1=#[lo1 c]:=by simp
    show Q' (.str ⟨(#[c]:Array Nat).map lo1⟩) H3
    rw[e]
    exact q
   .rw[qy h] at q
    exact q
  .intro D hD
   generalize hys:x.cps.toList.map (fun c=>(⟨#[gS c]⟩:Str))=ys
   have e1:x.cps.toList.map (fun c=>V.str ⟨#[gS c]⟩)=ys.map V.str:=by rw[<-hys,zJ];rfl
   have hl1:∀y∈ys,y.length=1:=fun y hy=>by
    rw[<-hys] at hy
    obtain⟨c,_,rfl⟩:=qd.mp hy
    rfl
   have hyl:ys.length=x.length:=by rw[<-hys,qi,YG]
   have e2:(Txt.join "" ys).cps.toList=x.cps.toList.map gS:=by
    rw[QiU,<-hys,zJ]
    clear hA hx k hys e1 hl1 hyl hD
    induction x.cps.toList with
    | nil=>rfl
    | cons c r ih=>simpa using ih
   rw[e1]
   refine⟨rfl,_,rfl,"",D,ys,rfl,rfl,jH.of Qc,QcZ hl1 (by omega),rfl,_,rfl,rfl,(by rw[QaT hl1];omega),fun l hl=>?_⟩
   rw[QfR e2]
   have s1:Qo H (upd H D (.lst (ys.map V.str))):=Qo.z7 hD
   exact k l _ (s1.free hl) (s1.uR (s1.free hl)) Qc
end
theorem Qhn{xs:QvX}{i:Nat}{y:V}(h:(xs.map V.str)[i]?=some y):∃t,y=.str t/\xs[i]?=some t:=by
 rw[q8] at h
 cases e:xs[i]? with
 | none=>rw[e] at h;cases h
 | some t=>rw[e] at h;exact⟨t,(qR h).symm,rfl⟩
structure V1(s t b:Str)(d:Int)(an:Str):Prop where
 s_:J1 s
 t_:Asc t
 tl:t.length<=60
 tn:¬10∈t.cps.toList
 b_:Asc b
 bl:b.length<=400
 d0:0<=d
 d1:d<=9999
 a_:an=""\/J1 an
abbrev lfs(s t b:Str)(d:Int)(an:Str)(f:V):List (Str×V):=[("sender",.str s),("title",.str t),("body",.str b),("day",.int d),("answers",.str an),("found",f)]
def Qds(a:z8)(H:Hp)(x:Addr)(s t b:Str)(d:Int)(an:Str)(D:Addr):Prop:=(∃dx,H x=some (.ins a.ji dx (lfs s t b d an (.ref D))))/\H D=some (.dK (kn (uP t) (uP t++uP b)))
def Jn(a:z8)(H:Hp)(x:Addr)(s t b:Str)(d:Int)(an:Str):Prop:=(∃dx,H x=some (.ins a.ji dx (lfs s t b d an .non)))\/∃D,Qds a H x s t b d an D
theorem Jn.mono{a:z8}{H H':Hp}{x:Addr}{s t b:Str}{d:Int}{an:Str}(h:Jn a H x s t b d an)(q:Qo H H'):Jn a H' x s t b d an:=by
 rcases h with⟨dx,e⟩ | ⟨D,⟨dx,e⟩,eD⟩
 .exact .inl ⟨dx,q _ _ e⟩
 .exact .inr ⟨D,⟨dx,q _ _ e⟩,q _ _ eD⟩
theorem Jn.at{a:z8}{H:Hp}{x:Addr}{s t b:Str}{d:Int}{an:Str}(h:Jn a H x s t b d an):∃dx f,H x=some (.ins a.ji dx (lfs s t b d an f)):=by
 rcases h with⟨dx,e⟩ | ⟨D,⟨dx,e⟩,eD⟩
 .exact⟨dx,_,e⟩
 .exact⟨dx,_,e⟩
theorem Jn.other{a:z8}{H H':Hp}{x y:Addr}{s t b:Str}{d:Int}{an:Str}{C dy:Addr}{fs:List (Str×V)}(h:Jn a H x s t b d an)(ne:x≠y)(ey:H y=some (.ins C dy fs))(q:SX y H H'):Jn a H' x s t b d an:=by
 rcases h with⟨dx,e⟩ | ⟨D,⟨dx,e⟩,eD⟩
 .exact .inl ⟨dx,q _ _ ne e⟩
 .exact .inr ⟨D,⟨dx,q _ _ ne e⟩,q _ _ (QX eD ey (fun z=>nomatch z)) eD⟩
theorem QiY{x:Str}(h:J1 x):isW x=true:=by
 unfold isW
 have h1:=h.lo
 have h2:=h.hi
 rw[qp (by omega),qp (by omega),QoD,QoD]
 exact jR.mpr fun c hc=>qp (h.in_ c hc)
theorem QgL:isW ""=false:=by decide +kernel
inductive Ko(vs:List V)(H:Hp)(Q:VK):Prop
 | mk:∀(x:Str)(m:Int),vs=[.str x,.int m]->x.length<=1000->Q (.bl (decide ((x.length:Int)<=m))) H->Ko vs H Q
def QhB:Sp:=fun vs H Q _=>Ko vs H Q
inductive Qai(vs:List V)(H:Hp)(Q:VK):Prop
 | mk:∀i:Int,vs=[.int i]->Q (.bl true) H->Qai vs H Q
def QjN:Sp:=fun vs H Q _=>Qai vs H Q
inductive V5(vs:List V)(H:Hp)(Q:VK):Prop
 | mk:∀x:Str,vs=[.str x]->(x=""\/J1 x)->(∀H',Qo H H'->Q (.bl true) H')->V5 vs H Q
def QdA:Sp:=fun vs H Q _=>V5 vs H Q
inductive Qav(vs:List V)(H:Hp)(Q:VK):Prop
 | mk:∀s t b d an,vs=[.str s,.str t,.str b,.int d,.str an]->V1 s t b d an->(∀H',Qo H H'->Q .non H')->Qav vs H Q
def Qj0:Sp:=fun vs H Q _=>Qav vs H Q
inductive Qb7(a:z8)(vs:List V)(H:Hp)(Q:VK):Prop
 | mk:∀x dx s t b d an,vs=[.ref x,.str s,.str t,.str b,.int d,.str an]->V1 s t b d an->H x=some (.ins a.ji dx [])->(∀H',(∀c o,c≠x->H c=some o->H' c=some o)->H' x=some (.ins a.ji dx (lfs s t b d an .non))->Q .non H')->Qb7 a vs H Q
def Qdz(a:z8):Sp:=fun vs H Q _=>Qb7 a vs H Q
inductive Qao(a:z8)(vs:List V)(H:Hp)(Q:VK):Prop
 | mk:∀x s t b d an,vs=[.ref x]->Jn a H x s t b d an->(∀p,H p=none->Q (.ref p) (upd H p (.tup [.str s,.str t,.str b,.int d,.str an])))->Qao a vs H Q
def QjT(a:z8):Sp:=fun vs H Q _=>Qao a vs H Q
theorem kitTT{K:Frag}:kitOne K (.type "tuple") (.type "tuple")=some true:=by unfold kitOne;rw[qD (kY _)]
theorem kitII{K:Frag}:kitOne K (.type "int") (.type "int")=some true:=by unfold kitOne;rw[qD (kY _)]
theorem kitIB{K:Frag}:kitOne K (.type "int") (.type "bool")=some false:=by kernel_rfl
theorem Qmd:("\n":Str)=⟨#[10]⟩:=by decide +kernel
theorem QdZ{a:z8}{s t b:Str}{d:Int}{an:Str}{H:Hp}{R:VK}{E:XK}{x dx:Addr}(hx:H x=none)(hd:H dx=none)(ne:dx≠x)(g:V1 s t b d an)(k:∀H',Qo H H'->Jn a H' x s t b d an->R .non H') :
 Qdz a [.ref x,.str s,.str t,.str b,.int d,.str an] (upd (upd H dx (.own x)) x (.ins a.ji dx [])) R E:=by
 refine⟨x,dx,s,t,b,d,an,rfl,g,Qc,fun H' hs hx'=>k H' (fun c o e=>hs c o (Qb e hx) ?_) (.inl ⟨dx,hx'⟩)⟩
 rw[Qa (Qb e hx),Qa (Qb e hd)]
 exact e
section
variable {P:Program}{w:World}{K:Frag}{mg:Str->Option Value}{base:Heap}{a:z8}
theorem QdU{fd:FuncData}(F:jn K "is_text" "is_text" Wd a.QmX fd)(T:Txt K mg a):QO P w K mg base xN 1 a.QmX fd ["thing","most"] QhB:=by
 refine F.ok QdI (fun _ _ _ _ h=>by cases h;subst_vars;rfl) (fun cdv A outer s H vs Q E hr h=>?_)
 .obtain⟨x,m,rfl,hx,k⟩:=h
  refine⟨_,(Qf (QJ (U3 (QC ZV rfl T.jg boot_isinstance (zr (pv 0) (zr (YX (v:=.ty "str") rfl T.Qqo boot_str rfl) Qe))) (U0 (YW Qcw (QC Yp rfl T.QlO jN (zr (pv 0) Qe)) (pv 1)))))),?_⟩
  exact⟨_,rfl,_,_,_,_,_,rfl,rfl,Y6.str x,Qfk,_,rfl,Zi ⟨_,rfl,x,rfl,Zg (hx),_,rfl,_,_,rfl,rfl,k⟩⟩
theorem QcA{fd:FuncData}(F:jn K "is_whole" "is_whole" Vh a.u9 fd)(T:Txt K mg a):QO P w K mg base xN 1 a.u9 fd ["thing"] QjN:=by
 refine F.ok Qcf (fun _ _ _ _ h=>by cases h;subst_vars;rfl) (fun cdv A outer s H vs Q E hr h=>?_)
 .obtain⟨x,rfl,k⟩:=h
  refine⟨_,(Qf (QJ (U3 (QC ZV rfl T.jg boot_isinstance (zr (pv 0) (zr (YX (v:=.ty "int") rfl T.QtA boot_int rfl) Qe))) (U0 (Ql0 (QC ZV rfl T.jg boot_isinstance (zr (pv 0) (zr (YX (v:=.ty "bool") rfl T.QvJ PyProof.Rows.boot_bool rfl) Qe)))))))),?_⟩
  exact⟨_,rfl,_,_,_,_,_,rfl,rfl,Y6.int x,kitII,_,rfl,Zi ⟨_,rfl,_,_,_,_,_,rfl,rfl,Y6.int x,kitIB,_,rfl,k⟩⟩
theorem KP{fd:FuncData}(F:jn K "is_answered" "is_answered" Yg a.wH fd)(T:Txt K mg a)(FF:ZE K a):QO P w K mg base xN 3 a.wH fd ["thing"] QdA:=by
 obtain⟨fdA,vC,Qoa⟩:=FF.vC
 have Qom:=@QaI P w K mg base a _ vC T FF
 refine F.ok KA (fun _ _ _ _ h=>by cases h;subst_vars;rfl) (fun cdv A outer s H vs Q E hr h=>?_)
 .obtain⟨x,rfl,hx,k⟩:=h
  have Qnn:QB 2 _:=hr
  refine⟨_,(Qf (QJ (pe_or (Qj Qom Qnn rfl T.Qqk vC.kp Qoa .nil Ql (zr (pv 0) Qe)) (U0 (U3 (QC ZV rfl T.jg boot_isinstance (zr (pv 0) (zr (YX (v:=.ty "str") rfl T.Qqo boot_str rfl) Qe))) (U0 (YW Yb (pv 0) Qp))))))),?_⟩
  rcases hx with rfl | hx
  .refine⟨_,rfl,.inl ⟨_,rfl,by rw[Qa0];omega,fun H' s'=>?_⟩⟩
   rw[QgL]
   refine⟨_,rfl,Q4 ⟨_,rfl,_,_,_,_,_,rfl,rfl,Y6.str _,Qfk,_,rfl,Zi ⟨_,rfl,rfl,?_⟩⟩⟩
   rw[qp rfl]
   exact k H' s'
  .have:=hx.hi
   refine⟨_,rfl,.inl ⟨_,rfl,by omega,fun H' s'=>?_⟩⟩
   rw[QiY hx]
   exact⟨_,rfl,Zi (k H' s')⟩
theorem Qir{fd:FuncData}(F:jn K "check_parts" "check_parts" Yh a.wI fd)(T:Txt K mg a)(FF:ZE K a):QO P w K mg base xN 4 a.wI fd ["sender","title","body","day","answers"] Qj0:=by
 obtain⟨fdA,vC,Qoa⟩:=FF.vC
 have Qom:=@QaI P w K mg base a _ vC T FF
 obtain⟨fdB,uM,Qqq⟩:=FF.uM
 have Qqs:=@QdU P w K mg base a _ uM T
 obtain⟨fdC,Qj5,Qsa⟩:=FF.Qj5
 have Qsf:=@QcA P w K mg base a _ Qj5 T
 obtain⟨fdD,wN,QpT⟩:=FF.wN
 have Qp1:=@KP P w K mg base a _ wN T FF
 refine F.ok KC (fun _ _ _ _ h=>by cases h;subst_vars;rfl) (fun cdv A outer s H vs Q E hr h=>?_)
 .obtain⟨s,t,b,d,an,rfl,g,k⟩:=h
  have Qnn:QB 2 _:=hr.mono (by decide)
  have Qo6:QB 1 _:=hr.mono (by decide)
  have Qrq:QB 1 _:=hr.mono (by decide)
  have Qo7:QB 3 _:=hr
  refine⟨_,(Qd (QZ (Jw (Jf (Qj Qom Qnn rfl T.Qqk vC.kp Qoa .nil Ql (zr (pv 0) Qe)))) (Qf JX) QD)
   (Qd (QZ (PW.pt (Xr (Jw (Jf (Qj Qqs Qo6 rfl T.Qql uM.kp Qqq .nil Ql (zr (pv 1) (zr (UI rfl T.QqI) Qe))))) (UY (QL WW Qp (pv 1) (by with_unfolding_all rfl))))) (Qf JX) QD)
   (Qd (QZ (Jw (Jf (Qj Qqs Qo6 rfl T.Qql uM.kp Qqq .nil Ql (zr (pv 2) (zr (UI rfl T.Qrt) Qe))))) (Qf JX) QD)
   (Qd (QZ (PW.pt (Xr (Jw (Jf (Qj Qsf Qrq rfl T.Qr4 Qj5.kp Qsa .nil Ql (zr (pv 3) Qe)))) (UY (Jw (QhX Qcw Qcw Qi (pv 3) (UI rfl T.Qr5)))))) (Qf JX) QD)
   (Qf (QZ (Jw (Jf (Qj Qp1 Qo7 rfl T.QpR wN.kp QpT .nil Ql (zr (pv 4) Qe)))) (Qf JX) QD)))))),?_⟩
  have hs:=g.s_.hi
  refine⟨_,rfl,.inl ⟨s,rfl,by omega,fun H1 s1=>?_⟩⟩
  rw[QiY g.s_]
  refine⟨_,rfl,Q4 ?_⟩
  refine⟨_,rfl,t,60,rfl,by have:=g.tl;omega,?_⟩
  rw[qp (by have:=g.tl;omega)]
  refine⟨_,rfl,Q4 ⟨_,rfl,_,_,rfl,rfl,_,rfl,?_⟩⟩
  rw[Qmd,StrLaws.found_one,qF g.tn]
  refine Q4 ⟨_,rfl,b,400,rfl,by have:=g.bl;omega,?_⟩
  rw[qp (by have:=g.bl;omega)]
  refine⟨_,rfl,Q4 ⟨_,rfl,d,rfl,_,rfl,Q4 ?_⟩⟩
  refine⟨_,rfl,_,_,rfl,rfl,_,rfl,?_⟩
  rw[qp g.d0]
  refine Zi ⟨_,_,rfl,rfl,_,rfl,?_⟩
  rw[qp g.d1]
  refine Q4 ⟨_,rfl,an,rfl,g.a_,fun H2 s2=>⟨_,rfl,Q4 (k H2 (s1.trans s2))⟩⟩
end
section
variable {P:Program}{w:World}{K:Frag}{mg:Str->Option Value}{base:Heap}{a:z8}
theorem Qfg{fd:FuncData}(F:WB K "__init__" "Letter.__init__" Yk a.wL fd)(T:Txt K mg a)(FF:ZE K a):QO P w K mg base xN 5 a.wL fd ["self","sender","title","body","day","answers"] (Qdz a):=by
 obtain⟨fdA,wO,QpU⟩:=FF.wO
 have Qp2:=@Qir P w K mg base a _ wO T FF
 refine F.ok KG (fun _ _ _ _ h=>by cases h;subst_vars;rfl) (fun cdv A outer s H vs Q E hr h=>?_)
 .obtain⟨x,dx,s,t,b,d,an,rfl,g,hx,k⟩:=h
  have Qo8:QB 4 _:=hr
  refine⟨_,(Qd (Qs (Qj Qp2 Qo8 rfl T.QpS wO.kp QpU .nil Ql (zr (pv 1) (zr (pv 2) (zr (pv 3) (zr (pv 4) (zr (pv 5) Qe)))))))
   (Qd (Zo (pv 0) (pv 1) rfl)
   (Qd (Zo (pv 0) (pv 2) rfl)
   (Qd (Zo (pv 0) (pv 3) rfl)
   (Qd (Zo (pv 0) (pv 4) rfl)
   (Qd (Zo (pv 0) (pv 5) rfl)
   (Qf (Zo (pv 0) VQ rfl)))))))),?_⟩
  refine⟨_,rfl,_,rfl,_,rfl,_,rfl,_,rfl,s,t,b,d,an,rfl,g,fun H1 s1=>?_⟩
  refine⟨_,rfl,_,rfl,x,_,dx,_,rfl,s1 _ _ hx,T.zW,T.gk,by decide,?_⟩
  refine⟨_,rfl,_,rfl,x,_,dx,_,rfl,Qc,T.zW,T.vN,(by show 1<1000;decide),?_⟩
  refine⟨_,rfl,_,rfl,x,_,dx,_,rfl,Qc,T.zW,T.wF,(by show 2<1000;decide),?_⟩
  refine⟨_,rfl,_,rfl,x,_,dx,_,rfl,Qc,T.zW,T.uT,(by show 3<1000;decide),?_⟩
  refine⟨_,rfl,_,rfl,x,_,dx,_,rfl,Qc,T.zW,T.xO,(by show 4<1000;decide),?_⟩
  refine⟨_,rfl,x,_,dx,_,rfl,Qc,T.zW,T.jU,(by show 5<1000;decide),?_⟩
  refine k _ (fun c o ne e=>?_) ?_
  .rw[Qa ne,Qa ne,Qa ne,Qa ne,Qa ne,Qa ne]
   exact s1 _ _ e
  .exact Qc
theorem Qij{fd:FuncData}(F:jn K "parts" "Letter.parts" JN a.vU fd)(T:Txt K mg a):QO P w K mg base xN 1 a.vU fd ["self"] (QjT a):=by
 refine F.ok XH (fun _ _ _ _ h=>by cases h;subst_vars;rfl) (fun cdv A outer s H vs Q E hr h=>?_)
 .obtain⟨x,s,t,b,d,an,rfl,hL,k⟩:=h
  obtain⟨dx,f,hx⟩:=hL.at
  refine⟨_,(Qf (QJ (Qbm (Qg (Qk (pv 0) rfl) (Qg (Qk (pv 0) rfl) (Qg (Qk (pv 0) rfl) (Qg (Qk (pv 0) rfl) (Qg (Qk (pv 0) rfl) Qz)))))))),?_⟩
  exact⟨_,rfl,x,_,dx,_,_,rfl,hx,T.zW,T.gk,rfl,_,rfl,x,_,dx,_,_,rfl,hx,T.zW,T.vN,rfl,_,rfl,x,_,dx,_,_,rfl,hx,T.zW,T.wF,rfl,_,rfl,x,_,dx,_,_,rfl,hx,T.zW,T.uT,rfl,_,rfl,x,_,dx,_,_,rfl,hx,T.zW,T.xO,rfl,Qg4,k⟩
end
section
variable {P:Program}{w:World}{K:Frag}{mg:Str->Option Value}{base:Heap}{a:z8}
end
section
variable {P:Program}{w:World}{K:Frag}{mg:Str->Option Value}{base:Heap}{a:z8}
end
abbrev cfs(y:Addr)(fo:Str)(g:Addr):List (Str×V):=[("letter",.ref y),("box",.str fo),("signs",.ref g)]
def Qeu(a:z8)(H:Hp)(x g:Addr)(s t b:Str)(d:Int)(an fo:Str)(ms:QvX):Prop:=(∃dx y,H x=some (.ins a.gm dx (cfs y fo g))/\Jn a H y s t b d an)/\H g=some (.lst (ms.map V.str))
def Wz(H:Hp)(m:V)(ss:QvX):Prop:=(m=.non/\ss=[])\/∃p,m=.ref p/\(H p=some (.lst (ss.map V.str))\/H p=some (.tup (ss.map V.str)))
theorem Wz.mono{H H':Hp}{m:V}{ss:QvX}(h:Wz H m ss)(q:Qo H H'):Wz H' m ss:=by
 rcases h with h | ⟨p,e,h | h⟩
 .exact .inl h
 .exact .inr ⟨p,e,.inl (q _ _ h)⟩
 .exact .inr ⟨p,e,.inr (q _ _ h)⟩
def QlF(a:z8):Sp:=fun vs H Q _=>∃x s t b d an,vs=[.ref x]/\Jn a H x s t b d an/\V1 s t b d an/\∀y H',H y=none->Qo H H'->Jn a H' y s t b d an->Q (.ref y) H'
def QeN(a:z8):Sp:=fun vs H Q _=>∃x dx lt fo m s t b d an ss,vs=[.ref x,.ref lt,.str fo,m]/\H x=some (.ins a.gm dx [])/\Jn a H lt s t b d an/\V1 s t b d an/\Wz H m ss/\ss.length<=60 /\
 ∀H' g,(∀c o,c≠x->H c=some o->H' c=some o)->H g=none->Qeu a H' x g s t b d an fo (SS ss)->Q .non H'
theorem QiB{a:z8}{s t b:Str}{d:Int}{an fo:Str}{m:V}{ss:QvX}{H:Hp}{R:VK}{E:XK}{x dx lt:Addr}(hx:H x=none)(hd:H dx=none)(ne:dx≠x)(hl:Jn a H lt s t b d an)(gd:V1 s t b d an)(hm:Wz H m ss)(hz:ss.length<=60)
 (k:∀H' g,Qo H H'->H g=none->Qeu a H' x g s t b d an fo (SS ss)->R .non H'):QeN a [.ref x,.ref lt,.str fo,m] (upd (upd H dx (.own x)) x (.ins a.gm dx [])) R E:=by
 have sm:Qo H (upd (upd H dx (.own x)) x (.ins a.gm dx [])):=fun c o e=>by rw[Qa (Qb e hx),Qa (Qb e hd)];exact e
 refine⟨x,dx,lt,fo,m,s,t,b,d,an,ss,rfl,Qc,hl.mono sm,gd,hm.mono sm,hz,fun H' g hs ng hc=>k H' g (fun c o e=>hs c o (Qb e hx) (sm _ _ e)) (sm.free ng) hc⟩
section
variable {P:Program}{w:World}{K:Frag}{mg:Str->Option Value}{base:Heap}{a:z8}
theorem Qkp{fd:FuncData}(F:jn K "twin" "Letter.twin" Yj a.wK fd)(T:Txt K mg a)(FF:ZE K a):QO P w K mg base xN 7 a.wK fd ["self"] (QlF a):=by
 obtain⟨fdA,Qsg,ux,_⟩:=FF.Qni
 have uy:=@Qfg P w K mg base a _ Qsg T FF
 refine F.ok UW (fun vs H Q E h=>?_) (fun cdv A outer s H vs Q E hr h=>?_)
 .obtain⟨x,s,t,b,d,an,rfl,_⟩:=h;rfl
 .obtain⟨x,s,t,b,d,an,rfl,hL,g,k⟩:=h
  have uX:QB 6 _:=hr
  obtain⟨dx,f,hx⟩:=hL.at
  refine⟨_,(Qd (Qy (i:=1) UW.nd rfl (Or.inl rfl) (Qbn T.Qro uy uX rfl T.Qqi ux .nil Ql (zr (Qk (pv 0) rfl) (zr (Qk (pv 0) rfl) (zr (Qk (pv 0) rfl) (zr (Qk (pv 0) rfl) (zr (Qk (pv 0) rfl) Qe)))))))
   (Qd (Zo (pv 1) (Qk (pv 0) rfl) rfl)
   (Qf (QJ (pv 1))))),?_⟩
  refine⟨_,rfl,x,_,dx,_,_,rfl,hx,T.zW,T.gk,rfl,_,rfl,x,_,dx,_,_,rfl,hx,T.zW,T.vN,rfl,_,rfl,x,_,dx,_,_,rfl,hx,T.zW,T.wF,rfl,_,rfl,x,_,dx,_,_,rfl,hx,T.zW,T.uT,rfl,_,rfl,x,_,dx,_,_,rfl,hx,T.zW,T.xO,rfl,fun y dy ny nd ne=>QdZ ny nd ne g fun H1 s1 hy=>⟨rfl,?_⟩⟩
  obtain⟨dy2,f2,ey⟩:=hy.at
  refine⟨_,rfl,x,_,dx,_,_,rfl,s1 _ _ hx,T.zW,T.jU,rfl,_,rfl,y,_,dy2,_,rfl,ey,T.zW,T.jU,(by show 6<1000;decide),?_⟩
  refine⟨_,rfl,k y _ ny (s1.uR ny) ?_⟩
  rcases hL with⟨dx',hx'⟩ | ⟨D,⟨dx',hx'⟩,hD⟩
  .have e:=hx.symm.trans hx'
   injection e with e
   injection e with _ _ e
   simp only[List.cons.injEq,Qsj,true_and,and_true] at e
   subst e
   exact .inl ⟨dy2,Qc⟩
  .have e:=hx.symm.trans hx'
   injection e with e
   injection e with _ _ e
   simp only[List.cons.injEq,Qsj,true_and,and_true] at e
   subst e
   exact .inr ⟨D,⟨dy2,Qc⟩,by rw[Qa (Qb hD ny)];exact s1 _ _ hD⟩
theorem Qiq{fd:FuncData}(F:WB K "__init__" "Card.__init__" Ux a.uf fd)(T:Txt K mg a)(FF:ZE K a):QO P w K mg base xN 8 a.uf fd ["self","letter","folder","marks"] (QeN a):=by
 obtain⟨fdA,uz,QpW⟩:=FF.uz
 have Qp4:=@Qkp P w K mg base a _ uz T FF
 refine F.ok Qbf (fun vs H Q E h=>?_) (fun cdv A outer st H vs Q E hr h=>?_)
 .obtain⟨x,dx,lt,fo,m,s,t,b,d,an,ss,rfl,_⟩:=h;rfl
 .obtain⟨x,dx,lt,fo,m,s,t,b,d,an,ss,rfl,hx,hl,gd,hm,hz,k⟩:=h
  have Qo9:QB 7 _:=hr
  refine⟨_,(Qd (Zo (pv 0) (Wn (pv 1) T.zW T.QpZ Qp4 Qo9 QpW .nil Ql) rfl)
   (Qd (Zo (pv 0) (pv 2) rfl)
   (Qf (Zo (pv 0) (KN (QL Qia (pv 3) VQ) (Qbo Qz) (QC (UK rfl) rfl T.QmL boot_sorted (zr (JI (XE rfl) rfl T.QuS boot_set (zr (pv 3) Qe)) Qe))) rfl)))),?_⟩
  obtain⟨dl,fl,el⟩:=hl.at
  refine⟨_,rfl,lt,dl,_,rfl,el,rfl,lt,s,t,b,d,an,rfl,hl,gd,fun y H1 ny s1 hy=>?_⟩
  have hx1:=s1 _ _ hx
  have xy:x≠y:=Qb hx ny
  refine⟨_,rfl,x,_,dx,_,rfl,hx1,T.Qnq,T.Qng,(by show 0<1000;decide),?_⟩
  refine⟨_,rfl,_,rfl,x,_,dx,_,rfl,Qc,T.Qnq,T.Qo2,(by show 1<1000;decide),?_⟩
  rw[XT]
  generalize hH2:upd H1 x (.ins a.gm dx (Qx "box" (.str fo) (Qx "letter" (.ref y) [])))=H2
  have kp2:∀c o,c≠x->H1 c=some o->H2 c=some o:=fun c o n e=>by rw[<-hH2,Qa n];exact e
  have hx2:H2 x=some (.ins a.gm dx [("letter",.ref y),("box",.str fo)]):=by rw[<-hH2];exact Qc
  have yx:y≠x:=xy.symm
  have hy2:Jn a H2 y s t b d an:=hy.other yx hx1 kp2
  have fin:∀(H3:Hp)(g:Addr)(ms:QvX),Qo H2 H3->H3 g=none->ms=SS ss ->
   ∃a_1 C dx_1 fs,V.ref x=.ref a_1/\(upd H3 g (.lst (ms.map V.str))) a_1=some (.ins C dx_1 fs)/\Cls K C/\Q5 K C "signs"/\fs.length<1000/\Q .non (upd (upd H3 g (.lst (ms.map V.str))) a_1 (.ins C dx_1 (Qx "signs" (.ref g) fs))):=by
   intro H3 g ms s3 ng hms
   have hx3:=s3 _ _ hx2
   have xg:x≠g:=Qb hx3 ng
   refine⟨x,_,dx,_,rfl,(by rw[Qa xg];exact hx3),T.Qnq,T.uU,(by show 2<1000;decide),?_⟩
   have ng2:H2 g=none:=s3.free ng
   have gH:H g=none:=by
    cases e:H g with
    | none=>rfl
    | some o=>rw[kp2 g o xg.symm (s1 _ _ e)] at ng2;cases ng2
   have hy3:Jn a (upd H3 g (.lst (ms.map V.str))) y s t b d an:=(hy2.mono s3).mono (Qo.z7 ng)
   refine k _ g (fun c o n e=>?_) gH ⟨⟨dx,y,Qc,?_⟩,?_⟩
   .have e3:=s3 _ _ (kp2 c o n (s1 _ _ e))
    rw[Qa n,Qa (Qb e3 ng)]
    exact e3
   .exact hy3.other yx (by rw[Qa xg];exact hx3) fun c o n e=>by rw[Qa n];exact e
   .rw[Qa xg.symm,Qc,hms]
  rcases hm with⟨rfl,rfl⟩ | ⟨p,rfl,hS⟩
  .refine⟨_,rfl,rfl,_,rfl,Zi ⟨zl_0,fun g ng=>⟨_,rfl,?_⟩⟩⟩
   obtain⟨p1,p2,p3,p4,q1,q2,q3,q4,q5,q6⟩:=fin H2 g [] (Qo.refl _) ng rfl
   exact⟨p1,p2,p3,p4,q1,q2,q3,q4,q5,q6⟩
  .have hS2:jH K H2 p (ss.map V.str)\/ye K H2 p (ss.map V.str):=by
    rcases hS with hS | hS
    .exact .inl (jH.of (kp2 _ _ (QX hS hx (fun z=>nomatch z)) (s1 _ _ hS)))
    .exact .inr (ye.of (kp2 _ _ (QX hS hx (fun z=>nomatch z)) (s1 _ _ hS)))
   refine⟨_,rfl,rfl,_,rfl,Q4 ⟨_,rfl,p,ss,rfl,hS2,by omega,fun l nl=>?_⟩⟩
   have s3:Qo H2 (upd H2 l (UE P w l (dd ss))):=Qo.z7 nl
   have hdl:=Qeo ss
   refine⟨l,dd ss,rfl,Qc,by omega,fun g ng=>⟨_,rfl,?_⟩⟩
   obtain⟨p1,p2,p3,p4,q1,q2,q3,q4,q5,q6⟩:=fin _ g (SS ss) s3 ng rfl
   exact⟨p1,p2,p3,p4,q1,q2,q3,q4,q5,q6⟩
end
def QbR:HO->Bool
 | .tup _=>true
 | _=>false
def rest(own:Addr->Nat)(i:Nat)(H:Hp):Hp:=fun c=>if own c=i then (match H c with | some (.tup xs)=>some (.tup xs) | _=>none) else H c
def grow(own:Addr->Nat)(i:Nat)(H:Hp):Addr->Nat:=fun c=>match H c with
 | none=>i
 | some _=>own c
theorem Qn{own:Addr->Nat}{i:Nat}{H:Hp}{c:Addr}{o:HO}(e:H c=some o):grow own i H c=own c:=by unfold grow;rw[e]
theorem Wt{own:Addr->Nat}{i:Nat}{H:Hp}{c:Addr}(e:H c=none):grow own i H c=i:=by unfold grow;rw[e]
theorem Uk{own:Addr->Nat}{i:Nat}{H:Hp}{c:Addr}(h:own c=i\/H c=none):grow own i H c=i:=by
 cases e:H c with
 | none=>exact Wt e
 | some o=>rw[Qn e];exact h.resolve_right (fun z=>by rw[e] at z;cases z)
def KpO(own:Addr->Nat)(i:Nat)(H H':Hp):Prop:=∀c o,H c=some o->(own c≠i\/QbR o=true)->H' c=some o
theorem KpO.of{own:Addr->Nat}{i:Nat}{H H':Hp}(s:Qo H H'):KpO own i H H':=fun c o e _=>s c o e
theorem KpO.tup{own:Addr->Nat}{i:Nat}{H H':Hp}(k:KpO own i H H'){c:Addr}{xs:List V}(e:H c=some (.tup xs)):H' c=some (.tup xs):=k c _ e (.inr rfl)
theorem KpO.rest{own:Addr->Nat}{i:Nat}{H H':Hp}(s:Qo (rest own i H) H'):KpO own i H H':=fun c o e h=>s c o (by
 unfold K53.rest
 by_cases z:own c=i
 .rw[qD z,e]
  cases o with
  | tup xs=>rfl
  | _=>exact absurd (h.resolve_left (fun y=>y z)) (by intro q;cases q)
 .rw[qy z];exact e)
theorem Qf6{own:Addr->Nat}{i:Nat}{H:Hp}{c:Addr}(h:rest own i H c=none):own c=i\/H c=none:=by
 unfold rest at h
 by_cases z:own c=i
 .exact .inl z
 .rw[qy z] at h;exact .inr h
theorem Qf7{own:Addr->Nat}{i:Nat}{H:Hp}{c:Addr}(z:own c=i)(h:∀xs,H c≠some (.tup xs)):rest own i H c=none:=by
 unfold rest
 rw[qD z]
 split
 .rename_i xs e;exact absurd e (h xs)
 .rfl
theorem QhI(own:Addr->Nat)(i:Nat)(H:Hp):Qo (rest own i H) H:=fun c o e=>by
 unfold rest at e
 by_cases z:own c=i
 .rw[qD z] at e
  split at e
  .rename_i xs q;rw[q];exact e
  .cases e
 .rw[qy z] at e;exact e
section
variable {a:z8}{own:Addr->Nat}{H H':Hp}{x:Addr}
def FoO(a:z8)(H:Hp)(own:Addr->Nat)(x:Addr)(bx:Rows)(mk:Str->QvX)(W M:QvX)(n:Nat):Prop:=∃F,FO a H x bx mk W M n F/\own x=0/\∀c∈F,own c=3
theorem FoO.step{bx:Rows}{mk:Str->QvX}{W M:QvX}{n j:Nat}(h:FoO a H own x bx mk W M n)(k:KpO own j H H')(hj:j≠3)(h0:j≠0):FoO a H' (grow own j H) x bx mk W M n:=by
 obtain⟨F,f,ox,oF⟩:=h
 obtain⟨dx,X1,T1,N1,ex⟩:=f.obj
 refine⟨F,f.keep fun c o hc e=>k c o e (.inl ?_),by rw[Qn ex];exact ox,fun c hc=>?_⟩
 .rcases hc with rfl | hc
  .rw[ox];exact fun z=>h0 z.symm
  .rw[oF c hc];exact fun z=>hj z.symm
 .obtain⟨kvs,e⟩:=f.kind hc
  rw[Qn e];exact oF c hc
theorem FoO.own'{bx bx':Rows}{mk mk':Str->QvX}{W M W' M':QvX}{n n':Nat}{F F':List Addr}(f:FO a H x bx mk W M n F)(ox:own x=0)(oF:∀c∈F,own c=3)(f':FO a H' x bx' mk' W' M' n' F')(k:KpF F H H')(hF:∀c∈F',c∈F\/H c=none):FoO a H' (grow own 3 H) x bx' mk' W' M' n'/\KpO own 3 H H':=by
 obtain⟨dx,X1,T1,N1,ex⟩:=f.obj
 refine⟨⟨F',f',by rw[Qn ex];exact ox,fun c hc=>Uk ((hF c hc).imp (oF c) id)⟩,fun c o e h=>k c o (fun hc=>?_) e⟩
 rcases h with h | h
 .exact h (oF c hc)
 .obtain⟨kvs,e2⟩:=f.kind hc
  rw[e] at e2;cases e2;cases h
def IxO(a:z8)(H:Hp)(own:Addr->Nat)(x:Addr)(R:NW)(W:QvX)(n:Nat):Prop:=∃F,IXs a H x R W n F/\own x=0/\∀c∈F,own c=2
theorem IXs.there{R:NW}{W:QvX}{n:Nat}{F:List Addr}(h:IXs a H x R W n F){c:Addr}(hc:c∈F):∃o,H c=some o/\QbR o=false:=by
 rcases h.kind hc with⟨kvs,e⟩ | ⟨xs,e⟩
 .exact⟨_,e,rfl⟩
 .exact⟨_,e,rfl⟩
theorem IxO.step{R:NW}{W:QvX}{n j:Nat}(h:IxO a H own x R W n)(k:KpO own j H H')(hj:j≠2)(h0:j≠0):IxO a H' (grow own j H) x R W n:=by
 obtain⟨F,f,ox,oF⟩:=h
 obtain⟨dx,E,B,ex⟩:=f.obj
 refine⟨F,f.keep fun c o hc e=>k c o e (.inl ?_),by rw[Qn ex];exact ox,fun c hc=>?_⟩
 .rcases hc with rfl | hc
  .rw[ox];exact fun z=>h0 z.symm
  .rw[oF c hc];exact fun z=>hj z.symm
 .obtain⟨o,e,_⟩:=f.there hc
  rw[Qn e];exact oF c hc
theorem IxO.own'{R R':NW}{W W':QvX}{n n':Nat}{F F':List Addr}(f:IXs a H x R W n F)(ox:own x=0)(oF:∀c∈F,own c=2)(f':IXs a H' x R' W' n' F')(k:KpF F H H')(hF:∀c∈F',c∈F\/H c=none):IxO a H' (grow own 2 H) x R' W' n'/\KpO own 2 H H':=by
 obtain⟨dx,E,B,ex⟩:=f.obj
 refine⟨⟨F',f',by rw[Qn ex];exact ox,fun c hc=>Uk ((hF c hc).imp (oF c) id)⟩,fun c o e h=>k c o (fun hc=>?_) e⟩
 rcases h with h | h
 .exact h (oF c hc)
 .obtain⟨o2,e2,q⟩:=f.there hc
  rw[e] at e2;cases e2;rw[q] at h;cases h
def thF(L R:Addr)(kr:List (Key×V))(c:Addr):Prop:=c=L\/c=R\/∃t:Str,Qt kr (Sum.inr t)=some (.ref c)
theorem TH.kind{dx L R:Addr}{rows:Rows}{kr:List (Key×V)}(h:TH a H x dx L R rows kr){c:Addr}(hc:thF L R kr c):∃kvs,H c=some (.dK kvs):=by
 rcases hc with rfl | rfl | ⟨t,e⟩
 .exact⟨_,h.lk⟩
 .exact⟨_,h.rp⟩
 .obtain⟨d,e1,e2,_⟩:=h.QmI t _ e
  cases e1
  exact⟨_,e2⟩
theorem TH.keep{dx L R:Addr}{rows:Rows}{kr:List (Key×V)}(h:TH a H x dx L R rows kr)(k:∀c o,(c=x\/thF L R kr c)->H c=some o->H' c=some o):TH a H' x dx L R rows kr :=
 ⟨k _ _ (.inl rfl) h.obj,k _ _ (.inr (.inl rfl)) h.lk,k _ _ (.inr (.inr (.inl rfl))) h.rp,h.lr,h.nd,h.few,h.Qup,fun t v e=>let ⟨d,e1,e2,e3⟩:=h.QmI t v e;⟨d,e1,k _ _ (.inr (.inr (.inr ⟨t,by rw[e,e1]⟩))) e2,e3⟩,h.no_,h.e_,h.inj⟩
def ThO(a:z8)(H:Hp)(own:Addr->Nat)(x:Addr)(rows:Rows)(n:Nat):Prop:=∃dx L R kr,TH a H x dx L R rows kr/\rows.length<=n/\kr.length<=n/\own x=0/\∀c,thF L R kr c->own c=1
theorem ThO.step{rows:Rows}{n j:Nat}(h:ThO a H own x rows n)(k:KpO own j H H')(hj:j≠1)(h0:j≠0):ThO a H' (grow own j H) x rows n:=by
 obtain⟨dx,L,R,kr,th,h1,h2,ox,oF⟩:=h
 refine⟨dx,L,R,kr,th.keep fun c o hc e=>k c o e (.inl ?_),h1,h2,by rw[Qn th.obj];exact ox,fun c hc=>?_⟩
 .rcases hc with rfl | hc
  .rw[ox];exact fun z=>h0 z.symm
  .rw[oF c hc];exact fun z=>hj z.symm
 .obtain⟨kvs,e⟩:=th.kind hc
  rw[Qn e];exact oF c hc
theorem ThO.thf{rows:Rows}{n:Nat}(h:ThO a H own x rows n):THf a (rest own 1 H) H x rows n:=by
 obtain⟨dx,L,R,kr,th,h1,h2,ox,oF⟩:=h
 have q:∀c,thF L R kr c->rest own 1 H c=none:=fun c hc=>Qf7 (oF c hc) fun xs z=>by obtain⟨kvs,e⟩:=th.kind hc;rw[e] at z;cases z
 exact⟨dx,L,R,kr,th,h1,h2,⟨q L (.inl rfl),q R (.inr (.inl rfl)),fun t d e=>q d (.inr (.inr ⟨t,e⟩))⟩,QhI _ _ _⟩
theorem ThO.of{rows:Rows}{n:Nat}(ox:own x=0)(hx:∃o,H x=some o)(h:THf a (rest own 1 H) H' x rows n):ThO a H' (grow own 1 H) x rows n/\KpO own 1 H H':=by
 obtain⟨dx,L,R,kr,th,h1,h2,oo,s⟩:=h
 obtain⟨o,ex⟩:=hx
 refine⟨⟨dx,L,R,kr,th,h1,h2,by rw[Qn ex];exact ox,fun c hc=>Uk (Qf6 ?_)⟩,KpO.rest s⟩
 rcases hc with rfl | rfl | ⟨t,e⟩
 .exact oo.hL
 .exact oo.hR
 .exact oo.hd t c e
end
section
variable {a:z8}{own:Addr->Nat}{H H':Hp}{x:Addr}
theorem Reg.keep{dx D:Addr}{kd:List (List Key×V)}{es:List Ent}(h:Reg a H x dx D kd es)(k:∀c o,(c=x\/FP D kd c)->H c=some o->H' c=some o)(kt:∀c xs,H c=some (.tup xs)->H' c=some (.tup xs)):Reg a H' x dx D kd es :=
 ⟨k _ _ (.inl rfl) h.obj,k _ _ (.inr (.inl rfl)) h.dr,fun f v e=>let ⟨d,kvs,e1,e2,e3,e4⟩:=h.QmI f v e;⟨d,kvs,e1,e2,k _ _ (.inr (.inr ⟨f,by rw[e,e1]⟩)) e3,e4.mono kt⟩,h.no_,h.inj,h.few⟩
def RgO(a:z8)(H:Hp)(own:Addr->Nat)(x:Addr)(es:List Ent):Prop:=∃dx D kd,Reg a H x dx D kd es/\own x=0/\∀c,FP D kd c->own c=4
theorem RgO.step{es:List Ent}{j:Nat}(h:RgO a H own x es)(k:KpO own j H H')(hj:j≠4)(h0:j≠0):RgO a H' (grow own j H) x es:=by
 obtain⟨dx,D,kd,r,ox,oF⟩:=h
 refine⟨dx,D,kd,r.keep (fun c o hc e=>k c o e (.inl ?_)) fun c xs e=>k.tup e,by rw[Qn r.obj];exact ox,fun c hc=>?_⟩
 .rcases hc with rfl | hc
  .rw[ox];exact fun z=>h0 z.symm
  .rw[oF c hc];exact fun z=>hj z.symm
 .obtain⟨kvs,e⟩:=r.fp hc
  rw[Qn e];exact oF c hc
theorem RgO.own'{dx D:Addr}{kd kd':List (List Key×V)}{es es':List Ent}(r:Reg a H x dx D kd es)(ox:own x=0)(oF:∀c,FP D kd c->own c=4)(r':Reg a H' x dx D kd' es')(k:∀c o,H c=some o->¬FP D kd c->H' c=some o)(hF:∀c,FP D kd' c->FP D kd c\/H c=none):RgO a H' (grow own 4 H) x es'/\KpO own 4 H H':=by
 refine⟨⟨dx,D,kd',r',by rw[Qn r.obj];exact ox,fun c hc=>Uk ((hF c hc).imp (oF c) id)⟩,fun c o e h=>k c o e (fun hc=>?_)⟩
 rcases h with h | h
 .exact h (oF c hc)
 .obtain⟨kvs,e2⟩:=r.fp hc
  rw[e] at e2;cases e2;cases h
end
structure LD where
 s:Str
 t:Str
 b:Str
 d:Int
 an:Str
structure LE where
 nm:Str
 y:Addr
 p:LD
def LtO(a:z8)(H:Hp)(own:Addr->Nat)(y:Addr)(p:LD):Prop:=own y=6/\((∃dx,H y=some (.ins a.ji dx (lfs p.s p.t p.b p.d p.an .non)))\/∃D,Qds a H y p.s p.t p.b p.d p.an D/\own D=6)
theorem LtO.let{a:z8}{H:Hp}{own:Addr->Nat}{y:Addr}{p:LD}(h:LtO a H own y p):Jn a H y p.s p.t p.b p.d p.an:=h.2.imp id fun⟨D,e,_⟩=>⟨D,e⟩
theorem LtO.there{a:z8}{H:Hp}{own:Addr->Nat}{y:Addr}{p:LD}(h:LtO a H own y p):∃o,H y=some o:=by
 obtain⟨dx,f,e⟩:=h.let.at
 exact⟨_,e⟩
theorem LtO.step{a:z8}{H H':Hp}{own:Addr->Nat}{y:Addr}{p:LD}{j:Nat}(h:LtO a H own y p)(k:KpO own j H H')(hj:j≠6):LtO a H' (grow own j H) y p:=by
 obtain⟨oy,h⟩:=h
 rcases h with⟨dx,e⟩ | ⟨D,⟨⟨dx,e⟩,eD⟩,oD⟩
 .exact⟨by rw[Qn e];exact oy,.inl ⟨dx,k _ _ e (.inl (by rw[oy];exact fun z=>hj z.symm))⟩⟩
 .exact⟨by rw[Qn e];exact oy,.inr ⟨D,⟨⟨dx,k _ _ e (.inl (by rw[oy];exact fun z=>hj z.symm))⟩,k _ _ eD (.inl (by rw[oD];exact fun z=>hj z.symm))⟩,by rw[Qn eD];exact oD⟩⟩
structure LsO(a:z8)(H:Hp)(own:Addr->Nat)(L:Addr)(ls:List LE):Prop where
 e:H L=some (.dK (dG LE.nm (fun l=>V.ref l.y) ls))
 o:own L=5
 nd:(ls.map LE.nm).Nodup
 na:(ls.map LE.y).Nodup
 at_:∀l∈ls,LtO a H own l.y l.p/\V1 l.p.s l.p.t l.p.b l.p.d l.p.an
theorem LsO.step{a:z8}{H H':Hp}{own:Addr->Nat}{L:Addr}{ls:List LE}{j:Nat}(h:LsO a H own L ls)(k:KpO own j H H')(hj:j≠5)(h6:j≠6):LsO a H' (grow own j H) L ls :=
 ⟨k _ _ h.e (.inl (by rw[h.o];exact fun z=>hj z.symm)),by rw[Qn h.e];exact h.o,h.nd,h.na,fun l hl=>⟨(h.at_ l hl).1.step k h6,(h.at_ l hl).2⟩⟩
abbrev bfs(xr L xt xi xf:Addr):List (Str×V):=[("facts",.ref xr),("letters",.ref L),("hung",.ref xt),("listed",.ref xi),("boxed",.ref xf)]
def lwd(p:LD):QvX:=SS (Y2 (uP p.t++uP p.b))
structure Brd(a:z8)(H:Hp)(own:Addr->Nat)(b db xr L xt xi xf:Addr)(es:List Ent)(ls:List LE)(bx:Rows)(mk:Str->QvX)(WI W M:QvX)(n:Nat):Prop where
 e:H b=some (.ins a.zT db (bfs xr L xt xi xf))
 o:own b=0
 r:RgO a H own xr es
 l:LsO a H own L ls
 t:ThO a H own xt (ls.map fun l=>(l.nm,l.p.an)) n
 i:IxO a H own xi (ls.map fun l=>(l.nm,lwd l.p)) WI n
 f:FoO a H own xf bx mk W M n
theorem Brd.quiet{a:z8}{H H':Hp}{own:Addr->Nat}{b db xr L xt xi xf:Addr}{es:List Ent}{ls:List LE}{bx:Rows}{mk:Str->QvX}{WI W M:QvX}{n:Nat}(h:Brd a H own b db xr L xt xi xf es ls bx mk WI W M n)(s:Qo H H'):Brd a H' (grow own 7 H) b db xr L xt xi xf es ls bx mk WI W M n :=
 have k:KpO own 7 H H':=KpO.of s
 ⟨s _ _ h.e,by rw[Qn h.e];exact h.o,h.r.step k (by decide) (by decide),h.l.step k (by decide) (by decide),h.t.step k (by decide) (by decide),h.i.step k (by decide) (by decide),h.f.step k (by decide) (by decide)⟩
theorem Vn{H H':Hp}{y dy C:Addr}(ny:H y=none)(nd:H dy=none)(k:∀c o,c≠y->(upd (upd H dy (.own y)) y (.ins C dy [])) c=some o->H' c=some o):Qo H H':=fun c o e=>by
 have n1:=Qb e ny
 exact k c o n1 (by rw[Qa n1,Qa (Qb e nd)];exact e)
theorem W5{H:Hp}{y dy C c:Addr}(h:(upd (upd H dy (.own y)) y (.ins C dy [])) c=none):H c=none:=by
 by_cases z:c=y
 .rw[z,Qc] at h;cases h
 .rw[Qa z] at h
  by_cases z2:c=dy
  .rw[z2,Qc] at h;cases h
  .rw[Qa z2] at h;exact h
noncomputable def Wo(D L L2 R2:Addr)(Fi Ff:List Addr):Addr->Nat:=fun c=>if c=D then 4 else if c=L then 5 else if c=L2\/c=R2 then 1 else if c∈Fi then 2 else if c∈Ff then 3 else 0
inductive Qay(a:z8)(vs:List V)(H:Hp)(Q:VK):Prop
 | mk:∀(x dx:Addr)(mk:Str->QvX)(WI W M:QvX),vs=[.ref x]->WI.length<=20->W.length<=20->M.length<=20->H x=some (.ins a.zT dx [])->(∀H' own xr L xt xi xf,(∀c o,c≠x->H c=some o->H' c=some o)->(∀c o,c≠x->H c=some o->own c=0)->Brd a H' own x dx xr L xt xi xf [] [] [] mk WI W M 0->Q .non H')->Qay a vs H Q
def Qj3(a:z8):Sp:=fun vs H Q _=>Qay a vs H Q
section
variable {P:Program}{w:World}{K:Frag}{mg:Str->Option Value}{base:Heap}{a:z8}
theorem Qit{fd:FuncData}(F:jn K "__init__" "Board.__init__" YU a.gA fd)(T:Txt K mg a)(FF:ZE K a):QO P w K mg base xN 3 a.gA fd ["self"] (Qj3 a):=by
 obtain⟨fd1,F1,Qoc⟩:=FF.Qou
 have Qoo:=@Qig P w K mg base a _ F1 T
 obtain⟨fd2,F2,Qpe⟩:=FF.Qpy
 have Qpr:=@Qgf P w K mg base a _ F2 T
 obtain⟨fd3,F3,QqN⟩:=FF.QqX
 have QqU:=@Qil P w K mg base a _ F3 T
 obtain⟨fd4,F4,Qpj⟩:=FF.QpD
 have Qpw:=@Qip P w K mg base a _ F4 T
 refine F.ok GK (fun _ _ _ _ h=>by cases h;subst_vars;rfl) (fun cdv A outer st H vs Q E hr h=>?_)
 .obtain⟨x,dx,mk,WI,W,M,rfl,hWI,hW,hM,hx,k⟩:=h
  have hr2:QB 2 _:=hr
  refine⟨_,(Qd (Zo (pv 0) (U1 T.Qrn Qoo hr2 rfl T.QqF Qoc .nil Ql) rfl)
   (Qd (Zo (pv 0) Zv rfl)
   (Qd (Zo (pv 0) (U1 T.QsK Qpr hr2 rfl T.QrZ Qpe .nil Ql) rfl)
   (Qd (Zo (pv 0) (U1 T.Qug QqU hr2 rfl T.Qtn QqN .nil Ql) rfl)
   (Qf (Zo (pv 0) (U1 T.QsL Qpw hr2 rfl T.Qr0 Qpj .nil Ql) rfl)))))),?_⟩
  intro xr dr nxr ndr ner
  refine⟨xr,dr,rfl,Qc,fun D Ha nD rg ka=>⟨rfl,?_⟩⟩
  have sa:Qo H Ha:=Vn nxr ndr fun c o n e=>ka c o e n
  have hxa:=sa _ _ hx
  refine⟨_,rfl,x,_,dx,_,rfl,hxa,T.zL,T.yr,(by decide),?_⟩
  have hxb:(upd Ha x (.ins a.zT dx (Qx "facts" (.ref xr) []))) x=some (.ins a.zT dx (Qx "facts" (.ref xr) [])):=Qc
  have kb:SX x Ha (upd Ha x (.ins a.zT dx (Qx "facts" (.ref xr) []))):=fun c o n e=>by rw[Qa n];exact e
  generalize upd Ha x (.ins a.zT dx (Qx "facts" (.ref xr) []))=Hb at hxb kb
  intro L nL
  have sc:Qo Hb (upd Hb L (.dK [])):=Qo.z7 nL
  have eL:(upd Hb L (.dK [])) L=some (.dK []):=Qc
  generalize upd Hb L (.dK [])=Hc at sc eL
  have hxc:=sc _ _ hxb
  refine⟨_,rfl,x,_,dx,_,rfl,hxc,T.zL,T.jc,(by show 1<1000;decide),?_⟩
  have hxd:(upd Hc x (.ins a.zT dx (Qx "letters" (.ref L) (Qx "facts" (.ref xr) [])))) x=some (.ins a.zT dx (Qx "letters" (.ref L) (Qx "facts" (.ref xr) []))):=Qc
  have kd:SX x Hc (upd Hc x (.ins a.zT dx (Qx "letters" (.ref L) (Qx "facts" (.ref xr) [])))):=fun c o n e=>by rw[Qa n];exact e
  generalize upd Hc x (.ins a.zT dx (Qx "letters" (.ref L) (Qx "facts" (.ref xr) [])))=Hd at hxd kd
  intro xt dt nxt ndt net
  refine⟨Hd,xt,dt,rfl,Qc,fun c o e=>⟨(by rw[Qa (Qb e nxt),Qa (Qb e ndt)];exact e),Qb e nxt⟩,fun He ht=>⟨rfl,?_⟩⟩
  obtain⟨dxt,L2,R2,kr,th,hk0,hk1,oo,se⟩:=ht
  have hxe:=se _ _ hxd
  refine⟨_,rfl,x,_,dx,_,rfl,hxe,T.zL,T.uV,(by show 2<1000;decide),?_⟩
  have hxf:(upd He x (.ins a.zT dx (Qx "hung" (.ref xt) (Qx "letters" (.ref L) (Qx "facts" (.ref xr) []))))) x=some (.ins a.zT dx (Qx "hung" (.ref xt) (Qx "letters" (.ref L) (Qx "facts" (.ref xr) [])))):=Qc
  have kf:SX x He (upd He x (.ins a.zT dx (Qx "hung" (.ref xt) (Qx "letters" (.ref L) (Qx "facts" (.ref xr) []))))):=fun c o n e=>by rw[Qa n];exact e
  generalize upd He x (.ins a.zT dx (Qx "hung" (.ref xt) (Qx "letters" (.ref L) (Qx "facts" (.ref xr) []))))=Hf at hxf kf
  intro xi di nxi ndi nei
  refine⟨xi,di,WI,rfl,hWI,Qc,fun Hg Fi kg fi ix=>⟨rfl,?_⟩⟩
  have sg:Qo Hf Hg:=Vn nxi ndi kg
  have hxg:=sg _ _ hxf
  refine⟨_,rfl,x,_,dx,_,rfl,hxg,T.zL,T.gM,(by show 3<1000;decide),?_⟩
  have hxh:(upd Hg x (.ins a.zT dx (Qx "listed" (.ref xi) (Qx "hung" (.ref xt) (Qx "letters" (.ref L) (Qx "facts" (.ref xr) [])))))) x=some (.ins a.zT dx (Qx "listed" (.ref xi) (Qx "hung" (.ref xt) (Qx "letters" (.ref L) (Qx "facts" (.ref xr) []))))):=Qc
  have kh:SX x Hg (upd Hg x (.ins a.zT dx (Qx "listed" (.ref xi) (Qx "hung" (.ref xt) (Qx "letters" (.ref L) (Qx "facts" (.ref xr) [])))))):=fun c o n e=>by rw[Qa n];exact e
  generalize upd Hg x (.ins a.zT dx (Qx "listed" (.ref xi) (Qx "hung" (.ref xt) (Qx "letters" (.ref L) (Qx "facts" (.ref xr) [])))))=Hh at hxh kh
  intro xf df nxf ndf nef
  refine⟨xf,df,mk,W,M,rfl,hW,hM,Qc,fun Hi Ff ki fF fo=>⟨rfl,?_⟩⟩
  have si:Qo Hh Hi:=Vn nxf ndf ki
  have hxi:=si _ _ hxh
  refine⟨_,rfl,x,_,dx,_,rfl,hxi,T.zL,T.j8,(by show 4<1000;decide),?_⟩
  have hxj:(upd Hi x (.ins a.zT dx (Qx "boxed" (.ref xf) (Qx "listed" (.ref xi) (Qx "hung" (.ref xt) (Qx "letters" (.ref L) (Qx "facts" (.ref xr) []))))))) x=some (.ins a.zT dx (bfs xr L xt xi xf)):=by
   rw[Qc]
   congr 2
  have kj:SX x Hi (upd Hi x (.ins a.zT dx (Qx "boxed" (.ref xf) (Qx "listed" (.ref xi) (Qx "hung" (.ref xt) (Qx "letters" (.ref L) (Qx "facts" (.ref xr) []))))))):=fun c o n e=>by rw[Qa n];exact e
  generalize upd Hi x (.ins a.zT dx (Qx "boxed" (.ref xf) (Qx "listed" (.ref xi) (Qx "hung" (.ref xt) (Qx "letters" (.ref L) (Qx "facts" (.ref xr) []))))))=Hj at hxj kj
  have fj:SX x Hi Hj:=kj
  have fh:SX x Hg Hj:=fun c o n e=>fj c o n (si _ _ (kh c o n e))
  have ff:SX x He Hj:=fun c o n e=>fh c o n (sg _ _ (kf c o n e))
  have fd':SX x Hc Hj:=fun c o n e=>ff c o n (se _ _ (kd c o n e))
  have fa:SX x Ha Hj:=fun c o n e=>fd' c o n (sc _ _ (kb c o n e))
  have nx:∀{c:Addr},H c=none->c≠x:=fun h z=>by rw[z,hx] at h;cases h
  have dD:H D=none:=W5 nD
  have xa:∀{c:Addr},Ha c=none->H c=none:=fun{c} h=>by
   cases e:H c with
   | none=>rfl
   | some o=>rw[sa _ _ e] at h;cases h
  have up:∀{G G':Hp}{c:Addr},SX x G G'->c≠x->G' c=none->G c=none:=fun{G G' c} k n h=>by
   cases e:G c with
   | none=>rfl
   | some o=>rw[k c o n e] at h;cases h
  have nL':L≠x:=fun z=>by rw[z,hxb] at nL;cases nL
  have nL2:L2≠x:=fun z=>by have:=oo.hL;rw[z,hxd] at this;cases this
  have nR2:R2≠x:=fun z=>by have:=oo.hR;rw[z,hxd] at this;cases this
  have nFi:∀c∈Fi,Hf c=none:=fun c hc=>W5 (fi c hc)
  have nFf:∀c∈Ff,Hh c=none:=fun c hc=>W5 (fF c hc)
  have xFi:∀c∈Fi,c≠x:=fun c hc z=>by have:=nFi c hc;rw[z,hxf] at this;cases this
  have xFf:∀c∈Ff,c≠x:=fun c hc z=>by have:=nFf c hc;rw[z,hxh] at this;cases this
  have rgj:Reg a Hj xr dr D [] []:=rg.keep (fun c o hc e=>fa c o (by
   rcases hc with rfl | hc
   .exact nx nxr
   .rcases hc with rfl | ⟨f,z⟩
    .exact nx dD
    .cases z) e) fun c xs e=>fa c _ (fun z=>by rw[z,hxa] at e;cases e) e
  have kr0:kr=[]:=vf.mp (by omega)
  subst kr0
  have thj:TH a Hj xt dxt L2 R2 [] []:=th.keep fun c o hc e=>ff c o (by
   rcases hc with rfl | rfl | rfl | ⟨t,z⟩
   .exact fun z=>by rw[z,hxd] at nxt;cases nxt
   .exact nL2
   .exact nR2
   .cases z) e
  have ixj:IXs a Hj xi [] WI 0 Fi:=ix.keep fun c o hc e=>fh c o (by
   rcases hc with rfl | hc
   .exact fun z=>by rw[z,hxf] at nxi;cases nxi
   .exact xFi c hc) e
  have foj:FO a Hj xf [] mk W M 0 Ff:=fo.keep fun c o hc e=>fj c o (by
   rcases hc with rfl | hc
   .exact fun z=>by rw[z,hxh] at nxf;cases nxf
   .exact xFf c hc) e
  have eLj:Hj L=some (.dK []):=fd' L _ nL' eL
  have hLd:Hd L=some (.dK []):=kd L _ nL' eL
  have hLf:Hf L=some (.dK []):=kf L _ nL' (se _ _ hLd)
  have hLh:Hh L=some (.dK []):=kh L _ nL' (sg _ _ hLf)
  have h2f:Hf L2=some (.dK (QQ [])):=kf L2 _ nL2 th.lk
  have h3f:Hf R2=some (.dK []):=kf R2 _ nR2 th.rp
  have h2h:Hh L2=some (.dK (QQ [])):=kh L2 _ nL2 (sg _ _ h2f)
  have h3h:Hh R2=some (.dK []):=kh R2 _ nR2 (sg _ _ h3f)
  have hih:∀c∈Fi,∃o,Hh c=some o:=fun c hc=>by
   obtain⟨o,e,_⟩:=ix.there hc
   exact⟨o,kh c o (xFi c hc) e⟩
  have ne2:∀{G:Hp}{c d:Addr}{o:HO},G c=none->G d=some o->c≠d:=fun h1 h2 z=>by rw[z,h2] at h1;cases h1
  have o0:∀{c C d:Addr}{fs:List (Str×V)},Hj c=some (.ins C d fs)->Wo D L L2 R2 Fi Ff c=0:=fun{c C d fs} e=>by
   unfold Wo
   rw[qy (fun z=>by rw[z,rgj.dr] at e;cases e),qy (fun z=>by rw[z,eLj] at e;cases e),qy (fun z=>by
    rcases z with z | z
    .rw[z,thj.lk] at e;cases e
    .rw[z,thj.rp] at e;cases e),qy (fun z=>by
    rcases ixj.kind z with⟨kvs,q⟩ | ⟨xs,q⟩
    .rw[q] at e;cases e
    .rw[q] at e;cases e),qy (fun z=>by obtain⟨kvs,q⟩:=foj.kind z;rw[q] at e;cases e)]
  have oL:Wo D L L2 R2 Fi Ff L=5:=by
   unfold Wo
   rw[qy (fun z=>by have:=rgj.dr;rw[<-z,eLj] at this;cases this),qD rfl]
  have oT:∀c,(c=L2\/c=R2)->Wo D L L2 R2 Fi Ff c=1:=fun c hc=>by
   unfold Wo
   rw[qy (fun z=>by
    rcases hc with h | h
    .have:=thj.lk;rw[<-h,z,rgj.dr] at this;cases this
    .have:=thj.rp;rw[<-h,z,rgj.dr] at this;cases this),qy (fun z=>by
    rcases hc with h | h
    .exact ne2 oo.hL hLd (h.symm.trans z)
    .exact ne2 oo.hR hLd (h.symm.trans z)),qD hc]
  have oI:∀c∈Fi,Wo D L L2 R2 Fi Ff c=2:=fun c hc=>by
   unfold Wo
   rw[qy (fun z=>by
    rcases ixj.kind hc with⟨kvs,q⟩ | ⟨xs,q⟩
    .rw[z,rgj.dr] at q;cases q
    .rw[z,rgj.dr] at q;cases q),qy (ne2 (nFi c hc) hLf),qy (fun z=>z.elim (ne2 (nFi c hc) h2f) (ne2 (nFi c hc) h3f)),qD hc]
  have oF:∀c∈Ff,Wo D L L2 R2 Fi Ff c=3:=fun c hc=>by
   unfold Wo
   rw[qy (fun z=>by obtain⟨kvs,q⟩:=foj.kind hc;rw[z,rgj.dr] at q;cases q),qy (ne2 (nFf c hc) hLh),qy (fun z=>z.elim (ne2 (nFf c hc) h2h) (ne2 (nFf c hc) h3h)),qy (fun z=>by obtain⟨o,q⟩:=hih c z;exact ne2 (nFf c hc) q rfl),qD hc]
  obtain⟨di',E',B',ei⟩:=ixj.obj
  obtain⟨df',X1,T1,N1,ef⟩:=foj.obj
  have oz:∀c o,c≠x->H c=some o->Wo D L L2 R2 Fi Ff c=0:=fun c o n e=>by
   have A2:=kb c o n (sa _ _ e)
   have A4:=kd c o n (sc _ _ A2)
   have A6:=kf c o n (se _ _ A4)
   have A8:=kh c o n (sg _ _ A6)
   unfold Wo
   rw[qy (Qb e dD),qy (Qb A2 nL),qy (fun z=>z.elim (Qb A4 oo.hL) (Qb A4 oo.hR)),qy (fun z=>by have:=nFi c z;rw[A6] at this;cases this),qy (fun z=>by have:=nFf c z;rw[A8] at this;cases this)]
  refine k Hj (Wo D L L2 R2 Fi Ff) xr L xt xi xf (fun c o n e=>fa c o n (sa _ _ e)) oz ⟨hxj,o0 hxj,⟨dr,D,[],rgj,o0 rgj.obj,fun c hc=>?_⟩,⟨eLj,oL,zV,zV,fun l hl=>nomatch hl⟩,⟨dxt,L2,R2,[],thj,qt _,qt _,o0 thj.obj,fun c hc=>?_⟩,⟨Fi,ixj,o0 ei,oI⟩,⟨Ff,foj,o0 ef,oF⟩⟩
  .rcases hc with rfl | ⟨f,z⟩
   .unfold Wo;rw[qD rfl]
   .cases z
  .rcases hc with h | h | ⟨t,z⟩
   .exact oT c (.inl h)
   .exact oT c (.inr h)
   .cases z
end
structure KB(own own':Addr->Nat)(H H':Hp):Prop where
 k:∀c o,H c=some o->(own c=0\/7<=own c\/QbR o=true)->H' c=some o
 g:∀c o,H c=some o->(own c=0\/7<=own c\/QbR o=true)->own' c=own c
theorem KB.of{own:Addr->Nat}{H H':Hp}{j:Nat}(k:KpO own j H H')(h1:1<=j)(h2:j<=6):KB own (grow own j H) H H' :=
 ⟨fun c o e h=>k c o e (h.elim (fun z=>.inl (by omega)) fun h=>h.imp (fun z=>by omega) id),fun c o e _=>Qn e⟩
theorem KB.trans{own own' QuH:Addr->Nat}{H H' H'':Hp}(x:KB own own' H H')(y:KB own' QuH H' H''):KB own QuH H H'' :=
 ⟨fun c o e h=>y.k c o (x.k c o e h) (by rw[x.g c o e h];exact h),fun c o e h=>by rw[y.g c o (x.k c o e h) (by rw[x.g c o e h];exact h),x.g c o e h]⟩
theorem LsO.pop{a:z8}{H:Hp}{own:Addr->Nat}{L:Addr}{ls:List LE}(h:LsO a H own L ls)(nm:Str) :
 LsO a (upd H L (.dK (ZS (dG LE.nm (fun l=>V.ref l.y) ls) (Sum.inr nm)))) (grow own 5 H) L (ls.filter fun l=>decide (l.nm≠nm))/\KpO own 5 H (upd H L (.dK (ZS (dG LE.nm (fun l=>V.ref l.y) ls) (Sum.inr nm)))):=by
 have k:KpO own 5 H (upd H L (.dK (ZS (dG LE.nm (fun l=>V.ref l.y) ls) (Sum.inr nm)))):=fun c o e q=>by
  have n:c≠L:=fun z=>by
   rcases q with q | q
   .rw[z] at q;exact q h.o
   .rw[z,h.e] at e;cases e;cases q
  rw[Qa n];exact e
 refine⟨⟨by rw[Qc,UD],by rw[Qn h.e];exact h.o,(QnL ((jG).map _) h.nd),(QnL ((jG).map _) h.na),fun l hl=>?_⟩,k⟩
 have hl:=(qu.mp hl).1
 exact⟨(h.at_ l hl).1.step k (by decide),(h.at_ l hl).2⟩
theorem QcQ(ls:List LE)(nm:Str):L2.without (ls.map fun l=>(l.nm,l.p.an)) nm=(ls.filter fun l=>decide (l.nm≠nm)).map fun l=>(l.nm,l.p.an):=by
 unfold L2.without
 rw[yw]
 rfl
theorem Qkz(ls:List LE)(nm:Str):noN (ls.map fun l=>(l.nm,lwd l.p)) nm=(ls.filter fun l=>decide (l.nm≠nm)).map fun l=>(l.nm,lwd l.p):=by
 unfold noN
 rw[yw]
 rfl
inductive Qax(a:z8)(vs:List V)(H:Hp)(Q:VK):Prop
 | mk:∀(own:Addr->Nat)(b db xr L xt xi xf:Addr)(es:List Ent)(ls:List LE)(bx:Rows)(mk:Str->QvX)(WI W M:QvX)(n:Nat)(nm:Str),vs=[.ref b,.str nm]->Brd a H own b db xr L xt xi xf es ls bx mk WI W M n->nm∈ls.map LE.nm->nm∈bx.map (·.1) ->
    (∀H' own',Brd a H' own' b db xr L xt xi xf es (ls.filter fun l=>decide (l.nm≠nm)) (L2.without bx nm) mk WI W M n->KB own own' H H'->Q .non H')->Qax a vs H Q
def Qj2(a:z8):Sp:=fun vs H Q _=>Qax a vs H Q
section
variable {P:Program}{w:World}{K:Frag}{mg:Str->Option Value}{base:Heap}{a:z8}
theorem QcB{fd:FuncData}(F:jn K "take_out" "Board.take_out" Jd a.xZ fd)(T:Txt K mg a)(FF:ZE K a):QO P w K mg base xN 3 a.xZ fd ["self","name"] (Qj2 a):=by
 obtain⟨fd2,F2,Qnr⟩:=FF.QnA
 have Qnx:=@Qif P w K mg base a _ F2 T FF
 obtain⟨fd3,F3,Qod⟩:=FF.Qov
 have Qop:=@Qik P w K mg base a _ F3 T FF
 obtain⟨fd4,F4,Qns⟩:=FF.QnB
 have Qny:=@Qin P w K mg base a _ F4 T FF
 refine F.ok Wk (fun _ _ _ _ h=>by cases h;subst_vars;rfl) (fun cdv A outer st H vs Q E hr h=>?_)
 .obtain⟨own,b,db,xr,L,xt,xi,xf,es,ls,bx,mk,WI,W,M,n,nm,rfl,h,hl,hb,k⟩:=h
  have hr2:QB 2 _:=hr
  refine⟨_,(Qd (Qs (Z4 (Qk (pv 0) rfl) (pv 1) ⟨rfl,rfl,rfl,rfl⟩))
   (Qd (Qs (QT (Qk (pv 0) rfl) T.j9 T.Qnu Qnx hr2 Qnr .nil Ql (zr (pv 1) Qe)))
   (Qd (Qs (QT (Qk (pv 0) rfl) T.yC T.Qoi Qop hr2 Qod .nil Ql (zr (pv 1) Qe)))
   (Qf (Qs (QT (Qk (pv 0) rfl) T.zq T.Qnv Qny hr2 Qns .nil Ql (zr (pv 1) Qe))))))),?_⟩
  obtain⟨le,hle,rfl⟩:=qd.mp hl
  obtain⟨l1,k1⟩:=h.l.pop le.nm
  refine⟨_,rfl,b,_,db,_,_,rfl,h.e,T.zL,T.jc,rfl,L,rfl,.inl ⟨_,.inl h.l.e⟩,_,rfl,_,Sum.inr le.nm,_,h.l.e,rfl,Zq h.l.nd hle,?_⟩
  have b1:=k1 _ _ h.e (.inl (by rw[h.o];decide))
  have o1:grow own 5 H b=0:=by rw[Qn h.e];exact h.o
  have r1:=h.r.step k1 (by decide) (by decide)
  have t1:=h.t.step k1 (by decide) (by decide)
  have i1:=h.i.step k1 (by decide) (by decide)
  have f1:=h.f.step k1 (by decide) (by decide)
  show Ye _ _ _ _ (upd H L (.dK (ZS (dG LE.nm (fun l=>V.ref l.y) ls) (Sum.inr le.nm))))
  generalize upd H L (.dK (ZS (dG LE.nm (fun l=>V.ref l.y) ls) (Sum.inr le.nm)))=H1 at l1 k1 b1 r1 t1 i1 f1 ⊢
  have kb1:KB own (grow own 5 H) H H1:=KB.of k1 (by decide) (by decide)
  generalize grow own 5 H=ow1 at l1 o1 r1 t1 i1 f1 kb1
  obtain⟨dxt,L2,R2,krT,thT,_,_,oxt,_⟩:=id t1
  refine⟨_,rfl,b,_,db,_,_,rfl,b1,T.zL,T.uV,rfl,xt,dxt,_,rfl,thT.obj,rfl,_,rfl,rest ow1 1 H1,xt,_,n,le.nm,rfl,t1.thf,(by rw[zJ];exact qd.mpr ⟨le,hle,rfl⟩),fun H2 ht _=>?_⟩
  obtain⟨t2,k2⟩:=ThO.of oxt ⟨_,thT.obj⟩ ht
  rw[QcQ] at t2
  have b2:=k2 _ _ b1 (.inl (by rw[o1];decide))
  have o2:grow ow1 1 H1 b=0:=by rw[Qn b1];exact o1
  have r2:=r1.step k2 (by decide) (by decide)
  have l2:=l1.step k2 (by decide) (by decide)
  have i2:=i1.step k2 (by decide) (by decide)
  have f2:=f1.step k2 (by decide) (by decide)
  have kb2:=kb1.trans (KB.of k2 (by decide) (by decide))
  generalize grow ow1 1 H1=ow2 at t2 b2 o2 r2 l2 i2 f2 kb2
  obtain⟨Fi,ix,oxi,oFi⟩:=i2
  obtain⟨dxi,E1,B1,exi⟩:=ix.obj
  refine⟨_,rfl,b,_,db,_,_,rfl,b2,T.zL,T.gM,rfl,xi,dxi,_,rfl,exi,rfl,_,rfl,xi,_,WI,n,Fi,le.nm,rfl,ix,(by rw[zJ];exact qd.mpr ⟨le,hle,rfl⟩),fun H3 Fi' ix' kF hF=>?_⟩
  obtain⟨i3,k3⟩:=IxO.own' ix oxi oFi ix' kF (fun c hc=>.inl (hF c hc))
  rw[Qkz] at i3
  have b3:=k3 _ _ b2 (.inl (by rw[o2];decide))
  have o3:grow ow2 2 H2 b=0:=by rw[Qn b2];exact o2
  have r3:=r2.step k3 (by decide) (by decide)
  have l3:=l2.step k3 (by decide) (by decide)
  have t3:=t2.step k3 (by decide) (by decide)
  have f3:=f2.step k3 (by decide) (by decide)
  have kb3:=kb2.trans (KB.of k3 (by decide) (by decide))
  generalize grow ow2 2 H2=ow3 at t3 b3 o3 r3 l3 i3 f3 kb3
  obtain⟨Ff,fo,oxf,oFf⟩:=f3
  obtain⟨dxf,X1,T1,N1,exf⟩:=fo.obj
  refine⟨_,rfl,b,_,db,_,_,rfl,b3,T.zL,T.j8,rfl,xf,dxf,_,rfl,exf,rfl,_,rfl,xf,_,mk,W,M,n,Ff,le.nm,rfl,fo,hb,fun H4 Ff' fo' kG hG=>?_⟩
  obtain⟨f4,k4⟩:=FoO.own' fo oxf oFf fo' kG (fun c hc=>.inl (hG c hc))
  exact k H4 (grow ow3 3 H3) ⟨k4 _ _ b3 (.inl (by rw[o3];decide)),by rw[Qn b3];exact o3,r3.step k4 (by decide) (by decide),l3.step k4 (by decide) (by decide),t3.step k4 (by decide) (by decide),i3.step k4 (by decide) (by decide),f4⟩ (kb3.trans (KB.of k4 (by decide) (by decide)))
end
theorem skS{x y:Str}{A B:Prop}(h:decide (x=y)=false)(k:B):if decide (V.str x=V.str y)=true then A else B:=by
 rw[JF,h];exact Q4 k
theorem Qul{x:Str}{A B:Prop}(k:A):if decide (V.str x=V.str x)=true then A else B:=by
 rw[qp rfl];exact Zi k
inductive Dd where
 | put (nm:Str) (p:LD)
 | place (nm fo:Str)
 | mark (nm y:Str) (on:Bool)
 | drop (nm:Str)
def Dd.nm:Dd->Str
 | .put nm _=>nm
 | .place nm _=>nm
 | .mark nm _ _=>nm
 | .drop nm=>nm
inductive DAt(H:Hp)(q:Addr):Dd->Prop
 | put {nm:Str} {p:LD} {u:Addr}:H q=some (.tup [.str "put",.str nm,.ref u])->H u=some (.tup [.str p.s,.str p.t,.str p.b,.int p.d,.str p.an])->DAt H q (.put nm p)
 | place {nm fo:Str}:H q=some (.tup [.str "place",.str nm,.str fo])->DAt H q (.place nm fo)
 | mark {nm y:Str} {on:Bool}:H q=some (.tup [.str "mark",.str nm,.str y,.bl on])->DAt H q (.mark nm y on)
 | drop {nm:Str}:H q=some (.tup [.str "drop",.str nm])->DAt H q (.drop nm)
theorem DAt.tups{H H':Hp}{q:Addr}{d:Dd}(h:DAt H q d)(k:∀c xs,H c=some (.tup xs)->H' c=some (.tup xs)):DAt H' q d:=by
 cases h with
 | put e e2=>exact .put (k _ _ e) (k _ _ e2)
 | place e=>exact .place (k _ _ e)
 | mark e=>exact .mark (k _ _ e)
 | drop e=>exact .drop (k _ _ e)
def chL(ls:List LE):Dd->List LE
 | .drop nm=>ls.filter fun l=>decide (l.nm≠nm)
 | _=>ls
def chB(bx:Rows):Dd->Rows
 | .drop nm=>L2.without bx nm
 | .place nm fo=>L2.without bx nm++[(nm,fo)]
 | _=>bx
def chM(mk:Str->QvX):Dd->Str->QvX
 | .mark nm y true=>ZQ mk nm (Zy (mk nm) y)
 | .mark nm y false=>ZQ mk nm ((mk nm).filter fun z=>decide (z≠y))
 | _=>mk
def dOk(W M:QvX):Dd->Prop
 | .put _ _=>False
 | .place _ fo=>fo∈W
 | .mark _ y _=>y∈M
 | .drop _=>True
inductive QeQ(a:z8)(vs:List V)(H:Hp)(Q:VK):Prop
 | mk:∀(own:Addr->Nat)(b db xr L xt xi xf:Addr)(es:List Ent)(ls:List LE)(bx:Rows)(mk:Str->QvX)(WI W M:QvX)(n:Nat)(q:Addr)(d:Dd),vs=[.ref b,.ref q]->Brd a H own b db xr L xt xi xf es ls bx mk WI W M n->DAt H q d->dOk W M d->d.nm∈ls.map LE.nm->d.nm∈bx.map (·.1) ->
    (∀H' own',Brd a H' own' b db xr L xt xi xf es (chL ls d) (chB bx d) (chM mk d) WI W M n->KB own own' H H'->Q .non H')->QeQ a vs H Q
def spBCh(a:z8):Sp:=fun vs H Q _=>QeQ a vs H Q
section
variable {P:Program}{w:World}{K:Frag}{mg:Str->Option Value}{base:Heap}{a:z8}
theorem Brd.fold{H H':Hp}{own:Addr->Nat}{b db xr L xt xi xf:Addr}{es:List Ent}{ls:List LE}{bx bx':Rows}{mk mk':Str->QvX}{WI W M:QvX}{n:Nat}(h:Brd a H own b db xr L xt xi xf es ls bx mk WI W M n)(f:FoO a H' (grow own 3 H) xf bx' mk' W M n)(k:KpO own 3 H H'):Brd a H' (grow own 3 H) b db xr L xt xi xf es ls bx' mk' WI W M n :=
 ⟨k _ _ h.e (.inl (by rw[h.o];decide)),by rw[Qn h.e];exact h.o,h.r.step k (by decide) (by decide),h.l.step k (by decide) (by decide),h.t.step k (by decide) (by decide),h.i.step k (by decide) (by decide),f⟩
theorem Qmb{fd:FuncData}(F:jn K "change" "Board.change" JR a.vY fd)(T:Txt K mg a)(FF:ZE K a):QO P w K mg base xN 4 a.vY fd ["self","deed"] (spBCh a):=by
 obtain⟨fd1,F1,wB⟩:=FF.uO
 have wD:=@QcB P w K mg base a _ F1 T FF
 obtain⟨fd2,F2,QoI⟩:=FF.QoO
 have QoM:=@Qgl P w K mg base a _ F2 T FF
 obtain⟨fd3,F3,Qpi⟩:=FF.QpC
 have Qpv:=@Qio P w K mg base a _ F3 T FF
 obtain⟨fd4,F4,Qoe⟩:=FF.Qow
 have Qoq:=@QdV P w K mg base a _ F4 T FF
 refine F.ok UH (fun _ _ _ _ h=>by cases h;subst_vars;rfl) (fun cdv A outer st H vs Q E hr h=>?_)
 .obtain⟨own,b,db,xr,L,xt,xi,xf,es,ls,bx,mk,WI,W,M,n,q,d,rfl,h,hd,hk,hl,hb,k⟩:=h
  have hr3:QB 3 _:=hr
  have hr2:QB 2 _:=hr3.mono (by decide)
  refine⟨_,(Qd (Qy (i:=2) UH.nd rfl (Or.inl rfl) (Qr QN (pv 1) Qi))
   (Qf (QZ (QL Yb (Qr QN (pv 1) Qi) Qp) (Qf (Qs (QT (pv 0) T.zL T.uK wD hr3 wB .nil Ql (zr (pv 2) Qe)))) (Qf (QZ (QL Yb (Qr QN (pv 1) Qi) Qp) (Qf (Qs (QT (Qk (pv 0) rfl) T.zq T.QoK QoM hr2 QoI .nil Ql (zr (pv 2) (zr (Qr QN (pv 1) Qi) Qe))))) (Qf (QZ (Jf (Qr QN (pv 1) Qi)) (Qf (Qs (QT (Qk (pv 0) rfl) T.zq T.Qpo Qpv hr2 Qpi .nil Ql (zr (pv 2) (zr (Qr QN (pv 1) Qi) Qe))))) (Qf (Qs (QT (Qk (pv 0) rfl) T.zq T.Qoj Qoq hr2 Qoe .nil Ql (zr (pv 2) (zr (Qr QN (pv 1) Qi) Qe)))))))))))),?_⟩
  cases hd with
  | put e e2=>exact hk.elim
  | drop e =>
    refine⟨_,rfl,q,_,_,_,rfl,rfl,ye.of e,Qu (j:=1) rfl,?_⟩
    refine⟨_,rfl,q,_,_,_,rfl,rfl,ye.of e,Qu (j:=0) rfl,rfl,_,rfl,Qul ?_⟩
    exact⟨_,rfl,b,db,_,rfl,h.e,rfl,_,rfl,own,b,db,xr,L,xt,xi,xf,es,ls,bx,mk,WI,W,M,n,_,rfl,h,hl,hb,fun H' own' hB kB=>k H' own' hB kB⟩
  | place e =>
    obtain⟨Ff,fo,oxf,oFf⟩:=id h.f
    obtain⟨dxf,X1,T1,N1,exf⟩:=fo.obj
    refine⟨_,rfl,q,_,_,_,rfl,rfl,ye.of e,Qu (j:=1) rfl,?_⟩
    refine⟨_,rfl,q,_,_,_,rfl,rfl,ye.of e,Qu (j:=0) rfl,rfl,_,rfl,skS (by decide +kernel) ⟨_,rfl,q,_,_,_,rfl,rfl,ye.of e,Qu (j:=0) rfl,rfl,_,rfl,Qul ?_⟩⟩
    refine⟨_,rfl,b,_,db,_,_,rfl,h.e,T.zL,T.j8,rfl,xf,dxf,_,rfl,exf,rfl,_,rfl,_,rfl,q,_,_,_,rfl,rfl,ye.of e,Qu (j:=2) rfl,xf,_,mk,W,M,n,Ff,_,_,rfl,fo,hb,hk,fun H' Ff' fo' kG hG=>?_⟩
    obtain⟨f4,k4⟩:=FoO.own' fo oxf oFf fo' kG hG
    exact k H' _ (h.fold f4 k4) (KB.of k4 (by decide) (by decide))
  | mark e =>
    rename_i nm y on
    obtain⟨Ff,fo,oxf,oFf⟩:=id h.f
    obtain⟨dxf,X1,T1,N1,exf⟩:=fo.obj
    refine⟨_,rfl,q,_,_,_,rfl,rfl,ye.of e,Qu (j:=1) rfl,?_⟩
    refine⟨_,rfl,q,_,_,_,rfl,rfl,ye.of e,Qu (j:=0) rfl,rfl,_,rfl,skS (by decide +kernel) ⟨_,rfl,q,_,_,_,rfl,rfl,ye.of e,Qu (j:=0) rfl,rfl,_,rfl,skS (by decide +kernel) ?_⟩⟩
    refine⟨_,rfl,q,_,_,_,rfl,rfl,ye.of e,Qu (j:=3) rfl,_,rfl,?_⟩
    cases on with
    | true =>
      refine Zi ⟨_,rfl,b,_,db,_,_,rfl,h.e,T.zL,T.j8,rfl,xf,dxf,_,rfl,exf,rfl,_,rfl,_,rfl,q,_,_,_,rfl,rfl,ye.of e,Qu (j:=2) rfl,xf,_,mk,W,M,n,Ff,_,_,rfl,fo,hb,hk,fun H' fo' kG=>?_⟩
      obtain⟨f4,k4⟩:=FoO.own' fo oxf oFf fo' kG (fun c hc=>.inl hc)
      exact k H' _ (h.fold f4 k4) (KB.of k4 (by decide) (by decide))
    | false =>
      refine Q4 ⟨_,rfl,b,_,db,_,_,rfl,h.e,T.zL,T.j8,rfl,xf,dxf,_,rfl,exf,rfl,_,rfl,_,rfl,q,_,_,_,rfl,rfl,ye.of e,Qu (j:=2) rfl,xf,_,mk,W,M,n,Ff,_,_,rfl,fo,hb,fun H' fo' kG=>?_⟩
      obtain⟨f4,k4⟩:=FoO.own' fo oxf oFf fo' kG (fun c hc=>.inl hc)
      exact k H' _ (h.fold f4 k4) (KB.of k4 (by decide) (by decide))
end
inductive Qaz(a:z8)(vs:List V)(H:Hp)(Q:VK):Prop
 | mk:∀(own:Addr->Nat)(b db xr L xt xi xf:Addr)(es:List Ent)(ls:List LE)(bx:Rows)(mk:Str->QvX)(WI W M:QvX)(n:Nat)(l:LE)(fo:Str),vs=[.ref b,.str l.nm]->Brd a H own b db xr L xt xi xf es ls bx mk WI W M n->l∈ls->L2.up bx l.nm=some fo->l.nm∈bx.map (·.1) ->
    (∀y g H',H y=none->H g=none->Qo H H'->Qeu a H' y g l.p.s l.p.t l.p.b l.p.d l.p.an fo (SS (Q9 (mk l.nm)))->Q (.ref y) H')->Qaz a vs H Q
def Qj4(a:z8):Sp:=fun vs H Q _=>Qaz a vs H Q
section
variable {P:Program}{w:World}{K:Frag}{mg:Str->Option Value}{base:Heap}{a:z8}
theorem Qiv{fd:FuncData}(F:jn K "card" "Board.card" JW a.km fd)(T:Txt K mg a)(FF:ZE K a):QO P w K mg base xN 10 a.km fd ["self","name"] (Qj4 a):=by
 obtain⟨fd1,qK,zy⟩:=FF.qK
 have zA:=@Jy P w K mg base a _ qK T
 obtain⟨fd2,QmN,QrA,_⟩:=FF.QmN
 have QrH:=@Qiq P w K mg base a _ QmN T FF
 obtain⟨fd3,F3,Qof⟩:=FF.Qox
 have Qor:=@QdX P w K mg base a _ F3 T FF
 obtain⟨fd4,F4,QoJ⟩:=FF.QoP
 have QoN:=@Qgm P w K mg base a _ F4 T FF
 refine F.ok VE (fun _ _ _ _ h=>by cases h;subst_vars;rfl) (fun cdv A outer st H vs Q E hr h=>?_)
 .obtain⟨own,b,db,xr,L,xt,xi,xf,es,ls,bx,mk,WI,W,M,n,l,fo,rfl,h,hl,hfo,hb,k⟩:=h
  have hu:=Zr hr
  have hr9:QB 9 _:=hr
  have hr2:QB 2 _:=hr9.mono (by decide)
  have hr1:QB 1 _:=hr9.mono (by decide)
  refine⟨_,(Qd (Qs (Qj zA hr1 rfl T.jo qK.kp zy .nil Ql (zr (pv 1) (zr (Qk (pv 0) rfl) Qe))))
   (Qf (QJ (Qbn T.Qvv QrH hr9 rfl T.Qub QrA .nil Ql (zr (Qv hu (Qk (pv 0) rfl) (pv 1)) (zr (QT (Qk (pv 0) rfl) T.zq T.Qok Qor hr2 Qof .nil Ql (zr (pv 1) Qe)) (zr (QT (Qk (pv 0) rfl) T.zq T.QoL QoN hr2 QoJ .nil Ql (zr (pv 1) Qe)) Qe))))))),?_⟩
  have hv:=Zq (g:=fun l=>V.ref l.y) h.l.nd hl
  obtain⟨hlt,hg⟩:=h.l.at_ l hl
  obtain⟨Ff,ff,oxf,oFf⟩:=h.f
  obtain⟨dxf,X1,T1,N1,exf⟩:=ff.obj
  have hmk:=ff.QuJ hb
  refine⟨_,rfl,_,rfl,b,_,db,_,_,rfl,h.e,T.zL,T.jc,rfl,l.nm,L,_,_,rfl,h.l.e,hv,?_⟩
  refine⟨_,rfl,b,_,db,_,_,rfl,h.e,T.zL,T.jc,rfl,_,rfl,L,_,rfl,.inl ⟨_,Sum.inr l.nm,.inl h.l.e,rfl,hv.symm⟩,?_⟩
  refine⟨_,rfl,b,_,db,_,_,rfl,h.e,T.zL,T.j8,rfl,xf,dxf,_,rfl,exf,rfl,_,rfl,xf,bx,mk,W,M,n,Ff,l.nm,fo,rfl,ff,hfo,?_⟩
  refine⟨_,rfl,b,_,db,_,_,rfl,h.e,T.zL,T.j8,rfl,xf,dxf,_,rfl,exf,rfl,_,rfl,xf,bx,mk,W,M,n,Ff,l.nm,rfl,ff,hb,fun lm H1 nl s1 e1=>?_⟩
  exact fun y dy ny nd ne=>QiB ny nd ne (hlt.let.mono s1) hg (.inr ⟨lm,rfl,.inl e1⟩) (by rw[Yu];have:=hmk.2.2;omega) fun H2 g s2 ng hc=>⟨rfl,k y g H2 (s1.free ny) (s1.free ng) (s1.trans s2) hc⟩
end
def GT(es:List Ent)(k:QvX):Bool:=decide (k.getD 1 ""=("mark":Str)) && (match QA es k with | some e=>decide (e.2.2.2=V.bl true) | none=>false)
def Qfl(es:List Ent)(nm:Str):List (QvX):=(YH ((sel [nm] es).map (·.1))).map fun i=>((sel [nm] es).map (·.1)).getD i []
def U7(es:List Ent)(nm:Str):QvX:=((Qfl es nm).filter (GT es)).map fun k=>k.getD 2 ""
structure QvR(es:List Ent):Prop where
 ne:∀e∈es,e.1≠[]
 two:∀e∈es,2<=e.1.length
 mw:∀e∈es,e.1.getD 1 ""=("mark":Str)->(∃on,e.2.2.2=V.bl on)/\e.1.length=3
theorem QbQ{H:Hp}:∀{bs:List Addr}{ts:List (QvX)}(i:Nat),YM H bs ts->i<ts.length->H (bs.getD i 0)=some (.tup ((ts.getD i []).map V.str))
 | _,_,i,.nil,hi=>absurd hi (Nat.not_lt_zero _)
 | _,_,0,.cons e _ _,_=>e
 | _,_,i+1,.cons _ _ r,hi=>QbQ i r (yK hi)
theorem Qck:∀(bs:List Addr)(i:Nat),i<bs.length->(bs.map V.ref).getD i .non=V.ref (bs.getD i 0)
 | [],i,h=>absurd h (Nat.not_lt_zero _)
 | _ :: _,0,_=>rfl
 | _ :: bs,i+1,h=>Qck bs i (yK h)
theorem JU{es:List Ent}{k:QvX}{e:Ent}(h:QA es k=some e):e∈es/\e.1=k:=⟨List.mem_of_find?_eq_some h,by have z:=List.find?_some h;exact qg z⟩
theorem GB{k:QvX}{j:Nat}(h:j<k.length):atI (k.map V.str) (j:Int)=some (V.str (k.getD j "")):=Qu (by
 rw[q8,zG,qz h];rfl)
theorem X7{es:List Ent}{e:Ent}(h:e∈es):∃e',QA es e.1=some e':=by
 cases q:QA es e.1 with
 | some e'=>exact⟨e',rfl⟩
 | none =>
   have:=Qsw.mp q e h
   exact absurd (qp rfl) this
inductive Qhw(a:z8)(vs:List V)(H:Hp)(Q:VK):Prop
 | mk:∀(own:Addr->Nat)(b db xr L xt xi xf:Addr)(es:List Ent)(ls:List LE)(bx:Rows)(mk:Str->QvX)(WI W M:QvX)(n:Nat)(nm:Str),vs=[.ref b,.str nm]->Brd a H own b db xr L xt xi xf es ls bx mk WI W M n->QvR es->es.length<64 ->
    (∀l H',H l=none->Qo H H'->H' l=some (.lst ((U7 es nm).map V.str))->Q (.ref l) H')->Qhw a vs H Q
def spMT(a:z8):Sp:=fun vs H Q _=>Qhw a vs H Q
section
variable {P:Program}{w:World}{K:Frag}{mg:Str->Option Value}{base:Heap}{a:z8}
theorem ok_mt{fd:FuncData}(F:jn K "marks_told" "Board.marks_told" Zu a.yV fd)(T:Txt K mg a)(FF:ZE K a):QO P w K mg base xN 2 a.yV fd ["self","name"] (spMT a):=by
 obtain⟨fd1,F1,Qnc⟩:=FF.Qnf
 have Qne:=@Qgj P w K mg base a _ F1 T
 obtain⟨fd2,F2,_,ds,hds,QoH⟩:=FF.QlV
 have xj:=@Qim P w K mg base a _ F2 T
 refine F.ok Vw (fun _ _ _ _ h=>by cases h;subst_vars;rfl) (fun cdv A outer st H vs Q E hr h=>?_)
 .obtain⟨own,b,db,xr,L,xt,xi,xf,es,ls,bx,mk,WI,W,M,n,nm,rfl,h,hm,h64,k⟩:=h
  have hr1:QB 1 _:=hr
  refine⟨_,(Qf (QJ (XX (sc:=Qh Zu) (N:=YE) (fr:=[(0,"self")]) ⟨rfl,rfl,by decide +kernel,by decide +kernel,by decide +kernel,by decide +kernel,by decide +kernel⟩ rfl rfl rfl (Yn (QT (Qk (pv 0) rfl) T.jK T.Qnd Qne hr1 Qnc .nil Ql (zr (pv 1) Qe))) (fun _ _ _ _=>Qbk (PW.pt (Uy (QL Yb (Qr (JS K) (pv 0) Qi) Qp) (YV (Jf (QT (Qkh K (pv 1) rfl) T.jK T.vp xj hr1 QoH hds Ql (zr (pv 0) Qe))))))) (fun _ _ _ _=>(Qr (JS K) (pv 0) Qi))))),?_⟩
  obtain⟨dxr,D,kd,rg,oxr,oF⟩:=h.r
  refine⟨_,rfl,b,_,db,_,_,rfl,h.e,T.zL,T.yr,rfl,xr,dxr,_,rfl,rg.obj,rfl,_,rfl,xr,dxr,D,kd,es,nm,rfl,rg,hm.ne,h64,fun l bs H1 nl s1 hT e1=>?_⟩
  have hks:∀i∈YH ((sel [nm] es).map (·.1)),i<((sel [nm] es).map (·.1)).length:=fun i hi=>QbD hi
  have hbl:=hT.len
  have ex:(YH ((sel [nm] es).map (·.1))).map (fun i=>(bs.map V.ref).getD i .non)=((YH ((sel [nm] es).map (·.1))).map fun i=>(bs.getD i 0,((sel [nm] es).map (·.1)).getD i [])).map fun x=>V.ref x.1:=by
   rw[zJ]
   refine yF fun i hi=>?_
   exact Qck bs i (by have:=hks i hi;omega)
  rw[ex] at e1
  have hxs:∀x∈(YH ((sel [nm] es).map (·.1))).map (fun i=>(bs.getD i 0,((sel [nm] es).map (·.1)).getD i [])),H1 x.1=some (.tup (x.2.map V.str))/\∃e∈es,e.1=x.2:=fun x hx=>by
   obtain⟨i,hi,rfl⟩:=qd.mp hx
   refine⟨QbQ i hT (hks i hi),?_⟩
   have hm2:((sel [nm] es).map (·.1)).getD i []∈(sel [nm] es).map (·.1):=by
    rw[zG,qz (hks i hi)]
    exact jT _
   obtain⟨e,he,q⟩:=qd.mp hm2
   exact⟨e,(qu.mp he).1,q⟩
  have hlen:((YH ((sel [nm] es).map (·.1))).map (fun i=>(bs.getD i 0,((sel [nm] es).map (·.1)).getD i []))).length<=sizeLine:=by
   rw[qi,Gi,qi]
   have:(sel [nm] es).length<=es.length:=q9 _ _
   exact Zg ((by omega))
  refine⟨l,rfl,⟨_,jH.of e1⟩,Qdb (fun x=>V.ref x.1) (fun x=>GT es x.2) (fun x=>V.str (x.2.getD 2 "")) hlen (jH.of e1) ?_ ?_ ?_⟩
  .intro x H3 Q' hx s3 kk
   obtain⟨et,e,he,q⟩:=hxs x hx
   obtain⟨e',hv⟩:=X7 he
   rw[q] at hv
   have two:2<=x.2.length:=by rw[<-q];exact hm.two e he
   have s13:=s1.trans s3
   refine⟨_,rfl,x.1,_,_,_,rfl,rfl,ye.of (s3 _ _ et),GB (j:=1) (by omega),rfl,_,rfl,?_⟩
   by_cases hk:x.2.getD 1 ""=("mark":Str)
   .obtain⟨⟨on,hon⟩,_⟩:=hm.mw e' (JU hv).1 (by rw[(JU hv).2];exact hk)
    rw[hk]
    refine Qul ⟨_,rfl,b,_,db,_,_,rfl,s13 _ _ h.e,T.zL,T.yr,rfl,xr,dxr,_,rfl,s13 _ _ rg.obj,rfl,_,rfl,xr,dxr,D,kd,es,x.1,x.2,.non,rfl,rg.same s13,(by intro z;rw[z] at two;exact absurd two (by decide)),s3 _ _ et,fun H4 s4=>?_⟩
    rw[hv]
    have:=kk H4 s4
    have e0:GT es x.2=on:=by
     unfold GT
     rw[qp hk,hv]
     show(true && decide (e'.2.2.2=V.bl true))=on
     rw[hon]
     cases on <;> decide
    rw[e0] at this
    exact⟨on,hon,this⟩
   .refine skS (qF hk) ?_
    have:=kk H3 (Qo.refl _)
    have e0:GT es x.2=false:=by unfold GT;rw[qF hk];rfl
    rw[e0] at this
    exact this
  .intro x H3 Q' hx s3 hp kk
   obtain⟨et,e,he,q⟩:=hxs x hx
   have hk:x.2.getD 1 ""=("mark":Str):=by
    unfold GT at hp
    exact qg (jw.mp hp).1
   have three:=(hm.mw e he (by rw[q];exact hk)).2
   rw[q] at three
   exact⟨_,rfl,x.1,_,_,_,rfl,rfl,ye.of (s3 _ _ et),GB (j:=2) (by omega),kk H3 (Qo.refl _)⟩
  .intro D2 H2 nD s2 e2
   refine k D2 H2 (s1.free nD) (s1.trans s2) ?_
   rw[e2]
   congr 2
   unfold U7 Qfl
   rw[zJ,yw,yw,zJ,zJ]
   rfl
end
inductive Km(a:z8)(vs:List V)(H:Hp)(Q:VK):Prop
 | mk:∀x s t b d an,vs=[.ref x]->Jn a H x s t b d an->V1 s t b d an->(∀D H',SX x H H'->Qds a H' x s t b d an D->(H D=none\/Qds a H x s t b d an D)->Q (.ref D) H')->Km a vs H Q
def Qhy(a:z8):Sp:=fun vs H Q _=>Km a vs H Q
inductive Qb1(a:z8)(vs:List V)(H:Hp)(Q:VK):Prop
 | mk:∀x s t b d an,vs=[.ref x]->Jn a H x s t b d an->V1 s t b d an->(∀(l:Addr)(H':Hp),H l=none->SX x H H'->(∃D,Qds a H' x s t b d an D/\(H D=none\/Qds a H x s t b d an D))->H' l=some (.lst ((Y2 (uP t++uP b)).map V.str))->Q (.ref l) H')->Qb1 a vs H Q
def QlE(a:z8):Sp:=fun vs H Q _=>Qb1 a vs H Q
section
variable {P:Program}{w:World}{K:Frag}{mg:Str->Option Value}{base:Heap}{a:z8}
theorem Qgi{fd:FuncData}(F:jn K "known" "Letter.known" JO a.vV fd)(T:Txt K mg a)(FF:ZE K a):QO P w K mg base xN 2 a.vV fd ["self"] (Qhy a):=by
 obtain⟨fdA,gO,Qpd⟩:=FF.gO
 have Qpq:=@Qcx P w K mg base a _ gO T
 refine F.ok Z6 (fun _ _ _ _ h=>by cases h;subst_vars;rfl) (fun cdv A outer s H vs Q E hr h=>?_)
 .obtain⟨x,s,t,b,d,an,rfl,hL,g,k⟩:=h
  have hu:=Zr hr
  have QoC:QB 1 _:=hr
  refine⟨_,(Qd (QZ (QL Qia (Qk (pv 0) rfl) VQ) (Qd (Qy (i:=1) Z6.nd rfl (Or.inl rfl) Zv)
   (Qd (Uz yP rfl (Yn (Qj Qpq QoC rfl T.Qo3 gO.kp Qpd .nil Ql (zr (Qk (pv 0) rfl) Qe))) (ZI (i:=2) Z6.nd rfl (Or.inl rfl)) (Qf (Zp hu (pv 1) (pv 2) YY rfl)))
   (Qd (Uz yP rfl (Yn (Qj Qpq QoC rfl T.Qo3 gO.kp Qpd .nil Ql (zr (Qk (pv 0) rfl) Qe))) (ZI (i:=2) Z6.nd rfl (Or.inl rfl)) (Qf (Qs (Qh6 (pv 1) (pv 2) YY ⟨rfl,rfl,rfl,rfl⟩))))
   (Qf (Zo (pv 0) (pv 1) rfl))))) QD)
   (Qf (QJ (Qk (pv 0) rfl)))),?_⟩
  have h1:=g.tl
  have h2:=Qex t
  have h3:=g.bl
  have h4:=Qex b
  rcases hL with⟨dx,hx⟩ | ⟨D,⟨dx,hx⟩,hD⟩
  .refine⟨_,rfl,x,_,dx,_,_,rfl,hx,T.zW,T.jU,rfl,rfl,_,rfl,Zi ?_⟩
   refine fun D nD=>?_
   have s1:Qo H (upd H D (.dK [])):=Qo.z7 nD
   have D1:(upd H D (.dK [])) D=some (.dK []):=Qc
   show Ye _ _ _ _ (upd H D (.dK []))
   generalize upd H D (.dK [])=H1 at s1 D1
   refine⟨_,rfl,x,_,dx,_,_,rfl,s1 _ _ hx,T.zW,T.vN,rfl,t,rfl,g.t_,by omega,fun l1 H2 n1 s2 hl1=>?_⟩
   have s3:=s1.trans s2
   have lD:l1≠D:=(Qb D1 n1).symm
   refine⟨l1,rfl,⟨_,jH.of hl1⟩,YI (K:=K) (a:=l1) (xs:=(uP t).map V.str) (fun i σ H3=>∃o:Option V,σ=[some (.ref x),some (.ref D),o]/\Qo H H3/\H3 D=some (.dK (kn (uP t) ((uP t).take i)))/\H3 l1=some (.lst ((uP t).map V.str)))
    ⟨none,rfl,s3,s2 _ _ D1,hl1⟩ (fun i σ H3 _ ⟨_,_,_,_,h⟩=>jH.of h) ?_ ?_⟩
   .rintro i y σ H3 hi ⟨o,rfl,s4,D4,l4⟩
    obtain⟨u,rfl,hu'⟩:=Qhn hi
    have hk:=QiR (uP t) ((uP t).take i)
    rw[zN] at hk
    refine⟨_,rfl,_,rfl,D,_,rfl,Jo.k (k:=Sum.inr u) D4 (QK (by omega)),_,rfl,s4.uR nD,?_,by rw[Qa lD];exact l4⟩
    rw[Qc,Qmh (qU hu'),jX,hu']
    rfl
   .rintro σ H3 ⟨o,rfl,s4,D4,l4⟩
    rw[qi,zH (qt _)] at D4
    refine⟨_,rfl,x,_,dx,_,_,rfl,s4 _ _ hx,T.zW,T.wF,rfl,b,rfl,g.b_,by omega,fun l2 H4 n2 s5 hl2=>?_⟩
    have s6:=s4.trans s5
    have l2D:l2≠D:=(Qb D4 n2).symm
    refine⟨l2,rfl,⟨_,jH.of hl2⟩,YI (K:=K) (a:=l2) (xs:=(uP b).map V.str) (fun i σ H5=>∃o:Option V,σ=[some (.ref x),some (.ref D),o]/\Qo H H5/\H5 D=some (.dK (kn (uP t) (uP t++(uP b).take i)))/\H5 l2=some (.lst ((uP b).map V.str)))
     ⟨o,rfl,s6,by rw[Qra,je];exact s5 _ _ D4,hl2⟩ (fun i σ H5 _ ⟨_,_,_,_,h⟩=>jH.of h) ?_ ?_⟩
    .rintro i y σ H5 hi ⟨o2,rfl,s7,D7,l7⟩
     obtain⟨u,rfl,hu'⟩:=Qhn hi
     have hk:=QiR (uP t) (uP t++(uP b).take i)
     rw[qI,zN] at hk
     have etk:uP t++(uP b).take (i+1)=(uP t++(uP b).take i)++[u]:=by rw[jX,hu',Qoz];rfl
     refine⟨_,rfl,D,rfl,.inl ⟨_,.inl D7⟩,_,rfl,_,Sum.inr u,D7,rfl,QK (by omega),fun v hv=>?_,fun hv=>?_⟩
     .exact⟨_,rfl,s7,by rw[etk,QcT hv];exact D7,l7⟩
     .exact⟨_,rfl,s7.uR nD,by rw[Qc,etk,QcU (fun z hz=>qN _ hz) hv],by rw[Qa l2D];exact l7⟩
    .rintro σ H5 ⟨o2,rfl,s7,D7,l7⟩
     rw[qi,zH (qt _)] at D7
     refine⟨_,rfl,_,rfl,x,_,dx,_,rfl,s7 _ _ hx,T.zW,T.jU,(by show 6<1000;decide),?_⟩
     refine⟨_,rfl,x,_,dx,_,_,rfl,Qc,T.zW,T.jU,rfl,?_⟩
     refine k D _ (fun c o ne e=>?_) ⟨⟨dx,Qc⟩,?_⟩ (.inl nD)
     .rw[Qa ne];exact s7 _ _ e
     .rw[Qa (QX D7 (s7 _ _ hx) (fun z=>nomatch z))];exact D7
  .refine⟨_,rfl,x,_,dx,_,_,rfl,hx,T.zW,T.jU,rfl,rfl,_,rfl,Q4 ?_⟩
   exact⟨_,rfl,x,_,dx,_,_,rfl,hx,T.zW,T.jU,rfl,k D H (fun _ _ _ e=>e) ⟨⟨dx,hx⟩,hD⟩ (.inr ⟨⟨dx,hx⟩,hD⟩)⟩
theorem Qko{fd:FuncData}(F:jn K "words" "Letter.words" JM a.vR fd)(T:Txt K mg a)(FF:ZE K a):QO P w K mg base xN 3 a.vR fd ["self"] (QlE a):=by
 obtain⟨fdA,Quw,Qph⟩:=FF.QpB
 have Qpu:=@Qgi P w K mg base a _ Quw T FF
 refine F.ok XG (fun _ _ _ _ h=>by cases h;subst_vars;rfl) (fun cdv A outer s H vs Q E hr h=>?_)
 .obtain⟨x,s,t,b,d,an,rfl,hL,g,k⟩:=h
  have QoG:QB 2 _:=hr
  obtain⟨dx,f,hx⟩:=hL.at
  refine⟨_,(Qf (QJ (JI (Gy rfl) rfl T.QvH PyProof.Rows.boot_list (Qfa (Wn (pv 0) T.zW T.Qpn Qpu QoG Qph .nil Ql) Qe)))),?_⟩
  refine⟨_,rfl,x,dx,_,rfl,hx,rfl,x,s,t,b,d,an,rfl,hL,g,fun D H1 s1 hk hn=>?_⟩
  obtain⟨⟨dx1,e1⟩,eD⟩:=id hk
  refine⟨D,_,rfl,eD,fun l hl=>k l _ (s1.free e1 hl) (s1.trans (SX.of (Qo.z7 hl))) ⟨D,⟨⟨dx1,Qo.z7 hl _ _ e1⟩,Qo.z7 hl _ _ eD⟩,hn⟩ ?_⟩
  rw[Qc,QkD]
end
inductive Kl(a:z8)(vs:List V)(H:Hp)(Q:VK):Prop
 | mk:∀p s t b d an,vs=[.ref p]->H p=some (.tup [.str s,.str t,.str b,.int d,.str an])->V1 s t b d an->(∀x H',H x=none->Qo H H'->(∃dx,H' x=some (.ins a.ji dx (lfs s t b d an .non)))->Q (.ref x) H')->Kl a vs H Q
def Qhx(a:z8):Sp:=fun vs H Q _=>Kl a vs H Q
theorem Qby{a:z8}{s t b:Str}{d:Int}{an:Str}{H:Hp}{Q:VK}{E:XK}(g:V1 s t b d an)(k:∀x H',H x=none->Qo H H'->(∃dx,H' x=some (.ins a.ji dx (lfs s t b d an .non)))->Q (.ref x) H') :
 ∀x dx,H x=none->H dx=none->dx≠x->Qdz a (.ref x :: [.str s,.str t,.str b,.int d,.str an]) (upd (upd H dx (.own x)) x (.ins a.ji dx [])) (fun v H2=>v=.non/\Q (.ref x) H2) E:=by
 intro x dx hx hd ne
 refine⟨x,dx,s,t,b,d,an,rfl,g,Qc,fun H' hs hx'=>⟨rfl,k x H' hx (fun c o e=>hs c o (Qb e hx) ?_) ⟨dx,hx'⟩⟩⟩
 rw[Qa (Qb e hx),Qa (Qb e hd)]
 exact e
section
variable {P:Program}{w:World}{K:Frag}{mg:Str->Option Value}{base:Heap}{a:z8}
theorem GL{fd:FuncData}(F:jn K "letter_of" "letter_of" Ur a.gZ fd)(T:Txt K mg a)(FF:ZE K a):QO P w K mg base xN 7 a.gZ fd ["thing"] (Qhx a):=by
 obtain⟨fdA,Qsg,ux,_⟩:=FF.Qni
 have uy:=@Qfg P w K mg base a _ Qsg T FF
 refine F.ok Qbb (fun _ _ _ _ h=>by cases h;subst_vars;rfl) (fun cdv A outer s H vs Q E hr h=>?_)
 .obtain⟨p,s,t,b,d,an,rfl,hp,g,k⟩:=h
  have uX:QB 6 _:=hr
  refine⟨_,(Qd (QZ (PW.pt (Xr (Jw (Jf (QC ZV rfl T.jg boot_isinstance (zr (pv 0) (zr (YX (v:=.ty "tuple") rfl T.Qus PyProof.Rows.boot_tuple rfl) Qe))))) (UY (QL Qfc (QC Zx rfl T.QlO jN (zr (pv 0) Qe)) Qi)))) (Qf JX) QD)
   (Qf (QJ (Qbn T.Qro uy uX rfl T.Qqi ux .nil Ql (zr (Qr QN (pv 0) Qi) (zr (Qr QN (pv 0) Qi) (zr (Qr QN (pv 0) Qi) (zr (Qr QN (pv 0) Qi) (zr (Qr QN (pv 0) Qi) Qe))))))))),?_⟩
  have hS:ye K H p [.str s,.str t,.str b,.int d,.str an]:=ye.of hp
  refine⟨_,rfl,_,_,_,_,_,rfl,rfl,Y6.tup hp,kitTT,_,rfl,Q4 ?_⟩
  refine⟨_,rfl,p,_,rfl,.inr hS,rfl,_,rfl,Q4 ?_⟩
  exact⟨_,rfl,p,_,_,_,rfl,rfl,hS,rfl,_,rfl,p,_,_,_,rfl,rfl,hS,rfl,_,rfl,p,_,_,_,rfl,rfl,hS,rfl,_,rfl,p,_,_,_,rfl,rfl,hS,rfl,_,rfl,p,_,_,_,rfl,rfl,hS,rfl,Qby g k⟩
end
theorem QaJ:∀{ls:List LE}{z l:LE},(ls.map LE.y).Nodup->z∈ls->l∈ls->z.y=l.y->z=l
 | [],_,_,_,h,_,_=>nomatch h
 | x :: xs,z,l,nd,hz,hl,e=>by
   rw[qW,jf] at nd
   rcases qG.mp hz with h1 | h1
   .rcases qG.mp hl with h2 | h2
    .rw[h1,h2]
    .exact absurd (qd.mpr ⟨l,h2,by rw[<-e,h1]⟩) nd.1
   .rcases qG.mp hl with h2 | h2
    .exact absurd (qd.mpr ⟨z,h1,by rw[e,h2]⟩) nd.1
    .exact QaJ nd.2 h1 h2 e
theorem LsO.put{a:z8}{H:Hp}{own:Addr->Nat}{L:Addr}{ls:List LE}(h:LsO a H own L ls){l:LE}(hn:¬l.nm∈ls.map LE.nm)(hy:¬l.y∈ls.map LE.y)(hl:LtO a H own l.y l.p)(hg:V1 l.p.s l.p.t l.p.b l.p.d l.p.an) :
 LsO a (upd H L (.dK (Za (dG LE.nm (fun l=>V.ref l.y) ls) (Sum.inr l.nm) (.ref l.y)))) (grow own 5 H) L (ls++[l])/\KpO own 5 H (upd H L (.dK (Za (dG LE.nm (fun l=>V.ref l.y) ls) (Sum.inr l.nm) (.ref l.y)))):=by
 have k:KpO own 5 H (upd H L (.dK (Za (dG LE.nm (fun l=>V.ref l.y) ls) (Sum.inr l.nm) (.ref l.y)))):=fun c o e q=>by
  have n:c≠L:=fun z=>by
   rcases q with q | q
   .rw[z] at q;exact q h.o
   .rw[z,h.e] at e;cases e;cases q
  rw[Qa n];exact e
 refine⟨⟨by rw[Qc,Xf l hn rfl rfl],by rw[Qn h.e];exact h.o,by rw[qQ];exact Zz h.nd hn,by rw[qQ];exact Zz h.na hy,fun z hz=>?_⟩,k⟩
 rcases qx.mp hz with hz | hz
 .exact⟨(h.at_ z hz).1.step k (by decide),(h.at_ z hz).2⟩
 .rw[ql.mp hz];exact⟨hl.step k (by decide),hg⟩
theorem LsO.words{a:z8}{H H':Hp}{own:Addr->Nat}{L:Addr}{ls:List LE}(h:LsO a H own L ls){l:LE}(hl:l∈ls)(s:SX l.y H H')(hk:∃D,Qds a H' l.y l.p.s l.p.t l.p.b l.p.d l.p.an D/\(H D=none\/Qds a H l.y l.p.s l.p.t l.p.b l.p.d l.p.an D)) :
 LsO a H' (grow own 6 H) L ls/\KpO own 6 H H':=by
 have h1:=(h.at_ l hl).1
 obtain⟨dy,f,ey⟩:=h1.let.at
 have k:KpO own 6 H H':=fun c o e q=>s c o (fun z=>by
  rcases q with q | q
  .rw[z] at q;exact q h1.1
  .rw[z,ey] at e;cases e;cases q) e
 refine⟨⟨s _ _ (QX h.e ey (fun z=>nomatch z)) h.e,by rw[Qn h.e];exact h.o,h.nd,h.na,fun z hz=>⟨?_,(h.at_ z hz).2⟩⟩,k⟩
 have hz1:=(h.at_ z hz).1
 by_cases e:z.y=l.y
 .obtain⟨D,kD,hD⟩:=hk
  have ez:z=l:=QaJ h.na hz hl e
  rw[ez]
  refine⟨by rw[Qn ey];exact h1.1,.inr ⟨D,kD,Uk ?_⟩⟩
  rcases hD with hD | ⟨⟨d1,e1⟩,_⟩
  .exact .inr hD
  .left
   rcases h1.2 with⟨d2,e2⟩ | ⟨D2,⟨⟨d2,e2⟩,_⟩,o2⟩
   .rw[e1] at e2;injection e2 with e2;injection e2 with _ _ e2;simp at e2
   .rw[e1] at e2;injection e2 with e2;injection e2 with _ _ e2;simp at e2;rw[e2];exact o2
 .rcases hz1 with⟨oy,⟨dx,ex⟩ | ⟨D,⟨⟨dx,ex⟩,eD⟩,oD⟩⟩
  .exact⟨by rw[Qn ex];exact oy,.inl ⟨dx,s _ _ e ex⟩⟩
  .exact⟨by rw[Qn ex];exact oy,.inr ⟨D,⟨⟨dx,s _ _ e ex⟩,s _ _ (QX eD ey (fun z=>nomatch z)) eD⟩,by rw[Qn eD];exact oD⟩⟩
structure Qg3(H:Hp)(es:List Ent)(nm:Str)(p:LD)(u:Addr)(fo:Str)(dr:Bool)(WI W M:QvX):Prop where
 mk_:QvR es
 few:es.length<64
 pt:((QA es [nm,"put"]).map (·.2.2.2)).getD .non=.ref u
 tu:H u=some (.tup [.str p.s,.str p.t,.str p.b,.int p.d,.str p.an])
 g:V1 p.s p.t p.b p.d p.an
 wi:∀w∈Y2 (uP p.t++uP p.b),w∈WI
 wl:(Y2 (uP p.t++uP p.b)).length<=60
 d0:dr=false->((QA es [nm,"drop"]).map (·.2.2.2)).getD .non=.non
 d1:dr=true->∃z,((QA es [nm,"drop"]).map (·.2.2.2)).getD .non=.str z
 pl:((QA es [nm,"place"]).map (·.2.2.2)).getD (.str "inbox")=.str fo
 fw:fo∈W
 mm:∀y∈U7 es nm,y∈M
theorem LsO.same{a:z8}{H H':Hp}{own:Addr->Nat}{L:Addr}{ls:List LE}(j:Nat)(h:LsO a H own L ls)(s:Qo H H'):LsO a H' (grow own j H) L ls:=by
 refine⟨s _ _ h.e,by rw[Qn h.e];exact h.o,h.nd,h.na,fun l hl=>⟨?_,(h.at_ l hl).2⟩⟩
 rcases (h.at_ l hl).1 with⟨oy,⟨dx,ex⟩ | ⟨D,⟨⟨dx,ex⟩,eD⟩,oD⟩⟩
 .exact⟨by rw[Qn ex];exact oy,.inl ⟨dx,s _ _ ex⟩⟩
 .exact⟨by rw[Qn ex];exact oy,.inr ⟨D,⟨⟨dx,s _ _ ex⟩,s _ _ eD⟩,by rw[Qn eD];exact oD⟩⟩
theorem KB.same{own:Addr->Nat}{H H':Hp}(j:Nat)(s:Qo H H'):KB own (grow own j H) H H':=⟨fun c o e _=>s c o e,fun c o e _=>Qn e⟩
inductive QeP(a:z8)(vs:List V)(H:Hp)(Q:VK):Prop
 | mk:∀(own:Addr->Nat)(b db xr L xt xi xf:Addr)(es:List Ent)(ls:List LE)(bx:Rows)(mk:Str->QvX)(WI W M:QvX)(n:Nat)(nm:Str)(p:LD)(u:Addr)(fo:Str)(dr:Bool),vs=[.ref b,.str nm]->Brd a H own b db xr L xt xi xf es ls bx mk WI W M n->Qg3 H es nm p u fo dr WI W M->n<40->(∀m,m∈bx.map (·.1)↔m∈ls.map LE.nm) ->
    (dr=true->∀H' own',Brd a H' own' b db xr L xt xi xf es (ls.filter fun l=>decide (l.nm≠nm)) (L2.without bx nm) mk WI W M n->KB own own' H H'->Q .non H') ->
    (dr=false->∀y H' own',Brd a H' own' b db xr L xt xi xf es ((ls.filter fun l=>decide (l.nm≠nm))++[⟨nm,y,p⟩]) (L2.without bx nm++[(nm,fo)]) (ZQ mk nm (dd (U7 es nm))) WI W M (n+1)->KB own own' H H'->Q .non H')->QeP a vs H Q
def spBIn(a:z8):Sp:=fun vs H Q _=>QeP a vs H Q
section
variable {P:Program}{w:World}{K:Frag}{mg:Str->Option Value}{base:Heap}{a:z8}
theorem Qma{fd:FuncData}(F:jn K "bring_in" "Board.bring_in" Zt a.yI fd)(T:Txt K mg a)(FF:ZE K a):QO P w K mg base xN 8 a.yI fd ["self","name"] (spBIn a):=by
 obtain⟨fd1,F1,wB⟩:=FF.uO
 have wD:=@QcB P w K mg base a _ F1 T FF
 obtain⟨fd2,F2,QvI,ds,hds,QtB⟩:=FF.QlV
 have xj:=@Qim P w K mg base a _ F2 T
 obtain⟨fd3,uq,Qrw⟩:=FF.uq
 have QrD:=@GL P w K mg base a _ uq T FF
 obtain⟨fd4,F4,QpV,_⟩:=FF.Qp6
 have Qp3:=@Qkv P w K mg base a _ F4 T FF
 obtain⟨fd5,F5,Qrz⟩:=FF.QrJ
 have QrG:=@Qkt P w K mg base a _ F5 T FF
 obtain⟨fd6,F6,Qpf⟩:=FF.Qpz
 have Qps:=@Qko P w K mg base a _ F6 T FF
 obtain⟨fd7,F7,QpX,_⟩:=FF.Qp7
 have Qp5:=@Qku P w K mg base a _ F7 T FF
 obtain⟨fd8,F8,Qnt⟩:=FF.QnC
 have Qnz:=@ok_mt P w K mg base a _ F8 T FF
 refine F.ok YR (fun _ _ _ _ h=>by cases h;subst_vars;rfl) (fun cdv A outer st H vs Q E hr h=>?_)
 .obtain⟨own,b,db,xr,L,xt,xi,xf,es,ls,bx,mk,WI,W,M,n,nm,p,u,fo,dr,rfl,h,hI,hn,hsame,kD,kN⟩:=h
  have hu:=Zr hr
  have hr7:QB 7 _:=hr
  have hr3:QB 3 _:=hr7.mono (by decide)
  have hr2:QB 2 _:=hr7.mono (by decide)
  have hr1:QB 1 _:=hr7.mono (by decide)
  obtain⟨t1,h1,sp1⟩:∃t,PSs (Yo xN P w K mg base Ui "Board.bring_in" (Qh Zt) a.yI cdv A outer st H E).nox ((Zl Zt).drop 1) t /\
   ∀(H1:Hp)(own1:Addr->Nat),Brd a H1 own1 b db xr L xt xi xf es (ls.filter fun l=>decide (l.nm≠nm)) (L2.without bx nm) mk WI W M n->KB own own1 H H1 ->
    t { nx:=fun _ H'=>Q .non H',rt:=Q } [some (.ref b),some (.str nm),none] H1:=by
   refine⟨_,(Qd (QZ (QL Qfb (QT (Qk (pv 0) rfl) T.jK T.vp xj hr1 QtB hds Ql (zr (Zd (Qg (pv 1) (Qg Qp Qz))) Qe)) VQ) (Qf Qe7) QD)
    (Qd (Qy (i:=2) YR.nd rfl (Or.inl rfl) (Qj QrD hr7 rfl T.Qrj uq.kp Qrw .nil Ql (zr (QT (Qk (pv 0) rfl) T.jK T.vp xj hr1 QtB hds Ql (zr (Zd (Qg (pv 1) (Qg Qp Qz))) Qe)) Qe)))
    (Qd (Zp hu (Qk (pv 0) rfl) (pv 1) (pv 2) rfl)
    (Qd (Qs (QT (Qk (pv 0) rfl) T.j9 T.QpY Qp3 hr2 QpV .nil Ql (zr (pv 1) (zr (Qk (pv 2) rfl) Qe))))
    (Qd (Qs (QT (Qk (pv 0) rfl) T.yC T.QrC QrG hr2 Qrz .nil Ql (zr (pv 1) (zr (Wn (pv 2) T.zW T.Qpl Qps hr3 Qpf .nil Ql) Qe))))
    (Qf (Qs (QT (Qk (pv 0) rfl) T.zq T.Qp0 Qp5 hr2 QpX .nil Ql (zr (pv 1) (zr (QT (Qk (pv 0) rfl) T.jK T.vp xj hr1 QvI .nil Ql (zr (Zd (Qg (pv 1) (Qg Qp Qz))) (zr Qp Qe))) (zr (QT (pv 0) T.zL T.Qnw Qnz hr2 Qnt .nil Ql (zr (pv 1) Qe)) Qe))))))))))),fun H1 own1 h1 kb1=>?_⟩
   obtain⟨dxr,D,kd,rg,oxr,oF⟩:=id h1.r
   have hlen:(ls.filter fun l=>decide (l.nm≠nm)).length<=n:=by obtain⟨_,_,_,_,_,q,_⟩:=id h1.t;rw[qi] at q;exact q
   refine⟨_,rfl,b,_,db,_,_,rfl,h1.e,T.zL,T.yr,rfl,xr,dxr,_,rfl,rg.obj,rfl,_,rfl,Yx,fun q2 H2 n2 s2 e2=>⟨xr,dxr,D,kd,es,q2,[nm,"drop"],.non,rfl,rg.same s2,(by intro z;cases z),e2,fun H3 s3=>⟨rfl,_,rfl,?_⟩⟩⟩
   have s13:=s2.trans s3
   cases dr with
   | true =>
     obtain⟨z,hz⟩:=hI.d1 rfl
     rw[hz]
     exact Zi (kD rfl H3 _ (h1.quiet s13) (kb1.trans (KB.same 7 s13)))
   | false =>
     rw[hI.d0 rfl]
     refine Q4 ⟨_,rfl,b,_,db,_,_,rfl,s13 _ _ h1.e,T.zL,T.yr,rfl,xr,dxr,_,rfl,s13 _ _ rg.obj,rfl,_,rfl,Yx,fun q4 H4 n4 s4 e4=>⟨xr,dxr,D,kd,es,q4,[nm,"put"],.non,rfl,rg.same (s13.trans s4),(by intro z;cases z),e4,fun H5 s5=>?_⟩⟩
     rw[hI.pt]
     have s15:=(s13.trans s4).trans s5
     refine⟨u,_,_,_,_,_,rfl,s15 _ _ (kb1.k _ _ hI.tu (.inr (.inr rfl))),hI.g,fun y H6 ny s6 ⟨dy,ey⟩=>?_⟩
     have S:=s15.trans s6
     have ny1:H1 y=none:=s15.free ny
     have k6:KpO own1 6 H1 H6:=KpO.of S
     have b6:=S _ _ h1.e
     have o6:grow own1 6 H1 b=0:=by rw[Qn h1.e];exact h1.o
     have r6:=h1.r.step k6 (by decide) (by decide)
     have t6:=h1.t.step k6 (by decide) (by decide)
     have i6:=h1.i.step k6 (by decide) (by decide)
     have f6:=h1.f.step k6 (by decide) (by decide)
     have l6:=h1.l.same 6 S
     have kb6:=kb1.trans (KB.same (own:=own1) 6 S)
     have y6:LtO a H6 (grow own1 6 H1) y p:=⟨Wt ny1,.inl ⟨dy,ey⟩⟩
     have yn:¬y∈(ls.filter fun l=>decide (l.nm≠nm)).map LE.y:=fun hy=>by
      obtain⟨l,hl,e⟩:=qd.mp hy
      obtain⟨o,q⟩:=(h1.l.at_ l hl).1.there
      rw[e,ny1] at q;cases q
     have nn:¬nm∈(ls.filter fun l=>decide (l.nm≠nm)).map LE.nm:=fun hy=>by
      obtain⟨l,hl,e⟩:=qd.mp hy
      exact qg (qu.mp hl).2 e
     generalize grow own1 6 H1=own6 at o6 r6 t6 i6 f6 l6 kb6 y6
     obtain⟨l7,k7⟩:=l6.put (l:=⟨nm,y,p⟩) nn yn y6 hI.g
     refine⟨_,rfl,_,rfl,b,_,db,_,_,rfl,b6,T.zL,T.jc,rfl,_,rfl,L,_,rfl,Jo.k (k:=Sum.inr nm) l6.e (by rw[Xg];exact QK (by omega)),?_⟩
     have b7:=k7 _ _ b6 (.inl (by rw[o6];decide))
     have o7:grow own6 5 H6 b=0:=by rw[Qn b6];exact o6
     have r7:=r6.step k7 (by decide) (by decide)
     have t7:=t6.step k7 (by decide) (by decide)
     have i7:=i6.step k7 (by decide) (by decide)
     have f7:=f6.step k7 (by decide) (by decide)
     have kb7:=kb6.trans (KB.of k7 (by decide) (by decide))
     have e7:=k7 _ _ ey (.inl (by rw[y6.1];decide))
     show Ye _ _ _ _ (upd H6 L (.dK (Za (dG LE.nm (fun l=>V.ref l.y) (ls.filter fun l=>decide (l.nm≠nm))) (Sum.inr nm) (.ref y))))
     generalize upd H6 L (.dK (Za (dG LE.nm (fun l=>V.ref l.y) (ls.filter fun l=>decide (l.nm≠nm))) (Sum.inr nm) (.ref y)))=H7 at l7 k7 b7 r7 t7 i7 f7 kb7 e7 ⊢
     generalize grow own6 5 H6=Qm6 at o7 l7 r7 t7 i7 f7 kb7
     generalize hls:(ls.filter fun l=>decide (l.nm≠nm))=ls1 at l7 t7 i7 nn yn
     obtain⟨dxt,L2',R2',krT,thT,hrl,_,oxt,_⟩:=id t7
     refine⟨_,rfl,b,_,db,_,_,rfl,b7,T.zL,T.uV,rfl,xt,dxt,_,rfl,thT.obj,rfl,_,rfl,_,rfl,y,_,dy,_,_,rfl,e7,T.zW,T.xO,rfl,rest Qm6 1 H7,xt,_,n,nm,p.an,rfl,t7.thf,hn,Yd.mpr (by rw[zJ];exact nn),fun H8 ht _=>?_⟩
     obtain⟨t8,k8⟩:=ThO.of oxt ⟨_,thT.obj⟩ ht
     have b8:=k8 _ _ b7 (.inl (by rw[o7];decide))
     have o8:grow Qm6 1 H7 b=0:=by rw[Qn b7];exact o7
     have r8:=r7.step k8 (by decide) (by decide)
     have l8:=l7.step k8 (by decide) (by decide)
     have i8:=i7.step k8 (by decide) (by decide)
     have f8:=f7.step k8 (by decide) (by decide)
     have kb8:=kb7.trans (KB.of k8 (by decide) (by decide))
     generalize grow Qm6 1 H7=own8 at o8 l8 r8 t8 i8 f8 kb8
     have hy8:(⟨nm,y,p⟩:LE)∈ls1++[⟨nm,y,p⟩]:=qC _ (ql.mpr rfl)
     have lt8:=(l8.at_ _ hy8).1
     obtain⟨dy8,fy8,ey8⟩:=lt8.let.at
     obtain⟨Fi,ix,oxi,oFi⟩:=id i8
     obtain⟨dxi,E1,B1,exi⟩:=ix.obj
     refine⟨_,rfl,b,_,db,_,_,rfl,b8,T.zL,T.gM,rfl,xi,dxi,_,rfl,exi,rfl,_,rfl,_,rfl,y,dy8,_,rfl,ey8,rfl,y,_,_,_,_,_,rfl,lt8.let,hI.g,fun lw H9 nlw sx hk e9=>?_⟩
     obtain⟨l9,k9⟩:=l8.words hy8 sx hk
     have b9:=k9 _ _ b8 (.inl (by rw[o8];decide))
     have o9:grow own8 6 H8 b=0:=by rw[Qn b8];exact o8
     have r9:=r8.step k9 (by decide) (by decide)
     have t9:=t8.step k9 (by decide) (by decide)
     have i9:=i8.step k9 (by decide) (by decide)
     have f9:=f8.step k9 (by decide) (by decide)
     have kb9:=kb8.trans (KB.of k9 (by decide) (by decide))
     generalize grow own8 6 H8=own9 at o9 l9 r9 t9 i9 f9 kb9
     obtain⟨Fi9,ix9,oxi9,oFi9⟩:=id i9
     refine⟨xi,lw,_,WI,n,Fi9,nm,_,rfl,ix9,hn,(by rw[zJ];exact nn),e9,hI.wi,hI.wl,fun H10 Fi' ix' kF hF=>?_⟩
     obtain⟨i10,k10⟩:=IxO.own' ix9 oxi9 oFi9 ix' kF hF
     have b10:=k10 _ _ b9 (.inl (by rw[o9];decide))
     have o10:grow own9 2 H9 b=0:=by rw[Qn b9];exact o9
     have r10:=r9.step k10 (by decide) (by decide)
     have l10:=l9.step k10 (by decide) (by decide)
     have t10:=t9.step k10 (by decide) (by decide)
     have f10:=f9.step k10 (by decide) (by decide)
     have kb10:=kb9.trans (KB.of k10 (by decide) (by decide))
     generalize grow own9 2 H9=QuG at o10 l10 r10 t10 i10 f10 kb10
     obtain⟨dx10,D10,kd10,rg10,_,_⟩:=id r10
     obtain⟨Ff,ff,oxf,oFf⟩:=id f10
     obtain⟨dxf,X1,T1,N1,exf⟩:=ff.obj
     have B10:Brd a H10 QuG b db xr L xt xi xf es (ls1++[⟨nm,y,p⟩]) (L2.without bx nm) mk WI W M (n+1):=⟨b10,o10,r10,l10,by rw[qQ];exact t10,by rw[qQ];exact i10,⟨Ff,ff.up,oxf,oFf⟩⟩
     refine⟨_,rfl,b,_,db,_,_,rfl,b10,T.zL,T.j8,rfl,xf,dxf,_,rfl,exf,rfl,_,rfl,_,rfl,b,_,db,_,_,rfl,b10,T.zL,T.yr,rfl,xr,dx10,_,rfl,rg10.obj,rfl,_,rfl,Yx,fun q11 H11 n11 s11 e11=>⟨xr,dx10,D10,kd10,es,q11,[nm,"place"],.str "inbox",rfl,rg10.same s11,(by intro z;cases z),e11,fun H12 s12=>?_⟩⟩
     rw[hI.pl]
     have S12:=s11.trans s12
     refine⟨_,rfl,b,db,_,rfl,S12 _ _ b10,rfl,_,rfl,_,b,db,xr,L,xt,xi,xf,es,_,_,mk,WI,W,M,n+1,nm,rfl,B10.quiet S12,hI.mk_,hI.few,fun lm H13 nl s13' e13=>?_⟩
     have S13:=S12.trans s13'
     have B13:=B10.quiet S13
     have wn:¬nm∈(L2.without bx nm).map (·.1):=fun hm=>by
      obtain⟨r,hr',e⟩:=qd.mp hm
      exact qg (qu.mp hr').2 e
     refine⟨xf,lm,_,mk,W,M,n,Ff,nm,fo,_,rfl,ff.same S13,hn,Yd.mpr wn,hI.fw,e13,hI.mm,fun H14 Ff' fo' kG hG=>?_⟩
     obtain⟨f14,k14⟩:=FoO.own' (own:=grow QuG 7 H10) (ff.same S13) (by rw[Qn exf];exact oxf) (fun c hc=>by obtain⟨kvs,e⟩:=ff.kind hc;rw[Qn e];exact oFf c hc) fo' kG hG
     subst hls
     exact kN rfl y H14 _ (B13.fold f14 k14) ((kb10.trans (KB.same 7 S13)).trans (KB.of k14 (by decide) (by decide)))
  refine⟨_,(Qd (QZ (Z2 (VR hu (pv 1) (Qk (pv 0) rfl))) (Qf (Qs (QT (pv 0) T.zL T.uK wD hr3 wB .nil Ql (zr (pv 1) Qe)))) QD) h1),?_⟩
  by_cases hm:nm∈ls.map LE.nm
  .obtain⟨le,hle,rfl⟩:=qd.mp hm
   refine⟨_,rfl,_,rfl,b,_,db,_,_,rfl,h.e,T.zL,T.jc,rfl,L,some (.ref le.y),rfl,.inl ⟨_,Sum.inr le.nm,.inl h.l.e,rfl,(Zq (g:=fun l=>V.ref l.y) h.l.nd hle).symm⟩,?_⟩
   refine⟨_,rfl,Zi ⟨_,rfl,b,db,_,rfl,h.e,rfl,_,rfl,own,b,db,xr,L,xt,xi,xf,es,ls,bx,mk,WI,W,M,n,le.nm,rfl,h,hm,(hsame _).mpr hm,fun H' own' hB kB=>sp1 H' own' hB kB⟩⟩
  .refine⟨_,rfl,_,rfl,b,_,db,_,_,rfl,h.e,T.zL,T.jc,rfl,L,none,rfl,.inl ⟨_,Sum.inr nm,.inl h.l.e,rfl,(JB hm).symm⟩,?_⟩
   have q1:(ls.filter fun l=>decide (l.nm≠nm))=ls:=kJ.mpr fun l hl=>qp fun e=>hm (qd.mpr ⟨l,hl,e⟩)
   have q2:L2.without bx nm=bx:=kJ.mpr fun r hr'=>qp fun e=>hm ((hsame _).mp (qd.mpr ⟨r,hr',e⟩))
   exact⟨_,rfl,Q4 (sp1 H own (by rw[q1,q2];exact h) ⟨fun c o e _=>e,fun c o _ _=>rfl⟩)⟩
end
def ZM:Dd->QvX
 | .put nm _=>[nm,"put"]
 | .place nm _=>[nm,"place"]
 | .mark nm y _=>[nm,"mark",y]
 | .drop nm=>[nm,"drop"]
inductive QeL(vs:List V)(H:Hp)(Q:VK):Prop
 | mk:∀(q:Addr)(d:Dd),vs=[.ref q]->DAt H q d->(∀k H',H k=none->Qo H H'->H' k=some (.tup ((ZM d).map V.str))->Q (.ref k) H')->QeL vs H Q
def spKof:Sp:=fun vs H Q _=>QeL vs H Q
inductive QeI(vs:List V)(H:Hp)(Q:VK):Prop
 | mk:∀(q:Addr)(c:Int)(h:Str)(r:List V),vs=[.ref q]->H q=some (.tup (.int c :: .str h :: r))->(∀k H',H k=none->Qo H H'->H' k=some (.tup [.int c,.str h])->Q (.ref k) H')->QeI vs H Q
def spSof:Sp:=fun vs H Q _=>QeI vs H Q
section
variable {P:Program}{w:World}{K:Frag}{mg:Str->Option Value}{base:Heap}{a:z8}
theorem Ql9{fd:FuncData}(F:jn K "key_of" "key_of" XW a.QnT fd)(T:Txt K mg a):QO P w K mg base xN 1 a.QnT fd ["deed"] spKof:=by
 refine F.ok Qf4 (fun _ _ _ _ h=>by cases h;subst_vars;rfl) (fun cdv A outer st H vs Q E hr h=>?_)
 .obtain⟨q,d,rfl,hd,k⟩:=h
  refine⟨_,(Qd (QZ (QL Yb (Qr QN (pv 0) Qi) Qp) (Qf (QJ (Zd (Qg (Qr QN (pv 0) Qi) (Qg Qp (Qg (Qr QN (pv 0) Qi) Qz)))))) QD)
   (Qf (QJ (Zd (Qg (Qr QN (pv 0) Qi) (Qg (Qr QN (pv 0) Qi) Qz)))))),?_⟩
  cases hd with
  | put e e2 =>
    exact⟨_,rfl,q,_,_,_,rfl,rfl,ye.of e,Qu (j:=0) rfl,rfl,_,rfl,skS (by decide +kernel) ⟨_,rfl,q,_,_,_,rfl,rfl,ye.of e,Qu (j:=1) rfl,_,rfl,q,_,_,_,rfl,rfl,ye.of e,Qu (j:=0) rfl,Yx,fun x H' nx s' e'=>k x H' nx s' e'⟩⟩
  | place e =>
    exact⟨_,rfl,q,_,_,_,rfl,rfl,ye.of e,Qu (j:=0) rfl,rfl,_,rfl,skS (by decide +kernel) ⟨_,rfl,q,_,_,_,rfl,rfl,ye.of e,Qu (j:=1) rfl,_,rfl,q,_,_,_,rfl,rfl,ye.of e,Qu (j:=0) rfl,Yx,fun x H' nx s' e'=>k x H' nx s' e'⟩⟩
  | mark e =>
    exact⟨_,rfl,q,_,_,_,rfl,rfl,ye.of e,Qu (j:=0) rfl,rfl,_,rfl,Qul ⟨_,rfl,q,_,_,_,rfl,rfl,ye.of e,Qu (j:=1) rfl,_,rfl,q,_,_,_,rfl,rfl,ye.of e,Qu (j:=2) rfl,Qg6,fun x H' nx s' e'=>k x H' nx s' e'⟩⟩
  | drop e =>
    exact⟨_,rfl,q,_,_,_,rfl,rfl,ye.of e,Qu (j:=0) rfl,rfl,_,rfl,skS (by decide +kernel) ⟨_,rfl,q,_,_,_,rfl,rfl,ye.of e,Qu (j:=1) rfl,_,rfl,q,_,_,_,rfl,rfl,ye.of e,Qu (j:=0) rfl,Yx,fun x H' nx s' e'=>k x H' nx s' e'⟩⟩
theorem Ql6{fd:FuncData}(F:jn K "stamp_of" "stamp_of" Ve a.uZ fd)(T:Txt K mg a):QO P w K mg base xN 1 a.uZ fd ["stamped"] spSof:=by
 refine F.ok Qcd (fun _ _ _ _ h=>by cases h;subst_vars;rfl) (fun cdv A outer st H vs Q E hr h=>?_)
 .obtain⟨q,c,h,r,rfl,e,k⟩:=h
  refine⟨_,(Qf (QJ (Zd (Qg (Qr QN (pv 0) Qi) (Qg (Qr QN (pv 0) Qi) Qz))))),?_⟩
  exact⟨_,rfl,q,_,_,_,rfl,rfl,ye.of e,Qu (j:=0) rfl,_,rfl,q,_,_,_,rfl,rfl,ye.of e,Qu (j:=1) rfl,Yx,fun x H' nx s' e'=>k x H' nx s' e'⟩
end
def Qen(u:Addr):Dd->List V
 | .put nm _=>[.str "put",.str nm,.ref u]
 | .place nm fo=>[.str "place",.str nm,.str fo]
 | .mark nm y on=>[.str "mark",.str nm,.str y,.bl on]
 | .drop nm=>[.str "drop",.str nm]
def ZT(u:Addr):Dd->V
 | .put _ _=>.ref u
 | .place _ fo=>.str fo
 | .mark _ _ on=>.bl on
 | .drop nm=>.str nm
def GU:Dd->Str
 | .put _ _=>"put"
 | .place _ _=>"place"
 | .mark _ _ _=>"mark"
 | .drop _=>"drop"
structure DU(H:Hp)(q u:Addr)(d:Dd):Prop where
 e:H q=some (.tup (Qen u d))
 p:∀nm p,d=.put nm p->H u=some (.tup [.str p.s,.str p.t,.str p.b,.int p.d,.str p.an])
theorem DU.at{H:Hp}{q u:Addr}{d:Dd}(h:DU H q u d):DAt H q d:=by
 cases d with
 | put nm p=>exact .put h.e (h.p nm p rfl)
 | place nm fo=>exact .place h.e
 | mark nm y on=>exact .mark h.e
 | drop nm=>exact .drop h.e
theorem VZ(u:Addr)(d:Dd):atI (Qen u d) 0=some (V.str (GU d)):=by cases d <;> exact Qu (j:=0) rfl
theorem Vb(u:Addr)(d:Dd):atI (Qen u d) 1=some (V.str d.nm):=by cases d <;> exact Qu (j:=1) rfl
theorem Qem(u:Addr)(d:Dd):atI (Qen u d) (-1)=some (ZT u d):=by cases d <;> rfl
def ZB:Dd->Bool
 | .put _ _=>true
 | _=>false
theorem Qcq(d:Dd):decide (GU d=("put":Str))=ZB d:=by
 cases d with
 | put nm p=>show decide (("put":Str)="put")=true;decide +kernel
 | place nm fo=>show decide (("place":Str)="put")=false;decide +kernel
 | mark nm y on=>show decide (("mark":Str)="put")=false;decide +kernel
 | drop nm=>show decide (("drop":Str)="put")=false;decide +kernel
theorem QfD(d:Dd):ZM d≠[]:=by cases d <;> exact fun z=>nomatch z
theorem Qg3.kept{H H':Hp}{es:List Ent}{nm:Str}{p:LD}{u:Addr}{fo:Str}{dr:Bool}{WI W M:QvX}(h:Qg3 H es nm p u fo dr WI W M)(k:∀c xs,H c=some (.tup xs)->H' c=some (.tup xs)):Qg3 H' es nm p u fo dr WI W M :=
 ⟨h.mk_,h.few,h.pt,k _ _ h.tu,h.g,h.wi,h.wl,h.d0,h.d1,h.pl,h.fw,h.mm⟩
inductive Qb2(a:z8)(vs:List V)(H:Hp)(Q:VK):Prop
 | mk:∀(own:Addr->Nat)(b db xr L xt xi xf:Addr)(es:List Ent)(ls:List LE)(bx:Rows)(mk:Str->QvX)(WI W M:QvX)(n:Nat)(x:Addr)(c:Int)(hd:Str)(num:Int)(q u:Addr)(d:Dd),vs=[.ref b,.ref x]->Brd a H own b db xr L xt xi xf es ls bx mk WI W M n->H x=some (.tup [.int c,.str hd,.int num,.ref q])->DU H q u d->es.length<=900->(∀m,m∈bx.map (·.1)↔m∈ls.map LE.nm) ->
    (Zs es (ZM d,c,hd,ZT u d)=false->∀H' own',Brd a H' own' b db xr L xt xi xf (QW es (ZM d,c,hd,ZT u d)) ls bx mk WI W M n->KB own own' H H'->Q .non H') ->
    (Zs es (ZM d,c,hd,ZT u d)=true->∀nm p,d=.put nm p->∃fo dr,Qg3 H (QW es (ZM d,c,hd,ZT u d)) nm p u fo dr WI W M/\n<40 /\
      (dr=true->∀H' own',Brd a H' own' b db xr L xt xi xf (QW es (ZM d,c,hd,ZT u d)) (ls.filter fun l=>decide (l.nm≠nm)) (L2.without bx nm) mk WI W M n->KB own own' H H'->Q .non H') /\
      (dr=false->∀y H' own',Brd a H' own' b db xr L xt xi xf (QW es (ZM d,c,hd,ZT u d)) ((ls.filter fun l=>decide (l.nm≠nm))++[⟨nm,y,p⟩]) (L2.without bx nm++[(nm,fo)]) (ZQ mk nm (dd (U7 (QW es (ZM d,c,hd,ZT u d)) nm))) WI W M (n+1)->KB own own' H H'->Q .non H')) ->
    (Zs es (ZM d,c,hd,ZT u d)=true->ZB d=false->dOk W M d/\(d.nm∈ls.map LE.nm->∀H' own',Brd a H' own' b db xr L xt xi xf (QW es (ZM d,c,hd,ZT u d)) (chL ls d) (chB bx d) (chM mk d) WI W M n->KB own own' H H'->Q .non H') /\
      (¬d.nm∈ls.map LE.nm->∀H' own',Brd a H' own' b db xr L xt xi xf (QW es (ZM d,c,hd,ZT u d)) ls bx mk WI W M n->KB own own' H H'->Q .non H'))->Qb2 a vs H Q
def Qht(a:z8):Sp:=fun vs H Q _=>Qb2 a vs H Q
section
variable {P:Program}{w:World}{K:Frag}{mg:Str->Option Value}{base:Heap}{a:z8}
theorem Qkq{fd:FuncData}(F:jn K "show" "Board.show" YT a.gr fd)(T:Txt K mg a)(FF:ZE K a):QO P w K mg base xN 9 a.gr fd ["self","stamped"] (Qht a):=by
 obtain⟨fd1,F1,Qob⟩:=FF.Qot
 have Qon:=@Qks P w K mg base a _ F1 T
 obtain⟨fd2,Qn0,Qtz⟩:=FF.Qn0
 have QtE:=@Ql9 P w K mg base a _ Qn0 T
 obtain⟨fd3,QjE,Qr7⟩:=FF.QjE
 have Qsc:=@Ql6 P w K mg base a _ QjE T
 obtain⟨fd4,F4,Qog⟩:=FF.Qoy
 have Qos:=@Qma P w K mg base a _ F4 T FF
 obtain⟨fd5,F5,Qpk⟩:=FF.QpE
 have Qpx:=@Qmb P w K mg base a _ F5 T FF
 refine F.ok VD (fun _ _ _ _ h=>by cases h;subst_vars;rfl) (fun cdv A outer st H vs Q E hr h=>?_)
 .obtain⟨own,b,db,xr,L,xt,xi,xf,es,ls,bx,mk,WI,W,M,n,x,c,hd,num,q,u,d,rfl,h,hx,hdu,h900,hsame,k0,k1,k2⟩:=h
  have hu:=Zr hr
  have hr8:QB 8 _:=hr
  have hr4:QB 4 _:=hr8.mono (by decide)
  have hr1:QB 1 _:=hr8.mono (by decide)
  refine⟨_,(Qd (Qy (i:=2) VD.nd rfl (Or.inl rfl) (Qr QN (pv 1) Qi))
   (Qd (QZ (Jw (Jf (QT (Qk (pv 0) rfl) T.jK T.Qoh Qon hr1 Qob .nil Ql (zr (Qj QtE hr1 rfl T.Qtp Qn0.kp Qtz .nil Ql (zr (pv 2) Qe)) (zr (Qj Qsc hr1 rfl T.Qr1 QjE.kp Qr7 .nil Ql (zr (pv 1) Qe)) (zr (Qr QN (pv 2) (Qk9 Qha Qi)) Qe)))))) (Qf Qe7) QD)
   (Qf (QZ (QL Yb (Qr QN (pv 2) Qi) Qp) (Qf (Qs (QT (pv 0) T.zL T.Qol Qos hr8 Qog .nil Ql (zr (Qr QN (pv 2) Qi) Qe)))) (Qf (QZ (Z2 (VR hu (Qr QN (pv 2) Qi) (Qk (pv 0) rfl))) (Qf (Qs (QT (pv 0) T.zL T.Qpp Qpx hr4 Qpk .nil Ql (zr (pv 2) Qe)))) QD)))))),?_⟩
  obtain⟨dxr,D,kd,rg,oxr,oF⟩:=id h.r
  refine⟨_,rfl,x,_,_,_,rfl,rfl,ye.of hx,Qu (j:=3) rfl,?_⟩
  refine⟨_,rfl,b,_,db,_,_,rfl,h.e,T.zL,T.yr,rfl,xr,dxr,_,rfl,rg.obj,rfl,_,rfl,q,d,rfl,hdu.at,fun kp H1 nk s1 ek=>?_⟩
  refine⟨_,rfl,x,c,hd,_,rfl,s1 _ _ hx,fun sp H2 ns s2 es2=>?_⟩
  have s12:=s1.trans s2
  have ox2:grow own 7 H xr=0:=by rw[Qn rg.obj];exact oxr
  have oF2:∀c,FP D kd c->grow own 7 H c=4:=fun c hc=>by obtain⟨kvs,e⟩:=rg.fp hc;rw[Qn e];exact oF c hc
  have B2:=h.quiet s12
  refine⟨_,rfl,_,rfl,q,_,_,_,rfl,rfl,ye.of (s12 _ _ hdu.e),Qem u d,xr,dxr,D,kd,es,kp,sp,ZM d,c,hd,ZT u d,rfl,rg.same s12,h900,QfD d,s2 _ _ ek,es2,fun kd' H3 rg' kk hF=>⟨_,rfl,?_⟩⟩
  obtain⟨r3,k3⟩:=RgO.own' (rg.same s12) ox2 oF2 rg' kk hF
  have B3:Brd a H3 (grow (grow own 7 H) 4 H2) b db xr L xt xi xf (QW es (ZM d,c,hd,ZT u d)) ls bx mk WI W M n:=⟨k3 _ _ B2.e (.inl (by rw[B2.o];decide)),by rw[Qn B2.e];exact B2.o,r3,B2.l.step k3 (by decide) (by decide),B2.t.step k3 (by decide) (by decide),B2.i.step k3 (by decide) (by decide),B2.f.step k3 (by decide) (by decide)⟩
  have kb3:KB own (grow (grow own 7 H) 4 H2) H H3:=(KB.same 7 s12).trans (KB.of k3 (by decide) (by decide))
  have kt:∀c xs,H c=some (.tup xs)->H3 c=some (.tup xs):=fun c xs e=>kb3.k _ _ e (.inr (.inr rfl))
  generalize grow (grow own 7 H) 4 H2=QrX at B3 kb3
  have qe:=kt _ _ hdu.e
  cases hk:Zs es (ZM d,c,hd,ZT u d) with
  | false=>exact Zi (k0 hk H3 QrX B3 kb3)
  | true =>
    refine Q4 ⟨_,rfl,q,_,_,_,rfl,rfl,ye.of qe,VZ u d,rfl,_,rfl,?_⟩
    rw[JF,Qcq]
    cases hp:ZB d with
    | true =>
      cases d with
      | put nm p =>
        obtain⟨fo,dr,hI,hn,j1,j2⟩:=k1 hk nm p rfl
        exact Zi ⟨_,rfl,b,db,_,rfl,B3.e,rfl,_,rfl,q,_,_,_,rfl,rfl,ye.of qe,Vb u (.put nm p),QrX,b,db,xr,L,xt,xi,xf,_,ls,bx,mk,WI,W,M,n,nm,p,u,fo,dr,rfl,B3,hI.kept kt,hn,hsame,fun z H' own' hB kB=>j1 z H' own' hB (kb3.trans kB),fun z y H' own' hB kB=>j2 z y H' own' hB (kb3.trans kB)⟩
      | place nm fo=>cases hp
      | mark nm y on=>cases hp
      | drop nm=>cases hp
    | false =>
      obtain⟨dk,j1,j2⟩:=k2 hk hp
      by_cases hm:d.nm∈ls.map LE.nm
      .obtain⟨le,hle,en⟩:=qd.mp hm
       refine Q4 ⟨_,rfl,q,_,_,_,rfl,rfl,ye.of qe,Vb u d,_,rfl,b,_,db,_,_,rfl,B3.e,T.zL,T.jc,rfl,L,some (.ref le.y),rfl,.inl ⟨_,Sum.inr d.nm,.inl B3.l.e,rfl,by rw[<-en];exact(Zq (g:=fun l=>V.ref l.y) B3.l.nd hle).symm⟩,_,rfl,Zi ?_⟩
       exact⟨_,rfl,b,db,_,rfl,B3.e,rfl,_,rfl,QrX,b,db,xr,L,xt,xi,xf,_,ls,bx,mk,WI,W,M,n,q,d,rfl,B3,hdu.at.tups kt,dk,hm,(hsame _).mpr hm,fun H' own' hB kB=>j1 hm H' own' hB (kb3.trans kB)⟩
      .refine Q4 ⟨_,rfl,q,_,_,_,rfl,rfl,ye.of qe,Vb u d,_,rfl,b,_,db,_,_,rfl,B3.e,T.zL,T.jc,rfl,L,none,rfl,.inl ⟨_,Sum.inr d.nm,.inl B3.l.e,rfl,(JB hm).symm⟩,_,rfl,Q4 ?_⟩
       exact j2 hm H3 QrX B3 kb3
end
section
open PySem.Spec PyProof.Rows
structure TxI(ws:QvX)(n:Nat)(x:Str):Prop where
 l:∀w∈(wsc x.cps.toList).1,w=Str.empty\/w∈ws
 c:(x=("":Str)/\(wsc x.cps.toList).2=Str.empty)\/(x≠("":Str)/\(wsc x.cps.toList).2∈ws)
 a:Asc x
 nn:¬10∈x.cps.toList
 len:x.length<=n
theorem JK(x y:Str):(x++y).cps.toList=x.cps.toList++y.cps.toList:=by show(x.cps++y.cps).toList=_;simp
theorem XR(x y:Str):wsc (x++y).cps.toList=y.cps.toList.foldl wst (wsc x.cps.toList):=by
 unfold wsc
 rw[JK,wg]
theorem Gp(f:Nat->Nat):∀(l:List Nat)(L:QvX)(c0:Str),(∀c∈l,KH (f c)=true/\lo1 (f c)=c)->(l.map f).foldl wst (L,c0)=(L,c0++⟨l.toArray⟩)
 | [],L,c0,_=>by show(L,c0)=(L,⟨c0.cps++#[]⟩);rw[Array.append_empty]
 | c :: l,L,c0,h=>by
   obtain⟨h1,h2⟩:=h c (qL ..)
   rw[qW,jl]
   have e:wst (L,c0) (f c)=(L,c0++⟨#[c]⟩):=by unfold wst;rw[qD h1,h2]
   rw[e,Gp f l L _ fun d hd=>h d (qP _ hd)]
   congr 1
   show(⟨(c0.cps++#[c])++l.toArray⟩:Str)=⟨c0.cps++(c :: l).toArray⟩
   congr 1
   apply Array.ext'
   simp
theorem Qmy:(aZ.cps.toList.all fun c=>KH c && decide (lo1 c=c) && KH (up1 c) && decide (lo1 (up1 c)=c) && decide (c≠10) && decide (up1 c≠10))=true:=by decide +kernel
theorem QfO{c:Nat}(h:c∈aZ.cps.toList):(KH c=true/\lo1 c=c)/\(KH (up1 c)=true/\lo1 (up1 c)=c)/\c≠10/\up1 c≠10:=by
 have:=jR.mp Qmy c h
 simp only[zQ,decide_eq_true_eq] at this
 obtain⟨⟨⟨⟨⟨a,b⟩,c'⟩,d⟩,e⟩,f⟩:=this
 exact⟨⟨a,b⟩,⟨c',d⟩,e,f⟩
theorem QgR{w:Str}(hw:J1 w)(L:QvX):w.cps.toList.foldl wst (L,Str.empty)=(L,w):=by
 have:=Gp id w.cps.toList L Str.empty fun c hc=>(QfO (hw.in_ c hc)).1
 rw[List.map_id] at this
 rw[this]
 congr 1
 show(⟨#[]++w.cps.toList.toArray⟩:Str)=w
 simp
theorem Qei{w:Str}(hw:J1 w)(L:QvX):(⟨w.cps.map up1⟩:Str).cps.toList.foldl wst (L,Str.empty)=(L,w):=by
 have:=Gp up1 w.cps.toList L Str.empty fun c hc=>(QfO (hw.in_ c hc)).2.1
 have e:(⟨w.cps.map up1⟩:Str).cps.toList=w.cps.toList.map up1:=by simp
 rw[e,this]
 congr 1
 show(⟨#[]++w.cps.toList.toArray⟩:Str)=w
 simp
theorem TxI.nil(ws:QvX):TxI ws 0 "":=⟨fun w h=>(nomatch (show w∈([]:QvX) from h)),.inl ⟨rfl,rfl⟩,fun c h=>(nomatch (show c∈([]:List Nat) from h)),fun h=>(nomatch (show 10∈([]:List Nat) from h)),qt _⟩
def Gap(g:Str):Prop:=g=" "\/g=", "\/g="-"
theorem Gap.fold{g:Str}(h:Gap g)(L:QvX)(c:Str):g.cps.toList.foldl wst (L,c)=(L++[c],Str.empty)\/g.cps.toList.foldl wst (L,c)=(L++[c]++[Str.empty],Str.empty):=by
 have r1:KH 32=false:=by decide +kernel
 have r2:KH 44=false:=by decide +kernel
 have r3:KH 45=false:=by decide +kernel
 rcases h with rfl | rfl | rfl
 .left
  show wst (L,c) 32=_
  unfold wst;rw[r1];rfl
 .right
  show wst (wst (L,c) 44) 32=_
  unfold wst;rw[r1,r2];rfl
 .left
  show wst (L,c) 45=_
  unfold wst;rw[r3];rfl
theorem Gap.asc{g:Str}(h:Gap g):Asc g/\¬10∈g.cps.toList/\g.length<=2:=by
 rcases h with rfl | rfl | rfl
 .exact⟨fun c hc=>by revert c;decide +kernel,by decide +kernel,by decide +kernel⟩
 .exact⟨fun c hc=>by revert c;decide +kernel,by decide +kernel,by decide +kernel⟩
 .exact⟨fun c hc=>by revert c;decide +kernel,by decide +kernel,by decide +kernel⟩
def Wrt(w y:Str):Prop:=y=w\/y=⟨w.cps.map up1⟩
theorem Wrt.fold{w y:Str}(h:Wrt w y)(hw:J1 w)(L:QvX):y.cps.toList.foldl wst (L,Str.empty)=(L,w):=by
 rcases h with rfl | rfl
 .exact QgR hw L
 .exact Qei hw L
theorem Wrt.asc{w y:Str}(h:Wrt w y)(hw:J1 w):Asc y/\¬10∈y.cps.toList/\y.length=w.length:=by
 rcases h with rfl | rfl
 .exact⟨hw.asc,fun h=>(QfO (hw.in_ _ h)).2.2.1 rfl,rfl⟩
 .refine⟨hw.asc.upper,fun h=>?_,by simp[Str.length]⟩
  have:10∈w.cps.toList.map up1:=by simpa using h
  obtain⟨d,hd,e⟩:=qd.mp this
  exact(QfO (hw.in_ _ hd)).2.2.2 e
theorem Vp(x y:Str):(x++y).length=x.length+y.length:=by simp only[Str.length];show(x.cps++y.cps).size=_;simp
theorem QcD{x:Str}(h:1<=x.length):x≠("":Str):=fun z=>by rw[z] at h;exact absurd h (by decide +kernel)
theorem TxI.step{ws:QvX}{n:Nat}{x g w y:Str}(h:TxI ws n x)(hg:(x=("":Str)/\g=("":Str))\/(x≠("":Str)/\Gap g))(hw:J1 w)(h18:w.length<=18)(hm:w∈ws)(hy:Wrt w y):TxI ws (n+20) (x++g++y):=by
 obtain⟨y1,y2,y3⟩:=hy.asc hw
 have lo:=hw.lo
 have hne:x++g++y≠("":Str):=QcD (by rw[Vp];omega)
 rcases hg with⟨e1,e2⟩ | ⟨e1,hg⟩
 .subst e1 e2
  have e:(("":Str)++("":Str)++y)=y:=by show(⟨#[]++#[]++y.cps⟩:Str)=y;simp
  rw[e] at hne ⊢
  have f:wsc y.cps.toList=([],w):=hy.fold hw []
  exact⟨fun v hv=>by rw[f] at hv;(cases hv),.inr ⟨hne,by rw[f];exact hm⟩,y1,y2,by omega⟩
 .obtain⟨g1,g2,g3⟩:=hg.asc
  have hc:(wsc x.cps.toList).2∈ws:=by
   rcases h.c with⟨q,_⟩ | ⟨_,q⟩
   .exact absurd q e1
   .exact q
  have hlen:=h.len
  refine⟨fun v hv=>?_,.inr ⟨hne,?_⟩,(h.a.app g1).app y1,fun hv=>?_,by rw[Vp,Vp];omega⟩
  .rw[XR,XR] at hv
   rcases hg.fold (wsc x.cps.toList).1 (wsc x.cps.toList).2 with f | f
   .rw[show(wsc x.cps.toList)=((wsc x.cps.toList).1,(wsc x.cps.toList).2) from rfl,f,hy.fold hw] at hv
    rcases qx.mp hv with q | q
    .exact h.l v q
    .rw[ql.mp q];exact .inr hc
   .rw[show(wsc x.cps.toList)=((wsc x.cps.toList).1,(wsc x.cps.toList).2) from rfl,f,hy.fold hw] at hv
    rcases qx.mp hv with q | q
    .rcases qx.mp q with q | q
     .exact h.l v q
     .rw[ql.mp q];exact .inr hc
    .rw[ql.mp q];exact .inl rfl
  .rw[XR,XR]
   rcases hg.fold (wsc x.cps.toList).1 (wsc x.cps.toList).2 with f | f
   .rw[show(wsc x.cps.toList)=((wsc x.cps.toList).1,(wsc x.cps.toList).2) from rfl,f,hy.fold hw];exact hm
   .rw[show(wsc x.cps.toList)=((wsc x.cps.toList).1,(wsc x.cps.toList).2) from rfl,f,hy.fold hw];exact hm
  .rw[JK,JK] at hv
   rcases qx.mp hv with q | q
   .rcases qx.mp q with q | q
    .exact h.nn q
    .exact g2 q
   .exact y2 q
theorem TxI.up{ws:QvX}{n m:Nat}{x:Str}(h:TxI ws n x)(k:n<=m):TxI ws m x:=⟨h.l,h.c,h.a,h.nn,zx h.len k⟩
theorem TxI.uP{ws:QvX}{n:Nat}{x:Str}(h:TxI ws n x):∀w∈L2.uP x,w∈ws:=fun w hw=>by
 unfold L2.uP at hw
 obtain⟨h1,h2⟩:=qu.mp hw
 have ne:w≠Str.empty:=fun z=>by rw[z] at h2;exact absurd h2 (by decide +kernel)
 rcases qx.mp h1 with q | q
 .exact(h.l w q).resolve_left ne
 .have q:=ql.mp q
  rcases h.c with⟨_,e⟩ | ⟨_,e⟩
  .exact absurd (q.trans e) ne
  .rw[q];exact e
theorem Wp:∀(xs acc:QvX),acc.Nodup->(xs.foldl ZD acc).Nodup
 | [],_,h=>h
 | x :: xs,acc,h=>by
   rw[jl]
   refine Wp xs _ ?_
   unfold ZD
   split
   .exact h
   .rename_i hx
    rw[jZ]
    refine⟨h,by simp,fun a ha b hb e=>?_⟩
    rw[ql.mp hb] at e
    exact hx (e▸ha)
theorem Qkn(xs:QvX):(Y2 xs).Nodup:=Wp xs [] zV
theorem KW:∀{xs ys:QvX},xs.Nodup->(∀x∈xs,x∈ys)->xs.length<=ys.length
 | [],_,_,_=>zK _
 | x :: xs,ys,nd,h=>by
   rw[jf] at nd
   have hx:=h x (qL ..)
   have:xs.length<=(ys.erase x).length:=KW nd.2 fun z hz=>(List.mem_erase_of_ne (fun(e:z=x)=>nd.1 (by rw[<-e];exact hz))).mpr (h z (qP _ hz))
   rw[List.length_erase_of_mem hx] at this
   have:0<ys.length:=List.length_pos_of_mem hx
   rw[za];omega
end
theorem XZ{n k:Nat}(h:k<n):ixN n (k:Int)=some k:=by
 unfold ixN
 rw[qD (by omega),qD (by omega)]
 rfl
def hS:Str:="abcdefghijklmnopqrstuvwxyz"
structure Qlj(x:Str):Prop where
 lo:1<=x.length
 hi:x.length<=8
 in_:∀c∈x.cps.toList,c∈hS.cps.toList
theorem hS_at:∀k:Nat,k<26->hS.cps.toList[k]?=some (97+k):=by decide +kernel
theorem Qfv{i:Int}(h0:0<=i)(h1:i<26):atI hS.cps.toList i=some (97+i.toNat)/\97+i.toNat∈hS.cps.toList:=by
 have hl:(hS.cps.toList.length:Int)=26:=by decide +kernel
 obtain⟨n,rfl⟩:=jr h0
 have hn:n<26:=by omega
 have e:=hS_at n hn
 exact⟨by rw[Qu e];rfl,qU e⟩
structure QvT(z:Nat)(f:Int)(j:Nat)(y:Str):Prop where
 h:Qlj y
 len:z+1<=y.length
 at_:y.cps.toList[z]?=some (97+((f+7*(j:Int)) % 26).toNat)
theorem Uq(x:Str):x.length=x.cps.toList.length:=by simp[Str.length]
theorem QiZ{x:Str}{z:Nat}{c:Nat}(hz:z<=x.length):(Txt.slice x none (some (z:Int))++⟨#[c]⟩++Txt.slice x (some (z:Int)) none).cps.toList=x.cps.toList.take z++[c]++x.cps.toList.drop z:=by
 rw[Qdf,Qdf,Kt,Kv]
structure QjA(hs:QvX):Prop where
 n0:1<=hs.length
 n1:hs.length<=4
 nd:hs.Nodup
 h:∀y∈hs,Qlj y
theorem Qfu{z:Nat}{f:Int}{ys:QvX}(h:∀j y,ys[j]?=some y->QvT z f j y)(h0:1<=ys.length)(h4:ys.length<=4):QjA ys:=by
 refine⟨h0,h4,?_,fun y hy=>?_⟩
 .show List.Pairwise _ _
  rw[List.pairwise_iff_getElem]
  intro i j hi hj hij e
  have a1:=(h j _ (qz hj)).at_
  have a2:=(h i _ (qz hi)).at_
  rw[e,a1] at a2
  have:=qR a2
  omega
 .obtain⟨j,hj⟩:=List.getElem?_of_mem hy
  exact(h j y hj).h
inductive Kp(K:Frag)(vs:List V)(H:Hp)(Q:VK):Prop
 | mk:∀(st sc:Addr)(ls:List Int)(m:Nat),vs=[.ref st,.int m]->StA K H st sc ls->ls.length<=63->1<=m->m<=4->(∀(l:Addr)(xs:QvX) H',H l=none->QjA xs->xs.length=m->H' l=some (.lst (xs.map V.str))->SX st H H'->StA K H' st sc ls->Q (.ref l) H')->Kp K vs H Q
def QhC(K:Frag):Sp:=fun vs H Q _=>Kp K vs H Q
theorem StA.put{K:Frag}{H H0:Hp}{st sc l:Addr}{ls:List Int}{o:HO}(h:StA K H st sc ls)(h0:jH K H0 sc (ls.map V.int))(hl:H0 l=none)(n:l≠st):StA K (upd H l o) st sc ls:=by
 obtain⟨⟨n',c,e,b⟩,hq⟩:=h
 exact⟨⟨n',c,by rw[Qa n.symm];exact e,b⟩,QeH h0 hl hq fun c o nc e=>by rw[Qa nc];exact e⟩
section
variable {P:Program}{w:World}{K:Frag}{mg:Str->Option Value}{base:Heap}{a:z8}
theorem Qgk{fd:FuncData}(F:jn K "_law_hands" "_law_hands" Wa a.QmU fd)(T:Txt K mg a)(FF:ZE K a):QO P w K mg base xN 3 a.QmU fd ["_law_state","_law_many"] (QhC K):=by
 obtain⟨fdW,v7,QnU⟩:=FF.v7
 obtain⟨fdN,zg,zX⟩:=FF.zg
 have QnY:=@Qff P w K mg base a _ v7 T FF
 have zY:=@YZ P w K mg base a _ zg T
 refine F.ok Je (fun _ _ _ _ h=>by cases h;subst_vars;rfl) (fun cdv A outer s H vs Q E hr h=>?_)
 .obtain⟨st,sc,ls,m,rfl,sa,hl,m1,m4,k⟩:=h
  have QmP:QB 2 _:=hr
  have zZ:QB 1 _:=hr.mono (by decide)
  refine⟨_,(Qd (Qy (i:=2) Je.nd rfl (Or.inl rfl) Qp)
   (Qd (Qy (i:=3) Je.nd rfl (Or.inl rfl) (Qj QnY QmP rfl T.Qo4 v7.kp QnU .nil Ql (zr (pv 0) (zr (pv 2) (zr Qi Qe)))))
   (Qd (Qy (i:=4) Je.nd rfl (Or.inl rfl) (QP Zh (Qj zY zZ rfl T.jh zg.kp zX .nil Ql (zr (pv 0) Qe)) (QP Jx (QC Yp rfl T.QlO jN (zr (pv 3) Qe)) Qi)))
   (Qd (Qy (i:=5) Je.nd rfl (Or.inl rfl) (QP Zh (Qj zY zZ rfl T.jh zg.kp zX .nil Ql (zr (pv 0) Qe)) Qi))
   (Qd (Qy (i:=6) Je.nd rfl (Or.inl rfl) (ZJ Qz))
   (Qd (Uz yP rfl (WU rfl T.QqL (zr (pv 1) Qe)) (ZI (i:=7) Je.nd rfl (Or.inl rfl)) (Qf (Qs (QaE plainAttrs_list gJ gK Uj (pv 6) (zr (QP Jg (QP Jg (Ug QdC (pv 3) Vk (Vj (pv 4))) (Qr QiV (pv 2) (QP Zh (QP Jx (pv 5) (QP Qh9 Qi (pv 7))) Qi))) (Ug QdC (pv 3) (Vj (pv 4)) Vk)) Qe)))))
   (Qd (QZ (QL Yb (QP Zh (Qj zY zZ rfl T.jh zg.kp zX .nil Ql (zr (pv 0) Qe)) Qi) Qi) (Qf (VP (Ug QdC (Qr QR (pv 6) Qi) Vk (Vj (QP Jx (pv 4) Qi))) (WV (pv 6) Qi Uc))) QD)
   (Qf (QJ (pv 6)))))))))),?_⟩
  refine⟨_,rfl,_,rfl,st,sc,ls,hS,7,rfl,sa,hl,by decide,by decide,(by decide +kernel),(by decide +kernel),fun b H1 wb x1 sa1=>?_⟩
  have hb1:=wb.lo
  have hb7:b.length<=7:=by have:=wb.hi;omega
  refine⟨_,rfl,st,sc,ls,rfl,sa1,hl,fun r2 H2 r20 r21 x2 sa2=>⟨_,rfl,b,rfl,Zg ((by omega)),_,_,rfl,rfl,_,_,rfl,rfl,(by omega),?_⟩⟩
  have z0:=zF r2 (b:=(b.length:Int)+1) (by omega)
  have z1:=zu r2 (b:=(b.length:Int)+1) (by omega)
  generalize r2 % ((b.length:Int)+1)=zz at z0 z1
  obtain⟨z,rfl⟩:=jr z0
  have hz:z<=b.length:=by omega
  refine⟨_,rfl,st,sc,ls,rfl,sa2,hl,fun r3 H3 r30 r31 x3 sa3=>⟨_,_,rfl,rfl,QkY,?_⟩⟩
  have x03:=(x1.trans x2).trans x3
  refine⟨zK _,fun l H4 hl3 s4 e4=>?_⟩
  have sa4:=sa3.of s4
  have x04:=x03.trans (SX.of s4)
  have lst:l≠st:=fun q=>by obtain⟨_,e⟩:=sa3.lst;rw[q,e] at hl3;cases hl3
  have hl0:H l=none:=by
   cases e:H l with
   | none=>rfl
   | some o=>rw[x03 _ _ lst e] at hl3;cases hl3
  have lH:∀c o,H c=some o->c≠l:=fun c o e=>Qb e hl0
  generalize r3 % 26=f
  have mk:∀i:Nat,QvT z f i (Txt.slice b none (some (z:Int))++⟨#[97+((f+7*(i:Int)) % 26).toNat]⟩++Txt.slice b (some (z:Int)) none):=fun i=>by
   obtain⟨_,hcm⟩:=Qfv (i:=(f+7*(i:Int)) % 26) (zF _ (by decide)) (zu _ (by decide))
   have hy:=QiZ (x:=b) (z:=z) (c:=97+((f+7*(i:Int)) % 26).toNat) hz
   have hyl:(Txt.slice b none (some (z:Int))++⟨#[97+((f+7*(i:Int)) % 26).toNat]⟩++Txt.slice b (some (z:Int)) none).length=b.length+1:=by
    rw[Uq,hy,qI,qI,zN,kO,qT,<-Uq];omega
   refine⟨⟨by omega,by omega,fun d hd=>?_⟩,by omega,?_⟩
   .rw[hy] at hd
    rcases qx.mp hd with q | q
    .rcases qx.mp q with q | q
     .exact wb.in_ _ (List.mem_of_mem_take q)
     .rw[ql.mp q];exact hcm
    .exact wb.in_ _ (List.mem_of_mem_drop q)
   .have hbl:b.cps.toList.length=b.length:=(Uq b).symm
    rw[hy,Qoz,QnK (by rw[zN];omega),zN,Qm4 (by omega),Nat.sub_self]
    rfl
  refine⟨_,rfl,_,rfl,by omega,by omega,QaW (n:=(m:Int).toNat) (fun i σ G=>∃(o7:Option V)(ys:QvX),σ=[some (.ref st),some (.int m),some (.str hS),some (.str b),some (.int (z:Int)),some (.int f),some (.ref l),o7]/\ys.length=i/\(∀j y,ys[j]?=some y->QvT z f j y)/\G l=some (.lst (ys.map V.str))/\SX st H G/\StA K G st sc ls) ⟨none,[],rfl,rfl,fun j y h=>(by cases h),e4,x04,sa4⟩ ?_ ?_⟩
  .rintro i σ G hi ⟨o7,ys,rfl,hyl,hys,eG,xG,saG⟩
   obtain⟨hc,_⟩:=Qfv (i:=(f+7*(0+(i:Int))) % 26) (zF _ (by decide)) (zu _ (by decide))
   have sl1:(Txt.slice b none (some (z:Int))).length<=8:=zx (QgZ b z) (by omega)
   have sl2:(Txt.slice b (some (z:Int)) none).length<=8:=by rw[Uq,Kv,kO,<-Uq];omega
   refine⟨_,rfl,.inl ⟨rfl,_,jH.of eG⟩,_,rfl,_,rfl,_,rfl,b,rfl,Zg ((by omega)),_,rfl,_,rfl,_,rfl,_,_,rfl,rfl,.inl ⟨by decide,by decide⟩,_,_,rfl,rfl,_,_,rfl,rfl,QkY,hS,_,_,rfl,rfl,(by decide +kernel),hc,?_⟩
   refine⟨_,_,rfl,rfl,(by rw[Qbr];exact Zg ((by omega))),?_⟩
   refine⟨_,rfl,_,rfl,_,rfl,b,rfl,Zg ((by omega)),?_⟩
   refine⟨_,_,rfl,rfl,(by rw[QfM,Qbr];exact Zg ((by omega))),?_⟩
   refine⟨l,_,_,rfl,rfl,eG,(by rw[qi];exact QK (by omega)),?_⟩
   refine⟨_,ys++[_],rfl,by rw[qI,hyl];rfl,fun j y hj=>?_,by rw[Qc,qQ];rfl,fun c o n e=>by rw[Qa (lH c o e)];exact xG c o n e,saG.put sa.sq hl0 lst⟩
   rcases Nat.lt_or_ge j ys.length with h | h
   .rw[List.getElem?_append_left h] at hj;exact hys j y hj
   .rw[QnK h] at hj
    have:j - ys.length=0:=by
     rcases Nat.eq_zero_or_pos (j - ys.length) with q | q
     .exact q
     .rw[Qll (by rw[qT];omega)] at hj;cases hj
    rw[this] at hj
    have ej:j=i:=by omega
    have hj:=qR hj
    rw[<-hj,ej,show(0:Int)+(i:Int)=(i:Int) from Int.zero_add _]
    exact mk i
  .rintro σ G ⟨o7,ys,rfl,hyl,hys,e5,x05,sa5⟩
   have hyl:ys.length=m:=by omega
   refine⟨_,rfl,st,sc,ls,rfl,sa5,hl,fun r6 H6 r60 r61 x6 sa6=>⟨_,_,rfl,rfl,Qu2,rfl,_,rfl,?_⟩⟩
   have e6:=x6 _ _ lst e5
   have x06:=x05.trans x6
   refine Qc0 (fun _=>?_) (fun _=>⟨_,rfl,k l ys H6 hl0 (Qfu hys (by omega) (by omega)) hyl e6 x06 sa6⟩)
   obtain⟨y,ys',rfl⟩:∃y ys',ys=y :: ys':=by
    cases ys with
    | nil=>exact absurd hyl (by show ¬0=m;omega)
    | cons y ys'=>exact⟨y,ys',rfl⟩
   have hy:=hys 0 y rfl
   refine⟨_,rfl,l,_,_,_,rfl,rfl,jH.of e6,Qu (j:=0) rfl,_,rfl,_,_,rfl,rfl,_,rfl,y,rfl,Zg ((by have:=hy.h.hi;omega)),?_⟩
   refine⟨_,rfl,l,_,_,0,rfl,rfl,e6,XZ (k:=0) (by rw[qi,za];omega),?_⟩
   have hc:(Txt.slice y none (some ((z:Int)+1))).cps.toList=y.cps.toList.take (z+1):=Kt y (z+1)
   have hlen:=hy.len
   have hcl:(Txt.slice y none (some ((z:Int)+1))).length=z+1:=by rw[Uq,hc,zN,<-Uq];omega
   refine⟨_,rfl,k l (Txt.slice y none (some ((z:Int)+1)) :: ys') _ hl0 (Qfu (z:=z) (f:=f) (fun j x hj=>?_) (by rw[za];omega) (by rw[za] at hyl ⊢;omega)) hyl Qc (fun c o n e=>by rw[Qa (lH c o e)];exact x06 c o n e) (sa6.put sa.sq hl0 lst)⟩
   cases j with
   | zero =>
     have hj:=qR hj
     subst hj
     refine⟨⟨by omega,by have:=hy.h.hi;omega,fun c h=>hy.h.in_ c (List.mem_of_mem_take (by rw[hc] at h;exact h))⟩,by omega,?_⟩
     rw[hc,List.getElem?_take_of_lt (by omega)]
     exact hy.at_
   | succ j=>exact hys (j+1) x hj
end
abbrev wdK(hl wl nl pl cl ml:Addr):List (Key×V):=[(Sum.inr "hands",.ref hl),(Sum.inr "words",.ref wl),(Sum.inr "names",.ref nl),(Sum.inr "puts",.ref pl),(Sum.inr "clocks",.ref cl),(Sum.inr "numbers",.ref ml)]
section
variable {hl wl nl pl cl ml:Addr}
theorem Y8:some (V.ref hl)=Qt (wdK hl wl nl pl cl ml) (Sum.inr ("hands":Str)):=by rfl
theorem QbK:some (V.ref wl)=Qt (wdK hl wl nl pl cl ml) (Sum.inr ("words":Str)):=by rfl
theorem V2:some (V.ref nl)=Qt (wdK hl wl nl pl cl ml) (Sum.inr ("names":Str)):=by rfl
theorem XS:some (V.ref pl)=Qt (wdK hl wl nl pl cl ml) (Sum.inr ("puts":Str)):=by rfl
theorem WC:some (V.ref cl)=Qt (wdK hl wl nl pl cl ml) (Sum.inr ("clocks":Str)):=by rfl
theorem VN:some (V.ref ml)=Qt (wdK hl wl nl pl cl ml) (Sum.inr ("numbers":Str)):=by rfl
end
structure WA where
 st:Addr
 sc:Addr
 s:Addr
 hl:Addr
 wl:Addr
 nl:Addr
 pl:Addr
 cl:Addr
 ml:Addr
structure WD where
 hands:QvX
 words:QvX
 names:QvX
 v9:List Int
 jP:List Int
 nums:List Int
def WA.all(A:WA):List Addr:=[A.st,A.s,A.hl,A.wl,A.nl,A.pl,A.cl,A.ml]
def WA.ch(A:WA):List Addr:=[A.st,A.nl,A.pl,A.cl,A.ml]
structure vK(K:Frag)(H:Hp)(A:WA)(ls:List Int)(D:WD):Prop where
 sa:StA K H A.st A.sc ls
 e:H A.s=some (.dK (wdK A.hl A.wl A.nl A.pl A.cl A.ml))
 eh:H A.hl=some (.lst (D.hands.map V.str))
 ew:H A.wl=some (.lst (D.words.map V.str))
 en:H A.nl=some (.lst (D.names.map V.str))
 ep:H A.pl=some (.lst (D.v9.map V.int))
 ec:H A.cl=some (.lst (D.jP.map V.int))
 em:H A.ml=some (.lst (D.nums.map V.int))
 nd:A.all.Nodup
 scn:(∀G:Hp,jH K G A.sc (ls.map V.int))\/A.sc∉A.all
def dig(n:Int):Str:=Str.ofString (toString n)
def NmS(hs:QvX)(x:Str):Prop:=∃h∈hs,∃n:Nat,1<=n/\n<=9/\x=h++dig n
structure WOk(n:Nat)(D:WD):Prop where
 hs:QjA D.hands
 w0:0<D.words.length
 w5:D.words.length<=5
 ws:∀w∈D.words,J1 w/\w.length<=18
 pl:D.v9.length=D.hands.length
 cl:D.jP.length=D.hands.length
 ml:D.nums.length=D.hands.length
 pb:∀p∈D.v9,0<=p/\p<=8
 nm:∀x∈D.names,∃(k:Nat)(h:Str)(p:Int)(n:Nat),D.hands[k]?=some h/\D.v9[k]?=some p/\1<=n/\(n:Int)<=p/\x=h++dig n
 nl:D.names.length<=n
theorem WOk.nms{n:Nat}{D:WD}(h:WOk n D):∀x∈D.names,NmS D.hands x:=fun x hx=>by
 obtain⟨k,hd,p,m,h1,h2,h3,h4,h5⟩:=h.nm x hx
 have:=(h.pb p (qU h2)).2
 exact⟨hd,qU h1,m,h3,by omega,h5⟩
theorem Xe:∀n:Nat,n<10->(dig n).cps.size=1/\((dig n).cps.toList.all fun c=>decide (c∈aZ.cps.toList))=true:=by decide +kernel
theorem QkR:∀n:Nat,n<10->∀m:Nat,m<10->dig n=dig m->n=m:=by decide +kernel
theorem hS_aZ:(hS.cps.toList.all fun c=>decide (c∈aZ.cps.toList))=true:=by decide +kernel
theorem NmS.word{hs:QvX}{x:Str}(h:NmS hs x)(ok:QjA hs):J1 x:=by
 obtain⟨y,hy,n,n1,n9,rfl⟩:=h
 have hh:=ok.h y hy
 obtain⟨d1,d2⟩:=Xe n (by omega)
 have l1:=hh.lo
 have l2:=hh.hi
 have l3:(dig n).length=1:=d1
 refine⟨by rw[Vp];omega,by rw[Vp];omega,fun c hc=>?_⟩
 rw[JK] at hc
 rcases qx.mp hc with q | q
 .exact qg (jR.mp hS_aZ c (hh.in_ c q))
 .exact qg (jR.mp d2 c q)
theorem QiA{x y:Str}{n m:Nat}(hn:n<10)(hm:m<10)(h:x++dig n=y++dig m):x=y/\n=m:=by
 have e:(x++dig n).cps.toList=(y++dig m).cps.toList:=by rw[h]
 rw[JK,JK] at e
 have l1:(dig n).cps.toList.length=1:=by have:=(Xe n hn).1;rw[zf];exact this
 have l2:(dig m).cps.toList.length=1:=by have:=(Xe m hm).1;rw[zf];exact this
 obtain⟨e1,e2⟩:=List.append_inj' e (by rw[l1,l2])
 have f:∀{a b:Str},a.cps.toList=b.cps.toList->a=b:=fun{a b} q=>by
  cases a;cases b;congr 1;exact Array.toList_inj.mp q
 exact⟨f e1,QkR n hn m hm (f e2)⟩
section
variable {K:Frag}{H H':Hp}{A:WA}{ls:List Int}{D:WD}
theorem vK.ne{a b:Addr}(h:vK K H A ls D){i j:Nat}(hi:A.all[i]?=some a)(hj:A.all[j]?=some b)(hij:i≠j):a≠b:=fun e=>by
 subst e
 exact hij (List.getElem?_inj (zp.mp hi).1 h.nd |>.mp (hi.trans hj.symm))
theorem vK.sx(h:vK K H A ls D)(x:SX A.st H H')(sa:StA K H' A.st A.sc ls):vK K H' A ls D :=
 ⟨sa,x _ _ (h.ne (i:=1) (j:=0) rfl rfl (by decide)) h.e,x _ _ (h.ne (i:=2) (j:=0) rfl rfl (by decide)) h.eh,x _ _ (h.ne (i:=3) (j:=0) rfl rfl (by decide)) h.ew,x _ _ (h.ne (i:=4) (j:=0) rfl rfl (by decide)) h.en,x _ _ (h.ne (i:=5) (j:=0) rfl rfl (by decide)) h.ep,x _ _ (h.ne (i:=6) (j:=0) rfl rfl (by decide)) h.ec,x _ _ (h.ne (i:=7) (j:=0) rfl rfl (by decide)) h.em,h.nd,h.scn⟩
theorem vK.same(h:vK K H A ls D)(s:Qo H H'):vK K H' A ls D:=h.sx (SX.of s) (h.sa.of s)
theorem StA.upd{st sc l:Addr}{o:HO}(h:StA K H st sc ls)(n:l≠st)(m:(∀G:Hp,jH K G sc (ls.map V.int))\/sc≠l):StA K (upd H l o) st sc ls:=by
 obtain⟨⟨n',c,e,b⟩,hq⟩:=h
 refine⟨⟨n',c,by rw[Qa n.symm];exact e,b⟩,?_⟩
 rcases m with m | m
 .exact m _
 rcases hq with(h | ⟨o',h⟩) | h
 .exact .inl (.inl (by rw[Qa m];exact h))
 .exact .inl (.inr ⟨o',by rw[Qa m];exact h⟩)
 .exact .inr h
theorem vK.Qt6{a:Addr}(h:vK K H A ls D){i:Nat}(hi:A.all[i]?=some a):(∀G:Hp,jH K G A.sc (ls.map V.int))\/A.sc≠a:=h.scn.imp id fun q e=>q (e▸qU hi)
theorem vK.putN{xs:QvX}(h:vK K H A ls D):vK K (L2.upd H A.nl (.lst (xs.map V.str))) A ls { D with names:=xs } :=
 ⟨h.sa.upd (h.ne (i:=4) (j:=0) rfl rfl (by decide)) (h.Qt6 (i:=4) rfl),by rw[Qa (h.ne (i:=1) (j:=4) rfl rfl (by decide))];exact h.e,by rw[Qa (h.ne (i:=2) (j:=4) rfl rfl (by decide))];exact h.eh,by rw[Qa (h.ne (i:=3) (j:=4) rfl rfl (by decide))];exact h.ew,Qc,by rw[Qa (h.ne (i:=5) (j:=4) rfl rfl (by decide))];exact h.ep,by rw[Qa (h.ne (i:=6) (j:=4) rfl rfl (by decide))];exact h.ec,by rw[Qa (h.ne (i:=7) (j:=4) rfl rfl (by decide))];exact h.em,h.nd,h.scn⟩
theorem vK.putP{xs:List Int}(h:vK K H A ls D):vK K (L2.upd H A.pl (.lst (xs.map V.int))) A ls { D with v9:=xs } :=
 ⟨h.sa.upd (h.ne (i:=5) (j:=0) rfl rfl (by decide)) (h.Qt6 (i:=5) rfl),by rw[Qa (h.ne (i:=1) (j:=5) rfl rfl (by decide))];exact h.e,by rw[Qa (h.ne (i:=2) (j:=5) rfl rfl (by decide))];exact h.eh,by rw[Qa (h.ne (i:=3) (j:=5) rfl rfl (by decide))];exact h.ew,by rw[Qa (h.ne (i:=4) (j:=5) rfl rfl (by decide))];exact h.en,Qc,by rw[Qa (h.ne (i:=6) (j:=5) rfl rfl (by decide))];exact h.ec,by rw[Qa (h.ne (i:=7) (j:=5) rfl rfl (by decide))];exact h.em,h.nd,h.scn⟩
theorem vK.putC{xs:List Int}(h:vK K H A ls D):vK K (L2.upd H A.cl (.lst (xs.map V.int))) A ls { D with jP:=xs } :=
 ⟨h.sa.upd (h.ne (i:=6) (j:=0) rfl rfl (by decide)) (h.Qt6 (i:=6) rfl),by rw[Qa (h.ne (i:=1) (j:=6) rfl rfl (by decide))];exact h.e,by rw[Qa (h.ne (i:=2) (j:=6) rfl rfl (by decide))];exact h.eh,by rw[Qa (h.ne (i:=3) (j:=6) rfl rfl (by decide))];exact h.ew,by rw[Qa (h.ne (i:=4) (j:=6) rfl rfl (by decide))];exact h.en,by rw[Qa (h.ne (i:=5) (j:=6) rfl rfl (by decide))];exact h.ep,Qc,by rw[Qa (h.ne (i:=7) (j:=6) rfl rfl (by decide))];exact h.em,h.nd,h.scn⟩
theorem vK.putM{xs:List Int}(h:vK K H A ls D):vK K (L2.upd H A.ml (.lst (xs.map V.int))) A ls { D with nums:=xs } :=
 ⟨h.sa.upd (h.ne (i:=7) (j:=0) rfl rfl (by decide)) (h.Qt6 (i:=7) rfl),by rw[Qa (h.ne (i:=1) (j:=7) rfl rfl (by decide))];exact h.e,by rw[Qa (h.ne (i:=2) (j:=7) rfl rfl (by decide))];exact h.eh,by rw[Qa (h.ne (i:=3) (j:=7) rfl rfl (by decide))];exact h.ew,by rw[Qa (h.ne (i:=4) (j:=7) rfl rfl (by decide))];exact h.en,by rw[Qa (h.ne (i:=5) (j:=7) rfl rfl (by decide))];exact h.ep,by rw[Qa (h.ne (i:=6) (j:=7) rfl rfl (by decide))];exact h.ec,Qc,h.nd,h.scn⟩
def KX(xs:List Addr)(H H':Hp):Prop:=∀c o,c∉xs->H c=some o->H' c=some o
theorem KX.trans{xs:List Addr}{H H' H'':Hp}(x:KX xs H H')(y:KX xs H' H''):KX xs H H'':=fun c o n e=>y c o n (x c o n e)
theorem KX.of{xs:List Addr}{H H':Hp}(s:Qo H H'):KX xs H H':=fun c o _ e=>s c o e
theorem KX.sx{xs:List Addr}{st:Addr}{H H':Hp}(hs:st∈xs)(s:SX st H H'):KX xs H H':=fun c o n e=>s c o (fun z=>n (z▸hs)) e
theorem KX.upd{xs:List Addr}{l:Addr}{o':HO}(hs:l∈xs):KX xs H (L2.upd H l o'):=fun c o n e=>by rw[Qa (fun(z:c=l)=>n (by rw[z];exact hs))];exact e
end
theorem KM{ws:QvX}(r:Int)(h:0<ws.length):∃w,atI (ws.map V.str) (r % ((ws.map V.str).length:Nat))=some (.str w)/\w∈ws:=by
 obtain⟨v,h1,h2,_⟩:=GC (xs:=ws.map V.str) (i:=r % ((ws.map V.str).length:Nat)) (zF _ (by rw[qi];omega)) (zu _ (by rw[qi];omega))
 obtain⟨w,hw,rfl⟩:=qd.mp h2
 exact⟨w,h1,hw⟩
theorem VL{α:Type}{f:α->V}{xs:List α}{k:Nat}{x:α}(h:xs[k]?=some x):atI (xs.map f) (k:Int)=some (f x):=Qu (by rw[q8,h];rfl)
inductive Ke(K:Frag)(vs:List V)(H:Hp)(Q:VK):Prop
 | mk:∀(A:WA)(ls:List Int)(D:WD)(n:Nat),vs=[.ref A.st,.ref A.s]->vK K H A ls D->WOk n D->ls.length<=63->(∀(x:Str) H',x∈D.words->SX A.st H H'->vK K H' A ls D->Q (.str x) H')->Ke K vs H Q
def Qho(K:Frag):Sp:=fun vs H Q _=>Ke K vs H Q
inductive Kh(K:Frag)(vs:List V)(H:Hp)(Q:VK):Prop
 | mk:∀(A:WA)(ls:List Int)(D:WD)(n:Nat),vs=[.ref A.st,.ref A.s]->vK K H A ls D->WOk n D->ls.length<=63->(∀(x:Str) H',TxI D.words 60 x->SX A.st H H'->vK K H' A ls D->Q (.str x) H')->Kh K vs H Q
def Qhr(K:Frag):Sp:=fun vs H Q _=>Kh K vs H Q
inductive Qap(K:Frag)(vs:List V)(H:Hp)(Q:VK):Prop
 | mk:∀(A:WA)(ls:List Int)(D:WD)(hd:Str),vs=[.ref A.st,.ref A.s,.str hd]->vK K H A ls D->hd∈D.hands->QjA D.hands->(∀x∈D.names,NmS D.hands x)->ls.length<=63->(∀(x:Str) H',NmS D.hands x->SX A.st H H'->vK K H' A ls D->Q (.str x) H')->Qap K vs H Q
def QjU(K:Frag):Sp:=fun vs H Q _=>Qap K vs H Q
theorem W7{i:Int}(h0:0<=i)(h1:i<=1000):i.natAbs.log2<1920:=by
 have h:i.natAbs<=1000:=by omega
 rcases Nat.eq_zero_or_pos i.natAbs with e | e
 .rw[e];decide
 .exact zm (Nat.log2_lt (by omega) |>.mpr (vH h (by decide:1000<2 ^ 10))) (by decide)
theorem Qmo{z:Int}(z0:0<=z)(z1:z<4):∃g:Str,atI [V.str " ",V.str " ",V.str ", ",V.str "-"] z=some (.str g)/\Gap g:=by
 obtain⟨n,rfl⟩:=jr z0
 have h1:n<4:=QpM.mp z1
 match n,h1 with
 | 0,_=>exact⟨_,rfl,.inl rfl⟩
 | 1,_=>exact⟨_,rfl,.inl rfl⟩
 | 2,_=>exact⟨_,rfl,.inr (.inl rfl)⟩
 | 3,_=>exact⟨_,rfl,.inr (.inr rfl)⟩
theorem Qlm{w:Str}{z:Int}(z0:0<=z)(z1:z<3):∃y:Str,atI [V.str w,V.str w,V.str ⟨w.cps.map PyProof.Rows.up1⟩] z=some (.str y)/\Wrt w y:=by
 obtain⟨n,rfl⟩:=jr z0
 have h1:n<3:=QpM.mp z1
 match n,h1 with
 | 0,_=>exact⟨_,rfl,.inl rfl⟩
 | 1,_=>exact⟨_,rfl,.inl rfl⟩
 | 2,_=>exact⟨_,rfl,.inr rfl⟩
section
variable {P:Program}{w:World}{K:Frag}{mg:Str->Option Value}{base:Heap}{a:z8}
theorem WX{fd:FuncData}(F:jn K "_law_word_by" "_law_word_by" Us a.g8 fd)(T:Txt K mg a)(FF:ZE K a):QO P w K mg base xN 2 a.g8 fd ["_law_state","_law_s"] (Qho K):=by
 obtain⟨fdN,zg,zX⟩:=FF.zg
 have zY:=@YZ P w K mg base a _ zg T
 refine F.ok Qbc (fun _ _ _ _ h=>by cases h;subst_vars;rfl) (fun cdv A outer s H vs Q E hr h=>?_)
 .obtain⟨W,ls,D,n,rfl,hw,ok,hl,k⟩:=h
  have zZ:QB 1 _:=hr
  have hu:=Zr hr
  refine⟨_,(Qf (QJ (Qr QR (Qv hu (pv 1) Qp) (QP Zh (Qj zY zZ rfl T.jh zg.kp zX .nil Ql (zr (pv 0) Qe)) (QC Zx rfl T.QlO jN (zr (Qv hu (pv 1) Qp) Qe)))))),?_⟩
  refine⟨_,rfl,W.s,_,rfl,.inl ⟨_,Sum.inr ("words":Str),.inl hw.e,rfl,QbK⟩,_,rfl,W.st,W.sc,ls,rfl,hw.sa,hl,fun r1 H1 r10 r11 x1 sa1=>?_⟩
  have hw1:=hw.sx x1 sa1
  obtain⟨y,hy,hm⟩:=KM (ws:=D.words) r1 ok.w0
  exact⟨_,rfl,W.s,_,rfl,.inl ⟨_,Sum.inr ("words":Str),.inl hw1.e,rfl,QbK⟩,W.wl,_,rfl,.inl (jH.of hw1.ew),_,_,rfl,rfl,(by rw[qi];have:=ok.w0;omega),W.wl,_,_,_,rfl,rfl,jH.of hw1.ew,hy,k y H1 hm x1 hw1⟩
theorem Qgg{fd:FuncData}(F:jn K "_law_text" "_law_text" XU a.QnR fd)(T:Txt K mg a)(FF:ZE K a):QO P w K mg base xN 3 a.QnR fd ["_law_state","_law_s"] (Qhr K):=by
 obtain⟨fdN,zg,zX⟩:=FF.zg
 have zY:=@YZ P w K mg base a _ zg T
 obtain⟨fdW,jz,vA⟩:=FF.jz
 have vB:=@WX P w K mg base a _ jz T FF
 refine F.ok Yv (fun _ _ _ _ h=>by cases h;subst_vars;rfl) (fun cdv A outer s H vs Q E hr h=>?_)
 .obtain⟨W,ls,D,n,rfl,hw,ok,hl,k⟩:=h
  have yR:QB 2 _:=hr
  have zZ:QB 1 _:=yR.mono (by decide)
  refine⟨_,(Qd (Qy (i:=2) Yv.nd rfl (Or.inl rfl) Qp)
   (Qd (Uz yP rfl (WU rfl T.QqL (zr (QP Zh (Qj zY zZ rfl T.jh zg.kp zX .nil Ql (zr (pv 0) Qe)) Qi) Qe)) (ZI (i:=3) Yv.nd rfl (Or.inl rfl)) (Qd (Qy (i:=4) Yv.nd rfl (Or.inl rfl) (Qj vB yR rfl T.gU jz.kp vA .nil Ql (zr (pv 0) (zr (pv 1) Qe))))
   (Qd (Qy (i:=5) Yv.nd rfl (Or.inl rfl) (Qr QR (ZJ (Qg Qp (Qg Qp (Qg Qp (Qg Qp Qz))))) (QP Zh (Qj zY zZ rfl T.jh zg.kp zX .nil Ql (zr (pv 0) Qe)) Qi)))
   (Qf (Qy (i:=2) Yv.nd rfl (Or.inl rfl) (QP Jg (QP Jg (pv 2) (Qr QR (ZJ (Qg (pv 5) (Qg Qp Qz))) (JI Qa1 rfl T.QtA boot_int (zr (YW Yb (pv 2) Qp) Qe)))) (Qr QR (ZJ (Qg (pv 4) (Qg (pv 4) (Qg (QdO plainAttrs_str PySem.F.slot_str_upper PySem.F.type_str_upper QiG (pv 4)) Qz)))) (QP Zh (Qj zY zZ rfl T.jh zg.kp zX .nil Ql (zr (pv 0) Qe)) Qi))))))))
   (Qf (QJ (pv 2))))),?_⟩
  refine⟨_,rfl,W.st,W.sc,ls,rfl,hw.sa,hl,fun r1 H1 r10 r11 x1 sa1=>⟨_,_,rfl,rfl,Qu1,?_⟩⟩
  have hw1:=hw.sx x1 sa1
  have z0:=zF r1 (b:=4) (by decide)
  have z1:=zu r1 (b:=4) (by decide)
  generalize r1 % 4=zz at z0 z1
  refine⟨_,rfl,by omega,by omega,QaW (n:=zz.toNat) (fun i σ G=>∃(x:Str)(o3 o4 o5:Option V),σ=[some (.ref W.st),some (.ref W.s),some (.str x),o3,o4,o5]/\TxI D.words (20*i) x/\SX W.st H G/\vK K G W ls D) ⟨"",none,none,none,rfl,TxI.nil _,x1,hw1⟩ ?_ ?_⟩
  .rintro i σ G hi ⟨x,o3,o4,o5,rfl,tx,xG,hG⟩
   have i3:i<3:=by omega
   have xl:=tx.len
   refine⟨_,rfl,_,rfl,W,ls,D,n,rfl,hG,ok,hl,fun wd H2 hm x2 h2=>?_⟩
   obtain⟨hwS,h18⟩:=ok.ws wd hm
   refine⟨Qg5,fun p H3 np s3 e3=>?_⟩
   refine⟨_,rfl,W.st,W.sc,ls,rfl,(h2.same s3).sa,hl,fun r4 H4 r40 r41 x4 sa4=>?_⟩
   obtain⟨g,hg,gg⟩:=Qmo (zF r4 (b:=4) (by decide)) (zu r4 (b:=4) (by decide))
   have pst:p≠W.st:=fun z=>by obtain⟨_,q⟩:=h2.sa.lst;rw[z,q] at np;cases np
   refine⟨_,_,rfl,rfl,Qu1,p,_,_,_,rfl,rfl,jH.of (x4 _ _ pst e3),hg,?_⟩
   have h4:=(h2.same s3).sx x4 sa4
   refine⟨_,rfl,_,rfl,Yx,fun p5 H5 np5 s5 e5=>?_⟩
   have h5:=h4.same s5
   refine⟨_,rfl,rfl,.inr ⟨_,rfl,?_⟩⟩
   have hgap:∃g':Str,atI [V.str g,V.str ""] (if decide (V.str x=V.str "")=true then 1 else 0)=some (.str g')/\((x=("":Str)/\g'=("":Str))\/(x≠("":Str)/\Gap g'))/\g'.length<=2:=by
    rw[JF]
    by_cases e:x=("":Str)
    .rw[qp e,qD rfl];exact⟨"",rfl,.inl ⟨e,rfl⟩,by decide +kernel⟩
    .rw[qF e];exact⟨g,rfl,.inr ⟨e,gg⟩,gg.asc.2.2⟩
   obtain⟨g',hg',hgg,gl⟩:=hgap
   refine⟨p5,_,_,_,rfl,rfl,jH.of e5,hg',_,_,rfl,rfl,Zg ((by omega)),?_⟩
   refine⟨_,rfl,_,rfl,_,rfl,rfl,wd,rfl,rfl,hwS.asc,(by omega),Qg6,fun p6 H6 np6 s6 e6=>?_⟩
   refine⟨_,rfl,W.st,W.sc,ls,rfl,(h5.same s6).sa,hl,fun r7 H7 r70 r71 x7 sa7=>?_⟩
   obtain⟨y,hy,wy⟩:=Qlm (w:=wd) (zF r7 (b:=3) (by decide)) (zu r7 (b:=3) (by decide))
   have pst6:p6≠W.st:=fun z=>by obtain⟨_,q⟩:=h5.sa.lst;rw[z,q] at np6;cases np6
   have yl:=(wy.asc hwS).2.2
   refine⟨_,_,rfl,rfl,QtZ,p6,_,_,_,rfl,rfl,jH.of (x7 _ _ pst6 e6),hy,_,_,rfl,rfl,(by rw[Vp];exact Zg ((by omega))),?_⟩
   exact⟨_,_,_,_,rfl,tx.step hgg hwS h18 hm wy,(((((xG.trans x2).trans (SX.of s3)).trans x4).trans (SX.of s5)).trans (SX.of s6)).trans x7,(h5.same s6).sx x7 sa7⟩
  .rintro σ G ⟨x,o3,o4,o5,rfl,tx,xG,hG⟩
   exact⟨_,rfl,k x G (tx.up (by omega)) xG hG⟩
theorem Qcz{fd:FuncData}(F:jn K "_law_named" "_law_named" V9 a.QmS fd)(T:Txt K mg a)(FF:ZE K a):QO P w K mg base xN 2 a.QmS fd ["_law_state","_law_s","_law_hand"] (QjU K):=by
 obtain⟨fdN,zg,zX⟩:=FF.zg
 have zY:=@YZ P w K mg base a _ zg T
 refine F.ok QdE (fun _ _ _ _ h=>by cases h;subst_vars;rfl) (fun cdv A outer s H vs Q E hr h=>?_)
 .obtain⟨W,ls,D,hd,rfl,hw,hh,ok,nms,hl,k⟩:=h
  have zZ:QB 1 _:=hr
  have hu:=Zr hr
  have Quj:=hr.units
  refine⟨_,(Qd (QZ (PW.pt (Xr (QL (QdQ Quj) (Qv hu (pv 1) Qp) (ZJ Qz)) (UY (QL Yb (QP Zh (Qj zY zZ rfl T.jh zg.kp zX .nil Ql (zr (pv 0) Qe)) Qi) Qi)))) (Qf (QJ (QP Jg (pv 2) (JI Ww rfl T.Qqo boot_str (zr (QP Jx Qi (QP Zh (Qj zY zZ rfl T.jh zg.kp zX .nil Ql (zr (pv 0) Qe)) Qi)) Qe))))) QD)
   (Qf (QJ (Qr QR (Qv hu (pv 1) Qp) (QP Zh (Qj zY zZ rfl T.jh zg.kp zX .nil Ql (zr (pv 0) Qe)) (QC Zx rfl T.QlO jN (zr (Qv hu (pv 1) Qp) Qe))))))),?_⟩
  have hmade:∀(r:Int)(G:Hp),SX W.st H G->vK K G W ls D->Q (.str (hd++dig (1+r % 9))) G:=fun r G xG hG=>by
   have z0:=zF r (b:=9) (by decide)
   have z1:=zu r (b:=9) (by decide)
   refine k _ G ⟨hd,hh,(1+r % 9).toNat,by omega,by omega,?_⟩ xG hG
   rw[j5 (by omega)]
  have mk:∀(G:Hp),SX W.st H G->vK K G W ls D->(∃x:V,([some (.ref W.st),some (.ref W.s),some (.str hd)]:St)[2]?=some (some x)/\True):=fun _ _ _=>⟨_,rfl,trivial⟩
  have hdl:=(ok.h hd hh).hi
  refine⟨_,rfl,W.s,_,rfl,.inl ⟨_,Sum.inr ("names":Str),.inl hw.e,rfl,V2⟩,zK _,fun p H1 np s1 e1=>?_⟩
  have hw1:=hw.same s1
  have ix1:SX W.st H H1:=SX.of s1
  have asc:∀x∈D.names,Asc x:=fun x hx=>((nms x hx).word ok).asc
  refine⟨.list (D.names.map PyData.str),.list (([]:QvX).map PyData.str),.lst (jH.of hw1.en) (KJ _),.lst (jH.of e1) .nil,Qcb asc,rfl,?_⟩
  rw[Qjf]
  have fin:∀(r:Int)(G:Hp),SX W.st H G->vK K G W ls D->0<D.names.length->∃y,atI (D.names.map V.str) (r % ((D.names.map V.str).length:Nat))=some (.str y)/\Q (.str y) G:=fun r G xG hG h0=>by
   obtain⟨y,hy,hm⟩:=KM (ws:=D.names) r h0
   exact⟨y,hy,k y G (nms y hm) xG hG⟩
  by_cases hn:D.names=[]
  .rw[qp hn]
   refine⟨_,rfl,Zi ?_⟩
   refine⟨_,rfl,_,rfl,W.st,W.sc,ls,rfl,hw1.sa,hl,fun r1 H2 r10 r11 x2 sa2=>?_⟩
   have z0:=zF r1 (b:=9) (by decide)
   have z1:=zu r1 (b:=9) (by decide)
   refine⟨_,_,rfl,rfl,zi_9,_,_,rfl,rfl,_,rfl,W7 (by omega) (by omega),_,_,rfl,rfl,?_,hmade r1 H2 (ix1.trans x2) (hw1.sx x2 sa2)⟩
   obtain⟨d1,_⟩:=Xe (1+r1 % 9).toNat (by omega)
   rw[j5 (by omega)] at d1
   have d1:(Str.ofString (toString (1+r1 % 9))).length=1:=d1
   exact Zg ((by omega))
  .have n0:0<D.names.length:=List.length_pos_iff.mpr hn
   rw[qF hn]
   refine⟨_,rfl,Q4 ?_⟩
   refine⟨_,rfl,W.st,W.sc,ls,rfl,hw1.sa,hl,fun r1 H2 r10 r11 x2 sa2=>?_⟩
   refine⟨_,_,rfl,rfl,zi_6,rfl,_,rfl,?_⟩
   have hw2:=hw1.sx x2 sa2
   have ix2:=ix1.trans x2
   refine Qc0 (fun _=>?_) (fun _=>?_)
   .refine⟨_,rfl,_,rfl,W.st,W.sc,ls,rfl,hw2.sa,hl,fun r1 H3 r10 r11 x3 sa3=>?_⟩
    have z0:=zF r1 (b:=9) (by decide)
    have z1:=zu r1 (b:=9) (by decide)
    refine⟨_,_,rfl,rfl,zi_9,_,_,rfl,rfl,_,rfl,W7 (by omega) (by omega),_,_,rfl,rfl,?_,hmade r1 H3 (ix2.trans x3) (hw2.sx x3 sa3)⟩
    obtain⟨d1,_⟩:=Xe (1+r1 % 9).toNat (by omega)
    rw[j5 (by omega)] at d1
    have d1:(Str.ofString (toString (1+r1 % 9))).length=1:=d1
    exact Zg ((by omega))
   .refine⟨_,rfl,W.s,_,rfl,.inl ⟨_,Sum.inr ("names":Str),.inl hw2.e,rfl,V2⟩,_,rfl,W.st,W.sc,ls,rfl,hw2.sa,hl,fun r3 H3 r30 r31 x3 sa3=>?_⟩
    have hw3:=hw2.sx x3 sa3
    obtain⟨y,hy,q⟩:=fin r3 H3 (ix2.trans x3) hw3 n0
    exact⟨_,rfl,W.s,_,rfl,.inl ⟨_,Sum.inr ("names":Str),.inl hw3.e,rfl,V2⟩,W.nl,_,rfl,.inl (jH.of hw3.en),_,_,rfl,rfl,(by rw[qi];omega),W.nl,_,_,_,rfl,rfl,jH.of hw3.en,hy,q⟩
end
structure QfQ(ws:QvX)(p:LD):Prop where
 g:V1 p.s p.t p.b p.d p.an
 t:TxI ws 60 p.t
 b:TxI ws 60 p.b
theorem WOk.put{n:Nat}{D:WD}{k:Nat}{hd:Str}{p:Int}(h:WOk n D)(hh:D.hands[k]?=some hd)(hp:D.v9[k]?=some p)(h8:p<8):WOk (n+1) { D with names:=D.names++[hd++dig (p+1)],v9:=D.v9.set k (p+1) }:=by
 have pb:=h.pb p (qU hp)
 have hk:k<D.v9.length:=(zp.mp hp).1
 refine⟨h.hs,h.w0,h.w5,h.ws,by show(D.v9.set k (p+1)).length=_;rw[Qp9];exact h.pl,h.cl,h.ml,fun q hq=>?_,fun x hx=>?_,by show(D.names++[_]).length<=_;rw[qI,qT];have:=h.nl;omega⟩
 .rcases List.mem_or_eq_of_mem_set hq with z | z
  .exact h.pb q z
  .rw[z];omega
 .show ∃(k':Nat)(h':Str)(p':Int)(n':Nat),D.hands[k']?=some h'/\(D.v9.set k (p+1))[k']?=some p'/\1<=n'/\(n':Int)<=p'/\x=h'++dig n'
  rcases qx.mp hx with z | z
  .obtain⟨k',h',p',n',e1,e2,e3,e4,e5⟩:=h.nm x z
   by_cases e:k'=k
   .subst e
    rw[hp] at e2
    have e2:=qR e2
    exact⟨k',h',p+1,n',e1,by rw[jB hk],e3,by omega,e5⟩
   .exact⟨k',h',p',n',e1,by rw[QmA (xH e)];exact e2,e3,e4,e5⟩
  .refine⟨k,hd,p+1,(p+1).toNat,hh,by rw[jB hk],by omega,by omega,?_⟩
   rw[ql.mp z,j5 (by omega)]
theorem WOk.new{n:Nat}{D:WD}{k:Nat}{hd:Str}{p:Int}(h:WOk n D)(hh:D.hands[k]?=some hd)(hp:D.v9[k]?=some p)(h8:p<8):¬(hd++dig (p+1))∈D.names:=fun hx=>by
 have pb:=h.pb p (qU hp)
 obtain⟨k',h',p',n',e1,e2,e3,e4,e5⟩:=h.nm _ hx
 have pb':=h.pb p' (qU e2)
 have e5:hd++dig ((p+1).toNat:Int)=h'++dig n':=by rw[j5 (by omega)];exact e5
 obtain⟨q1,q2⟩:=QiA (by omega) (by omega) e5
 have ek:k=k':=(List.getElem?_inj (zp.mp hh).1 h.hs.nd).mp (by rw[hh,e1,q1])
 rw[<-ek,hp] at e2
 have:=qR e2
 omega
inductive Qam(K:Frag)(vs:List V)(H:Hp)(Q:VK):Prop
 | mk:∀(A:WA)(ls:List Int)(D:WD)(n k:Nat)(hd:Str)(p:Int),vs=[.ref A.st,.ref A.s,.int k]->vK K H A ls D->WOk n D->n<100->D.hands[k]?=some hd->D.v9[k]?=some p->p<8->ls.length<=63 ->
    (∀(q u:Addr)(l:LD) H',H' q=some (.tup [.str "put",.str (hd++dig (p+1)),.ref u])->H' u=some (.tup [.str l.s,.str l.t,.str l.b,.int l.d,.str l.an])->QfQ D.words l->KX A.ch H H'->vK K H' A ls { D with names:=D.names++[hd++dig (p+1)],v9:=D.v9.set k (p+1) }->Q (.ref q) H')->Qam K vs H Q
def QjR(K:Frag):Sp:=fun vs H Q _=>Qam K vs H Q
theorem Qmx{hs:QvX}{x y nm:Str}(hx:NmS hs x)(hy:NmS hs y)(hn:NmS hs nm){z:Int}(z0:0<=z)(z1:z<5):∃an:Str,atI [V.str "",V.str "",V.str x,V.str y,V.str nm] z=some (.str an)/\(an=("":Str)\/NmS hs an):=by
 obtain⟨n,rfl⟩:=jr z0
 have h1:n<5:=QpM.mp z1
 match n,h1 with
 | 0,_=>exact⟨_,rfl,.inl rfl⟩
 | 1,_=>exact⟨_,rfl,.inl rfl⟩
 | 2,_=>exact⟨_,rfl,.inr hx⟩
 | 3,_=>exact⟨_,rfl,.inr hy⟩
 | 4,_=>exact⟨_,rfl,.inr hn⟩
section
variable {P:Program}{w:World}{K:Frag}{mg:Str->Option Value}{base:Heap}{a:z8}
theorem Qih{fd:FuncData}(F:jn K "_law_put_by" "_law_put_by" Vf a.u0 fd)(T:Txt K mg a)(FF:ZE K a):QO P w K mg base xN 4 a.u0 fd ["_law_state","_law_s","_law_k"] (QjR K):=by
 obtain⟨fdN,zg,zX⟩:=FF.zg
 have zY:=@YZ P w K mg base a _ zg T
 obtain⟨fdW,jz,vA⟩:=FF.jz
 have vB:=@WX P w K mg base a _ jz T FF
 obtain⟨fdT,QmM,Qrx⟩:=FF.QmM
 have QrE:=@Qgg P w K mg base a _ QmM T FF
 obtain⟨fdM,yJ,gF⟩:=FF.yJ
 have gG:=@Qcz P w K mg base a _ yJ T FF
 refine F.ok JV (fun _ _ _ _ h=>by cases h;subst_vars;rfl) (fun cdv A outer s H vs Q E hr h=>?_)
 .obtain⟨W,ls,D,n,kk,hd,p,rfl,hw,ok,hn,hh,hp,h8,hl,k⟩:=h
  have uG:QB 3 _:=hr
  have yR:QB 2 _:=uG.mono (by decide)
  have wz:QB 2 _:=uG.mono (by decide)
  have zZ:QB 1 _:=uG.mono (by decide)
  have hu:=Zr hr
  refine⟨_,(Qd (Qy (i:=3) JV.nd rfl (Or.inl rfl) (Qr QR (Qv hu (pv 1) Qp) (pv 2)))
   (Qd (VP (QP Jx (Qr QR (Qv hu (pv 1) Qp) (pv 2)) Qi) (WV (Qv hu (pv 1) Qp) (pv 2) Uc))
   (Qd (Qy (i:=4) JV.nd rfl (Or.inl rfl) (QP Jg (pv 3) (JI Ww rfl T.Qqo boot_str (zr (Qr QR (Qv hu (pv 1) Qp) (pv 2)) Qe))))
   (Qd (Qs (QaE plainAttrs_list gJ gK Uj (Qv hu (pv 1) Qp) (zr (pv 4) Qe)))
   (Qd (Qy (i:=5) JV.nd rfl (Or.inl rfl) (Qr QR (Qv hu (pv 1) Qp) (QP Zh (Qj zY zZ rfl T.jh zg.kp zX .nil Ql (zr (pv 0) Qe)) (QC Zx rfl T.QlO jN (zr (Qv hu (pv 1) Qp) Qe)))))
   (Qd (Qy (i:=6) JV.nd rfl (Or.inl rfl) (Qr QR (ZJ (Qg Qp (Qg Qp (Qg (Qj gG wz rfl T.uE yJ.kp gF .nil Ql (zr (pv 0) (zr (pv 1) (zr (pv 3) Qe)))) (Qg (Qj gG wz rfl T.uE yJ.kp gF .nil Ql (zr (pv 0) (zr (pv 1) (zr (pv 5) Qe)))) (Qg (pv 4) Qz)))))) (QP Zh (Qj zY zZ rfl T.jh zg.kp zX .nil Ql (zr (pv 0) Qe)) Qi)))
   (Qf (QJ (Zd (Qg Qp (Qg (pv 4) (Qg (Zd (Qg (Qj vB yR rfl T.gU jz.kp vA .nil Ql (zr (pv 0) (zr (pv 1) Qe))) (Qg (Qj QrE uG rfl T.Qrk QmM.kp Qrx .nil Ql (zr (pv 0) (zr (pv 1) Qe))) (Qg (Qj QrE uG rfl T.Qrk QmM.kp Qrx .nil Ql (zr (pv 0) (zr (pv 1) Qe))) (Qg Qi (Qg (pv 6) Qz)))))) Qz)))))))))))),?_⟩
  have pb:=ok.pb p (qU hp)
  have hkP:kk<D.v9.length:=(zp.mp hp).1
  have hhm:=qU hh
  have okD:=ok.put hh hp h8
  have nmNew:NmS D.hands (hd++dig (p+1)):=⟨hd,hhm,(p+1).toNat,by omega,by omega,by rw[j5 (by omega)]⟩
  refine⟨_,rfl,W.s,_,rfl,.inl ⟨_,Sum.inr ("hands":Str),.inl hw.e,rfl,Y8⟩,_,rfl,W.hl,_,_,_,rfl,rfl,jH.of hw.eh,VL hh,?_⟩
  refine⟨_,rfl,W.s,_,rfl,.inl ⟨_,Sum.inr ("puts":Str),.inl hw.e,rfl,XS⟩,_,rfl,W.pl,_,_,_,rfl,rfl,jH.of hw.ep,VL hp,_,_,rfl,rfl,?_⟩
  refine⟨_,rfl,W.s,_,rfl,.inl ⟨_,Sum.inr ("puts":Str),.inl hw.e,rfl,XS⟩,_,rfl,W.pl,_,_,kk,rfl,rfl,hw.ep,XZ (by rw[qi];exact hkP),?_⟩
  have w1:vK K (upd H W.pl (.lst ((D.v9.map V.int).set kk (.int (p+1))))) W ls { D with v9:=D.v9.set kk (p+1) }:=by
   have e:(D.v9.map V.int).set kk (.int (p+1))=(D.v9.set kk (p+1)).map V.int:=by rw[List.map_set]
   rw[e];exact hw.putP
  have k1:KX W.ch H (upd H W.pl (.lst ((D.v9.map V.int).set kk (.int (p+1))))):=KX.upd (by simp[WA.ch])
  show Ye _ _ _ _ (upd H W.pl (.lst ((D.v9.map V.int).set kk (.int (p+1)))))
  generalize upd H W.pl (.lst ((D.v9.map V.int).set kk (.int (p+1))))=H1 at w1 k1 ⊢
  have hp1:(D.v9.set kk (p+1))[kk]?=some (p+1):=by rw[jB hkP]
  obtain⟨d1,_⟩:=Xe (p+1).toNat (by omega)
  rw[j5 (by omega)] at d1
  have d1:(Str.ofString (toString (p+1))).length=1:=d1
  have hdl:=(ok.hs.h hd hhm).hi
  refine⟨_,rfl,_,rfl,W.s,_,rfl,.inl ⟨_,Sum.inr ("puts":Str),.inl w1.e,rfl,XS⟩,_,rfl,W.pl,_,_,_,rfl,rfl,jH.of w1.ep,VL hp1,_,rfl,W7 (by omega) (by omega),_,_,rfl,rfl,Zg ((by omega)),?_⟩
  refine⟨_,rfl,W.s,_,rfl,.inl ⟨_,Sum.inr ("names":Str),.inl w1.e,rfl,V2⟩,.inl ⟨rfl,_,jH.of w1.en⟩,_,rfl,W.nl,_,_,rfl,rfl,w1.en,(by rw[qi];exact QK (by have:=ok.nl;show D.names.length<=1000;omega)),?_⟩
  have w2:vK K (upd H1 W.nl (.lst (D.names.map V.str++[V.str (hd++dig (p+1))]))) W ls { D with names:=D.names++[hd++dig (p+1)],v9:=D.v9.set kk (p+1) }:=by
   have e:D.names.map V.str++[V.str (hd++dig (p+1))]=(D.names++[hd++dig (p+1)]).map V.str:=by rw[qQ];rfl
   rw[e];exact w1.putN
  have k2:KX W.ch H (upd H1 W.nl (.lst (D.names.map V.str++[V.str (hd++dig (p+1))]))):=k1.trans (KX.upd (by simp[WA.ch]))
  show Ye _ _ _ _ (upd H1 W.nl (.lst (D.names.map V.str++[V.str (hd++dig (p+1))])))
  generalize upd H1 W.nl (.lst (D.names.map V.str++[V.str (hd++dig (p+1))]))=H2 at w2 k2 ⊢
  show Ye _ _ _ [some (.ref W.st),some (.ref W.s),some (.int kk),some (.str hd),some (.str (hd++dig (p+1))),none,none] H2
  have stc:W.st∈W.ch:=by simp[WA.ch]
  refine⟨_,rfl,W.s,_,rfl,.inl ⟨_,Sum.inr ("hands":Str),.inl w2.e,rfl,Y8⟩,_,rfl,W.st,W.sc,ls,rfl,w2.sa,hl,fun r3 H3 r30 r31 x3 sa3=>?_⟩
  have w3:=w2.sx x3 sa3
  have k3:=k2.trans (KX.sx stc x3)
  obtain⟨oh,hoh,ohm⟩:=KM (ws:=D.hands) r3 ok.hs.n0
  refine⟨_,rfl,W.s,_,rfl,.inl ⟨_,Sum.inr ("hands":Str),.inl w3.e,rfl,Y8⟩,W.hl,_,rfl,.inl (jH.of w3.eh),_,_,rfl,rfl,(by rw[qi];have:=ok.hs.n0;show(0:Int)<(D.hands.length:Int);omega),W.hl,_,_,_,rfl,rfl,jH.of w3.eh,hoh,?_⟩
  refine⟨_,rfl,_,rfl,_,rfl,W,ls,_,hd,rfl,w3,hhm,ok.hs,okD.nms,hl,fun x4 H4 hx4 s4 w4=>?_⟩
  refine⟨_,rfl,_,rfl,_,rfl,W,ls,_,oh,rfl,w4,ohm,ok.hs,okD.nms,hl,fun x5 H5 hx5 s5 w5=>?_⟩
  refine⟨_,rfl,Qg4,fun pa H6 npa s6 e6=>?_⟩
  have w6:=w5.same s6
  refine⟨_,rfl,W.st,W.sc,ls,rfl,w6.sa,hl,fun r7 H7 r70 r71 s7 sa7=>?_⟩
  obtain⟨an,han,hana⟩:=Qmx hx4 hx5 nmNew (zF r7 (b:=5) (by decide)) (zu r7 (b:=5) (by decide))
  have past:pa≠W.st:=fun z=>by obtain⟨_,q⟩:=w5.sa.lst;rw[z,q] at npa;cases npa
  refine⟨_,_,rfl,rfl,zi_5,pa,_,_,_,rfl,rfl,jH.of (s7 _ _ past e6),han,?_⟩
  have w7:=w6.sx s7 sa7
  have k7:=(((k3.trans (KX.sx stc s4)).trans (KX.sx stc s5)).trans (KX.of s6)).trans (KX.sx stc s7)
  refine⟨_,rfl,_,rfl,_,rfl,W,ls,_,n+1,rfl,w7,okD,hl,fun sd H8 hsd s8 w8=>?_⟩
  refine⟨_,rfl,_,rfl,W,ls,_,n+1,rfl,w8,okD,hl,fun tt H9 htt s9 w9=>?_⟩
  refine⟨_,rfl,_,rfl,W,ls,_,n+1,rfl,w9,okD,hl,fun bb H10 hbb s10 w10=>?_⟩
  refine⟨_,rfl,Qg4,fun u H11 nu s11 e11=>?_⟩
  refine⟨Qg6,fun q H12 nq s12 e12=>?_⟩
  have k12:=((((k7.trans (KX.sx stc s8)).trans (KX.sx stc s9)).trans (KX.sx stc s10)).trans (KX.of s11)).trans (KX.of s12)
  refine k q u ⟨sd,tt,bb,5,an⟩ H12 e12 (s12 _ _ e11) ⟨⟨(ok.ws sd hsd).1,htt.a,htt.len,htt.nn,hbb.a,zx hbb.len (by decide),by show(0:Int)<=5;decide,by show(5:Int)<=9999;decide,?_⟩,htt,hbb⟩ k12 ((w10.same s11).same s12)
  exact hana.imp id fun z=>z.word ok.hs
end
structure Stp(D:WD)(k:Nat)(c:Int)(hd:Str)(d:Dd)(D':WD):Prop where
 hd_:D.hands[k]?=some hd
 hands:D'.hands=D.hands
 words:D'.words=D.words
 ck:∃c0,D.jP[k]?=some c0/\c0<c/\D'.jP=D.jP.set k c
 nm:NmS D.hands d.nm
 pt:∀nm p,d=.put nm p->nm∉D.names/\D'.names=D.names++[nm]/\QfQ D.words p
 np:ZB d=false->D'.names=D.names/\dOk D.words D.words d
inductive Xm(K:Frag)(vs:List V)(H:Hp)(Q:VK):Prop
 | mk:∀(A:WA)(ls:List Int)(D:WD)(n k:Nat),vs=[.ref A.st,.ref A.s,.int k]->vK K H A ls D->WOk n D->n<100->k<D.hands.length->ls.length<=63 ->
    (∀(x q u:Addr)(c num:Int)(hd:Str)(d:Dd)(D':WD) H',H' x=some (.tup [.int c,.str hd,.int num,.ref q])->DU H' q u d->KX A.ch H H'->vK K H' A ls D'->WOk (n+1) D'->Stp D k c hd d D'->Q (.ref x) H')->Xm K vs H Q
def QfY(K:Frag):Sp:=fun vs H Q _=>Xm K vs H Q
theorem WOk.up{n:Nat}{D:WD}(h:WOk n D):WOk (n+1) D:=⟨h.hs,h.w0,h.w5,h.ws,h.pl,h.cl,h.ml,h.pb,h.nm,Nat.le_succ_of_le h.nl⟩
section
variable {P:Program}{w:World}{K:Frag}{mg:Str->Option Value}{base:Heap}{a:z8}
theorem QdS{fd:FuncData}(F:jn K "_law_stamped" "_law_stamped" JH a.wU fd)(T:Txt K mg a)(FF:ZE K a):QO P w K mg base xN 5 a.wU fd ["_law_state","_law_s","_law_k"] (QfY K):=by
 obtain⟨fdN,zg,zX⟩:=FF.zg
 have zY:=@YZ P w K mg base a _ zg T
 obtain⟨fdW,jz,vA⟩:=FF.jz
 have vB:=@WX P w K mg base a _ jz T FF
 obtain⟨fdT,QjG,Qr8⟩:=FF.QjG
 have Qsd:=@Qih P w K mg base a _ QjG T FF
 obtain⟨fdM,yJ,gF⟩:=FF.yJ
 have gG:=@Qcz P w K mg base a _ yJ T FF
 refine F.ok ZF (fun _ _ _ _ h=>by cases h;subst_vars;rfl) (fun cdv A outer s H vs Q E hr h=>?_)
 .obtain⟨W,ls,D,n,kk,rfl,hw,ok,hn,hk,hl,k⟩:=h
  have gY:QB 4 _:=hr
  have yR:QB 2 _:=gY.mono (by decide)
  have wz:QB 2 _:=gY.mono (by decide)
  have zZ:QB 1 _:=gY.mono (by decide)
  have hu:=Zr hr
  obtain⟨hd,hh⟩:∃hd,D.hands[kk]?=some hd:=⟨_,qz hk⟩
  obtain⟨pp,hp⟩:∃p,D.v9[kk]?=some p:=⟨_,qz (by rw[ok.pl];exact hk)⟩
  obtain⟨c0,hc⟩:∃c,D.jP[kk]?=some c:=⟨_,qz (by rw[ok.cl];exact hk)⟩
  obtain⟨m0,hm⟩:∃c,D.nums[kk]?=some c:=⟨_,qz (by rw[ok.ml];exact hk)⟩
  have hkC:kk<D.jP.length:=by rw[ok.cl];exact hk
  have hkM:kk<D.nums.length:=by rw[ok.ml];exact hk
  have stc:W.st∈W.ch:=by simp[WA.ch]
  obtain⟨t1,h1,sp1⟩:∃t,PSs (Yo xN P w K mg base Xs "_law_stamped" (Qh JH) a.wU cdv A outer s H E).nox ((Zl JH).drop 4) t /\
   ∀(kd:Int)(q u:Addr)(d:Dd)(H1:Hp)(D1:WD),DU H1 q u d->KX W.ch H H1->vK K H1 W ls D1->WOk (n+1) D1->D1.hands=D.hands->D1.words=D.words->D1.jP=D.jP->D1.nums=D.nums->NmS D.hands d.nm ->
    (∀nm p,d=.put nm p->nm∉D.names/\D1.names=D.names++[nm]/\QfQ D.words p)->(ZB d=false->D1.names=D.names/\dOk D.words D.words d) ->
    t { nx:=fun _ H'=>Q .non H',rt:=Q } [some (.ref W.st),some (.ref W.s),some (.int kk),some (.int kd),some (.str hd),some (.ref q)] H1:=by
   refine⟨_,(Qd (VP (QP Jx (QP Jx (Qr QR (Qv hu (pv 1) Qp) (pv 2)) Qi) (QP Zh (Qj zY zZ rfl T.jh zg.kp zX .nil Ql (zr (pv 0) Qe)) Qi)) (WV (Qv hu (pv 1) Qp) (pv 2) Uc))
    (Qd (VP (QP Jx (Qr QR (Qv hu (pv 1) Qp) (pv 2)) Qi) (WV (Qv hu (pv 1) Qp) (pv 2) Uc))
    (Qf (QJ (Zd (Qg (Qr QR (Qv hu (pv 1) Qp) (pv 2)) (Qg (pv 4) (Qg (Qr QR (Qv hu (pv 1) Qp) (pv 2)) (Qg (pv 5) Qz))))))))),?_⟩
   intro kd q u d H1 D1 du k1 w1 ok1 q1 q2 q3 q4 nmd hpt hnp
   have hc1:D1.jP[kk]?=some c0:=by rw[q3];exact hc
   have hm1:D1.nums[kk]?=some m0:=by rw[q4];exact hm
   have hkC1:kk<D1.jP.length:=by rw[q3];exact hkC
   have hkM1:kk<D1.nums.length:=by rw[q4];exact hkM
   refine⟨_,rfl,W.s,_,rfl,.inl ⟨_,Sum.inr ("clocks":Str),.inl w1.e,rfl,WC⟩,_,rfl,W.cl,_,_,_,rfl,rfl,jH.of w1.ec,VL hc1,_,_,rfl,rfl,_,rfl,W.st,W.sc,ls,rfl,w1.sa,hl,fun r2 H2 r20 r21 x2 sa2=>?_⟩
   have w2:=w1.sx x2 sa2
   have z0:=zF r2 (b:=3) (by decide)
   refine⟨_,_,rfl,rfl,QtZ,_,_,rfl,rfl,?_⟩
   generalize hcv:c0+1+r2 % 3=cv
   have cgt:c0<cv:=by omega
   refine⟨_,rfl,W.s,_,rfl,.inl ⟨_,Sum.inr ("clocks":Str),.inl w2.e,rfl,WC⟩,_,rfl,W.cl,_,_,kk,rfl,rfl,w2.ec,XZ (by rw[qi];exact hkC1),?_⟩
   have w3:vK K (upd H2 W.cl (.lst ((D1.jP.map V.int).set kk (.int cv)))) W ls { D1 with jP:=D1.jP.set kk cv }:=by
    have e:(D1.jP.map V.int).set kk (.int cv)=(D1.jP.set kk cv).map V.int:=by rw[List.map_set]
    rw[e];exact w2.putC
   have k3:KX W.ch H (upd H2 W.cl (.lst ((D1.jP.map V.int).set kk (.int cv)))):=(k1.trans (KX.sx stc x2)).trans (KX.upd (by simp[WA.ch]))
   have t3:∀c xs,H1 c=some (.tup xs)->(upd H2 W.cl (.lst ((D1.jP.map V.int).set kk (.int cv)))) c=some (.tup xs):=fun c xs e=>by
    rw[Qa (fun z=>by rw[z,w1.ec] at e;cases e)]
    exact x2 c _ (fun z=>by obtain⟨_,q⟩:=w1.sa.lst;rw[z,q] at e;cases e) e
   show Ye _ _ _ _ (upd H2 W.cl (.lst ((D1.jP.map V.int).set kk (.int cv))))
   generalize upd H2 W.cl (.lst ((D1.jP.map V.int).set kk (.int cv)))=H3 at w3 k3 t3 ⊢
   have hcc:(D1.jP.set kk cv)[kk]?=some cv:=by rw[jB hkC1]
   refine⟨_,rfl,W.s,_,rfl,.inl ⟨_,Sum.inr ("numbers":Str),.inl w3.e,rfl,VN⟩,_,rfl,W.ml,_,_,_,rfl,rfl,jH.of w3.em,VL hm1,_,_,rfl,rfl,?_⟩
   refine⟨_,rfl,W.s,_,rfl,.inl ⟨_,Sum.inr ("numbers":Str),.inl w3.e,rfl,VN⟩,_,rfl,W.ml,_,_,kk,rfl,rfl,w3.em,XZ (by rw[qi];exact hkM1),?_⟩
   have w4:vK K (upd H3 W.ml (.lst ((D1.nums.map V.int).set kk (.int (m0+1))))) W ls { D1 with jP:=D1.jP.set kk cv,nums:=D1.nums.set kk (m0+1) }:=by
    have e:(D1.nums.map V.int).set kk (.int (m0+1))=(D1.nums.set kk (m0+1)).map V.int:=by rw[List.map_set]
    rw[e];exact w3.putM
   have k4:KX W.ch H (upd H3 W.ml (.lst ((D1.nums.map V.int).set kk (.int (m0+1))))):=k3.trans (KX.upd (by simp[WA.ch]))
   have t4:∀c xs,H1 c=some (.tup xs)->(upd H3 W.ml (.lst ((D1.nums.map V.int).set kk (.int (m0+1))))) c=some (.tup xs):=fun c xs e=>by
    have:=t3 c xs e
    rw[Qa (fun z=>by rw[z,w3.em] at this;cases this)]
    exact this
   show Y7.nx _ _ (upd H3 W.ml (.lst ((D1.nums.map V.int).set kk (.int (m0+1)))))
   generalize upd H3 W.ml (.lst ((D1.nums.map V.int).set kk (.int (m0+1))))=H4 at w4 k4 t4 ⊢
   have hmm:(D1.nums.set kk (m0+1))[kk]?=some (m0+1):=by rw[jB hkM1]
   refine⟨_,rfl,W.s,_,rfl,.inl ⟨_,Sum.inr ("clocks":Str),.inl w4.e,rfl,WC⟩,_,rfl,W.cl,_,_,_,rfl,rfl,jH.of w4.ec,VL hcc,_,rfl,_,rfl,W.s,_,rfl,.inl ⟨_,Sum.inr ("numbers":Str),.inl w4.e,rfl,VN⟩,_,rfl,W.ml,_,_,_,rfl,rfl,jH.of w4.em,VL hmm,_,rfl,Qg5,fun x H5 nx s5 e5=>?_⟩
   refine k x q u cv (m0+1) hd d _ H5 e5 ⟨s5 _ _ (t4 _ _ du.e),fun nm p e=>s5 _ _ (t4 _ _ (du.p nm p e))⟩ (k4.trans (KX.of s5)) (w4.same s5) ?_ ⟨hh,q1,q2,⟨c0,hc,cgt,by show D1.jP.set kk cv=_;rw[q3]⟩,nmd,hpt,hnp⟩
   exact⟨ok1.hs,ok1.w0,ok1.w5,ok1.ws,ok1.pl,by show(D1.jP.set kk cv).length=_;rw[Qp9];exact ok1.cl,by show(D1.nums.set kk (m0+1)).length=_;rw[Qp9];exact ok1.ml,ok1.pb,ok1.nm,ok1.nl⟩
  refine⟨_,(Qd (Qy (i:=3) ZF.nd rfl (Or.inl rfl) (QP Zh (Qj zY zZ rfl T.jh zg.kp zX .nil Ql (zr (pv 0) Qe)) Qi))
   (Qd (Qy (i:=4) ZF.nd rfl (Or.inl rfl) (Qr QR (Qv hu (pv 1) Qp) (pv 2)))
   (Qd (Qy (i:=5) ZF.nd rfl (Or.inl rfl) (Zd (Qg Qp (Qg (Qj gG wz rfl T.uE yJ.kp gF .nil Ql (zr (pv 0) (zr (pv 1) (zr (pv 4) Qe)))) Qz))))
   (Qd (QZ (PW.pt (Uy (QL Qfd (pv 3) Qi) (YV (QL Qfd (Qr QR (Qv hu (pv 1) Qp) (pv 2)) Qi)))) (Qf (Qy (i:=5) ZF.nd rfl (Or.inl rfl) (Qj Qsd gY rfl T.Qr2 QjG.kp Qr8 .nil Ql (zr (pv 0) (zr (pv 1) (zr (pv 2) Qe)))))) (Qf (QZ (QL Qfd (pv 3) Qi) (Qf (Qy (i:=5) ZF.nd rfl (Or.inl rfl) (Zd (Qg Qp (Qg (Qj gG wz rfl T.uE yJ.kp gF .nil Ql (zr (pv 0) (zr (pv 1) (zr (pv 4) Qe)))) (Qg (Qj vB yR rfl T.gU jz.kp vA .nil Ql (zr (pv 0) (zr (pv 1) Qe))) Qz)))))) (Qf (QZ (QL Qfd (pv 3) Qi) (Qf (Qy (i:=5) ZF.nd rfl (Or.inl rfl) (Zd (Qg Qp (Qg (Qj gG wz rfl T.uE yJ.kp gF .nil Ql (zr (pv 0) (zr (pv 1) (zr (pv 4) Qe)))) (Qg (Qj vB yR rfl T.gU jz.kp vA .nil Ql (zr (pv 0) (zr (pv 1) Qe))) (Qg (YW Qib (QP Zh (Qj zY zZ rfl T.jh zg.kp zX .nil Ql (zr (pv 0) Qe)) Qi) Qi) Qz))))))) QD))))) h1)))),?_⟩
  refine⟨_,rfl,W.st,W.sc,ls,rfl,hw.sa,hl,fun r2 H2 r20 r21 x2 sa2=>⟨_,_,rfl,rfl,zi_12,?_⟩⟩
  have w2:=hw.sx x2 sa2
  have k2:KX W.ch H H2:=KX.sx stc x2
  refine⟨_,rfl,W.s,_,rfl,.inl ⟨_,Sum.inr ("hands":Str),.inl w2.e,rfl,Y8⟩,_,rfl,W.hl,_,_,_,rfl,rfl,jH.of w2.eh,VL hh,?_⟩
  have hhm:=qU hh
  refine⟨_,rfl,_,rfl,_,rfl,W,ls,D,hd,rfl,w2,hhm,ok.hs,ok.nms,hl,fun nm3 H3 hnm3 x3 w3=>?_⟩
  refine⟨Yx,fun q4 H4 nq4 s4 e4=>?_⟩
  have w4:=w3.same s4
  have k4:=(k2.trans (KX.sx stc x3)).trans (KX.of s4)
  generalize r2 % 12=kd
  refine⟨_,rfl,_,_,rfl,rfl,_,rfl,Qc0 (fun h4=>⟨_,rfl,W.s,_,rfl,.inl ⟨_,Sum.inr ("puts":Str),.inl w4.e,rfl,XS⟩,_,rfl,W.pl,_,_,_,rfl,rfl,jH.of w4.ep,VL hp,_,_,rfl,rfl,_,rfl,Qc0 (fun h8=>?_) (fun _=>?_)⟩) (fun _=>?_)⟩
  .refine⟨_,rfl,_,rfl,_,rfl,W,ls,D,n,kk,hd,pp,rfl,w4,ok,hn,hh,hp,qg h8,hl,fun q5 u5 l5 H5 e5 eu5 pg5 k5 w5=>?_⟩
   have h8:=qg h8
   have pb:=ok.pb pp (qU hp)
   refine sp1 kd q5 u5 (.put _ l5) H5 _ ⟨e5,fun nm p e=>by cases e;exact eu5⟩ (k4.trans k5) w5 (ok.put hh hp h8) rfl rfl rfl rfl ⟨hd,hhm,(pp+1).toNat,by omega,by omega,by rw[j5 (by omega)];rfl⟩ (fun nm p e=>?_) (fun z=>by cases z)
   cases e
   exact⟨ok.new hh hp h8,rfl,pg5⟩
  all_goals
   refine⟨_,rfl,_,_,rfl,rfl,_,rfl,Qc0 (fun _=>?_) (fun _=>?_)⟩
   .refine⟨_,rfl,_,rfl,_,rfl,W,ls,D,hd,rfl,w4,hhm,ok.hs,ok.nms,hl,fun nm5 H5 Qvw x5 w5=>⟨_,rfl,_,rfl,W,ls,D,n,rfl,w5,ok,hl,fun wd H6 hwd x6 w6=>⟨Qg6,fun q7 H7 nq7 s7 e7=>?_⟩⟩⟩
    exact sp1 kd q7 q7 (.place nm5 wd) H7 D ⟨e7,fun _ _ z=>nomatch z⟩ (((k4.trans (KX.sx stc x5)).trans (KX.sx stc x6)).trans (KX.of s7)) (w6.same s7) ok.up rfl rfl rfl rfl Qvw (fun _ _ z=>nomatch z) (fun _=>⟨rfl,hwd⟩)
   .refine⟨_,rfl,_,_,rfl,rfl,_,rfl,Qc0 (fun _=>?_) (fun _=>?_)⟩
    .refine⟨_,rfl,_,rfl,_,rfl,W,ls,D,hd,rfl,w4,hhm,ok.hs,ok.nms,hl,fun nm5 H5 Qvw x5 w5=>⟨_,rfl,_,rfl,W,ls,D,n,rfl,w5,ok,hl,fun wd H6 hwd x6 w6=>⟨_,rfl,W.st,W.sc,ls,rfl,w6.sa,hl,fun r8 H8 r80 r81 x8 sa8=>⟨_,_,rfl,rfl,QtZ,_,_,rfl,rfl,Qg5,fun q7 H7 nq7 s7 e7=>?_⟩⟩⟩⟩
     exact sp1 kd q7 q7 (.mark nm5 wd _) H7 D ⟨e7,fun _ _ z=>nomatch z⟩ ((((k4.trans (KX.sx stc x5)).trans (KX.sx stc x6)).trans (KX.sx stc x8)).trans (KX.of s7)) ((w6.sx x8 sa8).same s7) ok.up rfl rfl rfl rfl Qvw (fun _ _ z=>nomatch z) (fun _=>⟨rfl,hwd⟩)
    .exact sp1 kd q4 q4 (.drop nm3) H4 D ⟨e4,fun _ _ z=>nomatch z⟩ k4 w4 ok.up rfl rfl rfl rfl hnm3 (fun _ _ z=>nomatch z) (fun _=>⟨rfl,trivial⟩)
end
inductive Qag(K:Frag)(vs:List V)(H:Hp)(Q:VK):Prop
 | mk:∀(st sc:Addr)(ls:List Int)(m:Nat),vs=[.ref st,.int m]->StA K H st sc ls->ls.length<=63->1<=m->m<=4 ->
    (∀(A:WA)(D:WD) H',A.st=st->A.sc=sc->(∀c∈A.all,c≠st->H c=none)->SX st H H'->vK K H' A ls D->WOk 0 D->D.hands.length=m->D.names=[]->(∀c∈D.jP,c=0)->Q (.ref A.s) H')->Qag K vs H Q
def QjL(K:Frag):Sp:=fun vs H Q _=>Qag K vs H Q
theorem Qjb(m:Nat):(List.replicate m [V.int 0]).flatten=(List.replicate m (0:Int)).map V.int:=by
 induction m with
 | zero=>rfl
 | succ m ih=>rw[yE,xJ,ih,yE,qW];rfl
theorem QlC{K:Frag}{H:Hp}{st sc:Addr}{ls:List Int}(h:StA K H st sc ls):(∀G:Hp,jH K G sc (ls.map V.int))\/(sc≠st/\∀l,H l=none->sc≠l):=by
 obtain⟨⟨n,c,e,_⟩,hq⟩:=h
 rcases hq with(h | ⟨o,h⟩) | h
 .refine .inr ⟨fun z=>?_,fun l hl=>Qb h hl⟩
  rw[z,e] at h
  have h:=HO.lst.inj (qR h)
  match ls,h with
  | _ :: _ :: _,h=>exact nomatch (qw (qw h).2).1
 .refine .inr ⟨fun z=>?_,fun l hl=>Qb h hl⟩
  rw[z,e] at h;cases h
 .exact .inl fun _=>.inr h
theorem QbJ{x:Str}(h:WIn aZ 18 x):J1 x/\x.length<=18:=by
 have:=h.hi
 exact⟨⟨h.lo,by omega,h.in_⟩,by omega⟩
theorem Xk:J1 "seen"/\J1 "inbox"/\J1 "then":=by
 refine⟨⟨by decide +kernel,by decide +kernel,fun c hc=>?_⟩,⟨by decide +kernel,by decide +kernel,fun c hc=>?_⟩,⟨by decide +kernel,by decide +kernel,fun c hc=>?_⟩⟩
 all_goals (revert c;decide +kernel)
section
variable {P:Program}{w:World}{K:Frag}{mg:Str->Option Value}{base:Heap}{a:z8}
theorem Qie{fd:FuncData}(F:jn K "_law_world" "_law_world" V7 a.QmQ fd)(T:Txt K mg a)(FF:ZE K a):QO P w K mg base xN 4 a.QmQ fd ["_law_state","_law_many"] (QjL K):=by
 obtain⟨fdH,Qm2,QsR⟩:=FF.Qm2
 have QsV:=@Qgk P w K mg base a _ Qm2 T FF
 obtain⟨fdW,v7,QnU⟩:=FF.v7
 have QnY:=@Qff P w K mg base a _ v7 T FF
 refine F.ok YB (fun _ _ _ _ h=>by cases h;subst_vars;rfl) (fun cdv A outer s H vs Q E hr h=>?_)
 .obtain⟨st,sc,ls,m,rfl,sa,hl,m1,m4,k⟩:=h
  have Qo5:QB 3 _:=hr
  have QmP:QB 2 _:=Qo5.mono (by decide)
  have hu:=Zr hr
  refine⟨_,(Qd (Qy (i:=2) YB.nd rfl (Or.inl rfl) (Qj QsV Qo5 rfl T.QsH Qm2.kp QsR .nil Ql (zr (pv 0) (zr (pv 1) Qe))))
   (Qd (Qy (i:=3) YB.nd rfl (Or.inl rfl) Qp)
   (Qd (Qy (i:=4) YB.nd rfl (Or.inl rfl) (ZJ (Qg Qp (Qg Qp (Qg (Qj QnY QmP rfl T.Qo4 v7.kp QnU .nil Ql (zr (pv 0) (zr (pv 3) (zr Qi Qe)))) (Qg (Qj QnY QmP rfl T.Qo4 v7.kp QnU .nil Ql (zr (pv 0) (zr (pv 3) (zr Qi Qe)))) (Qg Qp Qz)))))))
   (Qd (Qy (i:=5) YB.nd rfl (Or.inl rfl) (Qki (UZ Qp (pv 2) (UZ Qp (pv 4) (UZ Qp (ZJ Qz) (UZ Qp (QP Qbp (ZJ (Qg Qi Qz)) (pv 1)) (UZ Qp (QP Qbp (ZJ (Qg Qi Qz)) (pv 1)) Qke))))) rfl rfl (by simp) (by decide)))
   (Qd (Zp hu (pv 5) Qp (QP Qbp (ZJ (Qg Qi Qz)) (pv 1)) rfl)
   (Qf (QJ (pv 5)))))))),?_⟩
  have hsq:=QlC sa
  obtain⟨o0,est⟩:=sa.lst
  refine⟨_,rfl,_,rfl,st,sc,ls,m,rfl,sa,hl,m1,m4,fun hl' hs H1 nh hok hlen e1 x1 sa1=>?_⟩
  have nst:hl'≠st:=(Qb est nh).symm
  refine⟨_,rfl,_,rfl,st,sc,ls,aZ,18,rfl,sa1,hl,by decide,by decide,(by decide +kernel),(by decide +kernel),fun w1 H2 hw1 x2 sa2=>?_⟩
  refine⟨_,rfl,_,rfl,st,sc,ls,aZ,18,rfl,sa2,hl,by decide,by decide,(by decide +kernel),(by decide +kernel),fun w2 H3 hw2 x3 sa3=>?_⟩
  refine⟨Qg4,fun wl H4 nw4 s4 e4=>?_⟩
  have e1_3:=x3 _ _ nst (x2 _ _ nst e1)
  have QvC:=s4 _ _ e1_3
  have x04:SX st H H4:=((x1.trans x2).trans x3).trans (SX.of s4)
  have sa4:=sa3.of s4
  obtain⟨o4,QvB⟩:=sa4.lst
  have nw0:wl≠st:=fun z=>by obtain⟨_,q⟩:=sa3.lst;rw[z,q] at nw4;cases nw4
  have nwh:wl≠hl':=(Qb e1_3 nw4).symm
  have fr:∀{G:Hp}{l:Addr},SX st H G->(∃o,G st=some o)->G l=none->H l=none:=fun{G l} x hst e=>by
   by_cases z:l=st
   .obtain⟨o,q⟩:=hst;rw[z,q] at e;cases e
   .cases q:H l with
    | none=>rfl
    | some o=>rw[x _ _ z q] at e;cases e
  have nw:H wl=none:=fr ((x1.trans x2).trans x3) (let ⟨o,q⟩:=sa3.lst;⟨_,q⟩) nw4
  intro ss nss
  have s5:Qo H4 (upd H4 ss (.dK [])):=Qo.z7 nss
  have e5:(upd H4 ss (.dK [])) ss=some (.dK []):=Qc
  generalize upd H4 ss (.dK [])=H5 at s5 e5 ⊢
  refine⟨_,rfl,_,rfl,zK _,fun nl H6 nnl s6 e6=>?_⟩
  refine⟨QtY,fun t1 H7 nt1 s7 e7=>⟨_,rfl,t1,(m:Int),[.int 0],rfl,rfl,e7,by omega,by omega,(by show 1*(m:Int).toNat<=sizeLine;exact Zg ((by omega))),fun pl H8 npl s8 e8=>?_⟩⟩
  refine⟨QtY,fun t2 H9 nt2 s9 e9=>⟨_,rfl,t2,(m:Int),[.int 0],rfl,rfl,e9,by omega,by omega,(by show 1*(m:Int).toNat<=sizeLine;exact Zg ((by omega))),fun cl H10 ncl s10 e10=>?_⟩⟩
  have s58:=(s6.trans s7).trans s8
  have Qu9:=(s58.trans s9).trans s10
  refine⟨Qu9 _ _ e5,[(Sum.inr "hands",.ref hl'),(Sum.inr "words",.ref wl),(Sum.inr "names",.ref nl),(Sum.inr "puts",.ref pl),(Sum.inr "clocks",.ref cl)],rfl,(by show 5<=15;decide),?_⟩
  have Qsy:=s5.trans Qu9
  have hss10:=Qu9 _ _ e5
  have ssn:∀{c:Addr}{o:HO},H4 c=some o->c≠ss:=fun e=>Qb e nss
  have e11:(upd H10 ss (.dK (UA [] [(Sum.inr "hands",.ref hl'),(Sum.inr "words",.ref wl),(Sum.inr "names",.ref nl),(Sum.inr "puts",.ref pl),(Sum.inr "clocks",.ref cl)]))) ss=some (.dK [(Sum.inr "hands",.ref hl'),(Sum.inr "words",.ref wl),(Sum.inr "names",.ref nl),(Sum.inr "puts",.ref pl),(Sum.inr "clocks",.ref cl)]):=by rw[Qc];rfl
  have k11:SX ss H10 (upd H10 ss (.dK (UA [] [(Sum.inr "hands",.ref hl'),(Sum.inr "words",.ref wl),(Sum.inr "names",.ref nl),(Sum.inr "puts",.ref pl),(Sum.inr "clocks",.ref cl)]))):=fun c o n e=>by rw[Qa n];exact e
  show Ye _ _ _ _ (upd H10 ss (.dK (UA [] [(Sum.inr "hands",.ref hl'),(Sum.inr "words",.ref wl),(Sum.inr "names",.ref nl),(Sum.inr "puts",.ref pl),(Sum.inr "clocks",.ref cl)])))
  generalize upd H10 ss (.dK (UA [] [(Sum.inr "hands",.ref hl'),(Sum.inr "words",.ref wl),(Sum.inr "names",.ref nl),(Sum.inr "puts",.ref pl),(Sum.inr "clocks",.ref cl)]))=H11 at e11 k11 ⊢
  refine⟨QtY,fun t3 H12 nt3 s12 e12=>⟨_,rfl,t3,(m:Int),[.int 0],rfl,rfl,e12,by omega,by omega,(by show 1*(m:Int).toNat<=sizeLine;exact Zg ((by omega))),fun ml H13 nml s13 e13=>?_⟩⟩
  have QuD:=s12.trans s13
  have QvD:=QuD _ _ e11
  refine⟨_,rfl,ss,_,rfl,Jo.k (k:=Sum.inr ("numbers":Str)) QvD (by show 5<sizeLine;decide),?_⟩
  have e14:(upd H13 ss (.dK (Za [(Sum.inr "hands",.ref hl'),(Sum.inr "words",.ref wl),(Sum.inr "names",.ref nl),(Sum.inr "puts",.ref pl),(Sum.inr "clocks",.ref cl)] (Sum.inr ("numbers":Str)) (.ref ml)))) ss=some (.dK (wdK hl' wl nl pl cl ml)):=by rw[Qc];rfl
  have k14:SX ss H13 (upd H13 ss (.dK (Za [(Sum.inr "hands",.ref hl'),(Sum.inr "words",.ref wl),(Sum.inr "names",.ref nl),(Sum.inr "puts",.ref pl),(Sum.inr "clocks",.ref cl)] (Sum.inr ("numbers":Str)) (.ref ml)))):=fun c o n e=>by rw[Qa n];exact e
  show Y7.nx _ _ (upd H13 ss (.dK (Za [(Sum.inr "hands",.ref hl'),(Sum.inr "words",.ref wl),(Sum.inr "names",.ref nl),(Sum.inr "puts",.ref pl),(Sum.inr "clocks",.ref cl)] (Sum.inr ("numbers":Str)) (.ref ml))))
  generalize upd H13 ss (.dK (Za [(Sum.inr "hands",.ref hl'),(Sum.inr "words",.ref wl),(Sum.inr "names",.ref nl),(Sum.inr "puts",.ref pl),(Sum.inr "clocks",.ref cl)] (Sum.inr ("numbers":Str)) (.ref ml)))=H14 at e14 k14 ⊢
  rw[show((m:Int).toNat)=m from jW m,Qjb] at e8 e10 e13
  have Qqt:∀{c:Addr}{o:HO},c≠ss->H10 c=some o->H14 c=some o:=fun n e=>k14 _ _ n (QuD _ _ (k11 _ _ n e))
  have QqB:nl≠ss:=(Qb e5 nnl).symm
  have QqA:pl≠ss:=(Qb (s7 _ _ (s6 _ _ e5)) npl).symm
  have QqD:cl≠ss:=(Qb (s9 _ _ (s58 _ _ e5)) ncl).symm
  have QqC:ml≠ss:=(Qb (s12 _ _ e11) nml).symm
  have Qso:st≠ss:=ssn QvB
  have Qsp:hl'≠ss:=ssn QvC
  have Qsn:wl≠ss:=ssn e4
  have f5:∀{c:Addr}{o:HO},H4 c=some o->c≠nl/\c≠pl/\c≠cl/\c≠ml:=fun{c o} e =>
   ⟨Qb (s5 _ _ e) nnl,Qb (s7 _ _ (s6 _ _ (s5 _ _ e))) npl,Qb (s9 _ _ (s58 _ _ (s5 _ _ e))) ncl,Qb (s12 _ _ (k11 _ _ (ssn e) (Qsy _ _ e))) nml⟩
  obtain⟨a1,a2,a3,a4⟩:=f5 QvB
  obtain⟨b1,b2,b3,b4⟩:=f5 QvC
  obtain⟨c1,c2,c3,c4⟩:=f5 e4
  have d1:nl≠pl:=Qb (s7 _ _ e6) npl
  have d2:nl≠cl:=Qb (s9 _ _ (s8 _ _ (s7 _ _ e6))) ncl
  have nl10:H10 nl=some (.lst []):=s10 _ _ (s9 _ _ (s8 _ _ (s7 _ _ e6)))
  have d3:nl≠ml:=Qb (s12 _ _ (k11 _ _ QqB nl10)) nml
  have d4:pl≠cl:=Qb (s9 _ _ e8) ncl
  have pl10:=s10 _ _ (s9 _ _ e8)
  have d5:pl≠ml:=Qb (s12 _ _ (k11 _ _ QqA pl10)) nml
  have d6:cl≠ml:=Qb (s12 _ _ (k11 _ _ QqD e10)) nml
  have Qpb:∀{c:Addr},H4 c=none->H c=none:=fun e=>fr x04 ⟨_,QvB⟩ e
  have dn:∀{G G':Hp}{c:Addr},Qo G G'->G' c=none->G c=none:=fun s e=>s.free e
  have Qts:H ss=none:=Qpb nss
  have h_nl:H nl=none:=Qpb (dn s5 nnl)
  have h_pl:H pl=none:=Qpb (dn s5 (dn s6 (dn s7 npl)))
  have h_cl:H cl=none:=Qpb (dn s5 (dn s58 (dn s9 ncl)))
  have h_ml:H ml=none:=Qpb (by
   cases q:H4 ml with
   | none=>rfl
   | some o=>have:=s12 _ _ (k11 _ _ QqC (Qsy _ _ q));rw[this] at nml;cases nml)
  have x14:SX st H H14:=fun c o n e=>Qqt (Qb e Qts) (Qsy _ _ (x04 c o n e))
  refine⟨_,rfl,k ⟨st,sc,ss,hl',wl,nl,pl,cl,ml⟩ ⟨hs,["seen","inbox",w1,w2,"then"],[],List.replicate m 0,List.replicate m 0,List.replicate m 0⟩ H14 rfl rfl (fun c hc n=>?_) x14 ⟨?_,e14,Qqt Qsp (Qsy _ _ QvC),Qqt Qsn (Qsy _ _ e4),Qqt QqB nl10,Qqt QqA pl10,Qqt QqD e10,k14 _ _ QqC e13,?_,?_⟩ ⟨hok,(by show 0<5;decide),(by show 5<=5;decide),?_,by show(List.replicate m 0).length=hs.length;rw[QkI,hlen],by show(List.replicate m 0).length=hs.length;rw[QkI,hlen],by show(List.replicate m 0).length=hs.length;rw[QkI,hlen],fun p hp=>?_,fun x hx=>(nomatch (show x∈([]:QvX) from hx)),qt _⟩ hlen rfl fun c hc=>(List.mem_replicate.mp hc).2⟩
  .simp only[WA.all,qG,yQ,QoX] at hc
   rcases hc with h | h | h | h | h | h | h | h
   .exact absurd h n
   .rw[h];exact Qts
   .rw[h];exact nh
   .rw[h];exact nw
   .rw[h];exact h_nl
   .rw[h];exact h_pl
   .rw[h];exact h_cl
   .rw[h];exact h_ml
  .have sa10:=sa4.of Qsy
   obtain⟨⟨n',c',e',b'⟩,hq⟩:=sa10
   refine⟨⟨n',c',Qqt Qso e',b'⟩,?_⟩
   rcases hsq with q | ⟨q1,q2⟩
   .exact q _
   .rcases hq with(h | ⟨o',h⟩) | h
    .exact .inl (.inl (Qqt (q2 _ Qts) h))
    .exact .inl (.inr ⟨o',Qqt (q2 _ Qts) h⟩)
    .exact .inr h
  .simp only[WA.all,jf,qG,yQ,QoX,not_or,not_false_eq_true,zV,and_true]
   exact⟨⟨Qso,nst.symm,nw0.symm,a1,a2,a3,a4⟩,⟨Qsp.symm,Qsn.symm,QqB.symm,QqA.symm,QqD.symm,QqC.symm⟩,⟨nwh.symm,b1,b2,b3,b4⟩,⟨c1,c2,c3,c4⟩,⟨d1,d2,d3⟩,⟨d4,d5⟩,d6⟩
  .rcases hsq with q | ⟨q1,q2⟩
   .exact .inl q
   .refine .inr ?_
    simp only[WA.all,qG,yQ,QoX,not_or]
    exact⟨q1,q2 _ Qts,q2 _ nh,q2 _ nw,q2 _ h_nl,q2 _ h_pl,q2 _ h_cl,q2 _ h_ml⟩
  .intro x hx
   obtain⟨t1,t2,t3⟩:=Xk
   simp only[qG,yQ,QoX] at hx
   rcases hx with rfl | rfl | rfl | rfl | rfl
   .exact⟨t1,by decide +kernel⟩
   .exact⟨t2,by decide +kernel⟩
   .exact QbJ hw1
   .exact QbJ hw2
   .exact⟨t3,by decide +kernel⟩
  .have:=(List.mem_replicate.mp hp).2;omega
end
theorem QcN{α:Type}{f:α->Str}{g:α->V}{i:Int}{xs:List α}:Qdr (.int i) (dG f g xs):=.inr ⟨inl i,rfl,by
 unfold dG
 induction xs with
 | nil=>rfl
 | cons r rows ih=>rw[qW];exact(by first | exact ih | (simp only[Qt,List.lookup] at ih ⊢;exact ih) | (unfold Qt at ih ⊢;simpa[List.lookup] using ih))⟩
theorem QcM{α:Type}{f:α->Str}{g:α->V}{nm:Str}{xs:List α}(h:¬nm∈xs.map f):Qdr (.str nm) (dG f g xs):=.inr ⟨Sum.inr nm,rfl,JB h⟩
def Qjz(ts:QvX)(y:V):Prop:=y=.non\/(∃i,y=.int i)\/∃nm,y=.str nm/\¬nm∈ts
theorem Qjz.miss{α:Type}{f:α->Str}{g:α->V}{xs:List α}{y:V}(h:Qjz (xs.map f) y):Qdr y (dG f g xs):=by
 rcases h with rfl | ⟨i,rfl⟩ | ⟨nm,rfl,h⟩
 .exact .inl rfl
 .exact QcN
 .exact QcM h
inductive Kf(a:z8)(vs:List V)(H:Hp)(E:XK):Prop
 | mk:∀(y:V)(L:Addr)(kvs:List (Key×V)),vs=[y,.ref L]->H L=some (.dK kvs)->Qdr y kvs->E (.ref a.jm) none H->Kf a vs H E
def Qhp(a:z8):Sp:=fun vs H _ E=>Kf a vs H E
inductive QeO(a:z8)(vs:List V)(H:Hp)(E:XK):Prop
 | mk:∀(own:Addr->Nat)(b db xr L xt xi xf:Addr)(es:List Ent)(ls:List LE)(bx:Rows)(mk:Str->QvX)(WI W M:QvX)(n:Nat)(y:V),vs=[.ref b,y]->Brd a H own b db xr L xt xi xf es ls bx mk WI W M n->Qjz (ls.map LE.nm) y->E (.ref a.jm) none H->QeO a vs H E
def Qk4(a:z8):Sp:=fun vs H _ E=>QeO a vs H E
inductive Qb3(a:z8)(vs:List V)(H:Hp)(Q:VK):Prop
 | mk:∀(own:Addr->Nat)(b db xr L xt xi xf:Addr)(es:List Ent)(ls:List LE)(bx:Rows)(mk:Str->QvX)(WI W M:QvX)(n:Nat)(y:V)(i:Int),vs=[.ref b,y,.int i]->Brd a H own b db xr L xt xi xf es ls bx mk WI W M n->Qjz (ls.map LE.nm) y->(∀H',Qo H H'->Q (.bl true) H')->Qb3 a vs H Q
def QlG(a:z8):Sp:=fun vs H Q _=>Qb3 a vs H Q
section
variable {P:Program}{w:World}{K:Frag}{mg:Str->Option Value}{base:Heap}{a:z8}
theorem QaG{fd:FuncData}(F:jn K "check_there" "check_there" Jq a.xm fd)(T:Txt K mg a):QO P w K mg base (CXF P w) 1 a.xm fd ["name","there"] (Qhp a):=by
 refine F.okX UU (fun _ _ _ _ h=>by cases h;subst_vars;rfl) (fun cdv A outer st H vs Q E hr h=>?_)
 .obtain⟨y,L,kvs,rfl,hL,hv,k⟩:=h
  have hu:=Zr hr
  refine⟨_,(Qf (QZ (Z2 (Qkk hu (pv 0) (pv 1))) (Qf (QhZ T.Qrb T.Qqh hr.hd rfl (zr Qp Qe))) QD)),?_⟩
  exact⟨_,rfl,_,rfl,L,_,rfl,hL,hv,_,rfl,Zi ⟨by show 1<=sizeLine;decide,k⟩⟩
theorem Qis{fd:FuncData}(F:jn K "letter_at" "Board.letter_at" ZY a.xF fd)(T:Txt K mg a)(FF:ZE K a):QO P w K mg base (CXF P w) 2 a.xF fd ["self","name"] (Qk4 a):=by
 obtain⟨fdC,qK,zy⟩:=FF.qK
 have zA:=@QaG P w K mg base a _ qK T
 refine F.okX VO (fun _ _ _ _ h=>by cases h;subst_vars;rfl) (fun cdv A outer st H vs Q E hr h=>?_)
 .obtain⟨own,b,db,xr,L,xt,xi,xf,es,ls,bx,mk,WI,W,M,n,y,rfl,h,hn,k⟩:=h
  have zB:QB 1 _:=hr
  refine⟨_,(Qd (Qs (Qcv (R:=fun _=>E) zA zB rfl T.jo qK.kp zy .nil Qlb (zr (pv 1) (zr (Qk (pv 0) rfl) Qe)))) WR),?_⟩
  exact⟨_,rfl,_,rfl,b,_,db,_,_,rfl,h.e,T.zL,T.jc,rfl,y,L,_,rfl,h.l.e,hn.miss,k⟩
theorem Qgn{fd:FuncData}(F:jn K "card" "Board.card" JW a.km fd)(T:Txt K mg a)(FF:ZE K a):QO P w K mg base (CXF P w) 2 a.km fd ["self","name"] (Qk4 a):=by
 obtain⟨fdC,qK,zy⟩:=FF.qK
 have zA:=@QaG P w K mg base a _ qK T
 refine F.okX VE (fun _ _ _ _ h=>by cases h;subst_vars;rfl) (fun cdv A outer st H vs Q E hr h=>?_)
 .obtain⟨own,b,db,xr,L,xt,xi,xf,es,ls,bx,mk,WI,W,M,n,y,rfl,h,hn,k⟩:=h
  have zB:QB 1 _:=hr
  refine⟨_,(Qd (Qs (Qcv (R:=fun _=>E) zA zB rfl T.jo qK.kp zy .nil Qlb (zr (pv 1) (zr (Qk (pv 0) rfl) Qe)))) WR),?_⟩
  exact⟨_,rfl,_,rfl,b,_,db,_,_,rfl,h.e,T.zL,T.jc,rfl,y,L,_,rfl,h.l.e,hn.miss,k⟩
theorem Qkr{fd:FuncData}(F:jn K "_law_refused" "_law_refused" Ut a.uc fd)(T:Txt K mg a)(FF:ZE K a):QO P w K mg base xN 3 a.uc fd ["_law_board","_law_name","_law_way"] (QlG a):=by
 obtain⟨fdA,F1,QnV⟩:=FF.Qn1
 have QnZ:=@Qis P w K mg base a _ F1 T FF
 obtain⟨fdB,F2,gC⟩:=FF.Qn2
 have gD:=@Qgn P w K mg base a _ F2 T FF
 refine F.ok Uv (fun _ _ _ _ h=>by cases h;subst_vars;rfl) (fun cdv A outer s H vs Q E hr h=>?_)
 .obtain⟨own,b,db,xr,L,xt,xi,xf,es,ls,bx,mk,WI,W,M,n,y,i,rfl,h,hn,k⟩:=h
  have hr2:QB 2 _:=hr
  refine⟨_,(Qd (QhY (i:=3) (R:=fun σ c' _ H'=>c'=.ref a.jm/\σ=L2.start Y0 [.ref b,y,.int i]/\Qo H H') rfl T.QqE T.Qrc rfl rfl rfl Uv.nd rfl rfl (fun σ C H' q=>by obtain⟨e,_⟩:=q;cases e;exact⟨T.Qrb,T.Qnk⟩)
   (fun pn=>Qf (QZ (QL Yb (pv 2) Qi) (Qf (Qs (Qct (R:=fun σ c' _ H'=>c'=.ref a.jm/\σ=L2.start Y0 [.ref b,y,.int i]/\Qo H H') (pv 0) T.zL T.QnW QnZ hr2 QnV .nil Qla (zr (pv 1) Qe)))) (Qf (Qs (Qct (R:=fun σ c' _ H'=>c'=.ref a.jm/\σ=L2.start Y0 [.ref b,y,.int i]/\Qo H H') (pv 0) T.zL T.QjC gD hr2 gC .nil Qla (zr (pv 1) Qe))))))
   (fun ev=>(Qd (Qy (i:=4) Uv.nd rfl (Or.inl rfl) (ZJ (Qg (QC (ZW K) rfl T.jg boot_isinstance (zr (pv 3) (zr (UI (v:=.ref a.QnE) rfl ⟨_,T.Qri,rfl⟩) Qe))) (Qg (QC (ZW K) rfl T.jg boot_isinstance (zr (pv 3) (zr (UI (v:=.ref a.QnD) rfl ⟨_,T.Qrh,rfl⟩) Qe))) (Qg (QC (ZW K) rfl T.jg boot_isinstance (zr (pv 3) (zr (UI (v:=.ref a.Qq1) rfl ⟨_,T.Qtl,rfl⟩) Qe))) (Qg (QC (ZW K) rfl T.jg boot_isinstance (zr (pv 3) (zr (UI (v:=.ref a.QpG) rfl ⟨_,T.QsE,rfl⟩) Qe))) Qz))))))
   (Qd (QZ (PW.pt (Xr (Jf (QC (ZW K) rfl T.jg boot_isinstance (zr (pv 3) (zr (UI (v:=.ref a.QpF) rfl ⟨_,T.QsD,rfl⟩) Qe)))) (UY (QL (QdP K) YY (pv 4) (by with_unfolding_all rfl))))) (Qf (QJ YY)) QD)
   (Qf (QJ (U3 (QC (ZW K) rfl T.jg boot_isinstance (zr (pv 3) (zr (YX (v:=.ty "ValueError") rfl T.QqM QkS rfl) Qe))) (U0 (QC (ZW K) rfl T.jg boot_isinstance (zr (pv 3) (zr (UI (v:=.ref a.jm) rfl ⟨_,T.Qqh,rfl⟩) Qe))))))))))) WR),?_⟩
  refine⟨fun σ' C H' e hq he=>?_,?_⟩
  .obtain⟨hC,rfl,sH⟩:=hq
   cases hC
   have s0:Qo H' (upd H' e (GX a.jm e)):=Qo.z7 he
   have ee:(upd H' e (GX a.jm e)) e=some (GX a.jm e):=Qc
   generalize upd H' e (GX a.jm e)=G at s0 ee
   refine⟨_,rfl,e,_,_,_,_,rfl,ee,T.wu,rfl,T.Qnm,_,rfl,e,_,_,_,_,rfl,ee,T.wu,rfl,T.Qnl,_,rfl,e,_,_,_,_,rfl,ee,T.wu,rfl,T.QoF,_,rfl,e,_,_,_,_,rfl,ee,T.wu,rfl,T.Qn8,Qg5,fun l H1 nl s1 e1=>?_⟩
   have he1:=s1 _ _ ee
   refine⟨_,rfl,e,_,_,_,_,rfl,he1,T.wu,rfl,T.Qn7,_,rfl,Q4 ?_⟩
   refine⟨_,rfl,l,_,rfl,.inl (jH.of e1),rfl,rfl,_,rfl,Q4 ?_⟩
   refine⟨_,rfl,e,_,_,_,_,rfl,he1,T.wu,rfl,T.QmK,_,rfl,Zi ?_⟩
   exact⟨_,rfl,e,_,_,_,_,rfl,he1,T.wu,rfl,T.Qn9,k _ (sH.trans (s0.trans s1))⟩
  .refine⟨_,rfl,rfl,_,rfl,Qc0 (fun _=>?_) (fun _=>?_)⟩
   .exact⟨_,rfl,b,db,_,rfl,h.e,rfl,_,rfl,own,b,db,xr,L,xt,xi,xf,es,ls,bx,mk,WI,W,M,n,y,rfl,h,hn,rfl,rfl,Qo.refl _⟩
   .exact⟨_,rfl,b,db,_,rfl,h.e,rfl,_,rfl,own,b,db,xr,L,xt,xi,xf,es,ls,bx,mk,WI,W,M,n,y,rfl,h,hn,rfl,rfl,Qo.refl _⟩
end
theorem Ws(es:List Ent)(k:QvX)(c:Int)(h:Str)(v:V):Zs es (k,c,h,v)=match QA es k with
 | none=>true
 | some o=>HT.Qrd c h o.2.1 o.2.2.1:=by
 unfold Zs
 show(match QA es k with | none=>true | some o=>_)=_
 cases QA es k with
 | none=>rfl
 | some o=>exact(HT.Qte _ _ _ _).symm
structure Rw where
 x:Addr
 c:Int
 h:Str
 num:Int
 q:Addr
 u:Addr
 d:Dd
structure GE(H:Hp)(r:Rw):Prop where
 e:H r.x=some (.tup [.int r.c,.str r.h,.int r.num,.ref r.q])
 du:DU H r.q r.u r.d
theorem GE.tups{H H':Hp}{r:Rw}(h:GE H r)(k:∀c xs,H c=some (.tup xs)->H' c=some (.tup xs)):GE H' r:=⟨k _ _ h.e,k _ _ h.du.e,fun nm p e=>k _ _ (h.du.p nm p e)⟩
def Jh:Dd->Bool
 | .drop _=>true
 | _=>false
theorem QgW(d:Dd):decide (GU d=("drop":Str))=Jh d:=by
 cases d with
 | put nm p=>show decide (("put":Str)="drop")=false;decide +kernel
 | place nm fo=>show decide (("place":Str)="drop")=false;decide +kernel
 | mark nm y on=>show decide (("mark":Str)="drop")=false;decide +kernel
 | drop nm=>show decide (("drop":Str)="drop")=true;decide +kernel
def Zj(rs:List Rw):QvX:=(rs.filter fun r=>Jh r.d).map fun r=>r.d.nm
def W6(g:QvX)(rs:List Rw):List Rw:=rs.filter fun r=>ZB r.d && !decide (r.d.nm∈g)
def putN(rs:List Rw):QvX:=(rs.filter fun r=>ZB r.d).map fun r=>r.d.nm
def Yr(r:Rw):Option Ent:=match r.d with
 | .place nm fo=>some ([nm,""],r.c,r.h,.str fo)
 | .mark nm y on=>some ([nm,y],r.c,r.h,.bl on)
 | _=>none
def Q2(rs:List Rw):List Ent:=(rs.filterMap Yr).foldl QW []
abbrev ltK(g:QvX)(rs:List Rw):List (Key×V):=dG (fun r:Rw=>r.d.nm) (fun r=>V.ref r.u) (W6 g rs)
theorem Qgx(g:QvX)(rs:List Rw)(r:Rw):W6 g (rs++[r])=if (ZB r.d && !decide (r.d.nm∈g))=true then W6 g rs++[r] else W6 g rs:=by
 unfold W6
 rw[zE,qX]
 split
 .rfl
 .rw[Qm5,je]
theorem Xi(rs:List Rw)(r:Rw):Q2 (rs++[r])=match Yr r with
 | some e=>QW (Q2 rs) e
 | none=>Q2 rs:=by
 unfold Q2
 rw[List.filterMap_append,wg]
 cases h:Yr r with
 | none=>rw[show[r].filterMap Yr=[] by simp[h]];rfl
 | some e=>rw[show[r].filterMap Yr=[e] by simp[h]];rfl
theorem QaS(es:List Ent)(e:Ent):(QW es e).length<=es.length+1:=by
 unfold QW
 split
 .exact(Qcr es e).1
 .omega
theorem Qdn(rs:List Rw):(Q2 rs).length<=rs.length:=by
 have h:∀(xs:List Ent)(es:List Ent),(xs.foldl QW es).length<=es.length+xs.length:=fun xs=>by
  induction xs with
  | nil=>intro es;exact qt _
  | cons x xs ih =>
    intro es
    rw[jl]
    have:=ih (QW es x)
    have:=QaS es x
    rw[za];omega
 have h2:=h (rs.filterMap Yr) []
 have h3:=List.length_filterMap_le Yr rs
 have h4:([]:List Ent).length=0:=rfl
 unfold Q2
 omega
theorem QkA{g:QvX}{rs:List Rw}{m:Str}(h:m∈(W6 g rs).map fun r=>r.d.nm):m∈putN rs:=by
 obtain⟨r,hr,e⟩:=qd.mp h
 obtain⟨h1,h2⟩:=qu.mp hr
 exact qd.mpr ⟨r,qu.mpr ⟨h1,(jw.mp h2).1⟩,e⟩
theorem Vi(rs:List Rw)(r:Rw):putN (rs++[r])=if ZB r.d=true then putN rs++[r.d.nm] else putN rs:=by
 unfold putN
 rw[zE,qX]
 split
 .rw[qQ];rfl
 .rw[Qm5,je]
theorem Qms{u:Addr}{d:Dd}{r:Rw}(hd:r.d=d)(h:ZB d=false)(h2:Jh d=false):∃z y2:Str,atI (Qen u d) 2=some (.str z)/\atI [V.str "",V.str z] (if decide (V.str (GU d)=V.str "mark")=true then 1 else 0)=some (.str y2)/\Yr r=some ([d.nm,y2],r.c,r.h,ZT u d):=by
 cases d with
 | put nm p=>cases h
 | drop nm=>cases h2
 | place nm fo =>
   refine⟨fo,"",Qu (j:=2) rfl,?_,by unfold Yr;rw[hd];rfl⟩
   rw[JF,show decide (GU (.place nm fo)=("mark":Str))=false by show decide (("place":Str)="mark")=false;decide +kernel]
   rfl
 | mark nm y on =>
   refine⟨y,y,Qu (j:=2) rfl,?_,by unfold Yr;rw[hd];rfl⟩
   rw[JF,show decide (GU (.mark nm y on)=("mark":Str))=true by show decide (("mark":Str)="mark")=true;decide +kernel]
   rfl
theorem QlW{d:Dd}(h:ZB d=false)(h2:Jh d=false):GU d=("place":Str)\/GU d=("mark":Str):=by
 cases d with
 | put nm p=>cases h
 | drop nm=>cases h2
 | place nm fo=>exact .inl rfl
 | mark nm y on=>exact .inr rfl
theorem Qkf{r:Rw}(h:¬(ZB r.d=false/\Jh r.d=false)):Yr r=none:=by
 unfold Yr
 cases hd:r.d with
 | put nm p=>rfl
 | drop nm=>rfl
 | place nm fo=>rw[hd] at h;exact absurd ⟨rfl,rfl⟩ h
 | mark nm y on=>rw[hd] at h;exact absurd ⟨rfl,rfl⟩ h
theorem QlX{d:Dd}(h:¬(ZB d=false/\Jh d=false)):GU d≠("place":Str)/\GU d≠("mark":Str):=by
 cases d with
 | put nm p=>exact⟨by show("put":Str)≠"place";decide +kernel,by show("put":Str)≠"mark";decide +kernel⟩
 | drop nm=>exact⟨by show("drop":Str)≠"place";decide +kernel,by show("drop":Str)≠"mark";decide +kernel⟩
 | place nm fo=>exact absurd ⟨rfl,rfl⟩ h
 | mark nm y on=>exact absurd ⟨rfl,rfl⟩ h
theorem Qjh{u:Addr}{d:Dd}(h:ZB d=true):atI (Qen u d) 2=some (.ref u):=by
 cases d with
 | put nm p=>exact Qu (j:=2) rfl
 | place nm fo=>cases h
 | mark nm y on=>cases h
 | drop nm=>cases h
inductive Qan(vs:List V)(H:Hp)(Q:VK):Prop
 | mk:∀(R:Addr)(rs:List Rw),vs=[.ref R]->H R=some (.lst (rs.map fun r=>V.ref r.x))->(∀r∈rs,GE H r)->rs.length<=63->(putN rs).Nodup ->
    (∀(t L B:Addr)(kvs:List (List Key×V)) H',Qo H H'->H L=none->H B=none->H' t=some (.tup [.ref L,.ref B])->H' L=some (.dK (ltK (Zj rs) rs))->H' B=some (.dT kvs)->QH H' kvs (Q2 rs)->Q (.ref t) H')->Qan vs H Q
def QjS:Sp:=fun vs H Q _=>Qan vs H Q
theorem Got.of{H:Hp}{o:Option V}{e:Option Ent}(h:Got H o e){G:Prop}(h1:o=none->e=none->G)(h2:∀(p st:Addr)(x:Ent),o=some (.ref p)->e=some x->H p=some (.tup [.ref st,x.2.2.2])->H st=some (.tup [.int x.2.1,.str x.2.2.1])->G):G:=by
 cases h with
 | no=>exact h1 rfl rfl
 | yes e1 e2=>exact h2 _ _ _ rfl rfl e1 e2
section
variable {P:Program}{w:World}{K:Frag}{mg:Str->Option Value}{base:Heap}{a:z8}
theorem Qii{fd:FuncData}(F:jn K "_law_plain" "_law_plain" UQ a.QmR fd)(T:Txt K mg a):QO P w K mg base xN 1 a.QmR fd ["_law_rows"] QjS:=by
 refine F.ok ZG (fun _ _ _ _ h=>by cases h;subst_vars;rfl) (fun cdv A outer s H vs Q E hr h=>?_)
 .obtain⟨R,rs,rfl,eR,hrs,hlen,hnd,k⟩:=h
  have hu:=Zr hr
  have hu0:=hr.Qtd
  refine⟨_,(Qd (KL (sc:=Qh UQ) (N:=QaL) (i:=1) (fr:=[]) ⟨rfl,rfl,by decide +kernel,by decide +kernel,by decide +kernel,by decide +kernel,by decide +kernel⟩ rfl rfl rfl ZG.nd rfl rfl (Yn (pv 0)) (fun _ _ _ _=>Qbk (QL Yb (Qr (JS K) (Qr (JS K) (pv 0) Qi) Qi) Qp)) (fun _ _ _ _=>(Qr (JS K) (Qr (JS K) (pv 0) Qi) Qi)))
   (Qd (Qy (i:=2) ZG.nd rfl (Or.inl rfl) Zv)
   (Qd (Qy (i:=3) ZG.nd rfl (Or.inl rfl) U2)
   (Qd (Uz yP rfl (Yn (pv 0)) (Qh5 rfl (Uf (ZI (i:=4) ZG.nd rfl (Or.inl rfl)) (Uf (ZI (i:=5) ZG.nd rfl (Or.inl rfl)) (Uf (ZI (i:=6) ZG.nd rfl (Or.inl rfl)) (Uf (ZI (i:=7) ZG.nd rfl (Or.inl rfl)) Qe9))))) (Qd (QZ (PW.pt (Uy (QL Yb (Qr QN (pv 7) Qi) Qp) (YV (QL Qbq (Qr QN (pv 7) Qi) (pv 1) (by with_unfolding_all rfl))))) (Qf (Zp hu (pv 2) (Qr QN (pv 7) Qi) (Qr QN (pv 7) Qi) rfl)) QD)
   (Qf (QZ (PW.pt (Xr (QL Yb (Qr QN (pv 7) Qi) Qp) (UY (QL Yb (Qr QN (pv 7) Qi) Qp)))) (Qd (Qy (i:=8) ZG.nd rfl (Or.inl rfl) (Zd (Qg (Qr QN (pv 7) Qi) (Qg (Qr QR (ZJ (Qg Qp (Qg (Qr QN (pv 7) Qi) Qz))) (JI Qa1 rfl T.QtA boot_int (zr (YW Yb (Qr QN (pv 7) Qi) Qp) Qe))) Qz))))
   (Qf (QZ (PW.pt (Xr (Z2 (Jl hu (pv 8) (pv 3))) (UY (QL (Ql3 hu0) (Qr QN (Qv hu (pv 3) (pv 8)) Qi) (Zd (Qg (pv 4) (Qg (pv 5) Qz))))))) (Qf (Zp hu (pv 3) (pv 8) (Zd (Qg (Zd (Qg (pv 4) (Qg (pv 5) Qz))) (Qg (Qr QN (pv 7) (Qk9 Qha Qi)) Qz))) rfl)) QD))) QD))))
   (Qf (QJ (Zd (Qg (pv 2) (Qg (pv 3) Qz))))))))),?_⟩
  refine⟨_,rfl,R,rfl,⟨_,jH.of eR⟩,Qda (K:=K) (xs:=rs) (fun r=>V.ref r.x) (fun r=>Jh r.d) (fun r=>V.str r.d.nm) (Zg ((by omega))) (jH.of eR) ?_ ?_ ?_⟩
  .intro r H3 Q' hm s3 q'
   have hr3:=(hrs r hm).tups fun c xs e=>s3 _ _ e
   refine⟨_,rfl,r.x,_,_,_,rfl,rfl,ye.of hr3.e,Qu (j:=3) rfl,r.q,_,_,_,rfl,rfl,ye.of hr3.du.e,VZ r.u r.d,rfl,_,rfl,?_⟩
   show Q' _ _
   rw[JF,QgW]
   exact q'
  .intro r H3 Q' hm s3 hp q'
   have hr3:=(hrs r hm).tups fun c xs e=>s3 _ _ e
   exact⟨_,rfl,r.x,_,_,_,rfl,rfl,ye.of hr3.e,Qu (j:=3) rfl,r.q,_,_,_,rfl,rfl,ye.of hr3.du.e,Vb r.u r.d,q'⟩
  .intro g ng
   have s1:Qo H (upd H g (.lst ((rs.filter fun r=>Jh r.d).map fun r=>V.str r.d.nm))):=Qo.z7 ng
   have e1:(upd H g (.lst ((rs.filter fun r=>Jh r.d).map fun r=>V.str r.d.nm))) g=some (.lst ((Zj rs).map V.str)):=by rw[Qc];unfold Zj;rw[zJ];rfl
   show Gm _ _ _ (upd H g (.lst ((rs.filter fun r=>Jh r.d).map fun r=>V.str r.d.nm))) _
   generalize upd H g (.lst ((rs.filter fun r=>Jh r.d).map fun r=>V.str r.d.nm))=H1 at s1 e1 ⊢
   intro L nL
   have s2:Qo H1 (upd H1 L (.dK [])):=Qo.z7 nL
   have e2:(upd H1 L (.dK [])) L=some (.dK []):=Qc
   show Ye _ _ _ _ (upd H1 L (.dK []))
   generalize upd H1 L (.dK [])=H2 at s2 e2 ⊢
   intro B nB
   have s3:Qo H2 (upd H2 B (.dT [])):=Qo.z7 nB
   have e3:(upd H2 B (.dT [])) B=some (.dT []):=Qc
   show Ye _ _ _ _ (upd H2 B (.dT []))
   generalize upd H2 B (.dT [])=H3 at s3 e3 ⊢
   have LB:L≠B:=Qb e2 nB
   have s03:=(s1.trans s2).trans s3
   have nL0:H L=none:=s1.free nL
   have nB0:H B=none:=(s1.trans s2).free nB
   refine⟨_,rfl,R,rfl,⟨_,jH.of (s03 _ _ eR)⟩,YI (K:=K) (a:=R) (xs:=rs.map fun r=>V.ref r.x) (fun i σ G=>∃(o4 o5 o6 o7 o8:Option V)(kvs:List (List Key×V)),σ=[some (.ref R),some (.ref g),some (.ref L),some (.ref B),o4,o5,o6,o7,o8]/\Qo H G/\G g=some (.lst ((Zj rs).map V.str))/\G L=some (.dK (ltK (Zj rs) (rs.take i)))/\G B=some (.dT kvs)/\QH G kvs (Q2 (rs.take i)))
    ⟨none,none,none,none,none,[],rfl,s03,s3 _ _ (s2 _ _ e1),s3 _ _ e2,e3,.nil⟩ (fun i σ G _ ⟨_,_,_,_,_,_,_,sG,_⟩=>jH.of (sG _ _ eR)) ?_ ?_⟩
   .rintro i v σ G hi ⟨o4,o5,o6,o7,o8,kvs,rfl,sG,eg,eL,eB,hE⟩
    rw[q8] at hi
    obtain⟨r,hri,rfl⟩:∃r,rs[i]?=some r/\V.ref r.x=v:=by
     cases h:rs[i]? with
     | none=>rw[h] at hi;cases hi
     | some r=>rw[h] at hi;exact⟨r,rfl,qR hi⟩
    have il:i<rs.length:=(zp.mp hri).1
    have hm:=qU hri
    have hG:=(hrs r hm).tups fun c xs e=>sG _ _ e
    have et:rs.take (i+1)=rs.take i++[r]:=by rw[jX,hri];rfl
    refine⟨r.x,_,rfl,ye.of hG.e,rfl,_,_,rfl,_,_,rfl,_,_,rfl,_,_,rfl,rfl,?_⟩
    refine Jp fun N hN=>?_
    have rest:∀(G1:Hp),Qo H G1->G1 g=some (.lst ((Zj rs).map V.str))->G1 L=some (.dK (ltK (Zj rs) (rs.take (i+1))))->G1 B=some (.dT kvs)->QH G1 kvs (Q2 (rs.take i))->N [some (.ref R),some (.ref g),some (.ref L),some (.ref B),some (.int r.c),some (.str r.h),some (.int r.num),some (.ref r.q),o8] G1:=fun G1 sG1 eg1 eL1 eB1 hE1=>by
     subst hN
     have hG1:=(hrs r hm).tups fun c xs e=>sG1 _ _ e
     refine⟨_,rfl,r.q,_,_,_,rfl,rfl,ye.of hG1.du.e,VZ r.u r.d,rfl,_,rfl,?_⟩
     by_cases hpm:ZB r.d=false/\Jh r.d=false
     .obtain⟨z,y2,h2,h3,hb⟩:=Qms (r:=r) (u:=r.u) rfl hpm.1 hpm.2
      rcases QlW hpm.1 hpm.2 with hp | hp
      case' inl =>
       rw[JF,qp hp]
       refine Zi ?_
      case' inr =>
       rw[JF,qF (by rw[hp];decide +kernel)]
       refine Q4 ⟨_,rfl,r.q,_,_,_,rfl,rfl,ye.of hG1.du.e,VZ r.u r.d,rfl,_,rfl,?_⟩
       rw[JF,qp hp]
       refine Zi ?_
      all_goals
       refine⟨_,rfl,r.q,_,_,_,rfl,rfl,ye.of hG1.du.e,Vb r.u r.d,_,rfl,r.q,_,_,_,rfl,rfl,ye.of hG1.du.e,h2,Yx,fun p1 H1' np1 s1' e1'=>⟨_,rfl,r.q,_,_,_,rfl,rfl,ye.of (s1' _ _ hG1.du.e),VZ r.u r.d,rfl,.inr ⟨_,rfl,p1,_,_,_,rfl,rfl,jH.of e1',h3,Yx,fun kb H2' nkb s2' ekb=>?_⟩⟩⟩
       have sG2:=(sG1.trans s1').trans s2'
       have hG2:=(hrs r hm).tups fun c xs e=>sG2 _ _ e
       have eg2:=s2' _ _ (s1' _ _ eg1)
       have eL2:=s2' _ _ (s1' _ _ eL1)
       have eB2:=s2' _ _ (s1' _ _ eB1)
       have hE2:=hE1.mono fun c xs e=>s2' _ _ (s1' _ _ e)
       have ek:H2' kb=some (.tup ((QV [r.d.nm,y2]).map kV)):=by rw[JZ];exact ekb
       have hkl:kvs.length<sizeLine:=by
        rw[hE2.len]
        have:=Qdn (rs.take i)
        rw[zN] at this
        exact QK (by omega)
       have bs:Q2 (rs.take i++[r])=QW (Q2 (rs.take i)) ([r.d.nm,y2],r.c,r.h,ZT r.u r.d):=by rw[Xi,hb]
       have fin2:∀(H7:Hp)(st1 p2:Addr),Qo H H7->H7 g=some (.lst ((Zj rs).map V.str))->H7 L=some (.dK (ltK (Zj rs) (rs.take (i+1))))->H7 B=some (.dT kvs)->QH H7 kvs (Q2 (rs.take i))->H7 p2=some (.tup [.ref st1,ZT r.u r.d])->H7 st1=some (.tup [.int r.c,.str r.h])->Zs (Q2 (rs.take i)) ([r.d.nm,y2],r.c,r.h,ZT r.u r.d)=true ->
        ∃(o4 o5 o6 o7 o8:Option V)(kvs':List (List Key×V)),[some (V.ref R),some (.ref g),some (.ref L),some (.ref B),some (.int r.c),some (.str r.h),some (.int r.num),some (.ref r.q),some (.ref kb)]=[some (.ref R),some (.ref g),some (.ref L),some (.ref B),o4,o5,o6,o7,o8]/\Qo H (upd H7 B (.dT (Za kvs (QV [r.d.nm,y2]) (.ref p2))))/\(upd H7 B (.dT (Za kvs (QV [r.d.nm,y2]) (.ref p2)))) g=some (.lst ((Zj rs).map V.str))/\(upd H7 B (.dT (Za kvs (QV [r.d.nm,y2]) (.ref p2)))) L=some (.dK (ltK (Zj rs) (rs.take (i+1))))/\(upd H7 B (.dT (Za kvs (QV [r.d.nm,y2]) (.ref p2)))) B=some (.dT kvs')/\QH (upd H7 B (.dT (Za kvs (QV [r.d.nm,y2]) (.ref p2)))) kvs' (Q2 (rs.take (i+1))):=fun H7 st1 p2 s7 eg7 eL7 eB7 hE7 ep est hkb=>by
        refine⟨_,_,_,_,_,_,rfl,s7.uR nB0,by rw[Qa (QX eg7 eB7 (fun z=>nomatch z))];exact eg7,by rw[Qa LB];exact eL7,Qc,?_⟩
        rw[et,bs]
        unfold QW
        rw[qD hkb]
        exact(hE7.put ep est).mono fun c xs e=>by rw[Qa (QX e eB7 (fun z=>nomatch z))];exact e
       refine(hE2.get [r.d.nm,y2]).of (fun ho he=>?_) (fun p st x ho he ep est=>?_)
       .have kB:Zs (Q2 (rs.take i)) ([r.d.nm,y2],r.c,r.h,ZT r.u r.d)=true:=by rw[Ws,he]
        refine⟨_,rfl,_,rfl,B,none,rfl,by rw[<-ho];exact Zk.t eB2 ek,_,rfl,Zi ?_⟩
        exact⟨_,rfl,_,rfl,Yx,fun st1 H6 nst s6 e6=>⟨_,rfl,_,rfl,r.q,_,_,_,rfl,rfl,ye.of (s6 _ _ hG2.du.e),Qem r.u r.d,Yx,fun p2 H7 np2 s7 e7=>⟨_,rfl,_,rfl,B,_,rfl,Jo.t (s7 _ _ (s6 _ _ eB2)) (s7 _ _ (s6 _ _ ek)) hkl,fin2 H7 st1 p2 ((sG2.trans s6).trans s7) (s7 _ _ (s6 _ _ eg2)) (s7 _ _ (s6 _ _ eL2)) (s7 _ _ (s6 _ _ eB2)) (hE2.mono fun c xs e=>s7 _ _ (s6 _ _ e)) e7 (s7 _ _ e6) kB⟩⟩⟩
       .have kB:Zs (Q2 (rs.take i)) ([r.d.nm,y2],r.c,r.h,ZT r.u r.d)=HT.Qrd r.c r.h x.2.1 x.2.2.1:=by rw[Ws,he]
        refine⟨_,rfl,_,rfl,B,some (.ref p),rfl,by rw[<-ho];exact Zk.t eB2 ek,_,rfl,Q4 ⟨_,rfl,_,rfl,B,_,rfl,by rw[<-ho];exact Zk.t eB2 ek,p,_,_,_,rfl,rfl,ye.of ep,Qu (j:=0) rfl,_,rfl,_,rfl,Yx,fun q5 H5 nq5 s5 e5=>⟨st,q5,_,_,_,_,rfl,rfl,ye.of (s5 _ _ est),ye.of e5,_,rfl,?_⟩⟩⟩
        rw[HT.Qt4,<-kB]
        cases hkb:Zs (Q2 (rs.take i)) ([r.d.nm,y2],r.c,r.h,ZT r.u r.d) with
        | true=>exact Zi ⟨_,rfl,_,rfl,Yx,fun st1 H6 nst s6 e6=>⟨_,rfl,_,rfl,r.q,_,_,_,rfl,rfl,ye.of (s6 _ _ (s5 _ _ hG2.du.e)),Qem r.u r.d,Yx,fun p2 H7 np2 s7 e7=>⟨_,rfl,_,rfl,B,_,rfl,Jo.t (s7 _ _ (s6 _ _ (s5 _ _ eB2))) (s7 _ _ (s6 _ _ (s5 _ _ ek))) hkl,fin2 H7 st1 p2 (((sG2.trans s5).trans s6).trans s7) (s7 _ _ (s6 _ _ (s5 _ _ eg2))) (s7 _ _ (s6 _ _ (s5 _ _ eL2))) (s7 _ _ (s6 _ _ (s5 _ _ eB2))) (hE2.mono fun c xs e=>s7 _ _ (s6 _ _ (s5 _ _ e))) e7 (s7 _ _ e6) hkb⟩⟩⟩
        | false =>
          refine Q4 ⟨_,_,_,_,_,kvs,rfl,sG2.trans s5,s5 _ _ eg2,s5 _ _ eL2,s5 _ _ eB2,?_⟩
          rw[et,bs]
          unfold QW
          rw[hkb]
          exact hE2.mono fun c xs e=>s5 _ _ e
     .have hb:Yr r=none:=Qkf hpm
      have bs:Q2 (rs.take i++[r])=Q2 (rs.take i):=by rw[Xi,hb]
      obtain⟨q1,q2⟩:=QlX hpm
      rw[JF,qF q1]
      refine Q4 ⟨_,rfl,r.q,_,_,_,rfl,rfl,ye.of hG1.du.e,VZ r.u r.d,rfl,_,rfl,?_⟩
      rw[JF,qF q2]
      refine Q4 ⟨_,_,_,_,_,kvs,rfl,sG1,eg1,eL1,eB1,?_⟩
      rw[et,bs]
      exact hE1
    have lsn:=Qgx (Zj rs) (rs.take i) r
    rw[<-et] at lsn
    refine⟨_,rfl,r.q,_,_,_,rfl,rfl,ye.of hG.du.e,VZ r.u r.d,rfl,_,rfl,?_⟩
    rw[JF,Qcq]
    cases hp:ZB r.d with
    | false =>
      rw[hp] at lsn
      exact Q4 (rest G sG eg (by rw[eL];unfold ltK;rw[lsn];rfl) eB hE)
    | true =>
      rw[hp] at lsn
      refine Zi ⟨_,rfl,r.q,_,_,_,rfl,rfl,ye.of hG.du.e,Vb r.u r.d,_,rfl,g,_,rfl,.inl (jH.of eg),rfl,?_,_,rfl,?_⟩
      .rw[List.all_map];exact jR.mpr fun _ _=>rfl
      .rw[qD rfl,Qi2]
       cases hg:decide (r.d.nm∈Zj rs) with
       | true =>
         rw[hg] at lsn
         exact Q4 (rest G sG eg (by rw[eL];unfold ltK;rw[lsn];rfl) eB hE)
       | false =>
         rw[hg] at lsn
         have nin:¬r.d.nm∈(W6 (Zj rs) (rs.take i)).map fun r=>r.d.nm:=fun z=>by
          have z:=QkA z
          have e:putN rs=putN (rs.take i)++putN (rs.drop i):=by
           unfold putN
           rw[<-qQ,<-zE,List.take_append_drop]
          have hd:rs.drop i=r :: rs.drop (i+1):=by rw[List.drop_eq_getElem_cons il];congr 1;exact(zp.mp hri).2
          have m2:r.d.nm∈putN (rs.drop i):=by rw[hd];unfold putN;rw[qX,qD hp];exact qL ..
          rw[e,jZ] at hnd
          exact hnd.2.2 _ z _ m2 rfl
         have d2:atI (Qen r.u r.d) 2=some (.ref r.u):=Qjh hp
         refine Zi ⟨_,rfl,r.q,_,_,_,rfl,rfl,ye.of hG.du.e,d2,_,rfl,_,rfl,r.q,_,_,_,rfl,rfl,ye.of hG.du.e,Vb r.u r.d,L,_,rfl,Jo.k (k:=Sum.inr r.d.nm) eL (by rw[Xg];have:=q9 (fun r:Rw=>ZB r.d && !decide (r.d.nm∈Zj rs)) (rs.take i);rw[zN] at this;exact QK (by unfold W6;omega)),?_⟩
         refine rest _ (sG.uR nL0) (by rw[Qa (QX eg eL (fun z=>nomatch z))];exact eg) ?_ (by rw[Qa LB.symm];exact eB) (hE.mono fun c xs e=>by rw[Qa (QX e eL (fun z=>nomatch z))];exact e)
         rw[Qc,Xf r nin rfl rfl]
         unfold ltK
         rw[lsn]
         rfl
   .rintro σ G ⟨o4,o5,o6,o7,o8,kvs,rfl,sG,eg,eL,eB,hE⟩
    rw[qi,zH (qt _)] at eL hE
    exact⟨_,rfl,_,rfl,Yx,fun t H5 nt s5 e5=>k t L B kvs H5 (sG.trans s5) nL0 nB0 e5 (s5 _ _ eL) (s5 _ _ eB) (hE.mono fun c xs e=>s5 _ _ e)⟩
end
def QaY(es:List Ent)(nm:Str):V:=match QA es [nm,""] with
 | some e=>e.2.2.2
 | none=>.str "inbox"
def onE(es:List Ent)(k:QvX):Bool:=match QA es k with
 | some e=>decide (e.2.2.2=V.bl true)
 | none=>false
def mkL(es:List Ent)(nm:Str)(e:Ent):Bool:=decide (e.1.getD 0 ""=nm) && (!decide (e.1.getD 1 ""=("":Str)) && onE es e.1)
def J2(es:List Ent)(nm:Str):QvX:=(es.filter (mkL es nm)).map fun e=>e.1.getD 1 ""
structure BOk(es:List Ent):Prop where
 two:∀e∈es,e.1.length=2
 on:∀e∈es,e.1.getD 1 ""≠("":Str)->∃on,e.2.2.2=V.bl on
theorem QfX{H G:Hp}{B:Addr}{oa:Obj}{kvs:List (List Key×V)}(e:H B=some (.dT kvs))(s:Qo (upd H B (.uH oa (.dT kvs))) G):Qo H (upd G B (.dT kvs)):=fun c o h=>by
 by_cases z:c=B
 .rw[z,e] at h;rw[z,Qc];exact h
 .rw[Qa z];exact s c o (by rw[Qa z];exact h)
theorem X5{H:Hp}:∀{bs:List Addr}{es:List Ent},Um H bs ((es.map (·.1)).map QV)->∀x∈bs.zip es,H x.1=some (.tup (x.2.1.map V.str))/\x.2∈es
 | _,[],h,x,hx=>by rw[List.zip_nil_right] at hx;cases hx
 | bs,e :: es,h,x,hx=>by
   rw[qW,qW] at h
   cases h with
   | cons e1 r =>
     rw[List.zip_cons_cons] at hx
     rcases qG.mp hx with rfl | hx
     .exact⟨by rw[<-JZ];exact e1,qL ..⟩
     .obtain⟨q1,q2⟩:=X5 r x hx
      exact⟨q1,qP _ q2⟩
theorem X6(p:Ent->Bool)(f:Ent->V):∀{bs:List Addr}{es:List Ent},bs.length=es.length->((bs.zip es).filter fun x=>p x.2).map (fun x=>f x.2)=(es.filter p).map f
 | [],[],_=>rfl
 | b :: bs,e :: es,h=>by
   rw[List.zip_cons_cons,qX,qX]
   have ih:=X6 p f (bs:=bs) (es:=es) (by simpa using h)
   cases hp:p e with
   | true=>simp only[hp,gf,qW,ih]
   | false=>simp only[hp,zO,yX,ih]
inductive Xn(vs:List V)(H:Hp)(Q:VK):Prop
 | mk:∀(B:Addr)(kvs:List (List Key×V))(es:List Ent)(nm:Str),vs=[.ref B,.str nm]->H B=some (.dT kvs)->QH H kvs es->(∀H',Qo H H'->Q (QaY es nm) H')->Xn vs H Q
def QfZ:Sp:=fun vs H Q _=>Xn vs H Q
inductive Kk(vs:List V)(H:Hp)(Q:VK):Prop
 | mk:∀(B:Addr)(kvs:List (List Key×V))(es:List Ent)(nm:Str),vs=[.ref B,.str nm]->H B=some (.dT kvs)->QH H kvs es->BOk es->es.length<64->(∀l H',H l=none->Qo H H'->H' l=some (.lst ((Q9 (J2 es nm)).map V.str))->Q (.ref l) H')->Kk vs H Q
def Qhv:Sp:=fun vs H Q _=>Kk vs H Q
section
variable {P:Program}{w:World}{K:Frag}{mg:Str->Option Value}{base:Heap}{a:z8}
theorem QdW{fd:FuncData}(F:jn K "_law_folder" "_law_folder" Vg a.u6 fd)(T:Txt K mg a):QO P w K mg base xN 1 a.u6 fd ["_law_best","_law_name"] QfZ:=by
 refine F.ok Qce (fun _ _ _ _ h=>by cases h;subst_vars;rfl) (fun cdv A outer s H vs Q E hr h=>?_)
 .obtain⟨B,kvs,es,nm,rfl,eB,hE,k⟩:=h
  have hu:=Zr hr
  refine⟨_,(Qd (QZ (Z2 (VR hu (Zd (Qg (pv 1) (Qg Qp Qz))) (pv 0))) (Qf (QJ (Qr QN (Qv hu (pv 0) (Zd (Qg (pv 1) (Qg Qp Qz)))) Qi))) QD)
   (Qf (QJ Qp))),?_⟩
  refine⟨_,rfl,Yx,fun q1 H1 nq1 s1 e1=>?_⟩
  have ek:H1 q1=some (.tup ((QV [nm,""]).map kV)):=by rw[JZ];exact e1
  have hE1:=hE.mono fun c xs e=>s1 _ _ e
  refine(hE1.get [nm,""]).of (fun ho he=>?_) (fun p st x ho he ep est=>?_)
  .refine⟨_,rfl,B,none,rfl,by rw[<-ho];exact Zk.t (s1 _ _ eB) ek,_,rfl,Q4 ?_⟩
   have:=k H1 s1
   unfold QaY at this
   rw[he] at this
   exact this
  .refine⟨_,rfl,B,some (.ref p),rfl,by rw[<-ho];exact Zk.t (s1 _ _ eB) ek,_,rfl,Zi ?_⟩
   refine⟨_,rfl,_,rfl,Yx,fun q2 H2 nq2 s2 e2=>?_⟩
   have ek2:H2 q2=some (.tup ((QV [nm,""]).map kV)):=by rw[JZ];exact e2
   refine⟨B,_,rfl,by rw[<-ho];exact Zk.t (s2 _ _ (s1 _ _ eB)) ek2,p,_,_,_,rfl,rfl,ye.of (s2 _ _ ep),Qu (j:=1) rfl,?_⟩
   have:=k H2 (s1.trans s2)
   unfold QaY at this
   rw[he] at this
   exact this
theorem Qgh{fd:FuncData}(F:jn K "_law_marks" "_law_marks" UR a.QmT fd)(T:Txt K mg a):QO P w K mg base xN 1 a.QmT fd ["_law_best","_law_name"] Qhv:=by
 refine F.ok QdF (fun _ _ _ _ h=>by cases h;subst_vars;rfl) (fun cdv A outer s H vs Q E hr h=>?_)
 .obtain⟨B,kvs,es,nm,rfl,eB,hE,hB,h64,k⟩:=h
  have hu:=Zr hr
  refine⟨_,(Qf (Qh0 (QJ (QC Qdg rfl T.QmL boot_sorted (zr (XX (sc:=Qh UR) (N:=QaM) (fr:=[(1,"_law_name"),(0,"_law_best")]) ⟨rfl,rfl,by decide +kernel,by decide +kernel,by decide +kernel,by decide +kernel,by decide +kernel⟩ rfl rfl rfl (Qh4 (pv 0)) (fun _ _ _ _=>Qbk (PW.pt (Uy (QL Yb (Qr (JS K) (pv 0) Qi) (pv 1)) (Uy (QL Qfc (Qr (JS K) (pv 0) Qi) Qp) (YV (Jf (Qr (JS K) (Qv hu (pv 2) (pv 0)) Qi))))))) (fun _ _ _ _=>(Qr (JS K) (pv 0) Qi))) Qe))))),?_⟩
  refine⟨B,kvs,eB,fun oa=>?_⟩
  have kt:∀c xs,H c=some (.tup xs)->(upd H B (.uH oa (.dT kvs))) c=some (.tup xs):=fun c xs e=>by rw[Qa (fun z=>by rw[z,eB] at e;cases e)];exact e
  have hE1:=hE.mono kt
  have eF:(upd H B (.uH oa (.dT kvs))) B=some (.uH oa (.dT kvs)):=Qc
  have Qu4:∀G,Qo (upd H B (.uH oa (.dT kvs))) G->Qo H (upd G B (.dT kvs)):=fun G s=>QfX eB s
  generalize upd H B (.uH oa (.dT kvs))=H1 at hE1 eF Qu4 ⊢
  refine⟨_,rfl,B,oa,kvs,rfl,eF,fun bs hbs=>?_⟩
  rw[hE1.keys] at hbs
  have hbl:bs.length=es.length:=by have:=hbs.len;rw[qi,qi] at this;exact this
  have hzl:(bs.zip es).length=es.length:=by rw[List.length_zip];omega
  refine Qdc (xs:=bs.zip es) (fun x=>V.ref x.1) (fun x=>mkL es nm x.2) (fun x=>V.str (x.2.1.getD 1 "")) (by rw[hzl];exact Zg ((by omega))) eF (by rw[show(fun x:Addr×Ent=>V.ref x.1)=V.ref∘Prod.fst from rfl,<-zJ,List.map_fst_zip (by omega)]) ?_ ?_ ?_
  .intro x H3 Q' hx s3 q'
   obtain⟨ex,hxm⟩:=X5 hbs x hx
   have two:=hB.two _ hxm
   have ex3:=s3 _ _ ex
   refine⟨_,rfl,x.1,_,_,_,rfl,rfl,ye.of ex3,GB (j:=0) (by omega),_,rfl,rfl,_,rfl,?_⟩
   unfold mkL at q'
   rw[JF]
   cases h0:decide (x.2.1.getD 0 ""=nm) with
   | false=>rw[h0] at q';exact Q4 q'
   | true =>
     rw[h0] at q'
     refine Zi ⟨_,rfl,x.1,_,_,_,rfl,rfl,ye.of ex3,GB (j:=1) (by omega),rfl,_,rfl,?_⟩
     rw[QlB]
     cases h1:decide (x.2.1.getD 1 ""=("":Str)) with
     | true=>rw[h1] at q';exact Q4 q'
     | false =>
       rw[h1] at q'
       have h1:=QnN h1
       have ek:H3 x.1=some (.tup ((QV x.2.1).map kV)):=by rw[JZ];exact ex3
       have hE3:=hE1.mono fun c xs e=>s3 _ _ e
       obtain⟨e',hv⟩:=X7 hxm
       have hg:=hE3.get x.2.1
       rw[hv] at hg
       refine Zi ?_
       refine hg.of (fun _ z=>nomatch z) (fun p st y ho he ep est=>?_)
       cases he
       obtain⟨m1,m2⟩:=JU hv
       obtain⟨on,hon⟩:=hB.on e' m1 (by rw[m2];exact h1)
       refine⟨_,rfl,_,rfl,B,_,rfl,.inr ⟨kvs,QV x.2.1,x.1,.inr ⟨oa,s3 _ _ eF⟩,rfl,ek,ho.symm⟩,p,_,_,_,rfl,rfl,ye.of ep,Qu (j:=1) rfl,?_⟩
       rw[hon]
       refine⟨on,rfl,?_⟩
       have e0:onE es x.2.1=on:=by unfold onE;rw[hv];show decide (e'.2.2.2=V.bl true)=on;rw[hon];cases on <;> decide
       rw[e0] at q'
       exact q'
  .intro x H3 Q' hx s3 hp q'
   obtain⟨ex,hxm⟩:=X5 hbs x hx
   have two:=hB.two _ hxm
   exact⟨_,rfl,x.1,_,_,_,rfl,rfl,ye.of (s3 _ _ ex),GB (j:=1) (by omega),q'⟩
  .intro D nD
   rw[X6 (mkL es nm) (fun e=>V.str (e.1.getD 1 "")) hbl]
   have sD:Qo H1 (upd H1 D (.lst ((es.filter (mkL es nm)).map fun e=>V.str (e.1.getD 1 "")))):=Qo.z7 nD
   have eD:(upd H1 D (.lst ((es.filter (mkL es nm)).map fun e=>V.str (e.1.getD 1 "")))) D=some (.lst ((J2 es nm).map V.str)):=by rw[Qc];unfold J2;rw[zJ];rfl
   generalize upd H1 D (.lst ((es.filter (mkL es nm)).map fun e=>V.str (e.1.getD 1 "")))=H2 at sD eD ⊢
   have hml:(J2 es nm).length<64:=by unfold J2;rw[qi];have:=q9 (mkL es nm) es;omega
   refine⟨D,J2 es nm,rfl,jH.of eD,hml,fun l nl=>?_⟩
   have sl:Qo H1 (upd H2 l (.lst ((Q9 (J2 es nm)).map V.str))):=sD.trans (Qo.z7 nl)
   have lB:l≠B:=(Qb (sD _ _ eF) nl).symm
   refine⟨sl _ _ eF,k l _ ?_ (Qu4 _ sl) (by rw[Qa lB];exact Qc)⟩
   cases q:H l with
   | none=>rfl
   | some o =>
     have:=Qu4 H2 sD _ _ q
     rw[Qa lB,nl] at this
     cases this
end
def Qvg(p:LD):PyData:=.tuple [.str p.s,.str p.t,.str p.b,.int p.d,.str p.an]
theorem Qkd{p:LD}(g:V1 p.s p.t p.b p.d p.an):SeqAt.shaped (Qvg p)=true:=by
 have h1:=g.s_.asc.ok
 have h2:=g.t_.ok
 have h3:=g.b_.ok
 have h4:PyData.strOk p.an=true:=by
  rcases g.a_ with e | e
  .rw[e];decide +kernel
  .exact e.asc.ok
 simp[Qvg,SeqAt.shaped,PyData.canLay0,PyData.canLayAll0,PyData.depth,PyData.depthAll,h1,h2,h3,h4]
def Qjs(fo:Str)(ms:QvX):PyData:=.tuple [.str fo,.list (ms.map PyData.str)]
theorem Qjr{fo:Str}{ms:QvX}(h:Asc fo)(hm:∀y∈ms,Asc y):SeqAt.shaped (Qjs fo ms)=true:=by
 have q:=Gc hm
 simp[Qjs,SeqAt.shaped,PyData.canLay0,PyData.canLayAll0,PyData.depth,PyData.depthAll,h.ok,q.1,q.2]
inductive QeJ(a:z8)(vs:List V)(H:Hp)(Q:VK):Prop
 | mk:∀(own:Addr->Nat)(b db xr L xt xi xf:Addr)(es:List Ent)(ls:List LE)(bx:Rows)(mk:Str->QvX)(WI W M:QvX)(n:Nat)(l:LE)(fo:Str)(LL B u:Addr)(lk:List (Key×V))(kvs:List (List Key×V))(be:List Ent),
    vs=[.ref b,.str l.nm,.ref LL,.ref B]->Brd a H own b db xr L xt xi xf es ls bx mk WI W M n->l∈ls->L2.up bx l.nm=some fo->l.nm∈bx.map (·.1)->H LL=some (.dK lk)->Qt lk (Sum.inr l.nm)=some (.ref u)->H u=some (.tup [.str l.p.s,.str l.p.t,.str l.p.b,.int l.p.d,.str l.p.an]) ->
    H B=some (.dT kvs)->QH H kvs be->BOk be->be.length<64->QaY be l.nm=.str fo->Q9 (J2 be l.nm)=SS (Q9 (mk l.nm))->Asc fo->(∀y∈mk l.nm,Asc y)->(mk l.nm).length<=900->(∀H',Qo H H'->Q (.bl true) H')->QeJ a vs H Q
def spOwn(a:z8):Sp:=fun vs H Q _=>QeJ a vs H Q
section
variable {P:Program}{w:World}{K:Frag}{mg:Str->Option Value}{base:Heap}{a:z8}
theorem Ql7{fd:FuncData}(F:jn K "_law_own" "_law_own" Qba a.QoQ fd)(T:Txt K mg a)(FF:ZE K a):QO P w K mg base xN 11 a.QoQ fd ["_law_board","_law_name","_law_letters","_law_best"] (spOwn a):=by
 obtain⟨fd1,QjH,Qr9⟩:=FF.QjH
 have Qse:=@QdW P w K mg base a _ QjH T
 obtain⟨fd2,Qm1,QsQ⟩:=FF.Qm1
 have QsU:=@Qgh P w K mg base a _ Qm1 T
 obtain⟨fd3,F3,gC⟩:=FF.Qn2
 have gD:=@Qiv P w K mg base a _ F3 T FF
 obtain⟨fd4,F4,Qpg⟩:=FF.QpA
 have Qpt:=@Qij P w K mg base a _ F4 T
 refine F.ok UT (fun _ _ _ _ h=>by cases h;subst_vars;rfl) (fun cdv A outer s H vs Q E hr h=>?_)
 .obtain⟨own,b,db,xr,L,xt,xi,xf,es,ls,bx,mk,WI,W,M,n,l,fo,LL,B,u,lk,kvs,be,rfl,h,hl,hfo,hbx,eL,hv,eu,eB,hE,hB,h64,hf,hm,af,am,ml,k⟩:=h
  have hu:=Zr hr
  have Quj:=hr.units
  have uw:QB 10 _:=hr
  have hr1:QB 1 _:=uw.mono (by decide)
  refine⟨_,(Qd (Qy (i:=4) UT.nd rfl (Or.inl rfl) (Qv hu (pv 2) (pv 1)))
   (Qd (Qy (i:=5) UT.nd rfl (Or.inl rfl) (Zd (Qg (Qj Qse hr1 rfl T.Qr3 QjH.kp Qr9 .nil Ql (zr (pv 3) (zr (pv 1) Qe))) (Qg (Qj QsU hr1 rfl T.QsG Qm1.kp QsQ .nil Ql (zr (pv 3) (zr (pv 1) Qe))) Qz))))
   (Qd (Qy (i:=6) UT.nd rfl (Or.inl rfl) (QT (pv 0) T.zL T.QjC gD uw gC .nil Ql (zr (pv 1) Qe)))
   (Qd (Qs (QaE plainAttrs_list gJ gK Uj (Qk (pv 6) rfl) (zr Qp Qe)))
   (Qd (Qy (i:=7) UT.nd rfl (Or.inl rfl) (QT (pv 0) T.zL T.QjC gD uw gC .nil Ql (zr (pv 1) Qe)))
   (Qf (QJ (U3 (YW (QdQ Quj) (Wn (Qk (pv 7) rfl) T.zW T.Qpm Qpt hr1 Qpg .nil Ql) (pv 4)) (U0 (YW (QdQ Quj) (Zd (Qg (Qk (pv 7) rfl) (Qg (Qk (pv 7) rfl) Qz))) (pv 5))))))))))),?_⟩
  have hg:=(h.l.at_ l hl).2
  refine⟨_,rfl,_,rfl,LL,_,rfl,.inl ⟨_,Sum.inr l.nm,.inl eL,rfl,hv.symm⟩,?_⟩
  refine⟨_,rfl,_,rfl,B,kvs,be,l.nm,rfl,eB,hE,fun H1 s1=>?_⟩
  rw[hf]
  refine⟨_,rfl,_,rfl,B,kvs,be,l.nm,rfl,s1 _ _ eB,hE.mono fun c xs e=>s1 _ _ e,hB,h64,fun m1 H2 nm1 s2 e2=>?_⟩
  refine⟨Yx,fun bo H3 nbo s3 e3=>?_⟩
  have s03:=(s1.trans s2).trans s3
  have h3:=h.quiet s03
  refine⟨_,rfl,b,db,_,rfl,h3.e,rfl,_,rfl,_,b,db,xr,L,xt,xi,xf,es,ls,bx,mk,WI,W,M,n,l,fo,rfl,h3,hl,hfo,hbx,fun y4 g4 H4 ny4 ng4 s4 c4=>?_⟩
  have s04:=s03.trans s4
  have g0:H g4=none:=s03.free ng4
  obtain⟨⟨dx4,yl4,ey4,_⟩,eg4⟩:=c4
  have ml4:(SS (Q9 (mk l.nm))).length<=900:=zx (QmB _) (by rw[Yu];exact ml)
  refine⟨_,rfl,y4,_,dx4,_,_,rfl,ey4,T.Qnq,T.uU,rfl,.inl ⟨rfl,_,jH.of eg4⟩,g4,_,_,rfl,rfl,eg4,(by rw[qi];exact QK (by omega)),?_⟩
  have s05:Qo H (upd H4 g4 (.lst ((SS (Q9 (mk l.nm))).map V.str++[.str "zz"]))):=s04.uR g0
  have t5:∀c o,H3 c=some o->(upd H4 g4 (.lst ((SS (Q9 (mk l.nm))).map V.str++[.str "zz"]))) c=some o:=fun c o e=>by rw[Qa (Qb e ng4)];exact s4 _ _ e
  show Ye _ _ _ _ (upd H4 g4 (.lst ((SS (Q9 (mk l.nm))).map V.str++[.str "zz"])))
  generalize upd H4 g4 (.lst ((SS (Q9 (mk l.nm))).map V.str++[.str "zz"]))=H5 at s05 t5 ⊢
  have h5:=h.quiet s05
  refine⟨_,rfl,b,db,_,rfl,h5.e,rfl,_,rfl,_,b,db,xr,L,xt,xi,xf,es,ls,bx,mk,WI,W,M,n,l,fo,rfl,h5,hl,hfo,hbx,fun y6 g6 H6 ny6 ng6 s6 c6=>?_⟩
  have s06:=s05.trans s6
  obtain⟨⟨dx6,yl6,ey6,il6⟩,eg6⟩:=c6
  obtain⟨dl6,fl6,el6⟩:=il6.at
  refine⟨_,rfl,y6,_,dx6,_,_,rfl,ey6,T.Qnq,T.Qng,rfl,yl6,dl6,_,rfl,el6,rfl,yl6,_,_,_,_,_,rfl,il6,fun p nP=>?_⟩
  have s7:Qo H6 (upd H6 p (.tup [.str l.p.s,.str l.p.t,.str l.p.b,.int l.p.d,.str l.p.an])):=Qo.z7 nP
  have e7:(upd H6 p (.tup [.str l.p.s,.str l.p.t,.str l.p.b,.int l.p.d,.str l.p.an])) p=some (.tup [.str l.p.s,.str l.p.t,.str l.p.b,.int l.p.d,.str l.p.an]):=Qc
  generalize upd H6 p (.tup [.str l.p.s,.str l.p.t,.str l.p.b,.int l.p.d,.str l.p.an])=H7 at s7 e7 ⊢
  have s07:=s06.trans s7
  refine⟨_,rfl,QfC (d:=Qvg l.p) (.tup (ye.of e7) (.cons (.str _) (.cons (.str _) (.cons (.str _) (.cons (.int _) (.cons (.str _) .nil)))))) (.tup (ye.of (s07 _ _ eu)) (.cons (.str _) (.cons (.str _) (.cons (.str _) (.cons (.int _) (.cons (.str _) .nil)))))) (Qkd hg) ⟨_,rfl,Zi ?_⟩⟩
  have ey7:=s7 _ _ ey6
  refine⟨_,rfl,y6,_,dx6,_,_,rfl,ey7,T.Qnq,T.Qo2,rfl,_,rfl,y6,_,dx6,_,_,rfl,ey7,T.Qnq,T.uU,rfl,Yx,fun p8 H8 np8 s8 e8=>?_⟩
  have am2:∀y∈SS (Q9 (mk l.nm)),Asc y:=fun y hy=>am y (WJ.mp (Qbx.mp hy))
  have e38:∀c o,H3 c=some o->H8 c=some o:=fun c o e=>s8 _ _ (s7 _ _ (s6 _ _ (t5 c o e)))
  have em:H8 m1=some (.lst ((SS (Q9 (mk l.nm))).map V.str)):=by rw[<-hm];exact e38 _ _ (s3 _ _ e2)
  exact⟨_,rfl,QfC (d:=Qjs fo (SS (Q9 (mk l.nm)))) (.tup (ye.of e8) (.cons (.str _) (.cons (Qe0 (jH.of (s8 _ _ (s7 _ _ eg6)))) .nil))) (.tup (ye.of (e38 _ _ e3)) (.cons (.str _) (.cons (Qe0 (jH.of em)) .nil))) (Qjr af am2) (k _ (s07.trans s8))⟩
end
theorem QhW{es:List Ent}{e x:Ent}(h:x∈Ue es e):x=e\/x∈es:=by
 unfold Ue at h
 split at h
 .obtain⟨y,hy,rfl⟩:=qd.mp h
  by_cases z:y.1=e.1
  .rw[qD z];exact .inl rfl
  .rw[qy z];exact .inr hy
 .rcases qx.mp h with q | q
  .exact .inr q
  .exact .inl (ql.mp q)
theorem Yt(x:Ent)(es:List Ent)(k:QvX):QA (x :: es) k=if x.1=k then some x else QA es k:=by
 unfold QA
 by_cases h:x.1=k
 .rw[uC (by simp[h]),qD h]
 .rw[uD (by simp[h]),qy h]
theorem QbP:∀(es:List Ent)(e:Ent)(k:QvX),QA (es++[e]) k=(match QA es k with | some x=>some x | none=>if e.1=k then some e else none)
 | [],e,k=>by rw[List.nil_append,Yt];rfl
 | x :: es,e,k=>by
   rw[List.cons_append,Yt,Yt]
   by_cases h:x.1=k
   .rw[qD h,qD h]
   .rw[qy h,qy h];exact QbP es e k
theorem X8:∀(es:List Ent)(e:Ent)(k:QvX),QA (es.map fun x=>if x.1=e.1 then e else x) k=(match QA es k with | some x=>(if x.1=e.1 then some e else some x) | none=>none)
 | [],_,_=>rfl
 | x :: es,e,k=>by
   rw[qW,Yt,Yt]
   by_cases h:x.1=e.1
   .rw[qD h]
    by_cases h2:e.1=k
    .rw[qD h2,qD (h.trans h2)];show _=if x.1=e.1 then some e else some x;rw[qD h]
    .rw[qy h2,qy (fun z=>h2 (h.symm.trans z))];exact X8 es e k
   .rw[qy h]
    by_cases h2:x.1=k
    .rw[qD h2,qD h2];show _=if x.1=e.1 then some e else some x;rw[qy h]
    .rw[qy h2,qy h2];exact X8 es e k
theorem Qc3{k:QvX}:∀es:List Ent,Gj es k=(QA es k).isSome
 | []=>rfl
 | x :: es=>by
   have ih:=Qc3 (k:=k) es
   rw[Yt]
   unfold Gj at ih ⊢
   rw[v8,ih]
   by_cases h:x.1=k
   .rw[qD h,qp h];rfl
   .rw[qy h,qF h];rfl
theorem Qg7(es:List Ent)(e:Ent)(k:QvX):QA (Ue es e) k=if e.1=k then some e else QA es k:=by
 unfold Ue
 rw[Qc3]
 cases h:QA es e.1 with
 | some y =>
   rw[qD (show(some y).isSome=true from rfl),X8]
   by_cases hk:e.1=k
   .subst hk
    rw[h,qD rfl]
    show(if y.1=e.1 then some e else some y)=some e
    rw[qD (JU h).2]
   .rw[qy hk]
    cases h2:QA es k with
    | none=>rfl
    | some x=>show(if x.1=e.1 then some e else some x)=some x;rw[qy (fun z=>hk (z.symm.trans (JU h2).2))]
 | none =>
   rw[qy (show ¬(none:Option Ent).isSome=true from qJ),QbP]
   by_cases hk:e.1=k
   .subst hk;rw[h]
   .cases h2:QA es k with
    | none=>rfl
    | some x=>show some x=if e.1=k then some e else some x;rw[qy hk]
theorem Jk(es:List Ent)(e:Ent)(k:QvX):QA (QW es e) k=if e.1=k then (if Zs es e=true then some e else QA es k) else QA es k:=by
 unfold QW
 by_cases h:Zs es e=true
 .rw[qD h,qD h,Qg7]
 .rw[qy h,qy h];exact(ite_self _).symm
theorem QcX{es:List Ent}{e:Ent}(h:QA es e.1=none):Zs es e=true:=by
 unfold Zs;rw[h]
theorem QcW{es:List Ent}{e:Ent}(h:Zs es e=false):∃x,QA es e.1=some x:=by
 cases q:QA es e.1 with
 | none=>rw[QcX q] at h;cases h
 | some x=>exact⟨x,rfl⟩
def ZR(r:Rw):Ent:=(ZM r.d,r.c,r.h,ZT r.u r.d)
def Q6(rs:List Rw):List Ent:=rs.foldl (fun es r=>QW es (ZR r)) []
theorem Z0(rs:List Rw)(r:Rw):Q6 (rs++[r])=QW (Q6 rs) (ZR r):=by unfold Q6;rw[wg];rfl
theorem Qjd(rs:List Rw):(Q6 rs).length<=rs.length:=by
 have h:∀(xs:List Rw)(es:List Ent),(xs.foldl (fun es r=>QW es (ZR r)) es).length<=es.length+xs.length:=fun xs=>by
  induction xs with
  | nil=>intro es;exact qt _
  | cons x xs ih =>
    intro es
    rw[jl]
    have:=ih (QW es (ZR x))
    have:=QaS es (ZR x)
    rw[za];omega
 have:=h rs []
 have h4:([]:List Ent).length=0:=rfl
 unfold Q6;omega
theorem QgH{es:List Ent}{e x:Ent}(h:x∈QW es e):x=e\/x∈es:=by
 unfold QW at h
 split at h
 .exact QhW h
 .exact .inr h
theorem Go:∀(xs:List Ent)(es:List Ent){e:Ent},e∈xs.foldl QW es->e∈es\/e∈xs
 | [],_,_,h=>.inl h
 | x :: xs,es,e,h=>by
   rcases Go xs _ h with q | q
   .rcases QgH q with q | q
    .exact .inr (q▸qL ..)
    .exact .inl q
   .exact .inr (qP _ q)
theorem QkQ(rs:List Rw):Q6 rs=(rs.map ZR).foldl QW []:=by unfold Q6;rw[List.foldl_map]
theorem Gq{rs:List Rw}{e:Ent}(h:e∈Q6 rs):∃r∈rs,e=ZR r:=by
 rw[QkQ] at h
 rcases Go _ _ h with q | q
 .cases q
 .obtain⟨r,hr,rfl⟩:=qd.mp q;exact⟨r,hr,rfl⟩
theorem Qdm{rs:List Rw}{e:Ent}(h:e∈Q2 rs):∃r∈rs,Yr r=some e:=by
 rcases Go _ _ h with q | q
 .cases q
 .obtain⟨r,hr,q⟩:=QnJ.mp q;exact⟨r,hr,q⟩
theorem QlU{es:List Ent}(e:Ent)(h:(es.map (·.1)).Nodup):((Ue es e).map (·.1)).Nodup:=by
 unfold Ue
 split
 .have e1:(es.map fun x=>if x.1=e.1 then e else x).map (·.1)=es.map (·.1):=by
   rw[zJ]
   refine yF fun x _=>?_
   show(if x.1=e.1 then e else x).1=x.1
   by_cases z:x.1=e.1
   .rw[qD z,z]
   .rw[qy z]
  rw[e1];exact h
 .rename_i hh
  rw[qQ]
  refine jZ.mpr ⟨h,by simp,fun a ha b hb z=>?_⟩
  obtain⟨x,hx,e1⟩:=qd.mp ha
  have e2:b=e.1:=by simpa using hb
  refine hh ?_
  unfold Gj
  exact List.any_eq_true.mpr ⟨x,hx,qp (e1.trans (z.trans e2))⟩
theorem QkF{es:List Ent}(e:Ent)(h:(es.map (·.1)).Nodup):((QW es e).map (·.1)).Nodup:=by
 unfold QW
 split
 .exact QlU e h
 .exact h
theorem Qfy:∀(xs:List Ent){es:List Ent},(es.map (·.1)).Nodup->((xs.foldl QW es).map (·.1)).Nodup
 | [],_,h=>h
 | x :: xs,es,h=>Qfy xs (QkF x h)
theorem QkT(rs:List Rw):((Q2 rs).map (·.1)).Nodup:=Qfy _ zV
def UL(o:Option Ent):Option (Int×Str×V):=o.map (·.2)
theorem QgI{es es':List Ent}{k k':QvX}{c:Int}{h:Str}{v:V}(q:UL (QA es k)=UL (QA es' k')):Zs es (k,c,h,v)=Zs es' (k',c,h,v):=by
 rw[Ws,Ws]
 cases h1:QA es k with
 | none=>rw[h1] at q;cases h2:QA es' k' with
   | none=>rfl
   | some y=>rw[h2] at q;cases q
 | some x=>rw[h1] at q;cases h2:QA es' k' with
   | none=>rw[h2] at q;cases q
   | some y=>rw[h2] at q;have q:x.2=y.2:=qR q;show HT.Qrd c h x.2.1 x.2.2.1=HT.Qrd c h y.2.1 y.2.2.1;rw[q]
theorem QcY{es es':List Ent}{k k':QvX}{c:Int}{h:Str}{v:V}(q:UL (QA es k)=UL (QA es' k')):UL (QA (QW es (k,c,h,v)) k)=UL (QA (QW es' (k',c,h,v)) k'):=by
 rw[Jk,Jk,qD rfl,qD rfl,QgI q]
 split
 .rfl
 .exact q
theorem Zb{es:List Ent}{e:Ent}{k:QvX}(h:e.1≠k):QA (QW es e) k=QA es k:=by rw[Jk,qy h]
structure VB(ws:QvX)(r:Rw):Prop where
 pt:∀nm p,r.d=.put nm p->QfQ ws p
 np:ZB r.d=false->dOk ws ws r.d
theorem QaP{ws:QvX}{r:Rw}(h:VB ws r){nm y:Str}{on:Bool}(e:r.d=.mark nm y on):y∈ws:=by
 have:=h.np (by rw[e];rfl)
 rw[e] at this;exact this
theorem QdN{ws:QvX}{r:Rw}(h:VB ws r){nm fo:Str}(e:r.d=.place nm fo):fo∈ws:=by
 have:=h.np (by rw[e];rfl)
 rw[e] at this;exact this
theorem VH:("place":Str)≠"put"/\("place":Str)≠"drop"/\("mark":Str)≠"put"/\("mark":Str)≠"drop"/\("drop":Str)≠"put"/\("mark":Str)≠"place":=by decide +kernel
theorem Qjx{ws:QvX}(hw:∀w∈ws,w≠("":Str)):∀(n:Nat)(rs:List Rw),rs.length=n->(∀r∈rs,VB ws r)->∀nm:Str,UL (QA (Q6 rs) [nm,"place"])=UL (QA (Q2 rs) [nm,""])/\∀y:Str,y≠("":Str)->UL (QA (Q6 rs) [nm,"mark",y])=UL (QA (Q2 rs) [nm,y])
 | 0,rs,hn,_,nm=>by
   have:rs=[]:=vf.mp hn
   subst this
   exact⟨rfl,fun _ _=>rfl⟩
 | n+1,rs,hn,ok,nm=>by
   obtain⟨rs',r,rfl⟩:∃rs' r,rs=rs'++[r]:=by
    rcases List.eq_nil_or_concat rs with h | ⟨a,b,h⟩
    .rw[h] at hn;cases hn
    .exact⟨a,b,by rw[h,List.concat_eq_append]⟩
   have ok':∀r∈rs',VB ws r:=fun x hx=>ok x (qN _ hx)
   have okr:=ok r (qC _ (ql.mpr rfl))
   have hl:rs'.length=n:=by rw[qI] at hn;simpa using hn
   obtain⟨i1,i2⟩:=Qjx hw n rs' hl ok' nm
   rw[Z0,Xi]
   obtain⟨n1,n2,n3,n4,n5,n6⟩:=VH
   cases hd:r.d with
   | put m p =>
     have e1:ZR r=([m,"put"],r.c,r.h,.ref r.u):=by unfold ZR;rw[hd];rfl
     have e2:Yr r=none:=by unfold Yr;rw[hd]
     rw[e1,e2]
     exact⟨by rw[Zb (by intro z;exact n1 (qw (qw z).2).1.symm)];exact i1,fun y hy=>by rw[Zb (by intro z;exact n3 (qw (qw z).2).1.symm)];exact i2 y hy⟩
   | drop m =>
     have e1:ZR r=([m,"drop"],r.c,r.h,.str m):=by unfold ZR;rw[hd];rfl
     have e2:Yr r=none:=by unfold Yr;rw[hd]
     rw[e1,e2]
     exact⟨by rw[Zb (by intro z;exact n2 (qw (qw z).2).1.symm)];exact i1,fun y hy=>by rw[Zb (by intro z;exact n4 (qw (qw z).2).1.symm)];exact i2 y hy⟩
   | place m fo =>
     have e1:ZR r=([m,"place"],r.c,r.h,.str fo):=by unfold ZR;rw[hd];rfl
     have e2:Yr r=some ([m,""],r.c,r.h,.str fo):=by unfold Yr;rw[hd]
     rw[e1,e2]
     refine⟨?_,fun y hy=>?_⟩
     .by_cases h:m=nm
      .subst h;exact QcY i1
      .show UL (QA (QW _ _) _)=UL (QA (QW _ _) _)
       rw[Zb (fun z=>h (qw z).1),Zb (fun z=>h (qw z).1)];exact i1
     .show UL (QA (QW _ _) _)=UL (QA (QW _ _) _)
      rw[Zb (by intro z;cases (qw (qw z).2).2),Zb (by intro z;exact hy (qw (qw z).2).1.symm)];exact i2 y hy
   | mark m y2 on =>
     have e1:ZR r=([m,"mark",y2],r.c,r.h,.bl on):=by unfold ZR;rw[hd];rfl
     have e2:Yr r=some ([m,y2],r.c,r.h,.bl on):=by unfold Yr;rw[hd]
     have hy2:=hw y2 (QaP okr hd)
     rw[e1,e2]
     refine⟨?_,fun y hy=>?_⟩
     .show UL (QA (QW _ _) _)=UL (QA (QW _ _) _)
      rw[Zb (by intro z;cases (qw (qw z).2).2),Zb (by intro z;exact hy2 (qw (qw z).2).1)];exact i1
     .by_cases h:m=nm/\y2=y
      .obtain⟨rfl,rfl⟩:=h;exact QcY (i2 y2 hy)
      .show UL (QA (QW _ _) _)=UL (QA (QW _ _) _)
       rw[Zb (fun z=>h ⟨(qw z).1,(qw (qw (qw z).2).2).1⟩),Zb (fun z=>h ⟨(qw z).1,(qw (qw z).2).1⟩)];exact i2 y hy
def foN(es:List Ent)(m:Str):Str:=match QA es [m,"place"] with
 | some (_,_,_,.str fo)=>fo
 | _=>"inbox"
structure BI(rs:List Rw)(ls:List LE)(bx:Rows)(mk:Str->QvX):Prop where
 l1:∀l∈ls,(∃r∈rs,r.d=.put l.nm l.p)/\¬l.nm∈Zj rs
 l2:∀r∈rs,∀nm p,r.d=.put nm p->¬nm∈Zj rs->∃l∈ls,l.nm=nm/\l.p=p
 b:∀m,m∈bx.map (·.1)↔m∈ls.map LE.nm
 fo:∀m∈ls.map LE.nm,L2.up bx m=some (foN (Q6 rs) m)
 mk_:∀m∈ls.map LE.nm,∀y,y∈mk m↔onE (Q6 rs) [m,"mark",y]=true
theorem Xb(rs:List Rw)(r:Rw):Zj (rs++[r])=if Jh r.d=true then Zj rs++[r.d.nm] else Zj rs:=by
 unfold Zj
 rw[zE,qX]
 split
 .rw[qQ];rfl
 .rw[Qm5,je]
theorem Jm{rs:List Rw}{r:Rw}{m:Str}(h:m∈Zj rs):m∈Zj (rs++[r]):=by
 rw[Xb]
 split
 .exact qN _ h
 .exact h
theorem JJ{rs:List Rw}{r:Rw}{m:Str}(h:m∈Zj (rs++[r])):m∈Zj rs\/(Jh r.d=true/\m=r.d.nm):=by
 rw[Xb] at h
 split at h
 .rename_i hd
  rcases qx.mp h with q | q
  .exact .inl q
  .exact .inr ⟨hd,ql.mp q⟩
 .exact .inl h
theorem V3{rs:List Rw}{k:QvX}{e:Ent}(h:QA (Q6 rs) k=some e):∃r∈rs,e=ZR r/\ZM r.d=k:=by
 obtain⟨h1,h2⟩:=JU h
 obtain⟨r,hr,rfl⟩:=Gq h1
 exact⟨r,hr,rfl,h2⟩
theorem k2{a b c d:Str}(h:[a,b]=[c,d]):a=c/\b=d:=⟨(qw h).1,(qw (qw h).2).1⟩
theorem QcV{d:Dd}{nm:Str}(h:ZM d=[nm,"drop"]):d=.drop nm:=by
 obtain⟨n1,n2,n3,n4,n5,n6⟩:=VH
 cases d with
 | put m p=>exact absurd (k2 h).2.symm n5
 | place m fo=>exact absurd (k2 h).2 n2
 | mark m y on=>cases (qw (qw h).2).2
 | drop m=>rw[(k2 h).1]
theorem QkE{d:Dd}{nm:Str}(h:ZM d=[nm,"put"]):∃p,d=.put nm p:=by
 obtain⟨n1,n2,n3,n4,n5,n6⟩:=VH
 cases d with
 | put m p=>exact⟨p,by rw[(k2 h).1]⟩
 | place m fo=>exact absurd (k2 h).2 n1
 | mark m y on=>cases (qw (qw h).2).2
 | drop m=>exact absurd (k2 h).2 n5
theorem QgC{d:Dd}{nm:Str}(h:ZM d=[nm,"place"]):∃fo,d=.place nm fo:=by
 obtain⟨n1,n2,n3,n4,n5,n6⟩:=VH
 cases d with
 | put m p=>exact absurd (k2 h).2.symm n1
 | place m fo=>exact⟨fo,by rw[(k2 h).1]⟩
 | mark m y on=>cases (qw (qw h).2).2
 | drop m=>exact absurd (k2 h).2.symm n2
theorem QiT{d:Dd}{nm y:Str}(h:ZM d=[nm,"mark",y]):∃on,d=.mark nm y on:=by
 cases d with
 | put m p=>cases (qw (qw h).2).2
 | place m fo=>cases (qw (qw h).2).2
 | mark m y2 on =>
   have h1:=(qw h).1
   have h2:=(qw (qw (qw h).2).2).1
   exact⟨on,by rw[h1,h2]⟩
 | drop m=>cases (qw (qw h).2).2
theorem Qmk{d:Dd}{m:Str}{t:QvX}(h:ZM d=m :: t):d.nm=m:=by
 cases d <;> exact(qw h).1
theorem QgF{es:List Ent}(e:Ent){k:QvX}(h:∃x,QA es k=some x):∃x,QA (QW es e) k=some x:=by
 obtain⟨x,hx⟩:=h
 rw[Jk]
 split
 .split
  .exact⟨_,rfl⟩
  .exact⟨x,hx⟩
 .exact⟨x,hx⟩
theorem QgG(es:List Ent)(e:Ent):∃x,QA (QW es e) e.1=some x:=by
 rw[Jk,qD rfl]
 cases h:Zs es e with
 | true=>exact⟨_,rfl⟩
 | false=>exact QcW h
theorem Qje:∀(n:Nat){rs:List Rw},rs.length=n->∀{r:Rw},r∈rs->∃e,QA (Q6 rs) (ZM r.d)=some e
 | 0,rs,hn,r,h=>by rw[vf.mp hn] at h;cases h
 | n+1,rs,hn,r,h=>by
   obtain⟨rs',r',rfl⟩:∃rs' r,rs=rs'++[r]:=by
    rcases List.eq_nil_or_concat rs with h | ⟨a,b,h⟩
    .rw[h] at hn;cases hn
    .exact⟨a,b,by rw[h,List.concat_eq_append]⟩
   rw[Z0]
   rcases qx.mp h with q | q
   .exact QgF _ (Qje n (by rw[qI] at hn;simpa using hn) q)
   .rw[ql.mp q];exact QgG (Q6 rs') (ZR r')
theorem Gk{rs:List Rw}{nm:Str}:nm∈Zj rs↔∃e,QA (Q6 rs) [nm,"drop"]=some e:=by
 constructor
 .intro h
  obtain⟨r,hr,rfl⟩:=qd.mp h
  obtain⟨h1,h2⟩:=qu.mp hr
  obtain⟨e,he⟩:=Qje _ rfl h1
  cases hd:r.d with
  | drop m=>rw[hd] at he;exact⟨e,he⟩
  | put m p=>rw[hd] at h2;cases h2
  | place m p=>rw[hd] at h2;cases h2
  | mark m p q=>rw[hd] at h2;cases h2
 .rintro⟨e,he⟩
  obtain⟨r,hr,_,hk⟩:=V3 he
  have hd:=QcV hk
  exact qd.mpr ⟨r,qu.mpr ⟨hr,by rw[hd];rfl⟩,by rw[hd];rfl⟩
theorem Qe5{rs:List Rw}{nm:Str}{e:Ent}(h:QA (Q6 rs) [nm,"put"]=some e):nm∈putN rs:=by
 obtain⟨r,hr,_,hk⟩:=V3 h
 obtain⟨p,hd⟩:=QkE hk
 exact qd.mpr ⟨r,qu.mpr ⟨hr,by rw[hd];rfl⟩,by rw[hd];rfl⟩
theorem WQ{rs:List Rw}{r:Rw}{nm:Str}{p:LD}(nd:(putN (rs++[r])).Nodup)(hd:r.d=.put nm p):¬nm∈putN rs:=fun h=>by
 rw[Vi,hd,qD (show ZB (Dd.put nm p)=true from rfl),jZ] at nd
 exact nd.2.2 nm h nm (ql.mpr rfl) rfl
theorem QkG{rs:List Rw}{r:Rw}{nm:Str}{p:LD}(hr:r∈rs)(hd:r.d=.put nm p):nm∈putN rs:=qd.mpr ⟨r,qu.mpr ⟨hr,by rw[hd];rfl⟩,by rw[hd];rfl⟩
theorem BI.QrY{rs:List Rw}{ls:List LE}{bx:Rows}{mk:Str->QvX}(h:BI rs ls bx mk){m:Str}(hm:m∈ls.map LE.nm):m∈putN rs/\¬m∈Zj rs:=by
 obtain⟨l,hl,rfl⟩:=qd.mp hm
 obtain⟨⟨r,hr,hd⟩,hg⟩:=h.l1 l hl
 exact⟨QkG hr hd,hg⟩
theorem QfB{rs:List Rw}{r:Rw}(h:Zs (Q6 rs) (ZR r)=false):Q6 (rs++[r])=Q6 rs:=by
 rw[Z0];unfold QW;rw[h];rfl
theorem Qel{rs:List Rw}{r:Rw}{k:QvX}(h:ZM r.d≠k):QA (Q6 (rs++[r])) k=QA (Q6 rs) k:=by rw[Z0];exact Zb h
theorem Vs{rs:List Rw}{r:Rw}{m:Str}(h:ZM r.d≠[m,"place"]):foN (Q6 (rs++[r])) m=foN (Q6 rs) m:=by unfold foN;rw[Qel h]
theorem Vm{rs:List Rw}{r:Rw}{m y:Str}(h:ZM r.d≠[m,"mark",y]):onE (Q6 (rs++[r])) [m,"mark",y]=onE (Q6 rs) [m,"mark",y]:=by unfold onE;rw[Qel h]
section
variable {rs:List Rw}{ls:List LE}{bx:Rows}{mk:Str->QvX}{r:Rw}
theorem BI.away(h:BI rs ls bx mk)(hp:ZB r.d=false)(hn:¬r.d.nm∈ls.map LE.nm):BI (rs++[r]) ls bx mk:=by
 have nk:∀{m:Str}{t:QvX},m∈ls.map LE.nm->ZM r.d≠m :: t:=fun hm z=>hn (by rw[Qmk z];exact hm)
 refine⟨fun l hl=>?_,fun r' hr' nm p hd hg=>?_,h.b,fun m hm=>?_,fun m hm y=>?_⟩
 .obtain⟨⟨r',hr',hd⟩,hg⟩:=h.l1 l hl
  refine⟨⟨r',qN _ hr',hd⟩,fun z=>?_⟩
  rcases JJ z with q | ⟨_,q⟩
  .exact hg q
  .exact hn (q▸j6 hl)
 .rcases qx.mp hr' with q | q
  .exact h.l2 r' q nm p hd (fun z=>hg (Jm z))
  .rw[ql.mp q] at hd;rw[hd] at hp;cases hp
 .rw[Vs (nk hm)];exact h.fo m hm
 .rw[Vm (nk hm)];exact h.mk_ m hm y
theorem BI.keep0(h:BI rs ls bx mk)(hk:Zs (Q6 rs) (ZR r)=false)(nd:(putN (rs++[r])).Nodup):BI (rs++[r]) ls bx mk:=by
 obtain⟨x,hx⟩:=QcW hk
 have gs:∀m,m∈Zj (rs++[r])->m∈Zj rs:=fun m hm=>by
  rcases JJ hm with q | ⟨hd,q⟩
  .exact q
  .refine Gk.mpr ⟨x,?_⟩
   cases hd':r.d with
   | drop m'=>have e:(ZR r).1=[m',"drop"]:=by unfold ZR;rw[hd'];rfl
              rw[e] at hx;rw[q,hd'];exact hx
   | put a b=>rw[hd'] at hd;cases hd
   | place a b=>rw[hd'] at hd;cases hd
   | mark a b c=>rw[hd'] at hd;cases hd
 refine⟨fun l hl=>?_,fun r' hr' nm p hd hg=>?_,h.b,fun m hm=>by rw[QfB hk];exact h.fo m hm,fun m hm y=>by rw[QfB hk];exact h.mk_ m hm y⟩
 .obtain⟨⟨r',hr',hd⟩,hg⟩:=h.l1 l hl
  exact⟨⟨r',qN _ hr',hd⟩,fun z=>hg (gs _ z)⟩
 .rcases qx.mp hr' with q | q
  .exact h.l2 r' q nm p hd (fun z=>hg (Jm z))
  .rw[ql.mp q] at hd
   have e:(ZR r).1=[nm,"put"]:=by unfold ZR;rw[hd];rfl
   rw[e] at hx
   exact absurd (Qe5 hx) (WQ nd hd)
theorem QgS{nm:Str}(hn:¬nm∈ls.map LE.nm):(ls.filter fun l=>decide (l.nm≠nm))=ls:=kJ.mpr fun l hl=>qp fun e=>hn (qd.mpr ⟨l,hl,e⟩)
theorem Qdu{nm:Str}(hn:¬nm∈bx.map (·.1)):L2.without bx nm=bx:=kJ.mpr fun l hl=>qp fun e=>hn (qd.mpr ⟨l,hl,e⟩)
theorem BI.Qtj(h:BI rs ls bx mk){nm:Str}{p:LD}(hd:r.d=.put nm p)(hg:nm∈Zj rs)(nd:(putN (rs++[r])).Nodup):BI (rs++[r]) (ls.filter fun l=>decide (l.nm≠nm)) (L2.without bx nm) mk:=by
 have nn:¬nm∈ls.map LE.nm:=fun z=>(h.QrY z).2 hg
 have kd:ZM r.d=[nm,"put"]:=by rw[hd];rfl
 obtain⟨n1,n2,n3,n4,n5,n6⟩:=VH
 have gs:∀m,m∈Zj (rs++[r])->m∈Zj rs:=fun m hm=>(JJ hm).elim id fun q=>by rw[hd] at q;cases q.1
 rw[QgS nn,Qdu (fun z=>nn ((h.b nm).mp z))]
 refine⟨fun l hl=>?_,fun r' hr' nm' p' hd' hg'=>?_,h.b,fun m hm=>?_,fun m hm y=>?_⟩
 .obtain⟨⟨r',hr',hd⟩,hg⟩:=h.l1 l hl
  exact⟨⟨r',qN _ hr',hd⟩,fun z=>hg (gs _ z)⟩
 .rcases qx.mp hr' with q | q
  .exact h.l2 r' q nm' p' hd' (fun z=>hg' (Jm z))
  .rw[ql.mp q,hd] at hd'
   cases hd'
   exact absurd (Jm hg) hg'
 .rw[Vs (by rw[kd];exact fun z=>n1 (k2 z).2.symm)];exact h.fo m hm
 .rw[Vm (by rw[kd];exact fun z=>nomatch (qw (qw z).2).2)];exact h.mk_ m hm y
end
theorem Qlo{bx:Rows}{nm fo:Str}(h:up bx nm=none)(t:Str):up (bx++[(nm,fo)]) t=if t=nm then some fo else up bx t:=by
 unfold up
 rw[List.find?_append]
 by_cases e:t=nm
 .subst e
  have h2:bx.find? (fun r=>decide (r.1=t))=none:=by
   unfold up at h
   exact Option.map_eq_none_iff.mp h
  rw[h2,qD rfl]
  simp
 .rw[qy e]
  have h2:([(nm,fo)]:Rows).find? (fun r=>decide (r.1=t))=none:=by
   rw[yu,qF (fun z:nm=t=>e z.symm)]
   rfl
  rw[h2,Option.or_none]
theorem Qg8(bx:Rows)(nm t:Str):up (L2.without bx nm) t=if t=nm then none else up bx t:=by
 by_cases e:t=nm
 .subst e
  rw[qD rfl]
  refine Yd.mpr fun h=>?_
  obtain⟨r,hr,z⟩:=qd.mp h
  exact qg (qu.mp hr).2 z
 .rw[qy e]
  unfold up L2.without
  congr 1
  rw[List.find?_filter]
  congr 1
  funext r
  by_cases q:r.1=t
  .rw[qp q];simp[q,e]
  .rw[qF q];simp
theorem Qk0{bx:Rows}{nm fo m:Str}:up (L2.without bx nm++[(nm,fo)]) m=if m=nm then some fo else up bx m:=by
 rw[Qlo (by rw[Qg8,qD rfl]),Qg8]
 by_cases e:m=nm
 .rw[qD e,qD e]
 .rw[qy e,qy e,qy e]
theorem Qmf(rs:List Rw):QvR (Q6 rs):=by
 refine⟨fun e he=>?_,fun e he=>?_,fun e he hm=>?_⟩
 .obtain⟨r,hr,rfl⟩:=Gq he;exact QfD r.d
 .obtain⟨r,hr,rfl⟩:=Gq he
  show 2<=(ZM r.d).length
  cases r.d <;> (simp[ZM])
 .obtain⟨r,hr,rfl⟩:=Gq he
  obtain⟨n1,n2,n3,n4,n5,n6⟩:=VH
  have hm:(ZM r.d).getD 1 ""=("mark":Str):=hm
  show(∃on,ZT r.u r.d=V.bl on)/\(ZM r.d).length=3
  cases hd:r.d with
  | put m p=>rw[hd] at hm;exact absurd hm.symm n3
  | place m fo=>rw[hd] at hm;exact absurd hm.symm n6
  | mark m y on=>exact⟨⟨on,rfl⟩,rfl⟩
  | drop m=>rw[hd] at hm;exact absurd hm.symm n4
theorem QaO{es:List Ent}{nm:Str}{k:QvX}:k∈Qfl es nm↔∃e∈es,e.1=k/\k.take 1=[nm]:=by
 unfold Qfl
 constructor
 .intro h
  obtain⟨i,hi,rfl⟩:=qd.mp h
  have hlt:=QbD hi
  have hm:((sel [nm] es).map (·.1)).getD i []∈(sel [nm] es).map (·.1):=by
   rw[zG,qz hlt]
   exact jT _
  obtain⟨e,he,q⟩:=qd.mp hm
  obtain⟨h1,h2⟩:=qu.mp he
  exact⟨e,h1,q,by rw[<-q];exact qg h2⟩
 .rintro⟨e,he,rfl,hk⟩
  have hm:e.1∈(sel [nm] es).map (·.1):=qd.mpr ⟨e,qu.mpr ⟨he,qp hk⟩,rfl⟩
  obtain⟨i,hi⟩:=List.getElem?_of_mem hm
  have hlt:=(zp.mp hi).1
  refine qd.mpr ⟨i,(Xa _).mem_iff.mpr (wQ.mpr hlt),?_⟩
  rw[zG,hi];rfl
theorem Qfm{es:List Ent}{m y:Str}:GT es [m,"mark",y]=onE es [m,"mark",y]:=by
 unfold GT onE
 rw[show decide (([m,"mark",y]:QvX).getD 1 ""=("mark":Str))=true from qp rfl,QoD] <;> rfl
theorem K8{rs:List Rw}{nm y:Str}:y∈U7 (Q6 rs) nm↔onE (Q6 rs) [nm,"mark",y]=true:=by
 unfold U7
 constructor
 .intro h
  obtain⟨k,hk,rfl⟩:=qd.mp h
  obtain⟨h1,h2⟩:=qu.mp hk
  obtain⟨e,he,rfl,ht⟩:=QaO.mp h1
  have hm:e.1.getD 1 ""=("mark":Str):=by unfold GT at h2;exact qg (jw.mp h2).1
  obtain⟨r,hr,rfl⟩:=Gq he
  obtain⟨n1,n2,n3,n4,n5,n6⟩:=VH
  have hm:(ZM r.d).getD 1 ""=("mark":Str):=hm
  cases hd:r.d with
  | put m p=>rw[hd] at hm;exact absurd hm.symm n3
  | place m fo=>rw[hd] at hm;exact absurd hm.symm n6
  | drop m=>rw[hd] at hm;exact absurd hm.symm n4
  | mark m y on =>
    have e1:(ZR r).1=[m,"mark",y]:=by unfold ZR;rw[hd];rfl
    rw[e1] at ht h2 ⊢
    have:m=nm:=(qw ht).1
    subst this
    rw[Qfm] at h2
    exact h2
 .intro h
  have h0:=h
  unfold onE at h
  cases hv:QA (Q6 rs) [nm,"mark",y] with
  | none=>rw[hv] at h;cases h
  | some e =>
    obtain⟨h1,h2⟩:=JU hv
    exact qd.mpr ⟨[nm,"mark",y],qu.mpr ⟨QaO.mpr ⟨e,h1,h2,rfl⟩,by rw[Qfm];exact h0⟩,rfl⟩
section
variable {rs:List Rw}{ls:List LE}{bx:Rows}{mk:Str->QvX}{r:Rw}
theorem Y4{nm:Str}{y:Addr}{p:LD}{m:Str}:m∈((ls.filter fun l:LE=>decide (l.nm≠nm))++[(⟨nm,y,p⟩:LE)]).map LE.nm↔m=nm\/(m≠nm/\m∈ls.map LE.nm):=by
 rw[qQ,qx]
 constructor
 .rintro(h | h)
  .obtain⟨l,hl,rfl⟩:=qd.mp h
   obtain⟨h1,h2⟩:=qu.mp hl
   exact .inr ⟨qg h2,j6 h1⟩
  .exact .inl (by simpa using h)
 .rintro(h | ⟨h,h2⟩)
  .exact .inr (by simp[h])
  .obtain⟨l,hl,rfl⟩:=qd.mp h2
   exact .inl (qd.mpr ⟨l,qu.mpr ⟨hl,qp h⟩,rfl⟩)
theorem Ga{nm fo m:Str}:m∈(L2.without bx nm++[(nm,fo)]).map (·.1)↔m=nm\/(m≠nm/\m∈bx.map (·.1)):=by
 rw[qQ,qx]
 constructor
 .rintro(h | h)
  .obtain⟨l,hl,rfl⟩:=qd.mp h
   obtain⟨h1,h2⟩:=qu.mp hl
   exact .inr ⟨qg h2,j6 h1⟩
  .exact .inl (by simpa using h)
 .rintro(h | ⟨h,h2⟩)
  .exact .inr (by simp[h])
  .obtain⟨l,hl,rfl⟩:=qd.mp h2
   exact .inl (qd.mpr ⟨l,qu.mpr ⟨hl,qp h⟩,rfl⟩)
theorem BI.Qt9(h:BI rs ls bx mk){nm:Str}{p:LD}(y:Addr)(hd:r.d=.put nm p)(hg:¬nm∈Zj rs)(nd:(putN (rs++[r])).Nodup):BI (rs++[r]) ((ls.filter fun l=>decide (l.nm≠nm))++[⟨nm,y,p⟩]) (L2.without bx nm++[(nm,foN (Q6 (rs++[r])) nm)]) (ZQ mk nm (dd (U7 (Q6 (rs++[r])) nm))):=by
 have nn:¬nm∈ls.map LE.nm:=fun z=>WQ nd hd (h.QrY z).1
 have kd:ZM r.d=[nm,"put"]:=by rw[hd];rfl
 obtain⟨n1,n2,n3,n4,n5,n6⟩:=VH
 have gs:∀m,m∈Zj (rs++[r])->m∈Zj rs:=fun m hm=>(JJ hm).elim id fun q=>by rw[hd] at q;cases q.1
 refine⟨fun l hl=>?_,fun r' hr' nm' p' hd' hg'=>?_,fun m=>?_,fun m hm=>?_,fun m hm z=>?_⟩
 .rcases qx.mp hl with q | q
  .obtain⟨⟨r',hr',hd⟩,hg⟩:=h.l1 l (qu.mp q).1
   exact⟨⟨r',qN _ hr',hd⟩,fun z=>hg (gs _ z)⟩
  .rw[ql.mp q]
   exact⟨⟨r,qC _ (ql.mpr rfl),hd⟩,fun z=>hg (gs _ z)⟩
 .rcases qx.mp hr' with q | q
  .obtain⟨l,hl,e1,e2⟩:=h.l2 r' q nm' p' hd' (fun z=>hg' (Jm z))
   exact⟨l,qN _ (qu.mpr ⟨hl,qp fun z=>nn (z▸j6 hl)⟩),e1,e2⟩
  .rw[ql.mp q,hd] at hd'
   cases hd'
   exact⟨_,qC _ (ql.mpr rfl),rfl,rfl⟩
 .rw[Y4,Ga,h.b m]
 .rw[Qk0]
  by_cases e:m=nm
  .rw[qD e,e]
  .rw[qy e,Vs (by rw[kd];exact fun z=>n1 (k2 z).2.symm)]
   exact h.fo m ((Y4.mp hm).resolve_left e).2
 .by_cases e:m=nm
  .rw[e,Q7,K9];exact K8
  .rw[Zn e,Vm (by rw[kd];exact fun z=>nomatch (qw (qw z).2).2)]
   exact h.mk_ m ((Y4.mp hm).resolve_left e).2 z
theorem BI.change(h:BI rs ls bx mk)(hp:ZB r.d=false)(hk:Zs (Q6 rs) (ZR r)=true)(hn:r.d.nm∈ls.map LE.nm):BI (rs++[r]) (chL ls r.d) (chB bx r.d) (chM mk r.d):=by
 obtain⟨n1,n2,n3,n4,n5,n6⟩:=VH
 cases hd:r.d with
 | put nm p=>rw[hd] at hp;cases hp
 | drop nm =>
   have kd:ZM r.d=[nm,"drop"]:=by rw[hd];rfl
   have hin:∀{m:Str},m∈(ls.filter fun l=>decide (l.nm≠nm)).map LE.nm↔m≠nm/\m∈ls.map LE.nm:=fun{m}=>by
    constructor
    .intro hm
     obtain⟨l,hl,rfl⟩:=qd.mp hm
     obtain⟨h1,h2⟩:=qu.mp hl
     exact⟨qg h2,j6 h1⟩
    .rintro⟨h1,h2⟩
     obtain⟨l,hl,rfl⟩:=qd.mp h2
     exact qd.mpr ⟨l,qu.mpr ⟨hl,qp h1⟩,rfl⟩
   show BI (rs++[r]) (ls.filter fun l=>decide (l.nm≠nm)) (L2.without bx nm) mk
   refine⟨fun l hl=>?_,fun r' hr' nm' p' hd' hg'=>?_,fun m=>?_,fun m hm=>?_,fun m hm z=>?_⟩
   .obtain⟨h1,h2⟩:=qu.mp hl
    obtain⟨⟨r',hr',hd'⟩,hg⟩:=h.l1 l h1
    refine⟨⟨r',qN _ hr',hd'⟩,fun z=>?_⟩
    rcases JJ z with q | ⟨_,q⟩
    .exact hg q
    .rw[hd] at q;exact qg h2 q
   .rcases qx.mp hr' with q | q
    .obtain⟨l,hl,e1,e2⟩:=h.l2 r' q nm' p' hd' (fun z=>hg' (Jm z))
     refine⟨l,qu.mpr ⟨hl,qp fun z=>hg' ?_⟩,e1,e2⟩
     rw[Xb,hd,qD (show Jh (Dd.drop nm)=true from rfl),<-e1,z]
     exact qC _ (ql.mpr rfl)
    .rw[ql.mp q,hd] at hd';cases hd'
   .rw[hin,<-h.b m]
    constructor
    .intro hm
     obtain⟨l,hl,rfl⟩:=qd.mp hm
     obtain⟨h1,h2⟩:=qu.mp hl
     exact⟨qg h2,j6 h1⟩
    .rintro⟨h1,h2⟩
     obtain⟨l,hl,rfl⟩:=qd.mp h2
     exact qd.mpr ⟨l,qu.mpr ⟨hl,qp h1⟩,rfl⟩
   .obtain⟨q1,q2⟩:=hin.mp hm
    rw[Qg8,qy q1,Vs (by rw[kd];exact fun z=>n2 (k2 z).2.symm)];exact h.fo m q2
   .obtain⟨q1,q2⟩:=hin.mp hm
    rw[Vm (by rw[kd];exact fun z=>nomatch (qw (qw z).2).2)];exact h.mk_ m q2 z
 | place nm fo =>
   rw[hd] at hn
   have hn:nm∈ls.map LE.nm:=hn
   have kd:ZM r.d=[nm,"place"]:=by rw[hd];rfl
   have gs:∀m,m∈Zj (rs++[r])->m∈Zj rs:=fun m hm=>(JJ hm).elim id fun q=>by rw[hd] at q;cases q.1
   have vs:QA (Q6 (rs++[r])) [nm,"place"]=some ([nm,"place"],r.c,r.h,.str fo):=by
    have e:ZR r=([nm,"place"],r.c,r.h,.str fo):=by unfold ZR;rw[hd];rfl
    rw[Z0,Jk,e,qD rfl,qD (by rw[<-e];exact hk)]
   show BI (rs++[r]) ls (L2.without bx nm++[(nm,fo)]) mk
   refine⟨fun l hl=>?_,fun r' hr' nm' p' hd' hg'=>?_,fun m=>?_,fun m hm=>?_,fun m hm z=>?_⟩
   .obtain⟨⟨r',hr',hd'⟩,hg⟩:=h.l1 l hl
    exact⟨⟨r',qN _ hr',hd'⟩,fun z=>hg (gs _ z)⟩
   .rcases qx.mp hr' with q | q
    .exact h.l2 r' q nm' p' hd' (fun z=>hg' (Jm z))
    .rw[ql.mp q,hd] at hd';cases hd'
   .rw[Ga,h.b m]
    exact⟨fun q=>q.elim (fun z=>z▸hn) fun z=>z.2,fun q=>(Decidable.em (m=nm)).imp id fun z=>⟨z,q⟩⟩
   .rw[Qk0]
    by_cases e:m=nm
    .rw[qD e,e];unfold foN;rw[vs]
    .rw[qy e,Vs (by rw[kd];exact fun z=>e (k2 z).1.symm)];exact h.fo m hm
   .rw[Vm (by rw[kd];exact fun z=>nomatch (qw (qw z).2).2)];exact h.mk_ m hm z
 | mark nm y on =>
   rw[hd] at hn
   have hn:nm∈ls.map LE.nm:=hn
   have kd:ZM r.d=[nm,"mark",y]:=by rw[hd];rfl
   have gs:∀m,m∈Zj (rs++[r])->m∈Zj rs:=fun m hm=>(JJ hm).elim id fun q=>by rw[hd] at q;cases q.1
   have vs:onE (Q6 (rs++[r])) [nm,"mark",y]=on:=by
    have e:ZR r=([nm,"mark",y],r.c,r.h,.bl on):=by unfold ZR;rw[hd];rfl
    unfold onE
    rw[Z0,Jk,e,qD rfl,qD (by rw[<-e];exact hk)]
    show decide (V.bl on=V.bl true)=on
    cases on <;> decide
   have fo':∀m∈ls.map LE.nm,L2.up bx m=some (foN (Q6 (rs++[r])) m):=fun m hm=>by
    rw[Vs (by rw[kd];exact fun z=>nomatch (qw (qw z).2).2)];exact h.fo m hm
   have l1':∀l∈ls,(∃r'∈rs++[r],r'.d=.put l.nm l.p)/\¬l.nm∈Zj (rs++[r]):=fun l hl=>by
    obtain⟨⟨r',hr',hd'⟩,hg⟩:=h.l1 l hl
    exact⟨⟨r',qN _ hr',hd'⟩,fun z=>hg (gs _ z)⟩
   have l2':∀r'∈rs++[r],∀nm' p',r'.d=.put nm' p'->¬nm'∈Zj (rs++[r])->∃l∈ls,l.nm=nm'/\l.p=p':=fun r' hr' nm' p' hd' hg'=>by
    rcases qx.mp hr' with q | q
    .exact h.l2 r' q nm' p' hd' (fun z=>hg' (Jm z))
    .rw[ql.mp q,hd] at hd';cases hd'
   have mo:∀{m z:Str},m∈ls.map LE.nm->¬(m=nm/\z=y)->(z∈mk m↔onE (Q6 (rs++[r])) [m,"mark",z]=true):=fun{m z} hm hne=>by
    rw[Vm (by rw[kd];exact fun q=>hne ⟨(qw q).1.symm,(qw (qw (qw q).2).2).1.symm⟩)];exact h.mk_ m hm z
   cases on with
   | true =>
     refine⟨l1',l2',h.b,fo',fun m hm z=>?_⟩
     show z∈ZQ mk nm (Zy (mk nm) y) m↔_
     by_cases e:m=nm
     .subst e
      rw[Q7]
      have ad:z∈Zy (mk m) y↔z∈mk m\/z=y:=by
       unfold Zy
       split
       .rename_i hy
        exact⟨.inl,fun q=>q.elim id fun q=>q▸hy⟩
       .rw[qx,ql]
      rw[ad]
      by_cases ez:z=y
      .subst ez;rw[vs];exact⟨fun _=>rfl,fun _=>.inr rfl⟩
      .rw[<-mo hm (fun q=>ez q.2)];exact⟨fun q=>q.resolve_right ez,.inl⟩
     .rw[Zn e];exact mo hm (fun q=>e q.1)
   | false =>
     refine⟨l1',l2',h.b,fo',fun m hm z=>?_⟩
     show z∈ZQ mk nm ((mk nm).filter fun z=>decide (z≠y)) m↔_
     by_cases e:m=nm
     .subst e
      rw[Q7,qu]
      by_cases ez:z=y
      .subst ez;rw[vs];exact⟨fun q=>absurd rfl (qg q.2),fun q=>nomatch q⟩
      .rw[<-mo hm (fun q=>ez q.2)];exact⟨fun q=>q.1,fun q=>⟨q,qp ez⟩⟩
     .rw[Zn e];exact mo hm (fun q=>e q.1)
end
theorem Qej{ws:QvX}{rs:List Rw}(ok:∀r∈rs,VB ws r)(m:Str):((QA (Q6 rs) [m,"place"]).map (·.2.2.2)).getD (.str "inbox")=.str (foN (Q6 rs) m)/\foN (Q6 rs) m∈("inbox":Str) :: ws:=by
 unfold foN
 cases hv:QA (Q6 rs) [m,"place"] with
 | none=>exact⟨rfl,qL ..⟩
 | some e =>
   obtain⟨r,hr,rfl,hk⟩:=V3 hv
   obtain⟨fo,hd⟩:=QgC hk
   have e:ZR r=([m,"place"],r.c,r.h,.str fo):=by unfold ZR;rw[hd];rfl
   rw[e]
   exact⟨rfl,qP _ (QdN (ok r hr) hd)⟩
theorem Qfe{ws:QvX}{rs:List Rw}(ok:∀r∈rs,VB ws r){m y:Str}(h:onE (Q6 rs) [m,"mark",y]=true):y∈ws:=by
 unfold onE at h
 cases hv:QA (Q6 rs) [m,"mark",y] with
 | none=>rw[hv] at h;cases h
 | some e =>
   obtain⟨r,hr,rfl,hk⟩:=V3 hv
   obtain⟨on,hd⟩:=QiT hk
   exact QaP (ok r hr) hd
theorem in_ok{ws:QvX}{rs:List Rw}{r:Rw}{H:Hp}{nm:Str}{p:LD}(ok:∀x∈rs++[r],VB ws x)(w5:ws.length<=5)(hl:rs.length<=62)(hd:r.d=.put nm p)(nd:(putN (rs++[r])).Nodup)(ra:GE H r):Qg3 H (Q6 (rs++[r])) nm p r.u (foN (Q6 (rs++[r])) nm) (decide (nm∈Zj rs)) ws (("inbox":Str) :: ws) ws:=by
 have okr:=ok r (qC _ (ql.mpr rfl))
 have pg:=okr.pt nm p hd
 obtain⟨n1,n2,n3,n4,n5,n6⟩:=VH
 have kd:ZM r.d=[nm,"put"]:=by rw[hd];rfl
 have hwi:∀w∈Y2 (uP p.t++uP p.b),w∈ws:=fun w hw=>by
  rcases qx.mp (Qic hw) with q | q
  .exact pg.t.uP w q
  .exact pg.b.uP w q
 have vd:QA (Q6 (rs++[r])) [nm,"drop"]=QA (Q6 rs) [nm,"drop"]:=Qel (by rw[kd];exact fun z=>n5 (k2 z).2.symm)
 obtain⟨f1,f2⟩:=Qej ok nm
 have er:ZR r=([nm,"put"],r.c,r.h,.ref r.u):=by unfold ZR;rw[hd];rfl
 have pn:QA (Q6 rs) [nm,"put"]=none:=by
  cases q:QA (Q6 rs) [nm,"put"] with
  | none=>rfl
  | some e=>exact absurd (Qe5 q) (WQ nd hd)
 refine⟨Qmf _,vH (Qjd _) (by rw[qI,qT];omega),?_,ra.du.p nm p hd,pg.g,hwi,zx (KW (Qkn _) hwi) (by omega),fun h=>?_,fun h=>?_,f1,f2,fun y hy=>Qfe ok (K8.mp hy)⟩
 .rw[Z0,Jk,er,qD rfl,qD (QcX pn)];rfl
 .rw[vd]
  cases q:QA (Q6 rs) [nm,"drop"] with
  | none=>rfl
  | some e=>exact absurd (Gk.mpr ⟨e,q⟩) (QnN h)
 .obtain⟨e,he⟩:=Gk.mp (qg h)
  rw[vd,he]
  obtain⟨r',hr',rfl,hk⟩:=V3 he
  have hd':=QcV hk
  exact⟨nm,by unfold ZR;rw[hd'];rfl⟩
theorem Qj7{a:z8}{H:Hp}{own:Addr->Nat}{b db xr L xt xi xf:Addr}{ls:List LE}{bx:Rows}{mk:Str->QvX}{n:Nat}{ws:QvX}{rs:List Rw}{r:Rw}{Q:VK}{E:XK}
 (h:Brd a H own b db xr L xt xi xf (Q6 rs) ls bx mk ws (("inbox":Str) :: ws) ws n) (bi:BI rs ls bx mk) (ra:GE H r) (ok:∀x∈rs++[r],VB ws x) (nd:(putN (rs++[r])).Nodup) (w5:ws.length<=5) (hl:rs.length<=62) (hn:n<=(putN rs).length) (h40:(putN (rs++[r])).length<=40)
 (k:∀H' own' ls' bx' mk' n',Brd a H' own' b db xr L xt xi xf (Q6 (rs++[r])) ls' bx' mk' ws (("inbox":Str) :: ws) ws n'->n'<=(putN (rs++[r])).length->BI (rs++[r]) ls' bx' mk'->KB own own' H H'->Q .non H'):Qht a [.ref b,.ref r.x] H Q E:=by
 have okr:=ok r (qC _ (ql.mpr rfl))
 have pl:(putN rs).length<=(putN (rs++[r])).length:=by
  rw[Vi]
  split
  .rw[qI];omega
  .exact qt _
 refine⟨own,b,db,xr,L,xt,xi,xf,Q6 rs,ls,bx,mk,ws,_,ws,n,r.x,r.c,r.h,r.num,r.q,r.u,r.d,rfl,h,ra.e,ra.du,zx (Qjd rs) (by omega),bi.b,?_,?_,?_⟩
 .intro hk H' own' hB kB
  refine k H' own' ls bx mk n ?_ (by omega) (bi.keep0 hk nd) kB
  rw[Z0];exact hB
 .intro hk nm p hd
  have hI:=in_ok ok w5 hl hd nd ra
  rw[Z0] at hI
  have pl1:(putN (rs++[r])).length=(putN rs).length+1:=by rw[Vi,hd,qD (show ZB (Dd.put nm p)=true from rfl),qI];rfl
  refine⟨_,_,hI,by omega,fun hg H' own' hB kB=>?_,fun hg y H' own' hB kB=>?_⟩
  .refine k H' own' _ _ _ n ?_ (by omega) (bi.Qtj hd (qg hg) nd) kB
   rw[Z0];exact hB
  .refine k H' own' _ _ _ (n+1) ?_ (by omega) (bi.Qt9 y hd (QnN hg) nd) kB
   rw[Z0];exact hB
 .intro hk hp
  have dk:=okr.np hp
  refine⟨?_,fun hm H' own' hB kB=>?_,fun hm H' own' hB kB=>?_⟩
  .cases hd:r.d with
   | put a b=>rw[hd] at hp;cases hp
   | place m fo=>rw[hd] at dk;exact qP _ dk
   | mark m y on=>rw[hd] at dk;exact dk
   | drop m=>trivial
  .refine k H' own' _ _ _ n ?_ (by omega) (bi.change hp hk hm) kB
   rw[Z0];exact hB
  .refine k H' own' _ _ _ n ?_ (by omega) (bi.away hp hm) kB
   rw[Z0];exact hB
theorem QfN{ws:QvX}(hw:∀w∈ws,w≠("":Str)){rs:List Rw}(ok:∀r∈rs,VB ws r):BOk (Q2 rs):=by
 refine⟨fun e he=>?_,fun e he hy=>?_⟩
 .obtain⟨r,hr,hb⟩:=Qdm he
  unfold Yr at hb
  split at hb
  .cases hb;rfl
  .cases hb;rfl
  .cases hb
 .obtain⟨r,hr,hb⟩:=Qdm he
  unfold Yr at hb
  split at hb
  .cases hb;exact absurd rfl hy
  .rename_i on _;cases hb;exact⟨_,rfl⟩
  .cases hb
theorem QkN{ws:QvX}(hw:∀w∈ws,w≠("":Str)){rs:List Rw}(ok:∀r∈rs,VB ws r)(m:Str):QaY (Q2 rs) m=.str (foN (Q6 rs) m):=by
 obtain⟨f1,_⟩:=Qej ok m
 have ag:=(Qjx hw _ rs rfl ok m).1
 unfold QaY
 cases h1:QA (Q6 rs) [m,"place"] with
 | none =>
   rw[h1] at ag f1
   cases h2:QA (Q2 rs) [m,""] with
   | none=>exact f1
   | some y=>rw[h2] at ag;cases ag
 | some x =>
   rw[h1] at ag f1
   cases h2:QA (Q2 rs) [m,""] with
   | none=>rw[h2] at ag;cases ag
   | some y =>
     rw[h2] at ag
     have ag:x.2=y.2:=qR ag
     show y.2.2.2=_
     rw[<-ag];exact f1
theorem Qlc{ws:QvX}(hw:∀w∈ws,w≠("":Str)){rs:List Rw}(ok:∀r∈rs,VB ws r){m y:Str}(hy:y≠("":Str)):onE (Q2 rs) [m,y]=onE (Q6 rs) [m,"mark",y]:=by
 have ag:=(Qjx hw _ rs rfl ok m).2 y hy
 unfold onE
 cases h1:QA (Q6 rs) [m,"mark",y] with
 | none =>
   rw[h1] at ag
   cases h2:QA (Q2 rs) [m,y] with
   | none=>rfl
   | some y=>rw[h2] at ag;cases ag
 | some x =>
   rw[h1] at ag
   cases h2:QA (Q2 rs) [m,y] with
   | none=>rw[h2] at ag;cases ag
   | some z =>
     rw[h2] at ag
     have ag:x.2=z.2:=qR ag
     show decide (z.2.2.2=V.bl true)=decide (x.2.2.2=V.bl true)
     rw[ag]
theorem X9{k:QvX}(h:k.length=2):k=[k.getD 0 "",k.getD 1 ""]:=by
 match k,h with
 | [a,b],_=>rfl
theorem Qd4{es:List Ent}(ok:BOk es){m y:Str}:y∈J2 es m↔y≠("":Str)/\onE es [m,y]=true:=by
 unfold J2
 constructor
 .intro h
  obtain⟨e,he,rfl⟩:=qd.mp h
  obtain⟨h1,h2⟩:=qu.mp he
  unfold mkL at h2
  simp only[zQ,decide_eq_true_eq,uA,decide_eq_false_iff_not] at h2
  obtain⟨q1,q2,q3⟩:=h2
  refine⟨q2,?_⟩
  rw[X9 (ok.two e h1),q1] at q3
  exact q3
 .rintro⟨h1,h2⟩
  have h0:=h2
  unfold onE at h2
  cases hv:QA es [m,y] with
  | none=>rw[hv] at h2;cases h2
  | some e =>
    obtain⟨m1,m2⟩:=JU hv
    refine qd.mpr ⟨e,qu.mpr ⟨m1,?_⟩,by rw[m2];rfl⟩
    unfold mkL
    rw[m2,h0]
    show(decide (m=m) && (!decide (y=("":Str)) && true))=true
    rw[qp rfl,qF h1];rfl
theorem Qgw{es:List Ent}(nd:(es.map (·.1)).Nodup)(ok:BOk es)(m:Str):(J2 es m).Nodup:=by
 have go:∀xs:List Ent,(xs.map (·.1)).Nodup->(∀e∈xs,e∈es)->(((xs.filter (mkL es m)).map fun e=>e.1.getD 1 "")).Nodup:=fun xs=>by
  induction xs with
  | nil=>intro _ _;exact zV
  | cons x xs ih =>
    intro nd hx
    rw[qW,jf] at nd
    have ih:=ih nd.2 fun e he=>hx e (qP _ he)
    rw[qX]
    split
    .rename_i hp
     rw[qW,jf]
     refine⟨fun hin=>nd.1 ?_,ih⟩
     obtain⟨e,he,q⟩:=qd.mp hin
     obtain⟨h1,h2⟩:=qu.mp he
     unfold mkL at hp h2
     have p1:x.1.getD 0 ""=m:=qg (jw.mp hp).1
     have p2:e.1.getD 0 ""=m:=qg (jw.mp h2).1
     have e1:=X9 (ok.two x (hx x (qL ..)))
     have e2:=X9 (ok.two e (hx e (qP _ h1)))
     rw[show x.1=e.1 by rw[e1,e2,p1,p2,q]]
     exact j6 h1
    .exact ih
 exact go es nd fun e he=>he
theorem QiJ{ws:QvX}(hw:∀w∈ws,w≠("":Str)){rs:List Rw}(ok:∀r∈rs,VB ws r){ls:List LE}{bx:Rows}{mk:Str->QvX}(bi:BI rs ls bx mk){m:Str}(hm:m∈ls.map LE.nm):Q9 (J2 (Q2 rs) m)=SS (Q9 (mk m)):=by
 have bo:=QfN hw ok
 rw[<-SS_of (Qgw (QkT rs) bo m)]
 refine Qdq fun y=>?_
 rw[Qd4 bo,WJ,bi.mk_ m hm y]
 constructor
 .rintro⟨h1,h2⟩;rw[Qlc hw ok h1] at h2;exact h2
 .intro h
  have hy:=hw y (Qfe ok h)
  exact⟨hy,by rw[Qlc hw ok hy];exact h⟩
theorem Qbz{rs:List Rw}{ls:List LE}{bx:Rows}{mk:Str->QvX}(bi:BI rs ls bx mk){m:Str}:m∈(W6 (Zj rs) rs).map (fun r=>r.d.nm)↔m∈ls.map LE.nm:=by
 constructor
 .intro h
  obtain⟨r,hr,rfl⟩:=qd.mp h
  obtain⟨h1,h2⟩:=qu.mp hr
  obtain⟨q1,q2⟩:=jw.mp h2
  cases hd:r.d with
  | put nm p =>
    obtain⟨l,hl,e1,_⟩:=bi.l2 r h1 nm p hd (by rw[hd] at q2;exact QnN (uA _ |>.mp q2))
    exact qd.mpr ⟨l,hl,e1⟩
  | place a b=>rw[hd] at q1;cases q1
  | mark a b c=>rw[hd] at q1;cases q1
  | drop a=>rw[hd] at q1;cases q1
 .intro h
  obtain⟨l,hl,rfl⟩:=qd.mp h
  obtain⟨⟨r,hr,hd⟩,hg⟩:=bi.l1 l hl
  exact qd.mpr ⟨r,qu.mpr ⟨hr,by rw[hd];show(true && !decide (l.nm∈Zj rs))=true;rw[qF hg];rfl⟩,by rw[hd];rfl⟩
theorem Qmg{rs:List Rw}(nd:(putN rs).Nodup):((W6 (Zj rs) rs).map fun r=>r.d.nm).Nodup:=by
 have:List.Sublist (W6 (Zj rs) rs) (rs.filter fun r=>ZB r.d):=by
  unfold W6
  have e:(rs.filter fun r=>ZB r.d && !decide (r.d.nm∈Zj rs))=(rs.filter fun r=>ZB r.d).filter fun r=>!decide (r.d.nm∈Zj rs):=by
   rw[gQ]
   congr 1
   funext r
   exact Bool.and_comm _ _
  rw[e];exact jG
 exact QnL (this.map _) nd
theorem Qd8{rs:List Rw}{ls:List LE}{bx:Rows}{mk:Str->QvX}(bi:BI rs ls bx mk)(nd:(putN rs).Nodup){l:LE}(hl:l∈ls):∃r∈rs,r.d=.put l.nm l.p/\Qt (ltK (Zj rs) rs) (Sum.inr l.nm)=some (.ref r.u):=by
 obtain⟨⟨r,hr,hd⟩,hg⟩:=bi.l1 l hl
 have hm:r∈W6 (Zj rs) rs:=qu.mpr ⟨hr,by rw[hd];show(true && !decide (l.nm∈Zj rs))=true;rw[qF hg];rfl⟩
 have:=Zq (f:=fun r:Rw=>r.d.nm) (g:=fun r=>V.ref r.u) (Qmg nd) hm
 refine⟨r,hr,hd,?_⟩
 have e:r.d.nm=l.nm:=by rw[hd];rfl
 rw[e] at this
 exact this
theorem Brd.law{a:z8}{H H':Hp}{own:Addr->Nat}{b db xr L xt xi xf:Addr}{es:List Ent}{ls:List LE}{bx:Rows}{mk:Str->QvX}{WI W M:QvX}{n:Nat}(h:Brd a H own b db xr L xt xi xf es ls bx mk WI W M n)(k:KpO own 7 H H'):Brd a H' (grow own 7 H) b db xr L xt xi xf es ls bx mk WI W M n :=
 ⟨k _ _ h.e (.inl (by rw[h.o];decide)),by rw[Qn h.e];exact h.o,h.r.step k (by decide) (by decide),h.l.step k (by decide) (by decide),h.t.step k (by decide) (by decide),h.i.step k (by decide) (by decide),h.f.step k (by decide) (by decide)⟩
theorem Brd.reown{a:z8}{H:Hp}{own own':Addr->Nat}{b db xr L xt xi xf:Addr}{es:List Ent}{ls:List LE}{bx:Rows}{mk:Str->QvX}{WI W M:QvX}{n:Nat}(h:Brd a H own b db xr L xt xi xf es ls bx mk WI W M n)(he:∀c,(own c≠0\/∃C d f,H c=some (.ins C d f))->own' c=own c):Brd a H own' b db xr L xt xi xf es ls bx mk WI W M n:=by
 have ob:∀{c C d:Addr}{f:List (Str×V)},H c=some (.ins C d f)->own' c=own c:=fun e=>he _ (.inr ⟨_,_,_,e⟩)
 have ne:∀{c:Addr}{i:Nat},own c=i+1->own' c=i+1:=fun{c i} e=>by rw[he c (.inl (by rw[e];exact Nat.succ_ne_zero i))];exact e
 refine⟨h.e,by rw[ob h.e];exact h.o,?_,?_,?_,?_,?_⟩
 .obtain⟨dx,D,kd,r,ox,oF⟩:=h.r
  exact⟨dx,D,kd,r,by rw[ob r.obj];exact ox,fun c hc=>ne (oF c hc)⟩
 .refine⟨h.l.e,ne h.l.o,h.l.nd,h.l.na,fun l hl=>⟨?_,(h.l.at_ l hl).2⟩⟩
  obtain⟨oy,q⟩:=(h.l.at_ l hl).1
  exact⟨ne oy,q.imp id fun⟨D,e,o⟩=>⟨D,e,ne o⟩⟩
 .obtain⟨dx,L2',R2',kr,th,h1,h2,ox,oF⟩:=h.t
  exact⟨dx,L2',R2',kr,th,h1,h2,by rw[ob th.obj];exact ox,fun c hc=>ne (oF c hc)⟩
 .obtain⟨F,ix,ox,oF⟩:=h.i
  obtain⟨d,E1,B1,e⟩:=ix.obj
  exact⟨F,ix,by rw[ob e];exact ox,fun c hc=>ne (oF c hc)⟩
 .obtain⟨F,fo,ox,oF⟩:=h.f
  obtain⟨d,X1,T1,N1,e⟩:=fo.obj
  exact⟨F,fo,by rw[ob e];exact ox,fun c hc=>ne (oF c hc)⟩
def Qfo:HO->Bool
 | .ins _ _ _=>true
 | _=>false
def Qm6(own:Addr->Nat)(H:Hp):Addr->Nat:=fun c=>if own c=0 then (match H c with
 | some o=>if Qfo o=true then 0 else 7
 | none=>0) else own c
theorem Qkl{own:Addr->Nat}{H:Hp}{c:Addr}(h:own c≠0\/∃C d f,H c=some (.ins C d f)):Qm6 own H c=own c:=by
 unfold Qm6
 by_cases z:own c=0
 .rw[qD z]
  obtain⟨C,d,f,e⟩:=h.resolve_left (fun q=>q z)
  rw[e,z];rfl
 .rw[qy z]
theorem KO{own:Addr->Nat}{H:Hp}{c:Addr}{o:HO}(h:own c=0)(e:H c=some o)(i:Qfo o=false):Qm6 own H c=7:=by
 unfold Qm6
 rw[qD h,e]
 show(if Qfo o=true then 0 else 7)=7
 rw[i];rfl
def GF(H:Hp)(own:Addr->Nat)(c:Addr):Prop:=(∃o,H c=some o/\QbR o=false)/\own c=7
theorem GF.grow{H H':Hp}{own:Addr->Nat}{c:Addr}(h:GF H own c)(e:∃o,H' c=some o/\QbR o=false):GF H' (grow own 7 H) c:=⟨e,by obtain⟨o,q,_⟩:=h.1;rw[Qn q];exact h.2⟩
theorem GF.kept{H H':Hp}{own own':Addr->Nat}{c:Addr}(h:GF H own c)(k:KB own own' H H'):GF H' own' c:=by
 obtain⟨⟨o,e,t⟩,ho⟩:=h
 exact⟨⟨o,k.k c o e (.inr (.inl (by rw[ho];exact qt _))),t⟩,by rw[k.g c o e (.inr (.inl (by rw[ho];exact qt _)))];exact ho⟩
theorem KX.kpo{xs:List Addr}{H H':Hp}{own:Addr->Nat}(k:KX xs H H')(h:∀c∈xs,GF H own c):KpO own 7 H H':=fun c o e q=>k c o (fun z=>by
 obtain⟨⟨o',e',t⟩,ho⟩:=h c z
 rcases q with q | q
 .exact q ho
 .rw[e] at e';cases e';rw[t] at q;cases q) e
theorem vK.there{K:Frag}{H:Hp}{A:WA}{ls:List Int}{D:WD}(w:vK K H A ls D):∀c∈A.all,∃o,H c=some o/\QbR o=false:=fun c hc=>by
 simp only[WA.all,qG,yQ,QoX] at hc
 rcases hc with h | h | h | h | h | h | h | h
 .obtain⟨xs,e⟩:=w.sa.lst;rw[h];exact⟨_,e,rfl⟩
 .rw[h];exact⟨_,w.e,rfl⟩
 .rw[h];exact⟨_,w.eh,rfl⟩
 .rw[h];exact⟨_,w.ew,rfl⟩
 .rw[h];exact⟨_,w.en,rfl⟩
 .rw[h];exact⟨_,w.ep,rfl⟩
 .rw[h];exact⟨_,w.ec,rfl⟩
 .rw[h];exact⟨_,w.em,rfl⟩
theorem Qjn{A:WA}{c:Addr}(h:c∈A.ch):c∈A.all:=by
 simp only[WA.ch,qG,yQ,QoX] at h
 simp only[WA.all,qG,yQ,QoX]
 rcases h with h | h | h | h | h
 .exact .inl h
 .exact .inr (.inr (.inr (.inr (.inl h))))
 .exact .inr (.inr (.inr (.inr (.inr (.inl h)))))
 .exact .inr (.inr (.inr (.inr (.inr (.inr (.inl h))))))
 .exact .inr (.inr (.inr (.inr (.inr (.inr (.inr h))))))
def ScZ(K:Frag)(H:Hp)(own:Addr->Nat)(sc:Addr)(ls:List Int):Prop:=(∀G:Hp,jH K G sc (ls.map V.int))\/((∃o,H sc=some o/\QbR o=false)/\own sc=7)
theorem vK.board{K:Frag}{H H':Hp}{A:WA}{ls:List Int}{D:WD}{own own':Addr->Nat}(w:vK K H A ls D)(h:∀c∈A.all,GF H own c)(hs:ScZ K H own A.sc ls)(k:KB own own' H H'):vK K H' A ls D:=by
 have kp:∀{c:Addr}{o:HO},c∈A.all->H c=some o->H' c=some o:=fun{c o} hc e=>k.k c o e (.inr (.inl (by rw[(h c hc).2];exact qt _)))
 have m:∀i c,A.all[i]?=some c->c∈A.all:=fun i c e=>qU e
 refine⟨?_,kp (m 1 _ rfl) w.e,kp (m 2 _ rfl) w.eh,kp (m 3 _ rfl) w.ew,kp (m 4 _ rfl) w.en,kp (m 5 _ rfl) w.ep,kp (m 6 _ rfl) w.ec,kp (m 7 _ rfl) w.em,w.nd,w.scn⟩
 obtain⟨⟨n,c,e,b⟩,hq⟩:=w.sa
 refine⟨⟨n,c,kp (m 0 _ rfl) e,b⟩,?_⟩
 rcases hs with q | ⟨⟨o,eo,_⟩,ho⟩
 .exact q _
 .have eo':=k.k _ _ eo (.inr (.inl (by rw[ho];exact qt _)))
  rcases hq with(h | ⟨o',h⟩) | h
  .rw[eo] at h;cases h;exact .inl (.inl eo')
  .rw[eo] at h;cases h;exact .inl (.inr ⟨o',eo'⟩)
  .exact .inr h
theorem vK.off{K:Frag}{H:Hp}{A:WA}{ls:List Int}{D:WD}{R:Addr}{o:HO}(w:vK K H A ls D)(hR:R∉A.all)(hs:(∀G:Hp,jH K G A.sc (ls.map V.int))\/A.sc≠R):vK K (L2.upd H R o) A ls D:=by
 have kp:∀{c:Addr}{o':HO},c∈A.all->H c=some o'->(L2.upd H R o) c=some o':=fun{c o'} hc e=>by rw[Qa (fun(z:c=R)=>hR (by rw[<-z];exact hc))];exact e
 have m:∀i c,A.all[i]?=some c->c∈A.all:=fun i c e=>qU e
 exact⟨w.sa.upd (fun z=>hR (by rw[z];exact m 0 _ rfl)) hs,kp (m 1 _ rfl) w.e,kp (m 2 _ rfl) w.eh,kp (m 3 _ rfl) w.ew,kp (m 4 _ rfl) w.en,kp (m 5 _ rfl) w.ep,kp (m 6 _ rfl) w.ec,kp (m 7 _ rfl) w.em,w.nd,w.scn⟩
structure LB(K:Frag)(a:z8)(ns:List Int)(A:WA)(b R sl:Addr)(ws:QvX)(G:Hp)(own:Addr->Nat)(rs:List Rw)(ls:List LE)(bx:Rows)(mk:Str->QvX)(n:Nat)(db xr L xt xi xf:Addr):Prop where
 bd:Brd a G own b db xr L xt xi xf (Q6 rs) ls bx mk ws (("inbox":Str) :: ws) ws n
 bi:BI rs ls bx mk
 eR:G R=some (.lst (rs.map fun r=>V.ref r.x))
 eS:G sl=some (.lst ((ns.take 20).map V.int))
 ra:∀r∈rs,GE G r
 ro:∀r∈rs,VB ws r
 hn:n<=(putN rs).length
 z:∀c∈A.all,GF G own c
 zR:own R=7
 zS:own sl=7
 sc:ScZ K G own A.sc ns
 nR:R∉A.all
 nS:sl∉A.all
 nRS:R≠sl
 scR:(∀G:Hp,jH K G A.sc (ns.map V.int))\/A.sc≠R
section
variable {K:Frag}{a:z8}{ns:List Int}{A:WA}{b R sl:Addr}{ws:QvX}{G G':Hp}{own:Addr->Nat}{rs:List Rw}{ls:List LE}{bx:Rows}{mk:Str->QvX}{n:Nat}{db xr L xt xi xf:Addr}{D:WD}
theorem LB.law(h:LB K a ns A b R sl ws G own rs ls bx mk n db xr L xt xi xf)(k:KX A.ch G G')(w:vK K G' A ns D):LB K a ns A b R sl ws G' (grow own 7 G) rs ls bx mk n db xr L xt xi xf:=by
 have zc:∀c∈A.ch,GF G own c:=fun c hc=>h.z c (Qjn hc)
 have kp:KpO own 7 G G':=k.kpo zc
 have nc:∀{c:Addr},c∉A.all->c∉A.ch:=fun hn z=>hn (Qjn z)
 refine⟨h.bd.law kp,h.bi,k _ _ (nc h.nR) h.eR,k _ _ (nc h.nS) h.eS,fun r hr=>(h.ra r hr).tups fun c xs e=>kp.tup e,h.ro,h.hn,fun c hc=>(h.z c hc).grow (w.there c hc),by rw[Qn h.eR];exact h.zR,by rw[Qn h.eS];exact h.zS,?_,h.nR,h.nS,h.nRS,h.scR⟩
 rcases w.scn with q | q
 .exact .inl q
 .rcases h.sc with q2 | ⟨⟨o,e,t⟩,ho⟩
  .exact .inl q2
  .exact .inr ⟨⟨o,k _ _ (nc q) e,t⟩,by rw[Qn e];exact ho⟩
theorem LB.add{own':Addr->Nat}{r:Rw}{ls':List LE}{bx':Rows}{mk':Str->QvX}{n':Nat}(h:LB K a ns A b R sl ws G own rs ls bx mk n db xr L xt xi xf)(w:vK K G A ns D)(ra:GE G r)(ro:VB ws r)(kB:KB own own' G G')
 (bd:Brd a G' own' b db xr L xt xi xf (Q6 (rs++[r])) ls' bx' mk' ws (("inbox":Str) :: ws) ws n') (hn:n'<=(putN (rs++[r])).length) (bi:BI (rs++[r]) ls' bx' mk') :
 LB K a ns A b R sl ws (L2.upd G' R (.lst ((rs++[r]).map fun r=>V.ref r.x))) (grow own' 7 G') (rs++[r]) ls' bx' mk' n' db xr L xt xi xf/\vK K (L2.upd G' R (.lst ((rs++[r]).map fun r=>V.ref r.x))) A ns D:=by
 have w1:vK K G' A ns D:=w.board h.z h.sc kB
 have w2:vK K (L2.upd G' R (.lst ((rs++[r]).map fun r=>V.ref r.x))) A ns D:=w1.off h.nR h.scR
 have eR1:G' R=some (.lst (rs.map fun r=>V.ref r.x)):=kB.k _ _ h.eR (.inr (.inl (by rw[h.zR];exact qt _)))
 have oR1:own' R=7:=by rw[kB.g _ _ h.eR (.inr (.inl (by rw[h.zR];exact qt _)))];exact h.zR
 have eS1:G' sl=some (.lst ((ns.take 20).map V.int)):=kB.k _ _ h.eS (.inr (.inl (by rw[h.zS];exact qt _)))
 have oS1:own' sl=7:=by rw[kB.g _ _ h.eS (.inr (.inl (by rw[h.zS];exact qt _)))];exact h.zS
 have kx:KX [R] G' (L2.upd G' R (.lst ((rs++[r]).map fun r=>V.ref r.x))):=KX.upd (ql.mpr rfl)
 have kp:KpO own' 7 G' (L2.upd G' R (.lst ((rs++[r]).map fun r=>V.ref r.x))):=kx.kpo fun c hc=>by rw[ql.mp hc];exact⟨⟨_,eR1,rfl⟩,oR1⟩
 refine⟨⟨bd.law kp,bi,Qc,by rw[Qa h.nRS.symm];exact eS1,fun x hx=>?_,fun x hx=>?_,hn,fun c hc=>((h.z c hc).kept kB).grow (w2.there c hc),by rw[Qn eR1];exact oR1,by rw[Qn eS1];exact oS1,?_,h.nR,h.nS,h.nRS,h.scR⟩,w2⟩
 .have:GE G x:=(qx.mp hx).elim (h.ra x) fun q=>by rw[ql.mp q];exact ra
  exact this.tups fun c xs e=>kp.tup (kB.k _ _ e (.inr (.inr rfl)))
 .exact(qx.mp hx).elim (h.ro x) fun q=>by rw[ql.mp q];exact ro
 .rcases h.scR with q | q
  .exact .inl q
  .rcases h.sc with q2 | ⟨⟨o,e,t⟩,ho⟩
   .exact .inl q2
   .have e1:=kB.k _ _ e (.inr (.inl (by rw[ho];exact qt _)))
    have o1:own' A.sc=7:=by rw[kB.g _ _ e (.inr (.inl (by rw[ho];exact qt _)))];exact ho
    exact .inr ⟨⟨o,by rw[Qa q];exact e1,t⟩,by rw[Qn e1];exact o1⟩
end
theorem vK.noins{K:Frag}{H:Hp}{A:WA}{ls:List Int}{D:WD}(w:vK K H A ls D):∀c∈A.all,∃o,H c=some o/\Qfo o=false:=fun c hc=>by
 simp only[WA.all,qG,yQ,QoX] at hc
 rcases hc with h | h | h | h | h | h | h | h
 .obtain⟨xs,e⟩:=w.sa.lst;rw[h];exact⟨_,e,rfl⟩
 .rw[h];exact⟨_,w.e,rfl⟩
 .rw[h];exact⟨_,w.eh,rfl⟩
 .rw[h];exact⟨_,w.ew,rfl⟩
 .rw[h];exact⟨_,w.en,rfl⟩
 .rw[h];exact⟨_,w.ep,rfl⟩
 .rw[h];exact⟨_,w.ec,rfl⟩
 .rw[h];exact⟨_,w.em,rfl⟩
theorem cut20(ns:List Int):XQ (ns.map V.int) none (some 20)=(ns.take 20).map V.int:=by
 unfold XQ
 rw[show(20:Int)=((20:Nat):Int) from rfl,HT.Qre,HT.Qqx,Qq7,Nat.sub_zero,qi,<-List.map_take]
 by_cases h:20<=ns.length
 .rw[Qm4 h]
 .rw[Nat.min_eq_right (by omega),zH (qt _),zH (by omega)]
theorem no99{n:Nat}{D:WD}(ok:WOk n D)(hd:Str):¬(hd++("99":Str))∈D.names:=fun h=>by
 obtain⟨k,h',p,m,e1,e2,e3,e4,e5⟩:=ok.nm _ h
 have pb:=ok.pb p (qU e2)
 have e:hd++("99":Str)=(hd++("9":Str))++dig ((9:Nat):Int):=by
  have:("99":Str)=("9":Str)++dig ((9:Nat):Int):=by decide +kernel
  rw[this]
  show(⟨hd.cps++(("9":Str).cps++(dig ((9:Nat):Int)).cps)⟩:Str)=⟨(hd.cps++("9":Str).cps)++(dig ((9:Nat):Int)).cps⟩
  rw[Array.append_assoc]
 rw[e] at e5
 obtain⟨_,q⟩:=QiA (by omega) (by omega) e5
 omega
theorem Qix{ts:QvX}{x:Str}(hx:¬x∈ts)(he:¬("":Str)∈ts){z:Int}(z0:0<=z)(z1:z<5):∃y,atI [V.str x,V.non,V.int 0,V.int 7,V.str ""] z=some y/\Qjz ts y:=by
 obtain⟨n,rfl⟩:=jr z0
 have h1:n<5:=QpM.mp z1
 match n,h1 with
 | 0,_=>exact⟨_,rfl,.inr (.inr ⟨x,rfl,hx⟩)⟩
 | 1,_=>exact⟨_,rfl,.inl rfl⟩
 | 2,_=>exact⟨_,rfl,.inr (.inl ⟨0,rfl⟩)⟩
 | 3,_=>exact⟨_,rfl,.inr (.inl ⟨7,rfl⟩)⟩
 | 4,_=>exact⟨_,rfl,.inr (.inr ⟨"",rfl,he⟩)⟩
theorem QhU(rs:List Rw):(putN rs).length<=rs.length:=by unfold putN;rw[qi];exact q9 _ _
structure LI(K:Frag)(a:z8)(ns:List Int)(A:WA)(b R sl:Addr)(ws:QvX)(i:Nat)(G:Hp)(D:WD)(rs:List Rw):Prop where
 lb:∃own ls bx mk n db xr L xt xi xf,LB K a ns A b R sl ws G own rs ls bx mk n db xr L xt xi xf
 w:vK K G A ns D
 ok:WOk i D
 ws:D.words=ws
 pn:putN rs=D.names
 nd:D.names.Nodup
 ln:rs.length=i
section
variable {P:Program}{w:World}{K:Frag}{mg:Str->Option Value}{base:Heap}{a:z8}
theorem Ql8{fd:FuncData}(F:jn K "law" "law" Qt5 a.Qtu fd)(T:Txt K mg a)(FF:ZE K a):QO P w K mg base xN 60 a.Qtu fd ["_law_script"] (Qtf K):=by
 obtain⟨fdB,Qm3,QsS⟩:=FF.Qm3
 have QsW:=@Qiu P w K mg base a _ Qm3 T
 obtain⟨fdN,zg,zX⟩:=FF.zg
 have zY:=@YZ P w K mg base a _ zg T
 obtain⟨fdW,Qm0,QsP⟩:=FF.Qm0
 have QsT:=@Qie P w K mg base a _ Qm0 T FF
 obtain⟨fdI,F_bi,QqP⟩:=FF.QqZ
 have QqW:=@Qit P w K mg base a _ F_bi T FF
 obtain⟨fdS,ur,Qry⟩:=FF.ur
 have QrF:=@QdS P w K mg base a _ ur T FF
 obtain⟨fdP,uL,Qqp⟩:=FF.uL
 have Qqr:=@Qii P w K mg base a _ uL T
 obtain⟨fdR,xM,uh⟩:=FF.xM
 have uo:=@Qkr P w K mg base a _ xM T FF
 obtain⟨fdO,QoT,Qut⟩:=FF.QoT
 have Quv:=@Ql7 P w K mg base a _ QoT T FF
 obtain⟨fdH,F_sh,QqO⟩:=FF.QqY
 have QqV:=@Qkq P w K mg base a _ F_sh T FF
 refine F.ok YA (fun _ _ _ _ h=>by cases h;subst_vars;rfl) (fun cdv A0 outer s H vs Q E hr h=>?_)
 .obtain⟨q,ns,rfl,hS,hlen,kq⟩:=h
  have hr1:QB 1 _:=hr.mono (by decide)
  have hr3:QB 3 _:=hr.mono (by decide)
  have hr4:QB 4 _:=hr.mono (by decide)
  have hr5:QB 5 _:=hr.mono (by decide)
  have hr9:QB 9 _:=hr.mono (by decide)
  have hr11:QB 11 _:=hr.mono (by decide)
  have hu:=Zr hr
  refine⟨_,(Qd (Qy (i:=1) YA.nd rfl (Or.inl rfl) (Qj QsW hr1 rfl T.QsI Qm3.kp QsS .nil Ql (zr (pv 0) Qe)))
   (Qd (Qy (i:=2) YA.nd rfl (Or.inl rfl) (Qj QsT hr4 rfl T.QsF Qm0.kp QsP .nil Ql (zr (pv 1) (zr (QP Jx Qi (QP Zh (Qj zY hr1 rfl T.jh zg.kp zX .nil Ql (zr (pv 1) Qe)) Qi)) Qe))))
   (Qd (Qy (i:=3) YA.nd rfl (Or.inl rfl) (U1 T.Quh QqW hr4 rfl T.Qto QqP .nil Ql))
   (Qd (Qy (i:=4) YA.nd rfl (Or.inl rfl) (ZJ Qz))
   (Qd (Uz yP rfl (Yn (Ug QhF (pv 0) Vk (Vj Qi))) (ZI (i:=5) YA.nd rfl (Or.inl rfl)) (Qd (Qy (i:=6) YA.nd rfl (Or.inl rfl) (Qj QrF hr5 rfl T.Qrl ur.kp Qry .nil Ql (zr (pv 1) (zr (pv 2) (zr (QP Zh (Qj zY hr1 rfl T.jh zg.kp zX .nil Ql (zr (pv 1) Qe)) (QC Zx rfl T.QlO jN (zr (Qv hu (pv 2) Qp) Qe))) Qe)))))
   (Qd (Qy (i:=7) YA.nd rfl (Or.inl rfl) (Qr QN (Qr QN (pv 6) Qi) Qi))
   (Qd (QZ (PW.pt (Uy (Z2 (Jl hu (pv 7) (Qr QN (Qj Qqr hr1 rfl T.Qqj uL.kp Qqp .nil Ql (zr (pv 4) Qe)) Qi))) (YV (Jw (Jf (Qj uo hr3 rfl T.gW xM.kp uh .nil Ql (zr (pv 3) (zr (pv 7) (zr (QP Zh (Qj zY hr1 rfl T.jh zg.kp zX .nil Ql (zr (pv 1) Qe)) Qi) Qe))))))))) (Qf (QJ YY)) QD)
   (Qd (Qs (QT (pv 3) T.zL T.QqS QqV hr9 QqO .nil Ql (zr (pv 6) Qe)))
   (Qd (Qs (QaE plainAttrs_list gJ gK Uj (pv 4) (zr (pv 6) Qe)))
   (Qd (VP (Qj Qqr hr1 rfl T.Qqj uL.kp Qqp .nil Ql (zr (pv 4) Qe)) (Qh5 rfl (Uf (ZI (i:=8) YA.nd rfl (Or.inl rfl)) (Uf (ZI (i:=9) YA.nd rfl (Or.inl rfl)) Qe9))))
   (Qd (QZ (PW.pt (Uy (Z2 (Jl hu (pv 7) (pv 8))) (YV (Jw (Jf (Qj uo hr3 rfl T.gW xM.kp uh .nil Ql (zr (pv 3) (zr (pv 7) (zr (QP Zh (Qj zY hr1 rfl T.jh zg.kp zX .nil Ql (zr (pv 1) Qe)) Qi) Qe))))))))) (Qf (QJ YY)) QD)
   (Qf (QZ (PW.pt (Uy (Z2 (VR hu (pv 7) (pv 8))) (YV (Jw (Jf (Qj Quv hr11 rfl T.Qud QoT.kp Qut .nil Ql (zr (pv 3) (zr (pv 7) (zr (pv 8) (zr (pv 9) Qe)))))))))) (Qf (QJ YY)) QD))))))))))
   (Qd (Qy (i:=10) YA.nd rfl (Or.inl rfl) (Qr QR (ZJ (Qg (QP Jg (Qr QR (Qv hu (pv 2) Qp) Qi) Qp) (Qg VQ (Qg Qi (Qg Qi (Qg Qp Qz)))))) (QP Zh (Qj zY hr1 rfl T.jh zg.kp zX .nil Ql (zr (pv 1) Qe)) Qi)))
   (Qf (QJ (U3 (Qj uo hr3 rfl T.gW xM.kp uh .nil Ql (zr (pv 3) (zr (pv 10) (zr Qi Qe)))) (U0 (Qj uo hr3 rfl T.gW xM.kp uh .nil Ql (zr (pv 3) (zr (pv 10) (zr Qi Qe)))))))))))))),?_⟩
  refine⟨_,rfl,q,ns,rfl,hS,hlen,fun st hst H1 s1 sa1=>?_⟩
  refine⟨_,rfl,_,rfl,st,q,ns,rfl,sa1,hlen,fun r2 H2 r20 r21 x2 sa2=>⟨_,_,rfl,rfl,QtZ,_,_,rfl,rfl,?_⟩⟩
  have z0:=zF r2 (b:=3) (by decide)
  have z1:=zu r2 (b:=3) (by decide)
  obtain⟨m,hm⟩:∃m:Nat,1+r2 % 3=(m:Int):=⟨(1+r2 % 3).toNat,by omega⟩
  rw[hm]
  refine⟨st,q,ns,m,rfl,sa2,hlen,by omega,by omega,fun A D H3 eA1 eA2 fr x3 w3 ok3 hl3 nm3 ck3=>?_⟩
  subst eA1 eA2
  intro b db nb ndb nedb
  refine⟨b,db,fun _=>[],D.words,("inbox":Str) :: D.words,D.words,rfl,zx ok3.w5 (by decide),(by rw[za];have:=ok3.w5;omega),zx ok3.w5 (by decide),Qc,fun H5 own xr L xt xi xf k5 oz bd=>⟨rfl,?_⟩⟩
  have s5:Qo H3 H5:=Vn nb ndb k5
  have w5:=w3.same s5
  have Qvj:∀{c:Addr}{o:HO},H3 c=some o->own c=0:=fun{c o} e=>oz c o (Qb e nb) (by rw[Qa (Qb e nb),Qa (Qb e ndb)];exact e)
  have bd1:=bd.reown (own':=Qm6 own H5) fun c h=>Qkl h
  have z5:∀c∈A.all,GF H5 (Qm6 own H5) c:=fun c hc=>by
   obtain⟨o,e,i⟩:=w3.noins c hc
   exact⟨w5.there c hc,KO (Qvj e) (s5 _ _ e) i⟩
  have sc5:ScZ K H5 (Qm6 own H5) A.sc ns:=by
   obtain⟨_,hq⟩:=w3.sa
   rcases hq with(h | ⟨o',h⟩) | h
   .exact .inr ⟨⟨_,s5 _ _ h,rfl⟩,KO (Qvj h) (s5 _ _ h) rfl⟩
   .exact .inr ⟨⟨_,s5 _ _ h,rfl⟩,KO (Qvj h) (s5 _ _ h) rfl⟩
   .exact .inl fun _=>.inr h
  refine⟨zK _,fun R H6 nR s6 e6=>?_⟩
  have w6:=w5.same s6
  refine⟨_,rfl,_,rfl,A.sc,_,rfl,w6.sa.sq,fun sl H7 nsl s7 e7=>?_⟩
  rw[cut20] at e7
  have w7:=w6.same s7
  have s57:=s6.trans s7
  have nRA:R∉A.all:=fun z=>by obtain⟨o,e,_⟩:=w5.there R z;rw[nR] at e;cases e
  have nSA:sl∉A.all:=fun z=>by obtain⟨o,e,_⟩:=w6.there sl z;rw[nsl] at e;cases e
  have lb0:LB K a ns A b R sl D.words H7 (grow (Qm6 own H5) 7 H5) [] [] [] (fun _=>[]) 0 db xr L xt xi xf:=by
   refine⟨bd1.law (KpO.of s57),⟨fun l hl=>(nomatch hl),fun r hr=>(nomatch hr),fun m=>Iff.rfl,fun m hm=>(nomatch hm),fun m hm=>(nomatch hm)⟩,s7 _ _ e6,e7,fun r hr=>(nomatch hr),fun r hr=>(nomatch hr),qt _,fun c hc=>(z5 c hc).grow (w7.there c hc),Wt nR,Wt (s6.free nsl),?_,nRA,nSA,Qb e6 nsl,?_⟩
   .rcases sc5 with h | ⟨⟨o,e,t⟩,ho⟩
    .exact .inl h
    .exact .inr ⟨⟨o,s57 _ _ e,t⟩,by rw[Qn e];exact ho⟩
   .rcases sc5 with h | ⟨⟨o,e,t⟩,ho⟩
    .exact .inl h
    .exact .inr (Qb e nR)
  generalize hws:D.words=ws at lb0 ⊢
  have LI0:LI K a ns A b R sl ws 0 H7 D []:=⟨⟨_,_,_,_,_,_,_,_,_,_,_,lb0⟩,w7,ok3,hws,by rw[nm3];rfl,by rw[nm3];exact zV,rfl⟩
  refine⟨sl,rfl,⟨_,jH.of e7⟩,YI (K:=K) (a:=sl) (xs:=(ns.take 20).map V.int) (fun i σ G=>∃(o5 o6 o7 o8 o9:Option V)(D:WD)(rs:List Rw),σ=[some (.ref A.sc),some (.ref A.st),some (.ref A.s),some (.ref b),some (.ref R),o5,o6,o7,o8,o9,none]/\LI K a ns A b R sl ws i G D rs)
   ⟨none,none,none,none,none,D,[],rfl,LI0⟩ ?_ ?_ ?_⟩
  .rintro i σ G _ ⟨o5,o6,o7,o8,o9,D,rs,rfl,li⟩
   obtain⟨own,ls,bx,mk,n,db,xr,L,xt,xi,xf,lb⟩:=li.lb
   exact jH.of lb.eS
  .clear lb0 LI0 bd bd1 z5 sc5 w7 w6 w5 w3 ok3 nm3 hws ck3 hl3
   rintro i cv σ G hcv ⟨o5,o6,o7,o8,o9,D,rs,rfl,⟨own,ls,bx,mk,n,db,xr,L,xt,xi,xf,lb⟩,wG,ok,hws,pn,nd,ln⟩
   have hi:i<20:=by
    have:=(zp.mp hcv).1
    rw[qi,zN] at this
    omega
   have stc:A.st∈A.ch:=by simp[WA.ch]
   refine⟨_,rfl,_,rfl,_,rfl,A.st,A.sc,ns,rfl,wG.sa,hlen,fun r1 G1 r10 r11 x1 sa1=>?_⟩
   have wG1:=wG.sx x1 sa1
   have h0:(0:Int)<((D.hands.map V.str).length:Nat):=by rw[qi];have:=ok.hs.n0;omega
   refine⟨_,rfl,A.s,_,rfl,.inl ⟨_,Sum.inr ("hands":Str),.inl wG1.e,rfl,Y8⟩,A.hl,_,rfl,.inl (jH.of wG1.eh),_,_,rfl,rfl,h0,?_⟩
   have y0:=zF r1 (b:=((D.hands.map V.str).length:Nat)) (by omega)
   have y1:=zu r1 (b:=((D.hands.map V.str).length:Nat)) h0
   rw[qi] at y0 y1 ⊢
   generalize r1 % ((D.hands.length:Nat):Int)=kz at y0 y1 ⊢
   obtain⟨kk,rfl⟩:=jr y0
   refine⟨A,ns,D,i,kk,rfl,wG1,ok,by omega,by omega,hlen,fun x qq u c num hd d D' G2 ex du kx w2 ok2 stp=>?_⟩
   have k12:KX A.ch G G2:=(KX.sx stc x1).trans kx
   have lb2:=lb.law k12 w2
   generalize grow own 7 G=own2 at lb2
   have ra2:GE G2 ⟨x,c,hd,num,qq,u,d⟩:=⟨ex,du⟩
   have hws':D'.words=ws:=stp.words.trans hws
   have ro2:VB ws ⟨x,c,hd,num,qq,u,d⟩:=⟨fun nm p e=>by rw[<-hws];exact(stp.pt nm p e).2.2,fun e=>by rw[<-hws];exact(stp.np e).2⟩
   have pn2:putN (rs++[⟨x,c,hd,num,qq,u,d⟩])=D'.names:=by
    rw[Vi,pn]
    show(if ZB d=true then D.names++[d.nm] else D.names)=_
    cases hp:ZB d with
    | false=>exact(stp.np hp).1.symm
    | true =>
      cases d with
      | put nm p=>exact(stp.pt nm p rfl).2.1.symm
      | place a b=>cases hp
      | mark a b c=>cases hp
      | drop a=>cases hp
   have nd2:D'.names.Nodup:=by
    cases hp:ZB d with
    | false=>rw[(stp.np hp).1];exact nd
    | true =>
      cases d with
      | put nm p =>
        obtain⟨q1,q2,_⟩:=stp.pt nm p rfl
        rw[q2,jZ]
        exact⟨nd,by simp,fun a ha b hb e=>q1 (by rw[ql.mp hb] at e;rw[<-e];exact ha)⟩
      | place a b=>cases hp
      | mark a b c=>cases hp
      | drop a=>cases hp
   have ndr:(putN rs).Nodup:=by rw[pn];exact nd
   have oks:∀y∈rs++[⟨x,c,hd,num,qq,u,d⟩],VB ws y:=fun y hy=>(qx.mp hy).elim (lb.ro y) fun z=>by rw[ql.mp z];exact ro2
   have wne:∀y∈ws,y≠("":Str):=fun y hy=>by
    rw[<-hws] at hy
    exact QcD (ok.ws y hy).1.lo
   have w5l:ws.length<=5:=by rw[<-hws];exact ok.w5
   have wasc:∀y∈("inbox":Str) :: ws,Asc y:=fun y hy=>by
    rcases qG.mp hy with z | z
    .rw[z];exact Xk.2.1.asc
    .rw[<-hws] at z;exact(ok.ws y z).1.asc
   clear lb wG wG1 x1 sa1 kx
   refine⟨_,rfl,x,_,_,_,rfl,rfl,ye.of ex,Qu (j:=3) rfl,qq,_,_,_,rfl,rfl,ye.of du.e,Vb u d,?_⟩
   dsimp only[Gm]
   refine Jp (t:=Qt3 _ _ _) fun N hN=>?_
   have rest:∀(G3:Hp)(QrX:Addr->Nat),LB K a ns A b R sl ws G3 QrX rs ls bx mk n db xr L xt xi xf->vK K G3 A ns D'->GE G3 ⟨x,c,hd,num,qq,u,d⟩->N [some (.ref A.sc),some (.ref A.st),some (.ref A.s),some (.ref b),some (.ref R),some cv,some (.ref x),some (.str d.nm),o8,o9,none] G3:=fun G3 QrX lb3 w3 ra3=>by
    subst hN
    refine⟨_,rfl,b,db,_,rfl,lb3.bd.e,rfl,_,rfl,Qj7 (E:=E0) (r:=⟨x,c,hd,num,qq,u,d⟩) lb3.bd lb3.bi ra3 oks (by rw[pn2];exact nd2) w5l (by omega) lb3.hn (zx (QhU _) (by rw[qI,qT];omega)) (fun G4 own4 ls4 bx4 mk4 n4 gB hn4 bi4 kB4=>?_)⟩
    have eR4:G4 R=some (.lst (rs.map fun r=>V.ref r.x)):=kB4.k _ _ lb3.eR (.inr (.inl (by rw[lb3.zR];exact qt _)))
    refine⟨_,rfl,.inl ⟨rfl,_,jH.of eR4⟩,_,rfl,R,_,_,rfl,rfl,eR4,(by rw[qi];exact QK (by omega)),?_⟩
    obtain⟨lb5,w5⟩:=lb3.add w3 ra3 ro2 kB4 gB hn4 bi4
    have em:(rs.map fun r=>V.ref r.x)++[V.ref x]=(rs++[(⟨x,c,hd,num,qq,u,d⟩:Rw)]).map fun r:Rw=>V.ref r.x:=by rw[qQ];rfl
    rw[em]
    show Ye _ _ _ _ (upd G4 R (.lst ((rs++[(⟨x,c,hd,num,qq,u,d⟩:Rw)]).map fun r:Rw=>V.ref r.x)))
    generalize upd G4 R (.lst ((rs++[(⟨x,c,hd,num,qq,u,d⟩:Rw)]).map fun r:Rw=>V.ref r.x))=G5 at lb5 w5 ⊢
    generalize grow own4 7 G4=own5 at lb5
    generalize hrs:rs++[(⟨x,c,hd,num,qq,u,d⟩:Rw)]=rs' at lb5 pn2 oks ⊢
    have ln':rs'.length=i+1:=by rw[<-hrs,qI,qT,ln]
    have nd':(putN rs').Nodup:=by rw[pn2];exact nd2
    clear eR4 em kB4 gB hn4 bi4 lb3 w3
    refine⟨_,rfl,R,rs',rfl,lb5.eR,lb5.ra,by omega,nd',fun t LL B kvs G6 s6 nL nB et eL eB hE=>⟨t,_,rfl,ye.of et,rfl,_,_,rfl,_,_,rfl,rfl,?_⟩⟩
    have w6:=w5.same s6
    have lb6:=lb5.law (KX.of s6) w6
    dsimp only[Gm]
    refine Jp (t:=Qt3 _ _ _) fun N2 hN2=>?_
    have Qrf:∀(G7:Hp)(Qm6:Addr->Nat),LB K a ns A b R sl ws G7 Qm6 rs' ls4 bx4 mk4 n4 db xr L xt xi xf->vK K G7 A ns D'->G7 LL=some (.dK (ltK (Zj rs') rs'))->G7 B=some (.dT kvs)->QH G7 kvs (Q2 rs')->N2 [some (.ref A.sc),some (.ref A.st),some (.ref A.s),some (.ref b),some (.ref R),some cv,some (.ref x),some (.str d.nm),some (.ref LL),some (.ref B),none] G7:=fun G7 Qm6 lb7 w7 eL7 eB7 hE7=>by
     subst hN2
     by_cases hm:d.nm∈ls4.map LE.nm
     .obtain⟨l,hl,el⟩:=qd.mp hm
      obtain⟨r',hr',hd',hv⟩:=Qd8 lb7.bi nd' hl
      have lm:=j6 (f:=LE.nm) hl
      have bm:=(lb7.bi.b l.nm).mpr lm
      obtain⟨Ff,ff,_,_⟩:=lb7.bd.f
      obtain⟨_,m2,m3⟩:=ff.QuJ bm
      obtain⟨f1,f2⟩:=Qej lb7.ro l.nm
      rw[<-el]
      refine⟨_,rfl,_,rfl,LL,some (.ref r'.u),rfl,.inl ⟨_,Sum.inr l.nm,.inl eL7,rfl,hv.symm⟩,_,rfl,Zi ⟨_,rfl,_,rfl,_,rfl,_,rfl,Qm6,b,db,xr,L,xt,xi,xf,_,ls4,bx4,mk4,_,_,_,n4,l,_,LL,B,r'.u,_,kvs,Q2 rs',rfl,lb7.bd,hl,lb7.bi.fo l.nm lm,bm,eL7,hv,(lb7.ra r' hr').du.p _ _ hd',eB7,hE7,QfN wne lb7.ro,vH (Qdn rs') (by omega),QkN wne lb7.ro l.nm,QiJ wne lb7.ro lb7.bi lm,wasc _ f2,fun y hy=>wasc y (qP _ (m2 y hy)),zx m3 (by decide),fun G8 s8=>⟨_,rfl,Q4 ?_⟩⟩⟩
      exact⟨_,_,_,_,_,D',rs',rfl,⟨_,_,_,_,_,_,_,_,_,_,_,lb7.law (KX.of s8) (w7.same s8)⟩,w7.same s8,ok2,hws',pn2,nd2,ln'⟩
     .refine⟨_,rfl,_,rfl,LL,none,rfl,.inl ⟨_,Sum.inr d.nm,.inl eL7,rfl,(JB (fun z=>hm ((Qbz lb7.bi).mp z))).symm⟩,_,rfl,Q4 ?_⟩
      exact⟨_,_,_,_,_,D',rs',rfl,⟨_,_,_,_,_,_,_,_,_,_,_,lb7⟩,w7,ok2,hws',pn2,nd2,ln'⟩
    by_cases hm:d.nm∈ls4.map LE.nm
    .obtain⟨l,hl,el⟩:=qd.mp hm
     obtain⟨r',hr',hd',hv⟩:=Qd8 lb6.bi nd' hl
     exact⟨_,rfl,_,rfl,LL,some (.ref r'.u),rfl,.inl ⟨_,Sum.inr d.nm,.inl eL,rfl,by rw[<-el];exact hv.symm⟩,_,rfl,Q4 (Qrf G6 _ lb6 w6 eL eB hE)⟩
    .refine⟨_,rfl,_,rfl,LL,none,rfl,.inl ⟨_,Sum.inr d.nm,.inl eL,rfl,(JB (fun z=>hm ((Qbz lb6.bi).mp z))).symm⟩,_,rfl,Zi ⟨_,rfl,_,rfl,_,rfl,A.st,A.sc,ns,rfl,w6.sa,hlen,fun r7 G7 r70 r71 x7 sa7=>?_⟩⟩
     have w7:=w6.sx x7 sa7
     have lb7:=lb6.law (KX.sx stc x7) w7
     obtain⟨ost,est⟩:=w6.sa.lst
     refine⟨_,_,rfl,rfl,Qu2,_,b,db,xr,L,xt,xi,xf,_,ls4,bx4,mk4,_,_,_,n4,.str d.nm,_,rfl,lb7.bd,.inr (.inr ⟨_,rfl,hm⟩),fun G8 s8=>⟨_,rfl,Q4 ?_⟩⟩
     exact Qrf G8 _ (lb7.law (KX.of s8) (w7.same s8)) (w7.same s8) (s8 _ _ (x7 _ _ (QX eL est (fun z=>nomatch z)) eL)) (s8 _ _ (x7 _ _ (QX eB est (fun z=>nomatch z)) eB)) (hE.mono fun c xs e=>s8 _ _ (x7 _ _ (QX e est (fun z=>nomatch z)) e))
   refine⟨_,rfl,_,rfl,R,rs,rfl,lb2.eR,lb2.ra,by omega,ndr,fun t LL B kvs G3 s3 nL nB et eL eB hE=>⟨t,_,_,_,rfl,rfl,ye.of et,Qu (j:=0) rfl,?_⟩⟩
   have w3:=w2.same s3
   have lb3:=lb2.law (KX.of s3) w3
   have ra3:=ra2.tups fun c xs e=>s3 _ _ e
   by_cases hm:d.nm∈ls.map LE.nm
   .obtain⟨l,hl,el⟩:=qd.mp hm
    obtain⟨r',hr',hd',hv⟩:=Qd8 lb3.bi ndr hl
    exact⟨LL,some (.ref r'.u),rfl,.inl ⟨_,Sum.inr d.nm,.inl eL,rfl,by rw[<-el];exact hv.symm⟩,_,rfl,Q4 (rest G3 _ lb3 w3 ra3)⟩
   .refine⟨LL,none,rfl,.inl ⟨_,Sum.inr d.nm,.inl eL,rfl,(JB (fun z=>hm ((Qbz lb3.bi).mp z))).symm⟩,_,rfl,Zi ⟨_,rfl,_,rfl,_,rfl,A.st,A.sc,ns,rfl,w3.sa,hlen,fun r7 G7 r70 r71 x7 sa7=>?_⟩⟩
    have w7:=w3.sx x7 sa7
    have lb7:=lb3.law (KX.sx stc x7) w7
    obtain⟨ost,est⟩:=w3.sa.lst
    refine⟨_,_,rfl,rfl,Qu2,_,b,db,xr,L,xt,xi,xf,_,ls,bx,mk,_,_,_,n,.str d.nm,_,rfl,lb7.bd,.inr (.inr ⟨_,rfl,hm⟩),fun G8 s8=>⟨_,rfl,Q4 ?_⟩⟩
    exact rest G8 _ (lb7.law (KX.of s8) (w7.same s8)) (w7.same s8) (ra3.tups fun c xs e=>s8 _ _ (x7 _ _ (QX e est (fun z=>nomatch z)) e))
  .rintro σ G ⟨o5,o6,o7,o8,o9,D,rs,rfl,⟨own,ls,bx,mk,n,db,xr,L,xt,xi,xf,lb⟩,wG,ok,hws,pn,nd,ln⟩
   have stc:A.st∈A.ch:=by simp[WA.ch]
   obtain⟨h0,hh0⟩:∃h0,D.hands[0]?=some h0:=⟨_,qz (by have:=ok.hs.n0;omega)⟩
   have hl8:=(ok.hs.h h0 (qU hh0)).hi
   have l99:("99":Str).length=2:=by decide +kernel
   have sub:∀{t:Str},t∈ls.map LE.nm->t∈D.names:=fun ht=>by rw[<-pn];exact(lb.bi.QrY ht).1
   refine⟨_,rfl,A.s,_,rfl,.inl ⟨_,Sum.inr ("hands":Str),.inl wG.e,rfl,Y8⟩,A.hl,_,_,_,rfl,rfl,jH.of wG.eh,VL (k:=0) hh0,_,_,rfl,rfl,Zg ((by omega)),Qg4,fun p G1 np s1 e1=>?_⟩
   have w1:=wG.same s1
   refine⟨_,rfl,A.st,A.sc,ns,rfl,w1.sa,hlen,fun r2 G2 r20 r21 x2 sa2=>?_⟩
   have w2:=w1.sx x2 sa2
   have lb2:=lb.law ((KX.of s1).trans (KX.sx stc x2)) w2
   obtain⟨y,hy,hn⟩:=Qix (ts:=ls.map LE.nm) (x:=h0++("99":Str)) (fun z=>no99 ok h0 (sub z)) (fun z=>by
    have:=((ok.nms _ (sub z)).word ok.hs).lo
    exact absurd this (by decide +kernel)) (zF r2 (b:=5) (by decide)) (zu r2 (b:=5) (by decide))
   have pst:p≠A.st:=fun z=>by obtain⟨_,q⟩:=wG.sa.lst;rw[z,q] at np;cases np
   refine⟨_,_,rfl,rfl,zi_5,p,_,_,_,rfl,rfl,jH.of (x2 _ _ pst e1),hy,?_⟩
   refine⟨_,rfl,_,rfl,_,b,db,xr,L,xt,xi,xf,_,ls,bx,mk,_,_,_,n,y,0,rfl,lb2.bd,hn,fun G3 s3=>⟨_,rfl,Zi ?_⟩⟩
   exact⟨_,rfl,_,rfl,_,b,db,xr,L,xt,xi,xf,_,ls,bx,mk,_,_,_,n,y,1,rfl,lb2.bd.quiet s3,hn,fun G4 s4=>kq _⟩
end
def tab:List Tab:=[tF "all_among" YD,
 tF "is_word" Wc,
 tF "words_of" Ua,
 tF "is_text" Wd,
 tF "is_whole" Vh,
 tF "is_answered" Yg,
 tF "check_parts" Yh,
 tF "letter_of" Ur,
 tF "stamp_of" Ve,
 tF "check_there" Jq,
 tF "check_new" Uu,
 tF "key_of" XW,
 tF "_law_begin" Wb,
 tF "_law_next" XV,
 tF "_law_word" V8,
 tF "_law_hands" Wa,
 tF "_law_word_by" Us,
 tF "_law_text" XU,
 tF "_law_named" V9,
 tF "_law_put_by" Vf,
 tF "_law_stamped" JH,
 tF "_law_world" V7,
 tF "_law_plain" UQ,
 tF "_law_folder" Vg,
 tF "_law_marks" UR,
 tF "_law_refused" Ut,
 tF "_law_own" Qba,
 tF "law" Qt5,
 tD (some "Card") "__init__" "Card.__init__" Ux [Hd.bv (.str "inbox"),Hd.bv (.non)],
 tD (some "Letter") "__init__" "Letter.__init__" Yk [Hd.bv (.str "")],
 tM "Letter" "twin" "Letter.twin" Yj,
 tM "Letter" "parts" "Letter.parts" JN,
 tM "Letter" "known" "Letter.known" JO,
 tM "Letter" "words" "Letter.words" JM,
 tM "Folders" "__init__" "Folders.__init__" JQ,
 tD (some "Folders") "add" "Folders.add" Yl [Hd.bv (.str "inbox"),Hd.bv (.non)],
 tM "Folders" "take_out" "Folders.take_out" ZO,
 tM "Folders" "put_in" "Folders.put_in" Jb,
 tM "Folders" "put_out" "Folders.put_out" ZX,
 tM "Folders" "place" "Folders.place" Ju,
 tM "Folders" "mark" "Folders.mark" JP,
 tM "Folders" "unmark" "Folders.unmark" Ja,
 tM "Folders" "folder" "Folders.folder" Jc,
 tM "Folders" "marks" "Folders.marks" Jv,
 tM "Index" "__init__" "Index.__init__" YS,
 tM "Index" "add" "Index.add" Uw,
 tM "Index" "take_out" "Index.take_out" Z9,
 tM "Registers" "__init__" "Registers.__init__" Z8,
 tM "Registers" "keep" "Registers.keep" Z7,
 tD (some "Registers") "get" "Registers.get" Jt [Hd.bv (.non)],
 tM "Registers" "keys_of" "Registers.keys_of" ZH,
 tM "Threads" "__init__" "Threads.__init__" JL,
 tD (some "Threads") "add" "Threads.add" Yi [Hd.bv (.str "")],
 tM "Threads" "take_out" "Threads.take_out" ZN,
 tM "Board" "__init__" "Board.__init__" YU,
 tM "Board" "show" "Board.show" YT,
 tM "Board" "bring_in" "Board.bring_in" Zt,
 tM "Board" "marks_told" "Board.marks_told" Zu,
 tM "Board" "take_out" "Board.take_out" Jd,
 tM "Board" "change" "Board.change" JR,
 tM "Board" "letter_at" "Board.letter_at" ZY,
 tM "Board" "card" "Board.card" JW]
def obs(K:Frag):List (Option (FuncData×Option (QvZ))×Bool)×Bool:=(tab.map fun t=>Hd.see K (match t.1 with | none=>Hd.gl K t.2.1 | some c=>findIn K (.ref (Hd.cl K c)) t.2.1) t.2.2.1,
 [decide ((Hd.gl K "WORD_SIGNS").map (Option.map Hd.Qnh)=some (some (Hd.bv (.str "abcdefghijklmnopqrstuvwxyz0123456789")))),
  decide ((Hd.gl K "RUN_SIGNS").map (Option.map Hd.Qnh)=some (some (Hd.bv (.str "abcdefghijklmnopqrstuvwxyzABCDEFGHIJKLMNOPQRSTUVWXYZ0123456789")))),
  decide ((Hd.gl K "MOST_WORD").map (Option.map Hd.Qnh)=some (some (Hd.bv (.int 20)))),
  decide ((Hd.gl K "MOST_TITLE").map (Option.map Hd.Qnh)=some (some (Hd.bv (.int 60)))),
  decide ((Hd.gl K "MOST_BODY").map (Option.map Hd.Qnh)=some (some (Hd.bv (.int 400)))),
  decide ((Hd.gl K "LAST_DAY").map (Option.map Hd.Qnh)=some (some (Hd.bv (.int 9999)))),
  decide (Hd.gl K "len"=some none),
  decide (Hd.gl K "range"=some none),
  decide (Hd.gl K "isinstance"=some none),
  decide (Hd.gl K "str"=some none),
  decide (Hd.gl K "int"=some none),
  decide (Hd.gl K "bool"=some none),
  decide (Hd.gl K "list"=some none),
  decide (Hd.gl K "tuple"=some none),
  decide (Hd.gl K "set"=some none),
  decide (Hd.gl K "all"=some none),
  decide (Hd.gl K "sorted"=some none),
  decide (Hd.gl K "Card"=some (some (.ref (Hd.cl K "Card")))),
  plainGet K (Hd.cl K "Card") Str.empty,
  hasDictIn K (Hd.cl K "Card"),
  plainOver K (Hd.cl K "Card"),
  decide (findIn K (.ref (Hd.cl K "Card")) "__setattr__"=some (some (.builtin "object.__setattr__"))),
  makesIn K (Hd.cl K "Card"),
  keepIn K (.ref (Hd.cl K "Card")),
  decide (findIn K (.ref (Hd.cl K "Card")) "letter"=some none),
  decide (findIn K (.ref (Hd.cl K "Card")) "box"=some none),
  decide (findIn K (.ref (Hd.cl K "Card")) "signs"=some none),
  decide (Hd.gl K "Letter"=some (some (.ref (Hd.cl K "Letter")))),
  plainGet K (Hd.cl K "Letter") Str.empty,
  hasDictIn K (Hd.cl K "Letter"),
  plainOver K (Hd.cl K "Letter"),
  decide (findIn K (.ref (Hd.cl K "Letter")) "__setattr__"=some (some (.builtin "object.__setattr__"))),
  makesIn K (Hd.cl K "Letter"),
  keepIn K (.ref (Hd.cl K "Letter")),
  decide (findIn K (.ref (Hd.cl K "Letter")) "sender"=some none),
  decide (findIn K (.ref (Hd.cl K "Letter")) "title"=some none),
  decide (findIn K (.ref (Hd.cl K "Letter")) "body"=some none),
  decide (findIn K (.ref (Hd.cl K "Letter")) "day"=some none),
  decide (findIn K (.ref (Hd.cl K "Letter")) "answers"=some none),
  decide (findIn K (.ref (Hd.cl K "Letter")) "found"=some none),
  decide (Hd.gl K "Folders"=some (some (.ref (Hd.cl K "Folders")))),
  plainGet K (Hd.cl K "Folders") Str.empty,
  hasDictIn K (Hd.cl K "Folders"),
  plainOver K (Hd.cl K "Folders"),
  decide (findIn K (.ref (Hd.cl K "Folders")) "__setattr__"=some (some (.builtin "object.__setattr__"))),
  makesIn K (Hd.cl K "Folders"),
  keepIn K (.ref (Hd.cl K "Folders")),
  decide (findIn K (.ref (Hd.cl K "Folders")) "boxes"=some none),
  decide (findIn K (.ref (Hd.cl K "Folders")) "tags"=some none),
  decide (findIn K (.ref (Hd.cl K "Folders")) "inside"=some none),
  decide (Hd.gl K "Index"=some (some (.ref (Hd.cl K "Index")))),
  plainGet K (Hd.cl K "Index") Str.empty,
  hasDictIn K (Hd.cl K "Index"),
  plainOver K (Hd.cl K "Index"),
  decide (findIn K (.ref (Hd.cl K "Index")) "__setattr__"=some (some (.builtin "object.__setattr__"))),
  makesIn K (Hd.cl K "Index"),
  keepIn K (.ref (Hd.cl K "Index")),
  decide (findIn K (.ref (Hd.cl K "Index")) "entries"=some none),
  decide (findIn K (.ref (Hd.cl K "Index")) "bearers"=some none),
  decide (Hd.gl K "Registers"=some (some (.ref (Hd.cl K "Registers")))),
  plainGet K (Hd.cl K "Registers") Str.empty,
  hasDictIn K (Hd.cl K "Registers"),
  plainOver K (Hd.cl K "Registers"),
  decide (findIn K (.ref (Hd.cl K "Registers")) "__setattr__"=some (some (.builtin "object.__setattr__"))),
  makesIn K (Hd.cl K "Registers"),
  keepIn K (.ref (Hd.cl K "Registers")),
  decide (findIn K (.ref (Hd.cl K "Registers")) "drawers"=some none),
  decide (Hd.gl K "Threads"=some (some (.ref (Hd.cl K "Threads")))),
  plainGet K (Hd.cl K "Threads") Str.empty,
  hasDictIn K (Hd.cl K "Threads"),
  plainOver K (Hd.cl K "Threads"),
  decide (findIn K (.ref (Hd.cl K "Threads")) "__setattr__"=some (some (.builtin "object.__setattr__"))),
  makesIn K (Hd.cl K "Threads"),
  keepIn K (.ref (Hd.cl K "Threads")),
  decide (findIn K (.ref (Hd.cl K "Threads")) "links"=some none),
  decide (findIn K (.ref (Hd.cl K "Threads")) "replies"=some none),
  decide (Hd.gl K "Board"=some (some (.ref (Hd.cl K "Board")))),
  plainGet K (Hd.cl K "Board") Str.empty,
  hasDictIn K (Hd.cl K "Board"),
  plainOver K (Hd.cl K "Board"),
  decide (findIn K (.ref (Hd.cl K "Board")) "__setattr__"=some (some (.builtin "object.__setattr__"))),
  makesIn K (Hd.cl K "Board"),
  keepIn K (.ref (Hd.cl K "Board")),
  decide (findIn K (.ref (Hd.cl K "Board")) "facts"=some none),
  decide (findIn K (.ref (Hd.cl K "Board")) "letters"=some none),
  decide (findIn K (.ref (Hd.cl K "Board")) "hung"=some none),
  decide (findIn K (.ref (Hd.cl K "Board")) "listed"=some none),
  decide (findIn K (.ref (Hd.cl K "Board")) "boxed"=some none),
  decide (Hd.gl K "MailError"=some (some (.ref (Hd.cl K "MailError")))),
  excIn K (Hd.cl K "MailError") Qfj "ValueError.__new__",
  decide (Hd.gl K "NoLetter"=some (some (.ref (Hd.cl K "NoLetter")))),
  decide (Hd.gl K "NoName"=some (some (.ref (Hd.cl K "NoName")))),
  excIn K (Hd.cl K "NoName") Qfj "ValueError.__new__",
  decide (PySem.W.mroIn K (Hd.cl K "NoName") (.ref (Hd.cl K "MailError"))=some true),
  decide (Hd.gl K "NoWord"=some (some (.ref (Hd.cl K "NoWord")))),
  decide (Hd.gl K "NoRule"=some (some (.ref (Hd.cl K "NoRule")))),
  decide (Hd.gl K "NoParcel"=some (some (.ref (Hd.cl K "NoParcel")))),
  decide (Hd.gl K "NoRow"=some (some (.ref (Hd.cl K "NoRow")))),
  decide (findIn K (.ref (Hd.cl K "NoName")) "__getattribute__"=some (some (.builtin "BaseException.__getattribute__"))),
  decide (findIn K (.ref (Hd.cl K "NoName")) "__getattr__"=some none),
  hasDictIn K (Hd.cl K "NoName"),
  decide (findIn K (.ref (Hd.cl K "NoName")) "__class__"=some (some (.builtin "object.__class__"))),
  decide (specialIn K (.builtin "object.__class__") "__get__"=some (some (.builtin "getset_descriptor.__get__"))),
  decide (takesIn K (.builtin "object.__class__")=some true),
  decide (PySem.W.mroIn K (Hd.cl K "NoName") (.type "object")=some true),
  decide (PySem.W.mroIn K (Hd.cl K "NoName") (.type "BaseException")=some true),
  decide (kitOne K (.ref (Hd.cl K "NoName")) (.ref (Hd.cl K "NoLetter"))=some false),
  decide (kitOne K (.ref (Hd.cl K "NoName")) (.ref (Hd.cl K "NoParcel"))=some false),
  decide (kitOne K (.ref (Hd.cl K "NoName")) (.ref (Hd.cl K "NoRow"))=some false),
  decide (kitOne K (.ref (Hd.cl K "NoName")) (.ref (Hd.cl K "NoRule"))=some false),
  decide (kitOne K (.ref (Hd.cl K "NoName")) (.ref (Hd.cl K "NoWord"))=some false),
  decide (kitOne K (.ref (Hd.cl K "NoName")) (.type "ValueError")=some true),
  decide (kitOne K (.ref (Hd.cl K "NoName")) (.ref (Hd.cl K "NoName"))=some true),
  decide (Hd.gl K "ValueError"=some none)].all id)
def good:List (Option (FuncData×Option (QvZ))×Bool)×Bool:=(tab.map fun t=>(some (Hd.QqK t.2.1 t.2.2.1 t.2.2.2.1,t.2.2.2.2),true),true)
theorem all_mk{l:PySem.W.OpenLaw}{w:World}{K:Frag}{h:Heap}{mg:Str->Option Value}{fa:Addr}(X:K.In h)(E:obs K=good)(G:h.Ns mainGlobals mg)(hfa:mg "law"=some (.ref fa)) :
 ∃fd:FuncData,(∀(s:Shared)(v:Value),BindsTo s fd ⟨[v],[]⟩ [("_law_script",v)])/\∀base:Heap,K.In base->base.Ns mainGlobals mg->QO l.prog w K mg base xN 60 fa fd ["_law_script"] (Qtf K):=by
 have e1:=jM Prod.fst E
 have e2:=jM Prod.snd E
 obtain⟨a1,k1,i1,_,F1⟩:=Hd.zb (Hd.zU e1 0 rfl rfl)
 obtain⟨a2,k2,i2,_,F2⟩:=Hd.zb (Hd.zU e1 1 rfl rfl)
 obtain⟨a3,k3,i3,_,F3⟩:=Hd.zb (Hd.zU e1 2 rfl rfl)
 obtain⟨a4,k4,i4,_,F4⟩:=Hd.zb (Hd.zU e1 3 rfl rfl)
 obtain⟨a5,k5,i5,_,F5⟩:=Hd.zb (Hd.zU e1 4 rfl rfl)
 obtain⟨a6,k6,i6,_,F6⟩:=Hd.zb (Hd.zU e1 5 rfl rfl)
 obtain⟨a7,k7,i7,_,F7⟩:=Hd.zb (Hd.zU e1 6 rfl rfl)
 obtain⟨a8,k8,i8,_,F8⟩:=Hd.zb (Hd.zU e1 7 rfl rfl)
 obtain⟨a9,k9,i9,_,F9⟩:=Hd.zb (Hd.zU e1 8 rfl rfl)
 obtain⟨a10,k10,i10,_,F10⟩:=Hd.zb (Hd.zU e1 9 rfl rfl)
 obtain⟨a11,k11,i11,_,F11⟩:=Hd.zb (Hd.zU e1 10 rfl rfl)
 obtain⟨a12,k12,i12,_,F12⟩:=Hd.zb (Hd.zU e1 11 rfl rfl)
 obtain⟨a13,k13,i13,_,F13⟩:=Hd.zb (Hd.zU e1 12 rfl rfl)
 obtain⟨a14,k14,i14,_,F14⟩:=Hd.zb (Hd.zU e1 13 rfl rfl)
 obtain⟨a15,k15,i15,_,F15⟩:=Hd.zb (Hd.zU e1 14 rfl rfl)
 obtain⟨a16,k16,i16,_,F16⟩:=Hd.zb (Hd.zU e1 15 rfl rfl)
 obtain⟨a17,k17,i17,_,F17⟩:=Hd.zb (Hd.zU e1 16 rfl rfl)
 obtain⟨a18,k18,i18,_,F18⟩:=Hd.zb (Hd.zU e1 17 rfl rfl)
 obtain⟨a19,k19,i19,_,F19⟩:=Hd.zb (Hd.zU e1 18 rfl rfl)
 obtain⟨a20,k20,i20,_,F20⟩:=Hd.zb (Hd.zU e1 19 rfl rfl)
 obtain⟨a21,k21,i21,_,F21⟩:=Hd.zb (Hd.zU e1 20 rfl rfl)
 obtain⟨a22,k22,i22,_,F22⟩:=Hd.zb (Hd.zU e1 21 rfl rfl)
 obtain⟨a23,k23,i23,_,F23⟩:=Hd.zb (Hd.zU e1 22 rfl rfl)
 obtain⟨a24,k24,i24,_,F24⟩:=Hd.zb (Hd.zU e1 23 rfl rfl)
 obtain⟨a25,k25,i25,_,F25⟩:=Hd.zb (Hd.zU e1 24 rfl rfl)
 obtain⟨a26,k26,i26,_,F26⟩:=Hd.zb (Hd.zU e1 25 rfl rfl)
 obtain⟨a27,k27,i27,_,F27⟩:=Hd.zb (Hd.zU e1 26 rfl rfl)
 obtain⟨a28,k28,i28,_,F28⟩:=Hd.zb (Hd.zU e1 27 rfl rfl)
 obtain⟨a29,k29,i29,D29,kV29,dc29,pm29,an29,cd29,ct29,o29,it29,Dn29,F29,t29,s29,m29⟩:=Hd.QmG (Hd.zU e1 28 rfl rfl)
 obtain⟨dv29_0,dv29_1,rfl,Qvf,Qti⟩:=Hd.map2 m29
 obtain⟨a30,k30,i30,D30,kV30,dc30,pm30,an30,cd30,ct30,o30,it30,Dn30,F30,t30,s30,m30⟩:=Hd.QmG (Hd.zU e1 29 rfl rfl)
 obtain⟨dv30_0,rfl,Qve⟩:=Hd.Qvn m30
 obtain⟨a31,k31,i31,_,F31⟩:=Hd.zb (Hd.zU e1 30 rfl rfl)
 obtain⟨a32,k32,i32,_,F32⟩:=Hd.zb (Hd.zU e1 31 rfl rfl)
 obtain⟨a33,k33,i33,_,F33⟩:=Hd.zb (Hd.zU e1 32 rfl rfl)
 obtain⟨a34,k34,i34,_,F34⟩:=Hd.zb (Hd.zU e1 33 rfl rfl)
 obtain⟨a35,k35,i35,_,F35⟩:=Hd.zb (Hd.zU e1 34 rfl rfl)
 obtain⟨a36,k36,i36,D36,kV36,dc36,pm36,an36,cd36,ct36,o36,it36,Dn36,F36,t36,s36,m36⟩:=Hd.QmG (Hd.zU e1 35 rfl rfl)
 obtain⟨dv36_0,dv36_1,rfl,Qvd,Qth⟩:=Hd.map2 m36
 obtain⟨a37,k37,i37,_,F37⟩:=Hd.zb (Hd.zU e1 36 rfl rfl)
 obtain⟨a38,k38,i38,_,F38⟩:=Hd.zb (Hd.zU e1 37 rfl rfl)
 obtain⟨a39,k39,i39,_,F39⟩:=Hd.zb (Hd.zU e1 38 rfl rfl)
 obtain⟨a40,k40,i40,_,F40⟩:=Hd.zb (Hd.zU e1 39 rfl rfl)
 obtain⟨a41,k41,i41,_,F41⟩:=Hd.zb (Hd.zU e1 40 rfl rfl)
 obtain⟨a42,k42,i42,_,F42⟩:=Hd.zb (Hd.zU e1 41 rfl rfl)
 obtain⟨a43,k43,i43,_,F43⟩:=Hd.zb (Hd.zU e1 42 rfl rfl)
 obtain⟨a44,k44,i44,_,F44⟩:=Hd.zb (Hd.zU e1 43 rfl rfl)
 obtain⟨a45,k45,i45,_,F45⟩:=Hd.zb (Hd.zU e1 44 rfl rfl)
 obtain⟨a46,k46,i46,_,F46⟩:=Hd.zb (Hd.zU e1 45 rfl rfl)
 obtain⟨a47,k47,i47,_,F47⟩:=Hd.zb (Hd.zU e1 46 rfl rfl)
 obtain⟨a48,k48,i48,_,F48⟩:=Hd.zb (Hd.zU e1 47 rfl rfl)
 obtain⟨a49,k49,i49,_,F49⟩:=Hd.zb (Hd.zU e1 48 rfl rfl)
 obtain⟨a50,k50,i50,D50,kV50,dc50,pm50,an50,cd50,ct50,o50,it50,Dn50,F50,t50,s50,m50⟩:=Hd.QmG (Hd.zU e1 49 rfl rfl)
 obtain⟨dv50_0,rfl,Qvc⟩:=Hd.Qvn m50
 obtain⟨a51,k51,i51,_,F51⟩:=Hd.zb (Hd.zU e1 50 rfl rfl)
 obtain⟨a52,k52,i52,_,F52⟩:=Hd.zb (Hd.zU e1 51 rfl rfl)
 obtain⟨a53,k53,i53,D53,kV53,dc53,pm53,an53,cd53,ct53,o53,it53,Dn53,F53,t53,s53,m53⟩:=Hd.QmG (Hd.zU e1 52 rfl rfl)
 obtain⟨dv53_0,rfl,Qvb⟩:=Hd.Qvn m53
 obtain⟨a54,k54,i54,_,F54⟩:=Hd.zb (Hd.zU e1 53 rfl rfl)
 obtain⟨a55,k55,i55,_,F55⟩:=Hd.zb (Hd.zU e1 54 rfl rfl)
 obtain⟨a56,k56,i56,_,F56⟩:=Hd.zb (Hd.zU e1 55 rfl rfl)
 obtain⟨a57,k57,i57,_,F57⟩:=Hd.zb (Hd.zU e1 56 rfl rfl)
 obtain⟨a58,k58,i58,_,F58⟩:=Hd.zb (Hd.zU e1 57 rfl rfl)
 obtain⟨a59,k59,i59,_,F59⟩:=Hd.zb (Hd.zU e1 58 rfl rfl)
 obtain⟨a60,k60,i60,_,F60⟩:=Hd.zb (Hd.zU e1 59 rfl rfl)
 obtain⟨a61,k61,i61,_,F61⟩:=Hd.zb (Hd.zU e1 60 rfl rfl)
 obtain⟨a62,k62,i62,_,F62⟩:=Hd.zb (Hd.zU e1 61 rfl rfl)
 have e:Value.ref fa=.ref (Hd.jd (Hd.gl K "law")):=qR (hfa.symm.trans (mg_of X G a28))
 injection e with e
 subst e
 let A:z8:=⟨Hd.jd (Hd.gl K "all_among"),Hd.jd (Hd.gl K "is_word"),Hd.jd (Hd.gl K "words_of"),Hd.jd (Hd.gl K "is_text"),Hd.jd (Hd.gl K "is_whole"),Hd.jd (Hd.gl K "is_answered"),Hd.jd (Hd.gl K "check_parts"),Hd.jd (Hd.gl K "letter_of"),Hd.jd (Hd.gl K "stamp_of"),Hd.jd (Hd.gl K "check_there"),Hd.jd (Hd.gl K "check_new"),Hd.jd (Hd.gl K "key_of"),Hd.jd (Hd.gl K "_law_begin"),Hd.jd (Hd.gl K "_law_next"),Hd.jd (Hd.gl K "_law_word"),Hd.jd (Hd.gl K "_law_hands"),Hd.jd (Hd.gl K "_law_word_by"),Hd.jd (Hd.gl K "_law_text"),Hd.jd (Hd.gl K "_law_named"),Hd.jd (Hd.gl K "_law_put_by"),Hd.jd (Hd.gl K "_law_stamped"),Hd.jd (Hd.gl K "_law_world"),Hd.jd (Hd.gl K "_law_plain"),Hd.jd (Hd.gl K "_law_folder"),Hd.jd (Hd.gl K "_law_marks"),Hd.jd (Hd.gl K "_law_refused"),Hd.jd (Hd.gl K "_law_own"),Hd.jd (Hd.gl K "law"),Hd.jd (findIn K (.ref (Hd.cl K "Card")) "__init__"),Hd.jd (findIn K (.ref (Hd.cl K "Letter")) "__init__"),Hd.jd (findIn K (.ref (Hd.cl K "Letter")) "twin"),Hd.jd (findIn K (.ref (Hd.cl K "Letter")) "parts"),Hd.jd (findIn K (.ref (Hd.cl K "Letter")) "known"),Hd.jd (findIn K (.ref (Hd.cl K "Letter")) "words"),Hd.jd (findIn K (.ref (Hd.cl K "Folders")) "__init__"),Hd.jd (findIn K (.ref (Hd.cl K "Folders")) "add"),Hd.jd (findIn K (.ref (Hd.cl K "Folders")) "take_out"),Hd.jd (findIn K (.ref (Hd.cl K "Folders")) "put_in"),Hd.jd (findIn K (.ref (Hd.cl K "Folders")) "put_out"),Hd.jd (findIn K (.ref (Hd.cl K "Folders")) "place"),Hd.jd (findIn K (.ref (Hd.cl K "Folders")) "mark"),Hd.jd (findIn K (.ref (Hd.cl K "Folders")) "unmark"),Hd.jd (findIn K (.ref (Hd.cl K "Folders")) "folder"),Hd.jd (findIn K (.ref (Hd.cl K "Folders")) "marks"),Hd.jd (findIn K (.ref (Hd.cl K "Index")) "__init__"),Hd.jd (findIn K (.ref (Hd.cl K "Index")) "add"),Hd.jd (findIn K (.ref (Hd.cl K "Index")) "take_out"),Hd.jd (findIn K (.ref (Hd.cl K "Registers")) "__init__"),Hd.jd (findIn K (.ref (Hd.cl K "Registers")) "keep"),Hd.jd (findIn K (.ref (Hd.cl K "Registers")) "get"),Hd.jd (findIn K (.ref (Hd.cl K "Registers")) "keys_of"),Hd.jd (findIn K (.ref (Hd.cl K "Threads")) "__init__"),Hd.jd (findIn K (.ref (Hd.cl K "Threads")) "add"),Hd.jd (findIn K (.ref (Hd.cl K "Threads")) "take_out"),Hd.jd (findIn K (.ref (Hd.cl K "Board")) "__init__"),Hd.jd (findIn K (.ref (Hd.cl K "Board")) "show"),Hd.jd (findIn K (.ref (Hd.cl K "Board")) "bring_in"),Hd.jd (findIn K (.ref (Hd.cl K "Board")) "marks_told"),Hd.jd (findIn K (.ref (Hd.cl K "Board")) "take_out"),Hd.jd (findIn K (.ref (Hd.cl K "Board")) "change"),Hd.jd (findIn K (.ref (Hd.cl K "Board")) "letter_at"),Hd.jd (findIn K (.ref (Hd.cl K "Board")) "card"),Hd.cl K "Card",Hd.cl K "Letter",Hd.cl K "Folders",Hd.cl K "Index",Hd.cl K "Registers",Hd.cl K "Threads",Hd.cl K "Board",Hd.cl K "MailError",Hd.cl K "NoLetter",Hd.cl K "NoName",Hd.cl K "NoWord",Hd.cl K "NoRule",Hd.cl K "NoParcel",Hd.cl K "NoRow"⟩
 have T:Txt K mg A:=⟨mg_of X G a1,
  mg_of X G a2,
  mg_of X G a3,
  mg_of X G a4,
  mg_of X G a5,
  mg_of X G a6,
  mg_of X G a7,
  mg_of X G a8,
  mg_of X G a9,
  mg_of X G a10,
  mg_of X G a11,
  mg_of X G a12,
  mg_of X G a13,
  mg_of X G a14,
  mg_of X G a15,
  mg_of X G a16,
  mg_of X G a17,
  mg_of X G a18,
  mg_of X G a19,
  mg_of X G a20,
  mg_of X G a21,
  mg_of X G a22,
  mg_of X G a23,
  mg_of X G a24,
  mg_of X G a25,
  mg_of X G a26,
  mg_of X G a27,
  Hd.uI X G (qg (Hd.qO e2 0 rfl)),
  Hd.uI X G (qg (Hd.qO e2 1 rfl)),
  Hd.uI X G (qg (Hd.qO e2 2 rfl)),
  Hd.uI X G (qg (Hd.qO e2 3 rfl)),
  Hd.uI X G (qg (Hd.qO e2 4 rfl)),
  Hd.uI X G (qg (Hd.qO e2 5 rfl)),
  mg_none_of X G (qg (Hd.qO e2 6 rfl)),
  mg_none_of X G (qg (Hd.qO e2 7 rfl)),
  mg_none_of X G (qg (Hd.qO e2 8 rfl)),
  mg_none_of X G (qg (Hd.qO e2 9 rfl)),
  mg_none_of X G (qg (Hd.qO e2 10 rfl)),
  mg_none_of X G (qg (Hd.qO e2 11 rfl)),
  mg_none_of X G (qg (Hd.qO e2 12 rfl)),
  mg_none_of X G (qg (Hd.qO e2 13 rfl)),
  mg_none_of X G (qg (Hd.qO e2 14 rfl)),
  mg_none_of X G (qg (Hd.qO e2 15 rfl)),
  mg_none_of X G (qg (Hd.qO e2 16 rfl)),
  mg_of X G (qg (Hd.qO e2 17 rfl)),
  ⟨(Hd.qO e2 18 rfl),(Hd.qO e2 19 rfl),(Hd.qO e2 20 rfl),(qg (Hd.qO e2 21 rfl))⟩,
  ⟨(Hd.qO e2 22 rfl),a29,i29,(Hd.qO e2 23 rfl)⟩,
  (Hd.kI (Hd.qO e2 24 rfl)),
  (Hd.kI (Hd.qO e2 25 rfl)),
  (Hd.kI (Hd.qO e2 26 rfl)),
  mg_of X G (qg (Hd.qO e2 27 rfl)),
  ⟨(Hd.qO e2 28 rfl),(Hd.qO e2 29 rfl),(Hd.qO e2 30 rfl),(qg (Hd.qO e2 31 rfl))⟩,
  ⟨(Hd.qO e2 32 rfl),a30,i30,(Hd.qO e2 33 rfl)⟩,
  ⟨a31,i31,k31⟩,
  ⟨a32,i32,k32⟩,
  ⟨a33,i33,k33⟩,
  ⟨a34,i34,k34⟩,
  (Hd.kI (Hd.qO e2 34 rfl)),
  (Hd.kI (Hd.qO e2 35 rfl)),
  (Hd.kI (Hd.qO e2 36 rfl)),
  (Hd.kI (Hd.qO e2 37 rfl)),
  (Hd.kI (Hd.qO e2 38 rfl)),
  (Hd.kI (Hd.qO e2 39 rfl)),
  mg_of X G (qg (Hd.qO e2 40 rfl)),
  ⟨(Hd.qO e2 41 rfl),(Hd.qO e2 42 rfl),(Hd.qO e2 43 rfl),(qg (Hd.qO e2 44 rfl))⟩,
  ⟨(Hd.qO e2 45 rfl),a35,i35,(Hd.qO e2 46 rfl)⟩,
  ⟨a36,i36,k36⟩,
  ⟨a37,i37,k37⟩,
  ⟨a38,i38,k38⟩,
  ⟨a39,i39,k39⟩,
  ⟨a40,i40,k40⟩,
  ⟨a41,i41,k41⟩,
  ⟨a42,i42,k42⟩,
  ⟨a43,i43,k43⟩,
  ⟨a44,i44,k44⟩,
  (Hd.kI (Hd.qO e2 47 rfl)),
  (Hd.kI (Hd.qO e2 48 rfl)),
  (Hd.kI (Hd.qO e2 49 rfl)),
  mg_of X G (qg (Hd.qO e2 50 rfl)),
  ⟨(Hd.qO e2 51 rfl),(Hd.qO e2 52 rfl),(Hd.qO e2 53 rfl),(qg (Hd.qO e2 54 rfl))⟩,
  ⟨(Hd.qO e2 55 rfl),a45,i45,(Hd.qO e2 56 rfl)⟩,
  ⟨a46,i46,k46⟩,
  ⟨a47,i47,k47⟩,
  (Hd.kI (Hd.qO e2 57 rfl)),
  (Hd.kI (Hd.qO e2 58 rfl)),
  mg_of X G (qg (Hd.qO e2 59 rfl)),
  ⟨(Hd.qO e2 60 rfl),(Hd.qO e2 61 rfl),(Hd.qO e2 62 rfl),(qg (Hd.qO e2 63 rfl))⟩,
  ⟨(Hd.qO e2 64 rfl),a48,i48,(Hd.qO e2 65 rfl)⟩,
  ⟨a49,i49,k49⟩,
  ⟨a50,i50,k50⟩,
  ⟨a51,i51,k51⟩,
  (Hd.kI (Hd.qO e2 66 rfl)),
  mg_of X G (qg (Hd.qO e2 67 rfl)),
  ⟨(Hd.qO e2 68 rfl),(Hd.qO e2 69 rfl),(Hd.qO e2 70 rfl),(qg (Hd.qO e2 71 rfl))⟩,
  ⟨(Hd.qO e2 72 rfl),a52,i52,(Hd.qO e2 73 rfl)⟩,
  ⟨a53,i53,k53⟩,
  ⟨a54,i54,k54⟩,
  (Hd.kI (Hd.qO e2 74 rfl)),
  (Hd.kI (Hd.qO e2 75 rfl)),
  mg_of X G (qg (Hd.qO e2 76 rfl)),
  ⟨(Hd.qO e2 77 rfl),(Hd.qO e2 78 rfl),(Hd.qO e2 79 rfl),(qg (Hd.qO e2 80 rfl))⟩,
  ⟨(Hd.qO e2 81 rfl),a55,i55,(Hd.qO e2 82 rfl)⟩,
  ⟨a56,i56,k56⟩,
  ⟨a57,i57,k57⟩,
  ⟨a58,i58,k58⟩,
  ⟨a59,i59,k59⟩,
  ⟨a60,i60,k60⟩,
  ⟨a61,i61,k61⟩,
  ⟨a62,i62,k62⟩,
  (Hd.kI (Hd.qO e2 83 rfl)),
  (Hd.kI (Hd.qO e2 84 rfl)),
  (Hd.kI (Hd.qO e2 85 rfl)),
  (Hd.kI (Hd.qO e2 86 rfl)),
  (Hd.kI (Hd.qO e2 87 rfl)),
  mg_of X G (qg (Hd.qO e2 88 rfl)),
  ⟨(Hd.qO e2 89 rfl)⟩,
  mg_of X G (qg (Hd.qO e2 90 rfl)),
  mg_of X G (qg (Hd.qO e2 91 rfl)),
  ⟨(Hd.qO e2 92 rfl)⟩,
  Qme (qg (Hd.qO e2 93 rfl)),
  mg_of X G (qg (Hd.qO e2 94 rfl)),
  mg_of X G (qg (Hd.qO e2 95 rfl)),
  mg_of X G (qg (Hd.qO e2 96 rfl)),
  mg_of X G (qg (Hd.qO e2 97 rfl)),
  ⟨(qg (Hd.qO e2 98 rfl)),(qg (Hd.qO e2 99 rfl)),(Hd.qO e2 100 rfl),(qg (Hd.qO e2 101 rfl)),(qg (Hd.qO e2 102 rfl)),(qg (Hd.qO e2 103 rfl)),(qg (Hd.qO e2 104 rfl)),(qg (Hd.qO e2 105 rfl))⟩,
  (qg (Hd.qO e2 106 rfl)),
  (qg (Hd.qO e2 107 rfl)),
  (qg (Hd.qO e2 108 rfl)),
  (qg (Hd.qO e2 109 rfl)),
  (qg (Hd.qO e2 110 rfl)),
  (qg (Hd.qO e2 111 rfl)),
  (qg (Hd.qO e2 112 rfl)),
  mg_none_of X G (qg (Hd.qO e2 113 rfl))⟩
 have FF:ZE K A:=⟨⟨_,F1,F1.bd2 (by intros;rfl) rfl⟩,⟨_,F2,F2.bd1 (by intros;rfl) rfl⟩,⟨_,F3,F3.bd1 (by intros;rfl) rfl⟩,⟨_,F4,F4.bd2 (by intros;rfl) rfl⟩,⟨_,F5,F5.bd1 (by intros;rfl) rfl⟩,⟨_,F6,F6.bd1 (by intros;rfl) rfl⟩,⟨_,F7,F7.bd5 (by intros;rfl) rfl⟩,⟨_,F8,F8.bd1 (by intros;rfl) rfl⟩,⟨_,F9,F9.bd1 (by intros;rfl) rfl⟩,⟨_,F10,F10.bd2 (by intros;rfl) rfl⟩,⟨_,F11,F11.bd2 (by intros;rfl) rfl⟩,⟨_,F12,F12.bd1 (by intros;rfl) rfl⟩,⟨_,F13,F13.bd1 (by intros;rfl) rfl⟩,⟨_,F14,F14.bd1 (by intros;rfl) rfl⟩,⟨_,F15,F15.bd3 (by intros;rfl) rfl⟩,⟨_,F16,F16.bd2 (by intros;rfl) rfl⟩,⟨_,F17,F17.bd2 (by intros;rfl) rfl⟩,⟨_,F18,F18.bd2 (by intros;rfl) rfl⟩,⟨_,F19,F19.bd3 (by intros;rfl) rfl⟩,⟨_,F20,F20.bd3 (by intros;rfl) rfl⟩,⟨_,F21,F21.bd3 (by intros;rfl) rfl⟩,⟨_,F22,F22.bd2 (by intros;rfl) rfl⟩,⟨_,F23,F23.bd1 (by intros;rfl) rfl⟩,⟨_,F24,F24.bd2 (by intros;rfl) rfl⟩,⟨_,F25,F25.bd2 (by intros;rfl) rfl⟩,⟨_,F26,F26.bd3 (by intros;rfl) rfl⟩,⟨_,F27,F27.gB (by intros;rfl) rfl⟩,⟨_,F28,F28.bd1 (by intros;rfl) rfl⟩,⟨_,F29,(fun s us X' hl=>have hl':us.length=4:=(by simpa using hl);(by clear hl;revert hl';revert us;refine Qt0 ?_;intros;exact binds_K X' rfl t29 s29 rfl rfl)),⟨_,(.cons (Hd.vg Qvf) (.cons (Hd.vg Qti) .nil)),(fun s us X' hl=>have hl':us.length=2:=(by simpa using hl);(by clear hl;revert hl';revert us;refine QfV ?_;intros;exact binds_K X' rfl t29 s29 rfl rfl))⟩,⟨_,(.cons (Hd.vg Qti) .nil),(fun s us X' hl=>have hl':us.length=3:=(by simpa using hl);(by clear hl;revert hl';revert us;refine QfU ?_;intros;exact binds_K X' rfl t29 s29 rfl rfl))⟩⟩,⟨_,F30,(fun s us X' hl=>have hl':us.length=6:=(by simpa using hl);(by clear hl;revert hl';revert us;refine us_6 ?_;intros;exact binds_K X' rfl t30 s30 rfl rfl)),⟨_,(.cons (Hd.vg Qve) .nil),(fun s us X' hl=>have hl':us.length=5:=(by simpa using hl);(by clear hl;revert hl';revert us;refine Qu3 ?_;intros;exact binds_K X' rfl t30 s30 rfl rfl))⟩⟩,⟨_,F31,F31.bd1 (by intros;rfl) rfl⟩,⟨_,F32,F32.bd1 (by intros;rfl) rfl⟩,⟨_,F33,F33.bd1 (by intros;rfl) rfl⟩,⟨_,F34,F34.bd1 (by intros;rfl) rfl⟩,⟨_,F35,F35.bd1 (by intros;rfl) rfl⟩,⟨_,F36,(fun s us X' hl=>have hl':us.length=4:=(by simpa using hl);(by clear hl;revert hl';revert us;refine Qt0 ?_;intros;exact binds_K X' rfl t36 s36 rfl rfl)),⟨_,(.cons (Hd.vg Qvd) (.cons (Hd.vg Qth) .nil)),(fun s us X' hl=>have hl':us.length=2:=(by simpa using hl);(by clear hl;revert hl';revert us;refine QfV ?_;intros;exact binds_K X' rfl t36 s36 rfl rfl))⟩,⟨_,(.cons (Hd.vg Qth) .nil),(fun s us X' hl=>have hl':us.length=3:=(by simpa using hl);(by clear hl;revert hl';revert us;refine QfU ?_;intros;exact binds_K X' rfl t36 s36 rfl rfl))⟩⟩,⟨_,F37,F37.bd2 (by intros;rfl) rfl⟩,⟨_,F38,F38.bd3 (by intros;rfl) rfl⟩,⟨_,F39,F39.bd2 (by intros;rfl) rfl⟩,⟨_,F40,F40.bd3 (by intros;rfl) rfl⟩,⟨_,F41,F41.bd3 (by intros;rfl) rfl⟩,⟨_,F42,F42.bd3 (by intros;rfl) rfl⟩,⟨_,F43,F43.bd2 (by intros;rfl) rfl⟩,⟨_,F44,F44.bd2 (by intros;rfl) rfl⟩,⟨_,F45,F45.bd1 (by intros;rfl) rfl⟩,⟨_,F46,F46.bd3 (by intros;rfl) rfl⟩,⟨_,F47,F47.bd2 (by intros;rfl) rfl⟩,⟨_,F48,F48.bd1 (by intros;rfl) rfl⟩,⟨_,F49,F49.gB (by intros;rfl) rfl⟩,⟨_,F50,(fun s us X' hl=>have hl':us.length=3:=(by simpa using hl);(by clear hl;revert hl';revert us;refine QfU ?_;intros;exact binds_K X' rfl t50 s50 rfl rfl)),⟨_,(.cons (Hd.vg Qvc) .nil),(fun s us X' hl=>have hl':us.length=2:=(by simpa using hl);(by clear hl;revert hl';revert us;refine QfV ?_;intros;exact binds_K X' rfl t50 s50 rfl rfl))⟩⟩,⟨_,F51,F51.bd2 (by intros;rfl) rfl⟩,⟨_,F52,F52.bd1 (by intros;rfl) rfl⟩,⟨_,F53,(fun s us X' hl=>have hl':us.length=3:=(by simpa using hl);(by clear hl;revert hl';revert us;refine QfU ?_;intros;exact binds_K X' rfl t53 s53 rfl rfl)),⟨_,(.cons (Hd.vg Qvb) .nil),(fun s us X' hl=>have hl':us.length=2:=(by simpa using hl);(by clear hl;revert hl';revert us;refine QfV ?_;intros;exact binds_K X' rfl t53 s53 rfl rfl))⟩⟩,⟨_,F54,F54.bd2 (by intros;rfl) rfl⟩,⟨_,F55,F55.bd1 (by intros;rfl) rfl⟩,⟨_,F56,F56.bd2 (by intros;rfl) rfl⟩,⟨_,F57,F57.bd2 (by intros;rfl) rfl⟩,⟨_,F58,F58.bd2 (by intros;rfl) rfl⟩,⟨_,F59,F59.bd2 (by intros;rfl) rfl⟩,⟨_,F60,F60.bd2 (by intros;rfl) rfl⟩,⟨_,F61,F61.bd2 (by intros;rfl) rfl⟩,⟨_,F62,F62.bd2 (by intros;rfl) rfl⟩⟩
 obtain⟨_,_,kV,doc,pm,an,cdv,ct,_,rfl,_,_⟩:=F28.ex
 exact⟨_,fun s v=>.of_eq rfl,fun base _ _=>Ql8 F28 T FF⟩
abbrev PP:Program:=PySem.Challenge.pw_mailroom_k53_boards_refused
def loose:QvX:=(["_wall","Card","MailError","NoWord","NoLetter","NoRule","NoName","NoParcel","NoRow","WORD_SIGNS","RUN_SIGNS","MOST_WORD","all_among","is_word","words_of","MOST_TITLE","MOST_BODY","LAST_DAY","is_text","is_whole","is_answered","check_parts","Letter","letter_of","stamp_of","check_there","check_new","Folders","Index","Registers","Threads","key_of","Board","_law_begin","_law_next","_law_word","_law_hands","_law_shuffled","_law_by_stamp","_law_word_by","_law_text","_law_named","_law_put_by","_law_stamped","_law_world","_law_plain","_law_folder","_law_marks","_law_hang","_law_threads","_law_folders","_law_words","_law_having","_law_refused","_law_own"]:List String).map Str.ofString
theorem seen(w:World)(os:OsState):(Hd.QoZ (Hd.Qsk Hd.Qur PP w) (Hd.okQ 11 (some (.ref 6))) 20000 (Hd.S0 w os) (PySem.W.topStub PP)).map (fun s=>(Hd.chk PP w.params s.abs,Hd.seenQ (view PP [67]) loose (PySem.importedModules PP.main.body) (fun s=>PySem.W.recOk [] s) true s.abs,obs (Hd.Qru s)))=some (true,PySem.W.openGood (view PP [67]) loose,good):=by kernel_rfl
theorem look:PySem.W.Fast.tw9446332074065402090 PySem.Challenge.rw_mailroom_k53_boards_refused=true:=by kernel_rfl
theorem opens:PySem.W.opening PP=PySem.W.plainProg PP.main.scope.names:=by kernel_rfl
theorem fence(s:Shared):fenceModules? PP s=some s:=by kernel_rfl
end K53
open PySem PySem.W PyProof.Rows
set_option maxRecDepth 100000 in
set_option maxHeartbeats 0 in
theorem PySem.Challenge.cw_mailroom_k53_boards_refused_holds : PySem.Challenge.rw_mailroom_k53_boards_refused.Holds := by
 refine Hd.close (q:=view K53.PP [67]) (loose:=K53.loose) (N:=20000) (obs:=K53.obs) (good:=K53.good) K53.look K53.opens rfl K53.fence K53.seen rfl rfl rfl rfl (by decide +kernel) ⟨rfl,rfl,rfl,rfl,rfl,by decide +kernel⟩ ?hw ?hc
 case hw=>w_witness2
 case hc=>exact Hd.walk (n:=63) (k:=60) (x:="_law_script") (sp:=K53.Qtf) rfl (by decide) rfl ⟨rfl,by decide,by decide,rfl⟩ (fun w K mg fa h KX y G hmg=>K53.all_mk KX y G hmg) (fun _ _ a ns hl _ hS=>⟨a,ns,rfl,hS,hl,fun _=>rfl⟩)
#print axioms PySem.Challenge.cw_mailroom_k53_boards_refused_holds
