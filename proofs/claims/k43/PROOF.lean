import PyProof.Rows.All
import Wide.All
import OpenK.AllK
import Wide.FinOn
import Lean
import PyProof.EqAt
import PyProof.EqKinds
import PyProof.TupleCall
import PyProof.P3In
import KE.KDictLaws
import PyProof.Rows.SetFrom
import KE.KRevSl
import KE.KIntText
import KE.KLcPair
import KE.KIsAll
import PyProof.ExcArgsOwn
import PyProof.ExcAttrAll.ValueError
import PyProof.NsDelKeeps
import PyProof.Rows.CountFlat
import KE.RegKIsAll
import PyProof.WalksMore
import PyProof.FString5
import KE.KListMore
import PyProof.ZipIter
import PyProof.FString
import PyProof.StrLawsReplace
import PyProof.MinMaxWalk
import PyProof.WalkInts
import PyProof.Rows.MinMaxN
import PyProof.Rows.CallKwBuiltin
import KE.KMinKey
import KE.KSortKey
import KE.KSortTup
import PyProof.DictValues
import PyProof.DictWalks
import KE.KDictOf
import KE.KEqDict
import PyProof.NeKinds
import PyProof.NeData
import PyProof.Rows.DictMethods
import PySem.Challenge.RW_mailroom_k43_parcels_taken
open Sum(inl inr)
open PySem.W(instObj methodObj hideAll hideAll_get of_hideAll Frag lookIn plainGet hasDictIn findIn handedIn plainGet_of isFn plainOver takerIn makesIn emptyDict keepIn kitOne kia_one kitx_list kitx_dict callWith_K methodCall_KW fnOf codeIn KdlSrc excIn mg_of mg_none_of binds_K view)
open PySem.F(slot_dict_get plainAttrs_dict excBase_ValueError entry_max_loop plain_max_loop slot_dict_values plainAttrs_list)
open PyProof.Rows(boot_max callWith_kw kws_cons kws_nil boot_sorted boot_all boot_isinstance boot_str boot_int boot_bool boot_tuple boot_list boot_dict envOfC)
abbrev qb:=@PySem.wpAny_bind
abbrev qd:=@List.length_map
abbrev qe:=@List.getElem?_eq_getElem
abbrev qg:=@List.mem_singleton
abbrev qi:=@List.getElem?_eq_some_iff
abbrev qj:=@if_pos
abbrev ql:=@if_neg
abbrev qp:=@Nat.le_refl
abbrev qt:=@decide_eq_true
abbrev qu:=@List.mem_cons_of_mem
abbrev qw:=@PySem.Heap.get?_push_of_some
abbrev qx:=@PySem.wpAny_pure
abbrev qy:=@List.length_append
abbrev qz:=@decide_eq_false
abbrev qC:=@Array.getElem?_toList
abbrev qD:=@of_decide_eq_true
abbrev qF:=@List.mem_append
abbrev qG:=@List.mem_of_getElem?
abbrev qH:=@Array.length_toList
abbrev qI:=@List.mem_cons_self
abbrev qJ:=@List.getElem?_map
abbrev qK:=@List.length_take
abbrev qL:=@List.mem_iff_getElem?
abbrev qM:=@List.size_toArray
abbrev qN:=@PySem.Heap.get?_push_size
abbrev qO:=@List.mem_append_right
abbrev qP:=@Nat.zero_le
abbrev qQ:=@List.take_append_drop
abbrev qR:=@List.mem_cons
abbrev qT:=@PySem.Heap.lt_size
abbrev qU:=@List.append_assoc
abbrev qW:=@beq_iff_eq
abbrev qZ:=@List.pairwise_append
abbrev q8:=@Bool.false_ne_true
abbrev q9:=@List.getElem?_drop
abbrev za:=@List.getElem?_take
abbrev zb:=@List.take_add_one
abbrev zc:=@List.map_append
abbrev zf:=@Nat.le_trans
abbrev zg:=@Option.some.inj
abbrev zj:=@List.take_of_length_le
abbrev zm:=@List.length_cons
abbrev zp:=@Nat.ne_of_lt
abbrev zq:=@List.mem_map
abbrev zr:=@List.getD_eq_getElem?_getD
abbrev zu:=@List.map_map
abbrev zx:=@Nat.lt_of_lt_of_le
abbrev zA:=@List.mem_append_left
abbrev zB:=@congrArg
abbrev zE:=@PySem.boot_len
abbrev zH:=@List.getElem?_append_left
abbrev zM:=@Bool.false_eq_true
abbrev zN:=@Int.emod_lt_of_pos
abbrev zP:=@Int.emod_nonneg
abbrev zQ:=@List.getElem?_append_right
abbrev zR:=@List.mem_of_mem_take
abbrev zU:=@PySem.sizeLine_eq
abbrev zV:=@List.length_singleton
abbrev zW:=@List.concat_eq_append
abbrev z6:=@Array.getElem?_eq_getElem
abbrev z7:=@List.map_cons
abbrev z8:=@PySem.Heap.SameBut.update
abbrev jb:=@List.mem_of_mem_drop
abbrev jc:=@PySem.F.slot_list_append
abbrev jd:=@PySem.F.type_list_append
abbrev jf:=@Array.toList_append
abbrev jg:=@List.mem_map_of_mem
abbrev jh:=@List.length_drop
abbrev jl:=@List.take_sublist
abbrev jm:=@Bool.true_and
abbrev jo:=@List.nodup_cons
abbrev jq:=@List.drop_zero
abbrev jr:=@Bool.and_eq_true
abbrev jw:=@List.pairwise_singleton
abbrev jx:=@Int.eq_ofNat_of_zero_le
abbrev jz:=@PySem.wpAny_truthy_bool
abbrev jA:=@Nat.min_eq_left
abbrev jB:=@List.drop_of_length_le
abbrev jC:=@PySem.wpAny_Call_Name_kw
abbrev jD:=@if_false
abbrev jF:=@PySem.PassesOwn.never
abbrev jH:=@List.Perm.append_left
abbrev jJ:=@List.perm_append_comm
abbrev jK:=@List.mem_range
abbrev jM:=@PySem.wpAny_mono
abbrev jN:=@PySem.wpAny_newObj_type
abbrev jP:=@PySem.wpAny_holding
abbrev jQ:=@List.lookup_cons
abbrev jT:=@Nat.lt_irrefl
abbrev jU:=@List.nodup_nil
abbrev jV:=@List.drop_sublist
abbrev jW:=@Array.toList_push
abbrev jX:=@List.pairwise_map
abbrev jY:=@PySem.mem_of_lookup
abbrev j4:=@Sum.inr.inj
abbrev j5:=@List.append_nil
abbrev j7:=@List.drop_eq_getElem_cons
abbrev j8:=@Classical.byContradiction
abbrev j9:=@PySem.Heap.get?_update_other
abbrev yd:=@List.all_eq_true
abbrev ye:=@List.not_mem_nil
abbrev yg:=@List.take_zero
abbrev yj:=@PySem.F.slot_dict_valueiterator_next
abbrev yo:=@Nat.le_succ
abbrev yp:=@PySem.F.slot_dict_keyiterator_next
abbrev yq:=@List.take_length
abbrev yr:=@decide_eq_decide
abbrev yw:=@Bool.false_and
abbrev yx:=@Nat.lt_of_le_of_lt
abbrev yz:=@List.perm_ext_iff_of_nodup
abbrev yF:=@PySem.Heap.size_update
abbrev yG:=@List.pairwise_iff_getElem
abbrev yH:=@PySem.Calls.spliced_cons
abbrev yM:=@List.Pairwise.imp_of_mem
abbrev yU:=@beq_eq_false_iff_ne
abbrev yV:=@List.map_congr_left
abbrev yW:=@Nat.lt_succ_self
abbrev yX:=@beq_self_eq_true
abbrev yZ:=@List.getElem_mem
abbrev xf:=@List.drop_drop
abbrev xx:=@Option.map_eq_some_iff
abbrev xF:=@Array.getElem?_eq_none
abbrev xH:=@List.pairwise_cons
abbrev xJ:=@Nat.add_sub_cancel
abbrev xK:=@List.Perm.append_right
abbrev xW:=@List.length_filter_le
abbrev xX:=@List.getElem?_eq_none
abbrev xY:=@List.eq_nil_or_concat
abbrev xZ:=@Int.toNat_natCast
abbrev kh:=@PySem.wpAny_typeNameOfWhole_keyiter
abbrev kj:=@PyProof.Rows.listUpdate_at
abbrev km:=@PySem.wpAny_typeNameOfWhole_valiter
abbrev kE:=@PySem.Calls.callWith_builtin
abbrev vM:=@Nat.ne_of_gt
abbrev vN:=@PySem.Heap.get?_update_self
abbrev vO:=@List.mem_flatMap
abbrev vP:=@PySem.Calls.spliced_nil
abbrev vQ:=@PySem.wpAny_dictEntries
abbrev vR:=@List.extract_eq_take_drop
abbrev vW:=@List.filterMap_cons
abbrev wC:=@PySem.Around.under_plainId
abbrev wH:=@List.find?_cons
abbrev wI:=@PyProof.Rows.get?_update_seq
abbrev wJ:=@PySem.codeAny_mono
abbrev wK:=@List.filter_append
abbrev wL:=@PySem.wpAny_call_entry
abbrev wM:=@of_decide_eq_false
abbrev gC:=@Ne.symm
abbrev gD:=@if_true
abbrev gF:=@PySem.wpAny_attempt
abbrev gG:=@PySem.wpAny_typeNameOf_keyiter
abbrev gH:=@Nat.zero_add
abbrev gJ:=@Nat.lt_succ_of_lt
abbrev gK:=@PySem.wpAny_typeNameOf_valiter
abbrev gM:=@List.nodup_append
abbrev gY:=@PySem.wpAny_dictEpoch
abbrev uv:=@PySem.wpAny_getItem_str_slice
abbrev uw:=@PySem.wpAny_callSpecial?_slot
abbrev uA:=@Nat.min_eq_right
abbrev uC:=@List.cons.inj
abbrev uF:=@PySem.wpAny_fieldsOf
abbrev uG:=@Int.le_refl
abbrev uH:=@Array.toList_extract
abbrev uI:=@Array.toList_reverse
abbrev uJ:=@List.take_append_of_le_length
abbrev QfC:=@Bool.eq_iff_iff
abbrev Qgh:=@PySem.wpAny_isOneOf_valiter
abbrev Qgq:=@List.flatMap_append
abbrev QgL:=@PyProof.Rows.callWith_type1
abbrev QgR:=@Nat.sub_self
abbrev QhK:=@PySem.wpAny_newList
abbrev Qig:=@Array.forIn_toList
abbrev Qij:=@List.Perm.refl
abbrev QiG:=@PySem.wpAny_passesOwn
abbrev QiH:=@PySem.codeAny_builtin
abbrev QiT:=@Nat.le_succ_of_le
abbrev Qi8:=@PySem.Calls.Name_function_global
abbrev Qi9:=@List.filter_cons
abbrev Qja:=@PySem.Obj.data_mapFields
abbrev Qjb:=@PySem.wpAny_tryCatch
abbrev Qjc:=@Array.toList_map
abbrev Qjd:=@List.mem_reverse
abbrev Qje:=@Nat.succ_le_succ
abbrev QjG:=@List.getElem?_set_self
abbrev Qj0:=@List.mem_filter
abbrev Qj1:=@PySem.wpAny_letGo
abbrev Qj2:=@PySem.Heap.get?_push_ne
abbrev Qkd:=@PySem.plainId_quiet
abbrev Qke:=@List.pairwise_flatMap
abbrev QkO:=@PySem.wpAny_Call_method0_late
abbrev QkP:=@Bool.and_eq_true_iff
abbrev QkQ:=@Array.toArray_toList
abbrev Qlj:=@PySem.evalArgs_none
abbrev Qlk:=@PySem.call_meetsIn
abbrev Qlz:=@PySem.post_val_or_str
abbrev QlA:=@Bool.and_true
abbrev QlM:=@List.mem_filterMap
abbrev QlN:=@List.getElem_range
abbrev QpK:=List PySem.Str
abbrev QpL:=PySem.Value→PySem.Shared→Prop
abbrev QpM:=List PySem.Value
noncomputable section
set_option Elab.async false
set_option linter.all false
set_option maxRecDepth 100000
namespace L2
open PySem PySem.Spec PyProof.Rows
abbrev Key:=Sum Int Str
def WA:Key->Value->Bool
 | .inl k,v=>Value.isInt k v
 | .inr x,v=>Value.isStrOf x v
def keyH(w:World):Key->Int
 | .inl k=>hashInt k
 | .inr x=>hashStr w x
theorem Q0:∀{k:Key}{v:Value},WA k v=true->(∃i t,k=inl i/\v=Value.int i t)\/(∃x t,k=inr x/\v=Value.str x t)
 | .inl i,v,h=>by
   obtain⟨t,e⟩:=Value.isInt_shape (k:=i) (v:=v) h
   exact .inl ⟨i,t,rfl,e⟩
 | .inr x,v,h=>by
   obtain⟨t,e⟩:=Value.isStrOf_shape (x:=x) (v:=v) h
   exact .inr ⟨x,t,rfl,e⟩
theorem QcX(i:Int)(t:Tok):WA (.inl i) (.int i t)=true:=by simp[WA,Value.isInt]
theorem QcW(x:Str)(t:Tok):WA (.inr x) (.str x t)=true:=by simp[WA,Value.isStrOf]
theorem Qh8(a b:Int):decide ((inl a:Key)=inl b)=(a == b):=by
 by_cases e:a=b
 .subst e;simp
 .have h:¬(inl a:Key)=inl b:=fun q=>e (inl.inj q)
  rw[qz h]
  exact(yU.mpr e).symm
theorem Qh5(a b:Str):decide ((inr a:Key)=inr b)=decide (a=b):=by
 by_cases e:a=b
 .subst e;simp
 .have h:¬(inr a:Key)=inr b:=fun q=>e (j4 q)
  rw[qz h,qz e]
theorem Qh7(a:Int)(b:Str):decide ((inl a:Key)=inr b)=false:=qz (fun q=>nomatch q)
theorem Qh6(a:Str)(b:Int):decide ((inr a:Key)=inl b)=false:=qz (fun q=>nomatch q)
def QW(prog:Program)(w:World):PySem.KeyKind prog w Key where
 is:=WA
 hash:=keyH w
 inj:=fun v a b ha hb=>by
  rcases Q0 ha with⟨i,t,rfl,rfl⟩ | ⟨x,t,rfl,rfl⟩
  .rcases Q0 hb with⟨j,u,rfl,e⟩ | ⟨y,u,rfl,e⟩
   .injection e with e1 _;rw[e1]
   .exact nomatch e
  .rcases Q0 hb with⟨j,u,rfl,e⟩ | ⟨y,u,rfl,e⟩
   .exact nomatch e
   .injection e with e1 _;rw[e1]
 byValue:=fun k v h=>by
  rcases Q0 h with⟨i,t,rfl,rfl⟩ | ⟨x,t,rfl,rfl⟩ <;> rfl
 pyHash:=fun hv h=>by
  rcases Q0 hv with⟨i,t,rfl,rfl⟩ | ⟨x,t,rfl,rfl⟩
  .exact wpAny_pyHash_int h
  .exact wpAny_pyHash_str h
 eqBool:=fun hu hv h=>by
  rcases Q0 hu with⟨i,t,rfl,rfl⟩ | ⟨x,t,rfl,rfl⟩
  .rcases Q0 hv with⟨j,u,rfl,rfl⟩ | ⟨y,u,rfl,rfl⟩
   .rw[Qh8] at h;exact wpAny_eqBool_int h
   .rw[Qh7] at h;exact SeqAt.EqAt.int_str i t y u _ _ _ _ h
  .rcases Q0 hv with⟨j,u,rfl,rfl⟩ | ⟨y,u,rfl,rfl⟩
   .rw[Qh6] at h;exact SeqAt.EqAt.str_int x t j u _ _ _ _ h
   .rw[Qh5] at h;exact wpAny_eqBool_str h
 «strs»:=fun k x t v h=>by
  rcases Q0 h with⟨i,u,rfl,e⟩ | ⟨y,u,rfl,e⟩
  .exact nomatch e
  .injection e with e1 _
   subst e1
   cases v <;> rfl
theorem Gy(prog:Program)(w:World)(i:Int)(t:Tok):(QW prog w).is (.inl i) (.int i t)=true:=QcX i t
theorem Gx(prog:Program)(w:World)(x:Str)(t:Tok):(QW prog w).is (.inr x) (.str x t)=true:=QcW x t
end L2
namespace L2
open PySem PySem.Spec PyProof.Rows
inductive V where
 | non | bl (b:Bool) | int (i:Int) | str (x:Str) | byt (b:Array UInt8) | flt (b:UInt64) | ref (a:Addr) | ty (n:String)
 deriving DecidableEq
def QC:V->Value->Prop
 | .non,u=>u=Value.none
 | .bl b,u=>u=Value.bool b
 | .int i,u=>∃t,u=Value.int i t
 | .str x,u=>∃t,u=Value.str x t
 | .byt b,u=>∃t,u=Value.bytes b t
 | .flt b,u=>∃t,u=Value.float b t
 | .ref a,u=>u=Value.ref a
 | .ty n,u=>u=Value.type n
abbrev Qx:List V->QpM->Prop:=Paired QC
theorem Qx.length{xs:List V}{us:QpM}(r:Qx xs us):xs.length=us.length:=Paired.length r
theorem Qx.get:∀{xs:List V}{us:QpM}{i:Nat}{x:V},Qx xs us->xs[i]?=some x->∃u,us[i]?=some u/\QC x u
 | _,_,_,_,.nil,e=>by simp at e
 | _,_,0,_,.cons r _,e=>by simp at e;subst e;exact⟨_,rfl,r⟩
 | _,_,i+1,x,.cons _ t,e=>by
   obtain⟨u,h1,h2⟩:=Qx.get (i:=i) (x:=x) t (by simpa using e)
   exact⟨u,by simpa using h1,h2⟩
theorem Qx.set{x:V}{u:Value}(r:QC x u):∀{xs:List V}{us:QpM}(i:Nat),Qx xs us->Qx (xs.set i x) (us.set i u)
 | _,_,_,.nil=>.nil
 | _,_,0,.cons _ t=>.cons r t
 | _,_,i+1,.cons q t=>.cons q (Qx.set r i t)
theorem Qx.append:∀{xs ys:List V}{us ws:QpM},Qx xs us->Qx ys ws->Qx (xs++ys) (us++ws)
 | _,_,_,_,.nil,s=>s
 | _,_,_,_,.cons r t,s=>.cons r (Qx.append t s)
theorem Qx.take:∀{xs:List V}{us:QpM}(n:Nat),Qx xs us->Qx (xs.take n) (us.take n)
 | _,_,0,_=>.nil
 | _,_,_+1,.nil=>.nil
 | _,_,n+1,.cons r t=>.cons r (Qx.take n t)
theorem Qx.drop:∀{xs:List V}{us:QpM}(n:Nat),Qx xs us->Qx (xs.drop n) (us.drop n)
 | _,_,0,r=>r
 | _,_,_+1,.nil=>.nil
 | _,_,n+1,.cons _ t=>Qx.drop n t
def YA:Option V->Option Value->Prop
 | some v,some u=>QC v u
 | none,none=>True
 | _,_=>False
def KV{κ:Type}:List (κ×V)->List (κ×Value)->Prop:=Paired fun(p:κ×V)(q:κ×Value)=>p.1=q.1/\QC p.2 q.2
def kV:Key->V
 | .inl i=>.int i
 | .inr x=>.str x
inductive HO where
 | lst (xs:List V)
 | tup (xs:List V)
 | dK (kvs:List (Key×V)) | dT (kvs:List (List Key×V))
 | set (S:Int->Bool) (n:Nat)
 | ins (C dx:Addr) (fs:List (Str×V))
 | own (x:Addr)
 | xd (fs:List (Str×V))
 | met (f x:Addr)
 | rng (lo hi:Int)
 | yR (o:Obj) (u:HO)
 | tbl (ps:Array Value)
 | ext (φ:Heap->Prop)
abbrev Hp:=Addr->Option HO
def upd(H:Hp)(a:Addr)(o:HO):Hp:=fun b=>if b=a then some o else H b
theorem Qf{H:Hp}{a:Addr}{o:HO}:upd H a o a=some o:=by unfold upd;rw[qj rfl]
theorem Qj{H:Hp}{a b:Addr}{o:HO}(h:b≠a):upd H a o b=H b:=by unfold upd;rw[ql h]
theorem XY{H:Hp}{a:Addr}{o u:HO}:upd (upd H a o) a u=upd H a u:=by
 funext b;unfold upd;split <;> rfl
theorem QI{H:Hp}{a b:Addr}{o u:HO}(h:H a=some o)(h':H b=some u)(d:o≠u):a≠b:=by
 intro e;subst e;rw[h] at h';exact d (zg h')
theorem Qd{H:Hp}{a b:Addr}{o:HO}(h:H a=some o)(h':H b=none):a≠b:=by
 intro e;subst e;rw[h] at h';cases h'
section
variable (P:Program)(w:World)
def QG(H:Hp)(h:Heap)(a:Addr):HO->Prop
 | .lst xs=>xs.length<=sizeLine/\∃(its:QpM)(n:Nat),Qx xs its/\h.get? a=some { cls:=.type "list",data:=.seq its.toArray n }
 | .tup xs=>xs.length<=sizeLine/\∃its:QpM,Qx xs its/\IsTup h a its.toArray
 | .dK kvs=>kvs.length<=sizeLine/\(a == sysModules)=false/\∃vs,KV kvs vs/\h.DictOf (QW P w) a vs
 | .dT kvs=>kvs.length<=sizeLine/\(a == sysModules)=false/\∃xs:List (List Key×Addr×Value),
    Paired (fun(p:List Key×V)(q:List Key×Addr×Value)=>p.1=q.1/\H q.2.1=some (.tup (p.1.map kV))/\QC p.2 q.2.2) kvs xs /\
    ∃o es ep,h.get? a=some o/\o.ExactDict/\o.data=.dict es ep/\es.toList=xs.map (entryOfKey (tupleKind (QW P w)))/\(xs.map (·.1)).Nodup
 | .set S n=>h.SetOf (intKind P w) a S n
 | .ins C dx fs=>H dx=some (.own a)/\fs.length<=1000/\dx≠a/\h.get? a=some (instObj C dx) /\
    ∃mA,h.Ns1 dx mA/\(∀f,YA (fs.lookup f) (mA f))/\PySem.Within mA (fs.map (·.1))
 | .own _=>∃o,h.get? a=some o
 | .xd fs=>∃mA,h.Ns1 a mA/\∀f,YA (fs.lookup f) (mA f)
 | .rng lo hi=>∃t u v,h.get? a=some { cls:=.type "range",data:=.fields #[.int lo t,.int hi u,.int 1 v] }
 | .yR o u=>h.get? a=some o/\QG H h a u
 | .tbl ps=>h.get? a=some { cls:=.none,data:=.fields ps }
 | .met f x=>h.get? a=some (methodObj (.ref f) (.ref x))
 | .ext φ=>φ h/\(∃o,h.get? a=some o)/\∀h1 h2:Heap,φ h1->(∀o,h1.get? a=some o->h2.get? a=some o)->φ h2
def gq(H:Hp)(h:Heap):Prop:=∀a o,H a=some o->QG P w H h a o
end
section
variable {P:Program}{w:World}{H H':Hp}{h h':Heap}{a:Addr}{o:HO}
theorem QG.lt(x:QG P w H h a o):a<h.objs.size:=by
 cases o with
 | lst xs=>obtain⟨_,_,_,_,e⟩:=x;exact qT e
 | tup xs=>obtain⟨_,_,_,p⟩:=x;exact p.lt
 | dK kvs=>obtain⟨_,_,_,_,o,_,_,e,_⟩:=x;exact qT e
 | dT kvs=>obtain⟨_,_,_,_,o,_,_,e,_⟩:=x;exact qT e
 | set S n=>obtain⟨o,_,_,_,e,_⟩:=x;exact qT e
 | ins C dx fs=>obtain⟨_,_,_,e,_⟩:=x;exact qT e
 | own y=>obtain⟨_,e⟩:=x;exact qT e
 | xd fs=>obtain⟨_,⟨_,_,_,e,_⟩,_⟩:=x;exact qT e
 | rng lo hi=>obtain⟨_,_,_,e⟩:=x;exact qT e
 | yR ob u=>obtain⟨e,_⟩:=x;exact qT e
 | tbl ps=>exact qT (show h.get? a=some _ from x)
 | met f y=>exact qT (show h.get? a=some _ from x)
 | ext φ=>obtain⟨_,⟨_,e⟩,_⟩:=x;exact qT e
theorem Paired.QnJ{α β:Type}{F G:α->β->Prop}:∀{l₁:List α}{l₂:List β},Paired F l₁ l₂->(∀a b,F a b->G a b)->Paired G l₁ l₂
 | _,_,.nil,_=>.nil
 | _,_,.cons r t,f=>.cons (f _ _ r) (Paired.QnJ t f)
theorem QG.stay(x:QG P w H h a o)(k:∀b u,(b=a\/H b=some (.own a))->h.get? b=some u->h'.get? b=some u)
 (ho:∀b,H b=some (.own a)->H' b=some (.own a)) (ht:∀b xs,H b=some (.tup xs)->H' b=some (.tup xs)):QG P w H' h' a o:=by
 induction o with
 | lst xs=>obtain⟨z,its,n,r,e⟩:=x;exact⟨z,its,n,r,k _ _ (.inl rfl) e⟩
 | tup xs=>obtain⟨z,its,r,ob,e,c⟩:=x;exact⟨z,its,r,ob,k _ _ (.inl rfl) e,c⟩
 | dK kvs=>obtain⟨z,y,vs,r,ob,es,ep,e,c⟩:=x;exact⟨z,y,vs,r,ob,es,ep,k _ _ (.inl rfl) e,c⟩
 | dT kvs =>
   obtain⟨z,y,xs,r,ob,es,ep,e,c⟩:=x
   exact⟨z,y,xs,Paired.QnJ r fun p q z=>⟨z.1,ht _ _ z.2.1,z.2.2⟩,ob,es,ep,k _ _ (.inl rfl) e,c⟩
 | set S n=>obtain⟨ob,es,ep,t,e,c⟩:=x;exact⟨ob,es,ep,t,k _ _ (.inl rfl) e,c⟩
 | ins C dx fs =>
   obtain⟨d,z,ne,e,mA,⟨od,es,ep,e2,c⟩,r⟩:=x
   exact⟨ho _ d,z,ne,k _ _ (.inl rfl) e,mA,⟨od,es,ep,k _ _ (.inr d) e2,c⟩,r⟩
 | own y=>obtain⟨ob,e⟩:=x;exact⟨ob,k _ _ (.inl rfl) e⟩
 | xd fs=>obtain⟨mA,⟨od,es,ep,e,c⟩,r⟩:=x;exact⟨mA,⟨od,es,ep,k _ _ (.inl rfl) e,c⟩,r⟩
 | rng lo hi=>obtain⟨t,u,v,e⟩:=x;exact⟨t,u,v,k _ _ (.inl rfl) e⟩
 | yR ob u ih=>obtain⟨e,q⟩:=x;exact⟨k _ _ (.inl rfl) e,ih q⟩
 | tbl ps =>
   have e:h.get? a=some { cls:=.none,data:=.fields ps }:=x
   show h'.get? a=some { cls:=.none,data:=.fields ps }
   exact k a _ (.inl rfl) e
 | met f y =>
   have e:h.get? a=some (methodObj (.ref f) (.ref y)):=x
   show h'.get? a=some (methodObj (.ref f) (.ref y))
   exact k a _ (.inl rfl) e
 | ext φ=>obtain⟨p,⟨o,e⟩,st⟩:=x;exact⟨st _ _ p fun o q=>k _ _ (.inl rfl) q,⟨o,k _ _ (.inl rfl) e⟩,st⟩
theorem gq.lt(x:gq P w H h)(e:H a=some o):a<h.objs.size:=(x a o e).lt
theorem gq.fresh(x:gq P w H h)(e:h.objs.size<=a):H a=none:=by
 cases q:H a with
 | none=>rfl
 | some u=>exact absurd (zx (x.lt q) e) (jT _)
theorem gq.kept(x:gq P w H h)(k:∀b u,h.get? b=some u->h'.get? b=some u):gq P w H h':=fun a o e =>
 (x a o e).stay (fun b u _ q=>k b u q) (fun _ q=>q) fun _ _ q=>q
theorem gq.laid(x:gq P w H h)(k:∀b u,h.get? b=some u->h'.get? b=some u)(hp:h.objs.size<=a)(new:QG P w (upd H a o) h' a o):gq P w (upd H a o) h':=fun b u e=>by
 have hn:=x.fresh hp
 by_cases hb:b=a
 .subst hb;rw[Qf] at e;cases e;exact new
 .rw[Qj hb] at e
  exact(x b u e).stay (fun c v _ q=>k c v q) (fun c q=>by rw[Qj (Qd q hn)];exact q) fun c xs q=>by rw[Qj (Qd q hn)];exact q
end
def Rd(H:Hp)(a:Addr)(u:HO):Prop:=H a=some u\/∃o,H a=some (.yR o u)
theorem Rd.ok{P:Program}{w:World}{H:Hp}{h:Heap}{a:Addr}{u:HO}(r:Rd H a u)(x:gq P w H h):QG P w H h a u:=by
 rcases r with r | ⟨o,r⟩
 .exact x a u r
 .obtain⟨_,q⟩:=x a _ r
  exact q
def Mut:Option HO->Prop
 | some (.lst _)=>True
 | some (.dK _)=>True
 | some (.dT _)=>True
 | some (.set _ _)=>True
 | some (.ins _ _ _)=>True
 | some (.ext _)=>True
 | _=>False
section
variable {P:Program}{w:World}{H:Hp}{h h':Heap}{x e:Addr}{o':HO}
theorem gq.write(ok:gq P w H h)(mu:Mut (H x))(he:e=x\/H e=some (.own x))(k:∀b u,b≠e->h.get? b=some u->h'.get? b=some u)(heo:∃u,h'.get? e=some u)
 (new:QG P w (upd H x o') h' x o'):gq P w (upd H x o') h':=fun b u q=>by
 have nown:∀c y,H c=some (.own y)->c≠x:=fun c y r z=>by subst z;rw[r] at mu;exact mu
 have Qo1:∀c xs,H c=some (.tup xs)->c≠x:=fun c xs r z=>by subst z;rw[r] at mu;exact mu
 by_cases hb:b=x
 .subst hb;rw[Qf] at q;cases q;exact new
 .rw[Qj hb] at q
  by_cases hbe:b=e
  .have q':H b=some (.own x):=by
    rcases he with z | z
    .exact absurd (hbe.trans z) hb
    .rw[hbe];exact z
   rw[q] at q';cases q'
   obtain⟨v,hv⟩:=heo
   exact⟨v,by rw[hbe];exact hv⟩
  .refine(ok b u q).stay (fun c v hc r=>k c v ?_ r) (fun c r=>by rw[Qj (nown c b r)];exact r) fun c xs r=>by rw[Qj (Qo1 c xs r)];exact r
   rcases hc with rfl | hc
   .exact hbe
   .rintro rfl
    rcases he with z | z
    .exact nown c b hc z
    .rw[hc] at z;cases z;exact hb rfl
end
structure Un(fs ex:List Addr)(H H':Hp)(h h':Heap):Prop where
 keep:∀b o,h.get? b=some o->H b=none->b∉fs->b∉ex->h'.get? b=some o
 slot:∀b o,h.get? b=some o->H b=none->b∈fs->b∉ex->∃sl,h'.get? b=some { o with slots:=sl }
 free:∀b o,h.get? b=some o->H b=none->b∉ex->H' b=none
 there:∀b o,h.get? b=some o->b∉ex->∃o',h'.get? b=some o'
 tups:∀b xs,H b=some (.tup xs)->H' b=some (.tup xs)
 QiK:∀b o u,H b=some (.yR o u)->H' b=some (.yR o u)
 Qjf:∀b ps,H b=some (.tbl ps)->∃more,H' b=some (.tbl (ps++more))
section
variable {fs fs' ex ex':List Addr}{H H1 H2:Hp}{h h1 h2 h':Heap}{a x e:Addr}{o:HO}
theorem Un.any(u:Un fs ex H H1 h h1){b:Addr}{ob:Obj}(q:h.get? b=some ob)(n:H b=none)(hx:b∉ex):∃sl,h1.get? b=some { ob with slots:=sl }:=by
 by_cases hb:b∈fs
 .exact u.slot b ob q n hb hx
 .exact⟨ob.slots,u.keep b ob q n hb hx⟩
theorem Un.kept(k:∀b u,h.get? b=some u->h'.get? b=some u):Un fs ex H H h h' :=
 ⟨fun b ob q _ _ _=>k b ob q,fun b ob q _ _ _=>⟨ob.slots,k b ob q⟩,fun _ _ _ n _=>n,fun b ob q _=>⟨ob,k b ob q⟩,fun _ _ q=>q,fun _ _ _ q=>q,fun _ ps q=>⟨#[],by rw[q];simp⟩⟩
theorem Un.refl:Un fs ex H H h h:=Un.kept fun _ _ q=>q
theorem Un.laid(k:∀b u,h.get? b=some u->h'.get? b=some u)(hp:h.objs.size<=a)(hn:H a=none):Un fs ex H (upd H a o) h h' where
 keep:=fun b u q _ _ _=>k b u q
 slot:=fun b u q _ _ _=>⟨u.slots,k b u q⟩
 free:=fun b u q n _=>by rw[Qj (zp (zx (qT q) hp))];exact n
 there:=fun b u q _=>⟨u,k b u q⟩
 tups:=fun b xs q=>by rw[Qj (Qd q hn)];exact q
 QiK:=fun b u xs q=>by rw[Qj (Qd q hn)];exact q
 Qjf:=fun b ps q=>⟨#[],by rw[Qj (Qd q hn),q];simp⟩
theorem Un.write(mu:Mut (H x))(he:e=x\/H e=some (.own x))(k:∀b u,b≠e->h.get? b=some u->h'.get? b=some u)(heo:∃u,h'.get? e=some u):Un fs ex H (upd H x o) h h':=by
 have hx:∀b,H b=none->b≠x:=fun b n z=>by subst z;rw[n] at mu;exact mu
 have hb:∀b,H b=none->b≠e:=fun b n z=>by
  subst z
  rcases he with r | r
  .exact hx b n r
  .rw[n] at r;cases r
 have hm:∀b u,H b=some u->¬Mut (some u)->b≠x:=fun b u q nm z=>by subst z;rw[q] at mu;exact nm mu
 refine⟨fun b u q n _ _=>k b u (hb b n) q,fun b u q n _ _=>⟨u.slots,k b u (hb b n) q⟩,fun b u q n _=>by rw[Qj (hx b n)];exact n,fun b u q _=>?_,
  fun b xs q=>by rw[Qj (hm b _ q fun z=>z)];exact q,fun b u xs q=>by rw[Qj (hm b _ q fun z=>z)];exact q,fun b ps q=>⟨#[],by rw[Qj (hm b _ q fun z=>z),q];simp⟩⟩
 by_cases hbe:b=e
 .subst hbe;exact heo
 .exact⟨u,k b u hbe q⟩
end
def trk(h:Heap)(H:Hp):List Addr:=(List.range h.objs.size).filter fun a=>(H a).isSome
def Ku(h:Heap)(H:Hp):Heap:=hideAll h (trk h H)
theorem Qc1(h:Heap)(H:Hp):(Ku h H).objs.size=h.objs.size:=PySem.W.hideAll_size _ _
theorem Qe1{h:Heap}{H:Hp}{b:Addr}{o:Obj}(e:h.get? b=some o)(n:H b=none):(Ku h H).get? b=some o :=
 hideAll_get _ e fun hm=>by
  have q:(H b).isSome=true:=(Qj0.mp hm).2
  rw[n] at q;simp at q
theorem Qgl{h:Heap}{H:Hp}{b:Addr}{o:Obj}(e:(Ku h H).get? b=some o):h.get? b=some o/\H b=none:=by
 have e':h.get? b=some o:=of_hideAll (trk h H) e
 refine⟨e',?_⟩
 cases q:H b with
 | none=>rfl
 | some x =>
   have hm:b∈trk h H:=Qj0.mpr ⟨jK.mpr (qT e'),by simp[q]⟩
   have z:(Ku h H).get? b=none:=PySem.W.hideAll_none (trk h H) hm
   rw[z] at e;cases e
end L2
namespace L2
open PySem PySem.Spec PyProof.Rows
structure Mod(K:Frag)(mg:Str->Option Value)(base:Heap):Prop where
 kin:K.In base
 glob:base.Ns mainGlobals mg
 blt:∃mb,base.Ns builtinsNs mb/\∀x:Str,x≠"__name__"->mb x=bootBuiltins x
 nolimit:base.NoLimit
structure Cx where
 prog:Program
 w:World
 K:Frag
 mg:Str->Option Value
 base:Heap
 A:Around
 N:QpK
 s₀:Shared
 H₀:Hp
 env:Env
 outer:List Env
 stack:List Env
 ex:List Addr
 fn:Str->Bool
 calm:Bool
 pn:List (Addr×Obj)
 xe:QpL
def frs(l:List Env):List Addr:=l.filterMap (·.frame)
abbrev Cx.fs(X:Cx):List Addr:=frs X.outer
def Vis(sc:Scope)(x:Str):Prop:=sc.names.lookup x=some .local\/sc.names.lookup x=some .cell\/sc.names.lookup x=some .free
def Loc(sc:Scope)(x:Str):Prop:=sc.names.lookup x=some .local\/sc.names.lookup x=some .cell
def Look(env:Env)(h:Heap)(m:Str->Option Value)(x:Str)(u:Value):Prop :=
 (env.kindOf x=some .local/\m x=some u)\/((env.kindOf x=some .cell\/env.kindOf x=some .free)/\∃c,env.cells.lookup x=some c/\h.IsCell c (some u))
structure Cx.Ok(X:Cx):Prop where
 mod:Mod X.K X.mg X.base
 kind:X.env.scope.kind=.function
 glob:X.env.globals=mainGlobals
 blt:X.env.builtins=builtinsNs
 above:X.s₀.heap.objs.size<=X.env.locals
 inj:∀x y c,X.env.cells.lookup x=some c->X.env.cells.lookup y=some c->x=y
 has:∀x,(X.env.kindOf x=some .cell\/X.env.kindOf x=some .free)->∃c,X.env.cells.lookup x=some c
 cab:∀x c,X.fn x=true->X.env.cells.lookup x=some c->X.s₀.heap.objs.size<=c
 hd:X.calm=true->X.A.handled=none
 frames:X.A.frames=some X.stack
 stk:X.stack=X.outer\/(X.stack=X.env :: X.outer/\X.env.frame=some X.env.locals)
 exf:∀b∈X.ex,b≠X.env.locals/\∀x c,X.env.cells.lookup x=some c->c≠b
 bs:∀b o,X.base.get? b=some o->X.s₀.heap.get? b=some o/\X.H₀ b=none
 bsz:X.base.objs.size<=X.s₀.heap.objs.size
 QkX:∀b o,X.base.get? b=some o->b∉X.ex
 Qk6:∀b∈X.ex,b∉X.fs
 Qf3:X.s₀.heap.FunFrames X.base X.outer
 frf:∀b∈X.fs,X.H₀ b=none
structure Inv(X:Cx)(pins:List (Addr×Obj))(σ:List (Option V))(H:Hp)(s:Shared):Prop where
 ok:X.Ok
 os:s.os=X.s₀.os
 bare:AllBare s.gens
 base:Un X.fs X.ex X.H₀ H X.s₀.heap s.heap
 loc:∃m,s.heap.Ns X.env.locals m/\∀(i:Nat)(x:Str)(v:V),X.N[i]?=some x->σ[i]?=some (some v)->Vis X.env.scope x->∃u,QC v u/\Look X.env s.heap m x u
 cell:∀x c,X.env.cells.lookup x=some c->∃v,s.heap.IsCell c v
 free:H X.env.locals=none
 vU:∀x c,X.env.cells.lookup x=some c->H c=none
 pin:∀p∈X.pn++pins,s.heap.get? p.1=some p.2/\H p.1=none/\p.1≠X.env.locals/\p.1∉X.fs/\∀v,p.2.data≠.cell v
 hok:gq X.prog X.w H s.heap
 len:σ.length=X.N.length
section
variable {X:Cx}{pins:List (Addr×Obj)}{σ:List (Option V)}{H H':Hp}{s:Shared}{h':Heap}
theorem Cx.Ok.nofr(ok:X.Ok){b:Addr}{o:Obj}(e:X.base.get? b=some o):b∉X.fs:=fun hb=>by
 have:=(ok.Qf3.mem hb).1
 rw[e] at this;cases this
theorem Inv.bs(I:Inv X pins σ H s):∀b o,X.base.get? b=some o->s.heap.get? b=some o/\H b=none:=fun b o e =>
 ⟨I.base.keep b o (I.ok.bs b o e).1 (I.ok.bs b o e).2 (I.ok.nofr e) (I.ok.QkX b o e),I.base.free b o (I.ok.bs b o e).1 (I.ok.bs b o e).2 (I.ok.QkX b o e)⟩
theorem Inv.bk(I:Inv X pins σ H s):∀b o,X.base.get? b=some o->s.heap.get? b=some o:=fun b o e=>(I.bs b o e).1
theorem Inv.mod(I:Inv X pins σ H s):Mod X.K X.mg X.base:=I.ok.mod
theorem Inv.uM(I:Inv X pins σ H s):X.K.In s.heap:=I.ok.mod.kin.keeps I.bk
theorem Inv.lt(I:Inv X pins σ H s):X.env.locals<s.heap.objs.size:=let ⟨_,hn,_⟩:=I.loc;hn.lt
theorem Inv.sz(I:Inv X pins σ H s):X.s₀.heap.objs.size<=s.heap.objs.size:=zf I.ok.above (Nat.le_of_lt I.lt)
theorem Inv.nofs(I:Inv X pins σ H s){a:Addr}(h:s.heap.objs.size<=a):a∉X.fs:=fun hb=>by
 obtain⟨_,o,ho,_⟩:=I.ok.Qf3.mem hb
 exact absurd (zx (qT ho) (zf I.sz h)) (jT _)
theorem Inv.cne(I:Inv X pins σ H s):∀x c,X.env.cells.lookup x=some c->c≠X.env.locals:=fun x c e z=>by
 obtain⟨v,o,ho,hd⟩:=I.cell x c e
 obtain⟨m,⟨o',es,ep,ho',hd',_⟩,_⟩:=I.loc
 rw[z,ho'] at ho;cases ho;rw[hd'] at hd;cases hd
theorem Inv.Qf3(I:Inv X pins σ H s):s.heap.FunFrames X.base X.outer:=by
 have all:∀(l:List Env),(∀b∈frs l,b∈X.fs)->X.s₀.heap.FunFrames X.base l->s.heap.FunFrames X.base l:=by
  intro l
  induction l with
  | nil=>intro _ _;trivial
  | cons env r ih =>
    intro hs hl
    obtain⟨hk,⟨L,o,hf,hn,ho,hd⟩,hr⟩:=hl
    have hL:L∈X.fs:=hs L (by unfold frs;rw[vW,hf];exact qI)
    obtain⟨sl,e⟩:=I.base.slot L o ho (I.ok.frf L hL) hL fun z=>I.ok.Qk6 L z hL
    exact⟨hk,⟨L,_,hf,hn,e,hd⟩,ih (fun b hb=>hs b (by unfold frs;rw[vW,hf];exact qu _ hb)) hr⟩
 exact all X.outer (fun _ hb=>hb) I.ok.Qf3
theorem Inv.stack(I:Inv X pins σ H s):s.heap.FunFrames X.base X.stack:=by
 rcases I.ok.stk with e | ⟨e,hf⟩
 .rw[e];exact I.Qf3
 .rw[e]
  obtain⟨m,hn,_⟩:=I.loc
  refine .cons (by rw[I.ok.kind];decide) hf hn ?_ I.Qf3
  exact Heap.get?_none_of_le (zf I.ok.bsz I.ok.above)
theorem Inv.Qkg(I:Inv X pins σ H s):∀b∈frs X.stack,b∈X.env.locals :: X.fs:=fun b hb=>by
 rcases I.ok.stk with e | ⟨e,hf⟩
 .rw[e] at hb;exact qu _ hb
 .rw[e] at hb
  unfold frs at hb
  rw[vW,hf] at hb
  exact hb
theorem Inv.Qkh(I:Inv X pins σ H s):∀b∈frs X.stack,H b=none:=fun b hb=>by
 rcases qR.mp (I.Qkg b hb) with e | hb
 .rw[e];exact I.free
 .obtain⟨_,o,ho,_⟩:=I.ok.Qf3.mem hb
  exact I.base.free b o ho (I.ok.frf b hb) fun z=>I.ok.Qk6 b z hb
theorem Inv.step{g':Array GenState}{t':Nat}{d':Drawn}{ch:List Addr}(I:Inv X pins σ H s)
 (hch:∀b∈ch,(b∈X.ex\/X.s₀.heap.objs.size<=b)/\b≠X.env.locals/\(∀x c,X.env.cells.lookup x=some c->c≠b)/\∀p∈X.pn++pins,p.1≠b)
 (keep:∀b o,b≠X.env.locals->b∉X.fs->b∉ch->s.heap.get? b=some o->H b=none->h'.get? b=some o)
 (slot:∀b o,b≠X.env.locals->b∈X.fs->b∉ch->s.heap.get? b=some o->H b=none->∃sl,h'.get? b=some { o with slots:=sl }) (free:∀b o,b∉ch->s.heap.get? b=some o->H b=none->H' b=none)
 (there:∀b o,b∉ch->s.heap.get? b=some o->∃o',h'.get? b=some o')
 (tups:∀b xs,H b=some (.tup xs)->H' b=some (.tup xs)) (QiK:∀b o u,H b=some (.yR o u)->H' b=some (.yR o u)) (Qjf:∀b ps,H b=some (.tbl ps)->∃more,H' b=some (.tbl (ps++more)))
 (ns:∀m,s.heap.Ns X.env.locals m->h'.Ns X.env.locals m) (hok:gq X.prog X.w H' h') (hg:AllBare g') :
 Inv X pins σ H' { s with heap:=h',gens:=g',drawn:=d',toks:=t' }:=by
 have neL:∀b o,X.s₀.heap.get? b=some o->b≠X.env.locals:=fun b o e=>zp (zx (qT e) I.ok.above)
 have neC:∀b o,X.s₀.heap.get? b=some o->b∉X.ex->b∉ch:=fun b o e hx hb=>by
  rcases (hch b hb).1 with z | z
  .exact hx z
  .exact absurd (zx (qT e) z) (jT _)
 have cellK:∀x c,X.env.cells.lookup x=some c->∀v,s.heap.IsCell c v->h'.IsCell c v:=fun x c e v ⟨o,ho,hd⟩=>by
  have nch:c∉ch:=fun z=>(hch c z).2.2.1 x c e rfl
  by_cases hc:c∈X.fs
  .obtain⟨sl,q⟩:=slot c o (I.cne x c e) hc nch ho (I.vU x c e)
   exact⟨_,q,hd⟩
  .exact⟨o,keep c o (I.cne x c e) hc nch ho (I.vU x c e),hd⟩
 refine⟨I.ok,I.os,hg,⟨fun b o e n hb hx=>?_,fun b o e n hb hx=>?_,fun b o e n hx=>?_,fun b o e hx=>?_,fun b xs e=>tups b xs (I.base.tups b xs e),fun b o xs e=>QiK b o xs (I.base.QiK b o xs e),fun b ps e=>?_⟩,?_,fun x c e=>?_,?_,fun x c e=>?_,fun p hp=>?_,hok,I.len⟩
 .exact keep b o (neL b o e) hb (neC b o e hx) (I.base.keep b o e n hb hx) (I.base.free b o e n hx)
 .obtain⟨sl,e1⟩:=I.base.slot b o e n hb hx
  obtain⟨sl',e2⟩:=slot b _ (neL b o e) hb (neC b o e hx) e1 (I.base.free b o e n hx)
  exact⟨sl',e2⟩
 .obtain⟨o',e1⟩:=I.base.there b o e hx
  exact free b o' (neC b o e hx) e1 (I.base.free b o e n hx)
 .obtain⟨o',e1⟩:=I.base.there b o e hx
  exact there b o' (neC b o e hx) e1
 .obtain⟨m1,e1⟩:=I.base.Qjf b ps e
  obtain⟨m2,e2⟩:=Qjf b _ e1
  exact⟨m1++m2,by rw[e2,Array.append_assoc]⟩
 .obtain⟨m,hn,hl⟩:=I.loc
  refine⟨m,ns m hn,fun i x v e1 e2 e3=>?_⟩
  obtain⟨u,r,l⟩:=hl i x v e1 e2 e3
  refine⟨u,r,?_⟩
  rcases l with l | ⟨k,c,e,z⟩
  .exact .inl l
  .exact .inr ⟨k,c,e,cellK x c e _ z⟩
 .obtain⟨v,z⟩:=I.cell x c e
  exact⟨v,cellK x c e v z⟩
 .obtain⟨m,⟨o,_,_,ho,_⟩,_⟩:=I.loc
  exact free _ o (fun z=>(hch _ z).2.1 rfl) ho I.free
 .obtain⟨v,o,ho,hd⟩:=I.cell x c e
  exact free c o (fun z=>(hch c z).2.2.1 x c e rfl) ho (I.vU x c e)
 .obtain⟨e,n,ne,nf,d⟩:=I.pin p hp
  have nch:p.1∉ch:=fun z=>(hch p.1 z).2.2.2 p hp rfl
  exact⟨keep p.1 p.2 ne nf nch e n,free p.1 p.2 nch e n,ne,nf,d⟩
theorem Inv.un{t':Nat}(I:Inv X pins σ H s)(u:Un X.fs [] H H' s.heap h')(hok:gq X.prog X.w H' h'):Inv X pins σ H' { s with heap:=h',toks:=t' }:=by
 obtain⟨m,⟨o,es,ep,ho,r⟩,_⟩:=id I.loc
 obtain⟨sl,hL⟩:=u.any ho I.free (by simp)
 exact I.step (g':=s.gens) (d':=s.drawn) (ch:=[]) (fun _ z=>nomatch z) (fun b o _ hb _ e n=>u.keep b o e n hb (by simp)) (fun b o _ hb _ e n=>u.slot b o e n hb (by simp)) (fun b o _ e n=>u.free b o e n (by simp)) (fun b o _ e=>u.there b o e (by simp)) u.tups u.QiK u.Qjf (fun m' hm=>by
  obtain⟨o',es',ep',ho',r'⟩:=hm
  rw[ho] at ho';cases ho'
  exact⟨_,es',ep',hL,r'⟩) hok I.bare
theorem Inv.call{g':Array GenState}{t':Nat}{d':Drawn}{ch:List Addr}(I:Inv X pins σ H s)(u:Un (frs X.stack) ch H H' s.heap h')(hok:gq X.prog X.w H' h')(hg:AllBare g')
 (hch:∀b∈ch,(b∈X.ex\/X.s₀.heap.objs.size<=b)/\b≠X.env.locals/\(∀x c,X.env.cells.lookup x=some c->c≠b)/\∀p∈X.pn++pins,p.1≠b) :
 Inv X pins σ H' { s with heap:=h',gens:=g',drawn:=d',toks:=t' }:=by
 obtain⟨m,⟨o,es,ep,ho,r⟩,_⟩:=id I.loc
 obtain⟨sl,hL⟩:=u.any ho I.free fun z=>(hch _ z).2.1 rfl
 exact I.step (ch:=ch) hch (fun b o hL hb hc e n=>u.keep b o e n (fun z=>(qR.mp (I.Qkg b z)).elim hL hb) hc) (fun b o _ _ hc e n=>u.any e n hc) (fun b o hc e n=>u.free b o e n hc) (fun b o hc e=>u.there b o e hc) u.tups u.QiK u.Qjf (fun m' hm=>by
  obtain⟨o',es',ep',ho',r'⟩:=hm
  rw[ho] at ho';cases ho'
  exact⟨_,es',ep',hL,r'⟩) hok hg
theorem Inv.turned{t':Nat}{it:Addr}(I:Inv X pins σ H s)(k:∀b o,b≠it->s.heap.get? b=some o->h'.get? b=some o)(hn:H it=none)(hL:it≠X.env.locals)
 (h1:it∈X.ex\/X.s₀.heap.objs.size<=it) (h2:∀x c,X.env.cells.lookup x=some c->c≠it) (h3:∀p∈X.pn++pins,p.1≠it):Inv X pins σ H { s with heap:=h',toks:=t' }:=by
 have nit:∀b u,H b=some u->b≠it:=fun b u e z=>by rw[z,hn] at e;cases e
 refine I.step (g':=s.gens) (d':=s.drawn) (ch:=[it]) (fun b hb=>?_) (fun b o _ _ hc e _=>k b o (fun z=>hc (by simp[z])) e) (fun b o _ _ hc e _=>⟨o.slots,k b o (fun z=>hc (by simp[z])) e⟩) (fun _ _ _ _ n=>n)
  (fun b o hc e=>⟨o,k b o (fun z=>hc (by simp[z])) e⟩) (fun _ _ e=>e) (fun _ _ _ e=>e) (fun b ps e=>⟨#[],by rw[e];simp⟩) (fun m hm=>?_) (fun b u e=>?_) I.bare
 .have e:b=it:=by simpa using hb
  subst e
  exact⟨h1,hL,h2,h3⟩
 .obtain⟨o,es,ep,ho,r⟩:=hm
  exact⟨o,es,ep,k _ o (gC hL) ho,r⟩
 .refine(I.hok b u e).stay (fun c v hc q=>k c v ?_ q) (fun _ q=>q) fun _ _ q=>q
  rcases hc with z | z
  .rw[z];exact nit b u e
  .exact nit c _ z
theorem Inv.tok(I:Inv X pins σ H s)(t:Nat):Inv X pins σ H { s with toks:=t }:=I.un (h':=s.heap) (t':=t) Un.refl I.hok
theorem Inv.kept{t':Nat}(I:Inv X pins σ H s)(k:∀b u,s.heap.get? b=some u->h'.get? b=some u):Inv X pins σ H { s with heap:=h',toks:=t' }:=I.un (Un.kept k) (I.hok.kept k)
theorem Inv.laid{a:Addr}{o:HO}{t':Nat}(I:Inv X pins σ H s)(k:∀b u,s.heap.get? b=some u->h'.get? b=some u)(hp:s.heap.objs.size<=a)(new:QG X.prog X.w (upd H a o) h' a o) :
 Inv X pins σ (upd H a o) { s with heap:=h',toks:=t' }:=I.un (Un.laid k hp (I.hok.fresh hp)) (I.hok.laid k hp new)
theorem Inv.write{x e:Addr}{o:HO}{t':Nat}(I:Inv X pins σ H s)(mu:Mut (H x))(he:e=x\/H e=some (.own x))(k:∀b u,b≠e->s.heap.get? b=some u->h'.get? b=some u)(heo:∃u,h'.get? e=some u)
 (new:QG X.prog X.w (upd H x o) h' x o):Inv X pins σ (upd H x o) { s with heap:=h',toks:=t' }:=I.un (Un.write mu he k heo) (I.hok.write mu he k heo new)
theorem Inv.uT{QiU:List (Addr×Obj)}(I:Inv X pins σ H s)(h:∀p∈QiU,s.heap.get? p.1=some p.2/\H p.1=none/\p.1≠X.env.locals/\p.1∉X.fs/\∀v,p.2.data≠.cell v):Inv X QiU σ H s :=
 ⟨I.ok,I.os,I.bare,I.base,I.loc,I.cell,I.free,I.vU,fun p hp=>(qF.mp hp).elim (fun z=>I.pin p (zA _ z)) (h p),I.hok,I.len⟩
theorem Gq{N:QpK}(hN:N.Nodup){i j:Nat}{x:Str}(a:N[i]?=some x)(b:N[j]?=some x):i=j:=by
 obtain⟨h1,e1⟩:=qi.mp a
 obtain⟨h2,e2⟩:=qi.mp b
 exact(List.getElem_inj hN).mp (e1.trans e2.symm)
theorem Xd{M:Model}{A:Around}{E:QpL}{i:Nat}{x:Str}{v:V}{u:Value}{Q:Unit->Shared->Prop}(I:Inv X pins σ H s)(hN:X.N.Nodup)(hi:X.N[i]?=some x)(hx:Loc X.env.scope x)(r:QC v u)
 (h:∀s',Inv X pins (σ.set i (some v)) H s'->(∃a,Heap.SameBut a s.heap s'.heap/\(a=X.env.locals\/X.env.cells.lookup x=some a))->Q () s') (hf:X.fn x=true\/X.env.scope.names.lookup x=some .local:=by first | exact .inl rfl | exact .inr rfl | assumption):wpAny M A (storeName X.env x u) Q E s:=by
 obtain⟨m,hn,hl⟩:=id I.loc
 have hcls:(X.env.scope.kind == .class || (X.env.scope.kind == .module && X.env.locals != X.env.globals))=false:=by rw[I.ok.kind];rfl
 have hiσ:i<σ.length:=by rw[I.len];exact(qi.mp hi).1
 have cne:=I.cne
 have tracked:∀{a:Addr}{h':Heap},(∃o,s.heap.get? a=some o/\H a=none)->Heap.SameBut a s.heap h'->gq X.prog X.w H h':=fun{a h'} ha hs b ob e=>by
  obtain⟨_,_,hfree⟩:=ha
  refine(I.hok b ob e).stay (fun c w' hc q=>(hs.2 c ?_).trans q) (fun _ q=>q) fun _ _ q=>q
  rintro rfl
  rcases hc with rfl | hc
  .rw[hfree] at e;cases e
  .rw[hfree] at hc;cases hc
 rcases hx with hk | hk
 .refine wpAny_storeName_local hk hn (fun h' hn' hs=>?_) hcls
  obtain⟨oL,_,_,hoL,_⟩:=id hn
  refine h _ ⟨I.ok,I.os,I.bare,⟨fun b o e n hb hx=>?_,fun b o e n hb hx=>?_,I.base.free,fun b o e hx=>?_,I.base.tups,I.base.QiK,I.base.Qjf⟩,⟨_,hn',fun j y v' e1 e2 e3=>?_⟩,fun y c e=>?_,I.free,I.vU,fun p hp=>?_,tracked ⟨oL,hoL,I.free⟩ hs,by simpa using I.len⟩ ⟨_,hs,.inl rfl⟩
  .exact(hs.2 b (zp (zx (qT e) I.ok.above))).trans (I.base.keep b o e n hb hx)
  .obtain⟨sl,e1⟩:=I.base.slot b o e n hb hx
   exact⟨sl,(hs.2 b (zp (zx (qT e) I.ok.above))).trans e1⟩
  .obtain⟨o',e1⟩:=I.base.there b o e hx
   exact⟨o',(hs.2 b (zp (zx (qT e) I.ok.above))).trans e1⟩
  .by_cases hj:j=i
   .subst hj
    rw[hi] at e1;cases e1
    rw[QjG hiσ] at e2
    cases e2
    exact⟨u,r,.inl ⟨hk,by simp⟩⟩
   .rw[List.getElem?_set_ne (gC hj)] at e2
    obtain⟨u',r',q⟩:=hl j y v' e1 e2 e3
    refine⟨u',r',?_⟩
    rcases q with⟨k,e⟩ | ⟨k,c,e,z⟩
    .refine .inl ⟨k,?_⟩
     have:y≠x:=fun e=>hj (Gq hN e1 (e▸hi))
     simp[this,e]
    .exact .inr ⟨k,c,e,z.sameBut hs (cne y c e)⟩
  .obtain⟨w',z⟩:=I.cell y c e
   exact⟨w',z.sameBut hs (cne y c e)⟩
  .obtain⟨e,n,ne,nf,d⟩:=I.pin p hp
   exact⟨(hs.2 p.1 ne).trans e,n,ne,nf,d⟩
 .have hfn:X.fn x=true:=by
   rcases hf with z | z
   .exact z
   .rw[z] at hk;cases hk
  obtain⟨c,hc⟩:=I.ok.has x (.inl hk)
  obtain⟨w',z⟩:=I.cell x c hc
  refine wpAny_storeName_cell I.ok.kind hk hc z (fun h' hc' hs=>?_)
  obtain⟨oc,hoc,hocd⟩:=id z
  refine h { s with heap:=h' } ⟨I.ok,I.os,I.bare,⟨fun b o e n hb hx=>?_,fun b o e n hb hx=>?_,I.base.free,fun b o e hx=>?_,I.base.tups,I.base.QiK,I.base.Qjf⟩,⟨m,hn.sameBut hs (gC (cne x c hc)),fun j y v' e1 e2 e3=>?_⟩,fun y c' e=>?_,I.free,I.vU,fun p hp=>?_,tracked ⟨oc,hoc,I.vU x c hc⟩ hs,by simpa using I.len⟩ ⟨c,hs,.inr hc⟩
  .exact(hs.2 b (zp (zx (qT e) (I.ok.cab x c hfn hc)))).trans (I.base.keep b o e n hb hx)
  .obtain⟨sl,e1⟩:=I.base.slot b o e n hb hx
   exact⟨sl,(hs.2 b (zp (zx (qT e) (I.ok.cab x c hfn hc)))).trans e1⟩
  .obtain⟨o',e1⟩:=I.base.there b o e hx
   exact⟨o',(hs.2 b (zp (zx (qT e) (I.ok.cab x c hfn hc)))).trans e1⟩
  .by_cases hj:j=i
   .subst hj
    rw[hi] at e1;cases e1
    rw[QjG hiσ] at e2
    cases e2
    exact⟨u,r,.inr ⟨.inl hk,c,hc,hc'⟩⟩
   .rw[List.getElem?_set_ne (gC hj)] at e2
    obtain⟨u',r',q⟩:=hl j y v' e1 e2 e3
    refine⟨u',r',?_⟩
    rcases q with q | ⟨k,c',e,z'⟩
    .exact .inl q
    .refine .inr ⟨k,c',e,z'.sameBut hs ?_⟩
     rintro rfl
     exact hj (Gq hN e1 (I.ok.inj _ _ _ e hc▸hi))
  .by_cases hcc:c'=c
   .subst hcc;exact⟨_,hc'⟩
   .obtain⟨w2,z2⟩:=I.cell y c' e
    exact⟨w2,z2.sameBut hs hcc⟩
  .obtain⟨e,n,ne,nf,d⟩:=I.pin p hp
   refine⟨(hs.2 p.1 ?_).trans e,n,ne,nf,d⟩
   intro q
   rw[q,hoc] at e
   have q':oc=p.2:=zg e
   exact d w' (by rw[<-q'];exact hocd)
theorem KY{M:Model}{A:Around}{E:QpL}{i:Nat}{x:Str}{v:V}{u:Value}{Q:Unit->Shared->Prop}(I:Inv X pins σ H s)(hN:X.N.Nodup)(hi:X.N[i]?=some x)(hx:Loc X.env.scope x)(r:QC v u)
 (h:∀s',Inv X pins (σ.set i (some v)) H s'->Q () s') (hf:X.fn x=true\/X.env.scope.names.lookup x=some .local:=by first | exact .inl rfl | exact .inr rfl | assumption):wpAny M A (storeName X.env x u) Q E s :=
 Xd I hN hi hx r (fun s' I' _=>h s' I') hf
theorem Inv.call'{s':Shared}{ch:List Addr}(I:Inv X pins σ H s)(ho:s'.os=s.os)(u:Un (frs X.stack) ch H H' s.heap s'.heap)(hok:gq X.prog X.w H' s'.heap)(hg:AllBare s'.gens)
 (hch:∀b∈ch,(b∈X.ex\/X.s₀.heap.objs.size<=b)/\b≠X.env.locals/\(∀x c,X.env.cells.lookup x=some c->c≠b)/\∀p∈X.pn++pins,p.1≠b):Inv X pins σ H' s':=by
 obtain⟨h',g',d',t',o'⟩:=s'
 have e:o'=s.os:=ho
 subst e
 exact I.call (g':=g') (t':=t') (d':=d') u hok hg hch
end
abbrev XK:=Value->Option Addr->Hp->Prop
abbrev St:=List (Option V)
abbrev VK:=V->Hp->Prop
abbrev TE:=St->Hp->VK->Prop
abbrev TT:=St->Hp->(Bool->Hp->Prop)->Prop
abbrev TA:=St->Hp->(List V->Hp->Prop)->Prop
structure JV where
 nx:St->Hp->Prop
 rt:VK
 bk:St->Hp->Prop:=fun _ _=>False
 ct:St->Hp->Prop:=fun _ _=>False
abbrev TS:=JV->St->Hp->Prop
inductive EP(X:Cx)(pins:List (Addr×Obj))(σ:St)(Q:VK)(u:Value)(s':Shared):Prop
 | mk:∀v H',Inv X pins σ H' s'->QC v u->Q v H'->EP X pins σ Q u s'
inductive TP(X:Cx)(pins:List (Addr×Obj))(σ:St)(Q:Bool->Hp->Prop)(b:Bool)(s':Shared):Prop
 | mk:∀H',Inv X pins σ H' s'->Q b H'->TP X pins σ Q b s'
inductive AP(X:Cx)(pins:List (Addr×Obj))(σ:St)(Q:List V->Hp->Prop)(us:QpM)(s':Shared):Prop
 | mk:∀vs H',Inv X pins σ H' s'->Qx vs us->Q vs H'->AP X pins σ Q us s'
inductive SPn(X:Cx)(pins:List (Addr×Obj))(N:St->Hp->Prop)(s':Shared):Prop
 | mk:∀σ' H',Inv X pins σ' H' s'->N σ' H'->SPn X pins N s'
inductive SPr(X:Cx)(pins:List (Addr×Obj))(N:VK)(u:Value)(s':Shared):Prop
 | mk:∀v σ' H',Inv X pins σ' H' s'->QC v u->N v H'->SPr X pins N u s'
def SP(X:Cx)(pins:List (Addr×Obj))(D:JV)(f:Flow)(s':Shared):Prop :=
 match f with
 | .next=>SPn X pins D.nx s'
 | .brk=>SPn X pins D.bk s'
 | .cont=>SPn X pins D.ct s'
 | .ret u=>SPr X pins D.rt u s'
def PE(X:Cx)(e:Expr)(t:TE):Prop :=
 ∀(pins:List (Addr×Obj))(s:Shared)(σ:St)(H:Hp)(Q:VK),Inv X pins σ H s->t σ H Q->wpAny (model X.prog X.w) X.A (eval e X.env) (EP X pins σ Q) X.xe s
def PT(X:Cx)(e:Expr)(t:TT):Prop :=
 ∀(pins:List (Addr×Obj))(s:Shared)(σ:St)(H:Hp)(Q:Bool->Hp->Prop),Inv X pins σ H s->t σ H Q->wpAny (model X.prog X.w) X.A (isTrue e X.env (eval e X.env)) (TP X pins σ Q) X.xe s
def PW(X:Cx)(e:Expr)(t:TT):Prop :=
 ∀(whole:Sem Value)(pins:List (Addr×Obj))(s:Shared)(σ:St)(H:Hp)(Q:Bool->Hp->Prop),Inv X pins σ H s->t σ H Q->wpAny (model X.prog X.w) X.A (isTrue e X.env whole) (TP X pins σ Q) X.xe s
theorem PW.pt{X:Cx}{e:Expr}{t:TT}(h:PW X e t):PT X e t:=h _
def PA(X:Cx)(es:List Expr)(t:TA):Prop :=
 ∀(pos:Pos)(pins:List (Addr×Obj))(s:Shared)(σ:St)(H:Hp)(Q:List V->Hp->Prop),Inv X pins σ H s->t σ H Q->wpAny (model X.prog X.w) X.A (spliced (backTo pos (starEach es X.env))) (AP X pins σ Q) X.xe s
def PS(X:Cx)(st:Stmt)(t:TS):Prop :=
 ∀(pins:List (Addr×Obj))(s:Shared)(σ:St)(H:Hp)(D:JV),Inv X pins σ H s->t D σ H->wpAny (model X.prog X.w) X.A (exec st X.env) (SP X pins D) X.xe s
def PSs(X:Cx)(st:List Stmt)(t:TS):Prop :=
 ∀(pins:List (Addr×Obj))(s:Shared)(σ:St)(H:Hp)(D:JV),Inv X pins σ H s->t D σ H->wpAny (model X.prog X.w) X.A (execs st X.env) (SP X pins D) X.xe s
theorem j0{α:Type}{t:Sem α}{Q Q':α->Shared->Prop}{M:Model}{A:Around}{E:QpL}{s:Shared}(h:wpAny M A t Q E s)(hQ:∀a s,Q a s->Q' a s):wpAny M A t Q' E s:=jM h hQ fun _ _ x=>x
end L2
namespace L2
open PySem PySem.Spec PyProof.Rows
section
variable {X:Cx}
inductive Qdu(i:Nat)(σ:St)(H:Hp)(Q:VK):Prop
 | mk:∀v,σ[i]?=some (some v)->Q v H->Qdu i σ H Q
def Qam(i:Nat):TE:=fun σ H Q=>Qdu i σ H Q
def tC(v:V):TE:=fun _ H Q=>Q v H
theorem QhO{i:Nat}{x:Str}{pos:Pos}(hN:X.N[i]?=some x)(hv:Vis X.env.scope x)(hd:(x == ("__debug__":Str))=false:=by decide)(hcd:(x == ("__classdict__":Str))=false:=by decide):PE X (.Name x pos) (Qam i):=by
 intro pins s σ H Q I h
 obtain⟨v,e,h⟩:=h
 obtain⟨m,hn,hl⟩:=I.loc
 obtain⟨u,r,l⟩:=hl i x v hN e hv
 have fin:EP X pins σ Q u s:=⟨v,H,I,r,h⟩
 rcases l with⟨hk,hm⟩ | ⟨hk,c,hc,hcell⟩
 .exact wpAny_Name (wpAny_loadName_local I.ok.kind hk hn hm fin) hd
 .rcases hk with hk | hk
  .exact wpAny_Name (wpAny_loadName_cell I.ok.kind hk hc hcell fin) hd
  .exact wpAny_Name (wpAny_loadName_free I.ok.kind hk hc hcell fin hcd) hd
theorem Qb{i j pos}:PE X (.Constant (.int i) j pos) (tC (.int i)):=fun _ _ _ H _ I h=>wpAny_Constant_int ⟨.int i,H,I.tok _,⟨_,rfl⟩,h⟩
theorem ZW{b j pos}:PE X (.Constant (.bool b) j pos) (tC (.bl b)):=fun _ _ _ H _ I h=>Constant_bool ⟨.bl b,H,I,rfl,h⟩
theorem Ke{j pos}:PE X (.Constant .none j pos) (tC .non):=fun _ _ _ H _ I h=>Constant_none ⟨.non,H,I,rfl,h⟩
theorem QB{x j pos}:PE X (.Constant (.str x) j pos) (tC (.str x)):=fun _ _ _ H _ I h=>Calls.Constant_str ⟨.str x,H,I.tok _,⟨_,rfl⟩,h⟩
def Gl(X:Cx)(x:Str):Prop:=X.env.kindOf x=some .globalImplicit
theorem Jn{E:QpL}{pins:List (Addr×Obj)}{s:Shared}{σ:St}{H:Hp}{x:Str}{u:Value}{pos:Pos}{Q:QpL}(I:Inv X pins σ H s)(hg:Gl X x)(hm:X.mg x=some u)(h:Q u s)
 (hd:(x == ("__debug__":Str))=false:=by decide):wpAny (model X.prog X.w) X.A (eval (.Name x pos) X.env) Q E s :=
 Qi8 I.ok.kind hg (Calls.loadGlobal_global (by rw[I.ok.glob];exact I.mod.glob.keeps I.bk) hm h) hd
theorem Yr{E:QpL}{pins:List (Addr×Obj)}{s:Shared}{σ:St}{H:Hp}{x:Str}{u:Value}{pos:Pos}{Q:QpL}(I:Inv X pins σ H s)(hg:Gl X x)(hm:X.mg x=none)(hv:bootBuiltins x=some u)(h:Q u s)
 (hn:x≠"__name__":=by decide) (hd:(x == ("__debug__":Str))=false:=by decide):wpAny (model X.prog X.w) X.A (eval (.Name x pos) X.env) Q E s:=by
 obtain⟨mb,h1,h2⟩:=I.mod.blt
 exact Qi8 I.ok.kind hg (Calls.loadGlobal_builtin (by rw[I.ok.glob];exact I.mod.glob.keeps I.bk) hm (by rw[I.ok.blt];exact h1.keeps I.bk) ((h2 x hn).trans hv) h) hd
theorem Qgd{x:Str}{v:V}{u:Value}{pos:Pos}(hg:Gl X x)(hm:X.mg x=some u)(r:QC v u)(hd:(x == ("__debug__":Str))=false:=by decide):PE X (.Name x pos) (tC v) :=
 fun _ _ _ H _ I h=>Jn I hg hm ⟨v,H,I,r,h⟩ hd
theorem Ze{x:Str}{v:V}{u:Value}{pos:Pos}(hg:Gl X x)(hm:X.mg x=none)(hv:bootBuiltins x=some u)(r:QC v u)(hn:x≠"__name__":=by decide)(hd:(x == ("__debug__":Str))=false:=by decide):PE X (.Name x pos) (tC v) :=
 fun _ _ _ H _ I h=>Yr I hg hm hv ⟨v,H,I,r,h⟩ hn hd
variable {a b:Expr}{ta tb:TE}{pos:Pos}
inductive tB_I(Q:(Bool->Hp->Prop))(x:V)(H1:Hp):Prop
 | mk:∀c,x=.bl c->Q c H1->tB_I Q x H1
def tB(t:TE):TT:=fun σ H Q=>t σ H fun x H1=>tB_I Q x H1
theorem Za{e:Expr}{t:TE}(h:PE X e t)(he:∀whole,isTrue e X.env whole=(do let v <-whole;standAt e.pos;holding [v] (truthy v)):=by intro _;rfl):PT X e (tB t):=by
 intro pins s σ H Q I hw
 refine isTrue_plain (j0 (h pins s σ H _ I hw) fun v s1 ⟨x,H1,I1,r1,q1⟩=>?_) (he _)
 obtain⟨d,rfl,q⟩:=q1
 cases r1
 exact jz ⟨H1,I1,q⟩
variable {tA tB':TT}{rest:List Expr}
def tAnd(t u:TT):TT:=fun σ H Q=>t σ H fun c H1=>if c=true then u σ H1 Q else Q false H1
def tOr(t u:TT):TT:=fun σ H Q=>t σ H fun c H1=>if c=true then Q true H1 else u σ H1 Q
def tNot(t:TT):TT:=fun σ H Q=>t σ H fun c H1=>Q (!c) H1
theorem Jl(ha:PT X a tA):PW X (.BoolOp .And [a] pos) tA:=by
 intro wh pins s σ H Q I h
 refine isTrue_and (j0 (ha pins s σ H Q I h) fun c s1 e=>?_)
 cases c with
 | true=>exact isTrue_and_nil e
 | false=>exact e
theorem JP(ha:PT X a tA):PW X (.BoolOp .Or [a] pos) tA:=by
 intro wh pins s σ H Q I h
 refine isTrue_or (j0 (ha pins s σ H Q I h) fun c s1 e=>?_)
 cases c with
 | false=>exact isTrue_or_nil e
 | true=>exact e
theorem Yh(ha:PT X a tA)(hb:PW X (.BoolOp .And (b :: rest) pos) tB'):PW X (.BoolOp .And (a :: b :: rest) pos) (tAnd tA tB'):=by
 intro wh pins s σ H Q I h
 refine isTrue_and (j0 (ha pins s σ H _ I h) fun c s1 ⟨H1,I1,q1⟩=>?_)
 cases c with
 | true=>exact hb wh pins s1 σ H1 Q I1 q1
 | false=>exact⟨H1,I1,q1⟩
theorem JZ(ha:PT X a tA)(hb:PW X (.BoolOp .Or (b :: rest) pos) tB'):PW X (.BoolOp .Or (a :: b :: rest) pos) (tOr tA tB'):=by
 intro wh pins s σ H Q I h
 refine isTrue_or (j0 (ha pins s σ H _ I h) fun c s1 ⟨H1,I1,q1⟩=>?_)
 cases c with
 | true=>exact⟨H1,I1,q1⟩
 | false=>exact hb wh pins s1 σ H1 Q I1 q1
theorem Q8(ha:PT X a tA):PT X (.UnaryOp .Not a pos) (tNot tA):=by
 intro pins s σ H Q I h
 exact isTrue_not (j0 (ha pins s σ H (fun c H1=>Q (!c) H1) I h) fun c s1 ⟨H1,I1,q1⟩=>⟨H1,I1,q1⟩)
inductive Qbd(tb:TE)(σ:St)(Q:VK)(x:V)(H1:Hp):Prop
 | mk:∀c,x=.bl c->(if c=true then tb σ H1 Q else Q (.bl false) H1)->Qbd tb σ Q x H1
def tAndV(ta tb:TE):TE:=fun σ H Q=>ta σ H fun x H1=>Qbd tb σ Q x H1
inductive Qdw(tb:TE)(σ:St)(Q:VK)(x:V)(H1:Hp):Prop
 | mk:∀c,x=.bl c->(if c=true then Q (.bl true) H1 else tb σ H1 Q)->Qdw tb σ Q x H1
def tOrV(ta tb:TE):TE:=fun σ H Q=>ta σ H fun x H1=>Qdw tb σ Q x H1
inductive Qa9(Q:VK)(x:V)(H1:Hp):Prop
 | mk:∀c,x=.bl c->Q (.bl (!c)) H1->Qa9 Q x H1
def tNotV(ta:TE):TE:=fun σ H Q=>ta σ H fun x H1=>Qa9 Q x H1
theorem JQ{op}{t:TE}(h:PE X a t):PE X (.BoolOp op [a] pos) t:=fun pins s σ H Q I hw=>BoolOp_one (h pins s σ H Q I hw)
theorem Z0(ha:PE X a ta)(hb:PE X (.BoolOp .And (b :: rest) pos) tb):PE X (.BoolOp .And (a :: b :: rest) pos) (tAndV ta tb):=by
 intro pins s σ H Q I h
 refine BoolOp_and (j0 (ha pins s σ H _ I h) fun v s1 ⟨x,H1,I1,r1,q1⟩=>?_)
 obtain⟨c,rfl,q1⟩:=q1
 cases r1
 refine jz ?_
 cases c with
 | true=>exact hb pins s1 σ H1 Q I1 q1
 | false=>exact⟨.bl false,H1,I1,rfl,q1⟩
theorem pe_or(ha:PE X a ta)(hb:PE X (.BoolOp .Or (b :: rest) pos) tb):PE X (.BoolOp .Or (a :: b :: rest) pos) (tOrV ta tb):=by
 intro pins s σ H Q I h
 refine BoolOp_or (j0 (ha pins s σ H _ I h) fun v s1 ⟨x,H1,I1,r1,q1⟩=>?_)
 obtain⟨c,rfl,q1⟩:=q1
 cases r1
 refine jz ?_
 cases c with
 | false=>exact hb pins s1 σ H1 Q I1 q1
 | true=>exact⟨.bl true,H1,I1,rfl,q1⟩
theorem QhQ(ha:PE X a ta):PE X (.UnaryOp .Not a pos) (tNotV ta):=by
 intro pins s σ H Q I h
 refine UnaryOp_ (j0 (ha pins s σ H _ I h) fun v s1 ⟨x,H1,I1,r1,q1⟩=>?_)
 obtain⟨c,rfl,q1⟩:=q1
 cases r1
 exact not_of (jz ⟨.bl (!c),H1,I1,rfl,q1⟩)
def tIf(t:TT)(ta tb:TE):TE:=fun σ H Q=>t σ H fun c H1=>if c=true then ta σ H1 Q else tb σ H1 Q
theorem Qed{c:Expr}(hc:PT X c tA)(ha:PE X a ta)(hb:PE X b tb):PE X (.IfExp c a b pos) (tIf tA ta tb):=by
 intro pins s σ H Q I h
 refine wpAny_IfExp (j0 (hc pins s σ H _ I h) fun d s1 ⟨H1,I1,q1⟩=>?_)
 cases d with
 | true=>exact ha pins s1 σ H1 Q I1 q1
 | false=>exact hb pins s1 σ H1 Q I1 q1
end
end L2
namespace L2
open PySem PySem.Spec PyProof.Rows
def jk(K:Frag)(H:Hp)(a:Addr)(xs:List V):Prop :=
 Rd H a (.lst xs) \/
  ∃(o:Obj)(its:Array Value)(n:Nat),K.lookup a=some o/\o.cls=.type "list"/\o.dict=none/\o.data=.seq its n/\its.size<=sizeLine/\Qx xs its.toList
def yu(K:Frag)(H:Hp)(a:Addr)(xs:List V):Prop :=
 Rd H a (.tup xs) \/
  ∃(o:Obj)(its:Array Value)(n:Nat),K.lookup a=some o/\o.cls=.type "tuple"/\o.data=.seq its n/\its.size<=sizeLine/\Qx xs its.toList
def absV:Value->Option V
 | .none=>some .non
 | .bool b=>some (.bl b)
 | .int i _=>some (.int i)
 | .str x _=>some (.str x)
 | .bytes b _=>some (.byt b)
 | .float b _=>some (.flt b)
 | .ref a=>some (.ref a)
 | .type n=>some (.ty n)
 | _=>none
theorem QC.abs{x:V}{u:Value}(r:QC x u):absV u=some x:=by
 cases x with
 | non=>cases r;rfl
 | bl _=>cases r;rfl
 | int _=>obtain⟨t,rfl⟩:=r;rfl
 | str _=>obtain⟨t,rfl⟩:=r;rfl
 | byt _=>obtain⟨t,rfl⟩:=r;rfl
 | flt _=>obtain⟨t,rfl⟩:=r;rfl
 | ref _=>cases r;rfl
 | ty _=>cases r;rfl
theorem QC.inj{x y:V}{u:Value}(r:QC x u)(q:QC y u):x=y:=zg (r.abs.symm.trans q.abs)
theorem Qx.inj:∀{xs ys:List V}{us:QpM},Qx xs us->Qx ys us->xs=ys
 | _,_,_,.nil,.nil=>rfl
 | _,_,_,.cons r t,.cons r' t'=>by rw[r.inj r',Qx.inj t t']
section
variable {X:Cx}{pins:List (Addr×Obj)}{σ:St}{H:Hp}{s:Shared}{a:Addr}{xs ys:List V}
theorem jk.of{K:Frag}(h:H a=some (.lst xs)):jk K H a xs:=.inl (.inl h)
theorem yu.of{K:Frag}(h:H a=some (.tup xs)):yu K H a xs:=.inl (.inl h)
theorem Inv.list(I:Inv X pins σ H s)(h:jk X.K H a xs):∃its:QpM,Qx xs its/\PlainL s.heap a its.toArray/\xs.length<=sizeLine:=by
 rcases h with h | ⟨o,its,n,hk,hc,hd,hs,hz,r⟩
 .obtain⟨z,its,n,r,e⟩:=h.ok I.hok
  exact⟨its,r,⟨_,n,e,rfl,rfl,rfl⟩,z⟩
 .refine⟨its.toList,r,⟨o,n,I.uM a o hk,hc,hd,by simpa using hs⟩,?_⟩
  have e:=r.length
  simp only[qH] at e
  omega
theorem Inv.tuple(I:Inv X pins σ H s)(h:yu X.K H a xs):∃its:QpM,Qx xs its/\IsTup s.heap a its.toArray/\xs.length<=sizeLine:=by
 rcases h with h | ⟨o,its,n,hk,hc,hs,hz,r⟩
 .obtain⟨z,its,r,p⟩:=h.ok I.hok
  exact⟨its,r,p,z⟩
 .refine⟨its.toList,r,⟨o,I.uM a o hk,hc,n,by simpa using hs⟩,?_⟩
  have e:=r.length
  simp only[qH] at e
  omega
theorem Inv.QmP(I:Inv X pins σ H s)(h:jk X.K H a xs)(h':jk X.K H a ys):xs=ys:=by
 obtain⟨its,r,⟨o,n,e,_,_,d⟩,_⟩:=I.list h
 obtain⟨its',r',⟨o',n',e',_,_,d'⟩,_⟩:=I.list h'
 rw[e] at e';cases e'
 rw[d] at d'
 injection d' with d1 _
 have:its=its':=by simpa using zB Array.toList d1
 subst this
 exact r.inj r'
end
abbrev Cx.wish(X:Cx)(E:QpL):Cx:={ X with xe:=E }
abbrev Cx.nox(X:Cx):Cx:=X.wish fun _ _=>False
theorem Cx.Ok.wish{X:Cx}(ok:X.Ok)(E:QpL):(X.wish E).Ok :=
 ⟨ok.mod,ok.kind,ok.glob,ok.blt,ok.above,ok.inj,ok.has,ok.cab,ok.hd,ok.frames,ok.stk,ok.exf,ok.bs,ok.bsz,ok.QkX,ok.Qk6,ok.Qf3,ok.frf⟩
theorem Cx.Ok.uK{X:Cx}{E:QpL}(ok:(X.wish E).Ok):X.Ok :=
 ⟨ok.mod,ok.kind,ok.glob,ok.blt,ok.above,ok.inj,ok.has,ok.cab,ok.hd,ok.frames,ok.stk,ok.exf,ok.bs,ok.bsz,ok.QkX,ok.Qk6,ok.Qf3,ok.frf⟩
section
variable {X:Cx}{pins:List (Addr×Obj)}{σ:St}{H:Hp}{s:Shared}{E:QpL}
theorem Inv.wish(I:Inv X pins σ H s)(E:QpL):Inv (X.wish E) pins σ H s:=⟨I.ok.wish E,I.os,I.bare,I.base,I.loc,I.cell,I.free,I.vU,I.pin,I.hok,I.len⟩
theorem Inv.uK(I:Inv (X.wish E) pins σ H s):Inv X pins σ H s:=⟨I.ok.uK,I.os,I.bare,I.base,I.loc,I.cell,I.free,I.vU,I.pin,I.hok,I.len⟩
theorem SP.uK{D:JV}{f:Flow}{s':Shared}(h:SP (X.wish E) pins D f s'):SP X pins D f s':=by
 cases f with
 | next=>obtain⟨σ',H',I,q⟩:=h;exact⟨σ',H',I.uK,q⟩
 | brk=>obtain⟨σ',H',I,q⟩:=h;exact⟨σ',H',I.uK,q⟩
 | cont=>obtain⟨σ',H',I,q⟩:=h;exact⟨σ',H',I.uK,q⟩
 | ret u=>obtain⟨v,σ',H',I,r,q⟩:=h;exact⟨v,σ',H',I.uK,r,q⟩
theorem PSs.nox{st:List Stmt}{t:TS}(h:PSs X.nox st t):PSs X st t:=fun pins s σ H D I hw =>
 jM (h pins s σ H D (I.wish _) hw) (fun _ _ q=>q.uK) fun _ _ z=>False.elim z
end
section
variable {X:Cx}{st:Stmt}{rest:List Stmt}{t u:TS}{e:Expr}{te:TE}{pos:Pos}
def VW:TS:=fun D σ H=>D.nx σ H
def Qnz(t u:TS):TS:=fun D σ H=>t { D with nx:=u D } σ H
theorem Qy:PSs X [] VW:=fun _ _ σ H _ I h=>wpAny_execs_nil ⟨σ,H,I,h⟩
theorem Qa(h1:PS X st t)(h2:PSs X rest u):PSs X (st :: rest) (Qnz t u):=by
 intro pins s σ H D I h
 refine wpAny_execs_cons (j0 (h1 pins s σ H { D with nx:=u D } I h) fun f s1 q=>?_)
 cases f with
 | next =>
   obtain⟨σ',H',I',q⟩:=q
   exact h2 pins s1 σ' H' D I' q
 | ret v=>exact q
 | brk=>exact q
 | cont=>exact q
theorem Qg(h1:PS X st t):PSs X [st] t:=by
 intro pins s σ H D I h
 refine wpAny_execs_cons (j0 (h1 pins s σ H D I h) fun f s1 q=>?_)
 cases f with
 | next=>exact wpAny_execs_nil q
 | ret v=>exact q
 | brk=>exact q
 | cont=>exact q
theorem Inv.quiet{pins:List (Addr×Obj)}{σ:St}{H:Hp}{s:Shared}(I:Inv X pins σ H s):interactive X.env=false:=by simp[interactive,I.ok.kind]
def tDrop(te:TE):TS:=fun D σ H=>te σ H fun _ H1=>D.nx σ H1
theorem QV(he:PE X e te)(hs:swapsWith e none pos.line X.env=pure false:=by rfl):PS X (.Expr e pos) (tDrop te):=by
 intro pins s σ H D I h
 exact wpAny_Expr_any (j0 (he pins s σ H _ I h) fun v s1 ⟨x,H1,I1,r1,q1⟩=>⟨σ,H1,I1,q1⟩) I.quiet hs
def tRet(te:TE):TS:=fun D σ H=>te σ H D.rt
theorem Qs(he:PE X e te):PS X (.Return (some e) pos) (tRet te):=by
 intro pins s σ H D I h
 exact wpAny_Return_some (j0 (he pins s σ H _ I h) fun v s1 ⟨x,H1,I1,r1,q1⟩=>⟨x,σ,H1,I1,r1,q1⟩)
def Qan(c:TT)(t u:TS):TS:=fun D σ H=>c σ H fun b H1=>if b=true then t D σ H1 else u D σ H1
theorem QO{c:Expr}{a b:List Stmt}{tc:TT}(hc:PT X c tc)(ha:PSs X a t)(hb:PSs X b u):PS X (.If c a b pos) (Qan tc t u):=by
 intro pins s σ H D I h
 refine wpAny_If (j0 (hc pins s σ H _ I h) fun d s1 ⟨H1,I1,q1⟩=>?_)
 cases d with
 | true=>exact ha pins s1 σ H1 D I1 q1
 | false=>exact hb pins s1 σ H1 D I1 q1
end
abbrev TG:=V->St->Hp->(St->Hp->Prop)->Prop
abbrev TGs:=List V->St->Hp->(St->Hp->Prop)->Prop
def PG(X:Cx)(target:Expr)(t:TG):Prop :=
 ∀(pins:List (Addr×Obj))(s:Shared)(σ:St)(H:Hp)(v:V)(u:Value)(Q:St->Hp->Prop),Inv X pins σ H s->QC v u->t v σ H Q ->
  wpAny (model X.prog X.w) X.A (assign target X.env u) (fun _ s'=>∃σ' H',Inv X pins σ' H' s'/\Q σ' H') X.xe s
def PGs(X:Cx)(ts:List Expr)(t:TGs):Prop :=
 ∀(pins:List (Addr×Obj))(s:Shared)(σ:St)(H:Hp)(vs:List V)(us:QpM)(Q:St->Hp->Prop),Inv X pins σ H s->Qx vs us->t vs σ H Q ->
  wpAny (model X.prog X.w) X.A (assignInOrder ((assignEach ts X.env).map (·.2)) us) (fun _ s'=>∃σ' H',Inv X pins σ' H' s'/\Q σ' H') X.xe s
abbrev QpA:=V->V->V->Hp->(Hp->Prop)->Prop
def PSet(X:Cx)(t:QpA):Prop :=
 ∀(pins:List (Addr×Obj))(s:Shared)(σ:St)(H:Hp)(o i v:V)(ov iv u:Value)(Q:Hp->Prop),Inv X pins σ H s->QC o ov->QC i iv->QC v u->t o i v H Q ->
  wpAny (model X.prog X.w) X.A (setItem ov iv u) (fun _ s'=>∃H',Inv X pins σ H' s'/\Q H') X.xe s
section
variable {X:Cx}{pos:Pos}
def QJ(i:Nat):TG:=fun v σ H Q=>Q (σ.set i (some v)) H
theorem Zd{i:Nat}{x:Str}(hN:X.N.Nodup)(hi:X.N[i]?=some x)(hx:Loc X.env.scope x)(hf:X.fn x=true\/X.env.scope.names.lookup x=some .local:=by first | exact .inl rfl | exact .inr rfl | assumption):PG X (.Name x pos) (QJ i):=by
 intro pins s σ H v u Q I r h
 exact wpAny_assign_Name (KY I hN hi hx r (fun s' I'=>⟨_,H,I',h⟩) hf)
def gNil:TGs:=fun vs σ H Q=>vs=[]/\Q σ H
def gCons(t:TG)(u:TGs):TGs:=fun vs σ H Q=>∃v r,vs=v :: r/\t v σ H fun σ' H'=>u r σ' H' Q
theorem Qga:PGs X [] gNil:=by
 intro pins s σ H vs us Q I r h
 obtain⟨e,h⟩:=h
 subst e
 cases r
 exact assignInOrder_nil ⟨σ,H,I,h⟩
theorem Gg{e:Expr}{es:List Expr}{t:TG}{u:TGs}(h1:PG X e t)(h2:PGs X es u)
 (hs:(assignEach (e :: es) X.env).map (·.2)=assign e X.env :: (assignEach es X.env).map (·.2):=by rfl):PGs X (e :: es) (gCons t u):=by
 intro pins s σ H vs us Q I r h
 obtain⟨v,vr,e1,h⟩:=h
 subst e1
 cases r with
 | cons r rr =>
   rw[hs]
   refine assignInOrder_cons (j0 (h1 pins s σ H _ _ _ I r h) fun _ s1 ⟨σ1,H1,I1,q1⟩=>?_)
   exact h2 pins s1 σ1 H1 _ _ Q I1 rr q1
def gTup(K:Frag)(n:Nat)(t:TGs):TG:=fun v σ H Q=>∃a xs,v=.ref a/\yu K H a xs/\xs.length=n/\t xs σ H Q
theorem QhN{es:List Expr}{k:Nat}{t:TGs}{n:Nat}(hc:X.calm=true)(h:PGs X es t)
 (hn:(assignEach es X.env).length=n:=by rfl) (hst:(assignEach es X.env).findIdx? (·.1)=none:=by rfl):PG X (.Tuple es k pos) (gTup X.K n t):=by
 intro pins s σ H v u Q I r hw
 obtain⟨a,xs,e1,hq,hl,hw⟩:=hw
 subst e1
 cases r
 obtain⟨its,rv,ht,hz⟩:=I.tuple hq
 refine assign_Tuple_tuple (I.ok.hd hc) ht (by simp[hn,<-hl,rv.length]) hst fun h' hx=>?_
 have I1:Inv X pins σ H { s with heap:=h' }:=I.kept (t':=s.toks) fun b o e=>hx b o (zp (qT e)) e
 exact h pins _ σ H xs _ Q I1 (by simpa using rv) hw
def gSub(to ti:TE)(t:QpA):TG:=fun v σ H Q=>to σ H fun o H1=>ti σ H1 fun i H2=>t o i v H2 fun H3=>Q σ H3
theorem QaD{o i:Expr}{to ti:TE}{t:QpA}(ho:PE X o to)(hi:PE X i ti)(hs:PSet X t)
 (ha:∀v,assign (.Subscript o i pos) X.env v=(do
   let ov <-holding [v] (eval o X.env)
   let iv <-holding [v,ov] (eval i X.env)
   standAt pos
   holding [v,ov,iv] (setItem ov iv v)
   release [v,ov,iv] []):=by intro _;rfl):PG X (.Subscript o i pos) (gSub to ti t):=by
 intro pins s σ H v u Q I r h
 rw[ha]
 refine qb (jP (j0 (ho pins s σ H _ I h) fun ov s1 ⟨x,H1,I1,r1,q1⟩=>?_))
 refine qb (jP (j0 (hi pins s1 σ H1 _ I1 q1) fun iv s2 ⟨y,H2,I2,r2,q2⟩=>?_))
 refine qb (wpAny_standAt (qb (jP (j0 (hs pins s2 σ H2 x y v ov iv u _ I2 r1 r2 r q2) fun _ s3 ⟨H3,I3,q3⟩=>?_))))
 exact wpAny_release ⟨σ,H3,I3,q3⟩
def QnA(te:TE)(g:TG):TS:=fun D σ H=>te σ H fun x H1=>g x σ H1 D.nx
theorem QaB{tg e:Expr}{te:TE}{g:TG}(he:PE X e te)(hg:PG X tg g)(hs:swapsWithSole [tg] e pos.line X.env=pure false:=by rfl)(hw:swappedStores [tg] e X.env=pure none:=by rfl)
 (h1:(assignEach [tg] X.env).map (·.2)=[assign tg X.env]:=by rfl):PS X (.Assign [tg] e pos) (QnA te g):=by
 intro pins s σ H D I h
 refine wpAny_Assign_stores (j0 (he pins s σ H _ I h) fun v s1 ⟨x,H1,I1,r1,q1⟩=>?_) hs hw
 rw[h1]
 exact j0 (hg pins s1 σ H1 x v _ I1 r1 q1) fun _ s2 ⟨σ2,H2,I2,q2⟩=>⟨σ2,H2,I2,q2⟩
theorem Qm{i:Nat}{x:Str}{e:Expr}{te:TE}{pos':Pos}(hN:X.N.Nodup)(hi:X.N[i]?=some x)(hx:Loc X.env.scope x)(he:PE X e te)(hs:swapsWith e (some (.Name x pos')) pos.line X.env=pure false:=by rfl)(hf:X.fn x=true\/X.env.scope.names.lookup x=some .local:=by first | exact .inl rfl | exact .inr rfl | assumption) :
 PS X (.Assign [.Name x pos'] e pos) (QnA te (QJ i)):=by
 intro pins s σ H D I h
 refine wpAny_Assign_Name (j0 (he pins s σ H _ I h) fun v s1 ⟨y,H1,I1,r1,q1⟩=>?_) hs
 exact KY I1 hN hi hx r1 (fun s2 I2=>⟨_,H1,I2,q1⟩) hf
end
section
variable {X:Cx}{pos:Pos}
end
structure It where
 go:Nat->Hp->Prop
 yld:Nat->Hp->V->Hp->Prop
 stop:Nat->Hp->Prop
def Qac(X:Cx)(pins:List (Addr×Obj))(H:Hp)(b:Addr):Prop :=
 H b=none/\b≠X.env.locals/\b∉X.fs/\(b∈X.ex\/X.s₀.heap.objs.size<=b)/\(∀x c,X.env.cells.lookup x=some c->c≠b)/\∀p∈X.pn++pins,p.1≠b
theorem Inv.Ql4{X:Cx}{pins:List (Addr×Obj)}{σ:St}{H H':Hp}{s:Shared}{b:Addr}(I:Inv X pins σ H s)(hb:s.heap.objs.size<=b)(hn:H' b=none):Qac X pins H' b:=by
 refine⟨hn,vM (zx I.lt hb),I.nofs hb,.inr (zf I.sz hb),fun x c e z=>?_,fun p hp z=>?_⟩
 .obtain⟨v,q⟩:=I.cell x c e
  exact absurd (zx q.lt (by rw[z];exact hb)) (jT _)
 .exact absurd (zx (qT (I.pin p hp).1) (by rw[z];exact hb)) (jT _)
structure Qa5(P:Program)(w:World)(K:Frag)(tg:Expr)(J:It)(fp:List Addr)(it:Addr)(tn:Nat->Heap->Prop):Prop where
 mem:it∈fp
 obj:∀i h,tn i h->∀b∈fp,∃o,h.get? b=some o/\∀v,o.data≠.cell v
 keep:∀i h h',tn i h->(∀b∈fp,∀o,h.get? b=some o->h'.get? b=some o)->tn i h'
 item:∀(X:Cx),X.prog=P->X.w=w->X.K=K->X.calm=true->∀(i:Nat)(pins:List (Addr×Obj))(s:Shared)(σ:St)(H:Hp)(E:QpL),Inv X pins σ H s->(∀b∈fp,Qac X pins H b)->tn i s.heap->J.go i H ->
  wpAny (model P w) X.A (pyNext (.ref it)) (fun r s1=>∃u,r=some u /\
   wpAny (model P w) X.A (letOwnedTupleGo tg (.ref it) u) (fun _ s2=>∃x H',Inv X pins σ H' s2/\QC x u/\J.yld i H x H'/\tn (i+1) s2.heap/\∀b∈fp,H' b=none) E s1) E s
 done:∀(X:Cx),X.prog=P->X.w=w->X.K=K->X.calm=true->∀(i:Nat)(pins:List (Addr×Obj))(s:Shared)(σ:St)(H:Hp)(E:QpL),Inv X pins σ H s->(∀b∈fp,Qac X pins H b)->tn i s.heap->J.stop i H ->
  wpAny (model P w) X.A (pyNext (.ref it)) (fun r s1=>r=none/\Inv X pins σ H s1) E s
 self:∀(A:Around)(i:Nat)(s:Shared)(Q:QpL)(E:QpL),tn i s.heap->Q (.ref it) s->wpAny (model P w) A (pyIter (.ref it)) Q E s
abbrev TI:=St->Hp->(It->Hp->Prop)->Prop
def PIE(X:Cx)(pins:List (Addr×Obj))(σ:St)(tg:Expr)(R:It->Hp->Prop)(itv:Value)(s2:Shared):Prop :=
 ∃(it:Addr)(fp:List Addr)(tn:Nat->Heap->Prop)(J:It)(H':Hp),itv=.ref it/\Inv X pins σ H' s2/\Qa5 X.prog X.w X.K tg J fp it tn/\tn 0 s2.heap/\(∀b∈fp,Qac X pins H' b)/\R J H'
def PI(X:Cx)(tg iter:Expr)(wi:TI):Prop :=
 ∀(pins:List (Addr×Obj))(s:Shared)(σ:St)(H:Hp)(R:It->Hp->Prop),Inv X pins σ H s->wi σ H R ->
  wpAny (model X.prog X.w) X.A (eval iter X.env) (fun v s1=>wpAny (model X.prog X.w) X.A (pyIter v) (PIE X pins σ tg R) X.xe s1) X.xe s
theorem XL{M:Model}{A:Around}{E:QpL}{s:Shared}{tg:Expr}{it:Addr}{u:Value}{o:Obj}{n:String}{vs:Array Value}{Q:Unit->Shared->Prop}(ho:s.heap.get? it=some o)(hc:o.cls=.type n)(hd:o.data=.fields vs)
 (hn:["enumerate","zip","dict_itemiterator","dict_reverseitemiterator","odict_iterator","itertools.zip_longest","itertools.pairwise"].contains n=false) (hQ:Q () s):wpAny M A (letOwnedTupleGo tg (.ref it) u) Q E s:=by
 unfold letOwnedTupleGo
 cases tg <;> first
  | exact qx hQ
  | (cases u <;> first
      | exact qx hQ
      | (refine qb (wpAny_load ho ?_)
         rw[hc,hd]
         show wpAny M A (if (["enumerate","zip","dict_itemiterator","dict_reverseitemiterator","odict_iterator","itertools.zip_longest","itertools.pairwise"].contains n && vs[0]? == some (rawInt _))=true then _ else _) Q E s
         rw[ql (by intro h;rw[hn,yw] at h;cases h)]
         exact qx hQ))
def Itl(K:Frag)(a:Addr):It :=
 ⟨fun i H=>∃xs x,jk K H a xs/\xs[i]?=some x,fun i H x H'=>H'=H/\∀xs,jk K H a xs->xs[i]?=some x,fun i H=>∃xs,jk K H a xs/\xs.length<=i⟩
def Itr(lo:Int)(n:Nat):It:=⟨fun i _=>i<n,fun i H x H'=>H'=H/\x=.int (lo+i),fun i _=>n<=i⟩
theorem Qcb{P:Program}{w:World}{K:Frag}{tg:Expr}(a it:Addr):Qa5 P w K tg (Itl K a) [it] it (fun i h=>h.IsListIter it a i) where
 mem:=by simp
 obj:=fun i h st b hb=>by
  have e:b=it:=by simpa using hb
  subst e
  obtain⟨o,e,c,d⟩:=st
  exact⟨o,e,fun v z=>by rw[d] at z;cases z⟩
 keep:=fun i h h' st k=>st.at fun o e=>k it (by simp) o e
 item:=by
  intro X hP hw hK hc i pins s σ H E I hf st hg
  subst hP hw hK
  obtain⟨xs,x,hq,hx⟩:=hg
  obtain⟨its,rv,p,hz⟩:=I.list hq
  obtain⟨u,hu,ru⟩:=rv.get hx
  obtain⟨f0,f1,f2,f3,f4,f5⟩:=hf it (by simp)
  refine wpAny_pyNext_list_item st p.isList (x:=u) (by simpa using hu) fun h' st' sb=>?_
  have I1:Inv X pins σ H { s with heap:=h' }:=I.turned (t':=s.toks) (fun b o hb e=>(sb.2 b hb).trans e) f0 f1 f3 f4 f5
  obtain⟨o,e,c,d⟩:=id st'
  exact⟨u,rfl,XL (s:={ s with heap:=h' }) e c d (by decide) ⟨x,H,I1,ru,⟨rfl,fun ys hy=>by rw[I.QmP hy hq];exact hx⟩,st',fun b hb=>(hf b hb).1⟩⟩
 done:=by
  intro X hP hw hK hc i pins s σ H E I hf st hg
  subst hP hw hK
  obtain⟨xs,hq,hx⟩:=hg
  obtain⟨its,rv,p,hz⟩:=I.list hq
  obtain⟨f0,f1,f2,f3,f4,f5⟩:=hf it (by simp)
  have hl:=rv.length
  exact wpAny_pyNext_list_end (I.ok.hd hc) st p.isList (by simp;omega) fun h' eb=>⟨rfl,I.turned (t':=s.toks) (fun b o hb e=>eb b o hb e) f0 f1 f3 f4 f5⟩
 self:=fun _ _ _ _ _ st h=>wpAny_pyIter_listiter st h
theorem Qaj{P:Program}{w:World}{K:Frag}{tg:Expr}(it:Addr)(lo:Int)(n:Nat):Qa5 P w K tg (Itr lo n) [it] it (fun i h=>IsRangeIter h it (lo+(i:Nat)*1) ((n:Int) - (i:Nat)) 1) where
 mem:=by simp
 obj:=fun i h st b hb=>by
  have e:b=it:=by simpa using hb
  subst e
  exact⟨_,st,fun v z=>by
   have z':Data.fields _=Data.cell v:=z
   cases z'⟩
 keep:=fun i h h' st k=>k it (by simp) _ st
 item:=by
  intro X hP hw hK hc i pins s σ H E I hf st hg
  subst hP hw hK
  obtain⟨f0,f1,f2,f3,f4,f5⟩:=hf it (by simp)
  have W:=Walks.range (prog:=X.prog) (w:=X.w) (I.ok.hd hc) it lo 1 n
  refine W.item i s _ _ hg st fun v h' tk hv st' kk=>?_
  obtain⟨t,rfl⟩:=hv
  have I1:Inv X pins σ H { s with heap:=h',toks:=tk }:=I.turned (fun b o hb e=>kk b o (by simpa using hb) e) f0 f1 f3 f4 f5
  refine⟨_,rfl,XL (s:={ s with heap:=h',toks:=tk }) (n:="range_iterator") st' rfl rfl (by decide) ⟨.int (lo+i),H,I1,⟨t,?_⟩,⟨rfl,rfl⟩,st',fun b hb=>(hf b hb).1⟩⟩
  rw[Int.mul_one]
 done:=by
  intro X hP hw hK hc i pins s σ H E I hf st hg
  subst hP hw hK
  obtain⟨f0,f1,f2,f3,f4,f5⟩:=hf it (by simp)
  exact wpAny_pyNext_range_end (I.ok.hd hc) st (by have:n<=i:=hg;omega) fun h' eb=>⟨rfl,I.turned (t':=s.toks) (fun b o hb e=>eb b o hb e) f0 f1 f3 f4 f5⟩
 self:=fun _ _ _ _ _ st h=>wpAny_pyIter_rangeiter st h
end L2
namespace L2
open PySem PySem.Spec PyProof.Rows
section
variable {X:Cx}{tg:Expr}
inductive QbO(K:Frag)(R:(It->Hp->Prop))(x:V)(H1:Hp):Prop
 | mk:∀a,x=.ref a->(∃xs,jk K H1 a xs)->R (Itl K a) H1->QbO K R x H1
def iList(K:Frag)(tl:TE):TI:=fun σ H R=>tl σ H fun x H1=>QbO K R x H1
theorem Zm{l:Expr}{tl:TE}(hl:PE X l tl):PI X tg l (iList X.K tl):=by
 intro pins s σ H R I h
 refine j0 (hl pins s σ H _ I h) fun v s1 ⟨x,H1,I1,r1,q1⟩=>?_
 obtain⟨a,e,⟨xs,hq⟩,q⟩:=q1
 subst e
 cases r1
 obtain⟨its,rv,p,hz⟩:=I1.list hq
 refine wpAny_pyIter_list p.isList ?_
 refine⟨s1.heap.objs.size,[s1.heap.objs.size],_,_,H1,rfl,I1.kept (t':=s1.toks) fun b o e=>qw _ e,Qcb a _,⟨_,qN _ rfl,rfl,rfl⟩,fun b hb=>?_,q⟩
 have e:b=s1.heap.objs.size:=by simpa using hb
 subst e
 exact I1.Ql4 (qp _) (I1.hok.fresh (qp _))
theorem Gd{pins:List (Addr×Obj)}{σ:St}{H:Hp}{s:Shared}{R:It->Hp->Prop}{E:QpL}{lo hi:Int}{t u v:Tok}{tk:Nat}(I:Inv X pins σ H s)(h1 : -(2 ^ 62)<=lo)(h2:lo<2 ^ 62)(h3 : -(2 ^ 62)<=hi)(h4:hi<2 ^ 62)
 (q:R (Itr lo (hi - lo).toNat) H):wpAny (model X.prog X.w) X.A (pyIter (.ref s.heap.objs.size)) (PIE X pins σ tg R) E { s with heap:=s.heap.push { cls:=.type "range",data:=.fields #[.int lo t,.int hi u,.int 1 v] },toks:=tk }:=by
 refine wpAny_pyIter_range (IsRange.new ..) (small_one h1 h2 h3 h4) ?_
 have I1:Inv X pins σ H { s with heap:=s.heap.push { cls:=.type "range",data:=.fields #[.int lo t,.int hi u,.int 1 v] },toks:=tk }:=I.kept fun b o e=>qw _ e
 refine⟨(s.heap.push { cls:=.type "range",data:=.fields #[.int lo t,.int hi u,.int 1 v] }).objs.size,[(s.heap.push { cls:=.type "range",data:=.fields #[.int lo t,.int hi u,.int 1 v] }).objs.size],_,_,H,rfl,
  I1.kept (t':=tk) fun b o e=>qw _ e,Qaj _ lo (hi - lo).toNat,?_,fun b hb=>?_,q⟩
 .have e1:lo+((0:Nat):Int)*1=lo:=by simp
  have e2:(((hi - lo).toNat:Nat):Int) - ((0:Nat):Int)=Builtin.Range.rangeSize lo hi 1:=by rw[rangeSize_one];split <;> omega
  show IsRangeIter _ _ (lo+((0:Nat):Int)*1) ((((hi - lo).toNat:Nat):Int) - ((0:Nat):Int)) 1
  rw[e1,e2]
  exact qN _ rfl
 .have e:b=(s.heap.push { cls:=.type "range",data:=.fields #[.int lo t,.int hi u,.int 1 v] }).objs.size:=by simpa using hb
  subst e
  exact I1.Ql4 (qp _) (I1.hok.fresh (qp _))
inductive QbN(R:(It->Hp->Prop))(vs:List V)(H1:Hp):Prop
 | mk:∀j:Int,vs=[.int j]->-(2 ^ 62)<=j->j<2 ^ 62->R (Itr 0 j.toNat) H1->QbN R vs H1
def iRng1(ta:TA):TI:=fun σ H R=>ta σ H fun vs H1=>QbN R vs H1
inductive QbM(R:(It->Hp->Prop))(vs:List V)(H1:Hp):Prop
 | mk:∀i j:Int,vs=[.int i,.int j]->(-(2 ^ 62)<=i/\i<2 ^ 62/\-(2 ^ 62)<=j/\j<2 ^ 62)->R (Itr i (j - i).toNat) H1->QbM R vs H1
def iRng2(ta:TA):TI:=fun σ H R=>ta σ H fun vs H1=>QbM R vs H1
theorem Xz{a:Expr}{ta:TA}{p pos:Pos}(hg:Gl X "range")(hm:X.mg "range"=none)(ha:PA X [a] ta)(hs:starEach [a] X.env=[(false,eval a X.env)]:=by rfl):PI X tg (.Call (.Name "range" p) [a] [] pos) (iRng1 ta):=by
 intro pins s σ H R I h
 refine Call_ (Yr I hg hm boot_range (QgL (j0 (ha pos pins s σ H _ I h) fun us s1 ⟨vs,H1,I1,r1,q1⟩=>?_) hs rfl))
 obtain⟨j,e,q1,q2,q⟩:=q1
 subst e
 cases r1 with
 | cons r rr =>
   cases rr
   obtain⟨t,rfl⟩:=r
   exact call_range_1 (Gd I1 (by omega) (by omega) q1 q2 (by simpa using q))
theorem Qcr{a b:Expr}{ta:TA}{p pos:Pos}(hg:Gl X "range")(hm:X.mg "range"=none)(ha:PA X [a,b] ta)(hs:starEach [a,b] X.env=[(false,eval a X.env),(false,eval b X.env)]:=by rfl)(hs2:starEach [b] X.env=[(false,eval b X.env)]:=by rfl) :
 PI X tg (.Call (.Name "range" p) [a,b] [] pos) (iRng2 ta):=by
 intro pins s σ H R I h
 refine Call_ (Yr I hg hm boot_range (QgL (j0 (ha pos pins s σ H _ I h) fun us s1 ⟨vs,H1,I1,r1,q1⟩=>?_) (by rw[hs,hs2]) (by rw[hs2];rfl)))
 obtain⟨i,j,e,⟨q1,q2,q3,q4⟩,q⟩:=q1
 subst e
 cases r1 with
 | cons r rr =>
   cases rr with
   | cons r' rr =>
     cases rr
     obtain⟨t,rfl⟩:=r
     obtain⟨t',rfl⟩:=r'
     exact call_range_2 (Gd I1 q1 q2 q3 q4 q)
inductive UY(g:TG)(tb:TS)(D:JV)(σ:St)(J:It)(H1:Hp):Prop
 | mk:∀W:Nat->Nat->St->Hp->Prop,(∃m,W 0 m σ H1)->(∀i m σ H,W i m σ H->(J.stop i H/\D.nx σ H)\/(J.go i H/\∃N:St->Hp->Prop,(∀σ' H',N σ' H'->∃m',m'<m/\W (i+1) m' σ' H')/\∀x H',J.yld i H x H'->g x σ H' fun σ2 H2=>tb { D with nx:=N,ct:=N,bk:=D.nx } σ2 H2))->UY g tb D σ J H1
def tFor(wi:TI)(g:TG)(tb:TS):TS:=fun D σ H=>wi σ H fun J H1=>UY g tb D σ J H1
def U4(fp:List Addr)(h:Heap):List (Addr×Obj):=fp.filterMap fun b=>(h.get? b).map fun o=>(b,o)
theorem Yq{fp:List Addr}{h:Heap}{b:Addr}{o:Obj}(hb:b∈fp)(e:h.get? b=some o):(b,o)∈U4 fp h:=QlM.mpr ⟨b,hb,by rw[e];rfl⟩
theorem QcC{fp:List Addr}{h:Heap}{p:Addr×Obj}(hp:p∈U4 fp h):p.1∈fp/\h.get? p.1=some p.2:=by
 obtain⟨b,hb,e⟩:=QlM.mp hp
 cases q:h.get? b with
 | none=>rw[q] at e;cases e
 | some o =>
   rw[q] at e
   have e':(b,o)=p:=zg e
   subst e'
   exact⟨hb,q⟩
theorem Inv.pinned{pins:List (Addr×Obj)}{σ:St}{H:Hp}{s:Shared}{fp:List Addr}(I:Inv X pins σ H s)(hf:∀b∈fp,Qac X pins H b)(ho:∀b∈fp,∃o,s.heap.get? b=some o/\∀v,o.data≠.cell v):Inv X (pins++U4 fp s.heap) σ H s :=
 I.uT fun p hp=>(qF.mp hp).elim (fun z=>I.pin p (qO _ z)) fun z=>by
  obtain⟨hb,e⟩:=QcC z
  obtain⟨f0,f1,f2,_⟩:=hf p.1 hb
  obtain⟨o,e',d⟩:=ho p.1 hb
  rw[e] at e';cases e'
  exact⟨e,f0,f1,f2,d⟩
theorem Inv.Qil{pins pl:List (Addr×Obj)}{σ:St}{H:Hp}{s:Shared}(I:Inv X (pins++pl) σ H s):Inv X pins σ H s:=I.uT fun p hp=>I.pin p (qO _ (zA _ hp))
theorem ZZ{iter:Expr}{body:List Stmt}{wi:TI}{g:TG}{tb:TS}{pos:Pos}(hp:PassesOwn (model X.prog X.w) X.A X.env X.xe)(hc:X.calm=true)(hi:PI X tg iter wi)(hg:PG X tg g)(hb:PSs X body tb)
 (hs:∀x,foldedSetIterable iter X.env x=pure x:=by intro _;rfl):PS X (.For tg iter body [] pos) (tFor wi g tb):=by
 intro pins s σ H D I h
 refine wpAny_For (j0 (hi pins s σ H _ I h) fun v s1 h1=>j0 h1 fun itv s2 h2=>?_) hs
 obtain⟨it,fp,tn,J,H2,e,I2,T,st2,f2,W,⟨m0,w0⟩,turn⟩:=h2
 subst e
 have stat:∀{H':Hp},(∀b∈fp,H' b=none)->∀b∈fp,Qac X pins H' b:=fun hn b hb=>⟨hn b hb,(f2 b hb).2⟩
 refine codeAny_forLoop_any (fun n s'=>∃i σ' H',Inv X pins σ' H' s'/\tn i s'.heap/\(∀b∈fp,H' b=none)/\W i n σ' H') ?_ m0 ⟨0,σ,H2,I2,st2,fun b hb=>(f2 b hb).1,w0⟩
 rintro n s3 ⟨i,σ3,H3,I3,st3,fr3,w3⟩
 rcases turn i n σ3 H3 w3 with⟨stop,qn⟩ | ⟨go,N,hN,step⟩
 .refine QiG hp (j0 (T.done X rfl rfl rfl hc i pins s3 σ3 H3 X.xe I3 (stat fr3) st3 stop) fun r s4 ⟨hr,I4⟩=>?_)
  subst hr
  exact wpAny_execs_nil ⟨σ3,H3,I4,qn⟩
 .refine QiG hp (j0 (T.item X rfl rfl rfl hc i pins s3 σ3 H3 X.xe I3 (stat fr3) st3 go) fun r s4 ⟨u,hr,h4⟩=>?_)
  subst hr
  refine QiG hp (j0 h4 fun _ s5 ⟨x,H5,I5,r5,y5,st5,fr5⟩=>?_)
  have I5':=I5.pinned (stat fr5) (T.obj _ _ st5)
  refine QiG hp (j0 (hg _ s5 σ3 H5 x u _ I5' r5 (step x H5 y5)) fun _ s6 ⟨σ6,H6,I6,q6⟩=>?_)
  refine QiG hp (j0 (hb _ s6 σ6 H6 _ I6 q6) fun f s7 q7=>?_)
  have again:∀{σ7:St}{H7:Hp},Inv X (pins++U4 fp s5.heap) σ7 H7 s7->N σ7 H7->∃m,m<n/\∃i σ' H',Inv X pins σ' H' s7/\tn i s7.heap/\(∀b∈fp,H' b=none)/\W i m σ' H':=fun{σ7 H7} I7 n7=>by
   obtain⟨m',hm,w7⟩:=hN σ7 H7 n7
   refine⟨m',hm,i+1,σ7,H7,I7.Qil,T.keep _ _ _ st5 fun b hb o e=>(I7.pin (b,o) (qO _ (qO _ (Yq hb e)))).1,fun b hb=>?_,w7⟩
   obtain⟨o,e,d⟩:=T.obj _ _ st5 b hb
   exact(I7.pin (b,o) (qO _ (qO _ (Yq hb e)))).2.1
  cases f with
  | next=>obtain⟨σ7,H7,I7,n7⟩:=q7;exact again I7 n7
  | cont=>obtain⟨σ7,H7,I7,n7⟩:=q7;exact again I7 n7
  | brk=>obtain⟨σ7,H7,I7,q7⟩:=q7;exact⟨σ7,H7,I7.Qil,q7⟩
  | ret v=>obtain⟨x7,σ7,H7,I7,r7,q7⟩:=q7;exact⟨x7,σ7,H7,I7.Qil,r7,q7⟩
end
theorem Ja{K:Frag}{a:Addr}{xs:List V}{g:TG}{tb:TS}{D:JV}{σ:St}{H:Hp}(Pv:Nat->St->Hp->Prop)(h0:Pv 0 σ H)(hl:∀i σ H,i<=xs.length->Pv i σ H->jk K H a xs)
 (hs:∀i x σ H,xs[i]?=some x->Pv i σ H->g x σ H fun σ2 H2=>tb { D with nx:=Pv (i+1),ct:=Pv (i+1),bk:=D.nx } σ2 H2) (hd:∀σ H,Pv xs.length σ H->D.nx σ H) :
 UY g tb D σ (Itl K a) H:=by
 refine⟨fun i m σ H=>m=xs.length - i/\i<=xs.length/\Pv i σ H,⟨xs.length,by simp,qP _,h0⟩,?_⟩
 rintro i m σ H ⟨rfl,hi,p⟩
 have q:=hl i σ H hi p
 by_cases hlt:i<xs.length
 .refine .inr ⟨⟨xs,xs[i],q,by simp[hlt]⟩,Pv (i+1),fun σ' H' p'=>⟨xs.length - (i+1),by omega,rfl,hlt,p'⟩,fun x H' y=>?_⟩
  obtain⟨e,y⟩:=y
  subst e
  exact hs i x σ _ (y xs q) p
 .have e:i=xs.length:=by omega
  subst e
  exact .inl ⟨⟨xs,q,qp _⟩,hd σ H p⟩
theorem XN{lo:Int}{n:Nat}{g:TG}{tb:TS}{D:JV}{σ:St}{H:Hp}(Pv:Nat->St->Hp->Prop)(h0:Pv 0 σ H)
 (hs:∀i σ H,i<n->Pv i σ H->g (.int (lo+i)) σ H fun σ2 H2=>tb { D with nx:=Pv (i+1),ct:=Pv (i+1),bk:=D.nx } σ2 H2) (hd:∀σ H,Pv n σ H->D.nx σ H) :
 UY g tb D σ (Itr lo n) H:=by
 refine⟨fun i m σ H=>m=n - i/\i<=n/\Pv i σ H,⟨n,by simp,qP _,h0⟩,?_⟩
 rintro i m σ H ⟨rfl,hi,p⟩
 by_cases hlt:i<n
 .refine .inr ⟨hlt,Pv (i+1),fun σ' H' p'=>⟨n - (i+1),by omega,rfl,hlt,p'⟩,fun x H' y=>?_⟩
  obtain⟨e,y⟩:=y
  subst e y
  exact hs i σ _ hlt p
 .have e:i=n:=by omega
  subst e
  exact .inl ⟨qp _,hd σ H p⟩
end L2
namespace L2
open PySem PySem.Spec PyProof.Rows
abbrev R2:=V->V->Hp->VK->Prop
def uz(X:Cx)(f:Value->Value->Sem Value)(r:R2):Prop :=
 ∀(pins:List (Addr×Obj))(s:Shared)(σ:St)(H:Hp)(x y:V)(v u:Value)(Q:VK),Inv X pins σ H s->QC x v->QC y u->r x y H Q ->
  wpAny (model X.prog X.w) X.A (f v u) (EP X pins σ Q) X.xe s
def UnR(X:Cx)(f:Value->Sem Value)(r:V->Hp->VK->Prop):Prop :=
 ∀(pins:List (Addr×Obj))(s:Shared)(σ:St)(H:Hp)(x:V)(v:Value)(Q:VK),Inv X pins σ H s->QC x v->r x H Q ->
  wpAny (model X.prog X.w) X.A (f v) (EP X pins σ Q) X.xe s
def YM(X:Cx)(f:Value)(r:List V->Hp->VK->Prop):Prop :=
 ∀(pins:List (Addr×Obj))(s:Shared)(σ:St)(H:Hp)(xs:List V)(us:QpM)(Q:VK),Inv X pins σ H s->Qx xs us->r xs H Q ->
  wpAny (model X.prog X.w) X.A (call f us) (EP X pins σ Q) X.xe s
def TruR(X:Cx)(r:V->Hp->(Bool->Hp->Prop)->Prop):Prop :=
 ∀(pins:List (Addr×Obj))(s:Shared)(σ:St)(H:Hp)(x:V)(v:Value)(Q:Bool->Hp->Prop),Inv X pins σ H s->QC x v->r x H Q ->
  wpAny (model X.prog X.w) X.A (truthy v) (TP X pins σ Q) X.xe s
def tOp(r:R2)(ta tb:TE):TE:=fun σ H Q=>ta σ H fun x H1=>tb σ H1 fun y H2=>r x y H2 Q
def tUn(r:V->Hp->VK->Prop)(ta:TE):TE:=fun σ H Q=>ta σ H fun x H1=>r x H1 Q
inductive rI_I(C:Int->Int->Prop)(g:Int->Int->V)(x:V)(y:V)(H:Hp)(Q:VK):Prop
 | mk:∀i j,x=.int i->y=.int j->C i j->Q (g i j) H->rI_I C g x y H Q
def rI(C:Int->Int->Prop)(g:Int->Int->V):R2:=fun x y H Q=>rI_I C g x y H Q
inductive Qg0(g:Int->Int->V)(x:V)(y:V)(H:Hp)(Q:VK):Prop
 | mk:∀i j,x=.int i->y=.int j->Q (g i j) H->Qg0 g x y H Q
def rI0(g:Int->Int->V):R2:=fun x y H Q=>Qg0 g x y H Q
inductive rU_I(g:Int->V)(x:V)(H:Hp)(Q:VK):Prop
 | mk:∀i,x=.int i->Q (g i) H->rU_I g x H Q
def rU(g:Int->V):V->Hp->VK->Prop:=fun x H Q=>rU_I g x H Q
section
variable {X:Cx}{a b c:Expr}{ta tb tc:TE}{pos:Pos}
theorem Qpx(ha:PE X a ta)(hb:PE X b tb){pins:List (Addr×Obj)}{s:Shared}{σ:St}{H:Hp}{R:V->V->Hp->Prop}(I:Inv X pins σ H s)
 (h:ta σ H fun x H1=>tb σ H1 fun y H2=>R x y H2) {Q:QpL} {f:Value->Value->Sem Value}
 (hf:∀v u s2 x y H2,Inv X pins σ H2 s2->QC x v->QC y u->R x y H2->wpAny (model X.prog X.w) X.A (f v u) Q X.xe s2) :
 wpAny (model X.prog X.w) X.A (eval a X.env) (fun v s₁=>wpAny (model X.prog X.w) X.A (eval b X.env) (fun u s₂=>wpAny (model X.prog X.w) X.A (f v u) Q X.xe s₂) X.xe s₁) X.xe s:=by
 refine j0 (ha pins s σ H _ I h) fun v s1 ⟨x,H1,I1,r1,q1⟩=>?_
 refine j0 (hb pins s1 σ H1 _ I1 q1) fun u s2 ⟨y,H2,I2,r2,q2⟩=>?_
 exact hf v u s2 x y H2 I2 r1 r2 q2
theorem Qt{op:Operator}{r:R2}(ho:uz X (binaryOp op) r)(ha:PE X a ta)(hb:PE X b tb):PE X (.BinOp a op b pos) (tOp r ta tb):=by
 intro pins s σ H Q I h
 exact wpAny_BinOp (Qpx ha hb I h fun v u s2 x y H2 I2 rx ry q=>ho pins s2 σ H2 x y v u Q I2 rx ry q)
theorem Qeb{op:UnaryOp}{r:V->Hp->VK->Prop}(ho:UnR X (unaryOp op) r)(ha:PE X a ta):PE X (.UnaryOp op a pos) (tUn r ta):=by
 intro pins s σ H Q I h
 exact UnaryOp_ (j0 (ha pins s σ H _ I h) fun v s1 ⟨x,H1,I1,r1,q1⟩=>ho pins s1 σ H1 x v Q I1 r1 q1)
theorem opI{f:Value->Value->Sem Value}{C:Int->Int->Prop}{g:Int->Int->Int}
 (rule:∀(i j:Int)(t u:Tok)(s:Shared)(Q:QpL)(E:QpL),C i j->Q (.int (g i j) s.toks) { s with toks:=s.toks+1 }->wpAny (model X.prog X.w) X.A (f (.int i t) (.int j u)) Q E s) :
 uz X f (rI C fun i j=>.int (g i j)):=by
 intro pins s σ H x y v u Q I rx ry h
 obtain⟨i,j,rfl,rfl,hc,q⟩:=h
 obtain⟨t,rfl⟩:=rx
 obtain⟨t',rfl⟩:=ry
 exact rule i j t t' s _ _ hc ⟨.int (g i j),H,I.tok _,⟨_,rfl⟩,q⟩
theorem opI0{f:Value->Value->Sem Value}{g:Int->Int->Int}
 (rule:∀(i j:Int)(t u:Tok)(s:Shared)(Q:QpL)(E:QpL),Q (.int (g i j) s.toks) { s with toks:=s.toks+1 }->wpAny (model X.prog X.w) X.A (f (.int i t) (.int j u)) Q E s) :
 uz X f (rI0 fun i j=>.int (g i j)):=by
 intro pins s σ H x y v u Q I rx ry h
 obtain⟨i,j,rfl,rfl,q⟩:=h
 obtain⟨t,rfl⟩:=rx
 obtain⟨t',rfl⟩:=ry
 exact rule i j t t' s _ _ ⟨.int (g i j),H,I.tok _,⟨_,rfl⟩,q⟩
theorem QnH{f:Value->Value->Sem Value}{g:Int->Int->Bool}
 (rule:∀(i j:Int)(t u:Tok)(s:Shared)(Q:QpL)(E:QpL),Q (.bool (g i j)) s->wpAny (model X.prog X.w) X.A (f (.int i t) (.int j u)) Q E s) :
 uz X f (rI0 fun i j=>.bl (g i j)):=by
 intro pins s σ H x y v u Q I rx ry h
 obtain⟨i,j,rfl,rfl,q⟩:=h
 obtain⟨t,rfl⟩:=rx
 obtain⟨t',rfl⟩:=ry
 exact rule i j t t' s _ _ ⟨.bl (g i j),H,I,rfl,q⟩
def CDiv(i j:Int):Prop:=0<j/\j<1073741824
def CPow(i j:Int):Prop:=0<=j/\j<=1000000/\i.natAbs<2 ^ 64
def QpJ(i j:Int):Prop:=(-(2 ^ 64)<i/\i<2 ^ 64)\/(-(2 ^ 64)<j/\j<2 ^ 64)
theorem QpJ.ok{i j:Int}(h:QpJ i j):IntMulOk i j:=by
 rcases h with⟨h1,h2⟩ | ⟨h1,h2⟩
 .exact .of_left (intBits_le_64 h1 h2)
 .exact .of_right (intBits_le_64 h1 h2)
theorem QQ:uz X (binaryOp .Add) (rI0 fun i j=>.int (i+j)):=opI0 fun _ _ _ _ _ _ _ q=>add_int q
theorem QhS:uz X (binaryOp .Sub) (rI0 fun i j=>.int (i - j)):=opI0 fun _ _ _ _ _ _ _ q=>sub_int q
theorem Qej:uz X (binaryOp .Mult) (rI QpJ fun i j=>.int (i*j)):=opI fun _ _ _ _ _ _ _ hc q=>mul_int q hc.ok
theorem Qgg:uz X (binaryOp .FloorDiv) (rI CDiv fun i j=>.int (i / j)):=opI fun i j _ _ _ _ _ hc q=>by
 have h1:(0:Int)<j:=hc.1
 have h2:j<1073741824:=hc.2
 exact floordiv_int (by omega) (by rw[Int.fdiv_eq_ediv_of_nonneg i (by omega)];exact q) (.inl (PyProof.noPylong_small (by omega)))
theorem QM:uz X (binaryOp .Mod) (rI (fun _ j=>0<j) fun i j=>.int (i % j)):=opI fun i j _ _ _ _ _ hc q=>by
 have h1:(0:Int)<j:=hc
 exact mod_int' (by omega) (by rw[Int.fmod_eq_emod_of_nonneg i (by omega)];exact q)
theorem QhT:uz X (binaryOp .Pow) (rI CPow fun i j=>.int (i ^ j.toNat)):=opI fun _ _ _ _ _ _ _ hc q=>pow_int_small hc.1 hc.2.1 hc.2.2 q
theorem unI{f:Value->Sem Value}{g:Int->Int}
 (rule:∀(i:Int)(t:Tok)(s:Shared)(Q:QpL)(E:QpL),Q (.int (g i) s.toks) { s with toks:=s.toks+1 }->wpAny (model X.prog X.w) X.A (f (.int i t)) Q E s) :
 UnR X f (rU fun i=>.int (g i)):=by
 intro pins s σ H x v Q I rx h
 obtain⟨i,rfl,q⟩:=h
 obtain⟨t,rfl⟩:=rx
 exact rule i t s _ _ ⟨.int (g i),H,I.tok _,⟨_,rfl⟩,q⟩
theorem Qai:UnR X (unaryOp .USub) (rU fun i=>.int (-i)):=unI fun _ _ _ _ _ q=>neg_int q
end
def scal:V->V->Bool
 | .non,.non=>true | .non,.int _=>true | .int _,.non=>true | .non,.bl _=>true | .bl _,.non=>true | .non,.str _=>true | .str _,.non=>true
 | .int _,.int _=>true | .bl _,.bl _=>true | .str _,.str _=>true | .byt _,.byt _=>true
 | .int _,.str _=>true | .str _,.int _=>true | .bl _,.str _=>true | .str _,.bl _=>true
 | _,_=>false
def rEq:R2:=fun x y H Q=>scal x y=true/\Q (.bl (decide (x=y))) H
def rNe:R2:=fun x y H Q=>scal x y=true/\Q (.bl (!decide (x=y))) H
theorem Qb2{i j:Int}:decide (V.int i=V.int j)=(i == j):=by
 rw[QfC]
 simp
theorem Qfh{i j:Bool}:decide (V.bl i=V.bl j)=(i == j):=by
 rw[QfC]
 simp
theorem Qb1{i j:Str}:decide (V.str i=V.str j)=(i == j):=by
 rw[QfC]
 simp
theorem Qb3{i j:Array UInt8}:decide (V.byt i=V.byt j)=(i.toList == j.toList):=by
 rw[QfC]
 cases i
 cases j
 simp
section
variable {X:Cx}{a b c:Expr}{ta tb tc:TE}{pos:Pos}
theorem QL{pins:List (Addr×Obj)}{σ:St}{H:Hp}{s:Shared}{Q:VK}{k k':Bool}(I:Inv X pins σ H s)(q:Q (.bl k) H)(e:k=k'):EP X pins σ Q (.bool k') s:=by
 subst e
 exact⟨.bl k,H,I,rfl,q⟩
theorem JJ:uz X (compareOp .Eq) rEq:=by
 intro pins s σ H x y v u Q I rx ry h
 obtain⟨hs,q⟩:=h
 cases x with
 | non =>
   cases rx
   cases y with
   | non=>cases ry;exact PySem.EqNone.eq_none_none (QL I q (by simp))
   | bl j=>cases ry;exact PySem.EqNone.eq_none_bool (QL I q (by simp))
   | int j=>obtain⟨t',rfl⟩:=ry;exact PySem.EqNone.eq_none_int (QL I q (by simp))
   | str j=>obtain⟨t',rfl⟩:=ry;exact PySem.EqNone.eq_none_str (QL I q (by simp))
   | _=>exact absurd (show false=true from hs) q8
 | bl i =>
   cases rx
   cases y with
   | non=>cases ry;exact PySem.EqNone.eq_bool_none (QL I q (by simp))
   | bl j=>cases ry;exact eq_bool (QL I q Qfh)
   | str j=>obtain⟨t',rfl⟩:=ry;exact PySem.EqMixed.eq_bool_str (QL I q (by simp))
   | _=>exact absurd (show false=true from hs) q8
 | int i =>
   obtain⟨t,rfl⟩:=rx
   cases y with
   | non=>cases ry;exact PySem.EqNone.eq_int_none (QL I q (by simp))
   | int j=>obtain⟨t',rfl⟩:=ry;exact eq_int (QL I q Qb2)
   | str j=>obtain⟨t',rfl⟩:=ry;exact PySem.EqMixed.eq_int_str (QL I q (by simp))
   | _=>exact absurd (show false=true from hs) q8
 | str i =>
   obtain⟨t,rfl⟩:=rx
   cases y with
   | non=>cases ry;exact PySem.EqNone.eq_str_none (QL I q (by simp))
   | bl j=>cases ry;exact PySem.EqMixed.eq_str_bool (QL I q (by simp))
   | int j=>obtain⟨t',rfl⟩:=ry;exact PySem.EqMixed.eq_str_int (QL I q (by simp))
   | str j=>obtain⟨t',rfl⟩:=ry;exact eq_str (QL I q Qb1)
   | _=>exact absurd (show false=true from hs) q8
 | byt i =>
   obtain⟨t,rfl⟩:=rx
   cases y with
   | byt j=>obtain⟨t',rfl⟩:=ry;exact PySem.W.eq_bytes (QL I q Qb3)
   | _=>exact absurd (show false=true from hs) q8
 | _=>cases y <;> exact absurd (show false=true from hs) q8
theorem Qbv:uz X (compareOp .NotEq) rNe:=by
 intro pins s σ H x y v u Q I rx ry h
 obtain⟨hs,q⟩:=h
 cases x with
 | non =>
   cases rx
   cases y with
   | non=>cases ry;exact PySem.EqNone.ne_none_none (QL I q (by simp))
   | bl j=>cases ry;exact PySem.EqNone.ne_none_bool (QL I q (by simp))
   | int j=>obtain⟨t',rfl⟩:=ry;exact PySem.EqNone.ne_none_int (QL I q (by simp))
   | str j=>obtain⟨t',rfl⟩:=ry;exact PySem.EqNone.ne_none_str (QL I q (by simp))
   | _=>exact absurd (show false=true from hs) q8
 | bl i =>
   cases rx
   cases y with
   | non=>cases ry;exact PySem.EqNone.ne_bool_none (QL I q (by simp))
   | bl j=>cases ry;exact ne_bool (QL I q (zB not Qfh))
   | str j=>obtain⟨t',rfl⟩:=ry;exact PySem.EqMixed.ne_bool_str (QL I q (by simp))
   | _=>exact absurd (show false=true from hs) q8
 | int i =>
   obtain⟨t,rfl⟩:=rx
   cases y with
   | non=>cases ry;exact PySem.EqNone.ne_int_none (QL I q (by simp))
   | int j=>obtain⟨t',rfl⟩:=ry;exact ne_int (QL I q (zB not Qb2))
   | str j=>obtain⟨t',rfl⟩:=ry;exact PySem.EqMixed.ne_int_str (QL I q (by simp))
   | _=>exact absurd (show false=true from hs) q8
 | str i =>
   obtain⟨t,rfl⟩:=rx
   cases y with
   | non=>cases ry;exact PySem.EqNone.ne_str_none (QL I q (by simp))
   | bl j=>cases ry;exact PySem.EqMixed.ne_str_bool (QL I q (by simp))
   | int j=>obtain⟨t',rfl⟩:=ry;exact PySem.EqMixed.ne_str_int (QL I q (by simp))
   | str j=>obtain⟨t',rfl⟩:=ry;exact ne_str (QL I q (zB not Qb1))
   | _=>exact absurd (show false=true from hs) q8
 | byt i =>
   obtain⟨t,rfl⟩:=rx
   cases y with
   | byt j=>obtain⟨t',rfl⟩:=ry;exact PySem.W.ne_bytes (QL I q (zB not Qb3))
   | _=>exact absurd (show false=true from hs) q8
 | _=>cases y <;> exact absurd (show false=true from hs) q8
theorem Qbw:uz X (compareOp .Lt) (rI0 fun i j=>.bl (decide (i<j))):=QnH fun _ _ _ _ _ _ _ q=>lt_int q
theorem Vl:uz X (compareOp .LtE) (rI0 fun i j=>.bl (decide (i<=j))):=QnH fun _ _ _ _ _ _ _ q=>le_int q
theorem XD:uz X (compareOp .Gt) (rI0 fun i j=>.bl (decide (j<i))):=QnH fun _ _ _ _ _ _ _ q=>gt_int q
theorem op_ge:uz X (compareOp .GtE) (rI0 fun i j=>.bl (decide (j<=i))):=QnH fun _ _ _ _ _ _ _ q=>ge_int q
theorem XC:uz X (compareOp .In) (fun x y H Q=>∃i j,x=.str i/\y=.str j/\Q (.bl (!(Builtin.Str.occurrences j i 0 j.length 1).isEmpty)) H):=by
 intro pins s σ H x y v u Q I rx ry h
 obtain⟨i,j,rfl,rfl,q⟩:=h
 obtain⟨t,rfl⟩:=rx
 obtain⟨t',rfl⟩:=ry
 exact in_str (QL I q rfl)
theorem QhU:uz X (compareOp .Is) (fun x y H Q=>y=.non/\Q (.bl (decide (x=.non))) H):=by
 intro pins s σ H x y v u Q I rx ry h
 obtain⟨rfl,q⟩:=h
 cases ry
 refine is_none_gen (QL I q ?_)
 cases x <;> first
  | (cases rx;rfl)
  | (obtain⟨t,rfl⟩:=rx;rfl)
theorem Qez(b:Expr){op:CmpOp}(h:op≠.In:=by decide)(h2:op≠.NotIn:=by decide):behindInMarks op b=false:=by
 have e1:(op == CmpOp.In)=false:=by cases op <;> first | rfl | exact absurd rfl h
 have e2:(op == CmpOp.NotIn)=false:=by cases op <;> first | rfl | exact absurd rfl h2
 cases b <;> simp[behindInMarks,e1,e2]
theorem Z5{op:CmpOp}{r:R2}(ho:uz X (compareOp op) r)(ha:PE X a ta)(hb:PE X b tb)(hm:behindInMarks op b=false:=by exact Qez _):PE X (.Compare a [op] [b] pos) (tOp r ta tb):=by
 intro pins s σ H Q I h
 exact wpAny_Compare1 (Qpx ha hb I h fun v u s2 x y H2 I2 rx ry q=>ho pins s2 σ H2 x y v u Q I2 rx ry q) hm
inductive Qa7(Q:(Bool->Hp->Prop))(x:V)(H':Hp):Prop
 | mk:∀k,x=.bl k->Q k H'->Qa7 Q x H'
def Qdv(t:TE):TT:=fun σ H Q=>t σ H fun x H'=>Qa7 Q x H'
theorem Qu{op:CmpOp}{r:R2}(ho:uz X (compareOp op) r)(ha:PE X a ta)(hb:PE X b tb)(hm:behindInMarks op b=false:=by exact Qez _):PT X (.Compare a [op] [b] pos) (Qdv (tOp r ta tb)):=by
 intro pins s σ H Q I h
 refine wpAny_isTrue_Compare1 (j0 (ha pins s σ H _ I h) fun v s1 ⟨x,H1,I1,r1,q1⟩=>j0 (hb pins s1 σ H1 _ I1 q1) fun u s2 ⟨y,H2,I2,r2,q2⟩ =>
  j0 (ho pins s2 σ H2 x y v u _ I2 r1 r2 q2) fun c s3 ⟨z,H3,I3,r3,k,e,q3⟩=>?_) hm
 subst e
 cases r3
 exact jz ⟨H3,I3,q3⟩
def QdA(r r':R2)(ta tb tc:TE):TE:=fun σ H Q=>ta σ H fun x H1=>tb σ H1 fun y H2=>r x y H2 fun z H3=>∃k,z=.bl k /\
 (if k=true then tc σ H3 fun w' H4=>r' y w' H4 Q else Q (.bl false) H3)
theorem Gj{op op':CmpOp}{r r':R2}(ho:uz X (compareOp op) r)(ho':uz X (compareOp op') r')(ha:PE X a ta)(hb:PE X b tb)(hc:PE X c tc)
 (hm:lastMarks [op,op'] [b,c]=false:=by with_unfolding_all rfl):PE X (.Compare a [op,op'] [b,c] pos) (QdA r r' ta tb tc):=by
 intro pins s σ H Q I h
 refine Compare_chain (j0 (ha pins s σ H _ I h) fun v s1 ⟨x,H1,I1,r1,q1⟩=>chain_link (j0 (hb pins s1 σ H1 _ I1 q1) fun u s2 ⟨y,H2,I2,r2,q2⟩ =>
  j0 (ho pins s2 σ H2 x y v u _ I2 r1 r2 q2) fun d s3 ⟨z,H3,I3,r3,k,e,q3⟩=>?_)) hm
 subst e
 cases r3
 refine jz ?_
 cases k with
 | false=>exact ite_ff ⟨.bl false,H3,I3,rfl,q3⟩
 | true=>exact ite_tt (chain_last (j0 (hc pins s3 σ H3 _ I3 q3) fun w' s4 ⟨z',H4,I4,r4,q4⟩=>ho' pins s4 σ H4 y z' u w' Q I4 r2 r4 q4))
theorem Qd7{op op':CmpOp}{r r':R2}(ho:uz X (compareOp op) r)(ho':uz X (compareOp op') r')(ha:PE X a ta)(hb:PE X b tb)(hc:PE X c tc)
 (hm:lastMarks [op,op'] [b,c]=false:=by with_unfolding_all rfl):PT X (.Compare a [op,op'] [b,c] pos) (Qdv (QdA r r' ta tb tc)):=by
 intro pins s σ H Q I h
 refine isTrue_chain (j0 (ha pins s σ H _ I h) fun v s1 ⟨x,H1,I1,r1,q1⟩=>test_link (j0 (hb pins s1 σ H1 _ I1 q1) fun u s2 ⟨y,H2,I2,r2,q2⟩ =>
  j0 (ho pins s2 σ H2 x y v u _ I2 r1 r2 q2) fun d s3 ⟨z,H3,I3,r3,k,e,q3⟩=>?_)) hm
 subst e
 cases r3
 refine jz ?_
 cases k with
 | false =>
   obtain⟨k',e',q'⟩:=q3
   cases e'
   exact ite_ff ⟨H3,I3,q'⟩
 | true =>
   refine ite_tt (test_last (j0 (hc pins s3 σ H3 _ I3 q3) fun w' s4 ⟨z',H4,I4,r4,q4⟩=>j0 (ho' pins s4 σ H4 y z' u w' _ I4 r2 r4 q4) fun d' s5 ⟨z2,H5,I5,r5,k2,e2,q5⟩=>?_))
   subst e2
   cases r5
   exact jz ⟨H5,I5,q5⟩
def TruV(K:Frag)(x:V)(H:Hp)(k:Bool):Prop :=
 match x with
 | .non=>k=false
 | .bl b=>k=b
 | .int i=>k=(i != 0)
 | .str y=>y.length<=sizeLine/\k=((y.length:Int) != 0)
 | .byt y=>y.size<=sizeLine/\k=((y.size:Int) != 0)
 | .ref p=>(∃xs,jk K H p xs/\k = !xs.isEmpty)\/(∃xs,yu K H p xs/\k = !xs.isEmpty)\/∃kvs,H p=some (.dK kvs)/\k = !kvs.isEmpty
 | _=>False
theorem QaV{κ:Type}{kvs:List (κ×V)}{vs:List (κ×Value)}(r:KV kvs vs):(!vs.isEmpty) = !kvs.isEmpty:=by
 cases r <;> rfl
theorem WB{xs:List V}{its:QpM}(r:Qx xs its):(!its.toArray.isEmpty) = !xs.isEmpty:=by
 cases r <;> simp
theorem Ui:(sizeLine:Nat)<2 ^ 63:=by rw[zU];decide
theorem Qho:TruR X (fun x H Q=>∃k,TruV X.K x H k/\Q k H):=by
 intro pins s σ H x v Q I rx h
 obtain⟨k,e,q⟩:=h
 have hl:=Ui
 have hs:sizeLine=16777216:=zU
 cases x with
 | non =>
   cases rx
   have e':k=false:=e
   subst e'
   exact truthy_none ⟨H,I,q⟩
 | bl b =>
   cases rx
   have e':k=b:=e
   subst e'
   exact jz ⟨H,I,q⟩
 | int i =>
   obtain⟨t,rfl⟩:=rx
   have e':k=(i != 0):=e
   subst e'
   exact PySem.P.truthy_int ⟨H,I,q⟩
 | str y =>
   obtain⟨t,rfl⟩:=rx
   obtain⟨hy,e'⟩:y.length<=sizeLine/\k=((y.length:Int) != 0):=e
   subst e'
   exact PySem.P.truthy_str (by omega) ⟨H,I.tok _,q⟩
 | byt y =>
   obtain⟨t,rfl⟩:=rx
   obtain⟨hy,e'⟩:y.size<=sizeLine/\k=((y.size:Int) != 0):=e
   subst e'
   exact PySem.W.truthy_bytes (by omega) ⟨H,I.tok _,q⟩
 | ref p =>
   cases rx
   have e':(∃xs,jk X.K H p xs/\k = !xs.isEmpty)\/(∃xs,yu X.K H p xs/\k = !xs.isEmpty)\/∃kvs,H p=some (.dK kvs)/\k = !kvs.isEmpty:=e
   rcases e' with⟨xs,hx,e'⟩ | ⟨xs,hx,e'⟩ | ⟨kvs,hx,e'⟩
   .subst e'
    obtain⟨its,r,pl,hz⟩:=I.list hx
    have hlen:=r.length
    exact wpAny_truthy_list pl.isList (by simp only[qM];omega) ⟨H,I.tok _,by rw[WB r];exact q⟩
   .subst e'
    obtain⟨its,r,pl,hz⟩:=I.tuple hx
    have hlen:=r.length
    exact truthy_tuple pl (by simp only[qM];omega) ⟨H,I.tok _,by rw[WB r];exact q⟩
   .subst e'
    obtain⟨hz,hS,vs,r,m⟩:kvs.length<=sizeLine/\(p == sysModules)=false/\∃vs,KV kvs vs/\s.heap.DictOf (QW X.prog X.w) p vs:=I.hok p _ hx
    have hlen:kvs.length=vs.length:=Paired.length r
    exact wpAny_truthy_dict hS m (by omega) ⟨H,I.tok _,by rw[QaV r];exact q⟩
 | _=>exact(show False from e).elim
theorem Qd6(ha:PE X a ta)(he:∀whole,isTrue a X.env whole=(do let v <-whole;standAt a.pos;holding [v] (truthy v))) :
 PT X a (fun σ H Q=>ta σ H fun x H'=>∃k,TruV X.K x H' k/\Q k H'):=by
 intro pins s σ H Q I h
 exact isTrue_plain (j0 (ha pins s σ H _ I h) fun v s1 ⟨x,H1,I1,r1,q1⟩=>Qho pins s1 σ H1 x v Q I1 r1 q1) (he _)
theorem Zq:uz X (binaryOp .Add) (fun x y H Q=>∃i j,x=.str i/\y=.str j/\i.length+j.length<=sizeLine/\Q (.str (i++j)) H):=by
 intro pins s σ H x y v u Q I rx ry h
 obtain⟨i,j,rfl,rfl,hz,q⟩:=h
 obtain⟨t,rfl⟩:=rx
 obtain⟨t',rfl⟩:=ry
 exact add_str (fun t' tk=>⟨.str (i++j),H,I.tok _,⟨_,rfl⟩,q⟩) hz
theorem Vh{x:V}{us:QpM}(r:Qx [x] us):∃u,us=[u]/\QC x u:=by
 cases r with
 | cons r1 r2=>cases r2;exact⟨_,rfl,r1⟩
theorem QgU{x y:V}{us:QpM}(r:Qx [x,y] us):∃u w',us=[u,w']/\QC x u/\QC y w':=by
 cases r with
 | cons r1 r2 =>
   cases r2 with
   | cons r3 r4=>cases r4;exact⟨_,_,rfl,r1,r3⟩
theorem Qdb(hc:X.calm=true):YM X (.builtin "max") (fun xs H Q=>∃i j,xs=[.int i,.int j]/\Q (.int (if j > i then j else i)) H):=by
 intro pins s σ H xs us Q I r h
 obtain⟨i,j,rfl,q⟩:=h
 obtain⟨u,w',rfl,⟨t,rfl⟩,⟨t',rfl⟩⟩:=QgU r
 refine max_two_ints (I.ok.hd hc) fun h' tk k=>⟨_,H,I.kept k,?_,q⟩
 by_cases hj:j > i
 .rw[qj hj,qj hj];exact⟨_,rfl⟩
 .rw[ql hj,ql hj];exact⟨_,rfl⟩
theorem Jo:YM X (.type "str") (fun xs H Q=>∃i,xs=[.int i]/\i.natAbs.log2<1920/\Q (.str (toString i)) H):=by
 intro pins s σ H xs us Q I r h
 obtain⟨i,rfl,hz,q⟩:=h
 obtain⟨u,rfl,t,rfl⟩:=Vh r
 exact PySem.P.str_of_int hz ⟨.str _,H,I.tok _,⟨_,rfl⟩,q⟩
end
end L2
namespace L2
open PySem PySem.Spec PyProof.Rows
structure Qa6(h:Heap)(x dx C:Addr)(mA:Str->Option Value):Prop where
 obj:h.get? x=some (instObj C dx)
 ns:h.Ns1 dx mA
 ne:dx≠x
theorem QcQ{h:Heap}{dx:Addr}{mA:Str->Option Value}(n:h.Ns1 dx mA):∃od,h.get? dx=some od/\∀name,lookIn name od=some (mA name):=by
 obtain⟨o,es,ep,ho,hd,hk,_,hm⟩:=n
 refine⟨o,ho,fun name=>?_⟩
 have e:=hm name
 unfold nsFind findBy at e
 rw[<-Array.find?_toList] at e
 unfold lookIn
 rw[hd]
 dsimp only
 split
 .rename_i y q
  rw[q] at e
  exact zB some e
 .rename_i q
  rw[q] at e
  have a:es.toList.any (·.refKey)=false:=by
   rw[List.any_eq_false]
   intro y hy
   obtain⟨z,t,hkey⟩:=hk y (Array.mem_toList_iff.mp hy)
   simp[DictEntry.refKey,hkey]
  have a':¬es.toList.any (·.refKey)=true:=by rw[a];exact q8
  rw[ql a']
  exact zB some e
theorem Qa6.look{h:Heap}{x dx C:Addr}{mA:Str->Option Value}(I:Qa6 h x dx C mA):∃od,PySem.W.InstAt h x (instObj C dx) C (some od)/\∀name,lookIn name od=some (mA name) :=
 let ⟨od,ho,hl⟩:=QcQ I.ns
 ⟨od,⟨I.obj,rfl,rfl,ho⟩,hl⟩
section
variable {prog:Program}{w:World}{A:Around}{E:QpL}{s:Shared}{K:Frag}{x dx C f:Addr}{mA:Str->Option Value}{name:Str}{v:Value}
theorem QgH{expr:Bool}{Q:QpL}(X:K.In s.heap)(I:Qa6 s.heap x dx C mA)(hg:plainGet K C name=true)(hh:hasDictIn K C=true)
 (ha:findIn K (.ref C) name=some none) (hv:mA name=some v) (hv':handedIn v=true) (h:Q v { s with toks:=s.toks+1 }) :
 wpAny (model prog w) A (getAttr (.ref x) name expr) Q E s:=by
 obtain⟨od,J,hl⟩:=I.look
 exact PySem.W.get_value X J (plainGet_of hg).1 (PySem.W.findObj_own hh ha rfl (by rw[hl,hv])) hv' h
theorem Qe3{pl:Sem Bool}{Q:Value×QpM->Shared->Prop}(X:K.In s.heap)(I:Qa6 s.heap x dx C mA)(hg:plainGet K C name=true)
 (hf:findIn K (.ref C) name=some (some (.ref f))) (ht:isFn K (.ref f)=true) (hv:mA name=none) (h:Q (.ref f,[.ref x]) s) :
 wpAny (model prog w) A (getMethod (.ref x) name pl) Q E s:=by
 obtain⟨od,J,hl⟩:=I.look
 exact PySem.W.method_fn X J (plainGet_of hg).1 (plainGet_of hg).2 hf (qW.mp ht) (by show(lookIn name od).map (·.isSome)=some false;rw[hl,hv];rfl) h
theorem QfV{ns:QpK}{Q:Unit->Shared->Prop}(X:K.In s.heap)(I:Qa6 s.heap x dx C mA)
 (hs:findIn K (.ref C) "__setattr__"=some (some (.builtin "object.__setattr__"))) (hp:plainOver K C=true) (ht:takerIn K C name=some none) (hh:hasDictIn K C=true)
 (hw:PySem.Within mA ns) (hsz:ns.length<=sizeLine)
 (h:∀h',Qa6 h' x dx C (fun y=>if y=name then some v else mA y)->Heap.SameBut dx s.heap h'->Q () { s with heap:=h',toks:=s.toks+2 }) :
 wpAny (model prog w) A (setAttr (.ref x) name v) Q E s:=by
 obtain⟨od,J,hl⟩:=I.look
 refine PySem.W.set_plain X J hs (PySem.W.osa_open (s:={ s with toks:=s.toks+1 }) (r:=none) X J hp ht fun b=>?_)
 obtain⟨cd,hc,hd'⟩:=PySem.W.any_some hh
 have hx:s.heap.get? x=some ⟨.ref C,some dx,.plain,#[]⟩:=I.obj
 refine qb (qx (qb (qb (wpAny_loadPart hx (qb (PySem.W.Looks.here (s:={ s with toks:=s.toks+1 }) (PySem.W.looks_clsIn X hc) ?_))))))
 rw[hd']
 refine qx (a:=some dx) (qb (qx (qb ?_)))
 refine wpAny_nsSet1 (s:={ s with toks:=s.toks+1 }) I.ns fun h' hn2 hs2=>?_
 obtain⟨oD,esD,epD,hoD,hdD,hcD⟩:=hn2.count (PySem.Within.cons name v hw)
 refine qb (wpAny_lookBehind hoD (by rw[hdD];exact pastItsLine_dict (zf hcD (by rw[zm];omega))) ?_)
 exact qx (h _ ⟨(hs2.2 _ (gC I.ne)).trans I.obj,hn2,I.ne⟩ hs2)
theorem GE{R:Result->Shared->Prop}{vs:QpM}{kw:List (Str×Value)}(X:K.In s.heap)(hm:makesIn K C=true)
 (hi:findIn K (.ref C) "__init__"=some (some (.ref f))) (hf:PySem.W.typeIn K (.ref f)=some (.type "function"))
 (h:codeAny (model prog w) (A.under (.builtin "type.__call__" ⟨.ref C :: vs,kw⟩)) (.call (.ref f) ⟨.ref (s.heap.objs.size+1) :: vs,kw⟩) (PySem.W.InitBack (s.heap.objs.size+1) R)
   { s with heap:=(s.heap.push emptyDict).push (instObj C s.heap.objs.size) }) :
 codeAny (model prog w) A (.call (.ref C) ⟨vs,kw⟩) R s:=by
 obtain⟨hh,g,d,t,os⟩:=s
 exact PySem.W.make_core (PySem.W.makes_of X hm) (PySem.W.looks_findIn X hi) (fun self=>PySem.W.bind_fn X self hf) (.inl rfl) h
end
def Yj(f:Str)(v:V):List (Str×V)->List (Str×V)
 | []=>[(f,v)]
 | (g,x) :: r=>if g=f then (g,v) :: r else (g,x) :: Yj f v r
theorem Vp(f g:Str)(v:V):∀fs:List (Str×V),(Yj f v fs).lookup g=if g=f then some v else fs.lookup g
 | []=>by
   show List.lookup g [(f,v)]=_
   by_cases h:g=f
   .have hb:(g == f)=true:=qW.mpr h
    simp only[List.lookup,hb,qj h]
   .have hb:(g == f)=false:=yU.mpr h
    simp only[List.lookup,hb,ql h]
 | (k,x) :: r=>by
   have ih:=Vp f g v r
   rw[show Yj f v ((k,x) :: r)=(if k=f then (k,v) :: r else (k,x) :: Yj f v r) from rfl]
   by_cases hk:k=f
   .rw[qj hk]
    by_cases h:g=k
    .have hb:(g == k)=true:=qW.mpr h
     simp only[List.lookup,hb,qj (h.trans hk)]
    .have hb:(g == k)=false:=yU.mpr h
     simp only[List.lookup,hb,ql (fun e:g=f=>h (e.trans hk.symm))]
   .rw[ql hk]
    by_cases h:g=k
    .have hb:(g == k)=true:=qW.mpr h
     simp only[List.lookup,hb,ql (fun e:g=f=>hk (h.symm.trans e))]
    .have hb:(g == k)=false:=yU.mpr h
     simp only[List.lookup,hb]
     exact ih
theorem Va(f:Str)(v:V):∀fs:List (Str×V),f∈(Yj f v fs).map (·.1)/\∀g,g∈fs.map (·.1)->g∈(Yj f v fs).map (·.1)
 | []=>⟨by simp[Yj],fun g h=>by simp at h⟩
 | (k,x) :: r=>by
   obtain⟨i1,i2⟩:=Va f v r
   rw[show Yj f v ((k,x) :: r)=(if k=f then (k,v) :: r else (k,x) :: Yj f v r) from rfl]
   by_cases hk:k=f
   .rw[qj hk]
    subst hk
    exact⟨by simp,fun g h=>by simpa using h⟩
   .rw[ql hk]
    refine⟨?_,fun g h=>?_⟩
    .rw[z7]
     exact qu _ i1
    .rw[z7] at h ⊢
     rcases qR.mp h with e | e
     .exact qR.mpr (.inl e)
     .exact qu _ (i2 g e)
theorem Vr(f:Str)(v:V):∀fs:List (Str×V),(Yj f v fs).length<=fs.length+1
 | []=>by simp[Yj]
 | (k,x) :: r=>by
   have ih:=Vr f v r
   rw[show Yj f v ((k,x) :: r)=(if k=f then (k,v) :: r else (k,x) :: Yj f v r) from rfl]
   by_cases hk:k=f
   .rw[qj hk,zm,zm];omega
   .rw[ql hk,zm,zm];omega
theorem YA.some_of{v:V}{o:Option Value}(r:YA (some v) o):∃u,o=some u/\QC v u:=by
 cases o with
 | none=>exact(show False from r).elim
 | some u=>exact⟨u,rfl,r⟩
theorem YA.none_of{o:Option Value}(r:YA none o):o=none:=by
 cases o with
 | none=>rfl
 | some u=>exact(show False from r).elim
theorem Qc2{v:V}{u:Value}(r:QC v u):handedIn u=true:=by
 cases v with
 | non=>cases (show u=Value.none from r);rfl
 | bl b=>cases (show u=Value.bool b from r);rfl
 | int i=>obtain⟨t,e⟩:=(show ∃t,u=Value.int i t from r);cases e;rfl
 | str x=>obtain⟨t,e⟩:=(show ∃t,u=Value.str x t from r);cases e;rfl
 | byt b=>obtain⟨t,e⟩:=(show ∃t,u=Value.bytes b t from r);cases e;rfl
 | flt b=>obtain⟨t,e⟩:=(show ∃t,u=Value.float b t from r);cases e;rfl
 | ref a=>cases (show u=Value.ref a from r);rfl
 | ty n=>cases (show u=Value.type n from r);rfl
section
variable {P:Program}{w:World}{H H':Hp}{h h':Heap}{a C dx:Addr}{fs fs':List (Str×V)}
theorem VH(hok:gq P w H h)(e:H a=some (.ins C dx fs)):∃mA,Qa6 h a dx C mA/\(∀f,YA (fs.lookup f) (mA f))/\PySem.Within mA (fs.map (·.1))/\fs.length<=1000/\H dx=some (.own a):=by
 obtain⟨d,z,ne,ob,mA,n,r,q⟩:=(show QG P w H h a (.ins C dx fs) from hok a _ e)
 exact⟨mA,⟨ob,n,ne⟩,r,q,z,d⟩
end
structure Cls(K:Frag)(C:Addr):Prop where
 pg:plainGet K C Str.empty=true
 hd:hasDictIn K C=true
 po:plainOver K C=true
 sa:findIn K (.ref C) "__setattr__"=some (some (.builtin "object.__setattr__"))
theorem Cls.get{K:Frag}{C:Addr}(c:Cls K C)(f:Str):plainGet K C f=true:=c.pg
def ZF(K:Frag)(C:Addr)(f:Str):Prop:=findIn K (.ref C) f=some none
theorem ZF.taker{K:Frag}{C:Addr}{f:Str}(n:ZF K C f):takerIn K C f=some none:=by
 unfold takerIn
 rw[show findIn K (.ref C) f=some none from n]
 rfl
structure W2(K:Frag)(C:Addr)(m:Str)(f:Addr):Prop where
 at_:findIn K (.ref C) m=some (some (.ref f))
 fn:isFn K (.ref f)=true
 kp:keepIn K (.ref f)=true
section
variable {X:Cx}{pins:List (Addr×Obj)}{σ:St}{H:Hp}{s:Shared}{a C dx:Addr}{fs:List (Str×V)}{f:Str}{v:V}{A:Around}{E:QpL}
theorem Qa1{b:Bool}{Q:QpL}(I:Inv X pins σ H s)(e:H a=some (.ins C dx fs))(c:Cls X.K C)(n:ZF X.K C f)(l:fs.lookup f=some v)
 (h:∀u s',Inv X pins σ H s'->QC v u->Q u s'):wpAny (model X.prog X.w) A (getAttr (.ref a) f b) Q E s:=by
 obtain⟨mA,O,r,_,_,_⟩:=VH I.hok e
 obtain⟨u,hu,ru⟩:=YA.some_of (v:=v) (o:=mA f) (by rw[<-l];exact r f)
 exact QgH I.uM O (c.get f) c.hd n hu (Qc2 ru) (h u _ (I.tok _) ru)
theorem Uk{m:Str}{g:Addr}{pl:Sem Bool}{Q:Value×QpM->Shared->Prop}(I:Inv X pins σ H s)(e:H a=some (.ins C dx fs))(c:Cls X.K C)(k:W2 X.K C m g)(l:fs.lookup m=none)
 (h:Q (.ref g,[.ref a]) s):wpAny (model X.prog X.w) A (getMethod (.ref a) m pl) Q E s:=by
 obtain⟨mA,O,r,_,_,_⟩:=VH I.hok e
 have hn:mA m=none:=YA.none_of (by rw[<-l];exact r m)
 exact Qe3 I.uM O (c.get m) k.at_ k.fn hn h
theorem Qau{y:V}{u:Value}{Q:Unit->Shared->Prop}(I:Inv X pins σ H s)(e:H a=some (.ins C dx fs))(c:Cls X.K C)(n:ZF X.K C f)(hl:fs.length<1000)(ry:QC y u)
 (h:∀s',Inv X pins σ (upd H a (.ins C dx (Yj f y fs))) s'->Q () s'):wpAny (model X.prog X.w) A (setAttr (.ref a) f u) Q E s:=by
 obtain⟨mA,O,r,wi,_,ho⟩:=VH I.hok e
 have hz:(fs.map (·.1)).length<=sizeLine:=by rw[qd,zU];omega
 refine QfV I.uM O c.sa c.po n.taker c.hd wi hz fun h' O' sb=>h _ ?_
 have hd:∃o,h'.get? dx=some o:=let ⟨o,_,_,e',_⟩:=O'.ns;⟨o,e'⟩
 refine I.write (x:=a) (e:=dx) (by rw[e];exact True.intro) (.inr ho) (fun b q hb z=>(sb.2 b hb).trans z) hd ?_
 refine⟨by rw[Qj O.ne];exact ho,?_,O.ne,O'.obj,_,O'.ns,fun g=>?_,fun g hg=>?_⟩
 .have:=Vr f y fs;omega
 .show YA ((Yj f y fs).lookup g) (if g=f then some u else mA g)
  rw[Vp]
  by_cases q:g=f
  .rw[qj q,qj q];exact ry
  .rw[ql q,ql q];exact r g
 .by_cases q:g=f
  .rw[q];exact(Va f y fs).1
  .refine(Va f y fs).2 g (wi g fun z=>hg ?_)
   show(if g=f then some u else mA g)=none
   rw[ql q];exact z
theorem Inv.made(I:Inv X pins σ H s):Inv X pins σ (upd (upd H s.heap.objs.size (.own (s.heap.objs.size+1))) (s.heap.objs.size+1) (.ins C s.heap.objs.size []))
 { s with heap:=(s.heap.push emptyDict).push (instObj C s.heap.objs.size) }:=by
 have e1:(s.heap.push emptyDict).get? s.heap.objs.size=some emptyDict:=qN s.heap rfl
 have e2:((s.heap.push emptyDict).push (instObj C s.heap.objs.size)).get? (s.heap.objs.size+1)=some (instObj C s.heap.objs.size):=by
  have:=qN (s.heap.push emptyDict) (o:=instObj C s.heap.objs.size) rfl
  rwa[Heap.size_push] at this
 have e3:(s.heap.push emptyDict).Ns s.heap.objs.size (fun _=>none):=⟨emptyDict,#[],_,e1,rfl,(fun e he=>absurd he (by simp)),fun _=>rfl⟩
 have I1:=I.laid (a:=s.heap.objs.size) (o:=.own (s.heap.objs.size+1)) (h':=s.heap.push emptyDict) (t':=s.toks) (fun b u q=>qw _ q) (qp _) ⟨_,e1⟩
 refine I1.laid (a:=s.heap.objs.size+1) (o:=.ins C s.heap.objs.size []) (t':=s.toks) (fun b u q=>qw _ q) (Nat.le_of_eq (Heap.size_push _ _)) ?_
 have ne:s.heap.objs.size≠s.heap.objs.size+1:=zp (yW _)
 refine⟨by rw[Qj ne,Qf],qP _,ne,e2,fun _=>none,(Heap.Ns1.of_empty e3).at fun o q=>qw _ q,fun _=>True.intro,fun y hy=>absurd rfl hy⟩
theorem QgP{prog:Program}{w:World}{env:Env}{e:Expr}{f:Str}{pos:Pos}{s:Shared}{Q:QpL}(hb:attributeBase e f env (eval e env)=eval e env)
 (h:wpAny (model prog w) A (eval e env) (fun o s₁=>wpAny (model prog w) A (getAttr o f true) Q E s₁) E s):wpAny (model prog w) A (eval (.Attribute e f pos) env) Q E s :=
 Attribute_any_ h (by rw[arm_eval_Attribute,hb])
end
inductive Qdy(K:Frag)(f:Str)(Q:VK)(x:V)(H1:Hp):Prop
 | mk:∀a C dx fs v,x=.ref a->H1 a=some (.ins C dx fs)->Cls K C->ZF K C f->fs.lookup f=some v->Q v H1->Qdy K f Q x H1
def tFld(K:Frag)(ta:TE)(f:Str):TE:=fun σ H Q=>ta σ H fun x H1=>Qdy K f Q x H1
inductive QdO(K:Frag)(f:Str)(D:JV)(σ:St)(y:V)(x:V)(H2:Hp):Prop
 | mk:∀a C dx fs,x=.ref a->H2 a=some (.ins C dx fs)->Cls K C->ZF K C f->fs.length<1000->D.nx σ (upd H2 a (.ins C dx (Yj f y fs)))->QdO K f D σ y x H2
def sFld(K:Frag)(ta tv:TE)(f:Str):TS:=fun D σ H=>tv σ H fun y H1=>ta σ H1 fun x H2=>QdO K f D σ y x H2
section
variable {X:Cx}{o e value:Expr}{f:Str}{pos pos' tpos:Pos}{ta tv:TE}
theorem Jb(he:PE X e ta)(hb:attributeBase e f X.env (eval e X.env)=eval e X.env):PE X (.Attribute e f pos) (tFld X.K ta f):=by
 intro pins s σ H Q I h
 refine QgP hb (j0 (he pins s σ H _ I h) fun u s1 ⟨x,H1,I1,rx,a,C,dx,fs,v,ex,ea,c,n,l,q⟩=>?_)
 subst ex
 obtain rfl:u=Value.ref a:=rx
 exact Qa1 I1 ea c n l fun u' s2 I2 ru=>⟨v,H1,I2,ru,q⟩
theorem Yk(ha:PE X o ta)(hv:PE X value tv)(hs:swapsWith value (some (.Attribute o f pos')) pos.line X.env=pure false):PS X (.Assign [.Attribute o f pos'] value pos) (sFld X.K ta tv f):=by
 intro pins s σ H D I h
 refine plainObj_wpAny_Assign_Attribute (j0 (hv pins s σ H _ I h) fun u s1 ⟨y,H1,I1,ry,q⟩=>j0 (ha pins s1 σ H1 _ I1 q) fun ov s2 ⟨x,H2,I2,rx,a,C,dx,fs,ex,ea,c,n,l,q2⟩=>?_) hs
 subst ex
 obtain rfl:ov=Value.ref a:=rx
 exact Qau I2 ea c n l ry fun s3 I3=>⟨σ,_,I3,q2⟩
end
section
variable {X:Cx}{pins:List (Addr×Obj)}{σ:St}{H:Hp}{s:Shared}{A:Around}{E:QpL}{Q:QpL}{c:Value}{b:Bool}
inductive Y3(K:Frag)(H:Hp):V->Value->Prop where
 | non:Y3 K H .non (.type "NoneType")
 | bl (x:Bool):Y3 K H (.bl x) (.type "bool")
 | int (i:Int):Y3 K H (.int i) (.type "int")
 | str (x:Str):Y3 K H (.str x) (.type "str")
 | flt (x:UInt64):Y3 K H (.flt x) (.type "float")
 | lst {a:Addr} {xs:List V} (e:H a=some (.lst xs)):Y3 K H (.ref a) (.type "list")
 | yR {a:Addr} {o:Obj} {xs:List V} (e:H a=some (.yR o (.lst xs))):Y3 K H (.ref a) (.type "list")
 | tup {a:Addr} {xs:List V} (e:H a=some (.tup xs)):Y3 K H (.ref a) (.type "tuple")
 | dK {a:Addr} {kvs:List (Key×V)} (e:H a=some (.dK kvs)):Y3 K H (.ref a) (.type "dict")
 | dT {a:Addr} {kvs:List (List Key×V)} (e:H a=some (.dT kvs)):Y3 K H (.ref a) (.type "dict")
 | ins {a C dx:Addr} {fs:List (Str×V)} (e:H a=some (.ins C dx fs)) (cl:Cls K C) (ha:findIn K (.ref C) "__class__"=some (some (.builtin "object.__class__")))
    (hn:PySem.W.specialIn K (.builtin "object.__class__") "__get__"=some (some (.builtin "getset_descriptor.__get__"))) (htk:PySem.W.takesIn K (.builtin "object.__class__")=some true)
    (hm:PySem.W.mroIn K C (.type "object")=some true):Y3 K H (.ref a) (.ref C)
theorem QcZ{x:V}{u t:Value}(I:Inv X pins σ H s)(rx:QC x u)(ty:Y3 X.K H x t)(e:kitOne X.K t c=some b)(h:∀tk,Q (.bool b) { s with toks:=tk }) :
 wpAny (model X.prog X.w) A (call (.builtin "isinstance") [u,c]) Q E s:=by
 cases ty with
 | non=>cases (show u=Value.none from rx);exact kia_one PySem.W.kitx_none I.uM True.intro e (fun z=>nomatch z) h
 | bl y=>cases (show u=Value.bool y from rx);exact kia_one PySem.W.kitx_bool I.uM True.intro e (fun z=>nomatch z) h
 | int i=>obtain⟨t,q⟩:=(show ∃t,u=Value.int i t from rx);cases q;exact kia_one PySem.W.kitx_int I.uM True.intro e (fun z=>nomatch z) h
 | str y=>obtain⟨t,q⟩:=(show ∃t,u=Value.str y t from rx);cases q;exact kia_one PySem.W.kitx_str I.uM True.intro e (fun z=>nomatch z) h
 | flt y=>obtain⟨t,q⟩:=(show ∃t,u=Value.float y t from rx);cases q;exact kia_one PySem.W.kitx_float I.uM True.intro e (fun z=>nomatch z) h
 | @lst a xs ea =>
   cases (show u=Value.ref a from rx)
   obtain⟨_,_,n,_,h1⟩:=(show QG X.prog X.w H s.heap a (.lst xs) from I.hok a _ ea)
   exact kia_one kitx_list I.uM ⟨_,h1,rfl⟩ e (fun z=>nomatch z) h
 | @yR a ob xs ea =>
   cases (show u=Value.ref a from rx)
   obtain⟨_,_,_,n,_,h1⟩:=(show QG X.prog X.w H s.heap a (.yR ob (.lst xs)) from I.hok a _ ea)
   exact kia_one kitx_list I.uM ⟨_,h1,rfl⟩ e (fun z=>nomatch z) h
 | @tup a xs ea =>
   cases (show u=Value.ref a from rx)
   obtain⟨_,_,_,p⟩:=(show QG X.prog X.w H s.heap a (.tup xs) from I.hok a _ ea)
   obtain⟨o,h1,h2,_⟩:=p
   exact kia_one PySem.W.kitx_tuple I.uM ⟨o,h1,h2⟩ e (fun z=>nomatch z) h
 | @dK a kvs ea =>
   cases (show u=Value.ref a from rx)
   obtain⟨_,_,vs,_,p⟩:=(show QG X.prog X.w H s.heap a (.dK kvs) from I.hok a _ ea)
   obtain⟨o,es,ep,h1,h2,_⟩:=p
   exact kia_one kitx_dict I.uM ⟨o,h1,h2.1⟩ e (fun z=>nomatch z) h
 | @dT a kvs ea =>
   cases (show u=Value.ref a from rx)
   obtain⟨_,_,xs,_,o,es,ep,h1,h2,_⟩:=(show QG X.prog X.w H s.heap a (.dT kvs) from I.hok a _ ea)
   exact kia_one kitx_dict I.uM ⟨o,h1,h2.1⟩ e (fun z=>nomatch z) h
 | @ins a C dx fs ea cl ha hn htk hm =>
   cases (show u=Value.ref a from rx)
   obtain⟨mA,O,_⟩:=VH I.hok ea
   obtain⟨od,J,_⟩:=O.look
   exact kia_one (PySem.W.kitx_own (cl.get _) cl.hd ha hn htk hm) I.uM J e (fun z=>nomatch z) h
end
end L2
namespace L2
open PySem PySem.Spec PyProof.Rows
structure Qv(k:Nat)(A:Around):Prop where
 hd:A.handled=none
 dp:A.depth+3*k+5<recursionLimit
 un:A.units+16*k+200<cLine
 gd:A.guards=some []
theorem Qv.mono{j k:Nat}{A:Around}(r:Qv k A)(h:j<=k):Qv j A:=⟨r.hd,by have:=r.dp;omega,by have:=r.un;omega,r.gd⟩
theorem Qv.deeper{k:Nat}{A:Around}(r:Qv (k+1) A)(env:Env):Qv k (A.deeper env) :=
 ⟨r.hd,by have:=r.dp;show A.depth+1+3*k+5<_;omega,by have:=r.un;show A.units+3+16*k+200<_;omega,r.gd⟩
theorem Qv.in1{k:Nat}{A:Around}(r:Qv (k+1) A):Qv k A.in1 :=
 ⟨r.hd,by have:=r.dp;show A.depth+3*k+5<_;omega,by have:=r.un;show A.units+1+16*k+200<_;omega,r.gd⟩
theorem QaQ{A:Around}{C:Addr}{us:QpM}{kw:List (Str×Value)}:(A.under (.builtin "type.__call__" ⟨.ref C :: us,kw⟩)).depth=A.depth+1:=by
 first | rfl | simp[Around.under,Code.weight,Code.isCreation,Code.isGuard,Code.isCaller,Code.frames,Code.isFrame,guardIds]
theorem QaP{A:Around}{C:Addr}{us:QpM}{kw:List (Str×Value)}:(A.under (.builtin "type.__call__" ⟨.ref C :: us,kw⟩)).units=A.units+1:=by
 first | rfl | simp[Around.under,Code.cUnits,Code.frames,Code.isFrame]
theorem GF{A:Around}{C:Addr}{us:QpM}{kw:List (Str×Value)}(h:A.guards=some []):(A.under (.builtin "type.__call__" ⟨.ref C :: us,kw⟩)).guards=some []:=by
 first | exact h | simp[Around.under,Code.guards,Code.isGuard,pushGuards,guardIds,h]
theorem Qv.make{k:Nat}{A:Around}(r:Qv (k+1) A)(C:Addr)(us:QpM)(kw:List (Str×Value)):Qv k (A.under (.builtin "type.__call__" ⟨.ref C :: us,kw⟩)) :=
 ⟨r.hd,by have:=r.dp;rw[QaQ];omega,by have:=r.un;rw[QaP];omega,GF r.gd⟩
theorem Qv.depth{k:Nat}{A:Around}(r:Qv k A):A.depth<recursionLimit:=by have:=r.dp;omega
theorem Qv.units{k:Nat}{A:Around}(r:Qv k A):A.units+64<cLine:=by have:=r.un;omega
def Qdx:TA:=fun _ H Q=>Q [] H
def VX(ta:TE)(tr:TA):TA:=fun σ H Q=>ta σ H fun x H1=>tr σ H1 fun xs H2=>Q (x :: xs) H2
section
variable {X:Cx}{e:Expr}{es:List Expr}{te:TE}{t:TA}{pos:Pos}
theorem Qc:PA X [] Qdx:=fun _ _ _ _ H Q I h=>vP ⟨[],H,I,.nil,h⟩
theorem Qgf(ha:PE X e te)(hr:PA X es t)(hs:starEach (e :: es) X.env=(false,eval e X.env) :: starEach es X.env:=by rfl):PA X (e :: es) (VX te t):=by
 intro pos pins s σ H Q I h
 rw[hs]
 show wpAny _ _ (spliced ((false,eval e X.env) :: backTo pos (starEach es X.env))) _ _ s
 refine yH (j0 (ha pins s σ H _ I h) fun u s1 ⟨x,H1,I1,r1,q1⟩=>?_)
 exact j0 (hr pos pins s1 σ H1 _ I1 q1) fun us s2 ⟨xs,H2,I2,r2,q2⟩=>⟨x :: xs,H2,I2,.cons r1 r2,q2⟩
def QoO(t:TA):TE:=fun σ H Q=>t σ H fun xs H1=>xs.length<=sizeLine/\∀p,H1 p=none->Q (.ref p) (upd H1 p (.tup xs))
def tLst(t:TA):TE:=fun σ H Q=>t σ H fun xs H1=>xs.length<=sizeLine/\∀p,H1 p=none->Q (.ref p) (upd H1 p (.lst xs))
theorem QhP{x1}(h:PA X es t):PE X (.Tuple es x1 pos) (QoO t):=by
 intro pins s σ H Q I hq
 refine wpAny_Tuple_spliced (j0 (h pos pins s σ H _ I hq) fun us s1 ⟨xs,H1,I1,r,z,q⟩=>⟨by rw[<-r.length];exact z,?_⟩)
 have hf:H1 s1.heap.objs.size=none:=I1.hok.fresh (qp _)
 refine⟨.ref s1.heap.objs.size,upd H1 s1.heap.objs.size (.tup xs),I1.laid (t':=s1.toks) (fun b u e=>qw _ e) (qp _) ?_,rfl,q _ hf⟩
 exact⟨z,us,r,⟨_,qN _ rfl,rfl,_,rfl⟩⟩
theorem QhR(h:PA X es t):PE X (.List es pos) (tLst t):=by
 intro pins s σ H Q I hq
 refine wpAny_List_spliced (j0 (h pos pins s σ H _ I hq) fun us s1 ⟨xs,H1,I1,r,z,q⟩=>⟨by rw[<-r.length];exact z,?_⟩)
 have hf:H1 s1.heap.objs.size=none:=I1.hok.fresh (qp _)
 refine⟨.ref s1.heap.objs.size,upd H1 s1.heap.objs.size (.lst xs),I1.laid (t':=s1.toks) (fun b u e=>qw _ e) (qp _) ?_,rfl,q _ hf⟩
 exact⟨z,us,0,r,qN _ rfl⟩
end
abbrev Sp:=List V->Hp->VK->XK->Prop
abbrev CXT:=List Env->Hp->Shared->XK->Value->Shared->Prop
structure W4(P:Program)(w:World)(K:Frag)(mg:Str->Option Value)(base:Heap)(A:Around)(outer:List Env)(s:Shared)(H:Hp):Prop where
 frames:A.frames=some outer
 mod:Mod K mg base
 bs:∀b o,base.get? b=some o->s.heap.get? b=some o/\H b=none
 bsz:base.objs.size<=s.heap.objs.size
 Qf3:s.heap.FunFrames base outer
 frf:∀b∈frs outer,H b=none
 hok:gq P w H s.heap
 bare:AllBare s.gens
def CE(outer:List Env)(P:Program)(w:World)(H:Hp)(s:Shared)(Q:VK)(u:Value)(s':Shared):Prop :=
 ∃v H',s'.os=s.os/\AllBare s'.gens/\Un (frs outer) [] H H' s.heap s'.heap/\gq P w H' s'.heap/\QC v u/\Q v H'
def CR(CX:CXT)(outer:List Env)(P:Program)(w:World)(H:Hp)(s:Shared)(Q:VK)(E:XK)(r:Result)(s':Shared):Prop :=
 match r with
 | .ok (.ret u)=>CE outer P w H s Q u s'
 | .ok _=>False
 | .error e=>CX outer H s E e s'
structure QH(P:Program)(w:World)(K:Frag)(mg:Str->Option Value)(base:Heap)(CX:CXT)(k:Nat)(f:Addr)(fd:FuncData)(ps:QpK)(sp:Sp):Prop where
 len:∀vs H Q E,sp vs H Q E->vs.length=ps.length
 run:∀(A:Around)(outer:List Env)(s:Shared)(H:Hp)(args:Args)(us:QpM)(vs:List V)(Q:VK)(E:XK),Qv k A->W4 P w K mg base A outer s H->BindsTo s fd args (ps.zip us)->Qx vs us->sp vs H Q E ->
  codeAny (model P w) A (.call (.ref f) args) (CR CX outer P w H s Q E) s
theorem W4.make{P:Program}{w:World}{K:Frag}{mg:Str->Option Value}{base:Heap}{A:Around}{outer:List Env}{s:Shared}{H:Hp}(e:W4 P w K mg base A outer s H)(C:Addr)(us:QpM)(kw:List (Str×Value)) :
 W4 P w K mg base (A.under (.builtin "type.__call__" ⟨.ref C :: us,kw⟩)) outer s H:=⟨by first | exact e.frames | (simpa[Around.under,Code.envs,Code.isFrame,pushEnvs] using e.frames),e.mod,e.bs,e.bsz,e.Qf3,e.frf,e.hok,e.bare⟩
theorem W4.in1{P:Program}{w:World}{K:Frag}{mg:Str->Option Value}{base:Heap}{A:Around}{outer:List Env}{s:Shared}{H:Hp}(e:W4 P w K mg base A outer s H) :
 W4 P w K mg base A.in1 outer s H:=⟨e.frames,e.mod,e.bs,e.bsz,e.Qf3,e.frf,e.hok,e.bare⟩
section
variable {X:Cx}{pins:List (Addr×Obj)}{σ:St}{H:Hp}{s s':Shared}
theorem Inv.env0(I:Inv X pins σ H s):W4 X.prog X.w X.K X.mg X.base X.A X.stack s H :=
 ⟨I.ok.frames,I.ok.mod,I.bs,zf I.ok.bsz I.sz,I.stack,I.Qkh,I.hok,I.bare⟩
theorem Inv.after{Q:VK}{u:Value}(I:Inv X pins σ H s)(h:CE X.stack X.prog X.w H s Q u s'):EP X pins σ Q u s':=by
 obtain⟨v,H',os,bare,un,hok,r,q⟩:=h
 obtain⟨hh,g,d,t,os'⟩:=s'
 obtain rfl:os'=s.os:=os
 exact⟨v,H',I.call (h':=hh) (g':=g) (d':=d) (t':=t) (ch:=[]) un hok bare (fun b z=>absurd z (by simp)),r,q⟩
end
def QgW(sp:Sp)(wk:List V)(E:XK)(t:TA):TE:=fun σ H Q=>t σ H fun vs H1=>sp (vs++wk) H1 Q E
inductive Qba(C:Addr)(m:Str)(sp:Sp)(wk:List V)(E:XK)(t:TA)(σ:St)(Q:VK)(x:V)(H1:Hp):Prop
 | mk:∀a dx fs,x=.ref a->H1 a=some (.ins C dx fs)->fs.lookup m=none->(t σ H1 fun vs H2=>sp (x :: (vs++wk)) H2 Q E)->Qba C m sp wk E t σ Q x H1
def QgV(C:Addr)(m:Str)(sp:Sp)(wk:List V)(E:XK)(ta:TE)(t:TA):TE:=fun σ H Q=>ta σ H fun x H1=>Qba C m sp wk E t σ Q x H1
def tMake(C:Addr)(sp:Sp)(wk:List V)(E:XK)(t:TA):TE:=fun σ H Q=>t σ H fun vs H1=>∀x dx,H1 x=none->H1 dx=none->dx≠x ->
 sp (.ref x :: (vs++wk)) (upd (upd H1 dx (.own x)) x (.ins C dx [])) (fun v H2=>v=.non/\Q (.ref x) H2) E
def Qw(K:Frag)(fd:FuncData)(ps:QpK)(ds:QpM):Prop :=
 ∀(s:Shared)(us:QpM),K.In s.heap->(us++ds).length=ps.length->BindsTo s fd ⟨us,[]⟩ (ps.zip (us++ds))
theorem Qw.all{K:Frag}{fd:FuncData}{ps:QpK}(h:∀us:QpM,us.length=ps.length->bindArgs fd ⟨us,[]⟩=pure (ps.zip us)):Qw K fd ps []:=fun s us _ hl=>by
 rw[j5] at hl ⊢
 exact .of_eq (h us hl)
def Yv(CX:CXT)(X:Cx)(E:XK):Prop:=∀(pins:List (Addr×Obj))(σ:St)(H:Hp)(s:Shared)(e:Value)(s':Shared),Inv X pins σ H s->CX X.stack H s E e s'->X.xe e s'
section
variable {X:Cx}{CX:CXT}{k:Nat}{f C:Addr}{fd:FuncData}{ps:QpK}{sp:Sp}{wk:List V}{ds:QpM}{E:XK}{x m:Str}{p pos apos:Pos}{e o:Expr}{es:List Expr}{ta:TE}{t:TA}
theorem Qaz{pins:List (Addr×Obj)}{σ:St}{H:Hp}{s:Shared}{Q:VK}{us:QpM}{vs:List V}(F:QH X.prog X.w X.K X.mg X.base CX k f fd ps sp)(hr:Qv k X.A)(hb:Qw X.K fd ps ds)(hd:Qx wk ds)(hx:Yv CX X E)
 (I:Inv X pins σ H s) (r:Qx vs us) (h:sp (vs++wk) H Q E):wpAny (model X.prog X.w) X.A (call (.ref f) us) (EP X pins σ Q) X.xe s:=by
 have r2:Qx (vs++wk) (us++ds):=r.append hd
 have hl:(us++ds).length=ps.length:=by rw[<-r2.length];exact F.len _ _ _ _ h
 refine wpAny_call (wJ (F.run X.A X.stack s H ⟨us,[]⟩ (us++ds) (vs++wk) Q E hr I.env0 (hb s us I.uM hl) r2 h) fun r s' hq=>?_)
 cases r with
 | error e=>exact hx pins σ H s e s' I hq
 | ok fl =>
   cases fl with
   | ret u=>exact I.after hq
   | next=>exact False.elim hq
   | brk=>exact False.elim hq
   | cont=>exact False.elim hq
theorem Qk(F:QH X.prog X.w X.K X.mg X.base CX k f fd ps sp)(hr:Qv k X.A)(hg:Gl X x)(hm:X.mg x=some (.ref f))(hk:keepIn X.K (.ref f)=true)(hb:Qw X.K fd ps ds)(hd:Qx wk ds)(hx:Yv CX X E)
 (ha:PA X (e :: es) t) (hdb:(x == ("__debug__":Str))=false:=by decide) (he:starEach (e :: es) X.env=(false,eval e X.env) :: starEach es X.env:=by rfl) (hpl:(backTo pos (starEach es X.env)).any (·.1)=false:=by rfl) :
 PE X (.Call (.Name x p) (e :: es) [] pos) (QgW sp wk E t):=by
 intro pins s σ H Q I h
 refine jC (Jn I hg hm ?_ hdb)
 refine callWith_K (h₀:=X.base) I.ok.mod.kin hk (j0 (ha pos pins s σ H _ I h) fun us s1 ⟨vs,H1,I1,r,q⟩=>⟨I1.uM,?_⟩) he hpl
 exact Qaz F hr hb hd hx I1 r q
theorem Ym{pl:Sem Bool}(he:PE X o ta)(c:Cls X.K C)(hm:W2 X.K C m f)(F:QH X.prog X.w X.K X.mg X.base CX k f fd ps sp)(hr:Qv k X.A)(hb:Qw X.K fd ps ds)(hd:Qx wk ds)(hx:Yv CX X E)(ha:PA X (e :: es) t)
 (hst:starEach (e :: es) X.env=(false,eval e X.env) :: starEach es X.env:=by rfl) (hpl:(backTo pos (starEach es X.env)).any (·.1)=false:=by rfl)
 (ht:eval (.Call (.Attribute o m apos) (e :: es) [] pos) X.env=(do
   let ov <-eval o X.env
   standAt apos.atName
   let (f,first) <-holding [ov] (getMethod ov m pl)
   callWith pos f first (backTo pos (starEach (e :: es) X.env)) (backToKw pos (keywordEach [] X.env))):=by rfl) :
 PE X (.Call (.Attribute o m apos) (e :: es) [] pos) (QgV C m sp wk E ta t):=by
 intro pins s σ H Q I h
 refine methodCall_KW (pl:=pl) (j0 (he pins s σ H _ I h) fun u s1 ⟨x,H1,I1,rx,a,dx,fs,ex,ea,l,q⟩=>?_) ht
 subst ex
 obtain rfl:u=Value.ref a:=rx
 refine Uk I1 ea c hm l ?_
 refine callWith_K (first:=[.ref a]) (h₀:=X.base) I.ok.mod.kin hm.kp (j0 (ha pos pins s1 σ H1 _ I1 q) fun us s2 ⟨vs,H2,I2,r,q2⟩=>⟨I2.uM,?_⟩) hst hpl
 exact Qaz (us:=.ref a :: us) (vs:=.ref a :: vs) F hr hb hd hx I2 (.cons rfl r) q2
theorem ZM{pl:Sem Bool}(he:PE X o ta)(c:Cls X.K C)(hm:W2 X.K C m f)(F:QH X.prog X.w X.K X.mg X.base CX k f fd ps sp)(hr:Qv k X.A)(hb:Qw X.K fd ps ds)(hd:Qx wk ds)(hx:Yv CX X E)
 (ht:eval (.Call (.Attribute o m apos) [] [] pos) X.env=(do
   let ov <-eval o X.env
   standAt apos.atName
   let (f,first) <-holding [ov] (getMethod ov m pl)
   callWith pos f first (backTo pos (starEach [] X.env)) (backToKw pos (keywordEach [] X.env))):=by rfl) :
 PE X (.Call (.Attribute o m apos) [] [] pos) (QgV C m sp wk E ta Qdx):=by
 intro pins s σ H Q I h
 refine methodCall_KW (pl:=pl) (j0 (he pins s σ H _ I h) fun u s1 ⟨x,H1,I1,rx,a,dx,fs,ex,ea,l,q⟩=>?_) ht
 subst ex
 obtain rfl:u=Value.ref a:=rx
 refine Uk I1 ea c hm l ?_
 exact PySem.W.callWith_K0 (first:=[.ref a]) I1.uM hm.kp (Qaz (us:=[.ref a]) (vs:=[.ref a]) F hr hb hd hx I1 (.cons rfl .nil) q)
structure Mk(K:Frag)(C f:Addr):Prop where
 makes:makesIn K C=true
 init:findIn K (.ref C) "__init__"=some (some (.ref f))
 fn:isFn K (.ref f)=true
 kp:keepIn K (.ref C)=true
theorem QdP{pins:List (Addr×Obj)}{σ:St}{H:Hp}{s:Shared}{Q:VK}{us:QpM}{vs:List V}(M:Mk X.K C f)(F:QH X.prog X.w X.K X.mg X.base CX k f fd ps sp)(hr:Qv (k+1) X.A)(hb:Qw X.K fd ps ds)(hd:Qx wk ds)
 (hx:Yv CX X E) (I:Inv X pins σ H s) (r:Qx vs us)
 (h:∀x dx,H x=none->H dx=none->dx≠x->sp (.ref x :: (vs++wk)) (upd (upd H dx (.own x)) x (.ins C dx [])) (fun v H2=>v=.non/\Q (.ref x) H2) E) :
 wpAny (model X.prog X.w) X.A (call (.ref C) us) (EP X pins σ Q) X.xe s:=by
 have hq:=h (s.heap.objs.size+1) s.heap.objs.size (I.hok.fresh (yo _)) (I.hok.fresh (qp _)) (zp (yW _))
 have I2:=Inv.made (C:=C) I
 have r2:Qx (V.ref (s.heap.objs.size+1) :: (vs++wk)) (Value.ref (s.heap.objs.size+1) :: (us++ds)):=.cons rfl (r.append hd)
 have hl:(Value.ref (s.heap.objs.size+1) :: us++ds).length=ps.length:=by
  have e:=r2.length
  rw[F.len _ _ _ _ hq] at e
  exact e.symm
 refine wpAny_call (GE (f:=f) I.uM M.makes M.init (qW.mp M.fn) (wJ (F.run _ X.stack _ _ ⟨Value.ref (s.heap.objs.size+1) :: us,[]⟩ (Value.ref (s.heap.objs.size+1) :: (us++ds)) _ _ E (hr.make C us [])
  (I2.env0.make C us []) (hb _ (Value.ref (s.heap.objs.size+1) :: us) I2.uM hl) r2 hq) fun r s' hq'=>?_))
 cases r with
 | error e=>exact hx pins σ _ _ e s' I2 hq'
 | ok fl =>
   cases fl with
   | ret u =>
     obtain⟨v,H',I3,rv,ev,q3⟩:=I2.after hq'
     subst ev
     exact⟨rv,⟨V.ref (s.heap.objs.size+1),H',I3,rfl,q3⟩⟩
   | next=>exact False.elim hq'
   | brk=>exact False.elim hq'
   | cont=>exact False.elim hq'
theorem Qgc(M:Mk X.K C f)(F:QH X.prog X.w X.K X.mg X.base CX k f fd ps sp)(hr:Qv (k+1) X.A)(hg:Gl X x)(hm:X.mg x=some (.ref C))(hb:Qw X.K fd ps ds)(hd:Qx wk ds)(hx:Yv CX X E)
 (ha:PA X (e :: es) t) (hdb:(x == ("__debug__":Str))=false:=by decide) (he:starEach (e :: es) X.env=(false,eval e X.env) :: starEach es X.env:=by rfl) (hpl:(backTo pos (starEach es X.env)).any (·.1)=false:=by rfl) :
 PE X (.Call (.Name x p) (e :: es) [] pos) (tMake C sp wk E t):=by
 intro pins s σ H Q I h
 refine jC (Jn I hg hm ?_ hdb)
 refine callWith_K (h₀:=X.base) I.ok.mod.kin M.kp (j0 (ha pos pins s σ H _ I h) fun us s1 ⟨vs,H1,I1,r,q⟩=>⟨I1.uM,?_⟩) he hpl
 exact QdP M F hr hb hd hx I1 r q
end
section
variable {X:Cx}{CX:CXT}{k:Nat}{f C:Addr}{fd:FuncData}{ps ks:QpK}{sp:Sp}{E:XK}{x m:Str}{p pos apos kpos:Pos}{e o:Expr}{es:List Expr}{kws:List Keyword}{te ta:TE}{t tk:TA}{nm:Option Str}
variable {g:QpM->QpM->QpM}{gV:List V->List V->List V}
end
structure Qq(N P:QpK)(sc:Scope):Prop where
 kind:sc.kind=.function
 co:sc.isCoroutine=false
 gen:sc.isGenerator=false
 nd:N.Nodup
 pre:N.take P.length=P
 par:∀x∈P,sc.names.lookup x=some .local\/sc.names.lookup x=some .cell
 Qo4:∀y∈sc.names,y.2≠.free
theorem XQ{kindOf:Str->Option NameKind}{x:Str}:∀{binds:List (Str×Value)}{m:Str->Option Value},(∀v,(x,v)∉binds)->bindL kindOf binds m x=m x
 | [],_,_=>rfl
 | (n,v) :: r,m,h=>by
   unfold bindL
   rw[XQ fun w hw=>h w (qu _ hw)]
   split
   .have:x≠n:=by rintro rfl;exact h v qI
    simp[this]
   .rfl
theorem XS{kindOf:Str->Option NameKind}{x:Str}:∀{binds:List (Str×Value)}{m:Str->Option Value},(∀v,(x,v)∉binds)->bindC kindOf binds m x=m x
 | [],_,_=>rfl
 | (n,v) :: r,m,h=>by
   unfold bindC
   rw[XS fun w hw=>h w (qu _ hw)]
   split
   .rfl
   .have:x≠n:=by rintro rfl;exact h v qI
    simp[this]
theorem XR{kindOf:Str->Option NameKind}{x:Str}{v:Value}:∀{P:QpK}{vs:QpM}{i:Nat}{m:Str->Option Value},P.Nodup->P[i]?=some x->vs[i]?=some v->kindOf x=some .local ->
 bindL kindOf (P.zip vs) m x=some v
 | [],_,_,_,_,h,_,_=>by simp at h
 | _ :: _,[],_,_,_,_,h,_=>by simp at h
 | p :: P,w :: vs,0,m,nd,h1,h2,hk=>by
   simp at h1 h2;subst h1;subst h2
   show bindL kindOf ((p,w) :: P.zip vs) m p=_
   unfold bindL
   rw[XQ fun v hv=>(jo.mp nd).1 (List.of_mem_zip hv).1,qj hk]
   simp
 | p :: P,w :: vs,i+1,m,nd,h1,h2,hk=>by
   show bindL kindOf ((p,w) :: P.zip vs) m x=_
   unfold bindL
   exact XR (i:=i) (jo.mp nd).2 (by simpa using h1) (by simpa using h2) hk
theorem XT{kindOf:Str->Option NameKind}{x:Str}{v:Value}:∀{P:QpK}{vs:QpM}{i:Nat}{m:Str->Option Value},P.Nodup->P[i]?=some x->vs[i]?=some v->kindOf x≠some .local ->
 bindC kindOf (P.zip vs) m x=some v
 | [],_,_,_,_,h,_,_=>by simp at h
 | _ :: _,[],_,_,_,_,h,_=>by simp at h
 | p :: P,w :: vs,0,m,nd,h1,h2,hk=>by
   simp at h1 h2;subst h1;subst h2
   show bindC kindOf ((p,w) :: P.zip vs) m p=_
   unfold bindC
   rw[XS fun v hv=>(jo.mp nd).1 (List.of_mem_zip hv).1,ql hk]
   simp
 | p :: P,w :: vs,i+1,m,nd,h1,h2,hk=>by
   show bindC kindOf ((p,w) :: P.zip vs) m x=_
   unfold bindC
   exact XT (i:=i) (jo.mp nd).2 (by simpa using h1) (by simpa using h2) hk
def start(N:QpK)(vs:List V):St:=vs.map some++List.replicate (N.length - vs.length) none
def Jc(CX:CXT)(P:Program)(w:World)(K:Frag)(mg:Str->Option Value)(base:Heap)(N:QpK)(qual:Str)(scope:Scope)(f:Addr)(cd:Value)(A:Around)(outer:List Env)(s:Shared)(H:Hp)(E:XK):Cx where
 prog:=P
 w:=w
 K:=K
 mg:=mg
 base:=base
 A:=A.deeper (envOfC qual scope s.heap.objs.size f cd)
 N:=N
 s₀:=s
 H₀:=H
 env:=envOfC qual scope s.heap.objs.size f cd
 outer:=outer
 stack:=envOfC qual scope s.heap.objs.size f cd :: outer
 ex:=[]
 calm:=true
 fn:=fun _=>true
 pn:=[]
 xe:=fun e s'=>wpAny (model P w) (A.deeper (envOfC qual scope s.heap.objs.size f cd)) (leaving (envOfC qual scope s.heap.objs.size f cd) e) (fun _ s''=>CX outer H s E e s'') (fun e' s''=>CX outer H s E e' s'') s'
theorem GX{sc:Scope}{n:Nat}{x:Str}(h:sc.names.lookup x=some .cell):∃c,(cellsFrom n sc.names []).lookup x=some c:=by
 have q:=PySem.W.cellsFrom_some sc.names n [] (.inl h)
 exact Option.isSome_iff_exists.mp q
theorem Qc0{CX:CXT}{P:Program}{w:World}{K:Frag}{mg:Str->Option Value}{base:Heap}{N ps:QpK}{qual:Str}{scope:Scope}{f:Addr}{cd:Value}{A:Around}{outer:List Env}{s s1:Shared}{H:Hp}{E:XK}{us:QpM}{vs:List V}
 (S:Qq N ps scope) (hd:A.handled=none) (e0:W4 P w K mg base A outer s H) (hl:vs.length=ps.length) (r:Qx vs us)
 (x:InCallC s s.heap.objs.size (bindL (envOfC qual scope s.heap.objs.size f cd).kindOf (ps.zip us) fun _=>none) (cellsFrom (s.heap.objs.size+1) scope.names []) (bindC (envOfC qual scope s.heap.objs.size f cd).kindOf (ps.zip us) fun _=>none) s1) :
 Inv (Jc CX P w K mg base N qual scope f cd A outer s H E) [] (start N vs) H s1:=by
 have hpl:ps.length<=N.length:=by have:=zB List.length S.pre;rw[qK] at this;omega
 obtain⟨h1,tk,rfl,hk⟩:=x.done
 have noA:∀b:Addr,b∉(Jc CX P w K mg base N qual scope f cd A outer s H E).ex:=fun b z=>absurd (show b∈([]:List Addr) from z) (by simp)
 refine⟨⟨e0.mod,S.kind,rfl,rfl,qp _,fun y z c h1 h2=>?_,fun y hy=>?_,fun y c _ h=>?_,fun _=>hd,Around.frames_deeper e0.frames,.inr ⟨rfl,rfl⟩,fun b z=>absurd z (noA b),e0.bs,e0.bsz,fun b _ _=>noA b,fun b z=>absurd z (noA b),e0.Qf3,e0.frf⟩,
  rfl,e0.bare,Un.kept hk,⟨_,x.toInCall.ns,fun i y v h1 h2 h3=>?_⟩,fun y c h=>⟨_,x.cell y c h⟩,e0.hok.fresh (qp _),fun y c h=>?_,fun p hp=>absurd (show p∈([]:List (Addr×Obj)) from hp) (by simp),e0.hok.kept hk,?_⟩
 .exact name_of_addr x.apart (jY h1) (jY h2)
 .have hy:scope.names.lookup y=some .cell\/scope.names.lookup y=some .free:=hy
  rcases hy with hy | hy
  .exact GX hy
  .exact absurd rfl (S.Qo4 _ (jY hy))
 .exact Nat.le_of_lt (x.above y c (jY h))
 .have hi:i<vs.length:=by
   unfold start at h2
   by_cases hi:i<vs.length
   .exact hi
   .rw[zQ (by simpa using hi)] at h2
    rw[List.getElem?_replicate] at h2
    split at h2 <;> cases h2
  have ha:vs[i]?=some v:=by
   unfold start at h2
   rw[zH (by simpa using hi),qJ] at h2
   cases e:vs[i]? with
   | none=>rw[e] at h2;cases h2
   | some a=>rw[e] at h2;cases h2;rfl
  obtain⟨u,hu,rv⟩:=r.get ha
  have hp:ps[i]?=some y:=by
   rw[<-S.pre,List.getElem?_take_of_lt (by omega)];exact h1
  have ndP:ps.Nodup:=by rw[<-S.pre];exact S.nd.sublist (jl _ _)
  refine⟨u,rv,?_⟩
  rcases S.par y (qG hp) with k | k
  .exact .inl ⟨k,XR ndP hp hu k⟩
  .obtain⟨c,e⟩:=GX (n:=s.heap.objs.size+1) k
   refine .inr ⟨.inl k,c,e,?_⟩
   have q:=x.cell y c e
   rw[XT ndP hp hu (by show scope.names.lookup y≠_;rw[k];decide)] at q
   exact q
 .exact e0.hok.fresh (Nat.le_of_lt (x.above y c (jY h)))
 .unfold start
  show _=N.length
  rw[qy,qd,List.length_replicate]
  omega
theorem QbW{CX:CXT}{P:Program}{w:World}{K:Frag}{mg:Str->Option Value}{base:Heap}{k:Nat}{f:Addr}{name qual:Str}{params:Arguments}{body:List Stmt}{scope:Scope}{dV kV doc pm cdv ct oc:Value}{an od:Option Addr}
 {osl:Array (Option Value)} {N ps:QpK} {sp:Sp} (lk:K.lookup f=some ⟨oc,od,.func (fnOf name qual params body scope dV kV doc pm an cdv ct),osl⟩) (hcd:codeIn K cdv qual=true) (S:Qq N ps scope)
 (len:∀vs H Q E,sp vs H Q E->vs.length=ps.length)
 (hbody:∀(A:Around)(outer:List Env)(s:Shared)(H:Hp)(vs:List V)(Q:VK)(E:XK),Qv k (A.deeper (envOfC qual scope s.heap.objs.size f cdv))->sp vs H Q E ->
   ∃t,PSs (Jc CX P w K mg base N qual scope f cdv A outer s H E) body t/\t { nx:=fun _ H'=>Q .non H',rt:=Q } (start N vs) H) :
 QH P w K mg base CX (k+1) f (fnOf name qual params body scope dV kV doc pm an cdv ct) ps sp:=by
 refine⟨len,fun A outer s H args us vs Q E hr e0 hb r hsp=>?_⟩
 have hl:=len _ _ _ _ hsp
 have KX:K.In s.heap:=e0.mod.kin.keeps fun b o e=>(e0.bs b o e).1
 have lim:s.heap.NoLimit:=e0.mod.nolimit.keeps fun b o e=>(e0.bs b o e).1
 have hkind:∀y∈ps.zip us,scope.names.lookup y.1=some .local\/(scope.names.lookup y.1=some .cell/\((cellsFrom (s.heap.objs.size+1) scope.names []).lookup y.1).isSome=true):=fun⟨n,v⟩ hy=>by
  rcases S.par n (List.of_mem_zip hy).1 with q | q
  .exact .inl q
  .exact .inr ⟨q,PySem.W.cellsFrom_some _ _ _ (.inl q)⟩
 refine codeAny_call_function hr.depth (KX _ _ lk) rfl S.co S.gen rfl (PySem.W.codeRec_of KX hcd) (hb _ _ _ _ ?_)
 refine wpAny_newFunctionEnv_cells S.kind hkind fun env he s1 x=>?_
 subst he
 refine⟨lim.keeps x.toInCall.keep,codeAny_func ?_⟩
 obtain⟨t,ht,hq⟩:=hbody A outer s H vs Q E (hr.deeper _) hsp
 have I:Inv (Jc CX P w K mg base N qual scope f cdv A outer s H E) [] (start N vs) H s1:=Qc0 S hr.hd e0 hl r x
 refine jM (ht [] s1 (start N vs) H _ I hq) (fun fl s' hs=>?_) fun e s' hs=>hs
 have fin:∀{σ':St}{H':Hp}{v:V}{u:Value},Inv (Jc CX P w K mg base N qual scope f cdv A outer s H E) [] σ' H' s'->QC v u->Q v H'->CE outer P w H s Q u s' :=
  fun{σ' H' v u} J rv q=>⟨v,H',J.os,J.bare,J.base,J.hok,rv,q⟩
 cases fl with
 | ret u =>
   obtain⟨v,σ',H',J,rv,q⟩:=hs
   exact fin J rv q
 | next =>
   obtain⟨σ',H',J,q⟩:=hs
   exact fin (v:=V.non) (u:=Value.none) J rfl q
 | brk =>
   obtain⟨_,_,_,q⟩:=hs
   exact False.elim q
 | cont =>
   obtain⟨_,_,_,q⟩:=hs
   exact False.elim q
end L2
namespace L2
open PySem PySem.Spec PyProof.Rows
section
variable {X:Cx}{x:Str}{p pos:Pos}{e:Expr}{es:List Expr}{t:TA}{id T:String}{r:List V->Hp->VK->Prop}
def tCB(r:List V->Hp->VK->Prop)(t:TA):TE:=fun σ H Q=>t σ H fun vs H1=>r vs H1 Q
theorem Qr(hc:YM X (.builtin id) r)(hg:Gl X x)(hm:X.mg x=none)(hv:bootBuiltins x=some (.builtin id))(ha:PA X (e :: es) t)(hn:x≠"__name__":=by decide)(hdb:(x == ("__debug__":Str))=false:=by decide)
 (he:starEach (e :: es) X.env=(false,eval e X.env) :: starEach es X.env:=by rfl) (hpl:(backTo pos (starEach es X.env)).any (·.1)=false:=by rfl):PE X (.Call (.Name x p) (e :: es) [] pos) (tCB r t):=by
 intro pins s σ H Q I h
 refine jC (Yr I hg hm hv ?_ hn hdb)
 exact PyProof.Rows.callWith_builtin1 (j0 (ha pos pins s σ H _ I h) fun us s1 ⟨vs,H1,I1,r1,q1⟩=>hc pins s1 σ H1 vs us Q I1 r1 q1) he hpl
theorem ZG(hc:YM X (.type T) r)(hg:Gl X x)(hm:X.mg x=none)(hv:bootBuiltins x=some (.type T))(ha:PA X (e :: es) t)(hn:x≠"__name__":=by decide)(hdb:(x == ("__debug__":Str))=false:=by decide)
 (he:starEach (e :: es) X.env=(false,eval e X.env) :: starEach es X.env:=by rfl) (hpl:(backTo pos (starEach es X.env)).any (·.1)=false:=by rfl):PE X (.Call (.Name x p) (e :: es) [] pos) (tCB r t):=by
 intro pins s σ H Q I h
 refine jC (Yr I hg hm hv ?_ hn hdb)
 exact QgL (j0 (ha pos pins s σ H _ I h) fun us s1 ⟨vs,H1,I1,r1,q1⟩=>hc pins s1 σ H1 vs us Q I1 r1 q1) he hpl
end
end L2
namespace HT
open PySem PyProof.Rows
section
open PySem.SeqAt
open PySem.AutoSeq1 (wpAny_loadPart')
open PySem.MeetsSeq PySem.MeetsSeq2 PySem.MeetsSeq3
end
section
variable {prog:Program}{w:World}{A:Around}{E:QpL}{s:Shared}
def sIx(n d:Nat):Option Int->Nat
 | none=>d
 | some v=>if v<0 then (v+(n:Int)).toNat else min v.toNat n
theorem QkU(n d:Nat):sIx n d none=d:=rfl
theorem Qkj(n d k:Nat):sIx n d (some (k:Int))=min k n:=by
 show(if (k:Int)<0 then ((k:Int)+(n:Int)).toNat else min (k:Int).toNat n)=min k n
 rw[ql (by omega),xZ]
end
end HT
namespace L2
open PySem PySem.Spec PyProof.Rows
abbrev TO:=St->Hp->(Option Int->Hp->Prop)->Prop
def PO(X:Cx)(e:Option Expr)(t:TO):Prop :=
 ∀(pins:List (Addr×Obj))(s:Shared)(σ:St)(H:Hp)(Q:Option Int->Hp->Prop),Inv X pins σ H s->t σ H Q ->
  wpAny (model X.prog X.w) X.A (evalPart e X.env) (fun u s'=>∃o H',Inv X pins σ H' s'/\IsPart u o/\Q o H') X.xe s
def QfD:TO:=fun _ H Q=>Q none H
inductive Qa8(Q:(Option Int->Hp->Prop))(x:V)(H1:Hp):Prop
 | mk:∀i,x=.int i->Q (some i) H1->Qa8 Q x H1
def tPart(t:TE):TO:=fun σ H Q=>t σ H fun x H1=>Qa8 Q x H1
section
variable {X:Cx}{e:Expr}{te:TE}{lo hi:Option Expr}{tl th:TO}{pos p2:Pos}
theorem Yl:PO X none QfD:=by
 intro pins s σ H Q I h
 rw[evalPart_none]
 exact qx ⟨none,H,I,.none,h⟩
theorem ZK(h:PE X e te):PO X (some e) (tPart te):=by
 intro pins s σ H Q I hw
 rw[evalPart_some]
 refine j0 (h pins s σ H _ I hw) fun u s1 ⟨x,H1,I1,r1,q1⟩=>?_
 obtain⟨i,rfl,q⟩:=q1
 obtain⟨t,rfl⟩:=r1
 exact⟨some i,H1,I1,.int i t,q⟩
def SlR(X:Cx)(r:V->Option Int->Option Int->Hp->VK->Prop):Prop :=
 ∀(pins:List (Addr×Obj))(s:Shared)(σ:St)(H:Hp)(x:V)(v vl vu:Value)(lo hi:Option Int)(sl:Addr)(Q:VK),Inv X pins σ H s->QC x v->s.heap.IsSliceOf sl vl vu .none->IsPart vl lo->IsPart vu hi->r x lo hi H Q ->
  ∃T id,typeLookup (.type T) "__getitem__"=pure (some (.builtin id))/\s.TypeIs v T/\wpAny (model X.prog X.w) X.A (getItem v (.ref sl)) (EP X pins σ Q) X.xe s
def tSl(r:V->Option Int->Option Int->Hp->VK->Prop)(te:TE)(tl th:TO):TE:=fun σ H Q=>te σ H fun x H1=>tl σ H1 fun l H2=>th σ H2 fun u H3=>r x l u H3 Q
theorem ZL{r:V->Option Int->Option Int->Hp->VK->Prop}(hr:SlR X r)(he:PE X e te)(hl:PO X lo tl)(hu:PO X hi th):PE X (.Subscript e (.Slice lo hi none p2) pos) (tSl r te tl th):=by
 intro pins s σ H Q I h
 refine Subscript_ (j0 (he pins s σ H _ I h) fun v s1 ⟨x,H1,I1,r1,q1⟩=>?_)
 refine wpAny_Slice (j0 (hl pins s1 σ H1 _ I1 q1) fun vl s2 ⟨l,H2,I2,pl,q2⟩=>j0 (hu pins s2 σ H2 _ I2 q2) fun vu s3 ⟨u,H3,I3,pu,q3⟩=>?_)
 rw[evalPart_none]
 refine qx ?_
 have I4:Inv X pins σ H3 { s3 with heap:=s3.heap.push { cls:=.type "slice",data:=.fields #[vl,vu,.none] } }:=I3.kept (t':=s3.toks) fun b ob q=>qw _ q
 obtain⟨T,id,hT,ht,hg⟩:=hr pins { s3 with heap:=s3.heap.push { cls:=.type "slice",data:=.fields #[vl,vu,.none] } } σ H3 x v vl vu l u s3.heap.objs.size Q I4 r1 (Heap.IsSliceOf.new ..) pl pu q3
 show wpAny (model X.prog X.w) X.A (subscriptTail e (.Slice lo hi none p2) v (.ref s3.heap.objs.size)) (EP X pins σ Q) X.xe { s3 with heap:=s3.heap.push { cls:=.type "slice",data:=.fields #[vl,vu,.none] } }
 exact tail_any (ops:=[.ref s3.heap.objs.size,v]) ht hT hg (by with_unfolding_all rfl)
def UR(xs:List V)(lo hi:Option Int):List V:=(xs.drop (HT.sIx xs.length 0 lo)).take (HT.sIx xs.length xs.length hi - HT.sIx xs.length 0 lo)
theorem GR(xs:List V)(lo hi:Option Int):(UR xs lo hi).length<=xs.length:=by
 unfold UR
 rw[qK,jh]
 omega
end
end L2
namespace L2
open PySem PySem.Spec PyProof.Rows
def ixN(n:Nat)(i:Int):Option Nat:=if 0<=i then (if i<n then some i.toNat else none) else if -(n:Int)<=i then some (i+n).toNat else none
def atI{α:Type}(xs:List α)(i:Int):Option α:=(ixN xs.length i).bind fun j=>xs[j]?
theorem QbJ{n:Nat}{i:Int}{j:Nat}(h:ixN n i=some j):seqIndex? i n=some j/\j<n/\-(n:Int)<=i/\i<n:=by
 unfold ixN at h
 by_cases h0:0<=i
 .rw[qj h0] at h
  by_cases h1:i<n
  .rw[qj h1] at h
   have e:i.toNat=j:=zg h
   exact⟨by rw[seqIndex_of h0 h1,e],by omega,by omega,h1⟩
  .rw[ql h1] at h;cases h
 .rw[ql h0] at h
  by_cases h1 : -(n:Int)<=i
  .rw[qj h1] at h
   have e:(i+n).toNat=j:=zg h
   exact⟨by rw[seqIndex_neg (by omega) h1,e],by omega,h1,by omega⟩
  .rw[ql h1] at h;cases h
theorem KF{α:Type}{xs:List α}{i:Int}{v:α}(h:atI xs i=some v):∃j,seqIndex? i xs.length=some j/\xs[j]?=some v/\j<xs.length/\-(xs.length:Int)<=i/\i<xs.length:=by
 unfold atI at h
 cases e:ixN xs.length i with
 | none=>rw[e] at h;cases h
 | some j =>
   rw[e] at h
   obtain⟨h1,h2,h3,h4⟩:=QbJ e
   exact⟨j,h1,h,h2,h3,h4⟩
theorem Zt{α:Type}{xs:List α}{j:Nat}{v:α}(h:xs[j]?=some v):atI xs (j:Int)=some v:=by
 have hj:j<xs.length:=(qi.mp h).1
 have e:ixN xs.length (j:Int)=some j:=by
  unfold ixN
  rw[qj (by omega),qj (by omega)];simp
 unfold atI;rw[e];exact h
theorem Qab{α:Type}(xs:List α)(v:α):atI (xs++[v]) (-1)=some v:=by
 have hl:(xs++[v]).length=xs.length+1:=by simp
 have e:ixN (xs++[v]).length (-1)=some xs.length:=by
  unfold ixN
  rw[hl,ql (by decide),qj (by omega)]
  congr 1
  omega
 unfold atI
 rw[e]
 show(xs++[v])[xs.length]?=some v
 simp
def QgS(b:Expr):Prop:=∀o i,subscripted b false o i=operate [o,i] (getItem o i)
def IxR(X:Cx)(r:R2):Prop :=
 ∀(value slice:Expr)(pins:List (Addr×Obj))(s:Shared)(σ:St)(H:Hp)(x y:V)(v u:Value)(Q:VK),Inv X pins σ H s->QC x v->QC y u->r x y H Q ->
  subscripted slice false v u=operate [v,u] (getItem v u)->wpAny (model X.prog X.w) X.A (subscriptTail value slice v u) (EP X pins σ Q) X.xe s
def MtR(X:Cx)(id:String)(r:V->List V->Hp->VK->Prop):Prop :=
 ∀(pins:List (Addr×Obj))(s:Shared)(σ:St)(H:Hp)(x:V)(xs:List V)(v:Value)(us:QpM)(Q:VK),Inv X pins σ H s->QC x v->Qx xs us->r x xs H Q ->
  wpAny (model X.prog X.w) X.A (call (.builtin id) (v :: us)) (EP X pins σ Q) X.xe s
section
variable {X:Cx}{a b:Expr}{ta tb:TE}{pos:Pos}
theorem Qp{r:R2}(hr:IxR X r)(ha:PE X a ta)(hb:PE X b tb)(hs:QgS b:=by exact fun _ _=>rfl):PE X (.Subscript a b pos) (tOp r ta tb):=by
 intro pins s σ H Q I h
 exact Subscript_ (Qpx ha hb I h fun v u s2 x y H2 I2 rx ry q=>hr a b pins s2 σ H2 x y v u Q I2 rx ry q (hs _ _))
inductive Qd0(K:Frag)(x:V)(y:V)(H:Hp)(Q:VK):Prop
 | mk:∀p xs i v,x=.ref p->y=.int i->jk K H p xs->atI xs i=some v->Q v H->Qd0 K x y H Q
def rIxL(K:Frag):R2:=fun x y H Q=>Qd0 K x y H Q
inductive QdY(K:Frag)(x:V)(y:V)(H:Hp)(Q:VK):Prop
 | mk:∀p xs i v,x=.ref p->y=.int i->yu K H p xs->atI xs i=some v->Q v H->QdY K x y H Q
def QnF(K:Frag):R2:=fun x y H Q=>QdY K x y H Q
inductive QdZ(x:V)(y:V)(H:Hp)(Q:VK):Prop
 | mk:∀z i c,x=.str z->y=.int i->z.length<=sizeLine->atI z.cps.toList i=some c->Q (.str ⟨#[c]⟩) H->QdZ x y H Q
def rIxS:R2:=fun x y H Q=>QdZ x y H Q
theorem QS:IxR X (rIxL X.K):=by
 intro value slice pins s σ H x y v u Q I rx ry h hs
 obtain⟨p,xs,i,z,rfl,rfl,hq,he,q⟩:=h
 cases rx
 obtain⟨t,rfl⟩:=ry
 obtain⟨its,r,pl,hz⟩:=I.list hq
 obtain⟨j,h1,h2,h3,h4,h5⟩:=KF he
 obtain⟨w,ew,rw'⟩:=r.get h2
 have hl:=r.length
 have hn:=Ui
 have fin:EP X pins σ Q w s:=⟨z,H,I,rw',q⟩
 by_cases h0:0<=i
 .have hj:i.toNat=j:=by
   rw[seqIndex_of h0 h5] at h1
   exact zg h1
  exact item_listR pl.isList h0 (by omega) (by rw[hj];simpa using ew) fin hs
 .have hj:(i+(its.toArray.size:Int)).toNat=j:=by
   rw[seqIndex_neg (by omega) h4] at h1
   rw[qM,<-hl]
   exact zg h1
  exact subscriptTail_builtinR (x:=w) pl.isList.typeIs slot_list_getitem.lookup
   (wpAny_getItem_list_neg (Q:=fun r s'=>r=w/\EP X pins σ Q r s') pl.isList (by omega) (by rw[qM] <;> omega) (by omega) (by rw[hj];simpa using ew) ⟨rfl,fin⟩) hs
theorem Qz:IxR X (QnF X.K):=by
 intro value slice pins s σ H x y v u Q I rx ry h hs
 obtain⟨p,xs,i,z,rfl,rfl,hq,he,q⟩:=h
 cases rx
 obtain⟨t,rfl⟩:=ry
 obtain⟨its,r,pl,hz⟩:=I.tuple hq
 obtain⟨j,h1,h2,h3,h4,h5⟩:=KF he
 obtain⟨w,ew,rw'⟩:=r.get h2
 have hl:=r.length
 have hn:=Ui
 have fin:EP X pins σ Q w s:=⟨z,H,I,rw',q⟩
 exact subscriptTail_builtinR (x:=w) pl.typeIs slot_tuple_getitem.lookup
  (getItem_tuple (j:=j) (Q:=fun r s'=>r=w/\EP X pins σ Q r s') pl (by omega) (by omega) (by rw[qM,<-hl];exact h1) (by simpa using ew) ⟨rfl,fin⟩) hs
theorem QeT:IxR X rIxS:=by
 intro value slice pins s σ H x y v u Q I rx ry h hs
 obtain⟨z,i,c,rfl,rfl,hz,he,q⟩:=h
 obtain⟨t,rfl⟩:=rx
 obtain⟨t',rfl⟩:=ry
 obtain⟨j,h1,h2,h3,h4,h5⟩:=KF he
 have hl:z.cps.toList.length=z.length:=by simp[Str.length]
 rw[hl] at h1 h4 h5
 have hn:=Ui
 exact tail_any (typeIs_str s z t) slot_str_getitem.lookup (getItem_str (c:=c) (by
  have e1:decide (i < -(2 ^ 63:Int))=false:=qz (by omega)
  have e2:decide (i>=2 ^ 63)=false:=qz (by omega)
  rw[e1,e2,Bool.or_false]) (by rw[h1];simpa using h2) ⟨.str ⟨#[c]⟩,H,I.tok _,⟨_,rfl⟩,q⟩) hs
theorem QaO(its:QpM)(n j:Nat)(u:Value):Obj.mapSeq (·.setIfInBounds j u) { cls:=.type "list",data:=.seq its.toArray n }={ cls:=.type "list",data:=.seq (its.set j u).toArray n }:=by
 simp[Obj.mapSeq]
theorem Inv.lst{pins:List (Addr×Obj)}{σ:St}{H:Hp}{s:Shared}{p:Addr}{xs:List V}(I:Inv X pins σ H s)(h:H p=some (.lst xs)) :
 ∃(its:QpM)(n:Nat),Qx xs its/\s.heap.get? p=some { cls:=.type "list",data:=.seq its.toArray n }/\xs.length<=sizeLine:=by
 obtain⟨z,its,n,r,e⟩:=I.hok p _ h
 exact⟨its,n,r,e,z⟩
theorem Inv.Qo8{pins:List (Addr×Obj)}{σ:St}{H:Hp}{s:Shared}{p:Addr}{xs ys:List V}{its its':QpM}{n n':Nat}{f:Obj->Obj}(I:Inv X pins σ H s)(h:H p=some (.lst xs))
 (ho:s.heap.get? p=some { cls:=.type "list",data:=.seq its.toArray n }) (hf:f { cls:=.type "list",data:=.seq its.toArray n }={ cls:=.type "list",data:=.seq its'.toArray n' }) (r:Qx ys its') (hz:ys.length<=sizeLine) (t:Nat) :
 Inv X pins σ (upd H p (.lst ys)) { s with heap:=s.heap.update p f,toks:=t }:=by
 have e:(s.heap.update p f).get? p=some { cls:=.type "list",data:=.seq its'.toArray n' }:=by
  rw[vN f ho (by rw[hf] <;> rfl),hf]
 refine I.write (x:=p) (e:=p) (by rw[h];trivial) (.inl rfl) (fun b u hb q=>(j9 _ _ (gC hb)).trans q) ⟨_,e⟩ ?_
 exact⟨hz,its',n',r,e⟩
inductive Qbq(o:V)(i:V)(v:V)(H:Hp)(Q:(Hp->Prop)):Prop
 | mk:∀p xs k j,o=.ref p->i=.int k->H p=some (.lst xs)->ixN xs.length k=some j->Q (upd H p (.lst (xs.set j v)))->Qbq o i v H Q
def rSetL:V->V->V->Hp->(Hp->Prop)->Prop:=fun o i v H Q=>Qbq o i v H Q
theorem Wg:PSet X rSetL:=by
 intro pins s σ H o i v ov iv u Q I ro ri rv h
 obtain⟨p,xs,k,j,rfl,rfl,hp,hj,q⟩:=h
 cases ro
 obtain⟨t,rfl⟩:=ri
 obtain⟨its,n,r,ho,hz⟩:=I.lst hp
 obtain⟨h1,h2,h3,h4⟩:=QbJ hj
 have hl:=r.length
 have hn:=Ui
 have I':Inv X pins σ (upd H p (.lst (xs.set j v))) { s with heap:=s.heap.update p (Obj.mapSeq (·.setIfInBounds j u)) } :=
  I.Qo8 hp ho (QaO its n j u) (r.set rv j) (by rw[List.length_set];exact hz) s.toks
 by_cases h0:0<=k
 .have hk:k.toNat=j:=by
   rw[seqIndex_of h0 h4] at h1
   exact zg h1
  exact PySem.W.ki_setAt ho h0 (by omega) (by rw[qM,<-hl];exact h4) (by rw[hk];exact⟨_,I',q⟩)
 .have hk:(k+(its.toArray.size:Int)).toNat=j:=by
   rw[seqIndex_neg (by omega) h3] at h1
   rw[qM,<-hl]
   exact zg h1
  exact PySem.W.ki_setBack ho (by omega) (by rw[qM,<-hl];exact h3) (by omega) (by rw[hk];exact⟨_,I',q⟩)
theorem X0(lo hi:Option Int)(n:Nat):(sliceBounds lo hi none n).1=((HT.sIx n 0 lo:Nat):Int)/\(sliceBounds lo hi none n).2.1=((HT.sIx n n hi:Nat):Int)/\(sliceBounds lo hi none n).2.2=1:=by
 refine⟨?_,?_,rfl⟩
 .cases lo with
  | none=>simp[sliceBounds,HT.sIx]
  | some i =>
    simp only[sliceBounds,HT.sIx,Option.getD_none,show(1:Int) > 0 by decide,gD]
    by_cases h:i<0
    .simp only[h,gD] <;> omega
    .simp only[h,jD] <;> omega
 .cases hi with
  | none=>simp[sliceBounds,HT.sIx]
  | some i =>
    simp only[sliceBounds,HT.sIx,Option.getD_none,show(1:Int) > 0 by decide,gD]
    by_cases h:i<0
    .simp only[h,gD] <;> omega
    .simp only[h,jD] <;> omega
theorem WO(its:QpM)(lo hi:Option Int):slicePick its.toArray lo hi none=((its.drop (HT.sIx its.length 0 lo)).take (HT.sIx its.length its.length hi - HT.sIx its.length 0 lo)).toArray:=by
 obtain⟨h1,h2,h3⟩:=X0 lo hi its.toArray.size
 unfold slicePick
 rw[h1,h2,h3]
 simp only[sliceRange_one,pick_run,qM] <;> rfl
inductive QdV(K:Frag)(x:V)(lo:Option Int)(hi:Option Int)(H:Hp)(Q:VK):Prop
 | mk:∀a xs,x=.ref a->jk K H a xs->(∀p,H p=none->Q (.ref p) (upd H p (.lst (UR xs lo hi))))->QdV K x lo hi H Q
def rSlL(K:Frag):V->Option Int->Option Int->Hp->VK->Prop:=fun x lo hi H Q=>QdV K x lo hi H Q
theorem QfU:SlR X (rSlL X.K):=by
 intro pins s σ H x v vl vu lo hi sl Q I rx hs pl pu h
 obtain⟨a,xs,rfl,hx,q⟩:=h
 cases rx
 obtain⟨its,r,ht,hz⟩:=I.list hx
 have hlen:=r.length
 refine⟨"list",_,slot_list_getitem.lookup,ht.isList.typeIs,?_⟩
 refine wpAny_getItem_list_slice ht.isList hs pl pu .none (by simp) ?_ (by rw[qM] <;> omega)
 rw[WO,<-hlen]
 refine⟨.ref s.heap.objs.size,_,I.laid (t':=s.toks) (o:=.lst (UR xs lo hi)) (fun b ob q=>qw _ q) (qp _) ?_,rfl,q _ (I.hok.fresh (qp _))⟩
 exact⟨zf (GR xs lo hi) hz,_,0,(r.drop (HT.sIx xs.length 0 lo)).take (HT.sIx xs.length xs.length hi - HT.sIx xs.length 0 lo),qN _ rfl⟩
theorem QA:YM X (.builtin "len") (fun xs H Q=>∃p ys,xs=[.ref p]/\(jk X.K H p ys\/yu X.K H p ys)/\Q (.int ys.length) H):=by
 intro pins s σ H xs us Q I r h
 obtain⟨p,ys,rfl,hq,q⟩:=h
 obtain⟨u,rfl,rx⟩:=Vh r
 cases rx
 have hn:=Ui
 rcases hq with hq | hq
 .obtain⟨its,r',pl,hz⟩:=I.list hq
  have hlen:=r'.length
  exact Calls.call_len_list pl.isList (by simp only[qM] <;> omega) ⟨.int ys.length,H,I.tok _,⟨s.toks+1,by rw[qM,hlen]⟩,q⟩
 .obtain⟨its,r',pl,hz⟩:=I.tuple hq
  have hlen:=r'.length
  exact len_tuple pl (by simp only[qM] <;> omega) ⟨.int ys.length,H,I.tok _,⟨s.toks+1,by rw[qM,hlen]⟩,q⟩
theorem ZQ:YM X (.builtin "len") (fun xs H Q=>∃z,xs=[.str z]/\z.length<=sizeLine/\Q (.int z.length) H):=by
 intro pins s σ H xs us Q I r h
 obtain⟨z,rfl,hz,q⟩:=h
 obtain⟨u,rfl,t,rfl⟩:=Vh r
 have hn:=Ui
 exact len_str (by omega) ⟨.int z.length,H,I.tok _,⟨_,rfl⟩,q⟩
theorem KC:YM X (.type "list") (fun xs H Q=>∃p ys,xs=[.ref p]/\(jk X.K H p ys\/yu X.K H p ys)/\∀l,H l=none->Q (.ref l) (upd H l (.lst ys))):=by
 intro pins s σ H xs us Q I r h
 obtain⟨p,ys,rfl,hq,q⟩:=h
 obtain⟨u,rfl,rx⟩:=Vh r
 cases rx
 have fin:∀(its:QpM),Qx ys its->ys.length<=sizeLine->∀(h':Heap)(c':Nat),(∀b o',s.heap.get? b=some o'->h'.get? b=some o') ->
  h'.get? s.heap.objs.size=some { cls:=.type "list",dict:=none,data:=.seq its.toArray c',slots:=#[] }->EP X pins σ Q (.ref s.heap.objs.size) { s with heap:=h' }:=fun its r' hz h' c' kp e =>
  ⟨.ref s.heap.objs.size,_,I.laid (t':=s.toks) kp (qp _) (show QG X.prog X.w _ h' _ (.lst ys) from⟨hz,its,c',r',e⟩),rfl,q _ (I.hok.fresh (qp _))⟩
 rcases hq with hq | hq
 .obtain⟨its,r',pl,hz⟩:=I.list hq
  have hlen:=r'.length
  obtain⟨o,ho,hc,n,hd⟩:=pl.isList
  exact call_list_seq p (.inl rfl) ho hc hd (fun h' c' kp e=>fin its r' hz h' c' kp e) (by simp only[qM] <;> omega)
 .obtain⟨its,r',pl,hz⟩:=I.tuple hq
  have hlen:=r'.length
  obtain⟨o,ho,hc,n,hd⟩:=pl
  exact call_list_seq p (.inr rfl) ho hc hd (fun h' c' kp e=>fin its r' hz h' c' kp e) (by simp only[qM] <;> omega)
def tyV(K:Frag)(T:String)(x:V)(H:Hp):Prop:=match x with
 | .str _=>T="str"
 | .int _=>T="int"
 | .ref p=>(T="list"/\∃xs,jk K H p xs)\/(T="tuple"/\∃o,K.lookup p=some o/\o.cls=.type "tuple"/\o.dict=none) \/
    (T="dict"/\((∃kvs,H p=some (.dK kvs))\/∃kvs,H p=some (.dT kvs)))\/(T="set"/\∃S n,H p=some (.set S n))
 | _=>False
theorem Qdo{pins:List (Addr×Obj)}{σ:St}{H:Hp}{s:Shared}{T:String}{x:V}{v:Value}(I:Inv X pins σ H s)(r:QC x v)(ty:tyV X.K T x H) :
 s.TypeIs v T/\∀a,v=.ref a->∃ob,s.heap.get? a=some ob/\ob.dict=none:=by
 cases x with
 | str z =>
   obtain⟨t,rfl⟩:=r
   cases (show T="str" from ty)
   exact⟨typeIs_str s z t,fun _ e=>nomatch e⟩
 | int i =>
   obtain⟨t,rfl⟩:=r
   cases (show T="int" from ty)
   exact⟨typeIs_int s i t,fun _ e=>nomatch e⟩
 | ref p =>
   cases r
   rcases ty with⟨rfl,xs,hq⟩ | ⟨rfl,o,hk,hc,hd⟩ | ⟨rfl,hk⟩ | ⟨rfl,S,n,hk⟩
   .obtain⟨its,_,pl,_⟩:=I.list hq
    refine⟨pl.isList.typeIs,fun a e=>?_⟩
    cases e
    obtain⟨o,n,e,c,hd,_⟩:=pl
    exact⟨o,e,hd⟩
   .refine⟨⟨o,I.uM p o hk,hc⟩,fun a e=>?_⟩
    cases e
    exact⟨o,I.uM _ o hk,hd⟩
   .have z:∃o,s.heap.get? p=some o/\o.ExactDict:=by
     rcases hk with⟨kvs,hk⟩ | ⟨kvs,hk⟩
     .obtain⟨_,_,_,_,o,_,_,e,ex,_⟩:=I.hok p _ hk
      exact⟨o,e,ex⟩
     .obtain⟨_,_,_,_,o,_,_,e,ex,_⟩:=I.hok p _ hk
      exact⟨o,e,ex⟩
    obtain⟨o,e,ex⟩:=z
    refine⟨⟨o,e,ex.1⟩,fun a e2=>?_⟩
    cases e2
    exact⟨o,e,ex.2.1⟩
   .obtain⟨o,_,_,_,e,ex,_⟩:=I.hok p _ hk
    refine⟨⟨o,e,ex.1⟩,fun a e2=>?_⟩
    cases e2
    exact⟨o,e,ex.2.1⟩
 | _=>exact False.elim ty
def tBM0(K:Frag)(T:String)(r:V->List V->Hp->VK->Prop)(to:TE):TE:=fun σ H Q=>to σ H fun x H1=>tyV K T x H1/\r x [] H1 Q
def tBM(K:Frag)(T:String)(r:V->List V->Hp->VK->Prop)(to:TE)(t:TA):TE:=fun σ H Q=>to σ H fun x H1=>tyV K T x H1/\t σ H1 fun xs H2=>r x xs H2 Q
variable {o e:Expr}{es:List Expr}{to:TE}{t:TA}{name:Str}{apos cpos:Pos}{T id:String}{r:V->List V->Hp->VK->Prop}
theorem Qef(pa:PlainAttrs T)(slot:Slot T name id)(hty:typeOf (.builtin id)=pure (.type "method_descriptor"))(hm:MtR X id r)(ho:PE X o to)
 (hbase:attributeBase o name X.env (eval o X.env)=eval o X.env:=by rfl) (hline:(apos.endLine == cpos.line)=true:=by rfl):PE X (.Call (.Attribute o name apos) [] [] cpos) (tBM0 X.K T r to):=by
 intro pins s σ H Q I h
 refine QkO hbase hline (j0 (ho pins s σ H _ I h) fun v s1 ⟨x,H1,I1,r1,ty,q1⟩=>?_)
 obtain⟨h1,h2⟩:=Qdo I1 r1 ty
 exact⟨T,id,pa,slot,hty,h1,h2,kE rfl (Qlj (hm pins s1 σ H1 x [] v [] Q I1 r1 .nil q1))⟩
theorem J0(pa:PlainAttrs T)(slot:Slot T name id)(hty:typeOf (.builtin id)=pure (.type "method_descriptor"))(hm:MtR X id r)(ho:PE X o to)(ha:PA X (e :: es) t)
 (hbase:attributeBase o name X.env (eval o X.env)=eval o X.env:=by rfl)
 (hfew:((backTo cpos (starEach (e :: es) X.env)).all (fun x=>!x.1) && (backToKw cpos (keywordEach [] X.env)).all (fun x=>x.1.isSome)
   && decide ((e :: es).length+([]:List Keyword).length+(if ([]:List Keyword).isEmpty then 0 else 1)<30))=true:=by rfl)
 (hline:(apos.endLine == cpos.line)=true:=by rfl) (hs:starEach (e :: es) X.env=(false,eval e X.env) :: starEach es X.env:=by rfl) (hplain:(backTo cpos (starEach es X.env)).any (·.1)=false:=by rfl) :
 PE X (.Call (.Attribute o name apos) (e :: es) [] cpos) (tBM X.K T r to t):=by
 intro pins s σ H Q I h
 refine wpAny_Call_method_late hbase hfew hline rfl (j0 (ho pins s σ H _ I h) fun v s1 ⟨x,H1,I1,r1,ty,q1⟩=>?_)
 obtain⟨h1,h2⟩:=Qdo I1 r1 ty
 refine⟨T,id,pa,slot,hty,h1,h2,?_⟩
 have hA:=ha cpos pins s1 σ H1 _ I1 q1
 rw[hs] at hA ⊢
 refine kE (by show(false || (backTo cpos (starEach es X.env)).any (·.1))=false;rw[hplain] <;> rfl) (Calls.evalArgs_plain ?_)
 exact j0 hA fun us s2 ⟨vs,H2,I2,r2,q2⟩=>hm pins s2 σ H2 x vs v us Q I2 r1 r2 q2
end
end L2
namespace L2
open PySem PySem.Spec PyProof.Rows
def MtM(X:Cx)(id:String)(r:V->List V->Hp->VK->Prop):Prop :=
 ∀(pins:List (Addr×Obj))(s:Shared)(σ:St)(H:Hp)(x:V)(xs:List V)(v:Value)(us:QpM)(Q:VK),Inv X pins σ H s->QC x v->Qx xs us->r x xs H Q ->
  wpAny (model X.prog X.w) X.A (call (.builtin id) (v :: us)) (EP X pins σ Q) X.xe s
theorem Qx.one:∀{x:V}{us:QpM},Qx [x] us->∃u,us=[u]/\QC x u
 | _,_,.cons r .nil=>⟨_,rfl,r⟩
theorem Qx.two:∀{x y:V}{us:QpM},Qx [x,y] us->∃u v,us=[u,v]/\QC x u/\QC y v
 | _,_,_,.cons r (.cons q .nil)=>⟨_,_,rfl,r,q⟩
theorem Qx.zero:∀{us:QpM},Qx [] us->us=[]
 | _,.nil=>rfl
section
variable {X:Cx}{pins:List (Addr×Obj)}{σ:St}{H:Hp}{s:Shared}{l b:Addr}{xs ys zs:List V}
theorem Inv.QnL{its its':QpM}{n:Nat}{f:Array Value->Array Value}{t':Nat}(I:Inv X pins σ H s)(hH:H l=some (.lst xs))
 (e:s.heap.get? l=some { cls:=.type "list",data:=.seq its.toArray n }) (hf:f its.toArray=its'.toArray) (hv:Qx ys its') (hz:ys.length<=sizeLine) :
 Inv X pins σ (upd H l (.lst ys)) { s with heap:=s.heap.update l (Obj.mapSeq f),toks:=t' }:=by
 have q:=PySem.IsL.update e f
 rw[hf] at q
 refine I.write (x:=l) (e:=l) (by rw[hH];exact trivial) (.inl rfl) (fun b' u hb hu=>(j9 s.heap (Obj.mapSeq f) (gC hb)).trans hu) ⟨_,q⟩ ?_
 exact⟨hz,its',_,hv,q⟩
theorem Inv.lnew{its:QpM}{t':Nat}(I:Inv X pins σ H s)(hv:Qx ys its)(hz:ys.length<=sizeLine) :
 Inv X pins σ (upd H s.heap.objs.size (.lst ys)) { s with heap:=s.heap.push { cls:=.type "list",data:=.seq its.toArray },toks:=t' } :=
 I.laid (fun _ _ q=>qw _ q) (qp _) ⟨hz,its,0,hv,qN _ rfl⟩
theorem Inv.fresh(I:Inv X pins σ H s):H s.heap.objs.size=none:=I.hok.fresh (qp _)
theorem Inv.Qln(I:Inv X pins σ H s)(hH:H l=some (.lst xs)):xs.length<=sizeLine/\∃(its:QpM)(n:Nat),Qx xs its/\xs.length=its.length/\s.heap.get? l=some { cls:=.type "list",data:=.seq its.toArray n }:=by
 obtain⟨z,its,n,r,e⟩:=I.hok l _ hH
 exact⟨z,its,n,r,r.length,e⟩
theorem Qey{n:Nat}(h:n<=sizeLine):Builtin.List.listTooLong n=false:=by
 unfold Builtin.List.listTooLong
 exact qz (by omega)
end
section
variable {X:Cx}
inductive Xy(x:V)(vs:List V)(H:Hp)(Q:VK):Prop
 | mk:∀l xs y,x=.ref l->vs=[y]->H l=some (.lst xs)->xs.length<sizeLine->Q .non (upd H l (.lst (xs++[y])))->Xy x vs H Q
def Qf5:V->List V->Hp->VK->Prop:=fun x vs H Q=>Xy x vs H Q
theorem Zb:MtM X "list.append" Qf5:=by
 intro pins s σ H x vs v us Q I rx rv h
 obtain⟨l,xs,y,rfl,rfl,hH,hz,q⟩:=h
 cases rx
 obtain⟨u,rfl,ru⟩:=rv.one
 obtain⟨z,its,n,r,hl,e⟩:=I.Qln hH
 refine call_meets F.slot_list_append ⟨_,e,rfl⟩ F.entry_list_append (F.args_list_append_2 _ _) (PySem.list_append l its.toArray n u (by rw[qM];omega)) ⟨e,?_⟩
 refine⟨.non,_,I.QnL (its':=its++[u]) hH e (by simp) (r.append (.cons ru .nil)) ?_,rfl,q⟩
 rw[qy,zV]
 omega
inductive Xw(x:V)(vs:List V)(H:Hp)(Q:VK):Prop
 | mk:∀l b xs zs,x=.ref l->vs=[.ref b]->H l=some (.lst xs)->H b=some (.lst zs)->xs.length+zs.length<=sizeLine->Q .non (upd H l (.lst (xs++zs)))->Xw x vs H Q
def Qf2:V->List V->Hp->VK->Prop:=fun x vs H Q=>Xw x vs H Q
theorem QcM:MtM X "list.extend" Qf2:=by
 intro pins s σ H x vs v us Q I rx rv h
 obtain⟨l,b,xs,zs,rfl,rfl,hH,hB,hz,q⟩:=h
 cases rx
 obtain⟨u,rfl,ru⟩:=rv.one
 cases ru
 obtain⟨z,its,n,r,hl,e⟩:=I.Qln hH
 obtain⟨z2,its2,n2,r2,hl2,e2⟩:=I.Qln hB
 have hsz:its.toArray.size+its2.toArray.size<=sizeLine:=by rw[qM,qM];omega
 have hlong:¬(!its.toArray.isEmpty && Builtin.List.listTooLong (its.toArray.size+its2.toArray.size))=true:=by
  rw[Qey hsz,Bool.and_false]
  exact q8
 refine call_meets F.slot_list_extend ⟨_,e,rfl⟩ F.entry_list_extend (F.args_list_extend_2 _ _)
  (AutoSeq1.list_extend_list_list_0 l its.toArray n b its2.toArray n2 hlong (by rw[qM];omega) (by omega)) ⟨e,e2,?_⟩
 refine⟨.non,_,I.QnL (its':=its++its2) hH e (by simp) (r.append r2) ?_,rfl,q⟩
 rw[qy]
 omega
inductive Ge(x:V)(vs:List V)(H:Hp)(Q:VK):Prop
 | mk:∀l xs,x=.ref l->vs=[]->H l=some (.lst xs)->Q .non (upd H l (.lst []))->Ge x vs H Q
def QhL:V->List V->Hp->VK->Prop:=fun x vs H Q=>Ge x vs H Q
theorem QeD:MtM X "list.clear" QhL:=by
 intro pins s σ H x vs v us Q I rx rv h
 obtain⟨l,xs,rfl,rfl,hH,q⟩:=h
 cases rx
 have hus:=rv.zero
 subst hus
 obtain⟨z,its,n,r,hl,e⟩:=I.Qln hH
 refine call_meets F.slot_list_clear ⟨_,e,rfl⟩ F.entry_list_clear (F.args_list_clear_1 _) (AutoSeq1.list_clear_list_0 l its.toArray n (by rw[qM];omega)) ⟨e,?_⟩
 exact⟨.non,_,I.QnL (its':=[]) (ys:=[]) hH e rfl .nil (qP _),rfl,q⟩
inductive Qd3(x:V)(y:V)(H:Hp)(Q:VK):Prop
 | mk:∀l b xs zs,x=.ref l->y=.ref b->H l=some (.lst xs)->H b=some (.lst zs)->xs.length+zs.length<=sizeLine->(∀p,H p=none->Q (.ref p) (upd H p (.lst (xs++zs))))->Qd3 x y H Q
def rCat:R2:=fun x y H Q=>Qd3 x y H Q
theorem Qek:uz X (binaryOp .Add) rCat:=by
 intro pins s σ H x y v u Q I rx ry h
 obtain⟨l,b,xs,zs,rfl,rfl,hH,hB,hz,q⟩:=h
 cases rx
 cases ry
 obtain⟨z,its,n,r,hl,e⟩:=I.Qln hH
 obtain⟨z2,its2,n2,r2,hl2,e2⟩:=I.Qln hB
 refine PySem.P.add_list e e2 ?_ (by rw[qM,qM];omega)
 have ea:its.toArray++its2.toArray=(its++its2).toArray:=by simp
 rw[ea]
 exact⟨.ref _,_,I.lnew (t':=s.toks) (r.append r2) (by rw[qy];omega),rfl,q _ I.fresh⟩
end
section
variable {prog:Program}{w:World}{A:Around}{E:QpL}{s:Shared}
end
section
variable {X:Cx}
end
end L2
namespace L2
open PySem PySem.Spec PyProof.Rows
section
variable {κ:Type}[DecidableEq κ]
def Q7(kvs:List (κ×V))(k:κ):Option V:=(kvs.find? fun kv=>decide (kv.1=k)).map (·.2)
def Yi(kvs:List (κ×V))(k:κ)(v:V):List (κ×V) :=
 if (kvs.any fun kv=>decide (kv.1=k))=true then kvs.map (fun kv=>if kv.1=k then (kv.1,v) else kv) else kvs++[(k,v)]
theorem JX{p:κ×V}{r:List (κ×V)}{k:κ}(e:p.1=k):Q7 (p :: r) k=some p.2:=by simp[Q7,wH,e]
theorem Jr{p:κ×V}{r:List (κ×V)}{k:κ}(e:¬p.1=k):Q7 (p :: r) k=Q7 r k:=by simp[Q7,wH,e]
theorem KM(k:κ):∀kvs:List (κ×V),(kvs.any fun kv=>decide (kv.1=k))=(Q7 kvs k).isSome
 | []=>rfl
 | p :: r=>by
   rw[List.any_cons]
   by_cases e:p.1=k
   .simp only[JX e,qt e,Bool.true_or,Option.isSome_some]
   .rw[Jr e,qz e,Bool.false_or];exact KM k r
theorem Vq(kvs:List (κ×V))(k:κ)(v:V):(Yi kvs k v).length<=kvs.length+1:=by
 unfold Yi
 split
 .rw[qd];omega
 .rw[qy,zm,List.length_nil];omega
theorem YA.Ql1{o:Option V}{u:Option Value}(r:YA o u):o.isSome=u.isSome:=by
 cases o with
 | none=>cases u with
   | none=>rfl
   | some _=>exact(show False from r).elim
 | some _=>cases u with
   | none=>exact(show False from r).elim
   | some _=>rfl
theorem YA.getD{o:Option V}{u:Option Value}{d:V}{d':Value}(r:YA o u)(rd:QC d d'):QC (o.getD d) (u.getD d'):=by
 cases o with
 | none=>cases u with
   | none=>exact rd
   | some _=>exact(show False from r).elim
 | some _=>cases u with
   | none=>exact(show False from r).elim
   | some _=>exact r
theorem KV.val{kvs:List (κ×V)}{vs:List (κ×Value)}(r:KV kvs vs)(k:κ):YA (Q7 kvs k) (valueAt vs k):=by
 unfold KV at r
 induction r with
 | nil=>exact True.intro
 | @cons p q ps qs h t ih =>
   obtain⟨h1,h2⟩:=h
   by_cases e:p.1=k
   .have e':q.1=k:=h1.symm.trans e
    have b:valueAt (q :: qs) k=some q.2:=by simp[valueAt,wH,e']
    rw[JX e,b];exact h2
   .have e':¬q.1=k:=fun z=>e (h1.trans z)
    have b:valueAt (q :: qs) k=valueAt qs k:=by simp[valueAt,wH,e']
    rw[Jr e,b];exact ih
theorem KV.any{kvs:List (κ×V)}{vs:List (κ×Value)}(r:KV kvs vs)(k:κ):(kvs.any fun kv=>decide (kv.1=k))=vs.any fun kv=>decide (kv.1=k):=by
 unfold KV at r
 induction r with
 | nil=>rfl
 | cons h t ih=>rw[List.any_cons,List.any_cons,ih,h.1]
theorem KV.repl{kvs:List (κ×V)}{vs:List (κ×Value)}(r:KV kvs vs)(k:κ){y:V}{u:Value}(ry:QC y u) :
 KV (kvs.map fun kv=>if kv.1=k then (kv.1,y) else kv) (vs.map fun kv=>if kv.1=k then (kv.1,u) else kv):=by
 unfold KV at r ⊢
 induction r with
 | nil=>exact .nil
 | @cons p q ps qs h t ih =>
   rw[z7,z7]
   refine .cons ?_ ih
   obtain⟨h1,h2⟩:=h
   by_cases e:p.1=k
   .rw[qj e,qj (h1.symm.trans e)];exact⟨h1,ry⟩
   .rw[ql e,ql (fun z=>e (h1.trans z))];exact⟨h1,h2⟩
theorem KV.put{kvs:List (κ×V)}{vs:List (κ×Value)}(r:KV kvs vs)(k:κ){y:V}{u:Value}(ry:QC y u):KV (Yi kvs k y) (stored vs k u):=by
 unfold Yi stored
 rw[r.any k]
 by_cases e:(vs.any fun kv=>decide (kv.1=k))=true
 .rw[qj e,qj e];exact r.repl k ry
 .rw[ql e,ql e];exact Paired.snoc r ⟨rfl,ry⟩
theorem KV.length{kvs:List (κ×V)}{vs:List (κ×Value)}(r:KV kvs vs):kvs.length=vs.length:=Paired.length r
end
theorem QbH{P:Program}{w:World}{k:Key}{u:Value}(r:QC (kV k) u):(QW P w).is k u=true:=by
 cases k with
 | inl i=>obtain⟨t,e⟩:=(show ∃t,u=Value.int i t from r);subst e;exact Gy P w i t
 | inr x=>obtain⟨t,e⟩:=(show ∃t,u=Value.str x t from r);subst e;exact Gx P w x t
theorem XJ{P:Program}{w:World}:∀{ks:List Key}{us:QpM},Qx (ks.map kV) us->ItemsAre (QW P w) ks us
 | [],_,r=>by rw[List.map_nil] at r;cases r;exact .nil
 | k :: ks,_,r=>by
   rw[z7] at r
   cases r with
   | cons h t=>exact .cons (QbH h) (XJ t)
abbrev KT(H:Hp):List (List Key×V)->List (List Key×Addr×Value)->Prop:=Paired fun p q=>p.1=q.1/\H q.2.1=some (.tup (p.1.map kV))/\QC p.2 q.2.2
theorem KT.val{H:Hp}{kvs:List (List Key×V)}{xs:List (List Key×Addr×Value)}(r:KT H kvs xs)(k:List Key):YA (Q7 kvs k) ((atKey xs k).map (·.2)):=by
 induction r with
 | nil=>exact True.intro
 | @cons p q ps qs h t ih =>
   obtain⟨h1,_,h2⟩:=h
   by_cases e:p.1=k
   .have e':q.1=k:=h1.symm.trans e
    have b:atKey (q :: qs) k=some q.2:=by simp[atKey,wH,e']
    rw[JX e,b];exact h2
   .have e':¬q.1=k:=fun z=>e (h1.trans z)
    have b:atKey (q :: qs) k=atKey qs k:=by simp[atKey,wH,e']
    rw[Jr e,b];exact ih
theorem KT.repl{H:Hp}{kvs:List (List Key×V)}{xs:List (List Key×Addr×Value)}(r:KT H kvs xs)(k:List Key){y:V}{u:Value}(ry:QC y u) :
 KT H (kvs.map fun kv=>if kv.1=k then (kv.1,y) else kv) (xs.map (putAt k u)):=by
 induction r with
 | nil=>exact .nil
 | @cons p q ps qs h t ih =>
   rw[z7,z7]
   refine .cons ?_ ih
   obtain⟨h1,h2,h3⟩:=h
   unfold putAt
   by_cases e:p.1=k
   .rw[qj e,qj (h1.symm.trans e)];exact⟨h1,h2,ry⟩
   .rw[ql e,ql (fun z=>e (h1.trans z))];exact⟨h1,h2,h3⟩
theorem KT.put{H:Hp}{kvs:List (List Key×V)}{xs:List (List Key×Addr×Value)}(r:KT H kvs xs)(k:List Key){b:Addr}{y:V}{u:Value}(hb:H b=some (.tup (k.map kV)))(ry:QC y u) :
 KT H (Yi kvs k y) (storedH xs k b u):=by
 have e:(kvs.any fun kv=>decide (kv.1=k))=(atKey xs k).isSome:=by
  rw[KM,(r.val k).Ql1,Option.isSome_map]
 unfold Yi storedH
 rw[e]
 by_cases q:(atKey xs k).isSome=true
 .rw[qj q,qj q];exact r.repl k ry
 .rw[ql q,ql q];exact Paired.snoc r ⟨rfl,hb,ry⟩
theorem KT.keeps{H H':Hp}{kvs:List (List Key×V)}{xs:List (List Key×Addr×Value)}(r:KT H kvs xs)(ht:∀b ys,H b=some (.tup ys)->H' b=some (.tup ys)):KT H' kvs xs :=
 Paired.QnJ r fun _ _ z=>⟨z.1,ht _ _ z.2.1,z.2.2⟩
section
variable {P:Program}{w:World}{H:Hp}{h:Heap}{a:Addr}
theorem QgZ{u:HO}(ok:gq P w H h)(e:Rd H a u):QG P w H h a u:=e.ok ok
theorem Y8{kvs:List (Key×V)}(ok:gq P w H h)(e:Rd H a (.dK kvs)):kvs.length<=sizeLine/\(a == sysModules)=false/\∃vs,KV kvs vs/\h.DictOf (QW P w) a vs :=
 show QG P w H h a (.dK kvs) from QgZ ok e
theorem Qhc{kvs:List (Key×V)}(ok:gq P w H h)(e:H a=some (.dK kvs)):kvs.length<=sizeLine/\(a == sysModules)=false/\∃vs,KV kvs vs/\h.DictOf (QW P w) a vs:=Y8 ok (.inl e)
theorem Kr{ks:List Key}(ok:gq P w H h)(e:H a=some (.tup (ks.map kV))):(tupleKind (QW P w)).is h ks a:=by
 obtain⟨_,its,r,o,h1,h2,n,h3⟩:=(show QG P w H h a (.tup (ks.map kV)) from ok a _ e)
 exact⟨o,its.toArray,n,h1,h2,h3,by simpa using XJ r⟩
theorem GP{kvs:List (List Key×V)}(ok:gq P w H h)(e:Rd H a (.dT kvs)):kvs.length<=sizeLine/\(a == sysModules)=false /\
 ∃xs,KT H kvs xs/\h.DictOfH (tupleKind (QW P w)) a xs:=by
 obtain⟨z,y,xs,r,o,es,ep,h1,h2,h3,h4,h5⟩:=(show QG P w H h a (.dT kvs) from QgZ ok e)
 refine⟨z,y,xs,r,o,es,ep,h1,h2,h3,h4,fun x hx=>?_,h5⟩
 have all:∀{l:List (List Key×V)}{m:List (List Key×Addr×Value)},KT H l m->∀x∈m,(tupleKind (QW P w)).is h x.1 x.2.1:=by
  intro l m q
  induction q with
  | nil=>intro x hx;exact nomatch hx
  | @cons p q ps qs hq t ih =>
    intro x hx
    rcases qR.mp hx with e | hx
    .subst e
     exact Kr ok (by rw[<-hq.1];exact hq.2.1)
    .exact ih x hx
 exact all r x hx
theorem dt_of{kvs:List (List Key×V)}(ok:gq P w H h)(e:H a=some (.dT kvs)):kvs.length<=sizeLine/\(a == sysModules)=false /\
 ∃xs,KT H kvs xs/\h.DictOfH (tupleKind (QW P w)) a xs:=GP ok (.inl e)
end
def Qdf(H:Hp)(a:Addr)(y:V)(r:Option V):Prop :=
 (∃kvs k,Rd H a (.dK kvs)/\y=kV k/\r=Q7 kvs k)\/∃kvs k b,Rd H a (.dT kvs)/\y=.ref b/\H b=some (.tup (k.map kV))/\r=Q7 kvs k
def DPut(H:Hp)(a:Addr)(y v:V)(H':Hp):Prop :=
 (∃kvs k,H a=some (.dK kvs)/\y=kV k/\kvs.length<sizeLine/\H'=upd H a (.dK (Yi kvs k v))) \/
 ∃kvs k b,H a=some (.dT kvs)/\y=.ref b/\H b=some (.tup (k.map kV))/\kvs.length<sizeLine/\H'=upd H a (.dT (Yi kvs k v))
section
variable {X:Cx}{pins:List (Addr×Obj)}{σ:St}{H:Hp}{s:Shared}{a:Addr}{y v:V}{u r:Value}{o:Option V}{A:Around}{E:QpL}
theorem Inv.big(I:Inv X pins σ H s):sysModules<s.heap.objs.size:=by
 have h:mainGlobals<s.heap.objs.size:=(I.mod.glob.keeps I.bk).lt
 exact Nat.lt_trans (by decide) h
theorem Qc7{Q:QpL}(hu:A.units+1<cLine)(I:Inv X pins σ H s)(g:Qdf H a y (some v))(ry:QC y u)(h:∀w' s',Inv X pins σ H s'->QC v w'->Q w' s') :
 wpAny (model X.prog X.w) A (getItem (.ref a) u) Q E s:=by
 rcases g with⟨kvs,k,e,ey,l⟩ | ⟨kvs,k,b,e,ey,eb,l⟩
 .subst ey
  obtain⟨z,hd,vs,rel,dd⟩:=Y8 I.hok e
  obtain⟨w',hw,rw'⟩:=YA.some_of (v:=v) (o:=valueAt vs k) (by rw[l];exact rel.val k)
  exact wpAny_getItem_of (QbH ry) dd.mapOf hw (h w' _ (I.tok _) rw')
 .subst ey
  cases (show u=Value.ref b from ry)
  obtain⟨z,hd,xs,rel,dd⟩:=GP I.hok e
  obtain⟨w',hw,rw'⟩:=YA.some_of (v:=v) (o:=(atKey xs k).map (·.2)) (by rw[l];exact rel.val k)
  obtain⟨p,hp,hp2⟩:=xx.mp hw
  refine wpAny_getItem_heap (tupleKind_room_in1 hu) (Kr I.hok eb) dd hp ?_
  rw[hp2]
  exact h w' _ (I.tok _) rw'
theorem KA{h':Heap}{t':Nat}{ob:HO}(I:Inv X pins σ H s)(mu:Mut (H a))(hs:Heap.SameBut a s.heap h')(he:∃q,h'.get? a=some q)(new:QG X.prog X.w (upd H a ob) h' a ob) :
 Inv X pins σ (upd H a ob) { s with heap:=h',toks:=t' } :=
 I.write (x:=a) (e:=a) mu (.inl rfl) (fun b q hb z=>(hs.2 b hb).trans z) he new
theorem Qff{P:Program}{w:World}{H':Hp}{h':Heap}{kvs:List (Key×V)}{vs:List (Key×Value)}(z:kvs.length<=sizeLine)(hd:(a == sysModules)=false)(rel:KV kvs vs)(dd:h'.DictOf (QW P w) a vs) :
 QG P w H' h' a (.dK kvs):=⟨z,hd,vs,rel,dd⟩
theorem Qc6{H':Hp}{Q:Unit->Shared->Prop}(hu:A.units+1<cLine)(I:Inv X pins σ H s)(g:DPut H a y v H')(ry:QC y u)(rv:QC v r)(h:∀s',Inv X pins σ H' s'->Q () s') :
 wpAny (model X.prog X.w) A (setItem (.ref a) u r) Q E s:=by
 rcases g with⟨kvs,k,e,ey,l,eH⟩ | ⟨kvs,k,b,e,ey,eb,l,eH⟩
 .subst ey eH
  obtain⟨z,hd,vs,rel,dd⟩:=Qhc I.hok e
  have hz:vs.length<=sizeLine:=by rw[<-rel.length];exact z
  have hl:(Yi kvs k v).length<=sizeLine:=by have:=Vq kvs k v;omega
  refine wpAny_setItem_pairs (hsz:=hz) (QbH ry) dd fun h' dd' hs=>h _ ?_
  have he:∃q,h'.get? a=some q:=let ⟨q,_,_,hq,_⟩:=dd';⟨q,hq⟩
  exact KA I (by rw[e];exact True.intro) hs he (Qff hl hd (rel.put k rv) dd')
 .subst ey eH
  cases (show u=Value.ref b from ry)
  obtain⟨z,hd,xs,rel,dd⟩:=dt_of I.hok e
  have hz:xs.length<=sizeLine:=by rw[<-Paired.length rel];exact z
  have hl:(Yi kvs k v).length<=sizeLine:=by have:=Vq kvs k v;omega
  refine wpAny_setItem_heap (hsz:=hz) (tupleKind_room_in1 hu) (Kr I.hok eb) dd fun h' dd' hs=>h _ ?_
  obtain⟨q,es,ep,hq,h2,h3,h4,_,h5⟩:=dd'
  refine KA I (by rw[e];exact True.intro) hs ⟨q,hq⟩ ⟨hl,hd,_,(rel.put k eb rv).keeps fun c ys ec=>?_,q,es,ep,hq,h2,h3,h4,h5⟩
  rw[Qj (QI ec e (fun z=>nomatch z))]
  exact ec
end
section
variable {X:Cx}{pins:List (Addr×Obj)}{σ:St}{H:Hp}{s:Shared}{a:Addr}{kvs:List (Key×V)}{k:Key}{u:Value}{A:Around}{E:QpL}
end
def NoSl(i:Expr):Prop:=∀ov iv,subscripted i false ov iv=operate [ov,iv] (getItem ov iv)
theorem QfF{prog:Program}{w:World}{A:Around}{E:QpL}{s:Shared}{env:Env}{value slice:Expr}{pos:Pos}{T id:String}{Q:QpL}
 (hl:typeLookup (.type T) "__getitem__"=pure (some (.builtin id))) (hs:NoSl slice)
 (h:wpAny (model prog w) A (eval value env) (fun o s₁=>wpAny (model prog w) A (eval slice env) (fun i s₂=>s₂.TypeIs o T/\wpAny (model prog w) A (getItem o i) Q E s₂) E s₁) E s) :
 wpAny (model prog w) A (eval (.Subscript value slice pos) env) Q E s:=by
 refine Subscript_ (jM h (fun o s₁ h₁=>jM h₁ (fun i s₂ h₂=>?_) fun _ _ x=>x) fun _ _ x=>x)
 obtain⟨hT,h₂⟩:=h₂
 unfold subscriptTail
 refine qb ?_
 rw[getitemInPython_of_ne hT.not_modules]
 refine qb (wpAny_specialOf hT hl ?_)
 have fin:wpAny (model prog w) A (subscripted slice false o i) (fun r s₃=>wpAny (model prog w) A (letTemporaryGo value o r >>= fun _=>pure r) Q E s₃) E s₂:=by
  rw[hs o i]
  exact wpAny_operating (jM h₂ (fun r s₃ h₃=>qb (wpAny_letTemporaryGo (qx h₃))) fun _ _ x=>x)
 first
  | exact qx (qb fin)
  | exact qb (qx (qb fin))
  | exact qb fin
theorem GQ{X:Cx}{pins:List (Addr×Obj)}{σ:St}{H:Hp}{s:Shared}{a:Addr}{y:V}{o:Option V}(I:Inv X pins σ H s)(g:Qdf H a y o):s.TypeIs (.ref a) "dict":=by
 rcases g with⟨kvs,k,e,_,_⟩ | ⟨kvs,k,b,e,_,_,_⟩
 .obtain⟨_,_,vs,_,dd⟩:=Y8 I.hok e
  exact dd.typeIs
 .obtain⟨_,_,xs,_,dd⟩:=GP I.hok e
  exact dd.typeIs
inductive Qbc(Q:VK)(x:V)(y:V)(H2:Hp):Prop
 | mk:∀a v,x=.ref a->Qdf H2 a y (some v)->Q v H2->Qbc Q x y H2
def tDGet(td ty:TE):TE:=fun σ H Q=>td σ H fun x H1=>ty σ H1 fun y H2=>Qbc Q x y H2
inductive Qbn(D:JV)(σ:St)(v:V)(x:V)(y:V)(H3:Hp):Prop
 | mk:∀a H4,x=.ref a->DPut H3 a y v H4->D.nx σ H4->Qbn D σ v x y H3
def sDPut(td ty tv:TE):TS:=fun D σ H=>tv σ H fun v H1=>td σ H1 fun x H2=>ty σ H2 fun y H3=>Qbn D σ v x y H3
section
variable {X:Cx}{o i e value:Expr}{pos pos' tpos:Pos}{td ty tv:TE}
theorem Qbs(hu:X.A.units+1<cLine)(ho:PE X o td)(hi:PE X i ty)(hs:NoSl i:=by exact fun _ _=>rfl):PE X (.Subscript o i pos) (tDGet td ty):=by
 intro pins s σ H Q I h
 refine QfF PySem.F.slot_dict_getitem.lookup hs (j0 (ho pins s σ H _ I h) fun u s1 ⟨x,H1,I1,rx,q1⟩=>j0 (hi pins s1 σ H1 _ I1 q1) fun iv s2 ⟨y,H2,I2,ry,a,v,ex,g,q2⟩=>?_)
 subst ex
 obtain rfl:u=Value.ref a:=rx
 exact⟨GQ I2 g,Qc7 hu I2 g ry fun w' s3 I3 rw'=>⟨v,H2,I3,rw',q2⟩⟩
theorem UL(hu:X.A.units+1<cLine)(ho:PE X o td)(hi:PE X i ty)(hv:PE X value tv)(hs:swapsWith value (some (.Subscript o i pos')) pos.line X.env=pure false) :
 PS X (.Assign [.Subscript o i pos'] value pos) (sDPut td ty tv):=by
 intro pins s σ H D I h
 refine wpAny_Assign_Subscript (j0 (hv pins s σ H _ I h) fun r s1 ⟨v,H1,I1,rv,q1⟩=>j0 (ho pins s1 σ H1 _ I1 q1) fun u s2 ⟨x,H2,I2,rx,q2⟩=>j0 (hi pins s2 σ H2 _ I2 q2) fun iv s3 ⟨y,H3,I3,ry,a,H4,ex,g,q3⟩=>?_) hs
 subst ex
 obtain rfl:u=Value.ref a:=rx
 exact Qc6 hu I3 g ry rv fun s4 I4=>⟨σ,H4,I4,q3⟩
end
theorem Qfg{P:Program}{w:World}{H:Hp}(h:Heap)(hb:sysModules<h.objs.size):QG P w H (h.push { cls:=.type "dict",data:=.dict #[] }) h.objs.size (.dK []) :=
 ⟨qP _,yU.mpr (gC (zp hb)),[],.nil,Heap.DictOf.new h⟩
theorem Qfc{P:Program}{w:World}{H:Hp}(h:Heap)(hb:sysModules<h.objs.size):QG P w H (h.push { cls:=.type "dict",data:=.dict #[] }) h.objs.size (.dT []) :=
 ⟨qP _,yU.mpr (gC (zp hb)),[],.nil,_,#[],0,qN _ rfl,⟨rfl,rfl,rfl⟩,rfl,rfl,jU⟩
def Qhw:TE:=fun _ H Q=>∀p,H p=none->Q (.ref p) (upd H p (.dK []))
def Qhv:TE:=fun _ H Q=>∀p,H p=none->Q (.ref p) (upd H p (.dT []))
section
variable {X:Cx}{pos:Pos}
theorem Z8:PE X (.Dict [] [] pos) Qhw:=fun pins s σ H Q I h =>
 wpAny_Dict_empty ⟨.ref s.heap.objs.size,_,I.laid (a:=s.heap.objs.size) (o:=.dK []) (t':=s.toks) (fun _ _ q=>qw _ q) (qp _) (Qfg s.heap I.big),rfl,h _ (I.hok.fresh (qp _))⟩
theorem Qee:PE X (.Dict [] [] pos) Qhv:=fun pins s σ H Q I h =>
 wpAny_Dict_empty ⟨.ref s.heap.objs.size,_,I.laid (a:=s.heap.objs.size) (o:=.dT []) (t':=s.toks) (fun _ _ q=>qw _ q) (qp _) (Qfc s.heap I.big),rfl,h _ (I.hok.fresh (qp _))⟩
end
structure M2(X:Cx)(o:Expr)(m:Str)(apos:Pos)(e f:Expr)(cpos:Pos):Prop where
 base:attributeBase o m X.env (eval o X.env)=eval o X.env
 few:((backTo cpos (starEach [e,f] X.env)).all (fun x=>!x.1) && (backToKw cpos (keywordEach [] X.env)).all (fun x=>x.1.isSome)
  && decide (([e,f]:List Expr).length+([]:List Keyword).length+(if ([]:List Keyword).isEmpty then 0 else 1)<30))=true
 line:(apos.endLine == cpos.line)=true
 trees:backTo cpos (starEach [e,f] X.env)=[(false,eval e X.env),(false,eval f X.env)]
def IsD(H:Hp)(a:Addr):Prop:=(∃kvs,Rd H a (.dK kvs))\/∃kvs,Rd H a (.dT kvs)
theorem QaW{X:Cx}{pins:List (Addr×Obj)}{σ:St}{H:Hp}{s:Shared}{a:Addr}(I:Inv X pins σ H s)(d:IsD H a) :
 s.TypeIs (.ref a) "dict"/\(∀b,Value.ref a=.ref b->∃ob,s.heap.get? b=some ob/\ob.dict=none)/\(a == sysModules)=false:=by
 rcases d with⟨kvs,e⟩ | ⟨kvs,e⟩
 .obtain⟨_,hd,vs,_,dd⟩:=Y8 I.hok e
  refine⟨dd.typeIs,fun b q=>?_,hd⟩
  cases q
  obtain⟨ob,_,_,h1,h2,_⟩:=dd
  exact⟨ob,h1,h2.2.1⟩
 .obtain⟨_,hd,xs,_,dd⟩:=GP I.hok e
  refine⟨dd.typeIs,fun b q=>?_,hd⟩
  cases q
  obtain⟨ob,_,_,h1,h2,_⟩:=dd
  exact⟨ob,h1,h2.2.1⟩
section
variable {X:Cx}{pins:List (Addr×Obj)}{σ:St}{H:Hp}{s:Shared}{a:Addr}{y d:V}{u r:Value}{o:Option V}{A:Around}{E:QpL}
theorem Qii{Q:QpL}(hu:A.units+1<cLine)(I:Inv X pins σ H s)(g:Qdf H a y o)(ry:QC y u)(rd:QC d r)(h:∀w' s',Inv X pins σ H s'->QC (o.getD d) w'->Q w' s') :
 wpAny (model X.prog X.w) A (call (.builtin "dict.get") [.ref a,u,r]) Q E s:=by
 rcases g with⟨kvs,k,e,ey,l⟩ | ⟨kvs,k,b,e,ey,eb,l⟩
 .subst ey
  obtain⟨z,hd,vs,rel,dd⟩:=Y8 I.hok e
  refine Qlk slot_dict_get dd.typeIs PySem.F.entry_dict_get (PySem.F.args_dict_get_3 _ _ _) (meets_dict_get_default (QW X.prog X.w) a (QbH ry) hd r) ⟨_,dd.mapOf,h _ _ (I.tok _) ?_⟩
  rw[l]
  exact(rel.val k).getD rd
 .subst ey
  cases (show u=Value.ref b from ry)
  obtain⟨z,hd,xs,rel,dd⟩:=GP I.hok e
  refine Qlk slot_dict_get dd.typeIs PySem.F.entry_dict_get (PySem.F.args_dict_get_3 _ _ _) (meetsH_dict_get_default (tupleKind (QW X.prog X.w)) a b hd r) ⟨tupleKind_room_in1 hu,k,xs,Kr I.hok eb,dd,h _ _ (I.tok _) ?_⟩
  rw[l]
  exact(rel.val k).getD rd
end
inductive Xc(Q:VK)(a:Addr)(y:V)(z:V)(H3:Hp):Prop
 | mk:∀o,Qdf H3 a y o->Q (o.getD z) H3->Xc Q a y z H3
inductive KW(ty:TE)(tx:TE)(σ:St)(Q:VK)(x:V)(H1:Hp):Prop
 | mk:∀a,x=.ref a->IsD H1 a->(ty σ H1 fun y H2=>tx σ H2 fun z H3=>Xc Q a y z H3)->KW ty tx σ Q x H1
def Qhx(td ty tx:TE):TE:=fun σ H Q=>td σ H fun x H1=>KW ty tx σ Q x H1
section
variable {X:Cx}{o e f:Expr}{apos cpos:Pos}{td ty tx:TE}
theorem ZN(hu:X.A.units+1<cLine)(ho:PE X o td)(he:PE X e ty)(hf:PE X f tx)(m:M2 X o "get" apos e f cpos):PE X (.Call (.Attribute o "get" apos) [e,f] [] cpos) (Qhx td ty tx):=by
 intro pins s σ H Q I h
 refine wpAny_Call_method m.base m.few m.line plainAttrs_dict slot_dict_get PySem.F.type_dict_get (j0 (ho pins s σ H _ I h) fun u s1 ⟨x,H1,I1,rx,a,ex,d,q1⟩=>?_)
 subst ex
 obtain rfl:u=Value.ref a:=rx
 obtain⟨t1,t2,_⟩:=QaW I1 d
 refine⟨t1,t2,?_⟩
 rw[m.trees]
 refine kE rfl (Calls.evalArgs_plain (yH (j0 (he pins s1 σ H1 _ I1 q1) fun iv s2 ⟨y,H2,I2,ry,q2⟩ =>
  yH (j0 (hf pins s2 σ H2 _ I2 q2) fun fv s3 ⟨z,H3,I3,rz,ov,g,q3⟩=>vP ?_))))
 exact Qii hu I3 g ry rz fun w' s4 I4 rw'=>⟨_,H3,I4,rw',q3⟩
end
section
variable {X:Cx}{pins:List (Addr×Obj)}{σ:St}{H:Hp}{s:Shared}{a:Addr}{kvs:List (Key×V)}{A:Around}{E:QpL}
end
section
variable {X:Cx}{pins:List (Addr×Obj)}{σ:St}{H:Hp}{s:Shared}{a:Addr}{y:V}{u:Value}{A:Around}{E:QpL}
end
end L2
namespace Att
open PySem PySem.W PySem.Calls PyProof.Rows
theorem Vx{P:Params}{h:Heap}:∀(ns:List Int)(vs:QpM),WellAll P h vs (ns.map WData.int)->IntsAre vs ns:=by
 intro ns
 induction ns with
 | nil =>
   intro vs w
   rw[List.map_nil] at w
   cases w
   exact .nil
 | cons n ns ih =>
   intro vs w
   rw[z7] at w
   cases w with
   | cons a b =>
     cases a
     exact .cons _ _ (ih _ b)
theorem Qch{l:OpenLaw}{n:Nat}(hn:l.most=some n){P:Params}{h:Heap}{args:List WData}{vals:QpM}
 (hpre:l.row.toRowW.claim.pre args=true) (hwl:WellAll P h vals args) :
 ∃a vs ns,vals=[Value.ref a]/\args=[WData.list (ns.map WData.int)]/\h.get? a=some { cls:=.type "list",data:=.seq vs.toArray }/\IntsAre vs ns/\ns.length<=n:=by
 have hsh:WShape.hasAll [] args [.list .int]=true:=(pre_splitW hpre).1
 have hc:l.pre.holds [] { args:=args }=true:=(pre_splitW hpre).2
 obtain⟨d,r,rfl,h1,h2⟩:=hasAllW_cons hsh
 obtain rfl:=hasAllW_nil h2
 obtain⟨xs,rfl,h3⟩:=hasW_list h1
 obtain⟨ns,rfl⟩:=items_int h3
 have hlen:ns.length<=n:=by
  unfold OpenLaw.pre at hc
  have h4:(WTm.not (.lt (.lit (.int (n:Int))) (.len (.arg 0)))).holds [] { args:=[.list (ns.map .int)] }=true:=by
   have h4:=(holds_andW hc).1
   rw[hn] at h4
   exact h4
  have h5:=condW_of h4 (w_not (w_lt w_lit (w_len_list (w_arg rfl))))
  rw[qd] at h5
  refine Nat.le_of_not_lt fun q=>?_
  have q':(n:Int)<((ns.length:Nat):Int):=by omega
  first
   | (rw[qt q'] at h5;exact absurd h5 (by decide))
   | (simp at h5;omega)
 cases hwl with
 | cons w1 w2 =>
   cases w2
   cases w1 with
   | list ho hall=>exact⟨_,_,ns,rfl,rfl,ho,Vx ns _ hall,hlen⟩
theorem Qcp(l:OpenLaw)(args:List WData):l.row.toRowW.claim.post args (.bool true) args=true :=
 postW_of (r:=l.row.toRowW) (X:=(true == true))
  (show WShape.has [] (.bool true) .bool=true by first | rfl | decide | simp[WShape.has,WShape.arms,WShape.armsAll])
  (show(WTm.eq .res (.lit (.bool true))).value [] { args:=args,res:=some (.bool true),after:=args }=some (.bool (true == true)) from w_eq_bool (w_res rfl) w_lit) rfl
theorem Qlc{l:OpenLaw}{n:Nat}{q:Program}{loose:QpK}{XP:(Str->Option Value)->Heap->Prop}{YP:World->Heap->Prop}{d:DefRec}
 (hn:l.most=some n) (hdf:d.params.defaults=[])
 (call:∀(w:World)(s₀ s₁:Shared)(mg mb:Str->Option Value)(fa:Addr)(o:Obj)(pm cd doc:Value)(a:Addr)(vs:QpM)(ns:List Int),
   Ground q loose [] XP w s₀ mg mb s₁.heap->YP w s₁.heap ->
   s₁.heap.get? fa=some o->o.data=.func (docDef d.name d.params d.body d.scope pm cd doc)->s₁.heap.CodeRec cd d.name->mg d.name=some (.ref fa) ->
   s₁.heap.get? a=some { cls:=.type "list",data:=.seq vs.toArray }->IntsAre vs ns->ns.length<=n->s₁.gens=#[] ->
   codeAny (model l.prog w) callerA (.call (.ref fa) ⟨[.ref a],[]⟩) (fun r s'=>r=.ok (.ret (.bool true))/\OldK s₁.heap s'.heap/\s'.os=s₁.os/\AllBare s'.gens) s₁) :
 WalkO q loose XP YP l.row.toRowW d [] (fun f vs=>PySem.call f vs):=by
 intro w s₀ s₁ mg mb G Y fa o pm cd doc dV kV ho hd hcd hD hmg hg args vals as hpre hlay hrd hwl hlo
 obtain rfl:dV=.none:=Dflts.none hD hdf
 obtain rfl:kV=.none:=Dflts.noKw hD
 obtain⟨a,vs,ns,rfl,rfl,hobj,hints,hlen⟩:=Qch hn hpre hwl
 refine enter_call (wJ (call w s₀ s₁ mg mb fa o pm cd doc a vs ns G Y ho (fd_plain hd) hcd hmg hobj hints hlen hg) fun r s' hq=>?_)
 obtain⟨rfl,h2,h3,h4⟩:=hq
 exact⟨.inl ⟨.bool true,.bool true,[],rfl,fun _=>rfl,.bool true,Qcp l _,fun _=>⟨List.Pairwise.nil,fun _ hm=>(nomatch hm)⟩⟩,h2,h3,h4⟩
section
variable {prog:Program}{w:World}{A:Around}{E:QpL}{s:Shared}{K:Frag}
end
end Att
namespace L2
open PySem PySem.Spec PyProof.Rows
theorem W5:∀{vs:QpM}{ns:List Int},IntsAre vs ns->Qx (ns.map V.int) vs
 | _,_,.nil=>.nil
 | _,_,.cons n t h=>.cons ⟨t,rfl⟩ (W5 h)
def Only(H:Hp):Prop:=∀b,H b=none\/∃o xs,H b=some (.yR o (.lst xs))
theorem QeI{P:Program}{w:World}{K:Frag}{mg mb:Str->Option Value}{CX:CXT}{k:Nat}{fa a:Addr}{fd:FuncData}{x:Str}{sp:Sp}{s₁:Shared}{vs:QpM}{ns:List Int}
 (KX:K.In s₁.heap) (hns:s₁.heap.Ns mainGlobals mg) (hb:s₁.heap.Ns builtinsNs mb) (hbb:∀x:Str,x≠"__name__"->mb x=bootBuiltins x) (hlim:s₁.heap.NoLimit) (hg:s₁.gens=#[])
 (ha:s₁.heap.get? a=some { cls:=.type "list",data:=.seq vs.toArray }) (hi:IntsAre vs ns) (hl:ns.length<=sizeLine) (hr:Qv k callerA)
 (F:∀base:Heap,K.In base->base.Ns mainGlobals mg->QH P w K mg base CX k fa fd [x] sp) (hbind:∀(s:Shared)(u:Value),BindsTo s fd ⟨[u],[]⟩ [(x,u)])
 (hsp:∀H:Hp,Only H->jk K H a (ns.map V.int)->sp [.ref a] H (fun v _=>v=.bl true) fun _ _ _=>False)
 (hCX:∀H e s',CX [] H s₁ (fun _ _ _=>False) e s'->False) :
 codeAny (model P w) callerA (.call (.ref fa) ⟨[.ref a],[]⟩) (fun r s'=>r=.ok (.ret (.bool true))/\OldK s₁.heap s'.heap/\s'.os=s₁.os/\AllBare s'.gens) s₁:=by
 have rv:=W5 hi
 have lenV:=hi.length
 have core:∀H:Hp,Only H->jk K H a (ns.map V.int)->gq P w H s₁.heap->(∀b,H b≠none->b=a)->(H a≠none->K.lookup a=none) ->
  codeAny (model P w) callerA (.call (.ref fa) ⟨[.ref a],[]⟩) (fun r s'=>r=.ok (.ret (.bool true))/\OldK s₁.heap s'.heap/\s'.os=s₁.os/\AllBare s'.gens) s₁:=by
  intro H hO hS hok hA hK
  have QlJ:∀{b:Addr}{o:Obj},s₁.heap.get? b=some o->H b=none->(Ku s₁.heap H).get? b=some o:=fun e n=>Qe1 e n
  have noA:∀{b:Addr}{o:Obj}{es:Array DictEntry}{ep:Nat},s₁.heap.get? b=some o->o.data=.dict es ep->H b=none:=fun{b o es ep} e d=>by
   cases q:H b with
   | none=>rfl
   | some u =>
     have e':b=a:=hA b (by rw[q];simp)
     subst e'
     rw[ha] at e;cases e
     have d':Data.seq vs.toArray _=Data.dict es ep:=d
     cases d'
  have nsK:∀{b:Addr}{m:Str->Option Value},s₁.heap.Ns b m->(Ku s₁.heap H).Ns b m:=fun{b m} ⟨o,es,ep,e,d,r⟩=>⟨o,es,ep,QlJ e (noA e d),d,r⟩
  have hKb:K.In (Ku s₁.heap H):=fun b o e=>QlJ (KX b o e) (by
   cases q:H b with
   | none=>rfl
   | some u =>
     have e':b=a:=hA b (by rw[q];simp)
     subst e'
     rw[hK (by rw[q];simp)] at e;cases e)
  have hM:Mod K mg (Ku s₁.heap H):=⟨hKb,nsK hns,⟨mb,nsK hb,hbb⟩,let ⟨mc,h1,h2⟩:=hlim;⟨mc,nsK h1,h2⟩⟩
  have e0:W4 P w K mg (Ku s₁.heap H) callerA [] s₁ H:=⟨rfl,hM,fun b o e=>Qgl e,Nat.le_of_eq (Qc1 _ _),trivial,fun b hb=>absurd (show b∈([]:List Addr) from hb) (by simp),hok,.of_eq hg⟩
  refine wJ ((F _ hKb (nsK hns)).run callerA [] s₁ H ⟨[.ref a],[]⟩ [.ref a] [.ref a] _ _ hr e0 (hbind s₁ (.ref a)) (.cons rfl .nil) (hsp H hO hS)) fun r s' h=>?_
  cases r with
  | error e=>exact(hCX H e s' h).elim
  | ok fl =>
    cases fl with
    | next=>exact False.elim h
    | brk=>exact False.elim h
    | cont=>exact False.elim h
    | ret u =>
      obtain⟨v,H',os,bare,un,hok',r',q⟩:=h
      have q':v=.bl true:=q
      subst q'
      obtain rfl:u=Value.bool true:=r'
      refine⟨rfl,OldK.of_keep fun b o e=>?_,os,bare⟩
      cases q:H b with
      | none=>exact un.keep b o e q (by intro z;exact absurd (show b∈([]:List Addr) from z) (by simp)) (by simp)
      | some u =>
        rcases hO b with z | ⟨ob,xs,z⟩
        .rw[q] at z;cases z
        .have z2:=un.QiK b ob _ z
         obtain⟨e1,_⟩:=hok b _ z
         obtain⟨e2,_⟩:=hok' b _ z2
         rw[e] at e1;cases e1
         exact e2
 cases hk:K.lookup a with
 | some o =>
   have e:=KX a o hk
   rw[ha] at e
   cases e
   refine core (fun _=>none) (fun _=>.inl rfl) (.inr ⟨_,vs.toArray,_,hk,rfl,rfl,rfl,by rw[qM,lenV];exact hl,by simpa using rv⟩) (fun b u z=>by have z':(none:Option HO)=some u:=z;cases z') (fun b z=>absurd rfl z) fun z=>absurd rfl z
 | none =>
   refine core (fun b=>if b=a then some (.yR { cls:=.type "list",data:=.seq vs.toArray } (.lst (ns.map V.int))) else none) (fun b=>?_) (.inl (.inr ⟨{ cls:=.type "list",data:=.seq vs.toArray },qj rfl⟩)) (fun b u z=>?_) (fun b z=>?_) fun _=>hk
   .by_cases hb:b=a
    .exact .inr ⟨_,_,qj hb⟩
    .exact .inl (ql hb)
   .by_cases hb:b=a
    .have z':=(qj hb).symm.trans z
     cases z'
     subst hb
     exact⟨ha,by rw[qd];exact hl,vs,_,rv,ha⟩
    .have z':=(ql hb).symm.trans z
     cases z'
   .by_cases hb:b=a
    .exact hb
    .exact absurd (ql hb) z
end L2
namespace L2
open PySem PySem.Spec PyProof.Rows
end L2
namespace L2
open PySem PySem.Spec PyProof.Rows
def JK(s:Stmt)(j:Nat):Stmt:=match s with
 | .ClassDef _ _ _ body _ _ _ _ _ _ _=>body.getD j (.Pass ⟨0,0,0,0⟩)
 | _=>.Pass ⟨0,0,0,0⟩
def Zf(s:Stmt):Arguments:=match s with
 | .FunctionDef _ a _ _ _ _ _ _ _ _=>a
 | _=>{ posonlyargs:=[],args:=[],vararg:=none,kwonlyargs:=[],kw_defaults:=[],kwarg:=none,defaults:=[] }
def QT(s:Stmt):List Stmt:=match s with
 | .FunctionDef _ _ b _ _ _ _ _ _ _=>b
 | _=>[]
def Qh(s:Stmt):Scope:=match s with
 | .FunctionDef _ _ _ _ _ _ sc _ _ _=>sc
 | _=>{ kind:=.function,names:=[],isGenerator:=false,isCoroutine:=false }
abbrev vV:CXT:=fun _ _ _ _ _ _=>False
abbrev E0:XK:=fun _ _ _=>False
theorem Qn{X:Cx}:Yv vV X E0:=fun _ _ _ _ _ _ _ h=>h.elim
structure jZ(K:Frag)(x qual:Str)(st:Stmt)(f:Addr)(fd:FuncData):Prop where
 ex:∃(oc:Value)(od:Option Addr)(kV doc pm:Value)(an:Option Addr)(cdv ct:Value)(osl:Array (Option Value)),
  fd=fnOf x qual (Zf st) (QT st) (Qh st) .none kV doc pm an cdv ct/\K.lookup f=some ⟨oc,od,.func fd,osl⟩/\codeIn K cdv qual=true
 kp:keepIn K (.ref f)=true
section
variable {P:Program}{w:World}{K:Frag}{mg:Str->Option Value}{base:Heap}
theorem jZ.ok{x qual:Str}{st:Stmt}{f:Addr}{fd:FuncData}{N ps:QpK}{k:Nat}{sp:Sp}(F:jZ K x qual st f fd)(S:Qq N ps (Qh st))(len:∀vs H Q E,sp vs H Q E->vs.length=ps.length)
 (hbody:∀(cdv:Value)(A:Around)(outer:List Env)(s:Shared)(H:Hp)(vs:List V)(Q:VK)(E:XK),Qv k (A.deeper (envOfC qual (Qh st) s.heap.objs.size f cdv))->sp vs H Q E ->
   ∃t,PSs (Jc vV P w K mg base N qual (Qh st) f cdv A outer s H E).nox (QT st) t/\t { nx:=fun _ H'=>Q .non H',rt:=Q } (start N vs) H):QH P w K mg base vV (k+1) f fd ps sp:=by
 obtain⟨oc,od,kV,doc,pm,an,cdv,ct,osl,rfl,lk,hcd⟩:=F.ex
 refine QbW lk hcd S len fun A outer s H vs Q E hr hsp=>?_
 obtain⟨t,h,q⟩:=hbody cdv A outer s H vs Q E hr hsp
 exact⟨t,h.nox,q⟩
theorem jZ.binds{x qual:Str}{st:Stmt}{f:Addr}{fd:FuncData}{ps:QpK}(F:jZ K x qual st f fd)
 (h:∀(kV doc pm:Value)(an:Option Addr)(cdv ct:Value)(us:QpM),us.length=ps.length->bindArgs (fnOf x qual (Zf st) (QT st) (Qh st) .none kV doc pm an cdv ct) ⟨us,[]⟩=pure (ps.zip us)):Qw K fd ps []:=by
 obtain⟨oc,od,kV,doc,pm,an,cdv,ct,osl,rfl,lk,hcd⟩:=F.ex
 exact .all (h kV doc pm an cdv ct)
theorem Qie{x qual:Str}{st:Stmt}{f:Addr}{oc:Value}{od an:Option Addr}{osl:Array (Option Value)}{kV doc pm cdv ct:Value}(l:K.lookup f=some ⟨oc,od,.func (fnOf x qual (Zf st) (QT st) (Qh st) .none kV doc pm an cdv ct),osl⟩)
 (c:codeIn K cdv qual=true) (k:keepIn K (.ref f)=true):jZ K x qual st f (fnOf x qual (Zf st) (QT st) (Qh st) .none kV doc pm an cdv ct):=⟨⟨oc,od,kV,doc,pm,an,cdv,ct,osl,rfl,l,c⟩,k⟩
end
theorem UQ{A:Around}{k:Nat}(hr:Qv k A):A.units+1<cLine:=yx (Nat.add_le_add_left (by decide:1<=64) _) hr.units
theorem QN{n:Nat}(h:n<=1000):n<sizeLine:=yx h (by decide)
theorem Q2{n:Nat}(h:n<=1000):n<=sizeLine:=Nat.le_of_lt (QN h)
theorem Qdg:1<=sizeLine:=by decide
theorem UW:2<=sizeLine:=by decide
theorem Qb7:3<=sizeLine:=by decide
theorem XW:4<=sizeLine:=by decide
theorem zl_5:5<=sizeLine:=by decide
theorem zl_8:8<=sizeLine:=by decide
theorem Qnw:(0:Int)<2:=by decide
theorem Qnv:(0:Int)<3:=by decide
theorem Qnu:(0:Int)<4:=by decide
theorem zi_8:(0:Int)<8:=by decide
theorem zi_16:(0:Int)<16:=by decide
theorem QgT:(0:Int)<26:=by decide
theorem Qdh:(0:Int)<10000:=by decide
theorem WM:(0:Int)<2147483647:=by decide
section
variable {X:Cx}
theorem pv(i:Nat){x:Str}{pos:Pos}(hN:X.N[i]?=some x:=by rfl)(hv:Vis X.env.scope x:=by first | exact Or.inl rfl | exact Or.inr (Or.inl rfl) | exact Or.inr (Or.inr rfl))(hd:(x == ("__debug__":Str))=false:=by decide)
 (hcd:(x == ("__classdict__":Str))=false:=by decide):PE X (.Name x pos) (Qam i):=QhO hN hv hd hcd
end
theorem QD{A B:Prop}(h:B):if false=true then A else B:=by
 rw[ql q8]
 exact h
theorem QE{A B:Prop}(h:A):if true=true then A else B:=by
 rw[qj rfl]
 exact h
theorem GJ{c A B:Prop}[Decidable c](h1:c->A)(h2:¬c->B):if c then A else B:=by
 by_cases h:c
 .rw[qj h]
  exact h1 h
 .rw[ql h]
  exact h2 h
def Qi(H H':Hp):Prop:=∀b o,H b=some o->H' b=some o
theorem Qi.refl(H:Hp):Qi H H:=fun _ _ h=>h
theorem Qi.trans{H H1 H2:Hp}(a:Qi H H1)(b:Qi H1 H2):Qi H H2:=fun c o h=>b c o (a c o h)
theorem Qi.free{H H':Hp}(e:Qi H H'){l:Addr}(h:H' l=Option.none):H l=Option.none:=by
 cases q:H l with
 | none=>rfl
 | some o =>
   rw[e l o q] at h
   cases h
theorem Qi.seq{K:Frag}{H H':Hp}{a:Addr}{xs:List V}(e:Qi H H')(h:jk K H a xs):jk K H' a xs:=by
 rcases h with(h | ⟨o,h⟩) | h
 .exact .inl (.inl (e _ _ h))
 .exact .inl (.inr ⟨o,e _ _ h⟩)
 .exact .inr h
end L2
namespace L2
open PySem PySem.Spec PyProof.Rows
section
variable {X:Cx}
end
section
variable {κ:Type}[DecidableEq κ]
end
end L2
set_option maxHeartbeats 4000000
namespace L2
open PySem PySem.Spec PyProof.Rows
def Its(x:Str):It:=⟨fun i _=>i<x.cps.size,fun i H y H'=>H'=H/\∃c,x.cps[i]?=some c/\y=.str ⟨#[c]⟩,fun i _=>i=x.cps.size⟩
theorem W8{P:Program}{w:World}{K:Frag}{tg:Expr}{x:Str}{t:Tok}{it:Addr}{ty:String}
 (hn:["enumerate","zip","dict_itemiterator","dict_reverseitemiterator","odict_iterator","itertools.zip_longest","itertools.pairwise"].contains ty=false)
 (W:∀A':Around,A'.handled=none->Walks P w A' it [it] [it] x.cps.size (SignAt x) (fun i h=>h.IsStrIter it ty x t i))
 (hself:∀(A:Around)(i:Nat)(s:Shared)(Q:QpL)(E:QpL),s.heap.IsStrIter it ty x t i->Q (.ref it) s->wpAny (model P w) A (pyIter (.ref it)) Q E s) :
 Qa5 P w K tg (Its x) [it] it (fun i h=>h.IsStrIter it ty x t i) where
 mem:=qg.mpr rfl
 obj:=fun i h st b hb=>by
  cases qg.mp hb
  obtain⟨o,q,_,d⟩:=st
  exact⟨o,q,fun v z=>by rw[d] at z;cases z⟩
 keep:=fun i h h' st k=>by
  obtain⟨o,q,r⟩:=st
  exact⟨o,k it (qg.mpr rfl) o q,r⟩
 item:=by
  intro X e1 e2 e3 hc i pins s σ H E I hf st hg
  subst e1 e2 e3
  have F:=hf it (qg.mpr rfl)
  refine(W X.A (I.ok.hd hc)).item i s _ _ hg st fun v h' tk hv st' kk=>?_
  obtain⟨c,u,hx,rfl⟩:=hv
  have J:Inv X pins σ H { s with heap:=h',toks:=tk }:=I.turned (fun b o hb q=>kk b o (fun z=>hb (qg.mp z)) q) F.1 F.2.1 F.2.2.2.1 F.2.2.2.2.1 F.2.2.2.2.2
  obtain⟨o,q,cc,d⟩:=id st'
  exact⟨_,rfl,XL (s:={ s with heap:=h',toks:=tk }) q cc d hn ⟨.str ⟨#[c]⟩,H,J,⟨u,rfl⟩,⟨rfl,c,hx,rfl⟩,st',fun b hb=>(hf b hb).1⟩⟩
 done:=by
  intro X e1 e2 e3 hc i pins s σ H E I hf st hg
  subst e1 e2 e3
  have F:=hf it (qg.mpr rfl)
  have g:i=x.cps.size:=hg
  subst g
  exact(W X.A (I.ok.hd hc)).done s _ _ st fun h' tk kk=>⟨rfl,I.turned (fun b o hb q=>kk b o (fun z=>hb (qg.mp z)) q) F.1 F.2.1 F.2.2.2.1 F.2.2.2.2.1 F.2.2.2.2.2⟩
 self:=hself
inductive QeZ(R:(It->Hp->Prop))(x:V)(H1:Hp):Prop
 | mk:∀y,x=.str y->R (Its y) H1->QeZ R x H1
def iStr(te:TE):TI:=fun σ H R=>te σ H fun x H1=>QeZ R x H1
theorem QhM{X:Cx}{tg l:Expr}{tl:TE}(hl:PE X l tl):PI X tg l (iStr tl):=by
 intro pins s σ H R I h
 refine j0 (hl pins s σ H _ I h) fun v s1 ⟨x,H1,I1,r1,y,e,q⟩=>?_
 subst e
 obtain⟨t,rfl⟩:=r1
 have fp:∀b∈[s1.heap.objs.size],Qac X pins H1 b:=fun b hb=>by
  cases qg.mp hb
  exact I1.Ql4 (qp _) (I1.hok.fresh (qp _))
 cases ha:y.cps.all (·<128)
 .refine wpAny_pyIter_wide ha ?_
  exact⟨s1.heap.objs.size,[s1.heap.objs.size],_,_,H1,rfl,I1.kept (t':=s1.toks) fun b o z=>qw _ z,
   W8 (x:=y) (t:=t) (ty:="str_iterator") (by decide) (fun A' hA=>Walks.strWide hA _ y t) (fun _ _ _ _ _ st hq=>wpAny_pyIter_striter_wide st hq),⟨_,qN _ rfl,rfl,rfl⟩,fp,q⟩
 .refine wpAny_pyIter_ascii ha ?_
  exact⟨s1.heap.objs.size,[s1.heap.objs.size],_,_,H1,rfl,I1.kept (t':=s1.toks) fun b o z=>qw _ z,
   W8 (x:=y) (t:=t) (ty:="str_ascii_iterator") (by decide) (fun A' hA=>Walks.strAscii hA _ y t) (fun _ _ _ _ _ st hq=>wpAny_pyIter_striter_ascii st hq),⟨_,qN _ rfl,rfl,rfl⟩,fp,q⟩
def Jz(cells:List (Str×Addr)):List (Str×NameKind)->List (Str×Addr)->List (Str×Addr)
 | [],cs=>cs
 | (n,k) :: r,cs=>Jz cells r (if k == .free then (match cells.lookup n with | some c=>(n,c) :: cs | none=>cs) else cs)
theorem WZ{scope:Scope}{env:Env}(h:∀y∈scope.names,y.2=.free->∃c,env.cells.lookup y.1=some c):closureFor scope env=pure (Jz env.cells scope.names []):=by
 unfold closureFor
 generalize ([]:List (Str×Addr))=cs
 revert cs
 generalize scope.names=names at h
 induction names with
 | nil=>intro cs;rfl
 | cons p r ih =>
   obtain⟨n,k⟩:=p
   intro cs
   have ih':=ih fun y hy=>h y (qu _ hy)
   by_cases hk:k=.free
   .subst hk
    obtain⟨c,hc⟩:=h (n,.free) qI rfl
    have e:cellOf env n=pure c:=by unfold cellOf;rw[hc] <;> rfl
    dsimp only at hc ⊢
    rw[List.forIn_cons]
    simp only[yX,gD,Jz,hc]
    rw[e]
    exact ih' _
   .have hb:(k == NameKind.free)=false:=by simpa using hk
    dsimp only
    rw[List.forIn_cons]
    simp only[hb,zM,jD,Jz]
    exact ih' _
theorem WH{cells:List (Str×Addr)}:∀(names:List (Str×NameKind))(cs:List (Str×Addr)){y:Str}{c:Addr},(Jz cells names cs).lookup y=some c->cells.lookup y=some c\/cs.lookup y=some c
 | [],cs,y,c,h=>.inr h
 | (n,k) :: r,cs,y,c,h=>by
   rcases WH r _ (show(Jz cells r _).lookup y=some c from h) with h1 | h1
   .exact .inl h1
   .split at h1
    .split at h1
     .rename_i c' hc'
      rw[jQ] at h1
      split at h1
      .rename_i e
       cases h1
       exact .inl (by rw[eq_of_beq e];exact hc')
      .exact .inr h1
     .exact .inr h1
    .exact .inr h1
theorem Vu{cells:List (Str×Addr)}:∀(names:List (Str×NameKind))(cs:List (Str×Addr)){y:Str},(∃c,cs.lookup y=some c)->∃c,(Jz cells names cs).lookup y=some c
 | [],cs,y,h=>h
 | (n,k) :: r,cs,y,h=>by
   refine Vu r _ ?_
   split
   .split
    .rw[jQ]
     split
     .exact⟨_,rfl⟩
     .exact h
    .exact h
   .exact h
theorem Uo{cells:List (Str×Addr)}:∀(names:List (Str×NameKind))(cs:List (Str×Addr)){y:Str},(y,NameKind.free)∈names->(∃c,cells.lookup y=some c)->∃c,(Jz cells names cs).lookup y=some c
 | (n,k) :: r,cs,y,hy,hc=>by
   rcases qR.mp hy with e | hy
   .cases e
    refine Vu r _ ?_
    obtain⟨c,hc⟩:=hc
    simp only[yX,gD,hc]
    exact⟨c,by simp[jQ]⟩
   .exact Uo r _ hy hc
def QoT(env:Env)(p:Str×NameKind):Str×NameKind:=if (p.2 == NameKind.free && env.scope.kind == .function && env.kindOf p.1 == some .cell)=true then (p.1,NameKind.cell) else (p.1,p.2)
theorem Xs{env:Env}:∀{names:List (Str×NameKind)}{x:Str},names.lookup x=some .free->(names.map (QoT env)).lookup x=some .cell\/(names.map (QoT env)).lookup x=some .free
 | [],_,h=>by simp at h
 | (n,k) :: r,x,h=>by
   have ih:=@Xs env r x
   rw[z7]
   unfold QoT
   cases hx:x == n with
   | true =>
     rw[jQ,hx] at h
     cases h
     by_cases hc:(NameKind.free == NameKind.free && env.scope.kind == .function && env.kindOf n == some .cell)=true
     .left;rw[qj hc,jQ,hx]
     .right;rw[ql hc,jQ,hx]
   | false =>
     rw[jQ,hx] at h
     by_cases hc:(k == NameKind.free && env.scope.kind == .function && env.kindOf n == some .cell)=true
     .rw[qj hc,jQ,hx];exact ih h
     .rw[ql hc,jQ,hx];exact ih h
theorem Y2{scope:Scope}{env:Env}{x:Str}(h:scope.names.lookup x=some .free):(relabel scope env).names.lookup x=some .cell\/(relabel scope env).names.lookup x=some .free :=
 Xs (env:=env) h
theorem Ka{scope:Scope}{env:Env}(nc:∀y∈scope.names,y.2≠.cell){y:Str}(h:(relabel scope env).names.lookup y=some .cell\/(relabel scope env).names.lookup y=some .free):(y,NameKind.free)∈scope.names:=by
 have key:∀k,(relabel scope env).names.lookup y=some k->k=.cell\/k=.free->(y,NameKind.free)∈scope.names:=fun k e hk=>by
  have m:=jY e
  obtain⟨⟨n,k'⟩,hm,q⟩:=zq.mp m
  dsimp only at q
  split at q
  .rename_i c
   have c1:(k' == NameKind.free)=true:=by
    simp only[jr] at c
    exact c.1.1
   have c2:k'=.free:=eq_of_beq c1
   cases q
   rw[c2] at hm
   exact hm
  .cases q
   rcases hk with z | z
   .exact absurd z (nc _ hm)
   .rw[z] at hm;exact hm
 rcases h with h | h
 .exact key _ h (.inl rfl)
 .exact key _ h (.inr rfl)
structure Vg(sc scope:Scope)(N:QpK)(x:Str)(fr:List (Nat×Str)):Prop where
 kind:scope.kind=.function
 loc:scope.names.lookup x=some .local
 names:∀y∈scope.names,y.2=.local->scope.names.lookup y.1=some .local
 QmL:∀y∈scope.names,y.2≠.cell
 free:∀y∈scope.names,y.2=.free->sc.names.lookup y.1=some .cell\/sc.names.lookup y.1=some .free
 frk:∀p∈fr,N[p.1]?=some p.2/\scope.names.lookup p.2=some .free
 nd:(x :: fr.map (·.2)).Nodup
def JU(X:Cx)(scope:Scope)(C:Addr)(N:QpK)(s:Shared)(H:Hp)(fp:List Addr):Cx where
 prog:=X.prog
 w:=X.w
 K:=X.K
 mg:=X.mg
 base:=X.base
 A:=X.A
 N:=N
 s₀:=s
 H₀:=H
 env:=compEnvC scope (Jz X.env.cells scope.names []) C X.env
 outer:=X.stack
 stack:=X.stack
 ex:=fp
 fn:=fun _=>false
 calm:=X.calm
 pn:=[]
 xe:=fun _ _=>False
def frV(σ:St)(fr:List (Nat×Str)):St:=fr.map fun p=>(σ[p.1]?).join
def PTs(X:Cx)(ifs:List Expr)(t:TT):Prop :=
 ∀(pins:List (Addr×Obj))(s:Shared)(σ:St)(H:Hp)(Q:Bool->Hp->Prop),Inv X pins σ H s->t σ H Q ->
  wpAny (model X.prog X.w) X.A (forIn ifs true fun c r=>if r=true then do let ok <-isTrue c X.env (eval c X.env);pure (ForInStep.yield ok) else pure (ForInStep.yield r)) (TP X pins σ Q) X.xe s
def KQ:TT:=fun _ H Q=>Q true H
theorem VV{σ:St}{H:Hp}{Q:Bool->Hp->Prop}(h:Q true H):KQ σ H Q:=h
theorem YY{X:Cx}:PTs X [] KQ:=fun _ _ _ H _ I h=>wpAny_tests_nil ⟨H,I,h⟩
theorem Kc{X:Cx}{c:Expr}{t:TT}(hc:PT X c t):PTs X [c] t:=fun pins s σ H Q I h=>wpAny_tests_one (hc pins s σ H Q I h)
def Zj(J:It)(fr:List (Nat×Str))(tt:TT)(te:TE)(σ:St)(H1:Hp)(Q:VK):Prop:=∀D,H1 D=none ->
 ∃W:Nat->Nat->List V->Hp->Prop,(∃m,W 0 m [] (upd H1 D (.lst [])))/\∀i m ys H2,W i m ys H2->H2 D=some (.lst ys) /\
  ((J.stop i H2/\Q (.ref D) H2)\/(J.go i H2/\∀v H3,J.yld i H2 v H3->tt (some v :: frV σ fr) H3 fun b H4 =>
    if b=true then te (some v :: frV σ fr) H4 fun y H5=>H5 D=some (.lst ys)/\ys.length<sizeLine/\∃m',m'<m/\W (i+1) m' (ys++[y]) (upd H5 D (.lst (ys++[y])))
    else ∃m',m'<m/\W (i+1) m' ys H4))
def Qdz(wi:TI)(fr:List (Nat×Str))(tt:TT)(te:TE):TE:=fun σ H Q=>wi σ H fun J H1=>Zj J fr tt te σ H1 Q
structure Qiq(X:Cx)(pins:List (Addr×Obj))(H:Hp)(C:Addr):Prop where
 hn:H C=none
 hL:C≠X.env.locals
 h1:C∈X.ex\/X.s₀.heap.objs.size<=C
 h2:∀x c,X.env.cells.lookup x=some c->c≠C
 h3:∀p∈X.pn++pins,p.1≠C
theorem GT{X:Cx}{x:Str}{px:Pos}{iter elt:Expr}{ifs:List Expr}{scope sc:Scope}{pos pos':Pos}{N:QpK}{fr:List (Nat×Str)}{wi:TI}{tt:TT}{te:TE}
 {pins:List (Addr×Obj)} {s:Shared} {σ:St} {H:Hp} {Q:VK} {Q':QpL} {use:Option (Value->Sem Unit)}
 (S:Vg sc scope N x fr) (hsc:X.env.scope=sc) (hN:X.N=N) (hc:X.calm=true) (hi:PI X (.Name x px) iter wi)
 (ht:∀(C:Addr)(s:Shared)(H:Hp)(fp:List Addr),PTs (JU X scope C (x :: fr.map (·.2)) s H fp) ifs tt)
 (he:∀(C:Addr)(s:Shared)(H:Hp)(fp:List Addr),PE (JU X scope C (x :: fr.map (·.2)) s H fp) elt te)
 (hs:∀z,foldedSetIterable iter X.env z=pure z) (I:Inv X pins σ H s) (h:Qdz wi fr tt te σ H Q)
 (hfin:∀(D C:Addr)(H':Hp)(s':Shared)(m:Str->Option Value),Inv X pins σ H' s'->s'.heap.Ns C m->Qiq X pins H' C->Q (.ref D) H'->compPost (model X.prog X.w) X.A X.xe use Q' (.ref D) C (.ok .next) s') :
 wpAny (model X.prog X.w) X.A (comprehension (.ListComp elt [⟨.Name x px,iter,ifs,0⟩] scope pos) scope X.env pos' (newList []) false (eval iter X.env) use) Q' X.xe s:=by
 have kin:∀y,scope.names.lookup y=some .free->X.env.kindOf y=some .cell\/X.env.kindOf y=some .free:=fun y hy=>by
  show X.env.scope.names.lookup y=_\/X.env.scope.names.lookup y=_
  rw[hsc]
  exact S.free (y,.free) (jY hy) rfl
 have kin':∀y∈scope.names,y.2=.free->X.env.kindOf y.1=some .cell\/X.env.kindOf y.1=some .free:=fun y hy hf=>by
  show X.env.scope.names.lookup y.1=_\/X.env.scope.names.lookup y.1=_
  rw[hsc]
  exact S.free y hy hf
 have hkc:∀y∈scope.names,y.2=.free->∃c,X.env.cells.lookup y.1=some c:=fun y hy hf=>I.ok.has y.1 (kin' y hy hf)
 refine wpAny_comprehension_free (use:=use) rfl hs (WZ hkc) S.kind S.names ?_
 refine j0 (hi pins s σ H _ I h) fun xv s1 h1=>j0 h1 fun itv s2 h2=>?_
 obtain⟨it,fp,tn,J,H2,rfl,I2,T,st2,f2,q2⟩:=h2
 refine jN (wpAny_newFunctionEnv S.QmL (by intro y hy;simp at hy) (fun h₁ hns₁ hsb₁=>?_) S.kind)
 dsimp only at hns₁ hsb₁ ⊢
 have I3:Inv X pins σ (upd H2 s2.heap.objs.size (.lst [])) { s2 with heap:=s2.heap.push { cls:=.type "list",data:=.seq ([]:QpM).toArray } } :=
  I2.lnew (its:=[]) (t':=s2.toks) .nil (qP _)
 unfold Zj at q2
 obtain⟨W,⟨m0,w0⟩,turn⟩:=q2 s2.heap.objs.size (I2.hok.fresh (qp _))
 generalize hG:s2.heap.push { cls:=.type "list",dict:=none,data:=.seq ([]:QpM).toArray }=G at hns₁ hsb₁ I3 ⊢
 generalize hD:s2.heap.objs.size=D at I3 turn w0 ⊢
 generalize hH3:upd H2 D (.lst [])=H3 at I3 w0
 have neG:∀b o,G.get? b=some o->b≠G.objs.size:=fun b o e=>zp (qT e)
 have old:∀b o,G.get? b=some o->h₁.get? b=some o:=fun b o e=>(hsb₁.2 b (neG b o e)).trans (qw _ e)
 have up2:∀b o,s2.heap.get? b=some o->G.get? b=some o:=fun b o e=>by rw[<-hG];exact qw _ e
 have fpG:∀b∈fp,b<G.objs.size:=fun b hb=>by
  obtain⟨o,e,_⟩:=T.obj _ _ st2 b hb
  exact qT (up2 b o e)
 have sub:∀{y:Str}{c:Addr},(Jz X.env.cells scope.names []).lookup y=some c->X.env.cells.lookup y=some c:=fun{y c} e=>by
  rcases WH _ _ e with z | z
  .exact z
  .simp at z
 have QlD:∀b∈fp,(b∈X.ex\/X.s₀.heap.objs.size<=b)/\b≠X.env.locals/\(∀x c,X.env.cells.lookup x=some c->c≠b)/\∀p∈X.pn++pins,p.1≠b:=fun b hb =>
  ⟨(f2 b hb).2.2.2.1,(f2 b hb).2.1,(f2 b hb).2.2.2.2.1,(f2 b hb).2.2.2.2.2⟩
 have hCL:G.objs.size≠X.env.locals:=vM I3.lt
 have hC1:X.s₀.heap.objs.size<=G.objs.size:=I3.sz
 have hC2:∀x c,X.env.cells.lookup x=some c->c≠G.objs.size:=fun x c e=>by
  obtain⟨v,o,ho,_⟩:=I3.cell x c e
  exact neG c o ho
 have hC3:∀p∈X.pn++pins,p.1≠G.objs.size:=fun p hp=>neG p.1 p.2 (I3.pin p hp).1
 have okB:(JU X scope G.objs.size (x :: fr.map (·.2)) { s2 with heap:=G } H3 fp).Ok:=by
  refine⟨I2.ok.mod,S.kind,I2.ok.glob,I2.ok.blt,qp _,fun y z c e1 e2=>I2.ok.inj y z c (sub e1) (sub e2),fun y hy=>?_,fun y c z=>Bool.noConfusion z,I2.ok.hd,I2.ok.frames,.inl rfl,fun b hb=>⟨zp (fpG b hb),fun y c e=>(QlD b hb).2.2.1 y c (sub e)⟩,
   fun b o e=>I3.bs b o e,zf I2.ok.bsz I3.sz,fun b o e hb=>?_,fun b hb hf=>?_,I3.stack,I3.Qkh⟩
  .have m:=Ka S.QmL hy
   exact Uo _ _ m (hkc _ m rfl)
  .rcases (QlD b hb).1 with z | z
   .exact I2.ok.QkX b o e z
   .exact absurd (zx (qT e) (zf I2.ok.bsz z)) (jT _)
  .rcases qR.mp (I2.Qkg b hf) with z | z
   .exact(QlD b hb).2.1 z
   .exact(f2 b hb).2.2.1 z
 have I4:∀tk:Nat,Inv (JU X scope G.objs.size (x :: fr.map (·.2)) { s2 with heap:=G } H3 fp) [] (none :: frV σ fr) H3 { s2 with heap:=h₁,toks:=tk }:=fun tk=>by
  refine⟨okB,rfl,I2.bare,Un.kept old,⟨_,hns₁,fun i y v e1 e2 _=>?_⟩,fun y c e=>?_,I3.hok.fresh (qp _),fun y c e=>I3.vU y c (sub e),fun p hp=>absurd (show p∈([]:List (Addr×Obj)) from hp) (by simp),I3.hok.kept old,?_⟩
  .cases i with
   | zero=>simp at e2
   | succ i =>
     have e1':(fr.map (·.2))[i]?=some y:=e1
     have e2':(fr.map fun p=>(σ[p.1]?).join)[i]?=some (some v):=e2
     rw[qJ] at e1' e2'
     cases hp:fr[i]? with
     | none=>rw[hp] at e1';cases e1'
     | some p =>
       rw[hp] at e1' e2'
       have ey:p.2=y:=zg e1'
       have ev:(σ[p.1]?).join=some v:=zg e2'
       have ev':σ[p.1]?=some (some v):=by
        cases q:σ[p.1]? with
        | none=>rw[q] at ev;cases ev
        | some o=>rw[q] at ev;simp only[Option.join] at ev;exact zB some ev
       have hf:=S.frk p (qG hp)
       rw[ey] at hf
       have hk:=kin y hf.2
       obtain⟨m,_,hl⟩:=I2.loc
       obtain⟨u,ru,l⟩:=hl p.1 y v (by rw[hN];exact hf.1) ev' (.inr hk)
       refine⟨u,ru,.inr ⟨Y2 hf.2,?_⟩⟩
       rcases l with⟨k,_⟩ | ⟨_,c,e,z⟩
       .rcases hk with hk | hk
        .rw[hk] at k;cases k
        .rw[hk] at k;cases k
       .obtain⟨c',ec⟩:=Uo (cells:=X.env.cells) scope.names [] (jY hf.2) ⟨c,e⟩
        have:=sub ec
        rw[e] at this
        cases this
        obtain⟨o,ho,hd⟩:=z
        exact⟨c,ec,o,old c o (up2 c o ho),hd⟩
  .obtain⟨v,o,ho,hd⟩:=I2.cell y c (sub e)
   exact⟨v,o,old c o (up2 c o ho),hd⟩
  .show(none :: frV σ fr).length=(x :: fr.map (·.2)).length
   simp[frV]
 have Qpa:(JU X scope G.objs.size (x :: fr.map (·.2)) { s2 with heap:=G } H3 fp).env.scope.names.lookup x=some .local:=lookup_relabel_local S.loc
 generalize hX:JU X scope G.objs.size (x :: fr.map (·.2)) { s2 with heap:=G } H3 fp=Y at I4 Qpa
 have eP:Y.prog=X.prog:=by rw[<-hX];rfl
 have eW:Y.w=X.w:=by rw[<-hX];rfl
 have eK:Y.K=X.K:=by rw[<-hX];rfl
 have eA:Y.A=X.A:=by rw[<-hX];rfl
 have eC:Y.calm=true:=by rw[<-hX];exact hc
 have eE:Y.env=compEnvC scope (Jz X.env.cells scope.names []) G.objs.size X.env:=by rw[<-hX];rfl
 have eN:Y.N=x :: fr.map (·.2):=by rw[<-hX];rfl
 have eX:Y.xe=fun _ _=>False:=by rw[<-hX];rfl
 have eB:∀{σ':St}{H':Hp}{s':Shared}{QiU:List (Addr×Obj)},Inv Y QiU σ' H' s'->s'.os=s2.os/\Un (frs X.stack) fp H3 H' G s'.heap:=fun{σ' H' s' QiU} J=>by
  subst hX
  exact⟨J.os,J.base⟩
 have hT:=ht G.objs.size { s2 with heap:=G } H3 fp
 have hE:=he G.objs.size { s2 with heap:=G } H3 fp
 rw[hX] at hT hE
 have fpY:∀{H':Hp},(∀b∈fp,H' b=none)->∀b∈fp,Qac Y [] H' b:=fun{H'} hn b hb=>by
  subst hX
  refine⟨hn b hb,zp (fpG b hb),okB.Qk6 b hb,.inl hb,fun y c e=>(okB.exf b hb).2 y c e,fun p hp=>absurd (show p∈([]:List (Addr×Obj)) from hp) (by simp)⟩
 have loop:∀s3:Shared,(∃tk,s3={ s2 with heap:=h₁,toks:=tk }) ->
  codeAny (model X.prog X.w) X.A (.compLoop (.ListComp elt [⟨.Name x px,iter,ifs,0⟩] scope pos) 0 (.ref it) (.ref D) Y.env)
   (compPost (model X.prog X.w) X.A X.xe use Q' (.ref D) G.objs.size) s3:=by
  rintro s3 ⟨tk,rfl⟩
  refine codeAny_compLoop_tests (fun n s'=>∃i ys o H',Inv Y [] (o :: frV σ fr) H' s'/\tn i s'.heap/\(∀b∈fp,H' b=none)/\W i n ys H') ?_ m0
   ⟨0,[],none,H3,I4 tk,T.keep _ _ _ st2 fun b hb o e=>old b o (up2 b o e),fun b hb=>?_,w0⟩
  .rintro n s' ⟨i,ys,o,H',J',st',fr',w'⟩
   obtain⟨hD',hgo⟩:=turn i n ys H' w'
   rcases hgo with⟨stop,qn⟩ | ⟨go,step⟩
   .have Q1:=T.done Y eP eW eK eC i [] s' (o :: frV σ fr) H' (notedBy (model X.prog X.w) X.A Y.env fun e s''=>compPost (model X.prog X.w) X.A X.xe use Q' (.ref D) G.objs.size (.error e) s'') J' (fpY fr') st' stop
    rw[eA] at Q1
    refine j0 Q1 fun r s4 ⟨hr,J4⟩=>?_
    subst hr
    obtain⟨m,hn,_⟩:=J4.loc
    rw[eE] at hn
    obtain⟨os4,u4⟩:=eB J4
    have free4:H' G.objs.size=none:=by have:=J4.free;rw[eE] at this;exact this
    have hok4:gq X.prog X.w H' s4.heap:=by have:=J4.hok;rw[eP,eW] at this;exact this
    exact hfin D G.objs.size H' s4 m (I3.call' (ch:=fp) (s':=s4) os4 u4 hok4 J4.bare QlD) hn ⟨free4,hCL,.inr hC1,hC2,hC3⟩ qn
   .have Q1:=T.item Y eP eW eK eC i [] s' (o :: frV σ fr) H' (notedBy (model X.prog X.w) X.A Y.env fun e s''=>compPost (model X.prog X.w) X.A X.xe use Q' (.ref D) G.objs.size (.error e) s'') J' (fpY fr') st' go
    rw[eA] at Q1
    refine j0 Q1 fun r s4 ⟨u,hr,h4⟩=>?_
    subst hr
    show wpAny _ _ (letOwnedTupleGo (.Name x px) (.ref it) u >>= fun _=>assign (.Name x px) Y.env u) _ _ s4
    refine qb (j0 h4 fun _ s5 ⟨v,H5,J5,r5,y5,st5,fr5⟩=>?_)
    have J5':=J5.pinned (fpY fr5) (T.obj _ _ st5)
    have G5:=Zd (X:=Y) (i:=0) (x:=x) (pos:=px) (by rw[eN];exact S.nd) (by rw[eN];rfl) (.inl Qpa) (.inr Qpa) ([]++U4 fp s5.heap) s5 (o :: frV σ fr) H5 v u (fun σ6 H6=>σ6=some v :: frV σ fr/\H6=H5) J5' r5 ⟨rfl,rfl⟩
    rw[eP,eW,eA,eX] at G5
    refine jM G5 (fun _ s6 ⟨σ6,H6,J6,e6,e6'⟩=>?_) fun _ _ z=>z.elim
    subst e6 e6'
    have T6:=hT _ s6 _ _ _ J6 (step v _ y5)
    rw[eP,eW,eA,eX] at T6
    have again:∀{s7:Shared}{H7:Hp}{zs:List V},Inv Y ([]++U4 fp s5.heap) (some v :: frV σ fr) H7 s7->(∃m',m'<n/\W (i+1) m' zs H7)->∃m,m<n/\∃i ys o H',Inv Y [] (o :: frV σ fr) H' s7/\tn i s7.heap/\(∀b∈fp,H' b=none)/\W i m ys H':=fun{s7 H7 zs} J7 ⟨m',hm,w7⟩=>by
     refine⟨m',hm,i+1,zs,some v,H7,J7.Qil,T.keep _ _ _ st5 fun b hb o e=>(J7.pin (b,o) (qO _ (qO _ (Yq hb e)))).1,fun b hb=>?_,w7⟩
     obtain⟨o,e,d⟩:=T.obj _ _ st5 b hb
     exact(J7.pin (b,o) (qO _ (qO _ (Yq hb e)))).2.1
    refine jM T6 (fun ok s7 ⟨H7,J7,q7⟩=>?_) fun _ _ z=>z.elim
    cases ok with
    | false=>exact again J7 q7
    | true =>
      have E7:=hE _ s7 _ _ _ J7 q7
      rw[eP,eW,eA,eX] at E7
      show wpAny _ _ (eval elt Y.env) _ _ s7
      refine jM E7 (fun u8 s8 ⟨y8,H8,J8,r8,hD8,hz8,w8⟩=>?_) fun _ _ z=>z.elim
      have A8:=Zb (X:=Y) _ s8 _ H8 (.ref D) [y8] (.ref D) [u8] (fun z H9=>H9=upd H8 D (.lst (ys++[y8]))) J8 rfl (.cons r8 .nil) ⟨D,ys,y8,rfl,rfl,hD8,hz8,rfl⟩
      rw[eP,eW,eA,eX] at A8
      refine jM A8 (fun _ s9 ⟨z9,H9,J9,_,e9⟩=>?_) fun _ _ z=>z.elim
      subst e9
      exact again J9 w8
  .rw[<-hH3]
   have hbD:b≠D:=by
    rw[<-hD]
    obtain⟨o,e,_⟩:=T.obj _ _ st2 b hb
    exact zp (qT e)
   rw[Qj hbD]
   exact(f2 b hb).1
 rw[eE] at loop
 exact codeAny_compStart_list (loop _ ⟨_,rfl⟩) (T.self _ 0 _ _ _ (T.keep _ _ _ st2 fun b hb o e=>old b o (up2 b o e)) (loop _ ⟨_,rfl⟩))
theorem Yn{X:Cx}{x:Str}{px:Pos}{iter elt:Expr}{ifs:List Expr}{scope sc:Scope}{pos:Pos}{N:QpK}{fr:List (Nat×Str)}{wi:TI}{tt:TT}{te:TE}
 (S:Vg sc scope N x fr) (hsc:X.env.scope=sc) (hN:X.N=N) (hc:X.calm=true) (hi:PI X (.Name x px) iter wi)
 (ht:∀(C:Addr)(s:Shared)(H:Hp)(fp:List Addr),PTs (JU X scope C (x :: fr.map (·.2)) s H fp) ifs tt)
 (he:∀(C:Addr)(s:Shared)(H:Hp)(fp:List Addr),PE (JU X scope C (x :: fr.map (·.2)) s H fp) elt te)
 (hs:∀z,foldedSetIterable iter X.env z=pure z:=by intro _;rfl) :
 PE X (.ListComp elt [⟨.Name x px,iter,ifs,0⟩] scope pos) (Qdz wi fr tt te):=by
 intro pins s σ H Q I h
 rw[eval_ListComp]
 refine GT (use:=none) S hsc hN hc hi ht he hs I h fun D C H' s' m J hn fc q=>?_
 exact⟨m,hn,fun h' hs'=>⟨.ref D,H',J.turned (t':=s'.toks) (fun b o hb e=>(hs'.2 b hb).trans e) fc.hn fc.hL fc.h1 fc.h2 fc.h3,rfl,q⟩⟩
theorem Wn{X:Cx}{x y:Str}{px py spos:Pos}{i:Nat}{iter elt:Expr}{ifs:List Expr}{scope sc:Scope}{pos:Pos}{N:QpK}{fr:List (Nat×Str)}{wi:TI}{tt:TT}{te:TE}
 (S:Vg sc scope N x fr) (hsc:X.env.scope=sc) (hN:X.N=N) (hc:X.calm=true) (hnd:X.N.Nodup) (hiy:X.N[i]?=some y) (hy:X.env.scope.names.lookup y=some .local) (hi:PI X (.Name x px) iter wi)
 (ht:∀(C:Addr)(s:Shared)(H:Hp)(fp:List Addr),PTs (JU X scope C (x :: fr.map (·.2)) s H fp) ifs tt)
 (he:∀(C:Addr)(s:Shared)(H:Hp)(fp:List Addr),PE (JU X scope C (x :: fr.map (·.2)) s H fp) elt te)
 (hs:∀z,foldedSetIterable iter X.env z=pure z:=by intro _;rfl)
 (hsw:swapsWith (.ListComp elt [⟨.Name x px,iter,ifs,0⟩] scope pos) (some (.Name y py)) spos.line X.env=pure true:=by rfl) :
 PS X (.Assign [.Name y py] (.ListComp elt [⟨.Name x px,iter,ifs,0⟩] scope pos) spos) (QnA (Qdz wi fr tt te) (QJ i)):=by
 intro pins s σ H D0 I h
 rw[exec_Assign_Name_used _ _ _ _ hsw]
 refine qb (wpAny_standAt (qb ?_))
 show wpAny _ X.A (do let _ <-comprehension (.ListComp elt [⟨.Name x px,iter,ifs,0⟩] scope pos) scope X.env _ (newList []) false (eval iter X.env) (some (assign (.Name y py) X.env))) _ _ s
 refine qb (j0 (GT (use:=some (assign (.Name y py) X.env)) (Q':=fun _ s'=>SP X pins D0 .next s') S hsc hN hc hi ht he hs I h fun D C H' s' m J hn fc q=>?_) fun _ s' hq=>qx (qx hq))
 show wpAny _ _ (assign (.Name y py) X.env (.ref D)) _ _ s'
 refine wpAny_assign_Name (Xd J hnd hiy (.inl hy) (v:=.ref D) rfl (fun s5 J5 hs5=>?_) (.inr hy))
 obtain⟨a,sb,ha⟩:=hs5
 have hCa:C≠a:=by
  rcases ha with z | z
  .rw[z];exact fc.hL
  .exact gC (fc.h2 _ _ z)
 refine⟨m,hn.sameBut sb hCa,fun h' hs'=>⟨_,H',J5.turned (t':=s5.toks) (fun b o hb e=>(hs'.2 b hb).trans e) fc.hn fc.hL fc.h1 fc.h2 fc.h3,q⟩⟩
theorem Qdd{bs:List Bool}:(List.range bs.length).all (fun i=>bs.getD i true)=bs.all id:=by
 rw[QfC,yd,yd]
 constructor
 .intro h b hb
  obtain⟨i,hi,e⟩:=List.mem_iff_getElem.mp hb
  have q:=h i (jK.mpr hi)
  simp only[zr,qe hi,Option.getD_some] at q
  rw[<-e];exact q
 .intro h i hi
  have hi':=jK.mp hi
  simp only[zr,qe hi',Option.getD_some]
  exact h _ (yZ hi')
theorem GY{X:Cx}(hc:X.calm=true):YM X (.builtin "all") (fun xs H Q=>∃(p:Addr)(bs:List Bool),xs=[.ref p]/\jk X.K H p (bs.map V.bl)/\Q (.bl (bs.all id)) H):=by
 intro pins s σ H xs us Q I r h
 obtain⟨p,bs,rfl,hq,q⟩:=h
 obtain⟨u,rfl,rx⟩:=Vh r
 cases rx
 obtain⟨its,rv,pl,hz⟩:=I.list hq
 have hlen:=rv.length
 rw[qd] at hlen
 have hpl:p<s.heap.objs.size:=by obtain⟨o,e,_⟩:=pl.isList;exact qT e
 refine call_all_walk (wpAny_pyIter_list pl.isList ?_)
 refine⟨s.heap.objs.size,_,[s.heap.objs.size],its.toArray.size,_,_,fun i=>bs.getD i true,rfl,Walks.list (A:=X.A.in1) (I.ok.hd hc) s.heap.objs.size p (zp hpl) its.toArray,⟨⟨_,qN _ rfl,rfl,rfl⟩,pl.isList.push _⟩,?_,?_⟩
 .intro i v s' Q' E' hv hq'
  have hv':its[i]?=some v:=by simpa using hv
  have hi:i<its.length:=(qi.mp hv').1
  have hb:(bs.map V.bl)[i]?=some (V.bl (bs.getD i true)):=by
   rw[qJ,qe (by omega)]
   simp[zr,qe (show i<bs.length by omega)]
  obtain⟨u,e1,e2⟩:=rv.get hb
  rw[hv'] at e1
  cases e1
  cases e2
  exact jz hq'
 .intro h' tk hk
  have hsz:its.toArray.size=bs.length:=by rw[qM];exact hlen.symm
  rw[hsz,Qdd]
  exact⟨.bl (bs.all id),H,I.kept (t':=tk) fun b o e=>hk b o (fun z=>absurd (qT e) (by rw[qg.mp z];exact jT _)) (qw _ e),rfl,q⟩
def clsV:V->Option Value
 | .ty n=>some (.type n)
 | .ref a=>some (.ref a)
 | _=>none
theorem QF{X:Cx}:YM X (.builtin "isinstance") (fun xs H Q=>∃x c cv t b,xs=[x,c]/\clsV c=some cv/\Y3 X.K H x t/\kitOne X.K t cv=some b/\Q (.bl b) H):=by
 intro pins s σ H xs us Q I r h
 obtain⟨x,c,cv,t,b,rfl,hcv,ty,hk,q⟩:=h
 obtain⟨u,u',rfl,rx,rc⟩:=QgU r
 have e:u'=cv:=by
  cases c with
  | ty n=>cases hcv;exact rc
  | ref a=>cases hcv;exact rc
  | _=>cases hcv
 subst e
 exact QcZ I rx ty hk fun tk=>⟨.bl b,H,I.tok tk,rfl,q⟩
theorem Qaq{xs:QpK}:∀{us:QpM},Qx (xs.map V.str) us->StrsAre us xs:=by
 induction xs with
 | nil=>intro us r;rw[List.map_nil] at r;cases r;exact .nil
 | cons y ys ih =>
   intro us r
   rw[z7] at r
   cases r with
   | cons r1 r2 =>
     obtain⟨t,e⟩:=r1
     subst e
     exact .cons y t (ih r2)
inductive Qbr(K:Frag)(x:V)(xs:List V)(H:Hp)(Q:VK):Prop
 | mk:∀(sep:Str)(p:Addr)(ys:QpK),x=.str sep->xs=[.ref p]->jk K H p (ys.map V.str)->(ys.map (·.length)).sum+ys.length*sep.length<=16777216->Q (.str (Txt.join sep ys)) H->Qbr K x xs H Q
def rJoin(K:Frag):V->List V->Hp->VK->Prop:=fun x xs H Q=>Qbr K x xs H Q
theorem Qgp{X:Cx}:MtR X "str.join" (rJoin X.K):=by
 intro pins s σ H x xs v us Q I rx rv h
 obtain⟨sep,p,ys,rfl,rfl,hq,hz,q⟩:=h
 obtain⟨t,rfl⟩:=rx
 obtain⟨u,rfl,ru⟩:=Vh rv
 cases ru
 obtain⟨its,r,pl,_⟩:=I.list hq
 exact join_list pl.isList (by have:=Qaq r;simpa using this) hz fun t' k=>⟨.str (Txt.join sep ys),H,I.tok k,⟨t',rfl⟩,q⟩
inductive QdU(x:V)(lo:Option Int)(hi:Option Int)(H:Hp)(Q:VK):Prop
 | mk:∀y,x=.str y->y.length<=sizeLine->Q (.str (Txt.slice y lo hi)) H->QdU x lo hi H Q
def rSlS:V->Option Int->Option Int->Hp->VK->Prop:=fun x lo hi H Q=>QdU x lo hi H Q
theorem Qat{X:Cx}:SlR X rSlS:=by
 intro pins s σ H x v vl vu lo hi sl Q I rx hs pl pu h
 obtain⟨y,rfl,hz,q⟩:=h
 obtain⟨t,rfl⟩:=rx
 refine⟨"str",_,F.slot_str_getitem.lookup,typeIs_str _ _ _,?_⟩
 have fin:∀lo hi,Q (.str (Txt.slice y lo hi)) H->(Txt.slice y lo hi).length<=sizeLine/\∀t' k,EP X pins σ Q (.str (Txt.slice y lo hi) t') { s with toks:=k }:=fun lo hi q =>
  ⟨zf (Txt.slice_le y _ _) hz,fun t' k=>⟨.str _,H,I.tok k,⟨t',rfl⟩,q⟩⟩
 cases pl with
 | none =>
   cases pu with
   | none=>exact uv (l:=none) (u:=none) (st:=none) hs rfl (Qlz (fin _ _ q))
   | int j tj=>exact uv (l:=none) (u:=some (j,tj)) (st:=none) hs rfl (Qlz (fin _ _ q))
 | int i ti =>
   cases pu with
   | none=>exact uv (l:=some (i,ti)) (u:=none) (st:=none) hs rfl (Qlz (fin _ _ q))
   | int j tj=>exact uv (l:=some (i,ti)) (u:=some (j,tj)) (st:=none) hs rfl (Qlz (fin _ _ q))
mutual
inductive RD(K:Frag)(H:Hp):V->PyData->Prop
 | non:RD K H .non .none
 | bl (b:Bool):RD K H (.bl b) (.bool b)
 | int (i:Int):RD K H (.int i) (.int i)
 | str (x:Str):RD K H (.str x) (.str x)
 | lst {a:Addr} {xs:List V} {ds:List PyData}:jk K H a xs->RDs K H xs ds->RD K H (.ref a) (.list ds)
 | tup {a:Addr} {xs:List V} {ds:List PyData}:yu K H a xs->RDs K H xs ds->RD K H (.ref a) (.tuple ds)
inductive RDs(K:Frag)(H:Hp):List V->List PyData->Prop
 | nil:RDs K H [] []
 | cons {x:V} {xs:List V} {d:PyData} {ds:List PyData}:RD K H x d->RDs K H xs ds->RDs K H (x :: xs) (d :: ds)
end
mutual
theorem RD.reads{X:Cx}{pins:List (Addr×Obj)}{σ:St}{H:Hp}{s:Shared}(I:Inv X pins σ H s):∀{x:V}{d:PyData}{u:Value},RD X.K H x d->QC x u->∃as,Reads s.heap u d as
 | _,_,_,.non,r=>by cases (show _=Value.none from r);exact⟨_,.none⟩
 | _,_,_,.bl b,r=>by cases (show _=Value.bool b from r);exact⟨_,.bool b⟩
 | _,_,_,.int i,r=>by obtain⟨t,e⟩:=r;subst e;exact⟨_,.int i t⟩
 | _,_,_,.str x,r=>by obtain⟨t,e⟩:=r;subst e;exact⟨_,.str x t⟩
 | _,_,_,.lst (a:=a) hq hs,r=>by
   cases (show _=Value.ref a from r)
   obtain⟨its,rv,pl,_⟩:=I.list hq
   obtain⟨as,ra⟩:=RDs.reads I hs rv
   obtain⟨o,e,c,n,d⟩:=pl.isList
   exact⟨_,.list e c d (by simpa using ra)⟩
 | _,_,_,.tup (a:=a) hq hs,r=>by
   cases (show _=Value.ref a from r)
   obtain⟨its,rv,pl,_⟩:=I.tuple hq
   obtain⟨as,ra⟩:=RDs.reads I hs rv
   obtain⟨o,e,c,n,d⟩:=pl
   exact⟨_,.tuple e c d (by simpa using ra)⟩
theorem RDs.reads{X:Cx}{pins:List (Addr×Obj)}{σ:St}{H:Hp}{s:Shared}(I:Inv X pins σ H s):∀{xs:List V}{ds:List PyData}{us:QpM},RDs X.K H xs ds->Qx xs us->∃as,ReadsAll s.heap us ds as
 | _,_,_,.nil,r=>by cases r;exact⟨_,.nil⟩
 | _,_,_,.cons h1 h2,r=>by
   cases r with
   | cons r1 r2 =>
     obtain⟨as,a1⟩:=RD.reads I h1 r1
     obtain⟨bs,a2⟩:=RDs.reads I h2 r2
     exact⟨_,.cons a1 a2⟩
end
inductive Qd2(K:Frag)(x:V)(y:V)(H:Hp)(Q:VK):Prop
 | mk:∀d e,RD K H x d->RD K H y e->SeqAt.shaped d=true->SeqAt.shaped e=true->Q (.bl (PyData.eqv d e)) H->Qd2 K x y H Q
def QnG(K:Frag):R2:=fun x y H Q=>Qd2 K x y H Q
inductive QdW(K:Frag)(x:V)(y:V)(H:Hp)(Q:VK):Prop
 | mk:∀d e,RD K H x d->RD K H y e->SeqAt.shaped d=true->SeqAt.shaped e=true->Q (.bl (!PyData.eqv d e)) H->QdW K x y H Q
def QdX(K:Frag):R2:=fun x y H Q=>QdW K x y H Q
theorem Uf{X:Cx}(hu:X.A.units+64<cLine):uz X (compareOp .Eq) (QnG X.K):=by
 intro pins s σ H x y v u Q I rx ry h
 obtain⟨d,e,hd,he,sd,se,q⟩:=h
 obtain⟨as,ra⟩:=hd.reads I rx
 obtain⟨bs,rb⟩:=he.reads I ry
 exact eq_dataH ra rb sd se hu ⟨.bl _,H,I,rfl,q⟩
theorem Yo{X:Cx}(hu:X.A.units+64<cLine):uz X (compareOp .NotEq) (QdX X.K):=by
 intro pins s σ H x y v u Q I rx ry h
 obtain⟨d,e,hd,he,sd,se,q⟩:=h
 obtain⟨as,ra⟩:=hd.reads I rx
 obtain⟨bs,rb⟩:=he.reads I ry
 exact ne_dataH ra rb sd se hu ⟨.bl _,H,I,rfl,q⟩
theorem Qb9{n:Nat}{P:QpM->Prop}(h:∀a us,us.length=n->P (a :: us)):∀us:QpM,us.length=n+1->P us:=fun us e=>by
 cases us with
 | nil=>exact absurd e (Nat.succ_ne_zero n).symm
 | cons a us=>exact h a us (Nat.succ.inj e)
theorem us_0{P:QpM->Prop}(h:P []):∀us:QpM,us.length=0->P us:=fun us e=>by rw[List.eq_nil_of_length_eq_zero e];exact h
theorem QoM{P:QpM->Prop}(h:∀a,P [a]):∀us:QpM,us.length=1->P us:=Qb9 fun a=>us_0 (P:=fun us=>P (a :: us)) (h a)
theorem QoL{P:QpM->Prop}(h:∀a b,P [a,b]):∀us:QpM,us.length=2->P us:=Qb9 fun a=>QoM (P:=fun us=>P (a :: us)) (fun b=>h a b)
theorem us_3{P:QpM->Prop}(h:∀a b c,P [a,b,c]):∀us:QpM,us.length=3->P us:=Qb9 fun a=>QoL (P:=fun us=>P (a :: us)) (fun b c=>h a b c)
theorem us_4{P:QpM->Prop}(h:∀a b c d,P [a,b,c,d]):∀us:QpM,us.length=4->P us:=Qb9 fun a=>us_3 (P:=fun us=>P (a :: us)) (fun b c d=>h a b c d)
theorem QoK{P:QpM->Prop}(h:∀a b c d e,P [a,b,c,d,e]):∀us:QpM,us.length=5->P us:=Qb9 fun a=>us_4 (P:=fun us=>P (a :: us)) (fun b c d e=>h a b c d e)
theorem us_6{P:QpM->Prop}(h:∀a b c d e f,P [a,b,c,d,e,f]):∀us:QpM,us.length=6->P us:=Qb9 fun a=>QoK (P:=fun us=>P (a :: us)) (fun b c d e f=>h a b c d e f)
end L2
namespace L2
open PySem PySem.Spec PyProof.Rows
theorem Qaa{α:Type}{xs:List α}{i:Int}(h0:0<=i)(h1:i<(xs.length:Int)):∃v,atI xs i=some v/\v∈xs/\xs[i.toNat]?=some v:=by
 have hn:i.toNat<xs.length:=by omega
 refine⟨xs[i.toNat],?_,yZ hn,qe hn⟩
 have e:((i.toNat:Nat):Int)=i:=by omega
 have q:=Zt (xs:=xs) (j:=i.toNat) (qe hn)
 rw[e] at q
 exact q
theorem VO{α:Type}{xs:List α}(i:Int)(h:0<xs.length):∃v,atI xs (i % (xs.length:Int))=some v/\v∈xs/\xs[(i % (xs.length:Int)).toNat]?=some v :=
 Qaa (zP _ (by omega)) (zN _ (by omega))
theorem Qi.zT{H:Hp}{p:Addr}{o:HO}(h:H p=none):Qi H (upd H p o):=fun b u e=>by rw[Qj (Qd e h)];exact e
theorem Qi.QoN{H H':Hp}{p:Addr}{o:HO}(s:Qi H H')(h:H p=none):Qi H (upd H' p o):=fun b u e=>by rw[Qj (Qd e h)];exact s b u e
theorem Wp{X:Cx}{x:Str}{v:V}{pos:Pos}(hg:Gl X x)(h:∃u,X.mg x=some u/\QC v u)(hd:(x == ("__debug__":Str))=false:=by decide):PE X (.Name x pos) (tC v):=by
 obtain⟨u,hm,r⟩:=h
 exact Qgd hg hm r hd
theorem Jy{X:Cx}(K:Frag)(hK:X.K=K:=by rfl):IxR X (rIxL K):=hK▸QS
theorem Zs{X:Cx}(K:Frag)(hK:X.K=K:=by rfl):IxR X (QnF K):=hK▸Qz
theorem Qbu{X:Cx}(K:Frag)(hu:X.A.units+64<cLine)(hK:X.K=K:=by rfl):uz X (compareOp .NotEq) (QdX K):=hK▸Yo hu
section
variable {X:Cx}{o e:Expr}{es:List Expr}{to:TE}{t:TA}{name:Str}{apos cpos:Pos}{T id:String}{r:V->List V->Hp->VK->Prop}
end
def QaC:Expr->Bool
 | .Starred ..=>false
 | _=>true
theorem VZ{e:Expr}{es:List Expr}{env:Env}(h:QaC e=true):starEach (e :: es) env=(false,eval e env) :: starEach es env:=by
 cases e <;> first | rfl | (cases h)
theorem zy{X:Cx}{e:Expr}{es:List Expr}{te:TE}{t:TA}(ha:PE X e te)(hr:PA X es t)(h:QaC e=true:=by rfl):PA X (e :: es) (VX te t):=Qgf ha hr (VZ h)
structure PAs(X:Cx)(es:List Expr)(t:TA):Prop where
 h:PA X es t
theorem Qo{X:Cx}:PAs X [] Qdx:=⟨Qc⟩
theorem Qe{X:Cx}{e:Expr}{es:List Expr}{te:TE}{t:TA}(ha:PE X e te)(hr:PAs X es t)(h:QaC e=true:=by rfl):PAs X (e :: es) (VX te t):=⟨zy ha hr.h h⟩
theorem YZ{X:Cx}{es:List Expr}{t:TA}{pos:Pos}(h:PAs X es t):PE X (.List es pos) (tLst t):=QhR h.h
theorem Z4{X:Cx}{es:List Expr}{t:TA}{x1:Nat}{pos:Pos}(h:PAs X es t):PE X (.Tuple es x1 pos) (QoO t):=QhP h.h
theorem Qfk{x:Str}{fr:List (Nat×Str)}{te:TE}{σ:St}{H1:Hp}{Q:VK}(f:Nat->V)(hz:x.cps.size<=sizeLine)
 (hte:∀(c:Nat)(H3:Hp)(Q':VK),c∈x.cps.toList->Q' (f c) H3->te (some (.str ⟨#[c]⟩) :: frV σ fr) H3 Q')
 (hQ:∀D,H1 D=none->Q (.ref D) (upd H1 D (.lst (x.cps.toList.map f)))) :
 Zj (Its x) fr KQ te σ H1 Q:=by
 unfold Zj
 intro D hD
 refine⟨fun i m ys H2=>m=x.cps.size - i/\i<=x.cps.size/\ys=(x.cps.toList.take i).map f/\H2=upd H1 D (.lst ys),⟨x.cps.size,by simp,qP _,by simp,rfl⟩,?_⟩
 rintro i m ys H2 ⟨rfl,hi,rfl,rfl⟩
 refine⟨Qf,?_⟩
 by_cases hlt:i<x.cps.size
 .refine .inr ⟨hlt,?_⟩
  rintro v H3 ⟨rfl,c,hc,rfl⟩
  refine VV (QE ?_)
  have hcl:x.cps.toList[i]?=some c:=by simpa using hc
  refine hte c _ _ (qG hcl) ⟨Qf,?_,x.cps.size - (i+1),by omega,rfl,hlt,?_,XY⟩
  .rw[qd,qK]
   simp only[qH]
   omega
  .rw[zb,hcl]
   simp
 .have e:i=x.cps.size:=by omega
  subst e
  have e2:x.cps.toList.take x.cps.size=x.cps.toList:=zj (by simp)
  refine .inl ⟨rfl,?_⟩
  rw[e2]
  exact hQ D hD
theorem VY{α:Type}(g:α->Nat):∀(l:List α),(∀x∈l,g x=1)->(l.map g).sum=l.length
 | [],_=>rfl
 | a :: r,h=>by
   rw[z7,List.sum_cons,h a qI,VY g r fun x hx=>h x (qu _ hx),zm]
   omega
theorem KB(x y:Str):(x++y).length=x.length+y.length:=by
 show(x.cps++y.cps).size=_
 rw[Array.size_append];rfl
theorem Qbx(c:Nat):(⟨#[c]⟩:Str).length=1:=rfl
end L2
namespace L2
open PySem PySem.Spec PyProof.Rows
def Asc(x:Str):Prop:=∀c∈x.cps.toList,c<128
theorem Asc.ok{x:Str}(h:Asc x):PyData.strOk x=true:=by
 unfold PyData.strOk
 rw[Array.all_eq_true']
 intro c hc
 have:=h c (Array.mem_toList_iff.mpr hc)
 exact qt (by omega)
theorem KV.at{κ:Type}:∀{kvs:List (κ×V)}{vs:List (κ×Value)}{j:Nat}{p:κ×V}{q:κ×Value},KV kvs vs->kvs[j]?=some p->vs[j]?=some q->p.1=q.1
 | _,_,_,_,_,.nil,h,_=>by simp at h
 | _,_,0,_,_,.cons r _,h1,h2=>by
   simp only[List.getElem?_cons_zero,Option.some.injEq] at h1 h2
   subst h1 h2
   exact r.1
 | _,_,j+1,_,_,.cons _ t,h1,h2=>KV.at (j:=j) (show KV _ _ from t) (by simpa using h1) (by simpa using h2)
end L2
namespace L2
open PySem PySem.Spec PyProof.Rows
theorem GH:∀{xs:QpK},(∀x∈xs,Asc x)->PyData.canLayAll0 (xs.map PyData.str)=true/\PyData.depthAll (xs.map PyData.str)=0
 | [],_=>⟨rfl,rfl⟩
 | x :: r,h=>by
   have q:=GH (xs:=r) fun y hy=>h y (qu _ hy)
   have e:=(h x qI).ok
   simp only[z7,PyData.canLayAll0,PyData.canLay0,PyData.depthAll,PyData.depth,q.1,q.2,e]
   exact⟨rfl,rfl⟩
end L2
namespace L2
open PySem PySem.Spec PyProof.Rows
abbrev aZ:Str:="abcdefghijklmnopqrstuvwxyz0123456789"
theorem Qik:Asc aZ:=by
 have h:(aZ.cps.toList.all fun c=>decide (c<128))=true:=by decide +kernel
 intro c hc
 exact qD (yd.mp h c hc)
structure Q6(x:Str):Prop where
 lo:1<=x.length
 hi:x.length<=20
 in_:∀c∈x.cps.toList,c∈aZ.cps.toList
theorem Q6.asc{x:Str}(h:Q6 x):Asc x:=fun c hc=>Qik c (h.in_ c hc)
theorem Qg7(ys:QpK):(Txt.join "" ys).cps.toList=(ys.map (·.cps.toList)).flatten:=by
 have key:∀(r:QpK)(acc:Array Nat),(r.foldl (fun acc p=>acc++("":Str).cps++p.cps) acc).toList=acc.toList++(r.map (·.cps.toList)).flatten:=by
  intro r
  induction r with
  | nil=>intro acc;simp
  | cons y r ih =>
    intro acc
    rw[List.foldl_cons,ih,z7,List.flatten_cons]
    have e:("":Str).cps=#[]:=by decide +kernel
    rw[e]
    simp
 cases ys with
 | nil=>rfl
 | cons y r=>exact(key r y.cps).trans (by rw[z7,List.flatten_cons])
theorem YH(x:Str):x.length=x.cps.toList.length:=by simp[Str.length]
theorem QcY{ys:QpK}(h:∀y∈ys,y.length=1):(Txt.join "" ys).length=ys.length:=by
 rw[YH,Qg7,List.length_flatten,zu]
 exact VY _ _ fun y hy=>by
  have:=h y hy
  rw[YH] at this
  exact this
theorem YJ(x y:Str):(x++y).cps.toList=x.cps.toList++y.cps.toList:=by show(x.cps++y.cps).toList=_;simp
theorem Qc4:("":Str).length=0:=by decide +kernel
def Qb5(z y:Str):Prop:=∃c,c∈z.cps.toList/\y=⟨#[c]⟩
theorem Qb5.len{z y:Str}(h:Qb5 z y):y.length=1:=by obtain⟨c,_,rfl⟩:=h;rfl
theorem QaT{z:Str}{ys:QpK}(h:∀y∈ys,Qb5 z y):(Txt.join "" ys).length=ys.length/\∀c∈(Txt.join "" ys).cps.toList,c∈z.cps.toList:=by
 refine⟨QcY fun y hy=>(h y hy).len,fun c hc=>?_⟩
 rw[Qg7] at hc
 obtain⟨l,hl,hcl⟩:=List.mem_flatten.mp hc
 obtain⟨y,hy,rfl⟩:=zq.mp hl
 obtain⟨d,hd,rfl⟩:=h y hy
 have:c=d:=by simpa using hcl
 rw[this];exact hd
theorem QeS{ys:QpK}(h:∀y∈ys,y.length=1)(hl:ys.length<=100000):(ys.map (·.length)).sum+ys.length*("":Str).length<=16777216:=by
 rw[VY _ _ h,Qc4];omega
theorem Qcq{z:Str}{i:Int}(h0:0<=i)(h1:i<(z.cps.toList.length:Int)):∃c,atI z.cps.toList i=some c/\c∈z.cps.toList:=by
 obtain⟨c,a,b,_⟩:=Qaa h0 h1
 exact⟨c,a,b⟩
end L2
namespace L2
open PySem PySem.Spec PyProof.Rows
end L2
namespace L2
open PySem PySem.Spec PyProof.Rows
end L2
namespace L2
open PySem PySem.Spec PyProof.Rows
structure W3(K:Frag)(x qual:Str)(st:Stmt)(f:Addr)(fd:FuncData):Prop where
 ex:∃(oc:Value)(od:Option Addr)(dV kV doc pm:Value)(an:Option Addr)(cdv ct:Value)(osl:Array (Option Value)),
  fd=fnOf x qual (Zf st) (QT st) (Qh st) dV kV doc pm an cdv ct/\K.lookup f=some ⟨oc,od,.func fd,osl⟩/\codeIn K cdv qual=true
 kp:keepIn K (.ref f)=true
theorem W3.ok{P:Program}{w:World}{K:Frag}{mg:Str->Option Value}{base:Heap}{x qual:Str}{st:Stmt}{f:Addr}{fd:FuncData}{N ps:QpK}{k:Nat}{sp:Sp}(F:W3 K x qual st f fd)(S:Qq N ps (Qh st))
 (len:∀vs H Q E,sp vs H Q E->vs.length=ps.length)
 (hbody:∀(cdv:Value)(A:Around)(outer:List Env)(s:Shared)(H:Hp)(vs:List V)(Q:VK)(E:XK),Qv k (A.deeper (envOfC qual (Qh st) s.heap.objs.size f cdv))->sp vs H Q E ->
   ∃t,PSs (Jc vV P w K mg base N qual (Qh st) f cdv A outer s H E).nox (QT st) t/\t { nx:=fun _ H'=>Q .non H',rt:=Q } (start N vs) H):QH P w K mg base vV (k+1) f fd ps sp:=by
 obtain⟨oc,od,dV,kV,doc,pm,an,cdv,ct,osl,rfl,lk,hcd⟩:=F.ex
 refine QbW lk hcd S len fun A outer s H vs Q E hr hsp=>?_
 obtain⟨t,h,q⟩:=hbody cdv A outer s H vs Q E hr hsp
 exact⟨t,h.nox,q⟩
theorem QgI{K:Frag}{x qual:Str}{st:Stmt}{f:Addr}{oc dV:Value}{od an:Option Addr}{osl:Array (Option Value)}{kV doc pm cdv ct:Value}(l:K.lookup f=some ⟨oc,od,.func (fnOf x qual (Zf st) (QT st) (Qh st) dV kV doc pm an cdv ct),osl⟩)
 (c:codeIn K cdv qual=true) (k:keepIn K (.ref f)=true):W3 K x qual st f (fnOf x qual (Zf st) (QT st) (Qh st) dV kV doc pm an cdv ct):=⟨⟨oc,od,dV,kV,doc,pm,an,cdv,ct,osl,rfl,l,c⟩,k⟩
theorem Kg{K:Frag}{H:Hp}{x y:V}{d:PyData}{Q:VK}(hx:RD K H x d)(hy:RD K H y d)(h:SeqAt.shaped d=true)(q:Q (.bl false) H):QdX K x y H Q :=
 ⟨d,d,hx,hy,h,h,by rw[SeqAt.eqv_refl d (SeqAt.canLay_of_shaped h)];exact q⟩
theorem Kw{K:Frag}{H:Hp}{x y:V}{d:PyData}{Q:VK}(hx:RD K H x d)(hy:RD K H y d)(h:SeqAt.shaped d=true)(q:Q (.bl true) H):QnG K x y H Q :=
 ⟨d,d,hx,hy,h,h,by rw[SeqAt.eqv_refl d (SeqAt.canLay_of_shaped h)];exact q⟩
end L2
namespace L2
open PySem PySem.Spec PyProof.Rows
open Builtin.Str in
theorem QgA(a b n:Nat):strSliceIndices (some (a:Int)) (some (b:Int)) 1 n=(List.range (min b n - min a n)).map (fun k=>min a n+k):=by
 have h1:¬((a:Int)<0):=by omega
 have h2:¬((b:Int)<0):=by omega
 have e1:max (0:Int) (min (a:Int) (n:Int))=((min a n:Nat):Int):=by omega
 have e2:max (0:Int) (min (b:Int) (n:Int))=((min b n:Nat):Int):=by omega
 simp only[strSliceIndices,sliceRange,h1,h2,jD,e1,e2,show((1:Int) > 0)=True from by simp,gD]
 by_cases hlt:((min a n:Nat):Int)<((min b n:Nat):Int)
 .have e3:((((min b n:Nat):Int) - ((min a n:Nat):Int)+1 - 1) / 1).toNat=min b n - min a n:=by first | omega | (simp;done) | (simp;omega)
  simp only[hlt,gD,e3]
  refine yV fun k _=>?_
  omega
 .have:min b n - min a n=0:=by omega
  simp[hlt,this]
open Builtin.Str in
theorem QaZ(u:Option Int)(n:Nat):strSliceIndices none u 1 n=strSliceIndices (some ((0:Nat):Int)) u 1 n:=by
 have e1:max (0:Int) (min (((0:Nat):Int)) (n:Int))=0:=by omega
 simp only[strSliceIndices,show ¬((((0:Nat):Int))<0) from by omega,jD,e1,show((1:Int) > 0)=True from by simp,gD]
open Builtin.Str in
theorem QaY(l:Option Int)(n:Nat):strSliceIndices l none 1 n=strSliceIndices l (some (n:Int)) 1 n:=by
 have e1:max (0:Int) (min (n:Int) (n:Int))=n:=by omega
 simp only[strSliceIndices,show ¬((n:Int)<0) from by omega,jD,e1,show((1:Int) > 0)=True from by simp,gD]
theorem We(x:Str)(a b:Nat):(Txt.slice x (some (a:Int)) (some (b:Int))).cps.toList=(x.cps.toList.drop a).take (b - a):=by
 have hl:=YH x
 unfold Txt.slice
 rw[QgA,qd,List.length_range]
 have hp:=StrLaws.picks x.cps.toList (min b x.length - min a x.length) (min a x.length) (by omega)
 have key:((List.range (min b x.length - min a x.length)).map (fun k=>min a x.length+k)).filterMap (x.cps[·]?)=(x.cps.toList.drop a).take (b - a):=by
  have e:(fun i:Nat=>x.cps[i]?)=(fun i:Nat=>x.cps.toList[i]?):=by funext i;simp
  rw[e,hp]
  by_cases h:a<=x.length
  .rw[jA (show a<=x.length from h)]
   by_cases h2:b<=x.length
   .rw[jA (show b<=x.length from h2)]
   .rw[uA (show x.length<=b by omega),zj (by rw[jh];omega),zj (by rw[jh];omega)]
  .rw[uA (show x.length<=a by omega),jB (by omega),jB (by omega),List.take_nil,List.take_nil]
 split
 .rename_i h
  have h':min b x.length - min a x.length=x.length:=by
   have:=(QkP.mp h).2
   exact qW.mp this
  rw[<-key,h']
  have e0:x.length=0\/min a x.length=0:=by omega
  rcases e0 with e0 | e0
  .have:x.cps.toList=[]:=List.eq_nil_of_length_eq_zero (by omega)
   rw[this,e0];rfl
  .have e:(fun i:Nat=>x.cps[i]?)=(fun i:Nat=>x.cps.toList[i]?):=by funext i;simp
   rw[e]
   have hp2:=StrLaws.picks x.cps.toList x.length 0 (by omega)
   rw[e0,hp2,jq,zj (by omega)]
 .rw[key]
theorem Wd(x:Str)(b:Nat):(Txt.slice x none (some (b:Int))).cps.toList=x.cps.toList.take b:=by
 have e:Txt.slice x none (some (b:Int))=Txt.slice x (some ((0:Nat):Int)) (some (b:Int)):=by unfold Txt.slice;rw[QaZ]
 rw[e,We,jq,Nat.sub_zero]
theorem Wf(x:Str)(a:Nat):(Txt.slice x (some (a:Int)) none).cps.toList=x.cps.toList.drop a:=by
 have e:Txt.slice x (some (a:Int)) none=Txt.slice x (some (a:Int)) (some (x.length:Int)):=by unfold Txt.slice;rw[QaY]
 rw[e,We,zj (by rw[jh,<-YH];omega)]
theorem QfG{x y:Str}(h:x.cps.toList=y.cps.toList):x=y:=by
 cases x;cases y
 have:=Array.toList_inj.mp h
 simp only at this
 rw[this]
theorem Qc8(x:Str)(b:Nat):(Txt.slice x none (some (b:Int))).length<=b:=by
 rw[YH,Wd,qK];omega
end L2
namespace L2
open PySem PySem.Spec PyProof.Rows
end L2
namespace L2
open PySem PySem.Spec PyProof.Rows
end L2
namespace L2
open PySem PySem.Spec PyProof.Rows
end L2
namespace L2
open PySem PySem.Spec PyProof.Rows
def leS(a b:Str):Bool:=!ltCps b.cps.toList a.cps.toList
theorem UP(a b:Str):leS a b=true↔¬b.cps.toList<a.cps.toList:=by
 unfold leS
 rw[ltCps_eq]
 simp
theorem XH(a b:Str):leS a b=true\/leS b a=true:=by
 rw[UP,UP]
 by_cases h:b.cps.toList<a.cps.toList
 .exact .inr (List.lt_asymm h)
 .exact .inl h
theorem QcR{a b c:Str}(h1:leS a b=true)(h2:leS b c=true):leS a c=true:=by
 rw[UP] at *
 intro h
 rcases strKind.negTrans c.cps.toList b.cps.toList a.cps.toList (by simpa using h) with z | z
 .exact h2 (by simpa using z)
 .exact h1 (by simpa using z)
theorem Kq{a b:Str}(h1:leS a b=true)(h2:leS b a=true):a=b:=by
 rw[UP] at *
 exact QfG (List.le_antisymm (List.not_lt.mp h1) (List.not_lt.mp h2))
theorem GW{prog:Program}{w:World}{A:Around}{E:QpL}{s:Shared}{T:String}{r d:Addr}{n:Nat}{P:Nat->Value->Prop}{OK:Heap->Prop}{R:QpM->Shared->Prop}
 (src:KdlSrc prog w T r d n P OK) (calm:A.handled=none) (ok:OK s.heap) (few:n<=sizeLine)
 (fin:∀(g:Heap)(k:Nat)(got:Array Value),(∀b o,s.heap.get? b=some o->g.get? b=some o)->s.heap.objs.size<g.objs.size->ItemsOf P got n->R got.toList { s with heap:=g,toks:=k }) :
 wpAny (model prog w) A (collect (.ref r)) R E s:=by
 obtain⟨lr,ld⟩:=src.there _ ok
 let new:Obj:={ cls:=.type "list",data:=.seq ([]:QpM).toArray }
 have there:(s.heap.push new).get? s.heap.objs.size=some new:=qN _ rfl
 have still:=src.keep _ _ ok (fun b _ o e=>qw (h:=s.heap) new e)
 have walked:=PySem.W.kdl_extend (A:=A) (s:={ s with heap:=s.heap.push new })
  (R:=fun q t=>∃(g:Heap)(k:Nat)(got:Array Value)(c:Nat),q=Except.ok (Flow.ret (.ref s.heap.objs.size))/\t={ s with heap:=g,toks:=k }/\(∀b o,s.heap.get? b=some o->g.get? b=some o) /\
    g.get? s.heap.objs.size=some { cls:=.type "list",dict:=none,data:=.seq got c,slots:=#[] }/\ItemsOf P got n)
  src calm still s.heap.objs.size (vM lr) (vM ld) (.ref s.heap.objs.size) 0 there
  (fun g k got c keep at' all=>⟨g,k,got,c,rfl,rfl,fun b o e=>keep b o (zp (qT e)) (qw _ e),at',all⟩) few
 have done:∀(g:Heap)(k:Nat)(got:Array Value)(c:Nat),(∀b o,s.heap.get? b=some o->g.get? b=some o)->g.get? s.heap.objs.size=some { cls:=.type "list",dict:=none,data:=.seq got c,slots:=#[] }->ItemsOf P got n ->
  wpAny (model prog w) A (do match (<-load s.heap.objs.size).data with
   | .seq xs _=>pure xs.toList
   | _=>unsupported "internal:collect") R E { s with heap:=g,toks:=k }:=fun g k got c keep at' all =>
  qb (wpAny_load at' (qx (fin g k got keep (qT at') all)))
 unfold collect
 apply qb
 apply wpAny_runValue
 apply QiH entry_proto_collect'
 rw[wC F.plain_proto_collect _]
 show wpAny _ A.in1 (newList [] >>= fun z=>again (.builtin "list.__iadd__" ⟨[z,.ref r],[]⟩)) _ _ s
 apply qb
 refine jN ?_
 apply qx
 refine⟨Qkd F.plain_list_iadd _,?_⟩
 apply QiH entry_list_iadd'
 rw[wC F.plain_list_iadd _]
 refine jM walked (fun f t q=>?_) (fun e t q=>?_)
 .cases f with
  | done f =>
    obtain⟨g,k,got,c,e,rfl,keep,at',all⟩:=q
    cases e
    exact done g k got c keep at' all
  | again c1 =>
    refine⟨q.1,wJ q.2 fun z t2 y=>?_⟩
    obtain⟨g,k,got,c,rfl,rfl,keep,at',all⟩:=y
    exact done g k got c keep at' all
 .obtain⟨_,_,_,_,e',_⟩:=q
  cases e'
end L2
namespace L2
open PySem PySem.Spec PyProof.Rows
theorem JL{K:Frag}{a:Addr}{α:Type}{xs:List α}{fr:List (Nat×Str)}{tt:TT}{te:TE}{σ:St}{H1:Hp}{Q:VK}(g:α->V)(pr:α->Bool)(f:α->V)(hz:xs.length<=sizeLine)(hS:jk K H1 a (xs.map g))
 (htt:∀(x:α)(H3:Hp)(Q':Bool->Hp->Prop),x∈xs->Qi H1 H3->Q' (pr x) H3->tt (some (g x) :: frV σ fr) H3 Q')
 (hte:∀(x:α)(H3:Hp)(Q':VK),x∈xs->Qi H1 H3->pr x=true->Q' (f x) H3->te (some (g x) :: frV σ fr) H3 Q')
 (hQ:∀D,H1 D=none->Q (.ref D) (upd H1 D (.lst ((xs.filter pr).map f)))) :
 Zj (Itl K a) fr tt te σ H1 Q:=by
 unfold Zj
 intro D hD
 refine⟨fun i m ys H2=>m=xs.length - i/\i<=xs.length/\ys=((xs.take i).filter pr).map f/\H2=upd H1 D (.lst ys),⟨xs.length,by simp,qP _,by simp,rfl⟩,?_⟩
 rintro i m ys H2 ⟨rfl,hi,rfl,rfl⟩
 refine⟨Qf,?_⟩
 have s1:Qi H1 (upd H1 D (.lst (((xs.take i).filter pr).map f))):=Qi.zT hD
 have hS2:=s1.seq hS
 by_cases hlt:i<xs.length
 .have hx0:(xs.map g)[i]?=some (g xs[i]):=by rw[qJ,qe hlt];rfl
  refine .inr ⟨⟨xs.map g,g xs[i],hS2,hx0⟩,?_⟩
  rintro v H3 ⟨rfl,hv⟩
  have hx:(xs.map g)[i]?=some v:=hv _ hS2
  rw[hx0] at hx
  cases hx
  have hm:xs[i]∈xs:=yZ hlt
  have et:xs.take (i+1)=xs.take i++[xs[i]]:=by rw[zb,qe hlt];rfl
  refine htt xs[i] _ _ hm s1 ?_
  cases hp:pr xs[i]
  .refine QD ⟨xs.length - (i+1),by omega,rfl,hlt,?_,rfl⟩
   rw[et,wK,Qi9,hp]
   simp
  .refine QE (hte xs[i] _ _ hm s1 hp ⟨Qf,?_,xs.length - (i+1),by omega,rfl,hlt,?_,XY⟩)
   .have:=xW pr (xs.take i)
    rw[qK] at this
    rw[qd]
    omega
   .rw[et,wK,Qi9,hp]
    simp
 .have e:i=xs.length:=by omega
  subst e
  have e2:xs.take xs.length=xs:=zj (qp _)
  refine .inl ⟨⟨xs.map g,hS2,by rw[qd];exact qp _⟩,?_⟩
  rw[e2]
  exact hQ D hD
end L2
namespace L2
open PySem PySem.Spec PyProof.Rows
end L2
namespace L2
open PySem PySem.Spec PyProof.Rows
end L2
namespace L2
open PySem PySem.Spec PyProof.Rows
end L2
namespace L2
open PySem PySem.Spec PyProof.Rows
end L2
namespace L2
open PySem PySem.Spec PyProof.Rows
section
variable {X:Cx}{pins:List (Addr×Obj)}{σ:St}{H:Hp}{s:Shared}{a:Addr}{oa:Obj}{kvs:List (Key×V)}
theorem Inv.freeze(I:Inv X pins σ H s)(e:H a=some (.dK kvs)):∃oa,Inv X pins σ (upd H a (.yR oa (.dK kvs))) s:=by
 obtain⟨z,y,vs,r,ob,es,ep,eo,c⟩:=(show QG X.prog X.w H s.heap a (.dK kvs) from I.hok a _ e)
 exact⟨ob,I.write (x:=a) (e:=a) (o:=.yR ob (.dK kvs)) (t':=s.toks) (h':=s.heap) (by rw[e];exact True.intro) (.inl rfl) (fun _ _ _ q=>q) ⟨ob,eo⟩ ⟨eo,z,y,vs,r,ob,es,ep,eo,c⟩⟩
end
def Itd(a:Addr)(oa:Obj)(kvs:List (Key×V)):It:=⟨fun i H=>H a=some (.yR oa (.dK kvs))/\i<kvs.length,fun i H x H'=>H'=H/\∃kv,kvs[i]?=some kv/\x=kV kv.1,fun i H=>H a=some (.yR oa (.dK kvs))/\kvs.length<=i⟩
theorem Yt{P:Program}{w:World}{H:Hp}{h:Heap}{a:Addr}{oa:Obj}{kvs:List (Key×V)}(ok:gq P w H h)(e:H a=some (.yR oa (.dK kvs))) :
 (a == sysModules)=false/\∃vs es ep,KV kvs vs/\oa.data=.dict es ep/\h.DictAt (QW P w) a vs ep:=by
 obtain⟨e1,z,y,vs,r,ob,es,ep,eo,c1,c2,c3⟩:=(show QG P w H h a (.yR oa (.dK kvs)) from ok a _ e)
 rw[e1] at eo
 cases eo
 exact⟨y,vs,es,ep,r,c2,oa,es,e1,c1,c2,c3⟩
theorem QfX{P:Program}{w:World}{k:Key}{u:Value}(e:(QW P w).is k u=true):QC (kV k) u:=by
 rcases Q0 (show WA k u=true from e) with⟨i,t,rfl,rfl⟩ | ⟨z,t,rfl,rfl⟩
 .exact⟨t,rfl⟩
 .exact⟨t,rfl⟩
theorem Qcc{P:Program}{w:World}{K:Frag}{tg:Expr}(a it:Addr)(oa:Obj)(kvs:List (Key×V))(es:Array DictEntry)(ep:Nat)(hd:oa.data=.dict es ep):Qa5 P w K tg (Itd a oa kvs) [it] it (fun i h=>h.IsKeyIter it a i kvs.length ep) where
 mem:=by simp
 obj:=fun i h st b hb=>by
  have e:b=it:=by simpa using hb
  subst e
  obtain⟨o,e,c,d⟩:=st
  exact⟨o,e,fun v z=>by rw[d] at z;cases z⟩
 keep:=fun i h h' st k=>by
  obtain⟨o,e,c⟩:=st
  exact⟨o,k it (by simp) o e,c⟩
 item:=by
  intro X hP hw hK hc i pins s σ H E I hf st hg
  subst hP hw hK
  obtain⟨hH,hlt⟩:=hg
  obtain⟨_,vs,es',ep',rv,hd',hm⟩:=Yt I.hok hH
  rw[hd] at hd'
  cases hd'
  have hl:=KV.length rv
  have st0:s.heap.IsKeyIter it a i vs.length ep:=by rw[<-hl];exact st
  obtain⟨f0,f1,f2,f3,f4,f5⟩:=hf it (by simp)
  refine wpAny_pyNext_dict_item (k:=(vs[i]'(by omega)).1) (v:=(vs[i]'(by omega)).2) st0 hm (qe (by omega)) fun key h' hk st' sb=>?_
  have I1:Inv X pins σ H { s with heap:=h' }:=I.turned (t':=s.toks) (fun b o hb e=>(sb.2 b hb).trans e) f0 f1 f3 f4 f5
  have ek:kvs[i].1=(vs[i]'(by omega)).1:=KV.at rv (qe hlt) (qe (by omega))
  rw[<-hl] at st'
  obtain⟨o,e,c,d⟩:=id st'
  exact⟨key,rfl,XL (s:={ s with heap:=h' }) e c d (by decide) ⟨kV kvs[i].1,H,I1,by rw[ek];exact QfX hk,⟨rfl,kvs[i],qe hlt,rfl⟩,st',fun b hb=>(hf b hb).1⟩⟩
 done:=by
  intro X hP hw hK hc i pins s σ H E I hf st hg
  subst hP hw hK
  obtain⟨hH,hge⟩:=hg
  obtain⟨_,vs,es',ep',rv,hd',hm⟩:=Yt I.hok hH
  rw[hd] at hd'
  cases hd'
  have hl:=KV.length rv
  have st0:s.heap.IsKeyIter it a i vs.length ep:=by rw[<-hl];exact st
  obtain⟨f0,f1,f2,f3,f4,f5⟩:=hf it (by simp)
  exact wpAny_pyNext_dict_end (I.ok.hd hc) st0 hm (xX (by omega)) fun h' eb=>⟨rfl,I.turned (t':=s.toks) (fun b o hb e=>eb b o hb e) f0 f1 f3 f4 f5⟩
 self:=fun _ _ _ _ _ st h=>wpAny_pyIter_keyiter st h
theorem GO{a:Addr}{oa:Obj}{kvs:List (Key×V)}{g:TG}{tb:TS}{D:JV}{σ:St}{H:Hp}(Pv:Nat->St->Hp->Prop)(h0:Pv 0 σ H)(hl:∀i σ H,i<=kvs.length->Pv i σ H->H a=some (.yR oa (.dK kvs)))
 (hs:∀i kv σ H,kvs[i]?=some kv->Pv i σ H->g (kV kv.1) σ H fun σ2 H2=>tb { D with nx:=Pv (i+1),ct:=Pv (i+1),bk:=D.nx } σ2 H2) (hd:∀σ H,Pv kvs.length σ H->D.nx σ H) :
 UY g tb D σ (Itd a oa kvs) H:=by
 refine⟨fun i m σ H=>m=kvs.length - i/\i<=kvs.length/\Pv i σ H,⟨kvs.length,by simp,qP _,h0⟩,?_⟩
 rintro i m σ H ⟨rfl,hi,p⟩
 have q:=hl i σ H hi p
 by_cases hlt:i<kvs.length
 .refine .inr ⟨⟨q,hlt⟩,Pv (i+1),fun σ' H' p'=>⟨kvs.length - (i+1),by omega,rfl,hlt,p'⟩,?_⟩
  rintro x H' ⟨rfl,kv,hkv,rfl⟩
  exact hs i kv σ _ hkv p
 .have e:i=kvs.length:=by omega
  subst e
  exact .inl ⟨⟨q,qp _⟩,hd σ H p⟩
end L2
namespace L2
open PySem PySem.Spec PyProof.Rows
end L2
namespace L2
open PySem PySem.Spec PyProof.Rows
theorem Qge{X:Cx}(K:Frag){e:Expr}{f:Str}{pos:Pos}{ta:TE}(he:PE X e ta)(hb:attributeBase e f X.env (eval e X.env)=eval e X.env)(hK:X.K=K:=by rfl):PE X (.Attribute e f pos) (tFld K ta f):=hK▸Jb he hb
section
variable {prs S:List PRow}{n:Str}{k:Nat}
end
end L2
namespace L2
open PySem PySem.Spec
section
variable {X:Cx}{pins:List (Addr×Obj)}{σ:St}{H:Hp}{s:Shared}{a:Addr}{kvs:List (Key×V)}{k:Key}{z:V}{u r:Value}{A:Around}{E:QpL}
end
section
variable {X:Cx}{o e f:Expr}{apos cpos:Pos}{td ty tx:TE}
end
def SX(x:Addr)(H H':Hp):Prop:=∀c o,c≠x->H c=some o->H' c=some o
theorem SX.of{x:Addr}{H H':Hp}(h:Qi H H'):SX x H H':=fun c o _ e=>h c o e
theorem SX.trans{x:Addr}{H H1 H2:Hp}(h:SX x H H1)(g:SX x H1 H2):SX x H H2:=fun c o n e=>g c o n (h c o n e)
end L2
namespace L2
open PySem PySem.Spec PyProof.Rows
section
variable {prog:Program}{w:World}{A:Around}{E:QpL}{s:Shared}
end
end L2
namespace L2
open PySem PySem.Spec PyProof.Rows
section
variable {prog:Program}{w:World}{A:Around}{E:QpL}{s:Shared}
end
end L2
namespace L2
open PySem PySem.Spec PyProof.Rows
section
variable {prog:Program}{w:World}{A:Around}{E:QpL}{s:Shared}{a it:Addr}{es:Array (Int×Value)}{ep:Nat}{t:SetTable}
end
end L2
namespace L2
open PySem PySem.Spec PyProof.Rows
section
variable {prog:Program}{w:World}{A:Around}{E:QpL}{s:Shared}{a it:Addr}{es:Array (Int×Value)}{ep:Nat}{t:SetTable}
end
end L2
namespace L2
open PySem PySem.Spec PyProof.Rows
section
variable {prog:Program}{w:World}{A:Around}{E:QpL}{s:Shared}
end
end L2
namespace L2
open PySem PySem.Spec PyProof.Rows
end L2
namespace L2
open PySem PySem.Spec PyProof.Rows
end L2
namespace L2
open PySem PySem.Spec PyProof.Rows
section
variable {prog:Program}{w:World}{A:Around}{E:QpL}{s:Shared}
end
end L2
namespace L2
open PySem PySem.Spec PyProof.Rows
end L2
namespace L2
open PySem PySem.Spec PyProof.Rows
inductive GM(R:(It->Hp->Prop))(x:V)(H1:Hp):Prop
 | mk:∀a kvs,x=.ref a->((∃oa,H1 a=some (.yR oa (.dK kvs))/\R (Itd a oa kvs) H1)\/(H1 a=some (.dK kvs)/\∀oa,R (Itd a oa kvs) (upd H1 a (.yR oa (.dK kvs)))))->GM R x H1
def Qh9(tl:TE):TI:=fun σ H R=>tl σ H fun x H1=>GM R x H1
theorem Gf{X:Cx}{tg l:Expr}{tl:TE}(hl:PE X l tl):PI X tg l (Qh9 tl):=by
 intro pins s σ H R I h
 refine j0 (hl pins s σ H _ I h) fun v s1 ⟨x,H1,I1,r1,q1⟩=>?_
 obtain⟨a,kvs,e,q⟩:=q1
 subst e
 cases r1
 obtain⟨oa,H2,I2,hH,q2⟩:∃(oa:Obj)(H2:Hp),Inv X pins σ H2 s1/\H2 a=some (.yR oa (.dK kvs))/\R (Itd a oa kvs) H2:=by
  rcases q with⟨oa,hH,q⟩ | ⟨hH,q⟩
  .exact⟨oa,H1,I1,hH,q⟩
  .obtain⟨oa,J⟩:=I1.freeze hH
   exact⟨oa,_,J,Qf,q oa⟩
 obtain⟨hlo,vs,es,ep,rv,hd,hm⟩:=Yt I2.hok hH
 have hn:=KV.length rv
 refine wpAny_pyIter_dict hlo hm ⟨s1.heap.objs.size,[s1.heap.objs.size],_,_,H2,rfl,I2.kept (t':=s1.toks) fun b o e=>qw _ e,Qcc a _ oa kvs es ep hd,⟨_,qN _ rfl,rfl,by rw[hn];rfl⟩,fun b hb=>?_,q2⟩
 obtain rfl:b=s1.heap.objs.size:=by simpa using hb
 exact I2.Ql4 (qp _) (I2.hok.fresh (qp _))
end L2
namespace L2
open PySem PySem.Spec PyProof.Rows
theorem GV{K:Frag}{a:Addr}{α:Type}{xs:List α}{fr:List (Nat×Str)}{tt:TT}{te:TE}{σ:St}{H1:Hp}{Q:VK}(g:α->V)(pr:α->Bool)(f:α->V)(hz:xs.length<=sizeLine)(hS:jk K H1 a (xs.map g))
 (htt:∀(x:α)(H3:Hp)(Q':Bool->Hp->Prop),x∈xs->Qi H1 H3->(∀H4,Qi H3 H4->Q' (pr x) H4)->tt (some (g x) :: frV σ fr) H3 Q')
 (hte:∀(x:α)(H3:Hp)(Q':VK),x∈xs->Qi H1 H3->pr x=true->(∀H4,Qi H3 H4->Q' (f x) H4)->te (some (g x) :: frV σ fr) H3 Q')
 (hQ:∀D H2,H1 D=none->Qi H1 H2->H2 D=some (.lst ((xs.filter pr).map f))->Q (.ref D) H2) :
 Zj (Itl K a) fr tt te σ H1 Q:=by
 intro D hD
 refine⟨fun i m ys H2=>m=xs.length - i/\i<=xs.length/\ys=((xs.take i).filter pr).map f/\Qi H1 H2/\H2 D=some (.lst ys),⟨xs.length,by simp,qP _,by simp,Qi.zT hD,Qf⟩,?_⟩
 rintro i m ys H2 ⟨rfl,hi,rfl,s2,d2⟩
 refine⟨d2,?_⟩
 have hS2:=s2.seq hS
 by_cases hlt:i<xs.length
 .have hx0:(xs.map g)[i]?=some (g xs[i]):=by rw[qJ,qe hlt];rfl
  refine .inr ⟨⟨xs.map g,g xs[i],hS2,hx0⟩,?_⟩
  rintro v H3 ⟨rfl,hv⟩
  have hx:(xs.map g)[i]?=some v:=hv _ hS2
  rw[hx0] at hx
  cases hx
  have hm:xs[i]∈xs:=yZ hlt
  have et:xs.take (i+1)=xs.take i++[xs[i]]:=by rw[zb,qe hlt];rfl
  refine htt xs[i] _ _ hm s2 fun H4 s4=>?_
  cases hp:pr xs[i] with
  | false =>
    refine QD ⟨xs.length - (i+1),by omega,rfl,hlt,?_,s2.trans s4,s4 _ _ d2⟩
    rw[et,wK,Qi9,hp]
    simp
  | true =>
    refine QE (hte xs[i] _ _ hm (s2.trans s4) hp fun H5 s5=>⟨s5 _ _ (s4 _ _ d2),?_,xs.length - (i+1),by omega,rfl,hlt,?_,((s2.trans s4).trans s5).QoN hD,Qf⟩)
    .have:=xW pr (xs.take i)
     rw[qK] at this
     rw[qd]
     omega
    .rw[et,wK,Qi9,hp]
     simp
 .have e:i=xs.length:=by omega
  subst e
  have e2:xs.take xs.length=xs:=zj (qp _)
  rw[e2] at d2
  exact .inl ⟨⟨xs.map g,hS2,by rw[qd];exact qp _⟩,hQ D H2 hD s2 d2⟩
end L2
namespace L2
open PySem PySem.Spec PyProof.Rows
theorem QG.there{P:Program}{w:World}{H:Hp}{h:Heap}{a:Addr}{o:HO}(x:QG P w H h a o):∃ob,h.get? a=some ob:=by
 cases o with
 | lst xs=>obtain⟨_,_,_,_,e⟩:=x;exact⟨_,e⟩
 | tup xs=>obtain⟨_,_,_,ob,e,_⟩:=x;exact⟨_,e⟩
 | dK kvs=>obtain⟨_,_,_,_,o,_,_,e,_⟩:=x;exact⟨_,e⟩
 | dT kvs=>obtain⟨_,_,_,_,o,_,_,e,_⟩:=x;exact⟨_,e⟩
 | set S n=>obtain⟨o,_,_,_,e,_⟩:=x;exact⟨_,e⟩
 | ins C dx fs=>obtain⟨_,_,_,e,_⟩:=x;exact⟨_,e⟩
 | own y=>exact x
 | xd fs=>obtain⟨_,⟨_,_,_,e,_⟩,_⟩:=x;exact⟨_,e⟩
 | rng lo hi=>obtain⟨_,_,_,e⟩:=x;exact⟨_,e⟩
 | yR ob u=>obtain⟨e,_⟩:=x;exact⟨_,e⟩
 | tbl ps=>exact⟨_,(show h.get? a=some _ from x)⟩
 | met f y=>exact⟨_,(show h.get? a=some _ from x)⟩
 | ext φ=>obtain⟨_,e,_⟩:=x;exact e
def Cov(fs:List Addr)(H:Hp)(h B:Heap):Prop:=∀b o,h.get? b=some o->b∉fs->∃o',B.get? b=some o'/\(H b=none->o'=o)
def Trk(H:Hp)(h B:Heap):Prop:=∀b o,H b≠none->h.get? b=some o->B.get? b=some o
theorem Un.flown{fs:List Addr}{H H':Hp}{h h1 h2 B:Heap}(u:Un fs [] H H' h h1)(cv:Cov fs H h B)(st:B.StaysIn h2)(sl:h1.UpToSlots h2)(fr:∀b∈fs,∀o,h1.get? b=some o->∀vs,o.data≠.fields vs):Un fs [] H H' h h2 where
 keep:=fun b o q n hb _=>by
  obtain⟨o',e,z⟩:=cv b o q hb
  rw[z n] at e
  exact st _ _ e
 slot:=fun b o q n hb hx=>by
  obtain⟨s0,e⟩:=u.slot b o q n hb hx
  obtain⟨s1,e1⟩:=sl b _ e (fr b hb _ e)
  exact⟨s1,e1⟩
 free:=u.free
 there:=fun b o q hx=>by
  by_cases hb:b∈fs
  .obtain⟨o1,e1⟩:=u.there b o q hx
   obtain⟨_,e2⟩:=sl b o1 e1 (fr b hb o1 e1)
   exact⟨_,e2⟩
  .obtain⟨o',e,_⟩:=cv b o q hb
   exact⟨o',st _ _ e⟩
 tups:=u.tups
 QiK:=u.QiK
 Qjf:=u.Qjf
theorem gq.flown{P:Program}{w:World}{H:Hp}{h1 h2 B:Heap}(x:gq P w H h1)(ct:Trk H h1 B)(st:B.StaysIn h2):gq P w H h2:=fun a o e =>
 (x a o e).stay (fun b u hb q=>st b u (ct b u (fun z=>by
   rcases hb with rfl | hb
   .rw[z] at e;cases e
   .rw[z] at hb;cases hb) q)) (fun _ q=>q) fun _ _ q=>q
theorem Trk.flown{P:Program}{w:World}{H:Hp}{h1 h2 B:Heap}(x:gq P w H h1)(ct:Trk H h1 B)(st:B.StaysIn h2):Trk H h2 B:=fun b o n q=>by
 cases e:H b with
 | none=>exact absurd e n
 | some u =>
   obtain⟨ob,eb⟩:=(x b u e).there
   have e1:=ct b ob n eb
   have e2:=st _ _ e1
   rw[q] at e2
   cases e2
   exact e1
structure Fly(P:Program)(w:World)(l:List Env)(H:Hp)(s:Shared)(e C:Addr)(H':Hp)(s':Shared):Prop where
 os:s'.os=s.os
 bare:AllBare s'.gens
 un:Un (frs l) [] H H' s.heap s'.heap
 hok:gq P w H' s'.heap
 fr:H' e=none
 nw:s.heap.get? e=none
 fly:∃(B:Heap)(a0:Value),Heap.FlyingW B l e (.ref C) a0 s'.heap/\Cov (frs l) H s.heap B/\Trk H' s'.heap B
def CXF(P:Program)(w:World):CXT:=fun l H s E ev s'=>∃(e C:Addr)(H':Hp),ev=.ref e/\Fly P w l H s e C H' s'/\E (.ref C) none H'
theorem Qeh{P:Program}{w:World}{X:Cx}:Yv (CXF P w) X E0:=fun _ _ _ _ _ _ _ ⟨_,_,_,_,_,h⟩=>h.elim
section
variable {X:Cx}{pins:List (Addr×Obj)}{σ:St}{Hc H':Hp}{sc:Shared}
theorem QbX{s1:Shared}{h2 B:Heap}{e C:Addr}{a0:Value}(I:Inv X pins σ Hc sc)(hex:X.ex=[])(un:Un (frs X.stack) [] Hc H' sc.heap s1.heap)(os:s1.os=sc.os)(bare:AllBare s1.gens)(hok:gq X.prog X.w H' s1.heap)
 (he:H' e=none) (nw:sc.heap.get? e=none) (fl:Heap.FlyingW B X.outer e (.ref C) a0 h2) (cv:Cov (frs X.stack) Hc sc.heap B) (ct:Trk H' s1.heap B) (sl:s1.heap.UpToSlots h2) (nf:∀b∈frs X.stack,∀o,s1.heap.get? b=some o->∀vs,o.data≠.fields vs) :
 Fly X.prog X.w X.outer X.H₀ X.s₀ e C H' { s1 with heap:=h2 }:=by
 have un2:=un.flown cv fl.1 sl nf
 have hok2:=hok.flown ct fl.1
 have J:Inv X pins σ H' { s1 with heap:=h2 }:=I.call' (s':={ s1 with heap:=h2 }) (ch:=[]) os un2 hok2 bare (fun b z=>nomatch z)
 have base:=J.base
 rw[hex] at base
 have base0:=I.base
 rw[hex] at base0
 refine⟨J.os,J.bare,base,J.hok,he,?_,B,a0,fl,fun b o e hb=>?_,ct.flown hok fl.1⟩
 .cases q:X.s₀.heap.get? e with
  | none=>rfl
  | some o =>
    obtain⟨o',e'⟩:=base0.there e o q (fun z=>nomatch z)
    rw[nw] at e'
    cases e'
 .obtain⟨o1,e1⟩:=base0.there b o e (fun z=>nomatch z)
  have nb:b∉frs X.stack:=fun z=>(qR.mp (I.Qkg b z)).elim (fun z=>absurd (zx (qT e) I.ok.above) (by rw[z];exact jT _)) hb
  obtain⟨o',e2,z⟩:=cv b o1 e1 nb
  refine⟨o',e2,fun n=>?_⟩
  have:=base0.keep b o e n hb (fun z=>nomatch z)
  rw[e1] at this
  cases this
  exact z (base0.free b o e n (fun z=>nomatch z))
end
section
variable {P:Program}{w:World}{K:Frag}{mg:Str->Option Value}{base:Heap}{N:QpK}{qual:Str}{scope:Scope}{f:Addr}{cd:Value}{A:Around}{outer:List Env}{s:Shared}{H:Hp}{E:XK}
theorem XB:Yv (CXF P w) (Jc (CXF P w) P w K mg base N qual scope f cd A outer s H E) E:=by
 intro pins σ Hc sc ev s1 I h
 obtain⟨e,C,H',rfl,F,q⟩:=h
 obtain⟨B,a0,fl,cv,ct⟩:=F.fly
 refine wpAny_leaves_onW (base:=B) I.ok.frames rfl fl fun h2 fl2 sl=>?_
 have nf:∀b∈frs (Jc (CXF P w) P w K mg base N qual scope f cd A outer s H E).stack,∀o,s1.heap.get? b=some o->∀vs,o.data≠.fields vs:=fun b hb o e=>by
  obtain⟨_,o1,e1,d⟩:=fl.2.2.1.mem hb
  rw[e] at e1
  cases e1
  exact d
 exact⟨e,C,H',rfl,QbX I rfl F.un F.os F.bare F.hok F.fr F.nw fl2 cv ct sl nf,q⟩
theorem Qe7{pins:List (Addr×Obj)}{σ:St}{H1:Hp}{s2:Shared}{e C:Addr}{h':Heap}{vs:QpM}(I:Inv (Jc (CXF P w) P w K mg base N qual scope f cd A outer s H E) pins σ H1 s2)(hx:Heap.MadeExcOf s2.heap h' e (.ref C) vs)(q:E (.ref C) none H1) :
 (Jc (CXF P w) P w K mg base N qual scope f cd A outer s H E).xe (.ref e) { s2 with heap:=h' }:=by
 have hB:(hideAll s2.heap (frs (Jc (CXF P w) P w K mg base N qual scope f cd A outer s H E).stack)).StaysIn s2.heap:=fun b o q=>of_hideAll _ q
 refine wpAny_leaves_madeW (h:=s2.heap) I.ok.frames rfl hB (PySem.W.funFrames_hide I.stack fun env he b hb=>QlM.mpr ⟨env,he,hb⟩) hx fun h2 t fl tup tn sl=>?_
 have un:Un (frs (Jc (CXF P w) P w K mg base N qual scope f cd A outer s H E).stack) [] H1 H1 s2.heap h':=Un.kept hx.keeps
 have he:H1 e=none:=by
  cases z:H1 e with
  | none=>rfl
  | some o =>
    obtain⟨ob,eb⟩:=(I.hok e o z).there
    rw[hx.new] at eb
    cases eb
 refine⟨e,C,H1,rfl,QbX (s1:={ s2 with heap:=h' }) I rfl un rfl I.bare (I.hok.kept hx.keeps) he hx.new fl (fun b o e hb=>⟨o,hideAll_get _ e hb,fun _=>rfl⟩) (fun b o n e=>?_) sl (fun b hb o e=>?_),q⟩
 .cases z:H1 b with
  | none=>exact absurd z n
  | some u =>
    obtain⟨ob,eb⟩:=(I.hok b u z).there
    have e1:=hx.keeps _ _ eb
    have e2:h'.get? b=some o:=e
    rw[e2] at e1
    cases e1
    exact hideAll_get _ eb fun hb=>n (I.Qkh b hb)
 .obtain⟨_,o1,e1,d⟩:=I.stack.mem hb
  have e2:h'.get? b=some o:=e
  rw[hx.keeps _ _ e1] at e2
  cases e2
  exact d
end
abbrev XF:QpM:=[.type "ValueError",.type "Exception",.type "BaseException",.type "object"]
structure Xcl(K:Frag)(C:Addr):Prop where
 q:excIn K C XF "ValueError.__new__"=true
inductive XObj(h:Heap)(C:Addr):Prop
 | mk:∀bm N nm q bs hdct sn sub ab col dd k0 k1 k2 k3 k5 mN,h.get? C=some (excClassObj nm q C N bs bm hdct sn sub ab col dd k0 k1 k2 k3 k5 "ValueError.__new__")->h.Ns N mN->mN "__init__"=none->OwnTail h XF bm->XObj h C
theorem Xcl.obj{K:Frag}{h:Heap}{C:Addr}(x:Xcl K C)(X:K.In h):XObj h C:=by
 have q:=x.q
 unfold excIn at q
 split at q
 .rename_i dd cd sl ho
  split at q
  .rename_i C' bm k0 k1 k2 k3 n k5 hm hs
   rw[jr,jr,jr,jr,jr] at q
   obtain⟨⟨⟨⟨⟨q1,q2⟩,q3⟩,q4⟩,q5⟩,q6⟩:=q
   have q1:=qW.mp q1
   have q2:=qW.mp q2
   rw[Bool.not_eq_true'] at q3
   obtain⟨a1,a2,a3,a4,a5,a6,a7,a8,a9,a10,a11⟩:=cd
   obtain⟨ls⟩:=sl
   dsimp only at hm q3 q5 q6 hs
   have q6:=qW.mp q6
   subst hm q3 hs q1 q2
   exact⟨bm,a4,a1,a5,a2,a6,a7,a8,a9,a10,dd,k0,k1,k2,k3,k5,_,X _ _ ho,.of_isNs (PySem.W.isNs_of_in X q5),PySem.W.nsMap_none_of_in X q5 q6,PySem.W.tail_of_in X q4⟩
  .cases q
 .cases q
def Qhr(C:Addr)(E:XK)(ta:TA):TS:=fun _ σ H=>ta σ H fun vs H1=>vs.length<=sizeLine/\E (.ref C) none H1
section
variable {P:Program}{w:World}{K:Frag}{mg:Str->Option Value}{base:Heap}{N:QpK}{qual:Str}{scope:Scope}{f:Addr}{cd:Value}{A:Around}{outer:List Env}{s:Shared}{H:Hp}{E:XK}
theorem Zi{x:Str}{C:Addr}{e₀:Expr}{rest:List Expr}{ta:TA}{np cpos pos:Pos}(c:Xcl K C)(hm:mg x=some (.ref C))(hh:A.handled=none)
 (hg:Gl (Jc (CXF P w) P w K mg base N qual scope f cd A outer s H E) x) (ha:PA (Jc (CXF P w) P w K mg base N qual scope f cd A outer s H E) (e₀ :: rest) ta)
 (hdb:(x == ("__debug__":Str))=false:=by decide)
 (he:starEach (e₀ :: rest) (Jc (CXF P w) P w K mg base N qual scope f cd A outer s H E).env=(false,eval e₀ (Jc (CXF P w) P w K mg base N qual scope f cd A outer s H E).env) :: starEach rest (Jc (CXF P w) P w K mg base N qual scope f cd A outer s H E).env:=by rfl)
 (hpl:(backTo cpos (starEach rest (Jc (CXF P w) P w K mg base N qual scope f cd A outer s H E).env)).any (·.1)=false:=by rfl) :
 PS (Jc (CXF P w) P w K mg base N qual scope f cd A outer s H E) (.Raise (some (.Call (.Name x np) (e₀ :: rest) [] cpos)) none pos) (Qhr C E ta):=by
 intro pins s0 σ H0 D I h
 obtain⟨tl,N1,nm,q,bs,hdct,sn,sub,ab,col,dd,k0,k1,k2,k3,k5,mN,hC,hN,hni,T⟩:=c.obj I.ok.mod.kin
 refine wpAny_Raise_call_subT (C:=C) (nm:=nm) (q:=q) (N:=N1) (bs:=bs) (bm:=tl) (hdct:=hdct) (sn:=sn) (sub:=sub) (ab:=ab) (col:=col) (dd:=dd) (k0:=k0) (k1:=k1) (k2:=k2) (k3:=k3) (k5:=k5)
  excBase_ValueError (mN:=mN) (T.hasType excBase_ValueError.hasBase) hh ?_ hni (Jn I hg hm ⟨rfl,?_⟩ hdb)
 .rw[he]
  show(false || (backTo cpos (starEach rest (Jc (CXF P w) P w K mg base N qual scope f cd A outer s H E).env)).any (·.1))=false
  rw[hpl]
  rfl
 .have h1:=ha cpos pins s0 σ H0 _ I h
  rw[he] at h1 ⊢
  refine Calls.evalArgs_plain (j0 h1 fun us s2 z=>?_)
  obtain⟨vs,H1,I2,r,z1,z2⟩:=z
  exact⟨rfl,by rw[<-r.length];exact z1,I2.bk _ _ hC,hN.keeps I2.bk,T.keeps I2.bk,fun h' e hx=>Qe7 I2 hx z2⟩
theorem jZ.okX{x:Str}{st:Stmt}{fd:FuncData}{ps:QpK}{k:Nat}{sp:Sp}(F:jZ K x qual st f fd)(S:Qq N ps (Qh st))(len:∀vs H Q E,sp vs H Q E->vs.length=ps.length)
 (hbody:∀(cdv:Value)(A:Around)(outer:List Env)(s:Shared)(H:Hp)(vs:List V)(Q:VK)(E:XK),Qv k (A.deeper (envOfC qual (Qh st) s.heap.objs.size f cdv))->sp vs H Q E ->
   ∃t,PSs (Jc (CXF P w) P w K mg base N qual (Qh st) f cdv A outer s H E) (QT st) t/\t { nx:=fun _ H'=>Q .non H',rt:=Q } (start N vs) H):QH P w K mg base (CXF P w) (k+1) f fd ps sp:=by
 obtain⟨oc,od,kV,doc,pm,an,cdv,ct,osl,rfl,lk,hcd⟩:=F.ex
 exact QbW lk hcd S len fun A outer s H vs Q E hr hsp=>hbody cdv A outer s H vs Q E hr hsp
end
def Y1(CX:CXT)(X:Cx)(R:St->XK):Prop:=∀(pins:List (Addr×Obj))(σ:St)(H:Hp)(s:Shared)(e:Value)(s':Shared),Inv X pins σ H s->CX X.stack H s (R σ) e s'->X.xe e s'
def Qhy(sp:Sp)(wk:List V)(R:St->XK)(t:TA):TE:=fun σ H Q=>t σ H fun vs H1=>sp (vs++wk) H1 Q (R σ)
inductive KS(C:Addr)(m:Str)(sp:Sp)(wk:List V)(R:St->XK)(t:TA)(σ:St)(Q:VK)(x:V)(H1:Hp):Prop
 | mk:∀a dx fs,x=.ref a->H1 a=some (.ins C dx fs)->fs.lookup m=none->(t σ H1 fun vs H2=>sp (x :: (vs++wk)) H2 Q (R σ))->KS C m sp wk R t σ Q x H1
def Qhs(C:Addr)(m:Str)(sp:Sp)(wk:List V)(R:St->XK)(ta:TE)(t:TA):TE:=fun σ H Q=>ta σ H fun x H1=>KS C m sp wk R t σ Q x H1
def Qht(C:Addr)(sp:Sp)(wk:List V)(R:St->XK)(t:TA):TE:=fun σ H Q=>t σ H fun vs H1=>∀x dx,H1 x=none->H1 dx=none->dx≠x ->
 sp (.ref x :: (vs++wk)) (upd (upd H1 dx (.own x)) x (.ins C dx [])) (fun v H2=>v=.non/\Q (.ref x) H2) (R σ)
section
variable {X:Cx}{CX:CXT}{k:Nat}{f C:Addr}{fd:FuncData}{ps:QpK}{sp:Sp}{wk:List V}{ds:QpM}{R:St->XK}{x m:Str}{p pos apos:Pos}{e o:Expr}{es:List Expr}{ta:TE}{t:TA}
theorem Qbo{pins:List (Addr×Obj)}{σ:St}{H:Hp}{s:Shared}{Q:VK}{us:QpM}{vs:List V}(F:QH X.prog X.w X.K X.mg X.base CX k f fd ps sp)(hr:Qv k X.A)(hb:Qw X.K fd ps ds)(hd:Qx wk ds)(hx:Y1 CX X R)
 (I:Inv X pins σ H s) (r:Qx vs us) (h:sp (vs++wk) H Q (R σ)):wpAny (model X.prog X.w) X.A (call (.ref f) us) (EP X pins σ Q) X.xe s:=by
 have r2:Qx (vs++wk) (us++ds):=r.append hd
 have hl:(us++ds).length=ps.length:=by rw[<-r2.length];exact F.len _ _ _ _ h
 refine wpAny_call (wJ (F.run X.A X.stack s H ⟨us,[]⟩ (us++ds) (vs++wk) Q (R σ) hr I.env0 (hb s us I.uM hl) r2 h) fun r s' hq=>?_)
 cases r with
 | error e=>exact hx pins σ H s e s' I hq
 | ok fl=>cases fl with
   | ret u=>exact I.after hq
   | _=>exact False.elim hq
theorem Gk(F:QH X.prog X.w X.K X.mg X.base CX k f fd ps sp)(hr:Qv k X.A)(hg:Gl X x)(hm:X.mg x=some (.ref f))(hk:keepIn X.K (.ref f)=true)(hb:Qw X.K fd ps ds)(hd:Qx wk ds)(hx:Y1 CX X R)
 (ha:PA X (e :: es) t) (hdb:(x == ("__debug__":Str))=false:=by decide) (he:starEach (e :: es) X.env=(false,eval e X.env) :: starEach es X.env:=by rfl) (hpl:(backTo pos (starEach es X.env)).any (·.1)=false:=by rfl) :
 PE X (.Call (.Name x p) (e :: es) [] pos) (Qhy sp wk R t):=by
 intro pins s σ H Q I h
 refine jC (Jn I hg hm (callWith_K (h₀:=X.base) I.ok.mod.kin hk (j0 (ha pos pins s σ H _ I h) fun us s1 ⟨vs,H1,I1,r,q⟩=>⟨I1.uM,Qbo F hr hb hd hx I1 r q⟩) he hpl) hdb)
theorem Gi{pl:Sem Bool}(he:PE X o ta)(c:Cls X.K C)(hm:W2 X.K C m f)(F:QH X.prog X.w X.K X.mg X.base CX k f fd ps sp)(hr:Qv k X.A)(hb:Qw X.K fd ps ds)(hd:Qx wk ds)(hx:Y1 CX X R)(ha:PA X (e :: es) t)
 (hst:starEach (e :: es) X.env=(false,eval e X.env) :: starEach es X.env:=by rfl) (hpl:(backTo pos (starEach es X.env)).any (·.1)=false:=by rfl)
 (ht:eval (.Call (.Attribute o m apos) (e :: es) [] pos) X.env=(do
   let ov <-eval o X.env
   standAt apos.atName
   let (f,first) <-holding [ov] (getMethod ov m pl)
   callWith pos f first (backTo pos (starEach (e :: es) X.env)) (backToKw pos (keywordEach [] X.env))):=by rfl) :
 PE X (.Call (.Attribute o m apos) (e :: es) [] pos) (Qhs C m sp wk R ta t):=by
 intro pins s σ H Q I h
 refine methodCall_KW (pl:=pl) (j0 (he pins s σ H _ I h) fun u s1 ⟨x,H1,I1,rx,a,dx,fs,ex,ea,l,q⟩=>?_) ht
 subst ex
 obtain rfl:u=Value.ref a:=rx
 refine Uk I1 ea c hm l ?_
 refine callWith_K (first:=[.ref a]) (h₀:=X.base) I.ok.mod.kin hm.kp (j0 (ha pos pins s1 σ H1 _ I1 q) fun us s2 ⟨vs,H2,I2,r,q2⟩=>⟨I2.uM,?_⟩) hst hpl
 exact Qbo (us:=.ref a :: us) (vs:=.ref a :: vs) F hr hb hd hx I2 (.cons rfl r) q2
theorem Qcj{pins:List (Addr×Obj)}{σ:St}{H:Hp}{s:Shared}{Q:VK}{us:QpM}{vs:List V}(M:Mk X.K C f)(F:QH X.prog X.w X.K X.mg X.base CX k f fd ps sp)(hr:Qv (k+1) X.A)(hb:Qw X.K fd ps ds)(hd:Qx wk ds)
 (hx:Y1 CX X R) (I:Inv X pins σ H s) (r:Qx vs us)
 (h:∀x dx,H x=none->H dx=none->dx≠x->sp (.ref x :: (vs++wk)) (upd (upd H dx (.own x)) x (.ins C dx [])) (fun v H2=>v=.non/\Q (.ref x) H2) (R σ)) :
 wpAny (model X.prog X.w) X.A (call (.ref C) us) (EP X pins σ Q) X.xe s:=by
 have hq:=h (s.heap.objs.size+1) s.heap.objs.size (I.hok.fresh (yo _)) (I.hok.fresh (qp _)) (zp (yW _))
 have I2:=Inv.made (C:=C) I
 have r2:Qx (V.ref (s.heap.objs.size+1) :: (vs++wk)) (Value.ref (s.heap.objs.size+1) :: (us++ds)):=.cons rfl (r.append hd)
 have hl:(Value.ref (s.heap.objs.size+1) :: us++ds).length=ps.length:=by
  have e:=r2.length
  rw[F.len _ _ _ _ hq] at e
  exact e.symm
 refine wpAny_call (GE (f:=f) I.uM M.makes M.init (qW.mp M.fn) (wJ (F.run _ X.stack _ _ ⟨Value.ref (s.heap.objs.size+1) :: us,[]⟩ (Value.ref (s.heap.objs.size+1) :: (us++ds)) _ _ (R σ) (hr.make C us [])
  (I2.env0.make C us []) (hb _ (Value.ref (s.heap.objs.size+1) :: us) I2.uM hl) r2 hq) fun r s' hq'=>?_))
 cases r with
 | error e=>exact hx pins σ _ _ e s' I2 hq'
 | ok fl =>
   cases fl with
   | ret u =>
     obtain⟨v,H',I3,rv,ev,q3⟩:=I2.after hq'
     subst ev
     exact⟨rv,⟨V.ref (s.heap.objs.size+1),H',I3,rfl,q3⟩⟩
   | next=>exact False.elim hq'
   | brk=>exact False.elim hq'
   | cont=>exact False.elim hq'
theorem Qec(M:Mk X.K C f)(F:QH X.prog X.w X.K X.mg X.base CX k f fd ps sp)(hr:Qv (k+1) X.A)(hg:Gl X x)(hm:X.mg x=some (.ref C))(hb:Qw X.K fd ps ds)(hd:Qx wk ds)(hx:Y1 CX X R)
 (ha:PA X (e :: es) t) (hdb:(x == ("__debug__":Str))=false:=by decide) (he:starEach (e :: es) X.env=(false,eval e X.env) :: starEach es X.env:=by rfl) (hpl:(backTo pos (starEach es X.env)).any (·.1)=false:=by rfl) :
 PE X (.Call (.Name x p) (e :: es) [] pos) (Qht C sp wk R t):=by
 intro pins s σ H Q I h
 refine jC (Jn I hg hm ?_ hdb)
 refine callWith_K (h₀:=X.base) I.ok.mod.kin M.kp (j0 (ha pos pins s σ H _ I h) fun us s1 ⟨vs,H1,I1,r,q⟩=>⟨I1.uM,?_⟩) he hpl
 exact Qcj M F hr hb hd hx I1 r q
end
def mroIn(K:Frag)(C D:Addr):Bool:=match K.lookup C with
 | some ⟨_,_,.cls cd,_⟩=>cd.mro.contains (.ref D)
 | _=>false
structure Sub(K:Frag)(C D:Addr):Prop where
 c:Xcl K C
 s:mroIn K C D=true
theorem Sub.has{K:Frag}{h:Heap}{C D N:Addr}(x:Sub K C D)(X:K.In h){nm q:Str}{bs bm:QpM}{hdct:Bool}{sn:QpK}{sub:QpM}{ab:Bool}{col:Option Bool}{dd:Option Addr}{k0 k1 k2 k3 k5:Option Value}{newId:String}
 (hC:h.get? C=some (excClassObj nm q C N bs bm hdct sn sub ab col dd k0 k1 k2 k3 k5 newId)):(Value.ref C :: bm).contains (.ref D)=true:=by
 have s:=x.s
 unfold mroIn at s
 split at s
 .rename_i ho
  have e:=X _ _ ho
  rw[hC] at e
  cases e
  exact s
 .cases s
theorem GD{M:Model}{A:Around}{E:QpL}{h:Heap}{g:Array GenState}{d:Drawn}{t:Nat}{os:OsState}{e C D N N':Addr}{oe:Obj}{Q:Bool->Shared->Prop}
 {nm q nm' q':Str} {bs bm bs' bm':QpM} {hdct Qov:Bool} {sn sn':QpK} {sub sub':QpM} {ab ab':Bool} {col col':Option Bool} {dd dd':Option Addr} {k0 k1 k2 k3 k5 l0 l1 l2 l3 l5:Option Value} {newId newId':String}
 (hC:h.get? C=some (excClassObj nm q C N bs bm hdct sn sub ab col dd k0 k1 k2 k3 k5 newId)) (hD:h.get? D=some (excClassObj nm' q' D N' bs' bm' Qov sn' sub' ab' col' dd' l0 l1 l2 l3 l5 newId')) (he:h.get? e=some oe) (hcls:oe.cls=.ref C)
 (hbase:bm'.contains (.type "BaseException")=true) (hsub:(Value.ref C :: bm).contains (.ref D)=true) (hq:Q true ⟨h,g,d,t,os⟩):wpAny M A (excMatches (.ref e) (.ref D)) Q E ⟨h,g,d,t,os⟩:=by
 have hB:(Value.ref D :: bm').contains (.type "BaseException")=true:=by rw[List.contains_cons,hbase,Bool.or_true]
 have f:=tc_notTuple
 unfold excMatches
 repeat (first | (with_reducible refine wpAny_loadPart_at he ?_;rw[hcls]) | (with_reducible refine wpAny_loadPart_at hD ?_) | (with_reducible refine wpAny_isSubtype_exc hD ?_;rw[hB]) | (with_reducible refine wpAny_isSubtype_exc hC ?_;rw[hsub]) | wp_step)
 exact hq
def KO(X:Cx)(pn:List (Addr×Obj))(R:St->XK):Cx:={ X with pn:=X.pn++pn,xe:=fun ev s'=>∃(σ:St)(Hc:Hp)(sc:Shared)(e C:Addr)(H':Hp),ev=.ref e/\Inv X pn σ Hc sc/\Fly X.prog X.w X.stack Hc sc e C H' s'/\R σ (.ref C) none H' }
def hnd(X:Cx)(ev:Value):Cx:={ X with A:=X.A.mark (some ev),calm:=false,xe:=fun _ _=>False }
section
variable {X:Cx}{pins QiU:List (Addr×Obj)}{σ:St}{H:Hp}{s:Shared}{R:St->XK}
theorem Inv.intry(I:Inv X pins σ H s):Inv (KO X pins R) [] σ H s :=
 ⟨⟨I.ok.mod,I.ok.kind,I.ok.glob,I.ok.blt,I.ok.above,I.ok.inj,I.ok.has,I.ok.cab,I.ok.hd,I.ok.frames,I.ok.stk,I.ok.exf,I.ok.bs,I.ok.bsz,I.ok.QkX,I.ok.Qk6,I.ok.Qf3,I.ok.frf⟩,I.os,I.bare,I.base,I.loc,I.cell,I.free,I.vU,fun p hp=>I.pin p (by
   rw[j5] at hp
   exact hp),I.hok,I.len⟩
theorem Inv.Qjj(I:Inv (KO X pins R) QiU σ H s):Inv X pins σ H s :=
 ⟨⟨I.ok.mod,I.ok.kind,I.ok.glob,I.ok.blt,I.ok.above,I.ok.inj,I.ok.has,I.ok.cab,I.ok.hd,I.ok.frames,I.ok.stk,I.ok.exf,I.ok.bs,I.ok.bsz,I.ok.QkX,I.ok.Qk6,I.ok.Qf3,I.ok.frf⟩,I.os,I.bare,I.base,I.loc,I.cell,I.free,I.vU,fun p hp=>I.pin p (zA _ hp),I.hok,I.len⟩
theorem Inv.inhnd(I:Inv X pins σ H s)(ev:Value):Inv (hnd X ev) pins σ H s :=
 ⟨⟨I.ok.mod,I.ok.kind,I.ok.glob,I.ok.blt,I.ok.above,I.ok.inj,I.ok.has,I.ok.cab,(fun z=>nomatch z),I.ok.frames,I.ok.stk,I.ok.exf,I.ok.bs,I.ok.bsz,I.ok.QkX,I.ok.Qk6,I.ok.Qf3,I.ok.frf⟩,I.os,I.bare,I.base,I.loc,I.cell,I.free,I.vU,I.pin,I.hok,I.len⟩
theorem Inv.Qkl{ev:Value}(ok:X.Ok)(I:Inv (hnd X ev) pins σ H s):Inv X pins σ H s :=
 ⟨ok,I.os,I.bare,I.base,I.loc,I.cell,I.free,I.vU,I.pin,I.hok,I.len⟩
theorem SP.Qjj{D:JV}{f:Flow}(h:SP (KO X pins R) QiU D f s):SP X pins D f s:=by
 cases f with
 | ret u=>obtain⟨v,σ',H',I,r,q⟩:=h;exact⟨v,σ',H',I.Qjj,r,q⟩
 | _=>obtain⟨σ',H',I,q⟩:=h;exact⟨σ',H',I.Qjj,q⟩
theorem SP.Qkl{ev:Value}{D:JV}{f:Flow}(ok:X.Ok)(h:SP (hnd X ev) pins D f s):SP X pins D f s:=by
 cases f with
 | ret u=>obtain⟨v,σ',H',I,r,q⟩:=h;exact⟨v,σ',H',I.Qkl ok,r,q⟩
 | _=>obtain⟨σ',H',I,q⟩:=h;exact⟨σ',H',I.Qkl ok,q⟩
theorem Qeg{pn:List (Addr×Obj)}:Y1 (CXF X.prog X.w) (KO X pn R) R:=by
 intro pins σ H s ev s' I h
 obtain⟨e,C,H',rfl,F,q⟩:=h
 exact⟨σ,H,s,e,C,H',rfl,I.Qjj,F,q⟩
theorem Fly.inv{e C:Addr}{H':Hp}{s1:Shared}{B h2:Heap}{l:List Env}{a0:Value}(F:Fly X.prog X.w X.stack H s e C H' s1)(I:Inv X pins σ H s)(fl:Heap.FlyingW B X.stack e (.ref C) a0 s1.heap)(cv:Cov (frs X.stack) H s.heap B)(ct:Trk H' s1.heap B)
 (st:B.StaysIn h2) (sl:s1.heap.UpToSlots h2):Inv X pins σ H' { s1 with heap:=h2 } :=
 I.call' (s':={ s1 with heap:=h2 }) (ch:=[]) F.os (F.un.flown cv st sl fun b hb o e=>by
  obtain⟨_,o1,e1,d⟩:=fl.2.2.1.mem hb
  rw[e] at e1
  cases e1
  exact d) (F.hok.flown ct st) F.bare (fun b z=>nomatch z)
end
def tTryX(R:St->XK)(tb ts:TS):TS:=fun D σ H=>(∀σ' C H',R σ' (.ref C) none H'->ts D σ' H')/\tb D σ H
theorem Kd{X:Cx}{body:List Stmt}{x:Str}{D:Addr}{b₀:Stmt}{suite:List Stmt}{np hpos pos:Pos}{R:St->XK}{tb ts:TS}(hg:Gl X x)(hm:X.mg x=some (.ref D))(d:Xcl X.K D)(hst:X.stack=X.env :: X.outer)(hf:X.env.frame=some X.env.locals)
 (hsub:∀σ C H,R σ (.ref C) none H->Sub X.K C D) (hb:∀pn,PSs (KO X pn R) body tb) (hs:∀ev,PSs (hnd X ev) (b₀ :: suite) ts) (hdb:(x == ("__debug__":Str))=false:=by decide) :
 PS X (.Try body [.ExceptHandler (some (.Name x np)) none (b₀ :: suite) hpos] [] [] pos) (tTryX R tb ts):=by
 intro pins s σ H Dd I h
 obtain⟨hh,hq⟩:=h
 refine wpAny_Try_except (jM (hb pins [] s σ H Dd I.intry hq) (fun f s₁ h₁=>?_) fun ev s₁ h₁=>?_)
 .have h2:SP X pins Dd f s₁:=SP.Qjj h₁
  cases f with
  | next=>rw[arm_execs_nil];exact qx h2
  | _=>exact h2
 .obtain⟨σ',Hc,sc,e,C,H',rfl,Ic,F,q⟩:=h₁
  obtain⟨B,a0,fl,cv,ct⟩:=F.fly
  have fr:X.A.frames=some (X.env :: X.outer):=by rw[I.ok.frames,hst]
  have fl':=fl
  rw[hst] at fl'
  refine wpAny_looks_onW fr hf fl' fun h4 hheld hsm4=>?_
  refine wpAny_landsW hheld fun h5 fl5 hsm5=>?_
  have J5:Inv X pins σ' H' { s₁ with heap:=h5 }:=F.inv (l:=X.stack) Ic fl cv ct fl5.1 (hsm4.trans hsm5)
  refine wpAny_handleBy_cons (codeAny_handlers_test ?_) (by intro q;cases q)
  refine Qi8 I.ok.kind hg (Calls.loadGlobal_global (by rw[I.ok.glob];exact I.mod.glob.keeps J5.bk) hm ?_) hdb
  have sb:=hsub σ' C H' q
  obtain⟨bm,N,nm,qn,bs,hdct,sn,sub,ab,col,dd,k0,k1,k2,k3,k5,mN,hC,hN,hni,TL⟩:=sb.c.obj J5.uM
  obtain⟨bm',N',nm',qn',bs',Qov,sn',sub',ab',col',dd',l0,l1,l2,l3,l5,mN',hD,hN',hni',TL'⟩:=d.obj J5.uM
  obtain⟨ob,hob,hobc⟩:=fl5.there
  refine GD hC hD hob hobc (TL'.hasType excBase_ValueError.hasBase) (sb.has J5.uM hC) ?_
  refine codeAny_handlers_suite ?_
  refine lands_againW fl5 fun h6 fl6 hsm6=>?_
  have J6:Inv X pins σ' H' { s₁ with heap:=h6 }:=F.inv (l:=X.stack) Ic fl cv ct fl6.1 ((hsm4.trans hsm5).trans hsm6)
  exact jM (hs (.ref e) pins _ σ' H' Dd (J6.inhnd _) (hh σ' C H' q)) (fun f s2 z=>SP.Qkl I.ok z) fun _ _ z=>z.elim
end L2
namespace L2
open PySem PySem.Spec PyProof.Rows
theorem Zy{t u:TS}{D:JV}{σ:St}{H:Hp}(h:∀N:St->Hp->Prop,N=u D->t { D with nx:=N } σ H):Qnz t u D σ H:=h _ rfl
theorem QeE{K:Frag}{C D:Addr}(e:PySem.W.mroIn K C (.ref D)=some true):L2.mroIn K C D=true:=by
 unfold PySem.W.mroIn PySem.W.clsIn at e
 unfold L2.mroIn
 cases h:K.lookup C with
 | none=>rw[h] at e;cases e
 | some o =>
   rw[h] at e
   obtain⟨c,d,dat,sl⟩:=o
   cases dat with
   | cls cd =>
     obtain⟨cd',e1,e2⟩:=Option.bind_eq_some_iff.mp e
     cases e1
     split at e2
     .cases e2
     .exact zg e2
   | _=>cases e
theorem W3.okX{P:Program}{w:World}{K:Frag}{mg:Str->Option Value}{base:Heap}{x qual:Str}{st:Stmt}{f:Addr}{fd:FuncData}{N ps:QpK}{k:Nat}{sp:Sp}(F:W3 K x qual st f fd)(S:Qq N ps (Qh st))(len:∀vs H Q E,sp vs H Q E->vs.length=ps.length)
 (hbody:∀(cdv:Value)(A:Around)(outer:List Env)(s:Shared)(H:Hp)(vs:List V)(Q:VK)(E:XK),Qv k (A.deeper (envOfC qual (Qh st) s.heap.objs.size f cdv))->sp vs H Q E ->
   ∃t,PSs (Jc (CXF P w) P w K mg base N qual (Qh st) f cdv A outer s H E) (QT st) t/\t { nx:=fun _ H'=>Q .non H',rt:=Q } (start N vs) H):QH P w K mg base (CXF P w) (k+1) f fd ps sp:=by
 obtain⟨oc,od,dV,kV,doc,pm,an,cdv,ct,osl,rfl,lk,hcd⟩:=F.ex
 exact QbW lk hcd S len fun A outer s H vs Q E hr hsp=>hbody cdv A outer s H vs Q E hr hsp
end L2
set_option maxHeartbeats 400000
namespace L2
open PySem PySem.Spec PyProof.Rows
open PySem.Builtin PySem.Builtin.ObjectAttr PySem.Builtin.Getset_descriptor
section
variable {prog:Program}{w:World}{A:Around}{E:QpL}{K:Frag}{x C:Addr}{h:Heap}{g:Array GenState}{d:Drawn}{t:Nat}{os:OsState}
end
end L2
set_option maxHeartbeats 4000000
namespace L2
open PySem PySem.Spec PyProof.Rows
section
variable {X:Cx}{pins:List (Addr×Obj)}{σ:St}{H:Hp}{s:Shared}
end
end L2
set_option maxHeartbeats 400000
namespace L2
open PySem PySem.Spec PyProof.Rows
end L2
namespace L2
open PySem PySem.Spec PyProof.Rows
end L2
namespace L2
open PySem PySem.Spec PyProof.Rows
section
variable {X:Cx}{k:Nat}{f:Addr}{fd:FuncData}{ps:QpK}{sp:Sp}{wk:List V}{ds:QpM}{E:XK}{x:Str}{p pos:Pos}{e:Expr}{es:List Expr}{t:TA}
end
end L2
namespace L2
open PySem PySem.Spec PyProof.Rows
section
variable {X:Cx}{o e:Expr}{es:List Expr}{to:TE}{t:TA}{name:Str}{apos cpos:Pos}{T id:String}{r:V->List V->Hp->VK->Prop}
end
end L2
set_option maxHeartbeats 4000000
namespace L2
open PySem PySem.Spec PyProof.Rows
end L2
namespace L2
open PySem PySem.Spec PyProof.Rows
end L2
namespace L2
open PySem PySem.Spec PyProof.Rows
def zZ{α:Type}(lt:Nat->Nat->Bool):W.KasT α->α
 | .ret a=>a
 | .ask i j k=>zZ lt (k (lt i j))
inductive InT{α:Type}(n:Nat)(R:α->Prop):W.KasT α->Prop
 | ret {a:α} (h:R a):InT n R (.ret a)
 | ask {i j:Nat} {k:Bool->W.KasT α} (hi:i<n) (hj:j<n) (h:∀b,InT n R (k b)):InT n R (.ask i j k)
theorem InT.end_{α:Type}{n:Nat}{R:α->Prop}{lt:Nat->Nat->Bool}{t:W.KasT α}(h:InT n R t):R (zZ lt t):=by
 induction h with
 | ret h=>exact h
 | ask _ _ _ ih=>exact ih _
theorem InT.wp{α:Type}{n:Nat}{R:α->Prop}{lt:Nat->Nat->Bool}{cmp:Nat->Nat->(Bool->Shared->Prop)->Shared->Prop}{s:Shared}{post:α->Shared->Prop}(hc:∀(i j:Nat)(C:Bool->Shared->Prop),i<n->j<n->C (lt i j) s->cmp i j C s):∀{t:W.KasT α},InT n R t->post (zZ lt t) s->W.KasT.kasWp cmp t post s
 | _,.ret _,hp=>hp
 | .ask i j k,.ask hi hj h,hp=>hc i j _ hi hj (InT.wp hc (h _) hp)
theorem InT.bind{α β:Type}{n:Nat}{R:α->Prop}{R':β->Prop}{f:α->W.KasT β}(hf:∀a,R a->InT n R' (f a)):∀{t:W.KasT α},InT n R t->InT n R' (t.bind f)
 | _,.ret h=>hf _ h
 | _,.ask hi hj h=>.ask hi hj fun b=>InT.bind hf (h b)
def Jd(n:Nat)(p:Array Nat):Prop:=p.toList.Perm (List.range n)
theorem Jd.lt{n:Nat}{p:Array Nat}(h:Jd n p)(hn:0<n)(i:Nat):p.getD i 0<n:=by
 unfold Array.getD
 split
 .rename_i hi
  have:p.toList[i]'(by simpa using hi)∈List.range n:=h.mem_iff.mp (yZ _)
  exact jK.mp this
 .exact hn
theorem QdB{p:Array Nat}(i j:Nat):(p.swapIfInBounds i j).toList.Perm p.toList:=by
 unfold Array.swapIfInBounds
 split
 .split
  .exact(Array.swap_perm _ _).toList
  .exact .refl _
 .exact .refl _
theorem UZ(f g:Nat->Nat):∀(l:List Nat)(p:Array Nat),(l.foldl (fun a k=>a.swapIfInBounds (f k) (g k)) p).toList.Perm p.toList
 | [],_=>.refl _
 | k :: l,p=>(UZ f g l _).trans (QdB _ _)
theorem Jd.rev{n:Nat}{p:Array Nat}(h:Jd n p)(i j:Nat):Jd n (W.kas_rev p i j):=(UZ (fun k=>i+k) (fun k=>j - 1 - k) _ p).trans h
theorem Jd.bubble{n:Nat}{p:Array Nat}(h:Jd n p)(i j:Nat):Jd n (PyProof.Rows.bubble p i j):=(UZ (fun k=>i - k) (fun k=>i - k - 1) _ p).trans h
section
variable {n:Nat}
theorem QaX(hn:0<n){p:Array Nat}(h:Jd n p):∀(m k:Nat),InT n (fun _=>True) (W.kas_asc p m k)
 | 0,_=>.ret trivial
 | m+1,k=>.ask (h.lt hn _) (h.lt hn _) fun b=>by
   cases b with
   | true=>exact .ret trivial
   | false=>exact QaX hn h m (k+1)
theorem VI(hn:0<n):∀(m:Nat){p:Array Nat}(k q:Nat),Jd n p->InT n (fun r=>Jd n r.1) (W.kas_desc m p k q)
 | 0,_,_,_,h=>.ret h
 | m+1,p,k,q,h=>.ask (h.lt hn _) (h.lt hn _) fun b=>by
   cases b with
   | true =>
     show InT n _ (if q > 0 then _ else _)
     split
     .exact VI hn m _ _ (h.rev _ _)
     .exact VI hn m _ _ h
   | false =>
     refine .ask (h.lt hn _) (h.lt hn _) fun c=>?_
     cases c with
     | true=>exact .ret h
     | false=>exact VI hn m _ _ h
theorem GK(hn:0<n){p:Array Nat}(h:Jd n p)(a b:Nat):InT n (fun r=>Jd n r.2) (W.kas_tail3 a b p) :=
 InT.bind (R:=fun _=>True) (f:=fun m=>.ret (m,W.kas_rev p 0 a)) (fun _ _=>.ret (h.rev _ _)) (QaX hn (h.rev _ _) _ _)
theorem Vs(hn:0<n){p:Array Nat}(h:Jd n p)(a b:Nat):InT n (fun r=>Jd n r.2) (W.kas_descPart a b p):=by
 refine InT.bind (R:=fun r=>Jd n r.1) (fun r hr=>?_) (VI hn _ _ _ h)
 split
 .exact GK hn (hr.rev _ _) _ _
 .exact GK hn hr _ _
theorem QeX(hn:0<n){p:Array Nat}(h:Jd n p)(m:Nat):InT n (fun r=>Jd n r.2) (W.kas_count m p):=by
 refine InT.bind (R:=fun _=>True) (fun k _=>?_) (QaX hn h _ _)
 split
 .exact .ret h
 .split
  .refine .ask (h.lt hn _) (h.lt hn _) fun b=>?_
   cases b with
   | true=>exact .ret h
   | false=>exact Vs hn (h.rev _ _) _ _
  .exact Vs hn h _ _
theorem WD(hn:0<n){p:Array Nat}(h:Jd n p)(k:Nat):∀(m l r:Nat),InT n (fun _=>True) (W.kas_place p k m l r)
 | 0,_,_=>.ret trivial
 | m+1,l,r=>by
   show InT n _ (if l>=r then _ else _)
   split
   .exact .ret trivial
   .refine .ask (h.lt hn _) (h.lt hn _) fun b=>?_
    cases b with
    | true=>exact WD hn h k m _ _
    | false=>exact WD hn h k m _ _
theorem QeY(hn:0<n):∀(m:Nat){p:Array Nat}(k:Nat),Jd n p->InT n (Jd n) (W.kas_bin m p k)
 | 0,_,_,h=>.ret h
 | m+1,p,k,h=>InT.bind (R:=fun _=>True) (fun l _=>QeY hn m _ (h.bubble _ _)) (WD hn h k _ _ _)
theorem Ks(hn:0<n):InT n (Jd n) (W.kas_sort n):=by
 refine InT.bind (R:=fun r=>Jd n r.2) (fun r hr=>?_) (QeX hn (p:=(List.range n).toArray) (.refl _) _)
 split
 .exact QeY hn _ _ hr
 .exact .ret hr
end
theorem W6:∀{xs:List V}{us:QpM}(i:Nat),Qx xs us->i<xs.length->QC (xs.getD i .non) (us.getD i .none)
 | _,_,0,.cons h _,_=>h
 | _,_,i+1,.cons _ v,hi=>W6 i v (Nat.lt_of_succ_lt_succ hi)
theorem VQ{xs:List V}{us:QpM}(v:Qx xs us):∀{l:List Nat},(∀i∈l,i<xs.length)->Qx (l.map fun i=>xs.getD i .non) (l.map fun i=>us.getD i .none)
 | [],_=>.nil
 | i :: l,h=>.cons (W6 i v (h i qI)) (VQ v fun j hj=>h j (qu _ hj))
end L2
namespace L2
open PySem PySem.Spec PyProof.Rows
section
variable {X:Cx}{pins:List (Addr×Obj)}{σ:St}{H:Hp}{s:Shared}{h':Heap}
end
end L2
namespace HT
open PySem PyProof.Rows
section
open PySem.SeqAt
open PySem.AutoSeq1 (wpAny_loadPart')
open PySem.MeetsSeq PySem.MeetsSeq2 PySem.MeetsSeq3
end
end HT
namespace L2
open PySem PySem.Spec PyProof.Rows
end L2
namespace L2
open PySem PySem.Spec PyProof.Rows
def QX(h:Heap)(d:Addr)(es:Array DictEntry)(ep:Nat):Prop:=∃o,h.get? d=some o/\o.ExactDict/\o.data=.dict es ep
theorem QX.lt{h:Heap}{d:Addr}{es:Array DictEntry}{ep:Nat}(x:QX h d es ep):d<h.objs.size:=let ⟨_,e,_⟩:=x;qT e
theorem QX.at{h h':Heap}{d:Addr}{es:Array DictEntry}{ep:Nat}(x:QX h d es ep)(k:∀o,h.get? d=some o->h'.get? d=some o):QX h' d es ep:=let ⟨o,e,r⟩:=x;⟨o,k o e,r⟩
theorem QX.ty{s:Shared}{d:Addr}{es:Array DictEntry}{ep:Nat}(x:QX s.heap d es ep):s.TypeIs (.ref d) "dict":=let ⟨o,e,c,_⟩:=x;⟨o,e,c.1⟩
section
variable {prog:Program}{w:World}{A:Around}{E:QpL}{s:Shared}{d it:Addr}{es:Array DictEntry}{ep i:Nat}
theorem QdS{Q:QpL}(hd:(d == sysModules)=false)(hm:QX s.heap d es ep)
 (hQ:Q (.ref s.heap.objs.size) { s with heap:=s.heap.push { cls:=.type "dict_keyiterator",data:=.fields #[.ref d,.int 0 0,.int es.size 0,.int ep 0] } }):wpAny (model prog w) A (pyIter (.ref d)) Q E s:=by
 have hT:=hm.ty
 obtain⟨o,ho,_,hdat⟩:=hm
 refine wpAny_pyIter_slot hT F.slot_dict_iter (wL F.slot_dict_iter hT F.entry_dict_iter ?_ (F.args_dict_iter_1 _))
 unfold Builtin.«dict.__iter__»
 refine qb ?_
 unfold Builtin.Dict.dictSlotNone
 refine qb (wpAny_notOrdered_dict hT (qx ?_))
 show wpAny _ _ (Builtin.Dict.showsAll d >>= _) _ _ s
 unfold Builtin.Dict.showsAll
 rw[ql (by rw[hd];exact q8)]
 refine qb (qx (qb (vQ ho hdat (qb (gY ho hdat ?_)))))
 exact qb (jN (qx ⟨_,rfl,"dict_keyiterator",_,⟨_,qN _ rfl,rfl⟩,yp.lookup,by simpa[rawInt] using hQ⟩))
theorem QdT{Q:Option Value->Shared->Prop}(hit:s.heap.IsKeyIter it d i es.size ep)(hm:QX s.heap d es ep){en:DictEntry}(hx:es[i]?=some en)
 (hQ:∀h',h'.IsKeyIter it d (i+1) es.size ep->Heap.SameBut it s.heap h'->Q (some en.key) { s with heap:=h' }):wpAny (model prog w) A (pyNext (.ref it)) Q E s:=by
 obtain⟨o,ho,hc,hd⟩:=id hit
 obtain⟨od,hod,_,hdd⟩:=hm
 unfold pyNext
 refine qb (gF (uw (name:=Str.ofString "__next__") hit.typeIs yp
  (wL yp hit.typeIs F.entry_dict_keyiterator_next ?_ (F.args_dict_keyiterator_next_1 _))))
 refine qb (qx (qb (qb ?_)))
 first | refine qb (kh hit.typeIs (qx ?_)) | refine qb (gG hit.typeIs (qx ?_))
 refine qb (uF ho hd ?_)
 have hown:Builtin.Dict_items.ownsTuple "dict_keyiterator"=false:=by decide
 simp only[hown,zM,jD]
 show wpAny _ _ (if (Value.ref d == Value.none)=true then _ else _) _ _ s
 rw[ql (show ¬((Value.ref d == Value.none)=true) from q8)]
 refine qb (qx (qb (vQ hod hdd ?_)))
 rw[ql (by simp)]
 refine qb (qx (qb (gY hod hdd ?_)))
 rw[ql (by simp)]
 refine qx ?_
 simp only[show ¬((i:Int)<0) from by omega,jD,xZ,hx]
 refine qb ?_
 first | refine qb (kh hit.typeIs (qx ?_)) | refine qb (gG hit.typeIs (qx ?_))
 refine qb (wpAny_isOneOf_keyiter hit.typeIs ?_)
 show wpAny _ _ (setField (.ref it) 1 (rawInt ((i:Int)+1)) >>= _) _ _ s
 refine qb (wpAny_setField ho hd (by simp) ?_)
 have hit':(s.heap.update it (Obj.mapFields (·.setIfInBounds 1 (rawInt ((i:Int)+1))))).IsKeyIter it d (i+1) es.size ep :=
  ⟨_,vN _ ho (Obj.isFreed_of_fields (Qja hd _)),(Obj.cls_mapFields ..).trans hc,by rw[Qja hd];simp[rawInt]⟩
 refine qb (jP (qb (wpAny_isOneOf_keyiter (s:={ s with heap:=s.heap.update it (Obj.mapFields (·.setIfInBounds 1 (rawInt ((i:Int)+1)))) }) hit'.typeIs ?_)))
 show wpAny _ _ (pure en.key) _ _ _
 exact qx (qx ⟨_,rfl,qx (hQ _ hit' (z8 ..))⟩)
theorem QfZ{Q:Option Value->Shared->Prop}(hh:A.handled=none)(hit:s.heap.IsKeyIter it d i es.size ep)(hm:QX s.heap d es ep)(hx:es.size<=i)
 (hQ:∀h',Heap.ExtBut it s.heap h'->Q none { s with heap:=h' }):wpAny (model prog w) A (pyNext (.ref it)) Q E s:=by
 obtain⟨o,ho,hc,hd⟩:=id hit
 obtain⟨od,hod,_,hdd⟩:=hm
 unfold pyNext
 refine qb (gF (uw (name:=Str.ofString "__next__") hit.typeIs yp
  (wL yp hit.typeIs F.entry_dict_keyiterator_next ?_ (F.args_dict_keyiterator_next_1 _))))
 refine qb (qx (qb (qb ?_)))
 first | refine qb (kh hit.typeIs (qx ?_)) | refine qb (gG hit.typeIs (qx ?_))
 refine qb (uF ho hd ?_)
 have hown:Builtin.Dict_items.ownsTuple "dict_keyiterator"=false:=by decide
 simp only[hown,zM,jD]
 show wpAny _ _ (if (Value.ref d == Value.none)=true then _ else _) _ _ s
 rw[ql (show ¬((Value.ref d == Value.none)=true) from q8)]
 refine qb (qx (qb (vQ hod hdd ?_)))
 rw[ql (by simp)]
 refine qb (qx (qb (gY hod hdd ?_)))
 rw[ql (by simp)]
 refine qx ?_
 simp only[show ¬((i:Int)<0) from by omega,jD,xZ,xF hx]
 refine qb ?_
 first | refine qb (kh hit.typeIs (qx ?_)) | refine qb (gG hit.typeIs (qx ?_))
 show wpAny _ _ (setField (.ref it) 0 .none >>= _) _ _ s
 refine qb (wpAny_setField ho hd (by simp) ?_)
 show wpAny _ _ (newExc (.type "StopIteration") [] >>= _) _ _ _
 refine qb ?_
 simp only[newExc,newTuple]
 refine qb (jN ?_ (by size_fits))
 refine qb (m:=firstArgMember _ _) (wpAny_of_eq (a:=Value.none) (by first | rfl | (simp only[firstArgMember];rfl)) ?_)
 refine jN ?_ (by size_fits)
 simp only[raiseNew]
 refine qb (wpAny_handled ?_)
 rw[show A.in1.handled=none from hh]
 refine qb (qx (wpAny_throw ?_))
 refine qb (wpAny_isInstance (T:="StopIteration") (b:=true) ⟨_,qN _ rfl,rfl⟩ isSubtype_stop ?_)
 exact qx (hQ _ (((z8 ..).extBut.push _).push _))
end
end L2
namespace L2
open PySem PySem.Spec PyProof.Rows
inductive Yx(H:Hp):List Addr->List (List Key)->Prop
 | nil:Yx H [] []
 | cons {b:Addr} {k:List Key} {bs:List Addr} {ks:List (List Key)} (e:H b=some (.tup (k.map kV))) (r:Yx H bs ks):Yx H (b :: bs) (k :: ks)
theorem Yx.len{H:Hp}:∀{bs:List Addr}{ks:List (List Key)},Yx H bs ks->bs.length=ks.length
 | _,_,.nil=>rfl
 | _,_,.cons _ r=>zB (·+1) (Yx.len r)
theorem Yx.at{H:Hp}:∀{bs:List Addr}{ks:List (List Key)}{i:Nat}{k:List Key},Yx H bs ks->ks[i]?=some k->∃b,bs[i]?=some b/\H b=some (.tup (k.map kV))
 | _,_,_,_,.nil,h=>by simp at h
 | _,_,0,_,.cons e _,h=>by cases h;exact⟨_,rfl,e⟩
 | _,_,i+1,_,.cons _ r,h=>Yx.at (i:=i) r h
theorem Qgx{H:Hp}{kvs:List (List Key×V)}{xs:List (List Key×Addr×Value)}(r:KT H kvs xs):Yx H (xs.map (·.2.1)) (kvs.map (·.1)):=by
 induction r with
 | nil=>exact .nil
 | cons h _ ih=>exact .cons (h.2.1) ih
theorem QhJ{P:Program}{w:World}{H:Hp}{h:Heap}{a:Addr}{kvs:List (List Key×V)}(ok:QG P w H h a (.dT kvs)) :
 kvs.length<=sizeLine/\(a == sysModules)=false/\∃(bs:List Addr)(es:Array DictEntry)(ep:Nat),Yx H bs (kvs.map (·.1))/\QX h a es ep/\es.toList.map (·.key)=bs.map Value.ref:=by
 obtain⟨z,y,xs,r,o,es,ep,h1,h2,h3,h4,_⟩:=ok
 refine⟨z,y,xs.map (·.2.1),es,ep,Qgx r,⟨o,h1,h2,h3⟩,?_⟩
 rw[h4,zu,zu]
 rfl
inductive Xv(x:V)(vs:List V)(H:Hp)(Q:VK):Prop
 | mk:∀(l:Addr)(xs:List V)(i:Int)(y:V),x=.ref l->vs=[.int i,y]->H l=some (.lst xs)->0<=i->i<=xs.length->xs.length<1000->Q .non (upd H l (.lst (xs.take i.toNat++y :: xs.drop i.toNat)))->Xv x vs H Q
def Qf1:V->List V->Hp->VK->Prop:=fun x vs H Q=>Xv x vs H Q
theorem Qdi{xs ys:List V}{us vs:QpM}(a:Qx xs us)(b:Qx ys vs):Qx (xs++ys) (us++vs):=by
 induction a with
 | nil=>exact b
 | cons h _ ih=>exact .cons h ih
theorem QcL{X:Cx}:MtM X "list.insert" Qf1:=by
 intro pins s σ H x vs v us Q I rx rv h
 obtain⟨l,xs,i,y,rfl,rfl,hH,h0,hi,hl,q⟩:=h
 cases rx
 obtain⟨u1,u2,rfl,r1,r2⟩:=rv.two
 obtain⟨t,rfl⟩:=r1
 obtain⟨z,its,n,r,hlen,e⟩:=I.Qln hH
 have hf:¬(!Builtin.List.listFitsIndex i)=true:=by
  have:Builtin.List.listFitsIndex i=true:=fitsIndex_both (by omega) (by omega)
  rw[this];exact q8
 have hz1:its.toArray.size<=sizeLine:=by rw[qM,<-hlen];exact z
 refine call_meets F.slot_list_insert ⟨_,e,rfl⟩ F.entry_list_insert (F.args_list_insert_3 _ _ _) (PySem.AutoSeq1.list_insert_list_int_val_1 l its.toArray n i t u2 hf hz1) ⟨e,?_⟩
 refine⟨.non,_,I.QnL (its':=its.take i.toNat++u2 :: its.drop i.toNat) hH e ?_ (Qdi (r.take i.toNat) (.cons r2 (r.drop i.toNat))) ?_,rfl,q⟩
 .show(its.toArray.extract 0 (if i<0 then (i+(its.toArray.size:Int)).toNat else min i.toNat its.toArray.size)).push u2++its.toArray.extract (if i<0 then (i+(its.toArray.size:Int)).toNat else min i.toNat its.toArray.size)=_
  rw[PySem.W.kl_ins_eq,ql (by omega),qM,jA (by omega)]
 .rw[qy,zm,qK,jh]
  have:=QN (n:=xs.length+1) (by omega)
  omega
end L2
namespace HT
open PySem PyProof.Rows
variable {prog:Program}{w:World}{A:Around}{E:QpL}{s:Shared}
end HT
namespace L2
open PySem PySem.Spec PyProof.Rows
section
variable {X:Cx}{pins:List (Addr×Obj)}{σ:St}{H:Hp}{s:Shared}{a:Addr}{oa:Obj}{kvs:List (List Key×V)}
theorem Inv.QnV(I:Inv X pins σ H s)(e:H a=some (.dT kvs)):∃oa,Inv X pins σ (upd H a (.yR oa (.dT kvs))) s:=by
 obtain⟨z,y,xs,r,ob,es,ep,eo,c⟩:=(show QG X.prog X.w H s.heap a (.dT kvs) from I.hok a _ e)
 have r':Paired (fun(p:List Key×V)(q:List Key×Addr×Value)=>p.1=q.1/\(upd H a (.yR ob (.dT kvs))) q.2.1=some (.tup (p.1.map kV))/\QC p.2 q.2.2) kvs xs:=Paired.QnJ r fun p q z=>⟨z.1,by rw[Qj (fun w=>by have:=z.2.1;rw[w,e] at this;cases this)];exact z.2.1,z.2.2⟩
 exact⟨ob,I.write (x:=a) (e:=a) (o:=.yR ob (.dT kvs)) (t':=s.toks) (h':=s.heap) (by rw[e];exact True.intro) (.inl rfl) (fun _ _ _ q=>q) ⟨ob,eo⟩ ⟨eo,z,y,xs,r',ob,es,ep,eo,c⟩⟩
theorem Inv.Qj3(I:Inv X pins σ H s)(nf:∀o u,X.H₀ a≠some (.yR o u))(e:H a=some (.yR oa (.dT kvs))):Inv X pins σ (upd H a (.dT kvs)) s:=by
 have ne0:∀b,H b=none->b≠a:=fun b n z=>by rw[z,e] at n;cases n
 have ne1:∀b o,H b=some o->o≠.yR oa (.dT kvs)->b≠a:=fun b o q n z=>by rw[z,e] at q;cases q;exact n rfl
 obtain⟨_,okd⟩:=(show QG X.prog X.w H s.heap a (.yR oa (.dT kvs)) from I.hok a _ e)
 have tp:∀c xs,H c=some (.tup xs)->(upd H a (.dT kvs)) c=some (.tup xs):=fun c xs z=>by rw[Qj (ne1 c _ z (fun y=>by cases y))];exact z
 have ow:∀b c,H c=some (.own b)->(upd H a (.dT kvs)) c=some (.own b):=fun b c z=>by rw[Qj (ne1 c _ z (fun y=>by cases y))];exact z
 refine⟨I.ok,I.os,I.bare,⟨I.base.keep,I.base.slot,fun b o q n hx=>?_,I.base.there,fun b xs q=>tp _ _ (I.base.tups b xs q),fun b o u q=>?_,fun b ps q=>?_⟩,I.loc,I.cell,?_,fun x c q=>?_,fun p hp=>?_,fun b u q=>?_,I.len⟩
 .have:=I.base.free b o q n hx
  rw[Qj (ne0 b this)];exact this
 .have hb:b≠a:=fun z=>nf o u (by rw[<-z];exact q)
  rw[Qj hb];exact I.base.QiK b o u q
 .obtain⟨m,h⟩:=I.base.Qjf b ps q
  exact⟨m,by rw[Qj (ne1 b _ h (fun z=>by cases z))];exact h⟩
 .rw[Qj (ne0 _ I.free)];exact I.free
 .rw[Qj (ne0 _ (I.vU x c q))];exact I.vU x c q
 .obtain⟨h1,h2,h3⟩:=I.pin p hp
  exact⟨h1,by rw[Qj (ne0 _ h2)];exact h2,h3⟩
 .by_cases hb:b=a
  .subst hb
   rw[Qf] at q
   cases q
   exact QG.stay (show QG X.prog X.w H s.heap b (.dT kvs) from okd) (fun _ _ _ z=>z) (ow b) tp
  .rw[Qj hb] at q
   exact(I.hok b u q).stay (fun _ _ _ z=>z) (ow b) tp
end
def Qj3(a:Addr)(oa:Obj)(kvs:List (List Key×V))(D:JV):JV :=
 { nx:=fun σ H=>H a=some (.yR oa (.dT kvs))/\D.nx σ (upd H a (.dT kvs)),rt:=fun v H=>H a=some (.yR oa (.dT kvs))/\D.rt v (upd H a (.dT kvs)),bk:=fun σ H=>H a=some (.yR oa (.dT kvs))/\D.bk σ (upd H a (.dT kvs)),ct:=fun σ H=>H a=some (.yR oa (.dT kvs))/\D.ct σ (upd H a (.dT kvs)) }
inductive KU(ts:TS)(D:JV)(σ:St)(H:Hp):Prop
 | mk:∀a kvs,H a=some (.dT kvs)->(∀oa,ts (Qj3 a oa kvs D) σ (upd H a (.yR oa (.dT kvs))))->KU ts D σ H
def Qhu(ts:TS):TS:=fun D σ H=>KU ts D σ H
theorem Qd9{X:Cx}{st:Stmt}{ts:TS}(hb:PS X st ts):PS X st (Qhu ts):=by
 rintro pins s σ H D I ⟨a,kvs,e,h⟩
 obtain⟨oa,J⟩:=I.QnV e
 have nf:∀o u,X.H₀ a≠some (.yR o u):=fun o u z=>by have:=I.base.QiK a o u z;rw[e] at this;cases this
 refine j0 (hb pins s σ _ _ J (h oa)) fun f s' q=>?_
 cases f with
 | next=>obtain⟨σ7,H7,I7,n7⟩:=q;exact⟨σ7,_,I7.Qj3 nf n7.1,n7.2⟩
 | cont=>obtain⟨σ7,H7,I7,n7⟩:=q;exact⟨σ7,_,I7.Qj3 nf n7.1,n7.2⟩
 | brk=>obtain⟨σ7,H7,I7,n7⟩:=q;exact⟨σ7,_,I7.Qj3 nf n7.1,n7.2⟩
 | ret v=>obtain⟨x7,σ7,H7,I7,r7,n7⟩:=q;exact⟨x7,σ7,_,I7.Qj3 nf n7.1,r7,n7.2⟩
def QpF(a:Addr)(oa:Obj)(kvs:List (List Key×V))(bs:List Addr):It:=⟨fun i H=>H a=some (.yR oa (.dT kvs))/\i<bs.length,fun i H x H'=>H'=H/\∃b,bs[i]?=some b/\x=.ref b,fun i H=>H a=some (.yR oa (.dT kvs))/\bs.length<=i⟩
theorem QbV{P:Program}{w:World}{H:Hp}{h:Heap}{a:Addr}{oa:Obj}{kvs:List (List Key×V)}{es:Array DictEntry}{ep:Nat}(ok:gq P w H h)(e:H a=some (.yR oa (.dT kvs)))(hd:oa.data=.dict es ep):QX h a es ep:=by
 obtain⟨e1,z,y,xs,r,ob,es',ep',eo,c1,c2,c3⟩:=(show QG P w H h a (.yR oa (.dT kvs)) from ok a _ e)
 rw[e1] at eo
 cases eo
 exact⟨oa,e1,c1,hd⟩
theorem Qak{P:Program}{w:World}{K:Frag}{tg:Expr}(a it:Addr)(oa:Obj)(kvs:List (List Key×V))(bs:List Addr)(es:Array DictEntry)(ep:Nat)(hd:oa.data=.dict es ep)(hb:es.toList.map (·.key)=bs.map Value.ref):Qa5 P w K tg (QpF a oa kvs bs) [it] it (fun i h=>h.IsKeyIter it a i es.size ep) where
 mem:=by simp
 obj:=fun i h st b hb=>by
  have e:b=it:=by simpa using hb
  subst e
  obtain⟨o,e,c,d⟩:=st
  exact⟨o,e,fun v z=>by rw[d] at z;cases z⟩
 keep:=fun i h h' st k=>by
  obtain⟨o,e,c⟩:=st
  exact⟨o,k it (by simp) o e,c⟩
 item:=by
  intro X hP hw hK hc i pins s σ H E I hf st hg
  subst hP hw hK
  obtain⟨hH,hlt⟩:=hg
  have hm:=QbV I.hok hH hd
  have hsz:es.size=bs.length:=by have:=zB List.length hb;simpa using this
  obtain⟨f0,f1,f2,f3,f4,f5⟩:=hf it (by simp)
  have hx:es[i]?=some es[i]:=z6 (by omega)
  have hkey:(es[i]'(by omega)).key=Value.ref bs[i]:=by
   have h1:(es.toList.map (·.key))[i]?=(bs.map Value.ref)[i]?:=by rw[hb]
   rw[qJ,qJ,qC,hx,qe hlt] at h1
   exact zg h1
  refine QdT st hm hx fun h' st' sb=>?_
  rw[hkey]
  have I1:Inv X pins σ H { s with heap:=h' }:=I.turned (t':=s.toks) (fun b o hb e=>(sb.2 b hb).trans e) f0 f1 f3 f4 f5
  obtain⟨o,e,c,d⟩:=id st'
  exact⟨_,rfl,XL (s:={ s with heap:=h' }) e c d (by decide) ⟨.ref bs[i],H,I1,rfl,⟨rfl,bs[i],qe hlt,rfl⟩,st',fun b hb=>(hf b hb).1⟩⟩
 done:=by
  intro X hP hw hK hc i pins s σ H E I hf st hg
  subst hP hw hK
  obtain⟨hH,hge⟩:=hg
  have hm:=QbV I.hok hH hd
  have hsz:es.size=bs.length:=by have:=zB List.length hb;simpa using this
  obtain⟨f0,f1,f2,f3,f4,f5⟩:=hf it (by simp)
  exact QfZ (I.ok.hd hc) st hm (by omega) fun h' eb=>⟨rfl,I.turned (t':=s.toks) (fun b o hb e=>eb b o hb e) f0 f1 f3 f4 f5⟩
 self:=fun _ _ _ _ _ st h=>wpAny_pyIter_keyiter st h
inductive GN(R:(It->Hp->Prop))(x:V)(H1:Hp):Prop
 | mk:∀a oa kvs,x=.ref a->H1 a=some (.yR oa (.dT kvs))->(∀bs,Yx H1 bs (kvs.map (·.1))->R (QpF a oa kvs bs) H1)->GN R x H1
def Qia(tl:TE):TI:=fun σ H R=>tl σ H fun x H1=>GN R x H1
theorem Qea{X:Cx}{tg l:Expr}{tl:TE}(hl:PE X l tl):PI X tg l (Qia tl):=by
 intro pins s σ H R I h
 refine j0 (hl pins s σ H _ I h) fun v s1 ⟨x,H1,I1,r1,q1⟩=>?_
 obtain⟨a,oa,kvs,e,hH,q⟩:=q1
 subst e
 cases r1
 obtain⟨e1,okd⟩:=(show QG X.prog X.w H1 s1.heap a (.yR oa (.dT kvs)) from I1.hok a _ hH)
 obtain⟨_,hlo,bs,es,ep,hb,⟨o,h1,h2,h3⟩,hk⟩:=QhJ okd
 rw[e1] at h1
 cases h1
 refine QdS hlo ⟨oa,e1,h2,h3⟩ ?_
 refine⟨s1.heap.objs.size,[s1.heap.objs.size],_,_,H1,rfl,I1.kept (t':=s1.toks) fun b o e=>qw _ e,Qak a _ oa kvs bs es ep h3 hk,⟨_,qN _ rfl,rfl,rfl⟩,fun b hb=>?_,q bs hb⟩
 have e:b=s1.heap.objs.size:=by simpa using hb
 subst e
 exact I1.Ql4 (qp _) (I1.hok.fresh (qp _))
end L2
namespace Hd
open PySem PySem.W PySem.Calls PyProof.Rows L2
noncomputable def zZ(st:SharedT->Thread->Option (SharedT×Thread))(ok:Thread->Bool)(n:Nat):SharedT->Thread->Option SharedT :=
 @Nat.rec (fun _=>SharedT->Thread->Option SharedT) (fun _ _=>none) (fun _ ih s t=>match through t with
  | true=>some s
  | false=>match ok t with
    | false=>none
    | true=>match st s t with
      | some (s',t')=>ih s' t'
      | none=>none) n
theorem Qck(st:SharedT->Thread->Option (SharedT×Thread))(ok:Thread->Bool)(n:Nat)(s:SharedT)(t:Thread):zZ st ok (n+1) s t=(match through t with
 | true=>some s
 | false=>match ok t with
   | false=>none
   | true=>match st s t with
     | some (s',t')=>zZ st ok n s' t'
     | none=>none):=rfl
theorem Qbp{tb:String->Option Builtin}{p:Program}{w:World}{n₀:Nat}{ann:Option Value}:∀(n:Nat)(s:SharedT)(t:Thread)(s':SharedT),
 zZ (stepT (denote tb) p w) (stepOk n₀ ann) n s t=some s'->topRun tb p w n₀ ann n s.abs t=some s'.abs
 | 0,_,_,_,h=>nomatch (h:none=some _)
 | n+1,s,t,s',h=>by
   rw[Qck] at h
   unfold topRun
   cases ht:through t with
   | true=>rw[ht] at h;cases h;rfl
   | false =>
     rw[ht] at h
     cases hk:stepOk n₀ ann t with
     | false=>rw[hk] at h;cases h
     | true =>
       rw[hk] at h
       dsimp only at h ⊢
       cases hs:stepT (denote tb) p w s t with
       | none=>rw[hs] at h;cases h
       | some x =>
         obtain⟨s₂,t₂⟩:=x
         rw[hs] at h
         rw[stepT_spec hs]
         exact Qbp n s₂ t₂ s' h
def Qfo(t:BT)(n:Nat):List Obj->BT
 | []=>t
 | o :: r=>Qfo (t.ins n o) (n+1) r
noncomputable def Qhf(P:Params):BT:=Qfo .nil 0 (boot_heap P).objs.toList
theorem Qdc(P:Params):((boot_heap P).isNs mainGlobals,(boot_heap P).objs.size,(boot_heap P).nsMap mainGlobals "__annotations__")=(true,11,some (.ref 6)):=by kernel_rfl
theorem Qfp(P:Params):absHeap (Qhf P) 11 {}=boot_heap P:=by kernel_rfl
noncomputable def S0(w:World)(os:OsState):SharedT:=⟨Qhf w.params,11,{},#[],boot_drawn,boot_toks,os⟩
theorem Qim(w:World)(os:OsState):(S0 w os).abs=⟨boot_heap w.params,#[],boot_drawn,boot_toks,os⟩:=zB (fun h=>(⟨h,#[],boot_drawn,boot_toks,os⟩:Shared)) (Qfp w.params)
noncomputable def chk(p:Program)(P:Params)(s:Shared):Bool:=staticsOk (importedModules p.main.body) (boot_heap P) s.heap && namesBound p s.heap && gensDone s && laidKept (boot_heap P) s.heap
noncomputable abbrev QlC:(Code->Sem Fin)->Program->World->SharedT->Thread->Option (SharedT×Thread):=PySem.W.Fast.tw10156331382660048174
noncomputable abbrev Qn6:Code->Sem Fin:=PySem.W.Fast.tw11892475500146522536 PySem.W.Fast.tw14364793385576792824
noncomputable abbrev okQ:Nat->Option Value->Thread->Bool:=PySem.W.Fast.tw6613529449190102663
noncomputable abbrev seenQ:=@PySem.W.Fast.tw4187177175401517315
theorem left{p q:Program}{loose:QpK}{Xt:Shared->Bool}{α:Type}{Yf:Shared->α}{Ya:World->α}{N:Nat}(e:opening p=plainProg p.main.scope.names)(hN:Nat.ble 600 N=true)(f:∀s,fenceModules? p s=some s)
 (h:∀(w:World)(os:OsState),(zZ (QlC Qn6 p w) (okQ 11 (some (.ref 6))) N (S0 w os) (topStub p)).map (fun s=>(chk p w.params s.abs,seenQ q loose (importedModules p.main.body) Xt true s.abs,Yf s.abs))=some (true,openGood q loose,Ya w)) :
 LeftO p q loose Xt Yf Ya N:=fun w=>by
 obtain⟨⟨hh,gs,d,k,os⟩,e1,e'⟩:=xx.mp (boot_open e hN f w)
 obtain⟨rfl,rfl,rfl,rfl⟩:hh=boot_heap w.params/\gs=#[]/\d=boot_drawn/\k=boot_toks:=by simpa using e'
 have h:=h w os
 unfold QlC Qn6 okQ seenQ at h
 rw[<-PySem.W.Fast.te10156331382660048174,<-PySem.W.Fast.te11892475500146522536,<-PySem.W.Fast.te14364793385576792824,<-PySem.W.Fast.te6613529449190102663,<-PySem.W.Fast.te4187177175401517315] at h
 obtain⟨s,r,l⟩:=xx.mp h
 obtain⟨l1,l2,l3⟩:_/\_/\_:=by simpa only[Prod.mk.injEq] using l
 have r:=Qbp N _ _ _ r
 rw[Qim] at r
 obtain⟨z1,z2,z3⟩:_/\_/\_:=by simpa only[Prod.mk.injEq] using Qdc w.params
 have t:topFrom treeTable p w N ⟨boot_heap w.params,#[],boot_drawn,boot_toks,os⟩=some s.abs:=by
  unfold topFrom
  dsimp only
  rw[z1,z2,z3,r]
  show(match staticsOk (importedModules p.main.body) (boot_heap w.params) s.abs.heap && namesBound p s.abs.heap && gensDone s.abs && laidKept (boot_heap w.params) s.abs.heap with | true=>_ | false=>_)=_
  rw[show(staticsOk (importedModules p.main.body) (boot_heap w.params) s.abs.heap && namesBound p s.abs.heap && gensDone s.abs && laidKept (boot_heap w.params) s.abs.heap)=true from l1]
 unfold openEnds
 rw[e1]
 show(topFrom treeTable p w N _).map _=_
 rw[t]
 exact zB some (Prod.ext l2 l3)
def XM(h:Heap):Frag:=(List.range h.objs.size).filterMap fun a=>(h.get? a).map fun o=>(a,o)
theorem Wy(f:Nat->Option Obj)(a:Addr)(o:Obj):∀l:List Nat,(l.filterMap fun a=>(f a).map fun o=>(a,o)).lookup a=some o->f a=some o
 | [],e=>nomatch e
 | b :: l,e=>by
   cases hb:f b with
   | none=>rw[List.filterMap_cons_none (by rw[hb];rfl)] at e;exact Wy f a o l e
   | some x =>
     rw[List.filterMap_cons_some (by rw[hb];rfl),jQ] at e
     split at e
     .rename_i q;cases e;rw[qW.mp q];exact hb
     .exact Wy f a o l e
theorem QgJ(h:Heap):(XM h).In h:=fun a o e=>Wy h.get? a o _ e
def Qk4(s:SharedT):Frag:=(List.range s.n).filterMap fun a=>(match Nat.blt a s.n with | true=>alive ((s.tree.get a).getD default) | false=>none).map fun o=>(a,o)
theorem Qe5(s:SharedT):Qk4 s=XM s.abs.heap:=by
 unfold Qk4 XM
 show _=(List.range (absHeap s.tree s.n s.life).objs.size).filterMap fun a=>((absHeap s.tree s.n s.life).get? a).map fun o=>(a,o)
 rw[absHeap_size]
 congr 1
 funext a
 congr 1
 unfold Heap.get?
 rw[absHeap_at]
 cases h:Nat.blt a s.n with
 | true =>
   rw[qj (show a<s.n from Nat.le_of_ble_eq_true h)]
   dsimp only
   cases (s.tree.get a).getD default with
   | mk c d dt sl=>cases dt <;> rfl
 | false =>
   rw[ql (fun q=>by rw[show Nat.blt a s.n=true from Nat.ble_eq_true_of_le q] at h;cases h)]
def says{α:Type}(obs:Frag->α)(good:α)(_:World)(h:Heap):Prop:=∃K:Frag,K.In h/\obs K=good
theorem close{l:OpenLaw}{q:Program}{loose:QpK}{d:DefRec}{α:Type}{obs:Frag->α}{good:α}{N:Nat}
 (look:PySem.W.Fast.tw9446332074065402090 l=true) (e:opening l.prog=plainProg l.prog.main.scope.names) (hN:Nat.ble 600 N=true) (f:∀s,fenceModules? l.prog s=some s)
 (h:∀(w:World)(os:OsState),(zZ (QlC Qn6 l.prog w) (okQ 11 (some (.ref 6))) N (S0 w os) (topStub l.prog)).map (fun s=>(chk l.prog w.params s.abs,seenQ q loose (importedModules l.prog.main.body) (fun s=>recOk [] s) true s.abs,obs (Qk4 s)))=some (true,openGood q loose,good))
 (hdef:defOf q l.name=some (d,[])) (hp:l.prog.theDef l.name=some (d.params,d.body,d.scope)) (hk:kwWritten? d.params.kwonlyargs d.params.kw_defaults=some []) (hwr:(!l.writes || ([]:WRecords).isEmpty)=true)
 (ok:(chainsOk q && opensWell l.prog && (frees l.row.toRowW && l.row.within.isEmpty))=true) (hb:l.prog.bare) (hw:l.row.toRowW.promised)
 (call:WalkO q loose (fun _ _=>True) (says obs good) l.row.toRowW d [] fun f vs=>PySem.call f vs):l.Holds:=by
 rw[<-PySem.W.Fast.te9446332074065402090] at look
 refine holds_law look fun said=>?_
 have lf:LeftO l.prog q loose (fun s=>recOk [] s) (fun s=>obs (XM s.heap)) (fun _=>good) N:=left e hN f fun w os=>by
  have:=h w os
  rw[show(fun s:SharedT=>(chk l.prog w.params s.abs,seenQ q loose (importedModules l.prog.main.body) (fun s=>recOk [] s) true s.abs,obs (Qk4 s)))=fun s=>(chk l.prog w.params s.abs,seenQ q loose (importedModules l.prog.main.body) (fun s=>recOk [] s) true s.abs,obs (XM s.abs.heap)) from funext fun s=>by rw[Qe5]] at this
  exact this
 exact holds_open (r:=l.row) (q:=q) (loose:=loose) (Xt:=fun s=>recOk [] s) (XP:=fun _ _=>True) (YP:=says obs good) lf (fun _ s y=>⟨XM s.heap,QgJ _,y⟩) (fun _ _ _ ⟨K,X,y⟩ k=>⟨K,X.keeps k,y⟩) (fun _ _=>trivial) (fun _ _ _ _ _=>trivial) hdef hp hk (fun _ e=>recFacts_of e) hwr said ok hb hw call
def uO:Value->Value
 | .int n _=>.int n 0
 | .str x _=>.str x 0
 | v=>v
def QbY(K:Frag):Value->Option (QpM)
 | .none=>none
 | .ref D=>(match K.lookup D with
   | some ⟨_,_,.seq items _,_⟩=>some (items.toList.map uO)
   | _=>some [])
 | _=>some []
def jG:Option (Option Value)->Addr
 | some (some (.ref f))=>f
 | _=>0
def see(K:Frag)(r:Option (Option Value))(q:Str):Option (FuncData×Option (QpM))×Bool:=match r with
 | some (some (.ref f))=>(match K.lookup f with
   | some ⟨_,_,.func fd,_⟩=>(some ({ fd with defaults:=.none,kwdefaults:=.none,doc:=.none,pyModule:=.none,annotations:=none,code:=.none,closureTuple:=.none },QbY K fd.defaults),codeIn K fd.code q && (keepIn K (.ref f) && isFn K (.ref f)))
   | _=>(none,false))
 | _=>(none,false)
abbrev QkA(x q:Str)(st:Stmt):FuncData:=fnOf x q (Zf st) (QT st) (Qh st) .none .none .none .none none .none .none
theorem Qbm{K:Frag}{r:Option (Option Value)}{x q:Str}{st:Stmt}{ds:Option (QpM)}(h:see K r q=(some (QkA x q st,ds),true)):∃(oc:Value)(od:Option Addr)(dV kV doc pm:Value)(an:Option Addr)(cdv ct:Value)(osl:Array (Option Value)),
 r=some (some (.ref (jG r)))/\K.lookup (jG r)=some ⟨oc,od,.func (fnOf x q (Zf st) (QT st) (Qh st) dV kV doc pm an cdv ct),osl⟩/\QbY K dV=ds/\codeIn K cdv q=true/\keepIn K (.ref (jG r))=true/\isFn K (.ref (jG r))=true:=by
 unfold see at h
 split at h
 .rename_i f
  split at h
  .rename_i oc od fd osl hl
   obtain⟨h1,h2⟩:=Prod.mk.inj h
   obtain⟨h3,h4⟩:=Prod.mk.inj (zg h1)
   obtain⟨c1,c2⟩:=QkP.mp h2
   obtain⟨c2,c3⟩:=QkP.mp c2
   obtain⟨n,qn,ps,b,sc,g,cl,dV,kV,doc,pm,an,cdv,ct,bs⟩:=fd
   simp only[FuncData.mk.injEq] at h3
   obtain⟨rfl,rfl,rfl,rfl,rfl,rfl,rfl,-,-,-,-,-,-,-,rfl⟩:=h3
   exact⟨oc,od,dV,kV,doc,pm,an,cdv,ct,osl,rfl,hl,h4,c1,c2,c3⟩
  .cases h
 .cases h
theorem zK{K:Frag}{r:Option (Option Value)}{x q:Str}{st:Stmt}(h:see K r q=(some (QkA x q st,none),true)):r=some (some (.ref (jG r)))/\keepIn K (.ref (jG r))=true/\isFn K (.ref (jG r))=true/\∃fd,jZ K x q st (jG r) fd:=by
 obtain⟨oc,od,dV,kV,doc,pm,an,cdv,ct,osl,h1,h2,h3,h4,h5,h6⟩:=Qbm h
 have:dV=.none:=by
  cases dV with
  | none=>rfl
  | ref D=>simp only[QbY] at h3;split at h3 <;> cases h3
  | _=>cases h3
 subst this
 exact⟨h1,h5,h6,_,Qie h2 h4 h5⟩
theorem QkS{K:Frag}{r:Option (Option Value)}{x q:Str}{st:Stmt}{b:Value}{bs:QpM}(h:see K r q=(some (QkA x q st,some (b :: bs)),true)):r=some (some (.ref (jG r)))/\keepIn K (.ref (jG r))=true/\isFn K (.ref (jG r))=true /\
 ∃(D:Addr)(kV doc pm:Value)(an:Option Addr)(cdv ct:Value)(o:Obj)(items:QpM)(n:Nat),W3 K x q st (jG r) (fnOf x q (Zf st) (QT st) (Qh st) (.ref D) kV doc pm an cdv ct)/\K.lookup D=some o/\o.data=.seq items.toArray n/\items.map uO=b :: bs:=by
 obtain⟨oc,od,dV,kV,doc,pm,an,cdv,ct,osl,h1,h2,h3,h4,h5,h6⟩:=Qbm h
 cases dV with
 | none=>cases h3
 | ref D =>
   simp only[QbY] at h3
   split at h3
   .rename_i c dd items n sl hl
    refine⟨h1,h5,h6,D,kV,doc,pm,an,cdv,ct,_,items.toList,n,QgI h2 h4 h5,hl,?_,zg h3⟩
    rw[QkQ]
   .cases h3
 | _=>cases h3
theorem map1{f:Value->Value}{b:Value}{l:QpM}(h:l.map f=[b]):∃u,l=[u]/\f u=b:=by
 match l,h with
 | [u],h=>exact⟨u,rfl,(uC h).1⟩
def bv:V->Value
 | .int n=>.int n 0
 | .str x=>.str x 0
 | .bl b=>.bool b
 | _=>.none
def flat:V->Bool
 | .int _ | .str _ | .bl _ | .non=>true
 | _=>false
theorem Qjv{v:V}{u:Value}(h:uO u=bv v)(hv:flat v=true:=by rfl):QC v u:=by
 cases v <;> first | (cases hv;done) | skip
 all_goals (cases u <;> first | (cases h;done) | skip)
 all_goals first | rfl | (injection h with h1;subst h1;exact⟨_,rfl⟩) | (injection h with h1 _;subst h1;exact⟨_,rfl⟩) | (injection h with h1;subst h1;rfl)
abbrev gl(K:Frag)(x:Str):Option (Option Value):=nsIn K mainGlobals x
abbrev cl(K:Frag)(x:Str):Addr:=jG (gl K x)
theorem zL{l:List Bool}(h:l.all id=true)(i:Nat){b:Bool}(e:l[i]?=some b):b=true:=yd.mp h b (qG e)
theorem jt{α:Type}{l m:List α}(h:l=m)(i:Nat){a b:α}(e:l[i]?=some a)(e':m[i]?=some b):a=b:=by
 subst h
 exact zg (e.symm.trans e')
theorem walk{l:OpenLaw}{n k:Nat}{q:Program}{loose:QpK}{XP:(Str->Option Value)->Heap->Prop}{α:Type}{obs:Frag->α}{good:α}{d:DefRec}{sp:Frag->Sp}{x:Str}
 (hn:l.most=some n) (hn2:n<=sizeLine) (hdf:d.params.defaults=[]) (hr:Qv k callerA)
 (F:∀(w:World)(K:Frag)(mg:Str->Option Value)(fa:Addr)(h:Heap),K.In h->obs K=good->h.Ns mainGlobals mg->mg d.name=some (.ref fa) ->
   ∃fd:FuncData,(∀(s:Shared)(u:Value),BindsTo s fd ⟨[u],[]⟩ [(x,u)])/\∀base:Heap,K.In base->base.Ns mainGlobals mg->QH l.prog w K mg base vV k fa fd [x] (sp K))
 (hsp:∀(K:Frag)(H:Hp)(a:Addr)(ns:List Int),ns.length<=n->Only H->jk K H a (ns.map V.int)->sp K [.ref a] H (fun v _=>v=.bl true) fun _ _ _=>False) :
 WalkO q loose XP (says obs good) l.row.toRowW d [] (fun f vs=>PySem.call f vs):=by
 refine Att.Qlc hn hdf fun w s₀ s₁ mg mb fa o pm cd doc a vs ns G Y ho hd hcd hmg hobj hints hlen hg=>?_
 obtain⟨K,KX,y⟩:=Y
 obtain⟨fd,hb,hF⟩:=F w K mg fa _ KX y G.T.g hmg
 exact QeI KX G.T.g G.T.b G.T.builtins G.T.nolimit hg hobj hints (zf hlen hn2) hr hF hb (fun H hO hS=>hsp K H a ns hlen hO hS) fun _ _ _ z=>z
theorem wG{K:Frag}{h:Heap}{mg:Str->Option Value}{x:Str}{v:V}(X:K.In h)(G:h.Ns mainGlobals mg)(e:(gl K x).map (Option.map uO)=some (some (bv v)))(hv:flat v=true:=by rfl):∃u,mg x=some u/\QC v u:=by
 obtain⟨r,h1,h2⟩:=xx.mp e
 obtain⟨u,h3,h4⟩:=xx.mp h2
 subst h3
 exact⟨u,mg_of X G h1,Qjv h4 hv⟩
theorem QiV{K:Frag}{C:Addr}{f:Str}(h:decide (findIn K (.ref C) f=some none)=true):ZF K C f:=by have e:findIn K (.ref C) f=some none:=qD h;exact e
end Hd
namespace L2
open PySem PySem.Spec PyProof.Rows
abbrev Ua(o:HO)(H:Hp)(Q:VK):Prop:=∀p H',H p=none->Qi H H'->H' p=some o->Q (.ref p) H'
theorem Ua.put{o:HO}{H:Hp}{Q:VK}(k:Ua o H Q){p:Addr}(hp:H p=none):Q (.ref p) (upd H p o):=k p _ hp (Qi.zT hp) Qf
inductive Qhb(xs:List V)(H:Hp)(Q:VK):Prop
 | mk:xs.length<=sizeLine->Ua (.lst xs) H Q->Qhb xs H Q
inductive Qha(xs:List V)(H:Hp)(Q:VK):Prop
 | mk:xs.length<=sizeLine->Ua (.tup xs) H Q->Qha xs H Q
def tLstG(t:TA):TE:=fun σ H Q=>t σ H fun xs H1=>Qhb xs H1 Q
def tTupG(t:TA):TE:=fun σ H Q=>t σ H fun xs H1=>Qha xs H1 Q
theorem QR{X:Cx}{es:List Expr}{t:TA}{pos:Pos}(h:PAs X es t):PE X (.List es pos) (tLstG t):=by
 intro pins s σ H Q I hq
 refine wpAny_List_spliced (j0 (h.h pos pins s σ H _ I hq) fun us s1 ⟨xs,H1,I1,r,z,q⟩=>⟨by rw[<-r.length];exact z,?_⟩)
 have hf:H1 s1.heap.objs.size=none:=I1.hok.fresh (qp _)
 refine⟨.ref s1.heap.objs.size,upd H1 s1.heap.objs.size (.lst xs),I1.laid (t':=s1.toks) (fun b u e=>qw _ e) (qp _) ?_,rfl,Ua.put q hf⟩
 exact⟨z,us,0,r,qN _ rfl⟩
theorem Zn{X:Cx}{es:List Expr}{t:TA}{x1:Nat}{pos:Pos}(h:PAs X es t):PE X (.Tuple es x1 pos) (tTupG t):=by
 intro pins s σ H Q I hq
 refine wpAny_Tuple_spliced (j0 (h.h pos pins s σ H _ I hq) fun us s1 ⟨xs,H1,I1,r,z,q⟩=>⟨by rw[<-r.length];exact z,?_⟩)
 have hf:H1 s1.heap.objs.size=none:=I1.hok.fresh (qp _)
 refine⟨.ref s1.heap.objs.size,upd H1 s1.heap.objs.size (.tup xs),I1.laid (t':=s1.toks) (fun b u e=>qw _ e) (qp _) ?_,rfl,Ua.put q hf⟩
 exact⟨z,us,r,⟨_,qN _ rfl,rfl,_,rfl⟩⟩
theorem SlR.mono{X:Cx}{r r':V->Option Int->Option Int->Hp->VK->Prop}(h:SlR X r)(k:∀x lo hi H Q,r' x lo hi H Q->r x lo hi H Q):SlR X r' :=
 fun pins s σ H x v vl vu lo hi sl Q I rx hs pl pu q=>h pins s σ H x v vl vu lo hi sl Q I rx hs pl pu (k _ _ _ _ _ q)
theorem uz.mono{X:Cx}{f:Value->Value->Sem Value}{r r':R2}(h:uz X f r)(k:∀x y H Q,r' x y H Q->r x y H Q):uz X f r' :=
 fun pins s σ H x y v u Q I rx ry q=>h pins s σ H x y v u Q I rx ry (k _ _ _ _ q)
inductive gSlL(K:Frag)(x:V)(lo hi:Option Int)(H:Hp)(Q:VK):Prop
 | mk:∀a xs,x=.ref a->jk K H a xs->Ua (.lst (UR xs lo hi)) H Q->gSlL K x lo hi H Q
theorem JY{X:Cx}:SlR X (gSlL X.K):=QfU.mono fun x lo hi H Q ⟨a,xs,e,h,k⟩=>⟨a,xs,e,h,fun p hp=>Ua.put k hp⟩
inductive gCat(x y:V)(H:Hp)(Q:VK):Prop
 | mk:∀l b xs zs,x=.ref l->y=.ref b->H l=some (.lst xs)->H b=some (.lst zs)->xs.length+zs.length<=sizeLine->Ua (.lst (xs++zs)) H Q->gCat x y H Q
theorem VG{X:Cx}:uz X (binaryOp .Add) gCat:=Qek.mono fun x y H Q ⟨l,b,xs,zs,e1,e2,h1,h2,hz,k⟩=>⟨l,b,xs,zs,e1,e2,h1,h2,hz,fun p hp=>Ua.put k hp⟩
theorem Qfj{α:Type}(f:α->V)(xs:List α)(v:Int)(h:0<=v):UR (xs.map f) (some v) none=(xs.drop v.toNat).map f:=by
 have hv:¬v<0:=by omega
 simp only[UR,HT.sIx,ql hv,qd,<-List.map_drop,<-List.map_take]
 congr 1
 by_cases hl:v.toNat<=xs.length
 .rw[show min v.toNat xs.length=v.toNat by omega]
  exact zj (by rw[jh];omega)
 .rw[show min v.toNat xs.length=xs.length by omega,List.drop_eq_nil_of_le (qp _),List.drop_eq_nil_of_le (show xs.length<=v.toNat by omega)]
  simp
end L2
namespace L2
open PySem PySem.Spec PyProof.Rows
section
variable {X:Cx}{o e:Expr}{es:List Expr}{ta:TE}{t:TA}{m:Str}{apos pos:Pos}
end
end L2
namespace L2
open PySem PySem.Spec PyProof.Rows
end L2
namespace L2
open PySem PySem.Spec PyProof.Rows
end L2
namespace Hd
open PySem PySem.W L2
end Hd
namespace L2
open PySem PySem.Spec PyProof.Rows
section
variable {X:Cx}{e:Expr}{es:List Expr}{te:TE}{t:TF}{pos:Pos}
end
end L2
namespace L2
open PySem PySem.Spec PyProof.Rows
end L2
namespace L2
open PySem PySem.Spec PyProof.Rows
end L2
namespace L2
open PySem PySem.Spec PyProof.Rows
section
variable {X:Cx}{pins:List (Addr×Obj)}{σ:List (Option V)}{H:Hp}{s:Shared}
end
end L2
namespace L2
open PySem PySem.Spec PyProof.Rows
section
variable {P:Program}{w:World}{K:Frag}{mg:Str->Option Value}{base:Heap}
end
section
variable {X:Cx}{CX:CXT}{k:Nat}{f C:Addr}{fd:FuncData}{ps:QpK}{ds:QpM}{wk:List V}{sp:Sp}{E:XK}{x:Str}{p pos:Pos}{e o:Expr}{es:List Expr}{t:TA}{st:Stmt}{rest:List Stmt}{ts u:TS}{te ta tv:TE}
end
end L2
namespace L2
open PySem PySem.Spec PyProof.Rows
section
variable {prog:Program}{w:World}{A:Around}{R:Result->Shared->Prop}{I:Addr}{fp wr:List Addr}{n:Nat}{P:Nat->Value->Prop}{St:Nat->Heap->Prop}{dv:Value}
theorem U8:(toString "max"++toString ".loop":String)="max.loop":=by decide
theorem QcO(W:Walks prog w A.in1 I fp wr n P St)(bt:Nat->Nat->Bool)(hcmp:CmpOf prog w A.in1 .Gt P bt)(S:Addr)(hSf:S∉fp):∀(k j:Nat)(s:Shared)(vb:Value)(c:Nat),n - (j+1)=k->j+1<=n->St (j+1) s.heap->P (argBest bt j) vb->s.heap.get? S=some { cls:=.type "list",dict:=none,data:=.seq #[vb,vb] c,slots:=#[] } ->
 (∀v h' tk,P (argBest bt (n - 1)) v->(∀b o,b∉wr->b≠S->s.heap.get? b=some o->h'.get? b=some o)->R (.ok (.ret v)) { s with heap:=h',toks:=tk })->codeAny (model prog w) A (.builtin "max.loop" ⟨[.ref I,.none,.ref S],[(Str.ofString "default",dv)]⟩) R s:=by
 have hSw:S∉wr:=fun h=>hSf (W.sub _ h)
 intro k
 induction k with
 | zero =>
   intro j s vb c hk hj hst hPb hS hR
   have hin:j+1=n:=by omega
   refine QiH entry_max_loop ?_;rw[wC plain_max_loop _];show wpAny _ A.in1 (seqItems? (.ref S) >>= _) _ _ s
   refine qb (wpAny_seqItems hS rfl ?_);show wpAny _ A.in1 (tryCatch (pyNext (.ref I)) _ >>= _) _ _ s
   refine qb (Qjb (W.done s _ _ (hin▸hst) fun h' tk hk'=>?_));have hS':=hk' S _ hSw hS
   show wpAny _ A.in1 (updateSeq S (fun _=>#[]) >>= _) _ _ _;refine qb ?_
   refine wpAny_updateSeq hS' rfl (qb (Qj1 (qx ?_)));refine hR vb _ tk (by rw[<-hin];exact hPb) fun b o hbw hbS e=>(j9 _ _ (gC hbS)).trans (hk' b o hbw e)
 | succ k ih =>
   intro j s vb c hk hj hst hPb hS hR
   have hlt:j+1<n:=by omega
   refine QiH entry_max_loop ?_;rw[wC plain_max_loop _];show wpAny _ A.in1 (seqItems? (.ref S) >>= _) _ _ s
   refine qb (wpAny_seqItems hS rfl ?_);show wpAny _ A.in1 (tryCatch (pyNext (.ref I)) _ >>= _) _ _ s
   refine qb (Qjb (W.item (j+1) s _ _ hlt hst fun v h' tk hP hst' hk'=>?_));have hS':=hk' S _ hSw hS
   show wpAny _ A.in1 (tryCatch (holding [v,v] (richCompare .Gt v vb >>= _)) _ >>= _) _ _ _;refine qb (Qjb (jP (qb (hcmp (j+1) (argBest bt j) v vb _ _ _ hP hPb ?_))))
   refine qb (jP (jz ?_));refine qb (Qj1 (qx ?_))
   cases hb:bt (j+1) (argBest bt j) with
   | true =>
     simp only[gD];refine qb ?_
     refine wpAny_updateSeq hS' rfl (qb (Qj1 ?_));rw[U8]
     refine qx ⟨Qkd plain_max_loop _,ih (j+1) _ v _ (by omega) hlt (W.frame _ _ _ hst' fun b hbf o e=>(j9 _ _ (fun h:S=b=>hSf (by rw[h];exact hbf))).trans e) (by simp only[argBest,hb,gD];exact hP) (vN _ hS' rfl) fun v' h'' tk'' hP' hk''=>?_⟩
     exact hR v' h'' tk'' hP' fun b o hbw hbS e=>hk'' b o hbw hbS ((j9 _ _ (gC hbS)).trans (hk' b o hbw e))
   | false =>
     simp only[zM,jD];refine qb (Qj1 ?_);rw[U8]
     refine qx ⟨Qkd plain_max_loop _,ih (j+1) _ vb c (by omega) hlt hst' (by simp only[argBest,hb,zM,jD];exact hPb) hS' fun v' h'' tk'' hP' hk''=>hR v' h'' tk'' hP' fun b o hbw hbS e=>hk'' b o hbw hbS (hk' b o hbw e)⟩
theorem QaN(W:Walks prog w A.in1 I fp wr n P St)(bt:Nat->Nat->Bool)(hcmp:CmpOf prog w A.in1 .Gt P bt)(S:Addr)(hSf:S∉fp){s:Shared}{c:Nat}(hst:St 0 s.heap)(hS:s.heap.get? S=some { cls:=.type "list",dict:=none,data:=.seq #[] c,slots:=#[] })
 (hR:∀v h' tk,(0<n/\P (argBest bt (n - 1)) v\/n=0/\v=dv)->(∀b o,b∉wr->b≠S->s.heap.get? b=some o->h'.get? b=some o)->R (.ok (.ret v)) { s with heap:=h',toks:=tk }):codeAny (model prog w) A (.builtin "max.loop" ⟨[.ref I,.none,.ref S],[(Str.ofString "default",dv)]⟩) R s:=by
 have hSw:S∉wr:=fun h=>hSf (W.sub _ h)
 refine QiH entry_max_loop ?_;rw[wC plain_max_loop _];show wpAny _ A.in1 (seqItems? (.ref S) >>= _) _ _ s
 refine qb (wpAny_seqItems hS rfl ?_);show wpAny _ A.in1 (tryCatch (pyNext (.ref I)) _ >>= _) _ _ s
 by_cases hn:0<n
 .refine qb (Qjb (W.item 0 s _ _ hn hst fun v h' tk hP hst' hk'=>?_));have hS':=hk' S _ hSw hS
  show wpAny _ A.in1 (updateSeq S (fun _=>#[v,v]) >>= _) _ _ _;refine qb ?_
  refine wpAny_updateSeq hS' rfl ?_;rw[U8]
  refine qx ⟨Qkd plain_max_loop _,QcO W bt hcmp S hSf _ 0 _ v _ rfl hn (W.frame _ _ _ hst' fun b hbf o e=>(j9 _ _ (fun h:S=b=>hSf (by rw[h];exact hbf))).trans e) hP (vN _ hS' rfl) fun v' h'' tk'' hP' hk''=>?_⟩
  exact hR v' h'' tk'' (.inl ⟨hn,hP'⟩) fun b o hbw hbS e=>hk'' b o hbw hbS ((j9 _ _ (gC hbS)).trans (hk' b o hbw e))
 .have h0:n=0:=by omega
  refine qb (Qjb (W.done s _ _ (h0▸hst) fun h' tk hk'=>?_))
  refine qb (wpAny_rule (qx ?_))
  exact hR dv h' tk (.inr ⟨h0,rfl⟩) fun b o hbw _ e=>hk' b o hbw e
end
def mxd(d:Int):List Int->Int
 | []=>d
 | n :: ns=>ns.foldl max n
theorem QbB{d:Int}{ns:List Int}(hne:0<ns.length){M:Int}(hm:M∈ns)(ht:∀a∈ns,a<=M):M=mxd d ns:=by
 cases ns with
 | nil=>cases hm
 | cons n ns =>
   have key:∀(l:List Int)(z:Int),z<=l.foldl max z/\(∀a∈l,a<=l.foldl max z)/\(l.foldl max z=z\/l.foldl max z∈l):=by
    intro l
    induction l with
    | nil=>intro z;exact⟨uG _,(fun a h=>nomatch h),.inl rfl⟩
    | cons y l ih =>
      intro z
      obtain⟨h1,h2,h3⟩:=ih (max z y)
      refine⟨by show z<=l.foldl max (max z y);omega,fun a ha=>?_,?_⟩
      .rcases qR.mp ha with rfl | ha
       .show a<=l.foldl max (max z a);omega
       .exact h2 a ha
      .show l.foldl max (max z y)=z\/l.foldl max (max z y)∈y :: l
       rcases h3 with h3 | h3
       .rw[h3]
        by_cases hz:y<=z
        .left;omega
        .right;rw[show max z y=y by omega];exact qI
       .exact .inr (qu _ h3)
   obtain⟨h1,h2,h3⟩:=key ns n
   show M=ns.foldl max n
   have u1:M<=ns.foldl max n:=by
    rcases qR.mp hm with rfl | hm
    .exact h1
    .exact h2 M hm
   have u2:ns.foldl max n<=M:=by
    rcases h3 with h3 | h3
    .rw[h3];exact ht n qI
    .exact ht _ (qu _ h3)
   omega
theorem Uj:∀{us:QpM}{ns:List Int},Qx (ns.map V.int) us->∃xs:Array (Int×Tok),us.toArray=intItems xs/\ns=xs.toList.map (·.1)
 | _,[],.nil=>⟨#[],by simp[intItems],rfl⟩
 | _,n :: ns,.cons r rs=>by
   obtain⟨t,rfl⟩:=r
   obtain⟨xs,e1,e2⟩:=Uj rs
   refine⟨#[(n,t)]++xs,?_,?_⟩
   .have:=zB Array.toList e1
    simp only[intItems,Qjc] at this
    apply Array.ext'
    simp[intItems,this]
   .simp[e2]
theorem Vf(a v:Value):argsOk "max" ⟨[a],[(Str.ofString "default",v)]⟩:=by unfold argsOk;kernel_rfl
inductive Qbb(K:Frag)(d:Int)(Q:VK)(x:V)(H1:Hp):Prop
 | mk:∀l (ns:List Int),x=.ref l->jk K H1 l (ns.map V.int)->Q (.int (mxd d ns)) H1->Qbb K d Q x H1
def tMaxd(K:Frag)(te:TE)(d:Int):TE:=fun σ H Q=>te σ H fun x H1=>Qbb K d Q x H1
theorem Qgb{X:Cx}{e:Expr}{te:TE}{d:Int}{j:Nat}{p pos cp kp:Pos}(hc:X.calm=true)(hg:Gl X "max")(hm:X.mg "max"=none)(ha:PE X e te)
 (he:starEach [e] X.env=[(false,eval e X.env)]:=by rfl) :
 PE X (.Call (.Name "max" p) [e] [⟨some "default",.Constant (.int d) j cp,kp⟩] pos) (tMaxd X.K te d):=by
 intro pins s σ H Q I h
 refine jC (Yr I hg hm boot_max ?_ (by decide) (by decide))
 refine callWith_kw ?_ (by rw[he];rfl) (by rw[he];rfl) (by rfl) (by rfl)
 rw[he]
 show wpAny _ _ (spliced ((false,eval e X.env) :: backTo pos [])) _ _ s
 refine yH (j0 (ha pins s σ H _ I h) fun u s1 ⟨x,H1,I1,r1,q1⟩=>vP ?_)
 obtain⟨l,ns,rfl,hl,q⟩:=q1
 cases r1
 refine kws_cons (wpAny_Constant_int (kws_nil ?_))
 show wpAny _ _ (call (.builtin "max") [.ref l] [(Str.ofString "default",.int d s1.toks)]) _ _ { s1 with toks:=s1.toks+1 }
 obtain⟨its,rv,pl,_⟩:=I1.list hl
 obtain⟨xs,e1,e2⟩:=Uj rv
 have hls:s1.heap.IsList l (intItems xs):=by rw[<-e1];exact pl.isList
 have hhd:X.A.handled=none:=I.ok.hd hc
 refine kmk_tree PySem.F.kind_max PySem.F.plain_max PySem.F.entry_max (Vf _ _) ?_
 show wpAny _ X.A.in1 (Builtin.Builtins.bindParams "max" ["key","default"] 0 ⟨[],[(Str.ofString "default",.int d s1.toks)]⟩ >>= _) _ _ _
 refine qb (wpAny_of_eq (show Builtin.Builtins.bindParams "max" ["key","default"] 0 ⟨[],[(Str.ofString "default",.int d s1.toks)]⟩=pure [none,some (.int d s1.toks)] from rfl) ?_)
 refine qb (qx ?_)
 refine qb (iter_intList (s:={ s1 with toks:=s1.toks+1 }) hls fun s2 es2 st hfp hlI=>?_)
 subst es2
 refine qb (jN ?_)
 have W:=Walks.list (prog:=X.prog) (w:=X.w) (A:=X.A.in1) hhd s1.heap.objs.size l hlI (intItems xs)
 have hSf:(s1.heap.push { cls:=.type "list_iterator",data:=.fields #[.ref l,.int 0 0] }).objs.size∉[s1.heap.objs.size,l]:=fun hm=>jT _ (hfp _ hm)
 refine qx ⟨Qkd plain_max_loop _,?_⟩
 refine QaN W (fun i j=>decide (numAt xs i > numAt xs j)) (CmpOf.ints_gt (numAt xs) (fun _ _=>intItems_at)) _ hSf (W.frame _ _ _ st fun b _ o e=>qw _ e) (qN _ rfl) fun v h' tk hP hk=>?_
 have I2:Inv X pins σ H1 { s1 with heap:=h',toks:=tk }:=I1.kept (t':=tk) fun b o e=>by
  have lb:=qT e
  refine hk b o (fun hm=>?_) (zp (zx lb (by rw[Heap.size_push];exact yo _))) (qw _ (qw _ e))
  rcases qR.mp hm with e1 | hm
  .exact absurd (e1▸lb) (jT _)
  .cases hm
 have hsz:(intItems xs).size=ns.length:=by rw[e2];simp[intItems]
 rcases hP with⟨hn,hv⟩ | ⟨hn,rfl⟩
 .obtain⟨t,rfl⟩:=intItems_at hv
  obtain⟨h1,h2⟩:=argBest_gt (numAt xs) ((intItems xs).size - 1)
  have hxs:xs.size=ns.length:=by rw[e2];simp
  have eM:numAt xs (argBest (fun i j=>decide (numAt xs i > numAt xs j)) ((intItems xs).size - 1))=mxd d ns:=by
   refine QbB (by omega) ?_ fun a ha=>?_
   .rw[e2,numAt_eq];exact getD_mem (by rw[qd,qH];omega)
   .rw[e2] at ha
    obtain⟨i,hi,rfl⟩:=mem_getD ha
    rw[qd,qH] at hi
    rw[<-numAt_eq];exact h2 i (by omega)
  exact⟨.int (mxd d ns),H1,I2,⟨t,by rw[eM]⟩,q⟩
 .have en:ns=[]:=List.length_eq_zero_iff.mp (by omega)
  subst en
  exact⟨.int d,H1,I2,⟨_,rfl⟩,q⟩
end L2
namespace L2
open PySem PySem.Spec PyProof.Rows
end L2
namespace L2
open PySem PySem.Spec PyProof.Rows
end L2
namespace HT
open PySem PyProof.Rows
section
open PySem.SeqAt
open PySem.AutoSeq1 (wpAny_loadPart')
open PySem.MeetsSeq PySem.MeetsSeq2 PySem.MeetsSeq3
end
end HT
namespace L2
open PySem PySem.Spec PyProof.Rows
end L2
namespace L2
open PySem PySem.Spec PyProof.Rows
theorem QK{N P:QpK}{sc:Scope}(h:(sc.kind=.function/\sc.isCoroutine=false/\sc.isGenerator=false)/\N.Nodup/\N.take P.length=P/\(∀x∈P,sc.names.lookup x=some .local\/sc.names.lookup x=some .cell)/\∀y∈sc.names,y.2≠.free):Qq N P sc:=⟨h.1.1,h.1.2.1,h.1.2.2,h.2.1,h.2.2.1,h.2.2.2.1,h.2.2.2.2⟩
abbrev Tab:=Option Str×Str×Str×Stmt×Option (QpM)
def tF(x:Str)(s:Stmt):Tab:=(none,x,x,s,none)
def tM(c x q:Str)(s:Stmt):Tab:=(some c,x,q,s,none)
def tD(c:Option Str)(x q:Str)(s:Stmt)(d:QpM):Tab:=(c,x,q,s,some d)
section
variable {K:Frag}{x qual:Str}{st:Stmt}{f:Addr}{fd:FuncData}{ps:QpK}
theorem jZ.bd1(F:jZ K x qual st f fd)(h:∀(a kV doc pm:Value)(an:Option Addr)(cdv ct:Value),bindArgs (fnOf x qual (Zf st) (QT st) (Qh st) .none kV doc pm an cdv ct) ⟨[a],[]⟩=pure (ps.zip [a]))(n:ps.length=1):Qw K fd ps []:=F.binds fun kV doc pm an cdv ct us hl=>by
 rw[n] at hl;revert us;refine QoM ?_;intros;exact h _  kV doc pm an cdv ct
theorem jZ.bd2(F:jZ K x qual st f fd)(h:∀(a b kV doc pm:Value)(an:Option Addr)(cdv ct:Value),bindArgs (fnOf x qual (Zf st) (QT st) (Qh st) .none kV doc pm an cdv ct) ⟨[a,b],[]⟩=pure (ps.zip [a,b]))(n:ps.length=2):Qw K fd ps []:=F.binds fun kV doc pm an cdv ct us hl=>by
 rw[n] at hl;revert us;refine QoL ?_;intros;exact h _ _  kV doc pm an cdv ct
theorem jZ.bd3(F:jZ K x qual st f fd)(h:∀(a b c kV doc pm:Value)(an:Option Addr)(cdv ct:Value),bindArgs (fnOf x qual (Zf st) (QT st) (Qh st) .none kV doc pm an cdv ct) ⟨[a,b,c],[]⟩=pure (ps.zip [a,b,c]))(n:ps.length=3):Qw K fd ps []:=F.binds fun kV doc pm an cdv ct us hl=>by
 rw[n] at hl;revert us;refine us_3 ?_;intros;exact h _ _ _  kV doc pm an cdv ct
theorem jZ.bd4(F:jZ K x qual st f fd)(h:∀(a b c d kV doc pm:Value)(an:Option Addr)(cdv ct:Value),bindArgs (fnOf x qual (Zf st) (QT st) (Qh st) .none kV doc pm an cdv ct) ⟨[a,b,c,d],[]⟩=pure (ps.zip [a,b,c,d]))(n:ps.length=4):Qw K fd ps []:=F.binds fun kV doc pm an cdv ct us hl=>by
 rw[n] at hl;revert us;refine us_4 ?_;intros;exact h _ _ _ _  kV doc pm an cdv ct
theorem jZ.bd5(F:jZ K x qual st f fd)(h:∀(a b c d e kV doc pm:Value)(an:Option Addr)(cdv ct:Value),bindArgs (fnOf x qual (Zf st) (QT st) (Qh st) .none kV doc pm an cdv ct) ⟨[a,b,c,d,e],[]⟩=pure (ps.zip [a,b,c,d,e]))(n:ps.length=5):Qw K fd ps []:=F.binds fun kV doc pm an cdv ct us hl=>by
 rw[n] at hl;revert us;refine QoK ?_;intros;exact h _ _ _ _ _  kV doc pm an cdv ct
end
end L2
namespace L2
open PySem PySem.Spec PyProof.Rows
end L2
namespace L2
open PySem PySem.Spec PyProof.Rows
end L2
namespace L2
open PySem PySem.Spec PyProof.Rows
section
variable {X:Cx}{pins:List (Addr×Obj)}{σ:St}{H:Hp}{s:Shared}{a:Addr}
structure YB(X:Cx)(pins:List (Addr×Obj))(a:Addr):Prop where
 sz:X.s₀.heap.objs.size<=a
 loc:a≠X.env.locals
 cell:∀x c,X.env.cells.lookup x=some c->c≠a
 pin:∀p∈X.pn++pins,p.1≠a
 fs:a∉X.fs
theorem Inv.ours(I:Inv X pins σ H s)(h:s.heap.objs.size<=a):YB X pins a :=
 ⟨zf I.sz h,fun z=>absurd I.lt (by rw[<-z];exact Nat.not_lt_of_le h),fun x c e z=>by obtain⟨v,o,ho,_⟩:=I.cell x c e;exact absurd (qT ho) (by rw[z];exact Nat.not_lt_of_le h),fun p hp z=>absurd (qT (I.pin p hp).1) (by rw[z];exact Nat.not_lt_of_le h),I.nofs h⟩
theorem Inv.vX{h':Heap}{t':Nat}(I:Inv X pins σ H s)(o:YB X pins a)(hn:H a=none)(k:∀b u,b≠a->s.heap.get? b=some u->h'.get? b=some u):Inv X pins σ H { s with heap:=h',toks:=t' }:=I.turned k hn o.loc (.inr o.sz) o.cell o.pin
theorem gq.adopt{P:Program}{w:World}{h:Heap}{o:HO}(x:gq P w H h)(hn:H a=none)(new:QG P w (upd H a o) h a o):gq P w (upd H a o) h:=fun b u e=>by
 by_cases hb:b=a
 .subst hb;rw[Qf] at e;cases e;exact new
 .rw[Qj hb] at e
  have nn:∀c v,H c=some v->(upd H a o) c=some v:=fun c v q=>by rw[Qj (fun z=>by rw[z,hn] at q;cases q)];exact q
  exact(x b u e).stay (fun _ _ _ q=>q) (fun _ q=>nn _ _ q) fun _ _ q=>nn _ _ q
theorem Inv.adopt{o:HO}(I:Inv X pins σ H s)(ou:YB X pins a)(hn:H a=none)(new:QG X.prog X.w (upd H a o) s.heap a o):Inv X pins σ (upd H a o) s:=by
 have nn:∀c v,H c=some v->(upd H a o) c=some v:=fun c v q=>by rw[Qj (fun z=>by rw[z,hn] at q;cases q)];exact q
 refine I.step (h':=s.heap) (g':=s.gens) (t':=s.toks) (d':=s.drawn) (ch:=[a]) (fun b hb=>?_) (fun b o _ _ _ e _=>e) (fun b o _ _ _ e _=>⟨o.slots,e⟩) (fun b o' hc _ n=>by rw[Qj (fun z=>hc (by simp[z]))];exact n) (fun b o _ e=>⟨o,e⟩) (fun b xs e=>nn _ _ e) (fun b o u e=>nn _ _ e) (fun b ps e=>⟨#[],by rw[nn _ _ e];simp⟩) (fun m hm=>hm) (I.hok.adopt hn new) I.bare
 have e:b=a:=by simpa using hb
 subst e
 exact⟨.inr ou.sz,ou.loc,ou.cell,ou.pin⟩
abbrev KD:=Int ⊕ (Int×Str)
def KOk(G:Hp)(k:V):KD->Prop
 | .inl n=>k=.int n
 | .inr (n,x)=>∃t,k=.ref t/\G t=some (.tup [.int n,.str x])
theorem KOk.mono{G G':Hp}{k:V}{d:KD}(s:Qi G G')(h:KOk G k d):KOk G' k d:=by
 cases d with
 | inl n=>exact h
 | inr p=>obtain⟨t,e,q⟩:=h;exact⟨t,e,s _ _ q⟩
def uy:KD->KD->Bool
 | .inl n,.inl m=>decide (n<m)
 | .inr (n,x),.inr (m,y)=>if n=m then (if x=y then false else decide (x.cps.toList<y.cps.toList)) else decide (n<m)
 | _,_=>false
def ZE(ds:List KD):List Nat:=if ds.length<2 then List.range ds.length else (zZ (fun i j=>uy (ds.getD i (.inl 0)) (ds.getD j (.inl 0))) (W.kas_sort ds.length)).toList
theorem ZH(ds:List KD):(ZE ds).Perm (List.range ds.length):=by
 unfold ZE
 split
 .exact .refl _
 .exact(Ks (n:=ds.length) (by omega)).end_
theorem GL(ds:List KD):(ZE ds).length=ds.length:=by rw[(ZH ds).length_eq,List.length_range]
theorem GI{k:Nat}{f:Addr}{fd:FuncData}{p:Str}{sp:Sp}{x:V}{u:Value}{Q:VK}{E:QpL}(F:QH X.prog X.w X.K X.mg X.base vV k f fd [p] sp)(hr:Qv k X.A.in1.in1)(hb:Qw X.K fd [p] [])(I:Inv X pins σ H s)(r:QC x u)(h:sp [x] H Q E0) :
 wpAny (model X.prog X.w) X.A.in1.in1 (call (.ref f) [u]) (EP X pins σ Q) E s:=by
 refine wpAny_call (wJ (F.run X.A.in1.in1 X.stack s H ⟨[u],[]⟩ [u] [x] Q E0 hr I.env0.in1.in1 (hb s [u] I.uM rfl) (.cons r .nil) h) fun r s' hq=>?_)
 cases r with
 | error e=>exact False.elim hq
 | ok fl =>
   cases fl with
   | ret u=>exact I.after hq
   | next=>exact False.elim hq
   | brk=>exact False.elim hq
   | cont=>exact False.elim hq
def Uq(G:Hp)(ks:List V)(ds:List KD):Prop:=∀(i:Nat)(k:V)(d:KD),ks[i]?=some k->ds[i]?=some d->KOk G k d
theorem Vy:∀{xs:List V}{us:QpM}{i:Nat}{u:Value},Qx xs us->us[i]?=some u->∃x,xs[i]?=some x/\QC x u
 | _,_,0,_,.cons r _,e=>by cases e;exact⟨_,rfl,r⟩
 | _,_,i+1,_,.cons _ rs,e=>Vy (i:=i) rs e
theorem WC:∀{ks:List V}{us:QpM}{ds:List KD}{G:Hp},Qx ks us->ks.length=ds.length->Uq G ks ds->(∀d∈ds,∃n,d=.inl n)->IntsAre us (ds.map fun d=>d.elim id (·.1))
 | _,_,[],_,.nil,_,_,_=>.nil
 | _,_,[],_,.cons _ _,h,_,_=>by simp at h
 | _,_,_ :: _,_,.nil,h,_,_=>by simp at h
 | _,_,d :: ds,G,.cons r rs,h,hk,hi=>by
   obtain⟨n,rfl⟩:=hi d (qI ..)
   have e:=hk 0 _ _ rfl rfl
   cases e
   obtain⟨t,rfl⟩:=r
   exact .cons n t (WC rs (by simpa using h) (fun i k d a b=>hk (i+1) k d a b) fun d hd=>hi d (qu _ hd))
theorem VS:∀{ks:List V}{us:QpM}{ds:List KD},Inv X pins σ H s->Qx ks us->ks.length=ds.length->Uq H ks ds->(∀d∈ds,∃n x,d=.inr (n,x))->∃fs,W.KatTups s.heap us fs/\fs.length=ds.length/\∀v∈fs,∃n t,v=.int n t
 | _,_,[],_,.nil,_,_,_=>⟨[],W.KatTups.nil,rfl,fun v hv=>nomatch hv⟩
 | _,_,[],_,.cons _ _,h,_,_=>by simp at h
 | _,_,_ :: _,_,.nil,h,_,_=>by simp at h
 | _,_,d :: ds,I,.cons r rs,h,hk,hi=>by
   obtain⟨n,x,rfl⟩:=hi d (qI ..)
   obtain⟨t,e,q⟩:=hk 0 _ _ rfl rfl
   cases e
   cases r
   obtain⟨fs,a1,a2,a3⟩:=VS I rs (by simpa using h) (fun i k d a b=>hk (i+1) k d a b) fun d hd=>hi d (qu _ hd)
   obtain⟨_,its,rv,ob,e1,e2,n',e4⟩:=(show QG X.prog X.w H s.heap t (.tup [.int n,.str x]) from I.hok t _ q)
   cases rv with
   | cons r1 rr =>
     obtain⟨t1,rfl⟩:=r1
     exact⟨.int n t1 :: fs,W.KatTups.cons e1 e2 e4 rfl a1,zB (·+1) a2,fun v hv=>by
      rcases qR.mp hv with rfl | hv
      .exact⟨n,t1,rfl⟩
      .exact a3 v hv⟩
theorem Zl{α:Type}{l:List α}{i:Nat}{d:α}(h:i<l.length):l.getD i d∈l:=by
 rw[zr,qe h];exact yZ h
theorem UJ{t:Addr}{v:Value}(h:QC (.ref t) v):v=.ref t:=by cases h;rfl
theorem JT{ks:List V}{us:QpM}{ds:List KD}(rv:Qx ks us)(hl:ks.length=ds.length)(hk:Uq H ks ds){i:Nat}(hi:i<ds.length):∃k,QC k (us.getD i .none)/\KOk H k (ds.getD i (.inl 0)):=by
 have z:us.length=ds.length:=by rw[<-rv.length];exact hl
 have eu:us[i]?=some (us.getD i .none):=by rw[zr,qe (by omega)];rfl
 have ed:ds[i]?=some (ds.getD i (.inl 0)):=by rw[zr,qe hi];rfl
 obtain⟨k,e,r⟩:=Vy rv eu
 exact⟨k,r,hk i _ _ e ed⟩
theorem Qbt{A:Around}{E:QpL}{Q:Bool->Shared->Prop}{t1 t2:Addr}{n m:Int}{x y:Str}(I:Inv X pins σ H s)(e1:H t1=some (.tup [.int n,.str x]))(e2:H t2=some (.tup [.int m,.str y]))(q:Q (uy (.inr (n,x)) (.inr (m,y))) s) :
 wpAny (model X.prog X.w) A (keyLt' (tuples' true) (.ref t1) (.ref t2)) Q E s:=by
 obtain⟨_,its,rv,ob,a1,a2,n1,a4⟩:=(show QG X.prog X.w H s.heap t1 (.tup [.int n,.str x]) from I.hok t1 _ e1)
 obtain⟨_,its',rv',ob',c1,c2,n2,c4⟩:=(show QG X.prog X.w H s.heap t2 (.tup [.int m,.str y]) from I.hok t2 _ e2)
 cases rv with
 | cons r1 rr =>
   cases rr with
   | cons r2 rr =>
     cases rr
     obtain⟨u1,rfl⟩:=r1
     obtain⟨u2,rfl⟩:=r2
     cases rv' with
     | cons r1 rr =>
       cases rr with
       | cons r2 rr =>
         cases rr
         obtain⟨w1,rfl⟩:=r1
         obtain⟨w2,rfl⟩:=r2
         refine W.kat_lt a1 a4 c1 c4 ?_
         refine W.kat_cons (wpAny_eqBool_int (W.kat_go (fun e=>?_) (fun e=>?_)))
         .have e:n=m:=by simpa using e
          subst e
          refine W.kat_yes (W.kat_cons (SeqAt.EqAt.str_str x u2 y w2 _ _ _ _ (W.kat_go (fun e=>?_) (fun e=>?_))))
          .have e:x=y:=eq_of_beq e
           subst e
           refine W.kat_yes (W.kat_nil ?_)
           simpa[uy] using q
          .have ne:x≠y:=fun z=>by rw[z,yX] at e;cases e
           have eq:uy (.inr (n,x)) (.inr (n,y))=decide (x.cps.toList<y.cps.toList):=by
            show(if n=n then (if x=y then false else decide (x.cps.toList<y.cps.toList)) else decide (n<n))=_
            rw[qj rfl,ql ne]
           have q':Q (decide (x.cps.toList<y.cps.toList)) s:=by rw[<-eq];exact q
           exact W.kat_no (W.kat_one _ _ (lt_str q'))
         .have ne:n≠m:=fun z=>by rw[z] at e;simp at e
          refine W.kat_no (oneLt_int ?_)
          simpa[uy,ne] using q
theorem QeM{A:Around}{E:QpL}{P:PySem.Fin->Shared->Prop}{st:SortSt}{kS:Addr}{kA:Array Value}{e e1:Nat}{ys:List V}{out:QpM}(I:Inv X pins σ H s)(oa:YB X pins a)(ok:YB X pins kS)(ne:kS≠a)(na:H a=none)(nk:H kS=none)
 (ea:s.heap.get? a=some (seqObj "list" #[] e1)) (ek:s.heap.get? kS=some (seqObj "list" kA e)) (h64:kA.size<64) (ho:(arrOf st).map (·.2)=out.toArray) (hf:failedOf st=none) (rv:Qx ys out) (hz:ys.length<64)
 (h:∀s',Inv X pins σ (upd H a (.lst ys)) s'->P (.done (.ret .none)) s'):wpAny (model X.prog X.w) A (ksk_tail a false e1 (.ref kS) st) P E s:=by
 have hzo:out.length=ys.length:=rv.length.symm
 have s1:=z8 s.heap kS (Obj.mapSeq fun _=>(#[]:Array Value))
 have ea1:(s.heap.update kS (Obj.mapSeq fun _=>(#[]:Array Value))).get? a=some (seqObj "list" #[] e1):=(s1.2 a ne.symm).trans ea
 have s2:=z8 (s.heap.update kS (Obj.mapSeq fun _=>(#[]:Array Value))) a (Obj.mapSeq fun _=>out.toArray)
 obtain⟨c2,hc2⟩:∃c2,((s.heap.update kS (Obj.mapSeq fun _=>(#[]:Array Value))).update a (Obj.mapSeq fun _=>out.toArray)).get? a=some (seqObj "list" out.toArray c2):=⟨_,wI ea1 fun _=>out.toArray⟩
 unfold ksk_tail
 try dsimp only
 refine qb (kj ek rfl ?_ (by rw[zU];omega) (qP _))
 refine qb (Qj1 ?_)
 refine qb (seqEpoch_at ea1 rfl ?_)
 simp only[zM,jD]
 rw[ho]
 refine qb (kj ea1 rfl ?_ (qP _) (by rw[qM,zU];omega))
 rw[hf]
 simp only[bne_self_eq_false,zM,jD]
 refine qx (h _ ?_)
 have I1:=I.vX (t':=s.toks) ok nk fun b u hb q=>(s1.2 b hb).trans q
 have I2:=I1.vX (t':=s.toks) oa na fun b u hb q=>(s2.2 b hb).trans q
 exact I2.adopt oa na ⟨by rw[zU];omega,out,c2,rv,hc2⟩
theorem Qgy{A:Around}{E:QpL}{P:PySem.Fin->Shared->Prop}{kS:Addr}{kA:Array Value}{e e1:Nat}{xs ks:List V}{vs:QpM}{ds:List KD}(I:Inv X pins σ H s)(oa:YB X pins a)(ok:YB X pins kS)(ne:kS≠a)(na:H a=none)(nk:H kS=none)
 (ea:s.heap.get? a=some (seqObj "list" #[] e1)) (ek:s.heap.get? kS=some (seqObj "list" kA e)) (rx:Qx xs vs) (rk:Qx ks kA.toList) (hlx:xs.length=ds.length) (hlk:ks.length=ds.length) (hk:Uq H ks ds) (h64:ds.length<64)
 (hu:(∀d∈ds,∃n,d=.inl n)\/(∀d∈ds,∃n x,d=.inr (n,x)))
 (h:∀s',Inv X pins σ (upd H a (.lst ((ZE ds).map fun i=>xs.getD i .non))) s'->P (.done (.ret .none)) s'):wpAny (model X.prog X.w) A (ksk_end a false vs.toArray e1 (.ref kS) kA) P E s:=by
 have lv:vs.length=ds.length:=by rw[<-rx.length];exact hlx
 have lk:kA.toList.length=ds.length:=by rw[<-rk.length];exact hlk
 have lk':kA.size=ds.length:=by rw[<-qH];exact lk
 have ekA:kA=kA.toList.toArray:=by rw[QkQ]
 have ro:Qx ((ZE ds).map fun i=>xs.getD i .non) ((ZE ds).map fun i=>vs.getD i .none):=VQ rx fun i hi=>by rw[hlx];exact jK.mp ((ZH ds).mem_iff.mp hi)
 have fin:∀st:SortSt,(arrOf st).map (·.2)=((ZE ds).map fun i=>vs.getD i .none).toArray->failedOf st=none->wpAny (model X.prog X.w) A (ksk_tail a false e1 (.ref kS) st) P E s:=fun st h1 h2 =>
  QeM I oa ok ne na nk ea ek (by omega) h1 h2 ro (by rw[qd,GL];exact h64) h
 unfold ksk_end
 try dsimp only
 simp only[zM,jD]
 by_cases h2:vs.toArray.size<2
 .rw[qj h2,qj h2]
  refine qb (qx ?_)
  rw[StateT.run_pure]
  refine qb (qx ?_)
  refine fin (SortSt.mk' general' (kA.zip vs.toArray) #[] 7 none) ?_ rfl
  rw[qM] at h2
  have e1:(ZE ds).map (fun i=>vs.getD i Value.none)=vs:=by
   unfold ZE
   rw[qj (by omega),<-lv]
   refine List.ext_getElem (by simp) fun i h1 h2=>?_
   simp only[List.getElem_map,QlN]
   rw[zr,qe h2]
   rfl
  rw[e1]
  show Array.map (fun x=>x.2) (kA.zip vs.toArray)=vs.toArray
  rw[show(fun x:Value×Value=>x.2)=Prod.snd from rfl]
  apply Array.ext'
  rw[Qjc,Array.toList_zip]
  exact List.map_snd_zip (by rw[lk];show vs.length<=_;omega)
 .rw[ql h2,ql h2]
  rw[qM] at h2
  have run:∀κ,(∀i j (C:Bool->Shared->Prop),i<ds.length->j<ds.length->C (uy (ds.getD i (.inl 0)) (ds.getD j (.inl 0))) s->W.kas_ask X.prog X.w A κ kA.toList i j C s) ->
   wpAny (model X.prog X.w) A (do
    let x <-sortRuns'.run (SortSt.mk' κ (kA.zip vs.toArray) #[] 7 none)
    ksk_tail a false e1 (.ref kS) x.2) P E s:=fun κ hc=>by
   rw[ekA]
   refine qb (jM (W.kat_run (E:=E) (ks:=kA.toList) (vs:=vs) (Q:=fun st s'=>(arrOf st).map (fun x=>x.2)=((ZE ds).map fun i=>vs.getD i .none).toArray/\failedOf st=none/\s'=s) (G:=fun p s'=>p.toList=ZE ds/\s'=s) (by omega) (by omega) (by omega) (fun p st' s' e2 e3 e4 g=>?_) ?_) (fun r s' q=>?_) fun _ _ x=>x)
   .obtain⟨g1,g2⟩:=g
    refine⟨?_,e4,g2⟩
    rw[W.kat_snds (by omega) e3,g1]
   .refine InT.wp (n:=ds.length) (R:=Jd ds.length) (lt:=fun i j=>uy (ds.getD i (.inl 0)) (ds.getD j (.inl 0))) (fun i j C hi hj q=>hc i j C hi hj q) (by rw[lv];exact Ks (by omega)) ⟨?_,rfl⟩
    unfold ZE
    rw[ql (by omega),lv]
   .obtain⟨q1,q2,rfl⟩:=q
    exact fin r.2 q1 q2
  rcases hu with hu | hu
  .rw[ksk_kind (WC rk hlk hk hu) (by omega)]
   refine qb (qx (run _ fun i j C hi hj q=>?_))
   obtain⟨k1,r1,o1⟩:=JT rk hlk hk hi
   obtain⟨k2,r2,o2⟩:=JT rk hlk hk hj
   obtain⟨n1,d1⟩:=hu _ (Zl (d:=.inl 0) hi)
   obtain⟨n2,d2⟩:=hu _ (Zl (d:=.inl 0) hj)
   rw[d1] at o1 q
   rw[d2] at o2 q
   cases o1
   cases o2
   obtain⟨t1,z1⟩:=r1
   obtain⟨t2,z2⟩:=r2
   show wpAny _ _ (keyLt' _ (kA.toList.getD i .none) (kA.toList.getD j .none)) _ _ _
   rw[z1,z2]
   exact W.kat_lt_int q
  .obtain⟨fs,k1,k2,k3⟩:=VS I rk hlk hk hu
   rw[ekA]
   refine qb (W.kat_kind (T:=.type "int") k1 (by omega) (fun v hv=>?_) (by decide) ?_)
   .obtain⟨n,t,rfl⟩:=k3 v hv
    exact fun A Q E s _ q=>qx q
   rw[<-ekA]
   refine run _ fun i j C hi hj q=>?_
   obtain⟨k1,r1,o1⟩:=JT rk hlk hk hi
   obtain⟨k2,r2,o2⟩:=JT rk hlk hk hj
   obtain⟨n1,x1,d1⟩:=hu _ (Zl (d:=.inl 0) hi)
   obtain⟨n2,x2,d2⟩:=hu _ (Zl (d:=.inl 0) hj)
   rw[d1] at o1 q
   rw[d2] at o2 q
   obtain⟨t1,rfl,g1⟩:=o1
   obtain⟨t2,rfl,g2⟩:=o2
   have z1:=UJ r1
   have z2:=UJ r2
   show wpAny _ _ (keyLt' _ (kA.toList.getD i .none) (kA.toList.getD j .none)) _ _ _
   rw[z1,z2]
   exact Qbt I g1 g2 q
theorem QeN{k:Nat}{f:Addr}{fd:FuncData}{p:Str}{sp:Sp}{E:QpL}{P:PySem.Fin->Shared->Prop}{kS:Addr}{e1:Nat}{xs:List V}{vs:QpM}{ds:List KD}(F:QH X.prog X.w X.K X.mg X.base vV k f fd [p] sp)(hr:Qv k X.A.in1.in1)(hb:Qw X.K fd [p] [])
 (I:Inv X pins σ H s) (oa:YB X pins a) (ok:YB X pins kS) (ne:kS≠a) (na:H a=none) (nk:H kS=none)
 (ea:s.heap.get? a=some (seqObj "list" #[] e1)) (ek:s.heap.get? kS=some (seqObj "list" #[] 0)) (rx:Qx xs vs) (hlx:xs.length=ds.length) (h64:ds.length<64)
 (hu:(∀d∈ds,∃n,d=.inl n)\/(∀d∈ds,∃n x,d=.inr (n,x)))
 (hk:∀(i:Nat) x d,xs[i]?=some x->ds[i]?=some d->∀G,Qi H G->sp [x] G (fun k G'=>Qi G G'/\KOk G' k d) E0)
 (h:∀G s',Qi H G->G a=none->Inv X pins σ (upd G a (.lst ((ZE ds).map fun i=>xs.getD i .non))) s'->P (.done (.ret .none)) s') :
 wpAny (model X.prog X.w) X.A.in1.in1 (ksk_rest a (.ref f) false vs.toArray e1 (.ref kS)) P E s:=by
 have lv:vs.length=ds.length:=by rw[<-rx.length];exact hlx
 unfold ksk_rest
 refine qb (wpAny_rule ?_)
 first
  | rw[List.forIn_toArray]
  | (rw[<-Qig];simp only[List.toList_toArray])
  | rw[<-Qig]
 refine qb (ksk_fold (fun i s'=>∃(G:Hp)(kA:Array Value)(e:Nat)(ks:List V),Inv X pins σ G s'/\Qi H G/\G a=none/\G kS=none/\s'.heap.get? a=some (seqObj "list" #[] e1)/\s'.heap.get? kS=some (seqObj "list" kA e)/\Qx ks kA.toList/\ks.length=i/\Uq G ks ds) vs 0 s
  ⟨H,#[],0,[],I,Qi.refl _,na,nk,ea,ek,.nil,rfl,fun i k d z=>by simp at z⟩ ?step ?done)
 case step =>
  rintro j x s' hx ⟨G,kA,e,ks,J,sG,ga,gk,ha',hk',rk,hl,hks⟩
  simp only[gH] at hl ⊢
  have hj:j<ds.length:=by have:=(qi.mp hx).1;omega
  obtain⟨xv,hxv,rxv⟩:=Vy rx hx
  obtain⟨d,hd⟩:∃d,ds[j]?=some d:=⟨_,qe hj⟩
  have J':Inv X (pins++[(a,seqObj "list" #[] e1),(kS,seqObj "list" kA e)]) σ G s':=J.uT fun p hp=>by
   rcases qF.mp hp with hp | hp
   .exact J.pin p (qO _ hp)
   .rcases qR.mp hp with rfl | hp
    .exact⟨ha',ga,oa.loc,oa.fs,fun v z=>nomatch z⟩
    .rw[qg.mp hp]
     exact⟨hk',gk,ok.loc,ok.fs,fun v z=>nomatch z⟩
  have hz:kA.size=j:=by rw[<-qH,<-rk.length];exact hl
  refine qb (gF (jM (GI (E:=fun _ _=>False) F hr hb J' rxv (hk j xv d hxv hd G sG)) (fun v s'' he=>?_) fun _ _ hF=>hF.elim))
  obtain⟨kv,G',J2,rkv,sG',okv⟩:=he
  try dsimp only
  have pa:=J2.pin (a,seqObj "list" #[] e1) (qO _ (qO _ (.head _)))
  have pk:=J2.pin (kS,seqObj "list" kA e) (qO _ (qO _ (.tail _ (.head _))))
  have s1:=z8 s''.heap kS (Obj.mapSeq (·.push v))
  obtain⟨c2,hc2⟩:∃c2,(s''.heap.update kS (Obj.mapSeq (·.push v))).get? kS=some (seqObj "list" (kA.push v) c2):=⟨_,wI pk.1 (·.push v)⟩
  have ea':(kA.push v).toList=kA.toList++[v]:=by simp
  refine qb (kj pk.1 rfl ?_ (by rw[zU];omega) (zf (Nat.le_of_eq (Array.size_push ..)) (by rw[zU];omega)))
  have J3:Inv X pins σ G' s'':=J2.uT fun p hp=>J2.pin p (qO _ (zA _ hp))
  refine qx ⟨rfl,G',kA.push v,c2,ks++[kv],J3.vX (t':=s''.toks) ok pk.2.1 (fun b u hb q=>(s1.2 b hb).trans q),sG.trans sG',pa.2.1,pk.2.1,(s1.2 a ne.symm).trans pa.1,hc2,by rw[ea'];exact rk.append (.cons rkv .nil),by rw[qy,hl];rfl,fun i k d' z1 z2=>?_⟩
  by_cases hi:i<ks.length
  .rw[zH hi] at z1
   exact(hks i k d' z1 z2).mono sG'
  .have hij:i=j:=by
    have:=(qi.mp z1).1
    rw[qy,zV] at this
    omega
   subst hij
   rw[zQ (by omega),hl,QgR] at z1
   cases z1
   rw[hd] at z2
   cases z2
   exact okv
 case done =>
  rintro s' ⟨G,kA,e,ks,J,sG,ga,gk,ha',hk',rk,hl,hks⟩
  try dsimp only
  refine qb (listItems_at hk' rfl ?_)
  exact Qgy J oa ok ne ga gk ha' hk' rx rk hlx (by omega) hks h64 hu fun s'' J'=>h G s'' sG ga J'
end
inductive KR(K:Frag)(sp:Sp)(Q:VK)(x:V)(H:Hp):Prop
 | mk:∀(l:Addr)(xs:List V)(ds:List KD),x=.ref l->jk K H l xs->xs.length=ds.length->ds.length<64->((∀d∈ds,∃n,d=.inl n)\/(∀d∈ds,∃n x,d=.inr (n,x))) ->
    (∀(i:Nat) x d,xs[i]?=some x->ds[i]?=some d->∀G,Qi H G->sp [x] G (fun k G'=>Qi G G'/\KOk G' k d) E0) ->
    (∀a G,H a=none->Qi H G->G a=some (.lst ((ZE ds).map fun i=>xs.getD i .non))->Q (.ref a) G)->KR K sp Q x H
def Qhq(K:Frag)(sp:Sp)(te:TE):TE:=fun σ H Q=>te σ H fun x H1=>KR K sp Q x H1
theorem Gh{X:Cx}{e:Expr}{te:TE}{k:Nat}{f:Addr}{g p:Str}{fd:FuncData}{sp:Sp}{p0 gp pos kp:Pos}(F:QH X.prog X.w X.K X.mg X.base vV k f fd [p] sp)(hr:Qv (k+2) X.A)(hg:Gl X "sorted")(hm:X.mg "sorted"=none)(hgf:Gl X g)(hmf:X.mg g=some (.ref f))(hb:Qw X.K fd [p] [])(ha:PE X e te)
 (hdb:(g == ("__debug__":Str))=false:=by decide) (he:starEach [e] X.env=[(false,eval e X.env)]:=by rfl) :
 PE X (.Call (.Name "sorted" p0) [e] [⟨some "key",.Name g gp,kp⟩] pos) (Qhq X.K sp te):=by
 intro pins s σ H Q I h
 refine jC (Yr I hg hm boot_sorted ?_ (by decide) (by decide))
 refine callWith_kw ?_ (by rw[he];rfl) (by rw[he];rfl) (by rfl) (by rfl)
 rw[he]
 show wpAny _ _ (spliced ((false,eval e X.env) :: backTo pos [])) _ _ s
 refine yH (j0 (ha pins s σ H _ I h) fun u s1 ⟨x,H1,I1,r1,q1⟩=>vP ?_)
 obtain⟨l,xs,ds,rfl,hl,hlx,h64,hu,hk,q⟩:=q1
 cases r1
 refine kws_cons (Jn I1 hgf hmf (kws_nil ?_) hdb)
 show wpAny _ _ (call (.builtin "sorted") [.ref l] [(Str.ofString "key",.ref f)]) _ _ s1
 obtain⟨vs,rv,pl,_⟩:=I1.list hl
 have lv:vs.length=ds.length:=by rw[<-rv.length];exact hlx
 refine call_function_entry_kw kind_sorted plain_sorted entry_sorted (ksk_s1 _ _) ?_
 unfold Builtin.«sorted»
 refine qb (m:=checkCount "sorted" 1 1 _) (qx ?_)
 refine qb (collect_list pl.isList ?_ (by rw[zU];omega))
 refine qb (QhK ?_ (by rw[zU];omega))
 have hsz:((s1.heap.push (seqObj "list" #[] 0)).update s1.heap.objs.size (Obj.mapSeq (·++vs.toArray))).objs.size=s1.heap.objs.size+1:=by
  rw[yF,size_push']
 have hoL:(((s1.heap.push (seqObj "list" #[] 0)).update s1.heap.objs.size (Obj.mapSeq (·++vs.toArray))).push (seqObj "list" vs.toArray 0)).get? (s1.heap.objs.size+1)=some (seqObj "list" vs.toArray 0):=by
  rw[<-hsz];exact qN _ rfl
 have keep:∀b o,s1.heap.get? b=some o->(((s1.heap.push (seqObj "list" #[] 0)).update s1.heap.objs.size (Obj.mapSeq (·++vs.toArray))).push (seqObj "list" vs.toArray 0)).get? b=some o:=fun b o q=>by
  have hlt:b<s1.heap.objs.size:=qT q
  rw[Qj2 _ _ _ (by rw[hsz];exact zp (gJ hlt)),Heap.get?_update_ne _ _ _ _ (zp hlt),Qj2 _ _ _ (zp hlt)]
  exact q
 have oa:YB X pins (s1.heap.objs.size+1):=I1.ours (yo _)
 have na:H1 (s1.heap.objs.size+1)=none:=I1.hok.fresh (yo _)
 have I2:Inv X pins σ H1 { s1 with heap:=((s1.heap.push (seqObj "list" #[] 0)).update s1.heap.objs.size (Obj.mapSeq (·++vs.toArray))).push (seqObj "list" vs.toArray 0) }:=I1.kept (t':=s1.toks) keep
 show wpAny _ _ _ _ _ { s1 with heap:=((s1.heap.push (seqObj "list" #[] 0)).update s1.heap.objs.size (Obj.mapSeq (·++vs.toArray))).push (seqObj "list" vs.toArray 0) }
 rw[hsz]
 generalize ((s1.heap.push (seqObj "list" #[] 0)).update s1.heap.objs.size (Obj.mapSeq (·++vs.toArray))).push (seqObj "list" vs.toArray 0)=g2 at hoL I2 ⊢
 generalize s1.heap.objs.size+1=a at hoL oa na ⊢
 clear keep hsz
 refine qb (jP (wpAny_call_entry_kw slot_list_sort ⟨_,hoL,rfl⟩ entry_list_sort ?body (ksk_l1 _ _)))
 case body =>
  show wpAny (model X.prog X.w) X.A.in1.in1 (Builtin.«list.sort» ⟨[.ref a],[(Str.ofString "key",.ref f)]⟩) _ _ _
  rw[ksk_t1]
  have ha:a<g2.objs.size:=qT hoL
  have s2:=z8 g2 a (Obj.mapSeq fun _=>(#[]:Array Value))
  obtain⟨e1,ho1⟩:∃e1,(g2.update a (Obj.mapSeq fun _=>(#[]:Array Value))).get? a=some (seqObj "list" #[] e1):=⟨_,wI hoL fun _=>#[]⟩
  have I3:Inv X pins σ H1 { s1 with heap:=g2.update a (Obj.mapSeq fun _=>(#[]:Array Value)) }:=I2.vX (t':=s1.toks) oa na fun b u hb q=>(s2.2 b hb).trans q
  have hkS:((g2.update a (Obj.mapSeq fun _=>(#[]:Array Value))).push (seqObj "tuple" vs.toArray 0)).objs.size=g2.objs.size+1:=by rw[size_push',yF]
  unfold ksk_tree
  refine qb (listItems_at hoL rfl ?_)
  refine qb (kj hoL rfl ?_ (by rw[qM,zU];omega) (qP _))
  refine qb (seqEpoch_at ho1 rfl ?_)
  refine qb (wpAny_newTuple ?_ (by show vs.length<=_;rw[zU];omega))
  refine qb (QhK ?_ (qP _))
  refine jP ?_
  have k4:∀b o,(g2.update a (Obj.mapSeq fun _=>(#[]:Array Value))).get? b=some o->(((g2.update a (Obj.mapSeq fun _=>(#[]:Array Value))).push (seqObj "tuple" vs.toArray 0)).push (seqObj "list" #[] 0)).get? b=some o:=fun b o q=>qw _ (qw _ q)
  have I4:Inv X pins σ H1 { s1 with heap:=((g2.update a (Obj.mapSeq fun _=>(#[]:Array Value))).push (seqObj "tuple" vs.toArray 0)).push (seqObj "list" #[] 0) }:=I3.kept (t':=s1.toks) k4
  have lk:(g2.update a (Obj.mapSeq fun _=>(#[]:Array Value))).objs.size<=((g2.update a (Obj.mapSeq fun _=>(#[]:Array Value))).push (seqObj "tuple" vs.toArray 0)).objs.size:=by rw[hkS,yF];exact yo _
  refine QeN (H:=H1) F (hr.in1.in1) hb I4 oa (I3.ours lk) (by rw[hkS];exact vM (gJ ha)) na (I3.hok.fresh lk) (k4 _ _ ho1) (qN _ rfl) rv hlx h64 hu hk fun G s' sG ga J=>⟨_,rfl,qx ⟨_,rfl,.ref a,_,J,rfl,q a _ na ?_ Qf⟩⟩
  exact fun b o e=>by rw[Qj (Qd e na)];exact sG b o e
end L2
namespace L2
open PySem PySem.Spec PyProof.Rows
def Itv(a:Addr)(oa:Obj)(kvs:List (Key×V)):It:=⟨fun i H=>H a=some (.yR oa (.dK kvs))/\i<kvs.length,fun i H x H'=>H'=H/\∃kv,kvs[i]?=some kv/\x=kv.2,fun i H=>H a=some (.yR oa (.dK kvs))/\kvs.length<=i⟩
theorem QeJ{κ:Type}:∀{kvs:List (κ×V)}{vs:List (κ×Value)}{j:Nat}{p:κ×V}{q:κ×Value},KV kvs vs->kvs[j]?=some p->vs[j]?=some q->QC p.2 q.2
 | _,_,0,_,_,.cons r _,e1,e2=>by cases e1;cases e2;exact r.2
 | _,_,j+1,_,_,.cons _ rs,e1,e2=>QeJ (j:=j) rs e1 e2
theorem Qca{P:Program}{w:World}{K:Frag}{tg:Expr}(a it:Addr)(oa:Obj)(kvs:List (Key×V))(es:Array DictEntry)(ep:Nat)(hd:oa.data=.dict es ep):Qa5 P w K tg (Itv a oa kvs) [it] it (fun i h=>h.IsValIter it a i kvs.length ep) where
 mem:=by simp
 obj:=fun i h st b hb=>by
  have e:b=it:=by simpa using hb
  subst e
  obtain⟨o,e,c,d⟩:=st
  exact⟨o,e,fun v z=>by rw[d] at z;cases z⟩
 keep:=fun i h h' st k=>by
  obtain⟨o,e,c⟩:=st
  exact⟨o,k it (by simp) o e,c⟩
 item:=by
  intro X hP hw hK hc i pins s σ H E I hf st hg
  subst hP hw hK
  obtain⟨hH,hlt⟩:=hg
  obtain⟨_,vs,es',ep',rv,hd',hm⟩:=Yt I.hok hH
  rw[hd] at hd'
  cases hd'
  have hl:=KV.length rv
  have st0:s.heap.IsValIter it a i vs.length ep:=by rw[<-hl];exact st
  obtain⟨f0,f1,f2,f3,f4,f5⟩:=hf it (by simp)
  refine wpAny_pyNext_values_item (k:=(vs[i]'(by omega)).1) (v:=(vs[i]'(by omega)).2) st0 hm (qe (by omega)) fun h' st' sb=>?_
  have I1:Inv X pins σ H { s with heap:=h' }:=I.turned (t':=s.toks) (fun b o hb e=>(sb.2 b hb).trans e) f0 f1 f3 f4 f5
  have ek:QC kvs[i].2 (vs[i]'(by omega)).2:=QeJ rv (qe hlt) (qe (by omega))
  rw[<-hl] at st'
  obtain⟨o,e,c,d⟩:=id st'
  exact⟨_,rfl,XL (s:={ s with heap:=h' }) e c d (by decide) ⟨kvs[i].2,H,I1,ek,⟨rfl,kvs[i],qe hlt,rfl⟩,st',fun b hb=>(hf b hb).1⟩⟩
 done:=by
  intro X hP hw hK hc i pins s σ H E I hf st hg
  subst hP hw hK
  obtain⟨hH,hge⟩:=hg
  obtain⟨_,vs,es',ep',rv,hd',hm⟩:=Yt I.hok hH
  rw[hd] at hd'
  cases hd'
  have hl:=KV.length rv
  have st0:s.heap.IsValIter it a i vs.length ep:=by rw[<-hl];exact st
  obtain⟨f0,f1,f2,f3,f4,f5⟩:=hf it (by simp)
  exact wpAny_pyNext_values_end (I.ok.hd hc) st0 hm (xX (by omega)) fun h' eb=>⟨rfl,I.turned (t':=s.toks) (fun b o hb e=>eb b o hb e) f0 f1 f3 f4 f5⟩
 self:=fun _ _ _ _ _ st h=>wpAny_pyIter_valiter st h
inductive QbL(R:(It->Hp->Prop))(x:V)(H1:Hp):Prop
 | mk:∀a kvs,x=.ref a->((∃oa,H1 a=some (.yR oa (.dK kvs))/\R (Itv a oa kvs) H1)\/(H1 a=some (.dK kvs)/\∀oa,R (Itv a oa kvs) (upd H1 a (.yR oa (.dK kvs)))))->QbL R x H1
def iVals(tl:TE):TI:=fun σ H R=>tl σ H fun x H1=>QbL R x H1
theorem Qf9{X:Cx}{tg o:Expr}{td:TE}{apos cpos:Pos}(ho:PE X o td)(hbase:attributeBase o "values" X.env (eval o X.env)=eval o X.env:=by rfl)(hline:(apos.endLine == cpos.line)=true:=by rfl):PI X tg (.Call (.Attribute o "values" apos) [] [] cpos) (iVals td):=by
 intro pins s σ H R I h
 refine QkO hbase hline (j0 (ho pins s σ H _ I h) fun v s1 ⟨x,H1,I1,r1,q1⟩=>?_)
 obtain⟨a,kvs,e,q⟩:=q1
 subst e
 cases r1
 obtain⟨oa,H2,I2,hH,q2⟩:∃(oa:Obj)(H2:Hp),Inv X pins σ H2 s1/\H2 a=some (.yR oa (.dK kvs))/\R (Itv a oa kvs) H2:=by
  rcases q with⟨oa,hH,q⟩ | ⟨hH,q⟩
  .exact⟨oa,H1,I1,hH,q⟩
  .obtain⟨oa,J⟩:=I1.freeze hH
   exact⟨oa,_,J,Qf,q oa⟩
 obtain⟨t1,t2,_⟩:=QaW I2 (.inl ⟨kvs,.inr ⟨oa,hH⟩⟩)
 obtain⟨hlo,vs,es,ep,rv,hd,hm⟩:=Yt I2.hok hH
 have hn:=KV.length rv
 have I3:Inv X pins σ H2 { s1 with heap:=s1.heap.push { cls:=.type "dict_values",data:=.fields #[.ref a] } }:=I2.kept (t':=s1.toks) fun b o e=>qw _ e
 obtain⟨_,vs',es',ep',rv',hd',hm'⟩:=Yt I3.hok hH
 rw[hd] at hd'
 cases hd'
 have hn':=KV.length rv'
 refine⟨"dict","dict.values",plainAttrs_dict,slot_dict_values,PySem.F.type_dict_values,t1,t2,kE rfl (Qlj ?_)⟩
 refine Qlk slot_dict_values t1 PySem.F.entry_dict_values (PySem.F.args_dict_values_1 _) (meets_dict_values (QW X.prog X.w) a hlo) ⟨⟨vs,hm.dictOf⟩,?_⟩
 refine wpAny_pyIter_values (s:={ s1 with heap:=s1.heap.push { cls:=.type "dict_values",data:=.fields #[.ref a] } }) ⟨_,qN _ rfl,rfl,rfl⟩ hm' ⟨_,[_],_,_,H2,rfl,I3.kept (t':=s1.toks) fun b o e=>qw _ e,Qca a _ oa kvs es ep hd,⟨_,qN _ rfl,rfl,by rw[hn'];rfl⟩,fun b hb=>?_,q2⟩
 obtain rfl:=qg.mp hb
 exact I3.Ql4 (qp _) (I3.hok.fresh (qp _))
theorem Qc9{a:Addr}{oa:Obj}{kvs:List (Key×V)}{α:Type}{xs:List α}{fr:List (Nat×Str)}{tt:TT}{te:TE}{σ:St}{H1:Hp}{Q:VK}(g:α->V)(f:α->V)(hz:xs.length<=sizeLine)(hS:H1 a=some (.yR oa (.dK kvs)))(hk:kvs.map (fun kv=>kv.2)=xs.map g)
 (htt:∀(x:α)(H3:Hp)(Q':Bool->Hp->Prop),x∈xs->Qi H1 H3->Q' true H3->tt (some (g x) :: frV σ fr) H3 Q')
 (hte:∀(x:α)(H3:Hp)(Q':VK),x∈xs->Qi H1 H3->Q' (f x) H3->te (some (g x) :: frV σ fr) H3 Q')
 (hQ:∀D,H1 D=none->Q (.ref D) (upd H1 D (.lst (xs.map f)))) :
 Zj (Itv a oa kvs) fr tt te σ H1 Q:=by
 have hl:kvs.length=xs.length:=by have:=zB List.length hk;simpa using this
 unfold Zj
 intro D hD
 refine⟨fun i m ys H2=>m=xs.length - i/\i<=xs.length/\ys=(xs.take i).map f/\H2=upd H1 D (.lst ys),⟨xs.length,by simp,qP _,by simp,rfl⟩,?_⟩
 rintro i m ys H2 ⟨rfl,hi,rfl,rfl⟩
 refine⟨Qf,?_⟩
 have s1:Qi H1 (upd H1 D (.lst ((xs.take i).map f))):=Qi.zT hD
 have hS2:=s1 _ _ hS
 by_cases hlt:i<xs.length
 .have hx0:(xs.map g)[i]?=some (g xs[i]):=by rw[qJ,qe hlt];rfl
  refine .inr ⟨⟨hS2,by omega⟩,?_⟩
  rintro v H3 ⟨rfl,kv,hkv,rfl⟩
  have hx:(xs.map g)[i]?=some kv.2:=by rw[<-hk,qJ,hkv];rfl
  rw[hx0] at hx
  have hx:=zg hx
  rw[<-hx]
  have hm:xs[i]∈xs:=yZ hlt
  have et:xs.take (i+1)=xs.take i++[xs[i]]:=by rw[zb,qe hlt];rfl
  refine htt xs[i] _ _ hm s1 (QE (hte xs[i] _ _ hm s1 ⟨Qf,?_,xs.length - (i+1),by omega,rfl,hlt,?_,XY⟩))
  .rw[qd,qK];omega
  .rw[et,zc];rfl
 .have e:i=xs.length:=by omega
  subst e
  refine .inl ⟨⟨hS2,by omega⟩,?_⟩
  have:=hQ D hD
  rw[yq]
  exact this
theorem Up{X:Cx}:YM X (.type "dict") (fun xs H Q=>∃(p:Addr)(kvs:List (Key×V)),xs=[.ref p]/\Rd H p (.dK kvs)/\∀l,H l=none->Q (.ref l) (upd H l (.dK kvs))):=by
 intro pins s σ H xs us Q I r h
 obtain⟨p,kvs,rfl,hq,q⟩:=h
 obtain⟨u,rfl,rx⟩:=Vh r
 cases rx
 obtain⟨hz,hd,vs,rv,dd⟩:=Y8 I.hok hq
 have hl:=KV.length rv
 refine kt_call_dict hd dd (by omega) fun h' d' sb=>?_
 have k:∀b o,s.heap.get? b=some o->h'.get? b=some o:=fun b o e=>(sb.2 b (zp (qT e))).trans (qw _ e)
 have ne:(s.heap.objs.size == sysModules)=false:=by
  have:=I.big
  exact beq_false_of_ne (vM this)
 exact⟨.ref s.heap.objs.size,_,I.laid (t':=s.toks) k (qp _) (show QG X.prog X.w _ _ _ (.dK kvs) from⟨hz,ne,vs,rv,d'⟩),rfl,q _ (I.hok.fresh (qp _))⟩
def nK(na:List (Key×Int)):List (Key×V):=na.map fun p=>(p.1,V.int p.2)
def Vb(nb:List (Key×Int)):List (Key×Int)->Bool
 | []=>true
 | (k,n) :: r=>match Q7 (nK nb) k with
   | some (.int m)=>(n == m) && Vb nb r
   | _=>false
theorem Qh0{nb:List (Key×Int)}{k:Key}{v:V}(h:Q7 (nK nb) k=some v):∃m,v=.int m:=by
 induction nb with
 | nil=>cases h
 | cons p r ih =>
   obtain⟨k',n⟩:=p
   by_cases e:k'=k
   .have:Q7 (nK ((k',n) :: r)) k=some (.int n):=by
     show Q7 ((k',V.int n) :: nK r) k=_
     unfold Q7
     simp[e]
    rw[this] at h;cases h;exact⟨n,rfl⟩
   .have:Q7 (nK ((k',n) :: r)) k=Q7 (nK r) k:=by
     show Q7 ((k',V.int n) :: nK r) k=_
     unfold Q7
     simp[e]
    rw[this] at h;exact ih h
theorem Qa0{A:Around}{s:Shared}{nb:List (Key×Int)}{vb:List (Key×Value)}(rb:KV (nK nb) vb):∀{na:List (Key×Int)}{va:List (Key×Value)},KV (nK na) va->W.KeqHits A s vb va (Vb nb na)
 | [],_,.nil=>.nil
 | (k,n) :: r,_,.cons (b:=q) h hs=>by
   obtain⟨k',u⟩:=q
   obtain⟨e,t,e2⟩:=h
   dsimp only at e e2
   subst e e2
   have o:=KV.val rb k
   unfold Vb
   cases hv:Q7 (nK nb) k with
   | none =>
     rw[hv] at o
     cases hw:valueAt vb k with
     | none=>exact .miss hw
     | some w=>rw[hw] at o;exact absurd o (by intro z;cases z)
   | some v =>
     obtain⟨m,rfl⟩:=Qh0 hv
     rw[hv] at o
     cases hw:valueAt vb k with
     | none=>rw[hw] at o;exact absurd o (by intro z;cases z)
     | some w =>
       rw[hw] at o
       obtain⟨t',rfl⟩:∃t',w=.int m t':=o
       exact .hit hw (SeqAt.EqAt.int_int n t m t') (Qa0 rb hs)
inductive Qd1(c:Bool->Bool)(x:V)(y:V)(H:Hp)(Q:VK):Prop
 | mk:∀(a b:Addr)(na nb:List (Key×Int)),x=.ref a->y=.ref b->Rd H a (.dK (nK na))->Rd H b (.dK (nK nb))->Q (.bl (c (na.length == nb.length && Vb nb na))) H->Qd1 c x y H Q
def QoW(c:Bool->Bool):R2:=fun x y H Q=>Qd1 c x y H Q
theorem QhV{X:Cx}(hu:X.A.units+64<cLine):uz X (compareOp .Eq) (QoW id):=by
 intro pins s σ H x y v u Q I rx ry h
 obtain⟨a,b,na,nb,rfl,rfl,ha,hb,q⟩:=h
 cases rx
 cases ry
 obtain⟨_,da,va,ra,oa⟩:=Y8 I.hok ha
 obtain⟨_,db,vb,rb,ob⟩:=Y8 I.hok hb
 have la:=KV.length ra
 have lb:=KV.length rb
 rw[nK,qd] at la lb
 refine W.keq_eq da db oa ob (by omega) (fun _=>Qa0 rb ra) ⟨.bl (va.length == vb.length && Vb nb na),H,I,rfl,?_⟩
 rw[<-la,<-lb];exact q
theorem QaE{X:Cx}(hu:X.A.units+64<cLine):uz X (compareOp .NotEq) (QoW not):=by
 intro pins s σ H x y v u Q I rx ry h
 obtain⟨a,b,na,nb,rfl,rfl,ha,hb,q⟩:=h
 cases rx
 cases ry
 obtain⟨_,da,va,ra,oa⟩:=Y8 I.hok ha
 obtain⟨_,db,vb,rb,ob⟩:=Y8 I.hok hb
 have la:=KV.length ra
 have lb:=KV.length rb
 rw[nK,qd] at la lb
 refine W.keq_ne da db oa ob (by omega) (fun _=>Qa0 rb ra) ⟨.bl (!(va.length == vb.length && Vb nb na)),H,I,rfl,?_⟩
 rw[<-la,<-lb];exact q
theorem Qd8{X:Cx}{st:Stmt}{ts:TS}(hb:PS X st ts):PS X st (fun D σ H=>∃a kvs,H a=some (.dK kvs)/\∀oa,ts D σ (upd H a (.yR oa (.dK kvs)))):=by
 rintro pins s σ H D I ⟨a,kvs,e,h⟩
 obtain⟨oa,J⟩:=I.freeze e
 exact hb pins s σ _ _ J (h oa)
theorem Qct{X:Cx}{f:Value->Value->Sem Value}{r1 r2:R2}(h1:uz X f r1)(h2:uz X f r2):uz X f (fun x y H Q=>r1 x y H Q\/r2 x y H Q):=by
 intro pins s σ H x y v u Q I rx ry h
 rcases h with h | h
 .exact h1 pins s σ H x y v u Q I rx ry h
 .exact h2 pins s σ H x y v u Q I rx ry h
theorem Jp{α β:Type}{lt:Nat->Nat->Bool}{f:α->W.KasT β}:∀t:W.KasT α,zZ lt (t.bind f)=zZ lt (f (zZ lt t))
 | .ret a=>rfl
 | .ask i j k=>Jp (k (lt i j))
end L2
namespace L2
open PySem PySem.Spec PyProof.Rows
structure SW(lt:Nat->Nat->Bool):Prop where
 asy:∀a b,lt a b=true->lt b a=false
 neg:∀a b c,lt a b=false->lt b c=false->lt a c=false
section
variable {lt:Nat->Nat->Bool}{p:Array Nat}
abbrev gA(p:Array Nat)(i:Nat):Nat:=p.getD i 0
def UpA(lt:Nat->Nat->Bool)(p:Array Nat)(m:Nat):Prop:=∀i j,i<=j->j<m->lt (gA p j) (gA p i)=false
def DnA(lt:Nat->Nat->Bool)(p:Array Nat)(m:Nat):Prop:=∀i j,i<=j->j<m->lt (gA p i) (gA p j)=false
theorem SW.irr(h:SW lt)(a:Nat):lt a a=false:=by
 cases e:lt a a with
 | false=>rfl
 | true=>exact absurd (h.asy a a e) (by rw[e];decide)
theorem Vt(p:Array Nat)(i:Nat):gA p i=(p[i]?).getD 0:=by
 unfold gA Array.getD
 split
 .rename_i h;rw[z6 h];rfl
 .rename_i h;rw[xF (by omega)];rfl
theorem Qhl(h:SW lt){n:Nat}(u:UpA lt p n)(e:n=0\/lt (gA p n) (gA p (n - 1))=false):UpA lt p (n+1):=fun i j hij hj=>by
 by_cases hn:j<n
 .exact u i j hij hn
 .have:j=n:=by omega
  subst this
  by_cases hi:i=j
  .subst hi;exact h.irr _
  .rcases e with e | e
   .omega
   .exact h.neg _ _ _ e (u i (j - 1) (by omega) (by omega))
theorem Kz(h:SW lt){n:Nat}(u:DnA lt p n)(e:n=0\/lt (gA p (n - 1)) (gA p n)=false):DnA lt p (n+1):=fun i j hij hj=>by
 by_cases hn:j<n
 .exact u i j hij hn
 .have:j=n:=by omega
  subst this
  by_cases hi:i=j
  .subst hi;exact h.irr _
  .rcases e with e | e
   .omega
   .exact h.neg _ _ _ (u i (j - 1) (by omega) (by omega)) e
theorem Qag(h:SW lt):∀(f n:Nat),1<=n->UpA lt p n->UpA lt p (zZ lt (W.kas_asc p f n))/\n<=zZ lt (W.kas_asc p f n)/\zZ lt (W.kas_asc p f n)<=n+f/\(zZ lt (W.kas_asc p f n)<n+f->lt (gA p (zZ lt (W.kas_asc p f n))) (gA p (zZ lt (W.kas_asc p f n) - 1))=true)
 | 0,n,_,u=>⟨u,qp _,qp _,fun z=>absurd z (jT _)⟩
 | f+1,n,hn,u=>by
   cases e:lt (gA p n) (gA p (n - 1)) with
   | true =>
     have er:zZ lt (W.kas_asc p (f+1) n)=n:=by
      show zZ lt (if lt (gA p n) (gA p (n - 1))=true then W.KasT.ret n else W.kas_asc p f (n+1))=n
      rw[qj e];rfl
     rw[er]
     exact⟨u,qp _,Nat.le_add_right _ _,fun _=>e⟩
   | false =>
     have er:zZ lt (W.kas_asc p (f+1) n)=zZ lt (W.kas_asc p f (n+1)):=by
      show zZ lt (if lt (gA p n) (gA p (n - 1))=true then W.KasT.ret n else W.kas_asc p f (n+1))=_
      rw[e,ql (by decide)]
     rw[er]
     obtain⟨a,b,c,d⟩:=Qag h f (n+1) (by omega) (Qhl h u (.inr e))
     exact⟨a,by omega,by omega,fun z=>d (by omega)⟩
def EqA(lt:Nat->Nat->Bool)(x y:Nat):Prop:=lt x y=false/\lt y x=false
theorem Qa3{a b:Nat}(hb:b<=p.size)(k:Nat):gA (W.kas_rev p a b) k=if a<=k/\k<b then gA p (a+b - 1 - k) else gA p k:=by
 rw[Vt]
 unfold W.kas_rev
 rw[getElem?_mirror_all hb]
 split <;> rw[Vt]
theorem QaA(h:SW lt){a b:Nat}(hb:b<=p.size)(e:∀i,a<=i->i<b->EqA lt (gA p i) (gA p (b - 1)))(k:Nat):EqA lt (gA (W.kas_rev p a b) k) (gA p k):=by
 rw[Qa3 hb]
 split
 .rename_i hk
  have e1:=e (a+b - 1 - k) (by omega) (by omega)
  have e2:=e k hk.1 hk.2
  exact⟨h.neg _ _ _ e1.1 e2.2,h.neg _ _ _ e2.1 e1.2⟩
 .exact⟨h.irr _,h.irr _⟩
theorem Qfe(h:SW lt){p':Array Nat}{m:Nat}(e:∀k,EqA lt (gA p' k) (gA p k))(d:DnA lt p m):DnA lt p' m:=fun i j hij hj=>h.neg _ _ _ (e i).1 (h.neg _ _ _ (d i j hij hj) (e j).2)
def EqS(lt:Nat->Nat->Bool)(p:Array Nat)(n q:Nat):Prop:=∀i,n - (q+1)<=i->i<n->EqA lt (gA p i) (gA p (n - 1))
theorem Qe9(h:SW lt){n:Nat}:EqS lt p n 0:=fun i h1 h2=>by
 rw[show i=n - 1 by omega];exact⟨h.irr _,h.irr _⟩
theorem Jw{a b:Nat}:(W.kas_rev p a b).size=p.size:=mirror_size _ _ _ _
theorem VN(h:SW lt):∀(f:Nat)(p:Array Nat)(n q:Nat),1<=n->n+f<=p.size->DnA lt p n->EqS lt p n q ->
 DnA lt (zZ lt (W.kas_desc f p n q)).1 (zZ lt (W.kas_desc f p n q)).2.1/\(zZ lt (W.kas_desc f p n q)).1.size=p.size/\1<=(zZ lt (W.kas_desc f p n q)).2.1/\(zZ lt (W.kas_desc f p n q)).2.1<=n+f/\EqS lt (zZ lt (W.kas_desc f p n q)).1 (zZ lt (W.kas_desc f p n q)).2.1 (zZ lt (W.kas_desc f p n q)).2.2
 | 0,p,n,q,h1,_,d,e=>⟨d,rfl,h1,qp _,e⟩
 | f+1,p,n,q,h1,hs,d,e=>by
   cases c:lt (gA p n) (gA p (n - 1)) with
   | true =>
     have d1:DnA lt p (n+1):=Kz h d (.inr (h.asy _ _ c))
     by_cases hq:q > 0
     .have er:zZ lt (W.kas_desc (f+1) p n q)=zZ lt (W.kas_desc f (W.kas_rev p (n - (q+1)) n) (n+1) 0):=by
       show zZ lt (if lt (gA p n) (gA p (n - 1))=true then (if q > 0 then W.kas_desc f (W.kas_rev p (n - (q+1)) n) (n+1) 0 else W.kas_desc f p (n+1) 0) else _)=_
       rw[qj c,qj hq]
      rw[er]
      obtain⟨a1,a2,a3,a4,a5⟩:=VN h f (W.kas_rev p (n - (q+1)) n) (n+1) 0 (by omega) (by rw[Jw];omega) (Qfe h (QaA h (by omega) e) d1) (Qe9 h)
      exact⟨a1,a2.trans Jw,a3,by omega,a5⟩
     .have er:zZ lt (W.kas_desc (f+1) p n q)=zZ lt (W.kas_desc f p (n+1) 0):=by
       show zZ lt (if lt (gA p n) (gA p (n - 1))=true then (if q > 0 then W.kas_desc f (W.kas_rev p (n - (q+1)) n) (n+1) 0 else W.kas_desc f p (n+1) 0) else _)=_
       rw[qj c,ql hq]
      rw[er]
      obtain⟨a1,a2,a3,a4,a5⟩:=VN h f p (n+1) 0 (by omega) (by omega) d1 (Qe9 h)
      exact⟨a1,a2,a3,by omega,a5⟩
   | false =>
     cases c2:lt (gA p (n - 1)) (gA p n) with
     | true =>
       have er:zZ lt (W.kas_desc (f+1) p n q)=(p,n,q):=by
        show zZ lt (if lt (gA p n) (gA p (n - 1))=true then _ else W.KasT.ask (p.getD (n - 1) 0) (p.getD n 0) fun d=>if d=true then .ret (p,n,q) else W.kas_desc f p (n+1) (q+1))=_
        rw[c,ql (by decide)]
        show zZ lt (if lt (gA p (n - 1)) (gA p n)=true then W.KasT.ret (p,n,q) else W.kas_desc f p (n+1) (q+1))=_
        rw[qj c2]
        rfl
       rw[er]
       exact⟨d,rfl,h1,by show n<=n+(f+1);omega,e⟩
     | false =>
       have er:zZ lt (W.kas_desc (f+1) p n q)=zZ lt (W.kas_desc f p (n+1) (q+1)):=by
        show zZ lt (if lt (gA p n) (gA p (n - 1))=true then _ else W.KasT.ask (p.getD (n - 1) 0) (p.getD n 0) fun d=>if d=true then .ret (p,n,q) else W.kas_desc f p (n+1) (q+1))=_
        rw[c,ql (by decide)]
        show zZ lt (if lt (gA p (n - 1)) (gA p n)=true then W.KasT.ret (p,n,q) else W.kas_desc f p (n+1) (q+1))=_
        rw[c2,ql (by decide)]
       rw[er]
       obtain⟨a1,a2,a3,a4,a5⟩:=VN h f p (n+1) (q+1) (by omega) (by omega) (Kz h d (.inr c2)) fun i hi1 hi2=>by
        rw[show n+1 - 1=n by omega]
        by_cases hi:i=n
        .subst hi;exact⟨h.irr _,h.irr _⟩
        .have:=e i (by omega) (by omega)
         exact⟨h.neg _ _ _ this.1 c2,h.neg _ _ _ c this.2⟩
       exact⟨a1,a2,a3,by omega,a5⟩
theorem QhH{n:Nat}(hn:n<=p.size)(d:DnA lt p n):UpA lt (W.kas_rev p 0 n) n:=fun i j hij hj=>by
 rw[Qa3 hn,Qa3 hn,qj ⟨qP _,hj⟩,qj ⟨qP _,by omega⟩]
 exact d _ _ (by omega) (by omega)
theorem KN(h:SW lt){n nrem:Nat}(h1:1<=n)(h2:n<=nrem)(h3:nrem<=p.size)(d:DnA lt p n):UpA lt (zZ lt (W.kas_tail3 n nrem p)).2 (zZ lt (W.kas_tail3 n nrem p)).1/\(zZ lt (W.kas_tail3 n nrem p)).2.size=p.size/\(zZ lt (W.kas_tail3 n nrem p)).1<=nrem:=by
 unfold W.kas_tail3
 rw[Jp]
 obtain⟨a,b,c,_⟩:=Qag h (nrem - n) n h1 (QhH (by omega) d)
 exact⟨a,Jw,by show zZ lt (W.kas_asc (W.kas_rev p 0 n) (nrem - n) n)<=nrem;omega⟩
theorem Vi(h:SW lt){n nrem:Nat}(h1:1<=n)(h2:n<nrem)(h3:nrem<=p.size)(d:DnA lt p (n+1)):UpA lt (zZ lt (W.kas_descPart n nrem p)).2 (zZ lt (W.kas_descPart n nrem p)).1/\(zZ lt (W.kas_descPart n nrem p)).2.size=p.size/\(zZ lt (W.kas_descPart n nrem p)).1<=nrem:=by
 unfold W.kas_descPart
 rw[Jp]
 obtain⟨a1,a2,a3,a4,a5⟩:=VN h (nrem - (n+1)) p (n+1) 0 (by omega) (by omega) d (Qe9 h)
 generalize zZ lt (W.kas_desc (nrem - (n+1)) p (n+1) 0)=r at a1 a2 a3 a4 a5
 by_cases hq:r.2.2 > 0
 .rw[qj hq]
  obtain⟨b1,b2,b3⟩:=KN h (p:=W.kas_rev r.1 (r.2.1 - (r.2.2+1)) r.2.1) (n:=r.2.1) (nrem:=nrem) a3 (by omega) (by rw[Jw];omega) (Qfe h (QaA h (by omega) a5) a1)
  exact⟨b1,b2.trans (Jw.trans a2),b3⟩
 .rw[ql hq]
  obtain⟨b1,b2,b3⟩:=KN h (p:=r.1) (n:=r.2.1) (nrem:=nrem) a3 (by omega) (by omega) a1
  exact⟨b1,b2.trans a2,b3⟩
theorem Qdm(h:SW lt){nrem:Nat}(h1:1<=nrem)(h3:nrem<=p.size):UpA lt (zZ lt (W.kas_count nrem p)).2 (zZ lt (W.kas_count nrem p)).1/\(zZ lt (W.kas_count nrem p)).2.size=p.size/\(zZ lt (W.kas_count nrem p)).1<=nrem:=by
 unfold W.kas_count
 rw[Jp]
 obtain⟨a,b,c,d⟩:=Qag (p:=p) h (nrem - 1) 1 (qp _) (fun i j h1 h2=>by rw[show i=0 by omega,show j=0 by omega];exact h.irr _)
 generalize zZ lt (W.kas_asc p (nrem - 1) 1)=n at a b c d
 by_cases hn:(n == nrem)=true
 .rw[qj hn]
  exact⟨a,rfl,by show n<=nrem;omega⟩
 .rw[ql hn]
  have hne:n≠nrem:=fun z=>hn (by rw[z];exact yX _)
  have dl:=d (by omega)
  by_cases hn1:n > 1
  .rw[qj hn1]
   cases c0:lt (gA p 0) (gA p (n - 1)) with
   | true =>
     have er:zZ lt (W.KasT.ask (p.getD 0 0) (p.getD (n - 1) 0) fun c=>if c=true then W.KasT.ret (n,p) else W.kas_descPart n nrem (W.kas_rev p 0 n))=(n,p):=by
      show zZ lt (if lt (gA p 0) (gA p (n - 1))=true then _ else _)=_
      rw[qj c0];rfl
     rw[er]
     exact⟨a,rfl,by show n<=nrem;omega⟩
   | false =>
     have er:zZ lt (W.KasT.ask (p.getD 0 0) (p.getD (n - 1) 0) fun c=>if c=true then W.KasT.ret (n,p) else W.kas_descPart n nrem (W.kas_rev p 0 n))=zZ lt (W.kas_descPart n nrem (W.kas_rev p 0 n)):=by
      show zZ lt (if lt (gA p 0) (gA p (n - 1))=true then _ else _)=_
      rw[c0,ql (by decide)]
     rw[er]
     have eq:∀i,i<n->EqA lt (gA p i) (gA p (n - 1)):=fun i hi=>⟨h.neg _ _ _ (a 0 i (qP _) hi) c0,a i (n - 1) (by omega) (by omega)⟩
     have dn:DnA lt p n:=fun i j hij hj=>h.neg _ _ _ (eq i (by omega)).1 (eq j hj).2
     have dn1:DnA lt p (n+1):=Kz h dn (.inr (h.asy _ _ dl))
     obtain⟨b1,b2,b3⟩:=Vi h (p:=W.kas_rev p 0 n) (n:=n) (nrem:=nrem) (by omega) (by omega) (by rw[Jw];exact h3) (Qfe h (QaA h (by omega) fun i _ hi=>eq i hi) dn1)
     exact⟨b1,b2.trans Jw,b3⟩
  .rw[ql hn1]
   have hn2:n=1:=by omega
   subst hn2
   exact Vi h (qp _) (by omega) h3 (Kz h (fun i j h1 h2=>by rw[show i=0 by omega,show j=0 by omega];exact h.irr _) (.inr (h.asy _ _ dl)))
theorem Wo(h:SW lt){k:Nat}(u:UpA lt p k):∀(f l r:Nat),l<=r->r<=k->r - l<=f->(∀i,i<l->lt (gA p k) (gA p i)=false)->(∀i,r<=i->i<k->lt (gA p k) (gA p i)=true) ->
 zZ lt (W.kas_place p k f l r)<=k/\(∀i,i<zZ lt (W.kas_place p k f l r)->lt (gA p k) (gA p i)=false)/\∀i,zZ lt (W.kas_place p k f l r)<=i->i<k->lt (gA p k) (gA p i)=true
 | 0,l,r,h1,h2,h3,ha,hb=>⟨by show l<=k;omega,ha,fun i hi hk=>hb i (by have:l<=i:=hi;omega) hk⟩
 | f+1,l,r,h1,h2,h3,ha,hb=>by
   by_cases hlr:l>=r
   .have er:zZ lt (W.kas_place p k (f+1) l r)=l:=by
     show zZ lt (if l>=r then W.KasT.ret l else _)=l
     rw[qj hlr];rfl
    rw[er]
    exact⟨by omega,ha,fun i hi hk=>hb i (by omega) hk⟩
   .cases c:lt (gA p k) (gA p ((l+r) / 2)) with
    | true =>
      have er:zZ lt (W.kas_place p k (f+1) l r)=zZ lt (W.kas_place p k f l ((l+r) / 2)):=by
       show zZ lt (if l>=r then W.KasT.ret l else W.KasT.ask (p.getD k 0) (p.getD ((l+r) / 2) 0) fun c=>if c=true then W.kas_place p k f l ((l+r) / 2) else W.kas_place p k f ((l+r) / 2+1) r)=_
       rw[ql hlr]
       show zZ lt (if lt (gA p k) (gA p ((l+r) / 2))=true then _ else _)=_
       rw[qj c]
      rw[er]
      refine Wo h u f l ((l+r) / 2) (by omega) (by omega) (by omega) ha fun i hi hk=>?_
      cases z:lt (gA p k) (gA p i) with
      | true=>rfl
      | false=>exact absurd (h.neg _ _ _ z (u _ _ hi hk)) (by rw[c];decide)
    | false =>
      have er:zZ lt (W.kas_place p k (f+1) l r)=zZ lt (W.kas_place p k f ((l+r) / 2+1) r):=by
       show zZ lt (if l>=r then W.KasT.ret l else W.KasT.ask (p.getD k 0) (p.getD ((l+r) / 2) 0) fun c=>if c=true then W.kas_place p k f l ((l+r) / 2) else W.kas_place p k f ((l+r) / 2+1) r)=_
       rw[ql hlr]
       show zZ lt (if lt (gA p k) (gA p ((l+r) / 2))=true then _ else _)=_
       rw[c,ql (by decide)]
      rw[er]
      exact Wo h u f ((l+r) / 2+1) r (by omega) h2 (by omega) (fun i hi=>h.neg _ _ _ c (u _ _ (by omega) (by omega))) hb
theorem Qe4{k d:Nat}(hk:k<p.size)(hd:d<=k)(j:Nat):gA (bubble p k d) j=if j=k - d then gA p k else if k - d<j/\j<=k then gA p (j - 1) else gA p j:=by
 rw[Vt,getElem?_bubble hk d hd]
 by_cases h1:j=k - d
 .rw[qj h1,qj h1,Vt]
 .rw[ql h1,ql h1]
  by_cases h2:k - d<j/\j<=k
  .rw[qj h2,qj h2,Vt]
  .rw[ql h2,ql h2,Vt]
theorem Qhm(h:SW lt){k l:Nat}(hk:k<p.size)(u:UpA lt p k)(hl:l<=k)(ha:∀i,i<l->lt (gA p k) (gA p i)=false)(hb:∀i,l<=i->i<k->lt (gA p k) (gA p i)=true):UpA lt (bubble p k (k - l)) (k+1):=fun i j hij hj=>by
 rw[Qe4 hk (by omega),Qe4 hk (by omega),show k - (k - l)=l by omega]
 by_cases hi:i=l
 .rw[qj hi]
  by_cases hjl:j=l
  .rw[qj hjl];exact h.irr _
  .rw[ql hjl,qj ⟨by omega,by omega⟩]
   exact h.asy _ _ (hb _ (by omega) (by omega))
 .rw[ql hi]
  by_cases hi2:l<i/\i<=k
  .rw[qj hi2,ql (by omega),qj ⟨by omega,by omega⟩]
   exact u _ _ (by omega) (by omega)
  .rw[ql hi2]
   by_cases hjl:j=l
   .rw[qj hjl];exact ha _ (by omega)
   .rw[ql hjl]
    by_cases hj2:l<j/\j<=k
    .rw[qj hj2];exact u _ _ (by omega) (by omega)
    .rw[ql hj2];exact u _ _ hij (by omega)
theorem Qdn(h:SW lt):∀(f:Nat)(p:Array Nat)(k:Nat),k+f<=p.size->UpA lt p k->UpA lt (zZ lt (W.kas_bin f p k)) (k+f)/\(zZ lt (W.kas_bin f p k)).size=p.size
 | 0,p,k,_,u=>⟨u,rfl⟩
 | f+1,p,k,hs,u=>by
   have er:zZ lt (W.kas_bin (f+1) p k)=zZ lt (W.kas_bin f (bubble p k (k - zZ lt (W.kas_place p k k 0 k))) (k+1)):=by
    show zZ lt ((W.kas_place p k k 0 k).bind _)=_
    rw[Jp]
   rw[er]
   obtain⟨a,b,c⟩:=Wo h u k 0 k (qP _) (qp _) (by omega) (fun i hi=>absurd hi (Nat.not_lt_zero _)) fun i h1 h2=>absurd h2 (by omega)
   obtain⟨d,e⟩:=Qdn h f (bubble p k (k - zZ lt (W.kas_place p k k 0 k))) (k+1) (by rw[bubble_size];omega) (Qhm h (by omega) u a b c)
   exact⟨by rw[show k+(f+1)=k+1+f by omega];exact d,e.trans (bubble_size ..)⟩
theorem Qfx(h:SW lt){n:Nat}(hn:1<=n):UpA lt (zZ lt (W.kas_sort n)) n:=by
 unfold W.kas_sort
 rw[Jp]
 have hz:(List.toArray (List.range n)).size=n:=by simp
 obtain⟨a,b,c⟩:=Qdm (p:=List.toArray (List.range n)) h hn (by omega)
 generalize zZ lt (W.kas_count n (List.toArray (List.range n)))=r at a b c
 by_cases hr:r.1<n
 .rw[qj hr]
  have u1:UpA lt r.2 (max r.1 1):=fun i j hij hj=>by
   by_cases hj1:j<r.1
   .exact a i j hij hj1
   .rw[show i=0 by omega,show j=0 by omega];exact h.irr _
  have:=(Qdn h (n - max r.1 1) r.2 (max r.1 1) (by omega) u1).1
  rw[show max r.1 1+(n - max r.1 1)=n by omega] at this
  exact this
 .rw[ql hr]
  rw[show n=r.1 by omega]
  exact a
end
theorem InT.congr{α:Type}{n:Nat}{R:α->Prop}{lt lt':Nat->Nat->Bool}(hc:∀i j,i<n->j<n->lt i j=lt' i j){t:W.KasT α}(h:InT n R t):zZ lt t=zZ lt' t:=by
 induction h with
 | ret h=>rfl
 | @ask i j k hi hj _ ih =>
   show zZ lt (k (lt i j))=zZ lt' (k (lt' i j))
   rw[hc _ _ hi hj]
   exact ih _
def KK(ds:List KD):Prop:=(∀d∈ds,∃n,d=.inl n)\/(∀d∈ds,∃n x,d=.inr (n,x))
def leP(q p:Int×Str):Prop:=q.1<p.1\/(q.1=p.1/\leS q.2 p.2=true)
theorem QeG(x:Str):leS x x=true:=(XH x x).elim id id
theorem Z6(p q:Int×Str):uy (.inr p) (.inr q)=false↔leP q p:=by
 obtain⟨n,x⟩:=p
 obtain⟨m,y⟩:=q
 show(if n=m then (if x=y then false else decide (x.cps.toList<y.cps.toList)) else decide (n<m))=false↔(m<n\/(m=n/\leS y x=true))
 by_cases h:n=m
 .rw[qj h]
  by_cases e:x=y
  .rw[qj e,e];exact⟨fun _=>.inr ⟨h.symm,QeG _⟩,fun _=>rfl⟩
  .rw[ql e,UP,decide_eq_false_iff_not]
   exact⟨fun z=>.inr ⟨h.symm,z⟩,fun z=>z.elim (fun w=>by omega) fun w=>w.2⟩
 .rw[ql h,decide_eq_false_iff_not]
  exact⟨fun z=>.inl (by omega),fun z=>z.elim (fun w=>by omega) fun w=>absurd w.1.symm h⟩
theorem QcT(p q:Int×Str):leP p q\/leP q p:=by
 unfold leP
 rcases Int.lt_trichotomy p.1 q.1 with h | h | h
 .exact .inl (.inl h)
 .exact(XH p.2 q.2).imp (fun z=>.inr ⟨h,z⟩) fun z=>.inr ⟨h.symm,z⟩
 .exact .inr (.inl h)
theorem QcS{p q r:Int×Str}(h1:leP p q)(h2:leP q r):leP p r:=by
 rcases h1 with h1 | ⟨h1,h1'⟩ <;> rcases h2 with h2 | ⟨h2,h2'⟩
 .exact .inl (by omega)
 .exact .inl (by omega)
 .exact .inl (by omega)
 .exact .inr ⟨by omega,QcR h1' h2'⟩
theorem GG{p q:Int×Str}(h1:leP p q)(h2:leP q p):p=q:=by
 rcases h1 with h1 | ⟨h1,h1'⟩ <;> rcases h2 with h2 | ⟨h2,h2'⟩
 .omega
 .omega
 .omega
 .exact Prod.ext h1 (Kq h1' h2')
theorem Qao(f:Nat->Int×Str):SW fun i j=>uy (.inr (f i)) (.inr (f j)) where
 asy a b h:=(Z6 _ _).mpr ((QcT (f a) (f b)).elim id fun z=>absurd ((Z6 (f a) (f b)).mpr z) (by rw[h];decide))
 neg a b c h1 h2:=(Z6 _ _).mpr (QcS ((Z6 _ _).mp h2) ((Z6 _ _).mp h1))
theorem Kp(n m:Int):uy (.inl n) (.inl m)=decide (n<m):=rfl
theorem Qap(f:Nat->Int):SW fun i j=>uy (.inl (f i)) (.inl (f j)) where
 asy a b h:=by rw[Kp] at h ⊢;have:=qD h;exact qz (by omega)
 neg a b c h1 h2:=by rw[Kp] at h1 h2 ⊢;have:=wM h1;have:=wM h2;exact qz (by omega)
theorem QbK{ds:List KD}(hu:KK ds):(ZE ds).Pairwise fun i j=>uy (ds.getD j (.inl 0)) (ds.getD i (.inl 0))=false:=by
 unfold ZE
 split
 .rename_i h
  match ds,h with
  | [],_=>exact .nil
  | [_],_=>exact jw _ _
 .rename_i h
  obtain⟨lt,hlt,hsw⟩:∃lt:Nat->Nat->Bool,(∀i j,i<ds.length->j<ds.length->uy (ds.getD i (.inl 0)) (ds.getD j (.inl 0))=lt i j)/\SW lt:=by
   rcases hu with hu | hu
   .refine⟨_,fun i j hi hj=>?_,Qap fun i=>(ds.getD i (.inl 0)).elim id fun p=>p.1⟩
    obtain⟨n,e⟩:=hu _ (Zl (d:=.inl 0) hi)
    obtain⟨m,e'⟩:=hu _ (Zl (d:=.inl 0) hj)
    rw[e,e'];rfl
   .refine⟨_,fun i j hi hj=>?_,Qao fun i=>(ds.getD i (.inl 0)).elim (fun n=>(n,"")) id⟩
    obtain⟨n,x,e⟩:=hu _ (Zl (d:=.inl 0) hi)
    obtain⟨m,y,e'⟩:=hu _ (Zl (d:=.inl 0) hj)
    rw[e,e'];rfl
  have hin:=Ks (n:=ds.length) (by omega)
  rw[InT.congr hlt hin]
  have up:=Qfx hsw (n:=ds.length) (by omega)
  have pr:Jd ds.length (zZ lt (W.kas_sort ds.length)):=hin.end_
  generalize zZ lt (W.kas_sort ds.length)=p at up pr
  have hsz:p.toList.length=ds.length:=by rw[pr.length_eq,List.length_range]
  refine yG.mpr fun i j hi hj hij=>?_
  have gi:gA p i=p.toList[i]:=by rw[Vt,<-qC,qe hi];rfl
  have gj:gA p j=p.toList[j]:=by rw[Vt,<-qC,qe hj];rfl
  rw[<-gi,<-gj,hlt _ _ (pr.lt (by omega) _) (pr.lt (by omega) _)]
  exact up i j (by omega) (by omega)
def xn{α:Type}(key:α->KD)(xs:List α):List α:=(ZE (xs.map key)).filterMap fun i=>xs[i]?
section
variable {α β:Type}{key:α->KD}{xs:List α}
theorem Ut(f:α->V):(ZE (xs.map key)).map (fun i=>(xs.map f).getD i .non)=(xn key xs).map f:=by
 unfold xn
 have:∀l:List Nat,(∀i∈l,i<xs.length)->l.map (fun i=>(xs.map f).getD i .non)=(l.filterMap fun i=>xs[i]?).map f:=by
  intro l
  induction l with
  | nil=>intro _;rfl
  | cons i l ih =>
    intro h
    have hi:=h i (qI ..)
    rw[z7,ih fun j hj=>h j (qu _ hj),vW,qe hi,zr,qJ,qe hi]
    rfl
 refine this _ fun i hi=>?_
 have:=jK.mp ((ZH _).mem_iff.mp hi)
 rwa[qd] at this
theorem Xu:∀xs:List α,(List.range xs.length).filterMap (fun i=>xs[i]?)=xs
 | []=>rfl
 | x :: xs=>by
   rw[zm,List.range_succ_eq_map,vW,List.filterMap_map]
   show x :: (List.range xs.length).filterMap (fun i=>xs[i]?)=_
   rw[Xu xs]
theorem Z7:(xn key xs).Perm xs:=by
 have:=(ZH (xs.map key)).filterMap fun i=>xs[i]?
 rw[qd,Xu] at this
 exact this
theorem Q9{x:α}:x∈xn key xs↔x∈xs:=Z7.mem_iff
theorem YR:(xn key xs).length=xs.length:=Z7.length_eq
theorem V0(hu:KK (xs.map key)):(xn key xs).Pairwise fun x y=>uy (key y) (key x)=false:=by
 unfold xn
 refine List.pairwise_filterMap.mpr ((QbK hu).imp fun{i j} h x hx y hy=>?_)
 rw[zr,zr,qJ,qJ,hx,hy] at h
 exact h
theorem YX{R:α->α->Prop}:∀{a b:List α},a.Perm b->a.Pairwise R->b.Pairwise R->(∀x∈a,∀y∈a,R x y->R y x->x=y)->a=b
 | [],b,p,_,_,_=>p.nil_eq
 | x :: a,[],p,_,_,_=>absurd p.symm.nil_eq (by simp)
 | x :: a,y :: b,p,h1,h2,h=>by
   have hx:x=y:=by
    rcases qR.mp (p.mem_iff.mp (qI ..)) with e | e
    .exact e
    .rcases qR.mp (p.mem_iff.mpr (qI ..)) with e' | e'
     .exact e'.symm
     .exact h x (qI ..) y (qu _ e') ((xH.mp h1).1 y e') ((xH.mp h2).1 x e)
   subst hx
   rw[YX (List.perm_cons x |>.mp p) (xH.mp h1).2 (xH.mp h2).2 fun u hu v hv=>h u (qu _ hu) v (qu _ hv)]
theorem KK.perm{ds ds':List KD}(h:KK ds)(p:ds.Perm ds'):KK ds':=h.imp (fun z d hd=>z d (p.mem_iff.mpr hd)) fun z d hd=>z d (p.mem_iff.mpr hd)
theorem Qcf{ys:List α}(hu:KK (xs.map key))(p:xs.Perm ys)(inj:∀x∈xs,∀y∈xs,uy (key y) (key x)=false->uy (key x) (key y)=false->x=y):xn key xs=xn key ys :=
 YX (Z7.trans (p.trans Z7.symm)) (V0 hu) (V0 (hu.perm (p.map key))) fun x hx y hy=>inj x (Q9.mp hx) y (Q9.mp hy)
end
end L2
namespace L2
open PySem PySem.Spec PyProof.Rows
theorem Qda{X:Cx}(hc:X.calm=true):YM X (.builtin "max") (fun xs H Q=>∃l ns,xs=[.ref l]/\jk X.K H l (ns.map V.int)/\ns≠[]/\Q (.int (mxd 0 ns)) H):=by
 intro pins s σ H xs us Q I r h
 obtain⟨l,ns,rfl,hl,hne,q⟩:=h
 obtain⟨u,rfl,ru⟩:=Vh r
 cases ru
 obtain⟨its,rv,pl,_⟩:=I.list hl
 obtain⟨ys,e1,e2⟩:=Uj rv
 have hls:s.heap.IsList l (intItems ys):=by rw[<-e1];exact pl.isList
 have hxs:ys.size=ns.length:=by rw[e2];simp
 have hpos:0<ns.length:=by cases ns with | nil=>exact absurd rfl hne | cons _ _=>exact Nat.succ_pos _
 refine max_intList (I.ok.hd hc) hls (by omega) fun v h' tk hv hk=>?_
 obtain⟨t,rfl⟩:=intItems_at hv
 obtain⟨h1,h2⟩:=argBest_gt (numAt ys) (ys.size - 1)
 have eM:numAt ys (argBest (fun i j=>decide (numAt ys i > numAt ys j)) (ys.size - 1))=mxd 0 ns:=by
  refine QbB hpos ?_ fun a ha=>?_
  .rw[e2,numAt_eq];exact getD_mem (by rw[qd,qH];omega)
  .rw[e2] at ha
   obtain⟨i,hi,rfl⟩:=mem_getD ha
   rw[qd,qH] at hi
   rw[<-numAt_eq];exact h2 i (by omega)
 exact⟨.int (mxd 0 ns),H,I.kept (t':=tk) hk,⟨t,by rw[eM]⟩,q⟩
section
open PySem.AutoSeq1 (wpAny_loadPart')
open PySem.MeetsSeq PySem.MeetsSeq2 PySem.MeetsSeq3
end
end L2
namespace L2
open PySem PySem.Spec PyProof.Rows
structure Zu where
 prog:Program
 w:World
 A:Around
 E:QpL
 P:Shared->Prop
 κ:SortKind
 lv:Keyed->Keyed->Bool
 It:Keyed->Prop
 cmp:∀x y,It x->It y->∀s,P s->∀C:Bool->Shared->Prop,(∀s',P s'->C (lv x y) s')->wpAny (model prog w) A (keyLt' κ x.1 y.1) C (fun _ _=>False) s
 Qpy:∀x y,lv x y=true->lv y x=false
 neg:∀x y z,lv x y=false->lv y z=false->lv x z=false
def Zu.le(X:Zu)(x y:Keyed):Prop:=X.lv y x=false
section
variable {X:Zu}
theorem Zu.refl(x:Keyed):X.le x x:=by
 cases h:X.lv x x with
 | false=>exact h
 | true=>exact X.Qpy x x h
theorem Zu.trans{x y z:Keyed}(h1:X.le x y)(h2:X.le y z):X.le x z:=X.neg z y x h2 h1
theorem Zu.of_lt{x y:Keyed}(h:X.lv x y=true):X.le x y:=X.Qpy x y h
def qX(X:Zu){α:Type}(m:StateT SortSt Sem α)(st:SortSt)(Q:α->SortSt->Prop):Prop :=
 ∀s,X.P s->∀R:α->SortSt->Shared->Prop,(∀a st' s',X.P s'->Q a st'->R a st' s')->W.kasC (model X.prog X.w) X.A X.E m R st s
theorem qX.pure{α:Type}{a:α}{st:SortSt}{Q:α->SortSt->Prop}(h:Q a st):qX X (pure a) st Q:=fun s p R k=>W.kasC_pure (k a st s p h)
theorem qX.bind{α β:Type}{m:StateT SortSt Sem α}{f:α->StateT SortSt Sem β}{st:SortSt}{Q:β->SortSt->Prop}(h:qX X m st fun a st'=>qX X (f a) st' Q):qX X (m >>= f) st Q :=
 fun s p R k=>W.kasC_bind (h s p _ fun a st' s' p' q=>q s' p' R k)
theorem qX.get{st:SortSt}{Q:SortSt->SortSt->Prop}(h:Q st st):qX X (get:StateT SortSt Sem SortSt) st Q:=fun s p R k=>W.kasC_get (k st st s p h)
theorem qX.modify{f:SortSt->SortSt}{st:SortSt}{Q:PUnit->SortSt->Prop}(h:Q ⟨⟩ (f st)):qX X (modify f:StateT SortSt Sem PUnit) st Q:=fun s p R k=>W.kasC_modify (k ⟨⟩ (f st) s p h)
theorem qX.set{st st':SortSt}{Q:PUnit->SortSt->Prop}(h:Q ⟨⟩ st'):qX X (set st':StateT SortSt Sem PUnit) st Q:=fun s p R k=>by
 unfold W.kasC
 rw[StateT.run_set]
 exact qx (k ⟨⟩ st' s p h)
theorem qX.mono{α:Type}{m:StateT SortSt Sem α}{st:SortSt}{Q Q':α->SortSt->Prop}(h:qX X m st Q)(k:∀a st',Q a st'->Q' a st'):qX X m st Q':=fun s p R kr=>h s p R fun a st' s' p' q=>kr a st' s' p' (k a st' q)
theorem qX.rule{r:String}{st:SortSt}{Q:Unit->SortSt->Prop}(h:Q () st):qX X (liftM (PySem.rule r:Sem Unit):StateT SortSt Sem Unit) st Q:=fun s p R k=>W.kasC_lift (wpAny_rule (k () st s p h))
theorem qX.lt{x y:Keyed}{st:SortSt}{Q:Option Bool->SortSt->Prop}(hx:X.It x)(hy:X.It y)(hk:kindOf st=X.κ)(h:Q (some (X.lv x y)) st):qX X (lt' x y) st Q:=fun s p R k=>by
 rw[lt'_eq]
 refine W.kasC_bind (W.kasC_get ?_)
 have hc0:wpAny (model X.prog X.w) X.A (keyLt' (kindOf st) x.1 y.1) (fun b s'=>b=X.lv x y/\X.P s') (fun _ _=>False) s:=by rw[hk];exact X.cmp x y hx hy s p (fun b s'=>b=X.lv x y/\X.P s') fun s' p'=>⟨rfl,p'⟩
 refine W.kasC_bind (W.kasC_lift (gF (jM hc0 (fun c s' hc=>?_) fun _ _ hF=>False.elim hF)))
 obtain⟨rfl,p'⟩:=hc
 exact W.kasC_pure (k _ st s' p' h)
theorem qX.elem{arr:Array Keyed}{i:Nat}{x:Keyed}{st:SortSt}{Q:Keyed->SortSt->Prop}(e:arr[i]?=some x)(h:Q x st):qX X (elem' arr i) st Q:=by
 rw[elem'_eq,e]
 exact qX.pure h
theorem qX.range{β:Type}{a b:Nat}{c:β}{f:Nat->β->StateT SortSt Sem (ForInStep β)}{st:SortSt}{Q:β->SortSt->Prop}(I:Nat->β->SortSt->Prop)(h0:I 0 c st)
 (step:∀k v st',k<b - a->I k v st'->qX X (f (a+k) v) st' fun r st''=>match r with | .done v'=>Q v' st'' | .yield v'=>I (k+1) v' st'') (fin:∀v st',I (b - a) v st'->Q v st'):qX X (forIn [a:b] c f) st Q:=fun s p R kr=>by
 refine W.kasC_range ?_
 have key:∀(n k:Nat)(v:β)(st':SortSt)(s:Shared),k+n=b - a->I k v st'->X.P s->W.kasC (model X.prog X.w) X.A X.E (forIn (List.range' (a+k) n) v f) R st' s:=by
  intro n
  induction n with
  | zero =>
    intro k v st' s hk hi p
    exact W.kasC_nil (kr _ _ _ p (fin _ _ (by rw[<-hk,Nat.add_zero];exact hi)))
  | succ n ih =>
    intro k v st' s hk hi p
    rw[List.range'_succ]
    refine W.kasC_cons (step k v st' (by omega) hi s p _ fun r st'' s' p' q=>?_)
    cases r with
    | done v'=>exact kr _ _ _ p' q
    | yield v' =>
      show W.kasC _ _ _ (forIn (List.range' (a+k+1) n) v' f) R st'' s'
      rw[Nat.add_assoc]
      exact ih (k+1) v' st'' s' (by omega) q p'
 exact key (b - a) 0 c st s (by omega) h0 p
end
def ZC:Bool->Keyed->Array Keyed->Nat->Nat->Nat->StateT SortSt Sem (Option Nat):=sortPriv% PySem.Builtin.gallop
def Ww:Array Keyed->Array Keyed->StateT SortSt Sem (Array Keyed):=sortPriv% PySem.Builtin.mergeLo
def Wx:Array Keyed->Array Keyed->StateT SortSt Sem (Array Keyed):=sortPriv% PySem.Builtin.mergeHi
def Yu(left:Bool)(key:Keyed)(arr:Array Keyed)(base:Nat)(i:Nat):StateT SortSt Sem (Option Bool):=do
 let x <-elem' arr (base+i)
 if left then lt' x key else return (<-lt' key x).map (!·)
theorem Qa2(left:Bool)(key:Keyed)(arr:Array Keyed)(base n hint:Nat):ZC left key arr base n hint=(do
 let mut lastofs:=0
 let mut ofs:=1
 let mut lo:=0
 let mut hi:=0
 let some right <-Yu left key arr base hint | return none
 if right then
  let maxofs:=n - hint
  for _ in [0:n] do
   if ofs>=maxofs then break
   let some more <-Yu left key arr base (hint+ofs) | return none
   if !more then break
   lastofs:=ofs
   ofs:=2*ofs+1
  lo:=hint+lastofs+1
  hi:=hint+min ofs maxofs
 else
  let maxofs:=hint+1
  for _ in [0:n] do
   if ofs>=maxofs then break
   let some found <-Yu left key arr base (hint - ofs) | return none
   if found then break
   lastofs:=ofs
   ofs:=2*ofs+1
  lo:=hint+1 - min ofs maxofs
  hi:=hint - lastofs
 for _ in [0:n] do
  if lo>=hi then break
  let m:=lo+(hi - lo) / 2
  let some more <-Yu left key arr base m | return none
  if more then lo:=m+1 else hi:=m
 return some hi):=rfl
end L2
namespace L2
open PySem PySem.Spec PyProof.Rows
section
variable {X:Zu}
structure KL(X:Zu)(left:Bool)(key:Keyed)(arr:Array Keyed)(base n:Nat)(B:Nat->Bool):Prop where
 ik:X.It key
 at_:∀i,i<n->∃x,arr[base+i]?=some x/\X.It x/\B i=(if left then X.lv x key else !(X.lv key x))
 mono:∀i j,i<=j->j<n->B j=true->B i=true
theorem Y0{left:Bool}{key:Keyed}{arr:Array Keyed}{base n i:Nat}{B:Nat->Bool}(g:KL X left key arr base n B){st:SortSt}{Q:Option Bool->SortSt->Prop}(hk:kindOf st=X.κ)(hi:i<n)(h:Q (some (B i)) st):qX X (Yu left key arr base i) st Q:=by
 obtain⟨x,e,hx,eB⟩:=g.at_ i hi
 unfold Yu
 refine qX.bind (qX.elem e ?_)
 cases left with
 | true =>
   simp only[gD] at eB ⊢
   rw[eB] at h
   exact qX.lt hx g.ik hk h
 | false =>
   simp only[zM,jD] at eB ⊢
   rw[eB] at h
   exact qX.bind (qX.lt g.ik hx hk (qX.pure h))
def JM(left:Bool)(key:Keyed)(arr:Array Keyed)(base n lo0 hi0:Nat):StateT SortSt Sem (Option Nat):=do
 let mut lo:=lo0
 let mut hi:=hi0
 for _ in [0:n] do
  if lo>=hi then break
  let m:=lo+(hi - lo) / 2
  let some more <-Yu left key arr base m | return none
  if more then lo:=m+1 else hi:=m
 return some hi
theorem Vd{left:Bool}{key:Keyed}{arr:Array Keyed}{base n lo hi:Nat}{B:Nat->Bool}(g:KL X left key arr base n B){st:SortSt}{Q:Option Nat->SortSt->Prop}(hk:kindOf st=X.κ)(h1:lo<=hi)(h2:hi<=n)(h3:lo=0\/B (lo - 1)=true)(h4:hi=n\/B hi=false)
 (h:∀k,k<=n->(∀i,i<k->B i=true)->(∀i,k<=i->i<n->B i=false)->Q (some k) st):qX X (JM left key arr base n lo hi) st Q:=by
 unfold JM
 dsimp only
 refine qX.bind (qX.range (fun k v st'=>st'=st/\v.1=none/\v.2.1<=v.2.2/\v.2.2<=n/\(v.2.1=0\/B (v.2.1 - 1)=true)/\(v.2.2=n\/B v.2.2=false)/\v.2.2 - v.2.1<=n - k) ⟨rfl,rfl,h1,h2,h3,h4,by dsimp only;omega⟩ ?_ ?_)
 .rintro k ⟨v0,l,r⟩ st' hkn ⟨rfl,rfl,a1,a2,a3,a4,a5⟩
  dsimp only at a1 a2 a3 a4 a5 ⊢
  by_cases e:l>=r
  .rw[qj e]
   refine qX.pure ?_
   dsimp only
   have:l=r:=by omega
   subst this
   refine qX.pure (h l a2 (fun i hi'=>?_) fun i h5 h6=>?_)
   .rcases a3 with z | z
    .omega
    .exact g.mono i (l - 1) (by omega) (by omega) z
   .rcases a4 with z | z
    .omega
    .cases eb:B i with
     | false=>rfl
     | true=>rw[g.mono l i h5 h6 eb] at z;cases z
  .rw[ql e]
   have hm:l+(r - l) / 2<n:=by omega
   refine qX.bind (Y0 g hk hm ?_)
   dsimp only
   cases eb:B (l+(r - l) / 2) with
   | true =>
     rw[qj rfl]
     refine qX.pure ⟨rfl,rfl,by dsimp only;omega,a2,.inr (by dsimp only;rw[xJ];exact eb),a4,by dsimp only;omega⟩
   | false =>
     rw[ql (by decide)]
     refine qX.pure ⟨rfl,rfl,by dsimp only;omega,by dsimp only;omega,a3,.inr eb,by dsimp only;omega⟩
 .rintro⟨v0,l,r⟩ st' ⟨rfl,rfl,a1,a2,a3,a4,a5⟩
  dsimp only at a1 a2 a3 a4 a5 ⊢
  have:l=r:=by omega
  subst this
  refine qX.pure (h l a2 (fun i hi'=>?_) fun i h5 h6=>?_)
  .rcases a3 with z | z
   .omega
   .exact g.mono i (l - 1) (by omega) (by omega) z
  .rcases a4 with z | z
   .omega
   .cases eb:B i with
    | false=>rfl
    | true=>rw[g.mono l i h5 h6 eb] at z;cases z
theorem Jq{left:Bool}{key:Keyed}{arr:Array Keyed}{base n hint:Nat}{B:Nat->Bool}(g:KL X left key arr base n B){st:SortSt}{Q:Option Nat->SortSt->Prop}(hk:kindOf st=X.κ)(hh:hint<n)
 (h:∀k,k<=n->(∀i,i<k->B i=true)->(∀i,k<=i->i<n->B i=false)->Q (some k) st):qX X (ZC left key arr base n hint) st Q:=by
 rw[Qa2]
 refine qX.bind (Y0 g hk hh ?_)
 dsimp only
 cases hb:B hint with
 | true =>
   rw[qj rfl]
   refine qX.bind (qX.range (fun k v st'=>st'=st/\v.1=none/\v.2.1<v.2.2/\k+1<=v.2.2/\hint+v.2.1<n/\B (hint+v.2.1)=true) ⟨rfl,rfl,by decide,qp _,hh,hb⟩ ?_ ?_)
   .rintro k ⟨v0,l,r⟩ st' hkn ⟨rfl,rfl,a1,a2,a3,a4⟩
    dsimp only at a1 a2 a3 a4 ⊢
    by_cases e:r>=n - hint
    .rw[qj e]
     refine qX.pure ?_
     dsimp only
     exact(show qX X (JM left key arr base n (hint+l+1) (hint+min r (n - hint))) st' Q from Vd g hk (by omega) (by omega) (.inr (by rw[xJ];exact a4)) (.inl (by omega)) h)
    .rw[ql e]
     refine qX.bind (Y0 g hk (by omega) ?_)
     dsimp only
     cases eb:B (hint+r) with
     | true =>
       rw[ql (by decide)]
       exact qX.pure ⟨rfl,rfl,by dsimp only;omega,by dsimp only;omega,by dsimp only;omega,eb⟩
     | false =>
       rw[qj (by decide)]
       refine qX.pure ?_
       dsimp only
       refine(show qX X (JM left key arr base n (hint+l+1) (hint+min r (n - hint))) st' Q from Vd g hk (by omega) (by omega) (.inr (by rw[xJ];exact a4)) (.inr (by rw[jA (by omega)];exact eb)) h)
   .rintro⟨v0,l,r⟩ st' ⟨rfl,rfl,a1,a2,a3,a4⟩
    dsimp only at a1 a2 a3 a4 ⊢
    exact(show qX X (JM left key arr base n (hint+l+1) (hint+min r (n - hint))) st' Q from Vd g hk (by omega) (by omega) (.inr (by rw[xJ];exact a4)) (.inl (by omega)) h)
 | false =>
   rw[ql (by decide)]
   refine qX.bind (qX.range (fun k v st'=>st'=st/\v.1=none/\v.2.1<v.2.2/\k+1<=v.2.2/\v.2.1<=hint/\B (hint - v.2.1)=false) ⟨rfl,rfl,by decide,qp _,qP _,hb⟩ ?_ ?_)
   .rintro k ⟨v0,l,r⟩ st' hkn ⟨rfl,rfl,a1,a2,a3,a4⟩
    dsimp only at a1 a2 a3 a4 ⊢
    by_cases e:r>=hint+1
    .rw[qj e]
     refine qX.pure ?_
     dsimp only
     exact(show qX X (JM left key arr base n (hint+1 - min r (hint+1)) (hint - l)) st' Q from Vd g hk (by omega) (by omega) (.inl (by omega)) (.inr a4) h)
    .rw[ql e]
     refine qX.bind (Y0 g hk (by omega) ?_)
     dsimp only
     cases eb:B (hint - r) with
     | false =>
       rw[ql (by decide)]
       exact qX.pure ⟨rfl,rfl,by dsimp only;omega,by dsimp only;omega,by dsimp only;omega,eb⟩
     | true =>
       rw[qj rfl]
       refine qX.pure ?_
       dsimp only
       exact(show qX X (JM left key arr base n (hint+1 - min r (hint+1)) (hint - l)) st' Q from Vd g hk (by omega) (by omega) (.inr (by rw[jA (by omega),show hint+1 - r - 1=hint - r by omega];exact eb)) (.inr a4) h)
   .rintro⟨v0,l,r⟩ st' ⟨rfl,rfl,a1,a2,a3,a4⟩
    dsimp only at a1 a2 a3 a4 ⊢
    exact(show qX X (JM left key arr base n (hint+1 - min r (hint+1)) (hint - l)) st' Q from Vd g hk (by omega) (by omega) (.inl (by omega)) (.inr a4) h)
end
end L2
namespace L2
open PySem PySem.Spec PyProof.Rows
abbrev Ue(st:SortSt)(g:Nat):SortSt:=SortSt.mk' (kindOf st) (arrOf st) (pendingOf st) g (failedOf st)
def QP(g:Nat):StateT SortSt Sem Unit:=modify fun s=>Ue s g
theorem Gz(a b:Array Keyed):Ww a b=(do
 rule "list.sort.merge-lo"
 let total:=a.size+b.size
 let done (out:Array Keyed) (ia ib:Nat):=out++a.extract ia a.size++b.extract ib b.size
 let lastOfA (out:Array Keyed) (ia ib:Nat):=out++b.extract ib b.size++a.extract ia a.size
 let mut out:Array Keyed:=#[<-elem' b 0]
 let mut ia:=0
 let mut ib:=1
 if ib == b.size then return done out ia ib
 if ia+1 == a.size then return lastOfA out ia ib
 let mut minGallop:=gallopOf (<-get)
 for _ in [0:total] do
  let mut acount:=0
  let mut bcount:=0
  for _ in [0:total] do
   let some bWins <-lt' (<-elem' b ib) (<-elem' a ia) | return done out ia ib
   if bWins then
    out:=out.push (<-elem' b ib);ib:=ib+1;bcount:=bcount+1;acount:=0
    if ib == b.size then return done out ia ib
    if bcount>=minGallop then break
   else
    out:=out.push (<-elem' a ia);ia:=ia+1;acount:=acount+1;bcount:=0
    if ia+1 == a.size then return lastOfA out ia ib
    if acount>=minGallop then break
  rule "list.sort.gallop"
  minGallop:=minGallop+1
  for _ in [0:total] do
   if minGallop > 1 then minGallop:=minGallop - 1
   QP minGallop
   let some k <-ZC false (<-elem' b ib) a ia (a.size - ia) 0 | return done out ia ib
   acount:=k
   if k > 0 then
    out:=out++a.extract ia (ia+k);ia:=ia+k
    if ia+1 == a.size then return lastOfA out ia ib
    if ia == a.size then return done out ia ib
   out:=out.push (<-elem' b ib);ib:=ib+1
   if ib == b.size then return done out ia ib
   let some k <-ZC true (<-elem' a ia) b ib (b.size - ib) 0 | return done out ia ib
   bcount:=k
   if k > 0 then
    out:=out++b.extract ib (ib+k);ib:=ib+k
    if ib == b.size then return done out ia ib
   out:=out.push (<-elem' a ia);ia:=ia+1
   if ia+1 == a.size then return lastOfA out ia ib
   if acount<7 && bcount<7 then break
  minGallop:=minGallop+1
  QP minGallop
 unsupported "internal:list.sort.merge-bound"):=rfl
section
variable {X:Zu}
structure Mrg(X:Zu)(A B out:List Keyed)(ia ib:Nat):Prop where
 pm:out.Perm (A.take ia++B.take ib)
 so:out.Pairwise X.le
 la:∀x∈out,∀y∈A.drop ia,X.le x y
 lb:∀x∈out,∀y∈B.drop ib,X.le x y
variable {A B out:List Keyed}{ia ib k:Nat}{x y:Keyed}
theorem ZP{L:List Keyed}{i:Nat}{x:Keyed}(e:L[i]?=some x):L.drop i=x :: L.drop (i+1):=by
 have h:=(qi.mp e)
 rw[j7 h.1,h.2]
theorem ZA{L:List Keyed}(s:L.Pairwise X.le){i:Nat}{x:Keyed}(e:L[i]?=some x):∀z∈L.drop i,X.le x z:=fun z hz=>by
 have:=s.sublist (jV i L)
 rw[ZP e] at this hz
 rcases qR.mp hz with q | q
 .rw[q];exact X.refl _
 .exact(xH.mp this).1 z q
theorem Mrg.Qjh(m:Mrg X A B out ia ib)(sB:B.Pairwise X.le)(e:B[ib]?=some y)(h:∀z∈A.drop ia,X.le y z):Mrg X A B (out++[y]) ia (ib+1):=by
 have ed:=ZP e
 refine⟨?_,?_,fun x hx z hz=>?_,fun x hx z hz=>?_⟩
 .rw[zb,e]
  show(out++[y]).Perm (A.take ia++(B.take ib++[y]))
  rw[<-qU]
  exact m.pm.append_right _
 .refine qZ.mpr ⟨m.so,jw _ _,fun x hx z hz=>?_⟩
  rw[qg.mp hz]
  exact m.lb x hx y (by rw[ed];exact qI ..)
 .rcases qF.mp hx with q | q
  .exact m.la x q z hz
  .rw[qg.mp q];exact h z hz
 .rcases qF.mp hx with q | q
  .exact m.lb x q z (by rw[ed];exact qu _ hz)
  .rw[qg.mp q];exact ZA sB e z (by rw[ed];exact qu _ hz)
theorem Mrg.Qji(m:Mrg X A B out ia ib)(sA:A.Pairwise X.le)(e:A[ia]?=some y)(h:∀z∈B.drop ib,X.le y z):Mrg X A B (out++[y]) (ia+1) ib:=by
 have ed:=ZP e
 refine⟨?_,?_,fun x hx z hz=>?_,fun x hx z hz=>?_⟩
 .rw[zb,e]
  show(out++[y]).Perm ((A.take ia++[y])++B.take ib)
  refine(m.pm.append_right _).trans ?_
  rw[qU,qU]
  exact jH _ jJ
 .refine qZ.mpr ⟨m.so,jw _ _,fun x hx z hz=>?_⟩
  rw[qg.mp hz]
  exact m.la x hx y (by rw[ed];exact qI ..)
 .rcases qF.mp hx with q | q
  .exact m.la x q z (by rw[ed];exact qu _ hz)
  .rw[qg.mp q];exact ZA sA e z (by rw[ed];exact qu _ hz)
 .rcases qF.mp hx with q | q
  .exact m.lb x q z hz
  .rw[qg.mp q];exact h z hz
theorem Mrg.Qm1(m:Mrg X A B out ia ib)(sA:A.Pairwise X.le):∀(k:Nat),ia+k<=A.length->(∀i y,i<k->A[ia+i]?=some y->∀z∈B.drop ib,X.le y z)->Mrg X A B (out++(A.drop ia).take k) (ia+k) ib
 | 0,_,_=>by rw[yg,j5];exact m
 | k+1,hl,h=>by
   have m':=m.Qm1 sA k (by omega) fun i y hi e=>h i y (by omega) e
   obtain⟨y,e⟩:∃y,A[ia+k]?=some y:=⟨_,qe (by omega)⟩
   have:=m'.Qji sA e (h k y (yW _) e)
   rw[qU] at this
   rw[zb,q9,e]
   exact this
theorem Mrg.Qm0(m:Mrg X A B out ia ib)(sB:B.Pairwise X.le):∀(k:Nat),ib+k<=B.length->(∀i y,i<k->B[ib+i]?=some y->∀z∈A.drop ia,X.le y z)->Mrg X A B (out++(B.drop ib).take k) ia (ib+k)
 | 0,_,_=>by rw[yg,j5];exact m
 | k+1,hl,h=>by
   have m':=m.Qm0 sB k (by omega) fun i y hi e=>h i y (by omega) e
   obtain⟨y,e⟩:∃y,B[ib+k]?=some y:=⟨_,qe (by omega)⟩
   have:=m'.Qjh sB e (h k y (yW _) e)
   rw[qU] at this
   rw[zb,q9,e]
   exact this
def Mgd(X:Zu)(A B:List Keyed)(m:List Keyed):Prop:=m.Perm (A++B)/\m.Pairwise X.le
theorem Mrg.Ql5(m:Mrg X A B out ia ib)(sA:A.Pairwise X.le)(sB:B.Pairwise X.le)(h:∀x∈A.drop ia,∀y∈B.drop ib,X.le x y):Mgd X A B (out++A.drop ia++B.drop ib):=by
 refine⟨?_,?_⟩
 .have p1:(out++A.drop ia++B.drop ib).Perm ((A.take ia++B.take ib)++A.drop ia++B.drop ib):=(m.pm.append_right _).append_right _
  refine p1.trans ?_
  have e:A++B=(A.take ia++A.drop ia)++(B.take ib++B.drop ib):=by rw[qQ,qQ]
  rw[e]
  simp only[qU]
  refine jH _ ?_
  rw[<-qU,<-qU]
  exact xK _ jJ
 .refine qZ.mpr ⟨qZ.mpr ⟨m.so,sA.sublist (jV _ _),m.la⟩,sB.sublist (jV _ _),fun x hx y hy=>?_⟩
  rcases qF.mp hx with q | q
  .exact m.lb x q y hy
  .exact h x q y hy
theorem Mrg.fin2(m:Mrg X A B out ia ib)(sA:A.Pairwise X.le)(sB:B.Pairwise X.le)(h:∀y∈B.drop ib,∀x∈A.drop ia,X.le y x):Mgd X A B (out++B.drop ib++A.drop ia):=by
 refine⟨?_,?_⟩
 .have p1:(out++B.drop ib++A.drop ia).Perm ((A.take ia++B.take ib)++B.drop ib++A.drop ia):=(m.pm.append_right _).append_right _
  refine p1.trans ?_
  have e:A++B=(A.take ia++A.drop ia)++(B.take ib++B.drop ib):=by rw[qQ,qQ]
  rw[e]
  simp only[qU]
  refine jH _ ?_
  rw[<-qU]
  exact jJ
 .refine qZ.mpr ⟨qZ.mpr ⟨m.so,sB.sublist (jV _ _),m.lb⟩,sA.sublist (jV _ _),fun x hx y hy=>?_⟩
  rcases qF.mp hx with q | q
  .exact m.la x q y hy
  .exact h x q y hy
end
end L2
namespace L2
open PySem PySem.Spec PyProof.Rows
section
variable {X:Zu}
def Q3(st st':SortSt):Prop:=∃g,st'=Ue st g
theorem Q3.kind{st st':SortSt}(h:Q3 st st'):kindOf st'=kindOf st:=by obtain⟨g,rfl⟩:=h;rfl
theorem Q3.set{st st':SortSt}(h:Q3 st st')(g:Nat):Q3 st (Ue st' g):=by obtain⟨g',rfl⟩:=h;exact⟨g,rfl⟩
theorem Q3.refl(st:SortSt):Q3 st st:=⟨gallopOf st,rfl⟩
theorem Qpn(a:Array Keyed)(i k:Nat):(a.extract i (i+k)).toList=(a.toList.drop i).take k:=by rw[uH,vR,Nat.add_sub_cancel_left]
theorem Kv(a:Array Keyed)(i:Nat):(a.extract i a.size).toList=a.toList.drop i:=by
 rw[uH,vR,zj (by rw[jh,qH];exact qp _)]
abbrev V7:=Option (Array Keyed)×Array Keyed×Nat×Nat×Nat×Nat×Nat
def QnM(a b out:Array Keyed)(ia ib mg ac bc:Nat):StateT SortSt Sem (ForInStep V7):=elem' a ia >>= fun x =>
 if (ia+1+1 == a.size)=true then pure (.done (some (out.push x++b.extract ib b.size++a.extract (ia+1) a.size),out.push x,ia+1,ib,mg,ac,bc))
 else if (decide (ac<7) && decide (bc<7))=true then pure (.done (none,out.push x,ia+1,ib,mg,ac,bc)) else pure (.yield (none,out.push x,ia+1,ib,mg,ac,bc))
def Qpb(a b out:Array Keyed)(ia ib mg ac bc:Nat):StateT SortSt Sem (ForInStep V7):=elem' a ia >>= fun x=>ZC true x b ib (b.size - ib) 0 >>= fun r=>match r with
 | some k=>if k > 0 then (if (ib+k == b.size)=true then pure (.done (some (out++b.extract ib (ib+k)++a.extract ia a.size++b.extract (ib+k) b.size),out++b.extract ib (ib+k),ia,ib+k,mg,ac,k)) else QnM a b (out++b.extract ib (ib+k)) ia (ib+k) mg ac k) else QnM a b out ia ib mg ac k
 | _=>pure (.done (some (out++a.extract ia a.size++b.extract ib b.size),out,ia,ib,mg,ac,bc))
def QnN(a b out:Array Keyed)(ia ib mg ac bc:Nat):StateT SortSt Sem (ForInStep V7):=elem' b ib >>= fun y =>
 if (ib+1 == b.size)=true then pure (.done (some (out.push y++a.extract ia a.size++b.extract (ib+1) b.size),out.push y,ia,ib+1,mg,ac,bc)) else Qpb a b (out.push y) ia (ib+1) mg ac bc
def QnO(a b out:Array Keyed)(ia ib mg ac bc:Nat):StateT SortSt Sem (ForInStep V7):=QP mg >>= fun _=>elem' b ib >>= fun y=>ZC false y a ia (a.size - ia) 0 >>= fun r=>match r with
 | some k=>if k > 0 then (if (ia+k+1 == a.size)=true then pure (.done (some (out++a.extract ia (ia+k)++b.extract ib b.size++a.extract (ia+k) a.size),out++a.extract ia (ia+k),ia+k,ib,mg,k,bc)) else if (ia+k == a.size)=true then pure (.done (some (out++a.extract ia (ia+k)++a.extract (ia+k) a.size++b.extract ib b.size),out++a.extract ia (ia+k),ia+k,ib,mg,k,bc)) else QnN a b (out++a.extract ia (ia+k)) (ia+k) ib mg k bc) else QnN a b out ia ib mg k bc
 | _=>pure (.done (some (out++a.extract ia a.size++b.extract ib b.size),out,ia,ib,mg,ac,bc))
structure Yw(X:Zu)(a b:Array Keyed):Prop where
 a1:1<=a.size
 b1:1<=b.size
 sA:a.toList.Pairwise X.le
 sB:b.toList.Pairwise X.le
 iA:∀x∈a.toList,X.It x
 iB:∀x∈b.toList,X.It x
 h1:∀y,b[0]?=some y->∀x∈a.toList,X.le y x
 h2:∀x,a[a.size - 1]?=some x->∀y∈b.toList,X.le y x
def LoJ(X:Zu)(a b:Array Keyed)(st:SortSt)(base:Nat)(out:Array Keyed)(ia ib:Nat)(st':SortSt):Prop:=Q3 st st'/\Mrg X a.toList b.toList out.toList ia ib/\ia+1<a.size/\ib<b.size/\base<=ia+ib
def LoF(X:Zu)(a b:Array Keyed)(st:SortSt)(r:Option (Array Keyed))(st':SortSt):Prop:=∃m,r=some m/\Q3 st st'/\Mgd X a.toList b.toList m.toList
def LoR(X:Zu)(a b:Array Keyed)(st:SortSt)(base:Nat)(r:ForInStep V7)(st':SortSt):Prop:=match r with
 | .done v=>LoF X a b st v.1 st'\/(v.1=none/\LoJ X a b st base v.2.1 v.2.2.1 v.2.2.2.1 st')
 | .yield v=>v.1=none/\LoJ X a b st base v.2.1 v.2.2.1 v.2.2.2.1 st'
variable {a b out:Array Keyed}{ia ib mg ac bc base:Nat}{st st':SortSt}
theorem Kx(p:Yw X a b)(m:Mrg X a.toList b.toList out.toList ia ib)(e:ia+1=a.size)(g:Q3 st st'):LoF X a b st (some (out++b.extract ib b.size++a.extract ia a.size)) st':=by
 refine⟨_,rfl,g,?_⟩
 rw[jf,jf,Kv,Kv]
 refine m.fin2 p.sA p.sB fun y hy x hx=>?_
 obtain⟨x0,e0⟩:∃x0,a[a.size - 1]?=some x0:=⟨_,z6 (by omega)⟩
 have e1:a.toList[ia]?=some x0:=by rw[qC,show ia=a.size - 1 by omega];exact e0
 rw[ZP e1,jB (by rw[qH];omega)] at hx
 rw[qg.mp hx]
 exact p.h2 x0 e0 y (jb hy)
theorem WF(p:Yw X a b)(m:Mrg X a.toList b.toList out.toList ia ib)(e:ib=b.size\/ia=a.size)(g:Q3 st st'):LoF X a b st (some (out++a.extract ia a.size++b.extract ib b.size)) st':=by
 refine⟨_,rfl,g,?_⟩
 rw[jf,jf,Kv,Kv]
 refine m.Ql5 p.sA p.sB fun x hx y hy=>?_
 rcases e with e | e
 .rw[jB (by rw[qH];omega)] at hy;cases hy
 .rw[jB (by rw[qH];omega)] at hx;cases hx
theorem ZR{a:Array Keyed}{i:Nat}(h:i<a.size):∃x,a[i]?=some x/\a.toList[i]?=some x/\x∈a.toList:=by
 obtain⟨x,e⟩:∃x,a[i]?=some x:=⟨_,z6 h⟩
 exact⟨x,e,by rw[qC];exact e,qG (by rw[qC];exact e)⟩
theorem QbC(p:Yw X a b)(m:Mrg X a.toList b.toList out.toList ia ib)(ha:ia+1<a.size)(hb:ib<b.size)(hbase:base<=ia+ib)(g:Q3 st st')(hx:∀x,a.toList[ia]?=some x->∀z∈b.toList.drop ib,X.le x z):qX X (QnM a b out ia ib mg ac bc) st' (LoR X a b st base):=by
 obtain⟨x,e,e',_⟩:=ZR (show ia<a.size by omega)
 unfold QnM
 refine qX.bind (qX.elem e ?_)
 have m':Mrg X a.toList b.toList (out.push x).toList (ia+1) ib:=by rw[jW];exact m.Qji p.sA e' (hx x e')
 split
 .rename_i q
  exact qX.pure (.inl (Kx p m' (eq_of_beq q) g))
 .rename_i q
  have q:¬ia+1+1=a.size:=fun z=>q (qW.mpr z)
  split
  .exact qX.pure (.inr ⟨rfl,g,m',by dsimp only;omega,hb,by dsimp only;omega⟩)
  .exact qX.pure ⟨rfl,g,m',by dsimp only;omega,hb,by dsimp only;omega⟩
theorem Qg8(p:Yw X a b){y:Keyed}(hy:X.It y)(ia:Nat):KL X false y a ia (a.size - ia) (fun i=>match a[ia+i]? with | some x=>!(X.lv y x) | none=>false):=by
 refine⟨hy,fun i hi=>?_,fun i j hij hj h=>?_⟩
 .obtain⟨x,e,_,hx⟩:=ZR (show ia+i<a.size by omega)
  exact⟨x,e,p.iA x hx,by rw[e];rfl⟩
 .obtain⟨x,e,e',hx⟩:=ZR (show ia+i<a.size by omega)
  obtain⟨z,ez,ez',hz⟩:=ZR (show ia+j<a.size by omega)
  rw[ez] at h
  rw[e]
  have h:(!(X.lv y z))=true:=h
  have h:X.lv y z=false:=by cases q:X.lv y z with | false=>rfl | true=>rw[q] at h;cases h
  have le1:X.le x z:=by
   refine ZA p.sA e' z (qL.mpr ⟨j - i,?_⟩)
   rw[q9,show ia+i+(j - i)=ia+j by omega];exact ez'
  show(!(X.lv y x))=true
  rw[show X.lv y x=false from X.trans (y:=z) le1 h]
  rfl
theorem Qg9(p:Yw X a b){y:Keyed}(hy:X.It y)(ib:Nat):KL X true y b ib (b.size - ib) (fun i=>match b[ib+i]? with | some x=>X.lv x y | none=>false):=by
 refine⟨hy,fun i hi=>?_,fun i j hij hj h=>?_⟩
 .obtain⟨x,e,_,hx⟩:=ZR (show ib+i<b.size by omega)
  exact⟨x,e,p.iB x hx,by rw[e];rfl⟩
 .obtain⟨x,e,e',hx⟩:=ZR (show ib+i<b.size by omega)
  obtain⟨z,ez,ez',hz⟩:=ZR (show ib+j<b.size by omega)
  rw[ez] at h
  rw[e]
  have le1:X.le x z:=by
   refine ZA p.sB e' z (qL.mpr ⟨j - i,?_⟩)
   rw[q9,show ib+i+(j - i)=ib+j by omega];exact ez'
  show X.lv x y=true
  cases q:X.lv x y with
  | true=>rfl
  | false =>
    have:X.le y x:=q
    have:X.lv z y=false:=X.trans this le1
    have h:X.lv z y=true:=h
    rw[this] at h;cases h
theorem Qgr(p:Yw X a b)(hk:kindOf st=X.κ)(m:Mrg X a.toList b.toList out.toList ia ib)(ha:ia+1<a.size)(hb:ib<b.size)(hbase:base<=ia+ib)(g:Q3 st st'):qX X (Qpb a b out ia ib mg ac bc) st' (LoR X a b st base):=by
 obtain⟨x,e,e',hxm⟩:=ZR (show ia<a.size by omega)
 unfold Qpb
 refine qX.bind (qX.elem e ?_)
 refine qX.bind (Jq (Qg9 p (p.iA x hxm) ib) (g.kind.trans hk) (by omega) fun k hk' hlt hge=>?_)
 dsimp only
 have rest:∀x',a.toList[ia]?=some x'->∀z∈b.toList.drop (ib+k),X.le x' z:=fun x' ex z hz=>by
  rw[e'] at ex
  cases ex
  obtain⟨i,ei⟩:=qL.mp hz
  rw[q9,qC] at ei
  have hi:=(Array.getElem?_eq_some_iff.mp ei).1
  have:=hge (k+i) (by omega) (by omega)
  rw[show ib+(k+i)=ib+k+i by omega,ei] at this
  exact this
 have m':Mrg X a.toList b.toList (out++b.extract ib (ib+k)).toList ia (ib+k):=by
  rw[jf,Qpn]
  refine m.Qm0 p.sB k (by rw[qH];omega) fun i y hi ey z hz=>?_
  have:=hlt i hi
  rw[qC] at ey
  rw[ey] at this
  exact X.trans (X.of_lt this) (ZA p.sA e' z hz)
 by_cases h0:k > 0
 .rw[qj h0]
  split
  .rename_i q
   exact qX.pure (.inl (WF p m' (.inl (eq_of_beq q)) g))
  .rename_i q
   have q:¬ib+k=b.size:=fun z=>q (qW.mpr z)
   exact QbC p m' ha (by omega) (by omega) g rest
 .rw[ql h0]
  have:k=0:=by omega
  subst this
  exact QbC p m ha hb hbase g rest
theorem QbD(p:Yw X a b)(hk:kindOf st=X.κ)(m:Mrg X a.toList b.toList out.toList ia ib)(ha:ia+1<a.size)(hb:ib<b.size)(hbase:base<=ia+ib)(g:Q3 st st')(hy:∀y,b.toList[ib]?=some y->∀z∈a.toList.drop ia,X.le y z):qX X (QnN a b out ia ib mg ac bc) st' (LoR X a b st base):=by
 obtain⟨y,e,e',_⟩:=ZR hb
 unfold QnN
 refine qX.bind (qX.elem e ?_)
 have m':Mrg X a.toList b.toList (out.push y).toList ia (ib+1):=by rw[jW];exact m.Qjh p.sB e' (hy y e')
 split
 .rename_i q
  exact qX.pure (.inl (WF p m' (.inl (eq_of_beq q)) g))
 .rename_i q
  have q:¬ib+1=b.size:=fun z=>q (qW.mpr z)
  exact Qgr p hk m' ha (by omega) (by omega) g
theorem QbE(p:Yw X a b)(hk:kindOf st=X.κ)(m:Mrg X a.toList b.toList out.toList ia ib)(ha:ia+1<a.size)(hb:ib<b.size)(hbase:base<=ia+ib)(g:Q3 st st'):qX X (QnO a b out ia ib mg ac bc) st' (LoR X a b st base):=by
 obtain⟨y,e,e',hym⟩:=ZR hb
 unfold QnO QP
 refine qX.bind (qX.modify ?_)
 have g':=g.set mg
 generalize Ue st' mg=st2 at g' ⊢
 refine qX.bind (qX.elem e ?_)
 refine qX.bind (Jq (Qg8 p (p.iB y hym) ia) (g'.kind.trans hk) (by omega) fun k hk' hlt hge=>?_)
 dsimp only
 have rest:∀y',b.toList[ib]?=some y'->∀z∈a.toList.drop (ia+k),X.le y' z:=fun y' ey z hz=>by
  rw[e'] at ey
  cases ey
  obtain⟨i,ei⟩:=qL.mp hz
  rw[q9,qC] at ei
  have hi:=(Array.getElem?_eq_some_iff.mp ei).1
  have:=hge (k+i) (by omega) (by omega)
  rw[show ia+(k+i)=ia+k+i by omega,ei] at this
  have this:(!(X.lv y z))=false:=this
  refine X.of_lt ?_
  cases q:X.lv y z with
  | true=>rfl
  | false=>rw[q] at this;cases this
 have m':Mrg X a.toList b.toList (out++a.extract ia (ia+k)).toList (ia+k) ib:=by
  rw[jf,Qpn]
  refine m.Qm1 p.sA k (by rw[qH];omega) fun i x hi ex z hz=>?_
  have:=hlt i hi
  rw[qC] at ex
  rw[ex] at this
  have this:(!(X.lv y x))=true:=this
  have le1:X.le x y:=by
   show X.lv y x=false
   cases q:X.lv y x with
   | false=>rfl
   | true=>rw[q] at this;cases this
  exact X.trans le1 (ZA p.sB e' z hz)
 by_cases h0:k > 0
 .rw[qj h0]
  split
  .rename_i q
   exact qX.pure (.inl (Kx p m' (eq_of_beq q) g'))
  .rename_i q
   have q:¬ia+k+1=a.size:=fun z=>q (qW.mpr z)
   split
   .rename_i q'
    exact qX.pure (.inl (WF p m' (.inr (eq_of_beq q')) g'))
   .rename_i q'
    have q':¬ia+k=a.size:=fun z=>q' (qW.mpr z)
    exact QbD p hk m' (by omega) hb (by omega) g' rest
 .rw[ql h0]
  have:k=0:=by omega
  subst this
  exact QbD p hk m ha hb hbase g' rest
end
end L2
namespace L2
open PySem PySem.Spec PyProof.Rows
section
variable {X:Zu}{a b:Array Keyed}{st:SortSt}
theorem QaK(p:Yw X a b){Q:Array Keyed->SortSt->Prop}(hk:kindOf st=X.κ)(h:∀m st',Q3 st st'->Mgd X a.toList b.toList m.toList->Q m st'):qX X (Ww a b) st Q:=by
 have fin:∀{r st'},LoF X a b st r st'->∃m,r=some m/\Q m st':=fun⟨m,e,g,d⟩=>⟨m,e,h m _ g d⟩
 rw[Gz]
 refine qX.bind (qX.rule ?_)
 have pa:=p.a1
 have pb:=p.b1
 obtain⟨y0,e0,e0',hy0⟩:=ZR (show 0<b.size by omega)
 refine qX.bind (qX.elem e0 ?_)
 dsimp only
 have m0:Mrg X a.toList b.toList (#[y0]:Array Keyed).toList 0 1:=by
  refine⟨?_,jw _ _,fun x hx z hz=>?_,fun x hx z hz=>?_⟩
  .rw[yg,zb,yg,e0'];exact Qij _
  .rw[qg.mp hx];exact p.h1 y0 e0 z hz
  .rw[qg.mp hx]
   exact ZA p.sB e0' z (by rw[jq];exact jb hz)
 by_cases q1:1=b.size
 .rw[qj (qW.mpr q1)]
  obtain⟨m,e,qm⟩:=fin (WF p m0 (.inl q1) (Q3.refl st))
  cases e
  exact qX.pure qm
 rw[ql (fun z=>q1 (qW.mp z))]
 by_cases q2:0+1=a.size
 .rw[qj (qW.mpr q2)]
  obtain⟨m,e,qm⟩:=fin (Kx p m0 q2 (Q3.refl st))
  cases e
  exact qX.pure qm
 rw[ql (fun z=>q2 (qW.mp z))]
 refine qX.bind (qX.get ?_)
 refine qX.bind (qX.range (fun k v st'=>v.1=none/\LoJ X a b st (k+1) v.2.1 v.2.2.1 v.2.2.2.1 st') ⟨rfl,Q3.refl st,m0,by dsimp only;omega,by dsimp only;omega,by dsimp only;omega⟩ ?_ ?_)
 .rintro k ⟨v0,out,ia,ib,mg⟩ st1 hkn ⟨rfl,g1,m1,ha1,hb1,Qhj⟩
  dsimp only at m1 ha1 hb1 Qhj ⊢
  refine qX.bind (qX.mono (Q:=fun v st'=>LoF X a b st v.1 st'\/(v.1=none/\LoJ X a b st (k+2) v.2.1 v.2.2.1 v.2.2.2.1 st')) (qX.range (fun j v st'=>v.1=none/\LoJ X a b st (k+1+min j 1) v.2.1 v.2.2.1 v.2.2.2.1 st') ⟨rfl,g1,m1,ha1,hb1,by dsimp only;omega⟩ ?_ ?_) ?_)
  .rintro j ⟨v0,out,ia,ib,ac,bc⟩ st2 hjn ⟨rfl,g2,m2,ha2,hb2,wF⟩
   dsimp only at m2 ha2 hb2 wF ⊢
   obtain⟨x,ex,ex',hx⟩:=ZR (show ia<a.size by omega)
   obtain⟨y,ey,ey',hy⟩:=ZR hb2
   refine qX.bind (qX.elem ey (qX.bind (qX.elem ex (qX.bind (qX.lt (p.iB y hy) (p.iA x hx) (g2.kind.trans hk) ?_)))))
   dsimp only
   cases hl:X.lv y x with
   | true =>
     rw[qj rfl]
     refine qX.bind (qX.elem ey ?_)
     have m3:Mrg X a.toList b.toList (out.push y).toList ia (ib+1):=by rw[jW];exact m2.Qjh p.sB ey' fun z hz=>X.trans (X.of_lt hl) (ZA p.sA ex' z hz)
     by_cases q:ib+1=b.size
     .rw[qj (qW.mpr q)]
      exact qX.pure (.inl (WF p m3 (.inl q) g2))
     .rw[ql (fun z=>q (qW.mp z))]
      by_cases q':bc+1>=mg
      .rw[qj q']
       exact qX.pure (.inr ⟨rfl,g2,m3,ha2,by dsimp only;omega,by dsimp only;omega⟩)
      .rw[ql q']
       exact qX.pure ⟨rfl,g2,m3,ha2,by dsimp only;omega,by dsimp only;omega⟩
   | false =>
     rw[ql (by decide)]
     refine qX.bind (qX.elem ex ?_)
     have m3:Mrg X a.toList b.toList (out.push x).toList (ia+1) ib:=by rw[jW];exact m2.Qji p.sA ex' fun z hz=>X.trans (show X.le x y from hl) (ZA p.sB ey' z hz)
     by_cases q:ia+1+1=a.size
     .rw[qj (qW.mpr q)]
      exact qX.pure (.inl (Kx p m3 q g2))
     .rw[ql (fun z=>q (qW.mp z))]
      by_cases q':ac+1>=mg
      .rw[qj q']
       exact qX.pure (.inr ⟨rfl,g2,m3,by dsimp only;omega,hb2,by dsimp only;omega⟩)
      .rw[ql q']
       exact qX.pure ⟨rfl,g2,m3,by dsimp only;omega,hb2,by dsimp only;omega⟩
  .rintro⟨v0,out,ia,ib,ac,bc⟩ st2 ⟨rfl,g2,m2,ha2,hb2,wF⟩
   exact .inr ⟨rfl,g2,m2,ha2,hb2,by dsimp only at wF ⊢;omega⟩
  .rintro⟨v0,out,ia,ib,ac,bc⟩ st2 hv
   dsimp only at hv ⊢
   rcases hv with hv | ⟨rfl,g2,m2,ha2,hb2,wF⟩
   .obtain⟨m,rfl,qm⟩:=fin hv
    exact qX.pure (qX.pure qm)
   .dsimp only
    refine qX.bind (qX.rule ?_)
    refine qX.bind (qX.mono (Q:=fun v st'=>LoF X a b st v.1 st'\/(v.1=none/\LoJ X a b st (k+2) v.2.1 v.2.2.1 v.2.2.2.1 st')) (qX.range (fun j v st'=>v.1=none/\LoJ X a b st (k+2) v.2.1 v.2.2.1 v.2.2.2.1 st') ⟨rfl,g2,m2,ha2,hb2,wF⟩ ?_ ?_) ?_)
    .rintro j ⟨v0,out,ia,ib,mg',ac,bc⟩ st3 hjn ⟨rfl,g3,m3,ha3,hb3,wD⟩
     dsimp only at m3 ha3 hb3 wD ⊢
     by_cases q:mg' > 1
     .rw[qj q]
      exact(show qX X (QnO a b out ia ib (mg' - 1) ac bc) st3 (LoR X a b st (k+2)) from QbE p hk m3 ha3 hb3 wD g3).mono fun r st' hr=>by cases r <;> exact hr
     .rw[ql q]
      exact(show qX X (QnO a b out ia ib mg' ac bc) st3 (LoR X a b st (k+2)) from QbE p hk m3 ha3 hb3 wD g3).mono fun r st' hr=>by cases r <;> exact hr
    .rintro⟨v0,out,ia,ib,mg',ac,bc⟩ st3 hv
     exact .inr hv
    .rintro⟨v0,out,ia,ib,mg',ac,bc⟩ st3 hv
     dsimp only at hv ⊢
     rcases hv with hv | ⟨rfl,g3,m3,ha3,hb3,wD⟩
     .obtain⟨m,rfl,qm⟩:=fin hv
      exact qX.pure (qX.pure qm)
     .dsimp only
      unfold QP
      refine qX.bind (qX.modify (qX.pure ⟨rfl,g3.set _,m3,ha3,hb3,wD⟩))
 .rintro⟨v0,out,ia,ib,mg⟩ st1 ⟨rfl,g1,m1,ha1,hb1,Qhj⟩
  dsimp only at ha1 hb1 Qhj
  omega
end
end L2
namespace L2
open PySem PySem.Spec PyProof.Rows
theorem GB(a b:Array Keyed):Wx a b=(do
 rule "list.sort.merge-hi"
 let total:=a.size+b.size
 let done (out:Array Keyed) (na nb:Nat):=a.extract 0 na++b.extract 0 nb++out.reverse
 let firstOfB (out:Array Keyed) (na nb:Nat):=b.extract 0 nb++a.extract 0 na++out.reverse
 let mut na:=a.size - 1
 let mut nb:=b.size
 let mut out:Array Keyed:=#[<-elem' a na]
 if na == 0 then return done out na nb
 if nb == 1 then return firstOfB out na nb
 let mut minGallop:=gallopOf (<-get)
 for _ in [0:total] do
  let mut acount:=0
  let mut bcount:=0
  for _ in [0:total] do
   let some aWins <-lt' (<-elem' b (nb - 1)) (<-elem' a (na - 1)) | return done out na nb
   if aWins then
    na:=na - 1;out:=out.push (<-elem' a na);acount:=acount+1;bcount:=0
    if na == 0 then return done out na nb
    if acount>=minGallop then break
   else
    nb:=nb - 1;out:=out.push (<-elem' b nb);bcount:=bcount+1;acount:=0
    if nb == 1 then return firstOfB out na nb
    if bcount>=minGallop then break
  rule "list.sort.gallop"
  minGallop:=minGallop+1
  for _ in [0:total] do
   if minGallop > 1 then minGallop:=minGallop - 1
   QP minGallop
   let some at_ <-ZC false (<-elem' b (nb - 1)) a 0 na (na - 1) | return done out na nb
   let k:=na - at_
   acount:=k
   if k > 0 then
    out:=out++(a.extract at_ na).reverse;na:=at_
    if na == 0 then return done out na nb
   nb:=nb - 1;out:=out.push (<-elem' b nb)
   if nb == 1 then return firstOfB out na nb
   let some at_ <-ZC true (<-elem' a (na - 1)) b 0 nb (nb - 1) | return done out na nb
   let k:=nb - at_
   bcount:=k
   if k > 0 then
    out:=out++(b.extract at_ nb).reverse;nb:=at_
    if nb == 1 then return firstOfB out na nb
    if nb == 0 then return done out na nb
   na:=na - 1;out:=out.push (<-elem' a na)
   if na == 0 then return done out na nb
   if acount<7 && bcount<7 then break
  minGallop:=minGallop+1
  QP minGallop
 unsupported "internal:list.sort.merge-bound"):=rfl
section
variable {X:Zu}
structure gZ(X:Zu)(A B out:List Keyed)(na nb:Nat):Prop where
 pm:out.Perm (A.drop na++B.drop nb)
 so:out.Pairwise fun x y=>X.le y x
 la:∀x∈out,∀y∈A.take na,X.le y x
 lb:∀x∈out,∀y∈B.take nb,X.le y x
variable {A B out:List Keyed}{na nb:Nat}{y:Keyed}
theorem JB{L:List Keyed}(s:L.Pairwise X.le){i:Nat}{x:Keyed}(e:L[i]?=some x):∀z∈L.take (i+1),X.le z x:=fun z hz=>by
 rw[zb,e] at hz
 have:=s.sublist (jl (i+1) L)
 rw[zb,e] at this
 rcases qF.mp hz with q | q
 .exact(qZ.mp this).2.2 z q x (qg.mpr rfl)
 .rw[qg.mp q];exact X.refl _
theorem YO{L:List Keyed}{i:Nat}{x:Keyed}(e:L[i]?=some x):L.take (i+1)=L.take i++[x]:=by rw[zb,e];rfl
theorem gZ.Qji(m:gZ X A B out (na+1) nb)(sA:A.Pairwise X.le)(e:A[na]?=some y)(h:∀z∈B.take nb,X.le z y):gZ X A B (out++[y]) na nb:=by
 have et:=YO e
 refine⟨?_,?_,fun x hx z hz=>?_,fun x hx z hz=>?_⟩
 .rw[ZP e]
  refine(jJ).trans ?_
  exact m.pm.cons y
 .refine qZ.mpr ⟨m.so,jw _ _,fun x hx z hz=>?_⟩
  rw[qg.mp hz]
  exact m.la x hx y (by rw[et];exact qO _ (qg.mpr rfl))
 .rcases qF.mp hx with q | q
  .exact m.la x q z (by rw[et];exact zA _ hz)
  .rw[qg.mp q];exact JB sA e z (by rw[et];exact zA _ hz)
 .rcases qF.mp hx with q | q
  .exact m.lb x q z hz
  .rw[qg.mp q];exact h z hz
theorem gZ.Qjh(m:gZ X A B out na (nb+1))(sB:B.Pairwise X.le)(e:B[nb]?=some y)(h:∀z∈A.take na,X.le z y):gZ X A B (out++[y]) na nb:=by
 have et:=YO e
 refine⟨?_,?_,fun x hx z hz=>?_,fun x hx z hz=>?_⟩
 .rw[ZP e]
  refine(jJ).trans ?_
  exact(m.pm.cons y).trans List.perm_middle.symm
 .refine qZ.mpr ⟨m.so,jw _ _,fun x hx z hz=>?_⟩
  rw[qg.mp hz]
  exact m.lb x hx y (by rw[et];exact qO _ (qg.mpr rfl))
 .rcases qF.mp hx with q | q
  .exact m.la x q z hz
  .rw[qg.mp q];exact h z hz
 .rcases qF.mp hx with q | q
  .exact m.lb x q z (by rw[et];exact zA _ hz)
  .rw[qg.mp q];exact JB sB e z (by rw[et];exact zA _ hz)
theorem gZ.Qm1(sA:A.Pairwise X.le):∀(k na:Nat)(out:List Keyed),gZ X A B out (na+k) nb->na+k<=A.length->(∀i y,na<=i->i<na+k->A[i]?=some y->∀z∈B.take nb,X.le z y)->gZ X A B (out++((A.drop na).take k).reverse) na nb
 | 0,na,out,m,_,_=>by rw[yg,List.reverse_nil,j5];exact m
 | k+1,na,out,m,hl,h=>by
   have m':gZ X A B out ((na+1)+k) nb:=by rw[show na+1+k=na+(k+1) by omega];exact m
   have m2:=gZ.Qm1 sA k (na+1) out m' (by omega) fun i y h1 h2 e=>h i y (by omega) (by omega) e
   obtain⟨y,e⟩:∃y,A[na]?=some y:=⟨_,qe (by omega)⟩
   have m3:=m2.Qji sA e (h na y (qp _) (by omega) e)
   rw[ZP e,List.take_succ_cons,List.reverse_cons,<-qU]
   exact m3
theorem gZ.Qm0(sB:B.Pairwise X.le):∀(k nb:Nat)(out:List Keyed),gZ X A B out na (nb+k)->nb+k<=B.length->(∀i y,nb<=i->i<nb+k->B[i]?=some y->∀z∈A.take na,X.le z y)->gZ X A B (out++((B.drop nb).take k).reverse) na nb
 | 0,nb,out,m,_,_=>by rw[yg,List.reverse_nil,j5];exact m
 | k+1,nb,out,m,hl,h=>by
   have m':gZ X A B out na ((nb+1)+k):=by rw[show nb+1+k=nb+(k+1) by omega];exact m
   have m2:=gZ.Qm0 sB k (nb+1) out m' (by omega) fun i y h1 h2 e=>h i y (by omega) (by omega) e
   obtain⟨y,e⟩:∃y,B[nb]?=some y:=⟨_,qe (by omega)⟩
   have m3:=m2.Qjh sB e (h nb y (qp _) (by omega) e)
   rw[ZP e,List.take_succ_cons,List.reverse_cons,<-qU]
   exact m3
theorem gZ.Ql5(m:gZ X A B out na nb)(sA:A.Pairwise X.le)(sB:B.Pairwise X.le)(h:∀x∈A.take na,∀y∈B.take nb,X.le x y):Mgd X A B (A.take na++B.take nb++out.reverse):=by
 refine⟨?_,?_⟩
 .refine(jH _ ((List.reverse_perm out).trans m.pm)).trans ?_
  have e:A++B=(A.take na++A.drop na)++(B.take nb++B.drop nb):=by rw[qQ,qQ]
  rw[e]
  simp only[qU]
  refine jH _ ?_
  rw[<-qU,<-qU]
  exact xK _ jJ
 .refine qZ.mpr ⟨qZ.mpr ⟨sA.sublist (jl _ _),sB.sublist (jl _ _),h⟩,List.pairwise_reverse.mpr m.so,fun x hx y hy=>?_⟩
  rcases qF.mp hx with q | q
  .exact m.la y (Qjd.mp hy) x q
  .exact m.lb y (Qjd.mp hy) x q
theorem gZ.fin2(m:gZ X A B out na nb)(sA:A.Pairwise X.le)(sB:B.Pairwise X.le)(h:∀y∈B.take nb,∀x∈A.take na,X.le y x):Mgd X A B (B.take nb++A.take na++out.reverse):=by
 refine⟨?_,?_⟩
 .refine(jH _ ((List.reverse_perm out).trans m.pm)).trans ?_
  have e:A++B=(A.take na++A.drop na)++(B.take nb++B.drop nb):=by rw[qQ,qQ]
  rw[e]
  refine(xK _ jJ).trans ?_
  simp only[qU]
  refine jH _ ?_
  rw[<-qU,<-qU]
  exact xK _ jJ
 .refine qZ.mpr ⟨qZ.mpr ⟨sB.sublist (jl _ _),sA.sublist (jl _ _),h⟩,List.pairwise_reverse.mpr m.so,fun x hx y hy=>?_⟩
  rcases qF.mp hx with q | q
  .exact m.lb y (Qjd.mp hy) x q
  .exact m.la y (Qjd.mp hy) x q
end
end L2
namespace L2
open PySem PySem.Spec PyProof.Rows
section
variable {X:Zu}
theorem QnX(a:Array Keyed)(n:Nat):(a.extract 0 n).toList=a.toList.take n:=by rw[uH,vR,jq,Nat.sub_zero]
theorem Qpm(a:Array Keyed)(i j:Nat):(a.extract i j).toList=(a.toList.drop i).take (j - i):=by rw[uH,vR]
abbrev W7:=Option (Array Keyed)×Nat×Nat×Array Keyed×Nat×Nat×Nat
def QnS(a b out:Array Keyed)(na nb mg ac bc:Nat):StateT SortSt Sem (ForInStep W7):=elem' a (na - 1) >>= fun x =>
 if (na - 1 == 0)=true then pure (.done (some (a.extract 0 (na - 1)++b.extract 0 nb++(out.push x).reverse),na - 1,nb,out.push x,mg,ac,bc))
 else if (decide (ac<7) && decide (bc<7))=true then pure (.done (none,na - 1,nb,out.push x,mg,ac,bc)) else pure (.yield (none,na - 1,nb,out.push x,mg,ac,bc))
def Qph(a b out:Array Keyed)(na nb mg ac bc:Nat):StateT SortSt Sem (ForInStep W7):=elem' a (na - 1) >>= fun x=>ZC true x b 0 nb (nb - 1) >>= fun r=>match r with
 | some t=>if nb - t > 0 then (if (t == 1)=true then pure (.done (some (b.extract 0 t++a.extract 0 na++(out++(b.extract t nb).reverse).reverse),na,t,out++(b.extract t nb).reverse,mg,ac,nb - t)) else if (t == 0)=true then pure (.done (some (a.extract 0 na++b.extract 0 t++(out++(b.extract t nb).reverse).reverse),na,t,out++(b.extract t nb).reverse,mg,ac,nb - t)) else QnS a b (out++(b.extract t nb).reverse) na t mg ac (nb - t)) else QnS a b out na nb mg ac (nb - t)
 | _=>pure (.done (some (a.extract 0 na++b.extract 0 nb++out.reverse),na,nb,out,mg,ac,bc))
def QnT(a b out:Array Keyed)(na nb mg ac bc:Nat):StateT SortSt Sem (ForInStep W7):=elem' b (nb - 1) >>= fun y =>
 if (nb - 1 == 1)=true then pure (.done (some (b.extract 0 (nb - 1)++a.extract 0 na++(out.push y).reverse),na,nb - 1,out.push y,mg,ac,bc)) else Qph a b (out.push y) na (nb - 1) mg ac bc
def QnU(a b out:Array Keyed)(na nb mg ac bc:Nat):StateT SortSt Sem (ForInStep W7):=QP mg >>= fun _=>elem' b (nb - 1) >>= fun y=>ZC false y a 0 na (na - 1) >>= fun r=>match r with
 | some t=>if na - t > 0 then (if (t == 0)=true then pure (.done (some (a.extract 0 t++b.extract 0 nb++(out++(a.extract t na).reverse).reverse),t,nb,out++(a.extract t na).reverse,mg,na - t,bc)) else QnT a b (out++(a.extract t na).reverse) t nb mg (na - t) bc) else QnT a b out na nb mg (na - t) bc
 | _=>pure (.done (some (a.extract 0 na++b.extract 0 nb++out.reverse),na,nb,out,mg,ac,bc))
def HiJ(X:Zu)(a b:Array Keyed)(st:SortSt)(base:Nat)(out:Array Keyed)(na nb:Nat)(st':SortSt):Prop:=Q3 st st'/\gZ X a.toList b.toList out.toList na nb/\(1<=na/\na<=a.size)/\(2<=nb/\nb<=b.size)/\base<=(a.size - na)+(b.size - nb)
def HiR(X:Zu)(a b:Array Keyed)(st:SortSt)(base:Nat)(r:ForInStep W7)(st':SortSt):Prop:=match r with
 | .done v=>LoF X a b st v.1 st'\/(v.1=none/\HiJ X a b st base v.2.2.2.1 v.2.1 v.2.2.1 st')
 | .yield v=>v.1=none/\HiJ X a b st base v.2.2.2.1 v.2.1 v.2.2.1 st'
variable {a b out:Array Keyed}{na nb mg ac bc base:Nat}{st st':SortSt}
theorem WG(p:Yw X a b)(m:gZ X a.toList b.toList out.toList na nb)(e:na=0\/nb=0)(g:Q3 st st'):LoF X a b st (some (a.extract 0 na++b.extract 0 nb++out.reverse)) st':=by
 refine⟨_,rfl,g,?_⟩
 rw[jf,jf,QnX,QnX,uI]
 refine m.Ql5 p.sA p.sB fun x hx y hy=>?_
 rcases e with e | e
 .rw[e,yg] at hx;cases hx
 .rw[e,yg] at hy;cases hy
theorem Ky(p:Yw X a b)(m:gZ X a.toList b.toList out.toList na nb)(e:nb=1)(g:Q3 st st'):LoF X a b st (some (b.extract 0 nb++a.extract 0 na++out.reverse)) st':=by
 refine⟨_,rfl,g,?_⟩
 rw[jf,jf,QnX,QnX,uI]
 refine m.fin2 p.sA p.sB fun y hy x hx=>?_
 have pb:=p.b1
 obtain⟨y0,e0,e0',_⟩:=ZR (show 0<b.size by omega)
 rw[e,YO e0',yg] at hy
 rw[qg.mp hy]
 exact p.h1 y0 e0 x (zR hx)
theorem Qic(p:Yw X a b){y:Keyed}(hy:X.It y){n:Nat}(hn:n<=a.size):KL X false y a 0 n (fun i=>match a[0+i]? with | some x=>!(X.lv y x) | none=>false):=by
 have g:=Qg8 p hy 0
 exact⟨hy,fun i hi=>g.at_ i (by omega),fun i j hij hj h=>g.mono i j hij (by omega) h⟩
theorem Qid(p:Yw X a b){y:Keyed}(hy:X.It y){n:Nat}(hn:n<=b.size):KL X true y b 0 n (fun i=>match b[0+i]? with | some x=>X.lv x y | none=>false):=by
 have g:=Qg9 p hy 0
 exact⟨hy,fun i hi=>g.at_ i (by omega),fun i j hij hj h=>g.mono i j hij (by omega) h⟩
theorem QbQ(p:Yw X a b)(m:gZ X a.toList b.toList out.toList na nb)(ha:1<=na/\na<=a.size)(hb:2<=nb/\nb<=b.size)(hbase:base<=(a.size - na)+(b.size - nb))(g:Q3 st st')(hx:∀x,a.toList[na - 1]?=some x->∀z∈b.toList.take nb,X.le z x):qX X (QnS a b out na nb mg ac bc) st' (HiR X a b st base):=by
 obtain⟨x,e,e',_⟩:=ZR (show na - 1<a.size by omega)
 unfold QnS
 refine qX.bind (qX.elem e ?_)
 have m':gZ X a.toList b.toList (out.push x).toList (na - 1) nb:=by
  rw[jW]
  exact gZ.Qji (na:=na - 1) (by rw[show na - 1+1=na by omega];exact m) p.sA e' (hx x e')
 by_cases q:na - 1=0
 .rw[qj (qW.mpr q)]
  exact qX.pure (.inl (WG p m' (.inl q) g))
 .rw[ql (fun z=>q (qW.mp z))]
  split
  .exact qX.pure (.inr ⟨rfl,g,m',by dsimp only;omega,hb,by dsimp only;omega⟩)
  .exact qX.pure ⟨rfl,g,m',by dsimp only;omega,hb,by dsimp only;omega⟩
theorem QgC(p:Yw X a b)(hk:kindOf st=X.κ)(m:gZ X a.toList b.toList out.toList na nb)(ha:1<=na/\na<=a.size)(hb:2<=nb/\nb<=b.size)(hbase:base<=(a.size - na)+(b.size - nb))(g:Q3 st st'):qX X (Qph a b out na nb mg ac bc) st' (HiR X a b st base):=by
 obtain⟨x,e,e',hxm⟩:=ZR (show na - 1<a.size by omega)
 unfold Qph
 refine qX.bind (qX.elem e ?_)
 refine qX.bind (Jq (Qid p (p.iA x hxm) hb.2) (g.kind.trans hk) (by omega) fun t ht hlt hge=>?_)
 dsimp only
 have rest:∀x',a.toList[na - 1]?=some x'->∀z∈b.toList.take t,X.le z x':=fun x' ex z hz=>by
  rw[e'] at ex
  cases ex
  obtain⟨i,ei⟩:=qL.mp hz
  have hi:i<t:=by have:=(qi.mp ei).1;rw[qK] at this;omega
  rw[za,qj hi,qC] at ei
  have:=hlt i hi
  rw[gH,ei] at this
  exact X.of_lt this
 have m':gZ X a.toList b.toList (out++(b.extract t nb).reverse).toList na t:=by
  rw[jf,uI,Qpm]
  refine gZ.Qm0 p.sB (nb - t) t out.toList (by rw[show t+(nb - t)=nb by omega];exact m) (by rw[qH];omega) fun i y h1 h2 ey z hz=>?_
  rw[qC] at ey
  have:=hge i h1 (by omega)
  rw[gH,ey] at this
  have this:X.le x y:=this
  exact X.trans (JB p.sA e' z (by rw[show na - 1+1=na by omega];exact hz)) this
 by_cases h0:nb - t > 0
 .rw[qj h0]
  by_cases q:t=1
  .rw[qj (qW.mpr q)]
   exact qX.pure (.inl (Ky p m' q g))
  .rw[ql (fun z=>q (qW.mp z))]
   by_cases q':t=0
   .rw[qj (qW.mpr q')]
    exact qX.pure (.inl (WG p m' (.inr q') g))
   .rw[ql (fun z=>q' (qW.mp z))]
    exact QbQ p m' ha (by omega) (by omega) g rest
 .rw[ql h0]
  have:t=nb:=by omega
  subst this
  exact QbQ p m ha hb hbase g rest
theorem QbR(p:Yw X a b)(hk:kindOf st=X.κ)(m:gZ X a.toList b.toList out.toList na nb)(ha:1<=na/\na<=a.size)(hb:2<=nb/\nb<=b.size)(hbase:base<=(a.size - na)+(b.size - nb))(g:Q3 st st')(hy:∀y,b.toList[nb - 1]?=some y->∀z∈a.toList.take na,X.le z y):qX X (QnT a b out na nb mg ac bc) st' (HiR X a b st base):=by
 obtain⟨y,e,e',_⟩:=ZR (show nb - 1<b.size by omega)
 unfold QnT
 refine qX.bind (qX.elem e ?_)
 have m':gZ X a.toList b.toList (out.push y).toList na (nb - 1):=by
  rw[jW]
  exact gZ.Qjh (nb:=nb - 1) (by rw[show nb - 1+1=nb by omega];exact m) p.sB e' (hy y e')
 by_cases q:nb - 1=1
 .rw[qj (qW.mpr q)]
  exact qX.pure (.inl (Ky p m' q g))
 .rw[ql (fun z=>q (qW.mp z))]
  exact QgC p hk m' ha (by omega) (by omega) g
theorem QbS(p:Yw X a b)(hk:kindOf st=X.κ)(m:gZ X a.toList b.toList out.toList na nb)(ha:1<=na/\na<=a.size)(hb:2<=nb/\nb<=b.size)(hbase:base<=(a.size - na)+(b.size - nb))(g:Q3 st st'):qX X (QnU a b out na nb mg ac bc) st' (HiR X a b st base):=by
 obtain⟨y,e,e',hym⟩:=ZR (show nb - 1<b.size by omega)
 unfold QnU QP
 refine qX.bind (qX.modify ?_)
 have g':=g.set mg
 generalize Ue st' mg=st2 at g' ⊢
 refine qX.bind (qX.elem e ?_)
 refine qX.bind (Jq (Qic p (p.iB y hym) ha.2) (g'.kind.trans hk) (by omega) fun t ht hlt hge=>?_)
 dsimp only
 have rest:∀y',b.toList[nb - 1]?=some y'->∀z∈a.toList.take t,X.le z y':=fun y' ey z hz=>by
  rw[e'] at ey
  cases ey
  obtain⟨i,ei⟩:=qL.mp hz
  have hi:i<t:=by have:=(qi.mp ei).1;rw[qK] at this;omega
  rw[za,qj hi,qC] at ei
  have:=hlt i hi
  rw[gH,ei] at this
  have this:(!(X.lv y z))=true:=this
  show X.lv y z=false
  cases q:X.lv y z with
  | false=>rfl
  | true=>rw[q] at this;cases this
 have m':gZ X a.toList b.toList (out++(a.extract t na).reverse).toList t nb:=by
  rw[jf,uI,Qpm]
  refine gZ.Qm1 p.sA (na - t) t out.toList (by rw[show t+(na - t)=na by omega];exact m) (by rw[qH];omega) fun i x h1 h2 ex z hz=>?_
  rw[qC] at ex
  have:=hge i h1 (by omega)
  rw[gH,ex] at this
  have this:(!(X.lv y x))=false:=this
  have lt1:X.lv y x=true:=by
   cases q:X.lv y x with
   | true=>rfl
   | false=>rw[q] at this;cases this
  exact X.trans (JB p.sB e' z (by rw[show nb - 1+1=nb by omega];exact hz)) (X.of_lt lt1)
 by_cases h0:na - t > 0
 .rw[qj h0]
  by_cases q:t=0
  .rw[qj (qW.mpr q)]
   exact qX.pure (.inl (WG p m' (.inl q) g'))
  .rw[ql (fun z=>q (qW.mp z))]
   exact QbR p hk m' (by omega) hb (by omega) g' rest
 .rw[ql h0]
  have:t=na:=by omega
  subst this
  exact QbR p hk m ha hb hbase g' rest
theorem QaL(p:Yw X a b){Q:Array Keyed->SortSt->Prop}(hk:kindOf st=X.κ)(h:∀m st',Q3 st st'->Mgd X a.toList b.toList m.toList->Q m st'):qX X (Wx a b) st Q:=by
 have fin:∀{r st'},LoF X a b st r st'->∃m,r=some m/\Q m st':=fun⟨m,e,g,d⟩=>⟨m,e,h m _ g d⟩
 rw[GB]
 refine qX.bind (qX.rule ?_)
 have pa:=p.a1
 have pb:=p.b1
 obtain⟨x0,e0,e0',hx0⟩:=ZR (show a.size - 1<a.size by omega)
 dsimp only
 refine qX.bind (qX.elem e0 ?_)
 have m0:gZ X a.toList b.toList (#[x0]:Array Keyed).toList (a.size - 1) b.size:=by
  refine⟨?_,jw _ _,fun x hx z hz=>?_,fun x hx z hz=>?_⟩
  .rw[ZP e0',jB (by rw[qH];omega),jB (by rw[qH];omega)];exact Qij _
  .rw[qg.mp hx];exact JB p.sA e0' z (by rw[YO e0'];exact zA _ hz)
  .rw[qg.mp hx];exact p.h2 x0 e0 z (zR hz)
 by_cases q1:a.size - 1=0
 .rw[qj (qW.mpr q1)]
  obtain⟨m,e,qm⟩:=fin (WG p m0 (.inl q1) (Q3.refl st))
  cases e
  exact qX.pure qm
 rw[ql (fun z=>q1 (qW.mp z))]
 by_cases q2:b.size=1
 .rw[qj (qW.mpr q2)]
  obtain⟨m,e,qm⟩:=fin (Ky p m0 q2 (Q3.refl st))
  cases e
  exact qX.pure qm
 rw[ql (fun z=>q2 (qW.mp z))]
 refine qX.bind (qX.get ?_)
 refine qX.bind (qX.range (fun k v st'=>v.1=none/\HiJ X a b st (k+1) v.2.2.2.1 v.2.1 v.2.2.1 st') ⟨rfl,Q3.refl st,m0,by dsimp only;omega,by dsimp only;omega,by dsimp only;omega⟩ ?_ ?_)
 .rintro k ⟨v0,na,nb,out,mg⟩ st1 hkn ⟨rfl,g1,m1,ha1,hb1,Qhj⟩
  dsimp only at m1 ha1 hb1 Qhj ⊢
  refine qX.bind (qX.mono (Q:=fun v st'=>LoF X a b st v.1 st'\/(v.1=none/\HiJ X a b st (k+2) v.2.2.2.1 v.2.1 v.2.2.1 st')) (qX.range (fun j v st'=>v.1=none/\HiJ X a b st (k+1+min j 1) v.2.2.2.1 v.2.1 v.2.2.1 st') ⟨rfl,g1,m1,ha1,hb1,by dsimp only;omega⟩ ?_ ?_) ?_)
  .rintro j ⟨v0,na,nb,out,ac,bc⟩ st2 hjn ⟨rfl,g2,m2,ha2,hb2,wF⟩
   dsimp only at m2 ha2 hb2 wF ⊢
   obtain⟨x,ex,ex',hx⟩:=ZR (show na - 1<a.size by omega)
   obtain⟨y,ey,ey',hy⟩:=ZR (show nb - 1<b.size by omega)
   refine qX.bind (qX.elem ey (qX.bind (qX.elem ex (qX.bind (qX.lt (p.iB y hy) (p.iA x hx) (g2.kind.trans hk) ?_)))))
   dsimp only
   cases hl:X.lv y x with
   | true =>
     rw[qj rfl]
     refine qX.bind (qX.elem ex ?_)
     have m3:gZ X a.toList b.toList (out.push x).toList (na - 1) nb:=by
      rw[jW]
      exact gZ.Qji (na:=na - 1) (by rw[show na - 1+1=na by omega];exact m2) p.sA ex' fun z hz=>X.trans (JB p.sB ey' z (by rw[show nb - 1+1=nb by omega];exact hz)) (X.of_lt hl)
     by_cases q:na - 1=0
     .rw[qj (qW.mpr q)]
      exact qX.pure (.inl (WG p m3 (.inl q) g2))
     .rw[ql (fun z=>q (qW.mp z))]
      by_cases q':ac+1>=mg
      .rw[qj q']
       exact qX.pure (.inr ⟨rfl,g2,m3,by dsimp only;omega,hb2,by dsimp only;omega⟩)
      .rw[ql q']
       exact qX.pure ⟨rfl,g2,m3,by dsimp only;omega,hb2,by dsimp only;omega⟩
   | false =>
     rw[ql (by decide)]
     refine qX.bind (qX.elem ey ?_)
     have m3:gZ X a.toList b.toList (out.push y).toList na (nb - 1):=by
      rw[jW]
      exact gZ.Qjh (nb:=nb - 1) (by rw[show nb - 1+1=nb by omega];exact m2) p.sB ey' fun z hz=>X.trans (JB p.sA ex' z (by rw[show na - 1+1=na by omega];exact hz)) (show X.le x y from hl)
     by_cases q:nb - 1=1
     .rw[qj (qW.mpr q)]
      exact qX.pure (.inl (Ky p m3 q g2))
     .rw[ql (fun z=>q (qW.mp z))]
      by_cases q':bc+1>=mg
      .rw[qj q']
       exact qX.pure (.inr ⟨rfl,g2,m3,ha2,by dsimp only;omega,by dsimp only;omega⟩)
      .rw[ql q']
       exact qX.pure ⟨rfl,g2,m3,ha2,by dsimp only;omega,by dsimp only;omega⟩
  .rintro⟨v0,na,nb,out,ac,bc⟩ st2 ⟨rfl,g2,m2,ha2,hb2,wF⟩
   exact .inr ⟨rfl,g2,m2,ha2,hb2,by dsimp only at wF ⊢;omega⟩
  .rintro⟨v0,na,nb,out,ac,bc⟩ st2 hv
   dsimp only at hv ⊢
   rcases hv with hv | ⟨rfl,g2,m2,ha2,hb2,wF⟩
   .obtain⟨m,rfl,qm⟩:=fin hv
    exact qX.pure (qX.pure qm)
   .dsimp only
    refine qX.bind (qX.rule ?_)
    refine qX.bind (qX.mono (Q:=fun v st'=>LoF X a b st v.1 st'\/(v.1=none/\HiJ X a b st (k+2) v.2.2.2.1 v.2.1 v.2.2.1 st')) (qX.range (fun j v st'=>v.1=none/\HiJ X a b st (k+2) v.2.2.2.1 v.2.1 v.2.2.1 st') ⟨rfl,g2,m2,ha2,hb2,wF⟩ ?_ ?_) ?_)
    .rintro j ⟨v0,na,nb,out,mg',ac,bc⟩ st3 hjn ⟨rfl,g3,m3,ha3,hb3,wD⟩
     dsimp only at m3 ha3 hb3 wD ⊢
     by_cases q:mg' > 1
     .rw[qj q]
      exact(show qX X (QnU a b out na nb (mg' - 1) ac bc) st3 (HiR X a b st (k+2)) from QbS p hk m3 ha3 hb3 wD g3).mono fun r st' hr=>by cases r <;> exact hr
     .rw[ql q]
      exact(show qX X (QnU a b out na nb mg' ac bc) st3 (HiR X a b st (k+2)) from QbS p hk m3 ha3 hb3 wD g3).mono fun r st' hr=>by cases r <;> exact hr
    .rintro⟨v0,na,nb,out,mg',ac,bc⟩ st3 hv
     exact .inr hv
    .rintro⟨v0,na,nb,out,mg',ac,bc⟩ st3 hv
     dsimp only at hv ⊢
     rcases hv with hv | ⟨rfl,g3,m3,ha3,hb3,wD⟩
     .obtain⟨m,rfl,qm⟩:=fin hv
      exact qX.pure (qX.pure qm)
     .dsimp only
      unfold QP
      refine qX.bind (qX.modify (qX.pure ⟨rfl,g3.set _,m3,ha3,hb3,wD⟩))
 .rintro⟨v0,na,nb,out,mg⟩ st1 ⟨rfl,g1,m1,ha1,hb1,Qhj⟩
  dsimp only at ha1 hb1 Qhj
  omega
end
end L2
namespace L2
open PySem PySem.Spec PyProof.Rows
theorem GC(i:Nat):mergeAt' i=(do
 let s <-get
 let (some (sa,na,power),some (sb,nb,_)):=((pendingOf s)[i]?,(pendingOf s)[i+1]?) | unsupported "internal:list.sort.pending"
 set (setPending s (((pendingOf s).setIfInBounds i (sa,na+nb,power)).eraseIdxIfInBounds (i+1)))
 let some k <-ZC false (<-elem' (arrOf s) sb) (arrOf s) sa na 0 | return false
 let (sa,na):=(sa+k,na - k)
 if na == 0 then return true
 let some nb <-ZC true (<-elem' (arrOf s) (sa+na - 1)) (arrOf s) sb nb (nb - 1) | return false
 if nb == 0 then return true
 let x:=(arrOf s).extract sa sb
 let y:=(arrOf s).extract sb (sb+nb)
 let merged <-if na<=nb then Ww x y else Wx x y
 modify fun s=>setArr s (merged.toList.zipIdx.foldl (fun a (p,j)=>a.setIfInBounds (sa+j) p) (arrOf s))
 return (failedOf (<-get)).isNone):=rfl
section
variable {X:Zu}
theorem VP(s:Nat):∀(ms:List Keyed)(n:Nat)(arr:Array Keyed),s+n+ms.length<=arr.size->((ms.zipIdx n).foldl (fun a (q:Keyed×Nat)=>a.setIfInBounds (s+q.2) q.1) arr).toList=arr.toList.take (s+n)++ms++arr.toList.drop (s+n+ms.length)
 | [],n,arr,_=>by
   rw[List.zipIdx_nil,List.foldl_nil,j5,List.length_nil,Nat.add_zero,qQ]
 | m :: ms,n,arr,h=>by
   rw[zm] at h ⊢
   rw[List.zipIdx_cons,List.foldl_cons,VP s ms (n+1) _ (by rw[Array.size_setIfInBounds];omega),Array.toList_setIfInBounds]
   have hl:s+n<arr.toList.length:=by rw[qH];omega
   have e1:(arr.toList.set (s+n) m).take (s+(n+1))=arr.toList.take (s+n)++[m]:=by
    rw[show s+(n+1)=(s+n)+1 by omega,zb,QjG hl,List.take_set_of_le (qp _)]
    rfl
   have e2:(arr.toList.set (s+n) m).drop (s+(n+1)+ms.length)=arr.toList.drop (s+n+(ms.length+1)):=by
    rw[List.drop_set_of_lt (by omega),show s+(n+1)+ms.length=s+n+(ms.length+1) by omega]
   rw[e1,e2]
   simp only[qU,List.singleton_append]
abbrev seg(L:List Keyed)(s n:Nat):List Keyed:=(L.drop s).take n
theorem Yd{L:List Keyed}{s n i:Nat}(h:i<n):(seg L s n)[i]?=L[s+i]?:=by rw[za,qj h,q9]
theorem VD{L:List Keyed}{s n:Nat}(h:s+n<=L.length):(seg L s n).length=n:=by rw[qK,jh];omega
theorem galR{arr:Array Keyed}{s n:Nat}{y:Keyed}(hy:X.It y)(so:(seg arr.toList s n).Pairwise X.le)(hz:s+n<=arr.size)(it:∀x∈arr.toList,X.It x):KL X false y arr s n (fun i=>match arr[s+i]? with | some x=>!(X.lv y x) | none=>false):=by
 refine⟨hy,fun i hi=>?_,fun i j hij hj h=>?_⟩
 .obtain⟨x,e,_,hx⟩:=ZR (show s+i<arr.size by omega)
  exact⟨x,e,it x hx,by rw[e];rfl⟩
 .obtain⟨x,e,e',hx⟩:=ZR (show s+i<arr.size by omega)
  obtain⟨z,ez,ez',hz'⟩:=ZR (show s+j<arr.size by omega)
  rw[ez] at h
  rw[e]
  have h:(!(X.lv y z))=true:=h
  have h:X.lv y z=false:=by cases q:X.lv y z with | false=>rfl | true=>rw[q] at h;cases h
  have le1:X.le x z:=by
   refine ZA so (i:=i) (by rw[Yd (by omega)];exact e') z (qL.mpr ⟨j - i,?_⟩)
   rw[q9,show i+(j - i)=j by omega,Yd hj];exact ez'
  show(!(X.lv y x))=true
  rw[show X.lv y x=false from X.trans (y:=z) le1 h]
  rfl
theorem galL{arr:Array Keyed}{s n:Nat}{y:Keyed}(hy:X.It y)(so:(seg arr.toList s n).Pairwise X.le)(hz:s+n<=arr.size)(it:∀x∈arr.toList,X.It x):KL X true y arr s n (fun i=>match arr[s+i]? with | some x=>X.lv x y | none=>false):=by
 refine⟨hy,fun i hi=>?_,fun i j hij hj h=>?_⟩
 .obtain⟨x,e,_,hx⟩:=ZR (show s+i<arr.size by omega)
  exact⟨x,e,it x hx,by rw[e];rfl⟩
 .obtain⟨x,e,e',hx⟩:=ZR (show s+i<arr.size by omega)
  obtain⟨z,ez,ez',hz'⟩:=ZR (show s+j<arr.size by omega)
  rw[ez] at h
  rw[e]
  have le1:X.le x z:=by
   refine ZA so (i:=i) (by rw[Yd (by omega)];exact e') z (qL.mpr ⟨j - i,?_⟩)
   rw[q9,show i+(j - i)=j by omega,Yd hj];exact ez'
  show X.lv x y=true
  cases q:X.lv x y with
  | true=>rfl
  | false =>
    have this:X.lv z y=false:=X.trans (show X.le y x from q) le1
    have h:X.lv z y=true:=h
    rw[this] at h;cases h
theorem QaM{st:SortSt}{i sa na pw sb nb pw2:Nat}{Q:Bool->SortSt->Prop}(hk:kindOf st=X.κ)(hf:failedOf st=none)(e1:(pendingOf st)[i]?=some (sa,na,pw))(e2:(pendingOf st)[i+1]?=some (sb,nb,pw2))(hs:sb=sa+na)(hn:1<=na)(hb:1<=nb)(hz:sb+nb<=(arrOf st).size)
 (sA:(seg (arrOf st).toList sa na).Pairwise X.le) (sB:(seg (arrOf st).toList sb nb).Pairwise X.le) (it:∀x∈(arrOf st).toList,X.It x)
 (h:∀st' M,kindOf st'=X.κ->failedOf st'=none->pendingOf st'=(((pendingOf st).setIfInBounds i (sa,na+nb,pw)).eraseIdxIfInBounds (i+1))->(arrOf st').toList=(arrOf st).toList.take sa++M++(arrOf st).toList.drop (sb+nb)->M.Perm (seg (arrOf st).toList sa na++seg (arrOf st).toList sb nb)->M.Pairwise X.le->Q true st'):qX X (mergeAt' i) st Q:=by
 rw[GC]
 refine qX.bind (qX.get ?_)
 rw[e1,e2]
 dsimp only
 refine qX.bind (qX.set ?_)
 obtain⟨arr,Qpi⟩:∃arr,arr=arrOf st:=⟨_,rfl⟩
 obtain⟨pd,hpd⟩:∃pd,pd=(((pendingOf st).setIfInBounds i (sa,na+nb,pw)).eraseIdxIfInBounds (i+1)):=⟨_,rfl⟩
 rw[<-Qpi] at hz sA sB it h ⊢
 rw[<-hpd] at h ⊢
 obtain⟨L,hL⟩:∃L,L=arr.toList:=⟨_,rfl⟩
 have hLl:L.length=arr.size:=by rw[hL,qH]
 have itL:∀x∈L,X.It x:=by rw[hL];exact it
 obtain⟨y0,ey0,ey0',hy0⟩:=ZR (show sb<arr.size by omega)
 refine qX.bind (qX.elem ey0 ?_)
 have kS:∀{p},kindOf (setPending st p)=X.κ:=hk
 refine qX.bind (Jq (galR (it y0 hy0) sA (by omega) it) hk (by omega) fun k hkn hlt hge=>?_)
 dsimp only
 rw[<-hL] at sA sB h ey0'
 have lenA:(seg L sa na).length=na:=VD (by omega)
 have lenB:(seg L sb nb).length=nb:=VD (by omega)
 have eB0:(seg L sb nb)[0]?=some y0:=by rw[Yd (by omega)];exact ey0'
 have yB:∀z∈seg L sb nb,X.le y0 z:=fun z hz=>ZA sB eB0 z (by rw[jq];exact hz)
 have gA:∀(j:Nat) x,(seg L sa na)[j]?=some x->j<na/\arr[sa+j]?=some x:=fun j x e=>by
  have hj:j<na:=by have:=(qi.mp e).1;omega
  rw[Yd hj,hL,qC] at e
  exact⟨hj,e⟩
 have gB:∀(j:Nat) x,(seg L sb nb)[j]?=some x->j<nb/\arr[sb+j]?=some x:=fun j x e=>by
  have hj:j<nb:=by have:=(qi.mp e).1;omega
  rw[Yd hj,hL,qC] at e
  exact⟨hj,e⟩
 have hA0:∀x∈(seg L sa na).take k,X.le x y0:=fun x hx=>by
  obtain⟨j,ej⟩:=qL.mp hx
  have hj:j<k:=by have:=(qi.mp ej).1;rw[qK] at this;omega
  rw[za,qj hj] at ej
  have:=hlt j hj
  rw[(gA j x ej).2] at this
  have this:(!(X.lv y0 x))=true:=this
  show X.lv y0 x=false
  cases q:X.lv y0 x with
  | false=>rfl
  | true=>rw[q] at this;cases this
 have hA1:∀x∈(seg L sa na).drop k,X.le y0 x:=fun x hx=>by
  obtain⟨j,ej⟩:=qL.mp hx
  rw[q9] at ej
  have:=hge (k+j) (by omega) (gA _ x ej).1
  rw[(gA _ x ej).2] at this
  have this:(!(X.lv y0 x))=false:=this
  refine X.of_lt ?_
  cases q:X.lv y0 x with
  | true=>rfl
  | false=>rw[q] at this;cases this
 have QoR:L=L.take sa++(seg L sa na++seg L sb nb)++L.drop (sb+nb):=by
  have a1:L.drop sa=seg L sa na++L.drop sb:=by
   rw[hs,<-xf];exact(qQ na (L.drop sa)).symm
  have a2:L.drop sb=seg L sb nb++L.drop (sb+nb):=by
   rw[<-xf];exact(qQ nb (L.drop sb)).symm
  conv=>lhs;rw[<-qQ sa L,a1,a2]
  simp only[qU]
 have whole:(seg L sa na++seg L sb nb).Pairwise X.le->Q true (setPending st pd):=fun hp=>h _ (seg L sa na++seg L sb nb) hk hf rfl (by rw[show(arrOf (setPending st pd)).toList=L by rw[hL,Qpi]];exact QoR) (Qij _) hp
 by_cases q1:na - k=0
 .rw[qj (qW.mpr q1)]
  refine qX.pure (whole (qZ.mpr ⟨sA,sB,fun x hx y hy=>X.trans (hA0 x ?_) (yB y hy)⟩))
  rw[zj (by omega)];exact hx
 rw[ql (fun z=>q1 (qW.mp z))]
 obtain⟨x1,ex1,ex1',hx1⟩:=ZR (show sa+k+(na - k) - 1<arr.size by omega)
 refine qX.bind (qX.elem ex1 ?_)
 have eA1:(seg L sa na)[na - 1]?=some x1:=by
  rw[Yd (by omega),show sa+(na - 1)=sa+k+(na - k) - 1 by omega,hL];exact ex1'
 have xA:∀z∈seg L sa na,X.le z x1:=fun z hz=>JB sA eA1 z (by rw[show na - 1+1=na by omega,zj (by omega)];exact hz)
 refine qX.bind (Jq (galL (it x1 hx1) (by rw[<-hL];exact sB) (by omega) it) hk (by omega) fun n2 hn2 hlt2 hge2=>?_)
 dsimp only
 have hB0:∀y∈(seg L sb nb).take n2,X.le y x1:=fun y hy=>by
  obtain⟨j,ej⟩:=qL.mp hy
  have hj:j<n2:=by have:=(qi.mp ej).1;rw[qK] at this;omega
  rw[za,qj hj] at ej
  have:=hlt2 j hj
  rw[(gB j y ej).2] at this
  exact X.of_lt this
 have hB1:∀y∈(seg L sb nb).drop n2,X.le x1 y:=fun y hy=>by
  obtain⟨j,ej⟩:=qL.mp hy
  rw[q9] at ej
  have:=hge2 (n2+j) (by omega) (gB _ y ej).1
  rw[(gB _ y ej).2] at this
  exact this
 by_cases q2:n2=0
 .rw[qj (qW.mpr q2)]
  refine qX.pure (whole (qZ.mpr ⟨sA,sB,fun x hx y hy=>X.trans (xA x hx) (hB1 y ?_)⟩))
  rw[q2,jq];exact hy
 rw[ql (fun z=>q2 (qW.mp z))]
 have eX:(arr.extract (sa+k) sb).toList=(seg L sa na).drop k:=by
  rw[Qpm,<-hL,List.drop_take,xf,show sb - (sa+k)=na - k by omega]
 have eY:(arr.extract sb (sb+n2)).toList=(seg L sb nb).take n2:=by
  rw[Qpn,<-hL,List.take_take,jA hn2]
 have zX:(arr.extract (sa+k) sb).size=na - k:=by rw[<-qH,eX,jh,lenA]
 have zY:(arr.extract sb (sb+n2)).size=n2:=by rw[<-qH,eY,qK,lenB];omega
 have inA:∀x∈seg L sa na,x∈L:=fun x hx=>jb (zR hx)
 have inB:∀x∈seg L sb nb,x∈L:=fun x hx=>jb (zR hx)
 have pre:Yw X (arr.extract (sa+k) sb) (arr.extract sb (sb+n2)):=by
  refine⟨by omega,by omega,by rw[eX];exact sA.sublist (jV _ _),by rw[eY];exact sB.sublist (jl _ _),fun x hx=>by rw[eX] at hx;exact itL x (inA x (jb hx)),fun x hx=>by rw[eY] at hx;exact itL x (inB x (zR hx)),fun y ey x hx=>?_,fun x ex y hy=>?_⟩
  .rw[<-qC,eY,za,qj (by omega),eB0] at ey
   cases ey
   rw[eX] at hx
   exact hA1 x hx
  .rw[<-qC,eX,zX,q9,show k+(na - k - 1)=na - 1 by omega,eA1] at ex
   cases ex
   rw[eY] at hy
   exact hB0 y hy
 have fin:∀(m:Array Keyed)(st2:SortSt),Q3 (setPending st pd) st2->Mgd X (arr.extract (sa+k) sb).toList (arr.extract sb (sb+n2)).toList m.toList->qX X (do
  modify fun s=>setArr s (m.toList.zipIdx.foldl (fun a (p,j)=>a.setIfInBounds (sa+k+j) p) (arrOf s))
  return (failedOf (<-get)).isNone) st2 Q:=fun m st2 g mg=>by
  obtain⟨gg,rfl⟩:=g
  refine qX.bind (qX.modify (qX.bind (qX.get ?_)))
  rw[eX,eY] at mg
  have ml:m.toList.length=(na - k)+n2:=by rw[mg.1.length_eq,qy,jh,lenA,qK (l:=seg L sb nb),lenB];omega
  rw[show(failedOf (setArr (Ue (setPending st pd) gg) (m.toList.zipIdx.foldl (fun a (p,j)=>a.setIfInBounds (sa+k+j) p) (arrOf (Ue (setPending st pd) gg))))).isNone=true by show(failedOf st).isNone=true;rw[hf];rfl]
  refine qX.pure (h _ ((seg L sa na).take k++m.toList++(seg L sb nb).drop n2) hk hf rfl ?_ ?_ ?_)
  .show((m.toList.zipIdx.foldl (fun a (q:Keyed×Nat)=>a.setIfInBounds (sa+k+q.2) q.1) (arrOf st))).toList=_
   rw[<-Qpi,VP (sa+k) m.toList 0 arr (by omega),<-hL,Nat.add_zero,ml]
   have t1:L.take (sa+k)=L.take sa++(seg L sa na).take k:=by
    rw[List.take_add,List.take_take,jA hkn]
   have t2:L.drop (sa+k+(na - k+n2))=(seg L sb nb).drop n2++L.drop (sb+nb):=by
    rw[show sa+k+(na - k+n2)=sb+n2 by omega,<-xf,List.drop_take]
    conv=>lhs;rw[<-qQ (nb - n2) ((L.drop sb).drop n2)]
    rw[xf,xf,show sb+n2+(nb - n2)=sb+nb by omega]
   rw[t1,t2]
   simp only[qU]
  .have pA:seg L sa na++seg L sb nb=((seg L sa na).take k++(seg L sa na).drop k)++((seg L sb nb).take n2++(seg L sb nb).drop n2):=by rw[qQ,qQ]
   rw[pA]
   refine(xK _ (jH _ mg.1)).trans ?_
   simp only[qU]
   exact Qij _
  .have inM:∀x∈m.toList,x∈(seg L sa na).drop k\/x∈(seg L sb nb).take n2:=fun x hx=>qF.mp (mg.1.mem_iff.mp hx)
   have sA':=sA
   rw[<-qQ k (seg L sa na)] at sA'
   have sB':=sB
   rw[<-qQ n2 (seg L sb nb)] at sB'
   refine qZ.mpr ⟨qZ.mpr ⟨sA.sublist (jl _ _),mg.2,fun x hx y hy=>?_⟩,sB.sublist (jV _ _),fun x hx y hy=>?_⟩
   .rcases inM y hy with z | z
    .exact(qZ.mp sA').2.2 x hx y z
    .exact X.trans (hA0 x hx) (yB y (zR z))
   .rcases qF.mp hx with z | z
    .exact X.trans (hA0 x z) (yB y (jb hy))
    .rcases inM x z with z | z
     .exact X.trans (xA x (jb z)) (hB1 y hy)
     .exact(qZ.mp sB').2.2 x z y hy
 by_cases q3:na - k<=n2
 .rw[qj q3]
  exact qX.bind (QaK pre hk fun m st2 g mg=>fin m st2 g mg)
 .rw[ql q3]
  exact qX.bind (QaL pre hk fun m st2 g mg=>fin m st2 g mg)
end
end L2
namespace L2
open PySem PySem.Spec PyProof.Rows
section
variable {X:Zu}
abbrev kA(arr:Array Keyed)(k:Nat):Keyed:=(arr[k]?).getD (Value.none,Value.none)
theorem QbI{arr:Array Keyed}{k:Nat}(h:k<arr.size):arr[k]?=some (kA arr k):=by rw[kA,z6 h];rfl
theorem QeQ{arr:Array Keyed}{k:Nat}(h:k<arr.size):kA arr k∈arr.toList:=qG (i:=k) (by rw[qC];exact QbI h)
def UpK(X:Zu)(arr:Array Keyed)(lo n:Nat):Prop:=∀i j,i<=j->j<n->X.le (kA arr (lo+i)) (kA arr (lo+j))
def DnK(X:Zu)(arr:Array Keyed)(lo n:Nat):Prop:=∀i j,i<=j->j<n->X.le (kA arr (lo+j)) (kA arr (lo+i))
def EqK(X:Zu)(x y:Keyed):Prop:=X.le x y/\X.le y x
theorem EqK.refl(x:Keyed):EqK X x x:=⟨X.refl x,X.refl x⟩
theorem qX.ltAt{st:SortSt}{i j:Nat}{Q:Option Bool->SortSt->Prop}(hk:kindOf st=X.κ)(it:∀x∈(arrOf st).toList,X.It x)(hi:i<(arrOf st).size)(hj:j<(arrOf st).size)(h:Q (some (X.lv (kA (arrOf st) i) (kA (arrOf st) j))) st):qX X (ltAt' i j) st Q:=by
 rw[ltAt'_eq]
 refine qX.bind (qX.get ?_)
 dsimp only
 exact qX.bind (qX.elem (QbI hi) (qX.bind (qX.elem (QbI hj) (qX.lt (it _ (QeQ hi)) (it _ (QeQ hj)) hk h))))
theorem up_1(arr:Array Keyed)(lo:Nat):UpK X arr lo 1:=fun i j hij hj=>by rw[show i=j by omega];exact X.refl _
theorem Qfy{arr:Array Keyed}{lo n:Nat}(u:UpK X arr lo n)(h1:1<=n)(h:X.le (kA arr (lo+n - 1)) (kA arr (lo+n))):UpK X arr lo (n+1):=fun i j hij hj=>by
 by_cases e:j=n
 .subst e
  by_cases e':i=j
  .rw[e'];exact X.refl _
  .have:=u i (j - 1) (by omega) (by omega)
   rw[show lo+(j - 1)=lo+j - 1 by omega] at this
   exact X.trans this h
 .exact u i j hij (by omega)
theorem VM{arr:Array Keyed}{lo n:Nat}(u:DnK X arr lo n)(h1:1<=n)(h:X.le (kA arr (lo+n)) (kA arr (lo+n - 1))):DnK X arr lo (n+1):=fun i j hij hj=>by
 by_cases e:j=n
 .subst e
  by_cases e':i=j
  .rw[e'];exact X.refl _
  .have:=u i (j - 1) (by omega) (by omega)
   rw[show lo+(j - 1)=lo+j - 1 by omega] at this
   exact X.trans h this
 .exact u i j hij (by omega)
structure Chg(arr zJ:Array Keyed)(lo hi:Nat):Prop where
 z:zJ.size=arr.size
 pm:zJ.toList.Perm arr.toList
 out:∀k,k<lo\/hi<=k->zJ[k]?=arr[k]?
theorem Chg.refl(arr:Array Keyed)(lo hi:Nat):Chg arr arr lo hi:=⟨rfl,Qij _,fun _ _=>rfl⟩
theorem Chg.trans{a b c:Array Keyed}{lo hi:Nat}(x:Chg a b lo hi)(y:Chg b c lo hi):Chg a c lo hi:=⟨y.z.trans x.z,y.pm.trans x.pm,fun k h=>(y.out k h).trans (x.out k h)⟩
theorem Chg.wide{a b:Array Keyed}{lo hi lo' hi':Nat}(x:Chg a b lo hi)(h1:lo'<=lo)(h2:hi<=hi'):Chg a b lo' hi':=⟨x.z,x.pm,fun k h=>x.out k (by omega)⟩
theorem Chg.it{a b:Array Keyed}{lo hi:Nat}(x:Chg a b lo hi)(it:∀y∈a.toList,X.It y):∀y∈b.toList,X.It y:=fun y hy=>it y (x.pm.mem_iff.mp hy)
abbrev rvs(arr:Array Keyed)(i j:Nat):Array Keyed:=mirror arr i j ((j - i) / 2)
theorem QaS{arr:Array Keyed}{i j:Nat}(hj:j<=arr.size)(k:Nat):kA (rvs arr i j) k=if i<=k/\k<j then kA arr (i+j - 1 - k) else kA arr k:=by
 unfold kA rvs
 rw[getElem?_mirror_all hj]
 split <;> rfl
theorem VE{arr:Array Keyed}{i j:Nat}(hj:j<=arr.size):Chg arr (rvs arr i j) i j:=⟨mirror_size _ _ _ _,(Array.perm_iff_toList_perm.mp (mirror_perm _ _ _ _)),fun k h=>by
 unfold rvs
 rw[getElem?_mirror_all hj,ql (by omega)]⟩
theorem X9{arr:Array Keyed}{i j:Nat}(hj:j<=arr.size)(e:∀k,i<=k->k<j->EqK X (kA arr k) (kA arr (j - 1)))(k:Nat):EqK X (kA (rvs arr i j) k) (kA arr k):=by
 rw[QaS hj]
 split
 .rename_i hk
  have e1:=e (i+j - 1 - k) (by omega) (by omega)
  have e2:=e k hk.1 hk.2
  exact⟨X.trans e1.1 e2.2,X.trans e2.1 e1.2⟩
 .exact EqK.refl _
theorem Qfd{arr zJ:Array Keyed}{lo n:Nat}(e:∀k,EqK X (kA zJ k) (kA arr k))(d:DnK X arr lo n):DnK X zJ lo n:=fun i j hij hj=>X.trans (e _).1 (X.trans (d i j hij hj) (e _).2)
theorem QfW{arr:Array Keyed}{lo n:Nat}(hn:lo+n<=arr.size)(d:DnK X arr lo n):UpK X (rvs arr lo (lo+n)) lo n:=fun i j hij hj=>by
 rw[QaS hn,QaS hn,qj ⟨by omega,by omega⟩,qj ⟨by omega,by omega⟩]
 have:=d (n - 1 - j) (n - 1 - i) (by omega) (by omega)
 rw[show lo+(lo+n) - 1 - (lo+i)=lo+(n - 1 - i) by omega,show lo+(lo+n) - 1 - (lo+j)=lo+(n - 1 - j) by omega]
 exact this
theorem qX.rev{st:SortSt}{i j:Nat}{Q:Unit->SortSt->Prop}(h:Q () (setArr st (rvs (arrOf st) i j))):qX X (reverseSlice' i j) st Q:=by
 rw[reverseSlice'_eq]
 exact qX.modify h
def Qfs(lo a nrem n0:Nat):StateT SortSt Sem (Option (Option Nat)×Nat):=forIn [a:nrem] ((none:Option (Option Nat)),n0) fun _ s=>ltAt' (lo+s.2) (lo+s.2 - 1) >>= fun r=>match r with
 | some sm=>if sm=true then pure (.done (none,s.2)) else pure (.yield (none,s.2+1))
 | _=>pure (.done (some none,s.2))
theorem Qfr{st:SortSt}{lo n0 nrem:Nat}{Q:Option (Option Nat)×Nat->SortSt->Prop}(hk:kindOf st=X.κ)(it:∀x∈(arrOf st).toList,X.It x)(h1:1<=n0)(h2:n0<=nrem)(hz:lo+nrem<=(arrOf st).size)(u:UpK X (arrOf st) lo n0)
 (h:∀n,n0<=n->n<=nrem->UpK X (arrOf st) lo n->(n<nrem->X.lv (kA (arrOf st) (lo+n)) (kA (arrOf st) (lo+n - 1))=true)->Q (none,n) st):qX X (Qfs lo n0 nrem n0) st Q:=by
 unfold Qfs
 refine qX.range (fun k v st'=>st'=st/\v=(none,n0+k)/\n0+k<=nrem/\UpK X (arrOf st) lo (n0+k)) ⟨rfl,rfl,h2,u⟩ ?_ ?_
 .rintro k ⟨v0,n⟩ st' hkn ⟨rfl,e,a1,a2⟩
  cases e
  dsimp only
  refine qX.bind (qX.ltAt hk it (by omega) (by omega) ?_)
  dsimp only
  cases c:X.lv (kA (arrOf st') (lo+(n0+k))) (kA (arrOf st') (lo+(n0+k) - 1)) with
  | true =>
    rw[qj rfl]
    exact qX.pure (h _ (by omega) a1 a2 fun _=>c)
  | false =>
    rw[ql (by decide)]
    have u':=Qfy a2 (show 1<=n0+k by omega) c
    exact qX.pure ⟨rfl,rfl,by omega,u'⟩
 .rintro⟨v0,n⟩ st' ⟨rfl,e,a1,a2⟩
  cases e
  exact h _ (by omega) a1 a2 fun z=>by omega
def EqE(X:Zu)(arr:Array Keyed)(e q:Nat):Prop:=∀k,e - (q+1)<=k->k<e->EqK X (kA arr k) (kA arr (e - 1))
theorem Qfa(arr:Array Keyed)(e:Nat):EqE X arr e 0:=fun k h1 h2=>by rw[show k=e - 1 by omega];exact EqK.refl _
def Qb0(lo n0 nrem:Nat):StateT SortSt Sem (Option (Option Nat)×Nat×Nat):=forIn [n0:nrem] ((none:Option (Option Nat)),n0,0) fun _ s=>ltAt' (lo+s.2.1) (lo+s.2.1 - 1) >>= fun r=>match r with
 | some sm=>if sm=true then (if s.2.2 > 0 then reverseSlice' (lo+s.2.1 - (s.2.2+1)) (lo+s.2.1) >>= fun _=>pure (.yield (none,s.2.1+1,0)) else pure (.yield (none,s.2.1+1,0)))
   else ltAt' (lo+s.2.1 - 1) (lo+s.2.1) >>= fun r2=>match r2 with
    | some lg=>if lg=true then pure (.done (none,s.2.1,s.2.2)) else pure (.yield (none,s.2.1+1,s.2.2+1))
    | _=>pure (.done (some none,s.2.1,s.2.2))
 | _=>pure (.done (some none,s.2.1,s.2.2))
theorem QbZ{st:SortSt}{lo n0 nrem:Nat}{Q:Option (Option Nat)×Nat×Nat->SortSt->Prop}(hk:kindOf st=X.κ)(it:∀x∈(arrOf st).toList,X.It x)(h1:1<=n0)(h2:n0<=nrem)(hz:lo+nrem<=(arrOf st).size)(u:DnK X (arrOf st) lo n0)
 (h:∀n q zJ,n0<=n->n<=nrem->q+1<=n->Chg (arrOf st) zJ lo (lo+n)->DnK X zJ lo n->EqE X zJ (lo+n) q->Q (none,n,q) (setArr st zJ)):qX X (Qb0 lo n0 nrem) st Q:=by
 unfold Qb0
 refine qX.range (fun k v st'=>∃q zJ,v=(none,n0+k,q)/\st'=setArr st zJ/\n0+k<=nrem/\q+1<=n0+k/\Chg (arrOf st) zJ lo (lo+(n0+k))/\DnK X zJ lo (n0+k)/\EqE X zJ (lo+(n0+k)) q) ⟨0,arrOf st,rfl,rfl,h2,by omega,Chg.refl _ _ _,u,Qfa _ _⟩ ?_ ?_
 .rintro k v st' hkn ⟨q,zJ,rfl,rfl,a1,a2,a3,a4,a5⟩
  dsimp only
  have zz:=a3.z
  have it':∀x∈(arrOf (setArr st zJ)).toList,X.It x:=a3.it it
  refine qX.bind (qX.ltAt hk it' (by show _<zJ.size;omega) (by show _<zJ.size;omega) ?_)
  dsimp only
  cases c:X.lv (kA (arrOf (setArr st zJ)) (lo+(n0+k))) (kA (arrOf (setArr st zJ)) (lo+(n0+k) - 1)) with
  | true =>
    rw[qj rfl]
    have c:X.lv (kA zJ (lo+(n0+k))) (kA zJ (lo+(n0+k) - 1))=true:=c
    have d1:DnK X zJ lo (n0+k+1):=VM a4 (by omega) (X.of_lt c)
    by_cases hq:q > 0
    .rw[qj hq]
     refine qX.bind (qX.rev (qX.pure ⟨0,rvs zJ (lo+(n0+k) - (q+1)) (lo+(n0+k)),rfl,rfl,by omega,by omega,?_,?_,Qfa _ _⟩))
     .exact(a3.wide (qp _) (by omega)).trans ((VE (by omega)).wide (by omega) (by omega))
     .exact Qfd (X9 (by omega) fun k' h1' h2'=>a5 k' h1' h2') d1
    .rw[ql hq]
     exact qX.pure ⟨0,zJ,rfl,rfl,by omega,by omega,a3.wide (qp _) (by omega),d1,Qfa _ _⟩
  | false =>
    rw[ql (by decide)]
    have c:X.lv (kA zJ (lo+(n0+k))) (kA zJ (lo+(n0+k) - 1))=false:=c
    refine qX.bind (qX.ltAt hk it' (by show _<zJ.size;omega) (by show _<zJ.size;omega) ?_)
    dsimp only
    cases c2:X.lv (kA (arrOf (setArr st zJ)) (lo+(n0+k) - 1)) (kA (arrOf (setArr st zJ)) (lo+(n0+k))) with
    | true =>
      rw[qj rfl]
      exact qX.pure (h _ q zJ (by omega) a1 a2 a3 a4 a5)
    | false =>
      rw[ql (by decide)]
      have c2:X.lv (kA zJ (lo+(n0+k) - 1)) (kA zJ (lo+(n0+k)))=false:=c2
      have d2:=VM a4 (show 1<=n0+k by omega) c2
      refine qX.pure ⟨q+1,zJ,rfl,rfl,by omega,by omega,a3.wide (qp _) (by omega),d2,fun k' h1' h2'=>?_⟩
      rw[show lo+(n0+(k+1)) - 1=lo+(n0+k) by omega]
      by_cases e:k'=lo+(n0+k)
      .rw[e];exact EqK.refl _
      .have e5:=a5 k' (by omega) (by omega)
       exact⟨X.trans e5.1 c,X.trans c2 e5.2⟩
 .rintro v st' ⟨q,zJ,rfl,rfl,a1,a2,a3,a4,a5⟩
  exact h _ q zJ (by omega) a1 a2 a3 a4 a5
theorem GZ{st:SortSt}{lo n nrem:Nat}{L:StateT SortSt Sem (Option (Option Nat)×Nat)}{T:Option (Option Nat)×Nat->StateT SortSt Sem (Option Nat)}{Q:Option Nat->SortSt->Prop}(hL:L=Qfs lo n nrem n)(hT:∀k,T (none,k)=pure (some k))(hk:kindOf st=X.κ)(it:∀x∈(arrOf st).toList,X.It x)(h1:1<=n)(h2:n<=nrem)(hz:lo+nrem<=(arrOf st).size)(d:DnK X (arrOf st) lo n)
 (h:∀n' zJ,n<=n'->n'<=nrem->Chg (arrOf st) zJ lo (lo+n')->UpK X zJ lo n'->Q (some n') (setArr st zJ)):qX X (reverseSlice' lo (lo+n) >>= fun _=>L >>= T) st Q:=by
 subst hL
 have rc:=VE (arr:=arrOf st) (i:=lo) (j:=lo+n) (by omega)
 refine qX.bind (qX.rev (qX.bind (Qfr (st:=setArr st (rvs (arrOf st) lo (lo+n))) hk (rc.it it) h1 h2 (by show _<=(rvs (arrOf st) lo (lo+n)).size;rw[rc.z];exact hz) (QfW (by omega) d) fun n' a1 a2 a3 _=>?_)))
 rw[hT]
 exact qX.pure (h n' _ a1 a2 (rc.wide (qp _) (by omega)) a3)
theorem Qb4{st:SortSt}{lo n n' q nrem:Nat}{L:StateT SortSt Sem (Option (Option Nat)×Nat)}{T:Option (Option Nat)×Nat->StateT SortSt Sem (Option Nat)}{zJ:Array Keyed}{Q:Option Nat->SortSt->Prop}(hL:L=Qfs lo n' nrem n')(hT:∀k,T (none,k)=pure (some k))(hk:kindOf st=X.κ)(it:∀x∈(arrOf st).toList,X.It x)(h1:1<=n)(hz:lo+nrem<=(arrOf st).size)
 (h:∀n' zJ,n<=n'->n'<=nrem->Chg (arrOf st) zJ lo (lo+n')->UpK X zJ lo n'->Q (some n') (setArr st zJ)) (a1:n<=n') (a2:n'<=nrem) (a3:q+1<=n') (a4:Chg (arrOf st) zJ lo (lo+n')) (a5:DnK X zJ lo n') (a6:EqE X zJ (lo+n') q) :
 qX X (if q > 0 then reverseSlice' (lo+n' - (q+1)) (lo+n') >>= fun _=>reverseSlice' lo (lo+n') >>= fun _=>L >>= T else reverseSlice' lo (lo+n') >>= fun _=>L >>= T) (setArr st zJ) Q:=by
 have zz:=a4.z
 by_cases hq:q > 0
 .rw[qj hq]
  have rc:=VE (arr:=zJ) (i:=lo+n' - (q+1)) (j:=lo+n') (by omega)
  refine qX.bind (qX.rev (GZ (st:=setArr st (rvs zJ (lo+n' - (q+1)) (lo+n'))) hL hT hk (rc.it (a4.it it)) (by omega) a2 (by show _<=(rvs zJ _ _).size;rw[rc.z];omega) (Qfd (X9 (by omega) a6) a5) fun n2 Qme b1 b2 b3 b4=>?_))
  exact h n2 Qme (by omega) b2 (((a4.wide (qp _) (by omega)).trans (rc.wide (by omega) (by omega))).trans b3) b4
 .rw[ql hq]
  refine GZ (st:=setArr st zJ) hL hT hk (a4.it it) (by omega) a2 (by show _<=zJ.size;omega) a5 fun n2 Qme b1 b2 b3 b4=>?_
  exact h n2 Qme (by omega) b2 ((a4.wide (qp _) (by omega)).trans b3) b4
theorem GS{st:SortSt}{lo nrem:Nat}{Q:Option Nat->SortSt->Prop}(hk:kindOf st=X.κ)(it:∀x∈(arrOf st).toList,X.It x)(h1:1<=nrem)(hz:lo+nrem<=(arrOf st).size)
 (h:∀n zJ,1<=n->n<=nrem->Chg (arrOf st) zJ lo (lo+n)->UpK X zJ lo n->Q (some n) (setArr st zJ)):qX X (countRun' lo nrem) st Q:=by
 rw[countRun'_eq]
 dsimp only
 refine qX.bind (show qX X (Qfs lo 1 nrem 1) st _ from Qfr hk it (qp _) h1 hz (up_1 _ _) fun n a1 a2 a3 a4=>?_)
 dsimp only
 by_cases q:n=nrem
 .rw[qj (qW.mpr q)]
  exact qX.pure (h n (arrOf st) a1 a2 (Chg.refl _ _ _) a3)
 rw[ql (fun z=>q (qW.mp z))]
 have lst:=a4 (by omega)
 by_cases q1:n > 1
 .rw[qj q1]
  refine qX.bind (qX.ltAt hk it (by omega) (by omega) ?_)
  dsimp only
  cases c:X.lv (kA (arrOf st) lo) (kA (arrOf st) (lo+n - 1)) with
  | true =>
    rw[qj rfl]
    exact qX.pure (h n (arrOf st) a1 a2 (Chg.refl _ _ _) a3)
  | false =>
    rw[ql (by decide)]
    have rc:=VE (arr:=arrOf st) (i:=lo) (j:=lo+n) (by omega)
    have eqs:∀k,lo<=k->k<lo+n->EqK X (kA (arrOf st) k) (kA (arrOf st) (lo+n - 1)):=fun k h1' h2'=>by
     have b1:=a3 (k - lo) (n - 1) (by omega) (by omega)
     have b2:=a3 0 (k - lo) (by omega) (by omega)
     rw[show lo+(k - lo)=k by omega] at b1 b2
     rw[show lo+(n - 1)=lo+n - 1 by omega] at b1
     exact⟨b1,X.trans (show X.le (kA (arrOf st) (lo+n - 1)) (kA (arrOf st) (lo+0)) from c) b2⟩
    have ek:=X9 (X:=X) (arr:=arrOf st) (i:=lo) (j:=lo+n) (by omega) eqs
    have dn:DnK X (rvs (arrOf st) lo (lo+n)) lo (n+1):=by
     refine VM (fun i j hij hj=>?_) (by omega) ?_
     .have e1:=eqs (lo+i) (by omega) (by omega)
      have e2:=eqs (lo+j) (by omega) (by omega)
      exact X.trans (ek _).1 (X.trans (X.trans e2.1 e1.2) (ek _).2)
     .exact X.trans (ek _).1 (X.trans (X.of_lt lst) (ek _).2)
    refine qX.bind (qX.rev ?_)
    refine qX.bind (qX.rule ?_)
    refine qX.bind (show qX X (Qb0 lo (n+1) nrem) (setArr st (rvs (arrOf st) lo (lo+n))) _ from QbZ (st:=setArr st (rvs (arrOf st) lo (lo+n))) hk (rc.it it) (by omega) (by omega) (by show _<=(rvs (arrOf st) lo (lo+n)).size;rw[rc.z];exact hz) dn fun n' q zJ a1 a2 a3 a4 a5 a6=>?_)
    dsimp only
    refine Qb4 (st:=setArr st (rvs (arrOf st) lo (lo+n))) (n:=n+1) (Q:=Q) ?_ ?_ hk (rc.it it) (by omega) (by show _<=(rvs (arrOf st) lo (lo+n)).size;rw[rc.z];exact hz) (fun n' zJ b1 b2 b3 b4=>h n' zJ (by omega) b2 ((rc.wide (qp _) (by omega)).trans b3) b4) a1 a2 a3 a4 a5 a6
    .rfl
    .exact fun _=>rfl
 .rw[ql q1]
  have n1:n=1:=by omega
  subst n1
  have dn:DnK X (arrOf st) lo (1+1):=VM (fun i j hij hj=>by rw[show i=j by omega];exact X.refl _) (by omega) (X.of_lt lst)
  refine qX.bind (qX.rule ?_)
  refine qX.bind (show qX X (Qb0 lo (1+1) nrem) st _ from QbZ hk it (by omega) (by omega) hz dn fun n' q zJ a1 a2 a3 a4 a5 a6=>?_)
  dsimp only
  refine Qb4 (n:=1+1) (Q:=Q) ?_ ?_ hk it (by omega) hz (fun n' zJ b1 b2 b3 b4=>h n' zJ (by omega) b2 b3 b4) a1 a2 a3 a4 a5 a6
  .rfl
  .exact fun _=>rfl
end
end L2
namespace L2
open PySem PySem.Spec PyProof.Rows
section
variable {X:Zu}
theorem QeR{arr:Array Keyed}{k d:Nat}(hk:k<arr.size)(hd:d<=k)(j:Nat):kA (bubble arr k d) j=if j=k - d then kA arr k else if k - d<j/\j<=k then kA arr (j - 1) else kA arr j:=by
 unfold kA
 rw[getElem?_bubble hk d hd]
 by_cases h1:j=k - d
 .rw[qj h1,qj h1]
 .rw[ql h1,ql h1]
  by_cases h2:k - d<j/\j<=k
  .rw[qj h2,qj h2]
  .rw[ql h2,ql h2]
theorem QgO{arr:Array Keyed}{k d:Nat}(hk:k<arr.size)(hd:d<=k):Chg arr (bubble arr k d) (k - d) (k+1):=⟨bubble_size ..,Array.perm_iff_toList_perm.mp (bubble_perm _ _ _),fun j h=>by
 rw[getElem?_bubble hk d hd,ql (by omega),ql (by omega)]⟩
theorem QgN{arr:Array Keyed}{lo k l:Nat}(hk:lo+k<arr.size)(u:UpK X arr lo k)(hl:l<=k)(ha:∀i,i<l->X.le (kA arr (lo+i)) (kA arr (lo+k)))(hb:∀i,l<=i->i<k->X.le (kA arr (lo+k)) (kA arr (lo+i))):UpK X (bubble arr (lo+k) (lo+k - (lo+l))) lo (k+1):=fun i j hij hj=>by
 rw[QeR hk (by omega),QeR hk (by omega),show lo+k - (lo+k - (lo+l))=lo+l by omega]
 by_cases hi:i=l
 .subst hi
  rw[qj rfl]
  by_cases hjl:j=i
  .rw[qj (by omega)];exact X.refl _
  .rw[ql (by omega),qj (by omega)]
   have:=hb (j - 1) (by omega) (by omega)
   rwa[show lo+(j - 1)=lo+j - 1 by omega] at this
 .rw[ql (show ¬lo+i=lo+l by omega)]
  by_cases hil:i<l
  .rw[ql (show ¬(lo+l<lo+i/\lo+i<=lo+k) by omega)]
   by_cases hjl:j=l
   .rw[qj (by omega)];exact ha i hil
   .rw[ql (by omega)]
    by_cases hj2:l<j
    .rw[qj (by omega)]
     have:=u i (j - 1) (by omega) (by omega)
     rwa[show lo+(j - 1)=lo+j - 1 by omega] at this
    .rw[ql (by omega)]
     exact u i j hij (by omega)
  .rw[qj (show lo+l<lo+i/\lo+i<=lo+k by omega),ql (by omega),qj (by omega)]
   have:=u (i - 1) (j - 1) (by omega) (by omega)
   rwa[show lo+(j - 1)=lo+j - 1 by omega,show lo+(i - 1)=lo+i - 1 by omega] at this
theorem W0{st:SortSt}{lo n ok:Nat}{Q:Bool->SortSt->Prop}(hk:kindOf st=X.κ)(it:∀x∈(arrOf st).toList,X.It x)(h1:ok<=n)(hn:1<=n)(hz:lo+n<=(arrOf st).size)(u:UpK X (arrOf st) lo ok)
 (h:∀zJ,Chg (arrOf st) zJ lo (lo+n)->UpK X zJ lo n->Q true (setArr st zJ)):qX X (binarySort' lo n ok) st Q:=by
 rw[binarySort'_eq]
 dsimp only
 refine qX.bind (qX.range (fun k v st'=>v=(none,())/\∃zJ,st'=setArr st zJ/\Chg (arrOf st) zJ lo (lo+n)/\UpK X zJ lo (min (max ok 1+k) n)) ⟨rfl,arrOf st,rfl,Chg.refl _ _ _,fun i j hij hj=>?_⟩ ?_ ?_)
 .by_cases h0:ok=0
  .rw[show i=j by omega];exact X.refl _
  .exact u i j hij (by omega)
 .rintro k v st' hkn ⟨rfl,zJ,rfl,a1,a2⟩
  rw[show min (max ok 1+k) n=max ok 1+k by omega] at a2
  have zz:=a1.z
  have hK:max ok 1+k<n:=by omega
  obtain⟨K,eK⟩:∃K,K=max ok 1+k:=⟨_,rfl⟩
  rw[<-eK] at a2 hK ⊢
  refine qX.bind (qX.mono (Q:=fun v st''=>st''=setArr st zJ/\∃l r,v=(none,l,r)/\l<=K/\(∀i,i<l->X.le (kA zJ (lo+i)) (kA zJ (lo+K)))/\(∀i,l<=i->i<K->X.le (kA zJ (lo+K)) (kA zJ (lo+i)))) (qX.range (fun x v st''=>st''=setArr st zJ/\∃l r,v=(none,l,r)/\l<=r/\r<=K/\r - l<=K - x/\(∀i,i<l->X.le (kA zJ (lo+i)) (kA zJ (lo+K)))/\(∀i,r<=i->i<K->X.le (kA zJ (lo+K)) (kA zJ (lo+i)))) ⟨rfl,0,K,rfl,qP _,qp _,qp _,fun i hi=>absurd hi (Nat.not_lt_zero _),fun i b1 b2=>by omega⟩ ?_ ?_) ?_)
  .rintro x v st'' hx ⟨rfl,l,r,rfl,b1,b2,b3,b4,b5⟩
   dsimp only
   by_cases hge:l>=r
   .rw[qj hge]
    have:l=r:=by omega
    subst this
    exact qX.pure ⟨rfl,l,l,rfl,b2,b4,b5⟩
   .rw[ql hge]
    refine qX.bind (qX.ltAt (st:=setArr st zJ) hk (a1.it it) (by show _<zJ.size;omega) (by show _<zJ.size;omega) ?_)
    dsimp only
    show qX X (if X.lv (kA zJ (lo+K)) (kA zJ (lo+(l+r) / 2))=true then _ else _) _ _
    cases c:X.lv (kA zJ (lo+K)) (kA zJ (lo+(l+r) / 2)) with
    | true =>
      rw[qj rfl]
      exact qX.pure ⟨rfl,l,(l+r) / 2,rfl,by omega,by omega,by omega,b4,fun i c1 c2=>X.trans (X.of_lt c) (a2 _ _ c1 c2)⟩
    | false =>
      rw[ql (by decide)]
      exact qX.pure ⟨rfl,(l+r) / 2+1,r,rfl,by omega,by omega,by omega,fun i c1=>X.trans (a2 i ((l+r) / 2) (by omega) (by omega)) c,b5⟩
  .rintro v st'' ⟨rfl,l,r,rfl,b1,b2,b3,b4,b5⟩
   have:l=r:=by omega
   subst this
   exact⟨rfl,l,l,rfl,b2,b4,b5⟩
  .rintro v st'' ⟨rfl,l,r,rfl,b2,b4,b5⟩
   dsimp only
   rw[moveDown'_eq]
   refine qX.bind (qX.modify (qX.pure ?_))
   refine⟨rfl,bubble zJ (lo+K) (lo+K - (lo+l)),rfl,a1.trans ((QgO (by omega) (by omega)).wide (by omega) (by omega)),?_⟩
   rw[show min (max ok 1+(k+1)) n=K+1 by omega]
   exact QgN (by omega) a2 b2 b4 b5
 .rintro v st' ⟨rfl,zJ,rfl,a1,a2⟩
  dsimp only
  rw[show min (max ok 1+(n - max ok 1)) n=n by omega] at a2
  exact qX.pure (h zJ a1 a2)
end
end L2
namespace L2
open PySem PySem.Spec PyProof.Rows
section
variable {X:Zu}
def UV(X:Zu)(arr:Array Keyed):Nat->List (Nat×Nat×Nat)->Nat->Prop
 | s,[],e=>s=e
 | s,p :: r,e=>p.1=s/\1<=p.2.1/\UpK X arr s p.2.1/\UV X arr (s+p.2.1) r e
theorem UI{arr:Array Keyed}:∀{l:List (Nat×Nat×Nat)}{s e:Nat},UV X arr s l e->s+l.length<=e
 | [],s,e,h=>by have:s=e:=h;simp[this]
 | p :: r,s,e,h=>by
   have:=UI h.2.2.2
   have:=h.2.1
   rw[zm]
   omega
theorem YW{arr zJ:Array Keyed}:∀{l:List (Nat×Nat×Nat)}{s e:Nat},UV X arr s l e->(∀k,s<=k->k<e->zJ[k]?=arr[k]?)->UV X zJ s l e
 | [],s,e,h,_=>h
 | p :: r,s,e,h,c=>by
   have q:=UI h.2.2.2
   refine⟨h.1,h.2.1,fun i j hij hj=>?_,YW h.2.2.2 fun k h1 h2=>c k (by omega) h2⟩
   have:=h.2.2.1 i j hij hj
   unfold kA at this ⊢
   rw[c (s+i) (by omega) (by omega),c (s+j) (by omega) (by omega)]
   exact this
theorem YF{arr:Array Keyed}:∀{l r:List (Nat×Nat×Nat)}{s e:Nat},UV X arr s (l++r) e↔∃m,UV X arr s l m/\UV X arr m r e
 | [],r,s,e=>⟨fun h=>⟨s,rfl,h⟩,fun⟨m,h1,h2⟩=>by have:s=m:=h1;subst this;exact h2⟩
 | p :: l,r,s,e=>by
   constructor
   .intro h
    obtain⟨m,h1,h2⟩:=YF.mp h.2.2.2
    exact⟨m,⟨h.1,h.2.1,h.2.2.1,h1⟩,h2⟩
   .rintro⟨m,h1,h2⟩
    exact⟨h1.1,h1.2.1,h1.2.2.1,YF.mpr ⟨m,h1.2.2.2,h2⟩⟩
theorem Gb{arr:Array Keyed}{f:Nat×Nat×Nat->Nat×Nat×Nat}(f1:∀p,(f p).1=p.1)(f2:∀p,(f p).2.1=p.2.1):∀{l:List (Nat×Nat×Nat)}{i s e:Nat},UV X arr s l e->UV X arr s (l.modify i f) e
 | [],i,s,e,h=>by cases i <;> exact h
 | p :: r,0,s,e,h=>by
   show(f p).1=s/\1<=(f p).2.1/\UpK X arr s (f p).2.1/\UV X arr (s+(f p).2.1) r e
   rw[f1,f2]
   exact h
 | p :: r,i+1,s,e,h=>⟨h.1,h.2.1,h.2.2.1,Gb f1 f2 h.2.2.2⟩
theorem Qaf{arr:Array Keyed}{s n:Nat}(u:UpK X arr s n)(hz:s+n<=arr.size):(seg arr.toList s n).Pairwise X.le:=by
 rw[yG]
 intro i j hi hj hij
 have ln:(seg arr.toList s n).length=n:=VD (by rw[qH];exact hz)
 rw[ln] at hi hj
 have key:∀k (h:k<(seg arr.toList s n).length),(seg arr.toList s n)[k]=kA arr (s+k):=fun k h=>by
  have e:=Yd (L:=arr.toList) (s:=s) (n:=n) (i:=k) (by omega)
  rw[qe h,qC,QbI (by omega)] at e
  exact zg e
 rw[key,key]
 exact u i j (by omega) hj
theorem up_of{arr:Array Keyed}{T M D:List Keyed}{s n:Nat}(e:arr.toList=T++M++D)(hT:T.length=s)(hM:M.length=n)(so:M.Pairwise X.le):UpK X arr s n:=fun i j hij hj=>by
 have key:∀k (h:k<M.length),kA arr (s+k)=M[k]:=fun k h=>by
  unfold kA
  rw[<-qC,e,qU,zQ (by omega),zH (by omega),show s+k - T.length=k by omega,qe h]
  rfl
 by_cases q:i=j
 .rw[q];exact X.refl _
 .rw[key i (by omega),key j (by omega)]
  exact yG.mp so i j (by omega) (by omega) (by omega)
structure Z1(X:Zu)(L:List Keyed)(st:SortSt)(lo:Nat):Prop where
 kind:kindOf st=X.κ
 failed:failedOf st=none
 pm:(arrOf st).toList.Perm L
 runs:UV X (arrOf st) 0 (pendingOf st).toList lo
 le:lo<=L.length
theorem Z1.size{L:List Keyed}{st:SortSt}{lo:Nat}(v:Z1 X L st lo):(arrOf st).size=L.length:=by rw[<-qH];exact v.pm.length_eq
theorem Z1.it{L:List Keyed}{st:SortSt}{lo:Nat}(v:Z1 X L st lo)(it:∀x∈L,X.It x):∀x∈(arrOf st).toList,X.It x:=fun x h=>it x (v.pm.mem_iff.mp h)
theorem Z1.chg{L:List Keyed}{st:SortSt}{lo n:Nat}{zJ:Array Keyed}(v:Z1 X L st lo)(c:Chg (arrOf st) zJ lo (lo+n)):Z1 X L (setArr st zJ) lo :=
 ⟨v.kind,v.failed,c.pm.trans v.pm,YW v.runs fun k _ h=>c.out k (Or.inl h),v.le⟩
theorem Qhn{α:Type}{l:List α}{i:Nat}(h:i+1<l.length):∃A x y B,l=A++x :: y :: B/\A.length=i:=by
 refine⟨l.take i,l[i],l[i+1],l.drop (i+2),?_,by rw[qK];omega⟩
 rw[<-j7 (show i+1<l.length from h),<-j7 (show i<l.length by omega),qQ]
theorem Wc{L:List Keyed}{st:SortSt}{lo i:Nat}{Q:Bool->SortSt->Prop}(v:Z1 X L st lo)(it:∀x∈L,X.It x)(hi:i+1<(pendingOf st).size)(h:∀st',Z1 X L st' lo->(∀k,lo<=k->(arrOf st').toList[k]?=(arrOf st).toList[k]?)->(pendingOf st').size+1=(pendingOf st).size->Q true st'):qX X (mergeAt' i) st Q:=by
 obtain⟨A,x,y,B,eP,lA⟩:=Qhn (l:=(pendingOf st).toList) (i:=i) (by rw[qH];exact hi)
 obtain⟨sa,na,pw⟩:=x
 obtain⟨sb,nb,pw2⟩:=y
 have r:=v.runs
 rw[eP] at r
 obtain⟨m,r1,r2⟩:=YF.mp r
 obtain⟨c1,c2,c3,d1,d2,d3,r3⟩:=r2
 dsimp only at c1 c2 c3 d1 d2 d3 r3
 subst c1
 have z:=v.size
 have l1:=UI r3
 have l2:=UI r1
 have hle:=v.le
 have lenL:(arrOf st).toList.length=L.length:=by rw[qH];exact z
 refine QaM (sa:=sa) (na:=na) (pw:=pw) (sb:=sb) (nb:=nb) (pw2:=pw2) v.kind v.failed ?_ ?_ d1 c2 d2 (by omega) (Qaf c3 (by omega)) (by rw[d1];exact Qaf d3 (by omega)) (v.it it) fun st' M k1 k2 k3 k4 k5 k6=>?_
 .rw[<-qC,eP,zQ (by omega),lA,QgR];rfl
 .rw[<-qC,eP,zQ (by omega),lA,show i+1 - i=1 by omega];rfl
 have eM:seg (arrOf st).toList sa na++seg (arrOf st).toList sb nb=seg (arrOf st).toList sa (na+nb):=by
  rw[d1]
  unfold seg
  rw[<-xf,<-List.take_add]
 rw[eM] at k5
 have lM:M.length=na+nb:=by rw[k5.length_eq,VD (by omega)]
 have lT:((arrOf st).toList.take sa).length=sa:=by rw[qK];omega
 have ge:∀k,sb+nb<=k->(arrOf st').toList[k]?=(arrOf st).toList[k]?:=fun k hk=>by
  rw[k4,zQ (by rw[qy];omega),qy,lT,lM,q9]
  congr 1
  omega
 have lt:∀k,k<sa->(arrOf st').toList[k]?=(arrOf st).toList[k]?:=fun k hk=>by
  rw[k4,qU,zH (by omega),za,qj hk]
 have eP':(pendingOf st').toList=A++(sa,na+nb,pw) :: B:=by
  rw[k3,Array.toList_eraseIdxIfInBounds,Array.toList_setIfInBounds,eP,List.set_append_right _ _ (by omega),lA,QgR,List.set_cons_zero,List.eraseIdx_append_of_length_le (by omega),lA,show i+1 - i=1 by omega]
  rfl
 refine h st' ⟨k1,k2,?_,?_,hle⟩ (fun k hk=>ge k (by omega)) ?_
 .refine List.Perm.trans ?_ v.pm
  rw[k4]
  refine((k5.append_left _).append_right _).trans (List.Perm.of_eq ?_)
  unfold seg
  rw[show sb+nb=sa+(na+nb) by omega,<-xf,qU,qQ,qQ]
 .rw[eP']
  refine YF.mpr ⟨sa,YW r1 fun k _ hk=>?_,rfl,by show 1<=na+nb;omega,up_of k4 lT lM k6,?_⟩
  .rw[<-qC,lt k hk,qC]
  .show UV X _ (sa+(na+nb)) B lo
   rw[show sa+(na+nb)=sa+na+nb by omega]
   refine YW r3 fun k hk _=>?_
   rw[<-qC,ge k (by omega),qC]
 .rw[<-qH,<-qH,eP,eP']
  simp only[qy,zm]
  omega
theorem Z1.push{L:List Keyed}{st:SortSt}{lo n:Nat}(v:Z1 X L st lo)(h1:1<=n)(u:UpK X (arrOf st) lo n)(hz:lo+n<=L.length):Z1 X L (setPending st ((pendingOf st).push (lo,n,0))) (lo+n) :=
 ⟨v.kind,v.failed,v.pm,by
   show UV X (arrOf st) 0 ((pendingOf st).push (lo,n,0)).toList (lo+n)
   rw[jW]
   exact YF.mpr ⟨lo,v.runs,rfl,h1,u,rfl⟩,hz⟩
theorem Z1.modp{L:List Keyed}{st:SortSt}{lo i:Nat}{f:Nat×Nat×Nat->Nat×Nat×Nat}(v:Z1 X L st lo)(f1:∀p,(f p).1=p.1)(f2:∀p,(f p).2.1=p.2.1):Z1 X L (setPending st ((pendingOf st).modify i f)) lo :=
 ⟨v.kind,v.failed,v.pm,by
   show UV X (arrOf st) 0 ((pendingOf st).modify i f).toList lo
   rw[Array.toList_modify]
   exact Gb f1 f2 v.runs,v.le⟩
theorem Z1.one{L:List Keyed}{st:SortSt}(v:Z1 X L st L.length)(h:(pendingOf st).size<=1):(arrOf st).toList.Pairwise X.le:=by
 have r:=v.runs
 have z:=v.size
 have e:seg (arrOf st).toList 0 L.length=(arrOf st).toList:=by
  unfold seg
  rw[jq,zj (by rw[qH];omega)]
 rw[<-e]
 refine Qaf ?_ (by omega)
 rw[<-qH] at h
 match hp:(pendingOf st).toList,h,r with
 | [],_,r =>
   have:0=L.length:=r
   rw[<-this]
   exact fun i j hij hj=>by omega
 | [p],_,r =>
   have e2:0+p.2.1=L.length:=r.2.2.2
   rw[<-e2,gH]
   exact r.2.2.1
 | p :: q :: t,h,_=>exact absurd h (by simp)
theorem qX.ite{α:Type}{c:Prop}[Decidable c]{m m':StateT SortSt Sem α}{st:SortSt}{Q:α->SortSt->Prop}(a:c->qX X m st Q)(b:¬c->qX X m' st Q):qX X (if c then m else m') st Q:=by
 by_cases h:c
 .rw[qj h];exact a h
 .rw[ql h];exact b h
theorem Qdl{arr zJ:Array Keyed}{lo n:Nat}(e:∀k,lo<=k->zJ.toList[k]?=arr.toList[k]?)(u:UpK X arr lo n):UpK X zJ lo n:=fun i j hij hj=>by
 have:=u i j hij hj
 unfold kA at this ⊢
 rw[<-qC,<-qC,e _ (by omega),e _ (by omega),qC,qC]
 exact this
theorem K7{L:List Keyed}{st:SortSt}{Q:Unit->SortSt->Prop}(it:∀x∈L,X.It x)(hk:kindOf st=X.κ)(hf:failedOf st=none)(hp:pendingOf st=#[])(ha:(arrOf st).toList=L)
 (h:∀st',kindOf st'=X.κ->failedOf st'=none->(arrOf st').toList.Perm L->(arrOf st').toList.Pairwise X.le->Q () st'):qX X sortRuns' st Q:=by
 rw[sortRuns'_eq]
 refine qX.bind (qX.get ?_)
 dsimp only
 have zz:(arrOf st).size=L.length:=by rw[<-qH,ha]
 rw[zz]
 refine qX.bind (qX.mono (Q:=fun v st'=>v=(none,L.length)/\Z1 X L st' L.length) (qX.range (fun k v st'=>∃lo,v=(none,lo)/\min k L.length<=lo/\Z1 X L st' lo) ⟨0,rfl,by omega,hk,hf,by rw[ha],by rw[hp];rfl,qP _⟩ ?_ ?_) ?_)
 .rintro k v st' hkL ⟨lo,rfl,a1,v⟩
  have vl:=v.le
  have vz:=v.size
  dsimp only
  by_cases hge:lo>=L.length
  .rw[qj hge]
   have:lo=L.length:=by omega
   subst this
   exact qX.pure ⟨rfl,v⟩
  rw[ql hge]
  refine qX.bind (GS v.kind (v.it it) (by omega) (by omega) fun n Qm8 b1 b2 b3 b4=>?_)
  dsimp only
  have v1:=v.chg b3
  have vz1:=v1.size
  by_cases hn:n<minRun' L.length L.length 0
  .rw[qj hn]
   refine qX.bind (qX.rule ?_)
   obtain⟨n2,en⟩:∃n2,n2=min (L.length - lo) (minRun' L.length L.length 0):=⟨_,rfl⟩
   rw[<-en]
   refine qX.bind (W0 (st:=setArr st' Qm8) v1.kind (v1.it it) (by omega) (by omega) (by omega) b4 fun Qme d3 d4=>?_)
   rw[ql (by decide)]
   have v2:=v1.chg d3
   have n1:1<=n2:=by omega
   have n3:lo+n2<=L.length:=by omega
   clear b4
   have u2:UpK X (arrOf (setArr (setArr st' Qm8) Qme)) lo n2:=d4
   generalize setArr (setArr st' Qm8) Qme=st2 at v2 u2 ⊢
   refine qX.bind (qX.get ?_)
   cases eb:(pendingOf st2).back? with
   | none =>
     dsimp only
     refine qX.bind (qX.modify (qX.pure ?_))
     exact⟨lo+n2,rfl,by omega,v2.push n1 u2 n3⟩
   | some x =>
     obtain⟨s1,m1,p1⟩:=x
     dsimp only
     refine qX.bind (qX.mono (Q:=fun v st3=>v=(none,())/\Z1 X L st3 lo/\UpK X (arrOf st3) lo n2) (qX.range (fun _ v st3=>v=(none,())/\Z1 X L st3 lo/\UpK X (arrOf st3) lo n2) ⟨rfl,v2,u2⟩ ?_ ?_) ?_)
     .rintro k2 v3 st3 _ ⟨rfl,w1,w2⟩
      refine qX.bind (qX.get ?_)
      by_cases hs:(pendingOf st3).size > 1
      .rw[qj hs]
       obtain⟨⟨x1,x2,x3⟩,e⟩:∃x,(pendingOf st3)[(pendingOf st3).size - 2]?=some x:=⟨_,z6 (by omega)⟩
       rw[e]
       dsimp only
       refine qX.ite (fun _=>qX.pure ⟨rfl,w1,w2⟩) fun _=>qX.bind (Wc w1 it (by omega) fun st4 y1 y2 y3=>?_)
       rw[ql (by decide)]
       exact qX.pure ⟨rfl,y1,Qdl y2 w2⟩
      .rw[ql hs]
       exact qX.pure ⟨rfl,w1,w2⟩
     .exact fun v st3 hh=>hh
     .rintro v st3 ⟨rfl,w1,w2⟩
      dsimp only
      refine qX.bind (qX.modify (qX.bind (qX.modify (qX.pure ?_))))
      exact⟨lo+n2,rfl,by omega,(Z1.modp (i:=(pendingOf st3).size - 1) (f:=fun x=>(x.1,x.2.1,power' L.length (2*s1+m1) (2*s1+m1+m1+n2) L.length)) w1 (fun _=>rfl) (fun _=>rfl)).push n1 w2 n3⟩
  .rw[ql hn]
   have n3:lo+n<=L.length:=by omega
   have u2:UpK X (arrOf (setArr st' Qm8)) lo n:=b4
   have n1:=b1
   generalize setArr st' Qm8=st2 at v1 u2 ⊢
   refine qX.bind (qX.get ?_)
   cases eb:(pendingOf st2).back? with
   | none =>
     dsimp only
     refine qX.bind (qX.modify (qX.pure ?_))
     exact⟨lo+n,rfl,by omega,v1.push n1 u2 n3⟩
   | some x =>
     obtain⟨s1,m1,p1⟩:=x
     dsimp only
     refine qX.bind (qX.mono (Q:=fun v st3=>v=(none,())/\Z1 X L st3 lo/\UpK X (arrOf st3) lo n) (qX.range (fun _ v st3=>v=(none,())/\Z1 X L st3 lo/\UpK X (arrOf st3) lo n) ⟨rfl,v1,u2⟩ ?_ ?_) ?_)
     .rintro k2 v3 st3 _ ⟨rfl,w1,w2⟩
      refine qX.bind (qX.get ?_)
      by_cases hs:(pendingOf st3).size > 1
      .rw[qj hs]
       obtain⟨⟨x1,x2,x3⟩,e⟩:∃x,(pendingOf st3)[(pendingOf st3).size - 2]?=some x:=⟨_,z6 (by omega)⟩
       rw[e]
       dsimp only
       refine qX.ite (fun _=>qX.pure ⟨rfl,w1,w2⟩) fun _=>qX.bind (Wc w1 it (by omega) fun st4 y1 y2 y3=>?_)
       rw[ql (by decide)]
       exact qX.pure ⟨rfl,y1,Qdl y2 w2⟩
      .rw[ql hs]
       exact qX.pure ⟨rfl,w1,w2⟩
     .exact fun v st3 hh=>hh
     .rintro v st3 ⟨rfl,w1,w2⟩
      dsimp only
      refine qX.bind (qX.modify (qX.bind (qX.modify (qX.pure ?_))))
      exact⟨lo+n,rfl,by omega,(Z1.modp (i:=(pendingOf st3).size - 1) (f:=fun x=>(x.1,x.2.1,power' L.length (2*s1+m1) (2*s1+m1+m1+n) L.length)) w1 (fun _=>rfl) (fun _=>rfl)).push n1 w2 n3⟩
 .rintro v st' ⟨lo,rfl,a1,v⟩
  have vl:=v.le
  have:lo=L.length:=by omega
  subst this
  exact⟨rfl,v⟩
 .rintro v st' ⟨rfl,v⟩
  dsimp only
  refine qX.bind (qX.mono (Q:=fun v st2=>v=(none,())/\Z1 X L st2 L.length/\(pendingOf st2).size<=1) (qX.range (fun k v st2=>v=(none,())/\Z1 X L st2 L.length/\(pendingOf st2).size<=max 1 (L.length - k)) ⟨rfl,v,by have:=UI v.runs;rw[qH] at this;omega⟩ ?_ ?_) ?_)
  .rintro k v st2 hk ⟨rfl,w1,w2⟩
   refine qX.bind (qX.get ?_)
   by_cases hs:(pendingOf st2).size<=1
   .rw[qj hs]
    exact qX.pure ⟨rfl,w1,hs⟩
   .rw[ql hs]
    refine qX.bind (Wc w1 it ?_ fun st3 y1 y2 y3=>?_)
    .have key:∀(b:Bool),(if b=true then (pendingOf st2).size - 2 - 1 else (pendingOf st2).size - 2)+1<(pendingOf st2).size:=fun b=>by cases b <;> simp <;> omega
     exact key _
    .rw[ql (by decide)]
     exact qX.pure ⟨rfl,y1,by omega⟩
  .rintro v st2 ⟨rfl,w1,w2⟩
   exact⟨rfl,w1,by omega⟩
  .rintro v st2 ⟨rfl,w1,w2⟩
   dsimp only
   exact qX.pure (h st2 w1.kind w1.failed w1.pm (w1.one w2))
end
end L2
namespace L2
open PySem PySem.Spec PyProof.Rows
section
variable {prog:Program}{w:World}{A:Around}{E:QpL}{s:Shared}
theorem QeF{d e:KD}(hu:(∃n m,d=.inl n/\e=.inl m)\/(∃p q,d=.inr p/\e=.inr q))(h1:uy e d=false)(h2:uy d e=false):d=e:=by
 rcases hu with⟨n,m,rfl,rfl⟩ | ⟨p,q,rfl,rfl⟩
 .rw[Kp] at h1 h2
  have:=wM h1
  have:=wM h2
  rw[show n=m by omega]
 .exact zB _ (GG ((Z6 _ _).mp h1) ((Z6 _ _).mp h2))
theorem VJ{α:Type}{l:List α}{i:Nat}{d:α}(h:i<l.length):l.getD i d=l[i]:=by rw[zr,qe h];rfl
theorem Qb8{kl vs:QpM}(h:vs.length=kl.length):kl.zip vs=(List.range kl.length).map fun i=>(kl.getD i .none,vs.getD i .none):=by
 refine List.ext_getElem (by simp[h]) fun i h1 h2=>?_
 have hi:i<kl.length:=by simpa using h2
 rw[List.getElem_zip,List.getElem_map,QlN,VJ hi,VJ (by omega)]
theorem Qfq{κ:SortKind}{kl vs:QpM}{ds:List KD}(f:Value->KD)(hf:∀i,i<ds.length->f (kl.getD i .none)=ds.getD i (.inl 0))
 (asy:∀x y:Value,uy (f x) (f y)=true->uy (f y) (f x)=false) (neg:∀x y z:Value,uy (f x) (f y)=false->uy (f y) (f z)=false->uy (f x) (f z)=false)
 (hc:∀i j (C:Bool->Shared->Prop),i<ds.length->j<ds.length->C (uy (ds.getD i (.inl 0)) (ds.getD j (.inl 0))) s->W.kas_ask prog w A κ kl i j C s)
 (nd:ds.Nodup) (hu:KK ds) (lk:kl.length=ds.length) (lv:vs.length=ds.length) :
 wpAny (model prog w) A (sortRuns'.run (SortSt.mk' κ (kl.toArray.zip vs.toArray) #[] 7 none)) (fun r s'=>(arrOf r.2).map (fun x=>x.2)=((ZE ds).map fun i=>vs.getD i .none).toArray/\failedOf r.2=none/\s'=s) E s:=by
 have cmpX:∀x y:Keyed,(∃i,i<ds.length/\x=(kl.getD i .none,vs.getD i .none))->(∃i,i<ds.length/\y=(kl.getD i .none,vs.getD i .none))->∀s',s'=s->∀C:Bool->Shared->Prop,(∀s'',s''=s->C (uy (f x.1) (f y.1)) s'')->wpAny (model prog w) A (keyLt' κ x.1 y.1) C (fun _ _=>False) s':=by
  rintro x y ⟨i,hi,rfl⟩ ⟨j,hj,rfl⟩ s' rfl C k
  have:=k s' rfl
  dsimp only at this ⊢
  rw[hf i hi,hf j hj] at this
  exact hc i j C hi hj this
 let X:Zu:={ prog:=prog,w:=w,A:=A,E:=E,P:=fun s'=>s'=s,κ:=κ,lv:=fun x y=>uy (f x.1) (f y.1),It:=fun x=>∃i,i<ds.length/\x=(kl.getD i .none,vs.getD i .none),Qpy:=fun x y h=>asy _ _ h,neg:=fun x y z h1 h2=>neg _ _ _ h1 h2,cmp:=cmpX }
 have eL:(kl.toArray.zip vs.toArray).toList=(List.range ds.length).map fun i=>(kl.getD i .none,vs.getD i .none):=by
  rw[Array.toList_zip]
  show kl.zip vs=_
  rw[Qb8 (by omega),lk]
 have main:qX X sortRuns' (SortSt.mk' κ (kl.toArray.zip vs.toArray) #[] 7 none) fun _ st=>(arrOf st).map (fun x=>x.2)=((ZE ds).map fun i=>vs.getD i .none).toArray/\failedOf st=none:=by
  refine K7 (L:=(List.range ds.length).map fun i=>(kl.getD i .none,vs.getD i .none)) (fun x hx=>?_) rfl rfl rfl eL fun st' h1 h2 h3 h4=>⟨?_,h2⟩
  .obtain⟨i,hi,rfl⟩:=zq.mp hx
   exact⟨i,jK.mp hi,rfl⟩
  .have eq:(arrOf st').toList=(ZE ds).map fun i=>(kl.getD i .none,vs.getD i .none):=by
    refine YX (R:=X.le) (h3.trans ((ZH ds).symm.map _)) h4 ?_ ?_
    .rw[jX]
     refine yM ?_ (QbK hu)
     intro i j hi hj hh
     show uy (f (kl.getD j .none)) (f (kl.getD i .none))=false
     rw[hf i (jK.mp ((ZH ds).mem_iff.mp hi)),hf j (jK.mp ((ZH ds).mem_iff.mp hj))]
     exact hh
    .intro x hx y hy r1 r2
     obtain⟨i,hi,rfl⟩:=zq.mp (h3.mem_iff.mp hx)
     obtain⟨j,hj,rfl⟩:=zq.mp (h3.mem_iff.mp hy)
     have hi:=jK.mp hi
     have hj:=jK.mp hj
     have r1:uy (f (kl.getD j .none)) (f (kl.getD i .none))=false:=r1
     have r2:uy (f (kl.getD i .none)) (f (kl.getD j .none))=false:=r2
     rw[hf i hi,hf j hj] at r1 r2
     have e:ds.getD i (.inl 0)=ds.getD j (.inl 0):=QeF (by
      rcases hu with hu | hu
      .obtain⟨n,e1⟩:=hu _ (Zl (d:=.inl 0) hi)
       obtain⟨m,e2⟩:=hu _ (Zl (d:=.inl 0) hj)
       exact .inl ⟨n,m,e1,e2⟩
      .obtain⟨n,x,e1⟩:=hu _ (Zl (d:=.inl 0) hi)
       obtain⟨m,y,e2⟩:=hu _ (Zl (d:=.inl 0) hj)
       exact .inr ⟨_,_,e1,e2⟩) r1 r2
     rw[VJ hi,VJ hj] at e
     have:=(List.getElem_inj nd).mp e
     subst this
     rfl
   apply Array.ext'
   rw[Qjc,eq,zu]
   rfl
 have:=main s rfl (fun _ st s'=>((arrOf st).map (fun x=>x.2)=((ZE ds).map fun i=>vs.getD i .none).toArray/\failedOf st=none/\s'=s)) fun _ st' s' p q=>⟨q.1,q.2,p⟩
 exact this
end
end L2
namespace L2
open PySem PySem.Spec PyProof.Rows
section
variable {X:Cx}{pins:List (Addr×Obj)}{σ:St}{H:Hp}{s:Shared}{a:Addr}
def iOf:Value->Int
 | .int n _=>n
 | _=>0
def pOf(H:Hp):Value->Int×Str
 | .ref t=>match H t with
   | some (.tup [.int n,.str x])=>(n,x)
   | _=>(0,"")
 | _=>(0,"")
theorem QcV{A:Around}{E:QpL}{P:PySem.Fin->Shared->Prop}{st:SortSt}{kS:Addr}{kA:Array Value}{e e1:Nat}{ys:List V}{out:QpM}(I:Inv X pins σ H s)(oa:YB X pins a)(ok:YB X pins kS)(ne:kS≠a)(na:H a=none)(nk:H kS=none)
 (ea:s.heap.get? a=some (seqObj "list" #[] e1)) (ek:s.heap.get? kS=some (seqObj "list" kA e)) (h64:kA.size<1024) (ho:(arrOf st).map (·.2)=out.toArray) (hf:failedOf st=none) (rv:Qx ys out) (hz:ys.length<1024)
 (h:∀s',Inv X pins σ (upd H a (.lst ys)) s'->P (.done (.ret .none)) s'):wpAny (model X.prog X.w) A (ksk_tail a false e1 (.ref kS) st) P E s:=by
 have hzo:out.length=ys.length:=rv.length.symm
 have s1:=z8 s.heap kS (Obj.mapSeq fun _=>(#[]:Array Value))
 have ea1:(s.heap.update kS (Obj.mapSeq fun _=>(#[]:Array Value))).get? a=some (seqObj "list" #[] e1):=(s1.2 a ne.symm).trans ea
 have s2:=z8 (s.heap.update kS (Obj.mapSeq fun _=>(#[]:Array Value))) a (Obj.mapSeq fun _=>out.toArray)
 obtain⟨c2,hc2⟩:∃c2,((s.heap.update kS (Obj.mapSeq fun _=>(#[]:Array Value))).update a (Obj.mapSeq fun _=>out.toArray)).get? a=some (seqObj "list" out.toArray c2):=⟨_,wI ea1 fun _=>out.toArray⟩
 unfold ksk_tail
 try dsimp only
 refine qb (kj ek rfl ?_ (by rw[zU];omega) (qP _))
 refine qb (Qj1 ?_)
 refine qb (seqEpoch_at ea1 rfl ?_)
 simp only[zM,jD]
 rw[ho]
 refine qb (kj ea1 rfl ?_ (qP _) (by rw[qM,zU];omega))
 rw[hf]
 simp only[bne_self_eq_false,zM,jD]
 refine qx (h _ ?_)
 have I1:=I.vX (t':=s.toks) ok nk fun b u hb q=>(s1.2 b hb).trans q
 have I2:=I1.vX (t':=s.toks) oa na fun b u hb q=>(s2.2 b hb).trans q
 exact I2.adopt oa na ⟨by rw[zU];omega,out,c2,rv,hc2⟩
theorem QeO{A:Around}{E:QpL}{P:PySem.Fin->Shared->Prop}{kS:Addr}{kA:Array Value}{e e1:Nat}{xs ks:List V}{vs:QpM}{ds:List KD}(I:Inv X pins σ H s)(oa:YB X pins a)(ok:YB X pins kS)(ne:kS≠a)(na:H a=none)(nk:H kS=none)
 (ea:s.heap.get? a=some (seqObj "list" #[] e1)) (ek:s.heap.get? kS=some (seqObj "list" kA e)) (rx:Qx xs vs) (rk:Qx ks kA.toList) (hlx:xs.length=ds.length) (hlk:ks.length=ds.length) (hk:Uq H ks ds) (nd:ds.Nodup) (h64:ds.length<1024)
 (hu:(∀d∈ds,∃n,d=.inl n)\/(∀d∈ds,∃n x,d=.inr (n,x)))
 (h:∀s',Inv X pins σ (upd H a (.lst ((ZE ds).map fun i=>xs.getD i .non))) s'->P (.done (.ret .none)) s'):wpAny (model X.prog X.w) A (ksk_end a false vs.toArray e1 (.ref kS) kA) P E s:=by
 have lv:vs.length=ds.length:=by rw[<-rx.length];exact hlx
 have lk:kA.toList.length=ds.length:=by rw[<-rk.length];exact hlk
 have lk':kA.size=ds.length:=by rw[<-qH];exact lk
 have ekA:kA=kA.toList.toArray:=by rw[QkQ]
 have ro:Qx ((ZE ds).map fun i=>xs.getD i .non) ((ZE ds).map fun i=>vs.getD i .none):=VQ rx fun i hi=>by rw[hlx];exact jK.mp ((ZH ds).mem_iff.mp hi)
 have fin:∀st:SortSt,(arrOf st).map (·.2)=((ZE ds).map fun i=>vs.getD i .none).toArray->failedOf st=none->wpAny (model X.prog X.w) A (ksk_tail a false e1 (.ref kS) st) P E s:=fun st h1 h2 =>
  QcV I oa ok ne na nk ea ek (by omega) h1 h2 ro (by rw[qd,GL];exact h64) h
 unfold ksk_end
 try dsimp only
 simp only[zM,jD]
 by_cases h2:vs.toArray.size<2
 .rw[qj h2,qj h2]
  refine qb (qx ?_)
  rw[StateT.run_pure]
  refine qb (qx ?_)
  refine fin (SortSt.mk' general' (kA.zip vs.toArray) #[] 7 none) ?_ rfl
  rw[qM] at h2
  have e1:(ZE ds).map (fun i=>vs.getD i Value.none)=vs:=by
   unfold ZE
   rw[qj (by omega),<-lv]
   refine List.ext_getElem (by simp) fun i h1 h2=>?_
   simp only[List.getElem_map,QlN]
   rw[zr,qe h2]
   rfl
  rw[e1]
  show Array.map (fun x=>x.2) (kA.zip vs.toArray)=vs.toArray
  rw[show(fun x:Value×Value=>x.2)=Prod.snd from rfl]
  apply Array.ext'
  rw[Qjc,Array.toList_zip]
  exact List.map_snd_zip (by rw[lk];show vs.length<=_;omega)
 .rw[ql h2,ql h2]
  rw[qM] at h2
  have run:∀κ (f:Value->KD),(∀i,i<ds.length->f (kA.toList.getD i .none)=ds.getD i (.inl 0))->(∀x y:Value,uy (f x) (f y)=true->uy (f y) (f x)=false)->(∀x y z:Value,uy (f x) (f y)=false->uy (f y) (f z)=false->uy (f x) (f z)=false) ->
   (∀i j (C:Bool->Shared->Prop),i<ds.length->j<ds.length->C (uy (ds.getD i (.inl 0)) (ds.getD j (.inl 0))) s->W.kas_ask X.prog X.w A κ kA.toList i j C s) ->
   wpAny (model X.prog X.w) A (do
    let x <-sortRuns'.run (SortSt.mk' κ (kA.zip vs.toArray) #[] 7 none)
    ksk_tail a false e1 (.ref kS) x.2) P E s:=fun κ f hf asy neg hc=>by
   have big:=Qfq (E:=E) f hf asy neg hc nd hu lk lv
   rw[<-ekA] at big
   refine qb (jM big (fun r s' q=>?_) fun _ _ x=>x)
   obtain⟨q1,q2,rfl⟩:=q
   exact fin r.2 q1 q2
  rcases hu with hu | hu
  .rw[ksk_kind (WC rk hlk hk hu) (by omega)]
   refine qb (qx (run _ (fun v=>.inl (iOf v)) (fun i hi=>?_) (fun x y=>(Qap fun i=>if i=0 then iOf x else iOf y).asy 0 1) (fun x y z=>(Qap fun i=>if i=0 then iOf x else if i=1 then iOf y else iOf z).neg 0 1 2) fun i j C hi hj q=>?_))
   .obtain⟨k1,r1,o1⟩:=JT rk hlk hk hi
    obtain⟨n1,d1⟩:=hu _ (Zl (d:=.inl 0) hi)
    rw[d1] at o1 ⊢
    cases o1
    obtain⟨t1,z1⟩:=r1
    rw[z1]
    rfl
   obtain⟨k1,r1,o1⟩:=JT rk hlk hk hi
   obtain⟨k2,r2,o2⟩:=JT rk hlk hk hj
   obtain⟨n1,d1⟩:=hu _ (Zl (d:=.inl 0) hi)
   obtain⟨n2,d2⟩:=hu _ (Zl (d:=.inl 0) hj)
   rw[d1] at o1 q
   rw[d2] at o2 q
   cases o1
   cases o2
   obtain⟨t1,z1⟩:=r1
   obtain⟨t2,z2⟩:=r2
   show wpAny _ _ (keyLt' _ (kA.toList.getD i .none) (kA.toList.getD j .none)) _ _ _
   rw[z1,z2]
   exact W.kat_lt_int q
  .obtain⟨fs,k1,k2,k3⟩:=VS I rk hlk hk hu
   rw[ekA]
   refine qb (W.kat_kind (T:=.type "int") k1 (by omega) (fun v hv=>?_) (by decide) ?_)
   .obtain⟨n,t,rfl⟩:=k3 v hv
    exact fun A Q E s _ q=>qx q
   rw[<-ekA]
   refine run _ (fun v=>.inr (pOf H v)) (fun i hi=>?_) (fun x y=>(Qao fun i=>if i=0 then pOf H x else pOf H y).asy 0 1) (fun x y z=>(Qao fun i=>if i=0 then pOf H x else if i=1 then pOf H y else pOf H z).neg 0 1 2) fun i j C hi hj q=>?_
   .obtain⟨k1,r1,o1⟩:=JT rk hlk hk hi
    obtain⟨n1,x1,d1⟩:=hu _ (Zl (d:=.inl 0) hi)
    rw[d1] at o1 ⊢
    obtain⟨t1,rfl,g1⟩:=o1
    rw[UJ r1]
    show inr (pOf H (.ref t1))=_
    unfold pOf
    dsimp only
    rw[g1]
   obtain⟨k1,r1,o1⟩:=JT rk hlk hk hi
   obtain⟨k2,r2,o2⟩:=JT rk hlk hk hj
   obtain⟨n1,x1,d1⟩:=hu _ (Zl (d:=.inl 0) hi)
   obtain⟨n2,x2,d2⟩:=hu _ (Zl (d:=.inl 0) hj)
   rw[d1] at o1 q
   rw[d2] at o2 q
   obtain⟨t1,rfl,g1⟩:=o1
   obtain⟨t2,rfl,g2⟩:=o2
   have z1:=UJ r1
   have z2:=UJ r2
   show wpAny _ _ (keyLt' _ (kA.toList.getD i .none) (kA.toList.getD j .none)) _ _ _
   rw[z1,z2]
   exact Qbt I g1 g2 q
theorem XI{k:Nat}{f:Addr}{fd:FuncData}{p:Str}{sp:Sp}{E:QpL}{P:PySem.Fin->Shared->Prop}{kS:Addr}{e1:Nat}{xs:List V}{vs:QpM}{ds:List KD}(F:QH X.prog X.w X.K X.mg X.base vV k f fd [p] sp)(hr:Qv k X.A.in1.in1)(hb:Qw X.K fd [p] [])
 (I:Inv X pins σ H s) (oa:YB X pins a) (ok:YB X pins kS) (ne:kS≠a) (na:H a=none) (nk:H kS=none)
 (ea:s.heap.get? a=some (seqObj "list" #[] e1)) (ek:s.heap.get? kS=some (seqObj "list" #[] 0)) (rx:Qx xs vs) (hlx:xs.length=ds.length) (nd:ds.Nodup) (h64:ds.length<1024)
 (hu:(∀d∈ds,∃n,d=.inl n)\/(∀d∈ds,∃n x,d=.inr (n,x)))
 (hk:∀(i:Nat) x d,xs[i]?=some x->ds[i]?=some d->∀G,Qi H G->sp [x] G (fun k G'=>Qi G G'/\KOk G' k d) E0)
 (h:∀G s',Qi H G->G a=none->Inv X pins σ (upd G a (.lst ((ZE ds).map fun i=>xs.getD i .non))) s'->P (.done (.ret .none)) s') :
 wpAny (model X.prog X.w) X.A.in1.in1 (ksk_rest a (.ref f) false vs.toArray e1 (.ref kS)) P E s:=by
 have lv:vs.length=ds.length:=by rw[<-rx.length];exact hlx
 unfold ksk_rest
 refine qb (wpAny_rule ?_)
 first
  | rw[List.forIn_toArray]
  | (rw[<-Qig];simp only[List.toList_toArray])
  | rw[<-Qig]
 refine qb (ksk_fold (fun i s'=>∃(G:Hp)(kA:Array Value)(e:Nat)(ks:List V),Inv X pins σ G s'/\Qi H G/\G a=none/\G kS=none/\s'.heap.get? a=some (seqObj "list" #[] e1)/\s'.heap.get? kS=some (seqObj "list" kA e)/\Qx ks kA.toList/\ks.length=i/\Uq G ks ds) vs 0 s
  ⟨H,#[],0,[],I,Qi.refl _,na,nk,ea,ek,.nil,rfl,fun i k d z=>by simp at z⟩ ?step ?done)
 case step =>
  rintro j x s' hx ⟨G,kA,e,ks,J,sG,ga,gk,ha',hk',rk,hl,hks⟩
  simp only[gH] at hl ⊢
  have hj:j<ds.length:=by have:=(qi.mp hx).1;omega
  obtain⟨xv,hxv,rxv⟩:=Vy rx hx
  obtain⟨d,hd⟩:∃d,ds[j]?=some d:=⟨_,qe hj⟩
  have J':Inv X (pins++[(a,seqObj "list" #[] e1),(kS,seqObj "list" kA e)]) σ G s':=J.uT fun p hp=>by
   rcases qF.mp hp with hp | hp
   .exact J.pin p (qO _ hp)
   .rcases qR.mp hp with rfl | hp
    .exact⟨ha',ga,oa.loc,oa.fs,fun v z=>nomatch z⟩
    .rw[qg.mp hp]
     exact⟨hk',gk,ok.loc,ok.fs,fun v z=>nomatch z⟩
  have hz:kA.size=j:=by rw[<-qH,<-rk.length];exact hl
  refine qb (gF (jM (GI (E:=fun _ _=>False) F hr hb J' rxv (hk j xv d hxv hd G sG)) (fun v s'' he=>?_) fun _ _ hF=>hF.elim))
  obtain⟨kv,G',J2,rkv,sG',okv⟩:=he
  try dsimp only
  have pa:=J2.pin (a,seqObj "list" #[] e1) (qO _ (qO _ (.head _)))
  have pk:=J2.pin (kS,seqObj "list" kA e) (qO _ (qO _ (.tail _ (.head _))))
  have s1:=z8 s''.heap kS (Obj.mapSeq (·.push v))
  obtain⟨c2,hc2⟩:∃c2,(s''.heap.update kS (Obj.mapSeq (·.push v))).get? kS=some (seqObj "list" (kA.push v) c2):=⟨_,wI pk.1 (·.push v)⟩
  have ea':(kA.push v).toList=kA.toList++[v]:=by simp
  refine qb (kj pk.1 rfl ?_ (by rw[zU];omega) (zf (Nat.le_of_eq (Array.size_push ..)) (by rw[zU];omega)))
  have J3:Inv X pins σ G' s'':=J2.uT fun p hp=>J2.pin p (qO _ (zA _ hp))
  refine qx ⟨rfl,G',kA.push v,c2,ks++[kv],J3.vX (t':=s''.toks) ok pk.2.1 (fun b u hb q=>(s1.2 b hb).trans q),sG.trans sG',pa.2.1,pk.2.1,(s1.2 a ne.symm).trans pa.1,hc2,by rw[ea'];exact rk.append (.cons rkv .nil),by rw[qy,hl];rfl,fun i k d' z1 z2=>?_⟩
  by_cases hi:i<ks.length
  .rw[zH hi] at z1
   exact(hks i k d' z1 z2).mono sG'
  .have hij:i=j:=by
    have:=(qi.mp z1).1
    rw[qy,zV] at this
    omega
   subst hij
   rw[zQ (by omega),hl,QgR] at z1
   cases z1
   rw[hd] at z2
   cases z2
   exact okv
 case done =>
  rintro s' ⟨G,kA,e,ks,J,sG,ga,gk,ha',hk',rk,hl,hks⟩
  try dsimp only
  refine qb (listItems_at hk' rfl ?_)
  exact QeO J oa ok ne ga gk ha' hk' rx rk hlx (by omega) hks nd h64 hu fun s'' J'=>h G s'' sG ga J'
end
inductive Xb(K:Frag)(sp:Sp)(Q:VK)(x:V)(H:Hp):Prop
 | mk:∀(l:Addr)(xs:List V)(ds:List KD),x=.ref l->jk K H l xs->xs.length=ds.length->ds.Nodup->ds.length<1024->((∀d∈ds,∃n,d=.inl n)\/(∀d∈ds,∃n x,d=.inr (n,x))) ->
    (∀(i:Nat) x d,xs[i]?=some x->ds[i]?=some d->∀G,Qi H G->sp [x] G (fun k G'=>Qi G G'/\KOk G' k d) E0) ->
    (∀a G,H a=none->Qi H G->G a=some (.lst ((ZE ds).map fun i=>xs.getD i .non))->Q (.ref a) G)->Xb K sp Q x H
def QfB(K:Frag)(sp:Sp)(te:TE):TE:=fun σ H Q=>te σ H fun x H1=>Xb K sp Q x H1
theorem XA{X:Cx}{e:Expr}{te:TE}{k:Nat}{f:Addr}{g p:Str}{fd:FuncData}{sp:Sp}{p0 gp pos kp:Pos}(F:QH X.prog X.w X.K X.mg X.base vV k f fd [p] sp)(hr:Qv (k+2) X.A)(hg:Gl X "sorted")(hm:X.mg "sorted"=none)(hgf:Gl X g)(hmf:X.mg g=some (.ref f))(hb:Qw X.K fd [p] [])(ha:PE X e te)
 (hdb:(g == ("__debug__":Str))=false:=by decide) (he:starEach [e] X.env=[(false,eval e X.env)]:=by rfl) :
 PE X (.Call (.Name "sorted" p0) [e] [⟨some "key",.Name g gp,kp⟩] pos) (QfB X.K sp te):=by
 intro pins s σ H Q I h
 refine jC (Yr I hg hm boot_sorted ?_ (by decide) (by decide))
 refine callWith_kw ?_ (by rw[he];rfl) (by rw[he];rfl) (by rfl) (by rfl)
 rw[he]
 show wpAny _ _ (spliced ((false,eval e X.env) :: backTo pos [])) _ _ s
 refine yH (j0 (ha pins s σ H _ I h) fun u s1 ⟨x,H1,I1,r1,q1⟩=>vP ?_)
 obtain⟨l,xs,ds,rfl,hl,hlx,nd,h64,hu,hk,q⟩:=q1
 cases r1
 refine kws_cons (Jn I1 hgf hmf (kws_nil ?_) hdb)
 show wpAny _ _ (call (.builtin "sorted") [.ref l] [(Str.ofString "key",.ref f)]) _ _ s1
 obtain⟨vs,rv,pl,_⟩:=I1.list hl
 have lv:vs.length=ds.length:=by rw[<-rv.length];exact hlx
 refine call_function_entry_kw kind_sorted plain_sorted entry_sorted (ksk_s1 _ _) ?_
 unfold Builtin.«sorted»
 refine qb (m:=checkCount "sorted" 1 1 _) (qx ?_)
 refine qb (collect_list pl.isList ?_ (by rw[zU];omega))
 refine qb (QhK ?_ (by rw[zU];omega))
 have hsz:((s1.heap.push (seqObj "list" #[] 0)).update s1.heap.objs.size (Obj.mapSeq (·++vs.toArray))).objs.size=s1.heap.objs.size+1:=by
  rw[yF,size_push']
 have hoL:(((s1.heap.push (seqObj "list" #[] 0)).update s1.heap.objs.size (Obj.mapSeq (·++vs.toArray))).push (seqObj "list" vs.toArray 0)).get? (s1.heap.objs.size+1)=some (seqObj "list" vs.toArray 0):=by
  rw[<-hsz];exact qN _ rfl
 have keep:∀b o,s1.heap.get? b=some o->(((s1.heap.push (seqObj "list" #[] 0)).update s1.heap.objs.size (Obj.mapSeq (·++vs.toArray))).push (seqObj "list" vs.toArray 0)).get? b=some o:=fun b o q=>by
  have hlt:b<s1.heap.objs.size:=qT q
  rw[Qj2 _ _ _ (by rw[hsz];exact zp (gJ hlt)),Heap.get?_update_ne _ _ _ _ (zp hlt),Qj2 _ _ _ (zp hlt)]
  exact q
 have oa:YB X pins (s1.heap.objs.size+1):=I1.ours (yo _)
 have na:H1 (s1.heap.objs.size+1)=none:=I1.hok.fresh (yo _)
 have I2:Inv X pins σ H1 { s1 with heap:=((s1.heap.push (seqObj "list" #[] 0)).update s1.heap.objs.size (Obj.mapSeq (·++vs.toArray))).push (seqObj "list" vs.toArray 0) }:=I1.kept (t':=s1.toks) keep
 show wpAny _ _ _ _ _ { s1 with heap:=((s1.heap.push (seqObj "list" #[] 0)).update s1.heap.objs.size (Obj.mapSeq (·++vs.toArray))).push (seqObj "list" vs.toArray 0) }
 rw[hsz]
 generalize ((s1.heap.push (seqObj "list" #[] 0)).update s1.heap.objs.size (Obj.mapSeq (·++vs.toArray))).push (seqObj "list" vs.toArray 0)=g2 at hoL I2 ⊢
 generalize s1.heap.objs.size+1=a at hoL oa na ⊢
 clear keep hsz
 refine qb (jP (wpAny_call_entry_kw slot_list_sort ⟨_,hoL,rfl⟩ entry_list_sort ?body (ksk_l1 _ _)))
 case body =>
  show wpAny (model X.prog X.w) X.A.in1.in1 (Builtin.«list.sort» ⟨[.ref a],[(Str.ofString "key",.ref f)]⟩) _ _ _
  rw[ksk_t1]
  have ha:a<g2.objs.size:=qT hoL
  have s2:=z8 g2 a (Obj.mapSeq fun _=>(#[]:Array Value))
  obtain⟨e1,ho1⟩:∃e1,(g2.update a (Obj.mapSeq fun _=>(#[]:Array Value))).get? a=some (seqObj "list" #[] e1):=⟨_,wI hoL fun _=>#[]⟩
  have I3:Inv X pins σ H1 { s1 with heap:=g2.update a (Obj.mapSeq fun _=>(#[]:Array Value)) }:=I2.vX (t':=s1.toks) oa na fun b u hb q=>(s2.2 b hb).trans q
  have hkS:((g2.update a (Obj.mapSeq fun _=>(#[]:Array Value))).push (seqObj "tuple" vs.toArray 0)).objs.size=g2.objs.size+1:=by rw[size_push',yF]
  unfold ksk_tree
  refine qb (listItems_at hoL rfl ?_)
  refine qb (kj hoL rfl ?_ (by rw[qM,zU];omega) (qP _))
  refine qb (seqEpoch_at ho1 rfl ?_)
  refine qb (wpAny_newTuple ?_ (by show vs.length<=_;rw[zU];omega))
  refine qb (QhK ?_ (qP _))
  refine jP ?_
  have k4:∀b o,(g2.update a (Obj.mapSeq fun _=>(#[]:Array Value))).get? b=some o->(((g2.update a (Obj.mapSeq fun _=>(#[]:Array Value))).push (seqObj "tuple" vs.toArray 0)).push (seqObj "list" #[] 0)).get? b=some o:=fun b o q=>qw _ (qw _ q)
  have I4:Inv X pins σ H1 { s1 with heap:=((g2.update a (Obj.mapSeq fun _=>(#[]:Array Value))).push (seqObj "tuple" vs.toArray 0)).push (seqObj "list" #[] 0) }:=I3.kept (t':=s1.toks) k4
  have lk:(g2.update a (Obj.mapSeq fun _=>(#[]:Array Value))).objs.size<=((g2.update a (Obj.mapSeq fun _=>(#[]:Array Value))).push (seqObj "tuple" vs.toArray 0)).objs.size:=by rw[hkS,yF];exact yo _
  refine XI (H:=H1) F (hr.in1.in1) hb I4 oa (I3.ours lk) (by rw[hkS];exact vM (gJ ha)) na (I3.hok.fresh lk) (k4 _ _ ho1) (qN _ rfl) rv hlx nd h64 hu hk fun G s' sG ga J=>⟨_,rfl,qx ⟨_,rfl,.ref a,_,J,rfl,q a _ na ?_ Qf⟩⟩
  exact fun b o e=>by rw[Qj (Qd e na)];exact sG b o e
end L2
namespace L2
open PySem PySem.Spec PyProof.Rows
inductive Xx(x:V)(vs:List V)(H:Hp)(Q:VK):Prop
 | mk:∀(a:Addr)(kvs:List (Key×V)),x=.ref a->vs=[]->H a=some (.dK kvs)->Q .non (upd H a (.dK []))->Xx x vs H Q
def Qf4:V->List V->Hp->VK->Prop:=fun x vs H Q=>Xx x vs H Q
theorem QcN{X:Cx}:MtM X "dict.clear" Qf4:=by
 intro pins s σ H x vs v us Q I rx rv h
 obtain⟨a,kvs,rfl,rfl,e,q⟩:=h
 cases rx
 have hus:=rv.zero
 subst hus
 obtain⟨z,hd,ws,rel,dd⟩:=Qhc I.hok e
 refine Qlk PySem.F.slot_dict_clear dd.typeIs PySem.F.entry_dict_clear (PySem.F.args_dict_clear_1 _) (meets_dict_clear (QW X.prog X.w) a) ⟨ws,dd,by rw[<-rel.length];exact z,fun h' dd' hs=>⟨.non,_,?_,rfl,q⟩⟩
 have he:∃q,h'.get? a=some q:=let ⟨q,_,_,hq,_⟩:=dd';⟨q,hq⟩
 exact KA I (by rw[e];exact True.intro) hs he (Qff (qP _) hd .nil dd')
end L2
namespace L2
open PySem PySem.Spec PyProof.Rows
section
variable {prog:Program}{w:World}{A:Around}{E:QpL}{s:Shared}{d it r:Addr}{es:Array DictEntry}{ep i:Nat}
theorem Qcn(d:Addr)(hd:(d == sysModules)=false)(es:Array DictEntry)(ep:Nat):MeetsIn prog w (Builtin.«dict.values» ⟨[.ref d],[]⟩) (fun _ R s=>QX s.heap d es ep/\R (.ok (.ret (.ref s.heap.objs.size))) { s with heap:=s.heap.push { cls:=.type "dict_values",data:=.fields #[.ref d] } }):=.of_wp fun A R s ⟨hm,h⟩=>by
 refine qb ?_
 unfold Builtin.Dict.noArgs
 refine qb (wpAny_notOrdered_dict hm.ty (show wpAny _ _ (pure d) _ _ s from qx ?_))
 show wpAny _ _ (Builtin.Dict.showsAll d >>= _) _ _ s
 unfold Builtin.Dict.showsAll
 rw[ql (by rw[hd];exact q8)]
 exact qb (qx (qb (jN (qx ⟨_,rfl,h⟩))))
theorem Qcl{Q:QpL}(hv:s.heap.IsValuesView r d)(hm:QX s.heap d es ep)
 (hQ:Q (.ref s.heap.objs.size) { s with heap:=s.heap.push { cls:=.type "dict_valueiterator",data:=.fields #[.ref d,.int 0 0,.int es.size 0,.int ep 0] } }):wpAny (model prog w) A (pyIter (.ref r)) Q E s:=by
 obtain⟨ov,hov,hcv,hdv⟩:=id hv
 obtain⟨o,ho,_,hdat⟩:=hm
 refine wpAny_pyIter_slot hv.typeIs F.slot_dict_values_iter (wL F.slot_dict_values_iter hv.typeIs F.entry_dict_values_iter ?_ (F.args_dict_values_iter_1 _))
 unfold Builtin.«dict_values.__iter__»
 refine qb (qx (qb ?_))
 unfold Builtin.Dict_items.dictOf
 refine qb (wpAny_field hov hdv (x:=.ref d) rfl (qx (qb ?_)))
 unfold Builtin.Dict_items.newIterator
 refine qb (vQ ho hdat (qb (gY ho hdat ?_)))
 simp only[show Builtin.Dict_items.ownsTuple "dict_valueiterator"=false by decide,zM,jD]
 exact jN (qx ⟨_,rfl,"dict_valueiterator",_,⟨_,qN _ rfl,rfl⟩,yj.lookup,by simpa[rawInt] using hQ⟩)
theorem Qcm{Q:Option Value->Shared->Prop}(hit:s.heap.IsValIter it d i es.size ep)(hm:QX s.heap d es ep){en:DictEntry}(hx:es[i]?=some en)
 (hQ:∀h',h'.IsValIter it d (i+1) es.size ep->Heap.SameBut it s.heap h'->Q (some en.val) { s with heap:=h' }):wpAny (model prog w) A (pyNext (.ref it)) Q E s:=by
 obtain⟨o,ho,hc,hd⟩:=id hit
 obtain⟨od,hod,_,hdd⟩:=hm
 unfold pyNext
 refine qb (gF (uw (name:=Str.ofString "__next__") hit.typeIs yj (wL yj hit.typeIs F.entry_dict_valueiterator_next ?_ (F.args_dict_valueiterator_next_1 _))))
 refine qb (qx (qb (qb ?_)))
 first | refine qb (km hit.typeIs (qx (qb (uF ho hd ?_)))) | refine qb (gK hit.typeIs (qx (qb (uF ho hd ?_))))
 simp only[show Builtin.Dict_items.ownsTuple "dict_valueiterator"=false by decide,zM,jD]
 show wpAny _ _ (if (Value.ref d == Value.none)=true then _ else _) _ _ s
 rw[ql (show ¬((Value.ref d == Value.none)=true) from q8)]
 refine qb (qx (qb (vQ hod hdd ?_)))
 rw[ql (by simp)]
 refine qb (qx (qb (gY hod hdd ?_)))
 rw[ql (by simp)]
 refine qx ?_
 simp only[show ¬((i:Int)<0) from by omega,jD,xZ,hx]
 refine qb ?_
 first | refine qb (km hit.typeIs (qx (qb (Qgh hit.typeIs ?_)))) | refine qb (gK hit.typeIs (qx (qb (Qgh hit.typeIs ?_))))
 show wpAny _ _ (setField (.ref it) 1 (rawInt ((i:Int)+1)) >>= _) _ _ s
 refine qb (wpAny_setField ho hd (by simp) ?_)
 have hit':(s.heap.update it (Obj.mapFields (·.setIfInBounds 1 (rawInt ((i:Int)+1))))).IsValIter it d (i+1) es.size ep:=⟨_,vN _ ho (Obj.isFreed_of_fields (Qja hd _)),(Obj.cls_mapFields ..).trans hc,by rw[Qja hd];simp[rawInt]⟩
 refine qb (jP (qb (Qgh (s:={ s with heap:=s.heap.update it (Obj.mapFields (·.setIfInBounds 1 (rawInt ((i:Int)+1)))) }) hit'.typeIs (qb (Qgh (s:={ s with heap:=s.heap.update it (Obj.mapFields (·.setIfInBounds 1 (rawInt ((i:Int)+1)))) }) hit'.typeIs ?_)))))
 show wpAny _ _ (pure en.val) _ _ _
 exact qx (qx ⟨_,rfl,qx (hQ _ hit' (z8 ..))⟩)
theorem QdR{Q:Option Value->Shared->Prop}(hh:A.handled=none)(hit:s.heap.IsValIter it d i es.size ep)(hm:QX s.heap d es ep)(hx:es.size<=i)
 (hQ:∀h',Heap.ExtBut it s.heap h'->Q none { s with heap:=h' }):wpAny (model prog w) A (pyNext (.ref it)) Q E s:=by
 obtain⟨o,ho,hc,hd⟩:=id hit
 obtain⟨od,hod,_,hdd⟩:=hm
 unfold pyNext
 refine qb (gF (uw (name:=Str.ofString "__next__") hit.typeIs yj (wL yj hit.typeIs F.entry_dict_valueiterator_next ?_ (F.args_dict_valueiterator_next_1 _))))
 refine qb (qx (qb (qb ?_)))
 first | refine qb (km hit.typeIs (qx (qb (uF ho hd ?_)))) | refine qb (gK hit.typeIs (qx (qb (uF ho hd ?_))))
 simp only[show Builtin.Dict_items.ownsTuple "dict_valueiterator"=false by decide,zM,jD]
 show wpAny _ _ (if (Value.ref d == Value.none)=true then _ else _) _ _ s
 rw[ql (show ¬((Value.ref d == Value.none)=true) from q8)]
 refine qb (qx (qb (vQ hod hdd ?_)))
 rw[ql (by simp)]
 refine qb (qx (qb (gY hod hdd ?_)))
 rw[ql (by simp)]
 refine qx ?_
 simp only[show ¬((i:Int)<0) from by omega,jD,xZ,xF hx]
 refine qb ?_
 first | refine qb (km hit.typeIs (qx ?_)) | refine qb (gK hit.typeIs (qx ?_))
 show wpAny _ _ (setField (.ref it) 0 .none >>= _) _ _ s
 refine qb (wpAny_setField ho hd (by simp) (show wpAny _ _ (newExc (.type "StopIteration") [] >>= _) _ _ _ from qb ?_))
 simp only[newExc,newTuple]
 refine qb (jN (qb (m:=firstArgMember _ _) (wpAny_of_eq (a:=Value.none) (by first | rfl | (simp only[firstArgMember];rfl)) (jN ?_ (by size_fits)))) (by size_fits))
 simp only[raiseNew]
 refine qb (wpAny_handled ?_)
 rw[show A.in1.handled=none from hh]
 refine qb (qx (wpAny_throw ?_))
 refine qb (wpAny_isInstance (T:="StopIteration") (b:=true) ⟨_,qN _ rfl,rfl⟩ isSubtype_stop ?_)
 exact qx (hQ _ (((z8 ..).extBut.push _).push _))
theorem QdQ:KdlSrc prog w "dict_values" r d es.size (fun i v=>∃en,es[i]?=some en/\v=en.val) (fun h=>h.IsValuesView r d/\QX h d es ep) where
 type:=fun _ hm=>hm.1.typeIs
 there:=fun _ hm=>⟨let ⟨_,ho,_⟩:=hm.1;qT ho,hm.2.lt⟩
 keep:=fun _ _ hm hk=>⟨let ⟨o,ho,x⟩:=hm.1;⟨o,hk r (.inl rfl) o ho,x⟩,hm.2.at fun o e=>hk d (.inr rfl) o e⟩
 notList:=by decide
 notTuple:=by decide
 hint:=fun _ _ _ _ hm hq=>PySem.W.kdl_hint_values hm.1.typeIs hq
 iter:=fun A s hh hm=>⟨_,fun i h=>h.IsValIter s.heap.objs.size d i es.size ep/\QX h d es ep,(fun _ _ hq=>Qcl hm.1 hm.2 hq),{
  sub:=fun b hb=>by simp at hb;simp[hb]
  frame:=fun _ _ _ st hk=>⟨let ⟨o,e,c⟩:=st.1;⟨o,hk _ (by simp) o e,c⟩,st.2.at fun o e=>hk d (by simp) o e⟩
  item:=fun i s2 Q E hi st hQ=>by
   have hx:es[i]?=some es[i]:=z6 hi
   refine Qcm st.1 st.2 hx fun h' hit' hs'=>?_
   exact hQ _ h' s2.toks ⟨_,hx,rfl⟩ ⟨hit',st.2.at fun o e=>hs'.extBut d o (zp hm.2.lt) e⟩ fun b o hb e=>hs'.extBut b o (fun h=>hb (by simp[h])) e
  done:=fun s2 Q E st hQ=>QdR hh st.1 st.2 (qp _) fun h' he'=>hQ h' s2.toks fun b o hb e=>he' b o (fun h=>hb (by simp[h])) e
  self:=fun _ _ _ _ st hQ=>wpAny_pyIter_valiter st.1 hQ },⟨⟨_,qN _ rfl,rfl,rfl⟩,hm.2.at fun _ e=>qw _ e⟩⟩
end
theorem Qgw{H:Hp}{kvs:List (List Key×V)}{xs:List (List Key×Addr×Value)}(r:KT H kvs xs):Qx (kvs.map (·.2)) (xs.map (·.2.2)):=by
 induction r with
 | nil=>exact .nil
 | cons h _ ih=>exact .cons h.2.2 ih
theorem QfY{P:Program}{w:World}{H:Hp}{h:Heap}{a:Addr}{kvs:List (List Key×V)}(ok:QG P w H h a (.dT kvs)) :
 (a == sysModules)=false/\∃(vs:QpM)(es:Array DictEntry)(ep:Nat),Qx (kvs.map (·.2)) vs/\QX h a es ep/\es.toList.map (·.val)=vs:=by
 obtain⟨z,y,xs,r,o,es,ep,h1,h2,h3,h4,_⟩:=ok
 refine⟨y,xs.map (·.2.2),es,ep,Qgw r,⟨o,h1,h2,h3⟩,?_⟩
 rw[h4,zu]
 rfl
inductive Xa(sp:Sp)(Q:VK)(x:V)(H:Hp):Prop
 | mk:∀(d:Addr)(kvs:List (List Key×V))(ds:List KD),x=.ref d->H d=some (.dT kvs)->kvs.length=ds.length->ds.Nodup->ds.length<1024->((∀d∈ds,∃n,d=.inl n)\/(∀d∈ds,∃n x,d=.inr (n,x))) ->
    (∀(i:Nat) x d,(kvs.map (·.2))[i]?=some x->ds[i]?=some d->∀G,Qi H G->sp [x] G (fun k G'=>Qi G G'/\KOk G' k d) E0) ->
    (∀a G,H a=none->Qi H G->G a=some (.lst ((ZE ds).map fun i=>(kvs.map (·.2)).getD i .non))->Q (.ref a) G)->Xa sp Q x H
def QfA(sp:Sp)(te:TE):TE:=fun σ H Q=>te σ H fun x H1=>Xa sp Q x H1
theorem Qcs{X:Cx}{o:Expr}{te:TE}{k:Nat}{f:Addr}{g p:Str}{fd:FuncData}{sp:Sp}{p0 gp pos kp apos cpos:Pos}(hc:X.calm=true)(F:QH X.prog X.w X.K X.mg X.base vV k f fd [p] sp)(hr:Qv (k+2) X.A)(hg:Gl X "sorted")(hm:X.mg "sorted"=none)(hgf:Gl X g)(hmf:X.mg g=some (.ref f))(hb:Qw X.K fd [p] [])(ha:PE X o te)
 (hbase:attributeBase o "values" X.env (eval o X.env)=eval o X.env:=by rfl) (hline:(apos.endLine == cpos.line)=true:=by rfl) (hdb:(g == ("__debug__":Str))=false:=by decide) (he:starEach [.Call (.Attribute o "values" apos) [] [] cpos] X.env=[(false,eval (.Call (.Attribute o "values" apos) [] [] cpos) X.env)]:=by rfl) :
 PE X (.Call (.Name "sorted" p0) [.Call (.Attribute o "values" apos) [] [] cpos] [⟨some "key",.Name g gp,kp⟩] pos) (QfA sp te):=by
 intro pins s σ H Q I h
 refine jC (Yr I hg hm boot_sorted ?_ (by decide) (by decide))
 refine callWith_kw ?_ (by rw[he];rfl) (by rw[he];rfl) (by rfl) (by rfl)
 rw[he]
 show wpAny _ _ (spliced ((false,eval (.Call (.Attribute o "values" apos) [] [] cpos) X.env) :: backTo pos [])) _ _ s
 refine yH (QkO hbase hline (j0 (ha pins s σ H _ I h) fun u s1 ⟨x,H1,I1,r1,q1⟩=>?_))
 obtain⟨d,kvs,ds,rfl,hd,hlx,nd,h64,hu,hk,q⟩:=q1
 cases r1
 obtain⟨t1,t2,_⟩:=QaW I1 (.inr ⟨kvs,.inl hd⟩)
 obtain⟨hlo,vs,es,ep,rv,hraw,hval⟩:=QfY (show QG X.prog X.w H1 s1.heap d (.dT kvs) from I1.hok d _ hd)
 refine⟨"dict","dict.values",plainAttrs_dict,slot_dict_values,PySem.F.type_dict_values,t1,t2,kE rfl (Qlj ?_)⟩
 refine Qlk slot_dict_values t1 PySem.F.entry_dict_values (PySem.F.args_dict_values_1 _) (Qcn d hlo es ep) ⟨hraw,?_⟩
 have rx:(kvs.map (·.2)).length=ds.length:=by rw[qd];exact hlx
 have lv:vs.length=ds.length:=by rw[<-rv.length];exact rx
 have I2:Inv X pins σ H1 { s1 with heap:=s1.heap.push { cls:=.type "dict_values",data:=.fields #[.ref d] } }:=I1.kept (t':=s1.toks) fun b o e=>qw _ e
 have vw:(s1.heap.push { cls:=.type "dict_values",data:=.fields #[.ref d] }).IsValuesView s1.heap.objs.size d:=⟨_,qN _ rfl,rfl,rfl⟩
 have Qot:QX (s1.heap.push { cls:=.type "dict_values",data:=.fields #[.ref d] }) d es ep:=hraw.at fun o e=>qw _ e
 refine vP ?_
 refine kws_cons (Jn I2 hgf hmf (kws_nil ?_) hdb)
 show wpAny _ _ (call (.builtin "sorted") [.ref s1.heap.objs.size] [(Str.ofString "key",.ref f)]) _ _ _
 generalize s1.heap.push { cls:=.type "dict_values",data:=.fields #[.ref d] }=hp at I2 vw Qot ⊢
 generalize s1.heap.objs.size=vr at vw ⊢
 have hh:X.A.in1.handled=none:=I.ok.hd hc
 have hsz:es.size=vs.length:=by rw[<-hval,qd,qH]
 refine call_function_entry_kw kind_sorted plain_sorted entry_sorted (ksk_s1 _ _) ?_
 unfold Builtin.«sorted»
 refine qb (m:=checkCount "sorted" 1 1 _) (qx ?_)
 refine qb (GW (A:=X.A.in1) (s:={ s1 with heap:=hp }) (QdQ (r:=vr) (d:=d) (es:=es) (ep:=ep)) hh ⟨vw,Qot⟩ (by rw[hsz,lv,zU];omega) fun h' tk acc hkp hgr hacc=>?_)
 have ea:acc.toList=vs:=by
  rw[<-hval]
  refine List.ext_getElem? fun j=>?_
  rw[qJ]
  by_cases hj:j<es.size
  .have hj2:j<acc.size:=by rw[hacc.1];exact hj
   obtain⟨en,e1,e2⟩:=hacc.2 j acc[j] (z6 hj2)
   rw[qC,qC,e1,z6 hj2,e2]
   rfl
  .rw[qC,qC,xF (by rw[hacc.1];omega),xF (by omega)]
   rfl
 rw[ea]
 have I3:Inv X pins σ H1 { s1 with heap:=h',toks:=tk }:=I2.kept (t':=tk) hkp
 generalize hs3:({ s1 with heap:=h',toks:=tk }:Shared)=s3 at I3 ⊢
 refine qb (QhK ?_ (by rw[zU];omega))
 have hoL:(s3.heap.push (seqObj "list" vs.toArray 0)).get? s3.heap.objs.size=some (seqObj "list" vs.toArray 0):=qN _ rfl
 have oa:YB X pins s3.heap.objs.size:=I3.ours (qp _)
 have na:H1 s3.heap.objs.size=none:=I3.hok.fresh (qp _)
 have I4:Inv X pins σ H1 { s3 with heap:=s3.heap.push (seqObj "list" vs.toArray 0) }:=I3.kept (t':=s3.toks) fun b o e=>qw _ e
 show wpAny _ _ _ _ _ { s3 with heap:=s3.heap.push (seqObj "list" vs.toArray 0) }
 generalize s3.heap.push (seqObj "list" vs.toArray 0)=g2 at hoL I4 ⊢
 generalize s3.heap.objs.size=a at hoL oa na ⊢
 refine qb (jP (wpAny_call_entry_kw slot_list_sort ⟨_,hoL,rfl⟩ entry_list_sort ?body (ksk_l1 _ _)))
 case body =>
  show wpAny (model X.prog X.w) X.A.in1.in1 (Builtin.«list.sort» ⟨[.ref a],[(Str.ofString "key",.ref f)]⟩) _ _ _
  rw[ksk_t1]
  have ha:a<g2.objs.size:=qT hoL
  have s2:=z8 g2 a (Obj.mapSeq fun _=>(#[]:Array Value))
  obtain⟨e1,ho1⟩:∃e1,(g2.update a (Obj.mapSeq fun _=>(#[]:Array Value))).get? a=some (seqObj "list" #[] e1):=⟨_,wI hoL fun _=>#[]⟩
  have I5:Inv X pins σ H1 { s3 with heap:=g2.update a (Obj.mapSeq fun _=>(#[]:Array Value)) }:=I4.vX (t':=s3.toks) oa na fun b u hb q=>(s2.2 b hb).trans q
  have hkS:((g2.update a (Obj.mapSeq fun _=>(#[]:Array Value))).push (seqObj "tuple" vs.toArray 0)).objs.size=g2.objs.size+1:=by rw[size_push',yF]
  unfold ksk_tree
  refine qb (listItems_at hoL rfl ?_)
  refine qb (kj hoL rfl ?_ (by rw[qM,zU];omega) (qP _))
  refine qb (seqEpoch_at ho1 rfl ?_)
  refine qb (wpAny_newTuple ?_ (by show vs.length<=_;rw[zU];omega))
  refine qb (QhK ?_ (qP _))
  refine jP ?_
  have k4:∀b o,(g2.update a (Obj.mapSeq fun _=>(#[]:Array Value))).get? b=some o->(((g2.update a (Obj.mapSeq fun _=>(#[]:Array Value))).push (seqObj "tuple" vs.toArray 0)).push (seqObj "list" #[] 0)).get? b=some o:=fun b o q=>qw _ (qw _ q)
  have I6:Inv X pins σ H1 { s3 with heap:=((g2.update a (Obj.mapSeq fun _=>(#[]:Array Value))).push (seqObj "tuple" vs.toArray 0)).push (seqObj "list" #[] 0) }:=I5.kept (t':=s3.toks) k4
  have lk:(g2.update a (Obj.mapSeq fun _=>(#[]:Array Value))).objs.size<=((g2.update a (Obj.mapSeq fun _=>(#[]:Array Value))).push (seqObj "tuple" vs.toArray 0)).objs.size:=by rw[hkS,yF];exact yo _
  refine XI (H:=H1) F (hr.in1.in1) hb I6 oa (I5.ours lk) (by rw[hkS];exact vM (gJ ha)) na (I5.hok.fresh lk) (k4 _ _ ho1) (qN _ rfl) rv rx nd h64 hu hk fun G s' sG ga J=>⟨_,rfl,qx ⟨_,rfl,.ref a,_,J,rfl,q a _ na ?_ Qf⟩⟩
  exact fun b o e=>by rw[Qj (Qd e na)];exact sG b o e
end L2
namespace K43
open PySem L2
def top(i:Nat):Stmt:=PySem.Challenge.pw_mailroom_k43_parcels_taken.main.body.getD i (.Pass ⟨0,0,0,0⟩)
abbrev Ju:Stmt:=top 9
abbrev UD:Stmt:=top 10
abbrev UE:Stmt:=top 15
abbrev YV:Stmt:=top 16
abbrev Je:Stmt:=top 17
abbrev Jf:Stmt:=top 18
abbrev Yc:Stmt:=top 20
abbrev UF:Stmt:=top 24
abbrev Yg:Stmt:=top 25
abbrev UG:Stmt:=top 26
abbrev JH:Stmt:=top 27
abbrev JG:Stmt:=top 28
abbrev YQ:Stmt:=top 29
abbrev Yb:Stmt:=top 31
abbrev ZI:Stmt:=top 32
abbrev Zz:Stmt:=top 33
abbrev JI:Stmt:=top 34
abbrev UB:Stmt:=top 37
abbrev VB:Stmt:=top 38
abbrev Uy:Stmt:=top 39
abbrev JE:Stmt:=top 40
abbrev UA:Stmt:=top 41
abbrev Uz:Stmt:=top 42
abbrev VC:Stmt:=top 43
abbrev YT:Stmt:=top 44
abbrev JC:Stmt:=top 45
abbrev JD:Stmt:=top 46
abbrev VA:Stmt:=top 47
abbrev YU:Stmt:=top 48
abbrev X2:Stmt:=top 49
abbrev X1:Stmt:=top 50
abbrev JF:Stmt:=top 51
abbrev UC:Stmt:=top 52
abbrev Z2:Stmt:=top 53
abbrev Ux:Stmt:=top 54
abbrev Jg:Stmt:=JK (top 19) 0
abbrev Jj:Stmt:=JK (top 35) 0
abbrev Z3:Stmt:=JK (top 35) 1
abbrev Jv:Stmt:=JK (top 35) 3
abbrev Jk:Stmt:=JK (top 35) 4
abbrev Jh:Stmt:=JK (top 35) 5
abbrev ZB:Stmt:=JK (top 35) 6
abbrev Ji:Stmt:=JK (top 35) 7
abbrev Vn:QpK:=["text","signs"]
theorem X8:Qq Vn ["text","signs"] (Qh Ju):=QK (by decide +kernel)
abbrev QcH:QpK:=["thing"]
theorem Qaw:Qq QcH ["thing"] (Qh UD):=QK (by decide +kernel)
abbrev QcI:QpK:=["thing","most"]
theorem Qax:Qq QcI ["thing","most"] (Qh UE):=QK (by decide +kernel)
abbrev QaJ:QpK:=["thing"]
theorem Ga:Qq QaJ ["thing"] (Qh YV):=QK (by decide +kernel)
abbrev WT:QpK:=["thing"]
theorem Wi:Qq WT ["thing"] (Qh Je):=QK (by decide +kernel)
abbrev Y7:QpK:=["sender","title","body","day","answers"]
theorem Wj:Qq Y7 ["sender","title","body","day","answers"] (Qh Jf):=QK (by decide +kernel)
abbrev Gu:QpK:=["thing"]
theorem X6:Qq Gu ["thing"] (Qh Yc):=QK (by decide +kernel)
abbrev QcJ:QpK:=["thing"]
theorem Qay:Qq QcJ ["thing"] (Qh UF):=QK (by decide +kernel)
abbrev Gw:QpK:=["thing"]
theorem X7:Qq Gw ["thing"] (Qh Yg):=QK (by decide +kernel)
abbrev QcK:QpK:=["thing","form"]
theorem Wh:Qq QcK ["thing"] (Qh UG):=QK (by decide +kernel)
abbrev Kn:QpK:=["thing"]
theorem WS:Qq Kn ["thing"] (Qh JH):=QK (by decide +kernel)
abbrev Km:QpK:=["thing"]
theorem WR:Qq Km ["thing"] (Qh JG):=QK (by decide +kernel)
abbrev QaG:QpK:=["stamped"]
theorem K8:Qq QaG ["stamped"] (Qh YQ):=QK (by decide +kernel)
abbrev Gs:QpK:=["stamped"]
theorem X5:Qq Gs ["stamped"] (Qh Yb):=QK (by decide +kernel)
abbrev Y6:QpK:=["hand","shelf","puts"]
theorem YC:Qq Y6 ["hand","shelf"] (Qh ZI):=QK (by decide +kernel)
abbrev YG:QpK:=["parcel"]
theorem Vv:Qq YG ["parcel"] (Qh Zz):=QK (by decide +kernel)
abbrev Ko:QpK:=["stamped","shelf","deed"]
theorem Y5:Qq Ko ["stamped","shelf"] (Qh JI):=QK (by decide +kernel)
abbrev QcF:QpK:=["_law_script"]
theorem Qav:Qq QcF ["_law_script"] (Qh UB):=QK (by decide +kernel)
abbrev QeB:QpK:=["_law_state","_law_cell"]
theorem U1:Qq QeB ["_law_state"] (Qh VB):=QK (by decide +kernel)
abbrev Gv:QpK:=["_law_state","_law_signs","_law_most","_law_size"]
theorem U0:Qq Gv ["_law_state","_law_signs","_law_most"] (Qh Uy):=QK (by decide +kernel)
abbrev Kk:QpK:=["_law_state"]
theorem WQ:Qq Kk ["_law_state"] (Qh JE):=QK (by decide +kernel)
abbrev QcE:QpK:=["_law_state","_law_many","_law_letters","_law_base","_law_at","_law_first","_law_found","_law_k"]
theorem ZD:Qq QcE ["_law_state","_law_many"] (Qh UA):=QK (by decide +kernel)
abbrev QcD:QpK:=["_law_state","_law_signs","_law_title","_law_body","_law_answers","_law_day"]
theorem ZY:Qq QcD ["_law_state"] (Qh Uz):=QK (by decide +kernel)
abbrev QeC:QpK:=["_law_state","_law_names","_law_hand","_law_puts","_law_kind","_law_name"]
theorem U2:Qq QeC ["_law_state","_law_names","_law_hand","_law_puts"] (Qh VC):=QK (by decide +kernel)
abbrev QaH:QpK:=["_law_state","_law_hand","_law_many","_law_names","_law_found","_law_clock","_law_puts","_law_number","_law_deed_here"]
theorem Zc:Qq QaH ["_law_state","_law_hand","_law_many","_law_names"] (Qh YT):=QK (by decide +kernel)
abbrev Ki:QpK:=["_law_state","_law_row","_law_found","_law_one"]
theorem JO:Qq Ki ["_law_state","_law_row"] (Qh JC):=QK (by decide +kernel)
abbrev Kj:QpK:=["_law_one"]
theorem WP:Qq Kj ["_law_one"] (Qh JD):=QK (by decide +kernel)
abbrev QeA:QpK:=["_law_ledger","_law_parcel_here"]
theorem Qci:Qq QeA ["_law_ledger","_law_parcel_here"] (Qh VA):=QK (by decide +kernel)
abbrev QaI:QpK:=["_law_state","_law_streams","_law_got","_law_found","_law_stream_here","_law_hand","_law_first","_law_many"]
theorem Zp:Qq QaI ["_law_state","_law_streams","_law_got"] (Qh YU):=QK (by decide +kernel)
abbrev Qgo:QpK:=["_law_streams","_law_got","_law_one","_law_found","_law_stream_here","_law_hand"]
theorem YD:Qq Qgo ["_law_streams","_law_got","_law_one"] (Qh X2):=QK (by decide +kernel)
abbrev Qgn:QpK:=["_law_ledger","_law_got","_law_found"]
theorem K9:Qq Qgn ["_law_ledger","_law_got"] (Qh X1):=QK (by decide +kernel)
abbrev Kl:QpK:=["_law_ledger","_law_due","_law_found"]
theorem Y4:Qq Kl ["_law_ledger","_law_due"] (Qh JF):=QK (by decide +kernel)
abbrev QcG:QpK:=["_law_state","_law_ledger","_law_streams","_law_got","_law_way","_law_one","_law_stream_here","_law_handed"]
theorem Js:Qq QcG ["_law_state","_law_ledger","_law_streams","_law_got"] (Qh UC):=QK (by decide +kernel)
abbrev Wu:QpK:=["_law_state","_law_ledger","_law_due","_law_puts","_law_good","_law_parts_here","_law_deed_here"]
theorem Zh:Qq Wu ["_law_state","_law_ledger","_law_due","_law_puts"] (Qh Z2):=QK (by decide +kernel)
abbrev Wt:QpK:=["_law_script","_law_state","_law_hands_here","_law_names","_law_most","_law_some","_law_streams","_law_ledger","_law_got","_law_held","_law_cell","_law_parcel_here","_law_handed","_law_new","_law_one","_law_found","_law_hand","_law_number","_law_clock","_law_due","_law_puts"]
theorem Q4:Qq Wt ["_law_script"] (Qh Ux):=QK (by decide +kernel)
abbrev WU:QpK:=["self","sender","title","body","day","answers"]
theorem Wk:Qq WU ["self","sender","title","body","day","answers"] (Qh Jg):=QK (by decide +kernel)
abbrev WX:QpK:=["self","hand"]
theorem Wl:Qq WX ["self","hand"] (Qh Jj):=QK (by decide +kernel)
abbrev Wv:QpK:=["self","hand"]
theorem Vw:Qq Wv ["self","hand"] (Qh Z3):=QK (by decide +kernel)
abbrev Vo:QpK:=["self","deed","clock","stamped"]
theorem Ye:Qq Vo ["self","deed"] (Qh Jv):=QK (by decide +kernel)
abbrev WY:QpK:=["self","numbers","hand"]
theorem Jt:Qq WY ["self"] (Qh Jk):=QK (by decide +kernel)
abbrev WV:QpK:=["self","have","had","parcel","hand"]
theorem ZJ:Qq WV ["self","have"] (Qh Jh):=QK (by decide +kernel)
abbrev U7:QpK:=["self","parcel","shelves","fresh","stamped","hand","shelf"]
theorem QU:Qq U7 ["self","parcel"] (Qh ZB):=QK (by decide +kernel)
abbrev WW:QpK:=["self","parcel","weighed"]
theorem YE:Qq WW ["self","parcel"] (Qh Ji):=QK (by decide +kernel)
set_option genInjectivity false in
structure yE where
 (vK uY uZ ue vd vf wO u0 wQ u5 wg v9 g8 wN kW xQ wj uW Qiu Qis v7 uV uU Qiv uc vY vZ Qit ud Qi5 Qi4 v8 uX xP Qju vh vq xR wR vy vm yN vp yL jL QiZ yt QjF jy:Addr)
structure Txt(K:Frag)(mg:Str->Option Value)(a:yE):Prop where
 QiW:mg "all_among"=some (.ref a.vK)
 gP:mg "is_word"=some (.ref a.uY)
 Qj5:mg "is_text"=some (.ref a.uZ)
 Qjo:mg "is_whole"=some (.ref a.ue)
 QjK:mg "is_answered"=some (.ref a.vd)
 QjL:mg "check_parts"=some (.ref a.vf)
 QkZ:mg "letter_of"=some (.ref a.wO)
 Qj6:mg "is_hand"=some (.ref a.u0)
 Qk0:mg "are_parts"=some (.ref a.wQ)
 Ql0:mg "is_deed"=some (.ref a.u5)
 Qir:mg "is_counted"=some (.ref a.wg)
 Qkp:mg "is_stamped"=some (.ref a.v9)
 Qjm:mg "stamp_of"=some (.ref a.g8)
 QkY:mg "number_of"=some (.ref a.wN)
 QjJ:mg "name_behind"=some (.ref a.kW)
 Qjp:mg "check_parcel"=some (.ref a.xQ)
 Qkq:mg "check_next"=some (.ref a.wj)
 QlY:mg "_law_begin"=some (.ref a.uW)
 je:mg "_law_next"=some (.ref a.Qiu)
 Qin:mg "_law_word"=some (.ref a.Qis)
 xO:mg "_law_any_word"=some (.ref a.v7)
 QlX:mg "_law_hands"=some (.ref a.uV)
 Qj4:mg "_law_parts"=some (.ref a.uU)
 QmO:mg "_law_deed"=some (.ref a.Qiv)
 Qll:mg "_law_stream"=some (.ref a.uc)
 Qio:mg "_law_shuffled"=some (.ref a.vY)
 Qip:mg "_law_by_stamp"=some (.ref a.vZ)
 QmN:mg "_law_took"=some (.ref a.Qit)
 Qlm:mg "_law_parcel"=some (.ref a.ud)
 Qi3:mg "_law_all"=some (.ref a.Qi5)
 QnK:mg "_law_had"=some (.ref a.Qi4)
 Qko:mg "_law_all_told"=some (.ref a.v8)
 QlZ:mg "_law_asked"=some (.ref a.uX)
 Qjn:mg "_law_puts_right"=some (.ref a.xP)
 Qkw:∃u,mg "WORD_SIGNS"=some u/\QC (.str "abcdefghijklmnopqrstuvwxyz0123456789") u
 Qk1:∃u,mg "MOST_WORD"=some u/\QC (.int 20) u
 Qkx:∃u,mg "MOST_TITLE"=some u/\QC (.int 60) u
 Qk3:∃u,mg "MOST_BODY"=some u/\QC (.int 400) u
 Qls:∃u,mg "LAST_DAY"=some u/\QC (.int 9999) u
 Qky:∃u,mg "HAND_SIGNS"=some u/\QC (.str "abcdefghijklmnopqrstuvwxyz") u
 Qk2:∃u,mg "MOST_HAND"=some u/\QC (.int 8) u
 xg:mg "len"=none
 QkC:mg "range"=none
 ji:mg "isinstance"=none
 Qix:mg "str"=none
 b_int:mg "int"=none
 Qm7:mg "bool"=none
 QkD:mg "list"=none
 QkB:mg "tuple"=none
 QkG:mg "dict"=none
 Qm4:mg "max"=none
 QoD:mg "all"=none
 uP:mg "sorted"=none
 QlV:mg "Letter"=some (.ref a.yL)
 gQ:Cls K a.yL
 QmR:Mk K a.yL a.vh
 Qi0:ZF K a.yL "sender"
 Qjk:ZF K a.yL "title"
 QjI:ZF K a.yL "body"
 Qkm:ZF K a.yL "day"
 QiJ:ZF K a.yL "answers"
 Qjl:ZF K a.yL "found"
 QlW:mg "Ledger"=some (.ref a.jL)
 zO:Cls K a.jL
 QmS:Mk K a.jL a.vq
 QjA:W2 K a.jL "shelf" a.xR
 uQ:W2 K a.jL "do" a.wR
 wZ:W2 K a.jL "have" a.vy
 j6:W2 K a.jL "told" a.vm
 QiO:W2 K a.jL "weighed" a.yN
 Qgt:W2 K a.jL "take" a.vp
 yC:ZF K a.jL "hand"
 jn:ZF K a.jL "shelves"
 Qkn:mg "MailError"=some (.ref a.QiZ)
 QkR:Xcl K a.QiZ
 yJ:mg "NoLetter"=some (.ref a.yt)
 yI:Xcl K a.yt
 QlU:mg "NoName"=some (.ref a.QjF)
 QmC:Xcl K a.QjF
 xq:mg "NoParcel"=some (.ref a.jy)
 xj:Xcl K a.jy
 Qf0:mroIn K a.yt a.yt=true
 QfE:mroIn K a.jy a.jy=true
structure Zr(K:Frag)(a:yE):Prop where
 vL:∃fd,jZ K "all_among" "all_among" Ju a.vK fd/\Qw K fd ["text","signs"] []
 jR:∃fd,jZ K "is_word" "is_word" UD a.uY fd/\Qw K fd ["thing"] []
 gW:∃fd,jZ K "is_text" "is_text" UE a.uZ fd/\Qw K fd ["thing","most"] []
 yK:∃fd,jZ K "is_whole" "is_whole" YV a.ue fd/\Qw K fd ["thing"] []
 vH:∃fd,jZ K "is_answered" "is_answered" Je a.vd fd/\Qw K fd ["thing"] []
 vI:∃fd,jZ K "check_parts" "check_parts" Jf a.vf fd/\Qw K fd ["sender","title","body","day","answers"] []
 wW:∃fd,jZ K "letter_of" "letter_of" Yc a.wO fd/\Qw K fd ["thing"] []
 xu:∃fd,jZ K "is_hand" "is_hand" UF a.u0 fd/\Qw K fd ["thing"] []
 wX:∃fd,jZ K "are_parts" "are_parts" Yg a.wQ fd/\Qw K fd ["thing"] []
 Qfw:∃fd,jZ K "is_deed" "is_deed" UG a.u5 fd/\Qw K fd ["thing"] []
 xU:∃fd,jZ K "is_counted" "is_counted" JH a.wg fd/\Qw K fd ["thing"] []
 wz:∃fd,jZ K "is_stamped" "is_stamped" JG a.v9 fd/\Qw K fd ["thing"] []
 kO:∃fd,jZ K "stamp_of" "stamp_of" YQ a.g8 fd/\Qw K fd ["stamped"] []
 uR:∃fd,jZ K "number_of" "number_of" Yb a.wN fd/\Qw K fd ["stamped"] []
 vD:∃fd,jZ K "name_behind" "name_behind" ZI a.kW fd/\Qw K fd ["hand","shelf"] []
 xV:∃fd,jZ K "check_parcel" "check_parcel" Zz a.xQ fd/\Qw K fd ["parcel"] []
 wA:∃fd,jZ K "check_next" "check_next" JI a.wj fd/\Qw K fd ["stamped","shelf"] []
 Qfu:∃fd,jZ K "_law_begin" "_law_begin" UB a.uW fd/\Qw K fd ["_law_script"] []
 qY:∃fd,jZ K "_law_next" "_law_next" VB a.Qiu fd/\Qw K fd ["_law_state"] []
 ym:∃fd,jZ K "_law_word" "_law_word" Uy a.Qis fd/\Qw K fd ["_law_state","_law_signs","_law_most"] []
 jE:∃fd,jZ K "_law_any_word" "_law_any_word" JE a.v7 fd/\Qw K fd ["_law_state"] []
 u9:∃fd,jZ K "_law_hands" "_law_hands" UA a.uV fd/\Qw K fd ["_law_state","_law_many"] []
 xr:∃fd,jZ K "_law_parts" "_law_parts" Uz a.uU fd/\Qw K fd ["_law_state"] []
 QiD:∃fd,jZ K "_law_deed" "_law_deed" VC a.Qiv fd/\Qw K fd ["_law_state","_law_names","_law_hand","_law_puts"] []
 uo:∃fd,jZ K "_law_stream" "_law_stream" YT a.uc fd/\Qw K fd ["_law_state","_law_hand","_law_many","_law_names"] []
 yh:∃fd,jZ K "_law_shuffled" "_law_shuffled" JC a.vY fd/\Qw K fd ["_law_state","_law_row"] []
 yQ:∃fd,jZ K "_law_by_stamp" "_law_by_stamp" JD a.vZ fd/\Qw K fd ["_law_one"] []
 QiC:∃fd,jZ K "_law_took" "_law_took" VA a.Qit fd/\Qw K fd ["_law_ledger","_law_parcel_here"] []
 uq:∃fd,jZ K "_law_parcel" "_law_parcel" YU a.ud fd/\Qw K fd ["_law_state","_law_streams","_law_got"] []
 vG:∃fd,jZ K "_law_all" "_law_all" X2 a.Qi5 fd/\Qw K fd ["_law_streams","_law_got","_law_one"] []
 Qi7:∃fd,jZ K "_law_had" "_law_had" X1 a.Qi4 fd/\Qw K fd ["_law_ledger","_law_got"] []
 wu:∃fd,jZ K "_law_all_told" "_law_all_told" JF a.v8 fd/\Qw K fd ["_law_ledger","_law_due"] []
 Qfv:∃fd,jZ K "_law_asked" "_law_asked" UC a.uX fd/\Qw K fd ["_law_state","_law_ledger","_law_streams","_law_got"] []
 xT:∃fd,jZ K "_law_puts_right" "_law_puts_right" Z2 a.xP fd/\Qw K fd ["_law_state","_law_ledger","_law_due","_law_puts"] []
 F_law:∃fd,jZ K "law" "law" Ux a.Qju fd/\Qw K fd ["_law_script"] []
 gn:∃fd,W3 K "__init__" "Letter.__init__" Jg a.vh fd/\Qw K fd ["self","sender","title","body","day","answers"] []/\(∃ds,Qx [.str ""] ds/\Qw K fd ["self","sender","title","body","day","answers"] ds)
 QjZ:∃fd,jZ K "__init__" "Ledger.__init__" Jj a.vq fd/\Qw K fd ["self","hand"] []
 QjE:∃fd,jZ K "shelf" "Ledger.shelf" Z3 a.xR fd/\Qw K fd ["self","hand"] []
 QiX:∃fd,jZ K "do" "Ledger.do" Jv a.wR fd/\Qw K fd ["self","deed"] []
 QgE:∃fd,jZ K "have" "Ledger.have" Jk a.vy fd/\Qw K fd ["self"] []
 vJ:∃fd,W3 K "told" "Ledger.told" Jh a.vm fd/\Qw K fd ["self","have"] []/\(∃ds,Qx [.non] ds/\Qw K fd ["self","have"] ds)
 QiS:∃fd,jZ K "weighed" "Ledger.weighed" ZB a.yN fd/\Qw K fd ["self","parcel"] []
 QgD:∃fd,jZ K "take" "Ledger.take" Ji a.vp fd/\Qw K fd ["self","parcel"] []
def isW(x:Str):Bool:=decide (1<=(x.length:Int)) && (decide ((x.length:Int)<=20) && x.cps.toList.all fun c=>decide (c∈aZ.cps.toList))
theorem kitSS{K:Frag}:kitOne K (.type "str") (.type "str")=some true:=by unfold kitOne;rw[qj (yX _)]
theorem kitN{K:Frag}:kitOne K (.type "NoneType") (.type "str")=some false:=by kernel_rfl
theorem kitI{K:Frag}:kitOne K (.type "int") (.type "str")=some false:=by kernel_rfl
theorem kitB{K:Frag}:kitOne K (.type "bool") (.type "str")=some false:=by kernel_rfl
theorem kitT{K:Frag}:kitOne K (.type "tuple") (.type "str")=some false:=by kernel_rfl
theorem kitL{K:Frag}:kitOne K (.type "list") (.type "str")=some false:=by kernel_rfl
theorem kitD{K:Frag}:kitOne K (.type "dict") (.type "str")=some false:=by kernel_rfl
inductive Xq(vs:List V)(H:Hp)(Q:VK):Prop
 | mk:∀x y:Str,vs=[.str x,.str y]->x.length<=1000->(∀H',Qi H H'->Q (.bl (x.cps.toList.all fun c=>decide (c∈y.cps.toList))) H')->Xq vs H Q
def Qbk:Sp:=fun vs H Q _=>Xq vs H Q
def K5(K:Frag):Sp:=fun vs H Q _=>(∃x:Str,vs=[.str x]/\x.length<=1000/\∀H',Qi H H'->Q (.bl (isW x)) H') \/
 ∃v t,vs=[v]/\Y3 K H v t/\kitOne K t (.type "str")=some false/\Q (.bl false) H
section
variable {P:Program}{w:World}{K:Frag}{mg:Str->Option Value}{base:Heap}{a:yE}
theorem Gp{fd:FuncData}(F:jZ K "all_among" "all_among" Ju a.vK fd)(T:Txt K mg a):QH P w K mg base vV 1 a.vK fd ["text","signs"] Qbk:=by
 refine F.ok X8 (fun _ _ _ _ h=>by cases h;subst_vars;rfl) (fun cdv A outer s H vs Q E hr h=>?_)
 .obtain⟨x,y,rfl,hx,k⟩:=h
  refine⟨_,Qg (Qs (Qr (GY rfl) rfl T.QoD boot_all (zy (Yn (sc:=Qh Ju) (N:=Vn) (fr:=[(1,"signs")]) ⟨rfl,rfl,by decide +kernel,by decide +kernel,by decide +kernel,by decide +kernel,by decide +kernel⟩ rfl rfl rfl (QhM (pv 0))
   (fun _ _ _ _=>YY) (fun _ _ _ _=>Z5 XC (pv 0) (pv 1) (by with_unfolding_all rfl))) Qc))),?_⟩
  refine⟨_,rfl,x,rfl,Qfk (fun c=>.bl (decide (c∈y.cps.toList))) (Q2 (hx)) ?_ ?_⟩
  .intro c H3 Q' hc q
   refine⟨_,rfl,_,rfl,_,_,rfl,rfl,?_⟩
   rw[StrLaws.found_one]
   exact q
  .intro D hD
   refine⟨D,x.cps.toList.map fun c=>decide (c∈y.cps.toList),rfl,jk.of (by rw[zu];exact Qf),?_⟩
   rw[List.all_map]
   exact k _ (Qi.zT hD)
theorem U6{fd:FuncData}(F:jZ K "is_word" "is_word" UD a.uY fd)(T:Txt K mg a)(FF:Zr K a):QH P w K mg base vV 2 a.uY fd ["thing"] (K5 K):=by
 obtain⟨fdA,FA,bA⟩:=FF.vL
 have GA:QH P w K mg base vV 1 a.vK fdA ["text","signs"] Qbk:=Gp FA T
 refine F.ok Qaw (fun vs H Q E h=>?_) (fun cdv A outer s H vs Q E hr h=>?_)
 .rcases h with⟨x,rfl,_⟩ | ⟨v,t,rfl,_⟩ <;> rfl
 .refine⟨_,Qg (Qs (Z0 (Qr QF rfl T.ji boot_isinstance (zy (pv 0) (zy (Ze (v:=.ty "str") rfl T.Qix boot_str rfl) Qc)))
   (Z0 (Gj Vl Vl Qb (Qr ZQ rfl T.xg zE (zy (pv 0) Qc)) (Wp rfl T.Qk1))
   (JQ (Qk GA hr rfl T.QiW FA.kp bA .nil Qn (zy (pv 0) (zy (Wp rfl T.Qkw) Qc))))))),?_⟩
  rcases h with⟨x,rfl,hx,k⟩ | ⟨v,t,rfl,ty,hk,k⟩
  .refine⟨_,rfl,_,_,_,_,_,rfl,rfl,Y3.str x,kitSS,_,rfl,QE ?_⟩
   refine⟨_,rfl,x,rfl,Q2 (hx),_,_,rfl,rfl,_,rfl,?_⟩
   have hdef:isW x=(decide (1<=(x.length:Int)) && (decide ((x.length:Int)<=20) && x.cps.toList.all fun c=>decide (c∈aZ.cps.toList))):=rfl
   by_cases h1:(1:Int)<=(x.length:Int)
   .rw[qt h1]
    rw[qt h1,jm] at hdef
    refine QE ⟨_,_,rfl,rfl,_,rfl,?_⟩
    by_cases h2:(x.length:Int)<=20
    .rw[qt h2]
     rw[qt h2,jm] at hdef
     refine QE ⟨_,rfl,x,aZ,rfl,hx,fun H' s'=>?_⟩
     rw[<-hdef]
     exact k H' s'
    .rw[qz h2]
     rw[qz h2,yw] at hdef
     refine QD ?_
     rw[<-hdef]
     exact k H (Qi.refl H)
   .rw[qz h1]
    rw[qz h1,yw] at hdef
    refine QD ⟨_,rfl,QD ?_⟩
    rw[<-hdef]
    exact k H (Qi.refl H)
  .exact⟨_,rfl,_,_,_,_,_,rfl,rfl,ty,hk,_,rfl,QD k⟩
end
inductive Qbh(K:Frag)(vs:List V)(H:Hp)(Q:VK):Prop
 | mk:∀(a:Addr)(ns:List Int),vs=[.ref a]->jk K H a (ns.map V.int)->ns.length<=63->(∀H',Q (.bl true) H')->Qbh K vs H Q
def QmH(K:Frag):Sp:=fun vs H Q _=>Qbh K vs H Q
inductive Dt where
 | non
 | bl (b:Bool)
 | int (i:Int)
 | str (s:Str)
 | lst
 | dct
 | tup (xs:List Dt)
mutual
inductive DR(H:Hp):V->Dt->Prop
 | non:DR H .non .non
 | bl (b:Bool):DR H (.bl b) (.bl b)
 | int (i:Int):DR H (.int i) (.int i)
 | str {s:Str} (h1:s.length<=1000) (h2:Asc s):DR H (.str s) (.str s)
 | lst {p:Addr} {xs:List V} (e:H p=some (.lst xs)):DR H (.ref p) .lst
 | dct {p:Addr} {kvs:List (Key×V)} (e:H p=some (.dK kvs)):DR H (.ref p) .dct
 | tup {p:Addr} {xs:List V} {ds:List Dt} (e:H p=some (.tup xs)) (r:DRs H xs ds):DR H (.ref p) (.tup ds)
inductive DRs(H:Hp):List V->List Dt->Prop
 | nil:DRs H [] []
 | cons {x:V} {d:Dt} {xs:List V} {ds:List Dt} (r:DR H x d) (rs:DRs H xs ds):DRs H (x :: xs) (d :: ds)
end
mutual
theorem DR.mono{H H':Hp}(s:Qi H H'):∀{x:V}{d:Dt},DR H x d->DR H' x d
 | _,_,.non=>.non
 | _,_,.bl b=>.bl b
 | _,_,.int i=>.int i
 | _,_,.str h1 h2=>.str h1 h2
 | _,_,.lst e=>.lst (s _ _ e)
 | _,_,.dct e=>.dct (s _ _ e)
 | _,_,.tup e r=>.tup (s _ _ e) (DRs.mono s r)
theorem DRs.mono{H H':Hp}(s:Qi H H'):∀{xs:List V}{ds:List Dt},DRs H xs ds->DRs H' xs ds
 | _,_,.nil=>.nil
 | _,_,.cons r rs=>.cons (DR.mono s r) (DRs.mono s rs)
end
theorem DRs.len{H:Hp}:∀{xs:List V}{ds:List Dt},DRs H xs ds->xs.length=ds.length
 | _,_,.nil=>rfl
 | _,_,.cons _ rs=>zB (·+1) (DRs.len rs)
def tyD:Dt->Value
 | .non=>.type "NoneType"
 | .bl _=>.type "bool"
 | .int _=>.type "int"
 | .str _=>.type "str"
 | .lst=>.type "list"
 | .dct=>.type "dict"
 | .tup _=>.type "tuple"
theorem DR.ty{K:Frag}{H:Hp}{v:V}{d:Dt}(r:DR H v d):Y3 K H v (tyD d):=by
 cases r with
 | non=>exact .non
 | bl b=>exact .bl b
 | int i=>exact .int i
 | str h1 h2=>exact .str _
 | lst e=>exact .lst e
 | dct e=>exact .dK e
 | tup e _=>exact .tup e
def isS:Dt->Bool | .str _=>true | _=>false
def isT:Dt->Bool | .tup _=>true | _=>false
def isI:Dt->Bool | .int _=>true | .bl _=>true | _=>false
def isB:Dt->Bool | .bl _=>true | _=>false
theorem QbG{K:Frag}(d:Dt):kitOne K (tyD d) (.type "str")=some (isS d):=by cases d <;> kernel_rfl
theorem QeK{K:Frag}(d:Dt):kitOne K (tyD d) (.type "tuple")=some (isT d):=by cases d <;> kernel_rfl
theorem kit_I{K:Frag}(d:Dt):kitOne K (tyD d) (.type "int")=some (isI d):=by cases d <;> kernel_rfl
theorem QeL{K:Frag}(d:Dt):kitOne K (tyD d) (.type "bool")=some (isB d):=by cases d <;> kernel_rfl
def Zg:Dt->Bool | .str x=>isW x | _=>false
def VU(m:Int):Dt->Bool | .str x=>decide ((x.length:Int)<=m) | _=>false
def Qhg:Dt->Bool | .int _=>true | _=>false
def XV:Dt->Bool | .str x=>isW x || decide (x="") | _=>false
def QbF:Dt->Bool | .str x=>!decide (10∈x.cps.toList) | _=>false
def Qc5:Dt->Bool | .int i=>decide (0<=i) && decide (i<=9999) | _=>false
def hS:Str:="abcdefghijklmnopqrstuvwxyz"
def isH(x:Str):Bool:=decide (1<=(x.length:Int)) && (decide ((x.length:Int)<=8) && x.cps.toList.all fun c=>decide (c∈hS.cps.toList))
def WE:Dt->Bool | .str x=>isH x | _=>false
def Zw(s t b dy an:Dt):Bool:=Zg s && (VU 60 t && (QbF t && (VU 400 b && (Qc5 dy && XV an))))
def JR:Dt->Bool | .tup [s,t,b,dy,an]=>Zw s t b dy an | _=>false
def Um:Dt->Bool | .int i=>decide (1<=i) | _=>false
def Zx(f:Str)(r:List Dt):Bool:=if f="put"/\r.length=1 then JR (r.getD 0 .non) else if f="place"/\r.length=1 then Zg (r.getD 0 .non) else if f="mark"/\r.length=2 then Zg (r.getD 0 .non) && isB (r.getD 1 .non) else decide (f="drop"/\r.length=0)
def Y9:Dt->Bool
 | .tup (.str f :: n :: r)=>Zg n && Zx f r
 | _=>false
def Zv:Dt->Bool | .tup [c,h,n,d]=>Um c && (WE h && (Um n && Y9 d)) | _=>false
theorem Z9{K:Frag}{H:Hp}{v:V}{d:Dt}{Q:VK}{E:XK}(r:DR H v d)(k:∀H',Qi H H'->Q (.bl (Zg d)) H'):K5 K [v] H Q E:=by
 cases r with
 | str h1 h2=>exact .inl ⟨_,rfl,h1,k⟩
 | non=>exact .inr ⟨_,_,rfl,.non,kitN,k H (Qi.refl H)⟩
 | bl b=>exact .inr ⟨_,_,rfl,.bl b,kitB,k H (Qi.refl H)⟩
 | int i=>exact .inr ⟨_,_,rfl,.int i,kitI,k H (Qi.refl H)⟩
 | lst e=>exact .inr ⟨_,_,rfl,.lst e,kitL,k H (Qi.refl H)⟩
 | dct e=>exact .inr ⟨_,_,rfl,.dK e,kitD,k H (Qi.refl H)⟩
 | tup e _=>exact .inr ⟨_,_,rfl,.tup e,kitT,k H (Qi.refl H)⟩
inductive Xf(vs:List V)(H:Hp)(Q:VK):Prop
 | mk:∀(v:V)(d:Dt)(m:Int),vs=[v,.int m]->DR H v d->Q (.bl (VU m d)) H->Xf vs H Q
def QfJ:Sp:=fun vs H Q _=>Xf vs H Q
inductive V1(vs:List V)(H:Hp)(Q:VK):Prop
 | mk:∀(v:V)(d:Dt),vs=[v]->DR H v d->Q (.bl (Qhg d)) H->V1 vs H Q
def QdD:Sp:=fun vs H Q _=>V1 vs H Q
inductive Xp(vs:List V)(H:Hp)(Q:VK):Prop
 | mk:∀(v:V)(d:Dt),vs=[v]->DR H v d->(∀H',Qi H H'->Q (.bl (XV d)) H')->Xp vs H Q
def QfS:Sp:=fun vs H Q _=>Xp vs H Q
inductive Xk(vs:List V)(H:Hp)(Q:VK):Prop
 | mk:∀(v:V)(d:Dt),vs=[v]->DR H v d->(∀H',Qi H H'->Q (.bl (WE d)) H')->Xk vs H Q
def QfN:Sp:=fun vs H Q _=>Xk vs H Q
inductive V9(vs:List V)(H:Hp)(Q:VK):Prop
 | mk:∀(v:V)(d:Dt),vs=[v]->DR H v d->Q (.bl (Um d)) H->V9 vs H Q
def QdL:Sp:=fun vs H Q _=>V9 vs H Q
section
variable {P:Program}{w:World}{K:Frag}{mg:Str->Option Value}{base:Heap}{a:yE}
theorem Qem{fd:FuncData}(F:jZ K "is_text" "is_text" UE a.uZ fd)(T:Txt K mg a):QH P w K mg base vV 1 a.uZ fd ["thing","most"] QfJ:=by
 refine F.ok Qax (fun _ _ _ _ h=>by cases h;subst_vars;rfl) (fun cdv A outer s H vs Q E hr h=>?_)
 .obtain⟨v,d,m,rfl,r,k⟩:=h
  refine⟨_,(Qg (Qs (Z0 (Qr QF rfl T.ji boot_isinstance (zy (pv 0) (zy (Ze (v:=.ty "str") rfl T.Qix boot_str rfl) Qc))) (JQ (Z5 Vl (Qr ZQ rfl T.xg zE (zy (pv 0) Qc)) (pv 1)))))),?_⟩
  refine⟨_,rfl,_,_,_,_,_,rfl,rfl,r.ty,QbG d,_,rfl,?_⟩
  cases r with
  | str h1 h2=>exact QE ⟨_,rfl,_,rfl,Q2 (h1),_,rfl,_,_,rfl,rfl,k⟩
  | _=>exact QD k
theorem XE{fd:FuncData}(F:jZ K "is_whole" "is_whole" YV a.ue fd)(T:Txt K mg a):QH P w K mg base vV 1 a.ue fd ["thing"] QdD:=by
 refine F.ok Ga (fun _ _ _ _ h=>by cases h;subst_vars;rfl) (fun cdv A outer s H vs Q E hr h=>?_)
 .obtain⟨v,d,rfl,r,k⟩:=h
  refine⟨_,(Qg (Qs (Z0 (Qr QF rfl T.ji boot_isinstance (zy (pv 0) (zy (Ze (v:=.ty "int") rfl T.b_int boot_int rfl) Qc))) (JQ (QhQ (Qr QF rfl T.ji boot_isinstance (zy (pv 0) (zy (Ze (v:=.ty "bool") rfl T.Qm7 boot_bool rfl) Qc)))))))),?_⟩
  refine⟨_,rfl,_,_,_,_,_,rfl,rfl,r.ty,kit_I d,_,rfl,?_⟩
  have tb:=r.ty (K:=K)
  cases r with
  | int i=>exact QE ⟨_,rfl,_,_,_,_,_,rfl,rfl,tb,QeL (.int i),_,rfl,k⟩
  | bl b=>exact QE ⟨_,rfl,_,_,_,_,_,rfl,rfl,tb,QeL (.bl b),_,rfl,k⟩
  | _=>exact QD k
theorem Qew{fd:FuncData}(F:jZ K "is_answered" "is_answered" Je a.vd fd)(T:Txt K mg a)(FF:Zr K a):QH P w K mg base vV 3 a.vd fd ["thing"] QfS:=by
 obtain⟨fdA,jR,kI⟩:=FF.jR
 have kJ:=@U6 P w K mg base a _ jR T FF
 refine F.ok Wi (fun _ _ _ _ h=>by cases h;subst_vars;rfl) (fun cdv A outer s H vs Q E hr h=>?_)
 .obtain⟨v,d,rfl,r,k⟩:=h
  have xm:Qv 2 _:=hr
  refine⟨_,(Qg (Qs (pe_or (Qk kJ xm rfl T.gP jR.kp kI .nil Qn (zy (pv 0) Qc)) (JQ (Z0 (Qr QF rfl T.ji boot_isinstance (zy (pv 0) (zy (Ze (v:=.ty "str") rfl T.Qix boot_str rfl) Qc))) (JQ (Z5 JJ (pv 0) QB))))))),?_⟩
  refine⟨_,rfl,Z9 (E:=E) r fun H1 s1=>⟨_,rfl,?_⟩⟩
  have r1:=r.mono s1
  cases hw:Zg d with
  | true =>
    refine QE ?_
    have:XV d=true:=by
     cases r with
     | @str x h1 h2=>show(isW x || decide (x=""))=true;rw[show isW x=true from hw];rfl
     | _=>cases hw
    rw[<-this];exact k H1 s1
  | false =>
    refine QD ⟨_,rfl,_,_,_,_,_,rfl,rfl,r1.ty,QbG d,_,rfl,?_⟩
    cases r with
    | @str x h1 h2 =>
      refine QE ⟨_,rfl,rfl,?_⟩
      have e:XV (.str x)=(isW x || decide (x="")):=rfl
      rw[show isW x=false from hw,Bool.false_or] at e
      have e2:decide (V.str x=V.str "")=decide (x=""):=by
       by_cases h:x=""
       .rw[h,qt rfl,qt rfl]
       .rw[qz h,qz fun z=>h (V.str.inj z)]
      rw[e2,<-e]
      exact k H1 s1
    | _=>exact QD (k H1 s1)
theorem Go{fd:FuncData}(F:jZ K "is_hand" "is_hand" UF a.u0 fd)(T:Txt K mg a)(FF:Zr K a):QH P w K mg base vV 2 a.u0 fd ["thing"] QfN:=by
 obtain⟨fdA,vL,Qlb⟩:=FF.vL
 have Qlh:=@Gp P w K mg base a _ vL T
 refine F.ok Qay (fun _ _ _ _ h=>by cases h;subst_vars;rfl) (fun cdv A outer s H vs Q E hr h=>?_)
 .obtain⟨v,d,rfl,r,k⟩:=h
  have Qkt:Qv 1 _:=hr
  refine⟨_,(Qg (Qs (Z0 (Qr QF rfl T.ji boot_isinstance (zy (pv 0) (zy (Ze (v:=.ty "str") rfl T.Qix boot_str rfl) Qc))) (Z0 (Gj Vl Vl Qb (Qr ZQ rfl T.xg zE (zy (pv 0) Qc)) (Wp rfl T.Qk2)) (JQ (Qk Qlh Qkt rfl T.QiW vL.kp Qlb .nil Qn (zy (pv 0) (zy (Wp rfl T.Qky) Qc)))))))),?_⟩
  refine⟨_,rfl,_,_,_,_,_,rfl,rfl,r.ty,QbG d,_,rfl,?_⟩
  cases r with
  | @str x hx h2 =>
    refine QE ⟨_,rfl,x,rfl,Q2 (hx),_,_,rfl,rfl,_,rfl,?_⟩
    have hdef:WE (.str x)=(decide (1<=(x.length:Int)) && (decide ((x.length:Int)<=8) && x.cps.toList.all fun c=>decide (c∈hS.cps.toList))):=rfl
    by_cases h1:(1:Int)<=(x.length:Int)
    .rw[qt h1]
     rw[qt h1,jm] at hdef
     refine QE ⟨_,_,rfl,rfl,_,rfl,?_⟩
     by_cases h2:(x.length:Int)<=8
     .rw[qt h2]
      rw[qt h2,jm] at hdef
      refine QE ⟨_,rfl,x,hS,rfl,hx,fun H' s'=>?_⟩
      rw[<-hdef]
      exact k H' s'
     .rw[qz h2]
      rw[qz h2,yw] at hdef
      refine QD ?_
      rw[<-hdef]
      exact k H (Qi.refl H)
    .rw[qz h1]
     rw[qz h1,yw] at hdef
     refine QD ⟨_,rfl,QD ?_⟩
     rw[<-hdef]
     exact k H (Qi.refl H)
  | _=>exact QD (k H (Qi.refl H))
theorem Qcz{fd:FuncData}(F:jZ K "is_counted" "is_counted" JH a.wg fd)(T:Txt K mg a)(FF:Zr K a):QH P w K mg base vV 2 a.wg fd ["thing"] QdL:=by
 obtain⟨fdA,yK,Qhp⟩:=FF.yK
 have QhI:=@XE P w K mg base a _ yK T
 refine F.ok WS (fun _ _ _ _ h=>by cases h;subst_vars;rfl) (fun cdv A outer s H vs Q E hr h=>?_)
 .obtain⟨v,d,rfl,r,k⟩:=h
  have uN:Qv 1 _:=hr
  refine⟨_,(Qg (Qs (Z0 (Qk QhI uN rfl T.Qjo yK.kp Qhp .nil Qn (zy (pv 0) Qc)) (JQ (Z5 op_ge (pv 0) Qb))))),?_⟩
  refine⟨_,rfl,v,d,rfl,r,_,rfl,?_⟩
  cases r with
  | int i=>exact QE ⟨_,rfl,_,_,rfl,rfl,k⟩
  | _=>exact QD k
end
inductive Wa(a:yE)(vs:List V)(H:Hp)(Q:VK)(E:XK):Prop
 | mk:∀(v1 v2 v3 v4 v5:V)(d1 d2 d3 d4 d5:Dt),vs=[v1,v2,v3,v4,v5]->DR H v1 d1->DR H v2 d2->DR H v3 d3->DR H v4 d4->DR H v5 d5->(Zw d1 d2 d3 d4 d5=true->∀H',Qi H H'->Q .non H')->(Zw d1 d2 d3 d4 d5=false->∀H',Qi H H'->E (.ref a.yt) none H')->Wa a vs H Q E
def QdM(a:yE):Sp:=fun vs H Q E=>Wa a vs H Q E
inductive Xj(a:yE)(vs:List V)(H:Hp)(Q:VK)(E:XK):Prop
 | mk:∀(x dx:Addr)(v1 v2 v3 v4 v5:V)(d1 d2 d3 d4 d5:Dt),vs=[.ref x,v1,v2,v3,v4,v5]->H x=some (.ins a.yL dx [])->DR H v1 d1->DR H v2 d2->DR H v3 d3->DR H v4 d4->DR H v5 d5->(Zw d1 d2 d3 d4 d5=true->∀H',(∀c o,c≠x->H c=some o->H' c=some o)->Q .non H')->(Zw d1 d2 d3 d4 d5=false->∀H',Qi H H'->E (.ref a.yt) none H')->Xj a vs H Q E
def QfM(a:yE):Sp:=fun vs H Q E=>Xj a vs H Q E
inductive K4(a:yE)(vs:List V)(H:Hp)(Q:VK)(E:XK):Prop
 | mk:∀(v:V)(d:Dt),vs=[v]->DR H v d->(JR d=true->∀u H',Qi H H'->Q u H')->(JR d=false->∀H',Qi H H'->E (.ref a.yt) none H')->K4 a vs H Q E
def QhE(a:yE):Sp:=fun vs H Q E=>K4 a vs H Q E
inductive V6(vs:List V)(H:Hp)(Q:VK):Prop
 | mk:∀(v:V)(d:Dt),vs=[v]->DR H v d->(∀H',Qi H H'->Q (.bl (JR d)) H')->V6 vs H Q
def QdG:Sp:=fun vs H Q _=>V6 vs H Q
theorem QhZ:("\n":Str)=⟨#[10]⟩:=by decide +kernel
section
variable {P:Program}{w:World}{K:Frag}{mg:Str->Option Value}{base:Heap}{a:yE}
theorem QcA{fd:FuncData}(F:jZ K "check_parts" "check_parts" Jf a.vf fd)(T:Txt K mg a)(FF:Zr K a):QH P w K mg base (CXF P w) 4 a.vf fd ["sender","title","body","day","answers"] (QdM a):=by
 obtain⟨fdA,jR,kI⟩:=FF.jR
 have kJ:=@U6 P w K mg base a _ jR T FF
 obtain⟨fdB,gW,Qj9⟩:=FF.gW
 have Qkb:=@Qem P w K mg base a _ gW T
 obtain⟨fdC,yK,Qhp⟩:=FF.yK
 have QhI:=@XE P w K mg base a _ yK T
 obtain⟨fdD,vH,QjQ⟩:=FF.vH
 have QjV:=@Qew P w K mg base a _ vH T FF
 refine F.okX Wj (fun _ _ _ _ h=>by cases h;subst_vars;rfl) (fun cdv A outer s H vs Q E hr h=>?_)
 .obtain⟨v1,v2,v3,v4,v5,d1,d2,d3,d4,d5,rfl,r1,r2,r3,r4,r5,kg,kb⟩:=h
  have xm:Qv 2 _:=hr.mono (by decide)
  have Qjr:Qv 1 _:=hr.mono (by decide)
  have uN:Qv 1 _:=hr.mono (by decide)
  have Qjs:Qv 3 _:=hr
  refine⟨_,(Qa (QO (Q8 (Za (Qk kJ xm rfl T.gP jR.kp kI .nil Qn (zy (pv 0) Qc)))) (Qg (Zi T.yI T.yJ hr.hd rfl (zy QB Qc))) Qy)
   (Qa (QO (PW.pt (JZ (Q8 (Za (Qk Qkb Qjr rfl T.Qj5 gW.kp Qj9 .nil Qn (zy (pv 1) (zy (Wp rfl T.Qkx) Qc))))) (JP (Qu XC QB (pv 1) (by with_unfolding_all rfl))))) (Qg (Zi T.yI T.yJ hr.hd rfl (zy QB Qc))) Qy)
   (Qa (QO (Q8 (Za (Qk Qkb Qjr rfl T.Qj5 gW.kp Qj9 .nil Qn (zy (pv 2) (zy (Wp rfl T.Qk3) Qc))))) (Qg (Zi T.yI T.yJ hr.hd rfl (zy QB Qc))) Qy)
   (Qa (QO (PW.pt (JZ (Q8 (Za (Qk QhI uN rfl T.Qjo yK.kp Qhp .nil Qn (zy (pv 3) Qc)))) (JP (Q8 (Qd7 Vl Vl Qb (pv 3) (Wp rfl T.Qls)))))) (Qg (Zi T.yI T.yJ hr.hd rfl (zy QB Qc))) Qy)
   (Qg (QO (Q8 (Za (Qk QjV Qjs rfl T.QjK vH.kp QjQ .nil Qn (zy (pv 4) Qc)))) (Qg (Zi T.yI T.yJ hr.hd rfl (zy QB Qc))) Qy)))))),?_⟩
  refine⟨_,rfl,Z9 (E:=E) r1 fun H1 s1=>⟨_,rfl,?_⟩⟩
  cases hw:Zg d1 with
  | false=>exact QE ⟨by show 1<=sizeLine;decide,kb (by unfold Zw;rw[hw];rfl) _ s1⟩
  | true =>
    refine QD ⟨_,rfl,v2,d2,60,rfl,r2.mono s1,_,rfl,?_⟩
    cases ht:VU 60 d2 with
    | false=>exact QE (QE ⟨by show 1<=sizeLine;decide,kb (by unfold Zw;rw[hw,ht];rfl) _ s1⟩)
    | true =>
      cases r2 with
      | @str t h1 h2 =>
        refine QD ⟨_,rfl,_,_,rfl,rfl,_,rfl,?_⟩
        rw[QhZ,StrLaws.found_one]
        by_cases hn:10∈t.cps.toList
        .rw[qt hn]
         exact QE ⟨by show 1<=sizeLine;decide,kb (by unfold Zw;rw[hw,ht,show QbF (.str t)=false by show(!decide (10∈t.cps.toList))=_;rw[qt hn];rfl];rfl) _ s1⟩
        .rw[qz hn]
         have hl:QbF (.str t)=true:=by show(!decide (10∈t.cps.toList))=_;rw[qz hn];rfl
         refine QD ⟨_,rfl,v3,d3,400,rfl,r3.mono s1,_,rfl,?_⟩
         cases hb:VU 400 d3 with
         | false=>exact QE ⟨by show 1<=sizeLine;decide,kb (by unfold Zw;rw[hw,ht,hl,hb];rfl) _ s1⟩
         | true =>
           refine QD ⟨_,rfl,v4,d4,rfl,r4.mono s1,_,rfl,?_⟩
           cases r4 with
           | int i =>
             refine QD ⟨_,rfl,_,_,rfl,rfl,_,rfl,?_⟩
             have fin:Qc5 (.int i)=true->∃v,(L2.start Y7 [v1,.str t,v3,.int i,v5])[4]?=some (some v)/\DR H1 v d5:=fun _=>⟨v5,rfl,r5.mono s1⟩
             by_cases h0:0<=i
             .rw[qt h0]
              refine QE ⟨_,_,rfl,rfl,_,rfl,?_⟩
              by_cases h9:i<=9999
              .rw[qt h9]
               have hd:Qc5 (.int i)=true:=by show(decide (0<=i) && decide (i<=9999))=_;rw[qt h0,qt h9];rfl
               refine QD ⟨_,rfl,v5,d5,rfl,r5.mono s1,fun H2 s2=>⟨_,rfl,?_⟩⟩
               cases ha:XV d5 with
               | false=>exact QE ⟨by show 1<=sizeLine;decide,kb (by unfold Zw;rw[hw,ht,hl,hb,hd,ha];rfl) _ (s1.trans s2)⟩
               | true=>exact QD (kg (by unfold Zw;rw[hw,ht,hl,hb,hd,ha];rfl) _ (s1.trans s2))
              .rw[qz h9]
               exact QE ⟨by show 1<=sizeLine;decide,kb (by unfold Zw;rw[hw,ht,hl,hb,show Qc5 (.int i)=false by show(decide (0<=i) && decide (i<=9999))=_;rw[qz h9,Bool.and_false]];rfl) _ s1⟩
             .rw[qz h0]
              exact QD ⟨_,rfl,QE ⟨by show 1<=sizeLine;decide,kb (by unfold Zw;rw[hw,ht,hl,hb,show Qc5 (.int i)=false by show(decide (0<=i) && decide (i<=9999))=_;rw[qz h0];rfl];rfl) _ s1⟩⟩
           | _=>exact QE (QE ⟨by show 1<=sizeLine;decide,kb (by unfold Zw;rw[hw,ht,hl,hb];rfl) _ s1⟩)
      | _=>cases ht
end
section
variable {P:Program}{w:World}{K:Frag}{mg:Str->Option Value}{base:Heap}{a:yE}
theorem Qeq{fd:FuncData}(F:W3 K "__init__" "Letter.__init__" Jg a.vh fd)(T:Txt K mg a)(FF:Zr K a):QH P w K mg base (CXF P w) 5 a.vh fd ["self","sender","title","body","day","answers"] (QfM a):=by
 obtain⟨fdA,vI,QjR⟩:=FF.vI
 have QjW:=@QcA P w K mg base a _ vI T FF
 refine F.okX Wk (fun _ _ _ _ h=>by cases h;subst_vars;rfl) (fun cdv A outer s H vs Q E hr h=>?_)
 .obtain⟨x,dx,v1,v2,v3,v4,v5,d1,d2,d3,d4,d5,rfl,hx,r1,r2,r3,r4,r5,kg,kb⟩:=h
  have Qjt:Qv 4 _:=hr
  refine⟨_,(Qa (QV (Gk (R:=fun _=>E) QjW Qjt rfl T.QjL vI.kp QjR .nil XB (zy (pv 1) (zy (pv 2) (zy (pv 3) (zy (pv 4) (zy (pv 5) Qc)))))))
   (Qa (Yk (pv 0) (pv 1) rfl)
   (Qa (Yk (pv 0) (pv 2) rfl)
   (Qa (Yk (pv 0) (pv 3) rfl)
   (Qa (Yk (pv 0) (pv 4) rfl)
   (Qa (Yk (pv 0) (pv 5) rfl)
   (Qg (Yk (pv 0) Ke rfl)))))))),?_⟩
  refine⟨_,rfl,_,rfl,_,rfl,_,rfl,_,rfl,v1,v2,v3,v4,v5,d1,d2,d3,d4,d5,rfl,r1,r2,r3,r4,r5,fun hg H1 s1=>?_,kb⟩
  refine⟨_,rfl,_,rfl,x,_,dx,_,rfl,s1 _ _ hx,T.gQ,T.Qi0,by decide,?_⟩
  refine⟨_,rfl,_,rfl,x,_,dx,_,rfl,Qf,T.gQ,T.Qjk,(by show 1<1000;decide),?_⟩
  refine⟨_,rfl,_,rfl,x,_,dx,_,rfl,Qf,T.gQ,T.QjI,(by show 2<1000;decide),?_⟩
  refine⟨_,rfl,_,rfl,x,_,dx,_,rfl,Qf,T.gQ,T.Qkm,(by show 3<1000;decide),?_⟩
  refine⟨_,rfl,_,rfl,x,_,dx,_,rfl,Qf,T.gQ,T.QiJ,(by show 4<1000;decide),?_⟩
  refine⟨_,rfl,x,_,dx,_,rfl,Qf,T.gQ,T.Qjl,(by show 5<1000;decide),?_⟩
  refine kg hg _ (fun c o ne e=>?_)
  rw[Qj ne,Qj ne,Qj ne,Qj ne,Qj ne,Qj ne]
  exact s1 _ _ e
theorem Qgk{fd:FuncData}(F:jZ K "letter_of" "letter_of" Yc a.wO fd)(T:Txt K mg a)(FF:Zr K a):QH P w K mg base (CXF P w) 7 a.wO fd ["thing"] (QhE a):=by
 obtain⟨fdI,gn,QjS,_⟩:=FF.gn
 have QjX:=@Qeq P w K mg base a _ gn T FF
 refine F.okX X6 (fun _ _ _ _ h=>by cases h;subst_vars;rfl) (fun cdv A outer s H vs Q E hr h=>?_)
 .obtain⟨v,d,rfl,r,kg,kb⟩:=h
  have Qku:Qv 6 _:=hr
  refine⟨_,(Qa (QO (PW.pt (JZ (Q8 (Za (Qr QF rfl T.ji boot_isinstance (zy (pv 0) (zy (Ze (v:=.ty "tuple") rfl T.QkB boot_tuple rfl) Qc))))) (JP (Qu Qbv (Qr QA rfl T.xg zE (zy (pv 0) Qc)) Qb)))) (Qg (Zi T.yI T.yJ hr.hd rfl (zy QB Qc))) Qy)
   (Qg (Qs (Qec (R:=fun _=>E) T.QmR QjX Qku rfl T.QlV QjS .nil XB (zy (Qp Qz (pv 0) Qb) (zy (Qp Qz (pv 0) Qb) (zy (Qp Qz (pv 0) Qb) (zy (Qp Qz (pv 0) Qb) (zy (Qp Qz (pv 0) Qb) Qc))))))))),?_⟩
  refine⟨_,rfl,_,_,_,_,_,rfl,rfl,r.ty,QeK d,_,rfl,?_⟩
  cases r with
  | @tup p xs ds e rs =>
    refine QD ⟨_,rfl,p,_,rfl,.inr (yu.of e),rfl,_,rfl,?_⟩
    have hl:=rs.len
    by_cases h5:ds.length=5
    .rw[show(!decide (V.int ((xs.length:Nat):Int)=V.int 5))=false by rw[hl,h5];rfl]
     refine QD ?_
     match ds,h5,rs with
     | [d1,d2,d3,d4,d5],_,.cons (x:=v1) r1 (.cons (x:=v2) r2 (.cons (x:=v3) r3 (.cons (x:=v4) r4 (.cons (x:=v5) r5 .nil)))) =>
       refine⟨_,rfl,p,_,_,_,rfl,rfl,yu.of e,rfl,_,rfl,p,_,_,_,rfl,rfl,yu.of e,rfl,_,rfl,p,_,_,_,rfl,rfl,yu.of e,rfl,_,rfl,p,_,_,_,rfl,rfl,yu.of e,rfl,_,rfl,p,_,_,_,rfl,rfl,yu.of e,rfl,?_⟩
       intro x dx nx nd ne
       have s1:Qi H (upd (upd H dx (.own x)) x (.ins a.yL dx [])):=fun c o e=>by rw[Qj (Qd e nx),Qj (Qd e nd)];exact e
       refine⟨x,dx,v1,v2,v3,v4,v5,d1,d2,d3,d4,d5,rfl,Qf,r1.mono s1,r2.mono s1,r3.mono s1,r4.mono s1,r5.mono s1,fun hg H2 k2=>⟨rfl,kg hg _ _ fun c o e=>k2 c o (Qd e nx) (s1 _ _ e)⟩,fun hb H2 s2=>kb hb _ (s1.trans s2)⟩
    .rw[show(!decide (V.int ((xs.length:Nat):Int)=V.int 5))=true by rw[hl,qz fun z=>h5 (by have:=V.int.inj z;omega)];rfl]
     refine QE ⟨by show 1<=sizeLine;decide,kb ?_ _ (Qi.refl _)⟩
     unfold JR
     split
     .rename_i z;cases z;exact absurd rfl h5
     .rfl
  | _=>exact QE (QE ⟨by show 1<=sizeLine;decide,kb rfl _ (Qi.refl _)⟩)
theorem Qcw{fd:FuncData}(F:jZ K "are_parts" "are_parts" Yg a.wQ fd)(T:Txt K mg a)(FF:Zr K a):QH P w K mg base vV 8 a.wQ fd ["thing"] QdG:=by
 obtain⟨fdI,wW,Qk9⟩:=FF.wW
 have Qlf:=@Qgk P w K mg base a _ wW T FF
 refine F.ok X7 (fun _ _ _ _ h=>by cases h;subst_vars;rfl) (fun cdv A outer s H vs Q E hr h=>?_)
 .obtain⟨v,d,rfl,r,k⟩:=h
  have Qkr:Qv 7 _:=hr
  refine⟨_,(Qa (Kd (R:=fun _ c _ H'=>c=.ref a.yt/\JR d=false/\Qi H H') rfl T.yJ T.yI rfl rfl (fun σ C H' q=>by obtain⟨e,_⟩:=q;cases e;exact⟨T.yI,T.Qf0⟩) (fun pn=>Qg (QV (Gk (R:=fun _ c _ H'=>c=.ref a.yt/\JR d=false/\Qi H H') Qlf Qkr rfl T.QkZ wW.kp Qk9 .nil Qeg (zy (pv 0) Qc)))) (fun ev=>Qg (Qs ZW)))
   (Qg (Qs ZW))),?_⟩
  refine⟨fun σ' C H' hq=>?_,?_⟩
  .obtain⟨_,hp,sH⟩:=hq
   have:=k _ sH
   rw[hp] at this
   exact this
  .refine⟨_,rfl,v,d,rfl,r,fun hp u H' sH=>?_,fun hp H' sH=>⟨rfl,hp,sH⟩⟩
   have:=k _ sH
   rw[hp] at this
   exact this
end
inductive Xm(vs:List V)(H:Hp)(Q:VK):Prop
 | mk:∀(v:V)(d:Dt),vs=[v]->DR H v d->(∀H',Qi H H'->Q (.bl (Y9 d)) H')->Xm vs H Q
def QfP:Sp:=fun vs H Q _=>Xm vs H Q
inductive V5(vs:List V)(H:Hp)(Q:VK):Prop
 | mk:∀(v:V)(d:Dt),vs=[v]->DR H v d->(∀H',Qi H H'->Q (.bl (Zv d)) H')->V5 vs H Q
def QdF:Sp:=fun vs H Q _=>V5 vs H Q
theorem Qe8(f g:Str)(n m:Int):PyData.eqv (.tuple [.str f,.int n]) (.tuple [.str g,.int m])=(decide (f=g) && decide (n=m)):=by
 have e:PyData.eqv (.tuple [.str f,.int n]) (.tuple [.str g,.int m])=(decide (f=g) && (decide (n=m) && true)):=rfl
 rw[e,QlA]
theorem Vk{f:Str}(n:Int)(h:Asc f):SeqAt.shaped (.tuple [.str f,.int n])=true:=by
 unfold SeqAt.shaped
 have:=(GH (xs:=[f]) fun y hy=>by rw[qg.mp hy];exact h).1
 have e:(PyData.canLay0 (.str f) && true)=true:=this
 rw[QlA] at e
 have e1:PyData.canLay0 (.tuple [.str f,.int n])=(PyData.canLay0 (.str f) && (true && true)):=rfl
 rw[e1,e]
 rfl
theorem KG:Asc "put":=by intro c hc;revert c;decide +kernel
theorem Ve:Asc "place":=by intro c hc;revert c;decide +kernel
theorem WK:Asc "mark":=by intro c hc;revert c;decide +kernel
theorem WL:Asc "drop":=by intro c hc;revert c;decide +kernel
theorem VL{K:Frag}{σ:St}{H:Hp}{Q:VK}{p:Addr}{f g:Str}{n m:Int}(h0:σ[1]?=some (some (.ref p)))(hp:H p=some (.tup [.str f,.int n]))(hf:Asc f)(hg:Asc g)(k:∀H',Qi H H'->Q (.bl (decide (f=g) && decide (n=m))) H') :
 tOp (QnG K) (Qam 1) (QoO (VX (tC (.str g)) (VX (tC (.int m)) Qdx))) σ H Q:=by
 refine⟨_,h0,UW,fun q hq=>?_⟩
 have s1:Qi H (upd H q (.tup [.str g,.int m])):=Qi.zT hq
 refine⟨_,_,.tup (yu.of (s1 _ _ hp)) (.cons (.str f) (.cons (.int n) .nil)),.tup (yu.of Qf) (.cons (.str g) (.cons (.int m) .nil)),Vk n hf,Vk m hg,?_⟩
 rw[Qe8]
 exact k _ s1
theorem at0{x:V}{xs:List V}:atI (x :: xs) 0=some x:=Zt (j:=0) rfl
theorem at1{x y:V}{xs:List V}:atI (x :: y :: xs) 1=some y:=Zt (j:=1) rfl
theorem at2{x y z:V}{xs:List V}:atI (x :: y :: z :: xs) 2=some z:=Zt (j:=2) rfl
theorem at3{x y z u:V}{xs:List V}:atI (x :: y :: z :: u :: xs) 3=some u:=Zt (j:=3) rfl
section
variable {P:Program}{w:World}{K:Frag}{mg:Str->Option Value}{base:Heap}{a:yE}
theorem Qes{fd:FuncData}(F:jZ K "is_deed" "is_deed" UG a.u5 fd)(T:Txt K mg a)(FF:Zr K a):QH P w K mg base vV 9 a.u5 fd ["thing"] QfP:=by
 obtain⟨fdA,jR,kI⟩:=FF.jR
 have kJ:=@U6 P w K mg base a _ jR T FF
 obtain⟨fdB,wX,Qla⟩:=FF.wX
 have Qlg:=@Qcw P w K mg base a _ wX T FF
 refine F.ok Wh (fun _ _ _ _ h=>by cases h;subst_vars;rfl) (fun cdv A outer s H vs Q E hr h=>?_)
 .obtain⟨v,d,rfl,r,k⟩:=h
  have xm:Qv 2 _:=hr.mono (by decide)
  have Qks:Qv 8 _:=hr
  have xM:=hr.units
  refine⟨_,(Qa (QO (PW.pt (JZ (Q8 (Za (Qr QF rfl T.ji boot_isinstance (zy (pv 0) (zy (Ze (v:=.ty "tuple") rfl T.QkB boot_tuple rfl) Qc))))) (JZ (Qu Qbw (Qr QA rfl T.xg zE (zy (pv 0) Qc)) Qb) (JZ (Q8 (Za (Qr QF rfl T.ji boot_isinstance (zy (Qp Qz (pv 0) Qb) (zy (Ze (v:=.ty "str") rfl T.Qix boot_str rfl) Qc))))) (JP (Q8 (Za (Qk kJ xm rfl T.gP jR.kp kI .nil Qn (zy (Qp Qz (pv 0) Qb) Qc))))))))) (Qg (Qs ZW)) Qy)
   (Qa (Qm (i:=1) Wh.nd rfl (Or.inl rfl) (Z4 (Qe (Qp Qz (pv 0) Qb) (Qe (Qr QA rfl T.xg zE (zy (pv 0) Qc)) Qo))))
   (Qa (QO (Qu (Uf xM) (pv 1) (Z4 (Qe QB (Qe Qb Qo)))) (Qg (Qs (Qk Qlg Qks rfl T.Qk0 wX.kp Qla .nil Qn (zy (Qp Qz (pv 0) Qb) Qc)))) Qy)
   (Qa (QO (Qu (Uf xM) (pv 1) (Z4 (Qe QB (Qe Qb Qo)))) (Qg (Qs (Qk kJ xm rfl T.gP jR.kp kI .nil Qn (zy (Qp Qz (pv 0) Qb) Qc)))) Qy)
   (Qa (QO (Qu (Uf xM) (pv 1) (Z4 (Qe QB (Qe Qb Qo)))) (Qg (Qs (Z0 (Qk kJ xm rfl T.gP jR.kp kI .nil Qn (zy (Qp Qz (pv 0) Qb) Qc)) (JQ (Qr QF rfl T.ji boot_isinstance (zy (Qp Qz (pv 0) Qb) (zy (Ze (v:=.ty "bool") rfl T.Qm7 boot_bool rfl) Qc))))))) Qy)
   (Qg (Qs (Z5 (Uf xM) (pv 1) (Z4 (Qe QB (Qe Qb Qo))))))))))),?_⟩
  refine⟨_,rfl,_,_,_,_,_,rfl,rfl,r.ty,QeK d,_,rfl,?_⟩
  cases r with
  | @tup p xs ds e rs =>
    have hl:=rs.len
    refine QD ⟨_,rfl,p,_,rfl,.inr (yu.of e),_,_,rfl,rfl,_,rfl,?_⟩
    match ds,rs with
    | [],.nil=>exact QE (QE (k _ (Qi.refl _)))
    | [d0],.cons r0 .nil =>
      have:Y9 (.tup [d0])=false:=by cases d0 <;> rfl
      rw[<-this]
      exact QE (QE (by rw[this];have:=k _ (Qi.refl _);rwa[show Y9 (.tup [d0])=false by assumption] at this))
    | d0 :: d1 :: dr,.cons (x:=v0) r0 (.cons (x:=v1) (xs:=vr) r1 rr) =>
      rw[qz (by simp only[zm];omega)]
      refine QD ⟨_,rfl,p,_,_,_,rfl,rfl,yu.of e,at0,_,_,_,_,_,rfl,rfl,r0.ty,QbG d0,_,rfl,?_⟩
      cases r0 with
      | @str f hf1 hf2 =>
        refine QD ⟨_,rfl,p,_,_,_,rfl,rfl,yu.of e,at1,Z9 (E:=E) r1 fun H1 s1=>⟨_,rfl,?_⟩⟩
        cases hw:Zg d1 with
        | false =>
          refine QE ?_
          have:=k _ s1
          rwa[show Y9 (.tup (.str f :: d1 :: dr))=false by show(Zg d1 && Zx f dr)=false;rw[hw];rfl] at this
        | true =>
          have hk:∀H',Qi H H'->Q (.bl (Zx f dr)) H':=fun H' s'=>by
           have:=k _ s'
           rwa[show Y9 (.tup (.str f :: d1 :: dr))=Zx f dr by show(Zg d1 && Zx f dr)=_;rw[hw];rfl] at this
          have e1:=s1 _ _ e
          refine QD ⟨_,rfl,p,_,_,_,rfl,rfl,yu.of e1,at0,_,rfl,p,_,rfl,.inr (yu.of e1),UW,fun q hq=>?_⟩
          have s2:Qi H1 (upd H1 q (.tup [.str f,.int ((V.str f :: v1 :: vr).length:Nat)])):=Qi.zT hq
          have e2:(upd H1 q (.tup [.str f,.int ((V.str f :: v1 :: vr).length:Nat)])) q=some (.tup [.str f,.int ((V.str f :: v1 :: vr).length:Nat)]):=Qf
          have hlr:=rr.len
          have hn:(((V.str f :: v1 :: vr).length:Nat):Int)=dr.length+2:=by simp only[zm];omega
          show Qnz _ _ _ _ (upd H1 q (.tup [.str f,.int ((V.str f :: v1 :: vr).length:Nat)]))
          generalize upd H1 q (.tup [.str f,.int ((V.str f :: v1 :: vr).length:Nat)])=H2 at s2 e2
          have s02:=s1.trans s2
          have e02:=s02 _ _ e
          have rr2:=rr.mono s02
          refine VL (K:=K) rfl e2 hf2 KG fun H3 s3=>⟨_,rfl,?_⟩
          rw[hn]
          have s03:=s02.trans s3
          have e03:=s03 _ _ e
          by_cases hp:f="put"/\dr.length=1
          .rw[show(decide (f="put") && decide ((dr.length:Int)+2=3))=true by rw[qt hp.1,qt (by omega)];rfl]
           have ht:Zx f dr=JR (dr.getD 0 .non):=qj hp
           rw[ht] at hk
           match dr,hp.2,rr with
           | [d2],_,.cons (x:=v2) r2 .nil=>exact QE ⟨_,rfl,p,_,_,_,rfl,rfl,yu.of e03,at2,v2,d2,rfl,r2.mono s03,fun H4 s4=>hk _ (s03.trans s4)⟩
          rw[show(decide (f="put") && decide ((dr.length:Int)+2=3))=false by
           by_cases h:f="put"
           .rw[qt h,qz (fun z=>hp ⟨h,by omega⟩)];rfl
           .rw[qz h];rfl]
          refine QD (VL (K:=K) rfl (s3 _ _ e2) hf2 Ve fun H4 s4=>⟨_,rfl,?_⟩)
          rw[hn]
          have s04:=s03.trans s4
          have e04:=s04 _ _ e
          by_cases hq2:f="place"/\dr.length=1
          .rw[show(decide (f="place") && decide ((dr.length:Int)+2=3))=true by rw[qt hq2.1,qt (by omega)];rfl]
           have ht:Zx f dr=Zg (dr.getD 0 .non):=(ql hp).trans (qj hq2)
           rw[ht] at hk
           match dr,hq2.2,rr with
           | [d2],_,.cons (x:=v2) r2 .nil=>exact QE ⟨_,rfl,p,_,_,_,rfl,rfl,yu.of e04,at2,Z9 (E:=E) (r2.mono s04) fun H5 s5=>hk _ (s04.trans s5)⟩
          rw[show(decide (f="place") && decide ((dr.length:Int)+2=3))=false by
           by_cases h:f="place"
           .rw[qt h,qz (fun z=>hq2 ⟨h,by omega⟩)];rfl
           .rw[qz h];rfl]
          refine QD (VL (K:=K) rfl (s4 _ _ (s3 _ _ e2)) hf2 WK fun H5 s5=>⟨_,rfl,?_⟩)
          rw[hn]
          have s05:=s04.trans s5
          have e05:=s05 _ _ e
          by_cases hm:f="mark"/\dr.length=2
          .rw[show(decide (f="mark") && decide ((dr.length:Int)+2=4))=true by rw[qt hm.1,qt (by omega)];rfl]
           have ht:Zx f dr=(Zg (dr.getD 0 .non) && isB (dr.getD 1 .non)):=(ql hp).trans ((ql hq2).trans (qj hm))
           rw[ht] at hk
           match dr,hm.2,rr with
           | [d2,d3],_,.cons (x:=v2) r2 (.cons (x:=v3) r3 .nil) =>
             refine QE ⟨_,rfl,p,_,_,_,rfl,rfl,yu.of e05,at2,Z9 (E:=E) (r2.mono s05) fun H6 s6=>⟨_,rfl,?_⟩⟩
             have s06:=s05.trans s6
             have hk6:=hk
             cases hw2:Zg d2 with
             | false =>
               refine QD ?_
               have:=hk _ s06
               rwa[show(Zg ([d2,d3].getD 0 .non) && isB ([d2,d3].getD 1 .non))=false by show(Zg d2 && isB d3)=false;rw[hw2];rfl] at this
             | true =>
               refine QE ⟨_,rfl,p,_,_,_,rfl,rfl,yu.of (s06 _ _ e),at3,_,_,_,_,_,rfl,rfl,(r3.mono s06).ty,QeL d3,?_⟩
               have:=hk _ s06
               rwa[show(Zg ([d2,d3].getD 0 .non) && isB ([d2,d3].getD 1 .non))=isB d3 by show(Zg d2 && isB d3)=_;rw[hw2];rfl] at this
          rw[show(decide (f="mark") && decide ((dr.length:Int)+2=4))=false by
           by_cases h:f="mark"
           .rw[qt h,qz (fun z=>hm ⟨h,by omega⟩)];rfl
           .rw[qz h];rfl]
          refine QD (VL (K:=K) rfl (s5 _ _ (s4 _ _ (s3 _ _ e2))) hf2 WL fun H6 s6=>?_)
          rw[hn]
          have ht:Zx f dr=decide (f="drop"/\dr.length=0):=(ql hp).trans ((ql hq2).trans (ql hm))
          have e6:(decide (f="drop") && decide ((dr.length:Int)+2=2))=decide (f="drop"/\dr.length=0):=by
           by_cases h:f="drop"
           .by_cases h':dr.length=0
            .rw[qt h,qt (show(dr.length:Int)+2=2 by omega),qt ⟨h,h'⟩];rfl
            .rw[qt h,qz (show ¬(dr.length:Int)+2=2 by omega),qz fun z=>h' z.2];rfl
           .rw[qz h,yw];exact(qz fun z:f="drop"/\dr.length=0=>h z.1).symm
          rw[e6,<-ht]
          exact hk _ (s05.trans s6)
      | _ =>
        refine QE (QE ?_)
        have:=k _ (Qi.refl _)
        exact this
  | _=>exact QE (QE (k _ (Qi.refl _)))
theorem Qcv{fd:FuncData}(F:jZ K "is_stamped" "is_stamped" JG a.v9 fd)(T:Txt K mg a)(FF:Zr K a):QH P w K mg base vV 10 a.v9 fd ["thing"] QdF:=by
 obtain⟨fdA,xU,Qiz⟩:=FF.xU
 obtain⟨fdB,xu,QiM⟩:=FF.xu
 obtain⟨fdC,Qfw,Qmc⟩:=FF.Qfw
 have QiB:=@Qcz P w K mg base a _ xU T FF
 have QiQ:=@Go P w K mg base a _ xu T FF
 have Qmk:=@Qes P w K mg base a _ Qfw T FF
 refine F.ok WR (fun _ _ _ _ h=>by cases h;subst_vars;rfl) (fun cdv A outer s H vs Q E hr h=>?_)
 .obtain⟨v,d,rfl,r,k⟩:=h
  have Qgs:Qv 2 _:=hr.mono (by decide)
  have Qlp:Qv 2 _:=hr.mono (by decide)
  have Qlq:Qv 9 _:=hr
  refine⟨_,(Qa (QO (PW.pt (JZ (Q8 (Za (Qr QF rfl T.ji boot_isinstance (zy (pv 0) (zy (Ze (v:=.ty "tuple") rfl T.QkB boot_tuple rfl) Qc))))) (JP (Qu Qbv (Qr QA rfl T.xg zE (zy (pv 0) Qc)) Qb)))) (Qg (Qs ZW)) Qy)
   (Qg (Qs (Z0 (Qk QiB Qgs rfl T.Qir xU.kp Qiz .nil Qn (zy (Qp Qz (pv 0) Qb) Qc)) (Z0 (Qk QiQ Qlp rfl T.Qj6 xu.kp QiM .nil Qn (zy (Qp Qz (pv 0) Qb) Qc)) (Z0 (Qk QiB Qgs rfl T.Qir xU.kp Qiz .nil Qn (zy (Qp Qz (pv 0) Qb) Qc)) (JQ (Qk Qmk Qlq rfl T.Ql0 Qfw.kp Qmc .nil Qn (zy (Qp Qz (pv 0) Qb) Qc))))))))),?_⟩
  refine⟨_,rfl,_,_,_,_,_,rfl,rfl,r.ty,QeK d,_,rfl,?_⟩
  cases r with
  | @tup p xs ds e rs =>
    refine QD ⟨_,rfl,p,_,rfl,.inr (yu.of e),rfl,_,rfl,?_⟩
    have hl:=rs.len
    by_cases h4:ds.length=4
    .rw[show(!decide (V.int ((xs.length:Nat):Int)=V.int 4))=false by rw[hl,h4];rfl]
     refine QD ?_
     match ds,h4,rs with
     | [d0,d1,d2,d3],_,.cons (x:=v0) r0 (.cons (x:=v1) r1 (.cons (x:=v2) r2 (.cons (x:=v3) r3 .nil))) =>
       have hk:∀H',Qi H H'->Q (.bl (Um d0 && (WE d1 && (Um d2 && Y9 d3)))) H':=k
       refine⟨_,rfl,p,_,_,_,rfl,rfl,yu.of e,rfl,v0,d0,rfl,r0,_,rfl,?_⟩
       cases h0:Um d0 with
       | false=>rw[h0,yw] at hk;exact QD (hk _ (Qi.refl _))
       | true =>
         rw[h0,jm] at hk
         refine QE ⟨_,rfl,p,_,_,_,rfl,rfl,yu.of e,rfl,v1,d1,rfl,r1,fun H1 s1=>⟨_,rfl,?_⟩⟩
         cases h1:WE d1 with
         | false=>rw[h1,yw] at hk;exact QD (hk _ s1)
         | true =>
           rw[h1,jm] at hk
           refine QE ⟨_,rfl,p,_,_,_,rfl,rfl,yu.of (s1 _ _ e),rfl,v2,d2,rfl,r2.mono s1,_,rfl,?_⟩
           cases h2:Um d2 with
           | false=>rw[h2,yw] at hk;exact QD (hk _ s1)
           | true =>
             rw[h2,jm] at hk
             exact QE ⟨_,rfl,p,_,_,_,rfl,rfl,yu.of (s1 _ _ e),rfl,v3,d3,rfl,r3.mono s1,fun H2 s2=>hk _ (s1.trans s2)⟩
    .rw[show(!decide (V.int ((xs.length:Nat):Int)=V.int 4))=true by rw[hl,qz fun z=>h4 (by have:=V.int.inj z;omega)];rfl]
     refine QE ?_
     have:=k _ (Qi.refl _)
     rwa[show Zv (.tup ds)=false by
      unfold Zv
      split
      .rename_i z;cases z;exact absurd rfl h4
      .rfl] at this
  | _=>exact QE (QE (k _ (Qi.refl _)))
end
theorem GU{lo:Int}{n:Nat}{fr:List (Nat×Str)}{te:TE}{σ:St}{H1:Hp}{Q:VK}(Pv:Addr->Nat->List V->Hp->Prop)(hz:n<=sizeLine)(h0:∀D,H1 D=none->Pv D 0 [] (upd H1 D (.lst [])))(hlen:∀D i ys H,Pv D i ys H->ys.length=i)
 (hte:∀(D:Addr)(i:Nat)(ys:List V)(H3:Hp)(Q':VK),i<n->H1 D=none->Pv D i ys H3->H3 D=some (.lst ys)->(∀y H5,H5 D=some (.lst ys)->Pv D (i+1) (ys++[y]) (upd H5 D (.lst (ys++[y])))->Q' y H5)->te (some (.int (lo+i)) :: frV σ fr) H3 Q')
 (hQ:∀D ys H2,H1 D=none->Pv D n ys H2->H2 D=some (.lst ys)->Q (.ref D) H2) :
 Zj (Itr lo n) fr KQ te σ H1 Q:=by
 unfold Zj
 intro D hD
 refine⟨fun i m ys H2=>m=n - i/\i<=n/\Pv D i ys H2/\H2 D=some (.lst ys),⟨n,by simp,qP _,h0 D hD,Qf⟩,?_⟩
 rintro i m ys H2 ⟨rfl,hi,p,d2⟩
 refine⟨d2,?_⟩
 by_cases hlt:i<n
 .refine .inr ⟨hlt,?_⟩
  rintro v H3 ⟨rfl,rfl⟩
  refine VV (QE ?_)
  refine hte D i ys _ _ hlt hD p d2 fun y H5 d5 p'=>⟨d5,?_,n - (i+1),by omega,rfl,hlt,p',Qf⟩
  rw[hlen D i ys _ p];omega
 .have e:i=n:=by omega
  subst e
  exact .inl ⟨qp _,hQ D ys H2 hD p d2⟩
structure yS(K:Frag)(H:Hp)(st sc:Addr)(ls:List Int):Prop where
 at_:∃n c:Int,H st=some (.lst [.int n,.ref sc,.int c])/\0<=n/\n<2147483647
 sq:jk K H sc (ls.map V.int)
theorem yS.of{K:Frag}{H H':Hp}{st sc:Addr}{ls:List Int}(h:yS K H st sc ls)(s:Qi H H'):yS K H' st sc ls:=⟨let ⟨n,c,e,b⟩:=h.at_;⟨n,c,s _ _ e,b⟩,s.seq h.sq⟩
theorem sq_sx{K:Frag}{H H':Hp}{st sc sd:Addr}{ls:List Int}{n c:Int}(s:SX st H H')(e:H st=some (.lst [.int n,.ref sd,.int c]))(h:jk K H sc (ls.map V.int)):jk K H' sc (ls.map V.int):=by
 rcases h with(h | ⟨o,h⟩) | h
 .refine .inl (.inl (s _ _ (fun z=>?_) h))
  rw[z,e] at h
  have h:=HO.lst.inj (zg h)
  match ls,h with
  | _ :: _ :: _,h=>exact nomatch (uC (uC h).2).1
 .refine .inl (.inr ⟨o,s _ _ (fun z=>?_) h⟩)
  rw[z,e] at h
  cases h
 .exact .inr h
theorem yS.lst{K:Frag}{H:Hp}{st sc:Addr}{ls:List Int}(h:yS K H st sc ls):∃xs,H st=some (.lst xs):=let ⟨_,_,e,_⟩:=h.at_;⟨_,e⟩
inductive Xo(K:Frag)(vs:List V)(H:Hp)(Q:VK):Prop
 | mk:∀(sc:Addr)(ls:List Int),vs=[.ref sc]->jk K H sc (ls.map V.int)->ls.length<=63->(∀st,H st=none->∀H',Qi H H'->yS K H' st sc ls->Q (.ref st) H')->Xo K vs H Q
def QfR(K:Frag):Sp:=fun vs H Q _=>Xo K vs H Q
inductive K3(K:Frag)(vs:List V)(H:Hp)(Q:VK):Prop
 | mk:∀(st sc:Addr)(ls:List Int),vs=[.ref st]->yS K H st sc ls->ls.length<=63->(∀(r:Int) H',0<=r->r<33554432->SX st H H'->yS K H' st sc ls->Q (.int r) H')->K3 K vs H Q
def QhD(K:Frag):Sp:=fun vs H Q _=>K3 K vs H Q
section
variable {P:Program}{w:World}{K:Frag}{mg:Str->Option Value}{base:Heap}{a:yE}
theorem Qeu{fd:FuncData}(F:jZ K "_law_begin" "_law_begin" UB a.uW fd)(T:Txt K mg a):QH P w K mg base vV 1 a.uW fd ["_law_script"] (QfR K):=by
 refine F.ok Qav (fun _ _ _ _ h=>by cases h;subst_vars;rfl) (fun cdv A outer s H vs Q E hr h=>?_)
 .obtain⟨sc,ls,rfl,hq,hl,k⟩:=h
  refine⟨_,(Qg (Qs (YZ (Qe (Qt QQ (Qr QA rfl T.xg zE (zy (pv 0) Qc)) Qb) (Qe (pv 0) (Qe Qb Qo)))))),?_⟩
  refine⟨_,rfl,sc,_,rfl,.inl hq,_,_,rfl,rfl,_,rfl,Qb7,fun st hst=>?_⟩
  have s1:Qi H (upd H st (.lst [.int (((ls.map V.int).length:Nat)+7),.ref sc,.int 0])):=Qi.zT hst
  exact k st hst _ s1 ⟨⟨_,_,Qf,by omega,by rw[qd];omega⟩,s1.seq hq⟩
theorem Jm{fd:FuncData}(F:jZ K "_law_next" "_law_next" VB a.Qiu fd)(T:Txt K mg a):QH P w K mg base vV 1 a.Qiu fd ["_law_state"] (QhD K):=by
 refine F.ok U1 (fun _ _ _ _ h=>by cases h;subst_vars;rfl) (fun cdv A outer s H vs Q E hr h=>?_)
 .obtain⟨st,sc,ls,rfl,sa,hl,k⟩:=h
  obtain⟨⟨n,c,e,n0,n1⟩,hq⟩:=sa
  have hlm:(ls.map V.int).length<=63:=by rw[qd];exact hl
  refine⟨_,(Qa (Qm (i:=1) U1.nd rfl (Or.inl rfl) Qb)
   (Qa (QO (Qu XD (Qr QA rfl T.xg zE (zy (Qp QS (pv 0) Qb) Qc)) Qb) (Qg (Qm (i:=1) U1.nd rfl (Or.inl rfl) (Qp QS (Qp QS (pv 0) Qb) (Qt QM (Qp QS (pv 0) Qb) (Qr QA rfl T.xg zE (zy (Qp QS (pv 0) Qb) Qc)))))) Qy)
   (Qa (QaB (Qt QQ (Qp QS (pv 0) Qb) Qb) (QaD (pv 0) Qb Wg))
   (Qa (QaB (Qt QM (Qt QQ (Qt QQ (Qt Qej (Qp QS (pv 0) Qb) Qb) (pv 1)) (Qp QS (pv 0) Qb)) Qb) (QaD (pv 0) Qb Wg))
   (Qg (Qs (Qt Qgg (Qp QS (pv 0) Qb) Qb))))))),?_⟩
  refine Zy fun N1 hN1=>?_
  show N1 _ _
  subst hN1
  refine Zy fun N hN=>?_
  have rest:∀cell:Int,N [some (.ref st),some (.int cell)] H:=fun cell=>by
   subst hN
   refine⟨_,rfl,st,_,_,_,rfl,rfl,jk.of e,rfl,_,_,rfl,rfl,?_⟩
   refine⟨_,rfl,st,_,_,_,rfl,rfl,e,rfl,?_⟩
   have e1:(upd H st (.lst [.int n,.ref sc,.int (c+1)])) st=some (.lst [.int n,.ref sc,.int (c+1)]):=Qf
   have x1:SX st H (upd H st (.lst [.int n,.ref sc,.int (c+1)])):=fun b o nb q=>by rw[Qj nb];exact q
   show Qnz _ _ _ _ (upd H st (.lst [.int n,.ref sc,.int (c+1)]))
   generalize upd H st (.lst [.int n,.ref sc,.int (c+1)])=H1 at e1 x1
   refine⟨_,rfl,st,_,_,_,rfl,rfl,jk.of e1,rfl,_,_,rfl,rfl,.inr ⟨by decide,by decide⟩,_,rfl,_,_,rfl,rfl,_,rfl,st,_,_,_,rfl,rfl,jk.of e1,rfl,_,_,rfl,rfl,_,_,rfl,rfl,WM,?_⟩
   refine⟨_,rfl,st,_,_,_,rfl,rfl,e1,rfl,?_⟩
   have m0:=zP (n*48271+cell+(c+1)) (b:=2147483647) (by decide)
   have m1:=zN (n*48271+cell+(c+1)) (b:=2147483647) (by decide)
   generalize (n*48271+cell+(c+1)) % 2147483647=m at m0 m1
   have e2:(upd H1 st (.lst [.int m,.ref sc,.int (c+1)])) st=some (.lst [.int m,.ref sc,.int (c+1)]):=Qf
   have x2:SX st H (upd H1 st (.lst [.int m,.ref sc,.int (c+1)])):=fun b o nb q=>by rw[Qj nb];exact x1 b o nb q
   show JV.nx _ _ (upd H1 st (.lst [.int m,.ref sc,.int (c+1)]))
   generalize upd H1 st (.lst [.int m,.ref sc,.int (c+1)])=H2 at e2 x2
   exact⟨_,rfl,st,_,_,_,rfl,rfl,jk.of e2,rfl,_,_,rfl,rfl,⟨by decide,by decide⟩,k _ H2 (by omega) (by omega) x2 ⟨⟨_,_,e2,m0,m1⟩,sq_sx x2 e hq⟩⟩
  refine⟨_,rfl,st,_,_,_,rfl,rfl,jk.of e,rfl,sc,_,rfl,.inl hq,_,_,rfl,rfl,_,rfl,?_⟩
  by_cases h0:0<(ls.map V.int).length
  .rw[qt (by omega)]
   obtain⟨v,hv,hvm,_⟩:=VO (xs:=ls.map V.int) c h0
   obtain⟨z,_,rfl⟩:=zq.mp hvm
   exact QE ⟨_,rfl,st,_,_,_,rfl,rfl,jk.of e,rfl,_,rfl,st,_,_,_,rfl,rfl,jk.of e,rfl,_,rfl,st,_,_,_,rfl,rfl,jk.of e,rfl,sc,_,rfl,.inl hq,_,_,rfl,rfl,by omega,sc,_,_,_,rfl,rfl,hq,hv,rest z⟩
  .rw[qz (by omega)]
   exact QD (rest 0)
end
structure WIn(sg:Str)(m:Int)(x:Str):Prop where
 lo:1<=x.length
 hi:(x.length:Int)<=m
 in_:∀c∈x.cps.toList,c∈sg.cps.toList
inductive K0(K:Frag)(vs:List V)(H:Hp)(Q:VK):Prop
 | mk:∀(st sc:Addr)(ls:List Int)(sg:Str)(m:Int),vs=[.ref st,.str sg,.int m]->yS K H st sc ls->ls.length<=63->1<=m->m<=100->0<sg.cps.toList.length->sg.length<=1000->(∀x H',WIn sg m x->SX st H H'->yS K H' st sc ls->Q (.str x) H')->K0 K vs H Q
def Qhz(K:Frag):Sp:=fun vs H Q _=>K0 K vs H Q
inductive Vj(K:Frag)(vs:List V)(H:Hp)(Q:VK):Prop
 | mk:∀(st sc:Addr)(ls:List Int),vs=[.ref st]->yS K H st sc ls->ls.length<=63->(∀x H',Q6 x->SX st H H'->yS K H' st sc ls->Q (.str x) H')->Vj K vs H Q
def Qcg(K:Frag):Sp:=fun vs H Q _=>Vj K vs H Q
theorem QgK{m r z:Int}(hm:1<=m)(z0:0<=z)(z1:z<4):∃y:Int,atI [V.int 1,V.int 2,V.int m,V.int (1+r % m)] z=some (.int y)/\1<=y/\(y<=m\/m<y):=by
 have h0:=zP r (b:=m) (by omega)
 obtain⟨n,rfl⟩:=jx z0
 have h1:n<4:=Int.ofNat_lt.mp z1
 match n,h1 with
 | 0,_=>exact⟨1,rfl,by decide,by omega⟩
 | 1,_=>exact⟨2,rfl,by decide,by omega⟩
 | 2,_=>exact⟨m,rfl,hm,by omega⟩
 | 3,_=>exact⟨1+r % m,rfl,by omega,by omega⟩
theorem Qbe{K:Frag}{H0 H H':Hp}{sc D:Addr}{xs:List V}(h0:jk K H0 sc xs)(hD:H0 D=none)(h:jk K H sc xs)(k:∀c o,c≠D->H c=some o->H' c=some o):jk K H' sc xs:=by
 have go:sc≠D->jk K H' sc xs:=fun n=>by
  rcases h with(h | ⟨o,h⟩) | h
  .exact .inl (.inl (k _ _ n h))
  .exact .inl (.inr ⟨o,k _ _ n h⟩)
  .exact .inr h
 rcases h0 with(h0 | ⟨o,h0⟩) | h0
 .exact go (Qd h0 hD)
 .exact go (Qd h0 hD)
 .exact .inr h0
section
variable {P:Program}{w:World}{K:Frag}{mg:Str->Option Value}{base:Heap}{a:yE}
theorem Kf{fd:FuncData}(F:jZ K "_law_word" "_law_word" Uy a.Qis fd)(T:Txt K mg a)(FF:Zr K a):QH P w K mg base vV 2 a.Qis fd ["_law_state","_law_signs","_law_most"] (Qhz K):=by
 obtain⟨fdN,qY,zF⟩:=FF.qY
 have zG:=@Jm P w K mg base a _ qY T
 refine F.ok U0 (fun _ _ _ _ h=>by cases h;subst_vars;rfl) (fun cdv A outer s H vs Q E hr h=>?_)
 .obtain⟨st,sc,ls,sg,m,rfl,sa,hl,m1,m100,hsg,hs1,k⟩:=h
  have jj:Qv 1 _:=hr
  refine⟨_,(Qa (Qm (i:=3) U0.nd rfl (Or.inl rfl) (Qp QS (YZ (Qe Qb (Qe Qb (Qe (pv 2) (Qe (Qt QQ Qb (Qt QM (Qk zG jj rfl T.je qY.kp zF .nil Qn (zy (pv 0) Qc)) (pv 2))) Qo))))) (Qt QM (Qk zG jj rfl T.je qY.kp zF .nil Qn (zy (pv 0) Qc)) Qb)))
   (Qa (QO (Qu XD (pv 3) (pv 2)) (Qg (Qm (i:=3) U0.nd rfl (Or.inl rfl) (pv 2))) Qy)
   (Qg (Qs (J0 PySem.F.plainAttrs_str PySem.F.slot_str_join PySem.F.type_str_join Qgp QB (zy (Yn (sc:=Qh Uy) (N:=Gv) (fr:=[(1,"_law_signs"),(0,"_law_state")]) ⟨rfl,rfl,by decide +kernel,by decide +kernel,by decide +kernel,by decide +kernel,by decide +kernel⟩ rfl rfl rfl (Xz rfl T.QkC (zy (pv 3) Qc)) (fun _ _ _ _=>YY) (fun _ _ _ _=>(Qp QeT (pv 1) (Qt QM (Qk zG jj rfl T.je qY.kp zF .nil Qn (zy (pv 2) Qc)) (Qr ZQ rfl T.xg zE (zy (pv 1) Qc)))))) Qc)))))),?_⟩
  refine⟨_,rfl,_,rfl,st,sc,ls,rfl,sa,hl,fun r1 H1 r10 r11 x1 uD=>⟨_,rfl,_,_,rfl,rfl,(by show 0<m;omega),_,_,rfl,rfl,XW,fun l hl0=>?_⟩⟩
  have s2:Qi H1 (upd H1 l (.lst [.int 1,.int 2,.int m,.int (1+r1 % m)])):=Qi.zT hl0
  have e2:(upd H1 l (.lst [.int 1,.int 2,.int m,.int (1+r1 % m)])) l=some (.lst [.int 1,.int 2,.int m,.int (1+r1 % m)]):=Qf
  have sa2:=uD.of s2
  have x2:SX st H (upd H1 l (.lst [.int 1,.int 2,.int m,.int (1+r1 % m)])):=x1.trans (SX.of s2)
  have lst:l≠st:=fun z=>by obtain⟨_,q⟩:=uD.lst;rw[z,q] at hl0;cases hl0
  generalize upd H1 l (.lst [.int 1,.int 2,.int m,.int (1+r1 % m)])=H2 at s2 e2 sa2 x2
  refine⟨_,rfl,st,sc,ls,rfl,sa2,hl,fun r3 H3 r30 r31 x3 sa3=>?_⟩
  have z0:=zP r3 (b:=4) (by decide)
  have z1:=zN r3 (b:=4) (by decide)
  obtain⟨y,ey,y1,yc⟩:=QgK (r:=r1) m1 z0 z1
  refine⟨_,_,rfl,rfl,Qnu,l,_,_,_,rfl,rfl,jk.of (x3 _ _ lst e2),ey,?_⟩
  have x03:=x2.trans x3
  dsimp only[QJ]
  refine Zy fun N hN=>?_
  have rest:∀z:Int,1<=z->z<=m->N [some (.ref st),some (.str sg),some (.int m),some (.int z)] H3:=fun z hz1 hz2=>by
   subst hN
   refine⟨rfl,_,rfl,_,rfl,by omega,by omega,GU (n:=z.toNat) (fun D i ys H7=>∃ws:QpK,ys=ws.map V.str/\ws.length=i/\(∀y∈ws,Qb5 sg y)/\SX st H H7/\yS K H7 st sc ls/\H7 D=some (.lst ys)) (Q2 ((by omega))) (fun D hD=>?_) (fun D i ys H7 ⟨ws,e,el,_⟩=>by rw[e,qd,el]) ?_ ?_⟩
   .have sD:Qi H3 (upd H3 D (.lst [])):=Qi.zT hD
    exact⟨[],rfl,rfl,(fun _ q=>nomatch q),x03.trans (SX.of sD),sa3.of sD,Qf⟩
   .rintro D i ys H7 Q' hi hD ⟨ws,rfl,el,hw,x7,sa7,eD⟩ hD7 q
    have Dst:D≠st:=fun z=>by obtain⟨_,q⟩:=sa3.lst;rw[z,q] at hD;cases hD
    refine⟨_,rfl,_,rfl,st,sc,ls,rfl,sa7,hl,fun r8 H8 r80 r81 x8 sa8=>⟨_,rfl,sg,rfl,Q2 (hs1),?_⟩⟩
    have hlen:(sg.length:Int)=(sg.cps.toList.length:Int):=by simp[Str.length]
    obtain⟨c,hc,hcm⟩:=Qcq (z:=sg) (i:=r8 % (sg.length:Int)) (zP _ (by omega)) (by rw[<-hlen];exact zN _ (by omega))
    refine⟨_,_,rfl,rfl,(by show 0<(sg.length:Int);omega),sg,_,c,rfl,rfl,Q2 (hs1),hc,?_⟩
    have eD8:=x8 _ _ Dst eD
    refine q _ H8 eD8 ⟨ws++[⟨#[c]⟩],by rw[zc];rfl,by rw[qy,zV,el],fun y hy=>?_,?_,?_,Qf⟩
    .rcases qF.mp hy with z | z
     .exact hw y z
     .rw[qg.mp z];exact⟨c,hcm,rfl⟩
    .intro b o nb e
     have h8:=x8 _ _ nb (x7 _ _ nb e)
     rw[Qj (Qd (x03 _ _ nb e) hD)];exact h8
    .obtain⟨⟨n,c,e,b⟩,hq⟩:=sa8
     exact⟨⟨n,c,by rw[Qj Dst.symm];exact e,b⟩,Qbe sa3.sq hD hq fun c o nc e=>by rw[Qj nc];exact e⟩
   .rintro D ys H7 hD ⟨ws,rfl,el,hw,x7,sa7,eD⟩ hD7
    obtain⟨q1,q2⟩:=QaT hw
    refine⟨"",D,ws,rfl,rfl,jk.of eD,QeS (fun y hy=>(hw y hy).len) (by omega),k _ H7 ⟨by omega,by omega,q2⟩ x7 sa7⟩
  refine⟨_,rfl,_,rfl,_,_,rfl,rfl,_,rfl,?_⟩
  by_cases hy:m<y
  .rw[qt hy]
   exact QE ⟨_,rfl,rest m m1 (uG _)⟩
  .rw[qz hy]
   exact QD (rest y y1 (by omega))
theorem Wr{fd:FuncData}(F:jZ K "_law_any_word" "_law_any_word" JE a.v7 fd)(T:Txt K mg a)(FF:Zr K a):QH P w K mg base vV 3 a.v7 fd ["_law_state"] (Qcg K):=by
 obtain⟨fdW,ym,gR⟩:=FF.ym
 have gU:=@Kf P w K mg base a _ ym T FF
 refine F.ok WQ (fun _ _ _ _ h=>by cases h;subst_vars;rfl) (fun cdv A outer s H vs Q E hr h=>?_)
 .obtain⟨st,sc,ls,rfl,sa,hl,k⟩:=h
  have wB:Qv 2 _:=hr
  refine⟨_,(Qg (Qs (Qk gU wB rfl T.Qin ym.kp gR .nil Qn (zy (pv 0) (zy QB (zy Qb Qc)))))),?_⟩
  exact⟨_,rfl,st,sc,ls,aZ,20,rfl,sa,hl,by decide,by decide,(by decide +kernel),(by decide +kernel),fun x H' wi x1 uD=>k x H' ⟨wi.lo,by have:=wi.hi;omega,wi.in_⟩ x1 uD⟩
end
structure ZS(x:Str):Prop where
 lo:1<=x.length
 hi:x.length<=8
 in_:∀c∈x.cps.toList,c∈hS.cps.toList
theorem J1(x:Str):x.length=x.cps.toList.length:=by simp[Str.length]
theorem QeV{x:Str}{z:Nat}{c:Nat}(hz:z<=x.length):(Txt.slice x none (some (z:Int))++⟨#[c]⟩++Txt.slice x (some (z:Int)) none).cps.toList=x.cps.toList.take z++[c]++x.cps.toList.drop z:=by
 rw[YJ,YJ,Wd,Wf]
section
variable {P:Program}{w:World}{K:Frag}{mg:Str->Option Value}{base:Heap}{a:yE}
end
def sG:Str:=" abcXYZ019!-.,;:'~"
def sN:Str:=sG++"\n"
theorem QgX:∀c∈sG.cps.toList,c<128/\c≠10:=by decide +kernel
theorem sN_ok:∀c∈sN.cps.toList,c<128:=by decide +kernel
theorem KH{x:Str}(h:∀c∈x.cps.toList,c<128):Asc x:=fun c hc=>by have:=h c hc;omega
structure KJ(s t b:Str)(dy:Int)(an:Str):Prop where
 s_:Q6 s
 t_:Asc t
 tl:t.length<=60
 tn:¬10∈t.cps.toList
 b_:Asc b
 bl:b.length<=60
 d0:0<=dy
 d1:dy<=9999
 a_:an=""\/Q6 an
abbrev ptV(s t b:Str)(dy:Int)(an:Str):List V:=[.str s,.str t,.str b,.int dy,.str an]
abbrev ptD(s t b:Str)(dy:Int)(an:Str):List Dt:=[.str s,.str t,.str b,.int dy,.str an]
theorem XU:Asc "":=by intro c hc;revert c;decide +kernel
theorem QaU{x:Str}(h:Q6 x):isW x=true:=by
 have h1:=h.lo
 have h2:=h.hi
 unfold isW
 rw[qt (by omega),qt (by omega),yd.mpr fun c hc=>qt (h.in_ c hc)]
 rfl
theorem KJ.an{s t b:Str}{dy:Int}{an:Str}(h:KJ s t b dy an):Asc an/\an.length<=20:=by
 rcases h.a_ with rfl | h
 .exact⟨XU,by decide +kernel⟩
 .exact⟨h.asc,h.hi⟩
theorem KJ.dr{s t b:Str}{dy:Int}{an:Str}(h:KJ s t b dy an)(H:Hp):DRs H (ptV s t b dy an) (ptD s t b dy an):=by
 obtain⟨a1,a2⟩:=h.an
 have hs:=h.s_.hi
 have ht:=h.tl
 have hb:=h.bl
 exact .cons (.str (by omega) h.s_.asc) (.cons (.str (by omega) h.t_) (.cons (.str (by omega) h.b_) (.cons (.int _) (.cons (.str (by omega) a1) .nil))))
theorem KJ.ok{s t b:Str}{dy:Int}{an:Str}(h:KJ s t b dy an):JR (.tup (ptD s t b dy an))=true:=by
 have ht:=h.tl
 have hb:=h.bl
 show Zw (.str s) (.str t) (.str b) (.int dy) (.str an)=true
 unfold Zw
 have e1:Zg (.str s)=true:=QaU h.s_
 have e2:VU 60 (.str t)=true:=qt (by omega)
 have e3:QbF (.str t)=true:=by show(!decide (10∈t.cps.toList))=true;rw[qz h.tn];rfl
 have e4:VU 400 (.str b)=true:=qt (by omega)
 have e5:Qc5 (.int dy)=true:=by show(decide (0<=dy) && decide (dy<=9999))=true;rw[qt h.d0,qt h.d1];rfl
 have e6:XV (.str an)=true:=by
  show(isW an || decide (an=""))=true
  rcases h.a_ with rfl | h
  .rw[qt rfl,Bool.or_true]
  .rw[QaU h];rfl
 rw[e1,e2,e3,e4,e5,e6];rfl
inductive Qbg(K:Frag)(vs:List V)(H:Hp)(Q:VK):Prop
 | mk:∀(st sc:Addr)(ls:List Int),vs=[.ref st]->yS K H st sc ls->ls.length<=63->(∀(p:Addr)(s t b:Str)(dy:Int)(an:Str) H',KJ s t b dy an->H' p=some (.tup (ptV s t b dy an))->SX st H H'->yS K H' st sc ls->Q (.ref p) H')->Qbg K vs H Q
def spPts(K:Frag):Sp:=fun vs H Q _=>Qbg K vs H Q
theorem Qdp{α:Type}{x y:α}{z:Int}:∃v,atI [x,y] (z % 2)=some v/\(v=x\/v=y):=by
 obtain h | h:z % 2=0\/z % 2=1:=by omega
 .rw[h];exact⟨x,rfl,.inl rfl⟩
 .rw[h];exact⟨y,rfl,.inr rfl⟩
theorem Qds{α:Type}{x y u:α}{z:Int}:∃v,atI [x,y,u] (z % 3)=some v/\(v=x\/v=y\/v=u):=by
 obtain h | h | h:z % 3=0\/z % 3=1\/z % 3=2:=by omega
 .rw[h];exact⟨x,rfl,.inl rfl⟩
 .rw[h];exact⟨y,rfl,.inr (.inl rfl)⟩
 .rw[h];exact⟨u,rfl,.inr (.inr rfl)⟩
theorem yS.nst{K:Frag}{H:Hp}{st sc l:Addr}{ls:List Int}(h:yS K H st sc ls)(hl:H l=none):l≠st:=fun q=>by obtain⟨_,e⟩:=h.lst;rw[q,e] at hl;cases hl
section
variable {P:Program}{w:World}{K:Frag}{mg:Str->Option Value}{base:Heap}{a:yE}
theorem Qeo{fd:FuncData}(F:jZ K "_law_parts" "_law_parts" Uz a.uU fd)(T:Txt K mg a)(FF:Zr K a):QH P w K mg base vV 4 a.uU fd ["_law_state"] (spPts K):=by
 obtain⟨fdW,ym,gR⟩:=FF.ym
 obtain⟨fdN,qY,zF⟩:=FF.qY
 obtain⟨fdA,jE,yO⟩:=FF.jE
 have gU:=@Kf P w K mg base a _ ym T FF
 have zG:=@Jm P w K mg base a _ qY T
 have yP:=@Wr P w K mg base a _ jE T FF
 refine F.ok ZY (fun _ _ _ _ h=>by cases h;subst_vars;rfl) (fun cdv A outer s H vs Q E hr h=>?_)
 .obtain⟨st,sc,ls,rfl,sa,hl,k⟩:=h
  have wB:Qv 2 _:=hr.mono (by decide)
  have jj:Qv 1 _:=hr.mono (by decide)
  have yD:Qv 3 _:=hr
  refine⟨_,(Qa (Qm (i:=1) ZY.nd rfl (Or.inl rfl) QB)
   (Qa (Qm (i:=2) ZY.nd rfl (Or.inl rfl) (Qk gU wB rfl T.Qin ym.kp gR .nil Qn (zy (pv 0) (zy (pv 1) (zy Qb Qc)))))
   (Qa (Qm (i:=3) ZY.nd rfl (Or.inl rfl) (Qk gU wB rfl T.Qin ym.kp gR .nil Qn (zy (pv 0) (zy (Qt Zq (pv 1) QB) (zy Qb Qc)))))
   (Qa (Qm (i:=4) ZY.nd rfl (Or.inl rfl) (Qp QS (YZ (Qe QB (Qe (Qk yP yD rfl T.xO jE.kp yO .nil Qn (zy (pv 0) Qc)) Qo))) (Qt QM (Qk zG jj rfl T.je qY.kp zF .nil Qn (zy (pv 0) Qc)) Qb)))
   (Qa (Qm (i:=5) ZY.nd rfl (Or.inl rfl) (Qp QS (YZ (Qe (Qt QM (Qk zG jj rfl T.je qY.kp zF .nil Qn (zy (pv 0) Qc)) Qb) (Qe Qb (Qe Qb Qo)))) (Qt QM (Qk zG jj rfl T.je qY.kp zF .nil Qn (zy (pv 0) Qc)) Qb)))
   (Qg (Qs (Z4 (Qe (Qk yP yD rfl T.xO jE.kp yO .nil Qn (zy (pv 0) Qc)) (Qe (pv 2) (Qe (pv 3) (Qe (pv 5) (Qe (pv 4) Qo))))))))))))),?_⟩
  refine⟨_,rfl,_,rfl,st,sc,ls,sG,60,rfl,sa,hl,by decide,by decide,(by decide +kernel),(by decide +kernel),fun t H1 wt x1 uD=>?_⟩
  refine⟨_,rfl,_,rfl,_,_,rfl,rfl,(by decide +kernel),st,sc,ls,sN,60,rfl,uD,hl,by decide,by decide,(by decide +kernel),(by decide +kernel),fun b H2 wb x2 sa2=>?_⟩
  refine⟨_,rfl,st,sc,ls,rfl,sa2,hl,fun wd H3 hwd x3 sa3=>⟨UW,fun l hl3=>?_⟩⟩
  have s4:Qi H3 (upd H3 l (.lst [.str "",.str wd])):=Qi.zT hl3
  have e4:(upd H3 l (.lst [.str "",.str wd])) l=some (.lst [.str "",.str wd]):=Qf
  refine⟨_,rfl,st,sc,ls,rfl,sa3.of s4,hl,fun r5 H5 r50 r51 x5 sa5=>?_⟩
  obtain⟨v,hv,hvc⟩:=Qdp (x:=V.str "") (y:=V.str wd) (z:=r5)
  refine⟨_,_,rfl,rfl,Qnw,l,_,_,v,rfl,rfl,jk.of (x5 _ _ (sa3.nst hl3) e4),hv,?_⟩
  have x05:=((x1.trans x2).trans x3).trans ((SX.of s4).trans x5)
  obtain⟨an,rfl,han⟩:∃an,v=.str an/\(an=""\/Q6 an):=hvc.elim (fun h=>⟨_,h,.inl rfl⟩) fun h=>⟨_,h,.inr hwd⟩
  refine⟨_,rfl,st,sc,ls,rfl,sa5,hl,fun r6 H6 r60 r61 x6 sa6=>⟨_,_,rfl,rfl,Qdh,Qb7,fun m hm6=>?_⟩⟩
  have s7:Qi H6 (upd H6 m (.lst [.int (r6 % 10000),.int 0,.int 9999])):=Qi.zT hm6
  have e7:(upd H6 m (.lst [.int (r6 % 10000),.int 0,.int 9999])) m=some (.lst [.int (r6 % 10000),.int 0,.int 9999]):=Qf
  refine⟨_,rfl,st,sc,ls,rfl,sa6.of s7,hl,fun r8 H8 r80 r81 x8 sa8=>?_⟩
  obtain⟨v,hv,hvc⟩:=Qds (x:=V.int (r6 % 10000)) (y:=V.int 0) (u:=V.int 9999) (z:=r8)
  refine⟨_,_,rfl,rfl,Qnv,m,_,_,v,rfl,rfl,jk.of (x8 _ _ (sa6.nst hm6) e7),hv,?_⟩
  have x08:=(x05.trans x6).trans ((SX.of s7).trans x8)
  obtain⟨dy,rfl,hd0,hd1⟩:∃dy:Int,v=.int dy/\0<=dy/\dy<=9999:=by
   rcases hvc with h | h | h
   .exact⟨_,h,zP _ (by decide),by have:=zN r6 (b:=10000) (by decide);omega⟩
   .exact⟨_,h,by decide,by decide⟩
   .exact⟨_,h,by decide,by decide⟩
  refine⟨_,rfl,st,sc,ls,rfl,sa8,hl,fun sn H9 hsn x9 sa9=>⟨_,rfl,_,rfl,_,rfl,_,rfl,zl_5,fun p hp=>?_⟩⟩
  have sA:Qi H9 (upd H9 p (.tup (ptV sn t b dy an))):=Qi.zT hp
  refine k p sn t b dy an _ ⟨hsn,KH fun c hc=>(QgX c (wt.in_ c hc)).1,by have:=wt.hi;omega,fun h=>(QgX 10 (wt.in_ 10 h)).2 rfl,KH fun c hc=>sN_ok c (wb.in_ c hc),by have:=wb.hi;omega,hd0,hd1,han⟩ Qf ((x08.trans x9).trans (SX.of sA)) (sa9.of sA)
end
theorem UN:∀n:Nat,n<202->(Str.ofString (toString (n:Int))).length<=3/\1<=(Str.ofString (toString (n:Int))).length/\((Str.ofString (toString (n:Int))).cps.toList.all fun c=>decide (c∈aZ.cps.toList))=true:=by decide +kernel
theorem hS_aZ:∀c∈hS.cps.toList,c∈aZ.cps.toList:=by decide +kernel
inductive ZT(H:Hp):List V->List Dt->Prop
 | put {nm:Str} {q:Addr} {s t b:Str} {dy:Int} {an:Str} (hn:Q6 nm) (g:KJ s t b dy an) (e:H q=some (.tup (ptV s t b dy an))):ZT H [.str "put",.str nm,.ref q] [.str "put",.str nm,.tup (ptD s t b dy an)]
 | place {nm u:Str} (hn:Q6 nm) (hu:Q6 u):ZT H [.str "place",.str nm,.str u] [.str "place",.str nm,.str u]
 | mark {nm u:Str} {t:Bool} (hn:Q6 nm) (hu:Q6 u):ZT H [.str "mark",.str nm,.str u,.bl t] [.str "mark",.str nm,.str u,.bl t]
 | drop {nm:Str} (hn:Q6 nm):ZT H [.str "drop",.str nm] [.str "drop",.str nm]
theorem wDR{x:Str}(h:Q6 x)(H:Hp):DR H (.str x) (.str x):=.str (by have:=h.hi;omega) h.asc
theorem ZT.dr{H:Hp}{vs:List V}{ds:List Dt}(h:ZT H vs ds):DRs H vs ds:=by
 cases h with
 | put hn g e=>exact .cons (.str (by decide +kernel) KG) (.cons (wDR hn H) (.cons (.tup e (g.dr H)) .nil))
 | place hn hu=>exact .cons (.str (by decide +kernel) Ve) (.cons (wDR hn H) (.cons (wDR hu H) .nil))
 | mark hn hu=>exact .cons (.str (by decide +kernel) WK) (.cons (wDR hn H) (.cons (wDR hu H) (.cons (.bl _) .nil)))
 | drop hn=>exact .cons (.str (by decide +kernel) WL) (.cons (wDR hn H) .nil)
theorem Qg2:("place":Str)≠"put":=by decide +kernel
theorem Qg3:("mark":Str)≠"put":=by decide +kernel
theorem ne_ml:("mark":Str)≠"place":=by decide +kernel
theorem Qg4:("drop":Str)≠"put":=by decide +kernel
theorem ne_dl:("drop":Str)≠"place":=by decide +kernel
theorem ne_dm:("drop":Str)≠"mark":=by decide +kernel
theorem Qdt(p:Dt):Zx "put" [p]=JR p:=by unfold Zx;rw[qj ⟨rfl,rfl⟩];rfl
theorem Qal(p:Dt):Zx "place" [p]=Zg p:=by unfold Zx;rw[ql fun z=>Qg2 z.1,qj ⟨rfl,rfl⟩];rfl
theorem Qcd(p q:Dt):Zx "mark" [p,q]=(Zg p && isB q):=by unfold Zx;rw[ql fun z=>Qg3 z.1,ql fun z=>ne_ml z.1,qj ⟨rfl,rfl⟩];rfl
theorem Qce:Zx "drop" []=true:=by unfold Zx;rw[ql fun z=>Qg4 z.1,ql fun z=>ne_dl z.1,ql fun z=>ne_dm z.1];exact qt ⟨rfl,rfl⟩
theorem JW{x:Str}(h:Q6 x):Zg (.str x)=true:=QaU h
theorem ZT.ok{H:Hp}{vs:List V}{ds:List Dt}(h:ZT H vs ds):Y9 (.tup ds)=true:=by
 cases h with
 | @put nm q s t b dy an hn g e =>
   show(Zg (.str nm) && Zx "put" [.tup (ptD s t b dy an)])=true
   rw[JW hn,Qdt];exact g.ok
 | @place nm u hn hu =>
   show(Zg (.str nm) && Zx "place" [.str u])=true
   rw[JW hn,Qal];exact JW hu
 | @mark nm u t hn hu =>
   show(Zg (.str nm) && Zx "mark" [.str u,.bl t])=true
   rw[JW hn,Qcd,JW hu];rfl
 | @drop nm hn =>
   show(Zg (.str nm) && Zx "drop" [])=true
   rw[JW hn,Qce];rfl
theorem ZS.plus{hd x:Str}(h:ZS hd)(h1:1<=x.length)(h2:x.length<=3)(h3:∀c∈x.cps.toList,c∈aZ.cps.toList):Q6 (hd++x):=by
 have a:=h.lo
 have b:=h.hi
 refine⟨by rw[KB];omega,by rw[KB];omega,fun c hc=>?_⟩
 rw[YJ] at hc
 rcases qF.mp hc with q | q
 .exact hS_aZ c (h.in_ c q)
 .exact h3 c q
theorem Qfn{hd:Str}(h:ZS hd):hd.length+("1":Str).length<=1000:=by
 have:=h.hi
 have e:("1":Str).length=1:=by decide +kernel
 omega
section
variable {P:Program}{w:World}{K:Frag}{mg:Str->Option Value}{base:Heap}{a:yE}
end
def Q5:List Dt->Bool
 | .str f :: _=>decide (f="put")
 | _=>false
theorem ZT.tups{H H':Hp}{vs:List V}{ds:List Dt}(h:ZT H vs ds)(k:∀c xs,H c=some (.tup xs)->H' c=some (.tup xs)):ZT H' vs ds:=by
 cases h with
 | put hn g e=>exact .put hn g (k _ _ e)
 | place hn hu=>exact .place hn hu
 | mark hn hu=>exact .mark hn hu
 | drop hn=>exact .drop hn
def nmD:List Dt->Str
 | _ :: .str nm :: _=>nm
 | _=>""
theorem ZT.hd2{H:Hp}{vs:List V}{ds:List Dt}(h:ZT H vs ds):∃f nm rest,vs=.str f :: .str nm :: rest/\Q6 nm/\Q5 ds=decide (f="put")/\nmD ds=nm:=by
 cases h with
 | put hn g e=>exact⟨_,_,_,rfl,hn,rfl,rfl⟩
 | place hn hu=>exact⟨_,_,_,rfl,hn,rfl,rfl⟩
 | mark hn hu=>exact⟨_,_,_,rfl,hn,rfl,rfl⟩
 | drop hn=>exact⟨_,_,_,rfl,hn,rfl,rfl⟩
theorem QeU{x:Str}(h:ZS x):isH x=true:=by
 unfold isH
 have:=h.lo
 have:=h.hi
 rw[qt (by omega),qt (by omega),jm,jm,yd]
 exact fun c hc=>qt (h.in_ c hc)
theorem Qar{c n:Int}{hd:Str}{d:Dt}(hc:1<=c)(hn:1<=n)(hh:ZS hd):Zv (.tup [.int c,.str hd,.int n,d])=Y9 d:=by
 show(decide (1<=c) && (isH hd && (decide (1<=n) && Y9 d)))=_
 rw[qt hc,qt hn,QeU hh]
 rfl
theorem ZS.asc{x:Str}(h:ZS x):Asc x:=fun c hc=>by
 have:∀c∈hS.cps.toList,c<128:=by decide +kernel
 exact KH (x:=x) (fun c hc=>this c (h.in_ c hc)) c hc
mutual
def dtP:Dt->PyData
 | .bl b=>.bool b
 | .int i=>.int i
 | .str s=>.str s
 | .tup xs=>.tuple (Qiw xs)
 | _=>.none
def Qiw:List Dt->List PyData
 | []=>[]
 | d :: ds=>dtP d :: Qiw ds
end
theorem ZT.rd{K:Frag}{H:Hp}{vs:List V}{ds:List Dt}(h:ZT H vs ds):RDs K H vs (Qiw ds)/\PyData.canLayAll0 (Qiw ds)=true/\PyData.depthAll (Qiw ds)<=1:=by
 cases h with
 | put hn g e =>
   refine⟨.cons (.str _) (.cons (.str _) (.cons (.tup (yu.of e) (.cons (.str _) (.cons (.str _) (.cons (.str _) (.cons (.int _) (.cons (.str _) .nil)))))) .nil)),?_,?_⟩
   .have ha:=(g.a_.elim (fun z=>by rw[z];exact XU) fun z=>z.asc:Asc _)
    simp[Qiw,dtP,ptD,PyData.canLayAll0,PyData.canLay0,KG.ok,hn.asc.ok,g.s_.asc.ok,g.t_.ok,g.b_.ok,ha.ok]
   .simp[Qiw,dtP,ptD,PyData.depthAll,PyData.depth]
 | place hn hu=>exact⟨.cons (.str _) (.cons (.str _) (.cons (.str _) .nil)),by simp[Qiw,dtP,PyData.canLayAll0,PyData.canLay0,Ve.ok,hn.asc.ok,hu.asc.ok],by simp[Qiw,dtP,PyData.depthAll,PyData.depth]⟩
 | mark hn hu=>exact⟨.cons (.str _) (.cons (.str _) (.cons (.str _) (.cons (.bl _) .nil))),by simp[Qiw,dtP,PyData.canLayAll0,PyData.canLay0,WK.ok,hn.asc.ok,hu.asc.ok],by simp[Qiw,dtP,PyData.depthAll,PyData.depth]⟩
 | drop hn=>exact⟨.cons (.str _) (.cons (.str _) .nil),by simp[Qiw,dtP,PyData.canLayAll0,PyData.canLay0,WL.ok,hn.asc.ok],by simp[Qiw,dtP,PyData.depthAll,PyData.depth]⟩
theorem UH{ds:List PyData}(h1:PyData.canLayAll0 ds=true)(h2:PyData.depthAll ds<=3):SeqAt.shaped (.list ds)=true:=by
 unfold SeqAt.shaped
 rw[jr]
 refine⟨by simp[PyData.canLay0,h1],qt ?_⟩
 simp only[PyData.depth]
 omega
structure Gr where
 x:Addr
 c:Int
 h:Str
 n:Nat
 p:Addr
 vs:List V
 ds:List Dt
abbrev Gr.r(r:Gr):V:=.ref r.x
structure QY(H:Hp)(r:Gr):Prop where
 e:H r.x=some (.tup [.int r.c,.str r.h,.int ((r.n:Nat):Int),.ref r.p])
 ep:H r.p=some (.tup r.vs)
 df:ZT H r.vs r.ds
 hh:ZS r.h
 c1:1<=r.c
 n1:1<=r.n
section
variable {H H':Hp}{r:Gr}{K:Frag}
theorem QY.tups(h:QY H r)(k:∀c xs,H c=some (.tup xs)->H' c=some (.tup xs)):QY H' r:=⟨k _ _ h.e,k _ _ h.ep,h.df.tups k,h.hh,h.c1,h.n1⟩
theorem QY.mono(h:QY H r)(s:Qi H H'):QY H' r:=h.tups fun c xs e=>s _ _ e
def U3(r:Gr):PyData:=.tuple [.int r.c,.str r.h,.int ((r.n:Nat):Int),.tuple (Qiw r.ds)]
theorem QY.rd(h:QY H r):RD K H (.ref r.x) (U3 r)/\PyData.canLay0 (U3 r)=true/\PyData.depth (U3 r)<=3:=by
 obtain⟨a1,a2,a3⟩:=h.df.rd (K:=K)
 refine⟨.tup (yu.of h.e) (.cons (.int _) (.cons (.str _) (.cons (.int _) (.cons (.tup (yu.of h.ep) a1) .nil)))),?_,?_⟩
 .simp[U3,PyData.canLay0,PyData.canLayAll0,h.hh.asc.ok,a2]
 .simp only[U3,PyData.depth,PyData.depthAll];omega
def Gc(rs:List Gr):List PyData:=rs.map U3
theorem UK:∀{rs:List Gr},(∀r∈rs,QY H r)->RDs K H (rs.map Gr.r) (Gc rs)/\PyData.canLayAll0 (Gc rs)=true/\PyData.depthAll (Gc rs)<=3
 | [],_=>⟨.nil,rfl,qP _⟩
 | r :: rs,h=>by
   obtain⟨a1,a2,a3⟩:=(h r (qI ..)).rd (K:=K)
   obtain⟨b1,b2,b3⟩:=UK (rs:=rs) fun q hq=>h q (qu _ hq)
   refine⟨.cons a1 b1,?_,?_⟩
   .show(PyData.canLay0 (U3 r) && PyData.canLayAll0 (Gc rs))=true
    rw[a2,b2];rfl
   .show max (PyData.depth (U3 r)) (PyData.depthAll (Gc rs))<=3
    omega
def dtG(r:Gr):Dt:=.tup [.int r.c,.str r.h,.int ((r.n:Nat):Int),.tup r.ds]
theorem QY.dr(h:QY H r):DR H r.r (dtG r):=.tup h.e (.cons (.int _) (.cons (.str (by have:=h.hh.hi;omega) h.hh.asc) (.cons (.int _) (.cons (.tup h.ep h.df.dr) .nil))))
theorem QY.st(h:QY H r):Zv (dtG r)=true:=by
 unfold dtG
 rw[Qar h.c1 (by have:=h.n1;omega) h.hh]
 exact h.df.ok
end
def eqR(r q:Gr):Bool:=PyData.eqv (U3 r) (U3 q)
theorem Qfb{H:Hp}{r:Gr}(h:QY H r):eqR r r=true:=SeqAt.eqv_refl _ (h.rd (K:=default)).2.1
def ZV(rs:List Gr):Nat:=(rs.filter fun r=>Q5 r.ds).length
def W1(hd:Str)(rs:List Gr):Str:=hd++Str.ofString (toString ((ZV rs+1:Nat):Int))
def JS(hd:Str)(rs:List Gr)(ds:List Dt):Bool:=!(Q5 ds && !decide (nmD ds=W1 hd rs))
def Jx(rs:List Gr)(r:Gr):Bool:=match rs.getLast? with | none=>true | some q=>decide (q.c<r.c)
def Zk(rs:List Gr)(r:Gr):Bool:=decide (r.n=rs.length+1) && (Jx rs r && JS r.h rs r.ds)
inductive Uw(vs:List V)(H:Hp)(Q:VK):Prop
 | mk:∀(x:Addr)(c h d:V)(n:Int),vs=[.ref x]->H x=some (.tup [c,h,.int n,d])->Q (.int n) H->Uw vs H Q
def Qas:Sp:=fun vs H Q _=>Uw vs H Q
inductive Wb(K:Frag)(vs:List V)(H:Hp)(Q:VK):Prop
 | mk:∀(l:Addr)(hd:Str)(rs:List Gr),vs=[.str hd,.ref l]->jk K H l (rs.map Gr.r)->ZS hd->rs.length<=200->(∀r∈rs,QY H r)->(∀H',Qi H H'->Q (.str (W1 hd rs)) H')->Wb K vs H Q
def QdN(K:Frag):Sp:=fun vs H Q _=>Wb K vs H Q
inductive Uv(vs:List V)(H:Hp)(Q:VK):Prop
 | mk:∀(x:Addr)(c:Int)(hd:Str)(n d:V),vs=[.ref x]->H x=some (.tup [.int c,.str hd,n,d])->(∀t H',Qi H H'->H' t=some (.tup [.int c,.str hd])->Q (.ref t) H')->Uv vs H Q
def V4:Sp:=fun vs H Q _=>Uv vs H Q
section
variable {P:Program}{w:World}{K:Frag}{mg:Str->Option Value}{base:Heap}{a:yE}
theorem Vm{fd:FuncData}(F:jZ K "stamp_of" "stamp_of" YQ a.g8 fd)(T:Txt K mg a):QH P w K mg base vV 1 a.g8 fd ["stamped"] V4:=by
 refine F.ok K8 (fun _ _ _ _ h=>by cases h;subst_vars;rfl) (fun cdv A outer s H vs Q E hr h=>?_)
 .obtain⟨x,c,hd,n,d,rfl,e,k⟩:=h
  refine⟨_,(Qg (Qs (Zn (Qe (Qp Qz (pv 0) Qb) (Qe (Qp Qz (pv 0) Qb) Qo))))),?_⟩
  exact⟨_,rfl,x,_,_,_,rfl,rfl,yu.of e,at0,_,rfl,x,_,_,_,rfl,rfl,yu.of e,at1,UW,fun t H1 nt s1 et=>k t H1 s1 et⟩
theorem Gn{fd:FuncData}(F:jZ K "number_of" "number_of" Yb a.wN fd)(T:Txt K mg a):QH P w K mg base vV 1 a.wN fd ["stamped"] Qas:=by
 refine F.ok X5 (fun _ _ _ _ h=>by cases h;subst_vars;rfl) (fun cdv A outer s H vs Q E hr h=>?_)
 .obtain⟨x,c,h,d,n,rfl,e,q⟩:=h
  refine⟨_,(Qg (Qs (Qp Qz (pv 0) Qb))),?_⟩
  exact⟨_,rfl,x,_,_,_,rfl,rfl,yu.of e,at2,q⟩
theorem QcB{fd:FuncData}(F:jZ K "name_behind" "name_behind" ZI a.kW fd)(T:Txt K mg a):QH P w K mg base vV 1 a.kW fd ["hand","shelf"] (QdN K):=by
 refine F.ok YC (fun _ _ _ _ h=>by cases h;subst_vars;rfl) (fun cdv A outer s H vs Q E hr h=>?_)
 .obtain⟨l,hd,rs,rfl,hS,hh,h63,hrs,k⟩:=h
  refine⟨_,(Qa (Wn (sc:=Qh ZI) (N:=Y6) (i:=2) (fr:=[]) ⟨rfl,rfl,by decide +kernel,by decide +kernel,by decide +kernel,by decide +kernel,by decide +kernel⟩ rfl rfl rfl YC.nd rfl rfl (Zm (pv 1)) (fun _ _ _ _=>Kc (Qu JJ (Qp (Zs K) (Qp (Zs K) (pv 0) Qb) Qb) QB)) (fun _ _ _ _=>(pv 0)))
   (Qg (Qs (Qt Zq (pv 0) (ZG Jo rfl T.Qix boot_str (zy (Qt QQ (Qr QA rfl T.xg zE (zy (pv 2) Qc)) Qb) Qc)))))),?_⟩
  refine⟨_,rfl,l,rfl,⟨_,hS⟩,JL (K:=K) (xs:=rs) Gr.r (fun r=>Q5 r.ds) Gr.r (Q2 ((by omega))) hS (fun r H3 Q' hr s3 q=>?_) (fun r H3 Q' hr s3 _ q=>⟨_,rfl,q⟩) fun D nD=>?_⟩
  .have at_:=hrs r hr
   obtain⟨f,nm,rest,ev,_,ep,_⟩:=at_.df.hd2
   rw[ep] at q
   refine⟨_,rfl,r.x,_,_,_,rfl,rfl,yu.of (s3 _ _ at_.e),at3,r.p,_,_,_,rfl,rfl,yu.of (s3 _ _ at_.ep),(by rw[ev];exact at0),rfl,_,rfl,?_⟩
   rw[show decide (V.str f=V.str "put")=decide (f="put") from yr.mpr ⟨V.str.inj,zB _⟩]
   exact q
  .have hp:ZV rs<=rs.length:=xW _ _
   obtain⟨n1,n2,_⟩:=UN (ZV rs+1) (by omega)
   have e:((((rs.filter fun r=>Q5 r.ds).map Gr.r).length:Nat):Int)+1=((ZV rs+1:Nat):Int):=by rw[qd];rfl
   refine⟨_,rfl,_,rfl,D,_,rfl,.inl (jk.of Qf),_,_,rfl,rfl,_,rfl,?_,hd,_,rfl,rfl,?_,?_⟩
   .rw[e,Int.natAbs_natCast]
    exact yx (Nat.log2_le_self _) (by omega)
   .rw[e]
    have:=hh.hi
    exact Q2 ((by omega))
   .rw[e]
    exact k _ (Qi.zT nD)
end
theorem Qh3{K:Frag}:kitOne K (.type "tuple") (.type "list")=some false:=by kernel_rfl
theorem QaR{K:Frag}:kitOne K (.type "list") (.type "list")=some true:=by kernel_rfl
inductive Ud(a:yE)(vs:List V)(H:Hp)(Q:VK)(E:XK):Prop
 | mk:∀(l:Addr)(ps:List (V×Dt)),vs=[.ref l]->H l=some (.lst (ps.map (·.1)))->ps.length<=63->(∀p∈ps,DR H p.1 p.2)->((ps.all fun p=>Zv p.2)=true->∀H',Qi H H'->Q .non H')->((ps.all fun p=>Zv p.2)=false->∀H',Qi H H'->E (.ref a.jy) none H')->Ud a vs H Q E
 | tup:∀(l:Addr)(xs:List V),vs=[.ref l]->H l=some (.tup xs)->E (.ref a.jy) none H->Ud a vs H Q E
def QdH(a:yE):Sp:=fun vs H Q E=>Ud a vs H Q E
section
variable {P:Program}{w:World}{K:Frag}{mg:Str->Option Value}{base:Heap}{a:yE}
theorem Qcx{fd:FuncData}(F:jZ K "check_parcel" "check_parcel" Zz a.xQ fd)(T:Txt K mg a)(FF:Zr K a):QH P w K mg base (CXF P w) 11 a.xQ fd ["parcel"] (QdH a):=by
 obtain⟨fdA,wz,QkF⟩:=FF.wz
 have QkL:=@Qcv P w K mg base a _ wz T FF
 refine F.okX Vv (fun vs H Q E h=>?_) (fun cdv A outer s H vs Q E hr h=>?_)
 .rcases h with⟨l,ps,rfl,_⟩ | ⟨l,xs,rfl,_⟩ <;> rfl
 .have QjM:Qv 10 _:=hr
  refine⟨_,(Qg (QO (PW.pt (JZ (Q8 (Za (Qr QF rfl T.ji boot_isinstance (zy (pv 0) (zy (Ze (v:=.ty "list") rfl T.QkD boot_list rfl) Qc))))) (JP (Q8 (Za (Qr (GY rfl) rfl T.QoD boot_all (zy (Yn (sc:=Qh Zz) (N:=YG) (fr:=[]) ⟨rfl,rfl,by decide +kernel,by decide +kernel,by decide +kernel,by decide +kernel,by decide +kernel⟩ rfl rfl rfl (Zm (pv 0)) (fun _ _ _ _=>YY) (fun _ _ _ _=>(Qk QkL QjM rfl T.Qkp wz.kp QkF .nil Qn (zy (pv 0) Qc)))) Qc))))))) (Qg (Zi T.xj T.xq hr.hd rfl (zy QB Qc))) Qy)),?_⟩
  rcases h with⟨l,ps,rfl,el,h63,hp,kg,kb⟩ | ⟨l,xs,rfl,el,kx⟩
  rotate_left
  .exact⟨_,rfl,_,_,_,_,_,rfl,rfl,.tup el,Qh3,_,rfl,QE (QE ⟨by show 1<=sizeLine;decide,kx⟩)⟩
  refine⟨_,rfl,_,_,_,_,_,rfl,rfl,.lst el,QaR,_,rfl,QD ?_⟩
  refine⟨_,rfl,l,rfl,⟨_,jk.of el⟩,GV (K:=K) (xs:=ps) (·.1) (fun _=>true) (fun p=>V.bl (Zv p.2)) (Q2 ((by omega))) (jk.of el) (fun p H3 Q' _ _ k=>k _ (Qi.refl _)) (fun p H3 Q' hm s3 _ k=>⟨_,rfl,p.1,p.2,rfl,(hp p hm).mono s3,fun H4 s4=>k _ s4⟩) fun D H2 nD s2 e2=>?_⟩
  have eb:(ps.filter fun _=>true).map (fun p=>V.bl (Zv p.2))=(ps.map fun p=>Zv p.2).map V.bl:=by rw[List.filter_eq_self.mpr fun _ _=>rfl,zu];rfl
  rw[eb] at e2
  refine⟨D,_,rfl,jk.of e2,_,rfl,?_⟩
  have ea:(ps.map fun p=>Zv p.2).all id=ps.all fun p=>Zv p.2:=by rw[List.all_map];rfl
  rw[ea]
  cases hb:ps.all fun p=>Zv p.2 with
  | true=>exact QD (kg hb _ s2)
  | false=>exact QE ⟨by show 1<=sizeLine;decide,kb hb _ s2⟩
end
inductive Xn(K:Frag)(a:yE)(vs:List V)(H:Hp)(Q:VK)(E:XK):Prop
 | mk:∀(l:Addr)(r:Gr)(rs:List Gr),vs=[r.r,.ref l]->QY H r->jk K H l (rs.map Gr.r)->rs.length<=200->(∀q∈rs,QY H q)->(Zk rs r=true->∀H',Qi H H'->Q .non H')->(Zk rs r=false->∀H',Qi H H'->E (.ref a.jy) none H')->Xn K a vs H Q E
def QfQ(K:Frag)(a:yE):Sp:=fun vs H Q E=>Xn K a vs H Q E
section
variable {P:Program}{w:World}{K:Frag}{mg:Str->Option Value}{base:Heap}{a:yE}
theorem Qet{fd:FuncData}(F:jZ K "check_next" "check_next" JI a.wj fd)(T:Txt K mg a)(FF:Zr K a):QH P w K mg base (CXF P w) 2 a.wj fd ["stamped","shelf"] (QfQ K a):=by
 obtain⟨fdA,vD,QjP⟩:=FF.vD
 have QjU:=@QcB P w K mg base a _ vD T
 refine F.okX Y5 (fun _ _ _ _ h=>by cases h;subst_vars;rfl) (fun cdv A outer s H vs Q E hr h=>?_)
 .obtain⟨l,r,rs,rfl,gr,hS,h62,hrs,kg,kb⟩:=h
  have hr1:Qv 1 _:=hr
  refine⟨_,(Qa (QO (Qu Qbv (Qp Qz (pv 0) Qb) (Qt QQ (Qr QA rfl T.xg zE (zy (pv 1) Qc)) Qb)) (Qg (Zi T.xj T.xq hr.hd rfl (zy QB Qc))) Qy)
   (Qa (QO (PW.pt (Yh (Qd6 (pv 1) (fun _=>rfl)) (Jl (Qu Vl (Qp Qz (pv 0) Qb) (Qp Qz (Qp QS (pv 1) (Qeb Qai Qb)) Qb))))) (Qg (Zi T.xj T.xq hr.hd rfl (zy QB Qc))) Qy)
   (Qa (Qm (i:=2) Y5.nd rfl (Or.inl rfl) (Qp Qz (pv 0) Qb))
   (Qg (QO (PW.pt (Yh (Qu JJ (Qp Qz (pv 2) Qb) QB) (Jl (Qu Qbv (Qp Qz (pv 2) Qb) (Qk QjU hr1 rfl T.QjJ vD.kp QjP .nil Qn (zy (Qp Qz (pv 0) Qb) (zy (pv 1) Qc))))))) (Qg (Zi T.xj T.xq hr.hd rfl (zy QB Qc))) Qy))))),?_⟩
  have hh:=gr.hh
  have len:((((rs.map Gr.r).length:Nat):Int)+1)=((rs.length+1:Nat):Int):=by rw[qd];rfl
  refine⟨_,rfl,r.x,_,_,_,rfl,rfl,yu.of gr.e,at2,_,rfl,l,_,rfl,.inl hS,_,_,rfl,rfl,rfl,_,rfl,?_⟩
  rw[len,show decide (V.int ((r.n:Nat):Int)=V.int ((rs.length+1:Nat):Int))=decide (r.n=rs.length+1) from yr.mpr ⟨fun z=>by have:=V.int.inj z;omega,fun z=>by rw[z]⟩]
  cases h1:decide (r.n=rs.length+1) with
  | false=>exact QE ⟨by show 1<=sizeLine;decide,kb (by unfold Zk;rw[h1];rfl) _ (Qi.refl _)⟩
  | true =>
  refine QD ?_
  dsimp only[VW]
  refine Zy (t:=Qan _ _ _) fun N hN=>?_
  have rest:Jx rs r=true->N [some r.r,some (.ref l),none] H:=fun h2=>by
   subst hN
   refine⟨_,rfl,r.x,_,_,_,rfl,rfl,yu.of gr.e,at3,?_⟩
   obtain⟨f,nm,rest,ev,hnm,e1,e2⟩:=gr.df.hd2
   have ok:Zk rs r=JS r.h rs r.ds:=by unfold Zk;rw[h1,h2];rfl
   rw[ok] at kg kb
   refine⟨_,rfl,r.p,_,_,_,rfl,rfl,yu.of gr.ep,(by rw[ev];exact at0),rfl,_,rfl,?_⟩
   rw[show decide (V.str f=V.str "put")=Q5 r.ds by rw[e1];exact yr.mpr ⟨V.str.inj,zB _⟩]
   cases hp:Q5 r.ds with
   | false=>exact QD (QD (kg (by unfold JS;rw[hp];rfl) _ (Qi.refl _)))
   | true =>
     refine QE ⟨_,rfl,r.p,_,_,_,rfl,rfl,yu.of gr.ep,(by rw[ev];exact at1),_,rfl,r.x,_,_,_,rfl,rfl,yu.of gr.e,at1,_,rfl,l,r.h,rs,rfl,hS,hh,by omega,hrs,fun H' s'=>⟨rfl,_,rfl,?_⟩⟩
     rw[show(!decide (V.str nm=V.str (W1 r.h rs))) = !JS r.h rs r.ds by
      unfold JS
      rw[hp,e2,jm,Bool.not_not]
      congr 1
      exact yr.mpr ⟨V.str.inj,zB _⟩]
     cases hk:JS r.h rs r.ds with
     | true=>exact QD (kg hk _ s')
     | false=>exact QE ⟨by show 1<=sizeLine;decide,kb hk _ s'⟩
  rcases xY rs with e | ⟨rs',q,e⟩
  .exact⟨_,rfl,false,.inl ⟨_,hS,by rw[e];rfl⟩,QD (QD (rest (by rw[e];rfl)))⟩
  .have hq:=hrs q (by rw[e,zW];simp)
   have em:rs.map Gr.r=rs'.map Gr.r++[q.r]:=by rw[e,zW,zc];rfl
   have elast:rs.getLast?=some q:=by rw[e,zW];simp
   have el:Jx rs r=decide (q.c<r.c):=by unfold Jx;rw[elast]
   refine⟨_,rfl,true,.inl ⟨_,hS,by rw[em];simp⟩,QE ⟨_,rfl,r.x,_,_,_,rfl,rfl,yu.of gr.e,at0,_,rfl,_,rfl,l,_,_,_,rfl,rfl,hS,(by rw[em];exact Qab _ _),q.x,_,_,_,rfl,rfl,yu.of hq.e,at0,_,_,rfl,rfl,_,rfl,?_⟩⟩
   by_cases hc:q.c<r.c
   .rw[show decide (r.c<=q.c)=false from qz (by omega)]
    exact QD (rest (el.trans (qt hc)))
   .rw[show decide (r.c<=q.c)=true from qt (by omega)]
    exact QE ⟨by show 1<=sizeLine;decide,kb (by unfold Zk;rw[h1,el,qz hc];rfl) _ (Qi.refl _)⟩
end
abbrev Sh:=List (Str×List Gr)
def yf(es:Sh):QpK:=es.map (·.1)
def Ql:Sh->Str->List Gr
 | [],_=>[]
 | e :: es,h=>if e.1=h then e.2 else Ql es h
def Zo:Sh->Str->List Gr->Sh
 | [],h,rs=>[(h,rs)]
 | e :: es,h,rs=>if e.1=h then (e.1,rs) :: es else e :: Zo es h rs
def adU(ad:Str->Addr)(h:Str)(z:Addr):Str->Addr:=fun k=>if k=h then z else ad k
def uE(es:Sh)(ad:Str->Addr):List (Key×V):=es.map fun e=>(inr e.1,.ref (ad e.1))
section
variable {es:Sh}{ad:Str->Addr}{h k:Str}{rs:List Gr}{z:Addr}
theorem ZO(es:Sh)(h k:Str)(rs:List Gr):Ql (Zo es h rs) k=if k=h then rs else Ql es k:=by
 induction es with
 | nil =>
   show(if h=k then rs else [])=if k=h then rs else []
   by_cases e:k=h
   .rw[qj e,qj e.symm]
   .rw[ql e,ql fun z=>e z.symm]
 | cons e es ih =>
   unfold Zo
   by_cases e1:e.1=h
   .rw[qj e1]
    show(if e.1=k then rs else Ql es k)=if k=h then rs else (if e.1=k then e.2 else Ql es k)
    by_cases e2:k=h
    .rw[qj e2,qj (e1.trans e2.symm)]
    .rw[ql e2,ql fun z=>e2 (z.symm.trans e1),ql fun z=>e2 (z.symm.trans e1)]
   .rw[ql e1]
    show(if e.1=k then e.2 else Ql (Zo es h rs) k)=if k=h then rs else (if e.1=k then e.2 else Ql es k)
    rw[ih]
    by_cases e2:e.1=k
    .rw[qj e2,qj e2,ql fun z=>e1 (e2.trans z)]
    .rw[ql e2,ql e2]
theorem Ys(n:h∉yf es):Ql es h=[]:=by
 induction es with
 | nil=>rfl
 | cons e es ih =>
   unfold yf at n
   rw[z7,qR,not_or] at n
   show(if e.1=h then e.2 else Ql es h)=[]
   rw[ql fun z=>n.1 z.symm]
   exact ih n.2
theorem U9(es:Sh)(h:Str)(rs:List Gr):yf (Zo es h rs)=if h∈yf es then yf es else yf es++[h]:=by
 induction es with
 | nil=>rfl
 | cons e es ih =>
   unfold Zo
   by_cases e1:e.1=h
   .rw[qj e1,qj (show h∈yf (e :: es) from qR.mpr (.inl e1.symm))];rfl
   .rw[ql e1]
    show e.1 :: yf (Zo es h rs)=_
    rw[ih]
    by_cases e2:h∈yf es
    .rw[qj e2,qj (show h∈yf (e :: es) from qu _ e2)];rfl
    .rw[ql e2,ql (show ¬h∈yf (e :: es) from fun z=>(qR.mp z).elim (fun w=>e1 w.symm) e2)];rfl
theorem UX(es:Sh)(ad:Str->Addr)(h:Str):Q7 (uE es ad) (inr h)=if h∈yf es then some (.ref (ad h)) else none:=by
 induction es with
 | nil=>rfl
 | cons e es ih =>
   show Q7 ((inr e.1,V.ref (ad e.1)) :: uE es ad) (inr h)=_
   by_cases e1:e.1=h
   .rw[JX (by rw[e1]),qj (show h∈yf (e :: es) from qR.mpr (.inl e1.symm)),e1]
   .rw[Jr (fun z=>e1 (j4 z)),ih]
    by_cases e2:h∈yf es
    .rw[qj e2,qj (show h∈yf (e :: es) from qu _ e2)]
    .rw[ql e2,ql (show ¬h∈yf (e :: es) from fun z=>(qR.mp z).elim (fun w=>e1 w.symm) e2)]
theorem Qh2(es:Sh)(ad:Str->Addr)(h:Str)(rs:List Gr)(z:Addr):Yi (uE es ad) (inr h) (.ref z)=uE (Zo es h rs) (adU ad h z):=by
 have anyi:∀es:Sh,((uE es ad).any fun kv=>decide (kv.1=inr h))=decide (h∈yf es):=fun es=>by
  induction es with
  | nil=>rfl
  | cons e es ih =>
    show(decide ((inr e.1:Key)=inr h) || (uE es ad).any fun kv=>decide (kv.1=inr h))=_
    rw[ih]
    by_cases e1:e.1=h
    .rw[qt (by rw[e1]),qt (show h∈yf (e :: es) from qR.mpr (.inl e1.symm))];rfl
    .rw[qz (fun z=>e1 (j4 z)),Bool.false_or]
     exact yr.mpr ⟨fun z=>qu _ z,fun z=>(qR.mp z).elim (fun w=>absurd w.symm e1) id⟩
 have mp:∀es:Sh,(uE es ad).map (fun kv=>if kv.1=inr h then (kv.1,V.ref z) else kv)=uE es (adU ad h z):=fun es=>by
  unfold uE
  rw[zu]
  refine yV fun e _=>?_
  show(if (inr e.1:Key)=inr h then ((inr e.1:Key),V.ref z) else (inr e.1,.ref (ad e.1)))=(inr e.1,.ref (adU ad h z e.1))
  unfold adU
  by_cases e1:e.1=h
  .rw[qj (by rw[e1]),qj e1]
  .rw[ql (fun z=>e1 (j4 z)),ql e1]
 have ks:uE (Zo es h rs) (adU ad h z)=(yf (Zo es h rs)).map fun k=>((inr k:Key),V.ref (adU ad h z k)):=by unfold uE yf;rw[zu];rfl
 have ks0:uE es (adU ad h z)=(yf es).map fun k=>((inr k:Key),V.ref (adU ad h z k)):=by unfold uE yf;rw[zu];rfl
 unfold Yi
 rw[anyi,ks,U9]
 by_cases e:h∈yf es
 .rw[qj (qt e),qj e,mp,ks0]
 .rw[ql (by rw[qz e];decide),ql e,zc,<-ks0,<-mp]
  congr 1
  .unfold uE
   rw[zu]
   refine yV fun q hq=>?_
   show _=(if (inr q.1:Key)=inr h then ((inr q.1:Key),V.ref z) else (inr q.1,.ref (ad q.1)))
   rw[ql (fun w=>e (by rw[<-j4 w];exact jg hq))]
  .show[((inr h:Key),V.ref z)]=[(inr h,V.ref (adU ad h z h))]
   unfold adU
   rw[qj rfl]
end
structure UU(H:Hp)(es:Sh)(ad:Str->Addr):Prop where
 nd:(yf es).Nodup
 l:∀h,h∈yf es->H (ad h)=some (.lst ((Ql es h).map Gr.r))
 r:∀h,∀r∈Ql es h,QY H r
 nn:∀h,h∈yf es->Ql es h≠[]
theorem UU.go{H H':Hp}{es:Sh}{ad:Str->Addr}(s:UU H es ad)(k:∀c xs,H c=some (.tup xs)->H' c=some (.tup xs))(kl:∀h,h∈yf es->H' (ad h)=H (ad h)):UU H' es ad:=⟨s.nd,fun h e=>(kl h e).trans (s.l h e),fun h r e=>(s.r h r e).tups k,s.nn⟩
theorem UU.mono{H H':Hp}{es:Sh}{ad:Str->Addr}(s:UU H es ad)(k:Qi H H'):UU H' es ad:=s.go (fun c xs e=>k _ _ e) fun h e=>by rw[k _ _ (s.l h e),s.l h e]
theorem UU.put{H:Hp}{es:Sh}{ad:Str->Addr}{h:Str}{z:Addr}{rs:List Gr}(s:UU H es ad)(ez:H z=some (.lst (rs.map Gr.r)))(hr:∀r∈rs,QY H r)(n:rs≠[]):UU H (Zo es h rs) (adU ad h z):=by
 refine⟨?_,fun k hk=>?_,fun k r hr'=>?_,fun k hk=>?_⟩
 .rw[U9]
  split
  .exact s.nd
  .rename_i e
   exact gM.mpr ⟨s.nd,jo.mpr ⟨ye,jU⟩,fun a ha b hb=>by rw[qg.mp hb];exact fun z=>e (z▸ha)⟩
 .rw[ZO]
  unfold adU
  by_cases e:k=h
  .rw[qj e,qj e];exact ez
  .rw[ql e,ql e]
   refine s.l k ?_
   rw[U9] at hk
   split at hk
   .exact hk
   .exact(qF.mp hk).elim id fun w=>absurd (qg.mp w) e
 .rw[ZO] at hr'
  split at hr'
  .exact hr r hr'
  .exact s.r k r hr'
 .rw[ZO]
  by_cases e:k=h
  .rw[qj e];exact n
  .rw[ql e]
   refine s.nn k ?_
   rw[U9] at hk
   split at hk
   .exact hk
   .exact(qF.mp hk).elim id fun w=>absurd (qg.mp w) e
def wgh:Sh->List Gr->Option (Sh×List Gr)
 | es,[]=>some (es,[])
 | es,r :: rs=>if (Ql es r.h).length<r.n then (if Zk (Ql es r.h) r=true then (wgh (Zo es r.h (Ql es r.h++[r])) rs).map fun p=>(p.1,r :: p.2) else none)
   else match (Ql es r.h)[r.n - 1]? with
    | some q=>if eqR r q=true then wgh es rs else none
    | none=>none
abbrev Uh(r:Gr):KD:=.inl ((r.n:Nat):Int)
abbrev stK(r:Gr):KD:=.inr (r.c,r.h)
theorem X3{d:PyData}(h1:PyData.canLay0 d=true)(h2:PyData.depth d<=3):SeqAt.shaped d=true:=by
 unfold SeqAt.shaped
 rw[h1,jm]
 exact qt (by omega)
structure u6(a:yE)(H:Hp)(l S:Addr)(hd:Str)(es:Sh)(ad:Str->Addr):Prop where
 e:∃dl,H l=some (.ins a.jL dl [("hand",.str hd),("shelves",.ref S)])
 s:∃oa,H S=some (.yR oa (.dK (uE es ad)))
 sh:UU H es ad
theorem u6.mono{a:yE}{H H':Hp}{l S:Addr}{hd:Str}{es:Sh}{ad:Str->Addr}(g:u6 a H l S hd es ad)(s:Qi H H'):u6 a H' l S hd es ad:=⟨let ⟨dl,e⟩:=g.e;⟨dl,s _ _ e⟩,let ⟨o,e⟩:=g.s;⟨o,s _ _ e⟩,g.sh.mono s⟩
inductive YS(a:yE)(vs:List V)(H:Hp)(Q:VK)(E:XK):Prop
 | mk:∀(l S pl:Addr)(hd:Str)(es:Sh)(ad:Str->Addr)(ps:List Gr),vs=[.ref l,.ref pl]->u6 a H l S hd es ad->H pl=some (.lst (ps.map Gr.r))->ps.length<=63->(∀r∈ps,QY H r)->(∀h,(Ql es h).length+ps.length<=200)->es.length+ps.length<=200 ->
    (∀es' fr,wgh es (xn Uh ps)=some (es',fr)->∀t S' fl ad' H',Qi H H'->H S'=none->H fl=none->(∀h,ad' h=ad h\/H (ad' h)=none)->(∀h∈yf es',ad' h≠fl)->H' t=some (.tup [.ref S',.ref fl])->H' S'=some (.dK (uE es' ad'))->UU H' es' ad'->H' fl=some (.lst ((xn stK fr).map Gr.r))->(∀r∈fr,QY H' r)->Q (.ref t) H') ->
    (wgh es (xn Uh ps)=none->∀H',Qi H H'->E (.ref a.jy) none H')->YS a vs H Q E
 | bad:∀(l pl:Addr)(ps:List (V×Dt)),vs=[.ref l,.ref pl]->H pl=some (.lst (ps.map (·.1)))->ps.length<=63->(∀p∈ps,DR H p.1 p.2)->(ps.all fun p=>Zv p.2)=false->(∀H',Qi H H'->E (.ref a.jy) none H')->YS a vs H Q E
 | tup:∀(l pl:Addr)(xs:List V),vs=[.ref l,.ref pl]->H pl=some (.tup xs)->E (.ref a.jy) none H->YS a vs H Q E
def QfH(a:yE):Sp:=fun vs H Q E=>YS a vs H Q E
section
variable {P:Program}{w:World}{K:Frag}{mg:Str->Option Value}{base:Heap}{a:yE}
theorem Qel{fd:FuncData}(F:jZ K "weighed" "Ledger.weighed" ZB a.yN fd)(T:Txt K mg a)(FF:Zr K a):QH P w K mg base (CXF P w) 12 a.yN fd ["self","parcel"] (QfH a):=by
 obtain⟨fdA,xV,Qjx⟩:=FF.xV
 have QjC:=@Qcx P w K mg base a _ xV T FF
 obtain⟨fdB,wA,QkH⟩:=FF.wA
 have QkM:=@Qet P w K mg base a _ wA T FF
 obtain⟨fdC,uR,Qk8⟩:=FF.uR
 have Qle:=@Gn P w K mg base a _ uR T
 obtain⟨fdD,kO,Qhk⟩:=FF.kO
 have QhG:=@Vm P w K mg base a _ kO T
 refine F.okX QU (fun vs H Q E h=>?_) (fun cdv A outer s H vs Q E hr h=>?_)
 .rcases h with⟨l,S,pl,hd,es,ad,ps,rfl,_⟩ | ⟨l,pl,ps,rfl,_⟩ | ⟨l,pl,xs,rfl,_⟩ <;> rfl
 .have hr11:Qv 11 _:=hr
  have hr3:Qv 3 _:=hr.mono (by decide)
  have hr2:Qv 2 _:=hr.mono (by decide)
  have hu:=UQ hr
  have xM:=hr.units
  refine⟨_,(Qa (QV (Qk QjC hr11 rfl T.Qjp xV.kp Qjx .nil XB (zy (pv 1) Qc)))
   (Qa (Qm (i:=2) QU.nd rfl (Or.inl rfl) (ZG Up rfl T.QkG boot_dict (zy (Jb (pv 0) rfl) Qc)))
   (Qa (Qm (i:=3) QU.nd rfl (Or.inl rfl) (QR Qo))
   (Qa (ZZ PassesOwn.leaving rfl (Zm (Gh Qle hr3 rfl T.uP rfl T.QkY Qk8 (pv 1))) (Zd (i:=4) QU.nd rfl (Or.inl rfl)) (Qa (Qm (i:=5) QU.nd rfl (Or.inl rfl) (Qp Qz (pv 4) Qb))
   (Qa (Qm (i:=6) QU.nd rfl (Or.inl rfl) (ZN hu (pv 2) (pv 5) (QR Qo) ⟨rfl,rfl,rfl,rfl⟩))
   (Qg (QO (Qu XD (Qp Qz (pv 4) Qb) (Qr QA rfl T.xg zE (zy (pv 6) Qc))) (Qa (QV (Qk QkM hr2 rfl T.Qkq wA.kp QkH .nil XB (zy (pv 4) (zy (pv 6) Qc))))
   (Qa (UL hu (pv 2) (pv 5) (Qt VG (pv 6) (QR (Qe (pv 4) Qo))) rfl)
   (Qg (QV (J0 plainAttrs_list jc jd Zb (pv 3) (zy (pv 4) Qc)))))) (Qg (QO (Qu (Qbu K xM) (pv 4) (Qp QS (pv 6) (Qt QhS (Qp Qz (pv 4) Qb) Qb))) (Qg (Zi T.xj T.xq hr.hd rfl (zy QB Qc))) Qy)))))))
   (Qg (Qs (Zn (Qe (pv 2) (Qe (Gh QhG hr3 rfl T.uP rfl T.Qjm Qhk (pv 3)) Qo))))))))),?_⟩
  rcases h with⟨l,S,pl,hd,es,ad,ps,rfl,lg,epl,h63,hps,hb,hbe,kg,kb⟩ | ⟨l,pl,ps,rfl,epl,h63,hp,hbad,kb⟩ | ⟨l,pl,xs,rfl,epl,kb⟩
  rotate_left
  .exact⟨_,rfl,.mk pl ps rfl epl h63 hp (fun z=>absurd (hbad.symm.trans z) (by decide)) fun _ H' s'=>kb H' s'⟩
  .exact⟨_,rfl,.tup pl xs rfl epl kb⟩
  obtain⟨dl,el⟩:=lg.e
  obtain⟨oS,eS⟩:=lg.s
  have hall:((ps.map fun r=>(r.r,dtG r)).all fun p=>Zv p.2)=true:=yd.mpr fun p hp=>by
   obtain⟨r,hr,rfl⟩:=zq.mp hp
   exact(hps r hr).st
  refine⟨_,rfl,.mk pl (ps.map fun r=>(r.r,dtG r)) rfl (by rw[epl,zu];rfl) (by rw[qd];exact h63) (fun p hp=>by obtain⟨r,hr,rfl⟩:=zq.mp hp;exact(hps r hr).dr) (fun _ H1 s1=>?_) fun z=>absurd (hall.symm.trans z) (by decide)⟩
  refine⟨_,rfl,l,_,dl,_,_,rfl,s1 _ _ el,T.zO,T.jn,rfl,S,_,rfl,.inr ⟨oS,s1 _ _ eS⟩,fun S' nS'=>?_⟩
  have s2:Qi H1 (upd H1 S' (.dK (uE es ad))):=Qi.zT nS'
  have eS':(upd H1 S' (.dK (uE es ad))) S'=some (.dK (uE es ad)):=Qf
  generalize upd H1 S' (.dK (uE es ad))=H2 at s2 eS' ⊢
  have nS:H S'=none:=s1.free nS'
  refine⟨qP _,fun fl H3 nfl s3 efl=>?_⟩
  have s13:Qi H H3:=(s1.trans s2).trans s3
  have S'fl:S'≠fl:=Qd eS' nfl
  refine⟨_,rfl,pl,ps.map Gr.r,ps.map Uh,rfl,jk.of (s13 _ _ epl),by rw[qd,qd],(by rw[qd];omega),.inl (fun d hd=>by obtain⟨r,_,e⟩:=zq.mp hd;exact⟨_,e.symm⟩),(fun i y d hy hd G sG=>?_),fun sl H4 nsl s4 esl=>?_⟩
  .rw[qJ] at hy hd
   cases er:ps[i]? with
   | none=>rw[er] at hy;cases hy
   | some r =>
     rw[er] at hy hd
     cases hy
     cases hd
     exact⟨r.x,_,_,_,_,rfl,sG _ _ (s13 _ _ (hps r (qG er)).e),Qi.refl _,rfl⟩
  rw[Ut Gr.r] at esl
  have hqs:∀r∈xn Uh ps,QY H r:=fun r hr=>hps r (Q9.mp hr)
  have hql:(xn Uh ps).length=ps.length:=YR
  generalize xn Uh ps=q at esl hqs hql kg kb
  have s14:=s13.trans s4
  have S'sl:S'≠sl:=Qd (s3 _ _ eS') nsl
  have flsl:fl≠sl:=Qd efl nsl
  have nfl1:H fl=none:=(s1.trans s2).free nfl
  refine⟨sl,rfl,⟨_,jk.of esl⟩,Ja (K:=K) (a:=sl) (xs:=q.map Gr.r) (fun i σ G=>∃(ei:Sh)(ai:Str->Addr)(fi:List Gr)(o4 o5 o6:Option V),σ=[some (.ref l),some (.ref pl),some (.ref S'),some (.ref fl),o4,o5,o6]/\Qi H G/\G sl=some (.lst (q.map Gr.r))/\G S'=some (.dK (uE ei ai))/\G fl=some (.lst (fi.map Gr.r))/\UU G ei ai/\(∀h,ai h=ad h\/H (ai h)=none)/\(∀h,h∈yf ei->ai h≠fl)/\wgh es q=(wgh ei (q.drop i)).map (fun p=>(p.1,fi++p.2))/\(∀h,(Ql ei h).length<=(Ql es h).length+i)/\ei.length<=es.length+i/\fi.length<=i/\(∀r∈fi,QY G r))
   ⟨es,ad,[],none,none,none,rfl,s14,esl,s4 _ _ (s3 _ _ eS'),s4 _ _ efl,lg.sh.mono s14,fun h=>.inl rfl,(fun h hh z=>?_),(by rw[jq];cases wgh es q <;> rfl),fun h=>qp _,qp _,qp _,fun r hr=>nomatch hr⟩ ?_ ?_ ?_⟩
  .have:=lg.sh.l h hh
   rw[z,nfl1] at this
   cases this
  .rintro i σ G _ ⟨ei,ai,fi,o4,o5,o6,rfl,_,e,_⟩;exact jk.of e
  .rintro i y σ G hy ⟨ei,ai,fi,o4,o5,o6,rfl,sG,eG,gS,gf,shG,hai,hnf,hw,hl1,hl2,hl3,hfi⟩
   rw[qJ] at hy
   cases er:q[i]? with
   | none=>rw[er] at hy;cases hy
   | some r =>
   rw[er] at hy
   cases hy
   have hi:i<ps.length:=by have:=(qi.mp er).1;omega
   have gr:=(hqs r (qG er)).mono sG
   have hdr:q.drop i=r :: q.drop (i+1):=by
    obtain⟨h1,h2⟩:=qi.mp er
    rw[<-h2];exact j7 h1
   rw[hdr] at hw
   have hln:=hl1 r.h
   have hbr:=hb r.h
   refine⟨_,rfl,r.x,_,_,_,rfl,rfl,yu.of gr.e,at1,?_⟩
   dsimp only[QJ]
   refine⟨_,rfl,S',rfl,.inl ⟨_,.inl gS⟩,_,rfl,qP _,fun z G1 nz t1 ez=>?_⟩
   obtain⟨z',dgt,hz'⟩:∃z',Qdf G1 S' (.str r.h) z'/\∃q,z'.getD (.ref z)=.ref q/\G1 q=some (.lst ((Ql ei r.h).map Gr.r)):=by
    by_cases hr0:r.h∈yf ei
    .exact⟨some (.ref (ai r.h)),.inl ⟨_,inr r.h,.inl (t1 _ _ gS),rfl,by rw[UX,qj hr0]⟩,ai r.h,rfl,t1 _ _ (shG.l _ hr0)⟩
    .exact⟨none,.inl ⟨_,inr r.h,.inl (t1 _ _ gS),rfl,by rw[UX,ql hr0]⟩,z,rfl,by rw[Ys hr0];exact ez⟩
   obtain⟨sf,eq,hq⟩:=hz'
   refine⟨z',dgt,?_⟩
   rw[eq]
   clear eq dgt z'
   have gr1:=gr.mono t1
   have sG1:=sG.trans t1
   have hsf:∀r'∈Ql ei r.h,QY G1 r':=fun r' h'=>(shG.r _ r' h').mono t1
   refine⟨_,rfl,r.x,_,_,_,rfl,rfl,yu.of gr1.e,at2,_,rfl,sf,_,rfl,.inl (jk.of hq),_,_,rfl,rfl,_,rfl,?_⟩
   rw[qd]
   by_cases hn:(Ql ei r.h).length<r.n
   .rw[show decide ((((Ql ei r.h).length:Nat):Int)<((r.n:Nat):Int))=true from qt (by omega)]
    refine QE ?_
    have hw1:wgh ei (r :: q.drop (i+1))=if Zk (Ql ei r.h) r=true then (wgh (Zo ei r.h (Ql ei r.h++[r])) (q.drop (i+1))).map (fun p=>(p.1,r :: p.2)) else none:=by
     rw[wgh,qj hn]
    rw[hw1] at hw
    refine⟨_,rfl,_,rfl,sf,r,Ql ei r.h,rfl,gr1,jk.of hq,by omega,hsf,fun hk G2 t2=>?_,fun hk G2 t2=>kb (by rw[hw,hk];rfl) _ (sG1.trans t2)⟩
    rw[qj hk] at hw
    refine⟨_,rfl,_,rfl,Qdg,fun y1 G3 ny1 t3 ey1=>?_⟩
    refine⟨sf,y1,_,_,rfl,rfl,t3 _ _ (t2 _ _ hq),ey1,?_,fun sh2 G4 Qo2 t4 esh2=>?_⟩
    .rw[qd];exact Q2 ((by show(Ql ei r.h).length+1<=1000;omega))
    have t14:Qi G G4:=((t1.trans t2).trans t3).trans t4
    have gS4:=t14 _ _ gS
    have S'sh:S'≠sh2:=Qd (t3 _ _ (t2 _ _ (t1 _ _ gS))) Qo2
    have gf4:=t14 _ _ gf
    refine⟨_,rfl,_,rfl,S',_,rfl,.inl ⟨_,inr r.h,gS4,rfl,?_,rfl⟩,?_⟩
    .unfold uE
     rw[qd]
     exact QN (by omega)
    rw[Qh2 ei ai r.h (Ql ei r.h++[r])]
    have fS':fl≠S':=S'fl.symm
    refine⟨_,rfl,.inl ⟨rfl,_,jk.of (by rw[Qj fS'];exact gf4)⟩,_,rfl,fl,_,_,rfl,rfl,(by rw[Qj fS'];exact gf4),(by rw[qd];exact QN (by omega)),?_⟩
    have nS0:∀{c:Addr}{o:HO},H c=some o->c≠S':=fun e=>Qd e nS
    have nf0:∀{c:Addr}{o:HO},H c=some o->c≠fl:=fun e=>Qd e nfl1
    have fsh:sh2≠fl:=(Qd (t3 _ _ (t2 _ _ (t1 _ _ gf))) Qo2).symm
    have em:fi.map Gr.r++[r.r]=(fi++[r]).map Gr.r:=by rw[zc];rfl
    have em2:(Ql ei r.h).map Gr.r++[r.r]=(Ql ei r.h++[r]).map Gr.r:=by rw[zc];rfl
    have kt:∀c xs,G4 c=some (.tup xs)->(upd (upd G4 S' (.dK (uE (Zo ei r.h (Ql ei r.h++[r])) (adU ai r.h sh2)))) fl (.lst ((fi++[r]).map Gr.r))) c=some (.tup xs):=fun c xs e=>by
     rw[Qj (QI e gf4 fun z=>nomatch z),Qj (QI e gS4 fun z=>nomatch z)];exact e
    have nh:H sh2=none:=(sG1.trans (t2.trans t3)).free Qo2
    have sh4:UU G4 (Zo ei r.h (Ql ei r.h++[r])) (adU ai r.h sh2):=(shG.mono t14).put (esh2.trans (zB _ (zB _ em2))) (fun r' h'=>(qF.mp h').elim (fun w=>(shG.r _ r' w).mono t14) fun w=>by rw[qg.mp w];exact gr.mono t14) (by simp)
    have hnf':∀h,h∈yf (Zo ei r.h (Ql ei r.h++[r]))->adU ai r.h sh2 h≠fl:=fun h hh=>by
     unfold adU
     by_cases e:h=r.h
     .rw[qj e];exact fsh
     .rw[ql e]
      refine hnf h ?_
      rw[U9] at hh
      split at hh
      .exact hh
      .exact(qF.mp hh).elim id fun w=>absurd (qg.mp w) e
    rw[em]
    refine⟨Zo ei r.h (Ql ei r.h++[r]),adU ai r.h sh2,fi++[r],_,_,_,rfl,(fun c o e=>by rw[Qj (nf0 e),Qj (nS0 e)];exact t14 _ _ (sG _ _ e)),(by rw[Qj flsl.symm,Qj S'sl.symm];exact t14 _ _ eG),(by rw[Qj S'fl];exact Qf),Qf,sh4.go kt (fun h hh=>?_),(fun h=>?_),hnf',?_,(fun h=>?_),?_,by rw[qy];exact Qje hl3,fun r' h'=>(qF.mp h').elim (fun w=>((hfi r' w).mono t14).tups kt) fun w=>by rw[qg.mp w];exact(gr.mono t14).tups kt⟩
    .have n1:=hnf' h hh
     have n2:adU ai r.h sh2 h≠S':=QI (sh4.l h hh) gS4 fun z=>nomatch z
     rw[Qj n1,Qj n2]
    .unfold adU
     by_cases e:h=r.h
     .rw[qj e];exact .inr nh
     .rw[ql e];exact hai h
    .rw[hw,Option.map_map]
     congr 1
     funext p
     show(p.1,fi++(r :: p.2))=(p.1,(fi++[r])++p.2)
     rw[qU];rfl
    .rw[ZO]
     have:=hl1 h
     by_cases e:h=r.h
     .rw[qj e,qy,e]
      show(Ql ei r.h).length+1<=_
      omega
     .rw[ql e];omega
    .have:(Zo ei r.h (Ql ei r.h++[r])).length<=ei.length+1:=by
      have:=zB List.length (U9 ei r.h (Ql ei r.h++[r]))
      unfold yf at this
      split at this <;> simp at this <;> omega
     omega
   .rw[show decide ((((Ql ei r.h).length:Nat):Int)<((r.n:Nat):Int))=false from qz (by omega)]
    refine QD ?_
    have hn1:=gr.n1
    obtain⟨b,hb'⟩:∃b,(Ql ei r.h)[r.n - 1]?=some b:=⟨_,qe (by omega)⟩
    have hw1:wgh ei (r :: q.drop (i+1))=if eqR r b=true then wgh ei (q.drop (i+1)) else none:=by
     rw[wgh,ql hn,hb']
    rw[hw1] at hw
    have gb:=hsf b (qG hb')
    obtain⟨a1,a2,a3⟩:=gr1.rd (K:=K)
    obtain⟨b1,b2,b3⟩:=gb.rd (K:=K)
    have hat:atI ((Ql ei r.h).map Gr.r) (((r.n:Nat):Int) - 1)=some b.r:=by
     rw[show(((r.n:Nat):Int) - 1)=((r.n - 1:Nat):Int) by omega];exact Zt (by rw[qJ,hb'];rfl)
    refine⟨_,rfl,_,rfl,_,rfl,r.x,_,_,_,rfl,rfl,yu.of gr1.e,at2,_,_,rfl,rfl,sf,_,_,_,rfl,rfl,jk.of hq,hat,_,_,a1,b1,X3 a2 a3,X3 b2 b3,_,rfl,?_⟩
    show if (!eqR r b)=true then _ else _
    cases hk:eqR r b with
    | false=>exact QE ⟨by show 1<=sizeLine;decide,kb (by rw[hw,hk];rfl) _ sG1⟩
    | true =>
      rw[qj hk] at hw
      refine QD ?_
      refine⟨ei,ai,fi,_,_,_,rfl,sG1,t1 _ _ eG,t1 _ _ gS,t1 _ _ gf,shG.mono t1,hai,hnf,hw,(fun h=>QiT (hl1 h)),QiT hl2,QiT hl3,fun r' h'=>(hfi r' h').mono t1⟩
  .rintro σ G ⟨ei,ai,fi,o4,o5,o6,rfl,sG,eG,gS,gf,shG,hai,hnf,hw,hl1,hl2,hl3,hfi⟩
   rw[qd,List.drop_length] at hw
   have hw2:wgh es q=some (ei,fi):=by rw[hw];show some (ei,fi++[])=_;rw[j5]
   refine⟨_,rfl,_,rfl,fl,fi.map Gr.r,fi.map stK,rfl,jk.of gf,by rw[qd,qd],(by rw[qd] at hl3 ⊢;omega),.inr (fun d hd=>by obtain⟨r,_,e⟩:=zq.mp hd;exact⟨_,_,e.symm⟩),(fun i y d hy hd G1 t1=>?_),fun f2 G1 nf2 t1 ef2=>?_⟩
   .rw[qJ] at hy hd
    cases er:fi[i]? with
    | none=>rw[er] at hy;cases hy
    | some r =>
      rw[er] at hy hd
      cases hy
      cases hd
      exact⟨r.x,_,_,_,_,rfl,t1 _ _ (hfi r (qG er)).e,fun t G2 t2 et=>⟨t2,t,rfl,et⟩⟩
   .rw[Ut Gr.r] at ef2
    refine⟨UW,fun t G2 nt t2 et=>?_⟩
    have t12:=t1.trans t2
    exact kg ei fi hw2 t S' f2 ai G2 (sG.trans t12) nS (sG.free nf2) hai (fun h hh=>Qd (shG.l h hh) nf2) et (t12 _ _ gS) (shG.mono t12) (t2 _ _ ef2) fun r hr=>(hfi r hr).mono t12
end
inductive Xi(a:yE)(vs:List V)(H:Hp)(Q:VK)(E:XK):Prop
 | mk:∀(x dx:Addr)(v:V)(d:Dt),vs=[.ref x,v]->H x=some (.ins a.jL dx [])->DR H v d->(∀hd,d=.str hd->isH hd=true->∀S H',SX x H H'->H' x=some (.ins a.jL dx [("hand",.str hd),("shelves",.ref S)])->H' S=some (.dK [])->H S=none->Q .non H')->(WE d=false->∀H',Qi H H'->E (.ref a.QjF) none H')->Xi a vs H Q E
def QfL(a:yE):Sp:=fun vs H Q E=>Xi a vs H Q E
inductive Xh(K:Frag)(a:yE)(vs:List V)(H:Hp)(Q:VK):Prop
 | mk:∀(l S:Addr)(hd k:Str)(es:Sh)(ad:Str->Addr),vs=[.ref l,.str k]->u6 a H l S hd es ad->(∀z H',Qi H H'->jk K H' z ((Ql es k).map Gr.r)->Q (.ref z) H')->Xh K a vs H Q
def QfK(K:Frag)(a:yE):Sp:=fun vs H Q _=>Xh K a vs H Q
inductive Uu(a:yE)(vs:List V)(H:Hp)(Q:VK)(E:XK):Prop
 | mk:∀(l S pl:Addr)(hd:Str)(es:Sh)(ad:Str->Addr)(ps:List Gr),vs=[.ref l,.ref pl]->u6 a H l S hd es ad->H pl=some (.lst (ps.map Gr.r))->ps.length<=63->(∀r∈ps,QY H r)->(∀h,(Ql es h).length+ps.length<=200)->es.length+ps.length<=200 ->
    (∀es' fr,wgh es (xn Uh ps)=some (es',fr)->∀S' fl ad' H',SX l H H'->H S'=none->H fl=none->(∀h,ad' h=ad h\/H (ad' h)=none)->(∀h∈yf es',ad' h≠fl)->u6 a H' l S' hd es' ad'->H' fl=some (.lst ((xn stK fr).map Gr.r))->(∀r∈fr,QY H' r)->Q (.ref fl) H') ->
    (wgh es (xn Uh ps)=none->∀H',Qi H H'->E (.ref a.jy) none H')->Uu a vs H Q E
 | bad:∀(l S pl:Addr)(hd:Str)(es:Sh)(ad:Str->Addr)(ps:List (V×Dt)),vs=[.ref l,.ref pl]->u6 a H l S hd es ad->H pl=some (.lst (ps.map (·.1)))->ps.length<=63->(∀p∈ps,DR H p.1 p.2)->(ps.all fun p=>Zv p.2)=false->(∀H',Qi H H'->E (.ref a.jy) none H')->Uu a vs H Q E
 | tup:∀(l S pl:Addr)(hd:Str)(es:Sh)(ad:Str->Addr)(xs:List V),vs=[.ref l,.ref pl]->u6 a H l S hd es ad->H pl=some (.tup xs)->E (.ref a.jy) none H->Uu a vs H Q E
def QhB(a:yE):Sp:=fun vs H Q E=>Uu a vs H Q E
def QZ(rs:List Gr):Int:=match rs.getLast? with | none=>0 | some q=>q.c
def Yz(es:Sh):Int:=mxd 0 ((yf es).map fun h=>QZ (Ql es h))
theorem UO{d:Int}:∀{ns:List Int},(∀a∈ns,a<=mxd d ns)/\(mxd d ns=d\/mxd d ns∈ns)
 | []=>⟨(fun a h=>nomatch h),.inl rfl⟩
 | n :: ns=>by
   have key:∀(l:List Int)(z:Int),z<=l.foldl max z/\(∀a∈l,a<=l.foldl max z)/\(l.foldl max z=z\/l.foldl max z∈l):=by
    intro l
    induction l with
    | nil=>intro z;exact⟨uG _,(fun a h=>nomatch h),.inl rfl⟩
    | cons y l ih =>
      intro z
      obtain⟨h1,h2,h3⟩:=ih (max z y)
      show z<=l.foldl max (max z y)/\_/\(l.foldl max (max z y)=z\/l.foldl max (max z y)∈y :: l)
      refine⟨by omega,fun a ha=>?_,?_⟩
      .show a<=l.foldl max (max z y)
       rcases qR.mp ha with e | e
       .omega
       .exact h2 a e
      .rcases h3 with e | e
       .rw[e]
        rcases Int.le_total z y with q | q
        .rw[Int.max_eq_right q];exact .inr (qI ..)
        .rw[Int.max_eq_left q];exact .inl rfl
       .exact .inr (qu _ e)
   obtain⟨h1,h2,h3⟩:=key ns n
   refine⟨fun a ha=>?_,?_⟩
   .rcases qR.mp ha with e | e
    .rw[e];exact h1
    .exact h2 a e
   .rcases h3 with e | e
    .exact .inr (by rw[show mxd d (n :: ns)=n from e];exact qI ..)
    .exact .inr (qu _ e)
inductive QdK(a:yE)(vs:List V)(H:Hp)(Q:VK)(E:XK):Prop
 | mk:∀(l S p:Addr)(hd:Str)(es:Sh)(ad:Str->Addr)(xs:List V)(ds:List Dt),vs=[.ref l,.ref p]->u6 a H l S hd es ad->ZS hd->H p=some (.tup xs)->ZT H xs ds->(∀h,(Ql es h).length<=150)->es.length<=150 ->
    (JS hd (Ql es hd) ds=true->∀(r:Gr) S' ad' H',r.c=Yz es+1->r.h=hd->r.n=(Ql es hd).length+1->r.p=p->r.vs=xs->r.ds=ds->H r.x=none->SX l H H'->H S'=none->(∀h,ad' h=ad h\/H (ad' h)=none)->u6 a H' l S' hd (Zo es hd (Ql es hd++[r])) ad'->QY H' r->Q (.ref r.x) H') ->
    (JS hd (Ql es hd) ds=false->∀H',Qi H H'->E (.ref a.jy) none H')->QdK a vs H Q E
def spDo(a:yE):Sp:=fun vs H Q E=>QdK a vs H Q E
def hvG(es:Sh):List (Key×Int):=(yf es).map fun h=>(inr h,(((Ql es h).length:Nat):Int))
inductive K6(a:yE)(vs:List V)(H:Hp)(Q:VK):Prop
 | mk:∀(l S:Addr)(hd:Str)(es:Sh)(ad:Str->Addr),vs=[.ref l]->u6 a H l S hd es ad->es.length<=200->(∀z H',Qi H H'->H z=none->H' z=some (.dK (nK (hvG es)))->Q (.ref z) H')->K6 a vs H Q
def QhF(a:yE):Sp:=fun vs H Q _=>K6 a vs H Q
def xN(es:Sh)(had:Str->Nat):List Gr:=(yf es).flatMap fun h=>(Ql es h).drop (had h)
inductive Qft(H:Hp):V->(Str->Nat)->Prop
 | non:Qft H .non fun _=>0
 | dct {hp:Addr} {na:List (Key×Int)} {had:Str->Nat} (e:Rd H hp (.dK (nK na))) (v:∀h,(Q7 (nK na) (inr h)).getD (.int 0)=.int ((had h:Nat):Int)):Qft H (.ref hp) had
section
variable {P:Program}{w:World}{K:Frag}{mg:Str->Option Value}{base:Heap}{a:yE}
theorem Qep{fd:FuncData}(F:jZ K "__init__" "Ledger.__init__" Jj a.vq fd)(T:Txt K mg a)(FF:Zr K a):QH P w K mg base (CXF P w) 3 a.vq fd ["self","hand"] (QfL a):=by
 obtain⟨fdA,xu,QiM⟩:=FF.xu
 have QiQ:=@Go P w K mg base a _ xu T FF
 refine F.okX Wl (fun _ _ _ _ h=>by cases h;subst_vars;rfl) (fun cdv A outer s H vs Q E hr h=>?_)
 .obtain⟨x,dx,v,d,rfl,ex,r,kg,kb⟩:=h
  have hr2:Qv 2 _:=hr
  refine⟨_,(Qa (QO (Q8 (Za (Qk QiQ hr2 rfl T.Qj6 xu.kp QiM .nil Qn (zy (pv 1) Qc)))) (Qg (Zi T.QmC T.QlU hr.hd rfl (zy QB Qc))) Qy)
   (Qa (Yk (pv 0) (pv 1) rfl)
   (Qg (Yk (pv 0) Z8 rfl)))),?_⟩
  refine⟨_,rfl,v,d,rfl,r,fun H1 s1=>⟨_,rfl,?_⟩⟩
  cases hh:WE d with
  | false=>exact QE ⟨by show 1<=sizeLine;decide,kb hh _ s1⟩
  | true =>
    refine QD ?_
    dsimp only[VW]
    obtain⟨hd,rfl⟩:∃hd,d=.str hd:=by cases d <;> first | exact⟨_,rfl⟩ | cases hh
    cases r with
    | str h1 h2 =>
      have ex1:=s1 _ _ ex
      refine⟨_,rfl,_,rfl,x,_,dx,_,rfl,ex1,T.zO,T.yC,(by decide),?_⟩
      intro S nS
      have xS:x≠S:=Qd Qf nS
      refine⟨_,rfl,x,_,dx,_,rfl,(by rw[Qj xS];exact Qf),T.zO,T.jn,(by show 1<1000;decide),?_⟩
      have nS1:H1 S=none:=by rw[Qj xS.symm] at nS;exact nS
      refine kg hd rfl hh S _ (fun c o n e=>?_) Qf (by rw[Qj xS.symm];exact Qf) (s1.free nS1)
      have e1:=s1 _ _ e
      rw[Qj n,Qj (Qd e1 nS1),Qj n]
      exact e1
theorem Qen{fd:FuncData}(F:jZ K "shelf" "Ledger.shelf" Z3 a.xR fd)(T:Txt K mg a):QH P w K mg base vV 1 a.xR fd ["self","hand"] (QfK K a):=by
 refine F.ok Vw (fun _ _ _ _ h=>by cases h;subst_vars;rfl) (fun cdv A outer s H vs Q E hr h=>?_)
 .obtain⟨l,S,hd,k,es,ad,rfl,lg,kq⟩:=h
  have hu:=UQ hr
  obtain⟨dl,el⟩:=lg.e
  obtain⟨oS,eS⟩:=lg.s
  refine⟨_,(Qg (Qs (ZN hu (Jb (pv 0) rfl) (pv 1) (QR Qo) ⟨rfl,rfl,rfl,rfl⟩))),?_⟩
  refine⟨_,rfl,l,_,dl,_,_,rfl,el,T.zO,T.jn,rfl,S,rfl,.inl ⟨_,.inr ⟨oS,eS⟩⟩,_,rfl,qP _,fun z H1 nz s1 ez=>?_⟩
  by_cases hr0:k∈yf es
  .exact⟨some (.ref (ad k)),.inl ⟨_,inr k,.inr ⟨oS,s1 _ _ eS⟩,rfl,by rw[UX,qj hr0]⟩,kq _ _ s1 (jk.of (s1 _ _ (lg.sh.l k hr0)))⟩
  .exact⟨none,.inl ⟨_,inr k,.inr ⟨oS,s1 _ _ eS⟩,rfl,by rw[UX,ql hr0]⟩,kq z _ s1 (by rw[Ys hr0];exact jk.of ez)⟩
theorem Qby{fd:FuncData}(F:jZ K "take" "Ledger.take" Ji a.vp fd)(T:Txt K mg a)(FF:Zr K a):QH P w K mg base (CXF P w) 13 a.vp fd ["self","parcel"] (QhB a):=by
 obtain⟨fdA,FA,QiN⟩:=FF.QiS
 have QiR:=@Qel P w K mg base a _ FA T FF
 refine F.okX YE (fun vs H Q E h=>?_) (fun cdv A outer s H vs Q E hr h=>?_)
 .rcases h with⟨l,S,pl,hd,es,ad,ps,rfl,_⟩ | ⟨l,S,pl,hd,es,ad,ps,rfl,_⟩ | ⟨l,S,pl,hd,es,ad,xs,rfl,_⟩ <;> rfl
 .have hr12:Qv 12 _:=hr
  refine⟨_,(Qa (Qm (i:=2) YE.nd rfl (Or.inl rfl) (Ym (pv 0) T.zO T.QiO QiR hr12 QiN .nil XB (zy (pv 1) Qc)))
   (Qa (Yk (pv 0) (Qp Qz (pv 2) Qb) rfl)
   (Qg (Qd8 (Qs (Qp Qz (pv 2) Qb)))))),?_⟩
  rcases h with⟨l,S,pl,hd,es,ad,ps,rfl,lg,epl,h63,hps,hb,hbe,kg,kb⟩ | ⟨l,S,pl,hd,es,ad,ps,rfl,lg,epl,h63,hp,hbad,kb⟩ | ⟨l,S,pl,hd,es,ad,xs,rfl,lg,epl,kb⟩
  rotate_left
  .obtain⟨dl,el⟩:=lg.e;exact⟨_,rfl,l,dl,_,rfl,el,rfl,_,rfl,.bad l pl ps rfl epl h63 hp hbad kb⟩
  .obtain⟨dl,el⟩:=lg.e;exact⟨_,rfl,l,dl,_,rfl,el,rfl,_,rfl,.tup l pl xs rfl epl kb⟩
  obtain⟨dl,el⟩:=lg.e
  refine⟨_,rfl,l,dl,_,rfl,el,rfl,_,rfl,.mk l S pl hd es ad ps rfl lg epl h63 hps hb hbe (fun es' fr hw t S' fl ad' H1 s1 nS' nfl had afl et eS' sh1 efl hfr=>?_) kb⟩
  refine⟨_,rfl,t,_,_,_,rfl,rfl,yu.of et,at0,?_⟩
  refine⟨_,rfl,l,_,dl,_,rfl,s1 _ _ el,T.zO,T.jn,(by show 2<1000;decide),?_⟩
  have lS':l≠S':=Qd el nS'
  have el2:(upd H1 l (.ins a.jL dl (Yj "shelves" (.ref S') [("hand",.str hd),("shelves",.ref S)]))) l=some (.ins a.jL dl [("hand",.str hd),("shelves",.ref S')]):=by rw[Qf];rfl
  have x2:SX l H1 (upd H1 l (.ins a.jL dl (Yj "shelves" (.ref S') [("hand",.str hd),("shelves",.ref S)]))):=fun c o n e=>by rw[Qj n];exact e
  generalize upd H1 l (.ins a.jL dl (Yj "shelves" (.ref S') [("hand",.str hd),("shelves",.ref S)]))=H2 at el2 x2 ⊢
  have el1:=s1 _ _ el
  have et2:=x2 _ _ (QI et el1 fun z=>nomatch z) et
  refine⟨S',_,x2 _ _ lS'.symm eS',fun oa=>?_⟩
  have x3:∀{c o},c≠l->c≠S'->H1 c=some o->(upd H2 S' (.yR oa (.dK (uE es' ad')))) c=some o:=fun n m e=>by rw[Qj m];exact x2 _ _ n e
  have tS':t≠S':=QI et eS' fun z=>nomatch z
  refine⟨_,rfl,t,_,_,_,rfl,rfl,yu.of (by rw[Qj tS'];exact et2),at1,?_⟩
  have xt:∀c xs,H1 c=some (.tup xs)->(upd H2 S' (.yR oa (.dK (uE es' ad')))) c=some (.tup xs):=fun c xs e=>x3 (QI e el1 fun z=>nomatch z) (QI e eS' fun z=>nomatch z) e
  have xl:∀c xs,H1 c=some (.lst xs)->(upd H2 S' (.yR oa (.dK (uE es' ad')))) c=some (.lst xs):=fun c xs e=>x3 (QI e el1 fun z=>nomatch z) (QI e eS' fun z=>nomatch z) e
  exact kg es' fr hw S' fl ad' _ (fun c o n e=>x3 n (Qd e nS') (s1 _ _ e)) nS' nfl had afl ⟨⟨dl,by rw[Qj lS'];exact el2⟩,⟨oa,Qf⟩,sh1.go xt fun h hh=>by rw[xl _ _ (sh1.l h hh),sh1.l h hh]⟩ (xl _ _ efl) fun r hr=>(hfr r hr).tups xt
theorem Qg1{fd:FuncData}(F:jZ K "do" "Ledger.do" Jv a.wR fd)(T:Txt K mg a)(FF:Zr K a):QH P w K mg base (CXF P w) 14 a.wR fd ["self","deed"] (spDo a):=by
 obtain⟨fdA,FA,wY⟩:=FF.QgD
 have gh:=@Qby P w K mg base a _ FA T FF
 obtain⟨fdB,FB,Qjy⟩:=FF.QjE
 have QjD:=@Qen P w K mg base a _ FB T
 refine F.okX Ye (fun _ _ _ _ h=>by cases h;subst_vars;rfl) (fun cdv A outer s H vs Q E hr h=>?_)
 .obtain⟨l,S,p,hd,es,ad,xs,ds,rfl,lg,hh,ep,df,QmX,he150,kg,kb⟩:=h
  have Qpf:Qv 13 _:=hr
  have hr1:Qv 1 _:=hr.mono (by decide)
  obtain⟨dl,el⟩:=lg.e
  obtain⟨oa,eS⟩:=lg.s
  refine⟨_,(Qa (Qm (i:=2) Ye.nd rfl (Or.inl rfl) (Qt QQ (Qgb rfl rfl T.Qm4 (Yn (sc:=Qh Jv) (N:=Vo) (fr:=[]) ⟨rfl,rfl,by decide +kernel,by decide +kernel,by decide +kernel,by decide +kernel,by decide +kernel⟩ rfl rfl rfl (Qf9 (Jb (pv 0) rfl)) (fun _ _ _ _=>YY) (fun _ _ _ _=>(Qp (Zs K) (Qp (Jy K) (pv 0) (Qeb Qai Qb)) Qb)))) Qb))
   (Qa (Qm (i:=3) Ye.nd rfl (Or.inl rfl) (Zn (Qe (pv 2) (Qe (Jb (pv 0) rfl) (Qe (Qt QQ (Qr QA rfl T.xg zE (zy (Ym (pv 0) T.zO T.QjA QjD hr1 Qjy .nil Qn (zy (Jb (pv 0) rfl) Qc)) Qc)) Qb) (Qe (pv 1) Qo))))))
   (Qa (QV (Ym (pv 0) T.zO T.Qgt gh Qpf wY .nil XB (zy (QR (Qe (pv 3) Qo)) Qc)))
   (Qg (Qs (pv 3)))))),?_⟩
  refine⟨_,rfl,l,_,dl,_,_,rfl,el,T.zO,T.jn,rfl,S,_,rfl,.inl ⟨oa,eS,?_⟩⟩
  refine Qc9 (xs:=yf es) (fun h=>V.ref (ad h)) (fun h=>V.int (QZ (Ql es h))) (Q2 ((by unfold yf;rw[qd];omega))) eS (by unfold uE yf;rw[zu,zu];rfl) (fun x H3 Q' _ _ q=>q) (fun x H3 Q' hx s3 q=>?_) fun D nD=>?_
  .rcases xY (Ql es x) with e | ⟨rs',r,e⟩
   .exact absurd e (lg.sh.nn x hx)
   .have at_:=lg.sh.r x r (by rw[e,zW];simp)
    have em:(Ql es x).map Gr.r=rs'.map Gr.r++[r.r]:=by rw[e,zW,zc];rfl
    have elc:QZ (Ql es x)=r.c:=by unfold QZ;rw[e,zW];simp
    rw[elc] at q
    exact⟨_,rfl,_,rfl,ad x,_,_,_,rfl,rfl,jk.of (s3 _ _ (lg.sh.l x hx)),(by rw[em];exact Qab _ _),r.x,_,_,_,rfl,rfl,yu.of (s3 _ _ at_.e),at0,q⟩
  have s1:Qi H (upd H D (.lst ((yf es).map fun h=>V.int (QZ (Ql es h))))):=Qi.zT nD
  have eD:(upd H D (.lst ((yf es).map fun h=>V.int (QZ (Ql es h))))) D=some (.lst (((yf es).map fun h=>QZ (Ql es h)).map V.int)):=by rw[Qf,zu];rfl
  generalize upd H D (.lst ((yf es).map fun h=>V.int (QZ (Ql es h))))=H1 at s1 eD ⊢
  refine⟨D,_,rfl,jk.of eD,_,_,rfl,rfl,?_⟩
  show _
  have lg1:=lg.mono s1
  refine⟨_,rfl,_,rfl,l,_,dl,_,_,rfl,s1 _ _ el,T.zO,T.yC,rfl,_,rfl,l,dl,_,rfl,s1 _ _ el,rfl,_,rfl,l,_,dl,_,_,rfl,s1 _ _ el,T.zO,T.yC,rfl,l,S,hd,hd,es,ad,rfl,lg1,fun z H2 s2 hz=>?_⟩
  refine⟨z,_,rfl,.inl hz,_,_,rfl,rfl,_,rfl,XW,fun x H3 nx s3 ex=>?_⟩
  rw[qd] at ex
  have s13:=(s1.trans s2).trans s3
  dsimp only[QJ]
  refine⟨_,rfl,l,dl,_,rfl,s13 _ _ el,rfl,_,rfl,Qdg,fun pl H4 npl s4 epl=>?_⟩
  have s14:=s13.trans s4
  have hc0:0<=Yz es:=by
   unfold Yz
   rcases (UO (d:=0) (ns:=(yf es).map fun h=>QZ (Ql es h))).2 with e | e
   .rw[e];exact uG _
   .obtain⟨k,hk,e'⟩:=zq.mp e
    rw[<-e']
    rcases xY (Ql es k) with q | ⟨rs',r,q⟩
    .rw[q];exact uG _
    .have:=(lg.sh.r k r (by rw[q,zW];simp)).c1
     rw[q,zW,show QZ (rs'++[r])=r.c by unfold QZ;simp]
     omega
  let r:Gr:=⟨x,Yz es+1,hd,(Ql es hd).length+1,p,xs,ds⟩
  have gr:QY H4 r:=⟨s4 _ _ ex,s14 _ _ ep,df.tups (fun c xs e=>s14 _ _ e),hh,by show 1<=Yz es+1;omega,Qje (qP _)⟩
  have hs1:xn Uh [r]=[r]:=(Z7 (key:=Uh) (xs:=[r])).eq_singleton
  have hlo:Jx (Ql es hd) r=true:=by
   unfold Jx
   split
   .rfl
   .rename_i q hq
    have hk:hd∈yf es:=j8 fun z=>by rw[Ys z] at hq;cases hq
    have:QZ (Ql es hd)<=Yz es:=(UO (d:=0)).1 _ (jg hk)
    rw[show QZ (Ql es hd)=q.c by unfold QZ;rw[hq]] at this
    exact qt (show q.c<Yz es+1 by omega)
  have hwg:wgh es (xn Uh [r])=if JS hd (Ql es hd) ds=true then some (Zo es hd (Ql es hd++[r]),[r]) else none:=by
   rw[hs1,wgh,qj (show(Ql es hd).length<(Ql es hd).length+1 from yW _),show Zk (Ql es r.h) r=JS hd (Ql es hd) ds by
    unfold Zk
    rw[show Jx (Ql es r.h) r=true from hlo,qt (show r.n=(Ql es r.h).length+1 from rfl)]
    rfl]
   split <;> rfl
  refine .mk l S pl hd es ad [r] rfl (lg.mono s14) epl (by show 1<=63;decide) (fun q hq=>by rw[qg.mp hq];exact gr) (fun h=>by have:=QmX h;show _+1<=200;omega) (by show _+1<=200;omega) (fun es' fr hw S' fl ad' H5 x5 nS' nfl had _ lg5 efl hfr=>?_) fun hw H5 s5=>kb ?_ _ (s14.trans s5)
  .rw[hwg] at hw
   by_cases hk:JS hd (Ql es hd) ds=true
   .rw[qj hk] at hw
    cases hw
    exact⟨_,rfl,kg hk r S' ad' H5 rfl rfl rfl rfl rfl rfl ((s1.trans s2).free nx) (fun c o n e=>x5 _ _ n (s14 _ _ e)) (s14.free nS') (fun h=>(had h).imp id fun z=>s14.free z) lg5 (hfr r (qg.mpr rfl))⟩
   .rw[ql hk] at hw;cases hw
  .rw[hwg] at hw
   by_cases hk:JS hd (Ql es hd) ds=true
   .rw[qj hk] at hw;cases hw
   .exact Bool.not_eq_true _▸hk
end
theorem Kb{kvs:List (Key×V)}{k:Key}{v:V}(n:k∉kvs.map (·.1)):Yi kvs k v=kvs++[(k,v)]:=by
 unfold Yi
 rw[ql]
 intro z
 obtain⟨kv,hm,e⟩:=List.any_eq_true.mp z
 exact n (qD e▸jg hm)
theorem WN{α β:Type}{l:List α}{f:α->β}{i:Nat}{x:α}(h:l[i]?=some x):(l.take (i+1)).map f=(l.take i).map f++[f x]:=by
 rw[zb,h,zc];rfl
theorem Qg5{es:Sh}{ad:Str->Addr}{i:Nat}{kv:Key×V}(h:(uE es ad)[i]?=some kv):∃k,(yf es)[i]?=some k/\kv=(inr k,.ref (ad k))/\k∈yf es:=by
 unfold uE at h
 rw[qJ] at h
 cases e:es[i]? with
 | none=>rw[e] at h;cases h
 | some q=>rw[e] at h;cases h;exact⟨q.1,by unfold yf;rw[qJ,e];rfl,rfl,jg (qG e)⟩
theorem Qgm{l:QpK}(nd:l.Nodup){i:Nat}{x:Str}(h:l[i]?=some x):x∉l.take i:=fun z=>by
 obtain⟨j,hj⟩:=qL.mp z
 have hji:j<i:=by have:=(qi.mp hj).1;rw[qK] at this;omega
 rw[za,qj hji] at hj
 have:=(List.getElem?_inj (qi.mp hj).1 nd).mp (hj.trans h.symm)
 omega
inductive Xe(a:yE)(vs:List V)(H:Hp)(Q:VK):Prop
 | mk:∀(l S:Addr)(v:V)(hd:Str)(es:Sh)(ad:Str->Addr)(had:Str->Nat),vs=[.ref l,v]->u6 a H l S hd es ad->Qft H v had->((xN es had).map stK).Nodup->(xN es had).length<=500->(∀z H',Qi H H'->H z=none->H' z=some (.lst ((xn stK (xN es had)).map Gr.r))->Q (.ref z) H')->Xe a vs H Q
def QfI(a:yE):Sp:=fun vs H Q _=>Xe a vs H Q
section
variable {P:Program}{w:World}{K:Frag}{mg:Str->Option Value}{base:Heap}{a:yE}
theorem Qbz{fd:FuncData}(F:jZ K "have" "Ledger.have" Jk a.vy fd)(T:Txt K mg a):QH P w K mg base vV 1 a.vy fd ["self"] (QhF a):=by
 refine F.ok Jt (fun _ _ _ _ h=>by cases h;subst_vars;rfl) (fun cdv A outer s H vs Q E hr h=>?_)
 .obtain⟨l,S,hd,es,ad,rfl,lg,Qpj,kq⟩:=h
  have hu:=UQ hr
  obtain⟨dl,el⟩:=lg.e
  obtain⟨oa,eS⟩:=lg.s
  refine⟨_,(Qa (Qm (i:=1) Jt.nd rfl (Or.inl rfl) Z8)
   (Qa (ZZ jF rfl (Gf (Jb (pv 0) rfl)) (Zd (i:=2) Jt.nd rfl (Or.inl rfl)) (Qg (UL hu (pv 1) (pv 2) (Qr QA rfl T.xg zE (zy (Qbs hu (Jb (pv 0) rfl) (pv 2)) Qc)) rfl)))
   (Qg (Qs (pv 1))))),?_⟩
  intro z nz
  have s1:Qi H (upd H z (.dK [])):=Qi.zT nz
  have ez:(upd H z (.dK [])) z=some (.dK []):=Qf
  generalize upd H z (.dK [])=H1 at s1 ez
  dsimp only[QJ]
  have kl:(yf es).length=es.length:=by unfold yf;rw[qd]
  have kvl:(uE es ad).length=(yf es).length:=by unfold uE yf;rw[qd,qd]
  refine⟨_,rfl,l,_,dl,_,_,rfl,s1 _ _ el,T.zO,T.jn,rfl,S,_,rfl,.inl ⟨oa,s1 _ _ eS,?_⟩⟩
  refine GO (fun i σ G=>∃o2:Option V,σ=[some (.ref l),some (.ref z),o2]/\Qi H G/\G z=some (.dK (((yf es).take i).map fun h=>(inr h,.int (((Ql es h).length:Nat):Int))))) ⟨none,rfl,s1,ez⟩ ?_ ?_ ?_
  .rintro i σ G _ ⟨o2,rfl,sG,_⟩;exact sG _ _ eS
  .rintro i kv σ G hkv ⟨o2,rfl,sG,gz⟩
   obtain⟨k,hk,rfl,hm⟩:=Qg5 hkv
   have esh:=sG _ _ (lg.sh.l k hm)
   have hi:i<es.length:=by have:=(qi.mp hk).1;omega
   refine⟨_,rfl,l,_,dl,_,_,rfl,sG _ _ el,T.zO,T.jn,rfl,_,rfl,S,.ref (ad k),rfl,.inl ⟨_,inr k,.inr ⟨oa,sG _ _ eS⟩,rfl,by rw[UX,qj hm]⟩,ad k,_,rfl,.inl (jk.of esh),_,rfl,_,rfl,z,_,rfl,.inl ⟨_,inr k,gz,rfl,(by rw[qd,qK];exact QN (by omega)),rfl⟩,?_⟩
   refine⟨_,rfl,(fun c o e=>by rw[Qj (Qd e nz)];exact sG _ _ e),?_⟩
   rw[Qf,qd,Kb,WN hk]
   rw[zu]
   intro w
   obtain⟨k',hk',e'⟩:=zq.mp w
   exact Qgm lg.sh.nd hk (j4 e'▸hk')
  .rintro σ G ⟨o2,rfl,sG,gz⟩
   refine⟨_,rfl,kq z G sG nz ?_⟩
   rw[gz,kvl,yq]
   unfold hvG nK
   rw[zu]
   rfl
theorem UM{fd:FuncData}(F:W3 K "told" "Ledger.told" Jh a.vm fd)(T:Txt K mg a)(FF:Zr K a):QH P w K mg base vV 4 a.vm fd ["self","have"] (QfI a):=by
 obtain⟨fdD,kO,Qhk⟩:=FF.kO
 have QhG:=@Vm P w K mg base a _ kO T
 refine F.ok ZJ (fun _ _ _ _ h=>by cases h;subst_vars;rfl) (fun cdv A outer s H vs Q E hr h=>?_)
 .obtain⟨l,S,v,hd,es,ad,had,rfl,lg,hav,ndk,h63,kq⟩:=h
  have hu:=UQ hr
  have hr3:Qv 3 _:=hr
  obtain⟨dl,el⟩:=lg.e
  obtain⟨oa,eS⟩:=lg.s
  refine⟨_,(Qa (Qm (i:=2) ZJ.nd rfl (Or.inl rfl) (Qed (Qu QhU (pv 1) Ke) Z8 (pv 1)))
   (Qa (Qm (i:=3) ZJ.nd rfl (Or.inl rfl) (QR Qo))
   (Qa (ZZ jF rfl (Gf (Jb (pv 0) rfl)) (Zd (i:=4) ZJ.nd rfl (Or.inl rfl)) (Qg (QV (J0 plainAttrs_list PySem.F.slot_list_extend PySem.F.type_list_extend QcM (pv 3) (zy (ZL JY (Qbs hu (Jb (pv 0) rfl) (pv 4)) (ZK (ZN hu (pv 2) (pv 4) Qb ⟨rfl,rfl,rfl,rfl⟩)) Yl) Qc)))))
   (Qg (Qs (XA QhG hr3 rfl T.uP rfl T.Qjm Qhk (pv 3))))))),?_⟩
  have kvl:(uE es ad).length=(yf es).length:=by unfold uE yf;rw[qd,qd]
  refine Zy (t:=QnA _ _) fun N hN=>?_
  have rest:∀G hp (na:List (Key×V)),Qi H G->Rd G hp (.dK na)->(∀h,(Q7 na (inr h)).getD (.int 0)=.int ((had h:Nat):Int))->N [some (.ref l),some v,some (.ref hp),none,none] G:=fun G0 hp na s1 e0 hna=>by
   subst hN
   refine⟨qP _,fun pl H2 npl s2 epl=>?_⟩
   have s12:=s1.trans s2
   have npl0:H pl=none:=s1.free npl
   dsimp only[QJ]
   have Qou:hp≠pl:=fun z=>by
    subst z
    rcases e0 with e | ⟨o,e⟩ <;> rw[npl] at e <;> cases e
   refine⟨_,rfl,l,_,dl,_,_,rfl,s12 _ _ el,T.zO,T.jn,rfl,S,_,rfl,.inl ⟨oa,s12 _ _ eS,?_⟩⟩
   have e02:Rd H2 hp (.dK na):=e0.imp (fun e=>s2 _ _ e) fun⟨o,e⟩=>⟨o,s2 _ _ e⟩
   have hpre:∀i,(((yf es).take i).flatMap fun h=>(Ql es h).drop (had h)).length<=500:=fun i=>by
    refine zf (List.Sublist.length_le ?_) h63
    unfold xN
    rw[<-qQ i (yf es),Qgq,qQ]
    exact List.sublist_append_left _ _
   refine GO (fun i σ G=>∃o4:Option V,σ=[some (.ref l),some v,some (.ref hp),some (.ref pl),o4]/\Qi H G/\Rd G hp (.dK na)/\G pl=some (.lst ((((yf es).take i).flatMap fun h=>(Ql es h).drop (had h)).map Gr.r))) ⟨none,rfl,s12,e02,epl⟩ ?_ ?_ ?_
   .rintro i σ G _ ⟨o4,rfl,sG,_⟩;exact sG _ _ eS
   .rintro i kv σ G hkv ⟨o4,rfl,sG,g0,gp⟩
    obtain⟨k,hk,rfl,hm⟩:=Qg5 hkv
    have esh:=sG _ _ (lg.sh.l k hm)
    have hval:=hna k
    have hts:((yf es).take (i+1)).flatMap (fun h=>(Ql es h).drop (had h))=((yf es).take i).flatMap (fun h=>(Ql es h).drop (had h))++(Ql es k).drop (had k):=by
     rw[zb,hk,Qgq]
     show _++([k].flatMap _)=_
     rw[List.flatMap_singleton]
    have h1:=hpre (i+1)
    rw[hts,qy] at h1
    refine⟨_,rfl,.inl ⟨rfl,_,jk.of gp⟩,_,rfl,l,_,dl,_,_,rfl,sG _ _ el,T.zO,T.jn,rfl,_,rfl,S,.ref (ad k),rfl,.inl ⟨_,inr k,.inr ⟨oa,sG _ _ eS⟩,rfl,by rw[UX,qj hm]⟩,_,rfl,hp,rfl,.inl ⟨_,g0⟩,_,rfl,Q7 na (inr k),.inl ⟨_,inr k,g0,rfl,rfl⟩,?_⟩
    rw[hval]
    refine⟨_,rfl,ad k,_,rfl,jk.of esh,fun nl G1 nnl t1 enl=>?_⟩
    rw[show UR ((Ql es k).map Gr.r) (some ((had k:Nat):Int)) none=((Ql es k).drop (had k)).map Gr.r from(Qfj Gr.r (Ql es k) ((had k:Nat):Int) (Int.natCast_nonneg _)).trans (by rw[xZ,List.map_drop])] at enl
    refine⟨pl,nl,_,_,rfl,rfl,t1 _ _ gp,enl,?_,?_⟩
    .rw[qd,qd];exact Q2 ((by omega))
    .refine⟨_,rfl,(fun c o e=>by rw[Qj (Qd e npl0)];exact t1 _ _ (sG _ _ e)),?_,?_⟩
     .rcases g0 with e | ⟨o,e⟩
      .exact .inl (by rw[Qj Qou];exact t1 _ _ e)
      .exact .inr ⟨o,by rw[Qj Qou];exact t1 _ _ e⟩
     .rw[Qf,hts,zc]
   .rintro σ G ⟨o4,rfl,sG,g0,gp⟩
    rw[kvl,yq] at gp
    have gp:G pl=some (.lst ((xN es had).map Gr.r)):=gp
    have hrs:∀r∈xN es had,QY G r:=fun r hr=>by
     obtain⟨k,_,hk⟩:=vO.mp hr
     exact(lg.sh.r k r (jb hk)).mono sG
    refine⟨_,rfl,pl,(xN es had).map Gr.r,(xN es had).map stK,rfl,jk.of gp,by rw[qd,qd],ndk,(by rw[qd];omega),.inr (fun d hd=>by obtain⟨r,_,e⟩:=zq.mp hd;exact⟨_,_,e.symm⟩),(fun i y d hy hd G1 t1=>?_),fun f2 G1 nf2 t1 ef2=>?_⟩
    .rw[qJ] at hy hd
     cases er:(xN es had)[i]? with
     | none=>rw[er] at hy;cases hy
     | some r =>
       rw[er] at hy hd
       cases hy
       cases hd
       exact⟨r.x,_,_,_,_,rfl,t1 _ _ (hrs r (qG er)).e,fun t G2 t2 et=>⟨t2,t,rfl,et⟩⟩
    .rw[Ut Gr.r] at ef2
     exact kq f2 G1 (sG.trans t1) (sG.free nf2) ef2
  refine⟨_,rfl,rfl,_,rfl,?_⟩
  cases hav with
  | non =>
    rw[show decide (V.non=V.non)=true from rfl]
    refine QE ?_
    intro h0 nh0
    exact rest _ h0 [] (Qi.zT nh0) (.inl Qf) fun h=>rfl
  | @dct hp na _ e hv =>
    rw[show decide (V.ref hp=V.non)=false from rfl]
    exact QD ⟨_,rfl,rest _ hp _ (Qi.refl _) e hv⟩
end
def Val(h:Str)(rs:List Gr):Prop:=∀i r,rs[i]?=some r->r.h=h/\r.n=i+1/\JS h (rs.take i) r.ds=true/\∀q,1<=i->rs[i - 1]?=some q->q.c<r.c
theorem Ul{α:Type}:∀(rs:List α),rs.getLast?=rs[rs.length - 1]?
 | rs=>List.getLast?_eq_getElem?
theorem Val.nil{h:Str}:Val h []:=fun i r e=>by cases e
theorem Val.next{h:Str}{rs:List Gr}{k:Nat}{r:Gr}(v:Val h rs)(e:rs[k]?=some r):Zk (rs.take k) r=true:=by
 obtain⟨a,b,c,d⟩:=v k r e
 have hk:=(qi.mp e).1
 have hl:(rs.take k).length=k:=by rw[qK];omega
 unfold Zk
 rw[a,c,hl,qt b,QlA,jm]
 unfold Jx
 split
 .rfl
 .rename_i q hq
  rw[Ul,hl] at hq
  have h1:1<=k:=by
   by_cases z:k=0
   .subst z;cases hq
   .omega
  rw[za,qj (by omega)] at hq
  exact qt (d q h1 hq)
theorem Val.snoc{h:Str}{rs:List Gr}{r:Gr}(v:Val h rs)(ok:Zk rs r=true)(hr:r.h=h):Val h (rs++[r]):=by
 unfold Zk at ok
 rw[jr,jr] at ok
 obtain⟨o1,o2,o3⟩:=ok
 have o1:=qD o1
 intro i x hx
 by_cases hi:i<rs.length
 .rw[zH hi] at hx
  obtain⟨a,b,c,d⟩:=v i x hx
  refine⟨a,b,?_,fun q h1 hq=>d q h1 ?_⟩
  .rw[uJ (by omega)];exact c
  .rw[zH (by omega)] at hq;exact hq
 .have hij:i=rs.length:=by
   have:=(qi.mp hx).1
   rw[qy,zV] at this
   omega
  subst hij
  rw[zQ (qp _),QgR] at hx
  cases hx
  refine⟨hr,o1,?_,fun q h1 hq=>?_⟩
  .rw[uJ (qp _),yq,<-hr];exact o3
  .rw[zH (by omega),<-Ul] at hq
   unfold Jx at o2
   rw[hq] at o2
   exact qD o2
structure InU(U:Str->List Gr)(es:Sh)(k:Str->Nat):Prop where
 e:∀h,Ql es h=(U h).take (k h)
 le:∀h,k h<=(U h).length
def WJ(k:Str->Nat)(h:Str):Str->Nat:=fun x=>if x=h then k h+1 else k x
theorem Qad{U:Str->List Gr}(hU:∀h,Val h (U h)):∀{q:List Gr}{es:Sh}{k:Str->Nat},InU U es k->(∀r∈q,1<=r.n/\(U r.h)[r.n - 1]?=some r/\eqR r r=true)->q.Pairwise (fun x y=>x.n<=y.n)->(∀r∈q,∀m,k r.h<m->m<=r.n->∃r'∈q,r'.h=r.h/\r'.n=m) ->
 ∃es' fr k',wgh es q=some (es',fr)/\InU U es' k'/\(∀h,k h<=k' h)/\(∀r∈q,r.n<=k' r.h)/\(∀h m,k h<m->m<=k' h->∃r∈q,r.h=h/\r.n=m)/\fr.Nodup/\∀r,r∈fr↔∃h m,k h<=m/\m<k' h/\(U h)[m]?=some r
 | [],es,k,u,_,_,_=>⟨es,[],k,rfl,u,fun h=>qp _,(fun r hr=>nomatch hr),(fun h m h1 h2=>by omega),jU,fun r=>⟨(fun z=>nomatch z),fun⟨h,m,h1,h2,_⟩=>by omega⟩⟩
 | r :: q,es,k,u,hq,hs,hg=>by
   obtain⟨n1,ur,er⟩:=hq r (qI ..)
   have hs2:=xH.mp hs
   have hlen:(Ql es r.h).length=k r.h:=by rw[u.e,qK];have:=u.le r.h;omega
   have hun:=(qi.mp ur).1
   by_cases hn:(Ql es r.h).length<r.n
   .have hrn:r.n=k r.h+1:=by
     refine j8 fun z=>?_
     obtain⟨r',hr',e1,e2⟩:=hg r (qI ..) (k r.h+1) (yW _) (by omega)
     rcases qR.mp hr' with w | w
     .rw[w] at e2;omega
     .have:=hs2.1 r' w;omega
    have ur':(U r.h)[k r.h]?=some r:=by rw[hrn,xJ] at ur;exact ur
    have hk:Zk (Ql es r.h) r=true:=by rw[u.e];exact(hU r.h).next ur'
    have u1:InU U (Zo es r.h (Ql es r.h++[r])) (WJ k r.h):=by
     refine⟨fun h=>?_,fun h=>?_⟩
     .rw[ZO]
      unfold WJ
      by_cases e:h=r.h
      .rw[qj e,qj e,e,u.e,zb,ur'];rfl
      .rw[ql e,ql e];exact u.e h
     .unfold WJ
      by_cases e:h=r.h
      .rw[qj e,e];omega
      .rw[ql e];exact u.le h
    obtain⟨es',fr,k',w1,w2,w3,w4,w5,w6,w7⟩:=Qad hU u1 (fun x hx=>hq x (qu _ hx)) hs2.2 fun x hx m hm hm2=>by
     have hkm:k x.h<m:=by
      unfold WJ at hm
      by_cases e:x.h=r.h
      .rw[qj e] at hm;rw[e];omega
      .rw[ql e] at hm;exact hm
     obtain⟨r',hr',e1,e2⟩:=hg x (qu _ hx) m hkm hm2
     rcases qR.mp hr' with w | w
     .rw[w] at e1 e2
      unfold WJ at hm
      rw[qj e1.symm] at hm
      omega
     .exact⟨r',w,e1,e2⟩
    have hb:∀h,k h<=WJ k r.h h:=fun h=>by
     unfold WJ
     by_cases e:h=r.h
     .rw[qj e,e];omega
     .rw[ql e];exact qp _
    have hbr:k r.h+1<=k' r.h:=by have:=w3 r.h;unfold WJ at this;rw[qj rfl] at this;exact this
    refine⟨es',r :: fr,k',?_,w2,fun h=>zf (hb h) (w3 h),fun x hx=>?_,fun h m h1 h2=>?_,?_,fun x=>?_⟩
    .rw[wgh,qj hn,qj hk,w1];rfl
    .rcases qR.mp hx with z | z
     .rw[z,hrn];exact hbr
     .exact w4 x z
    .by_cases e:h=r.h/\m=k r.h+1
     .exact⟨r,qI ..,e.1.symm,by rw[hrn,e.2]⟩
     .obtain⟨x,hx,e1,e2⟩:=w5 h m (by
       unfold WJ
       by_cases e':h=r.h
       .rw[qj e'];have:m≠k r.h+1:=fun z=>e ⟨e',z⟩;rw[e'] at h1;omega
       .rw[ql e'];exact h1) h2
      exact⟨x,qu _ hx,e1,e2⟩
    .refine jo.mpr ⟨fun z=>?_,w6⟩
     obtain⟨h,m,m1,m2,m3⟩:=(w7 r).mp z
     obtain⟨a,b,_⟩:=hU h m r m3
     unfold WJ at m1
     rw[qj a.symm] at m1
     omega
    .constructor
     .intro z
      rcases qR.mp z with z | z
      .rw[z];exact⟨r.h,k r.h,qp _,hbr,ur'⟩
      .obtain⟨h,m,m1,m2,m3⟩:=(w7 x).mp z
       exact⟨h,m,zf (hb h) m1,m2,m3⟩
     .rintro⟨h,m,m1,m2,m3⟩
      by_cases e:h=r.h/\m=k r.h
      .obtain⟨rfl,rfl⟩:=e
       rw[ur'] at m3
       cases m3
       exact qI ..
      .refine qu _ ((w7 x).mpr ⟨h,m,?_,m2,m3⟩)
       unfold WJ
       by_cases e':h=r.h
       .rw[qj e']
        have:m≠k r.h:=fun z=>e ⟨e',z⟩
        rw[e'] at m1
        omega
       .rw[ql e'];exact m1
   .have hb:(Ql es r.h)[r.n - 1]?=some r:=by
     rw[u.e,za,qj (by omega)];exact ur
    obtain⟨es',fr,k',w1,w2,w3,w4,w5,w6,w7⟩:=Qad hU u (fun x hx=>hq x (qu _ hx)) hs2.2 fun x hx m hm hm2=>by
     obtain⟨r',hr',e1,e2⟩:=hg x (qu _ hx) m hm hm2
     rcases qR.mp hr' with w | w
     .rw[w] at e1 e2
      rw[<-e1] at hm
      omega
     .exact⟨r',w,e1,e2⟩
    refine⟨es',fr,k',?_,w2,w3,fun x hx=>?_,fun h m h1 h2=>?_,w6,w7⟩
    .rw[wgh,ql hn,hb]
     show(if eqR r r=true then wgh es q else none)=_
     rw[qj er,w1]
    .rcases qR.mp hx with z | z
     .rw[z];have:=w3 r.h;omega
     .exact w4 x z
    .obtain⟨x,hx,e⟩:=w5 h m h1 h2
     exact⟨x,qu _ hx,e⟩
section
open PySem.Spec PyProof.Rows
end
theorem Qgz{n k:Nat}(h:k<n):ixN n (k:Int)=some k:=by
 unfold ixN
 rw[qj (by omega),qj (by omega)]
 rfl
theorem hS_at:∀k:Nat,k<26->hS.cps.toList[k]?=some (97+k):=by decide +kernel
theorem QbU{i:Int}(h0:0<=i)(h1:i<26):atI hS.cps.toList i=some (97+i.toNat)/\97+i.toNat∈hS.cps.toList:=by
 have hl:(hS.cps.toList.length:Int)=26:=by decide +kernel
 obtain⟨n,rfl⟩:=jx h0
 have hn:n<26:=by omega
 have e:=hS_at n hn
 exact⟨by rw[Zt e];rfl,qG e⟩
structure QpG(z:Nat)(f:Int)(j:Nat)(y:Str):Prop where
 h:ZS y
 len:z+1<=y.length
 at_:y.cps.toList[z]?=some (97+((f+7*(j:Int)) % 26).toNat)
structure HsOk(hs:QpK):Prop where
 n0:1<=hs.length
 n1:hs.length<=5
 nd:hs.Nodup
 h:∀y∈hs,ZS y
theorem QbP{z:Nat}{f:Int}{ys:QpK}(h:∀j y,ys[j]?=some y->QpG z f j y)(h0:1<=ys.length)(h4:ys.length<=5):HsOk ys:=by
 refine⟨h0,h4,?_,fun y hy=>?_⟩
 .show List.Pairwise _ _
  rw[yG]
  intro i j hi hj hij e
  have a1:=(h j _ (qe hj)).at_
  have a2:=(h i _ (qe hi)).at_
  rw[e,a1] at a2
  have:=zg a2
  omega
 .obtain⟨j,hj⟩:=List.getElem?_of_mem hy
  exact(h j y hj).h
inductive V8(K:Frag)(vs:List V)(H:Hp)(Q:VK):Prop
 | mk:∀(st sc:Addr)(ls:List Int)(m:Nat),vs=[.ref st,.int m]->yS K H st sc ls->ls.length<=63->1<=m->m<=5->(∀(l:Addr)(xs:QpK) H',H l=none->HsOk xs->xs.length=m->H' l=some (.lst (xs.map V.str))->SX st H H'->yS K H' st sc ls->Q (.ref l) H')->V8 K vs H Q
def QdJ(K:Frag):Sp:=fun vs H Q _=>V8 K vs H Q
theorem yS.put{K:Frag}{H H0:Hp}{st sc l:Addr}{ls:List Int}{o:HO}(h:yS K H st sc ls)(h0:jk K H0 sc (ls.map V.int))(hl:H0 l=none)(n:l≠st):yS K (upd H l o) st sc ls:=by
 obtain⟨⟨n',c,e,b⟩,hq⟩:=h
 exact⟨⟨n',c,by rw[Qj n.symm];exact e,b⟩,Qbe h0 hl hq fun c o nc e=>by rw[Qj nc];exact e⟩
section
variable {P:Program}{w:World}{K:Frag}{mg:Str->Option Value}{base:Heap}{a:yE}
theorem Qcy{fd:FuncData}(F:jZ K "_law_hands" "_law_hands" UA a.uV fd)(T:Txt K mg a)(FF:Zr K a):QH P w K mg base vV 3 a.uV fd ["_law_state","_law_many"] (QdJ K):=by
 obtain⟨fdW,ym,gR⟩:=FF.ym
 obtain⟨fdN,qY,zF⟩:=FF.qY
 have gU:=@Kf P w K mg base a _ ym T FF
 have zG:=@Jm P w K mg base a _ qY T
 refine F.ok ZD (fun _ _ _ _ h=>by cases h;subst_vars;rfl) (fun cdv A outer s H vs Q E hr h=>?_)
 .obtain⟨st,sc,ls,m,rfl,sa,hl,m1,m4,k⟩:=h
  have wB:Qv 2 _:=hr
  have jj:Qv 1 _:=hr.mono (by decide)
  refine⟨_,(Qa (Qm (i:=2) ZD.nd rfl (Or.inl rfl) QB)
   (Qa (Qm (i:=3) ZD.nd rfl (Or.inl rfl) (Qk gU wB rfl T.Qin ym.kp gR .nil Qn (zy (pv 0) (zy (pv 2) (zy Qb Qc)))))
   (Qa (Qm (i:=4) ZD.nd rfl (Or.inl rfl) (Qt QM (Qk zG jj rfl T.je qY.kp zF .nil Qn (zy (pv 0) Qc)) (Qt QQ (Qr ZQ rfl T.xg zE (zy (pv 3) Qc)) Qb)))
   (Qa (Qm (i:=5) ZD.nd rfl (Or.inl rfl) (Qt QM (Qk zG jj rfl T.je qY.kp zF .nil Qn (zy (pv 0) Qc)) Qb))
   (Qa (Qm (i:=6) ZD.nd rfl (Or.inl rfl) (QR Qo))
   (Qa (ZZ jF rfl (Xz rfl T.QkC (zy (pv 1) Qc)) (Zd (i:=7) ZD.nd rfl (Or.inl rfl)) (Qg (QV (J0 plainAttrs_list jc jd Zb (pv 6) (zy (Qt Zq (Qt Zq (ZL Qat (pv 3) Yl (ZK (pv 4))) (Qp QeT (pv 2) (Qt QM (Qt QQ (pv 5) (Qt Qej Qb (pv 7))) Qb))) (ZL Qat (pv 3) (ZK (pv 4)) Yl)) Qc)))))
   (Qa (QO (Qu JJ (Qt QM (Qk zG jj rfl T.je qY.kp zF .nil Qn (zy (pv 0) Qc)) Qb) Qb) (Qg (QaB (ZL Qat (Qp QS (pv 6) Qb) Yl (ZK (Qt QQ (pv 4) Qb))) (QaD (pv 6) Qb Wg))) Qy)
   (Qg (Qs (pv 6)))))))))),?_⟩
  refine⟨_,rfl,_,rfl,st,sc,ls,hS,7,rfl,sa,hl,by decide,by decide,(by decide +kernel),(by decide +kernel),fun b H1 wb x1 uD=>?_⟩
  have hb1:=wb.lo
  have hb7:b.length<=7:=by have:=wb.hi;omega
  refine⟨_,rfl,st,sc,ls,rfl,uD,hl,fun r2 H2 r20 r21 x2 sa2=>⟨_,rfl,b,rfl,Q2 ((by omega)),_,_,rfl,rfl,_,_,rfl,rfl,(by omega),?_⟩⟩
  have z0:=zP r2 (b:=(b.length:Int)+1) (by omega)
  have z1:=zN r2 (b:=(b.length:Int)+1) (by omega)
  generalize r2 % ((b.length:Int)+1)=zz at z0 z1
  obtain⟨z,rfl⟩:=jx z0
  have hz:z<=b.length:=by omega
  refine⟨_,rfl,st,sc,ls,rfl,sa2,hl,fun r3 H3 r30 r31 x3 sa3=>⟨_,_,rfl,rfl,QgT,?_⟩⟩
  have x03:=(x1.trans x2).trans x3
  refine⟨qP _,fun l H4 hl3 s4 e4=>?_⟩
  have sa4:=sa3.of s4
  have x04:=x03.trans (SX.of s4)
  have lst:l≠st:=fun q=>by obtain⟨_,e⟩:=sa3.lst;rw[q,e] at hl3;cases hl3
  have hl0:H l=none:=by
   cases e:H l with
   | none=>rfl
   | some o=>rw[x03 _ _ lst e] at hl3;cases hl3
  have lH:∀c o,H c=some o->c≠l:=fun c o e=>Qd e hl0
  generalize r3 % 26=f
  have mk:∀i:Nat,QpG z f i (Txt.slice b none (some (z:Int))++⟨#[97+((f+7*(i:Int)) % 26).toNat]⟩++Txt.slice b (some (z:Int)) none):=fun i=>by
   obtain⟨_,hcm⟩:=QbU (i:=(f+7*(i:Int)) % 26) (zP _ (by decide)) (zN _ (by decide))
   have hy:=QeV (x:=b) (z:=z) (c:=97+((f+7*(i:Int)) % 26).toNat) hz
   have hyl:(Txt.slice b none (some (z:Int))++⟨#[97+((f+7*(i:Int)) % 26).toNat]⟩++Txt.slice b (some (z:Int)) none).length=b.length+1:=by
    rw[J1,hy,qy,qy,qK,jh,zV,<-J1];omega
   refine⟨⟨by omega,by omega,fun d hd=>?_⟩,by omega,?_⟩
   .rw[hy] at hd
    rcases qF.mp hd with q | q
    .rcases qF.mp q with q | q
     .exact wb.in_ _ (zR q)
     .rw[qg.mp q];exact hcm
    .exact wb.in_ _ (jb q)
   .have hbl:b.cps.toList.length=b.length:=(J1 b).symm
    rw[hy,qU,zQ (by rw[qK];omega),qK,jA (by omega),QgR]
    rfl
  refine⟨_,rfl,_,rfl,by omega,by omega,XN (n:=(m:Int).toNat) (fun i σ G=>∃(o7:Option V)(ys:QpK),σ=[some (.ref st),some (.int m),some (.str hS),some (.str b),some (.int (z:Int)),some (.int f),some (.ref l),o7]/\ys.length=i/\(∀j y,ys[j]?=some y->QpG z f j y)/\G l=some (.lst (ys.map V.str))/\SX st H G/\yS K G st sc ls) ⟨none,[],rfl,rfl,fun j y h=>(by cases h),e4,x04,sa4⟩ ?_ ?_⟩
  .rintro i σ G hi ⟨o7,ys,rfl,hyl,hys,eG,xG,saG⟩
   obtain⟨hc,_⟩:=QbU (i:=(f+7*(0+(i:Int))) % 26) (zP _ (by decide)) (zN _ (by decide))
   have sl1:(Txt.slice b none (some (z:Int))).length<=8:=zf (Qc8 b z) (by omega)
   have sl2:(Txt.slice b (some (z:Int)) none).length<=8:=by rw[J1,Wf,jh,<-J1];omega
   refine⟨_,rfl,.inl ⟨rfl,_,jk.of eG⟩,_,rfl,_,rfl,_,rfl,b,rfl,Q2 ((by omega)),_,rfl,_,rfl,_,rfl,_,_,rfl,rfl,.inl ⟨by decide,by decide⟩,_,_,rfl,rfl,_,_,rfl,rfl,QgT,hS,_,_,rfl,rfl,(by decide +kernel),hc,?_⟩
   refine⟨_,_,rfl,rfl,(by rw[Qbx];exact Q2 ((by omega))),?_⟩
   refine⟨_,rfl,_,rfl,_,rfl,b,rfl,Q2 ((by omega)),?_⟩
   refine⟨_,_,rfl,rfl,(by rw[KB,Qbx];exact Q2 ((by omega))),?_⟩
   refine⟨l,_,_,rfl,rfl,eG,(by rw[qd];exact QN (by omega)),?_⟩
   refine⟨_,ys++[_],rfl,by rw[qy,hyl];rfl,fun j y hj=>?_,by rw[Qf,zc];rfl,fun c o n e=>by rw[Qj (lH c o e)];exact xG c o n e,saG.put sa.sq hl0 lst⟩
   rcases Nat.lt_or_ge j ys.length with h | h
   .rw[zH h] at hj;exact hys j y hj
   .rw[zQ h] at hj
    have:j - ys.length=0:=by
     rcases Nat.eq_zero_or_pos (j - ys.length) with q | q
     .exact q
     .rw[xX (by rw[zV];omega)] at hj;cases hj
    rw[this] at hj
    have ej:j=i:=by omega
    have hj:=zg hj
    rw[<-hj,ej,show(0:Int)+(i:Int)=(i:Int) from Int.zero_add _]
    exact mk i
  .rintro σ G ⟨o7,ys,rfl,hyl,hys,e5,x05,sa5⟩
   have hyl:ys.length=m:=by omega
   refine⟨_,rfl,st,sc,ls,rfl,sa5,hl,fun r6 H6 r60 r61 x6 sa6=>⟨_,_,rfl,rfl,Qnw,rfl,_,rfl,?_⟩⟩
   have e6:=x6 _ _ lst e5
   have x06:=x05.trans x6
   refine GJ (fun _=>?_) (fun _=>⟨_,rfl,k l ys H6 hl0 (QbP hys (by omega) (by omega)) hyl e6 x06 sa6⟩)
   obtain⟨y,ys',rfl⟩:∃y ys',ys=y :: ys':=by
    cases ys with
    | nil=>exact absurd hyl (by show ¬0=m;omega)
    | cons y ys'=>exact⟨y,ys',rfl⟩
   have hy:=hys 0 y rfl
   refine⟨_,rfl,l,_,_,_,rfl,rfl,jk.of e6,Zt (j:=0) rfl,_,rfl,_,_,rfl,rfl,_,rfl,y,rfl,Q2 ((by have:=hy.h.hi;omega)),?_⟩
   refine⟨_,rfl,l,_,_,0,rfl,rfl,e6,Qgz (k:=0) (by rw[qd,zm];omega),?_⟩
   have hc:(Txt.slice y none (some ((z:Int)+1))).cps.toList=y.cps.toList.take (z+1):=Wd y (z+1)
   have hlen:=hy.len
   have hcl:(Txt.slice y none (some ((z:Int)+1))).length=z+1:=by rw[J1,hc,qK,<-J1];omega
   refine⟨_,rfl,k l (Txt.slice y none (some ((z:Int)+1)) :: ys') _ hl0 (QbP (z:=z) (f:=f) (fun j x hj=>?_) (by rw[zm];omega) (by rw[zm] at hyl ⊢;omega)) hyl Qf (fun c o n e=>by rw[Qj (lH c o e)];exact x06 c o n e) (sa6.put sa.sq hl0 lst)⟩
   cases j with
   | zero =>
     have hj:=zg hj
     subst hj
     refine⟨⟨by omega,by have:=hy.h.hi;omega,fun c h=>hy.h.in_ c (zR (by rw[hc] at h;exact h))⟩,by omega,?_⟩
     rw[hc,List.getElem?_take_of_lt (by omega)]
     exact hy.at_
   | succ j=>exact hys (j+1) x hj
end
inductive Xl(K:Frag)(vs:List V)(H:Hp)(Q:VK):Prop
 | mk:∀(st sc nl:Addr)(ls:List Int)(nms:QpK)(hd:Str)(pu:Int),vs=[.ref st,.ref nl,.str hd,.int pu]->yS K H st sc ls->ls.length<=63->H nl=some (.lst (nms.map V.str))->(∀x∈nms,Q6 x)->nms.length<=500->ZS hd->0<=pu->pu<200->nl≠st->(∀(p:Addr)(vs:List V)(ds:List Dt) H',ZT H' vs ds->(Q5 ds=true->nmD ds=hd++Str.ofString (toString (pu+1)))->H' p=some (.tup vs)->SX st H H'->yS K H' st sc ls->Q (.ref p) H')->Xl K vs H Q
def QfO(K:Frag):Sp:=fun vs H Q _=>Xl K vs H Q
section
variable {P:Program}{w:World}{K:Frag}{mg:Str->Option Value}{base:Heap}{a:yE}
theorem Qer{fd:FuncData}(F:jZ K "_law_deed" "_law_deed" VC a.Qiv fd)(T:Txt K mg a)(FF:Zr K a):QH P w K mg base vV 5 a.Qiv fd ["_law_state","_law_names","_law_hand","_law_puts"] (QfO K):=by
 obtain⟨fdN,qY,zF⟩:=FF.qY
 obtain⟨fdA,jE,yO⟩:=FF.jE
 obtain⟨fdP,xr,QiL⟩:=FF.xr
 have zG:=@Jm P w K mg base a _ qY T
 have yP:=@Wr P w K mg base a _ jE T FF
 have QiP:=@Qeo P w K mg base a _ xr T FF
 refine F.ok U2 (fun _ _ _ _ h=>by cases h;subst_vars;rfl) (fun cdv A outer s H vs Q E hr h=>?_)
 .obtain⟨st,sc,nl,ls,nms,hd,pu,rfl,sa,hl,hnl,hnw,hnn,hh,p0,p1,nls,k⟩:=h
  have jj:Qv 1 _:=hr.mono (by decide)
  have yD:Qv 3 _:=hr.mono (by decide)
  have Qlo:Qv 4 _:=hr
  have h8:=hh.hi
  refine⟨_,(Qa (Qm (i:=4) U2.nd rfl (Or.inl rfl) (Qt QM (Qk zG jj rfl T.je qY.kp zF .nil Qn (zy (pv 0) Qc)) Qb))
   (Qa (QO (Qu Qbw (pv 4) Qb) (Qg (Qs (Z4 (Qe QB (Qe (Qt Zq (pv 2) (ZG Jo rfl T.Qix boot_str (zy (Qt QQ (pv 3) Qb) Qc))) (Qe (Qk QiP Qlo rfl T.Qj4 xr.kp QiL .nil Qn (zy (pv 0) Qc)) Qo)))))) Qy)
   (Qa (Qm (i:=5) U2.nd rfl (Or.inl rfl) (Qp QS (YZ (Qe (Qk yP yD rfl T.xO jE.kp yO .nil Qn (zy (pv 0) Qc)) (Qe (Qp QS (Qt Qek (pv 1) (YZ (Qe (Qt Zq (pv 2) QB) Qo))) (Qt QM (Qk zG jj rfl T.je qY.kp zF .nil Qn (zy (pv 0) Qc)) (Qt QQ (Qr QA rfl T.xg zE (zy (pv 1) Qc)) Qb))) Qo))) (Qt QM (Qk zG jj rfl T.je qY.kp zF .nil Qn (zy (pv 0) Qc)) Qb)))
   (Qa (QO (Qu Qbw (pv 4) Qb) (Qg (Qs (Z4 (Qe QB (Qe (pv 5) (Qe (Qk yP yD rfl T.xO jE.kp yO .nil Qn (zy (pv 0) Qc)) Qo)))))) Qy)
   (Qa (QO (Qu Qbw (pv 4) Qb) (Qg (Qs (Z4 (Qe QB (Qe (pv 5) (Qe (Qk yP yD rfl T.xO jE.kp yO .nil Qn (zy (pv 0) Qc)) (Qe (Z5 JJ (Qt QM (Qk zG jj rfl T.je qY.kp zF .nil Qn (zy (pv 0) Qc)) Qb) Qb) Qo))))))) Qy)
   (Qg (Qs (Z4 (Qe QB (Qe (pv 5) Qo)))))))))),?_⟩
  have Qo6:nl≠st:=nls
  refine⟨_,rfl,st,sc,ls,rfl,sa,hl,fun r1 H1 r10 r11 x1 uD=>⟨_,_,rfl,rfl,zi_8,?_⟩⟩
  refine⟨_,rfl,_,_,rfl,rfl,_,rfl,?_⟩
  refine GJ (fun _=>?_) (fun _=>?_)
  .obtain⟨n,rfl⟩:=jx p0
   have hn:n+1<202:=by omega
   obtain⟨d1,d2,d3⟩:=UN (n+1) hn
   have hw:Q6 (hd++Str.ofString (toString ((n:Int)+1))):=hh.plus d2 d1 fun c hc=>by
    have:=yd.mp d3 c hc
    exact qD this
   refine⟨_,rfl,_,rfl,_,_,rfl,rfl,_,rfl,?_,?_⟩
   .have:((n:Int)+1).natAbs=n+1:=by omega
    rw[this]
    exact yx (Nat.log2_le_self _) (by omega)
   .refine⟨_,_,rfl,rfl,Q2 ((by have:(Str.ofString (toString ((n:Int)+1))).length<=3:=d1;omega)),_,rfl,st,sc,ls,rfl,uD,hl,fun q s t b dy an H2 g e2 x2 sa2=>⟨Qb7,fun p hp=>?_⟩⟩
    have s3:Qi H2 (upd H2 p (.tup [.str "put",.str (hd++Str.ofString (toString ((n:Int)+1))),.ref q])):=Qi.zT hp
    exact k p _ _ _ (.put hw g (s3 _ _ e2)) (fun _=>rfl) Qf ((x1.trans x2).trans (SX.of s3)) (sa2.of s3)
  .have hnl1:=x1 _ _ Qo6 hnl
   refine⟨_,rfl,st,sc,ls,rfl,uD,hl,fun w1 H2 hw1 x2 sa2=>?_⟩
   have hnl2:=x2 _ _ Qo6 hnl1
   refine⟨_,rfl,_,rfl,_,_,rfl,rfl,Q2 ((Qfn hh)),Qdg,fun l hl2=>?_⟩
   have s3:Qi H2 (upd H2 l (.lst [.str (hd++"1")])):=Qi.zT hl2
   have e3:(upd H2 l (.lst [.str (hd++"1")])) l=some (.lst [.str (hd++"1")]):=Qf
   have sa3:=sa2.of s3
   have x3:SX st H2 (upd H2 l (.lst [.str (hd++"1")])):=SX.of s3
   have Qpg:=s3 _ _ hnl2
   generalize upd H2 l (.lst [.str (hd++"1")])=H3 at s3 e3 sa3 x3 Qpg
   refine⟨nl,l,_,_,rfl,rfl,Qpg,e3,(by rw[qd];exact Q2 ((by show nms.length+1<=1000;omega))),fun m hm3=>?_⟩
   have s4:Qi H3 (upd H3 m (.lst (nms.map V.str++[V.str (hd++"1")]))):=Qi.zT hm3
   have e4:(upd H3 m (.lst (nms.map V.str++[V.str (hd++"1")]))) m=some (.lst (nms.map V.str++[V.str (hd++"1")])):=Qf
   have sa4:=sa3.of s4
   have hnl4:=s4 _ _ Qpg
   have x04:=((x1.trans x2).trans x3).trans (SX.of s4)
   generalize upd H3 m (.lst (nms.map V.str++[V.str (hd++"1")]))=H4 at s4 e4 sa4 hnl4 x04
   have hw1':Q6 (hd++"1"):=hh.plus (by decide +kernel) (by decide +kernel) (by decide +kernel)
   refine⟨_,rfl,st,sc,ls,rfl,sa4,hl,fun r5 H5 r50 r51 x5 sa5=>⟨_,rfl,nl,_,rfl,.inl (jk.of (x5 _ _ Qo6 hnl4)),_,_,rfl,rfl,_,_,rfl,rfl,(by omega),?_⟩⟩
   obtain⟨v0,hv0,hvm,_⟩:=VO (xs:=nms.map V.str++[V.str (hd++"1")]) r5 (by simp)
   have mst:m≠st:=sa3.nst hm3
   have elen:((((nms.map V.str).length:Nat):Int)+1)=((nms.map V.str++[V.str (hd++"1")]).length:Int):=by rw[qy];rfl
   rw[elen]
   refine⟨m,_,_,_,rfl,rfl,jk.of (x5 m _ mst e4),hv0,?_⟩
   obtain⟨nv,rfl,hnv⟩:∃nv,v0=.str nv/\Q6 nv:=by
    rcases qF.mp hvm with q | q
    .obtain⟨y,hy,e⟩:=zq.mp q
     exact⟨y,e.symm,hnw y hy⟩
    .exact⟨_,qg.mp q,hw1'⟩
   refine⟨UW,fun l5 hl5=>?_⟩
   have s6:Qi H5 (upd H5 l5 (.lst [.str w1,.str nv])):=Qi.zT hl5
   have e6:(upd H5 l5 (.lst [.str w1,.str nv])) l5=some (.lst [.str w1,.str nv]):=Qf
   have sa6:=sa5.of s6
   have x06:=(x04.trans x5).trans (SX.of s6)
   have lst5:l5≠st:=sa5.nst hl5
   generalize upd H5 l5 (.lst [.str w1,.str nv])=H6 at s6 e6 sa6 x06
   refine⟨_,rfl,st,sc,ls,rfl,sa6,hl,fun r7 H7 r70 r71 x7 sa7=>?_⟩
   obtain⟨v,hv,hvc⟩:=Qdp (x:=V.str w1) (y:=V.str nv) (z:=r7)
   refine⟨_,_,rfl,rfl,Qnw,l5,_,_,v,rfl,rfl,jk.of (x7 _ _ lst5 e6),hv,?_⟩
   obtain⟨nm,rfl,hnm⟩:∃nm,v=.str nm/\Q6 nm:=hvc.elim (fun h=>⟨_,h,hw1⟩) fun h=>⟨_,h,hnv⟩
   have x07:=x06.trans x7
   refine⟨_,rfl,_,_,rfl,rfl,_,rfl,?_⟩
   refine GJ (fun _=>?_) (fun _=>?_)
   .refine⟨_,rfl,_,rfl,st,sc,ls,rfl,sa7,hl,fun u H8 hu x8 sa8=>⟨Qb7,fun p hp=>?_⟩⟩
    have s9:Qi H8 (upd H8 p (.tup [.str "place",.str nm,.str u])):=Qi.zT hp
    exact k p _ _ _ (.place hnm hu) (fun z=>absurd (qD (show decide (("place":Str)="put")=true from z)) Qg2) Qf ((x07.trans x8).trans (SX.of s9)) (sa8.of s9)
   .refine⟨_,rfl,_,_,rfl,rfl,_,rfl,?_⟩
    refine GJ (fun _=>?_) (fun _=>?_)
    .refine⟨_,rfl,_,rfl,st,sc,ls,rfl,sa7,hl,fun u H8 hu x8 sa8=>⟨_,rfl,st,sc,ls,rfl,sa8,hl,fun r9 H9 r90 r91 x9 sa9=>⟨_,_,rfl,rfl,Qnw,rfl,XW,fun p hp=>?_⟩⟩⟩
     exact k p _ _ _ (.mark hnm hu) (fun z=>absurd (qD (show decide (("mark":Str)="put")=true from z)) Qg3) Qf (((x07.trans x8).trans x9).trans (SX.of (Qi.zT hp))) (sa9.of (Qi.zT hp))
    .refine⟨_,rfl,UW,fun p hp=>?_⟩
     have s9:Qi H7 (upd H7 p (.tup [.str "drop",.str nm])):=Qi.zT hp
     exact k p _ _ _ (.drop hnm) (fun z=>absurd (qD (show decide (("drop":Str)="put")=true from z)) Qg4) Qf (x07.trans (SX.of s9)) (sa7.of s9)
end
inductive Xg(K:Frag)(vs:List V)(H:Hp)(Q:VK):Prop
 | mk:∀(st sc rw:Addr)(ls:List Int)(xs:List V),vs=[.ref st,.ref rw]->yS K H st sc ls->ls.length<=63->rw≠st->H rw=some (.lst xs)->xs.length<=100->(∀(l:Addr)(ys:List V) H',H l=none->ys.Perm xs->SX st H H'->yS K H' st sc ls->H' l=some (.lst ys)->Q (.ref l) H')->Xg K vs H Q
def Qbf(K:Frag):Sp:=fun vs H Q _=>Xg K vs H Q
theorem QeW{α:Type}{ms xs:List α}{y:α}(k:Nat)(p:ms.Perm xs):(ms.take k++y :: ms.drop k).Perm (xs++[y]):=by
 refine List.perm_middle.trans ?_
 rw[qQ]
 exact(p.cons y).trans (List.perm_append_singleton y xs).symm
section
variable {P:Program}{w:World}{K:Frag}{mg:Str->Option Value}{base:Heap}{a:yE}
theorem Gm{fd:FuncData}(F:jZ K "_law_shuffled" "_law_shuffled" JC a.vY fd)(T:Txt K mg a)(FF:Zr K a):QH P w K mg base vV 2 a.vY fd ["_law_state","_law_row"] (Qbf K):=by
 obtain⟨fdN,qY,zF⟩:=FF.qY
 have zG:=@Jm P w K mg base a _ qY T
 refine F.ok JO (fun _ _ _ _ h=>by cases h;subst_vars;rfl) (fun cdv A outer s H vs Q E hr h=>?_)
 .obtain⟨st,sc,rw,ls,xs,rfl,sa,hl,nrw,hrw,hnl,k⟩:=h
  have jj:Qv 1 _:=hr
  refine⟨_,(Qa (Qm (i:=2) JO.nd rfl (Or.inl rfl) (QR Qo))
   (Qa (ZZ jF rfl (Zm (pv 1)) (Zd (i:=3) JO.nd rfl (Or.inl rfl)) (Qg (QV (J0 plainAttrs_list PySem.F.slot_list_insert PySem.F.type_list_insert QcL (pv 2) (zy (Qt QM (Qk zG jj rfl T.je qY.kp zF .nil Qn (zy (pv 0) Qc)) (Qt QQ (Qr QA rfl T.xg zE (zy (pv 2) Qc)) Qb)) (zy (pv 3) Qc))))))
   (Qg (Qs (pv 2))))),?_⟩
  refine⟨qP _,fun l H1 nl s1 e1=>?_⟩
  have lst:l≠st:=fun z=>by obtain⟨_,q⟩:=sa.lst;rw[z,q] at nl;cases nl
  refine⟨_,rfl,rw,rfl,⟨_,jk.of (s1 _ _ hrw)⟩,Ja (K:=K) (xs:=xs) (fun i σ G=>∃(o:Option V)(ms:List V),σ=[some (.ref st),some (.ref rw),some (.ref l),o]/\ms.Perm (xs.take i)/\G l=some (.lst ms)/\SX st H G/\yS K G st sc ls) ⟨none,[],rfl,.nil,e1,SX.of s1,sa.of s1⟩ ?_ ?_ ?_⟩
  .rintro i σ G _ ⟨o,ms,rfl,_,_,xG,_⟩
   exact jk.of (xG _ _ nrw hrw)
  .rintro i v σ G hv ⟨o,ms,rfl,pm,el,xG,saG⟩
   have hi:i<xs.length:=(qi.mp hv).1
   have ml:ms.length=i:=by rw[pm.length_eq,qK];omega
   refine⟨_,rfl,.inl ⟨rfl,_,jk.of el⟩,_,rfl,st,sc,ls,rfl,saG,hl,fun r G1 r0 r1 x1 uD=>?_⟩
   have el1:=x1 _ _ lst el
   have m0:=zP r (b:=(ms.length:Int)+1) (by omega)
   have m1:=zN r (b:=(ms.length:Int)+1) (by omega)
   refine⟨_,rfl,l,_,rfl,.inl (jk.of el1),_,_,rfl,rfl,_,_,rfl,rfl,(by omega),_,rfl,l,_,_,_,rfl,rfl,el1,m0,(by omega),(by omega),?_⟩
   refine⟨_,_,rfl,?_,Qf,fun c o n e=>by rw[Qj (Qd e nl)];exact x1 _ _ n (xG _ _ n e),uD.put sa.sq nl lst⟩
   rw[zb,hv]
   exact QeW _ pm
  .rintro σ G ⟨o,ms,rfl,pm,el,xG,saG⟩
   rw[zj (qp _)] at pm
   exact⟨_,rfl,k l ms G nl pm xG saG el⟩
theorem Wq{fd:FuncData}(F:jZ K "_law_by_stamp" "_law_by_stamp" JD a.vZ fd)(T:Txt K mg a):QH P w K mg base vV 1 a.vZ fd ["_law_one"] V4:=by
 refine F.ok WP (fun _ _ _ _ h=>by cases h;subst_vars;rfl) (fun cdv A outer s H vs Q E hr h=>?_)
 .obtain⟨x,c,hd,n,d,rfl,e,k⟩:=h
  refine⟨_,(Qg (Qs (Zn (Qe (Qp Qz (pv 0) Qb) (Qe (Qp Qz (pv 0) Qb) Qo))))),?_⟩
  exact⟨_,rfl,x,_,_,_,rfl,rfl,yu.of e,at0,_,rfl,x,_,_,_,rfl,rfl,yu.of e,at1,UW,fun t H1 nt s1 et=>k t H1 s1 et⟩
end
def KX(xs:List Addr)(H H':Hp):Prop:=∀c o,c∉xs->H c=some o->H' c=some o
section
variable {K:Frag}{xs:List Addr}{H H' H'':Hp}{l st:Addr}
theorem KX.trans(x:KX xs H H')(y:KX xs H' H''):KX xs H H'':=fun c o n e=>y c o n (x c o n e)
theorem KX.of(s:Qi H H'):KX xs H H':=fun c o _ e=>s c o e
theorem KX.sx(hs:st∈xs)(s:SX st H H'):KX xs H H':=fun c o n e=>s c o (fun z=>n (z▸hs)) e
theorem KX.upd{o':HO}(hs:l∈xs):KX xs H (L2.upd H l o'):=fun c o n e=>by rw[Qj (fun(z:c=l)=>n (by rw[z];exact hs))];exact e
theorem KX.sub{ys:List Addr}(x:KX xs H H')(s:∀c∈xs,c∈ys):KX ys H H':=fun c o n e=>x c o (fun z=>n (s c z)) e
theorem KX.tup(x:KX xs H H')(h:∀c∈xs,∃ys,H c=some (.lst ys)):∀c ys,H c=some (.tup ys)->H' c=some (.tup ys):=fun c ys e=>x c _ (fun z=>by obtain⟨zs,q⟩:=h c z;rw[e] at q;cases q) e
theorem yS.upd{sc:Addr}{ls:List Int}{o:HO}(h:yS K H st sc ls)(n:l≠st)(m:sc≠l\/(∀G:Hp,jk K G sc (ls.map V.int))):yS K (L2.upd H l o) st sc ls:=by
 obtain⟨⟨n',c,e,b⟩,hq⟩:=h
 refine⟨⟨n',c,by rw[Qj n.symm];exact e,b⟩,?_⟩
 rcases m with m | m
 .rcases hq with(h | ⟨o',h⟩) | h
  .exact .inl (.inl (by rw[Qj m];exact h))
  .exact .inl (.inr ⟨o',by rw[Qj m];exact h⟩)
  .exact .inr h
 .exact m _
end
def ScN(K:Frag)(sc:Addr)(ls:List Int)(l:Addr):Prop:=sc≠l\/(∀G:Hp,jk K G sc (ls.map V.int))
inductive V3(K:Frag)(vs:List V)(H:Hp)(Q:VK):Prop
 | mk:∀(st sc nl:Addr)(ls:List Int)(nms:QpK)(hd:Str)(m:Nat),vs=[.ref st,.str hd,.int ((m:Nat):Int),.ref nl]->yS K H st sc ls->ls.length<=63->H nl=some (.lst (nms.map V.str))->(∀x∈nms,Q6 x)->nms.length+m<=400->nl≠st->ScN K sc ls nl->ZS hd->m<=150 ->
    (∀(l:Addr)(rs:List Gr)(uB:QpK) H',H l=none->KX [st,nl] H H'->yS K H' st sc ls->H' nl=some (.lst (uB.map V.str))->(∀x∈uB,Q6 x)->uB.length<=nms.length+m->H' l=some (.lst (rs.map Gr.r))->rs.length=m->Val hd rs->(∀r∈rs,QY H' r/\H r.x=none)->Q (.ref l) H')->V3 K vs H Q
def QdE(K:Frag):Sp:=fun vs H Q _=>V3 K vs H Q
theorem Qco(rs:List Gr)(r:Gr):ZV (rs++[r])=ZV rs+(if Q5 r.ds=true then 1 else 0):=by
 unfold ZV
 rw[wK,qy]
 congr 1
 cases e:Q5 r.ds with
 | true=>simp[List.filter,e]
 | false=>simp[List.filter,e]
theorem Wz(rs:List Gr)(r:Gr):QZ (rs++[r])=r.c:=by unfold QZ;simp
section
variable {P:Program}{w:World}{K:Frag}{mg:Str->Option Value}{base:Heap}{a:yE}
theorem Qcu{fd:FuncData}(F:jZ K "_law_stream" "_law_stream" YT a.uc fd)(T:Txt K mg a)(FF:Zr K a):QH P w K mg base vV 6 a.uc fd ["_law_state","_law_hand","_law_many","_law_names"] (QdE K):=by
 obtain⟨fdN,qY,zF⟩:=FF.qY
 have zG:=@Jm P w K mg base a _ qY T
 obtain⟨fdD,QiD,Qm6⟩:=FF.QiD
 have Qnc:=@Qer P w K mg base a _ QiD T FF
 refine F.ok Zc (fun _ _ _ _ h=>by cases h;subst_vars;rfl) (fun cdv A outer s H vs Q E hr h=>?_)
 .obtain⟨st,sc,nl,ls,nms,hd,m,rfl,sa,hl,hnl,hnw,hnn,nls,scn,hh,hm,k⟩:=h
  have jj:Qv 1 _:=hr.mono (by decide)
  have Ql2:Qv 5 _:=hr
  have xM:=hr.units
  refine⟨_,(Qa (Qm (i:=4) Zc.nd rfl (Or.inl rfl) (QR Qo))
   (Qa (Qm (i:=5) Zc.nd rfl (Or.inl rfl) Qb)
   (Qa (Qm (i:=6) Zc.nd rfl (Or.inl rfl) Qb)
   (Qa (ZZ jF rfl (Qcr rfl T.QkC (zy Qb (zy (Qt QQ (pv 2) Qb) Qc))) (Zd (i:=7) Zc.nd rfl (Or.inl rfl)) (Qa (Qm (i:=5) Zc.nd rfl (Or.inl rfl) (Qt QQ (pv 5) (Qp QS (QR (Qe Qb (Qe Qb (Qe Qb (Qe (Qt QQ Qb (Qt QM (Qk zG jj rfl T.je qY.kp zF .nil Qn (zy (pv 0) Qc)) (Qt QhT Qb Qb))) Qo))))) (Qt QM (Qk zG jj rfl T.je qY.kp zF .nil Qn (zy (pv 0) Qc)) Qb))))
   (Qa (Qm (i:=8) Zc.nd rfl (Or.inl rfl) (Qk Qnc Ql2 rfl T.QmO QiD.kp Qm6 .nil Qn (zy (pv 0) (zy (pv 3) (zy (pv 1) (zy (pv 6) Qc))))))
   (Qa (QO (Qu JJ (Qp Qz (pv 8) Qb) QB) (Qa (Qm (i:=6) Zc.nd rfl (Or.inl rfl) (Qt QQ (pv 6) Qb))
   (Qg (QV (J0 plainAttrs_list jc jd Zb (pv 3) (zy (Qp Qz (pv 8) Qb) Qc))))) Qy)
   (Qg (QV (J0 plainAttrs_list jc jd Zb (pv 4) (zy (Zn (Qe (pv 5) (Qe (pv 1) (Qe (pv 7) (Qe (pv 8) Qo))))) Qc))))))))
   (Qg (Qs (pv 4))))))),?_⟩
  refine⟨qP _,fun l H1 nl1 s1 e1=>?_⟩
  dsimp only[QJ]
  obtain⟨sx,est⟩:=sa.lst
  have lst:l≠st:=(Qd est nl1).symm
  have lnl:l≠nl:=(Qd hnl nl1).symm
  refine⟨_,rfl,_,_,rfl,rfl,_,_,rfl,(by refine⟨by decide,by decide,?_,?_⟩ <;> omega),XN (fun i σ G=>∃(rs:List Gr)(uB:QpK)(o7 o8:Option V),σ=[some (.ref st),some (.str hd),some (.int ((m:Nat):Int)),some (.ref nl),some (.ref l),some (.int (QZ rs)),some (.int ((ZV rs:Nat):Int)),o7,o8]/\KX [st,nl] H G/\yS K G st sc ls/\G nl=some (.lst (uB.map V.str))/\(∀x∈uB,Q6 x)/\uB.length<=nms.length+i/\G l=some (.lst (rs.map Gr.r))/\rs.length=i/\Val hd rs/\∀r∈rs,QY G r/\H r.x=none)
   ⟨[],nms,none,none,rfl,KX.of s1,sa.of s1,s1 _ _ hnl,hnw,qp _,e1,rfl,Val.nil,fun r hr=>nomatch hr⟩ ?_ ?_⟩
  .rintro i σ G hi ⟨rs,uB,o7,o8,rfl,kx,saG,enG,hw',hn',el,hrl,vl,hgr⟩
   have him:i<m:=by omega
   have hp:ZV rs<=i:=by rw[<-hrl];exact xW _ _
   dsimp only[QJ]
   refine⟨_,rfl,_,rfl,st,sc,ls,rfl,saG,hl,fun r1 G1 r10 r11 x1 uD=>⟨_,_,rfl,rfl,(by refine⟨by decide,by decide,by decide⟩),_,_,rfl,rfl,(by decide),_,_,rfl,rfl,XW,fun L G2 nL s2 eL=>?_⟩⟩
   have sa2:=uD.of s2
   refine⟨_,rfl,st,sc,ls,rfl,sa2,hl,fun r2 G3 r20 r21 x3 sa3=>?_⟩
   obtain⟨v,hv,hvm,_⟩:=VO (xs:=([.int 1,.int 1,.int 2,.int (1+r1 % (10 ^ (6:Int).toNat))]:List V)) r2 (by show 0<4;decide)
   have Lst:L≠st:=uD.nst nL
   obtain⟨y,rfl,hy⟩:∃y:Int,v=.int y/\1<=y:=by
    simp only[qR,ye,or_false] at hvm
    rcases hvm with h | h | h | h
    .exact⟨_,h,by decide⟩
    .exact⟨_,h,by decide⟩
    .exact⟨_,h,by decide⟩
    .exact⟨_,h,by have:=zP r1 (b:=10 ^ (6:Int).toNat) (by decide);omega⟩
   refine⟨_,_,rfl,rfl,Qnu,L,_,_,_,rfl,rfl,jk.of (x3 _ _ Lst eL),hv,_,_,rfl,rfl,?_⟩
   dsimp only[QJ]
   have x13:SX st G G3:=(x1.trans (SX.of s2)).trans x3
   have enG3:=x13 _ _ nls enG
   refine⟨_,rfl,_,rfl,_,rfl,_,rfl,st,sc,nl,ls,uB,hd,((ZV rs:Nat):Int),rfl,sa3,hl,enG3,hw',by omega,hh,by omega,by omega,nls,fun p xs ds G4 df hnm ep x4 sa4=>?_⟩
   have x14:=x13.trans x4
   have QnY:=x14 _ _ nls enG
   have el4:=x14 _ _ lst el
   obtain⟨sx0,est0⟩:=saG.lst
   have kt4:∀c ys,G c=some (.tup ys)->G4 c=some (.tup ys):=fun c ys e=>x14 _ _ (fun z=>by rw[z,est0] at e;cases e) e
   dsimp only[QJ]
   obtain⟨f,nm,rest,ev,hnmw,e1',e2'⟩:=df.hd2
   refine Zy (t:=Qan _ _ _) fun N hN=>?_
   have fin:∀(G5:Hp)(QmM:QpK),KX [st,nl] G4 G5->(∀c ys,G4 c=some (.tup ys)->G5 c=some (.tup ys))->yS K G5 st sc ls->G5 nl=some (.lst (QmM.map V.str))->(∀x∈QmM,Q6 x)->QmM.length<=uB.length+1->G5 l=some (.lst (rs.map Gr.r))->N [some (.ref st),some (.str hd),some (.int ((m:Nat):Int)),some (.ref nl),some (.ref l),some (.int (QZ rs+y)),some (.int ((ZV rs+(if Q5 ds=true then 1 else 0):Nat):Int)),some (.int (1+(i:Int))),some (.ref p)] G5:=fun G5 QmM k5 kt5 sa5 en5 hw5 hn5 el5=>by
    subst hN
    refine⟨_,rfl,.inl ⟨rfl,_,jk.of el5⟩,_,rfl,_,rfl,_,rfl,_,rfl,XW,fun x G6 nx s6 ex=>?_⟩
    have el6:=s6 _ _ el5
    refine⟨l,_,_,rfl,rfl,el6,(by rw[qd];exact QN (by omega)),?_⟩
    obtain⟨sx5,est5⟩:=sa5.lst
    have kxG:KX [st,nl] G G6:=((KX.sx (qI ..) x14).trans k5).trans (KX.of s6)
    have hx0:H x=none:=by
     cases e:H x with
     | none=>rfl
     | some o =>
       have xst:x≠st:=(Qd est5 nx).symm
       have xnl:x≠nl:=(Qd en5 nx).symm
       have:=k5 _ _ (by simp[xst,xnl]) (x14 _ _ xst (kx _ _ (by simp[xst,xnl]) e))
       rw[nx] at this;cases this
    let r:Gr:=⟨x,QZ rs+y,hd,rs.length+1,p,xs,ds⟩
    have cl0:0<=QZ rs:=by
     rcases xY rs with e | ⟨rs',q,e⟩
     .rw[e];exact uG _
     .have:=(hgr q (by rw[e,zW];simp)).1.c1
      rw[e,zW,Wz];omega
    have kt6:∀c ys,G4 c=some (.tup ys)->G6 c=some (.tup ys):=fun c ys e=>s6 _ _ (kt5 _ _ e)
    have gr6:QY G6 r:=⟨by rw[ex];show some (HO.tup [V.int (QZ rs+y),V.str hd,V.int (1+(i:Int)),V.ref p])=some (HO.tup [V.int (QZ rs+y),V.str hd,V.int ((rs.length+1:Nat):Int),V.ref p]);rw[show(1+(i:Int))=((rs.length+1:Nat):Int) by omega],kt6 _ _ ep,df.tups kt6,hh,by show 1<=QZ rs+y;omega,Qje (qP _)⟩
    have ktl:∀c ys,G6 c=some (.tup ys)->(upd G6 l (.lst ((rs++[r]).map Gr.r))) c=some (.tup ys):=fun c ys e=>by rw[Qj (fun z=>by rw[z,el6] at e;cases e)];exact e
    have ok:Zk rs r=true:=by
     unfold Zk
     rw[qt (show r.n=rs.length+1 from rfl),jm,jr]
     refine⟨?_,?_⟩
     .unfold Jx
      split
      .rfl
      .rename_i q hq
       refine qt (show q.c<QZ rs+y from ?_)
       rw[show QZ rs=q.c by unfold QZ;rw[hq]];omega
     .unfold JS
      show(!(Q5 ds && !decide (nmD ds=W1 hd rs)))=true
      cases hp:Q5 ds with
      | false=>rfl
      | true=>rw[hnm hp];exact(by rw[show hd++Str.ofString (toString (((ZV rs:Nat):Int)+1))=W1 hd rs from rfl,qt rfl];rfl)
    have em:rs.map Gr.r++[V.ref x]=(rs++[r]).map Gr.r:=by rw[zc];rfl
    rw[em]
    refine⟨rs++[r],QmM,some (.int (1+(i:Int))),some (.ref p),?_,?_,?_,?_,hw5,by omega,Qf,by rw[qy,hrl];rfl,vl.snoc ok rfl,fun q hq=>?_⟩
    .rw[Wz,Qco]
    .exact fun c o n e=>by rw[Qj (Qd e nl1)];exact kxG _ _ n (kx _ _ n e)
    .exact(sa5.of s6).put sa.sq nl1 lst
    .rw[Qj lnl.symm];exact s6 _ _ en5
    .rcases qF.mp hq with z | z
     .exact⟨((((hgr q z).1.tups kt4).tups kt6)).tups ktl,(hgr q z).2⟩
     .rw[qg.mp z];exact⟨gr6.tups ktl,hx0⟩
   refine⟨_,rfl,p,_,_,_,rfl,rfl,yu.of ep,(by rw[ev];exact at0),rfl,_,rfl,?_⟩
   rw[show decide (V.str f=V.str "put")=Q5 ds by rw[e1'];exact yr.mpr ⟨V.str.inj,zB _⟩]
   cases hp:Q5 ds with
   | false =>
     rw[hp] at fin
     exact QD (fin G4 uB (KX.of (Qi.refl _)) (fun _ _ e=>e) sa4 QnY hw' (yo _) el4)
   | true =>
     rw[hp] at fin
     refine QE ⟨_,rfl,_,_,rfl,rfl,?_⟩
     dsimp only[QJ]
     refine⟨_,rfl,.inl ⟨rfl,_,jk.of QnY⟩,_,rfl,p,_,_,_,rfl,rfl,yu.of ep,(by rw[ev];exact at1),nl,_,_,rfl,rfl,QnY,(by rw[qd];exact QN (by omega)),?_⟩
     have em:uB.map V.str++[V.str nm]=(uB++[nm]).map V.str:=by rw[zc];rfl
     rw[em]
     exact fin _ (uB++[nm]) (KX.upd (by simp)) (fun c ys e=>by rw[Qj (fun z=>by rw[z,QnY] at e;cases e)];exact e) (sa4.upd nls scn) Qf (fun z hz=>(qF.mp hz).elim (hw' z) fun w=>by rw[qg.mp w];exact hnmw) (by rw[qy];exact qp _) (by rw[Qj lnl];exact el4)
  .rintro σ G ⟨rs,uB,o7,o8,rfl,kx,saG,enG,hw',hn',el,hrl,vl,hgr⟩
   have hm':(((m:Nat):Int)+1 - 1).toNat=m:=by omega
   rw[hm'] at hn' hrl
   exact⟨_,rfl,k l rs uB G nl1 kx saG enG hw' hn' el hrl vl hgr⟩
end
theorem Val.pre{h:Str}{rs t:List Gr}(v:Val h (rs++t)):Val h rs:=fun i r e=>by
 have hi:=(qi.mp e).1
 obtain⟨a,b,c,d⟩:=v i r (by rw[zH hi];exact e)
 refine⟨a,b,?_,fun q h1 hq=>d q h1 (by rw[zH (by omega)];exact hq)⟩
 rw[uJ (by omega)] at c
 exact c
theorem Val.rise{h:Str}{rs:List Gr}(v:Val h rs):∀(d i:Nat){x y:Gr},rs[i]?=some x->rs[i+d+1]?=some y->x.c<y.c
 | 0,i,x,y,hx,hy=>(v (i+1) y hy).2.2.2 x (Qje (qP _)) hx
 | d+1,i,x,y,hx,hy=>by
   have hl:=(qi.mp hy).1
   obtain⟨z,hz⟩:∃z,rs[i+d+1]?=some z:=⟨_,qe (by omega)⟩
   have a:=v.rise d i hx hz
   have b:=(v (i+(d+1)+1) y hy).2.2.2 z (by omega) (by rw[show i+(d+1)+1 - 1=i+d+1 by omega];exact hz)
   omega
theorem Val.inj{h:Str}{rs:List Gr}(v:Val h rs){x y:Gr}(hx:x∈rs)(hy:y∈rs)(e:x.c=y.c):x=y:=by
 obtain⟨i,ei⟩:=qL.mp hx
 obtain⟨j,ej⟩:=qL.mp hy
 rcases Nat.lt_trichotomy i j with z | z | z
 .have:=v.rise (j - i - 1) i ei (by rw[show i+(j - i - 1)+1=j by omega];exact ej);omega
 .subst z;rw[ei] at ej;cases ej;rfl
 .have:=v.rise (i - j - 1) j ej (by rw[show j+(i - j - 1)+1=i by omega];exact ei);omega
theorem Val.nodup{h:Str}{rs:List Gr}(v:Val h rs):rs.Nodup:=yG.mpr fun i j hi hj hij e=>by
 have a:=(v i rs[i] (qe hi)).2.1
 have b:=(v j rs[j] (qe hj)).2.1
 rw[e] at a
 omega
theorem Qfz(xs:List Gr):KK (xs.map Uh):=.inl fun d hd=>by obtain⟨r,_,e⟩:=zq.mp hd;exact⟨_,e.symm⟩
theorem Qah(xs:List Gr):KK (xs.map stK):=.inr fun d hd=>by obtain⟨r,_,e⟩:=zq.mp hd;exact⟨_,_,e.symm⟩
section
variable {U:Str->List Gr}(hU:∀h,Val h (U h))
include hU
theorem Qhh{es:Sh}{k k':Str->Nat}{L:List Gr}(u:InU U es k)(hL:∀r∈L,1<=r.n/\(U r.h)[r.n - 1]?=some r/\eqR r r=true)(hle:∀r∈L,r.n<=k' r.h)(hg:∀h m,k h<m->m<=k' h->∃r∈L,r.h=h/\r.n=m)(hk:∀h,k h<=k' h) :
 ∃es' fr,wgh es (xn Uh L)=some (es',fr)/\InU U es' k'/\fr.Nodup/\∀r,r∈fr↔∃h m,k h<=m/\m<k' h/\(U h)[m]?=some r:=by
 obtain⟨es',fr,k2,w1,w2,w3,w4,w5,w6,w7⟩:=Qad hU (q:=xn Uh L) u (fun r hr=>hL r (Q9.mp hr)) ((V0 (Qfz L)).imp fun{x y} h=>by
  have:=wM (show decide (((y.n:Nat):Int)<((x.n:Nat):Int))=false from h);omega) fun r hr m h1 h2=>by
  obtain⟨r',a,b⟩:=hg r.h m h1 (zf h2 (hle r (Q9.mp hr)))
  exact⟨r',Q9.mpr a,b⟩
 have e:k2=k':=funext fun h=>by
  refine Nat.le_antisymm (Nat.le_of_not_lt fun z=>?_) (Nat.le_of_not_lt fun z=>?_)
  .obtain⟨r,a,b,c⟩:=w5 h (k2 h) (yx (hk h) z) (qp _)
   have:=hle r (Q9.mp a)
   rw[b] at this
   omega
  .obtain⟨r,a,b,c⟩:=hg h (k' h) (yx (w3 h) z) (qp _)
   have:=w4 r (Q9.mpr a)
   rw[b] at this
   omega
 subst e
 exact⟨es',fr,w1,w2,w6,w7⟩
theorem QdC{x y:Gr}(hx:x∈U x.h)(hy:y∈U y.h)(h1:uy (stK y) (stK x)=false)(h2:uy (stK x) (stK y)=false):x=y:=by
 have e:=GG ((Z6 _ _).mp h1) ((Z6 _ _).mp h2)
 have e1:x.c=y.c:=zB Prod.fst e
 have e2:x.h=y.h:=zB Prod.snd e
 rw[<-e2] at hy
 exact(hU x.h).inj hx hy e1
theorem KZ{L L':List Gr}(p:L.Perm L')(h:∀r∈L,r∈U r.h):xn stK L=xn stK L':=Qcf (Qah L) p fun x hx y hy=>QdC hU (h x hx) (h y hy)
theorem Qn9{h:Str}{m:Nat}{r:Gr}(e:(U h)[m]?=some r):r.h=h/\r.n=m+1/\r∈U r.h:=by
 obtain⟨a,b,_⟩:=hU h m r e
 exact⟨a,b,by rw[a];exact qG e⟩
theorem Qdr{es:Sh}{k:Str->Nat}(u:InU U es k)(r:Gr):r∈xN es (fun _=>0)↔∃h m,m<k h/\(U h)[m]?=some r:=by
 unfold xN
 rw[vO]
 constructor
 .rintro⟨h,_,hr⟩
  rw[jq,u.e] at hr
  obtain⟨m,e⟩:=qL.mp hr
  have hm:m<k h:=by have:=(qi.mp e).1;rw[qK] at this;omega
  rw[za,qj hm] at e
  exact⟨h,m,hm,e⟩
 .rintro⟨h,m,hm,e⟩
  have hr:r∈Ql es h:=by rw[u.e];exact qL.mpr ⟨m,by rw[za,qj hm];exact e⟩
  refine⟨h,j8 fun z=>?_,by rw[jq];exact hr⟩
  rw[Ys z] at hr
  cases hr
theorem Vz{es:Sh}{k:Str->Nat}(u:InU U es k)(nd:(yf es).Nodup):(xN es fun _=>0).Nodup:=by
 unfold xN
 refine Qke.mpr ⟨fun h _=>?_,nd.imp fun{a b} hab x hx y hy e=>?_⟩
 .rw[jq,u.e];exact(hU h).nodup.sublist (jl _ _)
 .rw[jq,u.e] at hx hy
  obtain⟨i,ei⟩:=qL.mp (zR hx)
  obtain⟨j,ej⟩:=qL.mp (zR hy)
  have a1:=(Qn9 hU ei).1
  have a2:=(Qn9 hU ej).1
  rw[e] at a1
  exact hab (a1.symm.trans a2)
end
theorem Qa4{K:Frag}{a:Addr}{xs:List V}{fr:List (Nat×Str)}{te:TE}{σ:St}{H1:Hp}{Q:VK}(Pv:Addr->Nat->List V->Hp->Prop)(hz:xs.length<=sizeLine)(h0:∀D,H1 D=none->Pv D 0 [] (upd H1 D (.lst [])))(hlen:∀D i ys H,Pv D i ys H->ys.length=i)
 (hS:∀D i ys H,H1 D=none->Pv D i ys H->jk K H a xs/\H D=some (.lst ys))
 (hte:∀(D:Addr)(i:Nat)(x:V)(ys:List V)(H3:Hp)(Q':VK),xs[i]?=some x->H1 D=none->Pv D i ys H3->(∀y H5,H5 D=some (.lst ys)->Pv D (i+1) (ys++[y]) (upd H5 D (.lst (ys++[y])))->Q' y H5)->te (some x :: frV σ fr) H3 Q')
 (hQ:∀D ys H2,H1 D=none->Pv D xs.length ys H2->Q (.ref D) H2) :
 Zj (Itl K a) fr KQ te σ H1 Q:=by
 intro D hD
 refine⟨fun i m ys H2=>m=xs.length - i/\i<=xs.length/\Pv D i ys H2,⟨xs.length,by simp,qP _,h0 D hD⟩,?_⟩
 rintro i m ys H2 ⟨rfl,hi,p⟩
 obtain⟨hS2,d2⟩:=hS D i ys H2 hD p
 refine⟨d2,?_⟩
 by_cases hlt:i<xs.length
 .refine .inr ⟨⟨xs,xs[i],hS2,qe hlt⟩,?_⟩
  rintro v H3 ⟨rfl,hv⟩
  refine VV (QE ?_)
  refine hte D i v ys _ _ (hv xs hS2) hD p fun y H5 d5 p'=>⟨d5,?_,xs.length - (i+1),by omega,rfl,hlt,p'⟩
  rw[hlen D i ys _ p];omega
 .have e:i=xs.length:=by omega
  subst e
  exact .inl ⟨⟨xs,hS2,qp _⟩,hQ D ys H2 hD p⟩
theorem U5{α β:Type}{f:α->β}:∀{ys:List β}{xs:List α},ys.Perm (xs.map f)->∃zs:List α,zs.Perm xs/\ys=zs.map f
 | [],xs,p=>by
   have:xs=[]:=by
    cases xs with
    | nil=>rfl
    | cons x xs=>exact absurd p.length_eq (by simp)
   subst this
   exact⟨[],.nil,rfl⟩
 | y :: ys,xs,p=>by
   obtain⟨x,hx,e⟩:=zq.mp (p.mem_iff.mp (qI ..))
   obtain⟨s,t,rfl⟩:=List.append_of_mem hx
   have p1:(x :: (s++t)).Perm (s++x :: t):=List.perm_middle.symm
   have p2:(y :: ys).Perm (y :: (s++t).map f):=by rw[<-e];exact(by rw[e];exact p:(f x :: ys).Perm ((s++x :: t).map f)).trans (p1.symm.map f)
   obtain⟨zs,q,r⟩:=U5 ((List.perm_cons y).mp p2)
   exact⟨x :: zs,(q.cons x).trans p1,by rw[z7,e,r]⟩
theorem QcP{H H':Hp}{y dy C:Addr}(ny:H y=none)(nd:H dy=none)(k:SX y (upd (upd H dy (.own y)) y (.ins C dy [])) H'):Qi H H':=fun c o e=>k c o (Qd e ny) (by rw[Qj (Qd e ny),Qj (Qd e nd)];exact e)
theorem XX:∀{na:List (Key×Int)},(na.map (·.1)).Nodup->∀{k:Key}{n:Int},(k,n)∈na->Q7 (nK na) k=some (.int n)
 | [],_,k,n,h=>nomatch h
 | (k',n') :: r,nd,k,n,h=>by
   rw[z7,jo] at nd
   show Q7 ((k',V.int n') :: nK r) k=_
   rcases qR.mp h with e | e
   .cases e
    exact JX rfl
   .have:k'≠k:=fun z=>nd.1 (by rw[z];exact jg (f:=(·.1)) e)
    rw[Jr this]
    exact XX nd.2 e
theorem Kt{nb:List (Key×Int)}:∀{na:List (Key×Int)},(∀k n,(k,n)∈na->Q7 (nK nb) k=some (.int n))->Vb nb na=true
 | [],_=>rfl
 | (k,n) :: r,h=>by
   unfold Vb
   rw[h k n (qI ..)]
   show((n == n) && Vb nb r)=true
   rw[yX,jm]
   exact Kt fun k' n' q=>h k' n' (qu _ q)
theorem Val.take{h:Str}{rs:List Gr}{k:Nat}(v:Val h rs):Val h (rs.take k):=Val.pre (t:=rs.drop k) (by rw[qQ];exact v)
structure LT(X:List Addr)(H H':Hp):Prop where
 l:∀c xs,c∉X->H c=some (.lst xs)->H' c=some (.lst xs)
 t:∀c xs,H c=some (.tup xs)->H' c=some (.tup xs)
section
variable {K:Frag}{X Y:List Addr}{H H' H'':Hp}{st l sc:Addr}{ls:List Int}{r:Gr}
theorem LT.kx(k:KX X H H')(h:∀c∈X,∃ys,H c=some (.lst ys)):LT X H H':=⟨fun c xs n e=>k c _ n e,k.tup h⟩
theorem LT.sx(s:SX st H H')(h:∃ys,H st=some (.lst ys)):LT [st] H H':=.kx (KX.sx (qg.mpr rfl) s) fun c hc=>by rw[qg.mp hc];exact h
theorem LT.ins{C d:Addr}{f:List (Str×V)}(s:SX l H H')(h:H l=some (.ins C d f)):LT X H H':=⟨fun c xs _ e=>s _ _ (QI e h fun z=>nomatch z) e,fun c xs e=>s _ _ (QI e h fun z=>nomatch z) e⟩
theorem QY.lt(g:QY H r)(k:LT X H H'):QY H' r:=g.tups k.t
theorem yS.ins{C d:Addr}{f:List (Str×V)}(h:yS K H st sc ls)(s:SX l H H')(e:H l=some (.ins C d f)):yS K H' st sc ls:=by
 obtain⟨⟨n',c,e',b⟩,hq⟩:=h
 refine⟨⟨n',c,s _ _ (QI e' e fun z=>nomatch z) e',b⟩,?_⟩
 rcases hq with(h | ⟨o',h⟩) | h
 .exact .inl (.inl (s _ _ (QI h e fun z=>nomatch z) h))
 .exact .inl (.inr ⟨o',s _ _ (QI h e fun z=>nomatch z) h⟩)
 .exact .inr h
theorem yS.scn(h:yS K H st sc ls)(n:H l=none):ScN K sc ls l:=by
 rcases h.sq with(e | ⟨o',e⟩) | e
 .exact .inl (Qd e n)
 .exact .inl (Qd e n)
 .exact .inr fun G=>.inr e
end
theorem Qg6{α:Type}{f:Str->List α}:∀{ks:QpK},(∀h∈ks,f h≠[])->ks.length<=(ks.flatMap f).length
 | [],_=>qP _
 | k :: ks,h=>by
   have a:=List.length_pos_iff.mpr (h k (qI ..))
   have b:=Qg6 (ks:=ks) fun v hv=>h v (qu _ hv)
   rw[List.flatMap_cons,qy,zm]
   omega
theorem Qhd{α:Type}(f:α->V)(xs:List α)(n:Nat):UR (xs.map f) none (some ((n:Nat):Int))=(xs.take n).map f:=by
 unfold UR
 rw[HT.QkU,HT.Qkj,jq,Nat.sub_zero,qd,<-List.map_take]
 by_cases h:n<=xs.length
 .rw[jA h]
 .rw[uA (by omega),zj (qp _),zj (by omega)]
theorem u6.sx{a:yE}{H H':Hp}{l S st:Addr}{hd:Str}{es:Sh}{ad:Str->Addr}(g:u6 a H l S hd es ad)(x:SX st H H')(hst:∃ys,H st=some (.lst ys))(n:∀h,ad h≠st):u6 a H' l S hd es ad:=by
 obtain⟨ys,es'⟩:=hst
 obtain⟨dl,el⟩:=g.e
 obtain⟨o,eS⟩:=g.s
 exact⟨⟨dl,x _ _ (QI el es' fun z=>nomatch z) el⟩,⟨o,x _ _ (QI eS es' fun z=>nomatch z) eS⟩,g.sh.go (fun c xs e=>x _ _ (QI e es' fun z=>nomatch z) e) fun h hh=>by rw[x _ _ (n h) (g.sh.l h hh),g.sh.l h hh]⟩
theorem X4{H:Hp}{es:Sh}{ad:Str->Addr}(s:UU H es ad):es.length<=(xN es fun _=>0).length:=by
 have:(yf es).length<=((yf es).flatMap fun h=>(Ql es h).drop 0).length:=Qg6 fun h hh=>by rw[jq];exact s.nn h hh
 unfold xN
 unfold yf at this ⊢
 rw[qd] at this
 exact this
theorem Yp{K:Frag}{G:Hp}{x y:Addr}{L:List Gr}{Q:VK}(ex:G x=some (.lst (L.map Gr.r)))(ey:G y=some (.lst (L.map Gr.r)))(g:∀r∈L,QY G r)(q:Q (.bl false) G):QdX K (.ref x) (.ref y) G Q:=by
 obtain⟨a1,a2,a3⟩:=UK (K:=K) g
 exact Kg (.lst (jk.of ex) a1) (.lst (jk.of ey) a1) (UH a2 a3) q
theorem Qhe{α:Type}(f:α->V)(xs:List α)(a b:Nat):UR (xs.map f) (some ((a:Nat):Int)) (some ((b:Nat):Int))=((xs.take b).drop a).map f:=by
 unfold UR
 rw[HT.Qkj,HT.Qkj,qd,<-List.map_drop,<-List.map_take]
 congr 1
 apply List.ext_getElem?
 intro i
 rw[za,q9,q9,za]
 by_cases h1:a<=xs.length
 .rw[jA h1]
  by_cases h2:b<=xs.length
  .rw[jA h2]
   by_cases h3:i<b - a
   .rw[qj h3,qj (by omega)]
   .rw[ql h3,ql (by omega)]
  .rw[uA (by omega)]
   by_cases h3:i<xs.length - a
   .rw[qj h3,qj (by omega)]
   .rw[ql h3]
    split
    .rw[xX (by omega)]
    .rfl
 .rw[uA (show xs.length<=a by omega),ql (by omega)]
  split
  .rw[xX (by omega)]
  .rfl
structure Sq where
 h:Str
 rs:List Gr
 a:Addr
def uS:List Sq->Str->List Gr
 | [],_=>[]
 | w :: ws,h=>if w.h=h then w.rs else uS ws h
structure JA(ws:List Sq):Prop where
 nd:(ws.map (·.h)).Nodup
 v:∀w∈ws,Val w.h w.rs
 lo:∀w∈ws,1<=w.rs.length
 hi:∀w∈ws,w.rs.length<=36
 n:ws.length<=4
structure ZU(H:Hp)(sl:Addr)(ws:List Sq):Prop where
 e:H sl=some (.lst (ws.map fun w=>V.ref w.a))
 l:∀w∈ws,H w.a=some (.lst (w.rs.map Gr.r))
 g:∀w∈ws,∀r∈w.rs,QY H r
theorem ZU.mono{H H':Hp}{sl:Addr}{ws:List Sq}(x:ZU H sl ws)(s:Qi H H'):ZU H' sl ws:=⟨s _ _ x.e,fun w hw=>s _ _ (x.l w hw),fun w hw r hr=>(x.g w hw r hr).mono s⟩
section
variable {ws:List Sq}
theorem Ur:∀{ws:List Sq},(ws.map (·.h)).Nodup->∀w∈ws,uS ws w.h=w.rs
 | [],_,w,hw=>nomatch hw
 | v :: ws,nd,w,hw=>by
   rw[z7,jo] at nd
   unfold uS
   rcases qR.mp hw with e | e
   .rw[e,qj rfl]
   .have n:v.h≠w.h:=fun z=>nd.1 (by rw[z];exact jg e)
    rw[ql n]
    exact Ur nd.2 w e
theorem VR:∀(ws:List Sq)(h:Str),(∃w∈ws,w.h=h)\/uS ws h=[]
 | [],h=>.inr rfl
 | v :: ws,h=>by
   unfold uS
   by_cases e:v.h=h
   .exact .inl ⟨v,qI ..,e⟩
   .rw[ql e]
    exact(VR ws h).imp (fun⟨w,a,b⟩=>⟨w,qu _ a,b⟩) id
theorem JA.val(o:JA ws)(h:Str):Val h (uS ws h):=by
 rcases VR ws h with⟨w,hw,rfl⟩ | e
 .rw[Ur o.nd w hw];exact o.v w hw
 .rw[e];exact Val.nil
def UT(ws:List Sq)(g had:Str->Nat):List Gr:=ws.flatMap fun w=>(w.rs.take (g w.h)).drop (had w.h)
theorem Val.h{h:Str}{rs:List Gr}(v:Val h rs){r:Gr}(m:r∈rs):r.h=h:=by
 obtain⟨i,e⟩:=qL.mp m
 exact(v i r e).1
theorem XZ(o:JA ws){f:Sq->List Gr}(hf:∀w∈ws,(f w).Sublist w.rs):((ws.flatMap f).map stK).Nodup:=by
 show List.Pairwise _ _
 rw[jX,Qke]
 refine⟨fun w hw=>?_,?_⟩
 .have nd:(f w).Nodup:=(o.v w hw).nodup.sublist (hf w hw)
  refine yM ?_ nd
  intro x y hx hy hne e
  exact hne ((o.v w hw).inj ((hf w hw).subset hx) ((hf w hw).subset hy) (Prod.mk.inj (j4 e)).1)
 .have nd:=o.nd
  rw[List.Nodup,jX] at nd
  refine yM ?_ nd
  intro w w' hw hw' hne x hx y hy e
  have h1:=(o.v w hw).h ((hf w hw).subset hx)
  have h2:=(o.v w' hw').h ((hf w' hw').subset hy)
  have e2:x.h=y.h:=by
   have:=j4 e
   exact(Prod.mk.inj this).2
  exact hne (by rw[<-h1,<-h2,e2])
theorem US(w:Sq)(g had:Str->Nat):((w.rs.take (g w.h)).drop (had w.h)).Sublist w.rs:=(jV _ _).trans (jl _ _)
theorem Qe6{f:Sq->List Gr}:∀{ws:List Sq},(∀w∈ws,(f w).length<=36)->(ws.flatMap f).length<=36*ws.length
 | [],_=>qp _
 | w :: ws,h=>by
   rw[List.flatMap_cons,qy,zm]
   have:=h w (qI ..)
   have:=Qe6 (ws:=ws) fun v hv=>h v (qu _ hv)
   omega
theorem KI(o:JA ws)(g had:Str->Nat):(UT ws g had).length<=144:=by
 have:=Qe6 (ws:=ws) (f:=fun w=>(w.rs.take (g w.h)).drop (had w.h)) fun w hw=>zf (US w g had).length_le (o.hi w hw)
 have:=o.n
 unfold UT
 omega
end
def YL(H:Hp)(p:Addr)(had:Str->Nat):Prop:=∃na:List (Key×Int),Rd H p (.dK (nK na))/\∀h,(Q7 (nK na) (inr h)).getD (.int 0)=.int ((had h:Nat):Int)
theorem YL.mono{H H':Hp}{p:Addr}{had:Str->Nat}(x:YL H p had)(s:Qi H H'):YL H' p had:=by
 obtain⟨na,e,v⟩:=x
 exact⟨na,e.imp (fun e=>s _ _ e) fun⟨o,e⟩=>⟨o,s _ _ e⟩,v⟩
inductive Qbl(vs:List V)(H:Hp)(Q:VK):Prop
 | mk:∀(sl gp op:Addr)(ws:List Sq)(g had:Str->Nat),vs=[.ref sl,.ref gp,.ref op]->JA ws->ZU H sl ws->YL H gp g->YL H op had->(∀z H',Qi H H'->H z=none->H' z=some (.lst ((xn stK (UT ws g had)).map Gr.r))->Q (.ref z) H')->Qbl vs H Q
def spAll:Sp:=fun vs H Q _=>Qbl vs H Q
section
variable {P:Program}{w:World}{K:Frag}{mg:Str->Option Value}{base:Heap}{a:yE}
theorem Qex{fd:FuncData}(F:jZ K "_law_all" "_law_all" X2 a.Qi5 fd)(T:Txt K mg a)(FF:Zr K a):QH P w K mg base vV 4 a.Qi5 fd ["_law_streams","_law_got","_law_one"] spAll:=by
 obtain⟨fdB,yQ,ug⟩:=FF.yQ
 have um:=@Wq P w K mg base a _ yQ T
 refine F.ok YD (fun _ _ _ _ h=>by cases h;subst_vars;rfl) (fun cdv A outer s H vs Q E hr h=>?_)
 .obtain⟨sl,gp,op,ws,g,had,rfl,o,x,dg,dh,kq⟩:=h
  have hu:=UQ hr
  have hr3:Qv 3 _:=hr
  refine⟨_,(Qa (Qm (i:=3) YD.nd rfl (Or.inl rfl) (QR Qo))
   (Qa (ZZ jF rfl (Zm (pv 0)) (Zd (i:=4) YD.nd rfl (Or.inl rfl)) (Qa (Qm (i:=5) YD.nd rfl (Or.inl rfl) (Qp (Zs K) (Qp (Jy K) (pv 4) Qb) Qb))
     (Qg (Qm (i:=3) YD.nd rfl (Or.inl rfl) (Qt VG (pv 3) (ZL JY (pv 4) (ZK (ZN hu (pv 2) (pv 5) Qb ⟨rfl,rfl,rfl,rfl⟩)) (ZK (ZN hu (pv 1) (pv 5) Qb ⟨rfl,rfl,rfl,rfl⟩))))))))
   (Qg (Qs (XA um hr3 rfl T.uP rfl T.Qip ug (pv 3)))))),?_⟩
  refine⟨qP _,fun pl H1 npl s1 epl=>?_⟩
  dsimp only[QJ]
  refine⟨_,rfl,sl,rfl,⟨_,jk.of (s1 _ _ x.e)⟩,Ja (K:=K) (xs:=ws.map fun w=>V.ref w.a) (fun i σ G=>∃(z:Addr)(o4 o5:Option V),σ=[some (.ref sl),some (.ref gp),some (.ref op),some (.ref z),o4,o5]/\Qi H G/\H z=none/\G z=some (.lst (((ws.take i).flatMap fun w=>(w.rs.take (g w.h)).drop (had w.h)).map Gr.r))) ⟨pl,none,none,rfl,s1,npl,epl⟩ ?_ ?_ ?_⟩
  .rintro i σ G _ ⟨z,o4,o5,rfl,sG,_⟩
   exact jk.of (sG _ _ x.e)
  .rintro i v σ G hv ⟨z,o4,o5,rfl,sG,nz,ez⟩
   obtain⟨wi,hwi,rfl⟩:∃w,ws[i]?=some w/\v=.ref w.a:=by
    rw[qJ] at hv
    cases e:ws[i]? with
    | none=>rw[e] at hv;cases hv
    | some w=>rw[e] at hv;cases hv;exact⟨w,rfl,rfl⟩
   have hm:wi∈ws:=qG hwi
   have ea:=sG _ _ (x.l wi hm)
   obtain⟨r0,hr0⟩:∃r,wi.rs[0]?=some r:=⟨_,qe (o.lo wi hm)⟩
   have h0:r0.h=wi.h:=(o.v wi hm).h (qG hr0)
   have er0:=((x.g wi hm r0 (qG hr0)).mono sG).e
   rw[h0] at er0
   obtain⟨na,eo,vo⟩:=dh.mono sG
   obtain⟨nb,eg,vg⟩:=dg.mono sG
   have hl:=KI o g had
   have hts:(ws.take (i+1)).flatMap (fun w=>(w.rs.take (g w.h)).drop (had w.h))=(ws.take i).flatMap (fun w=>(w.rs.take (g w.h)).drop (had w.h))++(wi.rs.take (g wi.h)).drop (had wi.h):=by
    rw[zb,hwi,Qgq]
    show _++([wi].flatMap _)=_
    rw[List.flatMap_singleton]
   have hpre:((ws.take (i+1)).flatMap fun w=>(w.rs.take (g w.h)).drop (had w.h)).length<=144:=by
    refine zf (List.Sublist.length_le ?_) hl
    unfold UT
    rw[<-qQ (i+1) ws,Qgq,qQ]
    exact List.sublist_append_left _ _
   rw[hts,qy] at hpre
   refine⟨_,rfl,wi.a,_,_,_,rfl,rfl,jk.of ea,Zt (j:=0) (by rw[qJ,hr0];rfl),r0.x,_,_,_,rfl,rfl,yu.of er0,at1,?_⟩
   refine⟨_,rfl,_,rfl,_,rfl,op,rfl,.inl ⟨_,eo⟩,_,rfl,Q7 (nK na) (inr wi.h),.inl ⟨_,inr wi.h,eo,rfl,rfl⟩,?_⟩
   rw[vo]
   refine⟨_,rfl,_,rfl,gp,rfl,.inl ⟨_,eg⟩,_,rfl,Q7 (nK nb) (inr wi.h),.inl ⟨_,inr wi.h,eg,rfl,rfl⟩,?_⟩
   rw[vg]
   refine⟨_,rfl,wi.a,_,rfl,jk.of ea,fun nl G1 nnl t1 enl=>?_⟩
   rw[Qhe] at enl
   refine⟨z,nl,_,_,rfl,rfl,t1 _ _ ez,enl,?_,?_⟩
   .rw[qd,qd];exact Q2 ((by omega))
   .intro z2 G2 nz2 t2 ez2
    refine⟨z2,_,_,rfl,(sG.trans t1).trans t2,(sG.trans t1).free nz2,?_⟩
    rw[ez2,hts,zc]
  .rintro σ G ⟨z,o4,o5,rfl,sG,nz,ez⟩
   rw[qd,yq] at ez
   have ez:G z=some (.lst ((UT ws g had).map Gr.r)):=ez
   have hrs:∀r∈UT ws g had,QY G r:=fun r hr=>by
    obtain⟨w,hw,hk⟩:=vO.mp hr
    exact(x.g w hw r ((US w g had).subset hk)).mono sG
   have hl:=KI o g had
   refine⟨_,rfl,z,(UT ws g had).map Gr.r,(UT ws g had).map stK,rfl,jk.of ez,by rw[qd,qd],XZ o fun w _=>US w g had,(by rw[qd];omega),.inr (fun d hd=>by obtain⟨r,_,e⟩:=zq.mp hd;exact⟨_,_,e.symm⟩),(fun i y d hy hd G1 t1=>?_),fun f2 G1 nf2 t1 ef2=>?_⟩
   .rw[qJ] at hy hd
    cases er:(UT ws g had)[i]? with
    | none=>rw[er] at hy;cases hy
    | some r =>
      rw[er] at hy hd
      cases hy
      cases hd
      exact⟨r.x,_,_,_,_,rfl,t1 _ _ (hrs r (qG er)).e,fun t G2 t2 et=>⟨t2,t,rfl,et⟩⟩
   .rw[Ut Gr.r] at ef2
    exact kq f2 G1 (sG.trans t1) (sG.free nf2) ef2
end
theorem Qh4{K:Frag}:kitOne K (.type "dict") (.type "dict")=some true:=by kernel_rfl
inductive Qbi(a:yE)(vs:List V)(H:Hp)(Q:VK):Prop
 | mk:∀(l S gp:Addr)(hd:Str)(es:Sh)(ad:Str->Addr)(nb:List (Key×Int)),vs=[.ref l,.ref gp]->u6 a H l S hd es ad->es.length<=200->Rd H gp (.dK (nK nb))->((hvG es).length == nb.length && Vb nb (hvG es))=true->(∀H',Qi H H'->Q (.bl true) H')->Qbi a vs H Q
def spHad(a:yE):Sp:=fun vs H Q _=>Qbi a vs H Q
section
variable {P:Program}{w:World}{K:Frag}{mg:Str->Option Value}{base:Heap}{a:yE}
theorem QhX{fd:FuncData}(F:jZ K "_law_had" "_law_had" X1 a.Qi4 fd)(T:Txt K mg a)(FF:Zr K a):QH P w K mg base vV 2 a.Qi4 fd ["_law_ledger","_law_got"] (spHad a):=by
 obtain⟨fdA,FA,vA⟩:=FF.QgE
 have vC:=@Qbz P w K mg base a _ FA T
 refine F.ok K9 (fun _ _ _ _ h=>by cases h;subst_vars;rfl) (fun cdv A outer s H vs Q E hr h=>?_)
 .obtain⟨l,S,gp,hd,es,ad,nb,rfl,lg,Qpj,eg,heq,k⟩:=h
  have hr1:Qv 1 _:=hr
  have xM:=hr.units
  obtain⟨dl,el⟩:=lg.e
  refine⟨_,(Qa (Qm (i:=2) K9.nd rfl (Or.inl rfl) (ZM (pv 0) T.zO T.wZ vC hr1 vA .nil Qn))
   (Qa (QO (PW.pt (JZ (Q8 (Za (Qr QF rfl T.ji boot_isinstance (zy (pv 2) (zy (Ze (v:=.ty "dict") rfl T.QkG boot_dict rfl) Qc))))) (JP (Qu (QaE xM) (pv 2) (pv 1))))) (Qg (Qs ZW)) Qy)
   (Qa (QV (Qef plainAttrs_dict PySem.F.slot_dict_clear PySem.F.type_dict_clear QcN (pv 2)))
   (Qg (Qs (Z5 (QhV xM) (ZM (pv 0) T.zO T.wZ vC hr1 vA .nil Qn) (pv 1))))))),?_⟩
  refine⟨_,rfl,l,dl,_,rfl,el,rfl,.mk l S hd es ad rfl lg Qpj fun z G s1 nz ez=>?_⟩
  dsimp only[QJ]
  have eg1:Rd G gp (.dK (nK nb)):=eg.imp (fun e=>s1 _ _ e) fun⟨o,e⟩=>⟨o,s1 _ _ e⟩
  refine⟨_,rfl,_,_,_,_,_,rfl,rfl,.dK ez,Qh4,_,rfl,QD ?_⟩
  refine⟨_,rfl,_,rfl,z,gp,_,_,rfl,rfl,.inl ez,eg1,_,rfl,?_⟩
  rw[heq]
  refine QD ?_
  refine⟨_,rfl,.inr (.inr (.inl ⟨rfl,.inl ⟨_,ez⟩⟩)),z,_,rfl,rfl,ez,?_⟩
  have s2:Qi H (upd G z (.dK [])):=fun c o e=>by rw[Qj (Qd e nz)];exact s1 _ _ e
  have gz:gp≠z:=fun q=>by
   subst q
   rcases eg with e | ⟨o,e⟩ <;> rw[nz] at e <;> cases e
  generalize upd G z (.dK [])=G2 at s2
  refine⟨_,rfl,l,dl,_,rfl,s2 _ _ el,rfl,.mk l S hd es ad rfl (lg.mono s2) Qpj fun z2 G3 s3 nz2 ez2=>?_⟩
  have s23:=s2.trans s3
  refine⟨_,rfl,z2,gp,_,_,rfl,rfl,.inl ez2,(eg.imp (fun e=>s23 _ _ e) fun⟨o,e⟩=>⟨o,s23 _ _ e⟩),?_⟩
  rw[heq]
  exact k G3 s23
end
theorem QgM{K:Frag}{G:Hp}{x y:Addr}{L:List Gr}{Q:VK}(ex:G x=some (.lst (L.map Gr.r)))(ey:G y=some (.lst (L.map Gr.r)))(g:∀r∈L,QY G r)(q:Q (.bl true) G):QnG K (.ref x) (.ref y) G Q:=by
 obtain⟨a1,a2,a3⟩:=UK (K:=K) g
 exact Kw (.lst (jk.of ex) a1) (.lst (jk.of ey) a1) (UH a2 a3) q
inductive Xr(a:yE)(vs:List V)(H:Hp)(Q:VK):Prop
 | mk:∀(l S dp:Addr)(hd:Str)(es:Sh)(ad:Str->Addr),vs=[.ref l,.ref dp]->u6 a H l S hd es ad->((xN es fun _=>0).map stK).Nodup->(xN es fun _=>0).length<=500->H dp=some (.lst ((xn stK (xN es fun _=>0)).map Gr.r))->(∀H',Qi H H'->Q (.bl true) H')->Xr a vs H Q
def QfT(a:yE):Sp:=fun vs H Q _=>Xr a vs H Q
theorem u6.told{a:yE}{H:Hp}{l S:Addr}{hd:Str}{es:Sh}{ad:Str->Addr}(lg:u6 a H l S hd es ad){had:Str->Nat}:∀r∈xn stK (xN es had),QY H r:=fun r hr=>by
 obtain⟨k,_,hk⟩:=vO.mp (Q9.mp hr)
 exact lg.sh.r k r (jb hk)
section
variable {P:Program}{w:World}{K:Frag}{mg:Str->Option Value}{base:Heap}{a:yE}
theorem Qev{fd:FuncData}(F:jZ K "_law_all_told" "_law_all_told" JF a.v8 fd)(T:Txt K mg a)(FF:Zr K a):QH P w K mg base vV 5 a.v8 fd ["_law_ledger","_law_due"] (QfT a):=by
 obtain⟨fdB,FB,_,dsB,vB,jO⟩:=FF.vJ
 have ju:=@UM P w K mg base a _ FB T FF
 refine F.ok Y4 (fun _ _ _ _ h=>by cases h;subst_vars;rfl) (fun cdv A outer s H vs Q E hr h=>?_)
 .obtain⟨l,S,dp,hd,es,ad,rfl,lg,nd,hz,ed,k⟩:=h
  have hr4:Qv 4 _:=hr
  have xM:=hr.units
  obtain⟨dl,el⟩:=lg.e
  refine⟨_,(Qa (Qm (i:=2) Y4.nd rfl (Or.inl rfl) (ZM (pv 0) T.zO T.j6 ju hr4 jO vB Qn))
   (Qa (QO (PW.pt (JZ (Q8 (Za (Qr QF rfl T.ji boot_isinstance (zy (pv 2) (zy (Ze (v:=.ty "list") rfl T.QkD boot_list rfl) Qc))))) (JP (Qu (Yo xM) (pv 2) (pv 1))))) (Qg (Qs ZW)) Qy)
   (Qa (QV (J0 plainAttrs_list jc jd Zb (pv 2) (zy QB Qc)))
   (Qg (Qs (Z5 (Uf xM) (ZM (pv 0) T.zO T.j6 ju hr4 jO vB Qn) (pv 1))))))),?_⟩
  refine⟨_,rfl,l,dl,_,rfl,el,rfl,.mk l S .non hd es ad (fun _=>0) rfl lg .non nd hz fun z G s1 nz ez=>?_⟩
  dsimp only[QJ]
  refine⟨_,rfl,_,_,_,_,_,rfl,rfl,.lst ez,QaR,_,rfl,QD ?_⟩
  refine⟨_,rfl,_,rfl,Yp ez (s1 _ _ ed) (lg.mono s1).told ⟨_,rfl,QD ?_⟩⟩
  refine⟨_,rfl,.inl ⟨rfl,_,jk.of ez⟩,z,_,_,rfl,rfl,ez,?_,?_⟩
  .rw[qd,YR];exact QN (by omega)
  have s2:Qi H (upd G z (.lst ((xn stK (xN es fun _=>0)).map Gr.r++[.str "x"]))):=fun c o e=>by rw[Qj (Qd e nz)];exact s1 _ _ e
  generalize upd G z (.lst ((xn stK (xN es fun _=>0)).map Gr.r++[.str "x"]))=G2 at s2
  refine⟨_,rfl,l,dl,_,rfl,s2 _ _ el,rfl,.mk l S .non hd es ad (fun _=>0) rfl (lg.mono s2) .non nd hz fun z2 G3 s3 nz2 ez2=>?_⟩
  have s23:=s2.trans s3
  exact⟨_,rfl,QgM ez2 (s23 _ _ ed) (lg.mono s23).told (k G3 s23)⟩
end
inductive K1(a:yE)(vs:List V)(H:Hp)(Q:VK):Prop
 | mk:∀(l S pl:Addr)(hd:Str)(es es':Sh)(fr:List Gr)(ad:Str->Addr)(ps:List Gr),vs=[.ref l,.ref pl]->u6 a H l S hd es ad->H pl=some (.lst (ps.map Gr.r))->ps.length<=63->(∀r∈ps,QY H r)->(∀h,(Ql es h).length+ps.length<=200)->es.length+ps.length<=200->wgh es (xn Uh ps)=some (es',fr) ->
    (∀S' fl ad' H',SX l H H'->H S'=none->H fl=none->(∀h,ad' h=ad h\/H (ad' h)=none)->(∀h∈yf es',ad' h≠fl)->u6 a H' l S' hd es' ad'->H' fl=some (.lst ((xn stK fr).map Gr.r))->(∀r∈fr,QY H' r)->Q (.ref fl) H')->K1 a vs H Q
def QhA(a:yE):Sp:=fun vs H Q _=>K1 a vs H Q
section
variable {P:Program}{w:World}{K:Frag}{mg:Str->Option Value}{base:Heap}{a:yE}
theorem Qgi{fd:FuncData}(F:jZ K "_law_took" "_law_took" VA a.Qit fd)(T:Txt K mg a)(FF:Zr K a):QH P w K mg base vV 14 a.Qit fd ["_law_ledger","_law_parcel_here"] (QhA a):=by
 obtain⟨fdA,FA,wY⟩:=FF.QgD
 have gh:=@Qby P w K mg base a _ FA T FF
 refine F.ok Qci (fun _ _ _ _ h=>by cases h;subst_vars;rfl) (fun cdv A outer s H vs Q E hr h=>?_)
 .obtain⟨l,S,pl,hd,es,es',fr,ad,ps,rfl,lg,e,n,g,b,c,hw,k⟩:=h
  have Qpf:Qv 13 _:=hr
  obtain⟨dl,el⟩:=lg.e
  refine⟨_,(Qg (Kd (R:=fun _ _ _ _=>False) rfl T.Qkn T.QkR rfl rfl (fun σ C H' q=>q.elim)
   (fun pn=>Qg (Qs (Gi (R:=fun _ _ _ _=>False) (pv 0) T.zO T.Qgt gh Qpf wY .nil Qeg (zy (pv 1) Qc))))
   (fun ev=>Qg (Qs Ke)))),?_⟩
  refine⟨fun σ' C H' q=>q.elim,?_⟩
  refine⟨_,rfl,l,dl,_,rfl,el,rfl,_,rfl,.mk l S pl hd es ad ps rfl lg e n g b c (fun es2 fr2 z S' fl ad' H' h1 h2 h3 h4 h5 h6 h7 h8=>?_) fun z=>by rw[hw] at z;cases z⟩
  rw[hw] at z
  cases z
  exact k S' fl ad' H' h1 h2 h3 h4 h5 h6 h7 h8
end
structure PcI(ws:List Sq)(g:Str->Nat)(i:Nat)(ps:List Gr)(k':Str->Nat):Prop where
 le:∀h,g h<=k' h/\k' h<=(uS ws h).length
 m:∀r∈ps,(uS ws r.h)[r.n - 1]?=some r/\1<=r.n/\r.n<=k' r.h
 all:∀h n,g h<n->n<=k' h->∃r∈ps,r.h=h/\r.n=n
 out:∀w∈ws.drop i,k' w.h=g w.h
 len:ps.length<=9*i
section
variable {ws:List Sq}{g k':Str->Nat}{i:Nat}{ps:List Gr}
theorem PcI.nil(h:∀x,g x<=(uS ws x).length):PcI ws g 0 [] g:=⟨fun x=>⟨qp _,h x⟩,(fun r hr=>nomatch hr),fun x n h1 h2=>by omega,fun _ _=>rfl,qP _⟩
theorem Sq.hnd(o:JA ws){j:Nat}{w:Sq}(hj:ws[j]?=some w):∀v∈ws.drop (j+1),v.h≠w.h:=fun v hv e=>by
 obtain⟨m,hm⟩:=qL.mp hv
 rw[q9] at hm
 have e1:(ws.map (·.h))[j+1+m]?=some w.h:=by rw[qJ,hm];exact zB some e
 have e2:(ws.map (·.h))[j]?=some w.h:=by rw[qJ,hj];rfl
 have hl:=(qi.mp e2).1
 have:=(List.getElem?_inj hl o.nd).mp (e2.trans e1.symm)
 omega
theorem Qae{h:Str}{rs:List Gr}(v:Val h rs){r:Gr}{n:Nat}(e:rs[n]?=some r):r.h=h/\r.n=n+1:=⟨(v n r e).1,(v n r e).2.1⟩
theorem PcI.step(o:JA ws)(p:PcI ws g i ps k'){w:Sq}(hw:ws[i]?=some w){m:Nat}{ex:List Gr}(hm:m<=8)(hx:ex.length<=1)(hex:∀r∈ex,∃j,j<g w.h/\w.rs[j]?=some r) :
 PcI ws g (i+1) (ps++(w.rs.take (g w.h+m)).drop (g w.h)++ex) (fun h=>if h=w.h then min (g h+m) w.rs.length else k' h):=by
 have hmem:w∈ws:=qG hw
 have u:=Ur o.nd w hmem
 have v:=o.v w hmem
 have gl:=(p.le w.h)
 rw[u] at gl
 have kw:k' w.h=g w.h:=p.out w (by
  have:=j7 (qi.mp hw).1
  rw[this,(qi.mp hw).2]
  exact qI ..)
 refine⟨fun h=>?_,fun r hr=>?_,fun h n h1 h2=>?_,fun v hv=>?_,?_⟩
 .skip
  by_cases e:h=w.h
  .rw[qj e,e,u];omega
  .rw[ql e];exact p.le h
 .skip
  rcases qF.mp hr with hr | hr
  .rcases qF.mp hr with hr | hr
   .obtain⟨a,b,c⟩:=p.m r hr
    refine⟨a,b,?_⟩
    by_cases e:r.h=w.h
    .rw[qj e,e];rw[e,kw] at c;omega
    .rw[ql e];exact c
   .obtain⟨j,hj⟩:=qL.mp hr
    rw[q9,za] at hj
    by_cases q:g w.h+j<g w.h+m
    .rw[qj q] at hj
     obtain⟨a,b⟩:=Qae v hj
     have hl:=(qi.mp hj).1
     rw[a,u,b,qj rfl]
     exact⟨by rw[show g w.h+j+1 - 1=g w.h+j by omega];exact hj,by omega,by omega⟩
    .rw[ql q] at hj;cases hj
  .obtain⟨j,hj,e⟩:=hex r hr
   obtain⟨a,b⟩:=Qae v e
   have hl:=(qi.mp e).1
   rw[a,u,b,qj rfl]
   exact⟨by rw[show j+1 - 1=j by omega];exact e,by omega,by omega⟩
 .skip
  by_cases e:h=w.h
  .rw[qj e] at h2
   subst e
   obtain⟨r,hr⟩:∃r,w.rs[n - 1]?=some r:=⟨_,qe (by omega)⟩
   obtain⟨a,b⟩:=Qae v hr
   refine⟨r,zA _ (qO _ (qL.mpr ⟨n - 1 - g w.h,?_⟩)),a,by omega⟩
   rw[q9,za,qj (by omega),show g w.h+(n - 1 - g w.h)=n - 1 by omega]
   exact hr
  .rw[ql e] at h2
   obtain⟨r,a,b⟩:=p.all h n h1 h2
   exact⟨r,zA _ (zA _ a),b⟩
 .skip
  rw[ql (Sq.hnd o hw v hv)]
  refine p.out v ?_
  have:=j7 (qi.mp hw).1
  rw[this]
  exact qu _ hv
 .have:=p.len
  rw[qy,qy,jh,qK]
  omega
theorem PcI.mem{ps':List Gr}(p:PcI ws g i ps k')(h:∀r,r∈ps'↔r∈ps):(∀r∈ps',(uS ws r.h)[r.n - 1]?=some r/\1<=r.n/\r.n<=k' r.h)/\∀h n,g h<n->n<=k' h->∃r∈ps',r.h=h/\r.n=n :=
 ⟨fun r hr=>p.m r ((h r).mp hr),fun x n h1 h2=>let ⟨r,a,b⟩:=p.all x n h1 h2;⟨r,(h r).mpr a,b⟩⟩
end
theorem ZU.lt{H H':Hp}{sl:Addr}{ws:List Sq}{X:List Addr}(x:ZU H sl ws)(k:LT X H H')(n:sl∉X)(m:∀w∈ws,w.a∉X):ZU H' sl ws:=⟨k.l _ _ n x.e,fun w hw=>k.l _ _ (m w hw) (x.l w hw),fun w hw r hr=>(x.g w hw r hr).lt k⟩
theorem YL.sx{H H':Hp}{st p:Addr}{had:Str->Nat}(x:YL H p had)(s:SX st H H')(h:∃ys,H st=some (.lst ys)):YL H' p had:=by
 obtain⟨na,e,v⟩:=x
 obtain⟨ys,q⟩:=h
 refine⟨na,?_,v⟩
 rcases e with e | ⟨o,e⟩
 .exact .inl (s _ _ (fun z=>by rw[z,q] at e;cases e) e)
 .exact .inr ⟨o,s _ _ (fun z=>by rw[z,q] at e;cases e) e⟩
theorem Us{st z:Addr}{H G:Hp}(x:SX st H G)(h:∃ys,G st=some (.lst ys))(n:G z=none):H z=none:=by
 cases e:H z with
 | none=>rfl
 | some o =>
   by_cases q:z=st
   .obtain⟨ys,h⟩:=h;rw[q,h] at n;cases n
   .rw[x _ _ q e] at n;cases n
inductive K2(K:Frag)(vs:List V)(H:Hp)(Q:VK):Prop
 | mk:∀(st sc sl gp:Addr)(ls:List Int)(ws:List Sq)(g:Str->Nat),vs=[.ref st,.ref sl,.ref gp]->yS K H st sc ls->ls.length<=63->JA ws->ZU H sl ws->sl≠st->(∀w∈ws,w.a≠st)->YL H gp g->(∀h,g h<=(uS ws h).length) ->
    (∀(l:Addr)(ps:List Gr)(k':Str->Nat) H',H l=none->SX st H H'->yS K H' st sc ls->H' l=some (.lst (ps.map Gr.r))->ps.length<=37->(∀h,g h<=k' h/\k' h<=(uS ws h).length)->(∀r∈ps,(uS ws r.h)[r.n - 1]?=some r/\1<=r.n/\r.n<=k' r.h)->(∀h n,g h<n->n<=k' h->∃r∈ps,r.h=h/\r.n=n)->Q (.ref l) H')->K2 K vs H Q
def QhC(K:Frag):Sp:=fun vs H Q _=>K2 K vs H Q
section
variable {P:Program}{w:World}{K:Frag}{mg:Str->Option Value}{base:Heap}{a:yE}
theorem Qgj{fd:FuncData}(F:jZ K "_law_parcel" "_law_parcel" YU a.ud fd)(T:Txt K mg a)(FF:Zr K a):QH P w K mg base vV 3 a.ud fd ["_law_state","_law_streams","_law_got"] (QhC K):=by
 obtain⟨fdN,qY,zF⟩:=FF.qY
 have zG:=@Jm P w K mg base a _ qY T
 obtain⟨fdS,yh,uf⟩:=FF.yh
 have uh:=@Gm P w K mg base a _ yh T FF
 refine F.ok Zp (fun _ _ _ _ h=>by cases h;subst_vars;rfl) (fun cdv A outer s H vs Q E hr h=>?_)
 .obtain⟨st,sc,sl,gp,ls,ws,g,rfl,sa,hl,o,x,n1,n2,dg,gl,k⟩:=h
  have hr1:Qv 1 _:=hr.mono (by decide)
  have hr2:Qv 2 _:=hr
  have hu:=UQ hr
  have xM:=hr.units
  refine⟨_,(Qa (Qm (i:=3) Zp.nd rfl (Or.inl rfl) (QR Qo))
   (Qa (ZZ jF rfl (Zm (pv 1)) (Zd (i:=4) Zp.nd rfl (Or.inl rfl))
     (Qa (Qm (i:=5) Zp.nd rfl (Or.inl rfl) (Qp (Zs K) (Qp (Jy K) (pv 4) Qb) Qb))
     (Qa (Qm (i:=6) Zp.nd rfl (Or.inl rfl) (ZN hu (pv 2) (pv 5) Qb ⟨rfl,rfl,rfl,rfl⟩))
     (Qa (Qm (i:=7) Zp.nd rfl (Or.inl rfl) (Qt QM (Qk zG hr1 rfl T.je qY.kp zF .nil Qn (zy (pv 0) Qc)) (Qp (Jy K) (QR (Qe Qb (Qe Qb (Qe Qb (Qe Qb Qo))))) (Qt QM (Qk zG hr1 rfl T.je qY.kp zF .nil Qn (zy (pv 0) Qc)) Qb))))
     (Qa (Qm (i:=3) Zp.nd rfl (Or.inl rfl) (Qt VG (pv 3) (ZL JY (pv 4) (ZK (pv 6)) (ZK (Qt QQ (pv 6) (pv 7))))))
     (Qg (QO (PW.pt (Yh (Qu XD (pv 6) Qb) (Jl (Qu JJ (Qt QM (Qk zG hr1 rfl T.je qY.kp zF .nil Qn (zy (pv 0) Qc)) Qb) Qb)))) (Qg (QV (J0 plainAttrs_list jc jd Zb (pv 3) (zy (Qp (Jy K) (pv 4) (Qt QM (Qk zG hr1 rfl T.je qY.kp zF .nil Qn (zy (pv 0) Qc)) (pv 6))) Qc)))) Qy)))))))
   (Qa (QO (PW.pt (Yh (Qu (Yo xM) (pv 3) (QR Qo)) (Jl (Qu JJ (Qt QM (Qk zG hr1 rfl T.je qY.kp zF .nil Qn (zy (pv 0) Qc)) Qb) Qb)))) (Qg (QV (J0 plainAttrs_list jc jd Zb (pv 3) (zy (Qp (Jy K) (pv 3) (Qt QM (Qk zG hr1 rfl T.je qY.kp zF .nil Qn (zy (pv 0) Qc)) (Qr QA rfl T.xg zE (zy (pv 3) Qc)))) Qc)))) Qy)
   (Qg (Qs (Qk uh hr2 rfl T.Qio yh.kp uf .nil Qn (zy (pv 0) (zy (pv 3) Qc)))))))),?_⟩
  refine⟨qP _,fun pl H1 npl s1 epl=>?_⟩
  dsimp only[QJ]
  have Qhi:∃ys,H st=some (.lst ys):=sa.lst
  refine⟨_,rfl,sl,rfl,⟨_,jk.of (s1 _ _ x.e)⟩,Ja (K:=K) (xs:=ws.map fun w=>V.ref w.a) (fun i σ G=>∃(z:Addr)(ps:List Gr)(k':Str->Nat)(o4 o5 o6 o7:Option V),σ=[some (.ref st),some (.ref sl),some (.ref gp),some (.ref z),o4,o5,o6,o7]/\SX st H G/\yS K G st sc ls/\H z=none/\G z=some (.lst (ps.map Gr.r))/\PcI ws g i ps k') ⟨pl,[],g,none,none,none,none,rfl,SX.of s1,sa.of s1,npl,epl,PcI.nil gl⟩ ?_ ?_ ?_⟩
  .rintro i σ G _ ⟨z,ps,k',o4,o5,o6,o7,rfl,sG,_⟩
   exact jk.of (sG _ _ n1 x.e)
  .rintro i v σ G hv ⟨z,ps,k',o4,o5,o6,o7,rfl,sG,saG,nz,ez,pc⟩
   obtain⟨wi,hwi,rfl⟩:∃w,ws[i]?=some w/\v=.ref w.a:=by
    rw[qJ] at hv
    cases e:ws[i]? with
    | none=>rw[e] at hv;cases hv
    | some w=>rw[e] at hv;cases hv;exact⟨w,rfl,rfl⟩
   have hm:wi∈ws:=qG hwi
   have xG:ZU G sl ws:=x.lt (LT.sx sG Qhi) (by simpa using n1) (fun w hw=>by simpa using n2 w hw)
   have ea:=xG.l wi hm
   obtain⟨r0,hr0⟩:∃r,wi.rs[0]?=some r:=⟨_,qe (o.lo wi hm)⟩
   have h0:r0.h=wi.h:=(o.v wi hm).h (qG hr0)
   have er0:=(xG.g wi hm r0 (qG hr0)).e
   rw[h0] at er0
   obtain⟨nb,eg,vg⟩:=dg.sx sG Qhi
   have zst:z≠st:=fun q=>by obtain⟨_,e⟩:=Qhi;rw[q,e] at nz;cases nz
   have was:=n2 wi hm
   refine⟨_,rfl,wi.a,_,_,_,rfl,rfl,jk.of ea,Zt (j:=0) (by rw[qJ,hr0];rfl),r0.x,_,_,_,rfl,rfl,yu.of er0,at1,?_⟩
   refine⟨_,rfl,gp,rfl,.inl ⟨_,eg⟩,_,rfl,Q7 (nK nb) (inr wi.h),.inl ⟨_,inr wi.h,eg,rfl,rfl⟩,?_⟩
   rw[vg]
   dsimp only[QJ]
   refine⟨_,rfl,st,sc,ls,rfl,saG,hl,fun r1 G1 r10 r11 x1 uD=>⟨XW,fun m4 G2 nm4 t2 em4=>⟨_,rfl,st,sc,ls,rfl,uD.of t2,hl,fun r2 G3 r20 r21 x3 sa3=>⟨_,_,rfl,rfl,Qnu,?_⟩⟩⟩⟩
   have m4st:m4≠st:=fun q=>by obtain⟨_,e⟩:=uD.lst;rw[q,e] at nm4;cases nm4
   have em3:=x3 _ _ m4st em4
   obtain⟨d,hd,hd1,hd2⟩:∃d:Int,atI [V.int 4,V.int 4,V.int 4,V.int 9] (r2 % 4)=some (.int d)/\0<d/\d<=9:=by
    have q0:=zP r2 (b:=4) (by omega)
    have q1:=zN r2 (b:=4) (by omega)
    generalize r2 % 4=q at q0 q1
    have:q=0\/q=1\/q=2\/q=3:=by omega
    rcases this with rfl | rfl | rfl | rfl
    .exact⟨4,rfl,by omega,by omega⟩
    .exact⟨4,rfl,by omega,by omega⟩
    .exact⟨4,rfl,by omega,by omega⟩
    .exact⟨9,rfl,by omega,by omega⟩
   refine⟨m4,_,_,_,rfl,rfl,jk.of em3,hd,_,_,rfl,rfl,hd1,?_⟩
   have q0:=zP r1 (b:=d) (by omega)
   have q1:=zN r1 hd1
   generalize r1 % d=mm at q0 q1
   obtain⟨m,rfl⟩:=jx q0
   have hm8:m<=8:=by omega
   have x03:SX st G G3:=(x1.trans (SX.of t2)).trans x3
   have ez3:=x03 _ _ zst ez
   have ea3:=x03 _ _ was ea
   refine⟨_,rfl,_,rfl,_,rfl,_,rfl,_,rfl,_,rfl,_,_,rfl,rfl,_,rfl,wi.a,_,rfl,jk.of ea3,fun nl G4 nnl t4 enl=>?_⟩
   rw[show((g wi.h:Nat):Int)+(m:Int)=((g wi.h+m:Nat):Int) from(Int.natCast_add ..).symm,Qhe] at enl
   have pl:=pc.len
   have il:i<ws.length:=(qi.mp hwi).1
   have wn:=o.n
   have dl:((wi.rs.take (g wi.h+m)).drop (g wi.h)).length<=8:=by rw[jh,qK];omega
   refine⟨z,nl,_,_,rfl,rfl,t4 _ _ ez3,enl,(by rw[qd,qd];exact Q2 ((by omega))),fun z2 G5 nz2 t5 ez5=>?_⟩
   rw[<-zc] at ez5
   have xH4:SX st H G4:=(sG.trans x03).trans (SX.of t4)
   have sa5:=(sa3.of t4).of t5
   have QmK:H z2=none:=Us xH4 (sa3.of t4).lst nz2
   have xH5:SX st H G5:=xH4.trans (SX.of t5)
   have Qnx:z2≠st:=fun q=>by obtain⟨_,e⟩:=Qhi;rw[q,e] at QmK;cases QmK
   have ea5:=t5 _ _ (t4 _ _ ea3)
   have done:∀G',SX st H G'->yS K G' st sc ls->∀ex:List Gr,ex.length<=1->(∀r∈ex,∃j,j<g wi.h/\wi.rs[j]?=some r)->G' z2=some (.lst ((ps++(wi.rs.take (g wi.h+m)).drop (g wi.h)++ex).map Gr.r))->∃(z:Addr)(ps:List Gr)(k':Str->Nat)(p4 p5 p6 p7:Option V),([some (.ref st),some (.ref sl),some (.ref gp),some (.ref z2),some (.ref wi.a),some (.str wi.h),some (.int ((g wi.h:Nat):Int)),some (.int (m:Int))]:St)=[some (.ref st),some (.ref sl),some (.ref gp),some (.ref z),p4,p5,p6,p7]/\SX st H G'/\yS K G' st sc ls/\H z=none/\G' z=some (.lst (ps.map Gr.r))/\PcI ws g (i+1) ps k':=fun G' c1 c2 ex c3 c4 c5 =>
    ⟨z2,_,_,_,_,_,_,rfl,c1,c2,QmK,c5,pc.step o hwi hm8 c3 c4⟩
   refine⟨_,rfl,_,_,rfl,rfl,_,rfl,?_⟩
   by_cases hg:0<g wi.h
   .rw[show decide (((g wi.h:Nat):Int) > 0)=true from qt (by omega)]
    refine QE ⟨_,rfl,st,sc,ls,rfl,sa5,hl,fun r5 G6 r50 r51 x6 sa6=>⟨_,_,rfl,rfl,Qnv,rfl,_,rfl,GJ (fun _=>?_) (fun _=>done _ (xH5.trans x6) sa6 [] (by simp) (fun r hr=>nomatch hr) (by rw[j5];exact x6 _ _ Qnx ez5))⟩⟩
    have ez6:=x6 _ _ Qnx ez5
    refine⟨_,rfl,.inl ⟨rfl,_,jk.of ez6⟩,_,rfl,_,rfl,st,sc,ls,rfl,sa6,hl,fun r7 G7 r70 r71 x7 sa7=>⟨_,rfl,_,_,rfl,rfl,(by omega),?_⟩⟩
    have ez7:=x7 _ _ Qnx ez6
    have ea7:=x7 _ _ was (x6 _ _ was ea5)
    have y0:=zP r7 (b:=((g wi.h:Nat):Int)) (by omega)
    have y1:=zN r7 (b:=((g wi.h:Nat):Int)) (by omega)
    generalize r7 % ((g wi.h:Nat):Int)=yy at y0 y1
    obtain⟨j,rfl⟩:=jx y0
    have gw:g wi.h<=wi.rs.length:=by have:=gl wi.h;rwa[Ur o.nd wi hm] at this
    obtain⟨rj,hrj⟩:∃r,wi.rs[j]?=some r:=⟨_,qe (by omega)⟩
    refine⟨wi.a,_,_,_,rfl,rfl,jk.of ea7,Zt (by rw[qJ,hrj];rfl),z2,_,_,rfl,rfl,ez7,(by rw[qd,qy];exact QN (by omega)),?_⟩
    refine done _ (fun c o n e=>by rw[Qj (Qd e QmK)];exact(xH5.trans (x6.trans x7)) c o n e) (sa7.put sa.sq QmK Qnx) [rj] (by simp) (fun r hr=>?_) (by rw[Qf];simp only[zc];rfl)
    rw[qg.mp hr]
    exact⟨j,by omega,hrj⟩
   .rw[show decide (((g wi.h:Nat):Int) > 0)=false from qz (by omega)]
    exact QD (done _ xH5 sa5 [] (by simp) (fun r hr=>nomatch hr) (by rw[j5];exact ez5))
  .rintro σ G ⟨z,ps,k',o4,o5,o6,o7,rfl,sG,saG,nz,ez,pc⟩
   rw[qd] at pc
   have pl:=pc.len
   have wn:=o.n
   have xG:ZU G sl ws:=x.lt (LT.sx sG Qhi) (by simpa using n1) (fun w hw=>by simpa using n2 w hw)
   have zst:z≠st:=fun q=>by obtain⟨_,e⟩:=Qhi;rw[q,e] at nz;cases nz
   have gr:∀r∈ps,QY G r:=fun r hr=>by
    have e:=(pc.m r hr).1
    rcases VR ws r.h with⟨w,hw,q⟩ | q
    .rw[<-q,Ur o.nd w hw] at e
     exact xG.g w hw r (qG e)
    .rw[q] at e;cases e
   have fin:∀G',SX st H G'->yS K G' st sc ls->∀ps':List Gr,ps'.length<=37->(∀r,r∈ps'↔r∈ps)->G' z=some (.lst (ps'.map Gr.r))->∀o4 o5 o6 o7:Option V,tRet (QgW (Qbf K) [] E0 (VX (Qam 0) (VX (Qam 3) Qdx))) { nx:=fun x H'=>Q V.non H',rt:=Q } [some (.ref st),some (.ref sl),some (.ref gp),some (.ref z),o4,o5,o6,o7] G':=by
    intro G' c1 c2 ps' c3 c4 c5 o4 o5 o6 o7
    refine⟨_,rfl,_,rfl,st,sc,z,ls,_,rfl,c2,hl,zst,c5,(by rw[qd];omega),fun l ys H2 nl pm x2 sa2 e2=>?_⟩
    obtain⟨zs,pz,rfl⟩:=U5 pm
    obtain⟨p1,p2⟩:=pc.mem (ps':=zs) fun r=>(pz.mem_iff).trans (c4 r)
    exact k l zs k' H2 (Us c1 c2.lst nl) (c1.trans x2) sa2 e2 (by rw[pz.length_eq];exact c3) pc.le p1 p2
   refine⟨_,rfl,qP _,fun e0 G1 ne0 t1 ee0=>?_⟩
   have ez1:=t1 _ _ ez
   have uD:=saG.of t1
   have xH1:SX st H G1:=sG.trans (SX.of t1)
   cases ps with
   | nil=>exact Yp (L:=[]) ez1 ee0 (fun r hr=>nomatch hr) ⟨_,rfl,QD (fin G1 xH1 uD [] (by simp) (fun _=>Iff.rfl) ez1 _ _ _ _)⟩
   | cons p0 pt =>
     obtain⟨a1,a2,a3⟩:=UK (K:=K) fun r hr=>(gr r hr).mono t1
     refine⟨_,_,.lst (jk.of ez1) a1,.lst (jk.of ee0) .nil,UH a2 a3,rfl,?_⟩
     refine⟨true,rfl,QE ?_⟩
     refine⟨_,rfl,st,sc,ls,rfl,uD,hl,fun r5 G6 r50 r51 x6 sa6=>⟨_,_,rfl,rfl,Qnv,rfl,_,rfl,GJ (fun _=>?_) (fun _=>fin G6 (xH1.trans x6) sa6 (p0 :: pt) (by omega) (fun _=>Iff.rfl) (x6 _ _ zst ez1) _ _ _ _)⟩⟩
     have ez6:=x6 _ _ zst ez1
     refine⟨_,rfl,.inl ⟨rfl,_,jk.of ez6⟩,_,rfl,_,rfl,st,sc,ls,rfl,sa6,hl,fun r7 G7 r70 r71 x7 sa7=>?_⟩
     have ez7:=x7 _ _ zst ez6
     have lp:0<((((p0 :: pt).map Gr.r).length:Nat):Int):=by rw[qd,zm];omega
     refine⟨_,rfl,z,_,rfl,.inl (jk.of ez7),_,_,rfl,rfl,lp,?_⟩
     have y0:=zP r7 (b:=((((p0 :: pt).map Gr.r).length:Nat):Int)) (by omega)
     have y1:=zN r7 lp
     generalize r7 % ((((p0 :: pt).map Gr.r).length:Nat):Int)=yy at y0 y1
     obtain⟨j,rfl⟩:=jx y0
     rw[qd] at y1
     obtain⟨rj,hrj⟩:∃r,(p0 :: pt)[j]?=some r:=⟨_,qe (by omega)⟩
     refine⟨z,_,_,_,rfl,rfl,jk.of ez7,Zt (by rw[qJ,hrj];rfl),z,_,_,rfl,rfl,ez7,(by rw[qd];exact QN (by omega)),?_⟩
     refine fin _ (fun c o n e=>by rw[Qj (Qd e nz)];exact(xH1.trans (x6.trans x7)) c o n e) (sa7.put sa.sq nz zst) ((p0 :: pt)++[rj]) (by rw[qy,zV];omega) (fun r=>?_) (by rw[Qf,zc];rfl) _ _ _ _
     rw[qF,qg]
     exact⟨fun h=>h.elim id fun e=>e▸qG hrj,.inl⟩
end
section
variable {ws:List Sq}{es:Sh}{g had:Str->Nat}
theorem W9(u:InU (uS ws) es g)(had:Str->Nat)(r:Gr):r∈xN es had↔∃h m,had h<=m/\m<g h/\(uS ws h)[m]?=some r:=by
 unfold xN
 rw[vO]
 constructor
 .rintro⟨h,_,hr⟩
  obtain⟨m,e⟩:=qL.mp hr
  rw[q9,u.e] at e
  have hm:had h+m<g h:=by have:=(qi.mp e).1;rw[qK] at this;omega
  rw[za,qj hm] at e
  exact⟨h,had h+m,by omega,hm,e⟩
 .rintro⟨h,m,h1,hm,e⟩
  have e':(Ql es h)[m]?=some r:=by rw[u.e,za,qj hm];exact e
  refine⟨h,j8 fun z=>?_,qL.mpr ⟨m - had h,by rw[q9,show had h+(m - had h)=m by omega];exact e'⟩⟩
  rw[Ys z] at e'
  cases e'
theorem QgQ(o:JA ws)(g had:Str->Nat)(r:Gr):r∈UT ws g had↔∃h m,had h<=m/\m<g h/\(uS ws h)[m]?=some r:=by
 unfold UT
 rw[vO]
 constructor
 .rintro⟨w,hw,hr⟩
  obtain⟨m,e⟩:=qL.mp hr
  rw[q9] at e
  have hm:had w.h+m<g w.h:=by have:=(qi.mp e).1;rw[qK] at this;omega
  rw[za,qj hm] at e
  exact⟨w.h,had w.h+m,by omega,hm,by rw[Ur o.nd w hw];exact e⟩
 .rintro⟨h,m,h1,hm,e⟩
  rcases VR ws h with⟨w,hw,rfl⟩ | z
  .rw[Ur o.nd w hw] at e
   refine⟨w,hw,qL.mpr ⟨m - had w.h,?_⟩⟩
   rw[q9,show had w.h+(m - had w.h)=m by omega,za,qj hm]
   exact e
  .rw[z] at e;cases e
theorem Qdq(o:JA ws)(u:InU (uS ws) es g)(nd:(yf es).Nodup)(had:Str->Nat):(xN es had).Nodup:=by
 unfold xN
 refine Qke.mpr ⟨fun h _=>?_,nd.imp fun{a b} hab x hx y hy e=>?_⟩
 .rw[u.e];exact(o.val h).nodup.sublist ((jV _ _).trans (jl _ _))
 .rw[u.e] at hx hy
  have a1:=(o.val a).h (zR (jb hx))
  have a2:=(o.val b).h (zR (jb hy))
  rw[e] at a1
  exact hab (a1.symm.trans a2)
theorem VT(o:JA ws)(u:InU (uS ws) es g)(nd:(yf es).Nodup)(had:Str->Nat):(xN es had).Perm (UT ws g had):=by
 refine(yz (Qdq o u nd had) ?_).mpr fun r=>(W9 u had r).trans (QgQ o g had r).symm
 have:=XZ o (f:=fun w=>(w.rs.take (g w.h)).drop (had w.h)) fun w _=>US w g had
 exact(jX.mp this).imp fun h e=>h (zB _ e)
theorem YN(o:JA ws)(u:InU (uS ws) es g)(nd:(yf es).Nodup)(had:Str->Nat):((xN es had).map stK).Nodup :=
 ((VT o u nd had).map stK).nodup_iff.mpr (XZ o fun w _=>US w g had)
theorem ZX(o:JA ws)(u:InU (uS ws) es g)(nd:(yf es).Nodup)(had:Str->Nat):(xN es had).length<=144:=by
 rw[(VT o u nd had).length_eq];exact KI o g had
theorem KP(o:JA ws)(u:InU (uS ws) es g)(nd:(yf es).Nodup)(had:Str->Nat):xn stK (xN es had)=xn stK (UT ws g had) :=
 KZ o.val (VT o u nd had) fun r hr=>by
  obtain⟨h,m,_,_,e⟩:=(W9 u had r).mp hr
  rw[(Qn9 o.val e).1]
  exact qG e
structure GotI(es:Sh)(g:Str->Nat)(nb:List (Key×Int)):Prop where
 nd:(nb.map (·.1)).Nodup
 v:∀h,(Q7 (nK nb) (inr h)).getD (.int 0)=.int ((g h:Nat):Int)
 hit:((hvG es).length == nb.length && Vb nb (hvG es))=true
theorem Qe0{na:List (Key×Int)}(nd:(na.map (·.1)).Nodup):(na.length == na.length && Vb na na)=true:=by
 rw[yX,jm]
 exact Kt fun k n h=>XX nd h
theorem Qdk:∀{na:List (Key×Int)},(∀p∈na,0<=p.2)->∀k,∃n:Nat,(Q7 (nK na) k).getD (.int 0)=.int ((n:Nat):Int)
 | [],_,k=>⟨0,rfl⟩
 | (k',n') :: r,h,k=>by
   show ∃n:Nat,(Q7 ((k',V.int n') :: nK r) k).getD (.int 0)=_
   by_cases e:k'=k
   .obtain⟨n,hn⟩:=jx (h (k',n') (qI ..))
    exact⟨n,by rw[JX e];show V.int n'=_;rw[show n'=(n:Int) from hn]⟩
   .rw[Jr e]
    exact Qdk (fun p hp=>h p (qu _ hp)) k
theorem Qih{H:Hp}{p:Addr}{na:List (Key×Int)}(e:Rd H p (.dK (nK na)))(h:∀p∈na,0<=p.2):∃had:Str->Nat,(∀h,(Q7 (nK na) (inr h)).getD (.int 0)=.int ((had h:Nat):Int))/\YL H p had:=by
 obtain⟨f,hf⟩:=Classical.axiomOfChoice fun y:Str=>Qdk h (inr y)
 exact⟨f,hf,na,e,hf⟩
end
inductive Qbj(K:Frag)(a:yE)(vs:List V)(H:Hp)(Q:VK):Prop
 | mk:∀(st sc l S sl gp:Addr)(ls:List Int)(hd:Str)(es:Sh)(ad:Str->Addr)(ws:List Sq)(g:Str->Nat)(nb:List (Key×Int)),vs=[.ref st,.ref l,.ref sl,.ref gp]->yS K H st sc ls->ls.length<=63->u6 a H l S hd es ad->(∀h,ad h≠st)->JA ws->ZU H sl ws->sl≠st->(∀w∈ws,w.a≠st)->Rd H gp (.dK (nK nb))->GotI es g nb->InU (uS ws) es g ->
    (∀H',SX st H H'->yS K H' st sc ls->Q (.bl true) H')->Qbj K a vs H Q
def spAsk(K:Frag)(a:yE):Sp:=fun vs H Q _=>Qbj K a vs H Q
theorem QgY{H H':Hp}{st p:Addr}{kv:List (Key×V)}(e:Rd H p (.dK kv))(s:SX st H H')(h:∃ys,H st=some (.lst ys)):Rd H' p (.dK kv):=by
 obtain⟨ys,q⟩:=h
 rcases e with e | ⟨o,e⟩
 .exact .inl (s _ _ (fun z=>by rw[z,q] at e;cases e) e)
 .exact .inr ⟨o,s _ _ (fun z=>by rw[z,q] at e;cases e) e⟩
section
variable {P:Program}{w:World}{K:Frag}{mg:Str->Option Value}{base:Heap}{a:yE}
theorem QhY{fd:FuncData}(F:jZ K "_law_asked" "_law_asked" UC a.uX fd)(T:Txt K mg a)(FF:Zr K a):QH P w K mg base vV 6 a.uX fd ["_law_state","_law_ledger","_law_streams","_law_got"] (spAsk K a):=by
 obtain⟨fdN,qY,zF⟩:=FF.qY
 have zG:=@Jm P w K mg base a _ qY T
 obtain⟨fdS,yh,uf⟩:=FF.yh
 have uh:=@Gm P w K mg base a _ yh T FF
 obtain⟨fdH,Qi7,Qn7⟩:=FF.Qi7
 have Qoc:=@QhX P w K mg base a _ Qi7 T FF
 obtain⟨fdT,wu,QkE⟩:=FF.wu
 have QkK:=@Qev P w K mg base a _ wu T FF
 obtain⟨fdA,vG,Qiy⟩:=FF.vG
 have QiA:=@Qex P w K mg base a _ vG T FF
 obtain⟨fdB,FB,Qi6,dsB,vB,jO⟩:=FF.vJ
 have ju:=@UM P w K mg base a _ FB T FF
 refine F.ok Js (fun _ _ _ _ h=>by cases h;subst_vars;rfl) (fun cdv A outer s H vs Q E hr h=>?_)
 .obtain⟨st,sc,l,S,sl,gp,ls,hd,es,ad,ws,g,nb,rfl,sa,hl,lg,nad,o,x,n1,n2,eg,gi,u,kq⟩:=h
  have hr1:Qv 1 _:=hr.mono (by decide)
  have hr2:Qv 2 _:=hr.mono (by decide)
  have hr4:Qv 4 _:=hr.mono (by decide)
  have hr5:Qv 5 _:=hr
  have hu:=UQ hr
  have xM:=hr.units
  refine⟨_,(Qa (ZZ jF rfl (Zm (Qk uh hr2 rfl T.Qio yh.kp uf .nil Qn (zy (pv 0) (zy (QR (Qe Qb (Qe Qb (Qe Qb (Qe Qb Qo))))) Qc)))) (Zd (i:=4) Js.nd rfl (Or.inl rfl)) (Qa (QO (PW.pt (Yh (Qu JJ (pv 4) Qb) (Jl (Q8 (Za (Qk Qoc hr2 rfl T.QnK Qi7.kp Qn7 .nil Qn (zy (pv 1) (zy (pv 3) Qc)))))))) (Qg (Qs ZW)) Qy)
   (Qa (QO (PW.pt (Yh (Qu JJ (pv 4) Qb) (Jl (Q8 (Za (Qk QkK hr5 rfl T.Qko wu.kp QkE .nil Qn (zy (pv 1) (zy (Qk QiA hr4 rfl T.Qi3 vG.kp Qiy .nil Qn (zy (pv 2) (zy (pv 3) (zy Z8 Qc)))) Qc)))))))) (Qg (Qs ZW)) Qy)
   (Qa (QO (PW.pt (Yh (Qu JJ (pv 4) Qb) (Jl (Qu (Yo xM) (Ym (pv 1) T.zO T.j6 ju hr4 Qi6 .nil Qn (zy Ke Qc)) (Qk QiA hr4 rfl T.Qi3 vG.kp Qiy .nil Qn (zy (pv 2) (zy (pv 3) (zy Z8 Qc)))))))) (Qg (Qs ZW)) Qy)
   (Qa (Qm (i:=5) Js.nd rfl (Or.inl rfl) Z8)
   (Qa (ZZ jF rfl (Zm (pv 2)) (Zd (i:=6) Js.nd rfl (Or.inl rfl)) (Qg (QO (Qu XD (Qt QM (Qk zG hr1 rfl T.je qY.kp zF .nil Qn (zy (pv 0) Qc)) Qb) Qb) (Qg (UL hu (pv 5) (Qp (Zs K) (Qp (Jy K) (pv 6) Qb) Qb) (Qt QM (Qk zG hr1 rfl T.je qY.kp zF .nil Qn (zy (pv 0) Qc)) Qb) rfl)) Qy)))
   (Qa (Qm (i:=7) Js.nd rfl (Or.inl rfl) (ZG Up rfl T.QkG boot_dict (zy (pv 5) Qc)))
   (Qa (QO (PW.pt (Yh (Qu JJ (pv 4) Qb) (Jl (Qu (Yo xM) (Ym (pv 1) T.zO T.j6 ju hr4 Qi6 .nil Qn (zy (pv 7) Qc)) (Qk QiA hr4 rfl T.Qi3 vG.kp Qiy .nil Qn (zy (pv 2) (zy (pv 3) (zy (pv 5) Qc)))))))) (Qg (Qs ZW)) Qy)
   (Qg (QO (Qu (QaE xM) (pv 7) (pv 5)) (Qg (Qs ZW)) Qy))))))))))
   (Qg (Qs ZW))),?_⟩
  refine⟨_,rfl,XW,fun r4 H1 nr4 s1 er4=>?_⟩
  have uD:=sa.of s1
  refine⟨st,sc,r4,ls,_,rfl,uD,hl,sa.nst nr4,er4,(by show 4<=100;decide),fun yl ys H2 nyl pm x2 sa2 eyl=>?_⟩
  obtain⟨zs,pz,rfl⟩:=U5 (f:=V.int) (xs:=[0,1,2,3]) pm
  have y0:SX st H H2:=(SX.of s1).trans x2
  have Qhi:=sa.lst
  have ylst:yl≠st:=uD.nst nyl
  have Qo9:=sa2.lst
  have lg2:u6 a H2 l S hd es ad:=lg.sx y0 Qhi nad
  have xx2:ZU H2 sl ws:=x.lt (LT.sx y0 Qhi) (by simpa using n1) (fun w hw=>by simpa using n2 w hw)
  have eg2:=QgY eg y0 Qhi
  have nd:=lg.sh.nd
  have esl:es.length<=144:=zf (X4 lg.sh) (ZX o u nd _)
  have hsd:∀had,xn stK (xN es had)=xn stK (UT ws g had):=KP o u nd
  refine⟨yl,rfl,⟨_,jk.of eyl⟩,Ja (K:=K) (xs:=zs.map V.int) (fun i σ G=>∃(o4 o5 o6 o7:Option V),σ=[some (.ref st),some (.ref l),some (.ref sl),some (.ref gp),o4,o5,o6,o7]/\SX st H2 G/\yS K G st sc ls) ⟨none,none,none,none,rfl,fun _ _ _ e=>e,sa2⟩ ?_ ?_ ?_⟩
  .rintro i σ G _ ⟨o4,o5,o6,o7,rfl,sG,_⟩
   exact jk.of (sG _ _ ylst eyl)
  .rintro i v σ G hv ⟨o4,o5,o6,o7,rfl,sG,saG⟩
   obtain⟨wy,hwy,rfl⟩:∃wy:Int,zs[i]?=some wy/\v=.int wy:=by
    rw[qJ] at hv
    cases e:zs[i]? with
    | none=>rw[e] at hv;cases hv
    | some w=>rw[e] at hv;cases hv;exact⟨w,rfl,rfl⟩
   have vw:∀{G},SX st H2 G->u6 a G l S hd es ad/\ZU G sl ws/\Rd G gp (.dK (nK nb)):=fun s=>⟨lg2.sx s Qo9 nad,xx2.lt (LT.sx s Qo9) (by simpa using n1) (fun w hw=>by simpa using n2 w hw),QgY eg2 s Qo9⟩
   have dg:∀{G},SX st H2 G->YL G gp g:=fun s=>⟨nb,(vw s).2.2,gi.v⟩
   refine Zy (t:=Qan _ _ _) fun N hN=>?_
   have Ql5:∀G',SX st H2 G'->yS K G' st sc ls->N [some (.ref st),some (.ref l),some (.ref sl),some (.ref gp),some (.int wy),o5,o6,o7] G':=fun G1 c1 c2=>by
    subst hN
    refine Zy (t:=Qan _ _ _) fun N hN=>?_
    have fin2:∀G',SX st H2 G'->yS K G' st sc ls->N [some (.ref st),some (.ref l),some (.ref sl),some (.ref gp),some (.int wy),o5,o6,o7] G':=fun G1 c1 c2=>by
     subst hN
     refine Zy (t:=Qan _ _ _) fun N hN=>?_
     have fin3:∀G',SX st H2 G'->yS K G' st sc ls->N [some (.ref st),some (.ref l),some (.ref sl),some (.ref gp),some (.int wy),o5,o6,o7] G':=fun G1 c1 c2=>by
      subst hN
      intro z nz
      have nz2:H2 z=none:=Us c1 c2.lst nz
      have zst:z≠st:=sa2.nst nz2
      have t0:Qi G1 (upd G1 z (.dK [])):=Qi.zT nz
      have ez:(upd G1 z (.dK [])) z=some (.dK []):=Qf
      generalize upd G1 z (.dK [])=G2 at t0 ez
      have c3:=c1.trans (SX.of t0)
      have sa3:=c2.of t0
      dsimp only[QJ]
      refine⟨_,rfl,sl,rfl,⟨_,jk.of (vw c3).2.1.e⟩,Ja (K:=K) (xs:=ws.map fun w=>V.ref w.a) (fun i σ G=>∃(na:List (Key×Int))(o6:Option V),σ=[some (.ref st),some (.ref l),some (.ref sl),some (.ref gp),some (.int wy),some (.ref z),o6,o7]/\SX st H2 G/\yS K G st sc ls/\G z=some (.dK (nK na))/\(na.map (·.1)).Nodup/\(∀p∈na,∃w∈ws.take i,p.1=inr w.h)/\(∀p∈na,0<=p.2)/\na.length<=i) ⟨[],_,rfl,c3,sa3,ez,jU,(fun p hp=>nomatch hp),(fun p hp=>nomatch hp),qp _⟩ ?_ ?_ ?_⟩
      .rintro i σ G _ ⟨na,o6,rfl,sG,_⟩
       exact jk.of (vw sG).2.1.e
      .rintro i v σ G hv ⟨na,o6,rfl,sG,saG,gz,q1,q2,q3,q4⟩
       obtain⟨wi,hwi,rfl⟩:∃w,ws[i]?=some w/\v=.ref w.a:=by
        rw[qJ] at hv
        cases e:ws[i]? with
        | none=>rw[e] at hv;cases hv
        | some w=>rw[e] at hv;cases hv;exact⟨w,rfl,rfl⟩
       have hm:wi∈ws:=qG hwi
       have mono:∀w,w∈ws.take i->w∈ws.take (i+1):=fun w hw=>by rw[zb];exact zA _ hw
       refine⟨_,rfl,st,sc,ls,rfl,saG,hl,fun r1 G3 r10 r11 x3 sa3=>⟨_,_,rfl,rfl,Qnv,_,_,rfl,rfl,_,rfl,GJ (fun _=>?_) (fun _=>?_)⟩⟩
       .refine⟨_,rfl,st,sc,ls,rfl,sa3,hl,fun r2 G4 r20 r21 x4 sa4=>⟨_,_,rfl,rfl,zi_16,?_⟩⟩
        have x34:=x3.trans x4
        have s4:=sG.trans x34
        have xG:=(vw s4).2.1
        obtain⟨r0,hr0⟩:∃r,wi.rs[0]?=some r:=⟨_,qe (o.lo wi hm)⟩
        have h0:r0.h=wi.h:=(o.v wi hm).h (qG hr0)
        have er0:=(xG.g wi hm r0 (qG hr0)).e
        rw[h0] at er0
        have gz4:=x34 _ _ zst gz
        have wn:=o.n
        have nk:(nK na).length=na.length:=by unfold nK;rw[qd]
        have il:i<ws.length:=(qi.mp hwi).1
        have nin:(inr wi.h:Key)∉na.map (·.1):=fun q=>by
         obtain⟨p,hp,e⟩:=zq.mp q
         obtain⟨v,hv,e'⟩:=q2 p hp
         obtain⟨j,hj⟩:=qL.mp hv
         have hji:j<i:=by have:=(qi.mp hj).1;rw[qK] at this;omega
         rw[za,qj hji] at hj
         have e1:(ws.map (·.h))[j]?=some wi.h:=by rw[qJ,hj];exact zB some (j4 (e'.symm.trans e))
         have e2:(ws.map (·.h))[i]?=some wi.h:=by rw[qJ,hwi];rfl
         have:=(List.getElem?_inj (qi.mp e1).1 o.nd).mp (e1.trans e2.symm)
         omega
        have nkey:(nK na).map (·.1)=na.map (·.1):=by unfold nK;rw[zu];rfl
        refine⟨_,rfl,_,rfl,wi.a,_,_,_,rfl,rfl,jk.of (xG.l wi hm),Zt (j:=0) (by rw[qJ,hr0];rfl),r0.x,_,_,_,rfl,rfl,yu.of er0,at1,z,_,rfl,.inl ⟨_,inr wi.h,gz4,rfl,(by rw[nk];exact QN (by omega)),rfl⟩,?_⟩
        refine⟨na++[(inr wi.h,r2 % 16)],_,rfl,(fun c o n e=>by rw[Qj (Qd e nz2)];exact s4 c o n e),sa4.put sa2.sq nz2 zst,?_,?_,fun p hp=>?_,fun p hp=>?_,?_⟩
        .rw[Qf,Kb (by rw[nkey];exact nin)]
         unfold nK
         rw[zc];rfl
        .rw[zc]
         exact gM.mpr ⟨q1,jo.mpr ⟨ye,jU⟩,fun x hx y hy=>by rw[qg.mp hy];exact fun z=>nin (show(inr wi.h:Key)∈_ from(show x=inr wi.h from z)▸hx)⟩
        .rcases qF.mp hp with hp | hp
         .obtain⟨w,hw,e⟩:=q2 p hp
          exact⟨w,mono w hw,e⟩
         .rw[qg.mp hp]
          exact⟨wi,by rw[zb,hwi];exact qO _ (qg.mpr rfl),rfl⟩
        .rcases qF.mp hp with hp | hp
         .exact q3 p hp
         .rw[qg.mp hp]
          exact zP _ (by decide)
        .rw[qy,zV];omega
       .exact⟨na,_,rfl,sG.trans x3,sa3,x3 _ _ zst gz,q1,fun p hp=>let ⟨w,hw,e⟩:=q2 p hp;⟨w,mono w hw,e⟩,q3,QiT q4⟩
      .rintro σ G ⟨na,o6,rfl,sG,saG,gz,q1,q2,q3,q4⟩
       refine⟨_,rfl,z,_,rfl,.inl gz,fun d nd'=>?_⟩
       have t3:Qi G (upd G d (.dK (nK na))):=Qi.zT nd'
       have ed:(upd G d (.dK (nK na))) d=some (.dK (nK na)):=Qf
       generalize upd G d (.dK (nK na))=G3 at t3 ed
       have c4:=sG.trans (SX.of t3)
       have sa4:=saG.of t3
       have gz3:=t3 _ _ gz
       dsimp only[QJ]
       refine Zy (t:=Qan _ _ _) fun N hN=>?_
       have fin4:∀G',SX st H2 G'->yS K G' st sc ls->Qi G3 G'->N [some (.ref st),some (.ref l),some (.ref sl),some (.ref gp),some (.int wy),some (.ref z),o6,some (.ref d)] G':=fun G1 c1 c2 t=>by
        subst hN
        refine⟨_,rfl,_,rfl,d,z,_,_,rfl,rfl,.inl (t _ _ ed),.inl (t _ _ gz3),_,rfl,?_⟩
        rw[Qe0 q1]
        exact QD ⟨_,_,_,_,rfl,c1,c2⟩
       refine⟨_,rfl,rfl,_,rfl,?_⟩
       by_cases h0:wy=3
       .subst h0
        rw[show decide (V.int 3=V.int 3)=true from rfl]
        obtain⟨dl,el⟩:=(vw c4).1.e
        obtain⟨had,hv,_⟩:=Qih (.inl gz3) q3
        refine QE ⟨_,rfl,l,dl,_,rfl,el,rfl,_,rfl,.mk l S (.ref d) hd es ad had rfl (vw c4).1 (.dct (.inl ed) hv) (YN o u nd _) (zf (ZX o u nd _) (by decide)) fun zz G4 t4 nzz ezz=>?_⟩
        have c5:=c4.trans (SX.of t4)
        refine⟨_,rfl,_,rfl,_,rfl,⟨sl,gp,z,ws,g,had,rfl,o,(vw c5).2.1,dg c5,⟨na,.inl (t4 _ _ gz3),hv⟩,fun z2 G5 t5 nz2 ez2=>?_⟩⟩
        have c6:=c5.trans (SX.of t5)
        rw[<-hsd] at ez2
        exact Yp (t5 _ _ ezz) ez2 (vw c6).1.told ⟨_,rfl,QD (fin4 G5 c6 (sa4.of (t4.trans t5)) (t4.trans t5))⟩
       .rw[show decide (V.int wy=V.int 3)=false from qz fun z=>h0 (V.int.inj z)]
        exact QD (fin4 G3 c4 sa4 (Qi.refl _))
     refine⟨_,rfl,rfl,_,rfl,?_⟩
     by_cases h0:wy=2
     .subst h0
      rw[show decide (V.int 2=V.int 2)=true from rfl]
      obtain⟨dl,el⟩:=(vw c1).1.e
      refine QE ⟨_,rfl,l,dl,_,rfl,el,rfl,.mk l S .non hd es ad (fun _=>0) rfl (vw c1).1 .non (YN o u nd _) (zf (ZX o u nd _) (by decide)) fun z G2 t2 nz ez=>?_⟩
      have c3:=c1.trans (SX.of t2)
      refine⟨_,rfl,_,rfl,fun e0 ne0=>?_⟩
      have t3:Qi G2 (upd G2 e0 (.dK [])):=Qi.zT ne0
      have ee0:(upd G2 e0 (.dK [])) e0=some (.dK []):=Qf
      generalize upd G2 e0 (.dK [])=G3 at t3 ee0
      have c4:=c3.trans (SX.of t3)
      refine⟨sl,gp,e0,ws,g,fun _=>0,rfl,o,(vw c4).2.1,dg c4,⟨[],.inl ee0,fun h=>rfl⟩,fun z2 G4 t4 nz2 ez2=>?_⟩
      have c5:=c4.trans (SX.of t4)
      rw[<-hsd] at ez2
      exact Yp (t4 _ _ (t3 _ _ ez)) ez2 (vw c5).1.told ⟨_,rfl,QD (fin3 G4 c5 ((c2.of t2).of (t3.trans t4)))⟩
     .rw[show decide (V.int wy=V.int 2)=false from qz fun z=>h0 (V.int.inj z)]
      exact QD (fin3 G1 c1 c2)
    refine⟨_,rfl,rfl,_,rfl,?_⟩
    by_cases h0:wy=1
    .subst h0
     rw[show decide (V.int 1=V.int 1)=true from rfl]
     refine QE ⟨_,rfl,_,rfl,_,rfl,fun e0 ne0=>?_⟩
     have t3:Qi G1 (upd G1 e0 (.dK [])):=Qi.zT ne0
     have ee0:(upd G1 e0 (.dK [])) e0=some (.dK []):=Qf
     generalize upd G1 e0 (.dK [])=G3 at t3 ee0
     have c4:=c1.trans (SX.of t3)
     refine⟨sl,gp,e0,ws,g,fun _=>0,rfl,o,(vw c4).2.1,dg c4,⟨[],.inl ee0,fun h=>rfl⟩,fun z2 G4 t4 nz2 ez2=>?_⟩
     have c5:=c4.trans (SX.of t4)
     rw[<-hsd] at ez2
     exact .mk l S z2 hd es ad rfl (vw c5).1 (YN o u nd _) (zf (ZX o u nd _) (by decide)) ez2 fun G5 t5=>⟨_,rfl,QD (fin2 G5 (c5.trans (SX.of t5)) (c2.of ((t3.trans t4).trans t5)))⟩
    .rw[show decide (V.int wy=V.int 1)=false from qz fun z=>h0 (V.int.inj z)]
     exact QD (fin2 G1 c1 c2)
   refine⟨_,rfl,rfl,_,rfl,?_⟩
   by_cases h0:wy=0
   .subst h0
    rw[show decide (V.int 0=V.int 0)=true from rfl]
    exact QE ⟨_,rfl,_,rfl,l,S,gp,hd,es,ad,nb,rfl,(vw sG).1,by omega,(vw sG).2.2,gi.hit,fun G1 t1=>⟨_,rfl,QD (Ql5 G1 (sG.trans (SX.of t1)) (saG.of t1))⟩⟩
   .rw[show decide (V.int wy=V.int 0)=false from qz fun z=>h0 (V.int.inj z)]
    exact QD (Ql5 G sG saG)
  .rintro σ G ⟨o4,o5,o6,o7,rfl,sG,saG⟩
   exact kq _ (y0.trans sG) saG
end
abbrev tS(n:Nat):Str:=Str.ofString (toString ((n:Nat):Int))
theorem tS_ne:∀n:Nat,n<201->tS n≠tS (n+1):=by decide +kernel
theorem Qfm{x y z:Str}(h:x++y=x++z):y=z:=by
 have e:(x++y).cps.toList=(x++z).cps.toList:=by rw[h]
 rw[YJ,YJ] at e
 have e:=List.append_cancel_left e
 cases y;cases z;congr 1;exact Array.toList_inj.mp e
theorem QbT{hd:Str}(hh:ZS hd){n:Nat}(hn:n<202):Q6 (hd++tS n):=by
 obtain⟨d1,d2,d3⟩:=UN n hn
 exact hh.plus d2 d1 fun c hc=>by
  have:=yd.mp d3 c hc
  exact qD this
theorem XG{n:Nat}(hn:n<202):(((n:Nat):Int)).natAbs.log2<1920:=by
 have:((n:Nat):Int).natAbs=n:=by omega
 rw[this]
 exact yx (Nat.log2_le_self _) (by omega)
inductive QdI(K:Frag)(a:yE)(vs:List V)(H:Hp)(Q:VK):Prop
 | mk:∀(st sc l S dp:Addr)(ls:List Int)(hd:Str)(es:Sh)(ad:Str->Addr)(d:V),vs=[.ref st,.ref l,.ref dp,.int ((ZV (Ql es hd):Nat):Int)]->yS K H st sc ls->ls.length<=63->u6 a H l S hd es ad->(∀h,ad h≠st)->ZS hd->H dp=some (.tup [.int (Yz es),.str hd,.int (((Ql es hd).length:Nat):Int),d])->(∀h,(Ql es h).length<=150)->es.length<=150 ->
    (∀H',KX [st,l] H H'->Q (.bl true) H')->QdI K a vs H Q
def spPR(K:Frag)(a:yE):Sp:=fun vs H Q _=>QdI K a vs H Q
section
variable {P:Program}{w:World}{K:Frag}{mg:Str->Option Value}{base:Heap}{a:yE}
theorem ok_pr{fd:FuncData}(F:jZ K "_law_puts_right" "_law_puts_right" Z2 a.xP fd)(T:Txt K mg a)(FF:Zr K a):QH P w K mg base vV 15 a.xP fd ["_law_state","_law_ledger","_law_due","_law_puts"] (spPR K a):=by
 obtain⟨fdP,xr,QiL⟩:=FF.xr
 have QiP:=@Qeo P w K mg base a _ xr T FF
 obtain⟨fdA,FA,wU⟩:=FF.QiX
 have wV:=@Qg1 P w K mg base a _ FA T FF
 refine F.ok Zh (fun _ _ _ _ h=>by cases h;subst_vars;rfl) (fun cdv A outer s H vs Q E hr h=>?_)
 .obtain⟨st,sc,l,S,dp,ls,hd,es,ad,d,rfl,sa,hl,lg,nad,hh,edp,QmX,he,kq⟩:=h
  have hr4:Qv 4 _:=hr.mono (by decide)
  have Ql3:Qv 14 _:=hr
  have xM:=hr.units
  have pn:ZV (Ql es hd)<=150:=by
   refine zf ?_ (QmX hd)
   unfold ZV
   exact xW _ _
  generalize hpu:ZV (Ql es hd)=pu at *
  let R:St->XK:=fun σ c _ H'=>c=.ref a.jy/\∃(q:Addr)(s t b:Str)(dy:Int)(an:Str),KJ s t b dy an/\σ=[some (.ref st),some (.ref l),some (.ref dp),some (.int ((pu:Nat):Int)),some (.bl false),some (.ref q),none]/\H' q=some (.tup (ptV s t b dy an))/\SX st H H'/\yS K H' st sc ls
  refine⟨_,(Qa (Qm (i:=4) Zh.nd rfl (Or.inl rfl) ZW)
   (Qa (Qm (i:=5) Zh.nd rfl (Or.inl rfl) (Qk QiP hr4 rfl T.Qj4 xr.kp QiL .nil Qn (zy (pv 0) Qc)))
   (Qa (Kd (R:=R) rfl T.xq T.xj rfl rfl (fun σ C H' q=>by obtain⟨e,_⟩:=q;cases e;exact⟨T.xj,T.QfE⟩)
     (fun pn=>Qg (QV (Gi (R:=R) (pv 1) T.zO T.uQ wV Ql3 wU .nil Qeg (zy (Zn (Qe QB (Qe (Qt Zq (Qp (Zs K) (pv 2) Qb) (ZG Jo rfl T.Qix boot_str (zy (pv 3) Qc))) (Qe (pv 5) Qo)))) Qc))))
     (fun ev=>Qg (Qm (i:=4) Zh.nd rfl (Or.inl rfl) ZW)))
   (Qa (Qm (i:=6) Zh.nd rfl (Or.inl rfl) (Zn (Qe QB (Qe (Qt Zq (Qp Qz (pv 2) Qb) (ZG Jo rfl T.Qix boot_str (zy (Qt QQ (pv 3) Qb) Qc))) (Qe (pv 5) Qo)))))
   (Qg (Qs (Z0 (pv 4) (JQ (Z5 (Uf xM) (Ym (pv 1) T.zO T.uQ wV Ql3 wU .nil Qeh (zy (pv 6) Qc)) (Zn (Qe (Qt QQ (Qp Qz (pv 2) Qb) Qb) (Qe (Qp Qz (pv 2) Qb) (Qe (Qt QQ (Qp Qz (pv 2) Qb) Qb) (Qe (pv 6) Qo)))))))))))))),?_⟩
  dsimp only[QJ]
  refine⟨_,rfl,st,sc,ls,rfl,sa,hl,fun q s t b dy an H1 pt eq x1 uD=>?_⟩
  dsimp only[QJ]
  have Qhi:=sa.lst
  have lg1:=lg.sx x1 Qhi nad
  have dpst:dp≠st:=fun z=>by obtain⟨ys,e⟩:=Qhi;rw[z,e] at edp;cases edp
  have edp1:=x1 _ _ dpst edp
  obtain⟨dl,el⟩:=lg1.e
  obtain⟨m1,m2,_⟩:=UN pu (by omega)
  obtain⟨n1,n2,_⟩:=UN (pu+1) (by omega)
  have h8:=hh.hi
  refine⟨fun σ' C H2 hq=>?_,?_⟩
  .obtain⟨hC,q,s,t,b,dy,an,pt,rfl,eq,x2,sa2⟩:=hq
   cases hC
   dsimp only[QJ]
   have lg2:=lg.sx x2 Qhi nad
   have edp2:=x2 _ _ dpst edp
   obtain⟨dl,el⟩:=lg2.e
   refine⟨_,rfl,dp,_,_,_,rfl,rfl,yu.of edp2,at1,_,rfl,_,_,rfl,rfl,_,rfl,XG (n:=pu+1) (by omega),_,_,rfl,rfl,Q2 ((by have:(tS (pu+1)).length<=3:=n1;show hd.length+(tS (pu+1)).length<=1000;omega)),_,rfl,Qb7,fun p H3 np t3 ep=>?_⟩
   dsimp only[QJ]
   have hok:JS hd (Ql es hd) [.str "put",.str (hd++tS (pu+1)),.tup (ptD s t b dy an)]=true:=by
    unfold JS
    have e:nmD [Dt.str "put",.str (hd++tS (pu+1)),.tup (ptD s t b dy an)]=W1 hd (Ql es hd):=by
     unfold W1
     rw[hpu]
     rfl
    rw[qt e,Bool.not_true,Bool.and_false]
    rfl
   refine⟨_,rfl,_,rfl,QE ⟨_,rfl,l,dl,_,rfl,t3 _ _ el,rfl,_,rfl,.mk l S p hd es ad _ [.str "put",.str (hd++tS (pu+1)),.tup (ptD s t b dy an)] rfl (lg2.mono t3) hh ep (.put (QbT (n:=pu+1) hh (by omega)) pt (t3 _ _ eq)) QmX he (fun _ r S' ad' H4 rc rh rn rp rvs rds nx x4 nS had lg4 gr=>?_) fun bad=>absurd (hok.symm.trans bad) (by decide)⟩⟩
   have edp3:=t3 _ _ edp2
   have Qps:=x4 _ _ (QI edp3 (t3 _ _ el) fun z=>nomatch z) edp3
   refine⟨_,rfl,dp,_,_,_,rfl,rfl,yu.of Qps,at0,_,_,rfl,rfl,_,rfl,dp,_,_,_,rfl,rfl,yu.of Qps,at1,_,rfl,dp,_,_,_,rfl,rfl,yu.of Qps,at2,_,_,rfl,rfl,_,rfl,XW,fun y H5 ny t5 ey=>?_⟩
   have g5:=gr.mono t5
   have g6:QY H5 { r with x:=y }:=⟨by rw[ey];show _=some (HO.tup [.int r.c,.str r.h,.int ((r.n:Nat):Int),.ref r.p]);rw[rc,rh,rn,rp];rfl,g5.ep,g5.df,g5.hh,g5.c1,g5.n1⟩
   obtain⟨a1,a2,a3⟩:=g5.rd (K:=K)
   refine Kw a1 (g6.rd (K:=K)).1 (X3 a2 a3) (kq _ fun c o n e=>?_)
   exact t5 _ _ (x4 _ _ (fun z=>n (by rw[z];exact qu _ (qI ..))) (t3 _ _ (x2 _ _ (fun z=>n (by rw[z];exact qI ..)) e)))
  .refine⟨_,rfl,l,dl,_,rfl,el,rfl,_,rfl,dp,_,_,_,rfl,rfl,yu.of edp1,at1,_,rfl,_,rfl,XG (by omega),_,_,rfl,rfl,Q2 ((by have:(tS pu).length<=3:=m1;show hd.length+(tS pu).length<=1000;omega)),_,rfl,Qb7,fun p H3 np t3 ep=>?_⟩
   refine .mk l S p hd es ad _ [.str "put",.str (hd++tS pu),.tup (ptD s t b dy an)] rfl (lg1.mono t3) hh ep (.put (QbT hh (by omega)) pt (t3 _ _ eq)) QmX he (fun ok=>?_) fun ok H4 t4=>⟨rfl,q,s,t,b,dy,an,pt,rfl,t4 _ _ (t3 _ _ eq),x1.trans (SX.of (t3.trans t4)),uD.of (t3.trans t4)⟩
   exfalso
   unfold JS at ok
   have e:decide (nmD [Dt.str "put",.str (hd++tS pu),.tup (ptD s t b dy an)]=W1 hd (Ql es hd))=true:=by
    cases hz:decide (nmD [Dt.str "put",.str (hd++tS pu),.tup (ptD s t b dy an)]=W1 hd (Ql es hd)) with
    | true=>rfl
    | false=>rw[hz,show Q5 [Dt.str "put",.str (hd++tS pu),.tup (ptD s t b dy an)]=true from(show decide (("put":Str)="put")=true from qt rfl)] at ok;exact absurd ok (by decide)
   have e:=qD e
   unfold W1 at e
   rw[hpu] at e
   exact tS_ne pu (by omega) (Qfm e)
end
theorem YI(es:Sh):InU (Ql es) es (fun h=>(Ql es h).length):=⟨fun h=>(yq).symm,fun h=>qp _⟩
section
variable {es:Sh}{hd:Str}{r:Gr}(V:∀h,Val h (Ql es h))
include V
theorem JN(x:Gr):x∈xN es (fun _=>0)↔x∈Ql es x.h:=by
 rw[Qdr V (YI es)]
 constructor
 .rintro⟨h,m,_,e⟩
  rw[(V h m x e).1]
  exact qG e
 .intro hx
  obtain⟨m,e⟩:=qL.mp hx
  exact⟨x.h,m,(qi.mp e).1,e⟩
theorem Qgv{h:Str}{x:Gr}(hx:x∈Ql es h):x.c<=QZ (Ql es h):=by
 obtain⟨i,ei⟩:=qL.mp hx
 have hl:=(qi.mp ei).1
 obtain⟨y,ey⟩:∃y,(Ql es h)[(Ql es h).length - 1]?=some y:=⟨_,qe (by omega)⟩
 have el:QZ (Ql es h)=y.c:=by unfold QZ;rw[Ul,ey]
 rw[el]
 by_cases z:i=(Ql es h).length - 1
 .rw[z,ey] at ei;cases ei;exact uG _
 .have:=(V h).rise ((Ql es h).length - 1 - i - 1) i ei (by rw[show i+((Ql es h).length - 1 - i - 1)+1=(Ql es h).length - 1 by omega];exact ey)
  omega
theorem Vc{x:Gr}(hx:x∈xN es (fun _=>0)):x.c<=Yz es:=by
 have hx:=(JN V x).mp hx
 have hk:x.h∈yf es:=j8 fun z=>by rw[Ys z] at hx;cases hx
 have:=(UO (d:=0) (ns:=(yf es).map fun h=>QZ (Ql es h))).1 _ (jg hk)
 exact Int.le_trans (Qgv V hx) this
theorem WI:Yz es=0\/∃x∈xN es (fun _=>0),Yz es=x.c:=by
 unfold Yz
 rcases (UO (d:=0) (ns:=(yf es).map fun h=>QZ (Ql es h))).2 with e | e
 .exact .inl e
 .obtain⟨k,hk,e'⟩:=zq.mp e
  rw[<-e']
  rcases xY (Ql es k) with z | ⟨rs',x,z⟩
  .rw[z];exact .inl rfl
  .have hx:x∈Ql es k:=by rw[z,zW];simp
   refine .inr ⟨x,(JN V x).mpr (by rw[(V k).h hx];exact hx),?_⟩
   rw[z,zW];unfold QZ;simp
theorem Qfl{L:List Gr}(hL:∀x,x∈L↔x∈xN es (fun _=>0))(h1:∀x∈L,1<=x.c):mxd 0 (0 :: L.map (·.c))=Yz es:=by
 have M:=UO (d:=0) (ns:=0 :: L.map (·.c))
 have M0:=M.1 0 (qI ..)
 refine Int.le_antisymm ?_ ?_
 .rcases M.2 with e | e
  .rcases WI V with z | ⟨x,hx,z⟩
   .omega
   .have:=h1 x ((hL x).mpr hx);omega
  .rcases qR.mp e with e | e
   .rcases WI V with z | ⟨x,hx,z⟩
    .omega
    .have:=h1 x ((hL x).mpr hx);omega
   .obtain⟨x,hx,e'⟩:=zq.mp e
    have:=Vc V ((hL x).mp hx)
    omega
 .rcases WI V with z | ⟨x,hx,z⟩
  .omega
  .have:=M.1 x.c (qu _ (jg ((hL x).mpr hx)))
   omega
theorem Ub(nd:(yf es).Nodup):((xN es fun _=>0).map stK).Nodup:=by
 refine jX.mpr (yM ?_ (Vz V (YI es) nd))
 intro x y hx hy hne e
 have e:=j4 e
 have e1:x.c=y.c:=zB Prod.fst e
 have e2:x.h=y.h:=zB Prod.snd e
 have hy:=(JN V y).mp hy
 rw[<-e2] at hy
 exact hne ((V x.h).inj ((JN V x).mp hx) hy e1)
theorem Qei(nd:(yf es).Nodup)(hd:Str):((xn stK (xN es fun _=>0)).filter fun x=>decide (x.h=hd) && Q5 x.ds).length=ZV (Ql es hd):=by
 unfold ZV
 refine((yz (((Z7 (key:=stK)).nodup_iff.mpr (Vz V (YI es) nd)).filter _) ((V hd).nodup.filter _)).mpr fun x=>?_).length_eq
 rw[Qj0,Qj0,Q9,JN V,jr]
 constructor
 .rintro⟨h1,h2,h3⟩
  rw[qD h2] at h1
  exact⟨h1,h3⟩
 .rintro⟨h1,h3⟩
  have e:=(V hd).h h1
  exact⟨by rw[e];exact h1,qt e,h3⟩
theorem Qd4(e:r.h=hd)(h:Str)(x:Gr):x∈Ql (Zo es hd (Ql es hd++[r])) h↔x∈Ql es h\/(h=hd/\x=r):=by
 rw[ZO]
 by_cases z:h=hd
 .rw[qj z,z,qF,qg]
  exact⟨fun w=>w.imp id fun w=>⟨rfl,w⟩,fun w=>w.imp id fun w=>w.2⟩
 .rw[ql z]
  exact⟨.inl,fun w=>w.elim id fun w=>absurd w.1 z⟩
theorem VF(e:r.h=hd)(ok:JS hd (Ql es hd) r.ds=true)(en:r.n=(Ql es hd).length+1)(ec:r.c=Yz es+1):∀h,Val h (Ql (Zo es hd (Ql es hd++[r])) h):=fun h=>by
 rw[ZO]
 by_cases z:h=hd
 .rw[qj z,z]
  refine(V hd).snoc ?_ e
  unfold Zk
  rw[qt en,jm,e,ok,QlA]
  unfold Jx
  split
  .rfl
  .rename_i q hq
   have hm:q∈Ql es hd:=List.mem_of_getLast? hq
   have:=Vc V ((JN V q).mpr (by rw[(V hd).h hm];exact hm))
   exact qt (by omega)
 .rw[ql z];exact V h
end
section
variable {es:Sh}{hd:Str}{r:Gr}(V:∀h,Val h (Ql es h))(e:r.h=hd)(ok:JS hd (Ql es hd) r.ds=true)(en:r.n=(Ql es hd).length+1)(ec:r.c=Yz es+1)
include V e ok en ec
theorem Wm(x:Gr):x∈xN (Zo es hd (Ql es hd++[r])) (fun _=>0)↔x∈xN es (fun _=>0)\/x=r:=by
 rw[JN (VF V e ok en ec),JN V,Qd4 V e]
 constructor
 .rintro(w | w)
  .exact .inl w
  .exact .inr w.2
 .rintro(w | w)
  .exact .inl w
  .rw[w];exact .inr ⟨e,rfl⟩
theorem Qf7(c0:0<=Yz es):Yz (Zo es hd (Ql es hd++[r]))=r.c:=by
 have V2:=VF V e ok en ec
 have h1:=Vc V2 ((Wm V e ok en ec r).mpr (.inr rfl))
 rcases WI V2 with z | ⟨x,hx,z⟩
 .omega
 .rcases (Wm V e ok en ec x).mp hx with w | w
  .have:=Vc V w;omega
  .rw[z,w]
theorem Qf6(nd:(yf es).Nodup)(nd2:(yf (Zo es hd (Ql es hd++[r]))).Nodup):xn stK (xN (Zo es hd (Ql es hd++[r])) fun _=>0)=xn stK (xN es fun _=>0)++[r]:=by
 have V2:=VF V e ok en ec
 have n1:=Vz V (YI es) nd
 have n2:=Vz V2 (YI _) nd2
 have nr:r∉xN es (fun _=>0):=fun z=>by have:=Vc V z;omega
 have pm:(xN (Zo es hd (Ql es hd++[r])) fun _=>0).Perm ((xN es fun _=>0)++[r]):=(yz n2 (gM.mpr ⟨n1,jo.mpr ⟨ye,jU⟩,fun x hx y hy z=>nr (by rw[<-qg.mp hy,<-z];exact hx)⟩)).mpr fun x=>by
  rw[Wm V e ok en ec,qF,qg]
 refine YX (R:=fun x y=>uy (stK y) (stK x)=false) (Z7.trans (pm.trans ((Z7 (key:=stK)).symm.append_right _))) (V0 (Qah _)) (qZ.mpr ⟨V0 (Qah _),jw _ _,fun x hx y hy=>?_⟩) fun x hx y hy=>QdC V2 ((JN V2 x).mp (Q9.mp hx)) ((JN V2 y).mp (Q9.mp hy))
 rw[qg.mp hy]
 refine(Z6 _ _).mpr (.inl ?_)
 have:=Vc V (Q9.mp hx)
 show x.c<r.c
 omega
end
structure YK(g:Str->Nat)(nb:List (Key×Int)):Prop where
 nd:(nb.map (·.1)).Nodup
 m:∀k v,(k,v)∈nb↔∃h,0<g h/\k=inr h/\v=((g h:Nat):Int)
theorem YK.nil:YK (fun _=>0) []:=⟨jU,fun k v=>⟨(fun z=>nomatch z),fun⟨h,z,_⟩=>absurd z (jT _)⟩⟩
theorem Qdj{na:List (Key×Int)}{k:Key}(h:∀v,(k,v)∉na):Q7 (nK na) k=none:=by
 induction na with
 | nil=>rfl
 | cons p r ih =>
   have n:p.1≠k:=fun z=>h p.2 (by rw[<-z];exact qI ..)
   show Q7 ((p.1,V.int p.2) :: nK r) k=none
   rw[Jr n]
   exact ih fun v hv=>h v (qu _ hv)
section
variable {g:Str->Nat}{nb:List (Key×Int)}{es:Sh}
theorem YK.v(d:YK g nb)(h:Str):(Q7 (nK nb) (inr h)).getD (.int 0)=.int ((g h:Nat):Int):=by
 by_cases z:0<g h
 .rw[XX d.nd ((d.m _ _).mpr ⟨h,z,rfl,rfl⟩)];rfl
 .rw[Qdj fun v hv=>by obtain⟨h',z',e,_⟩:=(d.m _ _).mp hv;cases e;exact z z']
  show V.int 0=_
  rw[show g h=0 by omega];rfl
open Classical in
noncomputable def Qd5(nb:List (Key×Int))(k:Key)(v:Int):List (Key×Int):=if k∈nb.map (·.1) then nb.map fun p=>if p.1=k then (p.1,v) else p else nb++[(k,v)]
theorem QbA(nb:List (Key×Int)):(nK nb).map (·.1)=nb.map (·.1):=by unfold nK;rw[zu];rfl
theorem Qf8(nb:List (Key×Int))(k:Key)(v:Int):Yi (nK nb) k (.int v)=nK (Qd5 nb k v):=by
 unfold Qd5
 by_cases h:k∈nb.map (·.1)
 .rw[qj h]
  unfold Yi
  rw[qj (List.any_eq_true.mpr (by
   rw[<-QbA] at h
   obtain⟨p,hp,e⟩:=zq.mp h
   exact⟨p,hp,qt e⟩))]
  unfold nK
  rw[zu,zu]
  refine yV fun p _=>?_
  show(if p.1=k then (p.1,V.int v) else (p.1,V.int p.2))=_
  by_cases z:p.1=k
  .rw[qj z];show _=((if p.1=k then (p.1,v) else p).1,V.int (if p.1=k then (p.1,v) else p).2);rw[qj z]
  .rw[ql z];show _=((if p.1=k then (p.1,v) else p).1,V.int (if p.1=k then (p.1,v) else p).2);rw[ql z]
 .rw[ql h,Kb (by rw[QbA];exact h)]
  unfold nK
  rw[zc];rfl
theorem YK.put(d:YK g nb)(h:Str){n:Nat}(hn:0<n):YK (fun x=>if x=h then n else g x) (Qd5 nb (inr h) ((n:Nat):Int)):=by
 unfold Qd5
 by_cases z:(inr h:Key)∈nb.map (·.1)
 .rw[qj z]
  refine⟨?_,fun k v=>?_⟩
  .rw[zu]
   have:(fun p:Key×Int=>(if p.1=inr h then (p.1,((n:Nat):Int)) else p).1)=fun p=>p.1:=funext fun p=>by split <;> rfl
   show(nb.map fun p:Key×Int=>(if p.1=inr h then (p.1,((n:Nat):Int)) else p).1).Nodup
   rw[this];exact d.nd
  .rw[zq]
   constructor
   .rintro⟨p,hp,e⟩
    obtain⟨h',c1,c2,c3⟩:=(d.m p.1 p.2).mp hp
    by_cases w:p.1=inr h
    .rw[qj w] at e
     cases e
     exact⟨h,by rw[qj rfl];exact hn,w,by rw[qj rfl]⟩
    .rw[ql w] at e
     cases e
     have:h'≠h:=fun q=>w (by rw[show k=inr h' from c2,q])
     exact⟨h',by rw[ql this];exact c1,c2,by rw[ql this];exact c3⟩
   .rintro⟨h',c1,rfl,rfl⟩
    by_cases w:h'=h
    .subst w
     obtain⟨p,hp,e⟩:=zq.mp z
     exact⟨p,hp,by rw[qj e,e,qj rfl]⟩
    .rw[ql w] at c1
     refine⟨(inr h',((g h':Nat):Int)),(d.m _ _).mpr ⟨h',c1,rfl,rfl⟩,?_⟩
     rw[ql (fun q=>w (j4 q)),ql w]
 .rw[ql z]
  refine⟨?_,fun k v=>?_⟩
  .rw[zc]
   exact gM.mpr ⟨d.nd,jo.mpr ⟨ye,jU⟩,fun x hx y hy q=>z (by rw[show(inr h:Key)=y from(qg.mp hy).symm,<-q];exact hx)⟩
  .rw[qF,qg]
   constructor
   .rintro(hp | hp)
    .obtain⟨h',c1,c2,c3⟩:=(d.m k v).mp hp
     have:h'≠h:=fun q=>z (by rw[<-q,<-c2];exact jg (f:=(·.1)) hp)
     exact⟨h',by rw[ql this];exact c1,c2,by rw[ql this];exact c3⟩
    .cases hp
     exact⟨h,by rw[qj rfl];exact hn,rfl,by rw[qj rfl]⟩
   .rintro⟨h',c1,rfl,rfl⟩
    by_cases w:h'=h
    .subst w;exact .inr (by rw[qj rfl])
    .rw[ql w] at c1
     exact .inl ((d.m _ _).mpr ⟨h',c1,rfl,by rw[ql w]⟩)
theorem YK.got{U:Str->List Gr}(d:YK g nb)(u:InU U es g)(nd:(yf es).Nodup)(nn:∀h,h∈yf es->Ql es h≠[]):GotI es g nb:=by
 refine⟨d.nd,d.v,?_⟩
 have ln:∀h,(Ql es h).length=g h:=fun h=>by rw[u.e,qK];have:=u.le h;omega
 have n1:((hvG es).map (·.1)).Nodup:=by
  unfold hvG
  rw[zu]
  exact jX.mpr (nd.imp fun h e=>h (j4 e))
 have nd1:(hvG es).Nodup:=List.Pairwise.imp (fun h e=>h (zB _ e)) (jX.mp n1)
 have nd2:nb.Nodup:=List.Pairwise.imp (fun h e=>h (zB _ e)) (jX.mp d.nd)
 have pm:(hvG es).Perm nb:=(yz nd1 nd2).mpr fun p=>by
  obtain⟨y,v⟩:=p
  rw[d.m]
  unfold hvG
  rw[zq]
  constructor
  .rintro⟨h,hh,e⟩
   cases e
   have:=List.length_pos_iff.mpr (nn h hh)
   exact⟨h,by rw[<-ln];exact this,rfl,by rw[ln]⟩
  .rintro⟨h,h1,rfl,rfl⟩
   refine⟨h,j8 fun z=>?_,by rw[ln]⟩
   have:=ln h
   rw[Ys z] at this
   simp at this
   omega
 rw[jr]
 exact⟨by rw[pm.length_eq];simp,Kt fun y v h=>XX d.nd (pm.mem_iff.mp h)⟩
theorem Kh{α:Type}:∀{l m:List α},l.Nodup->(∀x∈l,x∈m)->l.length<=m.length
 | [],m,_,_=>qP _
 | x :: l,m,nd,h=>by
   obtain⟨s,t,rfl⟩:=List.append_of_mem (h x (qI ..))
   have nd:=jo.mp nd
   have:=Kh (m:=s++t) nd.2 fun y hy=>by
    rcases qF.mp (h y (qu _ hy)) with z | z
    .exact zA _ z
    .rcases qR.mp z with z | z
     .exact absurd (z▸hy) nd.1
     .exact qO _ z
   rw[qy] at this ⊢
   rw[zm,zm]
   omega
theorem YK.len(d:YK g nb){ws:List Sq}(o:JA ws)(h:∀x,g x<=(uS ws x).length):nb.length<=4:=by
 have:=Kh (m:=ws.map fun w=>(inr w.h:Key)) d.nd fun k hk=>by
  obtain⟨p,hp,rfl⟩:=zq.mp hk
  obtain⟨h',c1,c2,_⟩:=(d.m p.1 p.2).mp hp
  have:=h h'
  rcases VR ws h' with⟨w,hw,q⟩ | q
  .show p.1∈_
   rw[c2,<-q];exact jg (f:=fun w:Sq=>(inr w.h:Key)) hw
  .rw[q] at this;simp at this;omega
 rw[qd,qd] at this
 exact zf this o.n
end
def Yy(r:Gr):List Key:=[inr r.h,inl ((r.n:Nat):Int)]
def kvN(rows:List Gr):List (List Key×V):=rows.map fun r=>(Yy r,r.r)
structure NwI(ws:List Sq)(g:Str->Nat)(ps rows:List Gr):Prop where
 nd:rows.Nodup
 m:∀r,r∈rows↔r∈ps/\g r.h<r.n
 u:∀r∈ps,(uS ws r.h)[r.n - 1]?=some r/\1<=r.n
section
variable {ws:List Sq}{g k':Str->Nat}{ps rows fr:List Gr}{r:Gr}
theorem QeP{x y:Gr}(hx:(uS ws x.h)[x.n - 1]?=some x)(hy:(uS ws y.h)[y.n - 1]?=some y)(e:Yy x=Yy y):x=y:=by
 unfold Yy at e
 have e1:=j4 (uC e).1
 have e2:=inl.inj (uC (uC e).2).1
 have e3:x.n=y.n:=by omega
 rw[<-e1,<-e3,hx] at hy
 exact zg hy
theorem NwI.nil:NwI ws g [] []:=⟨jU,(fun r=>⟨(fun z=>nomatch z),fun z=>nomatch z.1⟩),fun r hr=>nomatch hr⟩
theorem NwI.skip(w:NwI ws g ps rows)(h:(uS ws r.h)[r.n - 1]?=some r/\1<=r.n)(n:¬g r.h<r.n):NwI ws g (ps++[r]) rows:=⟨w.nd,fun x=>by
 rw[w.m,qF,qg]
 exact⟨fun z=>⟨.inl z.1,z.2⟩,fun z=>⟨z.1.elim id fun e=>absurd (e▸z.2) n,z.2⟩⟩,fun x hx=>(qF.mp hx).elim (w.u x) fun e=>by rw[qg.mp e];exact h⟩
theorem NwI.put(w:NwI ws g ps rows)(h:(uS ws r.h)[r.n - 1]?=some r/\1<=r.n)(n:g r.h<r.n):∃QkW,Yi (kvN rows) (Yy r) r.r=kvN QkW/\NwI ws g (ps++[r]) QkW/\QkW.length<=rows.length+1:=by
 have ux:∀x∈ps++[r],(uS ws x.h)[x.n - 1]?=some x/\1<=x.n:=fun x hx=>(qF.mp hx).elim (w.u x) fun e=>by rw[qg.mp e];exact h
 have key:∀x∈rows,Yy x=Yy r->x=r:=fun x hx e=>QeP (w.u x ((w.m x).mp hx).1).1 h.1 e
 by_cases z:r∈rows
 .refine⟨rows,?_,⟨w.nd,fun x=>?_,ux⟩,yo _⟩
  .unfold Yi
   have an:((kvN rows).any fun kv=>decide (kv.1=Yy r))=true:=List.any_eq_true.mpr ⟨_,jg (f:=fun r=>(Yy r,r.r)) z,qt rfl⟩
   rw[qj an]
   unfold kvN
   rw[zu]
   refine yV fun x hx=>?_
   show(if Yy x=Yy r then (Yy x,r.r) else (Yy x,x.r))=(Yy x,x.r)
   by_cases e:Yy x=Yy r
   .rw[qj e,key x hx e]
   .rw[ql e]
  .rw[w.m,qF,qg]
   exact⟨fun q=>⟨.inl q.1,q.2⟩,fun q=>⟨q.1.elim id fun e=>by rw[e];exact((w.m r).mp z).1,q.2⟩⟩
 .refine⟨rows++[r],?_,⟨?_,fun x=>?_,ux⟩,by rw[qy];exact qp _⟩
  .unfold Yi
   rw[ql]
   .unfold kvN;rw[zc];rfl
   .rw[Bool.not_eq_true]
    refine List.any_eq_false.mpr fun p hp q=>?_
    obtain⟨x,hx,rfl⟩:=zq.mp hp
    exact z (key x hx (qD q)▸hx)
  .exact gM.mpr ⟨w.nd,jo.mpr ⟨ye,jU⟩,fun x hx y hy q=>z (by rw[<-qg.mp hy,<-q];exact hx)⟩
  .rw[qF,qF,qg,w.m]
   constructor
   .rintro(q | q)
    .exact⟨.inl q.1,q.2⟩
    .rw[q];exact⟨.inr rfl,n⟩
   .rintro⟨q | q,q2⟩
    .exact .inl ⟨q,q2⟩
    .exact .inr q
theorem NwI.len(w:NwI ws g ps rows):rows.length<=ps.length:=Kh w.nd fun x hx=>((w.m x).mp hx).1
theorem NwI.in_(o:JA ws)(w:NwI ws g ps rows):∀x∈rows,x∈uS ws x.h:=fun x hx=>qG (w.u x ((w.m x).mp hx).1).1
theorem NwI.keys(o:JA ws)(w:NwI ws g ps rows):(rows.map stK).Nodup:=by
 refine jX.mpr (yM ?_ w.nd)
 intro x y hx hy hne e
 have e:=j4 e
 have e1:x.c=y.c:=zB Prod.fst e
 have e2:x.h=y.h:=zB Prod.snd e
 have hy:=w.in_ o y hy
 rw[<-e2] at hy
 exact hne ((o.val x.h).inj (w.in_ o x hx) hy e1)
theorem NwI.xn(o:JA ws)(w:NwI ws g ps rows)(hle:∀r∈ps,r.n<=k' r.h)(hg:∀h n,g h<n->n<=k' h->∃r∈ps,r.h=h/\r.n=n)(nf:fr.Nodup)(hf:∀r,r∈fr↔∃h m,g h<=m/\m<k' h/\(uS ws h)[m]?=some r):xn stK fr=xn stK rows:=by
 refine(KZ o.val ((yz w.nd nf).mpr fun x=>?_) (w.in_ o)).symm
 rw[w.m,hf]
 constructor
 .rintro⟨h1,h2⟩
  obtain⟨a1,a2⟩:=w.u x h1
  have:=hle x h1
  exact⟨x.h,x.n - 1,by omega,by omega,a1⟩
 .rintro⟨h,m,h1,h2,e⟩
  obtain⟨a1,a2,_⟩:=Qn9 o.val e
  obtain⟨x',c1,c2,c3⟩:=hg h (m+1) (by omega) (by omega)
  have:=(w.u x' c1).1
  rw[c2,c3,xJ,e] at this
  cases this
  exact⟨c1,by rw[a1,a2];omega⟩
def gS(g:Str->Nat)(r:Gr):Str->Nat:=fun x=>if x=r.h then max (g r.h) r.n else g x
def gm(g:Str->Nat)(rows:List Gr):Str->Nat:=rows.foldl gS g
theorem QgG(g:Str->Nat)(l:List Gr)(r:Gr):gm g (l++[r])=gS (gm g l) r:=by unfold gm;rw[List.foldl_append];rfl
theorem Qe2:∀(rows:List Gr)(g:Str->Nat),(∀h,g h<=gm g rows h)/\(∀r∈rows,r.n<=gm g rows r.h)/\∀h,gm g rows h=g h\/∃r∈rows,r.h=h/\gm g rows h=r.n
 | [],g=>⟨fun h=>qp _,(fun r hr=>nomatch hr),fun h=>.inl rfl⟩
 | x :: rows,g=>by
   obtain⟨a1,a2,a3⟩:=Qe2 rows (gS g x)
   have b1:∀h,g h<=gS g x h:=fun h=>by unfold gS;split <;> rename_i e <;> first | (rw[e];omega) | omega
   have b2:x.n<=gS g x x.h:=by unfold gS;rw[qj rfl];omega
   refine⟨fun h=>zf (b1 h) (a1 h),fun r hr=>?_,fun h=>?_⟩
   .rcases qR.mp hr with rfl | hr
    .exact zf b2 (a1 r.h)
    .exact a2 r hr
   .rcases a3 h with e | ⟨r,hr,e1,e2⟩
    .have e:gm g (x :: rows) h=gS g x h:=e
     rw[e]
     unfold gS
     by_cases z:h=x.h
     .rw[qj z]
      by_cases q:g x.h<=x.n
      .exact .inr ⟨x,qI ..,z.symm,by omega⟩
      .exact .inl (by rw[z];omega)
     .rw[ql z];exact .inl rfl
    .exact .inr ⟨r,qu _ hr,e1,e2⟩
theorem NwI.gm(w:NwI ws g ps rows)(hk:∀h,g h<=k' h)(hle:∀r∈ps,r.n<=k' r.h)(hg:∀h n,g h<n->n<=k' h->∃r∈ps,r.h=h/\r.n=n):gm g rows=k':=funext fun h=>by
 obtain⟨a1,a2,a3⟩:=Qe2 rows g
 refine Nat.le_antisymm ?_ ?_
 .rcases a3 h with e | ⟨r,hr,e1,e2⟩
  .rw[e];exact hk h
  .rw[e2,<-e1];exact hle r ((w.m r).mp hr).1
 .by_cases z:g h<k' h
  .obtain⟨r,hr,e1,e2⟩:=hg h (k' h) z (qp _)
   have:=a2 r ((w.m r).mpr ⟨hr,by rw[e1,e2];exact z⟩)
   rw[e1,e2] at this
   exact this
  .have:=a1 h;omega
theorem YK.step{nb:List (Key×Int)}(d:YK g nb)(hr:1<=r.n):YK (gS g r) (Qd5 nb (inr r.h) ((max (g r.h) r.n:Nat):Int)):=by
 have:=d.put r.h (n:=max (g r.h) r.n) (by omega)
 unfold gS
 exact this
end
theorem Qc3{a:Addr}{oa:Obj}{kvs:List (List Key×V)}{bs:List Addr}{g:TG}{tb:TS}{D:JV}{σ:St}{H:Hp}(Pv:Nat->St->Hp->Prop)(h0:Pv 0 σ H)(hl:∀i σ H,i<=bs.length->Pv i σ H->H a=some (.yR oa (.dT kvs)))
 (hs:∀i b σ H,bs[i]?=some b->Pv i σ H->g (.ref b) σ H fun σ2 H2=>tb { D with nx:=Pv (i+1),ct:=Pv (i+1),bk:=D.nx } σ2 H2) (hd:∀σ H,Pv bs.length σ H->D.nx σ H) :
 UY g tb D σ (QpF a oa kvs bs) H:=by
 refine⟨fun i m σ H=>m=bs.length - i/\i<=bs.length/\Pv i σ H,⟨bs.length,by simp,qP _,h0⟩,?_⟩
 rintro i m σ H ⟨rfl,hi,p⟩
 have q:=hl i σ H hi p
 by_cases hlt:i<bs.length
 .refine .inr ⟨⟨q,hlt⟩,Pv (i+1),fun σ' H' p'=>⟨bs.length - (i+1),by omega,rfl,hlt,p'⟩,?_⟩
  rintro x H' ⟨rfl,b,hb,rfl⟩
  exact hs i b σ _ hb p
 .have e:i=bs.length:=by omega
  subst e
  exact .inl ⟨⟨q,qp _⟩,hd σ H p⟩
inductive HdP(G:Hp)(X:List Addr)(t:Addr):Prop
 | rows:∀(x y:Addr)(L:List Gr),G t=some (.tup [.ref x,.ref y])->x∉X->y∉X->G x=some (.lst (L.map Gr.r))->G y=some (.lst (L.map Gr.r))->(∀r∈L,QY G r)->HdP G X t
 | dict:∀(x y:Addr)(na nb:List (Key×Int)),G t=some (.tup [.ref x,.ref y])->x∉X->y∉X->G x=some (.dK (nK na))->G y=some (.dK (nK nb))->(na.length == nb.length && Vb nb na)=true->HdP G X t
def Qb6(G:Hp)(X:List Addr):Prop:=∀c∈X,∀xs,G c≠some (.tup xs)
theorem KX.tups{G G':Hp}{X:List Addr}(k:KX X G G')(n:Qb6 G X):∀c xs,G c=some (.tup xs)->G' c=some (.tup xs):=fun c xs e=>k c _ (fun z=>n c z xs e) e
theorem HdP.kx{G G':Hp}{X:List Addr}{t:Addr}(h:HdP G X t)(k:KX X G G')(n:Qb6 G X):HdP G' X t:=by
 have kt:=k.tups n
 cases h with
 | rows x y L e nx ny ex ey g=>exact .rows x y L (kt _ _ e) nx ny (k _ _ nx ex) (k _ _ ny ey) fun r hr=>(g r hr).tups kt
 | dict x y na nb e nx ny ex ey q=>exact .dict x y na nb (kt _ _ e) nx ny (k _ _ nx ex) (k _ _ ny ey) q
theorem HdP.sub{G:Hp}{X Y:List Addr}{t:Addr}(h:HdP G X t)(s:∀c∈Y,c∈X):HdP G Y t:=by
 cases h with
 | rows x y L e nx ny ex ey g=>exact .rows x y L e (fun z=>nx (s _ z)) (fun z=>ny (s _ z)) ex ey g
 | dict x y na nb e nx ny ex ey q=>exact .dict x y na nb e (fun z=>nx (s _ z)) (fun z=>ny (s _ z)) ex ey q
theorem QgF{K:Frag}{G:Hp}{X:List Addr}{h:Addr}{σ:St}{Q':Bool->Hp->Prop}(o:HdP G X h)(q:Q' false G) :
 (Qdv (tOp (fun x y H Q=>QdX K x y H Q\/QoW not x y H Q) (tOp (QnF K) (Qam 0) (tC (V.int 0))) (tOp (QnF K) (Qam 0) (tC (V.int 1))))) (some (.ref h) :: σ) G Q':=by
 cases o with
 | rows x y L e nx ny ex ey g=>exact⟨_,rfl,h,_,_,_,rfl,rfl,yu.of e,at0,_,rfl,h,_,_,_,rfl,rfl,yu.of e,at1,.inl (Yp ex ey g ⟨_,rfl,q⟩)⟩
 | dict x y na nb e nx ny ex ey z =>
   refine⟨_,rfl,h,_,_,_,rfl,rfl,yu.of e,at0,_,rfl,h,_,_,_,rfl,rfl,yu.of e,at1,.inr ⟨x,y,_,_,rfl,rfl,.inl ex,.inl ey,?_⟩⟩
   rw[z]
   exact⟨_,rfl,q⟩
theorem XO{α:Type}:∀hs:List α,(hs.filter fun _=>false)=[]
 | []=>rfl
 | _ :: hs=>XO hs
theorem Qfi(f:Gr->V)(L:List Gr)(r:Gr):UR ((L++[r]).map f) (some (-1)) none=[r].map f:=by
 unfold UR
 rw[HT.QkU]
 have e:HT.sIx ((L++[r]).map f).length 0 (some (-1))=L.length:=by
  rw[qd,qy,zV]
  show(if (-1:Int)<0 then ((-1:Int)+((L.length+1:Nat):Int)).toNat else min ((-1:Int)).toNat (L.length+1))=_
  rw[qj (by decide)]
  omega
 rw[e,zc,qy,qd,List.drop_append_of_le_length (by rw[qd];exact qp _),jB (by rw[qd];exact qp _),List.nil_append,Nat.add_sub_cancel_left,zj (qp _)]
structure TlI(K:Frag)(a:yE)(G:Hp)(st q l gp HL S:Addr)(ns:List Int)(hd:Str)(es:Sh)(ad:Str->Addr)(nb:List (Key×Int))(hs:List Addr):Prop where
 sa:yS K G st q ns
 lg:u6 a G l S hd es ad
 nad:∀h,ad h≠st
 hh:ZS hd
 val:∀h,Val h (Ql es h)
 l36:∀h,(Ql es h).length<=36
 eL:es.length<=144
 tl:(xN es fun _=>0).length<=144
 eg:Rd G gp (.dK (nK nb))
 vg:(Q7 (nK nb) (inr hd)).getD (.int 0)=.int (((Ql es hd).length:Nat):Int)
 eH:G HL=some (.lst (hs.map V.ref))
 nH:HL≠st
 hp:∀t∈hs,HdP G [st,l] t
 hl:hs.length<=24
section
variable {P:Program}{w:World}{K:Frag}{mg:Str->Option Value}{base:Heap}{a:yE}
theorem Qgu{cdv:Value}{A:Around}{outer:List Env}{s:Shared}{H:Hp}{E:XK}(T:Txt K mg a)(FF:Zr K a)(hr:Qv 59 (A.deeper (envOfC "law" (Qh Ux) s.heap.objs.size a.Qju cdv))) :
 ∃t,PSs (Jc vV P w K mg base Wt "law" (Qh Ux) a.Qju cdv A outer s H E).nox ((QT Ux).drop 10) t /\
  ∀(D:JV)(q st l gp HL S:Addr)(ns:List Int)(hd:Str)(es:Sh)(ad:Str->Addr)(nb:List (Key×Int))(hs:List Addr)(o2 o3 o4 o5 o6 o10 o11 o12 o13 o14 o15 o16 o17:Option V)(G:Hp),TlI K a G st q l gp HL S ns hd es ad nb hs->ns.length<=63->(∀H',D.rt (.bl true) H') ->
   t D [some (.ref q),some (.ref st),o2,o3,o4,o5,o6,some (.ref l),some (.ref gp),some (.ref HL),o10,o11,o12,o13,o14,o15,o16,o17,none,none,none] G:=by
 obtain⟨fdB,FB,Qi6,dsB,vB,jO⟩:=FF.vJ
 have ju:=@UM P w K mg base a _ FB T FF
 obtain⟨fdA,FA,wU⟩:=FF.QiX
 have wV:=@Qg1 P w K mg base a _ FA T FF
 obtain⟨fdR,xT,Qjw⟩:=FF.xT
 have QjB:=@ok_pr P w K mg base a _ xT T FF
 have hr4:Qv 4 _:=hr.mono (by decide)
 have Ql3:Qv 14 _:=hr.mono (by decide)
 have hr15:Qv 15 _:=hr.mono (by decide)
 have hu:=UQ hr
 have xM:=hr.units
 refine⟨_,(Qa (Qm (i:=18) Q4.nd rfl (Or.inl rfl) (Qr (Qda rfl) rfl T.Qm4 boot_max (zy (Qt VG (QR (Qe Qb Qo)) (Yn (sc:=Qh Ux) (N:=Wt) (fr:=[]) ⟨rfl,rfl,by decide +kernel,by decide +kernel,by decide +kernel,by decide +kernel,by decide +kernel⟩ rfl rfl rfl (Zm (ZM (pv 7) T.zO T.j6 ju hr4 jO vB Qn)) (fun _ _ _ _=>YY) (fun _ _ _ _=>(Qp (Zs K) (pv 0) Qb)))) Qc)))
  (Qa (Qm (i:=17) Q4.nd rfl (Or.inl rfl) (Qt QQ (ZN hu (pv 8) (Jb (pv 7) rfl) Qb ⟨rfl,rfl,rfl,rfl⟩) Qb))
  (Qa (Qm (i:=19) Q4.nd rfl (Or.inl rfl) (Zn (Qe (Qt QQ (pv 18) Qb) (Qe (Jb (pv 7) rfl) (Qe (pv 17) (Qe (Zn (Qe QB (Qe QB Qo))) Qo))))))
  (Qa (QO (PW.pt (JZ (Qu (Yo xM) (Ym (pv 7) T.zO T.uQ wV Ql3 wU .nil Qeh (zy (Zn (Qe QB (Qe QB Qo))) Qc)) (pv 19)) (JP (Qu (Yo xM) (ZL JY (ZM (pv 7) T.zO T.j6 ju hr4 jO vB Qn) (ZK (Qeb Qai Qb)) Yl) (QR (Qe (pv 19) Qo)))))) (Qg (Qs ZW)) Qy)
  (Qa (Qm (i:=20) Q4.nd rfl (Or.inl rfl) (Qr QA rfl T.xg zE (zy (Yn (sc:=Qh Ux) (N:=Wt) (fr:=[(7,"_law_ledger")]) ⟨rfl,rfl,by decide +kernel,by decide +kernel,by decide +kernel,by decide +kernel,by decide +kernel⟩ rfl rfl rfl (Zm (ZM (pv 7) T.zO T.j6 ju hr4 jO vB Qn)) (fun _ _ _ _=>Kc (PW.pt (Yh (Qu JJ (Qp (Zs K) (pv 0) Qb) (Qge K (pv 1) rfl)) (Jl (Qu JJ (Qp (Zs K) (Qp (Zs K) (pv 0) Qb) Qb) QB))))) (fun _ _ _ _=>(pv 0))) Qc)))
  (Qa (QO (Q8 (Za (Qk QjB hr15 rfl T.Qjn xT.kp Qjw .nil Qn (zy (pv 1) (zy (pv 7) (zy (pv 19) (zy (pv 20) Qc))))))) (Qg (Qs ZW)) Qy)
  (Qg (Qs (Z5 (Uf xM) (Yn (sc:=Qh Ux) (N:=Wt) (fr:=[]) ⟨rfl,rfl,by decide +kernel,by decide +kernel,by decide +kernel,by decide +kernel,by decide +kernel⟩ rfl rfl rfl (Zm (pv 9)) (fun _ _ _ _=>Kc (Qu (Qct (Qbu K xM) (QaE xM)) (Qp (Zs K) (pv 0) Qb) (Qp (Zs K) (pv 0) Qb))) (fun _ _ _ _=>(pv 0))) (QR Qo)))))))))),?_⟩
 intro D q st l gp HL S ns hd es ad nb hs o2 o3 o4 o5 o6 o10 o11 o12 o13 o14 o15 o16 o17 G i hlen kq
 obtain⟨sa,lg,nad,hh,hV,l36,eL,tl,eg,vg,eH,nH,hp,hl⟩:=i
 obtain⟨dl,el⟩:=lg.e
 have nd:=lg.sh.nd
 have lsl:(xn stK (xN es fun _=>0)).length<=144:=by rw[YR];exact tl
 refine⟨Qdg,fun z0 G1 nz0 t1 ez0=>?_⟩
 refine⟨_,rfl,l,dl,_,rfl,t1 _ _ el,rfl,.mk l S .non hd es ad (fun _=>0) rfl (lg.mono t1) .non (Ub hV nd) (by omega) fun tl1 G2 t2 ntl1 etl1=>?_⟩
 have t12:=t1.trans t2
 have gr2:∀{G'},Qi G G'->∀r∈xn stK (xN es fun _=>0),QY G' r:=fun t=>(lg.mono t).told
 refine⟨tl1,rfl,⟨_,jk.of etl1⟩,JL (K:=K) (xs:=xn stK (xN es fun _=>0)) Gr.r (fun _=>true) (fun r=>V.int r.c) (Q2 ((by omega))) (jk.of etl1) (fun r H3 Q' hr s3 q=>q) (fun r H3 Q' hr s3 _ q=>⟨_,rfl,r.x,_,_,_,rfl,rfl,yu.of (gr2 (t12.trans s3) r hr).e,at0,q⟩) fun CC nCC=>?_⟩
 have t3:Qi G2 (upd G2 CC (.lst (((xn stK (xN es fun _=>0)).filter fun _=>true).map fun r=>V.int r.c))):=Qi.zT nCC
 have eCC:(upd G2 CC (.lst (((xn stK (xN es fun _=>0)).filter fun _=>true).map fun r=>V.int r.c))) CC=some (.lst (((xn stK (xN es fun _=>0)).map (·.c)).map V.int)):=by rw[Qf,List.filter_eq_self.mpr fun _ _=>rfl,zu];rfl
 generalize upd G2 CC (.lst (((xn stK (xN es fun _=>0)).filter fun _=>true).map fun r=>V.int r.c))=G3 at t3 eCC ⊢
 refine⟨z0,CC,_,_,rfl,rfl,t3 _ _ (t2 _ _ ez0),eCC,(by rw[qd,qd];exact Q2 ((by show 1+_<=1000;omega))),fun z1 G4 nz1 t4 ez1=>?_⟩
 have t14:=(t12.trans t3).trans t4
 have ez1:G4 z1=some (.lst ((0 :: (xn stK (xN es fun _=>0)).map (fun x:Gr=>x.c)).map V.int)):=ez1
 refine⟨z1,0 :: (xn stK (xN es fun _=>0)).map (fun x:Gr=>x.c),rfl,jk.of ez1,(fun z=>nomatch z),?_⟩
 rw[Qfl hV (fun x=>Q9) fun x hx=>(gr2 (Qi.refl _) x hx).c1]
 dsimp only[QJ]
 have eg4:Rd G4 gp (.dK (nK nb)):=eg.imp (fun e=>t14 _ _ e) fun⟨o,e⟩=>⟨o,t14 _ _ e⟩
 refine⟨_,rfl,gp,rfl,.inl ⟨_,eg4⟩,_,rfl,l,_,dl,_,_,rfl,t14 _ _ el,T.zO,T.yC,rfl,Q7 (nK nb) (inr hd),.inl ⟨_,inr hd,eg4,rfl,rfl⟩,?_⟩
 rw[vg]
 refine⟨_,_,rfl,rfl,?_⟩
 dsimp only[QJ]
 refine⟨_,rfl,_,_,rfl,rfl,_,rfl,l,_,dl,_,_,rfl,t14 _ _ el,T.zO,T.yC,rfl,_,rfl,UW,fun dt G5 ndt t5 edt=>⟨XW,fun du G6 ndu t6 edu=>?_⟩⟩
 dsimp only[QJ]
 have t16:=(t14.trans t5).trans t6
 have wa1:Q6 "a1":=⟨by decide +kernel,by decide +kernel,by decide +kernel⟩
 have hok:JS hd (Ql es hd) [.str "drop",.str "a1"]=true:=rfl
 refine⟨_,rfl,l,dl,_,rfl,t16 _ _ el,rfl,UW,fun p2 G7 np2 t7 ep2=>?_⟩
 have t17:=t16.trans t7
 refine .mk l S p2 hd es ad _ [.str "drop",.str "a1"] rfl (lg.mono t17) hh ep2 (.drop wa1) (fun h=>by have:=l36 h;omega) (by omega) (fun _ r S3 ad3 G8 rc rh rn rp rv rd nr x8 nS3 had3 lg8 gr8=>?_) fun hb=>absurd (hok.symm.trans hb) (by decide)
 have el7:=t17 _ _ el
 have sa7:=sa.of t17
 have kt8:∀c ys,G7 c=some (.tup ys)->G8 c=some (.tup ys):=fun c ys e=>x8 _ _ (QI e el7 fun z=>nomatch z) e
 have edu8:=kt8 _ _ (t7 _ _ edu)
 have edt8:=kt8 _ _ (t7 _ _ (t6 _ _ edt))
 have g2:∀{G'},Qi G8 G'->QY G' { r with x:=du,p:=dt }:=fun t=>⟨by rw[t _ _ edu8];show _=some (HO.tup [.int r.c,.str r.h,.int ((r.n:Nat):Int),.ref dt]);rw[rc,rh,rn];rfl,by rw[t _ _ edt8,<-rv],by show ZT _ r.vs r.ds;exact gr8.df.tups fun c xs e=>t _ _ e,gr8.hh,gr8.c1,gr8.n1⟩
 obtain⟨a1,a2,a3⟩:=gr8.rd (K:=K)
 refine⟨_,rfl,Kg a1 ((g2 (Qi.refl _)).rd (K:=K)).1 (X3 a2 a3) ⟨_,rfl,QD ?_⟩⟩
 have ok2:JS hd (Ql es hd) r.ds=true:=by rw[rd];exact hok
 have V2:=VF hV rh ok2 rn rc
 have nd2:=lg8.sh.nd
 have es2:=Qf6 hV rh ok2 rn rc nd nd2
 have tl2:(xN (Zo es hd (Ql es hd++[r])) fun _=>0).length<=145:=by
  rw[<-YR (key:=stK),es2,qy,zV];omega
 obtain⟨dl8,el8⟩:=lg8.e
 refine⟨_,rfl,l,dl8,_,rfl,el8,rfl,.mk l S3 .non hd _ ad3 (fun _=>0) rfl lg8 .non (Ub V2 nd2) (by omega) fun q1 G9 t9 nq1 eq1=>?_⟩
 rw[es2] at eq1
 refine⟨_,rfl,_,rfl,q1,_,rfl,jk.of eq1,fun q2 G10 nq2 t10 eq2=>?_⟩
 rw[Qfi] at eq2
 refine⟨_,rfl,Qdg,fun q3 G11 nq3 t11 eq3=>?_⟩
 have QnB:=(t9.trans t10).trans t11
 obtain⟨b1,b2,b3⟩:=(gr8.mono QnB).rd (K:=K)
 refine Kg (d:=.list [U3 r]) (.lst (jk.of (t11 _ _ eq2)) (.cons b1 .nil)) (.lst (jk.of eq3) (.cons ((g2 QnB).rd (K:=K)).1 .nil)) (UH (by show(PyData.canLay0 (U3 r) && true)=true;rw[b2];rfl) (by show max (PyData.depth (U3 r)) 0<=3;omega)) ⟨_,rfl,QD ?_⟩
 dsimp only[VW]
 have lg11:=lg8.mono QnB
 obtain⟨dl11,Ql6⟩:=lg11.e
 refine⟨_,rfl,l,dl11,_,rfl,Ql6,rfl,.mk l S3 .non hd _ ad3 (fun _=>0) rfl lg11 .non (Ub V2 nd2) (by omega) fun q4 G12 t12' nq4 eq4=>?_⟩
 have t812:=QnB.trans t12'
 have lg12:=lg8.mono t812
 refine⟨q4,rfl,⟨_,jk.of eq4⟩,JL (K:=K) (xs:=xn stK (xN (Zo es hd (Ql es hd++[r])) fun _=>0)) Gr.r (fun r=>decide (r.h=hd) && Q5 r.ds) Gr.r (Q2 ((by rw[YR];omega))) (jk.of eq4) (fun y H3 Q' hy s3 qq=>?_) (fun y H3 Q' hy s3 _ qq=>⟨_,rfl,qq⟩) fun OW nOW=>?_⟩
 .have at_:=(lg12.mono s3).told y hy
  obtain⟨dl3,el3⟩:=(lg12.mono s3).e
  obtain⟨f,nm,rest,e1,_,e2,_⟩:=at_.df.hd2
  refine⟨_,rfl,y.x,_,_,_,rfl,rfl,yu.of at_.e,at1,_,rfl,l,_,dl3,_,_,rfl,el3,T.zO,T.yC,rfl,rfl,_,rfl,?_⟩
  rw[show decide (V.str y.h=V.str hd)=decide (y.h=hd) from yr.mpr ⟨V.str.inj,zB _⟩]
  have ep:=at_.ep
  rw[e1] at ep
  rw[e2] at qq
  cases hz:decide (y.h=hd) with
  | true =>
    rw[hz] at qq
    refine QE ⟨_,rfl,y.x,_,_,_,rfl,rfl,yu.of at_.e,at3,y.p,_,_,_,rfl,rfl,yu.of ep,at0,rfl,_,rfl,?_⟩
    rw[show decide (V.str f=V.str "put")=decide (f="put") from yr.mpr ⟨V.str.inj,zB _⟩]
    exact qq
  | false =>
    rw[hz] at qq
    exact QD qq
 have c0:0<=Yz es:=by
  rcases WI hV with z | ⟨x,hx,z⟩
  .omega
  .have:=(gr2 (Qi.refl _) x (Q9.mpr hx)).c1;omega
 have t13:Qi G12 (upd G12 OW (.lst (((xn stK (xN (Zo es hd (Ql es hd++[r])) fun _=>0)).filter fun r=>decide (r.h=hd) && Q5 r.ds).map Gr.r))):=Qi.zT nOW
 have eOW:(upd G12 OW (.lst (((xn stK (xN (Zo es hd (Ql es hd++[r])) fun _=>0)).filter fun r=>decide (r.h=hd) && Q5 r.ds).map Gr.r))) OW=some (.lst (((xn stK (xN (Zo es hd (Ql es hd++[r])) fun _=>0)).filter fun r=>decide (r.h=hd) && Q5 r.ds).map Gr.r)):=Qf
 generalize upd G12 OW (.lst (((xn stK (xN (Zo es hd (Ql es hd++[r])) fun _=>0)).filter fun r=>decide (r.h=hd) && Q5 r.ds).map Gr.r))=G13 at t13 eOW ⊢
 have QmE:=t812.trans t13
 refine⟨OW,_,rfl,.inl (jk.of eOW),?_⟩
 rw[qd,Qei V2 nd2]
 dsimp only[QJ]
 have sa8:yS K G8 st q ns:=sa7.ins x8 el7
 have gl2:∀h,(Ql (Zo es hd (Ql es hd++[r])) h).length<=37:=fun h=>by
  rw[ZO]
  by_cases z:h=hd
  .rw[qj z,qy,zV];have:=l36 hd;omega
  .rw[ql z];have:=l36 h;omega
 refine⟨_,rfl,_,rfl,_,rfl,_,rfl,.mk st q l S3 du ns hd (Zo es hd (Ql es hd++[r])) ad3 (.ref dt) rfl (sa8.of QmE) hlen (lg8.mono QmE) (fun h z=>?_) hh ?_ (fun h=>by have:=gl2 h;omega) (zf (X4 lg8.sh) (by omega)) fun G14 k14=>⟨_,rfl,QD ?_⟩⟩
 .rcases had3 h with e | e
  .exact nad h (e.symm.trans z)
  .exact sa7.nst e z
 .rw[QmE _ _ edu8,Qf7 hV rh ok2 rn rc c0,rc,ZO,qj rfl,qy]
  rfl
 dsimp only[VW]
 have lst:∀c xs,c≠st->G c=some (.lst xs)->G14 c=some (.lst xs):=fun c xs n e=>k14 _ _ (by
  have:=QI e el fun z=>nomatch z
  simp[n,this]) (QmE _ _ (x8 _ _ (QI (t17 _ _ e) el7 fun z=>nomatch z) (t17 _ _ e)))
 have kall:KX [st,l] G G14:=fun c o n e=>k14 _ _ n (QmE _ _ (x8 _ _ (fun z=>n (by rw[z];simp)) (t17 _ _ e)))
 have Qo1:Qb6 G [st,l]:=fun c hc xs e=>by
  rcases qR.mp hc with rfl | hc
  .obtain⟨ys,z⟩:=sa.lst;rw[z] at e;cases e
  .rw[qg.mp hc,el] at e;cases e
 have Qlt:=lst _ _ nH eH
 refine⟨_,rfl,HL,rfl,⟨_,jk.of Qlt⟩,JL (K:=K) (xs:=hs) V.ref (fun _=>false) V.ref (Q2 ((by omega))) (jk.of Qlt) (fun p H3 Q' hpp s3 qq=>?_) (fun p H3 Q' hpp s3 z qq=>nomatch z) fun D1 nD1=>?_⟩
 .exact QgF ((hp p hpp).kx (kall.trans (KX.of s3)) Qo1) qq
 rw[XO]
 have s2:Qi G14 (upd G14 D1 (.lst (([]:List Addr).map V.ref))):=Qi.zT nD1
 have eD2:(upd G14 D1 (.lst (([]:List Addr).map V.ref))) D1=some (.lst []):=Qf
 generalize upd G14 D1 (.lst (([]:List Addr).map V.ref))=G15 at s2 eD2 ⊢
 refine⟨qP _,fun D3 G16 n3 s3 e3=>?_⟩
 exact Kw (d:=.list []) (.lst (jk.of (s3 _ _ eD2)) .nil) (.lst (jk.of e3) .nil) (by decide +kernel) (kq _)
end
def Qde(o:HO):Prop:=(∀C d f,o≠.ins C d f)/\(∀oa kv,o≠.yR oa (.dK kv))/\(∀xs,o≠.lst xs)/\(∀xs,o≠.tup xs)/\∀oa xs,o≠.yR oa (.lst xs)
theorem Ws{kv:List (Key×V)}:Qde (.dK kv):=⟨fun _ _ _ z=>(nomatch z),fun _ _ z=>(nomatch z),fun _ z=>(nomatch z),fun _ z=>(nomatch z),fun _ _ z=>(nomatch z)⟩
theorem Ug{kv:List (List Key×V)}:Qde (.dT kv):=⟨fun _ _ _ z=>(nomatch z),fun _ _ z=>(nomatch z),fun _ z=>(nomatch z),fun _ z=>(nomatch z),fun _ _ z=>(nomatch z)⟩
theorem QaF{oa:Obj}{kv:List (List Key×V)}:Qde (.yR oa (.dT kv)):=⟨fun _ _ _ z=>(nomatch z),fun _ _ z=>(nomatch z),fun _ z=>(nomatch z),fun _ z=>(nomatch z),fun _ _ z=>(nomatch z)⟩
theorem u6.odd{a:yE}{H H':Hp}{l S c:Addr}{hd:Str}{es:Sh}{ad:Str->Addr}{o:HO}(g:u6 a H l S hd es ad)(x:SX c H H')(e:H c=some o)(n:Qde o):u6 a H' l S hd es ad:=by
 obtain⟨dl,el⟩:=g.e
 obtain⟨oS,eS⟩:=g.s
 exact⟨⟨dl,x _ _ (fun z=>by rw[z,e] at el;cases el;exact n.1 _ _ _ rfl) el⟩,⟨oS,x _ _ (fun z=>by rw[z,e] at eS;cases eS;exact n.2.1 _ _ rfl) eS⟩,g.sh.go (fun c' xs e'=>x _ _ (fun z=>by rw[z,e] at e';cases e';exact n.2.2.2.1 _ rfl) e') fun h hh=>by
  rw[x _ _ (fun z=>by have e':=g.sh.l h hh;rw[z,e] at e';cases e';exact n.2.2.1 _ rfl) (g.sh.l h hh),g.sh.l h hh]⟩
theorem ZU.odd{H H':Hp}{sl c:Addr}{ws:List Sq}{o:HO}(x:ZU H sl ws)(s:SX c H H')(e:H c=some o)(n:Qde o):ZU H' sl ws:=by
 have nl:∀d xs,H d=some (.lst xs)->H' d=some (.lst xs):=fun d xs e'=>s _ _ (fun z=>by rw[z,e] at e';cases e';exact n.2.2.1 _ rfl) e'
 have nt:∀d xs,H d=some (.tup xs)->H' d=some (.tup xs):=fun d xs e'=>s _ _ (fun z=>by rw[z,e] at e';cases e';exact n.2.2.2.1 _ rfl) e'
 exact⟨nl _ _ x.e,fun w hw=>nl _ _ (x.l w hw),fun w hw r hr=>(x.g w hw r hr).tups nt⟩
theorem yS.odd{K:Frag}{H H':Hp}{st sc c:Addr}{ls:List Int}{o:HO}(h:yS K H st sc ls)(x:SX c H H')(e:H c=some o)(n:Qde o):yS K H' st sc ls:=by
 obtain⟨⟨n',c',e',b⟩,hq⟩:=h
 refine⟨⟨n',c',x _ _ (fun z=>by rw[z,e] at e';cases e';exact n.2.2.1 _ rfl) e',b⟩,?_⟩
 rcases hq with(h | ⟨o',h⟩) | h
 .exact .inl (.inl (x _ _ (fun z=>by rw[z,e] at h;cases h;exact n.2.2.1 _ rfl) h))
 .exact .inl (.inr ⟨o',x _ _ (fun z=>by rw[z,e] at h;cases h;exact n.2.2.2.2 _ _ rfl) h⟩)
 .exact .inr h
theorem ZU.gr{G:Hp}{sl:Addr}{ws:List Sq}(x:ZU G sl ws)(o:JA ws){r:Gr}(e:(uS ws r.h)[r.n - 1]?=some r):QY G r:=by
 rcases VR ws r.h with⟨w,hw,z⟩ | z
 .rw[<-z,Ur o.nd w hw] at e
  exact x.g w hw r (qG e)
 .rw[z] at e;cases e
theorem Uc{c:Addr}{H:Hp}{o:HO}:SX c H (upd H c o):=fun d u n e=>by rw[Qj n];exact e
theorem QcU{es:Sh}{ad ad2:Str->Addr}(h:∀k∈yf es,ad2 k=ad k):uE es ad2=uE es ad:=by
 unfold uE
 refine yV fun e he=>?_
 rw[h e.1 (jg he)]
open Classical in
theorem u6.norm{a:yE}{H:Hp}{l S:Addr}{hd:Str}{es:Sh}{ad:Str->Addr}(g:u6 a H l S hd es ad):∃ad2:Str->Addr,u6 a H l S hd es ad2/\(∀h∈yf es,ad2 h=ad h)/\∀h,h∉yf es->ad2 h=l:=by
 have e1:∀h∈yf es,(fun h=>if h∈yf es then ad h else l) h=ad h:=fun h hh=>qj hh
 refine⟨fun h=>if h∈yf es then ad h else l,⟨g.e,?_,⟨g.sh.nd,fun h hh=>?_,g.sh.r,g.sh.nn⟩⟩,e1,fun h hh=>ql hh⟩
 .obtain⟨o,e⟩:=g.s
  exact⟨o,by rw[QcU e1];exact e⟩
 .show H (if h∈yf es then ad h else l)=_
  rw[qj hh];exact g.sh.l h hh
structure LwI(K:Frag)(a:yE)(G:Hp)(st q l gp HL S sl:Addr)(ns:List Int)(hd:Str)(es:Sh)(ad:Str->Addr)(nb:List (Key×Int))(hs:List Addr)(ws:List Sq)(g:Str->Nat):Prop where
 sa:yS K G st q ns
 lg:u6 a G l S hd es ad
 nad:∀h,ad h≠st/\ad h≠HL
 al:∀h,∃o,G (ad h)=some o
 x:ZU G sl ws
 eg:G gp=some (.dK (nK nb))
 gd:YK g nb
 u:InU (uS ws) es g
 eH:G HL=some (.lst (hs.map V.ref))
 hp:∀t∈hs,HdP G [st,gp,HL,l] t
structure FxI(K:Frag)(st q gp HL sl:Addr)(ns:List Int)(ws:List Sq)(hd:Str):Prop where
 o:JA ws
 hh:ZS hd
 n1:sl≠st
 n2:sl≠HL
 n3:∀w∈ws,w.a≠st
 n4:∀w∈ws,w.a≠HL
 n5:HL≠st
 n6:gp≠st
 n7:gp≠HL
 sg:ScN K q ns gp
 sh:ScN K q ns HL
 ln:ns.length<=63
section
variable {K:Frag}{a:yE}{G:Hp}{st q l gp HL S sl:Addr}{ns:List Int}{hd:Str}{es:Sh}{ad:Str->Addr}{nb:List (Key×Int)}{hs:List Addr}{ws:List Sq}{g:Str->Nat}
theorem LwI.nt(i:LwI K a G st q l gp HL S sl ns hd es ad nb hs ws g):Qb6 G [st,gp,HL,l]:=fun c hc xs e=>by
 obtain⟨dl,el⟩:=i.lg.e
 simp only[qR,ye,or_false] at hc
 rcases hc with rfl | rfl | rfl | rfl
 .obtain⟨ys,z⟩:=i.sa.lst;rw[z] at e;cases e
 .rw[i.eg] at e;cases e
 .rw[i.eH] at e;cases e
 .rw[el] at e;cases e
theorem LwI.mono{G':Hp}(i:LwI K a G st q l gp HL S sl ns hd es ad nb hs ws g)(s:Qi G G'):LwI K a G' st q l gp HL S sl ns hd es ad nb hs ws g:=⟨i.sa.of s,i.lg.mono s,i.nad,fun h=>let ⟨o,e⟩:=i.al h;⟨o,s _ _ e⟩,i.x.mono s,s _ _ i.eg,i.gd,i.u,s _ _ i.eH,fun t ht=>(i.hp t ht).kx (KX.of s) i.nt⟩
theorem LwI.esl(f:FxI K st q gp HL sl ns ws hd)(i:LwI K a G st q l gp HL S sl ns hd es ad nb hs ws g):es.length<=144:=zf (X4 i.lg.sh) (ZX f.o i.u i.lg.sh.nd _)
theorem LwI.gl(f:FxI K st q gp HL sl ns ws hd)(i:LwI K a G st q l gp HL S sl ns hd es ad nb hs ws g)(h:Str):(Ql es h).length<=36:=by
 rw[i.u.e,qK]
 rcases VR ws h with⟨w,hw,rfl⟩ | z
 .rw[Ur f.o.nd w hw];have:=f.o.hi w hw;omega
 .rw[z];simp
theorem LwI.end_(f:FxI K st q gp HL sl ns ws hd)(i:LwI K a G st q l gp HL S sl ns hd es ad nb hs ws g)(hl:hs.length<=24):TlI K a G st q l gp HL S ns hd es ad nb hs:=by
 have nd:=i.lg.sh.nd
 refine⟨i.sa,i.lg,fun h=>(i.nad h).1,f.hh,fun h=>?_,i.gl f,i.esl f,ZX f.o i.u nd _,.inl i.eg,?_,i.eH,f.n5,fun t ht=>(i.hp t ht).sub (by simp),hl⟩
 .rw[i.u.e];exact(f.o.val h).take
 .rw[i.gd.v hd,i.u.e,qK,jA (i.u.le hd)]
end
section
variable {P:Program}{w:World}{K:Frag}{mg:Str->Option Value}{base:Heap}{a:yE}
theorem QeH{cdv:Value}{A:Around}{outer:List Env}{s:Shared}{H:Hp}{E:XK}(T:Txt K mg a)(FF:Zr K a)(hr:Qv 59 (A.deeper (envOfC "law" (Qh Ux) s.heap.objs.size a.Qju cdv))) :
 ∃t,PSs (Jc vV P w K mg base Wt "law" (Qh Ux) a.Qju cdv A outer s H E).nox ((QT Ux).drop 9) t /\
  ∀(D:JV)(q st l gp HL S sl:Addr)(ns:List Int)(hd:Str)(es:Sh)(ad:Str->Addr)(nb:List (Key×Int))(ws:List Sq)(g:Str->Nat)(o2 o3 o4 o5:Option V)(G:Hp),LwI K a G st q l gp HL S sl ns hd es ad nb [] ws g->FxI K st q gp HL sl ns ws hd->(∀H',D.rt (.bl true) H') ->
   t D [some (.ref q),some (.ref st),o2,o3,o4,o5,some (.ref sl),some (.ref l),some (.ref gp),some (.ref HL),none,none,none,none,none,none,none,none,none,none,none] G:=by
 obtain⟨tE,hE,endE⟩:=Qgu (P:=P) (w:=w) (base:=base) (outer:=outer) (H:=H) (E:=E) T FF hr
 obtain⟨fdB,FB,Qi6,dsB,vB,jO⟩:=FF.vJ
 have ju:=@UM P w K mg base a _ FB T FF
 obtain⟨fdV,FV,vA⟩:=FF.QgE
 have vC:=@Qbz P w K mg base a _ FV T
 obtain⟨fdP,uq,Qlv⟩:=FF.uq
 have Qly:=@Qgj P w K mg base a _ uq T FF
 obtain⟨fdT,QiC,Qm5⟩:=FF.QiC
 have Qnb:=@Qgi P w K mg base a _ QiC T FF
 obtain⟨fdS,yQ,ug⟩:=FF.yQ
 have um:=@Wq P w K mg base a _ yQ T
 obtain⟨fdK,Qfv,Qmb⟩:=FF.Qfv
 have Qmj:=@QhY P w K mg base a _ Qfv T FF
 obtain⟨fdL,vG,Qiy⟩:=FF.vG
 have QiA:=@Qex P w K mg base a _ vG T FF
 have hr1:Qv 1 _:=hr.mono (by decide)
 have hr3:Qv 3 _:=hr.mono (by decide)
 have hr4:Qv 4 _:=hr.mono (by decide)
 have hr6:Qv 6 _:=hr.mono (by decide)
 have Ql3:Qv 14 _:=hr.mono (by decide)
 have hu:=UQ hr
 have xM:=hr.units
 refine⟨_,(Qa (ZZ jF rfl (Zm (ZL JY (pv 0) Yl (ZK Qb))) (Zd (i:=10) Q4.nd rfl (Or.inl rfl)) (Qa (Qm (i:=11) Q4.nd rfl (Or.inl rfl) (Qk Qly hr3 rfl T.Qlm uq.kp Qlv .nil Qn (zy (pv 1) (zy (pv 6) (zy (pv 8) Qc)))))
  (Qa (Qm (i:=12) Q4.nd rfl (Or.inl rfl) (ZG KC rfl T.QkD boot_list (zy (pv 11) Qc)))
  (Qa (Qm (i:=13) Q4.nd rfl (Or.inl rfl) Qee)
  (Qa (ZZ jF rfl (Zm (pv 11)) (Zd (i:=14) Q4.nd rfl (Or.inl rfl)) (Qg (QO (Qu XD (Qp Qz (pv 14) Qb) (ZN hu (pv 8) (Qp Qz (pv 14) Qb) Qb ⟨rfl,rfl,rfl,rfl⟩)) (Qg (UL hu (pv 13) (Zn (Qe (Qp Qz (pv 14) Qb) (Qe (Qp Qz (pv 14) Qb) Qo))) (pv 14) rfl)) Qy)))
  (Qa (Qm (i:=15) Q4.nd rfl (Or.inl rfl) (Qk Qnb Ql3 rfl T.QmN QiC.kp Qm5 .nil Qn (zy (pv 7) (zy (pv 12) Qc))))
  (Qa (QO (PW.pt (JZ (Q8 (Za (Qr QF rfl T.ji boot_isinstance (zy (pv 15) (zy (Ze (v:=.ty "list") rfl T.QkD boot_list rfl) Qc))))) (JZ (Qu (Yo xM) (pv 12) (pv 11)) (JP (Qu (Yo xM) (pv 15) (Qcs rfl um hr3 rfl T.uP rfl T.Qip ug (pv 13))))))) (Qg (Qs ZW)) Qy)
  (Qa (Qd9 (ZZ jF rfl (Qea (pv 13)) (QhN rfl (Gg (Zd (i:=16) Q4.nd rfl (Or.inl rfl)) (Gg (Zd (i:=17) Q4.nd rfl (Or.inl rfl)) Qga))) (Qg (UL hu (pv 8) (pv 16) (Qr (Qdb rfl) rfl T.Qm4 boot_max (zy (ZN hu (pv 8) (pv 16) Qb ⟨rfl,rfl,rfl,rfl⟩) (zy (pv 17) Qc))) rfl))))
  (Qa (QO (Q8 (Za (Qk Qmj hr6 rfl T.QlZ Qfv.kp Qmb .nil Qn (zy (pv 1) (zy (pv 7) (zy (pv 6) (zy (pv 8) Qc))))))) (Qg (Qs ZW)) Qy)
  (Qa (QV (J0 plainAttrs_list jc jd Zb (pv 9) (zy (Zn (Qe (ZM (pv 7) T.zO T.j6 ju hr4 jO vB Qn) (Qe (Qk QiA hr4 rfl T.Qi3 vG.kp Qiy .nil Qn (zy (pv 6) (zy (pv 8) (zy Z8 Qc)))) Qo))) Qc)))
  (Qa (QV (J0 plainAttrs_list jc jd Zb (pv 9) (zy (Zn (Qe (ZM (pv 7) T.zO T.wZ vC hr1 vA .nil Qn) (Qe (ZG Up rfl T.QkG boot_dict (zy (pv 8) Qc)) Qo))) Qc)))
  (Qa (QV (Qef plainAttrs_list PySem.F.slot_list_clear PySem.F.type_list_clear QeD (pv 12)))
  (Qg (QV (J0 plainAttrs_list jc jd Zb (pv 15) (zy QB Qc))))))))))))))))
  hE),?_⟩
 intro D q st l gp HL S sl ns hd es ad nb ws g o2 o3 o4 o5 G i0 f kq
 have Qhi:=i0.sa.lst
 refine⟨_,rfl,_,rfl,q,_,rfl,i0.sa.sq,fun cl G1 ncl t1 ecl=>?_⟩
 have ecl:G1 cl=some (.lst ((ns.take 12).map V.int)):=by rw[ecl];exact zB (fun z=>some (HO.lst z)) (Qhd V.int ns 12)
 have i1:=i0.mono t1
 obtain⟨dl0,el0⟩:=i0.lg.e
 have clX:cl∉[st,gp,HL,l]:=by
  have c1:=i0.sa.nst ncl
  have c2:=(Qd i0.eg ncl).symm
  have c3:=(Qd i0.eH ncl).symm
  have c4:=(Qd el0 ncl).symm
  simp[c1,c2,c3,c4]
 refine⟨cl,rfl,⟨_,jk.of ecl⟩,Ja (K:=K) (xs:=(ns.take 12).map V.int) (fun i σ G=>∃(S:Addr)(es:Sh)(ad:Str->Addr)(nb:List (Key×Int))(hs:List Addr)(g:Str->Nat)(o10 o11 o12 o13 o14 o15 o16 o17:Option V),σ=[some (.ref q),some (.ref st),o2,o3,o4,o5,some (.ref sl),some (.ref l),some (.ref gp),some (.ref HL),o10,o11,o12,o13,o14,o15,o16,o17,none,none,none]/\LwI K a G st q l gp HL S sl ns hd es ad nb hs ws g/\hs.length=2*i/\KX [st,gp,HL,l] G1 G) ⟨S,es,ad,nb,[],g,none,none,none,none,none,none,none,none,rfl,i1,rfl,KX.of (Qi.refl _)⟩ ?_ ?_ ?_⟩
 .rintro i σ G' _ ⟨S,es,ad,nb,hs,g,o10,o11,o12,o13,o14,o15,o16,o17,rfl,_,_,k0⟩
  exact jk.of (k0 _ _ clX ecl)
 .rintro j v σ G hv ⟨S,es,ad,nb,hs,g,o10,o11,o12,o13,o14,o15,o16,o17,rfl,i,hsl,k0⟩
  have hj12:j<12:=by have:=(qi.mp hv).1;rw[qd,qK] at this;omega
  clear t1 ecl i1 ncl
  dsimp only[QJ]
  obtain⟨dl,el⟩:=i.lg.e
  have lstS:=i.sa.lst
  refine⟨_,rfl,_,rfl,_,rfl,.mk st q sl gp ns ws g rfl i.sa f.ln f.o i.x f.n1 f.n3 ⟨nb,.inl i.eg,i.gd.v⟩ i.u.le fun PL ps k' G1 nPL x1 uD ePL hpl hk hm hall=>?_⟩
  have lg1:=i.lg.sx x1 lstS fun h=>(i.nad h).1
  have xx1:ZU G1 sl ws:=i.x.lt (LT.sx x1 lstS) (by simpa using f.n1) (fun w hw=>by simpa using f.n3 w hw)
  have eg1:=x1 _ _ f.n6 i.eg
  have eH1:=x1 _ _ f.n5 i.eH
  have k1:KX [st,gp,HL,l] G G1:=KX.sx (by simp) x1
  dsimp only[QJ]
  refine⟨_,rfl,PL,_,rfl,.inl (jk.of ePL),fun HD nHD=>?_⟩
  have t2:Qi G1 (upd G1 HD (.lst (ps.map Gr.r))):=Qi.zT nHD
  have eHD:(upd G1 HD (.lst (ps.map Gr.r))) HD=some (.lst (ps.map Gr.r)):=Qf
  generalize upd G1 HD (.lst (ps.map Gr.r))=G2 at t2 eHD ⊢
  dsimp only[QJ]
  intro NW nNW
  have t3:Qi G2 (upd G2 NW (.dT [])):=Qi.zT nNW
  have eNW:(upd G2 NW (.dT [])) NW=some (.dT (kvN [])):=Qf
  generalize upd G2 NW (.dT [])=G3 at t3 eNW ⊢
  dsimp only[QJ]
  have t13:=t2.trans t3
  have sa3:=uD.of t13
  have xx3:=xx1.mono t13
  have Qo7:G HD=none:=Us x1 uD.lst nHD
  have nNW0:G NW=none:=Us x1 uD.lst (t2.free nNW)
  have Qn2:=t13 _ _ ePL
  have eHD3:=t3 _ _ eHD
  have PLNW:PL≠NW:=QI Qn2 eNW fun z=>nomatch z
  have HDNW:HD≠NW:=QI eHD3 eNW fun z=>nomatch z
  have Qlr:gp≠NW:=Qd (t2 _ _ eg1) nNW
  refine⟨_,rfl,PL,rfl,⟨_,jk.of Qn2⟩,Ja (K:=K) (xs:=ps.map Gr.r) (fun m σ G'=>∃(rows:List Gr)(o14:Option V),σ=[some (.ref q),some (.ref st),o2,o3,o4,o5,some (.ref sl),some (.ref l),some (.ref gp),some (.ref HL),some v,some (.ref PL),some (.ref HD),some (.ref NW),o14,o15,o16,o17,none,none,none]/\SX NW G3 G'/\G' NW=some (.dT (kvN rows))/\NwI ws g (ps.take m) rows) ⟨[],_,rfl,(fun _ _ _ e=>e),eNW,NwI.nil⟩ ?_ ?_ ?_⟩
  .rintro m σ G' _ ⟨rows,o14,rfl,x4,_⟩
   exact jk.of (x4 _ _ PLNW Qn2)
  .rintro m y σ G' hy ⟨rows,o14,rfl,x4,eN4,nw⟩
   obtain⟨r,hrm,rfl⟩:∃r,ps[m]?=some r/\y=.ref r.x:=by
    rw[qJ] at hy
    cases e:ps[m]? with
    | none=>rw[e] at hy;cases hy
    | some w=>rw[e] at hy;cases hy;exact⟨w,rfl,rfl⟩
   have hrp:r∈ps:=qG hrm
   obtain⟨u1,u2,u3⟩:=hm r hrp
   have xx4:=xx3.odd x4 eNW Ug
   have gr4:=xx4.gr f.o u1
   have eg4:=x4 _ _ Qlr (t13 _ _ eg1)
   have etk:ps.take (m+1)=ps.take m++[r]:=by rw[zb,hrm];rfl
   rw[etk]
   dsimp only[QJ]
   refine⟨_,rfl,r.x,_,_,_,rfl,rfl,yu.of gr4.e,at2,_,rfl,gp,rfl,.inl ⟨_,.inl eg4⟩,_,rfl,r.x,_,_,_,rfl,rfl,yu.of gr4.e,at1,Q7 (nK nb) (inr r.h),.inl ⟨_,inr r.h,.inl eg4,rfl,rfl⟩,?_⟩
   rw[i.gd.v]
   refine⟨_,_,rfl,rfl,_,rfl,GJ (fun hz=>?_) (fun hz=>?_)⟩
   .have hz:g r.h<r.n:=by have:=qD hz;omega
    obtain⟨QkW,p1,p2,p3⟩:=nw.put ⟨u1,u2⟩ hz
    have rl:=nw.len
    refine⟨_,rfl,_,rfl,_,rfl,r.x,_,_,_,rfl,rfl,yu.of gr4.e,at1,_,rfl,r.x,_,_,_,rfl,rfl,yu.of gr4.e,at2,UW,fun kt G5 nkt t5 ekt=>⟨NW,_,rfl,.inr ⟨kvN rows,Yy r,kt,t5 _ _ eN4,rfl,ekt,?_,rfl⟩,?_⟩⟩
    .unfold kvN;rw[qd];rw[qK] at rl;exact QN (by omega)
    .exact⟨QkW,_,rfl,fun c o n e=>by rw[Qj n];exact t5 _ _ (x4 _ _ n e),by rw[Qf,p1],p2⟩
   .have hz:¬g r.h<r.n:=fun w=>hz (qt (by omega))
    exact⟨rows,_,rfl,x4,eN4,nw.skip ⟨u1,u2⟩ hz⟩
  .rintro σ G4 ⟨rows,o14,rfl,x4,eN4,nw⟩
   rw[qd,yq] at nw
   have sa4:=sa3.odd x4 eNW Ug
   have lg4:=(lg1.mono t13).odd x4 eNW Ug
   have xx4:=xx3.odd x4 eNW Ug
   have eg4:=x4 _ _ Qlr (t13 _ _ eg1)
   have HLNW:HL≠NW:=Qd (t2 _ _ eH1) nNW
   have eH4:=x4 _ _ HLNW (t13 _ _ eH1)
   have ePL4:=x4 _ _ PLNW Qn2
   have Ql7:=x4 _ _ HDNW eHD3
   have k4:KX [st,gp,HL,l] G G4:=fun c o n e=>x4 _ _ (Qd e nNW0) (t13 _ _ (k1 _ _ n e))
   obtain⟨es',fr,hw,u',nfr,hfr⟩:=Qhh f.o.val (L:=ps) i.u (fun r hr=>⟨(hm r hr).2.1,(hm r hr).1,Qfb (xx4.gr f.o (hm r hr).1)⟩) (fun r hr=>(hm r hr).2.2) hall (fun h=>(hk h).1)
   have esl:=i.esl f
   refine⟨_,rfl,_,rfl,.mk l S HD hd es es' fr ad ps rfl lg4 Ql7 (by omega) (fun r hr=>xx4.gr f.o (hm r hr).1) (fun h=>by have:=i.gl f h;omega) (by omega) hw fun S' fl ad' G5 x5 nS' nfl had afl lg5 efl gfr=>?_⟩
   dsimp only[QJ]
   obtain⟨dl4,el4⟩:=lg4.e
   have sa5:=sa4.ins x5 el4
   have xx5:ZU G5 sl ws:=xx4.lt (X:=[]) (LT.ins x5 el4) (by simp) (by simp)
   have eg5:=x5 _ _ (QI eg4 el4 fun z=>nomatch z) eg4
   have eH5:=x5 _ _ (QI eH4 el4 fun z=>nomatch z) eH4
   have ePL5:=x5 _ _ (QI ePL4 el4 fun z=>nomatch z) ePL4
   have eHD5:=x5 _ _ (QI Ql7 el4 fun z=>nomatch z) Ql7
   have eN5:=x5 _ _ (QI eN4 el4 fun z=>nomatch z) eN4
   have gr5:∀r∈ps,QY G5 r:=fun r hr=>xx5.gr f.o (hm r hr).1
   have ev:(kvN rows).map (·.2)=rows.map Gr.r:=by unfold kvN;rw[zu];rfl
   have rl:=nw.len
   refine⟨_,rfl,_,_,_,_,_,rfl,rfl,.lst efl,QaR,_,rfl,QD ?_⟩
   refine⟨_,rfl,_,rfl,Yp eHD5 ePL5 gr5 ⟨_,rfl,QD ?_⟩⟩
   refine⟨_,rfl,_,rfl,.mk NW (kvN rows) (rows.map stK) rfl eN5 (by unfold kvN;rw[qd,qd]) (nw.keys f.o) (by rw[qd];omega) (.inr fun d hd=>by obtain⟨r,_,e⟩:=zq.mp hd;exact⟨_,_,e.symm⟩) (fun m y d hy hd G' t'=>?_) fun sr G6 nsr t6 esr=>?_⟩
   .rw[ev,qJ] at hy
    rw[qJ] at hd
    cases er:rows[m]? with
    | none=>rw[er] at hy;cases hy
    | some r =>
      rw[er] at hy hd
      cases hy
      cases hd
      exact⟨r.x,_,_,_,_,rfl,t' _ _ (gr5 r ((nw.m r).mp (qG er)).1).e,fun t G2 t2 et=>⟨t2,t,rfl,et⟩⟩
   rw[ev,Ut Gr.r,<-nw.xn f.o (fun r hr=>(hm r hr).2.2) hall nfr hfr] at esr
   refine Yp (t6 _ _ efl) esr (fun r hr=>(gfr r (Q9.mp hr)).mono t6) ⟨_,rfl,QD ?_⟩
   dsimp only[VW]
   have eN6:=t6 _ _ eN5
   refine⟨NW,kvN rows,eN6,fun oa=>?_⟩
   have x7:SX NW G6 (upd G6 NW (.yR oa (.dT (kvN rows)))):=Uc
   have eN7:(upd G6 NW (.yR oa (.dT (kvN rows)))) NW=some (.yR oa (.dT (kvN rows))):=Qf
   generalize upd G6 NW (.yR oa (.dT (kvN rows)))=G7 at x7 eN7 ⊢
   have eg7:=x7 _ _ Qlr (t6 _ _ eg5)
   refine⟨_,rfl,NW,oa,kvN rows,rfl,eN7,fun bs hbs=>?_⟩
   have bl:bs.length=rows.length:=by rw[hbs.len];unfold kvN;rw[qd,qd]
   refine Qc3 (fun m σ G'=>∃(nb':List (Key×Int))(o16 o17:Option V),σ=[some (.ref q),some (.ref st),o2,o3,o4,o5,some (.ref sl),some (.ref l),some (.ref gp),some (.ref HL),some v,some (.ref PL),some (.ref HD),some (.ref NW),o14,some (.ref fl),o16,o17,none,none,none]/\SX gp G7 G'/\G' gp=some (.dK (nK nb'))/\YK (gm g (rows.take m)) nb') ⟨nb,_,_,rfl,(fun _ _ _ e=>e),eg7,i.gd⟩ ?_ ?_ ?_
   .rintro m σ G' _ ⟨nb',o16,o17,rfl,x8,_⟩
    exact x8 _ _ Qlr.symm eN7
   .rintro m b σ G' hb ⟨nb',o16,o17,rfl,x8,eg8,gd8⟩
    obtain⟨r,hrm⟩:∃r,rows[m]?=some r:=⟨_,qe (by have:=(qi.mp hb).1;omega)⟩
    have hrr:r∈rows:=qG hrm
    obtain⟨b',hb',eb⟩:=hbs.at (i:=m) (k:=Yy r) (by unfold kvN;rw[zu,qJ,hrm];rfl)
    rw[hb] at hb'
    cases hb'
    have eb8:=x8 _ _ (QI eb eg7 fun z=>nomatch z) eb
    have u2:=(nw.u r ((nw.m r).mp hrr).1).2
    refine⟨b,_,rfl,yu.of eb8,rfl,_,_,rfl,?_⟩
    dsimp only[QJ]
    refine⟨_,_,rfl,?_⟩
    dsimp only[QJ]
    refine⟨rfl,?_⟩
    refine⟨_,rfl,gp,rfl,.inl ⟨_,.inl eg8⟩,_,rfl,Q7 (nK nb') (inr r.h),.inl ⟨_,inr r.h,.inl eg8,rfl,rfl⟩,?_⟩
    rw[gd8.v]
    have etk:rows.take (m+1)=rows.take m++[r]:=by rw[zb,hrm];rfl
    have gle:∀x,gm g (rows.take m) x<=(uS ws x).length:=fun x=>by
     rcases (Qe2 (rows.take m) g).2.2 x with e | ⟨y,hy,e1,e2⟩
     .rw[e];exact i.u.le x
     .rw[e2,<-e1];exact zf (hm y ((nw.m y).mp (zR hy)).1).2.2 (hk y.h).2
    have nl:=gd8.len f.o gle
    refine⟨_,rfl,_,_,rfl,_,rfl,_,rfl,gp,_,rfl,.inl ⟨_,inr r.h,eg8,rfl,?_,rfl⟩,?_⟩
    .unfold nK;rw[qd];exact QN (by omega)
    .refine⟨_,_,_,rfl,(fun c o n e=>by rw[Qj n];exact x8 _ _ n e),?_,by rw[etk,QgG];exact gd8.step u2⟩
     rw[Qf,<-Qf8]
     congr 3
     show V.int (if ((r.n:Nat):Int) > ((gm g (rows.take m) r.h:Nat):Int) then ((r.n:Nat):Int) else ((gm g (rows.take m) r.h:Nat):Int))=_
     congr 1
     split <;> omega
   .rintro σ G8 ⟨nb',o16,o17,rfl,x8,eg8,gd8⟩
    rw[bl,yq,nw.gm (fun h=>(hk h).1) (fun r hr=>(hm r hr).2.2) hall] at gd8
    refine⟨x8 _ _ Qlr.symm eN7,?_⟩
    have eN8:=x8 _ _ Qlr.symm eN7
    have x9:SX NW G8 (upd G8 NW (.dT (kvN rows))):=Uc
    generalize upd G8 NW (.dT (kvN rows))=G9 at x9 ⊢
    have sa9:=(((sa5.of t6).odd x7 eN6 Ug).odd x8 eg7 Ws).odd x9 eN8 QaF
    have lg9:=(((lg5.mono t6).odd x7 eN6 Ug).odd x8 eg7 Ws).odd x9 eN8 QaF
    have xx9:=(((xx5.mono t6).odd x7 eN6 Ug).odd x8 eg7 Ws).odd x9 eN8 QaF
    have eg9:=x9 _ _ Qlr eg8
    have l59:∀c xs,G5 c=some (.lst xs)->G9 c=some (.lst xs):=fun c xs e=>by
     have e6:=t6 _ _ e
     have e7:=x7 _ _ (QI e6 eN6 fun z=>nomatch z) e6
     have e8:=x8 _ _ (QI e7 eg7 fun z=>nomatch z) e7
     exact x9 _ _ (QI e8 eN8 fun z=>nomatch z) e8
    have eH9:=l59 _ _ eH5
    have eHD9:=l59 _ _ eHD5
    have Qpr:=l59 _ _ efl
    obtain⟨ad2,lgN,na1,na2⟩:=lg9.norm
    obtain⟨dl9,el9⟩:=lgN.e
    have eHD4':=Ql7
    have ng:∀c xs ys,(∀h,ad h≠c)->G4 c=some (.lst xs)->G9 c=some (.lst ys)->∀h,ad2 h≠c:=fun c xs ys n e4 e9 h z=>by
     by_cases hh:h∈yf es'
     .rw[na1 h hh] at z
      rcases had h with w | w
      .exact n h (w.symm.trans z)
      .rw[z,e4] at w;cases w
     .rw[na2 h hh] at z
      rw[<-z,el9] at e9;cases e9
    have nst:=ng st _ _ (fun h=>(i.nad h).1) sa4.lst.choose_spec sa9.lst.choose_spec
    have nHL:=ng HL _ _ (fun h=>(i.nad h).2) eH4 eH9
    have nHDa:=ng HD _ _ (fun h z=>by obtain⟨o,e⟩:=i.al h;rw[z,Qo7] at e;cases e) Ql7 eHD9
    have nfla:∀h,ad2 h≠fl:=fun h z=>by
     by_cases hh:h∈yf es'
     .rw[na1 h hh] at z;exact afl h hh z
     .rw[na2 h hh] at z
      rw[<-z,el9] at Qpr;cases Qpr
    have nd':=lgN.sh.nd
    have gi':=gd8.got u' nd' lgN.sh.nn
    refine⟨_,rfl,_,rfl,_,rfl,_,rfl,.mk st q l S' sl gp ns hd es' ad2 ws k' nb' rfl sa9 f.ln lgN nst f.o xx9 f.n1 f.n3 (.inl eg9) gi' u' fun G10 x10 sa10=>⟨_,rfl,QD ?_⟩⟩
    dsimp only[VW]
    have lst9:=sa9.lst
    have Qpe:=lgN.sx x10 lst9 nst
    have xx10:ZU G10 sl ws:=xx9.lt (LT.sx x10 lst9) (by simpa using f.n1) (fun w hw=>by simpa using f.n3 w hw)
    have Qpq:=x10 _ _ f.n6 eg9
    have Qpv:=x10 _ _ f.n5 eH9
    have HDst:HD≠st:=uD.nst nHD
    have flst:fl≠st:=sa4.nst nfl
    have HDfl:HD≠fl:=Qd Ql7 nfl
    have Qoa:HL≠fl:=Qd eH4 nfl
    have Qob:HL≠HD:=Qd eH1 nHD
    have QlG:=x10 _ _ HDst eHD9
    have QlF:=x10 _ _ flst Qpr
    obtain⟨dl10,Qm2⟩:=Qpe.e
    have frlen:(xn stK fr).length<=37:=by rw[nw.xn f.o (fun r hr=>(hm r hr).2.2) hall nfr hfr,YR];omega
    have tlB:=ZX f.o u' nd' (fun _=>0)
    have esl':es'.length<=144:=zf (X4 lgN.sh) tlB
    refine⟨_,rfl,.inl ⟨rfl,_,jk.of Qpv⟩,_,rfl,l,dl10,_,rfl,Qm2,rfl,.mk l S' .non hd es' ad2 (fun _=>0) rfl Qpe .non (YN f.o u' nd' _) (by omega) fun z1 G11 t11 nz1 ez1=>⟨_,rfl,_,rfl,fun e0 ne0=>?_⟩⟩
    have t12:Qi G11 (upd G11 e0 (.dK [])):=Qi.zT ne0
    have ee0:(upd G11 e0 (.dK [])) e0=some (.dK []):=Qf
    generalize upd G11 e0 (.dK [])=G12 at t12 ee0 ⊢
    have QlB:=t11.trans t12
    refine⟨sl,gp,e0,ws,k',fun _=>0,rfl,f.o,xx10.mono QlB,⟨nb',.inl (QlB _ _ Qpq),gd8.v⟩,⟨[],.inl ee0,fun h=>rfl⟩,fun z2 G13 t13' nz2 ez2=>⟨UW,fun tp G14 ntp t14 etp=>?_⟩⟩
    rw[<-KP f.o u' nd'] at ez2
    have gO:=(QlB.trans t13').trans t14
    have Qlt:=gO _ _ Qpv
    have hsl1:hs.length<=24:=by omega
    refine⟨HL,_,_,rfl,rfl,Qlt,(by rw[qd];exact QN (by omega)),?_⟩
    have x15:SX HL G14 (upd G14 HL (.lst (hs.map V.ref++[V.ref tp]))):=Uc
    have Qn4:(upd G14 HL (.lst (hs.map V.ref++[V.ref tp]))) HL=some (.lst ((hs++[tp]).map V.ref)):=by rw[Qf,zc];rfl
    have sa15:yS K (upd G14 HL (.lst (hs.map V.ref++[V.ref tp]))) st q ns:=(sa10.of gO).upd f.n5 f.sh
    generalize upd G14 HL (.lst (hs.map V.ref++[V.ref tp]))=G15 at x15 Qn4 sa15 ⊢
    have Qpd:=(Qpe.mono gO).sx x15 ⟨_,Qlt⟩ nHL
    have xx15:ZU G15 sl ws:=(xx10.mono gO).lt (LT.sx x15 ⟨_,Qlt⟩) (by simpa using f.n2) (fun w hw=>by simpa using f.n4 w hw)
    have eg15:=x15 _ _ f.n7 (gO _ _ Qpq)
    obtain⟨dl15,el15⟩:=Qpd.e
    refine⟨_,rfl,.inl ⟨rfl,_,jk.of Qn4⟩,_,rfl,l,dl15,_,rfl,el15,rfl,.mk l S' hd es' ad2 rfl Qpd (by omega) fun z3 G16 t16 nz3 ez3=>⟨_,rfl,gp,_,rfl,.inl (t16 _ _ eg15),fun z4 nz4=>?_⟩⟩
    have t17:Qi G16 (upd G16 z4 (.dK (nK nb'))):=Qi.zT nz4
    have ez4:(upd G16 z4 (.dK (nK nb'))) z4=some (.dK (nK nb')):=Qf
    generalize upd G16 z4 (.dK (nK nb'))=G17 at t17 ez4 ⊢
    refine⟨UW,fun tq G18 ntq t18 etq=>?_⟩
    have uL:=(t16.trans t17).trans t18
    have Qn3:=uL _ _ Qn4
    refine⟨HL,_,_,rfl,rfl,Qn3,(by rw[qd,qy];exact QN (by show _+1<=1000;omega)),?_⟩
    have x19:SX HL G18 (upd G18 HL (.lst ((hs++[tp]).map V.ref++[V.ref tq]))):=Uc
    have eH19:(upd G18 HL (.lst ((hs++[tp]).map V.ref++[V.ref tq]))) HL=some (.lst ((hs++[tp]++[tq]).map V.ref)):=by rw[Qf,zc (l₂:=[tq])];rfl
    have sa19:yS K (upd G18 HL (.lst ((hs++[tp]).map V.ref++[V.ref tq]))) st q ns:=(sa15.of uL).upd f.n5 f.sh
    generalize upd G18 HL (.lst ((hs++[tp]).map V.ref++[V.ref tq]))=G19 at x19 eH19 sa19 ⊢
    have lg19:=(Qpd.mono uL).sx x19 ⟨_,Qn3⟩ nHL
    have xx19:ZU G19 sl ws:=(xx15.mono uL).lt (LT.sx x19 ⟨_,Qn3⟩) (by simpa using f.n2) (fun w hw=>by simpa using f.n4 w hw)
    have QnZ:=x19 _ _ f.n7 (uL _ _ eg15)
    have Qj8:=x19 _ _ Qob.symm (uL _ _ (x15 _ _ Qob.symm (gO _ _ QlG)))
    have efl19:=x19 _ _ Qoa.symm (uL _ _ (x15 _ _ Qoa.symm (gO _ _ QlF)))
    refine⟨_,rfl,.inl ⟨rfl,_,jk.of Qj8⟩,HD,_,rfl,rfl,Qj8,?_⟩
    have x20:SX HD G19 (upd G19 HD (.lst [])):=Uc
    have sa20:yS K (upd G19 HD (.lst [])) st q ns:=sa19.upd HDst (uD.scn nHD)
    generalize upd G19 HD (.lst [])=G20 at x20 sa20 ⊢
    have sln:∀c xs,G c=some (.lst xs)->c≠HD:=fun c xs e=>Qd e Qo7
    have lg20:=lg19.sx x20 ⟨_,Qj8⟩ nHDa
    have xx20:ZU G20 sl ws:=xx19.lt (LT.sx x20 ⟨_,Qj8⟩) (by simpa using sln _ _ i.x.e) (fun w hw=>by simpa using sln _ _ (i.x.l w hw))
    have Qk7:=x20 _ _ HDfl.symm efl19
    refine⟨_,rfl,.inl ⟨rfl,_,jk.of Qk7⟩,fl,_,_,rfl,rfl,Qk7,(by rw[qd];exact QN (by omega)),?_⟩
    have x21:SX fl G20 (upd G20 fl (.lst ((xn stK fr).map Gr.r++[V.str "x"]))):=Uc
    have sa21:yS K (upd G20 fl (.lst ((xn stK fr).map Gr.r++[V.str "x"]))) st q ns:=sa20.upd flst (sa4.scn nfl)
    generalize upd G20 fl (.lst ((xn stK fr).map Gr.r++[V.str "x"]))=G21 at x21 sa21 ⊢
    have sfl:∀c xs,G4 c=some (.lst xs)->c≠fl:=fun c xs e=>Qd e nfl
    have QnP:=lg20.sx x21 ⟨_,Qk7⟩ nfla
    have xx21:ZU G21 sl ws:=xx20.lt (LT.sx x21 ⟨_,Qk7⟩) (by simpa using sfl _ _ xx4.e) (fun w hw=>by simpa using sfl _ _ (xx4.l w hw))
    have kF:KX [st,gp,HL,l] G G21:=fun c o n e=>by
     have e4:=k4 _ _ n e
     simp only[qR,ye,or_false,not_or] at n
     obtain⟨m1,m2,m3,m4⟩:=n
     have n1:c≠NW:=Qd e nNW0
     exact x21 _ _ (Qd e4 nfl) (x20 _ _ (Qd e Qo7) (x19 _ _ m3 (uL _ _ (x15 _ _ m3 (gO _ _ (x10 _ _ m1 (x9 _ _ n1 (x8 _ _ m2 (x7 _ _ n1 (t6 _ _ (x5 _ _ m4 e4)))))))))))
    have kZ:∀c o,c≠HL->c≠HD->c≠fl->G18 c=some o->G21 c=some o:=fun c o m1 m2 m3 e=>x21 _ _ m3 (x20 _ _ m2 (x19 _ _ m1 e))
    have kY:∀c o,c≠HL->c≠HD->c≠fl->G14 c=some o->G21 c=some o:=fun c o m1 m2 m3 e=>kZ c o m1 m2 m3 (uL _ _ (x15 _ _ m1 e))
    have out:∀c,G10 c=none->c∉[st,gp,HL,l]/\c≠HL/\c≠HD/\c≠fl:=fun c n=>by
     have m1:=sa10.nst n
     have m2:=(Qd Qpq n).symm
     have m3:=(Qd Qpv n).symm
     have m4:=(Qd Qm2 n).symm
     exact⟨by simp[m1,m2,m3,m4],m3,(Qd QlG n).symm,(Qd QlF n).symm⟩
    have back:∀c,G15 c=none->G10 c=none:=fun c n=>by
     cases e:G10 c with
     | none=>rfl
     | some o =>
       by_cases z:c=HL
       .rw[z,Qn4] at n;cases n
       .rw[x15 _ _ z (gO _ _ e)] at n;cases n
    obtain⟨b1,b2,b3,b4⟩:=out z1 nz1
    obtain⟨c1,c2,c3,c4⟩:=out z2 (QlB.free nz2)
    obtain⟨d1,d2,d3,d4⟩:=out z3 (back z3 nz3)
    obtain⟨f1,f2,f3,f4⟩:=out z4 (back z4 (t16.free nz4))
    have ez1':=kY _ _ b2 b3 b4 (t14 _ _ (t13' _ _ (t12 _ _ ez1)))
    have ez2':=kY _ _ c2 c3 c4 (t14 _ _ ez2)
    have ez3':=kZ _ _ d2 d3 d4 (t18 _ _ (t17 _ _ ez3))
    have ez4':=kZ _ _ f2 f3 f4 (t18 _ _ ez4)
    have etp':=kY _ _ (QI etp Qlt fun z=>nomatch z) (QI etp (gO _ _ QlG) fun z=>nomatch z) (QI etp (gO _ _ QlF) fun z=>nomatch z) etp
    have eHD18:=uL _ _ (x15 _ _ Qob.symm (gO _ _ QlG))
    have efl18:=uL _ _ (x15 _ _ Qoa.symm (gO _ _ QlF))
    have etq':=kZ _ _ (QI etq Qn3 fun z=>nomatch z) (QI etq eHD18 fun z=>nomatch z) (QI etq efl18 fun z=>nomatch z) etq
    refine⟨S',es',ad2,nb',hs++[tp]++[tq],k',_,_,_,_,_,_,_,_,rfl,⟨sa21,QnP,fun h=>⟨nst h,nHL h⟩,fun h=>?_,xx21,x21 _ _ (QI (x20 _ _ (QI QnZ Qj8 fun z=>nomatch z) QnZ) Qk7 fun z=>nomatch z) (x20 _ _ (QI QnZ Qj8 fun z=>nomatch z) QnZ),gd8,u',x21 _ _ Qoa (x20 _ _ Qob eH19),fun t ht=>?_⟩,?_,k0.trans kF⟩
    .by_cases hh:h∈yf es'
     .exact⟨_,QnP.sh.l h hh⟩
     .rw[na2 h hh];obtain⟨dz,ez⟩:=QnP.e;exact⟨_,ez⟩
    .rcases qF.mp ht with ht | ht
     .rcases qF.mp ht with ht | ht
      .exact(i.hp t ht).kx kF i.nt
      .rw[qg.mp ht]
       exact .rows z1 z2 _ etp' b1 c1 ez1' ez2' QnP.told
     .rw[qg.mp ht]
      exact .dict z3 z4 _ _ etq' d1 f1 ez3' ez4' gi'.hit
    .rw[qy,qy,hsl]
     show 2*j+1+1=2*(j+1)
     omega
 .rintro σ G' ⟨S,es,ad,nb,hs,g,o10,o11,o12,o13,o14,o15,o16,o17,rfl,i,hsl,k0⟩
  refine endE D q st l gp HL S ns hd es ad nb hs _ _ _ _ _ _ _ _ _ _ _ _ _ G' (i.end_ f ?_) f.ln kq
  rw[qd,qK] at hsl
  omega
end
structure SqG(G:Hp)(X:List Addr)(w:Sq):Prop where
 e:G w.a=some (.lst (w.rs.map Gr.r))
 n:w.a∉X
 v:Val w.h w.rs
 lo:1<=w.rs.length
 hi:w.rs.length<=36
 g:∀r∈w.rs,QY G r
theorem SqG.lt{G G':Hp}{X:List Addr}{w:Sq}(s:SqG G X w)(k:LT X G G'):SqG G' X w:=⟨k.l _ _ s.n s.e,s.n,s.v,s.lo,s.hi,fun r hr=>(s.g r hr).lt k⟩
section
variable {P:Program}{w:World}{K:Frag}{mg:Str->Option Value}{base:Heap}{a:yE}
theorem QhW{fd:FuncData}(F:jZ K "law" "law" Ux a.Qju fd)(T:Txt K mg a)(FF:Zr K a):QH P w K mg base vV 60 a.Qju fd ["_law_script"] (QmH K):=by
 obtain⟨fd1,Qfu,Qma⟩:=FF.Qfu
 have Qmi:=@Qeu P w K mg base a _ Qfu T
 obtain⟨fd2,qY,zF⟩:=FF.qY
 have zG:=@Jm P w K mg base a _ qY T
 obtain⟨fd3,u9,Ql9⟩:=FF.u9
 have Qmh:=@Qcy P w K mg base a _ u9 T FF
 obtain⟨fd4,F4,QjT⟩:=FF.QjZ
 have QjY:=@Qep P w K mg base a _ F4 T FF
 obtain⟨fd5,uo,Qlu⟩:=FF.uo
 have Qlx:=@Qcu P w K mg base a _ uo T FF
 refine F.ok Q4 (fun _ _ _ _ h=>by cases h;subst_vars;rfl) (fun cdv A outer s H vs Q E hr h=>?_)
 .obtain⟨q,ns,rfl,hS,hlen,kq⟩:=h
  obtain⟨tL,hL,loopL⟩:=QeH (P:=P) (w:=w) (base:=base) (outer:=outer) (H:=H) (E:=E) T FF hr
  have hr1:Qv 1 _:=hr.mono (by decide)
  have hr3:Qv 3 _:=hr.mono (by decide)
  have hr4:Qv 4 _:=hr.mono (by decide)
  have hr6:Qv 6 _:=hr.mono (by decide)
  refine⟨_,(Qa (Qm (i:=1) Q4.nd rfl (Or.inr rfl) (Qk Qmi hr1 rfl T.QlY Qfu.kp Qma .nil Qn (zy (pv 0) Qc)))
   (Qa (Qm (i:=2) Q4.nd rfl (Or.inl rfl) (Qk Qmh hr3 rfl T.QlX u9.kp Ql9 .nil Qn (zy (pv 1) (zy Qb Qc))))
   (Qa (Qm (i:=3) Q4.nd rfl (Or.inr rfl) (QR Qo))
   (Qa (Qm (i:=4) Q4.nd rfl (Or.inr rfl) (Qp QS (QR (Qe Qb (Qe Qb (Qe Qb (Qe Qb (Qe Qb (Qe Qb (Qe Qb (Qe Qb Qo))))))))) (Qt QM (Qk zG hr1 rfl T.je qY.kp zF .nil Qn (zy (pv 1) Qc)) Qb)))
   (Qa (Qm (i:=5) Q4.nd rfl (Or.inl rfl) (ZL JY (pv 2) Yl (ZK (Qt QQ Qb (Qt QM (Qk zG hr1 rfl T.je qY.kp zF .nil Qn (zy (pv 1) Qc)) Qb)))))
   (Qa (Wn (sc:=Qh Ux) (N:=Wt) (i:=6) (fr:=[(1,"_law_state"),(3,"_law_names"),(4,"_law_most")]) ⟨rfl,rfl,by decide +kernel,by decide +kernel,by decide +kernel,by decide +kernel,by decide +kernel⟩ rfl rfl rfl Q4.nd rfl rfl (Zm (pv 5)) (fun _ _ _ _=>YY) (fun _ _ _ _=>(Qk Qlx hr6 rfl T.Qll uo.kp Qlu .nil Qn (zy (pv 1) (zy (pv 0) (zy (Qt QQ Qb (Qt QM (Qk zG hr1 rfl T.je qY.kp zF .nil Qn (zy (pv 1) Qc)) (pv 3))) (zy (pv 2) Qc)))))))
   (Qa (Qm (i:=7) Q4.nd rfl (Or.inr rfl) (Qgc T.QmS QjY hr4 rfl T.QlW QjT .nil Qeh (zy (Qp QS (pv 2) (Qt QM (Qk zG hr1 rfl T.je qY.kp zF .nil Qn (zy (pv 1) Qc)) Qb)) Qc)))
   (Qa (Qd8 (Qm (i:=8) Q4.nd rfl (Or.inl rfl) Z8))
   (Qa (Qm (i:=9) Q4.nd rfl (Or.inl rfl) (QR Qo))
   hL))))))))),?_⟩
  refine⟨_,rfl,q,ns,rfl,hS,hlen,fun st hst H1 s1 uD=>?_⟩
  refine⟨_,rfl,st,q,ns,5,rfl,uD,hlen,by decide,by decide,fun HH xs H2 nHH hok hxl eHH x2 sa2=>?_⟩
  refine⟨qP _,fun NL H3 nNL s3 eNL=>?_⟩
  dsimp only[QJ]
  have sa3:=sa2.of s3
  have QpI:HH≠st:=uD.nst nHH
  have Qm9:NL≠st:=sa2.nst nNL
  have scN:ScN K q ns NL:=sa2.scn nNL
  have eHH3:=s3 _ _ eHH
  have HHNL:HH≠NL:=Qd eHH nNL
  refine⟨zl_8,fun ML H4 nML s4 eML=>?_⟩
  have sa4:=sa3.of s4
  refine⟨_,rfl,st,q,ns,rfl,sa4,hlen,fun r4 H5 r40 r41 x5 sa5=>⟨_,_,rfl,rfl,zi_8,?_⟩⟩
  have MLst:ML≠st:=sa3.nst nML
  obtain⟨d,hd,hd1,hd2⟩:∃d:Int,atI [V.int 12,V.int 12,V.int 12,V.int 12,V.int 12,V.int 12,V.int 12,V.int 36] (r4 % 8)=some (.int d)/\12<=d/\d<=36:=by
   have q0:=zP r4 (b:=8) (by omega)
   have q1:=zN r4 (b:=8) (by omega)
   generalize r4 % 8=z at q0 q1
   have:z=0\/z=1\/z=2\/z=3\/z=4\/z=5\/z=6\/z=7:=by omega
   rcases this with rfl | rfl | rfl | rfl | rfl | rfl | rfl | rfl
   all_goals first | exact⟨12,rfl,by omega,by omega⟩ | exact⟨36,rfl,by omega,by omega⟩
  refine⟨ML,_,_,_,rfl,rfl,jk.of (x5 _ _ MLst eML),hd,?_⟩
  dsimp only[QJ]
  have eHH5:=x5 _ _ QpI (s4 _ _ eHH3)
  have eNL5:=x5 _ _ Qm9 (s4 _ _ eNL)
  refine⟨_,rfl,_,rfl,st,q,ns,rfl,sa5,hlen,fun r5 H6 r50 r51 x6 sa6=>⟨_,_,rfl,rfl,Qnu,_,_,rfl,rfl,?_⟩⟩
  obtain⟨m,hm,hm1,hm3⟩:∃m:Nat,1+r5 % 4=((m:Nat):Int)/\1<=m/\m<=4:=⟨(1+r5 % 4).toNat,by omega,by omega,by omega⟩
  rw[hm]
  have eHH6:=x6 _ _ QpI eHH5
  have eNL6:=x6 _ _ Qm9 eNL5
  refine⟨_,rfl,HH,_,rfl,jk.of eHH6,fun sm H7 nsm s7 esm=>?_⟩
  rw[Qhd] at esm
  dsimp only[QJ]
  have sa7:=sa6.of s7
  have Qpu:=s7 _ _ eNL6
  have eHH7:=s7 _ _ eHH6
  have nsmX:sm≠st/\sm≠NL:=⟨sa6.nst nsm,(Qd eNL6 nsm).symm⟩
  refine⟨_,rfl,sm,rfl,⟨_,jk.of esm⟩,Qa4 (K:=K) (xs:=(xs.take m).map V.str) (fun D i ys G=>∃(ws:List Sq)(nms:QpK),ws.length=i/\ys=ws.map (fun w=>V.ref w.a)/\G D=some (.lst ys)/\KX [st,NL,D] H7 G/\yS K G st q ns/\G NL=some (.lst (nms.map V.str))/\(∀x∈nms,Q6 x)/\nms.length<=36*i/\ws.map (·.h)=xs.take i/\∀w∈ws,SqG G [st,NL,D] w) (Q2 ((by rw[qd,qK];omega))) (fun D nD=>?_) (fun D i ys G hp=>?_) (fun D i ys G nD hp=>?_) (fun D i x ys G Q' hx nD hp kont=>?_) fun SL ys H8 nSL hp=>?_⟩
  .exact⟨[],[],rfl,rfl,Qf,KX.upd (by simp),sa7.upd (sa7.nst nD) (sa7.scn nD),by rw[Qj (Qd Qpu nD)];exact Qpu,(fun x hx=>nomatch hx),qP _,rfl,fun w hw=>nomatch hw⟩
  .obtain⟨ws,nms,h1,h2,_⟩:=hp
   rw[h2,qd,h1]
  .obtain⟨ws,nms,h1,h2,h3,h4,_⟩:=hp
   exact⟨jk.of (h4 _ _ (by have:=Qd esm nD;simp[nsmX.1,nsmX.2,this]) esm),h3⟩
  .obtain⟨ws,nms,h1,rfl,h3,h4,h5,h6,h7,h8,h9,h10⟩:=hp
   have Dst:=sa7.nst nD
   have DNL:D≠NL:=(Qd Qpu nD).symm
   have hi:i<m:=by have:=(qi.mp hx).1;rw[qd,qK] at this;omega
   rw[qJ] at hx
   cases eh:(xs.take m)[i]? with
   | none=>rw[eh] at hx;cases hx
   | some h =>
     rw[eh] at hx
     cases hx
     have ehx:xs[i]?=some h:=by rw[za,qj hi] at eh;exact eh
     have hh:ZS h:=hok.h h (qG ehx)
     refine⟨_,rfl,_,rfl,_,rfl,st,q,ns,rfl,h5,hlen,fun r5 G1 r50 r51 x1 sa1'=>⟨_,rfl,_,_,rfl,rfl,(by omega),_,_,rfl,rfl,?_⟩⟩
     obtain⟨m',hm',hm4,hm12⟩:∃m':Nat,1+r5 % d=((m':Nat):Int)/\1<=m'/\m'<=36:=by
      have a1:=zP r5 (b:=d) (by omega)
      have a2:=zN r5 (b:=d) (by omega)
      exact⟨(1+r5 % d).toNat,by omega,by omega,by omega⟩
     rw[hm']
     refine⟨_,rfl,st,q,NL,ns,nms,h,m',rfl,sa1',hlen,x1 _ _ Qm9 h6,h7,by omega,Qm9,scN,hh,by omega,fun l rs uB G2 nl kx2 sa2' eNL2 hw' hn' el hrs vl hgr=>?_⟩
     have h31:=x1 _ _ Dst h3
     have eD2:=kx2 _ _ (by simp[Dst,DNL]) h31
     have lD:l≠D:=(Qd h31 nl).symm
     have ktD:∀c zs,G2 c=some (.tup zs)->(upd G2 D (.lst (ws.map (fun w=>V.ref w.a)++[V.ref l]))) c=some (.tup zs):=fun c zs e=>by rw[Qj (QI e eD2 fun z=>nomatch z)];exact e
     have kG:KX [st,NL,D] G (upd G2 D (.lst (ws.map (fun w=>V.ref w.a)++[V.ref l]))):=((KX.sx (by simp) x1).trans (kx2.sub (by simp))).trans (KX.upd (by simp))
     have lG:LT [st,NL,D] G (upd G2 D (.lst (ws.map (fun w=>V.ref w.a)++[V.ref l]))):=.kx kG fun c hc=>by
      simp only[qR,ye,or_false] at hc
      rcases hc with rfl | rfl | rfl
      .exact h5.lst
      .exact⟨_,h6⟩
      .exact⟨_,h3⟩
     have lst':l≠st:=sa1'.nst nl
     have lNL:l≠NL:=(Qd (x1 _ _ Qm9 h6) nl).symm
     refine kont _ _ eD2 ⟨ws++[⟨h,rs,l⟩],uB,by rw[qy,h1];rfl,by rw[zc];rfl,Qf,h4.trans kG,sa2'.upd Dst (sa7.scn nD),by rw[Qj DNL.symm];exact eNL2,hw',by omega,by rw[zc,h9,zb,ehx];rfl,fun w hw=>?_⟩
     rcases qF.mp hw with hw | hw
     .exact(h10 w hw).lt lG
     .rw[qg.mp hw]
      exact⟨by rw[Qj lD];exact el,by simp[lst',lNL,lD],vl,by rw[hrs];exact hm4,by rw[hrs];exact hm12,fun r hr=>(hgr r hr).1.tups ktD⟩
  obtain⟨ws,nms,hwl,rfl,eSL,kx8,sa8,eNL8,hw8,hn8,hwh,hsq⟩:=hp
  have SLst:=sa7.nst nSL
  have o:JA ws:=⟨by rw[hwh];exact hok.nd.sublist (jl _ _),fun w hw=>(hsq w hw).v,fun w hw=>(hsq w hw).lo,fun w hw=>(hsq w hw).hi,by rw[hwl,qd,qK];omega⟩
  have eHH8:=kx8 _ _ (by have:=Qd eHH7 nSL;simp[*]) eHH7
  dsimp only[QJ]
  have xx8:ZU H8 SL ws:=⟨eSL,fun w hw=>(hsq w hw).e,fun w hw=>(hsq w hw).g⟩
  have nst8:∀w∈ws,w.a≠st:=fun w hw z=>(hsq w hw).n (by simp[z])
  refine⟨_,rfl,_,rfl,st,q,ns,rfl,sa8,hlen,fun r8 H9 r80 r81 x9 sa9=>?_⟩
  have hx5:(((xs.map V.str).length:Nat):Int)=5:=by rw[qd,hxl];rfl
  obtain⟨v,hv,hvm,_⟩:=VO (xs:=xs.map V.str) r8 (by rw[qd,hxl];decide)
  rw[hx5] at hv
  obtain⟨hdn,hdm,rfl⟩:=zq.mp hvm
  have hh:=hok.h hdn hdm
  refine⟨_,_,rfl,rfl,(by decide),HH,_,_,_,rfl,rfl,jk.of (x9 _ _ QpI eHH8),hv,?_⟩
  have xx9:ZU H9 SL ws:=xx8.lt (LT.sx x9 sa8.lst) (by simpa using SLst) (fun w hw=>by simpa using nst8 w hw)
  intro l0 d0 nl0 nd0 ne0
  refine⟨l0,d0,.str hdn,.str hdn,rfl,Qf,.str (by have:=hh.hi;omega) hh.asc,fun hd' e hH S H10 x10 Qm2 Qn1 nS10=>⟨rfl,?_⟩,fun hb=>absurd ((show isH hdn=false from hb).symm.trans (QeU hh)) (by decide)⟩
  cases e
  have s10:Qi H9 H10:=QcP nl0 nd0 x10
  dsimp only[QJ]
  refine⟨S,[],Qn1,fun oa=>?_⟩
  have x11:SX S H10 (upd H10 S (.yR oa (.dK []))):=Uc
  have eS11:(upd H10 S (.yR oa (.dK []))) S=some (.yR oa (.dK [])):=Qf
  generalize upd H10 S (.yR oa (.dK []))=H11 at x11 eS11 ⊢
  have QmI:=(sa9.of s10).odd x11 Qn1 Ws
  have QoJ:=(xx9.mono s10).odd x11 Qn1 Ws
  have Ql6:=x11 _ _ (QI Qm2 Qn1 fun z=>nomatch z) Qm2
  intro gp ngp
  have s12:Qi H11 (upd H11 gp (.dK [])):=Qi.zT ngp
  have Qpp:(upd H11 gp (.dK [])) gp=some (.dK (nK [])):=Qf
  generalize upd H11 gp (.dK [])=H12 at s12 Qpp ⊢
  dsimp only[QJ]
  refine⟨qP _,fun HL H13 nHL s13 eHL=>?_⟩
  dsimp only[QJ]
  have QkV:=s12.trans s13
  have sa12:=QmI.of s12
  have eSL12:=(QoJ.mono s12).e
  refine loopL _ q st l0 gp HL S SL ns hdn [] (fun _=>l0) [] ws (fun _=>0) _ _ _ _ H13 ⟨QmI.of QkV,⟨⟨_,QkV _ _ Ql6⟩,⟨_,QkV _ _ eS11⟩,⟨jU,(fun h hh=>nomatch hh),(fun h r hr=>nomatch hr),fun h hh=>nomatch hh⟩⟩,fun h=>⟨fun z=>?_,(Qd (s12 _ _ Ql6) nHL)⟩,fun h=>⟨_,QkV _ _ Ql6⟩,QoJ.mono QkV,s13 _ _ Qpp,YK.nil,⟨fun h=>by rw[yg];rfl,fun h=>qP _⟩,eHL,fun t ht=>nomatch ht⟩ ⟨o,hh,SLst,(Qd eSL12 nHL),nst8,fun w hw=>(Qd ((QoJ.mono s12).l w hw) nHL),sa12.nst nHL,QmI.nst ngp,(Qd Qpp nHL),QmI.scn ngp,sa12.scn nHL,hlen⟩ fun H'=>kq H'
  obtain⟨ys,e⟩:=QmI.lst
  rw[<-z,Ql6] at e;cases e
end
def tab:List Tab:=[tF "all_among" Ju,
 tF "is_word" UD,
 tF "is_text" UE,
 tF "is_whole" YV,
 tF "is_answered" Je,
 tF "check_parts" Jf,
 tF "letter_of" Yc,
 tF "is_hand" UF,
 tF "are_parts" Yg,
 tF "is_deed" UG,
 tF "is_counted" JH,
 tF "is_stamped" JG,
 tF "stamp_of" YQ,
 tF "number_of" Yb,
 tF "name_behind" ZI,
 tF "check_parcel" Zz,
 tF "check_next" JI,
 tF "_law_begin" UB,
 tF "_law_next" VB,
 tF "_law_word" Uy,
 tF "_law_any_word" JE,
 tF "_law_hands" UA,
 tF "_law_parts" Uz,
 tF "_law_deed" VC,
 tF "_law_stream" YT,
 tF "_law_shuffled" JC,
 tF "_law_by_stamp" JD,
 tF "_law_took" VA,
 tF "_law_parcel" YU,
 tF "_law_all" X2,
 tF "_law_had" X1,
 tF "_law_all_told" JF,
 tF "_law_asked" UC,
 tF "_law_puts_right" Z2,
 tF "law" Ux,
 tD (some "Letter") "__init__" "Letter.__init__" Jg [Hd.bv (.str "")],
 tM "Ledger" "__init__" "Ledger.__init__" Jj,
 tM "Ledger" "shelf" "Ledger.shelf" Z3,
 tM "Ledger" "do" "Ledger.do" Jv,
 tM "Ledger" "have" "Ledger.have" Jk,
 tD (some "Ledger") "told" "Ledger.told" Jh [Hd.bv (.non)],
 tM "Ledger" "weighed" "Ledger.weighed" ZB,
 tM "Ledger" "take" "Ledger.take" Ji]
def obs(K:Frag):List (Option (FuncData×Option (QpM))×Bool)×Bool:=(tab.map fun t=>Hd.see K (match t.1 with | none=>Hd.gl K t.2.1 | some c=>findIn K (.ref (Hd.cl K c)) t.2.1) t.2.2.1,
 [decide ((Hd.gl K "WORD_SIGNS").map (Option.map Hd.uO)=some (some (Hd.bv (.str "abcdefghijklmnopqrstuvwxyz0123456789")))),
  decide ((Hd.gl K "MOST_WORD").map (Option.map Hd.uO)=some (some (Hd.bv (.int 20)))),
  decide ((Hd.gl K "MOST_TITLE").map (Option.map Hd.uO)=some (some (Hd.bv (.int 60)))),
  decide ((Hd.gl K "MOST_BODY").map (Option.map Hd.uO)=some (some (Hd.bv (.int 400)))),
  decide ((Hd.gl K "LAST_DAY").map (Option.map Hd.uO)=some (some (Hd.bv (.int 9999)))),
  decide ((Hd.gl K "HAND_SIGNS").map (Option.map Hd.uO)=some (some (Hd.bv (.str "abcdefghijklmnopqrstuvwxyz")))),
  decide ((Hd.gl K "MOST_HAND").map (Option.map Hd.uO)=some (some (Hd.bv (.int 8)))),
  decide (Hd.gl K "len"=some none),
  decide (Hd.gl K "range"=some none),
  decide (Hd.gl K "isinstance"=some none),
  decide (Hd.gl K "str"=some none),
  decide (Hd.gl K "int"=some none),
  decide (Hd.gl K "bool"=some none),
  decide (Hd.gl K "list"=some none),
  decide (Hd.gl K "tuple"=some none),
  decide (Hd.gl K "dict"=some none),
  decide (Hd.gl K "max"=some none),
  decide (Hd.gl K "all"=some none),
  decide (Hd.gl K "sorted"=some none),
  decide (Hd.gl K "Letter"=some (some (.ref (Hd.cl K "Letter")))),
  plainGet K (Hd.cl K "Letter") Str.empty,
  hasDictIn K (Hd.cl K "Letter"),
  plainOver K (Hd.cl K "Letter"),
  decide (findIn K (.ref (Hd.cl K "Letter")) "__setattr__"=some (some (.builtin "object.__setattr__"))),
  makesIn K (Hd.cl K "Letter"),
  keepIn K (.ref (Hd.cl K "Letter")),
  decide (findIn K (.ref (Hd.cl K "Letter")) "sender"=some none),
  decide (findIn K (.ref (Hd.cl K "Letter")) "title"=some none),
  decide (findIn K (.ref (Hd.cl K "Letter")) "body"=some none),
  decide (findIn K (.ref (Hd.cl K "Letter")) "day"=some none),
  decide (findIn K (.ref (Hd.cl K "Letter")) "answers"=some none),
  decide (findIn K (.ref (Hd.cl K "Letter")) "found"=some none),
  decide (Hd.gl K "Ledger"=some (some (.ref (Hd.cl K "Ledger")))),
  plainGet K (Hd.cl K "Ledger") Str.empty,
  hasDictIn K (Hd.cl K "Ledger"),
  plainOver K (Hd.cl K "Ledger"),
  decide (findIn K (.ref (Hd.cl K "Ledger")) "__setattr__"=some (some (.builtin "object.__setattr__"))),
  makesIn K (Hd.cl K "Ledger"),
  keepIn K (.ref (Hd.cl K "Ledger")),
  decide (findIn K (.ref (Hd.cl K "Ledger")) "hand"=some none),
  decide (findIn K (.ref (Hd.cl K "Ledger")) "shelves"=some none),
  decide (Hd.gl K "MailError"=some (some (.ref (Hd.cl K "MailError")))),
  excIn K (Hd.cl K "MailError") XF "ValueError.__new__",
  decide (Hd.gl K "NoLetter"=some (some (.ref (Hd.cl K "NoLetter")))),
  excIn K (Hd.cl K "NoLetter") XF "ValueError.__new__",
  decide (Hd.gl K "NoName"=some (some (.ref (Hd.cl K "NoName")))),
  excIn K (Hd.cl K "NoName") XF "ValueError.__new__",
  decide (Hd.gl K "NoParcel"=some (some (.ref (Hd.cl K "NoParcel")))),
  excIn K (Hd.cl K "NoParcel") XF "ValueError.__new__",
  decide (PySem.W.mroIn K (Hd.cl K "NoLetter") (.ref (Hd.cl K "NoLetter"))=some true),
  decide (PySem.W.mroIn K (Hd.cl K "NoParcel") (.ref (Hd.cl K "NoParcel"))=some true)].all id)
def good:List (Option (FuncData×Option (QpM))×Bool)×Bool:=(tab.map fun t=>(some (Hd.QkA t.2.1 t.2.2.1 t.2.2.2.1,t.2.2.2.2),true),true)
theorem all_mk{l:PySem.W.OpenLaw}{w:World}{K:Frag}{h:Heap}{mg:Str->Option Value}{fa:Addr}(X:K.In h)(E:obs K=good)(G:h.Ns mainGlobals mg)(hfa:mg "law"=some (.ref fa)) :
 ∃fd:FuncData,(∀(s:Shared)(v:Value),BindsTo s fd ⟨[v],[]⟩ [("_law_script",v)])/\∀base:Heap,K.In base->base.Ns mainGlobals mg->QH l.prog w K mg base vV 60 fa fd ["_law_script"] (QmH K):=by
 have e1:=zB Prod.fst E
 have e2:=zB Prod.snd E
 obtain⟨a1,k1,i1,_,F1⟩:=Hd.zK (Hd.jt e1 0 rfl rfl)
 obtain⟨a2,k2,i2,_,F2⟩:=Hd.zK (Hd.jt e1 1 rfl rfl)
 obtain⟨a3,k3,i3,_,F3⟩:=Hd.zK (Hd.jt e1 2 rfl rfl)
 obtain⟨a4,k4,i4,_,F4⟩:=Hd.zK (Hd.jt e1 3 rfl rfl)
 obtain⟨a5,k5,i5,_,F5⟩:=Hd.zK (Hd.jt e1 4 rfl rfl)
 obtain⟨a6,k6,i6,_,F6⟩:=Hd.zK (Hd.jt e1 5 rfl rfl)
 obtain⟨a7,k7,i7,_,F7⟩:=Hd.zK (Hd.jt e1 6 rfl rfl)
 obtain⟨a8,k8,i8,_,F8⟩:=Hd.zK (Hd.jt e1 7 rfl rfl)
 obtain⟨a9,k9,i9,_,F9⟩:=Hd.zK (Hd.jt e1 8 rfl rfl)
 obtain⟨a10,k10,i10,_,F10⟩:=Hd.zK (Hd.jt e1 9 rfl rfl)
 obtain⟨a11,k11,i11,_,F11⟩:=Hd.zK (Hd.jt e1 10 rfl rfl)
 obtain⟨a12,k12,i12,_,F12⟩:=Hd.zK (Hd.jt e1 11 rfl rfl)
 obtain⟨a13,k13,i13,_,F13⟩:=Hd.zK (Hd.jt e1 12 rfl rfl)
 obtain⟨a14,k14,i14,_,F14⟩:=Hd.zK (Hd.jt e1 13 rfl rfl)
 obtain⟨a15,k15,i15,_,F15⟩:=Hd.zK (Hd.jt e1 14 rfl rfl)
 obtain⟨a16,k16,i16,_,F16⟩:=Hd.zK (Hd.jt e1 15 rfl rfl)
 obtain⟨a17,k17,i17,_,F17⟩:=Hd.zK (Hd.jt e1 16 rfl rfl)
 obtain⟨a18,k18,i18,_,F18⟩:=Hd.zK (Hd.jt e1 17 rfl rfl)
 obtain⟨a19,k19,i19,_,F19⟩:=Hd.zK (Hd.jt e1 18 rfl rfl)
 obtain⟨a20,k20,i20,_,F20⟩:=Hd.zK (Hd.jt e1 19 rfl rfl)
 obtain⟨a21,k21,i21,_,F21⟩:=Hd.zK (Hd.jt e1 20 rfl rfl)
 obtain⟨a22,k22,i22,_,F22⟩:=Hd.zK (Hd.jt e1 21 rfl rfl)
 obtain⟨a23,k23,i23,_,F23⟩:=Hd.zK (Hd.jt e1 22 rfl rfl)
 obtain⟨a24,k24,i24,_,F24⟩:=Hd.zK (Hd.jt e1 23 rfl rfl)
 obtain⟨a25,k25,i25,_,F25⟩:=Hd.zK (Hd.jt e1 24 rfl rfl)
 obtain⟨a26,k26,i26,_,F26⟩:=Hd.zK (Hd.jt e1 25 rfl rfl)
 obtain⟨a27,k27,i27,_,F27⟩:=Hd.zK (Hd.jt e1 26 rfl rfl)
 obtain⟨a28,k28,i28,_,F28⟩:=Hd.zK (Hd.jt e1 27 rfl rfl)
 obtain⟨a29,k29,i29,_,F29⟩:=Hd.zK (Hd.jt e1 28 rfl rfl)
 obtain⟨a30,k30,i30,_,F30⟩:=Hd.zK (Hd.jt e1 29 rfl rfl)
 obtain⟨a31,k31,i31,_,F31⟩:=Hd.zK (Hd.jt e1 30 rfl rfl)
 obtain⟨a32,k32,i32,_,F32⟩:=Hd.zK (Hd.jt e1 31 rfl rfl)
 obtain⟨a33,k33,i33,_,F33⟩:=Hd.zK (Hd.jt e1 32 rfl rfl)
 obtain⟨a34,k34,i34,_,F34⟩:=Hd.zK (Hd.jt e1 33 rfl rfl)
 obtain⟨a35,k35,i35,_,F35⟩:=Hd.zK (Hd.jt e1 34 rfl rfl)
 obtain⟨a36,k36,i36,D36,kV36,dc36,pm36,an36,cd36,ct36,o36,it36,Dn36,F36,t36,s36,m36⟩:=Hd.QkS (Hd.jt e1 35 rfl rfl)
 obtain⟨dv36_0,rfl,QoV⟩:=Hd.map1 m36
 obtain⟨a37,k37,i37,_,F37⟩:=Hd.zK (Hd.jt e1 36 rfl rfl)
 obtain⟨a38,k38,i38,_,F38⟩:=Hd.zK (Hd.jt e1 37 rfl rfl)
 obtain⟨a39,k39,i39,_,F39⟩:=Hd.zK (Hd.jt e1 38 rfl rfl)
 obtain⟨a40,k40,i40,_,F40⟩:=Hd.zK (Hd.jt e1 39 rfl rfl)
 obtain⟨a41,k41,i41,D41,kV41,dc41,pm41,an41,cd41,ct41,o41,it41,Dn41,F41,t41,s41,m41⟩:=Hd.QkS (Hd.jt e1 40 rfl rfl)
 obtain⟨dv41_0,rfl,QoU⟩:=Hd.map1 m41
 obtain⟨a42,k42,i42,_,F42⟩:=Hd.zK (Hd.jt e1 41 rfl rfl)
 obtain⟨a43,k43,i43,_,F43⟩:=Hd.zK (Hd.jt e1 42 rfl rfl)
 have e:Value.ref fa=.ref (Hd.jG (Hd.gl K "law")):=zg (hfa.symm.trans (mg_of X G a35))
 injection e with e
 subst e
 let A:yE:=⟨Hd.jG (Hd.gl K "all_among"),Hd.jG (Hd.gl K "is_word"),Hd.jG (Hd.gl K "is_text"),Hd.jG (Hd.gl K "is_whole"),Hd.jG (Hd.gl K "is_answered"),Hd.jG (Hd.gl K "check_parts"),Hd.jG (Hd.gl K "letter_of"),Hd.jG (Hd.gl K "is_hand"),Hd.jG (Hd.gl K "are_parts"),Hd.jG (Hd.gl K "is_deed"),Hd.jG (Hd.gl K "is_counted"),Hd.jG (Hd.gl K "is_stamped"),Hd.jG (Hd.gl K "stamp_of"),Hd.jG (Hd.gl K "number_of"),Hd.jG (Hd.gl K "name_behind"),Hd.jG (Hd.gl K "check_parcel"),Hd.jG (Hd.gl K "check_next"),Hd.jG (Hd.gl K "_law_begin"),Hd.jG (Hd.gl K "_law_next"),Hd.jG (Hd.gl K "_law_word"),Hd.jG (Hd.gl K "_law_any_word"),Hd.jG (Hd.gl K "_law_hands"),Hd.jG (Hd.gl K "_law_parts"),Hd.jG (Hd.gl K "_law_deed"),Hd.jG (Hd.gl K "_law_stream"),Hd.jG (Hd.gl K "_law_shuffled"),Hd.jG (Hd.gl K "_law_by_stamp"),Hd.jG (Hd.gl K "_law_took"),Hd.jG (Hd.gl K "_law_parcel"),Hd.jG (Hd.gl K "_law_all"),Hd.jG (Hd.gl K "_law_had"),Hd.jG (Hd.gl K "_law_all_told"),Hd.jG (Hd.gl K "_law_asked"),Hd.jG (Hd.gl K "_law_puts_right"),Hd.jG (Hd.gl K "law"),Hd.jG (findIn K (.ref (Hd.cl K "Letter")) "__init__"),Hd.jG (findIn K (.ref (Hd.cl K "Ledger")) "__init__"),Hd.jG (findIn K (.ref (Hd.cl K "Ledger")) "shelf"),Hd.jG (findIn K (.ref (Hd.cl K "Ledger")) "do"),Hd.jG (findIn K (.ref (Hd.cl K "Ledger")) "have"),Hd.jG (findIn K (.ref (Hd.cl K "Ledger")) "told"),Hd.jG (findIn K (.ref (Hd.cl K "Ledger")) "weighed"),Hd.jG (findIn K (.ref (Hd.cl K "Ledger")) "take"),Hd.cl K "Letter",Hd.cl K "Ledger",Hd.cl K "MailError",Hd.cl K "NoLetter",Hd.cl K "NoName",Hd.cl K "NoParcel"⟩
 have T:Txt K mg A:=⟨mg_of X G a1,
  mg_of X G a2,
  mg_of X G a3,
  mg_of X G a4,
  mg_of X G a5,
  mg_of X G a6,
  mg_of X G a7,
  mg_of X G a8,
  mg_of X G a9,
  mg_of X G a10,
  mg_of X G a11,
  mg_of X G a12,
  mg_of X G a13,
  mg_of X G a14,
  mg_of X G a15,
  mg_of X G a16,
  mg_of X G a17,
  mg_of X G a18,
  mg_of X G a19,
  mg_of X G a20,
  mg_of X G a21,
  mg_of X G a22,
  mg_of X G a23,
  mg_of X G a24,
  mg_of X G a25,
  mg_of X G a26,
  mg_of X G a27,
  mg_of X G a28,
  mg_of X G a29,
  mg_of X G a30,
  mg_of X G a31,
  mg_of X G a32,
  mg_of X G a33,
  mg_of X G a34,
  Hd.wG X G (qD (Hd.zL e2 0 rfl)),
  Hd.wG X G (qD (Hd.zL e2 1 rfl)),
  Hd.wG X G (qD (Hd.zL e2 2 rfl)),
  Hd.wG X G (qD (Hd.zL e2 3 rfl)),
  Hd.wG X G (qD (Hd.zL e2 4 rfl)),
  Hd.wG X G (qD (Hd.zL e2 5 rfl)),
  Hd.wG X G (qD (Hd.zL e2 6 rfl)),
  mg_none_of X G (qD (Hd.zL e2 7 rfl)),
  mg_none_of X G (qD (Hd.zL e2 8 rfl)),
  mg_none_of X G (qD (Hd.zL e2 9 rfl)),
  mg_none_of X G (qD (Hd.zL e2 10 rfl)),
  mg_none_of X G (qD (Hd.zL e2 11 rfl)),
  mg_none_of X G (qD (Hd.zL e2 12 rfl)),
  mg_none_of X G (qD (Hd.zL e2 13 rfl)),
  mg_none_of X G (qD (Hd.zL e2 14 rfl)),
  mg_none_of X G (qD (Hd.zL e2 15 rfl)),
  mg_none_of X G (qD (Hd.zL e2 16 rfl)),
  mg_none_of X G (qD (Hd.zL e2 17 rfl)),
  mg_none_of X G (qD (Hd.zL e2 18 rfl)),
  mg_of X G (qD (Hd.zL e2 19 rfl)),
  ⟨(Hd.zL e2 20 rfl),(Hd.zL e2 21 rfl),(Hd.zL e2 22 rfl),(qD (Hd.zL e2 23 rfl))⟩,
  ⟨(Hd.zL e2 24 rfl),a36,i36,(Hd.zL e2 25 rfl)⟩,
  (Hd.QiV (Hd.zL e2 26 rfl)),
  (Hd.QiV (Hd.zL e2 27 rfl)),
  (Hd.QiV (Hd.zL e2 28 rfl)),
  (Hd.QiV (Hd.zL e2 29 rfl)),
  (Hd.QiV (Hd.zL e2 30 rfl)),
  (Hd.QiV (Hd.zL e2 31 rfl)),
  mg_of X G (qD (Hd.zL e2 32 rfl)),
  ⟨(Hd.zL e2 33 rfl),(Hd.zL e2 34 rfl),(Hd.zL e2 35 rfl),(qD (Hd.zL e2 36 rfl))⟩,
  ⟨(Hd.zL e2 37 rfl),a37,i37,(Hd.zL e2 38 rfl)⟩,
  ⟨a38,i38,k38⟩,
  ⟨a39,i39,k39⟩,
  ⟨a40,i40,k40⟩,
  ⟨a41,i41,k41⟩,
  ⟨a42,i42,k42⟩,
  ⟨a43,i43,k43⟩,
  (Hd.QiV (Hd.zL e2 39 rfl)),
  (Hd.QiV (Hd.zL e2 40 rfl)),
  mg_of X G (qD (Hd.zL e2 41 rfl)),
  ⟨(Hd.zL e2 42 rfl)⟩,
  mg_of X G (qD (Hd.zL e2 43 rfl)),
  ⟨(Hd.zL e2 44 rfl)⟩,
  mg_of X G (qD (Hd.zL e2 45 rfl)),
  ⟨(Hd.zL e2 46 rfl)⟩,
  mg_of X G (qD (Hd.zL e2 47 rfl)),
  ⟨(Hd.zL e2 48 rfl)⟩,
  QeE (qD (Hd.zL e2 49 rfl)),
  QeE (qD (Hd.zL e2 50 rfl))⟩
 have FF:Zr K A:=⟨⟨_,F1,F1.bd2 (by intros;rfl) rfl⟩,⟨_,F2,F2.bd1 (by intros;rfl) rfl⟩,⟨_,F3,F3.bd2 (by intros;rfl) rfl⟩,⟨_,F4,F4.bd1 (by intros;rfl) rfl⟩,⟨_,F5,F5.bd1 (by intros;rfl) rfl⟩,⟨_,F6,F6.bd5 (by intros;rfl) rfl⟩,⟨_,F7,F7.bd1 (by intros;rfl) rfl⟩,⟨_,F8,F8.bd1 (by intros;rfl) rfl⟩,⟨_,F9,F9.bd1 (by intros;rfl) rfl⟩,⟨_,F10,F10.bd1 (by intros;rfl) rfl⟩,⟨_,F11,F11.bd1 (by intros;rfl) rfl⟩,⟨_,F12,F12.bd1 (by intros;rfl) rfl⟩,⟨_,F13,F13.bd1 (by intros;rfl) rfl⟩,⟨_,F14,F14.bd1 (by intros;rfl) rfl⟩,⟨_,F15,F15.bd2 (by intros;rfl) rfl⟩,⟨_,F16,F16.bd1 (by intros;rfl) rfl⟩,⟨_,F17,F17.bd2 (by intros;rfl) rfl⟩,⟨_,F18,F18.bd1 (by intros;rfl) rfl⟩,⟨_,F19,F19.bd1 (by intros;rfl) rfl⟩,⟨_,F20,F20.bd3 (by intros;rfl) rfl⟩,⟨_,F21,F21.bd1 (by intros;rfl) rfl⟩,⟨_,F22,F22.bd2 (by intros;rfl) rfl⟩,⟨_,F23,F23.bd1 (by intros;rfl) rfl⟩,⟨_,F24,F24.bd4 (by intros;rfl) rfl⟩,⟨_,F25,F25.bd4 (by intros;rfl) rfl⟩,⟨_,F26,F26.bd2 (by intros;rfl) rfl⟩,⟨_,F27,F27.bd1 (by intros;rfl) rfl⟩,⟨_,F28,F28.bd2 (by intros;rfl) rfl⟩,⟨_,F29,F29.bd3 (by intros;rfl) rfl⟩,⟨_,F30,F30.bd3 (by intros;rfl) rfl⟩,⟨_,F31,F31.bd2 (by intros;rfl) rfl⟩,⟨_,F32,F32.bd2 (by intros;rfl) rfl⟩,⟨_,F33,F33.bd4 (by intros;rfl) rfl⟩,⟨_,F34,F34.bd4 (by intros;rfl) rfl⟩,⟨_,F35,F35.bd1 (by intros;rfl) rfl⟩,⟨_,F36,(fun s us X' hl=>have hl':us.length=6:=(by simpa using hl);(by clear hl;revert hl';revert us;refine us_6 ?_;intros;exact binds_K X' rfl t36 s36 rfl rfl)),⟨_,(.cons (Hd.Qjv QoV) .nil),(fun s us X' hl=>have hl':us.length=5:=(by simpa using hl);(by clear hl;revert hl';revert us;refine QoK ?_;intros;exact binds_K X' rfl t36 s36 rfl rfl))⟩⟩,⟨_,F37,F37.bd2 (by intros;rfl) rfl⟩,⟨_,F38,F38.bd2 (by intros;rfl) rfl⟩,⟨_,F39,F39.bd2 (by intros;rfl) rfl⟩,⟨_,F40,F40.bd1 (by intros;rfl) rfl⟩,⟨_,F41,(fun s us X' hl=>have hl':us.length=2:=(by simpa using hl);(by clear hl;revert hl';revert us;refine QoL ?_;intros;exact binds_K X' rfl t41 s41 rfl rfl)),⟨_,(.cons (Hd.Qjv QoU) .nil),(fun s us X' hl=>have hl':us.length=1:=(by simpa using hl);(by clear hl;revert hl';revert us;refine QoM ?_;intros;exact binds_K X' rfl t41 s41 rfl rfl))⟩⟩,⟨_,F42,F42.bd2 (by intros;rfl) rfl⟩,⟨_,F43,F43.bd2 (by intros;rfl) rfl⟩⟩
 obtain⟨_,_,kV,doc,pm,an,cdv,ct,_,rfl,_,_⟩:=F35.ex
 exact⟨_,fun s v=>.of_eq rfl,fun base _ _=>QhW F35 T FF⟩
abbrev PP:Program:=PySem.Challenge.pw_mailroom_k43_parcels_taken
def loose:QpK:=(["_wall","MailError","NoLetter","NoName","NoParcel","WORD_SIGNS","MOST_WORD","all_among","is_word","MOST_TITLE","MOST_BODY","LAST_DAY","is_text","is_whole","is_answered","check_parts","Letter","letter_of","HAND_SIGNS","MOST_HAND","is_hand","are_parts","is_deed","is_counted","is_stamped","stamp_of","number_of","name_behind","check_parcel","check_next","Ledger","_law_begin","_law_next","_law_word","_law_any_word","_law_hands","_law_parts","_law_deed","_law_stream","_law_shuffled","_law_by_stamp","_law_took","_law_parcel","_law_all","_law_had","_law_all_told","_law_asked","_law_puts_right"]:List String).map Str.ofString
theorem seen(w:World)(os:OsState):(Hd.zZ (Hd.QlC Hd.Qn6 PP w) (Hd.okQ 11 (some (.ref 6))) 20000 (Hd.S0 w os) (PySem.W.topStub PP)).map (fun s=>(Hd.chk PP w.params s.abs,Hd.seenQ (view PP [54]) loose (PySem.importedModules PP.main.body) (fun s=>PySem.W.recOk [] s) true s.abs,obs (Hd.Qk4 s)))=some (true,PySem.W.openGood (view PP [54]) loose,good):=by kernel_rfl
theorem look:PySem.W.Fast.tw9446332074065402090 PySem.Challenge.rw_mailroom_k43_parcels_taken=true:=by kernel_rfl
theorem opens:PySem.W.opening PP=PySem.W.plainProg PP.main.scope.names:=by kernel_rfl
theorem fence(s:Shared):fenceModules? PP s=some s:=by kernel_rfl
end K43
open PySem PySem.W PyProof.Rows
set_option maxRecDepth 100000 in
set_option maxHeartbeats 0 in
theorem PySem.Challenge.cw_mailroom_k43_parcels_taken_holds : PySem.Challenge.rw_mailroom_k43_parcels_taken.Holds := by
 refine Hd.close (q:=view K43.PP [54]) (loose:=K43.loose) (N:=20000) (obs:=K43.obs) (good:=K43.good) K43.look K43.opens rfl K43.fence K43.seen rfl rfl rfl rfl (by decide +kernel) ⟨rfl,rfl,rfl,rfl,rfl,by decide +kernel⟩ ?hw ?hc
 case hw=>w_witness2
 case hc=>exact Hd.walk (n:=63) (k:=60) (x:="_law_script") (sp:=K43.QmH) rfl (by decide) rfl ⟨rfl,by decide,by decide,rfl⟩ (fun w K mg fa h KX y G hmg=>K43.all_mk KX y G hmg) (fun _ _ a ns hl _ hS=>⟨a,ns,rfl,hS,hl,fun _=>rfl⟩)
#print axioms PySem.Challenge.cw_mailroom_k43_parcels_taken_holds
