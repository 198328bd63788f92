import PyProof.Rows.All
import Wide.All
import OpenK.AllK
import Wide.FinOn
import Lean
import PyProof.EqAt
import PyProof.EqKinds
import PyProof.TupleCall
import PyProof.P3In
import KE.KDictLaws
import PyProof.Rows.SetFrom
import KE.KRevSl
import KE.KIntText
import KE.KLcPair
import KE.KIsAll
import PyProof.ExcArgsOwn
import PyProof.ExcAttrAll.ValueError
import PyProof.NsDelKeeps
import PyProof.Rows.CountFlat
import KE.RegKIsAll
import PyProof.WalksMore
import PyProof.FString5
import KE.KListMore
import PyProof.ZipIter
import PyProof.FString
import PyProof.StrLawsReplace
import PyProof.MinMaxWalk
import PyProof.WalkInts
import PyProof.Rows.MinMaxN
import PyProof.Rows.CallKwBuiltin
import KE.KMinKey
import PySem.Challenge.RW_mailroom_k52_whole_any_order
abbrev U:=@rfl
open PySem.W(instObj methodObj Frag lookIn plainGet hasDictIn findIn handedIn plainGet_of isFn plainOver takerIn makesIn emptyDict keepIn kitOne kia_one kitx_list kitx_dict callWith_K callWith_K0 fnOf codeIn kdl_dict KdlSrc mg_of mg_none_of binds_K view)
open PyProof.Rows(slot_tuple_getitem le_int lt_int boot_isinstance boot_str boot_sorted boot_set boot_list boot_all lo1 boot_int)
open PySem.F(slot_dict_pop slot_dict_get plainAttrs_dict slot_set_iter plainAttrs_list slot_list_pop type_list_pop plainAttrs_str slot_str_join type_str_join)
def qh:=@List.length_map
def qi:=@PySem.wpAny_bind
def qj:=@List.mem_map
def qk:=@List.mem_singleton
def qo:=@of_decide_eq_true
def qr:=@List.mem_filter
def qt:=@List.mem_append
def qu:=@decide_eq_true
def qv:=@PySem.wpAny_pure
def qw:=@PySem.Heap.get?_push_of_some
def qx:=@List.mem_append_right
def qy:=@List.mem_cons_self
def qz:=@List.length_append
def qA:=@if_neg
def qB:=@List.getElem?_eq_getElem
def qC:=@List.mem_append_left
def qD:=@Nat.le_refl
def qE:=@List.cons.inj
def qF:=@decide_eq_false
def qG:=@if_pos
def qH:=@List.mem_cons_of_mem
def qI:=@Bool.false_ne_true
def qJ:=@List.map_append
def qK:=@List.mem_cons
def qL:=@PySem.Heap.get?_push_size
def qM:=@List.mem_of_getElem?
def qN:=@Option.some.inj
def qO:=@List.filter_cons
def qQ:=@List.getElem?_map
def qR:=@List.size_toArray
def qS:=@List.length_singleton
def qT:=@PySem.Heap.lt_size
def qU:=@List.map_cons
def qV:=@List.map_map
def qW:=@List.getElem?_eq_some_iff
def qX:=@List.length_cons
def qY:=@List.length_filter_le
def q0:=@List.length_take
def za:=@Nat.zero_le
def zb:=@List.filter_append
def zc:=@Nat.ne_of_lt
def zf:=@Array.length_toList
def zi:=@of_decide_eq_false
def zj:=@List.take_of_length_le
def zl:=@Nat.lt_of_lt_of_le
def zm:=@List.take_add_one
def zo:=@PySem.PassesOwn.never
def zq:=@Int.emod_lt_of_pos
def zr:=@List.mem_map_of_mem
def zt:=@Array.getElem?_toList
def zu:=@Nat.le_trans
def zy:=@List.foldl_cons
def zA:=@Int.emod_nonneg
def zB:=@List.nodup_nil
def zC:=@List.getD_eq_getElem?_getD
def zE:=@Bool.false_eq_true
def zF:=@List.filter_sublist
def zG:=@PySem.wpAny_newObj_type
def zK:=@List.nodup_cons
def zQ:=@congrArg
def zR:=@PySem.wpAny_call_entry
def zU:=@List.append_nil
def zV:=@Bool.and_eq_true_iff
def zW:=@List.nodup_append
def zX:=@PySem.boot_len
def zZ:=@PySem.F.slot_list_append
def z5:=@PySem.F.type_list_append
def jb:=@Bool.and_eq_true
def jc:=@List.all_eq_true
def je:=@Array.getElem?_eq_getElem
def jg:=@List.getElem?_set_self
def jh:=@List.getElem_mem
def ji:=@List.take_length
def jn:=@PySem.Heap.SameBut.update
def jo:=@PySem.Heap.get?_update_self
def jq:=@PySem.wpAny_truthy_bool
def jr:=@List.Nodup.sublist
def js:=@PySem.F.called_set
def jt:=@PySem.wpAny_callSpecial?_slot
def ju:=@List.lookup_cons
def jv:=@List.not_mem_nil
def jw:=@PySem.Obj.data_mapFields
def jz:=@PySem.wpAny_holding
def jB:=@List.foldl_append
def jG:=@List.pairwise_cons
def jH:=@Sum.inr.inj
def jI:=@List.length_eq_zero_iff
def jJ:=@Int.eq_ofNat_of_zero_le
def jN:=@Int.toNat_natCast
def jO:=@List.length_range
def jP:=@Nat.lt_succ_of_lt
def jR:=@beq_eq_false_iff_ne
def jS:=@PySem.mem_of_lookup
def jT:=@List.map_congr_left
def jU:=@List.filter_eq_self
def jV:=@Int.toNat_of_nonneg
def jZ:=@List.length_nil
def j7:=@PySem.Calls.spliced_cons
def j9:=@List.flatten_cons
def ya:=@List.find?_cons
def yb:=@List.filter_map
def ye:=@PySem.Heap.size_push
def yf:=@List.replicate_succ
def yg:=@PySem.Around.under_plainId
def yj:=@Nat.lt_of_succ_lt_succ
def yk:=@Nat.lt_irrefl
def yq:=@List.length_drop
def yr:=@beq_self_eq_true
def yt:=@PySem.codeAny_builtin
def yu:=@PySem.wpAny_ite_split
def yv:=@PySem.F.slot_dict_keyiterator_next
def yB:=@if_false
def yC:=@List.perm_ext_iff_of_nodup
def yF:=@PySem.Heap.get?_update_other
def yG:=@PySem.Calls.callWith_builtin
def yN:=@PySem.wpAny_mono
def yO:=@List.append_assoc
def yP:=@bne_self_eq_false
def xh:=@List.mem_range
def xj:=@PySem.codeAny_mono
def xk:=@PySem.wpAny_setState_of
def xJ:=@Ne.symm
def xK:=@Option.map_eq_some_iff
def xM:=@Nat.lt_of_le_of_lt
def xN:=@List.filter_filter
def xO:=@Array.getElem?_eq_none
def xP:=@PySem.wpAny_setEntries_of
def xQ:=@PySem.wpAny_askSetting
def xS:=@PySem.wpAny_setField
def kK:=@List.any_cons
def kL:=@List.getElem?_eq_none
def kO:=@List.filter_congr
def kP:=@PySem.wpAny_typeNameOfWhole_keyiter
def vj:=@PySem.wpAny_passesOwn
def vl:=@Array.toArray_toList
def vm:=@List.take_zero
def vn:=@List.mem_of_mem_take
def vv:=@Nat.le_of_lt
def vw:=@if_true
def vy:=@List.isEmpty_nil
def vz:=@PySem.Obj.isFreed_of_fields
def vG:=@Classical.byContradiction
def vR:=@PySem.Calls.evalArgs_plain
def vS:=@PySem.call_meets
def v5:=@Bool.eq_iff_iff
def v7:=@Nat.min_eq_left
def v9:=@List.pairwise_singleton
def wO:=@PySem.wpAny_typeNameOf_keyiter
def wQ:=@List.find?_cons_of_pos
def wR:=@List.find?_cons_of_neg
def ue:=@PySem.wpAny_Call_Name_kw
def uf:=@PySem.tupleKind_room_in1
def uE:=@List.length_replicate
def uG:=@PySem.wpAny_getItem_str_slice
def uH:=@List.eq_nil_or_concat
def uI:=@List.concat_eq_append
def uO:=@List.any_eq_true
def uP:=@Bool.not_true
def uQ:=@Bool.true_and
def uR:=@List.getElem?_set_ne
def uS:=@PySem.Calls.spliced_nil
def uT:=@List.not_lt
def uU:=@PySem.wpAny_fieldsOf
def iS:=@List.filter_nil
def iZ:=@ne_true_of_eq_false
def lT:=@PySem.plainId_quiet
def lU:=@PySem.wpAny_attempt
def lX:=@beq_iff_eq
def lY:=@List.getElem?_append_right
def lZ:=@or_false
def mS:=@List.getElem?_append_left
def ox:=@Nat.le_succ
def oy:=@Bool.not_eq_true'
def oV:=@PySem.typeIs_str
def oW:=@PySem.isSubtype_type
def rn:=@Nat.ne_of_gt
def rq:=@PySem.Calls.call_function_entry
def rR:=@List.length_set
def rT:=@Option.map_some
def rV:=@PySem.wpAny_Call_method
def rW:=@PySem.F.entry_str_split
def rX:=@PySem.F.plain_list_iadd
def rY:=@Bool.or_eq_true
def rZ:=@PySem.wpAny_pyIter_slot
def sb:=@PySem.Obj.cls_mapFields
def sf:=@Nat.not_lt_zero
def sh:=@PySem.Heap.get?_push_ne
def sj:=@PySem.StrLaws.found_one
def tK:=@Bool.false_and
def tL:=@PySem.F.slot_str_split
def tN:=@List.drop_zero
def tO:=@Prod.mk.inj
def tP:=@PySem.wpAny_isInstance
def tQ:=@List.getElem?_of_mem
def QaA:=@List.filterMap_cons
def QaB:=@PySem.wpAny_typeOf
def QaC:=@PySem.call_meetsIn
def QaD:=@PySem.wpAny_rule
def Qa0:=@PySem.wpAny_execs_nil
def Qa1:=@PySem.post_val_or_str
def Qa2:=@PySem.wpAny_loadPart'
def Qa3:=@Prod.mk.injEq
def Qbg:=@List.mem_filterMap
def Qbh:=@List.find?_eq_none
def Qbi:=@List.getElem_range
abbrev qe:=List PySem.Str
abbrev qf:=PySem.Value→PySem.Shared→Prop
abbrev qg:=List PySem.Value
abbrev qa:=@List
abbrev qb:=PySem.Str
abbrev qc:=PySem.Addr
abbrev qd:=PySem.Value
noncomputable section
set_option Elab.async false
set_option linter.all false
set_option maxRecDepth 100000
namespace L2
open PySem PySem.Spec PyProof.Rows
abbrev Key:=Sum Int qb
def Ae:Key->qd->Bool
 |.inl k,v=>Value.isInt k v
 |.inr x,v=>Value.isStrOf x v
def keyH(w:World):Key->Int
 |.inl k=>hashInt k
 |.inr x=>hashStr w x
def Yo:∀{k:Key}{v:qd},Ae k v=true->(∃i t,k=Sum.inl i/\v=Value.int i t)\/(∃x t,k=Sum.inr x/\v=Value.str x t)
 |.inl i,v,h=>by
  obtain⟨t,e⟩:=Value.isInt_shape (k:=i) (v:=v) h;exact .inl ⟨i,t,U,e⟩
 |.inr x,v,h=>by
  obtain⟨t,e⟩:=Value.isStrOf_shape (x:=x) (v:=v) h;exact .inr ⟨x,t,U,e⟩
def P2(i:Int)(t:Tok):Ae (.inl i) (.int i t)=true:=by simp[Ae,Value.isInt]
def P1(x:qb)(t:Tok):Ae (.inr x) (.str x t)=true:=by simp[Ae,Value.isStrOf]
def fN(a b:Int):decide ((Sum.inl a:Key)=Sum.inl b)=(a==b):=by
 by_cases e:a=b
 .subst e;simp
 .have h:¬(Sum.inl a:Key)=Sum.inl b:=λq=>e (Sum.inl.inj q);rw[qF h];exact(jR.mpr e).symm
def fJ(a b:qb):decide ((Sum.inr a:Key)=Sum.inr b)=decide (a=b):=by
 by_cases e:a=b
 .subst e;simp
 .have h:¬(Sum.inr a:Key)=Sum.inr b:=λq=>e (jH q);rw[qF h,qF e]
def fM(a:Int)(b:qb):decide ((Sum.inl a:Key)=Sum.inr b)=false:=qF (λq=>nomatch q)
def fK(a:qb)(b:Int):decide ((Sum.inr a:Key)=Sum.inl b)=false:=qF (λq=>nomatch q)
def Yd(prog:Program)(w:World):PySem.KeyKind prog w Key where
 is:=Ae
 hash:=keyH w
 inj:=λv a b g f=>by
  rcases Yo g with⟨i,t,rfl,rfl⟩|⟨x,t,rfl,rfl⟩
  .rcases Yo f with⟨j,u,rfl,e⟩|⟨y,u,rfl,e⟩
   .injection e with c _;rw[c]
   .exact nomatch e
  .rcases Yo f with⟨j,u,rfl,e⟩|⟨y,u,rfl,e⟩
   .exact nomatch e
   .injection e with c _;rw[c]
 byValue:=λk v h=>by
  rcases Yo h with⟨i,t,rfl,rfl⟩|⟨x,t,rfl,rfl⟩<;>rfl
 pyHash:=λd h=>by
  rcases Yo d with⟨i,t,rfl,rfl⟩|⟨x,t,rfl,rfl⟩
  .exact wpAny_pyHash_int h
  .exact wpAny_pyHash_str h
 eqBool:=λl d h=>by
  rcases Yo l with⟨i,t,rfl,rfl⟩|⟨x,t,rfl,rfl⟩
  .rcases Yo d with⟨j,u,rfl,rfl⟩|⟨y,u,rfl,rfl⟩
   .rw[fN] at h;exact wpAny_eqBool_int h
   .rw[fM] at h;exact SeqAt.EqAt.int_str i t y u _ _ _ _ h
  .rcases Yo d with⟨j,u,rfl,rfl⟩|⟨y,u,rfl,rfl⟩
   .rw[fK] at h;exact SeqAt.EqAt.str_int x t j u _ _ _ _ h
   .rw[fJ] at h;exact wpAny_eqBool_str h
 «strs»:=λk x t v h=>by
  rcases Yo h with⟨i,u,rfl,e⟩|⟨y,u,rfl,e⟩
  .exact nomatch e
  .injection e with c _
   subst c;cases v<;>rfl
def Le(prog:Program)(w:World)(i:Int)(t:Tok):(Yd prog w).is (.inl i) (.int i t)=true:=P2 i t
def Ld(prog:Program)(w:World)(x:qb)(t:Tok):(Yd prog w).is (.inr x) (.str x t)=true:=P1 x t
inductive V where
 |non|bl (b:Bool)|int (i:Int)|str (x:qb)|byt (b:Array UInt8)|flt (b:UInt64)|ref (a:qc)|ty (n:String)
 deriving DecidableEq
def QN:V->qd->Prop
 |.non,u=>u=Value.none
 |.bl b,u=>u=Value.bool b
 |.int i,u=>∃t,u=Value.int i t
 |.str x,u=>∃t,u=Value.str x t
 |.byt b,u=>∃t,u=Value.bytes b t
 |.flt b,u=>∃t,u=Value.float b t
 |.ref a,u=>u=Value.ref a
 |.ty n,u=>u=Value.type n
abbrev QK:qa V->qg->Prop:=Paired QN
def QK.length{xs:qa V}{us:qg}(r:QK xs us):xs.length=us.length:=Paired.length r
def QK.get:∀{xs:qa V}{us:qg}{i:Nat}{x:V},QK xs us->xs[i]?=some x->∃u,us[i]?=some u/\QN x u
 |_,_,_,_,.nil,e=>by simp at e
 |_,_,0,_,.cons r _,e=>by simp at e;subst e;exact⟨_,U,r⟩
 |_,_,i+1,x,.cons _ t,e=>by
  obtain⟨u,a,b⟩:=QK.get (i:=i) (x:=x) t (by simpa using e);exact⟨u,by simpa using a,b⟩
def QK.set{x:V}{u:qd}(r:QN x u):∀{xs:qa V}{us:qg}(i:Nat),QK xs us->QK (xs.set i x) (us.set i u)
 |_,_,_,.nil=>.nil
 |_,_,0,.cons _ t=>.cons r t
 |_,_,i+1,.cons q t=>.cons q (QK.set r i t)
def QK.append:∀{xs ys:qa V}{us ws:qg},QK xs us->QK ys ws->QK (xs++ys) (us++ws)
 |_,_,_,_,.nil,s=>s
 |_,_,_,_,.cons r t,s=>.cons r (QK.append t s)
def QK.take:∀{xs:qa V}{us:qg}(n:Nat),QK xs us->QK (xs.take n) (us.take n)
 |_,_,0,_=>.nil
 |_,_,_+1,.nil=>.nil
 |_,_,n+1,.cons r t=>.cons r (QK.take n t)
def QK.drop:∀{xs:qa V}{us:qg}(n:Nat),QK xs us->QK (xs.drop n) (us.drop n)
 |_,_,0,r=>r
 |_,_,_+1,.nil=>.nil
 |_,_,n+1,.cons _ t=>QK.drop n t
def WJ:Option V->Option qd->Prop
 |some v,some u=>QN v u
 |none,none=>True
 |_,_=>False
def KV{a:Type}:qa (a×V)->qa (a×qd)->Prop:=Paired λ(p:a×V)(q:a×qd)=>p.1=q.1/\QN p.2 q.2
def kV:Key->V
 |.inl i=>.int i
 |.inr x=>.str x
inductive HO where
 |lst (xs:qa V)
 |tup (xs:qa V)
 |dK (kvs:qa (Key×V))|dT (kvs:qa (qa Key×V))
 |set (S:Int->Bool) (n:Nat)
 |ins (C dx:qc) (fs:qa (qb×V))
 |own (x:qc)
 |xd (fs:qa (qb×V))
 |met (f x:qc)
 |rng (lo hi:Int)
 |jF (o:Obj) (u:HO)
 |tbl (ps:Array qd)
 |ext (φ:Heap->Prop)
abbrev Hp:=qc->Option HO
def upd(H:Hp)(a:qc)(o:HO):Hp:=λb=>if b=a then some o else H b
def Qc{H:Hp}{a:qc}{o:HO}:upd H a o a=some o:=by unfold upd;rw[qG rfl]
def Qa{H:Hp}{a b:qc}{o:HO}(h:b≠a):upd H a o b=H b:=by unfold upd;rw[qA h]
def Kt{H:Hp}{a:qc}{o u:HO}:upd (upd H a o) a u=upd H a u:=by
 funext b;unfold upd;split<;>rfl
def Q4{H:Hp}{a b:qc}{o u:HO}(h:H a=some o)(h':H b=some u)(d:o≠u):a≠b:=by
 intro e;subst e;rw[h] at h';exact d (qN h')
def Qb{H:Hp}{a b:qc}{o:HO}(h:H a=some o)(h':H b=none):a≠b:=by
 intro e;subst e;rw[h] at h';cases h'
section
variable (P:Program)(w:World)
def Q2(H:Hp)(h:Heap)(a:qc):HO->Prop
 |.lst xs=>xs.length<=sizeLine/\∃(its:qg)(n:Nat),QK xs its/\h.get? a=some {cls:=.type "list",data:=.seq its.toArray n}
 |.tup xs=>xs.length<=sizeLine/\∃its:qg,QK xs its/\IsTup h a its.toArray
 |.dK b=>b.length<=sizeLine/\(a==sysModules)=false/\∃vs,KV b vs/\h.DictOf (Yd P w) a vs
 |.dT b=>b.length<=sizeLine/\(a==sysModules)=false/\∃xs:qa (qa Key×qc×qd),
   Paired (λ(p:qa Key×V)(q:qa Key×qc×qd)=>p.1=q.1/\H q.2.1=some (.tup (p.1.map kV))/\QN p.2 q.2.2) b xs /\
   ∃o es c,h.get? a=some o/\o.ExactDict/\o.data=.dict es c/\es.toList=xs.map (entryOfKey (tupleKind (Yd P w)))/\(xs.map (·.1)).Nodup
 |.set S n=>h.SetOf (intKind P w) a S n
 |.ins C c fs=>H c=some (.own a)/\fs.length<=1000/\c≠a/\h.get? a=some (instObj C c) /\
   ∃b,h.Ns1 c b/\(∀f,WJ (fs.lookup f) (b f))/\PySem.Within b (fs.map (·.1))
 |.own _=>∃o,h.get? a=some o
 |.xd fs=>∃b,h.Ns1 a b/\∀f,WJ (fs.lookup f) (b f)
 |.rng lo b=>∃t u v,h.get? a=some {cls:=.type "range",data:=.fields #[.int lo t,.int b u,.int 1 v]}
 |.jF o u=>h.get? a=some o/\Q2 H h a u
 |.tbl ps=>h.get? a=some {cls:=.none,data:=.fields ps}
 |.met f x=>h.get? a=some (methodObj (.ref f) (.ref x))
 |.ext b=>b h/\(∃o,h.get? a=some o)/\∀c d:Heap,b c->(∀o,c.get? a=some o->d.get? a=some o)->b d
def iW(H:Hp)(h:Heap):Prop:=∀a o,H a=some o->Q2 P w H h a o
end
section
variable {P:Program}{w:World}{H H':Hp}{h h':Heap}{a:qc}{o:HO}
def Q2.lt(x:Q2 P w H h a o):a<h.objs.size:=by
 cases o with
 |lst xs=>obtain⟨_,_,_,_,e⟩:=x;exact qT e
 |tup xs=>obtain⟨_,_,_,p⟩:=x;exact p.lt
 |dK b=>obtain⟨_,_,_,_,o,_,_,e,_⟩:=x;exact qT e
 |dT b=>obtain⟨_,_,_,_,o,_,_,e,_⟩:=x;exact qT e
 |set S n=>obtain⟨o,_,_,_,e,_⟩:=x;exact qT e
 |ins C b fs=>obtain⟨_,_,_,e,_⟩:=x;exact qT e
 |own y=>obtain⟨_,e⟩:=x;exact qT e
 |xd fs=>obtain⟨_,⟨_,_,_,e,_⟩,_⟩:=x;exact qT e
 |rng lo b=>obtain⟨_,_,_,e⟩:=x;exact qT e
 |jF b u=>obtain⟨e,_⟩:=x;exact qT e
 |tbl ps=>exact qT (show h.get? a=some _ from x)
 |met f y=>exact qT (show h.get? a=some _ from x)
 |ext b=>obtain⟨_,⟨_,e⟩,_⟩:=x;exact qT e
def Paired.QcF{α β:Type}{F G:α->β->Prop}:∀{c:qa α}{d:qa β},Paired F c d->(∀a b,F a b->G a b)->Paired G c d
 |_,_,.nil,_=>.nil
 |_,_,.cons r t,f=>.cons (f _ _ r) (Paired.QcF t f)
def Q2.stay(x:Q2 P w H h a o)(k:∀b u,(b=a\/H b=some (.own a))->h.get? b=some u->h'.get? b=some u)
 (m:∀b,H b=some (.own a)->H' b=some (.own a)) (l:∀b xs,H b=some (.tup xs)->H' b=some (.tup xs)):Q2 P w H' h' a o:=by
 induction o with
 |lst xs=>obtain⟨z,its,n,r,e⟩:=x;exact⟨z,its,n,r,k _ _ (.inl rfl) e⟩
 |tup xs=>obtain⟨z,its,r,g,e,c⟩:=x;exact⟨z,its,r,g,k _ _ (.inl rfl) e,c⟩
 |dK j=>obtain⟨z,y,vs,r,g,es,i,e,c⟩:=x;exact⟨z,y,vs,r,g,es,i,k _ _ (.inl rfl) e,c⟩
 |dT j=>
  obtain⟨z,y,xs,r,g,es,i,e,c⟩:=x;exact⟨z,y,xs,Paired.QcF r λp q z=>⟨z.1,l _ _ z.2.1,z.2.2⟩,g,es,i,k _ _ (.inl rfl) e,c⟩
 |set S n=>obtain⟨g,es,i,t,e,c⟩:=x;exact⟨g,es,i,t,k _ _ (.inl rfl) e,c⟩
 |ins C A fs=>
  obtain⟨d,z,ne,e,j,⟨l,es,i,s,c⟩,r⟩:=x;exact⟨m _ d,z,ne,k _ _ (.inl rfl) e,j,⟨l,es,i,k _ _ (.inr d) s,c⟩,r⟩
 |own y=>obtain⟨g,e⟩:=x;exact⟨g,k _ _ (.inl rfl) e⟩
 |xd fs=>obtain⟨j,⟨l,es,i,e,c⟩,r⟩:=x;exact⟨j,⟨l,es,i,k _ _ (.inl rfl) e,c⟩,r⟩
 |rng lo i=>obtain⟨t,u,v,e⟩:=x;exact⟨t,u,v,k _ _ (.inl rfl) e⟩
 |jF g u i=>obtain⟨e,q⟩:=x;exact⟨k _ _ (.inl rfl) e,i q⟩
 |tbl ps=>
  have e:h.get? a=some {cls:=.none,data:=.fields ps}:=x;show h'.get? a=some {cls:=.none,data:=.fields ps};exact k a _ (.inl rfl) e
 |met f y=>
  have e:h.get? a=some (methodObj (.ref f) (.ref y)):=x;show h'.get? a=some (methodObj (.ref f) (.ref y));exact k a _ (.inl rfl) e
 |ext g=>obtain⟨p,⟨o,e⟩,st⟩:=x;exact⟨st _ _ p λo q=>k _ _ (.inl rfl) q,⟨o,k _ _ (.inl rfl) e⟩,st⟩
def iW.lt(x:iW P w H h)(e:H a=some o):a<h.objs.size:=(x a o e).lt
def iW.fresh(x:iW P w H h)(e:h.objs.size<=a):H a=none:=by
 cases q:H a with
 |none=>rfl
 |some u=>exact absurd (zl (x.lt q) e) (yk _)
def iW.kept(x:iW P w H h)(k:∀b u,h.get? b=some u->h'.get? b=some u):iW P w H h':=λa o e=>
 (x a o e).stay (λb u _ q=>k b u q) (λ_ q=>q) λ_ _ q=>q
def iW.laid(x:iW P w H h)(k:∀b u,h.get? b=some u->h'.get? b=some u)(g:h.objs.size<=a)(new:Q2 P w (upd H a o) h' a o):iW P w (upd H a o) h':=λb u e=>by
 have d:=x.fresh g;by_cases f:b=a
 .subst f;rw[Qc] at e;cases e;exact new
 .rw[Qa f] at e;exact(x b u e).stay (λc v _ q=>k c v q) (λc q=>by rw[Qa (Qb q d)];exact q) λc xs q=>by rw[Qa (Qb q d)];exact q
end
def Rd(H:Hp)(a:qc)(u:HO):Prop:=H a=some u\/∃o,H a=some (.jF o u)
def Rd.ok{P:Program}{w:World}{H:Hp}{h:Heap}{a:qc}{u:HO}(r:Rd H a u)(x:iW P w H h):Q2 P w H h a u:=by
 rcases r with r|⟨o,r⟩
 .exact x a u r
 .obtain⟨_,q⟩:=x a _ r;exact q
def Mut:Option HO->Prop
 |some (.lst _)=>True
 |some (.dK _)=>True
 |some (.dT _)=>True
 |some (.set _ _)=>True
 |some (.ins _ _ _)=>True
 |some (.ext _)=>True
 |_=>False
section
variable {P:Program}{w:World}{H:Hp}{h h':Heap}{x e:qc}{o':HO}
def iW.write(ok:iW P w H h)(g:Mut (H x))(he:e=x\/H e=some (.own x))(k:∀b u,b≠e->h.get? b=some u->h'.get? b=some u)(j:∃u,h'.get? e=some u)
 (new:Q2 P w (upd H x o') h' x o'):iW P w (upd H x o') h':=λb u q=>by
 have d:∀c y,H c=some (.own y)->c≠x:=λc y r z=>by subst z;rw[r] at g;exact g
 have f:∀c xs,H c=some (.tup xs)->c≠x:=λc xs r z=>by subst z;rw[r] at g;exact g
 by_cases i:b=x
 .subst i;rw[Qc] at q;cases q;exact new
 .rw[Qa i] at q;by_cases a:b=e
  .have l:H b=some (.own x):=by
    rcases he with z|z
    .exact absurd (a.trans z) i
    .rw[a];exact z
   rw[q] at l;cases l;obtain⟨v,m⟩:=j;exact⟨v,by rw[a];exact m⟩
  .refine(ok b u q).stay (λc v hc r=>k c v ?_ r) (λc r=>by rw[Qa (d c b r)];exact r) λc xs r=>by rw[Qa (f c xs r)];exact r
   rcases hc with rfl|hc
   .exact a
   .rintro rfl;rcases he with z|z
    .exact d c b hc z
    .rw[hc] at z;cases z;exact i rfl
end
structure Un(fs ex:qa qc)(H H':Hp)(h h':Heap):Prop where
 keep:∀b o,h.get? b=some o->H b=none->b∉fs->b∉ex->h'.get? b=some o
 slot:∀b o,h.get? b=some o->H b=none->b∈fs->b∉ex->∃sl,h'.get? b=some {o with slots:=sl}
 free:∀b o,h.get? b=some o->H b=none->b∉ex->H' b=none
 there:∀b o,h.get? b=some o->b∉ex->∃o',h'.get? b=some o'
 tups:∀b xs,H b=some (.tup xs)->H' b=some (.tup xs)
 mV:∀b o u,H b=some (.jF o u)->H' b=some (.jF o u)
 ry:∀b ps,H b=some (.tbl ps)->∃more,H' b=some (.tbl (ps++more))
section
variable {fs fs' ex ex':qa qc}{H H1 H2:Hp}{h h1 h2 h':Heap}{a x e:qc}{o:HO}
def Un.any(u:Un fs ex H H1 h h1){b:qc}{a:Obj}(q:h.get? b=some a)(n:H b=none)(c:b∉ex):∃e,h1.get? b=some {a with slots:=e}:=by
 by_cases d:b∈fs
 .exact u.slot b a q n d c
 .exact⟨a.slots,u.keep b a q n d c⟩
def Un.kept(k:∀b u,h.get? b=some u->h'.get? b=some u):Un fs ex H H h h':=
 ⟨λb a q _ _ _=>k b a q,λb a q _ _ _=>⟨a.slots,k b a q⟩,λ_ _ _ n _=>n,λb a q _=>⟨a,k b a q⟩,λ_ _ q=>q,λ_ _ _ q=>q,λ_ ps q=>⟨#[],by rw[q];simp⟩⟩
def Un.refl:Un fs ex H H h h:=Un.kept λ_ _ q=>q
def Un.laid(k:∀b u,h.get? b=some u->h'.get? b=some u)(d:h.objs.size<=a)(c:H a=none):Un fs ex H (upd H a o) h h' where
 keep:=λb u q _ _ _=>k b u q
 slot:=λb u q _ _ _=>⟨u.slots,k b u q⟩
 free:=λb u q n _=>by rw[Qa (zc (zl (qT q) d))];exact n
 there:=λb u q _=>⟨u,k b u q⟩
 tups:=λb xs q=>by rw[Qa (Qb q c)];exact q
 mV:=λb u xs q=>by rw[Qa (Qb q c)];exact q
 ry:=λb ps q=>⟨#[],by rw[Qa (Qb q c),q];simp⟩
def Un.write(c:Mut (H x))(he:e=x\/H e=some (.own x))(k:∀b u,b≠e->h.get? b=some u->h'.get? b=some u)(d:∃u,h'.get? e=some u):Un fs ex H (upd H x o) h h':=by
 have f:∀b,H b=none->b≠x:=λb n z=>by subst z;rw[n] at c;exact c
 have g:∀b,H b=none->b≠e:=λb n z=>by
  subst z;rcases he with r|r
  .exact f b n r
  .rw[n] at r;cases r
 have hm:∀b u,H b=some u->¬Mut (some u)->b≠x:=λb u q nm z=>by subst z;rw[q] at c;exact nm c
 refine⟨λb u q n _ _=>k b u (g b n) q,λb u q n _ _=>⟨u.slots,k b u (g b n) q⟩,λb u q n _=>by rw[Qa (f b n)];exact n,λb u q _=>?_,
  λb xs q=>by rw[Qa (hm b _ q λz=>z)];exact q,λb u xs q=>by rw[Qa (hm b _ q λz=>z)];exact q,λb ps q=>⟨#[],by rw[Qa (hm b _ q λz=>z),q];simp⟩⟩
 by_cases a:b=e
 .subst a;exact d
 .exact⟨u,k b u a q⟩
end
def trk(h:Heap)(H:Hp):qa qc:=(List.range h.objs.size).filter λa=>(H a).isSome
def Hn(h:Heap)(H:Hp):Heap:=PySem.W.hideAll h (trk h H)
def Rf(h:Heap)(H:Hp):(Hn h H).objs.size=h.objs.size:=PySem.W.hideAll_size _ _
def T5{h:Heap}{H:Hp}{b:qc}{o:Obj}(e:h.get? b=some o)(n:H b=none):(Hn h H).get? b=some o:=
 PySem.W.hideAll_get _ e λhm=>by
  have q:(H b).isSome=true:=(qr.mp hm).2;rw[n] at q;simp at q
def bN{h:Heap}{H:Hp}{b:qc}{o:Obj}(e:(Hn h H).get? b=some o):h.get? b=some o/\H b=none:=by
 have a:h.get? b=some o:=PySem.W.of_hideAll (trk h H) e;refine⟨a,?_⟩
 cases q:H b with
 |none=>rfl
 |some x=>
  have hm:b∈trk h H:=qr.mpr ⟨xh.mpr (qT a),by simp[q]⟩;have z:(Hn h H).get? b=none:=PySem.W.hideAll_none (trk h H) hm;rw[z] at e;cases e
structure Mod(K:Frag)(mg:qb->Option qd)(base:Heap):Prop where
 kin:K.In base
 glob:base.Ns mainGlobals mg
 blt:∃mb,base.Ns builtinsNs mb/\∀x:qb,x≠"__name__"->mb x=bootBuiltins x
 nolimit:base.NoLimit
structure Cx where
 prog:Program
 w:World
 K:Frag
 mg:qb->Option qd
 base:Heap
 A:Around
 N:qe
 s₀:Shared
 H₀:Hp
 env:Env
 outer:qa Env
 stack:qa Env
 ex:qa qc
 fn:qb->Bool
 calm:Bool
 pn:qa (qc×Obj)
 xe:qf
def frs(l:qa Env):qa qc:=l.filterMap (·.frame)
abbrev Cx.fs(X:Cx):qa qc:=frs X.outer
def Vis(sc:Scope)(x:qb):Prop:=sc.names.lookup x=some .local\/sc.names.lookup x=some .cell\/sc.names.lookup x=some .free
def Loc(sc:Scope)(x:qb):Prop:=sc.names.lookup x=some .local\/sc.names.lookup x=some .cell
def Look(env:Env)(h:Heap)(m:qb->Option qd)(x:qb)(u:qd):Prop:=
 (env.kindOf x=some .local/\m x=some u)\/((env.kindOf x=some .cell\/env.kindOf x=some .free)/\∃c,env.cells.lookup x=some c/\h.IsCell c (some u))
structure Cx.Ok(X:Cx):Prop where
 mod:Mod X.K X.mg X.base
 kind:X.env.scope.kind=.function
 glob:X.env.globals=mainGlobals
 blt:X.env.builtins=builtinsNs
 above:X.s₀.heap.objs.size<=X.env.locals
 inj:∀x y c,X.env.cells.lookup x=some c->X.env.cells.lookup y=some c->x=y
 has:∀x,(X.env.kindOf x=some .cell\/X.env.kindOf x=some .free)->∃c,X.env.cells.lookup x=some c
 cab:∀x c,X.fn x=true->X.env.cells.lookup x=some c->X.s₀.heap.objs.size<=c
 hd:X.calm=true->X.A.handled=none
 frames:X.A.frames=some X.stack
 stk:X.stack=X.outer\/(X.stack=X.env::X.outer/\X.env.frame=some X.env.locals)
 exf:∀b∈X.ex,b≠X.env.locals/\∀x c,X.env.cells.lookup x=some c->c≠b
 bs:∀b o,X.base.get? b=some o->X.s₀.heap.get? b=some o/\X.H₀ b=none
 bsz:X.base.objs.size<=X.s₀.heap.objs.size
 Qb4:∀b o,X.base.get? b=some o->b∉X.ex
 Qcg:∀b∈X.ex,b∉X.fs
 oH:X.s₀.heap.FunFrames X.base X.outer
 frf:∀b∈X.fs,X.H₀ b=none
structure Inv(X:Cx)(pins:qa (qc×Obj))(σ:qa (Option V))(H:Hp)(s:Shared):Prop where
 ok:X.Ok
 os:s.os=X.s₀.os
 bare:AllBare s.gens
 base:Un X.fs X.ex X.H₀ H X.s₀.heap s.heap
 loc:∃m,s.heap.Ns X.env.locals m/\∀(i:Nat)(x:qb)(v:V),X.N[i]?=some x->σ[i]?=some (some v)->Vis X.env.scope x->∃u,QN v u/\Look X.env s.heap m x u
 cell:∀x c,X.env.cells.lookup x=some c->∃v,s.heap.IsCell c v
 free:H X.env.locals=none
 vT:∀x c,X.env.cells.lookup x=some c->H c=none
 pin:∀p∈X.pn++pins,s.heap.get? p.1=some p.2/\H p.1=none/\p.1≠X.env.locals/\p.1∉X.fs/\∀v,p.2.data≠.cell v
 hok:iW X.prog X.w H s.heap
 len:σ.length=X.N.length
section
variable {X:Cx}{pins:qa (qc×Obj)}{σ:qa (Option V)}{H H':Hp}{s:Shared}{h':Heap}
def Cx.Ok.nofr(ok:X.Ok){b:qc}{o:Obj}(e:X.base.get? b=some o):b∉X.fs:=λa=>by
 have:=(ok.oH.mem a).1;rw[e] at this;cases this
def Inv.bs(I:Inv X pins σ H s):∀b o,X.base.get? b=some o->s.heap.get? b=some o/\H b=none:=λb o e=>
 ⟨I.base.keep b o (I.ok.bs b o e).1 (I.ok.bs b o e).2 (I.ok.nofr e) (I.ok.Qb4 b o e),I.base.free b o (I.ok.bs b o e).1 (I.ok.bs b o e).2 (I.ok.Qb4 b o e)⟩
def Inv.bk(I:Inv X pins σ H s):∀b o,X.base.get? b=some o->s.heap.get? b=some o:=λb o e=>(I.bs b o e).1
def Inv.mod(I:Inv X pins σ H s):Mod X.K X.mg X.base:=I.ok.mod
def Inv.oA(I:Inv X pins σ H s):X.K.In s.heap:=I.ok.mod.kin.keeps I.bk
def Inv.lt(I:Inv X pins σ H s):X.env.locals<s.heap.objs.size:=let ⟨_,a,_⟩:=I.loc;a.lt
def Inv.sz(I:Inv X pins σ H s):X.s₀.heap.objs.size<=s.heap.objs.size:=zu I.ok.above (vv I.lt)
def Inv.nofs(I:Inv X pins σ H s){a:qc}(h:s.heap.objs.size<=a):a∉X.fs:=λb=>by
 obtain⟨_,o,c,_⟩:=I.ok.oH.mem b;exact absurd (zl (qT c) (zu I.sz h)) (yk _)
def Inv.cne(I:Inv X pins σ H s):∀x c,X.env.cells.lookup x=some c->c≠X.env.locals:=λx c e z=>by
 obtain⟨v,o,d,hd⟩:=I.cell x c e;obtain⟨m,⟨f,es,g,a,b,_⟩,_⟩:=I.loc;rw[z,a] at d;cases d;rw[b] at hd;cases hd
def Inv.oH(I:Inv X pins σ H s):s.heap.FunFrames X.base X.outer:=by
 have all:∀(l:qa Env),(∀b∈frs l,b∈X.fs)->X.s₀.heap.FunFrames X.base l->s.heap.FunFrames X.base l:=by
  intro l
  induction l with
  |nil=>intro _ _;trivial
  |cons env r f=>
   intro d g;obtain⟨h,⟨L,o,hf,i,j,hd⟩,k⟩:=g;have a:L∈X.fs:=d L (by unfold frs;rw[QaA,hf];exact qy);obtain⟨m,e⟩:=I.base.slot L o j (I.ok.frf L a) a λz=>I.ok.Qcg L z a;exact⟨h,⟨L,_,hf,i,e,hd⟩,f (λb c=>d b (by unfold frs;rw[QaA,hf];exact qH _ c)) k⟩
 exact all X.outer (λ_ c=>c) I.ok.oH
def Inv.stack(I:Inv X pins σ H s):s.heap.FunFrames X.base X.stack:=by
 rcases I.ok.stk with e|⟨e,hf⟩
 .rw[e];exact I.oH
 .rw[e];obtain⟨m,a,_⟩:=I.loc;refine .cons (by rw[I.ok.kind];decide) hf a ?_ I.oH;exact Heap.get?_none_of_le (zu I.ok.bsz I.ok.above)
def Inv.QaE(I:Inv X pins σ H s):∀b∈frs X.stack,b∈X.env.locals::X.fs:=λb a=>by
 rcases I.ok.stk with e|⟨e,hf⟩
 .rw[e] at a;exact qH _ a
 .rw[e] at a;unfold frs at a;rw[QaA,hf] at a;exact a
def Inv.Qa4(I:Inv X pins σ H s):∀b∈frs X.stack,H b=none:=λb a=>by
 rcases qK.mp (I.QaE b a) with e|a
 .rw[e];exact I.free
 .obtain⟨_,o,c,_⟩:=I.ok.oH.mem a;exact I.base.free b o c (I.ok.frf b a) λz=>I.ok.Qcg b z a
def Inv.step{g':Array GenState}{t':Nat}{d':Drawn}{ch:qa qc}(I:Inv X pins σ H s)
 (f:∀b∈ch,(b∈X.ex\/X.s₀.heap.objs.size<=b)/\b≠X.env.locals/\(∀x c,X.env.cells.lookup x=some c->c≠b)/\∀p∈X.pn++pins,p.1≠b)
 (keep:∀b o,b≠X.env.locals->b∉X.fs->b∉ch->s.heap.get? b=some o->H b=none->h'.get? b=some o)
 (slot:∀b o,b≠X.env.locals->b∈X.fs->b∉ch->s.heap.get? b=some o->H b=none->∃C,h'.get? b=some {o with slots:=C}) (free:∀b o,b∉ch->s.heap.get? b=some o->H b=none->H' b=none)
 (there:∀b o,b∉ch->s.heap.get? b=some o->∃y,h'.get? b=some y)
 (tups:∀b xs,H b=some (.tup xs)->H' b=some (.tup xs)) (mV:∀b o u,H b=some (.jF o u)->H' b=some (.jF o u)) (ry:∀b ps,H b=some (.tbl ps)->∃more,H' b=some (.tbl (ps++more)))
 (ns:∀m,s.heap.Ns X.env.locals m->h'.Ns X.env.locals m) (hok:iW X.prog X.w H' h') (hg:AllBare g') :
 Inv X pins σ H' {s with heap:=h',gens:=g',drawn:=d',toks:=t'}:=by
 have A:∀b o,X.s₀.heap.get? b=some o->b≠X.env.locals:=λb o e=>zc (zl (qT e) I.ok.above);have h:∀b o,X.s₀.heap.get? b=some o->b∉X.ex->b∉ch:=λb o e a t=>by
  rcases (f b t).1 with z|z
  .exact a z
  .exact absurd (zl (qT e) z) (yk _)
 have cellK:∀x c,X.env.cells.lookup x=some c->∀v,s.heap.IsCell c v->h'.IsCell c v:=λx c e v ⟨o,w,hd⟩=>by
  have g:c∉ch:=λz=>(f c z).2.2.1 x c e rfl;by_cases hc:c∈X.fs
  .obtain⟨C,q⟩:=slot c o (I.cne x c e) hc g w (I.vT x c e);exact⟨_,q,hd⟩
  .exact⟨o,keep c o (I.cne x c e) hc g w (I.vT x c e),hd⟩
 refine⟨I.ok,I.os,hg,⟨λb o e n t a=>?_,λb o e n t a=>?_,λb o e n a=>?_,λb o e a=>?_,λb xs e=>tups b xs (I.base.tups b xs e),λb o xs e=>mV b o xs (I.base.mV b o xs e),λb ps e=>?_⟩,?_,λx c e=>?_,?_,λx c e=>?_,λp E=>?_,hok,I.len⟩
 .exact keep b o (A b o e) t (h b o e a) (I.base.keep b o e n t a) (I.base.free b o e n a)
 .obtain⟨C,j⟩:=I.base.slot b o e n t a;obtain⟨D,B⟩:=slot b _ (A b o e) t (h b o e a) j (I.base.free b o e n a);exact⟨D,B⟩
 .obtain⟨y,j⟩:=I.base.there b o e a;exact free b y (h b o e a) j (I.base.free b o e n a)
 .obtain⟨y,j⟩:=I.base.there b o e a;exact there b y (h b o e a) j
 .obtain⟨y,j⟩:=I.base.ry b ps e;obtain⟨C,B⟩:=ry b _ j;exact⟨y++C,by rw[B,Array.append_assoc]⟩
 .obtain⟨m,y,C⟩:=I.loc;refine⟨m,ns m y,λi x v j B D=>?_⟩;obtain⟨u,r,l⟩:=C i x v j B D;refine⟨u,r,?_⟩;rcases l with l|⟨k,c,e,z⟩
  .exact .inl l
  .exact .inr ⟨k,c,e,cellK x c e _ z⟩
 .obtain⟨v,z⟩:=I.cell x c e;exact⟨v,cellK x c e v z⟩
 .obtain⟨m,⟨o,_,_,w,_⟩,_⟩:=I.loc;exact free _ o (λz=>(f _ z).2.1 rfl) w I.free
 .obtain⟨v,o,w,hd⟩:=I.cell x c e;exact free c o (λz=>(f c z).2.2.1 x c e rfl) w (I.vT x c e)
 .obtain⟨e,n,ne,j,d⟩:=I.pin p E;have g:p.1∉ch:=λz=>(f p.1 z).2.2.2 p E rfl;exact⟨keep p.1 p.2 ne j g e n,free p.1 p.2 g e n,ne,j,d⟩
def Inv.un{t':Nat}(I:Inv X pins σ H s)(u:Un X.fs [] H H' s.heap h')(hok:iW X.prog X.w H' h'):Inv X pins σ H' {s with heap:=h',toks:=t'}:=by
 obtain⟨m,⟨o,es,j,g,r⟩,_⟩:=id I.loc;obtain⟨k,h⟩:=u.any g I.free (by simp);exact I.step (g':=s.gens) (d':=s.drawn) (ch:=[]) (λ_ z=>nomatch z) (λb o _ c _ e n=>u.keep b o e n c (by simp)) (λb o _ c _ e n=>u.slot b o e n c (by simp)) (λb o _ e n=>u.free b o e n (by simp)) (λb o _ e=>u.there b o e (by simp)) u.tups u.mV u.ry (λl hm=>by
  obtain⟨p,d,f,a,i⟩:=hm;rw[g] at a;cases a;exact⟨_,d,f,h,i⟩) hok I.bare
def Inv.call{g':Array GenState}{t':Nat}{d':Drawn}{ch:qa qc}(I:Inv X pins σ H s)(u:Un (frs X.stack) ch H H' s.heap h')(hok:iW X.prog X.w H' h')(hg:AllBare g')
 (a:∀b∈ch,(b∈X.ex\/X.s₀.heap.objs.size<=b)/\b≠X.env.locals/\(∀x c,X.env.cells.lookup x=some c->c≠b)/\∀p∈X.pn++pins,p.1≠b) :
 Inv X pins σ H' {s with heap:=h',gens:=g',drawn:=d',toks:=t'}:=by
 obtain⟨m,⟨o,es,l,i,r⟩,_⟩:=id I.loc;obtain⟨q,f⟩:=u.any i I.free λz=>(a _ z).2.1 rfl;exact I.step (ch:=ch) a (λb o f j hc e n=>u.keep b o e n (λz=>(qK.mp (I.QaE b z)).elim f j) hc) (λb o _ _ hc e n=>u.any e n hc) (λb o hc e n=>u.free b o e n hc) (λb o hc e=>u.there b o e hc) u.tups u.mV u.ry (λt hm=>by
  obtain⟨v,g,h,d,k⟩:=hm;rw[i] at d;cases d;exact⟨_,g,h,f,k⟩) hok hg
def Inv.turned{t':Nat}{it:qc}(I:Inv X pins σ H s)(k:∀b o,b≠it->s.heap.get? b=some o->h'.get? b=some o)(f:H it=none)(d:it≠X.env.locals)
 (g:it∈X.ex\/X.s₀.heap.objs.size<=it) (h:∀x c,X.env.cells.lookup x=some c->c≠it) (i:∀p∈X.pn++pins,p.1≠it):Inv X pins σ H {s with heap:=h',toks:=t'}:=by
 have a:∀b u,H b=some u->b≠it:=λb u e z=>by rw[z,f] at e;cases e
 refine I.step (g':=s.gens) (d':=s.drawn) (ch:=[it]) (λb j=>?_) (λb o _ _ hc e _=>k b o (λz=>hc (by simp[z])) e) (λb o _ _ hc e _=>⟨o.slots,k b o (λz=>hc (by simp[z])) e⟩) (λ_ _ _ _ n=>n)
  (λb o hc e=>⟨o,k b o (λz=>hc (by simp[z])) e⟩) (λ_ _ e=>e) (λ_ _ _ e=>e) (λb ps e=>⟨#[],by rw[e];simp⟩) (λm hm=>?_) (λb u e=>?_) I.bare
 .have e:b=it:=by simpa using j
  subst e;exact⟨g,d,h,i⟩
 .obtain⟨o,es,g,h,r⟩:=hm;exact⟨o,es,g,k _ o (xJ d) h,r⟩
 .refine(I.hok b u e).stay (λc v hc q=>k c v ?_ q) (λ_ q=>q) λ_ _ q=>q;rcases hc with z|z
  .rw[z];exact a b u e
  .exact a c _ z
def Inv.tok(I:Inv X pins σ H s)(t:Nat):Inv X pins σ H {s with toks:=t}:=I.un (h':=s.heap) (t':=t) Un.refl I.hok
def Inv.kept{t':Nat}(I:Inv X pins σ H s)(k:∀b u,s.heap.get? b=some u->h'.get? b=some u):Inv X pins σ H {s with heap:=h',toks:=t'}:=I.un (Un.kept k) (I.hok.kept k)
def Inv.laid{a:qc}{o:HO}{t':Nat}(I:Inv X pins σ H s)(k:∀b u,s.heap.get? b=some u->h'.get? b=some u)(c:s.heap.objs.size<=a)(new:Q2 X.prog X.w (upd H a o) h' a o) :
 Inv X pins σ (upd H a o) {s with heap:=h',toks:=t'}:=I.un (Un.laid k c (I.hok.fresh c)) (I.hok.laid k c new)
def Inv.write{x e:qc}{o:HO}{t':Nat}(I:Inv X pins σ H s)(c:Mut (H x))(he:e=x\/H e=some (.own x))(k:∀b u,b≠e->s.heap.get? b=some u->h'.get? b=some u)(a:∃u,h'.get? e=some u)
 (new:Q2 X.prog X.w (upd H x o) h' x o):Inv X pins σ (upd H x o) {s with heap:=h',toks:=t'}:=I.un (Un.write c he k a) (I.hok.write c he k a new)
def Inv.Qa7{a:qa (qc×Obj)}(I:Inv X pins σ H s)(h:∀p∈a,s.heap.get? p.1=some p.2/\H p.1=none/\p.1≠X.env.locals/\p.1∉X.fs/\∀v,p.2.data≠.cell v):Inv X a σ H s:=
 ⟨I.ok,I.os,I.bare,I.base,I.loc,I.cell,I.free,I.vT,λp b=>(qt.mp b).elim (λz=>I.pin p (qC _ z)) (h p),I.hok,I.len⟩
def I0{N:qe}(c:N.Nodup){i j:Nat}{x:qb}(a:N[i]?=some x)(b:N[j]?=some x):i=j:=by
 obtain⟨f,d⟩:=qW.mp a;obtain⟨g,e⟩:=qW.mp b;exact(List.getElem_inj c).mp (d.trans e.symm)
def Ej{M:Model}{A:Around}{E:qf}{i:Nat}{x:qb}{v:V}{u:qd}{Q:Unit->Shared->Prop}(I:Inv X pins σ H s)(hN:X.N.Nodup)(J:X.N[i]?=some x)(l:Loc X.env.scope x)(r:QN v u)
 (h:∀s',Inv X pins (σ.set i (some v)) H s'->(∃a,Heap.SameBut a s.heap s'.heap/\(a=X.env.locals\/X.env.cells.lookup x=some a))->Q () s') (hf:X.fn x=true\/X.env.scope.names.lookup x=some .local:=by first|exact .inl rfl|exact .inr rfl|assumption):wpAny M A (storeName X.env x u) Q E s:=by
 obtain⟨m,S,hl⟩:=id I.loc;have K:(X.env.scope.kind==.class||(X.env.scope.kind==.module&&X.env.locals != X.env.globals))=false:=by rw[I.ok.kind];rfl
 have w:i<σ.length:=by rw[I.len];exact(qW.mp J).1
 have C:=I.cne;have tracked:∀{a:qc}{h':Heap},(∃o,s.heap.get? a=some o/\H a=none)->Heap.SameBut a s.heap h'->iW X.prog X.w H h':=λ{a h'} ha f b ob e=>by
  obtain⟨_,_,g⟩:=ha;refine(I.hok b ob e).stay (λc P hc q=>(f.2 c ?_).trans q) (λ_ q=>q) λ_ _ q=>q;rintro rfl;rcases hc with rfl|hc
  .rw[g] at e;cases e
  .rw[g] at hc;cases hc
 rcases l with B|B
 .refine wpAny_storeName_local B S (λh' G f=>?_) K;obtain⟨N,_,_,L,_⟩:=id S;refine h _ ⟨I.ok,I.os,I.bare,⟨λb o e n D l=>?_,λb o e n D l=>?_,I.base.free,λb o e l=>?_,I.base.tups,I.base.mV,I.base.ry⟩,⟨_,G,λj y T g t Y=>?_⟩,λy c e=>?_,I.free,I.vT,λp Z=>?_,tracked ⟨N,L,I.free⟩ f,by simpa using I.len⟩ ⟨_,f,.inl rfl⟩
  .exact(f.2 b (zc (zl (qT e) I.ok.above))).trans (I.base.keep b o e n D l)
  .obtain⟨sl,g⟩:=I.base.slot b o e n D l;exact⟨sl,(f.2 b (zc (zl (qT e) I.ok.above))).trans g⟩
  .obtain⟨o',g⟩:=I.base.there b o e l;exact⟨o',(f.2 b (zc (zl (qT e) I.ok.above))).trans g⟩
  .by_cases F:j=i
   .subst F;rw[J] at g;cases g;rw[jg w] at t;cases t;exact⟨u,r,.inl ⟨B,by simp⟩⟩
   .rw[uR (xJ F)] at t;obtain⟨u',r',q⟩:=hl j y T g t Y;refine⟨u',r',?_⟩;rcases q with⟨k,e⟩|⟨k,c,e,z⟩
    .refine .inl ⟨k,?_⟩;have:y≠x:=λe=>F (I0 hN g (e▸J));simp[this,e]
    .exact .inr ⟨k,c,e,z.sameBut f (C y c e)⟩
  .obtain⟨P,z⟩:=I.cell y c e;exact⟨P,z.sameBut f (C y c e)⟩
  .obtain⟨e,n,ne,nf,d⟩:=I.pin p Z;exact⟨(f.2 p.1 ne).trans e,n,ne,nf,d⟩
 .have G:X.fn x=true:=by
   rcases hf with z|z
   .exact z
   .rw[z] at B;cases B
  obtain⟨c,hc⟩:=I.ok.has x (.inl B);obtain⟨P,z⟩:=I.cell x c hc;refine wpAny_storeName_cell I.ok.kind B hc z (λh' L f=>?_);obtain⟨oc,N,O⟩:=id z;refine h {s with heap:=h'} ⟨I.ok,I.os,I.bare,⟨λb o e n D l=>?_,λb o e n D l=>?_,I.base.free,λb o e l=>?_,I.base.tups,I.base.mV,I.base.ry⟩,⟨m,S.sameBut f (xJ (C x c hc)),λj y T g t Y=>?_⟩,λy R e=>?_,I.free,I.vT,λp Z=>?_,tracked ⟨oc,N,I.vT x c hc⟩ f,by simpa using I.len⟩ ⟨c,f,.inr hc⟩
  .exact(f.2 b (zc (zl (qT e) (I.ok.cab x c G hc)))).trans (I.base.keep b o e n D l)
  .obtain⟨sl,g⟩:=I.base.slot b o e n D l;exact⟨sl,(f.2 b (zc (zl (qT e) (I.ok.cab x c G hc)))).trans g⟩
  .obtain⟨o',g⟩:=I.base.there b o e l;exact⟨o',(f.2 b (zc (zl (qT e) (I.ok.cab x c G hc)))).trans g⟩
  .by_cases F:j=i
   .subst F;rw[J] at g;cases g;rw[jg w] at t;cases t;exact⟨u,r,.inr ⟨.inl B,c,hc,L⟩⟩
   .rw[uR (xJ F)] at t;obtain⟨u',r',q⟩:=hl j y T g t Y;refine⟨u',r',?_⟩;rcases q with q|⟨k,R,e,z'⟩
    .exact .inl q
    .refine .inr ⟨k,R,e,z'.sameBut f ?_⟩;rintro rfl;exact F (I0 hN g (I.ok.inj _ _ _ e hc▸J))
  .by_cases F:R=c
   .subst F;exact⟨_,L⟩
   .obtain⟨w2,z2⟩:=I.cell y R e;exact⟨w2,z2.sameBut f F⟩
  .obtain⟨e,n,ne,nf,d⟩:=I.pin p Z;refine⟨(f.2 p.1 ?_).trans e,n,ne,nf,d⟩;intro q;rw[q,N] at e;have F:oc=p.2:=qN e;exact d P (by rw[<-F];exact O)
def HL{M:Model}{A:Around}{E:qf}{i:Nat}{x:qb}{v:V}{u:qd}{Q:Unit->Shared->Prop}(I:Inv X pins σ H s)(a:X.N.Nodup)(b:X.N[i]?=some x)(c:Loc X.env.scope x)(r:QN v u)
 (h:∀s',Inv X pins (σ.set i (some v)) H s'->Q () s') (hf:X.fn x=true\/X.env.scope.names.lookup x=some .local:=by first|exact .inl rfl|exact .inr rfl|assumption):wpAny M A (storeName X.env x u) Q E s:=
 Ej I a b c r (λs' d _=>h s' d) hf
def Inv.call'{s':Shared}{ch:qa qc}(I:Inv X pins σ H s)(d:s'.os=s.os)(u:Un (frs X.stack) ch H H' s.heap s'.heap)(hok:iW X.prog X.w H' s'.heap)(hg:AllBare s'.gens)
 (a:∀b∈ch,(b∈X.ex\/X.s₀.heap.objs.size<=b)/\b≠X.env.locals/\(∀x c,X.env.cells.lookup x=some c->c≠b)/\∀p∈X.pn++pins,p.1≠b):Inv X pins σ H' s':=by
 obtain⟨h',g',d',t',f⟩:=s';have e:f=s.os:=d;subst e;exact I.call (g':=g') (t':=t') (d':=d') u hok hg a
end
abbrev XK:=qd->Option qc->Hp->Prop
abbrev St:=qa (Option V)
abbrev VK:=V->Hp->Prop
abbrev TE:=St->Hp->VK->Prop
abbrev TT:=St->Hp->(Bool->Hp->Prop)->Prop
abbrev TA:=St->Hp->(qa V->Hp->Prop)->Prop
structure V2 where
 nx:St->Hp->Prop
 rt:VK
 bk:St->Hp->Prop:=λ_ _=>False
 ct:St->Hp->Prop:=λ_ _=>False
abbrev TS:=V2->St->Hp->Prop
inductive EP(X:Cx)(pins:qa (qc×Obj))(σ:St)(Q:VK)(u:qd)(s':Shared):Prop
 |mk:∀v H',Inv X pins σ H' s'->QN v u->Q v H'->EP X pins σ Q u s'
inductive TP(X:Cx)(pins:qa (qc×Obj))(σ:St)(Q:Bool->Hp->Prop)(b:Bool)(s':Shared):Prop
 |mk:∀H',Inv X pins σ H' s'->Q b H'->TP X pins σ Q b s'
inductive AP(X:Cx)(pins:qa (qc×Obj))(σ:St)(Q:qa V->Hp->Prop)(us:qg)(s':Shared):Prop
 |mk:∀vs H',Inv X pins σ H' s'->QK vs us->Q vs H'->AP X pins σ Q us s'
inductive SPn(X:Cx)(pins:qa (qc×Obj))(N:St->Hp->Prop)(s':Shared):Prop
 |mk:∀σ' H',Inv X pins σ' H' s'->N σ' H'->SPn X pins N s'
inductive SPr(X:Cx)(pins:qa (qc×Obj))(N:VK)(u:qd)(s':Shared):Prop
 |mk:∀v σ' H',Inv X pins σ' H' s'->QN v u->N v H'->SPr X pins N u s'
def SP(X:Cx)(pins:qa (qc×Obj))(D:V2)(f:Flow)(s':Shared):Prop:=
 match f with
 |.next=>SPn X pins D.nx s'
 |.brk=>SPn X pins D.bk s'
 |.cont=>SPn X pins D.ct s'
 |.ret u=>SPr X pins D.rt u s'
def PE(X:Cx)(e:Expr)(t:TE):Prop:=
 ∀(pins:qa (qc×Obj))(s:Shared)(σ:St)(H:Hp)(Q:VK),Inv X pins σ H s->t σ H Q->wpAny (model X.prog X.w) X.A (eval e X.env) (EP X pins σ Q) X.xe s
def PT(X:Cx)(e:Expr)(t:TT):Prop:=
 ∀(pins:qa (qc×Obj))(s:Shared)(σ:St)(H:Hp)(Q:Bool->Hp->Prop),Inv X pins σ H s->t σ H Q->wpAny (model X.prog X.w) X.A (isTrue e X.env (eval e X.env)) (TP X pins σ Q) X.xe s
def PW(X:Cx)(e:Expr)(t:TT):Prop:=
 ∀(whole:Sem qd)(pins:qa (qc×Obj))(s:Shared)(σ:St)(H:Hp)(Q:Bool->Hp->Prop),Inv X pins σ H s->t σ H Q->wpAny (model X.prog X.w) X.A (isTrue e X.env whole) (TP X pins σ Q) X.xe s
def PW.pt{X:Cx}{e:Expr}{t:TT}(h:PW X e t):PT X e t:=h _
def PA(X:Cx)(es:qa Expr)(t:TA):Prop:=
 ∀(pos:Pos)(pins:qa (qc×Obj))(s:Shared)(σ:St)(H:Hp)(Q:qa V->Hp->Prop),Inv X pins σ H s->t σ H Q->wpAny (model X.prog X.w) X.A (spliced (backTo pos (starEach es X.env))) (AP X pins σ Q) X.xe s
def PS(X:Cx)(st:Stmt)(t:TS):Prop:=
 ∀(pins:qa (qc×Obj))(s:Shared)(σ:St)(H:Hp)(D:V2),Inv X pins σ H s->t D σ H->wpAny (model X.prog X.w) X.A (exec st X.env) (SP X pins D) X.xe s
def PSs(X:Cx)(st:qa Stmt)(t:TS):Prop:=
 ∀(pins:qa (qc×Obj))(s:Shared)(σ:St)(H:Hp)(D:V2),Inv X pins σ H s->t D σ H->wpAny (model X.prog X.w) X.A (execs st X.env) (SP X pins D) X.xe s
def jE{α:Type}{t:Sem α}{Q Q':α->Shared->Prop}{M:Model}{A:Around}{E:qf}{s:Shared}(h:wpAny M A t Q E s)(b:∀a s,Q a s->Q' a s):wpAny M A t Q' E s:=yN h b λ_ _ x=>x
section
variable {X:Cx}
inductive RH(i:Nat)(σ:St)(H:Hp)(Q:VK):Prop
 |mk:∀v,σ[i]?=some (some v)->Q v H->RH i σ H Q
def gA(i:Nat):TE:=λσ H Q=>RH i σ H Q
def tC(v:V):TE:=λ_ H Q=>Q v H
def eM{i:Nat}{x:qb}{pos:Pos}(f:X.N[i]?=some x)(g:Vis X.env.scope x)(hd:(x==("__debug__":qb))=false:=by decide)(d:(x==("__classdict__":qb))=false:=by decide):PE X (.Name x pos) (gA i):=by
 intro pins s σ H Q I h;obtain⟨v,e,h⟩:=h;obtain⟨m,j,k⟩:=I.loc;obtain⟨u,r,l⟩:=k i x v f e g;have fin:EP X pins σ Q u s:=⟨v,H,I,r,h⟩;rcases l with⟨b,hm⟩|⟨b,c,hc,a⟩
 .exact wpAny_Name (wpAny_loadName_local I.ok.kind b j hm fin) hd
 .rcases b with b|b
  .exact wpAny_Name (wpAny_loadName_cell I.ok.kind b hc a fin) hd
  .exact wpAny_Name (wpAny_loadName_free I.ok.kind b hc a fin d) hd
def Qi{i j pos}:PE X (.Constant (.int i) j pos) (tC (.int i)):=λ_ _ _ H _ I h=>wpAny_Constant_int ⟨.int i,H,I.tok _,⟨_,U⟩,h⟩
def YX{b j pos}:PE X (.Constant (.bool b) j pos) (tC (.bl b)):=λ_ _ _ H _ I h=>Constant_bool ⟨.bl b,H,I,U,h⟩
def AO{j pos}:PE X (.Constant .none j pos) (tC .non):=λ_ _ _ H _ I h=>Constant_none ⟨.non,H,I,U,h⟩
def Qp{x j pos}:PE X (.Constant (.str x) j pos) (tC (.str x)):=λ_ _ _ H _ I h=>Calls.Constant_str ⟨.str x,H,I.tok _,⟨_,U⟩,h⟩
def Gl(X:Cx)(x:qb):Prop:=X.env.kindOf x=some .globalImplicit
def B5{E:qf}{pins:qa (qc×Obj)}{s:Shared}{σ:St}{H:Hp}{x:qb}{u:qd}{pos:Pos}{Q:qf}(I:Inv X pins σ H s)(hg:Gl X x)(hm:X.mg x=some u)(h:Q u s)
 (hd:(x==("__debug__":qb))=false:=by decide):wpAny (model X.prog X.w) X.A (eval (.Name x pos) X.env) Q E s:=
 Calls.Name_function_global I.ok.kind hg (Calls.loadGlobal_global (by rw[I.ok.glob];exact I.mod.glob.keeps I.bk) hm h) hd
def Hj{E:qf}{pins:qa (qc×Obj)}{s:Shared}{σ:St}{H:Hp}{x:qb}{u:qd}{pos:Pos}{Q:qf}(I:Inv X pins σ H s)(hg:Gl X x)(hm:X.mg x=none)(a:bootBuiltins x=some u)(h:Q u s)
 (b:x≠"__name__":=by decide) (hd:(x==("__debug__":qb))=false:=by decide):wpAny (model X.prog X.w) X.A (eval (.Name x pos) X.env) Q E s:=by
 obtain⟨e,c,d⟩:=I.mod.blt;exact Calls.Name_function_global I.ok.kind hg (Calls.loadGlobal_builtin (by rw[I.ok.glob];exact I.mod.glob.keeps I.bk) hm (by rw[I.ok.blt];exact c.keeps I.bk) ((d x b).trans a) h) hd
def bz{x:qb}{v:V}{u:qd}{pos:Pos}(hg:Gl X x)(hm:X.mg x=some u)(r:QN v u)(hd:(x==("__debug__":qb))=false:=by decide):PE X (.Name x pos) (tC v):=
 λ_ _ _ H _ I h=>B5 I hg hm ⟨v,H,I,r,h⟩ hd
def WS{x:qb}{v:V}{u:qd}{pos:Pos}(hg:Gl X x)(hm:X.mg x=none)(a:bootBuiltins x=some u)(r:QN v u)(b:x≠"__name__":=by decide)(hd:(x==("__debug__":qb))=false:=by decide):PE X (.Name x pos) (tC v):=
 λ_ _ _ H _ I h=>Hj I hg hm a ⟨v,H,I,r,h⟩ b hd
variable {a b:Expr}{ta tb:TE}{pos:Pos}
def PC(X:Cx)(op:CmpOp)(a b:Expr)(t:TE):Prop:=
 ∀(pins:qa (qc×Obj))(s:Shared)(σ:St)(H:Hp)(Q:VK),Inv X pins σ H s->t σ H Q ->
  wpAny (model X.prog X.w) X.A (eval a X.env) (λv c=>wpAny (model X.prog X.w) X.A (eval b X.env) (λu d=>wpAny (model X.prog X.w) X.A (compareOp op v u) (EP X pins σ Q) X.xe d) X.xe c) X.xe s
inductive gQ(Q:(Bool->Hp->Prop))(x:V)(H1:Hp):Prop
 |mk:∀c,x=.bl c->Q c H1->gQ Q x H1
def tB(t:TE):TT:=λσ H Q=>t σ H λx H1=>gQ Q x H1
def UM{op:CmpOp}{t:TE}(h:PC X op a b t)(e:behindInMarks op b=false:=by first|exact nobehind _ (by decide) (by decide)|rfl):PT X (.Compare a [op] [b] pos) (tB t):=by
 intro pins s σ H Q I hw;refine wpAny_isTrue_Compare1 (jE (h pins s σ H _ I hw) λv s1 e=>jE e λu s2 f=>jE f λc s3 ⟨x,H1,g,i,j⟩=>?_) e;obtain⟨d,rfl,q⟩:=j;cases i;exact jq ⟨H1,g,q⟩
def Uu{e:Expr}{t:TE}(h:PE X e t)(he:∀whole,isTrue e X.env whole=(do let v <-whole;standAt e.pos;holding [v] (truthy v)):=by intro _;rfl):PT X e (tB t):=by
 intro pins s σ H Q I hw;refine isTrue_plain (jE (h pins s σ H _ I hw) λv s1 ⟨x,H1,a,b,c⟩=>?_) (he _);obtain⟨d,rfl,q⟩:=c;cases b;exact jq ⟨H1,a,q⟩
variable {tA tB':TT}{rest:qa Expr}
def dR(t u:TT):TT:=λσ H Q=>t σ H λc H1=>if c=true then u σ H1 Q else Q false H1
def tOr(t u:TT):TT:=λσ H Q=>t σ H λc H1=>if c=true then Q true H1 else u σ H1 Q
def tNot(t:TT):TT:=λσ H Q=>t σ H λc H1=>Q (!c) H1
def Vo(b:PT X a tA):PW X (.BoolOp .And [a] pos) tA:=by
 intro d pins s σ H Q I h;refine isTrue_and (jE (b pins s σ H Q I h) λc s1 e=>?_)
 cases c with
 |true=>exact isTrue_and_nil e
 |false=>exact e
def V0(b:PT X a tA):PW X (.BoolOp .Or [a] pos) tA:=by
 intro d pins s σ H Q I h;refine isTrue_or (jE (b pins s σ H Q I h) λc s1 e=>?_)
 cases c with
 |false=>exact isTrue_or_nil e
 |true=>exact e
def V1(f:PT X a tA)(g:PW X (.BoolOp .And (b::rest) pos) tB'):PW X (.BoolOp .And (a::b::rest) pos) (dR tA tB'):=by
 intro i pins s σ H Q I h;refine isTrue_and (jE (f pins s σ H _ I h) λc s1 ⟨H1,d,e⟩=>?_)
 cases c with
 |true=>exact g i pins s1 σ H1 Q d e
 |false=>exact⟨H1,d,e⟩
def XJ(f:PT X a tA)(g:PW X (.BoolOp .Or (b::rest) pos) tB'):PW X (.BoolOp .Or (a::b::rest) pos) (tOr tA tB'):=by
 intro i pins s σ H Q I h;refine isTrue_or (jE (f pins s σ H _ I h) λc s1 ⟨H1,d,e⟩=>?_)
 cases c with
 |true=>exact⟨H1,d,e⟩
 |false=>exact g i pins s1 σ H1 Q d e
def UL(b:PT X a tA):PT X (.UnaryOp .Not a pos) (tNot tA):=by
 intro pins s σ H Q I h;exact isTrue_not (jE (b pins s σ H (λc H1=>Q (!c) H1) I h) λc s1 ⟨H1,d,e⟩=>⟨H1,d,e⟩)
inductive Nn(tb:TE)(σ:St)(Q:VK)(x:V)(H1:Hp):Prop
 |mk:∀c,x=.bl c->(if c=true then tb σ H1 Q else Q (.bl false) H1)->Nn tb σ Q x H1
def gT(ta tb:TE):TE:=λσ H Q=>ta σ H λx H1=>Nn tb σ Q x H1
inductive RJ(tb:TE)(σ:St)(Q:VK)(x:V)(H1:Hp):Prop
 |mk:∀c,x=.bl c->(if c=true then Q (.bl true) H1 else tb σ H1 Q)->RJ tb σ Q x H1
def tOrV(ta tb:TE):TE:=λσ H Q=>ta σ H λx H1=>RJ tb σ Q x H1
inductive Ni(Q:VK)(x:V)(H1:Hp):Prop
 |mk:∀c,x=.bl c->Q (.bl (!c)) H1->Ni Q x H1
def gF(ta:TE):TE:=λσ H Q=>ta σ H λx H1=>Ni Q x H1
def Gm{op}{t:TE}(h:PE X a t):PE X (.BoolOp op [a] pos) t:=λpins s σ H Q I hw=>BoolOp_one (h pins s σ H Q I hw)
def AQ(f:PE X a ta)(g:PE X (.BoolOp .And (b::rest) pos) tb):PE X (.BoolOp .And (a::b::rest) pos) (gT ta tb):=by
 intro pins s σ H Q I h;refine BoolOp_and (jE (f pins s σ H _ I h) λv s1 ⟨x,H1,e,i,d⟩=>?_);obtain⟨c,rfl,d⟩:=d;cases i;refine jq ?_
 cases c with
 |true=>exact g pins s1 σ H1 Q e d
 |false=>exact⟨.bl false,H1,e,U,d⟩
def Sz(f:PE X a ta)(g:PE X (.BoolOp .Or (b::rest) pos) tb):PE X (.BoolOp .Or (a::b::rest) pos) (tOrV ta tb):=by
 intro pins s σ H Q I h;refine BoolOp_or (jE (f pins s σ H _ I h) λv s1 ⟨x,H1,e,i,d⟩=>?_);obtain⟨c,rfl,d⟩:=d;cases i;refine jq ?_
 cases c with
 |false=>exact g pins s1 σ H1 Q e d
 |true=>exact⟨.bl true,H1,e,U,d⟩
def eU(d:PE X a ta):PE X (.UnaryOp .Not a pos) (gF ta):=by
 intro pins s σ H Q I h;refine UnaryOp_ (jE (d pins s σ H _ I h) λv s1 ⟨x,H1,e,f,b⟩=>?_);obtain⟨c,rfl,b⟩:=b;cases f;exact not_of (jq ⟨.bl (!c),H1,e,U,b⟩)
def tIf(t:TT)(ta tb:TE):TE:=λσ H Q=>t σ H λc H1=>if c=true then ta σ H1 Q else tb σ H1 Q
def CP{c:Expr}(hc:PT X c tA)(g:PE X a ta)(i:PE X b tb):PE X (.IfExp c a b pos) (tIf tA ta tb):=by
 intro pins s σ H Q I h;refine wpAny_IfExp (jE (hc pins s σ H _ I h) λd s1 ⟨H1,e,f⟩=>?_)
 cases d with
 |true=>exact g pins s1 σ H1 Q e f
 |false=>exact i pins s1 σ H1 Q e f
end
def zN(K:Frag)(H:Hp)(a:qc)(xs:qa V):Prop:=
 Rd H a (.lst xs) \/
  ∃(o:Obj)(its:Array qd)(n:Nat),K.lookup a=some o/\o.cls=.type "list"/\o.dict=none/\o.data=.seq its n/\its.size<=sizeLine/\QK xs its.toList
def jW(K:Frag)(H:Hp)(a:qc)(xs:qa V):Prop:=
 Rd H a (.tup xs) \/
  ∃(o:Obj)(its:Array qd)(n:Nat),K.lookup a=some o/\o.cls=.type "tuple"/\o.data=.seq its n/\its.size<=sizeLine/\QK xs its.toList
def absV:qd->Option V
 |.none=>some .non
 |.bool b=>some (.bl b)
 |.int i _=>some (.int i)
 |.str x _=>some (.str x)
 |.bytes b _=>some (.byt b)
 |.float b _=>some (.flt b)
 |.ref a=>some (.ref a)
 |.type n=>some (.ty n)
 |_=>none
def QN.abs{x:V}{u:qd}(r:QN x u):absV u=some x:=by
 cases x with
 |non=>cases r;rfl
 |bl _=>cases r;rfl
 |int _=>obtain⟨t,rfl⟩:=r;rfl
 |str _=>obtain⟨t,rfl⟩:=r;rfl
 |byt _=>obtain⟨t,rfl⟩:=r;rfl
 |flt _=>obtain⟨t,rfl⟩:=r;rfl
 |ref _=>cases r;rfl
 |ty _=>cases r;rfl
def QN.inj{x y:V}{u:qd}(r:QN x u)(q:QN y u):x=y:=qN (r.abs.symm.trans q.abs)
def QK.inj:∀{xs ys:qa V}{us:qg},QK xs us->QK ys us->xs=ys
 |_,_,_,.nil,.nil=>rfl
 |_,_,_,.cons r t,.cons a t'=>by rw[r.inj a,QK.inj t t']
section
variable {X:Cx}{pins:qa (qc×Obj)}{σ:St}{H:Hp}{s:Shared}{a:qc}{xs ys:qa V}
def zN.of{K:Frag}(h:H a=some (.lst xs)):zN K H a xs:=.inl (.inl h)
def jW.of{K:Frag}(h:H a=some (.tup xs)):jW K H a xs:=.inl (.inl h)
def Inv.list(I:Inv X pins σ H s)(h:zN X.K H a xs):∃its:qg,QK xs its/\PlainL s.heap a its.toArray/\xs.length<=sizeLine:=by
 rcases h with h|⟨o,its,n,b,hc,hd,c,hz,r⟩
 .obtain⟨z,its,n,r,e⟩:=h.ok I.hok;exact⟨its,r,⟨_,n,e,U,U,U⟩,z⟩
 .refine⟨its.toList,r,⟨o,n,I.oA a o b,hc,hd,by simpa using c⟩,?_⟩;have e:=r.length;simp only[zf] at e;omega
def Inv.tuple(I:Inv X pins σ H s)(h:jW X.K H a xs):∃its:qg,QK xs its/\IsTup s.heap a its.toArray/\xs.length<=sizeLine:=by
 rcases h with h|⟨o,its,n,b,hc,c,hz,r⟩
 .obtain⟨z,its,r,p⟩:=h.ok I.hok;exact⟨its,r,p,z⟩
 .refine⟨its.toList,r,⟨o,I.oA a o b,hc,n,by simpa using c⟩,?_⟩;have e:=r.length;simp only[zf] at e;omega
def Inv.Qcb(I:Inv X pins σ H s)(h:zN X.K H a xs)(h':zN X.K H a ys):xs=ys:=by
 obtain⟨its,r,⟨o,n,e,_,_,d⟩,_⟩:=I.list h;obtain⟨its',c,⟨g,i,b,_,_,d'⟩,_⟩:=I.list h';rw[e] at b;cases b;rw[d] at d'
 injection d' with f _
 have:its=its':=by simpa using zQ Array.toList f
 subst this;exact r.inj c
end
abbrev Cx.wish(X:Cx)(E:qf):Cx:={X with xe:=E}
abbrev Cx.nox(X:Cx):Cx:=X.wish λ_ _=>False
def Cx.Ok.wish{X:Cx}(ok:X.Ok)(E:qf):(X.wish E).Ok:=
 ⟨ok.mod,ok.kind,ok.glob,ok.blt,ok.above,ok.inj,ok.has,ok.cab,ok.hd,ok.frames,ok.stk,ok.exf,ok.bs,ok.bsz,ok.Qb4,ok.Qcg,ok.oH,ok.frf⟩
def Cx.Ok.uV{X:Cx}{E:qf}(ok:(X.wish E).Ok):X.Ok:=
 ⟨ok.mod,ok.kind,ok.glob,ok.blt,ok.above,ok.inj,ok.has,ok.cab,ok.hd,ok.frames,ok.stk,ok.exf,ok.bs,ok.bsz,ok.Qb4,ok.Qcg,ok.oH,ok.frf⟩
section
variable {X:Cx}{pins:qa (qc×Obj)}{σ:St}{H:Hp}{s:Shared}{E:qf}
def Inv.wish(I:Inv X pins σ H s)(E:qf):Inv (X.wish E) pins σ H s:=⟨I.ok.wish E,I.os,I.bare,I.base,I.loc,I.cell,I.free,I.vT,I.pin,I.hok,I.len⟩
def Inv.uV(I:Inv (X.wish E) pins σ H s):Inv X pins σ H s:=⟨I.ok.uV,I.os,I.bare,I.base,I.loc,I.cell,I.free,I.vT,I.pin,I.hok,I.len⟩
def SP.uV{D:V2}{f:Flow}{s':Shared}(h:SP (X.wish E) pins D f s'):SP X pins D f s':=by
 cases f with
 |next=>obtain⟨a,H',I,q⟩:=h;exact⟨a,H',I.uV,q⟩
 |brk=>obtain⟨a,H',I,q⟩:=h;exact⟨a,H',I.uV,q⟩
 |cont=>obtain⟨a,H',I,q⟩:=h;exact⟨a,H',I.uV,q⟩
 |ret u=>obtain⟨v,a,H',I,r,q⟩:=h;exact⟨v,a,H',I.uV,r,q⟩
def PSs.nox{st:qa Stmt}{t:TS}(h:PSs X.nox st t):PSs X st t:=λpins s σ H D I hw=>
 yN (h pins s σ H D (I.wish _) hw) (λ_ _ q=>q.uV) λ_ _ z=>False.elim z
end
section
variable {X:Cx}{st:Stmt}{rest:qa Stmt}{t u:TS}{e:Expr}{te:TE}{pos:Pos}
def RK:TS:=λD σ H=>D.nx σ H
def Ua(t u:TS):TS:=λD σ H=>t {D with nx:=u D} σ H
def QD:PSs X [] RK:=λ_ _ σ H _ I h=>Qa0 ⟨σ,H,I,h⟩
def Qd(b:PS X st t)(c:PSs X rest u):PSs X (st::rest) (Ua t u):=by
 intro pins s σ H D I h;refine wpAny_execs_cons (jE (b pins s σ H {D with nx:=u D} I h) λf s1 q=>?_)
 cases f with
 |next=>
  obtain⟨a,H',d,q⟩:=q;exact c pins s1 a H' D d q
 |ret v=>exact q
 |brk=>exact q
 |cont=>exact q
def Qe(a:PS X st t):PSs X [st] t:=by
 intro pins s σ H D I h;refine wpAny_execs_cons (jE (a pins s σ H D I h) λf s1 q=>?_)
 cases f with
 |next=>exact Qa0 q
 |ret v=>exact q
 |brk=>exact q
 |cont=>exact q
def Inv.quiet{pins:qa (qc×Obj)}{σ:St}{H:Hp}{s:Shared}(I:Inv X pins σ H s):interactive X.env=false:=by simp[interactive,I.ok.kind]
def gK(te:TE):TS:=λD σ H=>te σ H λ_ H1=>D.nx σ H1
def Qy(he:PE X e te)(a:swapsWith e none pos.line X.env=pure false:=by rfl):PS X (.Expr e pos) (gK te):=by
 intro pins s σ H D I h;exact wpAny_Expr_any (jE (he pins s σ H _ I h) λv s1 ⟨x,H1,b,d,c⟩=>⟨σ,H1,b,c⟩) I.quiet a
def tRet(te:TE):TS:=λD σ H=>te σ H D.rt
def Qu(he:PE X e te):PS X (.Return (some e) pos) (tRet te):=by
 intro pins s σ H D I h;exact wpAny_Return_some (jE (he pins s σ H _ I h) λv s1 ⟨x,H1,a,b,c⟩=>⟨x,σ,H1,a,b,c⟩)
def gD:TS:=λD _ H=>D.rt .non H
def N7:PS X (.Return none pos) gD:=λ_ _ σ H _ I h=>wpAny_Return_none ⟨.non,σ,H,I,U,h⟩
def aS(c:TT)(t u:TS):TS:=λD σ H=>c σ H λb H1=>if b=true then t D σ H1 else u D σ H1
def QU{c:Expr}{a b:qa Stmt}{e:TT}(hc:PT X c e)(i:PSs X a t)(j:PSs X b u):PS X (.If c a b pos) (aS e t u):=by
 intro pins s σ H D I h;refine wpAny_If (jE (hc pins s σ H _ I h) λd s1 ⟨H1,f,g⟩=>?_)
 cases d with
 |true=>exact i pins s1 σ H1 D f g
 |false=>exact j pins s1 σ H1 D f g
def dH:TS:=λ_ _ _=>False
def VQ:PS X st dH:=λ_ _ _ _ _ _ h=>h.elim
end
abbrev TG:=V->St->Hp->(St->Hp->Prop)->Prop
abbrev TGs:=qa V->St->Hp->(St->Hp->Prop)->Prop
def PG(X:Cx)(target:Expr)(t:TG):Prop:=
 ∀(pins:qa (qc×Obj))(s:Shared)(σ:St)(H:Hp)(v:V)(u:qd)(Q:St->Hp->Prop),Inv X pins σ H s->QN v u->t v σ H Q ->
  wpAny (model X.prog X.w) X.A (assign target X.env u) (λ_ s'=>∃a H',Inv X pins a H' s'/\Q a H') X.xe s
def PGs(X:Cx)(ts:qa Expr)(t:TGs):Prop:=
 ∀(pins:qa (qc×Obj))(s:Shared)(σ:St)(H:Hp)(vs:qa V)(us:qg)(Q:St->Hp->Prop),Inv X pins σ H s->QK vs us->t vs σ H Q ->
  wpAny (model X.prog X.w) X.A (assignInOrder ((assignEach ts X.env).map (·.2)) us) (λ_ s'=>∃a H',Inv X pins a H' s'/\Q a H') X.xe s
abbrev gi:=V->V->V->Hp->(Hp->Prop)->Prop
def ir(X:Cx)(t:gi):Prop:=
 ∀(pins:qa (qc×Obj))(s:Shared)(σ:St)(H:Hp)(o i v:V)(a b u:qd)(Q:Hp->Prop),Inv X pins σ H s->QN o a->QN i b->QN v u->t o i v H Q ->
  wpAny (model X.prog X.w) X.A (setItem a b u) (λ_ s'=>∃H',Inv X pins σ H' s'/\Q H') X.xe s
section
variable {X:Cx}{pos:Pos}
def EZ(i:Nat):TG:=λv σ H Q=>Q (σ.set i (some v)) H
def Q8{i:Nat}{x:qb}(a:X.N.Nodup)(b:X.N[i]?=some x:=by rfl)(c:Loc X.env.scope x:=by first|exact Or.inl rfl|exact Or.inr rfl)(hf:X.fn x=true\/X.env.scope.names.lookup x=some .local:=by first|exact .inl rfl|exact .inr rfl|assumption):PG X (.Name x pos) (EZ i):=by
 intro pins s σ H v u Q I r h;exact wpAny_assign_Name (HL I a b c r (λs' d=>⟨_,H,d,h⟩) hf)
def gNil:TGs:=λvs σ H Q=>vs=[]/\Q σ H
def ib(t:TG)(u:TGs):TGs:=λvs σ H Q=>∃v r,vs=v::r/\t v σ H λa H'=>u r a H' Q
def Oa:PGs X [] gNil:=by
 intro pins s σ H vs us Q I r h;obtain⟨e,h⟩:=h;subst e;cases r;exact assignInOrder_nil ⟨σ,H,I,h⟩
def Xc{e:Expr}{es:qa Expr}{t:TG}{u:TGs}(b:PG X e t)(c:PGs X es u)
 (d:(assignEach (e::es) X.env).map (·.2)=assign e X.env::(assignEach es X.env).map (·.2):=by rfl):PGs X (e::es) (ib t u):=by
 intro pins s σ H vs us Q I r h;obtain⟨v,k,f,h⟩:=h;subst f
 cases r with
 |cons r g=>
  rw[d];refine assignInOrder_cons (jE (b pins s σ H _ _ _ I r h) λ_ s1 ⟨a,H1,i,j⟩=>?_);exact c pins s1 a H1 _ _ Q i g j
def gTup(K:Frag)(n:Nat)(t:TGs):TG:=λv σ H Q=>∃a xs,v=.ref a/\jW K H a xs/\xs.length=n/\t xs σ H Q
def Sw{es:qa Expr}{k:Nat}{t:TGs}{n:Nat}(hc:X.calm=true)(h:PGs X es t)
 (f:(assignEach es X.env).length=n:=by rfl) (c:(assignEach es X.env).findIdx? (·.1)=none:=by rfl):PG X (.Tuple es k pos) (gTup X.K n t):=by
 intro pins s σ H v u Q I r hw;obtain⟨a,xs,g,i,j,hw⟩:=hw;subst g;cases r;obtain⟨its,d,l,hz⟩:=I.tuple i;refine assign_Tuple_tuple (I.ok.hd hc) l (by simp[f,<-j,d.length]) c λh' m=>?_;have p:Inv X pins σ H {s with heap:=h'}:=I.kept (t':=s.toks) λb o e=>m b o (zc (qT e)) e;exact h pins _ σ H xs _ Q p (by simpa using d) hw
def gSub(to a:TE)(t:gi):TG:=λv σ H Q=>to σ H λo H1=>a σ H1 λi b=>t o i v b λc=>Q σ c
def AN{o i:Expr}{to c:TE}{t:gi}(d:PE X o to)(e:PE X i c)(f:ir X t)
 (g:∀v,assign (.Subscript o i pos) X.env v=(do
   let a <-holding [v] (eval o X.env)
   let b <-holding [v,a] (eval i X.env)
   standAt pos
   holding [v,a,b] (setItem a b v)
   release [v,a,b] []):=by intro _;rfl):PG X (.Subscript o i pos) (gSub to c t):=by
 intro pins s σ H v u Q I r h;rw[g];refine qi (jz (jE (d pins s σ H _ I h) λa s1 ⟨x,H1,j,k,l⟩=>?_));refine qi (jz (jE (e pins s1 σ H1 _ j l) λb s2 ⟨y,m,n,p,q⟩=>?_));refine qi (wpAny_standAt (qi (jz (jE (f pins s2 σ m x y v a b u _ n k p r q) λ_ s3 ⟨w,z,A⟩=>?_))));exact wpAny_release ⟨σ,w,z,A⟩
def RQ(a:TE)(g:TG):TS:=λD σ H=>a σ H λx H1=>g x σ H1 D.nx
def Gk{a e:Expr}{c:TE}{g:TG}(he:PE X e c)(hg:PG X a g)(d:swapsWithSole [a] e pos.line X.env=pure false:=by rfl)(hw:swappedStores [a] e X.env=pure none:=by rfl)
 (f:(assignEach [a] X.env).map (·.2)=[assign a X.env]:=by rfl):PS X (.Assign [a] e pos) (RQ c g):=by
 intro pins s σ H D I h;refine wpAny_Assign_stores (jE (he pins s σ H _ I h) λv s1 ⟨x,H1,i,j,k⟩=>?_) d hw;rw[f];exact jE (hg pins s1 σ H1 x v _ i j k) λ_ s2 ⟨b,l,m,n⟩=>⟨b,l,m,n⟩
def Qs{i:Nat}{x:qb}{e:Expr}{a:TE}{pos':Pos}(b:X.N.Nodup)(he:PE X e a)(c:X.N[i]?=some x:=by rfl)(d:Loc X.env.scope x:=by first|exact Or.inl rfl|exact Or.inr rfl)(f:swapsWith e (some (.Name x pos')) pos.line X.env=pure false:=by rfl)(hf:X.fn x=true\/X.env.scope.names.lookup x=some .local:=by first|exact .inl rfl|exact .inr rfl|assumption) :
 PS X (.Assign [.Name x pos'] e pos) (RQ a (EZ i)):=by
 intro pins s σ H D I h;refine wpAny_Assign_Name (jE (he pins s σ H _ I h) λv s1 ⟨y,H1,g,j,k⟩=>?_) f;exact HL g b c d j (λs2 l=>⟨_,H1,l,k⟩) hf
end
section
variable {X:Cx}{pos:Pos}
inductive HF(c:TT)(tb:TS)(D:V2)(σ:St)(H:Hp):Prop
 |mk:∀W:Nat->St->Hp->Prop,(∃m,W m σ H)->(∀m σ H,W m σ H->c σ H λb H1=>if b=true then ∃N:St->Hp->Prop,(∀σ' H',N σ' H'->∃m',m'<m/\W m' σ' H')/\tb {D with nx:=N,ct:=N,bk:=D.nx} σ H1 else D.nx σ H1)->HF c tb D σ H
def dF(c:TT)(a:TS):TS:=λD σ H=>HF c a D σ H
def CN{c:Expr}{body:qa Stmt}{p:TT}{q:TS}(r:PassesOwn (model X.prog X.w) X.A X.env X.xe)(hc:PT X c p)(x:PSs X body q):PS X (.While c body [] pos) (dF p q):=by
 intro pins s σ H D I h;obtain⟨W,⟨m0,y⟩,turn⟩:=h;refine wpAny_While (codeAny_whileLoop (λn s'=>∃e H',Inv X pins e H' s'/\W n e H') ?_ m0 ⟨σ,H,I,y⟩);rintro n s1 ⟨d,H1,z,A⟩;refine vj r (jE (hc pins s1 d H1 _ z (turn n d H1 A)) λb s2 ⟨t,u,i⟩=>?_)
 cases b with
 |true=>
  obtain⟨N,w,i⟩:=i;rw[qG rfl];refine vj r (jE (x pins s2 d t _ u i) λf s3 j=>?_)
  cases f with
  |next=>
   obtain⟨a,g,k,l⟩:=j;obtain⟨m,hm,o⟩:=w a g l;exact⟨m,hm,a,g,k,o⟩
  |cont=>
   obtain⟨a,g,k,l⟩:=j;obtain⟨m,hm,o⟩:=w a g l;exact⟨m,hm,a,g,k,o⟩
  |brk=>exact j
  |ret v=>exact j
 |false=>
  rw[qA qI];exact Qa0 ⟨d,t,u,i⟩
end
structure It where
 go:Nat->Hp->Prop
 yld:Nat->Hp->V->Hp->Prop
 stop:Nat->Hp->Prop
def L6(X:Cx)(pins:qa (qc×Obj))(H:Hp)(b:qc):Prop:=
 H b=none/\b≠X.env.locals/\b∉X.fs/\(b∈X.ex\/X.s₀.heap.objs.size<=b)/\(∀x c,X.env.cells.lookup x=some c->c≠b)/\∀p∈X.pn++pins,p.1≠b
def Inv.Qbu{X:Cx}{pins:qa (qc×Obj)}{σ:St}{H H':Hp}{s:Shared}{b:qc}(I:Inv X pins σ H s)(a:s.heap.objs.size<=b)(d:H' b=none):L6 X pins H' b:=by
 refine⟨d,rn (zl I.lt a),I.nofs a,.inr (zu I.sz a),λx c e z=>?_,λp f z=>?_⟩
 .obtain⟨v,q⟩:=I.cell x c e;exact absurd (zl q.lt (by rw[z];exact a)) (yk _)
 .exact absurd (zl (qT (I.pin p f).1) (by rw[z];exact a)) (yk _)
structure Rv(P:Program)(w:World)(K:Frag)(tg:Expr)(J:It)(fp:qa qc)(it:qc)(tn:Nat->Heap->Prop):Prop where
 mem:it∈fp
 obj:∀i h,tn i h->∀b∈fp,∃o,h.get? b=some o/\∀v,o.data≠.cell v
 keep:∀i h h',tn i h->(∀b∈fp,∀o,h.get? b=some o->h'.get? b=some o)->tn i h'
 item:∀(X:Cx),X.prog=P->X.w=w->X.K=K->X.calm=true->∀(i:Nat)(pins:qa (qc×Obj))(s:Shared)(σ:St)(H:Hp)(E:qf),Inv X pins σ H s->(∀b∈fp,L6 X pins H b)->tn i s.heap->J.go i H ->
  wpAny (model P w) X.A (pyNext (.ref it)) (λr s1=>∃u,r=some u /\
   wpAny (model P w) X.A (letOwnedTupleGo tg (.ref it) u) (λ_ s2=>∃x H',Inv X pins σ H' s2/\QN x u/\J.yld i H x H'/\tn (i+1) s2.heap/\∀b∈fp,H' b=none) E s1) E s
 done:∀(X:Cx),X.prog=P->X.w=w->X.K=K->X.calm=true->∀(i:Nat)(pins:qa (qc×Obj))(s:Shared)(σ:St)(H:Hp)(E:qf),Inv X pins σ H s->(∀b∈fp,L6 X pins H b)->tn i s.heap->J.stop i H ->
  wpAny (model P w) X.A (pyNext (.ref it)) (λr s1=>r=none/\Inv X pins σ H s1) E s
 self:∀(A:Around)(i:Nat)(s:Shared)(Q:qf)(E:qf),tn i s.heap->Q (.ref it) s->wpAny (model P w) A (pyIter (.ref it)) Q E s
abbrev TI:=St->Hp->(It->Hp->Prop)->Prop
def PIE(X:Cx)(pins:qa (qc×Obj))(σ:St)(e:Expr)(R:It->Hp->Prop)(a:qd)(s2:Shared):Prop:=
 ∃(it:qc)(c:qa qc)(d:Nat->Heap->Prop)(J:It)(H':Hp),a=.ref it/\Inv X pins σ H' s2/\Rv X.prog X.w X.K e J c it d/\d 0 s2.heap/\(∀b∈c,L6 X pins H' b)/\R J H'
def PI(X:Cx)(a iter:Expr)(b:TI):Prop:=
 ∀(pins:qa (qc×Obj))(s:Shared)(σ:St)(H:Hp)(R:It->Hp->Prop),Inv X pins σ H s->b σ H R ->
  wpAny (model X.prog X.w) X.A (eval iter X.env) (λv s1=>wpAny (model X.prog X.w) X.A (pyIter v) (PIE X pins σ a R) X.xe s1) X.xe s
def Ly{M:Model}{A:Around}{E:qf}{s:Shared}{b:Expr}{it:qc}{u:qd}{o:Obj}{n:String}{vs:Array qd}{Q:Unit->Shared->Prop}(c:s.heap.get? it=some o)(hc:o.cls=.type n)(hd:o.data=.fields vs)
 (d:["enumerate","zip","dict_itemiterator","dict_reverseitemiterator","odict_iterator","itertools.zip_longest","itertools.pairwise"].contains n=false) (a:Q () s):wpAny M A (letOwnedTupleGo b (.ref it) u) Q E s:=by
 unfold letOwnedTupleGo;cases b<;>first
  |exact qv a
  |(cases u<;>first
     |exact qv a
     |(refine qi (wpAny_load c ?_)
       rw[hc,hd];show wpAny M A (if (["enumerate","zip","dict_itemiterator","dict_reverseitemiterator","odict_iterator","itertools.zip_longest","itertools.pairwise"].contains n&&vs[0]?==some (rawInt _))=true then _ else _) Q E s;rw[qA (by intro h;rw[d,tK] at h;cases h)];exact qv a))
def Itl(K:Frag)(a:qc):It:=
 ⟨λi H=>∃xs x,zN K H a xs/\xs[i]?=some x,λi H x H'=>H'=H/\∀xs,zN K H a xs->xs[i]?=some x,λi H=>∃xs,zN K H a xs/\xs.length<=i⟩
def Itr(lo:Int)(n:Nat):It:=⟨λi _=>i<n,λi H x H'=>H'=H/\x=.int (lo+i),λi _=>n<=i⟩
def O2{P:Program}{w:World}{K:Frag}{y:Expr}(a it:qc):Rv P w K y (Itl K a) [it] it (λi h=>h.IsListIter it a i) where
 mem:=by simp
 obj:=λi h st b f=>by
  have e:b=it:=by simpa using f
  subst e;obtain⟨o,e,c,d⟩:=st;exact⟨o,e,λv z=>by rw[d] at z;cases z⟩
 keep:=λi h h' st k=>st.at λo e=>k it (by simp) o e
 item:=by
  intro X l hw m hc i pins s σ H E I hf st hg;subst l hw m;obtain⟨xs,x,j,n⟩:=hg;obtain⟨its,q,p,hz⟩:=I.list j;obtain⟨u,A,B⟩:=q.get n;obtain⟨f0,f1,f2,r,f4,t⟩:=hf it (by simp);refine wpAny_pyNext_list_item st p.isList (x:=u) (by simpa using A) λh' g C=>?_;have D:Inv X pins σ H {s with heap:=h'}:=I.turned (t':=s.toks) (λb o f e=>(C.2 b f).trans e) f0 f1 r f4 t;obtain⟨o,e,c,d⟩:=id g;exact⟨u,U,Ly (s:={s with heap:=h'}) e c d (by decide) ⟨x,H,D,B,⟨U,λys F=>by rw[I.Qcb F j];exact n⟩,g,λb f=>(hf b f).1⟩⟩
 done:=by
  intro X l hw m hc i pins s σ H E I hf st hg;subst l hw m;obtain⟨xs,j,n⟩:=hg;obtain⟨its,q,p,hz⟩:=I.list j;obtain⟨f0,f1,f2,r,f4,t⟩:=hf it (by simp);have A:=q.length;exact wpAny_pyNext_list_end (I.ok.hd hc) st p.isList (by simp;omega) λh' g=>⟨U,I.turned (t':=s.toks) (λb o f e=>g b o f e) f0 f1 r f4 t⟩
 self:=λ_ _ _ _ _ st h=>wpAny_pyIter_listiter st h
def Mb{P:Program}{w:World}{K:Frag}{m:Expr}(it:qc)(lo:Int)(n:Nat):Rv P w K m (Itr lo n) [it] it (λi h=>IsRangeIter h it (lo+(i:Nat)*1) ((n:Int)-(i:Nat)) 1) where
 mem:=by simp
 obj:=λi h st b a=>by
  have e:b=it:=by simpa using a
  subst e;exact⟨_,st,λv z=>by
   have c:Data.fields _=Data.cell v:=z;cases c⟩
 keep:=λi h h' st k=>k it (by simp) _ st
 item:=by
  intro X d hw f hc i pins s σ H E I hf st hg;subst d hw f;obtain⟨f0,f1,f2,g,f4,j⟩:=hf it (by simp);have W:=Walks.range (prog:=X.prog) (w:=X.w) (I.ok.hd hc) it lo 1 n;refine W.item i s _ _ hg st λv h' l p c q=>?_;obtain⟨t,rfl⟩:=p;have r:Inv X pins σ H {s with heap:=h',toks:=l}:=I.turned (λb o a e=>q b o (by simpa using a) e) f0 f1 g f4 j;refine⟨_,U,Ly (s:={s with heap:=h',toks:=l}) (n:="range_iterator") c rfl rfl (by decide) ⟨.int (lo+i),H,r,⟨t,?_⟩,⟨U,U⟩,c,λb a=>(hf b a).1⟩⟩;rw[Int.mul_one]
 done:=by
  intro X d hw f hc i pins s σ H E I hf st hg;subst d hw f;obtain⟨f0,f1,f2,g,f4,j⟩:=hf it (by simp);exact wpAny_pyNext_range_end (I.ok.hd hc) st (by have:n<=i:=hg;omega) λh' c=>⟨U,I.turned (t':=s.toks) (λb o a e=>c b o a e) f0 f1 g f4 j⟩
 self:=λ_ _ _ _ _ st h=>wpAny_pyIter_rangeiter st h
section
variable {X:Cx}{tg:Expr}
inductive Oz(K:Frag)(R:(It->Hp->Prop))(x:V)(H1:Hp):Prop
 |mk:∀a,x=.ref a->(∃xs,zN K H1 a xs)->R (Itl K a) H1->Oz K R x H1
def hV(K:Frag)(a:TE):TI:=λσ H R=>a σ H λx H1=>Oz K R x H1
def Yv{l:Expr}{d:TE}(f:PE X l d):PI X tg l (hV X.K d):=by
 intro pins s σ H R I h;refine jE (f pins s σ H _ I h) λv s1 ⟨x,H1,c,g,i⟩=>?_;obtain⟨a,e,⟨xs,j⟩,q⟩:=i;subst e;cases g;obtain⟨its,m,p,hz⟩:=c.list j;refine wpAny_pyIter_list p.isList ?_;refine⟨s1.heap.objs.size,[s1.heap.objs.size],_,_,H1,U,c.kept (t':=s1.toks) λb o e=>qw _ e,O2 a _,⟨_,qL _ rfl,U,U⟩,λb k=>?_,q⟩;have e:b=s1.heap.objs.size:=by simpa using k
 subst e;exact c.Qbu (qD _) (c.hok.fresh (qD _))
def R9{pins:qa (qc×Obj)}{σ:St}{H:Hp}{s:Shared}{R:It->Hp->Prop}{E:qf}{lo a:Int}{t u v:Tok}{c:Nat}(I:Inv X pins σ H s)(f : -(2^62)<=lo)(g:lo<2^62)(h : -(2^62)<=a)(i:a<2^62)
 (q:R (Itr lo (a-lo).toNat) H):wpAny (model X.prog X.w) X.A (pyIter (.ref s.heap.objs.size)) (PIE X pins σ tg R) E {s with heap:=s.heap.push {cls:=.type "range",data:=.fields #[.int lo t,.int a u,.int 1 v]},toks:=c}:=by
 refine wpAny_pyIter_range (IsRange.new ..) (small_one f g h i) ?_;have d:Inv X pins σ H {s with heap:=s.heap.push {cls:=.type "range",data:=.fields #[.int lo t,.int a u,.int 1 v]},toks:=c}:=I.kept λb o e=>qw _ e;refine⟨(s.heap.push {cls:=.type "range",data:=.fields #[.int lo t,.int a u,.int 1 v]}).objs.size,[(s.heap.push {cls:=.type "range",data:=.fields #[.int lo t,.int a u,.int 1 v]}).objs.size],_,_,H,U,
  d.kept (t':=c) λb o e=>qw _ e,Mb _ lo (a-lo).toNat,?_,λb j=>?_,q⟩
 .have k:lo+((0:Nat):Int)*1=lo:=by simp
  have l:(((a-lo).toNat:Nat):Int)-((0:Nat):Int)=Builtin.Range.rangeSize lo a 1:=by rw[rangeSize_one];split<;>omega
  show IsRangeIter _ _ (lo+((0:Nat):Int)*1) ((((a-lo).toNat:Nat):Int)-((0:Nat):Int)) 1;rw[k,l];exact qL _ rfl
 .have e:b=(s.heap.push {cls:=.type "range",data:=.fields #[.int lo t,.int a u,.int 1 v]}).objs.size:=by simpa using j
  subst e;exact d.Qbu (qD _) (d.hok.fresh (qD _))
inductive Oy(R:(It->Hp->Prop))(vs:qa V)(H1:Hp):Prop
 |mk:∀j:Int,vs=[.int j]->-(2^62)<=j->j<2^62->R (Itr 0 j.toNat) H1->Oy R vs H1
def hU(a:TA):TI:=λσ H R=>a σ H λvs H1=>Oy R vs H1
def AM{a:Expr}{c:TA}{p pos:Pos}(hg:Gl X "range")(hm:X.mg "range"=none)(d:PA X [a] c)(f:starEach [a] X.env=[(false,eval a X.env)]:=by rfl):PI X tg (.Call (.Name "range" p) [a] [] pos) (hU c):=by
 intro pins s σ H R I h;refine Call_ (Hj I hg hm boot_range (PyProof.Rows.callWith_type1 (jE (d pos pins s σ H _ I h) λus s1 ⟨vs,H1,g,i,b⟩=>?_) f rfl));obtain⟨j,e,b,k,q⟩:=b;subst e
 cases i with
 |cons r l=>
  cases l;obtain⟨t,rfl⟩:=r;exact call_range_1 (R9 g (by omega) (by omega) b k (by simpa using q))
inductive Cm(g:TG)(tb:TS)(D:V2)(σ:St)(J:It)(H1:Hp):Prop
 |mk:∀W:Nat->Nat->St->Hp->Prop,(∃m,W 0 m σ H1)->(∀i m σ H,W i m σ H->(J.stop i H/\D.nx σ H)\/(J.go i H/\∃N:St->Hp->Prop,(∀σ' H',N σ' H'->∃m',m'<m/\W (i+1) m' σ' H')/\∀x H',J.yld i H x H'->g x σ H' λσ2 H2=>tb {D with nx:=N,ct:=N,bk:=D.nx} σ2 H2))->Cm g tb D σ J H1
def tFor(a:TI)(g:TG)(b:TS):TS:=λD σ H=>a σ H λJ H1=>Cm g b D σ J H1
def AK(a:qa qc)(h:Heap):qa (qc×Obj):=a.filterMap λb=>(h.get? b).map λo=>(b,o)
def XC{a:qa qc}{h:Heap}{b:qc}{o:Obj}(c:b∈a)(e:h.get? b=some o):(b,o)∈AK a h:=Qbg.mpr ⟨b,c,by rw[e];rfl⟩
def Px{a:qa qc}{h:Heap}{p:qc×Obj}(c:p∈AK a h):p.1∈a/\h.get? p.1=some p.2:=by
 obtain⟨b,d,e⟩:=Qbg.mp c
 cases q:h.get? b with
 |none=>rw[q] at e;cases e
 |some o=>
  rw[q] at e;have f:(b,o)=p:=qN e;subst f;exact⟨d,q⟩
def Inv.pinned{pins:qa (qc×Obj)}{σ:St}{H:Hp}{s:Shared}{a:qa qc}(I:Inv X pins σ H s)(hf:∀b∈a,L6 X pins H b)(g:∀b∈a,∃o,s.heap.get? b=some o/\∀v,o.data≠.cell v):Inv X (pins++AK a s.heap) σ H s:=
 I.Qa7 λp h=>(qt.mp h).elim (λz=>I.pin p (qx _ z)) λz=>by
  obtain⟨c,e⟩:=Px z;obtain⟨f0,f1,f2,_⟩:=hf p.1 c;obtain⟨o,f,d⟩:=g p.1 c;rw[e] at f;cases f;exact⟨e,f0,f1,f2,d⟩
def Inv.md{pins pl:qa (qc×Obj)}{σ:St}{H:Hp}{s:Shared}(I:Inv X (pins++pl) σ H s):Inv X pins σ H s:=I.Qa7 λp a=>I.pin p (qx _ (qC _ a))
def YW{iter:Expr}{body:qa Stmt}{Q:TI}{g:TG}{R:TS}{pos:Pos}(y:PassesOwn (model X.prog X.w) X.A X.env X.xe)(hc:X.calm=true)(hi:PI X tg iter Q)(hg:PG X tg g)(c:PSs X body R)
 (hs:∀x,foldedSetIterable iter X.env x=pure x:=by intro _;rfl):PS X (.For tg iter body [] pos) (tFor Q g R):=by
 intro pins s σ H D I h;refine wpAny_For (jE (hi pins s σ H _ I h) λv s1 h1=>jE h1 λitv s2 h2=>?_) hs;obtain⟨it,z,S,J,H2,e,I2,T,F,f2,W,⟨m0,w0⟩,turn⟩:=h2;subst e;have j:∀{H':Hp},(∀b∈z,H' b=none)->∀b∈z,L6 X pins H' b:=λhn b c=>⟨hn b c,(f2 b c).2⟩;refine codeAny_forLoop_any (λn s'=>∃i k H',Inv X pins k H' s'/\S i s'.heap/\(∀b∈z,H' b=none)/\W i n k H') ?_ m0 ⟨0,σ,H2,I2,F,λb c=>(f2 b c).1,w0⟩;rintro n s3 ⟨i,l,E,Y,A,B,w3⟩;rcases turn i n l E w3 with⟨stop,qn⟩|⟨go,N,hN,step⟩
 .refine vj y (jE (T.done X rfl rfl rfl hc i pins s3 l E X.xe Y (j B) A stop) λr s4 ⟨K,a⟩=>?_);subst K;exact Qa0 ⟨l,E,a,qn⟩
 .refine vj y (jE (T.item X rfl rfl rfl hc i pins s3 l E X.xe Y (j B) A go) λr s4 ⟨u,K,h4⟩=>?_);subst K;refine vj y (jE h4 λ_ s5 ⟨x,Z,I5,r5,y5,w,L⟩=>?_);have M:=I5.pinned (j L) (T.obj _ _ w);refine vj y (jE (hg _ s5 l Z x u _ M r5 (step x Z y5)) λ_ s6 ⟨O,H6,I6,q6⟩=>?_);refine vj y (jE (c _ s6 O H6 _ I6 q6) λf P t=>?_);have again:∀{a:St}{p:Hp},Inv X (pins++AK z s5.heap) a p P->N a p->∃m,m<n/\∃i k H',Inv X pins k H' P/\S i P.heap/\(∀b∈z,H' b=none)/\W i m k H':=λ{a p} q C=>by
   obtain⟨m',hm,w7⟩:=hN a p C;refine⟨m',hm,i+1,a,p,q.md,T.keep _ _ _ w λb c o e=>(q.pin (b,o) (qx _ (qx _ (XC c e)))).1,λb c=>?_,w7⟩;obtain⟨o,e,d⟩:=T.obj _ _ w b c;exact(q.pin (b,o) (qx _ (qx _ (XC c e)))).2.1
  cases f with
  |next=>obtain⟨a,p,q,C⟩:=t;exact again q C
  |cont=>obtain⟨a,p,q,C⟩:=t;exact again q C
  |brk=>obtain⟨a,p,q,t⟩:=t;exact⟨a,p,q.md,t⟩
  |ret v=>obtain⟨x7,a,p,q,r7,t⟩:=t;exact⟨x7,a,p,q.md,r7,t⟩
end
def YB{K:Frag}{a:qc}{xs:qa V}{g:TG}{c:TS}{D:V2}{σ:St}{H:Hp}(Pv:Nat->St->Hp->Prop)(h0:Pv 0 σ H)(d:∀i σ H,i<=xs.length->Pv i σ H->zN K H a xs)
 (f:∀i x σ H,xs[i]?=some x->Pv i σ H->g x σ H λb h=>c {D with nx:=Pv (i+1),ct:=Pv (i+1),bk:=D.nx} b h) (hd:∀σ H,Pv xs.length σ H->D.nx σ H) :
 Cm g c D σ (Itl K a) H:=by
 refine⟨λi m σ H=>m=xs.length-i/\i<=xs.length/\Pv i σ H,⟨xs.length,by simp,za _,h0⟩,?_⟩;rintro i m σ H ⟨rfl,h,p⟩;have q:=d i σ H h p;by_cases b:i<xs.length
 .refine .inr ⟨⟨xs,xs[i],q,by simp[b]⟩,Pv (i+1),λj H' k=>⟨xs.length-(i+1),by omega,U,b,k⟩,λx H' y=>?_⟩;obtain⟨e,y⟩:=y;subst e;exact f i x σ _ (y xs q) p
 .have e:i=xs.length:=by omega
  subst e;exact .inl ⟨⟨xs,q,qD _⟩,hd σ H p⟩
def E3{lo:Int}{n:Nat}{g:TG}{b:TS}{D:V2}{σ:St}{H:Hp}(Pv:Nat->St->Hp->Prop)(h0:Pv 0 σ H)
 (c:∀i σ H,i<n->Pv i σ H->g (.int (lo+i)) σ H λa d=>b {D with nx:=Pv (i+1),ct:=Pv (i+1),bk:=D.nx} a d) (hd:∀σ H,Pv n σ H->D.nx σ H) :
 Cm g b D σ (Itr lo n) H:=by
 refine⟨λi m σ H=>m=n-i/\i<=n/\Pv i σ H,⟨n,by simp,za _,h0⟩,?_⟩;rintro i m σ H ⟨rfl,h,p⟩;by_cases a:i<n
 .refine .inr ⟨a,Pv (i+1),λd H' f=>⟨n-(i+1),by omega,U,a,f⟩,λx H' y=>?_⟩;obtain⟨e,y⟩:=y;subst e y;exact c i σ _ a p
 .have e:i=n:=by omega
  subst e;exact .inl ⟨qD _,hd σ H p⟩
abbrev R2:=V->V->Hp->VK->Prop
def uz(X:Cx)(f:qd->qd->Sem qd)(r:R2):Prop:=
 ∀(pins:qa (qc×Obj))(s:Shared)(σ:St)(H:Hp)(x y:V)(v u:qd)(Q:VK),Inv X pins σ H s->QN x v->QN y u->r x y H Q ->
  wpAny (model X.prog X.w) X.A (f v u) (EP X pins σ Q) X.xe s
def UnR(X:Cx)(f:qd->Sem qd)(r:V->Hp->VK->Prop):Prop:=
 ∀(pins:qa (qc×Obj))(s:Shared)(σ:St)(H:Hp)(x:V)(v:qd)(Q:VK),Inv X pins σ H s->QN x v->r x H Q ->
  wpAny (model X.prog X.w) X.A (f v) (EP X pins σ Q) X.xe s
def VY(X:Cx)(f:qd)(r:qa V->Hp->VK->Prop):Prop:=
 ∀(pins:qa (qc×Obj))(s:Shared)(σ:St)(H:Hp)(xs:qa V)(us:qg)(Q:VK),Inv X pins σ H s->QK xs us->r xs H Q ->
  wpAny (model X.prog X.w) X.A (call f us) (EP X pins σ Q) X.xe s
def TruR(X:Cx)(r:V->Hp->(Bool->Hp->Prop)->Prop):Prop:=
 ∀(pins:qa (qc×Obj))(s:Shared)(σ:St)(H:Hp)(x:V)(v:qd)(Q:Bool->Hp->Prop),Inv X pins σ H s->QN x v->r x H Q ->
  wpAny (model X.prog X.w) X.A (truthy v) (TP X pins σ Q) X.xe s
def tOp(r:R2)(a b:TE):TE:=λσ H Q=>a σ H λx H1=>b σ H1 λy c=>r x y c Q
def tUn(r:V->Hp->VK->Prop)(a:TE):TE:=λσ H Q=>a σ H λx H1=>r x H1 Q
inductive g8(C:Int->Int->Prop)(g:Int->Int->V)(x:V)(y:V)(H:Hp)(Q:VK):Prop
 |mk:∀i j,x=.int i->y=.int j->C i j->Q (g i j) H->g8 C g x y H Q
def rI(C:Int->Int->Prop)(g:Int->Int->V):R2:=λx y H Q=>g8 C g x y H Q
inductive cP(g:Int->Int->V)(x:V)(y:V)(H:Hp)(Q:VK):Prop
 |mk:∀i j,x=.int i->y=.int j->Q (g i j) H->cP g x y H Q
def rI0(g:Int->Int->V):R2:=λx y H Q=>cP g x y H Q
inductive gZ(g:Int->V)(x:V)(H:Hp)(Q:VK):Prop
 |mk:∀i,x=.int i->Q (g i) H->gZ g x H Q
def rU(g:Int->V):V->Hp->VK->Prop:=λx H Q=>gZ g x H Q
section
variable {X:Cx}{a b c:Expr}{ta tb tc:TE}{pos:Pos}
def gb(g:PE X a ta)(i:PE X b tb){pins:qa (qc×Obj)}{s:Shared}{σ:St}{H:Hp}{R:V->V->Hp->Prop}(I:Inv X pins σ H s)
 (h:ta σ H λx H1=>tb σ H1 λy c=>R x y c) {Q:qf} {f:qd->qd->Sem qd}
 (hf:∀v u s2 x y c,Inv X pins σ c s2->QN x v->QN y u->R x y c->wpAny (model X.prog X.w) X.A (f v u) Q X.xe s2) :
 wpAny (model X.prog X.w) X.A (eval a X.env) (λv d=>wpAny (model X.prog X.w) X.A (eval b X.env) (λu e=>wpAny (model X.prog X.w) X.A (f v u) Q X.xe e) X.xe d) X.xe s:=by
 refine jE (g pins s σ H _ I h) λv s1 ⟨x,H1,d,e,j⟩=>?_;refine jE (i pins s1 σ H1 _ d j) λu s2 ⟨y,c,k,l,m⟩=>?_;exact hf v u s2 x y c k e l m
def QT{op:Operator}{r:R2}(c:uz X (binaryOp op) r)(d:PE X a ta)(e:PE X b tb):PE X (.BinOp a op b pos) (tOp r ta tb):=by
 intro pins s σ H Q I h;exact wpAny_BinOp (gb d e I h λv u s2 x y f g i j q=>c pins s2 σ f x y v u Q g i j q)
def Sy{op:UnaryOp}{r:V->Hp->VK->Prop}(b:UnR X (unaryOp op) r)(c:PE X a ta):PE X (.UnaryOp op a pos) (tUn r ta):=by
 intro pins s σ H Q I h;exact UnaryOp_ (jE (c pins s σ H _ I h) λv s1 ⟨x,H1,d,e,f⟩=>b pins s1 σ H1 x v Q d e f)
def opI{f:qd->qd->Sem qd}{C:Int->Int->Prop}{g:Int->Int->Int}
 (rule:∀(i j:Int)(t u:Tok)(s:Shared)(Q:qf)(E:qf),C i j->Q (.int (g i j) s.toks) {s with toks:=s.toks+1}->wpAny (model X.prog X.w) X.A (f (.int i t) (.int j u)) Q E s) :
 uz X f (rI C λi j=>.int (g i j)):=by
 intro pins s σ H x y v u Q I a b h;obtain⟨i,j,rfl,rfl,hc,q⟩:=h;obtain⟨t,rfl⟩:=a;obtain⟨t',rfl⟩:=b;exact rule i j t t' s _ _ hc ⟨.int (g i j),H,I.tok _,⟨_,U⟩,q⟩
def hA{f:qd->qd->Sem qd}{g:Int->Int->Int}
 (rule:∀(i j:Int)(t u:Tok)(s:Shared)(Q:qf)(E:qf),Q (.int (g i j) s.toks) {s with toks:=s.toks+1}->wpAny (model X.prog X.w) X.A (f (.int i t) (.int j u)) Q E s) :
 uz X f (rI0 λi j=>.int (g i j)):=by
 intro pins s σ H x y v u Q I a b h;obtain⟨i,j,rfl,rfl,q⟩:=h;obtain⟨t,rfl⟩:=a;obtain⟨t',rfl⟩:=b;exact rule i j t t' s _ _ ⟨.int (g i j),H,I.tok _,⟨_,U⟩,q⟩
def fq{f:qd->qd->Sem qd}{g:Int->Int->Bool}
 (rule:∀(i j:Int)(t u:Tok)(s:Shared)(Q:qf)(E:qf),Q (.bool (g i j)) s->wpAny (model X.prog X.w) X.A (f (.int i t) (.int j u)) Q E s) :
 uz X f (rI0 λi j=>.bl (g i j)):=by
 intro pins s σ H x y v u Q I a b h;obtain⟨i,j,rfl,rfl,q⟩:=h;obtain⟨t,rfl⟩:=a;obtain⟨t',rfl⟩:=b;exact rule i j t t' s _ _ ⟨.bl (g i j),H,I,U,q⟩
def CDiv(i j:Int):Prop:=0<j/\j<1073741824
def gr(i j:Int):Prop:=(-(2^64)<i/\i<2^64)\/(-(2^64)<j/\j<2^64)
def gr.ok{i j:Int}(h:gr i j):IntMulOk i j:=by
 rcases h with⟨a,b⟩|⟨a,b⟩
 .exact .of_left (intBits_le_64 a b)
 .exact .of_right (intBits_le_64 a b)
def Uk:uz X (binaryOp .Add) (rI0 λi j=>.int (i+j)):=hA λ_ _ _ _ _ _ _ q=>add_int q
def fb:uz X (binaryOp .Sub) (rI0 λi j=>.int (i-j)):=hA λ_ _ _ _ _ _ _ q=>sub_int q
def SI:uz X (binaryOp .Mult) (rI gr λi j=>.int (i*j)):=opI λ_ _ _ _ _ _ _ hc q=>mul_int q hc.ok
def bC:uz X (binaryOp .FloorDiv) (rI CDiv λi j=>.int (i / j)):=opI λi j _ _ _ _ _ hc q=>by
 have a:(0:Int)<j:=hc.1;have b:j<1073741824:=hc.2;exact floordiv_int (by omega) (by rw[Int.fdiv_eq_ediv_of_nonneg i (by omega)];exact q) (.inl (PyProof.noPylong_small (by omega)))
def YG:uz X (binaryOp .Mod) (rI (λ_ j=>0<j) λi j=>.int (i%j)):=opI λi j _ _ _ _ _ hc q=>by
 have a:(0:Int)<j:=hc;exact mod_int' (by omega) (by rw[Int.fmod_eq_emod_of_nonneg i (by omega)];exact q)
def unI{f:qd->Sem qd}{g:Int->Int}
 (rule:∀(i:Int)(t:Tok)(s:Shared)(Q:qf)(E:qf),Q (.int (g i) s.toks) {s with toks:=s.toks+1}->wpAny (model X.prog X.w) X.A (f (.int i t)) Q E s) :
 UnR X f (rU λi=>.int (g i)):=by
 intro pins s σ H x v Q I a h;obtain⟨i,rfl,q⟩:=h;obtain⟨t,rfl⟩:=a;exact rule i t s _ _ ⟨.int (g i),H,I.tok _,⟨_,U⟩,q⟩
def Ma:UnR X (unaryOp .USub) (rU λi=>.int (-i)):=unI λ_ _ _ _ _ q=>neg_int q
end
def gX:V->V->Bool
 |.non,.non=>true|.non,.int _=>true|.int _,.non=>true|.non,.bl _=>true|.bl _,.non=>true|.non,.str _=>true|.str _,.non=>true
 |.int _,.int _=>true|.bl _,.bl _=>true|.str _,.str _=>true|.byt _,.byt _=>true
 |.int _,.str _=>true|.str _,.int _=>true|.bl _,.str _=>true|.str _,.bl _=>true
 |_,_=>false
def rEq:R2:=λx y H Q=>gX x y=true/\Q (.bl (decide (x=y))) H
def rNe:R2:=λx y H Q=>gX x y=true/\Q (.bl (!decide (x=y))) H
def OK{i j:Int}:decide (V.int i=V.int j)=(i==j):=by
 rw[v5];simp
def ar{i j:Bool}:decide (V.bl i=V.bl j)=(i==j):=by
 rw[v5];simp
def Hq{i j:qb}:decide (V.str i=V.str j)=(i==j):=by
 rw[v5];simp
def OM{i j:Array UInt8}:decide (V.byt i=V.byt j)=(i.toList==j.toList):=by
 rw[v5];cases i;cases j;simp
section
variable {X:Cx}{a b c:Expr}{ta tb tc:TE}{pos:Pos}
def Q6{pins:qa (qc×Obj)}{σ:St}{H:Hp}{s:Shared}{Q:VK}{k a:Bool}(I:Inv X pins σ H s)(q:Q (.bl k) H)(e:k=a):EP X pins σ Q (.bool a) s:=by
 subst e;exact⟨.bl k,H,I,U,q⟩
def Ue:uz X (compareOp .Eq) rEq:=by
 intro pins s σ H x y v u Q I c a h;obtain⟨b,q⟩:=h
 cases x with
 |non=>
  cases c
  cases y with
  |non=>cases a;exact PySem.EqNone.eq_none_none (Q6 I q (by simp))
  |bl j=>cases a;exact PySem.EqNone.eq_none_bool (Q6 I q (by simp))
  |int j=>obtain⟨t',rfl⟩:=a;exact PySem.EqNone.eq_none_int (Q6 I q (by simp))
  |str j=>obtain⟨t',rfl⟩:=a;exact PySem.EqNone.eq_none_str (Q6 I q (by simp))
  |_=>exact absurd (show false=true from b) qI
 |bl i=>
  cases c
  cases y with
  |non=>cases a;exact PySem.EqNone.eq_bool_none (Q6 I q (by simp))
  |bl j=>cases a;exact eq_bool (Q6 I q ar)
  |str j=>obtain⟨t',rfl⟩:=a;exact PySem.EqMixed.eq_bool_str (Q6 I q (by simp))
  |_=>exact absurd (show false=true from b) qI
 |int i=>
  obtain⟨t,rfl⟩:=c
  cases y with
  |non=>cases a;exact PySem.EqNone.eq_int_none (Q6 I q (by simp))
  |int j=>obtain⟨t',rfl⟩:=a;exact eq_int (Q6 I q OK)
  |str j=>obtain⟨t',rfl⟩:=a;exact PySem.EqMixed.eq_int_str (Q6 I q (by simp))
  |_=>exact absurd (show false=true from b) qI
 |str i=>
  obtain⟨t,rfl⟩:=c
  cases y with
  |non=>cases a;exact PySem.EqNone.eq_str_none (Q6 I q (by simp))
  |bl j=>cases a;exact PySem.EqMixed.eq_str_bool (Q6 I q (by simp))
  |int j=>obtain⟨t',rfl⟩:=a;exact PySem.EqMixed.eq_str_int (Q6 I q (by simp))
  |str j=>obtain⟨t',rfl⟩:=a;exact eq_str (Q6 I q Hq)
  |_=>exact absurd (show false=true from b) qI
 |byt i=>
  obtain⟨t,rfl⟩:=c
  cases y with
  |byt j=>obtain⟨t',rfl⟩:=a;exact PySem.W.eq_bytes (Q6 I q OM)
  |_=>exact absurd (show false=true from b) qI
 |_=>cases y<;>exact absurd (show false=true from b) qI
def Bp:uz X (compareOp .NotEq) rNe:=by
 intro pins s σ H x y v u Q I c a h;obtain⟨b,q⟩:=h
 cases x with
 |non=>
  cases c
  cases y with
  |non=>cases a;exact PySem.EqNone.ne_none_none (Q6 I q (by simp))
  |bl j=>cases a;exact PySem.EqNone.ne_none_bool (Q6 I q (by simp))
  |int j=>obtain⟨t',rfl⟩:=a;exact PySem.EqNone.ne_none_int (Q6 I q (by simp))
  |str j=>obtain⟨t',rfl⟩:=a;exact PySem.EqNone.ne_none_str (Q6 I q (by simp))
  |_=>exact absurd (show false=true from b) qI
 |bl i=>
  cases c
  cases y with
  |non=>cases a;exact PySem.EqNone.ne_bool_none (Q6 I q (by simp))
  |bl j=>cases a;exact ne_bool (Q6 I q (zQ not ar))
  |str j=>obtain⟨t',rfl⟩:=a;exact PySem.EqMixed.ne_bool_str (Q6 I q (by simp))
  |_=>exact absurd (show false=true from b) qI
 |int i=>
  obtain⟨t,rfl⟩:=c
  cases y with
  |non=>cases a;exact PySem.EqNone.ne_int_none (Q6 I q (by simp))
  |int j=>obtain⟨t',rfl⟩:=a;exact ne_int (Q6 I q (zQ not OK))
  |str j=>obtain⟨t',rfl⟩:=a;exact PySem.EqMixed.ne_int_str (Q6 I q (by simp))
  |_=>exact absurd (show false=true from b) qI
 |str i=>
  obtain⟨t,rfl⟩:=c
  cases y with
  |non=>cases a;exact PySem.EqNone.ne_str_none (Q6 I q (by simp))
  |bl j=>cases a;exact PySem.EqMixed.ne_str_bool (Q6 I q (by simp))
  |int j=>obtain⟨t',rfl⟩:=a;exact PySem.EqMixed.ne_str_int (Q6 I q (by simp))
  |str j=>obtain⟨t',rfl⟩:=a;exact ne_str (Q6 I q (zQ not Hq))
  |_=>exact absurd (show false=true from b) qI
 |byt i=>
  obtain⟨t,rfl⟩:=c
  cases y with
  |byt j=>obtain⟨t',rfl⟩:=a;exact PySem.W.ne_bytes (Q6 I q (zQ not OM))
  |_=>exact absurd (show false=true from b) qI
 |_=>cases y<;>exact absurd (show false=true from b) qI
def IG:uz X (compareOp .Lt) (rI0 λi j=>.bl (decide (i<j))):=fq λ_ _ _ _ _ _ _ q=>lt_int q
def IH:uz X (compareOp .LtE) (rI0 λi j=>.bl (decide (i<=j))):=fq λ_ _ _ _ _ _ _ q=>le_int q
def SK:uz X (compareOp .Gt) (rI0 λi j=>.bl (decide (j<i))):=fq λ_ _ _ _ _ _ _ q=>gt_int q
def KH:uz X (compareOp .In) (λx y H Q=>∃i j,x=.str i/\y=.str j/\Q (.bl (!(Builtin.Str.occurrences j i 0 j.length 1).isEmpty)) H):=by
 intro pins s σ H x y v u Q I a b h;obtain⟨i,j,rfl,rfl,q⟩:=h;obtain⟨t,rfl⟩:=a;obtain⟨t',rfl⟩:=b;exact in_str (Q6 I q rfl)
def SJ:uz X (compareOp .Is) (λx y H Q=>y=.non/\Q (.bl (decide (x=.non))) H):=by
 intro pins s σ H x y v u Q I a b h;obtain⟨rfl,q⟩:=h;cases b;refine is_none_gen (Q6 I q ?_);cases x<;>first
  |(cases a;rfl)
  |(obtain⟨t,rfl⟩:=a;rfl)
def Od:uz X (compareOp .IsNot) (λx y H Q=>y=.non/\Q (.bl (!decide (x=.non))) H):=by
 intro pins s σ H x y v u Q I a b h;obtain⟨rfl,q⟩:=h;cases b;refine isnot_none_gen (Q6 I q ?_);cases x<;>first
  |(cases a;rfl)
  |(obtain⟨t,rfl⟩:=a;rfl)
def Tf(b:Expr){op:CmpOp}(h:op≠.In:=by decide)(a:op≠.NotIn:=by decide):behindInMarks op b=false:=by
 have c:(op==CmpOp.In)=false:=by cases op<;>first|rfl|exact absurd rfl h
 have d:(op==CmpOp.NotIn)=false:=by cases op<;>first|rfl|exact absurd rfl a
 cases b<;>simp[behindInMarks,c,d]
def UI{op:CmpOp}{r:R2}(c:uz X (compareOp op) r)(d:PE X a ta)(e:PE X b tb)(hm:behindInMarks op b=false:=by exact Tf _):PE X (.Compare a [op] [b] pos) (tOp r ta tb):=by
 intro pins s σ H Q I h;exact wpAny_Compare1 (gb d e I h λv u s2 x y f g i j q=>c pins s2 σ f x y v u Q g i j q) hm
inductive Fj(Q:(Bool->Hp->Prop))(x:V)(H':Hp):Prop
 |mk:∀k,x=.bl k->Q k H'->Fj Q x H'
def cE(t:TE):TT:=λσ H Q=>t σ H λx H'=>Fj Q x H'
def Qt{op:CmpOp}{r:R2}(d:uz X (compareOp op) r)(f:PE X a ta)(g:PE X b tb)(hm:behindInMarks op b=false:=by exact Tf _):PT X (.Compare a [op] [b] pos) (cE (tOp r ta tb)):=by
 intro pins s σ H Q I h;refine wpAny_isTrue_Compare1 (jE (f pins s σ H _ I h) λv s1 ⟨x,H1,i,j,l⟩=>jE (g pins s1 σ H1 _ i l) λu s2 ⟨y,m,n,o,p⟩=>
  jE (d pins s2 σ m x y v u _ n j o p) λc s3 ⟨z,q,t,w,k,e,A⟩=>?_) hm
 subst e;cases w;exact jq ⟨q,t,A⟩
def RP(r b:R2)(ta tb tc:TE):TE:=λσ H Q=>ta σ H λx H1=>tb σ H1 λy c=>r x y c λz a=>∃k,z=.bl k /\
 (if k=true then tc σ a λd e=>b y d e Q else Q (.bl false) a)
def SE{op f:CmpOp}{r i:R2}(o:uz X (compareOp op) r)(g:uz X (compareOp f) i)(p:PE X a ta)(q:PE X b tb)(hc:PE X c tc)
 (hm:lastMarks [op,f] [b,c]=false:=by with_unfolding_all rfl):PE X (.Compare a [op,f] [b,c] pos) (RP r i ta tb tc):=by
 intro pins s σ H Q I h;refine Compare_chain (jE (p pins s σ H _ I h) λv s1 ⟨x,H1,t,w,A⟩=>chain_link (jE (q pins s1 σ H1 _ t A) λu s2 ⟨y,B,C,j,D⟩=>
  jE (o pins s2 σ B x y v u _ C w j D) λd s3 ⟨z,l,m,E,k,e,n⟩=>?_)) hm
 subst e;cases E;refine jq ?_
 cases k with
 |false=>exact ite_ff ⟨.bl false,l,m,U,n⟩
 |true=>exact ite_tt (chain_last (jE (hc pins s3 σ l _ m n) λF s4 ⟨G,J,K,L,M⟩=>g pins s4 σ J y G u F Q K j L M))
def Sq{op f:CmpOp}{r i:R2}(o:uz X (compareOp op) r)(g:uz X (compareOp f) i)(p:PE X a ta)(q:PE X b tb)(hc:PE X c tc)
 (hm:lastMarks [op,f] [b,c]=false:=by with_unfolding_all rfl):PT X (.Compare a [op,f] [b,c] pos) (cE (RP r i ta tb tc)):=by
 intro pins s σ H Q I h;refine isTrue_chain (jE (p pins s σ H _ I h) λv s1 ⟨x,H1,t,w,A⟩=>test_link (jE (q pins s1 σ H1 _ t A) λu s2 ⟨y,B,C,j,D⟩=>
  jE (o pins s2 σ B x y v u _ C w j D) λd s3 ⟨z,l,m,E,k,e,n⟩=>?_)) hm
 subst e;cases E;refine jq ?_
 cases k with
 |false=>
  obtain⟨J,F,G⟩:=n;cases F;exact ite_ff ⟨l,m,G⟩
 |true=>
  refine ite_tt (test_last (jE (hc pins s3 σ l _ m n) λF s4 ⟨G,J,K,L,M⟩=>jE (g pins s4 σ J y G u F _ K j L M) λd' s5 ⟨T,N,O,P,k2,R,S⟩=>?_));subst R;cases P;exact jq ⟨N,O,S⟩
def iq(K:Frag)(x:V)(H:Hp)(k:Bool):Prop:=
 match x with
 |.non=>k=false
 |.bl b=>k=b
 |.int i=>k=(i != 0)
 |.str y=>y.length<=sizeLine/\k=((y.length:Int) != 0)
 |.byt y=>y.size<=sizeLine/\k=((y.size:Int) != 0)
 |.ref p=>(∃xs,zN K H p xs/\k = !xs.isEmpty)\/(∃xs,jW K H p xs/\k = !xs.isEmpty)\/∃a,H p=some (.dK a)/\k = !a.isEmpty
 |_=>False
def MR{b:Type}{a:qa (b×V)}{vs:qa (b×qd)}(r:KV a vs):(!vs.isEmpty) = !a.isEmpty:=by
 cases r<;>rfl
def Dq{xs:qa V}{its:qg}(r:QK xs its):(!its.toArray.isEmpty) = !xs.isEmpty:=by
 cases r<;>simp
def Gr:(sizeLine:Nat)<2^63:=by rw[sizeLine_eq];decide
def dC:TruR X (λx H Q=>∃k,iq X.K x H k/\Q k H):=by
 intro pins s σ H x v Q I d h;obtain⟨k,e,q⟩:=h;have g:=Gr;have j:sizeLine=16777216:=sizeLine_eq
 cases x with
 |non=>
  cases d;have a:k=false:=e;subst a;exact truthy_none ⟨H,I,q⟩
 |bl b=>
  cases d;have a:k=b:=e;subst a;exact jq ⟨H,I,q⟩
 |int i=>
  obtain⟨t,rfl⟩:=d;have a:k=(i != 0):=e;subst a;exact PySem.P.truthy_int ⟨H,I,q⟩
 |str y=>
  obtain⟨t,rfl⟩:=d;obtain⟨c,a⟩:y.length<=sizeLine/\k=((y.length:Int) != 0):=e;subst a;exact PySem.P.truthy_str (by omega) ⟨H,I.tok _,q⟩
 |byt y=>
  obtain⟨t,rfl⟩:=d;obtain⟨c,a⟩:y.size<=sizeLine/\k=((y.size:Int) != 0):=e;subst a;exact PySem.W.truthy_bytes (by omega) ⟨H,I.tok _,q⟩
 |ref p=>
  cases d;have a:(∃xs,zN X.K H p xs/\k = !xs.isEmpty)\/(∃xs,jW X.K H p xs/\k = !xs.isEmpty)\/∃c,H p=some (.dK c)/\k = !c.isEmpty:=e;rcases a with⟨xs,f,a⟩|⟨xs,f,a⟩|⟨c,f,a⟩
  .subst a;obtain⟨its,r,pl,hz⟩:=I.list f;have hlen:=r.length;exact wpAny_truthy_list pl.isList (by simp only[qR];omega) ⟨H,I.tok _,by rw[Dq r];exact q⟩
  .subst a;obtain⟨its,r,pl,hz⟩:=I.tuple f;have hlen:=r.length;exact truthy_tuple pl (by simp only[qR];omega) ⟨H,I.tok _,by rw[Dq r];exact q⟩
  .subst a;obtain⟨hz,hS,vs,r,m⟩:c.length<=sizeLine/\(p==sysModules)=false/\∃vs,KV c vs/\s.heap.DictOf (Yd X.prog X.w) p vs:=I.hok p _ f;have hlen:c.length=vs.length:=Paired.length r;exact wpAny_truthy_dict hS m (by omega) ⟨H,I.tok _,by rw[MR r];exact q⟩
 |_=>exact(show False from e).elim
def CM(b:PE X a ta)(he:∀whole,isTrue a X.env whole=(do let v <-whole;standAt a.pos;holding [v] (truthy v))) :
 PT X a (λσ H Q=>ta σ H λx H'=>∃k,iq X.K x H' k/\Q k H'):=by
 intro pins s σ H Q I h;exact isTrue_plain (jE (b pins s σ H _ I h) λv s1 ⟨x,H1,c,d,e⟩=>dC pins s1 σ H1 x v Q c d e) (he _)
def Uv:uz X (binaryOp .Add) (λx y H Q=>∃i j,x=.str i/\y=.str j/\i.length+j.length<=sizeLine/\Q (.str (i++j)) H):=by
 intro pins s σ H x y v u Q I a b h;obtain⟨i,j,rfl,rfl,hz,q⟩:=h;obtain⟨t,rfl⟩:=a;obtain⟨t',rfl⟩:=b;exact add_str (λt' c=>⟨.str (i++j),H,I.tok _,⟨_,U⟩,q⟩) hz
def V3{x:V}{us:qg}(r:QK [x] us):∃u,us=[u]/\QN x u:=by
 cases r with
 |cons a b=>cases b;exact⟨_,U,a⟩
def gx{x y:V}{us:qg}(r:QK [x,y] us):∃u a,us=[u,a]/\QN x u/\QN y a:=by
 cases r with
 |cons b c=>
  cases c with
  |cons d e=>cases e;exact⟨_,_,U,b,d⟩
def KS:VY X (.type "int") (λxs H Q=>(∃i,xs=[.int i]/\Q (.int i) H)\/∃k,xs=[.bl k]/\Q (.int (if k then 1 else 0)) H):=by
 intro pins s σ H xs us Q I r h;rcases h with⟨i,rfl,q⟩|⟨k,rfl,q⟩
 .obtain⟨u,rfl,t,rfl⟩:=V3 r;exact call_int_int ⟨.int i,H,I,⟨_,U⟩,q⟩
 .obtain⟨u,rfl,a⟩:=V3 r;cases a;exact call_int_bool ⟨.int (if k then 1 else 0),H,I.tok _,⟨_,U⟩,q⟩
def Ak:VY X (.type "str") (λxs H Q=>∃i,xs=[.int i]/\i.natAbs.log2<1920/\Q (.str (toString i)) H):=by
 intro pins s σ H xs us Q I r h;obtain⟨i,rfl,hz,q⟩:=h;obtain⟨u,rfl,t,rfl⟩:=V3 r;exact PySem.P.str_of_int hz ⟨.str _,H,I.tok _,⟨_,U⟩,q⟩
end
structure M9(h:Heap)(x dx C:qc)(mA:qb->Option qd):Prop where
 obj:h.get? x=some (instObj C dx)
 ns:h.Ns1 dx mA
 ne:dx≠x
def PX{h:Heap}{c:qc}{d:qb->Option qd}(n:h.Ns1 c d):∃f,h.get? c=some f/\∀name,lookIn name f=some (d name):=by
 obtain⟨o,es,k,g,hd,i,_,hm⟩:=n;refine⟨o,g,λname=>?_⟩;have e:=hm name;unfold nsFind findBy at e;rw[<-Array.find?_toList] at e;unfold lookIn;rw[hd];dsimp only;split
 .rename_i y q
  rw[q] at e;exact zQ some e
 .rename_i q
  rw[q] at e;have a:es.toList.any (·.refKey)=false:=by
   rw[List.any_eq_false];intro y j;obtain⟨z,t,b⟩:=i y (Array.mem_toList_iff.mp j);simp[DictEntry.refKey,b]
  have b:¬es.toList.any (·.refKey)=true:=by rw[a];exact qI
  rw[qA b];exact zQ some e
def M9.look{h:Heap}{x b C:qc}{c:qb->Option qd}(I:M9 h x b C c):∃a,PySem.W.InstAt h x (instObj C b) C (some a)/\∀name,lookIn name a=some (c name):=
 let ⟨a,d,e⟩:=PX I.ns
 ⟨a,⟨I.obj,U,U,d⟩,e⟩
section
variable {prog:Program}{w:World}{A:Around}{E:qf}{s:Shared}{K:Frag}{x dx C f:qc}{mA:qb->Option qd}{name:qb}{v:qd}
def cb{expr:Bool}{Q:qf}(X:K.In s.heap)(I:M9 s.heap x dx C mA)(hg:plainGet K C name=true)(b:hasDictIn K C=true)
 (c:findIn K (.ref C) name=some none) (d:mA name=some v) (a:handedIn v=true) (h:Q v {s with toks:=s.toks+1}) :
 wpAny (model prog w) A (getAttr (.ref x) name expr) Q E s:=by
 obtain⟨f,J,e⟩:=I.look;exact PySem.W.get_value X J (plainGet_of hg).1 (PySem.W.findObj_own b c rfl (by rw[e,d])) a h
def ae{pl:Sem Bool}{Q:qd×qg->Shared->Prop}(X:K.In s.heap)(I:M9 s.heap x dx C mA)(hg:plainGet K C name=true)
 (hf:findIn K (.ref C) name=some (some (.ref f))) (a:isFn K (.ref f)=true) (b:mA name=none) (h:Q (.ref f,[.ref x]) s) :
 wpAny (model prog w) A (getMethod (.ref x) name pl) Q E s:=by
 obtain⟨c,J,d⟩:=I.look;exact PySem.W.method_fn X J (plainGet_of hg).1 (plainGet_of hg).2 hf (lX.mp a) (by show(lookIn name c).map (·.isSome)=some false;rw[d,b];rfl) h
def aY{ns:qe}{Q:Unit->Shared->Prop}(X:K.In s.heap)(I:M9 s.heap x dx C mA)
 (j:findIn K (.ref C) "__setattr__"=some (some (.builtin "object.__setattr__"))) (k:plainOver K C=true) (l:takerIn K C name=some none) (m:hasDictIn K C=true)
 (hw:PySem.Within mA ns) (hsz:ns.length<=sizeLine)
 (h:∀h',M9 h' x dx C (λy=>if y=name then some v else mA y)->Heap.SameBut dx s.heap h'->Q () {s with heap:=h',toks:=s.toks+2}) :
 wpAny (model prog w) A (setAttr (.ref x) name v) Q E s:=by
 obtain⟨q,J,t⟩:=I.look;refine PySem.W.set_plain X J j (PySem.W.osa_open (s:={s with toks:=s.toks+1}) (r:=none) X J k l λb=>?_);obtain⟨cd,hc,e⟩:=PySem.W.any_some m;have n:s.heap.get? x=some ⟨.ref C,some dx,.plain,#[]⟩:=I.obj;refine qi (qv (qi (qi (wpAny_loadPart n (qi (PySem.W.Looks.here (s:={s with toks:=s.toks+1}) (PySem.W.looks_clsIn X hc) ?_))))));rw[e];refine qv (a:=some dx) (qi (qv (qi ?_)));refine wpAny_nsSet1 (s:={s with toks:=s.toks+1}) I.ns λh' c d=>?_;obtain⟨u,o,p,f,g,i⟩:=c.count (PySem.Within.cons name v hw);refine qi (wpAny_lookBehind f (by rw[g];exact pastItsLine_dict (zu i (by rw[qX];omega))) ?_);exact qv (h _ ⟨(d.2 _ (xJ I.ne)).trans I.obj,c,I.ne⟩ d)
def Tu{R:Result->Shared->Prop}{vs:qg}{kw:qa (qb×qd)}(X:K.In s.heap)(hm:makesIn K C=true)
 (a:findIn K (.ref C) "__init__"=some (some (.ref f))) (hf:PySem.W.typeIn K (.ref f)=some (.type "function"))
 (h:codeAny (model prog w) (A.under (.builtin "type.__call__" ⟨.ref C::vs,kw⟩)) (.call (.ref f) ⟨.ref (s.heap.objs.size+1)::vs,kw⟩) (PySem.W.InitBack (s.heap.objs.size+1) R)
   {s with heap:=(s.heap.push emptyDict).push (instObj C s.heap.objs.size)}) :
 codeAny (model prog w) A (.call (.ref C) ⟨vs,kw⟩) R s:=by
 obtain⟨b,g,d,t,os⟩:=s;exact PySem.W.make_core (PySem.W.makes_of X hm) (PySem.W.looks_findIn X a) (λself=>PySem.W.bind_fn X self hf) (.inl rfl) h
end
def QJ(f:qb)(v:V):qa (qb×V)->qa (qb×V)
 |[]=>[(f,v)]
 |(g,x)::r=>if g=f then (g,v)::r else (g,x)::QJ f v r
def Bt(f g:qb)(v:V):∀fs:qa (qb×V),(QJ f v fs).lookup g=if g=f then some v else fs.lookup g
 |[]=>by
  show List.lookup g [(f,v)]=_;by_cases h:g=f
  .have a:(g==f)=true:=lX.mpr h;simp only[List.lookup,a,qG h]
  .have a:(g==f)=false:=jR.mpr h;simp only[List.lookup,a,qA h]
 |(k,x)::r=>by
  have c:=Bt f g v r;rw[show QJ f v ((k,x)::r)=(if k=f then (k,v)::r else (k,x)::QJ f v r) from rfl];by_cases b:k=f
  .rw[qG b];by_cases h:g=k
   .have a:(g==k)=true:=lX.mpr h;simp only[List.lookup,a,qG (h.trans b)]
   .have a:(g==k)=false:=jR.mpr h;simp only[List.lookup,a,qA (λe:g=f=>h (e.trans b.symm))]
  .rw[qA b];by_cases h:g=k
   .have a:(g==k)=true:=lX.mpr h;simp only[List.lookup,a,qA (λe:g=f=>b (h.symm.trans e))]
   .have a:(g==k)=false:=jR.mpr h;simp only[List.lookup,a];exact c
def A9(f:qb)(v:V):∀fs:qa (qb×V),f∈(QJ f v fs).map (·.1)/\∀g,g∈fs.map (·.1)->g∈(QJ f v fs).map (·.1)
 |[]=>⟨by simp[QJ],λg h=>by simp at h⟩
 |(k,x)::r=>by
  obtain⟨b,c⟩:=A9 f v r;rw[show QJ f v ((k,x)::r)=(if k=f then (k,v)::r else (k,x)::QJ f v r) from rfl];by_cases a:k=f
  .rw[qG a];subst a;exact⟨by simp,λg h=>by simpa using h⟩
  .rw[qA a];refine⟨?_,λg h=>?_⟩
   .rw[qU];exact qH _ b
   .rw[qU] at h⊢;rcases qK.mp h with e|e
    .exact qK.mpr (.inl e)
    .exact qH _ (c g e)
def Bu(f:qb)(v:V):∀fs:qa (qb×V),(QJ f v fs).length<=fs.length+1
 |[]=>by simp[QJ]
 |(k,x)::r=>by
  have b:=Bu f v r;rw[show QJ f v ((k,x)::r)=(if k=f then (k,v)::r else (k,x)::QJ f v r) from rfl];by_cases a:k=f
  .rw[qG a,qX,qX];omega
  .rw[qA a,qX,qX];omega
def WJ.some_of{v:V}{o:Option qd}(r:WJ (some v) o):∃u,o=some u/\QN v u:=by
 cases o with
 |none=>exact(show False from r).elim
 |some u=>exact⟨u,U,r⟩
def WJ.none_of{o:Option qd}(r:WJ none o):o=none:=by
 cases o with
 |none=>rfl
 |some u=>exact(show False from r).elim
def Rg{v:V}{u:qd}(r:QN v u):handedIn u=true:=by
 cases v with
 |non=>cases (show u=Value.none from r);rfl
 |bl b=>cases (show u=Value.bool b from r);rfl
 |int i=>obtain⟨t,e⟩:=(show ∃t,u=Value.int i t from r);cases e;rfl
 |str x=>obtain⟨t,e⟩:=(show ∃t,u=Value.str x t from r);cases e;rfl
 |byt b=>obtain⟨t,e⟩:=(show ∃t,u=Value.bytes b t from r);cases e;rfl
 |flt b=>obtain⟨t,e⟩:=(show ∃t,u=Value.float b t from r);cases e;rfl
 |ref a=>cases (show u=Value.ref a from r);rfl
 |ty n=>cases (show u=Value.type n from r);rfl
section
variable {P:Program}{w:World}{H H':Hp}{h h':Heap}{a C dx:qc}{fs fs':qa (qb×V)}
def B7(c:iW P w H h)(e:H a=some (.ins C dx fs)):∃b,M9 h a dx C b/\(∀f,WJ (fs.lookup f) (b f))/\PySem.Within b (fs.map (·.1))/\fs.length<=1000/\H dx=some (.own a):=by
 obtain⟨d,z,ne,g,b,n,r,q⟩:=(show Q2 P w H h a (.ins C dx fs) from c a _ e);exact⟨b,⟨g,n,ne⟩,r,q,z,d⟩
end
structure tJ(K:Frag)(C:qc):Prop where
 pg:plainGet K C Str.empty=true
 hd:hasDictIn K C=true
 po:plainOver K C=true
 sa:findIn K (.ref C) "__setattr__"=some (some (.builtin "object.__setattr__"))
def tJ.get{K:Frag}{C:qc}(c:tJ K C)(f:qb):plainGet K C f=true:=c.pg
def Yi(K:Frag)(C:qc)(f:qb):Prop:=findIn K (.ref C) f=some none
def Yi.taker{K:Frag}{C:qc}{f:qb}(n:Yi K C f):takerIn K C f=some none:=by
 unfold takerIn;rw[show findIn K (.ref C) f=some none from n];rfl
structure YZ(K:Frag)(C:qc)(m:qb)(f:qc):Prop where
 at_:findIn K (.ref C) m=some (some (.ref f))
 fn:isFn K (.ref f)=true
 kp:keepIn K (.ref f)=true
section
variable {X:Cx}{pins:qa (qc×Obj)}{σ:St}{H:Hp}{s:Shared}{a C dx:qc}{fs:qa (qb×V)}{f:qb}{v:V}{A:Around}{E:qf}
def MV{b:Bool}{Q:qf}(I:Inv X pins σ H s)(e:H a=some (.ins C dx fs))(c:tJ X.K C)(n:Yi X.K C f)(l:fs.lookup f=some v)
 (h:∀u s',Inv X pins σ H s'->QN v u->Q u s'):wpAny (model X.prog X.w) A (getAttr (.ref a) f b) Q E s:=by
 obtain⟨g,O,r,_,_,_⟩:=B7 I.hok e;obtain⟨u,i,d⟩:=WJ.some_of (v:=v) (o:=g f) (by rw[<-l];exact r f);exact cb I.oA O (c.get f) c.hd n i (Rg d) (h u _ (I.tok _) d)
def Dx{m:qb}{g:qc}{pl:Sem Bool}{Q:qd×qg->Shared->Prop}(I:Inv X pins σ H s)(e:H a=some (.ins C dx fs))(c:tJ X.K C)(k:YZ X.K C m g)(l:fs.lookup m=none)
 (h:Q (.ref g,[.ref a]) s):wpAny (model X.prog X.w) A (getMethod (.ref a) m pl) Q E s:=by
 obtain⟨b,O,r,_,_,_⟩:=B7 I.hok e;have d:b m=none:=WJ.none_of (by rw[<-l];exact r m);exact ae I.oA O (c.get m) k.at_ k.fn d h
def Mh{y:V}{u:qd}{Q:Unit->Shared->Prop}(I:Inv X pins σ H s)(e:H a=some (.ins C dx fs))(c:tJ X.K C)(n:Yi X.K C f)(v:fs.length<1000)(l:QN y u)
 (h:∀s',Inv X pins σ (upd H a (.ins C dx (QJ f y fs))) s'->Q () s'):wpAny (model X.prog X.w) A (setAttr (.ref a) f u) Q E s:=by
 obtain⟨i,O,r,j,_,k⟩:=B7 I.hok e;have hz:(fs.map (·.1)).length<=sizeLine:=by rw[qh,sizeLine_eq];omega
 refine aY I.oA O c.sa c.po n.taker c.hd j hz λh' d m=>h _ ?_;have hd:∃o,h'.get? dx=some o:=let ⟨o,_,_,p,_⟩:=d.ns;⟨o,p⟩;refine I.write (x:=a) (e:=dx) (by rw[e];exact True.intro) (.inr k) (λb q t z=>(m.2 b t).trans z) hd ?_;refine⟨by rw[Qa O.ne];exact k,?_,O.ne,d.obj,_,d.ns,λg=>?_,λg hg=>?_⟩
 .have:=Bu f y fs;omega
 .show WJ ((QJ f y fs).lookup g) (if g=f then some u else i g);rw[Bt];by_cases q:g=f
  .rw[qG q,qG q];exact l
  .rw[qA q,qA q];exact r g
 .by_cases q:g=f
  .rw[q];exact(A9 f y fs).1
  .refine(A9 f y fs).2 g (j g λz=>hg ?_);show(if g=f then some u else i g)=none;rw[qA q];exact z
def Inv.made(I:Inv X pins σ H s):Inv X pins σ (upd (upd H s.heap.objs.size (.own (s.heap.objs.size+1))) (s.heap.objs.size+1) (.ins C s.heap.objs.size []))
 {s with heap:=(s.heap.push emptyDict).push (instObj C s.heap.objs.size)}:=by
 have c:(s.heap.push emptyDict).get? s.heap.objs.size=some emptyDict:=qL s.heap rfl;have d:((s.heap.push emptyDict).push (instObj C s.heap.objs.size)).get? (s.heap.objs.size+1)=some (instObj C s.heap.objs.size):=by
  have:=qL (s.heap.push emptyDict) (o:=instObj C s.heap.objs.size) rfl;rwa[ye] at this
 have f:(s.heap.push emptyDict).Ns s.heap.objs.size (λ_=>none):=⟨emptyDict,#[],_,c,U,(λe he=>absurd he (by simp)),λ_=>rfl⟩;have g:=I.laid (a:=s.heap.objs.size) (o:=.own (s.heap.objs.size+1)) (h':=s.heap.push emptyDict) (t':=s.toks) (λb u q=>qw _ q) (qD _) ⟨_,c⟩;refine g.laid (a:=s.heap.objs.size+1) (o:=.ins C s.heap.objs.size []) (t':=s.toks) (λb u q=>qw _ q) (Nat.le_of_eq (ye _ _)) ?_;have ne:s.heap.objs.size≠s.heap.objs.size+1:=zc (Nat.lt_succ_self _);refine⟨by rw[Qa ne,Qc],za _,ne,d,λ_=>none,(Heap.Ns1.of_empty f).at λo q=>qw _ q,λ_=>True.intro,λy h=>absurd rfl h⟩
def cy{prog:Program}{w:World}{env:Env}{e:Expr}{f:qb}{pos:Pos}{s:Shared}{Q:qf}(b:attributeBase e f env (eval e env)=eval e env)
 (h:wpAny (model prog w) A (eval e env) (λo a=>wpAny (model prog w) A (getAttr o f true) Q E a) E s):wpAny (model prog w) A (eval (.Attribute e f pos) env) Q E s:=
 Attribute_any_ h (by rw[arm_eval_Attribute,b])
end
inductive RL(K:Frag)(f:qb)(Q:VK)(x:V)(H1:Hp):Prop
 |mk:∀a C dx fs v,x=.ref a->H1 a=some (.ins C dx fs)->tJ K C->Yi K C f->fs.lookup f=some v->Q v H1->RL K f Q x H1
def gI(K:Frag)(a:TE)(f:qb):TE:=λσ H Q=>a σ H λx H1=>RL K f Q x H1
inductive R6(K:Frag)(f:qb)(D:V2)(σ:St)(y:V)(x:V)(H2:Hp):Prop
 |mk:∀a C dx fs,x=.ref a->H2 a=some (.ins C dx fs)->tJ K C->Yi K C f->fs.length<1000->D.nx σ (upd H2 a (.ins C dx (QJ f y fs)))->R6 K f D σ y x H2
def sFld(K:Frag)(a b:TE)(f:qb):TS:=λD σ H=>b σ H λy H1=>a σ H1 λx c=>R6 K f D σ y x c
section
variable {X:Cx}{o e value:Expr}{f:qb}{pos pos' tpos:Pos}{ta tv:TE}
def Qk(he:PE X e ta)(b:attributeBase e f X.env (eval e X.env)=eval e X.env):PE X (.Attribute e f pos) (gI X.K ta f):=by
 intro pins s σ H Q I h;refine cy b (jE (he pins s σ H _ I h) λu s1 ⟨x,H1,d,g,a,C,m,fs,v,ex,i,c,n,l,q⟩=>?_);subst ex;obtain rfl:u=Value.ref a:=g;exact MV d i c n l λo s2 j k=>⟨v,H1,j,k,q⟩
def YF(b:PE X o ta)(d:PE X value tv)(e:swapsWith value (some (.Attribute o f pos')) pos.line X.env=pure false):PS X (.Assign [.Attribute o f pos'] value pos) (sFld X.K ta tv f):=by
 intro pins s σ H D I h;refine plainObj_wpAny_Assign_Attribute (jE (d pins s σ H _ I h) λu s1 ⟨y,H1,g,i,q⟩=>jE (b pins s1 σ H1 _ g q) λj s2 ⟨x,v,k,m,a,C,w,fs,ex,p,c,n,l,r⟩=>?_) e;subst ex;obtain rfl:j=Value.ref a:=m;exact Mh k p c n l i λs3 t=>⟨σ,_,t,r⟩
end
section
variable {X:Cx}{pins:qa (qc×Obj)}{σ:St}{H:Hp}{s:Shared}{A:Around}{E:qf}{Q:qf}{c:qd}{b:Bool}
inductive WG(K:Frag)(H:Hp):V->qd->Prop where
 |non:WG K H .non (.type "NoneType")
 |bl (x:Bool):WG K H (.bl x) (.type "bool")
 |int (i:Int):WG K H (.int i) (.type "int")
 |str (x:qb):WG K H (.str x) (.type "str")
 |flt (x:UInt64):WG K H (.flt x) (.type "float")
 |lst {a:qc} {xs:qa V} (e:H a=some (.lst xs)):WG K H (.ref a) (.type "list")
 |jF {a:qc} {o:Obj} {xs:qa V} (e:H a=some (.jF o (.lst xs))):WG K H (.ref a) (.type "list")
 |tup {a:qc} {xs:qa V} (e:H a=some (.tup xs)):WG K H (.ref a) (.type "tuple")
 |dK {a:qc} {kvs:qa (Key×V)} (e:H a=some (.dK kvs)):WG K H (.ref a) (.type "dict")
 |dT {a:qc} {kvs:qa (qa Key×V)} (e:H a=some (.dT kvs)):WG K H (.ref a) (.type "dict")
 |ins {a C dx:qc} {fs:qa (qb×V)} (e:H a=some (.ins C dx fs)) (cl:tJ K C) (ha:findIn K (.ref C) "__class__"=some (some (.builtin "object.__class__")))
   (hn:PySem.W.specialIn K (.builtin "object.__class__") "__get__"=some (some (.builtin "getset_descriptor.__get__"))) (htk:PySem.W.takesIn K (.builtin "object.__class__")=some true)
   (hm:PySem.W.mroIn K C (.type "object")=some true):WG K H (.ref a) (.ref C)
def P9{x:V}{u t:qd}(I:Inv X pins σ H s)(d:QN x u)(ty:WG X.K H x t)(e:kitOne X.K t c=some b)(h:∀l,Q (.bool b) {s with toks:=l}) :
 wpAny (model X.prog X.w) A (call (.builtin "isinstance") [u,c]) Q E s:=by
 cases ty with
 |non=>cases (show u=Value.none from d);exact kia_one PySem.W.kitx_none I.oA True.intro e (λz=>nomatch z) h
 |bl y=>cases (show u=Value.bool y from d);exact kia_one PySem.W.kitx_bool I.oA True.intro e (λz=>nomatch z) h
 |int i=>obtain⟨t,q⟩:=(show ∃t,u=Value.int i t from d);cases q;exact kia_one PySem.W.kitx_int I.oA True.intro e (λz=>nomatch z) h
 |str y=>obtain⟨t,q⟩:=(show ∃t,u=Value.str y t from d);cases q;exact kia_one PySem.W.kitx_str I.oA True.intro e (λz=>nomatch z) h
 |flt y=>obtain⟨t,q⟩:=(show ∃t,u=Value.float y t from d);cases q;exact kia_one PySem.W.kitx_float I.oA True.intro e (λz=>nomatch z) h
 |@lst a xs f=>
  cases (show u=Value.ref a from d);obtain⟨_,_,n,_,g⟩:=(show Q2 X.prog X.w H s.heap a (.lst xs) from I.hok a _ f);exact kia_one kitx_list I.oA ⟨_,g,U⟩ e (λz=>nomatch z) h
 |@jF a j xs f=>
  cases (show u=Value.ref a from d);obtain⟨_,_,_,n,_,g⟩:=(show Q2 X.prog X.w H s.heap a (.jF j (.lst xs)) from I.hok a _ f);exact kia_one kitx_list I.oA ⟨_,g,U⟩ e (λz=>nomatch z) h
 |@tup a xs f=>
  cases (show u=Value.ref a from d);obtain⟨_,_,_,p⟩:=(show Q2 X.prog X.w H s.heap a (.tup xs) from I.hok a _ f);obtain⟨o,g,k,_⟩:=p;exact kia_one PySem.W.kitx_tuple I.oA ⟨o,g,k⟩ e (λz=>nomatch z) h
 |@dK a j f=>
  cases (show u=Value.ref a from d);obtain⟨_,_,vs,_,p⟩:=(show Q2 X.prog X.w H s.heap a (.dK j) from I.hok a _ f);obtain⟨o,es,m,g,k,_⟩:=p;exact kia_one kitx_dict I.oA ⟨o,g,k.1⟩ e (λz=>nomatch z) h
 |@dT a j f=>
  cases (show u=Value.ref a from d);obtain⟨_,_,xs,_,o,es,m,g,k,_⟩:=(show Q2 X.prog X.w H s.heap a (.dT j) from I.hok a _ f);exact kia_one kitx_dict I.oA ⟨o,g,k.1⟩ e (λz=>nomatch z) h
 |@ins a C m fs f cl j k g hm=>
  cases (show u=Value.ref a from d);obtain⟨r,O,_⟩:=B7 I.hok f;obtain⟨v,J,_⟩:=O.look;exact kia_one (PySem.W.kitx_own (cl.get _) cl.hd j k g hm) I.oA J e (λz=>nomatch z) h
end
structure QG(k:Nat)(A:Around):Prop where
 hd:A.handled=none
 dp:A.depth+3*k+5<recursionLimit
 un:A.units+16*k+200<cLine
 gd:A.guards=some []
def QG.mono{j k:Nat}{A:Around}(r:QG k A)(h:j<=k:=by decide):QG j A:=⟨r.hd,by have:=r.dp;omega,by have:=r.un;omega,r.gd⟩
def QG.deeper{k:Nat}{A:Around}(r:QG (k+1) A)(env:Env):QG k (A.deeper env):=
 ⟨r.hd,by have:=r.dp;show A.depth+1+3*k+5<_;omega,by have:=r.un;show A.units+3+16*k+200<_;omega,r.gd⟩
def MM{A:Around}{C:qc}{us:qg}{kw:qa (qb×qd)}:(A.under (.builtin "type.__call__" ⟨.ref C::us,kw⟩)).depth=A.depth+1:=by
 first|rfl|simp[Around.under,Code.weight,Code.isCreation,Code.isGuard,Code.isCaller,Code.frames,Code.isFrame,guardIds]
def ML{A:Around}{C:qc}{us:qg}{kw:qa (qb×qd)}:(A.under (.builtin "type.__call__" ⟨.ref C::us,kw⟩)).units=A.units+1:=by
 first|rfl|simp[Around.under,Code.cUnits,Code.frames,Code.isFrame]
def Li{A:Around}{C:qc}{us:qg}{kw:qa (qb×qd)}(h:A.guards=some []):(A.under (.builtin "type.__call__" ⟨.ref C::us,kw⟩)).guards=some []:=by
 first|exact h|simp[Around.under,Code.guards,Code.isGuard,pushGuards,guardIds,h]
def QG.make{k:Nat}{A:Around}(r:QG (k+1) A)(C:qc)(us:qg)(kw:qa (qb×qd)):QG k (A.under (.builtin "type.__call__" ⟨.ref C::us,kw⟩)):=
 ⟨r.hd,by have:=r.dp;rw[MM];omega,by have:=r.un;rw[ML];omega,Li r.gd⟩
def QG.depth{k:Nat}{A:Around}(r:QG k A):A.depth<recursionLimit:=by have:=r.dp;omega
def QG.units{k:Nat}{A:Around}(r:QG k A):A.units+64<cLine:=by have:=r.un;omega
def QG.QbZ{k:Nat}{A:Around}(r:QG k A):A.units<cLine:=by have:=r.un;omega
def aR:TA:=λ_ H Q=>Q [] H
def RN(a:TE)(b:TA):TA:=λσ H Q=>a σ H λx H1=>b σ H1 λxs c=>Q (x::xs) c
section
variable {X:Cx}{e:Expr}{es:qa Expr}{te:TE}{t:TA}{pos:Pos}
def Qf:PA X [] aR:=λ_ _ _ _ H Q I h=>uS ⟨[],H,I,.nil,h⟩
def Oc(a:PE X e te)(b:PA X es t)(c:starEach (e::es) X.env=(false,eval e X.env)::starEach es X.env:=by rfl):PA X (e::es) (RN te t):=by
 intro pos pins s σ H Q I h;rw[c];show wpAny _ _ (spliced ((false,eval e X.env)::backTo pos (starEach es X.env))) _ _ s;refine j7 (jE (a pins s σ H _ I h) λu s1 ⟨x,H1,d,f,g⟩=>?_);exact jE (b pos pins s1 σ H1 _ d g) λus s2 ⟨xs,i,j,k,l⟩=>⟨x::xs,i,j,.cons f k,l⟩
def gC(t:TA):TE:=λσ H Q=>t σ H λxs H1=>xs.length<=sizeLine/\∀p,H1 p=none->Q (.ref p) (upd H1 p (.tup xs))
def gH(t:TA):TE:=λσ H Q=>t σ H λxs H1=>xs.length<=sizeLine/\∀p,H1 p=none->Q (.ref p) (upd H1 p (.lst xs))
def eQ{c}(h:PA X es t):PE X (.Tuple es c pos) (gC t):=by
 intro pins s σ H Q I d;refine wpAny_Tuple_spliced (jE (h pos pins s σ H _ I d) λus s1 ⟨xs,H1,a,r,z,q⟩=>⟨by rw[<-r.length];exact z,?_⟩);have hf:H1 s1.heap.objs.size=none:=a.hok.fresh (qD _);refine⟨.ref s1.heap.objs.size,upd H1 s1.heap.objs.size (.tup xs),a.laid (t':=s1.toks) (λb u e=>qw _ e) (qD _) ?_,U,q _ hf⟩;exact⟨z,us,r,⟨_,qL _ rfl,U,_,U⟩⟩
def eV(h:PA X es t):PE X (.List es pos) (gH t):=by
 intro pins s σ H Q I c;refine wpAny_List_spliced (jE (h pos pins s σ H _ I c) λus s1 ⟨xs,H1,a,r,z,q⟩=>⟨by rw[<-r.length];exact z,?_⟩);have hf:H1 s1.heap.objs.size=none:=a.hok.fresh (qD _);refine⟨.ref s1.heap.objs.size,upd H1 s1.heap.objs.size (.lst xs),a.laid (t':=s1.toks) (λb u e=>qw _ e) (qD _) ?_,U,q _ hf⟩;exact⟨z,us,0,r,qL _ rfl⟩
end
abbrev Sp:=qa V->Hp->VK->XK->Prop
abbrev CXT:=qa Env->Hp->Shared->XK->qd->Shared->Prop
structure Nb(P:Program)(w:World)(K:Frag)(mg:qb->Option qd)(base:Heap)(A:Around)(outer:qa Env)(s:Shared)(H:Hp):Prop where
 frames:A.frames=some outer
 mod:Mod K mg base
 bs:∀b o,base.get? b=some o->s.heap.get? b=some o/\H b=none
 bsz:base.objs.size<=s.heap.objs.size
 oH:s.heap.FunFrames base outer
 frf:∀b∈frs outer,H b=none
 hok:iW P w H s.heap
 bare:AllBare s.gens
def CE(outer:qa Env)(P:Program)(w:World)(H:Hp)(s:Shared)(Q:VK)(u:qd)(s':Shared):Prop:=
 ∃v H',s'.os=s.os/\AllBare s'.gens/\Un (frs outer) [] H H' s.heap s'.heap/\iW P w H' s'.heap/\QN v u/\Q v H'
def CR(a:CXT)(outer:qa Env)(P:Program)(w:World)(H:Hp)(s:Shared)(Q:VK)(E:XK)(r:Result)(s':Shared):Prop:=
 match r with
 |.ok (.ret u)=>CE outer P w H s Q u s'
 |.ok _=>False
 |.error e=>a outer H s E e s'
structure QQ(P:Program)(w:World)(K:Frag)(mg:qb->Option qd)(base:Heap)(CX:CXT)(k:Nat)(f:qc)(fd:FuncData)(ps:qe)(sp:Sp):Prop where
 len:∀vs H Q E,sp vs H Q E->vs.length=ps.length
 run:∀(A:Around)(outer:qa Env)(s:Shared)(H:Hp)(args:Args)(us:qg)(vs:qa V)(Q:VK)(E:XK),QG k A->Nb P w K mg base A outer s H->BindsTo s fd args (ps.zip us)->QK vs us->sp vs H Q E ->
  codeAny (model P w) A (.call (.ref f) args) (CR CX outer P w H s Q E) s
def Nb.make{P:Program}{w:World}{K:Frag}{mg:qb->Option qd}{base:Heap}{A:Around}{outer:qa Env}{s:Shared}{H:Hp}(e:Nb P w K mg base A outer s H)(C:qc)(us:qg)(kw:qa (qb×qd)) :
 Nb P w K mg base (A.under (.builtin "type.__call__" ⟨.ref C::us,kw⟩)) outer s H:=⟨by first|exact e.frames|(simpa[Around.under,Code.envs,Code.isFrame,pushEnvs] using e.frames),e.mod,e.bs,e.bsz,e.oH,e.frf,e.hok,e.bare⟩
section
variable {X:Cx}{pins:qa (qc×Obj)}{σ:St}{H:Hp}{s s':Shared}
def Inv.env0(I:Inv X pins σ H s):Nb X.prog X.w X.K X.mg X.base X.A X.stack s H:=
 ⟨I.ok.frames,I.ok.mod,I.bs,zu I.ok.bsz I.sz,I.stack,I.Qa4,I.hok,I.bare⟩
def Inv.after{Q:VK}{u:qd}(I:Inv X pins σ H s)(h:CE X.stack X.prog X.w H s Q u s'):EP X pins σ Q u s':=by
 obtain⟨v,H',os,bare,un,hok,r,q⟩:=h;obtain⟨c,g,d,t,a⟩:=s';obtain rfl:a=s.os:=os;exact⟨v,H',I.call (h':=c) (g':=g) (d':=d) (t':=t) (ch:=[]) un hok bare (λb z=>absurd z (by simp)),r,q⟩
end
def gP(sp:Sp)(a:qa V)(E:XK)(t:TA):TE:=λσ H Q=>t σ H λvs H1=>sp (vs++a) H1 Q E
inductive Nj(C:qc)(m:qb)(sp:Sp)(pE:qa V)(E:XK)(t:TA)(σ:St)(Q:VK)(x:V)(H1:Hp):Prop
 |mk:∀a dx fs,x=.ref a->H1 a=some (.ins C dx fs)->fs.lookup m=none->(t σ H1 λvs H2=>sp (x::(vs++pE)) H2 Q E)->Nj C m sp pE E t σ Q x H1
def cF(C:qc)(m:qb)(sp:Sp)(a:qa V)(E:XK)(b:TE)(t:TA):TE:=λσ H Q=>b σ H λx H1=>Nj C m sp a E t σ Q x H1
def cG(C:qc)(sp:Sp)(b:qa V)(E:XK)(t:TA):TE:=λσ H Q=>t σ H λvs H1=>∀x a,H1 x=none->H1 a=none->a≠x ->
 sp (.ref x::(vs++b)) (upd (upd H1 a (.own x)) x (.ins C a [])) (λv c=>v=.non/\Q (.ref x) c) E
def Qr(K:Frag)(fd:FuncData)(ps:qe)(ds:qg):Prop:=
 ∀(s:Shared)(us:qg),K.In s.heap->(us++ds).length=ps.length->BindsTo s fd ⟨us,[]⟩ (ps.zip (us++ds))
def Qr.all{K:Frag}{fd:FuncData}{ps:qe}(h:∀us:qg,us.length=ps.length->bindArgs fd ⟨us,[]⟩=pure (ps.zip us)):Qr K fd ps []:=λs us _ a=>by
 rw[zU] at a⊢;exact .of_eq (h us a)
def Kp(a:CXT)(X:Cx)(E:XK):Prop:=∀(pins:qa (qc×Obj))(σ:St)(H:Hp)(s:Shared)(e:qd)(s':Shared),Inv X pins σ H s->a X.stack H s E e s'->X.xe e s'
section
variable {X:Cx}{CX:CXT}{k:Nat}{f C:qc}{fd:FuncData}{ps:qe}{sp:Sp}{pE:qa V}{ds:qg}{E:XK}{x m:qb}{p pos apos:Pos}{e o:Expr}{es:qa Expr}{ta:TE}{t:TA}
def Mp{pins:qa (qc×Obj)}{σ:St}{H:Hp}{s:Shared}{Q:VK}{us:qg}{vs:qa V}(F:QQ X.prog X.w X.K X.mg X.base CX k f fd ps sp)(c:QG k X.A)(d:Qr X.K fd ps ds)(hd:QK pE ds)(g:Kp CX X E)
 (I:Inv X pins σ H s) (r:QK vs us) (h:sp (vs++pE) H Q E):wpAny (model X.prog X.w) X.A (call (.ref f) us) (EP X pins σ Q) X.xe s:=by
 have b:QK (vs++pE) (us++ds):=r.append hd;have i:(us++ds).length=ps.length:=by rw[<-b.length];exact F.len _ _ _ _ h
 refine wpAny_call (xj (F.run X.A X.stack s H ⟨us,[]⟩ (us++ds) (vs++pE) Q E c I.env0 (d s us I.oA i) b h) λr s' a=>?_)
 cases r with
 |error e=>exact g pins σ H s e s' I a
 |ok j=>
  cases j with
  |ret u=>exact I.after a
  |next=>exact False.elim a
  |brk=>exact False.elim a
  |cont=>exact False.elim a
def Ql(F:QQ X.prog X.w X.K X.mg X.base CX k f fd ps sp)(d:QG k X.A)(hg:Gl X x)(hm:X.mg x=some (.ref f))(g:keepIn X.K (.ref f)=true)(i:Qr X.K fd ps ds)(hd:QK pE ds)(j:Kp CX X E)
 (l:PA X (e::es) t) (a:(x==("__debug__":qb))=false:=by decide) (he:starEach (e::es) X.env=(false,eval e X.env)::starEach es X.env:=by rfl) (b:(backTo pos (starEach es X.env)).any (·.1)=false:=by rfl) :
 PE X (.Call (.Name x p) (e::es) [] pos) (gP sp pE E t):=by
 intro pins s σ H Q I h;refine ue (B5 I hg hm ?_ a);refine callWith_K (h₀:=X.base) I.ok.mod.kin g (jE (l pos pins s σ H _ I h) λus s1 ⟨vs,H1,c,r,q⟩=>⟨c.oA,?_⟩) he b;exact Mp F d i hd j c r q
def QL{pl:Sem Bool}(he:PE X o ta)(c:tJ X.K C)(hm:YZ X.K C m f)(F:QQ X.prog X.w X.K X.mg X.base CX k f fd ps sp)(j:QG k X.A)(n:Qr X.K fd ps ds)(hd:QK pE ds)(p:Kp CX X E)(v:PA X (e::es) t)
 (b:starEach (e::es) X.env=(false,eval e X.env)::starEach es X.env:=by rfl) (d:(backTo pos (starEach es X.env)).any (·.1)=false:=by rfl)
 (w:eval (.Call (.Attribute o m apos) (e::es) [] pos) X.env=(do
   let g <-eval o X.env
   standAt apos.atName
   let (f,first) <-holding [g] (getMethod g m pl)
   callWith pos f first (backTo pos (starEach (e::es) X.env)) (backToKw pos (keywordEach [] X.env))):=by rfl) :
 PE X (.Call (.Attribute o m apos) (e::es) [] pos) (cF C m sp pE E ta t):=by
 intro pins s σ H Q I h;refine PySem.W.methodCall_KW (pl:=pl) (jE (he pins s σ H _ I h) λu s1 ⟨x,H1,g,y,a,B,fs,ex,z,l,q⟩=>?_) w;subst ex;obtain rfl:u=Value.ref a:=y;refine Dx g z c hm l ?_;refine callWith_K (first:=[.ref a]) (h₀:=X.base) I.ok.mod.kin hm.kp (jE (v pos pins s1 σ H1 _ g q) λus s2 ⟨vs,D,i,r,A⟩=>⟨i.oA,?_⟩) b d;exact Mp (us:=.ref a::us) (vs:=.ref a::vs) F j n hd p i (.cons rfl r) A
def Ud{pl:Sem Bool}(he:PE X o ta)(c:tJ X.K C)(hm:YZ X.K C m f)(F:QQ X.prog X.w X.K X.mg X.base CX k f fd ps sp)(d:QG k X.A)(e:Qr X.K fd ps ds)(hd:QK pE ds)(g:Kp CX X E)
 (i:eval (.Call (.Attribute o m apos) [] [] pos) X.env=(do
   let b <-eval o X.env
   standAt apos.atName
   let (f,first) <-holding [b] (getMethod b m pl)
   callWith pos f first (backTo pos (starEach [] X.env)) (backToKw pos (keywordEach [] X.env))):=by rfl) :
 PE X (.Call (.Attribute o m apos) [] [] pos) (cF C m sp pE E ta aR):=by
 intro pins s σ H Q I h;refine PySem.W.methodCall_KW (pl:=pl) (jE (he pins s σ H _ I h) λu s1 ⟨x,H1,b,j,a,p,fs,ex,n,l,q⟩=>?_) i;subst ex;obtain rfl:u=Value.ref a:=j;refine Dx b n c hm l ?_;exact callWith_K0 (first:=[.ref a]) b.oA hm.kp (Mp (us:=[.ref a]) (vs:=[.ref a]) F d e hd g b (.cons rfl .nil) q)
structure Mk(K:Frag)(C f:qc):Prop where
 makes:makesIn K C=true
 init:findIn K (.ref C) "__init__"=some (some (.ref f))
 fn:isFn K (.ref f)=true
 kp:keepIn K (.ref C)=true
def Ir{pins:qa (qc×Obj)}{σ:St}{H:Hp}{s:Shared}{Q:VK}{us:qg}{vs:qa V}(M:Mk X.K C f)(F:QQ X.prog X.w X.K X.mg X.base CX k f fd ps sp)(g:QG (k+1) X.A)(i:Qr X.K fd ps ds)(hd:QK pE ds)
 (j:Kp CX X E) (I:Inv X pins σ H s) (r:QK vs us)
 (h:∀x a,H x=none->H a=none->a≠x->sp (.ref x::(vs++pE)) (upd (upd H a (.own x)) x (.ins C a [])) (λv b=>v=.non/\Q (.ref x) b) E) :
 wpAny (model X.prog X.w) X.A (call (.ref C) us) (EP X pins σ Q) X.xe s:=by
 have c:=h (s.heap.objs.size+1) s.heap.objs.size (I.hok.fresh (ox _)) (I.hok.fresh (qD _)) (zc (Nat.lt_succ_self _));have b:=Inv.made (C:=C) I;have d:QK (V.ref (s.heap.objs.size+1)::(vs++pE)) (Value.ref (s.heap.objs.size+1)::(us++ds)):=.cons rfl (r.append hd);have l:(Value.ref (s.heap.objs.size+1)::us++ds).length=ps.length:=by
  have e:=d.length;rw[F.len _ _ _ _ c] at e;exact e.symm
 refine wpAny_call (Tu (f:=f) I.oA M.makes M.init (lX.mp M.fn) (xj (F.run _ X.stack _ _ ⟨Value.ref (s.heap.objs.size+1)::us,[]⟩ (Value.ref (s.heap.objs.size+1)::(us++ds)) _ _ E (g.make C us [])
  (b.env0.make C us []) (i _ (Value.ref (s.heap.objs.size+1)::us) b.oA l) d c) λr s' a=>?_))
 cases r with
 |error e=>exact j pins σ _ _ e s' b a
 |ok j=>
  cases j with
  |ret u=>
   obtain⟨v,H',m,n,ev,o⟩:=b.after a;subst ev;exact⟨n,⟨V.ref (s.heap.objs.size+1),H',m,U,o⟩⟩
  |next=>exact False.elim a
  |brk=>exact False.elim a
  |cont=>exact False.elim a
def FJ(M:Mk X.K C f)(F:QQ X.prog X.w X.K X.mg X.base CX k f fd ps sp)(d:QG (k+1) X.A)(hg:Gl X x)(hm:X.mg x=some (.ref C))(g:Qr X.K fd ps ds)(hd:QK pE ds)(i:Kp CX X E)
 (j:PA X (e::es) t) (a:(x==("__debug__":qb))=false:=by decide) (he:starEach (e::es) X.env=(false,eval e X.env)::starEach es X.env:=by rfl) (b:(backTo pos (starEach es X.env)).any (·.1)=false:=by rfl) :
 PE X (.Call (.Name x p) (e::es) [] pos) (cG C sp pE E t):=by
 intro pins s σ H Q I h;refine ue (B5 I hg hm ?_ a);refine callWith_K (h₀:=X.base) I.ok.mod.kin M.kp (jE (j pos pins s σ H _ I h) λus s1 ⟨vs,H1,c,r,q⟩=>⟨c.oA,?_⟩) he b;exact Ir M F d g hd i c r q
def X8(M:Mk X.K C f)(F:QQ X.prog X.w X.K X.mg X.base CX k f fd ps sp)(b:QG (k+1) X.A)(hg:Gl X x)(hm:X.mg x=some (.ref C))(c:Qr X.K fd ps ds)(hd:QK pE ds)(d:Kp CX X E)
 (a:(x==("__debug__":qb))=false:=by decide):PE X (.Call (.Name x p) [] [] pos) (cG C sp pE E aR):=by
 intro pins s σ H Q I h;refine ue (B5 I hg hm ?_ a);exact callWith_K0 I.oA M.kp (Ir (us:=[]) M F b c hd d I .nil h)
end
section
variable {X:Cx}{CX:CXT}{k:Nat}{f C:qc}{fd:FuncData}{ps ks:qe}{sp:Sp}{E:XK}{x m:qb}{p pos apos kpos:Pos}{e o:Expr}{es:qa Expr}{kws:qa Keyword}{te ta:TE}{t tk:TA}{nm:Option qb}
variable {g:qg->qg->qg}{gV:qa V->qa V->qa V}
end
structure Qn(N P:qe)(sc:Scope):Prop where
 kind:sc.kind=.function
 co:sc.isCoroutine=false
 gen:sc.isGenerator=false
 nd:N.Nodup
 pre:N.take P.length=P
 par:∀x∈P,sc.names.lookup x=some .local\/sc.names.lookup x=some .cell
 Qdp:∀y∈sc.names,y.2≠.free
def Fb{kindOf:qb->Option NameKind}{x:qb}:∀{binds:qa (qb×qd)}{m:qb->Option qd},(∀v,(x,v)∉binds)->bindL kindOf binds m x=m x
 |[],_,_=>rfl
 |(n,v)::r,m,h=>by
  unfold bindL;rw[Fb λw hw=>h w (qH _ hw)];split
  .have:x≠n:=by rintro rfl;exact h v qy
   simp[this]
  .rfl
def Fd{kindOf:qb->Option NameKind}{x:qb}:∀{binds:qa (qb×qd)}{m:qb->Option qd},(∀v,(x,v)∉binds)->bindC kindOf binds m x=m x
 |[],_,_=>rfl
 |(n,v)::r,m,h=>by
  unfold bindC;rw[Fd λw hw=>h w (qH _ hw)];split
  .rfl
  .have:x≠n:=by rintro rfl;exact h v qy
   simp[this]
def Fc{kindOf:qb->Option NameKind}{x:qb}{v:qd}:∀{P:qe}{vs:qg}{i:Nat}{m:qb->Option qd},P.Nodup->P[i]?=some x->vs[i]?=some v->kindOf x=some .local ->
 bindL kindOf (P.zip vs) m x=some v
 |[],_,_,_,_,h,_,_=>by simp at h
 |_::_,[],_,_,_,_,h,_=>by simp at h
 |p::P,w::vs,0,m,c,a,b,d=>by
  simp at a b;subst a;subst b;show bindL kindOf ((p,w)::P.zip vs) m p=_;unfold bindL;rw[Fb λv e=>(zK.mp c).1 (List.of_mem_zip e).1,qG d];simp
 |p::P,w::vs,i+1,m,c,a,b,d=>by
  show bindL kindOf ((p,w)::P.zip vs) m x=_;unfold bindL;exact Fc (i:=i) (zK.mp c).2 (by simpa using a) (by simpa using b) d
def Fe{kindOf:qb->Option NameKind}{x:qb}{v:qd}:∀{P:qe}{vs:qg}{i:Nat}{m:qb->Option qd},P.Nodup->P[i]?=some x->vs[i]?=some v->kindOf x≠some .local ->
 bindC kindOf (P.zip vs) m x=some v
 |[],_,_,_,_,h,_,_=>by simp at h
 |_::_,[],_,_,_,_,h,_=>by simp at h
 |p::P,w::vs,0,m,c,a,b,d=>by
  simp at a b;subst a;subst b;show bindC kindOf ((p,w)::P.zip vs) m p=_;unfold bindC;rw[Fd λv e=>(zK.mp c).1 (List.of_mem_zip e).1,qA d];simp
 |p::P,w::vs,i+1,m,c,a,b,d=>by
  show bindC kindOf ((p,w)::P.zip vs) m x=_;unfold bindC;exact Fe (i:=i) (zK.mp c).2 (by simpa using a) (by simpa using b) d
def start(N:qe)(vs:qa V):St:=vs.map some++List.replicate (N.length-vs.length) none
def Hr(b:CXT)(P:Program)(w:World)(K:Frag)(mg:qb->Option qd)(base:Heap)(N:qe)(qual:qb)(scope:Scope)(f:qc)(cd:qd)(A:Around)(outer:qa Env)(s:Shared)(H:Hp)(E:XK):Cx where
 prog:=P
 w:=w
 K:=K
 mg:=mg
 base:=base
 A:=A.deeper (envOfC qual scope s.heap.objs.size f cd)
 N:=N
 s₀:=s
 H₀:=H
 env:=envOfC qual scope s.heap.objs.size f cd
 outer:=outer
 stack:=envOfC qual scope s.heap.objs.size f cd::outer
 ex:=[]
 calm:=true
 fn:=λ_=>true
 pn:=[]
 xe:=λe s'=>wpAny (model P w) (A.deeper (envOfC qual scope s.heap.objs.size f cd)) (leaving (envOfC qual scope s.heap.objs.size f cd) e) (λ_ a=>b outer H s E e a) (λc a=>b outer H s E c a) s'
def LR{sc:Scope}{n:Nat}{x:qb}(h:sc.names.lookup x=some .cell):∃c,(cellsFrom n sc.names []).lookup x=some c:=by
 have q:=PySem.W.cellsFrom_some sc.names n [] (.inl h);exact Option.isSome_iff_exists.mp q
def Rb{C:CXT}{P:Program}{w:World}{K:Frag}{mg:qb->Option qd}{base:Heap}{N ps:qe}{qual:qb}{scope:Scope}{f:qc}{cd:qd}{A:Around}{outer:qa Env}{s s1:Shared}{H:Hp}{E:XK}{us:qg}{vs:qa V}
 (S:Qn N ps scope) (hd:A.handled=none) (g:Nb P w K mg base A outer s H) (d:vs.length=ps.length) (r:QK vs us)
 (x:InCallC s s.heap.objs.size (bindL (envOfC qual scope s.heap.objs.size f cd).kindOf (ps.zip us) λ_=>none) (cellsFrom (s.heap.objs.size+1) scope.names []) (bindC (envOfC qual scope s.heap.objs.size f cd).kindOf (ps.zip us) λ_=>none) s1) :
 Inv (Hr C P w K mg base N qual scope f cd A outer s H E) [] (start N vs) H s1:=by
 have G:ps.length<=N.length:=by have:=zQ List.length S.pre;rw[q0] at this;omega
 obtain⟨t,L,rfl,D⟩:=x.done;have j:∀b:qc,b∉(Hr C P w K mg base N qual scope f cd A outer s H E).ex:=λb z=>absurd (show b∈([]:qa qc) from z) (by simp);refine⟨⟨g.mod,S.kind,U,U,qD _,λy z c t d=>?_,λy l=>?_,λy c _ h=>?_,λ_=>hd,Around.frames_deeper g.frames,.inr ⟨U,U⟩,λb z=>absurd z (j b),g.bs,g.bsz,λb _ _=>j b,λb z=>absurd z (j b),g.oH,g.frf⟩,
  rfl,g.bare,Un.kept D,⟨_,x.toInCall.ns,λi y v t d o=>?_⟩,λy c h=>⟨_,x.cell y c h⟩,g.hok.fresh (qD _),λy c h=>?_,λp m=>absurd (show p∈([]:qa (qc×Obj)) from m) (by simp),g.hok.kept D,?_⟩
 .exact name_of_addr x.apart (jS t) (jS d)
 .have l:scope.names.lookup y=some .cell\/scope.names.lookup y=some .free:=l;rcases l with l|l
  .exact LR l
  .exact absurd rfl (S.Qdp _ (jS l))
 .exact vv (x.above y c (jS h))
 .have B:i<vs.length:=by
   unfold start at d;by_cases B:i<vs.length
   .exact B
   .rw[lY (by simpa using B)] at d;rw[List.getElem?_replicate] at d;split at d<;>cases d
  have I:vs[i]?=some v:=by
   unfold start at d;rw[mS (by simpa using B),qQ] at d
   cases e:vs[i]? with
   |none=>rw[e] at d;cases d
   |some a=>rw[e] at d;cases d;rfl
  obtain⟨u,F,J⟩:=r.get I;have m:ps[i]?=some y:=by
   rw[<-S.pre,List.getElem?_take_of_lt (by omega)];exact t
  have o:ps.Nodup:=by rw[<-S.pre];exact S.nd.sublist (List.take_sublist _ _)
  refine⟨u,J,?_⟩;rcases S.par y (qM m) with k|k
  .exact .inl ⟨k,Fc o m F k⟩
  .obtain⟨c,e⟩:=LR (n:=s.heap.objs.size+1) k;refine .inr ⟨.inl k,c,e,?_⟩;have q:=x.cell y c e;rw[Fe o m F (by show scope.names.lookup y≠_;rw[k];decide)] at q;exact q
 .exact g.hok.fresh (vv (x.above y c (jS h)))
 .unfold start;show _=N.length;rw[qz,qh,uE];omega
def cZ{l:CXT}{P:Program}{w:World}{K:Frag}{mg:qb->Option qd}{base:Heap}{k:Nat}{f:qc}{name qual:qb}{params:Arguments}{body:qa Stmt}{scope:Scope}{B kV doc pm a ct C:qd}{an D:Option qc}
 {c:Array (Option qd)} {N ps:qe} {sp:Sp} (F:K.lookup f=some ⟨C,D,.func (fnOf name qual params body scope B kV doc pm an a ct),c⟩) (m:codeIn K a qual=true) (S:Qn N ps scope)
 (len:∀vs H Q E,sp vs H Q E->vs.length=ps.length)
 (d:∀(A:Around)(outer:qa Env)(s:Shared)(H:Hp)(vs:qa V)(Q:VK)(E:XK),QG k (A.deeper (envOfC qual scope s.heap.objs.size f a))->sp vs H Q E ->
   ∃t,PSs (Hr l P w K mg base N qual scope f a A outer s H E) body t/\t {nx:=λ_ H'=>Q .non H',rt:=Q} (start N vs) H) :
 QQ P w K mg base l (k+1) f (fnOf name qual params body scope B kV doc pm an a ct) ps sp:=by
 refine⟨len,λA outer s H args us vs Q E p i G r j=>?_⟩;have L:=len _ _ _ _ j;have KX:K.In s.heap:=i.mod.kin.keeps λb o e=>(i.bs b o e).1;have lim:s.heap.NoLimit:=i.mod.nolimit.keeps λb o e=>(i.bs b o e).1;have g:∀y∈ps.zip us,scope.names.lookup y.1=some .local\/(scope.names.lookup y.1=some .cell/\((cellsFrom (s.heap.objs.size+1) scope.names []).lookup y.1).isSome=true):=λ⟨n,v⟩ M=>by
  rcases S.par n (List.of_mem_zip M).1 with q|q
  .exact .inl q
  .exact .inr ⟨q,PySem.W.cellsFrom_some _ _ _ (.inl q)⟩
 refine codeAny_call_function p.depth (KX _ _ F) rfl S.co S.gen rfl (PySem.W.codeRec_of KX m) (G _ _ _ _ ?_);refine wpAny_newFunctionEnv_cells S.kind g λenv he s1 x=>?_;subst he;refine⟨lim.keeps x.toInCall.keep,codeAny_func ?_⟩;obtain⟨t,O,R⟩:=d A outer s H vs Q E (p.deeper _) j;have I:Inv (Hr l P w K mg base N qual scope f a A outer s H E) [] (start N vs) H s1:=Rb S p.hd i L r x;refine yN (O [] s1 (start N vs) H _ I R) (λT s' h=>?_) λe s' h=>h;have fin:∀{c:St}{H':Hp}{v:V}{u:qd},Inv (Hr l P w K mg base N qual scope f a A outer s H E) [] c H' s'->QN v u->Q v H'->CE outer P w H s Q u s':=
  λ{c H' v u} J z q=>⟨v,H',J.os,J.bare,J.base,J.hok,z,q⟩
 cases T with
 |ret u=>
  obtain⟨v,c,H',J,z,q⟩:=h;exact fin J z q
 |next=>
  obtain⟨c,H',J,q⟩:=h;exact fin (v:=V.non) (u:=Value.none) J rfl q
 |brk=>
  obtain⟨_,_,_,q⟩:=h;exact False.elim q
 |cont=>
  obtain⟨_,_,_,q⟩:=h;exact False.elim q
section
variable {X:Cx}{x:qb}{p pos:Pos}{e:Expr}{es:qa Expr}{t:TA}{id T:String}{r:qa V->Hp->VK->Prop}
def tCB(r:qa V->Hp->VK->Prop)(t:TA):TE:=λσ H Q=>t σ H λvs H1=>r vs H1 Q
def QC(hc:VY X (.builtin id) r)(hg:Gl X x)(hm:X.mg x=none)(c:bootBuiltins x=some (.builtin id))(d:PA X (e::es) t)(f:x≠"__name__":=by decide)(a:(x==("__debug__":qb))=false:=by decide)
 (he:starEach (e::es) X.env=(false,eval e X.env)::starEach es X.env:=by rfl) (b:(backTo pos (starEach es X.env)).any (·.1)=false:=by rfl):PE X (.Call (.Name x p) (e::es) [] pos) (tCB r t):=by
 intro pins s σ H Q I h;refine ue (Hj I hg hm c ?_ f a);exact PyProof.Rows.callWith_builtin1 (jE (d pos pins s σ H _ I h) λus s1 ⟨vs,H1,g,i,j⟩=>hc pins s1 σ H1 vs us Q g i j) he b
def Ui(hc:VY X (.type T) r)(hg:Gl X x)(hm:X.mg x=none)(c:bootBuiltins x=some (.type T))(d:PA X (e::es) t)(f:x≠"__name__":=by decide)(a:(x==("__debug__":qb))=false:=by decide)
 (he:starEach (e::es) X.env=(false,eval e X.env)::starEach es X.env:=by rfl) (b:(backTo pos (starEach es X.env)).any (·.1)=false:=by rfl):PE X (.Call (.Name x p) (e::es) [] pos) (tCB r t):=by
 intro pins s σ H Q I h;refine ue (Hj I hg hm c ?_ f a);exact PyProof.Rows.callWith_type1 (jE (d pos pins s σ H _ I h) λus s1 ⟨vs,H1,g,i,j⟩=>hc pins s1 σ H1 vs us Q g i j) he b
end
end L2
namespace HT
open PySem PyProof.Rows
def LH(A:Around)(s:Shared)(a:Int)(t:Tok)(c:Int)(u:Tok):∃e,SeqAt.EqAt A s (.int a t) (.int c u) e/\(e=true↔a=c):=
 ⟨(a==c),SeqAt.EqAt.int_int a t c u,by simp⟩
section
open PySem.SeqAt
open PySem.AutoSeq1 (wpAny_loadPart')
open PySem.MeetsSeq PySem.MeetsSeq2 PySem.MeetsSeq3
end
section
variable {prog:Program}{w:World}{A:Around}{E:qf}{s:Shared}
def xC(n d:Nat):Option Int->Nat
 |none=>d
 |some v=>if v<0 then (v+(n:Int)).toNat else min v.toNat n
def tR(n d:Nat):xC n d none=d:=rfl
def sE(n d k:Nat):xC n d (some (k:Int))=min k n:=by
 show(if (k:Int)<0 then ((k:Int)+(n:Int)).toNat else min (k:Int).toNat n)=min k n;rw[qA (by omega),jN]
def dZ(n d:Nat)(hd:d<=n)(o:Option Int):xC n d o<=n:=by
 cases o with
 |none=>exact hd
 |some v=>
  show(if v<0 then (v+(n:Int)).toNat else min v.toNat n)<=n;by_cases a:v<0
  .rw[qG a];omega
  .rw[qA a];exact Nat.min_le_right _ _
def OQ(v:Int)(n d:Nat):(if v<0 then max (v+(n:Int)) 0 else min v (n:Int))=((xC n d (some v):Nat):Int):=by
 show(if v<0 then max (v+(n:Int)) 0 else min v (n:Int))=(((if v<0 then (v+(n:Int)).toNat else min v.toNat n):Nat):Int);by_cases a:v<0
 .simp only[qG a];omega
 .simp only[qA a];omega
def M8(lo a:Option Int)(n:Nat):Builtin.Slice.sliceAdjust lo a 1 (n:Int)=(((xC n 0 lo:Nat):Int),((xC n n a:Nat):Int)):=by
 have b:¬((1:Int)<0):=by omega
 unfold Builtin.Slice.sliceAdjust;simp only[b,yB];refine Prod.ext ?_ ?_
 .cases lo with
  |none=>rfl
  |some v=>exact OQ v n 0
 .cases a with
  |none=>rfl
  |some v=>exact OQ v n n
def Ms(i j:Nat):Builtin.Slice.slicePlaces (i:Int) (j:Int) 1=j-i:=by
 unfold Builtin.Slice.slicePlaces;have a:(1:Int) > 0:=by omega
 simp only[a,vw,Int.ediv_one];split<;>omega
def Cy{v:qd}{o:Option Int}{Q:Option Int->Shared->Prop}(p:IsPart v o)(h:Q o s):wpAny (model prog w) A (Builtin.Slice.slicePartIndex v) Q E s:=by
 cases p with
 |none=>exact slicePart_none h
 |int i t=>exact slicePart_int h
def W4{f:qc}{d e:qd}{lo a:Option Int}{n:Nat}{Q:Int×Int×Nat->Shared->Prop}(g:s.heap.IsSliceOf f d e .none)(pl:IsPart d lo)(pu:IsPart e a)
 (h:Q (((xC n 0 lo:Nat):Int),1,xC n n a-xC n 0 lo) s):wpAny (model prog w) A (Builtin.Slice.sliceApplied (.ref f) (pure (n:Int))) Q E s:=by
 obtain⟨os,b,i,c⟩:=id g;unfold Builtin.Slice.sliceApplied Builtin.Slice.sliceFields;refine qi (qi (wpAny_field b c (x:=d) rfl (qi (wpAny_field b c (x:=e) rfl (qi (wpAny_field b c (x:=.none) rfl (qv ?_)))))));refine qi (slicePart_none ?_);show wpAny _ _ (if ((1:Int)==0)=true then _ else _) _ _ s;rw[qA (by decide)];refine qi (Cy pl (qi (Cy pu (qi (qv ?_)))));show wpAny _ _ (match Builtin.Slice.sliceAdjust lo a 1 (n:Int) with|(lo,a)=>pure (lo,(1:Int),Builtin.Slice.slicePlaces lo a 1)) _ _ s;rw[M8 lo a n];show wpAny _ _ (pure (((xC n 0 lo:Nat):Int),(1:Int),Builtin.Slice.slicePlaces ((xC n 0 lo:Nat):Int) ((xC n n a:Nat):Int) 1)) _ _ s;rw[Ms];exact qv h
def Su(xs:Array qd)(i k:Nat):((List.range k).filterMap λ(m:Nat)=>xs[((i:Int)+(m:Int)*1).toNat]?).toArray=((xs.toList.drop i).take k).toArray:=by
 have e:(λ(m:Nat)=>xs[((i:Int)+(m:Int)*1).toNat]?)=λm=>xs[i+m]?:=by
  funext m;have:((i:Int)+(m:Int)*1).toNat=i+m:=by omega
  rw[this]
 rw[e];have:=pick_run xs i k;rw[List.filterMap_map] at this;have a:((λx=>xs[x]?)∘λx=>i+x)=λm=>xs[i+m]?:=rfl;rw[a] at this;rw[this]
def mq{t d:qc}{items:Array qd}{j k:qd}{lo b:Option Int}{Q:qf}(c:IsTup s.heap t items)(l:s.heap.IsSliceOf d j k .none)(pl:IsPart j lo)(pu:IsPart k b)
 (hw:¬(xC items.size 0 lo=0/\xC items.size items.size b=items.size))
 (h:Q (.ref s.heap.objs.size) {s with heap:=s.heap.push {cls:=.type "tuple",data:=.seq ((items.toList.drop (xC items.size 0 lo)).take (xC items.size items.size b-xC items.size 0 lo)).toArray}})
 (hsz:items.size<=sizeLine):wpAny (model prog w) A (getItem (.ref t) (.ref d)) Q E s:=by
 have a:sizeOk (.seq ((items.toList.drop (xC items.size 0 lo)).take (xC items.size items.size b-xC items.size 0 lo)).toArray):=by
  show((items.toList.drop (xC items.size 0 lo)).take (xC items.size items.size b-xC items.size 0 lo)).toArray.size<=sizeLine;rw[qR,q0,yq,zf];omega
 have o:xC items.size items.size b<=items.size:=dZ _ _ (qD _) b;obtain⟨os,e,f,n⟩:=id l;have g:s.TypeIs (.ref d) "slice":=⟨os,e,f⟩;unfold getItem
 try with_reducible refine jz ?_
 first|refine qi (qv ?_)|skip
 refine qi (wpAny_sequenceKey c.typeIs (by decide) ?_);refine qi (jt (name:=Str.ofString "__getitem__") c.typeIs slot_tuple_getitem
  (zR slot_tuple_getitem c.typeIs entry_tuple_getitem ?_ (args_tuple_getitem _ _)))
 show wpAny _ _ (Builtin.Tuple.tupleItemsOf (.ref t)>>=_) _ _ s;refine qi (tupleItemsOf_ c ?_);refine qi (QaB g ?_);rw[qG (by decide)];refine qi (W4 l pl pu ?_);have i:¬((((xC items.size 0 lo:Nat):Int)==0&&(1:Int)==1&&(xC items.size items.size b-xC items.size 0 lo)==items.size)=true):=by
  intro q;rw[jb,jb] at q;have p:((xC items.size 0 lo:Nat):Int)=0:=eq_of_beq q.1.1;have r:xC items.size items.size b-xC items.size 0 lo=items.size:=eq_of_beq q.2;exact hw ⟨by omega,by omega⟩
 show wpAny _ _ (if (((xC items.size 0 lo:Nat):Int)==0&&(1:Int)==1&&(xC items.size items.size b-xC items.size 0 lo)==items.size)=true then _ else _) _ _ s;rw[qA i,Su]
 first
  |exact qi (m:=Builtin.Tuple.tupleExact _) (zG (qv ⟨_,rfl,qv h⟩) a)
  |exact qi (m:=Builtin.Tuple.tupleExact _) (zG (qi (qv (qv ⟨_,rfl,qv h⟩))) a)
  |exact qi (qi (m:=Builtin.Tuple.tupleExact _) (zG (qv (qv ⟨_,rfl,qv h⟩)) a))
  |exact qi (qi (m:=Builtin.Tuple.tupleExact _) (zG (qv ⟨_,rfl,qv h⟩) a))
end
end HT
namespace L2
open PySem PySem.Spec PyProof.Rows
abbrev TO:=St->Hp->(Option Int->Hp->Prop)->Prop
def PO(X:Cx)(e:Option Expr)(t:TO):Prop:=
 ∀(pins:qa (qc×Obj))(s:Shared)(σ:St)(H:Hp)(Q:Option Int->Hp->Prop),Inv X pins σ H s->t σ H Q ->
  wpAny (model X.prog X.w) X.A (evalPart e X.env) (λu s'=>∃o H',Inv X pins σ H' s'/\IsPart u o/\Q o H') X.xe s
def aQ:TO:=λ_ H Q=>Q none H
inductive Nh(Q:(Option Int->Hp->Prop))(x:V)(H1:Hp):Prop
 |mk:∀i,x=.int i->Q (some i) H1->Nh Q x H1
def gE(t:TE):TO:=λσ H Q=>t σ H λx H1=>Nh Q x H1
section
variable {X:Cx}{e:Expr}{te:TE}{lo hi:Option Expr}{tl th:TO}{pos p2:Pos}
def KC:PO X none aQ:=by
 intro pins s σ H Q I h;rw[evalPart_none];exact qv ⟨none,H,I,.none,h⟩
def Xy(h:PE X e te):PO X (some e) (gE te):=by
 intro pins s σ H Q I hw;rw[evalPart_some];refine jE (h pins s σ H _ I hw) λu s1 ⟨x,H1,a,b,c⟩=>?_;obtain⟨i,rfl,q⟩:=c;obtain⟨t,rfl⟩:=b;exact⟨some i,H1,a,.int i t,q⟩
def SlR(X:Cx)(r:V->Option Int->Option Int->Hp->VK->Prop):Prop:=
 ∀(pins:qa (qc×Obj))(s:Shared)(σ:St)(H:Hp)(x:V)(v a b:qd)(lo hi:Option Int)(c:qc)(Q:VK),Inv X pins σ H s->QN x v->s.heap.IsSliceOf c a b .none->IsPart a lo->IsPart b hi->r x lo hi H Q ->
  ∃T id,typeLookup (.type T) "__getitem__"=pure (some (.builtin id))/\s.TypeIs v T/\wpAny (model X.prog X.w) X.A (getItem v (.ref c)) (EP X pins σ Q) X.xe s
def tSl(r:V->Option Int->Option Int->Hp->VK->Prop)(te:TE)(tl th:TO):TE:=λσ H Q=>te σ H λx H1=>tl σ H1 λl a=>th σ a λu b=>r x l u b Q
def Xd{r:V->Option Int->Option Int->Hp->VK->Prop}(f:SlR X r)(he:PE X e te)(g:PO X lo tl)(i:PO X hi th):PE X (.Subscript e (.Slice lo hi none p2) pos) (tSl r te tl th):=by
 intro pins s σ H Q I h;refine Subscript_ (jE (he pins s σ H _ I h) λv s1 ⟨x,H1,j,k,m⟩=>?_);refine wpAny_Slice (jE (g pins s1 σ H1 _ j m) λa s2 ⟨l,n,o,pl,p⟩=>jE (i pins s2 σ n _ o p) λc s3 ⟨u,d,t,pu,w⟩=>?_);rw[evalPart_none];refine qv ?_;have y:Inv X pins σ d {s3 with heap:=s3.heap.push {cls:=.type "slice",data:=.fields #[a,c,.none]}}:=t.kept (t':=s3.toks) λb B q=>qw _ q;obtain⟨T,id,z,A,hg⟩:=f pins {s3 with heap:=s3.heap.push {cls:=.type "slice",data:=.fields #[a,c,.none]}} σ d x v a c l u s3.heap.objs.size Q y k (Heap.IsSliceOf.new ..) pl pu w;show wpAny (model X.prog X.w) X.A (subscriptTail e (.Slice lo hi none p2) v (.ref s3.heap.objs.size)) (EP X pins σ Q) X.xe {s3 with heap:=s3.heap.push {cls:=.type "slice",data:=.fields #[a,c,.none]}};exact tail_any (ops:=[.ref s3.heap.objs.size,v]) A z hg (by with_unfolding_all rfl)
def BS(xs:qa V)(lo hi:Option Int):qa V:=(xs.drop (HT.xC xs.length 0 lo)).take (HT.xC xs.length xs.length hi-HT.xC xs.length 0 lo)
def By(xs:qa V)(lo hi:Option Int):(BS xs lo hi).length<=xs.length:=by
 unfold BS;rw[q0,yq];omega
inductive Sa(K:Frag)(x:V)(lo:Option Int)(hi:Option Int)(H:Hp)(Q:VK):Prop
 |mk:∀a xs,x=.ref a->jW K H a xs->¬(HT.xC xs.length 0 lo=0/\HT.xC xs.length xs.length hi=xs.length)->(∀p,H p=none->Q (.ref p) (upd H p (.tup (BS xs lo hi))))->Sa K x lo hi H Q
def rSlT(K:Frag):V->Option Int->Option Int->Hp->VK->Prop:=λx lo hi H Q=>Sa K x lo hi H Q
def dW:SlR X (rSlT X.K):=by
 intro pins s σ H x v g i lo hi j Q I d e pl pu h;obtain⟨a,xs,rfl,f,hw,q⟩:=h;cases d;obtain⟨its,r,c,hz⟩:=I.tuple f;have hlen:its.toArray.size=xs.length:=by rw[qR];exact r.length.symm
 refine⟨"tuple",_,slot_tuple_getitem.lookup,c.typeIs,?_⟩;refine HT.mq c e pl pu (by rw[hlen];exact hw) ?_ (by rw[hlen];exact hz);rw[hlen];refine⟨.ref s.heap.objs.size,_,I.laid (t':=s.toks) (o:=.tup (BS xs lo hi)) (λb k q=>qw _ q) (qD _) ?_,U,q _ (I.hok.fresh (qD _))⟩;exact⟨zu (By xs lo hi) hz,_,(r.drop (HT.xC xs.length 0 lo)).take (HT.xC xs.length xs.length hi-HT.xC xs.length 0 lo),IsTup.new _ _⟩
end
def ixN(n:Nat)(i:Int):Option Nat:=if 0<=i then (if i<n then some i.toNat else none) else if -(n:Int)<=i then some (i+n).toNat else none
def nE{α:Type}(xs:qa α)(i:Int):Option α:=(ixN xs.length i).bind λj=>xs[j]?
def Ov{n:Nat}{i:Int}{j:Nat}(h:ixN n i=some j):seqIndex? i n=some j/\j<n/\-(n:Int)<=i/\i<n:=by
 unfold ixN at h;by_cases h0:0<=i
 .rw[qG h0] at h;by_cases a:i<n
  .rw[qG a] at h;have e:i.toNat=j:=qN h;exact⟨by rw[seqIndex_of h0 a,e],by omega,by omega,a⟩
  .rw[qA a] at h;cases h
 .rw[qA h0] at h;by_cases a : -(n:Int)<=i
  .rw[qG a] at h;have e:(i+n).toNat=j:=qN h;exact⟨by rw[seqIndex_neg (by omega) a,e],by omega,a,by omega⟩
  .rw[qA a] at h;cases h
def Ht{α:Type}{xs:qa α}{i:Int}{v:α}(h:nE xs i=some v):∃j,seqIndex? i xs.length=some j/\xs[j]?=some v/\j<xs.length/\-(xs.length:Int)<=i/\i<xs.length:=by
 unfold nE at h
 cases e:ixN xs.length i with
 |none=>rw[e] at h;cases h
 |some j=>
  rw[e] at h;obtain⟨a,b,c,d⟩:=Ov e;exact⟨j,a,h,b,c,d⟩
def QB{α:Type}{xs:qa α}{j:Nat}{v:α}(h:xs[j]?=some v):nE xs (j:Int)=some v:=by
 have a:j<xs.length:=(qW.mp h).1;have e:ixN xs.length (j:Int)=some j:=by
  unfold ixN;rw[qG (by omega),qG (by omega)];simp
 unfold nE;rw[e];exact h
def cB(b:Expr):Prop:=∀o i,subscripted b false o i=operate [o,i] (getItem o i)
def IxR(X:Cx)(r:R2):Prop:=
 ∀(value slice:Expr)(pins:qa (qc×Obj))(s:Shared)(σ:St)(H:Hp)(x y:V)(v u:qd)(Q:VK),Inv X pins σ H s->QN x v->QN y u->r x y H Q ->
  subscripted slice false v u=operate [v,u] (getItem v u)->wpAny (model X.prog X.w) X.A (subscriptTail value slice v u) (EP X pins σ Q) X.xe s
def MtR(X:Cx)(id:String)(r:V->qa V->Hp->VK->Prop):Prop:=
 ∀(pins:qa (qc×Obj))(s:Shared)(σ:St)(H:Hp)(x:V)(xs:qa V)(v:qd)(us:qg)(Q:VK),Inv X pins σ H s->QN x v->QK xs us->r x xs H Q ->
  wpAny (model X.prog X.w) X.A (call (.builtin id) (v::us)) (EP X pins σ Q) X.xe s
section
variable {X:Cx}{a b:Expr}{ta tb:TE}{pos:Pos}
def Qw{r:R2}(c:IxR X r)(d:PE X a ta)(e:PE X b tb)(f:cB b:=by exact λ_ _=>rfl):PE X (.Subscript a b pos) (tOp r ta tb):=by
 intro pins s σ H Q I h;exact Subscript_ (gb d e I h λv u s2 x y g i j k q=>c a b pins s2 σ g x y v u Q i j k q (f _ _))
inductive Sk(K:Frag)(x:V)(y:V)(H:Hp)(Q:VK):Prop
 |mk:∀p xs i v,x=.ref p->y=.int i->zN K H p xs->nE xs i=some v->Q v H->Sk K x y H Q
def g7(K:Frag):R2:=λx y H Q=>Sk K x y H Q
inductive Si(K:Frag)(x:V)(y:V)(H:Hp)(Q:VK):Prop
 |mk:∀p xs i v,x=.ref p->y=.int i->jW K H p xs->nE xs i=some v->Q v H->Si K x y H Q
def g6(K:Frag):R2:=λx y H Q=>Si K x y H Q
inductive Sj(x:V)(y:V)(H:Hp)(Q:VK):Prop
 |mk:∀z i c,x=.str z->y=.int i->z.length<=sizeLine->nE z.cps.toList i=some c->Q (.str ⟨#[c]⟩) H->Sj x y H Q
def rIxS:R2:=λx y H Q=>Sj x y H Q
def QX:IxR X (g7 X.K):=by
 intro value slice pins s σ H x y v u Q I f g h d;obtain⟨p,xs,i,z,rfl,rfl,k,he,q⟩:=h;cases f;obtain⟨t,rfl⟩:=g;obtain⟨its,r,pl,hz⟩:=I.list k;obtain⟨j,a,l,A,m,n⟩:=Ht he;obtain⟨w,e,b⟩:=r.get l;have o:=r.length;have B:=Gr;have fin:EP X pins σ Q w s:=⟨z,H,I,b,q⟩;by_cases h0:0<=i
 .have c:i.toNat=j:=by
   rw[seqIndex_of h0 n] at a;exact qN a
  exact item_listR pl.isList h0 (by omega) (by rw[c];simpa using e) fin d
 .have c:(i+(its.toArray.size:Int)).toNat=j:=by
   rw[seqIndex_neg (by omega) m] at a;rw[qR,<-o];exact qN a
  exact subscriptTail_builtinR (x:=w) pl.isList.typeIs slot_list_getitem.lookup
   (wpAny_getItem_list_neg (Q:=λr s'=>r=w/\EP X pins σ Q r s') pl.isList (by omega) (by rw[qR]<;>omega) (by omega) (by rw[c];simpa using e) ⟨U,fin⟩) d
def QP:IxR X (g6 X.K):=by
 intro value slice pins s σ H x y v u Q I b c h d;obtain⟨p,xs,i,z,rfl,rfl,e,he,q⟩:=h;cases b;obtain⟨t,rfl⟩:=c;obtain⟨its,r,pl,hz⟩:=I.tuple e;obtain⟨j,f,g,m,n,o⟩:=Ht he;obtain⟨w,k,a⟩:=r.get g;have l:=r.length;have A:=Gr;have fin:EP X pins σ Q w s:=⟨z,H,I,a,q⟩;exact subscriptTail_builtinR (x:=w) pl.typeIs slot_tuple_getitem.lookup
  (getItem_tuple (j:=j) (Q:=λr s'=>r=w/\EP X pins σ Q r s') pl (by omega) (by omega) (by rw[qR,<-l];exact f) (by simpa using k) ⟨U,fin⟩) d
def TN:IxR X rIxS:=by
 intro value slice pins s σ H x y v u Q I b d h e;obtain⟨z,i,c,rfl,rfl,hz,he,q⟩:=h;obtain⟨t,rfl⟩:=b;obtain⟨t',rfl⟩:=d;obtain⟨j,a,f,o,g,k⟩:=Ht he;have l:z.cps.toList.length=z.length:=by simp[Str.length]
 rw[l] at a g k;have p:=Gr;exact tail_any (oV s z t) slot_str_getitem.lookup (getItem_str (c:=c) (by
  have m:decide (i < -(2^63:Int))=false:=qF (by omega);have n:decide (i>=2^63)=false:=qF (by omega);rw[m,n,Bool.or_false]) (by rw[a];simpa using f) ⟨.str ⟨#[c]⟩,H,I.tok _,⟨_,U⟩,q⟩) e
def MK(its:qg)(n j:Nat)(u:qd):Obj.mapSeq (·.setIfInBounds j u) {cls:=.type "list",data:=.seq its.toArray n}={cls:=.type "list",data:=.seq (its.set j u).toArray n}:=by
 simp[Obj.mapSeq]
def Inv.lst{pins:qa (qc×Obj)}{σ:St}{H:Hp}{s:Shared}{p:qc}{xs:qa V}(I:Inv X pins σ H s)(h:H p=some (.lst xs)) :
 ∃(its:qg)(n:Nat),QK xs its/\s.heap.get? p=some {cls:=.type "list",data:=.seq its.toArray n}/\xs.length<=sizeLine:=by
 obtain⟨z,its,n,r,e⟩:=I.hok p _ h;exact⟨its,n,r,e,z⟩
def Inv.Qdt{pins:qa (qc×Obj)}{σ:St}{H:Hp}{s:Shared}{p:qc}{xs ys:qa V}{its its':qg}{n a:Nat}{f:Obj->Obj}(I:Inv X pins σ H s)(h:H p=some (.lst xs))
 (c:s.heap.get? p=some {cls:=.type "list",data:=.seq its.toArray n}) (hf:f {cls:=.type "list",data:=.seq its.toArray n}={cls:=.type "list",data:=.seq its'.toArray a}) (r:QK ys its') (hz:ys.length<=sizeLine) (t:Nat) :
 Inv X pins σ (upd H p (.lst ys)) {s with heap:=s.heap.update p f,toks:=t}:=by
 have e:(s.heap.update p f).get? p=some {cls:=.type "list",data:=.seq its'.toArray a}:=by
  rw[jo f c (by rw[hf]<;>rfl),hf]
 refine I.write (x:=p) (e:=p) (by rw[h];trivial) (.inl rfl) (λb u c q=>(yF _ _ (xJ c)).trans q) ⟨_,e⟩ ?_;exact⟨hz,its',a,r,e⟩
inductive N0(o:V)(i:V)(v:V)(H:Hp)(Q:(Hp->Prop)):Prop
 |mk:∀p xs k j,o=.ref p->i=.int k->H p=some (.lst xs)->ixN xs.length k=some j->Q (upd H p (.lst (xs.set j v)))->N0 o i v H Q
def g0:V->V->V->Hp->(Hp->Prop)->Prop:=λo i v H Q=>N0 o i v H Q
def W7:ir X g0:=by
 intro pins s σ H o i v z A u Q I m w x h;obtain⟨p,xs,k,j,rfl,rfl,e,y,q⟩:=h;cases m;obtain⟨t,rfl⟩:=w;obtain⟨its,n,r,b,hz⟩:=I.lst e;obtain⟨a,B,f,g⟩:=Ov y;have c:=r.length;have C:=Gr;have l:Inv X pins σ (upd H p (.lst (xs.set j v))) {s with heap:=s.heap.update p (Obj.mapSeq (·.setIfInBounds j u))}:=
  I.Qdt e b (MK its n j u) (r.set x j) (by rw[rR];exact hz) s.toks
 by_cases h0:0<=k
 .have d:k.toNat=j:=by
   rw[seqIndex_of h0 g] at a;exact qN a
  exact PySem.W.ki_setAt b h0 (by omega) (by rw[qR,<-c];exact g) (by rw[d];exact⟨_,l,q⟩)
 .have d:(k+(its.toArray.size:Int)).toNat=j:=by
   rw[seqIndex_neg (by omega) f] at a;rw[qR,<-c];exact qN a
  exact PySem.W.ki_setBack b (by omega) (by rw[qR,<-c];exact f) (by omega) (by rw[d];exact⟨_,l,q⟩)
def Fq(lo a:Option Int)(n:Nat):(sliceBounds lo a none n).1=((HT.xC n 0 lo:Nat):Int)/\(sliceBounds lo a none n).2.1=((HT.xC n n a:Nat):Int)/\(sliceBounds lo a none n).2.2=1:=by
 refine⟨?_,?_,U⟩
 .cases lo with
  |none=>simp[sliceBounds,HT.xC]
  |some i=>
   simp only[sliceBounds,HT.xC,Option.getD_none,show(1:Int) > 0 by decide,vw];by_cases h:i<0
   .simp only[h,vw]<;>omega
   .simp only[h,yB]<;>omega
 .cases a with
  |none=>simp[sliceBounds,HT.xC]
  |some i=>
   simp only[sliceBounds,HT.xC,Option.getD_none,show(1:Int) > 0 by decide,vw];by_cases h:i<0
   .simp only[h,vw]<;>omega
   .simp only[h,yB]<;>omega
def DO(its:qg)(lo a:Option Int):slicePick its.toArray lo a none=((its.drop (HT.xC its.length 0 lo)).take (HT.xC its.length its.length a-HT.xC its.length 0 lo)).toArray:=by
 obtain⟨b,c,d⟩:=Fq lo a its.toArray.size;unfold slicePick;rw[b,c,d];simp only[sliceRange_one,pick_run,qR]<;>rfl
inductive Sd(K:Frag)(x:V)(lo:Option Int)(hi:Option Int)(H:Hp)(Q:VK):Prop
 |mk:∀a xs,x=.ref a->zN K H a xs->(∀p,H p=none->Q (.ref p) (upd H p (.lst (BS xs lo hi))))->Sd K x lo hi H Q
def rSlL(K:Frag):V->Option Int->Option Int->Hp->VK->Prop:=λx lo a H Q=>Sd K x lo a H Q
def aW:SlR X (rSlL X.K):=by
 intro pins s σ H x v i j lo c k Q I e f pl pu h;obtain⟨a,xs,rfl,g,q⟩:=h;cases e;obtain⟨its,r,d,hz⟩:=I.list g;have hlen:=r.length;refine⟨"list",_,slot_list_getitem.lookup,d.isList.typeIs,?_⟩;refine wpAny_getItem_list_slice d.isList f pl pu .none (by simp) ?_ (by rw[qR]<;>omega);rw[DO,<-hlen];refine⟨.ref s.heap.objs.size,_,I.laid (t':=s.toks) (o:=.lst (BS xs lo c)) (λb l q=>qw _ q) (qD _) ?_,U,q _ (I.hok.fresh (qD _))⟩;exact⟨zu (By xs lo c) hz,_,0,(r.drop (HT.xC xs.length 0 lo)).take (HT.xC xs.length xs.length c-HT.xC xs.length 0 lo),qL _ rfl⟩
def Ge:V->Bool
 |.non=>true
 |.bl _=>true
 |.int _=>true
 |.str _=>true
 |_=>false
def eqV:V->V->Bool
 |.non,.non=>true
 |.bl a,.bl b=>a==b
 |.bl a,.int b=>(if a then 1 else 0)==b
 |.int a,.bl b=>a==(if b then 1 else 0)
 |.int a,.int b=>a==b
 |.str a,.str b=>a==b
 |_,_=>false
def fW{A:Around}{s:Shared}{y x:V}{u v:qd}(d:QN y u)(c:QN x v)(f:Ge y=true)(e:Ge x=true):SeqAt.EqAt A s u v (eqV y x):=by
 cases y with
 |non=>
  cases d
  cases x with
  |non=>cases c;exact SeqAt.EqAt.same _
  |bl b=>cases c;exact SeqAt.EqAt.none_bool b
  |int b=>obtain⟨t,rfl⟩:=c;exact SeqAt.EqAt.none_int b t
  |str b=>obtain⟨t,rfl⟩:=c;exact SeqAt.EqAt.none_str b t
  |_=>exact absurd (show false=true from e) qI
 |bl a=>
  cases d
  cases x with
  |non=>cases c;exact SeqAt.EqAt.bool_none a
  |bl b=>cases c;exact SeqAt.EqAt.bool_bool a b
  |int b=>obtain⟨t,rfl⟩:=c;exact SeqAt.EqAt.bool_int a b t
  |str b=>obtain⟨t,rfl⟩:=c;exact SeqAt.EqAt.bool_str a b t
  |_=>exact absurd (show false=true from e) qI
 |int a=>
  obtain⟨t',rfl⟩:=d
  cases x with
  |non=>cases c;exact SeqAt.EqAt.int_none a t'
  |bl b=>cases c;exact SeqAt.EqAt.int_bool a t' b
  |int b=>obtain⟨t,rfl⟩:=c;exact SeqAt.EqAt.int_int a t' b t
  |str b=>obtain⟨t,rfl⟩:=c;exact SeqAt.EqAt.int_str a t' b t
  |_=>exact absurd (show false=true from e) qI
 |str a=>
  obtain⟨t',rfl⟩:=d
  cases x with
  |non=>cases c;exact SeqAt.EqAt.str_none a t'
  |bl b=>cases c;exact SeqAt.EqAt.str_bool a t' b
  |int b=>obtain⟨t,rfl⟩:=c;exact SeqAt.EqAt.str_int a t' b t
  |str b=>obtain⟨t,rfl⟩:=c;exact SeqAt.EqAt.str_str a t' b t
  |_=>exact absurd (show false=true from e) qI
 |_=>exact absurd (show false=true from f) qI
def eqU(x:V)(u:qd):Bool:=match u with
 |.none=>eqV .non x
 |.bool b=>eqV (.bl b) x
 |.int i _=>eqV (.int i) x
 |.str z _=>eqV (.str z) x
 |_=>false
def aj{x y:V}{u:qd}(r:QN y u)(f:Ge y=true):eqU x u=eqV y x:=by
 cases y with
 |non=>cases r;rfl
 |bl b=>cases r;rfl
 |int i=>obtain⟨t,rfl⟩:=r;rfl
 |str z=>obtain⟨t,rfl⟩:=r;rfl
 |_=>exact absurd (show false=true from f) qI
def An{x:V}:∀{xs:qa V}{us:qg},QK xs us->xs.all Ge=true->us.any (eqU x)=xs.any λy=>eqV y x
 |_,_,.nil,_=>rfl
 |y::xs,u::us,.cons r t,f=>by
  rw[List.all_cons,jb] at f;rw[kK,kK,aj r f.1,An t f.2]
def Kf{A:Around}{s:Shared}{x:V}{v:qd}(b:QN x v)(c:Ge x=true):∀{xs:qa V}{us:qg},QK xs us->xs.all Ge=true->∀u∈us,SeqAt.EqAt A s u v (eqU x u)
 |_,_,.nil,_=>λu a=>by cases a
 |y::xs,u::us,.cons r t,f=>λd a=>by
  rw[List.all_cons,jb] at f;rcases qK.mp a with rfl|a
  .rw[aj r f.1];exact fW r b f.1 c
  .exact Kf b c t f.2 d a
def inV(x:V)(xs:qa V):Bool:=xs.any λy=>eqV y x
inductive cO(K:Frag)(neg:Bool)(x:V)(y:V)(H:Hp)(Q:VK):Prop
 |mk:∀p xs,y=.ref p->(zN K H p xs\/jW K H p xs)->Ge x=true->xs.all Ge=true->Q (.bl (if neg then !inV x xs else inV x xs)) H->cO K neg x y H Q
def rIn(K:Frag)(neg:Bool):R2:=λx y H Q=>cO K neg x y H Q
def Ph:uz X (compareOp .In) (rIn X.K false):=by
 intro pins s σ H x y v u Q I b d h;obtain⟨p,xs,rfl,a,c,fs,q⟩:=h;cases d;rcases a with a|a
 .obtain⟨its,r,pl,hz⟩:=I.list a;refine SeqAt.in_listAt (eqU x) pl.isList (λw hw=>Kf b c r fs w (by simpa using hw)) ⟨.bl _,H,I,U,?_⟩;rw[show its.toArray.any (eqU x)=its.any (eqU x) by simp,An r fs];exact q
 .obtain⟨its,r,pl,hz⟩:=I.tuple a;refine SeqAt.in_tupleAt (eqU x) pl (λw hw=>Kf b c r fs w (by simpa using hw)) ⟨.bl _,H,I,U,?_⟩;rw[show its.toArray.any (eqU x)=its.any (eqU x) by simp,An r fs];exact q
def Xz:uz X (compareOp .NotIn) (rIn X.K true):=by
 intro pins s σ H x y v u Q I b d h;obtain⟨p,xs,rfl,a,c,fs,q⟩:=h;cases d;rcases a with a|a
 .obtain⟨its,r,pl,hz⟩:=I.list a;refine SeqAt.notIn_listAt (eqU x) pl.isList (λw hw=>Kf b c r fs w (by simpa using hw)) ⟨.bl _,H,I,U,?_⟩;rw[show its.toArray.any (eqU x)=its.any (eqU x) by simp,An r fs];exact q
 .obtain⟨its,r,pl,hz⟩:=I.tuple a;refine SeqAt.notIn_tupleAt (eqU x) pl (λw hw=>Kf b c r fs w (by simpa using hw)) ⟨.bl _,H,I,U,?_⟩;rw[show its.toArray.any (eqU x)=its.any (eqU x) by simp,An r fs];exact q
def Ym:VY X (.builtin "len") (λxs H Q=>∃p ys,xs=[.ref p]/\(zN X.K H p ys\/jW X.K H p ys)/\Q (.int ys.length) H):=by
 intro pins s σ H xs us Q I r h;obtain⟨p,ys,rfl,a,q⟩:=h;obtain⟨u,rfl,c⟩:=V3 r;cases c;have d:=Gr;rcases a with a|a
 .obtain⟨its,b,pl,hz⟩:=I.list a;have hlen:=b.length;exact Calls.call_len_list pl.isList (by simp only[qR]<;>omega) ⟨.int ys.length,H,I.tok _,⟨s.toks+1,by rw[qR,hlen]⟩,q⟩
 .obtain⟨its,b,pl,hz⟩:=I.tuple a;have hlen:=b.length;exact len_tuple pl (by simp only[qR]<;>omega) ⟨.int ys.length,H,I.tok _,⟨s.toks+1,by rw[qR,hlen]⟩,q⟩
def Wi:VY X (.builtin "len") (λxs H Q=>∃z,xs=[.str z]/\z.length<=sizeLine/\Q (.int z.length) H):=by
 intro pins s σ H xs us Q I r h;obtain⟨z,rfl,hz,q⟩:=h;obtain⟨u,rfl,t,rfl⟩:=V3 r;have a:=Gr;exact len_str (by omega) ⟨.int z.length,H,I.tok _,⟨_,U⟩,q⟩
def tyV(K:Frag)(T:String)(x:V)(H:Hp):Prop:=match x with
 |.str _=>T="str"
 |.int _=>T="int"
 |.ref p=>(T="list"/\∃xs,zN K H p xs)\/(T="tuple"/\∃o,K.lookup p=some o/\o.cls=.type "tuple"/\o.dict=none) \/
   (T="dict"/\((∃a,H p=some (.dK a))\/∃a,H p=some (.dT a)))\/(T="set"/\∃S n,H p=some (.set S n))
 |_=>False
def RE{pins:qa (qc×Obj)}{σ:St}{H:Hp}{s:Shared}{T:String}{x:V}{v:qd}(I:Inv X pins σ H s)(r:QN x v)(ty:tyV X.K T x H) :
 s.TypeIs v T/\∀a,v=.ref a->∃b,s.heap.get? a=some b/\b.dict=none:=by
 cases x with
 |str z=>
  obtain⟨t,rfl⟩:=r;cases (show T="str" from ty);exact⟨oV s z t,λ_ e=>nomatch e⟩
 |int i=>
  obtain⟨t,rfl⟩:=r;cases (show T="int" from ty);exact⟨typeIs_int s i t,λ_ e=>nomatch e⟩
 |ref p=>
  cases r;rcases ty with⟨rfl,xs,f⟩|⟨rfl,o,b,hc,hd⟩|⟨rfl,b⟩|⟨rfl,S,n,b⟩
  .obtain⟨its,_,pl,_⟩:=I.list f;refine⟨pl.isList.typeIs,λa e=>?_⟩;cases e;obtain⟨o,n,e,c,hd,_⟩:=pl;exact⟨o,e,hd⟩
  .refine⟨⟨o,I.oA p o b,hc⟩,λa e=>?_⟩;cases e;exact⟨o,I.oA _ o b,hd⟩
  .have z:∃o,s.heap.get? p=some o/\o.ExactDict:=by
    rcases b with⟨d,b⟩|⟨d,b⟩
    .obtain⟨_,_,_,_,o,_,_,e,ex,_⟩:=I.hok p _ b;exact⟨o,e,ex⟩
    .obtain⟨_,_,_,_,o,_,_,e,ex,_⟩:=I.hok p _ b;exact⟨o,e,ex⟩
   obtain⟨o,e,ex⟩:=z;refine⟨⟨o,e,ex.1⟩,λa d=>?_⟩;cases d;exact⟨o,e,ex.2.1⟩
  .obtain⟨o,_,_,_,e,ex,_⟩:=I.hok p _ b;refine⟨⟨o,e,ex.1⟩,λa d=>?_⟩;cases d;exact⟨o,e,ex.2.1⟩
 |_=>exact False.elim ty
def gR(K:Frag)(T:String)(r:V->qa V->Hp->VK->Prop)(to:TE):TE:=λσ H Q=>to σ H λx H1=>tyV K T x H1/\r x [] H1 Q
def tBM(K:Frag)(T:String)(r:V->qa V->Hp->VK->Prop)(to:TE)(t:TA):TE:=λσ H Q=>to σ H λx H1=>tyV K T x H1/\t σ H1 λxs a=>r x xs a Q
variable {o e:Expr}{es:qa Expr}{to:TE}{t:TA}{name:qb}{apos cpos:Pos}{T id:String}{r:V->qa V->Hp->VK->Prop}
def CS(f:PlainAttrs T)(slot:Slot T name id)(c:typeOf (.builtin id)=pure (.type "method_descriptor"))(hm:MtR X id r)(g:PE X o to)
 (a:attributeBase o name X.env (eval o X.env)=eval o X.env:=by rfl) (b:(apos.endLine==cpos.line)=true:=by rfl):PE X (.Call (.Attribute o name apos) [] [] cpos) (gR X.K T r to):=by
 intro pins s σ H Q I h;refine wpAny_Call_method0_late a b (jE (g pins s σ H _ I h) λv s1 ⟨x,H1,d,e,ty,i⟩=>?_);obtain⟨j,k⟩:=RE d e ty;exact⟨T,id,f,slot,c,j,k,yG rfl (PySem.evalArgs_none (hm pins s1 σ H1 x [] v [] Q d e .nil i))⟩
def V5(j:PlainAttrs T)(slot:Slot T name id)(d:typeOf (.builtin id)=pure (.type "method_descriptor"))(hm:MtR X id r)(k:PE X o to)(l:PA X (e::es) t)
 (a:attributeBase o name X.env (eval o X.env)=eval o X.env:=by rfl)
 (c:((backTo cpos (starEach (e::es) X.env)).all (λx=>!x.1)&&(backToKw cpos (keywordEach [] X.env)).all (λx=>x.1.isSome)
   &&decide ((e::es).length+([]:qa Keyword).length+(if ([]:qa Keyword).isEmpty then 0 else 1)<30))=true:=by rfl)
 (b:(apos.endLine==cpos.line)=true:=by rfl) (m:starEach (e::es) X.env=(false,eval e X.env)::starEach es X.env:=by rfl) (hplain:(backTo cpos (starEach es X.env)).any (·.1)=false:=by rfl) :
 PE X (.Call (.Attribute o name apos) (e::es) [] cpos) (tBM X.K T r to t):=by
 intro pins s σ H Q I h;refine wpAny_Call_method_late a c b rfl (jE (k pins s σ H _ I h) λv s1 ⟨x,H1,f,g,ty,n⟩=>?_);obtain⟨p,q⟩:=RE f g ty;refine⟨T,id,j,slot,d,p,q,?_⟩;have i:=l cpos pins s1 σ H1 _ f n;rw[m] at i⊢;refine yG (by show(false||(backTo cpos (starEach es X.env)).any (·.1))=false;rw[hplain]<;>rfl) (vR ?_);exact jE i λus s2 ⟨vs,u,w,y,z⟩=>hm pins s2 σ u x vs v us Q w g y z
end
def MtM(X:Cx)(id:String)(r:V->qa V->Hp->VK->Prop):Prop:=
 ∀(pins:qa (qc×Obj))(s:Shared)(σ:St)(H:Hp)(x:V)(xs:qa V)(v:qd)(us:qg)(Q:VK),Inv X pins σ H s->QN x v->QK xs us->r x xs H Q ->
  wpAny (model X.prog X.w) X.A (call (.builtin id) (v::us)) (EP X pins σ Q) X.xe s
def QK.one:∀{x:V}{us:qg},QK [x] us->∃u,us=[u]/\QN x u
 |_,_,.cons r .nil=>⟨_,U,r⟩
def QK.two:∀{x y:V}{us:qg},QK [x,y] us->∃u v,us=[u,v]/\QN x u/\QN y v
 |_,_,_,.cons r (.cons q .nil)=>⟨_,_,U,r,q⟩
def QK.zero:∀{us:qg},QK [] us->us=[]
 |_,.nil=>rfl
def QK.dropLast{xs:qa V}{us:qg}(h:QK xs us):QK xs.dropLast us.dropLast:=by
 induction h with
 |nil=>exact .nil
 |cons r t a=>
  cases t with
  |nil=>exact .nil
  |cons q t'=>exact .cons r a
def QK.eraseIdx:∀{xs:qa V}{us:qg}(i:Nat),QK xs us->QK (xs.eraseIdx i) (us.eraseIdx i)
 |_,_,_,.nil=>.nil
 |_,_,0,.cons _ t=>t
 |_,_,i+1,.cons r t=>.cons r (QK.eraseIdx i t)
def QK.reverse{xs:qa V}{us:qg}(h:QK xs us):QK xs.reverse us.reverse:=by
 induction h with
 |nil=>exact .nil
 |cons r t a=>rw[List.reverse_cons,List.reverse_cons];exact QK.append a (.cons r .nil)
def QK.rep{xs:qa V}{us:qg}(h:QK xs us):∀k:Nat,QK (List.replicate k xs).flatten (List.replicate k us).flatten
 |0=>.nil
 |k+1=>by
  rw[yf,yf,j9,j9];exact QK.append h (QK.rep h k)
def M3{α:Type}(l:qa α):l.eraseIdx (l.length-1)=l.dropLast:=by
 induction l with
 |nil=>rfl
 |cons a r c=>
  cases r with
  |nil=>rfl
  |cons b r=>
   have e:(a::b::r).length-1=((b::r).length-1)+1:=by
    have d:(a::b::r).length=r.length+2:=rfl;have f:(b::r).length=r.length+1:=rfl;omega
   rw[e,List.eraseIdx_cons_succ,c]
   all_goals rfl
def ER{α:Type}:∀(l:qa α)(i:Nat),(l.eraseIdx i).length<=l.length
 |[],_=>qD _
 |_::_,0=>ox _
 |_::r,i+1=>Nat.succ_le_succ (ER r i)
def E4(its:qg):∀(k:Nat)(acc:qg),
 List.foldl (λa b=>a++b) acc.toArray (List.replicate k its.toArray)=(acc++(List.replicate k its).flatten).toArray
 |0,acc=>by simp
 |k+1,acc=>by
  have e:acc.toArray++its.toArray=(acc++its).toArray:=by simp
  have a:(acc++its)++(List.replicate k its).flatten=acc++(List.replicate (k+1) its).flatten:=by
   rw[yf,j9,yO]
  rw[<-a,<-E4 its k (acc++its),<-e,yf,zy]
section
variable {X:Cx}{pins:qa (qc×Obj)}{σ:St}{H:Hp}{s:Shared}{l b:qc}{xs ys zs:qa V}
def Inv.QcG{its its':qg}{n:Nat}{f:Array qd->Array qd}{t':Nat}(I:Inv X pins σ H s)(a:H l=some (.lst xs))
 (e:s.heap.get? l=some {cls:=.type "list",data:=.seq its.toArray n}) (hf:f its.toArray=its'.toArray) (b:QK ys its') (hz:ys.length<=sizeLine) :
 Inv X pins σ (upd H l (.lst ys)) {s with heap:=s.heap.update l (Obj.mapSeq f),toks:=t'}:=by
 have q:=PySem.IsL.update e f;rw[hf] at q;refine I.write (x:=l) (e:=l) (by rw[a];exact trivial) (.inl rfl) (λg u c d=>(yF s.heap (Obj.mapSeq f) (xJ c)).trans d) ⟨_,q⟩ ?_;exact⟨hz,its',_,b,q⟩
def Inv.Qbq{its:qg}{t':Nat}(I:Inv X pins σ H s)(a:QK ys its)(hz:ys.length<=sizeLine) :
 Inv X pins σ (upd H s.heap.objs.size (.lst ys)) {s with heap:=s.heap.push {cls:=.type "list",data:=.seq its.toArray},toks:=t'}:=
 I.laid (λ_ _ q=>qw _ q) (qD _) ⟨hz,its,0,a,qL _ rfl⟩
def Inv.fresh(I:Inv X pins σ H s):H s.heap.objs.size=none:=I.hok.fresh (qD _)
def Inv.QaM(I:Inv X pins σ H s)(a:H l=some (.lst xs)):xs.length<=sizeLine/\∃(its:qg)(n:Nat),QK xs its/\xs.length=its.length/\s.heap.get? l=some {cls:=.type "list",data:=.seq its.toArray n}:=by
 obtain⟨z,its,n,r,e⟩:=I.hok l _ a;exact⟨z,its,n,r,r.length,e⟩
def Te{n:Nat}(h:n<=sizeLine):Builtin.List.listTooLong n=false:=by
 unfold Builtin.List.listTooLong;exact qF (by omega)
end
section
variable {X:Cx}
inductive Ez(x:V)(vs:qa V)(H:Hp)(Q:VK):Prop
 |mk:∀l xs y,x=.ref l->vs=[y]->H l=some (.lst xs)->xs.length<sizeLine->Q .non (upd H l (.lst (xs++[y])))->Ez x vs H Q
def bt:V->qa V->Hp->VK->Prop:=λx vs H Q=>Ez x vs H Q
def Uj:MtM X "list.append" bt:=by
 intro pins s σ H x vs v us Q I b c h;obtain⟨l,xs,y,rfl,rfl,a,hz,q⟩:=h;cases b;obtain⟨u,rfl,d⟩:=c.one;obtain⟨z,its,n,r,f,e⟩:=I.QaM a;refine vS F.slot_list_append ⟨_,e,U⟩ F.entry_list_append (F.args_list_append_2 _ _) (PySem.list_append l its.toArray n u (by rw[qR];omega)) ⟨e,?_⟩;refine⟨.non,_,I.QcG (its':=its++[u]) a e (by simp) (r.append (.cons d .nil)) ?_,U,q⟩;rw[qz,qS];omega
inductive Sg(x:V)(vs:qa V)(H:Hp)(Q:VK):Prop
 |mk:∀l xs y,x=.ref l->vs=[]->H l=some (.lst xs)->xs[xs.length-1]?=some y->Q y (upd H l (.lst xs.dropLast))->Sg x vs H Q
def rPop:V->qa V->Hp->VK->Prop:=λx vs H Q=>Sg x vs H Q
def fG:MtM X "list.pop" rPop:=by
 intro pins s σ H x vs v us Q I d f h;obtain⟨l,xs,y,rfl,rfl,c,g,q⟩:=h;cases d;have a:=f.zero;subst a;obtain⟨z,its,n,r,i,e⟩:=I.QaM c;obtain⟨u,j,k⟩:=r.get g;have b:its.toArray[its.toArray.size-1]?=some u:=by
  show its.toArray[its.length-1]?=some u;rw[<-zt,<-i];exact j
 refine vS F.slot_list_pop ⟨_,e,U⟩ F.entry_list_pop (F.args_list_pop_1 _) (MeetsSeq.list_pop_last l its.toArray n u b (by rw[qR];omega)) ⟨e,?_⟩;refine⟨y,_,I.QcG (its':=its.dropLast) c e ?_ r.dropLast ?_,k,q⟩
 .show its.toArray.eraseIdxIfInBounds (its.toArray.size-1)=its.dropLast.toArray;rw[qR,List.eraseIdxIfInBounds_toArray,M3]
 .rw[List.length_dropLast];omega
inductive IA(x:V)(vs:qa V)(H:Hp)(Q:VK):Prop
 |mk:∀l xs i k y,x=.ref l->vs=[.int i]->H l=some (.lst xs)->-(2^63)<=i->i<2^63->seqIndex? i xs.length=some k->xs[k]?=some y->Q y (upd H l (.lst (xs.eraseIdx k)))->IA x vs H Q
def ea:V->qa V->Hp->VK->Prop:=λx vs H Q=>IA x vs H Q
def Lb:MtM X "list.pop" ea:=by
 intro pins s σ H x vs v us Q I c d h;obtain⟨l,xs,i,k,y,rfl,rfl,b,f,g,j,m,q⟩:=h;cases c;obtain⟨u,rfl,o⟩:=d.one;obtain⟨t,rfl⟩:=o;obtain⟨z,its,n,r,p,e⟩:=I.QaM b;obtain⟨w,hw,a⟩:=r.get m;refine vS F.slot_list_pop ⟨_,e,U⟩ F.entry_list_pop (F.args_list_pop_2 _ _)
  (MeetsSeq.list_pop_at l its.toArray n i t k w (fitsIndex_both f g) (by rw[qR,<-p];exact j) (by rw[<-zt];exact hw) (by rw[qR];omega)) ⟨e,?_⟩
 refine⟨y,_,I.QcG (its':=its.eraseIdx k) b e ?_ (r.eraseIdx k) ?_,a,q⟩
 .show its.toArray.eraseIdxIfInBounds k=(its.eraseIdx k).toArray;rw[List.eraseIdxIfInBounds_toArray]
 .have:=ER xs k;omega
inductive Sm(x:V)(y:V)(H:Hp)(Q:VK):Prop
 |mk:∀l b xs zs,x=.ref l->y=.ref b->H l=some (.lst xs)->H b=some (.lst zs)->xs.length+zs.length<=sizeLine->(∀p,H p=none->Q (.ref p) (upd H p (.lst (xs++zs))))->Sm x y H Q
def rCat:R2:=λx y H Q=>Sm x y H Q
def fk:uz X (binaryOp .Add) rCat:=by
 intro pins s σ H x y v u Q I c d h;obtain⟨l,b,xs,zs,rfl,rfl,f,g,hz,q⟩:=h;cases c;cases d;obtain⟨z,its,n,r,o,e⟩:=I.QaM f;obtain⟨p,a,t,i,j,k⟩:=I.QaM g;refine PySem.P.add_list e k ?_ (by rw[qR,qR];omega);have m:its.toArray++a.toArray=(its++a).toArray:=by simp
 rw[m];exact⟨.ref _,_,I.Qbq (t':=s.toks) (r.append i) (by rw[qz];omega),U,q _ I.fresh⟩
inductive Sf(x:V)(y:V)(H:Hp)(Q:VK):Prop
 |mk:∀l k xs,x=.ref l->y=.int k->H l=some (.lst xs)->-(2^63)<=k->k<2^63->xs.length*k.toNat<=sizeLine->(∀p,H p=none->Q (.ref p) (upd H p (.lst (List.replicate k.toNat xs).flatten)))->Sf x y H Q
def rRep:R2:=λx y H Q=>Sf x y H Q
def bT{α:Type}(xs:qa α)(k:Nat):(List.replicate k xs).flatten.length=k*xs.length:=by
 induction k with
 |zero=>simp
 |succ k a=>rw[yf,j9,qz,a,Nat.succ_mul,Nat.add_comm]
def fc:uz X (binaryOp .Mult) rRep:=by
 intro pins s σ H x y v u Q I j o h;obtain⟨l,k,xs,rfl,rfl,p,w,A,hz,q⟩:=h;cases j;obtain⟨t,rfl⟩:=o;obtain⟨z,its,n,r,B,e⟩:=I.QaM p;have hlen:its.toArray.size*k.toNat<=sizeLine:=by rw[qR,<-B];exact hz
 have c:¬its.toArray.size*k.toNat > (2^63-1) / 8:=by
  have:(sizeLine:Nat)<=(2^63-1) / 8:=by decide
  omega
 have d:¬(!Builtin.List.listFitsIndex k)=true:=by
  rw[fitsIndex_both w A];exact qI
 have b:¬Builtin.List.listTooLong (its.toArray.size*k.toNat)=true:=by
  rw[Te hlen];exact qI
 have f:List.foldl (λg i=>g++i) #[] (List.replicate (if its.toArray.isEmpty=true then 0 else k.toNat) its.toArray)=(List.replicate k.toNat its).flatten.toArray:=by
  have f0:∀m:Nat,List.foldl (λg i=>g++i) #[] (List.replicate m its.toArray)=(List.replicate m its).flatten.toArray:=λm=>by
   have:=E4 its m [];rw[List.nil_append] at this;exact this
  rw[f0]
  cases its with
  |nil=>simp
  |cons a C=>rw[qA (by simp)]
 refine wpAny_binaryOp_repeat_ref (T:="list") (U:="int") (by decide) ⟨_,e,U⟩ (λs'=>typeIs_int s' k t) noFill_list_mul F.fills_int_mul F.slot_int_rmul repeat_list F.slot_int_index.lookup
  (vS F.slot_int_rmul (typeIs_int s k t) F.entry_int_rmul (F.args_int_rmul_2 _ _) (int___rmul___int_list k t l its.toArray n)
    ⟨e,U,⟨_,e,U⟩,vS F.slot_list_mul ⟨_,e,U⟩ F.entry_list_mul (F.args_list_mul_2 _ _) (AutoListH.list___mul___list_int_3 l its.toArray n k t d c b) ⟨e,?_⟩⟩)
 rw[f];exact⟨.ref _,_,I.Qbq (t':=s.toks) (r.rep k.toNat) (by rw[bT,Nat.mul_comm];exact hz),U,q _ I.fresh⟩
end
section
variable {prog:Program}{w:World}{A:Around}{E:qf}{s:Shared}
end
section
variable {X:Cx}
end
section
variable {κ:Type}[DecidableEq κ]
def Qv(a:qa (κ×V))(k:κ):Option V:=(a.find? λb=>decide (b.1=k)).map (·.2)
def Ye(a:qa (κ×V))(k:κ)(v:V):qa (κ×V):=
 if (a.any λb=>decide (b.1=k))=true then a.map (λb=>if b.1=k then (b.1,v) else b) else a++[(k,v)]
def Uy(a:qa (κ×V))(k:κ):qa (κ×V):=a.filter λb=>decide (b.1≠k)
def YA{p:κ×V}{r:qa (κ×V)}{k:κ}(e:p.1=k):Qv (p::r) k=some p.2:=by simp[Qv,ya,e]
def Yx{p:κ×V}{r:qa (κ×V)}{k:κ}(e:¬p.1=k):Qv (p::r) k=Qv r k:=by simp[Qv,ya,e]
def UO(k:κ):∀a:qa (κ×V),(a.any λb=>decide (b.1=k))=(Qv a k).isSome
 |[]=>rfl
 |p::r=>by
  rw[kK];by_cases e:p.1=k
  .simp only[YA e,qu e,Bool.true_or,Option.isSome_some]
  .rw[Yx e,qF e,Bool.false_or];exact UO k r
def HA(k j:κ)(y:V):∀a:qa (κ×V),Qv (a.map λb=>if b.1=k then (b.1,y) else b) j=(Qv a j).map λx=>if j=k then y else x
 |[]=>rfl
 |p::r=>by
  have c:=HA k j y r;rw[qU];by_cases h:p.1=k
  .rw[qG h];by_cases e:p.1=j
   .rw[YA (p:=(p.1,y)) e,YA e,rT,qG (e.symm.trans h)]
   .rw[Yx (p:=(p.1,y)) e,Yx e,c]
  .rw[qA h];by_cases e:p.1=j
   .rw[YA (p:=p) e,YA e,rT,qA (λz=>h (e.trans z))]
   .rw[Yx (p:=p) e,Yx e,c]
def As(k j:κ)(y:V):∀a:qa (κ×V),Qv a k=none->Qv (a++[(k,y)]) j=if j=k then some y else Qv a j
 |[],_=>by
  by_cases e:k=j
  .rw[qG e.symm];exact YA (p:=(k,y)) e
  .rw[qA (λz=>e z.symm)];exact Yx (p:=(k,y)) e
 |p::r,b=>by
  rw[List.cons_append];have c:¬p.1=k:=λz=>by rw[YA z] at b;cases b
  rw[Yx c] at b;have d:=As k j y r b;by_cases e:p.1=j
  .rw[YA e,YA e,qA (λz=>c (e.trans z))]
  .rw[Yx e,Yx e,d]
def Cd(b:qa (κ×V))(k j:κ)(y:V):Qv (Ye b k y) j=if j=k then some y else Qv b j:=by
 unfold Ye;by_cases a:(b.any λc=>decide (c.1=k))=true
 .rw[qG a,HA];rw[UO] at a;by_cases e:j=k
  .obtain⟨x,d⟩:=Option.isSome_iff_exists.mp a;rw[qG e,e,d,rT,qG rfl]
  .rw[qA e]
   cases Qv b j with
   |none=>rfl
   |some x=>rw[rT,qA e]
 .rw[qA a];refine As k j y b ?_;rw[UO] at a
  cases q:Qv b k with
  |none=>rfl
  |some x=>rw[q] at a;exact(a rfl).elim
def VR(a:qa (κ×V))(k:κ)(v:V):(Ye a k v).length<=a.length+1:=by
 unfold Ye;split
 .rw[qh];omega
 .rw[qz,qX,jZ];omega
def X6{a:qa (κ×V)}{k:κ}(v:V)(h:Qv a k=none):Ye a k v=a++[(k,v)]:=by
 unfold Ye;rw[UO,h];exact qA (by decide)
def WJ.wV{o:Option V}{u:Option qd}(r:WJ o u):o.isSome=u.isSome:=by
 cases o with
 |none=>cases u with
  |none=>rfl
  |some _=>exact(show False from r).elim
 |some _=>cases u with
  |none=>exact(show False from r).elim
  |some _=>rfl
def WJ.getD{o:Option V}{u:Option qd}{d:V}{d':qd}(r:WJ o u)(a:QN d d'):QN (o.getD d) (u.getD d'):=by
 cases o with
 |none=>cases u with
  |none=>exact a
  |some _=>exact(show False from r).elim
 |some _=>cases u with
  |none=>exact(show False from r).elim
  |some _=>exact r
def KV.val{a:qa (κ×V)}{vs:qa (κ×qd)}(r:KV a vs)(k:κ):WJ (Qv a k) (valueAt vs k):=by
 unfold KV at r
 induction r with
 |nil=>exact True.intro
 |@cons p q ps qs h t f=>
  obtain⟨d,g⟩:=h;by_cases e:p.1=k
  .have c:q.1=k:=d.symm.trans e;have b:valueAt (q::qs) k=some q.2:=by simp[valueAt,ya,c]
   rw[YA e,b];exact g
  .have c:¬q.1=k:=λz=>e (d.trans z);have b:valueAt (q::qs) k=valueAt qs k:=by simp[valueAt,ya,c]
   rw[Yx e,b];exact f
def KV.any{a:qa (κ×V)}{vs:qa (κ×qd)}(r:KV a vs)(k:κ):(a.any λb=>decide (b.1=k))=vs.any λb=>decide (b.1=k):=by
 unfold KV at r
 induction r with
 |nil=>rfl
 |cons h t c=>rw[kK,kK,c,h.1]
def KV.repl{b:qa (κ×V)}{vs:qa (κ×qd)}(r:KV b vs)(k:κ){y:V}{u:qd}(c:QN y u) :
 KV (b.map λa=>if a.1=k then (a.1,y) else a) (vs.map λa=>if a.1=k then (a.1,u) else a):=by
 unfold KV at r⊢
 induction r with
 |nil=>exact .nil
 |@cons p q ps qs h t d=>
  rw[qU,qU];refine .cons ?_ d;obtain⟨a,f⟩:=h;by_cases e:p.1=k
  .rw[qG e,qG (a.symm.trans e)];exact⟨a,c⟩
  .rw[qA e,qA (λz=>e (a.trans z))];exact⟨a,f⟩
def KV.put{a:qa (κ×V)}{vs:qa (κ×qd)}(r:KV a vs)(k:κ){y:V}{u:qd}(b:QN y u):KV (Ye a k y) (stored vs k u):=by
 unfold Ye stored;rw[r.any k];by_cases e:(vs.any λc=>decide (c.1=k))=true
 .rw[qG e,qG e];exact r.repl k b
 .rw[qA e,qA e];exact Paired.snoc r ⟨U,b⟩
def KV.drop{c:qa (κ×V)}{vs:qa (κ×qd)}(r:KV c vs)(k:κ):KV (Uy c k) (without vs k):=by
 unfold KV at r⊢;unfold Uy without
 induction r with
 |nil=>exact .nil
 |@cons p q ps qs h t f=>
  obtain⟨d,g⟩:=h;rw[qO,qO];by_cases e:p.1=k
  .have a:¬decide (p.1≠k)=true:=by simp[e]
   have b:¬decide (q.1≠k)=true:=by simp[d.symm.trans e]
   rw[qA a,qA b];exact f
  .have i:¬q.1=k:=λz=>e (d.trans z);have a:decide (p.1≠k)=true:=by simp[e]
   have b:decide (q.1≠k)=true:=by simp[i]
   rw[qG a,qG b];exact .cons ⟨d,g⟩ f
def KV.length{a:qa (κ×V)}{vs:qa (κ×qd)}(r:KV a vs):a.length=vs.length:=Paired.length r
def aq(a:qa (κ×V))(k:κ):(Uy a k).length<=a.length:=qY _ _
end
def Gd{P:Program}{w:World}{k:Key}{u:qd}(r:QN (kV k) u):(Yd P w).is k u=true:=by
 cases k with
 |inl i=>obtain⟨t,e⟩:=(show ∃t,u=Value.int i t from r);subst e;exact Le P w i t
 |inr x=>obtain⟨t,e⟩:=(show ∃t,u=Value.str x t from r);subst e;exact Ld P w x t
def EX{P:Program}{w:World}:∀{ks:qa Key}{us:qg},QK (ks.map kV) us->ItemsAre (Yd P w) ks us
 |[],_,r=>by rw[List.map_nil] at r;cases r;exact .nil
 |k::ks,_,r=>by
  rw[qU] at r
  cases r with
  |cons h t=>exact .cons (Gd h) (EX t)
abbrev KT(H:Hp):qa (qa Key×V)->qa (qa Key×qc×qd)->Prop:=Paired λp q=>p.1=q.1/\H q.2.1=some (.tup (p.1.map kV))/\QN p.2 q.2.2
def KT.val{H:Hp}{a:qa (qa Key×V)}{xs:qa (qa Key×qc×qd)}(r:KT H a xs)(k:qa Key):WJ (Qv a k) ((atKey xs k).map (·.2)):=by
 induction r with
 |nil=>exact True.intro
 |@cons p q ps qs h t f=>
  obtain⟨d,_,g⟩:=h;by_cases e:p.1=k
  .have c:q.1=k:=d.symm.trans e;have b:atKey (q::qs) k=some q.2:=by simp[atKey,ya,c]
   rw[YA e,b];exact g
  .have c:¬q.1=k:=λz=>e (d.trans z);have b:atKey (q::qs) k=atKey qs k:=by simp[atKey,ya,c]
   rw[Yx e,b];exact f
def KT.repl{H:Hp}{a:qa (qa Key×V)}{xs:qa (qa Key×qc×qd)}(r:KT H a xs)(k:qa Key){y:V}{u:qd}(d:QN y u) :
 KT H (a.map λb=>if b.1=k then (b.1,y) else b) (xs.map (putAt k u)):=by
 induction r with
 |nil=>exact .nil
 |@cons p q ps qs h t f=>
  rw[qU,qU];refine .cons ?_ f;obtain⟨b,c,g⟩:=h;unfold putAt;by_cases e:p.1=k
  .rw[qG e,qG (b.symm.trans e)];exact⟨b,c,d⟩
  .rw[qA e,qA (λz=>e (b.trans z))];exact⟨b,c,g⟩
def KT.put{H:Hp}{a:qa (qa Key×V)}{xs:qa (qa Key×qc×qd)}(r:KT H a xs)(k:qa Key){b:qc}{y:V}{u:qd}(d:H b=some (.tup (k.map kV)))(c:QN y u) :
 KT H (Ye a k y) (storedH xs k b u):=by
 have e:(a.any λf=>decide (f.1=k))=(atKey xs k).isSome:=by
  rw[UO,(r.val k).wV,Option.isSome_map]
 unfold Ye storedH;rw[e];by_cases q:(atKey xs k).isSome=true
 .rw[qG q,qG q];exact r.repl k c
 .rw[qA q,qA q];exact Paired.snoc r ⟨U,d,c⟩
def KT.keeps{H H':Hp}{a:qa (qa Key×V)}{xs:qa (qa Key×qc×qd)}(r:KT H a xs)(c:∀b ys,H b=some (.tup ys)->H' b=some (.tup ys)):KT H' a xs:=
 Paired.QcF r λ_ _ z=>⟨z.1,c _ _ z.2.1,z.2.2⟩
section
variable {P:Program}{w:World}{H:Hp}{h:Heap}{a:qc}
def cM{u:HO}(ok:iW P w H h)(e:Rd H a u):Q2 P w H h a u:=e.ok ok
def Bx{b:qa (Key×V)}(ok:iW P w H h)(e:Rd H a (.dK b)):b.length<=sizeLine/\(a==sysModules)=false/\∃vs,KV b vs/\h.DictOf (Yd P w) a vs:=
 show Q2 P w H h a (.dK b) from cM ok e
def DF{b:qa (Key×V)}(ok:iW P w H h)(e:H a=some (.dK b)):b.length<=sizeLine/\(a==sysModules)=false/\∃vs,KV b vs/\h.DictOf (Yd P w) a vs:=Bx ok (.inl e)
def Ba{ks:qa Key}(ok:iW P w H h)(e:H a=some (.tup (ks.map kV))):(tupleKind (Yd P w)).is h ks a:=by
 obtain⟨_,its,r,o,b,c,n,d⟩:=(show Q2 P w H h a (.tup (ks.map kV)) from ok a _ e);exact⟨o,its.toArray,n,b,c,d,by simpa using EX r⟩
def DE{b:qa (qa Key×V)}(ok:iW P w H h)(e:Rd H a (.dT b)):b.length<=sizeLine/\(a==sysModules)=false /\
 ∃xs,KT H b xs/\h.DictOfH (tupleKind (Yd P w)) a xs:=by
 obtain⟨z,y,xs,r,o,es,f,g,i,j,k,n⟩:=(show Q2 P w H h a (.dT b) from cM ok e);refine⟨z,y,xs,r,o,es,f,g,i,j,k,λx c=>?_,n⟩;have all:∀{l:qa (qa Key×V)}{m:qa (qa Key×qc×qd)},KT H l m->∀x∈m,(tupleKind (Yd P w)).is h x.1 x.2.1:=by
  intro l m q
  induction q with
  |nil=>intro x c;exact nomatch c
  |@cons p q ps qs d t s=>
   intro x c;rcases qK.mp c with e|c
   .subst e;exact Ba ok (by rw[<-d.1];exact d.2.1)
   .exact s x c
 exact all r x c
def ig{b:qa (qa Key×V)}(ok:iW P w H h)(e:H a=some (.dT b)):b.length<=sizeLine/\(a==sysModules)=false /\
 ∃xs,KT H b xs/\h.DictOfH (tupleKind (Yd P w)) a xs:=DE ok (.inl e)
end
def Q5(H:Hp)(a:qc)(y:V)(r:Option V):Prop:=
 (∃c k,Rd H a (.dK c)/\y=kV k/\r=Qv c k)\/∃c k b,Rd H a (.dT c)/\y=.ref b/\H b=some (.tup (k.map kV))/\r=Qv c k
def UN(H:Hp)(a:qc)(y v:V)(H':Hp):Prop:=
 (∃c k,H a=some (.dK c)/\y=kV k/\c.length<sizeLine/\H'=upd H a (.dK (Ye c k v))) \/
 ∃c k b,H a=some (.dT c)/\y=.ref b/\H b=some (.tup (k.map kV))/\c.length<sizeLine/\H'=upd H a (.dT (Ye c k v))
def Q5.k{H:Hp}{a:qc}{b:qa (Key×V)}{k:Key}(e:H a=some (.dK b)):Q5 H a (kV k) (Qv b k):=.inl ⟨b,k,.inl e,U,U⟩
def Q5.t{H:Hp}{a b:qc}{c:qa (qa Key×V)}{k:qa Key}(e:H a=some (.dT c))(d:H b=some (.tup (k.map kV))):Q5 H a (.ref b) (Qv c k):=.inr ⟨c,k,b,.inl e,U,d,U⟩
def UN.k{H:Hp}{a:qc}{b:qa (Key×V)}{k:Key}{v:V}(e:H a=some (.dK b))(c:b.length<sizeLine):UN H a (kV k) v (upd H a (.dK (Ye b k v))):=.inl ⟨b,k,e,U,c,U⟩
def UN.t{H:Hp}{a b:qc}{c:qa (qa Key×V)}{k:qa Key}{v:V}(e:H a=some (.dT c))(d:H b=some (.tup (k.map kV)))(f:c.length<sizeLine) :
 UN H a (.ref b) v (upd H a (.dT (Ye c k v))):=.inr ⟨c,k,b,e,U,d,f,U⟩
section
variable {X:Cx}{pins:qa (qc×Obj)}{σ:St}{H:Hp}{s:Shared}{a:qc}{y v:V}{u r:qd}{o:Option V}{A:Around}{E:qf}
def Inv.big(I:Inv X pins σ H s):sysModules<s.heap.objs.size:=by
 have h:mainGlobals<s.heap.objs.size:=(I.mod.glob.keeps I.bk).lt;exact Nat.lt_trans (by decide) h
def Rl{Q:qf}(n:A.units+1<cLine)(I:Inv X pins σ H s)(g:Q5 H a y (some v))(m:QN y u)(h:∀d s',Inv X pins σ H s'->QN v d->Q d s') :
 wpAny (model X.prog X.w) A (getItem (.ref a) u) Q E s:=by
 rcases g with⟨f,k,e,i,l⟩|⟨f,k,b,e,i,q,l⟩
 .subst i;obtain⟨z,hd,vs,rel,dd⟩:=Bx I.hok e;obtain⟨d,hw,c⟩:=WJ.some_of (v:=v) (o:=valueAt vs k) (by rw[l];exact rel.val k);exact wpAny_getItem_of (Gd m) dd.mapOf hw (h d _ (I.tok _) c)
 .subst i;cases (show u=Value.ref b from m);obtain⟨z,hd,xs,rel,dd⟩:=DE I.hok e;obtain⟨d,hw,c⟩:=WJ.some_of (v:=v) (o:=(atKey xs k).map (·.2)) (by rw[l];exact rel.val k);obtain⟨p,r,j⟩:=xK.mp hw;refine wpAny_getItem_heap (uf n) (Ba I.hok q) dd r ?_;rw[j];exact h d _ (I.tok _) c
def d_in{Q:qf}(i:A.units+1<cLine)(I:Inv X pins σ H s)(g:Q5 H a y o)(f:QN y u)(h:∀s',Inv X pins σ H s'->Q (.bool o.isSome) s') :
 wpAny (model X.prog X.w) A (compareOp .In u (.ref a)) Q E s:=by
 rcases g with⟨c,k,e,d,l⟩|⟨c,k,b,e,d,j,l⟩
 .subst d;obtain⟨z,hd,vs,rel,dd⟩:=Bx I.hok e;refine wpAny_in_of (Gd f) hd dd.mapOf ?_;rw[<-(rel.val k).wV,<-l];exact h _ (I.tok _)
 .subst d;cases (show u=Value.ref b from f);obtain⟨z,hd,xs,rel,dd⟩:=DE I.hok e;refine wpAny_in_heap (uf i) (Ba I.hok j) hd dd ?_;have q:=(rel.val k).wV;rw[Option.isSome_map] at q;rw[<-q,<-l];exact h _ (I.tok _)
def cw{Q:qf}(i:A.units+1<cLine)(I:Inv X pins σ H s)(g:Q5 H a y o)(f:QN y u)(h:∀s',Inv X pins σ H s'->Q (.bool (!o.isSome)) s') :
 wpAny (model X.prog X.w) A (compareOp .NotIn u (.ref a)) Q E s:=by
 rcases g with⟨c,k,e,d,l⟩|⟨c,k,b,e,d,j,l⟩
 .subst d;obtain⟨z,hd,vs,rel,dd⟩:=Bx I.hok e;refine wpAny_notIn_of (Gd f) hd dd.mapOf ?_;rw[<-(rel.val k).wV,<-l];exact h _ (I.tok _)
 .subst d;cases (show u=Value.ref b from f);obtain⟨z,hd,xs,rel,dd⟩:=DE I.hok e;refine wpAny_notIn_heap (uf i) (Ba I.hok j) hd dd ?_;have q:=(rel.val k).wV;rw[Option.isSome_map] at q;rw[<-q,<-l];exact h _ (I.tok _)
def Ai{h':Heap}{t':Nat}{c:HO}(I:Inv X pins σ H s)(d:Mut (H a))(f:Heap.SameBut a s.heap h')(he:∃q,h'.get? a=some q)(new:Q2 X.prog X.w (upd H a c) h' a c) :
 Inv X pins σ (upd H a c) {s with heap:=h',toks:=t'}:=
 I.write (x:=a) (e:=a) d (.inl rfl) (λb q g z=>(f.2 b g).trans z) he new
def Ho{P:Program}{w:World}{H':Hp}{h':Heap}{b:qa (Key×V)}{vs:qa (Key×qd)}(z:b.length<=sizeLine)(hd:(a==sysModules)=false)(rel:KV b vs)(dd:h'.DictOf (Yd P w) a vs) :
 Q2 P w H' h' a (.dK b):=⟨z,hd,vs,rel,dd⟩
def Rk{H':Hp}{Q:Unit->Shared->Prop}(B:A.units+1<cLine)(I:Inv X pins σ H s)(g:UN H a y v H')(p:QN y u)(t:QN v r)(h:∀s',Inv X pins σ H' s'->Q () s') :
 wpAny (model X.prog X.w) A (setItem (.ref a) u r) Q E s:=by
 rcases g with⟨d,k,e,j,l,m⟩|⟨d,k,b,e,j,w,l,m⟩
 .subst j m;obtain⟨z,hd,vs,rel,dd⟩:=DF I.hok e;have hz:vs.length<=sizeLine:=by rw[<-rel.length];exact z
  have n:(Ye d k v).length<=sizeLine:=by have:=VR d k v;omega
  refine wpAny_setItem_pairs (hsz:=hz) (Gd p) dd λh' f o=>h _ ?_;have he:∃q,h'.get? a=some q:=let ⟨q,_,_,i,_⟩:=f;⟨q,i⟩;exact Ai I (by rw[e];exact True.intro) o he (Ho n hd (rel.put k t) f)
 .subst j m;cases (show u=Value.ref b from p);obtain⟨z,hd,xs,rel,dd⟩:=ig I.hok e;have hz:xs.length<=sizeLine:=by rw[<-Paired.length rel];exact z
  have n:(Ye d k v).length<=sizeLine:=by have:=VR d k v;omega
  refine wpAny_setItem_heap (hsz:=hz) (uf B) (Ba I.hok w) dd λh' f o=>h _ ?_;obtain⟨q,es,C,i,D,F,G,_,J⟩:=f;refine Ai I (by rw[e];exact True.intro) o ⟨q,i⟩ ⟨n,hd,_,(rel.put k w t).keeps λc ys x=>?_,q,es,C,i,D,F,G,J⟩;rw[Qa (Q4 x e (λz=>nomatch z))];exact x
end
section
variable {X:Cx}{pins:qa (qc×Obj)}{σ:St}{H:Hp}{s:Shared}{a:qc}{kvs:qa (Key×V)}{k:Key}{u:qd}{A:Around}{E:qf}
def c6{v:V}{more:qg}{Q:qf}(I:Inv X pins σ H s)(e:H a=some (.dK kvs))(d:QN (kV k) u)(l:Qv kvs k=some v)(hm:more=[]\/∃x,more=[x])
 (h:∀b s',Inv X pins σ (upd H a (.dK (Uy kvs k))) s'->QN v b->Q b s'):wpAny (model X.prog X.w) A (call (.builtin "dict.pop") (.ref a::u::more)) Q E s:=by
 obtain⟨z,hd,vs,rel,dd⟩:=DF I.hok e;obtain⟨b,hw,f⟩:=WJ.some_of (v:=v) (o:=valueAt vs k) (by rw[<-l];exact rel.val k);have g:(keyPart u).isSome=true:=by
  cases k with
  |inl i=>obtain⟨t,q⟩:=(show ∃t,u=Value.int i t from d);subst q;rfl
  |inr x=>obtain⟨t,q⟩:=(show ∃t,u=Value.str x t from d);subst q;rfl
 have j:argsOk "dict.pop" ⟨.ref a::u::more,[]⟩:=by
  rcases hm with q|⟨x,q⟩
  .subst q;exact PySem.F.args_dict_pop_2 _ _
  .subst q;exact PySem.F.args_dict_pop_3 _ _ _
 refine QaC slot_dict_pop dd.typeIs PySem.F.entry_dict_pop j (meets_dict_pop_there (Yd X.prog X.w) a (Gd d) more hm g)
  ⟨vs,b,dd,by rw[<-rel.length];exact z,hw,λh' c m=>h b _ ?_ f⟩
 have he:∃q,h'.get? a=some q:=let ⟨q,_,_,n,_⟩:=c;⟨q,n⟩;exact Ai I (by rw[e];exact True.intro) m he (Ho (zu (aq kvs k) z) hd (rel.drop k) c)
def fY{r:qd}{Q:qf}(I:Inv X pins σ H s)(e:H a=some (.dK kvs))(b:QN (kV k) u)(l:Qv kvs k=none)(h:∀s',Inv X pins σ H s'->Q r s') :
 wpAny (model X.prog X.w) A (call (.builtin "dict.pop") [.ref a,u,r]) Q E s:=by
 obtain⟨z,hd,vs,rel,dd⟩:=DF I.hok e;have c:valueAt vs k=none:=WJ.none_of (by rw[<-l];exact rel.val k);have d:(keyPart u).isSome=true:=by
  cases k with
  |inl i=>obtain⟨t,q⟩:=(show ∃t,u=Value.int i t from b);subst q;rfl
  |inr x=>obtain⟨t,q⟩:=(show ∃t,u=Value.str x t from b);subst q;rfl
 exact QaC slot_dict_pop dd.typeIs PySem.F.entry_dict_pop (PySem.F.args_dict_pop_3 _ _ _) (meets_dict_pop_default (Yd X.prog X.w) a (Gd b) hd d r) ⟨vs,dd,c,h _ (I.tok _)⟩
def ih{Q:qf}(I:Inv X pins σ H s)(e:Rd H a (.dK kvs))(h:∀t s',Inv X pins σ H s'->Q (.int kvs.length t) s'):wpAny (model X.prog X.w) A (call (.builtin "len") [.ref a]) Q E s:=by
 obtain⟨z,hd,vs,rel,dd⟩:=Bx I.hok e;refine call_len_dict hd dd (by rw[<-rel.length];rw[sizeLine_eq] at z;omega) ?_;rw[<-rel.length];exact h _ _ (I.tok _)
end
def iu(i:Expr):Prop:=∀a b,subscripted i false a b=operate [a,b] (getItem a b)
def aU{prog:Program}{w:World}{A:Around}{E:qf}{s:Shared}{env:Env}{value slice:Expr}{pos:Pos}{T id:String}{Q:qf}
 (j:typeLookup (.type T) "__getitem__"=pure (some (.builtin id))) (k:iu slice)
 (h:wpAny (model prog w) A (eval value env) (λo c=>wpAny (model prog w) A (eval slice env) (λi a=>a.TypeIs o T/\wpAny (model prog w) A (getItem o i) Q E a) E c) E s) :
 wpAny (model prog w) A (eval (.Subscript value slice pos) env) Q E s:=by
 refine Subscript_ (yN h (λo c e=>yN e (λi a b=>?_) λ_ _ x=>x) λ_ _ x=>x);obtain⟨g,b⟩:=b;unfold subscriptTail;refine qi ?_;rw[getitemInPython_of_ne g.not_modules];refine qi (wpAny_specialOf g j ?_);have fin:wpAny (model prog w) A (subscripted slice false o i) (λr d=>wpAny (model prog w) A (letTemporaryGo value o r>>=λ_=>pure r) Q E d) E a:=by
  rw[k o i];exact wpAny_operating (yN b (λr d f=>qi (wpAny_letTemporaryGo (qv f))) λ_ _ x=>x)
 first
  |exact qv (qi fin)
  |exact qi (qv (qi fin))
  |exact qi fin
def LJ{X:Cx}{pins:qa (qc×Obj)}{σ:St}{H:Hp}{s:Shared}{a:qc}{y:V}{o:Option V}(I:Inv X pins σ H s)(g:Q5 H a y o):s.TypeIs (.ref a) "dict":=by
 rcases g with⟨c,k,e,_,_⟩|⟨c,k,b,e,_,_,_⟩
 .obtain⟨_,_,vs,_,dd⟩:=Bx I.hok e;exact dd.typeIs
 .obtain⟨_,_,xs,_,dd⟩:=DE I.hok e;exact dd.typeIs
inductive Nm(Q:VK)(x:V)(y:V)(H2:Hp):Prop
 |mk:∀a v,x=.ref a->Q5 H2 a y (some v)->Q v H2->Nm Q x y H2
def gO(a ty:TE):TE:=λσ H Q=>a σ H λx H1=>ty σ H1 λy b=>Nm Q x y b
inductive RM(Q:VK)(y:V)(x:V)(H2:Hp):Prop
 |mk:∀a o,x=.ref a->Q5 H2 a y o->Q (.bl o.isSome) H2->RM Q y x H2
def tDIn(ty a:TE):TE:=λσ H Q=>ty σ H λy H1=>a σ H1 λx b=>RM Q y x b
inductive Eh(Q:VK)(y:V)(x:V)(H2:Hp):Prop
 |mk:∀a o,x=.ref a->Q5 H2 a y o->Q (.bl (!o.isSome)) H2->Eh Q y x H2
def aT(ty a:TE):TE:=λσ H Q=>ty σ H λy H1=>a σ H1 λx b=>Eh Q y x b
inductive NX(D:V2)(σ:St)(v:V)(x:V)(y:V)(H3:Hp):Prop
 |mk:∀a H4,x=.ref a->UN H3 a y v H4->D.nx σ H4->NX D σ v x y H3
def gY(a ty b:TE):TS:=λD σ H=>b σ H λv H1=>a σ H1 λx c=>ty σ c λy d=>NX D σ v x y d
section
variable {X:Cx}{o i e value:Expr}{pos pos' tpos:Pos}{td ty tv:TE}
def Qz(d:X.A.units+1<cLine)(e:PE X o td)(f:PE X i ty)(j:iu i:=by exact λ_ _=>rfl):PE X (.Subscript o i pos) (gO td ty):=by
 intro pins s σ H Q I h;refine aU PySem.F.slot_dict_getitem.lookup j (jE (e pins s σ H _ I h) λu s1 ⟨x,H1,k,l,m⟩=>jE (f pins s1 σ H1 _ k m) λt s2 ⟨y,n,c,p,a,v,ex,g,q⟩=>?_);subst ex;obtain rfl:u=Value.ref a:=l;exact⟨LJ c g,Rl d c g p λw s3 r b=>⟨v,n,r,b,q⟩⟩
def Ka(b:X.A.units+1<cLine)(c:PE X i ty)(d:PE X o td):PC X .In i o (tDIn ty td):=by
 intro pins s σ H Q I h;refine jE (c pins s σ H _ I h) λr s1 ⟨y,H1,e,f,j⟩=>jE (d pins s1 σ H1 _ e j) λu s2 ⟨x,k,l,m,a,n,ex,g,p⟩=>?_;subst ex;obtain rfl:u=Value.ref a:=m;exact d_in b l g f λs3 q=>⟨.bl n.isSome,k,q,U,p⟩
def U8(b:X.A.units+1<cLine)(c:PE X i ty)(d:PE X o td):PC X .NotIn i o (aT ty td):=by
 intro pins s σ H Q I h;refine jE (c pins s σ H _ I h) λr s1 ⟨y,H1,e,f,j⟩=>jE (d pins s1 σ H1 _ e j) λu s2 ⟨x,k,l,m,a,n,ex,g,p⟩=>?_;subst ex;obtain rfl:u=Value.ref a:=m;exact cw b l g f λs3 q=>⟨.bl (!n.isSome),k,q,U,p⟩
def Yp(b:X.A.units+1<cLine)(c:PE X o td)(d:PE X i ty)(e:PE X value tv)(f:swapsWith value (some (.Subscript o i pos')) pos.line X.env=pure false) :
 PS X (.Assign [.Subscript o i pos'] value pos) (gY td ty tv):=by
 intro pins s σ H D I h;refine wpAny_Assign_Subscript (jE (e pins s σ H _ I h) λr s1 ⟨v,H1,j,k,l⟩=>jE (c pins s1 σ H1 _ j l) λu s2 ⟨x,m,n,p,q⟩=>jE (d pins s2 σ m _ n q) λC s3 ⟨y,E,t,w,a,z,ex,g,A⟩=>?_) f;subst ex;obtain rfl:u=Value.ref a:=p;exact Rk b t g w k λs4 B=>⟨σ,z,B,A⟩
end
def LI{P:Program}{w:World}{H:Hp}(h:Heap)(a:sysModules<h.objs.size):Q2 P w H (h.push {cls:=.type "dict",data:=.dict #[]}) h.objs.size (.dK []):=
 ⟨za _,jR.mpr (xJ (zc a)),[],.nil,Heap.DictOf.new h⟩
def ao{P:Program}{w:World}{H:Hp}(h:Heap)(a:sysModules<h.objs.size):Q2 P w H (h.push {cls:=.type "dict",data:=.dict #[]}) h.objs.size (.dT []):=
 ⟨za _,jR.mpr (xJ (zc a)),[],.nil,_,#[],0,qL _ rfl,⟨U,U,U⟩,U,U,zB⟩
def dP:TE:=λ_ H Q=>∀p,H p=none->Q (.ref p) (upd H p (.dK []))
def dO:TE:=λ_ H Q=>∀p,H p=none->Q (.ref p) (upd H p (.dT []))
section
variable {X:Cx}{pos:Pos}
def Yc:PE X (.Dict [] [] pos) dP:=λpins s σ H Q I h=>
 wpAny_Dict_empty ⟨.ref s.heap.objs.size,_,I.laid (a:=s.heap.objs.size) (o:=.dK []) (t':=s.toks) (λ_ _ q=>qw _ q) (qD _) (LI s.heap I.big),U,h _ (I.hok.fresh (qD _))⟩
def X9:PE X (.Dict [] [] pos) dO:=λpins s σ H Q I h=>
 wpAny_Dict_empty ⟨.ref s.heap.objs.size,_,I.laid (a:=s.heap.objs.size) (o:=.dT []) (t':=s.toks) (λ_ _ q=>qw _ q) (qD _) (ao s.heap I.big),U,h _ (I.hok.fresh (qD _))⟩
end
def Md:qa (TE×TE)->St->Hp->(qa (V×V)->Hp->Prop)->Prop
 |[],_,H,Q=>Q [] H
 |(a,b)::r,σ,H,Q=>a σ H λx H1=>b σ H1 λy c=>Md r σ c λps d=>Q ((x,y)::ps) d
abbrev VV:qa (V×V)->qa (qd×qd)->Prop:=Paired λp q=>QN p.1 q.1/\QN p.2 q.2
def PPs(X:Cx)(pos:Pos)(keys:qa (Option Expr))(values:qa Expr)(a:qa (TE×TE)):Prop:=
 ∀(pins:qa (qc×Obj))(s:Shared)(σ:St)(H:Hp)(Q:qa (V×V)->Hp->Prop),Inv X pins σ H s->Md a σ H Q ->
  wpAny (model X.prog X.w) X.A (evalPairs (pairTrees keys values X.env pos)) (λvs s'=>∃ps H',Inv X pins σ H' s'/\VV ps vs/\Q ps H') X.xe s
def N8{X:Cx}{pos:Pos}:PPs X pos [] [] []:=λpins s σ H Q I h=>pairTrees_nil_walk ⟨[],H,I,.nil,h⟩
def Xb{X:Cx}{pos:Pos}{k v:Expr}{ks:qa (Option Expr)}{vs:qa Expr}{b c:TE}{a:qa (TE×TE)}(d:PE X k b)(e:PE X v c)(f:PPs X pos ks vs a) :
 PPs X pos (some k::ks) (v::vs) ((b,c)::a):=λpins s σ H Q I h=>
 pairTrees_cons_walk (jE (d pins s σ H _ I h) λu s1 ⟨x,H1,g,i,j⟩=>jE (e pins s1 σ H1 _ g j) λt s2 ⟨y,l,m,n,o⟩=>
  jE (f pins s2 σ l _ m o) λws s3 ⟨ps,p,q,rel,r⟩=>⟨(x,y)::ps,p,q,.cons ⟨i,n⟩ rel,r⟩)
def WZ(a more:qa (Key×V)):qa (Key×V):=more.foldl (λacc b=>Ye acc b.1 b.2) a
def KV.merge:∀{more:qa (Key×V)}{rs:qa (Key×qd)}{a:qa (Key×V)}{vs:qa (Key×qd)},KV more rs->KV a vs->KV (WZ a more) (merged vs rs):=by
 intro more rs a vs r;unfold KV at r
 induction r generalizing a vs with
 |nil=>intro q;exact q
 |@cons p q ps qs h t b=>
  intro c;have e:KV (Ye a p.1 p.2) (stored vs q.1 q.2):=by
   have:=c.put p.1 h.2;rw[<-h.1];exact this
  exact b e
def Gb:∀(more a:qa (Key×V)),(WZ a more).length<=a.length+more.length
 |[],a=>by show a.length<=a.length+0;omega
 |p::r,a=>by
  have b:=Gb r (Ye a p.1 p.2);have c:=VR a p.1 p.2;show(WZ (Ye a p.1 p.2) r).length<=_;rw[qX];omega
def DH{P:Program}{w:World}:∀{d:qa (Key×V)}{ws:qa (qd×qd)},VV (d.map λe=>(kV e.1,e.2)) ws->∃rs,Carries (Yd P w) ws rs/\KV d rs
 |[],_,r=>by rw[List.map_nil] at r;cases r;exact⟨[],True.intro,.nil⟩
 |p::d,_,r=>by
  rw[qU] at r
  cases r with
  |@cons a b as bs h t=>
   obtain⟨rs,c,q⟩:=DH (P:=P) (w:=w) t;obtain⟨g,f⟩:=b;exact⟨(p.1,f)::rs,⟨Gd h.1,U,c⟩,.cons ⟨U,h.2⟩ q⟩
def gM(b:qa (TE×TE)):TE:=λσ H Q=>∀p,H p=none->Md b σ (upd H p (.dK [])) λps c=>c p=some (.dK [])/\∃a:qa (Key×V),ps=a.map (λd=>(kV d.1,d.2))/\a.length<=15/\Q (.ref p) (upd c p (.dK (WZ [] a)))
def Ob{X:Cx}{pos:Pos}{keys:qa (Option Expr)}{values:qa Expr}{b:qa (TE×TE)}(h:PPs X pos keys values b)(d:keys.all (·.isSome)=true)(k:keys.length=values.length)(h0:keys≠[])
 (i:keys.length<=15):PE X (.Dict keys values pos) (gM b):=by
 intro pins s σ H Q I q;have l:=I.hok.fresh (qD s.heap.objs.size);have m:=I.laid (a:=s.heap.objs.size) (o:=.dK []) (h':=s.heap.push {cls:=.type "dict",data:=.dict #[]}) (t':=s.toks) (λ_ _ q=>qw _ q) (qD _) (LI s.heap I.big);refine wpAny_Dict_walk (knd:=Yd X.prog X.w) d k h0 i (jE (h pins _ σ _ _ m (q _ l)) λws s2 ⟨ps,y,j,rel,e,f,n,A,p⟩=>?_);subst n;obtain⟨rs,c,r⟩:=DH (P:=X.prog) (w:=X.w) rel;obtain⟨z,hd,t,u,dd⟩:=DF j.hok e;cases u;refine⟨rs,c,dd,λh' g v=>⟨.ref s.heap.objs.size,_,?_,U,p⟩⟩;have hz:(WZ [] f).length<=sizeLine:=by
  have x:=Gb f [];rw[jZ] at x;rw[sizeLine_eq];omega
 have he:∃q,h'.get? s.heap.objs.size=some q:=let ⟨q,_,_,x,_⟩:=g;⟨q,x⟩;exact Ai j (by rw[e];exact True.intro) v he (Ho hz hd (r.merge .nil) g)
structure M1(X:Cx)(o:Expr)(m:qb)(apos:Pos)(e:Expr)(cpos:Pos):Prop where
 base:attributeBase o m X.env (eval o X.env)=eval o X.env
 few:((backTo cpos (starEach [e] X.env)).all (λx=>!x.1)&&(backToKw cpos (keywordEach [] X.env)).all (λx=>x.1.isSome)
  &&decide (([e]:qa Expr).length+([]:qa Keyword).length+(if ([]:qa Keyword).isEmpty then 0 else 1)<30))=true
 line:(apos.endLine==cpos.line)=true
 trees:backTo cpos (starEach [e] X.env)=[(false,eval e X.env)]
structure M2(X:Cx)(o:Expr)(m:qb)(apos:Pos)(e f:Expr)(cpos:Pos):Prop where
 base:attributeBase o m X.env (eval o X.env)=eval o X.env
 few:((backTo cpos (starEach [e,f] X.env)).all (λx=>!x.1)&&(backToKw cpos (keywordEach [] X.env)).all (λx=>x.1.isSome)
  &&decide (([e,f]:qa Expr).length+([]:qa Keyword).length+(if ([]:qa Keyword).isEmpty then 0 else 1)<30))=true
 line:(apos.endLine==cpos.line)=true
 trees:backTo cpos (starEach [e,f] X.env)=[(false,eval e X.env),(false,eval f X.env)]
def IsD(H:Hp)(a:qc):Prop:=(∃b,Rd H a (.dK b))\/∃b,Rd H a (.dT b)
def Hk{X:Cx}{pins:qa (qc×Obj)}{σ:St}{H:Hp}{s:Shared}{a:qc}(I:Inv X pins σ H s)(d:IsD H a) :
 s.TypeIs (.ref a) "dict"/\(∀b,Value.ref a=.ref b->∃c,s.heap.get? b=some c/\c.dict=none)/\(a==sysModules)=false:=by
 rcases d with⟨f,e⟩|⟨f,e⟩
 .obtain⟨_,hd,vs,_,dd⟩:=Bx I.hok e;refine⟨dd.typeIs,λb q=>?_,hd⟩;cases q;obtain⟨c,_,_,g,h,_⟩:=dd;exact⟨c,g,h.2.1⟩
 .obtain⟨_,hd,xs,_,dd⟩:=DE I.hok e;refine⟨dd.typeIs,λb q=>?_,hd⟩;cases q;obtain⟨c,_,_,g,h,_⟩:=dd;exact⟨c,g,h.2.1⟩
section
variable {X:Cx}{pins:qa (qc×Obj)}{σ:St}{H:Hp}{s:Shared}{a:qc}{y d:V}{u r:qd}{o:Option V}{A:Around}{E:qf}
def fZ{Q:qf}(n:A.units+1<cLine)(I:Inv X pins σ H s)(g:Q5 H a y o)(i:QN y u)(j:QN d r)(h:∀m s',Inv X pins σ H s'->QN (o.getD d) m->Q m s') :
 wpAny (model X.prog X.w) A (call (.builtin "dict.get") [.ref a,u,r]) Q E s:=by
 rcases g with⟨c,k,e,f,l⟩|⟨c,k,b,e,f,p,l⟩
 .subst f;obtain⟨z,hd,vs,rel,dd⟩:=Bx I.hok e;refine QaC slot_dict_get dd.typeIs PySem.F.entry_dict_get (PySem.F.args_dict_get_3 _ _ _) (meets_dict_get_default (Yd X.prog X.w) a (Gd i) hd r) ⟨_,dd.mapOf,h _ _ (I.tok _) ?_⟩;rw[l];exact(rel.val k).getD j
 .subst f;cases (show u=Value.ref b from i);obtain⟨z,hd,xs,rel,dd⟩:=DE I.hok e;refine QaC slot_dict_get dd.typeIs PySem.F.entry_dict_get (PySem.F.args_dict_get_3 _ _ _) (meetsH_dict_get_default (tupleKind (Yd X.prog X.w)) a b hd r) ⟨uf n,k,xs,Ba I.hok p,dd,h _ _ (I.tok _) ?_⟩;rw[l];exact(rel.val k).getD j
end
inductive Ei(Q:VK)(a:qc)(y:V)(z:V)(H3:Hp):Prop
 |mk:∀o,Q5 H3 a y o->Q (o.getD z) H3->Ei Q a y z H3
inductive HK(ty:TE)(tx:TE)(σ:St)(Q:VK)(x:V)(H1:Hp):Prop
 |mk:∀a,x=.ref a->IsD H1 a->(ty σ H1 λy H2=>tx σ H2 λz H3=>Ei Q a y z H3)->HK ty tx σ Q x H1
def dQ(a ty b:TE):TE:=λσ H Q=>a σ H λx H1=>HK ty b σ Q x H1
inductive Eg(Q:VK)(a:qc)(y:V)(H2:Hp):Prop
 |mk:∀kvs k v,H2 a=some (.dK kvs)->y=kV k->Qv kvs k=some v->Q v (upd H2 a (.dK (Uy kvs k)))->Eg Q a y H2
inductive HJ(ty:TE)(σ:St)(Q:VK)(x:V)(H1:Hp):Prop
 |mk:∀a,x=.ref a->IsD H1 a->(ty σ H1 λy H2=>Eg Q a y H2)->HJ ty σ Q x H1
def dM(a ty:TE):TE:=λσ H Q=>a σ H λx H1=>HJ ty σ Q x H1
inductive Ef(Q:VK)(a:qc)(y:V)(z:V)(H3:Hp):Prop
 |mk:∀kvs k,H3 a=some (.dK kvs)->y=kV k->((∀v,Qv kvs k=some v->Q v (upd H3 a (.dK (Uy kvs k)))))->((Qv kvs k=none->Q z H3))->Ef Q a y z H3
inductive HI(ty:TE)(tx:TE)(σ:St)(Q:VK)(x:V)(H1:Hp):Prop
 |mk:∀a,x=.ref a->IsD H1 a->(ty σ H1 λy H2=>tx σ H2 λz H3=>Ef Q a y z H3)->HI ty tx σ Q x H1
def dJ(a ty b:TE):TE:=λσ H Q=>a σ H λx H1=>HI ty b σ Q x H1
section
variable {X:Cx}{o e f:Expr}{apos cpos:Pos}{td ty tx:TE}
def Vp(i:X.A.units+1<cLine)(j:PE X o td)(he:PE X e ty)(hf:PE X f tx)(m:M2 X o "get" apos e f cpos):PE X (.Call (.Attribute o "get" apos) [e,f] [] cpos) (dQ td ty tx):=by
 intro pins s σ H Q I h;refine rV m.base m.few m.line plainAttrs_dict slot_dict_get PySem.F.type_dict_get (jE (j pins s σ H _ I h) λu s1 ⟨x,H1,c,k,a,ex,d,l⟩=>?_);subst ex;obtain rfl:u=Value.ref a:=k;obtain⟨t1,n,_⟩:=Hk c d;refine⟨t1,n,?_⟩;rw[m.trees];refine yG rfl (vR (j7 (jE (he pins s1 σ H1 _ c l) λD s2 ⟨y,p,q,r,t⟩=>
  j7 (jE (hf pins s2 σ p _ q t) λb s3 ⟨z,v,w,A,C,g,B⟩=>uS ?_))))
 exact fZ i w g r A λE s4 C b=>⟨_,v,C,b,B⟩
def UP(f:PE X o td)(he:PE X e ty)(m:M1 X o "pop" apos e cpos):PE X (.Call (.Attribute o "pop" apos) [e] [] cpos) (dM td ty):=by
 intro pins s σ H Q I h;refine rV m.base m.few m.line plainAttrs_dict slot_dict_pop PySem.F.type_dict_pop (jE (f pins s σ H _ I h) λu s1 ⟨x,H1,c,g,a,ex,d,i⟩=>?_);subst ex;obtain rfl:u=Value.ref a:=g;obtain⟨t1,j,_⟩:=Hk c d;refine⟨t1,j,?_⟩;rw[m.trees];refine yG rfl (vR (j7 (jE (he pins s1 σ H1 _ c i) λA s2 ⟨y,B,n,p,q,k,v,r,t,l,w⟩=>uS ?_)));subst t;exact c6 n r p l (.inl rfl) λC s3 z b=>⟨v,_,z,b,w⟩
def SD(q:PE X o td)(he:PE X e ty)(hf:PE X f tx)(m:M2 X o "pop" apos e f cpos):PE X (.Call (.Attribute o "pop" apos) [e,f] [] cpos) (dJ td ty tx):=by
 intro pins s σ H Q I h;refine rV m.base m.few m.line plainAttrs_dict slot_dict_pop PySem.F.type_dict_pop (jE (q pins s σ H _ I h) λu s1 ⟨x,H1,i,r,a,ex,d,t⟩=>?_);subst ex;obtain rfl:u=Value.ref a:=r;obtain⟨t1,w,_⟩:=Hk i d;refine⟨t1,w,?_⟩;rw[m.trees];refine yG rfl (vR (j7 (jE (he pins s1 σ H1 _ i t) λL s2 ⟨y,A,B,j,C⟩=>
  j7 (jE (hf pins s2 σ A _ B C) λD s3 ⟨z,E,n,F,b,k,p,G,J,K⟩=>uS ?_))))
 subst G
 cases l:Qv b k with
 |some v=>exact c6 n p j l (.inr ⟨D,U⟩) λM s4 c g=>⟨v,_,c,g,J v l⟩
 |none=>exact fY n p j l λs4 c=>⟨z,E,c,F,K l⟩
end
section
variable {X:Cx}{pins:qa (qc×Obj)}{σ:St}{H:Hp}{s:Shared}{a:qc}{kvs:qa (Key×V)}{A:Around}{E:qf}
end
section
variable {X:Cx}{pins:qa (qc×Obj)}{σ:St}{H:Hp}{s:Shared}{a:qc}{y:V}{u:qd}{A:Around}{E:qf}
end
end L2
namespace Att
open PySem PySem.W PySem.Calls PyProof.Rows
def BQ{P:Params}{h:Heap}:∀(ns:qa Int)(vs:qg),WellAll P h vs (ns.map WData.int)->IntsAre vs ns:=by
 intro ns
 induction ns with
 |nil=>
  intro vs w;rw[List.map_nil] at w;cases w;exact .nil
 |cons n ns c=>
  intro vs w;rw[qU] at w
  cases w with
  |cons a b=>
   cases a;exact .cons _ _ (c _ b)
def O6{l:OpenLaw}{n:Nat}(i:l.most=some n){P:Params}{h:Heap}{args:qa WData}{vals:qg}
 (b:l.row.toRowW.claim.pre args=true) (f:WellAll P h vals args) :
 ∃a vs ns,vals=[Value.ref a]/\args=[WData.list (ns.map WData.int)]/\h.get? a=some {cls:=.type "list",data:=.seq vs.toArray}/\IntsAre vs ns/\ns.length<=n:=by
 have g:WShape.hasAll [] args [.list .int]=true:=(pre_splitW b).1;have hc:l.pre.holds [] {args:=args}=true:=(pre_splitW b).2;obtain⟨d,r,rfl,j,k⟩:=hasAllW_cons g;obtain rfl:=hasAllW_nil k;obtain⟨xs,rfl,m⟩:=hasW_list j;obtain⟨ns,rfl⟩:=items_int m;have hlen:ns.length<=n:=by
  unfold OpenLaw.pre at hc;have c:(WTm.not (.lt (.lit (.int (n:Int))) (.len (.arg 0)))).holds [] {args:=[.list (ns.map .int)]}=true:=by
   have c:=(holds_andW hc).1;rw[i] at c;exact c
  have e:=condW_of c (w_not (w_lt w_lit (w_len_list (w_arg rfl))));rw[qh] at e;refine Nat.le_of_not_lt λq=>?_;have o:(n:Int)<((ns.length:Nat):Int):=by omega
  first
   |(rw[qu o] at e;exact absurd e (by decide))
   |(simp at e;omega)
 cases f with
 |cons e o=>
  cases o
  cases e with
  |list p c=>exact⟨_,_,ns,U,U,p,BQ ns _ c,hlen⟩
def Pf(l:OpenLaw)(args:qa WData):l.row.toRowW.claim.post args (.bool true) args=true:=
 postW_of (r:=l.row.toRowW) (X:=(true==true))
  (show WShape.has [] (.bool true) .bool=true by first|rfl|decide|simp[WShape.has,WShape.arms,WShape.armsAll])
  (show(WTm.eq .res (.lit (.bool true))).value [] {args:=args,res:=some (.bool true),after:=args}=some (.bool (true==true)) from w_eq_bool (w_res rfl) w_lit) rfl
def Qan{l:OpenLaw}{n:Nat}{q:Program}{loose:qe}{XP:(qb->Option qd)->Heap->Prop}{YP:World->Heap->Prop}{d:DefRec}
 (t:l.most=some n) (h:d.params.defaults=[])
 (call:∀(w:World)(s₀ b:Shared)(mg i:qb->Option qd)(c:qc)(o:Obj)(pm cd doc:qd)(a:qc)(vs:qg)(ns:qa Int),
   Ground q loose [] XP w s₀ mg i b.heap->YP w b.heap ->
   b.heap.get? c=some o->o.data=.func (docDef d.name d.params d.body d.scope pm cd doc)->b.heap.CodeRec cd d.name->mg d.name=some (.ref c) ->
   b.heap.get? a=some {cls:=.type "list",data:=.seq vs.toArray}->IntsAre vs ns->ns.length<=n->b.gens=#[] ->
   codeAny (model l.prog w) callerA (.call (.ref c) ⟨[.ref a],[]⟩) (λr s'=>r=.ok (.ret (.bool true))/\OldK b.heap s'.heap/\s'.os=b.os/\AllBare s'.gens) b) :
 WalkO q loose XP YP l.row.toRowW d [] (λf vs=>PySem.call f vs):=by
 intro w s₀ b mg i G Y c o pm cd doc u kV v hd j p k hg args vals as e s x m y;obtain rfl:u=.none:=Dflts.none p h;obtain rfl:kV=.none:=Dflts.noKw p;obtain⟨a,vs,ns,rfl,rfl,g,hints,hlen⟩:=O6 t e m;refine enter_call (xj (call w s₀ b mg i c o pm cd doc a vs ns G Y v (fd_plain hd) j k g hints hlen hg) λr s' z=>?_);obtain⟨rfl,A,B,C⟩:=z;exact⟨.inl ⟨.bool true,.bool true,[],U,λ_=>rfl,.bool true,Pf l _,λ_=>⟨List.Pairwise.nil,λ_ hm=>(nomatch hm)⟩⟩,A,B,C⟩
section
variable {prog:Program}{w:World}{A:Around}{E:qf}{s:Shared}{K:Frag}
end
end Att
namespace L2
open PySem PySem.Spec PyProof.Rows
def D8:∀{vs:qg}{ns:qa Int},IntsAre vs ns->QK (ns.map V.int) vs
 |_,_,.nil=>.nil
 |_,_,.cons n t h=>.cons ⟨t,U⟩ (D8 h)
def gk(H:Hp):Prop:=∀b,H b=none\/∃o xs,H b=some (.jF o (.lst xs))
def TC{P:Program}{w:World}{K:Frag}{mg E:qb->Option qd}{O:CXT}{k:Nat}{G a:qc}{fd:FuncData}{x:qb}{sp:Sp}{c:Shared}{vs:qg}{ns:qa Int}
 (KX:K.In c.heap) (j:c.heap.Ns mainGlobals mg) (f:c.heap.Ns builtinsNs E) (I:∀x:qb,x≠"__name__"->E x=bootBuiltins x) (l:c.heap.NoLimit) (hg:c.gens=#[])
 (D:c.heap.get? a=some {cls:=.type "list",data:=.seq vs.toArray}) (Q:IntsAre vs ns) (R:ns.length<=sizeLine) (Y:QG k callerA)
 (F:∀base:Heap,K.In base->base.Ns mainGlobals mg->QQ P w K mg base O k G fd [x] sp) (i:∀(s:Shared)(u:qd),BindsTo s fd ⟨[u],[]⟩ [(x,u)])
 (J:∀H:Hp,gk H->zN K H a (ns.map V.int)->sp [.ref a] H (λv _=>v=.bl true) λ_ _ _=>False)
 (C:∀H e s',O [] H c (λ_ _ _=>False) e s'->False) :
 codeAny (model P w) callerA (.call (.ref G) ⟨[.ref a],[]⟩) (λr s'=>r=.ok (.ret (.bool true))/\OldK c.heap s'.heap/\s'.os=c.os/\AllBare s'.gens) c:=by
 have S:=D8 Q;have p:=Q.length;have core:∀H:Hp,gk H->zN K H a (ns.map V.int)->iW P w H c.heap->(∀b,H b≠none->b=a)->(H a≠none->K.lookup a=none) ->
  codeAny (model P w) callerA (.call (.ref G) ⟨[.ref a],[]⟩) (λr s'=>r=.ok (.ret (.bool true))/\OldK c.heap s'.heap/\s'.os=c.os/\AllBare s'.gens) c:=by
  intro H T hS y X Z;have Qbe:∀{b:qc}{o:Obj},c.heap.get? b=some o->H b=none->(Hn c.heap H).get? b=some o:=λe n=>T5 e n;have M:∀{b:qc}{o:Obj}{es:Array DictEntry}{A:Nat},c.heap.get? b=some o->o.data=.dict es A->H b=none:=λ{b o es A} e d=>by
   cases q:H b with
   |none=>rfl
   |some u=>
    have N:b=a:=X b (by rw[q];simp);subst N;rw[D] at e;cases e;have d':Data.seq vs.toArray _=Data.dict es A:=d;cases d'
  have g:∀{b:qc}{m:qb->Option qd},c.heap.Ns b m->(Hn c.heap H).Ns b m:=λ{b m} ⟨o,es,A,e,d,r⟩=>⟨o,es,A,Qbe e (M e d),d,r⟩;have B:K.In (Hn c.heap H):=λb o e=>Qbe (KX b o e) (by
   cases q:H b with
   |none=>rfl
   |some u=>
    have N:b=a:=X b (by rw[q];simp);subst N;rw[Z (by rw[q];simp)] at e;cases e)
  have hM:Mod K mg (Hn c.heap H):=⟨B,g j,⟨E,g f,I⟩,let ⟨mc,h1,h2⟩:=l;⟨mc,g h1,h2⟩⟩;have e0:Nb P w K mg (Hn c.heap H) callerA [] c H:=⟨U,hM,λb o e=>bN e,Nat.le_of_eq (Rf _ _),trivial,λb f=>absurd (show b∈([]:qa qc) from f) (by simp),y,.of_eq hg⟩;refine xj ((F _ B (g j)).run callerA [] c H ⟨[.ref a],[]⟩ [.ref a] [.ref a] _ _ Y e0 (i c (.ref a)) (.cons rfl .nil) (J H T hS)) λr s' h=>?_
  cases r with
  |error e=>exact(C H e s' h).elim
  |ok fl=>
   cases fl with
   |next=>exact False.elim h
   |brk=>exact False.elim h
   |cont=>exact False.elim h
   |ret u=>
    obtain⟨v,H',os,bare,un,C,r',q⟩:=h;have q':v=.bl true:=q;subst q';obtain rfl:u=Value.bool true:=r';refine⟨U,OldK.of_keep λb o e=>?_,os,bare⟩
    cases q:H b with
    |none=>exact un.keep b o e q (by intro z;exact absurd (show b∈([]:qa qc) from z) (by simp)) (by simp)
    |some u=>
     rcases T b with z|⟨ob,xs,z⟩
     .rw[q] at z;cases z
     .have z2:=un.mV b ob _ z;obtain⟨N,_⟩:=y b _ z;obtain⟨e2,_⟩:=C b _ z2;rw[e] at N;cases N;exact e2
 cases i:K.lookup a with
 |some o=>
  have e:=KX a o i;rw[D] at e;cases e;refine core (λ_=>none) (λ_=>.inl rfl) (.inr ⟨_,vs.toArray,_,i,U,U,U,by rw[qR,p];exact R,by simpa using S⟩) (λb u z=>by have g:(none:Option HO)=some u:=z;cases g) (λb z=>absurd rfl z) λz=>absurd rfl z
 |none=>
  refine core (λb=>if b=a then some (.jF {cls:=.type "list",data:=.seq vs.toArray} (.lst (ns.map V.int))) else none) (λb=>?_) (.inl (.inr ⟨{cls:=.type "list",data:=.seq vs.toArray},qG rfl⟩)) (λb u z=>?_) (λb z=>?_) λ_=>i
  .by_cases f:b=a
   .exact .inr ⟨_,_,qG f⟩
   .exact .inl (qA f)
  .by_cases f:b=a
   .have g:=(qG f).symm.trans z;cases g;subst f;exact⟨D,by rw[qh];exact R,vs,_,S,D⟩
   .have g:=(qA f).symm.trans z;cases g
  .by_cases f:b=a
   .exact f
   .exact absurd (qA f) z
def QH(s:Stmt)(j:Nat):Stmt:=match s with
 |.ClassDef _ _ _ body _ _ _ _ _ _ _=>body.getD j (.Pass ⟨0,0,0,0⟩)
 |_=>.Pass ⟨0,0,0,0⟩
def Y6(s:Stmt):Arguments:=match s with
 |.FunctionDef _ a _ _ _ _ _ _ _ _=>a
 |_=>{posonlyargs:=[],args:=[],vararg:=none,kwonlyargs:=[],kw_defaults:=[],kwarg:=none,defaults:=[]}
def YH(s:Stmt):qa Stmt:=match s with
 |.FunctionDef _ _ b _ _ _ _ _ _ _=>b
 |_=>[]
def Qg(s:Stmt):Scope:=match s with
 |.FunctionDef _ _ _ _ _ _ sc _ _ _=>sc
 |_=>{kind:=.function,names:=[],isGenerator:=false,isCoroutine:=false}
abbrev j6:CXT:=λ_ _ _ _ _ _=>False
abbrev E0:XK:=λ_ _ _=>False
def Qm{X:Cx}:Kp j6 X E0:=λ_ _ _ _ _ _ _ h=>h.elim
structure zT(K:Frag)(x qual:qb)(st:Stmt)(f:qc)(fd:FuncData):Prop where
 ex:∃(oc:qd)(od:Option qc)(kV doc pm:qd)(an:Option qc)(cdv ct:qd)(osl:Array (Option qd)),
  fd=fnOf x qual (Y6 st) (YH st) (Qg st) .none kV doc pm an cdv ct/\K.lookup f=some ⟨oc,od,.func fd,osl⟩/\codeIn K cdv qual=true
 kp:keepIn K (.ref f)=true
section
variable {P:Program}{w:World}{K:Frag}{mg:qb->Option qd}{base:Heap}
def zT.ok{x qual:qb}{st:Stmt}{f:qc}{fd:FuncData}{N ps:qe}{k:Nat}{sp:Sp}(F:zT K x qual st f fd)(S:Qn N ps (Qg st))
 (b:∀(a:qd)(A:Around)(outer:qa Env)(s:Shared)(H:Hp)(vs:qa V)(Q:VK)(E:XK),QG k (A.deeper (envOfC qual (Qg st) s.heap.objs.size f a))->sp vs H Q E ->
   ∃t,PSs (Hr j6 P w K mg base N qual (Qg st) f a A outer s H E).nox (YH st) t/\t {nx:=λ_ H'=>Q .non H',rt:=Q} (start N vs) H) (len:∀vs H Q E,sp vs H Q E->vs.length=ps.length:=by intro _ _ _ _ h;cases h;subst_vars;rfl):QQ P w K mg base j6 (k+1) f fd ps sp:=by
 obtain⟨j,l,kV,doc,pm,an,a,ct,e,rfl,g,c⟩:=F.ex;refine cZ g c S len λA outer s H vs Q E i d=>?_;obtain⟨t,h,q⟩:=b a A outer s H vs Q E i d;exact⟨t,h.nox,q⟩
def zT.binds{x qual:qb}{st:Stmt}{f:qc}{fd:FuncData}{ps:qe}(F:zT K x qual st f fd)
 (h:∀(kV doc pm:qd)(an:Option qc)(a ct:qd)(us:qg),us.length=ps.length->bindArgs (fnOf x qual (Y6 st) (YH st) (Qg st) .none kV doc pm an a ct) ⟨us,[]⟩=pure (ps.zip us)):Qr K fd ps []:=by
 obtain⟨d,e,kV,doc,pm,an,a,ct,b,rfl,g,c⟩:=F.ex;exact .all (h kV doc pm an a ct)
def fU{x qual:qb}{st:Stmt}{f:qc}{d:qd}{e an:Option qc}{b:Array (Option qd)}{kV doc pm a ct:qd}(l:K.lookup f=some ⟨d,e,.func (fnOf x qual (Y6 st) (YH st) (Qg st) .none kV doc pm an a ct),b⟩)
 (c:codeIn K a qual=true) (k:keepIn K (.ref f)=true):zT K x qual st f (fnOf x qual (Y6 st) (YH st) (Qg st) .none kV doc pm an a ct):=⟨⟨d,e,kV,doc,pm,an,a,ct,b,U,l,c⟩,k⟩
end
def Q9{A:Around}{k:Nat}(a:QG k A):A.units+1<cLine:=xM (Nat.add_le_add_left (by decide:1<=64) _) a.units
def QF{n:Nat}(h:n<=1000):n<sizeLine:=xM h (by decide)
def Ya{n:Nat}(h:n<=1000):n<=sizeLine:=vv (QF h)
def de:0<=sizeLine:=by decide
def Ry:1<=sizeLine:=by decide
def VZ:2<=sizeLine:=by decide
def Hv:3<=sizeLine:=by decide
def aK:4<=sizeLine:=by decide
def aJ:5<=sizeLine:=by decide
def zl_6:6<=sizeLine:=by decide
def zi_2:(0:Int)<2:=by decide
def aL:(0:Int)<3:=by decide
def dh:(0:Int)<4:=by decide
def zi_5:(0:Int)<5:=by decide
def zi_6:(0:Int)<6:=by decide
def gv:(0:Int)<9:=by decide
def gw:(0:Int)<12:=by decide
def cC:(0:Int)<26:=by decide
def DM:(0:Int)<2147483647:=by decide
section
variable {X:Cx}
def pv(i:Nat){x:qb}{pos:Pos}(b:X.N[i]?=some x:=by rfl)(c:Vis X.env.scope x:=by first|exact Or.inl rfl|exact Or.inr (Or.inl rfl)|exact Or.inr (Or.inr rfl))(hd:(x==("__debug__":qb))=false:=by decide)
 (a:(x==("__classdict__":qb))=false:=by decide):PE X (.Name x pos) (gA i):=eM b c hd a
end
def QV{A B:Prop}(h:B):if false=true then A else B:=by
 rw[qA qI];exact h
def Yj{A B:Prop}(h:A):if true=true then A else B:=by
 rw[qG rfl];exact h
def MQ{c A B:Prop}[Decidable c](a:c->A)(b:¬c->B):if c then A else B:=by
 by_cases h:c
 .rw[qG h];exact a h
 .rw[qA h];exact b h
def Qj(H H':Hp):Prop:=∀b o,H b=some o->H' b=some o
def Qj.refl(H:Hp):Qj H H:=λ_ _ h=>h
def Qj.trans{H H1 d:Hp}(a:Qj H H1)(b:Qj H1 d):Qj H d:=λc o h=>b c o (a c o h)
def Qj.free{H H':Hp}(e:Qj H H'){l:qc}(h:H' l=Option.none):H l=Option.none:=by
 cases q:H l with
 |none=>rfl
 |some o=>
  rw[e l o q] at h;cases h
def Qj.seq{K:Frag}{H H':Hp}{a:qc}{xs:qa V}(e:Qj H H')(h:zN K H a xs):zN K H' a xs:=by
 rcases h with(h|⟨o,h⟩)|h
 .exact .inl (.inl (e _ _ h))
 .exact .inl (.inr ⟨o,e _ _ h⟩)
 .exact .inr h
section
variable {X:Cx}
def Ro:VY X (.builtin "len") (λxs H Q=>∃a b,xs=[V.ref a]/\H a=some (.dK b)/\Q (.int b.length) H):=by
 intro pins s σ H xs us Q I r h;obtain⟨a,b,rfl,c,q⟩:=h;obtain⟨u,rfl,d⟩:=V3 r;cases d;exact ih I (.inl c) λt s' e=>⟨.int b.length,H,e,⟨t,U⟩,q⟩
end
section
variable {κ:Type}[DecidableEq κ]
def RA{a:qa (κ×V)}{k:κ}(h:Qv a k=none):¬k∈a.map (·.1):=by
 intro m;obtain⟨p,b,e⟩:=qj.mp m;have q:(a.any λc=>decide (c.1=k))=true:=uO.mpr ⟨p,b,qu e⟩;rw[UO,h] at q;exact absurd q (by simp)
def Ng{a:qa (κ×V)}{k:κ}{v:V}(h:Qv a k=some v):k∈a.map (·.1):=by
 have q:(a.any λb=>decide (b.1=k))=true:=by
  rw[UO,h]
  all_goals rfl
 obtain⟨p,c,e⟩:=uO.mp q;exact qj.mpr ⟨p,c,qo e⟩
def Bh{p:κ×V}{r:qa (κ×V)}{k:κ}(e:p.1=k):Uy (p::r) k=Uy r k:=by
 unfold Uy;rw[qO,qA (by simp[e])]
def Bi{p:κ×V}{r:qa (κ×V)}{k:κ}(e:¬p.1=k):Uy (p::r) k=p::Uy r k:=by
 unfold Uy;rw[qO,qG (by simp[e])]
end
end L2
set_option maxHeartbeats 4000000
namespace L2
open PySem PySem.Spec PyProof.Rows
def Its(x:qb):It:=⟨λi _=>i<x.cps.size,λi H y H'=>H'=H/\∃c,x.cps[i]?=some c/\y=.str ⟨#[c]⟩,λi _=>i=x.cps.size⟩
def Ea{P:Program}{w:World}{K:Frag}{y:Expr}{x:qb}{t:Tok}{it:qc}{ty:String}
 (B:["enumerate","zip","dict_itemiterator","dict_reverseitemiterator","odict_iterator","itertools.zip_longest","itertools.pairwise"].contains ty=false)
 (W:∀e:Around,e.handled=none->Walks P w e it [it] [it] x.cps.size (SignAt x) (λi h=>h.IsStrIter it ty x t i))
 (a:∀(A:Around)(i:Nat)(s:Shared)(Q:qf)(E:qf),s.heap.IsStrIter it ty x t i->Q (.ref it) s->wpAny (model P w) A (pyIter (.ref it)) Q E s) :
 Rv P w K y (Its x) [it] it (λi h=>h.IsStrIter it ty x t i) where
 mem:=qk.mpr rfl
 obj:=λi h st b e=>by
  cases qk.mp e;obtain⟨o,q,_,d⟩:=st;exact⟨o,q,λv z=>by rw[d] at z;cases z⟩
 keep:=λi h h' st k=>by
  obtain⟨o,q,r⟩:=st;exact⟨o,k it (qk.mpr rfl) o q,r⟩
 item:=by
  intro X j l m hc i pins s σ H E I hf st hg;subst j l m;have F:=hf it (qk.mpr rfl);refine(W X.A (I.ok.hd hc)).item i s _ _ hg st λv h' n C f p=>?_;obtain⟨c,u,D,rfl⟩:=C;have J:Inv X pins σ H {s with heap:=h',toks:=n}:=I.turned (λb o e q=>p b o (λz=>e (qk.mp z)) q) F.1 F.2.1 F.2.2.2.1 F.2.2.2.2.1 F.2.2.2.2.2;obtain⟨o,q,G,d⟩:=id f;exact⟨_,U,Ly (s:={s with heap:=h',toks:=n}) q G d B ⟨.str ⟨#[c]⟩,H,J,⟨u,U⟩,⟨U,c,D,U⟩,f,λb e=>(hf b e).1⟩⟩
 done:=by
  intro X j l m hc i pins s σ H E I hf st hg;subst j l m;have F:=hf it (qk.mpr rfl);have g:i=x.cps.size:=hg;subst g;exact(W X.A (I.ok.hd hc)).done s _ _ st λh' n p=>⟨U,I.turned (λb o e q=>p b o (λz=>e (qk.mp z)) q) F.1 F.2.1 F.2.2.2.1 F.2.2.2.2.1 F.2.2.2.2.2⟩
 self:=a
inductive T3(R:(It->Hp->Prop))(x:V)(H1:Hp):Prop
 |mk:∀y,x=.str y->R (Its y) H1->T3 R x H1
def iStr(a:TE):TI:=λσ H R=>a σ H λx H1=>T3 R x H1
def Mu{X:Cx}{j l:Expr}{f:TE}(k:PE X l f):PI X j l (iStr f):=by
 intro pins s σ H R I h;refine jE (k pins s σ H _ I h) λv s1 ⟨x,H1,a,m,y,e,q⟩=>?_;subst e;obtain⟨t,rfl⟩:=m;have g:∀b∈[s1.heap.objs.size],L6 X pins H1 b:=λb n=>by
  cases qk.mp n;exact a.Qbu (qD _) (a.hok.fresh (qD _))
 cases i:y.cps.all (·<128)
 .refine wpAny_pyIter_wide i ?_;exact⟨s1.heap.objs.size,[s1.heap.objs.size],_,_,H1,U,a.kept (t':=s1.toks) λb o z=>qw _ z,
   Ea (x:=y) (t:=t) (ty:="str_iterator") (by decide) (λp c=>Walks.strWide c _ y t) (λ_ _ _ _ _ st d=>wpAny_pyIter_striter_wide st d),⟨_,qL _ rfl,U,U⟩,g,q⟩
 .refine wpAny_pyIter_ascii i ?_;exact⟨s1.heap.objs.size,[s1.heap.objs.size],_,_,H1,U,a.kept (t':=s1.toks) λb o z=>qw _ z,
   Ea (x:=y) (t:=t) (ty:="str_ascii_iterator") (by decide) (λp c=>Walks.strAscii c _ y t) (λ_ _ _ _ _ st d=>wpAny_pyIter_striter_ascii st d),⟨_,qL _ rfl,U,U⟩,g,q⟩
def WB(cells:qa (qb×qc)):qa (qb×NameKind)->qa (qb×qc)->qa (qb×qc)
 |[],cs=>cs
 |(n,k)::r,cs=>WB cells r (if k==.free then (match cells.lookup n with|some c=>(n,c)::cs|none=>cs) else cs)
def D5{scope:Scope}{env:Env}(h:∀y∈scope.names,y.2=.free->∃c,env.cells.lookup y.1=some c):closureFor scope env=pure (WB env.cells scope.names []):=by
 unfold closureFor;generalize ([]:qa (qb×qc))=cs
 revert cs
 generalize scope.names=names at h
 induction names with
 |nil=>intro cs;rfl
 |cons p r d=>
  obtain⟨n,k⟩:=p;intro cs;have a:=d λy f=>h y (qH _ f);by_cases b:k=.free
  .subst b;obtain⟨c,hc⟩:=h (n,.free) qy rfl;have e:cellOf env n=pure c:=by unfold cellOf;rw[hc]<;>rfl
   dsimp only at hc⊢;rw[List.forIn_cons];simp only[yr,vw,WB,hc];rw[e];exact a _
  .have g:(k==NameKind.free)=false:=by simpa using b
   dsimp only;rw[List.forIn_cons];simp only[g,zE,yB,WB];exact a _
def DG{cells:qa (qb×qc)}:∀(names:qa (qb×NameKind))(cs:qa (qb×qc)){y:qb}{c:qc},(WB cells names cs).lookup y=some c->cells.lookup y=some c\/cs.lookup y=some c
 |[],cs,y,c,h=>.inr h
 |(n,k)::r,cs,y,c,h=>by
  rcases DG r _ (show(WB cells r _).lookup y=some c from h) with a|a
  .exact .inl a
  .split at a
   .split at a
    .rename_i d b
     rw[ju] at a;split at a
     .rename_i e
      cases a;exact .inl (by rw[eq_of_beq e];exact b)
     .exact .inr a
    .exact .inr a
   .exact .inr a
def BB{cells:qa (qb×qc)}:∀(names:qa (qb×NameKind))(cs:qa (qb×qc)){y:qb},(∃c,cs.lookup y=some c)->∃c,(WB cells names cs).lookup y=some c
 |[],cs,y,h=>h
 |(n,k)::r,cs,y,h=>by
  refine BB r _ ?_;split
  .split
   .rw[ju];split
    .exact⟨_,U⟩
    .exact h
   .exact h
  .exact h
def Gy{cells:qa (qb×qc)}:∀(names:qa (qb×NameKind))(cs:qa (qb×qc)){y:qb},(y,NameKind.free)∈names->(∃c,cells.lookup y=some c)->∃c,(WB cells names cs).lookup y=some c
 |(n,k)::r,cs,y,a,hc=>by
  rcases qK.mp a with e|a
  .cases e;refine BB r _ ?_;obtain⟨c,hc⟩:=hc;simp only[yr,vw,hc];exact⟨c,by simp[ju]⟩
  .exact Gy r _ a hc
def d8(env:Env)(p:qb×NameKind):qb×NameKind:=if (p.2==NameKind.free&&env.scope.kind==.function&&env.kindOf p.1==some .cell)=true then (p.1,NameKind.cell) else (p.1,p.2)
def Eu{env:Env}:∀{names:qa (qb×NameKind)}{x:qb},names.lookup x=some .free->(names.map (d8 env)).lookup x=some .cell\/(names.map (d8 env)).lookup x=some .free
 |[],_,h=>by simp at h
 |(n,k)::r,x,h=>by
  have b:=@Eu env r x;rw[qU];unfold d8
  cases a:x==n with
  |true=>
   rw[ju,a] at h;cases h;by_cases hc:(NameKind.free==NameKind.free&&env.scope.kind==.function&&env.kindOf n==some .cell)=true
   .left;rw[qG hc,ju,a]
   .right;rw[qA hc,ju,a]
  |false=>
   rw[ju,a] at h;by_cases hc:(k==NameKind.free&&env.scope.kind==.function&&env.kindOf n==some .cell)=true
   .rw[qG hc,ju,a];exact b h
   .rw[qA hc,ju,a];exact b h
def K3{scope:Scope}{env:Env}{x:qb}(h:scope.names.lookup x=some .free):(relabel scope env).names.lookup x=some .cell\/(relabel scope env).names.lookup x=some .free:=
 Eu (env:=env) h
def Fz{scope:Scope}{env:Env}(b:∀y∈scope.names,y.2≠.cell){y:qb}(h:(relabel scope env).names.lookup y=some .cell\/(relabel scope env).names.lookup y=some .free):(y,NameKind.free)∈scope.names:=by
 have key:∀k,(relabel scope env).names.lookup y=some k->k=.cell\/k=.free->(y,NameKind.free)∈scope.names:=λk e d=>by
  have m:=jS e;obtain⟨⟨n,a⟩,hm,q⟩:=qj.mp m;dsimp only at q;split at q
  .rename_i c
   have f:(a==NameKind.free)=true:=by
    simp only[jb] at c;exact c.1.1
   have g:a=.free:=eq_of_beq f;cases q;rw[g] at hm;exact hm
  .cases q;rcases d with z|z
   .exact absurd z (b _ hm)
   .rw[z] at hm;exact hm
 rcases h with h|h
 .exact key _ h (.inl rfl)
 .exact key _ h (.inr rfl)
structure KW(sc scope:Scope)(N:qe)(x:qb)(fr:qa (Nat×qb)):Prop where
 kind:scope.kind=.function
 loc:scope.names.lookup x=some .local
 names:∀y∈scope.names,y.2=.local->scope.names.lookup y.1=some .local
 Qb5:∀y∈scope.names,y.2≠.cell
 free:∀y∈scope.names,y.2=.free->sc.names.lookup y.1=some .cell\/sc.names.lookup y.1=some .free
 frk:∀p∈fr,N[p.1]?=some p.2/\scope.names.lookup p.2=some .free
 nd:(x::fr.map (·.2)).Nodup
def cs_{sc scope:Scope}{N:qe}{x:qb}{fr:qa (Nat×qb)}(k:scope.kind=.function)(l:scope.names.lookup x=some .local)(h:((∀y∈scope.names,y.2=.local->scope.names.lookup y.1=some .local)/\(∀y∈scope.names,y.2≠.cell)/\(∀y∈scope.names,y.2=.free->sc.names.lookup y.1=some .cell\/sc.names.lookup y.1=some .free))/\(∀p∈fr,N[p.1]?=some p.2/\scope.names.lookup p.2=some .free)/\(x::fr.map (·.2)).Nodup:=by decide +kernel):KW sc scope N x fr:=⟨k,l,h.1.1,h.1.2.1,h.1.2.2,h.2.1,h.2.2⟩
def W2(X:Cx)(scope:Scope)(C:qc)(N:qe)(s:Shared)(H:Hp)(a:qa qc):Cx where
 prog:=X.prog
 w:=X.w
 K:=X.K
 mg:=X.mg
 base:=X.base
 A:=X.A
 N:=N
 s₀:=s
 H₀:=H
 env:=compEnvC scope (WB X.env.cells scope.names []) C X.env
 outer:=X.stack
 stack:=X.stack
 ex:=a
 fn:=λ_=>false
 calm:=X.calm
 pn:=[]
 xe:=λ_ _=>False
def oC(σ:St)(fr:qa (Nat×qb)):St:=fr.map λp=>(σ[p.1]?).join
def PTs(X:Cx)(ifs:qa Expr)(t:TT):Prop:=
 ∀(pins:qa (qc×Obj))(s:Shared)(σ:St)(H:Hp)(Q:Bool->Hp->Prop),Inv X pins σ H s->t σ H Q ->
  wpAny (model X.prog X.w) X.A (forIn ifs true λc r=>if r=true then do let ok <-isTrue c X.env (eval c X.env);pure (ForInStep.yield ok) else pure (ForInStep.yield r)) (TP X pins σ Q) X.xe s
def Ee:TT:=λ_ H Q=>Q true H
def GC{σ:St}{H:Hp}{Q:Bool->Hp->Prop}(h:Q true H):Ee σ H Q:=h
def GY{X:Cx}:PTs X [] Ee:=λ_ _ _ H _ I h=>wpAny_tests_nil ⟨H,I,h⟩
def Wg{X:Cx}{c:Expr}{t:TT}(hc:PT X c t):PTs X [c] t:=λpins s σ H Q I h=>wpAny_tests_one (hc pins s σ H Q I h)
def Yr(J:It)(fr:qa (Nat×qb))(tt:TT)(g:TE)(σ:St)(H1:Hp)(Q:VK):Prop:=∀D,H1 D=none ->
 ∃W:Nat->Nat->qa V->Hp->Prop,(∃m,W 0 m [] (upd H1 D (.lst [])))/\∀i m ys a,W i m ys a->a D=some (.lst ys) /\
  ((J.stop i a/\Q (.ref D) a)\/(J.go i a/\∀v d,J.yld i a v d->tt (some v::oC σ fr) d λb e=>
    if b=true then g (some v::oC σ fr) e λy f=>f D=some (.lst ys)/\ys.length<sizeLine/\∃c,c<m/\W (i+1) c (ys++[y]) (upd f D (.lst (ys++[y])))
    else ∃c,c<m/\W (i+1) c ys e))
def RO(a:TI)(fr:qa (Nat×qb))(tt:TT)(b:TE):TE:=λσ H Q=>a σ H λJ H1=>Yr J fr tt b σ H1 Q
structure gq(X:Cx)(pins:qa (qc×Obj))(H:Hp)(C:qc):Prop where
 hn:H C=none
 hL:C≠X.env.locals
 h1:C∈X.ex\/X.s₀.heap.objs.size<=C
 h2:∀x c,X.env.cells.lookup x=some c->c≠C
 h3:∀p∈X.pn++pins,p.1≠C
def LM{X:Cx}{x:qb}{px:Pos}{iter elt:Expr}{ifs:qa Expr}{scope sc:Scope}{pos pos':Pos}{N:qe}{fr:qa (Nat×qb)}{wi:TI}{tt:TT}{te:TE}
 {pins:qa (qc×Obj)} {s:Shared} {σ:St} {H:Hp} {Q:VK} {Q':qf} {use:Option (qd->Sem Unit)}
 (S:KW sc scope N x fr) (a:X.env.scope=sc) (hN:X.N=N) (hc:X.calm=true) (hi:PI X (.Name x px) iter wi)
 (ht:∀(C:qc)(s:Shared)(H:Hp)(f:qa qc),PTs (W2 X scope C (x::fr.map (·.2)) s H f) ifs tt)
 (he:∀(C:qc)(s:Shared)(H:Hp)(f:qa qc),PE (W2 X scope C (x::fr.map (·.2)) s H f) elt te)
 (hs:∀z,foldedSetIterable iter X.env z=pure z) (I:Inv X pins σ H s) (h:RO wi fr tt te σ H Q)
 (hfin:∀(D C:qc)(H':Hp)(s':Shared)(m:qb->Option qd),Inv X pins σ H' s'->s'.heap.Ns C m->gq X pins H' C->Q (.ref D) H'->compPost (model X.prog X.w) X.A X.xe use Q' (.ref D) C (.ok .next) s') :
 wpAny (model X.prog X.w) X.A (comprehension (.ListComp elt [⟨.Name x px,iter,ifs,0⟩] scope pos) scope X.env pos' (newList []) false (eval iter X.env) use) Q' X.xe s:=by
 have kin:∀y,scope.names.lookup y=some .free->X.env.kindOf y=some .cell\/X.env.kindOf y=some .free:=λy M=>by
  show X.env.scope.names.lookup y=_\/X.env.scope.names.lookup y=_;rw[a];exact S.free (y,.free) (jS M) rfl
 have kin':∀y∈scope.names,y.2=.free->X.env.kindOf y.1=some .cell\/X.env.kindOf y.1=some .free:=λy M hf=>by
  show X.env.scope.names.lookup y.1=_\/X.env.scope.names.lookup y.1=_;rw[a];exact S.free y M hf
 have hkc:∀y∈scope.names,y.2=.free->∃c,X.env.cells.lookup y.1=some c:=λy M hf=>I.ok.has y.1 (kin' y M hf);refine wpAny_comprehension_free (use:=use) rfl hs (D5 hkc) S.kind S.names ?_;refine jE (hi pins s σ H _ I h) λxv s1 h1=>jE h1 λitv s2 h2=>?_;obtain⟨it,f,tn,J,H2,rfl,w,T,O,f2,q2⟩:=h2;refine zG (wpAny_newFunctionEnv S.Qb5 (by intro y M;simp at M) (λB g j=>?_) S.kind);dsimp only at g j⊢;have A:Inv X pins σ (upd H2 s2.heap.objs.size (.lst [])) {s2 with heap:=s2.heap.push {cls:=.type "list",data:=.seq ([]:qg).toArray}}:=
  w.Qbq (its:=[]) (t':=s2.toks) .nil (za _)
 unfold Yr at q2;obtain⟨W,⟨m0,w0⟩,turn⟩:=q2 s2.heap.objs.size (w.hok.fresh (qD _));generalize hG:s2.heap.push {cls:=.type "list",dict:=none,data:=.seq ([]:qg).toArray}=G at g j A⊢;generalize hD:s2.heap.objs.size=D at A turn w0⊢;generalize hH3:upd H2 D (.lst [])=P at A w0;have Z:∀b o,G.get? b=some o->b≠G.objs.size:=λb o e=>zc (qT e);have old:∀b o,G.get? b=some o->B.get? b=some o:=λb o e=>(j.2 b (Z b o e)).trans (qw _ e);have E:∀b o,s2.heap.get? b=some o->G.get? b=some o:=λb o e=>by rw[<-hG];exact qw _ e
 have fpG:∀b∈f,b<G.objs.size:=λb a=>by
  obtain⟨o,e,_⟩:=T.obj _ _ O b a;exact qT (E b o e)
 have sub:∀{y:qb}{c:qc},(WB X.env.cells scope.names []).lookup y=some c->X.env.cells.lookup y=some c:=λ{y c} e=>by
  rcases DG _ _ e with z|z
  .exact z
  .simp at z
 have t:∀b∈f,(b∈X.ex\/X.s₀.heap.objs.size<=b)/\b≠X.env.locals/\(∀x c,X.env.cells.lookup x=some c->c≠b)/\∀p∈X.pn++pins,p.1≠b:=λb a=>
  ⟨(f2 b a).2.2.2.1,(f2 b a).2.1,(f2 b a).2.2.2.2.1,(f2 b a).2.2.2.2.2⟩
 have hCL:G.objs.size≠X.env.locals:=rn A.lt;have hC1:X.s₀.heap.objs.size<=G.objs.size:=A.sz;have hC2:∀x c,X.env.cells.lookup x=some c->c≠G.objs.size:=λx c e=>by
  obtain⟨v,o,ho,_⟩:=A.cell x c e;exact Z c o ho
 have hC3:∀p∈X.pn++pins,p.1≠G.objs.size:=λp R=>Z p.1 p.2 (A.pin p R).1;have okB:(W2 X scope G.objs.size (x::fr.map (·.2)) {s2 with heap:=G} P f).Ok:=by
  refine⟨w.ok.mod,S.kind,w.ok.glob,w.ok.blt,qD _,λy z c e1 e2=>w.ok.inj y z c (sub e1) (sub e2),λy M=>?_,λy c z=>Bool.noConfusion z,w.ok.hd,w.ok.frames,.inl rfl,λb a=>⟨zc (fpG b a),λy c e=>(t b a).2.2.1 y c (sub e)⟩,
   λb o e=>A.bs b o e,zu w.ok.bsz A.sz,λb o e a=>?_,λb a hf=>?_,A.stack,A.Qa4⟩
  .have m:=Fz S.Qb5 M;exact Gy _ _ m (hkc _ m rfl)
  .rcases (t b a).1 with z|z
   .exact w.ok.Qb4 b o e z
   .exact absurd (zl (qT e) (zu w.ok.bsz z)) (yk _)
  .rcases qK.mp (w.QaE b hf) with z|z
   .exact(t b a).2.1 z
   .exact(f2 b a).2.2.1 z
 have I4:∀tk:Nat,Inv (W2 X scope G.objs.size (x::fr.map (·.2)) {s2 with heap:=G} P f) [] (none::oC σ fr) P {s2 with heap:=B,toks:=tk}:=λtk=>by
  refine⟨okB,U,w.bare,Un.kept old,⟨_,g,λi y v e1 e2 _=>?_⟩,λy c e=>?_,A.hok.fresh (qD _),λy c e=>A.vT y c (sub e),λp R=>absurd (show p∈([]:qa (qc×Obj)) from R) (by simp),A.hok.kept old,?_⟩
  .cases i with
   |zero=>simp at e2
   |succ i=>
    have F:(fr.map (·.2))[i]?=some y:=e1;have K:(fr.map λp=>(σ[p.1]?).join)[i]?=some (some v):=e2;rw[qQ] at F K
    cases R:fr[i]? with
    |none=>rw[R] at F;cases F
    |some p=>
     rw[R] at F K;have ey:p.2=y:=qN F;have ev:(σ[p.1]?).join=some v:=qN K;have ev':σ[p.1]?=some (some v):=by
      cases q:σ[p.1]? with
      |none=>rw[q] at ev;cases ev
      |some o=>rw[q] at ev;simp only[Option.join] at ev;exact zQ some ev
     have hf:=S.frk p (qM R);rw[ey] at hf;have L:=kin y hf.2;obtain⟨m,_,hl⟩:=w.loc;obtain⟨u,ru,l⟩:=hl p.1 y v (by rw[hN];exact hf.1) ev' (.inr L);refine⟨u,ru,.inr ⟨K3 hf.2,?_⟩⟩;rcases l with⟨k,_⟩|⟨_,c,e,z⟩
     .rcases L with L|L
      .rw[L] at k;cases k
      .rw[L] at k;cases k
     .obtain⟨c',ec⟩:=Gy (cells:=X.env.cells) scope.names [] (jS hf.2) ⟨c,e⟩;have:=sub ec;rw[e] at this;cases this;obtain⟨o,ho,hd⟩:=z;exact⟨c,ec,o,old c o (E c o ho),hd⟩
  .obtain⟨v,o,ho,hd⟩:=w.cell y c (sub e);exact⟨v,o,old c o (E c o ho),hd⟩
  .show(none::oC σ fr).length=(x::fr.map (·.2)).length;simp[oC]
 have F:(W2 X scope G.objs.size (x::fr.map (·.2)) {s2 with heap:=G} P f).env.scope.names.lookup x=some .local:=lookup_relabel_local S.loc;generalize K:W2 X scope G.objs.size (x::fr.map (·.2)) {s2 with heap:=G} P f=Y at I4 F;have eP:Y.prog=X.prog:=by rw[<-K];rfl
 have eW:Y.w=X.w:=by rw[<-K];rfl
 have eK:Y.K=X.K:=by rw[<-K];rfl
 have eA:Y.A=X.A:=by rw[<-K];rfl
 have eC:Y.calm=true:=by rw[<-K];exact hc
 have eE:Y.env=compEnvC scope (WB X.env.cells scope.names []) G.objs.size X.env:=by rw[<-K];rfl
 have eN:Y.N=x::fr.map (·.2):=by rw[<-K];rfl
 have eX:Y.xe=λ_ _=>False:=by rw[<-K];rfl
 have eB:∀{σ':St}{H':Hp}{s':Shared}{L:qa (qc×Obj)},Inv Y L σ' H' s'->s'.os=s2.os/\Un (frs X.stack) f P H' G s'.heap:=λ{σ' H' s' L} J=>by
  subst K;exact⟨J.os,J.base⟩
 have hT:=ht G.objs.size {s2 with heap:=G} P f;have hE:=he G.objs.size {s2 with heap:=G} P f;rw[K] at hT hE;have fpY:∀{H':Hp},(∀b∈f,H' b=none)->∀b∈f,L6 Y [] H' b:=λ{H'} hn b a=>by
  subst K;refine⟨hn b a,zc (fpG b a),okB.Qcg b a,.inl a,λy c e=>(okB.exf b a).2 y c e,λp R=>absurd (show p∈([]:qa (qc×Obj)) from R) (by simp)⟩
 have loop:∀s3:Shared,(∃tk,s3={s2 with heap:=B,toks:=tk}) ->
  codeAny (model X.prog X.w) X.A (.compLoop (.ListComp elt [⟨.Name x px,iter,ifs,0⟩] scope pos) 0 (.ref it) (.ref D) Y.env)
   (compPost (model X.prog X.w) X.A X.xe use Q' (.ref D) G.objs.size) s3:=by
  rintro s3 ⟨tk,rfl⟩;refine codeAny_compLoop_tests (λn s'=>∃i ys o H',Inv Y [] (o::oC σ fr) H' s'/\tn i s'.heap/\(∀b∈f,H' b=none)/\W i n ys H') ?_ m0
   ⟨0,[],none,P,I4 tk,T.keep _ _ _ O λb a o e=>old b o (E b o e),λb a=>?_,w0⟩
  .rintro n s' ⟨i,ys,o,H',J',st',fr',w'⟩;obtain⟨hD',hgo⟩:=turn i n ys H' w';rcases hgo with⟨stop,qn⟩|⟨go,step⟩
   .have Q1:=T.done Y eP eW eK eC i [] s' (o::oC σ fr) H' (notedBy (model X.prog X.w) X.A Y.env λe s''=>compPost (model X.prog X.w) X.A X.xe use Q' (.ref D) G.objs.size (.error e) s'') J' (fpY fr') st' stop;rw[eA] at Q1;refine jE Q1 λr s4 ⟨hr,J4⟩=>?_;subst hr;obtain⟨m,hn,_⟩:=J4.loc;rw[eE] at hn;obtain⟨os4,u4⟩:=eB J4;have free4:H' G.objs.size=none:=by have:=J4.free;rw[eE] at this;exact this
    have hok4:iW X.prog X.w H' s4.heap:=by have:=J4.hok;rw[eP,eW] at this;exact this
    exact hfin D G.objs.size H' s4 m (A.call' (ch:=f) (s':=s4) os4 u4 hok4 J4.bare t) hn ⟨free4,hCL,.inr hC1,hC2,hC3⟩ qn
   .have Q1:=T.item Y eP eW eK eC i [] s' (o::oC σ fr) H' (notedBy (model X.prog X.w) X.A Y.env λe s''=>compPost (model X.prog X.w) X.A X.xe use Q' (.ref D) G.objs.size (.error e) s'') J' (fpY fr') st' go;rw[eA] at Q1;refine jE Q1 λr s4 ⟨u,hr,h4⟩=>?_;subst hr;show wpAny _ _ (letOwnedTupleGo (.Name x px) (.ref it) u>>=λ_=>assign (.Name x px) Y.env u) _ _ s4;refine qi (jE h4 λ_ s5 ⟨v,H5,J5,r5,y5,st5,fr5⟩=>?_);have J5':=J5.pinned (fpY fr5) (T.obj _ _ st5);have G5:=Q8 (X:=Y) (i:=0) (x:=x) (pos:=px) (by rw[eN];exact S.nd) (by rw[eN];rfl) (.inl F) (.inr F) ([]++AK f s5.heap) s5 (o::oC σ fr) H5 v u (λσ6 H6=>σ6=some v::oC σ fr/\H6=H5) J5' r5 ⟨U,U⟩;rw[eP,eW,eA,eX] at G5;refine yN G5 (λ_ s6 ⟨σ6,H6,J6,e6,e6'⟩=>?_) λ_ _ z=>z.elim;subst e6 e6';have T6:=hT _ s6 _ _ _ J6 (step v _ y5);rw[eP,eW,eA,eX] at T6;have again:∀{s7:Shared}{H7:Hp}{zs:qa V},Inv Y ([]++AK f s5.heap) (some v::oC σ fr) H7 s7->(∃m',m'<n/\W (i+1) m' zs H7)->∃m,m<n/\∃i ys o H',Inv Y [] (o::oC σ fr) H' s7/\tn i s7.heap/\(∀b∈f,H' b=none)/\W i m ys H':=λ{s7 H7 zs} J7 ⟨m',hm,w7⟩=>by
     refine⟨m',hm,i+1,zs,some v,H7,J7.md,T.keep _ _ _ st5 λb a o e=>(J7.pin (b,o) (qx _ (qx _ (XC a e)))).1,λb a=>?_,w7⟩;obtain⟨o,e,d⟩:=T.obj _ _ st5 b a;exact(J7.pin (b,o) (qx _ (qx _ (XC a e)))).2.1
    refine yN T6 (λok s7 ⟨H7,J7,q7⟩=>?_) λ_ _ z=>z.elim
    cases ok with
    |false=>exact again J7 q7
    |true=>
     have E7:=hE _ s7 _ _ _ J7 q7;rw[eP,eW,eA,eX] at E7;show wpAny _ _ (eval elt Y.env) _ _ s7;refine yN E7 (λu8 s8 ⟨y8,H8,J8,r8,hD8,hz8,w8⟩=>?_) λ_ _ z=>z.elim;have A8:=Uj (X:=Y) _ s8 _ H8 (.ref D) [y8] (.ref D) [u8] (λz H9=>H9=upd H8 D (.lst (ys++[y8]))) J8 rfl (.cons r8 .nil) ⟨D,ys,y8,U,U,hD8,hz8,U⟩;rw[eP,eW,eA,eX] at A8;refine yN A8 (λ_ s9 ⟨z9,H9,J9,_,e9⟩=>?_) λ_ _ z=>z.elim;subst e9;exact again J9 w8
  .rw[<-hH3];have hbD:b≠D:=by
    rw[<-hD];obtain⟨o,e,_⟩:=T.obj _ _ O b a;exact zc (qT e)
   rw[Qa hbD];exact(f2 b a).1
 rw[eE] at loop;exact codeAny_compStart_list (loop _ ⟨_,U⟩) (T.self _ 0 _ _ _ (T.keep _ _ _ O λb a o e=>old b o (E b o e)) (loop _ ⟨_,U⟩))
def VL{X:Cx}{x:qb}{f:Pos}{iter elt:Expr}{ifs:qa Expr}{scope sc:Scope}{pos:Pos}{N:qe}{fr:qa (Nat×qb)}{g:TI}{tt:TT}{i:TE}
 (S:KW sc scope N x fr) (c:X.env.scope=sc) (j:X.N=N) (hc:X.calm=true) (k:PI X (.Name x f) iter g)
 (l:∀(C:qc)(s:Shared)(H:Hp)(a:qa qc),PTs (W2 X scope C (x::fr.map (·.2)) s H a) ifs tt)
 (he:∀(C:qc)(s:Shared)(H:Hp)(a:qa qc),PE (W2 X scope C (x::fr.map (·.2)) s H a) elt i)
 (n:∀z,foldedSetIterable iter X.env z=pure z:=by intro _;rfl) :
 PE X (.ListComp elt [⟨.Name x f,iter,ifs,0⟩] scope pos) (RO g fr tt i):=by
 intro pins s σ H Q I h;rw[eval_ListComp];refine LM (use:=none) S c j hc k l he n I h λD C H' s' m J p a q=>?_;exact⟨m,p,λh' d=>⟨.ref D,H',J.turned (t':=s'.toks) (λb o r e=>(d.2 b r).trans e) a.hn a.hL a.h1 a.h2 a.h3,U,q⟩⟩
def Xx{X:Cx}{x y:qb}{f py c:Pos}{i:Nat}{iter elt:Expr}{ifs:qa Expr}{scope sc:Scope}{pos:Pos}{N:qe}{fr:qa (Nat×qb)}{t:TI}{tt:TT}{u:TE}
 (S:KW sc scope N x fr) (g:X.env.scope=sc) (A:X.N=N) (hc:X.calm=true) (j:X.N.Nodup) (k:X.N[i]?=some y) (w:X.env.scope.names.lookup y=some .local) (B:PI X (.Name x f) iter t)
 (E:∀(C:qc)(s:Shared)(H:Hp)(d:qa qc),PTs (W2 X scope C (x::fr.map (·.2)) s H d) ifs tt)
 (he:∀(C:qc)(s:Shared)(H:Hp)(d:qa qc),PE (W2 X scope C (x::fr.map (·.2)) s H d) elt u)
 (F:∀z,foldedSetIterable iter X.env z=pure z:=by intro _;rfl)
 (l:swapsWith (.ListComp elt [⟨.Name x f,iter,ifs,0⟩] scope pos) (some (.Name y py)) c.line X.env=pure true:=by rfl) :
 PS X (.Assign [.Name y py] (.ListComp elt [⟨.Name x f,iter,ifs,0⟩] scope pos) c) (RQ (RO t fr tt u) (EZ i)):=by
 intro pins s σ H G I h;rw[exec_Assign_Name_used _ _ _ _ l];refine qi (wpAny_standAt (qi ?_));show wpAny _ X.A (do let _ <-comprehension (.ListComp elt [⟨.Name x f,iter,ifs,0⟩] scope pos) scope X.env _ (newList []) false (eval iter X.env) (some (assign (.Name y py) X.env))) _ _ s;refine qi (jE (LM (use:=some (assign (.Name y py) X.env)) (Q':=λ_ s'=>SP X pins G .next s') S g A hc B E he F I h λD C H' s' m J K d q=>?_) λ_ s' L=>qv (qv L));show wpAny _ _ (assign (.Name y py) X.env (.ref D)) _ _ s';refine wpAny_assign_Name (Ej J j k (.inl w) (v:=.ref D) rfl (λs5 M n=>?_) (.inr w));obtain⟨a,O,P⟩:=n;have p:C≠a:=by
  rcases P with z|z
  .rw[z];exact d.hL
  .exact xJ (d.h2 _ _ z)
 refine⟨m,K.sameBut O p,λh' r=>⟨_,H',M.turned (t':=s5.toks) (λb o Q e=>(r.2 b Q).trans e) d.hn d.hL d.h1 d.h2 d.h3,q⟩⟩
def Ru{bs:qa Bool}:(List.range bs.length).all (λi=>bs.getD i true)=bs.all id:=by
 rw[v5,jc,jc];constructor
 .intro h b a;obtain⟨i,c,e⟩:=List.mem_iff_getElem.mp a;have q:=h i (xh.mpr c);simp only[zC,qB c,Option.getD_some] at q;rw[<-e];exact q
 .intro h i c;have a:=xh.mp c;simp only[zC,qB a,Option.getD_some];exact h _ (jh a)
def az{X:Cx}(hc:X.calm=true):VY X (.builtin "all") (λxs H Q=>∃(p:qc)(bs:qa Bool),xs=[.ref p]/\zN X.K H p (bs.map V.bl)/\Q (.bl (bs.all id)) H):=by
 intro pins s σ H xs us Q I r h;obtain⟨p,bs,rfl,j,q⟩:=h;obtain⟨u,rfl,k⟩:=V3 r;cases k;obtain⟨its,f,pl,hz⟩:=I.list j;have hlen:=f.length;rw[qh] at hlen;have c:p<s.heap.objs.size:=by obtain⟨o,e,_⟩:=pl.isList;exact qT e
 refine call_all_walk (wpAny_pyIter_list pl.isList ?_);refine⟨s.heap.objs.size,_,[s.heap.objs.size],its.toArray.size,_,_,λi=>bs.getD i true,U,Walks.list (A:=X.A.in1) (I.ok.hd hc) s.heap.objs.size p (zc c) its.toArray,⟨⟨_,qL _ rfl,U,U⟩,pl.isList.push _⟩,?_,?_⟩
 .intro i v s' Q' t l d;have a:its[i]?=some v:=by simpa using l
  have w:i<its.length:=(qW.mp a).1;have m:(bs.map V.bl)[i]?=some (V.bl (bs.getD i true)):=by
   rw[qQ,qB (by omega)];simp[zC,qB (show i<bs.length by omega)]
  obtain⟨u,g,n⟩:=f.get m;rw[a] at g;cases g;cases n;exact jq d
 .intro h' a d;have hsz:its.toArray.size=bs.length:=by rw[qR];exact hlen.symm
  rw[hsz,Ru];exact⟨.bl (bs.all id),H,I.kept (t':=a) λb o e=>d b o (λz=>absurd (qT e) (by rw[qk.mp z];exact yk _)) (qw _ e),U,q⟩
def clsV:V->Option qd
 |.ty n=>some (.type n)
 |.ref a=>some (.ref a)
 |_=>none
def Y0{X:Cx}:VY X (.builtin "isinstance") (λxs H Q=>∃x c f t b,xs=[x,c]/\clsV c=some f/\WG X.K H x t/\kitOne X.K t f=some b/\Q (.bl b) H):=by
 intro pins s σ H xs us Q I r h;obtain⟨x,c,f,t,b,rfl,d,ty,g,q⟩:=h;obtain⟨u,i,rfl,j,rc⟩:=gx r;have e:i=f:=by
  cases c with
  |ty n=>cases d;exact rc
  |ref a=>cases d;exact rc
  |_=>cases d
 subst e;exact P9 I j ty g λk=>⟨.bl b,H,I.tok k,U,q⟩
def Vt{xs:qe}:∀{us:qg},QK (xs.map V.str) us->StrsAre us xs:=by
 induction xs with
 |nil=>intro us r;rw[List.map_nil] at r;cases r;exact .nil
 |cons y ys a=>
  intro us r;rw[qU] at r
  cases r with
  |cons b c=>
   obtain⟨t,e⟩:=b;subst e;exact .cons y t (a c)
inductive N3(K:Frag)(x:V)(xs:qa V)(H:Hp)(Q:VK):Prop
 |mk:∀(sep:qb)(p:qc)(ys:qe),x=.str sep->xs=[.ref p]->zN K H p (ys.map V.str)->(ys.map (·.length)).sum+ys.length*sep.length<=16777216->Q (.str (Txt.join sep ys)) H->N3 K x xs H Q
def g5(K:Frag):V->qa V->Hp->VK->Prop:=λx xs H Q=>N3 K x xs H Q
def FY{X:Cx}:MtR X "str.join" (g5 X.K):=by
 intro pins s σ H x xs v us Q I a b h;obtain⟨sep,p,ys,rfl,rfl,c,hz,q⟩:=h;obtain⟨t,rfl⟩:=a;obtain⟨u,rfl,d⟩:=V3 b;cases d;obtain⟨its,r,pl,_⟩:=I.list c;exact join_list pl.isList (by have:=Vt r;simpa using this) hz λt' k=>⟨.str (Txt.join sep ys),H,I.tok k,⟨t',U⟩,q⟩
inductive Sb(x:V)(lo:Option Int)(hi:Option Int)(H:Hp)(Q:VK):Prop
 |mk:∀y,x=.str y->y.length<=sizeLine->Q (.str (Txt.slice y lo hi)) H->Sb x lo hi H Q
def rSlS:V->Option Int->Option Int->Hp->VK->Prop:=λx lo a H Q=>Sb x lo a H Q
def Mg{X:Cx}:SlR X rSlS:=by
 intro pins s σ H x v f g lo a m Q I e b pl pu h;obtain⟨y,rfl,hz,q⟩:=h;obtain⟨t,rfl⟩:=e;refine⟨"str",_,F.slot_str_getitem.lookup,oV _ _ _,?_⟩;have fin:∀lo a,Q (.str (Txt.slice y lo a)) H->(Txt.slice y lo a).length<=sizeLine/\∀t' k,EP X pins σ Q (.str (Txt.slice y lo a) t') {s with toks:=k}:=λlo a q=>
  ⟨zu (Txt.slice_le y _ _) hz,λt' k=>⟨.str _,H,I.tok k,⟨t',U⟩,q⟩⟩
 cases pl with
 |none=>
  cases pu with
  |none=>exact uG (l:=none) (u:=none) (st:=none) b rfl (Qa1 (fin _ _ q))
  |int j c=>exact uG (l:=none) (u:=some (j,c)) (st:=none) b rfl (Qa1 (fin _ _ q))
 |int i d=>
  cases pu with
  |none=>exact uG (l:=some (i,d)) (u:=none) (st:=none) b rfl (Qa1 (fin _ _ q))
  |int j c=>exact uG (l:=some (i,d)) (u:=some (j,c)) (st:=none) b rfl (Qa1 (fin _ _ q))
mutual
inductive RD(K:Frag)(H:Hp):V->PyData->Prop
 |non:RD K H .non .none
 |bl (b:Bool):RD K H (.bl b) (.bool b)
 |int (i:Int):RD K H (.int i) (.int i)
 |str (x:qb):RD K H (.str x) (.str x)
 |lst {a:qc} {xs:qa V} {ds:qa PyData}:zN K H a xs->RDs K H xs ds->RD K H (.ref a) (.list ds)
 |tup {a:qc} {xs:qa V} {ds:qa PyData}:jW K H a xs->RDs K H xs ds->RD K H (.ref a) (.tuple ds)
inductive RDs(K:Frag)(H:Hp):qa V->qa PyData->Prop
 |nil:RDs K H [] []
 |cons {x:V} {xs:qa V} {d:PyData} {ds:qa PyData}:RD K H x d->RDs K H xs ds->RDs K H (x::xs) (d::ds)
end
mutual
def RD.reads{X:Cx}{pins:qa (qc×Obj)}{σ:St}{H:Hp}{s:Shared}(I:Inv X pins σ H s):∀{x:V}{d:PyData}{u:qd},RD X.K H x d->QN x u->∃as,Reads s.heap u d as
 |_,_,_,.non,r=>by cases (show _=Value.none from r);exact⟨_,.none⟩
 |_,_,_,.bl b,r=>by cases (show _=Value.bool b from r);exact⟨_,.bool b⟩
 |_,_,_,.int i,r=>by obtain⟨t,e⟩:=r;subst e;exact⟨_,.int i t⟩
 |_,_,_,.str x,r=>by obtain⟨t,e⟩:=r;subst e;exact⟨_,.str x t⟩
 |_,_,_,.lst (a:=a) f g,r=>by
  cases (show _=Value.ref a from r);obtain⟨its,h,pl,_⟩:=I.list f;obtain⟨as,j⟩:=RDs.reads I g h;obtain⟨o,e,c,n,d⟩:=pl.isList;exact⟨_,.list e c d (by simpa using j)⟩
 |_,_,_,.tup (a:=a) f g,r=>by
  cases (show _=Value.ref a from r);obtain⟨its,h,pl,_⟩:=I.tuple f;obtain⟨as,j⟩:=RDs.reads I g h;obtain⟨o,e,c,n,d⟩:=pl;exact⟨_,.tuple e c d (by simpa using j)⟩
def RDs.reads{X:Cx}{pins:qa (qc×Obj)}{σ:St}{H:Hp}{s:Shared}(I:Inv X pins σ H s):∀{xs:qa V}{ds:qa PyData}{us:qg},RDs X.K H xs ds->QK xs us->∃as,ReadsAll s.heap us ds as
 |_,_,_,.nil,r=>by cases r;exact⟨_,.nil⟩
 |_,_,_,.cons a b,r=>by
  cases r with
  |cons c d=>
   obtain⟨as,a1⟩:=RD.reads I a c;obtain⟨bs,a2⟩:=RDs.reads I b d;exact⟨_,.cons a1 a2⟩
end
inductive Sl(K:Frag)(x:V)(y:V)(H:Hp)(Q:VK):Prop
 |mk:∀d e,RD K H x d->RD K H y e->SeqAt.shaped d=true->SeqAt.shaped e=true->Q (.bl (PyData.eqv d e)) H->Sl K x y H Q
def g9(K:Frag):R2:=λx y H Q=>Sl K x y H Q
inductive Sh(K:Frag)(x:V)(y:V)(H:Hp)(Q:VK):Prop
 |mk:∀d e,RD K H x d->RD K H y e->SeqAt.shaped d=true->SeqAt.shaped e=true->Q (.bl (!PyData.eqv d e)) H->Sh K x y H Q
def g4(K:Frag):R2:=λx y H Q=>Sh K x y H Q
def SM{X:Cx}(a:X.A.units+64<cLine):uz X (compareOp .Eq) (g9 X.K):=by
 intro pins s σ H x y v u Q I b c h;obtain⟨d,e,hd,he,f,g,q⟩:=h;obtain⟨as,i⟩:=hd.reads I b;obtain⟨bs,j⟩:=he.reads I c;exact eq_dataH i j f g a ⟨.bl _,H,I,U,q⟩
def Wu{X:Cx}(a:X.A.units+64<cLine):uz X (compareOp .NotEq) (g4 X.K):=by
 intro pins s σ H x y v u Q I b c h;obtain⟨d,e,hd,he,f,g,q⟩:=h;obtain⟨as,i⟩:=hd.reads I b;obtain⟨bs,j⟩:=he.reads I c;exact ne_dataH i j f g a ⟨.bl _,H,I,U,q⟩
def OZ{n:Nat}{P:qg->Prop}(h:∀a us,us.length=n->P (a::us)):∀us:qg,us.length=n+1->P us:=λus e=>by
 cases us with
 |nil=>exact absurd e (Nat.succ_ne_zero n).symm
 |cons a us=>exact h a us (Nat.succ.inj e)
def us_0{P:qg->Prop}(h:P []):∀us:qg,us.length=0->P us:=λus e=>by rw[List.eq_nil_of_length_eq_zero e];exact h
def gy{P:qg->Prop}(h:∀a,P [a]):∀us:qg,us.length=1->P us:=OZ λa=>us_0 (P:=λus=>P (a::us)) (h a)
def O1{P:qg->Prop}(h:∀a b,P [a,b]):∀us:qg,us.length=2->P us:=OZ λa=>gy (P:=λus=>P (a::us)) (λb=>h a b)
def O0{P:qg->Prop}(h:∀a b c,P [a,b,c]):∀us:qg,us.length=3->P us:=OZ λa=>O1 (P:=λus=>P (a::us)) (λb c=>h a b c)
def aN{P:qg->Prop}(h:∀a b c d,P [a,b,c,d]):∀us:qg,us.length=4->P us:=OZ λa=>O0 (P:=λus=>P (a::us)) (λb c d=>h a b c d)
def dq{P:qg->Prop}(h:∀a b c d e,P [a,b,c,d,e]):∀us:qg,us.length=5->P us:=OZ λa=>aN (P:=λus=>P (a::us)) (λb c d e=>h a b c d e)
def us_6{P:qg->Prop}(h:∀a b c d e f,P [a,b,c,d,e,f]):∀us:qg,us.length=6->P us:=OZ λa=>dq (P:=λus=>P (a::us)) (λb c d e f=>h a b c d e f)
inductive Ex2{α0 α1:Type}(P:α0->α1->Prop):Prop
 |mk:∀x0 x1,P x0 x1->Ex2 P
inductive Ex3{α0 α1 α2:Type}(P:α0->α1->α2->Prop):Prop
 |mk:∀x0 x1 x2,P x0 x1 x2->Ex3 P
inductive Ex5{α0 α1 α2 α3 α4:Type}(P:α0->α1->α2->α3->α4->Prop):Prop
 |mk:∀x0 x1 x2 x3 x4,P x0 x1 x2 x3 x4->Ex5 P
inductive gu(p0 p1 p2 p3 p4 p5 p6:Prop):Prop
 |mk:p0->p1->p2->p3->p4->p5->p6->gu p0 p1 p2 p3 p4 p5 p6
inductive iv(p0 p1 p2 p3 p4 p5 p6 p7:Prop):Prop
 |mk:p0->p1->p2->p3->p4->p5->p6->p7->iv p0 p1 p2 p3 p4 p5 p6 p7
inductive gs(p0 p1 p2 p3 p4 p5 p6 p7 p8:Prop):Prop
 |mk:p0->p1->p2->p3->p4->p5->p6->p7->p8->gs p0 p1 p2 p3 p4 p5 p6 p7 p8
def DK{α:Type}{xs:qa α}{i:Int}(h0:0<=i)(b:i<(xs.length:Int)):∃v,nE xs i=some v/\v∈xs/\xs[i.toNat]?=some v:=by
 have a:i.toNat<xs.length:=by omega
 refine⟨xs[i.toNat],?_,jh a,qB a⟩;have e:((i.toNat:Nat):Int)=i:=by omega
 have q:=QB (xs:=xs) (j:=i.toNat) (qB a);rw[e] at q;exact q
def cz{α:Type}{xs:qa α}(i:Int)(h:0<xs.length):∃v,nE xs (i%(xs.length:Int))=some v/\v∈xs/\xs[(i%(xs.length:Int)).toNat]?=some v:=
 DK (zA _ (by omega)) (zq _ (by omega))
def Qj.zk{H:Hp}{p:qc}{o:HO}(h:H p=none):Qj H (upd H p o):=λb u e=>by rw[Qa (Qb e h)];exact e
def Qj.z6{H H':Hp}{p:qc}{o:HO}(s:Qj H H')(h:H p=none):Qj H (upd H' p o):=λb u e=>by rw[Qa (Qb e h)];exact s b u e
def CQ{X:Cx}{x:qb}{v:V}{pos:Pos}(hg:Gl X x)(h:∃u,X.mg x=some u/\QN v u)(hd:(x==("__debug__":qb))=false:=by decide):PE X (.Name x pos) (tC v):=by
 obtain⟨u,hm,r⟩:=h;exact bz hg hm r hd
def Lr{X:Cx}(K:Frag)(a:X.K=K:=by rfl):IxR X (g7 K):=a▸QX
def Up{X:Cx}(K:Frag)(a:X.K=K:=by rfl):IxR X (g6 K):=a▸QP
def Mv{X:Cx}(K:Frag)(a:X.K=K:=by rfl):uz X (compareOp .In) (rIn K false):=a▸Ph
def DS{X:Cx}(K:Frag)(a:X.K=K:=by rfl):uz X (compareOp .NotIn) (rIn K true):=a▸Xz
section
variable {X:Cx}{o e:Expr}{es:qa Expr}{to:TE}{t:TA}{name:qb}{apos cpos:Pos}{T id:String}{r:V->qa V->Hp->VK->Prop}
def bA(K:Frag)(d:PlainAttrs T)(slot:Slot T name id)(c:typeOf (.builtin id)=pure (.type "method_descriptor"))(hm:MtR X id r)(e:PE X o to)(f:X.K=K:=by rfl)
 (a:attributeBase o name X.env (eval o X.env)=eval o X.env:=by rfl) (b:(apos.endLine==cpos.line)=true:=by rfl):PE X (.Call (.Attribute o name apos) [] [] cpos) (gR K T r to):=
 f▸CS d slot c hm e a b
end
def Mr:Expr->Bool
 |.Starred ..=>false
 |_=>true
def Co{e:Expr}{es:qa Expr}{env:Env}(h:Mr e=true):starEach (e::es) env=(false,eval e env)::starEach es env:=by
 cases e<;>first|rfl|(cases h)
def zg{X:Cx}{e:Expr}{es:qa Expr}{a:TE}{t:TA}(b:PE X e a)(c:PA X es t)(h:Mr e=true:=by rfl):PA X (e::es) (RN a t):=Oc b c (Co h)
structure PAs(X:Cx)(es:qa Expr)(t:TA):Prop where
 h:PA X es t
def QA{X:Cx}:PAs X [] aR:=⟨Qf⟩
def Qh{X:Cx}{e:Expr}{es:qa Expr}{a:TE}{t:TA}(b:PE X e a)(c:PAs X es t)(h:Mr e=true:=by rfl):PAs X (e::es) (RN a t):=⟨zg b c.h h⟩
def KD{X:Cx}{es:qa Expr}{t:TA}{pos:Pos}(h:PAs X es t):PE X (.List es pos) (gH t):=eV h.h
def GZ{X:Cx}{es:qa Expr}{t:TA}{a:Nat}{pos:Pos}(h:PAs X es t):PE X (.Tuple es a pos) (gC t):=eQ h.h
def LK{x:qb}{fr:qa (Nat×qb)}{h:TE}{σ:St}{H1:Hp}{Q:VK}(f:Nat->V)(hz:x.cps.size<=sizeLine)
 (d:∀(c:Nat)(g:Hp)(Q':VK),c∈x.cps.toList->Q' (f c) g->h (some (.str ⟨#[c]⟩)::oC σ fr) g Q')
 (k:∀D,H1 D=none->Q (.ref D) (upd H1 D (.lst (x.cps.toList.map f)))) :
 Yr (Its x) fr Ee h σ H1 Q:=by
 unfold Yr;intro D l;refine⟨λi m ys j=>m=x.cps.size-i/\i<=x.cps.size/\ys=(x.cps.toList.take i).map f/\j=upd H1 D (.lst ys),⟨x.cps.size,by simp,za _,by simp,U⟩,?_⟩;rintro i m ys j ⟨rfl,n,rfl,rfl⟩;refine⟨Qc,?_⟩;by_cases a:i<x.cps.size
 .refine .inr ⟨a,?_⟩;rintro v g ⟨rfl,c,hc,rfl⟩;refine GC (Yj ?_);have b:x.cps.toList[i]?=some c:=by simpa using hc
  refine d c _ _ (qM b) ⟨Qc,?_,x.cps.size-(i+1),by omega,U,a,?_,Kt⟩
  .rw[qh,q0];simp only[zf];omega
  .rw[zm,b];simp
 .have e:i=x.cps.size:=by omega
  subst e;have b:x.cps.toList.take x.cps.size=x.cps.toList:=zj (by simp);refine .inl ⟨U,?_⟩;rw[b];exact k D l
def Cn{α:Type}(g:α->Nat):∀(l:qa α),(∀x∈l,g x=1)->(l.map g).sum=l.length
 |[],_=>rfl
 |a::r,h=>by
  rw[qU,List.sum_cons,h a qy,Cn g r λx b=>h x (qH _ b),qX];omega
def OR(x y:qb):(x++y).length=x.length+y.length:=by
 show(x.cps++y.cps).size=_;rw[Array.size_append];rfl
def FN(c:Nat):(⟨#[c]⟩:qb).length=1:=rfl
def wN(x:qb):Prop:=∀c∈x.cps.toList,c<128
def wN.ok{x:qb}(h:wN x):PyData.strOk x=true:=by
 unfold PyData.strOk;rw[Array.all_eq_true'];intro c hc;have:=h c (Array.mem_toList_iff.mpr hc);exact qu (by omega)
def wN.app{x y:qb}(a:wN x)(b:wN y):wN (x++y):=λc hc=>by
 have e:(x++y).cps.toList=x.cps.toList++y.cps.toList:=by show(x.cps++y.cps).toList=_;simp
 rw[e] at hc;rcases qt.mp hc with z|z
 .exact a c z
 .exact b c z
def wN.one{x:qb}{c:Nat}(h:wN x)(hc:c∈x.cps.toList):wN ⟨#[c]⟩:=λd hd=>by
 have:d=c:=by simpa using hd
 rw[this];exact h c hc
inductive Iz(x:V)(xs:qa V)(H:Hp)(Q:VK):Prop
 |mk:∀y,x=.str y->xs=[]->wN y->y.length<=1000000->Q (.str ⟨y.cps.map up1⟩) H->Iz x xs H Q
def d9:V->qa V->Hp->VK->Prop:=λx xs H Q=>Iz x xs H Q
def Ts{X:Cx}:MtR X "str.upper" d9:=by
 intro pins s σ H x xs v us Q I a b h;obtain⟨y,rfl,rfl,c,hz,q⟩:=h;obtain⟨t,rfl⟩:=a;cases b;refine SCL.upper (by omega) λ_=>?_;rw[upper_ascii c];exact⟨.str _,H,I.tok _,⟨_,U⟩,q⟩
inductive IB(x:V)(xs:qa V)(H:Hp)(Q:VK):Prop
 |mk:∀y,x=.str y->xs=[]->wN y->y.length<=1000000->Q (.str ⟨y.cps.map lo1⟩) H->IB x xs H Q
def ee:V->qa V->Hp->VK->Prop:=λx xs H Q=>IB x xs H Q
def Lc{X:Cx}:MtR X "str.lower" ee:=by
 intro pins s σ H x xs v us Q I a b h;obtain⟨y,rfl,rfl,c,hz,q⟩:=h;obtain⟨t,rfl⟩:=a;cases b;refine SCL.lower (by omega) λ_=>?_;rw[lower_ascii c];exact⟨.str _,H,I.tok _,⟨_,U⟩,q⟩
def dz{c:Nat}(h:c<128):up1 c<128:=by unfold up1;split<;>omega
def wN.upper{x:qb}(h:wN x):wN ⟨x.cps.map up1⟩:=λc hc=>by
 have:c∈x.cps.toList.map up1:=by simpa using hc
 obtain⟨d,hd,rfl⟩:=qj.mp this;exact dz (h d hd)
def XS:∀{xs:qa V}{us:qg},xs.length=us.length->(∀(j:Nat)(x:V)(u:qd),xs[j]?=some x->us[j]?=some u->QN x u)->QK xs us
 |[],[],_,_=>.nil
 |[],_::_,h,_=>by cases h
 |_::_,[],h,_=>by cases h
 |x::xs,u::us,a,hg=>.cons (hg 0 x u rfl rfl) (XS (by simpa using a) λj y w b c=>hg (j+1) y w (by simpa using b) (by simpa using c))
def KV.at{b:Type}:∀{a:qa (b×V)}{vs:qa (b×qd)}{j:Nat}{p:b×V}{q:b×qd},KV a vs->a[j]?=some p->vs[j]?=some q->p.1=q.1
 |_,_,_,_,_,.nil,h,_=>by simp at h
 |_,_,0,_,_,.cons r _,c,d=>by
  simp only[List.getElem?_cons_zero,Option.some.injEq] at c d;subst c d;exact r.1
 |_,_,j+1,_,_,.cons _ t,c,d=>KV.at (j:=j) (show KV _ _ from t) (by simpa using c) (by simpa using d)
def Ko{X:Cx}(hc:X.calm=true):VY X (.type "list") (λxs H Q=>∃p a,xs=[.ref p]/\H p=some (.dK a)/\∀l,H l=none->Q (.ref l) (upd H l (.lst (a.map λd=>kV d.1)))):=by
 intro pins s σ H xs us Q I r h;obtain⟨p,a,rfl,n,q⟩:=h;obtain⟨u,rfl,v⟩:=V3 r;cases v;obtain⟨hz,f,vs,m,o,es,w,A,B,C,D,E,F⟩:=DF I.hok n;have G:s.heap.DictAt (Yd X.prog X.w) p vs w:=⟨o,es,A,B,C,D,E,F⟩;have hlen:a.length=vs.length:=KV.length m;refine PySem.W.kdl_call (kdl_dict f) (I.ok.hd hc) G (by rw[<-hlen];exact hz) λh' J b K L hS c=>?_;have M:QK (a.map λd=>kV d.1) b.toList:=by
  refine XS (by rw[qh,hlen];exact c.1.symm.trans (by simp)) λj x u e N=>?_;rw[qQ] at e
  cases g:a[j]? with
  |none=>rw[g] at e;cases e
  |some d=>
   rw[g] at e;cases e;obtain⟨k,y,O,P⟩:=c.2 j u (by rw[<-zt];exact N);have R:d.1=k:=KV.at m g O;show QN (kV d.1) u;rw[R];rcases Yo (show Ae k u=true from P) with⟨i,t,rfl,rfl⟩|⟨z,t,rfl,rfl⟩
   .exact⟨t,U⟩
   .exact⟨t,U⟩
 exact⟨.ref s.heap.objs.size,_,I.laid (t':=J) L (qD _) (show Q2 X.prog X.w _ h' _ (.lst _) from⟨by rw[qh];exact hz,b.toList,K,M,by rw[vl];exact hS⟩),U,q _ (I.hok.fresh (qD _))⟩
def Vb:∀l:qa (qb×Tok),QK ((l.map (·.1)).map V.str) (strValues l)
 |[]=>.nil
 |p::r=>.cons ⟨p.2,U⟩ (Vb r)
inductive Ex(x:V)(xs:qa V)(H:Hp)(Q:VK):Prop
 |mk:∀y,x=.str y->xs=[]->y.length<=1000000->(∀l,H l=none->Q (.ref l) (upd H l (.lst ((Txt.words y).map V.str))))->Ex x xs H Q
def bj:V->qa V->Hp->VK->Prop:=λx xs H Q=>Ex x xs H Q
def GX{K:Frag}{H:Hp}:∀xs:qe,RDs K H (xs.map V.str) (xs.map PyData.str)
 |[]=>.nil
 |x::r=>.cons (.str x) (GX r)
def Y5{K:Frag}{H:Hp}{a:qc}{xs:qe}(h:zN K H a (xs.map V.str)):RD K H (.ref a) (.list (xs.map PyData.str)):=.lst h (GX xs)
def Dm:∀{xs:qe},(∀x∈xs,wN x)->PyData.canLayAll0 (xs.map PyData.str)=true/\PyData.depthAll (xs.map PyData.str)=0
 |[],_=>⟨U,U⟩
 |x::r,h=>by
  have q:=Dm (xs:=r) λy a=>h y (qH _ a);have e:=(h x qy).ok;simp only[qU,PyData.canLayAll0,PyData.canLay0,PyData.depthAll,PyData.depth,q.1,q.2,e];exact⟨U,U⟩
def YO{xs:qe}(h:∀x∈xs,wN x):SeqAt.shaped (.list (xs.map PyData.str))=true:=by
 have q:=Dm h;unfold SeqAt.shaped;simp only[PyData.canLay0,PyData.depth,q.1,q.2];rfl
def Bw:∀xs ys:qe,PyData.eqvAll (xs.map PyData.str) (ys.map PyData.str)=decide (xs=ys)
 |[],[]=>by simp[PyData.eqvAll]
 |[],_::_=>by simp[PyData.eqvAll]
 |_::_,[]=>by simp[PyData.eqvAll]
 |x::r,y::t=>by
  simp only[qU,PyData.eqvAll,PyData.eqv,Bw r t];by_cases h:x=y<;>by_cases h':r=t<;>simp[h,h']
def LG(xs ys:qe):PyData.eqv (.list (xs.map PyData.str)) (.list (ys.map PyData.str))=decide (xs=ys):=by
 simp only[PyData.eqv];exact Bw xs ys
def YY(acc:qe)(t:qb):qe:=if t∈acc then acc else acc++[t]
def WX(xs:qe):qe:=xs.foldl YY []
def EB(xs:qe)(t:qb):WX (xs++[t])=YY (WX xs) t:=by
 unfold WX;rw[jB];rfl
def K9:∀(xs acc:qe),(xs.foldl YY acc).length<=acc.length+xs.length
 |[],acc=>qD _
 |t::r,acc=>by
  rw[zy];refine zu (K9 r _) ?_;unfold YY;split
  .rw[qX];omega
  .rw[qz,qS,qX];omega
def SN(xs:qe):(WX xs).length<=xs.length:=by
 have:=K9 xs [];rw[jZ,Nat.zero_add] at this;exact this
def K8:∀(xs acc:qe){t:qb},t∈xs.foldl YY acc->t∈acc\/t∈xs
 |[],acc,t,h=>.inl h
 |u::r,acc,t,h=>by
  rw[zy] at h;rcases K8 r _ h with z|z
  .unfold YY at z;split at z
   .exact .inl z
   .rcases qt.mp z with y|y
    .exact .inl y
    .exact .inr (by rw[qk.mp y];exact qy)
  .exact .inr (qH _ z)
def II{xs:qe}{t:qb}(h:t∈WX xs):t∈xs:=by
 rcases K8 xs [] h with z|z
 .exact nomatch z
 .exact z
def EV{a:qa (Key×V)}{k:Key}{v:V}:(k∈a.map (·.1)->(Ye a k v).map (·.1)=a.map (·.1))/\(¬k∈a.map (·.1)->(Ye a k v).map (·.1)=a.map (·.1)++[k]):=by
 cases e:Qv a k with
 |none=>
  refine⟨λh=>absurd h (RA e),λ_=>?_⟩;rw[X6 v e,qJ];rfl
 |some u=>
  refine⟨λ_=>?_,λh=>absurd (Ng e) h⟩;unfold Ye;have q:(a.any λb=>decide (b.1=k))=true:=by rw[UO,e];rfl
  rw[qG q,qV];refine jT λp _=>?_;show(if p.1=k then (p.1,v) else p).1=p.1;split<;>rfl
def Af{xs:qe}{t:qb}:inV (.str t) (xs.map V.str)=decide (t∈xs):=by
 unfold inV;rw[List.any_map,v5,uO,decide_eq_true_eq];constructor
 .rintro⟨x,a,e⟩;have:x=t:=eq_of_beq (show(x==t)=true from e);rw[<-this];exact a
 .intro h;exact⟨t,h,show(t==t)=true from yr t⟩
def KQ(xs:qe):(xs.map V.str).all Ge=true:=by
 rw[List.all_map,jc];intro x _;rfl
abbrev aZ:qb:="abcdefghijklmnopqrstuvwxyz0123456789"
def gh:wN aZ:=by
 have h:(aZ.cps.toList.all λc=>decide (c<128))=true:=by decide +kernel
 intro c hc;exact qo (jc.mp h c hc)
structure Uz(x:qb):Prop where
 lo:1<=x.length
 hi:x.length<=20
 in_:∀c∈x.cps.toList,c∈aZ.cps.toList
def Uz.asc{x:qb}(h:Uz x):wN x:=λc hc=>gh c (h.in_ c hc)
def Ou(ys:qe):(Txt.join "" ys).cps.toList=(ys.map (·.cps.toList)).flatten:=by
 have key:∀(r:qe)(acc:Array Nat),(r.foldl (λacc p=>acc++("":qb).cps++p.cps) acc).toList=acc.toList++(r.map (·.cps.toList)).flatten:=by
  intro r
  induction r with
  |nil=>intro acc;simp
  |cons y r a=>
   intro acc;rw[zy,a,qU,j9];have e:("":qb).cps=#[]:=by decide +kernel
   rw[e];simp
 cases ys with
 |nil=>rfl
 |cons y r=>exact(key r y.cps).trans (by rw[qU,j9])
def VS(x:qb):x.length=x.cps.toList.length:=by simp[Str.length]
def Bb{ys:qe}(h:∀y∈ys,y.length=1):(Txt.join "" ys).length=ys.length:=by
 rw[VS,Ou,List.length_flatten,qV];exact Cn _ _ λy a=>by
  have:=h y a;rw[VS] at this;exact this
def Yl(x y:qb):(x++y).cps.toList=x.cps.toList++y.cps.toList:=by show(x.cps++y.cps).toList=_;simp
def E6:("":qb).length=0:=by decide +kernel
def OU(z y:qb):Prop:=∃c,c∈z.cps.toList/\y=⟨#[c]⟩
def OU.len{z y:qb}(h:OU z y):y.length=1:=by obtain⟨c,_,rfl⟩:=h;rfl
def MP{z:qb}{ys:qe}(h:∀y∈ys,OU z y):(Txt.join "" ys).length=ys.length/\∀c∈(Txt.join "" ys).cps.toList,c∈z.cps.toList:=by
 refine⟨Bb λy a=>(h y a).len,λc hc=>?_⟩;rw[Ou] at hc;obtain⟨l,e,b⟩:=List.mem_flatten.mp hc;obtain⟨y,a,rfl⟩:=qj.mp e;obtain⟨d,hd,rfl⟩:=h y a;have:c=d:=by simpa using b
 rw[this];exact hd
def Dn{ys:qe}(h:∀y∈ys,y.length=1)(a:ys.length<=100000):(ys.map (·.length)).sum+ys.length*("":qb).length<=16777216:=by
 rw[Cn _ _ h,E6];omega
def Pg{z:qb}{i:Int}(h0:0<=i)(d:i<(z.cps.toList.length:Int)):∃c,nE z.cps.toList i=some c/\c∈z.cps.toList:=by
 obtain⟨c,a,b,_⟩:=DK h0 d;exact⟨c,a,b⟩
def ip:1000002<=sizeLine:=by decide
def PN{X:Cx}:MtR X "str.split" bj:=by
 intro pins s σ H x xs v us Q I d e h;obtain⟨y,rfl,rfl,hz,q⟩:=h;obtain⟨t,rfl⟩:=d;cases e;have i:=ip;have j:=(StrLaws.sw_weight y).1;have k:=StrLaws.len_le_wsum (Builtin.Str.spaceWords y (y.length+1));have c:(Builtin.Str.spaceWords y (y.length+1)).length<=sizeLine:=by omega
 have f:(Builtin.Str.spaceWords y (y.length+1)).length<=y.length+1:=by omega
 refine vS tL (oV _ _ _) rW (F.args_str_split_1 _) (meets_str_split_space y t (by omega) c) ?_;cases hw:Builtin.Str.spaceWords y (y.length+1)==[(0,y.length)]
 .simp only[zE,yB];rw[strsFrom_eq];have a:(numbered s.toks (wordsOf y)).map (·.1)=Txt.words y:=(numbered_texts _ _).trans (qA (iZ hw)).symm;have g:(Txt.words y).length<=sizeLine:=by
   rw[<-a,numbered_texts];show(List.map _ _).length<=_;rw[qh];exact c
  have b:=Vb (numbered s.toks (wordsOf y));rw[a] at b;exact⟨.ref s.heap.objs.size,_,I.Qbq b (by rw[qh];exact g),U,q _ I.fresh⟩
 .simp only[vw];have a:([(y,t)]:qa (qb×Tok)).map (·.1)=Txt.words y:=(qG hw).symm;have b:=Vb [(y,t)];rw[a] at b;exact⟨.ref s.heap.objs.size,_,I.Qbq (t':=s.toks) b (by rw[qh,<-a];show 1<=sizeLine;decide),U,q _ I.fresh⟩
abbrev rS:qb:="abcdefghijklmnopqrstuvwxyzABCDEFGHIJKLMNOPQRSTUVWXYZ0123456789"
def AF(c:Nat):Bool:=decide (c∈rS.cps.toList)
def gS(c:Nat):Nat:=if AF c=true then lo1 c else 32
def Iq:(rS.cps.toList.all λc=>!Unicode.isSpace (lo1 c))=true:=by decide +kernel
def LW:Unicode.isSpace 32=true:=by decide +kernel
def wJ(st:qe×qb)(c:Nat):qe×qb:=if AF c=true then (st.1,st.2++⟨#[lo1 c]⟩) else (st.1++[st.2],Str.empty)
def wK(l:qa Nat):qe×qb:=l.foldl wJ ([],Str.empty)
def BR(w:qb):Bool:=!(w==Str.empty)
def wb(x:qb):qe:=((wK x.cps.toList).1++[(wK x.cps.toList).2]).filter BR
def KN(w:qb):(w.length=0)↔w=Str.empty:=⟨KWd.len0,λh=>by rw[h];rfl⟩
def Ik:∀(l:qa Nat)(st q:qe×qb),q.2=st.2->q.1=st.1.filter BR->((l.map gS).foldl KWd.step q).2=(l.foldl wJ st).2/\((l.map gS).foldl KWd.step q).1=(l.foldl wJ st).1.filter BR
 |[],st,q,a,b=>⟨a,b⟩
 |c::l,st,q,a,b=>by
  rw[qU,zy,zy];refine Ik l _ _ ?_ ?_
  all_goals
   unfold KWd.step wJ gS;cases d:AF c
   .simp only[zE,yB,LW,vw];by_cases he:q.2.length=0
    .rw[qG he];have e:=(KN _).mp he
     first
     |exact e
     |(rw[b,zb,<-a,e];simp[BR])
    .have e:BR q.2=true:=by
      unfold BR;rw[oy,jR];exact λz=>he ((KN _).mpr z)
     first
     |(rw[qA he];done)
     |(rw[qA he,b,zb,<-a];simp[e])
   .have f:Unicode.isSpace (lo1 c)=false:=by
     have:=jc.mp Iq c (qo d);simpa using this
    simp only[vw,f,zE,yB]
    first
    |exact b
    |rw[a]
def OX{x y:qb}(h:y.cps.toList=x.cps.toList.map gS):Txt.words y=wb x:=by
 rw[KWd.words_scan];have q:=Ik x.cps.toList ([],Str.empty) ([],Str.empty) rfl rfl;unfold KWd.fin KWd.scan wb wK;rw[h,zb,q.1,q.2];by_cases he:(List.foldl wJ ([],Str.empty) x.cps.toList).2.length=0
 .rw[qG he];have e:=(KN _).mp he;rw[e];simp[BR]
 .rw[qA he];have e:BR (List.foldl wJ ([],Str.empty) x.cps.toList).2=true:=by
   unfold BR;rw[oy,jR];exact λz=>he ((KN _).mpr z)
  rw[qO,e];simp
structure Aq(K:Frag)(x qual:qb)(st:Stmt)(f:qc)(fd:FuncData):Prop where
 ex:∃(oc:qd)(od:Option qc)(dV kV doc pm:qd)(an:Option qc)(cdv ct:qd)(osl:Array (Option qd)),
  fd=fnOf x qual (Y6 st) (YH st) (Qg st) dV kV doc pm an cdv ct/\K.lookup f=some ⟨oc,od,.func fd,osl⟩/\codeIn K cdv qual=true
 kp:keepIn K (.ref f)=true
def Aq.ok{P:Program}{w:World}{K:Frag}{mg:qb->Option qd}{base:Heap}{x qual:qb}{st:Stmt}{f:qc}{fd:FuncData}{N ps:qe}{k:Nat}{sp:Sp}(F:Aq K x qual st f fd)(S:Qn N ps (Qg st))
 (b:∀(a:qd)(A:Around)(outer:qa Env)(s:Shared)(H:Hp)(vs:qa V)(Q:VK)(E:XK),QG k (A.deeper (envOfC qual (Qg st) s.heap.objs.size f a))->sp vs H Q E ->
   ∃t,PSs (Hr j6 P w K mg base N qual (Qg st) f a A outer s H E).nox (YH st) t/\t {nx:=λ_ H'=>Q .non H',rt:=Q} (start N vs) H) (len:∀vs H Q E,sp vs H Q E->vs.length=ps.length:=by intro _ _ _ _ h;cases h;subst_vars;rfl):QQ P w K mg base j6 (k+1) f fd ps sp:=by
 obtain⟨j,l,m,kV,doc,pm,an,a,ct,e,rfl,g,c⟩:=F.ex;refine cZ g c S len λA outer s H vs Q E i d=>?_;obtain⟨t,h,q⟩:=b a A outer s H vs Q E i d;exact⟨t,h.nox,q⟩
def cc{K:Frag}{x qual:qb}{st:Stmt}{f:qc}{e d:qd}{g an:Option qc}{b:Array (Option qd)}{kV doc pm a ct:qd}(l:K.lookup f=some ⟨e,g,.func (fnOf x qual (Y6 st) (YH st) (Qg st) d kV doc pm an a ct),b⟩)
 (c:codeIn K a qual=true) (k:keepIn K (.ref f)=true):Aq K x qual st f (fnOf x qual (Y6 st) (YH st) (Qg st) d kV doc pm an a ct):=⟨⟨e,g,d,kV,doc,pm,an,a,ct,b,U,l,c⟩,k⟩
def VM{K:Frag}{H:Hp}{x y:V}{d:PyData}{Q:VK}(a:RD K H x d)(b:RD K H y d)(h:SeqAt.shaped d=true)(q:Q (.bl false) H):g4 K x y H Q:=
 ⟨d,d,a,b,h,h,by rw[SeqAt.eqv_refl d (SeqAt.canLay_of_shaped h)];exact q⟩
def cp{K:Frag}{H:Hp}{x y:V}{d:PyData}{Q:VK}(a:RD K H x d)(b:RD K H y d)(h:SeqAt.shaped d=true)(q:Q (.bl true) H):g9 K x y H Q:=
 ⟨d,d,a,b,h,h,by rw[SeqAt.eqv_refl d (SeqAt.canLay_of_shaped h)];exact q⟩
def Nc:∀(l:qa Nat)(p:qe)(st:qe×qb),l.foldl wJ (p++st.1,st.2)=(p++(l.foldl wJ st).1,(l.foldl wJ st).2)
 |[],_,_=>rfl
 |c::l,p,st=>by
  rw[zy,zy];have e:wJ (p++st.1,st.2) c=(p++(wJ st c).1,(wJ st c).2):=by
   unfold wJ;split
   .rfl
   .rw[yO]
  rw[e,Nc l p (wJ st c)]
open Builtin.Str in
def bZ(a b n:Nat):strSliceIndices (some (a:Int)) (some (b:Int)) 1 n=(List.range (min b n-min a n)).map (λk=>min a n+k):=by
 have d:¬((a:Int)<0):=by omega
 have e:¬((b:Int)<0):=by omega
 have f:max (0:Int) (min (a:Int) (n:Int))=((min a n:Nat):Int):=by omega
 have g:max (0:Int) (min (b:Int) (n:Int))=((min b n:Nat):Int):=by omega
 simp only[strSliceIndices,sliceRange,d,e,yB,f,g,show((1:Int) > 0)=True from by simp,vw];by_cases c:((min a n:Nat):Int)<((min b n:Nat):Int)
 .have h:((((min b n:Nat):Int)-((min a n:Nat):Int)+1-1) / 1).toNat=min b n-min a n:=by first|omega|(simp;done)|(simp;omega)
  simp only[c,vw,h];refine jT λk _=>?_;omega
 .have:min b n-min a n=0:=by omega
  simp[c,this]
open Builtin.Str in
def MU(u:Option Int)(n:Nat):strSliceIndices none u 1 n=strSliceIndices (some ((0:Nat):Int)) u 1 n:=by
 have a:max (0:Int) (min (((0:Nat):Int)) (n:Int))=0:=by omega
 simp only[strSliceIndices,show ¬((((0:Nat):Int))<0) from by omega,yB,a,show((1:Int) > 0)=True from by simp,vw]
open Builtin.Str in
def MT(l:Option Int)(n:Nat):strSliceIndices l none 1 n=strSliceIndices l (some (n:Int)) 1 n:=by
 have a:max (0:Int) (min (n:Int) (n:Int))=n:=by omega
 simp only[strSliceIndices,show ¬((n:Int)<0) from by omega,yB,a,show((1:Int) > 0)=True from by simp,vw]
def Cv(x:qb)(a b:Nat):(Txt.slice x (some (a:Int)) (some (b:Int))).cps.toList=(x.cps.toList.drop a).take (b-a):=by
 have g:=VS x;unfold Txt.slice;rw[bZ,qh,jO];have f:=StrLaws.picks x.cps.toList (min b x.length-min a x.length) (min a x.length) (by omega);have key:((List.range (min b x.length-min a x.length)).map (λk=>min a x.length+k)).filterMap (x.cps[·]?)=(x.cps.toList.drop a).take (b-a):=by
  have e:(λi:Nat=>x.cps[i]?)=(λi:Nat=>x.cps.toList[i]?):=by funext i;simp
  rw[e,f];by_cases h:a<=x.length
  .rw[v7 (show a<=x.length from h)];by_cases c:b<=x.length
   .rw[v7 (show b<=x.length from c)]
   .rw[Nat.min_eq_right (show x.length<=b by omega),zj (by rw[yq];omega),zj (by rw[yq];omega)]
  .rw[Nat.min_eq_right (show x.length<=a by omega),List.drop_of_length_le (by omega),List.drop_of_length_le (by omega),List.take_nil,List.take_nil]
 split
 .rename_i h
  have h':min b x.length-min a x.length=x.length:=by
   have:=(zV.mp h).2;exact lX.mp this
  rw[<-key,h'];have c:x.length=0\/min a x.length=0:=by omega
  rcases c with c|c
  .have:x.cps.toList=[]:=List.eq_nil_of_length_eq_zero (by omega);rw[this,c];rfl
  .have e:(λi:Nat=>x.cps[i]?)=(λi:Nat=>x.cps.toList[i]?):=by funext i;simp
   rw[e];have d:=StrLaws.picks x.cps.toList x.length 0 (by omega);rw[c,d,tN,zj (by omega)]
 .rw[key]
def Cu(x:qb)(b:Nat):(Txt.slice x none (some (b:Int))).cps.toList=x.cps.toList.take b:=by
 have e:Txt.slice x none (some (b:Int))=Txt.slice x (some ((0:Nat):Int)) (some (b:Int)):=by unfold Txt.slice;rw[MU]
 rw[e,Cv,tN,Nat.sub_zero]
def Cw(x:qb)(a:Nat):(Txt.slice x (some (a:Int)) none).cps.toList=x.cps.toList.drop a:=by
 have e:Txt.slice x (some (a:Int)) none=Txt.slice x (some (a:Int)) (some (x.length:Int)):=by unfold Txt.slice;rw[MT]
 rw[e,Cv,zj (by rw[yq,<-VS];omega)]
def Ku{x y:qb}(h:x.cps.toList=y.cps.toList):x=y:=by
 cases x;cases y;have:=Array.toList_inj.mp h;simp only at this;rw[this]
def Rm(x:qb)(b:Nat):(Txt.slice x none (some (b:Int))).length<=b:=by
 rw[VS,Cu,q0];omega
inductive Ew(x:V)(xs:qa V)(H:Hp)(Q:VK):Prop
 |mk:∀(z y:qb),x=.str z->xs=[.str y]->(y.length==0)=false->z.length<=1000000->(∀l,H l=none->Q (.ref l) (upd H l (.lst ((Txt.split z y).map V.str))))->Ew x xs H Q
def bh:V->qa V->Hp->VK->Prop:=λx xs H Q=>Ew x xs H Q
def SG(x y:qb):(Builtin.Str.partsBetween x (Builtin.Str.occurrences x y 0 x.length (x.length+1)) y.length).length<=x.length+2:=by
 rw[StrLaws.partsBetween_eq];have h:=StrLaws.occ_length_le_len x y 0 x.length (x.length+1);have e:∀(b:qa Nat)(w a:Nat),(StrLaws.partsFrom x w a b).length<=b.length+1:=by
  intro b
  induction b with
  |nil=>intro w a;simp[StrLaws.partsFrom]
  |cons c r d=>
   intro w a;have:=d w (c+w);simp only[StrLaws.partsFrom,qX];omega
 have:=e (Builtin.Str.occurrences x y 0 x.length (x.length+1)) y.length 0;omega
def PM{X:Cx}:MtR X "str.split" bh:=by
 intro pins s σ H x xs v us Q I c d h;obtain⟨x,y,rfl,rfl,b,hz,q⟩:=h;obtain⟨t,rfl⟩:=c;obtain⟨u,rfl,f⟩:=V3 d;obtain⟨t',rfl⟩:=f;have i:=ip;have j:=SG x y;have g:=split_le x y;have fin:∀(l:qa (qb×Tok))(k:Nat),l.map (·.1)=Txt.split x y->EP X pins σ Q (.ref s.heap.objs.size) {s with toks:=k,heap:=s.heap.push {cls:=.type "list",data:=.seq (strValues l).toArray}}:=λl k e=>by
  have a:=Vb l;rw[e] at a;exact⟨.ref s.heap.objs.size,_,I.Qbq (t':=k) a (by rw[qh];omega),U,q _ I.fresh⟩
 cases a:(decide (x.length<y.length)||decide (Builtin.Str.strKind x<Builtin.Str.strKind y))
 .cases hf:(Builtin.Str.occurrences x y 0 x.length (x.length+1)).isEmpty
  .refine vS tL (oV _ _ _) rW (F.args_str_split_2 _ _) (meets_str_split_sep x y t t' a b hf (by omega) (by omega)) ?_;show wants _ _ _ {s with toks:=_,heap:=s.heap.push {cls:=.type "list",data:=.seq (strsFrom s.toks (Builtin.Str.partsBetween x (Builtin.Str.occurrences x y 0 x.length (x.length+1)) y.length)).toArray}};rw[strsFrom_eq];exact fin (numbered s.toks _) _ ((numbered_texts _ _).trans ((qA (iZ a)).trans (qA (iZ hf))).symm)
  .exact vS tL (oV _ _ _) rW (F.args_str_split_2 _ _) (meets_str_split_not_found x y t t' a b hf) (fin [(x,t)] _ ((qA (iZ a)).trans (qG hf)).symm)
 .exact vS tL (oV _ _ _) rW (F.args_str_split_2 _ _) (meets_str_split_cannot_occur x y t t' a) (fin [(x,t)] _ (qG a).symm)
def ax{c:Nat}:∀{p q X Y:qa Nat},¬c∈p->¬c∈q->p++c::X=q++c::Y->p=q/\X=Y
 |[],[],_,_,_,_,h=>⟨U,(qE h).2⟩
 |[],b::q,_,_,_,d,h=>absurd (by rw[(qE h).1];exact qy) d
 |a::p,[],_,_,e,_,h=>absurd (by rw[<-(qE h).1];exact qy) e
 |a::p,b::q,X,Y,e,d,h=>by
  obtain⟨f,g⟩:=qE h;obtain⟨i,j⟩:=ax (λz=>e (qH _ z)) (λz=>d (qH _ z)) g;exact⟨by rw[f,i],j⟩
def leS(a b:qb):Bool:=!ltCps b.cps.toList a.cps.toList
def Rc(x:qb):qe->qe
 |[]=>[x]
 |y::r=>if leS x y=true then x::y::r else y::Rc x r
def Qx:qe->qe
 |[]=>[]
 |x::r=>Rc x (Qx r)
def B4(a b:qb):leS a b=true↔¬b.cps.toList<a.cps.toList:=by
 unfold leS;rw[ltCps_eq];simp
def PZ(a b:qb):leS a b=true\/leS b a=true:=by
 rw[B4,B4];by_cases h:b.cps.toList<a.cps.toList
 .exact .inr (List.lt_asymm h)
 .exact .inl h
def ES{a b c:qb}(d:leS a b=true)(e:leS b c=true):leS a c=true:=by
 rw[B4] at *
 intro h;rcases strKind.negTrans c.cps.toList b.cps.toList a.cps.toList (by simpa using h) with z|z
 .exact e (by simpa using z)
 .exact d (by simpa using z)
def Ha{a b:qb}(c:leS a b=true)(d:leS b a=true):a=b:=by
 rw[B4] at *
 exact Ku (List.le_antisymm (uT.mp c) (uT.mp d))
abbrev Sor(l:qe):Prop:=l.Pairwise λa b=>leS a b=true
def CK:∀(p:qb)(l:qe),risingS p l=true->Sor (p::l)
 |p,[],_=>v9 _ _
 |p,x::r,h=>by
  have h:(leS p x&&risingS x r)=true:=h;rw[jb] at h;have b:=CK x r h.2;refine jG.mpr ⟨λy a=>?_,b⟩;rcases qK.mp a with rfl|a
  .exact h.1
  .exact ES h.1 ((jG.mp b).1 y a)
def Mf:∀{l:qe},sortedS l=true->Sor l
 |[],_=>List.Pairwise.nil
 |x::r,h=>CK x r h
def Kj(x:qb):∀l:qe,(Rc x l).Perm (x::l)
 |[]=>.refl _
 |y::r=>by
  unfold Rc;split
  .exact .refl _
  .exact((Kj x r).cons y).trans (.swap x y r)
def U3:∀l:qe,(Qx l).Perm l
 |[]=>.refl _
 |x::r=>(Kj x (Qx r)).trans ((U3 r).cons x)
def Ow(x:qb):∀{l:qe},Sor l->Sor (Rc x l)
 |[],_=>v9 _ _
 |y::r,h=>by
  unfold Rc;obtain⟨b,c⟩:=jG.mp h;split
  .rename_i a
   refine jG.mpr ⟨λz hz=>?_,h⟩;rcases qK.mp hz with rfl|hz
   .exact a
   .exact ES a (b z hz)
  .rename_i a
   refine jG.mpr ⟨λz hz=>?_,Ow x c⟩;rcases qK.mp ((Kj x r).mem_iff.mp hz) with rfl|hz
   .exact(PZ y z).resolve_right a
   .exact b z hz
def Aw:∀l:qe,Sor (Qx l)
 |[]=>.nil
 |x::r=>Ow x (Aw r)
def Ct:∀{a b:qe},a.Perm b->Sor a->Sor b->a=b
 |[],b,p,_,_=>(List.nil_perm.mp p).symm
 |x::r,[],p,_,_=>absurd p.symm.nil_eq (by simp)
 |x::r,y::t,p,f,g=>by
  have e:x=y:=by
   have c:x∈y::t:=p.mem_iff.mp qy;have d:y∈x::r:=p.mem_iff.mpr qy;rcases qK.mp c with e|c
   .exact e
   .rcases qK.mp d with e|d
    .exact e.symm
    .exact Ha ((jG.mp f).1 y d) ((jG.mp g).1 x c)
  subst e;rw[Ct (List.perm_cons _ |>.mp p) (jG.mp f).2 (jG.mp g).2]
def GD{a b:qe}(p:a.Perm b)(h:Sor a):a=Qx b:=Ct (p.trans (U3 b).symm) h (Aw b)
def YN{a b:qe}(p:a.Perm b):Qx a=Qx b:=GD ((U3 a).trans p) (Aw a)
def UB(l:qe):(Qx l).length=l.length:=(U3 l).length_eq
def Yf{l:qe}{x:qb}:x∈Qx l↔x∈l:=(U3 l).mem_iff
def V6:∀{us:qg}{ss:qe},StrsAre us ss->QK (ss.map V.str) us
 |_,_,.nil=>.nil
 |_,_,.cons x t h=>.cons ⟨t,U⟩ (V6 h)
def VX{X:Cx}:VY X (.builtin "sorted") (λxs H Q=>∃p ss,xs=[.ref p]/\zN X.K H p (ss.map V.str)/\ss.length<64/\∀l,H l=none->Q (.ref l) (upd H l (.lst ((Qx ss).map V.str)))):=by
 intro pins s σ H xs us Q I r h;obtain⟨p,ss,rfl,hS,j,q⟩:=h;obtain⟨u,rfl,f⟩:=V3 r;cases f;obtain⟨its,d,pl,_⟩:=I.list hS;have a:=Vt d;have hlen:its.length=ss.length:=by have:=d.length;rw[qh] at this;exact this.symm
 refine sorted_strs pl.isList a (by omega) λout c a1 a2 g=>?_;obtain⟨e,he⟩:=sortedAll_at s.heap its out;have es:c=Qx ss:=GD a2 (Mf g);subst es;have hsz:s.heap.objs.size<=s.heap.objs.size+1:=ox _;refine⟨.ref (s.heap.objs.size+1),_,I.laid (t':=s.toks) (λb u i=>sortedAll_old i) hsz (show Q2 X.prog X.w _ _ _ (.lst ((Qx ss).map V.str)) from⟨?_,out.toList,e,V6 a1,?_⟩),U,q _ (I.hok.fresh hsz)⟩
 .rw[qh,UB];exact Ya ((by omega))
 .rw[vl];exact he
def BA{prog:Program}{w:World}{A:Around}{E:qf}{s:Shared}{T:String}{r d:qc}{n:Nat}{P:Nat->qd->Prop}{j:Heap->Prop}{R:qg->Shared->Prop}
 (src:KdlSrc prog w T r d n P j) (calm:A.handled=none) (ok:j s.heap) (i:n<=sizeLine)
 (fin:∀(g:Heap)(k:Nat)(got:Array qd),(∀b o,s.heap.get? b=some o->g.get? b=some o)->s.heap.objs.size<g.objs.size->ItemsOf P got n->R got.toList {s with heap:=g,toks:=k}) :
 wpAny (model prog w) A (collect (.ref r)) R E s:=by
 obtain⟨l,ld⟩:=src.there _ ok
 let new:Obj:={cls:=.type "list",data:=.seq ([]:qg).toArray}
 have there:(s.heap.push new).get? s.heap.objs.size=some new:=qL _ rfl;have a:=src.keep _ _ ok (λb _ o e=>qw (h:=s.heap) new e);have walked:=PySem.W.kdl_extend (A:=A) (s:={s with heap:=s.heap.push new})
  (R:=λq t=>∃(g:Heap)(k:Nat)(got:Array qd)(c:Nat),q=Except.ok (Flow.ret (.ref s.heap.objs.size))/\t={s with heap:=g,toks:=k}/\(∀b o,s.heap.get? b=some o->g.get? b=some o) /\
    g.get? s.heap.objs.size=some {cls:=.type "list",dict:=none,data:=.seq got c,slots:=#[]}/\ItemsOf P got n)
  src calm a s.heap.objs.size (rn l) (rn ld) (.ref s.heap.objs.size) 0 there
  (λg k got c keep at' all=>⟨g,k,got,c,U,U,λb o e=>keep b o (zc (qT e)) (qw _ e),at',all⟩) i
 have done:∀(g:Heap)(k:Nat)(got:Array qd)(c:Nat),(∀b o,s.heap.get? b=some o->g.get? b=some o)->g.get? s.heap.objs.size=some {cls:=.type "list",dict:=none,data:=.seq got c,slots:=#[]}->ItemsOf P got n ->
  wpAny (model prog w) A (do match (<-load s.heap.objs.size).data with
   |.seq xs _=>pure xs.toList
   |_=>unsupported "internal:collect") R E {s with heap:=g,toks:=k}:=λg k got c keep at' all=>
  qi (wpAny_load at' (qv (fin g k got keep (qT at') all)))
 unfold collect;apply qi;apply wpAny_runValue;apply yt entry_proto_collect';rw[yg F.plain_proto_collect _];show wpAny _ A.in1 (newList []>>=λz=>again (.builtin "list.__iadd__" ⟨[z,.ref r],[]⟩)) _ _ s;apply qi;refine zG ?_;apply qv;refine⟨lT rX _,?_⟩;apply yt entry_list_iadd';rw[yg rX _];refine yN walked (λf t q=>?_) (λe t q=>?_)
 .cases f with
  |done f=>
   obtain⟨g,k,got,c,e,rfl,keep,at',all⟩:=q;cases e;exact done g k got c keep at' all
  |again i=>
   refine⟨q.1,xj q.2 λz m y=>?_⟩;obtain⟨g,k,got,c,rfl,rfl,keep,at',all⟩:=y;exact done g k got c keep at' all
 .obtain⟨_,_,_,_,i,_⟩:=q;cases i
def Yg{X:Cx}(hc:X.calm=true):VY X (.builtin "sorted") (λxs H Q=>∃p a ss,xs=[.ref p]/\H p=some (.dK a)/\a.map (λg=>kV g.1)=ss.map V.str/\ss.length<64/\∀l,H l=none->Q (.ref l) (upd H l (.lst ((Qx ss).map V.str)))):=by
 intro pins s σ H xs us Q I r h;obtain⟨p,a,ss,rfl,N,B,hl,q⟩:=h;obtain⟨u,rfl,O⟩:=V3 r;cases O;obtain⟨hz,C,vs,K,o,es,P,R,S,T,Y,Z,h6⟩:=DF I.hok N;have da:s.heap.DictAt (Yd X.prog X.w) p vs P:=⟨o,es,R,S,T,Y,Z,h6⟩;have hlen:a.length=vs.length:=KV.length K;have hh:X.A.in1.handled=none:=I.ok.hd hc;refine rq kind_sorted plain_sorted entry_sorted (args_sorted1 _) ?_;unfold Builtin.«sorted»;refine qi (m:=checkCount "sorted" 1 1 _) (qv ?_);refine qi (BA (A:=X.A.in1) (kdl_dict C) hh da (by rw[<-hlen];exact hz) λh' tk acc hk D c=>?_);have E:QK (a.map λg=>kV g.1) acc.toList:=by
  refine XS (by rw[qh,hlen];exact c.1.symm.trans (by simp)) λj x u d n=>?_;rw[qQ] at d
  cases f:a[j]? with
  |none=>rw[f] at d;cases d
  |some g=>
   rw[f] at d;cases d;obtain⟨k,y,v,w⟩:=c.2 j u (by rw[<-zt];exact n);have F:g.1=k:=KV.at K f v;show QN (kV g.1) u;rw[F];rcases Yo (show Ae k u=true from w) with⟨i,t,rfl,rfl⟩|⟨z,t,rfl,rfl⟩
   .exact⟨t,U⟩
   .exact⟨t,U⟩
 rw[B] at E;have d:=Vt E;have F:acc.toList.length=ss.length:=by have:=E.length;rw[qh] at this;exact this.symm
 refine qi (wpAny_newList ?_ (by rw[F];exact Ya ((by omega))));have f:(h'.push (seqObj "list" acc.toList.toArray 0)).get? h'.objs.size=some (seqObj "list" acc.toList.toArray 0):=qL _ rfl;refine qi (jz (zR slot_list_sort ⟨_,f,U⟩ entry_list_sort (list_sort_treeK strKind_oneLt f d.keysOf (λL M rest e=>keyKind_strs (by rw[<-e];exact d)) (by omega) λn a1 a2=>⟨_,U,?_⟩) (args_list_sort _)));refine qv ⟨_,U,?_⟩;obtain⟨G,b1,b2,b3⟩:=sorted_out_str d a1 a2;obtain⟨e,he⟩:=sortedHeap_at (out:=(arrOf n).map (·.2)) f;have J:G=Qx ss:=GD b2 (Mf b3);subst J;have hsz:s.heap.objs.size<=h'.objs.size:=vv D;refine⟨.ref h'.objs.size,_,I.laid (t':=tk) (λb u hb=>?_) hsz (show Q2 X.prog X.w _ _ _ (.lst ((Qx ss).map V.str)) from⟨?_,((arrOf n).map (·.2)).toList,e,V6 b1,?_⟩),U,q _ (I.hok.fresh hsz)⟩
 .have v:=hk b u hb;have w:=qT v;rw[sortedHeap_old (zc w) (by rw[size_push'];exact jP w)];exact qw _ v
 .rw[qh,UB];exact Ya ((by omega))
 .rw[vl];exact he
def Km{K:Frag}{a:qc}{α:Type}{xs:qa α}{fr:qa (Nat×qb)}{tt:TT}{n:TE}{σ:St}{H1:Hp}{Q:VK}(g:α->V)(pr:α->Bool)(f:α->V)(hz:xs.length<=sizeLine)(hS:zN K H1 a (xs.map g))
 (j:∀(x:α)(c:Hp)(Q':Bool->Hp->Prop),x∈xs->Qj H1 c->Q' (pr x) c->tt (some (g x)::oC σ fr) c Q')
 (k:∀(x:α)(c:Hp)(Q':VK),x∈xs->Qj H1 c->pr x=true->Q' (f x) c->n (some (g x)::oC σ fr) c Q')
 (s:∀D,H1 D=none->Q (.ref D) (upd H1 D (.lst ((xs.filter pr).map f)))) :
 Yr (Itl K a) fr tt n σ H1 Q:=by
 unfold Yr;intro D o;refine⟨λi m ys p=>m=xs.length-i/\i<=xs.length/\ys=((xs.take i).filter pr).map f/\p=upd H1 D (.lst ys),⟨xs.length,by simp,za _,by simp,U⟩,?_⟩;rintro i m ys p ⟨rfl,u,rfl,rfl⟩;refine⟨Qc,?_⟩;have s1:Qj H1 (upd H1 D (.lst (((xs.take i).filter pr).map f))):=Qj.zk o;have d:=s1.seq hS;by_cases b:i<xs.length
 .have h:(xs.map g)[i]?=some (g xs[i]):=by rw[qQ,qB b];rfl
  refine .inr ⟨⟨xs.map g,g xs[i],d,h⟩,?_⟩;rintro v c ⟨rfl,t⟩;have q:(xs.map g)[i]?=some v:=t _ d;rw[h] at q;cases q;have hm:xs[i]∈xs:=jh b;have r:xs.take (i+1)=xs.take i++[xs[i]]:=by rw[zm,qB b];rfl
  refine j xs[i] _ _ hm s1 ?_;cases l:pr xs[i]
  .refine QV ⟨xs.length-(i+1),by omega,U,b,?_,U⟩;rw[r,zb,qO,l];simp
  .refine Yj (k xs[i] _ _ hm s1 l ⟨Qc,?_,xs.length-(i+1),by omega,U,b,?_,Kt⟩)
   .have:=qY pr (xs.take i);rw[q0] at this;rw[qh];omega
   .rw[r,zb,qO,l];simp
 .have e:i=xs.length:=by omega
  subst e;have c:xs.take xs.length=xs:=zj (qD _);refine .inl ⟨⟨xs.map g,d,by rw[qh];exact qD _⟩,?_⟩;rw[c];exact s D o
abbrev Rows:=qa (qb×qb)
def up(rows:Rows)(n:qb):Option qb:=(rows.find? λr=>decide (r.1=n)).map (·.2)
def QO(rows:Rows)(t:qb):qe:=(rows.filter λr=>decide (r.2=t)).map (·.1)
def QR(rows:Rows):qa (Key×V):=rows.map λr=>(Sum.inr r.1,V.str r.2)
def Qo(ns:qe):qa (Key×V):=ns.map λn=>(Sum.inr n,V.bl true)
def without(rows:Rows)(n:qb):Rows:=rows.filter λr=>decide (r.1≠n)
def Yz(n:qb):∀rows:Rows,Qv (QR rows) (Sum.inr n)=(up rows n).map V.str
 |[]=>rfl
 |r::rows=>by
  show Qv ((Sum.inr r.1,V.str r.2)::QR rows) (Sum.inr n)=_;by_cases h:r.1=n
  .rw[YA (by rw[h])];simp[up,ya,h]
  .rw[Yx (λe=>h (jH e)),Yz n rows];simp[up,ya,h]
def WV{rows:Rows}{n a:qb}(h:up rows n=some a):(n,a)∈rows:=by
 unfold up at h
 cases e:rows.find? λr=>decide (r.1=n) with
 |none=>rw[e] at h;cases h
 |some r=>
  rw[e] at h;have b:=List.find?_some e;have c:=List.mem_of_find?_eq_some e;have d:r.1=n:=qo b;have f:r.2=a:=qN h;rw[<-d,<-f];exact c
def VA{rows:Rows}{n:qb}:up rows n=none↔¬n∈rows.map (·.1):=by
 unfold up;rw[Option.map_eq_none_iff,Qbh];constructor
 .intro h z;obtain⟨r,a,e⟩:=qj.mp z;exact h r a (qu e)
 .intro h r a z;exact h (qj.mpr ⟨r,a,qo z⟩)
def Vz{rows:Rows}{n:qb}(h:n∈rows.map (·.1)):∃a,up rows n=some a:=by
 cases e:up rows n with
 |none=>exact absurd h (VA.mp e)
 |some a=>exact⟨a,U⟩
def KR(n:qb):∀rows:Rows,Uy (QR rows) (Sum.inr n)=QR (without rows n)
 |[]=>rfl
 |r::rows=>by
  show Uy ((Sum.inr r.1,V.str r.2)::QR rows) (Sum.inr n)=_;by_cases h:r.1=n
  .rw[Bh (by rw[h]),KR n rows];simp[without,qO,h]
  .rw[Bi (λe=>h (jH e)),KR n rows];simp[without,qO,h,QR]
def Wn(n:qb):∀ns:qe,Uy (Qo ns) (Sum.inr n)=Qo (ns.filter λm=>decide (m≠n))
 |[]=>rfl
 |m::ns=>by
  show Uy ((Sum.inr m,V.bl true)::Qo ns) (Sum.inr n)=_;by_cases h:m=n
  .rw[Bh (by rw[h]),Wn n ns];simp[qO,h]
  .rw[Bi (λe=>h (jH e)),Wn n ns];simp[qO,h,Qo]
def Vc(n:qb):∀ns:qe,Qv (Qo ns) (Sum.inr n)=if n∈ns then some (V.bl true) else none
 |[]=>rfl
 |m::ns=>by
  show Qv ((Sum.inr m,V.bl true)::Qo ns) (Sum.inr n)=_;by_cases h:m=n
  .rw[YA (by rw[h]),qG (by rw[h];exact qy)]
  .rw[Yx (λe=>h (jH e)),Vc n ns];by_cases a:n∈ns
   .rw[qG a,qG (qH _ a)]
   .rw[qA a,qA (λz=>(qK.mp z).elim (λe=>h e.symm) a)]
def IC{rows:Rows}{n a:qb}(h:up rows n=none):Ye (QR rows) (Sum.inr n) (.str a)=QR (rows++[(n,a)]):=by
 rw[X6 _ (by rw[Yz,h];rfl)];simp[QR]
def X5{ns:qe}{n:qb}(h:¬n∈ns):Ye (Qo ns) (Sum.inr n) (.bl true)=Qo (ns++[n]):=by
 rw[X6 _ (by rw[Vc,qA h])];simp[Qo]
def AG(rows:Rows)(n a t:qb):QO (rows++[(n,a)]) t=QO rows t++if a=t then [n] else []:=by
 unfold QO;rw[zb,qJ];by_cases h:a=t<;>simp[qO,h]
def W9{rows:Rows}{t n:qb}(h:n∈QO rows t):n∈rows.map (·.1):=by
 obtain⟨r,a,e⟩:=qj.mp h;exact qj.mpr ⟨r,(qr.mp a).1,e⟩
def Wf(rows:Rows)(n t:qb):QO (without rows n) t=(QO rows t).filter λm=>decide (m≠n):=by
 unfold QO without;rw[yb,xN,xN];congr 1;refine kO λr _=>?_;show(decide (r.2=t)&&decide (r.1≠n))=(decide (r.1≠n)&&decide (r.2=t));rw[Bool.and_comm]
def X4(rows:Rows)(t:qb):(QO rows t).length<=rows.length:=by
 unfold QO;rw[qh];exact qY _ _
def Wv{rows:Rows}{n a b:qb}(e:(rows.map (·.1)).Nodup)(d:(n,a)∈rows)(c:(n,b)∈rows):a=b:=by
 induction rows with
 |nil=>cases d
 |cons r rows h=>
  rw[qU,zK] at e;rcases qK.mp d with f|d
  .rcases qK.mp c with g|c
   .rw[<-g] at f;exact(tO f).2
   .exact absurd (qj.mpr ⟨_,c,by rw[<-f]⟩) e.1
  .rcases qK.mp c with g|c
   .exact absurd (qj.mpr ⟨_,d,by rw[<-g]⟩) e.1
   .exact h e.2 d c
def IZ{rows:Rows}{n a t:qb}(b:(rows.map (·.1)).Nodup)(h:up rows n=some a)(c:t≠a):¬n∈QO rows t:=λz=>by
 obtain⟨r,d,e⟩:=qj.mp z;obtain⟨f,g⟩:=qr.mp d;have i:r.2=t:=qo g;have:(n,t)∈rows:=by rw[<-e,<-i];exact f
 exact c (Wv b this (WV h))
def Gs{l:qe}{n:qb}(h:¬n∈l):(l.filter λm=>decide (m≠n))=l:=jU.mpr λm hm=>qu λe=>h (e▸hm)
def Hl{rows:Rows}{n a:qb}(h:up rows n=some a):n∈QO rows a:=qj.mpr ⟨(n,a),qr.mpr ⟨WV h,qu rfl⟩,U⟩
def Xm{rows:Rows}{n:qb}(a:(rows.map (·.1)).Nodup):((without rows n).map (·.1)).Nodup:=by
 unfold without;exact jr (List.Sublist.map _ zF) a
def NR{rows:Rows}{n a:qb}(c:(rows.map (·.1)).Nodup)(h:up rows n=none):((rows++[(n,a)]).map (·.1)).Nodup:=by
 rw[qJ];refine zW.mpr ⟨c,by simp,λx b y d e=>?_⟩;have:y=n:=by simpa using d
 rw[e,this] at b;exact VA.mp h b
def YS:∀{ms l:qe},ms.Nodup->(∀m∈ms,m∈l)->ms.length<=l.length
 |[],_,_,_=>za _
 |m::ms,l,d,h=>by
  obtain⟨f,g⟩:=zK.mp d;have hm:=h m qy;have e:=List.length_erase_of_mem hm;have i:=List.length_pos_of_mem hm;have:=YS (l:=l.erase m) g λx c=>(List.mem_erase_of_ne (a:=x) (b:=m) (λz=>f (by rw[<-z];exact c))).mpr (h x (qH _ c));rw[qX];omega
def Kp1(H H':Hp):Prop:=∀c o,H c=some o->(∀a,o≠.dK a)->H' c=some o
def Kp2(H H':Hp):Prop:=∀c o,H c=some o->(∀xs,o≠.lst xs)->H' c=some o
def Qj.kp2{H H':Hp}(s:Qj H H'):Kp2 H H':=λc o e _=>s c o e
def Kp1.trans{H H1 d:Hp}(a:Kp1 H H1)(b:Kp1 H1 d):Kp1 H d:=λc o e n=>b c o (a c o e n) n
def Kp1.upd{H:Hp}{p:qc}{a b:qa (Key×V)}(h:H p=some (.dK a)):Kp1 H (upd H p (.dK b)):=λc o e n=>by
 by_cases z:c=p
 .rw[z,h] at e;cases e;exact absurd rfl (n a)
 .rw[Qa z];exact e
section
variable {X:Cx}{pins:qa (qc×Obj)}{σ:St}{H:Hp}{s:Shared}{a:qc}{oa:Obj}{kvs:qa (Key×V)}
def Inv.freeze(I:Inv X pins σ H s)(e:H a=some (.dK kvs)):∃oa,Inv X pins σ (upd H a (.jF oa (.dK kvs))) s:=by
 obtain⟨z,y,vs,r,b,es,f,d,c⟩:=(show Q2 X.prog X.w H s.heap a (.dK kvs) from I.hok a _ e);exact⟨b,I.write (x:=a) (e:=a) (o:=.jF b (.dK kvs)) (t':=s.toks) (h':=s.heap) (by rw[e];exact True.intro) (.inl rfl) (λ_ _ _ q=>q) ⟨b,d⟩ ⟨d,z,y,vs,r,b,es,f,d,c⟩⟩
def Inv.Qcz(I:Inv X pins σ H s)(j:∀o u,X.H₀ a≠some (.jF o u))(e:H a=some (.jF oa (.dK kvs))):Inv X pins σ (upd H a (.dK kvs)) s:=by
 have d:∀b,H b=none->b≠a:=λb n z=>by rw[z,e] at n;cases n
 have ne1:∀b o,H b=some o->o≠.jF oa (.dK kvs)->b≠a:=λb o q n z=>by rw[z,e] at q;cases q;exact n rfl
 obtain⟨_,g⟩:=(show Q2 X.prog X.w H s.heap a (.jF oa (.dK kvs)) from I.hok a _ e);refine⟨I.ok,I.os,I.bare,⟨I.base.keep,I.base.slot,λb o q n k=>?_,I.base.there,λb xs q=>?_,λb o u q=>?_,λb ps q=>?_⟩,I.loc,I.cell,?_,λx c q=>?_,λp l=>?_,λb u q=>?_,I.len⟩
 .have:=I.base.free b o q n k;rw[Qa (d b this)];exact this
 .have:=I.base.tups b xs q;rw[Qa (ne1 b _ this (λz=>by cases z))];exact this
 .have f:b≠a:=λz=>j o u (by rw[<-z];exact q);rw[Qa f];exact I.base.mV b o u q
 .obtain⟨m,h⟩:=I.base.ry b ps q;exact⟨m,by rw[Qa (ne1 b _ h (λz=>by cases z))];exact h⟩
 .rw[Qa (d _ I.free)];exact I.free
 .rw[Qa (d _ (I.vT x c q))];exact I.vT x c q
 .obtain⟨r,i,t⟩:=I.pin p l;exact⟨r,by rw[Qa (d _ i)];exact i,t⟩
 .by_cases f:b=a
  .subst f;rw[Qc] at q;cases q;exact Q2.stay (show Q2 X.prog X.w H s.heap b (.dK kvs) from g) (λ_ _ _ z=>z) (λc z=>by rw[Qa (ne1 c _ z (λy=>by cases y))];exact z) λc xs z=>by rw[Qa (ne1 c _ z (λy=>by cases y))];exact z
  .rw[Qa f] at q;exact(I.hok b u q).stay (λ_ _ _ z=>z) (λc z=>by rw[Qa (ne1 c _ z (λy=>by cases y))];exact z) λc xs z=>by rw[Qa (ne1 c _ z (λy=>by cases y))];exact z
end
def gz(a:qc)(c:Obj)(b:qa (Key×V))(D:V2):V2:={nx:=λσ H=>H a=some (.jF c (.dK b))/\D.nx σ (upd H a (.dK b)),rt:=λv H=>H a=some (.jF c (.dK b))/\D.rt v (upd H a (.dK b)),bk:=λσ H=>H a=some (.jF c (.dK b))/\D.bk σ (upd H a (.dK b)),ct:=λσ H=>H a=some (.jF c (.dK b))/\D.ct σ (upd H a (.dK b))}
inductive Nk(ts:TS)(D:V2)(σ:St)(H:Hp):Prop
 |mk:∀a kvs,H a=some (.dK kvs)->(∀oa,ts (gz a oa kvs D) σ (upd H a (.jF oa (.dK kvs))))->Nk ts D σ H
def gJ(ts:TS):TS:=λD σ H=>Nk ts D σ H
def KA{X:Cx}{st:Stmt}{ts:TS}(j:PS X st ts):PS X st (gJ ts):=by
 rintro pins s σ H D I ⟨a,k,e,h⟩;obtain⟨l,J⟩:=I.freeze e;have g:∀o u,X.H₀ a≠some (.jF o u):=λo u z=>by have:=I.base.mV a o u z;rw[e] at this;cases this
 refine jE (j pins s σ _ _ J (h l)) λf s' q=>?_
 cases f with
 |next=>obtain⟨b,i,d,c⟩:=q;exact⟨b,_,d.Qcz g c.1,c.2⟩
 |cont=>obtain⟨b,i,d,c⟩:=q;exact⟨b,_,d.Qcz g c.1,c.2⟩
 |brk=>obtain⟨b,i,d,c⟩:=q;exact⟨b,_,d.Qcz g c.1,c.2⟩
 |ret v=>obtain⟨m,b,i,d,n,c⟩:=q;exact⟨m,b,_,d.Qcz g c.1,n,c.2⟩
def Itd(a:qc)(c:Obj)(b:qa (Key×V)):It:=⟨λi H=>H a=some (.jF c (.dK b))/\i<b.length,λi H x H'=>H'=H/\∃d,b[i]?=some d/\x=kV d.1,λi H=>H a=some (.jF c (.dK b))/\b.length<=i⟩
def B9{P:Program}{w:World}{H:Hp}{h:Heap}{a:qc}{c:Obj}{b:qa (Key×V)}(ok:iW P w H h)(e:H a=some (.jF c (.dK b))) :
 (a==sysModules)=false/\∃vs es d,KV b vs/\c.data=.dict es d/\h.DictAt (Yd P w) a vs d:=by
 obtain⟨f,z,y,vs,r,l,es,d,g,j,i,k⟩:=(show Q2 P w H h a (.jF c (.dK b)) from ok a _ e);rw[f] at g;cases g;exact⟨y,vs,es,d,r,i,c,es,f,j,i,k⟩
def bc{P:Program}{w:World}{k:Key}{u:qd}(e:(Yd P w).is k u=true):QN (kV k) u:=by
 rcases Yo (show Ae k u=true from e) with⟨i,t,rfl,rfl⟩|⟨z,t,rfl,rfl⟩
 .exact⟨t,U⟩
 .exact⟨t,U⟩
def Eb{P:Program}{w:World}{K:Frag}{F:Expr}(a it:qc)(D:Obj)(f:qa (Key×V))(es:Array DictEntry)(p:Nat)(hd:D.data=.dict es p):Rv P w K F (Itd a D f) [it] it (λi h=>h.IsKeyIter it a i f.length p) where
 mem:=by simp
 obj:=λi h st b j=>by
  have e:b=it:=by simpa using j
  subst e;obtain⟨o,e,c,d⟩:=st;exact⟨o,e,λv z=>by rw[d] at z;cases z⟩
 keep:=λi h h' st k=>by
  obtain⟨o,e,c⟩:=st;exact⟨o,k it (by simp) o e,c⟩
 item:=by
  intro X t hw u hc i pins s σ H E I hf st hg;subst t hw u;obtain⟨x,n⟩:=hg;obtain⟨_,vs,y,A,q,g,hm⟩:=B9 I.hok x;rw[hd] at g;cases g;have r:=KV.length q;have l:s.heap.IsKeyIter it a i vs.length p:=by rw[<-r];exact st
  obtain⟨f0,f1,f2,B,f4,C⟩:=hf it (by simp);refine wpAny_pyNext_dict_item (k:=(vs[i]'(by omega)).1) (v:=(vs[i]'(by omega)).2) l hm (qB (by omega)) λkey h' G m J=>?_;have L:Inv X pins σ H {s with heap:=h'}:=I.turned (t':=s.toks) (λb o j e=>(J.2 b j).trans e) f0 f1 B f4 C;have M:f[i].1=(vs[i]'(by omega)).1:=KV.at q (qB n) (qB (by omega));rw[<-r] at m;obtain⟨o,e,c,d⟩:=id m;exact⟨key,U,Ly (s:={s with heap:=h'}) e c d (by decide) ⟨kV f[i].1,H,L,by rw[M];exact bc G,⟨U,f[i],qB n,U⟩,m,λb j=>(hf b j).1⟩⟩
 done:=by
  intro X t hw u hc i pins s σ H E I hf st hg;subst t hw u;obtain⟨x,m⟩:=hg;obtain⟨_,vs,y,A,q,g,hm⟩:=B9 I.hok x;rw[hd] at g;cases g;have r:=KV.length q;have l:s.heap.IsKeyIter it a i vs.length p:=by rw[<-r];exact st
  obtain⟨f0,f1,f2,B,f4,C⟩:=hf it (by simp);exact wpAny_pyNext_dict_end (I.ok.hd hc) l hm (kL (by omega)) λh' n=>⟨U,I.turned (t':=s.toks) (λb o j e=>n b o j e) f0 f1 B f4 C⟩
 self:=λ_ _ _ _ _ st h=>wpAny_pyIter_keyiter st h
inductive OA(R:(It->Hp->Prop))(x:V)(H1:Hp):Prop
 |mk:∀a oa kvs,x=.ref a->H1 a=some (.jF oa (.dK kvs))->R (Itd a oa kvs) H1->OA R x H1
def hX(a:TE):TI:=λσ H R=>a σ H λx H1=>OA R x H1
def bw{X:Cx}{j l:Expr}{i:TE}(d:PE X l i):PI X j l (hX i):=by
 intro pins s σ H R I h;refine jE (d pins s σ H _ I h) λv s1 ⟨x,H1,c,k,m⟩=>?_;obtain⟨a,n,f,e,p,q⟩:=m;subst e;cases k;obtain⟨g,vs,es,r,t,hd,hm⟩:=B9 c.hok p;have d:=KV.length t;refine wpAny_pyIter_dict g hm ?_;refine⟨s1.heap.objs.size,[s1.heap.objs.size],_,_,H1,U,c.kept (t':=s1.toks) λb o e=>qw _ e,Eb a _ n f es r hd,⟨_,qL _ rfl,U,by rw[d];rfl⟩,λb u=>?_,q⟩;have e:b=s1.heap.objs.size:=by simpa using u
 subst e;exact c.Qbu (qD _) (c.hok.fresh (qD _))
def Kn{a:qc}{r:Obj}{c:qa (Key×V)}{α:Type}{xs:qa α}{fr:qa (Nat×qb)}{tt:TT}{s:TE}{σ:St}{H1:Hp}{Q:VK}(g:α->V)(pr:α->Bool)(f:α->V)(hz:xs.length<=sizeLine)(hS:H1 a=some (.jF r (.dK c)))(t:c.map (λk=>kV k.1)=xs.map g)
 (l:∀(x:α)(d:Hp)(Q':Bool->Hp->Prop),x∈xs->Qj H1 d->Q' (pr x) d->tt (some (g x)::oC σ fr) d Q')
 (n:∀(x:α)(d:Hp)(Q':VK),x∈xs->Qj H1 d->pr x=true->Q' (f x) d->s (some (g x)::oC σ fr) d Q')
 (z:∀D,H1 D=none->Q (.ref D) (upd H1 D (.lst ((xs.filter pr).map f)))) :
 Yr (Itd a r c) fr tt s σ H1 Q:=by
 have A:c.length=xs.length:=by have:=zQ List.length t;simpa using this
 unfold Yr;intro D u;refine⟨λi m ys w=>m=xs.length-i/\i<=xs.length/\ys=((xs.take i).filter pr).map f/\w=upd H1 D (.lst ys),⟨xs.length,by simp,za _,by simp,U⟩,?_⟩;rintro i m ys w ⟨rfl,B,rfl,rfl⟩;refine⟨Qc,?_⟩;have s1:Qj H1 (upd H1 D (.lst (((xs.take i).filter pr).map f))):=Qj.zk u;have h:=s1 _ _ hS;by_cases b:i<xs.length
 .have o:(xs.map g)[i]?=some (g xs[i]):=by rw[qQ,qB b];rfl
  refine .inr ⟨⟨h,by omega⟩,?_⟩;rintro v d ⟨rfl,k,p,rfl⟩;have j:(xs.map g)[i]?=some (kV k.1):=by rw[<-t,qQ,p];rfl
  rw[o] at j;have j:=qN j;rw[<-j];have hm:xs[i]∈xs:=jh b;have y:xs.take (i+1)=xs.take i++[xs[i]]:=by rw[zm,qB b];rfl
  refine l xs[i] _ _ hm s1 ?_;cases q:pr xs[i]
  .refine QV ⟨xs.length-(i+1),by omega,U,b,?_,U⟩;rw[y,zb,qO,q];simp
  .refine Yj (n xs[i] _ _ hm s1 q ⟨Qc,?_,xs.length-(i+1),by omega,U,b,?_,Kt⟩)
   .have:=qY pr (xs.take i);rw[q0] at this;rw[qh];omega
   .rw[y,zb,qO,q,qJ];simp
 .have e:i=xs.length:=by omega
  subst e;refine .inl ⟨⟨h,by omega⟩,?_⟩;have:=z D u;rw[ji];exact this
def Lz{a:qc}{h:Obj}{b:qa (Key×V)}{g:TG}{j:TS}{D:V2}{σ:St}{H:Hp}(Pv:Nat->St->Hp->Prop)(h0:Pv 0 σ H)(k:∀i σ H,i<=b.length->Pv i σ H->H a=some (.jF h (.dK b)))
 (l:∀i d σ H,b[i]?=some d->Pv i σ H->g (kV d.1) σ H λc f=>j {D with nx:=Pv (i+1),ct:=Pv (i+1),bk:=D.nx} c f) (hd:∀σ H,Pv b.length σ H->D.nx σ H) :
 Cm g j D σ (Itd a h b) H:=by
 refine⟨λi m σ H=>m=b.length-i/\i<=b.length/\Pv i σ H,⟨b.length,by simp,za _,h0⟩,?_⟩;rintro i m σ H ⟨rfl,n,p⟩;have q:=k i σ H n p;by_cases c:i<b.length
 .refine .inr ⟨⟨q,c⟩,Pv (i+1),λo H' r=>⟨b.length-(i+1),by omega,U,c,r⟩,?_⟩;rintro x H' ⟨rfl,d,f,rfl⟩;exact l i d σ _ f p
 .have e:i=b.length:=by omega
  subst e;exact .inl ⟨⟨q,qD _⟩,hd σ H p⟩
def upL(rows:Rows)(n:qb):qe:=match up rows n with
 |some a=>if a="" then [] else [a]
 |none=>[]
def rz(rows:Rows)(n:qb):qe:=QO rows n++upL rows n
inductive lV(rows:Rows)(n:qb):qb->Prop
 |refl:lV rows n n
 |step {m k:qb}:lV rows n m->k∈rz rows m->lV rows n k
def XA{rows:Rows}{n k:qb}:k∈upL rows n↔up rows n=some k/\k≠"":=by
 unfold upL
 cases up rows n with
 |none=>simp
 |some a=>
  by_cases h:a=""
  .subst h;simp;intro e;exact e.symm
  .simp[h];constructor
   .rintro rfl;exact⟨U,h⟩
   .rintro⟨e,_⟩;exact e.symm
def Xh{rows:Rows}{t n:qb}(d:(rows.map (·.1)).Nodup):n∈QO rows t↔up rows n=some t:=by
 constructor
 .intro h;obtain⟨r,f,e⟩:=qj.mp h;obtain⟨b,g⟩:=qr.mp f;have i:r.2=t:=qo g;obtain⟨a,c⟩:=Vz (qj.mpr ⟨r,b,e⟩);have:(n,t)∈rows:=by rw[<-e,<-i];exact b
  rw[c,Wv d (WV c) this]
 .exact Hl
def NoE(rows:Rows):Prop:=∀n:qb,n∈rows.map (·.1)->n≠""
def bP{rows:Rows}(a:(rows.map (·.1)).Nodup){m k:qb}(hm:m≠"")(h:k∈rz rows m):m∈rz rows k:=by
 rcases qt.mp h with h|h
 .exact qx _ (XA.mpr ⟨(Xh a).mp h,hm⟩)
 .exact qC _ ((Xh a).mpr (XA.mp h).1)
def fE{rows:Rows}(ne:NoE rows){m k:qb}(h:k∈rz rows m):k≠"":=by
 rcases qt.mp h with h|h
 .exact ne k (W9 h)
 .exact(XA.mp h).2
def lV.ne{rows:Rows}(ne:NoE rows){n k:qb}(a:n≠"")(h:lV rows n k):k≠"":=by
 cases h with
 |refl=>exact a
 |step _ h=>exact fE ne h
def lV.trans{rows:Rows}{a b c:qb}(d:lV rows a b)(e:lV rows b c):lV rows a c:=by
 induction e with
 |refl=>exact d
 |step _ h f=>exact .step f h
def lV.symm{rows:Rows}(c:(rows.map (·.1)).Nodup)(ne:NoE rows){a b:qb}(d:a≠"")(h:lV rows a b):lV rows b a:=by
 induction h with
 |refl=>exact .refl
 |step e f g=>exact(lV.step .refl (bP c (e.ne ne d) f)).trans g
open Classical in
noncomputable def Yk(rows:Rows)(n:qb):qe:=Qx ((rows.map (·.1)).filter λm=>decide (lV rows n m))
def XB{rows:Rows}{n m:qb}:m∈Yk rows n↔m∈rows.map (·.1)/\lV rows n m:=by
 unfold Yk;rw[Yf,qr];simp
def RF{rows:Rows}(a:(rows.map (·.1)).Nodup){n:qb}{l:qe}(b:l.Nodup)(h:∀m,m∈l↔m∈rows.map (·.1)/\lV rows n m):Qx l=Yk rows n:=by
 unfold Yk;refine YN ((yC b (a.filter _)).mpr λm=>?_);rw[h,qr];simp
def Cj{rows:Rows}(d:(rows.map (·.1)).Nodup)(ne:NoE rows){a b:qb}(c:a≠"")(h:lV rows a b):Yk rows b=Yk rows a:=by
 have f:=h.ne ne c;have h':=h.symm d ne c
 classical
 unfold Yk;congr 1;refine kO λm _=>?_;by_cases e:lV rows a m
 .rw[qu (h'.trans e),qu e]
 .rw[qF (λz=>e (h.trans z)),qF e]
noncomputable def Ul(rows:Rows)(acc:qa (qe))(n:qb):qa (qe):=if Yk rows n∈acc then acc else acc++[Yk rows n]
noncomputable def Ve(rows:Rows)(ns:qe):qa (qe):=ns.foldl (Ul rows) []
def HE(rows:Rows)(ns:qe)(n:qb):Ve rows (ns++[n])=Ul rows (Ve rows ns) n:=by
 unfold Ve;rw[jB];rfl
def LA{rows:Rows}:∀(ns:qe)(acc:qa (qe)){t:qe},t∈ns.foldl (Ul rows) acc->t∈acc\/∃n∈ns,t=Yk rows n
 |[],acc,t,h=>.inl h
 |n::ns,acc,t,h=>by
  rcases LA ns (Ul rows acc n) h with h|⟨m,hm,e⟩
  .unfold Ul at h;split at h
   .exact .inl h
   .rcases qt.mp h with h|h
    .exact .inl h
    .exact .inr ⟨n,qy,qk.mp h⟩
  .exact .inr ⟨m,qH _ hm,e⟩
def Gg{rows:Rows}(ns:qe){t:qe}(h:t∈Ve rows ns):∃n∈ns,t=Yk rows n:=(LA ns [] h).elim (λz=>by cases z) id
def LC{rows:Rows}:∀(ns:qe)(acc:qa (qe)),(ns.foldl (Ul rows) acc).length<=acc.length+ns.length
 |[],acc=>qD _
 |n::ns,acc=>by
  have h:=LC (rows:=rows) ns (Ul rows acc n);have a:(Ul rows acc n).length<=acc.length+1:=by
   unfold Ul;split
   .omega
   .rw[qz];simp
  rw[zy,qX];omega
def Ck{rows:Rows}(ns:qe):(Ve rows ns).length<=ns.length:=by
 have:=LC (rows:=rows) ns [];unfold Ve;simpa using this
def aP{rows:Rows}(d:(rows.map (·.1)).Nodup)(ne:NoE rows){ns:qe}(a:∀m∈ns,m∈rows.map (·.1)){n:qb}(e:n∈rows.map (·.1)):(∃t∈Ve rows ns,n∈t)↔Yk rows n∈Ve rows ns:=by
 constructor
 .rintro⟨t,c,b⟩;obtain⟨m,hm,rfl⟩:=Gg ns c;rw[Cj d ne (ne m (a m hm)) (XB.mp b).2];exact c
 .intro h;exact⟨_,h,XB.mpr ⟨e,.refl⟩⟩
structure DFS(rows:Rows)(n:qb)(rc wt:qe):Prop where
 nd:rc.Nodup
 start:n∈rc
 sound:∀m∈rc,lV rows n m
 sub:∀m∈wt,m∈rc
 clo:∀m∈rc,m∉wt->∀k∈rz rows m,k∈rc
def dA(rows:Rows):qe:=rows.map (·.1)++rows.map (·.2)
def Iv{rows:Rows}{n m:qb}(a:n∈rows.map (·.1))(h:lV rows n m):m∈dA rows:=by
 cases h with
 |refl=>exact qC _ a
 |step _ h=>
  rcases qt.mp h with h|h
  .exact qC _ (W9 h)
  .exact qx _ (qj.mpr ⟨_,WV (XA.mp h).1,U⟩)
def DFS.len{rows:Rows}{n:qb}{rc a:qe}(d:DFS rows n rc a)(b:n∈rows.map (·.1)):rc.length<=2*rows.length:=by
 have:=YS d.nd λm hm=>Iv b (d.sound m hm);unfold dA at this;rw[qz,qh,qh] at this;omega
def DFS.init{rows:Rows}{n:qb}:DFS rows n [n] [n]:=
 ⟨by simp,by simp,λm hm=>by rw[qk.mp hm];exact .refl,λm hm=>hm,λm hm h=>absurd hm h⟩
def DFS.done{rows:Rows}(nd:(rows.map (·.1)).Nodup){n:qb}{rc:qe}(d:DFS rows n rc []):Qx (rc.filter λm=>decide (m∈rows.map (·.1)))=Yk rows n:=by
 have all:∀m,lV rows n m->m∈rc:=λm h=>by
  induction h with
  |refl=>exact d.start
  |step _ h a=>exact d.clo _ a (by simp) _ h
 refine RF nd (d.nd.filter _) λm=>?_;rw[qr];constructor
 .rintro⟨a,b⟩;exact⟨qo b,d.sound m a⟩
 .rintro⟨a,b⟩;exact⟨all m b,qu a⟩
structure Kr(rows:Rows)(n here:qb)(seen:qe)(rc wt:qe):Prop where
 nd:rc.Nodup
 start:n∈rc
 hr:here∈rc
 sound:∀m∈rc,lV rows n m
 sub:∀m∈wt,m∈rc
 clo:∀m∈rc,m∉wt->m≠here->∀k∈rz rows m,k∈rc
 got:∀k∈seen,k∈rc
def DFS.pop{rows:Rows}{n here:qb}{rc a:qe}(d:DFS rows n rc (a++[here])):Kr rows n here [] rc a:=
 ⟨d.nd,d.start,d.sub here (by simp),d.sound,λm hm=>d.sub m (qC _ hm),λm hm b c=>d.clo m hm λz=>(qt.mp z).elim b λy=>c (qk.mp y),λk e=>by cases e⟩
def Kr.old{rows:Rows}{n here k:qb}{seen rc a:qe}(d:Kr rows n here seen rc a)(b:k∈rc):Kr rows n here (seen++[k]) rc a:=
 ⟨d.nd,d.start,d.hr,d.sound,d.sub,d.clo,λm hm=>(qt.mp hm).elim (d.got m) λy=>by rw[qk.mp y];exact b⟩
def Kr.new{rows:Rows}{n here k:qb}{seen rc b:qe}(d:Kr rows n here seen rc b)(f:¬k∈rc)(g:k∈rz rows here):Kr rows n here (seen++[k]) (rc++[k]) (b++[k]):=by
 refine⟨zW.mpr ⟨d.nd,by simp,λx h y i e=>f ?_⟩,qC _ d.start,qC _ d.hr,λm hm=>?_,λm hm=>?_,λm hm c j=>?_,λm hm=>?_⟩
 .rw[qk.mp i] at e;rw[<-e];exact h
 .rcases qt.mp hm with z|z
  .exact d.sound m z
  .rw[qk.mp z];exact .step (d.sound here d.hr) g
 .rcases qt.mp hm with z|z
  .exact qC _ (d.sub m z)
  .exact qx _ z
 .rcases qt.mp hm with z|z
  .intro l a;exact qC _ (d.clo m z (λy=>c (qC _ y)) j l a)
  .exact absurd (qx _ z) c
 .rcases qt.mp hm with z|z
  .exact qC _ (d.got m z)
  .exact qx _ z
def Kr.out{rows:Rows}{n here:qb}{rc a:qe}(d:Kr rows n here (rz rows here) rc a):DFS rows n rc a:=
 ⟨d.nd,d.start,d.sound,d.sub,λm hm b=>by
   by_cases e:m=here
   .subst e;exact d.got
   .exact d.clo m hm b e⟩
def Be(one other:qb×qb):Bool:=decide (one.2=other.1)||(decide (other.2=one.1)||(decide (one.2≠"")&&decide (one.2=other.2)))
def T9{rows:Rows}(b:(rows.map (·.1)).Nodup)(ne:NoE rows){one other:qb×qb}(c:one∈rows)(d:other∈rows)(h:Be one other=true):lV rows other.1 one.1:=by
 have u:∀r∈rows,up rows r.1=some r.2:=λr f=>by
  obtain⟨a,g⟩:=Vz (qj.mpr ⟨r,f,U⟩);rw[g,Wv b (WV g) f]
 have g:=ne one.1 (qj.mpr ⟨one,c,U⟩);unfold Be at h;rw[rY,rY,jb] at h;rcases h with h|h|⟨h,h'⟩
 .have e:=qo h;exact .step .refl (qC _ ((Xh b).mpr (by rw[u one c,e])))
 .have e:=qo h;exact .step .refl (qx _ (XA.mpr ⟨by rw[u other d,e],g⟩))
 .have i:=qo h;have e:=qo h';refine .step (m:=one.2) (.step .refl (qx _ (XA.mpr ⟨by rw[u other d,e],i⟩))) (qC _ ((Xh b).mpr (u one c)))
def aa{rows:Rows}(l:(rows.map (·.1)).Nodup)(ne:NoE rows){n:qb}{S:Rows}(sub:∀r∈S,r∈rows)(i:n∈S.map (·.1))(c:∀r∈S,∀q∈rows,Be q r=true->q∈S){m:qb}(hm:m∈rows.map (·.1))(h:lV rows n m):m∈S.map (·.1):=by
 have p:n≠"":=by
  obtain⟨r,a,e⟩:=qj.mp i;exact ne n (qj.mpr ⟨r,sub r a,e⟩)
 have good:∀k,lV rows n k->(k∈rows.map (·.1)->k∈S.map (·.1))/\(k∉rows.map (·.1)->∃r∈S,r.2=k):=λk f=>by
  induction f with
  |refl=>exact⟨λ_=>i,λz=>by
    obtain⟨r,a,e⟩:=qj.mp i;exact absurd (qj.mpr ⟨r,sub r a,e⟩) z⟩
  |@step m k s d j=>
   have m0:=s.ne ne p;rcases qt.mp d with d|d
   .
    have f:=W9 d;refine⟨λ_=>?_,λz=>absurd f z⟩;have g:(k,m)∈rows:=WV ((Xh l).mp d);by_cases b:m∈rows.map (·.1)
    .obtain⟨r,a,e⟩:=qj.mp (j.1 b);exact qj.mpr ⟨(k,m),c r a _ g (by unfold Be;simp[e]),U⟩
    .obtain⟨r,a,e⟩:=j.2 b;exact qj.mpr ⟨(k,m),c r a _ g (by unfold Be;simp[e,m0]),U⟩
   .obtain⟨t,v⟩:=XA.mp d;have g:=WV t;have b:m∈rows.map (·.1):=qj.mpr ⟨_,g,U⟩;obtain⟨r,a,e⟩:=qj.mp (j.1 b);have o:r.2=k:=Wv l (by rw[<-e];exact sub r a) g;refine⟨λf=>?_,λ_=>⟨r,a,o⟩⟩;obtain⟨q,u,eq⟩:=qj.mp f;exact qj.mpr ⟨q,c r a q u (by unfold Be;simp[o,eq]),eq⟩
 exact(good m h).1 hm
def FK{X:Cx}(K:Frag){e:Expr}{f:qb}{pos:Pos}{a:TE}(he:PE X e a)(b:attributeBase e f X.env (eval e X.env)=eval e X.env)(c:X.K=K:=by rfl):PE X (.Attribute e f pos) (gI K a f):=c▸Qk he b
section
variable {prs S:qa PRow}{n:qb}{k:Nat}
end
def FE{ns:qe}{n:qb}(h:n∈ns):Ye (Qo ns) (Sum.inr n) (.bl true)=Qo ns:=by
 unfold Ye;have hc:((Qo ns).any λa=>decide (a.1=(Sum.inr n:Key)))=true:=uO.mpr ⟨(Sum.inr n,.bl true),qj.mpr ⟨n,h,U⟩,qu rfl⟩;rw[qG hc];unfold Qo;rw[qV];apply jT;intro m _;show(if (Sum.inr m:Key)=Sum.inr n then (Sum.inr m,V.bl true) else (Sum.inr m,V.bl true))=_;split<;>rfl
def YL(ns:qe)(n:qb):qe:=if n∈ns then ns else ns++[n]
def FG(ns:qe)(n:qb):Ye (Qo ns) (Sum.inr n) (.bl true)=Qo (YL ns n):=by
 unfold YL;split
 .exact FE ‹_›
 .exact X5 ‹_›
def B3{ns:qe}{n m:qb}:m∈YL ns n↔m∈ns\/m=n:=by
 unfold YL;split
 .exact⟨.inl,λh=>h.elim id λe=>e▸‹_›⟩
 .rw[qt,qk]
def Hu{ns:qe}{n:qb}(h:ns.Nodup):(YL ns n).Nodup:=by
 unfold YL;split
 .exact h
 .rename_i c
  rw[zW];exact⟨h,v9 _ _,λa d b f e=>c (by rw[qk.mp f] at e;rw[<-e];exact d)⟩
open PySem PySem.Spec
inductive HH(Q:VK)(a:qc)(y:V)(z:V)(H3:Hp):Prop
 |mk:∀kvs k,H3 a=some (.dK kvs)->y=kV k->kvs.length<sizeLine->((∀v,Qv kvs k=some v->Q v H3))->((Qv kvs k=none->Q z (upd H3 a (.dK (Ye kvs k z)))))->HH Q a y z H3
inductive Nl(ty:TE)(tx:TE)(σ:St)(Q:VK)(x:V)(H1:Hp):Prop
 |mk:∀a,x=.ref a->IsD H1 a->(ty σ H1 λy H2=>tx σ H2 λz H3=>HH Q a y z H3)->Nl ty tx σ Q x H1
def gN(a ty b:TE):TE:=λσ H Q=>a σ H λx H1=>Nl ty b σ Q x H1
section
variable {X:Cx}{pins:qa (qc×Obj)}{σ:St}{H:Hp}{s:Shared}{a:qc}{kvs:qa (Key×V)}{k:Key}{z:V}{u r:qd}{A:Around}{E:qf}
def aw{Q:qf}(I:Inv X pins σ H s)(e:H a=some (.dK kvs))(g:QN (kV k) u)(h:QN z r)(l:kvs.length<sizeLine)
 (i:∀v,Qv kvs k=some v->∀f s',Inv X pins σ H s'->QN v f->Q f s') (j:Qv kvs k=none->∀s',Inv X pins σ (upd H a (.dK (Ye kvs k z))) s'->Q r s') :
 wpAny (model X.prog X.w) A (call (.builtin "dict.setdefault") [.ref a,u,r]) Q E s:=by
 obtain⟨hz,hd,vs,rel,dd⟩:=DF I.hok e;refine QaC PySem.F.slot_dict_setdefault dd.typeIs PySem.F.entry_dict_setdefault (PySem.F.args_dict_setdefault_3 _ _ _) (kt_meets_setdefault (Yd X.prog X.w) a (Gd g) hd r) ⟨vs,dd,by rw[<-rel.length];exact hz,λf hw=>?_,λm h' d n=>?_⟩
 .have b:=rel.val k;rw[hw] at b
  cases c:Qv kvs k with
  |none=>rw[c] at b;exact absurd b (by simp[WJ])
  |some v=>rw[c] at b;exact i v c f _ (I.tok _) b
 .have b:=rel.val k;rw[m] at b
  cases c:Qv kvs k with
  |some v=>rw[c] at b;exact absurd b (by simp[WJ])
  |none=>
   have he:∃q,h'.get? a=some q:=let ⟨q,_,_,i,_⟩:=d;⟨q,i⟩;have o:(Ye kvs k z).length<=sizeLine:=by have:=VR kvs k z;omega
   exact j c _ (Ai I (by rw[e];exact True.intro) n he (Ho o hd (rel.put k h) d))
end
section
variable {X:Cx}{o e f:Expr}{apos cpos:Pos}{td ty tx:TE}
def SA(j:PE X o td)(he:PE X e ty)(hf:PE X f tx)(m:M2 X o "setdefault" apos e f cpos):PE X (.Call (.Attribute o "setdefault" apos) [e,f] [] cpos) (gN td ty tx):=by
 intro pins s σ H Q I h;refine rV m.base m.few m.line plainAttrs_dict PySem.F.slot_dict_setdefault PySem.F.type_dict_setdefault (jE (j pins s σ H _ I h) λu s1 ⟨x,H1,g,n,a,ex,d,p⟩=>?_);subst ex;obtain rfl:u=Value.ref a:=n;obtain⟨t1,q,_⟩:=Hk g d;refine⟨t1,q,?_⟩;rw[m.trees];refine yG rfl (vR (j7 (jE (he pins s1 σ H1 _ g p) λL s2 ⟨y,r,t,w,A⟩=>j7 (jE (hf pins s2 σ r _ t A) λM s3 ⟨z,B,C,i,D,k,E,F,l,G,J⟩=>uS ?_))));subst F;exact aw C E w i l (λv ev N s4 b c=>⟨_,B,b,c,G v ev⟩) λK s4 b=>⟨z,_,b,i,J K⟩
end
def Kc:∀(xs acc:qe){t:qb},t∈acc\/t∈xs->t∈xs.foldl YY acc
 |[],acc,t,h=>h.elim id λz=>nomatch z
 |x::xs,acc,t,h=>by
  refine Kc xs (YY acc x) ?_;unfold YY;rcases h with h|h
  .left;split
   .exact h
   .exact qC _ h
  .rcases qK.mp h with rfl|h
   .left;split
    .assumption
    .exact qx _ (qk.mpr rfl)
   .exact .inr h
def Lg{xs:qe}{t:qb}(h:t∈xs):t∈WX xs:=Kc xs [] (.inr h)
def kn(T xs:qe):qa (Key×V):=(WX xs).map λw=>(Sum.inr w,V.bl (decide (w∈T)))
def TL(T xs:qe):(kn T xs).length<=xs.length:=by unfold kn;rw[qh];exact SN xs
def bV(T xs:qe):(kn T xs).map (λa=>kV a.1)=(WX xs).map V.str:=by unfold kn;rw[qV];rfl
def EU(T:qe)(w:qb):∀ys:qe,Qv (ys.map λw=>((Sum.inr w:Key),V.bl (decide (w∈T)))) (Sum.inr w)=if w∈ys then some (V.bl (decide (w∈T))) else none
 |[]=>rfl
 |y::ys=>by
  rw[qU];by_cases e:y=w
  .subst e;rw[YA rfl,qG (qy ..)]
  .rw[Yx (λz=>e (jH z)),EU T w ys];by_cases m:w∈ys
   .rw[qG m,qG (qH _ m)]
   .rw[qA m,qA (λz=>(qK.mp z).elim (λq=>e q.symm) m)]
def MO(T xs:qe)(w:qb):Qv (kn T xs) (Sum.inr w)=if w∈WX xs then some (V.bl (decide (w∈T))) else none:=EU T w (WX xs)
def TJ{T xs:qe}{w:qb}(h:w∈WX xs):kn T (xs++[w])=kn T xs:=by
 unfold kn;rw[EB];unfold YY;rw[qG h]
def TK{T xs:qe}{w:qb}(h:¬w∈WX xs):kn T (xs++[w])=kn T xs++[(Sum.inr w,V.bl (decide (w∈T)))]:=by
 unfold kn;rw[EB];unfold YY;rw[qA h,qJ];rfl
def fI{T xs:qe}{w:qb}(h:w∈T):Ye (kn T xs) (Sum.inr w) (.bl true)=kn T (xs++[w]):=by
 unfold Ye;rw[UO,MO];by_cases m:w∈WX xs
 .rw[qG m,TJ m,qG (show(some _:Option V).isSome=true from rfl)];unfold kn;rw[qV];refine jT λu _=>?_;show(if (Sum.inr u:Key)=Sum.inr w then ((Sum.inr u:Key),V.bl true) else (Sum.inr u,V.bl (decide (u∈T))))=_;by_cases e:u=w
  .subst e;rw[qG rfl,qu h]
  .rw[qA (λz=>e (jH z))]
 .rw[qA m,qA (λz=>nomatch z),TK m,qu h]
def Ll{T xs:qe}{w:qb}(a:∀u∈T,u∈xs)(h:Qv (kn T xs) (Sum.inr w)=none):Ye (kn T xs) (Sum.inr w) (.bl false)=kn T (xs++[w]):=by
 have m:¬w∈WX xs:=λm=>by rw[MO,qG m] at h;cases h
 unfold Ye;rw[UO,h,qA (λz=>nomatch z),TK m,qF (λz=>m (Lg (a w z)))]
def Lk{T xs:qe}{w:qb}{v:V}(h:Qv (kn T xs) (Sum.inr w)=some v):kn T (xs++[w])=kn T xs:=by
 refine TJ ?_;by_cases m:w∈WX xs
 .exact m
 .rw[MO,qA m] at h;cases h
def SX(x:qc)(H H':Hp):Prop:=∀c o,c≠x->H c=some o->H' c=some o
def SX.of{x:qc}{H H':Hp}(h:Qj H H'):SX x H H':=λc o _ e=>h c o e
def SX.trans{x:qc}{H H1 a:Hp}(h:SX x H H1)(g:SX x H1 a):SX x H a:=λc o n e=>g c o n (h c o n e)
def SX.free{x l:qc}{H H1:Hp}{o:HO}(h:SX x H H1)(e:H1 x=some o)(n:H1 l=none):H l=none:=by
 cases q:H l with
 |none=>rfl
 |some u=>
  by_cases z:l=x
  .rw[z,e] at n;cases n
  .rw[h l u z q] at n;cases n
def K4:qd->qb
 |.str x _=>x
 |_=>""
def WE(prog:Program)(w:World)(led:Bool)(a:qc)(ks:qe)(h:Heap):Prop:=∃o es b t,h.get? a=some o/\o.ExactSet/\o.data=.set es b t/\ElemsOf (strKind prog w) es.toList/\es.size<scanBound/\t.fits es.size=true/\t.led=led /\
 (t.plain=true->es.size=0)/\(es.toList.map λe=>K4 e.2).Perm ks
def WE.at{prog:Program}{w:World}{led:Bool}{a:qc}{ks:qe}{h h':Heap}(x:WE prog w led a ks h)(k:∀o,h.get? a=some o->h'.get? a=some o):WE prog w led a ks h':=
 let ⟨o,es,b,t,e,r⟩:=x;⟨o,es,b,t,k o e,r⟩
def DD{prog:Program}{w:World}{l:qa (Int×qd)}(h:ElemsOf (strKind prog w) l){e:Int×qd}(he:e∈l):∃t,e.2=.str (K4 e.2) t:=by
 obtain⟨⟨k,a,_⟩,_⟩:=h e he;obtain⟨t,q⟩:=Value.isStrOf_shape (show Value.isStrOf k e.2=true from a);exact⟨t,by rw[q];rfl⟩
def TR{k:qb}{v:qd}{t:Tok}(h:v=.str (K4 v) t):Value.isStrOf k v=decide (k=K4 v):=by
 rw[h];show Value.isStrOf k (.str (K4 v) t)=decide (k=K4 v);by_cases e:k=K4 v
 .rw[<-e,qu rfl];simp[Value.isStrOf]
 .rw[qF e];simp[Value.isStrOf];exact λz=>e z.symm
def MN(t:SetTable)(es:Array (Int×qd))(h:Int)(x:qd):(layNew t es h x).2.1.led=t.led:=by
 unfold layNew;split
 .show(SetTable.orStandIn _ _).led=_;unfold SetTable.orStandIn;split<;>rfl
 .rfl
def Fy(t:SetTable)(es:Array (Int×qd))(wanted:Nat):(relayAll t es wanted).2.1.led=t.led/\((relayAll t es wanted).2.1.plain=true->t.plain=true):=by
 unfold relayAll;split
 .rename_i t' order he
  have e:t'.led=t.led/\t'.plain=t.plain:=by
   unfold SetTable.relaid SetTable.laid at he
   cases hc:SetTable.layClean (SetTable.sizeAbove wanted-1) (es.map (·.1)) with
   |none=>rw[hc] at he;cases he
   |some a=>rw[hc] at he;cases he;exact⟨U,U⟩
  dsimp only;split
  .exact⟨e.1,λz=>by rw[<-e.2];exact z⟩
  .exact⟨U,λz=>by cases z⟩
 .exact⟨U,λz=>by cases z⟩
section
variable {prog:Program}{w:World}{A:Around}{E:qf}{s:Shared}
def CB{h:Heap}{a:qc}{o:Obj}{es:Array (Int×qd)}{c:Nat}{t:SetTable}{led:Bool}{ks:qe}(i:h.get? a=some o)(hex:o.ExactSet)(hd:o.data=.set es c t){b:Array (Int×qd)}{t':SetTable}
 (d:ElemsOf (strKind prog w) b.toList) (j:b.size<scanBound) (hf:t'.fits b.size=true) (k:t'.led=led) (l:t'.plain=true->b.size=0) (m:(b.toList.map λe=>K4 e.2).Perm ks) :
 (h.update a (Obj.putSet b t')).get? a=some {o with data:=.set b (c+1) t'}/\WE prog w led a ks (h.update a (Obj.putSet b t')):=by
 have hg:(h.update a (Obj.putSet b t')).get? a=some {o with data:=.set b (c+1) t'}:=by
  have f:=putSet_of b t' hd;have g:=jo (Obj.putSet b t') i (by rw[f];rfl);rw[f] at g;exact g
 exact⟨hg,_,b,c+1,t',hg,hex,U,d,j,hf,k,l,m⟩
def RG{g:Bool->Sem Unit}(hg:∀(b:Bool)(z:Shared)(R:Unit->Shared->Prop),R () z->wpAny (model prog w) A (g b) R E z){a:qc}{o:Obj}{es:Array (Int×qd)}{u:Nat}{t:SetTable}{led:Bool}{ks:qe}
 (l:s.heap.get? a=some o) (hex:o.ExactSet) (hd:o.data=.set es u t) {c:Array (Int×qd)} {d:SetTable} (f:ElemsOf (strKind prog w) c.toList) (i:c.size<scanBound) (hf:d.fits c.size=true) (m:d.led=led) (n:d.plain=false)
 (p:(c.toList.map λe=>K4 e.2).Perm ks) {j:Bool} {R:Option Bool->Shared->Prop} (h:∀h',Heap.SameBut a s.heap h'->WE prog w led a ks h'->R (some true) {s with heap:=h'}) :
 wpAny (model prog w) A (do
  storeSet a c d
  if (!j&&d.tooFull)=true then do
      g (relayAll d c (SetTable.grown c.size)).2.2
      storeSet a (relayAll d c (SetTable.grown c.size)).1 (relayAll d c (SetTable.grown c.size)).2.1
      pure (some true)
   else pure (some true)) R E s:=by
 refine qi (wpAny_storeSet_of l hd ?_ (fits_of_scanBound i));obtain⟨g1,v⟩:=CB (prog:=prog) (w:=w) l hex hd f i hf m (λz=>by rw[n] at z;cases z) p;have q:=jn s.heap a (Obj.putSet c d);split
 .have pm:=relayAll_perm d c (SetTable.grown c.size);have j:=relayAll_fits d c (SetTable.grown c.size);have ld:=Fy d c (SetTable.grown c.size);generalize relayAll d c (SetTable.grown c.size)=Z at pm j ld⊢;obtain⟨k,t3,y⟩:=Z;dsimp only at pm j ld⊢;have r:k.size=c.size:=by rw[<-zf,pm.length_eq,zf]
  refine qi (hg _ _ _ (qi (wpAny_storeSet_of g1 rfl ?_ (fits_of_scanBound (by rw[r];exact i)))));obtain⟨_,x⟩:=CB (prog:=prog) (w:=w) (led:=led) (ks:=ks) g1 hex rfl (f.perm pm) (by rw[r];exact i) j (ld.1.trans m) (λz=>by have:=ld.2 z;rw[n] at this;cases this) ((pm.map _).trans p);exact qv (h _ (q.trans (jn _ a _)) x)
 .exact qv (h _ q v)
def R5{a:qc}{ks:qe}{k:qb}{u:Tok}{led:Bool}{Q:Bool->Shared->Prop}(hS:WE prog w led a ks s.heap)(r:ks.length+1<scanBound)
 (h:∀(b:Bool)(h':Heap),Heap.SameBut a s.heap h'->WE prog w led a (YL ks k) h'->Q b {s with heap:=h'}):wpAny (model prog w) A (setAddHashed a (.str k u) (hashStr w k)) Q E s:=by
 obtain⟨o,es,M,t,B,hex,hd,f,J,hf,g,G,i⟩:=hS;have n:(strKind prog w).is k (.str k u)=true:=by show Value.isStrOf k (.str k u)=true;simp[Value.isStrOf]
 have v:(Value.str k u).scannable=true:=rfl;have hlen:es.size=ks.length:=by rw[<-i.length_eq,qh,zf]
 unfold setAddHashed setAddHashedIn;refine jz (qi (xk B hd hf ?_));dsimp only;rw[byScan_of v J f];simp only[↓reduceIte];unfold setAddByScan;refine qi (qi (QaD (qi (wpAny_setScan_of (knd:=strKind prog w) n B hd hf f ?_))))
 cases K:List.findIdx? (λe=>(strKind prog w).is k e.2) es.toList with
 |some j=>
  dsimp only;obtain⟨m,c,_⟩:=List.findIdx?_eq_some_iff_getElem.mp K;have hm:=jh m;obtain⟨x,p⟩:=DD f hm;have d:k∈ks:=i.mem_iff.mp (qj.mpr ⟨_,hm,by
   have l:Value.isStrOf k es.toList[j].2=true:=c;rw[TR p] at l;exact(qo l).symm⟩)
  refine qv (qv ?_);have e:s={s with heap:=s.heap}:=by cases s;rfl
  rw[e];exact h false s.heap (Heap.SameBut.refl a s.heap) ⟨o,es,M,t,B,hex,hd,f,J,hf,g,G,by unfold YL;rw[qG d];exact i⟩
 |none=>
  dsimp only;have C:¬k∈ks:=λz=>by
   obtain⟨e,he,d⟩:=qj.mp (i.mem_iff.mpr z);obtain⟨p,l⟩:=DD f he;have m:=List.findIdx?_eq_none_iff.mp K e he;have c:Value.isStrOf k e.2=false:=m;rw[TR l,d,qu rfl] at c;cases c
  have c:=layNew_perm t es (hashStr w k) (.str k u);have d:=layNew_fits t es (hashStr w k) (.str k u);have l:=MN t es (hashStr w k) (.str k u);have H:(YL ks k)=ks++[k]:=by unfold YL;rw[qA C]
  generalize layNew t es (hashStr w k) (.str k u)=Z at c d l⊢;obtain⟨m,t1,N,L⟩:=Z;dsimp only at c d l⊢;rw[Array.toList_push] at c;have p:ElemsOf (strKind prog w) m.toList:=(f.push (k:=k) n v).perm c;have O:m.size=es.size+1:=by rw[<-zf,c.length_eq,qz,zf];rfl
  have D:m.size<scanBound:=by rw[O,hlen];exact r
  have F:(m.toList.map λe=>K4 e.2).Perm (YL ks k):=by
   rw[H];refine(c.map _).trans ?_;rw[qJ];exact i.append_right _
  have P:∀(b:Bool)(z:Shared)(R:Unit->Shared->Prop),R () z->wpAny (model prog w) A (match b with|true=>rule "set.scan.the-table-gave-way"|false=>pure ()) R E z:=λb z R q=>by cases b<;>first|exact qv q|exact QaD q
  refine qi (P _ _ _ ?_);split
  .refine qi ?_;rw[hashByValue_scannable 8 v];refine qv ?_;refine RG (led:=led) (ks:=YL ks k) ?_ B hex hd p D ?_ ?_ ?_ F ?_
   .intro b z R q;cases b<;>first|exact qv q|exact QaD q
   .exact SetTable.fits_plain_off d
   .exact l.trans g
   .rfl
   .intro h' x y;dsimp only;exact qv (h true h' x y)
  .rename_i I
   refine qi (qv ?_);simp only[↓reduceIte];refine RG (led:=led) (ks:=YL ks k) ?_ B hex hd p D d ?_ ?_ F ?_
   .intro b z R q;cases b<;>first|exact qv q|exact QaD q
   .exact l.trans g
   .exact Bool.eq_false_iff.mpr I
   .intro h' x y;dsimp only;exact qv (h true h' x y)
def Df(val:Nat->qb)(i:Nat):qe:=((List.range i).map val).foldl YL []
def EM(val:Nat->qb)(i:Nat):Df val (i+1)=YL (Df val i) (val i):=by
 unfold Df;rw[List.range_succ,qJ,jB];rfl
def Lf(val:Nat->qb):∀i,(Df val i).length<=i
 |0=>qD _
 |i+1=>by
  rw[EM];have a:=Lf val i;unfold YL;split
  .omega
  .rw[qz,qS];omega
def CA{led:Bool}{R:Result->Shared->Prop}{I:qc}{x wr:qa qc}{G:Array GenState->Array GenState->Prop}{n:Nat}{P:Nat->qd->Prop}{St:Nat->Shared->Prop}(W:WalksS prog w A.in1 I x wr G n P St)(S:qc)(y:S∉x)
 (val:Nat->qb) (d:∀i v,P i v->∃t,v=.str (val i) t) (c:n+1<scanBound):∀(k i:Nat)(s:Shared),n-i=k->i<=n->St i s->WE prog w led S (Df val i) s.heap ->
   (∀s',Moved (S::wr) G s s'->WE prog w led S (Df val n) s'.heap->R (.ok (.ret .none)) s')->codeAny (model prog w) A (.builtin "set.update.loop" ⟨[.ref S,.ref I],[]⟩) R s:=by
 have nw:S∉wr:=λh=>y (W.sub _ h);have sub:∀b∈wr,b∈S::wr:=λb c=>qH _ c;intro k
 induction k with
 |zero=>
  intro i s B C a hS p;obtain rfl:i=n:=by omega
  refine yt F.entry_set_update_loop ?_;rw[yg F.plain_set_update_loop _];refine qi (m:=pyNext (.ref I)) (W.done s _ _ a λs' f=>?_);exact qv (p s' (f.mono sub) (hS.at λo e=>f.heap S o nw e))
 |succ k D=>
  intro i s B C a hS p;have lt:i<n:=by omega
  refine yt F.entry_set_update_loop ?_;rw[yg F.plain_set_update_loop _];refine qi (m:=pyNext (.ref I)) (W.item i s _ _ lt a λv s' E g f=>?_);obtain⟨t,rfl⟩:=d i v E;have q:=hS.at (h':=s'.heap) λo e=>f.heap S o nw e;refine qi (m:=holding [Value.str (val i) t] (setAdd S (.str (val i) t))) (jz ?_);unfold setAdd;refine jz (qi ((strKind prog w).pyHash (k:=val i) (show Value.isStrOf (val i) (.str (val i) t)=true by simp[Value.isStrOf]) ?_));have room:(Df val i).length+1<scanBound:=by have:=Lf val i;omega
  refine R5 (s:={s' with toks:=s'.toks+1}) (led:=led) q room λb h' z j=>?_;rw[<-EM] at j;refine qv ⟨lT F.plain_set_update_loop _,D (i+1) _ (by omega) lt (W.frame _ s' _ _ g (ox _) λb c o e=>?_) j λr u l=>?_⟩
  .rw[z.2 b (λh:b=S=>y (by rw[<-h];exact c))];exact e
  .refine p r (Moved.trans W.gtrans ((f.mono sub).then_heap (ox _) λb o c e=>?_) u) l;rw[z.2 b (λh:b=S=>c (by rw[h];exact qy))];exact e
def UK(w:World):Obj:={cls:=.type "set",dict:=none,data:=.set #[] 0 (.fresh 0 0 (!w.params.followText "set-order"))}
def EI(v:qd){R:qf}(h:R (.ref s.heap.objs.size) {s with heap:=s.heap.push (UK w)}):codeAny (model prog w) A (.call (.builtin "set.__new__") ⟨[.type "set",v],[]⟩) (wants R E) s:=by
 refine codeAny_of_tree ?_;refine qi (m:=checkBuiltinCall "set.__new__" ⟨[.type "set",v],[]⟩) (wpAny_of_eq (F.newCall_set_1 v) (qv ⟨lT F.plain_set_new _,yt F.entry_set_new ?_⟩));rw[yg F.plain_set_new _];unfold Builtin.«set.__new__» Builtin.Frozenset.newClass;have sub:=sub_set_self;obtain⟨a,g,d,b,os⟩:=s;dsimp only
 wp_walk
 refine xQ (qv ?_);dsimp only;simp only[newObj];exact qi (wpAny_alloc (qv (qv h)))
def Fl:∀{vs:qg}{ss:qe},StrsAre vs ss->∀(i:Nat)(v:qd),vs[i]?=some v->∃t,v=.str (ss.getD i "") t
 |_,_,.nil,i,v,h=>by simp at h
 |_,_,.cons x t r,0,v,h=>by simp at h;exact⟨t,by rw[<-h];rfl⟩
 |_,_,.cons x t r,i+1,v,h=>by
  rw[List.getElem?_cons_succ] at h;obtain⟨t',e⟩:=Fl r i v h;exact⟨t',by rw[e];rfl⟩
def XU:∀{vs:qg}{ss:qe},StrsAre vs ss->vs.length=ss.length
 |_,_,.nil=>rfl
 |_,_,.cons x t r=>by rw[qX,qX,XU r]
def CL(ss:qe):(List.range ss.length).map (λi=>ss.getD i "")=ss:=by
 apply List.ext_getElem
 .rw[qh,jO]
 .intro i b a;rw[List.getElem_map,Qbi,zC,qB a];rfl
def cV:WE prog w (!w.params.followText "set-order") s.heap.objs.size [] (s.heap.push (UK w)):=
 ⟨_,#[],0,_,qL _ rfl,⟨U,U,U⟩,U,(λe he=>by simp at he),by decide,by rfl,U,(λ_=>rfl),by simp⟩
end
section
variable {prog:Program}{w:World}{A:Around}{E:qf}{s:Shared}
set_option maxHeartbeats 3200000 in
def M7{l:qc}{items:Array qd}{ss:qe}{Q:qf}(M:A.handled=none)(N:s.heap.IsList l items)(C:StrsAre items.toList ss)(k:items.size+1<scanBound)
 (h:∀(h':Heap)(m:Nat),WE prog w (!w.params.followText "set-order") s.heap.objs.size (ss.foldl YL []) h'->(∀b o,b<s.heap.objs.size->s.heap.get? b=some o->h'.get? b=some o)->Q (.ref s.heap.objs.size) {s with heap:=h',toks:=m}) :
 wpAny (model prog w) A (call (.type "set") [.ref l]) Q E s:=by
 obtain⟨c,Z,m1⟩:=js.mro;have m2:=js.made;have m3:=js.sub;have m4:=js.notType;have m5:=js.canCreate;have m6:=F.typeCall_set_1 (.ref l);refine wpAny_call (codeAny_of_tree ?_);show wpAny _ _ (callAny (.type "set") _) _ _ _;refine qv ⟨Code.quiet_builtin _ (by decide +kernel),yt F.entry_type_call ?_⟩;rw[Around.under_plain (weight_type_call_type "set" [.ref l] []) rfl]
 repeat (any_goals (first|assumption|wp_step))
 refine xj (EI (.ref l) (E:=E) (R:=λz n=>z=.ref s.heap.objs.size/\n={s with heap:=s.heap.push (UK w)}) ⟨U,U⟩) λr D p=>?_
 cases r with
 |error e=>exact p
 |ok O=>
  cases O with
  |ret z=>
   obtain⟨rfl,rfl⟩:=p;have n:(s.heap.push (UK w)).get? s.heap.objs.size=some (UK w):=qL _ rfl;have G:Shared.TypeIs {s with heap:=s.heap.push (UK w)} (.ref s.heap.objs.size) "set":=⟨_,n,U⟩;have z3:=js.init.lookup;have z4:=js.init.bind (.ref s.heap.objs.size)
   repeat (any_goals (first|assumption|wp_step))
   refine xj (codeAny_call_builtin (R:=wants (λr d=>r=.none/\∃h' m,d={s with heap:=h',toks:=m}/\WE prog w (!w.params.followText "set-order") s.heap.objs.size (ss.foldl YL []) h' /\
    (∀b o,b<s.heap.objs.size->s.heap.get? b=some o->h'.get? b=some o)) E) js.init.plain F.entry_set_init (check_set_init_1 G ?_)) λg d a=>?_
   .obtain⟨ol,H,I,nl,J⟩:=N;obtain⟨K,f,q,oslots⟩:=ol;simp only at I J;subst I;subst J;have L:(s.heap.push (UK w)).get? l=some {cls:=.type "list",dict:=f,data:=.seq items nl,slots:=oslots}:=qw _ H;have y2:=F.sub_list_set;have y3:=F.sub_list_frozenset;have y4:(Value.type "list"==Value.type "dict")=false:=by decide
    have u:(s.heap.push (UK w)).IsList l items:=⟨_,L,U,nl,U⟩;unfold Builtin.«set.__init__» noKeywords Builtin.Frozenset.updateFrom;generalize x:pyIter=PI;unfold UK at n G L u⊢
    wp_walk
    subst x;refine wpAny_pyIter_list u ?_;refine qi (wpAny_runValue ?_);have lt:l<s.heap.objs.size:=qT H;have P:A.in1.in1.in1.handled=none:=by simp[M]
    have ne:l≠(s.heap.push {cls:=.type "set",dict:=none,data:=.set #[] 0 (.fresh 0 0 (!w.params.followText "set-order"))}).objs.size:=by
     rw[ye];exact zc (jP lt)
    have S:s.heap.objs.size∉[(s.heap.push {cls:=.type "set",dict:=none,data:=.set #[] 0 (.fresh 0 0 (!w.params.followText "set-order"))}).objs.size,l]:=by
     rw[ye];intro z;rcases qK.mp z with z|z
     .omega
     .rw[qk.mp z] at lt;exact yk _ lt
    have T:∀(i:Nat)(v:qd),items[i]?=some v->∃t,v=.str ((λi=>ss.getD i "") i) t:=λi v e=>Fl C i v (by rw[zt];exact e);have es:Df (λi=>ss.getD i "") items.size=ss.foldl YL []:=by
     unfold Df;rw[<-zf,XU C,CL]
    refine CA (led:=!w.params.followText "set-order") ((Walks.list P _ l ne items).toS) s.heap.objs.size S (λi=>ss.getD i "") T k (items.size-0) 0 _ (by omega) (za _) ⟨⟨_,qL _ rfl,U,U⟩,u.push _⟩ ?S0 ?R0
    case S0=>exact(cV (prog:=prog) (w:=w) (s:=s)).at λo e=>qw _ e
    case R0=>
     intro s' hm j;obtain⟨h',g',d',y,B⟩:=s';have V:g'=s.gens:=hm.gens;have X:d'=s.drawn:=hm.drawn;have Y:B=s.os:=hm.os;subst V;subst X;subst Y;rw[es] at j;refine qv (qv ⟨U,h',y,U,j,λb o k e=>?_⟩);refine hm.heap b o (λz=>?_) (qw _ (qw _ e));rcases qK.mp z with z|z
     .exact absurd z (zc k)
     .have z:=qk.mp z;rw[ye] at z;exact absurd z (zc (jP k))
   .cases g with
    |error e=>exact a
    |ok f=>
     cases f with
     |ret r=>
      obtain⟨rfl,h',m,rfl,a1,a2⟩:=a
      repeat (any_goals (first|assumption|wp_step))
      exact h _ _ a1 a2
     |_=>exact a.elim
  |_=>exact p.elim
end
def Gu{α:Type}:∀(l:qa α)(i:Nat)(h:i<l.length),(l[i]::l.eraseIdx i).Perm l
 |x::l,0,_=>.refl _
 |x::l,i+1,h=>by
  show(l[i]'(yj h)::x::l.eraseIdx i).Perm (x::l);exact(List.Perm.swap x _ _).trans ((Gu l i (yj h)).cons x)
def N9{α:Type}(next:Nat->Nat):∀(fuel k:Nat)(left:qa α)(out:Array α),left.length=fuel->(pickOrder.go next fuel k left out).toList.Perm (out.toList++left)
 |0,k,left,out,h=>by
  obtain rfl:left=[]:=jI.mp h;rw[zU];exact .refl _
 |n+1,k,left,out,h=>by
  have a:next k%left.length<left.length:=Nat.mod_lt _ (by omega);unfold pickOrder.go;rw[qB a];dsimp only;refine(N9 next n (k+1) _ _ (by rw[List.length_eraseIdx_of_lt a,h];rfl)).trans ?_;rw[Array.toList_push,yO];exact(Gu left _ a).append_left _
def AL{α:Type}(next:Nat->Nat)(xs:Array α):(pickOrder next xs).toList.Perm xs.toList:=by
 have:=N9 next xs.size 0 xs.toList #[] (by simp);exact this
def Yb:Slot "set_iterator" "__next__" "set_iterator.__next__":=.of (owner:="set_iterator") (n:="__next__") (by rw[typeLookup_type,builtinLookup_eq_fast];kernel_rfl) (by decide +kernel) (by decide +kernel) (by decide +kernel) (by first|exact .inl (by decide +kernel)|exact .inr (by decide +kernel)) (by rw[oW];kernel_rfl)
def Vq:entryFor table "set_iterator.__next__"=some Builtin.«set_iterator.__next__»:=entryFor_of_tree (by kernel_rfl)
def VN(a:qd):argsOk "set_iterator.__next__" ⟨[a],[]⟩:=by unfold argsOk;kernel_rfl
def Kl:entryFor table "set.__iter__"=some Builtin.«frozenset.__iter__»:=entryFor_alias (id':="frozenset.__iter__") (by kernel_rfl) rfl (by decide +kernel) (by kernel_rfl)
def K6:Slot "set_iterator" "__iter__" "set_iterator.__iter__":=.of (owner:="set_iterator") (n:="__iter__") (by rw[typeLookup_type,builtinLookup_eq_fast];kernel_rfl) (by decide +kernel) (by decide +kernel) (by decide +kernel) (by first|exact .inl (by decide +kernel)|exact .inr (by decide +kernel)) (by rw[oW];kernel_rfl)
def Fg{M:Model}{A:Around}{E:qf}{s:Shared}{src:Source}{n:Nat}{Q:Nat->Shared->Prop}(a:n≠0)(h:∀i d',i<n->Q i {s with drawn:=d'}):wpAny M A (choose src n) Q E s:=
 λ_ _ _=>⟨a,h _ _ (Nat.mod_lt _ (Nat.pos_of_ne_zero a))⟩
def XG{M:Model}{A:Around}{E:qf}{α:Type}:∀(n:Nat)(xs:qa α)(s:Shared)(Q:qa α->Shared->Prop),xs.length=n->(∀ys d',ys.Perm xs->Q ys {s with drawn:=d'})->wpAny M A (drawOrder n xs) Q E s
 |0,xs,s,Q,a,h=>by
  obtain rfl:xs=[]:=jI.mp a;have e:s={s with drawn:=s.drawn}:=by cases s;rfl
  unfold drawOrder;refine qv ?_;rw[e];exact h [] _ (.refl _)
 |n+1,[],s,Q,a,h=>by cases a
 |n+1,x::xs,s,Q,a,h=>by
  unfold drawOrder;refine qi (Fg (by simp) λi d' b=>?_);have e:(x::xs)[i]?=some (x::xs)[i]:=qB b;rw[e];dsimp only;refine qi (XG n ((x::xs).eraseIdx i) _ _ (by rw[List.length_eraseIdx_of_lt b,a];rfl) λys c d=>qv ?_);exact h _ c ((d.cons _).trans (Gu _ i b))
def Vs(h:Heap)(it a:qc)(first:qd)(i n b:Nat):Prop:=∃o,h.get? it=some o/\o.cls=.type "set_iterator"/\o.data=.fields #[first,.int i 0,.ref a,.int n 0,.int b 0]
def tI(h:Heap)(a:qc)(es:Array (Int×qd))(b:Nat)(t:SetTable):Prop:=∃o,h.get? a=some o/\o.cls=.type "set"/\o.data=.set es b t
section
variable {prog:Program}{w:World}{A:Around}{E:qf}{s:Shared}{a it:qc}{es:Array (Int×qd)}{ep:Nat}{t:SetTable}
def Vs.typeIs{first:qd}{i n:Nat}(h:Vs s.heap it a first i n ep):s.TypeIs (.ref it) "set_iterator":=let ⟨o,e,c,_⟩:=h;⟨o,e,c⟩
def Ki{Q:qf}(hS:tI s.heap a es ep t)(hf:t.fits es.size=true)(c:(!w.params.followText "set-order"&&(!t.plain&&decide (es.size > 1)))=false)
 (h:Q (.ref s.heap.objs.size) {s with heap:=s.heap.push {cls:=.type "set_iterator",data:=.fields #[.int 0 0,.int 0 0,.ref a,.int es.size 0,.int ep 0]}}) :
 wpAny (model prog w) A (pyIter (.ref a)) Q E s:=by
 obtain⟨o,b,hc,hd⟩:=hS;have d:s.TypeIs (.ref a) "set":=⟨o,b,hc⟩;refine rZ d slot_set_iter (zR slot_set_iter d Kl ?_ (PySem.F.args_set_iter_1 _));unfold Builtin.«frozenset.__iter__» Builtin.Frozenset.slot0 slotArgs;simp only[vy,uP,zE,↓reduceIte,bind_assoc,jZ,yP];unfold Builtin.Frozenset.addrOf Builtin.Frozenset.sizeOf;refine qi (qv ?_)
 try dsimp only
 refine qi (qv ?_);refine qi (qi (xP b hd hf (qv ?_)));unfold setDrawn setsByText;refine qi (qi (xk b hd hf ?_));refine qi (qi (xQ (qv ?_)));refine qv ?_;refine yu (λz=>?_) (λ_=>?_)
 .have e:(!w.params.followText "set-order"&&(!t.plain&&decide (es.size > 1)))=true:=z;rw[c] at e;cases e
 refine qi (qv ?_);refine qi (wpAny_setEpoch_of b hd hf ?_);unfold newFields;refine qi (zG (qv ⟨_,U,"set_iterator",_,⟨_,qL _ rfl,U⟩,Yb.lookup,?_⟩));exact h
def UH(ps:qa Nat):Obj:={cls:=.type "tuple",data:=.seq (ps.map λ(i:Nat)=>rawInt i).toArray}
def Dp{Q:qf}(hS:tI s.heap a es ep t)(hf:t.fits es.size=true)(c:(!w.params.followText "set-order"&&(!t.plain&&decide (es.size > 1)))=true)(hz:es.size<=sizeLine)
 (h:∀ps d',ps.Perm (List.range es.size)->Q (.ref (s.heap.push (UH ps)).objs.size) {s with heap:=(s.heap.push (UH ps)).push {cls:=.type "set_iterator",data:=.fields #[.ref s.heap.objs.size,.int 0 0,.ref a,.int es.size 0,.int ep 0]},drawn:=d'}) :
 wpAny (model prog w) A (pyIter (.ref a)) Q E s:=by
 obtain⟨o,b,hc,hd⟩:=hS;have d:s.TypeIs (.ref a) "set":=⟨o,b,hc⟩;refine rZ d slot_set_iter (zR slot_set_iter d Kl ?_ (PySem.F.args_set_iter_1 _));unfold Builtin.«frozenset.__iter__» Builtin.Frozenset.slot0 slotArgs;simp only[vy,uP,zE,↓reduceIte,bind_assoc,jZ,yP];unfold Builtin.Frozenset.addrOf Builtin.Frozenset.sizeOf;refine qi (qv ?_)
 try dsimp only
 refine qi (qv ?_);refine qi (qi (xP b hd hf (qv ?_)));unfold setDrawn setsByText;refine qi (qi (xk b hd hf ?_));refine qi (qi (xQ (qv ?_)));refine qv ?_;refine yu (λ_=>?_) (λz=>absurd (show(!w.params.followText "set-order"&&(!t.plain&&decide (es.size > 1)))=true from c) z);refine qi (XG _ _ _ _ jO λps d' e=>?_);have f:(ps.map λi:Nat=>rawInt i).length<=sizeLine:=by rw[qh,e.length_eq,jO];exact hz
 refine qi (wpAny_newTuple ?_ f);refine qi (wpAny_setEpoch_of (s:={s with heap:=s.heap.push (UH ps),drawn:=d'}) (qw _ b) hd hf ?_);unfold newFields;refine qi (zG (qv ⟨_,U,"set_iterator",_,⟨_,qL _ rfl,U⟩,Yb.lookup,?_⟩));exact h ps d' e
def Kd{Q:Option qd->Shared->Prop}{i slot:Nat}(d:Vs s.heap it a (.int slot 0) i es.size ep)(hS:tI s.heap a es ep t)(hf:t.fits es.size=true)(g:a≠it)(x:qd)(nx:Nat)
 (j:∀(b:Around)(c:qf)(R:Option (qd×Nat)->Shared->Prop),R (some (x,nx)) s->wpAny (model prog w) b (setNext a slot i ep) R c s)
 (h:∀h',Vs h' it a (.int nx 0) (i+1) es.size ep->Heap.SameBut it s.heap h'->Q (some x) {s with heap:=h'}):wpAny (model prog w) A (pyNext (.ref it)) Q E s:=by
 obtain⟨m,c,e,b⟩:=id d;obtain⟨o,k,hc,hd⟩:=hS;unfold pyNext;refine qi (lU (jt (name:=Str.ofString "__next__") d.typeIs Yb (zR Yb d.typeIs Vq ?_ (VN _))));unfold Builtin.«set_iterator.__next__» slotArgs;simp only[vy,uP,zE,↓reduceIte,bind_assoc,jZ,yP];refine qi (qv ?_);refine qi (uU c b ?_);dsimp only;refine qi (xP k hd hf ?_);rw[qA (by simp)];simp only[jN];refine qi (j _ _ _ ?_);dsimp only;refine qi (xS c b (by simp) ?_);have g1:=jo (Obj.mapFields (·.setIfInBounds 0 (rawInt (nx:Int)))) c (vz (jw b _));have f:=jw b (·.setIfInBounds 0 (rawInt (nx:Int)));refine qi (xS (s:={s with heap:=s.heap.update it (Obj.mapFields (·.setIfInBounds 0 (rawInt (nx:Int))))}) g1 f (by simp) ?_);have g2:=jo (Obj.mapFields (·.setIfInBounds 1 (rawInt ((i:Int)+1)))) g1 (vz (jw f _));have l:=jw f (·.setIfInBounds 1 (rawInt ((i:Int)+1)));refine qv ⟨_,U,qv (h _ ⟨_,g2,(sb ..).trans ((sb ..).trans e),?_⟩ ?_)⟩
 .rw[l];simp[rawInt]
 .exact(jn ..).trans (jn ..)
def WY{Q:Option qd->Shared->Prop}{i slot:Nat}(f:A.handled=none)(e:Vs s.heap it a (.int slot 0) i es.size ep)(hS:tI s.heap a es ep t)(hf:t.fits es.size=true)
 (g:∀(c:Around)(d:qf)(R:Option (qd×Nat)->Shared->Prop),R none s->wpAny (model prog w) c (setNext a slot i ep) R d s)
 (h:∀h',Heap.ExtBut it s.heap h'->Q none {s with heap:=h'}):wpAny (model prog w) A (pyNext (.ref it)) Q E s:=by
 obtain⟨l,c,j,d⟩:=id e;obtain⟨o,k,hc,hd⟩:=hS;unfold pyNext;refine qi (lU (jt (name:=Str.ofString "__next__") e.typeIs Yb (zR Yb e.typeIs Vq ?_ (VN _))));unfold Builtin.«set_iterator.__next__» slotArgs;simp only[vy,uP,zE,↓reduceIte,bind_assoc,jZ,yP];refine qi (qv ?_);refine qi (uU c d ?_);dsimp only;refine qi (xP k hd hf ?_);rw[qA (by simp)];simp only[jN];refine qi (g _ _ _ ?_);dsimp only;refine qi (xS c d (by simp) ?_);refine qi ?_;simp only[newExc,newTuple];refine qi (zG ?_ (by size_fits));refine qi (m:=firstArgMember _ _) (wpAny_of_eq (a:=Value.none) (by first|rfl|(simp only[firstArgMember];rfl)) ?_);refine zG ?_ (by size_fits);simp only[raiseNew];refine qi (wpAny_handled ?_);rw[show A.in1.handled=none from f];refine qi (qv (wpAny_throw ?_));refine qi (tP (T:="StopIteration") (b:=true) ⟨_,qL _ rfl,U⟩ isSubtype_stop ?_);exact qv (h _ (((jn ..).extBut.push _).push _))
def CY{Q:Option qd->Shared->Prop}{T:qc}{ps:qa Nat}{i p:Nat}(d:Vs s.heap it a (.ref T) i es.size ep)(j:s.heap.get? T=some (UH ps))(hS:tI s.heap a es ep t)(hf:t.fits es.size=true)(k:ps[i]?=some p){e:Int×qd}(he:es[p]?=some e)
 (h:∀h',Vs h' it a (.ref T) (i+1) es.size ep->Heap.SameBut it s.heap h'->Q (some e.2) {s with heap:=h'}):wpAny (model prog w) A (pyNext (.ref it)) Q E s:=by
 obtain⟨n,c,f,b⟩:=id d;obtain⟨o,g,hc,hd⟩:=hS;unfold pyNext;refine qi (lU (jt (name:=Str.ofString "__next__") d.typeIs Yb (zR Yb d.typeIs Vq ?_ (VN _))));unfold Builtin.«set_iterator.__next__» slotArgs;simp only[vy,uP,zE,↓reduceIte,bind_assoc,jZ,yP];refine qi (qv ?_);refine qi (uU c b ?_);dsimp only;refine qi (xP g hd hf ?_);rw[qA (by simp)];simp only[jN];refine qi (wpAny_seqItems j rfl ?_);dsimp only;have l:((ps.map λ(i:Nat)=>rawInt i).toArray)[i]?=some (rawInt p):=by rw[List.getElem?_toArray,qQ,k];rfl
 rw[l];dsimp only[rawInt];unfold setNextDrawn;simp only[jN,bind_assoc];refine qi (xk g hd hf ?_);rw[qA (by simp)];rw[he];dsimp only;simp only[pure_bind];refine qi (xS c b (by simp) ?_);have g1:=jo (Obj.mapFields (·.setIfInBounds 1 (rawInt ((i:Int)+1)))) c (vz (jw b _));have m:=jw b (·.setIfInBounds 1 (rawInt ((i:Int)+1)));refine qv ⟨_,U,qv (h _ ⟨_,g1,(sb ..).trans f,?_⟩ (jn ..))⟩;rw[m];simp[rawInt]
def K1{Q:Option qd->Shared->Prop}{T:qc}{ps:qa Nat}{i:Nat}(f:A.handled=none)(e:Vs s.heap it a (.ref T) i es.size ep)(g:s.heap.get? T=some (UH ps))(hS:tI s.heap a es ep t)(hf:t.fits es.size=true)(j:ps[i]?=none)
 (h:∀h',Heap.ExtBut it s.heap h'->Q none {s with heap:=h'}):wpAny (model prog w) A (pyNext (.ref it)) Q E s:=by
 obtain⟨q,d,k,c⟩:=id e;obtain⟨o,l,hc,hd⟩:=hS;unfold pyNext;refine qi (lU (jt (name:=Str.ofString "__next__") e.typeIs Yb (zR Yb e.typeIs Vq ?_ (VN _))));unfold Builtin.«set_iterator.__next__» slotArgs;simp only[vy,uP,zE,↓reduceIte,bind_assoc,jZ,yP];refine qi (qv ?_);refine qi (uU d c ?_);dsimp only;refine qi (xP l hd hf ?_);rw[qA (by simp)];simp only[jN];refine qi (wpAny_seqItems g rfl ?_);dsimp only;have n:((ps.map λ(i:Nat)=>rawInt i).toArray)[i]?=none:=by rw[List.getElem?_toArray,qQ,j];rfl
 rw[n];dsimp only;refine qi (xS d c (by simp) ?_);have g1:=jo (Obj.mapFields (·.setIfInBounds 0 (rawInt 0))) d (vz (jw c _));have p:=jw c (·.setIfInBounds 0 (rawInt 0));refine qi (xS (s:={s with heap:=s.heap.update it (Obj.mapFields (·.setIfInBounds 0 (rawInt 0)))}) g1 p (by simp) ?_);refine qi ?_;simp only[newExc,newTuple];refine qi (zG ?_ (by size_fits));refine qi (m:=firstArgMember _ _) (wpAny_of_eq (a:=Value.none) (by first|rfl|(simp only[firstArgMember];rfl)) ?_);refine zG ?_ (by size_fits);simp only[raiseNew];refine qi (wpAny_handled ?_);rw[show A.in1.handled=none from f];refine qi (qv (wpAny_throw ?_));refine qi (tP (T:="StopIteration") (b:=true) ⟨_,qL _ rfl,U⟩ isSubtype_stop ?_);exact qv (h _ ((((jn ..).trans (jn ..)).extBut.push _).push _))
end
section
variable {prog:Program}{w:World}{A:Around}{E:qf}{s:Shared}{a it:qc}{es:Array (Int×qd)}{ep:Nat}{t:SetTable}
def GO{i slot:Nat}{R:Option (qd×Nat)->Shared->Prop}(hS:tI s.heap a es ep t)(hf:t.fits es.size=true)(b:w.params.followText "set-order"=true)
 (h:R (((pickOrder (w.params.setOrder a ep) es)[i]?).map λe=>(e.2,slot)) s):wpAny (model prog w) A (setNext a slot i ep) R E s:=by
 obtain⟨o,c,hc,hd⟩:=hS;unfold setNext setsByText;refine qi (xk c hd hf ?_);refine qi (qi (xQ (qv ?_)));refine yu (λ_=>?_) (λz=>absurd (show w.params.followText "set-order"=true from b) z);rw[qA (by simp)];refine qi ?_;unfold setWalk setsByText;refine qi (xk c hd hf ?_);refine qi (qi (xQ (qv ?_)));refine yu (λ_=>?_) (λz=>absurd (show w.params.followText "set-order"=true from b) z);refine qi (xQ ?_);exact qv (qv h)
def XZ{i slot:Nat}{R:Option (qd×Nat)->Shared->Prop}(hS:tI s.heap a es ep t)(hf:t.fits es.size=true)(c:w.params.followText "set-order"=false)(d:t.led=true)(hz:es.size<=1)
 (h:R (match es[SetTable.below t.place slot]?,t.place[SetTable.below t.place slot]? with|some (_,x),some j=>some (x,j+1)|_,_=>none) s):wpAny (model prog w) A (setNext a slot i ep) R E s:=by
 obtain⟨o,e,hc,hd⟩:=hS;unfold setNext setsByText;refine qi (xk e hd hf ?_);refine qi (qi (xQ (qv ?_)));refine yu (λz=>absurd (show w.params.followText "set-order"=true from z) (by rw[c];exact qI)) (λ_=>?_);refine yu (λz=>?_) (λ_=>?_)
 .have b:(!t.plain&&decide (es.size > 1))=true:=z;rw[jb] at b;have:=qo b.2;omega
 refine qi ?_;show wpAny _ _ (if (!t.led&&!es.isEmpty)=true then _ else pure ()) _ _ s;rw[qA (by rw[d];simp)];exact qv (qv h)
def tI.at{h h':Heap}(x:tI h a es ep t)(k:∀o,h.get? a=some o->h'.get? a=some o):tI h' a es ep t:=let ⟨o,e,r⟩:=x;⟨o,k o e,r⟩
def Vs.at{h h':Heap}{first:qd}{i n:Nat}(x:Vs h it a first i n ep)(k:∀o,h.get? it=some o->h'.get? it=some o):Vs h' it a first i n ep:=let ⟨o,e,r⟩:=x;⟨o,k o e,r⟩
def DC:entryFor table "set_iterator.__iter__"=some Builtin.«dict_keyiterator.__iter__»:=entryFor_alias (id':="dict_keyiterator.__iter__") (by kernel_rfl) rfl (by decide +kernel) (by kernel_rfl)
def D6(a:qd):argsOk "set_iterator.__iter__" ⟨[a],[]⟩:=by unfold argsOk;kernel_rfl
def Cz{first:qd}{i n:Nat}{Q:qf}(b:Vs s.heap it a first i n ep)(h:Q (.ref it) s):wpAny (model prog w) A (pyIter (.ref it)) Q E s:=by
 refine rZ b.typeIs K6 (zR K6 b.typeIs DC ?_ (D6 _));show wpAny _ _ (ret (.ref it)) _ _ s;exact qv ⟨_,U,"set_iterator",_,b.typeIs,Yb.lookup,h⟩
def L9(c:w.params.followText "set-order"=true)(hf:t.fits es.size=true)(m:A.handled=none)(d:a≠it) :
 Walks prog w A it [it,a] [it] es.size (λi v=>((pickOrder (w.params.setOrder a ep) es).toList.map (·.2))[i]?=some v) (λi h=>Vs h it a (.int 0 0) i es.size ep/\tI h a es ep t) where
 sub:=λb c=>by simp at c;simp[c]
 frame:=λ_ _ _ st j=>⟨st.1.at λo e=>j it (by simp) o e,st.2.at λo e=>j a (by simp) o e⟩
 item:=λi s Q E u st f=>by
  have n:(pickOrder (w.params.setOrder a ep) es).size=es.size:=by have:=(AL (w.params.setOrder a ep) es).length_eq;simpa using this
  have k:(pickOrder (w.params.setOrder a ep) es)[i]?=some ((pickOrder (w.params.setOrder a ep) es)[i]'(by omega)):=je (by omega);refine Kd (slot:=0) (nx:=0) st.1 st.2 hf d _ (λp q R r=>GO st.2 hf c (by rw[k];exact r)) λh' g l=>?_;refine f _ h' s.toks ?_ ⟨g,st.2.at λo e=>(l.2 a d).trans e⟩ λb o c e=>(l.2 b (λz=>c (by simp[z]))).trans e;rw[qQ,zt,k];rfl
 done:=λs Q E st f=>by
  have n:(pickOrder (w.params.setOrder a ep) es).size=es.size:=by have:=(AL (w.params.setOrder a ep) es).length_eq;simpa using this
  refine WY (slot:=0) m st.1 st.2 hf (λp q R r=>GO st.2 hf c (by rw[xO (by omega)];exact r)) λh' g=>f h' s.toks λb o c e=>g b o (λz=>c (by simp[z])) e
 self:=λ_ _ _ _ st f=>Cz st.1 f
def L3(j:Nat):SetTable.below #[j] 0=0:=by
 unfold SetTable.below;simp[SetTable.below.go]
def L1(j:Nat):SetTable.below #[j] (j+1)=1:=by
 unfold SetTable.below;simp[SetTable.below.go]
def OG(es:Array (Int×qd))(pl:Array Nat)(a:es.size=1)(b:pl.size=es.size):∃e j,es=#[e]/\pl=#[j]:=by
 obtain⟨l⟩:=es;obtain⟨m⟩:=pl;simp only[qR] at a b;obtain⟨e,rfl⟩:=List.length_eq_one_iff.mp a;obtain⟨j,rfl⟩:=List.length_eq_one_iff.mp (b.trans a);exact⟨e,j,U,U⟩
def OY(c:w.params.followText "set-order"=false)(hf:t.fits es.size=true)(n:t.led=true)(hz:es.size<=1)(x:A.handled=none)(f:a≠it) :
 Walks prog w A it [it,a] [it] es.size (λi v=>(es.toList.map (·.2))[i]?=some v) (λi h=>Vs h it a (.int ((if i=0 then 0 else t.place.getD 0 0+1:Nat):Int) 0) i es.size ep/\tI h a es ep t) where
 sub:=λb c=>by simp at c;simp[c]
 frame:=λ_ _ _ st y=>⟨st.1.at λo e=>y it (by simp) o e,st.2.at λo e=>y a (by simp) o e⟩
 item:=λi s Q E D st d=>by
  have l:es.size=1:=by omega
  have h0:i=0:=by omega
  subst h0;have p:t.place.size=es.size:=by unfold SetTable.fits at hf;rw[jb] at hf;exact eq_of_beq hf.1
  obtain⟨e,j,m,g⟩:=OG es t.place l p;refine Kd (slot:=0) (nx:=j+1) st.1 st.2 hf f e.2 (λB C R r=>XZ st.2 hf c n hz (by rw[g,L3,m];exact r)) λh' k u=>?_;refine d _ h' s.toks (by rw[m];rfl) ⟨?_,st.2.at λo e=>(u.2 a f).trans e⟩ λb o c e=>(u.2 b (λz=>c (by simp[z]))).trans e;have q:(if 0+1=0 then 0 else t.place.getD 0 0+1:Nat)=j+1:=by rw[g];rfl
  rw[q];exact k
 done:=λs Q E st d=>by
  by_cases l:es.size=1
  .have p:t.place.size=es.size:=by unfold SetTable.fits at hf;rw[jb] at hf;exact eq_of_beq hf.1
   obtain⟨e,j,m,g⟩:=OG es t.place l p;have q:(if es.size=0 then 0 else t.place.getD 0 0+1:Nat)=j+1:=by rw[l,g];rfl
   have k:=st.1;rw[q] at k;refine WY (slot:=j+1) x k st.2 hf (λB C R r=>XZ st.2 hf c n hz (by rw[g,L1,m];exact r)) λh' u=>d h' s.toks λb o c e=>u b o (λz=>c (by simp[z])) e
  .refine WY x st.1 st.2 hf (λB C R r=>XZ st.2 hf c n hz (by rw[xO (by omega)];exact r)) λh' u=>d h' s.toks λb o c e=>u b o (λz=>c (by simp[z])) e
 self:=λ_ _ _ _ st d=>Cz st.1 d
def Hx{T:qc}{ps:qa Nat}(c:ps.Perm (List.range es.size))(hf:t.fits es.size=true)(r:A.handled=none)(g:a≠it)(j:T≠it) :
 Walks prog w A it [it,a,T] [it] es.size (λi v=>((ps.map λp=>es.toList.getD p (0,.none)).map (·.2))[i]?=some v) (λi h=>Vs h it a (.ref T) i es.size ep/\tI h a es ep t/\h.get? T=some (UH ps)) where
 sub:=λb d=>by simp at d;simp[d]
 frame:=λ_ _ _ st k=>⟨st.1.at λo e=>k it (by simp) o e,st.2.1.at λo e=>k a (by simp) o e,k T (by simp) _ st.2.2⟩
 item:=λi s Q E y st f=>by
  have u:ps.length=es.size:=by rw[c.length_eq,jO]
  have q:ps[i]?=some (ps[i]'(by omega)):=qB (by omega);have l:ps[i]'(by omega)<es.size:=xh.mp (c.mem_iff.mp (jh (by omega)));have x:es[ps[i]'(by omega)]?=some (es.toList.getD (ps[i]'(by omega)) (0,.none)):=by
   rw[zC,zt,je l];rfl
  refine CY st.1 st.2.2 st.2.1 hf q x λh' m n=>?_;refine f _ h' s.toks ?_ ⟨m,st.2.1.at λo e=>(n.2 a g).trans e,(n.2 T j).trans st.2.2⟩ λb o d e=>(n.2 b (λz=>d (by simp[z]))).trans e;rw[qQ,qQ,q];rfl
 done:=λs Q E st f=>by
  have u:ps.length=es.size:=by rw[c.length_eq,jO]
  refine K1 r st.1 st.2.2 st.2.1 hf (kL (by omega)) λh' l=>f h' s.toks λb o d e=>l b o (λz=>d (by simp[z])) e
 self:=λ_ _ _ _ st f=>Cz st.1 f
def Xn:∀{l:qa (Int×qd)},ElemsOf (strKind prog w) l->StrsAre (l.map (·.2)) (l.map λe=>K4 e.2)
 |[],_=>.nil
 |e::l,h=>by
  obtain⟨t,q⟩:=DD h (qy ..);have a:=Xn (l:=l) λe he=>h e (qH _ he);show StrsAre (e.2::l.map (·.2)) (K4 e.2::l.map λe=>K4 e.2);rw[q];exact .cons _ _ a
def Mq{α:Type}(l:qa α)(d:α):(List.range l.length).map (λi=>l.getD i d)=l:=by
 apply List.ext_getElem
 .rw[qh,jO]
 .intro i b a;rw[List.getElem_map,Qbi,zC,qB a];rfl
def FH(h:Heap)(o:Obj):h.objs.size<(h.push o).objs.size:=by rw[ye];exact Nat.lt_succ_self _
def P8{ks:qe}{Q:qf}(hS:WE prog w (!w.params.followText "set-order") a ks s.heap)
 (h:∀(I:qc)(h':Heap)(d':Drawn)(c:qa qc)(vs:qg)(ss:qe)(St:Nat->Heap->Prop),(∀b o,s.heap.get? b=some o->h'.get? b=some o)->s.heap.objs.size<=I->I<h'.objs.size->(∀b∈c,b=a\/s.heap.objs.size<=b) ->
   StrsAre vs ss->ss.Perm ks->(∀l:Around,l.handled=none->Walks prog w l I c [I] vs.length (λi v=>vs[i]?=some v) St)->St 0 h'->Q (.ref I) {s with heap:=h',drawn:=d'}) :
 wpAny (model prog w) A (pyIter (.ref a)) Q E s:=by
 obtain⟨o,es,ep,t,z,hex,hd,f,c,hf,m,x,g⟩:=hS;have hS:tI s.heap a es ep t:=⟨o,z,hex.1,hd⟩;have lt:a<s.heap.objs.size:=qT z;have ne:a≠s.heap.objs.size:=zc lt;have n:∀b∈[s.heap.objs.size,a],b=a\/s.heap.objs.size<=b:=λb c=>by
  rcases qK.mp c with e|c
  .exact .inr (by omega)
  .exact .inl (qk.mp c)
 by_cases j:w.params.followText "set-order"=true
 .have pp:=AL (w.params.setOrder a ep) es;have q:((pickOrder (w.params.setOrder a ep) es).toList.map (·.2)).length=es.size:=by rw[qh,pp.length_eq,zf]
  refine Ki hS hf (by rw[j];rfl) ?_;refine h s.heap.objs.size _ s.drawn [s.heap.objs.size,a] ((pickOrder (w.params.setOrder a ep) es).toList.map (·.2)) ((pickOrder (w.params.setOrder a ep) es).toList.map λe=>K4 e.2) (λi h=>Vs h s.heap.objs.size a (.int 0 0) i es.size ep/\tI h a es ep t) (λb o e=>qw _ e) (qD _) (FH _ _) n
   (Xn (f.perm pp)) ((pp.map _).trans g) (λl d=>by rw[q];exact L9 j hf d ne) ⟨⟨_,qL _ rfl,U,U⟩,hS.at λo e=>qw _ e⟩
 .have k:w.params.followText "set-order"=false:=Bool.eq_false_iff.mpr j;by_cases hz:es.size<=1
  .have q:(es.toList.map (·.2)).length=es.size:=by rw[qh,zf]
   refine Ki hS hf (by rw[qF (show ¬es.size > 1 by omega),Bool.and_false,Bool.and_false]) ?_;refine h s.heap.objs.size _ s.drawn [s.heap.objs.size,a] (es.toList.map (·.2)) (es.toList.map λe=>K4 e.2) (λi h=>Vs h s.heap.objs.size a (.int ((if i=0 then 0 else t.place.getD 0 0+1:Nat):Int) 0) i es.size ep/\tI h a es ep t) (λb o e=>qw _ e) (qD _) (FH _ _) n
    (Xn f) g (λl d=>by rw[q];exact OY k hf (by rw[m,k];rfl) hz d ne) ⟨⟨_,qL _ rfl,U,U⟩,hS.at λo e=>qw _ e⟩
  .have B:t.plain=false:=by
    cases e:t.plain with
    |false=>rfl
    |true=>have:=x e;omega
   refine Dp hS hf (by rw[k,B,qu (show es.size > 1 by omega)];rfl) (vv (zl c (by decide))) λps d' r=>?_;have pp:(ps.map λp=>es.toList.getD p (0,Value.none)).Perm es.toList:=by
    have u:=r.map (λp=>es.toList.getD p (0,Value.none));have y:=Mq es.toList (0,Value.none);rw[zf] at y;rw[y] at u;exact u
   have q:((ps.map λp=>es.toList.getD p (0,Value.none)).map (·.2)).length=es.size:=by rw[qh,pp.length_eq,zf]
   have u:(s.heap.push (UH ps)).objs.size=s.heap.objs.size+1:=ye ..;have y:a≠(s.heap.push (UH ps)).objs.size:=by rw[u];exact zc (jP lt)
   have neT:s.heap.objs.size≠(s.heap.push (UH ps)).objs.size:=by rw[u];omega
   refine h (s.heap.push (UH ps)).objs.size _ d' [(s.heap.push (UH ps)).objs.size,a,s.heap.objs.size] ((ps.map λp=>es.toList.getD p (0,Value.none)).map (·.2)) ((ps.map λp=>es.toList.getD p (0,Value.none)).map λe=>K4 e.2) (λi h=>Vs h (s.heap.push (UH ps)).objs.size a (.ref s.heap.objs.size) i es.size ep/\tI h a es ep t/\h.get? s.heap.objs.size=some (UH ps))
    (λb o e=>qw _ (qw _ e)) (by rw[u];omega) (FH _ _) (λb c=>?_)
    (Xn (f.perm pp)) ((pp.map _).trans g) (λl d=>by rw[q];exact Hx r hf d y neT) ⟨⟨_,qL _ rfl,U,U⟩,hS.at λo e=>qw _ (qw _ e),qw _ (qL _ rfl)⟩
   rcases qK.mp c with e|c
   .exact .inr (by rw[e,u];omega)
   .rcases qK.mp c with e|c
    .exact .inl e
    .exact .inr (by rw[qk.mp c];exact qD _)
end
section
variable {prog:Program}{w:World}{A:Around}{E:qf}{s:Shared}
def T4{r:qc}{Q:Bool->Shared->Prop}(d:s.TypeIs (.ref r) "set")(h:Q false s):wpAny (model prog w) A (Builtin.List.listLengthHint (.ref r)) Q E s:=by
 unfold Builtin.List.listLengthHint;refine qi (wpAny_specialOf d PySem.F.slot_set_len.lookup ?_);generalize c:("set.__len__":String)=e
 wp_delta
 rw[show splitId e=some ("set","__len__") from by subst c;decide +kernel];subst c;refine qi (tP (T:="set") (b:=true) d (by rw[oW];kernel_rfl) ?_);refine yu (λa=>absurd a (by decide)) (λ_=>?_);refine yu (λ_=>?_) (λa=>absurd (by decide +kernel) a);refine qi (QaB d ?_);exact qv h
def WE.typeIs{led:Bool}{a:qc}{ks:qe}(x:WE prog w led a ks s.heap):s.TypeIs (.ref a) "set":=let ⟨o,_,_,_,e,hex,_⟩:=x;⟨o,e,hex.1⟩
def WE.lt{led:Bool}{a:qc}{ks:qe}{h:Heap}(x:WE prog w led a ks h):a<h.objs.size:=let ⟨o,_,_,_,e,_⟩:=x;qT e
def TQ{acc:Array qd}{vs:qg}(h:ItemsOf (λi v=>vs[i]?=some v) acc vs.length):acc.toList=vs:=by
 have b:acc.size=vs.length:=h.1;apply List.ext_getElem?;intro i;by_cases a:i<acc.size
 .rw[zt,je a];exact(h.2 i _ (je a)).symm
 .rw[kL (by rw[zf];omega),kL (by omega)]
def MZ{R:Result->Shared->Prop}{r:qc}{ks:qe}(D:A.handled=none)(g:WE prog w (!w.params.followText "set-order") r ks s.heap)(S:qc)(k:S≠r)(res:qd)(c₀:Nat)(hS:s.heap.get? S=some {cls:=.type "list",data:=.seq #[] c₀})(v:ks.length<=sizeLine)
 (E:∀h' t d' c j ss,(∀b o,b≠S->s.heap.get? b=some o->h'.get? b=some o)->h'.get? S=some {cls:=.type "list",dict:=none,data:=.seq c j,slots:=#[]}->StrsAre c.toList ss->ss.Perm ks->R (.ok (.ret res)) {s with heap:=h',toks:=t,drawn:=d'}) :
 wpAny (model prog w) A.in1 (Builtin.List.listExtendWith (.ref S) (.ref r) res)
  (λfin s'=>match fin with|.done f=>R (.ok f) s'|.again j=>j.quiet=true/\codeAny (model prog w) A j R s') (λe s'=>R (.error e) s') s:=by
 have x:=qT hS;unfold Builtin.List.listExtendWith;refine qi (QaB (T:="set") g.typeIs ?_);have u:Builtin.List.listSameRef (.ref S) (.ref r)=false:=by simp[Builtin.List.listSameRef,k]
 simp only[u,show(Value.type "set"==Value.type "list")=false by decide,show(Value.type "set"==Value.type "tuple")=false by decide,Bool.or_false,zE,yB];refine qi (P8 g λI u d' F vs ss St keep y ltI B l m W st=>?_);have n:S∉F:=λz=>by
  rcases B S z with e|e
  .exact k e
  .exact yk _ (zl x e)
 have hlen:vs.length<=sizeLine:=by rw[XU l,m.length_eq];exact v
 have key:∀(h:Heap)(c₁ t:Nat),St 0 h->(∀b o,b≠S->s.heap.get? b=some o->h.get? b=some o)->h.get? S=some {cls:=.type "list",data:=.seq #[] c₁} ->
  codeAny (model prog w) A (.builtin "list.extend.loop" ⟨[.ref S,.ref I,res],[]⟩) R {s with heap:=h,toks:=t,drawn:=d'}:=by
  intro h c₁ t p G a;refine codeAny_extend_loopS (W A.in1 D).toS hlen S n res vs.length 0 _ #[] c₁ rfl (za _) p a (ItemsOf.nil _) λs' c j hm C q=>?_;rw[Moved.eq_with hm];refine E s'.heap s'.toks d' c j ss (λb o i e=>hm.heap b o (λd=>?_) (G b o i e)) C (by rw[TQ q];exact l) m;rcases qK.mp d with H|d
  .exact i H
  .exact absurd (qT e) (by rw[qk.mp d];exact Nat.not_lt.mpr y)
 have a:=keep _ _ hS;have j:=g.at (h':=u) λo e=>keep _ _ e;refine qi (jz (T4 (s:={s with heap:=u,drawn:=d'}) j.typeIs ?_));refine yu (λ_=>?_) (λ_=>qv ⟨lT PySem.F.plain_extend_loop _,key _ c₀ _ st (λb o _ e=>keep _ _ e) a⟩);refine qi (QaD ?_);refine qi ?_;show wpAny _ _ (updateSeq S (·.push .none)>>=λ_=>updateSeq S (·.pop)) _ _ _;refine qi (wpAny_updateSeq a rfl ?_);have c:=jo (Obj.mapSeq (·.push Value.none)) a rfl;refine wpAny_updateSeq (hz:=by seq_fits) c rfl ?_;have d:=jo (Obj.mapSeq (·.pop)) c rfl;refine qv ⟨lT PySem.F.plain_extend_loop _,key _ _ _ ?_ (λb o i e=>?_) d⟩
 .refine(W A.in1 D).frame 0 _ _ st λb i o e=>?_;have p:b≠S:=λh=>n (h▸i);exact(yF _ _ (xJ p)).trans ((yF _ _ (xJ p)).trans e)
 .exact(yF _ _ (xJ i)).trans ((yF _ _ (xJ i)).trans (keep _ _ e))
def LQ{r:qc}{ks:qe}{R:qg->Shared->Prop}(calm:A.handled=none)(ok:WE prog w (!w.params.followText "set-order") r ks s.heap)(d:ks.length<=sizeLine)
 (fin:∀(g:Heap)(k:Nat)(d':Drawn)(got:qg)(ss:qe),(∀b o,s.heap.get? b=some o->g.get? b=some o)->s.heap.objs.size<g.objs.size->StrsAre got ss->ss.Perm ks->R got {s with heap:=g,toks:=k,drawn:=d'}) :
 wpAny (model prog w) A (collect (.ref r)) R E s:=by
 have i:=ok.lt
 let new:Obj:={cls:=.type "list",data:=.seq ([]:qg).toArray}
 have there:(s.heap.push new).get? s.heap.objs.size=some new:=qL _ rfl;have a:=ok.at (h':=s.heap.push new) λo e=>qw (h:=s.heap) new e;have walked:=MZ (A:=A) (s:={s with heap:=s.heap.push new})
  (R:=λq t=>∃(g:Heap)(k:Nat)(d':Drawn)(got:Array qd)(c:Nat)(ss:qe),q=Except.ok (Flow.ret (.ref s.heap.objs.size))/\t={s with heap:=g,toks:=k,drawn:=d'}/\(∀b o,s.heap.get? b=some o->g.get? b=some o) /\
    g.get? s.heap.objs.size=some {cls:=.type "list",dict:=none,data:=.seq got c,slots:=#[]}/\StrsAre got.toList ss/\ss.Perm ks)
  calm a s.heap.objs.size (rn i) (.ref s.heap.objs.size) 0 there d
  (λg k d' got c ss keep at' all pm=>⟨g,k,d',got,c,ss,U,U,λb o e=>keep b o (zc (qT e)) (qw _ e),at',all,pm⟩)
 have done:∀(g:Heap)(k:Nat)(d':Drawn)(got:Array qd)(c:Nat)(ss:qe),(∀b o,s.heap.get? b=some o->g.get? b=some o)->g.get? s.heap.objs.size=some {cls:=.type "list",dict:=none,data:=.seq got c,slots:=#[]}->StrsAre got.toList ss->ss.Perm ks ->
  wpAny (model prog w) A (do match (<-load s.heap.objs.size).data with
   |.seq xs _=>pure xs.toList
   |_=>unsupported "internal:collect") R E {s with heap:=g,toks:=k,drawn:=d'}:=λg k d' got c ss keep at' all pm=>
  qi (wpAny_load at' (qv (fin g k d' got.toList ss keep (qT at') all pm)))
 unfold collect;apply qi;apply wpAny_runValue;apply yt entry_proto_collect';rw[yg F.plain_proto_collect _];show wpAny _ A.in1 (newList []>>=λz=>again (.builtin "list.__iadd__" ⟨[z,.ref r],[]⟩)) _ _ s;apply qi;refine zG ?_;apply qv;refine⟨lT rX _,?_⟩;apply yt entry_list_iadd';rw[yg rX _];refine yN walked (λf t q=>?_) (λe t q=>?_)
 .cases f with
  |done f=>
   obtain⟨g,k,d',got,c,ss,e,rfl,keep,at',all,pm⟩:=q;cases e;exact done g k d' got c ss keep at' all pm
  |again j=>
   refine⟨q.1,xj q.2 λz l y=>?_⟩;obtain⟨g,k,d',got,c,ss,rfl,rfl,keep,at',all,pm⟩:=y;exact done g k d' got c ss keep at' all pm
 .obtain⟨_,_,_,_,_,_,j,_⟩:=q;cases j
end
def Inv.drew{X:Cx}{pins:qa (qc×Obj)}{σ:St}{H:Hp}{s:Shared}(I:Inv X pins σ H s)(d:Drawn):Inv X pins σ H {s with drawn:=d}:=
 ⟨I.ok,I.os,I.bare,I.base,I.loc,I.cell,I.free,I.vT,I.pin,I.hok,I.len⟩
def XF(P:Program)(w:World)(a:qc)(ks:qe):HO:=.ext λh=>WE P w (!w.params.followText "set-order") a ks h
def NT{P:Program}{w:World}{a:qc}{ks:qe}{H:Hp}{h:Heap}(x:WE P w (!w.params.followText "set-order") a ks h):Q2 P w H h a (XF P w a ks):=
 ⟨x,let ⟨o,_,_,_,e,_⟩:=x;⟨o,e⟩,λ_ _ y k=>y.at k⟩
def ay{X:Cx}(hc:X.calm=true):VY X (.type "set") (λxs H Q=>∃(p:qc)(ss:qe),xs=[.ref p]/\zN X.K H p (ss.map V.str)/\ss.length<=1000/\∀l,H l=none->Q (.ref l) (upd H l (XF X.prog X.w l (ss.foldl YL [])))):=by
 intro pins s σ H xs us Q I r h;obtain⟨p,ss,rfl,hS,g,q⟩:=h;obtain⟨u,rfl,e⟩:=V3 r;cases e;obtain⟨its,c,pl,_⟩:=I.list hS;have a:=Vt c;have hlen:its.length=ss.length:=by have:=c.length;rw[qh] at this;exact this.symm
 refine M7 (ss:=ss) (I.ok.hd hc) pl.isList (by simpa using a) (by rw[qR];show _<4096;omega) λh' f a1 a2=>?_;exact⟨.ref s.heap.objs.size,_,I.laid (t':=f) (λb u d=>a2 b u (qT d) d) (qD _) (NT a1),U,q _ (I.hok.fresh (qD _))⟩
def XN{X:Cx}(hc:X.calm=true):VY X (.builtin "sorted") (λxs H Q=>∃p ks,xs=[.ref p]/\H p=some (XF X.prog X.w p ks)/\ks.length<64/\∀l,H l=none->Q (.ref l) (upd H l (.lst ((Qx ks).map V.str)))):=by
 intro pins s σ H xs us Q I r h;obtain⟨p,ks,rfl,w,K,q⟩:=h;obtain⟨u,rfl,x⟩:=V3 r;cases x;obtain⟨hS,_,_⟩:=(show Q2 X.prog X.w H s.heap p (XF X.prog X.w p ks) from I.hok p _ w);have y:X.A.in1.handled=none:=I.ok.hd hc;refine rq kind_sorted plain_sorted entry_sorted (args_sorted1 _) ?_;unfold Builtin.«sorted»;refine qi (m:=checkCount "sorted" 1 1 _) (qv ?_);refine qi (LQ (A:=X.A.in1) y hS (Ya ((by omega))) λh' z d' acc ss B j a f=>?_);have k:acc.length=ss.length:=XU a;have C:ss.length=ks.length:=f.length_eq;refine qi (wpAny_newList ?_ (by rw[k];exact Ya ((by omega))));have c:(h'.push (seqObj "list" acc.toArray 0)).get? h'.objs.size=some (seqObj "list" acc.toArray 0):=qL _ rfl;refine qi (jz (zR slot_list_sort ⟨_,c,U⟩ entry_list_sort (list_sort_treeK strKind_oneLt c a.keysOf (λt v rest e=>keyKind_strs (by rw[<-e];exact a)) (by omega) λd a1 a2=>⟨_,U,?_⟩) (args_list_sort _)));refine qv ⟨_,U,?_⟩;obtain⟨n,D,E,F⟩:=sorted_out_str a a1 a2;obtain⟨e,he⟩:=sortedHeap_at (out:=(arrOf d).map (·.2)) c;have o:n=Qx ks:=(GD E (Mf F)).trans (YN f);subst o;have hsz:s.heap.objs.size<=h'.objs.size:=vv j;have old:∀b u,s.heap.get? b=some u->(sortedHeap (h'.push (seqObj "list" acc.toArray 0)) h'.objs.size acc ((arrOf d).map (·.2))).get? b=some u:=λb u G=>by
  have g:=B b u G;have i:=qT g;rw[sortedHeap_old (zc i) (by rw[size_push'];exact jP i)];exact qw _ g
 have J:=I.laid (t':=z) old hsz (show Q2 X.prog X.w (upd H h'.objs.size (.lst ((Qx ks).map V.str))) _ _ (.lst ((Qx ks).map V.str)) from⟨by rw[qh,UB];exact Ya ((by omega)),((arrOf d).map (·.2)).toList,e,V6 D,by rw[vl];exact he⟩);exact⟨.ref h'.objs.size,_,J.drew d',U,q _ (I.hok.fresh hsz)⟩
def tRev(K:Frag)(c:TE)(d:TO):TE:=λσ H Q=>c σ H λx H1=>d σ H1 λk b=>k=some (-1)/\∃a xs,x=.ref a/\zN K b a xs/\∀p,b p=none->Q (.ref p) (upd b p (.lst xs.reverse))
def eT{X:Cx}{e:Expr}{st:Option Expr}{c pos:Pos}{f:TE}{g:TO}{ops:qc->qc->qg}(he:PE X e f)(l:PO X st g)(m:∀a b,subscripted (.Slice none none st c) false (.ref a) (.ref b)=operate (ops a b) (getItem (.ref a) (.ref b)):=by intros;with_unfolding_all rfl):PE X (.Subscript e (.Slice none none st c) pos) (tRev X.K f g):=by
 intro pins s σ H Q I h;refine Subscript_ (jE (he pins s σ H _ I h) λv s1 ⟨x,H1,n,p,t⟩=>?_);refine wpAny_Slice ?_;rw[evalPart_none];refine qv ?_;refine qv ?_;refine jE (l pins s1 σ H1 _ n t) λi s3 ⟨k,u,w,y,z,a,xs,ex,A,q⟩=>?_;subst z ex;cases p;have d:Inv X pins σ u {s3 with heap:=s3.heap.push {cls:=.type "slice",data:=.fields #[.none,.none,i]}}:=w.kept (t':=s3.toks) λb B q=>qw _ q;obtain⟨its,r,j,hz⟩:=d.list A;have hlen:=r.length;show wpAny (model X.prog X.w) X.A (subscriptTail e (.Slice none none st c) (.ref a) (.ref s3.heap.objs.size)) (EP X pins σ Q) X.xe {s3 with heap:=s3.heap.push {cls:=.type "slice",data:=.fields #[.none,.none,i]}};refine tail_any (ops:=ops a s3.heap.objs.size) j.isList.typeIs slot_list_getitem.lookup ?_ (m _ _);refine wpAny_getItem_list_slice j.isList (Heap.IsSliceOf.new ..) .none .none y (by decide) ?_ (by rw[qR];omega);rw[PySem.W.krv_pick];refine⟨.ref _,_,d.laid (t':=s3.toks) (o:=.lst xs.reverse) (λb B q=>qw _ q) (qD _) ?_,U,q _ (d.hok.fresh (qD _))⟩;exact⟨by rw[List.length_reverse];exact hz,_,0,r.reverse,qL _ rfl⟩
def DN:isSubtype (.type "tuple") (.type "set")=pure false:=by rw[oW];kernel_rfl
def KY:isSubtype (.type "tuple") (.type "frozenset")=pure false:=by rw[oW];kernel_rfl
section
variable {prog:Program}{w:World}{A:Around}{E:qf}{s:Shared}
set_option maxHeartbeats 3200000 in
def LS{l:qc}{items:Array qd}{ss:qe}{Q:qf}(M:A.handled=none)(N:s.heap.IsTuple l items)(C:StrsAre items.toList ss)(k:items.size+1<scanBound)
 (h:∀(h':Heap)(m:Nat),WE prog w (!w.params.followText "set-order") s.heap.objs.size (ss.foldl YL []) h'->(∀b o,b<s.heap.objs.size->s.heap.get? b=some o->h'.get? b=some o)->Q (.ref s.heap.objs.size) {s with heap:=h',toks:=m}) :
 wpAny (model prog w) A (call (.type "set") [.ref l]) Q E s:=by
 obtain⟨c,Z,m1⟩:=js.mro;have m2:=js.made;have m3:=js.sub;have m4:=js.notType;have m5:=js.canCreate;have m6:=F.typeCall_set_1 (.ref l);refine wpAny_call (codeAny_of_tree ?_);show wpAny _ _ (callAny (.type "set") _) _ _ _;refine qv ⟨Code.quiet_builtin _ (by decide +kernel),yt F.entry_type_call ?_⟩;rw[Around.under_plain (weight_type_call_type "set" [.ref l] []) rfl]
 repeat (any_goals (first|assumption|wp_step))
 refine xj (EI (.ref l) (E:=E) (R:=λz n=>z=.ref s.heap.objs.size/\n={s with heap:=s.heap.push (UK w)}) ⟨U,U⟩) λr D p=>?_
 cases r with
 |error e=>exact p
 |ok O=>
  cases O with
  |ret z=>
   obtain⟨rfl,rfl⟩:=p;have n:(s.heap.push (UK w)).get? s.heap.objs.size=some (UK w):=qL _ rfl;have G:Shared.TypeIs {s with heap:=s.heap.push (UK w)} (.ref s.heap.objs.size) "set":=⟨_,n,U⟩;have z3:=js.init.lookup;have z4:=js.init.bind (.ref s.heap.objs.size)
   repeat (any_goals (first|assumption|wp_step))
   refine xj (codeAny_call_builtin (R:=wants (λr d=>r=.none/\∃h' m,d={s with heap:=h',toks:=m}/\WE prog w (!w.params.followText "set-order") s.heap.objs.size (ss.foldl YL []) h' /\
    (∀b o,b<s.heap.objs.size->s.heap.get? b=some o->h'.get? b=some o)) E) js.init.plain F.entry_set_init (check_set_init_1 G ?_)) λg d a=>?_
   .obtain⟨ol,H,I,nl,J⟩:=N;obtain⟨K,f,q,oslots⟩:=ol;simp only at I J;subst I;subst J;have L:(s.heap.push (UK w)).get? l=some {cls:=.type "tuple",dict:=f,data:=.seq items nl,slots:=oslots}:=qw _ H;have y2:=DN;have y3:=KY;have y4:(Value.type "tuple"==Value.type "dict")=false:=by decide
    have u:(s.heap.push (UK w)).IsTuple l items:=⟨_,L,U,nl,U⟩;unfold Builtin.«set.__init__» noKeywords Builtin.Frozenset.updateFrom;generalize x:pyIter=PI;unfold UK at n G L u⊢
    wp_walk
    subst x;refine wpAny_pyIter_tuple u ?_;refine qi (wpAny_runValue ?_);have lt:l<s.heap.objs.size:=qT H;have P:A.in1.in1.in1.handled=none:=by simp[M]
    have ne:l≠(s.heap.push {cls:=.type "set",dict:=none,data:=.set #[] 0 (.fresh 0 0 (!w.params.followText "set-order"))}).objs.size:=by
     rw[ye];exact zc (jP lt)
    have S:s.heap.objs.size∉[(s.heap.push {cls:=.type "set",dict:=none,data:=.set #[] 0 (.fresh 0 0 (!w.params.followText "set-order"))}).objs.size,l]:=by
     rw[ye];intro z;rcases qK.mp z with z|z
     .omega
     .rw[qk.mp z] at lt;exact yk _ lt
    have T:∀(i:Nat)(v:qd),items[i]?=some v->∃t,v=.str ((λi=>ss.getD i "") i) t:=λi v e=>Fl C i v (by rw[zt];exact e);have es:Df (λi=>ss.getD i "") items.size=ss.foldl YL []:=by
     unfold Df;rw[<-zf,XU C,CL]
    refine CA (led:=!w.params.followText "set-order") ((Walks.tuple P _ l ne items).toS) s.heap.objs.size S (λi=>ss.getD i "") T k (items.size-0) 0 _ (by omega) (za _) ⟨⟨_,qL _ rfl,U,U⟩,u.push _⟩ ?S0 ?R0
    case S0=>exact(cV (prog:=prog) (w:=w) (s:=s)).at λo e=>qw _ e
    case R0=>
     intro s' hm j;obtain⟨h',g',d',y,B⟩:=s';have V:g'=s.gens:=hm.gens;have X:d'=s.drawn:=hm.drawn;have Y:B=s.os:=hm.os;subst V;subst X;subst Y;rw[es] at j;refine qv (qv ⟨U,h',y,U,j,λb o k e=>?_⟩);refine hm.heap b o (λz=>?_) (qw _ (qw _ e));rcases qK.mp z with z|z
     .exact absurd z (zc k)
     .have z:=qk.mp z;rw[ye] at z;exact absurd z (zc (jP k))
   .cases g with
    |error e=>exact a
    |ok f=>
     cases f with
     |ret r=>
      obtain⟨rfl,h',m,rfl,a1,a2⟩:=a
      repeat (any_goals (first|assumption|wp_step))
      exact h _ _ a1 a2
     |_=>exact a.elim
  |_=>exact p.elim
end
def LU{X:Cx}(hc:X.calm=true):VY X (.type "set") (λxs H Q=>∃(p:qc)(ss:qe),xs=[.ref p]/\jW X.K H p (ss.map V.str)/\ss.length<=1000/\∀l,H l=none->Q (.ref l) (upd H l (XF X.prog X.w l (ss.foldl YL [])))):=by
 intro pins s σ H xs us Q I r h;obtain⟨p,ss,rfl,hS,g,q⟩:=h;obtain⟨u,rfl,e⟩:=V3 r;cases e;obtain⟨its,c,pl,_⟩:=I.tuple hS;have a:=Vt c;have hlen:its.length=ss.length:=by have:=c.length;rw[qh] at this;exact this.symm
 refine LS (ss:=ss) (I.ok.hd hc) pl (by simpa using a) (by rw[qR];show _<4096;omega) λh' f a1 a2=>?_;exact⟨.ref s.heap.objs.size,_,I.laid (t':=f) (λb u d=>a2 b u (qT d) d) (qD _) (NT a1),U,q _ (I.hok.fresh (qD _))⟩
def dd(ss:qe):qe:=ss.foldl YL []
def ON:∀(ss acc:qe){x:qb},x∈ss.foldl YL acc↔x∈acc\/x∈ss
 |[],acc,x=>by simp
 |y::ss,acc,x=>by
  rw[zy,ON ss (YL acc y),B3,qK,or_assoc]
def au:∀(ss acc:qe),acc.Nodup->(ss.foldl YL acc).Nodup
 |[],_,h=>h
 |y::ss,acc,h=>au ss (YL acc y) (Hu h)
def Dj{ss:qe}{x:qb}:x∈dd ss↔x∈ss:=by unfold dd;rw[ON];simp
def OP(ss:qe):(dd ss).Nodup:=au ss [] zB
def OO:∀(ss acc:qe),(ss.foldl YL acc).length<=acc.length+ss.length
 |[],acc=>by simp
 |y::ss,acc=>by
  have a:=OO ss (YL acc y);have:(YL acc y).length<=acc.length+1:=by unfold YL;split<;>simp
  rw[zy,qX];omega
def av(ss:qe):(dd ss).length<=ss.length:=by have:=OO ss [];simpa[dd] using this
def SS(ss:qe):qe:=Qx (dd ss)
def FZ{ss:qe}{x:qb}:x∈SS ss↔x∈ss:=Yf.trans Dj
def Ao{a b:qe}(h:∀x,x∈a↔x∈b):SS a=SS b:=YN ((yC (OP a) (OP b)).mpr λx=>Dj.trans ((h x).trans Dj.symm))
def c8(ss:qe):(SS ss).Nodup:=(U3 _).nodup_iff.mpr (OP ss)
def aH{l:qe}(a:l.Nodup):SS l=Qx l:=YN ((yC (OP l) a).mpr λx=>Dj)
def cA(l:qe):SS (SS l)=SS l:=Ao λ_=>FZ
def BC{X:Cx}(hc:X.calm=true):VY X (.type "set") (λxs H Q=>∃(p:qc)(ss:qe),xs=[.ref p]/\(zN X.K H p (ss.map V.str)\/jW X.K H p (ss.map V.str))/\ss.length<=1000/\∀l,H l=none->Q (.ref l) (upd H l (XF X.prog X.w l (dd ss)))):=by
 intro pins s σ H xs us Q I r h;obtain⟨p,ss,e,hS|hS,a,q⟩:=h
 .exact ay hc pins s σ H xs us Q I r ⟨p,ss,e,hS,a,q⟩
 .exact LU hc pins s σ H xs us Q I r ⟨p,ss,e,hS,a,q⟩
inductive Lu(R:(It->Hp->Prop))(x:V)(H1:Hp):Prop
 |mk:∀a kvs,x=.ref a->((∃oa,H1 a=some (.jF oa (.dK kvs))/\R (Itd a oa kvs) H1)\/(H1 a=some (.dK kvs)/\∀oa,R (Itd a oa kvs) (upd H1 a (.jF oa (.dK kvs)))))->Lu R x H1
def fP(a:TE):TI:=λσ H R=>a σ H λx H1=>Lu R x H1
def X7{X:Cx}{n l:Expr}{k:TE}(p:PE X l k):PI X n l (fP k):=by
 intro pins s σ H R I h;refine jE (p pins s σ H _ I h) λv s1 ⟨x,H1,m,r,t⟩=>?_;obtain⟨a,d,e,q⟩:=t;subst e;cases r;obtain⟨c,f,i,g,u⟩:∃(c:Obj)(f:Hp),Inv X pins σ f s1/\f a=some (.jF c (.dK d))/\R (Itd a c d) f:=by
  rcases q with⟨c,g,q⟩|⟨g,q⟩
  .exact⟨c,H1,m,g,q⟩
  .obtain⟨c,J⟩:=m.freeze g;exact⟨c,_,J,Qc,q c⟩
 obtain⟨j,vs,es,w,y,hd,hm⟩:=B9 i.hok g;have z:=KV.length y;refine wpAny_pyIter_dict j hm ⟨s1.heap.objs.size,[s1.heap.objs.size],_,_,f,U,i.kept (t':=s1.toks) λb o e=>qw _ e,Eb a _ c d es w hd,⟨_,qL _ rfl,U,by rw[z];rfl⟩,λb A=>?_,u⟩;obtain rfl:b=s1.heap.objs.size:=by simpa using A
 exact i.Qbu (qD _) (i.hok.fresh (qD _))
def LO{K:Frag}{a:qc}{α:Type}{xs:qa α}{fr:qa (Nat×qb)}{tt:TT}{r:TE}{σ:St}{H1:Hp}{Q:VK}(g:α->V)(pr:α->Bool)(f:α->V)(hz:xs.length<=sizeLine)(hS:zN K H1 a (xs.map g))
 (n:∀(x:α)(c:Hp)(Q':Bool->Hp->Prop),x∈xs->Qj H1 c->(∀j,Qj c j->Q' (pr x) j)->tt (some (g x)::oC σ fr) c Q')
 (o:∀(x:α)(c:Hp)(Q':VK),x∈xs->Qj H1 c->pr x=true->(∀j,Qj c j->Q' (f x) j)->r (some (g x)::oC σ fr) c Q')
 (u:∀D d,H1 D=none->Qj H1 d->d D=some (.lst ((xs.filter pr).map f))->Q (.ref D) d) :
 Yr (Itl K a) fr tt r σ H1 Q:=by
 intro D p;refine⟨λi m ys d=>m=xs.length-i/\i<=xs.length/\ys=((xs.take i).filter pr).map f/\Qj H1 d/\d D=some (.lst ys),⟨xs.length,by simp,za _,by simp,Qj.zk p,Qc⟩,?_⟩;rintro i m ys d ⟨rfl,y,rfl,s2,k⟩;refine⟨k,?_⟩;have h:=s2.seq hS;by_cases b:i<xs.length
 .have l:(xs.map g)[i]?=some (g xs[i]):=by rw[qQ,qB b];rfl
  refine .inr ⟨⟨xs.map g,g xs[i],h,l⟩,?_⟩;rintro v c ⟨rfl,w⟩;have s:(xs.map g)[i]?=some v:=w _ h;rw[l] at s;cases s;have hm:xs[i]∈xs:=jh b;have t:xs.take (i+1)=xs.take i++[xs[i]]:=by rw[zm,qB b];rfl
  refine n xs[i] _ _ hm s2 λj s4=>?_
  cases q:pr xs[i] with
  |false=>
   refine QV ⟨xs.length-(i+1),by omega,U,b,?_,s2.trans s4,s4 _ _ k⟩;rw[t,zb,qO,q];simp
  |true=>
   refine Yj (o xs[i] _ _ hm (s2.trans s4) q λz s5=>⟨s5 _ _ (s4 _ _ k),?_,xs.length-(i+1),by omega,U,b,?_,((s2.trans s4).trans s5).z6 p,Qc⟩)
   .have:=qY pr (xs.take i);rw[q0] at this;rw[qh];omega
   .rw[t,zb,qO,q];simp
 .have e:i=xs.length:=by omega
  subst e;have c:xs.take xs.length=xs:=zj (qD _);rw[c] at k;exact .inl ⟨⟨xs.map g,h,by rw[qh];exact qD _⟩,u D d p s2 k⟩
def M6{K:Frag}{a:qc}{xs:qa V}{fr:qa (Nat×qb)}{l:TE}{σ:St}{H1:Hp}{Q:VK}(Pv:qc->Nat->qa V->Hp->Prop)(hz:xs.length<=sizeLine)(hS:zN K H1 a xs)(h0:∀D,H1 D=none->Pv D 0 [] (upd H1 D (.lst [])))(hlen:∀D i ys H,Pv D i ys H->ys.length=i)
 (k:∀(D:qc)(i:Nat)(x:V)(ys:qa V)(d:Hp)(Q':VK),xs[i]?=some x->H1 D=none->Pv D i ys d->d D=some (.lst ys)->Qj H1 d->(∀y h,Qj d h->Pv D (i+1) (ys++[y]) (upd h D (.lst (ys++[y])))->Q' y h)->l (some x::oC σ fr) d Q')
 (n:∀D ys b,H1 D=none->Pv D xs.length ys b->Qj H1 b->b D=some (.lst ys)->Q (.ref D) b) :
 Yr (Itl K a) fr Ee l σ H1 Q:=by
 intro D f;refine⟨λi m ys b=>m=xs.length-i/\i<=xs.length/\Pv D i ys b/\Qj H1 b/\b D=some (.lst ys),⟨xs.length,by simp,za _,h0 D f,Qj.zk f,Qc⟩,?_⟩;rintro i m ys b ⟨rfl,r,p,s2,j⟩;refine⟨j,?_⟩;have c:=s2.seq hS;by_cases g:i<xs.length
 .refine .inr ⟨⟨xs,xs[i],c,qB g⟩,?_⟩;rintro v d ⟨rfl,o⟩;refine GC (Yj ?_);refine k D i v ys _ _ (o xs c) f p j s2 λy h s5 q=>⟨s5 _ _ j,?_,xs.length-(i+1),by omega,U,g,q,(s2.trans s5).z6 f,Qc⟩;rw[hlen D i ys _ p];omega
 .have e:i=xs.length:=by omega
  subst e;exact .inl ⟨⟨xs,c,qD _⟩,n D ys b f p s2 j⟩
section
variable {X:Cx}{pins:qa (qc×Obj)}{σ:St}{Hc H':Hp}{sc:Shared}
end
section
variable {P:Program}{w:World}{K:Frag}{mg:qb->Option qd}{base:Heap}{N:qe}{qual:qb}{scope:Scope}{f:qc}{cd:qd}{A:Around}{outer:qa Env}{s:Shared}{H:Hp}{E:XK}
end
section
variable {P:Program}{w:World}{K:Frag}{mg:qb->Option qd}{base:Heap}{N:qe}{qual:qb}{scope:Scope}{f:qc}{cd:qd}{A:Around}{outer:qa Env}{s:Shared}{H:Hp}{E:XK}
end
section
variable {X:Cx}{CX:CXT}{k:Nat}{f C:qc}{fd:FuncData}{ps:qe}{sp:Sp}{pE:qa V}{ds:qg}{R:St->XK}{x m:qb}{p pos apos:Pos}{e o:Expr}{es:qa Expr}{ta:TE}{t:TA}
end
section
variable {X:Cx}{pins pins':qa (qc×Obj)}{σ:St}{H:Hp}{s:Shared}{R:St->XK}
end
def Wq{t u:TS}{D:V2}{σ:St}{H:Hp}(h:∀N:St->Hp->Prop,N=u D->t {D with nx:=N} σ H):Ua t u D σ H:=h _ rfl
end L2
set_option maxHeartbeats 400000
namespace L2
open PySem PySem.Spec PyProof.Rows
open PySem.Builtin PySem.Builtin.ObjectAttr PySem.Builtin.Getset_descriptor
section
variable {prog:Program}{w:World}{A:Around}{E:qf}{K:Frag}{x C:qc}{h:Heap}{g:Array GenState}{d:Drawn}{t:Nat}{os:OsState}
end
end L2
set_option maxHeartbeats 4000000
namespace L2
open PySem PySem.Spec PyProof.Rows
section
variable {X:Cx}{pins:qa (qc×Obj)}{σ:St}{H:Hp}{s:Shared}
end
end L2
set_option maxHeartbeats 400000
namespace L2
open PySem PySem.Spec PyProof.Rows
section
variable {X:Cx}{k:Nat}{f:qc}{fd:FuncData}{ps:qe}{sp:Sp}{pE:qa V}{ds:qg}{E:XK}{x:qb}{p pos:Pos}{e:Expr}{es:qa Expr}{t:TA}
end
section
variable {X:Cx}{o e:Expr}{es:qa Expr}{to:TE}{t:TA}{name:qb}{apos cpos:Pos}{T id:String}{r:V->qa V->Hp->VK->Prop}
end
end L2
set_option maxHeartbeats 4000000
namespace L2
open PySem PySem.Spec PyProof.Rows
def oY{α:Type}(lt:Nat->Nat->Bool):W.KasT α->α
 |.ret a=>a
 |.ask i j k=>oY lt (k (lt i j))
inductive mH{α:Type}(n:Nat)(R:α->Prop):W.KasT α->Prop
 |ret {a:α} (h:R a):mH n R (.ret a)
 |ask {i j:Nat} {k:Bool->W.KasT α} (hi:i<n) (hj:j<n) (h:∀b,mH n R (k b)):mH n R (.ask i j k)
def mH.end_{α:Type}{n:Nat}{R:α->Prop}{lt:Nat->Nat->Bool}{t:W.KasT α}(h:mH n R t):R (oY lt t):=by
 induction h with
 |ret h=>exact h
 |ask _ _ _ a=>exact a _
def mH.wp{α:Type}{n:Nat}{R:α->Prop}{lt:Nat->Nat->Bool}{cmp:Nat->Nat->(Bool->Shared->Prop)->Shared->Prop}{s:Shared}{post:α->Shared->Prop}(hc:∀(i j:Nat)(C:Bool->Shared->Prop),i<n->j<n->C (lt i j) s->cmp i j C s):∀{t:W.KasT α},mH n R t->post (oY lt t) s->W.KasT.kasWp cmp t post s
 |_,.ret _,a=>a
 |.ask i j k,.ask b c h,a=>hc i j _ b c (mH.wp hc (h _) a)
def mH.bind{α β:Type}{n:Nat}{R:α->Prop}{c:β->Prop}{f:α->W.KasT β}(hf:∀a,R a->mH n c (f a)):∀{t:W.KasT α},mH n R t->mH n c (t.bind f)
 |_,.ret h=>hf _ h
 |_,.ask d e h=>.ask d e λb=>mH.bind hf (h b)
def Wk(n:Nat)(p:Array Nat):Prop:=p.toList.Perm (List.range n)
def Wk.lt{n:Nat}{p:Array Nat}(h:Wk n p)(a:0<n)(i:Nat):p.getD i 0<n:=by
 unfold Array.getD;split
 .rename_i b
  have:p.toList[i]'(by simpa using b)∈List.range n:=h.mem_iff.mp (jh _);exact xh.mp this
 .exact a
def RR{p:Array Nat}(i j:Nat):(p.swapIfInBounds i j).toList.Perm p.toList:=by
 unfold Array.swapIfInBounds;split
 .split
  .exact(Array.swap_perm _ _).toList
  .exact .refl _
 .exact .refl _
def Au(f g:Nat->Nat):∀(l:qa Nat)(p:Array Nat),(l.foldl (λa k=>a.swapIfInBounds (f k) (g k)) p).toList.Perm p.toList
 |[],_=>.refl _
 |k::l,p=>(Au f g l _).trans (RR _ _)
def Wk.rev{n:Nat}{p:Array Nat}(h:Wk n p)(i j:Nat):Wk n (W.kas_rev p i j):=(Au (λk=>i+k) (λk=>j-1-k) _ p).trans h
def Wk.bubble{n:Nat}{p:Array Nat}(h:Wk n p)(i j:Nat):Wk n (PyProof.Rows.bubble p i j):=(Au (λk=>i-k) (λk=>i-k-1) _ p).trans h
section
variable {n:Nat}
def MS(a:0<n){p:Array Nat}(h:Wk n p):∀(m k:Nat),mH n (λ_=>True) (W.kas_asc p m k)
 |0,_=>.ret trivial
 |m+1,k=>.ask (h.lt a _) (h.lt a _) λb=>by
  cases b with
  |true=>exact .ret trivial
  |false=>exact MS a h m (k+1)
def B8(a:0<n):∀(m:Nat){p:Array Nat}(k q:Nat),Wk n p->mH n (λr=>Wk n r.1) (W.kas_desc m p k q)
 |0,_,_,_,h=>.ret h
 |m+1,p,k,q,h=>.ask (h.lt a _) (h.lt a _) λb=>by
  cases b with
  |true=>
   show mH n _ (if q > 0 then _ else _);split
   .exact B8 a m _ _ (h.rev _ _)
   .exact B8 a m _ _ h
  |false=>
   refine .ask (h.lt a _) (h.lt a _) λc=>?_
   cases c with
   |true=>exact .ret h
   |false=>exact B8 a m _ _ h
def Ls(c:0<n){p:Array Nat}(h:Wk n p)(a b:Nat):mH n (λr=>Wk n r.2) (W.kas_tail3 a b p):=
 mH.bind (R:=λ_=>True) (f:=λm=>.ret (m,W.kas_rev p 0 a)) (λ_ _=>.ret (h.rev _ _)) (MS c (h.rev _ _) _ _)
def Bv(c:0<n){p:Array Nat}(h:Wk n p)(a b:Nat):mH n (λr=>Wk n r.2) (W.kas_descPart a b p):=by
 refine mH.bind (R:=λr=>Wk n r.1) (λr d=>?_) (B8 c _ _ _ h);split
 .exact Ls c (d.rev _ _) _ _
 .exact Ls c d _ _
def TY(a:0<n){p:Array Nat}(h:Wk n p)(m:Nat):mH n (λr=>Wk n r.2) (W.kas_count m p):=by
 refine mH.bind (R:=λ_=>True) (λk _=>?_) (MS a h _ _);split
 .exact .ret h
 .split
  .refine .ask (h.lt a _) (h.lt a _) λb=>?_
   cases b with
   |true=>exact .ret h
   |false=>exact Bv a (h.rev _ _) _ _
  .exact Bv a h _ _
def Dr(a:0<n){p:Array Nat}(h:Wk n p)(k:Nat):∀(m l r:Nat),mH n (λ_=>True) (W.kas_place p k m l r)
 |0,_,_=>.ret trivial
 |m+1,l,r=>by
  show mH n _ (if l>=r then _ else _);split
  .exact .ret trivial
  .refine .ask (h.lt a _) (h.lt a _) λb=>?_
   cases b with
   |true=>exact Dr a h k m _ _
   |false=>exact Dr a h k m _ _
def TZ(a:0<n):∀(m:Nat){p:Array Nat}(k:Nat),Wk n p->mH n (Wk n) (W.kas_bin m p k)
 |0,_,_,h=>.ret h
 |m+1,p,k,h=>mH.bind (R:=λ_=>True) (λl _=>TZ a m _ (h.bubble _ _)) (Dr a h k _ _ _)
def Ox(a:0<n):mH n (Wk n) (W.kas_sort n):=by
 refine mH.bind (R:=λr=>Wk n r.2) (λr b=>?_) (TY a (p:=(List.range n).toArray) (.refl _) _);split
 .exact TZ a _ _ b
 .exact .ret b
end
def PY(fin:Bool):qe->qe->Bool
 |x::xs,y::ys=>if x=y then PY fin xs ys else decide (x.cps.toList<y.cps.toList)
 |_,_=>fin
def hH(xs ys:qe):Bool:=PY (decide (xs.length<ys.length)) xs ys
def Wy(ts:qa (qe)):qa Nat:=if ts.length<2 then List.range ts.length else (oY (λi j=>hH (ts.getD i []) (ts.getD j [])) (W.kas_sort ts.length)).toList
def Bc(ts:qa (qe)):(Wy ts).Perm (List.range ts.length):=by
 unfold Wy;split
 .exact .refl _
 .rename_i h
  exact(Ox (n:=ts.length) (by omega)).end_
def Dt(ts:qa (qe)):(Wy ts).length=ts.length:=by rw[(Bc ts).length_eq,jO]
def Hm{ts:qa (qe)}{i:Nat}(h:i∈Wy ts):i<ts.length:=xh.mp ((Bc ts).mem_iff.mp h)
inductive Y9(h:Heap)(a:qc):qg->qa (qe)->Prop
 |nil:Y9 h a [] []
 |cons {b:qc} {ob:Obj} {xs:Array qd} {k:Nat} {t:qe} {vs:qg} {ts:qa (qe)} (ne:b≠a) (e:h.get? b=some ob) (c:ob.cls=.type "tuple") (d:ob.data=.seq xs k) (st:StrsAre xs.toList t) (t0:t≠[]) (r:Y9 h a vs ts):Y9 h a (.ref b::vs) (t::ts)
def Y9.len{h:Heap}{a:qc}:∀{vs:qg}{ts:qa (qe)},Y9 h a vs ts->vs.length=ts.length
 |_,_,.nil=>rfl
 |_,_,.cons _ _ _ _ _ _ r=>zQ (·+1) (Y9.len r)
def Y9.mono{h h':Heap}{a f:qc}(k:∀b o,b≠a->h.get? b=some o->h'.get? b=some o/\b≠f):∀{vs:qg}{ts:qa (qe)},Y9 h a vs ts->Y9 h' f vs ts
 |_,_,.nil=>.nil
 |_,_,.cons ne e c d st t0 r=>.cons (k _ _ ne e).2 (k _ _ ne e).1 c d st t0 (Y9.mono k r)
def Y9.at{h:Heap}{a:qc}:∀{vs:qg}{ts:qa (qe)}(i:Nat),Y9 h a vs ts->i<ts.length->∃b f xs k,vs.getD i .none=.ref b/\h.get? b=some f/\f.data=.seq xs k/\StrsAre xs.toList (ts.getD i [])
 |_,_,i,.nil,c=>absurd c (sf _)
 |_,_,0,.cons _ e _ d st _ _,_=>⟨_,_,_,_,U,e,d,st⟩
 |_,_,i+1,.cons _ _ _ _ _ _ r,c=>Y9.at i r (yj c)
def Y9.firsts{h:Heap}{a:qc}:∀{vs:qg}{ts:qa (qe)},Y9 h a vs ts->∃fs,W.KatTups h vs fs/\fs.length=ts.length/\∀v∈fs,∃x t,v=.str x t
 |_,_,.nil=>⟨[],trivial,U,λ_ z=>nomatch z⟩
 |_,_,.cons (xs:=xs) (t:=t) ne e c d st t0 r=>by
  obtain⟨fs,g,i,j⟩:=Y9.firsts r;obtain⟨x,b,k⟩:∃x b,xs[0]?=some (.str x b):=by
   rw[<-zt]
   cases f:xs.toList with
   |nil=>rw[f] at st;cases st;exact absurd rfl t0
   |cons v vs=>rw[f] at st;cases st with|cons x b _=>exact⟨x,b,rfl⟩
  refine⟨.str x b::fs,⟨⟨_,_,_,_,U,e,c,d,k⟩,g⟩,zQ (·+1) i,λv f=>?_⟩;rcases qK.mp f with rfl|f
  .exact⟨x,b,U⟩
  .exact j v f
def Tx{fin:Bool}{x:qb}{xs ys:qe}:PY fin (x::xs) (x::ys)=PY fin xs ys:=qG rfl
def TB{fin:Bool}{x y:qb}{xs ys:qe}(h:x≠y):PY fin (x::xs) (y::ys)=decide (x.cps.toList<y.cps.toList):=qA h
def Tz{prog:Program}{w:World}{A:Around}{fin:Bool}{Q:Bool->Shared->Prop}{s:Shared}:∀{us vs:qg}{xs ys:qe}(i:Nat),StrsAre us xs->StrsAre vs ys->Q (PY fin xs ys) s->W.KatLex prog w A true fin Q (us.zip vs) i s
 |_,_,_,_,i,.nil,a,q=>by cases a<;>exact q
 |_,_,_,_,i,.cons _ _ _,.nil,q=>q
 |_,_,_,_,i,.cons x t c,.cons y u a,q=>by
  refine W.kat_cons (SeqAt.EqAt.str_str x t y u _ _ _ _ ?_);refine W.kat_go (λe=>?_) (λe=>?_)
  .have e:x=y:=eq_of_beq e;subst e;refine W.kat_yes (Tz (i+1) c a ?_);rw[Tx] at q;exact q
  .have ne:x≠y:=λz=>by rw[z,yr] at e;cases e
   have b:Q (decide (x.cps.toList<y.cps.toList)) s:=by
    rw[TB ne] at q;exact q
   refine W.kat_no ?_
   cases i with
   |zero=>exact strKind_oneLt prog w A _ s _ _ x.cps.toList y.cps.toList rfl rfl b
   |succ i=>exact W.kat_one _ _ (lt_str b)
def Av:∀{us:qg}{xs:qe},StrsAre us xs->us.length=xs.length
 |_,_,.nil=>rfl
 |_,_,.cons _ _ h=>zQ (·+1) (Av h)
def PV{M:Model}{h:Heap}{x:qb}{t:Tok}:W.Looks M h (typeOf (.str x t)) (.type "str"):=λA Q E s _ q=>qv q
def Lj{prog:Program}{w:World}{A:Around}{E:qf}{s:Shared}{a:qc}{vs:qg}{n:Nat}{ts:qa (qe)}{P:PySem.Fin->Shared->Prop}(y:s.heap.get? a=some (seqObj "list" vs.toArray n))(D:Y9 s.heap a vs ts)(z:vs.length<64)
 (h:P (.done (.ret .none)) {s with heap:=sortedHeap s.heap a vs ((Wy ts).map λi=>vs.getD i .none).toArray}):wpAny (model prog w) A (Builtin.«list.sort» {pos:=[.ref a]}) P E s:=by
 have hlen:=D.len;have m:vs.length<=sizeLine:=Ya ((by omega));have F:=qT y;rw[list_sort_plain a];refine qi (listItems_at y rfl (qi (listUpdate_at y rfl ?_ (by simpa using m) (za _))));obtain⟨d,t⟩:∃d,(s.heap.update a (Obj.mapSeq λx=>#[])).get? a=some (seqObj "list" #[] d):=⟨_,get?_update_seq y λx=>#[]⟩;refine qi (seqEpoch_at t rfl (qi (wpAny_newTuple ?_ (by simpa using m))));refine qi (wpAny_newList ?_ (za _));refine jz ?_;have c:(s.heap.update a (Obj.mapSeq λx=>#[])).objs.size=s.heap.objs.size:=Heap.size_update _ _ _;have u:(((s.heap.update a (Obj.mapSeq λx=>#[])).push (seqObj "tuple" vs.toArray 0)).push (seqObj "list" #[] 0)).get? a=some (seqObj "list" #[] d):=by
  rw[sh _ a _ (by rw[size_push',c];exact zc (jP F)),sh _ a _ (by rw[c];exact zc F)];exact t
 have f:Y9 (((s.heap.update a (Obj.mapSeq λx=>#[])).push (seqObj "tuple" vs.toArray 0)).push (seqObj "list" #[] 0)) a vs ts:=D.mono λb o ne e=>by
  refine⟨?_,ne⟩;have k:=qT e;rw[sh _ b _ (by rw[size_push',c];exact zc (jP k)),sh _ b _ (by rw[c];exact zc k)];exact(Heap.get?_update_ne _ _ _ _ ne).trans e
 have fin:∀st:SortSt,(arrOf st).map (λx=>x.2)=((Wy ts).map λi=>vs.getD i .none).toArray->failedOf st=none ->
  wpAny (model prog w) A (do
   let __do_lift <-seqEpoch a
   Builtin.List.listUpdate (Value.ref a) λx=>Array.map (λx=>x.snd) (arrOf st)
   match failedOf st with
    |some e=>do
     rule "list.sort.comparison-raised"
     throw e
     if (__do_lift != d)=true then do
         rule "list.sort.modified"
         raiseErrorWords "ValueError" "list modified during sort"
         ret Value.none
      else ret Value.none
    |x=>
     if (__do_lift != d)=true then do
      rule "list.sort.modified"
      raiseErrorWords "ValueError" "list modified during sort"
      ret Value.none
     else ret Value.none) P E {s with heap:=((s.heap.update a (Obj.mapSeq λx=>#[])).push (seqObj "tuple" vs.toArray 0)).push (seqObj "list" #[] 0)}:=λst k B=>by
  refine qi (seqEpoch_at u rfl (qi (listUpdate_at u rfl ?_ (za _) ?_)))
  .rw[B];simp only[yP,zE,yB];rw[k];exact qv h
  .rw[k];simp only[qR,qh,Dt];omega
 have hsz:vs.toArray.size=vs.length:=by simp
 have got:∀l:qa Nat,l=List.range vs.length->l.map (λi=>vs.getD i Value.none)=vs:=λl e=>by
  subst e;refine List.ext_getElem (by simp) λi B k=>?_;simp only[List.getElem_map,Qbi];rw[zC,qB k];rfl
 by_cases k:vs.toArray.size<2
 .show wpAny _ _ (if vs.toArray.size<2 then _ else _) _ _ _;rw[qG k];refine qi (qv ?_);dsimp only;rw[qG k,StateT.run_pure];refine qi (qv ?_);refine fin _ ?_ rfl;have d:Wy ts=List.range vs.length:=by
   unfold Wy;rw[qG (by omega),hlen]
  rw[got _ d];show Array.map (λx=>x.2) (vs.toArray.zip vs.toArray)=vs.toArray;rw[show(λx:qd×qd=>x.2)=Prod.snd from rfl];apply Array.ext';rw[Array.toList_map,Array.toList_zip];exact List.map_snd_zip (qD _)
 .show wpAny _ _ (if vs.toArray.size<2 then _ else _) _ _ _;rw[qA k];obtain⟨fs,K,k2,L⟩:=f.firsts;have M:2<=vs.length:=by omega
  refine qi (W.kat_kind (T:=.type "str") K (by omega) (λv N=>?_) (by decide) ?_)
  .obtain⟨x,B,rfl⟩:=L v N;exact PV
  rw[qA k];refine qi (yN (W.kat_run (E:=E) (ks:=vs) (Q:=λst s'=>(arrOf st).map (λx=>x.2)=((Wy ts).map λi=>vs.getD i .none).toArray/\failedOf st=none/\s'={s with heap:=((s.heap.update a (Obj.mapSeq λx=>#[])).push (seqObj "tuple" vs.toArray 0)).push (seqObj "list" #[] 0)}) (G:=λp s'=>p.toList=Wy ts/\s'={s with heap:=((s.heap.update a (Obj.mapSeq λx=>#[])).push (seqObj "tuple" vs.toArray 0)).push (seqObj "list" #[] 0)}) rfl M z (λp O s' _ S V g=>?_) ?_) (λr s' q=>?_) λ_ _ x=>x)
  rotate_left
  rotate_left
  .obtain⟨B,H,rfl⟩:=q;exact fin r.2 B H
  .obtain⟨g1,g2⟩:=g;refine⟨?_,V,g2⟩;rw[S];apply Array.ext';simp only[Array.toList_map,qV];rw[g1];refine jT λi _=>?_;show(W.kas_item (pairsOf vs) i).2=_;rw[W.kas_item_eq]
  .refine mH.wp (n:=vs.length) (R:=Wk vs.length) (lt:=λi j=>hH (ts.getD i []) (ts.getD j [])) (λi j C hi hj q=>?_) (Ox (by omega)) ⟨?_,U⟩
   .obtain⟨b1,o1,x1,n1,a1,a2,X,B⟩:=f.at i (by omega);obtain⟨b2,o2,x2,n2,Y,Z,c3,H⟩:=f.at j (by omega);show wpAny _ _ (keyLt' _ (vs.getD i .none) (vs.getD j .none)) _ _ _;rw[a1,Y];refine W.kat_lt a2 X Z c3 (Tz 0 B H ?_);have I:=Av B;have J:=Av H;rw[zf] at I J;rw[I,J];exact q
   .unfold Wy;rw[qA (by omega),hlen]
inductive WC(H:Hp):qa qc->qa (qe)->Prop
 |nil:WC H [] []
 |cons {b:qc} {t:qe} {bs:qa qc} {ts:qa (qe)} (e:H b=some (.tup (t.map V.str))) (t0:t≠[]) (r:WC H bs ts):WC H (b::bs) (t::ts)
def WC.len{H:Hp}:∀{bs:qa qc}{ts:qa (qe)},WC H bs ts->bs.length=ts.length
 |_,_,.nil=>rfl
 |_,_,.cons _ _ r=>zQ (·+1) (WC.len r)
def WC.of{X:Cx}{pins:qa (qc×Obj)}{σ:St}{H:Hp}{s:Shared}{h':Heap}{a:qc}(I:Inv X pins σ H s)(k:∀b o,s.heap.get? b=some o->h'.get? b=some o/\b≠a):∀{bs:qa qc}{ts:qa (qe)}{us:qg},WC H bs ts->QK (bs.map V.ref) us->Y9 h' a us ts
 |_,_,_,.nil,v=>by cases v;exact .nil
 |_,_,_,.cons e t0 r,v=>by
  cases v with
  |cons h v=>
   cases h;obtain⟨its,d,⟨o,c,hc,n,hd⟩,_⟩:=I.tuple (jW.of e);exact .cons (k _ _ c).2 (k _ _ c).1 hc hd (by simpa using Vt d) t0 (WC.of I k r v)
def D9:∀{xs:qa V}{us:qg}(i:Nat),QK xs us->i<xs.length->QN (xs.getD i .non) (us.getD i .none)
 |_,_,0,.cons h _,_=>h
 |_,_,i+1,.cons _ v,a=>D9 i v (yj a)
def Hy{xs:qa V}{us:qg}(v:QK xs us):∀{l:qa Nat},(∀i∈l,i<xs.length)->QK (l.map λi=>xs.getD i .non) (l.map λi=>us.getD i .none)
 |[],_=>.nil
 |i::l,h=>.cons (D9 i v (h i qy)) (Hy v λj a=>h j (qH _ a))
section
variable {X:Cx}{pins:qa (qc×Obj)}{σ:St}{H:Hp}{s:Shared}{h':Heap}
end
end L2
namespace HT
open PySem PyProof.Rows
def oX(a:Int)(x:qb)(c:Int)(y:qb):Bool:=if a=c then (if x=y then true else !decide (y.cps.toList<x.cps.toList)) else decide (a<=c)
def vJ(a:Int)(x:qb)(c:Int)(y:qb):Bool:=if a=c then (if x=y then false else decide (y.cps.toList<x.cps.toList)) else decide (c<a)
def Qb0(a:Int)(x:qb)(c:Int)(y:qb):vJ a x c y = !oX a x c y:=by
 unfold vJ oX;split
 .split
  .rfl
  .rw[Bool.not_not]
 .by_cases h:c<a
  .rw[qu h,qF (by omega)];rfl
  .rw[qF h,qu (by omega)];rfl
section
open PySem.SeqAt
open PySem.AutoSeq1 (wpAny_loadPart')
open PySem.MeetsSeq PySem.MeetsSeq2 PySem.MeetsSeq3
def E5(A:Around)(s:Shared)(a:qb)(t:Tok)(c:qb)(u:Tok):∃e,SeqAt.EqAt A s (.str a t) (.str c u) e/\(e=true↔a=c):=
 ⟨(a==c),SeqAt.EqAt.str_str a t c u,by simp⟩
def Pe(A:Around)(s:Shared)(a:Int)(t:Tok)(c:Int)(u:Tok)(prog:Program)(w:World)(E:qf)(Q:qf)(h:Q (.bool (decide (a<=c))) s) :
 wpAny (model prog w) A (richCompare .LtE (.int a t) (.int c u)) Q E s:=
 (le_int h:wpAny (model prog w) A (compareOp .LtE (.int a t) (.int c u)) Q E s)
def Pc(A:Around)(s:Shared)(a:qb)(t:Tok)(c:qb)(u:Tok)(prog:Program)(w:World)(E:qf)(Q:qf)(h:Q (.bool (!decide (c.cps.toList<a.cps.toList))) s) :
 wpAny (model prog w) A (richCompare .LtE (.str a t) (.str c u)) Q E s:=
 (PySem.P.le_str h:wpAny (model prog w) A (compareOp .LtE (.str a t) (.str c u)) Q E s)
inductive Kq(a:Int)(x:qb)(c:Int)(y:qb):qa (qd×qd)->Prop
 |both (t1 t2 u1 u2:Tok):Kq a x c y [(.int a t1,.int c u1),(.str x t2,.str y u2)]
 |one (e:a=c) (t2 u2:Tok):Kq a x c y [(.str x t2,.str y u2)]
 |none (e:a=c) (e2:x=y):Kq a x c y []
def rv(l b:qc)(n B:Nat)(dd u:Option qc)(C v:Array (Option qd))(a:Int)(x:qb)(c:Int)(y:qb)(t1 k r m:Tok) :
 Meets (Builtin.«tuple.__le__» ⟨[.ref l,.ref b],[]⟩)
  (λ_ R s=>s.heap.get? l=some {cls:=.type "tuple",dict:=dd,data:=.seq #[.int a t1,.str x k] n,slots:=C}/\s.heap.get? b=some {cls:=.type "tuple",dict:=u,data:=.seq #[.int c r,.str y m] B,slots:=v} /\
    R (.ok (.ret (.bool (oX a x c y)))) s):=
 .of_wp λprog w A R s h=>by
  obtain⟨o,g,d,p,os⟩:=s;obtain⟨D,E,h⟩:=h;have f2:=AutoSeq1.sub_tuple_tuple
  wp_walk using Qa2 D,Qa2 E,wpAny_forIn_list _ (λrest b s'=>b.1=none/\s'=⟨o,g,d,p,os⟩/\Kq a x c y rest) _
  case turn=>
   rintro⟨F,G⟩ rest b s' ⟨i,rfl,z⟩
   cases z with
   |both t1 k r m=>
    obtain⟨e,he,f⟩:=LH A.in1 ⟨o,g,d,p,os⟩ a t1 c r;refine qi (he prog w _ _ ?_)
    cases e with
    |true=>
     wp_walk
     exact⟨U,U,.one (f.mp rfl) _ _⟩
    |false=>
     have ne:a≠c:=λq=>absurd (f.mpr q) qI;have j:=Pe A.in1 ⟨o,g,d,p,os⟩ a t1 c r prog w
     wp_walk using j
     unfold oX at h;rw[qA ne] at h;exact⟨_,U,by simpa using h⟩
   |one t k m=>
    obtain⟨e,he,f⟩:=E5 A.in1 ⟨o,g,d,p,os⟩ x k y m;refine qi (he prog w _ _ ?_)
    cases e with
    |true=>
     wp_walk
     exact⟨U,U,.none t (f.mp rfl)⟩
    |false=>
     have ne:x≠y:=λq=>absurd (f.mpr q) qI;have j:=Pc A.in1 ⟨o,g,d,p,os⟩ x k y m prog w
     wp_walk using j
     unfold oX at h;rw[qG t,qA ne] at h;exact⟨_,U,h⟩
  case fin=>
   rintro⟨j,F⟩ s' ⟨i,rfl,z⟩;simp only at i;subst i
   cases z with
   |none t f=>
    unfold oX at h;rw[qG t,qG f] at h
    wp_walk
    exact⟨_,U,by simpa[Builtin.Tuple.tupleCompareSizes] using h⟩
  case h=>
   exact⟨U,U,.both _ _ _ _⟩
end
end HT
namespace L2
open PySem PySem.Spec PyProof.Rows
inductive N4(K:Frag)(f:Int->qb->Int->qb->Bool)(x:V)(y:V)(H:Hp)(Q:VK):Prop
 |mk:∀p q a s c t,x=.ref p->y=.ref q->jW K H p [.int a,.str s]->jW K H q [.int c,.str t]->Q (.bl (f a s c t)) H->N4 K f x y H Q
def cQ(K:Frag)(f:Int->qb->Int->qb->Bool):R2:=λx y H Q=>N4 K f x y H Q
def KG{a:Int}{s:qb}{its:qg}(r:QK [.int a,.str s] its):∃t1 b,its=[.int a t1,.str s b]:=by
 cases r with
 |cons h r=>
  cases r with
  |cons c r=>
   cases r;obtain⟨t1,rfl⟩:=h;obtain⟨b,rfl⟩:=c;exact⟨t1,b,U⟩
def fg{X:Cx}(l:X.A.units<cLine):uz X (compareOp .LtE) (cQ X.K HT.oX):=by
 intro pins s σ H x y v u Q I m o h;obtain⟨p,q,a,z,c,r,rfl,rfl,t,w,k⟩:=h;cases m;cases o;obtain⟨its,A,B,_⟩:=I.tuple t;obtain⟨g,C,D,_⟩:=I.tuple w;obtain⟨t1,E,rfl⟩:=KG A;obtain⟨F,G,rfl⟩:=KG C;obtain⟨⟨cls,dd,data,J⟩,i,hc,n,hd⟩:=id B;obtain⟨⟨j,e,data2,f⟩,b,d,K,hd2⟩:=id D;simp only at hc hd d hd2;subst hc hd d hd2;exact richCompare_meets_room (op:=.LtE) ⟨_,i,U⟩ ⟨_,b,U⟩ PySem.F.slot_tuple_le PySem.F.entry_tuple_le (PySem.F.args_tuple_le_2 _ _) (HT.rv p q n K dd e J f a z c r t1 E F G)
  ⟨i,b,⟨(λx=>nomatch x),.bl _,H,I,U,k⟩⟩ l
def Ur(h:Heap)(d:qc)(es:Array DictEntry)(a:Nat):Prop:=∃o,h.get? d=some o/\o.ExactDict/\o.data=.dict es a
def Ur.lt{h:Heap}{d:qc}{es:Array DictEntry}{a:Nat}(x:Ur h d es a):d<h.objs.size:=let ⟨_,e,_⟩:=x;qT e
def Ur.at{h h':Heap}{d:qc}{es:Array DictEntry}{a:Nat}(x:Ur h d es a)(k:∀o,h.get? d=some o->h'.get? d=some o):Ur h' d es a:=let ⟨o,e,r⟩:=x;⟨o,k o e,r⟩
def Ur.ty{s:Shared}{d:qc}{es:Array DictEntry}{a:Nat}(x:Ur s.heap d es a):s.TypeIs (.ref d) "dict":=let ⟨o,e,c,_⟩:=x;⟨o,e,c.1⟩
section
variable {prog:Program}{w:World}{A:Around}{E:qf}{s:Shared}{d it:qc}{es:Array DictEntry}{ep i:Nat}
def Iw{Q:qf}(hd:(d==sysModules)=false)(hm:Ur s.heap d es ep)
 (e:Q (.ref s.heap.objs.size) {s with heap:=s.heap.push {cls:=.type "dict_keyiterator",data:=.fields #[.ref d,.int 0 0,.int es.size 0,.int ep 0]}}):wpAny (model prog w) A (pyIter (.ref d)) Q E s:=by
 have b:=hm.ty;obtain⟨o,c,_,a⟩:=hm;refine rZ b F.slot_dict_iter (zR F.slot_dict_iter b F.entry_dict_iter ?_ (F.args_dict_iter_1 _));unfold Builtin.«dict.__iter__»;refine qi ?_;unfold Builtin.Dict.dictSlotNone;refine qi (wpAny_notOrdered_dict b (qv ?_));show wpAny _ _ (Builtin.Dict.showsAll d>>=_) _ _ s;unfold Builtin.Dict.showsAll;rw[qA (by rw[hd];exact qI)];refine qi (qv (qi (wpAny_dictEntries c a (qi (wpAny_dictEpoch c a ?_)))));exact qi (zG (qv ⟨_,U,"dict_keyiterator",_,⟨_,qL _ rfl,U⟩,yv.lookup,by simpa[rawInt] using e⟩))
def Iy{Q:Option qd->Shared->Prop}(hit:s.heap.IsKeyIter it d i es.size ep)(hm:Ur s.heap d es ep){f:DictEntry}(h:es[i]?=some f)
 (j:∀h',h'.IsKeyIter it d (i+1) es.size ep->Heap.SameBut it s.heap h'->Q (some f.key) {s with heap:=h'}):wpAny (model prog w) A (pyNext (.ref it)) Q E s:=by
 obtain⟨o,g,hc,hd⟩:=id hit;obtain⟨k,b,_,c⟩:=hm;unfold pyNext;refine qi (lU (jt (name:=Str.ofString "__next__") hit.typeIs yv
  (zR yv hit.typeIs F.entry_dict_keyiterator_next ?_ (F.args_dict_keyiterator_next_1 _))))
 refine qi (qv (qi (qi ?_)))
 first|refine qi (kP hit.typeIs (qv ?_))|refine qi (wO hit.typeIs (qv ?_))
 refine qi (uU g hd ?_);have e:Builtin.Dict_items.ownsTuple "dict_keyiterator"=false:=by decide
 simp only[e,zE,yB];show wpAny _ _ (if (Value.ref d==Value.none)=true then _ else _) _ _ s;rw[qA (show ¬((Value.ref d==Value.none)=true) from qI)];refine qi (qv (qi (wpAny_dictEntries b c ?_)));rw[qA (by simp)];refine qi (qv (qi (wpAny_dictEpoch b c ?_)));rw[qA (by simp)];refine qv ?_;simp only[show ¬((i:Int)<0) from by omega,yB,jN,h];refine qi ?_
 first|refine qi (kP hit.typeIs (qv ?_))|refine qi (wO hit.typeIs (qv ?_))
 refine qi (wpAny_isOneOf_keyiter hit.typeIs ?_);show wpAny _ _ (setField (.ref it) 1 (rawInt ((i:Int)+1))>>=_) _ _ s;refine qi (xS g hd (by simp) ?_);have a:(s.heap.update it (Obj.mapFields (·.setIfInBounds 1 (rawInt ((i:Int)+1))))).IsKeyIter it d (i+1) es.size ep:=
  ⟨_,jo _ g (vz (jw hd _)),(sb ..).trans hc,by rw[jw hd];simp[rawInt]⟩
 refine qi (jz (qi (wpAny_isOneOf_keyiter (s:={s with heap:=s.heap.update it (Obj.mapFields (·.setIfInBounds 1 (rawInt ((i:Int)+1))))}) a.typeIs ?_)));show wpAny _ _ (pure f.key) _ _ _;exact qv (qv ⟨_,U,qv (j _ a (jn ..))⟩)
def NZ{Q:Option qd->Shared->Prop}(h:A.handled=none)(hit:s.heap.IsKeyIter it d i es.size ep)(hm:Ur s.heap d es ep)(j:es.size<=i)
 (k:∀h',Heap.ExtBut it s.heap h'->Q none {s with heap:=h'}):wpAny (model prog w) A (pyNext (.ref it)) Q E s:=by
 obtain⟨o,g,hc,hd⟩:=id hit;obtain⟨l,c,_,e⟩:=hm;unfold pyNext;refine qi (lU (jt (name:=Str.ofString "__next__") hit.typeIs yv
  (zR yv hit.typeIs F.entry_dict_keyiterator_next ?_ (F.args_dict_keyiterator_next_1 _))))
 refine qi (qv (qi (qi ?_)))
 first|refine qi (kP hit.typeIs (qv ?_))|refine qi (wO hit.typeIs (qv ?_))
 refine qi (uU g hd ?_);have f:Builtin.Dict_items.ownsTuple "dict_keyiterator"=false:=by decide
 simp only[f,zE,yB];show wpAny _ _ (if (Value.ref d==Value.none)=true then _ else _) _ _ s;rw[qA (show ¬((Value.ref d==Value.none)=true) from qI)];refine qi (qv (qi (wpAny_dictEntries c e ?_)));rw[qA (by simp)];refine qi (qv (qi (wpAny_dictEpoch c e ?_)));rw[qA (by simp)];refine qv ?_;simp only[show ¬((i:Int)<0) from by omega,yB,jN,xO j];refine qi ?_
 first|refine qi (kP hit.typeIs (qv ?_))|refine qi (wO hit.typeIs (qv ?_))
 show wpAny _ _ (setField (.ref it) 0 .none>>=_) _ _ s;refine qi (xS g hd (by simp) ?_);show wpAny _ _ (newExc (.type "StopIteration") []>>=_) _ _ _;refine qi ?_;simp only[newExc,newTuple];refine qi (zG ?_ (by size_fits));refine qi (m:=firstArgMember _ _) (wpAny_of_eq (a:=Value.none) (by first|rfl|(simp only[firstArgMember];rfl)) ?_);refine zG ?_ (by size_fits);simp only[raiseNew];refine qi (wpAny_handled ?_);rw[show A.in1.handled=none from h];refine qi (qv (wpAny_throw ?_));refine qi (tP (T:="StopIteration") (b:=true) ⟨_,qL _ rfl,U⟩ isSubtype_stop ?_);exact qv (k _ (((jn ..).extBut.push _).push _))
def bg(lo:(d==sysModules)=false):KdlSrc prog w "dict" d d es.size (λi v=>∃l,es[i]?=some l/\v=l.key) (λh=>Ur h d es ep) where
 type:=λ_ hm=>hm.ty
 there:=λ_ hm=>⟨hm.lt,hm.lt⟩
 keep:=λ_ _ hm j=>hm.at λo e=>j d (.inl rfl) o e
 notList:=by decide
 notTuple:=by decide
 hint:=λ_ _ _ _ hm k=>PySem.W.kdl_hint_dict hm.ty k
 iter:=λA s n hm=>⟨_,λi h=>h.IsKeyIter s.heap.objs.size d i es.size ep/\Ur h d es ep,(λ_ _ k=>Iw lo hm k),{
  sub:=λb a=>by simp at a;simp[a]
  frame:=λ_ _ _ st j=>⟨st.1.at λo e=>j _ (by simp) o e,st.2.at λo e=>j d (by simp) o e⟩
  item:=λi s2 Q E p st c=>by
   have m:es[i]?=some es[i]:=je p;refine Iy st.1 st.2 m λh' f g=>?_;exact c _ h' s2.toks ⟨_,m,U⟩ ⟨f,st.2.at λo e=>g.extBut d o (zc hm.lt) e⟩ λb o a e=>g.extBut b o (λh=>a (by simp[h])) e
  done:=λs2 Q E st c=>NZ n st.1 st.2 (qD _) λh' f=>c h' s2.toks λb o a e=>f b o (λh=>a (by simp[h])) e
  self:=λ_ _ _ _ st c=>wpAny_pyIter_keyiter st.1 c},⟨⟨_,qL _ rfl,U,U⟩,hm.at λ_ e=>qw _ e⟩⟩
end
inductive Xk(H:Hp):qa qc->qa (qa Key)->Prop
 |nil:Xk H [] []
 |cons {b:qc} {k:qa Key} {bs:qa qc} {ks:qa (qa Key)} (e:H b=some (.tup (k.map kV))) (r:Xk H bs ks):Xk H (b::bs) (k::ks)
def Xk.len{H:Hp}:∀{bs:qa qc}{ks:qa (qa Key)},Xk H bs ks->bs.length=ks.length
 |_,_,.nil=>rfl
 |_,_,.cons _ r=>zQ (·+1) (Xk.len r)
def QW(t:qe):qa Key:=t.map Sum.inr
def VT(t:qe):(QW t).map kV=t.map V.str:=by unfold QW;rw[qV];rfl
def Xk.texts{H:Hp}:∀{bs:qa qc}{ts:qa (qe)},Xk H bs (ts.map QW)->(∀t∈ts,t≠[])->WC H bs ts
 |[],[],_,_=>.nil
 |_::_,t::ts,.cons e r,h=>.cons (by rw[e,VT]) (h t qy) (Xk.texts r λz hz=>h z (qH _ hz))
def bU{H:Hp}{a:qa (qa Key×V)}{xs:qa (qa Key×qc×qd)}(r:KT H a xs):Xk H (xs.map (·.2.1)) (a.map (·.1)):=by
 induction r with
 |nil=>exact .nil
 |cons h _ b=>exact .cons (h.2.1) b
def D7:∀bs:qa qc,QK (bs.map V.ref) (bs.map Value.ref)
 |[]=>.nil
 |_::bs=>.cons rfl (D7 bs)
def R8{P:Program}{w:World}{H:Hp}{h:Heap}{a:qc}{b:qa (qa Key×V)}(ok:Q2 P w H h a (.dT b)) :
 b.length<=sizeLine/\(a==sysModules)=false/\∃(bs:qa qc)(es:Array DictEntry)(c:Nat),Xk H bs (b.map (·.1))/\Ur h a es c/\es.toList.map (·.key)=bs.map Value.ref:=by
 obtain⟨z,y,xs,r,o,es,c,d,e,f,g,_⟩:=ok;refine⟨z,y,xs.map (·.2.1),es,c,bU r,⟨o,d,e,f⟩,?_⟩;rw[g,qV,qV];rfl
inductive AI(xs:qa V)(H:Hp)(Q:VK):Prop
 |mk:∀(p:qc)(kvs:qa (qa Key×V))(ts:qa (qe)),xs=[.ref p]->H p=some (.dT kvs)->kvs.map (·.1)=ts.map QW->(∀t∈ts,t≠[])->ts.length<64->(∀l bs,H l=none->WC H bs ts->Q (.ref l) (upd H l (.lst ((Wy ts).map λi=>(bs.map V.ref).getD i .non))))->AI xs H Q
def Al{X:Cx}(hc:X.calm=true):VY X (.builtin "sorted") (λxs H Q=>AI xs H Q):=by
 intro pins s σ H xs us Q I r h;obtain⟨p,l,ts,rfl,E,n,h0,N,q⟩:=h;obtain⟨u,rfl,F⟩:=V3 r;cases F;obtain⟨hz,t,bs,es,O,k,hm,B⟩:=R8 (show Q2 X.prog X.w H s.heap p (.dT l) from I.hok p _ E);rw[n] at k;have v:=k.texts h0;have f:bs.length=ts.length:=v.len;have hsz:es.size=bs.length:=by have:=zQ List.length B;simpa using this
 have G:X.A.in1.handled=none:=I.ok.hd hc;refine rq kind_sorted plain_sorted entry_sorted (args_sorted1 _) ?_;unfold Builtin.«sorted»;refine qi (m:=checkCount "sorted" 1 1 _) (qv ?_);refine qi (BA (A:=X.A.in1) (bg t) G hm (by rw[hsz,f];exact Ya ((by omega))) λh' J acc w x c=>?_);have K:acc.toList=bs.map Value.ref:=by
  rw[<-B];refine List.ext_getElem? λj=>?_;rw[qQ];by_cases y:j<es.size
  .have d:j<acc.size:=by rw[c.1];exact y
   obtain⟨C,g,z⟩:=c.2 j acc[j] (je d);rw[zt,zt,g,je d,z];rfl
  .rw[zt,zt,xO (by rw[c.1];omega),xO (by omega)];rfl
 rw[K];have C:=D7 bs;have y:(bs.map Value.ref).length<=sizeLine:=by rw[qh];exact Ya ((by omega))
 refine qi (wpAny_newList ?_ y);have d:(h'.push (seqObj "list" (bs.map Value.ref).toArray 0)).get? h'.objs.size=some (seqObj "list" (bs.map Value.ref).toArray 0):=qL _ rfl;have old:∀b o,s.heap.get? b=some o->(h'.push (seqObj "list" (bs.map Value.ref).toArray 0)).get? b=some o/\b≠h'.objs.size:=λb o e=>by
  have g:=w b o e;exact⟨qw _ g,zc (qT g)⟩
 have z:=v.of I (a:=h'.objs.size) old C;refine qi (jz (zR slot_list_sort ⟨_,d,U⟩ entry_list_sort (Lj d z (by rw[qh];omega) ⟨_,U,?_⟩) (args_list_sort _)));refine qv ⟨_,U,?_⟩;obtain⟨e,he⟩:=sortedHeap_at (out:=((Wy ts).map λi=>(bs.map Value.ref).getD i .none).toArray) d;have g:s.heap.objs.size<=h'.objs.size:=vv x;refine⟨.ref h'.objs.size,_,I.laid (t':=J) (λb u k=>?_) g (show Q2 X.prog X.w _ _ _ (.lst ((Wy ts).map λi=>(bs.map V.ref).getD i .non)) from⟨?_,(Wy ts).map (λi=>(bs.map Value.ref).getD i .none),e,Hy C λi L=>?_,he⟩),U,q _ bs (I.hok.fresh g) v⟩
 .obtain⟨D,M⟩:=old b u k;rw[sortedHeap_old M (qT D)];exact D
 .rw[qh,Dt];exact Ya ((by omega))
 .rw[qh,f];exact Hm L
inductive Ey(x:V)(vs:qa V)(H:Hp)(Q:VK):Prop
 |mk:∀(l:qc)(xs:qa V)(i:Int)(y:V),x=.ref l->vs=[.int i,y]->H l=some (.lst xs)->0<=i->i<=xs.length->xs.length<1000->Q .non (upd H l (.lst (xs.take i.toNat++y::xs.drop i.toNat)))->Ey x vs H Q
def bp:V->qa V->Hp->VK->Prop:=λx vs H Q=>Ey x vs H Q
def Rz{xs ys:qa V}{us vs:qg}(a:QK xs us)(b:QK ys vs):QK (xs++ys) (us++vs):=by
 induction a with
 |nil=>exact b
 |cons h _ c=>exact .cons h c
def PQ{X:Cx}:MtM X "list.insert" bp:=by
 intro pins s σ H x vs v us Q I d f h;obtain⟨l,xs,i,y,rfl,rfl,c,h0,k,m,q⟩:=h;cases d;obtain⟨o,a,rfl,g,j⟩:=f.two;obtain⟨t,rfl⟩:=g;obtain⟨z,its,n,r,hlen,e⟩:=I.QaM c;have hf:¬(!Builtin.List.listFitsIndex i)=true:=by
  have:Builtin.List.listFitsIndex i=true:=fitsIndex_both (by omega) (by omega);rw[this];exact qI
 have b:its.toArray.size<=sizeLine:=by rw[qR,<-hlen];exact z
 refine vS F.slot_list_insert ⟨_,e,U⟩ F.entry_list_insert (F.args_list_insert_3 _ _ _) (PySem.AutoSeq1.list_insert_list_int_val_1 l its.toArray n i t a hf b) ⟨e,?_⟩;refine⟨.non,_,I.QcG (its':=its.take i.toNat++a::its.drop i.toNat) c e ?_ (Rz (r.take i.toNat) (.cons j (r.drop i.toNat))) ?_,U,q⟩
 .show(its.toArray.extract 0 (if i<0 then (i+(its.toArray.size:Int)).toNat else min i.toNat its.toArray.size)).push a++its.toArray.extract (if i<0 then (i+(its.toArray.size:Int)).toNat else min i.toNat its.toArray.size)=_;rw[PySem.W.kl_ins_eq,qA (by omega),qR,v7 (by omega)]
 .rw[qz,qX,q0,yq];have:=QF (n:=xs.length+1) (by omega);omega
end L2
namespace HT
open PySem PyProof.Rows
variable {prog:Program}{w:World}{A:Around}{E:qf}{s:Shared}
def iT{t b:qc}{items:Array qd}{g i:qd}{lo c:Option Int}{Q:qf}(a:IsTup s.heap t items)(j:s.heap.IsSliceOf b g i .none)(pl:IsPart g lo)(pu:IsPart i c)
 (hw:xC items.size 0 lo=0/\xC items.size items.size c=items.size) (h:Q (.ref t) s):wpAny (model prog w) A (getItem (.ref t) (.ref b)) Q E s:=by
 have d:s.TypeIs (.ref b) "slice":=let ⟨os,e,f,_⟩:=j;⟨os,e,f⟩;unfold getItem
 try with_reducible refine jz ?_
 first|refine qi (qv ?_)|skip
 refine qi (wpAny_sequenceKey a.typeIs (by decide) ?_);refine qi (jt (name:=Str.ofString "__getitem__") a.typeIs slot_tuple_getitem
  (zR slot_tuple_getitem a.typeIs entry_tuple_getitem ?_ (args_tuple_getitem _ _)))
 show wpAny _ _ (Builtin.Tuple.tupleItemsOf (.ref t)>>=_) _ _ s;refine qi (tupleItemsOf_ a (qi (QaB d ?_)));rw[qG (by decide)];refine qi (W4 j pl pu ?_);show wpAny _ _ (if (((xC items.size 0 lo:Nat):Int)==0&&(1:Int)==1&&(xC items.size items.size c-xC items.size 0 lo)==items.size)=true then _ else _) _ _ s;rw[qG (by rw[hw.1,hw.2];simp)];show wpAny _ _ (Builtin.Tuple.tupleIsExact (.ref t)>>=_) _ _ s;unfold Builtin.Tuple.tupleIsExact;refine qi ?_;refine qi (QaB a.typeIs (qv ?_));show wpAny _ _ (if (Value.type "tuple"==Value.type "tuple")=true then _ else _) _ _ s;rw[qG (by decide)];refine qi (QaD ?_);exact qv ⟨_,U,qv h⟩
end HT
namespace L2
open PySem PySem.Spec PyProof.Rows
inductive Se(K:Frag)(x:V)(lo:Option Int)(hi:Option Int)(H:Hp)(Q:VK):Prop
 |mk:∀a xs,x=.ref a->jW K H a xs->((HT.xC xs.length 0 lo=0/\HT.xC xs.length xs.length hi=xs.length)->Q (.ref a) H)->(∀p,H p=none->Q (.ref p) (upd H p (.tup (BS xs lo hi))))->Se K x lo hi H Q
def rSlA(K:Frag):V->Option Int->Option Int->Hp->VK->Prop:=λx lo a H Q=>Se K x lo a H Q
def NS{X:Cx}:SlR X (rSlA X.K):=by
 intro pins s σ H x v g i lo b j Q I c d pl pu h;obtain⟨a,xs,rfl,e,k,l⟩:=h;by_cases hw:HT.xC xs.length 0 lo=0/\HT.xC xs.length xs.length b=xs.length
 .cases c;obtain⟨its,r,f,hz⟩:=I.tuple e;have hlen:its.toArray.size=xs.length:=by rw[qR];exact r.length.symm
  exact⟨"tuple",_,slot_tuple_getitem.lookup,f.typeIs,HT.iT f d pl pu (by rw[hlen];exact hw) ⟨.ref a,H,I,U,k hw⟩⟩
 .exact dW pins s σ H (.ref a) v g i lo b j Q I c d pl pu ⟨a,xs,U,e,hw,l⟩
section
variable {X:Cx}{pins:qa (qc×Obj)}{σ:St}{H:Hp}{s:Shared}{a:qc}{oa:Obj}{kvs:qa (qa Key×V)}
def Inv.QcK(I:Inv X pins σ H s)(e:H a=some (.dT kvs)):∃oa,Inv X pins σ (upd H a (.jF oa (.dT kvs))) s:=by
 obtain⟨z,y,xs,r,b,es,f,d,c⟩:=(show Q2 X.prog X.w H s.heap a (.dT kvs) from I.hok a _ e);have g:Paired (λ(p:qa Key×V)(q:qa Key×qc×qd)=>p.1=q.1/\(upd H a (.jF b (.dT kvs))) q.2.1=some (.tup (p.1.map kV))/\QN p.2 q.2.2) kvs xs:=Paired.QcF r λp q z=>⟨z.1,by rw[Qa (λw=>by have:=z.2.1;rw[w,e] at this;cases this)];exact z.2.1,z.2.2⟩;exact⟨b,I.write (x:=a) (e:=a) (o:=.jF b (.dT kvs)) (t':=s.toks) (h':=s.heap) (by rw[e];exact True.intro) (.inl rfl) (λ_ _ _ q=>q) ⟨b,d⟩ ⟨d,z,y,xs,g,b,es,f,d,c⟩⟩
def Inv.sk(I:Inv X pins σ H s)(l:∀o u,X.H₀ a≠some (.jF o u))(e:H a=some (.jF oa (.dT kvs))):Inv X pins σ (upd H a (.dT kvs)) s:=by
 have d:∀b,H b=none->b≠a:=λb n z=>by rw[z,e] at n;cases n
 have ne1:∀b o,H b=some o->o≠.jF oa (.dT kvs)->b≠a:=λb o q n z=>by rw[z,e] at q;cases q;exact n rfl
 obtain⟨_,g⟩:=(show Q2 X.prog X.w H s.heap a (.jF oa (.dT kvs)) from I.hok a _ e);have i:∀c xs,H c=some (.tup xs)->(upd H a (.dT kvs)) c=some (.tup xs):=λc xs z=>by rw[Qa (ne1 c _ z (λy=>by cases y))];exact z
 have j:∀b c,H c=some (.own b)->(upd H a (.dT kvs)) c=some (.own b):=λb c z=>by rw[Qa (ne1 c _ z (λy=>by cases y))];exact z
 refine⟨I.ok,I.os,I.bare,⟨I.base.keep,I.base.slot,λb o q n r=>?_,I.base.there,λb xs q=>i _ _ (I.base.tups b xs q),λb o u q=>?_,λb ps q=>?_⟩,I.loc,I.cell,?_,λx c q=>?_,λp t=>?_,λb u q=>?_,I.len⟩
 .have:=I.base.free b o q n r;rw[Qa (d b this)];exact this
 .have f:b≠a:=λz=>l o u (by rw[<-z];exact q);rw[Qa f];exact I.base.mV b o u q
 .obtain⟨m,h⟩:=I.base.ry b ps q;exact⟨m,by rw[Qa (ne1 b _ h (λz=>by cases z))];exact h⟩
 .rw[Qa (d _ I.free)];exact I.free
 .rw[Qa (d _ (I.vT x c q))];exact I.vT x c q
 .obtain⟨v,k,w⟩:=I.pin p t;exact⟨v,by rw[Qa (d _ k)];exact k,w⟩
 .by_cases f:b=a
  .subst f;rw[Qc] at q;cases q;exact Q2.stay (show Q2 X.prog X.w H s.heap b (.dT kvs) from g) (λ_ _ _ z=>z) (j b) i
  .rw[Qa f] at q;exact(I.hok b u q).stay (λ_ _ _ z=>z) (j b) i
end
def sk(a:qc)(c:Obj)(b:qa (qa Key×V))(D:V2):V2:=
 {nx:=λσ H=>H a=some (.jF c (.dT b))/\D.nx σ (upd H a (.dT b)),rt:=λv H=>H a=some (.jF c (.dT b))/\D.rt v (upd H a (.dT b)),bk:=λσ H=>H a=some (.jF c (.dT b))/\D.bk σ (upd H a (.dT b)),ct:=λσ H=>H a=some (.jF c (.dT b))/\D.ct σ (upd H a (.dT b))}
inductive HG(ts:TS)(D:V2)(σ:St)(H:Hp):Prop
 |mk:∀a kvs,H a=some (.dT kvs)->(∀oa,ts (sk a oa kvs D) σ (upd H a (.jF oa (.dT kvs))))->HG ts D σ H
def dI(ts:TS):TS:=λD σ H=>HG ts D σ H
def Sr{X:Cx}{st:Stmt}{ts:TS}(j:PS X st ts):PS X st (dI ts):=by
 rintro pins s σ H D I ⟨a,k,e,h⟩;obtain⟨l,J⟩:=I.QcK e;have g:∀o u,X.H₀ a≠some (.jF o u):=λo u z=>by have:=I.base.mV a o u z;rw[e] at this;cases this
 refine jE (j pins s σ _ _ J (h l)) λf s' q=>?_
 cases f with
 |next=>obtain⟨b,i,d,c⟩:=q;exact⟨b,_,d.sk g c.1,c.2⟩
 |cont=>obtain⟨b,i,d,c⟩:=q;exact⟨b,_,d.sk g c.1,c.2⟩
 |brk=>obtain⟨b,i,d,c⟩:=q;exact⟨b,_,d.sk g c.1,c.2⟩
 |ret v=>obtain⟨m,b,i,d,n,c⟩:=q;exact⟨m,b,_,d.sk g c.1,n,c.2⟩
def gn(a:qc)(d:Obj)(c:qa (qa Key×V))(bs:qa qc):It:=⟨λi H=>H a=some (.jF d (.dT c))/\i<bs.length,λi H x H'=>H'=H/\∃b,bs[i]?=some b/\x=.ref b,λi H=>H a=some (.jF d (.dT c))/\bs.length<=i⟩
def OD{P:Program}{w:World}{H:Hp}{h:Heap}{a:qc}{c:Obj}{b:qa (qa Key×V)}{es:Array DictEntry}{d:Nat}(ok:iW P w H h)(e:H a=some (.jF c (.dT b)))(hd:c.data=.dict es d):Ur h a es d:=by
 obtain⟨f,z,y,xs,r,l,i,j,g,k,m,n⟩:=(show Q2 P w H h a (.jF c (.dT b)) from ok a _ e);rw[f] at g;cases g;exact⟨c,f,k,hd⟩
def Mc{P:Program}{w:World}{K:Frag}{A:Expr}(a it:qc)(u:Obj)(m:qa (qa Key×V))(bs:qa qc)(es:Array DictEntry)(x:Nat)(hd:u.data=.dict es x)(f:es.toList.map (·.key)=bs.map Value.ref):Rv P w K A (gn a u m bs) [it] it (λi h=>h.IsKeyIter it a i es.size x) where
 mem:=by simp
 obj:=λi h st b f=>by
  have e:b=it:=by simpa using f
  subst e;obtain⟨o,e,c,d⟩:=st;exact⟨o,e,λv z=>by rw[d] at z;cases z⟩
 keep:=λi h h' st k=>by
  obtain⟨o,e,c⟩:=st;exact⟨o,k it (by simp) o e,c⟩
 item:=by
  intro X n hw p hc i pins s σ H E I hf st hg;subst n hw p;obtain⟨q,g⟩:=hg;have hm:=OD I.hok q hd;have hsz:es.size=bs.length:=by have:=zQ List.length f;simpa using this
  obtain⟨f0,f1,f2,r,f4,t⟩:=hf it (by simp);have y:es[i]?=some es[i]:=je (by omega);have j:(es[i]'(by omega)).key=Value.ref bs[i]:=by
   have l:(es.toList.map (·.key))[i]?=(bs.map Value.ref)[i]?:=by rw[f]
   rw[qQ,qQ,zt,y,qB g] at l;exact qN l
  refine Iy st hm y λh' l B=>?_;rw[j];have C:Inv X pins σ H {s with heap:=h'}:=I.turned (t':=s.toks) (λb o f e=>(B.2 b f).trans e) f0 f1 r f4 t;obtain⟨o,e,c,d⟩:=id l;exact⟨_,U,Ly (s:={s with heap:=h'}) e c d (by decide) ⟨.ref bs[i],H,C,U,⟨U,bs[i],qB g,U⟩,l,λb f=>(hf b f).1⟩⟩
 done:=by
  intro X n hw p hc i pins s σ H E I hf st hg;subst n hw p;obtain⟨q,g⟩:=hg;have hm:=OD I.hok q hd;have hsz:es.size=bs.length:=by have:=zQ List.length f;simpa using this
  obtain⟨f0,f1,f2,r,f4,t⟩:=hf it (by simp);exact NZ (I.ok.hd hc) st hm (by omega) λh' j=>⟨U,I.turned (t':=s.toks) (λb o f e=>j b o f e) f0 f1 r f4 t⟩
 self:=λ_ _ _ _ _ st h=>wpAny_pyIter_keyiter st h
inductive Lv(R:(It->Hp->Prop))(x:V)(H1:Hp):Prop
 |mk:∀a oa kvs,x=.ref a->H1 a=some (.jF oa (.dT kvs))->(∀bs,Xk H1 bs (kvs.map (·.1))->R (gn a oa kvs bs) H1)->Lv R x H1
def fQ(a:TE):TI:=λσ H R=>a σ H λx H1=>Lv R x H1
def Sv{X:Cx}{r l:Expr}{k:TE}(t:PE X l k):PI X r l (fQ k):=by
 intro pins s σ H R I h;refine jE (t pins s σ H _ I h) λv s1 ⟨x,H1,d,u,w⟩=>?_;obtain⟨a,f,c,e,y,q⟩:=w;subst e;cases u;obtain⟨m,g⟩:=(show Q2 X.prog X.w H1 s1.heap a (.jF f (.dT c)) from d.hok a _ y);obtain⟨_,i,bs,es,z,j,⟨o,n,A,p⟩,B⟩:=R8 g;rw[m] at n;cases n;refine Iw i ⟨f,m,A,p⟩ ?_;refine⟨s1.heap.objs.size,[s1.heap.objs.size],_,_,H1,U,d.kept (t':=s1.toks) λb o e=>qw _ e,Mc a _ f c bs es z p B,⟨_,qL _ rfl,U,U⟩,λb j=>?_,q bs j⟩;have e:b=s1.heap.objs.size:=by simpa using j
 subst e;exact d.Qbu (qD _) (d.hok.fresh (qD _))
def LP{a:qc}{q:Obj}{h:qa (qa Key×V)}{bs:qa qc}{α:Type}{xs:qa α}{fr:qa (Nat×qb)}{tt:TT}{r:TE}{σ:St}{H1:Hp}{Q:VK}(g:α->V)(pr:α->Bool)(f:α->V)(hz:xs.length<=sizeLine)(hS:H1 a=some (.jF q (.dT h)))(s:bs.map V.ref=xs.map g)
 (l:∀(x:α)(d:Hp)(Q':Bool->Hp->Prop),x∈xs->Qj H1 d->Q' (pr x) d->tt (some (g x)::oC σ fr) d Q')
 (n:∀(x:α)(d:Hp)(Q':VK),x∈xs->Qj H1 d->pr x=true->Q' (f x) d->r (some (g x)::oC σ fr) d Q')
 (y:∀D,H1 D=none->Q (.ref D) (upd H1 D (.lst ((xs.filter pr).map f)))) :
 Yr (gn a q h bs) fr tt r σ H1 Q:=by
 have A:bs.length=xs.length:=by have:=zQ List.length s;simpa using this
 unfold Yr;intro D t;refine⟨λi m ys u=>m=xs.length-i/\i<=xs.length/\ys=((xs.take i).filter pr).map f/\u=upd H1 D (.lst ys),⟨xs.length,by simp,za _,by simp,U⟩,?_⟩;rintro i m ys u ⟨rfl,B,rfl,rfl⟩;refine⟨Qc,?_⟩;have s1:Qj H1 (upd H1 D (.lst (((xs.take i).filter pr).map f))):=Qj.zk t;have j:=s1 _ _ hS;by_cases c:i<xs.length
 .have o:(xs.map g)[i]?=some (g xs[i]):=by rw[qQ,qB c];rfl
  refine .inr ⟨⟨j,by omega⟩,?_⟩;rintro v d ⟨rfl,b,z,rfl⟩;have k:(xs.map g)[i]?=some (V.ref b):=by rw[<-s,qQ,z];rfl
  rw[o] at k;have k:=qN k;rw[<-k];have hm:xs[i]∈xs:=jh c;have w:xs.take (i+1)=xs.take i++[xs[i]]:=by rw[zm,qB c];rfl
  refine l xs[i] _ _ hm s1 ?_;cases p:pr xs[i]
  .refine QV ⟨xs.length-(i+1),by omega,U,c,?_,U⟩;rw[w,zb,qO,p];simp
  .refine Yj (n xs[i] _ _ hm s1 p ⟨Qc,?_,xs.length-(i+1),by omega,U,c,?_,Kt⟩)
   .have:=qY pr (xs.take i);rw[q0] at this;rw[qh];omega
   .rw[w,zb,qO,p,qJ];simp
 .have e:i=xs.length:=by omega
  subst e;refine .inl ⟨⟨j,by omega⟩,?_⟩;have:=y D t;rw[ji];exact this
end L2
namespace Hd
open PySem PySem.W PySem.Calls PyProof.Rows L2
noncomputable def oY(st:SharedT->Thread->Option (SharedT×Thread))(ok:Thread->Bool)(n:Nat):SharedT->Thread->Option SharedT:=
 @Nat.rec (λ_=>SharedT->Thread->Option SharedT) (λ_ _=>none) (λ_ a s t=>match through t with
  |true=>some s
  |false=>match ok t with
   |false=>none
   |true=>match st s t with
    |some (s',t')=>a s' t'
    |none=>none) n
def O8(st:SharedT->Thread->Option (SharedT×Thread))(ok:Thread->Bool)(n:Nat)(s:SharedT)(t:Thread):oY st ok (n+1) s t=(match through t with
 |true=>some s
 |false=>match ok t with
  |false=>none
  |true=>match st s t with
   |some (s',t')=>oY st ok n s' t'
   |none=>none):=rfl
def NY{d:String->Option Builtin}{p:Program}{w:World}{a:Nat}{ann:Option qd}:∀(n:Nat)(s:SharedT)(t:Thread)(s':SharedT),
 oY (stepT (denote d) p w) (stepOk a ann) n s t=some s'->topRun d p w a ann n s.abs t=some s'.abs
 |0,_,_,_,h=>nomatch (h:none=some _)
 |n+1,s,t,s',h=>by
  rw[O8] at h;unfold topRun
  cases f:through t with
  |true=>rw[f] at h;cases h;rfl
  |false=>
   rw[f] at h
   cases g:stepOk a ann t with
   |false=>rw[g] at h;cases h
   |true=>
    rw[g] at h;dsimp only at h⊢
    cases e:stepT (denote d) p w s t with
    |none=>rw[e] at h;cases h
    |some x=>
     obtain⟨b,c⟩:=x;rw[e] at h;rw[stepT_spec e];exact NY n b c s' h
def aA(t:BT)(n:Nat):qa Obj->BT
 |[]=>t
 |o::r=>aA (t.ins n o) (n+1) r
noncomputable def c7(P:Params):BT:=aA .nil 0 (boot_heap P).objs.toList
def Rr(P:Params):((boot_heap P).isNs mainGlobals,(boot_heap P).objs.size,(boot_heap P).nsMap mainGlobals "__annotations__")=(true,11,some (.ref 6)):=by kernel_rfl
def aB(P:Params):absHeap (c7 P) 11 {}=boot_heap P:=by kernel_rfl
noncomputable def S0(w:World)(os:OsState):SharedT:=⟨c7 w.params,11,{},#[],boot_drawn,boot_toks,os⟩
def gj(w:World)(os:OsState):(S0 w os).abs=⟨boot_heap w.params,#[],boot_drawn,boot_toks,os⟩:=zQ (λh=>(⟨h,#[],boot_drawn,boot_toks,os⟩:Shared)) (aB w.params)
noncomputable def chk(p:Program)(P:Params)(s:Shared):Bool:=staticsOk (importedModules p.main.body) (boot_heap P) s.heap&&namesBound p s.heap&&gensDone s&&laidKept (boot_heap P) s.heap
noncomputable abbrev Qa5:(Code->Sem Fin)->Program->World->SharedT->Thread->Option (SharedT×Thread):=PySem.W.Fast.tw10156331382660048174
noncomputable abbrev QcL:Code->Sem Fin:=PySem.W.Fast.tw11892475500146522536 PySem.W.Fast.tw14364793385576792824
noncomputable abbrev okQ:Nat->Option qd->Thread->Bool:=PySem.W.Fast.tw6613529449190102663
noncomputable abbrev seenQ:=@PySem.W.Fast.tw4187177175401517315
def left{p q:Program}{loose:qe}{Xt:Shared->Bool}{α:Type}{a:Shared->α}{b:World->α}{N:Nat}(e:opening p=plainProg p.main.scope.names)(c:Nat.ble 600 N=true)(f:∀s,fenceModules? p s=some s)
 (h:∀(w:World)(os:OsState),(oY (Qa5 QcL p w) (okQ 11 (some (.ref 6))) N (S0 w os) (topStub p)).map (λs=>(chk p w.params s.abs,seenQ q loose (importedModules p.main.body) Xt true s.abs,a s.abs))=some (true,openGood q loose,b w)) :
 LeftO p q loose Xt a b N:=λw=>by
 obtain⟨⟨g,i,d,k,os⟩,j,m⟩:=xK.mp (boot_open e c f w);obtain⟨rfl,rfl,rfl,rfl⟩:g=boot_heap w.params/\i=#[]/\d=boot_drawn/\k=boot_toks:=by simpa using m
 have h:=h w os;unfold Qa5 QcL okQ seenQ at h;rw[<-PySem.W.Fast.te10156331382660048174,<-PySem.W.Fast.te11892475500146522536,<-PySem.W.Fast.te14364793385576792824,<-PySem.W.Fast.te6613529449190102663,<-PySem.W.Fast.te4187177175401517315] at h;obtain⟨s,r,l⟩:=xK.mp h;obtain⟨n,o,u⟩:_/\_/\_:=by simpa only[Qa3] using l
 have r:=NY N _ _ _ r;rw[gj] at r;obtain⟨v,x,y⟩:_/\_/\_:=by simpa only[Qa3] using Rr w.params
 have t:topFrom treeTable p w N ⟨boot_heap w.params,#[],boot_drawn,boot_toks,os⟩=some s.abs:=by
  unfold topFrom;dsimp only;rw[v,x,y,r];show(match staticsOk (importedModules p.main.body) (boot_heap w.params) s.abs.heap&&namesBound p s.abs.heap&&gensDone s.abs&&laidKept (boot_heap w.params) s.abs.heap with|true=>_|false=>_)=_;rw[show(staticsOk (importedModules p.main.body) (boot_heap w.params) s.abs.heap&&namesBound p s.abs.heap&&gensDone s.abs&&laidKept (boot_heap w.params) s.abs.heap)=true from n]
 unfold openEnds;rw[j];show(topFrom treeTable p w N _).map _=_;rw[t];exact zQ some (Prod.ext o u)
def E2(h:Heap):Frag:=(List.range h.objs.size).filterMap λa=>(h.get? a).map λo=>(a,o)
def Dl(f:Nat->Option Obj)(a:qc)(o:Obj):∀l:qa Nat,(l.filterMap λa=>(f a).map λo=>(a,o)).lookup a=some o->f a=some o
 |[],e=>nomatch e
 |b::l,e=>by
  cases c:f b with
  |none=>rw[List.filterMap_cons_none (by rw[c];rfl)] at e;exact Dl f a o l e
  |some x=>
   rw[List.filterMap_cons_some (by rw[c];rfl),ju] at e;split at e
   .rename_i q;cases e;rw[lX.mp q];exact c
   .exact Dl f a o l e
def cf(h:Heap):(E2 h).In h:=λa o e=>Dl h.get? a o _ e
def Qae(s:SharedT):Frag:=(List.range s.n).filterMap λa=>(match Nat.blt a s.n with|true=>alive ((s.tree.get a).getD default)|false=>none).map λo=>(a,o)
def ag(s:SharedT):Qae s=E2 s.abs.heap:=by
 unfold Qae E2;show _=(List.range (absHeap s.tree s.n s.life).objs.size).filterMap λa=>((absHeap s.tree s.n s.life).get? a).map λo=>(a,o);rw[absHeap_size];congr 1;funext a;congr 1;unfold Heap.get?;rw[absHeap_at]
 cases h:Nat.blt a s.n with
 |true=>
  rw[qG (show a<s.n from Nat.le_of_ble_eq_true h)];dsimp only
  cases (s.tree.get a).getD default with
  |mk c d b e=>cases b<;>rfl
 |false=>
  rw[qA (λq=>by rw[show Nat.blt a s.n=true from Nat.ble_eq_true_of_le q] at h;cases h)]
def dY{α:Type}(obs:Frag->α)(good:α)(_:World)(h:Heap):Prop:=∃K:Frag,K.In h/\obs K=good
def close{l:OpenLaw}{q:Program}{loose:qe}{d:DefRec}{α:Type}{obs:Frag->α}{good:α}{N:Nat}
 (look:PySem.W.Fast.tw9446332074065402090 l=true) (e:opening l.prog=plainProg l.prog.main.scope.names) (g:Nat.ble 600 N=true) (f:∀s,fenceModules? l.prog s=some s)
 (h:∀(w:World)(os:OsState),(oY (Qa5 QcL l.prog w) (okQ 11 (some (.ref 6))) N (S0 w os) (topStub l.prog)).map (λs=>(chk l.prog w.params s.abs,seenQ q loose (importedModules l.prog.main.body) (λs=>recOk [] s) true s.abs,obs (Qae s)))=some (true,openGood q loose,good))
 (a:defOf q l.name=some (d,[])) (i:l.prog.theDef l.name=some (d.params,d.body,d.scope)) (j:kwWritten? d.params.kwonlyargs d.params.kw_defaults=some []) (c:(!l.writes||([]:WRecords).isEmpty)=true)
 (ok:(chainsOk q&&opensWell l.prog&&(frees l.row.toRowW&&l.row.within.isEmpty))=true) (m:l.prog.bare) (hw:l.row.toRowW.promised)
 (call:WalkO q loose (λ_ _=>True) (dY obs good) l.row.toRowW d [] λf vs=>PySem.call f vs):l.Holds:=by
 rw[<-PySem.W.Fast.te9446332074065402090] at look;refine holds_law look λb=>?_;have lf:LeftO l.prog q loose (λs=>recOk [] s) (λs=>obs (E2 s.heap)) (λ_=>good) N:=left e g f λw os=>by
  have:=h w os;rw[show(λs:SharedT=>(chk l.prog w.params s.abs,seenQ q loose (importedModules l.prog.main.body) (λs=>recOk [] s) true s.abs,obs (Qae s)))=λs=>(chk l.prog w.params s.abs,seenQ q loose (importedModules l.prog.main.body) (λs=>recOk [] s) true s.abs,obs (E2 s.abs.heap)) from funext λs=>by rw[ag]] at this;exact this
 exact holds_open (r:=l.row) (q:=q) (loose:=loose) (Xt:=λs=>recOk [] s) (XP:=λ_ _=>True) (YP:=dY obs good) lf (λ_ s y=>⟨E2 s.heap,cf _,y⟩) (λ_ _ _ ⟨K,X,y⟩ k=>⟨K,X.keeps k,y⟩) (λ_ _=>trivial) (λ_ _ _ _ _=>trivial) a i j (λ_ e=>recFacts_of e) c b ok m hw call
def uZ:qd->qd
 |.int n _=>.int n 0
 |.str x _=>.str x 0
 |v=>v
def OJ(K:Frag):qd->Option (qg)
 |.none=>none
 |.ref D=>(match K.lookup D with
  |some ⟨_,_,.seq items _,_⟩=>some (items.toList.map uZ)
  |_=>some [])
 |_=>some []
def zM:Option (Option qd)->qc
 |some (some (.ref f))=>f
 |_=>0
def see(K:Frag)(r:Option (Option qd))(q:qb):Option (FuncData×Option (qg))×Bool:=match r with
 |some (some (.ref f))=>(match K.lookup f with
  |some ⟨_,_,.func fd,_⟩=>(some ({fd with defaults:=.none,kwdefaults:=.none,doc:=.none,pyModule:=.none,annotations:=none,code:=.none,closureTuple:=.none},OJ K fd.defaults),codeIn K fd.code q&&(keepIn K (.ref f)&&isFn K (.ref f)))
  |_=>(none,false))
 |_=>(none,false)
abbrev sT(x q:qb)(st:Stmt):FuncData:=fnOf x q (Y6 st) (YH st) (Qg st) .none .none .none .none none .none .none
def NV{K:Frag}{r:Option (Option qd)}{x q:qb}{st:Stmt}{ds:Option (qg)}(h:see K r q=(some (sT x q st,ds),true)):∃(e:qd)(i:Option qc)(d kV doc pm:qd)(an:Option qc)(a ct:qd)(c:Array (Option qd)),
 r=some (some (.ref (zM r)))/\K.lookup (zM r)=some ⟨e,i,.func (fnOf x q (Y6 st) (YH st) (Qg st) d kV doc pm an a ct),c⟩/\OJ K d=ds/\codeIn K a q=true/\keepIn K (.ref (zM r))=true/\isFn K (.ref (zM r))=true:=by
 unfold see at h;split at h
 .rename_i f
  split at h
  .rename_i e i fd c l
   obtain⟨m,o⟩:=tO h;obtain⟨k,p⟩:=tO (qN m);obtain⟨s,j⟩:=zV.mp o;obtain⟨j,t⟩:=zV.mp j;obtain⟨n,u,ps,b,sc,g,cl,d,kV,doc,pm,an,a,ct,bs⟩:=fd;simp only[FuncData.mk.injEq] at k;obtain⟨rfl,rfl,rfl,rfl,rfl,rfl,rfl,-,-,-,-,-,-,-,rfl⟩:=k;exact⟨e,i,d,kV,doc,pm,an,a,ct,c,U,l,p,s,j,t⟩
  .cases h
 .cases h
def qZ{K:Frag}{r:Option (Option qd)}{x q:qb}{st:Stmt}(h:see K r q=(some (sT x q st,none),true)):r=some (some (.ref (zM r)))/\keepIn K (.ref (zM r))=true/\isFn K (.ref (zM r))=true/\∃fd,zT K x q st (zM r) fd:=by
 obtain⟨k,l,b,kV,doc,pm,an,d,ct,e,f,g,a,i,c,j⟩:=NV h;have:b=.none:=by
  cases b with
  |none=>rfl
  |ref D=>simp only[OJ] at a;split at a<;>cases a
  |_=>cases a
 subst this;exact⟨f,c,j,_,fU g i c⟩
def uW{K:Frag}{r:Option (Option qd)}{x q:qb}{st:Stmt}{b:qd}{bs:qg}(h:see K r q=(some (sT x q st,some (b::bs)),true)):r=some (some (.ref (zM r)))/\keepIn K (.ref (zM r))=true/\isFn K (.ref (zM r))=true /\
 ∃(D:qc)(kV doc pm:qd)(an:Option qc)(a ct:qd)(o:Obj)(items:qg)(n:Nat),Aq K x q st (zM r) (fnOf x q (Y6 st) (YH st) (Qg st) (.ref D) kV doc pm an a ct)/\K.lookup D=some o/\o.data=.seq items.toArray n/\items.map uZ=b::bs:=by
 obtain⟨p,s,f,kV,doc,pm,an,a,ct,g,i,j,d,k,e,l⟩:=NV h
 cases f with
 |none=>cases d
 |ref D=>
  simp only[OJ] at d;split at d
  .rename_i c dd items n t m
   refine⟨i,e,l,D,kV,doc,pm,an,a,ct,_,items.toList,n,cc j k e,m,?_,qN d⟩;rw[vl]
  .cases d
 |_=>cases d
def Qdr{f:qd->qd}{b:qd}{l:qg}(h:l.map f=[b]):∃u,l=[u]/\f u=b:=by
 match l,h with
 |[u],h=>exact⟨u,U,(qE h).1⟩
def map2{f:qd->qd}{b c:qd}{l:qg}(h:l.map f=[b,c]):∃u v,l=[u,v]/\f u=b/\f v=c:=by
 match l,h with
 |[u,v],h=>exact⟨u,v,U,(qE h).1,(qE (qE h).2).1⟩
def bv:V->qd
 |.int n=>.int n 0
 |.str x=>.str x 0
 |.bl b=>.bool b
 |_=>.none
def ie:V->Bool
 |.int _|.str _|.bl _|.non=>true
 |_=>false
def xn{v:V}{u:qd}(h:uZ u=bv v)(b:ie v=true:=by rfl):QN v u:=by
 cases v<;>first|(cases b;done)|skip
 all_goals (cases u<;>first|(cases h;done)|skip)
 all_goals first|rfl|(injection h with a;subst a;exact⟨_,rfl⟩)|(injection h with a _;subst a;exact⟨_,rfl⟩)|(injection h with a;subst a;rfl)
abbrev gl(K:Frag)(x:qb):Option (Option qd):=nsIn K mainGlobals x
abbrev cl(K:Frag)(x:qb):qc:=zM (gl K x)
def q8{l:qa Bool}(h:l.all id=true)(i:Nat){b:Bool}(e:l[i]?=some b):b=true:=jc.mp h b (qM e)
def zx{α:Type}{l m:qa α}(h:l=m)(i:Nat){a b:α}(e:l[i]?=some a)(c:m[i]?=some b):a=b:=by
 subst h;exact qN (e.symm.trans c)
def walk{l:OpenLaw}{n k:Nat}{q:Program}{loose:qe}{XP:(qb->Option qd)->Heap->Prop}{α:Type}{obs:Frag->α}{good:α}{d:DefRec}{sp:Frag->Sp}{x:qb}
 (p:l.most=some n) (e:n<=sizeLine) (g:d.params.defaults=[]) (r:QG k callerA)
 (F:∀(w:World)(K:Frag)(mg:qb->Option qd)(c:qc)(h:Heap),K.In h->obs K=good->h.Ns mainGlobals mg->mg d.name=some (.ref c) ->
   ∃fd:FuncData,(∀(s:Shared)(u:qd),BindsTo s fd ⟨[u],[]⟩ [(x,u)])/\∀base:Heap,K.In base->base.Ns mainGlobals mg->QQ l.prog w K mg base j6 k c fd [x] (sp K))
 (i:∀(K:Frag)(H:Hp)(a:qc)(ns:qa Int),ns.length<=n->gk H->zN K H a (ns.map V.int)->sp K [.ref a] H (λv _=>v=.bl true) λ_ _ _=>False) :
 WalkO q loose XP (dY obs good) l.row.toRowW d [] (λf vs=>PySem.call f vs):=by
 refine Att.Qan p g λw s₀ m mg D c o pm cd doc a vs ns G Y E hd t j b hints hlen hg=>?_;obtain⟨K,KX,y⟩:=Y;obtain⟨fd,A,B⟩:=F w K mg c _ KX y G.T.g j;exact TC KX G.T.g G.T.b G.T.builtins G.T.nolimit hg b hints (zu hlen e) r B A (λH C hS=>i K H a ns hlen C hS) λ_ _ _ z=>z
def vU{K:Frag}{h:Heap}{mg:qb->Option qd}{x:qb}{v:V}(X:K.In h)(G:h.Ns mainGlobals mg)(e:(gl K x).map (Option.map uZ)=some (some (bv v)))(a:ie v=true:=by rfl):∃u,mg x=some u/\QN v u:=by
 obtain⟨r,b,c⟩:=xK.mp e;obtain⟨u,d,f⟩:=xK.mp c;subst d;exact⟨u,mg_of X G b,xn f a⟩
def xg{K:Frag}{C:qc}{f:qb}(h:decide (findIn K (.ref C) f=some none)=true):Yi K C f:=by have e:findIn K (.ref C) f=some none:=qo h;exact e
end Hd
namespace L2
open PySem PySem.Spec PyProof.Rows
abbrev WU(o:HO)(H:Hp)(Q:VK):Prop:=∀p H',H p=none->Qj H H'->H' p=some o->Q (.ref p) H'
def WU.put{o:HO}{H:Hp}{Q:VK}(k:WU o H Q){p:qc}(a:H p=none):Q (.ref p) (upd H p o):=k p _ a (Qj.zk a) Qc
inductive cY(xs:qa V)(H:Hp)(Q:VK):Prop
 |mk:xs.length<=sizeLine->WU (.lst xs) H Q->cY xs H Q
inductive cX(xs:qa V)(H:Hp)(Q:VK):Prop
 |mk:xs.length<=sizeLine->WU (.tup xs) H Q->cX xs H Q
def gG(t:TA):TE:=λσ H Q=>t σ H λxs H1=>cY xs H1 Q
def gB(t:TA):TE:=λσ H Q=>t σ H λxs H1=>cX xs H1 Q
def Yy{X:Cx}{es:qa Expr}{t:TA}{pos:Pos}(h:PAs X es t):PE X (.List es pos) (gG t):=by
 intro pins s σ H Q I c;refine wpAny_List_spliced (jE (h.h pos pins s σ H _ I c) λus s1 ⟨xs,H1,a,r,z,q⟩=>⟨by rw[<-r.length];exact z,?_⟩);have hf:H1 s1.heap.objs.size=none:=a.hok.fresh (qD _);refine⟨.ref s1.heap.objs.size,upd H1 s1.heap.objs.size (.lst xs),a.laid (t':=s1.toks) (λb u e=>qw _ e) (qD _) ?_,U,WU.put q hf⟩;exact⟨z,us,0,r,qL _ rfl⟩
def Yq{X:Cx}{es:qa Expr}{t:TA}{c:Nat}{pos:Pos}(h:PAs X es t):PE X (.Tuple es c pos) (gB t):=by
 intro pins s σ H Q I d;refine wpAny_Tuple_spliced (jE (h.h pos pins s σ H _ I d) λus s1 ⟨xs,H1,a,r,z,q⟩=>⟨by rw[<-r.length];exact z,?_⟩);have hf:H1 s1.heap.objs.size=none:=a.hok.fresh (qD _);refine⟨.ref s1.heap.objs.size,upd H1 s1.heap.objs.size (.tup xs),a.laid (t':=s1.toks) (λb u e=>qw _ e) (qD _) ?_,U,WU.put q hf⟩;exact⟨z,us,r,⟨_,qL _ rfl,U,_,U⟩⟩
def SlR.mono{X:Cx}{r b:V->Option Int->Option Int->Hp->VK->Prop}(h:SlR X r)(k:∀x lo a H Q,b x lo a H Q->r x lo a H Q):SlR X b:=
 λpins s σ H x v c d lo a e Q I f g pl pu q=>h pins s σ H x v c d lo a e Q I f g pl pu (k _ _ _ _ _ q)
def uz.mono{X:Cx}{f:qd->qd->Sem qd}{r a:R2}(h:uz X f r)(k:∀x y H Q,a x y H Q->r x y H Q):uz X f a:=
 λpins s σ H x y v u Q I b c q=>h pins s σ H x y v u Q I b c (k _ _ _ _ q)
def MtR.mono{X:Cx}{id:String}{r a:V->qa V->Hp->VK->Prop}(h:MtR X id r)(k:∀x y H Q,a x y H Q->r x y H Q):MtR X id a:=
 λpins s σ H x xs v us Q I b c q=>h pins s σ H x xs v us Q I b c (k _ _ _ _ q)
inductive h7(K:Frag)(x:V)(lo hi:Option Int)(H:Hp)(Q:VK):Prop
 |mk:∀a xs,x=.ref a->zN K H a xs->WU (.lst (BS xs lo hi)) H Q->h7 K x lo hi H Q
def R4{X:Cx}:SlR X (h7 X.K):=aW.mono λx lo c H Q ⟨a,xs,e,h,k⟩=>⟨a,xs,e,h,λp b=>WU.put k b⟩
inductive ic(x y:V)(H:Hp)(Q:VK):Prop
 |mk:∀l b xs zs,x=.ref l->y=.ref b->H l=some (.lst xs)->H b=some (.lst zs)->xs.length+zs.length<=sizeLine->WU (.lst (xs++zs)) H Q->ic x y H Q
def bD{X:Cx}:uz X (binaryOp .Add) ic:=fk.mono λx y H Q ⟨l,b,xs,zs,a,c,d,e,hz,k⟩=>⟨l,b,xs,zs,a,c,d,e,hz,λp f=>WU.put k f⟩
inductive af(x:V)(xs:qa V)(H:Hp)(Q:VK):Prop
 |mk:∀(z y:qb),x=.str z->xs=[.str y]->(y.length==0)=false->z.length<=1000000->WU (.lst ((Txt.split z y).map V.str)) H Q->af x xs H Q
def PL{X:Cx}:MtR X "str.split" af:=PM.mono λx xs H Q ⟨z,y,a,b,c,hz,k⟩=>⟨z,y,a,b,c,hz,λp d=>WU.put k d⟩
def Fm{x y:qb}:(!decide (V.str x=V.str y)) = !decide (x=y):=by
 by_cases h:x=y
 .rw[h,qu rfl,qu rfl]
 .rw[qF h,qF λz=>h (V.str.inj z)]
def Ut{x y:qb}:decide (V.str x=V.str y)=decide (x=y):=by
 by_cases h:x=y
 .rw[h,qu rfl,qu rfl]
 .rw[qF h,qF λz=>h (V.str.inj z)]
def fO{x y:Int}:decide (V.int x=V.int y)=decide (x=y):=by
 by_cases h:x=y
 .rw[h,qu rfl,qu rfl]
 .rw[qF h,qF λz=>h (V.int.inj z)]
section
variable {X:Cx}{o e:Expr}{es:qa Expr}{ta:TE}{t:TA}{m:qb}{apos pos:Pos}
end
end L2
namespace Hd
open PySem PySem.W L2
end Hd
namespace L2
open PySem PySem.Spec PyProof.Rows
section
variable {X:Cx}{e:Expr}{es:qa Expr}{te:TE}{t:TF}{pos:Pos}
end
section
variable {X:Cx}{pins:qa (qc×Obj)}{σ:qa (Option V)}{H:Hp}{s:Shared}
end
section
variable {P:Program}{w:World}{K:Frag}{mg:qb->Option qd}{base:Heap}
end
section
variable {X:Cx}{CX:CXT}{k:Nat}{f C:qc}{fd:FuncData}{ps:qe}{ds:qg}{pE:qa V}{sp:Sp}{E:XK}{x:qb}{p pos:Pos}{e o:Expr}{es:qa Expr}{t:TA}{st:Stmt}{rest:qa Stmt}{ts u:TS}{te ta tv:TE}
end
section
variable {prog:Program}{w:World}{A:Around}{R:Result->Shared->Prop}{I:qc}{fp wr:qa qc}{n:Nat}{P:Nat->qd->Prop}{St:Nat->Heap->Prop}{dv:qd}
end
def aC:(" ":qb).cps.toList=[32]:=by decide +kernel
def ik:(" ":qb)=⟨#[32]⟩:=by decide +kernel
def Va(a b:qb)(r:qe):(Str.join " " (a::b::r)).cps.toList=a.cps.toList++32::(Str.join " " (b::r)).cps.toList:=by
 show((a++" ")++Str.join " " (b::r)).cps.toList=_;rw[Yl,Yl,aC,yO];rfl
def E9:∀{ps qs:qe},ps≠[]->qs≠[]->(∀p∈ps,¬32∈p.cps.toList)->(∀p∈qs,¬32∈p.cps.toList)->Str.join " " ps=Str.join " " qs->ps=qs
 |[],_,h,_,_,_,_=>absurd rfl h
 |_,[],_,h,_,_,_=>absurd rfl h
 |[p],[q],_,_,_,_,h=>by have h:p=q:=h;rw[h]
 |[p],q::a::r,_,_,b,_,h=>by
  have h:p=Str.join " " (q::a::r):=h;have:=b p qy;rw[h,Va] at this;exact absurd (qx _ qy) this
 |p::c::r,[q],_,_,_,d,h=>by
  have h:Str.join " " (p::c::r)=q:=h;have:=d q qy;rw[<-h,Va] at this;exact absurd (qx _ qy) this
 |p::c::r,q::a::f,_,_,b,d,h=>by
  have e:(Str.join " " (p::c::r)).cps.toList=(Str.join " " (q::a::f)).cps.toList:=by rw[h]
  rw[Va,Va] at e;obtain⟨g,i⟩:=ax (b p qy) (d q qy) e;have j:=E9 (ps:=c::r) (qs:=a::f) (by simp) (by simp) (λz hz=>b z (qH _ hz)) (λz hz=>d z (qH _ hz)) (Ku i);rw[Ku g,j]
def Rp(x:qb):Txt.split x " "≠[]:=λz=>by
 have:=split_pos x " ";rw[z] at this;exact absurd this (by decide)
def LV(x:qb):∀p∈Txt.split x " ",¬32∈p.cps.toList:=λp a=>by
 rw[ik] at a;exact StrLaws.split_free _ 32 p a
def Rq{x:qb}{ps:qe}(h0:ps≠[])(h:∀p∈ps,¬32∈p.cps.toList)(e:Str.join " " ps=x):Txt.split x " "=ps:=by
 refine E9 (Rp x) h0 (LV x) h ?_;rw[e];exact StrLaws.join_split _ _
def KU:∀{ps qs:qe},ps≠[]->qs≠[]->Str.join " " (ps++qs)=(Str.join " " ps++" ")++Str.join " " qs
 |[],_,h,_=>absurd rfl h
 |[p],q::qs,_,_=>rfl
 |[p],[],_,h=>absurd rfl h
 |p::a::r,qs,_,b=>by
  have c:=KU (ps:=a::r) (qs:=qs) (by simp) b;apply Ku;show(Str.join " " (p::a::(r++qs))).cps.toList=_;rw[Va,Yl,Yl,Va,show a::(r++qs)=(a::r)++qs from rfl,c,Yl,Yl];simp
end L2
namespace HT
open PySem PyProof.Rows
def QaF(a:Int)(x:qb)(c:Int)(y:qb):Bool:=if a=c then (if x=y then false else decide (x.cps.toList<y.cps.toList)) else decide (a<c)
def QcA(a:Int)(x:qb)(c:Int)(y:qb):QaF a x c y=vJ c y a x:=by
 unfold QaF vJ;by_cases h:a=c
 .rw[qG h,qG h.symm];by_cases e:x=y
  .rw[qG e,qG e.symm]
  .rw[qA e,qA (λz=>e z.symm)]
 .rw[qA h,qA (λz=>h z.symm)]
section
open PySem.SeqAt
open PySem.AutoSeq1 (wpAny_loadPart')
open PySem.MeetsSeq PySem.MeetsSeq2 PySem.MeetsSeq3
def Pd(A:Around)(s:Shared)(a:Int)(t:Tok)(c:Int)(u:Tok)(prog:Program)(w:World)(E:qf)(Q:qf)(h:Q (.bool (decide (a<c))) s) :
 wpAny (model prog w) A (richCompare .Lt (.int a t) (.int c u)) Q E s:=
 (lt_int h:wpAny (model prog w) A (compareOp .Lt (.int a t) (.int c u)) Q E s)
def Pb(A:Around)(s:Shared)(a:qb)(t:Tok)(c:qb)(u:Tok)(prog:Program)(w:World)(E:qf)(Q:qf)(h:Q (.bool (decide (a.cps.toList<c.cps.toList))) s) :
 wpAny (model prog w) A (richCompare .Lt (.str a t) (.str c u)) Q E s:=
 (PySem.P.lt_str h:wpAny (model prog w) A (compareOp .Lt (.str a t) (.str c u)) Q E s)
def rr(l b:qc)(n B:Nat)(dd u:Option qc)(C v:Array (Option qd))(a:Int)(x:qb)(c:Int)(y:qb)(t1 k r m:Tok) :
 Meets (Builtin.«tuple.__lt__» ⟨[.ref l,.ref b],[]⟩)
  (λ_ R s=>s.heap.get? l=some {cls:=.type "tuple",dict:=dd,data:=.seq #[.int a t1,.str x k] n,slots:=C}/\s.heap.get? b=some {cls:=.type "tuple",dict:=u,data:=.seq #[.int c r,.str y m] B,slots:=v} /\
    R (.ok (.ret (.bool (QaF a x c y)))) s):=
 .of_wp λprog w A R s h=>by
  obtain⟨o,g,d,p,os⟩:=s;obtain⟨D,E,h⟩:=h;have f2:=AutoSeq1.sub_tuple_tuple
  wp_walk using Qa2 D,Qa2 E,wpAny_forIn_list _ (λrest b s'=>b.1=none/\s'=⟨o,g,d,p,os⟩/\Kq a x c y rest) _
  case turn=>
   rintro⟨F,G⟩ rest b s' ⟨i,rfl,z⟩
   cases z with
   |both t1 k r m=>
    obtain⟨e,he,f⟩:=LH A.in1 ⟨o,g,d,p,os⟩ a t1 c r;refine qi (he prog w _ _ ?_)
    cases e with
    |true=>
     wp_walk
     exact⟨U,U,.one (f.mp rfl) _ _⟩
    |false=>
     have ne:a≠c:=λq=>absurd (f.mpr q) qI;have j:=Pd A.in1 ⟨o,g,d,p,os⟩ a t1 c r prog w
     wp_walk using j
     unfold QaF at h;rw[qA ne] at h;exact⟨_,U,by simpa using h⟩
   |one t k m=>
    obtain⟨e,he,f⟩:=E5 A.in1 ⟨o,g,d,p,os⟩ x k y m;refine qi (he prog w _ _ ?_)
    cases e with
    |true=>
     wp_walk
     exact⟨U,U,.none t (f.mp rfl)⟩
    |false=>
     have ne:x≠y:=λq=>absurd (f.mpr q) qI;have j:=Pb A.in1 ⟨o,g,d,p,os⟩ x k y m prog w
     wp_walk using j
     unfold QaF at h;rw[qG t,qA ne] at h;exact⟨_,U,h⟩
  case fin=>
   rintro⟨j,F⟩ s' ⟨i,rfl,z⟩;simp only at i;subst i
   cases z with
   |none t f=>
    unfold QaF at h;rw[qG t,qG f] at h
    wp_walk
    exact⟨_,U,by simpa[Builtin.Tuple.tupleCompareSizes] using h⟩
  case h=>
   exact⟨U,U,.both _ _ _ _⟩
end
end HT
namespace L2
open PySem PySem.Spec PyProof.Rows
def fe{X:Cx}(l:X.A.units<cLine):uz X (compareOp .Lt) (cQ X.K HT.QaF):=by
 intro pins s σ H x y v u Q I m o h;obtain⟨p,q,a,z,c,r,rfl,rfl,t,w,k⟩:=h;cases m;cases o;obtain⟨its,A,B,_⟩:=I.tuple t;obtain⟨g,C,D,_⟩:=I.tuple w;obtain⟨t1,E,rfl⟩:=KG A;obtain⟨F,G,rfl⟩:=KG C;obtain⟨⟨cls,dd,data,J⟩,i,hc,n,hd⟩:=id B;obtain⟨⟨j,e,data2,f⟩,b,d,K,hd2⟩:=id D;simp only at hc hd d hd2;subst hc hd d hd2;exact richCompare_meets_room (op:=.Lt) ⟨_,i,U⟩ ⟨_,b,U⟩ PySem.F.slot_tuple_lt PySem.F.entry_tuple_lt (PySem.F.args_tuple_lt_2 _ _) (HT.rr p q n K dd e J f a z c r t1 E F G)
  ⟨i,b,⟨(λx=>nomatch x),.bl _,H,I,U,k⟩⟩ l
inductive h9(x y:V)(H:Hp)(Q:VK):Prop
 |mk:∀l k xs,x=.ref l->y=.int k->H l=some (.lst xs)->-(2^63)<=k->k<2^63->xs.length*k.toNat<=sizeLine->WU (.lst (List.replicate k.toNat xs).flatten) H Q->h9 x y H Q
def FL{X:Cx}:uz X (binaryOp .Mult) h9:=fc.mono λx y H Q ⟨l,k,xs,a,b,c,d,e,hz,q⟩=>⟨l,k,xs,a,b,c,d,e,hz,λp f=>WU.put q f⟩
def QE{N P:qe}{sc:Scope}(h:(sc.kind=.function/\sc.isCoroutine=false/\sc.isGenerator=false)/\N.Nodup/\N.take P.length=P/\(∀x∈P,sc.names.lookup x=some .local\/sc.names.lookup x=some .cell)/\∀y∈sc.names,y.2≠.free:=by decide +kernel):Qn N P sc:=⟨h.1.1,h.1.2.1,h.1.2.2,h.2.1,h.2.2.1,h.2.2.2.1,h.2.2.2.2⟩
abbrev Tab:=Option qb×qb×qb×Stmt×Option (qg)
def tF(x:qb)(s:Stmt):Tab:=(none,x,x,s,none)
def tM(c x q:qb)(s:Stmt):Tab:=(some c,x,q,s,none)
def tD(c:Option qb)(x q:qb)(s:Stmt)(d:qg):Tab:=(c,x,q,s,some d)
section
variable {K:Frag}{x qual:qb}{st:Stmt}{f:qc}{fd:FuncData}{ps:qe}
def zT.la(F:zT K x qual st f fd)(h:∀(a kV doc pm:qd)(an:Option qc)(b ct:qd),bindArgs (fnOf x qual (Y6 st) (YH st) (Qg st) .none kV doc pm an b ct) ⟨[a],[]⟩=pure (ps.zip [a]):=by intros;rfl)(n:ps.length=1:=by rfl):Qr K fd ps []:=F.binds λkV doc pm an b ct us c=>by
 rw[n] at c;revert us;refine gy ?_;intros;exact h _  kV doc pm an b ct
def zT.wM(F:zT K x qual st f fd)(h:∀(a b kV doc pm:qd)(an:Option qc)(c ct:qd),bindArgs (fnOf x qual (Y6 st) (YH st) (Qg st) .none kV doc pm an c ct) ⟨[a,b],[]⟩=pure (ps.zip [a,b]):=by intros;rfl)(n:ps.length=2:=by rfl):Qr K fd ps []:=F.binds λkV doc pm an c ct us d=>by
 rw[n] at d;revert us;refine O1 ?_;intros;exact h _ _  kV doc pm an c ct
def zT.oU(F:zT K x qual st f fd)(h:∀(a b c kV doc pm:qd)(an:Option qc)(d ct:qd),bindArgs (fnOf x qual (Y6 st) (YH st) (Qg st) .none kV doc pm an d ct) ⟨[a,b,c],[]⟩=pure (ps.zip [a,b,c]):=by intros;rfl)(n:ps.length=3:=by rfl):Qr K fd ps []:=F.binds λkV doc pm an d ct us e=>by
 rw[n] at e;revert us;refine O0 ?_;intros;exact h _ _ _  kV doc pm an d ct
def zT.bd4(F:zT K x qual st f fd)(h:∀(a b c d kV doc pm:qd)(an:Option qc)(e ct:qd),bindArgs (fnOf x qual (Y6 st) (YH st) (Qg st) .none kV doc pm an e ct) ⟨[a,b,c,d],[]⟩=pure (ps.zip [a,b,c,d]):=by intros;rfl)(n:ps.length=4:=by rfl):Qr K fd ps []:=F.binds λkV doc pm an e ct us g=>by
 rw[n] at g;revert us;refine aN ?_;intros;exact h _ _ _ _  kV doc pm an e ct
def zT.bd5(F:zT K x qual st f fd)(h:∀(a b c d e kV doc pm:qd)(an:Option qc)(g ct:qd),bindArgs (fnOf x qual (Y6 st) (YH st) (Qg st) .none kV doc pm an g ct) ⟨[a,b,c,d,e],[]⟩=pure (ps.zip [a,b,c,d,e]):=by intros;rfl)(n:ps.length=5:=by rfl):Qr K fd ps []:=F.binds λkV doc pm an g ct us i=>by
 rw[n] at i;revert us;refine dq ?_;intros;exact h _ _ _ _ _  kV doc pm an g ct
end
def Bz{a:qc}{w:Obj}{c:qa (Key×V)}{α:Type}{xs:qa α}{fr:qa (Nat×qb)}{tt:TT}{y:TE}{σ:St}{H1:Hp}{Q:VK}(g:α->V)(pr:α->Bool)(f:α->V)(hz:xs.length<=sizeLine)(hS:H1 a=some (.jF w (.dK c)))(z:c.map (λo=>kV o.1)=xs.map g)
 (p:∀(x:α)(d:Hp)(Q':Bool->Hp->Prop),x∈xs->Qj H1 d->(∀j,Qj d j->Q' (pr x) j)->tt (some (g x)::oC σ fr) d Q')
 (q:∀(x:α)(d:Hp)(Q':VK),x∈xs->Qj H1 d->pr x=true->(∀j,Qj d j->Q' (f x) j)->y (some (g x)::oC σ fr) d Q')
 (B:∀D h,H1 D=none->Qj H1 h->h D=some (.lst ((xs.filter pr).map f))->Q (.ref D) h) :
 Yr (Itd a w c) fr tt y σ H1 Q:=by
 have C:c.length=xs.length:=by have:=zQ List.length z;simpa using this
 unfold Yr;intro D r;refine⟨λi m ys h=>m=xs.length-i/\i<=xs.length/\ys=((xs.take i).filter pr).map f/\Qj H1 h/\h D=some (.lst ys),⟨xs.length,by simp,za _,by simp,Qj.zk r,Qc⟩,?_⟩;rintro i m ys h ⟨rfl,E,rfl,s2,k⟩;refine⟨k,?_⟩;have l:=s2 _ _ hS;by_cases b:i<xs.length
 .have s:(xs.map g)[i]?=some (g xs[i]):=by rw[qQ,qB b];rfl
  refine .inr ⟨⟨l,by omega⟩,?_⟩;rintro v d ⟨rfl,o,t,rfl⟩;have n:(xs.map g)[i]?=some (kV o.1):=by rw[<-z,qQ,t];rfl
  rw[s] at n;have n:=qN n;rw[<-n];have hm:xs[i]∈xs:=jh b;have A:xs.take (i+1)=xs.take i++[xs[i]]:=by rw[zm,qB b];rfl
  refine p xs[i] _ _ hm s2 λj s4=>?_
  cases u:pr xs[i] with
  |false=>
   refine QV ⟨xs.length-(i+1),by omega,U,b,?_,s2.trans s4,s4 _ _ k⟩;rw[A,zb,qO,u];simp
  |true=>
   refine Yj (q xs[i] _ _ hm (s2.trans s4) u λF s5=>⟨s5 _ _ (s4 _ _ k),?_,xs.length-(i+1),by omega,U,b,?_,((s2.trans s4).trans s5).z6 r,Qc⟩)
   .have:=qY pr (xs.take i);rw[q0] at this;rw[qh];omega
   .rw[A,zb,qO,u];simp
 .have e:i=xs.length:=by omega
  subst e;have d:xs.take xs.length=xs:=zj (qD _);rw[d] at k;exact .inl ⟨⟨l,by omega⟩,B D h r s2 k⟩
def Rn{x:qb}{fr:qa (Nat×qb)}{n:TE}{σ:St}{H1:Hp}{Q:VK}(f:Nat->V)(hz:x.cps.size<=sizeLine)
 (j:∀(c:Nat)(g:Hp)(Q':VK),c∈x.cps.toList->Qj H1 g->(∀k,Qj g k->Q' (f c) k)->n (some (.str ⟨#[c]⟩)::oC σ fr) g Q')
 (o:∀D a,H1 D=none->Qj H1 a->a D=some (.lst (x.cps.toList.map f))->Q (.ref D) a) :
 Yr (Its x) fr Ee n σ H1 Q:=by
 unfold Yr;intro D l;refine⟨λi m ys a=>m=x.cps.size-i/\i<=x.cps.size/\ys=(x.cps.toList.take i).map f/\Qj H1 a/\a D=some (.lst ys),⟨x.cps.size,by simp,za _,by simp,Qj.zk l,Qc⟩,?_⟩;rintro i m ys a ⟨rfl,p,rfl,s2,h⟩;refine⟨h,?_⟩;by_cases b:i<x.cps.size
 .refine .inr ⟨b,?_⟩;rintro v g ⟨rfl,c,hc,rfl⟩;refine GC (Yj ?_);have d:x.cps.toList[i]?=some c:=by simpa using hc
  refine j c _ _ (qM d) s2 λk s4=>⟨s4 _ _ h,?_,x.cps.size-(i+1),by omega,U,b,?_,(s2.trans s4).z6 l,Qc⟩
  .rw[qh,q0];simp only[zf];omega
  .rw[zm,d];simp
 .have e:i=x.cps.size:=by omega
  subst e;have d:x.cps.toList.take x.cps.size=x.cps.toList:=zj (by simp);refine .inl ⟨U,?_⟩;rw[d] at h;exact o D a l s2 h
def sI(x:qb):qe:=(wK x.cps.toList).1++[(wK x.cps.toList).2]
def ba:(rS.cps.toList.all λc=>!decide (lo1 c=32))=true:=by decide +kernel
def cS:∀(n:Nat)(l:qa Nat),l.length=n->(∀p∈(wK l).1++[(wK l).2],¬32∈p.cps.toList)/\(Str.join " " ((wK l).1++[(wK l).2])).cps.toList=l.map gS
 |0,l,h=>by
  rw[jI.mp h];refine⟨λp d=>?_,U⟩;have:p=Str.empty:=qk.mp d;rw[this];exact λz=>nomatch z
 |n+1,l,h=>by
  obtain⟨r,c,rfl⟩:∃r c,l=r++[c]:=by
   rcases uH l with e|⟨a,b,e⟩
   .rw[e] at h;cases h
   .exact⟨a,b,by rw[e,uI]⟩
  obtain⟨g,i⟩:=cS n r (by rw[qz] at h;simpa using h);have e:wK (r++[c])=wJ (wK r) c:=by unfold wK;rw[jB];rfl
  rw[e];generalize wK r=st at g i;have f:gS c=if AF c=true then lo1 c else 32:=rfl
  unfold wJ
  cases j:AF c with
  |true=>
   rw[qG rfl];rw[j,qG rfl] at f;have k:lo1 c≠32:=by
    have:=jc.mp ba c (qo j);exact zi (by simpa using this)
   refine⟨λp d=>?_,?_⟩
   .rcases qt.mp d with q|q
    .exact g p (qC _ q)
    .rw[qk.mp q];show ¬32∈(st.2++(⟨#[lo1 c]⟩:qb)).cps.toList;rw[Yl];intro z;rcases qt.mp z with z|z
     .exact g st.2 (qx _ (qk.mpr rfl)) z
     .exact k (by simpa using z:32=lo1 c).symm
   .show(Str.join " " (st.1++[st.2++(⟨#[lo1 c]⟩:qb)])).cps.toList=_;rw[qJ,<-i];by_cases h0:st.1=[]
    .rw[h0];show(st.2++(⟨#[lo1 c]⟩:qb)).cps.toList=st.2.cps.toList++[gS c];rw[Yl,f]
    .rw[KU h0 (by simp),KU h0 (by simp),Yl,Yl,Yl,Yl];show _++(st.2++(⟨#[lo1 c]⟩:qb)).cps.toList=(_++st.2.cps.toList)++[gS c];rw[Yl,f];simp
  |false=>
   rw[qA qI];rw[j,qA qI] at f;refine⟨λp d=>?_,?_⟩
   .rcases qt.mp d with q|q
    .exact g p q
    .rw[qk.mp q];exact λz=>nomatch z
   .show(Str.join " " ((st.1++[st.2])++[Str.empty])).cps.toList=_;rw[KU (by simp) (by simp),Yl,Yl,qJ,<-i];show(_++[32])++[]=_++[gS c];rw[f,zU]
def SF{x y:qb}(h:y.cps.toList=x.cps.toList.map gS):Txt.split y " "=sI x:=by
 obtain⟨a,b⟩:=cS _ x.cps.toList rfl;exact Rq (by unfold sI;simp) a (Ku (b.trans h.symm))
def eY(t b:qb):sI ((t++" ")++b)=sI t++sI b:=by
 unfold sI wK;rw[Yl,Yl,jB,jB];generalize t.cps.toList.foldl wJ ([],Str.empty)=st;have e:(" ":qb).cps.toList.foldl wJ st=(st.1++[st.2],Str.empty):=by
  show wJ st 32=_;unfold wJ;rw[qA (by decide +kernel)]
 rw[e];have:=Nc b.cps.toList (st.1++[st.2]) ([],Str.empty);rw[zU] at this;rw[this,yO]
def eZ{t b w:qb}(hw:w≠Str.empty):w∈sI ((t++" ")++b)↔w∈wb t++wb b:=by
 have e:∀x:qb,w∈wb x↔w∈sI x:=λx=>by
  unfold wb sI;rw[qr];refine⟨λh=>h.1,λh=>⟨h,?_⟩⟩;unfold BR;simpa using hw
 rw[eY,qt,qt,e t,e b]
end L2
namespace K52
open PySem L2
abbrev ZZ:qb:="self"
abbrev ZJ:qb:="name"
abbrev Za:qb:="_law_state"
abbrev Zb:qb:="Folders"
abbrev Zc:qb:="_law_letters"
abbrev Zd:qb:="mark"
abbrev Ze:qb:="folder"
abbrev Zf:qb:="__init__"
abbrev Zg:qb:="Threads"
abbrev Zh:qb:="place"
abbrev Zi:qb:="Board"
abbrev Zj:qb:="_law_best"
abbrev Zk:qb:="Registers"
abbrev Zl:qb:="names"
abbrev Zm:qb:="Letter"
abbrev Zn:qb:="_law_s"
abbrev Zo:qb:="take_out"
abbrev Zp:qb:="inbox"
abbrev Zq:qb:="words"
abbrev Zr:qb:="answers"
abbrev Zs:qb:="letters"
abbrev Zt:qb:="drop"
abbrev Zu:qb:="_law_board"
abbrev Zv:qb:="facts"
abbrev Zw:qb:="boxes"
abbrev Zx:qb:="Index"
abbrev Zy:qb:="put"
abbrev Zz:qb:="_law_word_here"
abbrev ZA:qb:="entries"
abbrev ZC:qb:="thing"
abbrev ZD:qb:="_law_names_told"
abbrev ZE:qb:="_law_name"
abbrev ZF:qb:="_law_script"
abbrev ZG:qb:="abcdefghijklmnopqrstuvwxyzABCDEFGHIJKLMNOPQRSTUVWXYZ0123456789"
abbrev ZH:qb:="word"
abbrev ZI:qb:="_law_stamped"
abbrev ZK:qb:="_law_shuffled"
abbrev ZL:qb:="clocks"
abbrev ZM:qb:="marks"
abbrev ZN:qb:="hands"
abbrev ZO:qb:="bearers"
abbrev ZP:qb:="_law_word_by"
abbrev ZQ:qb:="_law_threads"
abbrev ZR:qb:="_law_folders"
abbrev ZS:qb:="replies"
abbrev ZT:qb:="links"
abbrev ZV:qb:="is_answered"
abbrev ZW:qb:="check_parts"
abbrev ZX:qb:="check_there"
abbrev ZY:qb:="_law_put_by"
abbrev Z0:qb:="_law_folder"
abbrev Z1:qb:="_law_having"
abbrev Z2:qb:="_law_looked"
abbrev Z3:qb:="_law_rows"
abbrev Z4:qb:="sender"
abbrev Z5:qb:="_law_signs"
abbrev Z6:qb:="_law_found"
abbrev Z7:qb:="letter"
abbrev Z8:qb:="_law_begin"
abbrev Z9:qb:="_law_hands"
abbrev JZ:qb:="_law_named"
abbrev JJ:qb:="_law_world"
abbrev Ja:qb:="_law_plain"
abbrev Jb:qb:="_law_marks"
abbrev Jc:qb:="_law_words"
abbrev Jd:qb:="_law_cards"
abbrev Je:qb:="Card"
abbrev Jf:qb:="puts"
abbrev Jg:qb:="__setattr__"
abbrev Jh:qb:="tags"
abbrev Ji:qb:="numbers"
abbrev Jj:qb:="_law_many"
abbrev Jk:qb:="all_among"
abbrev Jl:qb:="letter_of"
abbrev Jm:qb:="check_new"
abbrev Jn:qb:="_law_next"
abbrev Jo:qb:="_law_word"
abbrev Jp:qb:="_law_text"
abbrev Jq:qb:="_law_hang"
abbrev Jr:qb:="signs"
abbrev Js:qb:="title"
abbrev Jt:qb:="hung"
abbrev Ju:qb:="_law_k"
abbrev Jv:qb:="words_of"
abbrev Jw:qb:="is_whole"
abbrev Jx:qb:="stamp_of"
abbrev Jy:qb:="listed"
abbrev Jz:qb:="_law_hand"
abbrev JA:qb:="abcdefghijklmnopqrstuvwxyz0123456789"
abbrev JB:qb:="add"
abbrev JC:qb:="body"
abbrev JD:qb:="stamped"
abbrev JE:qb:="is_word"
abbrev JF:qb:="is_text"
abbrev JG:qb:="inside"
abbrev JH:qb:="_law_text_here"
abbrev JI:qb:="key_of"
abbrev JK:qb:="drawers"
abbrev JL:qb:="day"
abbrev JM:qb:="_law_one"
abbrev JN:qb:="_law_other"
abbrev JO:qb:="seen"
abbrev JP:qb:="marks_told"
abbrev JQ:qb:="there"
abbrev JR:qb:="letter_at"
abbrev JS:qb:="text"
abbrev JT:qb:="deed"
abbrev JV:qb:="bring_in"
abbrev JW:qb:="counts"
abbrev JX:qb:="key"
abbrev JY:qb:="default"
abbrev J0:qb:="put_out"
abbrev J1:qb:="folders"
abbrev J2:qb:="keys_of"
abbrev J3:qb:="threads"
abbrev ZZZ:qb:="_law_most"
abbrev ZZJ:qb:="boxed"
abbrev ZZa:qb:="_law_row"
abbrev ZZb:qb:="_law_due"
abbrev ZZc:qb:="put_in"
abbrev ZZd:qb:="unmark"
abbrev ZZe:qb:="marked"
abbrev ZZf:qb:="having"
abbrev ZZg:qb:="beside"
abbrev ZZh:qb:="thread"
abbrev ZZi:qb:="change"
abbrev ZZj:qb:="law"
abbrev ZZk:qb:="twin"
abbrev ZZl:qb:="WORD_SIGNS"
abbrev ZZm:qb:="MOST_TITLE"
abbrev ZZn:qb:="first"
abbrev ZZo:qb:="parts"
abbrev ZZp:qb:="known"
abbrev ZZq:qb:="RUN_SIGNS"
abbrev ZZr:qb:="MOST_WORD"
abbrev ZZs:qb:="MOST_BODY"
def top(i:Nat):Stmt:=PySem.Challenge.pw_mailroom_k52_whole_any_order.main.body.getD i (.Pass ⟨0,0,0,0⟩)
abbrev Wt:=top 11
abbrev GL:=top 12
abbrev W3:=top 13
abbrev GN:=top 18
abbrev Ky:=top 19
abbrev V7:=top 20
abbrev V9:=top 21
abbrev Xq:=top 23
abbrev Kv:=top 25
abbrev V8:=top 27
abbrev Xs:=top 28
abbrev BZ:=top 39
abbrev GK:=top 42
abbrev BX:=top 43
abbrev GG:=top 44
abbrev GI:=top 45
abbrev WK:=top 46
abbrev Xr:=top 48
abbrev BW:=top 49
abbrev GH:=top 50
abbrev Kw:=top 51
abbrev Vv:=top 52
abbrev GF:=top 53
abbrev XX:=top 54
abbrev Kx:=top 55
abbrev XY:=top 56
abbrev BY:=top 57
abbrev Vu:=top 58
abbrev Wo:=top 59
abbrev XW:=top 60
abbrev W6:=top 61
abbrev GJ:=top 62
abbrev VB:=top 63
abbrev W5:=top 64
abbrev aV:=top 65
abbrev Xw:=QH (top 2) 0
abbrev Wc:=QH (top 22) 0
abbrev Wb:=QH (top 22) 1
abbrev VE:=QH (top 22) 2
abbrev VF:=QH (top 22) 3
abbrev VD:=QH (top 22) 4
abbrev VI:=QH (top 31) 0
abbrev Wd:=QH (top 31) 1
abbrev Uo:=QH (top 31) 2
abbrev UZ:=QH (top 31) 3
abbrev UD:=QH (top 31) 4
abbrev Vl:=QH (top 31) 5
abbrev VH:=QH (top 31) 6
abbrev UY:=QH (top 31) 7
abbrev U0:=QH (top 31) 8
abbrev Vn:=QH (top 31) 9
abbrev U1:=QH (top 31) 10
abbrev Uc:=QH (top 31) 11
abbrev Vm:=QH (top 31) 12
abbrev UE:=QH (top 31) 13
abbrev WN:=QH (top 33) 0
abbrev Xv:=QH (top 33) 1
abbrev UX:=QH (top 33) 2
abbrev VG:=QH (top 33) 3
abbrev UW:=QH (top 35) 0
abbrev UU:=QH (top 35) 1
abbrev Vk:=QH (top 35) 2
abbrev Y4:=QH (top 35) 3
abbrev VC:=QH (top 37) 0
abbrev Wa:=QH (top 37) 1
abbrev Um:=QH (top 37) 2
abbrev Vj:=QH (top 37) 3
abbrev UT:=QH (top 37) 5
abbrev Ub:=QH (top 37) 6
abbrev UC:=QH (top 37) 7
abbrev WQ:=QH (top 40) 0
abbrev WO:=QH (top 40) 1
abbrev YM:=QH (top 40) 2
abbrev YR:=QH (top 40) 3
abbrev U2:=QH (top 40) 4
abbrev VJ:=QH (top 40) 5
abbrev We:=QH (top 40) 6
abbrev UG:=QH (top 40) 7
abbrev WR:=QH (top 40) 8
abbrev Bs:qe:=[JS,Jr]
def Fv:Qn Bs [JS,Jr] (Qg Wt):=QE
abbrev PJ:qe:=[ZC]
def Mm:Qn PJ [ZC] (Qg GL):=QE
abbrev C0:qe:=[JS,Jr]
def Bo:Qn C0 [JS] (Qg W3):=QE
abbrev PK:qe:=[ZC,"most"]
def Mn:Qn PK [ZC,"most"] (Qg GN):=QE
abbrev MI:qe:=[ZC]
def Ip:Qn MI [ZC] (Qg Ky):=QE
abbrev DV:qe:=[ZC]
def CD:Qn DV [ZC] (Qg V7):=QE
abbrev DX:qe:=[Z4,Js,JC,JL,Zr]
def CG:Qn DX [Z4,Js,JC,JL,Zr] (Qg V9):=QE
abbrev I1:qe:=[ZC]
def Fs:Qn I1 [ZC] (Qg Xq):=QE
abbrev MF:qe:=[JD]
def Il:Qn MF [JD] (Qg Kv):=QE
abbrev DW:qe:=[ZJ,JQ]
def CF:Qn DW [ZJ,JQ] (Qg V8):=QE
abbrev I8:qe:=[ZJ,JQ]
def Fu:Qn I8 [ZJ,JQ] (Qg Xs):=QE
abbrev Tr:qe:=[JT]
def O7:Qn Tr [JT] (Qg BZ):=QE
abbrev PH:qe:=[ZF]
def Ml:Qn PH [ZF] (Qg GK):=QE
abbrev To:qe:=[Za,"_law_cell"]
def Ay:Qn To [Za] (Qg BX):=QE
abbrev I7:qe:=[Za,Z5,ZZZ,"_law_size"]
def Ax:Qn I7 [Za,Z5,ZZZ] (Qg GG):=QE
abbrev PD:qe:=[Za,Jj,Zc,"_law_base","_law_at","_law_first",Z6,Ju]
def U4:Qn PD [Za,Jj] (Qg GI):=QE
abbrev FR:qe:=[Za,ZZa,Z6,JM]
def WW:Qn FR [Za,ZZa] (Qg WK):=QE
abbrev I3:qe:=[Za,Zn]
def Ft:Qn I3 [Za,Zn] (Qg Xr):=QE
abbrev Tn:qe:=[Za,Zn,Z6,Ju,Zz,"_law_gap"]
def Wm:Qn Tn [Za,Zn] (Qg BW):=QE
abbrev PB:qe:=[Za,Zn,Jz]
def Mi:Qn PB [Za,Zn,Jz] (Qg GH):=QE
abbrev MG:qe:=[Za,Zn,Ju,Jz,ZE,JN,"_law_answers"]
def VP:Qn MG [Za,Zn,Ju] (Qg Kw):=QE
abbrev Bq:qe:=[Za,Zn,Ju,"_law_kind",Jz,"_law_deed"]
def Y1:Qn Bq [Za,Zn,Ju] (Qg Vv):=QE
abbrev Pz:qe:=[Za,Jj,"_law_hands_here",Z5,"_law_words_here",Zn]
def Wr:Qn Pz [Za,Jj] (Qg GF):=QE
abbrev EK:qe:=[Z3,"_law_gone",Zc,Zj,"_law_clock",Jz,"_law_number","_law_deed","_law_key"]
def Y2:Qn EK [Z3] (Qg XX):=QE
abbrev MH:qe:=[Zj,ZE]
def Io:Qn MH [Zj,ZE] (Qg Kx):=QE
abbrev EL:qe:=[Zj,ZE]
def Mj:Qn EL [Zj,ZE] (Qg XY):=QE
abbrev Tq:qe:=[Zc,JM,JN,"_law_first","_law_second"]
def Az:Qn Tq [Zc,JM,JN] (Qg BY):=QE
abbrev Ke:qe:=[Zc,"_law_left",Z6,"_law_thread_of","_law_at","_law_more"]
def YD:Qn Ke [Zc] (Qg Vu):=QE
abbrev Br:qe:=[Zc,Zj,Z6,ZE,"_law_folder_of","_law_both"]
def Vf:Qn Br [Zc,Zj] (Qg Wo):=QE
abbrev EJ:qe:=[JH,Z5]
def CC:Qn EJ [JH] (Qg XW):=QE
abbrev C3:qe:=[Zc,Zz]
def Im:Qn C3 [Zc,Zz] (Qg W6):=QE
abbrev PF:qe:=[Zu,Zc,Zj,ZE,Z6]
def Gi:Qn PF [Zu,Zc,Zj] (Qg GJ):=QE
abbrev C1:qe:=[Zu,ZZb,Z6]
def XH:Qn C1 [Zu,ZZb] (Qg VB):=QE
abbrev C2:qe:=[Za,Zn,Zu,Z3,Zc,Zj,Zz,"_law_way","_law_inside"]
def U7:Qn C2 [Za,Zn,Zu,Z3] (Qg W5):=QE
abbrev hC:qe:=[ZF,Za,Zn,Z3,"_law_cell","_law_order",Zu,JM,Zz]
def Xu:Qn hC [ZF] (Qg aV):=QE
abbrev La:qe:=[ZZ,Z7,Ze,ZM]
def Fw:Qn La [ZZ,Z7,Ze,ZM] (Qg Xw):=QE
abbrev D0:qe:=[ZZ,Z4,Js,JC,JL,Zr]
def CI:Qn D0 [ZZ,Z4,Js,JC,JL,Zr] (Qg Wc):=QE
abbrev DZ:qe:=[ZZ,ZZk]
def X2:Qn DZ [ZZ] (Qg Wb):=QE
abbrev C6:qe:=[ZZ]
def BG:Qn C6 [ZZ] (Qg VE):=QE
abbrev C7:qe:=[ZZ,"found",ZH]
def US:Qn C7 [ZZ] (Qg VF):=QE
abbrev C5:qe:=[ZZ]
def BF:Qn C5 [ZZ] (Qg VD):=QE
abbrev Dc:qe:=[ZZ]
def BK:Qn Dc [ZZ] (Qg VI):=QE
abbrev D1:qe:=[ZZ,ZJ,Ze,ZM,ZH]
def X3:Qn D1 [ZZ,ZJ,Ze,ZM] (Qg Wd):=QE
abbrev Gq:qe:=[ZZ,ZJ]
def KZ:Qn Gq [ZZ,ZJ] (Qg Uo):=QE
abbrev AY:qe:=[ZZ,ZJ,Ze]
def GS:Qn AY [ZZ,ZJ,Ze] (Qg UZ):=QE
abbrev Ab:qe:=[ZZ,ZJ,Ze]
def Ws:Qn Ab [ZZ,ZJ] (Qg UD):=QE
abbrev BN:qe:=[ZZ,ZJ,Ze]
def AB:Qn BN [ZZ,ZJ,Ze] (Qg Vl):=QE
abbrev C9:qe:=[ZZ,ZJ,ZH]
def BJ:Qn C9 [ZZ,ZJ,ZH] (Qg VH):=QE
abbrev AX:qe:=[ZZ,ZJ,ZH]
def GR:Qn AX [ZZ,ZJ,ZH] (Qg UY):=QE
abbrev AZ:qe:=[ZZ,ZJ]
def GV:Qn AZ [ZZ,ZJ] (Qg U0):=QE
abbrev BP:qe:=[ZZ,ZJ]
def AE:Qn BP [ZZ,ZJ] (Qg Vn):=QE
abbrev A1:qe:=[ZZ,Ze,"whole"]
def WL:Qn A1 [ZZ,Ze] (Qg U1):=QE
abbrev Xf:qe:=[ZZ,Ze,ZH]
def GU:Qn Xf [ZZ,Ze,ZH] (Qg Uc):=QE
abbrev BO:qe:=[ZZ,Ze]
def AD:Qn BO [ZZ,Ze] (Qg Vm):=QE
abbrev Ac:qe:=[ZZ,"told",Ze,JW]
def Y3:Qn Ac [ZZ] (Qg UE):=QE
abbrev FU:qe:=[ZZ]
def DP:Qn FU [ZZ] (Qg WN):=QE
abbrev I9:qe:=[ZZ,ZJ,Zq,ZH]
def GQ:Qn I9 [ZZ,ZJ,Zq] (Qg Xv):=QE
abbrev AW:qe:=[ZZ,ZJ,Zq,ZH]
def Vi:Qn AW [ZZ,ZJ] (Qg UX):=QE
abbrev C8:qe:=[ZZ,ZH]
def BH:Qn C8 [ZZ,ZH] (Qg VG):=QE
abbrev AV:qe:=[ZZ]
def GP:Qn AV [ZZ] (Qg UW):=QE
abbrev AU:qe:=[ZZ,JX,"stamp","value",ZZn,"drawer"]
def Vh:Qn AU [ZZ,JX,"stamp","value"] (Qg UU):=QE
abbrev BM:qe:=[ZZ,JX,JY,"drawer"]
def W8:Qn BM [ZZ,JX,JY] (Qg Vk):=QE
abbrev K2:qe:=[ZZ,ZZn]
def X0:Qn K2 [ZZ,ZZn] (Qg Y4):=QE
abbrev C4:qe:=[ZZ]
def BE:Qn C4 [ZZ] (Qg VC):=QE
abbrev DY:qe:=[ZZ,ZJ,Zr]
def CH:Qn DY [ZZ,ZJ,Zr] (Qg Wa):=QE
abbrev Gp:qe:=[ZZ,ZJ,Zr]
def V4:Qn Gp [ZZ,ZJ] (Qg Um):=QE
abbrev BL:qe:=[ZZ]
def AA:Qn BL [ZZ] (Qg Vj):=QE
abbrev AS:qe:=[ZZ,ZJ,"near",Zr]
def Vg:Qn AS [ZZ,ZJ] (Qg UT):=QE
abbrev Xe:qe:=[ZZ,ZJ,"reached","waiting","here","near"]
def YQ:Qn Xe [ZZ,ZJ] (Qg Ub):=QE
abbrev Aa:qe:=[ZZ,"told","met",ZJ,"whole","near"]
def Ys:Qn Aa [ZZ] (Qg UC):=QE
abbrev FW:qe:=[ZZ]
def DQ:Qn FW [ZZ] (Qg WQ):=QE
abbrev FV:qe:=[ZZ,JD,JT]
def K7:Qn FV [ZZ,JD] (Qg WO):=QE
abbrev Xg:qe:=[ZZ,ZJ,Z7]
def WM:Qn Xg [ZZ,ZJ] (Qg YM):=QE
abbrev Ww:qe:=[ZZ,ZJ]
def K0:Qn Ww [ZZ,ZJ] (Qg YR):=QE
abbrev A3:qe:=[ZZ,ZJ]
def GW:Qn A3 [ZZ,ZJ] (Qg U2):=QE
abbrev De:qe:=[ZZ,JT,ZJ]
def XI:Qn De [ZZ,JT] (Qg VJ):=QE
abbrev D2:qe:=[ZZ]
def CJ:Qn D2 [ZZ] (Qg We):=QE
abbrev Ad:qe:=[ZZ,ZJ]
def Gj:Qn Ad [ZZ,ZJ] (Qg UG):=QE
abbrev FX:qe:=[ZZ,ZJ]
def DR:Qn FX [ZZ,ZJ] (Qg WR):=QE
set_option genInjectivity false in
structure yL where
 (vq iL uk iM uw kZ vb we um va wk my iK mv mr iI vK wg mu iG uo vp iD iF uv iH mx wh wj iE uu iJ xZ ur Qcf wo ve vd ke kh kc ky vf yz y0 yI xu ku yZ y9 xx xb y7 xw yJ vL wm yY ko yX yV xq yd x9 vc yy xo yU yT yH vN vM yh yA xc kA vg yK vO vF jd ze jY j5 ja zJ:qc)
structure Txt(K:Frag)(mg:qb->Option qd)(a:yL):Prop where
 tX:mg Jk=some (.ref a.vq)
 su:mg JE=some (.ref a.iL)
 oZ:mg Jv=some (.ref a.uk)
 sv:mg JF=some (.ref a.iM)
 QaL:mg Jw=some (.ref a.uw)
 rA:mg ZV=some (.ref a.kZ)
 rB:mg ZW=some (.ref a.vb)
 tS:mg Jl=some (.ref a.we)
 QaJ:mg Jx=some (.ref a.um)
 jk:mg ZX=some (.ref a.va)
 uX:mg Jm=some (.ref a.wk)
 Qca:mg JI=some (.ref a.my)
 Qbp:mg Z8=some (.ref a.iK)
 jj:mg Jn=some (.ref a.mv)
 pe:mg Jo=some (.ref a.mr)
 Qbn:mg Z9=some (.ref a.iI)
 me:mg ZK=some (.ref a.vK)
 vo:mg ZP=some (.ref a.wg)
 tU:mg Jp=some (.ref a.mu)
 wU:mg JZ=some (.ref a.iG)
 QaK:mg ZY=some (.ref a.uo)
 tV:mg ZI=some (.ref a.vp)
 Qbl:mg JJ=some (.ref a.iD)
 so:mg Ja=some (.ref a.iF)
 ly:mg Z0=some (.ref a.uv)
 sr:mg Jb=some (.ref a.iH)
 Qb9:mg Jq=some (.ref a.mx)
 tT:mg ZQ=some (.ref a.wh)
 tW:mg ZR=some (.ref a.wj)
 Qbm:mg Jc=some (.ref a.iE)
 pj:mg Z1=some (.ref a.uu)
 Qbo:mg Jd=some (.ref a.iJ)
 pf:mg ZD=some (.ref a.xZ)
 ph:mg Z2=some (.ref a.ur)
 sQ:∃u,mg ZZl=some u/\QN (.str JA) u
 Qab:∃u,mg ZZq=some u/\QN (.str ZG) u
 Qac:∃u,mg ZZr=some u/\QN (.int 20) u
 sR:∃u,mg ZZm=some u/\QN (.int 60) u
 Qad:∃u,mg ZZs=some u/\QN (.int 400) u
 QaN:∃u,mg "LAST_DAY"=some u/\QN (.int 9999) u
 Qdz:∃u,mg "SEEN"=some u/\QN (.str JO) u
 vI:mg "len"=none
 sU:mg "range"=none
 j3:mg "isinstance"=none
 sy:mg "str"=none
 Qak:mg "int"=none
 QdL:mg "bool"=none
 QaR:mg "list"=none
 QcN:mg "tuple"=none
 Qc0:mg "set"=none
 b_all:mg "all"=none
 jQ:mg "sorted"=none
 QcE:mg Je=some (.ref a.vF)
 uY:tJ K a.vF
 Qdx:Mk K a.vF a.wo
 i0:Yi K a.vF Z7
 lx:Yi K a.vF "box"
 ui:Yi K a.vF Jr
 sm:mg Zm=some (.ref a.jd)
 zH:tJ K a.jd
 tZ:Mk K a.jd a.ve
 lg:YZ K a.jd ZZk a.vd
 u3:YZ K a.jd ZZo a.ke
 pP:YZ K a.jd ZZp a.kh
 pO:YZ K a.jd Zq a.kc
 vA:Yi K a.jd Z4
 xU:Yi K a.jd Js
 kY:Yi K a.jd JC
 uh:Yi K a.jd JL
 yS:Yi K a.jd Zr
 jK:Yi K a.jd "found"
 QaI:mg Zb=some (.ref a.ze)
 q9:tJ K a.ze
 Qbs:Mk K a.ze a.ky
 rJ:YZ K a.ze JB a.vf
 lJ:YZ K a.ze Zo a.yz
 wX:YZ K a.ze ZZc a.y0
 wu:YZ K a.ze J0 a.yI
 oN:YZ K a.ze Zh a.xu
 pQ:YZ K a.ze Zd a.ku
 nM:YZ K a.ze ZZd a.yZ
 wY:YZ K a.ze Ze a.y9
 uK:YZ K a.ze ZM a.xx
 nO:YZ K a.ze JW a.xb
 nN:YZ K a.ze ZZe a.y7
 oO:YZ K a.ze Zl a.xw
 mF:YZ K a.ze J1 a.yJ
 z7:Yi K a.ze Zw
 jL:Yi K a.ze Jh
 zI:Yi K a.ze JG
 Qb7:mg Zx=some (.ref a.jY)
 jX:tJ K a.jY
 QcH:Mk K a.jY a.vL
 Qao:YZ K a.jY JB a.wm
 nK:YZ K a.jY Zo a.yY
 u7:YZ K a.jY ZZf a.ko
 j0:Yi K a.jY ZA
 jm:Yi K a.jY ZO
 sP:mg Zk=some (.ref a.j5)
 jC:tJ K a.j5
 tY:Mk K a.j5 a.yX
 nJ:YZ K a.j5 "keep" a.yV
 xA:YZ K a.j5 "get" a.xq
 iV:YZ K a.j5 J2 a.yd
 jA:Yi K a.j5 JK
 QaH:mg Zg=some (.ref a.ja)
 zS:tJ K a.ja
 Qbr:Mk K a.ja a.x9
 rH:YZ K a.ja JB a.vc
 lI:YZ K a.ja Zo a.yy
 uJ:YZ K a.ja Zl a.xo
 nI:YZ K a.ja ZZg a.yU
 nH:YZ K a.ja ZZh a.yT
 mE:YZ K a.ja J3 a.yH
 jl:Yi K a.ja ZT
 jx:Yi K a.ja ZS
 Qb8:mg Zi=some (.ref a.zJ)
 zp:tJ K a.zJ
 QcI:Mk K a.zJ a.vN
 sZ:YZ K a.zJ "show" a.vM
 nP:YZ K a.zJ JV a.yh
 lK:YZ K a.zJ JP a.yA
 wZ:YZ K a.zJ Zo a.xc
 pR:YZ K a.zJ ZZi a.kA
 lh:YZ K a.zJ Zl a.vg
 mG:YZ K a.zJ JR a.yK
 tf:YZ K a.zJ "card" a.vO
 j8:Yi K a.zJ Zv
 z8:Yi K a.zJ Zs
 xV:Yi K a.zJ Jt
 yQ:Yi K a.zJ Jy
 jf:Yi K a.zJ ZZJ
structure YC(K:Frag)(a:yL):Prop where
 Qaw:∃fd,zT K Jk Jk Wt a.vq fd/\Qr K fd [JS,Jr] []
 xI:∃fd,zT K JE JE GL a.iL fd/\Qr K fd [ZC] []
 vZ:∃fd,zT K Jv Jv W3 a.uk fd/\Qr K fd [JS] []
 ua:∃fd,zT K JF JF GN a.iM fd/\Qr K fd [ZC,"most"] []
 uD:∃fd,zT K Jw Jw Ky a.uw fd/\Qr K fd [ZC] []
 vh:∃fd,zT K ZV ZV V7 a.kZ fd/\Qr K fd [ZC] []
 vi:∃fd,zT K ZW ZW V9 a.vb fd/\Qr K fd [Z4,Js,JC,JL,Zr] []
 wx:∃fd,zT K Jl Jl Xq a.we fd/\Qr K fd [ZC] []
 uB:∃fd,zT K Jx Jx Kv a.um fd/\Qr K fd [JD] []
 qP:∃fd,zT K ZX ZX V8 a.va fd/\Qr K fd [ZJ,JQ] []
 jD:∃fd,zT K Jm Jm Xs a.wk fd/\Qr K fd [ZJ,JQ] []
 mN:∃fd,zT K JI JI BZ a.my fd/\Qr K fd [JT] []
 iR:∃fd,zT K Z8 Z8 GK a.iK fd/\Qr K fd [ZF] []
 zh:∃fd,zT K Jn Jn BX a.mv fd/\Qr K fd [Za] []
 kI:∃fd,zT K Jo Jo GG a.mr fd/\Qr K fd [Za,Z5,ZZZ] []
 iP:∃fd,zT K Z9 Z9 GI a.iI fd/\Qr K fd [Za,Jj] []
 j4:∃fd,zT K ZK ZK WK a.vK fd/\Qr K fd [Za,ZZa] []
 zY:∃fd,zT K ZP ZP Xr a.wg fd/\Qr K fd [Za,Zn] []
 iy:∃fd,zT K Jp Jp BW a.mu fd/\Qr K fd [Za,Zn] []
 yi:∃fd,zT K JZ JZ GH a.iG fd/\Qr K fd [Za,Zn,Jz] []
 uC:∃fd,zT K ZY ZY Kw a.uo fd/\Qr K fd [Za,Zn,Ju] []
 wA:∃fd,zT K ZI ZI Vv a.vp fd/\Qr K fd [Za,Zn,Ju] []
 iN:∃fd,zT K JJ JJ GF a.iD fd/\Qr K fd [Za,Jj] []
 xG:∃fd,zT K Ja Ja XX a.iF fd/\Qr K fd [Z3] []
 jM:∃fd,zT K Z0 Z0 Kx a.uv fd/\Qr K fd [Zj,ZE] []
 xH:∃fd,zT K Jb Jb XY a.iH fd/\Qr K fd [Zj,ZE] []
 mM:∃fd,zT K Jq Jq BY a.mx fd/\Qr K fd [Zc,JM,JN] []
 wz:∃fd,zT K ZQ ZQ Vu a.wh fd/\Qr K fd [Zc] []
 wB:∃fd,zT K ZR ZR Wo a.wj fd/\Qr K fd [Zc,Zj] []
 iO:∃fd,zT K Jc Jc XW a.iE fd/\Qr K fd [JH] []
 yR:∃fd,zT K Z1 Z1 W6 a.uu fd/\Qr K fd [Zc,Zz] []
 iQ:∃fd,zT K Jd Jd GJ a.iJ fd/\Qr K fd [Zu,Zc,Zj] []
 kJ:∃fd,zT K ZD ZD VB a.xZ fd/\Qr K fd [Zu,ZZb] []
 v3:∃fd,zT K Z2 Z2 W5 a.ur fd/\Qr K fd [Za,Zn,Zu,Z3] []
 F_law:∃fd,zT K ZZj ZZj aV a.Qcf fd/\Qr K fd [ZF] []
 iA:∃fd,Aq K Zf "Card.__init__" Xw a.wo fd/\Qr K fd [ZZ,Z7,Ze,ZM] []/\(∃ds,QK [.str Zp,.non] ds/\Qr K fd [ZZ,Z7,Ze,ZM] ds)/\(∃ds,QK [.non] ds/\Qr K fd [ZZ,Z7,Ze,ZM] ds)
 lu:∃fd,Aq K Zf "Letter.__init__" Wc a.ve fd/\Qr K fd [ZZ,Z4,Js,JC,JL,Zr] []/\(∃ds,QK [.str ""] ds/\Qr K fd [ZZ,Z4,Js,JC,JL,Zr] ds)
 yE:∃fd,zT K ZZk "Letter.twin" Wb a.vd fd/\Qr K fd [ZZ] []
 rf:∃fd,zT K ZZo "Letter.parts" VE a.ke fd/\Qr K fd [ZZ] []
 rh:∃fd,zT K ZZp "Letter.known" VF a.kh fd/\Qr K fd [ZZ] []
 rd:∃fd,zT K Zq "Letter.words" VD a.kc fd/\Qr K fd [ZZ] []
 rj:∃fd,zT K Zf "Folders.__init__" VI a.ky fd/\Qr K fd [ZZ] []
 rP:∃fd,Aq K JB "Folders.add" Wd a.vf fd/\Qr K fd [ZZ,ZJ,Ze,ZM] []/\(∃ds,QK [.str Zp,.non] ds/\Qr K fd [ZZ,ZJ,Ze,ZM] ds)/\(∃ds,QK [.non] ds/\Qr K fd [ZZ,ZJ,Ze,ZM] ds)
 lR:∃fd,zT K Zo "Folders.take_out" Uo a.yz fd/\Qr K fd [ZZ,ZJ] []
 ub:∃fd,zT K ZZc "Folders.put_in" UZ a.y0 fd/\Qr K fd [ZZ,ZJ,Ze] []
 wC:∃fd,zT K J0 "Folders.put_out" UD a.yI fd/\Qr K fd [ZZ,ZJ] []
 oR:∃fd,zT K Zh "Folders.place" Vl a.xu fd/\Qr K fd [ZZ,ZJ,Ze] []
 ri:∃fd,zT K Zd "Folders.mark" VH a.ku fd/\Qr K fd [ZZ,ZJ,ZH] []
 om:∃fd,zT K ZZd "Folders.unmark" UY a.yZ fd/\Qr K fd [ZZ,ZJ,ZH] []
 uc:∃fd,zT K Ze "Folders.folder" U0 a.y9 fd/\Qr K fd [ZZ,ZJ] []
 uN:∃fd,zT K ZM "Folders.marks" Vn a.xx fd/\Qr K fd [ZZ,ZJ] []
 ot:∃fd,zT K JW "Folders.counts" U1 a.xb fd/\Qr K fd [ZZ,Ze] []
 oq:∃fd,zT K ZZe "Folders.marked" Uc a.y7 fd/\Qr K fd [ZZ,Ze,ZH] []
 oS:∃fd,zT K Zl "Folders.names" Vm a.xw fd/\Qr K fd [ZZ,Ze] []
 mP:∃fd,zT K J1 "Folders.folders" UE a.yJ fd/\Qr K fd [ZZ] []
 tq:∃fd,zT K Zf "Index.__init__" WN a.vL fd/\Qr K fd [ZZ] []
 Qax:∃fd,zT K JB "Index.add" Xv a.wm fd/\Qr K fd [ZZ,ZJ,Zq] []
 oj:∃fd,zT K Zo "Index.take_out" UX a.yY fd/\Qr K fd [ZZ,ZJ] []
 iz:∃fd,zT K ZZf "Index.having" VG a.ko fd/\Qr K fd [ZZ,ZH] []
 oi:∃fd,zT K Zf "Registers.__init__" UW a.yX fd/\Qr K fd [ZZ] []
 og:∃fd,zT K "keep" "Registers.keep" UU a.yV fd/\Qr K fd [ZZ,JX,"stamp","value"] []
 uM:∃fd,Aq K "get" "Registers.get" Vk a.xq fd/\Qr K fd [ZZ,JX,JY] []/\(∃ds,QK [.non] ds/\Qr K fd [ZZ,JX,JY] ds)
 iY:∃fd,zT K J2 "Registers.keys_of" Y4 a.yd fd/\Qr K fd [ZZ,ZZn] []
 rb:∃fd,zT K Zf "Threads.__init__" VC a.x9 fd/\Qr K fd [ZZ] []
 rO:∃fd,Aq K JB "Threads.add" Wa a.vc fd/\Qr K fd [ZZ,ZJ,Zr] []/\(∃ds,QK [.str ""] ds/\Qr K fd [ZZ,ZJ,Zr] ds)
 lQ:∃fd,zT K Zo "Threads.take_out" Um a.yy fd/\Qr K fd [ZZ,ZJ] []
 uL:∃fd,zT K Zl "Threads.names" Vj a.xo fd/\Qr K fd [ZZ] []
 oe:∃fd,zT K ZZg "Threads.beside" UT a.yU fd/\Qr K fd [ZZ,ZJ] []
 n9:∃fd,zT K ZZh "Threads.thread" Ub a.yT fd/\Qr K fd [ZZ,ZJ] []
 mO:∃fd,zT K J3 "Threads.threads" UC a.yH fd/\Qr K fd [ZZ] []
 tw:∃fd,zT K Zf "Board.__init__" WQ a.vN fd/\Qr K fd [ZZ] []
 tr:∃fd,zT K "show" "Board.show" WO a.vM fd/\Qr K fd [ZZ,JD] []
 ou:∃fd,zT K JV "Board.bring_in" YM a.yh fd/\Qr K fd [ZZ,ZJ] []
 lS:∃fd,zT K JP "Board.marks_told" YR a.yA fd/\Qr K fd [ZZ,ZJ] []
 ud:∃fd,zT K Zo "Board.take_out" U2 a.xc fd/\Qr K fd [ZZ,ZJ] []
 rk:∃fd,zT K ZZi "Board.change" VJ a.kA fd/\Qr K fd [ZZ,JT] []
 rQ:∃fd,zT K Zl "Board.names" We a.vg fd/\Qr K fd [ZZ] []
 mQ:∃fd,zT K JR "Board.letter_at" UG a.yK fd/\Qr K fd [ZZ,ZJ] []
 tE:∃fd,zT K "card" "Board.card" WR a.vO fd/\Qr K fd [ZZ,ZJ] []
variable {P:Program}{w:World}{K:Frag}{mg:qb->Option qd}{base:Heap}{a:yL}{fd:FuncData}{i j n:Nat}{r:Rw}{M W WI k l0 ws xs ys:qe}{v:V}{bf mk:qb->qe}{an fo h m s t y:qb}{G H H':Hp}{B E L T1 b c db dx sc st u x xf xi xr xt:qc}{bs tg:qa (qb×qc)}{p:LD}{d:Dd}{F:qa qc}{o:HO}{bx rows:Rows}{R:NW}{kr kvs:qa (Key×V)}{z:Int}{D:WD}{es:qa Ent}{e:Ent}{kd:qa (qa Key×V)}{own:qc->Nat}{A:WA}{rs:qa Rw}
inductive HQ(vs:qa V)(H:Hp)(Q:VK)(E:XK):Prop
 |mk:∀(nm:qb)(L:qc)(kvs:qa (Key×V))(v:V),vs=[.str nm,.ref L]->H L=some (.dK kvs)->Qv kvs (Sum.inr nm)=some v->Q .non H->HQ vs H Q E
inductive RV(vs:qa V)(H:Hp)(Q:VK)(E:XK):Prop
 |mk:∀(nm:qb)(L:qc)(kvs:qa (Key×V)),vs=[.str nm,.ref L]->H L=some (.dK kvs)->Qv kvs (Sum.inr nm)=none->Q .non H->RV vs H Q E
def Oo :kitOne K (.type "str") (.type "str")=some true:=by unfold kitOne;rw[qG (yr _)]
def Uw(F:zT K ZX ZX V8 a.va fd)(T:Txt K mg a):QQ P w K mg base j6 1 a.va fd [ZJ,JQ] HQ:=by
 refine F.ok CF (λb A outer st H vs Q E c h=>?_)
 .obtain⟨nm,L,kvs,v,rfl,d,e,k⟩:=h;have f:=Q9 c;refine⟨_,(Qe (QU (UM (U8 f (pv 0) (pv 1))) (Qe VQ) QD)),?_⟩;refine⟨_,U,_,U,L,_,U,Q5.k (k:=Sum.inr nm) d,_,U,?_⟩;rw[e];exact QV k
def My(F:zT K Jm Jm Xs a.wk fd)(T:Txt K mg a):QQ P w K mg base j6 1 a.wk fd [ZJ,JQ] RV:=by
 refine F.ok Fu (λb A outer st H vs Q E c h=>?_)
 .obtain⟨nm,L,kvs,rfl,d,e,k⟩:=h;have f:=Q9 c;refine⟨_,(Qe (QU (PW.pt (XJ (UL (Uu (QC Y0 rfl T.j3 boot_isinstance (zg (pv 0) (zg (WS (v:=.ty "str") rfl T.sy boot_str rfl) Qf))))) (V0 (UM (Ka f (pv 0) (pv 1)))))) (Qe VQ) QD)),?_⟩;refine⟨_,U,_,_,_,_,_,U,U,WG.str nm,Oo,_,U,QV ?_⟩;refine⟨_,U,_,U,L,_,U,Q5.k (k:=Sum.inr nm) d,_,U,?_⟩;rw[e];exact QV k
section
variable {α:Type}
def dG(f:α->qb)(g:α->V)(xs:qa α):qa (Key×V):=xs.map λr=>(Sum.inr (f r),g r)
def Vr{f:α->qb}{g:α->V}{n:qb}:∀{xs:qa α},¬n∈xs.map f->Qv (dG f g xs) (Sum.inr n)=none
 |[],_=>rfl
 |r::xs,h=>by
  show Qv ((Sum.inr (f r),g r)::dG f g xs) (Sum.inr n)=_;rw[Yx λe=>h (by rw[<-jH e];exact qy)];exact Vr λz=>h (qH _ z)
def Q3{f:α->qb}{g:α->V}{r:α}:∀{xs:qa α},(xs.map f).Nodup->r∈xs->Qv (dG f g xs) (Sum.inr (f r))=some (g r)
 |[],_,h=>nomatch h
 |y::xs,a,h=>by
  rw[qU,zK] at a;show Qv ((Sum.inr (f y),g y)::dG f g xs) (Sum.inr (f r))=_;rcases qK.mp h with rfl|h
  .exact YA rfl
  .rw[Yx λe=>a.1 (by rw[jH e];exact qj.mpr ⟨r,h,U⟩)];exact Q3 a.2 h
def Bk{f:α->qb}{g:α->V}{xs:qa α}{n:qb}(r:α)(h:¬n∈xs.map f)(a:f r=n)(b:g r=v):Ye (dG f g xs) (Sum.inr n) v=dG f g (xs++[r]):=by
 rw[X6 _ (Vr h)];simp[dG,a,b]
def XE(f:α->qb)(g:α->V)(n:qb):∀xs:qa α,Uy (dG f g xs) (Sum.inr n)=dG f g (xs.filter λr=>decide (f r≠n))
 |[]=>rfl
 |r::xs=>by
  show Uy ((Sum.inr (f r),g r)::dG f g xs) (Sum.inr n)=_;by_cases h:f r=n
  .rw[Bh (by rw[h]),XE f g n xs];simp[qO,h]
  .rw[Bi (λe=>h (jH e)),XE f g n xs];simp[qO,h,dG]
def Gx(f:α->qb)(g:α->V)(xs:qa α):(dG f g xs).length=xs.length:=qh _
def Aj(f:α->qb)(g:α->V)(xs:qa α):(dG f g xs).map (λa=>kV a.1)=(xs.map f).map V.str:=by
 unfold dG;rw[qV,qV];rfl
end
def Us(bf:qb->qe)(w:qb)(ys:qe):qb->qe:=λt=>if t=w then ys else bf t
def Yn(bf:qb->qe)(w:qb)(ys:qe):Us bf w ys w=ys:=qG rfl
def YE{w:qb}(h:t≠w):Us bf w ys t=bf t:=qA h
abbrev vH(bs:qa (qb×qc)):qa (Key×V):=dG (·.1) (λb=>V.ref b.2) bs
structure BD(H:Hp)(E B:qc)(bs:qa (qb×qc))(bf:qb->qe)(W:qe):Prop where
 nd:(bs.map (·.1)).Nodup
 nda:(bs.map (·.2)).Nodup
 at_:∀p∈bs,H p.2=some (.dK (Qo (bf p.1)))/\p.2≠E/\p.2≠B/\bf p.1≠[]/\p.1∈W
 mR:∀t,¬t∈bs.map (·.1)->bf t=[]
def BD.len(h:BD H E B bs bf W):bs.length<=W.length:=by
 have:=YS h.nd λm hm=>by
  obtain⟨p,a,rfl⟩:=qj.mp hm;exact(h.at_ p a).2.2.2.2
 rw[qh] at this;exact this
def BD.congr{a:qb->qe}(h:BD H E B bs bf W)(k:∀p∈bs,∀o,H p.2=some o->H' p.2=some o)(e:∀t,a t=bf t):BD H' E B bs a W:=
 ⟨h.nd,h.nda,λp b=>by rw[e];exact⟨k p b _ (h.at_ p b).1,(h.at_ p b).2⟩,λt c=>by rw[e];exact h.mR t c⟩
def Wx{α β:Type}{f:α->β}{xs:qa α}(g:(xs.map f).Nodup){a b:α}(h:a∈xs)(i:b∈xs)(e:f a=f b):a=b:=by
 induction xs with
 |nil=>cases h
 |cons x xs j=>
  rw[qU,zK] at g;rcases qK.mp h with d|d
  .rcases qK.mp i with c|c
   .rw[d,c]
   .exact absurd (qj.mpr ⟨b,c,by rw[<-e,d]⟩) g.1
  .rcases qK.mp i with c|c
   .exact absurd (qj.mpr ⟨a,d,by rw[e,c]⟩) g.1
   .exact j g.2 d c
def YT{α:Type}{xs:qa α}{a:α}(h:xs.Nodup)(n:¬a∈xs):(xs++[a]).Nodup:=by
 rw[zW];exact⟨h,v9 _ _,λx b y c e=>n (by rw[qk.mp c] at e;rw[<-e];exact b)⟩
def BD.new{p:qc}{w:qb}(h:BD H E B bs bf W)(hw:¬w∈bs.map (·.1))(b:¬p∈bs.map (·.2))(c:p≠E)(d:p≠B)(f:w∈W)(g:ys≠[])
 (k:∀q∈bs,∀o,H q.2=some o->H' q.2=some o) (e:H' p=some (.dK (Qo ys))):BD H' E B (bs++[(w,p)]) (Us bf w ys) W:=by
 refine⟨by rw[qJ];exact YT h.nd hw,by rw[qJ];exact YT h.nda b,λq i=>?_,λt a=>?_⟩
 .rcases qt.mp i with z|z
  .rw[YE (λe=>hw (by rw[<-e];exact qj.mpr ⟨q,z,U⟩))];exact⟨k q z _ (h.at_ q z).1,(h.at_ q z).2⟩
  .rw[qk.mp z];show H' p=some (.dK (Qo (Us bf w ys w)))/\p≠E/\p≠B/\Us bf w ys w≠[]/\w∈W;rw[Yn];exact⟨e,c,d,g,f⟩
 .rw[qJ] at a;rw[YE (λe=>a (qx _ (by rw[e];exact qy)))];exact h.mR t λz=>a (qC _ z)
def BD.set{d:qc}{w:qb}(h:BD H E B bs bf W)(hw:(w,d)∈bs)(c:ys≠[])
 (k:∀q∈bs,q.2≠d->∀o,H q.2=some o->H' q.2=some o) (e:H' d=some (.dK (Qo ys))):BD H' E B bs (Us bf w ys) W:=by
 refine⟨h.nd,h.nda,λq a=>?_,λt b=>?_⟩
 .by_cases z:q.1=w
  .have eq:q=(w,d):=Wx h.nd a hw z;rw[eq];show H' d=some (.dK (Qo (Us bf w ys w)))/\d≠E/\d≠B/\Us bf w ys w≠[]/\w∈W;rw[Yn];have:=h.at_ _ hw;exact⟨e,this.2.1,this.2.2.1,c,this.2.2.2.2⟩
  .rw[YE z];refine⟨k q a (λu=>z ?_) _ (h.at_ q a).1,(h.at_ q a).2⟩;have:q=(w,d):=Wx h.nda a hw u;rw[this]
 .rw[YE (λe=>b (by rw[e];exact qj.mpr ⟨_,hw,U⟩))];exact h.mR t b
def BD.del{d:qc}{w:qb}(h:BD H E B bs bf W)(hw:(w,d)∈bs)
 (k:∀q∈bs,q.2≠d->∀o,H q.2=some o->H' q.2=some o):BD H' E B (bs.filter λr=>decide (r.1≠w)) (Us bf w []) W:=by
 refine⟨h.nd.sublist (zF.map _),h.nda.sublist (zF.map _),λq b=>?_,λt c=>?_⟩
 .obtain⟨a,f⟩:=qr.mp b;have z:q.1≠w:=qo f;rw[YE z];refine⟨k q a (λu=>z ?_) _ (h.at_ q a).1,(h.at_ q a).2⟩;have:q=(w,d):=Wx h.nda a hw u;rw[this]
 .by_cases e:t=w
  .rw[e,Yn]
  .rw[YE e];refine h.mR t λz=>c ?_;obtain⟨q,b,rfl⟩:=qj.mp z;exact qj.mpr ⟨q,qr.mpr ⟨b,qu e⟩,U⟩
def Y8{w:qb}(h:w∈bs.map (·.1)):∃d,(w,d)∈bs:=by
 obtain⟨p,a,rfl⟩:=qj.mp h;exact⟨p.2,a⟩
def lW(F:qa qc)(H H':Hp):Prop:=∀c o,¬c∈F->H c=some o->H' c=some o
def lW.upd{H1:Hp}(k:lW F H H1)(h:b∈F\/H b=none):lW F H (upd H1 b o):=λc u hc e=>by
 have:c≠b:=λz=>h.elim (λq=>hc (by rw[z];exact q)) λq=>by rw[z,q] at e;cases e
 rw[Qa this];exact k c u hc e
def MW{a:HO}(e:H b=some o)(h:(upd H b a) c=none):H c=none:=by
 by_cases z:c=b
 .rw[z,Qc] at h;cases h
 .rw[Qa z] at h;exact h
structure FI(H:Hp)(X1 N1:qc)(bx:Rows)(bs:qa (qb×qc))(W:qe):Prop where
 sS:H X1=some (.dK (QR bx))
 br:H N1=some (.dK (vH bs))
 ne:X1≠N1
 nd:(bx.map (·.1)).Nodup
 few:bx.length<=40
 wf:W.length<=20
 bd:BD H X1 N1 bs (QO bx) W
def iC(a b:qc)(bs:qa (qb×qc)):qa qc:=a::b::bs.map (·.2)
def QM{a b:qc} :c∈iC a b bs↔c=a\/c=b\/c∈bs.map (·.2):=by unfold iC;rw[qK,qK]
structure FT(H:Hp)(T1:qc)(tg:qa (qb×qc))(mk:qb->qe)(M:qe):Prop where
 t_:H T1=some (.dK (vH tg))
 nd:(tg.map (·.1)).Nodup
 nda:(tg.map (·.2)).Nodup
 at_:∀p∈tg,H p.2=some (.dK (Qo (mk p.1)))/\p.2≠T1/\(mk p.1).Nodup/\∀y∈mk p.1,y∈M
 few:tg.length<=40
 mf:M.length<=20
def rm(T1:qc)(tg:qa (qb×qc)):qa qc:=T1::tg.map (·.2)
def Yh  :c∈rm T1 tg↔c=T1\/c∈tg.map (·.2):=by unfold rm;rw[qK]
abbrev XM(a T1 b:qc):qa (qb×V):=[(Zw,.ref a),(Jh,.ref T1),(JG,.ref b)]
def UQ(a T1 b:qc):(XM a T1 b).lookup Zw=some (V.ref a):=by simp[List.lookup]
def Wz(a T1 b:qc):(XM a T1 b).lookup Jh=some (V.ref T1):=by
 have e:(Jh==Zw)=false:=by decide +kernel
 simp[List.lookup,e]
def Ug(b T1 a:qc):(XM b T1 a).lookup JG=some (V.ref a):=by
 have e:(JG==Zw)=false:=by decide +kernel
 have c:(JG==Jh)=false:=by decide +kernel
 simp[List.lookup,e,c]
def FI.keep{a b:qc}(h:FI H a b bx bs W)(k:∀c o,c∈iC a b bs->H c=some o->H' c=some o):FI H' a b bx bs W:=
 ⟨k _ _ (QM.mpr (.inl rfl)) h.sS,k _ _ (QM.mpr (.inr (.inl rfl))) h.br,h.ne,h.nd,h.few,h.wf,h.bd.congr (λp d o e=>k _ _ (QM.mpr (.inr (.inr (qj.mpr ⟨p,d,U⟩)))) e) λ_=>rfl⟩
def FT.keep(h:FT H T1 tg mk M)(k:∀c o,c∈rm T1 tg->H c=some o->H' c=some o):FT H' T1 tg mk M:=
 ⟨k _ _ (Yh.mpr (.inl rfl)) h.t_,h.nd,h.nda,λp a=>⟨k _ _ (Yh.mpr (.inr (qj.mpr ⟨p,a,U⟩))) (h.at_ p a).1,(h.at_ p a).2⟩,h.few,h.mf⟩
def FI.kind{a b:qc}(h:FI H a b bx bs W)(hc:c∈iC a b bs):∃kvs,H c=some (.dK kvs):=by
 rcases QM.mp hc with z|z|z
 .rw[z];exact⟨_,h.sS⟩
 .rw[z];exact⟨_,h.br⟩
 .obtain⟨p,d,rfl⟩:=qj.mp z;exact⟨_,(h.bd.at_ p d).1⟩
def FT.kind(h:FT H T1 tg mk M)(hc:c∈rm T1 tg):∃kvs,H c=some (.dK kvs):=by
 rcases Yh.mp hc with z|z
 .rw[z];exact⟨_,h.t_⟩
 .obtain⟨p,a,rfl⟩:=qj.mp z;exact⟨_,(h.at_ p a).1⟩
inductive Nx(a:yL)(vs:qa V)(H:Hp)(Q:VK)(E:XK):Prop
 |mk:∀(x dx X1 T1 N1:qc)(bx:Rows)(bs:qa (qb×qc))(W:qe)(nm fo:qb),vs=[.ref x,.str nm,.str fo]->H x=some (.ins a.ze dx (XM X1 T1 N1))->FI H X1 N1 bx bs W->up bx nm=none->bx.length<40->fo∈W->(∀H' bs',FI H' X1 N1 (bx++[(nm,fo)]) bs' W->lW (iC X1 N1 bs) H H'->(∀q∈bs',q∈bs\/H q.2=none)->Q .non H')->Nx a vs H Q E
inductive HU(a:yL)(vs:qa V)(H:Hp)(Q:VK)(E:XK):Prop
 |mk:∀(x dx X1 T1 N1:qc)(bx:Rows)(bs:qa (qb×qc))(W:qe)(nm fo:qb),vs=[.ref x,.str nm]->H x=some (.ins a.ze dx (XM X1 T1 N1))->FI H X1 N1 bx bs W->up bx nm=some fo->(∀H' bs',FI H' X1 N1 (without bx nm) bs' W->lW (iC X1 N1 bs) H H'->(∀q∈bs',q∈bs)->(∀c,H' c=none->H c=none)->Q .non H')->HU a vs H Q E
def IL(F:zT K ZZc "Folders.put_in" UZ a.y0 fd)(T:Txt K mg a):QQ P w K mg base j6 1 a.y0 fd [ZZ,ZJ,Ze] (Nx a):=by
 refine F.ok GS (λcdv A outer st H vs Q E hr h=>?_)
 .obtain⟨x,dx,b,T1,g,bx,bs,W,nm,fo,rfl,obj,m,C,h40,N,k⟩:=h;have D:=Q9 hr;have hwf:=m.wf;have hbl:=m.bd.len;refine⟨_,(Qd (Yp D (Qk (pv 0) U) (pv 1) (pv 2) U)
   (Qd (QU (UM (U8 D (pv 2) (Qk (pv 0) U))) (Qe (Yp D (Qk (pv 0) U) (pv 2) Yc rfl)) QD)
   (Qe (Yp D (Qz D (Qk (pv 0) U) (pv 2)) (pv 1) YX rfl)))),?_⟩
  refine⟨_,U,_,U,x,_,dx,_,_,U,obj,T.q9,T.z7,UQ b T1 g,_,U,b,_,U,UN.k (k:=Sum.inr nm) m.sS (by rw[QR,qh];exact QF (by omega)),?_⟩;rw[IC C];have O:b∈iC b g bs:=QM.mpr (.inl rfl);have R:g∈iC b g bs:=QM.mpr (.inr (.inl rfl));have xX:x≠b:=Q4 obj m.sS λz=>nomatch z;have f:(upd H b (.dK (QR (bx++[(nm,fo)])))) x=some (.ins a.ze dx (XM b T1 g)):=by rw[Qa xX];exact obj
  have u:(upd H b (.dK (QR (bx++[(nm,fo)])))) b=some (.dK (QR (bx++[(nm,fo)]))):=Qc;have l:(upd H b (.dK (QR (bx++[(nm,fo)])))) g=some (.dK (vH bs)):=by rw[Qa m.ne.symm];exact m.br
  have i:BD (upd H b (.dK (QR (bx++[(nm,fo)])))) b g bs (QO bx) W:=m.bd.congr (λq s o e=>by rw[Qa (m.bd.at_ q s).2.1];exact e) λ_=>rfl;have v:lW (iC b g bs) H (upd H b (.dK (QR (bx++[(nm,fo)])))):=lW.upd (λc o _ e=>e) (.inl O);show Ua _ _ _ _ (upd H b (.dK (QR (bx++[(nm,fo)]))));generalize upd H b (.dK (QR (bx++[(nm,fo)])))=S at f u l i v;have G:((bx++[(nm,fo)]).map (·.1)).Nodup:=NR m.nd C;have B:(bx++[(nm,fo)]).length<=40:=by rw[qz,qS];omega
  have I:∀t,QO (bx++[(nm,fo)]) t=Us (QO bx) fo (QO bx fo++[nm]) t:=λt=>by
   rw[AG];by_cases e:t=fo
   .subst e;rw[qG rfl,Yn]
   .rw[qA λz=>e z.symm,zU,YE e]
  refine⟨_,U,_,U,x,_,dx,_,_,U,f,T.q9,T.zI,Ug b T1 g,g,_,U,Q5.k (k:=Sum.inr fo) l,_,U,?_⟩;by_cases n:fo∈bs.map (·.1)
  .obtain⟨d,hd⟩:=Y8 n;have y:Qv (vH bs) (Sum.inr fo)=some (V.ref d):=Q3 (r:=((fo,d):qb×qc)) i.nd hd;obtain⟨J,L,M,_,_⟩:=i.at_ _ hd;have J:S d=some (.dK (Qo (QO bx fo))):=J;have X:=X4 bx fo;rw[y];have j:¬nm∈QO bx fo:=λz=>VA.mp C (W9 z);refine QV ⟨_,U,x,_,dx,_,_,U,f,T.q9,T.zI,Ug b T1 g,_,U,g,_,U,(by rw[<-y];exact Q5.k (k:=Sum.inr fo) l),_,U,d,_,U,UN.k (k:=Sum.inr nm) J (by rw[Qo,qh];exact QF (by omega)),?_⟩;rw[X5 j];exact k _ bs ⟨by rw[Qa L.symm];exact u,by rw[Qa M.symm];exact l,m.ne,G,B,m.wf,(i.set hd (by simp) (λq _ ne o e=>by rw[Qa ne];exact e) Qc).congr (λ_ _ _ e=>e) I⟩ (v.upd (.inl (QM.mpr (.inr (.inr (qj.mpr ⟨_,hd,U⟩)))))) λq s=>.inl s
  .have y:Qv (vH bs) (Sum.inr fo)=none:=Vr n;rw[y];refine Yj ?_;intro d j;have xd:x≠d:=Qb f j;have M:b≠d:=Qb u j;have J:g≠d:=Qb l j;have xB:x≠g:=Q4 f l λz=>nomatch z;have X:H d=none:=by
    cases e:H d with
    |none=>rfl
    |some o=>
     by_cases L:d∈iC b g bs
     .rcases QM.mp L with z|z|z
      .exact absurd z.symm M
      .exact absurd z.symm J
      .obtain⟨q,s,eq⟩:=qj.mp z;have:=(i.at_ q s).1;rw[eq,j] at this;cases this
     .have:=v d o L e;rw[j] at this;cases this
   refine⟨_,U,x,_,dx,_,_,U,(by rw[Qa xd];exact f),T.q9,T.zI,Ug b T1 g,_,U,g,_,U,UN.k (k:=Sum.inr fo) (by rw[Qa J];exact l) (by rw[Gx];exact QF (by omega)),?_⟩;rw[Bk ((fo,d):qb×qc) n rfl rfl];have L:((bs++[((fo,d):qb×qc)]).map (·.1)).Nodup:=by rw[qJ];exact YT i.nd n
   have Y:Qv (vH (bs++[((fo,d):qb×qc)])) (Sum.inr fo)=some (V.ref d):=Q3 (r:=((fo,d):qb×qc)) L (qx _ qy);have Z:(upd (upd S d (.dK [])) g (.dK (vH (bs++[((fo,d):qb×qc)])))) g=some (.dK (vH (bs++[((fo,d):qb×qc)]))):=Qc;have d5:(upd (upd S d (.dK [])) g (.dK (vH (bs++[((fo,d):qb×qc)])))) d=some (.dK []):=by rw[Qa J.symm];exact Qc
   refine⟨_,U,x,_,dx,_,_,U,(by rw[Qa xB,Qa xd];exact f),T.q9,T.zI,Ug b T1 g,_,U,g,_,U,(by rw[<-Y];exact Q5.k (k:=Sum.inr fo) Z),_,U,d,_,U,UN.k (k:=Sum.inr nm) d5 (by decide),?_⟩;have ek:Ye ([]:qa (Key×V)) (Sum.inr nm) (.bl true)=Qo [nm]:=rfl;rw[ek];have e0:QO bx fo=[]:=i.mR fo n;refine k _ (bs++[((fo,d):qb×qc)]) ⟨by rw[Qa M,Qa m.ne,Qa M];exact u,by rw[Qa J];exact Qc,m.ne,G,B,m.wf,?_⟩ (((v.upd (.inr X)).upd (.inl R)).upd (.inr X)) λq s=>?_
   .refine(i.new (p:=d) (ys:=QO bx fo++[nm]) n (λz=>?_) M.symm J.symm N (by simp) (λq s o e=>?_) ?_).congr (λ_ _ _ e=>e) I
    .obtain⟨q,s,eq⟩:=qj.mp z;have:=(i.at_ q s).1;rw[eq,j] at this;cases this
    .rw[Qa (Qb e j),Qa (i.at_ q s).2.2.1,Qa (Qb e j)];exact e
    .rw[e0,Qc];rfl
   .rcases qt.mp s with z|z
    .exact .inl z
    .rw[qk.mp z];exact .inr X
def EC(F:zT K J0 "Folders.put_out" UD a.yI fd)(T:Txt K mg a):QQ P w K mg base j6 1 a.yI fd [ZZ,ZJ] (HU a):=by
 refine F.ok Ws (λcdv A outer st H vs Q E hr h=>?_)
 .obtain⟨x,dx,b,T1,f,bx,bs,W,nm,fo,rfl,obj,g,X,k⟩:=h;have hu:=Q9 hr;refine⟨_,(Qd (Qs (i:=2) Ws.nd (UP (Qk (pv 0) U) (pv 1) ⟨U,U,U,U⟩))
   (Qd (Qy (UP (Qz hu (Qk (pv 0) U) (pv 2)) (pv 1) ⟨U,U,U,U⟩))
   (Qe (QU (UL (CM (Qz hu (Qk (pv 0) U) (pv 2)) (λ_=>rfl))) (Qe (Qy (UP (Qk (pv 0) U) (pv 2) ⟨U,U,U,U⟩))) QD)))),?_⟩
  refine⟨_,U,x,_,dx,_,_,U,obj,T.q9,T.z7,UQ b T1 f,b,U,.inl ⟨_,.inl g.sS⟩,_,U,_,Sum.inr nm,.str fo,g.sS,U,(by rw[Yz,X];rfl),?_⟩;rw[KR];have Y:b∈iC b f bs:=QM.mpr (.inl rfl);have Z:f∈iC b f bs:=QM.mpr (.inr (.inl rfl));have xX:x≠b:=Q4 obj g.sS λz=>nomatch z;have n:(upd H b (.dK (QR (without bx nm)))) x=some (.ins a.ze dx (XM b T1 f)):=by rw[Qa xX];exact obj
  have M:(upd H b (.dK (QR (without bx nm)))) b=some (.dK (QR (without bx nm))):=Qc;have v:(upd H b (.dK (QR (without bx nm)))) f=some (.dK (vH bs)):=by rw[Qa g.ne.symm];exact g.br
  have j:BD (upd H b (.dK (QR (without bx nm)))) b f bs (QO bx) W:=g.bd.congr (λq u o e=>by rw[Qa (g.bd.at_ q u).2.1];exact e) λ_=>rfl;have N:lW (iC b f bs) H (upd H b (.dK (QR (without bx nm)))):=lW.upd (λc o _ e=>e) (.inl Y);show Ua _ _ _ _ (upd H b (.dK (QR (without bx nm))));have O:∀c,(upd H b (.dK (QR (without bx nm)))) c=none->H c=none:=λc e=>MW g.sS e;generalize upd H b (.dK (QR (without bx nm)))=s at n M v j N O;have y:nm∈QO bx fo:=Hl X;have hyb:fo∈bs.map (·.1):=vG λz=>by
   have:=j.mR fo z;rw[this] at y;cases y
  obtain⟨d,hd⟩:=Y8 hyb;have B:Qv (vH bs) (Sum.inr fo)=some (V.ref d):=Q3 (r:=((fo,d):qb×qc)) j.nd hd;obtain⟨L,dE,dB,_,_⟩:=j.at_ _ hd;have L:s d=some (.dK (Qo (QO bx fo))):=L;have xd:x≠d:=Q4 n L λz=>nomatch z;have hdF:d∈iC b f bs:=QM.mpr (.inr (.inr (qj.mpr ⟨_,hd,U⟩)));have wl:(without bx nm).length<=bx.length:=qY _ _;have hfew:=g.few;have R:∀t,QO (without bx nm) t=Us (QO bx) fo ((QO bx fo).filter λm=>decide (m≠nm)) t:=λt=>by
   rw[Wf];by_cases e:t=fo
   .subst e;rw[Yn]
   .rw[YE e];exact Gs (IZ g.nd X e)
  refine⟨_,U,x,_,dx,_,_,U,n,T.q9,T.zI,Ug b T1 f,_,U,f,_,U,(by rw[<-B];exact Q5.k (k:=Sum.inr fo) v),d,U,.inl ⟨_,.inl L⟩,_,U,_,Sum.inr nm,.bl true,L,U,(by rw[Vc,qG y]),?_⟩;rw[Wn];have p:(upd s d (.dK (Qo ((QO bx fo).filter λm=>decide (m≠nm))))) x=some (.ins a.ze dx (XM b T1 f)):=by rw[Qa xd];exact n
  have C:(upd s d (.dK (Qo ((QO bx fo).filter λm=>decide (m≠nm))))) b=some (.dK (QR (without bx nm))):=by rw[Qa dE.symm];exact M
  have l:(upd s d (.dK (Qo ((QO bx fo).filter λm=>decide (m≠nm))))) f=some (.dK (vH bs)):=by rw[Qa dB.symm];exact v
  have S:(upd s d (.dK (Qo ((QO bx fo).filter λm=>decide (m≠nm))))) d=some (.dK (Qo ((QO bx fo).filter λm=>decide (m≠nm)))):=Qc;have D:lW (iC b f bs) H (upd s d (.dK (Qo ((QO bx fo).filter λm=>decide (m≠nm))))):=N.upd (.inl hdF);have G:∀q∈bs,q.2≠d->∀o,s q.2=some o->(upd s d (.dK (Qo ((QO bx fo).filter λm=>decide (m≠nm))))) q.2=some o:=λq _ ne o e=>by rw[Qa ne];exact e
  show Ua _ _ _ _ (upd s d (.dK (Qo ((QO bx fo).filter λm=>decide (m≠nm)))));have I:∀c,(upd s d (.dK (Qo ((QO bx fo).filter λm=>decide (m≠nm))))) c=none->H c=none:=λc e=>O c (MW L e);generalize upd s d (.dK (Qo ((QO bx fo).filter λm=>decide (m≠nm))))=H5 at p C l S D G I;refine⟨_,U,x,_,dx,_,_,U,p,T.q9,T.zI,Ug b T1 f,_,U,f,.ref d,U,(by rw[<-B];exact Q5.k (k:=Sum.inr fo) l),!(Qo ((QO bx fo).filter λm=>decide (m≠nm))).isEmpty,Or.inr (Or.inr ⟨_,S,U⟩),?_⟩
  cases J:(QO bx fo).filter λm=>decide (m≠nm) with
  |cons z zs=>
   rw[J] at S;refine QV (k H5 bs ⟨C,l,g.ne,Xm g.nd,by omega,g.wf,(j.set hd (ys:=z::zs) (by simp) G S).congr (λ_ _ _ e=>e) λt=>?_⟩ D (λq u=>u) I);rw[R,J]
  |nil=>
   have xB:x≠f:=Q4 p l λz=>nomatch z;refine Yj ⟨_,U,x,_,dx,_,_,U,p,T.q9,T.zI,Ug b T1 f,f,U,.inl ⟨_,.inl l⟩,_,U,_,Sum.inr fo,.ref d,l,U,B,?_⟩;rw[XE];refine k _ (bs.filter λr=>decide (r.1≠fo)) ⟨by rw[Qa g.ne];exact C,Qc,g.ne,Xm g.nd,by omega,g.wf,(j.del hd λq u ne o e=>?_).congr (λ_ _ _ e=>e) λt=>?_⟩ (D.upd (.inl Z)) (λq u=>(qr.mp u).1) λc e=>I c (MW l e)
   .rw[Qa (j.at_ q u).2.2.1];exact G q u ne o e
   .rw[R,J]
def Dg{α:Type}{f:α->qb}{l:qa α}{n:qb}:m∈(l.filter λr=>decide (f r≠n)).map f↔m∈l.map f/\m≠n:=by
 rw[qj,qj];constructor
 .rintro⟨r,a,rfl⟩;exact⟨⟨r,(qr.mp a).1,U⟩,qo (qr.mp a).2⟩
 .rintro⟨⟨r,a,rfl⟩,b⟩;exact⟨r,qr.mpr ⟨a,qu b⟩,U⟩
def FT.new{p:qc}{nm:qb}(h:FT H T1 tg mk M)(a:¬nm∈tg.map (·.1))(b:¬p∈tg.map (·.2))(c:p≠T1)(few:tg.length<40)(d:ys.Nodup)(f:∀y∈ys,y∈M)
 (k:∀q∈tg,∀o,H q.2=some o->H' q.2=some o) (e:H' p=some (.dK (Qo ys))) (g:H' T1=some (.dK (vH (tg++[((nm,p):qb×qc)])))):FT H' T1 (tg++[((nm,p):qb×qc)]) (Us mk nm ys) M:=by
 refine⟨g,by rw[qJ];exact YT h.nd a,by rw[qJ];exact YT h.nda b,λq i=>?_,by rw[qz,qS];omega,h.mf⟩;rcases qt.mp i with z|z
 .rw[YE (λe=>a (by rw[<-e];exact qj.mpr ⟨q,z,U⟩))];exact⟨k q z _ (h.at_ q z).1,(h.at_ q z).2⟩
 .rw[qk.mp z];show H' p=some (.dK (Qo (Us mk nm ys nm)))/\p≠T1/\(Us mk nm ys nm).Nodup/\∀y∈Us mk nm ys nm,y∈M;rw[Yn];exact⟨e,c,d,f⟩
def FT.set{d:qc}{nm:qb}(h:FT H T1 tg mk M)(hw:(nm,d)∈tg)(b:ys.Nodup)(c:∀y∈ys,y∈M)
 (k:∀q∈tg,q.2≠d->∀o,H q.2=some o->H' q.2=some o) (e:H' d=some (.dK (Qo ys))) (f:H' T1=some (.dK (vH tg))):FT H' T1 tg (Us mk nm ys) M:=by
 refine⟨f,h.nd,h.nda,λq a=>?_,h.few,h.mf⟩;by_cases z:q.1=nm
 .have eq:q=(nm,d):=Wx h.nd a hw z;rw[eq];show H' d=some (.dK (Qo (Us mk nm ys nm)))/\d≠T1/\(Us mk nm ys nm).Nodup/\∀y∈Us mk nm ys nm,y∈M;rw[Yn];exact⟨e,(h.at_ _ hw).2.1,b,c⟩
 .rw[YE z];refine⟨k q a (λu=>z ?_) _ (h.at_ q a).1,(h.at_ q a).2⟩;have:q=(nm,d):=Wx h.nda a hw u;rw[this]
def FT.del(h:FT H T1 tg mk M)(nm:qb)(k:∀q∈tg,∀o,H q.2=some o->H' q.2=some o)(b:H' T1=some (.dK (vH (tg.filter λr=>decide (r.1≠nm))))):FT H' T1 (tg.filter λr=>decide (r.1≠nm)) mk M:=
 ⟨b,h.nd.sublist (zF.map _),h.nda.sublist (zF.map _),λq a=>⟨k q (qr.mp a).1 _ (h.at_ q (qr.mp a).1).1,(h.at_ q (qr.mp a).1).2⟩,zu (qY _ _) h.few,h.mf⟩
def FT.congr{mk':qb->qe}(h:FT H T1 tg mk M)(e:∀t,mk' t=mk t):FT H T1 tg mk' M:=⟨h.t_,h.nd,h.nda,λq a=>by rw[e];exact h.at_ q a,h.few,h.mf⟩
def FT.len(h:FT H T1 tg mk M){p:qb×qc}(a:p∈tg):(mk p.1).length<=20:=zu (YS (h.at_ p a).2.2.1 (h.at_ p a).2.2.2) h.mf
def FO(a:yL)(H:Hp)(x:qc)(bx:Rows)(mk:qb->qe)(W M:qe)(n:Nat)(F:qa qc):Prop:=∃dx b T1 d bs tg,H x=some (.ins a.ze dx (XM b T1 d))/\FI H b d bx bs W/\FT H T1 tg mk M/\(∀c∈iC b d bs,¬c∈rm T1 tg)/\(∀m,m∈tg.map (·.1)↔m∈bx.map (·.1))/\bx.length<=n/\F=iC b d bs++rm T1 tg
section
variable {a:yL}{H H':Hp}{x:qc}{bx:Rows}{mk:qb->qe}{W M:qe}{n:Nat}{F:qa qc}
def FO.keep(h:FO a H x bx mk W M n F)(k:∀c o,(c=x\/c∈F)->H c=some o->H' c=some o):FO a H' x bx mk W M n F:=by
 obtain⟨dx,b,T1,d,bs,tg,obj,f,g,i,nm,l,rfl⟩:=h;exact⟨dx,b,T1,d,bs,tg,k _ _ (.inl rfl) obj,f.keep λc o hc e=>k c o (.inr (qC _ hc)) e,g.keep λc o hc e=>k c o (.inr (qx _ hc)) e,i,nm,l,U⟩
def FO.same(h:FO a H x bx mk W M n F)(s:Qj H H'):FO a H' x bx mk W M n F:=h.keep λc o _ e=>s c o e
def FO.up(h:FO a H x bx mk W M n F):FO a H x bx mk W M (n+1) F:=by
 obtain⟨dx,b,T1,c,bs,tg,obj,d,f,g,nm,l,e⟩:=h;exact⟨dx,b,T1,c,bs,tg,obj,d,f,g,nm,by omega,e⟩
def FO.kind(h:FO a H x bx mk W M n F)(hc:c∈F):∃kvs,H c=some (.dK kvs):=by
 obtain⟨dx,e,T1,f,bs,tg,obj,b,d,g,nm,l,rfl⟩:=h;rcases qt.mp hc with z|z
 .exact b.kind z
 .exact d.kind z
def FO.obj(h:FO a H x bx mk W M n F):∃dx b T1 c,H x=some (.ins a.ze dx (XM b T1 c)):=let ⟨dx,b,T1,c,_,_,e,_⟩:=h;⟨dx,b,T1,c,e⟩
def FO.Qb6(h:FO a H x bx mk W M n F){nm:qb}(c:nm∈bx.map (·.1)):(mk nm).Nodup/\(∀y∈mk nm,y∈M)/\(mk nm).length<=20:=by
 obtain⟨dx,e,T1,f,bs,tg,obj,g,b,i,nn,l,rfl⟩:=h;obtain⟨d,hd⟩:=Y8 ((nn nm).mpr c);exact⟨(b.at_ _ hd).2.2.1,(b.at_ _ hd).2.2.2,b.len hd⟩
end
inductive NJ(a:yL)(vs:qa V)(H:Hp)(Q:VK)(E:XK):Prop
 |mk:∀(x dx:qc)(mk:qb->qe)(W M:qe),vs=[.ref x]->W.length<=20->M.length<=20->H x=some (.ins a.ze dx [])->(∀H' F,(∀c o,c≠x->H c=some o->H' c=some o)->(∀c∈F,H c=none)->FO a H' x [] mk W M 0 F->Q .non H')->NJ a vs H Q E
inductive RZ(a:yL)(vs:qa V)(H:Hp)(Q:VK)(E:XK):Prop
 |mk:∀(x m:qc)(bx:Rows)(mk:qb->qe)(W M:qe)(n:Nat)(F:qa qc)(nm fo:qb)(ss:qe),vs=[.ref x,.str nm,.str fo,.ref m]->FO a H x bx mk W M n F->n<40->up bx nm=none->fo∈W->H m=some (.lst (ss.map V.str))->(∀y∈ss,y∈M)->(∀H' F',FO a H' x (bx++[(nm,fo)]) (Us mk nm (dd ss)) W M (n+1) F'->lW F H H'->(∀c∈F',c∈F\/H c=none)->Q .non H')->RZ a vs H Q E
inductive NH(a:yL)(vs:qa V)(H:Hp)(Q:VK)(E:XK):Prop
 |mk:∀(x:qc)(bx:Rows)(mk:qb->qe)(W M:qe)(n:Nat)(F:qa qc)(nm:qb),vs=[.ref x,.str nm]->FO a H x bx mk W M n F->nm∈bx.map (·.1)->(∀H' F',FO a H' x (without bx nm) mk W M n F'->lW F H H'->(∀c∈F',c∈F)->Q .non H')->NH a vs H Q E
inductive Ie(a:yL)(vs:qa V)(H:Hp)(Q:VK)(E:XK):Prop
 |mk:∀(x:qc)(bx:Rows)(mk:qb->qe)(W M:qe)(n:Nat)(F:qa qc)(nm fo:qb),vs=[.ref x,.str nm,.str fo]->FO a H x bx mk W M n F->nm∈bx.map (·.1)->fo∈W->(∀H' F',FO a H' x (without bx nm++[(nm,fo)]) mk W M n F'->lW F H H'->(∀c∈F',c∈F\/H c=none)->Q .non H')->Ie a vs H Q E
inductive NI(a:yL)(vs:qa V)(H:Hp)(Q:VK)(E:XK):Prop
 |mk:∀(x:qc)(bx:Rows)(mk:qb->qe)(W M:qe)(n:Nat)(F:qa qc)(nm y:qb),vs=[.ref x,.str nm,.str y]->FO a H x bx mk W M n F->nm∈bx.map (·.1)->y∈M->(∀H',FO a H' x bx (Us mk nm (YL (mk nm) y)) W M n F->lW F H H'->Q .non H')->NI a vs H Q E
inductive Eo(a:yL)(vs:qa V)(H:Hp)(Q:VK)(E:XK):Prop
 |mk:∀(x:qc)(bx:Rows)(mk:qb->qe)(W M:qe)(n:Nat)(F:qa qc)(nm y:qb),vs=[.ref x,.str nm,.str y]->FO a H x bx mk W M n F->nm∈bx.map (·.1)->(∀H',FO a H' x bx (Us mk nm ((mk nm).filter λz=>decide (z≠y))) W M n F->lW F H H'->Q .non H')->Eo a vs H Q E
inductive Er(a:yL)(vs:qa V)(H:Hp)(Q:VK)(E:XK):Prop
 |mk:∀(x:qc)(bx:Rows)(mk:qb->qe)(W M:qe)(n:Nat)(F:qa qc)(nm fo:qb),vs=[.ref x,.str nm]->FO a H x bx mk W M n F->up bx nm=some fo->Q (.str fo) H->Er a vs H Q E
inductive Ih(a:yL)(vs:qa V)(H:Hp)(Q:VK)(E:XK):Prop
 |mk:∀(x:qc)(bx:Rows)(mk:qb->qe)(W M:qe)(n:Nat)(F:qa qc)(nm:qb),vs=[.ref x,.str nm]->FO a H x bx mk W M n F->nm∈bx.map (·.1)->(∀l H',H l=none->Qj H H'->H' l=some (.lst ((Qx (mk nm)).map V.str))->Q (.ref l) H')->Ih a vs H Q E
inductive Ig(a:yL)(vs:qa V)(H:Hp)(Q:VK)(E:XK):Prop
 |mk:∀(x:qc)(bx:Rows)(mk:qb->qe)(W M:qe)(n:Nat)(F:qa qc)(fo:qb),vs=[.ref x,.str fo]->FO a H x bx mk W M n F->(∀l H',H l=none->Qj H H'->H' l=some (.lst ((Qx (QO bx fo)).map V.str))->Q (.ref l) H')->Ig a vs H Q E
def S5(F:zT K Zf "Folders.__init__" VI a.ky fd)(T:Txt K mg a):QQ P w K mg base j6 1 a.ky fd [ZZ] (NJ a):=by
 refine F.ok BK (λS A outer st H vs Q E hr h=>?_)
 .obtain⟨x,dx,mk,W,M,rfl,V,X,O,k⟩:=h;refine⟨_,(Qd (YF (pv 0) Yc rfl)
   (Qd (YF (pv 0) Yc rfl)
   (Qe (YF (pv 0) Yc rfl)))),?_⟩
  intro b p;have u:x≠b:=Qb O p;refine⟨_,U,x,_,dx,_,U,(by rw[Qa u];exact O),T.q9,T.z7,by decide,?_⟩;have g:SX x H (upd (upd H b (.dK [])) x (.ins a.ze dx (QJ Zw (.ref b) []))):=λc o ne e=>by rw[Qa ne,Qa (Qb e p)];exact e
  have f:(upd (upd H b (.dK [])) x (.ins a.ze dx (QJ Zw (.ref b) []))) x=some (.ins a.ze dx (QJ Zw (.ref b) [])):=Qc;have B:(upd (upd H b (.dK [])) x (.ins a.ze dx (QJ Zw (.ref b) []))) b=some (.dK []):=by rw[Qa u.symm];exact Qc
  show Ua _ _ _ _ (upd (upd H b (.dK [])) x (.ins a.ze dx (QJ Zw (.ref b) [])));generalize upd (upd H b (.dK [])) x (.ins a.ze dx (QJ Zw (.ref b) []))=H1 at g f B;intro T1 n;have C:x≠T1:=Qb f n;refine⟨_,U,x,_,dx,_,U,(by rw[Qa C];exact f),T.q9,T.jL,(by show 1<1000;decide),?_⟩;have i:SX x H1 (upd (upd H1 T1 (.dK [])) x (.ins a.ze dx (QJ Jh (.ref T1) (QJ Zw (.ref b) [])))):=λc o ne e=>by rw[Qa ne,Qa (Qb e n)];exact e
  have j:(upd (upd H1 T1 (.dK [])) x (.ins a.ze dx (QJ Jh (.ref T1) (QJ Zw (.ref b) [])))) x=some (.ins a.ze dx (QJ Jh (.ref T1) (QJ Zw (.ref b) []))):=Qc;have D:(upd (upd H1 T1 (.dK [])) x (.ins a.ze dx (QJ Jh (.ref T1) (QJ Zw (.ref b) [])))) T1=some (.dK []):=by rw[Qa C.symm];exact Qc
  show Ua _ _ _ _ (upd (upd H1 T1 (.dK [])) x (.ins a.ze dx (QJ Jh (.ref T1) (QJ Zw (.ref b) []))));generalize upd (upd H1 T1 (.dK [])) x (.ins a.ze dx (QJ Jh (.ref T1) (QJ Zw (.ref b) [])))=v at i j D;intro d q;have R:x≠d:=Qb j q;refine⟨_,U,x,_,dx,_,U,(by rw[Qa R];exact j),T.q9,T.zI,(by show 2<1000;decide),?_⟩;have l:SX x v (upd (upd v d (.dK [])) x (.ins a.ze dx (QJ JG (.ref d) (QJ Jh (.ref T1) (QJ Zw (.ref b) []))))):=λc o ne e=>by rw[Qa ne,Qa (Qb e q)];exact e
  have G:(upd (upd v d (.dK [])) x (.ins a.ze dx (QJ JG (.ref d) (QJ Jh (.ref T1) (QJ Zw (.ref b) []))))) x=some (.ins a.ze dx (XM b T1 d)):=Qc;have Y:(upd (upd v d (.dK [])) x (.ins a.ze dx (QJ JG (.ref d) (QJ Jh (.ref T1) (QJ Zw (.ref b) []))))) d=some (.dK []):=by rw[Qa R.symm];exact Qc
  have r:=i _ _ u.symm B;have s:=l _ _ u.symm r;have I:=l _ _ C.symm D;have J:b≠T1:=Qb B n;have L:b≠d:=Qb r q;have N:T1≠d:=Qb D q;have Z:=(g.trans i).trans l;refine k _ (iC b d []++rm T1 []) (λc o ne e=>Z c o ne e) (λc hc=>?_) ⟨dx,b,T1,d,[],[],G,⟨s,Y,L,zB,za _,V,⟨zB,zB,(λ_ z=>nomatch z),λ_ _=>rfl⟩⟩,⟨I,zB,zB,(λ_ z=>nomatch z),za _,X⟩,λc p n=>?_,λm=>Iff.rfl,qD _,U⟩
  .rcases qt.mp hc with z|z
   .rcases QM.mp z with z|z|z
    .rw[z];exact p
    .rw[z];exact g.free f (i.free j q)
    .cases z
   .rcases Yh.mp z with z|z
    .rw[z];exact g.free f n
    .cases z
  .rcases Yh.mp n with y|y
   .rcases QM.mp p with t|t|t
    .exact J (t.symm.trans y)
    .exact N (y.symm.trans t)
    .cases t
   .cases y
def CV(F:zT K Ze "Folders.folder" U0 a.y9 fd)(T:Txt K mg a)(g:YC K a):QQ P w K mg base j6 2 a.y9 fd [ZZ,ZJ] (Er a):=by
 obtain⟨i,qP,zv⟩:=g.qP;have zw:=@Uw P w K mg base a _ qP T;refine F.ok GV (λj A outer st H vs Q E c h=>?_)
 .obtain⟨x,bx,mk,W,M,n,F,nm,fo,rfl,⟨dx,b,T1,d,bs,tg,obj,e,p,q,nn,l,rfl⟩,m,k⟩:=h;have o:=Q9 c;have zD:QG 1 _:=c;refine⟨_,(Qd (Qy (Ql zw zD rfl T.jk qP.kp zv .nil Qm (zg (pv 1) (zg (Qk (pv 0) U) Qf))))
   (Qe (Qu (Qz o (Qk (pv 0) U) (pv 1))))),?_⟩
  have f:Qv (QR bx) (Sum.inr nm)=some (V.str fo):=by rw[Yz,m];rfl
  refine⟨_,U,_,U,x,_,dx,_,_,U,obj,T.q9,T.z7,UQ b T1 d,nm,b,_,_,U,e.sS,f,?_⟩;exact⟨_,U,x,_,dx,_,_,U,obj,T.q9,T.z7,UQ b T1 d,_,U,b,_,U,(by rw[<-f];exact Q5.k (k:=Sum.inr nm) e.sS),k⟩
def EG(F:zT K ZM "Folders.marks" Vn a.xx fd)(T:Txt K mg a)(o:YC K a):QQ P w K mg base j6 2 a.xx fd [ZZ,ZJ] (Ih a):=by
 obtain⟨p,qP,zv⟩:=o.qP;have zw:=@Uw P w K mg base a _ qP T;refine F.ok AE (λq A outer st H vs Q E g h=>?_)
 .obtain⟨x,bx,mk,W,M,n,F,nm,rfl,⟨dx,e,T1,i,bs,tg,obj,s,c,v,nn,l,rfl⟩,j,k⟩:=h;have t:=Q9 g;have zD:QG 1 _:=g;refine⟨_,(Qd (Qy (Ql zw zD rfl T.jk qP.kp zv .nil Qm (zg (pv 1) (zg (Qk (pv 0) U) Qf))))
   (Qe (Qu (QC (Yg rfl) rfl T.jQ boot_sorted (zg (Qz t (Qk (pv 0) U) (pv 1)) Qf))))),?_⟩
  obtain⟨fo,u⟩:=Vz j;obtain⟨d,hd⟩:=Y8 ((nn nm).mpr j);have f:Qv (vH tg) (Sum.inr nm)=some (V.ref d):=Q3 (r:=((nm,d):qb×qc)) c.nd hd;have b:=c.len hd;have b:(mk nm).length<=20:=b;refine⟨_,U,_,U,x,_,dx,_,_,U,obj,T.q9,T.z7,UQ e T1 i,nm,e,_,_,U,s.sS,(by rw[Yz,u];rfl),?_⟩;refine⟨_,U,x,_,dx,_,_,U,obj,T.q9,T.jL,Wz e T1 i,_,U,T1,_,U,(by rw[<-f];exact Q5.k (k:=Sum.inr nm) c.t_),d,Qo (mk nm),mk nm,U,(c.at_ _ hd).1,?_,by omega,λl m=>k l _ m (Qj.zk m) Qc⟩;unfold Qo;rw[qV];rfl
def Pt(F:zT K Zl "Folders.names" Vm a.xw fd)(T:Txt K mg a):QQ P w K mg base j6 1 a.xw fd [ZZ,Ze] (Ig a):=by
 refine F.ok AD (λj A outer st H vs Q E m h=>?_)
 .obtain⟨x,bx,mk,W,M,n,F,t,rfl,⟨dx,o,T1,g,bs,tg,obj,b,v,y,nn,l,rfl⟩,k⟩:=h;have q:=Q9 m;refine⟨_,(Qe (Qu (QC (Yg rfl) rfl T.jQ boot_sorted (zg (Vp q (Qk (pv 0) U) (pv 1) Yc ⟨U,U,U,U⟩) Qf)))),?_⟩;refine⟨_,U,x,_,dx,_,_,U,obj,T.q9,T.zI,Ug o T1 g,g,U,.inl ⟨_,.inl b.br⟩,_,U,λp s=>?_⟩;have s1:Qj H (upd H p (.dK [])):=Qj.zk s;have i:=b.few;have u:=X4 bx t;refine⟨_,Q5.k (k:=Sum.inr t) (s1 _ _ b.br),?_⟩;by_cases e:t∈bs.map (·.1)
  .obtain⟨d,hd⟩:=Y8 e;have f:Qv (vH bs) (Sum.inr t)=some (V.ref d):=Q3 (r:=((t,d):qb×qc)) b.bd.nd hd;rw[f];refine⟨d,Qo (QO bx t),QO bx t,U,s1 _ _ (b.bd.at_ _ hd).1,?_,by omega,λl c=>k l _ (s1.free c) (s1.z6 (s1.free c)) Qc⟩;unfold Qo;rw[qV];rfl
  .have f:Qv (vH bs) (Sum.inr t)=none:=Vr e;rw[f];refine⟨p,[],[],U,Qc,U,by decide,λl c=>?_⟩;refine k l _ (s1.free c) (s1.z6 (s1.free c)) ?_;rw[Qc,b.bd.mR t e]
def S4(F:zT K Zd "Folders.mark" VH a.ku fd)(T:Txt K mg a)(C:YC K a):QQ P w K mg base j6 2 a.ku fd [ZZ,ZJ,ZH] (NI a):=by
 obtain⟨D,qP,zv⟩:=C.qP;have zw:=@Uw P w K mg base a _ qP T;refine F.ok BJ (λG A outer st H vs Q E m h=>?_)
 .obtain⟨x,bx,mk,W,M,n,F,nm,y,rfl,⟨dx,g,T1,i,bs,tg,obj,p,b,s,nn,l,rfl⟩,t,I,k⟩:=h;have v:=Q9 m;have zD:QG 1 _:=m;refine⟨_,(Qd (Qy (Ql zw zD rfl T.jk qP.kp zv .nil Qm (zg (pv 1) (zg (Qk (pv 0) U) Qf))))
   (Qe (Yp v (Qz v (Qk (pv 0) U) (pv 1)) (pv 2) YX rfl))),?_⟩
  obtain⟨fo,J⟩:=Vz t;obtain⟨d,hd⟩:=Y8 ((nn nm).mpr t);have j:Qv (vH tg) (Sum.inr nm)=some (V.ref d):=Q3 (r:=((nm,d):qb×qc)) b.nd hd;have L:(mk nm).length<=20:=b.len hd;have B:H d=some (.dK (Qo (mk nm))):=(b.at_ _ hd).1;have dT:d≠T1:=(b.at_ _ hd).2.1;have f:d∈rm T1 tg:=Yh.mpr (.inr (qj.mpr ⟨_,hd,U⟩));refine⟨_,U,_,U,x,_,dx,_,_,U,obj,T.q9,T.z7,UQ g T1 i,nm,g,_,_,U,p.sS,(by rw[Yz,J];rfl),?_⟩;refine⟨_,U,x,_,dx,_,_,U,obj,T.q9,T.jL,Wz g T1 i,_,U,T1,_,U,(by rw[<-j];exact Q5.k (k:=Sum.inr nm) b.t_),_,U,d,_,U,UN.k (k:=Sum.inr y) B (by rw[Qo,qh];exact QF (by omega)),?_⟩;rw[FG];have xd:x≠d:=Q4 obj B λz=>nomatch z;refine k _ ⟨dx,g,T1,i,bs,tg,by rw[Qa xd];exact obj,p.keep λc o hc e=>by rw[Qa (λz=>s c hc (by rw[z];exact f))];exact e,b.set hd (Hu (b.at_ _ hd).2.2.1) (λz hz=>?_) (λq _ ne o e=>by rw[Qa ne];exact e) Qc (by rw[Qa dT.symm];exact b.t_),s,nn,l,U⟩ (lW.upd (λc o _ e=>e) (.inl (qx _ f)));rcases B3.mp hz with u|u
  .exact(b.at_ _ hd).2.2.2 z u
  .rw[u];exact I
def MA(F:zT K ZZd "Folders.unmark" UY a.yZ fd)(T:Txt K mg a)(D:YC K a):QQ P w K mg base j6 2 a.yZ fd [ZZ,ZJ,ZH] (Eo a):=by
 obtain⟨G,qP,zv⟩:=D.qP;have zw:=@Uw P w K mg base a _ qP T;refine F.ok GR (λI A outer st H vs Q E u h=>?_)
 .obtain⟨x,bx,mk,W,M,n,F,nm,y,rfl,⟨dx,f,T1,i,bs,tg,obj,j,b,m,nn,l,rfl⟩,B,k⟩:=h;have J:=Q9 u;have zD:QG 1 _:=u;refine⟨_,(Qd (Qy (Ql zw zD rfl T.jk qP.kp zv .nil Qm (zg (pv 1) (zg (Qk (pv 0) U) Qf))))
   (Qe (Qy (SD (Qz J (Qk (pv 0) U) (pv 1)) (pv 2) AO ⟨U,U,U,U⟩)))),?_⟩
  obtain⟨fo,L⟩:=Vz B;obtain⟨d,hd⟩:=Y8 ((nn nm).mpr B);have p:Qv (vH tg) (Sum.inr nm)=some (V.ref d):=Q3 (r:=((nm,d):qb×qc)) b.nd hd;have s:H d=some (.dK (Qo (mk nm))):=(b.at_ _ hd).1;have dT:d≠T1:=(b.at_ _ hd).2.1;have g:d∈rm T1 tg:=Yh.mpr (.inr (qj.mpr ⟨_,hd,U⟩));refine⟨_,U,_,U,x,_,dx,_,_,U,obj,T.q9,T.z7,UQ f T1 i,nm,f,_,_,U,j.sS,(by rw[Yz,L];rfl),?_⟩;have xd:x≠d:=Q4 obj s λz=>nomatch z;refine⟨_,U,x,_,dx,_,_,U,obj,T.q9,T.jL,Wz f T1 i,_,U,T1,_,U,(by rw[<-p];exact Q5.k (k:=Sum.inr nm) b.t_),d,U,.inl ⟨_,.inl s⟩,_,U,_,Sum.inr y,s,U,λv _=>?_,λC=>?_⟩
  .rw[Wn];exact k _ ⟨dx,f,T1,i,bs,tg,by rw[Qa xd];exact obj,j.keep λc o hc e=>by rw[Qa (λz=>m c hc (by rw[z];exact g))];exact e,b.set hd ((b.at_ _ hd).2.2.1.filter _) (λz hz=>(b.at_ _ hd).2.2.2 z (qr.mp hz).1) (λq _ ne o e=>by rw[Qa ne];exact e) Qc (by rw[Qa dT.symm];exact b.t_),m,nn,l,U⟩ (lW.upd (λc o _ e=>e) (.inl (qx _ g)))
  .have N:¬y∈mk nm:=λz=>by rw[Vc,qG z] at C;cases C
   refine k _ ⟨dx,f,T1,i,bs,tg,obj,j,b.congr λt=>?_,m,nn,l,U⟩ λc o _ e=>e;by_cases e:t=nm
   .rw[e,Yn];exact Gs N
   .exact YE e
def S3(F:zT K Zo "Folders.take_out" Uo a.yz fd)(T:Txt K mg a)(R:YC K a):QQ P w K mg base j6 2 a.yz fd [ZZ,ZJ] (NH a):=by
 obtain⟨Y,qP,zv⟩:=R.qP;obtain⟨Z,t,kC⟩:=R.wC;have zw:=@Uw P w K mg base a _ qP T;have kH:=@EC P w K mg base a _ t T;refine F.ok KZ (λcdv A outer st H vs Q E C h=>?_)
 .obtain⟨x,bx,mk,W,M,n,F,nm,rfl,⟨dx,i,T1,p,bs,tg,obj,D,G,I,nn,l,rfl⟩,S,k⟩:=h;have hu:=Q9 C;have zD:QG 1 _:=C;have xF:QG 1 _:=C;refine⟨_,(Qd (Qy (Ql zw zD rfl T.jk qP.kp zv .nil Qm (zg (pv 1) (zg (Qk (pv 0) U) Qf))))
   (Qd (Qy (QL (pv 0) T.q9 T.wu kH xF kC .nil Qm (zg (pv 1) Qf)))
   (Qe (Qy (UP (Qk (pv 0) U) (pv 1) ⟨U,U,U,U⟩))))),?_⟩
  obtain⟨fo,X⟩:=Vz S;obtain⟨d,hd⟩:=Y8 ((nn nm).mpr S);have J:Qv (vH tg) (Sum.inr nm)=some (V.ref d):=Q3 (r:=((nm,d):qb×qc)) G.nd hd;refine⟨_,U,_,U,x,_,dx,_,_,U,obj,T.q9,T.z7,UQ i T1 p,nm,i,_,_,U,D.sS,(by rw[Yz,X];rfl),?_⟩;refine⟨_,U,x,dx,_,U,obj,U,_,U,x,dx,i,T1,p,bx,bs,W,nm,fo,U,obj,D,X,λH5 u L v N fr5=>?_⟩;have O:¬x∈iC i p bs:=λz=>by obtain⟨_,e⟩:=D.kind z;rw[obj] at e;cases e
  have b:=v _ _ O obj;have j:=G.keep (H':=H5) λc o hc e=>v c o (λz=>I c z hc) e;refine⟨_,U,x,_,dx,_,_,U,b,T.q9,T.jL,Wz i T1 p,T1,U,.inl ⟨_,.inl j.t_⟩,_,U,_,Sum.inr nm,.ref d,j.t_,U,J,?_⟩;rw[XE];have y:T1∈rm T1 tg:=Yh.mpr (.inl rfl);have g:∀c∈iC i p u,c∈iC i p bs:=λc hc=>by
   rcases QM.mp hc with z|z|z
   .exact QM.mpr (.inl z)
   .exact QM.mpr (.inr (.inl z))
   .obtain⟨q,B,rfl⟩:=qj.mp z;exact QM.mpr (.inr (.inr (qj.mpr ⟨q,N q B,U⟩)))
  have s:∀c∈rm T1 (tg.filter λr=>decide (r.1≠nm)),c∈rm T1 tg:=λc hc=>by
   rcases Yh.mp hc with z|z
   .exact Yh.mpr (.inl z)
   .obtain⟨q,B,rfl⟩:=qj.mp z;exact Yh.mpr (.inr (qj.mpr ⟨q,(qr.mp B).1,U⟩))
  have xT:x≠T1:=Q4 b j.t_ λz=>nomatch z;have wl:(without bx nm).length<=bx.length:=qY _ _;refine k _ (iC i p u++rm T1 (tg.filter λr=>decide (r.1≠nm))) ⟨dx,i,T1,p,u,_,by rw[Qa xT];exact b,L.keep λc o hc e=>by rw[Qa (λz=>I c (g c hc) (by rw[z];exact y))];exact e,j.del nm (λq B o e=>by rw[Qa (G.at_ q B).2.1];exact e) Qc,λc h1 h2=>I c (g c h1) (s c h2),λm=>?_,by omega,U⟩
   (λc o hc e=>by rw[Qa (λz=>hc (qx _ (by rw[z];exact y)))];exact v c o (λz=>hc (qC _ z)) e) λc hc=>(qt.mp hc).elim (λz=>qC _ (g c z)) λz=>qx _ (s c z)
  rw[Dg (f:=λr:qb×qc=>r.1),nn m];unfold L2.without;rw[Dg (f:=λr:qb×qb=>r.1)]
def Pr(F:zT K Zh "Folders.place" Vl a.xu fd)(T:Txt K mg a)(O:YC K a):QQ P w K mg base j6 2 a.xu fd [ZZ,ZJ,Ze] (Ie a):=by
 obtain⟨fdC,qP,zv⟩:=O.qP;obtain⟨fdO,j,kC⟩:=O.wC;obtain⟨fdI,v,kR⟩:=O.ub;have zw:=@Uw P w K mg base a _ qP T;have kH:=@EC P w K mg base a _ j T;have kU:=@IL P w K mg base a _ v T;refine F.ok AB (λcdv A outer st H vs Q E R h=>?_)
 .obtain⟨x,bx,mk,W,M,n,F,nm,S,rfl,⟨dx,g,T1,i,bs,tg,obj,B,ft,C,nn,l,rfl⟩,V,X,k⟩:=h;have zD:QG 1 _:=R;have xF:QG 1 _:=R;have xY:QG 1 _:=R;refine⟨_,(Qd (Qy (Ql zw zD rfl T.jk qP.kp zv .nil Qm (zg (pv 1) (zg (Qk (pv 0) U) Qf))))
   (Qd (Qy (QL (pv 0) T.q9 T.wu kH xF kC .nil Qm (zg (pv 1) Qf)))
   (Qe (Qy (QL (pv 0) T.q9 T.wX kU xY kR .nil Qm (zg (pv 1) (zg (pv 2) Qf))))))),?_⟩
  obtain⟨fo,eu⟩:=Vz V;refine⟨_,U,_,U,x,_,dx,_,_,U,obj,T.q9,T.z7,UQ g T1 i,nm,g,_,_,U,B.sS,(by rw[Yz,eu];rfl),?_⟩;refine⟨_,U,x,dx,_,U,obj,U,_,U,x,dx,g,T1,i,bx,bs,W,nm,fo,U,obj,B,eu,λH5 p Y s Z fr5=>?_⟩;have D:¬x∈iC g i bs:=λz=>by obtain⟨_,e⟩:=B.kind z;rw[obj] at e;cases e
  have d:=s _ _ D obj;have G:=ft.keep (H':=H5) λc o hc e=>s c o (λz=>C c z hc) e;have b:∀c∈iC g i p,c∈iC g i bs:=λc hc=>by
   rcases QM.mp hc with z|z|z
   .exact QM.mpr (.inl z)
   .exact QM.mpr (.inr (.inl z))
   .obtain⟨q,I,rfl⟩:=qj.mp z;exact QM.mpr (.inr (.inr (qj.mpr ⟨q,Z q I,U⟩)))
  have J:¬nm∈(without bx nm).map (·.1):=λz=>by
   unfold L2.without at z;exact(Dg (f:=λr:qb×qb=>r.1).mp z).2 rfl
  have wl:(without bx nm).length<bx.length:=by
   have h1:((without bx nm).map (·.1)++[nm]).Nodup:=YT (Xm B.nd) J;have u:=YS h1 (l:=bx.map (·.1)) λm hm=>by
    rcases qt.mp hm with z|z
    .unfold L2.without at z;exact(Dg (f:=λr:qb×qb=>r.1).mp z).1
    .rw[qk.mp z];exact V
   rw[qz,qS,qh,qh] at u;omega
  have hfew:=B.few;refine⟨_,U,x,dx,_,U,d,U,_,U,_,U,x,dx,g,T1,i,without bx nm,p,W,nm,S,U,d,Y,VA.mpr J,by omega,X,λH6 L fi6 t N=>?_⟩;have nx5:¬x∈iC g i p:=λz=>D (b x z);refine k H6 (iC g i L++rm T1 tg) ⟨dx,g,T1,i,L,tg,t _ _ nx5 d,fi6,G.keep λc o hc e=>t c o (λz=>C c (b c z) hc) e,λc h1 u=>?_,λm=>?_,by rw[qz,qS];omega,U⟩ (λc o hc e=>t c o (λz=>hc (qC _ (b c z))) (s c o (λz=>hc (qC _ z)) e)) λc hc=>?_
  .rcases QM.mp h1 with z|z|z
   .exact C c (QM.mpr (.inl z)) u
   .exact C c (QM.mpr (.inr (.inl z))) u
   .obtain⟨q,I,rfl⟩:=qj.mp z;rcases N q I with y|y
    .exact C _ (b _ (QM.mpr (.inr (.inr (qj.mpr ⟨q,y,U⟩))))) u
    .obtain⟨_,e⟩:=G.kind u;rw[y] at e;cases e
  .rw[nn m,qJ,qt];unfold L2.without;rw[Dg (f:=λr:qb×qb=>r.1)];constructor
   .intro h;by_cases e:m=nm
    .exact .inr (by rw[e];exact qy)
    .exact .inl ⟨h,e⟩
   .rintro(h|h)
    .exact h.1
    .rw[qk.mp h];exact V
  .rcases qt.mp hc with z|z
   .rcases QM.mp z with z|z|z
    .exact .inl (qC _ (QM.mpr (.inl z)))
    .exact .inl (qC _ (QM.mpr (.inr (.inl z))))
    .obtain⟨q,I,rfl⟩:=qj.mp z;rcases N q I with y|y
     .exact .inl (qC _ (b _ (QM.mpr (.inr (.inr (qj.mpr ⟨q,y,U⟩))))))
     .exact .inr (fr5 _ y)
   .exact .inl (qx _ z)
def bK(F:Aq K JB "Folders.add" Wd a.vf fd)(T:Txt K mg a)(FF:YC K a):QQ P w K mg base j6 2 a.vf fd [ZZ,ZJ,Ze,ZM] (RZ a):=by
 obtain⟨fdC,jD,vr⟩:=FF.jD;obtain⟨fdI,R,kR⟩:=FF.ub;have vt:=@My P w K mg base a _ jD T;have kU:=@IL P w K mg base a _ R T;refine F.ok X3 (λcdv A outer st H vs Q E hr h=>?_)
 .obtain⟨x,m,bx,mk,W,M,n,F,nm,fo,ss,rfl,⟨dx,f,T1,g,bs,tg,obj,fi,I,dj,nn,l,rfl⟩,hn40,N,hfo,hm,hss,k⟩:=h;have hu:=Q9 hr;have xW:QG 1 _:=hr;have xY:QG 1 _:=hr;refine⟨_,(Qd (Qy (Ql vt xW rfl T.uX jD.kp vr .nil Qm (zg (pv 1) (zg (Qk (pv 0) U) Qf))))
   (Qd (Yp hu (Qk (pv 0) U) (pv 1) Yc rfl)
   (Qd (QU (Qt Od (pv 3) AO) (Qe (YW zo rfl (Yv (pv 3)) (Q8 (i:=4) X3.nd) (Qe (Yp hu (Qz hu (Qk (pv 0) U) (pv 1)) (pv 4) YX rfl)))) QD)
   (Qe (Qy (QL (pv 0) T.q9 T.wX kU xY kR .nil Qm (zg (pv 1) (zg (pv 2) Qf)))))))),?_⟩
  have S:¬nm∈tg.map (·.1):=λz=>VA.mp N ((nn nm).mp z);have tl:tg.length<=bx.length:=by
   have:=YS I.nd λm hm=>(nn m).mp hm;rw[qh,qh] at this;exact this
  have hmf:=I.mf;have X:T1∈rm T1 tg:=Yh.mpr (.inl rfl);refine⟨_,U,_,U,x,_,dx,_,_,U,obj,T.q9,T.z7,UQ f T1 g,nm,f,_,U,fi.sS,(by rw[Yz,N];rfl),?_⟩;intro p L;have xp:x≠p:=Qb obj L;have Tp:T1≠p:=Qb I.t_ L;have mp:m≠p:=Qb hm L;have mT:m≠T1:=Q4 hm I.t_ λz=>nomatch z;have xT:x≠T1:=Q4 obj I.t_ λz=>nomatch z;refine⟨_,U,x,_,dx,_,_,U,(by rw[Qa xp];exact obj),T.q9,T.jL,Wz f T1 g,_,U,T1,_,U,UN.k (k:=Sum.inr nm) (by rw[Qa Tp];exact I.t_) (by rw[Gx];exact QF (by omega)),?_⟩;rw[Bk ((nm,p):qb×qc) S rfl rfl];have k2:∀c o,c≠T1->H c=some o->(upd (upd H p (.dK [])) T1 (.dK (vH (tg++[((nm,p):qb×qc)])))) c=some o:=λc o ne e=>by rw[Qa ne,Qa (Qb e L)];exact e
  have t2:(upd (upd H p (.dK [])) T1 (.dK (vH (tg++[((nm,p):qb×qc)])))) T1=some (.dK (vH (tg++[((nm,p):qb×qc)]))):=Qc;have p2:(upd (upd H p (.dK [])) T1 (.dK (vH (tg++[((nm,p):qb×qc)])))) p=some (.dK (Qo [])):=by rw[Qa Tp.symm];exact Qc
  show Ua _ _ _ _ (upd (upd H p (.dK [])) T1 (.dK (vH (tg++[((nm,p):qb×qc)]))));generalize upd (upd H p (.dK [])) T1 (.dK (vH (tg++[((nm,p):qb×qc)])))=H2 at k2 t2 p2;have ntp:¬p∈tg.map (·.2):=λz=>by
   obtain⟨q,O,eq⟩:=qj.mp z;have:=(I.at_ q O).1;rw[eq,L] at this;cases this
  have Y:FT H2 T1 (tg++[((nm,p):qb×qc)]) (Us mk nm []) M:=I.new S ntp Tp.symm (by omega) zB (λ_ z=>nomatch z) (λq O o e=>k2 _ _ (I.at_ q O).2.1 e) p2 t2;have fi2:FI H2 f g bx bs W:=fi.keep λc o hc e=>k2 c o (λz=>dj c hc (by rw[z];exact X)) e;have s:∀c∈iC f g bs,¬c∈rm T1 (tg++[((nm,p):qb×qc)]):=λc hc z=>by
   rcases Yh.mp z with z|z
   .exact dj c hc (Yh.mpr (.inl z))
   .rw[qJ] at z;rcases qt.mp z with z|z
    .exact dj c hc (Yh.mpr (.inr z))
    .obtain⟨_,e⟩:=fi.kind hc;rw[qk.mp z,L] at e;cases e
  have J:((nm,p):qb×qc)∈tg++[((nm,p):qb×qc)]:=qx _ qy;have hpF:p∈rm T1 (tg++[((nm,p):qb×qc)]):=Yh.mpr (.inr (qj.mpr ⟨_,J,U⟩));have kp2:lW (iC f g bs++rm T1 tg) H H2:=λc o hc e=>k2 c o (λz=>hc (qx _ (by rw[z];exact X))) e;refine⟨_,U,U,_,U,Yj ?_⟩;refine⟨_,U,m,U,⟨_,zN.of (k2 _ _ mT hm)⟩,YB (K:=K) (a:=m) (xs:=ss.map V.str) (λj σ G=>∃(o:Option V),σ=[some (.ref x),some (.str nm),some (.str fo),some (.ref m),o]/\G x=some (.ins a.ze dx (XM f T1 g))/\FI G f g bx bs W/\FT G T1 (tg++[((nm,p):qb×qc)]) (Us mk nm ((ss.take j).foldl YL [])) M/\G m=some (.lst (ss.map V.str))/\lW (iC f g bs++rm T1 tg) H G)
   ⟨none,U,k2 _ _ xT obj,fi2,by rw[vm];exact Y,k2 _ _ mT hm,kp2⟩ ?_ ?_ ?_⟩
  .rintro j σ G _ ⟨o,rfl,b,B,d,m4,C⟩;exact zN.of m4
  .rintro j v σ G Z ⟨o,rfl,b,B,d,m4,C⟩;obtain⟨y,hy,rfl⟩:∃y,ss[j]?=some y/\V.str y=v:=by
    rw[qQ] at Z
    cases e:ss[j]? with
    |none=>rw[e] at Z;cases Z
    |some t=>rw[e] at Z;exact⟨t,U,qN Z⟩
   have et:ss.take (j+1)=ss.take j++[y]:=by rw[zm,hy];rfl
   have hvd:Qv (vH (tg++[((nm,p):qb×qc)])) (Sum.inr nm)=some (V.ref p):=Q3 (r:=((nm,p):qb×qc)) d.nd J;obtain⟨ep,_,D,yM⟩:=d.at_ _ J;have ep:G p=some (.dK (Qo (Us mk nm ((ss.take j).foldl YL []) nm))):=ep;have D:(Us mk nm ((ss.take j).foldl YL []) nm).Nodup:=D;have yM:∀z∈Us mk nm ((ss.take j).foldl YL []) nm,z∈M:=yM;rw[Yn] at ep D yM;have hyl:=YS D yM;refine⟨_,U,x,_,dx,_,_,U,b,T.q9,T.jL,Wz f T1 g,_,U,T1,_,U,(by rw[<-hvd];exact Q5.k (k:=Sum.inr nm) d.t_),_,U,p,_,U,UN.k (k:=Sum.inr y) ep (by rw[Qo,qh];exact QF (by omega)),?_⟩;rw[FG];refine⟨_,U,by rw[Qa xp];exact b,B.keep λc o hc e=>by rw[Qa (λz=>s c hc (by rw[z];exact hpF))];exact e,?_,by rw[Qa mp];exact m4,C.upd (.inr L)⟩;rw[et,jB];refine(d.set J (ys:=YL ((ss.take j).foldl YL []) y) (Hu D) (λz hz=>?_) (λq _ ne o e=>by rw[Qa ne];exact e) Qc (by rw[Qa Tp];exact d.t_)).congr λt=>?_
   .rcases B3.mp hz with u|u
    .exact yM z u
    .rw[u];exact hss y (qM hy)
   .by_cases e:t=nm
    .rw[e,Yn,Yn];rfl
    .rw[YE e,YE e,YE e]
  .rintro σ G ⟨o,rfl,b,B,d,m4,C⟩;rw[qh,ji] at d;refine⟨_,U,x,dx,_,U,b,U,_,U,_,U,x,dx,f,T1,g,bx,bs,W,nm,fo,U,b,B,N,by omega,hfo,λH5 Z fi5 D in5=>?_⟩;have nx1:¬x∈iC f g bs:=λz=>by obtain⟨_,e⟩:=fi.kind z;rw[obj] at e;cases e
   have fr4:∀c,G c=none->H c=none:=λc e=>by
    cases q:H c with
    |none=>rfl
    |some o=>
     by_cases z:c∈iC f g bs++rm T1 tg
     .rcases qt.mp z with z|z
      .obtain⟨_,e2⟩:=B.kind z;rw[e] at e2;cases e2
      .have z2:c∈rm T1 (tg++[((nm,p):qb×qc)]):=by
        rcases Yh.mp z with u|u
        .exact Yh.mpr (.inl u)
        .exact Yh.mpr (.inr (by rw[qJ];exact qC _ u))
       obtain⟨_,e2⟩:=d.kind z2;rw[e] at e2;cases e2
     .rw[C c o z q] at e;cases e
   refine k H5 (iC f g Z++rm T1 (tg++[((nm,p):qb×qc)])) ⟨dx,f,T1,g,Z,_,D _ _ nx1 b,fi5,d.keep λc o hc e=>D c o (λz=>s c z hc) e,λc h1 h2=>?_,λm=>?_,by rw[qz,qS];omega,U⟩ (λc o hc e=>D c o (λz=>hc (qC _ z)) (C c o hc e)) λc hc=>?_
   .rcases QM.mp h1 with z|z|z
    .exact s c (QM.mpr (.inl z)) h2
    .exact s c (QM.mpr (.inr (.inl z))) h2
    .obtain⟨q,O,rfl⟩:=qj.mp z;rcases in5 q O with y|y
     .exact s _ (QM.mpr (.inr (.inr (qj.mpr ⟨q,y,U⟩)))) h2
     .obtain⟨_,e⟩:=d.kind h2;rw[y] at e;cases e
   .rw[qJ,qJ,qt,qt,nn m];exact Iff.rfl
   .rcases qt.mp hc with z|z
    .rcases QM.mp z with z|z|z
     .exact .inl (qC _ (QM.mpr (.inl z)))
     .exact .inl (qC _ (QM.mpr (.inr (.inl z))))
     .obtain⟨q,O,rfl⟩:=qj.mp z;rcases in5 q O with y|y
      .exact .inl (qC _ (QM.mpr (.inr (.inr (qj.mpr ⟨q,y,U⟩)))))
      .exact .inr (fr4 _ y)
    .rcases Yh.mp z with z|z
     .exact .inl (qx _ (Yh.mpr (.inl z)))
     .rw[qJ] at z;rcases qt.mp z with u|u
      .exact .inl (qx _ (Yh.mpr (.inr u)))
      .rw[qk.mp u];exact .inr L
def nMk(bx:Rows)(mk:qb->qe)(fo y:qb):Nat:=((QO bx fo).filter λn=>decide (y∈mk n)).length
inductive Ep(a:yL)(vs:qa V)(H:Hp)(Q:VK)(E:XK):Prop
 |mk:∀(x:qc)(bx:Rows)(mk:qb->qe)(W M:qe)(n:Nat)(F:qa qc)(fo y:qb),vs=[.ref x,.str fo,.str y]->FO a H x bx mk W M n F->(∀H',Qj H H'->Q (.int (nMk bx mk fo y)) H')->Ep a vs H Q E
inductive Es(a:yL)(vs:qa V)(H:Hp)(Q:VK)(E:XK):Prop
 |mk:∀(x:qc)(bx:Rows)(mk:qb->qe)(W M:qe)(n:Nat)(F:qa qc)(fo:qb),vs=[.ref x,.str fo]->FO a H x bx mk W M n F->(∀l H',H l=none->Qj H H'->H' l=some (.tup [.int ((QO bx fo).length:Nat),.int (((QO bx fo).length:Nat)-(nMk bx mk fo JO:Nat))])->Q (.ref l) H')->Es a vs H Q E
def Et{H1:Hp}{d:qc}(e:H d=some o)(s:∀b u,b≠d->H b=some u->H1 b=some u):Qj H (upd H1 d o):=λb u q=>by
 by_cases z:b=d
 .rw[z] at q⊢;rw[e] at q;cases q;exact Qc
 .rw[Qa z];exact s b u z q
def MB(F:zT K ZZe "Folders.marked" Uc a.y7 fd)(T:Txt K mg a):QQ P w K mg base j6 1 a.y7 fd [ZZ,Ze,ZH] (Ep a):=by
 refine F.ok GU (λcdv A outer st H vs Q E hr h=>?_)
 .obtain⟨x,bx,mk,W,M,n,F,fo,y,rfl,⟨dx,g,T1,q,bs,tg,obj,i,L,Z,nn,l,rfl⟩,k⟩:=h;have O:=Q9 hr;have hfew:=i.few;have hrl:=X4 bx fo;refine⟨_,(Qe (KA (Qu (QC Ym rfl T.vI zX (zg (VL (sc:=Qg Uc) (N:=Xf) (fr:=[(2,ZH),(0,ZZ)]) (cs_ rfl rfl) rfl rfl rfl (X7 (Vp O (Qk (pv 0) U) (pv 1) Yc ⟨U,U,U,U⟩)) (λ_ _ _ _=>Wg (UM (Ka O (pv 1) (Qz O (FK K (pv 2) U) (pv 0))))) (λ_ _ _ _=>(pv 0))) Qf))))),?_⟩;by_cases R:fo∈bs.map (·.1)
  .obtain⟨d,hd⟩:=Y8 R;have S:Qv (vH bs) (Sum.inr fo)=some (V.ref d):=Q3 (r:=((fo,d):qb×qc)) i.bd.nd hd;obtain⟨v,dX,dN,_,_⟩:=i.bd.at_ _ hd;have v:H d=some (.dK (Qo (QO bx fo))):=v;have B:d∈iC g q bs:=QM.mpr (.inr (.inr (qj.mpr ⟨_,hd,U⟩)));have xd:x≠d:=Q4 obj v λz=>nomatch z;refine⟨d,_,v,λj=>?_⟩;have f:∀c o,c≠d->H c=some o->(upd H d (.jF j (.dK (Qo (QO bx fo))))) c=some o:=λc o ne e=>by rw[Qa ne];exact e
   have s:(upd H d (.jF j (.dK (Qo (QO bx fo))))) d=some (.jF j (.dK (Qo (QO bx fo)))):=Qc;generalize upd H d (.jF j (.dK (Qo (QO bx fo))))=H1 at f s;refine⟨_,U,x,_,dx,_,_,U,f _ _ xd obj,T.q9,T.zI,Ug g T1 q,q,U,.inl ⟨_,.inl (f _ _ dN.symm i.br)⟩,_,U,λp C=>?_⟩;have s2:Qj H1 (upd H1 p (.dK [])):=Qj.zk C;refine⟨_,Q5.k (k:=Sum.inr fo) (s2 _ _ (f _ _ dN.symm i.br)),?_⟩;rw[S];generalize upd H1 p (.dK [])=G at s2;have J:=s2 _ _ s;refine⟨d,Qo (QO bx fo),U,.inl ⟨j,J,Kn (xs:=QO bx fo) V.str (λz=>decide (y∈mk z)) V.str (Ya ((by omega))) J (by unfold Qo;rw[qV];rfl) ?_ ?_ ?_⟩⟩
   .intro z H5 Q' hz s5 t;have X:=(nn z).mpr (W9 hz);obtain⟨I,m⟩:=Y8 X;have Y:Qv (vH tg) (Sum.inr z)=some (V.ref I):=Q3 (r:=((z,I):qb×qc)) L.nd m;have ez:H I=some (.dK (Qo (mk z))):=(L.at_ _ m).1;have zd:I≠d:=λe=>Z d B (Yh.mpr (.inr (qj.mpr ⟨_,m,e⟩)));have Td:T1≠d:=λe=>Z d B (Yh.mpr (.inl e.symm));refine⟨_,U,_,U,x,_,dx,_,_,U,s5 _ _ (s2 _ _ (f _ _ xd obj)),T.q9,T.jL,Wz g T1 q,_,U,T1,_,U,(by rw[<-Y];exact Q5.k (k:=Sum.inr z) (s5 _ _ (s2 _ _ (f _ _ Td L.t_)))),I,_,U,Q5.k (k:=Sum.inr y) (s5 _ _ (s2 _ _ (f _ _ zd ez))),_,U,?_⟩;rw[Vc];by_cases e:y∈mk z
    .rw[qG e];rw[qu e] at t;exact t
    .rw[qA e];rw[qF e] at t;exact t
   .intro z H5 Q' hz s5 _ t;exact⟨_,U,t⟩
   .intro D m;have t:d≠D:=Qb J m;refine⟨D,_,U,.inl (zN.of Qc),⟨by rw[Qa t];exact J,?_⟩⟩;rw[qh];exact k _ (Et v λb u ne e=>by rw[Qa (Qb (s2 _ _ (f b u ne e)) m)];exact s2 _ _ (f b u ne e))
  .have S:Qv (vH bs) (Sum.inr fo)=none:=Vr R;have X:QO bx fo=[]:=i.bd.mR fo R;have Y:x≠g:=Q4 obj i.sS λz=>nomatch z;refine⟨g,_,i.sS,λj=>?_⟩;have f:∀c o,c≠g->H c=some o->(upd H g (.jF j (.dK (QR bx)))) c=some o:=λc o ne e=>by rw[Qa ne];exact e
   have s:(upd H g (.jF j (.dK (QR bx)))) g=some (.jF j (.dK (QR bx))):=Qc;generalize upd H g (.jF j (.dK (QR bx)))=H1 at f s;refine⟨_,U,x,_,dx,_,_,U,f _ _ Y obj,T.q9,T.zI,Ug g T1 q,q,U,.inl ⟨_,.inl (f _ _ i.ne.symm i.br)⟩,_,U,λp C=>?_⟩;have s2:Qj H1 (upd H1 p (.dK [])):=Qj.zk C;have I:(upd H1 p (.dK [])) p=some (.dK []):=Qc;refine⟨_,Q5.k (k:=Sum.inr fo) (s2 _ _ (f _ _ i.ne.symm i.br)),?_⟩;rw[S];have Xp:g≠p:=Qb s C;generalize upd H1 p (.dK [])=G at s2 I;refine⟨p,[],U,.inr ⟨I,λt=>?_⟩⟩;have v:(upd G p (.jF t (.dK []))) g=some (.jF j (.dK (QR bx))):=by rw[Qa Xp];exact s2 _ _ s
   have J:(upd G p (.jF t (.dK []))) p=some (.jF t (.dK [])):=Qc;have B:∀c o,H1 c=some o->(upd G p (.jF t (.dK []))) c=some o:=λc o e=>by rw[Qa (Qb e C)];exact s2 _ _ e
   generalize upd G p (.jF t (.dK []))=H3 at v J B;refine Kn (xs:=([]:qe)) V.str (λz=>decide (y∈mk z)) V.str (za _) J rfl (λz _ _ hz=>nomatch hz) (λz _ _ hz=>nomatch hz) λD m=>?_;have XD:g≠D:=Qb v m;refine⟨D,_,U,.inl (zN.of Qc),⟨by rw[Qa XD];exact v,?_⟩⟩;have en:((([]:qe).filter λz=>decide (y∈mk z)).map V.str).length=nMk bx mk fo y:=by unfold nMk;rw[X];rfl
   rw[en];exact k _ (Et i.sS λb u ne e=>by rw[Qa (Qb (B _ _ (f b u ne e)) m)];exact B _ _ (f b u ne e))
def MC(F:zT K JW "Folders.counts" U1 a.xb fd)(T:Txt K mg a)(q:YC K a):QQ P w K mg base j6 2 a.xb fd [ZZ,Ze] (Es a):=by
 obtain⟨s,b,nz⟩:=q.oq;have n3:=@MB P w K mg base a _ b T;refine F.ok WL (λt A outer st H vs Q E j h=>?_)
 .obtain⟨x,bx,mk,W,M,n,F,fo,rfl,hf,k⟩:=h;obtain⟨dx,v,T1,m,bs,tg,obj,c,C,D,nn,l,e⟩:=id hf;have y:=Q9 j;have mj:QG 1 _:=j;refine⟨_,(Qd (Qs (i:=2) WL.nd (QC Ro rfl T.vI zX (zg (Vp y (Qk (pv 0) U) (pv 1) Yc ⟨U,U,U,U⟩) Qf)))
   (Qe (Qu (GZ (Qh (pv 2) (Qh (QT fb (pv 2) (QL (pv 0) T.q9 T.nN n3 mj nz .nil Qm (zg (pv 1) (zg (CQ rfl T.Qdz) Qf)))) QA)))))),?_⟩
  refine⟨_,U,x,_,dx,_,_,U,obj,T.q9,T.zI,Ug v T1 m,m,U,.inl ⟨_,.inl c.br⟩,_,U,λp z=>?_⟩;have s1:Qj H (upd H p (.dK [])):=Qj.zk z;refine⟨_,Q5.k (k:=Sum.inr fo) (s1 _ _ c.br),?_⟩;have hd:∃d,((Qv (vH bs) (Sum.inr fo)).getD (V.ref p))=V.ref d/\(upd H p (.dK [])) d=some (.dK (Qo (QO bx fo))):=by
   by_cases f:fo∈bs.map (·.1)
   .obtain⟨d,hd⟩:=Y8 f;have g:Qv (vH bs) (Sum.inr fo)=some (V.ref d):=Q3 (r:=((fo,d):qb×qc)) c.bd.nd hd;rw[g];exact⟨d,U,s1 _ _ (c.bd.at_ _ hd).1⟩
   .have g:Qv (vH bs) (Sum.inr fo)=none:=Vr f;rw[g];exact⟨p,U,by rw[Qc,c.bd.mR fo f];rfl⟩
  obtain⟨d,B,o⟩:=hd;rw[B];refine⟨d,_,U,o,?_⟩;have f:(Qo (QO bx fo)).length=(QO bx fo).length:=by unfold Qo;rw[qh]
  rw[f];generalize upd H p (.dK [])=H1 at s1 o;refine⟨_,U,_,U,_,U,x,dx,_,U,s1 _ _ obj,U,_,U,x,bx,mk,W,M,n,F,fo,JO,U,hf.same s1,λG s2=>?_⟩;refine⟨_,_,U,U,VZ,λu g=>?_⟩;exact k u _ ((s1.trans s2).free g) ((s1.trans s2).z6 ((s1.trans s2).free g)) Qc
abbrev L7:=qc×qb
def cN(bx:Rows)(f:qb):Int:=((QO bx f).length:Nat)
def cU(bx:Rows)(mk:qb->qe)(f:qb):Int:=((QO bx f).length:Nat)-(nMk bx mk f JO:Nat)
def dc(H:Hp)(l:qc)(bx:Rows)(mk:qb->qe)(fs:qa L7):Prop:=H l=some (.lst (fs.map λq=>V.ref q.1))/\∀q∈fs,H q.1=some (.tup [.str q.2,.int (cN bx q.2),.int (cU bx mk q.2)])
inductive Cr(a:yL)(vs:qa V)(H:Hp)(Q:VK)(E:XK):Prop
 |mk:∀(x:qc)(bx:Rows)(mk:qb->qe)(W M:qe)(n:Nat)(F:qa qc),vs=[.ref x]->FO a H x bx mk W M n F->(∀l H' fs ks,ks.Nodup->ks.length<=20->(∀t,t∈ks↔QO bx t≠[])->fs.map (·.2)=Qx ks->H l=none->Qj H H'->dc H' l bx mk fs->Q (.ref l) H')->Cr a vs H Q E
def IV(F:zT K J1 "Folders.folders" UE a.yJ fd)(T:Txt K mg a)(N:YC K a):QQ P w K mg base j6 3 a.yJ fd [ZZ] (Cr a):=by
 obtain⟨fdC,b,nA⟩:=N.ot;have n7:=@MC P w K mg base a _ b T N;refine F.ok Y3 (λcdv A outer st H vs Q E hr h=>?_)
 .obtain⟨x,bx,mk,W,M,n,F,rfl,hf,k⟩:=h;obtain⟨dx,X1,T1,O,bs,tg,obj,g,ft,dj,nn,l,e⟩:=id hf;have mn:QG 2 _:=hr;have hbl:=g.bd.len;have hwf:=g.wf;refine⟨_,(Qd (Qs (i:=1) Y3.nd (KD QA))
   (Qd (YW zo rfl (Yv (QC (Yg rfl) rfl T.jQ boot_sorted (zg (Qk (pv 0) U) Qf))) (Q8 (i:=2) Y3.nd) (Qd (Qs (i:=3) Y3.nd (QL (pv 0) T.q9 T.nO n7 mn nA .nil Qm (zg (pv 2) Qf)))
   (Qe (Qy (V5 plainAttrs_list zZ z5 Uj (pv 1) (zg (GZ (Qh (pv 2) (Qh (Qw QP (pv 3) Qi) (Qh (Qw QP (pv 3) Qi) QA)))) Qf))))))
   (Qe (Qu (pv 1))))),?_⟩
  refine⟨de,λq R=>?_⟩;have s1:Qj H (upd H q (.lst [])):=Qj.zk R;have G:(upd H q (.lst [])) q=some (.lst []):=Qc;show Ua _ _ _ _ (upd H q (.lst []));generalize upd H q (.lst [])=H1 at s1 G;refine⟨_,U,x,_,dx,_,_,U,s1 _ _ obj,T.q9,T.zI,Ug X1 T1 O,O,vH bs,bs.map (·.1),U,s1 _ _ g.br,Aj _ _ _,by rw[qh];omega,λm hm=>?_⟩;have s2:Qj H1 (upd H1 m (.lst ((Qx (bs.map (·.1))).map V.str))):=Qj.zk hm;have r:(upd H1 m (.lst ((Qx (bs.map (·.1))).map V.str))) m=some (.lst ((Qx (bs.map (·.1))).map V.str)):=Qc;have S:=s2 _ _ G;have qm:q≠m:=Qb G hm;generalize upd H1 m (.lst ((Qx (bs.map (·.1))).map V.str))=H2 at s2 r S;have I:(Qx (bs.map (·.1))).length<=20:=by rw[UB,qh];omega
  generalize J:Qx (bs.map (·.1))=ns at r I;have X:H q=none:=R;refine⟨m,U,⟨_,zN.of r⟩,YB (K:=K) (a:=m) (xs:=ns.map V.str) (λi σ f=>∃(fs:qa L7)(s B:Option V),σ=[some (.ref x),some (.ref q),s,B]/\Qj H f/\dc f q bx mk fs/\fs.map (·.2)=ns.take i/\f m=some (.lst (ns.map V.str)))
   ⟨[],none,none,U,s1.trans s2,⟨S,(λ_ z=>nomatch z)⟩,by rw[vm];rfl,r⟩ ?_ ?_ ?_⟩
  .rintro i σ f _ ⟨fs,s,B,rfl,s4,f4,j,C⟩;exact zN.of C
  .rintro i v σ f o ⟨fs,s,B,rfl,s4,f4,j,C⟩;obtain⟨t,p,rfl⟩:∃y,ns[i]?=some y/\V.str y=v:=by
    rw[qQ] at o
    cases e:ns[i]? with
    |none=>rw[e] at o;cases o
    |some t=>rw[e] at o;exact⟨t,U,qN o⟩
   have et:ns.take (i+1)=ns.take i++[t]:=by rw[zm,p];rfl
   have hfl:fs.length<=20:=by
    have:=zQ List.length j;rw[qh,q0] at this;omega
   refine⟨_,U,x,dx,_,U,s4 _ _ obj,U,_,U,x,bx,mk,W,M,n,F,t,U,hf.same s4,λc L nc s5 Y=>?_⟩;refine⟨_,U,.inl ⟨U,_,zN.of (s5 _ _ f4.1)⟩,_,U,_,U,c,_,_,_,U,U,jW.of Y,U,_,U,c,_,_,_,U,U,jW.of Y,U,Hv,λu Z=>?_⟩;have D:Qj L (upd L u (.tup [.str t,.int (cN bx t),.int (cU bx mk t)])):=Qj.zk Z;have u6:(upd L u (.tup [.str t,.int (cN bx t),.int (cU bx mk t)])) u=some (.tup [.str t,.int (cN bx t),.int (cU bx mk t)]):=Qc;refine⟨q,_,_,U,U,D _ _ (s5 _ _ f4.1),(by rw[qh];exact QF (by omega)),?_⟩;have uq:u≠q:=(Qb (s5 _ _ f4.1) Z).symm;have el:(fs.map λq=>V.ref q.1)++[V.ref u]=(fs++[((u,t):L7)]).map λq=>V.ref q.1:=by rw[qJ];rfl
   rw[el];refine⟨fs++[((u,t):L7)],_,_,U,((s4.trans s5).trans D).z6 X,⟨Qc,λz hz=>?_⟩,by rw[qJ,j,et];rfl,by rw[Qa qm.symm];exact D _ _ (s5 _ _ C)⟩;rcases qt.mp hz with y|y
   .rw[Qa (Q4 (f4.2 z y) f4.1 λz=>nomatch z)];exact D _ _ (s5 _ _ (f4.2 z y))
   .rw[qk.mp y,Qa uq];exact u6
  .rintro σ f ⟨fs,s,B,rfl,s4,f4,j,C⟩;rw[qh,ji] at j;refine⟨_,U,k q f fs (bs.map (·.1)) g.bd.nd (by rw[qh];omega) (λt=>⟨λp=>?_,λp=>?_⟩) (by rw[J];exact j) X s4 f4⟩
   .obtain⟨d,hd⟩:=Y8 p;exact(g.bd.at_ _ hd).2.2.2.1
   .exact vG λz=>p (g.bd.mR t z)
inductive Qa6(K:Frag)(vs:qa V)(H:Hp)(Q:VK)(E:XK):Prop
 |mk:∀(a:qc)(ns:qa Int),vs=[.ref a]->zN K H a (ns.map V.int)->ns.length<=63->(∀H',Q (.bl true) H')->Qa6 K vs H Q E
def hK :kitOne K (.type "list") (.type "list")=some true:=by unfold kitOne;rw[qG (yr _)]
def Hq{a b:qb}:decide (V.str a=V.str b)=decide (a=b):=by
 by_cases h:a=b
 .rw[h,qu rfl,qu rfl]
 .rw[qF h,qF λz=>h (V.str.inj z)]
section
variable {α:Type}
end
abbrev NW:=qa (qb×qe)
def Y7(R:NW)(t:qb):qe:=(R.filter λr=>decide (t∈r.2)).map (·.1)
def Rt(R:NW)(n:qb)(ws:qe)(t:qb):Y7 (R++[(n,ws)]) t=Y7 R t++if t∈ws then [n] else []:=by
 unfold Y7;rw[zb,qJ];by_cases h:t∈ws<;>simp[qO,h]
def DI{n:qb}:n∈Y7 R t↔∃ws,(n,ws)∈R/\t∈ws:=by
 unfold Y7;constructor
 .intro h;obtain⟨r,a,rfl⟩:=qj.mp h;exact⟨r.2,(qr.mp a).1,qo (qr.mp a).2⟩
 .rintro⟨ws,a,b⟩;exact qj.mpr ⟨(n,ws),qr.mpr ⟨a,qu b⟩,U⟩
def aD{n:qb}(h:n∈Y7 R t):n∈R.map (·.1):=let ⟨ws,a,_⟩:=DI.mp h;qj.mpr ⟨(n,ws),a,U⟩
def L4(R:NW)(t:qb):(Y7 R t).length<=R.length:=by unfold Y7;rw[qh];exact qY _ _
def noN(R:NW)(n:qb):NW:=R.filter λr=>decide (r.1≠n)
def aE(R:NW)(n t:qb):Y7 (noN R n) t=(Y7 R t).filter λm=>decide (m≠n):=by
 unfold Y7 noN;rw[yb,xN,xN];congr 1;refine kO λr _=>?_;show(decide (t∈r.2)&&decide (r.1≠n))=(decide (r.1≠n)&&decide (t∈r.2));rw[Bool.and_comm]
def fA(e:(R.map (·.1)).Nodup){n:qb}{a b:qe}(d:(n,a)∈R)(c:(n,b)∈R):a=b:=by
 induction R with
 |nil=>cases d
 |cons r R h=>
  rw[qU,zK] at e;rcases qK.mp d with f|d
  .rcases qK.mp c with g|c
   .rw[<-g] at f;exact(tO f).2
   .exact absurd (qj.mpr ⟨_,c,by rw[<-f]⟩) e.1
  .rcases qK.mp c with g|c
   .exact absurd (qj.mpr ⟨_,d,by rw[<-g]⟩) e.1
   .exact h e.2 d c
abbrev U6:=qb×qc×qe
abbrev VW(rows:qa U6):qa (Key×V):=dG (·.1) (λr=>V.ref r.2.1) rows
def YK(rows:qa U6):NW:=rows.map λr=>(r.1,r.2.2)
def CW(rows:qa U6):(YK rows).map (·.1)=rows.map (·.1):=by unfold YK;rw[qV];rfl
def AR(rows:qa U6):(YK rows).length=rows.length:=qh _
structure IX(a:yL)(H:Hp)(x dx E B:qc)(rows:qa U6)(bs:qa (qb×qc))(W:qe):Prop where
 obj:H x=some (.ins a.jY dx [(ZA,.ref E),(ZO,.ref B)])
 en:H E=some (.dK (VW rows))
 br:H B=some (.dK (vH bs))
 eb:E≠B
 ls:∀r∈rows,H r.2.1=some (.lst (r.2.2.map V.str))/\SS r.2.2=r.2.2/\∀w∈r.2.2,w∈W
 nd:(rows.map (·.1)).Nodup
 few:rows.length<=40
 wf:W.length<=20
 bd:BD H E B bs (Y7 (YK rows)) W
def tG(E B:qc)(rows:qa U6)(bs:qa (qb×qc)):qa qc:=E::B::(bs.map (·.2)++rows.map (·.2.1))
inductive sC(a:yL)(H:Hp)(x:qc)(R:NW)(W:qe)(n:Nat)(F:qa qc):Prop
 |mk:∀dx E B rows bs,IX a H x dx E B rows bs W->YK rows=R->R.length<=n->F=tG E B rows bs->sC a H x R W n F
def Yw{rows:qa U6}  :c∈tG E B rows bs↔c=E\/c=B\/c∈bs.map (·.2)\/c∈rows.map (·.2.1):=by
 unfold tG;rw[qK,qK,qt]
def IX.keep{rows:qa U6}(h:IX a H x dx E B rows bs W)(k:∀c o,(c=x\/c∈tG E B rows bs)->H c=some o->H' c=some o):IX a H' x dx E B rows bs W:=
 ⟨k _ _ (.inl rfl) h.obj,k _ _ (.inr (Yw.mpr (.inl rfl))) h.en,k _ _ (.inr (Yw.mpr (.inr (.inl rfl)))) h.br,h.eb,
   λr b=>⟨k _ _ (.inr (Yw.mpr (.inr (.inr (.inr (qj.mpr ⟨r,b,U⟩)))))) (h.ls r b).1,(h.ls r b).2⟩,h.nd,h.few,h.wf,
   h.bd.congr (λp d o e=>k _ _ (.inr (Yw.mpr (.inr (.inr (.inl (qj.mpr ⟨p,d,U⟩)))))) e) λ_=>rfl⟩
def sC.keep(h:sC a H x R W n F)(k:∀c o,(c=x\/c∈F)->H c=some o->H' c=some o):sC a H' x R W n F:=by
 obtain⟨dx,E,B,rows,bs,i,b,d,rfl⟩:=h;exact⟨dx,E,B,rows,bs,i.keep k,b,d,U⟩
def sC.kind(h:sC a H x R W n F)(hc:c∈F):(∃kvs,H c=some (.dK kvs))\/∃xs,H c=some (.lst xs):=by
 obtain⟨dx,E,B,rows,bs,i,d,e,rfl⟩:=h;rcases Yw.mp hc with z|z|z|z
 .rw[z];exact .inl ⟨_,i.en⟩
 .rw[z];exact .inl ⟨_,i.br⟩
 .obtain⟨p,b,rfl⟩:=qj.mp z;exact .inl ⟨_,(i.bd.at_ p b).1⟩
 .obtain⟨r,b,rfl⟩:=qj.mp z;exact .inr ⟨_,(i.ls r b).1⟩
def sC.obj(h:sC a H x R W n F):∃dx E B,H x=some (.ins a.jY dx [(ZA,.ref E),(ZO,.ref B)]):=let ⟨_,_,_,_,_,i,_,_,_⟩:=h;⟨_,_,_,i.obj⟩
inductive NF(a:yL)(vs:qa V)(H:Hp)(Q:VK)(E:XK):Prop
 |mk:∀(x dx:qc)(W:qe),vs=[.ref x]->W.length<=20->H x=some (.ins a.jY dx [])->(∀H' F,(∀c o,c≠x->H c=some o->H' c=some o)->(∀c∈F,H c=none)->sC a H' x [] W 0 F->Q .non H')->NF a vs H Q E
inductive RY(a:yL)(vs:qa V)(H:Hp)(Q:VK)(E:XK):Prop
 |mk:∀(x p:qc)(R:NW)(W:qe)(n:Nat)(F:qa qc)(nm:qb)(ss:qe),vs=[.ref x,.str nm,.ref p]->sC a H x R W n F->n<40->¬nm∈R.map (·.1)->H p=some (.lst (ss.map V.str))->(∀w∈ss,w∈W)->ss.length<=60->(∀H' F',sC a H' x (R++[(nm,SS ss)]) W (n+1) F'->lW F H H'->(∀c∈F',c∈F\/H c=none)->Q .non H')->RY a vs H Q E
inductive ND(a:yL)(vs:qa V)(H:Hp)(Q:VK)(E:XK):Prop
 |mk:∀(x:qc)(R:NW)(W:qe)(n:Nat)(F:qa qc)(nm:qb),vs=[.ref x,.str nm]->sC a H x R W n F->nm∈R.map (·.1)->(∀H' F',sC a H' x (noN R nm) W n F'->lW F H H'->(∀c∈F',c∈F)->Q .non H')->ND a vs H Q E
inductive Ib(a:yL)(vs:qa V)(H:Hp)(Q:VK)(E:XK):Prop
 |mk:∀(x:qc)(R:NW)(W:qe)(n:Nat)(F:qa qc)(t:qb),vs=[.ref x,.str t]->sC a H x R W n F->(∀l H',H l=none->Qj H H'->H' l=some (.lst ((Qx (Y7 R t)).map V.str))->Q (.ref l) H')->Ib a vs H Q E
def Kk(E B:qc):([(ZA,V.ref E),(ZO,V.ref B)]:qa (qb×V)).lookup ZA=some (V.ref E):=by simp[List.lookup]
def VU(E B:qc):([(ZA,V.ref E),(ZO,V.ref B)]:qa (qb×V)).lookup ZO=some (V.ref B):=by
 have e:(ZO==ZA)=false:=by decide +kernel
 simp[List.lookup,e]
def SY(F:zT K Zf "Index.__init__" WN a.vL fd)(T:Txt K mg a):QQ P w K mg base j6 1 a.vL fd [ZZ] (NF a):=by
 refine F.ok DP (λl A outer st H vs Q E n h=>?_)
 .obtain⟨x,dx,W,rfl,m,j,k⟩:=h;refine⟨_,(Qd (YF (pv 0) Yc rfl)
   (Qe (YF (pv 0) Yc rfl))),?_⟩
  intro L f;have ne1:x≠L:=Qb j f;refine⟨_,U,x,_,dx,_,U,(by rw[Qa ne1];exact j),T.jX,T.j0,by decide,?_⟩;intro B b;have d:(upd (upd H L (.dK [])) x (.ins a.jY dx (QJ ZA (.ref L) []))) x=some (.ins a.jY dx (QJ ZA (.ref L) [])):=Qc;have g:(upd (upd H L (.dK [])) x (.ins a.jY dx (QJ ZA (.ref L) []))) L=some (.dK []):=by rw[Qa ne1.symm];exact Qc
  have ne2:x≠B:=Qb d b;have ne3:L≠B:=Qb g b;refine⟨_,U,x,_,dx,_,U,(by rw[Qa ne2];exact d),T.jX,T.jm,(by show 1<1000;decide),?_⟩;have i:H B=none:=by rw[Qa ne2.symm,Qa ne3.symm] at b;exact b
  refine k _ (tG L B [] []) (λc o ne e=>?_) (λc hc=>?_) ⟨dx,L,B,[],[],⟨Qc,?_,?_,ne3,(λ_ z=>nomatch z),zB,za _,m,⟨zB,zB,(λ_ z=>nomatch z),λ_ _=>rfl⟩⟩,U,qD _,U⟩
  .rw[Qa ne,Qa (Qb (by rw[Qa ne,Qa (Qb e f)];exact e) b),Qa ne,Qa (Qb e f)];exact e
  .rcases Yw.mp hc with z|z|z|z
   .rw[z];exact f
   .rw[z];exact i
   .cases z
   .cases z
  .rw[Qa ne1.symm,Qa ne3,Qa ne1.symm];exact Qc
  .rw[Qa ne2.symm];exact Qc
def bO{rows:qa U6}{nm:qb}(h:(nm,ws)∈YK rows):∃l,((nm,l,ws):U6)∈rows:=by
 obtain⟨r,a,e⟩:=qj.mp h;obtain⟨b,c⟩:=tO e;exact⟨r.2.1,by rw[<-b,<-c];exact a⟩
def EF(F:zT K ZZf "Index.having" VG a.ko fd)(T:Txt K mg a):QQ P w K mg base j6 1 a.ko fd [ZZ,ZH] (Ib a):=by
 refine F.ok BH (λj A outer st H vs Q E m h=>?_)
 .obtain⟨x,R,W,n,F,t,rfl,⟨dx,E,B,rows,bs,i,rfl,_,rfl⟩,k⟩:=h;have o:=Q9 m;refine⟨_,(Qe (Qu (QC (Yg rfl) rfl T.jQ boot_sorted (zg (Vp o (Qk (pv 0) U) (pv 1) Yc ⟨U,U,U,U⟩) Qf)))),?_⟩;refine⟨_,U,x,_,dx,_,_,U,i.obj,T.jX,T.jm,VU E B,B,U,.inl ⟨_,.inl i.br⟩,_,U,λp q=>?_⟩;have s1:Qj H (upd H p (.dK [])):=Qj.zk q;have g:=i.few;have c:=L4 (YK rows) t;rw[AR] at c;refine⟨_,Q5.k (k:=Sum.inr t) (s1 _ _ i.br),?_⟩;by_cases e:t∈bs.map (·.1)
  .obtain⟨d,hd⟩:=Y8 e;have f:Qv (vH bs) (Sum.inr t)=some (V.ref d):=Q3 (r:=((t,d):qb×qc)) i.bd.nd hd;rw[f];refine⟨d,Qo (Y7 (YK rows) t),Y7 (YK rows) t,U,s1 _ _ (i.bd.at_ _ hd).1,?_,by omega,λl b=>k l _ (s1.free b) (s1.z6 (s1.free b)) Qc⟩;unfold Qo;rw[qV];rfl
  .have f:Qv (vH bs) (Sum.inr t)=none:=Vr e;rw[f];refine⟨p,[],[],U,Qc,U,by decide,λl b=>?_⟩;refine k l _ (s1.free b) (s1.z6 (s1.free b)) ?_;rw[Qc,i.bd.mR t e]
def bfi(R:NW)(nm:qb)(pre:qe):qb->qe:=λt=>Y7 R t++if t∈pre then [nm] else []
def LY{nm:qb}{pre:qe}(h:¬y∈pre)(t:qb):bfi R nm (pre++[y]) t=Us (bfi R nm pre) y (bfi R nm pre y++[nm]) t:=by
 by_cases e:t=y
 .subst e;rw[Yn];unfold bfi;rw[qA h,qG (qx _ qy),zU]
 .rw[YE e];unfold bfi;have:t∈pre++[y]↔t∈pre:=by rw[qt,qk];exact⟨λz=>z.elim id λq=>absurd q e,.inl⟩
  by_cases z:t∈pre
  .rw[qG z,qG (this.mpr z)]
  .rw[qA z,qA λq=>z (this.mp q)]
def bft(R:NW)(nm:qb)(pre:qe):qb->qe:=λt=>if t∈pre then (Y7 R t).filter λm=>decide (m≠nm) else Y7 R t
def LX{nm:qb}{pre:qe}(t:qb):bft R nm (pre++[y]) t=Us (bft R nm pre) y ((Y7 R y).filter λm=>decide (m≠nm)) t:=by
 by_cases e:t=y
 .subst e;rw[Yn];exact qG (qx _ qy)
 .rw[YE e];unfold bft;have:t∈pre++[y]↔t∈pre:=by rw[qt,qk];exact⟨λz=>z.elim id λq=>absurd q e,.inl⟩
  by_cases z:t∈pre
  .rw[qG z,qG (this.mpr z)]
  .rw[qA z,qA λq=>z (this.mp q)]
def Oi(rows:qa U6)(r:U6):YK (rows++[r])=YK rows++[(r.1,r.2.2)]:=by unfold YK;rw[qJ];rfl
def MD(rows:qa U6)(nm:qb):YK (rows.filter λr=>decide (r.1≠nm))=noN (YK rows) nm:=by
 unfold YK noN;rw[yb];rfl
def Ss(h:(xs.map V.str)[i]?=some v):∃y,xs[i]?=some y/\v=V.str y:=by
 rw[qQ] at h
 cases e:xs[i]? with
 |none=>rw[e] at h;cases h
 |some t=>rw[e] at h;exact⟨t,U,(qN h).symm⟩
def XT(h:xs[i]?=some y):xs.take (i+1)=xs.take i++[y]:=by rw[zm,h];rfl
def Ti(b:xs.Nodup)(h:xs[i]?=some y):¬y∈xs.take i:=λz=>by
 have a:(xs.take i++[y]).Nodup:=by rw[<-XT h];exact b.sublist (List.take_sublist _ _)
 rw[zW] at a;exact a.2.2 y z y qy rfl
def bJ(F:zT K JB "Index.add" Xv a.wm fd)(T:Txt K mg a)(FF:YC K a):QQ P w K mg base j6 2 a.wm fd [ZZ,ZJ,Zq] (RY a):=by
 obtain⟨fdC,jD,vr⟩:=FF.jD;have vt:=@My P w K mg base a _ jD T;refine F.ok GQ (λcdv A outer st H vs Q E D h=>?_)
 .obtain⟨x,p,R,W,n,F,nm,ss,rfl,⟨dx,E,B,rows,bs,i,rfl,hRn,rfl⟩,hn40,N,hp,hW,hss,k⟩:=h;have hu:=Q9 D;have xW:QG 1 _:=D;rw[CW] at N;rw[AR] at hRn;have hwf:=i.wf;have hdd:=av ss;have hv0:Qv (VW rows) (Sum.inr nm)=none:=Vr N;refine⟨_,(Qd (Qy (Ql vt xW rfl T.uX jD.kp vr .nil Qm (zg (pv 1) (zg (Qk (pv 0) U) Qf))))
   (Qd (Yp hu (Qk (pv 0) U) (pv 1) (QC (XN rfl) rfl T.jQ boot_sorted (zg (Ui (BC rfl) rfl T.Qc0 boot_set (zg (pv 2) Qf)) Qf)) rfl)
   (Qe (YW zo rfl (Yv (Qz hu (Qk (pv 0) U) (pv 1))) (Q8 (i:=3) GQ.nd) (Qd (QU (UM (U8 hu (pv 3) (Qk (pv 0) U))) (Qe (Yp hu (Qk (pv 0) U) (pv 3) Yc rfl)) QD)
   (Qe (Yp hu (Qz hu (Qk (pv 0) U) (pv 3)) (pv 1) YX rfl))))))),?_⟩
  refine⟨_,U,_,U,x,_,dx,_,_,U,i.obj,T.jX,T.j0,Kk E B,nm,E,_,U,i.en,hv0,?_⟩;refine⟨_,U,p,ss,U,.inl (zN.of hp),by omega,λu hu0=>⟨u,dd ss,U,Qc,by omega,λl hl=>?_⟩⟩;have s1:Qj H (upd H u (XF P w u (dd ss))):=Qj.zk hu0;have l0:H l=none:=s1.free hl;have s2:Qj H (upd (upd H u (XF P w u (dd ss))) l (.lst ((SS ss).map V.str))):=s1.z6 l0;have l2:(upd (upd H u (XF P w u (dd ss))) l (.lst ((SS ss).map V.str))) l=some (.lst ((SS ss).map V.str)):=Qc;refine⟨_,U,x,_,dx,_,_,U,s2 _ _ i.obj,T.jX,T.j0,Kk E B,_,U,E,_,U,UN.k (k:=Sum.inr nm) (s2 _ _ i.en) (by rw[Gx];exact QF (by omega)),?_⟩;rw[Bk ((nm,l,SS ss):U6) N rfl rfl];have xE:x≠E:=Q4 i.obj i.en λz=>nomatch z;have lE:l≠E:=(Qb i.en l0).symm;have O:(upd (upd (upd H u (XF P w u (dd ss))) l (.lst ((SS ss).map V.str))) E (.dK (VW (rows++[((nm,l,SS ss):U6)])))) x=some (.ins a.jY dx [(ZA,.ref E),(ZO,.ref B)]):=by rw[Qa xE];exact s2 _ _ i.obj
  have Z:(upd (upd (upd H u (XF P w u (dd ss))) l (.lst ((SS ss).map V.str))) E (.dK (VW (rows++[((nm,l,SS ss):U6)])))) E=some (.dK (VW (rows++[((nm,l,SS ss):U6)]))):=Qc;have br3:(upd (upd (upd H u (XF P w u (dd ss))) l (.lst ((SS ss).map V.str))) E (.dK (VW (rows++[((nm,l,SS ss):U6)])))) B=some (.dK (vH bs)):=by rw[Qa i.eb.symm];exact s2 _ _ i.br
  have l3:(upd (upd (upd H u (XF P w u (dd ss))) l (.lst ((SS ss).map V.str))) E (.dK (VW (rows++[((nm,l,SS ss):U6)])))) l=some (.lst ((SS ss).map V.str)):=by rw[Qa lE];exact l2
  have ls3:∀r∈rows,(upd (upd (upd H u (XF P w u (dd ss))) l (.lst ((SS ss).map V.str))) E (.dK (VW (rows++[((nm,l,SS ss):U6)])))) r.2.1=some (.lst (r.2.2.map V.str)):=λr D=>by
   rw[Qa (Q4 (i.ls r D).1 i.en λz=>nomatch z)];exact s2 _ _ (i.ls r D).1
  have oU:BD (upd (upd (upd H u (XF P w u (dd ss))) l (.lst ((SS ss).map V.str))) E (.dK (VW (rows++[((nm,l,SS ss):U6)])))) E B bs (bfi (YK rows) nm []) W:=i.bd.congr (λq S o e=>by rw[Qa (i.bd.at_ q S).2.1];exact s2 _ _ e) λt=>by
   show Y7 (YK rows) t++(if t∈([]:qe) then [nm] else [])=_;rw[qA (λz=>nomatch z),zU]
  have kp3:lW (tG E B rows bs) H (upd (upd (upd H u (XF P w u (dd ss))) l (.lst ((SS ss).map V.str))) E (.dK (VW (rows++[((nm,l,SS ss):U6)])))):=lW.upd (λc o _ e=>s2 c o e) (.inl (Yw.mpr (.inl rfl)));show Ua _ _ _ _ (upd (upd (upd H u (XF P w u (dd ss))) l (.lst ((SS ss).map V.str))) E (.dK (VW (rows++[((nm,l,SS ss):U6)]))));generalize upd (upd (upd H u (XF P w u (dd ss))) l (.lst ((SS ss).map V.str))) E (.dK (VW (rows++[((nm,l,SS ss):U6)])))=H3 at O Z br3 l3 ls3 oU kp3;have nd3:((rows++[((nm,l,SS ss):U6)]).map (·.1)).Nodup:=by rw[qJ];exact YT i.nd N
  have hv3:Qv (VW (rows++[((nm,l,SS ss):U6)])) (Sum.inr nm)=some (V.ref l):=Q3 (r:=((nm,l,SS ss):U6)) nd3 (qx _ qy);have hfew:=i.few;have ndS:=c8 ss;refine⟨_,U,x,_,dx,_,_,U,O,T.jX,T.j0,Kk E B,_,U,E,_,U,(by rw[<-hv3];exact Q5.k (k:=Sum.inr nm) Z),l,U,⟨_,zN.of l3⟩,YB (K:=K) (a:=l) (xs:=(SS ss).map V.str)
   (λj σ G=>Ex2 λ(f:qa (qb×qc))(o:Option V)=>gs (σ=[some (.ref x),some (.str nm),some (.ref p),o]) (G x=some (.ins a.jY dx [(ZA,.ref E),(ZO,.ref B)])) (G E=some (.dK (VW (rows++[((nm,l,SS ss):U6)])))) (G B=some (.dK (vH f))) (G l=some (.lst ((SS ss).map V.str))) ((∀r∈rows,G r.2.1=some (.lst (r.2.2.map V.str)))) (BD G E B f (bfi (YK rows) nm ((SS ss).take j)) W) (lW (tG E B rows bs) H G) ((∀q∈f,q.2∈tG E B rows bs\/H q.2=none)))
   ⟨bs,none,U,O,Z,br3,l3,ls3,by rw[vm];exact oU,kp3,λq S=>.inl (Yw.mpr (.inr (.inr (.inl (qj.mpr ⟨q,S,U⟩)))))⟩ ?_ ?_ ?_⟩
  .rintro j σ G _ ⟨f,o,rfl,b,J,m,X,C,g,L,in4⟩;exact zN.of X
  .rintro j v σ G hv ⟨f,o,rfl,b,J,m,X,C,g,L,in4⟩;obtain⟨y,hy,rfl⟩:=Ss hv;have ym:y∈SS ss:=qM hy;have yW:y∈W:=hW y (FZ.mp ym);have I:=Ti ndS hy;have hl4:=g.len;have hBF:B∈tG E B rows bs:=Yw.mpr (.inr (.inl rfl));refine⟨_,U,_,U,x,_,dx,_,_,U,b,T.jX,T.jm,VU E B,B,_,U,Q5.k (k:=Sum.inr y) m,_,U,?_⟩;by_cases M:y∈f.map (·.1)
   .obtain⟨d,hd⟩:=Y8 M;have Y:Qv (vH f) (Sum.inr y)=some (V.ref d):=Q3 (r:=((y,d):qb×qc)) g.nd hd;obtain⟨s,dE,dB,_,_⟩:=g.at_ _ hd;have s:G d=some (.dK (Qo (bfi (YK rows) nm ((SS ss).take j) y))):=s;rw[Y];have nrep:¬nm∈bfi (YK rows) nm ((SS ss).take j) y:=λz=>by
     unfold bfi at z;rw[qA I,zU] at z;exact N (by rw[<-CW];exact aD z)
    have lenb:(bfi (YK rows) nm ((SS ss).take j) y).length<=40:=by
     unfold bfi;rw[qA I,zU];have:=L4 (YK rows) y;rw[AR] at this;omega
    refine QV ⟨_,U,x,_,dx,_,_,U,b,T.jX,T.jm,VU E B,_,U,B,_,U,(by rw[<-Y];exact Q5.k (k:=Sum.inr y) m),_,U,d,_,U,UN.k (k:=Sum.inr nm) s (by rw[Qo,qh];exact QF (by omega)),?_⟩;rw[X5 nrep];have xd:x≠d:=Q4 b s λz=>nomatch z;have ld:l≠d:=Q4 X s λz=>nomatch z;refine⟨f,_,U,by rw[Qa xd];exact b,by rw[Qa dE.symm];exact J,by rw[Qa dB.symm];exact m,by rw[Qa ld];exact X,λr D=>by rw[Qa (Q4 (C r D) s λz=>nomatch z)];exact C r D,?_,L.upd (in4 _ hd),in4⟩;rw[XT hy];exact(g.set hd (by simp) (λq _ ne o e=>by rw[Qa ne];exact e) Qc).congr (λ_ _ _ e=>e) λt=>LY I t
   .have Y:Qv (vH f) (Sum.inr y)=none:=Vr M;rw[Y];refine Yj ?_;intro d s;have xd:x≠d:=Qb b s;have Ed:E≠d:=Qb J s;have Bd:B≠d:=Qb m s;have ld:l≠d:=Qb X s;have xB:x≠B:=Q4 b m λz=>nomatch z;have lB:l≠B:=Q4 X m λz=>nomatch z;have dn:d∈tG E B rows bs\/H d=none:=by
     cases e:H d with
     |none=>exact .inr rfl
     |some o=>
      by_cases hin:d∈tG E B rows bs
      .exact .inl hin
      .have:=L d o hin e;rw[s] at this;cases this
    refine⟨_,U,x,_,dx,_,_,U,(by rw[Qa xd];exact b),T.jX,T.jm,VU E B,_,U,B,_,U,UN.k (k:=Sum.inr y) (by rw[Qa Bd];exact m) (by rw[Gx];exact QF (by omega)),?_⟩;rw[Bk ((y,d):qb×qc) M rfl rfl];have nd5:((f++[((y,d):qb×qc)]).map (·.1)).Nodup:=by rw[qJ];exact YT g.nd M
    have hv5:Qv (vH (f++[((y,d):qb×qc)])) (Sum.inr y)=some (V.ref d):=Q3 (r:=((y,d):qb×qc)) nd5 (qx _ qy);have br5:(upd (upd G d (.dK [])) B (.dK (vH (f++[((y,d):qb×qc)])))) B=some (.dK (vH (f++[((y,d):qb×qc)]))):=Qc;have d5:(upd (upd G d (.dK [])) B (.dK (vH (f++[((y,d):qb×qc)])))) d=some (.dK []):=by rw[Qa Bd.symm];exact Qc
    refine⟨_,U,x,_,dx,_,_,U,(by rw[Qa xB,Qa xd];exact b),T.jX,T.jm,VU E B,_,U,B,_,U,(by rw[<-hv5];exact Q5.k (k:=Sum.inr y) br5),_,U,d,_,U,UN.k (k:=Sum.inr nm) d5 (by decide),?_⟩;have ek:Ye ([]:qa (Key×V)) (Sum.inr nm) (.bl true)=Qo [nm]:=rfl;rw[ek];have e0:bfi (YK rows) nm ((SS ss).take j) y=[]:=g.mR y M;refine⟨f++[((y,d):qb×qc)],_,U,by rw[Qa xd,Qa xB,Qa xd];exact b,by rw[Qa Ed,Qa i.eb,Qa Ed];exact J,by rw[Qa Bd];exact Qc,by rw[Qa ld,Qa lB,Qa ld];exact X,λr D=>?_,?_,((L.upd dn).upd (.inl hBF)).upd dn,λq S=>?_⟩
    .rw[Qa (Qb (C r D) s),Qa (Q4 (C r D) m λz=>nomatch z),Qa (Qb (C r D) s)];exact C r D
    .rw[XT hy];refine(g.new (p:=d) (ys:=bfi (YK rows) nm ((SS ss).take j) y++[nm]) M (λz=>?_) Ed.symm Bd.symm yW (by simp) (λq S o e=>?_) ?_).congr (λ_ _ _ e=>e) λt=>LY I t
     .obtain⟨q,S,eq⟩:=qj.mp z;have:=(g.at_ q S).1;rw[eq,s] at this;cases this
     .rw[Qa (Qb e s),Qa (g.at_ q S).2.2.1,Qa (Qb e s)];exact e
     .rw[e0,Qc];rfl
    .rcases qt.mp S with z|z
     .exact in4 q z
     .rw[qk.mp z];exact dn
  .rintro σ G ⟨f,o,rfl,b,J,m,X,C,g,L,in4⟩;rw[qh,ji] at g;refine k G (tG E B (rows++[((nm,l,SS ss):U6)]) f) ⟨dx,E,B,rows++[((nm,l,SS ss):U6)],f,⟨b,J,m,i.eb,λr D=>?_,nd3,by rw[qz,qS];omega,i.wf,g.congr (λ_ _ _ e=>e) λt=>?_⟩,Oi _ _,?_,U⟩ L λc hc=>?_
   .rcases qt.mp D with z|z
    .exact⟨C r z,(i.ls r z).2⟩
    .rw[qk.mp z];exact⟨X,cA ss,λy hy=>hW y (FZ.mp hy)⟩
   .rw[Oi];exact Rt _ _ _ _
   .rw[qz,qS,AR];omega
   .rcases Yw.mp hc with z|z|z|z
    .exact .inl (Yw.mpr (.inl z))
    .exact .inl (Yw.mpr (.inr (.inl z)))
    .obtain⟨q,S,rfl⟩:=qj.mp z;exact in4 q S
    .rw[qJ] at z;rcases qt.mp z with y|y
     .exact .inl (Yw.mpr (.inr (.inr (.inr y))))
     .rw[qk.mp y];exact .inr l0
def SW(F:zT K Zo "Index.take_out" UX a.yY fd)(T:Txt K mg a)(FF:YC K a):QQ P w K mg base j6 2 a.yY fd [ZZ,ZJ] (ND a):=by
 obtain⟨fdC,qP,zv⟩:=FF.qP;have zw:=@Uw P w K mg base a _ qP T;refine F.ok Vi (λcdv A outer st H vs Q E C h=>?_)
 .obtain⟨x,R,W,n,F,nm,rfl,⟨dx,E,B,rows,bs,i,rfl,hRn,rfl⟩,hm,k⟩:=h;have hu:=Q9 C;have zD:QG 1 _:=C;obtain⟨r0,S,e0⟩:=qj.mp hm;obtain⟨b,ws⟩:=r0;obtain rfl:b=nm:=e0;obtain⟨l,hl⟩:=bO S;have hnd:((YK rows).map (·.1)).Nodup:=by rw[CW];exact i.nd
  have hv0:Qv (VW rows) (Sum.inr b)=some (V.ref l):=Q3 (r:=((b,l,ws):U6)) i.nd hl;obtain⟨el,eS,eW⟩:=i.ls _ hl;have eS:SS ws=ws:=eS;refine⟨_,(Qd (Qy (Ql zw zD rfl T.jk qP.kp zv .nil Qm (zg (pv 1) (zg (Qk (pv 0) U) Qf))))
   (Qd (Qs (i:=2) Vi.nd (UP (Qk (pv 0) U) (pv 1) ⟨U,U,U,U⟩))
   (Qe (YW zo rfl (Yv (pv 2)) (Q8 (i:=3) Vi.nd) (Qd (Qy (UP (Qz hu (Qk (pv 0) U) (pv 3)) (pv 1) ⟨U,U,U,U⟩))
   (Qe (QU (UL (CM (Qz hu (Qk (pv 0) U) (pv 3)) (λ_=>rfl))) (Qe (Qy (UP (Qk (pv 0) U) (pv 3) ⟨U,U,U,U⟩))) QD))))))),?_⟩
  refine⟨_,U,_,U,x,_,dx,_,_,U,i.obj,T.jX,T.j0,Kk E B,b,E,_,_,U,i.en,hv0,?_⟩;refine⟨_,U,x,_,dx,_,_,U,i.obj,T.jX,T.j0,Kk E B,E,U,.inl ⟨_,.inl i.en⟩,_,U,_,Sum.inr b,.ref l,i.en,U,hv0,?_⟩;rw[XE];have xE:x≠E:=Q4 i.obj i.en λz=>nomatch z;have O:(upd H E (.dK (VW (rows.filter λr=>decide (r.1≠b))))) x=some (.ins a.jY dx [(ZA,.ref E),(ZO,.ref B)]):=by rw[Qa xE];exact i.obj
  have en3:(upd H E (.dK (VW (rows.filter λr=>decide (r.1≠b))))) E=some (.dK (VW (rows.filter λr=>decide (r.1≠b)))):=Qc;have br3:(upd H E (.dK (VW (rows.filter λr=>decide (r.1≠b))))) B=some (.dK (vH bs)):=by rw[Qa i.eb.symm];exact i.br
  have X:∀r∈rows,(upd H E (.dK (VW (rows.filter λr=>decide (r.1≠b))))) r.2.1=some (.lst (r.2.2.map V.str)):=λr C=>by
   rw[Qa (Q4 (i.ls r C).1 i.en λz=>nomatch z)];exact(i.ls r C).1
  have oU:BD (upd H E (.dK (VW (rows.filter λr=>decide (r.1≠b))))) E B bs (bft (YK rows) b []) W:=i.bd.congr (λq J o e=>by rw[Qa (i.bd.at_ q J).2.1];exact e) λt=>qA λz=>nomatch z;have kp3:lW (tG E B rows bs) H (upd H E (.dK (VW (rows.filter λr=>decide (r.1≠b))))):=lW.upd (λc o _ e=>e) (.inl (Yw.mpr (.inl rfl)));show Ua _ _ _ _ (upd H E (.dK (VW (rows.filter λr=>decide (r.1≠b)))));generalize upd H E (.dK (VW (rows.filter λr=>decide (r.1≠b))))=H3 at O en3 br3 X oU kp3;have ndS:ws.Nodup:=by rw[<-eS];exact c8 ws
  refine⟨_,U,l,U,⟨_,zN.of (X _ hl)⟩,YB (K:=K) (a:=l) (xs:=ws.map V.str)
   (λj σ p=>Ex2 λ(f:qa (qb×qc))(o:Option V)=>iv (σ=[some (.ref x),some (.str b),some (.ref l),o]) (p x=some (.ins a.jY dx [(ZA,.ref E),(ZO,.ref B)])) (p E=some (.dK (VW (rows.filter λr=>decide (r.1≠b))))) (p B=some (.dK (vH f))) ((∀r∈rows,p r.2.1=some (.lst (r.2.2.map V.str)))) (BD p E B f (bft (YK rows) b (ws.take j)) W) (lW (tG E B rows bs) H p) ((∀q∈f,q∈bs)))
   ⟨bs,none,U,O,en3,br3,X,by rw[vm];exact oU,kp3,λq J=>J⟩ ?_ ?_ ?_⟩
  .rintro j σ p _ ⟨f,o,rfl,g,L,D,G,s,M,in4⟩;exact zN.of (G _ hl)
  .rintro j v σ p hv ⟨f,o,rfl,g,L,D,G,s,M,in4⟩;obtain⟨y,hy,rfl⟩:=Ss hv;have ym:y∈ws:=qM hy;have npre:=Ti ndS hy;have hbe:bft (YK rows) b (ws.take j) y=Y7 (YK rows) y:=qA npre;have Y:b∈Y7 (YK rows) y:=DI.mpr ⟨ws,S,ym⟩;have hyb:y∈f.map (·.1):=vG λz=>by
    have:=s.mR y z;rw[hbe] at this;rw[this] at Y;cases Y
   obtain⟨d,hd⟩:=Y8 hyb;have Z:Qv (vH f) (Sum.inr y)=some (V.ref d):=Q3 (r:=((y,d):qb×qc)) s.nd hd;obtain⟨ed,dE,dB,_,_⟩:=s.at_ _ hd;have ed:p d=some (.dK (Qo (Y7 (YK rows) y))):=by rw[ed];show some (HO.dK (Qo (bft (YK rows) b (ws.take j) y)))=_;rw[hbe]
   have xd:x≠d:=Q4 g ed λz=>nomatch z;have xB:x≠B:=Q4 g D λz=>nomatch z;have hdF:d∈tG E B rows bs:=Yw.mpr (.inr (.inr (.inl (qj.mpr ⟨_,in4 _ hd,U⟩))));have hBF:B∈tG E B rows bs:=Yw.mpr (.inr (.inl rfl));refine⟨_,U,x,_,dx,_,_,U,g,T.jX,T.jm,VU E B,_,U,B,_,U,(by rw[<-Z];exact Q5.k (k:=Sum.inr y) D),d,U,.inl ⟨_,.inl ed⟩,_,U,_,Sum.inr b,.bl true,ed,U,(by rw[Vc,qG Y]),?_⟩;rw[Wn];have u:(upd p d (.dK (Qo ((Y7 (YK rows) y).filter λm=>decide (m≠b))))) x=some (.ins a.jY dx [(ZA,.ref E),(ZO,.ref B)]):=by rw[Qa xd];exact g
   have en5:(upd p d (.dK (Qo ((Y7 (YK rows) y).filter λm=>decide (m≠b))))) E=some (.dK (VW (rows.filter λr=>decide (r.1≠b)))):=by rw[Qa dE.symm];exact L
   have I:(upd p d (.dK (Qo ((Y7 (YK rows) y).filter λm=>decide (m≠b))))) B=some (.dK (vH f)):=by rw[Qa dB.symm];exact D
   have d5:(upd p d (.dK (Qo ((Y7 (YK rows) y).filter λm=>decide (m≠b))))) d=some (.dK (Qo ((Y7 (YK rows) y).filter λm=>decide (m≠b)))):=Qc;have N:∀r∈rows,(upd p d (.dK (Qo ((Y7 (YK rows) y).filter λm=>decide (m≠b))))) r.2.1=some (.lst (r.2.2.map V.str)):=λr C=>by rw[Qa (Q4 (G r C) ed λz=>nomatch z)];exact G r C
   have kp5:lW (tG E B rows bs) H (upd p d (.dK (Qo ((Y7 (YK rows) y).filter λm=>decide (m≠b))))):=M.upd (.inl hdF);have ot5:∀q∈f,q.2≠d->∀o,p q.2=some o->(upd p d (.dK (Qo ((Y7 (YK rows) y).filter λm=>decide (m≠b))))) q.2=some o:=λq _ ne o e=>by rw[Qa ne];exact e
   show Ua _ _ _ _ (upd p d (.dK (Qo ((Y7 (YK rows) y).filter λm=>decide (m≠b)))));generalize upd p d (.dK (Qo ((Y7 (YK rows) y).filter λm=>decide (m≠b))))=H5 at u en5 I d5 N kp5 ot5;refine⟨_,U,x,_,dx,_,_,U,u,T.jX,T.jm,VU E B,_,U,B,.ref d,U,(by rw[<-Z];exact Q5.k (k:=Sum.inr y) I),!(Qo ((Y7 (YK rows) y).filter λm=>decide (m≠b))).isEmpty,Or.inr (Or.inr ⟨_,d5,U⟩),?_⟩
   cases hys:(Y7 (YK rows) y).filter λm=>decide (m≠b) with
   |cons z zs=>
    refine QV ⟨f,_,U,u,en5,I,N,?_,kp5,in4⟩;rw[XT hy];rw[hys] at d5;refine(s.set hd (ys:=z::zs) (by simp) ot5 d5).congr (λ_ _ _ e=>e) λt=>?_;rw[LX,hys]
   |nil=>
    refine Yj ⟨_,U,x,_,dx,_,_,U,u,T.jX,T.jm,VU E B,B,U,.inl ⟨_,.inl I⟩,_,U,_,Sum.inr y,.ref d,I,U,Z,?_⟩;rw[XE];refine⟨f.filter λr=>decide (r.1≠y),_,U,by rw[Qa xB];exact u,by rw[Qa i.eb];exact en5,Qc,λr C=>by rw[Qa (Q4 (N r C) I λz=>nomatch z)];exact N r C,?_,kp5.upd (.inl hBF),λq J=>in4 q (qr.mp J).1⟩;rw[XT hy];refine(s.del hd λq J ne o e=>?_).congr (λ_ _ _ e=>e) λt=>?_
    .rw[Qa (s.at_ q J).2.2.1];exact ot5 q J ne o e
    .rw[LX,hys]
  .rintro σ p ⟨f,o,rfl,g,L,D,G,s,M,in4⟩;rw[qh,ji] at s;have Y:(rows.filter λr=>decide (r.1≠b)).length<=rows.length:=qY _ _;have I:=i.few;rw[AR] at hRn;refine k p (tG E B (rows.filter λr=>decide (r.1≠b)) f) ⟨dx,E,B,_,f,⟨g,L,D,i.eb,λr C=>⟨G r (qr.mp C).1,(i.ls r (qr.mp C).1).2⟩,i.nd.sublist (zF.map _),by omega,i.wf,s.congr (λ_ _ _ e=>e) λt=>?_⟩,MD _ _,by rw[<-MD,AR];omega,U⟩ M λc hc=>?_
   .rw[MD,aE];by_cases u:t∈ws
    .exact(qG u).symm
    .have e:bft (YK rows) b ws t=Y7 (YK rows) t:=qA u;rw[e];refine jU.mpr λm hm=>qu λz=>u ?_;obtain⟨Z,N,h2⟩:=DI.mp hm;rw[z] at N;rw[fA hnd S N];exact h2
   .rcases Yw.mp hc with z|z|z|z
    .exact Yw.mpr (.inl z)
    .exact Yw.mpr (.inr (.inl z))
    .obtain⟨q,J,rfl⟩:=qj.mp z;exact Yw.mpr (.inr (.inr (.inl (qj.mpr ⟨q,in4 q J,U⟩))))
    .obtain⟨q,J,rfl⟩:=qj.mp z;exact Yw.mpr (.inr (.inr (.inr (qj.mpr ⟨q,(qr.mp J).1,U⟩))))
structure TH(a:yL)(H:Hp)(x dx L R:qc)(rows:Rows)(kr:qa (Key×V)):Prop where
 obj:H x=some (.ins a.ja dx [(ZT,.ref L),(ZS,.ref R)])
 lk:H L=some (.dK (QR rows))
 rp:H R=some (.dK kr)
 lr:L≠R
 nd:(rows.map (·.1)).Nodup
 few:rows.length<=40
 Qce:kr.length<=40
 ug:∀t v,Qv kr (Sum.inr t)=some v->∃d,v=.ref d/\H d=some (.dK (Qo (QO rows t)))/\d≠L/\d≠R
 mR:∀t:qb,t≠""->Qv kr (Sum.inr t)=none->QO rows t=[]
 e_:Qv kr (Sum.inr ("":qb))=none
 inj:∀t t' d,Qv kr (Sum.inr t)=some (.ref d)->Qv kr (Sum.inr t')=some (.ref d)->t=t'
def TH.kp2{R:qc}(h:TH a H x dx L R rows kr)(k:Kp2 H H'):TH a H' x dx L R rows kr:=
 ⟨k _ _ h.obj (λ_ z=>nomatch z),k _ _ h.lk (λ_ z=>nomatch z),k _ _ h.rp (λ_ z=>nomatch z),h.lr,h.nd,h.few,h.Qce,λt v e=>let ⟨d,b,c,f⟩:=h.ug t v e;⟨d,b,k _ _ c (λ_ z=>nomatch z),f⟩,h.mR,h.e_,h.inj⟩
inductive THs(a:yL)(H:Hp)(x:qc)(rows:Rows)(n:Nat):Prop
 |mk:∀dx L R kr,TH a H x dx L R rows kr->rows.length<=n->kr.length<=n->THs a H x rows n
def THs.kp2(h:THs a H x rows n)(k:Kp2 H H'):THs a H' x rows n:=let ⟨dx,L,R,kr,t,b,c⟩:=h;⟨dx,L,R,kr,t.kp2 k,b,c⟩
def Ux(L R:qc):([(ZT,V.ref L),(ZS,V.ref R)]:qa (qb×V)).lookup ZT=some (V.ref L):=by simp[List.lookup]
def UJ(L R:qc):([(ZT,V.ref L),(ZS,V.ref R)]:qa (qb×V)).lookup ZS=some (V.ref R):=by
 have e:(ZS==ZT)=false:=by decide +kernel
 simp[List.lookup,e]
def TH.add{R:qc}{b:qa (Key×V)}{nm:qb}(i:TH a H x dx L R rows kr)(s:up rows nm=none)(few:rows.length<40)
 (k:H' x=some (.ins a.ja dx [(ZT,.ref L),(ZS,.ref R)])) (n:H' L=some (.dK (QR (rows++[(nm,an)])))) (o:H' R=some (.dK b)) (l:b.length<=40)
 (old:∀t d,t≠an->Qv kr (Sum.inr t)=some (.ref d)->H' d=some (.dK (Qo (QO rows t)))) (c:∀t,t≠an->Qv b (Sum.inr t)=Qv kr (Sum.inr t))
 (new:an≠""->∃d,Qv b (Sum.inr an)=some (.ref d)/\H' d=some (.dK (Qo (QO rows an++[nm])))/\d≠L/\d≠R/\∀t,t≠an->Qv kr (Sum.inr t)≠some (.ref d)) (emp:an=""->b=kr):TH a H' x dx L R (rows++[(nm,an)]) b:=by
 have ex:∀t,t≠an->QO (rows++[(nm,an)]) t=QO rows t:=λt h=>by rw[AG,qA (xJ h),zU]
 have u:QO (rows++[(nm,an)]) an=QO rows an++[nm]:=by rw[AG,qG rfl]
 have m:Qv b (Sum.inr ("":qb))=none:=by
  by_cases h:an=""
  .rw[emp h];exact i.e_
  .rw[c "" (xJ h)];exact i.e_
 refine⟨k,n,o,i.lr,NR i.nd s,by rw[qz,qS];omega,l,λt v e=>?_,λt q e=>?_,m,λt t' d f g=>?_⟩
 .by_cases h:t=an
  .subst h;have h0:t≠"":=λz=>by rw[z,m] at e;cases e
   obtain⟨d,j,r,p,w,_⟩:=new h0;rw[j] at e;cases e;rw[u];exact⟨d,U,r,p,w⟩
  .rw[c t h] at e;obtain⟨d,rfl,r,p⟩:=i.ug t v e;rw[ex t h];exact⟨d,U,old t d h e,p⟩
 .by_cases h:t=an
  .subst h;obtain⟨d,j,_⟩:=new q;rw[j] at e;cases e
  .rw[ex t h];rw[c t h] at e;exact i.mR t q e
 .by_cases h:t=an
  .by_cases h':t'=an
   .rw[h,h']
   .subst h;have h0:t≠"":=λz=>by rw[z,m] at f;cases f
    obtain⟨r,j,_,_,_,p⟩:=new h0;rw[j] at f;cases f;rw[c t' h'] at g;exact absurd g (p t' h')
  .by_cases h':t'=an
   .subst h';have h0:t'≠"":=λz=>by rw[z,m] at g;cases g
    obtain⟨r,j,_,_,_,p⟩:=new h0;rw[j] at g;cases g;rw[c t h] at f;exact absurd f (p t h)
   .rw[c t h] at f;rw[c t' h'] at g;exact i.inj t t' d f g
def TH.take{R:qc}{nm:qb}(b:TH a H x dx L R rows kr)(j:up rows nm=some an)
 (c:H' x=some (.ins a.ja dx [(ZT,.ref L),(ZS,.ref R)])) (f:H' L=some (.dK (QR (without rows nm)))) (g:H' R=some (.dK kr))
 (old:∀t d,t≠an->Qv kr (Sum.inr t)=some (.ref d)->H' d=some (.dK (Qo (QO rows t))))
 (new:∀d,Qv kr (Sum.inr an)=some (.ref d)->H' d=some (.dK (Qo ((QO rows an).filter λm=>decide (m≠nm))))):TH a H' x dx L R (without rows nm) kr:=by
 have l:(without rows nm).length<=rows.length:=qY _ _;have hf:=b.few;have ex:∀t,t≠an->QO (without rows nm) t=QO rows t:=λt h=>by rw[Wf];exact Gs (IZ b.nd j h)
 refine⟨c,f,g,b.lr,Xm b.nd,by omega,b.Qce,λt v e=>?_,λt k e=>?_,b.e_,b.inj⟩
 .obtain⟨d,rfl,n,i⟩:=b.ug t v e;by_cases h:t=an
  .subst h;rw[Wf];exact⟨d,U,new d e,i⟩
  .rw[ex t h];exact⟨d,U,old t d h e,i⟩
 .have i:=b.mR t k e;rw[Wf,i];rfl
structure THo(B:Hp)(L R:qc)(kr:qa (Key×V)):Prop where
 hL:B L=none
 hR:B R=none
 hd:∀(t:qb)(d:qc),Qv kr (Sum.inr t)=some (.ref d)->B d=none
inductive THf(a:yL)(B H:Hp)(x:qc)(rows:Rows)(n:Nat):Prop
 |mk:∀(dx L R:qc)(kr:qa (Key×V)),TH a H x dx L R rows kr->rows.length<=n->kr.length<=n->THo B L R kr->Qj B H->THf a B H x rows n
inductive HS(a:yL)(vs:qa V)(H:Hp)(Q:VK)(E:XK):Prop
 |mk:∀(B:Hp)(x dx:qc),vs=[.ref x]->H x=some (.ins a.ja dx [])->(∀c o,B c=some o->H c=some o/\c≠x)->(∀H',THf a B H' x [] 0->Q .non H')->HS a vs H Q E
inductive R3(a:yL)(vs:qa V)(H:Hp)(Q:VK)(E:XK):Prop
 |mk:∀(B:Hp)(x:qc)(rows:Rows)(n:Nat)(nm an:qb),vs=[.ref x,.str nm,.str an]->THf a B H x rows n->n<40->up rows nm=none->(∀H',THf a B H' x (rows++[(nm,an)]) (n+1)->Kp1 H H'->Q .non H')->R3 a vs H Q E
inductive Nu(a:yL)(vs:qa V)(H:Hp)(Q:VK)(E:XK):Prop
 |mk:∀(B:Hp)(x:qc)(rows:Rows)(n:Nat)(nm:qb),vs=[.ref x,.str nm]->THf a B H x rows n->nm∈rows.map (·.1)->(∀H',THf a B H' x (without rows nm) n->Kp1 H H'->Q .non H')->Nu a vs H Q E
def Pk(F:zT K Zf "Threads.__init__" VC a.x9 fd)(T:Txt K mg a):QQ P w K mg base j6 1 a.x9 fd [ZZ] (HS a):=by
 refine F.ok BE (λn A outer st H vs Q E r h=>?_)
 .obtain⟨B,x,dx,rfl,m,j,k⟩:=h;refine⟨_,(Qd (YF (pv 0) Yc rfl)
   (Qe (YF (pv 0) Yc rfl))),?_⟩
  intro L i;have ne1:x≠L:=Qb m i;refine⟨_,U,x,_,dx,_,U,(by rw[Qa ne1];exact m),T.zS,T.jl,by decide,?_⟩;intro R f;have g:(upd (upd H L (.dK [])) x (.ins a.ja dx (QJ ZT (.ref L) []))) x=some (.ins a.ja dx (QJ ZT (.ref L) [])):=Qc;have l:(upd (upd H L (.dK [])) x (.ins a.ja dx (QJ ZT (.ref L) []))) L=some (.dK []):=by rw[Qa ne1.symm];exact Qc
  have ne2:x≠R:=Qb g f;have ne3:L≠R:=Qb l f;refine⟨_,U,x,_,dx,_,U,(by rw[Qa ne2];exact g),T.zS,T.jx,(by show 1<1000;decide),?_⟩;refine k _ ⟨dx,L,R,[],⟨Qc,?_,?_,ne3,by simp,by decide,by decide,λt v z=>(by cases z),λ_ _ _=>rfl,rfl,λ_ _ _ z=>(by cases z)⟩,qD _,qD _,⟨?_,?_,λt d z=>(by cases z)⟩,λc o e=>?_⟩
  .rw[Qa ne1.symm,Qa ne3,Qa ne1.symm];exact Qc
  .rw[Qa ne2.symm];exact Qc
  .cases q:B L with
   |none=>rfl
   |some o=>have:=(j L o q).1;rw[i] at this;cases this
  .cases q:B R with
   |none=>rfl
   |some o=>
    obtain⟨b,p⟩:=j R o q;rw[Qa p,Qa ne3.symm,b] at f;cases f
  .obtain⟨b,ne⟩:=j c o e;rw[Qa ne,Qa (Qb (by rw[Qa ne,Qa (Qb b i)];exact b) f),Qa ne,Qa (Qb b i)];exact b
def bM(F:Aq K JB "Threads.add" Wa a.vc fd)(T:Txt K mg a)(FF:YC K a):QQ P w K mg base j6 2 a.vc fd [ZZ,ZJ,Zr] (R3 a):=by
 obtain⟨fdC,jD,vr⟩:=FF.jD;have vt:=@My P w K mg base a _ jD T;refine F.ok CH (λcdv A outer st H vs Q E hr h=>?_)
 .obtain⟨B,x,rows,n,nm,an,rfl,⟨dx,L,R,kr,f,hl1,hl2,C,sB⟩,hn40,G,k⟩:=h;have I:=Q9 hr;have xW:QG 1 _:=hr;refine⟨_,(Qd (Qy (Ql vt xW rfl T.uX jD.kp vr .nil Qm (zg (pv 1) (zg (Qk (pv 0) U) Qf))))
   (Qd (Yp I (Qk (pv 0) U) (pv 1) (pv 2) U)
   (Qe (QU (Qt Bp (pv 2) Qp) (Qd (QU (UM (U8 I (pv 2) (Qk (pv 0) U))) (Qe (Yp I (Qk (pv 0) U) (pv 2) Yc rfl)) QD)
   (Qe (Yp I (Qz I (Qk (pv 0) U) (pv 2)) (pv 1) YX rfl))) QD)))),?_⟩
  have xL:x≠L:=λz=>by have J:=f.obj;rw[z,f.lk] at J;cases J
  have xR:x≠R:=λz=>by have J:=f.obj;rw[z,f.rp] at J;cases J
  refine⟨_,U,_,U,x,_,dx,_,_,U,f.obj,T.zS,T.jl,Ux L R,nm,L,_,U,f.lk,(by rw[Yz,G];rfl),?_⟩;refine⟨_,U,_,U,x,_,dx,_,_,U,f.obj,T.zS,T.jl,Ux L R,_,U,L,_,U,UN.k (k:=Sum.inr nm) f.lk (by rw[QR,qh];exact QF (by omega)),?_⟩;rw[IC G];have S:Kp1 H (upd H L (.dK (QR (rows++[(nm,an)])))):=Kp1.upd f.lk;have b:(upd H L (.dK (QR (rows++[(nm,an)])))) x=some (.ins a.ja dx [(ZT,.ref L),(ZS,.ref R)]):=by rw[Qa xL];exact f.obj
  have i:(upd H L (.dK (QR (rows++[(nm,an)])))) R=some (.dK kr):=by rw[Qa f.lr.symm];exact f.rp
  have j:(upd H L (.dK (QR (rows++[(nm,an)])))) L=some (.dK (QR (rows++[(nm,an)]))):=Qc;have g:∀t d,Qv kr (Sum.inr t)=some (.ref d)->(upd H L (.dK (QR (rows++[(nm,an)])))) d=some (.dK (Qo (QO rows t)))/\d≠L/\d≠R:=λt d e=>by
   obtain⟨d',M,m,l,r⟩:=f.ug t _ e;cases M;exact⟨by rw[Qa l];exact m,l,r⟩
  have up1:∀c o,H c=some o->c≠L->(upd H L (.dK (QR (rows++[(nm,an)])))) c=some o:=λc o e ne=>by rw[Qa ne];exact e
  generalize upd H L (.dK (QR (rows++[(nm,an)])))=H1 at S b i j g up1;have y:Qj B H1:=λc o e=>up1 c o (sB c o e) (Qb e C.hL);have l:(rows++[(nm,an)]).length<=n+1:=by rw[qz,qS];omega
  refine⟨_,U,U,_,U,?_⟩;by_cases m:an=""
  .have e:decide (V.str an=V.str "")=true:=by rw[m];simp
   rw[e];exact QV (k H1 ⟨dx,L,R,kr,f.add G (by omega) b j i f.Qce (λt d _ e=>(g t d e).1) (λ_ _=>rfl) (λz=>absurd m z) (λ_=>rfl),l,by omega,C,y⟩ S)
  .have e:decide (V.str an=V.str "")=false:=by simp[m]
   rw[e];have N:¬nm∈QO rows an:=λz=>VA.mp G (W9 z);refine Yj ⟨_,U,_,U,x,_,dx,_,_,U,b,T.zS,T.jx,UJ L R,R,_,U,Q5.k (k:=Sum.inr an) i,_,U,?_⟩
   cases s:Qv kr (Sum.inr an) with
   |none=>
    refine Yj ?_;intro p u;have X:x≠p:=Qb b u;have Lp:L≠p:=Qb j u;have Y:R≠p:=Qb i u;refine⟨_,U,x,_,dx,_,_,U,(by rw[Qa X];exact b),T.zS,T.jx,UJ L R,_,U,R,_,U,UN.k (k:=Sum.inr an) (by rw[Qa Y];exact i) (QF (by omega)),?_⟩;rw[X6 _ s];have vk:∀t,Qv (kr++[(Sum.inr an,V.ref p)]) (Sum.inr t)=if (Sum.inr t:Key)=Sum.inr an then some (V.ref p) else Qv kr (Sum.inr t):=λt=>As _ _ _ _ s
    have D:Qv (kr++[(Sum.inr an,V.ref p)]) (Sum.inr an)=some (V.ref p):=by rw[vk,qG rfl]
    have O:∀t,t≠an->Qv (kr++[(Sum.inr an,V.ref p)]) (Sum.inr t)=Qv kr (Sum.inr t):=λt h=>by rw[vk,qA (λz=>h (jH z))]
    have rp2:(upd (upd H1 p (.dK [])) R (.dK (kr++[(Sum.inr an,V.ref p)]))) R=some (.dK (kr++[(Sum.inr an,V.ref p)])):=Qc;have dp2:(upd (upd H1 p (.dK [])) R (.dK (kr++[(Sum.inr an,V.ref p)]))) p=some (.dK []):=by rw[Qa Y.symm];exact Qc
    refine⟨_,U,x,_,dx,_,_,U,(by rw[Qa xR,Qa X];exact b),T.zS,T.jx,UJ L R,_,U,R,_,U,(by rw[<-D];exact Q5.k (k:=Sum.inr an) rp2),_,U,p,_,U,UN.k (k:=Sum.inr nm) dp2 (by decide),?_⟩;have ek:Ye ([]:qa (Key×V)) (Sum.inr nm) (.bl true)=Qo [nm]:=rfl;rw[ek];refine k _ ⟨dx,L,R,_,f.add G (by omega) ?_ ?_ ?_ ?_ ?_ O ?_ ?_,l,?_,?_,?_⟩ ?_
    .rw[Qa X,Qa xR,Qa X];exact b
    .rw[Qa Lp,Qa f.lr,Qa Lp];exact j
    .rw[Qa Y];exact Qc
    .rw[qz,qS];omega
    .intro t d h e;obtain⟨r,q2,Z⟩:=g t d e;rw[Qa (Qb r u),Qa Z,Qa (Qb r u)];exact r
    .intro _;have er:QO rows an=[]:=f.mR an m s;refine⟨p,D,?_,Lp.symm,Y.symm,λt h e=>?_⟩
     .rw[Qc,er];rfl
     .obtain⟨r,_,_⟩:=g t p e;rw[u] at r;cases r
    .exact λz=>absurd z m
    .rw[qz,qS];omega
    .refine⟨C.hL,C.hR,λt d e=>?_⟩;by_cases h:t=an
     .rw[h,D] at e;cases e
      cases q:B p with
      |none=>rfl
      |some o=>have:=y p o q;rw[u] at this;cases this
     .rw[O t h] at e;exact C.hd t d e
    .intro c o e;have M:=y c o e;rw[Qa (Qb M u),Qa (Qb e C.hR),Qa (Qb M u)];exact M
    .refine S.trans λc o e nd=>?_;have M:c≠p:=Qb e u;have cR:c≠R:=λz=>by rw[z,i] at e;cases e;exact nd _ rfl
     rw[Qa M,Qa cR,Qa M];exact e
   |some v=>
    obtain⟨d,rfl,_,_,_⟩:=f.ug an v s;obtain⟨r,q2,Z⟩:=g an d s;refine QV ?_;have u:=X4 rows an;refine⟨_,U,x,_,dx,_,_,U,b,T.zS,T.jx,UJ L R,_,U,R,_,U,(by rw[<-s];exact Q5.k (k:=Sum.inr an) i),_,U,d,_,U,UN.k (k:=Sum.inr nm) r (by rw[Qo,qh];exact QF (by omega)),?_⟩;rw[X5 N];have xd:x≠d:=λz=>by rw[<-z,b] at r;cases r
    refine k _ ⟨dx,L,R,kr,f.add G (by omega) ?_ ?_ ?_ f.Qce ?_ (λ_ _=>rfl) ?_ (λ_=>rfl),l,by omega,C,λc o e=>by rw[Qa (Qb e (C.hd an d s))];exact y c o e⟩ (S.trans (Kp1.upd r))
    .rw[Qa xd];exact b
    .rw[Qa q2.symm];exact j
    .rw[Qa Z.symm];exact i
    .intro t d' h e;obtain⟨D,_,_⟩:=g t d' e;have:d'≠d:=λz=>h (f.inj t an d (by rw[<-z];exact e) s);rw[Qa this];exact D
    .intro _;refine⟨d,s,Qc,q2,Z,λt h e=>h (f.inj t an d e s)⟩
def SQ(F:zT K Zo "Threads.take_out" Um a.yy fd)(T:Txt K mg a)(J:YC K a):QQ P w K mg base j6 2 a.yy fd [ZZ,ZJ] (Nu a):=by
 obtain⟨M,qP,zv⟩:=J.qP;have zw:=@Uw P w K mg base a _ qP T;refine F.ok V4 (λN A outer st H vs Q E G h=>?_)
 .obtain⟨B,x,rows,n,nm,rfl,C,hm,k⟩:=h;obtain⟨dx,L,R,kr,b,O,r,y,sB⟩:=id C;have S:=Q9 G;have zD:QG 1 _:=G;refine⟨_,(Qd (Qy (Ql zw zD rfl T.jk qP.kp zv .nil Qm (zg (pv 1) (zg (Qk (pv 0) U) Qf))))
   (Qd (Qs (i:=2) V4.nd (UP (Qk (pv 0) U) (pv 1) ⟨U,U,U,U⟩))
   (Qe (QU (Qt Bp (pv 2) Qp) (Qe (Qy (UP (Qz S (Qk (pv 0) U) (pv 2)) (pv 1) ⟨U,U,U,U⟩))) QD)))),?_⟩
  have xL:x≠L:=λz=>by have I:=b.obj;rw[z,b.lk] at I;cases I
  obtain⟨an,s⟩:=Vz hm;have X:(without rows nm).length<=rows.length:=qY _ _;refine⟨_,U,_,U,x,_,dx,_,_,U,b.obj,T.zS,T.jl,Ux L R,nm,L,_,_,U,b.lk,(by rw[Yz,s];rfl),?_⟩;refine⟨_,U,x,_,dx,_,_,U,b.obj,T.zS,T.jl,Ux L R,L,U,.inl ⟨_,.inl b.lk⟩,_,U,_,Sum.inr nm,.str an,b.lk,U,(by rw[Yz,s];rfl),?_⟩;rw[KR];have D:Kp1 H (upd H L (.dK (QR (without rows nm)))):=Kp1.upd b.lk;have f:(upd H L (.dK (QR (without rows nm)))) x=some (.ins a.ja dx [(ZT,.ref L),(ZS,.ref R)]):=by rw[Qa xL];exact b.obj
  have j:(upd H L (.dK (QR (without rows nm)))) R=some (.dK kr):=by rw[Qa b.lr.symm];exact b.rp
  have p:(upd H L (.dK (QR (without rows nm)))) L=some (.dK (QR (without rows nm))):=Qc;have g:∀t d,Qv kr (Sum.inr t)=some (.ref d)->(upd H L (.dK (QR (without rows nm)))) d=some (.dK (Qo (QO rows t)))/\d≠L/\d≠R:=λt d e=>by
   obtain⟨d',m,q,l,u⟩:=b.ug t _ e;cases m;exact⟨by rw[Qa l];exact q,l,u⟩
  have q:Qj B (upd H L (.dK (QR (without rows nm)))):=λc o e=>by rw[Qa (Qb e y.hL)];exact sB c o e
  generalize upd H L (.dK (QR (without rows nm)))=H1 at D f j p g q;refine⟨_,U,U,_,U,?_⟩;by_cases l:an=""
  .have e:decide (V.str an=V.str "")=true:=by rw[l];simp
   rw[e];refine QV (k H1 ⟨dx,L,R,kr,b.take s f p j (λt d _ e=>(g t d e).1) (λd e=>?_),by omega,r,y,q⟩ D);rw[l,b.e_] at e;cases e
  .have e:decide (V.str an=V.str "")=false:=by simp[l]
   rw[e];have inr:=Hl s;obtain⟨v,m⟩:∃v,Qv kr (Sum.inr an)=some v:=by
    cases m:Qv kr (Sum.inr an) with
    |none=>
     have:=b.mR an l m;rw[this] at inr;cases inr
    |some v=>exact⟨v,U⟩
   obtain⟨d,rfl,_,_,_⟩:=b.ug an v m;obtain⟨u,Y,Z⟩:=g an d m;have xd:x≠d:=λz=>by rw[<-z,f] at u;cases u
   refine Yj ⟨_,U,x,_,dx,_,_,U,f,T.zS,T.jx,UJ L R,_,U,R,_,U,(by rw[<-m];exact Q5.k (k:=Sum.inr an) j),d,U,.inl ⟨_,.inl u⟩,_,U,_,Sum.inr nm,.bl true,u,U,(by rw[Vc,qG inr]),?_⟩;rw[Wn];refine k _ ⟨dx,L,R,kr,b.take s ?_ ?_ ?_ ?_ ?_,by omega,r,y,λc o e=>by rw[Qa (Qb e (y.hd an d m))];exact q c o e⟩ (D.trans (Kp1.upd u))
   .rw[Qa xd];exact f
   .rw[Qa Y.symm];exact p
   .rw[Qa Z.symm];exact j
   .intro t d' h e;obtain⟨z1,_,_⟩:=g t d' e;have:d'≠d:=λz=>h (b.inj t an d (by rw[<-z];exact e) m);rw[Qa this];exact z1
   .intro d' e;rw[m] at e;cases e;exact Qc
inductive NB(a:yL)(vs:qa V)(H:Hp)(Q:VK)(E:XK):Prop
 |mk:∀x rows n,vs=[.ref x]->THs a H x rows n->(∀l H',H l=none->Qj H H'->H' l=some (.lst ((Qx (rows.map (·.1))).map V.str))->Q (.ref l) H')->NB a vs H Q E
inductive Ii(a:yL)(vs:qa V)(H:Hp)(Q:VK)(E:XK):Prop
 |mk:∀x rows n nm,vs=[.ref x,.str nm]->THs a H x rows n->nm≠""->(∀l H',H l=none->Qj H H'->H' l=some (.lst ((rz rows nm).map V.str))->Q (.ref l) H')->Ii a vs H Q E
inductive HP(a:yL)(vs:qa V)(H:Hp)(Q:VK)(E:XK):Prop
 |mk:∀x rows n nm,vs=[.ref x,.str nm]->THs a H x rows n->NoE rows->nm∈rows.map (·.1)->(∀l H',H l=none->Qj H H'->H' l=some (.lst ((Yk rows nm).map V.str))->Q (.ref l) H')->HP a vs H Q E
def IP(F:zT K Zl "Threads.names" Vj a.xo fd)(T:Txt K mg a):QQ P w K mg base j6 1 a.xo fd [ZZ] (NB a):=by
 refine F.ok AA (λe A outer st H vs Q E f h=>?_)
 .obtain⟨x,rows,n,rfl,⟨dx,L,R,kr,b,_,_⟩,k⟩:=h;have c:=b.few;refine⟨_,(Qe (Qu (QC (Yg rfl) rfl T.jQ boot_sorted (zg (Qk (pv 0) U) Qf)))),?_⟩;refine⟨_,U,x,_,dx,_,_,U,b.obj,T.zS,T.jl,Ux L R,L,QR rows,rows.map (·.1),U,b.lk,?_,by rw[qh];omega,λl d=>k l _ d (Qj.zk d) Qc⟩;unfold QR;rw[qV,qV];rfl
def Pw(F:zT K ZZg "Threads.beside" UT a.yU fd)(T:Txt K mg a):QQ P w K mg base j6 1 a.yU fd [ZZ,ZJ] (Ii a):=by
 refine F.ok Vg (λt A outer st H vs Q E u h=>?_)
 .obtain⟨x,rows,n,nm,rfl,⟨dx,L,R,kr,b,_,_⟩,m,k⟩:=h;have q:=Q9 u;have r:=b.few;have y:=X4 rows nm;refine⟨_,(Qd (Qs (i:=2) Vg.nd (Ui (Ko rfl) rfl T.QaR boot_list (zg (Vp q (Qk (pv 0) U) (pv 1) Yc ⟨U,U,U,U⟩) Qf)))
   (Qd (Qs (i:=3) Vg.nd (Vp q (Qk (pv 0) U) (pv 1) Qp ⟨U,U,U,U⟩))
   (Qd (QU (Qt Bp (pv 3) Qp) (Qe (Qy (V5 plainAttrs_list zZ z5 Uj (pv 2) (zg (pv 3) Qf)))) QD)
   (Qe (Qu (pv 2)))))),?_⟩
  refine⟨_,U,x,_,dx,_,_,U,b.obj,T.zS,T.jx,UJ L R,R,U,.inl ⟨kr,.inl b.rp⟩,_,U,λp z=>?_⟩;have s1:Qj H (upd H p (.dK [])):=Qj.zk z;refine⟨_,Q5.k (k:=Sum.inr nm) (s1 _ _ b.rp),?_⟩;have fin:∀(l:qc)(g:Hp),H l=none->Qj H g->g l=some (.lst ((QO rows nm).map V.str)) ->
   ∃v,Qv (QR rows) (Sum.inr nm)=v:=λ_ _ _ _ _=>⟨_,U⟩
  have hd:∃(d:qc),(match Qv kr (Sum.inr nm) with|some v=>v|none=>V.ref p)=V.ref d/\(upd H p (.dK [])) d=some (.dK (Qo (QO rows nm))):=by
   cases c:Qv kr (Sum.inr nm) with
   |none=>exact⟨p,U,by rw[Qc,b.mR nm m c];rfl⟩
   |some v=>
    obtain⟨d,rfl,hd,_⟩:=b.ug nm v c;exact⟨d,U,s1 _ _ hd⟩
  obtain⟨d,s,o⟩:=hd;refine⟨d,Qo (QO rows nm),by first|(rw[<-s];cases Qv kr (Sum.inr nm)<;>rfl)|(rw[<-s]),o,λl B=>?_⟩;have C:(Qo (QO rows nm)).map (λD=>kV D.1)=(QO rows nm).map V.str:=by unfold Qo;rw[qV];rfl
  rw[C];have nl:H l=none:=s1.free B;have s2:Qj H (upd (upd H p (.dK [])) l (.lst ((QO rows nm).map V.str))):=s1.z6 nl;have j:(upd (upd H p (.dK [])) l (.lst ((QO rows nm).map V.str))) l=some (.lst ((QO rows nm).map V.str)):=Qc;generalize upd (upd H p (.dK [])) l (.lst ((QO rows nm).map V.str))=g at s2 j;refine⟨_,U,x,_,dx,_,_,U,s2 _ _ b.obj,T.zS,T.jl,Ux L R,L,U,.inl ⟨_,.inl (s2 _ _ b.lk)⟩,_,U,_,Q5.k (k:=Sum.inr nm) (s2 _ _ b.lk),?_⟩;rw[Yz]
  cases f:up rows nm with
  |none=>
   refine⟨_,U,U,_,U,QV ⟨_,U,k l g nl s2 ?_⟩⟩;rw[j,rz,upL,f];simp
  |some an=>
   refine⟨_,U,U,_,U,?_⟩;by_cases c:an=""
   .have e:decide (V.str an=V.str "")=true:=by rw[c];simp
    show(if (!decide (V.str an=V.str ""))=true then _ else _);rw[e];refine QV ⟨_,U,k l g nl s2 ?_⟩;rw[j,rz,upL,f];simp[c]
   .have e:decide (V.str an=V.str "")=false:=by simp[c]
    show(if (!decide (V.str an=V.str ""))=true then _ else _);rw[e];refine Yj ⟨_,U,.inl ⟨U,_,zN.of j⟩,_,U,l,_,_,U,U,j,(by rw[qh];exact QF (by omega)),?_⟩;refine⟨_,U,k l _ nl (s2.z6 nl) ?_⟩;rw[Qc,rz,upL,f];simp[c]
def E8{n here:qb}{seen rc a:qe}(d:Kr rows n here seen rc a)(b:n∈rows.map (·.1)):rc.length<=2*rows.length:=by
 have:=YS d.nd λm hm=>Iv b (d.sound m hm);unfold dA at this;rw[qz,qh,qh] at this;omega
def Pl(F:zT K ZZh "Threads.thread" Ub a.yT fd)(T:Txt K mg a)(FF:YC K a):QQ P w K mg base j6 2 a.yT fd [ZZ,ZJ] (HP a):=by
 obtain⟨fdC,qP,zv⟩:=FF.qP;obtain⟨fdB,F_b,ni⟩:=FF.oe;have zw:=@Uw P w K mg base a _ qP T;have nV:=@Pw P w K mg base a _ F_b T;refine F.ok YQ (λcdv A outer st H vs Q E hr h=>?_)
 .obtain⟨x,rows,n,nm,rfl,M,O,hm,k⟩:=h;obtain⟨dx,L,R,kr,s,hl1,hl2⟩:=id M;have hfew:=s.few;have hu:=Q9 hr;have zD:QG 1 _:=hr;have mi:QG 1 _:=hr;have nm0:nm≠"":=O nm hm;refine⟨_,(Qd (Qy (Ql zw zD rfl T.jk qP.kp zv .nil Qm (zg (pv 1) (zg (Qk (pv 0) U) Qf))))
   (Qd (Qs (i:=2) YQ.nd (Ob (Xb (pv 1) YX N8) rfl rfl (by simp) (by decide)))
   (Qd (Qs (i:=3) YQ.nd (KD (Qh (pv 1) QA)))
   (Qd (CN zo (CM (pv 3) (λ_=>rfl)) (Qd (Qs (i:=4) YQ.nd (CS plainAttrs_list slot_list_pop type_list_pop fG (pv 3)))
     (Qe (YW zo rfl (Yv (QL (pv 0) T.zS T.nI nV mi ni .nil Qm (zg (pv 4) Qf))) (Q8 (i:=5) YQ.nd) (Qe (QU (UM (U8 hu (pv 5) (pv 2))) (Qd (Yp hu (pv 2) (pv 5) YX rfl) (Qe (Qy (V5 plainAttrs_list zZ z5 Uj (pv 3) (zg (pv 5) Qf))))) QD))))))
   (Qe (KA (Qu (QC VX rfl T.jQ boot_sorted (zg (VL (sc:=Qg Ub) (N:=Xe) (fr:=[(0,ZZ)]) (cs_ rfl rfl) rfl rfl rfl (bw (pv 2)) (λ_ _ _ _=>Wg (UM (Ka hu (pv 0) (FK K (pv 1) U)))) (λ_ _ _ _=>(pv 0))) Qf))))))))),?_⟩
  obtain⟨an,eu⟩:=Vz hm;refine⟨_,U,_,U,x,_,dx,_,_,U,s.obj,T.zS,T.jl,Ux L R,nm,L,_,_,U,s.lk,(by rw[Yz,eu];rfl),?_⟩;intro p I;refine⟨_,U,Qc,[(Sum.inr nm,.bl true)],U,(by show 1<=15;decide),?_⟩;have ek:WZ [] [(Sum.inr nm,V.bl true)]=Qo [nm]:=rfl;rw[ek,Kt];have s1:Qj H (upd H p (.dK (Qo [nm]))):=Qj.zk I;have p1:(upd H p (.dK (Qo [nm]))) p=some (.dK (Qo [nm])):=Qc;show Ua _ _ _ _ (upd H p (.dK (Qo [nm])));generalize upd H p (.dK (Qo [nm]))=H1 at s1 p1;refine⟨_,U,Ry,λq hq=>?_⟩;have qn:H q=none:=s1.free hq;have pq:p≠q:=Qb p1 hq;have s2:Qj H (upd H1 q (.lst [.str nm])):=s1.z6 qn;have p2:(upd H1 q (.lst [.str nm])) p=some (.dK (Qo [nm])):=by rw[Qa pq];exact p1
  have q2:(upd H1 q (.lst [.str nm])) q=some (.lst ([nm].map V.str)):=Qc;show Ua _ _ _ _ (upd H1 q (.lst [.str nm]));generalize upd H1 q (.lst [.str nm])=H2 at s2 p2 q2;refine⟨λm σ g=>∃(rc u:qe)(o4 o5:Option V),m=2*(2*rows.length-rc.length)+u.length/\m<=200/\σ=[some (.ref x),some (.str nm),some (.ref p),some (.ref q),o4,o5]/\Qj H g/\g p=some (.dK (Qo rc))/\g q=some (.lst (u.map V.str))/\DFS rows nm rc u,
   ⟨_,[nm],[nm],none,none,U,by show 2*(2*rows.length-1)+1<=200;omega,U,s2,p2,q2,DFS.init⟩,?_⟩
  rintro m σ g ⟨rc,u,o4,o5,rfl,C,rfl,s3,p3,q3,d⟩;have dl:=d.len hm;refine⟨_,U,!(u.map V.str).isEmpty,.inl ⟨_,zN.of q3,U⟩,?_⟩;by_cases hw:u=[]
  .subst hw;refine QV ?_;refine⟨p,Qo rc,p3,λb=>?_⟩;have S:x≠p:=Qb s.obj I;have X:L≠p:=Qb s.lk I;have c:(upd g p (.jF b (.dK (Qo rc)))) x=some (.ins a.ja dx [(ZT,.ref L),(ZS,.ref R)]):=by rw[Qa S];exact s3 _ _ s.obj
   have j:(upd g p (.jF b (.dK (Qo rc)))) L=some (.dK (QR rows)):=by rw[Qa X];exact s3 _ _ s.lk
   have s4:Qj H (upd g p (.jF b (.dK (Qo rc)))):=s3.z6 I;have B:(upd g p (.jF b (.dK (Qo rc)))) p=some (.jF b (.dK (Qo rc))):=Qc;generalize upd g p (.jF b (.dK (Qo rc)))=H4 at c j s4 B;refine⟨_,U,p,b,Qo rc,U,B,Kn (xs:=rc) V.str (λy=>decide (y∈rows.map (·.1))) V.str (Ya ((by omega))) B (by unfold Qo;rw[qV];rfl) ?_ ?_ ?_⟩
   .intro y H5 Q' hy s5 f;refine⟨_,U,_,U,x,_,dx,_,_,U,s5 _ _ c,T.zS,T.jl,Ux L R,L,_,U,Q5.k (k:=Sum.inr y) (s5 _ _ j),_,U,?_⟩;rw[Yz]
    cases e:up rows y with
    |none=>
     rw[qF (VA.mp e)] at f;exact f
    |some z=>
     rw[qu (qj.mpr ⟨_,WV e,U⟩)] at f;exact f
   .intro y H5 Q' hy s5 _ f;exact⟨_,U,f⟩
   .intro D J;have f:=YS (d.nd.filter (λy=>decide (y∈rows.map (·.1)))) (l:=rows.map (·.1)) λm hm=>qo (qr.mp hm).2;rw[qh] at f;refine⟨D,_,U,zN.of Qc,by omega,λl r=>?_⟩;have Y:p≠D:=Qb B J;have G:(upd H4 D (.lst ((rc.filter λy=>decide (y∈rows.map (·.1))).map V.str))) p=some (.jF b (.dK (Qo rc))):=by rw[Qa Y];exact B
    have s5:Qj H (upd H4 D (.lst ((rc.filter λy=>decide (y∈rows.map (·.1))).map V.str))):=s4.z6 (s4.free J);generalize upd H4 D (.lst ((rc.filter λy=>decide (y∈rows.map (·.1))).map V.str))=H5 at r G s5;have pl:p≠l:=Qb G r;have nl:H l=none:=s5.free r;refine⟨by rw[Qa pl];exact G,?_⟩;refine k l _ nl ((s5.z6 nl).z6 I) ?_;rw[Qa pl.symm,Qc,d.done s.nd]
  .obtain⟨c,here,rfl⟩:∃c here,u=c++[here]:=⟨u.dropLast,u.getLast hw,(List.dropLast_concat_getLast hw).symm⟩;have hk:(!((c++[here]).map V.str).isEmpty)=true:=by simp
   rw[hk];rw[qz,qS] at C;refine Yj ⟨_,λσ' H' z=>z,?_⟩;refine⟨_,U,.inl ⟨U,_,zN.of q3⟩,q,_,.str here,U,U,q3,by simp,?_⟩;have edl:((c++[here]).map V.str).dropLast=c.map V.str:=by simp
   rw[edl];have s4:Qj H (upd g q (.lst (c.map V.str))):=s3.z6 qn;have B:(upd g q (.lst (c.map V.str))) p=some (.dK (Qo rc)):=by rw[Qa pq];exact p3
   have q4:(upd g q (.lst (c.map V.str))) q=some (.lst (c.map V.str)):=Qc;generalize upd g q (.lst (c.map V.str))=H4 at s4 B q4⊢;have S:=M.kp2 s4.kp2;have hh:here∈rc:=d.sub here (by simp);have h0:here≠"":=(d.sound here hh).ne O nm0;refine⟨_,U,x,dx,_,U,s4 _ _ s.obj,U,_,U,x,rows,n,here,U,S,h0,λl H5 nl s5 el=>?_⟩;have lp:l≠p:=(Qb B nl).symm;have lq:l≠q:=(Qb q4 nl).symm;refine⟨l,U,⟨_,zN.of el⟩,YB (K:=K) (a:=l) (xs:=(rz rows here).map V.str) (λi σ j=>Ex3 λ(b f:qe)(o:Option V)=>gu (σ=[some (.ref x),some (.str nm),some (.ref p),some (.ref q),some (.str here),o]) (Qj H j) (j p=some (.dK (Qo b))) (j q=some (.lst (f.map V.str))) (j l=some (.lst ((rz rows here).map V.str))) (Kr rows nm here ((rz rows here).take i) b f) (2*(2*rows.length-b.length)+f.length<=2*(2*rows.length-rc.length)+c.length))
    ⟨rc,c,o5,U,s4.trans s5,s5 _ _ B,s5 _ _ q4,el,by simpa using d.pop,qD _⟩ ?_ ?_ ?_⟩
   .rintro i σ j _ ⟨b,f,o,rfl,X,J,Y,Z,G,m6⟩;exact zN.of Z
   .rintro i v σ j hv ⟨b,f,o,rfl,X,J,Y,Z,G,m6⟩;obtain⟨y,hy,rfl⟩:∃y,(rz rows here)[i]?=some y/\V.str y=v:=by
     rw[qQ] at hv
     cases e:(rz rows here)[i]? with
     |none=>rw[e] at hv;cases hv
     |some t=>rw[e] at hv;exact⟨t,U,qN hv⟩
    have et:(rz rows here).take (i+1)=(rz rows here).take i++[y]:=by rw[zm,hy];rfl
    have ym:y∈rz rows here:=qM hy;have l6':=E8 G hm;refine⟨_,U,_,U,p,_,U,Q5.k (k:=Sum.inr y) J,_,U,?_⟩;rw[Vc];by_cases r:y∈b
    .rw[qG r];refine QV ⟨b,f,_,U,X,J,Y,Z,?_,m6⟩;rw[et];exact G.old r
    .rw[qA r];refine Yj ⟨_,U,_,U,p,_,U,UN.k (k:=Sum.inr y) J (by rw[Qo,qh];exact QF (by omega)),?_⟩;rw[X5 r];have d7:=G.new r ym;have l7:=E8 d7 hm;rw[qz,qS] at l7;have s7:Qj H (upd j p (.dK (Qo (b++[y])))):=X.z6 I;have q7:(upd j p (.dK (Qo (b++[y])))) q=some (.lst (f.map V.str)):=by rw[Qa pq.symm];exact Y
     have p7:(upd j p (.dK (Qo (b++[y])))) p=some (.dK (Qo (b++[y]))):=Qc;have l7':(upd j p (.dK (Qo (b++[y])))) l=some (.lst ((rz rows here).map V.str)):=by rw[Qa lp];exact Z
     generalize upd j p (.dK (Qo (b++[y])))=H7 at s7 q7 p7 l7';refine⟨_,U,.inl ⟨U,_,zN.of q7⟩,_,U,q,_,_,U,U,q7,(by rw[qh];exact QF (by omega)),?_⟩;refine⟨b++[y],f++[y],_,U,s7.z6 qn,by rw[Qa pq];exact p7,by rw[Qc,qJ];rfl,by rw[Qa lq];exact l7',?_,?_⟩
     .rw[et];exact d7
     .rw[qz,qz,qS];omega
   .rintro σ j ⟨b,f,o,rfl,X,J,Y,Z,G,m6⟩;rw[qh,ji] at G;refine⟨_,?_,b,f,_,_,U,by omega,U,X,J,Y,G.out⟩;rw[qz,qS];omega
def Xl(H:Hp)(l:qc)(ls:qa (qc×qe)):Prop:=H l=some (.lst (ls.map λp=>V.ref p.1))/\∀p∈ls,H p.1=some (.lst (p.2.map V.str))
inductive Ek(a:yL)(vs:qa V)(H:Hp)(Q:VK)(E:XK):Prop
 |mk:∀x rows n,vs=[.ref x]->THs a H x rows n->NoE rows->(∀l H' ls,H l=none->Qj H H'->(∀p∈ls,H p.1=none/\p.1≠l)->ls.map (·.2)=Ve rows (Qx (rows.map (·.1)))->Xl H' l ls->Q (.ref l) H')->Ek a vs H Q E
def Mw(F:zT K J3 "Threads.threads" UC a.yH fd)(T:Txt K mg a)(FF:YC K a):QQ P w K mg base j6 3 a.yH fd [ZZ] (Ek a):=by
 obtain⟨fdN,F_n,vB⟩:=FF.uL;obtain⟨fdT,F_t,mZ⟩:=FF.n9;have vD:=@IP P w K mg base a _ F_n T;have nU:=@Pl P w K mg base a _ F_t T FF;refine F.ok Ys (λcdv A outer st H vs Q E hr h=>?_)
 .obtain⟨x,rows,n,rfl,I,hne,k⟩:=h;obtain⟨dx,L,R,kr,th,hl1,hl2⟩:=id I;have hfew:=th.few;have hu:=Q9 hr;have mU:QG 1 _:=hr.mono;have mh:QG 2 _:=hr;refine⟨_,(Qd (Qs (i:=1) Ys.nd (KD QA))
   (Qd (Qs (i:=2) Ys.nd Yc)
   (Qd (YW zo rfl (Yv (Ud (pv 0) T.zS T.uJ vD mU vB .nil Qm)) (Q8 (i:=3) Ys.nd) (Qe (QU (UM (U8 hu (pv 3) (pv 2))) (Qd (Qs (i:=4) Ys.nd (QL (pv 0) T.zS T.nH nU mh mZ .nil Qm (zg (pv 3) Qf)))
   (Qd (Qy (V5 plainAttrs_list zZ z5 Uj (pv 1) (zg (pv 4) Qf)))
   (Qe (YW zo rfl (Yv (pv 4)) (Q8 (i:=5) Ys.nd) (Qe (Yp hu (pv 2) (pv 5) YX rfl)))))) QD)))
   (Qe (Qu (pv 1)))))),?_⟩
  refine⟨de,λq hq=>?_⟩;have s1:Qj H (upd H q (.lst [])):=Qj.zk hq;have q1:(upd H q (.lst [])) q=some (.lst []):=Qc;show Ua _ _ _ _ (upd H q (.lst []));generalize upd H q (.lst [])=H1 at s1 q1;intro p hp;have pn:H p=none:=s1.free hp;have qp:q≠p:=Qb q1 hp;have s2:Qj H (upd H1 p (.dK [])):=s1.z6 pn;have q2:(upd H1 p (.dK [])) q=some (.lst []):=by rw[Qa qp];exact q1
  have p2:(upd H1 p (.dK [])) p=some (.dK (Qo [])):=Qc;show Ua _ _ _ _ (upd H1 p (.dK []));generalize upd H1 p (.dK [])=H2 at s2 q2 p2;have hth2:=I.kp2 s2.kp2;refine⟨_,U,x,dx,_,U,s2 _ _ th.obj,U,x,rows,n,U,hth2,λl H3 nl s3 el=>?_⟩;generalize J:Qx (rows.map (·.1))=ns at el;have nsm:∀m∈ns,m∈rows.map (·.1):=λm hm=>by rw[<-J] at hm;exact Yf.mp hm
  have nsl:ns.length<=40:=by rw[<-J,UB,qh];exact hfew
  have lq:l≠q:=(Qb q2 nl).symm;have lp:l≠p:=(Qb p2 nl).symm;refine⟨l,U,⟨_,zN.of el⟩,YB (K:=K) (a:=l) (xs:=ns.map V.str) (λi σ C=>Ex5 λ(ls:qa (qc×qe))(mt:qe)(o3 o4 o5:Option V)=>gs (σ=[some (.ref x),some (.ref q),some (.ref p),o3,o4,o5]) (Qj H C) (Xl C q ls) ((∀z∈ls,H z.1=none/\z.1≠q/\z.1≠p)) (ls.map (·.2)=Ve rows (ns.take i)) (C p=some (.dK (Qo mt))) (mt.Nodup) ((∀m,m∈mt↔∃t∈Ve rows (ns.take i),m∈t)) (C l=some (.lst (ns.map V.str))))
   ⟨[],[],none,none,none,U,s2.trans s3,⟨s3 _ _ q2,(λ_ z=>nomatch z)⟩,(λ_ z=>nomatch z),U,s3 _ _ p2,List.Pairwise.nil,λm=>⟨(λz=>nomatch z),λ⟨t,z,_⟩=>nomatch z⟩,el⟩ ?_ ?_ ?_⟩
  .rintro i σ C _ ⟨ls,mt,o3,o4,o5,rfl,s4,M,hz,N,Z,B,D,l4⟩;exact zN.of l4
  .rintro i v σ C g ⟨ls,mt,o3,o4,o5,rfl,s4,M,hz,N,Z,B,D,l4⟩;obtain⟨nm,hy,rfl⟩:∃y,ns[i]?=some y/\V.str y=v:=by
    rw[qQ] at g
    cases e:ns[i]? with
    |none=>rw[e] at g;cases g
    |some t=>rw[e] at g;exact⟨t,U,qN g⟩
   have et:ns.take (i+1)=ns.take i++[nm]:=by rw[zm,hy];rfl
   have hnm:nm∈rows.map (·.1):=nsm nm (qM hy);have hpre:∀m∈ns.take i,m∈rows.map (·.1):=λm hm=>nsm m (vn hm);have r:=aP th.nd hne hpre hnm;have hll:ls.length<=40:=by
    have:=zQ List.length N;rw[qh] at this;have O:=Ck (rows:=rows) (ns.take i);rw[q0] at O;omega
   have S:∀m∈mt,m∈rows.map (·.1):=λm hm=>by
    obtain⟨t,b,S⟩:=(D m).mp hm;obtain⟨y,_,rfl⟩:=Gg _ b;exact(XB.mp S).1
   rw[et,HE];refine⟨_,U,_,U,p,_,U,Q5.k (k:=Sum.inr nm) Z,_,U,?_⟩;rw[Vc];by_cases s:nm∈mt
   .rw[qG s];refine QV ⟨ls,mt,_,_,_,U,s4,M,hz,?_,Z,B,?_,l4⟩
    .unfold Ul;rw[qG (r.mp ((D nm).mp s))];exact N
    .unfold Ul;rw[qG (r.mp ((D nm).mp s))];exact D
   .rw[qA s];have G:¬Yk rows nm∈Ve rows (ns.take i):=λz=>s ((D nm).mpr (r.mpr z));have hth4:=I.kp2 s4.kp2;refine Yj ⟨_,U,x,dx,_,U,s4 _ _ th.obj,U,_,U,x,rows,n,nm,U,hth4,hne,hnm,λb H5 n5 s5 e5=>?_⟩;have l5q:b≠q:=(Qb M.1 n5).symm;have l5p:b≠p:=(Qb Z n5).symm;have l5l:b≠l:=(Qb l4 n5).symm;have q5:=s5 _ _ M.1;refine⟨_,U,.inl ⟨U,_,zN.of q5⟩,_,U,q,_,_,U,U,q5,(by rw[qh];exact QF (by omega)),?_⟩;have eL:(ls.map λp=>V.ref p.1)++[V.ref b]=(ls++[((b,Yk rows nm):qc×qe)]).map λp=>V.ref p.1:=by rw[qJ];rfl
    rw[eL];have qn:H q=none:=hq;have s6:Qj H (upd H5 q (.lst ((ls++[((b,Yk rows nm):qc×qe)]).map λp=>V.ref p.1))):=(s4.trans s5).z6 qn;have X:Xl (upd H5 q (.lst ((ls++[((b,Yk rows nm):qc×qe)]).map λp=>V.ref p.1))) q (ls++[((b,Yk rows nm):qc×qe)]):=⟨Qc,λz c=>by
     rcases qt.mp c with y|y
     .rw[Qa (hz z y).2.1];exact s5 _ _ (M.2 z y)
     .rw[qk.mp y,Qa l5q];exact e5⟩
    have p6:(upd H5 q (.lst ((ls++[((b,Yk rows nm):qc×qe)]).map λp=>V.ref p.1))) p=some (.dK (Qo mt)):=by rw[Qa qp.symm];exact s5 _ _ Z
    have l6:(upd H5 q (.lst ((ls++[((b,Yk rows nm):qc×qe)]).map λp=>V.ref p.1))) l=some (.lst (ns.map V.str)):=by rw[Qa lq];exact s5 _ _ l4
    generalize upd H5 q (.lst ((ls++[((b,Yk rows nm):qc×qe)]).map λp=>V.ref p.1))=H6 at s6 X p6 l6;have e6:H6 b=some (.lst ((Yk rows nm).map V.str)):=X.2 (b,Yk rows nm) (qx _ qy);have hz6:∀z∈ls++[((b,Yk rows nm):qc×qe)],H z.1=none/\z.1≠q/\z.1≠p:=λz c=>by
     rcases qt.mp c with y|y
     .exact hz z y
     .rw[qk.mp y];exact⟨s4.free n5,l5q,l5p⟩
    refine⟨_,U,b,U,⟨_,zN.of e6⟩,YB (K:=K) (a:=b) (xs:=(Yk rows nm).map V.str) (λj σ Y=>Ex2 λ(d:qe)(o:Option V)=>gu (σ=[some (.ref x),some (.ref q),some (.ref p),some (.str nm),some (.ref b),o]) (Qj H Y) (Xl Y q (ls++[((b,Yk rows nm):qc×qe)])) (Y p=some (.dK (Qo d))) (d.Nodup) ((∀m,m∈d↔m∈mt\/m∈(Yk rows nm).take j)) (Y l=some (.lst (ns.map V.str))))
     ⟨mt,_,U,s6,X,p6,B,λm=>by rw[vm];exact⟨.inl,λz=>z.elim id (λz=>nomatch z)⟩,l6⟩ ?_ ?_ ?_⟩
    .rintro j σ Y _ ⟨d,o,rfl,s7,f,p7,u,m7,l7⟩;exact zN.of (f.2 (b,Yk rows nm) (qx _ qy))
    .rintro j v σ Y g ⟨d,o,rfl,s7,f,p7,u,m7,l7⟩;obtain⟨y,hy,rfl⟩:∃y,(Yk rows nm)[j]?=some y/\V.str y=v:=by
      rw[qQ] at g
      cases e:(Yk rows nm)[j]? with
      |none=>rw[e] at g;cases g
      |some t=>rw[e] at g;exact⟨t,U,qN g⟩
     have ej:(Yk rows nm).take (j+1)=(Yk rows nm).take j++[y]:=by rw[zm,hy];rfl
     have hl7:d.length<=40:=by
      have:=YS u (l:=rows.map (·.1)) λm hm=>by
       rcases (m7 m).mp hm with z|z
       .exact S m z
       .exact(XB.mp (vn z)).1
      rw[qh] at this;omega
     refine⟨_,U,_,U,p,_,U,UN.k (k:=Sum.inr y) p7 (by rw[Qo,qh];exact QF (by omega)),?_⟩;rw[FG];refine⟨YL d y,_,U,s7.z6 pn,⟨by rw[Qa qp];exact f.1,λz c=>by rw[Qa (hz6 z c).2.2];exact f.2 z c⟩,Qc,Hu u,λm=>?_,by rw[Qa lp];exact l7⟩;rw[B3,m7,ej,qt,qk,or_assoc]
    .rintro σ Y ⟨d,o,rfl,s7,f,p7,u,m7,l7⟩;rw[qh,ji] at m7;refine⟨_,d,_,_,_,U,s7,f,hz6,?_,p7,u,λm=>?_,l7⟩
     .unfold Ul;rw[qA G,qJ,N];rfl
     .unfold Ul;rw[qA G,m7,D];constructor
      .rintro(⟨t,h1,O⟩|h)
       .exact⟨t,qC _ h1,O⟩
       .exact⟨_,qx _ qy,h⟩
      .rintro⟨t,h1,O⟩;rcases qt.mp h1 with z|z
       .exact .inl ⟨t,z,O⟩
       .rw[qk.mp z] at O;exact .inr O
  .rintro σ C ⟨ls,mt,o3,o4,o5,rfl,s4,M,hz,N,Z,B,D,l4⟩;rw[qh,ji] at N;exact⟨_,U,k q C ls hq s4 (λz c=>⟨(hz z c).1,(hz z c).2.1⟩) (by rw[J];exact N) M⟩
def LN{lo:Int}{fr:qa (Nat×qb)}{j:TE}{σ:St}{H1:Hp}{Q:VK}(Pv:qc->Nat->qa V->Hp->Prop)(hz:n<=sizeLine)(h0:∀D,H1 D=none->Pv D 0 [] (upd H1 D (.lst [])))(hlen:∀D i ys H,Pv D i ys H->ys.length=i)
 (f:∀(D:qc)(i:Nat)(ys:qa V)(c:Hp)(Q':VK),i<n->H1 D=none->Pv D i ys c->c D=some (.lst ys)->(∀y d,d D=some (.lst ys)->Pv D (i+1) (ys++[y]) (upd d D (.lst (ys++[y])))->Q' y d)->j (some (.int (lo+i))::oC σ fr) c Q')
 (k:∀D ys a,H1 D=none->Pv D n ys a->a D=some (.lst ys)->Q (.ref D) a) :
 Yr (Itr lo n) fr Ee j σ H1 Q:=by
 unfold Yr;intro D g;refine⟨λi m ys a=>m=n-i/\i<=n/\Pv D i ys a/\a D=some (.lst ys),⟨n,by simp,za _,h0 D g,Qc⟩,?_⟩;rintro i m ys a ⟨rfl,q,p,h⟩;refine⟨h,?_⟩;by_cases b:i<n
 .refine .inr ⟨b,?_⟩;rintro v c ⟨rfl,rfl⟩;refine GC (Yj ?_);refine f D i ys _ _ b g p h λy d l o=>⟨l,?_,n-(i+1),by omega,U,b,o,Qc⟩;rw[hlen D i ys _ p];omega
 .have e:i=n:=by omega
  subst e;exact .inl ⟨qD _,k D ys a g p h⟩
structure nG(K:Frag)(H:Hp)(st sc:qc)(ls:qa Int):Prop where
 at_:∃n c:Int,H st=some (.lst [.int n,.ref sc,.int c])/\0<=n/\n<2147483647
 sq:zN K H sc (ls.map V.int)
def nG.of{ls:qa Int}(h:nG K H st sc ls)(s:Qj H H'):nG K H' st sc ls:=⟨let ⟨n,c,e,b⟩:=h.at_;⟨n,c,s _ _ e,b⟩,s.seq h.sq⟩
def gU{a:qc}{ls:qa Int}{n c:Int}(s:SX st H H')(e:H st=some (.lst [.int n,.ref a,.int c]))(h:zN K H sc (ls.map V.int)):zN K H' sc (ls.map V.int):=by
 rcases h with(h|⟨o,h⟩)|h
 .refine .inl (.inl (s _ _ (λz=>?_) h));rw[z,e] at h;have h:=HO.lst.inj (qN h)
  match ls,h with
  |_::_::_,h=>exact nomatch (qE (qE h).2).1
 .refine .inl (.inr ⟨o,s _ _ (λz=>?_) h⟩);rw[z,e] at h;cases h
 .exact .inr h
def nG.lst{ls:qa Int}(h:nG K H st sc ls):∃xs,H st=some (.lst xs):=let ⟨_,_,e,_⟩:=h.at_;⟨_,e⟩
inductive NN(K:Frag)(vs:qa V)(H:Hp)(Q:VK)(E:XK):Prop
 |mk:∀(sc:qc)(ls:qa Int),vs=[.ref sc]->zN K H sc (ls.map V.int)->ls.length<=63->(∀st,H st=none->∀H',Qj H H'->nG K H' st sc ls->Q (.ref st) H')->NN K vs H Q E
inductive RU(K:Frag)(vs:qa V)(H:Hp)(Q:VK)(E:XK):Prop
 |mk:∀(st sc:qc)(ls:qa Int),vs=[.ref st]->nG K H st sc ls->ls.length<=63->(∀(r:Int) H',0<=r->r<33554432->SX st H H'->nG K H' st sc ls->Q (.int r) H')->RU K vs H Q E
def Ta(F:zT K Z8 Z8 GK a.iK fd)(T:Txt K mg a):QQ P w K mg base j6 1 a.iK fd [ZF] (NN K):=by
 refine F.ok Ml (λd A outer s H vs Q E e h=>?_)
 .obtain⟨sc,ls,rfl,c,f,k⟩:=h;refine⟨_,(Qe (Qu (KD (Qh (QT Uk (QC Ym rfl T.vI zX (zg (pv 0) Qf)) Qi) (Qh (pv 0) (Qh Qi QA)))))),?_⟩;refine⟨_,U,sc,_,U,.inl c,_,_,U,U,_,U,Hv,λst b=>?_⟩;have s1:Qj H (upd H st (.lst [.int (((ls.map V.int).length:Nat)+7),.ref sc,.int 0])):=Qj.zk b;exact k st b _ s1 ⟨⟨_,_,Qc,by omega,by rw[qh];omega⟩,s1.seq c⟩
def Wh(F:zT K Jn Jn BX a.mv fd)(T:Txt K mg a):QQ P w K mg base j6 1 a.mv fd [Za] (RU K):=by
 refine F.ok Ay (λt A outer s H vs Q E G h=>?_)
 .obtain⟨st,sc,ls,rfl,u,x,k⟩:=h;obtain⟨⟨n,c,e,I,J⟩,d⟩:=u;have y:(ls.map V.int).length<=63:=by rw[qh];exact x
  refine⟨_,(Qd (Qs (i:=1) Ay.nd Qi)
   (Qd (QU (Qt SK (QC Ym rfl T.vI zX (zg (Qw QX (pv 0) Qi) Qf)) Qi) (Qe (Qs (i:=1) Ay.nd (Qw QX (Qw QX (pv 0) Qi) (QT YG (Qw QX (pv 0) Qi) (QC Ym rfl T.vI zX (zg (Qw QX (pv 0) Qi) Qf)))))) QD)
   (Qd (Gk (QT Uk (Qw QX (pv 0) Qi) Qi) (AN (pv 0) Qi W7))
   (Qd (Gk (QT YG (QT Uk (QT Uk (QT SI (Qw QX (pv 0) Qi) Qi) (pv 1)) (Qw QX (pv 0) Qi)) Qi) (AN (pv 0) Qi W7))
   (Qe (Qu (QT bC (Qw QX (pv 0) Qi) Qi))))))),?_⟩
  refine Wq λB g=>?_;show B _ _;subst g;refine Wq λN C=>?_;have rest:∀cell:Int,N [some (.ref st),some (.int cell)] H:=λcell=>by
   subst C;refine⟨_,U,st,_,_,_,U,U,zN.of e,U,_,_,U,U,?_⟩;refine⟨_,U,st,_,_,_,U,U,e,U,?_⟩;have f:(upd H st (.lst [.int n,.ref sc,.int (c+1)])) st=some (.lst [.int n,.ref sc,.int (c+1)]):=Qc;have p:SX st H (upd H st (.lst [.int n,.ref sc,.int (c+1)])):=λb o nb q=>by rw[Qa nb];exact q
   show Ua _ _ _ _ (upd H st (.lst [.int n,.ref sc,.int (c+1)]));generalize upd H st (.lst [.int n,.ref sc,.int (c+1)])=H1 at f p;refine⟨_,U,st,_,_,_,U,U,zN.of f,U,_,_,U,U,.inr ⟨by decide,by decide⟩,_,U,_,_,U,U,_,U,st,_,_,_,U,U,zN.of f,U,_,_,U,U,_,_,U,U,DM,?_⟩;refine⟨_,U,st,_,_,_,U,U,f,U,?_⟩;have m0:=zA (n*48271+cell+(c+1)) (b:=2147483647) (by decide);have r:=zq (n*48271+cell+(c+1)) (b:=2147483647) (by decide);generalize (n*48271+cell+(c+1))%2147483647=m at m0 r;have j:(upd H1 st (.lst [.int m,.ref sc,.int (c+1)])) st=some (.lst [.int m,.ref sc,.int (c+1)]):=Qc;have l:SX st H (upd H1 st (.lst [.int m,.ref sc,.int (c+1)])):=λb o nb q=>by rw[Qa nb];exact p b o nb q
   show V2.nx _ _ (upd H1 st (.lst [.int m,.ref sc,.int (c+1)]));generalize upd H1 st (.lst [.int m,.ref sc,.int (c+1)])=D at j l;exact⟨_,U,st,_,_,_,U,U,zN.of j,U,_,_,U,U,⟨by decide,by decide⟩,k _ D (by omega) (by omega) l ⟨⟨_,_,j,m0,r⟩,gU l e d⟩⟩
  refine⟨_,U,st,_,_,_,U,U,zN.of e,U,sc,_,U,.inl d,_,_,U,U,_,U,?_⟩;by_cases h0:0<(ls.map V.int).length
  .rw[qu (by omega)];obtain⟨v,j,f,_⟩:=cz (xs:=ls.map V.int) c h0;obtain⟨z,_,rfl⟩:=qj.mp f;exact Yj ⟨_,U,st,_,_,_,U,U,zN.of e,U,_,U,st,_,_,_,U,U,zN.of e,U,_,U,st,_,_,_,U,U,zN.of e,U,sc,_,U,.inl d,_,_,U,U,by omega,sc,_,_,_,U,U,d,j,rest z⟩
  .rw[qF (by omega)];exact QV (rest 0)
structure WIn(sg:qb)(m:Int)(x:qb):Prop where
 lo:1<=x.length
 hi:(x.length:Int)<=m
 in_:∀c∈x.cps.toList,c∈sg.cps.toList
inductive RS(K:Frag)(vs:qa V)(H:Hp)(Q:VK)(E:XK):Prop
 |mk:∀(st sc:qc)(ls:qa Int)(sg:qb)(m:Int),vs=[.ref st,.str sg,.int m]->nG K H st sc ls->ls.length<=63->1<=m->m<=100->0<sg.cps.toList.length->sg.length<=1000->(∀x H',WIn sg m x->SX st H H'->nG K H' st sc ls->Q (.str x) H')->RS K vs H Q E
def cg{m r:Int}(hm:1<=m)(a:0<=z)(c:z<4):∃y:Int,nE [V.int 1,V.int 2,V.int m,V.int (1+r%m)] z=some (.int y)/\1<=y/\(y<=m\/m<y):=by
 have h0:=zA r (b:=m) (by omega);obtain⟨n,rfl⟩:=jJ a;have d:n<4:=Int.ofNat_lt.mp c
 match n,d with
 |0,_=>exact⟨1,U,by decide,by omega⟩
 |1,_=>exact⟨2,U,by decide,by omega⟩
 |2,_=>exact⟨m,U,hm,by omega⟩
 |3,_=>exact⟨1+r%m,U,by omega,by omega⟩
def Np{a:Hp}{D:qc}{xs:qa V}(h0:zN K a sc xs)(b:a D=none)(h:zN K H sc xs)(k:∀c o,c≠D->H c=some o->H' c=some o):zN K H' sc xs:=by
 have go:sc≠D->zN K H' sc xs:=λn=>by
  rcases h with(h|⟨o,h⟩)|h
  .exact .inl (.inl (k _ _ n h))
  .exact .inl (.inr ⟨o,k _ _ n h⟩)
  .exact .inr h
 rcases h0 with(h0|⟨o,h0⟩)|h0
 .exact go (Qb h0 b)
 .exact go (Qb h0 b)
 .exact .inr h0
def Of(F:zT K Jo Jo GG a.mr fd)(T:Txt K mg a)(FF:YC K a):QQ P w K mg base j6 2 a.mr fd [Za,Z5,ZZZ] (RS K):=by
 obtain⟨fdN,zh,zO⟩:=FF.zh;have zP:=@Wh P w K mg base a _ zh T;refine F.ok Ax (λcdv A outer s H vs Q E hr h=>?_)
 .obtain⟨st,sc,ls,d,m,rfl,sa,L,m1,m100,hsg,x,k⟩:=h;have zL:QG 1 _:=hr;refine⟨_,(Qd (Qs (i:=3) Ax.nd (Qw QX (KD (Qh Qi (Qh Qi (Qh (pv 2) (Qh (QT Uk Qi (QT YG (Ql zP zL rfl T.jj zh.kp zO .nil Qm (zg (pv 0) Qf)) (pv 2))) QA))))) (QT YG (Ql zP zL rfl T.jj zh.kp zO .nil Qm (zg (pv 0) Qf)) Qi)))
   (Qd (QU (Qt SK (pv 3) (pv 2)) (Qe (Qs (i:=3) Ax.nd (pv 2))) QD)
   (Qe (Qu (V5 plainAttrs_str slot_str_join type_str_join FY Qp (zg (VL (sc:=Qg GG) (N:=I7) (fr:=[(1,Z5),(0,Za)]) (cs_ rfl rfl) rfl rfl rfl (AM rfl T.sU (zg (pv 3) Qf)) (λ_ _ _ _=>GY) (λ_ _ _ _=>(Qw TN (pv 1) (QT YG (Ql zP zL rfl T.jj zh.kp zO .nil Qm (zg (pv 2) Qf)) (QC Wi rfl T.vI zX (zg (pv 1) Qf)))))) Qf)))))),?_⟩
  refine⟨_,U,_,U,st,sc,ls,U,sa,L,λu H1 r10 r11 x1 B=>⟨_,U,_,_,U,U,(by show 0<m;omega),_,_,U,U,aK,λl f=>?_⟩⟩;have s2:Qj H1 (upd H1 l (.lst [.int 1,.int 2,.int m,.int (1+u%m)])):=Qj.zk f;have e2:(upd H1 l (.lst [.int 1,.int 2,.int m,.int (1+u%m)])) l=some (.lst [.int 1,.int 2,.int m,.int (1+u%m)]):=Qc;have C:=B.of s2;have x2:SX st H (upd H1 l (.lst [.int 1,.int 2,.int m,.int (1+u%m)])):=x1.trans (SX.of s2);have lst:l≠st:=λz=>by obtain⟨_,q⟩:=B.lst;rw[z,q] at f;cases f
  generalize upd H1 l (.lst [.int 1,.int 2,.int m,.int (1+u%m)])=H2 at s2 e2 C x2;refine⟨_,U,st,sc,ls,U,C,L,λr3 M r30 r31 x3 g=>?_⟩;have z0:=zA r3 (b:=4) (by decide);have z1:=zq r3 (b:=4) (by decide);obtain⟨y,ey,y1,yc⟩:=cg (r:=u) m1 z0 z1;refine⟨_,_,U,U,dh,l,_,_,_,U,U,zN.of (x3 _ _ lst e2),ey,?_⟩;have G:=x2.trans x3;dsimp only[EZ];refine Wq λN hN=>?_;have rest:∀z:Int,1<=z->z<=m->N [some (.ref st),some (.str d),some (.int m),some (.int z)] M:=λz hz1 hz2=>by
   subst hN;refine⟨U,_,U,_,U,by omega,by omega,LN (n:=z.toNat) (λD i ys j=>∃ws:qe,ys=ws.map V.str/\ws.length=i/\(∀y∈ws,OU d y)/\SX st H j/\nG K j st sc ls/\j D=some (.lst ys)) (Ya ((by omega))) (λD p=>?_) (λD i ys j ⟨ws,e,J,_⟩=>by rw[e,qh,J]) ?_ ?_⟩
   .have t:Qj M (upd M D (.lst [])):=Qj.zk p;exact⟨[],U,U,(λ_ q=>nomatch q),G.trans (SX.of t),g.of t,Qc⟩
   .rintro D i ys j Q' hi p ⟨ws,rfl,J,hw,O,t,R⟩ S q;have I:D≠st:=λz=>by obtain⟨_,q⟩:=g.lst;rw[z,q] at p;cases p
    refine⟨_,U,_,U,st,sc,ls,U,t,L,λr8 H8 r80 r81 x8 X=>⟨_,U,d,U,Ya (x),?_⟩⟩;have hlen:(d.length:Int)=(d.cps.toList.length:Int):=by simp[Str.length]
    obtain⟨c,hc,Y⟩:=Pg (z:=d) (i:=r8%(d.length:Int)) (zA _ (by omega)) (by rw[<-hlen];exact zq _ (by omega));refine⟨_,_,U,U,(by show 0<(d.length:Int);omega),d,_,c,U,U,Ya (x),hc,?_⟩;have Z:=x8 _ _ I R;refine q _ H8 Z ⟨ws++[⟨#[c]⟩],by rw[qJ];rfl,by rw[qz,qS,J],λy v=>?_,?_,?_,Qc⟩
    .rcases qt.mp v with z|z
     .exact hw y z
     .rw[qk.mp z];exact⟨c,Y,U⟩
    .intro b o nb e;have h8:=x8 _ _ nb (O _ _ nb e);rw[Qa (Qb (G _ _ nb e) p)];exact h8
    .obtain⟨⟨n,c,e,b⟩,hq⟩:=X;exact⟨⟨n,c,by rw[Qa I.symm];exact e,b⟩,Np g.sq p hq λc o nc e=>by rw[Qa nc];exact e⟩
   .rintro D ys j p ⟨ws,rfl,J,hw,O,t,R⟩ S;obtain⟨X,I⟩:=MP hw;refine⟨"",D,ws,U,U,zN.of R,Dn (λy v=>(hw y v).len) (by omega),k _ j ⟨by omega,by omega,I⟩ O t⟩
  refine⟨_,U,_,U,_,_,U,U,_,U,?_⟩;by_cases v:m<y
  .rw[qu v];exact Yj ⟨_,U,rest m m1 (Int.le_refl _)⟩
  .rw[qF v];exact QV (rest y y1 (by omega))
abbrev Ent:=qe×Int×qb×V
def KO{s t:qe}(h:QW s=QW t):s=t:=List.map_inj_right (f:=Sum.inr) (λ_ _ z=>jH z) |>.mp h
inductive QS(H:Hp):qa (qa Key×V)->qa Ent->Prop
 |nil:QS H [] []
 |cons {k:qe} {c:Int} {h:qb} {v:V} {p st:qc} {kvs:qa (qa Key×V)} {es:qa Ent} (e1:H p=some (.tup [.ref st,v])) (e2:H st=some (.tup [.int c,.str h])) (r:QS H kvs es):QS H ((QW k,.ref p)::kvs) ((k,c,h,v)::es)
def Du(es:qa Ent)(k:qe):Bool:=es.any λx=>decide (x.1=k)
def Xa(es:qa Ent)(e:Ent):qa Ent:=if Du es e.1=true then es.map (λx=>if x.1=e.1 then e else x) else es++[e]
def QI(es:qa Ent)(k:qe):Option Ent:=es.find? λx=>decide (x.1=k)
def QS.mono{H H':Hp}(s:∀c xs,H c=some (.tup xs)->H' c=some (.tup xs)):∀{kvs:qa (qa Key×V)}{es:qa Ent},QS H kvs es->QS H' kvs es
 |_,_,.nil=>.nil
 |_,_,.cons a b r=>.cons (s _ _ a) (s _ _ b) (QS.mono s r)
def QS.len{H:Hp}:∀{kvs:qa (qa Key×V)}{es:qa Ent},QS H kvs es->kvs.length=es.length
 |_,_,.nil=>rfl
 |_,_,.cons _ _ r=>zQ (·+1) (QS.len r)
def QS.keys{H:Hp}:∀{kvs:qa (qa Key×V)}{es:qa Ent},QS H kvs es->kvs.map (·.1)=(es.map (·.1)).map QW
 |_,_,.nil=>rfl
 |_,_,.cons _ _ r=>by rw[qU,qU,qU,QS.keys r]
def QS.any{H:Hp}{k:qe}:∀{kvs:qa (qa Key×V)}{es:qa Ent},QS H kvs es->(kvs.any λb=>decide (b.1=QW k))=Du es k
 |_,_,.nil=>rfl
 |_,_,.cons (k:=a) _ _ r=>by
  unfold Du;rw[kK,kK,QS.any r];have:decide (QW a=QW k)=decide (a=k):=by
   by_cases h:a=k
   .rw[qu h,qu (by rw[h])]
   .rw[qF h,qF λz=>h (KO z)]
  rw[this];rfl
def QS.app{H:Hp}{k:qe}{c:Int}{h:qb}{v:V}{p st:qc}(a:H p=some (.tup [.ref st,v]))(b:H st=some (.tup [.int c,.str h])):∀{kvs:qa (qa Key×V)}{es:qa Ent},QS H kvs es->QS H (kvs++[(QW k,.ref p)]) (es++[(k,c,h,v)])
 |_,_,.nil=>.cons a b .nil
 |_,_,.cons a1 a2 r=>.cons a1 a2 (QS.app a b r)
def QS.rep{H:Hp}{k:qe}{c:Int}{h:qb}{v:V}{p st:qc}(a:H p=some (.tup [.ref st,v]))(b:H st=some (.tup [.int c,.str h])):∀{kvs:qa (qa Key×V)}{es:qa Ent},QS H kvs es->QS H (kvs.map λd=>if d.1=QW k then (d.1,V.ref p) else d) (es.map λx=>if x.1=k then (k,c,h,v) else x)
 |_,_,.nil=>.nil
 |_,_,.cons (k:=e) a1 a2 r=>by
  rw[qU,qU];by_cases h:e=k
  .subst h;rw[qG rfl,qG rfl];exact .cons a b (QS.rep a b r)
  .rw[qA (λz=>h (KO z)),qA h];exact .cons a1 a2 (QS.rep a b r)
def QS.put{c:Int}{p:qc}{kvs:qa (qa Key×V)}(r:QS H kvs es)(a:H p=some (.tup [.ref st,v]))(b:H st=some (.tup [.int c,.str h])):QS H (Ye kvs (QW k) (.ref p)) (Xa es (k,c,h,v)):=by
 unfold Ye Xa;rw[r.any];split
 .exact r.rep a b
 .exact r.app a b
inductive Got(H:Hp):Option V->Option Ent->Prop
 |no:Got H none none
 |yes {e:Ent} {p st:qc} (e1:H p=some (.tup [.ref st,e.2.2.2])) (e2:H st=some (.tup [.int e.2.1,.str e.2.2.1])):Got H (some (.ref p)) (some e)
def QS.get{H:Hp}(k:qe):∀{kvs:qa (qa Key×V)}{es:qa Ent},QS H kvs es->Got H (Qv kvs (QW k)) (QI es k)
 |_,_,.nil=>.no
 |_,_,.cons (k:=a) a1 a2 r=>by
  by_cases h:a=k
  .subst h;have e:∀x es,QI ((a,x)::es) a=some (a,x):=λx es=>by unfold QI;rw[wQ (by simp)]
   rw[YA rfl,e];exact .yes a1 a2
  .have e:∀x es,QI ((a,x)::es) k=QI es k:=λx es=>by unfold QI;rw[wR (by simp[h])]
   rw[Yx (λz=>h (KO z)),e];exact QS.get k r
def sel(f:qe)(es:qa Ent):qa Ent:=es.filter λx=>decide (x.1.take 1=f)
def T8{f:qe}(h:k.take 1=f):Du (sel f es) k=Du es k:=by
 unfold Du sel;rw[List.any_filter];congr 1;funext x;by_cases e:x.1=k
 .rw[qu e,e,h];simp
 .rw[qF e,Bool.and_false]
def GB{k f:qe}(h:k.take 1=f):∀es:qa Ent,QI (sel f es) k=QI es k
 |[]=>rfl
 |x::es=>by
  have a:=GB h es;unfold QI sel at *
  by_cases e:x.1=k
  .rw[qO,qG (by rw[e];exact qu h),wQ (by simp[e]),wQ (by simp[e])]
  .rw[wR (by simp[e]) (l:=es),qO];split
   .rw[wR (by simp[e])];exact a
   .exact a
def a0{f:qe}(h:e.1.take 1=f):sel f (Xa es e)=Xa (sel f es) e:=by
 unfold Xa;rw[T8 h];split
 .unfold sel;rw[yb];congr 1;apply kO;intro x _;show decide ((if x.1=e.1 then e else x).1.take 1=f)=decide (x.1.take 1=f);by_cases z:x.1=e.1
  .rw[qG z,z]
  .rw[qA z]
 .unfold sel;rw[zb,qO,qG (qu h),iS]
def O5{f:qe}(h:e.1.take 1≠f):sel f (Xa es e)=sel f es:=by
 unfold Xa;split
 .unfold sel;rw[yb];have b:(es.filter ((λx:Ent=>decide (x.1.take 1=f))∘λx=>if x.1=e.1 then e else x))=es.filter λx=>decide (x.1.take 1=f):=by
   apply kO;intro x _;show decide ((if x.1=e.1 then e else x).1.take 1=f)=decide (x.1.take 1=f);by_cases z:x.1=e.1
   .rw[qG z,z]
   .rw[qA z]
  rw[b];refine(jT λx c=>?_).trans (List.map_id _);have a:=qo (qr.mp c).2;rw[qA (λz=>h (by rw[<-z];exact a))];rfl
 .unfold sel;rw[zb,qO,qA (by simp[h]),iS,zU]
def IF(es:qa Ent)(e:Ent):(Xa es e).length<=es.length+1/\es.length<=(Xa es e).length:=by
 unfold Xa;split
 .rw[qh];omega
 .rw[qz,qS];omega
def Sn(h:QI es e.1=none):Xa es e=es++[e]:=by
 have:Du es e.1=false:=by
  unfold QI at h;unfold Du;rw[List.any_eq_false];intro x a;have:=Qbh.mp h x a;exact this
 unfold Xa;rw[this];exact qA qI
structure Reg(a:yL)(H:Hp)(x dx D:qc)(kd:qa (qa Key×V))(es:qa Ent):Prop where
 obj:H x=some (.ins a.j5 dx [(JK,.ref D)])
 dr:H D=some (.dT kd)
 ug:∀f v,Qv kd (QW f)=some v->∃d kvs,v=.ref d/\d≠D/\H d=some (.dT kvs)/\QS H kvs (sel f es)
 mR:∀f,Qv kd (QW f)=none->sel f es=[]
 inj:∀f f' d,Qv kd (QW f)=some (.ref d)->Qv kd (QW f')=some (.ref d)->f=f'
 few:kd.length<=es.length
def FP(D:qc)(kd:qa (qa Key×V))(c:qc):Prop:=c=D\/∃f,Qv kd (QW f)=some (.ref c)
def Reg.fp{D:qc}(h:Reg a H x dx D kd es)(hc:FP D kd c):∃kvs,H c=some (.dT kvs):=by
 rcases hc with rfl|⟨f,e⟩
 .exact⟨_,h.dr⟩
 .obtain⟨d,kvs,b,_,g,_⟩:=h.ug f _ e;cases b;exact⟨_,g⟩
def Reg.frame{D:qc}(h:Reg a H x dx D kd es)(b:∀c o,H c=some o->(∀kvs,o≠.dT kvs)->(∀xs,o≠.lst xs)->H' c=some o)(k2:∀c o,H c=some o->FP D kd c->H' c=some o):Reg a H' x dx D kd es:=
 ⟨b _ _ h.obj (λ_ z=>nomatch z) (λ_ z=>nomatch z),k2 _ _ h.dr (.inl rfl),λf v e=>let ⟨d,kvs,g,i,j,k⟩:=h.ug f v e;⟨d,kvs,g,i,k2 _ _ j (.inr ⟨f,by rw[e,g]⟩),k.mono λc xs z=>b _ _ z (λ_ y=>nomatch y) (λ_ y=>nomatch y)⟩,h.mR,h.inj,h.few⟩
def Reg.same{D:qc}(h:Reg a H x dx D kd es)(s:Qj H H'):Reg a H' x dx D kd es:=h.frame (λc o e _ _=>s _ _ e) λc o e _=>s _ _ e
def YI(es:qa Ent)(e:Ent):Bool:=match QI es e.1 with
 |none=>true
 |some o=>!HT.oX e.2.1 e.2.2.1 o.2.1 o.2.2.1
def QY(es:qa Ent)(e:Ent):qa Ent:=if YI es e=true then Xa es e else es
inductive Nw(a:yL)(vs:qa V)(H:Hp)(Q:VK)(E:XK):Prop
 |mk:∀(x dx:qc),vs=[.ref x]->H x=some (.ins a.j5 dx [])->(∀D H',H D=none->Reg a H' x dx D [] []->(∀c o,H c=some o->c≠x->H' c=some o)->Q .non H')->Nw a vs H Q E
inductive RW(a:yL)(vs:qa V)(H:Hp)(Q:VK)(E:XK):Prop
 |mk:∀(x dx D:qc)(kd:qa (qa Key×V))(es:qa Ent)(kp sp:qc)(k:qe)(c:Int)(h:qb)(v:V),vs=[.ref x,.ref kp,.ref sp,v]->Reg a H x dx D kd es->es.length<=900->k≠[]->H kp=some (.tup (k.map V.str))->H sp=some (.tup [.int c,.str h]) ->
  (∀kd' H',Reg a H' x dx D kd' (QY es (k,c,h,v))->(∀c o,H c=some o->¬FP D kd c->H' c=some o)->(∀c,FP D kd' c->FP D kd c\/H c=none)->Q (.bl (YI es (k,c,h,v))) H')->RW a vs H Q E
inductive cJ(a:yL)(vs:qa V)(H:Hp)(Q:VK)(E:XK):Prop
 |mk:∀(x dx D:qc)(kd:qa (qa Key×V))(es:qa Ent)(kp:qc)(k:qe)(v:V),vs=[.ref x,.ref kp,v]->Reg a H x dx D kd es->k≠[]->H kp=some (.tup (k.map V.str))->(∀H',Qj H H'->Q (((QI es k).map (·.2.2.2)).getD v) H')->cJ a vs H Q E
inductive HZ(a:yL)(vs:qa V)(H:Hp)(Q:VK)(E:XK):Prop
 |mk:∀(x dx D:qc)(kd:qa (qa Key×V))(es:qa Ent)(f:qb),vs=[.ref x,.str f]->Reg a H x dx D kd es->(∀e∈es,e.1≠[])->es.length<64->(∀l bs H',H l=none->Qj H H'->WC H' bs ((sel [f] es).map (·.1))->H' l=some (.lst ((Wy ((sel [f] es).map (·.1))).map λi=>(bs.map V.ref).getD i .non))->Q (.ref l) H')->HZ a vs H Q E
def Ec(k:qe):BS (k.map V.str) none (some 1)=(k.take 1).map V.str:=by
 unfold BS;rw[show(1:Int)=((1:Nat):Int) from rfl,HT.tR,HT.sE,tN,Nat.sub_zero,qh,<-List.map_take]
 cases k with
 |nil=>rfl
 |cons x k=>rw[qX,v7 (by omega)]
def Bm(h0:k≠[])(h:HT.xC (k.map V.str).length (k.map V.str).length (some 1)=(k.map V.str).length):k.map V.str=(k.take 1).map V.str:=by
 rw[show(1:Int)=((1:Nat):Int) from rfl,HT.sE,qh] at h;rw[zj (by omega)]
def Ah(D:qc):List.lookup JK ([(JK,.ref D)]:qa (qb×V))=some (V.ref D):=by
 rw[ju,show((JK)==(JK))=true by decide +kernel]
def NU(f:qe)(es:qa Ent):(sel f es).length<=es.length:=qY _ _
def Ci{H H':Hp}(s:Qj H H'):∀{bs:qa qc}{ts:qa (qe)},WC H bs ts->WC H' bs ts
 |_,_,.nil=>.nil
 |_,_,.cons e t0 r=>.cons (s _ _ e) t0 (Ci s r)
def SR(F:zT K Zf "Registers.__init__" UW a.yX fd)(T:Txt K mg a):QQ P w K mg base j6 1 a.yX fd [ZZ] (Nw a):=by
 refine F.ok GP (λg A outer st H vs Q E i h=>?_)
 .obtain⟨x,dx,rfl,d,k⟩:=h;refine⟨_,(Qe (YF (pv 0) X9 rfl)),?_⟩;intro D b;have ne1:x≠D:=Qb d b;refine⟨_,U,x,_,dx,_,U,(by rw[Qa ne1];exact d),T.jC,T.jA,by decide,?_⟩;refine k D _ b ⟨Qc,?_,λf v z=>(by cases z),λf _=>rfl,λ_ _ _ z=>(by cases z),qD _⟩ λc o e ne=>?_
  .rw[Qa ne1.symm];exact Qc
  .rw[Qa ne,Qa (Qb e b)];exact e
def bI(F:zT K "keep" "Registers.keep" UU a.yV fd)(T:Txt K mg a):QQ P w K mg base j6 1 a.yV fd [ZZ,JX,"stamp","value"] (RW a):=by
 refine F.ok Vh (λcdv A outer st H vs Q E hr h=>?_)
 .obtain⟨x,dx,D,kd,es,kp,sp,k,c,h,v,rfl,R,hl,hk0,hkp,hsp,kq⟩:=h;have hu:=Q9 hr;have hu0:=hr.QbZ;refine⟨_,(Qd (Qs (i:=4) Vh.nd (Xd NS (pv 1) KC (Xy Qi)))
   (Qd (QU (UM (U8 hu (pv 4) (Qk (pv 0) U))) (Qe (Yp hu (Qk (pv 0) U) (pv 4) X9 rfl)) QD)
   (Qd (Qs (i:=5) Vh.nd (Qz hu (Qk (pv 0) U) (pv 4)))
   (Qd (QU (PW.pt (V1 (UM (Ka hu (pv 1) (pv 5))) (Vo (Qt (fg hu0) (pv 2) (Qw QP (Qz hu (pv 5) (pv 1)) Qi))))) (Qe (Qu YX)) QD)
   (Qd (Yp hu (pv 5) (pv 1) (GZ (Qh (pv 2) (Qh (pv 3) QA))) rfl)
   (Qe (Qu YX))))))),?_⟩
  refine Wq (t:=RQ _ _) λN hN=>?_;have rest:∀(fp:qc)(H1:Hp),Qj H H1->H1 fp=some (.tup ((k.take 1).map V.str))->N [some (.ref x),some (.ref kp),some (.ref sp),some v,some (.ref fp),none] H1:=λfp H1 s1 J=>by
   subst hN;have m:=R.same s1;have hkp1:=s1 _ _ hkp;have hsp1:=s1 _ _ hsp;have key:∀{G:Hp}{b:qc}{t:qe},G b=some (.tup (t.map V.str))->G b=some (.tup ((QW t).map kV)):=λe=>by rw[VT];exact e
   refine Wq (t:=aS _ _ _) λN2 hN2=>?_;have L:∀(l:qa (qa Key×V))(u:Hp)(d:qc)(kvs:qa (qa Key×V)),u D=some (.dT l)->Qv l (QW (k.take 1))=some (.ref d)->d≠D->u d=some (.dT kvs)->QS u kvs (sel (k.take 1) es)->(∀j,j≠k.take 1->Qv l (QW j)=Qv kd (QW j)) ->
    l.length<=es.length+1->(l.length<=es.length\/sel (k.take 1) es=[])->(∀c o,H1 c=some o->c≠D->u c=some o)->(FP D kd d\/H1 d=none)->(∀j,Qv kd (QW j)=some (.ref d)->j=k.take 1)->N2 [some (.ref x),some (.ref kp),some (.ref sp),some v,some (.ref fp),none] u:=λl u d kvs hD2 hv dD hd2 eo r hln hsl g hfresh M=>by
    subst hN2;have xD:x≠D:=Q4 m.obj m.dr (λz=>nomatch z);have B:=g _ _ m.obj xD;have kD:kp≠D:=Q4 hkp1 m.dr (λz=>nomatch z);have s:=g _ _ hkp1 kD;have hsp2:=g _ _ hsp1 (Q4 hsp1 m.dr (λz=>nomatch z));have hfp2:=g _ _ J (Q4 J m.dr (λz=>nomatch z));have vs0:=GB (k:=k) rfl es;have O:∀{G:Hp}{C:qa (qa Key×V)}{S:qa Ent},(∀c o,u c=some o->c≠d->G c=some o)->G d=some (.dT C)->QS G C (sel (k.take 1) S)->(∀j,j≠k.take 1->sel j S=sel j es)->l.length<=S.length->Reg a G x dx D l S:=λ{G C S} Y hd' eo' hs' hl'=>by
     have kt:∀c xs,H1 c=some (.tup xs)->G c=some (.tup xs):=λc xs e=>Y _ _ (g _ _ e (Q4 e m.dr (λz=>nomatch z))) (λz=>by have:=g _ _ e (Q4 e m.dr (λz=>nomatch z));rw[z,hd2] at this;cases this);refine⟨Y _ _ B (λz=>by rw[z,hd2] at B;cases B),Y _ _ hD2 dD.symm,λj v' y=>?_,λj y=>?_,λf1 f2 d' I X=>?_,hl'⟩
     .by_cases hf:j=k.take 1
      .subst hf;rw[hv] at y;cases y;exact⟨d,C,U,dD,hd',eo'⟩
      .rw[r j hf] at y;obtain⟨d',kv,rfl,q1,q2,q3⟩:=m.ug j _ y;have dd:d'≠d:=λz=>hf (M j (by rw[<-z];exact y));exact⟨d',kv,U,q1,Y _ _ (g _ _ q2 q1) dd,by rw[hs' j hf];exact q3.mono kt⟩
     .have hf:j≠k.take 1:=λz=>by rw[z,hv] at y;cases y
      rw[r j hf] at y;rw[hs' j hf];exact m.mR j y
     .by_cases h1:f1=k.take 1
      .by_cases Z:f2=k.take 1
       .rw[h1,Z]
       .rw[h1,hv] at I;cases I;rw[r f2 Z] at X;exact absurd (M f2 X) Z
      .by_cases Z:f2=k.take 1
       .rw[Z,hv] at X;cases X;rw[r f1 h1] at I;exact absurd (M f1 I) h1
       .rw[r f1 h1] at I;rw[r f2 Z] at X;exact m.inj f1 f2 d' I X
    have M:∀c o,H c=some o->¬FP D kd c->u c=some o/\c≠d:=λc o e nf=>by
     have I:=s1 _ _ e;refine⟨g _ _ I (λz=>nf (.inl z)),λz=>?_⟩;rcases hfresh with q|q
     .exact nf (by rw[z];exact q)
     .rw[z,q] at I;cases I
    have fpC:∀c,FP D l c->FP D kd c\/H c=none:=λc hc=>by
     rcases hc with rfl|⟨j,y⟩
     .exact .inl (.inl rfl)
     .by_cases hf:j=k.take 1
      .rw[hf,hv] at y;cases y;rcases hfresh with q|q
       .exact .inl q
       .refine .inr ?_
        cases z:H d with
        |none=>rfl
        |some o=>have:=s1 _ _ z;rw[q] at this;cases this
      .rw[r j hf] at y;exact .inl (.inr ⟨j,y⟩)
    have y:YI es (k,c,h,v)=true->(QI es k=none\/l.length<=es.length)->(∀p,u p=none->Q (.bl true) (upd (upd u p (.tup [.ref sp,v])) d (.dT (Ye kvs (QW k) (.ref p))))):=λZ hnv p r=>by
     have pd:d≠p:=Qb hd2 r;have sH:Qj u (upd u p (.tup [.ref sp,v])):=Qj.zk r;have e:∀c o,u c=some o->c≠d->(upd (upd u p (.tup [.ref sp,v])) d (.dT (Ye kvs (QW k) (.ref p)))) c=some o:=λc o q n=>by rw[Qa n];exact sH _ _ q
     have ep:(upd (upd u p (.tup [.ref sp,v])) d (.dT (Ye kvs (QW k) (.ref p)))) p=some (.tup [.ref sp,v]):=by rw[Qa pd.symm];exact Qc
     have tk:∀c xs,u c=some (.tup xs)->(upd (upd u p (.tup [.ref sp,v])) d (.dT (Ye kvs (QW k) (.ref p)))) c=some (.tup xs):=λc xs q=>e _ _ q (Q4 q hd2 (λz=>nomatch z));have kE:QY es (k,c,h,v)=Xa es (k,c,h,v):=qG Z;have:=kq l _ (by
      rw[kE];refine O e Qc ?_ (λj hf=>O5 (λz=>hf z.symm)) ?_
      .rw[a0 (e:=(k,c,h,v)) (f:=k.take 1) rfl];exact(eo.mono tk).put ep (tk _ _ hsp2)
      .rcases hnv with q|q
       .rw[Sn q,qz,qS];exact hln
       .exact zu q (IF _ _).2) (λc o q nf=>let ⟨q1,q2⟩:=M c o q nf;e c o q1 q2) fpC
     rw[Z] at this;exact this
    refine⟨_,U,x,_,dx,_,_,U,B,T.jC,T.jA,Ah D,_,U,D,_,U,(by rw[<-hv];exact Q5.t hD2 (key hfp2)),?_⟩;have gt:=eo.get k;rw[vs0] at gt;refine⟨_,U,_,U,d,_,U,Q5.t hd2 (key s),_,U,?_⟩;have hkl:kvs.length<sizeLine:=by rw[eo.len];have:=NU (k.take 1) es;exact QF (by omega)
    cases hg:QI es k with
    |none=>
     rw[hg] at gt;have Z:YI es (k,c,h,v)=true:=by unfold YI;rw[show QI es (k,c,h,v).1=none from hg]
     generalize hvv:Qv kvs (QW k)=o at gt;cases gt;refine QV (QV ?_);exact⟨_,U,_,U,VZ,λp r=>⟨_,U,_,U,d,_,U,UN.t (by rw[Qa (Qb hd2 r)];exact hd2) (key (by rw[Qa (Qb s r)];exact s)) hkl,y Z (.inl hg) p r⟩⟩
    |some en=>
     rw[hg] at gt;have hlen:l.length<=es.length:=by
      rcases hsl with q|q
      .exact q
      .rw[<-vs0,q] at hg;cases hg
     generalize hvv:Qv kvs (QW k)=o at gt
     cases gt with
     |@yes en p0 st0 I X=>
      refine Yj ?_;refine⟨_,U,_,U,_,U,d,_,U,(by rw[<-hvv];exact Q5.t hd2 (key s)),p0,_,_,_,U,U,jW.of I,U,sp,st0,c,h,_,_,U,U,jW.of hsp2,jW.of X,_,U,?_⟩
      cases hle:HT.oX c h en.2.1 en.2.2.1 with
      |true=>
       refine Yj ?_;have Z:YI es (k,c,h,v)=false:=by unfold YI;rw[show QI es (k,c,h,v).1=some en from hg];show(!HT.oX c h en.2.1 en.2.2.1)=false;rw[hle];rfl
       have kE:QY es (k,c,h,v)=es:=qA (by rw[Z];exact qI);have:=kq l u (by rw[kE];exact O (λ_ _ q _=>q) hd2 eo (λ_ _=>rfl) hlen) (λc o q nf=>(M c o q nf).1) fpC;rw[Z] at this;exact this
      |false=>
       refine QV ?_;have Z:YI es (k,c,h,v)=true:=by unfold YI;rw[show QI es (k,c,h,v).1=some en from hg];show(!HT.oX c h en.2.1 en.2.2.1)=true;rw[hle];rfl
       exact⟨_,U,_,U,VZ,λp r=>⟨_,U,_,U,d,_,U,UN.t (by rw[Qa (Qb hd2 r)];exact hd2) (key (by rw[Qa (Qb s r)];exact s)) hkl,y Z (.inr hlen) p r⟩⟩
   have y:=m.few;refine⟨_,U,_,U,x,_,dx,_,_,U,m.obj,T.jC,T.jA,Ah D,D,_,U,Q5.t m.dr (key J),_,U,?_⟩
   cases g:Qv kd (QW (k.take 1)) with
   |some v0=>
    refine QV ?_;obtain⟨d,kvs,rfl,q1,q2,q3⟩:=m.ug _ _ g;exact L kd H1 d kvs m.dr g q1 q2 q3 (λ_ _=>rfl) (by omega) (.inl y) (λ_ _ e _=>e) (.inl (.inr ⟨_,g⟩)) λj e=>m.inj _ _ d e g
   |none=>
    refine Yj ?_;intro p r;have B:D≠p:=Qb m.dr r;have C:x≠p:=Qb m.obj r;refine⟨_,U,x,_,dx,_,_,U,(by rw[Qa C];exact m.obj),T.jC,T.jA,Ah D,_,U,D,_,U,UN.t (by rw[Qa B];exact m.dr) (key (by rw[Qa (Qb J r)];exact J)) (QF (by omega)),?_⟩;have s:=m.mR _ g;refine L _ _ p [] Qc (by rw[Cd,qG rfl]) B.symm (by rw[Qa B.symm];exact Qc) (by rw[s];exact .nil) (λj hf=>by rw[Cd,qA (λz=>hf (KO z))]) ?_ (.inr s) (λc o e n=>by rw[Qa n,Qa (Qb e r)];exact e) (.inr r) λj e=>?_
    .have:=VR kd (QW (k.take 1)) (V.ref p);omega
    .obtain⟨d',kv,I,_,X,_⟩:=m.ug j _ e;cases I;rw[r] at X;cases X
  refine⟨_,U,_,U,kp,_,U,jW.of hkp,λhw=>?_,λp r=>?_⟩
  .exact rest kp H (Qj.refl H) (by rw[hkp,<-Bm hk0 hw.2])
  .exact rest p _ (Qj.zk r) (by rw[Qc,Ec])
def S2(F:Aq K "get" "Registers.get" Vk a.xq fd)(T:Txt K mg a):QQ P w K mg base j6 1 a.xq fd [ZZ,JX,JY] (cJ a):=by
 refine F.ok W8 (λB A outer st H vs Q E C h=>?_)
 .obtain⟨x,dx,D,kd,es,m,k,v,rfl,R,n,c,I⟩:=h;have r:=Q9 C;refine⟨_,(Qd (Qs (i:=3) W8.nd (Vp r (Qk (pv 0) U) (Xd NS (pv 1) KC (Xy Qi)) X9 ⟨U,U,U,U⟩))
   (Qe (Qu (CP (UM (Ka r (pv 1) (pv 3))) (Qw QP (Qz r (pv 3) (pv 1)) Qi) (pv 2))))),?_⟩
  have key:∀{G:Hp}{b:qc}{t:qe},G b=some (.tup (t.map V.str))->G b=some (.tup ((QW t).map kV)):=λe=>by rw[VT];exact e
  refine Wq (t:=RQ _ _) λN J=>?_;have last:∀(d:qc)(kvs:qa (qa Key×V))(G:Hp)(f:qa Ent),Qj H G->G d=some (.dT kvs)->QS G kvs f->QI f k=QI es k->N [some (.ref x),some (.ref m),some v,some (.ref d)] G:=λd kvs G f z hd L he=>by
   subst J;have gt:=L.get k;rw[he] at gt;have g:=z _ _ c;refine⟨_,U,_,U,d,_,U,Q5.t hd (key g),_,U,?_⟩;have l:=I G z;generalize s:Qv kvs (QW k)=o at gt;generalize QI es k=O at gt l
   cases gt with
   |no=>exact QV ⟨_,U,l⟩
   |@yes S u y M X=>exact Yj ⟨_,U,_,U,d,_,U,(by rw[<-s];exact Q5.t hd (key g)),u,_,_,_,U,U,jW.of M,QB (j:=1) rfl,l⟩
  have rest:∀(s:qc)(H1:Hp),Qj H H1->H1 s=some (.tup ((k.take 1).map V.str))->∀p,H1 p=none->∃o,Q5 (upd H1 p (.dT [])) D (.ref s) o/\N [some (.ref x),some (.ref m),some v,some (o.getD (.ref p))] (upd H1 p (.dT [])):=λs H1 s1 u p g=>by
   have s2:Qj H1 (upd H1 p (.dT [])):=Qj.zk g;have R2:=(R.same s1).same s2;refine⟨_,Q5.t R2.dr (key (s2 _ _ u)),?_⟩
   cases l:Qv kd (QW (k.take 1)) with
   |none=>
    refine last p [] _ [] (s1.trans s2) Qc .nil ?_;rw[<-GB rfl es,R2.mR _ l]
   |some v0=>
    obtain⟨d,kvs,rfl,O,y,M⟩:=R2.ug _ _ l;exact last d kvs _ _ (s1.trans s2) y M (GB rfl es)
  refine⟨_,U,x,_,dx,_,_,U,R.obj,T.jC,T.jA,Ah D,D,U,.inr ⟨_,.inl R.dr⟩,_,U,_,U,m,_,U,jW.of c,λhw=>?_,λq M=>?_⟩
  .intro p g;obtain⟨o,l,y⟩:=rest m H (Qj.refl H) (by rw[c,<-Bm n hw.2]) p g;exact⟨o,l,y⟩
  .intro p g;obtain⟨o,l,y⟩:=rest q _ (Qj.zk M) (by rw[Qc,Ec]) p g;exact⟨o,l,y⟩
def Pp(F:zT K J2 "Registers.keys_of" Y4 a.yd fd)(T:Txt K mg a):QQ P w K mg base j6 1 a.yd fd [ZZ,ZZn] (HZ a):=by
 refine F.ok X0 (λr A outer st H vs Q E s h=>?_)
 .obtain⟨x,dx,D,kd,es,f,rfl,R,h0,u,v⟩:=h;have y:=Q9 s;refine⟨_,(Qe (Qu (QC (Al rfl) rfl T.jQ boot_sorted (zg (Vp y (Qk (pv 0) U) (GZ (Qh (pv 1) QA)) X9 ⟨U,U,U,U⟩) Qf)))),?_⟩;refine⟨_,U,x,_,dx,_,_,U,R.obj,T.jC,T.jA,Ah D,D,U,.inr ⟨_,.inl R.dr⟩,_,U,Ry,λj k=>?_⟩;have s1:Qj H (upd H j (.tup [.str f])):=Qj.zk k;have b:(upd H j (.tup [.str f])) j=some (.tup ((QW [f]).map kV)):=Qc;generalize upd H j (.tup [.str f])=H1 at s1 b⊢;intro p B;have s2:Qj H1 (upd H1 p (.dT [])):=Qj.zk B;have m:(upd H1 p (.dT [])) p=some (.dT []):=Qc;have R2:=(R.same s1).same s2;refine⟨_,Q5.t R2.dr (s2 _ _ b),?_⟩;generalize upd H1 p (.dT [])=c at s2 R2 m⊢;have fin:∀(d:qc)(kvs:qa (qa Key×V)),c d=some (.dT kvs)->QS c kvs (sel [f] es)->AI [.ref d] c Q:=λd kvs hd C=>
   ⟨d,kvs,(sel [f] es).map (·.1),U,hd,C.keys,λt g=>by
     obtain⟨e,he,rfl⟩:=qj.mp g;exact h0 e (qr.mp he).1,by rw[qh];exact xM (NU _ _) u,λl bs n g=>by
     have q:Qj c (upd c l (.lst ((Wy ((sel [f] es).map (·.1))).map λi=>(bs.map V.ref).getD i .non))):=Qj.zk n;refine v l bs _ ?_ ((s1.trans s2).trans q) (Ci q g) Qc
     cases z:H l with
     |none=>rfl
     |some o=>have:=s2 _ _ (s1 _ _ z);rw[n] at this;cases this⟩
  cases g:Qv kd (QW [f]) with
  |none=>exact fin p [] m (by rw[R2.mR _ g];exact .nil)
  |some v0=>
   obtain⟨d,kvs,rfl,G,n,q⟩:=R2.ug _ _ g;exact fin d kvs n q
def isW(x:qb):Bool:=decide (1<=(x.length:Int))&&(decide ((x.length:Int)<=20)&&x.cps.toList.all λc=>decide (c∈aZ.cps.toList))
inductive Fp(vs:qa V)(H:Hp)(Q:VK)(E:XK):Prop
 |mk:∀x y:qb,vs=[.str x,.str y]->x.length<=1000->(∀H',Qj H H'->Q (.bl (x.cps.toList.all λc=>decide (c∈y.cps.toList))) H')->Fp vs H Q E
def RX(K:Frag):Sp:=λvs H Q _=>(∃x:qb,vs=[.str x]/\x.length<=1000/\∀H',Qj H H'->Q (.bl (isW x)) H') \/
 ∃v t,vs=[v]/\WG K H v t/\kitOne K t (.type "str")=some false/\Q (.bl false) H
def Tc(F:zT K Jk Jk Wt a.vq fd)(T:Txt K mg a):QQ P w K mg base j6 1 a.vq fd [JS,Jr] Fp:=by
 refine F.ok Fv (λb A outer s H vs Q E f h=>?_)
 .obtain⟨x,y,rfl,d,k⟩:=h;refine⟨_,Qe (Qu (QC (az rfl) rfl T.b_all boot_all (zg (VL (sc:=Qg Wt) (N:=Bs) (fr:=[(1,Jr)]) (cs_ rfl rfl) rfl rfl rfl (Mu (pv 0))
   (λ_ _ _ _=>GY) (λ_ _ _ _=>UI KH (pv 0) (pv 1) (by with_unfolding_all rfl))) Qf))),?_⟩
  refine⟨_,U,x,U,LK (λc=>.bl (decide (c∈y.cps.toList))) (Ya (d)) ?_ ?_⟩
  .intro c e Q' hc q;refine⟨_,U,_,U,_,_,U,U,?_⟩;rw[sj];exact q
  .intro D e;refine⟨D,x.cps.toList.map λc=>decide (c∈y.cps.toList),U,zN.of (by rw[qV];exact Qc),?_⟩;rw[List.all_map];exact k _ (Qj.zk e)
def EE(F:zT K JE JE GL a.iL fd)(T:Txt K mg a)(j:YC K a):QQ P w K mg base j6 2 a.iL fd [ZC] (RX K):=by
 obtain⟨f,g,l⟩:=j.Qaw;have m:QQ P w K mg base j6 1 a.vq f [JS,Jr] Fp:=Tc g T;refine F.ok Mm (λn A outer s H vs Q E o h=>?_) (λvs H Q E h=>by rcases h with⟨x,rfl,_⟩|⟨v,t,rfl,_⟩<;>rfl)
 .refine⟨_,Qe (Qu (AQ (QC Y0 rfl T.j3 boot_isinstance (zg (pv 0) (zg (WS (v:=.ty "str") rfl T.sy boot_str rfl) Qf)))
   (AQ (SE IH IH Qi (QC Wi rfl T.vI zX (zg (pv 0) Qf)) (CQ rfl T.Qac))
   (Gm (Ql m o rfl T.tX g.kp l .nil Qm (zg (pv 0) (zg (CQ rfl T.sQ) Qf))))))),?_⟩
  rcases h with⟨x,rfl,i,k⟩|⟨v,t,rfl,ty,p,k⟩
  .refine⟨_,U,_,_,_,_,_,U,U,WG.str x,Oo,_,U,Yj ?_⟩;refine⟨_,U,x,U,Ya (i),_,_,U,U,_,U,?_⟩;have b:isW x=(decide (1<=(x.length:Int))&&(decide ((x.length:Int)<=20)&&x.cps.toList.all λc=>decide (c∈aZ.cps.toList))):=rfl;by_cases d:(1:Int)<=(x.length:Int)
   .rw[qu d];rw[qu d,uQ] at b;refine Yj ⟨_,_,U,U,_,U,?_⟩;by_cases e:(x.length:Int)<=20
    .rw[qu e];rw[qu e,uQ] at b;refine Yj ⟨_,U,x,aZ,U,i,λH' s'=>?_⟩;rw[<-b];exact k H' s'
    .rw[qF e];rw[qF e,tK] at b;refine QV ?_;rw[<-b];exact k H (Qj.refl H)
   .rw[qF d];rw[qF d,tK] at b;refine QV ⟨_,U,QV ?_⟩;rw[<-b];exact k H (Qj.refl H)
  .exact⟨_,U,_,_,_,_,_,U,U,ty,p,_,U,QV k⟩
def Nd:∀(l:qa Nat)(st:qe×qb),(l.foldl wJ st).1.length<=st.1.length+l.length/\(l.foldl wJ st).2.length<=st.2.length+l.length
 |[],st=>⟨qD _,qD _⟩
 |c::l,st=>by
  rw[zy,qX];have q:=Nd l (wJ st c);have e:(wJ st c).1.length<=st.1.length+1/\(wJ st c).2.length<=st.2.length+1:=by
   unfold wJ;split
   .exact⟨ox _,by rw[OR,FN];exact qD _⟩
   .refine⟨by rw[qz];exact qD _,?_⟩;show Str.empty.length<=_;exact za _
  omega
def aM(l:qa Nat):(wK l).1.length<=l.length/\(wK l).2.length<=l.length:=by
 have q:=Nd l ([],Str.empty);have e:Str.empty.length=0:=rfl;rw[jZ,e,Nat.zero_add] at q;exact q
def Nf(x:qb):(wb x).length<=x.length+1:=by
 have q:=aM x.cps.toList;have e:=qY BR ((wK x.cps.toList).1++[(wK x.cps.toList).2]);rw[qz,qS] at e;rw[VS];show(List.filter BR _).length<=_;omega
inductive Nr(vs:qa V)(H:Hp)(Q:VK)(E:XK):Prop
 |mk:∀x:qb,vs=[.str x]->wN x->x.length<=900->(∀(l:qc)(H':Hp),H l=none->Qj H H'->H' l=some (.lst ((wb x).map V.str))->Q (.ref l) H')->Nr vs H Q E
def IJ(F:zT K Jv Jv W3 a.uk fd)(T:Txt K mg a):QQ P w K mg base j6 1 a.uk fd [JS] Nr:=by
 refine F.ok Bo (λp A outer s H vs Q E v h=>?_)
 .obtain⟨x,rfl,g,t,k⟩:=h;refine⟨_,(Qd (Xx (sc:=Qg W3) (N:=C0) (i:=1) (fr:=[]) (cs_ rfl rfl) rfl rfl rfl Bo.nd U rfl (Mu (pv 0)) (λ_ _ _ _=>GY) (λ_ _ _ _=>(CP (Qt KH (pv 0) (CQ rfl T.Qab) (by with_unfolding_all rfl)) (bA K plainAttrs_str PySem.F.slot_str_lower PySem.F.type_str_lower Lc (pv 0)) Qp)))
   (Qe (Qu (CS plainAttrs_str PySem.F.slot_str_split PySem.F.type_str_split PN (V5 plainAttrs_str slot_str_join type_str_join FY Qp (zg (pv 1) Qf)))))),?_⟩
  refine⟨_,U,x,U,LK (λc=>.str ⟨#[gS c]⟩) (Ya ((by show x.length<=1000;omega))) ?_ ?_⟩
  .intro c b Q' hc q;refine⟨_,U,_,_,U,U,_,U,?_⟩;rw[sj];have d:gS c=if decide (c∈rS.cps.toList)=true then lo1 c else 32:=rfl
   rw[d] at q;refine MQ (λh=>?_) (λh=>?_)
   .rw[qG h] at q;refine⟨_,U,U,⟨#[c]⟩,U,U,g.one hc,(by show 1<=1000000;decide),?_⟩;have e:(#[c]:Array Nat).map lo1=#[lo1 c]:=by simp
    show Q' (.str ⟨(#[c]:Array Nat).map lo1⟩) b;rw[e];exact q
   .rw[qA h] at q;exact q
  .intro D j;generalize b:x.cps.toList.map (λc=>(⟨#[gS c]⟩:qb))=ys;have m:x.cps.toList.map (λc=>V.str ⟨#[gS c]⟩)=ys.map V.str:=by rw[<-b,qV];rfl
   have d:∀y∈ys,y.length=1:=λy n=>by
    rw[<-b] at n;obtain⟨c,_,rfl⟩:=qj.mp n;rfl
   have f:ys.length=x.length:=by rw[<-b,qh,VS]
   have u:(Txt.join "" ys).cps.toList=x.cps.toList.map gS:=by
    rw[Ou,<-b,qV];clear g t k b m d f j
    induction x.cps.toList with
    |nil=>rfl
    |cons c r o=>simpa using o
   rw[m];refine⟨U,_,U,"",D,ys,U,U,zN.of Qc,Dn d (by omega),U,_,U,U,(by rw[Bb d];omega),λl o=>?_⟩;rw[OX u];have s1:Qj H (upd H D (.lst (ys.map V.str))):=Qj.zk j;exact k l _ (s1.free o) (s1.z6 (s1.free o)) Qc
def Fn{y:V}(h:(xs.map V.str)[i]?=some y):∃t,y=.str t/\xs[i]?=some t:=by
 rw[qQ] at h
 cases e:xs[i]? with
 |none=>rw[e] at h;cases h
 |some t=>rw[e] at h;exact⟨t,(qN h).symm,U⟩
structure XQ(s t b:qb)(d:Int)(an:qb):Prop where
 s_:Uz s
 t_:wN t
 tl:t.length<=60
 tn:¬10∈t.cps.toList
 b_:wN b
 bl:b.length<=400
 d0:0<=d
 d1:d<=9999
 a_:an=""\/Uz an
abbrev lfs(s t b:qb)(d:Int)(an:qb)(f:V):qa (qb×V):=[(Z4,.str s),(Js,.str t),(JC,.str b),(JL,.int d),(Zr,.str an),("found",f)]
def L5(a:yL)(H:Hp)(x:qc)(s t b:qb)(d:Int)(an:qb)(D:qc):Prop:=(∃dx,H x=some (.ins a.jd dx (lfs s t b d an (.ref D))))/\H D=some (.dK (kn (wb t) (wb t++wb b)))
def UR(a:yL)(H:Hp)(x:qc)(s t b:qb)(d:Int)(an:qb):Prop:=(∃dx,H x=some (.ins a.jd dx (lfs s t b d an .non)))\/∃D,L5 a H x s t b d an D
def UR.mono{b:qb}{d:Int}(h:UR a H x s t b d an)(q:Qj H H'):UR a H' x s t b d an:=by
 rcases h with⟨dx,e⟩|⟨D,⟨dx,e⟩,c⟩
 .exact .inl ⟨dx,q _ _ e⟩
 .exact .inr ⟨D,⟨dx,q _ _ e⟩,q _ _ c⟩
def UR.at{b:qb}{d:Int}(h:UR a H x s t b d an):∃dx f,H x=some (.ins a.jd dx (lfs s t b d an f)):=by
 rcases h with⟨dx,e⟩|⟨D,⟨dx,e⟩,c⟩
 .exact⟨dx,_,e⟩
 .exact⟨dx,_,e⟩
def UR.other{y:qc}{b:qb}{d:Int}{C f:qc}{fs:qa (qb×V)}(h:UR a H x s t b d an)(ne:x≠y)(g:H y=some (.ins C f fs))(q:SX y H H'):UR a H' x s t b d an:=by
 rcases h with⟨dx,e⟩|⟨D,⟨dx,e⟩,c⟩
 .exact .inl ⟨dx,q _ _ ne e⟩
 .exact .inr ⟨D,⟨dx,q _ _ ne e⟩,q _ _ (Q4 c g (λz=>nomatch z)) c⟩
def TU{x:qb}(h:Uz x):isW x=true:=by
 unfold isW;have a:=h.lo;have b:=h.hi;rw[qu (by omega),qu (by omega),uQ,uQ];exact jc.mpr λc hc=>qu (h.in_ c hc)
def Ra:isW ""=false:=by decide +kernel
inductive Ia(vs:qa V)(H:Hp)(Q:VK)(E:XK):Prop
 |mk:∀(x:qb)(m:Int),vs=[.str x,.int m]->x.length<=1000->Q (.bl (decide ((x.length:Int)<=m))) H->Ia vs H Q E
inductive Nt(vs:qa V)(H:Hp)(Q:VK)(E:XK):Prop
 |mk:∀i:Int,vs=[.int i]->Q (.bl true) H->Nt vs H Q E
inductive Cs(vs:qa V)(H:Hp)(Q:VK)(E:XK):Prop
 |mk:∀x:qb,vs=[.str x]->(x=""\/Uz x)->(∀H',Qj H H'->Q (.bl true) H')->Cs vs H Q E
inductive NK(vs:qa V)(H:Hp)(Q:VK)(E:XK):Prop
 |mk:∀s t b d an,vs=[.str s,.str t,.str b,.int d,.str an]->XQ s t b d an->(∀H',Qj H H'->Q .non H')->NK vs H Q E
inductive Fo(a:yL)(vs:qa V)(H:Hp)(Q:VK)(E:XK):Prop
 |mk:∀x dx s t b d an,vs=[.ref x,.str s,.str t,.str b,.int d,.str an]->XQ s t b d an->H x=some (.ins a.jd dx [])->(∀H',(∀c o,c≠x->H c=some o->H' c=some o)->H' x=some (.ins a.jd dx (lfs s t b d an .non))->Q .non H')->Fo a vs H Q E
inductive NA(a:yL)(vs:qa V)(H:Hp)(Q:VK)(E:XK):Prop
 |mk:∀x s t b d an,vs=[.ref x]->UR a H x s t b d an->(∀p,H p=none->Q (.ref p) (upd H p (.tup [.str s,.str t,.str b,.int d,.str an])))->NA a vs H Q E
def hJ :kitOne K (.type "tuple") (.type "tuple")=some true:=by unfold kitOne;rw[qG (yr _)]
def hO :kitOne K (.type "int") (.type "int")=some true:=by unfold kitOne;rw[qG (yr _)]
def hP :kitOne K (.type "int") (.type "bool")=some false:=by kernel_rfl
def fD:("\n":qb)=⟨#[10]⟩:=by decide +kernel
def ME{b:qb}{d:Int}{R:VK}{E:XK}(h:H x=none)(hd:H dx=none)(ne:dx≠x)(g:XQ s t b d an)(k:∀H',Qj H H'->UR a H' x s t b d an->R .non H') :
 Fo a [.ref x,.str s,.str t,.str b,.int d,.str an] (upd (upd H dx (.own x)) x (.ins a.jd dx [])) R E:=by
 refine⟨x,dx,s,t,b,d,an,U,g,Qc,λH' i f=>k H' (λc o e=>i c o (Qb e h) ?_) (.inl ⟨dx,f⟩)⟩;rw[Qa (Qb e h),Qa (Qb e hd)];exact e
def Mz(F:zT K JF JF GN a.iM fd)(T:Txt K mg a):QQ P w K mg base j6 1 a.iM fd [ZC,"most"] Ia:=by
 refine F.ok Mn (λb A outer s H vs Q E d h=>?_)
 .obtain⟨x,m,rfl,c,k⟩:=h;refine⟨_,(Qe (Qu (AQ (QC Y0 rfl T.j3 boot_isinstance (zg (pv 0) (zg (WS (v:=.ty "str") rfl T.sy boot_str rfl) Qf))) (Gm (UI IH (QC Wi rfl T.vI zX (zg (pv 0) Qf)) (pv 1)))))),?_⟩;exact⟨_,U,_,_,_,_,_,U,U,WG.str x,Oo,_,U,Yj ⟨_,U,x,U,Ya (c),_,U,_,_,U,U,k⟩⟩
def IT(F:zT K Jw Jw Ky a.uw fd)(T:Txt K mg a):QQ P w K mg base j6 1 a.uw fd [ZC] Nt:=by
 refine F.ok Ip (λb A outer s H vs Q E c h=>?_)
 .obtain⟨x,rfl,k⟩:=h;refine⟨_,(Qe (Qu (AQ (QC Y0 rfl T.j3 boot_isinstance (zg (pv 0) (zg (WS (v:=.ty "int") rfl T.Qak boot_int rfl) Qf))) (Gm (eU (QC Y0 rfl T.j3 boot_isinstance (zg (pv 0) (zg (WS (v:=.ty "bool") rfl T.QdL PyProof.Rows.boot_bool rfl) Qf)))))))),?_⟩;exact⟨_,U,_,_,_,_,_,U,U,WG.int x,hO,_,U,Yj ⟨_,U,_,_,_,_,_,U,U,WG.int x,hP,_,U,k⟩⟩
def CT(F:zT K ZV ZV V7 a.kZ fd)(T:Txt K mg a)(c:YC K a):QQ P w K mg base j6 3 a.kZ fd [ZC] Cs:=by
 obtain⟨d,xI,mY⟩:=c.xI;have nT:=@EE P w K mg base a _ xI T c;refine F.ok CD (λe A outer s H vs Q E f h=>?_)
 .obtain⟨x,rfl,b,k⟩:=h;have lz:QG 2 _:=f;refine⟨_,(Qe (Qu (Sz (Ql nT lz rfl T.su xI.kp mY .nil Qm (zg (pv 0) Qf)) (Gm (AQ (QC Y0 rfl T.j3 boot_isinstance (zg (pv 0) (zg (WS (v:=.ty "str") rfl T.sy boot_str rfl) Qf))) (Gm (UI Ue (pv 0) Qp))))))),?_⟩;rcases b with rfl|b
  .refine⟨_,U,.inl ⟨_,U,by rw[E6];omega,λH' s'=>?_⟩⟩;rw[Ra];refine⟨_,U,QV ⟨_,U,_,_,_,_,_,U,U,WG.str _,Oo,_,U,Yj ⟨_,U,U,?_⟩⟩⟩;rw[qu rfl];exact k H' s'
  .have:=b.hi;refine⟨_,U,.inl ⟨_,U,by omega,λH' s'=>?_⟩⟩;rw[TU b];exact⟨_,U,Yj (k H' s')⟩
def S7(F:zT K ZW ZW V9 a.vb fd)(T:Txt K mg a)(c:YC K a):QQ P w K mg base j6 4 a.vb fd [Z4,Js,JC,JL,Zr] NK:=by
 obtain⟨f,xI,mY⟩:=c.xI;have nT:=@EE P w K mg base a _ xI T c;obtain⟨i,ua,sA⟩:=c.ua;have sD:=@Mz P w K mg base a _ ua T;obtain⟨j,uD,QaT⟩:=c.uD;have QaY:=@IT P w K mg base a _ uD T;obtain⟨l,vh,rC⟩:=c.vh;have rK:=@CT P w K mg base a _ vh T c;refine F.ok CG (λm A outer s H vs Q E e h=>?_)
 .obtain⟨s,t,b,d,an,rfl,g,k⟩:=h;have lz:QG 2 _:=e.mono;have pw:QG 1 _:=e.mono;have Qaa:QG 1 _:=e.mono;have pz:QG 3 _:=e;refine⟨_,(Qd (QU (UL (Uu (Ql nT lz rfl T.su xI.kp mY .nil Qm (zg (pv 0) Qf)))) (Qe VQ) QD)
   (Qd (QU (PW.pt (XJ (UL (Uu (Ql sD pw rfl T.sv ua.kp sA .nil Qm (zg (pv 1) (zg (CQ rfl T.sR) Qf))))) (V0 (Qt KH Qp (pv 1) (by with_unfolding_all rfl))))) (Qe VQ) QD)
   (Qd (QU (UL (Uu (Ql sD pw rfl T.sv ua.kp sA .nil Qm (zg (pv 2) (zg (CQ rfl T.Qad) Qf))))) (Qe VQ) QD)
   (Qd (QU (PW.pt (XJ (UL (Uu (Ql QaY Qaa rfl T.QaL uD.kp QaT .nil Qm (zg (pv 3) Qf)))) (V0 (UL (Sq IH IH Qi (pv 3) (CQ rfl T.QaN)))))) (Qe VQ) QD)
   (Qe (QU (UL (Uu (Ql rK pz rfl T.rA vh.kp rC .nil Qm (zg (pv 4) Qf)))) (Qe VQ) QD)))))),?_⟩
  have o:=g.s_.hi;refine⟨_,U,.inl ⟨s,U,by omega,λH1 s1=>?_⟩⟩;rw[TU g.s_];refine⟨_,U,QV ?_⟩;refine⟨_,U,t,60,U,by have:=g.tl;omega,?_⟩;rw[qu (by have:=g.tl;omega)];refine⟨_,U,QV ⟨_,U,_,_,U,U,_,U,?_⟩⟩;rw[fD,sj,qF g.tn];refine QV ⟨_,U,b,400,U,by have:=g.bl;omega,?_⟩;rw[qu (by have:=g.bl;omega)];refine⟨_,U,QV ⟨_,U,d,U,_,U,QV ?_⟩⟩;refine⟨_,U,_,_,U,U,_,U,?_⟩;rw[qu g.d0];refine Yj ⟨_,_,U,U,_,U,?_⟩;rw[qu g.d1];refine QV ⟨_,U,an,U,g.a_,λn s2=>⟨_,U,QV (k n (s1.trans s2))⟩⟩
def Oh(F:Aq K Zf "Letter.__init__" Wc a.ve fd)(T:Txt K mg a)(f:YC K a):QQ P w K mg base j6 5 a.ve fd [ZZ,Z4,Js,JC,JL,Zr] (Fo a):=by
 obtain⟨i,vi,rD⟩:=f.vi;have rL:=@S7 P w K mg base a _ vi T f;refine F.ok CI (λj A outer s H vs Q E l h=>?_)
 .obtain⟨x,dx,s,t,b,d,an,rfl,g,m,k⟩:=h;have pA:QG 4 _:=l;refine⟨_,(Qd (Qy (Ql rL pA rfl T.rB vi.kp rD .nil Qm (zg (pv 1) (zg (pv 2) (zg (pv 3) (zg (pv 4) (zg (pv 5) Qf)))))))
   (Qd (YF (pv 0) (pv 1) U)
   (Qd (YF (pv 0) (pv 2) U)
   (Qd (YF (pv 0) (pv 3) U)
   (Qd (YF (pv 0) (pv 4) U)
   (Qd (YF (pv 0) (pv 5) U)
   (Qe (YF (pv 0) AO rfl)))))))),?_⟩
  refine⟨_,U,_,U,_,U,_,U,_,U,s,t,b,d,an,U,g,λH1 s1=>?_⟩;refine⟨_,U,_,U,x,_,dx,_,U,s1 _ _ m,T.zH,T.vA,by decide,?_⟩;refine⟨_,U,_,U,x,_,dx,_,U,Qc,T.zH,T.xU,(by show 1<1000;decide),?_⟩;refine⟨_,U,_,U,x,_,dx,_,U,Qc,T.zH,T.kY,(by show 2<1000;decide),?_⟩;refine⟨_,U,_,U,x,_,dx,_,U,Qc,T.zH,T.uh,(by show 3<1000;decide),?_⟩;refine⟨_,U,_,U,x,_,dx,_,U,Qc,T.zH,T.yS,(by show 4<1000;decide),?_⟩;refine⟨_,U,x,_,dx,_,U,Qc,T.zH,T.jK,(by show 5<1000;decide),?_⟩;refine k _ (λc o ne e=>?_) ?_
  .rw[Qa ne,Qa ne,Qa ne,Qa ne,Qa ne,Qa ne];exact s1 _ _ e
  .exact Qc
def SV(F:zT K ZZo "Letter.parts" VE a.ke fd)(T:Txt K mg a):QQ P w K mg base j6 1 a.ke fd [ZZ] (NA a):=by
 refine F.ok BG (λe A outer s H vs Q E i h=>?_)
 .obtain⟨x,s,t,b,d,an,rfl,g,k⟩:=h;obtain⟨dx,f,c⟩:=g.at
  refine⟨_,(Qe (Qu (GZ (Qh (Qk (pv 0) U) (Qh (Qk (pv 0) U) (Qh (Qk (pv 0) U) (Qh (Qk (pv 0) U) (Qh (Qk (pv 0) U) QA)))))))),?_⟩;exact⟨_,U,x,_,dx,_,_,U,c,T.zH,T.vA,U,_,U,x,_,dx,_,_,U,c,T.zH,T.xU,U,_,U,x,_,dx,_,_,U,c,T.zH,T.kY,U,_,U,x,_,dx,_,_,U,c,T.zH,T.uh,U,_,U,x,_,dx,_,_,U,c,T.zH,T.yS,U,aJ,k⟩
abbrev cfs(y:qc)(fo:qb)(g:qc):qa (qb×V):=[(Z7,.ref y),("box",.str fo),(Jr,.ref g)]
def Na(a:yL)(H:Hp)(x g:qc)(s t b:qb)(d:Int)(an fo:qb)(ms:qe):Prop:=(∃dx y,H x=some (.ins a.vF dx (cfs y fo g))/\UR a H y s t b d an)/\H g=some (.lst (ms.map V.str))
def Ap(H:Hp)(m:V)(ss:qe):Prop:=(m=.non/\ss=[])\/∃p,m=.ref p/\(H p=some (.lst (ss.map V.str))\/H p=some (.tup (ss.map V.str)))
def Ap.mono{m:V}{ss:qe}(h:Ap H m ss)(q:Qj H H'):Ap H' m ss:=by
 rcases h with h|⟨p,e,h|h⟩
 .exact .inl h
 .exact .inr ⟨p,e,.inl (q _ _ h)⟩
 .exact .inr ⟨p,e,.inr (q _ _ h)⟩
def dU(a:yL):Sp:=λvs H Q _=>∃x s t b d an,vs=[.ref x]/\UR a H x s t b d an/\XQ s t b d an/\∀y H',H y=none->Qj H H'->UR a H' y s t b d an->Q (.ref y) H'
def NM(a:yL):Sp:=λvs H Q _=>∃x dx lt fo m s t b d an ss,vs=[.ref x,.ref lt,.str fo,m]/\H x=some (.ins a.vF dx [])/\UR a H lt s t b d an/\XQ s t b d an/\Ap H m ss/\ss.length<=60 /\
 ∀H' g,(∀c o,c≠x->H c=some o->H' c=some o)->H g=none->Na a H' x g s t b d an fo (SS ss)->Q .non H'
def Tg{b:qb}{d:Int}{m:V}{ss:qe}{R:VK}{E:XK}{lt:qc}(h:H x=none)(hd:H dx=none)(ne:dx≠x)(i:UR a H lt s t b d an)(j:XQ s t b d an)(hm:Ap H m ss)(hz:ss.length<=60)
 (k:∀H' g,Qj H H'->H g=none->Na a H' x g s t b d an fo (SS ss)->R .non H'):NM a [.ref x,.ref lt,.str fo,m] (upd (upd H dx (.own x)) x (.ins a.vF dx [])) R E:=by
 have f:Qj H (upd (upd H dx (.own x)) x (.ins a.vF dx [])):=λc o e=>by rw[Qa (Qb e h),Qa (Qb e hd)];exact e
 refine⟨x,dx,lt,fo,m,s,t,b,d,an,ss,U,Qc,i.mono f,j,hm.mono f,hz,λH' g l n hc=>k H' g (λc o e=>l c o (Qb e h) (f _ _ e)) (f.free n) hc⟩
def Og(F:zT K ZZk "Letter.twin" Wb a.vd fd)(T:Txt K mg a)(o:YC K a):QQ P w K mg base j6 7 a.vd fd [ZZ] (dU a):=by
 obtain⟨r,QaZ,wF,_⟩:=o.lu;have wI:=@Oh P w K mg base a _ QaZ T o;refine F.ok X2 (λu A outer s H vs Q E v h=>?_) (λvs H Q E h=>by obtain⟨x,s,t,b,d,an,rfl,_⟩:=h;rfl)
 .obtain⟨x,s,t,b,d,an,rfl,p,g,k⟩:=h;have uj:QG 6 _:=v;obtain⟨dx,f,c⟩:=p.at
  refine⟨_,(Qd (Qs (i:=1) X2.nd (FJ T.tZ wI uj rfl T.sm wF .nil Qm (zg (Qk (pv 0) U) (zg (Qk (pv 0) U) (zg (Qk (pv 0) U) (zg (Qk (pv 0) U) (zg (Qk (pv 0) U) Qf)))))))
   (Qd (YF (pv 1) (Qk (pv 0) U) rfl)
   (Qe (Qu (pv 1))))),?_⟩
  refine⟨_,U,x,_,dx,_,_,U,c,T.zH,T.vA,U,_,U,x,_,dx,_,_,U,c,T.zH,T.xU,U,_,U,x,_,dx,_,_,U,c,T.zH,T.kY,U,_,U,x,_,dx,_,_,U,c,T.zH,T.uh,U,_,U,x,_,dx,_,_,U,c,T.zH,T.yS,U,λy G m z ne=>ME m z ne g λH1 s1 B=>⟨U,?_⟩⟩;obtain⟨j,f2,C⟩:=B.at
  refine⟨_,U,x,_,dx,_,_,U,s1 _ _ c,T.zH,T.jK,U,_,U,y,_,j,_,U,C,T.zH,T.jK,(by show 6<1000;decide),?_⟩;refine⟨_,U,k y _ m (s1.z6 m) ?_⟩;rcases p with⟨n,l⟩|⟨D,⟨n,l⟩,q⟩
  .have e:=c.symm.trans l
   injection e with e
   injection e with _ _ e
   simp only[List.cons.injEq,Qa3,true_and,and_true] at e;subst e;exact .inl ⟨j,Qc⟩
  .have e:=c.symm.trans l
   injection e with e
   injection e with _ _ e
   simp only[List.cons.injEq,Qa3,true_and,and_true] at e;subst e;exact .inr ⟨D,⟨j,Qc⟩,by rw[Qa (Qb q m)];exact s1 _ _ q⟩
def S6(F:Aq K Zf "Card.__init__" Xw a.wo fd)(T:Txt K mg a)(Z:YC K a):QQ P w K mg base j6 8 a.wo fd [ZZ,Z7,Ze,ZM] (NM a):=by
 obtain⟨fdA,yE,wD⟩:=Z.yE;have wH:=@Og P w K mg base a _ yE T Z;refine F.ok Fw (λcdv A outer st H vs Q E hr h=>?_) (λvs H Q E h=>by obtain⟨x,dx,lt,fo,m,s,t,b,d,an,ss,rfl,_⟩:=h;rfl)
 .obtain⟨x,dx,lt,fo,m,s,t,b,d,an,ss,rfl,D,hl,gd,hm,hz,k⟩:=h;have pB:QG 7 _:=hr;refine⟨_,(Qd (YF (pv 0) (Ud (pv 1) T.zH T.lg wH pB wD .nil Qm) rfl)
   (Qd (YF (pv 0) (pv 2) U)
   (Qe (YF (pv 0) (CP (Qt SJ (pv 3) AO) (KD QA) (QC (XN rfl) rfl T.jQ boot_sorted (zg (Ui (BC rfl) rfl T.Qc0 boot_set (zg (pv 3) Qf)) Qf))) rfl)))),?_⟩
  obtain⟨dl,fl,el⟩:=hl.at
  refine⟨_,U,lt,dl,_,U,el,U,lt,s,t,b,d,an,U,hl,gd,λy H1 ny s1 hy=>?_⟩;have u:=s1 _ _ D;have xy:x≠y:=Qb D ny;refine⟨_,U,x,_,dx,_,U,u,T.uY,T.i0,(by show 0<1000;decide),?_⟩;refine⟨_,U,_,U,x,_,dx,_,U,Qc,T.uY,T.lx,(by show 1<1000;decide),?_⟩;rw[Kt];generalize v:upd H1 x (.ins a.vF dx (QJ "box" (.str fo) (QJ Z7 (.ref y) [])))=i;have f:∀c o,c≠x->H1 c=some o->i c=some o:=λc o n e=>by rw[<-v,Qa n];exact e
  have I:i x=some (.ins a.vF dx [(Z7,.ref y),("box",.str fo)]):=by rw[<-v];exact Qc
  have yx:y≠x:=xy.symm;have J:UR a i y s t b d an:=hy.other yx u f;have fin:∀(r:Hp)(g:qc)(ms:qe),Qj i r->r g=none->ms=SS ss ->
   ∃q C j fs,V.ref x=.ref q/\(upd r g (.lst (ms.map V.str))) q=some (.ins C j fs)/\tJ K C/\Yi K C Jr/\fs.length<1000/\Q .non (upd (upd r g (.lst (ms.map V.str))) q (.ins C j (QJ Jr (.ref g) fs))):=by
   intro r g ms s3 j L;have q:=s3 _ _ I;have G:x≠g:=Qb q j;refine⟨x,_,dx,_,U,(by rw[Qa G];exact q),T.uY,T.ui,(by show 2<1000;decide),?_⟩;have B:i g=none:=s3.free j;have O:H g=none:=by
    cases e:H g with
    |none=>rfl
    |some o=>rw[f g o G.symm (s1 _ _ e)] at B;cases B
   have M:UR a (upd r g (.lst (ms.map V.str))) y s t b d an:=(J.mono s3).mono (Qj.zk j);refine k _ g (λc o n e=>?_) O ⟨⟨dx,y,Qc,?_⟩,?_⟩
   .have N:=s3 _ _ (f c o n (s1 _ _ e));rw[Qa n,Qa (Qb N j)];exact N
   .exact M.other yx (by rw[Qa G];exact q) λc o n e=>by rw[Qa n];exact e
   .rw[Qa G.symm,Qc,L]
  rcases hm with⟨rfl,rfl⟩|⟨p,rfl,hS⟩
  .refine⟨_,U,U,_,U,Yj ⟨de,λg j=>⟨_,U,?_⟩⟩⟩;obtain⟨q,B,G,L,M,N,O,R,S,X⟩:=fin i g [] (Qj.refl _) j rfl;exact⟨q,B,G,L,M,N,O,R,S,X⟩
  .have Y:zN K i p (ss.map V.str)\/jW K i p (ss.map V.str):=by
    rcases hS with hS|hS
    .exact .inl (zN.of (f _ _ (Q4 hS D (λz=>nomatch z)) (s1 _ _ hS)))
    .exact .inr (jW.of (f _ _ (Q4 hS D (λz=>nomatch z)) (s1 _ _ hS)))
   refine⟨_,U,U,_,U,QV ⟨_,U,p,ss,U,Y,by omega,λl nl=>?_⟩⟩;have s3:Qj i (upd i l (XF P w l (dd ss))):=Qj.zk nl;have hdl:=av ss;refine⟨l,dd ss,U,Qc,by omega,λg j=>⟨_,U,?_⟩⟩;obtain⟨q,B,G,L,M,N,O,R,S,X⟩:=fin _ g (SS ss) s3 j rfl;exact⟨q,B,G,L,M,N,O,R,S,X⟩
def O3:HO->Bool
 |.tup _=>true
 |_=>false
def rest(own:qc->Nat)(i:Nat)(H:Hp):Hp:=λc=>if own c=i then (match H c with|some (.tup xs)=>some (.tup xs)|_=>none) else H c
def Q0(own:qc->Nat)(i:Nat)(H:Hp):qc->Nat:=λc=>match H c with
 |none=>i
 |some _=>own c
def Qq(e:H c=some o):Q0 own i H c=own c:=by unfold Q0;rw[e]
def Lx(e:H c=none):Q0 own i H c=i:=by unfold Q0;rw[e]
def Xj(h:own c=i\/H c=none):Q0 own i H c=i:=by
 cases e:H c with
 |none=>exact Lx e
 |some o=>rw[Qq e];exact h.resolve_right (λz=>by rw[e] at z;cases z)
def lL(own:qc->Nat)(i:Nat)(H H':Hp):Prop:=∀c o,H c=some o->(own c≠i\/O3 o=true)->H' c=some o
def lL.of(s:Qj H H'):lL own i H H':=λc o e _=>s c o e
def lL.tup(k:lL own i H H'){xs:qa V}(e:H c=some (.tup xs)):H' c=some (.tup xs):=k c _ e (.inr rfl)
def lL.rest(s:Qj (rest own i H) H'):lL own i H H':=λc o e h=>s c o (by
 unfold K52.rest;by_cases z:own c=i
 .rw[qG z,e]
  cases o with
  |tup xs=>rfl
  |_=>exact absurd (h.resolve_left (λy=>y z)) (by intro q;cases q)
 .rw[qA z];exact e)
def O9(h:rest own i H c=none):own c=i\/H c=none:=by
 unfold rest at h;by_cases z:own c=i
 .exact .inl z
 .rw[qA z] at h;exact .inr h
def Pa(z:own c=i)(h:∀xs,H c≠some (.tup xs)):rest own i H c=none:=by
 unfold rest;rw[qG z];split
 .rename_i xs e;exact absurd e (h xs)
 .rfl
def R7(own:qc->Nat)(i:Nat)(H:Hp):Qj (rest own i H) H:=λc o e=>by
 unfold rest at e;by_cases z:own c=i
 .rw[qG z] at e;split at e
  .rename_i xs q;rw[q];exact e
  .cases e
 .rw[qA z] at e;exact e
section
variable {a:yL}{own:qc->Nat}{H H':Hp}{x:qc}
def FoO(a:yL)(H:Hp)(own:qc->Nat)(x:qc)(bx:Rows)(mk:qb->qe)(W M:qe)(n:Nat):Prop:=∃F,FO a H x bx mk W M n F/\own x=0/\∀c∈F,own c=3
def FoO.step(h:FoO a H own x bx mk W M n)(k:lL own j H H')(g:j≠3:=by decide)(h0:j≠0:=by decide):FoO a H' (Q0 own j H) x bx mk W M n:=by
 obtain⟨F,f,b,d⟩:=h;obtain⟨dx,i,T1,l,ex⟩:=f.obj;refine⟨F,f.keep λc o hc e=>k c o e (.inl ?_),by rw[Qq ex];exact b,λc hc=>?_⟩
 .rcases hc with rfl|hc
  .rw[b];exact λz=>h0 z.symm
  .rw[d c hc];exact λz=>g z.symm
 .obtain⟨kvs,e⟩:=f.kind hc;rw[Qq e];exact d c hc
def FoO.own'{b:Rows}{mk':qb->qe}{g i:qe}{j:Nat}{d:qa qc}(f:FO a H x bx mk W M n F)(p:own x=0)(l:∀c∈F,own c=3)(q:FO a H' x b mk' g i j d)(k:lW F H H')(r:∀c∈d,c∈F\/H c=none):FoO a H' (Q0 own 3 H) x b mk' g i j/\lL own 3 H H':=by
 obtain⟨dx,s,T1,t,ex⟩:=f.obj;refine⟨⟨d,q,by rw[Qq ex];exact p,λc hc=>Xj ((r c hc).imp (l c) id)⟩,λc o e h=>k c o (λhc=>?_) e⟩;rcases h with h|h
 .exact h (l c hc)
 .obtain⟨kvs,m⟩:=f.kind hc;rw[e] at m;cases m;cases h
def IxO(a:yL)(H:Hp)(own:qc->Nat)(x:qc)(R:NW)(W:qe)(n:Nat):Prop:=∃F,sC a H x R W n F/\own x=0/\∀c∈F,own c=2
def sC.there(h:sC a H x R W n F)(hc:c∈F):∃o,H c=some o/\O3 o=false:=by
 rcases h.kind hc with⟨kvs,e⟩|⟨xs,e⟩
 .exact⟨_,e,U⟩
 .exact⟨_,e,U⟩
def IxO.step(h:IxO a H own x R W n)(k:lL own j H H')(g:j≠2:=by decide)(h0:j≠0:=by decide):IxO a H' (Q0 own j H) x R W n:=by
 obtain⟨F,f,b,d⟩:=h;obtain⟨dx,E,B,ex⟩:=f.obj;refine⟨F,f.keep λc o hc e=>k c o e (.inl ?_),by rw[Qq ex];exact b,λc hc=>?_⟩
 .rcases hc with rfl|hc
  .rw[b];exact λz=>h0 z.symm
  .rw[d c hc];exact λz=>g z.symm
 .obtain⟨o,e,_⟩:=f.there hc;rw[Qq e];exact d c hc
def IxO.own'{d:NW}{g:qe}{i:Nat}{b:qa qc}(f:sC a H x R W n F)(m:own x=0)(j:∀c∈F,own c=2)(p:sC a H' x d g i b)(k:lW F H H')(r:∀c∈b,c∈F\/H c=none):IxO a H' (Q0 own 2 H) x d g i/\lL own 2 H H':=by
 obtain⟨dx,E,B,ex⟩:=f.obj;refine⟨⟨b,p,by rw[Qq ex];exact m,λc hc=>Xj ((r c hc).imp (j c) id)⟩,λc o e h=>k c o (λhc=>?_) e⟩;rcases h with h|h
 .exact h (j c hc)
 .obtain⟨s,l,q⟩:=f.there hc;rw[e] at l;cases l;rw[q] at h;cases h
def thF(L R:qc)(kr:qa (Key×V))(c:qc):Prop:=c=L\/c=R\/∃t:qb,Qv kr (Sum.inr t)=some (.ref c)
def TH.kind{R:qc}(h:TH a H x dx L R rows kr)(hc:thF L R kr c):∃kvs,H c=some (.dK kvs):=by
 rcases hc with rfl|rfl|⟨t,e⟩
 .exact⟨_,h.lk⟩
 .exact⟨_,h.rp⟩
 .obtain⟨d,b,f,_⟩:=h.ug t _ e;cases b;exact⟨_,f⟩
def TH.keep{R:qc}(h:TH a H x dx L R rows kr)(k:∀c o,(c=x\/thF L R kr c)->H c=some o->H' c=some o):TH a H' x dx L R rows kr:=
 ⟨k _ _ (.inl rfl) h.obj,k _ _ (.inr (.inl rfl)) h.lk,k _ _ (.inr (.inr (.inl rfl))) h.rp,h.lr,h.nd,h.few,h.Qce,λt v e=>let ⟨d,b,f,g⟩:=h.ug t v e;⟨d,b,k _ _ (.inr (.inr (.inr ⟨t,by rw[e,b]⟩))) f,g⟩,h.mR,h.e_,h.inj⟩
def ThO(a:yL)(H:Hp)(own:qc->Nat)(x:qc)(rows:Rows)(n:Nat):Prop:=∃dx L R kr,TH a H x dx L R rows kr/\rows.length<=n/\kr.length<=n/\own x=0/\∀c,thF L R kr c->own c=1
def ThO.step(h:ThO a H own x rows n)(k:lL own j H H')(g:j≠1:=by decide)(h0:j≠0:=by decide):ThO a H' (Q0 own j H) x rows n:=by
 obtain⟨dx,L,R,kr,b,i,l,d,f⟩:=h;refine⟨dx,L,R,kr,b.keep λc o hc e=>k c o e (.inl ?_),i,l,by rw[Qq b.obj];exact d,λc hc=>?_⟩
 .rcases hc with rfl|hc
  .rw[d];exact λz=>h0 z.symm
  .rw[f c hc];exact λz=>g z.symm
 .obtain⟨kvs,e⟩:=b.kind hc;rw[Qq e];exact f c hc
def ThO.thf(h:ThO a H own x rows n):THf a (rest own 1 H) H x rows n:=by
 obtain⟨dx,L,R,kr,b,f,g,j,i⟩:=h;have q:∀c,thF L R kr c->rest own 1 H c=none:=λc hc=>Pa (i c hc) λxs z=>by obtain⟨kvs,e⟩:=b.kind hc;rw[e] at z;cases z
 exact⟨dx,L,R,kr,b,f,g,⟨q L (.inl rfl),q R (.inr (.inl rfl)),λt d e=>q d (.inr (.inr ⟨t,e⟩))⟩,R7 _ _ _⟩
def ThO.of(d:own x=0)(f:∃o,H x=some o)(h:THf a (rest own 1 H) H' x rows n):ThO a H' (Q0 own 1 H) x rows n/\lL own 1 H H':=by
 obtain⟨dx,L,R,kr,g,i,j,b,s⟩:=h;obtain⟨o,ex⟩:=f;refine⟨⟨dx,L,R,kr,g,i,j,by rw[Qq ex];exact d,λc hc=>Xj (O9 ?_)⟩,lL.rest s⟩;rcases hc with rfl|rfl|⟨t,e⟩
 .exact b.hL
 .exact b.hR
 .exact b.hd t c e
end
section
variable {a:yL}{own:qc->Nat}{H H':Hp}{x:qc}
def Reg.keep{D:qc}(h:Reg a H x dx D kd es)(k:∀c o,(c=x\/FP D kd c)->H c=some o->H' c=some o)(kt:∀c xs,H c=some (.tup xs)->H' c=some (.tup xs)):Reg a H' x dx D kd es:=
 ⟨k _ _ (.inl rfl) h.obj,k _ _ (.inr (.inl rfl)) h.dr,λf v e=>let ⟨d,kvs,b,g,i,j⟩:=h.ug f v e;⟨d,kvs,b,g,k _ _ (.inr (.inr ⟨f,by rw[e,b]⟩)) i,j.mono kt⟩,h.mR,h.inj,h.few⟩
def RgO(a:yL)(H:Hp)(own:qc->Nat)(x:qc)(es:qa Ent):Prop:=∃dx D kd,Reg a H x dx D kd es/\own x=0/\∀c,FP D kd c->own c=4
def RgO.step(h:RgO a H own x es)(k:lL own j H H')(f:j≠4:=by decide)(h0:j≠0:=by decide):RgO a H' (Q0 own j H) x es:=by
 obtain⟨dx,D,kd,r,b,d⟩:=h;refine⟨dx,D,kd,r.keep (λc o hc e=>k c o e (.inl ?_)) λc xs e=>k.tup e,by rw[Qq r.obj];exact b,λc hc=>?_⟩
 .rcases hc with rfl|hc
  .rw[b];exact λz=>h0 z.symm
  .rw[d c hc];exact λz=>f z.symm
 .obtain⟨kvs,e⟩:=r.fp hc;rw[Qq e];exact d c hc
def RgO.own'{D:qc}{b:qa (qa Key×V)}{d:qa Ent}(r:Reg a H x dx D kd es)(i:own x=0)(f:∀c,FP D kd c->own c=4)(j:Reg a H' x dx D b d)(k:∀c o,H c=some o->¬FP D kd c->H' c=some o)(l:∀c,FP D b c->FP D kd c\/H c=none):RgO a H' (Q0 own 4 H) x d/\lL own 4 H H':=by
 refine⟨⟨dx,D,b,j,by rw[Qq r.obj];exact i,λc hc=>Xj ((l c hc).imp (f c) id)⟩,λc o e h=>k c o e (λhc=>?_)⟩;rcases h with h|h
 .exact h (f c hc)
 .obtain⟨kvs,g⟩:=r.fp hc;rw[e] at g;cases g;cases h
end
structure LD where
 s:qb
 t:qb
 b:qb
 d:Int
 an:qb
structure LE where
 nm:qb
 y:qc
 p:LD
variable {ls:qa LE}
def LtO(a:yL)(H:Hp)(own:qc->Nat)(y:qc)(p:LD):Prop:=own y=6/\((∃dx,H y=some (.ins a.jd dx (lfs p.s p.t p.b p.d p.an .non)))\/∃D,L5 a H y p.s p.t p.b p.d p.an D/\own D=6)
def LtO.let{y:qc}(h:LtO a H own y p):UR a H y p.s p.t p.b p.d p.an:=h.2.imp id λ⟨D,e,_⟩=>⟨D,e⟩
def LtO.there{y:qc}(h:LtO a H own y p):∃o,H y=some o:=by
 obtain⟨dx,f,e⟩:=h.let.at
 exact⟨_,e⟩
def LtO.step{y:qc}(h:LtO a H own y p)(k:lL own j H H')(c:j≠6):LtO a H' (Q0 own j H) y p:=by
 obtain⟨b,h⟩:=h;rcases h with⟨dx,e⟩|⟨D,⟨⟨dx,e⟩,d⟩,f⟩
 .exact⟨by rw[Qq e];exact b,.inl ⟨dx,k _ _ e (.inl (by rw[b];exact λz=>c z.symm))⟩⟩
 .exact⟨by rw[Qq e];exact b,.inr ⟨D,⟨⟨dx,k _ _ e (.inl (by rw[b];exact λz=>c z.symm))⟩,k _ _ d (.inl (by rw[f];exact λz=>c z.symm))⟩,by rw[Qq d];exact f⟩⟩
structure LsO(a:yL)(H:Hp)(own:qc->Nat)(L:qc)(ls:qa LE):Prop where
 e:H L=some (.dK (dG LE.nm (λl=>V.ref l.y) ls))
 o:own L=5
 nd:(ls.map LE.nm).Nodup
 na:(ls.map LE.y).Nodup
 at_:∀l∈ls,LtO a H own l.y l.p/\XQ l.p.s l.p.t l.p.b l.p.d l.p.an
def LsO.step(h:LsO a H own L ls)(k:lL own j H H')(c:j≠5:=by decide)(d:j≠6:=by decide):LsO a H' (Q0 own j H) L ls:=
 ⟨k _ _ h.e (.inl (by rw[h.o];exact λz=>c z.symm)),by rw[Qq h.e];exact h.o,h.nd,h.na,λl b=>⟨(h.at_ l b).1.step k d,(h.at_ l b).2⟩⟩
abbrev bfs(xr L xt xi xf:qc):qa (qb×V):=[(Zv,.ref xr),(Zs,.ref L),(Jt,.ref xt),(Jy,.ref xi),(ZZJ,.ref xf)]
def lwd(p:LD):qe:=SS (WX (wb p.t++wb p.b))
structure v8(a:yL)(H:Hp)(own:qc->Nat)(b db xr L xt xi xf:qc)(es:qa Ent)(ls:qa LE)(bx:Rows)(mk:qb->qe)(WI W M:qe)(n:Nat):Prop where
 e:H b=some (.ins a.zJ db (bfs xr L xt xi xf))
 o:own b=0
 r:RgO a H own xr es
 l:LsO a H own L ls
 t:ThO a H own xt (ls.map λl=>(l.nm,l.p.an)) n
 i:IxO a H own xi (ls.map λl=>(l.nm,lwd l.p)) WI n
 f:FoO a H own xf bx mk W M n
def v8.quiet(h:v8 a H own b db xr L xt xi xf es ls bx mk WI W M n)(s:Qj H H'):v8 a H' (Q0 own 7 H) b db xr L xt xi xf es ls bx mk WI W M n:=
 have k:lL own 7 H H':=lL.of s
 ⟨s _ _ h.e,by rw[Qq h.e];exact h.o,h.r.step k,h.l.step k,h.t.step k,h.i.step k,h.f.step k⟩
def KL{y a C:qc}(d:H y=none)(f:H a=none)(k:∀c o,c≠y->(upd (upd H a (.own y)) y (.ins C a [])) c=some o->H' c=some o):Qj H H':=λc o e=>by
 have b:=Qb e d;exact k c o b (by rw[Qa b,Qa (Qb e f)];exact e)
def A5{y a C:qc}(h:(upd (upd H a (.own y)) y (.ins C a [])) c=none):H c=none:=by
 by_cases z:c=y
 .rw[z,Qc] at h;cases h
 .rw[Qa z] at h;by_cases b:c=a
  .rw[b,Qc] at h;cases h
  .rw[Qa b] at h;exact h
noncomputable def Kb(D L L2 R2:qc)(a b:qa qc):qc->Nat:=λc=>if c=D then 4 else if c=L then 5 else if c=L2\/c=R2 then 1 else if c∈a then 2 else if c∈b then 3 else 0
inductive NP(a:yL)(vs:qa V)(H:Hp)(Q:VK)(E:XK):Prop
 |mk:∀(x dx:qc)(mk:qb->qe)(WI W M:qe),vs=[.ref x]->WI.length<=20->W.length<=20->M.length<=20->H x=some (.ins a.zJ dx [])->(∀H' own xr L xt xi xf,(∀c o,c≠x->H c=some o->H' c=some o)->(∀c o,c≠x->H c=some o->own c=0)->v8 a H' own x dx xr L xt xi xf [] [] [] mk WI W M 0->Q .non H')->NP a vs H Q E
def S9(F:zT K Zf "Board.__init__" WQ a.vN fd)(T:Txt K mg a)(FF:YC K a):QQ P w K mg base j6 3 a.vN fd [ZZ] (NP a):=by
 obtain⟨fd1,F1,nr⟩:=FF.oi;have nX:=@SR P w K mg base a _ F1 T;obtain⟨fd2,F2,pI⟩:=FF.rb;have pV:=@Pk P w K mg base a _ F2 T;obtain⟨fd3,F3,sV⟩:=FF.tq;have ti:=@SY P w K mg base a _ F3 T;obtain⟨fd4,F4,pM⟩:=FF.rj;have pZ:=@S5 P w K mg base a _ F4 T;refine F.ok DQ (λcdv A outer st H vs Q E hr h=>?_)
 .obtain⟨x,dx,mk,WI,W,M,rfl,hWI,hW,hM,hx,k⟩:=h;have u:QG 2 _:=hr;refine⟨_,(Qd (YF (pv 0) (X8 T.tY nX u rfl T.sP nr .nil Qm) rfl)
   (Qd (YF (pv 0) Yc rfl)
   (Qd (YF (pv 0) (X8 T.Qbr pV u rfl T.QaH pI .nil Qm) rfl)
   (Qd (YF (pv 0) (X8 T.QcH ti u rfl T.Qb7 sV .nil Qm) rfl)
   (Qe (YF (pv 0) (X8 T.Qbs pZ u rfl T.QaI pM .nil Qm) rfl)))))),?_⟩
  intro xr dr nxr ndr ner;refine⟨xr,dr,U,Qc,λD O nD rg ka=>⟨U,?_⟩⟩;have sa:Qj H O:=KL nxr ndr λc o n e=>ka c o e n;have hxa:=sa _ _ hx;refine⟨_,U,x,_,dx,_,U,hxa,T.zp,T.j8,(by decide),?_⟩;have R:(upd O x (.ins a.zJ dx (QJ Zv (.ref xr) []))) x=some (.ins a.zJ dx (QJ Zv (.ref xr) [])):=Qc;have kb:SX x O (upd O x (.ins a.zJ dx (QJ Zv (.ref xr) []))):=λc o n e=>by rw[Qa n];exact e
  generalize upd O x (.ins a.zJ dx (QJ Zv (.ref xr) []))=Hb at R kb;intro L nL;have sc:Qj Hb (upd Hb L (.dK [])):=Qj.zk nL;have eL:(upd Hb L (.dK [])) L=some (.dK []):=Qc;generalize upd Hb L (.dK [])=Hc at sc eL;have hxc:=sc _ _ R;refine⟨_,U,x,_,dx,_,U,hxc,T.zp,T.z8,(by show 1<1000;decide),?_⟩;have r:(upd Hc x (.ins a.zJ dx (QJ Zs (.ref L) (QJ Zv (.ref xr) [])))) x=some (.ins a.zJ dx (QJ Zs (.ref L) (QJ Zv (.ref xr) []))):=Qc;have kd:SX x Hc (upd Hc x (.ins a.zJ dx (QJ Zs (.ref L) (QJ Zv (.ref xr) [])))):=λc o n e=>by rw[Qa n];exact e
  generalize upd Hc x (.ins a.zJ dx (QJ Zs (.ref L) (QJ Zv (.ref xr) [])))=Hd at r kd;intro xt dt v ndt net;refine⟨Hd,xt,dt,U,Qc,λc o e=>⟨(by rw[Qa (Qb e v),Qa (Qb e ndt)];exact e),Qb e v⟩,λHe ht=>⟨U,?_⟩⟩;obtain⟨dxt,L2,R2,kr,th,hk0,hk1,oo,se⟩:=ht;have hxe:=se _ _ r;refine⟨_,U,x,_,dx,_,U,hxe,T.zp,T.xV,(by show 2<1000;decide),?_⟩;have y:(upd He x (.ins a.zJ dx (QJ Jt (.ref xt) (QJ Zs (.ref L) (QJ Zv (.ref xr) []))))) x=some (.ins a.zJ dx (QJ Jt (.ref xt) (QJ Zs (.ref L) (QJ Zv (.ref xr) [])))):=Qc;have kf:SX x He (upd He x (.ins a.zJ dx (QJ Jt (.ref xt) (QJ Zs (.ref L) (QJ Zv (.ref xr) []))))):=λc o n e=>by rw[Qa n];exact e
  generalize upd He x (.ins a.zJ dx (QJ Jt (.ref xt) (QJ Zs (.ref L) (QJ Zv (.ref xr) []))))=Hf at y kf;intro xi di S ndi nei;refine⟨xi,di,WI,U,hWI,Qc,λHg g kg fi ix=>⟨U,?_⟩⟩;have sg:Qj Hf Hg:=KL S ndi kg;have hxg:=sg _ _ y;refine⟨_,U,x,_,dx,_,U,hxg,T.zp,T.yQ,(by show 3<1000;decide),?_⟩;have B:(upd Hg x (.ins a.zJ dx (QJ Jy (.ref xi) (QJ Jt (.ref xt) (QJ Zs (.ref L) (QJ Zv (.ref xr) [])))))) x=some (.ins a.zJ dx (QJ Jy (.ref xi) (QJ Jt (.ref xt) (QJ Zs (.ref L) (QJ Zv (.ref xr) []))))):=Qc;have X:SX x Hg (upd Hg x (.ins a.zJ dx (QJ Jy (.ref xi) (QJ Jt (.ref xt) (QJ Zs (.ref L) (QJ Zv (.ref xr) [])))))):=λc o n e=>by rw[Qa n];exact e
  generalize upd Hg x (.ins a.zJ dx (QJ Jy (.ref xi) (QJ Jt (.ref xt) (QJ Zs (.ref L) (QJ Zv (.ref xr) [])))))=Hh at B X;intro xf df Y ndf nef;refine⟨xf,df,mk,W,M,U,hW,hM,Qc,λHi m ki fF fo=>⟨U,?_⟩⟩;have si:Qj Hh Hi:=KL Y ndf ki;have hxi:=si _ _ B;refine⟨_,U,x,_,dx,_,U,hxi,T.zp,T.jf,(by show 4<1000;decide),?_⟩;have Z:(upd Hi x (.ins a.zJ dx (QJ ZZJ (.ref xf) (QJ Jy (.ref xi) (QJ Jt (.ref xt) (QJ Zs (.ref L) (QJ Zv (.ref xr) []))))))) x=some (.ins a.zJ dx (bfs xr L xt xi xf)):=by
   rw[Qc];congr 2
  have kj:SX x Hi (upd Hi x (.ins a.zJ dx (QJ ZZJ (.ref xf) (QJ Jy (.ref xi) (QJ Jt (.ref xt) (QJ Zs (.ref L) (QJ Zv (.ref xr) []))))))):=λc o n e=>by rw[Qa n];exact e
  generalize upd Hi x (.ins a.zJ dx (QJ ZZJ (.ref xf) (QJ Jy (.ref xi) (QJ Jt (.ref xt) (QJ Zs (.ref L) (QJ Zv (.ref xr) []))))))=p at Z kj;have fj:SX x Hi p:=kj;have fh:SX x Hg p:=λc o n e=>fj c o n (si _ _ (X c o n e));have ff:SX x He p:=λc o n e=>fh c o n (sg _ _ (kf c o n e));have fd':SX x Hc p:=λc o n e=>ff c o n (se _ _ (kd c o n e));have fa:SX x O p:=λc o n e=>fd' c o n (sc _ _ (kb c o n e));have nx:∀{c:qc},H c=none->c≠x:=λh z=>by rw[z,hx] at h;cases h
  have dD:H D=none:=A5 nD;have xa:∀{c:qc},O c=none->H c=none:=λ{c} h=>by
   cases e:H c with
   |none=>rfl
   |some o=>rw[sa _ _ e] at h;cases h
  have up:∀{G G':Hp}{c:qc},SX x G G'->c≠x->G' c=none->G c=none:=λ{G G' c} k n h=>by
   cases e:G c with
   |none=>rfl
   |some o=>rw[k c o n e] at h;cases h
  have I:L≠x:=λz=>by rw[z,R] at nL;cases nL
  have nL2:L2≠x:=λz=>by have:=oo.hL;rw[z,r] at this;cases this
  have nR2:R2≠x:=λz=>by have:=oo.hR;rw[z,r] at this;cases this
  have s:∀c∈g,Hf c=none:=λc hc=>A5 (fi c hc);have i:∀c∈m,Hh c=none:=λc hc=>A5 (fF c hc);have xFi:∀c∈g,c≠x:=λc hc z=>by have:=s c hc;rw[z,y] at this;cases this
  have xFf:∀c∈m,c≠x:=λc hc z=>by have:=i c hc;rw[z,B] at this;cases this
  have b:Reg a p xr dr D [] []:=rg.keep (λc o hc e=>fa c o (by
   rcases hc with rfl|hc
   .exact nx nxr
   .rcases hc with rfl|⟨f,z⟩
    .exact nx dD
    .cases z) e) λc xs e=>fa c _ (λz=>by rw[z,hxa] at e;cases e) e
  have kr0:kr=[]:=jI.mp (by omega);subst kr0;have j:TH a p xt dxt L2 R2 [] []:=th.keep λc o hc e=>ff c o (by
   rcases hc with rfl|rfl|rfl|⟨t,z⟩
   .exact λz=>by rw[z,r] at v;cases v
   .exact nL2
   .exact nR2
   .cases z) e
  have J:sC a p xi [] WI 0 g:=ix.keep λc o hc e=>fh c o (by
   rcases hc with rfl|hc
   .exact λz=>by rw[z,y] at S;cases S
   .exact xFi c hc) e
  have N:FO a p xf [] mk W M 0 m:=fo.keep λc o hc e=>fj c o (by
   rcases hc with rfl|hc
   .exact λz=>by rw[z,B] at Y;cases Y
   .exact xFf c hc) e
  have eLj:p L=some (.dK []):=fd' L _ I eL;have hLd:Hd L=some (.dK []):=kd L _ I eL;have hLf:Hf L=some (.dK []):=kf L _ I (se _ _ hLd);have hLh:Hh L=some (.dK []):=X L _ I (sg _ _ hLf);have h2f:Hf L2=some (.dK (QR [])):=kf L2 _ nL2 th.lk;have h3f:Hf R2=some (.dK []):=kf R2 _ nR2 th.rp;have h2h:Hh L2=some (.dK (QR [])):=X L2 _ nL2 (sg _ _ h2f);have h3h:Hh R2=some (.dK []):=X R2 _ nR2 (sg _ _ h3f);have hih:∀c∈g,∃o,Hh c=some o:=λc hc=>by
   obtain⟨o,e,_⟩:=ix.there hc;exact⟨o,X c o (xFi c hc) e⟩
  have ne2:∀{G:Hp}{c d:qc}{o:HO},G c=none->G d=some o->c≠d:=λh1 h2 z=>by rw[z,h2] at h1;cases h1
  have o0:∀{c C d:qc}{fs:qa (qb×V)},p c=some (.ins C d fs)->Kb D L L2 R2 g m c=0:=λ{c C d fs} e=>by
   unfold Kb;rw[qA (λz=>by rw[z,b.dr] at e;cases e),qA (λz=>by rw[z,eLj] at e;cases e),qA (λz=>by
    rcases z with z|z
    .rw[z,j.lk] at e;cases e
    .rw[z,j.rp] at e;cases e),qA (λz=>by
    rcases J.kind z with⟨kvs,q⟩|⟨xs,q⟩
    .rw[q] at e;cases e
    .rw[q] at e;cases e),qA (λz=>by obtain⟨kvs,q⟩:=N.kind z;rw[q] at e;cases e)]
  have oL:Kb D L L2 R2 g m L=5:=by
   unfold Kb;rw[qA (λz=>by have:=b.dr;rw[<-z,eLj] at this;cases this),qG rfl]
  have oT:∀c,(c=L2\/c=R2)->Kb D L L2 R2 g m c=1:=λc hc=>by
   unfold Kb;rw[qA (λz=>by
    rcases hc with h|h
    .have:=j.lk;rw[<-h,z,b.dr] at this;cases this
    .have:=j.rp;rw[<-h,z,b.dr] at this;cases this),qA (λz=>by
    rcases hc with h|h
    .exact ne2 oo.hL hLd (h.symm.trans z)
    .exact ne2 oo.hR hLd (h.symm.trans z)),qG hc]
  have oI:∀c∈g,Kb D L L2 R2 g m c=2:=λc hc=>by
   unfold Kb;rw[qA (λz=>by
    rcases J.kind hc with⟨kvs,q⟩|⟨xs,q⟩
    .rw[z,b.dr] at q;cases q
    .rw[z,b.dr] at q;cases q),qA (ne2 (s c hc) hLf),qA (λz=>z.elim (ne2 (s c hc) h2f) (ne2 (s c hc) h3f)),qG hc]
  have oF:∀c∈m,Kb D L L2 R2 g m c=3:=λc hc=>by
   unfold Kb;rw[qA (λz=>by obtain⟨kvs,q⟩:=N.kind hc;rw[z,b.dr] at q;cases q),qA (ne2 (i c hc) hLh),qA (λz=>z.elim (ne2 (i c hc) h2h) (ne2 (i c hc) h3h)),qA (λz=>by obtain⟨o,q⟩:=hih c z;exact ne2 (i c hc) q rfl),qG hc]
  obtain⟨di',E',B',ei⟩:=J.obj;obtain⟨df',X1,T1,N1,ef⟩:=N.obj;have oz:∀c o,c≠x->H c=some o->Kb D L L2 R2 g m c=0:=λc o n e=>by
   have A2:=kb c o n (sa _ _ e);have A4:=kd c o n (sc _ _ A2);have A6:=kf c o n (se _ _ A4);have A8:=X c o n (sg _ _ A6);unfold Kb;rw[qA (Qb e dD),qA (Qb A2 nL),qA (λz=>z.elim (Qb A4 oo.hL) (Qb A4 oo.hR)),qA (λz=>by have:=s c z;rw[A6] at this;cases this),qA (λz=>by have:=i c z;rw[A8] at this;cases this)]
  refine k p (Kb D L L2 R2 g m) xr L xt xi xf (λc o n e=>fa c o n (sa _ _ e)) oz ⟨Z,o0 Z,⟨dr,D,[],b,o0 b.obj,λc hc=>?_⟩,⟨eLj,oL,zB,zB,λl hl=>nomatch hl⟩,⟨dxt,L2,R2,[],j,qD _,qD _,o0 j.obj,λc hc=>?_⟩,⟨g,J,o0 ei,oI⟩,⟨m,N,o0 ef,oF⟩⟩
  .rcases hc with rfl|⟨f,z⟩
   .unfold Kb;rw[qG rfl]
   .cases z
  .rcases hc with h|h|⟨t,z⟩
   .exact oT c (.inl h)
   .exact oT c (.inr h)
   .cases z
structure KB(own own':qc->Nat)(H H':Hp):Prop where
 k:∀c o,H c=some o->(own c=0\/7<=own c\/O3 o=true)->H' c=some o
 g:∀c o,H c=some o->(own c=0\/7<=own c\/O3 o=true)->own' c=own c
def KB.of(k:lL own j H H')(a:1<=j)(b:j<=6):KB own (Q0 own j H) H H':=
 ⟨λc o e h=>k c o e (h.elim (λz=>.inl (by omega)) λh=>h.imp (λz=>by omega) id),λc o e _=>Qq e⟩
def KB.trans{own' a:qc->Nat}{b:Hp}(x:KB own own' H H')(y:KB own' a H' b):KB own a H b:=
 ⟨λc o e h=>y.k c o (x.k c o e h) (by rw[x.g c o e h];exact h),λc o e h=>by rw[y.g c o (x.k c o e h) (by rw[x.g c o e h];exact h),x.g c o e h]⟩
def LsO.pop(h:LsO a H own L ls)(nm:qb) :
 LsO a (upd H L (.dK (Uy (dG LE.nm (λl=>V.ref l.y) ls) (Sum.inr nm)))) (Q0 own 5 H) L (ls.filter λl=>decide (l.nm≠nm))/\lL own 5 H (upd H L (.dK (Uy (dG LE.nm (λl=>V.ref l.y) ls) (Sum.inr nm)))):=by
 have k:lL own 5 H (upd H L (.dK (Uy (dG LE.nm (λl=>V.ref l.y) ls) (Sum.inr nm)))):=λc o e q=>by
  have n:c≠L:=λz=>by
   rcases q with q|q
   .rw[z] at q;exact q h.o
   .rw[z,h.e] at e;cases e;cases q
  rw[Qa n];exact e
 refine⟨⟨by rw[Qc,XE],by rw[Qq h.e];exact h.o,(jr ((zF).map _) h.nd),(jr ((zF).map _) h.na),λl b=>?_⟩,k⟩;have b:=(qr.mp b).1;exact⟨(h.at_ l b).1.step k (by decide),(h.at_ l b).2⟩
def Lh(ls:qa LE)(nm:qb):L2.without (ls.map λl=>(l.nm,l.p.an)) nm=(ls.filter λl=>decide (l.nm≠nm)).map λl=>(l.nm,l.p.an):=by
 unfold L2.without;rw[yb];rfl
def bR(ls:qa LE)(nm:qb):noN (ls.map λl=>(l.nm,lwd l.p)) nm=(ls.filter λl=>decide (l.nm≠nm)).map λl=>(l.nm,lwd l.p):=by
 unfold noN;rw[yb];rfl
inductive NO(a:yL)(vs:qa V)(H:Hp)(Q:VK)(E:XK):Prop
 |mk:∀(own:qc->Nat)(b db xr L xt xi xf:qc)(es:qa Ent)(ls:qa LE)(bx:Rows)(mk:qb->qe)(WI W M:qe)(n:Nat)(nm:qb),vs=[.ref b,.str nm]->v8 a H own b db xr L xt xi xf es ls bx mk WI W M n->nm∈ls.map LE.nm->nm∈bx.map (·.1) ->
   (∀H' own',v8 a H' own' b db xr L xt xi xf es (ls.filter λl=>decide (l.nm≠nm)) (L2.without bx nm) mk WI W M n->KB own own' H H'->Q .non H')->NO a vs H Q E
def IY(F:zT K Zo "Board.take_out" U2 a.xc fd)(T:Txt K mg a)(g:YC K a):QQ P w K mg base j6 3 a.xc fd [ZZ,ZJ] (NO a):=by
 obtain⟨fd2,F2,lC⟩:=g.lQ;have lN:=@SQ P w K mg base a _ F2 T g;obtain⟨fd3,F3,nt⟩:=g.oj;have nY:=@SW P w K mg base a _ F3 T g;obtain⟨fd4,F4,lF⟩:=g.lR;have lO:=@S3 P w K mg base a _ F4 T g;refine F.ok GW (λcdv A outer st H vs Q E hr h=>?_)
 .obtain⟨own,b,db,xr,L,xt,xi,xf,es,ls,bx,mk,WI,W,M,n,nm,rfl,h,hl,hb,k⟩:=h;have d:QG 2 _:=hr;refine⟨_,(Qd (Qy (UP (Qk (pv 0) U) (pv 1) ⟨U,U,U,U⟩))
   (Qd (Qy (QL (Qk (pv 0) U) T.zS T.lI lN d lC .nil Qm (zg (pv 1) Qf)))
   (Qd (Qy (QL (Qk (pv 0) U) T.jX T.nK nY d nt .nil Qm (zg (pv 1) Qf)))
   (Qe (Qy (QL (Qk (pv 0) U) T.q9 T.lJ lO d lF .nil Qm (zg (pv 1) Qf))))))),?_⟩
  obtain⟨le,hle,rfl⟩:=qj.mp hl;obtain⟨t,e⟩:=h.l.pop le.nm;refine⟨_,U,b,_,db,_,_,U,h.e,T.zp,T.z8,U,L,U,.inl ⟨_,.inl h.l.e⟩,_,U,_,Sum.inr le.nm,_,h.l.e,U,Q3 h.l.nd hle,?_⟩;have q:=e _ _ h.e (.inl (by rw[h.o];decide));have u:Q0 own 5 H b=0:=by rw[Qq h.e];exact h.o
  have v:=h.r.step e;have t1:=h.t.step e;have x:=h.i.step e;have f1:=h.f.step e;show Ua _ _ _ _ (upd H L (.dK (Uy (dG LE.nm (λl=>V.ref l.y) ls) (Sum.inr le.nm))));generalize upd H L (.dK (Uy (dG LE.nm (λl=>V.ref l.y) ls) (Sum.inr le.nm)))=H1 at t e q v t1 x f1⊢;have kb1:KB own (Q0 own 5 H) H H1:=KB.of e (by decide) (by decide);generalize Q0 own 5 H=f at t u v t1 x f1 kb1;obtain⟨y,L2,R2,krT,m,_,_,z,_⟩:=id t1;refine⟨_,U,b,_,db,_,_,U,q,T.zp,T.xV,U,xt,y,_,U,m.obj,U,_,U,rest f 1 H1,xt,_,n,le.nm,U,t1.thf,(by rw[qV];exact qj.mpr ⟨le,hle,U⟩),λH2 ht _=>?_⟩;obtain⟨B,k2⟩:=ThO.of z ⟨_,m.obj⟩ ht;rw[Lh] at B;have r:=k2 _ _ q (.inl (by rw[u];decide));have C:Q0 f 1 H1 b=0:=by rw[Qq q];exact u
  have r2:=v.step k2;have l2:=t.step k2;have i2:=x.step k2;have f2:=f1.step k2;have kb2:=kb1.trans (KB.of k2 (by decide) (by decide));generalize Q0 f 1 H1=o at B r C r2 l2 i2 f2 kb2;obtain⟨Fi,D,G,I⟩:=i2;obtain⟨J,E1,B1,N⟩:=D.obj;refine⟨_,U,b,_,db,_,_,U,r,T.zp,T.yQ,U,xi,J,_,U,N,U,_,U,xi,_,WI,n,Fi,le.nm,U,D,(by rw[qV];exact qj.mpr ⟨le,hle,U⟩),λH3 Fi' O kF hF=>?_⟩;obtain⟨R,i⟩:=IxO.own' D G I O kF (λc hc=>.inl (hF c hc));rw[bR] at R;have s:=i _ _ r (.inl (by rw[C];decide));have S:Q0 o 2 H2 b=0:=by rw[Qq r];exact C
  have r3:=r2.step i;have l3:=l2.step i;have t3:=B.step i;have f3:=f2.step i;have p:=kb2.trans (KB.of i (by decide) (by decide));generalize Q0 o 2 H2=X at t3 s S r3 l3 R f3 p;obtain⟨Ff,fo,Y,Z⟩:=f3;obtain⟨dxf,X1,T1,N1,exf⟩:=fo.obj;refine⟨_,U,b,_,db,_,_,U,s,T.zp,T.jf,U,xf,dxf,_,U,exf,U,_,U,xf,_,mk,W,M,n,Ff,le.nm,U,fo,hb,λH4 Ff' fo' kG hG=>?_⟩;obtain⟨f4,j⟩:=FoO.own' fo Y Z fo' kG (λc hc=>.inl (hG c hc));exact k H4 (Q0 X 3 H3) ⟨j _ _ s (.inl (by rw[S];decide)),by rw[Qq s];exact S,r3.step j,l3.step j,t3.step j,R.step j,f4⟩ (p.trans (KB.of j (by decide) (by decide)))
def skS{x:qb}{A B:Prop}(h:decide (x=y)=false)(k:B):if decide (V.str x=V.str y)=true then A else B:=by
 rw[Ut,h];exact QV k
def b0{x:qb}{A B:Prop}(k:A):if decide (V.str x=V.str x)=true then A else B:=by
 rw[qu rfl];exact Yj k
inductive Dd where
 |put (nm:qb) (p:LD)
 |place (nm fo:qb)
 |mark (nm y:qb) (on:Bool)
 |drop (nm:qb)
def Dd.nm:Dd->qb
 |.put nm _=>nm
 |.place nm _=>nm
 |.mark nm _ _=>nm
 |.drop nm=>nm
inductive DAt(H:Hp)(q:qc):Dd->Prop
 |put {nm:qb} {p:LD} {u:qc}:H q=some (.tup [.str Zy,.str nm,.ref u])->H u=some (.tup [.str p.s,.str p.t,.str p.b,.int p.d,.str p.an])->DAt H q (.put nm p)
 |place {nm fo:qb}:H q=some (.tup [.str Zh,.str nm,.str fo])->DAt H q (.place nm fo)
 |mark {nm y:qb} {on:Bool}:H q=some (.tup [.str Zd,.str nm,.str y,.bl on])->DAt H q (.mark nm y on)
 |drop {nm:qb}:H q=some (.tup [.str Zt,.str nm])->DAt H q (.drop nm)
def DAt.tups{q:qc}(h:DAt H q d)(k:∀c xs,H c=some (.tup xs)->H' c=some (.tup xs)):DAt H' q d:=by
 cases h with
 |put e a=>exact .put (k _ _ e) (k _ _ a)
 |place e=>exact .place (k _ _ e)
 |mark e=>exact .mark (k _ _ e)
 |drop e=>exact .drop (k _ _ e)
def chL(ls:qa LE):Dd->qa LE
 |.drop nm=>ls.filter λl=>decide (l.nm≠nm)
 |_=>ls
def chB(bx:Rows):Dd->Rows
 |.drop nm=>L2.without bx nm
 |.place nm fo=>L2.without bx nm++[(nm,fo)]
 |_=>bx
def chM(mk:qb->qe):Dd->qb->qe
 |.mark nm y true=>Us mk nm (YL (mk nm) y)
 |.mark nm y false=>Us mk nm ((mk nm).filter λz=>decide (z≠y))
 |_=>mk
def dOk(W M:qe):Dd->Prop
 |.put _ _=>False
 |.place _ fo=>fo∈W
 |.mark _ y _=>y∈M
 |.drop _=>True
inductive cL(a:yL)(vs:qa V)(H:Hp)(Q:VK)(E:XK):Prop
 |mk:∀(own:qc->Nat)(b db xr L xt xi xf:qc)(es:qa Ent)(ls:qa LE)(bx:Rows)(mk:qb->qe)(WI W M:qe)(n:Nat)(q:qc)(d:Dd),vs=[.ref b,.ref q]->v8 a H own b db xr L xt xi xf es ls bx mk WI W M n->DAt H q d->dOk W M d->d.nm∈ls.map LE.nm->d.nm∈bx.map (·.1) ->
   (∀H' own',v8 a H' own' b db xr L xt xi xf es (chL ls d) (chB bx d) (chM mk d) WI W M n->KB own own' H H'->Q .non H')->cL a vs H Q E
def v8.fold{c:Rows}{mk':qb->qe}(h:v8 a H own b db xr L xt xi xf es ls bx mk WI W M n)(f:FoO a H' (Q0 own 3 H) xf c mk' W M n)(k:lL own 3 H H'):v8 a H' (Q0 own 3 H) b db xr L xt xi xf es ls c mk' WI W M n:=
 ⟨k _ _ h.e (.inl (by rw[h.o];decide)),by rw[Qq h.e];exact h.o,h.r.step k,h.l.step k,h.t.step k,h.i.step k,f⟩
def fz(F:zT K ZZi "Board.change" VJ a.kA fd)(T:Txt K mg a)(p:YC K a):QQ P w K mg base j6 4 a.kA fd [ZZ,JT] (cL a):=by
 obtain⟨B,C,kT⟩:=p.ud;have kX:=@IY P w K mg base a _ C T p;obtain⟨D,G,oK⟩:=p.oR;have oP:=@Pr P w K mg base a _ G T p;obtain⟨I,J,pL⟩:=p.ri;have pY:=@S4 P w K mg base a _ J T p;obtain⟨N,O,nv⟩:=p.om;have nZ:=@MA P w K mg base a _ O T p;refine F.ok XI (λR A outer st H vs Q E S h=>?_)
 .obtain⟨own,b,db,xr,L,xt,xi,xf,es,ls,bx,mk,WI,W,M,n,q,d,rfl,h,hd,z,V,v,k⟩:=h;have t:QG 3 _:=S;have s:QG 2 _:=t.mono;refine⟨_,(Qd (Qs (i:=2) XI.nd (Qw QP (pv 1) Qi))
   (Qe (QU (Qt Ue (Qw QP (pv 1) Qi) Qp) (Qe (Qy (QL (pv 0) T.zp T.wZ kX t kT .nil Qm (zg (pv 2) Qf)))) (Qe (QU (Qt Ue (Qw QP (pv 1) Qi) Qp) (Qe (Qy (QL (Qk (pv 0) U) T.q9 T.oN oP s oK .nil Qm (zg (pv 2) (zg (Qw QP (pv 1) Qi) Qf))))) (Qe (QU (Uu (Qw QP (pv 1) Qi)) (Qe (Qy (QL (Qk (pv 0) U) T.q9 T.pQ pY s pL .nil Qm (zg (pv 2) (zg (Qw QP (pv 1) Qi) Qf))))) (Qe (Qy (QL (Qk (pv 0) U) T.q9 T.nM nZ s nv .nil Qm (zg (pv 2) (zg (Qw QP (pv 1) Qi) Qf)))))))))))),?_⟩
  cases hd with
  |put e f=>exact z.elim
  |drop e=>
   refine⟨_,U,q,_,_,_,U,U,jW.of e,QB (j:=1) rfl,?_⟩;refine⟨_,U,q,_,_,_,U,U,jW.of e,QB (j:=0) rfl,U,_,U,b0 ?_⟩;exact⟨_,U,b,db,_,U,h.e,U,_,U,own,b,db,xr,L,xt,xi,xf,es,ls,bx,mk,WI,W,M,n,_,U,h,V,v,λH' own' f g=>k H' own' f g⟩
  |place e=>
   obtain⟨x,fo,g,l⟩:=id h.f;obtain⟨m,X,T1,Y,o⟩:=fo.obj;refine⟨_,U,q,_,_,_,U,U,jW.of e,QB (j:=1) rfl,?_⟩;refine⟨_,U,q,_,_,_,U,U,jW.of e,QB (j:=0) rfl,U,_,U,skS (by decide +kernel) ⟨_,U,q,_,_,_,U,U,jW.of e,QB (j:=0) rfl,U,_,U,b0 ?_⟩⟩;refine⟨_,U,b,_,db,_,_,U,h.e,T.zp,T.jf,U,xf,m,_,U,o,U,_,U,_,U,q,_,_,_,U,U,jW.of e,QB (j:=2) rfl,xf,_,mk,W,M,n,x,_,_,U,fo,v,z,λH' Z f u hG=>?_⟩;obtain⟨f4,r⟩:=FoO.own' fo g l f u hG;exact k H' _ (h.fold f4 r) (KB.of r (by decide) (by decide))
  |mark e=>
   rename_i nm y on
   obtain⟨x,fo,g,l⟩:=id h.f;obtain⟨m,X,T1,Y,o⟩:=fo.obj;refine⟨_,U,q,_,_,_,U,U,jW.of e,QB (j:=1) rfl,?_⟩;refine⟨_,U,q,_,_,_,U,U,jW.of e,QB (j:=0) rfl,U,_,U,skS (by decide +kernel) ⟨_,U,q,_,_,_,U,U,jW.of e,QB (j:=0) rfl,U,_,U,skS (by decide +kernel) ?_⟩⟩;refine⟨_,U,q,_,_,_,U,U,jW.of e,QB (j:=3) rfl,_,U,?_⟩
   cases on with
   |true=>
    refine Yj ⟨_,U,b,_,db,_,_,U,h.e,T.zp,T.jf,U,xf,m,_,U,o,U,_,U,_,U,q,_,_,_,U,U,jW.of e,QB (j:=2) rfl,xf,_,mk,W,M,n,x,_,_,U,fo,v,z,λH' f u=>?_⟩;obtain⟨f4,r⟩:=FoO.own' fo g l f u (λc hc=>.inl hc);exact k H' _ (h.fold f4 r) (KB.of r (by decide) (by decide))
   |false=>
    refine QV ⟨_,U,b,_,db,_,_,U,h.e,T.zp,T.jf,U,xf,m,_,U,o,U,_,U,_,U,q,_,_,_,U,U,jW.of e,QB (j:=2) rfl,xf,_,mk,W,M,n,x,_,_,U,fo,v,λH' f u=>?_⟩;obtain⟨f4,r⟩:=FoO.own' fo g l f u (λc hc=>.inl hc);exact k H' _ (h.fold f4 r) (KB.of r (by decide) (by decide))
inductive R1(a:yL)(vs:qa V)(H:Hp)(Q:VK)(E:XK):Prop
 |mk:∀(own:qc->Nat)(b db xr L xt xi xf:qc)(es:qa Ent)(ls:qa LE)(bx:Rows)(mk:qb->qe)(WI W M:qe)(n:Nat)(l:LE),vs=[.ref b,.str l.nm]->v8 a H own b db xr L xt xi xf es ls bx mk WI W M n->l∈ls ->
   (∀y H',H y=none->Qj H H'->UR a H' y l.p.s l.p.t l.p.b l.p.d l.p.an->Q (.ref y) H')->R1 a vs H Q E
inductive NQ(a:yL)(vs:qa V)(H:Hp)(Q:VK)(E:XK):Prop
 |mk:∀(own:qc->Nat)(b db xr L xt xi xf:qc)(es:qa Ent)(ls:qa LE)(bx:Rows)(mk:qb->qe)(WI W M:qe)(n:Nat)(l:LE)(fo:qb),vs=[.ref b,.str l.nm]->v8 a H own b db xr L xt xi xf es ls bx mk WI W M n->l∈ls->L2.up bx l.nm=some fo->l.nm∈bx.map (·.1) ->
   (∀y g H',H y=none->H g=none->Qj H H'->Na a H' y g l.p.s l.p.t l.p.b l.p.d l.p.an fo (SS (Qx (mk l.nm)))->Q (.ref y) H')->NQ a vs H Q E
def bL(F:zT K JR "Board.letter_at" UG a.yK fd)(T:Txt K mg a)(e:YC K a):QQ P w K mg base j6 8 a.yK fd [ZZ,ZJ] (R1 a):=by
 obtain⟨p,qP,zv⟩:=e.qP;have zw:=@Uw P w K mg base a _ qP T;obtain⟨q,yE,wD⟩:=e.yE;have wH:=@Og P w K mg base a _ yE T e;refine F.ok Gj (λr A outer st H vs Q E j h=>?_)
 .obtain⟨own,b,db,xr,L,xt,xi,xf,es,ls,bx,mk,WI,W,M,n,l,rfl,h,m,k⟩:=h;have s:=Q9 j;have c:QG 7 _:=j;have i:QG 1 _:=c.mono;refine⟨_,(Qd (Qy (Ql zw i rfl T.jk qP.kp zv .nil Qm (zg (pv 1) (zg (Qk (pv 0) U) Qf))))
   (Qe (Qu (Ud (Qz s (Qk (pv 0) U) (pv 1)) T.zH T.lg wH c wD .nil Qm)))),?_⟩
  have o:=Q3 (g:=λl=>V.ref l.y) h.l.nd m;obtain⟨d,hg⟩:=h.l.at_ l m;obtain⟨t,f,u⟩:=d.let.at
  refine⟨_,U,_,U,b,_,db,_,_,U,h.e,T.zp,T.z8,U,l.nm,L,_,_,U,h.l.e,o,?_⟩;refine⟨_,U,b,_,db,_,_,U,h.e,T.zp,T.z8,U,?_⟩;refine⟨_,U,L,_,U,.inl ⟨_,Sum.inr l.nm,.inl h.l.e,U,o.symm⟩,?_⟩;exact⟨l.y,t,_,U,u,U,l.y,_,_,_,_,_,U,d.let,hg,λy H' v s' x=>k y H' v s' x⟩
def Tb(F:zT K "card" "Board.card" WR a.vO fd)(T:Txt K mg a)(c:YC K a):QQ P w K mg base j6 10 a.vO fd [ZZ,ZJ] (NQ a):=by
 obtain⟨z,qP,zv⟩:=c.qP;have zw:=@Uw P w K mg base a _ qP T;obtain⟨B,iA,Qam,_⟩:=c.iA;have Qav:=@S6 P w K mg base a _ iA T c;obtain⟨C,D,kS⟩:=c.uc;have kW:=@CV P w K mg base a _ D T c;obtain⟨G,I,vC⟩:=c.uN;have vE:=@EG P w K mg base a _ I T c;refine F.ok DR (λJ A outer st H vs Q E r h=>?_)
 .obtain⟨own,b,db,xr,L,xt,xi,xf,es,ls,bx,mk,WI,W,M,n,l,fo,rfl,h,s,m,t,k⟩:=h;have N:=Q9 r;have d:QG 9 _:=r;have e:QG 2 _:=d.mono;have o:QG 1 _:=d.mono;refine⟨_,(Qd (Qy (Ql zw o rfl T.jk qP.kp zv .nil Qm (zg (pv 1) (zg (Qk (pv 0) U) Qf))))
   (Qe (Qu (FJ T.Qdx Qav d rfl T.QcE Qam .nil Qm (zg (Qz N (Qk (pv 0) U) (pv 1)) (zg (QL (Qk (pv 0) U) T.q9 T.wY kW e kS .nil Qm (zg (pv 1) Qf)) (zg (QL (Qk (pv 0) U) T.q9 T.uK vE e vC .nil Qm (zg (pv 1) Qf)) Qf))))))),?_⟩
  have u:=Q3 (g:=λl=>V.ref l.y) h.l.nd s;obtain⟨p,hg⟩:=h.l.at_ l s;obtain⟨v,j,O,R⟩:=h.f;obtain⟨f,X1,T1,N1,i⟩:=j.obj;have q:=j.Qb6 t;refine⟨_,U,_,U,b,_,db,_,_,U,h.e,T.zp,T.z8,U,l.nm,L,_,_,U,h.l.e,u,?_⟩;refine⟨_,U,b,_,db,_,_,U,h.e,T.zp,T.z8,U,_,U,L,_,U,.inl ⟨_,Sum.inr l.nm,.inl h.l.e,U,u.symm⟩,?_⟩;refine⟨_,U,b,_,db,_,_,U,h.e,T.zp,T.jf,U,xf,f,_,U,i,U,_,U,xf,bx,mk,W,M,n,v,l.nm,fo,U,j,m,?_⟩;refine⟨_,U,b,_,db,_,_,U,h.e,T.zp,T.jf,U,xf,f,_,U,i,U,_,U,xf,bx,mk,W,M,n,v,l.nm,U,j,t,λlm H1 nl s1 S=>?_⟩;exact λy dy x X ne=>Tg x X ne (p.let.mono s1) hg (.inr ⟨lm,U,.inl S⟩) (by rw[UB];have:=q.2.2;omega) λY g s2 Z hc=>⟨U,k y g Y (s1.free x) (s1.free Z) (s1.trans s2) hc⟩
def D3(es:qa Ent)(k:qe):Bool:=decide (k.getD 1 ""=Zd)&&(match QI es k with|some e=>decide (e.2.2.2=V.bl true)|none=>false)
def Oq(es:qa Ent)(nm:qb):qa (qe):=(Wy ((sel [nm] es).map (·.1))).map λi=>((sel [nm] es).map (·.1)).getD i []
def Kg(es:qa Ent)(nm:qb):qe:=((Oq es nm).filter (D3 es)).map λk=>k.getD 2 ""
structure gm(es:qa Ent):Prop where
 ne:∀e∈es,e.1≠[]
 two:∀e∈es,2<=e.1.length
 mw:∀e∈es,e.1.getD 1 ""=Zd->(∃on,e.2.2.2=V.bl on)/\e.1.length=3
def HC{H:Hp}:∀{bs:qa qc}{ts:qa (qe)}(i:Nat),WC H bs ts->i<ts.length->H (bs.getD i 0)=some (.tup ((ts.getD i []).map V.str))
 |_,_,i,.nil,a=>absurd a (sf _)
 |_,_,0,.cons e _ _,_=>e
 |_,_,i+1,.cons _ _ r,a=>HC i r (yj a)
def Iu:∀(bs:qa qc)(i:Nat),i<bs.length->(bs.map V.ref).getD i .non=V.ref (bs.getD i 0)
 |[],i,h=>absurd h (sf _)
 |_::_,0,_=>rfl
 |_::bs,i+1,h=>Iu bs i (yj h)
def VO(h:QI es k=some e):e∈es/\e.1=k:=⟨List.mem_of_find?_eq_some h,by have z:=List.find?_some h;exact qo z⟩
def DJ(h:j<k.length):nE (k.map V.str) (j:Int)=some (V.str (k.getD j "")):=QB (by
 rw[qQ,zC,qB h];rfl)
def Ce(h:e∈es):∃a,QI es e.1=some a:=by
 cases q:QI es e.1 with
 |some a=>exact⟨a,U⟩
 |none=>
  have:=Qbh.mp q e h;exact absurd (qu rfl) this
inductive gW(a:yL)(vs:qa V)(H:Hp)(Q:VK)(E:XK):Prop
 |mk:∀(own:qc->Nat)(b db xr L xt xi xf:qc)(es:qa Ent)(ls:qa LE)(bx:Rows)(mk:qb->qe)(WI W M:qe)(n:Nat)(nm:qb),vs=[.ref b,.str nm]->v8 a H own b db xr L xt xi xf es ls bx mk WI W M n->gm es->es.length<64 ->
   (∀l H',H l=none->Qj H H'->H' l=some (.lst ((Kg es nm).map V.str))->Q (.ref l) H')->gW a vs H Q E
def hB(F:zT K JP "Board.marks_told" YR a.yA fd)(T:Txt K mg a)(O:YC K a):QQ P w K mg base j6 2 a.yA fd [ZZ,ZJ] (gW a):=by
 obtain⟨X,Y,iU⟩:=O.iY;have iX:=@Pp P w K mg base a _ Y T;obtain⟨Z,F2,_,ds,B,oJ⟩:=O.uM;have yD:=@S2 P w K mg base a _ F2 T;refine F.ok K0 (λcdv A outer st H vs Q E hr h=>?_)
 .obtain⟨own,b,db,xr,L,xt,xi,xf,es,ls,bx,mk,WI,W,M,n,nm,rfl,h,hm,C,k⟩:=h;have o:QG 1 _:=hr;refine⟨_,(Qe (Qu (VL (sc:=Qg YR) (N:=Ww) (fr:=[(0,ZZ)]) (cs_ rfl rfl) rfl rfl rfl (Yv (QL (Qk (pv 0) U) T.jC T.iV iX o iU .nil Qm (zg (pv 1) Qf))) (λ_ _ _ _=>Wg (PW.pt (V1 (Qt Ue (Qw (Up K) (pv 0) Qi) Qp) (Vo (Uu (QL (FK K (pv 1) U) T.jC T.xA yD o oJ B Qm (zg (pv 0) Qf))))))) (λ_ _ _ _=>(Qw (Up K) (pv 0) Qi))))),?_⟩;obtain⟨c,D,kd,u,oxr,oF⟩:=h.r;refine⟨_,U,b,_,db,_,_,U,h.e,T.zp,T.j8,U,xr,c,_,U,u.obj,U,_,U,xr,c,D,kd,es,nm,U,u,hm.ne,C,λl bs H1 nl s1 R G=>?_⟩;have d:∀i∈Wy ((sel [nm] es).map (·.1)),i<((sel [nm] es).map (·.1)).length:=λi m=>Hm m;have hbl:=R.len;have ex:(Wy ((sel [nm] es).map (·.1))).map (λi=>(bs.map V.ref).getD i .non)=((Wy ((sel [nm] es).map (·.1))).map λi=>(bs.getD i 0,((sel [nm] es).map (·.1)).getD i [])).map λx=>V.ref x.1:=by
   rw[qV];refine jT λi m=>?_;exact Iu bs i (by have:=d i m;omega)
  rw[ex] at G;have p:∀x∈(Wy ((sel [nm] es).map (·.1))).map (λi=>(bs.getD i 0,((sel [nm] es).map (·.1)).getD i [])),H1 x.1=some (.tup (x.2.map V.str))/\∃e∈es,e.1=x.2:=λx r=>by
   obtain⟨i,m,rfl⟩:=qj.mp r;refine⟨HC i R (d i m),?_⟩;have f:((sel [nm] es).map (·.1)).getD i []∈(sel [nm] es).map (·.1):=by
    rw[zC,qB (d i m)];exact jh _
   obtain⟨e,he,q⟩:=qj.mp f;exact⟨e,(qr.mp he).1,q⟩
  have hlen:((Wy ((sel [nm] es).map (·.1))).map (λi=>(bs.getD i 0,((sel [nm] es).map (·.1)).getD i []))).length<=sizeLine:=by
   rw[qh,Dt,qh];have:(sel [nm] es).length<=es.length:=qY _ _;exact Ya ((by omega))
  refine⟨l,U,⟨_,zN.of G⟩,LO (λx=>V.ref x.1) (λx=>D3 es x.2) (λx=>V.str (x.2.getD 2 "")) hlen (zN.of G) ?_ ?_ ?_⟩
  .intro x I Q' r s3 v;obtain⟨y,e,he,q⟩:=p x r;obtain⟨S,s⟩:=Ce he;rw[q] at s;have two:2<=x.2.length:=by rw[<-q];exact hm.two e he
   have f:=s1.trans s3;refine⟨_,U,x.1,_,_,_,U,U,jW.of (s3 _ _ y),DJ (j:=1) (by omega),U,_,U,?_⟩;by_cases g:x.2.getD 1 ""=Zd
   .obtain⟨⟨on,t⟩,_⟩:=hm.mw S (VO s).1 (by rw[(VO s).2];exact g);rw[g];refine b0 ⟨_,U,b,_,db,_,_,U,f _ _ h.e,T.zp,T.j8,U,xr,c,_,U,f _ _ u.obj,U,_,U,xr,c,D,kd,es,x.1,x.2,.non,U,u.same f,(by intro z;rw[z] at two;exact absurd two (by decide)),s3 _ _ y,λH4 s4=>?_⟩;rw[s];have:=v H4 s4;have J:D3 es x.2=on:=by
     unfold D3;rw[qu g,s];show(true&&decide (S.2.2.2=V.bl true))=on;rw[t];cases on<;>decide
    rw[J] at this;exact⟨on,t,this⟩
   .refine skS (qF g) ?_;have:=v I (Qj.refl _);have J:D3 es x.2=false:=by unfold D3;rw[qF g];rfl
    rw[J] at this;exact this
  .intro x I Q' r s3 f v;obtain⟨y,e,he,q⟩:=p x r;have g:x.2.getD 1 ""=Zd:=by
    unfold D3 at f;exact qo (zV.mp f).1
   have three:=(hm.mw e he (by rw[q];exact g)).2;rw[q] at three;exact⟨_,U,x.1,_,_,_,U,U,jW.of (s3 _ _ y),DJ (j:=2) (by omega),v I (Qj.refl _)⟩
  .intro f g s s2 t;refine k f g (s1.free s) (s1.trans s2) ?_;rw[t];congr 2;unfold Kg Oq;rw[qV,yb,yb,qV,qV];rfl
inductive HY(a:yL)(vs:qa V)(H:Hp)(Q:VK)(E:XK):Prop
 |mk:∀x s t b d an,vs=[.ref x]->UR a H x s t b d an->XQ s t b d an->(∀D H',SX x H H'->L5 a H' x s t b d an D->(H D=none\/L5 a H x s t b d an D)->Q (.ref D) H')->HY a vs H Q E
inductive RT(a:yL)(vs:qa V)(H:Hp)(Q:VK)(E:XK):Prop
 |mk:∀x s t b d an,vs=[.ref x]->UR a H x s t b d an->XQ s t b d an->(∀(l:qc)(H':Hp),H l=none->SX x H H'->(∃D,L5 a H' x s t b d an D/\(H D=none\/L5 a H x s t b d an D))->H' l=some (.lst ((WX (wb t++wb b)).map V.str))->Q (.ref l) H')->RT a vs H Q E
def Po(F:zT K ZZp "Letter.known" VF a.kh fd)(T:Txt K mg a)(FF:YC K a):QQ P w K mg base j6 2 a.kh fd [ZZ] (HY a):=by
 obtain⟨fdA,vZ,pF⟩:=FF.vZ;have pS:=@IJ P w K mg base a _ vZ T;refine F.ok US (λcdv A outer s H vs Q E X h=>?_)
 .obtain⟨x,s,t,b,d,an,rfl,hL,g,k⟩:=h;have hu:=Q9 X;have oB:QG 1 _:=X;refine⟨_,(Qd (QU (Qt SJ (Qk (pv 0) U) AO) (Qd (Qs (i:=1) US.nd Yc)
   (Qd (YW zo rfl (Yv (Ql pS oB rfl T.oZ vZ.kp pF .nil Qm (zg (Qk (pv 0) U) Qf))) (Q8 (i:=2) US.nd) (Qe (Yp hu (pv 1) (pv 2) YX rfl)))
   (Qd (YW zo rfl (Yv (Ql pS oB rfl T.oZ vZ.kp pF .nil Qm (zg (Qk (pv 0) U) Qf))) (Q8 (i:=2) US.nd) (Qe (Qy (SA (pv 1) (pv 2) YX ⟨U,U,U,U⟩))))
   (Qe (YF (pv 0) (pv 1) U))))) QD)
   (Qe (Qu (Qk (pv 0) U)))),?_⟩
  have h1:=g.tl;have h2:=Nf t;have h3:=g.bl;have h4:=Nf b;rcases hL with⟨dx,f⟩|⟨D,⟨dx,f⟩,Y⟩
  .refine⟨_,U,x,_,dx,_,_,U,f,T.zH,T.jK,U,U,_,U,Yj ?_⟩;refine λD G=>?_;have s1:Qj H (upd H D (.dK [])):=Qj.zk G;have L:(upd H D (.dK [])) D=some (.dK []):=Qc;show Ua _ _ _ _ (upd H D (.dK []));generalize upd H D (.dK [])=H1 at s1 L;refine⟨_,U,x,_,dx,_,_,U,s1 _ _ f,T.zH,T.xU,U,t,U,g.t_,by omega,λI H2 n1 s2 q=>?_⟩;have s3:=s1.trans s2;have lD:I≠D:=(Qb L n1).symm;refine⟨I,U,⟨_,zN.of q⟩,YB (K:=K) (a:=I) (xs:=(wb t).map V.str) (λi σ m=>∃o:Option V,σ=[some (.ref x),some (.ref D),o]/\Qj H m/\m D=some (.dK (kn (wb t) ((wb t).take i)))/\m I=some (.lst ((wb t).map V.str)))
    ⟨none,U,s3,s2 _ _ L,q⟩ (λi σ m _ ⟨_,_,_,_,h⟩=>zN.of h) ?_ ?_⟩
   .rintro i y σ m M ⟨o,rfl,s4,r,Z⟩;obtain⟨u,rfl,j⟩:=Fn M;have N:=TL (wb t) ((wb t).take i);rw[q0] at N;refine⟨_,U,_,U,D,_,U,UN.k (k:=Sum.inr u) r (QF (by omega)),_,U,s4.z6 G,?_,by rw[Qa lD];exact Z⟩;rw[Qc,fI (qM j),zm,j];rfl
   .rintro σ m ⟨o,rfl,s4,r,Z⟩;rw[qh,zj (qD _)] at r;refine⟨_,U,x,_,dx,_,_,U,s4 _ _ f,T.zH,T.kY,U,b,U,g.b_,by omega,λJ H4 n2 s5 B=>?_⟩;have s6:=s4.trans s5;have O:J≠D:=(Qb r n2).symm;refine⟨J,U,⟨_,zN.of B⟩,YB (K:=K) (a:=J) (xs:=(wb b).map V.str) (λi σ n=>∃o:Option V,σ=[some (.ref x),some (.ref D),o]/\Qj H n/\n D=some (.dK (kn (wb t) (wb t++(wb b).take i)))/\n J=some (.lst ((wb b).map V.str)))
     ⟨o,U,s6,by rw[vm,zU];exact s5 _ _ r,B⟩ (λi σ n _ ⟨_,_,_,_,h⟩=>zN.of h) ?_ ?_⟩
    .rintro i y σ n M ⟨o2,rfl,p,l,R⟩;obtain⟨u,rfl,j⟩:=Fn M;have N:=TL (wb t) (wb t++(wb b).take i);rw[qz,q0] at N;have C:wb t++(wb b).take (i+1)=(wb t++(wb b).take i)++[u]:=by rw[zm,j,yO];rfl
     refine⟨_,U,D,U,.inl ⟨_,.inl l⟩,_,U,_,Sum.inr u,l,U,QF (by omega),λv S=>?_,λS=>?_⟩
     .exact⟨_,U,p,by rw[C,Lk S];exact l,R⟩
     .exact⟨_,U,p.z6 G,by rw[Qc,C,Ll (λz hz=>qC _ hz) S],by rw[Qa O];exact R⟩
    .rintro σ n ⟨o2,rfl,p,l,R⟩;rw[qh,zj (qD _)] at l;refine⟨_,U,_,U,x,_,dx,_,U,p _ _ f,T.zH,T.jK,(by show 6<1000;decide),?_⟩;refine⟨_,U,x,_,dx,_,_,U,Qc,T.zH,T.jK,U,?_⟩;refine k D _ (λc o ne e=>?_) ⟨⟨dx,Qc⟩,?_⟩ (.inl G)
     .rw[Qa ne];exact p _ _ e
     .rw[Qa (Q4 l (p _ _ f) (λz=>nomatch z))];exact l
  .refine⟨_,U,x,_,dx,_,_,U,f,T.zH,T.jK,U,U,_,U,QV ?_⟩;exact⟨_,U,x,_,dx,_,_,U,f,T.zH,T.jK,U,k D H (λ_ _ _ e=>e) ⟨⟨dx,f⟩,Y⟩ (.inr ⟨⟨dx,f⟩,Y⟩)⟩
def bF(F:zT K Zq "Letter.words" VD a.kc fd)(T:Txt K mg a)(i:YC K a):QQ P w K mg base j6 3 a.kc fd [ZZ] (RT a):=by
 obtain⟨o,QcP,pK⟩:=i.rh;have pX:=@Po P w K mg base a _ QcP T i;refine F.ok BF (λp A outer s H vs Q E q h=>?_)
 .obtain⟨x,s,t,b,d,an,rfl,j,g,k⟩:=h;have oG:QG 2 _:=q;obtain⟨dx,f,r⟩:=j.at
  refine⟨_,(Qe (Qu (Ui (Ko rfl) rfl T.QaR boot_list (Oc (Ud (pv 0) T.zH T.pP pX oG pK .nil Qm) Qf)))),?_⟩;refine⟨_,U,x,dx,_,U,r,U,x,s,t,b,d,an,U,j,g,λD H1 s1 u v=>?_⟩;obtain⟨⟨e,m⟩,n⟩:=id u;refine⟨D,_,U,n,λl c=>k l _ (s1.free m c) (s1.trans (SX.of (Qj.zk c))) ⟨D,⟨⟨e,Qj.zk c _ _ m⟩,Qj.zk c _ _ n⟩,v⟩ ?_⟩;rw[Qc,bV]
inductive HX(a:yL)(vs:qa V)(H:Hp)(Q:VK)(E:XK):Prop
 |mk:∀p s t b d an,vs=[.ref p]->H p=some (.tup [.str s,.str t,.str b,.int d,.str an])->XQ s t b d an->(∀x H',H x=none->Qj H H'->(∃dx,H' x=some (.ins a.jd dx (lfs s t b d an .non)))->Q (.ref x) H')->HX a vs H Q E
def F0{b:qb}{d:Int}{Q:VK}{E:XK}(g:XQ s t b d an)(k:∀x H',H x=none->Qj H H'->(∃dx,H' x=some (.ins a.jd dx (lfs s t b d an .non)))->Q (.ref x) H') :
 ∀x dx,H x=none->H dx=none->dx≠x->Fo a (.ref x::[.str s,.str t,.str b,.int d,.str an]) (upd (upd H dx (.own x)) x (.ins a.jd dx [])) (λv f=>v=.non/\Q (.ref x) f) E:=by
 intro x dx f hd ne;refine⟨x,dx,s,t,b,d,an,U,g,Qc,λH' i h=>⟨U,k x H' f (λc o e=>i c o (Qb e f) ?_) ⟨dx,h⟩⟩⟩;rw[Qa (Qb e f),Qa (Qb e hd)];exact e
def DT(F:zT K Jl Jl Xq a.we fd)(T:Txt K mg a)(c:YC K a):QQ P w K mg base j6 7 a.we fd [ZC] (HX a):=by
 obtain⟨f,QaZ,wF,_⟩:=c.lu;have wI:=@Oh P w K mg base a _ QaZ T c;refine F.ok Fs (λi A outer s H vs Q E j h=>?_)
 .obtain⟨p,s,t,b,d,an,rfl,e,g,k⟩:=h;have uj:QG 6 _:=j;refine⟨_,(Qd (QU (PW.pt (XJ (UL (Uu (QC Y0 rfl T.j3 boot_isinstance (zg (pv 0) (zg (WS (v:=.ty "tuple") rfl T.QcN PyProof.Rows.boot_tuple rfl) Qf))))) (V0 (Qt Bp (QC Ym rfl T.vI zX (zg (pv 0) Qf)) Qi)))) (Qe VQ) QD)
   (Qe (Qu (FJ T.tZ wI uj rfl T.sm wF .nil Qm (zg (Qw QP (pv 0) Qi) (zg (Qw QP (pv 0) Qi) (zg (Qw QP (pv 0) Qi) (zg (Qw QP (pv 0) Qi) (zg (Qw QP (pv 0) Qi) Qf))))))))),?_⟩
  have hS:jW K H p [.str s,.str t,.str b,.int d,.str an]:=jW.of e;refine⟨_,U,_,_,_,_,_,U,U,WG.tup e,hJ,_,U,QV ?_⟩;refine⟨_,U,p,_,U,.inr hS,U,_,U,QV ?_⟩;exact⟨_,U,p,_,_,_,U,U,hS,U,_,U,p,_,_,_,U,U,hS,U,_,U,p,_,_,_,U,U,hS,U,_,U,p,_,_,_,U,U,hS,U,_,U,p,_,_,_,U,U,hS,U,F0 g k⟩
def EH:∀{ls:qa LE}{z l:LE},(ls.map LE.y).Nodup->z∈ls->l∈ls->z.y=l.y->z=l
 |[],_,_,_,h,_,_=>nomatch h
 |x::xs,z,l,c,hz,d,e=>by
  rw[qU,zK] at c;rcases qK.mp hz with b|b
  .rcases qK.mp d with a|a
   .rw[b,a]
   .exact absurd (qj.mpr ⟨l,a,by rw[<-e,b]⟩) c.1
  .rcases qK.mp d with a|a
   .exact absurd (qj.mpr ⟨z,b,by rw[e,a]⟩) c.1
   .exact EH c.2 b a e
def LsO.put(h:LsO a H own L ls){l:LE}(b:¬l.nm∈ls.map LE.nm)(d:¬l.y∈ls.map LE.y)(f:LtO a H own l.y l.p)(hg:XQ l.p.s l.p.t l.p.b l.p.d l.p.an) :
 LsO a (upd H L (.dK (Ye (dG LE.nm (λl=>V.ref l.y) ls) (Sum.inr l.nm) (.ref l.y)))) (Q0 own 5 H) L (ls++[l])/\lL own 5 H (upd H L (.dK (Ye (dG LE.nm (λl=>V.ref l.y) ls) (Sum.inr l.nm) (.ref l.y)))):=by
 have k:lL own 5 H (upd H L (.dK (Ye (dG LE.nm (λl=>V.ref l.y) ls) (Sum.inr l.nm) (.ref l.y)))):=λc o e q=>by
  have n:c≠L:=λz=>by
   rcases q with q|q
   .rw[z] at q;exact q h.o
   .rw[z,h.e] at e;cases e;cases q
  rw[Qa n];exact e
 refine⟨⟨by rw[Qc,Bk l b rfl rfl],by rw[Qq h.e];exact h.o,by rw[qJ];exact YT h.nd b,by rw[qJ];exact YT h.na d,λz hz=>?_⟩,k⟩;rcases qt.mp hz with hz|hz
 .exact⟨(h.at_ z hz).1.step k (by decide),(h.at_ z hz).2⟩
 .rw[qk.mp hz];exact⟨f.step k (by decide),hg⟩
def LsO.words(h:LsO a H own L ls){l:LE}(m:l∈ls)(s:SX l.y H H')(p:∃D,L5 a H' l.y l.p.s l.p.t l.p.b l.p.d l.p.an D/\(H D=none\/L5 a H l.y l.p.s l.p.t l.p.b l.p.d l.p.an D)) :
 LsO a H' (Q0 own 6 H) L ls/\lL own 6 H H':=by
 have d:=(h.at_ l m).1;obtain⟨w,f,g⟩:=d.let.at
 have k:lL own 6 H H':=λc o e q=>s c o (λz=>by
  rcases q with q|q
  .rw[z] at q;exact q d.1
  .rw[z,g] at e;cases e;cases q) e
 refine⟨⟨s _ _ (Q4 h.e g (λz=>nomatch z)) h.e,by rw[Qq h.e];exact h.o,h.nd,h.na,λz hz=>⟨?_,(h.at_ z hz).2⟩⟩,k⟩;have i:=(h.at_ z hz).1;by_cases e:z.y=l.y
 .obtain⟨D,r,j⟩:=p;have t:z=l:=EH h.na hz m e;rw[t];refine⟨by rw[Qq g];exact d.1,.inr ⟨D,r,Xj ?_⟩⟩;rcases j with j|⟨⟨x,n⟩,_⟩
  .exact .inr j
  .left
   rcases d.2 with⟨u,b⟩|⟨y,⟨⟨u,b⟩,_⟩,v⟩
   .rw[n] at b;injection b with b;injection b with _ _ b;simp at b
   .rw[n] at b;injection b with b;injection b with _ _ b;simp at b;rw[b];exact v
 .rcases i with⟨j,⟨dx,ex⟩|⟨D,⟨⟨dx,ex⟩,b⟩,n⟩⟩
  .exact⟨by rw[Qq ex];exact j,.inl ⟨dx,s _ _ e ex⟩⟩
  .exact⟨by rw[Qq ex];exact j,.inr ⟨D,⟨⟨dx,s _ _ e ex⟩,s _ _ (Q4 b g (λz=>nomatch z)) b⟩,by rw[Qq b];exact n⟩⟩
structure Rx(H:Hp)(es:qa Ent)(nm:qb)(p:LD)(u:qc)(fo:qb)(dr:Bool)(WI W M:qe):Prop where
 mk_:gm es
 few:es.length<64
 pt:((QI es [nm,Zy]).map (·.2.2.2)).getD .non=.ref u
 tu:H u=some (.tup [.str p.s,.str p.t,.str p.b,.int p.d,.str p.an])
 g:XQ p.s p.t p.b p.d p.an
 wi:∀w∈WX (wb p.t++wb p.b),w∈WI
 wl:(WX (wb p.t++wb p.b)).length<=60
 d0:dr=false->((QI es [nm,Zt]).map (·.2.2.2)).getD .non=.non
 d1:dr=true->∃z,((QI es [nm,Zt]).map (·.2.2.2)).getD .non=.str z
 pl:((QI es [nm,Zh]).map (·.2.2.2)).getD (.str Zp)=.str fo
 fw:fo∈W
 mm:∀y∈Kg es nm,y∈M
def LsO.same(j:Nat)(h:LsO a H own L ls)(s:Qj H H'):LsO a H' (Q0 own j H) L ls:=by
 refine⟨s _ _ h.e,by rw[Qq h.e];exact h.o,h.nd,h.na,λl b=>⟨?_,(h.at_ l b).2⟩⟩;rcases (h.at_ l b).1 with⟨c,⟨dx,ex⟩|⟨D,⟨⟨dx,ex⟩,d⟩,e⟩⟩
 .exact⟨by rw[Qq ex];exact c,.inl ⟨dx,s _ _ ex⟩⟩
 .exact⟨by rw[Qq ex];exact c,.inr ⟨D,⟨⟨dx,s _ _ ex⟩,s _ _ d⟩,by rw[Qq d];exact e⟩⟩
def KB.same(j:Nat)(s:Qj H H'):KB own (Q0 own j H) H H':=⟨λc o e _=>s c o e,λc o e _=>Qq e⟩
inductive cK(a:yL)(vs:qa V)(H:Hp)(Q:VK)(E:XK):Prop
 |mk:∀(own:qc->Nat)(b db xr L xt xi xf:qc)(es:qa Ent)(ls:qa LE)(bx:Rows)(mk:qb->qe)(WI W M:qe)(n:Nat)(nm:qb)(p:LD)(u:qc)(fo:qb)(dr:Bool),vs=[.ref b,.str nm]->v8 a H own b db xr L xt xi xf es ls bx mk WI W M n->Rx H es nm p u fo dr WI W M->n<40->(∀m,m∈bx.map (·.1)↔m∈ls.map LE.nm) ->
   (dr=true->∀H' own',v8 a H' own' b db xr L xt xi xf es (ls.filter λl=>decide (l.nm≠nm)) (L2.without bx nm) mk WI W M n->KB own own' H H'->Q .non H') ->
   (dr=false->∀y H' own',v8 a H' own' b db xr L xt xi xf es ((ls.filter λl=>decide (l.nm≠nm))++[⟨nm,y,p⟩]) (L2.without bx nm++[(nm,fo)]) (Us mk nm (dd (Kg es nm))) WI W M (n+1)->KB own own' H H'->Q .non H')->cK a vs H Q E
def fy(F:zT K JV "Board.bring_in" YM a.yh fd)(T:Txt K mg a)(j:YC K a):QQ P w K mg base j6 8 a.yh fd [ZZ,ZJ] (cK a):=by
 obtain⟨fd1,F1,kT⟩:=j.ud;have kX:=@IY P w K mg base a _ F1 T j;obtain⟨fd2,F2,QdK,ds,hds,Qcj⟩:=j.uM;have yD:=@S2 P w K mg base a _ F2 T;obtain⟨fd3,wx,Qaf⟩:=j.wx;have Qap:=@DT P w K mg base a _ wx T j;obtain⟨fd4,F4,rE,_⟩:=j.rO;have rM:=@bM P w K mg base a _ F4 T j;obtain⟨fd5,F5,Qal⟩:=j.Qax;have Qau:=@bJ P w K mg base a _ F5 T j;obtain⟨fd6,F6,pJ⟩:=j.rd;have pW:=@bF P w K mg base a _ F6 T j;obtain⟨fd7,F7,rF,_⟩:=j.rP;have rN:=@bK P w K mg base a _ F7 T j;obtain⟨fd8,F8,lG⟩:=j.lS;have lP:=@hB P w K mg base a _ F8 T j;refine F.ok WM (λcdv A outer st H vs Q E hr h=>?_)
 .obtain⟨own,b,db,xr,L,xt,xi,xf,es,ls,bx,mk,WI,W,M,n,nm,p,u,fo,dr,rfl,h,m,hn,x,kD,kN⟩:=h;have hu:=Q9 hr;have C:QG 7 _:=hr;have hr3:QG 3 _:=C.mono;have G:QG 2 _:=C.mono;have hr1:QG 1 _:=C.mono;obtain⟨t1,f,sp1⟩:∃t,PSs (Hr j6 P w K mg base Xg "Board.bring_in" (Qg YM) a.yh cdv A outer st H E).nox ((YH YM).drop 1) t /\
   ∀(H1:Hp)(d:qc->Nat),v8 a H1 d b db xr L xt xi xf es (ls.filter λl=>decide (l.nm≠nm)) (L2.without bx nm) mk WI W M n->KB own d H H1 ->
    t {nx:=λ_ H'=>Q .non H',rt:=Q} [some (.ref b),some (.str nm),none] H1:=by
   refine⟨_,(Qd (QU (Qt Od (QL (Qk (pv 0) U) T.jC T.xA yD hr1 Qcj hds Qm (zg (Yq (Qh (pv 1) (Qh Qp QA))) Qf)) AO) (Qe N7) QD)
    (Qd (Qs (i:=2) WM.nd (Ql Qap C rfl T.tS wx.kp Qaf .nil Qm (zg (QL (Qk (pv 0) U) T.jC T.xA yD hr1 Qcj hds Qm (zg (Yq (Qh (pv 1) (Qh Qp QA))) Qf)) Qf)))
    (Qd (Yp hu (Qk (pv 0) U) (pv 1) (pv 2) U)
    (Qd (Qy (QL (Qk (pv 0) U) T.zS T.rH rM G rE .nil Qm (zg (pv 1) (zg (Qk (pv 2) U) Qf))))
    (Qd (Qy (QL (Qk (pv 0) U) T.jX T.Qao Qau G Qal .nil Qm (zg (pv 1) (zg (Ud (pv 2) T.zH T.pO pW hr3 pJ .nil Qm) Qf))))
    (Qe (Qy (QL (Qk (pv 0) U) T.q9 T.rJ rN G rF .nil Qm (zg (pv 1) (zg (QL (Qk (pv 0) U) T.jC T.xA yD hr1 QdK .nil Qm (zg (Yq (Qh (pv 1) (Qh Qp QA))) (zg Qp Qf))) (zg (QL (pv 0) T.zp T.lK lP G lG .nil Qm (zg (pv 1) Qf)) Qf))))))))))),λH1 d f kb1=>?_⟩
   obtain⟨I,D,kd,rg,oxr,oF⟩:=id f.r;have hlen:(ls.filter λl=>decide (l.nm≠nm)).length<=n:=by obtain⟨_,_,_,_,_,q,_⟩:=id f.t;rw[qh] at q;exact q
   refine⟨_,U,b,_,db,_,_,U,f.e,T.zp,T.j8,U,xr,I,_,U,rg.obj,U,_,U,VZ,λq2 H2 n2 s2 e2=>⟨xr,I,D,kd,es,q2,[nm,Zt],.non,U,rg.same s2,(by intro z;cases z),e2,λH3 s3=>⟨rfl,_,rfl,?_⟩⟩⟩;have s:=s2.trans s3
   cases dr with
   |true=>
    obtain⟨z,hz⟩:=m.d1 rfl;rw[hz];exact Yj (kD rfl H3 _ (f.quiet s) (kb1.trans (KB.same 7 s)))
   |false=>
    rw[m.d0 rfl];refine QV ⟨_,U,b,_,db,_,_,U,s _ _ f.e,T.zp,T.j8,U,xr,I,_,U,s _ _ rg.obj,U,_,U,VZ,λq4 H4 n4 s4 e4=>⟨xr,I,D,kd,es,q4,[nm,Zy],.non,U,rg.same (s.trans s4),(by intro z;cases z),e4,λH5 s5=>?_⟩⟩;rw[m.pt];have s15:=(s.trans s4).trans s5;refine⟨u,_,_,_,_,_,U,s15 _ _ (kb1.k _ _ m.tu (.inr (.inr rfl))),m.g,λy H6 ny s6 ⟨dy,ey⟩=>?_⟩;have S:=s15.trans s6;have ny1:H1 y=none:=s15.free ny;have k6:lL d 6 H1 H6:=lL.of S;have b6:=S _ _ f.e;have o6:Q0 d 6 H1 b=0:=by rw[Qq f.e];exact f.o
    have r6:=f.r.step k6;have t6:=f.t.step k6;have i6:=f.i.step k6;have f6:=f.f.step k6;have l6:=f.l.same 6 S;have kb6:=kb1.trans (KB.same (own:=d) 6 S);have y6:LtO a H6 (Q0 d 6 H1) y p:=⟨Lx ny1,.inl ⟨dy,ey⟩⟩;have yn:¬y∈(ls.filter λl=>decide (l.nm≠nm)).map LE.y:=λhy=>by
     obtain⟨l,hl,e⟩:=qj.mp hy;obtain⟨o,q⟩:=(f.l.at_ l hl).1.there;rw[e,ny1] at q;cases q
    have nn:¬nm∈(ls.filter λl=>decide (l.nm≠nm)).map LE.nm:=λhy=>by
     obtain⟨l,hl,e⟩:=qj.mp hy;exact qo (qr.mp hl).2 e
    generalize Q0 d 6 H1=O at o6 r6 t6 i6 f6 l6 kb6 y6;obtain⟨l7,R⟩:=l6.put (l:=⟨nm,y,p⟩) nn yn y6 m.g;refine⟨_,U,_,U,b,_,db,_,_,U,b6,T.zp,T.z8,U,_,U,L,_,U,UN.k (k:=Sum.inr nm) l6.e (by rw[Gx];exact QF (by omega)),?_⟩;have b7:=R _ _ b6 (.inl (by rw[o6];decide));have o7:Q0 O 5 H6 b=0:=by rw[Qq b6];exact o6
    have r7:=r6.step R;have t7:=t6.step R;have i7:=i6.step R;have f7:=f6.step R;have kb7:=kb6.trans (KB.of R (by decide) (by decide));have e7:=R _ _ ey (.inl (by rw[y6.1];decide));show Ua _ _ _ _ (upd H6 L (.dK (Ye (dG LE.nm (λl=>V.ref l.y) (ls.filter λl=>decide (l.nm≠nm))) (Sum.inr nm) (.ref y))));generalize upd H6 L (.dK (Ye (dG LE.nm (λl=>V.ref l.y) (ls.filter λl=>decide (l.nm≠nm))) (Sum.inr nm) (.ref y)))=H7 at l7 R b7 r7 t7 i7 f7 kb7 e7⊢;generalize Q0 O 5 H6=oE at o7 l7 r7 t7 i7 f7 kb7;generalize hls:(ls.filter λl=>decide (l.nm≠nm))=ls1 at l7 t7 i7 nn yn;obtain⟨dxt,L2',R2',krT,thT,hrl,_,oxt,_⟩:=id t7;refine⟨_,U,b,_,db,_,_,U,b7,T.zp,T.xV,U,xt,dxt,_,U,thT.obj,U,_,U,_,U,y,_,dy,_,_,U,e7,T.zH,T.yS,U,rest oE 1 H7,xt,_,n,nm,p.an,U,t7.thf,hn,VA.mpr (by rw[qV];exact nn),λH8 ht _=>?_⟩;obtain⟨t8,k8⟩:=ThO.of oxt ⟨_,thT.obj⟩ ht;have b8:=k8 _ _ b7 (.inl (by rw[o7];decide));have o8:Q0 oE 1 H7 b=0:=by rw[Qq b7];exact o7
    have r8:=r7.step k8;have l8:=l7.step k8;have i8:=i7.step k8;have f8:=f7.step k8;have kb8:=kb7.trans (KB.of k8 (by decide) (by decide));generalize Q0 oE 1 H7=X at o8 l8 r8 t8 i8 f8 kb8;have hy8:(⟨nm,y,p⟩:LE)∈ls1++[⟨nm,y,p⟩]:=qx _ (qk.mpr rfl);have lt8:=(l8.at_ _ hy8).1;obtain⟨dy8,fy8,ey8⟩:=lt8.let.at
    obtain⟨Fi,ix,oxi,oFi⟩:=id i8;obtain⟨dxi,E1,B1,exi⟩:=ix.obj;refine⟨_,U,b,_,db,_,_,U,b8,T.zp,T.yQ,U,xi,dxi,_,U,exi,U,_,U,_,U,y,dy8,_,U,ey8,U,y,_,_,_,_,_,U,lt8.let,m.g,λlw H9 nlw sx hk e9=>?_⟩;obtain⟨l9,k9⟩:=l8.words hy8 sx hk;have b9:=k9 _ _ b8 (.inl (by rw[o8];decide));have o9:Q0 X 6 H8 b=0:=by rw[Qq b8];exact o8
    have r9:=r8.step k9;have t9:=t8.step k9;have i9:=i8.step k9;have f9:=f8.step k9;have kb9:=kb8.trans (KB.of k9 (by decide) (by decide));generalize Q0 X 6 H8=Y at o9 l9 r9 t9 i9 f9 kb9;obtain⟨Fi9,ix9,oxi9,oFi9⟩:=id i9;refine⟨xi,lw,_,WI,n,Fi9,nm,_,U,ix9,hn,(by rw[qV];exact nn),e9,m.wi,m.wl,λH10 Fi' ix' kF hF=>?_⟩;obtain⟨i10,v⟩:=IxO.own' ix9 oxi9 oFi9 ix' kF hF;have J:=v _ _ b9 (.inl (by rw[o9];decide));have o10:Q0 Y 2 H9 b=0:=by rw[Qq b9];exact o9
    have r10:=r9.step v;have l10:=l9.step v;have t10:=t9.step v;have f10:=f9.step v;have Z:=kb9.trans (KB.of v (by decide) (by decide));generalize Q0 Y 2 H9=B at o10 l10 r10 t10 i10 f10 Z;obtain⟨dx10,D10,kd10,rg10,_,_⟩:=id r10;obtain⟨Ff,ff,oxf,oFf⟩:=id f10;obtain⟨dxf,X1,T1,N1,exf⟩:=ff.obj;have B10:v8 a H10 B b db xr L xt xi xf es (ls1++[⟨nm,y,p⟩]) (L2.without bx nm) mk WI W M (n+1):=⟨J,o10,r10,l10,by rw[qJ];exact t10,by rw[qJ];exact i10,⟨Ff,ff.up,oxf,oFf⟩⟩;refine⟨_,U,b,_,db,_,_,U,J,T.zp,T.jf,U,xf,dxf,_,U,exf,U,_,U,_,U,b,_,db,_,_,U,J,T.zp,T.j8,U,xr,dx10,_,U,rg10.obj,U,_,U,VZ,λq11 H11 n11 s11 e11=>⟨xr,dx10,D10,kd10,es,q11,[nm,Zh],.str Zp,U,rg10.same s11,(by intro z;cases z),e11,λH12 s12=>?_⟩⟩;rw[m.pl];have S12:=s11.trans s12;refine⟨_,U,b,db,_,U,S12 _ _ J,U,_,U,_,b,db,xr,L,xt,xi,xf,es,_,_,mk,WI,W,M,n+1,nm,U,B10.quiet S12,m.mk_,m.few,λlm H13 nl s13' e13=>?_⟩;have N:=S12.trans s13';have B13:=B10.quiet N;have wn:¬nm∈(L2.without bx nm).map (·.1):=λhm=>by
     obtain⟨r,hr',e⟩:=qj.mp hm;exact qo (qr.mp hr').2 e
    refine⟨xf,lm,_,mk,W,M,n,Ff,nm,fo,_,U,ff.same N,hn,VA.mpr wn,m.fw,e13,m.mm,λH14 Ff' fo' kG hG=>?_⟩;obtain⟨f14,k14⟩:=FoO.own' (own:=Q0 B 7 H10) (ff.same N) (by rw[Qq exf];exact oxf) (λc hc=>by obtain⟨kvs,e⟩:=ff.kind hc;rw[Qq e];exact oFf c hc) fo' kG hG;subst hls;exact kN rfl y H14 _ (B13.fold f14 k14) ((Z.trans (KB.same 7 N)).trans (KB.of k14 (by decide) (by decide)))
  refine⟨_,(Qd (QU (UM (Ka hu (pv 1) (Qk (pv 0) U))) (Qe (Qy (QL (pv 0) T.zp T.wZ kX hr3 kT .nil Qm (zg (pv 1) Qf)))) QD) f),?_⟩;by_cases hm:nm∈ls.map LE.nm
  .obtain⟨le,hle,rfl⟩:=qj.mp hm;refine⟨_,U,_,U,b,_,db,_,_,U,h.e,T.zp,T.z8,U,L,some (.ref le.y),U,.inl ⟨_,Sum.inr le.nm,.inl h.l.e,U,(Q3 (g:=λl=>V.ref l.y) h.l.nd hle).symm⟩,?_⟩;refine⟨_,U,Yj ⟨_,U,b,db,_,U,h.e,U,_,U,own,b,db,xr,L,xt,xi,xf,es,ls,bx,mk,WI,W,M,n,le.nm,U,h,hm,(x _).mpr hm,λH' own' d s=>sp1 H' own' d s⟩⟩
  .refine⟨_,U,_,U,b,_,db,_,_,U,h.e,T.zp,T.z8,U,L,none,U,.inl ⟨_,Sum.inr nm,.inl h.l.e,U,(Vr hm).symm⟩,?_⟩;have d:(ls.filter λl=>decide (l.nm≠nm))=ls:=jU.mpr λl hl=>qu λe=>hm (qj.mpr ⟨l,hl,e⟩);have q2:L2.without bx nm=bx:=jU.mpr λr hr'=>qu λe=>hm ((x _).mp (qj.mpr ⟨r,hr',e⟩));exact⟨_,U,QV (sp1 H own (by rw[d,q2];exact h) ⟨λc o e _=>e,λc o _ _=>rfl⟩)⟩
def YJ:Dd->qe
 |.put nm _=>[nm,Zy]
 |.place nm _=>[nm,Zh]
 |.mark nm y _=>[nm,Zd,y]
 |.drop nm=>[nm,Zt]
inductive cI(vs:qa V)(H:Hp)(Q:VK)(E:XK):Prop
 |mk:∀(q:qc)(d:Dd),vs=[.ref q]->DAt H q d->(∀k H',H k=none->Qj H H'->H' k=some (.tup ((YJ d).map V.str))->Q (.ref k) H')->cI vs H Q E
inductive cH(vs:qa V)(H:Hp)(Q:VK)(E:XK):Prop
 |mk:∀(q:qc)(c:Int)(h:qb)(r:qa V),vs=[.ref q]->H q=some (.tup (.int c::.str h::r))->(∀k H',H k=none->Qj H H'->H' k=some (.tup [.int c,.str h])->Q (.ref k) H')->cH vs H Q E
def fx(F:zT K JI JI BZ a.my fd)(T:Txt K mg a):QQ P w K mg base j6 1 a.my fd [JT] cI:=by
 refine F.ok O7 (λc A outer st H vs Q E f h=>?_)
 .obtain⟨q,d,rfl,hd,k⟩:=h;refine⟨_,(Qd (QU (Qt Ue (Qw QP (pv 0) Qi) Qp) (Qe (Qu (Yq (Qh (Qw QP (pv 0) Qi) (Qh Qp (Qh (Qw QP (pv 0) Qi) QA)))))) QD)
   (Qe (Qu (Yq (Qh (Qw QP (pv 0) Qi) (Qh (Qw QP (pv 0) Qi) QA)))))),?_⟩
  cases hd with
  |put e g=>
   exact⟨_,U,q,_,_,_,U,U,jW.of e,QB (j:=0) rfl,U,_,U,skS (by decide +kernel) ⟨_,U,q,_,_,_,U,U,jW.of e,QB (j:=1) rfl,_,U,q,_,_,_,U,U,jW.of e,QB (j:=0) rfl,VZ,λx H' nx s' b=>k x H' nx s' b⟩⟩
  |place e=>
   exact⟨_,U,q,_,_,_,U,U,jW.of e,QB (j:=0) rfl,U,_,U,skS (by decide +kernel) ⟨_,U,q,_,_,_,U,U,jW.of e,QB (j:=1) rfl,_,U,q,_,_,_,U,U,jW.of e,QB (j:=0) rfl,VZ,λx H' nx s' b=>k x H' nx s' b⟩⟩
  |mark e=>
   exact⟨_,U,q,_,_,_,U,U,jW.of e,QB (j:=0) rfl,U,_,U,b0 ⟨_,U,q,_,_,_,U,U,jW.of e,QB (j:=1) rfl,_,U,q,_,_,_,U,U,jW.of e,QB (j:=2) rfl,Hv,λx H' nx s' b=>k x H' nx s' b⟩⟩
  |drop e=>
   exact⟨_,U,q,_,_,_,U,U,jW.of e,QB (j:=0) rfl,U,_,U,skS (by decide +kernel) ⟨_,U,q,_,_,_,U,U,jW.of e,QB (j:=1) rfl,_,U,q,_,_,_,U,U,jW.of e,QB (j:=0) rfl,VZ,λx H' nx s' b=>k x H' nx s' b⟩⟩
def fu(F:zT K Jx Jx Kv a.um fd)(T:Txt K mg a):QQ P w K mg base j6 1 a.um fd [JD] cH:=by
 refine F.ok Il (λb A outer st H vs Q E f h=>?_)
 .obtain⟨q,c,h,r,rfl,e,k⟩:=h;refine⟨_,(Qe (Qu (Yq (Qh (Qw QP (pv 0) Qi) (Qh (Qw QP (pv 0) Qi) QA))))),?_⟩;exact⟨_,U,q,_,_,_,U,U,jW.of e,QB (j:=0) rfl,_,U,q,_,_,_,U,U,jW.of e,QB (j:=1) rfl,VZ,λx H' nx s' d=>k x H' nx s' d⟩
def M5(u:qc):Dd->qa V
 |.put nm _=>[.str Zy,.str nm,.ref u]
 |.place nm fo=>[.str Zh,.str nm,.str fo]
 |.mark nm y on=>[.str Zd,.str nm,.str y,.bl on]
 |.drop nm=>[.str Zt,.str nm]
def Uh(u:qc):Dd->V
 |.put _ _=>.ref u
 |.place _ fo=>.str fo
 |.mark _ _ on=>.bl on
 |.drop nm=>.str nm
def D4:Dd->qb
 |.put _ _=>Zy
 |.place _ _=>Zh
 |.mark _ _ _=>Zd
 |.drop _=>Zt
structure DU(H:Hp)(q u:qc)(d:Dd):Prop where
 e:H q=some (.tup (M5 u d))
 p:∀nm p,d=.put nm p->H u=some (.tup [.str p.s,.str p.t,.str p.b,.int p.d,.str p.an])
def DU.at{q:qc}(h:DU H q u d):DAt H q d:=by
 cases d with
 |put nm p=>exact .put h.e (h.p nm p rfl)
 |place nm fo=>exact .place h.e
 |mark nm y on=>exact .mark h.e
 |drop nm=>exact .drop h.e
def Gw(u:qc)(d:Dd):nE (M5 u d) 0=some (V.str (D4 d)):=by cases d<;>exact QB (j:=0) rfl
def Gv(u:qc)(d:Dd):nE (M5 u d) 1=some (V.str d.nm):=by cases d<;>exact QB (j:=1) rfl
def M4(u:qc)(d:Dd):nE (M5 u d) (-1)=some (Uh u d):=by cases d<;>rfl
def YU:Dd->Bool
 |.put _ _=>true
 |_=>false
def ID(d:Dd):decide (D4 d=Zy)=YU d:=by
 cases d with
 |put nm p=>show decide (Zy=Zy)=true;decide +kernel
 |place nm fo=>show decide (Zh=Zy)=false;decide +kernel
 |mark nm y on=>show decide (Zd=Zy)=false;decide +kernel
 |drop nm=>show decide (Zt=Zy)=false;decide +kernel
def OI(d:Dd):YJ d≠[]:=by cases d<;>exact λz=>nomatch z
def Rx.kept{nm:qb}{a:Bool}(h:Rx H es nm p u fo a WI W M)(k:∀c xs,H c=some (.tup xs)->H' c=some (.tup xs)):Rx H' es nm p u fo a WI W M:=
 ⟨h.mk_,h.few,h.pt,k _ _ h.tu,h.g,h.wi,h.wl,h.d0,h.d1,h.pl,h.fw,h.mm⟩
inductive Me(a:yL)(vs:qa V)(H:Hp)(Q:VK)(E:XK):Prop
 |mk:∀(own:qc->Nat)(b db xr L xt xi xf:qc)(es:qa Ent)(ls:qa LE)(bx:Rows)(mk:qb->qe)(WI W M:qe)(n:Nat)(x:qc)(c:Int)(hd:qb)(num:Int)(q u:qc)(d:Dd),vs=[.ref b,.ref x]->v8 a H own b db xr L xt xi xf es ls bx mk WI W M n->H x=some (.tup [.int c,.str hd,.int num,.ref q])->DU H q u d->es.length<=900->(∀m,m∈bx.map (·.1)↔m∈ls.map LE.nm) ->
   (YI es (YJ d,c,hd,Uh u d)=false->∀H' own',v8 a H' own' b db xr L xt xi xf (QY es (YJ d,c,hd,Uh u d)) ls bx mk WI W M n->KB own own' H H'->Q .non H') ->
   (YI es (YJ d,c,hd,Uh u d)=true->∀nm p,d=.put nm p->∃fo dr,Rx H (QY es (YJ d,c,hd,Uh u d)) nm p u fo dr WI W M/\n<40 /\
     (dr=true->∀H' own',v8 a H' own' b db xr L xt xi xf (QY es (YJ d,c,hd,Uh u d)) (ls.filter λl=>decide (l.nm≠nm)) (L2.without bx nm) mk WI W M n->KB own own' H H'->Q .non H') /\
     (dr=false->∀y H' own',v8 a H' own' b db xr L xt xi xf (QY es (YJ d,c,hd,Uh u d)) ((ls.filter λl=>decide (l.nm≠nm))++[⟨nm,y,p⟩]) (L2.without bx nm++[(nm,fo)]) (Us mk nm (dd (Kg (QY es (YJ d,c,hd,Uh u d)) nm))) WI W M (n+1)->KB own own' H H'->Q .non H')) ->
   (YI es (YJ d,c,hd,Uh u d)=true->YU d=false->dOk W M d/\(d.nm∈ls.map LE.nm->∀H' own',v8 a H' own' b db xr L xt xi xf (QY es (YJ d,c,hd,Uh u d)) (chL ls d) (chB bx d) (chM mk d) WI W M n->KB own own' H H'->Q .non H') /\
     (¬d.nm∈ls.map LE.nm->∀H' own',v8 a H' own' b db xr L xt xi xf (QY es (YJ d,c,hd,Uh u d)) ls bx mk WI W M n->KB own own' H H'->Q .non H'))->Me a vs H Q E
def bH(F:zT K "show" "Board.show" WO a.vM fd)(T:Txt K mg a)(v:YC K a):QQ P w K mg base j6 9 a.vM fd [ZZ,JD] (Me a):=by
 obtain⟨fd1,F1,nj⟩:=v.og;have nW:=@bI P w K mg base a _ F1 T;obtain⟨fd2,mN,Qci⟩:=v.mN;have Qcl:=@fx P w K mg base a _ mN T;obtain⟨fd3,uB,QaQ⟩:=v.uB;have QaW:=@fu P w K mg base a _ uB T;obtain⟨fd4,F4,nC⟩:=v.ou;have n8:=@fy P w K mg base a _ F4 T v;obtain⟨fd5,F5,pN⟩:=v.rk;have p9:=@fz P w K mg base a _ F5 T v;refine F.ok K7 (λcdv A outer st H vs Q E hr h=>?_)
 .obtain⟨own,b,db,xr,L,xt,xi,xf,es,ls,bx,mk,WI,W,M,n,x,c,hd,num,q,u,d,rfl,h,hx,s,I,o,k0,k1,k2⟩:=h;have hu:=Q9 hr;have B:QG 8 _:=hr;have Z:QG 4 _:=B.mono;have C:QG 1 _:=B.mono;refine⟨_,(Qd (Qs (i:=2) K7.nd (Qw QP (pv 1) Qi))
   (Qd (QU (UL (Uu (QL (Qk (pv 0) U) T.jC T.nJ nW C nj .nil Qm (zg (Ql Qcl C rfl T.Qca mN.kp Qci .nil Qm (zg (pv 2) Qf)) (zg (Ql QaW C rfl T.QaJ uB.kp QaQ .nil Qm (zg (pv 1) Qf)) (zg (Qw QP (pv 2) (Sy Ma Qi)) Qf)))))) (Qe N7) QD)
   (Qe (QU (Qt Ue (Qw QP (pv 2) Qi) Qp) (Qe (Qy (QL (pv 0) T.zp T.nP n8 B nC .nil Qm (zg (Qw QP (pv 2) Qi) Qf)))) (Qe (QU (UM (Ka hu (Qw QP (pv 2) Qi) (Qk (pv 0) U))) (Qe (Qy (QL (pv 0) T.zp T.pR p9 Z pN .nil Qm (zg (pv 2) Qf)))) QD)))))),?_⟩
  obtain⟨J,D,kd,N,oxr,oF⟩:=id h.r;refine⟨_,U,x,_,_,_,U,U,jW.of hx,QB (j:=3) rfl,?_⟩;refine⟨_,U,b,_,db,_,_,U,h.e,T.zp,T.j8,U,xr,J,_,U,N.obj,U,_,U,q,d,U,s.at,λkp H1 nk s1 ek=>?_⟩;refine⟨_,U,x,c,hd,_,U,s1 _ _ hx,λsp H2 ns s2 es2=>?_⟩;have r:=s1.trans s2;have ox2:Q0 own 7 H xr=0:=by rw[Qq N.obj];exact oxr
  have oF2:∀c,FP D kd c->Q0 own 7 H c=4:=λc hc=>by obtain⟨kvs,e⟩:=N.fp hc;rw[Qq e];exact oF c hc
  have t:=h.quiet r;refine⟨_,U,_,U,q,_,_,_,U,U,jW.of (r _ _ s.e),M4 u d,xr,J,D,kd,es,kp,sp,YJ d,c,hd,Uh u d,U,N.same r,I,OI d,s2 _ _ ek,es2,λkd' O rg' kk hF=>⟨_,U,?_⟩⟩;obtain⟨r3,G⟩:=RgO.own' (N.same r) ox2 oF2 rg' kk hF;have m:v8 a O (Q0 (Q0 own 7 H) 4 H2) b db xr L xt xi xf (QY es (YJ d,c,hd,Uh u d)) ls bx mk WI W M n:=⟨G _ _ t.e (.inl (by rw[t.o];decide)),by rw[Qq t.e];exact t.o,r3,t.l.step G,t.t.step G,t.i.step G,t.f.step G⟩;have f:KB own (Q0 (Q0 own 7 H) 4 H2) H O:=(KB.same 7 r).trans (KB.of G (by decide) (by decide));have kt:∀c xs,H c=some (.tup xs)->O c=some (.tup xs):=λc xs e=>f.k _ _ e (.inr (.inr rfl));generalize Q0 (Q0 own 7 H) 4 H2=k at m f;have X:=kt _ _ s.e
  cases hk:YI es (YJ d,c,hd,Uh u d) with
  |false=>exact Yj (k0 hk O k m f)
  |true=>
   refine QV ⟨_,U,q,_,_,_,U,U,jW.of X,Gw u d,U,_,U,?_⟩;rw[Ut,ID]
   cases Y:YU d with
   |true=>
    cases d with
    |put nm p=>
     obtain⟨fo,dr,hI,hn,j1,j2⟩:=k1 hk nm p rfl;exact Yj ⟨_,U,b,db,_,U,m.e,U,_,U,q,_,_,_,U,U,jW.of X,Gv u (.put nm p),k,b,db,xr,L,xt,xi,xf,_,ls,bx,mk,WI,W,M,n,nm,p,u,fo,dr,U,m,hI.kept kt,hn,o,λz H' own' R S=>j1 z H' own' R (f.trans S),λz y H' own' R S=>j2 z y H' own' R (f.trans S)⟩
    |place nm fo=>cases Y
    |mark nm y on=>cases Y
    |drop nm=>cases Y
   |false=>
    obtain⟨dk,j1,j2⟩:=k2 hk Y;by_cases hm:d.nm∈ls.map LE.nm
    .obtain⟨le,hle,en⟩:=qj.mp hm;refine QV ⟨_,U,q,_,_,_,U,U,jW.of X,Gv u d,_,U,b,_,db,_,_,U,m.e,T.zp,T.z8,U,L,some (.ref le.y),U,.inl ⟨_,Sum.inr d.nm,.inl m.l.e,U,by rw[<-en];exact(Q3 (g:=λl=>V.ref l.y) m.l.nd hle).symm⟩,_,U,Yj ?_⟩;exact⟨_,U,b,db,_,U,m.e,U,_,U,k,b,db,xr,L,xt,xi,xf,_,ls,bx,mk,WI,W,M,n,q,d,U,m,s.at.tups kt,dk,hm,(o _).mpr hm,λH' own' R S=>j1 hm H' own' R (f.trans S)⟩
    .refine QV ⟨_,U,q,_,_,_,U,U,jW.of X,Gv u d,_,U,b,_,db,_,_,U,m.e,T.zp,T.z8,U,L,none,U,.inl ⟨_,Sum.inr d.nm,.inl m.l.e,U,(Vr hm).symm⟩,_,U,QV ?_⟩;exact j2 hm O k m f
section
open PySem.Spec PyProof.Rows
structure TxI(ws:qe)(n:Nat)(x:qb):Prop where
 l:∀w∈(wK x.cps.toList).1,w=Str.empty\/w∈ws
 c:(x=("":qb)/\(wK x.cps.toList).2=Str.empty)\/(x≠("":qb)/\(wK x.cps.toList).2∈ws)
 a:wN x
 nn:¬10∈x.cps.toList
 len:x.length<=n
def Vy(x y:qb):(x++y).cps.toList=x.cps.toList++y.cps.toList:=by show(x.cps++y.cps).toList=_;simp
def BU(x y:qb):wK (x++y).cps.toList=y.cps.toList.foldl wJ (wK x.cps.toList):=by
 unfold wK;rw[Vy,jB]
def Dz(f:Nat->Nat):∀(l:qa Nat)(L:qe)(a:qb),(∀c∈l,AF (f c)=true/\lo1 (f c)=c)->(l.map f).foldl wJ (L,a)=(L,a++⟨l.toArray⟩)
 |[],L,a,_=>by show(L,a)=(L,⟨a.cps++#[]⟩);rw[Array.append_empty]
 |c::l,L,a,h=>by
  obtain⟨b,g⟩:=h c (qy ..);rw[qU,zy];have e:wJ (L,a) (f c)=(L,a++⟨#[c]⟩):=by unfold wJ;rw[qG b,g]
  rw[e,Dz f l L _ λd hd=>h d (qH _ hd)];congr 1;show(⟨(a.cps++#[c])++l.toArray⟩:qb)=⟨a.cps++(c::l).toArray⟩;congr 1;apply Array.ext';simp
def gf:(aZ.cps.toList.all λc=>AF c&&decide (lo1 c=c)&&AF (up1 c)&&decide (lo1 (up1 c)=c)&&decide (c≠10)&&decide (up1 c≠10))=true:=by decide +kernel
def OT{c:Nat}(h:c∈aZ.cps.toList):(AF c=true/\lo1 c=c)/\(AF (up1 c)=true/\lo1 (up1 c)=c)/\c≠10/\up1 c≠10:=by
 have:=jc.mp gf c h;simp only[jb,decide_eq_true_eq] at this;obtain⟨⟨⟨⟨⟨a,b⟩,g⟩,d⟩,e⟩,f⟩:=this;exact⟨⟨a,b⟩,⟨g,d⟩,e,f⟩
def Rh{w:qb}(hw:Uz w)(L:qe):w.cps.toList.foldl wJ (L,Str.empty)=(L,w):=by
 have:=Dz id w.cps.toList L Str.empty λc hc=>(OT (hw.in_ c hc)).1;rw[List.map_id] at this;rw[this];congr 1;show(⟨#[]++w.cps.toList.toArray⟩:qb)=w;simp
def MX{w:qb}(hw:Uz w)(L:qe):(⟨w.cps.map up1⟩:qb).cps.toList.foldl wJ (L,Str.empty)=(L,w):=by
 have:=Dz up1 w.cps.toList L Str.empty λc hc=>(OT (hw.in_ c hc)).2.1;have e:(⟨w.cps.map up1⟩:qb).cps.toList=w.cps.toList.map up1:=by simp
 rw[e,this];congr 1;show(⟨#[]++w.cps.toList.toArray⟩:qb)=w;simp
def TxI.nil(ws:qe):TxI ws 0 "":=⟨λw h=>(nomatch (show w∈([]:qe) from h)),.inl ⟨U,U⟩,λc h=>(nomatch (show c∈([]:qa Nat) from h)),λh=>(nomatch (show 10∈([]:qa Nat) from h)),qD _⟩
def Gap(g:qb):Prop:=g=" "\/g=", "\/g="-"
def Gap.fold{g:qb}(h:Gap g)(L:qe)(c:qb):g.cps.toList.foldl wJ (L,c)=(L++[c],Str.empty)\/g.cps.toList.foldl wJ (L,c)=(L++[c]++[Str.empty],Str.empty):=by
 have a:AF 32=false:=by decide +kernel
 have b:AF 44=false:=by decide +kernel
 have d:AF 45=false:=by decide +kernel
 rcases h with rfl|rfl|rfl
 .left
  show wJ (L,c) 32=_;unfold wJ;rw[a];rfl
 .right
  show wJ (wJ (L,c) 44) 32=_;unfold wJ;rw[a,b];rfl
 .left
  show wJ (L,c) 45=_;unfold wJ;rw[d];rfl
def Gap.asc{g:qb}(h:Gap g):wN g/\¬10∈g.cps.toList/\g.length<=2:=by
 rcases h with rfl|rfl|rfl
 .exact⟨λc hc=>by revert c;decide +kernel,by decide +kernel,by decide +kernel⟩
 .exact⟨λc hc=>by revert c;decide +kernel,by decide +kernel,by decide +kernel⟩
 .exact⟨λc hc=>by revert c;decide +kernel,by decide +kernel,by decide +kernel⟩
def Wrt(w y:qb):Prop:=y=w\/y=⟨w.cps.map up1⟩
def Wrt.fold{w:qb}(h:Wrt w y)(hw:Uz w)(L:qe):y.cps.toList.foldl wJ (L,Str.empty)=(L,w):=by
 rcases h with rfl|rfl
 .exact Rh hw L
 .exact MX hw L
def Wrt.asc{w:qb}(h:Wrt w y)(hw:Uz w):wN y/\¬10∈y.cps.toList/\y.length=w.length:=by
 rcases h with rfl|rfl
 .exact⟨hw.asc,λh=>(OT (hw.in_ _ h)).2.2.1 rfl,U⟩
 .refine⟨hw.asc.upper,λh=>?_,by simp[Str.length]⟩;have:10∈w.cps.toList.map up1:=by simpa using h
  obtain⟨d,hd,e⟩:=qj.mp this;exact(OT (hw.in_ _ hd)).2.2.2 e
def WT(x y:qb):(x++y).length=x.length+y.length:=by simp only[Str.length];show(x.cps++y.cps).size=_;simp
def Th{x:qb}(h:1<=x.length):x≠("":qb):=λz=>by rw[z] at h;exact absurd h (by decide +kernel)
def TxI.step{x g w:qb}(h:TxI ws n x)(hg:(x=("":qb)/\g=("":qb))\/(x≠("":qb)/\Gap g))(hw:Uz w)(k:w.length<=18)(hm:w∈ws)(c:Wrt w y):TxI ws (n+20) (x++g++y):=by
 obtain⟨i,j,m⟩:=c.asc hw;have lo:=hw.lo;have b:x++g++y≠("":qb):=Th (by rw[WT];omega);rcases hg with⟨d,l⟩|⟨d,hg⟩
 .subst d l;have e:(("":qb)++("":qb)++y)=y:=by show(⟨#[]++#[]++y.cps⟩:qb)=y;simp
  rw[e] at b⊢;have f:wK y.cps.toList=([],w):=c.fold hw [];exact⟨λv a=>by rw[f] at a;(cases a),.inr ⟨b,by rw[f];exact hm⟩,i,j,by omega⟩
 .obtain⟨g1,g2,g3⟩:=hg.asc;have hc:(wK x.cps.toList).2∈ws:=by
   rcases h.c with⟨q,_⟩|⟨_,q⟩
   .exact absurd q d
   .exact q
  have hlen:=h.len;refine⟨λv a=>?_,.inr ⟨b,?_⟩,(h.a.app g1).app i,λa=>?_,by rw[WT,WT];omega⟩
  .rw[BU,BU] at a;rcases hg.fold (wK x.cps.toList).1 (wK x.cps.toList).2 with f|f
   .rw[show(wK x.cps.toList)=((wK x.cps.toList).1,(wK x.cps.toList).2) from rfl,f,c.fold hw] at a;rcases qt.mp a with q|q
    .exact h.l v q
    .rw[qk.mp q];exact .inr hc
   .rw[show(wK x.cps.toList)=((wK x.cps.toList).1,(wK x.cps.toList).2) from rfl,f,c.fold hw] at a;rcases qt.mp a with q|q
    .rcases qt.mp q with q|q
     .exact h.l v q
     .rw[qk.mp q];exact .inr hc
    .rw[qk.mp q];exact .inl rfl
  .rw[BU,BU];rcases hg.fold (wK x.cps.toList).1 (wK x.cps.toList).2 with f|f
   .rw[show(wK x.cps.toList)=((wK x.cps.toList).1,(wK x.cps.toList).2) from rfl,f,c.fold hw];exact hm
   .rw[show(wK x.cps.toList)=((wK x.cps.toList).1,(wK x.cps.toList).2) from rfl,f,c.fold hw];exact hm
  .rw[Vy,Vy] at a;rcases qt.mp a with q|q
   .rcases qt.mp q with q|q
    .exact h.nn q
    .exact g2 q
   .exact j q
def TxI.up{m:Nat}{x:qb}(h:TxI ws n x)(k:n<=m):TxI ws m x:=⟨h.l,h.c,h.a,h.nn,zu h.len k⟩
def TxI.wb{x:qb}(h:TxI ws n x):∀w∈L2.wb x,w∈ws:=λw hw=>by
 unfold L2.wb at hw;obtain⟨b,a⟩:=qr.mp hw;have ne:w≠Str.empty:=λz=>by rw[z] at a;exact absurd a (by decide +kernel)
 rcases qt.mp b with q|q
 .exact(h.l w q).resolve_left ne
 .have q:=qk.mp q;rcases h.c with⟨_,e⟩|⟨_,e⟩
  .exact absurd (q.trans e) ne
  .rw[q];exact e
def G0:∀(xs acc:qe),acc.Nodup->(xs.foldl YY acc).Nodup
 |[],_,h=>h
 |x::xs,acc,h=>by
  rw[zy];refine G0 xs _ ?_;unfold YY;split
  .exact h
  .rename_i c
   rw[zW];refine⟨h,by simp,λa d b f e=>?_⟩;rw[qk.mp f] at e;exact c (e▸d)
def bE(xs:qe):(WX xs).Nodup:=G0 xs [] zB
def CZ:∀{xs ys:qe},xs.Nodup->(∀x∈xs,x∈ys)->xs.length<=ys.length
 |[],_,_,_=>za _
 |x::xs,ys,a,h=>by
  rw[zK] at a;have b:=h x (qy ..);have:xs.length<=(ys.erase x).length:=CZ a.2 λz hz=>(List.mem_erase_of_ne (λ(e:z=x)=>a.1 (by rw[<-e];exact hz))).mpr (h z (qH _ hz));rw[List.length_erase_of_mem b] at this;have:0<ys.length:=List.length_pos_of_mem b;rw[qX];omega
end
def B6{k:Nat}(h:k<n):ixN n (k:Int)=some k:=by
 unfold ixN;rw[qG (by omega),qG (by omega)];rfl
def hS:qb:="abcdefghijklmnopqrstuvwxyz"
structure c9(x:qb):Prop where
 lo:1<=x.length
 hi:x.length<=8
 in_:∀c∈x.cps.toList,c∈hS.cps.toList
def hY:∀k:Nat,k<26->hS.cps.toList[k]?=some (97+k):=by decide +kernel
def OC{i:Int}(h0:0<=i)(b:i<26):nE hS.cps.toList i=some (97+i.toNat)/\97+i.toNat∈hS.cps.toList:=by
 have c:(hS.cps.toList.length:Int)=26:=by decide +kernel
 obtain⟨n,rfl⟩:=jJ h0;have a:n<26:=by omega
 have e:=hY n a;exact⟨by rw[QB e];rfl,qM e⟩
structure gp(z:Nat)(f:Int)(j:Nat)(y:qb):Prop where
 h:c9 y
 len:z+1<=y.length
 at_:y.cps.toList[z]?=some (97+((f+7*(j:Int))%26).toNat)
def Xo(x:qb):x.length=x.cps.toList.length:=by simp[Str.length]
def TX{x:qb}{z:Nat}{c:Nat}(hz:z<=x.length):(Txt.slice x none (some (z:Int))++⟨#[c]⟩++Txt.slice x (some (z:Int)) none).cps.toList=x.cps.toList.take z++[c]++x.cps.toList.drop z:=by
 rw[Yl,Yl,Cu,Cw]
structure aI(hs:qe):Prop where
 n0:1<=hs.length
 n1:hs.length<=4
 nd:hs.Nodup
 h:∀y∈hs,c9 y
def OB{z:Nat}{f:Int}(h:∀j y,ys[j]?=some y->gp z f j y)(h0:1<=ys.length)(b:ys.length<=4):aI ys:=by
 refine⟨h0,b,?_,λy c=>?_⟩
 .show List.Pairwise _ _;rw[List.pairwise_iff_getElem];intro i j d a g e;have a1:=(h j _ (qB a)).at_;have a2:=(h i _ (qB d)).at_;rw[e,a1] at a2;have:=qN a2;omega
 .obtain⟨j,a⟩:=tQ c;exact(h j y a).h
inductive Ic(K:Frag)(vs:qa V)(H:Hp)(Q:VK)(E:XK):Prop
 |mk:∀(st sc:qc)(ls:qa Int)(m:Nat),vs=[.ref st,.int m]->nG K H st sc ls->ls.length<=63->1<=m->m<=4->(∀(l:qc)(xs:qe) H',H l=none->aI xs->xs.length=m->H' l=some (.lst (xs.map V.str))->SX st H H'->nG K H' st sc ls->Q (.ref l) H')->Ic K vs H Q E
def nG.put{a:Hp}{l:qc}{ls:qa Int}(h:nG K H st sc ls)(h0:zN K a sc (ls.map V.int))(d:a l=none)(n:l≠st):nG K (upd H l o) st sc ls:=by
 obtain⟨⟨f,c,e,b⟩,g⟩:=h;exact⟨⟨f,c,by rw[Qa n.symm];exact e,b⟩,Np h0 d g λc o i e=>by rw[Qa i];exact e⟩
def Pq(F:zT K Z9 Z9 GI a.iI fd)(T:Txt K mg a)(N:YC K a):QQ P w K mg base j6 3 a.iI fd [Za,Jj] (Ic K):=by
 obtain⟨fdW,kI,mz⟩:=N.kI;obtain⟨fdN,zh,zO⟩:=N.zh;have mI:=@Of P w K mg base a _ kI T N;have zP:=@Wh P w K mg base a _ zh T;refine F.ok U4 (λcdv A outer s H vs Q E hr h=>?_)
 .obtain⟨st,sc,ls,m,rfl,O,L,m1,m4,k⟩:=h;have iB:QG 2 _:=hr;have zL:QG 1 _:=hr.mono;refine⟨_,(Qd (Qs (i:=2) U4.nd Qp)
   (Qd (Qs (i:=3) U4.nd (Ql mI iB rfl T.pe kI.kp mz .nil Qm (zg (pv 0) (zg (pv 2) (zg Qi Qf)))))
   (Qd (Qs (i:=4) U4.nd (QT YG (Ql zP zL rfl T.jj zh.kp zO .nil Qm (zg (pv 0) Qf)) (QT Uk (QC Wi rfl T.vI zX (zg (pv 3) Qf)) Qi)))
   (Qd (Qs (i:=5) U4.nd (QT YG (Ql zP zL rfl T.jj zh.kp zO .nil Qm (zg (pv 0) Qf)) Qi))
   (Qd (Qs (i:=6) U4.nd (Yy QA))
   (Qd (YW zo rfl (AM rfl T.sU (zg (pv 1) Qf)) (Q8 (i:=7) U4.nd) (Qe (Qy (V5 plainAttrs_list zZ z5 Uj (pv 6) (zg (QT Uv (QT Uv (Xd Mg (pv 3) KC (Xy (pv 4))) (Qw TN (pv 2) (QT YG (QT Uk (pv 5) (QT SI Qi (pv 7))) Qi))) (Xd Mg (pv 3) (Xy (pv 4)) KC)) Qf)))))
   (Qd (QU (Qt Ue (QT YG (Ql zP zL rfl T.jj zh.kp zO .nil Qm (zg (pv 0) Qf)) Qi) Qi) (Qe (Gk (Xd Mg (Qw QX (pv 6) Qi) KC (Xy (QT Uk (pv 4) Qi))) (AN (pv 6) Qi W7))) QD)
   (Qe (Qu (pv 6)))))))))),?_⟩
  refine⟨_,U,_,U,st,sc,ls,hS,7,U,O,L,by decide,by decide,(by decide +kernel),(by decide +kernel),λb H1 M x1 R=>?_⟩;have hb1:=M.lo;have hb7:b.length<=7:=by have:=M.hi;omega
  refine⟨_,U,st,sc,ls,U,R,L,λS H2 r20 r21 x2 X=>⟨_,U,b,U,Ya ((by omega)),_,_,U,U,_,_,U,U,(by omega),?_⟩⟩;have z0:=zA S (b:=(b.length:Int)+1) (by omega);have z1:=zq S (b:=(b.length:Int)+1) (by omega);generalize S%((b.length:Int)+1)=zz at z0 z1;obtain⟨z,rfl⟩:=jJ z0;have hz:z<=b.length:=by omega
  refine⟨_,U,st,sc,ls,U,X,L,λr3 H3 r30 r31 x3 C=>⟨_,_,U,U,cC,?_⟩⟩;have D:=(x1.trans x2).trans x3;refine⟨za _,λl H4 v s4 e4=>?_⟩;have Y:=C.of s4;have Z:=D.trans (SX.of s4);have lst:l≠st:=λq=>by obtain⟨_,e⟩:=C.lst;rw[q,e] at v;cases v
  have r:H l=none:=by
   cases e:H l with
   |none=>rfl
   |some o=>rw[D _ _ lst e] at v;cases v
  have lH:∀c o,H c=some o->c≠l:=λc o e=>Qb e r;generalize r3%26=f;have mk:∀i:Nat,gp z f i (Txt.slice b none (some (z:Int))++⟨#[97+((f+7*(i:Int))%26).toNat]⟩++Txt.slice b (some (z:Int)) none):=λi=>by
   obtain⟨_,p⟩:=OC (i:=(f+7*(i:Int))%26) (zA _ (by decide)) (zq _ (by decide));have B:=TX (x:=b) (z:=z) (c:=97+((f+7*(i:Int))%26).toNat) hz;have g:(Txt.slice b none (some (z:Int))++⟨#[97+((f+7*(i:Int))%26).toNat]⟩++Txt.slice b (some (z:Int)) none).length=b.length+1:=by
    rw[Xo,B,qz,qz,q0,yq,qS,<-Xo];omega
   refine⟨⟨by omega,by omega,λd hd=>?_⟩,by omega,?_⟩
   .rw[B] at hd;rcases qt.mp hd with q|q
    .rcases qt.mp q with q|q
     .exact M.in_ _ (vn q)
     .rw[qk.mp q];exact p
    .exact M.in_ _ (List.mem_of_mem_drop q)
   .have t:b.cps.toList.length=b.length:=(Xo b).symm;rw[B,yO,lY (by rw[q0];omega),q0,v7 (by omega),Nat.sub_self];rfl
  refine⟨_,U,_,U,by omega,by omega,E3 (n:=(m:Int).toNat) (λi σ G=>∃(o7:Option V)(ys:qe),σ=[some (.ref st),some (.int m),some (.str hS),some (.str b),some (.int (z:Int)),some (.int f),some (.ref l),o7]/\ys.length=i/\(∀j y,ys[j]?=some y->gp z f j y)/\G l=some (.lst (ys.map V.str))/\SX st H G/\nG K G st sc ls) ⟨none,[],U,U,λj y h=>(by cases h),e4,Z,Y⟩ ?_ ?_⟩
  .rintro i σ G hi ⟨o7,ys,rfl,g,t,I,J,u⟩;obtain⟨hc,_⟩:=OC (i:=(f+7*(0+(i:Int)))%26) (zA _ (by decide)) (zq _ (by decide));have sl1:(Txt.slice b none (some (z:Int))).length<=8:=zu (Rm b z) (by omega);have sl2:(Txt.slice b (some (z:Int)) none).length<=8:=by rw[Xo,Cw,yq,<-Xo];omega
   refine⟨_,U,.inl ⟨U,_,zN.of I⟩,_,U,_,U,_,U,b,U,Ya ((by omega)),_,U,_,U,_,U,_,_,U,U,.inl ⟨by decide,by decide⟩,_,_,U,U,_,_,U,U,cC,hS,_,_,U,U,(by decide +kernel),hc,?_⟩;refine⟨_,_,U,U,(by rw[FN];exact Ya ((by omega))),?_⟩;refine⟨_,U,_,U,_,U,b,U,Ya ((by omega)),?_⟩;refine⟨_,_,U,U,(by rw[OR,FN];exact Ya ((by omega))),?_⟩;refine⟨l,_,_,U,U,I,(by rw[qh];exact QF (by omega)),?_⟩;refine⟨_,ys++[_],U,by rw[qz,g];rfl,λj y p=>?_,by rw[Qc,qJ];rfl,λc o n e=>by rw[Qa (lH c o e)];exact J c o n e,u.put O.sq r lst⟩;rcases Nat.lt_or_ge j ys.length with h|h
   .rw[mS h] at p;exact t j y p
   .rw[lY h] at p;have:j-ys.length=0:=by
     rcases Nat.eq_zero_or_pos (j-ys.length) with q|q
     .exact q
     .rw[kL (by rw[qS];omega)] at p;cases p
    rw[this] at p;have ej:j=i:=by omega
    have p:=qN p;rw[<-p,ej,show(0:Int)+(i:Int)=(i:Int) from Int.zero_add _];exact mk i
  .rintro σ G ⟨o7,ys,rfl,g,t,e5,x05,sa5⟩;have g:ys.length=m:=by omega
   refine⟨_,U,st,sc,ls,U,sa5,L,λr6 H6 r60 r61 x6 I=>⟨_,_,U,U,zi_2,U,_,U,?_⟩⟩;have e6:=x6 _ _ lst e5;have J:=x05.trans x6;refine MQ (λ_=>?_) (λ_=>⟨_,U,k l ys H6 r (OB t (by omega) (by omega)) g e6 J I⟩);obtain⟨y,u,rfl⟩:∃y u,ys=y::u:=by
    cases ys with
    |nil=>exact absurd g (by show ¬0=m;omega)
    |cons y u=>exact⟨y,u,U⟩
   have B:=t 0 y rfl;refine⟨_,U,l,_,_,_,U,U,zN.of e6,QB (j:=0) rfl,_,U,_,_,U,U,_,U,y,U,Ya ((by have:=B.h.hi;omega)),?_⟩;refine⟨_,U,l,_,_,0,U,U,e6,B6 (k:=0) (by rw[qh,qX];omega),?_⟩;have hc:(Txt.slice y none (some ((z:Int)+1))).cps.toList=y.cps.toList.take (z+1):=Cu y (z+1);have hlen:=B.len;have hcl:(Txt.slice y none (some ((z:Int)+1))).length=z+1:=by rw[Xo,hc,q0,<-Xo];omega
   refine⟨_,U,k l (Txt.slice y none (some ((z:Int)+1))::u) _ r (OB (z:=z) (f:=f) (λj x p=>?_) (by rw[qX];omega) (by rw[qX] at g⊢;omega)) g Qc (λc o n e=>by rw[Qa (lH c o e)];exact J c o n e) (I.put O.sq r lst)⟩
   cases j with
   |zero=>
    have p:=qN p;subst p;refine⟨⟨by omega,by have:=B.h.hi;omega,λc h=>B.h.in_ c (vn (by rw[hc] at h;exact h))⟩,by omega,?_⟩;rw[hc,List.getElem?_take_of_lt (by omega)];exact B.at_
   |succ j=>exact t (j+1) x p
abbrev wdK(a wl nl pl cl b:qc):qa (Key×V):=[(Sum.inr ZN,.ref a),(Sum.inr Zq,.ref wl),(Sum.inr Zl,.ref nl),(Sum.inr Jf,.ref pl),(Sum.inr ZL,.ref cl),(Sum.inr Ji,.ref b)]
section
variable {hl wl nl pl cl ml:qc}
def XR:some (V.ref hl)=Qv (wdK hl wl nl pl cl ml) (Sum.inr ZN):=by rfl
def Cc:some (V.ref wl)=Qv (wdK hl wl nl pl cl ml) (Sum.inr Zq):=by rfl
def GA:some (V.ref nl)=Qv (wdK hl wl nl pl cl ml) (Sum.inr Zl):=by rfl
def BV:some (V.ref pl)=Qv (wdK hl wl nl pl cl ml) (Sum.inr Jf):=by rfl
def Ar:some (V.ref cl)=Qv (wdK hl wl nl pl cl ml) (Sum.inr ZL):=by rfl
def Gf:some (V.ref ml)=Qv (wdK hl wl nl pl cl ml) (Sum.inr Ji):=by rfl
end
structure WA where
 st:qc
 sc:qc
 s:qc
 hl:qc
 wl:qc
 nl:qc
 pl:qc
 cl:qc
 ml:qc
structure WD where
 hands:qe
 words:qe
 names:qe
 kM:qa Int
 jy:qa Int
 nums:qa Int
def WA.all(A:WA):qa qc:=[A.st,A.s,A.hl,A.wl,A.nl,A.pl,A.cl,A.ml]
def WA.ch(A:WA):qa qc:=[A.st,A.nl,A.pl,A.cl,A.ml]
structure vu(K:Frag)(H:Hp)(A:WA)(ls:qa Int)(D:WD):Prop where
 sa:nG K H A.st A.sc ls
 e:H A.s=some (.dK (wdK A.hl A.wl A.nl A.pl A.cl A.ml))
 eh:H A.hl=some (.lst (D.hands.map V.str))
 ew:H A.wl=some (.lst (D.words.map V.str))
 en:H A.nl=some (.lst (D.names.map V.str))
 ep:H A.pl=some (.lst (D.kM.map V.int))
 ec:H A.cl=some (.lst (D.jy.map V.int))
 em:H A.ml=some (.lst (D.nums.map V.int))
 nd:A.all.Nodup
 scn:(∀G:Hp,zN K G A.sc (ls.map V.int))\/A.sc∉A.all
def dig(n:Int):qb:=Str.ofString (toString n)
def NmS(a:qe)(x:qb):Prop:=∃h∈a,∃n:Nat,1<=n/\n<=9/\x=h++dig n
structure rG(n:Nat)(D:WD):Prop where
 hs:aI D.hands
 w0:0<D.words.length
 w5:D.words.length<=5
 ws:∀w∈D.words,Uz w/\w.length<=18
 pl:D.kM.length=D.hands.length
 cl:D.jy.length=D.hands.length
 ml:D.nums.length=D.hands.length
 pb:∀p∈D.kM,0<=p/\p<=8
 nm:∀x∈D.names,∃(k:Nat)(h:qb)(p:Int)(n:Nat),D.hands[k]?=some h/\D.kM[k]?=some p/\1<=n/\(n:Int)<=p/\x=h++dig n
 nl:D.names.length<=n
def rG.nms(h:rG n D):∀x∈D.names,NmS D.hands x:=λx a=>by
 obtain⟨k,hd,p,m,b,c,d,f,e⟩:=h.nm x a;have:=(h.pb p (qM c)).2;exact⟨hd,qM b,m,d,by omega,e⟩
def Bj:∀n:Nat,n<10->(dig n).cps.size=1/\((dig n).cps.toList.all λc=>decide (c∈aZ.cps.toList))=true:=by decide +kernel
def cq:∀n:Nat,n<10->∀m:Nat,m<10->dig n=dig m->n=m:=by decide +kernel
def hZ:(hS.cps.toList.all λc=>decide (c∈aZ.cps.toList))=true:=by decide +kernel
def NmS.word{b:qe}{x:qb}(h:NmS b x)(ok:aI b):Uz x:=by
 obtain⟨y,d,n,g,i,rfl⟩:=h;have a:=ok.h y d;obtain⟨e,f⟩:=Bj n (by omega);have j:=a.lo;have k:=a.hi;have l:(dig n).length=1:=e;refine⟨by rw[WT];omega,by rw[WT];omega,λc hc=>?_⟩;rw[Vy] at hc;rcases qt.mp hc with q|q
 .exact qo (jc.mp hZ c (a.in_ c q))
 .exact qo (jc.mp f c q)
def fC{x:qb}{m:Nat}(c:n<10)(hm:m<10)(h:x++dig n=y++dig m):x=y/\n=m:=by
 have e:(x++dig n).cps.toList=(y++dig m).cps.toList:=by rw[h]
 rw[Vy,Vy] at e;have d:(dig n).cps.toList.length=1:=by have:=(Bj n c).1;rw[zf];exact this
 have g:(dig m).cps.toList.length=1:=by have:=(Bj m hm).1;rw[zf];exact this
 obtain⟨i,j⟩:=List.append_inj' e (by rw[d,g]);have f:∀{a b:qb},a.cps.toList=b.cps.toList->a=b:=λ{a b} q=>by
  cases a;cases b;congr 1;exact Array.toList_inj.mp q
 exact⟨f i,cq n c m hm (f j)⟩
section
variable {K:Frag}{H H':Hp}{A:WA}{ls:qa Int}{D:WD}
def vu.ne{a:qc}(h:vu K H A ls D)(d:A.all[i]?=some a)(f:A.all[j]?=some b)(c:i≠j):a≠b:=λe=>by
 subst e;exact c (List.getElem?_inj (qW.mp d).1 h.nd |>.mp (d.trans f.symm))
def vu.sx(h:vu K H A ls D)(x:SX A.st H H')(sa:nG K H' A.st A.sc ls):vu K H' A ls D:=
 ⟨sa,x _ _ (h.ne (i:=1) (j:=0) rfl rfl (by decide)) h.e,x _ _ (h.ne (i:=2) (j:=0) rfl rfl (by decide)) h.eh,x _ _ (h.ne (i:=3) (j:=0) rfl rfl (by decide)) h.ew,x _ _ (h.ne (i:=4) (j:=0) rfl rfl (by decide)) h.en,x _ _ (h.ne (i:=5) (j:=0) rfl rfl (by decide)) h.ep,x _ _ (h.ne (i:=6) (j:=0) rfl rfl (by decide)) h.ec,x _ _ (h.ne (i:=7) (j:=0) rfl rfl (by decide)) h.em,h.nd,h.scn⟩
def vu.same(h:vu K H A ls D)(s:Qj H H'):vu K H' A ls D:=h.sx (SX.of s) (h.sa.of s)
def nG.upd{l:qc}(h:nG K H st sc ls)(n:l≠st)(m:(∀G:Hp,zN K G sc (ls.map V.int))\/sc≠l):nG K (upd H l o) st sc ls:=by
 obtain⟨⟨a,c,e,b⟩,d⟩:=h;refine⟨⟨a,c,by rw[Qa n.symm];exact e,b⟩,?_⟩;rcases m with m|m
 .exact m _
 rcases d with(h|⟨f,h⟩)|h
 .exact .inl (.inl (by rw[Qa m];exact h))
 .exact .inl (.inr ⟨f,by rw[Qa m];exact h⟩)
 .exact .inr h
def vu.QcB{a:qc}(h:vu K H A ls D)(b:A.all[i]?=some a):(∀G:Hp,zN K G A.sc (ls.map V.int))\/A.sc≠a:=h.scn.imp id λq e=>q (e▸qM b)
def vu.putN(h:vu K H A ls D):vu K (L2.upd H A.nl (.lst (xs.map V.str))) A ls {D with names:=xs}:=
 ⟨h.sa.upd (h.ne (i:=4) (j:=0) rfl rfl (by decide)) (h.QcB (i:=4) rfl),by rw[Qa (h.ne (i:=1) (j:=4) rfl rfl (by decide))];exact h.e,by rw[Qa (h.ne (i:=2) (j:=4) rfl rfl (by decide))];exact h.eh,by rw[Qa (h.ne (i:=3) (j:=4) rfl rfl (by decide))];exact h.ew,Qc,by rw[Qa (h.ne (i:=5) (j:=4) rfl rfl (by decide))];exact h.ep,by rw[Qa (h.ne (i:=6) (j:=4) rfl rfl (by decide))];exact h.ec,by rw[Qa (h.ne (i:=7) (j:=4) rfl rfl (by decide))];exact h.em,h.nd,h.scn⟩
def vu.putP{xs:qa Int}(h:vu K H A ls D):vu K (L2.upd H A.pl (.lst (xs.map V.int))) A ls {D with kM:=xs}:=
 ⟨h.sa.upd (h.ne (i:=5) (j:=0) rfl rfl (by decide)) (h.QcB (i:=5) rfl),by rw[Qa (h.ne (i:=1) (j:=5) rfl rfl (by decide))];exact h.e,by rw[Qa (h.ne (i:=2) (j:=5) rfl rfl (by decide))];exact h.eh,by rw[Qa (h.ne (i:=3) (j:=5) rfl rfl (by decide))];exact h.ew,by rw[Qa (h.ne (i:=4) (j:=5) rfl rfl (by decide))];exact h.en,Qc,by rw[Qa (h.ne (i:=6) (j:=5) rfl rfl (by decide))];exact h.ec,by rw[Qa (h.ne (i:=7) (j:=5) rfl rfl (by decide))];exact h.em,h.nd,h.scn⟩
def vu.putC{xs:qa Int}(h:vu K H A ls D):vu K (L2.upd H A.cl (.lst (xs.map V.int))) A ls {D with jy:=xs}:=
 ⟨h.sa.upd (h.ne (i:=6) (j:=0) rfl rfl (by decide)) (h.QcB (i:=6) rfl),by rw[Qa (h.ne (i:=1) (j:=6) rfl rfl (by decide))];exact h.e,by rw[Qa (h.ne (i:=2) (j:=6) rfl rfl (by decide))];exact h.eh,by rw[Qa (h.ne (i:=3) (j:=6) rfl rfl (by decide))];exact h.ew,by rw[Qa (h.ne (i:=4) (j:=6) rfl rfl (by decide))];exact h.en,by rw[Qa (h.ne (i:=5) (j:=6) rfl rfl (by decide))];exact h.ep,Qc,by rw[Qa (h.ne (i:=7) (j:=6) rfl rfl (by decide))];exact h.em,h.nd,h.scn⟩
def vu.putM{xs:qa Int}(h:vu K H A ls D):vu K (L2.upd H A.ml (.lst (xs.map V.int))) A ls {D with nums:=xs}:=
 ⟨h.sa.upd (h.ne (i:=7) (j:=0) rfl rfl (by decide)) (h.QcB (i:=7) rfl),by rw[Qa (h.ne (i:=1) (j:=7) rfl rfl (by decide))];exact h.e,by rw[Qa (h.ne (i:=2) (j:=7) rfl rfl (by decide))];exact h.eh,by rw[Qa (h.ne (i:=3) (j:=7) rfl rfl (by decide))];exact h.ew,by rw[Qa (h.ne (i:=4) (j:=7) rfl rfl (by decide))];exact h.en,by rw[Qa (h.ne (i:=5) (j:=7) rfl rfl (by decide))];exact h.ep,by rw[Qa (h.ne (i:=6) (j:=7) rfl rfl (by decide))];exact h.ec,Qc,h.nd,h.scn⟩
def KX(xs:qa qc)(H H':Hp):Prop:=∀c o,c∉xs->H c=some o->H' c=some o
def KX.trans{xs:qa qc}{a:Hp}(x:KX xs H H')(y:KX xs H' a):KX xs H a:=λc o n e=>y c o n (x c o n e)
def KX.of{xs:qa qc}(s:Qj H H'):KX xs H H':=λc o _ e=>s c o e
def KX.sx{xs:qa qc}(a:st∈xs)(s:SX st H H'):KX xs H H':=λc o n e=>s c o (λz=>n (z▸a)) e
def KX.upd{xs:qa qc}{l:qc}{a:HO}(b:l∈xs):KX xs H (L2.upd H l a):=λc o n e=>by rw[Qa (λ(z:c=l)=>n (by rw[z];exact b))];exact e
end
def CO(r:Int)(h:0<ws.length):∃w,nE (ws.map V.str) (r%((ws.map V.str).length:Nat))=some (.str w)/\w∈ws:=by
 obtain⟨v,a,b,_⟩:=DK (xs:=ws.map V.str) (i:=r%((ws.map V.str).length:Nat)) (zA _ (by rw[qh];omega)) (zq _ (by rw[qh];omega));obtain⟨w,hw,rfl⟩:=qj.mp b;exact⟨w,a,hw⟩
def Am{α:Type}{f:α->V}{xs:qa α}{k:Nat}{x:α}(h:xs[k]?=some x):nE (xs.map f) (k:Int)=some (f x):=QB (by rw[qQ,h];rfl)
inductive HN(K:Frag)(vs:qa V)(H:Hp)(Q:VK)(E:XK):Prop
 |mk:∀(A:WA)(ls:qa Int)(D:WD)(n:Nat),vs=[.ref A.st,.ref A.s]->vu K H A ls D->rG n D->ls.length<=63->(∀(x:qb) H',x∈D.words->SX A.st H H'->vu K H' A ls D->Q (.str x) H')->HN K vs H Q E
inductive HR(K:Frag)(vs:qa V)(H:Hp)(Q:VK)(E:XK):Prop
 |mk:∀(A:WA)(ls:qa Int)(D:WD)(n:Nat),vs=[.ref A.st,.ref A.s]->vu K H A ls D->rG n D->ls.length<=63->(∀(x:qb) H',TxI D.words 60 x->SX A.st H H'->vu K H' A ls D->Q (.str x) H')->HR K vs H Q E
inductive NC(K:Frag)(vs:qa V)(H:Hp)(Q:VK)(E:XK):Prop
 |mk:∀(A:WA)(ls:qa Int)(D:WD)(hd:qb),vs=[.ref A.st,.ref A.s,.str hd]->vu K H A ls D->hd∈D.hands->aI D.hands->(∀x∈D.names,NmS D.hands x)->ls.length<=63->(∀(x:qb) H',NmS D.hands x->SX A.st H H'->vu K H' A ls D->Q (.str x) H')->NC K vs H Q E
def A7{i:Int}(h0:0<=i)(a:i<=1000):i.natAbs.log2<1920:=by
 have h:i.natAbs<=1000:=by omega
 rcases Nat.eq_zero_or_pos i.natAbs with e|e
 .rw[e];decide
 .exact zl (Nat.log2_lt (by omega) |>.mpr (xM h (by decide:1000<2^10))) (by decide)
def fT(a:0<=z)(b:z<4):∃g:qb,nE [V.str " ",V.str " ",V.str ", ",V.str "-"] z=some (.str g)/\Gap g:=by
 obtain⟨n,rfl⟩:=jJ a;have c:n<4:=Int.ofNat_lt.mp b
 match n,c with
 |0,_=>exact⟨_,U,.inl rfl⟩
 |1,_=>exact⟨_,U,.inl rfl⟩
 |2,_=>exact⟨_,U,.inr (.inl rfl)⟩
 |3,_=>exact⟨_,U,.inr (.inr rfl)⟩
def dm{w:qb}(a:0<=z)(b:z<3):∃y:qb,nE [V.str w,V.str w,V.str ⟨w.cps.map PyProof.Rows.up1⟩] z=some (.str y)/\Wrt w y:=by
 obtain⟨n,rfl⟩:=jJ a;have c:n<3:=Int.ofNat_lt.mp b
 match n,c with
 |0,_=>exact⟨_,U,.inl rfl⟩
 |1,_=>exact⟨_,U,.inl rfl⟩
 |2,_=>exact⟨_,U,.inr rfl⟩
def KJ(F:zT K ZP ZP Xr a.wg fd)(T:Txt K mg a)(g:YC K a):QQ P w K mg base j6 2 a.wg fd [Za,Zn] (HN K):=by
 obtain⟨i,zh,zO⟩:=g.zh;have zP:=@Wh P w K mg base a _ zh T;refine F.ok Ft (λj A outer s H vs Q E d h=>?_)
 .obtain⟨W,ls,D,n,rfl,hw,ok,l,k⟩:=h;have zL:QG 1 _:=d;have e:=Q9 d;refine⟨_,(Qe (Qu (Qw QX (Qz e (pv 1) Qp) (QT YG (Ql zP zL rfl T.jj zh.kp zO .nil Qm (zg (pv 0) Qf)) (QC Ym rfl T.vI zX (zg (Qz e (pv 1) Qp) Qf)))))),?_⟩;refine⟨_,U,W.s,_,U,.inl ⟨_,Sum.inr Zq,.inl hw.e,U,Cc⟩,_,U,W.st,W.sc,ls,U,hw.sa,l,λm H1 o p f c=>?_⟩;have b:=hw.sx f c;obtain⟨y,q,hm⟩:=CO (ws:=D.words) m ok.w0;exact⟨_,U,W.s,_,U,.inl ⟨_,Sum.inr Zq,.inl b.e,U,Cc⟩,W.wl,_,U,.inl (zN.of b.ew),_,_,U,U,(by rw[qh];have:=ok.w0;omega),W.wl,_,_,_,U,U,zN.of b.ew,q,k y H1 hm f b⟩
def Pm(F:zT K Jp Jp BW a.mu fd)(T:Txt K mg a)(o:YC K a):QQ P w K mg base j6 3 a.mu fd [Za,Zn] (HR K):=by
 obtain⟨fdN,zh,zO⟩:=o.zh;have zP:=@Wh P w K mg base a _ zh T;obtain⟨fdW,zY,yo⟩:=o.zY;have yp:=@KJ P w K mg base a _ zY T o;refine F.ok Wm (λcdv A outer s H vs Q E hr h=>?_)
 .obtain⟨W,ls,D,n,rfl,hw,ok,l,k⟩:=h;have yw:QG 2 _:=hr;have zL:QG 1 _:=yw.mono;refine⟨_,(Qd (Qs (i:=2) Wm.nd Qp)
   (Qd (YW zo rfl (AM rfl T.sU (zg (QT YG (Ql zP zL rfl T.jj zh.kp zO .nil Qm (zg (pv 0) Qf)) Qi) Qf)) (Q8 (i:=3) Wm.nd) (Qd (Qs (i:=4) Wm.nd (Ql yp yw rfl T.vo zY.kp yo .nil Qm (zg (pv 0) (zg (pv 1) Qf))))
   (Qd (Qs (i:=5) Wm.nd (Qw QX (Yy (Qh Qp (Qh Qp (Qh Qp (Qh Qp QA))))) (QT YG (Ql zP zL rfl T.jj zh.kp zO .nil Qm (zg (pv 0) Qf)) Qi)))
   (Qe (Qs (i:=2) Wm.nd (QT Uv (QT Uv (pv 2) (Qw QX (Yy (Qh (pv 5) (Qh Qp QA))) (Ui KS rfl T.Qak boot_int (zg (UI Ue (pv 2) Qp) Qf)))) (Qw QX (Yy (Qh (pv 4) (Qh (pv 4) (Qh (CS plainAttrs_str PySem.F.slot_str_upper PySem.F.type_str_upper Ts (pv 4)) QA)))) (QT YG (Ql zP zL rfl T.jj zh.kp zO .nil Qm (zg (pv 0) Qf)) Qi))))))))
   (Qe (Qu (pv 2))))),?_⟩
  refine⟨_,U,W.st,W.sc,ls,U,hw.sa,l,λr H1 r10 r11 x1 t=>⟨_,_,U,U,dh,?_⟩⟩;have u:=hw.sx x1 t;have z0:=zA r (b:=4) (by decide);have z1:=zq r (b:=4) (by decide);generalize r%4=zz at z0 z1;refine⟨_,U,by omega,by omega,E3 (n:=zz.toNat) (λi σ G=>∃(x:qb)(v B C:Option V),σ=[some (.ref W.st),some (.ref W.s),some (.str x),v,B,C]/\TxI D.words (20*i) x/\SX W.st H G/\vu K G W ls D) ⟨"",none,none,none,U,TxI.nil _,x1,u⟩ ?_ ?_⟩
  .rintro i σ G hi ⟨x,v,B,C,rfl,m,I,J⟩;have i3:i<3:=by omega
   have xl:=m.len;refine⟨_,U,_,U,W,ls,D,n,U,J,ok,l,λL H2 hm x2 M=>?_⟩;obtain⟨c,N⟩:=ok.ws L hm;refine⟨aK,λp H3 np s3 e3=>?_⟩;refine⟨_,U,W.st,W.sc,ls,U,(M.same s3).sa,l,λr4 H4 r40 r41 O R=>?_⟩;obtain⟨g,hg,gg⟩:=fT (zA r4 (b:=4) (by decide)) (zq r4 (b:=4) (by decide));have S:p≠W.st:=λz=>by obtain⟨_,q⟩:=M.sa.lst;rw[z,q] at np;cases np
   refine⟨_,_,U,U,dh,p,_,_,_,U,U,zN.of (O _ _ S e3),hg,?_⟩;have h4:=(M.same s3).sx O R;refine⟨_,U,_,U,VZ,λp5 H5 np5 s5 e5=>?_⟩;have X:=h4.same s5;refine⟨_,U,U,.inr ⟨_,U,?_⟩⟩;have d:∃g':qb,nE [V.str g,V.str ""] (if decide (V.str x=V.str "")=true then 1 else 0)=some (.str g')/\((x=("":qb)/\g'=("":qb))\/(x≠("":qb)/\Gap g'))/\g'.length<=2:=by
    rw[Ut];by_cases e:x=("":qb)
    .rw[qu e,qG rfl];exact⟨"",U,.inl ⟨e,U⟩,by decide +kernel⟩
    .rw[qF e];exact⟨g,U,.inr ⟨e,gg⟩,gg.asc.2.2⟩
   obtain⟨g',Y,Z,gl⟩:=d;refine⟨p5,_,_,_,U,U,zN.of e5,Y,_,_,U,U,Ya ((by omega)),?_⟩;refine⟨_,U,_,U,_,U,U,L,U,U,c.asc,(by omega),Hv,λp6 H6 f s6 e6=>?_⟩;refine⟨_,U,W.st,W.sc,ls,U,(X.same s6).sa,l,λr7 H7 r70 r71 x7 sa7=>?_⟩;obtain⟨y,hy,wy⟩:=dm (w:=L) (zA r7 (b:=3) (by decide)) (zq r7 (b:=3) (by decide));have j:p6≠W.st:=λz=>by obtain⟨_,q⟩:=X.sa.lst;rw[z,q] at f;cases f
   have yl:=(wy.asc c).2.2;refine⟨_,_,U,U,aL,p6,_,_,_,U,U,zN.of (x7 _ _ j e6),hy,_,_,U,U,(by rw[WT];exact Ya ((by omega))),?_⟩;exact⟨_,_,_,_,U,m.step Z c N hm wy,(((((I.trans x2).trans (SX.of s3)).trans O).trans (SX.of s5)).trans (SX.of s6)).trans x7,(X.same s6).sx x7 sa7⟩
  .rintro σ G ⟨x,v,B,C,rfl,m,I,J⟩;exact⟨_,U,k x G (m.up (by omega)) I J⟩
def IQ(F:zT K JZ JZ GH a.iG fd)(T:Txt K mg a)(Z:YC K a):QQ P w K mg base j6 2 a.iG fd [Za,Zn,Jz] (NC K):=by
 obtain⟨fdN,zh,zO⟩:=Z.zh;have zP:=@Wh P w K mg base a _ zh T;refine F.ok Mi (λcdv A outer s H vs Q E C h=>?_)
 .obtain⟨W,ls,D,hd,rfl,hw,R,ok,l,B,k⟩:=h;have zL:QG 1 _:=C;have I:=Q9 C;have m:=C.units;refine⟨_,(Qd (QU (PW.pt (XJ (Qt (SM m) (Qz I (pv 1) Qp) (Yy QA)) (V0 (Qt Ue (QT YG (Ql zP zL rfl T.jj zh.kp zO .nil Qm (zg (pv 0) Qf)) Qi) Qi)))) (Qe (Qu (QT Uv (pv 2) (Ui Ak rfl T.sy boot_str (zg (QT Uk Qi (QT YG (Ql zP zL rfl T.jj zh.kp zO .nil Qm (zg (pv 0) Qf)) Qi)) Qf))))) QD)
   (Qe (Qu (Qw QX (Qz I (pv 1) Qp) (QT YG (Ql zP zL rfl T.jj zh.kp zO .nil Qm (zg (pv 0) Qf)) (QC Ym rfl T.vI zX (zg (Qz I (pv 1) Qp) Qf))))))),?_⟩
  have d:∀(r:Int)(G:Hp),SX W.st H G->vu K G W ls D->Q (.str (hd++dig (1+r%9))) G:=λr G J L=>by
   have S:=zA r (b:=9) (by decide);have X:=zq r (b:=9) (by decide);refine k _ G ⟨hd,R,(1+r%9).toNat,by omega,by omega,?_⟩ J L;rw[jV (by omega)]
  have mk:∀(G:Hp),SX W.st H G->vu K G W ls D->(∃x:V,([some (.ref W.st),some (.ref W.s),some (.str hd)]:St)[2]?=some (some x)/\True):=λ_ _ _=>⟨_,U,trivial⟩;have hdl:=(ok.h hd R).hi;refine⟨_,U,W.s,_,U,.inl ⟨_,Sum.inr Zl,.inl hw.e,U,GA⟩,za _,λp H1 np s1 e1=>?_⟩;have e:=hw.same s1;have n:SX W.st H H1:=SX.of s1;have asc:∀x∈D.names,wN x:=λx hx=>((l x hx).word ok).asc;refine⟨.list (D.names.map PyData.str),.list (([]:qe).map PyData.str),.lst (zN.of e.en) (GX _),.lst (zN.of e1) .nil,YO asc,U,?_⟩;rw[LG];have fin:∀(r:Int)(G:Hp),SX W.st H G->vu K G W ls D->0<D.names.length->∃y,nE (D.names.map V.str) (r%((D.names.map V.str).length:Nat))=some (.str y)/\Q (.str y) G:=λr G J L h0=>by
   obtain⟨y,M,hm⟩:=CO (ws:=D.names) r h0;exact⟨y,M,k y G (l y hm) J L⟩
  by_cases N:D.names=[]
  .rw[qu N];refine⟨_,U,Yj ?_⟩;refine⟨_,U,_,U,W.st,W.sc,ls,U,e.sa,B,λc Y o t u i=>?_⟩;have S:=zA c (b:=9) (by decide);have X:=zq c (b:=9) (by decide);refine⟨_,_,U,U,gv,_,_,U,U,_,U,A7 (by omega) (by omega),_,_,U,U,?_,d c Y (n.trans u) (e.sx u i)⟩;obtain⟨g,_⟩:=Bj (1+c%9).toNat (by omega);rw[jV (by omega)] at g;have g:(Str.ofString (toString (1+c%9))).length=1:=g;exact Ya ((by omega))
  .have n0:0<D.names.length:=List.length_pos_iff.mpr N;rw[qF N];refine⟨_,U,QV ?_⟩;refine⟨_,U,W.st,W.sc,ls,U,e.sa,B,λc Y o t u i=>?_⟩;refine⟨_,_,U,U,zi_6,U,_,U,?_⟩;have f:=e.sx u i;have v:=n.trans u;refine MQ (λ_=>?_) (λ_=>?_)
   .refine⟨_,U,_,U,W.st,W.sc,ls,U,f.sa,B,λc O o t z j=>?_⟩;have S:=zA c (b:=9) (by decide);have X:=zq c (b:=9) (by decide);refine⟨_,_,U,U,gv,_,_,U,U,_,U,A7 (by omega) (by omega),_,_,U,U,?_,d c O (v.trans z) (f.sx z j)⟩;obtain⟨g,_⟩:=Bj (1+c%9).toNat (by omega);rw[jV (by omega)] at g;have g:(Str.ofString (toString (1+c%9))).length=1:=g;exact Ya ((by omega))
   .refine⟨_,U,W.s,_,U,.inl ⟨_,Sum.inr Zl,.inl f.e,U,GA⟩,_,U,W.st,W.sc,ls,U,f.sa,B,λS O X r31 z j=>?_⟩;have g:=f.sx z j;obtain⟨y,M,q⟩:=fin S O (v.trans z) g n0;exact⟨_,U,W.s,_,U,.inl ⟨_,Sum.inr Zl,.inl g.e,U,GA⟩,W.nl,_,U,.inl (zN.of g.en),_,_,U,U,(by rw[qh];omega),W.nl,_,_,_,U,U,zN.of g.en,M,q⟩
structure OV(ws:qe)(p:LD):Prop where
 g:XQ p.s p.t p.b p.d p.an
 t:TxI ws 60 p.t
 b:TxI ws 60 p.b
def rG.put{k:Nat}{hd:qb}{p:Int}(h:rG n D)(m:D.hands[k]?=some hd)(f:D.kM[k]?=some p)(t:p<8):rG (n+1) {D with names:=D.names++[hd++dig (p+1)],kM:=D.kM.set k (p+1)}:=by
 have pb:=h.pb p (qM f);have g:k<D.kM.length:=(qW.mp f).1;refine⟨h.hs,h.w0,h.w5,h.ws,by show(D.kM.set k (p+1)).length=_;rw[rR];exact h.pl,h.cl,h.ml,λq o=>?_,λx r=>?_,by show(D.names++[_]).length<=_;rw[qz,qS];have:=h.nl;omega⟩
 .rcases List.mem_or_eq_of_mem_set o with z|z
  .exact h.pb q z
  .rw[z];omega
 .show ∃(a:Nat)(h':qb)(c:Int)(b:Nat),D.hands[a]?=some h'/\(D.kM.set k (p+1))[a]?=some c/\1<=b/\(b:Int)<=c/\x=h'++dig b;rcases qt.mp r with z|z
  .obtain⟨a,h',c,b,i,d,j,s,l⟩:=h.nm x z;by_cases e:a=k
   .subst e;rw[f] at d;have d:=qN d;exact⟨a,h',p+1,b,i,by rw[jg g],j,by omega,l⟩
   .exact⟨a,h',c,b,i,by rw[uR (xJ e)];exact d,j,s,l⟩
  .refine⟨k,hd,p+1,(p+1).toNat,m,by rw[jg g],by omega,by omega,?_⟩;rw[qk.mp z,jV (by omega)]
def rG.new{k:Nat}{hd:qb}{p:Int}(h:rG n D)(c:D.hands[k]?=some hd)(d:D.kM[k]?=some p)(q:p<8):¬(hd++dig (p+1))∈D.names:=λe=>by
 have pb:=h.pb p (qM d);obtain⟨f,h',g,i,j,a,r,s,b⟩:=h.nm _ e;have l:=h.pb g (qM a);have b:hd++dig ((p+1).toNat:Int)=h'++dig i:=by rw[jV (by omega)];exact b
 obtain⟨m,t⟩:=fC (by omega) (by omega) b;have o:k=f:=(List.getElem?_inj (qW.mp c).1 h.hs.nd).mp (by rw[c,j,m]);rw[<-o,d] at a;have:=qN a;omega
inductive Ny(K:Frag)(vs:qa V)(H:Hp)(Q:VK)(E:XK):Prop
 |mk:∀(A:WA)(ls:qa Int)(D:WD)(n k:Nat)(hd:qb)(p:Int),vs=[.ref A.st,.ref A.s,.int k]->vu K H A ls D->rG n D->n<100->D.hands[k]?=some hd->D.kM[k]?=some p->p<8->ls.length<=63 ->
   (∀(q u:qc)(l:LD) H',H' q=some (.tup [.str Zy,.str (hd++dig (p+1)),.ref u])->H' u=some (.tup [.str l.s,.str l.t,.str l.b,.int l.d,.str l.an])->OV D.words l->KX A.ch H H'->vu K H' A ls {D with names:=D.names++[hd++dig (p+1)],kM:=D.kM.set k (p+1)}->Q (.ref q) H')->Ny K vs H Q E
def gc{a:qe}{x nm:qb}(b:NmS a x)(c:NmS a y)(d:NmS a nm)(e:0<=z)(f:z<5):∃an:qb,nE [V.str "",V.str "",V.str x,V.str y,V.str nm] z=some (.str an)/\(an=("":qb)\/NmS a an):=by
 obtain⟨n,rfl⟩:=jJ e;have g:n<5:=Int.ofNat_lt.mp f
 match n,g with
 |0,_=>exact⟨_,U,.inl rfl⟩
 |1,_=>exact⟨_,U,.inl rfl⟩
 |2,_=>exact⟨_,U,.inr b⟩
 |3,_=>exact⟨_,U,.inr c⟩
 |4,_=>exact⟨_,U,.inr d⟩
def SU(F:zT K ZY ZY Kw a.uo fd)(T:Txt K mg a)(j:YC K a):QQ P w K mg base j6 4 a.uo fd [Za,Zn,Ju] (Ny K):=by
 obtain⟨fdN,zh,zO⟩:=j.zh;have zP:=@Wh P w K mg base a _ zh T;obtain⟨fdW,zY,yo⟩:=j.zY;have yp:=@KJ P w K mg base a _ zY T j;obtain⟨fdT,iy,Qah⟩:=j.iy;have Qar:=@Pm P w K mg base a _ iy T j;obtain⟨fdM,yi,vP⟩:=j.yi;have vQ:=@IQ P w K mg base a _ yi T j;refine F.ok VP (λcdv A outer s H vs Q E hr h=>?_)
 .obtain⟨W,ls,D,n,d,hd,p,rfl,hw,ok,hn,M,I,h8,l,k⟩:=h;have wW:QG 3 _:=hr;have yw:QG 2 _:=wW.mono;have kQ:QG 2 _:=wW.mono;have zL:QG 1 _:=wW.mono;have m:=Q9 hr;refine⟨_,(Qd (Qs (i:=3) VP.nd (Qw QX (Qz m (pv 1) Qp) (pv 2)))
   (Qd (Gk (QT Uk (Qw QX (Qz m (pv 1) Qp) (pv 2)) Qi) (AN (Qz m (pv 1) Qp) (pv 2) W7))
   (Qd (Qs (i:=4) VP.nd (QT Uv (pv 3) (Ui Ak rfl T.sy boot_str (zg (Qw QX (Qz m (pv 1) Qp) (pv 2)) Qf))))
   (Qd (Qy (V5 plainAttrs_list zZ z5 Uj (Qz m (pv 1) Qp) (zg (pv 4) Qf)))
   (Qd (Qs (i:=5) VP.nd (Qw QX (Qz m (pv 1) Qp) (QT YG (Ql zP zL rfl T.jj zh.kp zO .nil Qm (zg (pv 0) Qf)) (QC Ym rfl T.vI zX (zg (Qz m (pv 1) Qp) Qf)))))
   (Qd (Qs (i:=6) VP.nd (Qw QX (Yy (Qh Qp (Qh Qp (Qh (Ql vQ kQ rfl T.wU yi.kp vP .nil Qm (zg (pv 0) (zg (pv 1) (zg (pv 3) Qf)))) (Qh (Ql vQ kQ rfl T.wU yi.kp vP .nil Qm (zg (pv 0) (zg (pv 1) (zg (pv 5) Qf)))) (Qh (pv 4) QA)))))) (QT YG (Ql zP zL rfl T.jj zh.kp zO .nil Qm (zg (pv 0) Qf)) Qi)))
   (Qe (Qu (Yq (Qh Qp (Qh (pv 4) (Qh (Yq (Qh (Ql yp yw rfl T.vo zY.kp yo .nil Qm (zg (pv 0) (zg (pv 1) Qf))) (Qh (Ql Qar wW rfl T.tU iy.kp Qah .nil Qm (zg (pv 0) (zg (pv 1) Qf))) (Qh (Ql Qar wW rfl T.tU iy.kp Qah .nil Qm (zg (pv 0) (zg (pv 1) Qf))) (Qh Qi (Qh (pv 6) QA)))))) QA)))))))))))),?_⟩
  have pb:=ok.pb p (qM I);have y:d<D.kM.length:=(qW.mp I).1;have o:=qM M;have f:=ok.put M I h8;have r:NmS D.hands (hd++dig (p+1)):=⟨hd,o,(p+1).toNat,by omega,by omega,by rw[jV (by omega)]⟩;refine⟨_,U,W.s,_,U,.inl ⟨_,Sum.inr ZN,.inl hw.e,U,XR⟩,_,U,W.hl,_,_,_,U,U,zN.of hw.eh,Am M,?_⟩;refine⟨_,U,W.s,_,U,.inl ⟨_,Sum.inr Jf,.inl hw.e,U,BV⟩,_,U,W.pl,_,_,_,U,U,zN.of hw.ep,Am I,_,_,U,U,?_⟩;refine⟨_,U,W.s,_,U,.inl ⟨_,Sum.inr Jf,.inl hw.e,U,BV⟩,_,U,W.pl,_,_,d,U,U,hw.ep,B6 (by rw[qh];exact y),?_⟩;have t:vu K (upd H W.pl (.lst ((D.kM.map V.int).set d (.int (p+1))))) W ls {D with kM:=D.kM.set d (p+1)}:=by
   have e:(D.kM.map V.int).set d (.int (p+1))=(D.kM.set d (p+1)).map V.int:=by rw[List.map_set]
   rw[e];exact hw.putP
  have k1:KX W.ch H (upd H W.pl (.lst ((D.kM.map V.int).set d (.int (p+1))))):=KX.upd (by simp[WA.ch]);show Ua _ _ _ _ (upd H W.pl (.lst ((D.kM.map V.int).set d (.int (p+1)))));generalize upd H W.pl (.lst ((D.kM.map V.int).set d (.int (p+1))))=H1 at t k1⊢;have N:(D.kM.set d (p+1))[d]?=some (p+1):=by rw[jg y]
  obtain⟨O,_⟩:=Bj (p+1).toNat (by omega);rw[jV (by omega)] at O;have O:(Str.ofString (toString (p+1))).length=1:=O;have hdl:=(ok.hs.h hd o).hi;refine⟨_,U,_,U,W.s,_,U,.inl ⟨_,Sum.inr Jf,.inl t.e,U,BV⟩,_,U,W.pl,_,_,_,U,U,zN.of t.ep,Am N,_,U,A7 (by omega) (by omega),_,_,U,U,Ya ((by omega)),?_⟩;refine⟨_,U,W.s,_,U,.inl ⟨_,Sum.inr Zl,.inl t.e,U,GA⟩,.inl ⟨U,_,zN.of t.en⟩,_,U,W.nl,_,_,U,U,t.en,(by rw[qh];exact QF (by have:=ok.nl;show D.names.length<=1000;omega)),?_⟩;have J:vu K (upd H1 W.nl (.lst (D.names.map V.str++[V.str (hd++dig (p+1))]))) W ls {D with names:=D.names++[hd++dig (p+1)],kM:=D.kM.set d (p+1)}:=by
   have e:D.names.map V.str++[V.str (hd++dig (p+1))]=(D.names++[hd++dig (p+1)]).map V.str:=by rw[qJ];rfl
   rw[e];exact t.putN
  have k2:KX W.ch H (upd H1 W.nl (.lst (D.names.map V.str++[V.str (hd++dig (p+1))]))):=k1.trans (KX.upd (by simp[WA.ch]));show Ua _ _ _ _ (upd H1 W.nl (.lst (D.names.map V.str++[V.str (hd++dig (p+1))])));generalize upd H1 W.nl (.lst (D.names.map V.str++[V.str (hd++dig (p+1))]))=H2 at J k2⊢;show Ua _ _ _ [some (.ref W.st),some (.ref W.s),some (.int d),some (.str hd),some (.str (hd++dig (p+1))),none,none] H2;have c:W.st∈W.ch:=by simp[WA.ch]
  refine⟨_,U,W.s,_,U,.inl ⟨_,Sum.inr ZN,.inl J.e,U,XR⟩,_,U,W.st,W.sc,ls,U,J.sa,l,λr3 H3 r30 r31 x3 R=>?_⟩;have L:=J.sx x3 R;have k3:=k2.trans (KX.sx c x3);obtain⟨oh,S,X⟩:=CO (ws:=D.hands) r3 ok.hs.n0;refine⟨_,U,W.s,_,U,.inl ⟨_,Sum.inr ZN,.inl L.e,U,XR⟩,W.hl,_,U,.inl (zN.of L.eh),_,_,U,U,(by rw[qh];have:=ok.hs.n0;show(0:Int)<(D.hands.length:Int);omega),W.hl,_,_,_,U,U,zN.of L.eh,S,?_⟩;refine⟨_,U,_,U,_,U,W,ls,_,hd,U,L,o,ok.hs,f.nms,l,λx4 H4 Y s4 w4=>?_⟩;refine⟨_,U,_,U,_,U,W,ls,_,oh,U,w4,X,ok.hs,f.nms,l,λx5 H5 Z s5 w5=>?_⟩;refine⟨_,U,aJ,λpa H6 B s6 e6=>?_⟩;have w6:=w5.same s6;refine⟨_,U,W.st,W.sc,ls,U,w6.sa,l,λr7 H7 r70 r71 s7 sa7=>?_⟩;obtain⟨an,han,C⟩:=gc Y Z r (zA r7 (b:=5) (by decide)) (zq r7 (b:=5) (by decide));have past:pa≠W.st:=λz=>by obtain⟨_,q⟩:=w5.sa.lst;rw[z,q] at B;cases B
  refine⟨_,_,U,U,zi_5,pa,_,_,_,U,U,zN.of (s7 _ _ past e6),han,?_⟩;have w7:=w6.sx s7 sa7;have k7:=(((k3.trans (KX.sx c s4)).trans (KX.sx c s5)).trans (KX.of s6)).trans (KX.sx c s7);refine⟨_,U,_,U,_,U,W,ls,_,n+1,U,w7,f,l,λsd H8 hsd s8 w8=>?_⟩;refine⟨_,U,_,U,W,ls,_,n+1,U,w8,f,l,λtt H9 g s9 w9=>?_⟩;refine⟨_,U,_,U,W,ls,_,n+1,U,w9,f,l,λbb H10 v s10 w10=>?_⟩;refine⟨_,U,aJ,λu H11 nu G e11=>?_⟩;refine⟨Hv,λq H12 nq x e12=>?_⟩;have k12:=((((k7.trans (KX.sx c s8)).trans (KX.sx c s9)).trans (KX.sx c s10)).trans (KX.of G)).trans (KX.of x);refine k q u ⟨sd,tt,bb,5,an⟩ H12 e12 (x _ _ e11) ⟨⟨(ok.ws sd hsd).1,g.a,g.len,g.nn,v.a,zu v.len (by decide),by show(0:Int)<=5;decide,by show(5:Int)<=9999;decide,?_⟩,g,v⟩ k12 ((w10.same G).same x);exact C.imp id λz=>z.word ok.hs
structure Stp(D:WD)(k:Nat)(c:Int)(hd:qb)(d:Dd)(D':WD):Prop where
 hd_:D.hands[k]?=some hd
 hands:D'.hands=D.hands
 words:D'.words=D.words
 ck:∃c0,D.jy[k]?=some c0/\c0<c/\D'.jy=D.jy.set k c
 nm:NmS D.hands d.nm
 pt:∀nm p,d=.put nm p->nm∉D.names/\D'.names=D.names++[nm]/\OV D.words p
 np:YU d=false->D'.names=D.names/\dOk D.words D.words d
inductive El(K:Frag)(vs:qa V)(H:Hp)(Q:VK)(E:XK):Prop
 |mk:∀(A:WA)(ls:qa Int)(D:WD)(n k:Nat),vs=[.ref A.st,.ref A.s,.int k]->vu K H A ls D->rG n D->n<100->k<D.hands.length->ls.length<=63 ->
   (∀(x q u:qc)(c num:Int)(hd:qb)(d:Dd)(D':WD) H',H' x=some (.tup [.int c,.str hd,.int num,.ref q])->DU H' q u d->KX A.ch H H'->vu K H' A ls D'->rG (n+1) D'->Stp D k c hd d D'->Q (.ref x) H')->El K vs H Q E
def rG.up(h:rG n D):rG (n+1) D:=⟨h.hs,h.w0,h.w5,h.ws,h.pl,h.cl,h.ml,h.pb,h.nm,Nat.le_succ_of_le h.nl⟩
def Mx(F:zT K ZI ZI Vv a.vp fd)(T:Txt K mg a)(I:YC K a):QQ P w K mg base j6 5 a.vp fd [Za,Zn,Ju] (El K):=by
 obtain⟨fdN,zh,zO⟩:=I.zh;have zP:=@Wh P w K mg base a _ zh T;obtain⟨fdW,zY,yo⟩:=I.zY;have yp:=@KJ P w K mg base a _ zY T I;obtain⟨fdT,uC,QaS⟩:=I.uC;have QaX:=@SU P w K mg base a _ uC T I;obtain⟨fdM,yi,vP⟩:=I.yi;have vQ:=@IQ P w K mg base a _ yi T I;refine F.ok Y1 (λcdv A outer s H vs Q E hr h=>?_)
 .obtain⟨W,ls,D,n,f,rfl,hw,ok,hn,O,r,k⟩:=h;have wc:QG 4 _:=hr;have yw:QG 2 _:=wc.mono;have kQ:QG 2 _:=wc.mono;have zL:QG 1 _:=wc.mono;have B:=Q9 hr;obtain⟨hd,R⟩:∃hd,D.hands[f]?=some hd:=⟨_,qB O⟩;obtain⟨pp,Z⟩:∃p,D.kM[f]?=some p:=⟨_,qB (by rw[ok.pl];exact O)⟩;obtain⟨c0,hc⟩:∃c,D.jy[f]?=some c:=⟨_,qB (by rw[ok.cl];exact O)⟩;obtain⟨m0,hm⟩:∃c,D.nums[f]?=some c:=⟨_,qB (by rw[ok.ml];exact O)⟩;have hkC:f<D.jy.length:=by rw[ok.cl];exact O
  have hkM:f<D.nums.length:=by rw[ok.ml];exact O
  have l:W.st∈W.ch:=by simp[WA.ch]
  obtain⟨t1,h1,v⟩:∃t,PSs (Hr j6 P w K mg base Bq ZI (Qg Vv) a.vp cdv A outer s H E).nox ((YH Vv).drop 4) t /\
   ∀(kd:Int)(q u:qc)(d:Dd)(H1:Hp)(g:WD),DU H1 q u d->KX W.ch H H1->vu K H1 W ls g->rG (n+1) g->g.hands=D.hands->g.words=D.words->g.jy=D.jy->g.nums=D.nums->NmS D.hands d.nm ->
    (∀nm p,d=.put nm p->nm∉D.names/\g.names=D.names++[nm]/\OV D.words p)->(YU d=false->g.names=D.names/\dOk D.words D.words d) ->
    t {nx:=λ_ H'=>Q .non H',rt:=Q} [some (.ref W.st),some (.ref W.s),some (.int f),some (.int kd),some (.str hd),some (.ref q)] H1:=by
   refine⟨_,(Qd (Gk (QT Uk (QT Uk (Qw QX (Qz B (pv 1) Qp) (pv 2)) Qi) (QT YG (Ql zP zL rfl T.jj zh.kp zO .nil Qm (zg (pv 0) Qf)) Qi)) (AN (Qz B (pv 1) Qp) (pv 2) W7))
    (Qd (Gk (QT Uk (Qw QX (Qz B (pv 1) Qp) (pv 2)) Qi) (AN (Qz B (pv 1) Qp) (pv 2) W7))
    (Qe (Qu (Yq (Qh (Qw QX (Qz B (pv 1) Qp) (pv 2)) (Qh (pv 4) (Qh (Qw QX (Qz B (pv 1) Qp) (pv 2)) (Qh (pv 5) QA))))))))),?_⟩
   intro kd q u d H1 g du k1 S j q1 q2 q3 q4 nmd hpt hnp;have hc1:g.jy[f]?=some c0:=by rw[q3];exact hc
   have hm1:g.nums[f]?=some m0:=by rw[q4];exact hm
   have C:f<g.jy.length:=by rw[q3];exact hkC
   have G:f<g.nums.length:=by rw[q4];exact hkM
   refine⟨_,U,W.s,_,U,.inl ⟨_,Sum.inr ZL,.inl S.e,U,Ar⟩,_,U,W.cl,_,_,_,U,U,zN.of S.ec,Am hc1,_,_,U,U,_,U,W.st,W.sc,ls,U,S.sa,r,λr2 J r20 r21 X L=>?_⟩;have M:=S.sx X L;have z0:=zA r2 (b:=3) (by decide);refine⟨_,_,U,U,aL,_,_,U,U,?_⟩;generalize hcv:c0+1+r2%3=m;have cgt:c0<m:=by omega
   refine⟨_,U,W.s,_,U,.inl ⟨_,Sum.inr ZL,.inl M.e,U,Ar⟩,_,U,W.cl,_,_,f,U,U,M.ec,B6 (by rw[qh];exact C),?_⟩;have y:vu K (upd J W.cl (.lst ((g.jy.map V.int).set f (.int m)))) W ls {g with jy:=g.jy.set f m}:=by
    have e:(g.jy.map V.int).set f (.int m)=(g.jy.set f m).map V.int:=by rw[List.map_set]
    rw[e];exact M.putC
   have k3:KX W.ch H (upd J W.cl (.lst ((g.jy.map V.int).set f (.int m)))):=(k1.trans (KX.sx l X)).trans (KX.upd (by simp[WA.ch]));have t3:∀c xs,H1 c=some (.tup xs)->(upd J W.cl (.lst ((g.jy.map V.int).set f (.int m)))) c=some (.tup xs):=λc xs e=>by
    rw[Qa (λz=>by rw[z,S.ec] at e;cases e)];exact X c _ (λz=>by obtain⟨_,q⟩:=S.sa.lst;rw[z,q] at e;cases e) e
   show Ua _ _ _ _ (upd J W.cl (.lst ((g.jy.map V.int).set f (.int m))));generalize upd J W.cl (.lst ((g.jy.map V.int).set f (.int m)))=Y at y k3 t3⊢;have hcc:(g.jy.set f m)[f]?=some m:=by rw[jg C]
   refine⟨_,U,W.s,_,U,.inl ⟨_,Sum.inr Ji,.inl y.e,U,Gf⟩,_,U,W.ml,_,_,_,U,U,zN.of y.em,Am hm1,_,_,U,U,?_⟩;refine⟨_,U,W.s,_,U,.inl ⟨_,Sum.inr Ji,.inl y.e,U,Gf⟩,_,U,W.ml,_,_,f,U,U,y.em,B6 (by rw[qh];exact G),?_⟩;have o:vu K (upd Y W.ml (.lst ((g.nums.map V.int).set f (.int (m0+1))))) W ls {g with jy:=g.jy.set f m,nums:=g.nums.set f (m0+1)}:=by
    have e:(g.nums.map V.int).set f (.int (m0+1))=(g.nums.set f (m0+1)).map V.int:=by rw[List.map_set]
    rw[e];exact y.putM
   have N:KX W.ch H (upd Y W.ml (.lst ((g.nums.map V.int).set f (.int (m0+1))))):=k3.trans (KX.upd (by simp[WA.ch]));have t4:∀c xs,H1 c=some (.tup xs)->(upd Y W.ml (.lst ((g.nums.map V.int).set f (.int (m0+1))))) c=some (.tup xs):=λc xs e=>by
    have:=t3 c xs e;rw[Qa (λz=>by rw[z,y.em] at this;cases this)];exact this
   show V2.nx _ _ (upd Y W.ml (.lst ((g.nums.map V.int).set f (.int (m0+1)))));generalize upd Y W.ml (.lst ((g.nums.map V.int).set f (.int (m0+1))))=H4 at o N t4⊢;have hmm:(g.nums.set f (m0+1))[f]?=some (m0+1):=by rw[jg G]
   refine⟨_,U,W.s,_,U,.inl ⟨_,Sum.inr ZL,.inl o.e,U,Ar⟩,_,U,W.cl,_,_,_,U,U,zN.of o.ec,Am hcc,_,U,_,U,W.s,_,U,.inl ⟨_,Sum.inr Ji,.inl o.e,U,Gf⟩,_,U,W.ml,_,_,_,U,U,zN.of o.em,Am hmm,_,U,aK,λx H5 nx s5 e5=>?_⟩;refine k x q u m (m0+1) hd d _ H5 e5 ⟨s5 _ _ (t4 _ _ du.e),λnm p e=>s5 _ _ (t4 _ _ (du.p nm p e))⟩ (N.trans (KX.of s5)) (o.same s5) ?_ ⟨R,q1,q2,⟨c0,hc,cgt,by show g.jy.set f m=_;rw[q3]⟩,nmd,hpt,hnp⟩;exact⟨j.hs,j.w0,j.w5,j.ws,j.pl,by show(g.jy.set f m).length=_;rw[rR];exact j.cl,by show(g.nums.set f (m0+1)).length=_;rw[rR];exact j.ml,j.pb,j.nm,j.nl⟩
  refine⟨_,(Qd (Qs (i:=3) Y1.nd (QT YG (Ql zP zL rfl T.jj zh.kp zO .nil Qm (zg (pv 0) Qf)) Qi))
   (Qd (Qs (i:=4) Y1.nd (Qw QX (Qz B (pv 1) Qp) (pv 2)))
   (Qd (Qs (i:=5) Y1.nd (Yq (Qh Qp (Qh (Ql vQ kQ rfl T.wU yi.kp vP .nil Qm (zg (pv 0) (zg (pv 1) (zg (pv 4) Qf)))) QA))))
   (Qd (QU (PW.pt (V1 (Qt IG (pv 3) Qi) (Vo (Qt IG (Qw QX (Qz B (pv 1) Qp) (pv 2)) Qi)))) (Qe (Qs (i:=5) Y1.nd (Ql QaX wc rfl T.QaK uC.kp QaS .nil Qm (zg (pv 0) (zg (pv 1) (zg (pv 2) Qf)))))) (Qe (QU (Qt IG (pv 3) Qi) (Qe (Qs (i:=5) Y1.nd (Yq (Qh Qp (Qh (Ql vQ kQ rfl T.wU yi.kp vP .nil Qm (zg (pv 0) (zg (pv 1) (zg (pv 4) Qf)))) (Qh (Ql yp yw rfl T.vo zY.kp yo .nil Qm (zg (pv 0) (zg (pv 1) Qf))) QA)))))) (Qe (QU (Qt IG (pv 3) Qi) (Qe (Qs (i:=5) Y1.nd (Yq (Qh Qp (Qh (Ql vQ kQ rfl T.wU yi.kp vP .nil Qm (zg (pv 0) (zg (pv 1) (zg (pv 4) Qf)))) (Qh (Ql yp yw rfl T.vo zY.kp yo .nil Qm (zg (pv 0) (zg (pv 1) Qf))) (Qh (UI SK (QT YG (Ql zP zL rfl T.jj zh.kp zO .nil Qm (zg (pv 0) Qf)) Qi) Qi) QA))))))) QD))))) h1)))),?_⟩
  refine⟨_,U,W.st,W.sc,ls,U,hw.sa,r,λr2 J r20 r21 X L=>⟨_,_,U,U,gw,?_⟩⟩;have M:=hw.sx X L;have k2:KX W.ch H J:=KX.sx l X;refine⟨_,U,W.s,_,U,.inl ⟨_,Sum.inr ZN,.inl M.e,U,XR⟩,_,U,W.hl,_,_,_,U,U,zN.of M.eh,Am R,?_⟩;have j:=qM R;refine⟨_,U,_,U,_,U,W,ls,D,hd,U,M,j,ok.hs,ok.nms,r,λnm3 Y G x3 y=>?_⟩;refine⟨VZ,λq4 H4 nq4 s4 e4=>?_⟩;have o:=y.same s4;have N:=(k2.trans (KX.sx l x3)).trans (KX.of s4);generalize r2%12=kd;refine⟨_,U,_,_,U,U,_,U,MQ (λh4=>⟨_,U,W.s,_,U,.inl ⟨_,Sum.inr Jf,.inl o.e,U,BV⟩,_,U,W.pl,_,_,_,U,U,zN.of o.ep,Am Z,_,_,U,U,_,U,MQ (λS=>?_) (λ_=>?_)⟩) (λ_=>?_)⟩
  .refine⟨_,U,_,U,_,U,W,ls,D,n,f,hd,pp,U,o,ok,hn,R,Z,qo S,r,λC u5 l5 H5 e5 g m k5 w5=>?_⟩;have S:=qo S;have pb:=ok.pb pp (qM Z);refine v kd C u5 (.put _ l5) H5 _ ⟨e5,λnm p e=>by cases e;exact g⟩ (N.trans k5) w5 (ok.put R Z S) rfl rfl rfl rfl ⟨hd,j,(pp+1).toNat,by omega,by omega,by rw[jV (by omega)];rfl⟩ (λnm p e=>?_) (λz=>by cases z);cases e;exact⟨ok.new R Z S,U,m⟩
  all_goals
   refine⟨_,U,_,_,U,U,_,U,MQ (λ_=>?_) (λ_=>?_)⟩
   .refine⟨_,U,_,U,_,U,W,ls,D,hd,U,o,j,ok.hs,ok.nms,r,λm H5 g x5 w5=>⟨_,U,_,U,W,ls,D,n,U,w5,ok,r,λwd H6 C x6 w6=>⟨Hv,λq7 H7 nq7 s7 e7=>?_⟩⟩⟩;exact v kd q7 q7 (.place m wd) H7 D ⟨e7,λ_ _ z=>nomatch z⟩ (((N.trans (KX.sx l x5)).trans (KX.sx l x6)).trans (KX.of s7)) (w6.same s7) ok.up rfl rfl rfl rfl g (λ_ _ z=>nomatch z) (λ_=>⟨U,C⟩)
   .refine⟨_,U,_,_,U,U,_,U,MQ (λ_=>?_) (λ_=>?_)⟩
    .refine⟨_,U,_,U,_,U,W,ls,D,hd,U,o,j,ok.hs,ok.nms,r,λm H5 g x5 w5=>⟨_,U,_,U,W,ls,D,n,U,w5,ok,r,λwd H6 C x6 w6=>⟨_,U,W.st,W.sc,ls,U,w6.sa,r,λr8 H8 r80 r81 x8 sa8=>⟨_,_,U,U,aL,_,_,U,U,aK,λq7 H7 nq7 s7 e7=>?_⟩⟩⟩⟩;exact v kd q7 q7 (.mark m wd _) H7 D ⟨e7,λ_ _ z=>nomatch z⟩ ((((N.trans (KX.sx l x5)).trans (KX.sx l x6)).trans (KX.sx l x8)).trans (KX.of s7)) ((w6.sx x8 sa8).same s7) ok.up rfl rfl rfl rfl g (λ_ _ z=>nomatch z) (λ_=>⟨U,C⟩)
    .exact v kd q4 q4 (.drop nm3) H4 D ⟨e4,λ_ _ z=>nomatch z⟩ N o ok.up rfl rfl rfl rfl G (λ_ _ z=>nomatch z) (λ_=>⟨U,trivial⟩)
inductive Nq(K:Frag)(vs:qa V)(H:Hp)(Q:VK)(E:XK):Prop
 |mk:∀(st sc:qc)(ls:qa Int)(m:Nat),vs=[.ref st,.int m]->nG K H st sc ls->ls.length<=63->1<=m->m<=4 ->
   (∀(A:WA)(D:WD) H',A.st=st->A.sc=sc->(∀c∈A.all,c≠st->H c=none)->SX st H H'->vu K H' A ls D->rG 0 D->D.hands.length=m->D.names=[]->(∀c∈D.jy,c=0)->Q (.ref A.s) H')->Nq K vs H Q E
def ah(m:Nat):(List.replicate m [V.int 0]).flatten=(List.replicate m (0:Int)).map V.int:=by
 induction m with
 |zero=>rfl
 |succ m a=>rw[yf,j9,a,yf,qU];rfl
def dS{ls:qa Int}(h:nG K H st sc ls):(∀G:Hp,zN K G sc (ls.map V.int))\/(sc≠st/\∀l,H l=none->sc≠l):=by
 obtain⟨⟨n,c,e,_⟩,b⟩:=h;rcases b with(h|⟨o,h⟩)|h
 .refine .inr ⟨λz=>?_,λl a=>Qb h a⟩;rw[z,e] at h;have h:=HO.lst.inj (qN h)
  match ls,h with
  |_::_::_,h=>exact nomatch (qE (qE h).2).1
 .refine .inr ⟨λz=>?_,λl a=>Qb h a⟩;rw[z,e] at h;cases h
 .exact .inl λ_=>.inr h
def Hw{x:qb}(h:WIn aZ 18 x):Uz x/\x.length<=18:=by
 have:=h.hi;exact⟨⟨h.lo,by omega,h.in_⟩,by omega⟩
def HD:Uz JO/\Uz Zp/\Uz "then":=by
 refine⟨⟨by decide +kernel,by decide +kernel,λc hc=>?_⟩,⟨by decide +kernel,by decide +kernel,λc hc=>?_⟩,⟨by decide +kernel,by decide +kernel,λc hc=>?_⟩⟩
 all_goals (revert c;decide +kernel)
def SO(F:zT K JJ JJ GF a.iD fd)(T:Txt K mg a)(FF:YC K a):QQ P w K mg base j6 4 a.iD fd [Za,Jj] (Nq K):=by
 obtain⟨fdH,iP,Qby⟩:=FF.iP;have QbE:=@Pq P w K mg base a _ iP T FF;obtain⟨fdW,kI,mz⟩:=FF.kI;have mI:=@Of P w K mg base a _ kI T FF;refine F.ok Wr (λcdv A outer s H vs Q E hr h=>?_)
 .obtain⟨st,sc,ls,m,rfl,sa,hl,m1,m4,k⟩:=h;have pk:QG 3 _:=hr;have iB:QG 2 _:=pk.mono;have hu:=Q9 hr;refine⟨_,(Qd (Qs (i:=2) Wr.nd (Ql QbE pk rfl T.Qbn iP.kp Qby .nil Qm (zg (pv 0) (zg (pv 1) Qf))))
   (Qd (Qs (i:=3) Wr.nd Qp)
   (Qd (Qs (i:=4) Wr.nd (Yy (Qh Qp (Qh Qp (Qh (Ql mI iB rfl T.pe kI.kp mz .nil Qm (zg (pv 0) (zg (pv 3) (zg Qi Qf)))) (Qh (Ql mI iB rfl T.pe kI.kp mz .nil Qm (zg (pv 0) (zg (pv 3) (zg Qi Qf)))) (Qh Qp QA)))))))
   (Qd (Qs (i:=5) Wr.nd (Ob (Xb Qp (pv 2) (Xb Qp (pv 4) (Xb Qp (Yy QA) (Xb Qp (QT FL (Yy (Qh Qi QA)) (pv 1)) (Xb Qp (QT FL (Yy (Qh Qi QA)) (pv 1)) N8))))) rfl rfl (by simp) (by decide)))
   (Qd (Yp hu (pv 5) Qp (QT FL (Yy (Qh Qi QA)) (pv 1)) rfl)
   (Qe (Qu (pv 5)))))))),?_⟩
  have hsq:=dS sa;obtain⟨o0,est⟩:=sa.lst;refine⟨_,U,_,U,st,sc,ls,m,U,sa,hl,m1,m4,λb hs H1 nh hok hlen e1 x1 sa1=>?_⟩;have nst:b≠st:=(Qb est nh).symm;refine⟨_,U,_,U,st,sc,ls,aZ,18,U,sa1,hl,by decide,by decide,(by decide +kernel),(by decide +kernel),λw1 H2 hw1 x2 sa2=>?_⟩;refine⟨_,U,_,U,st,sc,ls,aZ,18,U,sa2,hl,by decide,by decide,(by decide +kernel),(by decide +kernel),λw2 H3 hw2 x3 sa3=>?_⟩;refine⟨aJ,λwl M N s4 e4=>?_⟩;have V:=x3 _ _ nst (x2 _ _ nst e1);have y:=s4 _ _ V;have x04:SX st H M:=((x1.trans x2).trans x3).trans (SX.of s4);have sa4:=sa3.of s4;obtain⟨o4,B⟩:=sa4.lst;have nw0:wl≠st:=λz=>by obtain⟨_,q⟩:=sa3.lst;rw[z,q] at N;cases N
  have nwh:wl≠b:=(Qb V N).symm;have fr:∀{G:Hp}{l:qc},SX st H G->(∃o,G st=some o)->G l=none->H l=none:=λ{G l} x hst e=>by
   by_cases z:l=st
   .obtain⟨o,q⟩:=hst;rw[z,q] at e;cases e
   .cases q:H l with
    |none=>rfl
    |some o=>rw[x _ _ z q] at e;cases e
  have nw:H wl=none:=fr ((x1.trans x2).trans x3) (let ⟨o,q⟩:=sa3.lst;⟨_,q⟩) N;intro ss nss;have s5:Qj M (upd M ss (.dK [])):=Qj.zk nss;have e5:(upd M ss (.dK [])) ss=some (.dK []):=Qc;generalize upd M ss (.dK [])=H5 at s5 e5⊢;refine⟨_,U,_,U,za _,λnl H6 nnl s6 e6=>?_⟩;refine⟨Ry,λt1 H7 nt1 s7 e7=>⟨_,U,t1,(m:Int),[.int 0],U,U,e7,by omega,by omega,(by show 1*(m:Int).toNat<=sizeLine;exact Ya ((by omega))),λpl H8 O s8 e8=>?_⟩⟩;refine⟨Ry,λt2 H9 nt2 X e9=>⟨_,U,t2,(m:Int),[.int 0],U,U,e9,by omega,by omega,(by show 1*(m:Int).toNat<=sizeLine;exact Ya ((by omega))),λcl j C s10 e10=>?_⟩⟩;have R:=(s6.trans s7).trans s8;have D:=(R.trans X).trans s10;refine⟨D _ _ e5,[(Sum.inr ZN,.ref b),(Sum.inr Zq,.ref wl),(Sum.inr Zl,.ref nl),(Sum.inr Jf,.ref pl),(Sum.inr ZL,.ref cl)],U,(by show 5<=15;decide),?_⟩;have f:=s5.trans D;have hss10:=D _ _ e5;have S:∀{c:qc}{o:HO},M c=some o->c≠ss:=λe=>Qb e nss;have e11:(upd j ss (.dK (WZ [] [(Sum.inr ZN,.ref b),(Sum.inr Zq,.ref wl),(Sum.inr Zl,.ref nl),(Sum.inr Jf,.ref pl),(Sum.inr ZL,.ref cl)]))) ss=some (.dK [(Sum.inr ZN,.ref b),(Sum.inr Zq,.ref wl),(Sum.inr Zl,.ref nl),(Sum.inr Jf,.ref pl),(Sum.inr ZL,.ref cl)]):=by rw[Qc];rfl
  have r:SX ss j (upd j ss (.dK (WZ [] [(Sum.inr ZN,.ref b),(Sum.inr Zq,.ref wl),(Sum.inr Zl,.ref nl),(Sum.inr Jf,.ref pl),(Sum.inr ZL,.ref cl)]))):=λc o n e=>by rw[Qa n];exact e
  show Ua _ _ _ _ (upd j ss (.dK (WZ [] [(Sum.inr ZN,.ref b),(Sum.inr Zq,.ref wl),(Sum.inr Zl,.ref nl),(Sum.inr Jf,.ref pl),(Sum.inr ZL,.ref cl)])));generalize upd j ss (.dK (WZ [] [(Sum.inr ZN,.ref b),(Sum.inr Zq,.ref wl),(Sum.inr Zl,.ref nl),(Sum.inr Jf,.ref pl),(Sum.inr ZL,.ref cl)]))=H11 at e11 r⊢;refine⟨Ry,λt3 H12 nt3 t e12=>⟨_,U,t3,(m:Int),[.int 0],U,U,e12,by omega,by omega,(by show 1*(m:Int).toNat<=sizeLine;exact Ya ((by omega))),λv I u s13 e13=>?_⟩⟩;have J:=t.trans s13;have QdH:=J _ _ e11;refine⟨_,U,ss,_,U,UN.k (k:=Sum.inr Ji) QdH (by show 5<sizeLine;decide),?_⟩;have e14:(upd I ss (.dK (Ye [(Sum.inr ZN,.ref b),(Sum.inr Zq,.ref wl),(Sum.inr Zl,.ref nl),(Sum.inr Jf,.ref pl),(Sum.inr ZL,.ref cl)] (Sum.inr Ji) (.ref v)))) ss=some (.dK (wdK b wl nl pl cl v)):=by rw[Qc];rfl
  have k14:SX ss I (upd I ss (.dK (Ye [(Sum.inr ZN,.ref b),(Sum.inr Zq,.ref wl),(Sum.inr Zl,.ref nl),(Sum.inr Jf,.ref pl),(Sum.inr ZL,.ref cl)] (Sum.inr Ji) (.ref v)))):=λc o n e=>by rw[Qa n];exact e
  show V2.nx _ _ (upd I ss (.dK (Ye [(Sum.inr ZN,.ref b),(Sum.inr Zq,.ref wl),(Sum.inr Zl,.ref nl),(Sum.inr Jf,.ref pl),(Sum.inr ZL,.ref cl)] (Sum.inr Ji) (.ref v))));generalize upd I ss (.dK (Ye [(Sum.inr ZN,.ref b),(Sum.inr Zq,.ref wl),(Sum.inr Zl,.ref nl),(Sum.inr Jf,.ref pl),(Sum.inr ZL,.ref cl)] (Sum.inr Ji) (.ref v)))=H14 at e14 k14⊢;rw[show((m:Int).toNat)=m from jN m,ah] at e8 e10 e13;have d:∀{c:qc}{o:HO},c≠ss->j c=some o->H14 c=some o:=λn e=>k14 _ _ n (J _ _ (r _ _ n e));have sM:nl≠ss:=(Qb e5 nnl).symm;have sL:pl≠ss:=(Qb (s7 _ _ (s6 _ _ e5)) O).symm;have sO:cl≠ss:=(Qb (X _ _ (R _ _ e5)) C).symm;have sN:v≠ss:=(Qb (t _ _ e11) u).symm;have Qa9:st≠ss:=S B;have Qba:b≠ss:=S y;have Qa8:wl≠ss:=S e4;have f5:∀{c:qc}{o:HO},M c=some o->c≠nl/\c≠pl/\c≠cl/\c≠v:=λ{c o} e=>
   ⟨Qb (s5 _ _ e) nnl,Qb (s7 _ _ (s6 _ _ (s5 _ _ e))) O,Qb (X _ _ (R _ _ (s5 _ _ e))) C,Qb (t _ _ (r _ _ (S e) (f _ _ e))) u⟩
  obtain⟨a1,a2,a3,a4⟩:=f5 B;obtain⟨b1,b2,b3,b4⟩:=f5 y;obtain⟨c1,c2,c3,c4⟩:=f5 e4;have d1:nl≠pl:=Qb (s7 _ _ e6) O;have d2:nl≠cl:=Qb (X _ _ (s8 _ _ (s7 _ _ e6))) C;have Y:j nl=some (.lst []):=s10 _ _ (X _ _ (s8 _ _ (s7 _ _ e6)));have d3:nl≠v:=Qb (t _ _ (r _ _ sM Y)) u;have d4:pl≠cl:=Qb (X _ _ e8) C;have Z:=s10 _ _ (X _ _ e8);have d5:pl≠v:=Qb (t _ _ (r _ _ sL Z)) u;have d6:cl≠v:=Qb (t _ _ (r _ _ sO e10)) u;have pC:∀{c:qc},M c=none->H c=none:=λe=>fr x04 ⟨_,B⟩ e;have dn:∀{G G':Hp}{c:qc},Qj G G'->G' c=none->G c=none:=λs e=>s.free e;have g:H ss=none:=pC nss;have h_nl:H nl=none:=pC (dn s5 nnl);have h_pl:H pl=none:=pC (dn s5 (dn s6 (dn s7 O)));have h_cl:H cl=none:=pC (dn s5 (dn R (dn X C)));have h_ml:H v=none:=pC (by
   cases q:M v with
   |none=>rfl
   |some o=>have:=t _ _ (r _ _ sN (f _ _ q));rw[this] at u;cases u)
  have x14:SX st H H14:=λc o n e=>d (Qb e g) (f _ _ (x04 c o n e));refine⟨_,U,k ⟨st,sc,ss,b,wl,nl,pl,cl,v⟩ ⟨hs,[JO,Zp,w1,w2,"then"],[],List.replicate m 0,List.replicate m 0,List.replicate m 0⟩ H14 rfl rfl (λc hc n=>?_) x14 ⟨?_,e14,d Qba (f _ _ y),d Qa8 (f _ _ e4),d sM Y,d sL Z,d sO e10,k14 _ _ sN e13,?_,?_⟩ ⟨hok,(by show 0<5;decide),(by show 5<=5;decide),?_,by show(List.replicate m 0).length=hs.length;rw[uE,hlen],by show(List.replicate m 0).length=hs.length;rw[uE,hlen],by show(List.replicate m 0).length=hs.length;rw[uE,hlen],λp hp=>?_,λx hx=>(nomatch (show x∈([]:qe) from hx)),qD _⟩ hlen rfl λc hc=>(List.mem_replicate.mp hc).2⟩
  .simp only[WA.all,qK,jv,lZ] at hc;rcases hc with h|h|h|h|h|h|h|h
   .exact absurd h n
   .rw[h];exact g
   .rw[h];exact nh
   .rw[h];exact nw
   .rw[h];exact h_nl
   .rw[h];exact h_pl
   .rw[h];exact h_cl
   .rw[h];exact h_ml
  .have sa10:=sa4.of f;obtain⟨⟨n',c',e',b'⟩,hq⟩:=sa10;refine⟨⟨n',c',d Qa9 e',b'⟩,?_⟩;rcases hsq with q|⟨q1,L⟩
   .exact q _
   .rcases hq with(h|⟨o',h⟩)|h
    .exact .inl (.inl (d (L _ g) h))
    .exact .inl (.inr ⟨o',d (L _ g) h⟩)
    .exact .inr h
  .simp only[WA.all,zK,qK,jv,lZ,not_or,not_false_eq_true,zB,and_true];exact⟨⟨Qa9,nst.symm,nw0.symm,a1,a2,a3,a4⟩,⟨Qba.symm,Qa8.symm,sM.symm,sL.symm,sO.symm,sN.symm⟩,⟨nwh.symm,b1,b2,b3,b4⟩,⟨c1,c2,c3,c4⟩,⟨d1,d2,d3⟩,⟨d4,d5⟩,d6⟩
  .rcases hsq with q|⟨q1,L⟩
   .exact .inl q
   .refine .inr ?_;simp only[WA.all,qK,jv,lZ,not_or];exact⟨q1,L _ g,L _ nh,L _ nw,L _ h_nl,L _ h_pl,L _ h_cl,L _ h_ml⟩
  .intro x hx;obtain⟨t1,t2,t3⟩:=HD;simp only[qK,jv,lZ] at hx;rcases hx with rfl|rfl|rfl|rfl|rfl
   .exact⟨t1,by decide +kernel⟩
   .exact⟨t2,by decide +kernel⟩
   .exact Hw hw1
   .exact Hw hw2
   .exact⟨t3,by decide +kernel⟩
  .have:=(List.mem_replicate.mp hp).2;omega
def Xi(es:qa Ent)(k:qe)(c:Int)(h:qb)(v:V):YI es (k,c,h,v)=match QI es k with
 |none=>true
 |some o=>HT.vJ c h o.2.1 o.2.2.1:=by
 unfold YI;show(match QI es k with|none=>true|some o=>_)=_
 cases QI es k with
 |none=>rfl
 |some o=>exact(HT.Qb0 _ _ _ _).symm
structure Rw where
 x:qc
 c:Int
 h:qb
 num:Int
 q:qc
 u:qc
 d:Dd
structure WH(H:Hp)(r:Rw):Prop where
 e:H r.x=some (.tup [.int r.c,.str r.h,.int r.num,.ref r.q])
 du:DU H r.q r.u r.d
def WH.tups(h:WH H r)(k:∀c xs,H c=some (.tup xs)->H' c=some (.tup xs)):WH H' r:=⟨k _ _ h.e,k _ _ h.du.e,λnm p e=>k _ _ (h.du.p nm p e)⟩
def U5:Dd->Bool
 |.drop _=>true
 |_=>false
def Rj(d:Dd):decide (D4 d=Zt)=U5 d:=by
 cases d with
 |put nm p=>show decide (Zy=Zt)=false;decide +kernel
 |place nm fo=>show decide (Zh=Zt)=false;decide +kernel
 |mark nm y on=>show decide (Zd=Zt)=false;decide +kernel
 |drop nm=>show decide (Zt=Zt)=true;decide +kernel
def Yu(rs:qa Rw):qe:=(rs.filter λr=>U5 r.d).map λr=>r.d.nm
def Kh(g:qe)(rs:qa Rw):qa Rw:=rs.filter λr=>YU r.d&&!decide (r.d.nm∈g)
def putN(rs:qa Rw):qe:=(rs.filter λr=>YU r.d).map λr=>r.d.nm
def Wj(r:Rw):Option Ent:=match r.d with
 |.place nm fo=>some ([nm,""],r.c,r.h,.str fo)
 |.mark nm y on=>some ([nm,y],r.c,r.h,.bl on)
 |_=>none
def QZ(rs:qa Rw):qa Ent:=(rs.filterMap Wj).foldl QY []
abbrev ltK(g:qe)(rs:qa Rw):qa (Key×V):=dG (λr:Rw=>r.d.nm) (λr=>V.ref r.u) (Kh g rs)
def PU(g:qe)(rs:qa Rw)(r:Rw):Kh g (rs++[r])=if (YU r.d&&!decide (r.d.nm∈g))=true then Kh g rs++[r] else Kh g rs:=by
 unfold Kh;rw[zb,qO];split
 .rfl
 .rw[iS,zU]
def Bl(rs:qa Rw)(r:Rw):QZ (rs++[r])=match Wj r with
 |some e=>QY (QZ rs) e
 |none=>QZ rs:=by
 unfold QZ;rw[List.filterMap_append,jB]
 cases h:Wj r with
 |none=>rw[show[r].filterMap Wj=[] by simp[h]];rfl
 |some e=>rw[show[r].filterMap Wj=[e] by simp[h]];rfl
def EW(es:qa Ent)(e:Ent):(QY es e).length<=es.length+1:=by
 unfold QY;split
 .exact(IF es e).1
 .omega
def L0(rs:qa Rw):(QZ rs).length<=rs.length:=by
 have h:∀(xs:qa Ent)(es:qa Ent),(xs.foldl QY es).length<=es.length+xs.length:=λxs=>by
  induction xs with
  |nil=>intro es;exact qD _
  |cons x xs a=>
   intro es;rw[zy];have:=a (QY es x);have:=EW es x;rw[qX];omega
 have a:=h (rs.filterMap Wj) [];have b:=List.length_filterMap_le Wj rs;have c:([]:qa Ent).length=0:=rfl;unfold QZ;omega
def Oj{g:qe}(h:m∈(Kh g rs).map λr=>r.d.nm):m∈putN rs:=by
 obtain⟨r,a,e⟩:=qj.mp h;obtain⟨b,c⟩:=qr.mp a;exact qj.mpr ⟨r,qr.mpr ⟨b,(zV.mp c).1⟩,e⟩
def Kz(rs:qa Rw)(r:Rw):putN (rs++[r])=if YU r.d=true then putN rs++[r.d.nm] else putN rs:=by
 unfold putN;rw[zb,qO];split
 .rw[qJ];rfl
 .rw[iS,zU]
def fX(hd:r.d=d)(h:YU d=false)(b:U5 d=false):∃z a:qb,nE (M5 u d) 2=some (.str z)/\nE [V.str "",V.str z] (if decide (V.str (D4 d)=V.str Zd)=true then 1 else 0)=some (.str a)/\Wj r=some ([d.nm,a],r.c,r.h,Uh u d):=by
 cases d with
 |put nm p=>cases h
 |drop nm=>cases b
 |place nm fo=>
  refine⟨fo,"",QB (j:=2) rfl,?_,by unfold Wj;rw[hd];rfl⟩;rw[Ut,show decide (D4 (.place nm fo)=Zd)=false by show decide (Zh=Zd)=false;decide +kernel];rfl
 |mark nm y on=>
  refine⟨y,y,QB (j:=2) rfl,?_,by unfold Wj;rw[hd];rfl⟩;rw[Ut,show decide (D4 (.mark nm y on)=Zd)=true by show decide (Zd=Zd)=true;decide +kernel];rfl
def eI(h:YU d=false)(a:U5 d=false):D4 d=Zh\/D4 d=Zd:=by
 cases d with
 |put nm p=>cases h
 |drop nm=>cases a
 |place nm fo=>exact .inl rfl
 |mark nm y on=>exact .inr rfl
def bu(h:¬(YU r.d=false/\U5 r.d=false)):Wj r=none:=by
 unfold Wj
 cases hd:r.d with
 |put nm p=>rfl
 |drop nm=>rfl
 |place nm fo=>rw[hd] at h;exact absurd ⟨U,U⟩ h
 |mark nm y on=>rw[hd] at h;exact absurd ⟨U,U⟩ h
def eJ(h:¬(YU d=false/\U5 d=false)):D4 d≠Zh/\D4 d≠Zd:=by
 cases d with
 |put nm p=>exact⟨by show Zy≠Zh;decide +kernel,by show Zy≠Zd;decide +kernel⟩
 |drop nm=>exact⟨by show Zt≠Zh;decide +kernel,by show Zt≠Zd;decide +kernel⟩
 |place nm fo=>exact absurd ⟨U,U⟩ h
 |mark nm y on=>exact absurd ⟨U,U⟩ h
def ak(h:YU d=true):nE (M5 u d) 2=some (.ref u):=by
 cases d with
 |put nm p=>exact QB (j:=2) rfl
 |place nm fo=>cases h
 |mark nm y on=>cases h
 |drop nm=>cases h
inductive Nz(vs:qa V)(H:Hp)(Q:VK)(E:XK):Prop
 |mk:∀(R:qc)(rs:qa Rw),vs=[.ref R]->H R=some (.lst (rs.map λr=>V.ref r.x))->(∀r∈rs,WH H r)->rs.length<=63->(putN rs).Nodup ->
   (∀(t L B:qc)(kvs:qa (qa Key×V)) H',Qj H H'->H L=none->H B=none->H' t=some (.tup [.ref L,.ref B])->H' L=some (.dK (ltK (Yu rs) rs))->H' B=some (.dT kvs)->QS H' kvs (QZ rs)->Q (.ref t) H')->Nz vs H Q E
def Got.of{o:Option V}{e:Option Ent}(h:Got H o e){G:Prop}(a:o=none->e=none->G)(b:∀(p st:qc)(x:Ent),o=some (.ref p)->e=some x->H p=some (.tup [.ref st,x.2.2.2])->H st=some (.tup [.int x.2.1,.str x.2.2.1])->G):G:=by
 cases h with
 |no=>exact a rfl rfl
 |yes c d=>exact b _ _ _ rfl rfl c d
def IM(F:zT K Ja Ja XX a.iF fd)(T:Txt K mg a):QQ P w K mg base j6 1 a.iF fd [Z3] Nz:=by
 refine F.ok Y2 (λcdv A outer s H vs Q E hr h=>?_)
 .obtain⟨R,rs,rfl,eR,C,hlen,hnd,k⟩:=h;have hu:=Q9 hr;have hu0:=hr.QbZ;refine⟨_,(Qd (Xx (sc:=Qg XX) (N:=EK) (i:=1) (fr:=[]) (cs_ rfl rfl) rfl rfl rfl Y2.nd U rfl (Yv (pv 0)) (λ_ _ _ _=>Wg (Qt Ue (Qw (Up K) (Qw (Up K) (pv 0) Qi) Qi) Qp)) (λ_ _ _ _=>(Qw (Up K) (Qw (Up K) (pv 0) Qi) Qi)))
   (Qd (Qs (i:=2) Y2.nd Yc)
   (Qd (Qs (i:=3) Y2.nd X9)
   (Qd (YW zo rfl (Yv (pv 0)) (Sw rfl (Xc (Q8 (i:=4) Y2.nd) (Xc (Q8 (i:=5) Y2.nd) (Xc (Q8 (i:=6) Y2.nd) (Xc (Q8 (i:=7) Y2.nd) Oa))))) (Qd (QU (PW.pt (V1 (Qt Ue (Qw QP (pv 7) Qi) Qp) (Vo (Qt Xz (Qw QP (pv 7) Qi) (pv 1) (by with_unfolding_all rfl))))) (Qe (Yp hu (pv 2) (Qw QP (pv 7) Qi) (Qw QP (pv 7) Qi) rfl)) QD)
   (Qe (QU (PW.pt (XJ (Qt Ue (Qw QP (pv 7) Qi) Qp) (V0 (Qt Ue (Qw QP (pv 7) Qi) Qp)))) (Qd (Qs (i:=8) Y2.nd (Yq (Qh (Qw QP (pv 7) Qi) (Qh (Qw QX (Yy (Qh Qp (Qh (Qw QP (pv 7) Qi) QA))) (Ui KS rfl T.Qak boot_int (zg (UI Ue (Qw QP (pv 7) Qi) Qp) Qf))) QA))))
   (Qe (QU (PW.pt (XJ (UM (U8 hu (pv 8) (pv 3))) (V0 (Qt (fe hu0) (Qw QP (Qz hu (pv 3) (pv 8)) Qi) (Yq (Qh (pv 4) (Qh (pv 5) QA))))))) (Qe (Yp hu (pv 3) (pv 8) (Yq (Qh (Yq (Qh (pv 4) (Qh (pv 5) QA))) (Qh (Qw QP (pv 7) (Sy Ma Qi)) QA))) rfl)) QD))) QD))))
   (Qe (Qu (Yq (Qh (pv 2) (Qh (pv 3) QA))))))))),?_⟩
  refine⟨_,U,R,U,⟨_,zN.of eR⟩,Km (K:=K) (xs:=rs) (λr=>V.ref r.x) (λr=>U5 r.d) (λr=>V.str r.d.nm) (Ya ((by omega))) (zN.of eR) ?_ ?_ ?_⟩
  .intro r H3 Q' hm s3 d;have b:=(C r hm).tups λc xs e=>s3 _ _ e;refine⟨_,U,r.x,_,_,_,U,U,jW.of b.e,QB (j:=3) rfl,r.q,_,_,_,U,U,jW.of b.du.e,Gw r.u r.d,U,_,U,?_⟩;show Q' _ _;rw[Ut,Rj];exact d
  .intro r H3 Q' hm s3 M d;have b:=(C r hm).tups λc xs e=>s3 _ _ e;exact⟨_,U,r.x,_,_,_,U,U,jW.of b.e,QB (j:=3) rfl,r.q,_,_,_,U,U,jW.of b.du.e,Gv r.u r.d,d⟩
  .intro g ng;have s1:Qj H (upd H g (.lst ((rs.filter λr=>U5 r.d).map λr=>V.str r.d.nm))):=Qj.zk ng;have e1:(upd H g (.lst ((rs.filter λr=>U5 r.d).map λr=>V.str r.d.nm))) g=some (.lst ((Yu rs).map V.str)):=by rw[Qc];unfold Yu;rw[qV];rfl
   show EZ _ _ _ (upd H g (.lst ((rs.filter λr=>U5 r.d).map λr=>V.str r.d.nm))) _;generalize upd H g (.lst ((rs.filter λr=>U5 r.d).map λr=>V.str r.d.nm))=H1 at s1 e1⊢;intro L nL;have s2:Qj H1 (upd H1 L (.dK [])):=Qj.zk nL;have e2:(upd H1 L (.dK [])) L=some (.dK []):=Qc;show Ua _ _ _ _ (upd H1 L (.dK []));generalize upd H1 L (.dK [])=H2 at s2 e2⊢;intro B nB;have s3:Qj H2 (upd H2 B (.dT [])):=Qj.zk nB;have e3:(upd H2 B (.dT [])) B=some (.dT []):=Qc;show Ua _ _ _ _ (upd H2 B (.dT []));generalize upd H2 B (.dT [])=H3 at s3 e3⊢;have LB:L≠B:=Qb e2 nB;have s03:=(s1.trans s2).trans s3;have nL0:H L=none:=s1.free nL;have nB0:H B=none:=(s1.trans s2).free nB;refine⟨_,U,R,U,⟨_,zN.of (s03 _ _ eR)⟩,YB (K:=K) (a:=R) (xs:=rs.map λr=>V.ref r.x) (λi σ G=>∃(o4 o5 o6 o7 o8:Option V)(kvs:qa (qa Key×V)),σ=[some (.ref R),some (.ref g),some (.ref L),some (.ref B),o4,o5,o6,o7,o8]/\Qj H G/\G g=some (.lst ((Yu rs).map V.str))/\G L=some (.dK (ltK (Yu rs) (rs.take i)))/\G B=some (.dT kvs)/\QS G kvs (QZ (rs.take i)))
    ⟨none,none,none,none,none,[],U,s03,s3 _ _ (s2 _ _ e1),s3 _ _ e2,e3,.nil⟩ (λi σ G _ ⟨_,_,_,_,_,_,_,Y,_⟩=>zN.of (Y _ _ eR)) ?_ ?_⟩
   .rintro i v σ G hi ⟨o4,o5,o6,o7,o8,kvs,rfl,Y,eg,Z,eB,hE⟩;rw[qQ] at hi;obtain⟨r,O,rfl⟩:∃r,rs[i]?=some r/\V.ref r.x=v:=by
     cases h:rs[i]? with
     |none=>rw[h] at hi;cases hi
     |some r=>rw[h] at hi;exact⟨r,U,qN hi⟩
    have il:i<rs.length:=(qW.mp O).1;have hm:=qM O;have hG:=(C r hm).tups λc xs e=>Y _ _ e;have et:rs.take (i+1)=rs.take i++[r]:=by rw[zm,O];rfl
    refine⟨r.x,_,U,jW.of hG.e,U,_,_,U,_,_,U,_,_,U,_,_,U,U,?_⟩;refine Wq λN hN=>?_;have rest:∀(G1:Hp),Qj H G1->G1 g=some (.lst ((Yu rs).map V.str))->G1 L=some (.dK (ltK (Yu rs) (rs.take (i+1))))->G1 B=some (.dT kvs)->QS G1 kvs (QZ (rs.take i))->N [some (.ref R),some (.ref g),some (.ref L),some (.ref B),some (.int r.c),some (.str r.h),some (.int r.num),some (.ref r.q),o8] G1:=λG1 sG1 eg1 eL1 eB1 hE1=>by
     subst hN;have n:=(C r hm).tups λc xs e=>sG1 _ _ e;refine⟨_,U,r.q,_,_,_,U,U,jW.of n.du.e,Gw r.u r.d,U,_,U,?_⟩;by_cases o:YU r.d=false/\U5 r.d=false
     .obtain⟨z,y,h2,h3,hb⟩:=fX (r:=r) (u:=r.u) rfl o.1 o.2;rcases eI o.1 o.2 with M|M
      case' inl=>
       rw[Ut,qu M];refine Yj ?_
      case' inr=>
       rw[Ut,qF (by rw[M];decide +kernel)];refine QV ⟨_,U,r.q,_,_,_,U,U,jW.of n.du.e,Gw r.u r.d,U,_,U,?_⟩;rw[Ut,qu M];refine Yj ?_
      all_goals
       refine⟨_,U,r.q,_,_,_,U,U,jW.of n.du.e,Gv r.u r.d,_,U,r.q,_,_,_,U,U,jW.of n.du.e,h2,VZ,λp1 H1' np1 q e1'=>⟨_,U,r.q,_,_,_,U,U,jW.of (q _ _ n.du.e),Gw r.u r.d,U,.inr ⟨_,U,p1,_,_,_,U,U,zN.of e1',h3,VZ,λkb H2' nkb D ekb=>?_⟩⟩⟩;have S:=(sG1.trans q).trans D;have hG2:=(C r hm).tups λc xs e=>S _ _ e;have eg2:=D _ _ (q _ _ eg1);have eL2:=D _ _ (q _ _ eL1);have d:=D _ _ (q _ _ eB1);have I:=hE1.mono λc xs e=>D _ _ (q _ _ e);have ek:H2' kb=some (.tup ((QW [r.d.nm,y]).map kV)):=by rw[VT];exact ekb
       have hkl:kvs.length<sizeLine:=by
        rw[I.len];have:=L0 (rs.take i);rw[q0] at this;exact QF (by omega)
       have bs:QZ (rs.take i++[r])=QY (QZ (rs.take i)) ([r.d.nm,y],r.c,r.h,Uh r.u r.d):=by rw[Bl,hb]
       have fin2:∀(f:Hp)(m J:qc),Qj H f->f g=some (.lst ((Yu rs).map V.str))->f L=some (.dK (ltK (Yu rs) (rs.take (i+1))))->f B=some (.dT kvs)->QS f kvs (QZ (rs.take i))->f J=some (.tup [.ref m,Uh r.u r.d])->f m=some (.tup [.int r.c,.str r.h])->YI (QZ (rs.take i)) ([r.d.nm,y],r.c,r.h,Uh r.u r.d)=true ->
        ∃(o4 o5 o6 o7 o8:Option V)(l:qa (qa Key×V)),[some (V.ref R),some (.ref g),some (.ref L),some (.ref B),some (.int r.c),some (.str r.h),some (.int r.num),some (.ref r.q),some (.ref kb)]=[some (.ref R),some (.ref g),some (.ref L),some (.ref B),o4,o5,o6,o7,o8]/\Qj H (upd f B (.dT (Ye kvs (QW [r.d.nm,y]) (.ref J))))/\(upd f B (.dT (Ye kvs (QW [r.d.nm,y]) (.ref J)))) g=some (.lst ((Yu rs).map V.str))/\(upd f B (.dT (Ye kvs (QW [r.d.nm,y]) (.ref J)))) L=some (.dK (ltK (Yu rs) (rs.take (i+1))))/\(upd f B (.dT (Ye kvs (QW [r.d.nm,y]) (.ref J)))) B=some (.dT l)/\QS (upd f B (.dT (Ye kvs (QW [r.d.nm,y]) (.ref J)))) l (QZ (rs.take (i+1))):=λf m J b eg7 eL7 eB7 hE7 ep est X=>by
        refine⟨_,_,_,_,_,_,U,b.z6 nB0,by rw[Qa (Q4 eg7 eB7 (λz=>nomatch z))];exact eg7,by rw[Qa LB];exact eL7,Qc,?_⟩;rw[et,bs];unfold QY;rw[qG X];exact(hE7.put ep est).mono λc xs e=>by rw[Qa (Q4 e eB7 (λz=>nomatch z))];exact e
       refine(I.get [r.d.nm,y]).of (λho he=>?_) (λp st x ho he ep est=>?_)
       .have kB:YI (QZ (rs.take i)) ([r.d.nm,y],r.c,r.h,Uh r.u r.d)=true:=by rw[Xi,he]
        refine⟨_,U,_,U,B,none,U,by rw[<-ho];exact Q5.t d ek,_,U,Yj ?_⟩;exact⟨_,U,_,U,VZ,λm H6 nst l e6=>⟨_,U,_,U,r.q,_,_,_,U,U,jW.of (l _ _ hG2.du.e),M4 r.u r.d,VZ,λJ f np2 b e7=>⟨_,U,_,U,B,_,U,UN.t (b _ _ (l _ _ d)) (b _ _ (l _ _ ek)) hkl,fin2 f m J ((S.trans l).trans b) (b _ _ (l _ _ eg2)) (b _ _ (l _ _ eL2)) (b _ _ (l _ _ d)) (I.mono λc xs e=>b _ _ (l _ _ e)) e7 (b _ _ e6) kB⟩⟩⟩
       .have kB:YI (QZ (rs.take i)) ([r.d.nm,y],r.c,r.h,Uh r.u r.d)=HT.vJ r.c r.h x.2.1 x.2.2.1:=by rw[Xi,he]
        refine⟨_,U,_,U,B,some (.ref p),U,by rw[<-ho];exact Q5.t d ek,_,U,QV ⟨_,U,_,U,B,_,U,by rw[<-ho];exact Q5.t d ek,p,_,_,_,U,U,jW.of ep,QB (j:=0) rfl,_,U,_,U,VZ,λq5 H5 nq5 s5 e5=>⟨st,q5,_,_,_,_,U,U,jW.of (s5 _ _ est),jW.of e5,_,U,?_⟩⟩⟩;rw[HT.QcA,<-kB]
        cases X:YI (QZ (rs.take i)) ([r.d.nm,y],r.c,r.h,Uh r.u r.d) with
        |true=>exact Yj ⟨_,U,_,U,VZ,λm H6 nst l e6=>⟨_,U,_,U,r.q,_,_,_,U,U,jW.of (l _ _ (s5 _ _ hG2.du.e)),M4 r.u r.d,VZ,λJ f np2 b e7=>⟨_,U,_,U,B,_,U,UN.t (b _ _ (l _ _ (s5 _ _ d))) (b _ _ (l _ _ (s5 _ _ ek))) hkl,fin2 f m J (((S.trans s5).trans l).trans b) (b _ _ (l _ _ (s5 _ _ eg2))) (b _ _ (l _ _ (s5 _ _ eL2))) (b _ _ (l _ _ (s5 _ _ d))) (I.mono λc xs e=>b _ _ (l _ _ (s5 _ _ e))) e7 (b _ _ e6) X⟩⟩⟩
        |false=>
         refine QV ⟨_,_,_,_,_,kvs,U,S.trans s5,s5 _ _ eg2,s5 _ _ eL2,s5 _ _ d,?_⟩;rw[et,bs];unfold QY;rw[X];exact I.mono λc xs e=>s5 _ _ e
     .have hb:Wj r=none:=bu o;have bs:QZ (rs.take i++[r])=QZ (rs.take i):=by rw[Bl,hb]
      obtain⟨b,d⟩:=eJ o;rw[Ut,qF b];refine QV ⟨_,U,r.q,_,_,_,U,U,jW.of n.du.e,Gw r.u r.d,U,_,U,?_⟩;rw[Ut,qF d];refine QV ⟨_,_,_,_,_,kvs,U,sG1,eg1,eL1,eB1,?_⟩;rw[et,bs];exact hE1
    have b:=PU (Yu rs) (rs.take i) r;rw[<-et] at b;refine⟨_,U,r.q,_,_,_,U,U,jW.of hG.du.e,Gw r.u r.d,U,_,U,?_⟩;rw[Ut,ID]
    cases M:YU r.d with
    |false=>
     rw[M] at b;exact QV (rest G Y eg (by rw[Z];unfold ltK;rw[b];rfl) eB hE)
    |true=>
     rw[M] at b;refine Yj ⟨_,U,r.q,_,_,_,U,U,jW.of hG.du.e,Gv r.u r.d,_,U,g,_,U,.inl (zN.of eg),U,?_,_,U,?_⟩
     .rw[List.all_map];exact jc.mpr λ_ _=>rfl
     .rw[qG rfl,Af]
      cases hg:decide (r.d.nm∈Yu rs) with
      |true=>
       rw[hg] at b;exact QV (rest G Y eg (by rw[Z];unfold ltK;rw[b];rfl) eB hE)
      |false=>
       rw[hg] at b;have d:¬r.d.nm∈(Kh (Yu rs) (rs.take i)).map λr=>r.d.nm:=λz=>by
        have z:=Oj z;have e:putN rs=putN (rs.take i)++putN (rs.drop i):=by
         unfold putN;rw[<-qJ,<-zb,List.take_append_drop]
        have hd:rs.drop i=r::rs.drop (i+1):=by rw[List.drop_eq_getElem_cons il];congr 1;exact(qW.mp O).2
        have f:r.d.nm∈putN (rs.drop i):=by rw[hd];unfold putN;rw[qO,qG M];exact qy ..
        rw[e,zW] at hnd;exact hnd.2.2 _ z _ f rfl
       have f:nE (M5 r.u r.d) 2=some (.ref r.u):=ak M;refine Yj ⟨_,U,r.q,_,_,_,U,U,jW.of hG.du.e,f,_,U,_,U,r.q,_,_,_,U,U,jW.of hG.du.e,Gv r.u r.d,L,_,U,UN.k (k:=Sum.inr r.d.nm) Z (by rw[Gx];have:=qY (λr:Rw=>YU r.d&&!decide (r.d.nm∈Yu rs)) (rs.take i);rw[q0] at this;exact QF (by unfold Kh;omega)),?_⟩;refine rest _ (Y.z6 nL0) (by rw[Qa (Q4 eg Z (λz=>nomatch z))];exact eg) ?_ (by rw[Qa LB.symm];exact eB) (hE.mono λc xs e=>by rw[Qa (Q4 e Z (λz=>nomatch z))];exact e);rw[Qc,Bk r d rfl rfl];unfold ltK;rw[b];rfl
   .rintro σ G ⟨o4,o5,o6,o7,o8,kvs,rfl,Y,eg,Z,eB,hE⟩;rw[qh,zj (qD _)] at Z hE;exact⟨_,U,_,U,VZ,λt H5 b s5 e5=>k t L B kvs H5 (Y.trans s5) nL0 nB0 e5 (s5 _ _ Z) (s5 _ _ eB) (hE.mono λc xs e=>s5 _ _ e)⟩
def Ag(es:qa Ent)(nm:qb):V:=match QI es [nm,""] with
 |some e=>e.2.2.2
 |none=>.str Zp
def rl(es:qa Ent)(k:qe):Bool:=match QI es k with
 |some e=>decide (e.2.2.2=V.bl true)
 |none=>false
def mkL(es:qa Ent)(nm:qb)(e:Ent):Bool:=decide (e.1.getD 0 ""=nm)&&(!decide (e.1.getD 1 ""=("":qb))&&rl es e.1)
def Vw(es:qa Ent)(nm:qb):qe:=(es.filter (mkL es nm)).map λe=>e.1.getD 1 ""
structure BOk(es:qa Ent):Prop where
 two:∀e∈es,e.1.length=2
 on:∀e∈es,e.1.getD 1 ""≠("":qb)->∃on,e.2.2.2=V.bl on
def O4{a:Obj}{kvs:qa (qa Key×V)}(e:H B=some (.dT kvs))(s:Qj (upd H B (.jF a (.dT kvs))) G):Qj H (upd G B (.dT kvs)):=λc o h=>by
 by_cases z:c=B
 .rw[z,e] at h;rw[z,Qc];exact h
 .rw[Qa z];exact s c o (by rw[Qa z];exact h)
def Ca{H:Hp}:∀{bs:qa qc}{es:qa Ent},Xk H bs ((es.map (·.1)).map QW)->∀x∈bs.zip es,H x.1=some (.tup (x.2.1.map V.str))/\x.2∈es
 |_,[],h,x,a=>by rw[List.zip_nil_right] at a;cases a
 |bs,e::es,h,x,a=>by
  rw[qU,qU] at h
  cases h with
  |cons b r=>
   rw[List.zip_cons_cons] at a;rcases qK.mp a with rfl|a
   .exact⟨by rw[<-VT];exact b,qy ..⟩
   .obtain⟨c,d⟩:=Ca r x a;exact⟨c,qH _ d⟩
def Cb(p:Ent->Bool)(f:Ent->V):∀{bs:qa qc}{es:qa Ent},bs.length=es.length->((bs.zip es).filter λx=>p x.2).map (λx=>f x.2)=(es.filter p).map f
 |[],[],_=>rfl
 |b::bs,e::es,h=>by
  rw[List.zip_cons_cons,qO,qO];have a:=Cb p f (bs:=bs) (es:=es) (by simpa using h)
  cases c:p e with
  |true=>simp only[c,vw,qU,a]
  |false=>simp only[c,zE,yB,a]
inductive En(vs:qa V)(H:Hp)(Q:VK)(E:XK):Prop
 |mk:∀(B:qc)(kvs:qa (qa Key×V))(es:qa Ent)(nm:qb),vs=[.ref B,.str nm]->H B=some (.dT kvs)->QS H kvs es->(∀H',Qj H H'->Q (Ag es nm) H')->En vs H Q E
inductive HV(vs:qa V)(H:Hp)(Q:VK)(E:XK):Prop
 |mk:∀(B:qc)(kvs:qa (qa Key×V))(es:qa Ent)(nm:qb),vs=[.ref B,.str nm]->H B=some (.dT kvs)->QS H kvs es->BOk es->es.length<64->(∀l H',H l=none->Qj H H'->H' l=some (.lst ((Qx (Vw es nm)).map V.str))->Q (.ref l) H')->HV vs H Q E
def Gn(F:zT K Z0 Z0 Kx a.uv fd)(T:Txt K mg a):QQ P w K mg base j6 1 a.uv fd [Zj,ZE] En:=by
 refine F.ok Io (λn A outer s H vs Q E o h=>?_)
 .obtain⟨B,kvs,es,nm,rfl,d,q,k⟩:=h;have i:=Q9 o;refine⟨_,(Qd (QU (UM (Ka i (Yq (Qh (pv 1) (Qh Qp QA))) (pv 0))) (Qe (Qu (Qw QP (Qz i (pv 0) (Yq (Qh (pv 1) (Qh Qp QA)))) Qi))) QD)
   (Qe (Qu Qp))),?_⟩
  refine⟨_,U,VZ,λr H1 t s1 u=>?_⟩;have l:H1 r=some (.tup ((QW [nm,""]).map kV)):=by rw[VT];exact u
  have f:=q.mono λc xs e=>s1 _ _ e;refine(f.get [nm,""]).of (λb he=>?_) (λp st x b he v y=>?_)
  .refine⟨_,U,B,none,U,by rw[<-b];exact Q5.t (s1 _ _ d) l,_,U,QV ?_⟩;have:=k H1 s1;unfold Ag at this;rw[he] at this;exact this
  .refine⟨_,U,B,some (.ref p),U,by rw[<-b];exact Q5.t (s1 _ _ d) l,_,U,Yj ?_⟩;refine⟨_,U,_,U,VZ,λz m C s2 D=>?_⟩;have g:m z=some (.tup ((QW [nm,""]).map kV)):=by rw[VT];exact D
   refine⟨B,_,U,by rw[<-b];exact Q5.t (s2 _ _ (s1 _ _ d)) g,p,_,_,_,U,U,jW.of (s2 _ _ v),QB (j:=1) rfl,?_⟩;have:=k m (s1.trans s2);unfold Ag at this;rw[he] at this;exact this
def ED(F:zT K Jb Jb XY a.iH fd)(T:Txt K mg a):QQ P w K mg base j6 1 a.iH fd [Zj,ZE] HV:=by
 refine F.ok Mj (λX A outer s H vs Q E Y h=>?_)
 .obtain⟨B,kvs,es,nm,rfl,v,Z,C,h64,k⟩:=h;have hu:=Q9 Y;refine⟨_,(Qe (Sr (Qu (QC VX rfl T.jQ boot_sorted (zg (VL (sc:=Qg XY) (N:=EL) (fr:=[(1,ZE),(0,Zj)]) (cs_ rfl rfl) rfl rfl rfl (Sv (pv 0)) (λ_ _ _ _=>Wg (PW.pt (V1 (Qt Ue (Qw (Up K) (pv 0) Qi) (pv 1)) (V1 (Qt Bp (Qw (Up K) (pv 0) Qi) Qp) (Vo (Uu (Qw (Up K) (Qz hu (pv 2) (pv 0)) Qi))))))) (λ_ _ _ _=>(Qw (Up K) (pv 0) Qi))) Qf))))),?_⟩;refine⟨B,kvs,v,λi=>?_⟩;have kt:∀c xs,H c=some (.tup xs)->(upd H B (.jF i (.dT kvs))) c=some (.tup xs):=λc xs e=>by rw[Qa (λz=>by rw[z,v] at e;cases e)];exact e
  have m:=Z.mono kt;have r:(upd H B (.jF i (.dT kvs))) B=some (.jF i (.dT kvs)):=Qc;have b:∀G,Qj (upd H B (.jF i (.dT kvs))) G->Qj H (upd G B (.dT kvs)):=λG s=>O4 v s;generalize upd H B (.jF i (.dT kvs))=H1 at m r b⊢;refine⟨_,U,B,i,kvs,U,r,λbs f=>?_⟩;rw[m.keys] at f;have I:bs.length=es.length:=by have:=f.len;rw[qh,qh] at this;exact this
  have J:(bs.zip es).length=es.length:=by rw[List.length_zip];omega
  refine LP (xs:=bs.zip es) (λx=>V.ref x.1) (λx=>mkL es nm x.2) (λx=>V.str (x.2.1.getD 1 "")) (by rw[J];exact Ya ((by omega))) r (by rw[show(λx:qc×Ent=>V.ref x.1)=V.ref∘Prod.fst from rfl,<-qV,List.map_fst_zip (by omega)]) ?_ ?_ ?_
  .intro x R Q' L s3 d;obtain⟨ex,g⟩:=Ca f x L;have two:=C.two _ g;have n:=s3 _ _ ex;refine⟨_,U,x.1,_,_,_,U,U,jW.of n,DJ (j:=0) (by omega),_,U,U,_,U,?_⟩;unfold mkL at d;rw[Ut]
   cases h0:decide (x.2.1.getD 0 ""=nm) with
   |false=>rw[h0] at d;exact QV d
   |true=>
    rw[h0] at d;refine Yj ⟨_,U,x.1,_,_,_,U,U,jW.of n,DJ (j:=1) (by omega),U,_,U,?_⟩;rw[Fm]
    cases t:decide (x.2.1.getD 1 ""=("":qb)) with
    |true=>rw[t] at d;exact QV d
    |false=>
     rw[t] at d;have t:=zi t;have ek:R x.1=some (.tup ((QW x.2.1).map kV)):=by rw[VT];exact n
     have M:=m.mono λc xs e=>s3 _ _ e;obtain⟨S,O⟩:=Ce g;have hg:=M.get x.2.1;rw[O] at hg;refine Yj ?_;refine hg.of (λ_ z=>nomatch z) (λp st y ho he ep est=>?_);cases he;obtain⟨m1,m2⟩:=VO O;obtain⟨on,u⟩:=C.on S m1 (by rw[m2];exact t);refine⟨_,U,_,U,B,_,U,.inr ⟨kvs,QW x.2.1,x.1,.inr ⟨i,s3 _ _ r⟩,U,ek,ho.symm⟩,p,_,_,_,U,U,jW.of ep,QB (j:=1) rfl,?_⟩;rw[u];refine⟨on,U,?_⟩;have e0:rl es x.2.1=on:=by unfold rl;rw[O];show decide (S.2.2.2=V.bl true)=on;rw[u];cases on<;>decide
     rw[e0] at d;exact d
  .intro x R Q' L s3 n d;obtain⟨ex,g⟩:=Ca f x L;have two:=C.two _ g;exact⟨_,U,x.1,_,_,_,U,U,jW.of (s3 _ _ ex),DJ (j:=1) (by omega),d⟩
  .intro D M;rw[Cb (mkL es nm) (λe=>V.str (e.1.getD 1 "")) I];have d:Qj H1 (upd H1 D (.lst ((es.filter (mkL es nm)).map λe=>V.str (e.1.getD 1 "")))):=Qj.zk M;have n:(upd H1 D (.lst ((es.filter (mkL es nm)).map λe=>V.str (e.1.getD 1 "")))) D=some (.lst ((Vw es nm).map V.str)):=by rw[Qc];unfold Vw;rw[qV];rfl
   generalize upd H1 D (.lst ((es.filter (mkL es nm)).map λe=>V.str (e.1.getD 1 "")))=t at d n⊢;have g:(Vw es nm).length<64:=by unfold Vw;rw[qh];have:=qY (mkL es nm) es;omega
   refine⟨D,Vw es nm,U,zN.of n,g,λl nl=>?_⟩;have u:Qj H1 (upd t l (.lst ((Qx (Vw es nm)).map V.str))):=d.trans (Qj.zk nl);have L:l≠B:=(Qb (d _ _ r) nl).symm;refine⟨u _ _ r,k l _ ?_ (b _ u) (by rw[Qa L];exact Qc)⟩
   cases q:H l with
   |none=>rfl
   |some o=>
    have:=b t d _ _ q;rw[Qa L,nl] at this;cases this
def So{x:Ent}(h:x∈Xa es e):x=e\/x∈es:=by
 unfold Xa at h;split at h
 .obtain⟨y,a,rfl⟩:=qj.mp h;by_cases z:y.1=e.1
  .rw[qG z];exact .inl rfl
  .rw[qA z];exact .inr a
 .rcases qt.mp h with q|q
  .exact .inr q
  .exact .inl (qk.mp q)
def Wl(x:Ent)(es:qa Ent)(k:qe):QI (x::es) k=if x.1=k then some x else QI es k:=by
 unfold QI;by_cases h:x.1=k
 .rw[wQ (by simp[h]),qG h]
 .rw[wR (by simp[h]),qA h]
def HB:∀(es:qa Ent)(e:Ent)(k:qe),QI (es++[e]) k=(match QI es k with|some x=>some x|none=>if e.1=k then some e else none)
 |[],e,k=>by rw[List.nil_append,Wl];rfl
 |x::es,e,k=>by
  rw[List.cons_append,Wl,Wl];by_cases h:x.1=k
  .rw[qG h,qG h]
  .rw[qA h,qA h];exact HB es e k
def Cf:∀(es:qa Ent)(e:Ent)(k:qe),QI (es.map λx=>if x.1=e.1 then e else x) k=(match QI es k with|some x=>(if x.1=e.1 then some e else some x)|none=>none)
 |[],_,_=>rfl
 |x::es,e,k=>by
  rw[qU,Wl,Wl];by_cases h:x.1=e.1
  .rw[qG h];by_cases a:e.1=k
   .rw[qG a,qG (h.trans a)];show _=if x.1=e.1 then some e else some x;rw[qG h]
   .rw[qA a,qA (λz=>a (h.symm.trans z))];exact Cf es e k
  .rw[qA h];by_cases a:x.1=k
   .rw[qG a,qG a];show _=if x.1=e.1 then some e else some x;rw[qA h]
   .rw[qA a,qA a];exact Cf es e k
def Lw{k:qe}:∀es:qa Ent,Du es k=(QI es k).isSome
 |[]=>rfl
 |x::es=>by
  have a:=Lw (k:=k) es;rw[Wl];unfold Du at a⊢;rw[kK,a];by_cases h:x.1=k
  .rw[qG h,qu h];rfl
  .rw[qA h,qF h];rfl
def RB(es:qa Ent)(e:Ent)(k:qe):QI (Xa es e) k=if e.1=k then some e else QI es k:=by
 unfold Xa;rw[Lw]
 cases h:QI es e.1 with
 |some y=>
  rw[qG (show(some y).isSome=true from rfl),Cf];by_cases a:e.1=k
  .subst a;rw[h,qG rfl];show(if y.1=e.1 then some e else some y)=some e;rw[qG (VO h).2]
  .rw[qA a]
   cases b:QI es k with
   |none=>rfl
   |some x=>show(if x.1=e.1 then some e else some x)=some x;rw[qA (λz=>a (z.symm.trans (VO b).2))]
 |none=>
  rw[qA (show ¬(none:Option Ent).isSome=true from qI),HB];by_cases a:e.1=k
  .subst a;rw[h]
  .cases b:QI es k with
   |none=>rfl
   |some x=>show some x=if e.1=k then some e else some x;rw[qA a]
def UA(es:qa Ent)(e:Ent)(k:qe):QI (QY es e) k=if e.1=k then (if YI es e=true then some e else QI es k) else QI es k:=by
 unfold QY;by_cases h:YI es e=true
 .rw[qG h,qG h,RB]
 .rw[qA h,qA h];exact(ite_self _).symm
def Lo(h:QI es e.1=none):YI es e=true:=by
 unfold YI;rw[h]
def Ln(h:YI es e=false):∃x,QI es e.1=some x:=by
 cases q:QI es e.1 with
 |none=>rw[Lo q] at h;cases h
 |some x=>exact⟨x,U⟩
def YV(r:Rw):Ent:=(YJ r.d,r.c,r.h,Uh r.u r.d)
def Q7(rs:qa Rw):qa Ent:=rs.foldl (λes r=>QY es (YV r)) []
def Uq(rs:qa Rw)(r:Rw):Q7 (rs++[r])=QY (Q7 rs) (YV r):=by unfold Q7;rw[jB];rfl
def ai(rs:qa Rw):(Q7 rs).length<=rs.length:=by
 have h:∀(xs:qa Rw)(es:qa Ent),(xs.foldl (λes r=>QY es (YV r)) es).length<=es.length+xs.length:=λxs=>by
  induction xs with
  |nil=>intro es;exact qD _
  |cons x xs a=>
   intro es;rw[zy];have:=a (QY es (YV x));have:=EW es (YV x);rw[qX];omega
 have:=h rs [];have a:([]:qa Ent).length=0:=rfl;unfold Q7;omega
def P6{x:Ent}(h:x∈QY es e):x=e\/x∈es:=by
 unfold QY at h;split at h
 .exact So h
 .exact .inr h
def Dy:∀(xs:qa Ent)(es:qa Ent){e:Ent},e∈xs.foldl QY es->e∈es\/e∈xs
 |[],_,_,h=>.inl h
 |x::xs,es,e,h=>by
  rcases Dy xs _ h with q|q
  .rcases P6 q with q|q
   .exact .inr (q▸qy ..)
   .exact .inl q
  .exact .inr (qH _ q)
def cm(rs:qa Rw):Q7 rs=(rs.map YV).foldl QY []:=by unfold Q7;rw[List.foldl_map]
def DA(h:e∈Q7 rs):∃r∈rs,e=YV r:=by
 rw[cm] at h;rcases Dy _ _ h with q|q
 .cases q
 .obtain⟨r,a,rfl⟩:=qj.mp q;exact⟨r,a,U⟩
def LZ(h:e∈QZ rs):∃r∈rs,Wj r=some e:=by
 rcases Dy _ _ h with q|q
 .cases q
 .obtain⟨r,a,q⟩:=Qbg.mp q;exact⟨r,a,q⟩
def eG(e:Ent)(h:(es.map (·.1)).Nodup):((Xa es e).map (·.1)).Nodup:=by
 unfold Xa;split
 .have c:(es.map λx=>if x.1=e.1 then e else x).map (·.1)=es.map (·.1):=by
   rw[qV];refine jT λx _=>?_;show(if x.1=e.1 then e else x).1=x.1;by_cases z:x.1=e.1
   .rw[qG z,z]
   .rw[qA z]
  rw[c];exact h
 .rename_i d
  rw[qJ];refine zW.mpr ⟨h,by simp,λa f b g z=>?_⟩;obtain⟨x,i,c⟩:=qj.mp f;have j:b=e.1:=by simpa using g
  refine d ?_;unfold Du;exact uO.mpr ⟨x,i,qu (c.trans (z.trans j))⟩
def bX(e:Ent)(h:(es.map (·.1)).Nodup):((QY es e).map (·.1)).Nodup:=by
 unfold QY;split
 .exact eG e h
 .exact h
def OE:∀(xs:qa Ent){es:qa Ent},(es.map (·.1)).Nodup->((xs.foldl QY es).map (·.1)).Nodup
 |[],_,h=>h
 |x::xs,es,h=>OE xs (bX x h)
def cx(rs:qa Rw):((QZ rs).map (·.1)).Nodup:=OE _ zB
def XO(o:Option Ent):Option (Int×qb×V):=o.map (·.2)
def P7{a:qa Ent}{b:qe}{c:Int}(q:XO (QI es k)=XO (QI a b)):YI es (k,c,h,v)=YI a (b,c,h,v):=by
 rw[Xi,Xi]
 cases e:QI es k with
 |none=>rw[e] at q;cases d:QI a b with
  |none=>rfl
  |some y=>rw[d] at q;cases q
 |some x=>rw[e] at q;cases d:QI a b with
  |none=>rw[d] at q;cases q
  |some y=>rw[d] at q;have q:x.2=y.2:=qN q;show HT.vJ c h x.2.1 x.2.2.1=HT.vJ c h y.2.1 y.2.2.1;rw[q]
def Lq{a:qa Ent}{b:qe}{c:Int}(q:XO (QI es k)=XO (QI a b)):XO (QI (QY es (k,c,h,v)) k)=XO (QI (QY a (b,c,h,v)) b):=by
 rw[UA,UA,qG rfl,qG rfl,P7 q];split
 .rfl
 .exact q
def Yt(h:e.1≠k):QI (QY es e) k=QI es k:=by rw[UA,qA h]
structure K5(ws:qe)(r:Rw):Prop where
 pt:∀nm p,r.d=.put nm p->OV ws p
 np:YU r.d=false->dOk ws ws r.d
def EO(h:K5 ws r){nm:qb}{on:Bool}(e:r.d=.mark nm y on):y∈ws:=by
 have:=h.np (by rw[e];rfl);rw[e] at this;exact this
def Mt(h:K5 ws r){nm:qb}(e:r.d=.place nm fo):fo∈ws:=by
 have:=h.np (by rw[e];rfl);rw[e] at this;exact this
def Ga:Zh≠Zy/\Zh≠Zt/\Zd≠Zy/\Zd≠Zt/\Zt≠Zy/\Zd≠Zh:=by decide +kernel
def aG{ws:qe}(hw:∀w∈ws,w≠("":qb)):∀(n:Nat)(rs:qa Rw),rs.length=n->(∀r∈rs,K5 ws r)->∀nm:qb,XO (QI (Q7 rs) [nm,Zh])=XO (QI (QZ rs) [nm,""])/\∀y:qb,y≠("":qb)->XO (QI (Q7 rs) [nm,Zd,y])=XO (QI (QZ rs) [nm,y])
 |0,rs,g,_,nm=>by
  have:rs=[]:=jI.mp g;subst this;exact⟨U,λ_ _=>rfl⟩
 |n+1,rs,g,ok,nm=>by
  obtain⟨c,r,rfl⟩:∃c r,rs=c++[r]:=by
   rcases uH rs with h|⟨a,b,h⟩
   .rw[h] at g;cases g
   .exact⟨a,b,by rw[h,uI]⟩
  have l:∀r∈c,K5 ws r:=λx s=>ok x (qC _ s);have o:=ok r (qx _ (qk.mpr rfl));have t:c.length=n:=by rw[qz] at g;simpa using g
  obtain⟨i,j⟩:=aG hw n c t l nm;rw[Uq,Bl];obtain⟨u,v,A,B,C,D⟩:=Ga
  cases hd:r.d with
  |put m p=>
   have e:YV r=([m,Zy],r.c,r.h,.ref r.u):=by unfold YV;rw[hd];rfl
   have f:Wj r=none:=by unfold Wj;rw[hd]
   rw[e,f];exact⟨by rw[Yt (by intro z;exact u (qE (qE z).2).1.symm)];exact i,λy d=>by rw[Yt (by intro z;exact A (qE (qE z).2).1.symm)];exact j y d⟩
  |drop m=>
   have e:YV r=([m,Zt],r.c,r.h,.str m):=by unfold YV;rw[hd];rfl
   have f:Wj r=none:=by unfold Wj;rw[hd]
   rw[e,f];exact⟨by rw[Yt (by intro z;exact v (qE (qE z).2).1.symm)];exact i,λy d=>by rw[Yt (by intro z;exact B (qE (qE z).2).1.symm)];exact j y d⟩
  |place m fo=>
   have e:YV r=([m,Zh],r.c,r.h,.str fo):=by unfold YV;rw[hd];rfl
   have f:Wj r=some ([m,""],r.c,r.h,.str fo):=by unfold Wj;rw[hd]
   rw[e,f];refine⟨?_,λy d=>?_⟩
   .by_cases h:m=nm
    .subst h;exact Lq i
    .show XO (QI (QY _ _) _)=XO (QI (QY _ _) _);rw[Yt (λz=>h (qE z).1),Yt (λz=>h (qE z).1)];exact i
   .show XO (QI (QY _ _) _)=XO (QI (QY _ _) _);rw[Yt (by intro z;cases (qE (qE z).2).2),Yt (by intro z;exact d (qE (qE z).2).1.symm)];exact j y d
  |mark m k on=>
   have e:YV r=([m,Zd,k],r.c,r.h,.bl on):=by unfold YV;rw[hd];rfl
   have f:Wj r=some ([m,k],r.c,r.h,.bl on):=by unfold Wj;rw[hd]
   have q:=hw k (EO o hd);rw[e,f];refine⟨?_,λy d=>?_⟩
   .show XO (QI (QY _ _) _)=XO (QI (QY _ _) _);rw[Yt (by intro z;cases (qE (qE z).2).2),Yt (by intro z;exact q (qE (qE z).2).1)];exact i
   .by_cases h:m=nm/\k=y
    .obtain⟨rfl,rfl⟩:=h;exact Lq (j k d)
    .show XO (QI (QY _ _) _)=XO (QI (QY _ _) _);rw[Yt (λz=>h ⟨(qE z).1,(qE (qE (qE z).2).2).1⟩),Yt (λz=>h ⟨(qE z).1,(qE (qE z).2).1⟩)];exact j y d
def foN(es:qa Ent)(m:qb):qb:=match QI es [m,Zh] with
 |some (_,_,_,.str fo)=>fo
 |_=>Zp
structure BI(rs:qa Rw)(ls:qa LE)(bx:Rows)(mk:qb->qe):Prop where
 l1:∀l∈ls,(∃r∈rs,r.d=.put l.nm l.p)/\¬l.nm∈Yu rs
 l2:∀r∈rs,∀nm p,r.d=.put nm p->¬nm∈Yu rs->∃l∈ls,l.nm=nm/\l.p=p
 b:∀m,m∈bx.map (·.1)↔m∈ls.map LE.nm
 fo:∀m∈ls.map LE.nm,L2.up bx m=some (foN (Q7 rs) m)
 mk_:∀m∈ls.map LE.nm,∀y,y∈mk m↔rl (Q7 rs) [m,Zd,y]=true
def Bf(rs:qa Rw)(r:Rw):Yu (rs++[r])=if U5 r.d=true then Yu rs++[r.d.nm] else Yu rs:=by
 unfold Yu;rw[zb,qO];split
 .rw[qJ];rfl
 .rw[iS,zU]
def U9(h:m∈Yu rs):m∈Yu (rs++[r]):=by
 rw[Bf];split
 .exact qC _ h
 .exact h
def Vx(h:m∈Yu (rs++[r])):m∈Yu rs\/(U5 r.d=true/\m=r.d.nm):=by
 rw[Bf] at h;split at h
 .rename_i hd
  rcases qt.mp h with q|q
  .exact .inl q
  .exact .inr ⟨hd,qk.mp q⟩
 .exact .inl h
def Ks(h:QI (Q7 rs) k=some e):∃r∈rs,e=YV r/\YJ r.d=k:=by
 obtain⟨a,b⟩:=VO h;obtain⟨r,c,rfl⟩:=DA a;exact⟨r,c,U,b⟩
def k2{a b c d:qb}(h:[a,b]=[c,d]):a=c/\b=d:=⟨(qE h).1,(qE (qE h).2).1⟩
def Lm{nm:qb}(h:YJ d=[nm,Zt]):d=.drop nm:=by
 obtain⟨c,a,e,f,b,g⟩:=Ga
 cases d with
 |put m p=>exact absurd (k2 h).2.symm b
 |place m fo=>exact absurd (k2 h).2 a
 |mark m y on=>cases (qE (qE h).2).2
 |drop m=>rw[(k2 h).1]
def bW{nm:qb}(h:YJ d=[nm,Zy]):∃p,d=.put nm p:=by
 obtain⟨a,c,e,f,b,g⟩:=Ga
 cases d with
 |put m p=>exact⟨p,by rw[(k2 h).1]⟩
 |place m fo=>exact absurd (k2 h).2 a
 |mark m y on=>cases (qE (qE h).2).2
 |drop m=>exact absurd (k2 h).2 b
def P0{nm:qb}(h:YJ d=[nm,Zh]):∃fo,d=.place nm fo:=by
 obtain⟨a,b,c,e,f,g⟩:=Ga
 cases d with
 |put m p=>exact absurd (k2 h).2.symm a
 |place m fo=>exact⟨fo,by rw[(k2 h).1]⟩
 |mark m y on=>cases (qE (qE h).2).2
 |drop m=>exact absurd (k2 h).2.symm b
def TM{nm:qb}(h:YJ d=[nm,Zd,y]):∃on,d=.mark nm y on:=by
 cases d with
 |put m p=>cases (qE (qE h).2).2
 |place m fo=>cases (qE (qE h).2).2
 |mark m c on=>
  have a:=(qE h).1;have b:=(qE (qE (qE h).2).2).1;exact⟨on,by rw[a,b]⟩
 |drop m=>cases (qE (qE h).2).2
def fL{t:qe}(h:YJ d=m::t):d.nm=m:=by
 cases d<;>exact(qE h).1
def P4(e:Ent)(h:∃x,QI es k=some x):∃x,QI (QY es e) k=some x:=by
 obtain⟨x,a⟩:=h;rw[UA];split
 .split
  .exact⟨_,U⟩
  .exact⟨x,a⟩
 .exact⟨x,a⟩
def P5(es:qa Ent)(e:Ent):∃x,QI (QY es e) e.1=some x:=by
 rw[UA,qG rfl]
 cases h:YI es e with
 |true=>exact⟨_,U⟩
 |false=>exact Ln h
def DB:∀(n:Nat){rs:qa Rw},rs.length=n->∀{r:Rw},r∈rs->∃e,QI (Q7 rs) (YJ r.d)=some e
 |0,rs,d,r,h=>by rw[jI.mp d] at h;cases h
 |n+1,rs,d,r,h=>by
  obtain⟨c,f,rfl⟩:∃c r,rs=c++[r]:=by
   rcases uH rs with h|⟨a,b,h⟩
   .rw[h] at d;cases d
   .exact⟨a,b,by rw[h,uI]⟩
  rw[Uq];rcases qt.mp h with q|q
  .exact P4 _ (DB n (by rw[qz] at d;simpa using d) q)
  .rw[qk.mp q];exact P5 (Q7 c) (YV f)
def Dw{nm:qb}:nm∈Yu rs↔∃e,QI (Q7 rs) [nm,Zt]=some e:=by
 constructor
 .intro h;obtain⟨r,b,rfl⟩:=qj.mp h;obtain⟨c,a⟩:=qr.mp b;obtain⟨e,he⟩:=DB _ rfl c
  cases hd:r.d with
  |drop m=>rw[hd] at he;exact⟨e,he⟩
  |put m p=>rw[hd] at a;cases a
  |place m p=>rw[hd] at a;cases a
  |mark m p q=>rw[hd] at a;cases a
 .rintro⟨e,he⟩;obtain⟨r,b,_,a⟩:=Ks he;have hd:=Lm a;exact qj.mpr ⟨r,qr.mpr ⟨b,by rw[hd];rfl⟩,by rw[hd];rfl⟩
def N5{nm:qb}(h:QI (Q7 rs) [nm,Zy]=some e):nm∈putN rs:=by
 obtain⟨r,a,_,b⟩:=Ks h;obtain⟨p,hd⟩:=bW b;exact qj.mpr ⟨r,qr.mpr ⟨a,by rw[hd];rfl⟩,by rw[hd];rfl⟩
def AJ{nm:qb}(a:(putN (rs++[r])).Nodup)(hd:r.d=.put nm p):¬nm∈putN rs:=λh=>by
 rw[Kz,hd,qG (show YU (Dd.put nm p)=true from rfl),zW] at a;exact a.2.2 nm h nm (qk.mpr rfl) rfl
def bY{nm:qb}(a:r∈rs)(hd:r.d=.put nm p):nm∈putN rs:=qj.mpr ⟨r,qr.mpr ⟨a,by rw[hd];rfl⟩,by rw[hd];rfl⟩
def BI.sJ(h:BI rs ls bx mk)(hm:m∈ls.map LE.nm):m∈putN rs/\¬m∈Yu rs:=by
 obtain⟨l,a,rfl⟩:=qj.mp hm;obtain⟨⟨r,b,hd⟩,hg⟩:=h.l1 l a;exact⟨bY b hd,hg⟩
def OH(h:YI (Q7 rs) (YV r)=false):Q7 (rs++[r])=Q7 rs:=by
 rw[Uq];unfold QY;rw[h];rfl
def M0(h:YJ r.d≠k):QI (Q7 (rs++[r])) k=QI (Q7 rs) k:=by rw[Uq];exact Yt h
def KP(h:YJ r.d≠[m,Zh]):foN (Q7 (rs++[r])) m=foN (Q7 rs) m:=by unfold foN;rw[M0 h]
def KI(h:YJ r.d≠[m,Zd,y]):rl (Q7 (rs++[r])) [m,Zd,y]=rl (Q7 rs) [m,Zd,y]:=by unfold rl;rw[M0 h]
section
variable {rs:qa Rw}{ls:qa LE}{bx:Rows}{mk:qb->qe}{r:Rw}
def BI.away(h:BI rs ls bx mk)(c:YU r.d=false)(d:¬r.d.nm∈ls.map LE.nm):BI (rs++[r]) ls bx mk:=by
 have e:∀{m:qb}{t:qe},m∈ls.map LE.nm->YJ r.d≠m::t:=λhm z=>d (by rw[fL z];exact hm);refine⟨λl f=>?_,λb a nm p hd hg=>?_,h.b,λm hm=>?_,λm hm y=>?_⟩
 .obtain⟨⟨b,a,hd⟩,hg⟩:=h.l1 l f;refine⟨⟨b,qC _ a,hd⟩,λz=>?_⟩;rcases Vx z with q|⟨_,q⟩
  .exact hg q
  .exact d (q▸zr f)
 .rcases qt.mp a with q|q
  .exact h.l2 b q nm p hd (λz=>hg (U9 z))
  .rw[qk.mp q] at hd;rw[hd] at c;cases c
 .rw[KP (e hm)];exact h.fo m hm
 .rw[KI (e hm)];exact h.mk_ m hm y
def BI.keep0(h:BI rs ls bx mk)(g:YI (Q7 rs) (YV r)=false)(j:(putN (rs++[r])).Nodup):BI (rs++[r]) ls bx mk:=by
 obtain⟨x,f⟩:=Ln g;have k:∀m,m∈Yu (rs++[r])->m∈Yu rs:=λm hm=>by
  rcases Vx hm with q|⟨hd,q⟩
  .exact q
  .refine Dw.mpr ⟨x,?_⟩
   cases d:r.d with
   |drop i=>have e:(YV r).1=[i,Zt]:=by unfold YV;rw[d];rfl
            rw[e] at f;rw[q,d];exact f
   |put a b=>rw[d] at hd;cases hd
   |place a b=>rw[d] at hd;cases hd
   |mark a b c=>rw[d] at hd;cases hd
 refine⟨λl n=>?_,λi d nm p hd hg=>?_,h.b,λm hm=>by rw[OH g];exact h.fo m hm,λm hm y=>by rw[OH g];exact h.mk_ m hm y⟩
 .obtain⟨⟨i,d,hd⟩,hg⟩:=h.l1 l n;exact⟨⟨i,qC _ d,hd⟩,λz=>hg (k _ z)⟩
 .rcases qt.mp d with q|q
  .exact h.l2 i q nm p hd (λz=>hg (U9 z))
  .rw[qk.mp q] at hd;have e:(YV r).1=[nm,Zy]:=by unfold YV;rw[hd];rfl
   rw[e] at f;exact absurd (N5 f) (AJ j hd)
def Ri{nm:qb}(a:¬nm∈ls.map LE.nm):(ls.filter λl=>decide (l.nm≠nm))=ls:=jU.mpr λl b=>qu λe=>a (qj.mpr ⟨l,b,e⟩)
def L8{nm:qb}(a:¬nm∈bx.map (·.1)):L2.without bx nm=bx:=jU.mpr λl b=>qu λe=>a (qj.mpr ⟨l,b,e⟩)
def BI.Qb3(h:BI rs ls bx mk){nm:qb}(hd:r.d=.put nm p)(hg:nm∈Yu rs)(k:(putN (rs++[r])).Nodup):BI (rs++[r]) (ls.filter λl=>decide (l.nm≠nm)) (L2.without bx nm) mk:=by
 have nn:¬nm∈ls.map LE.nm:=λz=>(h.sJ z).2 hg;have kd:YJ r.d=[nm,Zy]:=by rw[hd];rfl
 obtain⟨f,n,o,s,t,u⟩:=Ga;have g:∀m,m∈Yu (rs++[r])->m∈Yu rs:=λm hm=>(Vx hm).elim id λq=>by rw[hd] at q;cases q.1
 rw[Ri nn,L8 (λz=>nn ((h.b nm).mp z))];refine⟨λl i=>?_,λd a e j b c=>?_,h.b,λm hm=>?_,λm hm y=>?_⟩
 .obtain⟨⟨d,a,hd⟩,hg⟩:=h.l1 l i;exact⟨⟨d,qC _ a,hd⟩,λz=>hg (g _ z)⟩
 .rcases qt.mp a with q|q
  .exact h.l2 d q e j b (λz=>c (U9 z))
  .rw[qk.mp q,hd] at b;cases b;exact absurd (U9 hg) c
 .rw[KP (by rw[kd];exact λz=>f (k2 z).2.symm)];exact h.fo m hm
 .rw[KI (by rw[kd];exact λz=>nomatch (qE (qE z).2).2)];exact h.mk_ m hm y
end
def dw{nm:qb}(h:up bx nm=none)(t:qb):up (bx++[(nm,fo)]) t=if t=nm then some fo else up bx t:=by
 unfold up;rw[List.find?_append];by_cases e:t=nm
 .subst e;have a:bx.find? (λr=>decide (r.1=t))=none:=by
   unfold up at h;exact Option.map_eq_none_iff.mp h
  rw[a,qG rfl];simp
 .rw[qA e];have a:([(nm,fo)]:Rows).find? (λr=>decide (r.1=t))=none:=by
   rw[ya,qF (λz:nm=t=>e z.symm)];rfl
  rw[a,Option.or_none]
def RC(bx:Rows)(nm t:qb):up (L2.without bx nm) t=if t=nm then none else up bx t:=by
 by_cases e:t=nm
 .subst e;rw[qG rfl];refine VA.mpr λh=>?_;obtain⟨r,a,z⟩:=qj.mp h;exact qo (qr.mp a).2 z
 .rw[qA e];unfold up L2.without;congr 1;rw[List.find?_filter];congr 1;funext r;by_cases q:r.1=t
  .rw[qu q];simp[q,e]
  .rw[qF q];simp
def cD{nm:qb}:up (L2.without bx nm++[(nm,fo)]) m=if m=nm then some fo else up bx m:=by
 rw[dw (by rw[RC,qG rfl]),RC];by_cases e:m=nm
 .rw[qG e,qG e]
 .rw[qA e,qA e,qA e]
def fH(rs:qa Rw):gm (Q7 rs):=by
 refine⟨λe he=>?_,λe he=>?_,λe he hm=>?_⟩
 .obtain⟨r,a,rfl⟩:=DA he;exact OI r.d
 .obtain⟨r,a,rfl⟩:=DA he;show 2<=(YJ r.d).length;cases r.d<;>(simp[YJ])
 .obtain⟨r,a,rfl⟩:=DA he;obtain⟨f,g,b,c,h,d⟩:=Ga;have hm:(YJ r.d).getD 1 ""=Zd:=hm;show(∃on,Uh r.u r.d=V.bl on)/\(YJ r.d).length=3
  cases hd:r.d with
  |put m p=>rw[hd] at hm;exact absurd hm.symm b
  |place m fo=>rw[hd] at hm;exact absurd hm.symm d
  |mark m y on=>exact⟨⟨on,U⟩,U⟩
  |drop m=>rw[hd] at hm;exact absurd hm.symm c
def EN{nm:qb} :k∈Oq es nm↔∃e∈es,e.1=k/\k.take 1=[nm]:=by
 unfold Oq;constructor
 .intro h;obtain⟨i,b,rfl⟩:=qj.mp h;have a:=Hm b;have hm:((sel [nm] es).map (·.1)).getD i []∈(sel [nm] es).map (·.1):=by
   rw[zC,qB a];exact jh _
  obtain⟨e,he,q⟩:=qj.mp hm;obtain⟨c,d⟩:=qr.mp he;exact⟨e,c,q,by rw[<-q];exact qo d⟩
 .rintro⟨e,he,rfl,c⟩;have hm:e.1∈(sel [nm] es).map (·.1):=qj.mpr ⟨e,qr.mpr ⟨he,qu c⟩,U⟩;obtain⟨i,b⟩:=tQ hm;have a:=(qW.mp b).1;refine qj.mpr ⟨i,(Bc _).mem_iff.mpr (xh.mpr a),?_⟩;rw[zC,b];rfl
def Ot  :D3 es [m,Zd,y]=rl es [m,Zd,y]:=by
 unfold D3 rl;rw[show decide (([m,Zd,y]:qe).getD 1 ""=Zd)=true from qu rfl,uQ]<;>rfl
def Dh{nm:qb}:y∈Kg (Q7 rs) nm↔rl (Q7 rs) [nm,Zd,y]=true:=by
 unfold Kg;constructor
 .intro h;obtain⟨k,d,rfl⟩:=qj.mp h;obtain⟨b,a⟩:=qr.mp d;obtain⟨e,he,rfl,c⟩:=EN.mp b;have hm:e.1.getD 1 ""=Zd:=by unfold D3 at a;exact qo (zV.mp a).1
  obtain⟨r,l,rfl⟩:=DA he;obtain⟨n,o,f,g,q,i⟩:=Ga;have hm:(YJ r.d).getD 1 ""=Zd:=hm
  cases hd:r.d with
  |put m p=>rw[hd] at hm;exact absurd hm.symm f
  |place m fo=>rw[hd] at hm;exact absurd hm.symm i
  |drop m=>rw[hd] at hm;exact absurd hm.symm g
  |mark m y on=>
   have j:(YV r).1=[m,Zd,y]:=by unfold YV;rw[hd];rfl
   rw[j] at c a⊢;have:m=nm:=(qE c).1;subst this;rw[Ot] at a;exact a
 .intro h;have h0:=h;unfold rl at h
  cases c:QI (Q7 rs) [nm,Zd,y] with
  |none=>rw[c] at h;cases h
  |some e=>
   obtain⟨b,a⟩:=VO c;exact qj.mpr ⟨[nm,Zd,y],qr.mpr ⟨EN.mpr ⟨e,b,a,U⟩,by rw[Ot];exact h0⟩,U⟩
section
variable {rs:qa Rw}{ls:qa LE}{bx:Rows}{mk:qb->qe}{r:Rw}
def W0{nm:qb}{y:qc}  :m∈((ls.filter λl:LE=>decide (l.nm≠nm))++[(⟨nm,y,p⟩:LE)]).map LE.nm↔m=nm\/(m≠nm/\m∈ls.map LE.nm):=by
 rw[qJ,qt];constructor
 .rintro(h|h)
  .obtain⟨l,a,rfl⟩:=qj.mp h;obtain⟨c,b⟩:=qr.mp a;exact .inr ⟨qo b,zr c⟩
  .exact .inl (by simpa using h)
 .rintro(h|⟨h,b⟩)
  .exact .inr (by simp[h])
  .obtain⟨l,a,rfl⟩:=qj.mp b;exact .inl (qj.mpr ⟨l,qr.mpr ⟨a,qu h⟩,U⟩)
def Dk{nm:qb}:m∈(L2.without bx nm++[(nm,fo)]).map (·.1)↔m=nm\/(m≠nm/\m∈bx.map (·.1)):=by
 rw[qJ,qt];constructor
 .rintro(h|h)
  .obtain⟨l,a,rfl⟩:=qj.mp h;obtain⟨c,b⟩:=qr.mp a;exact .inr ⟨qo b,zr c⟩
  .exact .inl (by simpa using h)
 .rintro(h|⟨h,b⟩)
  .exact .inr (by simp[h])
  .obtain⟨l,a,rfl⟩:=qj.mp b;exact .inl (qj.mpr ⟨l,qr.mpr ⟨a,qu h⟩,U⟩)
def BI.QcC(h:BI rs ls bx mk){nm:qb}(y:qc)(hd:r.d=.put nm p)(hg:¬nm∈Yu rs)(j:(putN (rs++[r])).Nodup):BI (rs++[r]) ((ls.filter λl=>decide (l.nm≠nm))++[⟨nm,y,p⟩]) (L2.without bx nm++[(nm,foN (Q7 (rs++[r])) nm)]) (Us mk nm (dd (Kg (Q7 (rs++[r])) nm))):=by
 have nn:¬nm∈ls.map LE.nm:=λz=>AJ j hd (h.sJ z).1;have kd:YJ r.d=[nm,Zy]:=by rw[hd];rfl
 obtain⟨k,t,u,v,w,x⟩:=Ga;have i:∀m,m∈Yu (rs++[r])->m∈Yu rs:=λm hm=>(Vx hm).elim id λq=>by rw[hd] at q;cases q.1
 refine⟨λl c=>?_,λd a f n b g=>?_,λm=>?_,λm hm=>?_,λm hm z=>?_⟩
 .rcases qt.mp c with q|q
  .obtain⟨⟨d,a,hd⟩,hg⟩:=h.l1 l (qr.mp q).1;exact⟨⟨d,qC _ a,hd⟩,λz=>hg (i _ z)⟩
  .rw[qk.mp q];exact⟨⟨r,qx _ (qk.mpr rfl),hd⟩,λz=>hg (i _ z)⟩
 .rcases qt.mp a with q|q
  .obtain⟨l,c,o,s⟩:=h.l2 d q f n b (λz=>g (U9 z));exact⟨l,qC _ (qr.mpr ⟨c,qu λz=>nn (z▸zr c)⟩),o,s⟩
  .rw[qk.mp q,hd] at b;cases b;exact⟨_,qx _ (qk.mpr rfl),U,U⟩
 .rw[W0,Dk,h.b m]
 .rw[cD];by_cases e:m=nm
  .rw[qG e,e]
  .rw[qA e,KP (by rw[kd];exact λz=>k (k2 z).2.symm)];exact h.fo m ((W0.mp hm).resolve_left e).2
 .by_cases e:m=nm
  .rw[e,Yn,Dj];exact Dh
  .rw[YE e,KI (by rw[kd];exact λz=>nomatch (qE (qE z).2).2)];exact h.mk_ m ((W0.mp hm).resolve_left e).2 z
def BI.change(h:BI rs ls bx mk)(v:YU r.d=false)(w:YI (Q7 rs) (YV r)=true)(n:r.d.nm∈ls.map LE.nm):BI (rs++[r]) (chL ls r.d) (chB bx r.d) (chM mk r.d):=by
 obtain⟨A,x,B,C,D,E⟩:=Ga
 cases hd:r.d with
 |put nm p=>rw[hd] at v;cases v
 |drop nm=>
  have kd:YJ r.d=[nm,Zt]:=by rw[hd];rfl
  have o:∀{m:qb},m∈(ls.filter λl=>decide (l.nm≠nm)).map LE.nm↔m≠nm/\m∈ls.map LE.nm:=λ{m}=>by
   constructor
   .intro hm;obtain⟨l,d,rfl⟩:=qj.mp hm;obtain⟨i,j⟩:=qr.mp d;exact⟨qo j,zr i⟩
   .rintro⟨i,j⟩;obtain⟨l,d,rfl⟩:=qj.mp j;exact qj.mpr ⟨l,qr.mpr ⟨d,qu i⟩,U⟩
  show BI (rs++[r]) (ls.filter λl=>decide (l.nm≠nm)) (L2.without bx nm) mk;refine⟨λl d=>?_,λf b c k a g=>?_,λm=>?_,λm hm=>?_,λm hm z=>?_⟩
  .obtain⟨i,j⟩:=qr.mp d;obtain⟨⟨f,b,a⟩,hg⟩:=h.l1 l i;refine⟨⟨f,qC _ b,a⟩,λz=>?_⟩;rcases Vx z with q|⟨_,q⟩
   .exact hg q
   .rw[hd] at q;exact qo j q
  .rcases qt.mp b with q|q
   .obtain⟨l,d,s,t⟩:=h.l2 f q c k a (λz=>g (U9 z));refine⟨l,qr.mpr ⟨d,qu λz=>g ?_⟩,s,t⟩;rw[Bf,hd,qG (show U5 (Dd.drop nm)=true from rfl),<-s,z];exact qx _ (qk.mpr rfl)
   .rw[qk.mp q,hd] at a;cases a
  .rw[o,<-h.b m];constructor
   .intro hm;obtain⟨l,d,rfl⟩:=qj.mp hm;obtain⟨i,j⟩:=qr.mp d;exact⟨qo j,zr i⟩
   .rintro⟨i,j⟩;obtain⟨l,d,rfl⟩:=qj.mp j;exact qj.mpr ⟨l,qr.mpr ⟨d,qu i⟩,U⟩
  .obtain⟨j,i⟩:=o.mp hm;rw[RC,qA j,KP (by rw[kd];exact λz=>x (k2 z).2.symm)];exact h.fo m i
  .obtain⟨j,i⟩:=o.mp hm;rw[KI (by rw[kd];exact λz=>nomatch (qE (qE z).2).2)];exact h.mk_ m i z
 |place nm fo=>
  rw[hd] at n;have n:nm∈ls.map LE.nm:=n;have kd:YJ r.d=[nm,Zh]:=by rw[hd];rfl
  have t:∀m,m∈Yu (rs++[r])->m∈Yu rs:=λm hm=>(Vx hm).elim id λq=>by rw[hd] at q;cases q.1
  have vs:QI (Q7 (rs++[r])) [nm,Zh]=some ([nm,Zh],r.c,r.h,.str fo):=by
   have e:YV r=([nm,Zh],r.c,r.h,.str fo):=by unfold YV;rw[hd];rfl
   rw[Uq,UA,e,qG rfl,qG (by rw[<-e];exact w)]
  show BI (rs++[r]) ls (L2.without bx nm++[(nm,fo)]) mk;refine⟨λl d=>?_,λf b c k a g=>?_,λm=>?_,λm hm=>?_,λm hm z=>?_⟩
  .obtain⟨⟨f,b,a⟩,hg⟩:=h.l1 l d;exact⟨⟨f,qC _ b,a⟩,λz=>hg (t _ z)⟩
  .rcases qt.mp b with q|q
   .exact h.l2 f q c k a (λz=>g (U9 z))
   .rw[qk.mp q,hd] at a;cases a
  .rw[Dk,h.b m];exact⟨λq=>q.elim (λz=>z▸n) λz=>z.2,λq=>(Decidable.em (m=nm)).imp id λz=>⟨z,q⟩⟩
  .rw[cD];by_cases e:m=nm
   .rw[qG e,e];unfold foN;rw[vs]
   .rw[qA e,KP (by rw[kd];exact λz=>e (k2 z).1.symm)];exact h.fo m hm
  .rw[KI (by rw[kd];exact λz=>nomatch (qE (qE z).2).2)];exact h.mk_ m hm z
 |mark nm y on=>
  rw[hd] at n;have n:nm∈ls.map LE.nm:=n;have kd:YJ r.d=[nm,Zd,y]:=by rw[hd];rfl
  have t:∀m,m∈Yu (rs++[r])->m∈Yu rs:=λm hm=>(Vx hm).elim id λq=>by rw[hd] at q;cases q.1
  have vs:rl (Q7 (rs++[r])) [nm,Zd,y]=on:=by
   have e:YV r=([nm,Zd,y],r.c,r.h,.bl on):=by unfold YV;rw[hd];rfl
   unfold rl;rw[Uq,UA,e,qG rfl,qG (by rw[<-e];exact w)];show decide (V.bl on=V.bl true)=on;cases on<;>decide
  have j:∀m∈ls.map LE.nm,L2.up bx m=some (foN (Q7 (rs++[r])) m):=λm hm=>by
   rw[KP (by rw[kd];exact λz=>nomatch (qE (qE z).2).2)];exact h.fo m hm
  have o:∀l∈ls,(∃f∈rs++[r],f.d=.put l.nm l.p)/\¬l.nm∈Yu (rs++[r]):=λl d=>by
   obtain⟨⟨f,b,a⟩,hg⟩:=h.l1 l d;exact⟨⟨f,qC _ b,a⟩,λz=>hg (t _ z)⟩
  have s:∀f∈rs++[r],∀c k,f.d=.put c k->¬c∈Yu (rs++[r])->∃l∈ls,l.nm=c/\l.p=k:=λf b c k a g=>by
   rcases qt.mp b with q|q
   .exact h.l2 f q c k a (λz=>g (U9 z))
   .rw[qk.mp q,hd] at a;cases a
  have mo:∀{m z:qb},m∈ls.map LE.nm->¬(m=nm/\z=y)->(z∈mk m↔rl (Q7 (rs++[r])) [m,Zd,z]=true):=λ{m z} hm u=>by
   rw[KI (by rw[kd];exact λq=>u ⟨(qE q).1.symm,(qE (qE (qE q).2).2).1.symm⟩)];exact h.mk_ m hm z
  cases on with
  |true=>
   refine⟨o,s,h.b,j,λm hm z=>?_⟩;show z∈Us mk nm (YL (mk nm) y) m↔_;by_cases e:m=nm
   .subst e;rw[Yn];have ad:z∈YL (mk m) y↔z∈mk m\/z=y:=by
     unfold YL;split
     .rename_i i
      exact⟨.inl,λq=>q.elim id λq=>q▸i⟩
     .rw[qt,qk]
    rw[ad];by_cases i:z=y
    .subst i;rw[vs];exact⟨λ_=>rfl,λ_=>.inr rfl⟩
    .rw[<-mo hm (λq=>i q.2)];exact⟨λq=>q.resolve_right i,.inl⟩
   .rw[YE e];exact mo hm (λq=>e q.1)
  |false=>
   refine⟨o,s,h.b,j,λm hm z=>?_⟩;show z∈Us mk nm ((mk nm).filter λz=>decide (z≠y)) m↔_;by_cases e:m=nm
   .subst e;rw[Yn,qr];by_cases i:z=y
    .subst i;rw[vs];exact⟨λq=>absurd rfl (qo q.2),λq=>nomatch q⟩
    .rw[<-mo hm (λq=>i q.2)];exact⟨λq=>q.1,λq=>⟨q,qu i⟩⟩
   .rw[YE e];exact mo hm (λq=>e q.1)
end
def MY(ok:∀r∈rs,K5 ws r)(m:qb):((QI (Q7 rs) [m,Zh]).map (·.2.2.2)).getD (.str Zp)=.str (foN (Q7 rs) m)/\foN (Q7 rs) m∈Zp::ws:=by
 unfold foN
 cases a:QI (Q7 rs) [m,Zh] with
 |none=>exact⟨U,qy ..⟩
 |some e=>
  obtain⟨r,b,rfl,c⟩:=Ks a;obtain⟨fo,hd⟩:=P0 c;have e:YV r=([m,Zh],r.c,r.h,.str fo):=by unfold YV;rw[hd];rfl
  rw[e];exact⟨U,qH _ (Mt (ok r b) hd)⟩
def Oe(ok:∀r∈rs,K5 ws r)(h:rl (Q7 rs) [m,Zd,y]=true):y∈ws:=by
 unfold rl at h
 cases a:QI (Q7 rs) [m,Zd,y] with
 |none=>rw[a] at h;cases h
 |some e=>
  obtain⟨r,b,rfl,c⟩:=Ks a;obtain⟨on,hd⟩:=TM c;exact EO (ok r b) hd
def hQ{nm:qb}(ok:∀x∈rs++[r],K5 ws x)(o:ws.length<=5)(s:rs.length<=62)(hd:r.d=.put nm p)(g:(putN (rs++[r])).Nodup)(i:WH H r):Rx H (Q7 (rs++[r])) nm p r.u (foN (Q7 (rs++[r])) nm) (decide (nm∈Yu rs)) ws (Zp::ws) ws:=by
 have b:=ok r (qx _ (qk.mpr rfl));have c:=b.pt nm p hd;obtain⟨t,u,v,A,j,B⟩:=Ga;have kd:YJ r.d=[nm,Zy]:=by rw[hd];rfl
 have a:∀w∈WX (wb p.t++wb p.b),w∈ws:=λw hw=>by
  rcases qt.mp (II hw) with q|q
  .exact c.t.wb w q
  .exact c.b.wb w q
 have f:QI (Q7 (rs++[r])) [nm,Zt]=QI (Q7 rs) [nm,Zt]:=M0 (by rw[kd];exact λz=>j (k2 z).2.symm);obtain⟨f1,f2⟩:=MY ok nm;have k:YV r=([nm,Zy],r.c,r.h,.ref r.u):=by unfold YV;rw[hd];rfl
 have pn:QI (Q7 rs) [nm,Zy]=none:=by
  cases q:QI (Q7 rs) [nm,Zy] with
  |none=>rfl
  |some e=>exact absurd (N5 q) (AJ g hd)
 refine⟨fH _,xM (ai _) (by rw[qz,qS];omega),?_,i.du.p nm p hd,c.g,a,zu (CZ (bE _) a) (by omega),λh=>?_,λh=>?_,f1,f2,λy l=>Oe ok (Dh.mp l)⟩
 .rw[Uq,UA,k,qG rfl,qG (Lo pn)];rfl
 .rw[f]
  cases q:QI (Q7 rs) [nm,Zt] with
  |none=>rfl
  |some e=>exact absurd (Dw.mpr ⟨e,q⟩) (zi h)
 .obtain⟨e,he⟩:=Dw.mp (qo h);rw[f,he];obtain⟨C,m,rfl,n⟩:=Ks he;have d:=Lm n;exact⟨nm,by unfold YV;rw[d];rfl⟩
def aX{Q:VK}{E:XK}
 (h:v8 a H own b db xr L xt xi xf (Q7 rs) ls bx mk ws (Zp::ws) ws n) (bi:BI rs ls bx mk) (i:WH H r) (ok:∀x∈rs++[r],K5 ws x) (e:(putN (rs++[r])).Nodup) (l:ws.length<=5) (o:rs.length<=62) (j:n<=(putN rs).length) (g:(putN (rs++[r])).length<=40)
 (k:∀H' own' c d mk' f,v8 a H' own' b db xr L xt xi xf (Q7 (rs++[r])) c d mk' ws (Zp::ws) ws f->f<=(putN (rs++[r])).length->BI (rs++[r]) c d mk'->KB own own' H H'->Q .non H'):Me a [.ref b,.ref r.x] H Q E:=by
 have j:=ok r (qx _ (qk.mpr rfl));have pl:(putN rs).length<=(putN (rs++[r])).length:=by
  rw[Kz];split
  .rw[qz];omega
  .exact qD _
 refine⟨own,b,db,xr,L,xt,xi,xf,Q7 rs,ls,bx,mk,ws,_,ws,n,r.x,r.c,r.h,r.num,r.q,r.u,r.d,U,h,i.e,i.du,zu (ai rs) (by omega),bi.b,?_,?_,?_⟩
 .intro f H' own' c d;refine k H' own' ls bx mk n ?_ (by omega) (bi.keep0 f e) d;rw[Uq];exact c
 .intro f nm p hd;have g:=hQ ok l o hd e i;rw[Uq] at g;have q:(putN (rs++[r])).length=(putN rs).length+1:=by rw[Kz,hd,qG (show YU (Dd.put nm p)=true from rfl),qz];rfl
  refine⟨_,_,g,by omega,λhg H' own' c d=>?_,λhg y H' own' c d=>?_⟩
  .refine k H' own' _ _ _ n ?_ (by omega) (bi.Qb3 hd (qo hg) e) d;rw[Uq];exact c
  .refine k H' own' _ _ _ (n+1) ?_ (by omega) (bi.QcC y hd (zi hg) e) d;rw[Uq];exact c
 .intro f e;have g:=j.np e;refine⟨?_,λhm H' own' c d=>?_,λhm H' own' c d=>?_⟩
  .cases hd:r.d with
   |put a b=>rw[hd] at e;cases e
   |place m fo=>rw[hd] at g;exact qH _ g
   |mark m y on=>rw[hd] at g;exact g
   |drop m=>trivial
  .refine k H' own' _ _ _ n ?_ (by omega) (bi.change e f hm) d;rw[Uq];exact c
  .refine k H' own' _ _ _ n ?_ (by omega) (bi.away e hm) d;rw[Uq];exact c
def OS(hw:∀w∈ws,w≠("":qb))(ok:∀r∈rs,K5 ws r):BOk (QZ rs):=by
 refine⟨λe he=>?_,λe he b=>?_⟩
 .obtain⟨r,c,a⟩:=LZ he;unfold Wj at a;split at a
  .cases a;rfl
  .cases a;rfl
  .cases a
 .obtain⟨r,c,a⟩:=LZ he;unfold Wj at a;split at a
  .cases a;exact absurd rfl b
  .rename_i on _;cases a;exact⟨_,U⟩
  .cases a
def cj(hw:∀w∈ws,w≠("":qb))(ok:∀r∈rs,K5 ws r)(m:qb):Ag (QZ rs) m=.str (foN (Q7 rs) m):=by
 obtain⟨f1,_⟩:=MY ok m;have a:=(aG hw _ rs rfl ok m).1;unfold Ag
 cases c:QI (Q7 rs) [m,Zh] with
 |none=>
  rw[c] at a f1
  cases b:QI (QZ rs) [m,""] with
  |none=>exact f1
  |some y=>rw[b] at a;cases a
 |some x=>
  rw[c] at a f1
  cases b:QI (QZ rs) [m,""] with
  |none=>rw[b] at a;cases a
  |some y=>
   rw[b] at a;have a:x.2=y.2:=qN a;show y.2.2.2=_;rw[<-a];exact f1
def cT(hw:∀w∈ws,w≠("":qb))(ok:∀r∈rs,K5 ws r)(d:y≠("":qb)):rl (QZ rs) [m,y]=rl (Q7 rs) [m,Zd,y]:=by
 have a:=(aG hw _ rs rfl ok m).2 y d;unfold rl
 cases c:QI (Q7 rs) [m,Zd,y] with
 |none=>
  rw[c] at a
  cases b:QI (QZ rs) [m,y] with
  |none=>rfl
  |some y=>rw[b] at a;cases a
 |some x=>
  rw[c] at a
  cases b:QI (QZ rs) [m,y] with
  |none=>rw[b] at a;cases a
  |some z=>
   rw[b] at a;have a:x.2=z.2:=qN a;show decide (z.2.2.2=V.bl true)=decide (x.2.2.2=V.bl true);rw[a]
def Cg(h:k.length=2):k=[k.getD 0 "",k.getD 1 ""]:=by
 match k,h with
 |[a,b],_=>rfl
def MJ(ok:BOk es) :y∈Vw es m↔y≠("":qb)/\rl es [m,y]=true:=by
 unfold Vw;constructor
 .intro h;obtain⟨e,he,rfl⟩:=qj.mp h;obtain⟨b,a⟩:=qr.mp he;unfold mkL at a;simp only[jb,decide_eq_true_eq,oy,decide_eq_false_iff_not] at a;obtain⟨d,f,c⟩:=a;refine⟨f,?_⟩;rw[Cg (ok.two e b),d] at c;exact c
 .rintro⟨b,a⟩;have h0:=a;unfold rl at a
  cases c:QI es [m,y] with
  |none=>rw[c] at a;cases a
  |some e=>
   obtain⟨f,d⟩:=VO c;refine qj.mpr ⟨e,qr.mpr ⟨f,?_⟩,by rw[d];rfl⟩;unfold mkL;rw[d,h0];show(decide (m=m)&&(!decide (y=("":qb))&&true))=true;rw[qu rfl,qF b];rfl
def PR(a:(es.map (·.1)).Nodup)(ok:BOk es)(m:qb):(Vw es m).Nodup:=by
 have go:∀xs:qa Ent,(xs.map (·.1)).Nodup->(∀e∈xs,e∈es)->(((xs.filter (mkL es m)).map λe=>e.1.getD 1 "")).Nodup:=λxs=>by
  induction xs with
  |nil=>intro _ _;exact zB
  |cons x xs b=>
   intro a c;rw[qU,zK] at a;have b:=b a.2 λe he=>c e (qH _ he);rw[qO];split
   .rename_i f
    rw[qU,zK];refine⟨λd=>a.1 ?_,b⟩;obtain⟨e,he,q⟩:=qj.mp d;obtain⟨g,h⟩:=qr.mp he;unfold mkL at f h;have i:x.1.getD 0 ""=m:=qo (zV.mp f).1;have j:e.1.getD 0 ""=m:=qo (zV.mp h).1;have k:=Cg (ok.two x (c x (qy ..)));have l:=Cg (ok.two e (c e (qH _ g)));rw[show x.1=e.1 by rw[k,l,i,j,q]];exact zr g
   .exact b
 exact go es a λe he=>he
def Tt(hw:∀w∈ws,w≠("":qb))(ok:∀r∈rs,K5 ws r)(bi:BI rs ls bx mk)(hm:m∈ls.map LE.nm):Qx (Vw (QZ rs) m)=SS (Qx (mk m)):=by
 have a:=OS hw ok;rw[<-aH (PR (cx rs) a m)];refine Ao λy=>?_;rw[MJ a,Yf,bi.mk_ m hm y];constructor
 .rintro⟨c,b⟩;rw[cT hw ok c] at b;exact b
 .intro h;have b:=hw y (Oe ok h);exact⟨b,by rw[cT hw ok b];exact h⟩
def Tv(a:(putN rs).Nodup):((Kh (Yu rs) rs).map λr=>r.d.nm).Nodup:=by
 have:List.Sublist (Kh (Yu rs) rs) (rs.filter λr=>YU r.d):=by
  unfold Kh;have e:(rs.filter λr=>YU r.d&&!decide (r.d.nm∈Yu rs))=(rs.filter λr=>YU r.d).filter λr=>!decide (r.d.nm∈Yu rs):=by
   rw[xN];congr 1;funext r;exact Bool.and_comm _ _
  rw[e];exact zF
 exact jr (this.map _) a
def v8.law(h:v8 a H own b db xr L xt xi xf es ls bx mk WI W M n)(k:lL own 7 H H'):v8 a H' (Q0 own 7 H) b db xr L xt xi xf es ls bx mk WI W M n:=
 ⟨k _ _ h.e (.inl (by rw[h.o];decide)),by rw[Qq h.e];exact h.o,h.r.step k,h.l.step k,h.t.step k,h.i.step k,h.f.step k⟩
def v8.reown{own':qc->Nat}(h:v8 a H own b db xr L xt xi xf es ls bx mk WI W M n)(he:∀c,(own c≠0\/∃C d f,H c=some (.ins C d f))->own' c=own c):v8 a H own' b db xr L xt xi xf es ls bx mk WI W M n:=by
 have k:∀{c C d:qc}{f:qa (qb×V)},H c=some (.ins C d f)->own' c=own c:=λe=>he _ (.inr ⟨_,_,_,e⟩);have ne:∀{c:qc}{i:Nat},own c=i+1->own' c=i+1:=λ{c i} e=>by rw[he c (.inl (by rw[e];exact Nat.succ_ne_zero i))];exact e
 refine⟨h.e,by rw[k h.e];exact h.o,?_,?_,?_,?_,?_⟩
 .obtain⟨dx,D,kd,r,g,j⟩:=h.r;exact⟨dx,D,kd,r,by rw[k r.obj];exact g,λc hc=>ne (j c hc)⟩
 .refine⟨h.l.e,ne h.l.o,h.l.nd,h.l.na,λl m=>⟨?_,(h.l.at_ l m).2⟩⟩;obtain⟨p,q⟩:=(h.l.at_ l m).1;exact⟨ne p,q.imp id λ⟨D,e,o⟩=>⟨D,e,ne o⟩⟩
 .obtain⟨dx,m,p,kr,s,t,u,g,j⟩:=h.t;exact⟨dx,m,p,kr,s,t,u,by rw[k s.obj];exact g,λc hc=>ne (j c hc)⟩
 .obtain⟨F,m,g,j⟩:=h.i;obtain⟨d,p,s,e⟩:=m.obj;exact⟨F,m,by rw[k e];exact g,λc hc=>ne (j c hc)⟩
 .obtain⟨F,fo,g,j⟩:=h.f;obtain⟨d,m,T1,p,e⟩:=fo.obj;exact⟨F,fo,by rw[k e];exact g,λc hc=>ne (j c hc)⟩
def TV:HO->Bool
 |.ins _ _ _=>true
 |_=>false
def oE(own:qc->Nat)(H:Hp):qc->Nat:=λc=>if own c=0 then (match H c with
 |some o=>if TV o=true then 0 else 7
 |none=>0) else own c
def bB(h:own c≠0\/∃C d f,H c=some (.ins C d f)):oE own H c=own c:=by
 unfold oE;by_cases z:own c=0
 .rw[qG z];obtain⟨C,d,f,e⟩:=h.resolve_left (λq=>q z);rw[e,z];rfl
 .rw[qA z]
def SH(h:own c=0)(e:H c=some o)(i:TV o=false):oE own H c=7:=by
 unfold oE;rw[qG h,e];show(if TV o=true then 0 else 7)=7;rw[i];rfl
def LstZ(H:Hp)(own:qc->Nat)(c:qc):Prop:=(∃o,H c=some o/\O3 o=false)/\own c=7
def KX.kpo{xs:qa qc}(k:KX xs H H')(h:∀c∈xs,LstZ H own c):lL own 7 H H':=λc o e q=>k c o (λz=>by
 obtain⟨⟨d,a,t⟩,b⟩:=h c z;rcases q with q|q
 .exact q b
 .rw[e] at a;cases a;rw[t] at q;cases q) e
def vu.there{ls:qa Int}(w:vu K H A ls D):∀c∈A.all,∃o,H c=some o/\O3 o=false:=λc hc=>by
 simp only[WA.all,qK,jv,lZ] at hc;rcases hc with h|h|h|h|h|h|h|h
 .obtain⟨xs,e⟩:=w.sa.lst;rw[h];exact⟨_,e,U⟩
 .rw[h];exact⟨_,w.e,U⟩
 .rw[h];exact⟨_,w.eh,U⟩
 .rw[h];exact⟨_,w.ew,U⟩
 .rw[h];exact⟨_,w.en,U⟩
 .rw[h];exact⟨_,w.ep,U⟩
 .rw[h];exact⟨_,w.ec,U⟩
 .rw[h];exact⟨_,w.em,U⟩
def Hs(h:c∈A.ch):c∈A.all:=by
 simp only[WA.ch,qK,jv,lZ] at h;simp only[WA.all,qK,jv,lZ];rcases h with h|h|h|h|h
 .exact .inl h
 .exact .inr (.inr (.inr (.inr (.inl h))))
 .exact .inr (.inr (.inr (.inr (.inr (.inl h)))))
 .exact .inr (.inr (.inr (.inr (.inr (.inr (.inl h))))))
 .exact .inr (.inr (.inr (.inr (.inr (.inr (.inr h))))))
def vu.off{ls:qa Int}{R:qc}(w:vu K H A ls D)(d:R∉A.all)(f:(∀G:Hp,zN K G A.sc (ls.map V.int))\/A.sc≠R):vu K (L2.upd H R o) A ls D:=by
 have a:∀{c:qc}{b:HO},c∈A.all->H c=some b->(L2.upd H R o) c=some b:=λ{c b} hc e=>by rw[Qa (λ(z:c=R)=>d (by rw[<-z];exact hc))];exact e
 have m:∀i c,A.all[i]?=some c->c∈A.all:=λi c e=>qM e;exact⟨w.sa.upd (λz=>d (by rw[z];exact m 0 _ rfl)) f,a (m 1 _ rfl) w.e,a (m 2 _ rfl) w.eh,a (m 3 _ rfl) w.ew,a (m 4 _ rfl) w.en,a (m 5 _ rfl) w.ep,a (m 6 _ rfl) w.ec,a (m 7 _ rfl) w.em,w.nd,w.scn⟩
section
variable {K:Frag}{a:yL}{ns:qa Int}{A:WA}{b R sl:qc}{ws:qe}{G G':Hp}{own:qc->Nat}{rs:qa Rw}{ls:qa LE}{bx:Rows}{mk:qb->qe}{n:Nat}{db xr L xt xi xf:qc}{D:WD}
end
inductive Nv(K:Frag)(vs:qa V)(H:Hp)(Q:VK)(E:XK):Prop
 |mk:∀(st sc rw:qc)(ls:qa Int)(xs:qa V),vs=[.ref st,.ref rw]->nG K H st sc ls->ls.length<=63->rw≠st->H rw=some (.lst xs)->xs.length<=100->(∀(l:qc)(ys:qa V) H',H l=none->ys.Perm xs->SX st H H'->nG K H' st sc ls->H' l=some (.lst ys)->Q (.ref l) H')->Nv K vs H Q E
inductive Ij(a:yL)(vs:qa V)(H:Hp)(Q:VK)(E:XK):Prop
 |mk:∀(own:qc->Nat)(b db xr L xt xi xf:qc)(es:qa Ent)(ls:qa LE)(bx:Rows)(mk:qb->qe)(WI W M:qe)(n:Nat),vs=[.ref b]->v8 a H own b db xr L xt xi xf es ls bx mk WI W M n->(∀l H',H l=none->Qj H H'->H' l=some (.lst ((Qx (ls.map LE.nm)).map V.str))->Q (.ref l) H')->Ij a vs H Q E
inductive Bn(a:yL)(vs:qa V)(H:Hp)(Q:VK)(E:XK):Prop
 |mk:∀(own:qc->Nat)(b db xr L xt xi xf:qc)(es:qa Ent)(ls:qa LE)(bx:Rows)(mk:qb->qe)(WI W M:qe)(n:Nat)(du:qc),vs=[.ref b,.ref du]->v8 a H own b db xr L xt xi xf es ls bx mk WI W M n->(∀m∈ls.map LE.nm,wN m)->ls.length<=100->H du=some (.lst ((Qx (ls.map LE.nm)).map V.str))->(∀H',Qj H H'->Q (.bl true) H')->Bn a vs H Q E
def Kj{α:Type}{ms xs:qa α}{y:α}(k:Nat)(p:ms.Perm xs):(ms.take k++y::ms.drop k).Perm (xs++[y]):=by
 refine List.perm_middle.trans ?_;rw[List.take_append_drop];exact(p.cons y).trans (List.perm_append_singleton y xs).symm
def IK(F:zT K ZK ZK WK a.vK fd)(T:Txt K mg a)(B:YC K a):QQ P w K mg base j6 2 a.vK fd [Za,ZZa] (Nv K):=by
 obtain⟨C,zh,zO⟩:=B.zh;have zP:=@Wh P w K mg base a _ zh T;refine F.ok WW (λD A outer s H vs Q E I h=>?_)
 .obtain⟨st,sc,rw,ls,xs,rfl,p,J,t,f,L,k⟩:=h;have zL:QG 1 _:=I;refine⟨_,(Qd (Qs (i:=2) WW.nd (Yy QA))
   (Qd (YW zo rfl (Yv (pv 1)) (Q8 (i:=3) WW.nd) (Qe (Qy (V5 plainAttrs_list PySem.F.slot_list_insert PySem.F.type_list_insert PQ (pv 2) (zg (QT YG (Ql zP zL rfl T.jj zh.kp zO .nil Qm (zg (pv 0) Qf)) (QT Uk (QC Ym rfl T.vI zX (zg (pv 2) Qf)) Qi)) (zg (pv 3) Qf))))))
   (Qe (Qu (pv 2))))),?_⟩
  refine⟨za _,λl H1 nl s1 M=>?_⟩;have lst:l≠st:=λz=>by obtain⟨_,q⟩:=p.lst;rw[z,q] at nl;cases nl
  refine⟨_,U,rw,U,⟨_,zN.of (s1 _ _ f)⟩,YB (K:=K) (xs:=xs) (λi σ G=>∃(o:Option V)(ms:qa V),σ=[some (.ref st),some (.ref rw),some (.ref l),o]/\ms.Perm (xs.take i)/\G l=some (.lst ms)/\SX st H G/\nG K G st sc ls) ⟨none,[],U,.nil,M,SX.of s1,p.of s1⟩ ?_ ?_ ?_⟩
  .rintro i σ G _ ⟨o,ms,rfl,_,_,g,_⟩;exact zN.of (g _ _ t f)
  .rintro i v σ G x ⟨o,ms,rfl,pm,m,g,d⟩;have N:i<xs.length:=(qW.mp x).1;have O:ms.length=i:=by rw[pm.length_eq,q0];omega
   refine⟨_,U,.inl ⟨U,_,zN.of m⟩,_,U,st,sc,ls,U,d,J,λr R S X y u=>?_⟩;have j:=y _ _ lst m;have m0:=zA r (b:=(ms.length:Int)+1) (by omega);have Y:=zq r (b:=(ms.length:Int)+1) (by omega);refine⟨_,U,l,_,U,.inl (zN.of j),_,_,U,U,_,_,U,U,(by omega),_,U,l,_,_,_,U,U,j,m0,(by omega),(by omega),?_⟩;refine⟨_,_,U,?_,Qc,λc o n e=>by rw[Qa (Qb e nl)];exact y _ _ n (g _ _ n e),u.put p.sq nl lst⟩;rw[zm,x];exact Kj _ pm
  .rintro σ G ⟨o,ms,rfl,pm,m,g,d⟩;rw[zj (qD _)] at pm;exact⟨_,U,k l ms G nl pm g d m⟩
def Pu(F:zT K Zl "Board.names" We a.vg fd)(T:Txt K mg a)(g:YC K a):QQ P w K mg base j6 2 a.vg fd [ZZ] (Ij a):=by
 obtain⟨i,j,vB⟩:=g.uL;have vD:=@IP P w K mg base a _ j T;refine F.ok CJ (λm A outer st H vs Q E o h=>?_)
 .obtain⟨own,b,db,xr,L,xt,xi,xf,es,ls,bx,mk,WI,W,M,n,rfl,h,k⟩:=h;have e:QG 1 _:=o;obtain⟨c,L2,R2,f,d,p,q,r,_⟩:=id h.t;refine⟨_,(Qe (Qu (Ud (Qk (pv 0) U) T.zS T.uJ vD e vB .nil Qm))),?_⟩;refine⟨_,U,b,_,db,_,_,U,h.e,T.zp,T.xV,U,xt,c,_,U,d.obj,U,xt,_,n,U,⟨c,L2,R2,f,d,p,q⟩,λl H' nl s' s=>k l H' nl s' ?_⟩;rw[s,qV];rfl
def FQ(F:zT K ZD ZD VB a.xZ fd)(T:Txt K mg a)(q:YC K a):QQ P w K mg base j6 3 a.xZ fd [Zu,ZZb] (Bn a):=by
 obtain⟨u,x,lb⟩:=q.rQ;have lj:=@Pu P w K mg base a _ x T q;refine F.ok XH (λy A outer st H vs Q E r h=>?_)
 .obtain⟨own,b,db,xr,L,xt,xi,xf,es,ls,bx,mk,WI,W,M,n,G,rfl,h,asc,z,s,k⟩:=h;have d:QG 2 _:=r;have c:=r.units;refine⟨_,(Qd (Qs (i:=2) XH.nd (Ud (pv 0) T.zp T.lh lj d lb .nil Qm))
   (Qd (QU (PW.pt (XJ (UL (Uu (QC Y0 rfl T.j3 boot_isinstance (zg (pv 2) (zg (WS (v:=.ty "list") rfl T.QaR boot_list rfl) Qf))))) (V0 (Qt (Wu c) (pv 2) (pv 1))))) (Qe (Qu YX)) QD)
   (Qd (Qy (V5 plainAttrs_list zZ z5 Uj (pv 2) (zg Qp Qf)))
   (Qd (Qy (V5 plainAttrs_list slot_list_pop type_list_pop Lb (pv 2) (zg Qi Qf)))
   (Qe (Qu (UI (SM c) (Ud (pv 0) T.zp T.lh lj d lb .nil Qm) (pv 1)))))))),?_⟩
  have e:∀m∈Qx (ls.map LE.nm),wN m:=λm hm=>asc m (Yf.mp hm);have B:(Qx (ls.map LE.nm)).length<=100:=by rw[UB,qh];exact z
  refine⟨_,U,b,db,_,U,h.e,U,own,b,db,xr,L,xt,xi,xf,es,ls,bx,mk,WI,W,M,n,U,h,λl H1 nl s1 f=>?_⟩;refine⟨_,U,_,_,_,_,_,U,U,WG.lst f,hK,_,U,QV ?_⟩;refine⟨_,U,_,U,VM (Y5 (zN.of f)) (Y5 (zN.of (s1 _ _ s))) (YO e) ⟨_,U,QV ?_⟩⟩;refine⟨_,U,.inl ⟨U,_,zN.of f⟩,l,_,_,U,U,f,(by rw[qh];exact QF (by omega)),?_⟩;generalize g:(Qx (ls.map LE.nm)).map V.str++[V.str "zz"]=xs;have j:0<xs.length:=by rw[<-g,qz,qS];omega
  have s2:Qj H (upd H1 l (.lst xs)):=s1.z6 nl;have o:(upd H1 l (.lst xs)) l=some (.lst xs):=Qc;show Ua _ _ _ _ (upd H1 l (.lst xs));generalize upd H1 l (.lst xs)=p at s2 o⊢;refine⟨_,U,.inl ⟨U,_,zN.of o⟩,l,xs,0,0,xs[0],U,U,o,by decide,by decide,seqIndex_of (by decide) (by omega),qB j,?_⟩;have s3:Qj H (upd p l (.lst (xs.eraseIdx 0))):=s2.z6 nl;show V2.nx _ _ (upd p l (.lst (xs.eraseIdx 0)));generalize upd p l (.lst (xs.eraseIdx 0))=I at s3⊢;have t:=h.quiet s3;refine⟨_,U,b,db,_,U,t.e,U,_,b,db,xr,L,xt,xi,xf,es,ls,bx,mk,WI,W,M,n,U,t,λJ N C s4 D=>?_⟩;exact⟨_,U,cp (Y5 (zN.of D)) (Y5 (zN.of (s4 _ _ (s3 _ _ s)))) (YO e) (k _ (s3.trans s4))⟩
def b5{a c:Int}{x:qb}(b:HT.vJ a x c y=false)(d:HT.vJ c y a x=false):a=c/\x=y:=by
 unfold HT.vJ at b d;by_cases e:a=c
 .subst e;rw[qG rfl] at b d;by_cases f:x=y
  .exact⟨U,f⟩
  .rw[qA f] at b;rw[qA (λz=>f z.symm)] at d;have g:=zi b;have h:=zi d;refine absurd ?_ f;have:x.cps.toList=y.cps.toList:=List.le_antisymm (uT.mp g) (uT.mp h);exact Ku this
 .rw[qA e] at b;rw[qA (λz=>e z.symm)] at d;have g:=zi b;have h:=zi d;omega
def ab{a b c:Int}{x z:qb}(g:HT.vJ a x b y=false)(d:HT.vJ b y c z=false):HT.vJ a x c z=false:=by
 unfold HT.vJ at g d⊢;by_cases e:a=c
 .rw[qG e];by_cases f:x=z
  .rw[qG f]
  .rw[qA f];refine qF λq=>?_;by_cases h:a=b
   .have i:b=c:=h.symm.trans e;rw[qG h] at g;rw[qG i] at d;by_cases f1:x=y
    .rw[qA (λw=>f (f1.trans w))] at d;exact zi d (f1▸q)
    .rw[qA f1] at g;by_cases f2:y=z
     .exact zi g (f2▸q)
     .rw[qA f2] at d;exact absurd q (uT.mpr (List.le_trans (uT.mp (zi g)) (uT.mp (zi d))))
   .rw[qA h] at g;rw[qA (λw=>h (e.trans w.symm))] at d;have:=zi g;have:=zi d;omega
 .rw[qA e];refine qF λq=>?_;by_cases h:a=b
  .rw[qA (λw=>e (h.trans w))] at d;have:=zi d;omega
  .rw[qA h] at g;have g:=zi g;by_cases i:b=c
   .omega
   .rw[qA i] at d;have:=zi d;omega
def fR(a:Int)(x:qb):HT.vJ a x a x=false:=by unfold HT.vJ;rw[qG rfl,qG rfl]
def h5{a c:Int}{x:qb}(h:HT.vJ a x c y=true):HT.vJ c y a x=false:=by
 cases q:HT.vJ c y a x with
 |false=>rfl
 |true=>
  unfold HT.vJ at h q;by_cases e:a=c
  .rw[qG e] at h;rw[qG e.symm] at q;by_cases f:x=y
   .rw[qG f] at h;cases h
   .rw[qA f] at h;rw[qA (λz=>f z.symm)] at q;exact absurd (qo h) (List.lt_asymm (qo q))
  .rw[qA e] at h;rw[qA (λz=>e z.symm)] at q;have:=qo h;have:=qo q;omega
def Fh:∀(n:Nat)(rs:qa Rw),rs.length=n->∀{k:qe}{e:Ent},QI (Q7 rs) k=some e->∃r∈rs,e=YV r/\YJ r.d=k/\∀x∈rs,YJ x.d=k->HT.vJ x.c x.h r.c r.h=false
 |0,rs,i,k,e,h=>by rw[jI.mp i] at h;cases h
 |n+1,rs,i,k,e,h=>by
  obtain⟨d,c,rfl⟩:∃d r,rs=d++[r]:=by
   rcases uH rs with h|⟨a,b,h⟩
   .rw[h] at i;cases i
   .exact⟨a,b,by rw[h,uI]⟩
  have s:=@Fh n d (by rw[qz] at i;simpa using i) k;have t:c∈d++[c]:=qx _ (qk.mpr rfl);rw[Uq,UA] at h;have old:∀{e},QI (Q7 d) k=some e->(∀r∈d,e=YV r->YJ c.d=k->HT.vJ c.c c.h r.c r.h=false)->∃r∈d++[c],e=YV r/\YJ r.d=k/\∀x∈d++[c],YJ x.d=k->HT.vJ x.c x.h r.c r.h=false:=λ{e} u m=>by
   obtain⟨r,l,he,f,hm⟩:=s u;refine⟨r,qC _ l,he,f,λx g j=>?_⟩;rcases qt.mp g with q|q
   .exact hm x q j
   .rw[qk.mp q] at j⊢;exact m r l he j
  by_cases f:(YV c).1=k
  .rw[qG f] at h;by_cases g:YI (Q7 d) (YV c)=true
   .rw[qG g] at h;cases h;refine⟨c,t,U,f,λx m j=>?_⟩;rcases qt.mp m with q|q
    .obtain⟨o,p⟩:=DB _ rfl q;rw[j] at p;obtain⟨r,l,he,_,hm⟩:=s p;rw[show YV c=(YJ c.d,c.c,c.h,Uh c.u c.d) from rfl,Xi,show YJ c.d=k from f,p] at g;rw[he] at g;exact ab (hm x q j) (h5 g)
    .rw[qk.mp q];exact fR _ _
   .rw[qA g] at h;refine old h λr l he _=>?_;rw[show YV c=(YJ c.d,c.c,c.h,Uh c.u c.d) from rfl,Xi,show YJ c.d=k from f,h] at g;rw[he] at g;exact Bool.eq_false_iff.mpr g
  .rw[qA f] at h;exact old h λr l he kr=>absurd kr f
def stp(r:Rw):Int×qb:=(r.c,r.h)
def Tj{α β:Type}{f:α->β}:∀{xs:qa α},(xs.map f).Nodup->∀{x y:α},x∈xs->y∈xs->f x=f y->x=y
 |x::xs,h,a,b,c,d,e=>by
  rw[qU,zK] at h;rcases qK.mp c with p|p<;>rcases qK.mp d with q|q
  .rw[p,q]
  .exact absurd (by rw[<-p,e];exact zr q) h.1
  .exact absurd (by rw[<-q,<-e];exact zr p) h.1
  .exact Tj h.2 p q e
def Hz{c:qa Rw}(p:c.Perm rs)(s:(rs.map stp).Nodup)(k:qe):QI (Q7 c) k=QI (Q7 rs) k:=by
 cases n:QI (Q7 c) k with
 |none=>
  cases f:QI (Q7 rs) k with
  |none=>rfl
  |some e=>
   obtain⟨r,b,_,d⟩:=Ks f;obtain⟨j,a⟩:=DB _ rfl (p.mem_iff.mpr b);rw[d,n] at a;cases a
 |some v=>
  obtain⟨o,g,h,d,i⟩:=Fh _ _ rfl n;have b:=p.mem_iff.mp g
  cases f:QI (Q7 rs) k with
  |none=>
   obtain⟨j,a⟩:=DB _ rfl b;rw[d,f] at a;cases a
  |some w=>
   obtain⟨q,a,j,l,m⟩:=Fh _ _ rfl f;obtain⟨t,u⟩:=b5 (i q (p.mem_iff.mpr a) l) (m o b d);have:o=q:=Tj s b a (by unfold stp;rw[t,u]);rw[h,j,this]
def EY{a:qa Rw}(p:a.Perm rs) :m∈Yu a↔m∈Yu rs:=((p.filter _).map _).mem_iff
def BI.perm{a:qa Rw}(h:BI a ls bx mk)(p:a.Perm rs)(c:(rs.map stp).Nodup):BI rs ls bx mk:=by
 refine⟨λl d=>?_,λr b nm q hd hg=>h.l2 r (p.mem_iff.mpr b) nm q hd λz=>hg ((EY p).mp z),h.b,λm hm=>?_,λm hm y=>?_⟩
 .obtain⟨⟨r,b,hd⟩,hg⟩:=h.l1 l d;exact⟨⟨r,p.mem_iff.mp b,hd⟩,λz=>hg ((EY p).mpr z)⟩
 .rw[h.fo m hm];unfold foN;rw[Hz p c]
 .rw[h.mk_ m hm y];unfold rl;rw[Hz p c]
abbrev wL:qa Rw->qa (Key×V):=dG (λr:Rw=>r.d.nm) (λr=>V.ref r.u)
abbrev ptV(p:LD):qa V:=[.str p.s,.str p.t,.str p.b,.int p.d,.str p.an]
def eH(p:LD):PyData:=.tuple [.str p.s,.str p.t,.str p.b,.int p.d,.str p.an]
def N6(g:XQ p.s p.t p.b p.d p.an):SeqAt.shaped (eH p)=true:=by
 have a:=g.s_.asc.ok;have b:=g.t_.ok;have c:=g.b_.ok;have d:PyData.strOk p.an=true:=by
  rcases g.a_ with e|e
  .rw[e];decide +kernel
  .exact e.asc.ok
 simp[eH,SeqAt.shaped,PyData.canLay0,PyData.canLayAll0,PyData.depth,PyData.depthAll,a,b,c,d]
def B0{p:qc}{l:LD}(e:H p=some (.tup (ptV l))):RD K H (.ref p) (eH l):=.tup (jW.of e) (.cons (.str _) (.cons (.str _) (.cons (.str _) (.cons (.int _) (.cons (.str _) .nil)))))
structure oD(ws:qe)(ls:qa LE)(bx:Rows)(mk:qb->qe)(xs:qa Rw)(be:qa Ent):Prop where
 x1:∀r∈xs,∃l∈ls,r.d=.put l.nm l.p
 x2:∀l∈ls,∃r∈xs,r.d=.put l.nm l.p
 nd:(xs.map λr=>r.d.nm).Nodup
 len:xs.length<=40
 bo:BOk be
 n64:be.length<64
 bm:∀m,m∈bx.map (·.1)↔m∈ls.map LE.nm
 fo:∀l∈ls,∃fo,L2.up bx l.nm=some fo/\Ag be l.nm=.str fo/\fo∈Zp::ws
 mk_:∀l∈ls,Qx (Vw be l.nm)=Qx (mk l.nm)
 ma:∀l∈ls,(mk l.nm).Nodup/\(∀y∈mk l.nm,y∈ws)/\(mk l.nm).length<=20
 wa:∀w∈Zp::ws,wN w
def oD.ss{xs:qa Rw}{be:qa Ent}(h:oD ws ls bx mk xs be){l:LE}(a:l∈ls):SS (Qx (mk l.nm))=Qx (mk l.nm):=by
 rw[Ao λ_=>Yf,aH (h.ma l a).1]
def cW(hw:∀w∈ws,w≠("":qb))(j:∀w∈Zp::ws,wN w)(ok:∀r∈rs,K5 ws r)(bi:BI rs ls bx mk)(g:(putN rs).Nodup)(k:rs.length<=63)(n:(putN rs).length<=40)(mo:∀m∈bx.map (·.1),(mk m).Nodup/\(∀y∈mk m,y∈ws)/\(mk m).length<=20):oD ws ls bx mk (Kh (Yu rs) rs) (QZ rs):=by
 have lm:∀{l:LE},l∈ls->l.nm∈ls.map LE.nm:=λh=>zr h;have bm:∀{l:LE},l∈ls->l.nm∈bx.map (·.1):=λh=>(bi.b _).mpr (lm h);refine⟨λr f=>?_,λl d=>?_,Tv g,?_,OS hw ok,xM (L0 rs) (by omega),bi.b,λl d=>⟨_,bi.fo _ (lm d),cj hw ok _,(MY ok _).2⟩,λl d=>?_,λl d=>mo _ (bm d),j⟩
 .obtain⟨o,q⟩:=qr.mp f;obtain⟨e,i⟩:=zV.mp q
  cases hd:r.d with
  |put nm p=>
   obtain⟨l,d,s,t⟩:=bi.l2 r o nm p hd (by rw[hd] at i;exact zi (oy _ |>.mp i));exact⟨l,d,by rw[s,t]⟩
  |place a b=>rw[hd] at e;cases e
  |mark a b c=>rw[hd] at e;cases e
  |drop a=>rw[hd] at e;cases e
 .obtain⟨⟨r,f,hd⟩,hg⟩:=bi.l1 l d;exact⟨r,qr.mpr ⟨f,by rw[hd];show(true&&!decide (l.nm∈Yu rs))=true;rw[qF hg];rfl⟩,hd⟩
 .have:=YS (Tv g) (l:=putN rs) λm hm=>Oj hm;rw[qh] at this;omega
 .rw[Tt hw ok bi (lm d),Ao λ_=>Yf,aH (mo _ (bm d)).1]
def v8.fast(h:v8 a H own b db xr L xt xi xf es ls bx mk WI W M n){d:qc}{f:qa (Key×V)}(e:H d=some (.dK f))(g:own d=7)(i:Obj):v8 a (upd H d (.jF i (.dK f))) (Q0 own 7 H) b db xr L xt xi xf es ls bx mk WI W M n:=
 h.law ((KX.upd (qk.mpr rfl)).kpo λc hc=>by rw[qk.mp hc];exact⟨⟨_,e,U⟩,g⟩)
def Gh{a:Obj}(e:H B=some (.dK kvs))(s:Qj (upd H B (.jF a (.dK kvs))) G):Qj H (upd G B (.dK kvs)):=λc o h=>by
 by_cases z:c=B
 .rw[z,e] at h;rw[z,Qc];exact h
 .rw[Qa z];exact s c o (by rw[Qa z];exact h)
inductive NL(a:yL)(vs:qa V)(H:Hp)(Q:VK)(E:XK):Prop
 |mk:∀(own:qc->Nat)(b db xr L xt xi xf:qc)(es:qa Ent)(ls:qa LE)(bx:Rows)(mk:qb->qe)(WI W M:qe)(n:Nat)(ws:qe)(LL B:qc)(kvs:qa (qa Key×V))(be:qa Ent)(xs:qa Rw),
   vs=[.ref b,.ref LL,.ref B]->v8 a H own b db xr L xt xi xf es ls bx mk WI W M n->own LL=7->oD ws ls bx mk xs be->(∀r∈xs,WH H r)->H LL=some (.dK (wL xs))->H B=some (.dT kvs)->QS H kvs be->(∀H',Qj H H'->Q (.bl true) H')->NL a vs H Q E
def S8(F:zT K Jd Jd GJ a.iJ fd)(T:Txt K mg a)(p:YC K a):QQ P w K mg base j6 11 a.iJ fd [Zu,Zc,Zj] (NL a):=by
 obtain⟨fd1,jM,vV⟩:=p.jM;have vX:=@Gn P w K mg base a _ jM T;obtain⟨fd2,xH,mX⟩:=p.xH;have nS:=@ED P w K mg base a _ xH T;obtain⟨fd3,F3,sY⟩:=p.tE;have tp:=@Tb P w K mg base a _ F3 T p;obtain⟨fd4,F4,u0⟩:=p.rf;have u9:=@SV P w K mg base a _ F4 T;obtain⟨fd5,F5,mD⟩:=p.mQ;have mL:=@bL P w K mg base a _ F5 T p;obtain⟨fd6,F6,kS⟩:=p.uc;have kW:=@CV P w K mg base a _ F6 T p;obtain⟨fd7,F7,vC⟩:=p.uN;have vE:=@EG P w K mg base a _ F7 T p;refine F.ok Gi (λcdv A outer s H vs Q E hr h=>?_)
 .obtain⟨own,b,db,xr,L,xt,xi,xf,es,ls,bx,mk,WI,W,M,n,ws,o,B,kvs,be,xs,rfl,h,o7,v,hx,eL,eB,hE,k⟩:=h;have hu:=Q9 hr;have d:=hr.units;have j:QG 10 _:=hr;have hr8:QG 8 _:=j.mono;have hr2:QG 2 _:=j.mono;have C:QG 1 _:=j.mono;refine⟨_,(Qd (KA (YW zo rfl (X7 (pv 1)) (Q8 (i:=3) Gi.nd) (Qd (Qs (i:=4) Gi.nd (QL (pv 0) T.zp T.tf tp j sY .nil Qm (zg (pv 3) Qf)))
   (Qd (QU (PW.pt (XJ (Qt (Wu d) (Ud (Qk (pv 4) U) T.zH T.u3 u9 C u0 .nil Qm) (Qz hu (pv 1) (pv 3))) (V0 (Qt (Wu d) (Ud (QL (pv 0) T.zp T.mG mL hr8 mD .nil Qm (zg (pv 3) Qf)) T.zH T.u3 u9 C u0 .nil Qm) (Qz hu (pv 1) (pv 3)))))) (Qe (Qu YX)) QD)
   (Qd (QU (PW.pt (XJ (Qt Bp (Qk (pv 4) U) (Ql vX C rfl T.ly jM.kp vV .nil Qm (zg (pv 2) (zg (pv 3) Qf)))) (V0 (Qt (Wu d) (Qk (pv 4) U) (Ql nS C rfl T.sr xH.kp mX .nil Qm (zg (pv 2) (zg (pv 3) Qf))))))) (Qe (Qu YX)) QD)
   (Qe (QU (PW.pt (XJ (Qt Bp (QL (Qk (pv 0) U) T.q9 T.wY kW hr2 kS .nil Qm (zg (pv 3) Qf)) (Qk (pv 4) U)) (V0 (Qt (Wu d) (QL (Qk (pv 0) U) T.q9 T.uK vE hr2 vC .nil Qm (zg (pv 3) Qf)) (Qk (pv 4) U))))) (Qe (Qu YX)) QD)))))))
   (Qe (Qu YX))),?_⟩
  refine⟨o,_,eL,λx=>?_⟩;have h1:=h.fast eL o7 x;have kt:∀c ys,H c=some (.tup ys)->(upd H o (.jF x (.dK (wL xs)))) c=some (.tup ys):=λc ys e=>by rw[Qa (λz=>by rw[z,eL] at e;cases e)];exact e
  have O:(upd H o (.jF x (.dK (wL xs)))) B=some (.dT kvs):=by rw[Qa (λz=>by rw[z,eL] at eB;cases eB)];exact eB
  have eF:(upd H o (.jF x (.dK (wL xs)))) o=some (.jF x (.dK (wL xs))):=Qc;have J:∀G,Qj (upd H o (.jF x (.dK (wL xs)))) G->Qj H (upd G o (.dK (wL xs))):=λG s=>Gh eL s;have R:=hE.mono kt;have hx1:∀r∈xs,WH _ r:=λr hr=>(hx r hr).tups kt;generalize upd H o (.jF x (.dK (wL xs)))=H1 at h1 O eF J R hx1⊢;refine⟨_,U,o,_,U,.inl ⟨x,eF,Lz (λi σ G=>∃o3 o4:Option V,σ=[some (.ref b),some (.ref o),some (.ref B),o3,o4]/\Qj H1 G) ⟨none,none,U,Qj.refl _⟩ ?_ ?_ ?_⟩⟩
  .rintro i σ G _ ⟨o3,o4,rfl,s⟩;exact s _ _ eF
  .rintro i kv σ G m ⟨o3,o4,rfl,s2⟩;obtain⟨r,S,rfl⟩:∃r∈xs,kv=(Sum.inr r.d.nm,V.ref r.u):=by
    unfold wL dG at m;rw[qQ] at m
    cases e:xs[i]? with
    |none=>rw[e] at m;cases m
    |some r=>rw[e] at m;exact⟨r,qM e,(qN m).symm⟩
   obtain⟨l,N,hd⟩:=v.x1 r S;have en:r.d.nm=l.nm:=by rw[hd];rfl
   obtain⟨fo,f1,f2,f3⟩:=v.fo l N;obtain⟨m1,m2,m3⟩:=v.ma l N;have hbm:=(v.bm l.nm).mpr (zr N);have hg:=(h1.l.at_ l N).2;have hv:Qv (wL xs) (Sum.inr l.nm)=some (V.ref r.u):=by
    have:=Q3 (f:=λr:Rw=>r.d.nm) (g:=λr=>V.ref r.u) v.nd S;rw[en] at this;exact this
   have eu:=(hx1 r S).du.p _ _ hd;have am:∀y∈Qx (mk l.nm),wN y:=λy hy=>v.wa y (qH _ (m2 y (Yf.mp hy)));have esg:=v.ss N;show Ua _ _ _ _ _;rw[show kV (Sum.inr r.d.nm:Key)=V.str l.nm by rw[en];rfl];have hB2:=h1.quiet s2;refine⟨_,U,b,db,_,U,hB2.e,U,_,U,_,b,db,xr,L,xt,xi,xf,es,ls,bx,mk,WI,W,M,n,l,fo,U,hB2,N,f1,hbm,λy3 g3 H3 ny3 ng3 s3 c3=>?_⟩;obtain⟨⟨q,yl3,t,il3⟩,X⟩:=c3;rw[esg] at X;obtain⟨dl3,fl3,el3⟩:=il3.at
   have s13:=s2.trans s3;refine⟨_,U,y3,_,q,_,_,U,t,T.uY,T.i0,U,yl3,dl3,_,U,el3,U,yl3,_,_,_,_,_,U,il3,λp4 np4=>?_⟩;have s4:Qj H3 (upd H3 p4 (.tup (ptV l.p))):=Qj.zk np4;have e4:(upd H3 p4 (.tup (ptV l.p))) p4=some (.tup (ptV l.p)):=Qc;generalize upd H3 p4 (.tup (ptV l.p))=H4 at s4 e4⊢;have D:=s13.trans s4;refine⟨_,U,_,U,o,_,U,.inl ⟨_,Sum.inr l.nm,.inr ⟨x,D _ _ eF⟩,U,hv.symm⟩,VM (B0 e4) (B0 (D _ _ eu)) (N6 hg) ⟨_,U,QV ?_⟩⟩;have hB4:=h1.quiet D;refine⟨_,U,b,db,_,U,hB4.e,U,_,U,_,b,db,xr,L,xt,xi,xf,es,ls,bx,mk,WI,W,M,n,l,U,hB4,N,λy5 H5 ny5 s5 il5=>?_⟩;obtain⟨dl5,fl5,el5⟩:=il5.at
   have s15:=D.trans s5;refine⟨y5,dl5,_,U,el5,U,y5,_,_,_,_,_,U,il5,λp6 np6=>?_⟩;have s6:Qj H5 (upd H5 p6 (.tup (ptV l.p))):=Qj.zk np6;have e6:(upd H5 p6 (.tup (ptV l.p))) p6=some (.tup (ptV l.p)):=Qc;generalize upd H5 p6 (.tup (ptV l.p))=H6 at s6 e6⊢;have u:=s15.trans s6;have s36:=(s4.trans s5).trans s6;refine⟨_,U,_,U,o,_,U,.inl ⟨_,Sum.inr l.nm,.inr ⟨x,u _ _ eF⟩,U,hv.symm⟩,VM (B0 e6) (B0 (u _ _ eu)) (N6 hg) ⟨_,U,QV ?_⟩⟩;refine⟨_,U,y3,_,q,_,_,U,s36 _ _ t,T.uY,T.lx,U,_,U,_,U,B,kvs,be,l.nm,U,u _ _ O,R.mono λc ys e=>u _ _ e,λH7 s7=>?_⟩;rw[f2];refine⟨U,_,U,?_⟩;rw[Fm,qu rfl];have Y:=u.trans s7;have s37:=s36.trans s7;refine QV ⟨_,U,y3,_,q,_,_,U,s37 _ _ t,T.uY,T.ui,U,_,U,_,U,B,kvs,be,l.nm,U,Y _ _ O,R.mono λc ys e=>Y _ _ e,v.bo,v.n64,λm8 H8 nm8 s8 e8=>?_⟩;rw[v.mk_ l N] at e8;have s18:=Y.trans s8;have I:=s37.trans s8;refine VM (Y5 (zN.of (I _ _ X))) (Y5 (zN.of e8)) (YO am) ⟨_,U,QV ?_⟩;have Z:=h1.quiet s18;obtain⟨Ff,ff,oxf,oFf⟩:=Z.f;obtain⟨dxf,X1,T1,N1,exf⟩:=ff.obj;refine⟨_,U,b,_,db,_,_,U,Z.e,T.zp,T.jf,U,xf,dxf,_,U,exf,U,_,U,xf,bx,mk,W,M,n,Ff,l.nm,fo,U,ff,f1,?_⟩;refine⟨_,U,y3,_,q,_,_,U,I _ _ t,T.uY,T.lx,U,U,_,U,?_⟩;rw[Fm,qu rfl];refine QV ⟨_,U,b,_,db,_,_,U,Z.e,T.zp,T.jf,U,xf,dxf,_,U,exf,U,_,U,xf,bx,mk,W,M,n,Ff,l.nm,U,ff,hbm,λm9 H9 nm9 s9 e9=>?_⟩;refine⟨_,U,y3,_,q,_,_,U,s9 _ _ (I _ _ t),T.uY,T.ui,U,?_⟩;exact VM (Y5 (zN.of e9)) (Y5 (zN.of (s9 _ _ (I _ _ X)))) (YO am) ⟨_,U,QV ⟨_,_,U,s18.trans s9⟩⟩
  .rintro σ G ⟨o3,o4,rfl,s⟩;exact⟨s _ _ eF,k _ (J _ s)⟩
def Dv{a b:qb×qb}(h:Be a b=true):Be b a=true:=by
 unfold Be at h⊢;rw[rY,rY,jb] at h⊢;rcases h with h|h|⟨c,d⟩
 .exact .inr (.inl h)
 .exact .inl h
 .have e:=qo d;exact .inr (.inr ⟨by rw[<-e];exact c,qu e.symm⟩)
def rwF(rows:Rows)(m:qb):qb×qb:=(m,(L2.up rows m).getD "")
def Mo(a:(rows.map (·.1)).Nodup){r:qb×qb}(h:r∈rows):rwF rows r.1=r:=by
 obtain⟨x,ex⟩:=Vz (qj.mpr ⟨r,h,U⟩);unfold rwF;rw[ex,Wv a (WV ex) h];rfl
def Fx(b:(rows.map (·.1)).Nodup)(h:m∈rows.map (·.1)):rwF rows m∈rows:=by
 obtain⟨r,a,rfl⟩:=qj.mp h;rw[Mo b a];exact a
def hg(rows:Rows)(x y:qb):Bool:=Be (rwF rows x) (rwF rows y)
def T7(a:(rows.map (·.1)).Nodup)(ne:NoE rows){x:qb}(b:x∈rows.map (·.1))(c:y∈rows.map (·.1))(h:hg rows x y=true):lV rows x y:=T9 a ne (Fx a c) (Fx a b) (Dv h)
structure OW(rows:Rows)(ns left:qe)(fd:qa (qe)):Prop where
 sub:left.Sublist ns
 ev:left.foldl (Ul rows) fd=Ve rows ns
 un:∀m∈left,Yk rows m∉fd
 cov:∀m∈ns,m∈left\/∃n∈ns,lV rows n m/\Yk rows n∈fd
structure IW(rows:Rows)(n:qb)(l0 t left:qe)(i:Nat):Prop where
 nd:t.Nodup
 tn:n∈t
 ts:∀m∈t,m=n\/m∈l0
 rc:∀m∈t,lV rows n m
 lf:left=l0.filter λm=>!decide (m∈t)
 cl:∀j x,j<i->t[j]?=some x->∀m∈left,hg rows x m=false
def OW.init{ns:qe}:OW rows ns ns []:=⟨List.Sublist.refl _,U,λ_ _=>jv,λm h=>.inl h⟩
def IW.init{n:qb}(h:¬n∈l0):IW rows n l0 [n] l0 0:=
 ⟨zK.mpr ⟨jv,zB⟩,qk.mpr rfl,λm hm=>.inl (qk.mp hm),λm hm=>by rw[qk.mp hm];exact .refl,(jU.mpr λm hm=>by rw[qF (λz:m∈[n]=>h (by rw[<-qk.mp z];exact hm))];rfl).symm,λj x h=>absurd h (sf _)⟩
def IW.step(nd:(rows.map (·.1)).Nodup)(ne:NoE rows){n x:qb}{t left:qe}(h:IW rows n l0 t left i)(l:n∈rows.map (·.1))(h0:∀m∈l0,m∈rows.map (·.1))(o:l0.Nodup)(c:t[i]?=some x) :
 IW rows n l0 (t++left.filter (hg rows x)) (left.filter λm=>!decide (m∈left.filter (hg rows x))) (i+1):=by
 have a:=qM c;have inr:∀m∈t,m∈rows.map (·.1):=λm hm=>(h.ts m hm).elim (λz=>z▸l) (h0 m);have d:∀{m},m∈left->m∈l0/\m∉t:=λ{m} hm=>by
  rw[h.lf] at hm;obtain⟨b,g⟩:=qr.mp hm;exact⟨b,zi (by simpa using g)⟩
 refine⟨?_,qC _ h.tn,λm hm=>?_,λm hm=>?_,?_,λj y r b m hm=>?_⟩
 .refine zW.mpr ⟨h.nd,?_,λu g v k z=>?_⟩
  .rw[h.lf];exact(o.filter _).filter _
  .exact(d (qr.mp k).1).2 (z▸g)
 .exact(qt.mp hm).elim (h.ts m) λq=>.inr (d (qr.mp q).1).1
 .rcases qt.mp hm with q|q
  .exact h.rc m q
  .obtain⟨g,k⟩:=qr.mp q;exact(h.rc x a).trans (T7 nd ne (inr x a) (h0 m (d g).1) k)
 .have g:∀f:qb->Bool,left.filter f=l0.filter λm=>f m&&!decide (m∈t):=λf=>by conv=>lhs;rw[h.lf,xN]
  rw[g λm=>!decide (m∈left.filter (hg rows x))];refine kO λm hm=>?_;by_cases q:m∈t
  .rw[qu q,qu (qC _ q)];simp
  .have e:(m∈left.filter (hg rows x))↔(m∈t++left.filter (hg rows x)):=⟨λz=>qx _ z,λz=>(qt.mp z).resolve_left q⟩;rw[qF q];have k:decide (m∈left.filter (hg rows x))=decide (m∈t++left.filter (hg rows x)):=decide_eq_decide.mpr e;rw[k];simp
 .obtain⟨g,k⟩:=qr.mp hm;have p:i<t.length:=(qW.mp c).1;rw[mS (by omega)] at b;by_cases e:j=i
  .subst e;rw[c] at b;cases b
   cases q:hg rows x m with
   |false=>rfl
   |true=>
    rw[qu (qr.mpr ⟨g,q⟩)] at k;cases k
  .exact h.cl j y (by omega) b m g
def IW.done(nd:(rows.map (·.1)).Nodup)(ne:NoE rows){ns:qe}(b:∀m,m∈ns↔m∈rows.map (·.1)){n:qb}{t left:qe}{fd:qa (qe)}(o:OW rows ns (n::l0) fd)(h:IW rows n l0 t left i)(u:t.length<=i):Qx t=Yk rows n:=by
 have inl:∀m∈n::l0,m∈rows.map (·.1):=λm hm=>(b m).mp (o.sub.subset hm);have k:∀m∈t,m∈n::l0:=λm hm=>(h.ts m hm).elim (λz=>z▸qy ..) (qH _);refine RF nd h.nd λm=>⟨λhm=>⟨inl m (k m hm),h.rc m hm⟩,λ⟨hm,d⟩=>?_⟩;have key:∀{q:qb},q∈rows.map (·.1)->∀{x:qb},x∈t->hg rows x q=true->q∈t:=λ{q} f {x} a g=>by
  refine vG λz=>?_;rcases o.cov q ((b q).mpr f) with c|⟨l,p,v,w⟩
  .have y:q∈l0:=(qK.mp c).resolve_left λe=>z (e▸h.tn);obtain⟨j,s⟩:=tQ a;have:=h.cl j x (zl (qW.mp s).1 u) s q (by rw[h.lf];exact qr.mpr ⟨y,by rw[qF z];rfl⟩);rw[this] at g;cases g
  .have s:lV rows l x:=v.trans (T7 nd ne f (inl x (k x a)) (Dv g));exact o.un x (k x a) (by rw[Cj nd ne (ne l ((b l).mp p)) s];exact w)
 have:=aa nd ne (S:=t.map (rwF rows)) (λr d=>by
  obtain⟨x,a,rfl⟩:=qj.mp d;exact Fx nd (inl x (k x a))) (qj.mpr ⟨_,zr h.tn,U⟩) (λr d q f g=>by
  obtain⟨x,a,rfl⟩:=qj.mp d;have e:=Mo nd f;rw[<-e];exact zr (key (zr f) a (by unfold hg;rw[e];exact Dv g))) hm d
 obtain⟨r,d,e⟩:=qj.mp this;obtain⟨x,a,rfl⟩:=qj.mp d;exact e▸a
def fS{acc:qa (qe)}{n:qb}{t:qe}(h:t∈acc):t∈Ul rows acc n:=by
 unfold Ul;split
 .exact h
 .exact qC _ h
def Bg{rows:Rows}(p:qb->Bool):∀(l:qe)(acc:qa (qe)),(∀m∈l,p m=false->Yk rows m∈acc)->l.foldl (Ul rows) acc=(l.filter p).foldl (Ul rows) acc
 |[],_,_=>rfl
 |m::l,acc,h=>by
  rw[zy,qO]
  cases b:p m with
  |true=>
   rw[qG rfl,zy];exact Bg p l _ λx a q=>fS (h x (qH _ a) q)
  |false=>
   rw[qA qI];have e:Ul rows acc m=acc:=by unfold Ul;rw[qG (h m (qy ..) b)]
   rw[e];exact Bg p l _ λx a q=>h x (qH _ a) q
def OW.step(g:(rows.map (·.1)).Nodup)(ne:NoE rows){ns:qe}(a:∀m,m∈ns↔m∈rows.map (·.1)){n:qb}{t left:qe}{fd:qa (qe)}(o:OW rows ns (n::l0) fd)(h:IW rows n l0 t left i)(k:t.length<=i):OW rows ns left (fd++[Qx t]):=by
 have d:=h.done g ne a o k;have b:n∈ns:=o.sub.subset (qy ..);have mt:∀{m},m∈t↔m∈rows.map (·.1)/\lV rows n m:=λ{m}=>by rw[<-Yf,d,XB]
 have s0:l0.Sublist ns:=(List.sublist_cons_self n l0).trans o.sub;refine⟨by rw[h.lf];exact zF.trans s0,?_,λm hm z=>?_,λm hm=>?_⟩
 .rw[<-o.ev,zy];have e:Ul rows fd n=fd++[Qx t]:=by unfold Ul;rw[qA (o.un n (qy ..)),d]
  rw[e,h.lf];refine(Bg _ l0 _ λm hm q=>?_).symm;have f:m∈t:=qo (by simpa using q);rw[Cj g ne (ne n ((a n).mp b)) (h.rc m f),<-d];exact qx _ (qk.mpr rfl)
 .rw[h.lf] at hm;obtain⟨j,f⟩:=qr.mp hm;have f:m∉t:=zi (by simpa using f);rcases qt.mp z with q|q
  .exact o.un m (qH _ j) q
  .have q:=qk.mp q;have:m∈Yk rows m:=XB.mpr ⟨(a m).mp (s0.subset j),.refl⟩;rw[q] at this;exact f (Yf.mp this)
 .have f:Yk rows n∈fd++[Qx t]:=by rw[d];exact qx _ (qk.mpr rfl)
  rcases o.cov m hm with c|⟨j,a1,a2,l⟩
  .rcases qK.mp c with e|c
   .exact .inr ⟨n,b,e▸.refl,f⟩
   .by_cases q:m∈t
    .exact .inr ⟨n,b,h.rc m q,f⟩
    .exact .inl (by rw[h.lf];exact qr.mpr ⟨c,by rw[qF q];rfl⟩)
  .exact .inr ⟨j,a1,a2,qC _ l⟩
def OF{rows:Rows}:∀(ns:qe)(acc:qa (qe)),acc.length<=(ns.foldl (Ul rows) acc).length
 |[],_=>qD _
 |n::ns,acc=>by
  rw[zy];refine zu ?_ (OF ns _);unfold Ul;split
  .exact qD _
  .rw[qz];omega
def KQ :(xs.map V.str).all Ge=true:=by
 rw[jc];intro v a;obtain⟨x,_,rfl⟩:=qj.mp a;rfl
abbrev Vd(ls:qa LE):Rows:=ls.map λl=>(l.nm,l.p.an)
inductive NG(vs:qa V)(H:Hp)(Q:VK)(E:XK):Prop
 |mk:∀(LL:qc)(lk:qa (Key×V))(x y:qb)(u v:qc)(p q:LD),vs=[.ref LL,.str x,.str y]->H LL=some (.dK lk)->Qv lk (Sum.inr x)=some (.ref u)->Qv lk (Sum.inr y)=some (.ref v)->H u=some (.tup (ptV p))->H v=some (.tup (ptV q))->Q (.bl (Be (x,p.an) (y,q.an))) H->NG vs H Q E
inductive Cp(vs:qa V)(H:Hp)(Q:VK)(E:XK):Prop
 |mk:∀(LL:qc)(xs:qa Rw)(ls:qa LE),vs=[.ref LL]->H LL=some (.dK (wL xs))->(xs.map λr=>r.d.nm).Nodup->(∀r∈xs,∃l∈ls,r.d=.put l.nm l.p)->(∀l∈ls,∃r∈xs,r.d=.put l.nm l.p)->(∀r∈xs,WH H r)->(ls.map LE.nm).Nodup->NoE (Vd ls)->(∀m∈ls.map LE.nm,wN m)->xs.length<=40 ->
   (∀l H' lt,Qj H H'->lt.map (·.2)=Ve (Vd ls) (Qx ((Vd ls).map (·.1)))->Xl H' l lt->Q (.ref l) H')->Cp vs H Q E
def S1(F:zT K Jq Jq BY a.mx fd)(T:Txt K mg a):QQ P w K mg base j6 1 a.mx fd [Zc,JM,JN] NG:=by
 refine F.ok Az (λn A outer st H vs Q E o h=>?_)
 .obtain⟨e,s,x,y,u,v,p,q,rfl,f,c,d,r,ev,k⟩:=h;have g:=Q9 o;refine⟨_,(Qd (Qs (i:=3) Az.nd (Qw QP (Qz g (pv 0) (pv 1)) Qi))
   (Qd (Qs (i:=4) Az.nd (Qw QP (Qz g (pv 0) (pv 2)) Qi))
   (Qe (Qu (Sz (UI Ue (pv 3) (pv 2)) (Sz (UI Ue (pv 4) (pv 1)) (Gm (AQ (UI Bp (pv 3) Qp) (Gm (UI Ue (pv 3) (pv 4))))))))))),?_⟩
  refine⟨_,U,_,U,e,_,U,.inl ⟨_,Sum.inr x,.inl f,U,c.symm⟩,u,_,_,_,U,U,jW.of r,QB (j:=4) rfl,?_⟩;refine⟨_,U,_,U,e,_,U,.inl ⟨_,Sum.inr y,.inl f,U,d.symm⟩,v,_,_,_,U,U,jW.of ev,QB (j:=4) rfl,?_⟩;unfold Be at k;refine⟨_,U,_,U,U,_,U,?_⟩;rw[Ut]
  cases l:decide (p.an=y) with
  |true=>rw[show decide ((x,p.an).2=(y,q.an).1)=true from l] at k;exact Yj k
  |false=>
   rw[show decide ((x,p.an).2=(y,q.an).1)=false from l] at k;refine QV ⟨_,U,_,U,U,_,U,?_⟩;rw[Ut]
   cases m:decide (q.an=x) with
   |true=>rw[show decide ((y,q.an).2=(x,p.an).1)=true from m] at k;exact Yj k
   |false=>
    rw[show decide ((y,q.an).2=(x,p.an).1)=false from m] at k;refine QV ⟨_,U,U,_,U,?_⟩;rw[Fm];by_cases b:p.an=("":qb)
    .rw[qu b];rw[qF (λz=>z b)] at k;exact QV k
    .rw[qF b];rw[qu (show(x,p.an).2≠"" from b)] at k;refine Yj ⟨_,U,_,U,U,?_⟩;rw[Ut];exact k
def IS(F:zT K ZQ ZQ Vu a.wh fd)(T:Txt K mg a)(FF:YC K a):QQ P w K mg base j6 2 a.wh fd [Zc] Cp:=by
 obtain⟨fd1,mM,Qch⟩:=FF.mM;have Qck:=@S1 P w K mg base a _ mM T;refine F.ok YD (λcdv A outer st H vs Q E hr h=>?_)
 .obtain⟨LL,xs,ls,rfl,eL,xnd,x1,x2,hx,lnd,ne,asc,h40,k⟩:=h;have hu:=Q9 hr;have Qdy:=hr.units;have hr1:QG 1 _:=hr;refine⟨_,(Qd (Qs (i:=1) YD.nd (QC (Yg rfl) rfl T.jQ boot_sorted (zg (pv 0) Qf)))
   (Qd (Qs (i:=2) YD.nd (Yy QA))
   (Qd (CN zo (Qt (Wu Qdy) (pv 1) (Yy QA)) (Qd (Qs (i:=3) YD.nd (Yy (Qh (V5 plainAttrs_list slot_list_pop type_list_pop Lb (pv 1) (zg Qi Qf)) QA)))
   (Qd (Qs (i:=4) YD.nd Qi)
   (Qd (CN zo (Qt IG (pv 4) (QC Ym rfl T.vI zX (zg (pv 3) Qf))) (Qd (Qs (i:=5) YD.nd (VL (sc:=Qg Vu) (N:=Ke) (fr:=[(0,Zc),(3,"_law_thread_of"),(4,"_law_at")]) (cs_ rfl rfl) rfl rfl rfl (Yv (pv 1)) (λ_ _ _ _=>Wg (Uu (Ql Qck hr1 rfl T.Qb9 mM.kp Qch .nil Qm (zg (pv 1) (zg (Qw (Lr K) (pv 2) (pv 3)) (zg (pv 0) Qf)))))) (λ_ _ _ _=>(pv 0))))
   (Qd (Xx (sc:=Qg Vu) (N:=Ke) (i:=1) (fr:=[(5,"_law_more")]) (cs_ rfl rfl) rfl rfl rfl YD.nd U rfl (Yv (pv 1)) (λ_ _ _ _=>Wg (Qt (DS K) (pv 0) (pv 1) (by with_unfolding_all rfl))) (λ_ _ _ _=>(pv 0)))
   (Qd (Qs (i:=3) YD.nd (QT bD (pv 3) (pv 5)))
   (Qe (Qs (i:=4) YD.nd (QT Uk (pv 4) Qi)))))))
   (Qe (Qy (V5 plainAttrs_list zZ z5 Uj (pv 2) (zg (QC VX rfl T.jQ boot_sorted (zg (pv 3) Qf)) Qf))))))))
   (Qe (Qu (pv 2)))))),?_⟩
  have hsm:∀m:Nat,m<=100->m<=sizeLine:=λm h=>Ya ((by omega));have tnm:(Vd ls).map (·.1)=ls.map LE.nm:=by rw[qV];rfl
  have O:((Vd ls).map (·.1)).Nodup:=by rw[tnm];exact lnd
  have xm:∀m,m∈(xs.map λr=>r.d.nm)↔m∈ls.map LE.nm:=λm=>by
   constructor
   .intro h;obtain⟨r,hr,rfl⟩:=qj.mp h;obtain⟨l,b,e⟩:=x1 r hr;rw[e];exact qj.mpr ⟨l,b,U⟩
   .intro h;obtain⟨l,b,rfl⟩:=qj.mp h;obtain⟨r,hr,e⟩:=x2 l b;exact qj.mpr ⟨r,hr,by rw[e];rfl⟩
  have ens:Qx (xs.map λr=>r.d.nm)=Qx ((Vd ls).map (·.1)):=YN ((yC xnd O).mpr λm=>by rw[tnm];exact xm m);have look:∀m∈(Vd ls).map (·.1),∃(u:qc)(p:LD),Qv (wL xs) (Sum.inr m)=some (.ref u)/\H u=some (.tup (ptV p))/\rwF (Vd ls) m=(m,p.an):=λm hm=>by
   rw[tnm] at hm;obtain⟨l,b,rfl⟩:=qj.mp hm;obtain⟨r,hr,e⟩:=x2 l b;have:=Q3 (f:=λr:Rw=>r.d.nm) (g:=λr=>V.ref r.u) xnd hr;have c:r.d.nm=l.nm:=by rw[e];rfl
   rw[c] at this;exact⟨r.u,l.p,this,(hx r hr).du.p _ _ e,Mo O (r:=(l.nm,l.p.an)) (qj.mpr ⟨l,b,U⟩)⟩
  refine⟨_,U,LL,_,xs.map (λr=>r.d.nm),U,eL,Aj _ _ _,by rw[qh];omega,λl1 nl1=>?_⟩;rw[ens];generalize hns:Qx ((Vd ls).map (·.1))=ns at k;have nsm:∀m,m∈ns↔m∈(Vd ls).map (·.1):=λm=>by rw[<-hns];exact Yf
  have nsl:ns.length<=40:=by rw[<-hns,<-ens,UB,qh];exact h40
  have nsn:ns.Nodup:=by rw[<-hns];exact(U3 _).nodup_iff.mpr O
  have nsa:∀m∈ns,wN m:=λm hm=>asc m (by rw[<-tnm];exact(nsm m).mp hm);have s1:Qj H (upd H l1 (.lst (ns.map V.str))):=Qj.zk nl1;have e1:(upd H l1 (.lst (ns.map V.str))) l1=some (.lst (ns.map V.str)):=Qc;show Ua _ _ _ _ (upd H l1 (.lst (ns.map V.str)));generalize upd H l1 (.lst (ns.map V.str))=H1 at s1 e1⊢;refine⟨za _,λv H2 nfa s2 e2=>?_⟩;have fl:l1≠v:=Qb e1 nfa;refine⟨λm σ G=>∃(c:qc)(left:qe)(lt:qa (qc×qe))(o3 o4 o5:Option V),m=left.length/\σ=[some (.ref LL),some (.ref c),some (.ref v),o3,o4,o5]/\Qj H G/\H c=none/\G c=some (.lst (left.map V.str))/\Xl G v lt/\c≠v/\(∀p∈lt,p.1≠c/\p.1≠v)/\OW (Vd ls) ns left (lt.map (·.2)),
   ⟨_,l1,ns,[],none,none,none,U,U,s1.trans s2,nl1,s2 _ _ e1,⟨e2,(λ_ z=>nomatch z)⟩,fl,(λ_ z=>nomatch z),OW.init⟩,?_⟩
  have nf:H v=none:=s1.free nfa;rintro m σ G ⟨c,left,lt,o3,o4,o5,rfl,rfl,sG,nla,ela,th,R,lp,ow⟩;refine⟨_,U,za _,λp1 G1 np1 t1 ep1=>?_⟩;have Qdv:∀m∈left,wN m:=λm hm=>nsa m (ow.sub.subset hm);have S:=t1 _ _ ela;have th1:Xl G1 v lt:=⟨t1 _ _ th.1,λp d=>t1 _ _ (th.2 p d)⟩;have sG1:=sG.trans t1;refine⟨.list (left.map PyData.str),.list (([]:qe).map PyData.str),.lst (zN.of S) (GX _),.lst (zN.of ep1) .nil,YO Qdv,U,?_⟩;rw[LG]
  cases left with
  |nil=>
   rw[qu rfl];refine⟨_,U,QV ⟨_,U,k v G1 lt sG1 ow.ev th1⟩⟩
  |cons n l0=>
   rw[qF (λz=>nomatch z)];refine⟨_,U,Yj ⟨_,λσ' H' z=>z,?_⟩⟩;have nnd:(n::l0).Nodup:=jr ow.sub nsn;obtain⟨nn0,l0nd⟩:=zK.mp nnd;have hnr:n∈(Vd ls).map (·.1):=(nsm n).mp (ow.sub.subset (qy ..));have h0r:∀m∈l0,m∈(Vd ls).map (·.1):=λm hm=>(nsm m).mp (ow.sub.subset (qH _ hm));have l0l:(n::l0).length<=40:=zu ow.sub.length_le nsl;rw[qX] at l0l;refine⟨_,U,.inl ⟨U,_,zN.of S⟩,c,_,0,0,.str n,U,U,S,by decide,by decide,seqIndex_of (by decide) (by rw[qh,qX];omega),U,?_⟩;have sG2:Qj H (upd G1 c (.lst (((n::l0).map V.str).eraseIdx 0))):=sG1.z6 nla;have X:(upd G1 c (.lst (((n::l0).map V.str).eraseIdx 0))) c=some (.lst (l0.map V.str)):=Qc;have th2:Xl (upd G1 c (.lst (((n::l0).map V.str).eraseIdx 0))) v lt:=⟨by rw[Qa R.symm];exact th1.1,λp d=>by rw[Qa (lp p d).1];exact th1.2 p d⟩;generalize upd G1 c (.lst (((n::l0).map V.str).eraseIdx 0))=G2 at sG2 X th2⊢;refine⟨hsm _ (by show 1<=100;decide),λJ G3 nta t3 eta=>?_⟩;have th3:Xl G3 v lt:=⟨t3 _ _ th2.1,λp d=>t3 _ _ (th2.2 p d)⟩;have sG3:=sG2.trans t3;have taf:J≠v:=λz=>by rw[z,th2.1] at nta;cases nta
   have tal:c≠J:=Qb X nta;have ntH:H J=none:=sG2.free nta;refine⟨λm σ G=>∃(c J:qc)(t left:qe)(i:Nat)(o5:Option V),m=41-i/\σ=[some (.ref LL),some (.ref c),some (.ref v),some (.ref J),some (.int (i:Int)),o5]/\Qj H G/\H c=none/\G c=some (.lst (left.map V.str))/\G J=some (.lst (t.map V.str))/\Xl G v lt/\c≠v/\(∀p∈lt,p.1≠c/\p.1≠v)/\IW (Vd ls) n l0 t left i/\i<=t.length,
    ⟨_,c,J,[n],l0,0,o5,U,U,sG3,nla,t3 _ _ X,eta,th3,R,lp,IW.init nn0,za _⟩,?_⟩
   rintro m σ L ⟨c,J,t,left,i,o5,rfl,rfl,Y,nla,o,D,y,R,lp,iw,hi⟩;have tl:t.length<=40:=by
    have:=YS iw.nd (l:=n::l0) λm hm=>(iw.ts m hm).elim (λz=>z▸qy ..) (qH _);rw[qX] at this;omega
   have ll:left.length<=l0.length:=by rw[iw.lf];exact qY _ _
   have lm:∀m∈left,m∈l0:=λm hm=>by rw[iw.lf] at hm;exact(qr.mp hm).1
   refine⟨_,U,_,U,J,_,U,.inl (zN.of D),_,_,U,U,_,U,?_⟩;rw[qh];by_cases hlt:i<t.length
   .rw[qu (by omega:(i:Int)<(t.length:Int))];refine Yj ⟨_,λσ' H' z=>z,?_⟩;obtain⟨x,hxt⟩:∃x,t[i]?=some x:=⟨t[i],qB hlt⟩;have hxr:x∈(Vd ls).map (·.1):=(iw.ts x (qM hxt)).elim (λz=>z▸hnr) (h0r x);obtain⟨ux,px,vx,ex,rx⟩:=look x hxr;refine⟨_,U,c,U,⟨_,zN.of o⟩,Km (K:=K) (xs:=left) V.str (hg (Vd ls) x) V.str (hsm _ (by omega)) (zN.of o) ?_ ?_ ?_⟩
    .intro m G5 Q' hm s5 b;obtain⟨B,pm,C,em,I⟩:=look m (h0r m (lm m hm));have s:=Y.trans s5;have he:hg (Vd ls) x m=Be (x,px.an) (m,pm.an):=by unfold hg;rw[rx,I]
     rw[he] at b;exact⟨_,U,_,U,_,U,J,_,_,_,U,U,zN.of (s5 _ _ D),(by rw[QB (j:=i) (by rw[qQ,hxt];rfl)]),_,U,LL,_,x,m,ux,B,px,pm,U,s _ _ eL,vx,C,s _ _ ex,s _ _ em,_,U,b⟩
    .intro m G5 Q' hm s5 _ b;exact⟨_,U,b⟩
    .intro mo Z;have I:Qj H (upd L mo (.lst ((left.filter (hg (Vd ls) x)).map V.str))):=Y.z6 (Y.free Z);have emo:(upd L mo (.lst ((left.filter (hg (Vd ls) x)).map V.str))) mo=some (.lst ((left.filter (hg (Vd ls) x)).map V.str)):=Qc;have B:(upd L mo (.lst ((left.filter (hg (Vd ls) x)).map V.str))) c=some (.lst (left.map V.str)):=by rw[Qa (Qb o Z)];exact o
     have QdD:(upd L mo (.lst ((left.filter (hg (Vd ls) x)).map V.str))) J=some (.lst (t.map V.str)):=by rw[Qa (Qb D Z)];exact D
     have s:Xl (upd L mo (.lst ((left.filter (hg (Vd ls) x)).map V.str))) v lt:=⟨by rw[Qa (Qb y.1 Z)];exact y.1,λp d=>by rw[Qa (Qb (y.2 p d) Z)];exact y.2 p d⟩;show Ua _ _ _ _ (upd L mo (.lst ((left.filter (hg (Vd ls) x)).map V.str)));generalize upd L mo (.lst ((left.filter (hg (Vd ls) x)).map V.str))=G5 at I emo B QdD s⊢;have iw2:=iw.step O ne hnr h0r l0nd hxt;generalize hmo:left.filter (hg (Vd ls) x)=more at emo iw2;have mol:more.length<=left.length:=by rw[<-hmo];exact qY _ _
     refine⟨_,U,c,U,⟨_,zN.of B⟩,Km (K:=K) (xs:=left) V.str (λm=>!decide (m∈more)) V.str (hsm _ (by omega)) (zN.of B) ?_ ?_ ?_⟩
     .intro m G6 Q' hm C b;refine⟨_,U,_,U,mo,_,U,.inl (zN.of (C _ _ emo)),U,KQ,_,U,?_⟩;rw[qG rfl,Af];exact b
     .intro m G6 Q' hm C _ b;exact⟨_,U,b⟩
     .intro M C;generalize hl2:(left.filter λm=>!decide (m∈more))=b at iw2;have sG6:Qj H (upd G5 M (.lst (b.map V.str))):=I.z6 (I.free C);have el6:(upd G5 M (.lst (b.map V.str))) M=some (.lst (b.map V.str)):=Qc;have eta6:(upd G5 M (.lst (b.map V.str))) J=some (.lst (t.map V.str)):=by rw[Qa (Qb QdD C)];exact QdD
      have emo6:(upd G5 M (.lst (b.map V.str))) mo=some (.lst (more.map V.str)):=by rw[Qa (Qb emo C)];exact emo
      have th6:Xl (upd G5 M (.lst (b.map V.str))) v lt:=⟨by rw[Qa (Qb s.1 C)];exact s.1,λp d=>by rw[Qa (Qb (s.2 p d) C)];exact s.2 p d⟩;have l6f:M≠v:=λz=>by rw[z,s.1] at C;cases C
      have l6p:∀p∈lt,p.1≠M/\p.1≠v:=λp d=>⟨Qb (s.2 p d) C,(lp p d).2⟩;have n6:H M=none:=I.free C;show Ua _ _ _ _ (upd G5 M (.lst (b.map V.str)));generalize upd G5 M (.lst (b.map V.str))=G6 at sG6 el6 eta6 emo6 th6⊢;refine⟨_,U,_,U,J,mo,_,_,U,U,eta6,emo6,(by rw[qh,qh];exact hsm _ (by omega)),λta7 G7 nt7 t7 eta7=>?_⟩;rw[<-qJ] at eta7;refine⟨_,U,_,_,U,U,41-(i+1),(by omega),M,ta7,t++more,b,i+1,_,U,U,sG6.trans t7,n6,t7 _ _ el6,eta7,⟨t7 _ _ th6.1,λp d=>t7 _ _ (th6.2 p d)⟩,l6f,l6p,iw2,?_⟩;rw[qz];omega
   .rw[qF (by omega:¬(i:Int)<(t.length:Int))];refine QV ⟨_,U,.inl ⟨U,_,zN.of y.1⟩,_,U,J,t,U,zN.of D,by omega,λst b=>?_⟩;have C:=ow.step O ne nsm iw (by omega);have ltl:lt.length<=40:=by
     have Z:=zQ List.length C.ev;have h2:=Ck (rows:=Vd ls) ns;have M:=OF (rows:=Vd ls) left (lt.map (·.2)++[Qx t]);rw[qz,qh] at M;omega
    have I:Qj H (upd L st (.lst ((Qx t).map V.str))):=Y.z6 (Y.free b);have M:(upd L st (.lst ((Qx t).map V.str))) st=some (.lst ((Qx t).map V.str)):=Qc;have B:(upd L st (.lst ((Qx t).map V.str))) c=some (.lst (left.map V.str)):=by rw[Qa (Qb o b)];exact o
    have s:Xl (upd L st (.lst ((Qx t).map V.str))) v lt:=⟨by rw[Qa (Qb y.1 b)];exact y.1,λp d=>by rw[Qa (Qb (y.2 p d) b)];exact y.2 p d⟩;have Z:st≠v:=λz=>by rw[z,y.1] at b;cases b
    have stl:st≠c:=λz=>by rw[z,o] at b;cases b
    generalize upd L st (.lst ((Qx t).map V.str))=G5 at I M B s⊢;refine⟨v,_,_,U,U,s.1,(by rw[qh];exact QF (by omega)),?_⟩;have el:(lt.map λp=>V.ref p.1)++[V.ref st]=(lt++[((st,Qx t):qc×qe)]).map λp=>V.ref p.1:=by rw[qJ];rfl
    rw[el];refine⟨left.length,by rw[qX];omega,c,left,lt++[((st,Qx t):qc×qe)],_,_,_,U,U,I.z6 nf,nla,by rw[Qa R];exact B,⟨Qc,λp d=>?_⟩,R,λp d=>?_,by rw[qJ];exact C⟩
    .rcases qt.mp d with q|q
     .rw[Qa (lp p q).2];exact s.2 p q
     .rw[qk.mp q,Qa Z];exact M
    .rcases qt.mp d with q|q
     .exact lp p q
     .rw[qk.mp q];exact⟨stl,Z⟩
def gL(c:Nat):Nat:=if decide (c∈aZ.cps.toList)=true then c else 32
def ia:∀c:Nat,c<128->gL (lo1 c)=gS c:=by decide +kernel
inductive HM(vs:qa V)(H:Hp)(Q:VK)(E:XK):Prop
 |mk:∀x:qb,vs=[.str x]->wN x->x.length<=900->(∀(l:qc)(H':Hp),H l=none->Qj H H'->H' l=some (.lst ((sI x).map V.str))->Q (.ref l) H')->HM vs H Q E
def tbD:Dd->qb
 |.put _ p=>(p.t++" ")++p.b
 |_=>""
inductive Em(vs:qa V)(H:Hp)(Q:VK)(E:XK):Prop
 |mk:∀(LL:qc)(xs:qa Rw)(ls:qa LE)(t:qb),vs=[.ref LL,.str t]->H LL=some (.dK (wL xs))->(xs.map λr=>r.d.nm).Nodup->(∀r∈xs,∃l∈ls,r.d=.put l.nm l.p)->(∀r∈xs,WH H r)->(∀l∈ls,XQ l.p.s l.p.t l.p.b l.p.d l.p.an)->xs.length<=40 ->
   (∀l H',H l=none->Qj H H'->H' l=some (.lst ((Qx ((xs.filter λr=>decide (t∈sI (tbD r.d))).map λr=>r.d.nm)).map V.str))->Q (.ref l) H')->Em vs H Q E
def Pj(F:zT K Jc Jc XW a.iE fd)(T:Txt K mg a):QQ P w K mg base j6 1 a.iE fd [JH] HM:=by
 refine F.ok CC (λn A outer s H vs Q E B h=>?_)
 .obtain⟨x,rfl,g,C,k⟩:=h;refine⟨_,(Qd (Qs (i:=1) CC.nd Qp)
   (Qe (Qu (V5 plainAttrs_str PySem.F.slot_str_split PySem.F.type_str_split PL (V5 plainAttrs_str slot_str_join type_str_join FY Qp (zg (VL (sc:=Qg XW) (N:=EJ) (fr:=[(1,Z5)]) (cs_ rfl rfl) rfl rfl rfl (Mu (CS plainAttrs_str PySem.F.slot_str_lower PySem.F.type_str_lower Lc (pv 0))) (λ_ _ _ _=>GY) (λ_ _ _ _=>(Qw (Lr K) (Yy (Qh Qp (Qh (pv 0) QA))) (Ui KS rfl T.Qak boot_int (zg (UI KH (pv 0) (pv 1) (by with_unfolding_all rfl)) Qf))))) Qf)) (zg Qp Qf))))),?_⟩
  have o:(⟨x.cps.map lo1⟩:qb).cps.toList=x.cps.toList.map lo1:=by simp
  have t:(⟨x.cps.map lo1⟩:qb).cps.size=x.length:=by show(x.cps.map _).size=x.cps.size;simp
  refine⟨U,_,U,U,x,U,U,g,(by omega),_,U,Rn (λc=>.str ⟨#[gL c]⟩) (by rw[t];exact Ya ((by omega))) ?_ ?_⟩
  .intro c j Q' hc s3 q;refine⟨_,U,VZ,λp b np s4 e=>?_⟩;refine⟨_,U,_,U,_,_,U,U,.inr ⟨_,U,?_⟩⟩;rw[sj];refine⟨p,_,_,_,U,U,zN.of e,?_,q b s4⟩;have f:gL c=if decide (c∈aZ.cps.toList)=true then c else 32:=rfl
   rw[f]
   cases hd:decide (c∈aZ.cps.toList) with
   |true=>rfl
   |false=>rfl
  .intro D G I s2 f;rw[o] at f;generalize b:x.cps.toList.map (λc=>(⟨#[gL (lo1 c)]⟩:qb))=ys;have u:(x.cps.toList.map lo1).map (λc=>V.str ⟨#[gL c]⟩)=ys.map V.str:=by rw[<-b,qV,qV];rfl
   have e:∀y∈ys,y.length=1:=λy j=>by
    rw[<-b] at j;obtain⟨c,_,rfl⟩:=qj.mp j;rfl
   have v:ys.length=x.length:=by rw[<-b,qh,VS]
   have z:(Txt.join "" ys).cps.toList=x.cps.toList.map gS:=by
    rw[Ou,<-b,qV];have:∀l:qa Nat,(∀c∈l,c<128)->(l.map ((λy:qb=>y.cps.toList)∘λc=>(⟨#[gL (lo1 c)]⟩:qb))).flatten=l.map gS:=λl=>by
     induction l with
     |nil=>intro _;rfl
     |cons c r m=>
      intro h;rw[qU,j9,qU,m λd hd=>h d (qH _ hd),<-ia c (h c (qy ..))];rfl
    exact this _ λc hc=>g c hc
   rw[u] at f;refine⟨"",D,ys,U,U,zN.of f,Dn e (by omega),U,_,_,U,U,by decide +kernel,(by rw[Bb e];omega),λl J nl s5 m=>?_⟩;rw[SF z] at m;exact k l _ (s2.free nl) (s2.trans s5) m
def CU(F:zT K Z1 Z1 W6 a.uu fd)(T:Txt K mg a)(X:YC K a):QQ P w K mg base j6 2 a.uu fd [Zc,Zz] Em:=by
 obtain⟨Y,iO,Qbx⟩:=X.iO;have QbD:=@Pj P w K mg base a _ iO T;refine F.ok Im (λZ A outer s H vs Q E v h=>?_)
 .obtain⟨b,xs,ls,t,rfl,x,B,x1,hx,hg,h40,k⟩:=h;have L:=Q9 v;have C:QG 1 _:=v;refine⟨_,(Qe (KA (Qu (QC VX rfl T.jQ boot_sorted (zg (VL (sc:=Qg W6) (N:=C3) (fr:=[(1,Zz),(0,Zc)]) (cs_ rfl rfl) rfl rfl rfl (X7 (pv 0)) (λ_ _ _ _=>Wg (Qt (Mv K) (pv 1) (Ql QbD C rfl T.Qbm iO.kp Qbx .nil Qm (zg (QT Uv (QT Uv (Qw (Up K) (Qz L (pv 2) (pv 0)) Qi) Qp) (Qw (Up K) (Qz L (pv 2) (pv 0)) Qi)) Qf)) (by with_unfolding_all rfl))) (λ_ _ _ _=>(pv 0))) Qf))))),?_⟩;refine⟨b,_,x,λn=>?_⟩;have kt:∀c ys,H c=some (.tup ys)->(upd H b (.jF n (.dK (wL xs)))) c=some (.tup ys):=λc ys e=>by rw[Qa (λz=>by rw[z,x] at e;cases e)];exact e
  have p:(upd H b (.jF n (.dK (wL xs)))) b=some (.jF n (.dK (wL xs))):=Qc;have d:∀G,Qj (upd H b (.jF n (.dK (wL xs)))) G->Qj H (upd G b (.dK (wL xs))):=λG s=>Gh x s;have u:∀r∈xs,WH _ r:=λr v=>(hx r v).tups kt;generalize upd H b (.jF n (.dK (wL xs)))=H1 at p d u⊢;refine⟨_,U,b,_,U,.inl ⟨n,p,Bz (xs:=xs) (λr=>V.str r.d.nm) (λr=>decide (t∈sI (tbD r.d))) (λr=>V.str r.d.nm) (Ya ((by omega))) p (by rw[Aj,qV];rfl) ?_ ?_ ?_⟩⟩
  .intro r I Q' i s3 J;obtain⟨l,hl,hd⟩:=x1 r i;have en:r.d.nm=l.nm:=by rw[hd];rfl
   have g:=hg l hl;have e60:=g.tl;have M:=g.bl;have hv:Qv (wL xs) (Sum.inr r.d.nm)=some (V.ref r.u):=Q3 (f:=λr:Rw=>r.d.nm) (g:=λr=>V.ref r.u) B i;have O:=s3 _ _ ((u r i).du.p _ _ hd);have R:Q5 I b (V.str r.d.nm) (some (V.ref r.u)):=.inl ⟨_,Sum.inr r.d.nm,.inr ⟨n,s3 _ _ p⟩,U,hv.symm⟩;have S:(l.p.t++" ").length=l.p.t.length+1:=by rw[WT];rfl
   refine⟨_,U,_,U,_,U,b,_,U,R,r.u,_,_,_,U,U,jW.of O,QB (j:=1) rfl,_,_,U,U,(by show l.p.t.length+1<=sizeLine;exact Ya ((by omega))),?_⟩;refine⟨_,U,_,U,b,_,U,R,r.u,_,_,_,U,U,jW.of O,QB (j:=2) rfl,_,_,U,U,(by rw[S];exact Ya ((by omega))),?_⟩;refine⟨_,U,(g.t_.app (y:=" ") (λc hc=>by have z:c=32:=(qk.mp hc);omega)).app g.b_,(by rw[WT,S];omega),λm H4 nm s4 e4=>?_⟩;refine⟨m,_,U,.inl (zN.of e4),U,KQ,_,U,?_⟩;rw[qA qI,Af];have:=J H4 s4;rw[hd] at this;exact this
  .intro r I Q' i s3 _ J;exact⟨_,U,J I (Qj.refl _)⟩
  .intro D i R s2 I;have em:((xs.filter λr=>decide (t∈sI (tbD r.d))).map λr=>V.str r.d.nm)=((xs.filter λr=>decide (t∈sI (tbD r.d))).map λr=>r.d.nm).map V.str:=by rw[qV];rfl
   rw[em] at I;have O:=qY (λr:Rw=>decide (t∈sI (tbD r.d))) xs;refine⟨D,_,U,zN.of I,(by rw[qh];omega),λl nl=>?_⟩;generalize ((xs.filter λr=>decide (t∈sI (tbD r.d))).map λr=>r.d.nm)=ns at k⊢;have J:Qj H1 (upd i l (.lst ((Qx ns).map V.str))):=s2.trans (Qj.zk nl);have M:l≠b:=(Qb (s2 _ _ p) nl).symm;refine⟨J _ _ p,k l _ ?_ (d _ J) (by rw[Qa M];exact Qc)⟩
   cases q:H l with
   |none=>rfl
   |some o=>
    have:=d i s2 _ _ q;rw[Qa M,nl] at this;cases this
def nF(a:Rw->qb)(ys:qa Rw)(f:qb):Int:=((ys.filter λr=>decide (a r=f)).length:Nat)
def uF(a:Rw->qb)(sF:Rw->Bool)(ys:qa Rw)(f:qb):Int:=((ys.filter λr=>decide (a r=f)&&sF r).length:Nat)
def sF(be:qa Ent)(r:Rw):Bool:=!decide (JO∈Qx (Vw be r.d.nm))
def bQ(a:Rw->qb)(ys:qa Rw)(r:Rw)(f:qb):nF a (ys++[r]) f=nF a ys f+if a r=f then 1 else 0:=by
 unfold nF;rw[zb,qz,qO];by_cases h:a r=f
 .rw[qG (qu h),qG h];simp
 .rw[qA (by rw[qF h];exact qI),qA h];simp
def aO(a:Rw->qb)(s:Rw->Bool)(ys:qa Rw)(r:Rw)(f:qb):uF a s (ys++[r]) f=uF a s ys f+if a r=f then (if s r=true then 1 else 0) else 0:=by
 unfold uF;rw[zb,qz,qO];by_cases h:a r=f
 .rw[qu h,qG h,uQ]
  cases s r with
  |true=>rw[qG rfl,qG rfl];simp
  |false=>rw[qA qI,qA qI];simp
 .rw[qF h,qA h,tK,qA qI];simp
structure FdI(G:Hp)(fo:qc)(fF:Rw->qb)(s:Rw->Bool)(ys:qa Rw)(fs:qe)(kvs:qa (Key×V)):Prop where
 e:G fo=some (.dK kvs)
 k:kvs.map (λkv=>kV kv.1)=fs.map V.str
 k2:kvs.map (·.1)=fs.map Sum.inr
 nd:fs.Nodup
 len:fs.length<=ys.length
 m:∀f,f∈fs↔∃r∈ys,fF r=f
 v:∀f∈fs,∃c,Qv kvs (Sum.inr f)=some (.ref c)/\G c=some (.tup [.int (nF fF ys f),.int (uF fF s ys f)])
def FdI.none{fo:qc}{b:Rw->qb}{s:Rw->Bool}{ys:qa Rw}{fs:qe}(h:FdI G fo b s ys fs kvs){f:qb}(hf:f∉fs):Qv kvs (Sum.inr f)=none/\nF b ys f=0/\uF b s ys f=0:=by
 have c:∀r∈ys,¬b r=f:=λr a z=>hf ((h.m f).mpr ⟨r,a,z⟩);refine⟨?_,?_,?_⟩
 .cases q:Qv kvs (Sum.inr f) with
  |none=>rfl
  |some v=>
   have:=Ng q;rw[h.k2] at this;obtain⟨g,hg,e⟩:=qj.mp this;exact absurd (jH e▸hg) hf
 .unfold nF;rw[List.filter_eq_nil_iff.mpr λr a=>by rw[qF (c r a)];exact qI];rfl
 .unfold uF;rw[List.filter_eq_nil_iff.mpr λr a=>by rw[qF (c r a)];exact qI];rfl
def FdI.keep{a:Hp}{fo:qc}{b:Rw->qb}{s:Rw->Bool}{ys:qa Rw}{fs:qe}(h:FdI G fo b s ys fs kvs)(e:a fo=some (.dK kvs))(t:∀c xs,G c=some (.tup xs)->a c=some (.tup xs)):FdI a fo b s ys fs kvs:=
 ⟨e,h.k,h.k2,h.nd,h.len,h.m,λf hf=>by obtain⟨c,d,g⟩:=h.v f hf;exact⟨c,d,t _ _ g⟩⟩
def FdI.put{fo:qc}{d:Rw->qb}{s:Rw->Bool}{ys:qa Rw}{fs:qe}(h:FdI G fo d s ys fs kvs)(m:G c=some (.tup [.int (nF d ys (d r)+1),.int (uF d s ys (d r)+if s r=true then 1 else 0)])):FdI (upd G fo (.dK (Ye kvs (Sum.inr (d r)) (.ref c)))) fo d s (ys++[r]) (if d r∈fs then fs else fs++[d r]) (Ye kvs (Sum.inr (d r)) (.ref c)):=by
 have k:(Ye kvs (Sum.inr (d r)) (.ref c)).map (·.1)=(if d r∈fs then fs else fs++[d r]).map Sum.inr:=by
  by_cases hf:d r∈fs
  .rw[qG hf,EV.1 (by rw[h.k2];exact zr hf),h.k2]
  .rw[qA hf,EV.2 (λz=>by rw[h.k2] at z;obtain⟨g,hg,e⟩:=qj.mp z;exact hf (jH e▸hg)),h.k2,qJ];rfl
 refine⟨Qc,?_,k,?_,?_,λf=>?_,λf hf=>?_⟩
 .have:=zQ (List.map kV) k;rw[qV,qV] at this;exact this
 .by_cases hf:d r∈fs
  .rw[qG hf];exact h.nd
  .rw[qA hf];refine zW.mpr ⟨h.nd,by simp,λa i b j z=>?_⟩;rw[qk.mp j] at z;exact hf (z▸i)
 .have:=h.len;rw[qz];split
  .omega
  .rw[qz];simp;omega
 .have j:f∈(if d r∈fs then fs else fs++[d r])↔f∈fs\/f=d r:=by
   by_cases hf:d r∈fs
   .rw[qG hf];exact⟨.inl,λz=>z.elim id λe=>e▸hf⟩
   .rw[qA hf,qt,qk]
  rw[j,h.m];constructor
  .rintro(⟨x,i,e⟩|e)
   .exact⟨x,qC _ i,e⟩
   .exact⟨r,qx _ (qk.mpr rfl),e.symm⟩
  .rintro⟨x,i,e⟩;rcases qt.mp i with q|q
   .exact .inl ⟨x,q,e⟩
   .rw[qk.mp q] at e;exact .inr e.symm
 .rw[Cd,bQ,aO];have l:∀{x:qc}{xs:qa V},G x=some (.tup xs)->(upd G fo (.dK (Ye kvs (Sum.inr (d r)) (.ref c)))) x=some (.tup xs):=λ{x xs} e=>by rw[Qa (λz=>by rw[z,h.e] at e;cases e)];exact e
  by_cases e:f=d r
  .rw[e,qG rfl,qG rfl,qG rfl];exact⟨c,U,l m⟩
  .rw[qA (λz=>e (jH z)),qA (λz=>e z.symm),qA (λz=>e z.symm),Int.add_zero,Int.add_zero];have j:f∈fs:=by
    by_cases i:d r∈fs
    .rw[qG i] at hf;exact hf
    .rw[qA i] at hf;exact(qt.mp hf).resolve_right λz=>e (qk.mp z)
   obtain⟨x,i,n⟩:=h.v f j;exact⟨x,i,l n⟩
inductive Cq(vs:qa V)(H:Hp)(Q:VK)(E:XK):Prop
 |mk:∀(LL B:qc)(kvs:qa (qa Key×V))(be:qa Ent)(xs:qa Rw)(fF:Rw->qb),vs=[.ref LL,.ref B]->H LL=some (.dK (wL xs))->H B=some (.dT kvs)->QS H kvs be->BOk be->be.length<64->xs.length<=40->(∀r∈xs,Ag be r.d.nm=.str (fF r)) ->
   (∀l H' (qs:qa L7) fs,Qj H H'->fs.Nodup->(∀f,f∈fs↔∃r∈xs,fF r=f)->qs.map (·.2)=Qx fs->H' l=some (.lst (qs.map λq=>V.ref q.1))->(∀q∈qs,H' q.1=some (.tup [.str q.2,.int (nF fF xs q.2),.int (uF fF (sF be) xs q.2)]))->Q (.ref l) H')->Cq vs H Q E
def IU(F:zT K ZR ZR Wo a.wj fd)(T:Txt K mg a)(FF:YC K a):QQ P w K mg base j6 2 a.wj fd [Zc,Zj] Cq:=by
 obtain⟨fd1,jM,vV⟩:=FF.jM;have vX:=@Gn P w K mg base a _ jM T;obtain⟨fd2,xH,mX⟩:=FF.xH;have nS:=@ED P w K mg base a _ xH T;refine F.ok Vf (λcdv A outer s H vs Q E hr h=>?_)
 .obtain⟨d,B,kvs,be,xs,m,rfl,Y,eB,hE,bo,n64,h40,hf,k⟩:=h;have hu:=Q9 hr;have Z:QG 1 _:=hr;refine⟨_,(Qd (Qs (i:=2) Vf.nd Yc)
   (Qd (KA (YW zo rfl (X7 (pv 0)) (Q8 (i:=3) Vf.nd) (Qd (Qs (i:=4) Vf.nd (Ql vX Z rfl T.ly jM.kp vV .nil Qm (zg (pv 1) (zg (pv 3) Qf))))
   (Qd (Qs (i:=5) Vf.nd (Vp hu (pv 2) (pv 4) (Yq (Qh Qi (Qh Qi QA))) ⟨U,U,U,U⟩))
   (Qe (Yp hu (pv 2) (pv 4) (Yq (Qh (QT Uk (Qw QP (pv 5) Qi) Qi) (Qh (QT Uk (Qw QP (pv 5) Qi) (Ui KS rfl T.Qak boot_int (zg (UI Xz Qp (Ql nS Z rfl T.sr xH.kp mX .nil Qm (zg (pv 1) (zg (pv 3) Qf))) (by with_unfolding_all rfl)) Qf))) QA))) rfl))))))
   (Qe (Qu (VL (sc:=Qg Wo) (N:=Br) (fr:=[(2,Z6)]) (cs_ rfl rfl) rfl rfl rfl (Yv (QC (Yg rfl) rfl T.jQ boot_sorted (zg (pv 2) Qf))) (λ_ _ _ _=>GY) (λ_ _ _ _=>(Yq (Qh (pv 0) (Qh (Qw (Up K) (Qz hu (pv 1) (pv 0)) Qi) (Qh (Qw (Up K) (Qz hu (pv 1) (pv 0)) Qi) QA)))))))))),?_⟩
  intro fo u;have S:d≠fo:=Qb Y u;have fB:B≠fo:=Qb eB u;refine⟨d,_,(by rw[Qa S];exact Y),λC=>?_⟩;have kt:∀c ys,H c=some (.tup ys)->(upd (upd H fo (.dK [])) d (.jF C (.dK (wL xs)))) c=some (.tup ys):=λc ys e=>by rw[Qa (λz=>by rw[z,Y] at e;cases e),Qa (Qb e u)];exact e
  have L:(upd (upd H fo (.dK [])) d (.jF C (.dK (wL xs)))) B=some (.dT kvs):=by rw[Qa (λz=>by rw[z,Y] at eB;cases eB),Qa fB];exact eB
  have eF:(upd (upd H fo (.dK [])) d (.jF C (.dK (wL xs)))) d=some (.jF C (.dK (wL xs))):=Qc;have ef:(upd (upd H fo (.dK [])) d (.jF C (.dK (wL xs)))) fo=some (.dK []):=by rw[Qa S.symm];exact Qc
  have I:∀G,SX fo (upd (upd H fo (.dK [])) d (.jF C (.dK (wL xs)))) G->Qj H (upd G d (.dK (wL xs))):=λG s c o h=>by
   by_cases z:c=d
   .rw[z,Y] at h;rw[z,Qc];exact h
   .have b:c≠fo:=Qb h u;rw[Qa z];exact s c o b (by rw[Qa z,Qa b];exact h)
  have M:=hE.mono kt;generalize upd (upd H fo (.dK [])) d (.jF C (.dK (wL xs)))=H1 at L eF ef I M⊢;have fd0:FdI H1 fo m (sF be) [] [] []:=⟨ef,U,U,zB,qD _,λf=>⟨(λz=>nomatch z),λ⟨_,z,_⟩=>nomatch z⟩,λ_ z=>nomatch z⟩;refine⟨_,U,d,_,U,.inl ⟨C,eF,Lz (λi σ G=>∃(o3 o4 o5:Option V)(fs:qe)(g:qa (Key×V)),σ=[some (.ref d),some (.ref B),some (.ref fo),o3,o4,o5]/\SX fo H1 G/\FdI G fo m (sF be) (xs.take i) fs g) ⟨none,none,none,[],[],U,SX.of (Qj.refl _),fd0⟩ ?_ ?_ ?_⟩⟩
  .rintro i σ G _ ⟨o3,o4,o5,fs,g,rfl,s,_⟩;exact s _ _ S eF
  .rintro i kv σ G t ⟨o3,o4,o5,fs,g,rfl,s2,O⟩;obtain⟨r,hri,rfl⟩:∃r,xs[i]?=some r/\kv=(Sum.inr r.d.nm,V.ref r.u):=by
    unfold wL dG at t;rw[qQ] at t
    cases e:xs[i]? with
    |none=>rw[e] at t;cases t
    |some r=>rw[e] at t;exact⟨r,U,(qN t).symm⟩
   have et:xs.take (i+1)=xs.take i++[r]:=by rw[zm,hri];rfl
   have hrx:=qM hri;rw[et];show Ua _ _ _ _ _;rw[show kV (Sum.inr r.d.nm:Key)=V.str r.d.nm from rfl];have tk:∀{c ys},H1 c=some (.tup ys)->G c=some (.tup ys):=λ{c ys} e=>s2 _ _ (λz=>by rw[z,ef] at e;cases e) e;refine⟨_,U,_,U,B,kvs,be,r.d.nm,U,s2 _ _ fB L,M.mono λc ys e=>tk e,λX t2=>?_⟩;rw[hf r hrx];refine⟨_,U,fo,U,.inl ⟨_,.inl (t2 _ _ O.e)⟩,_,U,VZ,λd0 G3 nd0 t3 ed0=>?_⟩;have x:=t2.trans t3;have b:=O.keep (x _ _ O.e) λc ys e=>x _ _ e;have s3:SX fo H1 G3:=s2.trans (SX.of x);obtain⟨ov,c0,hg,hov,ec0⟩:∃(ov:Option V)(c0:qc),Q5 G3 fo (V.str (m r)) ov/\ov.getD (.ref d0)=.ref c0/\G3 c0=some (.tup [.int (nF m (xs.take i) (m r)),.int (uF m (sF be) (xs.take i) (m r))]):=by
    by_cases hm:m r∈fs
    .obtain⟨c,c1,c2⟩:=b.v _ hm;exact⟨_,c,Q5.k (k:=Sum.inr (m r)) b.e,by rw[c1];rfl,c2⟩
    .obtain⟨y,J,R⟩:=b.none hm;exact⟨_,d0,Q5.k (k:=Sum.inr (m r)) b.e,by rw[y];rfl,by rw[J,R];exact ed0⟩
   refine⟨ov,hg,?_⟩;rw[hov];refine⟨_,U,c0,_,_,_,U,U,jW.of ec0,QB (j:=0) rfl,_,_,U,U,?_⟩;refine⟨_,U,c0,_,_,_,U,U,jW.of ec0,QB (j:=1) rfl,?_⟩;refine⟨_,U,_,U,B,kvs,be,r.d.nm,U,s3 _ _ fB L,M.mono λc ys e=>x _ _ (tk e),bo,n64,λm4 G4 nm4 t4 e4=>?_⟩;refine⟨m4,_,U,.inl (zN.of e4),U,KQ,.inr ⟨_,U,_,_,U,U,VZ,λc5 G5 nc5 t5 e5=>?_⟩⟩;rw[qG rfl,Af] at e5;have R:=t4.trans t5;have y:=b.keep (R _ _ b.e) λc ys e=>R _ _ e;have kl:g.length<sizeLine:=by
    have h1:=zQ List.length y.k2;rw[qh,qh] at h1;have J:=y.len;rw[q0] at J;rw[h1];exact QF (by omega)
   refine⟨_,U,_,U,fo,_,U,UN.k (k:=Sum.inr (m r)) y.e kl,?_⟩;exact⟨_,_,_,_,_,U,(s3.trans (SX.of R)).trans λc o n e=>by rw[Qa n];exact e,y.put e5⟩
  .rintro σ G ⟨o3,o4,o5,fs,g,rfl,s2,O⟩;rw[Gx,ji] at O;refine⟨s2 _ _ S eF,?_⟩;have y:=I G s2;have t:FdI (upd G d (.dK (wL xs))) fo m (sF be) xs fs g:=O.keep (by rw[Qa S.symm];exact O.e) λc ys e=>by rw[Qa (λz=>by rw[z,s2 _ _ S eF] at e;cases e)];exact e
   show Ua _ _ _ _ _;generalize upd G d (.dK (wL xs))=X at y t⊢;have fl:=t.len;refine⟨_,U,fo,g,fs,U,t.e,t.k,(by omega),λl nl=>?_⟩;have s3:Qj H (upd X l (.lst ((Qx fs).map V.str))):=y.z6 (y.free nl);have R:(upd X l (.lst ((Qx fs).map V.str))) l=some (.lst ((Qx fs).map V.str)):=Qc;have t3:Qj X (upd X l (.lst ((Qx fs).map V.str))):=Qj.zk nl;have b:=t.keep (t3 _ _ t.e) λc ys e=>t3 _ _ e;generalize upd X l (.lst ((Qx fs).map V.str))=G3 at s3 R b⊢;have sl:(Qx fs).length<=40:=by rw[UB];omega
   refine⟨l,U,⟨_,zN.of R⟩,M6 (K:=K) (xs:=(Qx fs).map V.str) (λD i ys G=>∃qs:qa L7,ys=(qs.map λq=>V.ref q.1)/\qs.map (·.2)=(Qx fs).take i/\i<=(Qx fs).length/\∀q∈qs,q.1≠D/\G q.1=some (.tup [.str q.2,.int (nF m xs q.2),.int (uF m (sF be) xs q.2)])) (by rw[qh];exact Ya ((by omega))) (zN.of R) (λD nD=>⟨[],U,by rw[vm];rfl,za _,λ_ z=>nomatch z⟩) ?_ ?_ ?_⟩
   .rintro D i ys G ⟨qs,rfl,J,h3,_⟩;have:=zQ List.length J;rw[qh,q0] at this;rw[qh];omega
   .rintro D i v ys G4 Q' hv nD ⟨qs,rfl,J,h3,h4⟩ eD s4 q';obtain⟨f,rfl,x⟩:=Fn hv;have hfm:f∈fs:=Yf.mp (qM x);obtain⟨c,c1,c2⟩:=b.v f hfm;have dg:Q5 G4 fo (V.str f) (some (V.ref c)):=by have:=Q5.k (k:=Sum.inr f) (s4 _ _ b.e);rw[c1] at this;exact this
    have c4:=s4 _ _ c2;refine⟨_,U,_,U,_,U,fo,_,U,dg,c,_,_,_,U,U,jW.of c4,QB (j:=0) rfl,_,U,_,U,fo,_,U,dg,c,_,_,_,U,U,jW.of c4,QB (j:=1) rfl,Hv,λp G5 np t5 e5=>q' _ G5 t5 ⟨qs++[((p,f):L7)],by rw[qJ];rfl,?_,?_,λq hq=>?_⟩⟩
    .rw[qJ,J,zm,x];rfl
    .have:=(qW.mp x).1;omega
    .have pD:p≠D:=(Qb eD np).symm;rcases qt.mp hq with z|z
     .obtain⟨z1,z2⟩:=h4 q z;exact⟨z1,by rw[Qa z1];exact t5 _ _ z2⟩
     .rw[qk.mp z];exact⟨pD,by rw[Qa pD];exact e5⟩
   .rintro D ys G4 nD ⟨qs,rfl,J,h3,h4⟩ s4 eD;rw[qh,ji] at J;exact k D G4 qs fs (s3.trans s4) b.nd b.m J eD λq hq=>(h4 q hq).2
def B2(a:xs.Nodup)(b:ys.Nodup)(h:∀m,m∈xs↔m∈ys):xs.Perm ys:=(yC a b).mpr h
def Ol{α:Type}:∀(l:qa α)(p:α->Bool),l.length=(l.filter p).length+(l.filter λx=>!p x).length
 |[],_=>rfl
 |x::l,p=>by
  have a:=Ol l p;rw[qO,qO];cases p x<;>simp<;>omega
def tH(bx:Rows)(r:Rw):qb:=(L2.up bx r.d.nm).getD ""
section
variable {ws:qe}{ls:qa LE}{bx:Rows}{mk:qb->qe}{xs:qa Rw}{be:qa Ent}
def oD.nms(c:oD ws ls bx mk xs be)(m:qb):m∈(xs.map λr=>r.d.nm)↔m∈ls.map LE.nm:=by
 constructor
 .intro h;obtain⟨r,a,rfl⟩:=qj.mp h;obtain⟨l,b,e⟩:=c.x1 r a;rw[e];exact qj.mpr ⟨l,b,U⟩
 .intro h;obtain⟨l,b,rfl⟩:=qj.mp h;obtain⟨r,a,e⟩:=c.x2 l b;exact qj.mpr ⟨r,a,by rw[e];rfl⟩
def oD.names(b:oD ws ls bx mk xs be)(a:(ls.map LE.nm).Nodup):Qx (xs.map λr=>r.d.nm)=Qx (ls.map LE.nm):=YN (B2 b.nd a b.nms)
def oD.at(a:oD ws ls bx mk xs be)(d:r∈xs):∃l∈ls,r.d.nm=l.nm/\L2.up bx l.nm=some (tH bx r)/\Ag be l.nm=.str (tH bx r)/\tH bx r∈Zp::ws/\r.d=.put l.nm l.p:=by
 obtain⟨l,b,e⟩:=a.x1 r d;have c:r.d.nm=l.nm:=by rw[e];rfl
 obtain⟨fo,f1,f2,f⟩:=a.fo l b;have g:tH bx r=fo:=by unfold tH;rw[c,f1];rfl
 rw[g];exact⟨l,b,c,f1,f2,f,e⟩
def oD.fold(a:oD ws ls bx mk xs be)(b:r∈xs):Ag be r.d.nm=.str (tH bx r):=by
 obtain⟨l,_,c,_,e,_⟩:=a.at b;rw[c];exact e
def oD.some(c:oD ws ls bx mk xs be)(a:(bx.map (·.1)).Nodup)(p:Rw->Bool)(q:qb->Bool)(g:∀r∈xs,p r=q r.d.nm)(f:qb):((xs.filter λr=>decide (tH bx r=f)&&p r).map λr=>r.d.nm).Perm ((QO bx f).filter q):=by
 refine B2 (jr (zF.map _) c.nd) ((jr (zF.map _) a).filter _) λm=>?_;rw[qr,Xh a];constructor
 .intro h;obtain⟨r,d,rfl⟩:=qj.mp h;obtain⟨b,e⟩:=qr.mp d;obtain⟨i,j⟩:=zV.mp e;obtain⟨l,o,k,n,_⟩:=c.at b;exact⟨by rw[k,n,qo i],by rw[<-g r b];exact j⟩
 .rintro⟨b,e⟩;have i:m∈bx.map (·.1):=qj.mpr ⟨(m,f),WV b,U⟩;obtain⟨r,d,rfl⟩:=qj.mp ((c.nms m).mpr ((c.bm m).mp i));refine qj.mpr ⟨r,qr.mpr ⟨d,zV.mpr ⟨qu ?_,by rw[g r d];exact e⟩⟩,U⟩;unfold tH;rw[b];rfl
def oD.ins(b:oD ws ls bx mk xs be)(a:(bx.map (·.1)).Nodup)(f:qb):((xs.filter λr=>decide (tH bx r=f)).map λr=>r.d.nm).Perm (QO bx f):=by
 have:=b.some a (λ_=>true) (λ_=>true) (λ_ _=>rfl) f;rw[show(QO bx f).filter (λ_=>true)=QO bx f from jU.mpr λ_ _=>rfl] at this;have e:(λr:Rw=>decide (tH bx r=f)&&true)=λr=>decide (tH bx r=f):=by funext r;rw[Bool.and_true]
 rw[e] at this;exact this
def oD.cn(b:oD ws ls bx mk xs be)(a:(bx.map (·.1)).Nodup)(f:qb):nF (tH bx) xs f=cN bx f:=by
 unfold nF cN;rw[<-(b.ins a f).length_eq,qh]
def bS{a b c:Nat}(h:c=a+b):((b:Nat):Int)=(c:Int)-(a:Int):=by omega
def oD.cu(a:oD ws ls bx mk xs be)(b:(bx.map (·.1)).Nodup)(f:qb):uF (tH bx) (sF be) xs f=cU bx mk f:=by
 have h:=a.some b (sF be) (λn=>!decide (JO∈mk n)) (λr d=>by
  obtain⟨l,c,e,_⟩:=a.at d;unfold sF;rw[e,a.mk_ l c];congr 1;exact decide_eq_decide.mpr Yf) f
 have c:=h.length_eq;rw[qh] at c;unfold uF cU nMk;rw[c];exact bS (Ol (QO bx f) λn=>decide (JO∈mk n))
def oD.fs(c:oD ws ls bx mk xs be)(a:(bx.map (·.1)).Nodup)(f:qb):QO bx f≠[]↔∃r∈xs,tH bx r=f:=by
 have p:=c.ins a f;constructor
 .intro h;obtain⟨m,hm⟩:=List.exists_mem_of_ne_nil _ h;obtain⟨r,b,_⟩:=qj.mp (p.mem_iff.mpr hm);obtain⟨d,g⟩:=qr.mp b;exact⟨r,d,qo g⟩
 .rintro⟨r,b,e⟩ z;have:r.d.nm∈QO bx f:=p.mem_iff.mp (qj.mpr ⟨r,qr.mpr ⟨b,qu e⟩,U⟩);rw[z] at this;cases this
def oD.have(b:oD ws ls bx mk xs be)(c:(ls.map LE.nm).Nodup)(i:t≠Str.empty):Qx ((xs.filter λr=>decide (t∈sI (tbD r.d))).map λr=>r.d.nm)=Qx (Y7 (ls.map λl=>(l.nm,lwd l.p)) t):=by
 have hm:∀{l:LE},t∈lwd l.p↔t∈sI (tbD (.put l.nm l.p)):=λ{l}=>by
  show _↔t∈sI ((l.p.t++" ")++l.p.b);rw[eZ i];unfold lwd;rw[FZ];exact⟨II,Lg⟩
 refine YN (B2 (jr (zF.map _) b.nd) ?_ λm=>?_)
 .unfold Y7;refine jr (zF.map _) ?_;rw[qV];exact c
 .unfold Y7;constructor
  .intro h;obtain⟨r,d,rfl⟩:=qj.mp h;obtain⟨f,a⟩:=qr.mp d;obtain⟨l,g,e⟩:=b.x1 r f;rw[e] at a⊢;exact qj.mpr ⟨(l.nm,lwd l.p),qr.mpr ⟨qj.mpr ⟨l,g,U⟩,qu (hm.mpr (qo a))⟩,U⟩
  .intro h;obtain⟨q,j,rfl⟩:=qj.mp h;obtain⟨f,a⟩:=qr.mp j;obtain⟨l,g,rfl⟩:=qj.mp f;obtain⟨r,d,e⟩:=b.x2 l g;exact qj.mpr ⟨r,qr.mpr ⟨d,by rw[e];exact qu (hm.mp (qo a))⟩,by rw[e];rfl⟩
end
def ET:∀{ts:qa (qe)},(∀t∈ts,∀x∈t,wN x)->PyData.canLayAll0 (ts.map λt=>PyData.list (t.map PyData.str))=true/\PyData.depthAll (ts.map λt=>PyData.list (t.map PyData.str))<=1
 |[],_=>⟨U,za _⟩
 |t::ts,h=>by
  obtain⟨a1,a2⟩:=ET (ts:=ts) λz hz=>h z (qH _ hz);obtain⟨a,b⟩:=Dm (xs:=t) (h t qy);rw[qU];refine⟨?_,?_⟩
  .show(PyData.canLayAll0 (t.map PyData.str)&&PyData.canLayAll0 (ts.map λt=>PyData.list (t.map PyData.str)))=true;rw[a,a1];rfl
  .show max (PyData.depthAll (t.map PyData.str)+1) (PyData.depthAll (ts.map λt=>PyData.list (t.map PyData.str)))<=1;omega
def AH{K:Frag}{H:Hp}:∀{ls:qa (qc×qe)},(∀p∈ls,H p.1=some (.lst (p.2.map V.str)))->RDs K H (ls.map λp=>V.ref p.1) ((ls.map (·.2)).map λt=>PyData.list (t.map PyData.str))
 |[],_=>.nil
 |p::ls,h=>.cons (Y5 (zN.of (h p qy))) (AH λq a=>h q (qH _ a))
def Tw{ts:qa (qe)}(h:∀t∈ts,∀x∈t,wN x):SeqAt.shaped (.list (ts.map λt=>PyData.list (t.map PyData.str)))=true:=by
 have q:=ET h;have a:=q.2;simp[SeqAt.shaped,PyData.canLay0,PyData.depth,q.1];omega
def LF(n u:qb->Int)(f:qb):PyData:=.tuple [.str f,.int (n f),.int (u f)]
def FC{K:Frag}{H:Hp}{n u:qb->Int}:∀{fs:qa L7},(∀q∈fs,H q.1=some (.tup [.str q.2,.int (n q.2),.int (u q.2)]))->RDs K H (fs.map λq=>V.ref q.1) ((fs.map (·.2)).map (LF n u))
 |[],_=>.nil
 |p::fs,h=>.cons (.tup (jW.of (h p qy)) (.cons (.str _) (.cons (.int _) (.cons (.int _) .nil)))) (FC λq a=>h q (qH _ a))
def Om{n u:qb->Int}:∀{fs:qe},(∀f∈fs,wN f)->PyData.canLayAll0 (fs.map (LF n u))=true/\PyData.depthAll (fs.map (LF n u))<=1
 |[],_=>⟨U,za _⟩
 |f::fs,h=>by
  obtain⟨a1,a2⟩:=Om (n:=n) (u:=u) (fs:=fs) λz hz=>h z (qH _ hz);have a:=(h f qy).ok;rw[qU];refine⟨?_,?_⟩
  .simp[LF,PyData.canLayAll0,PyData.canLay0,a,a1]
  .simp[LF,PyData.depthAll,PyData.depth];omega
def fV{n u:qb->Int}{fs:qe}(h:∀f∈fs,wN f):SeqAt.shaped (.list (fs.map (LF n u)))=true:=by
 have q:=Om (n:=n) (u:=u) h;have a:=q.2;simp[SeqAt.shaped,PyData.canLay0,PyData.depth,q.1];omega
def T2{c tB:TT}{ts:TS}{D:V2}{σ:St}(b:Bool)(e:∀Q:Bool->Hp->Prop,Q b G->c σ G Q)(f:b=true->∀Q:Bool->Hp->Prop,(∀a,Qj G a->Q false a)->tB σ G Q)(d:∀a,Qj G a->D.nx σ a):aS (dR c tB) ts RK D σ G:=by
 refine e _ ?_
 cases b with
 |false=>exact QV (QV (d G (Qj.refl _)))
 |true=>exact Yj (f rfl _ λa s=>QV (d a s))
inductive HW(K:Frag)(a:yL)(vs:qa V)(H:Hp)(Q:VK)(E:XK):Prop
 |mk:∀(A:WA)(ns:qa Int)(D:WD)(nw:Nat)(own:qc->Nat)(b db xr L xt xi xf:qc)(es:qa Ent)(ls:qa LE)(bx:Rows)(mk:qb->qe)(n:Nat)(R:qc)(rs:qa Rw),
   vs=[.ref A.st,.ref A.s,.ref b,.ref R]->vu K H A ns D->rG nw D->ns.length<=63->v8 a H own b db xr L xt xi xf es ls bx mk D.words (Zp::D.words) D.words n->BI rs ls bx mk->own A.st=7->H R=some (.lst (rs.map λr=>V.ref r.x))->(∀r∈rs,WH H r)->(∀r∈rs,K5 D.words r)->rs.length<=63->(putN rs).Nodup->(putN rs).length<=40->(∀m∈putN rs,Uz m) ->
   (∀H',SX A.st H H'->vu K H' A ns D->Q (.bl true) H')->HW K a vs H Q E
def v8.sx(h:v8 a H own b db xr L xt xi xf es ls bx mk WI W M n){xs:qa V}(e:H st=some (.lst xs))(o:own st=7)(x:SX st H H'):v8 a H' (Q0 own 7 H) b db xr L xt xi xf es ls bx mk WI W M n:=
 h.law ((show KX [st] H H' from λc o n e=>x c o (λz=>n (qk.mpr z)) e).kpo λc hc=>by rw[qk.mp hc];exact⟨⟨_,e,U⟩,o⟩)
def Ds{c tB:TT}{ts rest:TS}{D:V2}{σ:St}(b:Bool)(d:∀Q:Bool->Hp->Prop,Q b G->c σ G Q)(e:b=true->∀Q:Bool->Hp->Prop,(∀a,Qj G a->Q false a)->tB σ G Q)(f:∀a,Qj G a->rest D σ a):Ua (aS (dR c tB) ts RK) rest D σ G:=T2 b d e f
def aF:∀c∈Zp.cps.toList,c<128:=by decide +kernel
def Gz(h:Uz m):m≠("":qb):=λz=>by have:=h.lo;rw[z] at this;exact absurd this (by decide +kernel)
def Pn(F:zT K Z2 Z2 W5 a.ur fd)(T:Txt K mg a)(o:YC K a):QQ P w K mg base j6 12 a.ur fd [Za,Zn,Zu,Z3] (HW K a):=by
 obtain⟨fd1,xG,mW⟩:=o.xG;have nQ:=@IM P w K mg base a _ xG T;obtain⟨fd2,zY,yo⟩:=o.zY;have yp:=@KJ P w K mg base a _ zY T o;obtain⟨fd3,j4,uy⟩:=o.j4;have uA:=@IK P w K mg base a _ j4 T o;obtain⟨fd4,kJ,pG⟩:=o.kJ;have pT:=@FQ P w K mg base a _ kJ T o;obtain⟨fd5,iQ,Qbz⟩:=o.iQ;have QbF:=@S8 P w K mg base a _ iQ T o;obtain⟨fd6,F6,mB⟩:=o.mO;have mJ:=@Mw P w K mg base a _ F6 T o;obtain⟨fd7,wz,Qag⟩:=o.wz;have Qaq:=@IS P w K mg base a _ wz T o;obtain⟨fd8,F8,vW⟩:=o.iz;have vY:=@EF P w K mg base a _ F8 T;obtain⟨fd9,yR,lA⟩:=o.yR;have lM:=@CU P w K mg base a _ yR T o;obtain⟨fdA,FA,mC⟩:=o.mP;have mK:=@IV P w K mg base a _ FA T o;obtain⟨fdB,wB,Qaj⟩:=o.wB;have Qat:=@IU P w K mg base a _ wB T o;obtain⟨fdC,jM,vV⟩:=o.jM;have vX:=@Gn P w K mg base a _ jM T;obtain⟨fdD,FD,oM⟩:=o.oS;have oQ:=@Pt P w K mg base a _ FD T;refine F.ok U7 (λcdv A0 outer s H vs Q E M h=>?_)
 .obtain⟨A,ns,D,nw,own,b,db,xr,L,xt,xi,xf,es,ls,bx,mk,n,R,rs,rfl,hw,ok,hns,bd,bi,ost,eR,ra,ro,h63,pnd,h40,pws,k⟩:=h;have hu:=Q9 M;have O:=M.units;have S:QG 11 _:=M;have hr3:QG 3 _:=S.mono;have Z:QG 2 _:=S.mono;have hr1:QG 1 _:=S.mono;refine⟨_,(Qd (Gk (Ql nQ hr1 rfl T.so xG.kp mW .nil Qm (zg (pv 3) Qf)) (Sw rfl (Xc (Q8 (i:=4) U7.nd) (Xc (Q8 (i:=5) U7.nd) Oa))))
   (Qd (Qs (i:=6) U7.nd (Ql yp Z rfl T.vo zY.kp yo .nil Qm (zg (pv 0) (zg (pv 1) Qf))))
   (Qd (YW zo rfl (Yv (Ql uA Z rfl T.me j4.kp uy .nil Qm (zg (pv 0) (zg (Yy (Qh Qi (Qh Qi (Qh Qi (Qh Qi (Qh Qi (Qh Qi QA))))))) Qf)))) (Q8 (i:=7) U7.nd) (Qd (QU (PW.pt (V1 (Qt Ue (pv 7) Qi) (Vo (UL (Uu (Ql pT hr3 rfl T.pf kJ.kp pG .nil Qm (zg (pv 2) (zg (QC (Yg rfl) rfl T.jQ boot_sorted (zg (pv 4) Qf)) Qf)))))))) (Qe (Qu YX)) QD)
   (Qd (QU (PW.pt (V1 (Qt Ue (pv 7) Qi) (Vo (UL (Uu (Ql QbF S rfl T.Qbo iQ.kp Qbz .nil Qm (zg (pv 2) (zg (pv 4) (zg (pv 5) Qf))))))))) (Qe (Qu YX)) QD)
   (Qd (QU (PW.pt (V1 (Qt Ue (pv 7) Qi) (Vo (Qt (Wu O) (Ud (Qk (pv 2) U) T.zS T.mE mJ hr3 mB .nil Qm) (Ql Qaq Z rfl T.tT wz.kp Qag .nil Qm (zg (pv 4) Qf)))))) (Qe (Qu YX)) QD)
   (Qd (QU (PW.pt (V1 (Qt Ue (pv 7) Qi) (Vo (Qt (Wu O) (QL (Qk (pv 2) U) T.jX T.u7 vY hr1 vW .nil Qm (zg (pv 6) Qf)) (Ql lM Z rfl T.pj yR.kp lA .nil Qm (zg (pv 4) (zg (pv 6) Qf))))))) (Qe (Qu YX)) QD)
   (Qd (QU (PW.pt (V1 (Qt Ue (pv 7) Qi) (Vo (Qt (Wu O) (Ud (Qk (pv 2) U) T.q9 T.mF mK hr3 mC .nil Qm) (Ql Qat Z rfl T.tW wB.kp Qaj .nil Qm (zg (pv 4) (zg (pv 5) Qf))))))) (Qe (Qu YX)) QD)
   (Qd (KA (Xx (sc:=Qg W5) (N:=C2) (i:=8) (fr:=[(6,Zz),(5,Zj)]) (cs_ rfl rfl) rfl rfl rfl U7.nd U rfl (X7 (pv 4)) (λ_ _ _ _=>Wg (Qt Ue (Ql vX hr1 rfl T.ly jM.kp vV .nil Qm (zg (pv 2) (zg (pv 0) Qf))) (pv 1))) (λ_ _ _ _=>(pv 0))))
   (Qe (QU (PW.pt (V1 (Qt Ue (pv 7) Qi) (Vo (Qt (Wu O) (QL (Qk (pv 2) U) T.q9 T.oO oQ hr1 oM .nil Qm (zg (pv 6) Qf)) (QC VX rfl T.jQ boot_sorted (zg (pv 8) Qf)))))) (Qe (Qu YX)) QD)))))))))
   (Qe (Qu YX))))),?_⟩
  refine⟨_,U,R,rs,U,eR,ra,h63,pnd,λt j B kvs H1 s1 nL nB et eL eB hE=>⟨t,_,U,jW.of et,U,_,_,U,_,_,U,U,?_⟩⟩;dsimp only[EZ];have wwd:∀w∈D.words,Uz w:=λw hw=>(ok.ws w hw).1;have Qcy:∀w∈Zp::D.words,wN w:=λw hw=>(qK.mp hw).elim (λz=>by rw[z];exact λc hc=>aF c hc) λz=>(wwd w z).asc;obtain⟨Ff0,ff0,_,_⟩:=bd.f;obtain⟨_,_,_,_,_,_,_,fi0,_⟩:=id ff0;have bnd:(bx.map (·.1)).Nodup:=fi0.nd;have lnd:(ls.map LE.nm).Nodup:=bd.l.nd;have g:oD D.words ls bx mk (Kh (Yu rs) rs) (QZ rs):=cW (λw hw=>Gz (wwd w hw)) Qcy ro bi pnd h63 h40 λm hm=>ff0.Qb6 hm;have lgd:∀l∈ls,XQ l.p.s l.p.t l.p.b l.p.d l.p.an:=λl hl=>(bd.l.at_ l hl).2;have lws:∀m∈ls.map LE.nm,Uz m:=λm hm=>pws m (bi.sJ hm).1;have hx1:∀r∈Kh (Yu rs) rs,WH H1 r:=λr M=>(ra r (qr.mp M).1).tups λc ys e=>s1 _ _ e;have la:=bd.quiet s1;have w1:=hw.same s1;have o71:Q0 own 7 H j=7:=by unfold Q0;rw[nL]
  obtain⟨sx0,C⟩:=hw.sa.lst;have Qdn:Q0 own 7 H A.st=7:=by rw[Qq C];exact ost
  have Lst:j≠A.st:=λz=>by rw[z,C] at nL;cases nL
  have Bst:B≠A.st:=λz=>by rw[z,C] at nB;cases nB
  have eL:H1 j=some (.dK (wL (Kh (Yu rs) rs))):=eL;generalize hLL:Kh (Yu rs) rs=xs at g hx1 eL;generalize hbe:QZ rs=be at g hE;generalize Q0 own 7 H=own1 at la o71 Qdn;refine⟨_,U,_,U,A,ns,D,nw,U,w1,ok,hns,λwd H2 hwd x2 w2=>?_⟩;have kt2:∀{c ys},H1 c=some (.tup ys)->H2 c=some (.tup ys):=λ{c ys} e=>x2 _ _ (λz=>by rw[z,s1 _ _ C] at e;cases e) e;have wM:=la.sx (s1 _ _ C) Qdn x2;have o72:Q0 own1 7 H1 j=7:=by rw[Qq eL];exact o71
  have Qbj:Q0 own1 7 H1 A.st=7:=by rw[Qq (s1 _ _ C)];exact Qdn
  have eL2:=x2 _ _ Lst eL;have eB2:=x2 _ _ Bst eB;generalize Q0 own1 7 H1=QcD at wM o72 Qbj;refine⟨_,U,zl_6,λp3 H3 np3 s3 e3=>?_⟩;have w3:=w2.same s3;obtain⟨sx2,X⟩:=w2.sa.lst;have pst:p3≠A.st:=(Qb X np3).symm;refine⟨A.st,A.sc,p3,ns,_,U,w3.sa,hns,pst,e3,(by show 6<=100;decide),λl4 ys H4 nl4 pm x4 sa4 e4=>?_⟩;have bd4:=(wM.quiet s3).sx (s3 _ _ X) (by rw[Qq X];exact Qbj) x4;have u:=x4 _ _ Lst (s3 _ _ eL2);have eB4:=x4 _ _ Bst (s3 _ _ eB2);have o74:Q0 (Q0 QcD 7 H2) 7 H3 j=7:=by rw[Qq (s3 _ _ eL2),Qq eL2];exact o72
  have kt4:∀c ys,H1 c=some (.tup ys)->H4 c=some (.tup ys):=λc ys e=>x4 _ _ (λz=>by have:=s3 _ _ (kt2 e);rw[z,s3 _ _ X] at this;cases this) (s3 _ _ (kt2 e));have hE4:=hE.mono kt4;have hx4:∀r∈xs,WH H4 r:=λr M=>(hx1 r M).tups kt4;have w4:=w3.sx x4 sa4;have Qda:SX A.st H H4:=(((SX.of s1).trans x2).trans (SX.of s3)).trans x4;generalize Q0 (Q0 QcD 7 H2) 7 H3=own4 at bd4 o74;have noe:NoE (Vd ls):=λm hm=>Gz (lws m (by rw[qV] at hm;exact hm));have J:∀m∈ls.map LE.nm,wN m:=λm hm=>(lws m hm).asc;have lnl:ls.length<=40:=by
   have:=YS lnd (l:=xs.map λr=>r.d.nm) λm hm=>(g.nms m).mpr hm;rw[qh,qh] at this;have:=g.len;omega
  have xlen:=g.len;refine⟨l4,U,⟨_,zN.of e4⟩,YB (K:=K) (xs:=ys) (λi σ G=>∃(o7 o8:Option V),σ=[some (.ref A.st),some (.ref A.s),some (.ref b),some (.ref R),some (.ref j),some (.ref B),some (.str wd),o7,o8]/\Qj H4 G) ⟨none,none,U,Qj.refl _⟩ ?_ ?_ ?_⟩
  .rintro i σ G _ ⟨o7,o8,rfl,s⟩;exact zN.of (s _ _ e4)
  .rintro i v σ G hv ⟨o7,o8,rfl,d⟩;obtain⟨z,rfl⟩:∃z,v=V.int z:=by
    have:=pm.mem_iff.mp (qM hv);simp only[qK,jv,lZ] at this;rcases this with h|h|h|h|h|h<;>exact⟨_,h⟩
   show Ua _ _ _ _ _;have bq:∀{G},Qj H4 G->v8 a G (Q0 own4 7 H4) b db xr L xt xi xf es ls bx mk D.words (Zp::D.words) D.words n:=λs=>bd4.quiet s;have hxq:∀{G},Qj H4 G->∀r∈xs,WH G r:=λs r M=>(hx4 r M).tups λc ys e=>s _ _ e;have Y:∀(k:Int)(G:Hp)(Q:Bool->Hp->Prop),Q (decide (z=k)) G->Fj Q (.bl (decide (V.int z=V.int k))) G:=λk G Q q=>⟨_,U,by rw[fO];exact q⟩;refine Ds (decide (z=0)) (λQ q=>⟨_,U,U,Y 0 _ _ q⟩) (λ_ Q q=>?_) (λG1 t1=>?_)
   .refine⟨_,U,_,U,j,_,xs.map (λr=>r.d.nm),U,d _ _ u,Aj _ _ _,(by rw[qh];omega),λI y=>?_⟩;rw[g.names lnd];have sd:Qj G (upd G I (.lst ((Qx (ls.map LE.nm)).map V.str))):=Qj.zk y;refine⟨_,b,db,xr,L,xt,xi,xf,es,ls,bx,mk,_,_,_,n,I,U,bq (d.trans sd),J,(by omega),Qc,λH' s'=>⟨_,U,q H' (sd.trans s')⟩⟩
   .replace d:=d.trans t1;refine Ds (decide (z=1)) (λQ q=>⟨_,U,U,Y 1 _ _ q⟩) (λ_ Q q=>?_) (λG2 t2=>?_)
    .exact⟨_,U,_,U,_,U,_,b,db,xr,L,xt,xi,xf,es,ls,bx,mk,_,_,_,n,D.words,j,B,kvs,be,xs,U,bq d,(by rw[Qq u];exact o74),g,hxq d,d _ _ u,d _ _ eB4,hE4.mono (λc ys e=>d _ _ e),λH' s'=>⟨_,U,q H' s'⟩⟩
    .replace d:=d.trans t2;refine Ds (decide (z=2)) (λQ q=>⟨_,U,U,Y 2 _ _ q⟩) (λ_ Q q=>?_) (λG3 t3=>?_)
     .have bG:=bq d;obtain⟨dxt,L2',R2',krT,thT,q1,q2,oxt,_⟩:=id bG.t;refine⟨_,U,b,_,db,_,_,U,bG.e,T.zp,T.xV,U,xt,dxt,_,U,thT.obj,U,xt,_,n,U,⟨dxt,L2',R2',krT,thT,q1,q2⟩,noe,λl H' lt nl s' hp e1 th=>?_⟩;have sH:=d.trans s';refine⟨_,U,j,xs,ls,U,sH _ _ u,g.nd,g.x1,g.x2,hxq sH,lnd,noe,J,g.len,λl2 I lt2 y e2 th2=>?_⟩;have r1:RD K I (.ref l) (.list ((lt.map (·.2)).map λt=>PyData.list (t.map PyData.str))):=.lst (zN.of (y _ _ th.1)) (AH λp hp=>y _ _ (th.2 p hp));have r2:RD K I (.ref l2) (.list ((lt2.map (·.2)).map λt=>PyData.list (t.map PyData.str))):=.lst (zN.of th2.1) (AH th2.2);rw[e1] at r1;rw[e2] at r2;refine VM r1 r2 (Tw λt ht x hx=>?_) ⟨_,U,q I (s'.trans y)⟩;obtain⟨m,_,rfl⟩:=Gg _ ht;have:=(XB.mp hx).1;rw[qV] at this;exact J x this
     .replace d:=d.trans t3;refine Ds (decide (z=3)) (λQ q=>⟨_,U,U,Y 3 _ _ q⟩) (λ_ Q q=>?_) (λG4 t4=>?_)
      .have bG:=bq d;obtain⟨Fi,ix,oxi,_⟩:=id bG.i;obtain⟨dxi,E1,B1,exi⟩:=ix.obj;refine⟨_,U,b,_,db,_,_,U,bG.e,T.zp,T.yQ,U,xi,dxi,_,U,exi,U,_,U,xi,_,_,n,Fi,wd,U,ix,λl H' nl s' e'=>?_⟩;have sH:=d.trans s';refine⟨_,U,_,U,j,xs,ls,wd,U,sH _ _ u,g.nd,g.x1,hxq sH,lgd,g.len,λl2 I nl2 y e2=>?_⟩;rw[g.have lnd (Gz (wwd wd hwd))] at e2;refine VM (Y5 (zN.of (y _ _ e'))) (Y5 (zN.of e2)) (YO λm hm=>?_) ⟨_,U,q I (s'.trans y)⟩;obtain⟨qq,hq,rfl⟩:=qj.mp (Yf.mp hm);obtain⟨l,hl,rfl⟩:=qj.mp (qr.mp hq).1;exact J _ (zr hl)
      .replace d:=d.trans t4;refine Ds (decide (z=4)) (λQ q=>⟨_,U,U,Y 4 _ _ q⟩) (λ_ Q q=>?_) (λG5 t5=>?_)
       .have bG:=bq d;obtain⟨Ff,ff,oxf,oFf⟩:=id bG.f;obtain⟨dxf,X1,T1,N1,exf⟩:=ff.obj;refine⟨_,U,b,_,db,_,_,U,bG.e,T.zp,T.jf,U,xf,dxf,_,U,exf,U,xf,bx,mk,_,_,n,Ff,U,ff,λl H' fs ks knd kl km efs nl s' fol=>?_⟩;have sH:=d.trans s';refine⟨_,U,_,U,j,B,kvs,be,xs,tH bx,U,sH _ _ u,sH _ _ eB4,hE4.mono (λc ys e=>sH _ _ e),g.bo,g.n64,g.len,(λr M=>g.fold M),λl2 I qs fs2 y fnd fm eqs el2 et2=>?_⟩;have ek:Qx ks=Qx fs2:=YN (B2 knd fnd λf=>by rw[km,fm];exact g.fs bnd f);have r1:RD K I (.ref l) (.list ((fs.map (·.2)).map (LF (cN bx) (cU bx mk)))):=.lst (zN.of (y _ _ fol.1)) (FC λp hp=>y _ _ (fol.2 p hp));have r2:RD K I (.ref l2) (.list ((qs.map (·.2)).map (LF (cN bx) (cU bx mk)))):=.lst (zN.of el2) (FC λp hp=>by rw[et2 p hp,g.cn bnd,g.cu bnd]);rw[efs,ek] at r1;rw[eqs] at r2;refine VM r1 r2 (fV λf hf=>?_) ⟨_,U,q I (s'.trans y)⟩;obtain⟨r,M,rfl⟩:=(fm f).mp (Yf.mp hf);obtain⟨_,_,_,_,_,f3,_⟩:=g.at M;exact Qcy _ f3
       .replace d:=d.trans t5;refine⟨j,_,d _ _ u,λI=>?_⟩;have eF:(upd G5 j (.jF I (.dK (wL xs)))) j=some (.jF I (.dK (wL xs))):=Qc;have y:∀G,Qj (upd G5 j (.jF I (.dK (wL xs)))) G->Qj G5 (upd G j (.dK (wL xs))):=λG s=>Gh (d _ _ u) s;have kt5:∀c ys,H4 c=some (.tup ys)->(upd G5 j (.jF I (.dK (wL xs)))) c=some (.tup ys):=λc ys e=>by rw[Qa (λz=>by rw[z,u] at e;cases e)];exact d _ _ e
        have eB5:(upd G5 j (.jF I (.dK (wL xs)))) B=some (.dT kvs):=by rw[Qa (λz=>by rw[z,u] at eB4;cases eB4)];exact d _ _ eB4
        have hE5:=hE4.mono kt5;generalize upd G5 j (.jF I (.dK (wL xs)))=G6 at eF y hE5 eB5⊢;refine⟨_,U,j,_,U,.inl ⟨I,eF,Bz (xs:=xs) (λr=>V.str r.d.nm) (λr=>decide (tH bx r=wd)) (λr=>V.str r.d.nm) (Ya ((by omega))) eF (by rw[Aj,qV];rfl) ?_ ?_ ?_⟩⟩
        .intro r H3 Q' hrx s3 q';refine⟨_,U,_,U,B,kvs,be,r.d.nm,U,s3 _ _ eB5,hE5.mono (λc ys e=>s3 _ _ e),λH' s'=>?_⟩;rw[g.fold hrx];refine⟨_,U,U,_,U,?_⟩;rw[Ut];exact q' H' s'
        .intro r H3 Q' hrx s3 _ q';exact⟨_,U,q' H3 (Qj.refl _)⟩
        .intro Di G7 nD s7 eD;refine⟨s7 _ _ eF,?_⟩;have sG7:=y G7 s7;have DL:Di≠j:=λz=>by rw[z,eF] at nD;cases nD
         have eD7:(upd G7 j (.dK (wL xs))) Di=some (.lst (((xs.filter λr=>decide (tH bx r=wd)).map λr=>r.d.nm).map V.str)):=by rw[Qa DL,eD,qV];rfl
         generalize upd G7 j (.dK (wL xs))=G8 at sG7 eD7⊢;replace d:=d.trans sG7;dsimp only;refine T2 (decide (z=5)) (λQ q=>⟨_,U,U,Y 5 _ _ q⟩) (λ_ Q q=>?_) (λG9 t9=>?last)
         case last=>exact⟨_,_,U,d.trans t9⟩
         have bG:=bq d;obtain⟨Ff,ff,oxf,oFf⟩:=id bG.f;obtain⟨dxf,X1,T1,N1,exf⟩:=ff.obj;refine⟨_,U,b,_,db,_,_,U,bG.e,T.zp,T.jf,U,xf,dxf,_,U,exf,U,_,U,xf,bx,mk,_,_,n,Ff,wd,U,ff,λl H' nl s' e'=>?_⟩;have pr:=g.ins bnd wd;have fl:=qY (λr:Rw=>decide (tH bx r=wd)) xs;refine⟨_,U,Di,_,U,zN.of (s' _ _ eD7),(by rw[qh];omega),λl2 nl2=>?_⟩;rw[YN pr];have s9:Qj H' (upd H' l2 (.lst ((Qx (QO bx wd)).map V.str))):=Qj.zk nl2;refine VM (Y5 (zN.of (s9 _ _ e'))) (Y5 (zN.of Qc)) (YO λm hm=>?_) ⟨_,U,q _ (s'.trans s9)⟩;have:=(pr.mem_iff.mpr (Yf.mp hm));obtain⟨r,M,rfl⟩:=qj.mp this;exact J _ ((g.nms _).mp (qj.mpr ⟨r,(qr.mp M).1,U⟩))
  .rintro σ G ⟨o7,o8,rfl,d⟩;exact k G (Qda.trans (SX.of d)) (w4.same d)
structure RI(K:Frag)(ns:qa Int)(A:WA)(R:qc)(ws:qe)(i:Nat)(G:Hp)(D:WD)(rs:qa Rw):Prop where
 w:vu K G A ns D
 ok:rG i D
 wq:D.words=ws
 pn:putN rs=D.names
 nd:D.names.Nodup
 ln:rs.length=i
 eR:G R=some (.lst (rs.map λr=>V.ref r.x))
 ra:∀r∈rs,WH G r
 ro:∀r∈rs,K5 ws r
 ck:∀r∈rs,∃(k:Nat)(c0:Int),D.hands[k]?=some r.h/\D.jy[k]?=some c0/\r.c<=c0
 sd:(rs.map stp).Nodup
def RI.step{ns:qa Int}{R:qc}{k:Nat}{f:Hp}{t:WD}{n:qc}{c num:Int}{hd:qb}(h:RI K ns A R ws i G D rs)(J:R∉A.all)(B:(∀G:Hp,zN K G A.sc (ns.map V.int))\/A.sc≠R)(L:KX A.ch G f)(P:vu K f A ns t)(C:rG (i+1) t)(st:Stp D k c hd d t)(ex:f x=some (.tup [.int c,.str hd,.int num,.ref n]))(Q:DU f n u d) :
 RI K ns A R ws (i+1) (upd f R (.lst ((rs++[(⟨x,c,hd,num,n,u,d⟩:Rw)]).map λr:Rw=>V.ref r.x))) t (rs++[⟨x,c,hd,num,n,u,d⟩]):=by
 have E:=L _ _ (λz=>J (Hs z)) h.eR;have kt:∀{g ys},f g=some (.tup ys)->(upd f R (.lst ((rs++[(⟨x,c,hd,num,n,u,d⟩:Rw)]).map λr:Rw=>V.ref r.x))) g=some (.tup ys):=λ{g ys} e=>by rw[Qa (λz=>by rw[z,E] at e;cases e)];exact e
 have F:∀{c ys},G c=some (.tup ys)->f c=some (.tup ys):=λ{c ys} e=>L _ _ (λz=>by obtain⟨o,v,H⟩:=h.w.there c (Hs z);rw[e] at v;cases v;cases H) e;refine⟨P.off J B,C,st.words.trans h.wq,?_,?_,by rw[qz,h.ln];rfl,Qc,λy m=>?_,λy m=>?_,λy m=>?_,?_⟩
 .rw[Kz,h.pn];show(if YU d=true then D.names++[d.nm] else D.names)=_
  cases l:YU d with
  |false=>exact(st.np l).1.symm
  |true=>
   cases d with
   |put nm p=>exact(st.pt nm p rfl).2.1.symm
   |place a b=>cases l
   |mark a b c=>cases l
   |drop a=>cases l
 .cases l:YU d with
  |false=>rw[(st.np l).1];exact h.nd
  |true=>
   cases d with
   |put nm p=>
    obtain⟨v,H,_⟩:=st.pt nm p rfl;rw[H,zW];exact⟨h.nd,by simp,λa s b w e=>v (by rw[qk.mp w] at e;rw[<-e];exact s)⟩
   |place a b=>cases l
   |mark a b c=>cases l
   |drop a=>cases l
 .rcases qt.mp m with q|q
  .exact((h.ra y q).tups λc ys e=>F e).tups λc ys e=>kt e
  .rw[qk.mp q];exact(show WH f ⟨x,c,hd,num,n,u,d⟩ from⟨ex,Q⟩).tups λc ys e=>kt e
 .rcases qt.mp m with q|q
  .exact h.ro y q
  .rw[qk.mp q];exact⟨λnm p e=>by rw[<-h.wq];exact(st.pt nm p e).2.2,λe=>by rw[<-h.wq];exact(st.np e).2⟩
 .obtain⟨S,w,lt,I⟩:=st.ck;have M:k<D.jy.length:=(qW.mp w).1;rw[st.hands,I];rcases qt.mp m with q|q
  .obtain⟨j,N,l,s,O⟩:=h.ck y q;by_cases e:j=k
   .subst e;rw[w] at s;cases s;exact⟨j,c,l,jg M,by omega⟩
   .exact⟨j,N,l,by rw[uR (λz=>e z.symm)];exact s,O⟩
  .rw[qk.mp q];exact⟨k,c,st.hd_,jg M,Int.le_refl _⟩
 .rw[qJ,zW];refine⟨h.sd,by simp,λy m z hz e=>?_⟩;have hz:z=(c,hd):=by simpa[stp] using hz
  obtain⟨r,M,rfl⟩:=qj.mp m;obtain⟨j,N,l,s,O⟩:=h.ck r M;obtain⟨S,w,lt,I⟩:=st.ck;rw[hz] at e;have I:r.c=c:=zQ Prod.fst e;have T:r.h=hd:=zQ Prod.snd e;rw[T] at l;have:j=k:=(List.getElem?_inj (qW.mp l).1 h.ok.hs.nd).mp (l.trans st.hd_.symm);subst this;rw[w] at s;cases s;omega
def Py(ok:rG n D)(b:D.names.Nodup):D.names.length<=40:=by
 have h:=YS b (l:=D.hands.flatMap λh=>(List.range 9).map λn=>h++dig ((n:Nat):Int)) λx c=>by
  obtain⟨k,h,p,m,a,d,f,g,e⟩:=ok.nm x c;have i:=ok.pb p (qM d);exact List.mem_flatMap.mpr ⟨h,qM a,qj.mpr ⟨m,xh.mpr (by omega),e.symm⟩⟩
 have d:∀a:qe,(a.flatMap λh=>(List.range 9).map λn=>h++dig ((n:Nat):Int)).length=9*a.length:=λa=>by
  induction a with
  |nil=>rfl
  |cons x xs e=>rw[List.flatMap_cons,qz,e,qh,jO,qX];omega
 rw[d] at h;have:=ok.hs.n1;omega
def ij(ns:qa Int):BS (ns.map V.int) none (some 60)=(ns.take 60).map V.int:=by
 unfold BS;rw[show(60:Int)=((60:Nat):Int) from rfl,HT.tR,HT.sE,tN,Nat.sub_zero,qh,<-List.map_take];by_cases h:60<=ns.length
 .rw[v7 h]
 .rw[Nat.min_eq_right (by omega),zj (qD _),zj (by omega)]
def EA{ps:qa Rw}(p:ps.Perm rs):(putN ps).Perm (putN rs):=(p.filter _).map _
def IE(i:Nat):(putN (rs.take i)).Sublist (putN rs):=((List.take_sublist i rs).filter _).map _
def Sx{α β:Type}(f:α->β){ys xs:qa β}(p:ys.Perm xs):∀rs:qa α,xs=rs.map f->∃ps:qa α,ps.Perm rs/\ys=ps.map f:=by
 induction p with
 |nil=>intro rs e;exact⟨[],by rw[List.map_eq_nil_iff.mp e.symm],U⟩
 |cons x h c=>
  intro rs e
  cases rs with
  |nil=>cases e
  |cons r rs=>
   rw[qU] at e;obtain⟨b,a⟩:=qE e;obtain⟨ps,p,q⟩:=c rs a;exact⟨r::ps,p.cons r,by rw[q,b];rfl⟩
 |swap x y l=>
  intro rs e
  match rs,e with
  |c::d::rs,e=>
   rw[qU,qU] at e;obtain⟨b,a⟩:=qE e;obtain⟨a,g⟩:=qE a;exact⟨d::c::rs,List.Perm.swap c d rs,by rw[b,a,g];rfl⟩
 |trans i j b c=>
  intro rs e;obtain⟨ps,p,q⟩:=c rs e;obtain⟨a,d,g⟩:=b ps q;exact⟨a,d.trans p,g⟩
def fv(F:zT K ZZj ZZj aV a.Qcf fd)(T:Txt K mg a)(k:YC K a):QQ P w K mg base j6 60 a.Qcf fd [ZF] (Qa6 K):=by
 obtain⟨fdB,iR,QbA⟩:=k.iR;have QbG:=@Ta P w K mg base a _ iR T;obtain⟨fdN,zh,zO⟩:=k.zh;have zP:=@Wh P w K mg base a _ zh T;obtain⟨fdW,iN,Qbw⟩:=k.iN;have QbC:=@SO P w K mg base a _ iN T k;obtain⟨fdI,F_bi,sX⟩:=k.tw;have tm:=@S9 P w K mg base a _ F_bi T k;obtain⟨fdS,wA,Qai⟩:=k.wA;have Qas:=@Mx P w K mg base a _ wA T k;obtain⟨fdP,xG,mW⟩:=k.xG;have nQ:=@IM P w K mg base a _ xG T;obtain⟨fd3,j4,uy⟩:=k.j4;have uA:=@IK P w K mg base a _ j4 T k;obtain⟨fdH,F_sh,sW⟩:=k.tr;have tj:=@bH P w K mg base a _ F_sh T k;obtain⟨fdL,v3,pH⟩:=k.v3;have pU:=@Pn P w K mg base a _ v3 T k;obtain⟨fd8,F8,vW⟩:=k.iz;have vY:=@EF P w K mg base a _ F8 T;obtain⟨fd9,yR,lA⟩:=k.yR;have lM:=@CU P w K mg base a _ yR T k;refine F.ok Xu (λcdv A0 outer s H vs Q E f h=>?_)
 .obtain⟨q,ns,rfl,hS,hlen,kq⟩:=h;have M:QG 1 _:=f.mono;have hr2:QG 2 _:=f.mono;have hr4:QG 4 _:=f.mono;have hr5:QG 5 _:=f.mono;have hr9:QG 9 _:=f.mono;have hr12:QG 12 _:=f.mono;have hu:=Q9 f;have Qdy:=f.units;refine⟨_,(Qd (Qs (i:=1) Xu.nd (Ql QbG M rfl T.Qbp iR.kp QbA .nil Qm (zg (pv 0) Qf)))
   (Qd (Qs (i:=2) Xu.nd (Ql QbC hr4 rfl T.Qbl iN.kp Qbw .nil Qm (zg (pv 1) (zg (QT Uk Qi (QT YG (Ql zP M rfl T.jj zh.kp zO .nil Qm (zg (pv 1) Qf)) Qi)) Qf))))
   (Qd (Qs (i:=3) Xu.nd (Yy QA))
   (Qd (YW zo rfl (Yv (Xd R4 (pv 0) KC (Xy Qi))) (Q8 (i:=4) Xu.nd) (Qe (Qy (V5 plainAttrs_list zZ z5 Uj (pv 3) (zg (Ql Qas hr5 rfl T.tV wA.kp Qai .nil Qm (zg (pv 1) (zg (pv 2) (zg (QT YG (Ql zP M rfl T.jj zh.kp zO .nil Qm (zg (pv 1) Qf)) (QC Ym rfl T.vI zX (zg (Qz hu (pv 2) Qp) Qf))) Qf)))) Qf)))))
   (Qd (YW zo rfl (Yv (Yy (Qh (pv 3) (Qh (eT (pv 3) (Xy (Sy Ma Qi))) (Qh (Ql uA hr2 rfl T.me j4.kp uy .nil Qm (zg (pv 1) (zg (pv 3) Qf))) QA))))) (Q8 (i:=5) Xu.nd) (Qd (Qs (i:=6) Xu.nd (X8 T.QcI tm hr4 rfl T.Qb8 sX .nil Qm))
   (Qd (YW zo rfl (Yv (pv 5)) (Q8 (i:=7) Xu.nd) (Qe (Qy (QL (pv 6) T.zp T.sZ tj hr9 sW .nil Qm (zg (pv 7) Qf)))))
   (Qd (QU (PW.pt (XJ (UL (Uu (Ql pU hr12 rfl T.ph v3.kp pH .nil Qm (zg (pv 1) (zg (pv 2) (zg (pv 6) (zg (pv 3) Qf))))))) (V0 (UL (Uu (Ql pU hr12 rfl T.ph v3.kp pH .nil Qm (zg (pv 1) (zg (pv 2) (zg (pv 6) (zg (pv 3) Qf)))))))))) (Qe (Qu YX)) QD)
   (Qe (YW zo rfl (Yv (Qz hu (pv 2) Qp)) (Q8 (i:=8) Xu.nd) (Qe (QU (Qt (Wu Qdy) (QL (Qk (pv 6) U) T.jX T.u7 vY M vW .nil Qm (zg (pv 8) Qf)) (Ql lM hr2 rfl T.pj yR.kp lA .nil Qm (zg (Qw QP (Ql nQ M rfl T.so xG.kp mW .nil Qm (zg (pv 3) Qf)) Qi) (zg (pv 8) Qf)))) (Qe (Qu YX)) QD))))))))
   (Qe (Qu YX))))))),?_⟩
  refine⟨_,U,q,ns,U,hS,hlen,λst hst H1 s1 sa1=>?_⟩;refine⟨_,U,_,U,st,q,ns,U,sa1,hlen,λr2 H2 r20 r21 x2 sa2=>⟨_,_,U,U,aL,_,_,U,U,?_⟩⟩;have z0:=zA r2 (b:=3) (by decide);have z1:=zq r2 (b:=3) (by decide);obtain⟨m,hm⟩:∃m:Nat,2+r2%3=(m:Int):=⟨(2+r2%3).toNat,by omega⟩;rw[hm];refine⟨st,q,ns,m,U,sa2,hlen,by omega,by omega,λA D H3 eA1 eA2 fr x3 w3 ok3 hl3 nm3 ck3=>?_⟩;subst eA1 eA2;refine⟨za _,λR H6 nR s6 e6=>?_⟩;have w6:=w3.same s6;refine⟨_,U,_,U,A.sc,_,U,w6.sa.sq,λsl H7 nsl s7 e7=>?_⟩;rw[ij] at e7;have w7:=w6.same s7;have nRA:R∉A.all:=λz=>by obtain⟨o,e,_⟩:=w3.there R z;rw[nR] at e;cases e
  have nSA:sl∉A.all:=λz=>by obtain⟨o,e,_⟩:=w6.there sl z;rw[nsl] at e;cases e
  have Rsl:R≠sl:=Qb e6 nsl;have scR:(∀G:Hp,zN K G A.sc (ns.map V.int))\/A.sc≠R:=by
   obtain⟨_,hq⟩:=w3.sa;rcases hq with(h|⟨g,h⟩)|h
   .exact .inr (Qb h nR)
   .exact .inr (Qb h nR)
   .exact .inl λ_=>.inr h
  generalize hws:D.words=ws;have RI0:RI K ns A R ws 0 H7 D []:=⟨w7,ok3,hws,by rw[nm3];rfl,by rw[nm3];exact zB,U,s7 _ _ e6,(λr f=>nomatch f),(λr f=>nomatch f),(λr f=>nomatch f),zB⟩;refine⟨sl,U,⟨_,zN.of e7⟩,YB (K:=K) (a:=sl) (xs:=(ns.take 60).map V.int) (λi σ G=>∃(o4:Option V)(D:WD)(rs:qa Rw),σ=[some (.ref A.sc),some (.ref A.st),some (.ref A.s),some (.ref R),o4,none,none,none,none]/\RI K ns A R ws i G D rs/\G sl=some (.lst ((ns.take 60).map V.int)))
   ⟨none,D,[],U,RI0,e7⟩ ?_ ?_ ?_⟩
  .rintro i σ G _ ⟨o4,D,rs,rfl,_,e⟩;exact zN.of e
  .clear RI0 w7 w6 w3 ok3 nm3 hws ck3 hl3;rintro i cv σ G C ⟨o4,D,rs,rfl,g,I⟩;have hi:i<60:=by
    have:=(qW.mp C).1;rw[qh,q0] at this;omega
   have J:A.st∈A.ch:=by simp[WA.ch]
   refine⟨_,U,.inl ⟨U,_,zN.of g.eR⟩,_,U,_,U,_,U,A.st,A.sc,ns,U,g.w.sa,hlen,λN G1 r10 r11 Y sa1=>?_⟩;have p:=g.w.sx Y sa1;have h0:(0:Int)<((D.hands.map V.str).length:Nat):=by rw[qh];have:=g.ok.hs.n0;omega
   refine⟨_,U,A.s,_,U,.inl ⟨_,Sum.inr ZN,.inl p.e,U,XR⟩,A.hl,_,U,.inl (zN.of p.eh),_,_,U,U,h0,?_⟩;have S:=zA N (b:=((D.hands.map V.str).length:Nat)) (by omega);have Z:=zq N (b:=((D.hands.map V.str).length:Nat)) h0;rw[qh] at S Z⊢;generalize N%((D.hands.length:Nat):Int)=kz at S Z⊢;obtain⟨kk,rfl⟩:=jJ S;refine⟨A,ns,D,i,kk,U,p,g.ok,by omega,by omega,hlen,λx qq u c num hd d D' G2 ex du kx w2 X st=>?_⟩;have y:KX A.ch G G2:=(KX.sx J Y).trans kx;have eR2:=y _ _ (λz=>nRA (Hs z)) g.eR;refine⟨R,_,_,U,U,eR2,(by rw[qh,g.ln];exact QF (by omega)),?_⟩;have em:(rs.map λr:Rw=>V.ref r.x)++[V.ref x]=(rs++[(⟨x,c,hd,num,qq,u,d⟩:Rw)]).map λr:Rw=>V.ref r.x:=by rw[qJ];rfl
   rw[em];exact⟨_,D',_,U,g.step nRA scR y w2 X st ex du,by rw[Qa Rsl.symm];exact y _ _ (λz=>nSA (Hs z)) I⟩
  .clear RI0 w7 w6 w3 ok3 nm3 hws ck3 hl3;rintro σ G ⟨o4,D,rs,rfl,g,_⟩;have l60:rs.length<=60:=by rw[g.ln,qh,q0];omega
   have wG:=g.w;have ok:=g.ok;obtain⟨sx0,N⟩:=wG.sa.lst;have C:R≠A.st:=λz=>nRA (by rw[z];simp[WA.all]);have S:(putN rs).Nodup:=by rw[g.pn];exact g.nd
   have h40:(putN rs).length<=40:=by rw[g.pn];exact Py ok g.nd
   have pws:∀m∈putN rs,Uz m:=λm hm=>by rw[g.pn] at hm;exact(ok.nms m hm).word ok.hs
   have hwq:=g.wq;subst hwq;have ro:∀r∈rs,K5 D.words r:=g.ro;refine⟨_,U,_,U,_,U,_,U,U,R,_,U,zN.of g.eR,λp1 np1=>?_⟩;have t1:Qj G (upd G p1 (.lst (rs.map λr=>V.ref r.x).reverse)):=Qj.zk np1;have ep1:(upd G p1 (.lst (rs.map λr=>V.ref r.x).reverse)) p1=some (.lst (rs.reverse.map λr=>V.ref r.x)):=by rw[Qc,List.map_reverse]
   generalize upd G p1 (.lst (rs.map λr=>V.ref r.x).reverse)=G1 at t1 ep1⊢;have p:=wG.same t1;have p1st:p1≠A.st:=(Qb N np1).symm;refine⟨_,U,_,U,A.st,A.sc,R,ns,_,U,p.sa,hlen,C,t1 _ _ g.eR,(by rw[qh];omega),λp2 ys G2 np2 pm x2 sa2 ep2=>?_⟩;obtain⟨ps,pps,rfl⟩:=Sx (λr:Rw=>V.ref r.x) pm rs rfl;have p2st:p2≠A.st:=(Qb (t1 _ _ N) np2).symm;have wG2:=p.sx x2 sa2;refine⟨Hv,λOL H0 nOL t3 eOL=>?_⟩;have w0:=wG2.same t3;obtain⟨sx2,y⟩:=wG2.sa.lst;have OLst:OL≠A.st:=(Qb y nOL).symm;have X:SX A.st G H0:=((SX.of t1).trans x2).trans (SX.of t3);have kt0:∀c ys,G c=some (.tup ys)->H0 c=some (.tup ys):=λc ys e=>X _ _ (λz=>by rw[z,N] at e;cases e) e;have ra0:∀r∈rs,WH H0 r:=λr f=>(g.ra r f).tups kt0;have eR0:H0 R=some (.lst (rs.map λr=>V.ref r.x)):=X _ _ C g.eR;have ords:∀v∈[V.ref R,V.ref p1,V.ref p2],∃(O:qc)(qs:qa Rw),v=.ref O/\O≠A.st/\qs.Perm rs/\H0 O=some (.lst (qs.map λr=>V.ref r.x)):=λv I=>by
    simp only[qK,jv,lZ] at I;rcases I with h|h|h
    .exact⟨R,rs,h,C,.refl _,eR0⟩
    .exact⟨p1,rs.reverse,h,p1st,List.reverse_perm rs,t3 _ _ (x2 _ _ p1st ep1)⟩
    .exact⟨p2,ps,h,p2st,pps,t3 _ _ ep2⟩
   clear t1 ep1 p x2 sa2 ep2 wG2 t3 X kt0;refine⟨OL,U,⟨_,zN.of eOL⟩,YB (K:=K) (a:=OL) (xs:=[V.ref R,V.ref p1,V.ref p2]) (λi σ G=>∃(o5 o6 Y o8:Option V),σ=[some (.ref A.sc),some (.ref A.st),some (.ref A.s),some (.ref R),o4,o5,o6,Y,o8]/\SX A.st H0 G/\vu K G A ns D)
    ⟨none,none,none,none,U,SX.of (Qj.refl _),w0⟩ ?_ ?_ ?_⟩
   .rintro i σ G _ ⟨o5,o6,Y,o8,rfl,sx,_⟩;exact zN.of (sx _ _ OLst eOL)
   .rintro i v σ G I ⟨o5,o6,Y,o8,rfl,sx,wG⟩;obtain⟨O,qs,rfl,Ost,Z,eO⟩:=ords v (qM I);have eO:=sx _ _ Ost eO;have eR:=sx _ _ C eR0;obtain⟨sxG,QdE⟩:=wG.sa.lst;obtain⟨sxH,estH⟩:=w0.sa.lst;have ra:∀r∈rs,WH G r:=λr f=>(ra0 r f).tups λc ys e=>sx _ _ (λz=>by rw[z,estH] at e;cases e) e;have qnd:(putN qs).Nodup:=(EA Z).nodup_iff.mpr S;have q40:(putN qs).length<=40:=by rw[(EA Z).length_eq];exact h40
    have ql:qs.length<=60:=by rw[Z.length_eq];exact l60
    show Ua _ _ _ _ _;intro b db nb ndb nedb;refine⟨b,db,λ_=>[],D.words,Zp::D.words,D.words,U,zu ok.w5 (by decide),(by rw[qX];have:=ok.w5;omega),zu ok.w5 (by decide),Qc,λH5 Kb xr L xt xi xf k5 oz bd=>⟨U,?_⟩⟩;have s5:Qj G H5:=KL nb ndb k5;have old0:∀c o,G c=some o->Kb c=0:=λc o e=>oz c o (Qb e nb) (by rw[Qa (Qb e nb),Qa (Qb e ndb)];exact e);refine⟨_,U,O,U,⟨_,zN.of (s5 _ _ eO)⟩,YB (K:=K) (a:=O) (xs:=qs.map λr=>V.ref r.x) (λi σ J=>∃(own:qc->Nat)(ls:qa LE)(bx:Rows)(mk:qb->qe)(n:Nat)(Y:Option V),σ=[some (.ref A.sc),some (.ref A.st),some (.ref A.s),some (.ref R),o4,some (.ref O),some (.ref b),Y,o8]/\Qj G J/\(∀c o,G c=some o->own c=0)/\v8 a J own b db xr L xt xi xf (Q7 (qs.take i)) ls bx mk D.words (Zp::D.words) D.words n/\BI (qs.take i) ls bx mk/\n<=(putN (qs.take i)).length)
     ⟨Kb,[],[],λ_=>[],0,Y,U,s5,old0,bd,⟨λl hl=>(nomatch hl),λr f=>(nomatch f),λm=>Iff.rfl,λm hm=>(nomatch hm),λm hm=>(nomatch hm)⟩,za _⟩ ?_ ?_ ?_⟩
    .rintro i σ J _ ⟨own,ls,bx,mk,n,Y,rfl,s',_⟩;exact zN.of (s' _ _ eO)
    .rintro i v σ J I ⟨own,ls,bx,mk,n,Y,rfl,s',oz',bd',bi',hn'⟩;obtain⟨r,hri,rfl⟩:∃r,qs[i]?=some r/\v=V.ref r.x:=by
      rw[qQ] at I
      cases e:qs[i]? with
      |none=>rw[e] at I;cases I
      |some r=>rw[e] at I;exact⟨r,U,(qN I).symm⟩
     have et:qs.take (i+1)=qs.take i++[r]:=by rw[zm,hri];rfl
     have tk:∀x∈qs.take i++[r],x∈rs:=λx hx=>Z.mem_iff.mp (by rw[<-et] at hx;exact vn hx);have hil:i<qs.length:=(qW.mp hri).1;rw[et];refine⟨_,U,b,db,_,U,bd'.e,U,_,U,aX bd' bi' ((ra r (tk r (qx _ (qk.mpr rfl)))).tups λc ys e=>s' _ _ e) (λx hx=>ro x (tk x hx)) (by rw[<-et];exact jr (IE _) qnd) ok.w5 (by rw[q0];omega) hn' (by rw[<-et];exact zu (IE _).length_le q40) λH' own' ls' bx' mk' n' wM hn2 bi2 kB=>?_⟩;exact⟨own',ls',bx',mk',n',_,U,λc o e=>kB.k c o (s' c o e) (.inl (oz' c o e)),λc o e=>by rw[kB.g c o (s' c o e) (.inl (oz' c o e))];exact oz' c o e,wM,bi2,hn2⟩
    .rintro σ J ⟨own,ls,bx,mk,n,Y,rfl,s',oz',bd',bi',hn'⟩;rw[qh,ji] at bd' bi' hn';clear bd k5 oz s5 old0 eO;have bi:=bi'.perm Z g.sd;have wG':=wG.same s';have la:=bd'.reown (own':=oE own J) λc h=>bB h;have ost:oE own J A.st=7:=SH (oz' _ _ QdE) (s' _ _ QdE) rfl;have ra':∀r∈rs,WH J r:=λr f=>(ra r f).tups λc ys e=>s' _ _ e;have eR':=s' _ _ eR;have l63:rs.length<=63:=by omega
     show Ua _ _ _ _ _;refine⟨_,U,_,U,_,U,_,U,A,ns,D,_,_,b,db,xr,L,xt,xi,xf,_,ls,bx,mk,n,R,rs,U,wG',ok,hlen,la,bi,ost,eR',ra',ro,l63,S,h40,pws,λG2 x2 w2=>⟨_,U,QV ?_⟩⟩;have QdF:=s' _ _ QdE;have wM:=la.sx QdF ost x2;have Qbj:Q0 (oE own J) 7 J A.st=7:=by rw[Qq QdF];exact ost
     have ra2:∀r∈rs,WH G2 r:=λr f=>(ra' r f).tups λc ys e=>x2 _ _ (λz=>by rw[z,QdF] at e;cases e) e;have eR2:=x2 _ _ C eR';obtain⟨sx2,y⟩:=w2.sa.lst;generalize Q0 (oE own J) 7 J=QcD at wM Qbj;refine⟨_,U,_,U,_,U,_,U,A,ns,D,_,_,b,db,xr,L,xt,xi,xf,_,ls,bx,mk,n,R,rs,U,w2,ok,hlen,wM,bi,Qbj,eR2,ra2,ro,l63,S,h40,pws,λG3 x3 w3=>⟨_,U,QV ?_⟩⟩;have oU:=wM.sx y Qbj x3;have ra3:∀r∈rs,WH G3 r:=λr f=>(ra2 r f).tups λc ys e=>x3 _ _ (λz=>by rw[z,y] at e;cases e) e;have eR3:=x3 _ _ C eR2;generalize Q0 QcD 7 G2=own3 at oU;have Qda:SX A.st H0 G3:=((sx.trans (SX.of s')).trans x2).trans x3;have wwd:∀w∈D.words,Uz w:=λw hw=>(ok.ws w hw).1;have Qcy:∀w∈Zp::D.words,wN w:=λw hw=>(qK.mp hw).elim (λz=>by rw[z];exact λc hc=>aF c hc) λz=>(wwd w z).asc;obtain⟨Ff0,ff0,_,_⟩:=oU.f;have lnd:(ls.map LE.nm).Nodup:=oU.l.nd;have lk:oD D.words ls bx mk (Kh (Yu rs) rs) (QZ rs):=cW (λw hw=>Gz (wwd w hw)) Qcy ro bi S l63 h40 λm hm=>ff0.Qb6 hm;have lgd:∀l∈ls,XQ l.p.s l.p.t l.p.b l.p.d l.p.an:=λl hl=>(oU.l.at_ l hl).2;have Qdv:∀m∈ls.map LE.nm,wN m:=λm hm=>(pws m (bi.sJ hm).1).asc;refine⟨_,U,A.s,_,U,.inl ⟨_,Sum.inr Zq,.inl w3.e,U,Cc⟩,A.wl,U,⟨_,zN.of w3.ew⟩,YB (K:=K) (a:=A.wl) (xs:=D.words.map V.str) (λi σ G4=>∃o8:Option V,σ=[some (.ref A.sc),some (.ref A.st),some (.ref A.s),some (.ref R),o4,some (.ref O),some (.ref b),Y,o8]/\Qj G3 G4) ⟨_,U,Qj.refl _⟩ ?_ ?_ ?_⟩
     .rintro i σ G4 _ ⟨o8,rfl,s4⟩;exact zN.of (s4 _ _ w3.ew)
     .rintro i v σ G4 I ⟨o8,rfl,s4⟩;obtain⟨wd,rfl,hwi⟩:=Fn I;have hwd:=qM hwi;have bG:=oU.quiet s4;obtain⟨Fi,ix,oxi,_⟩:=id bG.i;obtain⟨dxi,E1,B1,exi⟩:=ix.obj;refine⟨_,U,b,_,db,_,_,U,bG.e,T.zp,T.yQ,U,xi,dxi,_,U,exi,U,_,U,xi,_,_,n,Fi,wd,U,ix,λl H' nl t' e'=>?_⟩;have sH:=s4.trans t';refine⟨_,U,R,rs,U,sH _ _ eR3,(λr f=>(ra3 r f).tups λc ys e=>sH _ _ e),l63,S,λt LL B kvs H1 s1 nL nB et eL eB hE=>⟨t,_,_,_,U,U,jW.of et,QB (j:=0) rfl,?_⟩⟩;have sH1:=sH.trans s1;refine⟨_,U,LL,_,ls,wd,U,eL,lk.nd,lk.x1,(λr f=>(ra3 r (qr.mp f).1).tups λc ys e=>sH1 _ _ e),lgd,lk.len,λl2 H'' nl2 s'' e2=>?_⟩;rw[lk.have lnd (Gz (wwd wd hwd))] at e2;refine VM (Y5 (zN.of (s'' _ _ (s1 _ _ e')))) (Y5 (zN.of e2)) (YO λm hm=>?_) ⟨_,U,QV ⟨_,U,(sH1.trans s'')⟩⟩;obtain⟨qq,hq,rfl⟩:=qj.mp (Yf.mp hm);obtain⟨l,hl,rfl⟩:=qj.mp (qr.mp hq).1;exact Qdv _ (zr hl)
     .rintro σ G4 ⟨o8,rfl,s4⟩;exact⟨_,_,_,_,U,Qda.trans (SX.of s4),w3.same s4⟩
   .rintro σ G ⟨o5,o6,Y,o8,rfl,sx,wG⟩;exact kq _
def tab:qa Tab:=[tF Jk Wt,
 tF JE GL,
 tF Jv W3,
 tF JF GN,
 tF Jw Ky,
 tF ZV V7,
 tF ZW V9,
 tF Jl Xq,
 tF Jx Kv,
 tF ZX V8,
 tF Jm Xs,
 tF JI BZ,
 tF Z8 GK,
 tF Jn BX,
 tF Jo GG,
 tF Z9 GI,
 tF ZK WK,
 tF ZP Xr,
 tF Jp BW,
 tF JZ GH,
 tF ZY Kw,
 tF ZI Vv,
 tF JJ GF,
 tF Ja XX,
 tF Z0 Kx,
 tF Jb XY,
 tF Jq BY,
 tF ZQ Vu,
 tF ZR Wo,
 tF Jc XW,
 tF Z1 W6,
 tF Jd GJ,
 tF ZD VB,
 tF Z2 W5,
 tF ZZj aV,
 tD (some Je) Zf "Card.__init__" Xw [Hd.bv (.str Zp),Hd.bv (.non)],
 tD (some Zm) Zf "Letter.__init__" Wc [Hd.bv (.str "")],
 tM Zm ZZk "Letter.twin" Wb,
 tM Zm ZZo "Letter.parts" VE,
 tM Zm ZZp "Letter.known" VF,
 tM Zm Zq "Letter.words" VD,
 tM Zb Zf "Folders.__init__" VI,
 tD (some Zb) JB "Folders.add" Wd [Hd.bv (.str Zp),Hd.bv (.non)],
 tM Zb Zo "Folders.take_out" Uo,
 tM Zb ZZc "Folders.put_in" UZ,
 tM Zb J0 "Folders.put_out" UD,
 tM Zb Zh "Folders.place" Vl,
 tM Zb Zd "Folders.mark" VH,
 tM Zb ZZd "Folders.unmark" UY,
 tM Zb Ze "Folders.folder" U0,
 tM Zb ZM "Folders.marks" Vn,
 tM Zb JW "Folders.counts" U1,
 tM Zb ZZe "Folders.marked" Uc,
 tM Zb Zl "Folders.names" Vm,
 tM Zb J1 "Folders.folders" UE,
 tM Zx Zf "Index.__init__" WN,
 tM Zx JB "Index.add" Xv,
 tM Zx Zo "Index.take_out" UX,
 tM Zx ZZf "Index.having" VG,
 tM Zk Zf "Registers.__init__" UW,
 tM Zk "keep" "Registers.keep" UU,
 tD (some Zk) "get" "Registers.get" Vk [Hd.bv (.non)],
 tM Zk J2 "Registers.keys_of" Y4,
 tM Zg Zf "Threads.__init__" VC,
 tD (some Zg) JB "Threads.add" Wa [Hd.bv (.str "")],
 tM Zg Zo "Threads.take_out" Um,
 tM Zg Zl "Threads.names" Vj,
 tM Zg ZZg "Threads.beside" UT,
 tM Zg ZZh "Threads.thread" Ub,
 tM Zg J3 "Threads.threads" UC,
 tM Zi Zf "Board.__init__" WQ,
 tM Zi "show" "Board.show" WO,
 tM Zi JV "Board.bring_in" YM,
 tM Zi JP "Board.marks_told" YR,
 tM Zi Zo "Board.take_out" U2,
 tM Zi ZZi "Board.change" VJ,
 tM Zi Zl "Board.names" We,
 tM Zi JR "Board.letter_at" UG,
 tM Zi "card" "Board.card" WR]
def obs(K:Frag):qa (Option (FuncData×Option (qg))×Bool)×Bool:=(tab.map λt=>Hd.see K (match t.1 with|none=>Hd.gl K t.2.1|some c=>findIn K (.ref (Hd.cl K c)) t.2.1) t.2.2.1,
 [decide ((Hd.gl K ZZl).map (Option.map Hd.uZ)=some (some (Hd.bv (.str JA)))),
  decide ((Hd.gl K ZZq).map (Option.map Hd.uZ)=some (some (Hd.bv (.str ZG)))),
  decide ((Hd.gl K ZZr).map (Option.map Hd.uZ)=some (some (Hd.bv (.int 20)))),
  decide ((Hd.gl K ZZm).map (Option.map Hd.uZ)=some (some (Hd.bv (.int 60)))),
  decide ((Hd.gl K ZZs).map (Option.map Hd.uZ)=some (some (Hd.bv (.int 400)))),
  decide ((Hd.gl K "LAST_DAY").map (Option.map Hd.uZ)=some (some (Hd.bv (.int 9999)))),
  decide ((Hd.gl K "SEEN").map (Option.map Hd.uZ)=some (some (Hd.bv (.str JO)))),
  decide (Hd.gl K "len"=some none),
  decide (Hd.gl K "range"=some none),
  decide (Hd.gl K "isinstance"=some none),
  decide (Hd.gl K "str"=some none),
  decide (Hd.gl K "int"=some none),
  decide (Hd.gl K "bool"=some none),
  decide (Hd.gl K "list"=some none),
  decide (Hd.gl K "tuple"=some none),
  decide (Hd.gl K "set"=some none),
  decide (Hd.gl K "all"=some none),
  decide (Hd.gl K "sorted"=some none),
  decide (Hd.gl K Je=some (some (.ref (Hd.cl K Je)))),
  plainGet K (Hd.cl K Je) Str.empty,
  hasDictIn K (Hd.cl K Je),
  plainOver K (Hd.cl K Je),
  decide (findIn K (.ref (Hd.cl K Je)) Jg=some (some (.builtin "object.__setattr__"))),
  makesIn K (Hd.cl K Je),
  keepIn K (.ref (Hd.cl K Je)),
  decide (findIn K (.ref (Hd.cl K Je)) Z7=some none),
  decide (findIn K (.ref (Hd.cl K Je)) "box"=some none),
  decide (findIn K (.ref (Hd.cl K Je)) Jr=some none),
  decide (Hd.gl K Zm=some (some (.ref (Hd.cl K Zm)))),
  plainGet K (Hd.cl K Zm) Str.empty,
  hasDictIn K (Hd.cl K Zm),
  plainOver K (Hd.cl K Zm),
  decide (findIn K (.ref (Hd.cl K Zm)) Jg=some (some (.builtin "object.__setattr__"))),
  makesIn K (Hd.cl K Zm),
  keepIn K (.ref (Hd.cl K Zm)),
  decide (findIn K (.ref (Hd.cl K Zm)) Z4=some none),
  decide (findIn K (.ref (Hd.cl K Zm)) Js=some none),
  decide (findIn K (.ref (Hd.cl K Zm)) JC=some none),
  decide (findIn K (.ref (Hd.cl K Zm)) JL=some none),
  decide (findIn K (.ref (Hd.cl K Zm)) Zr=some none),
  decide (findIn K (.ref (Hd.cl K Zm)) "found"=some none),
  decide (Hd.gl K Zb=some (some (.ref (Hd.cl K Zb)))),
  plainGet K (Hd.cl K Zb) Str.empty,
  hasDictIn K (Hd.cl K Zb),
  plainOver K (Hd.cl K Zb),
  decide (findIn K (.ref (Hd.cl K Zb)) Jg=some (some (.builtin "object.__setattr__"))),
  makesIn K (Hd.cl K Zb),
  keepIn K (.ref (Hd.cl K Zb)),
  decide (findIn K (.ref (Hd.cl K Zb)) Zw=some none),
  decide (findIn K (.ref (Hd.cl K Zb)) Jh=some none),
  decide (findIn K (.ref (Hd.cl K Zb)) JG=some none),
  decide (Hd.gl K Zx=some (some (.ref (Hd.cl K Zx)))),
  plainGet K (Hd.cl K Zx) Str.empty,
  hasDictIn K (Hd.cl K Zx),
  plainOver K (Hd.cl K Zx),
  decide (findIn K (.ref (Hd.cl K Zx)) Jg=some (some (.builtin "object.__setattr__"))),
  makesIn K (Hd.cl K Zx),
  keepIn K (.ref (Hd.cl K Zx)),
  decide (findIn K (.ref (Hd.cl K Zx)) ZA=some none),
  decide (findIn K (.ref (Hd.cl K Zx)) ZO=some none),
  decide (Hd.gl K Zk=some (some (.ref (Hd.cl K Zk)))),
  plainGet K (Hd.cl K Zk) Str.empty,
  hasDictIn K (Hd.cl K Zk),
  plainOver K (Hd.cl K Zk),
  decide (findIn K (.ref (Hd.cl K Zk)) Jg=some (some (.builtin "object.__setattr__"))),
  makesIn K (Hd.cl K Zk),
  keepIn K (.ref (Hd.cl K Zk)),
  decide (findIn K (.ref (Hd.cl K Zk)) JK=some none),
  decide (Hd.gl K Zg=some (some (.ref (Hd.cl K Zg)))),
  plainGet K (Hd.cl K Zg) Str.empty,
  hasDictIn K (Hd.cl K Zg),
  plainOver K (Hd.cl K Zg),
  decide (findIn K (.ref (Hd.cl K Zg)) Jg=some (some (.builtin "object.__setattr__"))),
  makesIn K (Hd.cl K Zg),
  keepIn K (.ref (Hd.cl K Zg)),
  decide (findIn K (.ref (Hd.cl K Zg)) ZT=some none),
  decide (findIn K (.ref (Hd.cl K Zg)) ZS=some none),
  decide (Hd.gl K Zi=some (some (.ref (Hd.cl K Zi)))),
  plainGet K (Hd.cl K Zi) Str.empty,
  hasDictIn K (Hd.cl K Zi),
  plainOver K (Hd.cl K Zi),
  decide (findIn K (.ref (Hd.cl K Zi)) Jg=some (some (.builtin "object.__setattr__"))),
  makesIn K (Hd.cl K Zi),
  keepIn K (.ref (Hd.cl K Zi)),
  decide (findIn K (.ref (Hd.cl K Zi)) Zv=some none),
  decide (findIn K (.ref (Hd.cl K Zi)) Zs=some none),
  decide (findIn K (.ref (Hd.cl K Zi)) Jt=some none),
  decide (findIn K (.ref (Hd.cl K Zi)) Jy=some none),
  decide (findIn K (.ref (Hd.cl K Zi)) ZZJ=some none)].all id)
def good:qa (Option (FuncData×Option (qg))×Bool)×Bool:=(tab.map λt=>(some (Hd.sT t.2.1 t.2.2.1 t.2.2.2.1,t.2.2.2.2),true),true)
def all_mk{l:PySem.W.OpenLaw}{h:Heap}{fa:qc}(X:K.In h)(E:obs K=good)(G:h.Ns mainGlobals mg)(hfa:mg ZZj=some (.ref fa)) :
 ∃fd:FuncData,(∀(s:Shared)(v:qd),BindsTo s fd ⟨[v],[]⟩ [(ZF,v)])/\∀base:Heap,K.In base->base.Ns mainGlobals mg->QQ l.prog w K mg base j6 60 fa fd [ZF] (Qa6 K):=by
 have b:=zQ Prod.fst E;have a:=zQ Prod.snd E;obtain⟨a1,k1,i1,_,F1⟩:=Hd.qZ (Hd.zx b 0 rfl rfl);obtain⟨a2,k2,i2,_,F2⟩:=Hd.qZ (Hd.zx b 1 rfl rfl);obtain⟨a3,k3,i3,_,F3⟩:=Hd.qZ (Hd.zx b 2 rfl rfl);obtain⟨a4,k4,i4,_,F4⟩:=Hd.qZ (Hd.zx b 3 rfl rfl);obtain⟨a5,k5,i5,_,F5⟩:=Hd.qZ (Hd.zx b 4 rfl rfl);obtain⟨a6,k6,i6,_,F6⟩:=Hd.qZ (Hd.zx b 5 rfl rfl);obtain⟨a7,k7,i7,_,F7⟩:=Hd.qZ (Hd.zx b 6 rfl rfl);obtain⟨a8,k8,i8,_,F8⟩:=Hd.qZ (Hd.zx b 7 rfl rfl);obtain⟨a9,k9,i9,_,F9⟩:=Hd.qZ (Hd.zx b 8 rfl rfl);obtain⟨a10,k10,i10,_,n⟩:=Hd.qZ (Hd.zx b 9 rfl rfl);obtain⟨a11,k11,i11,_,o⟩:=Hd.qZ (Hd.zx b 10 rfl rfl);obtain⟨a12,k12,i12,_,p⟩:=Hd.qZ (Hd.zx b 11 rfl rfl);obtain⟨a13,k13,i13,_,q⟩:=Hd.qZ (Hd.zx b 12 rfl rfl);obtain⟨a14,k14,i14,_,r⟩:=Hd.qZ (Hd.zx b 13 rfl rfl);obtain⟨a15,k15,i15,_,t⟩:=Hd.qZ (Hd.zx b 14 rfl rfl);obtain⟨a16,k16,i16,_,u⟩:=Hd.qZ (Hd.zx b 15 rfl rfl);obtain⟨a17,k17,i17,_,x⟩:=Hd.qZ (Hd.zx b 16 rfl rfl);obtain⟨a18,k18,i18,_,y⟩:=Hd.qZ (Hd.zx b 17 rfl rfl);obtain⟨a19,k19,i19,_,z⟩:=Hd.qZ (Hd.zx b 18 rfl rfl);obtain⟨a20,k20,i20,_,B⟩:=Hd.qZ (Hd.zx b 19 rfl rfl);obtain⟨a21,k21,i21,_,C⟩:=Hd.qZ (Hd.zx b 20 rfl rfl);obtain⟨a22,k22,i22,_,D⟩:=Hd.qZ (Hd.zx b 21 rfl rfl);obtain⟨a23,k23,i23,_,F⟩:=Hd.qZ (Hd.zx b 22 rfl rfl);obtain⟨a24,k24,i24,_,H⟩:=Hd.qZ (Hd.zx b 23 rfl rfl);obtain⟨a25,k25,i25,_,I⟩:=Hd.qZ (Hd.zx b 24 rfl rfl);obtain⟨a26,k26,i26,_,J⟩:=Hd.qZ (Hd.zx b 25 rfl rfl);obtain⟨a27,k27,i27,_,L⟩:=Hd.qZ (Hd.zx b 26 rfl rfl);obtain⟨a28,k28,i28,_,M⟩:=Hd.qZ (Hd.zx b 27 rfl rfl);obtain⟨a29,k29,i29,_,N⟩:=Hd.qZ (Hd.zx b 28 rfl rfl);obtain⟨a30,k30,i30,_,O⟩:=Hd.qZ (Hd.zx b 29 rfl rfl);obtain⟨a31,k31,i31,_,P⟩:=Hd.qZ (Hd.zx b 30 rfl rfl);obtain⟨a32,k32,i32,_,Q⟩:=Hd.qZ (Hd.zx b 31 rfl rfl);obtain⟨a33,k33,i33,_,R⟩:=Hd.qZ (Hd.zx b 32 rfl rfl);obtain⟨a34,k34,i34,_,S⟩:=Hd.qZ (Hd.zx b 33 rfl rfl);obtain⟨a35,k35,i35,_,g⟩:=Hd.qZ (Hd.zx b 34 rfl rfl);obtain⟨a36,k36,i36,D36,kV36,dc36,pm36,an36,cd36,ct36,o36,it36,Dn36,F36,i,j,m36⟩:=Hd.uW (Hd.zx b 35 rfl rfl);obtain⟨dv36_0,dv36_1,rfl,Qdl,Qb2⟩:=Hd.map2 m36;obtain⟨a37,k37,i37,D37,kV37,dc37,pm37,an37,cd37,ct37,o37,it37,Dn37,F37,V,Y,m37⟩:=Hd.uW (Hd.zx b 36 rfl rfl);obtain⟨dv37_0,rfl,Qdk⟩:=Hd.Qdr m37;obtain⟨a38,k38,i38,_,Z⟩:=Hd.qZ (Hd.zx b 37 rfl rfl);obtain⟨a39,k39,i39,_,F39⟩:=Hd.qZ (Hd.zx b 38 rfl rfl);obtain⟨a40,k40,i40,_,F40⟩:=Hd.qZ (Hd.zx b 39 rfl rfl);obtain⟨a41,k41,i41,_,F41⟩:=Hd.qZ (Hd.zx b 40 rfl rfl);obtain⟨a42,k42,i42,_,F42⟩:=Hd.qZ (Hd.zx b 41 rfl rfl);obtain⟨a43,k43,i43,D43,kV43,dc43,pm43,an43,cd43,ct43,o43,it43,Dn43,F43,k,m,m43⟩:=Hd.uW (Hd.zx b 42 rfl rfl);obtain⟨dv43_0,dv43_1,rfl,Qdj,Qb1⟩:=Hd.map2 m43;obtain⟨a44,k44,i44,_,F44⟩:=Hd.qZ (Hd.zx b 43 rfl rfl);obtain⟨a45,k45,i45,_,F45⟩:=Hd.qZ (Hd.zx b 44 rfl rfl);obtain⟨a46,k46,i46,_,F46⟩:=Hd.qZ (Hd.zx b 45 rfl rfl);obtain⟨a47,k47,i47,_,F47⟩:=Hd.qZ (Hd.zx b 46 rfl rfl);obtain⟨a48,k48,i48,_,F48⟩:=Hd.qZ (Hd.zx b 47 rfl rfl);obtain⟨a49,k49,i49,_,F49⟩:=Hd.qZ (Hd.zx b 48 rfl rfl);obtain⟨a50,k50,i50,_,F50⟩:=Hd.qZ (Hd.zx b 49 rfl rfl);obtain⟨a51,k51,i51,_,F51⟩:=Hd.qZ (Hd.zx b 50 rfl rfl);obtain⟨a52,k52,i52,_,F52⟩:=Hd.qZ (Hd.zx b 51 rfl rfl);obtain⟨a53,k53,i53,_,F53⟩:=Hd.qZ (Hd.zx b 52 rfl rfl);obtain⟨a54,k54,i54,_,F54⟩:=Hd.qZ (Hd.zx b 53 rfl rfl);obtain⟨a55,k55,i55,_,F55⟩:=Hd.qZ (Hd.zx b 54 rfl rfl);obtain⟨a56,k56,i56,_,F56⟩:=Hd.qZ (Hd.zx b 55 rfl rfl);obtain⟨a57,k57,i57,_,F57⟩:=Hd.qZ (Hd.zx b 56 rfl rfl);obtain⟨a58,k58,i58,_,F58⟩:=Hd.qZ (Hd.zx b 57 rfl rfl);obtain⟨a59,k59,i59,_,F59⟩:=Hd.qZ (Hd.zx b 58 rfl rfl);obtain⟨a60,k60,i60,_,F60⟩:=Hd.qZ (Hd.zx b 59 rfl rfl);obtain⟨a61,k61,i61,_,F61⟩:=Hd.qZ (Hd.zx b 60 rfl rfl);obtain⟨a62,k62,i62,D62,kV62,dc62,pm62,an62,cd62,ct62,o62,it62,Dn62,F62,t62,s62,m62⟩:=Hd.uW (Hd.zx b 61 rfl rfl);obtain⟨dv62_0,rfl,Qdi⟩:=Hd.Qdr m62;obtain⟨a63,k63,i63,_,F63⟩:=Hd.qZ (Hd.zx b 62 rfl rfl);obtain⟨a64,k64,i64,_,F64⟩:=Hd.qZ (Hd.zx b 63 rfl rfl);obtain⟨a65,k65,i65,D65,kV65,dc65,pm65,an65,cd65,ct65,o65,it65,Dn65,F65,t65,s65,m65⟩:=Hd.uW (Hd.zx b 64 rfl rfl);obtain⟨dv65_0,rfl,Qdh⟩:=Hd.Qdr m65;obtain⟨a66,k66,i66,_,F66⟩:=Hd.qZ (Hd.zx b 65 rfl rfl);obtain⟨a67,k67,i67,_,F67⟩:=Hd.qZ (Hd.zx b 66 rfl rfl);obtain⟨a68,k68,i68,_,F68⟩:=Hd.qZ (Hd.zx b 67 rfl rfl);obtain⟨a69,k69,i69,_,F69⟩:=Hd.qZ (Hd.zx b 68 rfl rfl);obtain⟨a70,k70,i70,_,F70⟩:=Hd.qZ (Hd.zx b 69 rfl rfl);obtain⟨a71,k71,i71,_,F71⟩:=Hd.qZ (Hd.zx b 70 rfl rfl);obtain⟨a72,k72,i72,_,F72⟩:=Hd.qZ (Hd.zx b 71 rfl rfl);obtain⟨a73,k73,i73,_,F73⟩:=Hd.qZ (Hd.zx b 72 rfl rfl);obtain⟨a74,k74,i74,_,F74⟩:=Hd.qZ (Hd.zx b 73 rfl rfl);obtain⟨a75,k75,i75,_,F75⟩:=Hd.qZ (Hd.zx b 74 rfl rfl);obtain⟨a76,k76,i76,_,F76⟩:=Hd.qZ (Hd.zx b 75 rfl rfl);obtain⟨a77,k77,i77,_,F77⟩:=Hd.qZ (Hd.zx b 76 rfl rfl);obtain⟨a78,k78,i78,_,F78⟩:=Hd.qZ (Hd.zx b 77 rfl rfl);obtain⟨a79,k79,i79,_,F79⟩:=Hd.qZ (Hd.zx b 78 rfl rfl);have e:Value.ref fa=.ref (Hd.zM (Hd.gl K ZZj)):=qN (hfa.symm.trans (mg_of X G a35))
 injection e with e
 subst e
 let A:yL:=⟨Hd.zM (Hd.gl K Jk),Hd.zM (Hd.gl K JE),Hd.zM (Hd.gl K Jv),Hd.zM (Hd.gl K JF),Hd.zM (Hd.gl K Jw),Hd.zM (Hd.gl K ZV),Hd.zM (Hd.gl K ZW),Hd.zM (Hd.gl K Jl),Hd.zM (Hd.gl K Jx),Hd.zM (Hd.gl K ZX),Hd.zM (Hd.gl K Jm),Hd.zM (Hd.gl K JI),Hd.zM (Hd.gl K Z8),Hd.zM (Hd.gl K Jn),Hd.zM (Hd.gl K Jo),Hd.zM (Hd.gl K Z9),Hd.zM (Hd.gl K ZK),Hd.zM (Hd.gl K ZP),Hd.zM (Hd.gl K Jp),Hd.zM (Hd.gl K JZ),Hd.zM (Hd.gl K ZY),Hd.zM (Hd.gl K ZI),Hd.zM (Hd.gl K JJ),Hd.zM (Hd.gl K Ja),Hd.zM (Hd.gl K Z0),Hd.zM (Hd.gl K Jb),Hd.zM (Hd.gl K Jq),Hd.zM (Hd.gl K ZQ),Hd.zM (Hd.gl K ZR),Hd.zM (Hd.gl K Jc),Hd.zM (Hd.gl K Z1),Hd.zM (Hd.gl K Jd),Hd.zM (Hd.gl K ZD),Hd.zM (Hd.gl K Z2),Hd.zM (Hd.gl K ZZj),Hd.zM (findIn K (.ref (Hd.cl K Je)) Zf),Hd.zM (findIn K (.ref (Hd.cl K Zm)) Zf),Hd.zM (findIn K (.ref (Hd.cl K Zm)) ZZk),Hd.zM (findIn K (.ref (Hd.cl K Zm)) ZZo),Hd.zM (findIn K (.ref (Hd.cl K Zm)) ZZp),Hd.zM (findIn K (.ref (Hd.cl K Zm)) Zq),Hd.zM (findIn K (.ref (Hd.cl K Zb)) Zf),Hd.zM (findIn K (.ref (Hd.cl K Zb)) JB),Hd.zM (findIn K (.ref (Hd.cl K Zb)) Zo),Hd.zM (findIn K (.ref (Hd.cl K Zb)) ZZc),Hd.zM (findIn K (.ref (Hd.cl K Zb)) J0),Hd.zM (findIn K (.ref (Hd.cl K Zb)) Zh),Hd.zM (findIn K (.ref (Hd.cl K Zb)) Zd),Hd.zM (findIn K (.ref (Hd.cl K Zb)) ZZd),Hd.zM (findIn K (.ref (Hd.cl K Zb)) Ze),Hd.zM (findIn K (.ref (Hd.cl K Zb)) ZM),Hd.zM (findIn K (.ref (Hd.cl K Zb)) JW),Hd.zM (findIn K (.ref (Hd.cl K Zb)) ZZe),Hd.zM (findIn K (.ref (Hd.cl K Zb)) Zl),Hd.zM (findIn K (.ref (Hd.cl K Zb)) J1),Hd.zM (findIn K (.ref (Hd.cl K Zx)) Zf),Hd.zM (findIn K (.ref (Hd.cl K Zx)) JB),Hd.zM (findIn K (.ref (Hd.cl K Zx)) Zo),Hd.zM (findIn K (.ref (Hd.cl K Zx)) ZZf),Hd.zM (findIn K (.ref (Hd.cl K Zk)) Zf),Hd.zM (findIn K (.ref (Hd.cl K Zk)) "keep"),Hd.zM (findIn K (.ref (Hd.cl K Zk)) "get"),Hd.zM (findIn K (.ref (Hd.cl K Zk)) J2),Hd.zM (findIn K (.ref (Hd.cl K Zg)) Zf),Hd.zM (findIn K (.ref (Hd.cl K Zg)) JB),Hd.zM (findIn K (.ref (Hd.cl K Zg)) Zo),Hd.zM (findIn K (.ref (Hd.cl K Zg)) Zl),Hd.zM (findIn K (.ref (Hd.cl K Zg)) ZZg),Hd.zM (findIn K (.ref (Hd.cl K Zg)) ZZh),Hd.zM (findIn K (.ref (Hd.cl K Zg)) J3),Hd.zM (findIn K (.ref (Hd.cl K Zi)) Zf),Hd.zM (findIn K (.ref (Hd.cl K Zi)) "show"),Hd.zM (findIn K (.ref (Hd.cl K Zi)) JV),Hd.zM (findIn K (.ref (Hd.cl K Zi)) JP),Hd.zM (findIn K (.ref (Hd.cl K Zi)) Zo),Hd.zM (findIn K (.ref (Hd.cl K Zi)) ZZi),Hd.zM (findIn K (.ref (Hd.cl K Zi)) Zl),Hd.zM (findIn K (.ref (Hd.cl K Zi)) JR),Hd.zM (findIn K (.ref (Hd.cl K Zi)) "card"),Hd.cl K Je,Hd.cl K Zm,Hd.cl K Zb,Hd.cl K Zx,Hd.cl K Zk,Hd.cl K Zg,Hd.cl K Zi⟩
 have T:Txt K mg A:=⟨mg_of X G a1,
  mg_of X G a2,
  mg_of X G a3,
  mg_of X G a4,
  mg_of X G a5,
  mg_of X G a6,
  mg_of X G a7,
  mg_of X G a8,
  mg_of X G a9,
  mg_of X G a10,
  mg_of X G a11,
  mg_of X G a12,
  mg_of X G a13,
  mg_of X G a14,
  mg_of X G a15,
  mg_of X G a16,
  mg_of X G a17,
  mg_of X G a18,
  mg_of X G a19,
  mg_of X G a20,
  mg_of X G a21,
  mg_of X G a22,
  mg_of X G a23,
  mg_of X G a24,
  mg_of X G a25,
  mg_of X G a26,
  mg_of X G a27,
  mg_of X G a28,
  mg_of X G a29,
  mg_of X G a30,
  mg_of X G a31,
  mg_of X G a32,
  mg_of X G a33,
  mg_of X G a34,
  Hd.vU X G (qo (Hd.q8 a 0 rfl)),
  Hd.vU X G (qo (Hd.q8 a 1 rfl)),
  Hd.vU X G (qo (Hd.q8 a 2 rfl)),
  Hd.vU X G (qo (Hd.q8 a 3 rfl)),
  Hd.vU X G (qo (Hd.q8 a 4 rfl)),
  Hd.vU X G (qo (Hd.q8 a 5 rfl)),
  Hd.vU X G (qo (Hd.q8 a 6 rfl)),
  mg_none_of X G (qo (Hd.q8 a 7 rfl)),
  mg_none_of X G (qo (Hd.q8 a 8 rfl)),
  mg_none_of X G (qo (Hd.q8 a 9 rfl)),
  mg_none_of X G (qo (Hd.q8 a 10 rfl)),
  mg_none_of X G (qo (Hd.q8 a 11 rfl)),
  mg_none_of X G (qo (Hd.q8 a 12 rfl)),
  mg_none_of X G (qo (Hd.q8 a 13 rfl)),
  mg_none_of X G (qo (Hd.q8 a 14 rfl)),
  mg_none_of X G (qo (Hd.q8 a 15 rfl)),
  mg_none_of X G (qo (Hd.q8 a 16 rfl)),
  mg_none_of X G (qo (Hd.q8 a 17 rfl)),
  mg_of X G (qo (Hd.q8 a 18 rfl)),
  ⟨(Hd.q8 a 19 rfl),(Hd.q8 a 20 rfl),(Hd.q8 a 21 rfl),(qo (Hd.q8 a 22 rfl))⟩,
  ⟨(Hd.q8 a 23 rfl),a36,i36,(Hd.q8 a 24 rfl)⟩,
  (Hd.xg (Hd.q8 a 25 rfl)),
  (Hd.xg (Hd.q8 a 26 rfl)),
  (Hd.xg (Hd.q8 a 27 rfl)),
  mg_of X G (qo (Hd.q8 a 28 rfl)),
  ⟨(Hd.q8 a 29 rfl),(Hd.q8 a 30 rfl),(Hd.q8 a 31 rfl),(qo (Hd.q8 a 32 rfl))⟩,
  ⟨(Hd.q8 a 33 rfl),a37,i37,(Hd.q8 a 34 rfl)⟩,
  ⟨a38,i38,k38⟩,
  ⟨a39,i39,k39⟩,
  ⟨a40,i40,k40⟩,
  ⟨a41,i41,k41⟩,
  (Hd.xg (Hd.q8 a 35 rfl)),
  (Hd.xg (Hd.q8 a 36 rfl)),
  (Hd.xg (Hd.q8 a 37 rfl)),
  (Hd.xg (Hd.q8 a 38 rfl)),
  (Hd.xg (Hd.q8 a 39 rfl)),
  (Hd.xg (Hd.q8 a 40 rfl)),
  mg_of X G (qo (Hd.q8 a 41 rfl)),
  ⟨(Hd.q8 a 42 rfl),(Hd.q8 a 43 rfl),(Hd.q8 a 44 rfl),(qo (Hd.q8 a 45 rfl))⟩,
  ⟨(Hd.q8 a 46 rfl),a42,i42,(Hd.q8 a 47 rfl)⟩,
  ⟨a43,i43,k43⟩,
  ⟨a44,i44,k44⟩,
  ⟨a45,i45,k45⟩,
  ⟨a46,i46,k46⟩,
  ⟨a47,i47,k47⟩,
  ⟨a48,i48,k48⟩,
  ⟨a49,i49,k49⟩,
  ⟨a50,i50,k50⟩,
  ⟨a51,i51,k51⟩,
  ⟨a52,i52,k52⟩,
  ⟨a53,i53,k53⟩,
  ⟨a54,i54,k54⟩,
  ⟨a55,i55,k55⟩,
  (Hd.xg (Hd.q8 a 48 rfl)),
  (Hd.xg (Hd.q8 a 49 rfl)),
  (Hd.xg (Hd.q8 a 50 rfl)),
  mg_of X G (qo (Hd.q8 a 51 rfl)),
  ⟨(Hd.q8 a 52 rfl),(Hd.q8 a 53 rfl),(Hd.q8 a 54 rfl),(qo (Hd.q8 a 55 rfl))⟩,
  ⟨(Hd.q8 a 56 rfl),a56,i56,(Hd.q8 a 57 rfl)⟩,
  ⟨a57,i57,k57⟩,
  ⟨a58,i58,k58⟩,
  ⟨a59,i59,k59⟩,
  (Hd.xg (Hd.q8 a 58 rfl)),
  (Hd.xg (Hd.q8 a 59 rfl)),
  mg_of X G (qo (Hd.q8 a 60 rfl)),
  ⟨(Hd.q8 a 61 rfl),(Hd.q8 a 62 rfl),(Hd.q8 a 63 rfl),(qo (Hd.q8 a 64 rfl))⟩,
  ⟨(Hd.q8 a 65 rfl),a60,i60,(Hd.q8 a 66 rfl)⟩,
  ⟨a61,i61,k61⟩,
  ⟨a62,i62,k62⟩,
  ⟨a63,i63,k63⟩,
  (Hd.xg (Hd.q8 a 67 rfl)),
  mg_of X G (qo (Hd.q8 a 68 rfl)),
  ⟨(Hd.q8 a 69 rfl),(Hd.q8 a 70 rfl),(Hd.q8 a 71 rfl),(qo (Hd.q8 a 72 rfl))⟩,
  ⟨(Hd.q8 a 73 rfl),a64,i64,(Hd.q8 a 74 rfl)⟩,
  ⟨a65,i65,k65⟩,
  ⟨a66,i66,k66⟩,
  ⟨a67,i67,k67⟩,
  ⟨a68,i68,k68⟩,
  ⟨a69,i69,k69⟩,
  ⟨a70,i70,k70⟩,
  (Hd.xg (Hd.q8 a 75 rfl)),
  (Hd.xg (Hd.q8 a 76 rfl)),
  mg_of X G (qo (Hd.q8 a 77 rfl)),
  ⟨(Hd.q8 a 78 rfl),(Hd.q8 a 79 rfl),(Hd.q8 a 80 rfl),(qo (Hd.q8 a 81 rfl))⟩,
  ⟨(Hd.q8 a 82 rfl),a71,i71,(Hd.q8 a 83 rfl)⟩,
  ⟨a72,i72,k72⟩,
  ⟨a73,i73,k73⟩,
  ⟨a74,i74,k74⟩,
  ⟨a75,i75,k75⟩,
  ⟨a76,i76,k76⟩,
  ⟨a77,i77,k77⟩,
  ⟨a78,i78,k78⟩,
  ⟨a79,i79,k79⟩,
  (Hd.xg (Hd.q8 a 84 rfl)),
  (Hd.xg (Hd.q8 a 85 rfl)),
  (Hd.xg (Hd.q8 a 86 rfl)),
  (Hd.xg (Hd.q8 a 87 rfl)),
  (Hd.xg (Hd.q8 a 88 rfl))⟩
 have FF:YC K A:=⟨⟨_,F1,F1.wM⟩,⟨_,F2,F2.la⟩,⟨_,F3,F3.la⟩,⟨_,F4,F4.wM⟩,⟨_,F5,F5.la⟩,⟨_,F6,F6.la⟩,⟨_,F7,F7.bd5⟩,⟨_,F8,F8.la⟩,⟨_,F9,F9.la⟩,⟨_,n,n.wM⟩,⟨_,o,o.wM⟩,⟨_,p,p.la⟩,⟨_,q,q.la⟩,⟨_,r,r.la⟩,⟨_,t,t.oU⟩,⟨_,u,u.wM⟩,⟨_,x,x.wM⟩,⟨_,y,y.wM⟩,⟨_,z,z.wM⟩,⟨_,B,B.oU⟩,⟨_,C,C.oU⟩,⟨_,D,D.oU⟩,⟨_,F,F.wM⟩,⟨_,H,H.la⟩,⟨_,I,I.wM⟩,⟨_,J,J.wM⟩,⟨_,L,L.oU⟩,⟨_,M,M.la⟩,⟨_,N,N.wM⟩,⟨_,O,O.la⟩,⟨_,P,P.wM⟩,⟨_,Q,Q.oU⟩,⟨_,R,R.wM⟩,⟨_,S,S.bd4⟩,⟨_,g,g.la⟩,⟨_,F36,(λs us f d=>have c:us.length=4:=(by simpa using d);(by clear d;revert c;revert us;refine aN ?_;intros;exact binds_K f rfl i j rfl rfl)),⟨_,(.cons (Hd.xn Qdl) (.cons (Hd.xn Qb2) .nil)),(λs us f d=>have c:us.length=2:=(by simpa using d);(by clear d;revert c;revert us;refine O1 ?_;intros;exact binds_K f rfl i j rfl rfl))⟩,⟨_,(.cons (Hd.xn Qb2) .nil),(λs us f d=>have c:us.length=3:=(by simpa using d);(by clear d;revert c;revert us;refine O0 ?_;intros;exact binds_K f rfl i j rfl rfl))⟩⟩,⟨_,F37,(λs us f d=>have c:us.length=6:=(by simpa using d);(by clear d;revert c;revert us;refine us_6 ?_;intros;exact binds_K f rfl V Y rfl rfl)),⟨_,(.cons (Hd.xn Qdk) .nil),(λs us f d=>have c:us.length=5:=(by simpa using d);(by clear d;revert c;revert us;refine dq ?_;intros;exact binds_K f rfl V Y rfl rfl))⟩⟩,⟨_,Z,Z.la⟩,⟨_,F39,F39.la⟩,⟨_,F40,F40.la⟩,⟨_,F41,F41.la⟩,⟨_,F42,F42.la⟩,⟨_,F43,(λs us f d=>have c:us.length=4:=(by simpa using d);(by clear d;revert c;revert us;refine aN ?_;intros;exact binds_K f rfl k m rfl rfl)),⟨_,(.cons (Hd.xn Qdj) (.cons (Hd.xn Qb1) .nil)),(λs us f d=>have c:us.length=2:=(by simpa using d);(by clear d;revert c;revert us;refine O1 ?_;intros;exact binds_K f rfl k m rfl rfl))⟩,⟨_,(.cons (Hd.xn Qb1) .nil),(λs us f d=>have c:us.length=3:=(by simpa using d);(by clear d;revert c;revert us;refine O0 ?_;intros;exact binds_K f rfl k m rfl rfl))⟩⟩,⟨_,F44,F44.wM⟩,⟨_,F45,F45.oU⟩,⟨_,F46,F46.wM⟩,⟨_,F47,F47.oU⟩,⟨_,F48,F48.oU⟩,⟨_,F49,F49.oU⟩,⟨_,F50,F50.wM⟩,⟨_,F51,F51.wM⟩,⟨_,F52,F52.wM⟩,⟨_,F53,F53.oU⟩,⟨_,F54,F54.wM⟩,⟨_,F55,F55.la⟩,⟨_,F56,F56.la⟩,⟨_,F57,F57.oU⟩,⟨_,F58,F58.wM⟩,⟨_,F59,F59.wM⟩,⟨_,F60,F60.la⟩,⟨_,F61,F61.bd4⟩,⟨_,F62,(λs us f d=>have c:us.length=3:=(by simpa using d);(by clear d;revert c;revert us;refine O0 ?_;intros;exact binds_K f rfl t62 s62 rfl rfl)),⟨_,(.cons (Hd.xn Qdi) .nil),(λs us f d=>have c:us.length=2:=(by simpa using d);(by clear d;revert c;revert us;refine O1 ?_;intros;exact binds_K f rfl t62 s62 rfl rfl))⟩⟩,⟨_,F63,F63.wM⟩,⟨_,F64,F64.la⟩,⟨_,F65,(λs us f d=>have c:us.length=3:=(by simpa using d);(by clear d;revert c;revert us;refine O0 ?_;intros;exact binds_K f rfl t65 s65 rfl rfl)),⟨_,(.cons (Hd.xn Qdh) .nil),(λs us f d=>have c:us.length=2:=(by simpa using d);(by clear d;revert c;revert us;refine O1 ?_;intros;exact binds_K f rfl t65 s65 rfl rfl))⟩⟩,⟨_,F66,F66.wM⟩,⟨_,F67,F67.la⟩,⟨_,F68,F68.wM⟩,⟨_,F69,F69.wM⟩,⟨_,F70,F70.la⟩,⟨_,F71,F71.la⟩,⟨_,F72,F72.wM⟩,⟨_,F73,F73.wM⟩,⟨_,F74,F74.wM⟩,⟨_,F75,F75.wM⟩,⟨_,F76,F76.wM⟩,⟨_,F77,F77.la⟩,⟨_,F78,F78.wM⟩,⟨_,F79,F79.wM⟩⟩;obtain⟨_,_,kV,doc,pm,an,cdv,ct,_,rfl,_,_⟩:=g.ex;exact⟨_,λs v=>.of_eq rfl,λbase _ _=>fv g T FF⟩
abbrev PP:Program:=PySem.Challenge.pw_mailroom_k52_whole_any_order
def loose:qe:=(["_wall","Card","MailError","NoLetter","NoName","WORD_SIGNS","RUN_SIGNS","MOST_WORD","all_among","is_word","words_of","MOST_TITLE","MOST_BODY","LAST_DAY","is_text","is_whole","is_answered","check_parts","Letter","letter_of","stamp_of","check_there","check_new","SEEN","Folders","Index","Registers","Threads","key_of","Board","_law_begin","_law_next","_law_word","_law_hands","_law_shuffled","_law_by_stamp","_law_word_by","_law_text","_law_named","_law_put_by","_law_stamped","_law_world","_law_plain","_law_folder","_law_marks","_law_hang","_law_threads","_law_folders","_law_words","_law_having","_law_cards","_law_names_told","_law_looked"]:qa String).map Str.ofString
def seen(w:World)(os:OsState):(Hd.oY (Hd.Qa5 Hd.QcL PP w) (Hd.okQ 11 (some (.ref 6))) 20000 (Hd.S0 w os) (PySem.W.topStub PP)).map (λs=>(Hd.chk PP w.params s.abs,Hd.seenQ (view PP [65]) loose (PySem.importedModules PP.main.body) (λs=>PySem.W.recOk [] s) true s.abs,obs (Hd.Qae s)))=some (true,PySem.W.openGood (view PP [65]) loose,good):=by kernel_rfl
def look:PySem.W.Fast.tw9446332074065402090 PySem.Challenge.rw_mailroom_k52_whole_any_order=true:=by kernel_rfl
def opens:PySem.W.opening PP=PySem.W.plainProg PP.main.scope.names:=by kernel_rfl
def fence(s:Shared):fenceModules? PP s=some s:=by kernel_rfl
end K52
open PySem PySem.W PyProof.Rows
set_option maxRecDepth 100000 in
set_option maxHeartbeats 0 in
theorem PySem.Challenge.cw_mailroom_k52_whole_any_order_holds : PySem.Challenge.rw_mailroom_k52_whole_any_order.Holds := by
 refine Hd.close (q:=view K52.PP [65]) (loose:=K52.loose) (N:=20000) (obs:=K52.obs) (good:=K52.good) K52.look K52.opens rfl K52.fence K52.seen rfl rfl rfl rfl (by decide +kernel) ⟨rfl,rfl,rfl,rfl,rfl,by decide +kernel⟩ ?hw ?hc
 case hw=>w_witness2
 case hc=>exact Hd.walk (n:=63) (k:=60) (x:="_law_script") (sp:=K52.Qa6) rfl (by decide) rfl ⟨rfl,by decide,by decide,rfl⟩ (fun w K mg fa h KX y G hmg=>K52.all_mk KX y G hmg) (fun _ _ a ns hl _ hS=>⟨a,ns,rfl,hS,hl,fun _=>rfl⟩)
#print axioms PySem.Challenge.cw_mailroom_k52_whole_any_order_holds
